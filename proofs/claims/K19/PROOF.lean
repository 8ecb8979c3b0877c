import PyProof.Rows.All
import Wide.All
import OpenK.AllK
import Wide.FinOn
import Lean
import PyProof.EqAt
import PyProof.EqKinds
import PyProof.TupleCall
import KE.KTryMore
import KE.KDictOf
import PyProof.AttrMissHeap
import PyProof.Seq
import PyProof.Rows.Tup
import KE.KDictSum
import PyProof.Rows.SortWalk
import PyProof.EnumStmt
import PyProof.EnumMake
import PyProof.EnumFor
import PyProof.Rows.Range3
import PyProof.ReprRoads
import PyProof.Rows.MinMaxN
import KE.KMinBuiltin
import PyProof.Rows.CallKwBuiltin
import KE.KTabLook
import KE.KDictList
import PyProof.ListRange
import PyProof.ZipIter
import PyProof.Draws
import PyProof.StrLoop
import PyProof.ListNew
import PyProof.CollectWalk
import KE.LcSums
import KE.KIntText
import PyProof.Rows.StrIndexOr
import PyProof.FString5
import PyProof.StrBlockH
import PyProof.SliceStr2
import PyProof.StrLawsChain
import PyProof.StrLawsTight
import KE.IntTextLaws
import PyProof.Rows.StrSplitAre
import PyProof.Rows.ReprOcc
import PyProof.Rows.StrFin3
import PyProof.StrCalls
import PyProof.DictItems
import KE.KPairComp
import PyProof.MeetsSeq2
import PyProof.Rows.FStr
import PyProof.Rows.StrInSeq3
import PyProof.Rows.StrNews2
import PyProof.FactsAll.zip
import PySem.Challenge.RW_signscreen_k19_kept_states
set_option compiler.extract_closed false
set_option Elab.async false
set_option linter.all false
set_option maxRecDepth 100000
set_option maxHeartbeats 4000000
namespace L2
open PySem PySem.Spec PyProof.Rows
noncomputable abbrev Key:=Sum Int Str
noncomputable def jm:Key->Value->Bool
 |.inl k,v=>Value.isInt k v
 |.inr x,v=>Value.isStrOf x v
noncomputable def zgi (w:World):Key->Int
 |.inl k=>hashInt k
 |.inr x=>hashStr w x
theorem xx:∀ {k:Key}{v:Value},jm k v=true->(∃ i t,k=Sum.inl i/\v=Value.int i t)\/(∃ x t,k=Sum.inr x/\v=Value.str x t)
 |.inl i,v,h=>by
  obtain⟨t,e⟩:=Value.isInt_shape (k:=i) (v:=v) h
  exact .inl ⟨i,t,rfl,e⟩
 |.inr x,v,h=>by
  obtain⟨t,e⟩:=Value.isStrOf_shape (x:=x) (v:=v) h
  exact .inr ⟨x,t,rfl,e⟩
theorem Jk (i:Int) (t:Tok):jm (.inl i) (.int i t)=true:=by simp [jm,Value.isInt]
theorem Jl (x:Str) (t:Tok):jm (.inr x) (.str x t)=true:=by simp [jm,Value.isStrOf]
theorem zdE (a b:Int):decide ((Sum.inl a:Key)=Sum.inl b)=(a == b):=by
 by_cases e:a=b
 ·subst e;simp
 ·have h:¬ (Sum.inl a:Key)=Sum.inl b:=fun q=>e (Sum.inl.inj q)
  rw [decide_eq_false h]
  exact (beq_eq_false_iff_ne.mpr e).symm
theorem zdF (a b:Str):decide ((Sum.inr a:Key)=Sum.inr b)=decide (a=b):=by
 by_cases e:a=b
 ·subst e;simp
 ·have h:¬ (Sum.inr a:Key)=Sum.inr b:=fun q=>e (Sum.inr.inj q)
  rw [decide_eq_false h,decide_eq_false e]
theorem zdG (a:Int) (b:Str):decide ((Sum.inl a:Key)=Sum.inr b)=false:=decide_eq_false (fun q=>nomatch q)
theorem zdH (a:Str) (b:Int):decide ((Sum.inr a:Key)=Sum.inl b)=false:=decide_eq_false (fun q=>nomatch q)
noncomputable def yX (prog:Program) (w:World):PySem.KeyKind prog w Key where
 is:=jm
 hash:=zgi w
 inj:=fun v a b ha hb=>by
  rcases xx ha with⟨i,t,rfl,rfl⟩ | ⟨x,t,rfl,rfl⟩
  ·rcases xx hb with⟨j,u,rfl,e⟩ | ⟨y,u,rfl,e⟩
   ·injection e with e1 _;rw [e1]
   ·exact nomatch e
  ·rcases xx hb with⟨j,u,rfl,e⟩ | ⟨y,u,rfl,e⟩
   ·exact nomatch e
   ·injection e with e1 _;rw [e1]
 byValue:=fun k v h=>by
  rcases xx h with⟨i,t,rfl,rfl⟩ | ⟨x,t,rfl,rfl⟩ <;> rfl
 pyHash:=fun hv h=>by
  rcases xx hv with⟨i,t,rfl,rfl⟩ | ⟨x,t,rfl,rfl⟩
  ·exact wpAny_pyHash_int h
  ·exact wpAny_pyHash_str h
 eqBool:=fun hu hv h=>by
  rcases xx hu with⟨i,t,rfl,rfl⟩ | ⟨x,t,rfl,rfl⟩
  ·rcases xx hv with⟨j,u,rfl,rfl⟩ | ⟨y,u,rfl,rfl⟩
   ·rw [zdE] at h;exact wpAny_eqBool_int h
   ·rw [zdG] at h;exact SeqAt.EqAt.int_str i t y u _ _ _ _ h
  ·rcases xx hv with⟨j,u,rfl,rfl⟩ | ⟨y,u,rfl,rfl⟩
   ·rw [zdH] at h;exact SeqAt.EqAt.str_int x t j u _ _ _ _ h
   ·rw [zdF] at h;exact wpAny_eqBool_str h
 «strs»:=fun k x t v h=>by
  rcases xx h with⟨i,u,rfl,e⟩ | ⟨y,u,rfl,e⟩
  ·exact nomatch e
  ·injection e with e1 _
   subst e1
   cases v <;> rfl
theorem VR (prog:Program) (w:World) (i:Int) (t:Tok):(yX prog w).is (.inl i) (.int i t)=true:=Jk i t
theorem VS (prog:Program) (w:World) (x:Str) (t:Tok):(yX prog w).is (.inr x) (.str x t)=true:=Jl x t
inductive V where
 |non |bl (b:Bool) |int (i:Int) |str (x:Str) |byt (b:Array UInt8) |flt (b:UInt64) |ref (a:Addr) |ty (n:String)
 deriving DecidableEq
noncomputable def RelV:V->Value->Prop
 |.non,u=>u=Value.none
 |.bl b,u=>u=Value.bool b
 |.int i,u=>∃ t,u=Value.int i t
 |.str x,u=>∃ t,u=Value.str x t
 |.byt b,u=>∃ t,u=Value.bytes b t
 |.flt b,u=>∃ t,u=Value.float b t
 |.ref a,u=>u=Value.ref a
 |.ty n,u=>u=Value.type n
noncomputable abbrev Vals:List V->List Value->Prop:=Paired RelV
theorem Vals.length {xs:List V}{us:List Value}(r:Vals xs us):xs.length=us.length:=Paired.length r
theorem Vals.get:∀ {xs:List V}{us:List Value}{i:Nat}{x:V},Vals xs us->xs[i]? =some x->∃ u,us[i]? =some u/\RelV x u
 |_,_,_,_,.nil,e=>by simp at e
 |_,_,0,_,.cons r _,e=>by simp at e;subst e;exact⟨_,rfl,r⟩
 |_,_,i+1,x,.cons _ t,e=>by
  obtain⟨u,h1,h2⟩:=Vals.get (i:=i) (x:=x) t (by simpa using e)
  exact⟨u,by simpa using h1,h2⟩
theorem Vals.set {x:V}{u:Value}(r:RelV x u):∀ {xs:List V}{us:List Value}(i:Nat),Vals xs us->Vals (xs.set i x) (us.set i u)
 |_,_,_,.nil=>.nil
 |_,_,0,.cons _ t=>.cons r t
 |_,_,i+1,.cons q t=>.cons q (Vals.set r i t)
theorem Vals.append:∀ {xs ys:List V}{us ws:List Value},Vals xs us->Vals ys ws->Vals (xs ++ ys) (us ++ ws)
 |_,_,_,_,.nil,s=>s
 |_,_,_,_,.cons r t,s=>.cons r (Vals.append t s)
theorem Vals.take:∀ {xs:List V}{us:List Value}(n:Nat),Vals xs us->Vals (xs.take n) (us.take n)
 |_,_,0,_=>.nil
 |_,_,_+1,.nil=>.nil
 |_,_,n+1,.cons r t=>.cons r (Vals.take n t)
theorem Vals.drop:∀ {xs:List V}{us:List Value}(n:Nat),Vals xs us->Vals (xs.drop n) (us.drop n)
 |_,_,0,r=>r
 |_,_,_+1,.nil=>.nil
 |_,_,n+1,.cons _ t=>Vals.drop n t
theorem Vals.none_of:∀ {xs:List V}{us:List Value}{i:Nat},Vals xs us->xs[i]? =none->us[i]? =none:=fun {xs us i} r e=>by
 have h1:=r.length
 have h2:xs.length≤i:=List.getElem?_eq_none_iff.mp e
 exact List.getElem?_eq_none_iff.mpr (by omega)
noncomputable def va:Option V->Option Value->Prop
 |some v,some u=>RelV v u
 |none,none=>True
 |_,_=>False
def KV {κ:Type}:List (κ×V)->List (κ×Value)->Prop:=Paired fun (p:κ×V) (q:κ×Value)=>p.1=q.1/\RelV p.2 q.2
noncomputable def kV:Key->V
 |.inl i=>.int i
 |.inr x=>.str x
inductive HO where
 |lst (xs:List V)
 |tup (xs:List V)
 |dK (kvs:List (Key×V)) |dT (kvs:List (List Key×V))
 |set (S:Int->Bool) (n:Nat)
 |ins (C dx:Addr) (fs:List (Str×V))
 |own (x:Addr)
 |xd (fs:List (Str×V))
 |met (f x:Addr)
 |rng (lo hi:Int)
 |frz (o:Obj) (u:HO)
 |tbl (ps:Array Value)
 |ext (φ:Heap->Prop)
noncomputable abbrev Hp:=Addr->Option HO
noncomputable def upd (H:Hp) (a:Addr) (o:HO):Hp:=fun b=>if b=a then some o else H b
theorem zC {H:Hp}{a:Addr}{o:HO}:upd H a o a=some o:=by unfold upd;rw [if_pos rfl]
theorem zk {H:Hp}{a b:Addr}{o:HO}(h:b≠a):upd H a o b=H b:=by unfold upd;rw [if_neg h]
theorem Yl {H:Hp}{a:Addr}{o u:HO}:upd (upd H a o) a u=upd H a u:=by
 funext b;unfold upd;split <;> rfl
theorem zfq {H:Hp}{a b:Addr}{o u:HO}(h:H a=some o) (h':H b=some u) (d:o≠u):a≠b:=by
 intro e;subst e;rw [h] at h';exact d (Option.some.inj h')
theorem y8 {H:Hp}{a b:Addr}{o:HO}(h:H a=some o) (h':H b=none):a≠b:=by
 intro e;subst e;rw [h] at h';cases h'
section
variable (P:Program) (w:World)
noncomputable def y9 (H:Hp) (h:Heap) (a:Addr):HO->Prop
 |.lst xs=>xs.length≤sizeLine/\∃ (its:List Value) (n:Nat),Vals xs its/\h.get? a=some { cls:=.type "list",data:=.seq its.toArray n }
 |.tup xs=>xs.length≤sizeLine/\∃ its:List Value,Vals xs its/\IsTup h a its.toArray
 |.dK kvs=>kvs.length≤sizeLine/\(a == sysModules)=false/\∃ vs,KV kvs vs/\h.DictOf (yX P w) a vs
 |.dT kvs=>kvs.length≤sizeLine/\(a == sysModules)=false/\∃ xs:List (List Key×Addr×Value),
   Paired (fun (p:List Key×V) (q:List Key×Addr×Value)=>p.1=q.1/\H q.2.1=some (.tup (p.1.map kV))/\RelV p.2 q.2.2) kvs xs/\
   ∃ o es ep,h.get? a=some o/\o.ExactDict/\o.data=.dict es ep/\es.toList=xs.map (entryOfKey (tupleKind (yX P w)))/\(xs.map (·.1)).Nodup
 |.set S n=>h.SetOf (intKind P w) a S n
 |.ins C dx fs=>H dx=some (.own a)/\fs.length≤1000/\dx≠a/\h.get? a=some (PySem.W.instObj C dx)/\
   ∃ mA,h.Ns1 dx mA/\(∀ f,va (fs.lookup f) (mA f))/\PySem.Within mA (fs.map (·.1))
 |.own _=>∃ o,h.get? a=some o
 |.xd fs=>∃ mA,h.Ns1 a mA/\∀ f,va (fs.lookup f) (mA f)
 |.rng lo hi=>∃ t u v,h.get? a=some { cls:=.type "range",data:=.fields #[.int lo t,.int hi u,.int 1 v] }
 |.frz o u=>h.get? a=some o/\y9 H h a u
 |.tbl ps=>h.get? a=some { cls:=.none,data:=.fields ps }
 |.met f x=>h.get? a=some (PySem.W.methodObj (.ref f) (.ref x))
 |.ext φ=>φ h/\(∃ o,h.get? a=some o)/\∀ h1 h2:Heap,φ h1->(∀ o,h1.get? a=some o->h2.get? a=some o)->φ h2
def HOk (H:Hp) (h:Heap):Prop:=∀ a o,H a=some o->y9 P w H h a o
end
section
variable {P:Program}{w:World}{H H':Hp}{h h':Heap}{a:Addr}{o:HO}
theorem y9.lt (x:y9 P w H h a o):a < h.objs.size:=by
 cases o with
 |lst xs=>obtain⟨_,_,_,_,e⟩:=x;exact Heap.lt_size e
 |tup xs=>obtain⟨_,_,_,p⟩:=x;exact p.lt
 |dK kvs=>obtain⟨_,_,_,_,o,_,_,e,_⟩:=x;exact Heap.lt_size e
 |dT kvs=>obtain⟨_,_,_,_,o,_,_,e,_⟩:=x;exact Heap.lt_size e
 |set S n=>obtain⟨o,_,_,_,e,_⟩:=x;exact Heap.lt_size e
 |ins C dx fs=>obtain⟨_,_,_,e,_⟩:=x;exact Heap.lt_size e
 |own y=>obtain⟨_,e⟩:=x;exact Heap.lt_size e
 |xd fs=>obtain⟨_,⟨_,_,_,e,_⟩,_⟩:=x;exact Heap.lt_size e
 |rng lo hi=>obtain⟨_,_,_,e⟩:=x;exact Heap.lt_size e
 |frz ob u=>obtain⟨e,_⟩:=x;exact Heap.lt_size e
 |tbl ps=>exact Heap.lt_size (show h.get? a=some _ from x)
 |met f y=>exact Heap.lt_size (show h.get? a=some _ from x)
 |ext φ=>obtain⟨_,⟨_,e⟩,_⟩:=x;exact Heap.lt_size e
theorem Paired.mapP {α β:Type}{F G:α->β->Prop}:∀ {l₁:List α}{l₂:List β},Paired F l₁ l₂->(∀ a b,F a b->G a b)->Paired G l₁ l₂
 |_,_,.nil,_=>.nil
 |_,_,.cons r t,f=>.cons (f _ _ r) (Paired.mapP t f)
theorem Paired.imp' {α β:Type}{F G:α->β->Prop}(f:∀ a b,F a b->G a b) {l₁:List α}{l₂:List β}(r:Paired F l₁ l₂):Paired G l₁ l₂:=Paired.mapP r f
theorem y9.stay (x:y9 P w H h a o) (k:∀ b u,(b=a\/H b=some (.own a))->h.get? b=some u->h'.get? b=some u)
  (ho:∀ b,H b=some (.own a)->H' b=some (.own a)) (ht:∀ b xs,H b=some (.tup xs)->H' b=some (.tup xs)):y9 P w H' h' a o:=by
 induction o with
 |lst xs=>obtain⟨z,its,n,r,e⟩:=x;exact⟨z,its,n,r,k _ _ (.inl rfl) e⟩
 |tup xs=>obtain⟨z,its,r,ob,e,c⟩:=x;exact⟨z,its,r,ob,k _ _ (.inl rfl) e,c⟩
 |dK kvs=>obtain⟨z,y,vs,r,ob,es,ep,e,c⟩:=x;exact⟨z,y,vs,r,ob,es,ep,k _ _ (.inl rfl) e,c⟩
 |dT kvs=>
  obtain⟨z,y,xs,r,ob,es,ep,e,c⟩:=x
  exact⟨z,y,xs,Paired.mapP r fun p q z=>⟨z.1,ht _ _ z.2.1,z.2.2⟩,ob,es,ep,k _ _ (.inl rfl) e,c⟩
 |set S n=>obtain⟨ob,es,ep,t,e,c⟩:=x;exact⟨ob,es,ep,t,k _ _ (.inl rfl) e,c⟩
 |ins C dx fs=>
  obtain⟨d,z,ne,e,mA,⟨od,es,ep,e2,c⟩,r⟩:=x
  exact⟨ho _ d,z,ne,k _ _ (.inl rfl) e,mA,⟨od,es,ep,k _ _ (.inr d) e2,c⟩,r⟩
 |own y=>obtain⟨ob,e⟩:=x;exact⟨ob,k _ _ (.inl rfl) e⟩
 |xd fs=>obtain⟨mA,⟨od,es,ep,e,c⟩,r⟩:=x;exact⟨mA,⟨od,es,ep,k _ _ (.inl rfl) e,c⟩,r⟩
 |rng lo hi=>obtain⟨t,u,v,e⟩:=x;exact⟨t,u,v,k _ _ (.inl rfl) e⟩
 |frz ob u ih=>obtain⟨e,q⟩:=x;exact⟨k _ _ (.inl rfl) e,ih q⟩
 |tbl ps=>
  have e:h.get? a=some { cls:=.none,data:=.fields ps }:=x
  show h'.get? a=some { cls:=.none,data:=.fields ps }
  exact k a _ (.inl rfl) e
 |met f y=>
  have e:h.get? a=some (PySem.W.methodObj (.ref f) (.ref y)):=x
  show h'.get? a=some (PySem.W.methodObj (.ref f) (.ref y))
  exact k a _ (.inl rfl) e
 |ext φ=>obtain⟨p,⟨o,e⟩,st⟩:=x;exact⟨st _ _ p fun o q=>k _ _ (.inl rfl) q,⟨o,k _ _ (.inl rfl) e⟩,st⟩
theorem HOk.lt (x:HOk P w H h) (e:H a=some o):a < h.objs.size:=(x a o e).lt
theorem HOk.fresh (x:HOk P w H h) (e:h.objs.size≤a):H a=none:=by
 cases q:H a with
 |none=>rfl
 |some u=>exact absurd (Nat.lt_of_lt_of_le (x.lt q) e) (Nat.lt_irrefl _)
theorem HOk.kept (x:HOk P w H h) (k:∀ b u,h.get? b=some u->h'.get? b=some u):HOk P w H h':=fun a o e=>
 (x a o e).stay (fun b u _ q=>k b u q) (fun _ q=>q) fun _ _ q=>q
theorem HOk.laid (x:HOk P w H h) (k:∀ b u,h.get? b=some u->h'.get? b=some u) (hp:h.objs.size≤a) (new:y9 P w (upd H a o) h' a o):HOk P w (upd H a o) h':=fun b u e=>by
 have hn:=x.fresh hp
 by_cases hb:b=a
 ·subst hb;rw [zC] at e;cases e;exact new
 ·rw [zk hb] at e
  exact (x b u e).stay (fun c v _ q=>k c v q) (fun c q=>by rw [zk (y8 q hn)];exact q) fun c xs q=>by rw [zk (y8 q hn)];exact q
end
def Rd (H:Hp) (a:Addr) (u:HO):Prop:=H a=some u\/∃ o,H a=some (.frz o u)
theorem Rd.of {H:Hp}{a:Addr}{u:HO}(h:H a=some u):Rd H a u:=.inl h
theorem Rd.ok {P:Program}{w:World}{H:Hp}{h:Heap}{a:Addr}{u:HO}(r:Rd H a u) (x:HOk P w H h):y9 P w H h a u:=by
 rcases r with r | ⟨o,r⟩
 ·exact x a u r
 ·obtain⟨_,q⟩:=x a _ r
  exact q
noncomputable def Mut:Option HO->Prop
 |some (.lst _)=>True
 |some (.dK _)=>True
 |some (.dT _)=>True
 |some (.set _ _)=>True
 |some (.ins _ _ _)=>True
 |some (.ext _)=>True
 |_=>False
section
variable {P:Program}{w:World}{H:Hp}{h h':Heap}{x e:Addr}{o':HO}
theorem HOk.write (ok:HOk P w H h) (mu:Mut (H x)) (he:e=x\/H e=some (.own x)) (k:∀ b u,b≠e->h.get? b=some u->h'.get? b=some u) (heo:∃ u,h'.get? e=some u)
  (new:y9 P w (upd H x o') h' x o'):HOk P w (upd H x o') h':=fun b u q=>by
 have nown:∀ c y,H c=some (.own y)->c≠x:=fun c y r z=>by subst z;rw [r] at mu;exact mu
 have ntup:∀ c xs,H c=some (.tup xs)->c≠x:=fun c xs r z=>by subst z;rw [r] at mu;exact mu
 by_cases hb:b=x
 ·subst hb;rw [zC] at q;cases q;exact new
 ·rw [zk hb] at q
  by_cases hbe:b=e
  ·have q':H b=some (.own x):=by
    rcases he with z |z
    ·exact absurd (hbe.trans z) hb
    ·rw [hbe];exact z
   rw [q] at q';cases q'
   obtain⟨v,hv⟩:=heo
   exact⟨v,by rw [hbe];exact hv⟩
  ·refine (ok b u q).stay (fun c v hc r=>k c v ?_ r) (fun c r=>by rw [zk (nown c b r)];exact r) fun c xs r=>by rw [zk (ntup c xs r)];exact r
   rcases hc with rfl |hc
   ·exact hbe
   ·rintro rfl
    rcases he with z |z
    ·exact nown c b hc z
    ·rw [hc] at z;cases z;exact hb rfl
end
structure Un (fs ex:List Addr) (H H':Hp) (h h':Heap):Prop where
 keep:∀ b o,h.get? b=some o->H b=none->b ∉ fs->b ∉ ex->h'.get? b=some o
 slot:∀ b o,h.get? b=some o->H b=none->b∈fs->b ∉ ex->∃ sl,h'.get? b=some { o with slots:=sl }
 free:∀ b o,h.get? b=some o->H b=none->b ∉ ex->H' b=none
 there:∀ b o,h.get? b=some o->b ∉ ex->∃ o',h'.get? b=some o'
 tups:∀ b xs,H b=some (.tup xs)->H' b=some (.tup xs)
 frzs:∀ b o u,H b=some (.frz o u)->H' b=some (.frz o u)
 tbls:∀ b ps,H b=some (.tbl ps)->∃ more,H' b=some (.tbl (ps ++ more))
section
variable {fs fs' ex ex':List Addr}{H H1 H2:Hp}{h h1 h2 h':Heap}{a x e:Addr}{o:HO}
theorem Un.any (u:Un fs ex H H1 h h1) {b:Addr}{ob:Obj}(q:h.get? b=some ob) (n:H b=none) (hx:b ∉ ex):∃ sl,h1.get? b=some { ob with slots:=sl }:=by
 by_cases hb:b∈fs
 ·exact u.slot b ob q n hb hx
 ·exact⟨ob.slots,u.keep b ob q n hb hx⟩
theorem Un.trans (a:Un fs ex H H1 h h1) (b:Un fs ex H1 H2 h1 h2):Un fs ex H H2 h h2 where
 keep:=fun c ob q n hc hx=>b.keep c ob (a.keep c ob q n hc hx) (a.free c ob q n hx) hc hx
 slot:=fun c ob q n hc hx=>by
  obtain⟨sl,e1⟩:=a.slot c ob q n hc hx
  obtain⟨sl',e2⟩:=b.slot c _ e1 (a.free c ob q n hx) hc hx
  exact⟨sl',e2⟩
 free:=fun c ob q n hx=>by
  obtain⟨o',e1⟩:=a.there c ob q hx
  exact b.free c o' e1 (a.free c ob q n hx) hx
 there:=fun c ob q hx=>by
  obtain⟨o',e1⟩:=a.there c ob q hx
  exact b.there c o' e1 hx
 tups:=fun c xs q=>b.tups c xs (a.tups c xs q)
 frzs:=fun c ob xs q=>b.frzs c ob xs (a.frzs c ob xs q)
 tbls:=fun c ps q=>by
  obtain⟨m1,e1⟩:=a.tbls c ps q
  obtain⟨m2,e2⟩:=b.tbls c _ e1
  exact⟨m1 ++ m2,by rw [e2,Array.append_assoc]⟩
theorem Un.kept (k:∀ b u,h.get? b=some u->h'.get? b=some u):Un fs ex H H h h':=
 ⟨fun b ob q _ _ _=>k b ob q,fun b ob q _ _ _=>⟨ob.slots,k b ob q⟩,fun _ _ _ n _=>n,fun b ob q _=>⟨ob,k b ob q⟩,fun _ _ q=>q,fun _ _ _ q=>q,fun _ ps q=>⟨#[],by rw [q];simp⟩⟩
theorem Un.refl:Un fs ex H H h h:=Un.kept fun _ _ q=>q
theorem Un.laid (k:∀ b u,h.get? b=some u->h'.get? b=some u) (hp:h.objs.size≤a) (hn:H a=none):Un fs ex H (upd H a o) h h' where
 keep:=fun b u q _ _ _=>k b u q
 slot:=fun b u q _ _ _=>⟨u.slots,k b u q⟩
 free:=fun b u q n _=>by rw [zk (Nat.ne_of_lt (Nat.lt_of_lt_of_le (Heap.lt_size q) hp))];exact n
 there:=fun b u q _=>⟨u,k b u q⟩
 tups:=fun b xs q=>by rw [zk (y8 q hn)];exact q
 frzs:=fun b u xs q=>by rw [zk (y8 q hn)];exact q
 tbls:=fun b ps q=>⟨#[],by rw [zk (y8 q hn),q];simp⟩
theorem Un.write (mu:Mut (H x)) (he:e=x\/H e=some (.own x)) (k:∀ b u,b≠e->h.get? b=some u->h'.get? b=some u) (heo:∃ u,h'.get? e=some u):Un fs ex H (upd H x o) h h':=by
 have hx:∀ b,H b=none->b≠x:=fun b n z=>by subst z;rw [n] at mu;exact mu
 have hb:∀ b,H b=none->b≠e:=fun b n z=>by
  subst z
  rcases he with r |r
  ·exact hx b n r
  ·rw [n] at r;cases r
 have hm:∀ b u,H b=some u->¬ Mut (some u)->b≠x:=fun b u q nm z=>by subst z;rw [q] at mu;exact nm mu
 refine⟨fun b u q n _ _=>k b u (hb b n) q,fun b u q n _ _=>⟨u.slots,k b u (hb b n) q⟩,fun b u q n _=>by rw [zk (hx b n)];exact n,fun b u q _=>?_,
  fun b xs q=>by rw [zk (hm b _ q fun z=>z)];exact q,fun b u xs q=>by rw [zk (hm b _ q fun z=>z)];exact q,fun b ps q=>⟨#[],by rw [zk (hm b _ q fun z=>z),q];simp⟩⟩
 by_cases hbe:b=e
 ·subst hbe;exact heo
 ·exact⟨u,k b u hbe q⟩
theorem Un.mono (u:Un fs ex H H1 h h1) (hs:∀ b∈fs,b∈fs') (hx:∀ b∈ex,b∈ex'):Un fs' ex' H H1 h h1:=
 ⟨fun b ob q n hb he=>u.keep b ob q n (fun z=>hb (hs b z)) fun z=>he (hx b z),fun _ _ q n _ he=>u.any q n fun z=>he (hx _ z),fun b ob q n he=>u.free b ob q n fun z=>he (hx b z),fun b ob q he=>u.there b ob q fun z=>he (hx b z),u.tups,u.frzs,u.tbls⟩
end
noncomputable def trk (h:Heap) (H:Hp):List Addr:=(List.range h.objs.size).filter fun a=>(H a).isSome
noncomputable def jn (h:Heap) (H:Hp):Heap:=PySem.W.hideAll h (trk h H)
theorem Jm (h:Heap) (H:Hp):(jn h H).objs.size=h.objs.size:=PySem.W.hideAll_size _ _
theorem KB {h:Heap}{H:Hp}{b:Addr}{o:Obj}(e:h.get? b=some o) (n:H b=none):(jn h H).get? b=some o:=
 PySem.W.hideAll_get _ e fun hm=>by
  have q:(H b).isSome=true:=(List.mem_filter.mp hm).2
  rw [n] at q;simp at q
theorem zca {h:Heap}{H:Hp}{b:Addr}{o:Obj}(e:(jn h H).get? b=some o):h.get? b=some o/\H b=none:=by
 have e':h.get? b=some o:=PySem.W.of_hideAll (trk h H) e
 refine⟨e',?_⟩
 cases q:H b with
 |none=>rfl
 |some x=>
  have hm:b∈trk h H:=List.mem_filter.mpr ⟨List.mem_range.mpr (Heap.lt_size e'),by simp [q]⟩
  have z:(jn h H).get? b=none:=PySem.W.hideAll_none (trk h H) hm
  rw [z] at e;cases e
noncomputable def zcb (g h:Heap) (L:Addr):List (Addr×Obj):=(List.range h.objs.size).filterMap fun a=>if a=L\/(g.get? a).isSome=true then none else (h.get? a).map fun o=>(a,o)
noncomputable def x4 (g h:Heap) (L d:Addr):List (Addr×Obj):=(zcb g h L).filter fun p=>decide (p.1≠d)
structure Mod (K:W.Frag) (mg:Str->Option Value) (base:Heap):Prop where
 kin:K.In base
 glob:base.Ns mainGlobals mg
 blt:∃ mb,base.Ns builtinsNs mb/\∀ x:Str,x≠"__name__"->mb x=bootBuiltins x
 nolimit:base.NoLimit
structure Cx where
 prog:Program
 w:World
 K:W.Frag
 mg:Str->Option Value
 base:Heap
 A:Around
 N:List Str
 s₀:Shared
 H₀:Hp
 env:Env
 outer:List Env
 stack:List Env
 ex:List Addr
 fn:Str->Bool
 calm:Bool
 pn:List (Addr×Obj)
 xe:Value->Shared->Prop
noncomputable def frs (l:List Env):List Addr:=l.filterMap (·.frame)
noncomputable abbrev Cx.fs (X:Cx):List Addr:=frs X.outer
def Vis (sc:Scope) (x:Str):Prop:=sc.names.lookup x=some .local\/sc.names.lookup x=some .cell\/sc.names.lookup x=some .free
def Loc (sc:Scope) (x:Str):Prop:=sc.names.lookup x=some .local\/sc.names.lookup x=some .cell
def Look (env:Env) (h:Heap) (m:Str->Option Value) (x:Str) (u:Value):Prop:=
 (env.kindOf x=some .local/\m x=some u)\/((env.kindOf x=some .cell\/env.kindOf x=some .free)/\∃ c,env.cells.lookup x=some c/\h.IsCell c (some u))
structure Cx.Ok (X:Cx):Prop where
 mod:Mod X.K X.mg X.base
 kind:X.env.scope.kind=.function
 glob:X.env.globals=mainGlobals
 blt:X.env.builtins=builtinsNs
 above:X.s₀.heap.objs.size≤X.env.locals
 inj:∀ x y c,X.env.cells.lookup x=some c->X.env.cells.lookup y=some c->x=y
 has:∀ x,(X.env.kindOf x=some .cell\/X.env.kindOf x=some .free)->∃ c,X.env.cells.lookup x=some c
 cab:∀ x c,X.fn x=true->X.env.cells.lookup x=some c->X.s₀.heap.objs.size≤c
 hd:X.calm=true->X.A.handled=none
 frames:X.A.frames=some X.stack
 stk:X.stack=X.outer\/(X.stack=X.env :: X.outer/\X.env.frame=some X.env.locals)
 exf:∀ b∈X.ex,b≠X.env.locals/\∀ x c,X.env.cells.lookup x=some c->c≠b
 bs:∀ b o,X.base.get? b=some o->X.s₀.heap.get? b=some o/\X.H₀ b=none
 bsz:X.base.objs.size≤X.s₀.heap.objs.size
 noex:∀ b o,X.base.get? b=some o->b ∉ X.ex
 exfs:∀ b∈X.ex,b ∉ X.fs
 funs:X.s₀.heap.FunFrames X.base X.outer
 frf:∀ b∈X.fs,X.H₀ b=none
structure Inv (X:Cx) (pins:List (Addr×Obj)) (σ:List (Option V)) (H:Hp) (s:Shared):Prop where
 ok:X.Ok
 os:s.os=X.s₀.os
 bare:AllBare s.gens
 base:Un X.fs X.ex X.H₀ H X.s₀.heap s.heap
 loc:∃ m,s.heap.Ns X.env.locals m/\∀ (i:Nat) (x:Str) (v:V),X.N[i]? =some x->σ[i]? =some (some v)->Vis X.env.scope x->∃ u,RelV v u/\Look X.env s.heap m x u
 cell:∀ x c,X.env.cells.lookup x=some c->∃ v,s.heap.IsCell c v
 free:H X.env.locals=none
 freeC:∀ x c,X.env.cells.lookup x=some c->H c=none
 pin:∀ p∈X.pn ++ pins,s.heap.get? p.1=some p.2/\H p.1=none/\p.1≠X.env.locals/\p.1 ∉ X.fs/\∀ v,p.2.data≠.cell v
 hok:HOk X.prog X.w H s.heap
 len:σ.length=X.N.length
section
variable {X:Cx}{pins:List (Addr×Obj)}{σ:List (Option V)}{H H':Hp}{s:Shared}{h':Heap}
theorem Cx.Ok.nofr (ok:X.Ok) {b:Addr}{o:Obj}(e:X.base.get? b=some o):b ∉ X.fs:=fun hb=>by
 have:=(ok.funs.mem hb).1
 rw [e] at this;cases this
theorem Inv.bs (I:Inv X pins σ H s):∀ b o,X.base.get? b=some o->s.heap.get? b=some o/\H b=none:=fun b o e=>
 ⟨I.base.keep b o (I.ok.bs b o e).1 (I.ok.bs b o e).2 (I.ok.nofr e) (I.ok.noex b o e),I.base.free b o (I.ok.bs b o e).1 (I.ok.bs b o e).2 (I.ok.noex b o e)⟩
theorem Inv.bk (I:Inv X pins σ H s):∀ b o,X.base.get? b=some o->s.heap.get? b=some o:=fun b o e=>(I.bs b o e).1
theorem Inv.mod (I:Inv X pins σ H s):Mod X.K X.mg X.base:=I.ok.mod
theorem Inv.kIn (I:Inv X pins σ H s):X.K.In s.heap:=I.ok.mod.kin.keeps I.bk
theorem Inv.nolimit (I:Inv X pins σ H s):s.heap.NoLimit:=I.ok.mod.nolimit.keeps I.bk
theorem Inv.lt (I:Inv X pins σ H s):X.env.locals < s.heap.objs.size:=let ⟨_,hn,_⟩:=I.loc;hn.lt
theorem Inv.sz (I:Inv X pins σ H s):X.s₀.heap.objs.size≤s.heap.objs.size:=Nat.le_trans I.ok.above (Nat.le_of_lt I.lt)
theorem Inv.nofs (I:Inv X pins σ H s) {a:Addr}(h:s.heap.objs.size≤a):a ∉ X.fs:=fun hb=>by
 obtain⟨_,o,ho,_⟩:=I.ok.funs.mem hb
 exact absurd (Nat.lt_of_lt_of_le (Heap.lt_size ho) (Nat.le_trans I.sz h)) (Nat.lt_irrefl _)
theorem Inv.cne (I:Inv X pins σ H s):∀ x c,X.env.cells.lookup x=some c->c≠X.env.locals:=fun x c e z=>by
 obtain⟨v,o,ho,hd⟩:=I.cell x c e
 obtain⟨m,⟨o',es,ep,ho',hd',_⟩,_⟩:=I.loc
 rw [z,ho'] at ho;cases ho;rw [hd'] at hd;cases hd
theorem Inv.funs (I:Inv X pins σ H s):s.heap.FunFrames X.base X.outer:=by
 have all:∀ (l:List Env),(∀ b∈frs l,b∈X.fs)->X.s₀.heap.FunFrames X.base l->s.heap.FunFrames X.base l:=by
  intro l
  induction l with
  |nil=>intro _ _;trivial
  |cons env r ih=>
   intro hs hl
   obtain⟨hk,⟨L,o,hf,hn,ho,hd⟩,hr⟩:=hl
   have hL:L∈X.fs:=hs L (by unfold frs;rw [List.filterMap_cons,hf];exact List.mem_cons_self)
   obtain⟨sl,e⟩:=I.base.slot L o ho (I.ok.frf L hL) hL fun z=>I.ok.exfs L z hL
   exact⟨hk,⟨L,_,hf,hn,e,hd⟩,ih (fun b hb=>hs b (by unfold frs;rw [List.filterMap_cons,hf];exact List.mem_cons_of_mem _ hb)) hr⟩
 exact all X.outer (fun _ hb=>hb) I.ok.funs
theorem Inv.stack (I:Inv X pins σ H s):s.heap.FunFrames X.base X.stack:=by
 rcases I.ok.stk with e | ⟨e,hf⟩
 ·rw [e];exact I.funs
 ·rw [e]
  obtain⟨m,hn,_⟩:=I.loc
  refine .cons (by rw [I.ok.kind];decide) hf hn ?_ I.funs
  exact Heap.get?_none_of_le (Nat.le_trans I.ok.bsz I.ok.above)
theorem Inv.stkSub (I:Inv X pins σ H s):∀ b∈frs X.stack,b∈X.env.locals :: X.fs:=fun b hb=>by
 rcases I.ok.stk with e | ⟨e,hf⟩
 ·rw [e] at hb;exact List.mem_cons_of_mem _ hb
 ·rw [e] at hb
  unfold frs at hb
  rw [List.filterMap_cons,hf] at hb
  exact hb
theorem Inv.stkFree (I:Inv X pins σ H s):∀ b∈frs X.stack,H b=none:=fun b hb=>by
 rcases List.mem_cons.mp (I.stkSub b hb) with e |hb
 ·rw [e];exact I.free
 ·obtain⟨_,o,ho,_⟩:=I.ok.funs.mem hb
  exact I.base.free b o ho (I.ok.frf b hb) fun z=>I.ok.exfs b z hb
theorem Inv.step {g':Array GenState}{t':Nat}{d':Drawn}{ch:List Addr}(I:Inv X pins σ H s)
  (hch:∀ b∈ch,(b∈X.ex\/X.s₀.heap.objs.size≤b)/\b≠X.env.locals/\(∀ x c,X.env.cells.lookup x=some c->c≠b)/\∀ p∈X.pn ++ pins,p.1≠b)
  (keep:∀ b o,b≠X.env.locals->b ∉ X.fs->b ∉ ch->s.heap.get? b=some o->H b=none->h'.get? b=some o)
  (slot:∀ b o,b≠X.env.locals->b∈X.fs->b ∉ ch->s.heap.get? b=some o->H b=none->∃ sl,h'.get? b=some { o with slots:=sl }) (free:∀ b o,b ∉ ch->s.heap.get? b=some o->H b=none->H' b=none)
  (there:∀ b o,b ∉ ch->s.heap.get? b=some o->∃ o',h'.get? b=some o')
  (tups:∀ b xs,H b=some (.tup xs)->H' b=some (.tup xs)) (frzs:∀ b o u,H b=some (.frz o u)->H' b=some (.frz o u)) (tbls:∀ b ps,H b=some (.tbl ps)->∃ more,H' b=some (.tbl (ps ++ more)))
  (ns:∀ m,s.heap.Ns X.env.locals m->h'.Ns X.env.locals m) (hok:HOk X.prog X.w H' h') (hg:AllBare g') :
  Inv X pins σ H' { s with heap:=h',gens:=g',drawn:=d',toks:=t' }:=by
 have neL:∀ b o,X.s₀.heap.get? b=some o->b≠X.env.locals:=fun b o e=>Nat.ne_of_lt (Nat.lt_of_lt_of_le (Heap.lt_size e) I.ok.above)
 have neC:∀ b o,X.s₀.heap.get? b=some o->b ∉ X.ex->b ∉ ch:=fun b o e hx hb=>by
  rcases (hch b hb).1 with z |z
  ·exact hx z
  ·exact absurd (Nat.lt_of_lt_of_le (Heap.lt_size e) z) (Nat.lt_irrefl _)
 have cellK:∀ x c,X.env.cells.lookup x=some c->∀ v,s.heap.IsCell c v->h'.IsCell c v:=fun x c e v ⟨o,ho,hd⟩=>by
  have nch:c ∉ ch:=fun z=>(hch c z).2.2.1 x c e rfl
  by_cases hc:c∈X.fs
  ·obtain⟨sl,q⟩:=slot c o (I.cne x c e) hc nch ho (I.freeC x c e)
   exact⟨_,q,hd⟩
  ·exact⟨o,keep c o (I.cne x c e) hc nch ho (I.freeC x c e),hd⟩
 refine⟨I.ok,I.os,hg,⟨fun b o e n hb hx=>?_,fun b o e n hb hx=>?_,fun b o e n hx=>?_,fun b o e hx=>?_,fun b xs e=>tups b xs (I.base.tups b xs e),fun b o xs e=>frzs b o xs (I.base.frzs b o xs e),fun b ps e=>?_⟩,?_,fun x c e=>?_,?_,fun x c e=>?_,fun p hp=>?_,hok,I.len⟩
 ·exact keep b o (neL b o e) hb (neC b o e hx) (I.base.keep b o e n hb hx) (I.base.free b o e n hx)
 ·obtain⟨sl,e1⟩:=I.base.slot b o e n hb hx
  obtain⟨sl',e2⟩:=slot b _ (neL b o e) hb (neC b o e hx) e1 (I.base.free b o e n hx)
  exact⟨sl',e2⟩
 ·obtain⟨o',e1⟩:=I.base.there b o e hx
  exact free b o' (neC b o e hx) e1 (I.base.free b o e n hx)
 ·obtain⟨o',e1⟩:=I.base.there b o e hx
  exact there b o' (neC b o e hx) e1
 ·obtain⟨m1,e1⟩:=I.base.tbls b ps e
  obtain⟨m2,e2⟩:=tbls b _ e1
  exact⟨m1 ++ m2,by rw [e2,Array.append_assoc]⟩
 ·obtain⟨m,hn,hl⟩:=I.loc
  refine⟨m,ns m hn,fun i x v e1 e2 e3=>?_⟩
  obtain⟨u,r,l⟩:=hl i x v e1 e2 e3
  refine⟨u,r,?_⟩
  rcases l with l | ⟨k,c,e,z⟩
  ·exact .inl l
  ·exact .inr ⟨k,c,e,cellK x c e _ z⟩
 ·obtain⟨v,z⟩:=I.cell x c e
  exact⟨v,cellK x c e v z⟩
 ·obtain⟨m,⟨o,_,_,ho,_⟩,_⟩:=I.loc
  exact free _ o (fun z=>(hch _ z).2.1 rfl) ho I.free
 ·obtain⟨v,o,ho,hd⟩:=I.cell x c e
  exact free c o (fun z=>(hch c z).2.2.1 x c e rfl) ho (I.freeC x c e)
 ·obtain⟨e,n,ne,nf,d⟩:=I.pin p hp
  have nch:p.1 ∉ ch:=fun z=>(hch p.1 z).2.2.2 p hp rfl
  exact⟨keep p.1 p.2 ne nf nch e n,free p.1 p.2 nch e n,ne,nf,d⟩
theorem Inv.un {t':Nat}(I:Inv X pins σ H s) (u:Un X.fs [] H H' s.heap h') (hok:HOk X.prog X.w H' h'):Inv X pins σ H' { s with heap:=h',toks:=t' }:=by
  obtain⟨m,⟨o,es,ep,ho,r⟩,_⟩:=id I.loc
  obtain⟨sl,hL⟩:=u.any ho I.free (by simp)
  exact I.step (g':=s.gens) (d':=s.drawn) (ch:=[]) (fun _ z=>nomatch z) (fun b o _ hb _ e n=>u.keep b o e n hb (by simp)) (fun b o _ hb _ e n=>u.slot b o e n hb (by simp)) (fun b o _ e n=>u.free b o e n (by simp)) (fun b o _ e=>u.there b o e (by simp)) u.tups u.frzs u.tbls (fun m' hm=>by
    obtain⟨o',es',ep',ho',r'⟩:=hm
    rw [ho] at ho';cases ho'
    exact⟨_,es',ep',hL,r'⟩) hok I.bare
theorem Inv.call {g':Array GenState}{t':Nat}{d':Drawn}{ch:List Addr}(I:Inv X pins σ H s) (u:Un (frs X.stack) ch H H' s.heap h') (hok:HOk X.prog X.w H' h') (hg:AllBare g')
    (hch:∀ b∈ch,(b∈X.ex\/X.s₀.heap.objs.size≤b)/\b≠X.env.locals/\(∀ x c,X.env.cells.lookup x=some c->c≠b)/\∀ p∈X.pn ++ pins,p.1≠b) :
    Inv X pins σ H' { s with heap:=h',gens:=g',drawn:=d',toks:=t' }:=by
  obtain⟨m,⟨o,es,ep,ho,r⟩,_⟩:=id I.loc
  obtain⟨sl,hL⟩:=u.any ho I.free fun z=>(hch _ z).2.1 rfl
  exact I.step (ch:=ch) hch (fun b o hL hb hc e n=>u.keep b o e n (fun z=>(List.mem_cons.mp (I.stkSub b z)).elim hL hb) hc) (fun b o _ _ hc e n=>u.any e n hc) (fun b o hc e n=>u.free b o e n hc) (fun b o hc e=>u.there b o e hc) u.tups u.frzs u.tbls (fun m' hm=>by
    obtain⟨o',es',ep',ho',r'⟩:=hm
    rw [ho] at ho';cases ho'
    exact⟨_,es',ep',hL,r'⟩) hok hg
theorem Inv.turned {t':Nat}{it:Addr}(I:Inv X pins σ H s) (k:∀ b o,b≠it->s.heap.get? b=some o->h'.get? b=some o) (hn:H it=none) (hL:it≠X.env.locals)
  (h1:it∈X.ex\/X.s₀.heap.objs.size≤it) (h2:∀ x c,X.env.cells.lookup x=some c->c≠it) (h3:∀ p∈X.pn ++ pins,p.1≠it):Inv X pins σ H { s with heap:=h',toks:=t' }:=by
 have nit:∀ b u,H b=some u->b≠it:=fun b u e z=>by rw [z,hn] at e;cases e
 refine I.step (g':=s.gens) (d':=s.drawn) (ch:=[it]) (fun b hb=>?_) (fun b o _ _ hc e _=>k b o (fun z=>hc (by simp [z])) e) (fun b o _ _ hc e _=>⟨o.slots,k b o (fun z=>hc (by simp [z])) e⟩) (fun _ _ _ _ n=>n)
  (fun b o hc e=>⟨o,k b o (fun z=>hc (by simp [z])) e⟩) (fun _ _ e=>e) (fun _ _ _ e=>e) (fun b ps e=>⟨#[],by rw [e];simp⟩) (fun m hm=>?_) (fun b u e=>?_) I.bare
 ·have e:b=it:=by simpa using hb
  subst e
  exact⟨h1,hL,h2,h3⟩
 ·obtain⟨o,es,ep,ho,r⟩:=hm
  exact⟨o,es,ep,k _ o (Ne.symm hL) ho,r⟩
 ·refine (I.hok b u e).stay (fun c v hc q=>k c v ?_ q) (fun _ q=>q) fun _ _ q=>q
  rcases hc with z |z
  ·rw [z];exact nit b u e
  ·exact nit c _ z
theorem Inv.tok (I:Inv X pins σ H s) (t:Nat):Inv X pins σ H { s with toks:=t }:=I.un (h':=s.heap) (t':=t) Un.refl I.hok
theorem Inv.kept {t':Nat}(I:Inv X pins σ H s) (k:∀ b u,s.heap.get? b=some u->h'.get? b=some u):Inv X pins σ H { s with heap:=h',toks:=t' }:=I.un (Un.kept k) (I.hok.kept k)
theorem Inv.laid {a:Addr}{o:HO}{t':Nat}(I:Inv X pins σ H s) (k:∀ b u,s.heap.get? b=some u->h'.get? b=some u) (hp:s.heap.objs.size≤a) (new:y9 X.prog X.w (upd H a o) h' a o) :
  Inv X pins σ (upd H a o) { s with heap:=h',toks:=t' }:=I.un (Un.laid k hp (I.hok.fresh hp)) (I.hok.laid k hp new)
theorem Inv.write {x e:Addr}{o:HO}{t':Nat}(I:Inv X pins σ H s) (mu:Mut (H x)) (he:e=x\/H e=some (.own x)) (k:∀ b u,b≠e->s.heap.get? b=some u->h'.get? b=some u) (heo:∃ u,h'.get? e=some u)
  (new:y9 X.prog X.w (upd H x o) h' x o):Inv X pins σ (upd H x o) { s with heap:=h',toks:=t' }:=I.un (Un.write mu he k heo) (I.hok.write mu he k heo new)
theorem Inv.weak {σ':List (Option V)}(I:Inv X pins σ H s) (hl:σ'.length=σ.length) (w:∀ (i:Nat) v,σ'[i]? =some (some v)->σ[i]? =some (some v)):Inv X pins σ' H s:=
 ⟨I.ok,I.os,I.bare,I.base,let ⟨m,hn,hl'⟩:=I.loc;⟨m,hn,fun i x v e1 e2 e3=>hl' i x v e1 (w i v e2) e3⟩,I.cell,I.free,I.freeC,I.pin,I.hok,hl.trans I.len⟩
theorem Inv.pins_of {pins':List (Addr×Obj)}(I:Inv X pins σ H s) (h:∀ p∈pins',s.heap.get? p.1=some p.2/\H p.1=none/\p.1≠X.env.locals/\p.1 ∉ X.fs/\∀ v,p.2.data≠.cell v):Inv X pins' σ H s:=
 ⟨I.ok,I.os,I.bare,I.base,I.loc,I.cell,I.free,I.freeC,fun p hp=>(List.mem_append.mp hp).elim (fun z=>I.pin p (List.mem_append_left _ z)) (h p),I.hok,I.len⟩
theorem Xx {N:List Str}(hN:N.Nodup) {i j:Nat}{x:Str}(a:N[i]? =some x) (b:N[j]? =some x):i=j:=by
 obtain⟨h1,e1⟩:=List.getElem?_eq_some_iff.mp a
 obtain⟨h2,e2⟩:=List.getElem?_eq_some_iff.mp b
 exact (List.getElem_inj hN).mp (e1.trans e2.symm)
theorem YH {M:Model}{A:Around}{E:Value->Shared->Prop}{i:Nat}{x:Str}{v:V}{u:Value}{Q:Unit->Shared->Prop}(I:Inv X pins σ H s) (hN:X.N.Nodup) (hi:X.N[i]? =some x) (hx:Loc X.env.scope x) (r:RelV v u)
  (h:∀ s',Inv X pins (σ.set i (some v)) H s'->(∃ a,Heap.SameBut a s.heap s'.heap/\(a=X.env.locals\/X.env.cells.lookup x=some a))->Q () s') (hf:X.fn x=true\/X.env.scope.names.lookup x=some .local:=by first |exact .inl rfl |exact .inr rfl |assumption):wpAny M A (storeName X.env x u) Q E s:=by
 obtain⟨m,hn,hl⟩:=id I.loc
 have hcls:(X.env.scope.kind == .class || (X.env.scope.kind == .module && X.env.locals != X.env.globals))=false:=by rw [I.ok.kind];rfl
 have hiσ:i < σ.length:=by rw [I.len];exact (List.getElem?_eq_some_iff.mp hi).1
 have cne:=I.cne
 have tracked:∀ {a:Addr}{h':Heap},(∃ o,s.heap.get? a=some o/\H a=none)->Heap.SameBut a s.heap h'->HOk X.prog X.w H h':=fun {a h'} ha hs b ob e=>by
  obtain⟨_,_,hfree⟩:=ha
  refine (I.hok b ob e).stay (fun c w' hc q=>(hs.2 c ?_).trans q) (fun _ q=>q) fun _ _ q=>q
  rintro rfl
  rcases hc with rfl |hc
  ·rw [hfree] at e;cases e
  ·rw [hfree] at hc;cases hc
 rcases hx with hk |hk
 ·refine wpAny_storeName_local hk hn (fun h' hn' hs=>?_) hcls
  obtain⟨oL,_,_,hoL,_⟩:=id hn
  refine h _ ⟨I.ok,I.os,I.bare,⟨fun b o e n hb hx=>?_,fun b o e n hb hx=>?_,I.base.free,fun b o e hx=>?_,I.base.tups,I.base.frzs,I.base.tbls⟩,⟨_,hn',fun j y v' e1 e2 e3=>?_⟩,fun y c e=>?_,I.free,I.freeC,fun p hp=>?_,tracked ⟨oL,hoL,I.free⟩ hs,by simpa using I.len⟩ ⟨_,hs,.inl rfl⟩
  ·exact (hs.2 b (Nat.ne_of_lt (Nat.lt_of_lt_of_le (Heap.lt_size e) I.ok.above))).trans (I.base.keep b o e n hb hx)
  ·obtain⟨sl,e1⟩:=I.base.slot b o e n hb hx
   exact⟨sl,(hs.2 b (Nat.ne_of_lt (Nat.lt_of_lt_of_le (Heap.lt_size e) I.ok.above))).trans e1⟩
  ·obtain⟨o',e1⟩:=I.base.there b o e hx
   exact⟨o',(hs.2 b (Nat.ne_of_lt (Nat.lt_of_lt_of_le (Heap.lt_size e) I.ok.above))).trans e1⟩
  ·by_cases hj:j=i
   ·subst hj
    rw [hi] at e1;cases e1
    rw [List.getElem?_set_self hiσ] at e2
    cases e2
    exact⟨u,r,.inl ⟨hk,by simp⟩⟩
   ·rw [List.getElem?_set_ne (Ne.symm hj)] at e2
    obtain⟨u',r',q⟩:=hl j y v' e1 e2 e3
    refine⟨u',r',?_⟩
    rcases q with⟨k,e⟩ | ⟨k,c,e,z⟩
    ·refine .inl ⟨k,?_⟩
     have:y≠x:=fun e=>hj (Xx hN e1 (e ▸ hi))
     simp [this,e]
    ·exact .inr ⟨k,c,e,z.sameBut hs (cne y c e)⟩
  ·obtain⟨w',z⟩:=I.cell y c e
   exact⟨w',z.sameBut hs (cne y c e)⟩
  ·obtain⟨e,n,ne,nf,d⟩:=I.pin p hp
   exact⟨(hs.2 p.1 ne).trans e,n,ne,nf,d⟩
 ·have hfn:X.fn x=true:=by
   rcases hf with z |z
   ·exact z
   ·rw [z] at hk;cases hk
  obtain⟨c,hc⟩:=I.ok.has x (.inl hk)
  obtain⟨w',z⟩:=I.cell x c hc
  refine wpAny_storeName_cell I.ok.kind hk hc z (fun h' hc' hs=>?_)
  obtain⟨oc,hoc,hocd⟩:=id z
  refine h { s with heap:=h' } ⟨I.ok,I.os,I.bare,⟨fun b o e n hb hx=>?_,fun b o e n hb hx=>?_,I.base.free,fun b o e hx=>?_,I.base.tups,I.base.frzs,I.base.tbls⟩,⟨m,hn.sameBut hs (Ne.symm (cne x c hc)),fun j y v' e1 e2 e3=>?_⟩,fun y c' e=>?_,I.free,I.freeC,fun p hp=>?_,tracked ⟨oc,hoc,I.freeC x c hc⟩ hs,by simpa using I.len⟩ ⟨c,hs,.inr hc⟩
  ·exact (hs.2 b (Nat.ne_of_lt (Nat.lt_of_lt_of_le (Heap.lt_size e) (I.ok.cab x c hfn hc)))).trans (I.base.keep b o e n hb hx)
  ·obtain⟨sl,e1⟩:=I.base.slot b o e n hb hx
   exact⟨sl,(hs.2 b (Nat.ne_of_lt (Nat.lt_of_lt_of_le (Heap.lt_size e) (I.ok.cab x c hfn hc)))).trans e1⟩
  ·obtain⟨o',e1⟩:=I.base.there b o e hx
   exact⟨o',(hs.2 b (Nat.ne_of_lt (Nat.lt_of_lt_of_le (Heap.lt_size e) (I.ok.cab x c hfn hc)))).trans e1⟩
  ·by_cases hj:j=i
   ·subst hj
    rw [hi] at e1;cases e1
    rw [List.getElem?_set_self hiσ] at e2
    cases e2
    exact⟨u,r,.inr ⟨.inl hk,c,hc,hc'⟩⟩
   ·rw [List.getElem?_set_ne (Ne.symm hj)] at e2
    obtain⟨u',r',q⟩:=hl j y v' e1 e2 e3
    refine⟨u',r',?_⟩
    rcases q with q | ⟨k,c',e,z'⟩
    ·exact .inl q
    ·refine .inr ⟨k,c',e,z'.sameBut hs ?_⟩
     rintro rfl
     exact hj (Xx hN e1 (I.ok.inj _ _ _ e hc ▸ hi))
  ·by_cases hcc:c'=c
   ·subst hcc;exact⟨_,hc'⟩
   ·obtain⟨w2,z2⟩:=I.cell y c' e
    exact⟨w2,z2.sameBut hs hcc⟩
  ·obtain⟨e,n,ne,nf,d⟩:=I.pin p hp
   refine⟨(hs.2 p.1 ?_).trans e,n,ne,nf,d⟩
   intro q
   rw [q,hoc] at e
   have q':oc=p.2:=Option.some.inj e
   exact d w' (by rw [<- q'];exact hocd)
theorem vp {M:Model}{A:Around}{E:Value->Shared->Prop}{i:Nat}{x:Str}{v:V}{u:Value}{Q:Unit->Shared->Prop}(I:Inv X pins σ H s) (hN:X.N.Nodup) (hi:X.N[i]? =some x) (hx:Loc X.env.scope x) (r:RelV v u)
  (h:∀ s',Inv X pins (σ.set i (some v)) H s'->Q () s') (hf:X.fn x=true\/X.env.scope.names.lookup x=some .local:=by first |exact .inl rfl |exact .inr rfl |assumption):wpAny M A (storeName X.env x u) Q E s:=
 YH I hN hi hx r (fun s' I' _=>h s' I') hf
theorem Inv.call' {s':Shared}{ch:List Addr}(I:Inv X pins σ H s) (ho:s'.os=s.os) (u:Un (frs X.stack) ch H H' s.heap s'.heap) (hok:HOk X.prog X.w H' s'.heap) (hg:AllBare s'.gens)
  (hch:∀ b∈ch,(b∈X.ex\/X.s₀.heap.objs.size≤b)/\b≠X.env.locals/\(∀ x c,X.env.cells.lookup x=some c->c≠b)/\∀ p∈X.pn ++ pins,p.1≠b):Inv X pins σ H' s':=by
 obtain⟨h',g',d',t',o'⟩:=s'
 have e:o'=s.os:=ho
 subst e
 exact I.call (g':=g') (t':=t') (d':=d') u hok hg hch
end
abbrev XK:=Value->Option Addr->Hp->Prop
noncomputable abbrev St:=List (Option V)
abbrev VK:=V->Hp->Prop
abbrev TE:=St->Hp->VK->Prop
abbrev TT:=St->Hp->(Bool->Hp->Prop)->Prop
abbrev TA:=St->Hp->(List V->Hp->Prop)->Prop
structure Ends where
 nx:St->Hp->Prop
 rt:VK
 bk:St->Hp->Prop:=fun _ _=>False
 ct:St->Hp->Prop:=fun _ _=>False
abbrev TS:=Ends->St->Hp->Prop
def EP (X:Cx) (pins:List (Addr×Obj)) (σ:St) (Q:VK) (u:Value) (s':Shared):Prop:=∃ v H',Inv X pins σ H' s'/\RelV v u/\Q v H'
def TP (X:Cx) (pins:List (Addr×Obj)) (σ:St) (Q:Bool->Hp->Prop) (b:Bool) (s':Shared):Prop:=∃ H',Inv X pins σ H' s'/\Q b H'
def AP (X:Cx) (pins:List (Addr×Obj)) (σ:St) (Q:List V->Hp->Prop) (us:List Value) (s':Shared):Prop:=∃ vs H',Inv X pins σ H' s'/\Vals vs us/\Q vs H'
def SP (X:Cx) (pins:List (Addr×Obj)) (D:Ends) (f:Flow) (s':Shared):Prop:=
 match f with
 |.next=>∃ σ' H',Inv X pins σ' H' s'/\D.nx σ' H'
 |.brk=>∃ σ' H',Inv X pins σ' H' s'/\D.bk σ' H'
 |.cont=>∃ σ' H',Inv X pins σ' H' s'/\D.ct σ' H'
 |.ret u=>∃ v σ' H',Inv X pins σ' H' s'/\RelV v u/\D.rt v H'
def PE (X:Cx) (e:Expr) (t:TE):Prop:=
 ∀ (pins:List (Addr×Obj)) (s:Shared) (σ:St) (H:Hp) (Q:VK),Inv X pins σ H s->t σ H Q->wpAny (model X.prog X.w) X.A (eval e X.env) (EP X pins σ Q) X.xe s
def PT (X:Cx) (e:Expr) (t:TT):Prop:=
 ∀ (pins:List (Addr×Obj)) (s:Shared) (σ:St) (H:Hp) (Q:Bool->Hp->Prop),Inv X pins σ H s->t σ H Q->wpAny (model X.prog X.w) X.A (isTrue e X.env (eval e X.env)) (TP X pins σ Q) X.xe s
def PW (X:Cx) (e:Expr) (t:TT):Prop:=
 ∀ (whole:Sem Value) (pins:List (Addr×Obj)) (s:Shared) (σ:St) (H:Hp) (Q:Bool->Hp->Prop),Inv X pins σ H s->t σ H Q->wpAny (model X.prog X.w) X.A (isTrue e X.env whole) (TP X pins σ Q) X.xe s
theorem PW.pt {X:Cx}{e:Expr}{t:TT}(h:PW X e t):PT X e t:=h _
def PA (X:Cx) (es:List Expr) (t:TA):Prop:=
 ∀ (pos:Pos) (pins:List (Addr×Obj)) (s:Shared) (σ:St) (H:Hp) (Q:List V->Hp->Prop),Inv X pins σ H s->t σ H Q->wpAny (model X.prog X.w) X.A (spliced (backTo pos (starEach es X.env))) (AP X pins σ Q) X.xe s
def PS (X:Cx) (st:Stmt) (t:TS):Prop:=
 ∀ (pins:List (Addr×Obj)) (s:Shared) (σ:St) (H:Hp) (D:Ends),Inv X pins σ H s->t D σ H->wpAny (model X.prog X.w) X.A (exec st X.env) (SP X pins D) X.xe s
def PSs (X:Cx) (st:List Stmt) (t:TS):Prop:=
 ∀ (pins:List (Addr×Obj)) (s:Shared) (σ:St) (H:Hp) (D:Ends),Inv X pins σ H s->t D σ H->wpAny (model X.prog X.w) X.A (execs st X.env) (SP X pins D) X.xe s
theorem thn {α:Type}{t:Sem α}{Q Q':α->Shared->Prop}{M:Model}{A:Around}{E:Value->Shared->Prop}{s:Shared}(h:wpAny M A t Q E s) (hQ:∀ a s,Q a s->Q' a s):wpAny M A t Q' E s:=wpAny_mono h hQ fun _ _ x=>x
section
variable {X:Cx}
def U7 (i:Nat):TE:=fun σ H Q=>∃ v,σ[i]? =some (some v)/\Q v H
def tC (v:V):TE:=fun _ H Q=>Q v H
theorem zdI {i:Nat}{x:Str}{pos:Pos}(hN:X.N[i]? =some x) (hv:Vis X.env.scope x) (hd:(x == ("__debug__":Str))=false:=by decide) (hcd:(x == ("__classdict__":Str))=false:=by decide):PE X (.Name x pos) (U7 i):=by
 intro pins s σ H Q I h
 obtain⟨v,e,h⟩:=h
 obtain⟨m,hn,hl⟩:=I.loc
 obtain⟨u,r,l⟩:=hl i x v hN e hv
 have fin:EP X pins σ Q u s:=⟨v,H,I,r,h⟩
 rcases l with⟨hk,hm⟩ | ⟨hk,c,hc,hcell⟩
 ·exact wpAny_Name (wpAny_loadName_local I.ok.kind hk hn hm fin) hd
 ·rcases hk with hk |hk
  ·exact wpAny_Name (wpAny_loadName_cell I.ok.kind hk hc hcell fin) hd
  ·exact wpAny_Name (wpAny_loadName_free I.ok.kind hk hc hcell fin hcd) hd
theorem za {i j pos}:PE X (.Constant (.int i) j pos) (tC (.int i)):=fun _ _ _ H _ I h=>wpAny_Constant_int ⟨.int i,H,I.tok _,⟨_,rfl⟩,h⟩
theorem xa {b j pos}:PE X (.Constant (.bool b) j pos) (tC (.bl b)):=fun _ _ _ H _ I h=>Constant_bool ⟨.bl b,H,I,rfl,h⟩
theorem xo {j pos}:PE X (.Constant .none j pos) (tC .non):=fun _ _ _ H _ I h=>Constant_none ⟨.non,H,I,rfl,h⟩
theorem zg {x j pos}:PE X (.Constant (.str x) j pos) (tC (.str x)):=fun _ _ _ H _ I h=>Calls.Constant_str ⟨.str x,H,I.tok _,⟨_,rfl⟩,h⟩
def Gl (X:Cx) (x:Str):Prop:=X.env.kindOf x=some .globalImplicit
theorem Ym {E:Value->Shared->Prop}{pins:List (Addr×Obj)}{s:Shared}{σ:St}{H:Hp}{x:Str}{u:Value}{pos:Pos}{Q:Value->Shared->Prop}(I:Inv X pins σ H s) (hg:Gl X x) (hm:X.mg x=some u) (h:Q u s)
  (hd:(x == ("__debug__":Str))=false:=by decide):wpAny (model X.prog X.w) X.A (eval (.Name x pos) X.env) Q E s:=
 Calls.Name_function_global I.ok.kind hg (Calls.loadGlobal_global (by rw [I.ok.glob];exact I.mod.glob.keeps I.bk) hm h) hd
theorem vE {E:Value->Shared->Prop}{pins:List (Addr×Obj)}{s:Shared}{σ:St}{H:Hp}{x:Str}{u:Value}{pos:Pos}{Q:Value->Shared->Prop}(I:Inv X pins σ H s) (hg:Gl X x) (hm:X.mg x=none) (hv:bootBuiltins x=some u) (h:Q u s)
  (hn:x≠"__name__":=by decide) (hd:(x == ("__debug__":Str))=false:=by decide):wpAny (model X.prog X.w) X.A (eval (.Name x pos) X.env) Q E s:=by
 obtain⟨mb,h1,h2⟩:=I.mod.blt
 exact Calls.Name_function_global I.ok.kind hg (Calls.loadGlobal_builtin (by rw [I.ok.glob];exact I.mod.glob.keeps I.bk) hm (by rw [I.ok.blt];exact h1.keeps I.bk) ((h2 x hn).trans hv) h) hd
theorem Yn {x:Str}{v:V}{u:Value}{pos:Pos}(hg:Gl X x) (hm:X.mg x=some u) (r:RelV v u) (hd:(x == ("__debug__":Str))=false:=by decide):PE X (.Name x pos) (tC v):=
 fun _ _ _ H _ I h=>Ym I hg hm ⟨v,H,I,r,h⟩ hd
theorem Us {x:Str}{v:V}{u:Value}{pos:Pos}(hg:Gl X x) (hm:X.mg x=none) (hv:bootBuiltins x=some u) (r:RelV v u) (hn:x≠"__name__":=by decide) (hd:(x == ("__debug__":Str))=false:=by decide):PE X (.Name x pos) (tC v):=
 fun _ _ _ H _ I h=>vE I hg hm hv ⟨v,H,I,r,h⟩ hn hd
variable {a b:Expr}{ta tb:TE}{pos:Pos}
def tB (t:TE):TT:=fun σ H Q=>t σ H fun x H1=>∃ c,x=.bl c/\Q c H1
theorem xH {e:Expr}{t:TE}(h:PE X e t) (he:∀ whole,isTrue e X.env whole=(do let v <- whole;standAt e.pos;holding [v] (truthy v)):=by intro _;rfl):PT X e (tB t):=by
 intro pins s σ H Q I hw
 refine isTrue_plain (thn (h pins s σ H _ I hw) fun v s1 ⟨x,H1,I1,r1,q1⟩=>?_) (he _)
 obtain⟨d,rfl,q⟩:=q1
 cases r1
 exact wpAny_truthy_bool ⟨H1,I1,q⟩
variable {tA tB':TT}{x4:List Expr}
def zdJ (t u:TT):TT:=fun σ H Q=>t σ H fun c H1=>if c=true then u σ H1 Q else Q false H1
def tOr (t u:TT):TT:=fun σ H Q=>t σ H fun c H1=>if c=true then Q true H1 else u σ H1 Q
def zdK (t:TT):TT:=fun σ H Q=>t σ H fun c H1=>Q (!c) H1
theorem vx (ha:PT X a tA):PW X (.BoolOp .And [a] pos) tA:=by
 intro wh pins s σ H Q I h
 refine isTrue_and (thn (ha pins s σ H Q I h) fun c s1 e=>?_)
 cases c with
 |true=>exact isTrue_and_nil e
 |false=>exact e
theorem ZF (ha:PT X a tA):PW X (.BoolOp .Or [a] pos) tA:=by
 intro wh pins s σ H Q I h
 refine isTrue_or (thn (ha pins s σ H Q I h) fun c s1 e=>?_)
 cases c with
 |false=>exact isTrue_or_nil e
 |true=>exact e
theorem ub (ha:PT X a tA) (hb:PW X (.BoolOp .And (b :: x4) pos) tB'):PW X (.BoolOp .And (a :: b :: x4) pos) (zdJ tA tB'):=by
 intro wh pins s σ H Q I h
 refine isTrue_and (thn (ha pins s σ H _ I h) fun c s1 ⟨H1,I1,q1⟩=>?_)
 cases c with
 |true=>exact hb wh pins s1 σ H1 Q I1 q1
 |false=>exact⟨H1,I1,q1⟩
theorem ZG (ha:PT X a tA) (hb:PW X (.BoolOp .Or (b :: x4) pos) tB'):PW X (.BoolOp .Or (a :: b :: x4) pos) (tOr tA tB'):=by
 intro wh pins s σ H Q I h
 refine isTrue_or (thn (ha pins s σ H _ I h) fun c s1 ⟨H1,I1,q1⟩=>?_)
 cases c with
 |true=>exact⟨H1,I1,q1⟩
 |false=>exact hb wh pins s1 σ H1 Q I1 q1
theorem ZH (ha:PT X a tA):PT X (.UnaryOp .Not a pos) (zdK tA):=by
 intro pins s σ H Q I h
 exact isTrue_not (ha pins s σ H (fun c H1=>Q (!c) H1) I h)
def zbf (ta tb:TE):TE:=fun σ H Q=>ta σ H fun x H1=>∃ c,x=.bl c/\if c=true then tb σ H1 Q else Q (.bl false) H1
def zbg (ta:TE):TE:=fun σ H Q=>ta σ H fun x H1=>∃ c,x=.bl c/\Q (.bl (!c)) H1
theorem Xy {op} {t:TE}(h:PE X a t):PE X (.BoolOp op [a] pos) t:=fun pins s σ H Q I hw=>BoolOp_one (h pins s σ H Q I hw)
theorem jS (ha:PE X a ta) (hb:PE X (.BoolOp .And (b :: x4) pos) tb):PE X (.BoolOp .And (a :: b :: x4) pos) (zbf ta tb):=by
 intro pins s σ H Q I h
 refine BoolOp_and (thn (ha pins s σ H _ I h) fun v s1 ⟨x,H1,I1,r1,q1⟩=>?_)
 obtain⟨c,rfl,q1⟩:=q1
 cases r1
 refine wpAny_truthy_bool ?_
 cases c with
 |true=>exact hb pins s1 σ H1 Q I1 q1
 |false=>exact⟨.bl false,H1,I1,rfl,q1⟩
theorem zdL (ha:PE X a ta):PE X (.UnaryOp .Not a pos) (zbg ta):=by
 intro pins s σ H Q I h
 refine UnaryOp_ (thn (ha pins s σ H _ I h) fun v s1 ⟨x,H1,I1,r1,q1⟩=>?_)
 obtain⟨c,rfl,q1⟩:=q1
 cases r1
 exact not_of (wpAny_truthy_bool ⟨.bl (!c),H1,I1,rfl,q1⟩)
def tIf (t:TT) (ta tb:TE):TE:=fun σ H Q=>t σ H fun c H1=>if c=true then ta σ H1 Q else tb σ H1 Q
theorem yZ {c:Expr}(hc:PT X c tA) (ha:PE X a ta) (hb:PE X b tb):PE X (.IfExp c a b pos) (tIf tA ta tb):=by
 intro pins s σ H Q I h
 refine wpAny_IfExp (thn (hc pins s σ H _ I h) fun d s1 ⟨H1,I1,q1⟩=>?_)
 cases d with
 |true=>exact ha pins s1 σ H1 Q I1 q1
 |false=>exact hb pins s1 σ H1 Q I1 q1
end
def SqL (K:W.Frag) (H:Hp) (a:Addr) (xs:List V):Prop:=
 Rd H a (.lst xs)\/
  ∃ (o:Obj) (its:Array Value) (n:Nat),K.lookup a=some o/\o.cls=.type "list"/\o.dict=none/\o.data=.seq its n/\its.size≤sizeLine/\Vals xs its.toList
def SqT (K:W.Frag) (H:Hp) (a:Addr) (xs:List V):Prop:=
 Rd H a (.tup xs)\/
  ∃ (o:Obj) (its:Array Value) (n:Nat),K.lookup a=some o/\o.cls=.type "tuple"/\o.data=.seq its n/\its.size≤sizeLine/\Vals xs its.toList
noncomputable def zgj:Value->Option V
 |.none=>some .non
 |.bool b=>some (.bl b)
 |.int i _=>some (.int i)
 |.str x _=>some (.str x)
 |.bytes b _=>some (.byt b)
 |.float b _=>some (.flt b)
 |.ref a=>some (.ref a)
 |.type n=>some (.ty n)
 |_=>none
theorem RelV.abs {x:V}{u:Value}(r:RelV x u):zgj u=some x:=by
 cases x with
 |non=>cases r;rfl
 |bl _=>cases r;rfl
 |int _=>obtain⟨t,rfl⟩:=r;rfl
 |str _=>obtain⟨t,rfl⟩:=r;rfl
 |byt _=>obtain⟨t,rfl⟩:=r;rfl
 |flt _=>obtain⟨t,rfl⟩:=r;rfl
 |ref _=>cases r;rfl
 |ty _=>cases r;rfl
theorem RelV.inj {x y:V}{u:Value}(r:RelV x u) (q:RelV y u):x=y:=Option.some.inj (r.abs.symm.trans q.abs)
theorem Vals.inj:∀ {xs ys:List V}{us:List Value},Vals xs us->Vals ys us->xs=ys
 |_,_,_,.nil,.nil=>rfl
 |_,_,_,.cons r t,.cons r' t'=>by rw [r.inj r',Vals.inj t t']
section
variable {X:Cx}{pins:List (Addr×Obj)}{σ:St}{H:Hp}{s:Shared}{a:Addr}{xs ys:List V}
theorem SqL.of {K:W.Frag}(h:H a=some (.lst xs)):SqL K H a xs:=.inl (.inl h)
theorem SqT.of {K:W.Frag}(h:H a=some (.tup xs)):SqT K H a xs:=.inl (.inl h)
theorem Inv.list (I:Inv X pins σ H s) (h:SqL X.K H a xs):∃ its:List Value,Vals xs its/\PlainL s.heap a its.toArray/\xs.length≤sizeLine:=by
 rcases h with h | ⟨o,its,n,hk,hc,hd,hs,hz,r⟩
 ·obtain⟨z,its,n,r,e⟩:=h.ok I.hok
  exact⟨its,r,⟨_,n,e,rfl,rfl,rfl⟩,z⟩
 ·refine⟨its.toList,r,⟨o,n,I.kIn a o hk,hc,hd,by simpa using hs⟩,?_⟩
  have e:=r.length
  simp only [Array.length_toList] at e
  omega
theorem Inv.tuple (I:Inv X pins σ H s) (h:SqT X.K H a xs):∃ its:List Value,Vals xs its/\IsTup s.heap a its.toArray/\xs.length≤sizeLine:=by
 rcases h with h | ⟨o,its,n,hk,hc,hs,hz,r⟩
 ·obtain⟨z,its,r,p⟩:=h.ok I.hok
  exact⟨its,r,p,z⟩
 ·refine⟨its.toList,r,⟨o,I.kIn a o hk,hc,n,by simpa using hs⟩,?_⟩
  have e:=r.length
  simp only [Array.length_toList] at e
  omega
theorem Inv.list_inj (I:Inv X pins σ H s) (h:SqL X.K H a xs) (h':SqL X.K H a ys):xs=ys:=by
 obtain⟨its,r,⟨o,n,e,_,_,d⟩,_⟩:=I.list h
 obtain⟨its',r',⟨o',n',e',_,_,d'⟩,_⟩:=I.list h'
 rw [e] at e';cases e'
 rw [d] at d'
 injection d' with d1 _
 have:its=its':=by simpa using congrArg Array.toList d1
 subst this
 exact r.inj r'
theorem Inv.tuple_inj (I:Inv X pins σ H s) (h:SqT X.K H a xs) (h':SqT X.K H a ys):xs=ys:=by
 obtain⟨its,r,⟨o,e,_,n,d⟩,_⟩:=I.tuple h
 obtain⟨its',r',⟨o',e',_,n',d'⟩,_⟩:=I.tuple h'
 rw [e] at e';cases e'
 rw [d] at d'
 injection d' with d1 _
 have:its=its':=by simpa using congrArg Array.toList d1
 subst this
 exact r.inj r'
end
noncomputable abbrev Cx.wish (X:Cx) (E:Value->Shared->Prop):Cx:={ X with xe:=E }
noncomputable abbrev Cx.nox (X:Cx):Cx:=X.wish fun _ _=>False
theorem Cx.Ok.wish {X:Cx}(ok:X.Ok) (E:Value->Shared->Prop):(X.wish E).Ok:=
 ⟨ok.mod,ok.kind,ok.glob,ok.blt,ok.above,ok.inj,ok.has,ok.cab,ok.hd,ok.frames,ok.stk,ok.exf,ok.bs,ok.bsz,ok.noex,ok.exfs,ok.funs,ok.frf⟩
theorem Cx.Ok.unwish {X:Cx}{E:Value->Shared->Prop}(ok:(X.wish E).Ok):X.Ok:=
 ⟨ok.mod,ok.kind,ok.glob,ok.blt,ok.above,ok.inj,ok.has,ok.cab,ok.hd,ok.frames,ok.stk,ok.exf,ok.bs,ok.bsz,ok.noex,ok.exfs,ok.funs,ok.frf⟩
section
variable {X:Cx}{pins:List (Addr×Obj)}{σ:St}{H:Hp}{s:Shared}{E:Value->Shared->Prop}
theorem Inv.wish (I:Inv X pins σ H s) (E:Value->Shared->Prop):Inv (X.wish E) pins σ H s:=⟨I.ok.wish E,I.os,I.bare,I.base,I.loc,I.cell,I.free,I.freeC,I.pin,I.hok,I.len⟩
theorem Inv.unwish (I:Inv (X.wish E) pins σ H s):Inv X pins σ H s:=⟨I.ok.unwish,I.os,I.bare,I.base,I.loc,I.cell,I.free,I.freeC,I.pin,I.hok,I.len⟩
theorem SP.unwish {D:Ends}{f:Flow}{s':Shared}(h:SP (X.wish E) pins D f s'):SP X pins D f s':=by
 cases f with
 |next=>obtain⟨σ',H',I,q⟩:=h;exact⟨σ',H',I.unwish,q⟩
 |brk=>obtain⟨σ',H',I,q⟩:=h;exact⟨σ',H',I.unwish,q⟩
 |cont=>obtain⟨σ',H',I,q⟩:=h;exact⟨σ',H',I.unwish,q⟩
 |ret u=>obtain⟨v,σ',H',I,r,q⟩:=h;exact⟨v,σ',H',I.unwish,r,q⟩
theorem PE.nox {e:Expr}{t:TE}(h:PE X.nox e t):PE X e t:=fun pins s σ H Q I hw=>
 wpAny_mono (h pins s σ H Q (I.wish _) hw) (fun _ _ ⟨v,H',I',r,q⟩=>⟨v,H',I'.unwish,r,q⟩) fun _ _ z=>False.elim z
theorem PT.nox {e:Expr}{t:TT}(h:PT X.nox e t):PT X e t:=fun pins s σ H Q I hw=>
 wpAny_mono (h pins s σ H Q (I.wish _) hw) (fun _ _ ⟨H',I',q⟩=>⟨H',I'.unwish,q⟩) fun _ _ z=>False.elim z
theorem PSs.nox {st:List Stmt}{t:TS}(h:PSs X.nox st t):PSs X st t:=fun pins s σ H D I hw=>
 wpAny_mono (h pins s σ H D (I.wish _) hw) (fun _ _ q=>q.unwish) fun _ _ z=>False.elim z
end
section
variable {X:Cx}{st:Stmt}{x4:List Stmt}{t u:TS}{e:Expr}{te:TE}{pos:Pos}
def zbh:TS:=fun D σ H=>D.nx σ H
def zdM (t u:TS):TS:=fun D σ H=>t { D with nx:=u D } σ H
theorem yh:PSs X [] zbh:=fun _ _ σ H _ I h=>wpAny_execs_nil ⟨σ,H,I,h⟩
theorem zd (h1:PS X st t) (h2:PSs X x4 u):PSs X (st :: x4) (zdM t u):=by
 intro pins s σ H D I h
 refine wpAny_execs_cons (thn (h1 pins s σ H { D with nx:=u D } I h) fun f s1 q=>?_)
 cases f with
 |next=>
  obtain⟨σ',H',I',q⟩:=q
  exact h2 pins s1 σ' H' D I' q
 |ret v=>exact q
 |brk=>exact q
 |cont=>exact q
theorem zf (h1:PS X st t):PSs X [st] t:=by
 intro pins s σ H D I h
 refine wpAny_execs_cons (thn (h1 pins s σ H D I h) fun f s1 q=>?_)
 cases f with
 |next=>exact wpAny_execs_nil q
 |ret v=>exact q
 |brk=>exact q
 |cont=>exact q
theorem Inv.quiet {pins:List (Addr×Obj)}{σ:St}{H:Hp}{s:Shared}(I:Inv X pins σ H s):interactive X.env=false:=by simp [interactive,I.ok.kind]
def zbi (te:TE):TS:=fun D σ H=>te σ H fun _ H1=>D.nx σ H1
theorem yF (he:PE X e te) (hs:swapsWith e none pos.line X.env=pure false:=by rfl):PS X (.Expr e pos) (zbi te):=by
 intro pins s σ H D I h
 exact wpAny_Expr_any (thn (he pins s σ H _ I h) fun v s1 ⟨x,H1,I1,r1,q1⟩=>⟨σ,H1,I1,q1⟩) I.quiet hs
def zdN (te:TE):TS:=fun D σ H=>te σ H D.rt
theorem yg (he:PE X e te):PS X (.Return (some e) pos) (zdN te):=by
 intro pins s σ H D I h
 exact wpAny_Return_some (thn (he pins s σ H _ I h) fun v s1 ⟨x,H1,I1,r1,q1⟩=>⟨x,σ,H1,I1,r1,q1⟩)
def zdO (c:TT) (t u:TS):TS:=fun D σ H=>c σ H fun b H1=>if b=true then t D σ H1 else u D σ H1
theorem yw {c:Expr}{a b:List Stmt}{tc:TT}(hc:PT X c tc) (ha:PSs X a t) (hb:PSs X b u):PS X (.If c a b pos) (zdO tc t u):=by
 intro pins s σ H D I h
 refine wpAny_If (thn (hc pins s σ H _ I h) fun d s1 ⟨H1,I1,q1⟩=>?_)
 cases d with
 |true=>exact ha pins s1 σ H1 D I1 q1
 |false=>exact hb pins s1 σ H1 D I1 q1
def Jn:TS:=fun _ _ _=>False
theorem KC:PS X st Jn:=fun _ _ _ _ _ _ h=>h.elim
end
abbrev TG:=V->St->Hp->(St->Hp->Prop)->Prop
abbrev TGs:=List V->St->Hp->(St->Hp->Prop)->Prop
def PG (X:Cx) (target:Expr) (t:TG):Prop:=
 ∀ (pins:List (Addr×Obj)) (s:Shared) (σ:St) (H:Hp) (v:V) (u:Value) (Q:St->Hp->Prop),Inv X pins σ H s->RelV v u->t v σ H Q->
  wpAny (model X.prog X.w) X.A (assign target X.env u) (fun _ s'=>∃ σ' H',Inv X pins σ' H' s'/\Q σ' H') X.xe s
def PGs (X:Cx) (ts:List Expr) (t:TGs):Prop:=
 ∀ (pins:List (Addr×Obj)) (s:Shared) (σ:St) (H:Hp) (vs:List V) (us:List Value) (Q:St->Hp->Prop),Inv X pins σ H s->Vals vs us->t vs σ H Q->
  wpAny (model X.prog X.w) X.A (assignInOrder ((assignEach ts X.env).map (·.2)) us) (fun _ s'=>∃ σ' H',Inv X pins σ' H' s'/\Q σ' H') X.xe s
abbrev KF:=V->V->V->Hp->(Hp->Prop)->Prop
def zdP (X:Cx) (t:KF):Prop:=
 ∀ (pins:List (Addr×Obj)) (s:Shared) (σ:St) (H:Hp) (o i v:V) (ov iv u:Value) (Q:Hp->Prop),Inv X pins σ H s->RelV o ov->RelV i iv->RelV v u->t o i v H Q->
  wpAny (model X.prog X.w) X.A (setItem ov iv u) (fun _ s'=>∃ H',Inv X pins σ H' s'/\Q H') X.xe s
section
variable {X:Cx}{pos:Pos}
def jo (i:Nat):TG:=fun v σ H Q=>Q (σ.set i (some v)) H
theorem yx {i:Nat}{x:Str}(hN:X.N.Nodup) (hi:X.N[i]? =some x) (hx:Loc X.env.scope x) (hf:X.fn x=true\/X.env.scope.names.lookup x=some .local:=by first |exact .inl rfl |exact .inr rfl |assumption):PG X (.Name x pos) (jo i):=by
 intro pins s σ H v u Q I r h
 exact wpAny_assign_Name (vp I hN hi hx r (fun s' I'=>⟨_,H,I',h⟩) hf)
def zdQ:TGs:=fun vs σ H Q=>vs=[]/\Q σ H
def zbj (t:TG) (u:TGs):TGs:=fun vs σ H Q=>∃ v r,vs=v :: r/\t v σ H fun σ' H'=>u r σ' H' Q
theorem vL:PGs X [] zdQ:=by
 intro pins s σ H vs us Q I r h
 obtain⟨e,h⟩:=h
 subst e
 cases r
 exact assignInOrder_nil ⟨σ,H,I,h⟩
theorem yY {e:Expr}{es:List Expr}{t:TG}{u:TGs}(h1:PG X e t) (h2:PGs X es u)
  (hs:(assignEach (e :: es) X.env).map (·.2)=assign e X.env :: (assignEach es X.env).map (·.2):=by rfl):PGs X (e :: es) (zbj t u):=by
 intro pins s σ H vs us Q I r h
 obtain⟨v,vr,e1,h⟩:=h
 subst e1
 cases r with
 |cons r rr=>
  rw [hs]
  refine assignInOrder_cons (thn (h1 pins s σ H _ _ _ I r h) fun _ s1 ⟨σ1,H1,I1,q1⟩=>?_)
  exact h2 pins s1 σ1 H1 _ _ Q I1 rr q1
def KG (K:W.Frag) (n:Nat) (t:TGs):TG:=fun v σ H Q=>∃ a xs,v=.ref a/\SqT K H a xs/\xs.length=n/\t xs σ H Q
theorem zdR {es:List Expr}{k:Nat}{t:TGs}{n:Nat}(hc:X.calm=true) (h:PGs X es t)
  (hn:(assignEach es X.env).length=n:=by rfl) (hst:(assignEach es X.env).findIdx? (·.1)=none:=by rfl):PG X (.Tuple es k pos) (KG X.K n t):=by
 intro pins s σ H v u Q I r hw
 obtain⟨a,xs,e1,hq,hl,hw⟩:=hw
 subst e1
 cases r
 obtain⟨its,rv,ht,hz⟩:=I.tuple hq
 refine assign_Tuple_tuple (I.ok.hd hc) ht (by simp [hn,<- hl,rv.length]) hst fun h' hx=>?_
 have I1:Inv X pins σ H { s with heap:=h' }:=I.kept (t':=s.toks) fun b o e=>hx b o (Nat.ne_of_lt (Heap.lt_size e)) e
 exact h pins _ σ H xs _ Q I1 (by simpa using rv) hw
def zdS (to ti:TE) (t:KF):TG:=fun v σ H Q=>to σ H fun o H1=>ti σ H1 fun i H2=>t o i v H2 fun H3=>Q σ H3
theorem uA {o i:Expr}{to ti:TE}{t:KF}(ho:PE X o to) (hi:PE X i ti) (hs:zdP X t)
    (ha:∀ v,assign (.Subscript o i pos) X.env v=(do
      let ov <- holding [v] (eval o X.env)
      let iv <- holding [v,ov] (eval i X.env)
      standAt pos
      holding [v,ov,iv] (setItem ov iv v)
      release [v,ov,iv] []):=by intro _;rfl):PG X (.Subscript o i pos) (zdS to ti t):=by
  intro pins s σ H v u Q I r h
  rw [ha]
  refine wpAny_bind (wpAny_holding (thn (ho pins s σ H _ I h) fun ov s1 ⟨x,H1,I1,r1,q1⟩=>?_))
  refine wpAny_bind (wpAny_holding (thn (hi pins s1 σ H1 _ I1 q1) fun iv s2 ⟨y,H2,I2,r2,q2⟩=>?_))
  refine wpAny_bind (wpAny_standAt (wpAny_bind (wpAny_holding (thn (hs pins s2 σ H2 x y v ov iv u _ I2 r1 r2 r q2) fun _ s3 ⟨H3,I3,q3⟩=>?_))))
  exact wpAny_release ⟨σ,H3,I3,q3⟩
def Yo (te:TE) (g:TG):TS:=fun D σ H=>te σ H fun x H1=>g x σ H1 D.nx
theorem xQ {tg e:Expr}{te:TE}{g:TG}(he:PE X e te) (hg:PG X tg g) (hs:swapsWithSole [tg] e pos.line X.env=pure false:=by rfl) (hw:swappedStores [tg] e X.env=pure none:=by rfl)
  (h1:(assignEach [tg] X.env).map (·.2)=[assign tg X.env]:=by rfl):PS X (.Assign [tg] e pos) (Yo te g):=by
 intro pins s σ H D I h
 refine wpAny_Assign_stores (thn (he pins s σ H _ I h) fun v s1 ⟨x,H1,I1,r1,q1⟩=>?_) hs hw
 rw [h1]
 exact thn (hg pins s1 σ H1 x v _ I1 r1 q1) fun _ s2 q=>q
theorem yn {i:Nat}{x:Str}{e:Expr}{te:TE}{pos':Pos}(hN:X.N.Nodup) (hi:X.N[i]? =some x) (hx:Loc X.env.scope x) (he:PE X e te) (hs:swapsWith e (some (.Name x pos')) pos.line X.env=pure false:=by rfl) (hf:X.fn x=true\/X.env.scope.names.lookup x=some .local:=by first |exact .inl rfl |exact .inr rfl |assumption) :
  PS X (.Assign [.Name x pos'] e pos) (Yo te (jo i)):=by
 intro pins s σ H D I h
 refine wpAny_Assign_Name (thn (he pins s σ H _ I h) fun v s1 ⟨y,H1,I1,r1,q1⟩=>?_) hs
 exact vp I1 hN hi hx r1 (fun s2 I2=>⟨_,H1,I2,q1⟩) hf
def zdT (i j:Nat) (ta:TA):TS:=fun D σ H=>ta σ H fun vs H1=>∃ v w,vs=[v,w]/\D.nx ((σ.set i (some v)).set j (some w)) H1
theorem zdU {i j:Nat}{x y:Str}{a b:Expr}{ta:TA}{px py pt:Pos}{kt k2 pt2} (hc:X.calm=true) (hN:X.N.Nodup) (hi:X.N[i]? =some x) (hj:X.N[j]? =some y) (hij:i≠j)
  (hx:X.env.scope.names.lookup x=some .local) (hy:X.env.scope.names.lookup y=some .local) (ha:PA X [a,b] ta)
  (hw:swappedStores [.Tuple [.Name x px,.Name y py] kt pt] (.Tuple [a,b] k2 pt2) X.env=pure (some [x,y]))
  (hs:swapsWithSole [.Tuple [.Name x px,.Name y py] kt pt] (.Tuple [a,b] k2 pt2) pos.line X.env=pure false:=by rfl) :
  PS X (.Assign [.Tuple [.Name x px,.Name y py] kt pt] (.Tuple [a,b] k2 pt2) pos) (zdT i j ta):=by
 intro pins s σ H D I h
 rw [exec_Assign_arm]
 refine wpAny_bind (wpAny_standAt ?_)
 rw [hs]
 refine wpAny_bind (wpAny_pure ?_)
 rw [if_neg (by decide)]
 refine wpAny_bind (Tuple_ (thn (ha _ pins s σ H _ I h) fun us s1 ⟨vs,H1,I1,r1,q1⟩=>?_))
 obtain⟨v,w,e1,q1⟩:=q1
 subst e1
 obtain⟨u1,u2,rfl,rv,rw'⟩:∃ u1 u2,us=[u1,u2]/\RelV v u1/\RelV w u2:=by
  cases r1 with
  |cons p q=>
   cases q with
   |cons p' q'=>
    cases q'
    exact⟨_,_,rfl,p,p'⟩
 refine wpAny_newObj_type ?_ (by show 2≤sizeLine;decide)
 have I2:Inv X pins σ H1 { s1 with heap:=s1.heap.push { cls:=.type "tuple",data:=.seq [u1,u2].toArray } }:=I1.kept (t':=s1.toks) fun b o e=>Heap.get?_push_of_some _ e
 rw [hw]
 refine wpAny_bind (wpAny_pure ?_)
 show wpAny (model X.prog X.w) X.A (do rule "assign.swapped-stores";let items <- unpackItems (.ref s1.heap.objs.size) 2 none;assignInOrder [fun v=>bindName X.env y v,fun v=>bindName X.env x v] items.reverse;pure Flow.next) _ _ _
 refine wpAny_bind (wpAny_rule (wpAny_bind (unpackItems_tuple (items:=#[u1,u2]) (I.ok.hd hc) (IsTup.new s1.heap _) fun h' hx'=>?_)))
 have I3:=I2.kept (h':=h') (t':=s1.toks) fun b o e=>hx' b o (Nat.ne_of_lt (Heap.lt_size e)) e
 show wpAny _ _ (assignInOrder [fun v=>bindName X.env y v,fun v=>bindName X.env x v] [u2,u1] >>= fun _=>pure Flow.next) _ _ _
 refine wpAny_bind (assignInOrder_cons (wpAny_bindName (vp I3 hN hj (.inl hy) rw' (fun s2 I4=>?_) (.inr hy))))
 refine assignInOrder_cons (wpAny_bindName (vp I4 hN hi (.inl hx) rv (fun s3 I5=>assignInOrder_nil (wpAny_pure ?_)) (.inr hx)))
 rw [List.set_comm _ _ (Ne.symm hij)] at I5
 exact⟨_,H1,I5,q1⟩
end
section
variable {X:Cx}{pos:Pos}
end
structure It where
 go:Nat->Hp->Prop
 yld:Nat->Hp->V->Hp->Prop
 stop:Nat->Hp->Prop
def FpOk (X:Cx) (pins:List (Addr×Obj)) (H:Hp) (b:Addr):Prop:=
 H b=none/\b≠X.env.locals/\b ∉ X.fs/\(b∈X.ex\/X.s₀.heap.objs.size≤b)/\(∀ x c,X.env.cells.lookup x=some c->c≠b)/\∀ p∈X.pn ++ pins,p.1≠b
theorem Inv.fpOk {X:Cx}{pins:List (Addr×Obj)}{σ:St}{H H':Hp}{s:Shared}{b:Addr}(I:Inv X pins σ H s) (hb:s.heap.objs.size≤b) (hn:H' b=none):FpOk X pins H' b:=by
 refine⟨hn,Nat.ne_of_gt (Nat.lt_of_lt_of_le I.lt hb),I.nofs hb,.inr (Nat.le_trans I.sz hb),fun x c e z=>?_,fun p hp z=>?_⟩
 ·obtain⟨v,q⟩:=I.cell x c e
  exact absurd (Nat.lt_of_lt_of_le q.lt (by rw [z];exact hb)) (Nat.lt_irrefl _)
 ·exact absurd (Nat.lt_of_lt_of_le (Heap.lt_size (I.pin p hp).1) (by rw [z];exact hb)) (Nat.lt_irrefl _)
structure Turn (P:Program) (w:World) (K:W.Frag) (tg:Expr) (J:It) (fp:List Addr) (it:Addr) (tn:Nat->Heap->Prop):Prop where
  mem:it∈fp
  obj:∀ i h,tn i h->∀ b∈fp,∃ o,h.get? b=some o/\∀ v,o.data≠.cell v
  keep:∀ i h h',tn i h->(∀ b∈fp,∀ o,h.get? b=some o->h'.get? b=some o)->tn i h'
  item:∀ (X:Cx),X.prog=P->X.w=w->X.K=K->X.calm=true->∀ (i:Nat) (pins:List (Addr×Obj)) (s:Shared) (σ:St) (H:Hp) (E:Value->Shared->Prop),Inv X pins σ H s->(∀ b∈fp,FpOk X pins H b)->tn i s.heap->J.go i H->
    wpAny (model P w) X.A (pyNext (.ref it)) (fun r s1=>∃ u,r=some u/\
      wpAny (model P w) X.A (letOwnedTupleGo tg (.ref it) u) (fun _ s2=>∃ x H',Inv X pins σ H' s2/\RelV x u/\J.yld i H x H'/\tn (i+1) s2.heap/\∀ b∈fp,H' b=none) E s1) E s
  done:∀ (X:Cx),X.prog=P->X.w=w->X.K=K->X.calm=true->∀ (i:Nat) (pins:List (Addr×Obj)) (s:Shared) (σ:St) (H:Hp) (E:Value->Shared->Prop),Inv X pins σ H s->(∀ b∈fp,FpOk X pins H b)->tn i s.heap->J.stop i H->
    wpAny (model P w) X.A (pyNext (.ref it)) (fun r s1=>r=none/\Inv X pins σ H s1) E s
  self:∀ (A:Around) (i:Nat) (s:Shared) (Q:Value->Shared->Prop) (E:Value->Shared->Prop),tn i s.heap->Q (.ref it) s->wpAny (model P w) A (pyIter (.ref it)) Q E s
abbrev TI:=St->Hp->(It->Hp->Prop)->Prop
def PIE (X:Cx) (pins:List (Addr×Obj)) (σ:St) (tg:Expr) (R:It->Hp->Prop) (itv:Value) (s2:Shared):Prop:=
 ∃ (it:Addr) (fp:List Addr) (tn:Nat->Heap->Prop) (J:It) (H':Hp),itv=.ref it/\Inv X pins σ H' s2/\Turn X.prog X.w X.K tg J fp it tn/\tn 0 s2.heap/\(∀ b∈fp,FpOk X pins H' b)/\R J H'
def PI (X:Cx) (tg iter:Expr) (wi:TI):Prop:=
 ∀ (pins:List (Addr×Obj)) (s:Shared) (σ:St) (H:Hp) (R:It->Hp->Prop),Inv X pins σ H s->wi σ H R->
  wpAny (model X.prog X.w) X.A (eval iter X.env) (fun v s1=>wpAny (model X.prog X.w) X.A (pyIter v) (PIE X pins σ tg R) X.xe s1) X.xe s
theorem Xi {M:Model}{A:Around}{E:Value->Shared->Prop}{s:Shared}{tg:Expr}{it:Addr}{u:Value}{o:Obj}{n:String}{vs:Array Value}{Q:Unit->Shared->Prop}(ho:s.heap.get? it=some o) (hc:o.cls=.type n) (hd:o.data=.fields vs)
    (hn:["enumerate","zip","dict_itemiterator","dict_reverseitemiterator","odict_iterator","itertools.zip_longest","itertools.pairwise"].contains n=false) (hQ:Q () s):wpAny M A (letOwnedTupleGo tg (.ref it) u) Q E s:=by
  unfold letOwnedTupleGo
  cases tg <;> first
    |exact wpAny_pure hQ
    | (cases u <;> first
        |exact wpAny_pure hQ
        | (refine wpAny_bind (wpAny_load ho ?_)
           rw [hc,hd]
           show wpAny M A (if (["enumerate","zip","dict_itemiterator","dict_reverseitemiterator","odict_iterator","itertools.zip_longest","itertools.pairwise"].contains n && vs[0]? == some (rawInt _))=true then _ else _) Q E s
           rw [if_neg (by intro h;rw [hn,Bool.false_and] at h;cases h)]
           exact wpAny_pure hQ))
noncomputable def Itl (K:W.Frag) (a:Addr):It:=
 ⟨fun i H=>∃ xs x,SqL K H a xs/\xs[i]? =some x,fun i H x H'=>H'=H/\∀ xs,SqL K H a xs->xs[i]? =some x,fun i H=>∃ xs,SqL K H a xs/\xs.length≤i⟩
noncomputable def Itt (K:W.Frag) (a:Addr):It:=
 ⟨fun i H=>∃ xs x,SqT K H a xs/\xs[i]? =some x,fun i H x H'=>H'=H/\∀ xs,SqT K H a xs->xs[i]? =some x,fun i H=>∃ xs,SqT K H a xs/\xs.length≤i⟩
noncomputable def Itr (lo:Int) (n:Nat):It:=⟨fun i _=>i < n,fun i H x H'=>H'=H/\x=.int (lo+i),fun i _=>n≤i⟩
theorem Jo {P:Program}{w:World}{K:W.Frag}{tg:Expr}(a it:Addr):Turn P w K tg (Itl K a) [it] it (fun i h=>h.IsListIter it a i) where
 mem:=by simp
 obj:=fun i h st b hb=>by
  have e:b=it:=by simpa using hb
  subst e
  obtain⟨o,e,c,d⟩:=st
  exact⟨o,e,fun v z=>by rw [d] at z;cases z⟩
 keep:=fun i h h' st k=>st.at fun o e=>k it (by simp) o e
 item:=by
  intro X hP hw hK hc i pins s σ H E I hf st hg
  subst hP hw hK
  obtain⟨xs,x,hq,hx⟩:=hg
  obtain⟨its,rv,p,hz⟩:=I.list hq
  obtain⟨u,hu,ru⟩:=rv.get hx
  obtain⟨f0,f1,f2,f3,f4,f5⟩:=hf it (by simp)
  refine wpAny_pyNext_list_item st p.isList (x:=u) (by simpa using hu) fun h' st' sb=>?_
  have I1:Inv X pins σ H { s with heap:=h' }:=I.turned (t':=s.toks) (fun b o hb e=>(sb.2 b hb).trans e) f0 f1 f3 f4 f5
  obtain⟨o,e,c,d⟩:=id st'
  exact⟨u,rfl,Xi (s:={ s with heap:=h' }) e c d (by decide) ⟨x,H,I1,ru,⟨rfl,fun ys hy=>by rw [I.list_inj hy hq];exact hx⟩,st',fun b hb=>(hf b hb).1⟩⟩
 done:=by
  intro X hP hw hK hc i pins s σ H E I hf st hg
  subst hP hw hK
  obtain⟨xs,hq,hx⟩:=hg
  obtain⟨its,rv,p,hz⟩:=I.list hq
  obtain⟨f0,f1,f2,f3,f4,f5⟩:=hf it (by simp)
  have hl:=rv.length
  exact wpAny_pyNext_list_end (I.ok.hd hc) st p.isList (by simp;omega) fun h' eb=>⟨rfl,I.turned (t':=s.toks) (fun b o hb e=>eb b o hb e) f0 f1 f3 f4 f5⟩
 self:=fun _ _ _ _ _ st h=>wpAny_pyIter_listiter st h
theorem U8 {P:Program}{w:World}{K:W.Frag}{tg:Expr}(a it:Addr):Turn P w K tg (Itt K a) [it] it (fun i h=>h.IsTupleIter it a i) where
 mem:=by simp
 obj:=fun i h st b hb=>by
  have e:b=it:=by simpa using hb
  subst e
  obtain⟨o,e,c,d⟩:=st
  exact⟨o,e,fun v z=>by rw [d] at z;cases z⟩
 keep:=fun i h h' st k=>st.at fun o e=>k it (by simp) o e
 item:=by
  intro X hP hw hK hc i pins s σ H E I hf st hg
  subst hP hw hK
  obtain⟨xs,x,hq,hx⟩:=hg
  obtain⟨its,rv,p,hz⟩:=I.tuple hq
  obtain⟨u,hu,ru⟩:=rv.get hx
  obtain⟨f0,f1,f2,f3,f4,f5⟩:=hf it (by simp)
  refine wpAny_pyNext_tuple_item st (show s.heap.IsTuple a its.toArray from p) (x:=u) (by simpa using hu) fun h' st' sb=>?_
  have I1:Inv X pins σ H { s with heap:=h' }:=I.turned (t':=s.toks) (fun b o hb e=>(sb.2 b hb).trans e) f0 f1 f3 f4 f5
  obtain⟨o,e,c,d⟩:=id st'
  exact⟨u,rfl,Xi (s:={ s with heap:=h' }) e c d (by decide) ⟨x,H,I1,ru,⟨rfl,fun ys hy=>by rw [I.tuple_inj hy hq];exact hx⟩,st',fun b hb=>(hf b hb).1⟩⟩
 done:=by
  intro X hP hw hK hc i pins s σ H E I hf st hg
  subst hP hw hK
  obtain⟨xs,hq,hx⟩:=hg
  obtain⟨its,rv,p,hz⟩:=I.tuple hq
  obtain⟨f0,f1,f2,f3,f4,f5⟩:=hf it (by simp)
  have hl:=rv.length
  exact wpAny_pyNext_tuple_end (I.ok.hd hc) st (show s.heap.IsTuple a its.toArray from p) (by simp;omega) fun h' eb=>⟨rfl,I.turned (t':=s.toks) (fun b o hb e=>eb b o hb e) f0 f1 f3 f4 f5⟩
 self:=fun _ _ _ _ _ st h=>wpAny_pyIter_tupleiter st h
theorem U9 {P:Program}{w:World}{K:W.Frag}{tg:Expr}(it:Addr) (lo:Int) (n:Nat):Turn P w K tg (Itr lo n) [it] it (fun i h=>IsRangeIter h it (lo+(i:Nat)*1) ((n:Int) - (i:Nat)) 1) where
 mem:=by simp
 obj:=fun i h st b hb=>by
  have e:b=it:=by simpa using hb
  subst e
  exact⟨_,st,fun v z=>by
   have z':Data.fields _=Data.cell v:=z
   cases z'⟩
 keep:=fun i h h' st k=>k it (by simp) _ st
 item:=by
  intro X hP hw hK hc i pins s σ H E I hf st hg
  subst hP hw hK
  obtain⟨f0,f1,f2,f3,f4,f5⟩:=hf it (by simp)
  have W:=Walks.range (prog:=X.prog) (w:=X.w) (I.ok.hd hc) it lo 1 n
  refine W.item i s _ _ hg st fun v h' tk hv st' kk=>?_
  obtain⟨t,rfl⟩:=hv
  have I1:Inv X pins σ H { s with heap:=h',toks:=tk }:=I.turned (fun b o hb e=>kk b o (by simpa using hb) e) f0 f1 f3 f4 f5
  refine⟨_,rfl,Xi (s:={ s with heap:=h',toks:=tk }) (n:="range_iterator") st' rfl rfl (by decide) ⟨.int (lo+i),H,I1,⟨t,?_⟩,⟨rfl,rfl⟩,st',fun b hb=>(hf b hb).1⟩⟩
  rw [Int.mul_one]
 done:=by
  intro X hP hw hK hc i pins s σ H E I hf st hg
  subst hP hw hK
  obtain⟨f0,f1,f2,f3,f4,f5⟩:=hf it (by simp)
  exact wpAny_pyNext_range_end (I.ok.hd hc) st (by have:n≤i:=hg;omega) fun h' eb=>⟨rfl,I.turned (t':=s.toks) (fun b o hb e=>eb b o hb e) f0 f1 f3 f4 f5⟩
 self:=fun _ _ _ _ _ st h=>wpAny_pyIter_rangeiter st h
section
variable {X:Cx}{tg:Expr}
def Qa (K:W.Frag) (tl:TE):TI:=fun σ H R=>tl σ H fun x H1=>∃ a,x=.ref a/\(∃ xs,SqL K H1 a xs)/\R (Itl K a) H1
def KH (K:W.Frag) (tl:TE):TI:=fun σ H R=>tl σ H fun x H1=>∃ a,x=.ref a/\(∃ xs,SqT K H1 a xs)/\R (Itt K a) H1
theorem zcc {l:Expr}{tl:TE}(hl:PE X l tl):PI X tg l (Qa X.K tl):=by
 intro pins s σ H R I h
 refine thn (hl pins s σ H _ I h) fun v s1 ⟨x,H1,I1,r1,q1⟩=>?_
 obtain⟨a,e,⟨xs,hq⟩,q⟩:=q1
 subst e
 cases r1
 obtain⟨its,rv,p,hz⟩:=I1.list hq
 refine wpAny_pyIter_list p.isList ?_
 refine⟨s1.heap.objs.size,[s1.heap.objs.size],_,_,H1,rfl,I1.kept (t':=s1.toks) fun b o e=>Heap.get?_push_of_some _ e,Jo a _,⟨_,Heap.get?_push_size _ rfl,rfl,rfl⟩,fun b hb=>?_,q⟩
 have e:b=s1.heap.objs.size:=by simpa using hb
 subst e
 exact I1.fpOk (Nat.le_refl _) (I1.hok.fresh (Nat.le_refl _))
theorem zdV {l:Expr}{tl:TE}(hl:PE X l tl):PI X tg l (KH X.K tl):=by
 intro pins s σ H R I h
 refine thn (hl pins s σ H _ I h) fun v s1 ⟨x,H1,I1,r1,q1⟩=>?_
 obtain⟨a,e,⟨xs,hq⟩,q⟩:=q1
 subst e
 cases r1
 obtain⟨its,rv,p,hz⟩:=I1.tuple hq
 refine wpAny_pyIter_tuple (show s1.heap.IsTuple a its.toArray from p) ?_
 refine⟨s1.heap.objs.size,[s1.heap.objs.size],_,_,H1,rfl,I1.kept (t':=s1.toks) fun b o e=>Heap.get?_push_of_some _ e,U8 a _,⟨_,Heap.get?_push_size _ rfl,rfl,rfl⟩,fun b hb=>?_,q⟩
 have e:b=s1.heap.objs.size:=by simpa using hb
 subst e
 exact I1.fpOk (Nat.le_refl _) (I1.hok.fresh (Nat.le_refl _))
theorem Xz {pins:List (Addr×Obj)}{σ:St}{H:Hp}{s:Shared}{R:It->Hp->Prop}{E:Value->Shared->Prop}{lo hi:Int}{t u v:Tok}{tk:Nat}(I:Inv X pins σ H s) (h1:-(2 ^ 62)≤lo) (h2:lo < 2 ^ 62) (h3:-(2 ^ 62)≤hi) (h4:hi < 2 ^ 62)
  (q:R (Itr lo (hi - lo).toNat) H):wpAny (model X.prog X.w) X.A (pyIter (.ref s.heap.objs.size)) (PIE X pins σ tg R) E { s with heap:=s.heap.push { cls:=.type "range",data:=.fields #[.int lo t,.int hi u,.int 1 v] },toks:=tk }:=by
 refine wpAny_pyIter_range (IsRange.new ..) (small_one h1 h2 h3 h4) ?_
 have I1:Inv X pins σ H { s with heap:=s.heap.push { cls:=.type "range",data:=.fields #[.int lo t,.int hi u,.int 1 v] },toks:=tk }:=I.kept fun b o e=>Heap.get?_push_of_some _ e
 refine⟨(s.heap.push { cls:=.type "range",data:=.fields #[.int lo t,.int hi u,.int 1 v] }).objs.size,[(s.heap.push { cls:=.type "range",data:=.fields #[.int lo t,.int hi u,.int 1 v] }).objs.size],_,_,H,rfl,
  I1.kept (t':=tk) fun b o e=>Heap.get?_push_of_some _ e,U9 _ lo (hi - lo).toNat,?_,fun b hb=>?_,q⟩
 ·have e1:lo+((0:Nat):Int)*1 =lo:=by simp
  have e2:(((hi - lo).toNat:Nat):Int) - ((0:Nat):Int)=Builtin.Range.rangeSize lo hi 1:=by rw [rangeSize_one];split <;> omega
  show IsRangeIter _ _ (lo+((0:Nat):Int)*1) ((((hi - lo).toNat:Nat):Int) - ((0:Nat):Int)) 1
  rw [e1,e2]
  exact Heap.get?_push_size _ rfl
 ·have e:b=(s.heap.push { cls:=.type "range",data:=.fields #[.int lo t,.int hi u,.int 1 v] }).objs.size:=by simpa using hb
  subst e
  exact I1.fpOk (Nat.le_refl _) (I1.hok.fresh (Nat.le_refl _))
def zbk (ta:TA):TI:=fun σ H R=>ta σ H fun vs H1=>∃ j:Int,vs=[.int j]/\-(2 ^ 62)≤j/\j < 2 ^ 62/\R (Itr 0 j.toNat) H1
def zbl (ta:TA):TI:=fun σ H R=>ta σ H fun vs H1=>∃ i j:Int,vs=[.int i,.int j]/\(-(2 ^ 62)≤i/\i < 2 ^ 62/\-(2 ^ 62)≤j/\j < 2 ^ 62)/\R (Itr i (j - i).toNat) H1
theorem vy {a:Expr}{ta:TA}{p pos:Pos}(hg:Gl X "range") (hm:X.mg "range" =none) (ha:PA X [a] ta) (hs:starEach [a] X.env=[(false,eval a X.env)]:=by rfl):PI X tg (.Call (.Name "range" p) [a] [] pos) (zbk ta):=by
 intro pins s σ H R I h
 refine Call_ (vE I hg hm boot_range (PyProof.Rows.callWith_type1 (thn (ha pos pins s σ H _ I h) fun us s1 ⟨vs,H1,I1,r1,q1⟩=>?_) hs rfl))
 obtain⟨j,e,q1,q2,q⟩:=q1
 subst e
 cases r1 with
 |cons r rr=>
  cases rr
  obtain⟨t,rfl⟩:=r
  exact call_range_1 (Xz I1 (by omega) (by omega) q1 q2 (by simpa using q))
theorem vz {a b:Expr}{ta:TA}{p pos:Pos}(hg:Gl X "range") (hm:X.mg "range" =none) (ha:PA X [a,b] ta) (hs:starEach [a,b] X.env=[(false,eval a X.env),(false,eval b X.env)]:=by rfl) (hs2:starEach [b] X.env=[(false,eval b X.env)]:=by rfl) :
  PI X tg (.Call (.Name "range" p) [a,b] [] pos) (zbl ta):=by
 intro pins s σ H R I h
 refine Call_ (vE I hg hm boot_range (PyProof.Rows.callWith_type1 (thn (ha pos pins s σ H _ I h) fun us s1 ⟨vs,H1,I1,r1,q1⟩=>?_) (by rw [hs,hs2]) (by rw [hs2];rfl)))
 obtain⟨i,j,e,⟨q1,q2,q3,q4⟩,q⟩:=q1
 subst e
 cases r1 with
 |cons r rr=>
  cases rr with
  |cons r' rr=>
   cases rr
   obtain⟨t,rfl⟩:=r
   obtain⟨t',rfl⟩:=r'
   exact call_range_2 (Xz I1 q1 q2 q3 q4 q)
def zdW (wi:TI) (g:TG) (tb:TS):TS:=fun D σ H=>wi σ H fun J H1=>∃ W:Nat->Nat->St->Hp->Prop,(∃ m,W 0 m σ H1)/\∀ i m σ H,W i m σ H->
 (J.stop i H/\D.nx σ H)\/(J.go i H/\∃ N:St->Hp->Prop,(∀ σ' H',N σ' H'->∃ m',m' < m/\W (i+1) m' σ' H')/\∀ x H',J.yld i H x H'->g x σ H' fun σ2 H2=>tb { D with nx:=N,ct:=N,bk:=D.nx } σ2 H2)
noncomputable def jT (fp:List Addr) (h:Heap):List (Addr×Obj):=fp.filterMap fun b=>(h.get? b).map fun o=>(b,o)
theorem uv {fp:List Addr}{h:Heap}{b:Addr}{o:Obj}(hb:b∈fp) (e:h.get? b=some o):(b,o)∈jT fp h:=List.mem_filterMap.mpr ⟨b,hb,by rw [e];rfl⟩
theorem Jp {fp:List Addr}{h:Heap}{p:Addr×Obj}(hp:p∈jT fp h):p.1∈fp/\h.get? p.1=some p.2:=by
 obtain⟨b,hb,e⟩:=List.mem_filterMap.mp hp
 cases q:h.get? b with
 |none=>rw [q] at e;cases e
 |some o=>
  rw [q] at e
  have e':(b,o)=p:=Option.some.inj e
  subst e'
  exact⟨hb,q⟩
theorem Inv.pinned {pins:List (Addr×Obj)}{σ:St}{H:Hp}{s:Shared}{fp:List Addr}(I:Inv X pins σ H s) (hf:∀ b∈fp,FpOk X pins H b) (ho:∀ b∈fp,∃ o,s.heap.get? b=some o/\∀ v,o.data≠.cell v):Inv X (pins ++ jT fp s.heap) σ H s:=
 I.pins_of fun p hp=>(List.mem_append.mp hp).elim (fun z=>I.pin p (List.mem_append_right _ z)) fun z=>by
  obtain⟨hb,e⟩:=Jp z
  obtain⟨f0,f1,f2,_⟩:=hf p.1 hb
  obtain⟨o,e',d⟩:=ho p.1 hb
  rw [e] at e';cases e'
  exact⟨e,f0,f1,f2,d⟩
theorem Inv.unpinned {pins pl:List (Addr×Obj)}{σ:St}{H:Hp}{s:Shared}(I:Inv X (pins ++ pl) σ H s):Inv X pins σ H s:=I.pins_of fun p hp=>I.pin p (List.mem_append_right _ (List.mem_append_left _ hp))
theorem xV {iter:Expr}{body:List Stmt}{wi:TI}{g:TG}{tb:TS}{pos:Pos}(hp:PassesOwn (model X.prog X.w) X.A X.env X.xe) (hc:X.calm=true) (hi:PI X tg iter wi) (hg:PG X tg g) (hb:PSs X body tb)
  (hs:∀ x,foldedSetIterable iter X.env x=pure x:=by intro _;rfl):PS X (.For tg iter body [] pos) (zdW wi g tb):=by
 intro pins s σ H D I h
 refine wpAny_For (thn (hi pins s σ H _ I h) fun v s1 h1=>thn h1 fun itv s2 h2=>?_) hs
 obtain⟨it,fp,tn,J,H2,e,I2,T,st2,f2,W,⟨m0,w0⟩,turn⟩:=h2
 subst e
 have stat:∀ {H':Hp},(∀ b∈fp,H' b=none)->∀ b∈fp,FpOk X pins H' b:=fun hn b hb=>⟨hn b hb,(f2 b hb).2⟩
 refine codeAny_forLoop_any (fun n s'=>∃ i σ' H',Inv X pins σ' H' s'/\tn i s'.heap/\(∀ b∈fp,H' b=none)/\W i n σ' H') ?_ m0 ⟨0,σ,H2,I2,st2,fun b hb=>(f2 b hb).1,w0⟩
 rintro n s3 ⟨i,σ3,H3,I3,st3,fr3,w3⟩
 rcases turn i n σ3 H3 w3 with⟨stop,qn⟩ | ⟨go,N,hN,step⟩
 ·refine wpAny_passesOwn hp (thn (T.done X rfl rfl rfl hc i pins s3 σ3 H3 X.xe I3 (stat fr3) st3 stop) fun r s4 ⟨hr,I4⟩=>?_)
  subst hr
  exact wpAny_execs_nil ⟨σ3,H3,I4,qn⟩
 ·refine wpAny_passesOwn hp (thn (T.item X rfl rfl rfl hc i pins s3 σ3 H3 X.xe I3 (stat fr3) st3 go) fun r s4 ⟨u,hr,h4⟩=>?_)
  subst hr
  refine wpAny_passesOwn hp (thn h4 fun _ s5 ⟨x,H5,I5,r5,y5,st5,fr5⟩=>?_)
  have I5':=I5.pinned (stat fr5) (T.obj _ _ st5)
  refine wpAny_passesOwn hp (thn (hg _ s5 σ3 H5 x u _ I5' r5 (step x H5 y5)) fun _ s6 ⟨σ6,H6,I6,q6⟩=>?_)
  refine wpAny_passesOwn hp (thn (hb _ s6 σ6 H6 _ I6 q6) fun f s7 q7=>?_)
  have again:∀ {σ7:St}{H7:Hp},Inv X (pins ++ jT fp s5.heap) σ7 H7 s7->N σ7 H7->∃ m,m < n/\∃ i σ' H',Inv X pins σ' H' s7/\tn i s7.heap/\(∀ b∈fp,H' b=none)/\W i m σ' H':=fun {σ7 H7} I7 n7=>by
   obtain⟨m',hm,w7⟩:=hN σ7 H7 n7
   refine⟨m',hm,i+1,σ7,H7,I7.unpinned,T.keep _ _ _ st5 fun b hb o e=>(I7.pin (b,o) (List.mem_append_right _ (List.mem_append_right _ (uv hb e)))).1,fun b hb=>?_,w7⟩
   obtain⟨o,e,d⟩:=T.obj _ _ st5 b hb
   exact (I7.pin (b,o) (List.mem_append_right _ (List.mem_append_right _ (uv hb e)))).2.1
  cases f with
  |next=>obtain⟨σ7,H7,I7,n7⟩:=q7;exact again I7 n7
  |cont=>obtain⟨σ7,H7,I7,n7⟩:=q7;exact again I7 n7
  |brk=>obtain⟨σ7,H7,I7,q7⟩:=q7;exact⟨σ7,H7,I7.unpinned,q7⟩
  |ret v=>obtain⟨x7,σ7,H7,I7,r7,q7⟩:=q7;exact⟨x7,σ7,H7,I7.unpinned,r7,q7⟩
end
theorem KI {K:W.Frag}{a:Addr}{xs:List V}{g:TG}{tb:TS}{D:Ends}{σ:St}{H:Hp}(Pv:Nat->St->Hp->Prop) (h0:Pv 0 σ H) (hl:∀ i σ H,i≤xs.length->Pv i σ H->SqL K H a xs)
  (hs:∀ i x σ H,xs[i]? =some x->Pv i σ H->g x σ H fun σ2 H2=>tb { D with nx:=Pv (i+1),ct:=Pv (i+1),bk:=D.nx } σ2 H2) (hd:∀ σ H,Pv xs.length σ H->D.nx σ H) :
  ∃ W:Nat->Nat->St->Hp->Prop,(∃ m,W 0 m σ H)/\∀ i m σ H,W i m σ H->
   ((Itl K a).stop i H/\D.nx σ H)\/((Itl K a).go i H/\∃ N:St->Hp->Prop,(∀ σ' H',N σ' H'->∃ m',m' < m/\W (i+1) m' σ' H')/\∀ x H',(Itl K a).yld i H x H'->g x σ H' fun σ2 H2=>tb { D with nx:=N,ct:=N,bk:=D.nx } σ2 H2):=by
 refine⟨fun i m σ H=>m=xs.length - i/\i≤xs.length/\Pv i σ H,⟨xs.length,by simp,Nat.zero_le _,h0⟩,?_⟩
 rintro i m σ H ⟨rfl,hi,p⟩
 have q:=hl i σ H hi p
 by_cases hlt:i < xs.length
 ·refine .inr ⟨⟨xs,xs[i],q,by simp [hlt]⟩,Pv (i+1),fun σ' H' p'=>⟨xs.length - (i+1),by omega,rfl,hlt,p'⟩,fun x H' y=>?_⟩
  obtain⟨e,y⟩:=y
  subst e
  exact hs i x σ _ (y xs q) p
 ·have e:i=xs.length:=by omega
  subst e
  exact .inl ⟨⟨xs,q,Nat.le_refl _⟩,hd σ H p⟩
theorem zcd {K:W.Frag}{a:Addr}{xs:List V}{g:TG}{tb:TS}{D:Ends}{σ:St}{H:Hp}(Pv:Nat->St->Hp->Prop) (h0:Pv 0 σ H) (hl:∀ i σ H,i≤xs.length->Pv i σ H->SqT K H a xs)
  (hs:∀ i x σ H,xs[i]? =some x->Pv i σ H->g x σ H fun σ2 H2=>tb { D with nx:=Pv (i+1),ct:=Pv (i+1),bk:=D.nx } σ2 H2) (hd:∀ σ H,Pv xs.length σ H->D.nx σ H) :
  ∃ W:Nat->Nat->St->Hp->Prop,(∃ m,W 0 m σ H)/\∀ i m σ H,W i m σ H->
   ((Itt K a).stop i H/\D.nx σ H)\/((Itt K a).go i H/\∃ N:St->Hp->Prop,(∀ σ' H',N σ' H'->∃ m',m' < m/\W (i+1) m' σ' H')/\∀ x H',(Itt K a).yld i H x H'->g x σ H' fun σ2 H2=>tb { D with nx:=N,ct:=N,bk:=D.nx } σ2 H2):=by
 refine⟨fun i m σ H=>m=xs.length - i/\i≤xs.length/\Pv i σ H,⟨xs.length,by simp,Nat.zero_le _,h0⟩,?_⟩
 rintro i m σ H ⟨rfl,hi,p⟩
 have q:=hl i σ H hi p
 by_cases hlt:i < xs.length
 ·refine .inr ⟨⟨xs,xs[i],q,by simp [hlt]⟩,Pv (i+1),fun σ' H' p'=>⟨xs.length - (i+1),by omega,rfl,hlt,p'⟩,fun x H' y=>?_⟩
  obtain⟨e,y⟩:=y
  subst e
  exact hs i x σ _ (y xs q) p
 ·have e:i=xs.length:=by omega
  subst e
  exact .inl ⟨⟨xs,q,Nat.le_refl _⟩,hd σ H p⟩
theorem Jq {lo:Int}{n:Nat}{g:TG}{tb:TS}{D:Ends}{σ:St}{H:Hp}(Pv:Nat->St->Hp->Prop) (h0:Pv 0 σ H)
  (hs:∀ i σ H,i < n->Pv i σ H->g (.int (lo+i)) σ H fun σ2 H2=>tb { D with nx:=Pv (i+1),ct:=Pv (i+1),bk:=D.nx } σ2 H2) (hd:∀ σ H,Pv n σ H->D.nx σ H) :
  ∃ W:Nat->Nat->St->Hp->Prop,(∃ m,W 0 m σ H)/\∀ i m σ H,W i m σ H->
   ((Itr lo n).stop i H/\D.nx σ H)\/((Itr lo n).go i H/\∃ N:St->Hp->Prop,(∀ σ' H',N σ' H'->∃ m',m' < m/\W (i+1) m' σ' H')/\∀ x H',(Itr lo n).yld i H x H'->g x σ H' fun σ2 H2=>tb { D with nx:=N,ct:=N,bk:=D.nx } σ2 H2):=by
 refine⟨fun i m σ H=>m=n - i/\i≤n/\Pv i σ H,⟨n,by simp,Nat.zero_le _,h0⟩,?_⟩
 rintro i m σ H ⟨rfl,hi,p⟩
 by_cases hlt:i < n
 ·refine .inr ⟨hlt,Pv (i+1),fun σ' H' p'=>⟨n - (i+1),by omega,rfl,hlt,p'⟩,fun x H' y=>?_⟩
  obtain⟨e,y⟩:=y
  subst e y
  exact hs i σ _ hlt p
 ·have e:i=n:=by omega
  subst e
  exact .inl ⟨Nat.le_refl _,hd σ H p⟩
abbrev R2:=V->V->Hp->VK->Prop
def OpR (X:Cx) (f:Value->Value->Sem Value) (r:R2):Prop:=
 ∀ (pins:List (Addr×Obj)) (s:Shared) (σ:St) (H:Hp) (x y:V) (v u:Value) (Q:VK),Inv X pins σ H s->RelV x v->RelV y u->r x y H Q->
  wpAny (model X.prog X.w) X.A (f v u) (EP X pins σ Q) X.xe s
def UnR (X:Cx) (f:Value->Sem Value) (r:V->Hp->VK->Prop):Prop:=
 ∀ (pins:List (Addr×Obj)) (s:Shared) (σ:St) (H:Hp) (x:V) (v:Value) (Q:VK),Inv X pins σ H s->RelV x v->r x H Q->
  wpAny (model X.prog X.w) X.A (f v) (EP X pins σ Q) X.xe s
def xy (X:Cx) (f:Value) (r:List V->Hp->VK->Prop):Prop:=
 ∀ (pins:List (Addr×Obj)) (s:Shared) (σ:St) (H:Hp) (xs:List V) (us:List Value) (Q:VK),Inv X pins σ H s->Vals xs us->r xs H Q->
  wpAny (model X.prog X.w) X.A (call f us) (EP X pins σ Q) X.xe s
def zgk (X:Cx) (r:V->Hp->(Bool->Hp->Prop)->Prop):Prop:=
 ∀ (pins:List (Addr×Obj)) (s:Shared) (σ:St) (H:Hp) (x:V) (v:Value) (Q:Bool->Hp->Prop),Inv X pins σ H s->RelV x v->r x H Q->
  wpAny (model X.prog X.w) X.A (truthy v) (TP X pins σ Q) X.xe s
def tOp (r:R2) (ta tb:TE):TE:=fun σ H Q=>ta σ H fun x H1=>tb σ H1 fun y H2=>r x y H2 Q
def tUn (r:V->Hp->VK->Prop) (ta:TE):TE:=fun σ H Q=>ta σ H fun x H1=>r x H1 Q
def rI (C:Int->Int->Prop) (g:Int->Int->V):R2:=fun x y H Q=>∃ i j,x=.int i/\y=.int j/\C i j/\Q (g i j) H
def rI0 (g:Int->Int->V):R2:=fun x y H Q=>∃ i j,x=.int i/\y=.int j/\Q (g i j) H
def rU (g:Int->V):V->Hp->VK->Prop:=fun x H Q=>∃ i,x=.int i/\Q (g i) H
section
variable {X:Cx}{a b c:Expr}{ta tb tc:TE}{pos:Pos}
theorem KJ (ha:PE X a ta) (hb:PE X b tb) {pins:List (Addr×Obj)}{s:Shared}{σ:St}{H:Hp}{R:V->V->Hp->Prop}(I:Inv X pins σ H s)
  (h:ta σ H fun x H1=>tb σ H1 fun y H2=>R x y H2) {Q:Value->Shared->Prop}{f:Value->Value->Sem Value}
  (hf:∀ v u s2 x y H2,Inv X pins σ H2 s2->RelV x v->RelV y u->R x y H2->wpAny (model X.prog X.w) X.A (f v u) Q X.xe s2) :
  wpAny (model X.prog X.w) X.A (eval a X.env) (fun v s₁=>wpAny (model X.prog X.w) X.A (eval b X.env) (fun u s₂=>wpAny (model X.prog X.w) X.A (f v u) Q X.xe s₂) X.xe s₁) X.xe s:=by
 refine thn (ha pins s σ H _ I h) fun v s1 ⟨x,H1,I1,r1,q1⟩=>?_
 refine thn (hb pins s1 σ H1 _ I1 q1) fun u s2 ⟨y,H2,I2,r2,q2⟩=>?_
 exact hf v u s2 x y H2 I2 r1 r2 q2
theorem zh {op:Operator}{r:R2}(ho:OpR X (binaryOp op) r) (ha:PE X a ta) (hb:PE X b tb):PE X (.BinOp a op b pos) (tOp r ta tb):=by
 intro pins s σ H Q I h
 exact wpAny_BinOp (KJ ha hb I h fun v u s2 x y H2 I2 rx ry q=>ho pins s2 σ H2 x y v u Q I2 rx ry q)
theorem Xj {op:UnaryOp}{r:V->Hp->VK->Prop}(ho:UnR X (unaryOp op) r) (ha:PE X a ta):PE X (.UnaryOp op a pos) (tUn r ta):=by
 intro pins s σ H Q I h
 exact UnaryOp_ (thn (ha pins s σ H _ I h) fun v s1 ⟨x,H1,I1,r1,q1⟩=>ho pins s1 σ H1 x v Q I1 r1 q1)
theorem opI {f:Value->Value->Sem Value}{C:Int->Int->Prop}{g:Int->Int->Int}
  (rule:∀ (i j:Int) (t u:Tok) (s:Shared) (Q:Value->Shared->Prop) (E:Value->Shared->Prop),C i j->Q (.int (g i j) s.toks) { s with toks:=s.toks+1 }->wpAny (model X.prog X.w) X.A (f (.int i t) (.int j u)) Q E s) :
  OpR X f (rI C fun i j=>.int (g i j)):=by
 intro pins s σ H x y v u Q I rx ry h
 obtain⟨i,j,rfl,rfl,hc,q⟩:=h
 obtain⟨t,rfl⟩:=rx
 obtain⟨t',rfl⟩:=ry
 exact rule i j t t' s _ _ hc ⟨.int (g i j),H,I.tok _,⟨_,rfl⟩,q⟩
theorem XA {f:Value->Value->Sem Value}{g:Int->Int->Int}
  (rule:∀ (i j:Int) (t u:Tok) (s:Shared) (Q:Value->Shared->Prop) (E:Value->Shared->Prop),Q (.int (g i j) s.toks) { s with toks:=s.toks+1 }->wpAny (model X.prog X.w) X.A (f (.int i t) (.int j u)) Q E s) :
  OpR X f (rI0 fun i j=>.int (g i j)):=by
 intro pins s σ H x y v u Q I rx ry h
 obtain⟨i,j,rfl,rfl,q⟩:=h
 obtain⟨t,rfl⟩:=rx
 obtain⟨t',rfl⟩:=ry
 exact rule i j t t' s _ _ ⟨.int (g i j),H,I.tok _,⟨_,rfl⟩,q⟩
theorem Qb {f:Value->Value->Sem Value}{g:Int->Int->Bool}
  (rule:∀ (i j:Int) (t u:Tok) (s:Shared) (Q:Value->Shared->Prop) (E:Value->Shared->Prop),Q (.bool (g i j)) s->wpAny (model X.prog X.w) X.A (f (.int i t) (.int j u)) Q E s) :
  OpR X f (rI0 fun i j=>.bl (g i j)):=by
 intro pins s σ H x y v u Q I rx ry h
 obtain⟨i,j,rfl,rfl,q⟩:=h
 obtain⟨t,rfl⟩:=rx
 obtain⟨t',rfl⟩:=ry
 exact rule i j t t' s _ _ ⟨.bl (g i j),H,I,rfl,q⟩
def zdX (i j:Int):Prop:=0 < j/\j < 1073741824
def Yp (i j:Int):Prop:=(-(2 ^ 64) < i/\i < 2 ^ 64)\/(-(2 ^ 64) < j/\j < 2 ^ 64)
theorem Yp.ok {i j:Int}(h:Yp i j):IntMulOk i j:=by
 rcases h with⟨h1,h2⟩ | ⟨h1,h2⟩
 ·exact .of_left (intBits_le_64 h1 h2)
 ·exact .of_right (intBits_le_64 h1 h2)
theorem Qc (k:Nat):(0:Int)≤2 ^ k:=by
 rw [two_pow_cast]
 exact Int.natCast_nonneg _
theorem yG:OpR X (binaryOp .Add) (rI0 fun i j=>.int (i+j)):=XA fun _ _ _ _ _ _ _ q=>add_int q
theorem yM:OpR X (binaryOp .Sub) (rI0 fun i j=>.int (i - j)):=XA fun _ _ _ _ _ _ _ q=>sub_int q
theorem yV:OpR X (binaryOp .FloorDiv) (rI zdX fun i j=>.int (i / j)):=opI fun i j _ _ _ _ _ hc q=>by
 have h1:(0:Int) < j:=hc.1
 have h2:j < 1073741824:=hc.2
 exact floordiv_int (by omega) (by rw [Int.fdiv_eq_ediv_of_nonneg i (by omega)];exact q) (.inl (PyProof.noPylong_small (by omega)))
theorem yQ:OpR X (binaryOp .Mod) (rI (fun _ j=>0 < j) fun i j=>.int (i%j)):=opI fun i j _ _ _ _ _ hc q=>by
 have h1:(0:Int) < j:=hc
 exact mod_int' (by omega) (by rw [Int.fmod_eq_emod_of_nonneg i (by omega)];exact q)
theorem Jr:OpR X (binaryOp .RShift) (rI (fun _ j=>0≤j) fun i j=>.int (i / 2 ^ j.toNat)):=opI fun i j _ _ _ _ _ hc q=>
 rshift_int hc (by rw [Int.fdiv_eq_ediv_of_nonneg i (Qc _)];exact q)
theorem ZI:OpR X (binaryOp .BitAnd) (rI0 fun i j=>.int (Builtin.bitAnd i j)):=XA fun _ _ _ _ _ _ _ q=>and_int q
theorem zfr:OpR X (binaryOp .BitOr) (rI0 fun i j=>.int (Builtin.bitOr i j)):=XA fun _ _ _ _ _ _ _ q=>or_int q
theorem zdY:OpR X (binaryOp .BitXor) (rI0 fun i j=>.int (Builtin.bitXor i j)):=XA fun _ _ _ _ _ _ _ q=>xor_int q
theorem unI {f:Value->Sem Value}{g:Int->Int}
  (rule:∀ (i:Int) (t:Tok) (s:Shared) (Q:Value->Shared->Prop) (E:Value->Shared->Prop),Q (.int (g i) s.toks) { s with toks:=s.toks+1 }->wpAny (model X.prog X.w) X.A (f (.int i t)) Q E s) :
  UnR X f (rU fun i=>.int (g i)):=by
 intro pins s σ H x v Q I rx h
 obtain⟨i,rfl,q⟩:=h
 obtain⟨t,rfl⟩:=rx
 exact rule i t s _ _ ⟨.int (g i),H,I.tok _,⟨_,rfl⟩,q⟩
theorem XB:UnR X (unaryOp .USub) (rU fun i=>.int (-i)):=unI fun _ _ _ _ _ q=>neg_int q
theorem zdZ:UnR X (unaryOp .Invert) (rU fun i=>.int (Builtin.bitNot i)):=unI fun _ _ _ _ _ q=>invert_int q
end
noncomputable def jU:V->V->Bool
 |.non,.non=>true |.non,.int _=>true |.int _,.non=>true |.non,.bl _=>true |.bl _,.non=>true |.non,.str _=>true |.str _,.non=>true
 |.int _,.int _=>true |.bl _,.bl _=>true |.str _,.str _=>true |.byt _,.byt _=>true
 |.int _,.str _=>true |.str _,.int _=>true |.bl _,.str _=>true |.str _,.bl _=>true
 |_,_=>false
def rEq:R2:=fun x y H Q=>jU x y=true/\Q (.bl (decide (x=y))) H
def rNe:R2:=fun x y H Q=>jU x y=true/\Q (.bl (!decide (x=y))) H
theorem Ut {i j:Int}:decide (V.int i=V.int j)=(i == j):=by
 rw [Bool.eq_iff_iff]
 simp
theorem Js {i j:Bool}:decide (V.bl i=V.bl j)=(i == j):=by
 rw [Bool.eq_iff_iff]
 simp
theorem Uu {i j:Str}:decide (V.str i=V.str j)=(i == j):=by
 rw [Bool.eq_iff_iff]
 simp
theorem Uv {i j:Array UInt8}:decide (V.byt i=V.byt j)=(i.toList == j.toList):=by
 rw [Bool.eq_iff_iff]
 cases i
 cases j
 simp
section
variable {X:Cx}{a b c:Expr}{ta tb tc:TE}{pos:Pos}
theorem yO {pins:List (Addr×Obj)}{σ:St}{H:Hp}{s:Shared}{Q:VK}{k k':Bool}(I:Inv X pins σ H s) (q:Q (.bl k) H) (e:k=k'):EP X pins σ Q (.bool k') s:=by
 subst e
 exact⟨.bl k,H,I,rfl,q⟩
theorem yW:OpR X (compareOp .Eq) rEq:=by
 intro pins s σ H x y v u Q I rx ry h
 obtain⟨hs,q⟩:=h
 cases x with
 |non=>
  cases rx
  cases y with
  |non=>cases ry;exact PySem.EqNone.eq_none_none (yO I q (by simp))
  |bl j=>cases ry;exact PySem.EqNone.eq_none_bool (yO I q (by simp))
  |int j=>obtain⟨t',rfl⟩:=ry;exact PySem.EqNone.eq_none_int (yO I q (by simp))
  |str j=>obtain⟨t',rfl⟩:=ry;exact PySem.EqNone.eq_none_str (yO I q (by simp))
  |_=>exact absurd (show false=true from hs) Bool.false_ne_true
 |bl i=>
  cases rx
  cases y with
  |non=>cases ry;exact PySem.EqNone.eq_bool_none (yO I q (by simp))
  |bl j=>cases ry;exact eq_bool (yO I q Js)
  |str j=>obtain⟨t',rfl⟩:=ry;exact PySem.EqMixed.eq_bool_str (yO I q (by simp))
  |_=>exact absurd (show false=true from hs) Bool.false_ne_true
 |int i=>
  obtain⟨t,rfl⟩:=rx
  cases y with
  |non=>cases ry;exact PySem.EqNone.eq_int_none (yO I q (by simp))
  |int j=>obtain⟨t',rfl⟩:=ry;exact eq_int (yO I q Ut)
  |str j=>obtain⟨t',rfl⟩:=ry;exact PySem.EqMixed.eq_int_str (yO I q (by simp))
  |_=>exact absurd (show false=true from hs) Bool.false_ne_true
 |str i=>
  obtain⟨t,rfl⟩:=rx
  cases y with
  |non=>cases ry;exact PySem.EqNone.eq_str_none (yO I q (by simp))
  |bl j=>cases ry;exact PySem.EqMixed.eq_str_bool (yO I q (by simp))
  |int j=>obtain⟨t',rfl⟩:=ry;exact PySem.EqMixed.eq_str_int (yO I q (by simp))
  |str j=>obtain⟨t',rfl⟩:=ry;exact eq_str (yO I q Uu)
  |_=>exact absurd (show false=true from hs) Bool.false_ne_true
 |byt i=>
  obtain⟨t,rfl⟩:=rx
  cases y with
  |byt j=>obtain⟨t',rfl⟩:=ry;exact PySem.W.eq_bytes (yO I q Uv)
  |_=>exact absurd (show false=true from hs) Bool.false_ne_true
 |_=>cases y <;> exact absurd (show false=true from hs) Bool.false_ne_true
theorem Qd:OpR X (compareOp .NotEq) rNe:=by
 intro pins s σ H x y v u Q I rx ry h
 obtain⟨hs,q⟩:=h
 cases x with
 |non=>
  cases rx
  cases y with
  |non=>cases ry;exact PySem.EqNone.ne_none_none (yO I q (by simp))
  |bl j=>cases ry;exact PySem.EqNone.ne_none_bool (yO I q (by simp))
  |int j=>obtain⟨t',rfl⟩:=ry;exact PySem.EqNone.ne_none_int (yO I q (by simp))
  |str j=>obtain⟨t',rfl⟩:=ry;exact PySem.EqNone.ne_none_str (yO I q (by simp))
  |_=>exact absurd (show false=true from hs) Bool.false_ne_true
 |bl i=>
  cases rx
  cases y with
  |non=>cases ry;exact PySem.EqNone.ne_bool_none (yO I q (by simp))
  |bl j=>cases ry;exact ne_bool (yO I q (congrArg not Js))
  |str j=>obtain⟨t',rfl⟩:=ry;exact PySem.EqMixed.ne_bool_str (yO I q (by simp))
  |_=>exact absurd (show false=true from hs) Bool.false_ne_true
 |int i=>
  obtain⟨t,rfl⟩:=rx
  cases y with
  |non=>cases ry;exact PySem.EqNone.ne_int_none (yO I q (by simp))
  |int j=>obtain⟨t',rfl⟩:=ry;exact ne_int (yO I q (congrArg not Ut))
  |str j=>obtain⟨t',rfl⟩:=ry;exact PySem.EqMixed.ne_int_str (yO I q (by simp))
  |_=>exact absurd (show false=true from hs) Bool.false_ne_true
 |str i=>
  obtain⟨t,rfl⟩:=rx
  cases y with
  |non=>cases ry;exact PySem.EqNone.ne_str_none (yO I q (by simp))
  |bl j=>cases ry;exact PySem.EqMixed.ne_str_bool (yO I q (by simp))
  |int j=>obtain⟨t',rfl⟩:=ry;exact PySem.EqMixed.ne_str_int (yO I q (by simp))
  |str j=>obtain⟨t',rfl⟩:=ry;exact ne_str (yO I q (congrArg not Uu))
  |_=>exact absurd (show false=true from hs) Bool.false_ne_true
 |byt i=>
  obtain⟨t,rfl⟩:=rx
  cases y with
  |byt j=>obtain⟨t',rfl⟩:=ry;exact PySem.W.ne_bytes (yO I q (congrArg not Uv))
  |_=>exact absurd (show false=true from hs) Bool.false_ne_true
 |_=>cases y <;> exact absurd (show false=true from hs) Bool.false_ne_true
theorem vY:OpR X (compareOp .Lt) (rI0 fun i j=>.bl (decide (i < j))):=Qb fun _ _ _ _ _ _ _ q=>lt_int q
theorem xz:OpR X (compareOp .LtE) (rI0 fun i j=>.bl (decide (i≤j))):=Qb fun _ _ _ _ _ _ _ q=>le_int q
theorem ZJ:OpR X (compareOp .Gt) (rI0 fun i j=>.bl (decide (j < i))):=Qb fun _ _ _ _ _ _ _ q=>gt_int q
theorem Xk:OpR X (compareOp .GtE) (rI0 fun i j=>.bl (decide (j≤i))):=Qb fun _ _ _ _ _ _ _ q=>ge_int q
theorem XC:OpR X (compareOp .Is) (fun x y H Q=>y=.non/\Q (.bl (decide (x=.non))) H):=by
 intro pins s σ H x y v u Q I rx ry h
 obtain⟨rfl,q⟩:=h
 cases ry
 refine is_none_gen (yO I q ?_)
 cases x <;> first
  | (cases rx;rfl)
  | (obtain⟨t,rfl⟩:=rx;rfl)
theorem qR:OpR X (compareOp .IsNot) (fun x y H Q=>y=.non/\Q (.bl (!decide (x=.non))) H):=by
 intro pins s σ H x y v u Q I rx ry h
 obtain⟨rfl,q⟩:=h
 cases ry
 refine isnot_none_gen (yO I q ?_)
 cases x <;> first
  | (cases rx;rfl)
  | (obtain⟨t,rfl⟩:=rx;rfl)
theorem OpR.or {f:Value->Value->Sem Value}{r r':R2}(h:OpR X f r) (h':OpR X f r'):OpR X f (fun x y H Q=>r x y H Q\/r' x y H Q):=by
 intro pins s σ H x y v u Q I rx ry q
 rcases q with q |q
 ·exact h pins s σ H x y v u Q I rx ry q
 ·exact h' pins s σ H x y v u Q I rx ry q
theorem zE (b:Expr) {op:CmpOp}(h:op≠.In:=by decide) (h2:op≠.NotIn:=by decide):behindInMarks op b=false:=by
 have e1:(op == CmpOp.In)=false:=by cases op <;> first |rfl |exact absurd rfl h
 have e2:(op == CmpOp.NotIn)=false:=by cases op <;> first |rfl |exact absurd rfl h2
 cases b <;> simp [behindInMarks,e1,e2]
theorem vA {op:CmpOp}{r:R2}(ho:OpR X (compareOp op) r) (ha:PE X a ta) (hb:PE X b tb) (hm:behindInMarks op b=false):PE X (.Compare a [op] [b] pos) (tOp r ta tb):=by
 intro pins s σ H Q I h
 exact wpAny_Compare1 (KJ ha hb I h fun v u s2 x y H2 I2 rx ry q=>ho pins s2 σ H2 x y v u Q I2 rx ry q) hm
def Qe (t:TE):TT:=fun σ H Q=>t σ H fun x H'=>∃ k,x=.bl k/\Q k H'
theorem zx {op:CmpOp}{r:R2}(ho:OpR X (compareOp op) r) (ha:PE X a ta) (hb:PE X b tb) (hm:behindInMarks op b=false):PT X (.Compare a [op] [b] pos) (Qe (tOp r ta tb)):=by
  intro pins s σ H Q I h
  refine wpAny_isTrue_Compare1 (thn (ha pins s σ H _ I h) fun v s1 ⟨x,H1,I1,r1,q1⟩=>thn (hb pins s1 σ H1 _ I1 q1) fun u s2 ⟨y,H2,I2,r2,q2⟩=>
    thn (ho pins s2 σ H2 x y v u _ I2 r1 r2 q2) fun c s3 ⟨z,H3,I3,r3,k,e,q3⟩=>?_) hm
  subst e
  cases r3
  exact wpAny_truthy_bool ⟨H3,I3,q3⟩
def XD (r r':R2) (ta tb tc:TE):TE:=fun σ H Q=>ta σ H fun x H1=>tb σ H1 fun y H2=>r x y H2 fun z H3=>∃ k,z=.bl k/\
 (if k=true then tc σ H3 fun w' H4=>r' y w' H4 Q else Q (.bl false) H3)
theorem Zi {op op':CmpOp}{r r':R2}(ho:OpR X (compareOp op) r) (ho':OpR X (compareOp op') r') (ha:PE X a ta) (hb:PE X b tb) (hc:PE X c tc)
    (hm:lastMarks [op,op'] [b,c]=false:=by with_unfolding_all rfl):PE X (.Compare a [op,op'] [b,c] pos) (XD r r' ta tb tc):=by
  intro pins s σ H Q I h
  refine Compare_chain (thn (ha pins s σ H _ I h) fun v s1 ⟨x,H1,I1,r1,q1⟩=>chain_link (thn (hb pins s1 σ H1 _ I1 q1) fun u s2 ⟨y,H2,I2,r2,q2⟩=>
    thn (ho pins s2 σ H2 x y v u _ I2 r1 r2 q2) fun d s3 ⟨z,H3,I3,r3,k,e,q3⟩=>?_)) hm
  subst e
  cases r3
  refine wpAny_truthy_bool ?_
  cases k with
  |false=>exact ite_ff ⟨.bl false,H3,I3,rfl,q3⟩
  |true=>exact ite_tt (chain_last (thn (hc pins s3 σ H3 _ I3 q3) fun w' s4 ⟨z',H4,I4,r4,q4⟩=>ho' pins s4 σ H4 y z' u w' Q I4 r2 r4 q4))
theorem vM {op op':CmpOp}{r r':R2}(ho:OpR X (compareOp op) r) (ho':OpR X (compareOp op') r') (ha:PE X a ta) (hb:PE X b tb) (hc:PE X c tc)
    (hm:lastMarks [op,op'] [b,c]=false:=by with_unfolding_all rfl):PT X (.Compare a [op,op'] [b,c] pos) (Qe (XD r r' ta tb tc)):=by
  intro pins s σ H Q I h
  refine isTrue_chain (thn (ha pins s σ H _ I h) fun v s1 ⟨x,H1,I1,r1,q1⟩=>test_link (thn (hb pins s1 σ H1 _ I1 q1) fun u s2 ⟨y,H2,I2,r2,q2⟩=>
    thn (ho pins s2 σ H2 x y v u _ I2 r1 r2 q2) fun d s3 ⟨z,H3,I3,r3,k,e,q3⟩=>?_)) hm
  subst e
  cases r3
  refine wpAny_truthy_bool ?_
  cases k with
  |false=>
    obtain⟨k',e',q'⟩:=q3
    cases e'
    exact ite_ff ⟨H3,I3,q'⟩
  |true=>
    refine ite_tt (test_last (thn (hc pins s3 σ H3 _ I3 q3) fun w' s4 ⟨z',H4,I4,r4,q4⟩=>thn (ho' pins s4 σ H4 y z' u w' _ I4 r2 r4 q4) fun d' s5 ⟨z2,H5,I5,r5,k2,e2,q5⟩=>?_))
    subst e2
    cases r5
    exact wpAny_truthy_bool ⟨H5,I5,q5⟩
def XE (K:W.Frag) (x:V) (H:Hp) (k:Bool):Prop:=
 match x with
 |.non=>k=false
 |.bl b=>k=b
 |.int i=>k=(i != 0)
 |.str y=>y.length≤sizeLine/\k=((y.length:Int) != 0)
 |.byt y=>y.size≤sizeLine/\k=((y.size:Int) != 0)
 |.ref p=>(∃ xs,SqL K H p xs/\k= !xs.isEmpty)\/(∃ xs,SqT K H p xs/\k= !xs.isEmpty)\/∃ kvs,H p=some (.dK kvs)/\k= !kvs.isEmpty
 |_=>False
theorem Qf {κ:Type}{kvs:List (κ×V)}{vs:List (κ×Value)}(r:KV kvs vs):(!vs.isEmpty)= !kvs.isEmpty:=by
 cases r <;> rfl
theorem ZK {xs:List V}{its:List Value}(r:Vals xs its):(!its.toArray.isEmpty)= !xs.isEmpty:=by
 cases r <;> simp
theorem qS:(sizeLine:Nat) < 2 ^ 63:=by rw [sizeLine_eq];decide
theorem zd0:zgk X (fun x H Q=>∃ k,XE X.K x H k/\Q k H):=by
 intro pins s σ H x v Q I rx h
 obtain⟨k,e,q⟩:=h
 have hl:=qS
 have hs:sizeLine= 16777216:=sizeLine_eq
 cases x with
 |non=>
  cases rx
  have e':k=false:=e
  subst e'
  exact truthy_none ⟨H,I,q⟩
 |bl b=>
  cases rx
  have e':k=b:=e
  subst e'
  exact wpAny_truthy_bool ⟨H,I,q⟩
 |int i=>
  obtain⟨t,rfl⟩:=rx
  have e':k=(i != 0):=e
  subst e'
  exact PySem.P.truthy_int ⟨H,I,q⟩
 |str y=>
  obtain⟨t,rfl⟩:=rx
  obtain⟨hy,e'⟩:y.length≤sizeLine/\k=((y.length:Int) != 0):=e
  subst e'
  exact PySem.P.truthy_str (by omega) ⟨H,I.tok _,q⟩
 |byt y=>
  obtain⟨t,rfl⟩:=rx
  obtain⟨hy,e'⟩:y.size≤sizeLine/\k=((y.size:Int) != 0):=e
  subst e'
  exact PySem.W.truthy_bytes (by omega) ⟨H,I.tok _,q⟩
 |ref p=>
  cases rx
  have e':(∃ xs,SqL X.K H p xs/\k= !xs.isEmpty)\/(∃ xs,SqT X.K H p xs/\k= !xs.isEmpty)\/∃ kvs,H p=some (.dK kvs)/\k= !kvs.isEmpty:=e
  rcases e' with⟨xs,hx,e'⟩ | ⟨xs,hx,e'⟩ | ⟨kvs,hx,e'⟩
  ·subst e'
   obtain⟨its,r,pl,hz⟩:=I.list hx
   have hlen:=r.length
   exact wpAny_truthy_list pl.isList (by simp only [List.size_toArray];omega) ⟨H,I.tok _,by rw [ZK r];exact q⟩
  ·subst e'
   obtain⟨its,r,pl,hz⟩:=I.tuple hx
   have hlen:=r.length
   exact truthy_tuple pl (by simp only [List.size_toArray];omega) ⟨H,I.tok _,by rw [ZK r];exact q⟩
  ·subst e'
   obtain⟨hz,hS,vs,r,m⟩:kvs.length≤sizeLine/\(p == sysModules)=false/\∃ vs,KV kvs vs/\s.heap.DictOf (yX X.prog X.w) p vs:=I.hok p _ hx
   have hlen:kvs.length=vs.length:=Paired.length r
   exact wpAny_truthy_dict hS m (by omega) ⟨H,I.tok _,by rw [Qf r];exact q⟩
 |_=>exact (show False from e).elim
theorem KK (ha:PE X a ta) (he:∀ whole,isTrue a X.env whole=(do let v <- whole;standAt a.pos;holding [v] (truthy v))) :
  PT X a (fun σ H Q=>ta σ H fun x H'=>∃ k,XE X.K x H' k/\Q k H'):=by
 intro pins s σ H Q I h
 exact isTrue_plain (thn (ha pins s σ H _ I h) fun v s1 ⟨x,H1,I1,r1,q1⟩=>zd0 pins s1 σ H1 x v Q I1 r1 q1) (he _)
theorem Xl {x:V}{us:List Value}(r:Vals [x] us):∃ u,us=[u]/\RelV x u:=by
 cases r with
 |cons r1 r2=>cases r2;exact⟨_,rfl,r1⟩
theorem zbm {x y:V}{us:List Value}(r:Vals [x,y] us):∃ u w',us=[u,w']/\RelV x u/\RelV y w':=by
 cases r with
 |cons r1 r2=>
  cases r2 with
  |cons r3 r4=>cases r4;exact⟨_,_,rfl,r1,r3⟩
theorem jV (hc:X.calm=true):xy X (.builtin "max") (fun xs H Q=>∃ i j,xs=[.int i,.int j]/\Q (.int (if j > i then j else i)) H):=by
 intro pins s σ H xs us Q I r h
 obtain⟨i,j,rfl,q⟩:=h
 obtain⟨u,w',rfl,⟨t,rfl⟩,⟨t',rfl⟩⟩:=zbm r
 refine max_two_ints (I.ok.hd hc) fun h' tk k=>⟨_,H,I.kept k,?_,q⟩
 by_cases hj:j > i
 ·rw [if_pos hj,if_pos hj];exact⟨_,rfl⟩
 ·rw [if_neg hj,if_neg hj];exact⟨_,rfl⟩
theorem x0 (hc:X.calm=true):xy X (.builtin "min") (fun xs H Q=>∃ i j,xs=[.int i,.int j]/\Q (.int (if j < i then j else i)) H):=by
 intro pins s σ H xs us Q I r h
 obtain⟨i,j,rfl,q⟩:=h
 obtain⟨u,w',rfl,⟨t,rfl⟩,⟨t',rfl⟩⟩:=zbm r
 refine min_two_ints (I.ok.hd hc) fun h' tk k=>⟨_,H,I.kept k,?_,q⟩
 by_cases hj:j < i
 ·rw [if_pos hj,if_pos hj];exact⟨_,rfl⟩
 ·rw [if_neg hj,if_neg hj];exact⟨_,rfl⟩
theorem Jt:xy X (.type "int") (fun xs H Q=>(∃ i,xs=[.int i]/\Q (.int i) H)\/∃ k,xs=[.bl k]/\Q (.int (if k then 1 else 0)) H):=by
 intro pins s σ H xs us Q I r h
 rcases h with⟨i,rfl,q⟩ | ⟨k,rfl,q⟩
 ·obtain⟨u,rfl,t,rfl⟩:=Xl r
  exact call_int_int ⟨.int i,H,I,⟨_,rfl⟩,q⟩
 ·obtain⟨u,rfl,r1⟩:=Xl r
  cases r1
  exact call_int_bool ⟨.int (if k then 1 else 0),H,I.tok _,⟨_,rfl⟩,q⟩
end
structure ObjM (h:Heap) (x dx C:Addr) (mA:Str->Option Value):Prop where
 obj:h.get? x=some (PySem.W.instObj C dx)
 ns:h.Ns1 dx mA
 ne:dx≠x
theorem Ju {h:Heap}{dx:Addr}{mA:Str->Option Value}(n:h.Ns1 dx mA):∃ od,h.get? dx=some od/\∀ name,PySem.W.lookIn name od=some (mA name):=by
 obtain⟨o,es,ep,ho,hd,hk,_,hm⟩:=n
 refine⟨o,ho,fun name=>?_⟩
 have e:=hm name
 unfold nsFind findBy at e
 rw [<- Array.find?_toList] at e
 unfold PySem.W.lookIn
 rw [hd]
 dsimp only
 split
 ·rename_i y q
  rw [q] at e
  exact congrArg some e
 ·rename_i q
  rw [q] at e
  have a:es.toList.any (·.refKey)=false:=by
   rw [List.any_eq_false]
   intro y hy
   obtain⟨z,t,hkey⟩:=hk y (Array.mem_toList_iff.mp hy)
   simp [DictEntry.refKey,hkey]
  have a':¬ es.toList.any (·.refKey)=true:=by rw [a];exact Bool.false_ne_true
  rw [if_neg a']
  exact congrArg some e
theorem ObjM.look {h:Heap}{x dx C:Addr}{mA:Str->Option Value}(I:ObjM h x dx C mA):∃ od,PySem.W.InstAt h x (PySem.W.instObj C dx) C (some od)/\∀ name,PySem.W.lookIn name od=some (mA name):=
 let ⟨od,ho,hl⟩:=Ju I.ns
 ⟨od,⟨I.obj,rfl,rfl,ho⟩,hl⟩
section
variable {prog:Program}{w:World}{A:Around}{E:Value->Shared->Prop}{s:Shared}{K:W.Frag}{x dx C f:Addr}{mA:Str->Option Value}{name:Str}{v:Value}
theorem zce {expr:Bool}{Q:Value->Shared->Prop}(X:K.In s.heap) (I:ObjM s.heap x dx C mA) (hg:PySem.W.plainGet K C name=true) (hh:PySem.W.hasDictIn K C=true)
  (ha:PySem.W.findIn K (.ref C) name=some none) (hv:mA name=some v) (hv':PySem.W.handedIn v=true) (h:Q v { s with toks:=s.toks+1 }) :
  wpAny (model prog w) A (getAttr (.ref x) name expr) Q E s:=by
 obtain⟨od,J,hl⟩:=I.look
 exact PySem.W.get_value X J (PySem.W.plainGet_of hg).1 (PySem.W.findObj_own hh ha rfl (by rw [hl,hv])) hv' h
theorem KL {pl:Sem Bool}{Q:Value×List Value->Shared->Prop}(X:K.In s.heap) (I:ObjM s.heap x dx C mA) (hg:PySem.W.plainGet K C name=true)
  (hf:PySem.W.findIn K (.ref C) name=some (some (.ref f))) (ht:PySem.W.isFn K (.ref f)=true) (hv:mA name=none) (h:Q (.ref f,[.ref x]) s) :
  wpAny (model prog w) A (getMethod (.ref x) name pl) Q E s:=by
 obtain⟨od,J,hl⟩:=I.look
 exact PySem.W.method_fn X J (PySem.W.plainGet_of hg).1 (PySem.W.plainGet_of hg).2 hf (beq_iff_eq.mp ht) (by show (PySem.W.lookIn name od).map (·.isSome)=some false;rw [hl,hv];rfl) h
theorem zcf {ns:List Str}{Q:Unit->Shared->Prop}(X:K.In s.heap) (I:ObjM s.heap x dx C mA)
  (hs:PySem.W.findIn K (.ref C) "__setattr__" =some (some (.builtin "object.__setattr__"))) (hp:PySem.W.plainOver K C=true) (ht:PySem.W.takerIn K C name=some none) (hh:PySem.W.hasDictIn K C=true)
  (hw:PySem.Within mA ns) (hsz:ns.length≤sizeLine)
  (h:∀ h',ObjM h' x dx C (fun y=>if y=name then some v else mA y)->Heap.SameBut dx s.heap h'->Q () { s with heap:=h',toks:=s.toks+2 }) :
  wpAny (model prog w) A (setAttr (.ref x) name v) Q E s:=by
 obtain⟨od,J,hl⟩:=I.look
 refine PySem.W.set_plain X J hs (PySem.W.osa_open (s:={ s with toks:=s.toks+1 }) (r:=none) X J hp ht fun b=>?_)
 obtain⟨cd,hc,hd'⟩:=PySem.W.any_some hh
 have hx:s.heap.get? x=some ⟨.ref C,some dx,.plain,#[]⟩:=I.obj
 refine wpAny_bind (wpAny_pure (wpAny_bind (wpAny_bind (wpAny_loadPart hx (wpAny_bind (PySem.W.Looks.here (s:={ s with toks:=s.toks+1 }) (PySem.W.looks_clsIn X hc) ?_))))))
 rw [hd']
 refine wpAny_pure (a:=some dx) (wpAny_bind (wpAny_pure (wpAny_bind ?_)))
 refine wpAny_nsSet1 (s:={ s with toks:=s.toks+1 }) I.ns fun h' hn2 hs2=>?_
 obtain⟨oD,esD,epD,hoD,hdD,hcD⟩:=hn2.count (PySem.Within.cons name v hw)
 refine wpAny_bind (wpAny_lookBehind hoD (by rw [hdD];exact pastItsLine_dict (Nat.le_trans hcD (by rw [List.length_cons];omega))) ?_)
 exact wpAny_pure (h _ ⟨(hs2.2 _ (Ne.symm I.ne)).trans I.obj,hn2,I.ne⟩ hs2)
theorem KM {R:Result->Shared->Prop}{vs:List Value}{kw:List (Str×Value)}(X:K.In s.heap) (hm:PySem.W.makesIn K C=true)
    (hi:PySem.W.findIn K (.ref C) "__init__" =some (some (.ref f))) (hf:PySem.W.typeIn K (.ref f)=some (.type "function"))
    (h:codeAny (model prog w) (A.under (.builtin "type.__call__" ⟨.ref C :: vs,kw⟩)) (.call (.ref f) ⟨.ref (s.heap.objs.size+1) :: vs,kw⟩) (PySem.W.InitBack (s.heap.objs.size+1) R)
      { s with heap:=(s.heap.push PySem.W.emptyDict).push (PySem.W.instObj C s.heap.objs.size) }) :
    codeAny (model prog w) A (.call (.ref C) ⟨vs,kw⟩) R s:=by
  obtain⟨hh,g,d,t,os⟩:=s
  exact PySem.W.make_core (PySem.W.makes_of X hm) (PySem.W.looks_findIn X hi) (fun self=>PySem.W.bind_fn X self hf) (.inl rfl) h
end
noncomputable def vc (f:Str) (v:V):List (Str×V)->List (Str×V)
 |[]=>[(f,v)]
 | (g,x) :: r=>if g=f then (g,v) :: r else (g,x) :: vc f v r
theorem Zc (f g:Str) (v:V):∀ fs:List (Str×V),(vc f v fs).lookup g=if g=f then some v else fs.lookup g
 |[]=>by
  show List.lookup g [(f,v)]=_
  by_cases h:g=f
  ·have hb:(g == f)=true:=beq_iff_eq.mpr h
   simp only [List.lookup,hb,if_pos h]
  ·have hb:(g == f)=false:=beq_eq_false_iff_ne.mpr h
   simp only [List.lookup,hb,if_neg h]
 | (k,x) :: r=>by
  have ih:=Zc f g v r
  rw [show vc f v ((k,x) :: r)=(if k=f then (k,v) :: r else (k,x) :: vc f v r) from rfl]
  by_cases hk:k=f
  ·rw [if_pos hk]
   by_cases h:g=k
   ·have hb:(g == k)=true:=beq_iff_eq.mpr h
    simp only [List.lookup,hb,if_pos (h.trans hk)]
   ·have hb:(g == k)=false:=beq_eq_false_iff_ne.mpr h
    simp only [List.lookup,hb,if_neg (fun e:g=f=>h (e.trans hk.symm))]
  ·rw [if_neg hk]
   by_cases h:g=k
   ·have hb:(g == k)=true:=beq_iff_eq.mpr h
    simp only [List.lookup,hb,if_neg (fun e:g=f=>hk (h.symm.trans e))]
   ·have hb:(g == k)=false:=beq_eq_false_iff_ne.mpr h
    simp only [List.lookup,hb]
    exact ih
theorem jW (f:Str) (v:V):∀ fs:List (Str×V),f∈(vc f v fs).map (·.1)/\∀ g,g∈fs.map (·.1)->g∈(vc f v fs).map (·.1)
 |[]=>⟨by simp [vc],fun g h=>by simp at h⟩
 | (k,x) :: r=>by
  obtain⟨i1,i2⟩:=jW f v r
  rw [show vc f v ((k,x) :: r)=(if k=f then (k,v) :: r else (k,x) :: vc f v r) from rfl]
  by_cases hk:k=f
  ·rw [if_pos hk]
   subst hk
   exact⟨by simp,fun g h=>by simpa using h⟩
  ·rw [if_neg hk]
   refine⟨?_,fun g h=>?_⟩
   ·rw [List.map_cons]
    exact List.mem_cons_of_mem _ i1
   ·rw [List.map_cons] at h ⊢
    rcases List.mem_cons.mp h with e |e
    ·exact List.mem_cons.mpr (.inl e)
    ·exact List.mem_cons_of_mem _ (i2 g e)
theorem Zd (f:Str) (v:V):∀ fs:List (Str×V),(vc f v fs).length≤fs.length+1
 |[]=>by simp [vc]
 | (k,x) :: r=>by
  have ih:=Zd f v r
  rw [show vc f v ((k,x) :: r)=(if k=f then (k,v) :: r else (k,x) :: vc f v r) from rfl]
  by_cases hk:k=f
  ·rw [if_pos hk,List.length_cons,List.length_cons];omega
  ·rw [if_neg hk,List.length_cons,List.length_cons];omega
theorem va.some_of {v:V}{o:Option Value}(r:va (some v) o):∃ u,o=some u/\RelV v u:=by
 cases o with
 |none=>exact (show False from r).elim
 |some u=>exact⟨u,rfl,r⟩
theorem va.none_of {o:Option Value}(r:va none o):o=none:=by
 cases o with
 |none=>rfl
 |some u=>exact (show False from r).elim
theorem Jv {v:V}{u:Value}(r:RelV v u):PySem.W.handedIn u=true:=by
 cases v with
 |non=>cases (show u=Value.none from r);rfl
 |bl b=>cases (show u=Value.bool b from r);rfl
 |int i=>obtain⟨t,e⟩:=(show ∃ t,u=Value.int i t from r);cases e;rfl
 |str x=>obtain⟨t,e⟩:=(show ∃ t,u=Value.str x t from r);cases e;rfl
 |byt b=>obtain⟨t,e⟩:=(show ∃ t,u=Value.bytes b t from r);cases e;rfl
 |flt b=>obtain⟨t,e⟩:=(show ∃ t,u=Value.float b t from r);cases e;rfl
 |ref a=>cases (show u=Value.ref a from r);rfl
 |ty n=>cases (show u=Value.type n from r);rfl
section
variable {P:Program}{w:World}{H H':Hp}{h h':Heap}{a C dx:Addr}{fs fs':List (Str×V)}
theorem kM (hok:HOk P w H h) (e:H a=some (.ins C dx fs)):∃ mA,ObjM h a dx C mA/\(∀ f,va (fs.lookup f) (mA f))/\PySem.Within mA (fs.map (·.1))/\fs.length≤1000/\H dx=some (.own a):=by
 obtain⟨d,z,ne,ob,mA,n,r,q⟩:=(show y9 P w H h a (.ins C dx fs) from hok a _ e)
 exact⟨mA,⟨ob,n,ne⟩,r,q,z,d⟩
end
structure Cls (K:W.Frag) (C:Addr):Prop where
 pg:PySem.W.plainGet K C Str.empty=true
 hd:PySem.W.hasDictIn K C=true
 po:PySem.W.plainOver K C=true
 sa:PySem.W.findIn K (.ref C) "__setattr__" =some (some (.builtin "object.__setattr__"))
theorem Cls.get {K:W.Frag}{C:Addr}(c:Cls K C) (f:Str):PySem.W.plainGet K C f=true:=c.pg
def NoAttr (K:W.Frag) (C:Addr) (f:Str):Prop:=PySem.W.findIn K (.ref C) f=some none
theorem NoAttr.taker {K:W.Frag}{C:Addr}{f:Str}(n:NoAttr K C f):PySem.W.takerIn K C f=some none:=by
 unfold PySem.W.takerIn
 rw [show PySem.W.findIn K (.ref C) f=some none from n]
 rfl
structure Meth (K:W.Frag) (C:Addr) (m:Str) (f:Addr):Prop where
 at_:PySem.W.findIn K (.ref C) m=some (some (.ref f))
 fn:PySem.W.isFn K (.ref f)=true
 kp:PySem.W.keepIn K (.ref f)=true
section
variable {X:Cx}{pins:List (Addr×Obj)}{σ:St}{H:Hp}{s:Shared}{a C dx:Addr}{fs:List (Str×V)}{f:Str}{v:V}{A:Around}{E:Value->Shared->Prop}
theorem Qg {b:Bool}{Q:Value->Shared->Prop}(I:Inv X pins σ H s) (e:H a=some (.ins C dx fs)) (c:Cls X.K C) (n:NoAttr X.K C f) (l:fs.lookup f=some v)
  (h:∀ u s',Inv X pins σ H s'->RelV v u->Q u s'):wpAny (model X.prog X.w) A (getAttr (.ref a) f b) Q E s:=by
 obtain⟨mA,O,r,_,_,_⟩:=kM I.hok e
 obtain⟨u,hu,ru⟩:=va.some_of (v:=v) (o:=mA f) (by rw [<- l];exact r f)
 exact zce I.kIn O (c.get f) c.hd n hu (Jv ru) (h u _ (I.tok _) ru)
theorem Qh {m:Str}{g:Addr}{pl:Sem Bool}{Q:Value×List Value->Shared->Prop}(I:Inv X pins σ H s) (e:H a=some (.ins C dx fs)) (c:Cls X.K C) (k:Meth X.K C m g) (l:fs.lookup m=none)
  (h:Q (.ref g,[.ref a]) s):wpAny (model X.prog X.w) A (getMethod (.ref a) m pl) Q E s:=by
 obtain⟨mA,O,r,_,_,_⟩:=kM I.hok e
 have hn:mA m=none:=va.none_of (by rw [<- l];exact r m)
 exact KL I.kIn O (c.get m) k.at_ k.fn hn h
theorem Qi {y:V}{u:Value}{Q:Unit->Shared->Prop}(I:Inv X pins σ H s) (e:H a=some (.ins C dx fs)) (c:Cls X.K C) (n:NoAttr X.K C f) (hl:fs.length < 1000) (ry:RelV y u)
  (h:∀ s',Inv X pins σ (upd H a (.ins C dx (vc f y fs))) s'->Q () s'):wpAny (model X.prog X.w) A (setAttr (.ref a) f u) Q E s:=by
 obtain⟨mA,O,r,wi,_,ho⟩:=kM I.hok e
 have hz:(fs.map (·.1)).length≤sizeLine:=by rw [List.length_map,sizeLine_eq];omega
 refine zcf I.kIn O c.sa c.po n.taker c.hd wi hz fun h' O' sb=>h _ ?_
 have hd:∃ o,h'.get? dx=some o:=let ⟨o,_,_,e',_⟩:=O'.ns;⟨o,e'⟩
 refine I.write (x:=a) (e:=dx) (by rw [e];exact True.intro) (.inr ho) (fun b q hb z=>(sb.2 b hb).trans z) hd ?_
 refine⟨by rw [zk O.ne];exact ho,?_,O.ne,O'.obj,_,O'.ns,fun g=>?_,fun g hg=>?_⟩
 ·have:=Zd f y fs;omega
 ·show va ((vc f y fs).lookup g) (if g=f then some u else mA g)
  rw [Zc]
  by_cases q:g=f
  ·rw [if_pos q,if_pos q];exact ry
  ·rw [if_neg q,if_neg q];exact r g
 ·by_cases q:g=f
  ·rw [q];exact (jW f y fs).1
  ·refine (jW f y fs).2 g (wi g fun z=>hg ?_)
   show (if g=f then some u else mA g)=none
   rw [if_neg q];exact z
theorem Inv.made (I:Inv X pins σ H s):Inv X pins σ (upd (upd H s.heap.objs.size (.own (s.heap.objs.size+1))) (s.heap.objs.size+1) (.ins C s.heap.objs.size []))
  { s with heap:=(s.heap.push PySem.W.emptyDict).push (PySem.W.instObj C s.heap.objs.size) }:=by
 have e1:(s.heap.push PySem.W.emptyDict).get? s.heap.objs.size=some PySem.W.emptyDict:=Heap.get?_push_size s.heap rfl
 have e2:((s.heap.push PySem.W.emptyDict).push (PySem.W.instObj C s.heap.objs.size)).get? (s.heap.objs.size+1)=some (PySem.W.instObj C s.heap.objs.size):=by
  have:=Heap.get?_push_size (s.heap.push PySem.W.emptyDict) (o:=PySem.W.instObj C s.heap.objs.size) rfl
  rwa [Heap.size_push] at this
 have e3:(s.heap.push PySem.W.emptyDict).Ns s.heap.objs.size (fun _=>none):=⟨PySem.W.emptyDict,#[],_,e1,rfl,(fun e he=>absurd he (by simp)),fun _=>rfl⟩
 have I1:=I.laid (a:=s.heap.objs.size) (o:=.own (s.heap.objs.size+1)) (h':=s.heap.push PySem.W.emptyDict) (t':=s.toks) (fun b u q=>Heap.get?_push_of_some _ q) (Nat.le_refl _) ⟨_,e1⟩
 refine I1.laid (a:=s.heap.objs.size+1) (o:=.ins C s.heap.objs.size []) (t':=s.toks) (fun b u q=>Heap.get?_push_of_some _ q) (Nat.le_of_eq (Heap.size_push _ _)) ?_
 have ne:s.heap.objs.size≠s.heap.objs.size+1:=Nat.ne_of_lt (Nat.lt_succ_self _)
 refine⟨by rw [zk ne,zC],Nat.zero_le _,ne,e2,fun _=>none,(Heap.Ns1.of_empty e3).at fun o q=>Heap.get?_push_of_some _ q,fun _=>True.intro,fun y hy=>absurd rfl hy⟩
theorem zcg {prog:Program}{w:World}{env:Env}{e:Expr}{f:Str}{pos:Pos}{s:Shared}{Q:Value->Shared->Prop}(hb:attributeBase e f env (eval e env)=eval e env)
  (h:wpAny (model prog w) A (eval e env) (fun o s₁=>wpAny (model prog w) A (getAttr o f true) Q E s₁) E s):wpAny (model prog w) A (eval (.Attribute e f pos) env) Q E s:=
 Attribute_any_ h (by rw [arm_eval_Attribute,hb])
end
def KN (K:W.Frag) (ta:TE) (f:Str):TE:=fun σ H Q=>ta σ H fun x H1=>∃ a C dx fs v,x=.ref a/\H1 a=some (.ins C dx fs)/\Cls K C/\NoAttr K C f/\fs.lookup f=some v/\Q v H1
def KO (K:W.Frag) (ta tv:TE) (f:Str):TS:=fun D σ H=>tv σ H fun y H1=>ta σ H1 fun x H2=>∃ a C dx fs,x=.ref a/\H2 a=some (.ins C dx fs)/\Cls K C/\NoAttr K C f/\fs.length < 1000/\
 D.nx σ (upd H2 a (.ins C dx (vc f y fs)))
section
variable {X:Cx}{o e value:Expr}{f:Str}{pos pos' tpos:Pos}{ta tv:TE}
theorem zd1 (he:PE X e ta) (hb:attributeBase e f X.env (eval e X.env)=eval e X.env):PE X (.Attribute e f pos) (KN X.K ta f):=by
 intro pins s σ H Q I h
 refine zcg hb (thn (he pins s σ H _ I h) fun u s1 ⟨x,H1,I1,rx,a,C,dx,fs,v,ex,ea,c,n,l,q⟩=>?_)
 subst ex
 obtain rfl:u=Value.ref a:=rx
 exact Qg I1 ea c n l fun u' s2 I2 ru=>⟨v,H1,I2,ru,q⟩
theorem zd2 (ha:PE X o ta) (hv:PE X value tv) (hs:swapsWith value (some (.Attribute o f pos')) pos.line X.env=pure false):PS X (.Assign [.Attribute o f pos'] value pos) (KO X.K ta tv f):=by
 intro pins s σ H D I h
 refine plainObj_wpAny_Assign_Attribute (thn (hv pins s σ H _ I h) fun u s1 ⟨y,H1,I1,ry,q⟩=>thn (ha pins s1 σ H1 _ I1 q) fun ov s2 ⟨x,H2,I2,rx,a,C,dx,fs,ex,ea,c,n,l,q2⟩=>?_) hs
 subst ex
 obtain rfl:ov=Value.ref a:=rx
 exact Qi I2 ea c n l ry fun s3 I3=>⟨σ,_,I3,q2⟩
end
section
variable {X:Cx}{pins:List (Addr×Obj)}{σ:St}{H:Hp}{s:Shared}{A:Around}{E:Value->Shared->Prop}{Q:Value->Shared->Prop}{c:Value}{b:Bool}
inductive TyOf (K:W.Frag) (H:Hp):V->Value->Prop where
 |non:TyOf K H .non (.type "NoneType")
 |bl (x:Bool):TyOf K H (.bl x) (.type "bool")
 |int (i:Int):TyOf K H (.int i) (.type "int")
 |str (x:Str):TyOf K H (.str x) (.type "str")
 |flt (x:UInt64):TyOf K H (.flt x) (.type "float")
 |lst {a:Addr}{xs:List V}(e:H a=some (.lst xs)):TyOf K H (.ref a) (.type "list")
 |frz {a:Addr}{o:Obj}{xs:List V}(e:H a=some (.frz o (.lst xs))):TyOf K H (.ref a) (.type "list")
 |tup {a:Addr}{xs:List V}(e:H a=some (.tup xs)):TyOf K H (.ref a) (.type "tuple")
 |dK {a:Addr}{kvs:List (Key×V)}(e:H a=some (.dK kvs)):TyOf K H (.ref a) (.type "dict")
 |dT {a:Addr}{kvs:List (List Key×V)}(e:H a=some (.dT kvs)):TyOf K H (.ref a) (.type "dict")
 |ins {a C dx:Addr}{fs:List (Str×V)}(e:H a=some (.ins C dx fs)) (cl:Cls K C) (ha:PySem.W.findIn K (.ref C) "__class__" =some (some (.builtin "object.__class__")))
   (hn:PySem.W.specialIn K (.builtin "object.__class__") "__get__" =some (some (.builtin "getset_descriptor.__get__"))) (htk:PySem.W.takesIn K (.builtin "object.__class__")=some true)
   (hm:PySem.W.mroIn K C (.type "object")=some true):TyOf K H (.ref a) (.ref C)
theorem Jw {x:V}{u t:Value}(I:Inv X pins σ H s) (rx:RelV x u) (ty:TyOf X.K H x t) (e:PySem.W.kitOne X.K t c=some b) (h:∀ tk,Q (.bool b) { s with toks:=tk }) :
  wpAny (model X.prog X.w) A (call (.builtin "isinstance") [u,c]) Q E s:=by
 cases ty with
 |non=>cases (show u=Value.none from rx);exact PySem.W.kia_one PySem.W.kitx_none I.kIn True.intro e (fun z=>nomatch z) h
 |bl y=>cases (show u=Value.bool y from rx);exact PySem.W.kia_one PySem.W.kitx_bool I.kIn True.intro e (fun z=>nomatch z) h
 |int i=>obtain⟨t,q⟩:=(show ∃ t,u=Value.int i t from rx);cases q;exact PySem.W.kia_one PySem.W.kitx_int I.kIn True.intro e (fun z=>nomatch z) h
 |str y=>obtain⟨t,q⟩:=(show ∃ t,u=Value.str y t from rx);cases q;exact PySem.W.kia_one PySem.W.kitx_str I.kIn True.intro e (fun z=>nomatch z) h
 |flt y=>obtain⟨t,q⟩:=(show ∃ t,u=Value.float y t from rx);cases q;exact PySem.W.kia_one PySem.W.kitx_float I.kIn True.intro e (fun z=>nomatch z) h
 | @lst a xs ea=>
  cases (show u=Value.ref a from rx)
  obtain⟨_,_,n,_,h1⟩:=(show y9 X.prog X.w H s.heap a (.lst xs) from I.hok a _ ea)
  exact PySem.W.kia_one PySem.W.kitx_list I.kIn ⟨_,h1,rfl⟩ e (fun z=>nomatch z) h
 | @frz a ob xs ea=>
  cases (show u=Value.ref a from rx)
  obtain⟨_,_,_,n,_,h1⟩:=(show y9 X.prog X.w H s.heap a (.frz ob (.lst xs)) from I.hok a _ ea)
  exact PySem.W.kia_one PySem.W.kitx_list I.kIn ⟨_,h1,rfl⟩ e (fun z=>nomatch z) h
 | @tup a xs ea=>
  cases (show u=Value.ref a from rx)
  obtain⟨_,_,_,p⟩:=(show y9 X.prog X.w H s.heap a (.tup xs) from I.hok a _ ea)
  obtain⟨o,h1,h2,_⟩:=p
  exact PySem.W.kia_one PySem.W.kitx_tuple I.kIn ⟨o,h1,h2⟩ e (fun z=>nomatch z) h
 | @dK a kvs ea=>
  cases (show u=Value.ref a from rx)
  obtain⟨_,_,vs,_,p⟩:=(show y9 X.prog X.w H s.heap a (.dK kvs) from I.hok a _ ea)
  obtain⟨o,es,ep,h1,h2,_⟩:=p
  exact PySem.W.kia_one PySem.W.kitx_dict I.kIn ⟨o,h1,h2.1⟩ e (fun z=>nomatch z) h
 | @dT a kvs ea=>
  cases (show u=Value.ref a from rx)
  obtain⟨_,_,xs,_,o,es,ep,h1,h2,_⟩:=(show y9 X.prog X.w H s.heap a (.dT kvs) from I.hok a _ ea)
  exact PySem.W.kia_one PySem.W.kitx_dict I.kIn ⟨o,h1,h2.1⟩ e (fun z=>nomatch z) h
 | @ins a C dx fs ea cl ha hn htk hm=>
  cases (show u=Value.ref a from rx)
  obtain⟨mA,O,_⟩:=kM I.hok ea
  obtain⟨od,J,_⟩:=O.look
  exact PySem.W.kia_one (PySem.W.kitx_own (cl.get _) cl.hd ha hn htk hm) I.kIn J e (fun z=>nomatch z) h
end
structure Room (k:Nat) (A:Around):Prop where
 hd:A.handled=none
 dp:A.depth+3*k+5 < recursionLimit
 un:A.units+16*k+200 < cLine
 gd:A.guards=some []
theorem Room.mono {j k:Nat}{A:Around}(r:Room k A) (h:j≤k):Room j A:=⟨r.hd,by have:=r.dp;omega,by have:=r.un;omega,r.gd⟩
theorem Room.deeper {k:Nat}{A:Around}(r:Room (k+1) A) (env:Env):Room k (A.deeper env):=
 ⟨r.hd,by have:=r.dp;show A.depth+1+3*k+5 < _;omega,by have:=r.un;show A.units+3+16*k+200 < _;omega,r.gd⟩
theorem Room.in1 {k:Nat}{A:Around}(r:Room (k+1) A):Room k A.in1:=
 ⟨r.hd,by have:=r.dp;show A.depth+3*k+5 < _;omega,by have:=r.un;show A.units+1+16*k+200 < _;omega,r.gd⟩
theorem Qj {A:Around}{C:Addr}{us:List Value}{kw:List (Str×Value)}:(A.under (.builtin "type.__call__" ⟨.ref C :: us,kw⟩)).depth=A.depth+1:=by
 first |rfl |simp [Around.under,Code.weight,Code.isCreation,Code.isGuard,Code.isCaller,Code.frames,Code.isFrame,guardIds]
theorem Qk {A:Around}{C:Addr}{us:List Value}{kw:List (Str×Value)}:(A.under (.builtin "type.__call__" ⟨.ref C :: us,kw⟩)).units=A.units+1:=by
 first |rfl |simp [Around.under,Code.cUnits,Code.frames,Code.isFrame]
theorem VT {A:Around}{C:Addr}{us:List Value}{kw:List (Str×Value)}:(A.under (.builtin "type.__call__" ⟨.ref C :: us,kw⟩)).guards=A.guards:=by
 first |rfl |simp [Around.under,Code.guards,Code.isGuard,guardIds,pushGuards]
theorem Room.make {k:Nat}{A:Around}(r:Room (k+1) A) (C:Addr) (us:List Value) (kw:List (Str×Value)):Room k (A.under (.builtin "type.__call__" ⟨.ref C :: us,kw⟩)):=
 ⟨r.hd,by have:=r.dp;rw [Qj];omega,by have:=r.un;rw [Qk];omega,by rw [VT];exact r.gd⟩
theorem Room.depth {k:Nat}{A:Around}(r:Room k A):A.depth < recursionLimit:=by have:=r.dp;omega
theorem Room.units {k:Nat}{A:Around}(r:Room k A):A.units+64 < cLine:=by have:=r.un;omega
def Yq:TA:=fun _ H Q=>Q [] H
def ZL (ta:TE) (tr:TA):TA:=fun σ H Q=>ta σ H fun x H1=>tr σ H1 fun xs H2=>Q (x :: xs) H2
section
variable {X:Cx}{e:Expr}{es:List Expr}{te:TE}{t:TA}{pos:Pos}
theorem zd3:PA X [] Yq:=fun _ _ _ _ H Q I h=>Calls.spliced_nil ⟨[],H,I,.nil,h⟩
theorem zch (ha:PE X e te) (hr:PA X es t) (hs:starEach (e :: es) X.env=(false,eval e X.env) :: starEach es X.env:=by rfl):PA X (e :: es) (ZL te t):=by
 intro pos pins s σ H Q I h
 rw [hs]
 show wpAny _ _ (spliced ((false,eval e X.env) :: backTo pos (starEach es X.env))) _ _ s
 refine Calls.spliced_cons (thn (ha pins s σ H _ I h) fun u s1 ⟨x,H1,I1,r1,q1⟩=>?_)
 exact thn (hr pos pins s1 σ H1 _ I1 q1) fun us s2 ⟨xs,H2,I2,r2,q2⟩=>⟨x :: xs,H2,I2,.cons r1 r2,q2⟩
def KQ (t:TA):TE:=fun σ H Q=>t σ H fun xs H1=>xs.length≤sizeLine/\∀ p,H1 p=none->Q (.ref p) (upd H1 p (.tup xs))
def Zj (t:TA):TE:=fun σ H Q=>t σ H fun xs H1=>xs.length≤sizeLine/\∀ p,H1 p=none->Q (.ref p) (upd H1 p (.lst xs))
theorem zd4 {x1} (h:PA X es t):PE X (.Tuple es x1 pos) (KQ t):=by
 intro pins s σ H Q I hq
 refine wpAny_Tuple_spliced (thn (h pos pins s σ H _ I hq) fun us s1 ⟨xs,H1,I1,r,z,q⟩=>⟨by rw [<- r.length];exact z,?_⟩)
 have hf:H1 s1.heap.objs.size=none:=I1.hok.fresh (Nat.le_refl _)
 refine⟨.ref s1.heap.objs.size,upd H1 s1.heap.objs.size (.tup xs),I1.laid (t':=s1.toks) (fun b u e=>Heap.get?_push_of_some _ e) (Nat.le_refl _) ?_,rfl,q _ hf⟩
 exact⟨z,us,r,⟨_,Heap.get?_push_size _ rfl,rfl,_,rfl⟩⟩
theorem Jx (h:PA X es t):PE X (.List es pos) (Zj t):=by
 intro pins s σ H Q I hq
 refine wpAny_List_spliced (thn (h pos pins s σ H _ I hq) fun us s1 ⟨xs,H1,I1,r,z,q⟩=>⟨by rw [<- r.length];exact z,?_⟩)
 have hf:H1 s1.heap.objs.size=none:=I1.hok.fresh (Nat.le_refl _)
 refine⟨.ref s1.heap.objs.size,upd H1 s1.heap.objs.size (.lst xs),I1.laid (t':=s1.toks) (fun b u e=>Heap.get?_push_of_some _ e) (Nat.le_refl _) ?_,rfl,q _ hf⟩
 exact⟨z,us,0,r,Heap.get?_push_size _ rfl⟩
end
abbrev Sp:=List V->Hp->VK->XK->Prop
abbrev CXT:=List Env->Hp->Shared->XK->Value->Shared->Prop
structure Env0 (P:Program) (w:World) (K:W.Frag) (mg:Str->Option Value) (base:Heap) (A:Around) (outer:List Env) (s:Shared) (H:Hp):Prop where
 frames:A.frames=some outer
 mod:Mod K mg base
 bs:∀ b o,base.get? b=some o->s.heap.get? b=some o/\H b=none
 bsz:base.objs.size≤s.heap.objs.size
 funs:s.heap.FunFrames base outer
 frf:∀ b∈frs outer,H b=none
 hok:HOk P w H s.heap
 bare:AllBare s.gens
def CE (outer:List Env) (P:Program) (w:World) (H:Hp) (s:Shared) (Q:VK) (u:Value) (s':Shared):Prop:=
 ∃ v H',s'.os=s.os/\AllBare s'.gens/\Un (frs outer) [] H H' s.heap s'.heap/\HOk P w H' s'.heap/\RelV v u/\Q v H'
def CR (CX:CXT) (outer:List Env) (P:Program) (w:World) (H:Hp) (s:Shared) (Q:VK) (E:XK) (r:Result) (s':Shared):Prop:=
 match r with
 |.ok (.ret u)=>CE outer P w H s Q u s'
 |.ok _=>False
 |.error e=>CX outer H s E e s'
structure FnOk (P:Program) (w:World) (K:W.Frag) (mg:Str->Option Value) (base:Heap) (CX:CXT) (k:Nat) (f:Addr) (fd:FuncData) (ps:List Str) (sp:Sp):Prop where
 len:∀ vs H Q E,sp vs H Q E->vs.length=ps.length
 run:∀ (A:Around) (outer:List Env) (s:Shared) (H:Hp) (args:Args) (us:List Value) (vs:List V) (Q:VK) (E:XK),Room k A->Env0 P w K mg base A outer s H->BindsTo s fd args (ps.zip us)->Vals vs us->sp vs H Q E->
  codeAny (model P w) A (.call (.ref f) args) (CR CX outer P w H s Q E) s
theorem FnOk.mono {P:Program}{w:World}{K:W.Frag}{mg:Str->Option Value}{base:Heap}{CX:CXT}{j k:Nat}{f:Addr}{fd:FuncData}{ps:List Str}{sp:Sp}(F:FnOk P w K mg base CX j f fd ps sp) (h:j≤k) :
  FnOk P w K mg base CX k f fd ps sp:=⟨F.len,fun A outer s H args us vs Q E hr=>F.run A outer s H args us vs Q E (hr.mono h)⟩
theorem FnOk.imp {P:Program}{w:World}{K:W.Frag}{mg:Str->Option Value}{base:Heap}{CX:CXT}{k:Nat}{f:Addr}{fd:FuncData}{ps:List Str}{sp sp':Sp}(F:FnOk P w K mg base CX k f fd ps sp)
  (h:∀ vs H Q E,sp' vs H Q E->sp vs H Q E):FnOk P w K mg base CX k f fd ps sp':=
 ⟨fun vs H Q E q=>F.len vs H Q E (h _ _ _ _ q),fun A outer s H args us vs Q E hr he hb hv hs=>F.run A outer s H args us vs Q E hr he hb hv (h _ _ _ _ hs)⟩
theorem Env0.make {P:Program}{w:World}{K:W.Frag}{mg:Str->Option Value}{base:Heap}{A:Around}{outer:List Env}{s:Shared}{H:Hp}(e:Env0 P w K mg base A outer s H) (C:Addr) (us:List Value) (kw:List (Str×Value)) :
  Env0 P w K mg base (A.under (.builtin "type.__call__" ⟨.ref C :: us,kw⟩)) outer s H:=⟨by first |exact e.frames | (simpa [Around.under,Code.envs,Code.isFrame,pushEnvs] using e.frames),e.mod,e.bs,e.bsz,e.funs,e.frf,e.hok,e.bare⟩
theorem Env0.in1 {P:Program}{w:World}{K:W.Frag}{mg:Str->Option Value}{base:Heap}{A:Around}{outer:List Env}{s:Shared}{H:Hp}(e:Env0 P w K mg base A outer s H) :
  Env0 P w K mg base A.in1 outer s H:=⟨e.frames,e.mod,e.bs,e.bsz,e.funs,e.frf,e.hok,e.bare⟩
section
variable {X:Cx}{pins:List (Addr×Obj)}{σ:St}{H:Hp}{s s':Shared}
theorem Inv.env0 (I:Inv X pins σ H s):Env0 X.prog X.w X.K X.mg X.base X.A X.stack s H:=
 ⟨I.ok.frames,I.ok.mod,I.bs,Nat.le_trans I.ok.bsz I.sz,I.stack,I.stkFree,I.hok,I.bare⟩
theorem Inv.after {Q:VK}{u:Value}(I:Inv X pins σ H s) (h:CE X.stack X.prog X.w H s Q u s'):EP X pins σ Q u s':=by
 obtain⟨v,H',os,bare,un,hok,r,q⟩:=h
 obtain⟨hh,g,d,t,os'⟩:=s'
 obtain rfl:os'=s.os:=os
 exact⟨v,H',I.call (h':=hh) (g':=g) (d':=d) (t':=t) (ch:=[]) un hok bare (fun b z=>absurd z (by simp)),r,q⟩
end
def ZM (sp:Sp) (dvs:List V) (E:XK) (t:TA):TE:=fun σ H Q=>t σ H fun vs H1=>sp (vs ++ dvs) H1 Q E
def Ql (C:Addr) (m:Str) (sp:Sp) (dvs:List V) (E:XK) (ta:TE) (t:TA):TE:=fun σ H Q=>ta σ H fun x H1=>∃ a dx fs,x=.ref a/\H1 a=some (.ins C dx fs)/\fs.lookup m=none/\
 t σ H1 fun vs H2=>sp (x :: (vs ++ dvs)) H2 Q E
def Qm (C:Addr) (sp:Sp) (dvs:List V) (E:XK) (t:TA):TE:=fun σ H Q=>t σ H fun vs H1=>∀ x dx,H1 x=none->H1 dx=none->dx≠x->
 sp (.ref x :: (vs ++ dvs)) (upd (upd H1 dx (.own x)) x (.ins C dx [])) (fun v H2=>v=.non/\Q (.ref x) H2) E
def Binds (K:W.Frag) (fd:FuncData) (ps:List Str) (ds:List Value):Prop:=
 ∀ (s:Shared) (us:List Value),K.In s.heap->(us ++ ds).length=ps.length->BindsTo s fd ⟨us,[]⟩ (ps.zip (us ++ ds))
theorem Binds.all {K:W.Frag}{fd:FuncData}{ps:List Str}(h:∀ us:List Value,us.length=ps.length->bindArgs fd ⟨us,[]⟩=pure (ps.zip us)):Binds K fd ps []:=fun s us _ hl=>by
 rw [List.append_nil] at hl ⊢
 exact .of_eq (h us hl)
def uB (CX:CXT) (X:Cx) (E:XK):Prop:=∀ (pins:List (Addr×Obj)) (σ:St) (H:Hp) (s:Shared) (e:Value) (s':Shared),Inv X pins σ H s->CX X.stack H s E e s'->X.xe e s'
section
variable {X:Cx}{CX:CXT}{k:Nat}{f C:Addr}{fd:FuncData}{ps:List Str}{sp:Sp}{dvs:List V}{ds:List Value}{E:XK}{x m:Str}{p pos apos:Pos}{e o:Expr}{es:List Expr}{ta:TE}{t:TA}
theorem Jy {pins:List (Addr×Obj)}{σ:St}{H:Hp}{s:Shared}{Q:VK}{us:List Value}{vs:List V}(F:FnOk X.prog X.w X.K X.mg X.base CX k f fd ps sp) (hr:Room k X.A) (hb:Binds X.K fd ps ds) (hd:Vals dvs ds) (hx:uB CX X E)
  (I:Inv X pins σ H s) (r:Vals vs us) (h:sp (vs ++ dvs) H Q E):wpAny (model X.prog X.w) X.A (call (.ref f) us) (EP X pins σ Q) X.xe s:=by
 have r2:Vals (vs ++ dvs) (us ++ ds):=r.append hd
 have hl:(us ++ ds).length=ps.length:=by rw [<- r2.length];exact F.len _ _ _ _ h
 refine wpAny_call (codeAny_mono (F.run X.A X.stack s H ⟨us,[]⟩ (us ++ ds) (vs ++ dvs) Q E hr I.env0 (hb s us I.kIn hl) r2 h) fun r s' hq=>?_)
 cases r with
 |error e=>exact hx pins σ H s e s' I hq
 |ok fl=>
  cases fl with
  |ret u=>exact I.after hq
  |next=>exact False.elim hq
  |brk=>exact False.elim hq
  |cont=>exact False.elim hq
theorem zci (F:FnOk X.prog X.w X.K X.mg X.base CX k f fd ps sp) (hr:Room k X.A) (hg:Gl X x) (hm:X.mg x=some (.ref f)) (hk:PySem.W.keepIn X.K (.ref f)=true) (hb:Binds X.K fd ps ds) (hd:Vals dvs ds) (hx:uB CX X E)
  (ha:PA X (e :: es) t) (hdb:(x == ("__debug__":Str))=false:=by decide) (he:starEach (e :: es) X.env=(false,eval e X.env) :: starEach es X.env:=by rfl) (hpl:(backTo pos (starEach es X.env)).any (·.1)=false:=by rfl) :
  PE X (.Call (.Name x p) (e :: es) [] pos) (ZM sp dvs E t):=by
 intro pins s σ H Q I h
 refine wpAny_Call_Name_kw (Ym I hg hm ?_ hdb)
 refine PySem.W.callWith_K (h₀:=X.base) I.ok.mod.kin hk (thn (ha pos pins s σ H _ I h) fun us s1 ⟨vs,H1,I1,r,q⟩=>⟨I1.kIn,?_⟩) he hpl
 exact Jy F hr hb hd hx I1 r q
theorem KR {pl:Sem Bool}(he:PE X o ta) (c:Cls X.K C) (hm:Meth X.K C m f) (F:FnOk X.prog X.w X.K X.mg X.base CX k f fd ps sp) (hr:Room k X.A) (hb:Binds X.K fd ps ds) (hd:Vals dvs ds) (hx:uB CX X E)
    (ht:eval (.Call (.Attribute o m apos) [] [] pos) X.env=(do
      let ov <- eval o X.env
      standAt apos.atName
      let (f,first) <- holding [ov] (getMethod ov m pl)
      callWith pos f first (backTo pos (starEach [] X.env)) (backToKw pos (keywordEach [] X.env))):=by rfl) :
    PE X (.Call (.Attribute o m apos) [] [] pos) (Ql C m sp dvs E ta Yq):=by
  intro pins s σ H Q I h
  refine PySem.W.methodCall_KW (pl:=pl) (thn (he pins s σ H _ I h) fun u s1 ⟨x,H1,I1,rx,a,dx,fs,ex,ea,l,q⟩=>?_) ht
  subst ex
  obtain rfl:u=Value.ref a:=rx
  refine Qh I1 ea c hm l ?_
  exact PySem.W.callWith_K0 (first:=[.ref a]) I1.kIn hm.kp (Jy (us:=[.ref a]) (vs:=[.ref a]) F hr hb hd hx I1 (.cons rfl .nil) q)
structure Mk (K:W.Frag) (C f:Addr):Prop where
 makes:PySem.W.makesIn K C=true
 init:PySem.W.findIn K (.ref C) "__init__" =some (some (.ref f))
 fn:PySem.W.isFn K (.ref f)=true
 kp:PySem.W.keepIn K (.ref C)=true
theorem KS {pins:List (Addr×Obj)}{σ:St}{H:Hp}{s:Shared}{Q:VK}{us:List Value}{vs:List V}(M:Mk X.K C f) (F:FnOk X.prog X.w X.K X.mg X.base CX k f fd ps sp) (hr:Room (k+1) X.A) (hb:Binds X.K fd ps ds) (hd:Vals dvs ds)
    (hx:uB CX X E) (I:Inv X pins σ H s) (r:Vals vs us)
    (h:∀ x dx,H x=none->H dx=none->dx≠x->sp (.ref x :: (vs ++ dvs)) (upd (upd H dx (.own x)) x (.ins C dx [])) (fun v H2=>v=.non/\Q (.ref x) H2) E) :
    wpAny (model X.prog X.w) X.A (call (.ref C) us) (EP X pins σ Q) X.xe s:=by
  have hq:=h (s.heap.objs.size+1) s.heap.objs.size (I.hok.fresh (Nat.le_succ _)) (I.hok.fresh (Nat.le_refl _)) (Nat.ne_of_lt (Nat.lt_succ_self _))
  have I2:=Inv.made (C:=C) I
  have r2:Vals (V.ref (s.heap.objs.size+1) :: (vs ++ dvs)) (Value.ref (s.heap.objs.size+1) :: (us ++ ds)):=.cons rfl (r.append hd)
  have hl:(Value.ref (s.heap.objs.size+1) :: us ++ ds).length=ps.length:=by
    have e:=r2.length
    rw [F.len _ _ _ _ hq] at e
    exact e.symm
  refine wpAny_call (KM (f:=f) I.kIn M.makes M.init (beq_iff_eq.mp M.fn) (codeAny_mono (F.run _ X.stack _ _ ⟨Value.ref (s.heap.objs.size+1) :: us,[]⟩ (Value.ref (s.heap.objs.size+1) :: (us ++ ds)) _ _ E (hr.make C us [])
    (I2.env0.make C us []) (hb _ (Value.ref (s.heap.objs.size+1) :: us) I2.kIn hl) r2 hq) fun r s' hq'=>?_))
  cases r with
  |error e=>exact hx pins σ _ _ e s' I2 hq'
  |ok fl=>
    cases fl with
    |ret u=>
      obtain⟨v,H',I3,rv,ev,q3⟩:=I2.after hq'
      subst ev
      exact⟨rv,⟨V.ref (s.heap.objs.size+1),H',I3,rfl,q3⟩⟩
    |next=>exact False.elim hq'
    |brk=>exact False.elim hq'
    |cont=>exact False.elim hq'
theorem zcj (M:Mk X.K C f) (F:FnOk X.prog X.w X.K X.mg X.base CX k f fd ps sp) (hr:Room (k+1) X.A) (hg:Gl X x) (hm:X.mg x=some (.ref C)) (hb:Binds X.K fd ps ds) (hd:Vals dvs ds) (hx:uB CX X E)
  (ha:PA X (e :: es) t) (hdb:(x == ("__debug__":Str))=false:=by decide) (he:starEach (e :: es) X.env=(false,eval e X.env) :: starEach es X.env:=by rfl) (hpl:(backTo pos (starEach es X.env)).any (·.1)=false:=by rfl) :
  PE X (.Call (.Name x p) (e :: es) [] pos) (Qm C sp dvs E t):=by
 intro pins s σ H Q I h
 refine wpAny_Call_Name_kw (Ym I hg hm ?_ hdb)
 refine PySem.W.callWith_K (h₀:=X.base) I.ok.mod.kin M.kp (thn (ha pos pins s σ H _ I h) fun us s1 ⟨vs,H1,I1,r,q⟩=>⟨I1.kIn,?_⟩) he hpl
 exact KS M F hr hb hd hx I1 r q
end
section
variable {X:Cx}{CX:CXT}{k:Nat}{f C:Addr}{fd:FuncData}{ps ks:List Str}{sp:Sp}{E:XK}{x m:Str}{p pos apos kpos:Pos}{e o:Expr}{es:List Expr}{kws:List Keyword}{te ta:TE}{t tk:TA}{nm:Option Str}
variable {g:List Value->List Value->List Value}{gV:List V->List V->List V}
end
structure FnScope (N P:List Str) (sc:Scope):Prop where
 kind:sc.kind=.function
 co:sc.isCoroutine=false
 gen:sc.isGenerator=false
 nd:N.Nodup
 pre:N.take P.length=P
 par:∀ x∈P,sc.names.lookup x=some .local\/sc.names.lookup x=some .cell
 nofree:∀ y∈sc.names,y.2≠.free
theorem YI {kindOf:Str->Option NameKind}{x:Str}:∀ {binds:List (Str×Value)}{m:Str->Option Value},(∀ v,(x,v) ∉ binds)->bindL kindOf binds m x=m x
 |[],_,_=>rfl
 | (n,v) :: r,m,h=>by
  unfold bindL
  rw [YI fun w hw=>h w (List.mem_cons_of_mem _ hw)]
  split
  ·have:x≠n:=by rintro rfl;exact h v List.mem_cons_self
   simp [this]
  ·rfl
theorem YJ {kindOf:Str->Option NameKind}{x:Str}:∀ {binds:List (Str×Value)}{m:Str->Option Value},(∀ v,(x,v) ∉ binds)->bindC kindOf binds m x=m x
 |[],_,_=>rfl
 | (n,v) :: r,m,h=>by
  unfold bindC
  rw [YJ fun w hw=>h w (List.mem_cons_of_mem _ hw)]
  split
  ·rfl
  ·have:x≠n:=by rintro rfl;exact h v List.mem_cons_self
   simp [this]
theorem YL {kindOf:Str->Option NameKind}{x:Str}{v:Value}:∀ {P:List Str}{vs:List Value}{i:Nat}{m:Str->Option Value},P.Nodup->P[i]? =some x->vs[i]? =some v->kindOf x=some .local->
  bindL kindOf (P.zip vs) m x=some v
 |[],_,_,_,_,h,_,_=>by simp at h
 |_ :: _,[],_,_,_,_,h,_=>by simp at h
 |p :: P,w :: vs,0,m,nd,h1,h2,hk=>by
  simp at h1 h2;subst h1;subst h2
  show bindL kindOf ((p,w) :: P.zip vs) m p=_
  unfold bindL
  rw [YI fun v hv=>(List.nodup_cons.mp nd).1 (List.of_mem_zip hv).1,if_pos hk]
  simp
 |p :: P,w :: vs,i+1,m,nd,h1,h2,hk=>by
  show bindL kindOf ((p,w) :: P.zip vs) m x=_
  unfold bindL
  exact YL (i:=i) (List.nodup_cons.mp nd).2 (by simpa using h1) (by simpa using h2) hk
theorem YM {kindOf:Str->Option NameKind}{x:Str}{v:Value}:∀ {P:List Str}{vs:List Value}{i:Nat}{m:Str->Option Value},P.Nodup->P[i]? =some x->vs[i]? =some v->kindOf x≠some .local->
  bindC kindOf (P.zip vs) m x=some v
 |[],_,_,_,_,h,_,_=>by simp at h
 |_ :: _,[],_,_,_,_,h,_=>by simp at h
 |p :: P,w :: vs,0,m,nd,h1,h2,hk=>by
  simp at h1 h2;subst h1;subst h2
  show bindC kindOf ((p,w) :: P.zip vs) m p=_
  unfold bindC
  rw [YJ fun v hv=>(List.nodup_cons.mp nd).1 (List.of_mem_zip hv).1,if_neg hk]
  simp
 |p :: P,w :: vs,i+1,m,nd,h1,h2,hk=>by
  show bindC kindOf ((p,w) :: P.zip vs) m x=_
  unfold bindC
  exact YM (i:=i) (List.nodup_cons.mp nd).2 (by simpa using h1) (by simpa using h2) hk
noncomputable def start (N:List Str) (vs:List V):St:=vs.map some ++ List.replicate (N.length - vs.length) none
noncomputable def uC (CX:CXT) (P:Program) (w:World) (K:W.Frag) (mg:Str->Option Value) (base:Heap) (N:List Str) (qual:Str) (scope:Scope) (f:Addr) (cd:Value) (A:Around) (outer:List Env) (s:Shared) (H:Hp) (E:XK):Cx where
 prog:=P
 w:=w
 K:=K
 mg:=mg
 base:=base
 A:=A.deeper (envOfC qual scope s.heap.objs.size f cd)
 N:=N
 s₀:=s
 H₀:=H
 env:=envOfC qual scope s.heap.objs.size f cd
 outer:=outer
 stack:=envOfC qual scope s.heap.objs.size f cd :: outer
 ex:=[]
 calm:=true
 fn:=fun _=>true
 pn:=[]
 xe:=fun e s'=>wpAny (model P w) (A.deeper (envOfC qual scope s.heap.objs.size f cd)) (leaving (envOfC qual scope s.heap.objs.size f cd) e) (fun _ s''=>CX outer H s E e s'') (fun e' s''=>CX outer H s E e' s'') s'
theorem XF {sc:Scope}{n:Nat}{x:Str}(h:sc.names.lookup x=some .cell):∃ c,(cellsFrom n sc.names []).lookup x=some c:=by
 have q:=PySem.W.cellsFrom_some sc.names n [] (.inl h)
 exact Option.isSome_iff_exists.mp q
theorem Jz {CX:CXT}{P:Program}{w:World}{K:W.Frag}{mg:Str->Option Value}{base:Heap}{N ps:List Str}{qual:Str}{scope:Scope}{f:Addr}{cd:Value}{A:Around}{outer:List Env}{s s1:Shared}{H:Hp}{E:XK}{us:List Value}{vs:List V}
  (S:FnScope N ps scope) (hd:A.handled=none) (e0:Env0 P w K mg base A outer s H) (hl:vs.length=ps.length) (r:Vals vs us)
  (x:InCallC s s.heap.objs.size (bindL (envOfC qual scope s.heap.objs.size f cd).kindOf (ps.zip us) fun _=>none) (cellsFrom (s.heap.objs.size+1) scope.names []) (bindC (envOfC qual scope s.heap.objs.size f cd).kindOf (ps.zip us) fun _=>none) s1) :
  Inv (uC CX P w K mg base N qual scope f cd A outer s H E) [] (start N vs) H s1:=by
 have hpl:ps.length≤N.length:=by have:=congrArg List.length S.pre;rw [List.length_take] at this;omega
 obtain⟨h1,tk,rfl,hk⟩:=x.done
 have noA:∀ b:Addr,b ∉ (uC CX P w K mg base N qual scope f cd A outer s H E).ex:=fun b z=>absurd (show b∈([]:List Addr) from z) (by simp)
 refine⟨⟨e0.mod,S.kind,rfl,rfl,Nat.le_refl _,fun y z c h1 h2=>?_,fun y hy=>?_,fun y c _ h=>?_,fun _=>hd,Around.frames_deeper e0.frames,.inr ⟨rfl,rfl⟩,fun b z=>absurd z (noA b),e0.bs,e0.bsz,fun b _ _=>noA b,fun b z=>absurd z (noA b),e0.funs,e0.frf⟩,
  rfl,e0.bare,Un.kept hk,⟨_,x.toInCall.ns,fun i y v h1 h2 h3=>?_⟩,fun y c h=>⟨_,x.cell y c h⟩,e0.hok.fresh (Nat.le_refl _),fun y c h=>?_,fun p hp=>absurd (show p∈([]:List (Addr×Obj)) from hp) (by simp),e0.hok.kept hk,?_⟩
 ·exact name_of_addr x.apart (PySem.mem_of_lookup h1) (PySem.mem_of_lookup h2)
 ·have hy:scope.names.lookup y=some .cell\/scope.names.lookup y=some .free:=hy
  rcases hy with hy |hy
  ·exact XF hy
  ·exact absurd rfl (S.nofree _ (PySem.mem_of_lookup hy))
 ·exact Nat.le_of_lt (x.above y c (PySem.mem_of_lookup h))
 ·have hi:i < vs.length:=by
   unfold start at h2
   by_cases hi:i < vs.length
   ·exact hi
   ·rw [List.getElem?_append_right (by simpa using hi)] at h2
    rw [List.getElem?_replicate] at h2
    split at h2 <;> cases h2
  have ha:vs[i]? =some v:=by
   unfold start at h2
   rw [List.getElem?_append_left (by simpa using hi),List.getElem?_map] at h2
   cases e:vs[i]? with
   |none=>rw [e] at h2;cases h2
   |some a=>rw [e] at h2;cases h2;rfl
  obtain⟨u,hu,rv⟩:=r.get ha
  have hp:ps[i]? =some y:=by
   rw [<- S.pre,List.getElem?_take_of_lt (by omega)];exact h1
  have ndP:ps.Nodup:=by rw [<- S.pre];exact S.nd.sublist (List.take_sublist _ _)
  refine⟨u,rv,?_⟩
  rcases S.par y (List.mem_of_getElem? hp) with k |k
  ·exact .inl ⟨k,YL ndP hp hu k⟩
  ·obtain⟨c,e⟩:=XF (n:=s.heap.objs.size+1) k
   refine .inr ⟨.inl k,c,e,?_⟩
   have q:=x.cell y c e
   rw [YM ndP hp hu (by show scope.names.lookup y≠_;rw [k];decide)] at q
   exact q
 ·exact e0.hok.fresh (Nat.le_of_lt (x.above y c (PySem.mem_of_lookup h)))
 ·unfold start
  show _=N.length
  rw [List.length_append,List.length_map,List.length_replicate]
  omega
theorem zbn {CX:CXT}{P:Program}{w:World}{K:W.Frag}{mg:Str->Option Value}{base:Heap}{k:Nat}{f:Addr}{name qual:Str}{params:Arguments}{body:List Stmt}{scope:Scope}{dV kV doc pm cdv ct oc:Value}{an od:Option Addr}
    {osl:Array (Option Value)}{N ps:List Str}{sp:Sp}(lk:K.lookup f=some ⟨oc,od,.func (PySem.W.fnOf name qual params body scope dV kV doc pm an cdv ct),osl⟩) (hcd:PySem.W.codeIn K cdv qual=true) (S:FnScope N ps scope)
    (len:∀ vs H Q E,sp vs H Q E->vs.length=ps.length)
    (hbody:∀ (A:Around) (outer:List Env) (s:Shared) (H:Hp) (vs:List V) (Q:VK) (E:XK),Room k (A.deeper (envOfC qual scope s.heap.objs.size f cdv))->sp vs H Q E->
      ∃ t,PSs (uC CX P w K mg base N qual scope f cdv A outer s H E) body t/\t { nx:=fun _ H'=>Q .non H',rt:=Q } (start N vs) H) :
    FnOk P w K mg base CX (k+1) f (PySem.W.fnOf name qual params body scope dV kV doc pm an cdv ct) ps sp:=by
  refine⟨len,fun A outer s H args us vs Q E hr e0 hb r hsp=>?_⟩
  have hl:=len _ _ _ _ hsp
  have KX:K.In s.heap:=e0.mod.kin.keeps fun b o e=>(e0.bs b o e).1
  have lim:s.heap.NoLimit:=e0.mod.nolimit.keeps fun b o e=>(e0.bs b o e).1
  have hkind:∀ y∈ps.zip us,scope.names.lookup y.1=some .local\/(scope.names.lookup y.1=some .cell/\((cellsFrom (s.heap.objs.size+1) scope.names []).lookup y.1).isSome=true):=fun⟨n,v⟩ hy=>by
    rcases S.par n (List.of_mem_zip hy).1 with q |q
    · exact .inl q
    · exact .inr ⟨q,PySem.W.cellsFrom_some _ _ _ (.inl q)⟩
  refine codeAny_call_function hr.depth (KX _ _ lk) rfl S.co S.gen rfl (PySem.W.codeRec_of KX hcd) (hb _ _ _ _ ?_)
  refine wpAny_newFunctionEnv_cells S.kind hkind fun env he s1 x=>?_
  subst he
  refine⟨lim.keeps x.toInCall.keep,codeAny_func ?_⟩
  obtain⟨t,ht,hq⟩:=hbody A outer s H vs Q E (hr.deeper _) hsp
  have I:Inv (uC CX P w K mg base N qual scope f cdv A outer s H E) [] (start N vs) H s1:=Jz S hr.hd e0 hl r x
  refine wpAny_mono (ht [] s1 (start N vs) H _ I hq) (fun fl s' hs=>?_) fun e s' hs=>hs
  have fin:∀ {σ':St}{H':Hp}{v:V}{u:Value},Inv (uC CX P w K mg base N qual scope f cdv A outer s H E) [] σ' H' s'->RelV v u->Q v H'->CE outer P w H s Q u s':=
    fun {σ' H' v u} J rv q=>⟨v,H',J.os,J.bare,J.base,J.hok,rv,q⟩
  cases fl with
  |ret u=>
    obtain⟨v,σ',H',J,rv,q⟩:=hs
    exact fin J rv q
  |next=>
    obtain⟨σ',H',J,q⟩:=hs
    exact fin (v:=V.non) (u:=Value.none) J rfl q
  |brk=>
    obtain⟨_,_,_,q⟩:=hs
    exact False.elim q
  |cont=>
    obtain⟨_,_,_,q⟩:=hs
    exact False.elim q
section
variable {X:Cx}{x:Str}{p pos:Pos}{e:Expr}{es:List Expr}{t:TA}{id T:String}{r:List V->Hp->VK->Prop}
def tCB (r:List V->Hp->VK->Prop) (t:TA):TE:=fun σ H Q=>t σ H fun vs H1=>r vs H1 Q
theorem yT (hc:xy X (.builtin id) r) (hg:Gl X x) (hm:X.mg x=none) (hv:bootBuiltins x=some (.builtin id)) (ha:PA X (e :: es) t) (hn:x≠"__name__":=by decide) (hdb:(x == ("__debug__":Str))=false:=by decide)
  (he:starEach (e :: es) X.env=(false,eval e X.env) :: starEach es X.env:=by rfl) (hpl:(backTo pos (starEach es X.env)).any (·.1)=false:=by rfl):PE X (.Call (.Name x p) (e :: es) [] pos) (tCB r t):=by
 intro pins s σ H Q I h
 refine wpAny_Call_Name_kw (vE I hg hm hv ?_ hn hdb)
 exact PyProof.Rows.callWith_builtin1 (thn (ha pos pins s σ H _ I h) fun us s1 ⟨vs,H1,I1,r1,q1⟩=>hc pins s1 σ H1 vs us Q I1 r1 q1) he hpl
theorem qr (hc:xy X (.type T) r) (hg:Gl X x) (hm:X.mg x=none) (hv:bootBuiltins x=some (.type T)) (ha:PA X (e :: es) t) (hn:x≠"__name__":=by decide) (hdb:(x == ("__debug__":Str))=false:=by decide)
  (he:starEach (e :: es) X.env=(false,eval e X.env) :: starEach es X.env:=by rfl) (hpl:(backTo pos (starEach es X.env)).any (·.1)=false:=by rfl):PE X (.Call (.Name x p) (e :: es) [] pos) (tCB r t):=by
 intro pins s σ H Q I h
 refine wpAny_Call_Name_kw (vE I hg hm hv ?_ hn hdb)
 exact PyProof.Rows.callWith_type1 (thn (ha pos pins s σ H _ I h) fun us s1 ⟨vs,H1,I1,r1,q1⟩=>hc pins s1 σ H1 vs us Q I1 r1 q1) he hpl
end
end L2
namespace HT
open PySem PyProof.Rows
section
open PySem.SeqAt
open PySem.AutoSeq1 (wpAny_loadPart')
open PySem.MeetsSeq PySem.MeetsSeq2 PySem.MeetsSeq3
end
section
variable {prog:Program}{w:World}{A:Around}{E:Value->Shared->Prop}{s:Shared}
noncomputable def sIx (n d:Nat):Option Int->Nat
 |none=>d
 |some v=>if v < 0 then (v+(n:Int)).toNat else min v.toNat n
theorem sIx_none (n d:Nat):sIx n d none=d:=rfl
theorem sIx_nat (n d k:Nat):sIx n d (some (k:Int))=min k n:=by
 show (if (k:Int) < 0 then ((k:Int)+(n:Int)).toNat else min (k:Int).toNat n)=min k n
 rw [if_neg (by omega),Int.toNat_natCast]
end
end HT
namespace L2
open PySem PySem.Spec PyProof.Rows
abbrev TO:=St->Hp->(Option Int->Hp->Prop)->Prop
def PO (X:Cx) (e:Option Expr) (t:TO):Prop:=
 ∀ (pins:List (Addr×Obj)) (s:Shared) (σ:St) (H:Hp) (Q:Option Int->Hp->Prop),Inv X pins σ H s->t σ H Q->
  wpAny (model X.prog X.w) X.A (evalPart e X.env) (fun u s'=>∃ o H',Inv X pins σ H' s'/\IsPart u o/\Q o H') X.xe s
def Uw:TO:=fun _ H Q=>Q none H
def zbo (t:TE):TO:=fun σ H Q=>t σ H fun x H1=>∃ i,x=.int i/\Q (some i) H1
section
variable {X:Cx}{e:Expr}{te:TE}{lo hi:Option Expr}{tl th:TO}{pos p2:Pos}
theorem Yr:PO X none Uw:=by
 intro pins s σ H Q I h
 rw [evalPart_none]
 exact wpAny_pure ⟨none,H,I,.none,h⟩
theorem xL (h:PE X e te):PO X (some e) (zbo te):=by
 intro pins s σ H Q I hw
 rw [evalPart_some]
 refine thn (h pins s σ H _ I hw) fun u s1 ⟨x,H1,I1,r1,q1⟩=>?_
 obtain⟨i,rfl,q⟩:=q1
 obtain⟨t,rfl⟩:=r1
 exact⟨some i,H1,I1,.int i t,q⟩
def SlR (X:Cx) (r:V->Option Int->Option Int->Hp->VK->Prop):Prop:=
 ∀ (pins:List (Addr×Obj)) (s:Shared) (σ:St) (H:Hp) (x:V) (v vl vu:Value) (lo hi:Option Int) (sl:Addr) (Q:VK),Inv X pins σ H s->RelV x v->s.heap.IsSliceOf sl vl vu .none->IsPart vl lo->IsPart vu hi->r x lo hi H Q->
  ∃ T id,typeLookup (.type T) "__getitem__" =pure (some (.builtin id))/\s.TypeIs v T/\wpAny (model X.prog X.w) X.A (getItem v (.ref sl)) (EP X pins σ Q) X.xe s
theorem SlR.or {r r':V->Option Int->Option Int->Hp->VK->Prop}(h:SlR X r) (h':SlR X r'):SlR X (fun x lo hi H Q=>r x lo hi H Q\/r' x lo hi H Q):=by
 intro pins s σ H x v vl vu lo hi sl Q I rx hs pl pu q
 rcases q with q |q
 ·exact h pins s σ H x v vl vu lo hi sl Q I rx hs pl pu q
 ·exact h' pins s σ H x v vl vu lo hi sl Q I rx hs pl pu q
def tSl (r:V->Option Int->Option Int->Hp->VK->Prop) (te:TE) (tl th:TO):TE:=fun σ H Q=>te σ H fun x H1=>tl σ H1 fun l H2=>th σ H2 fun u H3=>r x l u H3 Q
theorem vN {r:V->Option Int->Option Int->Hp->VK->Prop}(hr:SlR X r) (he:PE X e te) (hl:PO X lo tl) (hu:PO X hi th):PE X (.Subscript e (.Slice lo hi none p2) pos) (tSl r te tl th):=by
 intro pins s σ H Q I h
 refine Subscript_ (thn (he pins s σ H _ I h) fun v s1 ⟨x,H1,I1,r1,q1⟩=>?_)
 refine wpAny_Slice (thn (hl pins s1 σ H1 _ I1 q1) fun vl s2 ⟨l,H2,I2,pl,q2⟩=>thn (hu pins s2 σ H2 _ I2 q2) fun vu s3 ⟨u,H3,I3,pu,q3⟩=>?_)
 rw [evalPart_none]
 refine wpAny_pure ?_
 have I4:Inv X pins σ H3 { s3 with heap:=s3.heap.push { cls:=.type "slice",data:=.fields #[vl,vu,.none] } }:=I3.kept (t':=s3.toks) fun b ob q=>Heap.get?_push_of_some _ q
 obtain⟨T,id,hT,ht,hg⟩:=hr pins { s3 with heap:=s3.heap.push { cls:=.type "slice",data:=.fields #[vl,vu,.none] } } σ H3 x v vl vu l u s3.heap.objs.size Q I4 r1 (Heap.IsSliceOf.new ..) pl pu q3
 show wpAny (model X.prog X.w) X.A (subscriptTail e (.Slice lo hi none p2) v (.ref s3.heap.objs.size)) (EP X pins σ Q) X.xe { s3 with heap:=s3.heap.push { cls:=.type "slice",data:=.fields #[vl,vu,.none] } }
 exact tail_any (ops:=[.ref s3.heap.objs.size,v]) ht hT hg (by with_unfolding_all rfl)
noncomputable def jX (xs:List V) (lo hi:Option Int):List V:=(xs.drop (HT.sIx xs.length 0 lo)).take (HT.sIx xs.length xs.length hi - HT.sIx xs.length 0 lo)
theorem VU (xs:List V) (lo hi:Option Int):(jX xs lo hi).length≤xs.length:=by
 unfold jX
 rw [List.length_take,List.length_drop]
 omega
end
noncomputable def ixN (n:Nat) (i:Int):Option Nat:=if 0≤i then (if i < n then some i.toNat else none) else if -(n:Int)≤i then some (i+n).toNat else none
noncomputable def atI {α:Type}(xs:List α) (i:Int):Option α:=(ixN xs.length i).bind fun j=>xs[j]?
theorem Ux {n:Nat}{i:Int}{j:Nat}(h:ixN n i=some j):seqIndex? i n=some j/\j < n/\-(n:Int)≤i/\i < n:=by
 unfold ixN at h
 by_cases h0:0≤i
 ·rw [if_pos h0] at h
  by_cases h1:i < n
  ·rw [if_pos h1] at h
   have e:i.toNat=j:=Option.some.inj h
   exact⟨by rw [seqIndex_of h0 h1,e],by omega,by omega,h1⟩
  ·rw [if_neg h1] at h;cases h
 ·rw [if_neg h0] at h
  by_cases h1:-(n:Int)≤i
  ·rw [if_pos h1] at h
   have e:(i+n).toNat=j:=Option.some.inj h
   exact⟨by rw [seqIndex_neg (by omega) h1,e],by omega,h1,by omega⟩
  ·rw [if_neg h1] at h;cases h
theorem Ys {α:Type}{xs:List α}{i:Int}{v:α}(h:atI xs i=some v):∃ j,seqIndex? i xs.length=some j/\xs[j]? =some v/\j < xs.length/\-(xs.length:Int)≤i/\i < xs.length:=by
 unfold atI at h
 cases e:ixN xs.length i with
 |none=>rw [e] at h;cases h
 |some j=>
  rw [e] at h
  obtain⟨h1,h2,h3,h4⟩:=Ux e
  exact⟨j,h1,h,h2,h3,h4⟩
theorem kN {α:Type}{xs:List α}{j:Nat}{v:α}(h:xs[j]? =some v):atI xs (j:Int)=some v:=by
 have hj:j < xs.length:=(List.getElem?_eq_some_iff.mp h).1
 have e:ixN xs.length (j:Int)=some j:=by
  unfold ixN
  rw [if_pos (by omega),if_pos (by omega)];simp
 unfold atI;rw [e];exact h
def zck (b:Expr):Prop:=∀ o i,subscripted b false o i=operate [o,i] (getItem o i)
def IxR (X:Cx) (r:R2):Prop:=
 ∀ (value slice:Expr) (pins:List (Addr×Obj)) (s:Shared) (σ:St) (H:Hp) (x y:V) (v u:Value) (Q:VK),Inv X pins σ H s->RelV x v->RelV y u->r x y H Q->
  subscripted slice false v u=operate [v,u] (getItem v u)->wpAny (model X.prog X.w) X.A (subscriptTail value slice v u) (EP X pins σ Q) X.xe s
def MtR (X:Cx) (id:String) (r:V->List V->Hp->VK->Prop):Prop:=
 ∀ (pins:List (Addr×Obj)) (s:Shared) (σ:St) (H:Hp) (x:V) (xs:List V) (v:Value) (us:List Value) (Q:VK),Inv X pins σ H s->RelV x v->Vals xs us->r x xs H Q->
  wpAny (model X.prog X.w) X.A (call (.builtin id) (v :: us)) (EP X pins σ Q) X.xe s
section
variable {X:Cx}{a b:Expr}{ta tb:TE}{pos:Pos}
theorem IxR.or {r r':R2}(h:IxR X r) (h':IxR X r'):IxR X (fun x y H Q=>r x y H Q\/r' x y H Q):=by
 intro value slice pins s σ H x y v u Q I rx ry q hs
 rcases q with q |q
 ·exact h value slice pins s σ H x y v u Q I rx ry q hs
 ·exact h' value slice pins s σ H x y v u Q I rx ry q hs
theorem MtR.or {id:String}{r r':V->List V->Hp->VK->Prop}(h:MtR X id r) (h':MtR X id r'):MtR X id (fun x xs H Q=>r x xs H Q\/r' x xs H Q):=by
 intro pins s σ H x xs v us Q I rx rs q
 rcases q with q |q
 ·exact h pins s σ H x xs v us Q I rx rs q
 ·exact h' pins s σ H x xs v us Q I rx rs q
theorem yJ {r:R2}(hr:IxR X r) (ha:PE X a ta) (hb:PE X b tb) (hs:zck b):PE X (.Subscript a b pos) (tOp r ta tb):=by
 intro pins s σ H Q I h
 exact Subscript_ (KJ ha hb I h fun v u s2 x y H2 I2 rx ry q=>hr a b pins s2 σ H2 x y v u Q I2 rx ry q (hs _ _))
def Qn (K:W.Frag):R2:=fun x y H Q=>∃ p xs i v,x=.ref p/\y=.int i/\SqL K H p xs/\atI xs i=some v/\Q v H
def KU (K:W.Frag):R2:=fun x y H Q=>∃ p xs i v,x=.ref p/\y=.int i/\SqT K H p xs/\atI xs i=some v/\Q v H
def zd5:R2:=fun x y H Q=>∃ z i c,x=.str z/\y=.int i/\z.length≤sizeLine/\atI z.cps.toList i=some c/\Q (.str ⟨#[c]⟩) H
theorem zcl:IxR X (Qn X.K):=by
 intro value slice pins s σ H x y v u Q I rx ry h hs
 obtain⟨p,xs,i,z,rfl,rfl,hq,he,q⟩:=h
 cases rx
 obtain⟨t,rfl⟩:=ry
 obtain⟨its,r,pl,hz⟩:=I.list hq
 obtain⟨j,h1,h2,h3,h4,h5⟩:=Ys he
 obtain⟨w,ew,rw'⟩:=r.get h2
 have hl:=r.length
 have hn:=qS
 have fin:EP X pins σ Q w s:=⟨z,H,I,rw',q⟩
 by_cases h0:0≤i
 ·have hj:i.toNat=j:=by
   rw [seqIndex_of h0 h5] at h1
   exact Option.some.inj h1
  exact item_listR pl.isList h0 (by omega) (by rw [hj];simpa using ew) fin hs
 ·have hj:(i+(its.toArray.size:Int)).toNat=j:=by
   rw [seqIndex_neg (by omega) h4] at h1
   rw [List.size_toArray,<- hl]
   exact Option.some.inj h1
  exact subscriptTail_builtinR (x:=w) pl.isList.typeIs slot_list_getitem.lookup
   (wpAny_getItem_list_neg (Q:=fun r s'=>r=w/\EP X pins σ Q r s') pl.isList (by omega) (by rw [List.size_toArray] <;> omega) (by omega) (by rw [hj];simpa using ew) ⟨rfl,fin⟩) hs
theorem zd6:IxR X (KU X.K):=by
 intro value slice pins s σ H x y v u Q I rx ry h hs
 obtain⟨p,xs,i,z,rfl,rfl,hq,he,q⟩:=h
 cases rx
 obtain⟨t,rfl⟩:=ry
 obtain⟨its,r,pl,hz⟩:=I.tuple hq
 obtain⟨j,h1,h2,h3,h4,h5⟩:=Ys he
 obtain⟨w,ew,rw'⟩:=r.get h2
 have hl:=r.length
 have hn:=qS
 have fin:EP X pins σ Q w s:=⟨z,H,I,rw',q⟩
 exact subscriptTail_builtinR (x:=w) pl.typeIs slot_tuple_getitem.lookup
  (getItem_tuple (j:=j) (Q:=fun r s'=>r=w/\EP X pins σ Q r s') pl (by omega) (by omega) (by rw [List.size_toArray,<- hl];exact h1) (by simpa using ew) ⟨rfl,fin⟩) hs
theorem jY:IxR X zd5:=by
  intro value slice pins s σ H x y v u Q I rx ry h hs
  obtain⟨z,i,c,rfl,rfl,hz,he,q⟩:=h
  obtain⟨t,rfl⟩:=rx
  obtain⟨t',rfl⟩:=ry
  obtain⟨j,h1,h2,h3,h4,h5⟩:=Ys he
  have hl:z.cps.toList.length=z.length:=by simp [Str.length]
  rw [hl] at h1 h4 h5
  have hn:=qS
  exact tail_any (typeIs_str s z t) slot_str_getitem.lookup (getItem_str (c:=c) (by
    have e1:decide (i < -(2 ^ 63:Int))=false:=decide_eq_false (by omega)
    have e2:decide (i ≥ 2 ^ 63)=false:=decide_eq_false (by omega)
    rw [e1,e2,Bool.or_false]) (by rw [h1];simpa using h2) ⟨.str ⟨#[c]⟩,H,I.tok _,⟨_,rfl⟩,q⟩) hs
theorem Qo (its:List Value) (n j:Nat) (u:Value):Obj.mapSeq (·.setIfInBounds j u) { cls:=.type "list",data:=.seq its.toArray n } = { cls:=.type "list",data:=.seq (its.set j u).toArray n }:=by
 simp [Obj.mapSeq]
theorem Inv.lst {pins:List (Addr×Obj)}{σ:St}{H:Hp}{s:Shared}{p:Addr}{xs:List V}(I:Inv X pins σ H s) (h:H p=some (.lst xs)) :
  ∃ (its:List Value) (n:Nat),Vals xs its/\s.heap.get? p=some { cls:=.type "list",data:=.seq its.toArray n }/\xs.length≤sizeLine:=by
 obtain⟨z,its,n,r,e⟩:=I.hok p _ h
 exact⟨its,n,r,e,z⟩
theorem Inv.lstUpd {pins:List (Addr×Obj)}{σ:St}{H:Hp}{s:Shared}{p:Addr}{xs ys:List V}{its its':List Value}{n n':Nat}{f:Obj->Obj}(I:Inv X pins σ H s) (h:H p=some (.lst xs))
  (ho:s.heap.get? p=some { cls:=.type "list",data:=.seq its.toArray n }) (hf:f { cls:=.type "list",data:=.seq its.toArray n } = { cls:=.type "list",data:=.seq its'.toArray n' }) (r:Vals ys its') (hz:ys.length≤sizeLine) (t:Nat) :
  Inv X pins σ (upd H p (.lst ys)) { s with heap:=s.heap.update p f,toks:=t }:=by
 have e:(s.heap.update p f).get? p=some { cls:=.type "list",data:=.seq its'.toArray n' }:=by
  rw [Heap.get?_update_self f ho (by rw [hf] <;> rfl),hf]
 refine I.write (x:=p) (e:=p) (by rw [h];trivial) (.inl rfl) (fun b u hb q=>(Heap.get?_update_other _ _ (Ne.symm hb)).trans q) ⟨_,e⟩ ?_
 exact⟨hz,its',n',r,e⟩
def zbp:V->V->V->Hp->(Hp->Prop)->Prop:=fun o i v H Q=>∃ p xs k j,o=.ref p/\i=.int k/\H p=some (.lst xs)/\ixN xs.length k=some j/\Q (upd H p (.lst (xs.set j v)))
theorem vq:zdP X zbp:=by
 intro pins s σ H o i v ov iv u Q I ro ri rv h
 obtain⟨p,xs,k,j,rfl,rfl,hp,hj,q⟩:=h
 cases ro
 obtain⟨t,rfl⟩:=ri
 obtain⟨its,n,r,ho,hz⟩:=I.lst hp
 obtain⟨h1,h2,h3,h4⟩:=Ux hj
 have hl:=r.length
 have hn:=qS
 have I':Inv X pins σ (upd H p (.lst (xs.set j v))) { s with heap:=s.heap.update p (Obj.mapSeq (·.setIfInBounds j u)) }:=
  I.lstUpd hp ho (Qo its n j u) (r.set rv j) (by rw [List.length_set];exact hz) s.toks
 by_cases h0:0≤k
 ·have hk:k.toNat=j:=by
   rw [seqIndex_of h0 h4] at h1
   exact Option.some.inj h1
  exact PySem.W.ki_setAt ho h0 (by omega) (by rw [List.size_toArray,<- hl];exact h4) (by rw [hk];exact⟨_,I',q⟩)
 ·have hk:(k+(its.toArray.size:Int)).toNat=j:=by
   rw [seqIndex_neg (by omega) h3] at h1
   rw [List.size_toArray,<- hl]
   exact Option.some.inj h1
  exact PySem.W.ki_setBack ho (by omega) (by rw [List.size_toArray,<- hl];exact h3) (by omega) (by rw [hk];exact⟨_,I',q⟩)
theorem XG (lo hi:Option Int) (n:Nat):(sliceBounds lo hi none n).1 =((HT.sIx n 0 lo:Nat):Int)/\(sliceBounds lo hi none n).2.1 =((HT.sIx n n hi:Nat):Int)/\(sliceBounds lo hi none n).2.2 = 1:=by
 refine⟨?_,?_,rfl⟩
 ·cases lo with
  |none=>simp [sliceBounds,HT.sIx]
  |some i=>
   simp only [sliceBounds,HT.sIx,Option.getD_none,show (1:Int) > 0 by decide,if_true]
   by_cases h:i < 0
   ·simp only [h,if_true] <;> omega
   ·simp only [h,if_false] <;> omega
 ·cases hi with
  |none=>simp [sliceBounds,HT.sIx]
  |some i=>
   simp only [sliceBounds,HT.sIx,Option.getD_none,show (1:Int) > 0 by decide,if_true]
   by_cases h:i < 0
   ·simp only [h,if_true] <;> omega
   ·simp only [h,if_false] <;> omega
theorem Y0 (its:List Value) (lo hi:Option Int):slicePick its.toArray lo hi none=((its.drop (HT.sIx its.length 0 lo)).take (HT.sIx its.length its.length hi - HT.sIx its.length 0 lo)).toArray:=by
 obtain⟨h1,h2,h3⟩:=XG lo hi its.toArray.size
 unfold slicePick
 rw [h1,h2,h3]
 simp only [sliceRange_one,pick_run,List.size_toArray] <;> rfl
def Qp (K:W.Frag):V->Option Int->Option Int->Hp->VK->Prop:=fun x lo hi H Q=>∃ a xs,x=.ref a/\SqL K H a xs/\∀ p,H p=none->Q (.ref p) (upd H p (.lst (jX xs lo hi)))
theorem zcm:SlR X (Qp X.K):=by
 intro pins s σ H x v vl vu lo hi sl Q I rx hs pl pu h
 obtain⟨a,xs,rfl,hx,q⟩:=h
 cases rx
 obtain⟨its,r,ht,hz⟩:=I.list hx
 have hlen:=r.length
 refine⟨"list",_,slot_list_getitem.lookup,ht.isList.typeIs,?_⟩
 refine wpAny_getItem_list_slice ht.isList hs pl pu .none (by simp) ?_ (by rw [List.size_toArray] <;> omega)
 rw [Y0,<- hlen]
 refine⟨.ref s.heap.objs.size,_,I.laid (t':=s.toks) (o:=.lst (jX xs lo hi)) (fun b ob q=>Heap.get?_push_of_some _ q) (Nat.le_refl _) ?_,rfl,q _ (I.hok.fresh (Nat.le_refl _))⟩
 exact⟨Nat.le_trans (VU xs lo hi) hz,_,0,(r.drop (HT.sIx xs.length 0 lo)).take (HT.sIx xs.length xs.length hi - HT.sIx xs.length 0 lo),Heap.get?_push_size _ rfl⟩
noncomputable def uw:V->Bool
 |.non=>true
 |.bl _=>true
 |.int _=>true
 |.str _=>true
 |_=>false
noncomputable def eqV:V->V->Bool
 |.non,.non=>true
 |.bl a,.bl b=>a == b
 |.bl a,.int b=>(if a then 1 else 0) == b
 |.int a,.bl b=>a == (if b then 1 else 0)
 |.int a,.int b=>a == b
 |.str a,.str b=>a == b
 |_,_=>false
theorem zd7 {A:Around}{s:Shared}{y x:V}{u v:Value}(ry:RelV y u) (rx:RelV x v) (fy:uw y=true) (fx:uw x=true):SeqAt.EqAt A s u v (eqV y x):=by
 cases y with
 |non=>
  cases ry
  cases x with
  |non=>cases rx;exact SeqAt.EqAt.same _
  |bl b=>cases rx;exact SeqAt.EqAt.none_bool b
  |int b=>obtain⟨t,rfl⟩:=rx;exact SeqAt.EqAt.none_int b t
  |str b=>obtain⟨t,rfl⟩:=rx;exact SeqAt.EqAt.none_str b t
  |_=>exact absurd (show false=true from fx) Bool.false_ne_true
 |bl a=>
  cases ry
  cases x with
  |non=>cases rx;exact SeqAt.EqAt.bool_none a
  |bl b=>cases rx;exact SeqAt.EqAt.bool_bool a b
  |int b=>obtain⟨t,rfl⟩:=rx;exact SeqAt.EqAt.bool_int a b t
  |str b=>obtain⟨t,rfl⟩:=rx;exact SeqAt.EqAt.bool_str a b t
  |_=>exact absurd (show false=true from fx) Bool.false_ne_true
 |int a=>
  obtain⟨t',rfl⟩:=ry
  cases x with
  |non=>cases rx;exact SeqAt.EqAt.int_none a t'
  |bl b=>cases rx;exact SeqAt.EqAt.int_bool a t' b
  |int b=>obtain⟨t,rfl⟩:=rx;exact SeqAt.EqAt.int_int a t' b t
  |str b=>obtain⟨t,rfl⟩:=rx;exact SeqAt.EqAt.int_str a t' b t
  |_=>exact absurd (show false=true from fx) Bool.false_ne_true
 |str a=>
  obtain⟨t',rfl⟩:=ry
  cases x with
  |non=>cases rx;exact SeqAt.EqAt.str_none a t'
  |bl b=>cases rx;exact SeqAt.EqAt.str_bool a t' b
  |int b=>obtain⟨t,rfl⟩:=rx;exact SeqAt.EqAt.str_int a t' b t
  |str b=>obtain⟨t,rfl⟩:=rx;exact SeqAt.EqAt.str_str a t' b t
  |_=>exact absurd (show false=true from fx) Bool.false_ne_true
 |_=>exact absurd (show false=true from fy) Bool.false_ne_true
noncomputable def eqU (x:V) (u:Value):Bool:=match u with
 |.none=>eqV .non x
 |.bool b=>eqV (.bl b) x
 |.int i _=>eqV (.int i) x
 |.str z _=>eqV (.str z) x
 |_=>false
theorem JA {x y:V}{u:Value}(r:RelV y u) (f:uw y=true):eqU x u=eqV y x:=by
 cases y with
 |non=>cases r;rfl
 |bl b=>cases r;rfl
 |int i=>obtain⟨t,rfl⟩:=r;rfl
 |str z=>obtain⟨t,rfl⟩:=r;rfl
 |_=>exact absurd (show false=true from f) Bool.false_ne_true
theorem Yt {x:V}:∀ {xs:List V}{us:List Value},Vals xs us->xs.all uw=true->us.any (eqU x)=xs.any fun y=>eqV y x
 |_,_,.nil,_=>rfl
 |y :: xs,u :: us,.cons r t,f=>by
  rw [List.all_cons,Bool.and_eq_true] at f
  rw [List.any_cons,List.any_cons,JA r f.1,Yt t f.2]
theorem Zk {A:Around}{s:Shared}{x:V}{v:Value}(rx:RelV x v) (fx:uw x=true):∀ {xs:List V}{us:List Value},Vals xs us->xs.all uw=true->∀ u∈us,SeqAt.EqAt A s u v (eqU x u)
 |_,_,.nil,_=>fun u hu=>by cases hu
 |y :: xs,u :: us,.cons r t,f=>fun u' hu=>by
  rw [List.all_cons,Bool.and_eq_true] at f
  rcases List.mem_cons.mp hu with rfl |hu
  ·rw [JA r f.1];exact zd7 r rx f.1 fx
  ·exact Zk rx fx t f.2 u' hu
noncomputable def inV (x:V) (xs:List V):Bool:=xs.any fun y=>eqV y x
def rIn (K:W.Frag) (neg:Bool):R2:=fun x y H Q=>∃ p xs,y=.ref p/\(SqL K H p xs\/SqT K H p xs)/\uw x=true/\xs.all uw=true/\Q (.bl (if neg then !inV x xs else inV x xs)) H
theorem JB:OpR X (compareOp .In) (rIn X.K false):=by
 intro pins s σ H x y v u Q I rx ry h
 obtain⟨p,xs,rfl,hq,fx,fs,q⟩:=h
 cases ry
 rcases hq with hq |hq
 ·obtain⟨its,r,pl,hz⟩:=I.list hq
  refine SeqAt.in_listAt (eqU x) pl.isList (fun w hw=>Zk rx fx r fs w (by simpa using hw)) ⟨.bl _,H,I,rfl,?_⟩
  rw [show its.toArray.any (eqU x)=its.any (eqU x) by simp,Yt r fs]
  exact q
 ·obtain⟨its,r,pl,hz⟩:=I.tuple hq
  refine SeqAt.in_tupleAt (eqU x) pl (fun w hw=>Zk rx fx r fs w (by simpa using hw)) ⟨.bl _,H,I,rfl,?_⟩
  rw [show its.toArray.any (eqU x)=its.any (eqU x) by simp,Yt r fs]
  exact q
theorem XH:xy X (.builtin "len") (fun xs H Q=>∃ p ys,xs=[.ref p]/\(SqL X.K H p ys\/SqT X.K H p ys)/\Q (.int ys.length) H):=by
 intro pins s σ H xs us Q I r h
 obtain⟨p,ys,rfl,hq,q⟩:=h
 obtain⟨u,rfl,rx⟩:=Xl r
 cases rx
 have hn:=qS
 rcases hq with hq |hq
 ·obtain⟨its,r',pl,hz⟩:=I.list hq
  have hlen:=r'.length
  exact Calls.call_len_list pl.isList (by simp only [List.size_toArray] <;> omega) ⟨.int ys.length,H,I.tok _,⟨s.toks+1,by rw [List.size_toArray,hlen]⟩,q⟩
 ·obtain⟨its,r',pl,hz⟩:=I.tuple hq
  have hlen:=r'.length
  exact len_tuple pl (by simp only [List.size_toArray] <;> omega) ⟨.int ys.length,H,I.tok _,⟨s.toks+1,by rw [List.size_toArray,hlen]⟩,q⟩
theorem xy.or {f:Value}{r r':List V->Hp->VK->Prop}(h:xy X f r) (h':xy X f r'):xy X f (fun xs H Q=>r xs H Q\/r' xs H Q):=by
 intro pins s σ H xs us Q I rs q
 rcases q with q |q
 ·exact h pins s σ H xs us Q I rs q
 ·exact h' pins s σ H xs us Q I rs q
theorem XI:xy X (.type "list") (fun xs H Q=>∃ p ys,xs=[.ref p]/\(SqL X.K H p ys\/SqT X.K H p ys)/\∀ l,H l=none->Q (.ref l) (upd H l (.lst ys))):=by
 intro pins s σ H xs us Q I r h
 obtain⟨p,ys,rfl,hq,q⟩:=h
 obtain⟨u,rfl,rx⟩:=Xl r
 cases rx
 have fin:∀ (its:List Value),Vals ys its->ys.length≤sizeLine->∀ (h':Heap) (c':Nat),(∀ b o',s.heap.get? b=some o'->h'.get? b=some o')->
   h'.get? s.heap.objs.size=some { cls:=.type "list",dict:=none,data:=.seq its.toArray c',slots:=#[] }->EP X pins σ Q (.ref s.heap.objs.size) { s with heap:=h' }:=fun its r' hz h' c' kp e=>
  ⟨.ref s.heap.objs.size,_,I.laid (t':=s.toks) kp (Nat.le_refl _) (show y9 X.prog X.w _ h' _ (.lst ys) from⟨hz,its,c',r',e⟩),rfl,q _ (I.hok.fresh (Nat.le_refl _))⟩
 rcases hq with hq |hq
 ·obtain⟨its,r',pl,hz⟩:=I.list hq
  have hlen:=r'.length
  obtain⟨o,ho,hc,n,hd⟩:=pl.isList
  exact call_list_seq p (.inl rfl) ho hc hd (fun h' c' kp e=>fin its r' hz h' c' kp e) (by simp only [List.size_toArray] <;> omega)
 ·obtain⟨its,r',pl,hz⟩:=I.tuple hq
  have hlen:=r'.length
  obtain⟨o,ho,hc,n,hd⟩:=pl
  exact call_list_seq p (.inr rfl) ho hc hd (fun h' c' kp e=>fin its r' hz h' c' kp e) (by simp only [List.size_toArray] <;> omega)
def tyV (K:W.Frag) (T:String) (x:V) (H:Hp):Prop:=match x with
 |.str _=>T= "str"
 |.int _=>T= "int"
 |.ref p=>(T= "list"/\∃ xs,SqL K H p xs)\/(T= "tuple"/\∃ o,K.lookup p=some o/\o.cls=.type "tuple"/\o.dict=none)\/
   (T= "dict"/\((∃ kvs,H p=some (.dK kvs))\/∃ kvs,H p=some (.dT kvs)))\/(T= "set"/\∃ S n,H p=some (.set S n))
 |_=>False
theorem JC {pins:List (Addr×Obj)}{σ:St}{H:Hp}{s:Shared}{T:String}{x:V}{v:Value}(I:Inv X pins σ H s) (r:RelV x v) (ty:tyV X.K T x H) :
  s.TypeIs v T/\∀ a,v=.ref a->∃ ob,s.heap.get? a=some ob/\ob.dict=none:=by
 cases x with
 |str z=>
  obtain⟨t,rfl⟩:=r
  cases (show T= "str" from ty)
  exact⟨typeIs_str s z t,fun _ e=>nomatch e⟩
 |int i=>
  obtain⟨t,rfl⟩:=r
  cases (show T= "int" from ty)
  exact⟨typeIs_int s i t,fun _ e=>nomatch e⟩
 |ref p=>
  cases r
  rcases ty with⟨rfl,xs,hq⟩ | ⟨rfl,o,hk,hc,hd⟩ | ⟨rfl,hk⟩ | ⟨rfl,S,n,hk⟩
  ·obtain⟨its,_,pl,_⟩:=I.list hq
   refine⟨pl.isList.typeIs,fun a e=>?_⟩
   cases e
   obtain⟨o,n,e,c,hd,_⟩:=pl
   exact⟨o,e,hd⟩
  ·refine⟨⟨o,I.kIn p o hk,hc⟩,fun a e=>?_⟩
   cases e
   exact⟨o,I.kIn _ o hk,hd⟩
  ·have z:∃ o,s.heap.get? p=some o/\o.ExactDict:=by
    rcases hk with⟨kvs,hk⟩ | ⟨kvs,hk⟩
    ·obtain⟨_,_,_,_,o,_,_,e,ex,_⟩:=I.hok p _ hk
     exact⟨o,e,ex⟩
    ·obtain⟨_,_,_,_,o,_,_,e,ex,_⟩:=I.hok p _ hk
     exact⟨o,e,ex⟩
   obtain⟨o,e,ex⟩:=z
   refine⟨⟨o,e,ex.1⟩,fun a e2=>?_⟩
   cases e2
   exact⟨o,e,ex.2.1⟩
  ·obtain⟨o,_,_,_,e,ex,_⟩:=I.hok p _ hk
   refine⟨⟨o,e,ex.1⟩,fun a e2=>?_⟩
   cases e2
   exact⟨o,e,ex.2.1⟩
 |_=>exact False.elim ty
def KW (K:W.Frag) (T:String) (r:V->List V->Hp->VK->Prop) (to:TE):TE:=fun σ H Q=>to σ H fun x H1=>tyV K T x H1/\r x [] H1 Q
def tBM (K:W.Frag) (T:String) (r:V->List V->Hp->VK->Prop) (to:TE) (t:TA):TE:=fun σ H Q=>to σ H fun x H1=>tyV K T x H1/\t σ H1 fun xs H2=>r x xs H2 Q
variable {o e:Expr}{es:List Expr}{to:TE}{t:TA}{name:Str}{apos cpos:Pos}{T id:String}{r:V->List V->Hp->VK->Prop}
theorem zd8 (pa:PlainAttrs T) (slot:Slot T name id) (hty:typeOf (.builtin id)=pure (.type "method_descriptor")) (hm:MtR X id r) (ho:PE X o to)
  (hbase:attributeBase o name X.env (eval o X.env)=eval o X.env:=by rfl) (hline:(apos.endLine == cpos.line)=true:=by rfl):PE X (.Call (.Attribute o name apos) [] [] cpos) (KW X.K T r to):=by
 intro pins s σ H Q I h
 refine wpAny_Call_method0_late hbase hline (thn (ho pins s σ H _ I h) fun v s1 ⟨x,H1,I1,r1,ty,q1⟩=>?_)
 obtain⟨h1,h2⟩:=JC I1 r1 ty
 exact⟨T,id,pa,slot,hty,h1,h2,Calls.callWith_builtin rfl (PySem.evalArgs_none (hm pins s1 σ H1 x [] v [] Q I1 r1 .nil q1))⟩
theorem zfs (pa:PlainAttrs T) (slot:Slot T name id) (hty:typeOf (.builtin id)=pure (.type "method_descriptor")) (hm:MtR X id r) (ho:PE X o to) (ha:PA X (e :: es) t)
    (hbase:attributeBase o name X.env (eval o X.env)=eval o X.env:=by rfl)
    (hfew:((backTo cpos (starEach (e :: es) X.env)).all (fun x=>!x.1) && (backToKw cpos (keywordEach [] X.env)).all (fun x=>x.1.isSome)
      && decide ((e :: es).length+([]:List Keyword).length+(if ([]:List Keyword).isEmpty then 0 else 1) < 30))=true:=by rfl)
    (hline:(apos.endLine == cpos.line)=true:=by rfl) (hs:starEach (e :: es) X.env=(false,eval e X.env) :: starEach es X.env:=by rfl) (hplain:(backTo cpos (starEach es X.env)).any (·.1)=false:=by rfl) :
    PE X (.Call (.Attribute o name apos) (e :: es) [] cpos) (tBM X.K T r to t):=by
  intro pins s σ H Q I h
  refine wpAny_Call_method_late hbase hfew hline rfl (thn (ho pins s σ H _ I h) fun v s1 ⟨x,H1,I1,r1,ty,q1⟩=>?_)
  obtain⟨h1,h2⟩:=JC I1 r1 ty
  refine⟨T,id,pa,slot,hty,h1,h2,?_⟩
  have hA:=ha cpos pins s1 σ H1 _ I1 q1
  rw [hs] at hA ⊢
  refine Calls.callWith_builtin (by show (false || (backTo cpos (starEach es X.env)).any (·.1))=false;rw [hplain] <;> rfl) (Calls.evalArgs_plain ?_)
  exact thn hA fun us s2 ⟨vs,H2,I2,r2,q2⟩=>hm pins s2 σ H2 x vs v us Q I2 r1 r2 q2
end
def MtM (X:Cx) (id:String) (r:V->List V->Hp->VK->Prop):Prop:=
 ∀ (pins:List (Addr×Obj)) (s:Shared) (σ:St) (H:Hp) (x:V) (xs:List V) (v:Value) (us:List Value) (Q:VK),Inv X pins σ H s->RelV x v->Vals xs us->r x xs H Q->
  wpAny (model X.prog X.w) X.A (call (.builtin id) (v :: us)) (EP X pins σ Q) X.xe s
theorem Vals.one:∀ {x:V}{us:List Value},Vals [x] us->∃ u,us=[u]/\RelV x u
 |_,_,.cons r .nil=>⟨_,rfl,r⟩
theorem Vals.two:∀ {x y:V}{us:List Value},Vals [x,y] us->∃ u v,us=[u,v]/\RelV x u/\RelV y v
 |_,_,_,.cons r (.cons q .nil)=>⟨_,_,rfl,r,q⟩
theorem Vals.zero:∀ {us:List Value},Vals [] us->us=[]
 |_,.nil=>rfl
theorem Vals.dropLast {xs:List V}{us:List Value}(h:Vals xs us):Vals xs.dropLast us.dropLast:=by
 induction h with
 |nil=>exact .nil
 |cons r t ih=>
  cases t with
  |nil=>exact .nil
  |cons q t'=>exact .cons r ih
theorem Vals.eraseIdx:∀ {xs:List V}{us:List Value}(i:Nat),Vals xs us->Vals (xs.eraseIdx i) (us.eraseIdx i)
 |_,_,_,.nil=>.nil
 |_,_,0,.cons _ t=>t
 |_,_,i+1,.cons r t=>.cons r (Vals.eraseIdx i t)
theorem Vals.reverse {xs:List V}{us:List Value}(h:Vals xs us):Vals xs.reverse us.reverse:=by
 induction h with
 |nil=>exact .nil
 |cons r t ih=>rw [List.reverse_cons,List.reverse_cons];exact Vals.append ih (.cons r .nil)
theorem Vals.rep {xs:List V}{us:List Value}(h:Vals xs us):∀ k:Nat,Vals (List.replicate k xs).flatten (List.replicate k us).flatten
 | 0=>.nil
 |k+1=>by
  rw [List.replicate_succ,List.replicate_succ,List.flatten_cons,List.flatten_cons]
  exact Vals.append h (Vals.rep h k)
theorem Qq {α:Type}(l:List α):l.eraseIdx (l.length - 1)=l.dropLast:=by
 induction l with
 |nil=>rfl
 |cons a r ih=>
  cases r with
  |nil=>rfl
  |cons b r=>
   have e:(a :: b :: r).length - 1 =((b :: r).length - 1)+1:=by
    have h1:(a :: b :: r).length=r.length+2:=rfl
    have h2:(b :: r).length=r.length+1:=rfl
    omega
   rw [e,List.eraseIdx_cons_succ,ih]
   all_goals rfl
theorem YN {α:Type}:∀ (l:List α) (i:Nat),(l.eraseIdx i).length≤l.length
 |[],_=>Nat.le_refl _
 |_ :: _,0=>Nat.le_succ _
 |_ :: r,i+1=>Nat.succ_le_succ (YN r i)
theorem jZ (its:List Value):∀ (k:Nat) (acc:List Value),
  List.foldl (fun x1 x2=>x1 ++ x2) acc.toArray (List.replicate k its.toArray)=(acc ++ (List.replicate k its).flatten).toArray
 | 0,acc=>by simp
 |k+1,acc=>by
  have e:acc.toArray ++ its.toArray=(acc ++ its).toArray:=by simp
  have e2:(acc ++ its) ++ (List.replicate k its).flatten=acc ++ (List.replicate (k+1) its).flatten:=by
   rw [List.replicate_succ,List.flatten_cons,List.append_assoc]
  rw [<- e2,<- jZ its k (acc ++ its),<- e,List.replicate_succ,List.foldl_cons]
section
variable {X:Cx}{pins:List (Addr×Obj)}{σ:St}{H:Hp}{s:Shared}{l b:Addr}{xs ys zs:List V}
theorem Inv.lset {its its':List Value}{n:Nat}{f:Array Value->Array Value}{t':Nat}(I:Inv X pins σ H s) (hH:H l=some (.lst xs))
  (e:s.heap.get? l=some { cls:=.type "list",data:=.seq its.toArray n }) (hf:f its.toArray=its'.toArray) (hv:Vals ys its') (hz:ys.length≤sizeLine) :
  Inv X pins σ (upd H l (.lst ys)) { s with heap:=s.heap.update l (Obj.mapSeq f),toks:=t' }:=by
 have q:=PySem.IsL.update e f
 rw [hf] at q
 refine I.write (x:=l) (e:=l) (by rw [hH];exact trivial) (.inl rfl) (fun b' u hb hu=>(Heap.get?_update_other s.heap (Obj.mapSeq f) (Ne.symm hb)).trans hu) ⟨_,q⟩ ?_
 exact⟨hz,its',_,hv,q⟩
theorem Inv.lnew {its:List Value}{t':Nat}(I:Inv X pins σ H s) (hv:Vals ys its) (hz:ys.length≤sizeLine) :
  Inv X pins σ (upd H s.heap.objs.size (.lst ys)) { s with heap:=s.heap.push { cls:=.type "list",data:=.seq its.toArray },toks:=t' }:=
 I.laid (fun _ _ q=>Heap.get?_push_of_some _ q) (Nat.le_refl _) ⟨hz,its,0,hv,Heap.get?_push_size _ rfl⟩
theorem Inv.fresh (I:Inv X pins σ H s):H s.heap.objs.size=none:=I.hok.fresh (Nat.le_refl _)
theorem Inv.lstM (I:Inv X pins σ H s) (hH:H l=some (.lst xs)):xs.length≤sizeLine/\∃ (its:List Value) (n:Nat),Vals xs its/\xs.length=its.length/\s.heap.get? l=some { cls:=.type "list",data:=.seq its.toArray n }:=by
 obtain⟨z,its,n,r,e⟩:=I.hok l _ hH
 exact⟨z,its,n,r,r.length,e⟩
theorem jp {n:Nat}(h:n≤sizeLine):Builtin.List.listTooLong n=false:=by
 unfold Builtin.List.listTooLong
 exact decide_eq_false (by omega)
end
section
variable {X:Cx}
def Uy:V->List V->Hp->VK->Prop:=fun x vs H Q=>∃ l xs y,x=.ref l/\vs=[y]/\H l=some (.lst xs)/\xs.length < sizeLine/\Q .non (upd H l (.lst (xs ++ [y])))
theorem j4:MtM X "list.append" Uy:=by
 intro pins s σ H x vs v us Q I rx rv h
 obtain⟨l,xs,y,rfl,rfl,hH,hz,q⟩:=h
 cases rx
 obtain⟨u,rfl,ru⟩:=rv.one
 obtain⟨z,its,n,r,hl,e⟩:=I.lstM hH
 refine call_meets F.slot_list_append ⟨_,e,rfl⟩ F.entry_list_append (F.args_list_append_2 _ _) (PySem.list_append l its.toArray n u (by rw [List.size_toArray];omega)) ⟨e,?_⟩
 refine⟨.non,_,I.lset (its':=its ++ [u]) hH e (by simp) (r.append (.cons ru .nil)) ?_,rfl,q⟩
 rw [List.length_append,List.length_singleton]
 omega
def zd9:V->List V->Hp->VK->Prop:=fun x vs H Q=>∃ l xs y,x=.ref l/\vs=[]/\H l=some (.lst xs)/\xs[xs.length - 1]? =some y/\Q y (upd H l (.lst xs.dropLast))
theorem JD:MtM X "list.pop" zd9:=by
 intro pins s σ H x vs v us Q I rx rv h
 obtain⟨l,xs,y,rfl,rfl,hH,hy,q⟩:=h
 cases rx
 have hus:=rv.zero
 subst hus
 obtain⟨z,its,n,r,hl,e⟩:=I.lstM hH
 obtain⟨u,hu,ru⟩:=r.get hy
 have hy':its.toArray[its.toArray.size - 1]? =some u:=by
  show its.toArray[its.length - 1]? =some u
  rw [<- Array.getElem?_toList,<- hl]
  exact hu
 refine call_meets F.slot_list_pop ⟨_,e,rfl⟩ F.entry_list_pop (F.args_list_pop_1 _) (MeetsSeq.list_pop_last l its.toArray n u hy' (by rw [List.size_toArray];omega)) ⟨e,?_⟩
 refine⟨y,_,I.lset (its':=its.dropLast) hH e ?_ r.dropLast ?_,ru,q⟩
 ·show its.toArray.eraseIdxIfInBounds (its.toArray.size - 1)=its.dropLast.toArray
  rw [List.size_toArray,List.eraseIdxIfInBounds_toArray,Qq]
 ·rw [List.length_dropLast]
  omega
def JE:V->List V->Hp->VK->Prop:=fun x vs H Q=>∃ l xs i k y,x=.ref l/\vs=[.int i]/\H l=some (.lst xs)/\-(2 ^ 63)≤i/\i < 2 ^ 63/\seqIndex? i xs.length=some k/\xs[k]? =some y/\Q y (upd H l (.lst (xs.eraseIdx k)))
theorem KY:MtM X "list.pop" JE:=by
 intro pins s σ H x vs v us Q I rx rv h
 obtain⟨l,xs,i,k,y,rfl,rfl,hH,h1,h2,hk,hy,q⟩:=h
 cases rx
 obtain⟨u,rfl,ru⟩:=rv.one
 obtain⟨t,rfl⟩:=ru
 obtain⟨z,its,n,r,hl,e⟩:=I.lstM hH
 obtain⟨w,hw,rw'⟩:=r.get hy
 refine call_meets F.slot_list_pop ⟨_,e,rfl⟩ F.entry_list_pop (F.args_list_pop_2 _ _)
  (MeetsSeq.list_pop_at l its.toArray n i t k w (fitsIndex_both h1 h2) (by rw [List.size_toArray,<- hl];exact hk) (by rw [<- Array.getElem?_toList];exact hw) (by rw [List.size_toArray];omega)) ⟨e,?_⟩
 refine⟨y,_,I.lset (its':=its.eraseIdx k) hH e ?_ (r.eraseIdx k) ?_,rw',q⟩
 ·show its.toArray.eraseIdxIfInBounds k=(its.eraseIdx k).toArray
  rw [List.eraseIdxIfInBounds_toArray]
 ·have:=YN xs k
  omega
def zea:R2:=fun x y H Q=>∃ l k xs,x=.ref l/\y=.int k/\H l=some (.lst xs)/\-(2 ^ 63)≤k/\k < 2 ^ 63/\xs.length*k.toNat≤sizeLine/\
 ∀ p,H p=none->Q (.ref p) (upd H p (.lst (List.replicate k.toNat xs).flatten))
theorem Uz {α:Type}(xs:List α) (k:Nat):(List.replicate k xs).flatten.length=k*xs.length:=by
 induction k with
 |zero=>simp
 |succ k ih=>rw [List.replicate_succ,List.flatten_cons,List.length_append,ih,Nat.succ_mul,Nat.add_comm]
theorem zeb:OpR X (binaryOp .Mult) zea:=by
  intro pins s σ H x y v u Q I rx ry h
  obtain⟨l,k,xs,rfl,rfl,hH,h1,h2,hz,q⟩:=h
  cases rx
  obtain⟨t,rfl⟩:=ry
  obtain⟨z,its,n,r,hl,e⟩:=I.lstM hH
  have hlen:its.toArray.size*k.toNat≤sizeLine:=by rw [List.size_toArray,<- hl];exact hz
  have hcap:¬ its.toArray.size*k.toNat > (2 ^ 63 - 1) / 8:=by
    have:(sizeLine:Nat)≤(2 ^ 63 - 1) / 8:=by decide
    omega
  have hfit:¬ (!Builtin.List.listFitsIndex k)=true:=by
    rw [fitsIndex_both h1 h2]
    exact Bool.false_ne_true
  have hlong:¬ Builtin.List.listTooLong (its.toArray.size*k.toNat)=true:=by
    rw [jp hlen]
    exact Bool.false_ne_true
  have hnew:List.foldl (fun x1 x2=>x1 ++ x2) #[] (List.replicate (if its.toArray.isEmpty=true then 0 else k.toNat) its.toArray)=(List.replicate k.toNat its).flatten.toArray:=by
    have f0:∀ m:Nat,List.foldl (fun x1 x2=>x1 ++ x2) #[] (List.replicate m its.toArray)=(List.replicate m its).flatten.toArray:=fun m=>by
      have:=jZ its m []
      rw [List.nil_append] at this
      exact this
    rw [f0]
    cases its with
    |nil=>simp
    |cons a r'=>rw [if_neg (by simp)]
  refine wpAny_binaryOp_repeat_ref (T:="list") (U:="int") (by decide) ⟨_,e,rfl⟩ (fun s'=>typeIs_int s' k t) noFill_list_mul F.fills_int_mul F.slot_int_rmul repeat_list F.slot_int_index.lookup
    (call_meets F.slot_int_rmul (typeIs_int s k t) F.entry_int_rmul (F.args_int_rmul_2 _ _) (int___rmul___int_list k t l its.toArray n)
      ⟨e,rfl,⟨_,e,rfl⟩,call_meets F.slot_list_mul ⟨_,e,rfl⟩ F.entry_list_mul (F.args_list_mul_2 _ _) (AutoListH.list___mul___list_int_3 l its.toArray n k t hfit hcap hlong) ⟨e,?_⟩⟩)
  rw [hnew]
  exact⟨.ref _,_,I.lnew (t':=s.toks) (r.rep k.toNat) (by rw [Uz,Nat.mul_comm];exact hz),rfl,q _ I.fresh⟩
end
section
variable {prog:Program}{w:World}{A:Around}{E:Value->Shared->Prop}{s:Shared}
theorem JF (its its2:List Value) (a c:Nat):its.toArray.extract 0 a ++ its2.toArray ++ its.toArray.extract c its.toArray.size=(its.take a ++ its2 ++ its.drop c).toArray:=by
  apply Array.toList_inj.mp
  first
    | (simp
       exact List.take_of_length_le (by simp))
    |simp [List.take_of_length_le]
    |simp
theorem Qr {a c n:Nat}(hac:a≤c) (hc:c≤n):sliceBounds (some (a:Int)) (some (c:Int)) none n=((a:Int),(c:Int),1):=by
 simp only [sliceBounds,Option.getD_none]
 have h1:¬ ((a:Int) < 0):=by omega
 have h2:¬ ((c:Int) < 0):=by omega
 simp only [h1,h2,if_false,show (1:Int) > 0 by decide,if_true]
 congr 1
 ·omega
 ·congr 1;omega
set_option maxRecDepth 100000 in
theorem Y1 {l b sl:Addr}{items new:Array Value}{n n2:Nat}{vl vu:Value}{a c:Nat}{Q:Unit->Shared->Prop}
    (e:s.heap.get? l=some { cls:=.type "list",data:=.seq items n }) {o2:Obj}(e2:s.heap.get? b=some o2) (c2:o2.cls=.type "list") (d2:o2.data=.seq new n2) (hne:l≠b)
    (hs:s.heap.IsSliceOf sl vl vu .none) (pl:IsPart vl (some (a:Int))) (pu:IsPart vu (some (c:Int))) (hac:a≤c) (hc:c≤items.size)
    (hsz:items.size+new.size≤sizeLine) (h:Q () { s with heap:=s.heap.update l (Obj.mapSeq fun xs=>xs.extract 0 a ++ new ++ xs.extract c xs.size) }) :
    wpAny (model prog w) A (setItem (.ref l) (.ref sl) (.ref b)) Q E s:=by
  have hl:s.heap.IsList l items:=PySem.IsL.isList e
  have hb:s.heap.IsList b new:=⟨o2,e2,c2,n2,d2⟩
  obtain⟨os,hos,hcs,hds⟩:=id hs
  have hTs:s.TypeIs (.ref sl) "slice":=⟨os,hos,hcs⟩
  have hstep:¬ ((rawPart none == rawInt 0)=true):=Bool.false_ne_true
  have hsame:Builtin.List.listSameRef (.ref l) (.ref b)=false:=by
    unfold Builtin.List.listSameRef
    exact beq_eq_false_iff_ne.mpr hne
  have hmax:(max (a:Int) (c:Int)).toNat=c:=by omega
  have hz':((fun xs:Array Value=>xs.extract 0 a ++ new ++ xs.extract c xs.size) items).size≤sizeLine+1:=by
    simp only [Array.size_append,Array.size_extract]
    omega
  unfold setItem
  try with_reducible refine wpAny_holding ?_
  first |refine wpAny_bind (wpAny_pure ?_) |skip
  refine wpAny_bind (wpAny_sequenceKey hl.typeIs (by decide) ?_)
  refine wpAny_bind (wpAny_callSpecial?_slot (name:=Str.ofString "__setitem__") hl.typeIs slot_list_setitem
    (wpAny_call_entry slot_list_setitem hl.typeIs entry_list_setitem ?_ (args_list_setitem _ _ _)))
  show wpAny _ _ (Builtin.List.listSubscript? (.ref sl) >>= _) _ _ s
  refine wpAny_bind ?_
  unfold Builtin.List.listSubscript?
  refine wpAny_bind (wpAny_specialOf hTs slice_no_index ?_)
  simp only [Option.isNone_none,if_true]
  refine wpAny_pure ?_
  show wpAny _ _ (typeOf (.ref sl) >>= _) _ _ s
  refine wpAny_bind (wpAny_typeOf hTs ?_)
  first
    |rw [if_neg (by decide)]
    |refine PySem.W.KFB.if_not (by decide) ?_
  rw [listSliceParts_eq]
  refine wpAny_bind (wpAny_bind (wpAny_field hos hds (x:=.none) rfl (wpAny_bind (wpAny_listPart .none ?_))))
  rw [if_neg hstep]
  refine wpAny_bind (wpAny_field hos hds (x:=vl) rfl (wpAny_bind (wpAny_listPart pl ?_)))
  refine wpAny_bind (wpAny_field hos hds (x:=vu) rfl (wpAny_bind (wpAny_listPart pu (wpAny_pure ?_))))
  first
    |simp only [hsame,Bool.false_eq_true,if_false]
    |refine PySem.W.KFB.if_not hsame ?_
    | (dsimp only
       rw [if_neg (by rw [hsame];exact Bool.false_ne_true)])
  refine wpAny_bind (m:=Builtin.List.listAllItems (.ref b) "must assign iterable to extended slice") ?_
  unfold Builtin.List.listAllItems
  refine wpAny_bind (wpAny_typeOf hb.typeIs ?_)
  first
    |refine PySem.W.KFB.if_so (by decide) ?_
    |rw [if_pos (by decide)]
    |simp only [beq_self_eq_true,Bool.true_or,if_true]
  unfold Builtin.List.listItems
  refine wpAny_bind (wpAny_seqItems e2 d2 (wpAny_pure ?_))
  refine wpAny_bind (wpAny_bind (wpAny_seqItems e rfl (wpAny_pure ?_)))
  refine wpAny_bind (wpAny_of_eq ((sliceIndices_raw (some (a:Int)) (some (c:Int)) none items.size (by simp)).trans (congrArg (pure:Int×Int×Int->Sem (Int×Int×Int)) (Qr hac hc))) ?_)
  show wpAny _ _ (if ((1:Int) == 1)=true then _ else _) _ _ s
  rw [if_pos (by decide)]
  refine wpAny_bind (wpAny_rule ?_)
  first
    |simp only [jp hsz,Bool.false_eq_true,if_false]
    |refine PySem.W.KFB.if_not (jp hsz) ?_
  first |refine wpAny_bind (wpAny_pure ?_) |skip
  show wpAny _ _ (updateSeq l (fun xs=>xs.extract 0 ((a:Int)).toNat ++ new ++ xs.extract (max (a:Int) (c:Int)).toNat xs.size) >>= _) _ _ s
  rw [hmax,Int.toNat_natCast]
  refine wpAny_bind (wpAny_updateSeq (hz:=Nat.le_trans (Nat.le_add_right _ _) hsz) (_hz':=hz') e rfl ?_)
  refine wpAny_bind (wpAny_letGo ?_)
  first
    |exact wpAny_bind (wpAny_pure (wpAny_pure ⟨.none,rfl,wpAny_pure h⟩))
    |exact wpAny_pure ⟨.none,rfl,wpAny_pure h⟩
end
section
variable {X:Cx}
theorem JG {pins:List (Addr×Obj)}{s:Shared}{σ:St}{H:Hp}{l b sl:Addr}{xs ys:List V}{a c:Int}{vl vu:Value}{Q:Unit->Shared->Prop}(I:Inv X pins σ H s)
  (hH:H l=some (.lst xs)) (hB:SqL X.K H b ys) (hne:l≠b) (hs:s.heap.IsSliceOf sl vl vu .none) (ra:RelV (.int a) vl) (rc:RelV (.int c) vu) (h0:0≤a) (hac:a≤c) (hc:c≤xs.length)
  (hz:xs.length+ys.length≤sizeLine) (h:∀ s',Inv X pins σ (upd H l (.lst (xs.take a.toNat ++ ys ++ xs.drop c.toNat))) s'->Q () s') :
  wpAny (model X.prog X.w) X.A (setItem (.ref l) (.ref sl) (.ref b)) Q X.xe s:=by
 obtain⟨ta,rfl⟩:=ra
 obtain⟨tc,rfl⟩:=rc
 obtain⟨z,its,n,r,hl,e⟩:=I.lstM hH
 obtain⟨its2,r2,⟨o2,n2,e2,c2,_,d2⟩,_⟩:=I.list hB
 have hl2:=r2.length
 obtain⟨a',rfl⟩:=Int.eq_ofNat_of_zero_le h0
 obtain⟨c',rfl⟩:=Int.eq_ofNat_of_zero_le (Int.le_trans h0 hac)
 simp only [Int.toNat_natCast] at h
 refine Y1 (a:=a') (c:=c') e e2 c2 d2 hne hs (.int _ _) (.int _ _) (by omega) (by rw [List.size_toArray];omega) (by rw [List.size_toArray,List.size_toArray];omega) (h _ ?_)
 refine I.lset (its':=its.take a' ++ its2 ++ its.drop c') (t':=s.toks) hH e ?_ (Vals.append (Vals.append (r.take _) r2) (r.drop _)) ?_
 ·exact JF its its2 a' c'
 ·rw [List.length_append,List.length_append,List.length_take,List.length_drop]
  omega
end
end L2
namespace Att
open PySem PySem.W PySem.Calls PyProof.Rows
theorem ZN {P:Params}{h:Heap}:∀ (ns:List Int) (vs:List Value),WellAll P h vs (ns.map WData.int)->IntsAre vs ns:=by
 intro ns
 induction ns with
 |nil=>
  intro vs w
  rw [List.map_nil] at w
  cases w
  exact .nil
 |cons n ns ih=>
  intro vs w
  rw [List.map_cons] at w
  cases w with
  |cons a b=>
   cases a
   exact .cons _ _ (ih _ b)
theorem JH {l:OpenLaw}{n:Nat}(hn:l.most=some n) {P:Params}{h:Heap}{args:List WData}{vals:List Value}
  (hpre:l.row.toRowW.claim.pre args=true) (hwl:WellAll P h vals args) :
  ∃ a vs ns,vals=[Value.ref a]/\args=[WData.list (ns.map WData.int)]/\h.get? a=some { cls:=.type "list",data:=.seq vs.toArray }/\IntsAre vs ns/\ns.length≤n:=by
 have hsh:WShape.hasAll [] args [.list .int]=true:=(pre_splitW hpre).1
 have hc:l.pre.holds [] { args:=args } =true:=(pre_splitW hpre).2
 obtain⟨d,r,rfl,h1,h2⟩:=hasAllW_cons hsh
 obtain rfl:=hasAllW_nil h2
 obtain⟨xs,rfl,h3⟩:=hasW_list h1
 obtain⟨ns,rfl⟩:=items_int h3
 have hlen:ns.length≤n:=by
  unfold OpenLaw.pre at hc
  have h4:(WTm.not (.lt (.lit (.int (n:Int))) (.len (.arg 0)))).holds [] { args:=[.list (ns.map .int)] } =true:=by
   have h4:=(holds_andW hc).1
   rw [hn] at h4
   exact h4
  have h5:=condW_of h4 (w_not (w_lt w_lit (w_len_list (w_arg rfl))))
  rw [List.length_map] at h5
  refine Nat.le_of_not_lt fun q=>?_
  have q':(n:Int) < ((ns.length:Nat):Int):=by omega
  first
   | (rw [decide_eq_true q'] at h5;exact absurd h5 (by decide))
   | (simp at h5;omega)
 cases hwl with
 |cons w1 w2=>
  cases w2
  cases w1 with
  |list ho hall=>exact⟨_,_,ns,rfl,rfl,ho,ZN ns _ hall,hlen⟩
theorem JI (l:OpenLaw) (args:List WData):l.row.toRowW.claim.post args (.bool true) args=true:=
 postW_of (r:=l.row.toRowW) (X:=(true == true))
  (show WShape.has [] (.bool true) .bool=true by first |rfl |decide |simp [WShape.has,WShape.arms,WShape.armsAll])
  (show (WTm.eq .res (.lit (.bool true))).value [] { args:=args,res:=some (.bool true),after:=args } =some (.bool (true == true)) from w_eq_bool (w_res rfl) w_lit) rfl
section
variable {prog:Program}{w:World}{A:Around}{E:Value->Shared->Prop}{s:Shared}{K:Frag}
noncomputable def zgO (h:Heap) (L d:Addr):List (Addr×Obj):=(List.range h.objs.size).filterMap fun a=>if a=L\/a=d then none else (h.get? a).map fun o=>(a,o)
end
end Att
namespace L2
open PySem PySem.Spec PyProof.Rows
theorem qt:∀ {vs:List Value}{ns:List Int},IntsAre vs ns->Vals (ns.map V.int) vs
 |_,_,.nil=>.nil
 |_,_,.cons n t h=>.cons ⟨t,rfl⟩ (qt h)
def zec (H:Hp):Prop:=∀ b,H b=none\/∃ o xs,H b=some (.frz o (.lst xs))
theorem KZ {P:Program}{w:World}{K:W.Frag}{mg mb:Str->Option Value}{CX:CXT}{k:Nat}{fa a:Addr}{fd:FuncData}{x:Str}{sp:Sp}{s₁:Shared}{vs:List Value}{ns:List Int}
    (KX:K.In s₁.heap) (hns:s₁.heap.Ns mainGlobals mg) (hb:s₁.heap.Ns builtinsNs mb) (hbb:∀ x:Str,x≠"__name__"->mb x=bootBuiltins x) (hlim:s₁.heap.NoLimit) (hg:s₁.gens= #[])
    (ha:s₁.heap.get? a=some { cls:=.type "list",data:=.seq vs.toArray }) (hi:IntsAre vs ns) (hl:ns.length≤sizeLine) (hr:Room k callerA)
    (F:∀ base:Heap,K.In base->base.Ns mainGlobals mg->FnOk P w K mg base CX k fa fd [x] sp) (hbind:∀ (s:Shared) (u:Value),BindsTo s fd ⟨[u],[]⟩ [(x,u)])
    (hsp:∀ H:Hp,zec H->SqL K H a (ns.map V.int)->sp [.ref a] H (fun v _=>v=.bl true) fun _ _ _=>False)
    (hCX:∀ H e s',CX [] H s₁ (fun _ _ _=>False) e s'->False) :
    codeAny (model P w) callerA (.call (.ref fa) ⟨[.ref a],[]⟩) (fun r s'=>r=.ok (.ret (.bool true))/\OldK s₁.heap s'.heap/\s'.os=s₁.os/\AllBare s'.gens) s₁:=by
  have rv:=qt hi
  have lenV:=hi.length
  have core:∀ H:Hp,zec H->SqL K H a (ns.map V.int)->HOk P w H s₁.heap->(∀ b,H b≠none->b=a)->(H a≠none->K.lookup a=none)->
      codeAny (model P w) callerA (.call (.ref fa) ⟨[.ref a],[]⟩) (fun r s'=>r=.ok (.ret (.bool true))/\OldK s₁.heap s'.heap/\s'.os=s₁.os/\AllBare s'.gens) s₁:=by
    intro H hO hS hok hA hK
    have base_of:∀ {b:Addr}{o:Obj},s₁.heap.get? b=some o->H b=none->(jn s₁.heap H).get? b=some o:=fun e n=>KB e n
    have noA:∀ {b:Addr}{o:Obj}{es:Array DictEntry}{ep:Nat},s₁.heap.get? b=some o->o.data=.dict es ep->H b=none:=fun {b o es ep} e d=>by
      cases q:H b with
      |none=>rfl
      |some u=>
        have e':b=a:=hA b (by rw [q];simp)
        subst e'
        rw [ha] at e;cases e
        have d':Data.seq vs.toArray _=Data.dict es ep:=d
        cases d'
    have nsK:∀ {b:Addr}{m:Str->Option Value},s₁.heap.Ns b m->(jn s₁.heap H).Ns b m:=fun {b m} ⟨o,es,ep,e,d,r⟩=>⟨o,es,ep,base_of e (noA e d),d,r⟩
    have hKb:K.In (jn s₁.heap H):=fun b o e=>base_of (KX b o e) (by
      cases q:H b with
      |none=>rfl
      |some u=>
        have e':b=a:=hA b (by rw [q];simp)
        subst e'
        rw [hK (by rw [q];simp)] at e;cases e)
    have hM:Mod K mg (jn s₁.heap H):=⟨hKb,nsK hns,⟨mb,nsK hb,hbb⟩,let ⟨mc,h1,h2⟩:=hlim;⟨mc,nsK h1,h2⟩⟩
    have e0:Env0 P w K mg (jn s₁.heap H) callerA [] s₁ H:=⟨rfl,hM,fun b o e=>zca e,Nat.le_of_eq (Jm _ _),trivial,fun b hb=>absurd (show b∈([]:List Addr) from hb) (by simp),hok,.of_eq hg⟩
    refine codeAny_mono ((F _ hKb (nsK hns)).run callerA [] s₁ H ⟨[.ref a],[]⟩ [.ref a] [.ref a] _ _ hr e0 (hbind s₁ (.ref a)) (.cons rfl .nil) (hsp H hO hS)) fun r s' h=>?_
    cases r with
    |error e=>exact (hCX H e s' h).elim
    |ok fl=>
      cases fl with
      |next=>exact False.elim h
      |brk=>exact False.elim h
      |cont=>exact False.elim h
      |ret u=>
        obtain⟨v,H',os,bare,un,hok',r',q⟩:=h
        have q':v=.bl true:=q
        subst q'
        obtain rfl:u=Value.bool true:=r'
        refine⟨rfl,OldK.of_keep fun b o e=>?_,os,bare⟩
        cases q:H b with
        |none=>exact un.keep b o e q (by intro z;exact absurd (show b∈([]:List Addr) from z) (by simp)) (by simp)
        |some u=>
          rcases hO b with z | ⟨ob,xs,z⟩
          · rw [q] at z;cases z
          · have z2:=un.frzs b ob _ z
            obtain⟨e1,_⟩:=hok b _ z
            obtain⟨e2,_⟩:=hok' b _ z2
            rw [e] at e1;cases e1
            exact e2
  cases hk:K.lookup a with
  |some o=>
    have e:=KX a o hk
    rw [ha] at e
    cases e
    refine core (fun _=>none) (fun _=>.inl rfl) (.inr ⟨_,vs.toArray,_,hk,rfl,rfl,rfl,by rw [List.size_toArray,lenV];exact hl,by simpa using rv⟩) (fun b u z=>by have z':(none:Option HO)=some u:=z;cases z') (fun b z=>absurd rfl z) fun z=>absurd rfl z
  |none=>
    refine core (fun b=>if b=a then some (.frz { cls:=.type "list",data:=.seq vs.toArray } (.lst (ns.map V.int))) else none) (fun b=>?_) (.inl (.inr ⟨{ cls:=.type "list",data:=.seq vs.toArray },if_pos rfl⟩)) (fun b u z=>?_) (fun b z=>?_) fun _=>hk
    · by_cases hb:b=a
      · exact .inr ⟨_,_,if_pos hb⟩
      · exact .inl (if_neg hb)
    · by_cases hb:b=a
      · have z':=(if_pos hb).symm.trans z
        cases z'
        subst hb
        exact⟨ha,by rw [List.length_map];exact hl,vs,_,rv,ha⟩
      · have z':=(if_neg hb).symm.trans z
        cases z'
    · by_cases hb:b=a
      · exact hb
      · exact absurd (if_neg hb) z
noncomputable def UA (s:Stmt) (j:Nat):Stmt:=match s with
 |.ClassDef _ _ _ body _ _ _ _ _ _ _=>body.getD j (.Pass ⟨0,0,0,0⟩)
 |_=>.Pass ⟨0,0,0,0⟩
noncomputable def defArgs (s:Stmt):Arguments:=match s with
 |.FunctionDef _ a _ _ _ _ _ _ _ _=>a
 |_=>{ posonlyargs:=[],args:=[],vararg:=none,kwonlyargs:=[],kw_defaults:=[],kwarg:=none,defaults:=[] }
noncomputable def defBody (s:Stmt):List Stmt:=match s with
 |.FunctionDef _ _ b _ _ _ _ _ _ _=>b
 |_=>[]
noncomputable def defScope (s:Stmt):Scope:=match s with
 |.FunctionDef _ _ _ _ _ _ sc _ _ _=>sc
 |_=>{ kind:=.function,names:=[],isGenerator:=false,isCoroutine:=false }
noncomputable abbrev CX0:CXT:=fun _ _ _ _ _ _=>False
noncomputable abbrev E0:XK:=fun _ _ _=>False
theorem Qs {X:Cx}:uB CX0 X E0:=fun _ _ _ _ _ _ _ h=>h.elim
structure Fun (K:W.Frag) (x qual:Str) (st:Stmt) (f:Addr) (fd:FuncData):Prop where
 ex:∃ (oc:Value) (od:Option Addr) (kV doc pm:Value) (an:Option Addr) (cdv ct:Value) (osl:Array (Option Value)),
  fd=PySem.W.fnOf x qual (defArgs st) (defBody st) (defScope st) .none kV doc pm an cdv ct/\K.lookup f=some ⟨oc,od,.func fd,osl⟩/\PySem.W.codeIn K cdv qual=true
 kp:PySem.W.keepIn K (.ref f)=true
section
variable {P:Program}{w:World}{K:W.Frag}{mg:Str->Option Value}{base:Heap}
theorem Fun.ok {x qual:Str}{st:Stmt}{f:Addr}{fd:FuncData}{N ps:List Str}{k:Nat}{sp:Sp}(F:Fun K x qual st f fd) (S:FnScope N ps (defScope st)) (len:∀ vs H Q E,sp vs H Q E->vs.length=ps.length)
    (hbody:∀ (cdv:Value) (A:Around) (outer:List Env) (s:Shared) (H:Hp) (vs:List V) (Q:VK) (E:XK),Room k (A.deeper (envOfC qual (defScope st) s.heap.objs.size f cdv))->sp vs H Q E->
      ∃ t,PSs (uC CX0 P w K mg base N qual (defScope st) f cdv A outer s H E).nox (defBody st) t/\t { nx:=fun _ H'=>Q .non H',rt:=Q } (start N vs) H):FnOk P w K mg base CX0 (k+1) f fd ps sp:=by
  obtain⟨oc,od,kV,doc,pm,an,cdv,ct,osl,rfl,lk,hcd⟩:=F.ex
  refine zbn lk hcd S len fun A outer s H vs Q E hr hsp=>?_
  obtain⟨t,h,q⟩:=hbody cdv A outer s H vs Q E hr hsp
  exact⟨t,h.nox,q⟩
theorem Fun.binds {x qual:Str}{st:Stmt}{f:Addr}{fd:FuncData}{ps:List Str}(F:Fun K x qual st f fd)
  (h:∀ (kV doc pm:Value) (an:Option Addr) (cdv ct:Value) (us:List Value),us.length=ps.length->bindArgs (PySem.W.fnOf x qual (defArgs st) (defBody st) (defScope st) .none kV doc pm an cdv ct) ⟨us,[]⟩=pure (ps.zip us)):Binds K fd ps []:=by
 obtain⟨oc,od,kV,doc,pm,an,cdv,ct,osl,rfl,lk,hcd⟩:=F.ex
 exact .all (h kV doc pm an cdv ct)
theorem XJ {x qual:Str}{st:Stmt}{f:Addr}{oc:Value}{od an:Option Addr}{osl:Array (Option Value)}{kV doc pm cdv ct:Value}(l:K.lookup f=some ⟨oc,od,.func (PySem.W.fnOf x qual (defArgs st) (defBody st) (defScope st) .none kV doc pm an cdv ct),osl⟩)
  (c:PySem.W.codeIn K cdv qual=true) (k:PySem.W.keepIn K (.ref f)=true):Fun K x qual st f (PySem.W.fnOf x qual (defArgs st) (defBody st) (defScope st) .none kV doc pm an cdv ct):=⟨⟨oc,od,kV,doc,pm,an,cdv,ct,osl,rfl,l,c⟩,k⟩
end
theorem zw {A:Around}{k:Nat}(hr:Room k A):A.units+1 < cLine:=Nat.lt_of_le_of_lt (Nat.add_le_add_left (by decide:1≤64) _) hr.units
theorem ve {n:Nat}(h:n≤1000):n < sizeLine:=Nat.lt_of_le_of_lt h (by decide)
section
variable {X:Cx}
theorem pv (i:Nat) {x:Str}{pos:Pos}(hN:X.N[i]? =some x:=by rfl) (hv:Vis X.env.scope x:=by first |exact Or.inl rfl |exact Or.inr (Or.inl rfl) |exact Or.inr (Or.inr rfl)) (hd:(x == ("__debug__":Str))=false:=by decide)
  (hcd:(x == ("__classdict__":Str))=false:=by decide):PE X (.Name x pos) (U7 i):=zdI hN hv hd hcd
end
def Same (H H':Hp):Prop:=∀ b o,H b=some o->H' b=some o
theorem Same.refl (H:Hp):Same H H:=fun _ _ h=>h
theorem Same.trans {H H1 H2:Hp}(a:Same H H1) (b:Same H1 H2):Same H H2:=fun c o h=>b c o (a c o h)
theorem Same.free {H H':Hp}(e:Same H H') {l:Addr}(h:H' l=Option.none):H l=Option.none:=by
 cases q:H l with
 |none=>rfl
 |some o=>
  rw [e l o q] at h
  cases h
theorem Same.seq {K:W.Frag}{H H':Hp}{a:Addr}{xs:List V}(e:Same H H') (h:SqL K H a xs):SqL K H' a xs:=by
 rcases h with (h | ⟨o,h⟩) |h
 ·exact .inl (.inl (e _ _ h))
 ·exact .inl (.inr ⟨o,e _ _ h⟩)
 ·exact .inr h
theorem zcn {prog:Program}{w:World}{A:Around}{R:Result->Shared->Prop}{s:Shared}{elt tg iter:Expr}{ifs:List Expr}{scope:Scope}{pos:Pos}{it acc:Value}{env:Env}(J:Nat->Shared->Prop)
    (turn:∀ k s0,J k s0->wpAny (model prog w) A (pyNext it) (fun r s1=>match r with
      |none=>R (.ok .next) s1
      |some v=>wpAny (model prog w) A (letOwnedTupleGo tg it v) (fun _ s2=>wpAny (model prog w) A (assign tg env v) (fun _ s3=>
          wpAny (model prog w) A (forIn ifs true fun c r=>if r=true then do let ok <- isTrue c env (eval c env);pure (ForInStep.yield ok) else pure (ForInStep.yield r)) (fun ok s4=>
            if ok=true then wpAny (model prog w) A (eval elt env) (fun x s5=>wpAny (model prog w) A (call (.builtin "list.append") [acc,x]) (fun _ s6=>∃ j,j < k/\J j s6) (fun _ _=>False) s5) (fun _ _=>False) s4
            else ∃ j,j < k/\J j s4) (fun _ _=>False) s3) (fun _ _=>False) s2) (fun _ _=>False) s1) (fun _ _=>False) s0)
    (k:Nat) (h:J k s):codeAny (model prog w) A (.compLoop (.ListComp elt [⟨tg,iter,ifs,0⟩] scope pos) 0 it acc env) R s:=by
  refine codeAny_loop rfl J (fun k0 s0 hJ=>?_) k h
  show wpAny _ A ((compTurn (.ListComp elt [⟨tg,iter,ifs,0⟩] scope pos) 0 it acc env).onRaise (fun x=>do noteFrame x env;theTreesLotGoes x)) _ _ s0
  refine wpAny_noted ?_
  rw [compTurn_list]
  refine wpAny_bind (wpAny_standAt (wpAny_bind (wpAny_mono (turn k0 s0 hJ) (fun r s1 h1=>?_) fun _ _ f=>f.elim)))
  cases r with
  |none=>exact wpAny_pure h1
  |some v=>
    refine wpAny_bind (wpAny_mono h1 (fun _ s2 h2=>wpAny_bind (wpAny_mono h2 (fun _ s3 h3=>wpAny_bind (wpAny_mono h3 (fun ok s4 h4=>?_) fun _ _ f=>f.elim)) fun _ _ f=>f.elim)) fun _ _ f=>f.elim)
    cases ok with
    |false=>exact wpAny_pure ⟨rfl,h4⟩
    |true=>exact wpAny_bind (wpAny_bind (wpAny_mono h4 (fun x s5 h5=>wpAny_bind (wpAny_mono h5 (fun _ s6 h6=>wpAny_pure (wpAny_pure ⟨rfl,h6⟩)) fun _ _ f=>f.elim)) fun _ _ f=>f.elim))
def PTs (X:Cx) (ifs:List Expr) (t:TT):Prop:=
 ∀ (pins:List (Addr×Obj)) (s:Shared) (σ:St) (H:Hp) (Q:Bool->Hp->Prop),Inv X pins σ H s->t σ H Q->
  wpAny (model X.prog X.w) X.A (forIn ifs true fun c r=>if r=true then do let ok <- isTrue c X.env (eval c X.env);pure (ForInStep.yield ok) else pure (ForInStep.yield r)) (TP X pins σ Q) X.xe s
def zed:TT:=fun _ H Q=>Q true H
theorem vB {X:Cx}:PTs X [] zed:=fun _ _ _ H _ I h=>wpAny_tests_nil ⟨H,I,h⟩
theorem UB {X:Cx}{c:Expr}{t:TT}(h:PT X c t):PTs X [c] t:=fun pins s σ H Q I hw=>wpAny_tests_one (h pins s σ H Q I hw)
noncomputable def xh (X:Cx) (N:List Str) (scope:Scope) (cl:List (Str×Addr)) (C:Addr) (s:Shared) (H:Hp) (fp:List Addr):Cx where
 prog:=X.prog
 w:=X.w
 K:=X.K
 mg:=X.mg
 base:=X.base
 A:=X.A
 N:=N
 s₀:=s
 H₀:=H
 env:=compEnvC scope cl C X.env
 outer:=X.stack
 stack:=X.stack
 ex:=fp
 fn:=fun _=>false
 calm:=X.calm
 pn:=[]
 xe:=fun _ _=>False
noncomputable def jq (n:Nat) (js:List Nat) (σ:St):St:=List.replicate n none ++ js.map fun j=>(σ[j]?).join
structure LcOk (X:Cx) (N:List Str) (n:Nat) (js:List Nat) (scope:Scope) (cl:List (Str×Addr)):Prop where
 clos:closureFor scope X.env=pure cl
 nocell:∀ y∈scope.names,y.2≠.cell
 kind:scope.kind=.function
 names:∀ y∈scope.names,y.2=.local->scope.names.lookup y.1=some .local
 cells:∀ x c,cl.lookup x=some c->X.env.cells.lookup x=some c
 has:∀ x,((relabel scope X.env).names.lookup x=some .cell\/(relabel scope X.env).names.lookup x=some .free)->∃ c,cl.lookup x=some c
 len:n+js.length=N.length
 free:∀ (i:Nat) (x:Str),N[n+i]? =some x->∃ j c,js[i]? =some j/\X.N[j]? =some x/\(X.env.scope.names.lookup x=some .cell\/X.env.scope.names.lookup x=some .free)/\
  ((relabel scope X.env).names.lookup x=some .cell\/(relabel scope X.env).names.lookup x=some .free)/\cl.lookup x=some c
section
variable {X:Cx}{pins:List (Addr×Obj)}{σ:St}{H:Hp}{s:Shared}{N:List Str}{n:Nat}{js:List Nat}{scope:Scope}{cl:List (Str×Addr)}
theorem LcOk.ok (L:LcOk X N n js scope cl) (I:Inv X pins σ H s) {fp:List Addr}(hf:∀ b∈fp,FpOk X pins H b) (hlt:∀ b∈fp,b < s.heap.objs.size) {C:Addr}(hC:s.heap.objs.size≤C):(xh X N scope cl C s H fp).Ok where
 mod:=I.ok.mod
 kind:=L.kind
 glob:=I.ok.glob
 blt:=I.ok.blt
 above:=hC
 inj:=fun x y c h1 h2=>I.ok.inj x y c (L.cells x c h1) (L.cells y c h2)
 has:=fun x hx=>L.has x hx
 cab:=fun x c hx _=>by cases hx
 hd:=I.ok.hd
 frames:=I.ok.frames
 stk:=.inl rfl
 exf:=fun b hb=>⟨Nat.ne_of_lt (Nat.lt_of_lt_of_le (hlt b hb) hC),fun x c e=>(hf b hb).2.2.2.2.1 x c (L.cells x c e)⟩
 bs:=I.bs
 bsz:=Nat.le_trans I.ok.bsz I.sz
 noex:=fun b o e hb=>by
  rcases (hf b hb).2.2.2.1 with z |z
  ·exact I.ok.noex b o e z
  ·exact absurd (Nat.lt_of_lt_of_le (Heap.lt_size (I.ok.bs b o e).1) z) (Nat.lt_irrefl _)
 exfs:=fun b hb hz=>by
  rcases List.mem_cons.mp (I.stkSub b hz) with z |z
  ·exact (hf b hb).2.1 z
  ·exact (hf b hb).2.2.1 z
 funs:=I.stack
 frf:=I.stkFree
theorem K0 {n:Nat}{js:List Nat}{σ:St}{i:Nat}{v:V}(h:(jq n js σ)[i]? =some (some v)):∃ k j,i=n+k/\js[k]? =some j/\σ[j]? =some (some v):=by
 unfold jq at h
 by_cases hi:i < n
 ·rw [List.getElem?_append_left (by simpa using hi),List.getElem?_replicate] at h
  split at h <;> cases h
 ·rw [List.getElem?_append_right (by simpa using hi),List.length_replicate,List.getElem?_map] at h
  cases e:js[i - n]? with
  |none=>rw [e] at h;cases h
  |some j=>
   rw [e] at h
   refine⟨i - n,j,by omega,e,?_⟩
   cases e2:σ[j]? with
   |none=>rw [Option.map_some,e2] at h;cases h
   |some o=>
    rw [Option.map_some,e2] at h
    have h':o=some v:=Option.some.inj h
    rw [h']
theorem Inv.lc (L:LcOk X N n js scope cl) (I:Inv X pins σ H s) {fp:List Addr}(hf:∀ b∈fp,FpOk X pins H b) (hlt:∀ b∈fp,b < s.heap.objs.size) {D C:Addr}{h1:Heap}{m:Str->Option Value}{tk:Nat}
  (hD:s.heap.objs.size≤D) (hC:s.heap.objs.size≤C) (hDC:D≠C) (hn:h1.Ns C m) (old:∀ b o,s.heap.get? b=some o->h1.get? b=some o) {k:Nat}(hl:h1.get? D=some { cls:=.type "list",data:=.seq ([]:List Value).toArray k }) :
  Inv (xh X N scope cl C s H fp) [] (jq n js σ) (upd H D (.lst [])) { s with heap:=h1,toks:=tk } where
 ok:=L.ok I hf hlt hC
 os:=rfl
 bare:=I.bare
 base:=Un.laid old hD (I.hok.fresh hD)
 loc:=by
  refine⟨m,hn,fun i x v e1 e2 e3=>?_⟩
  obtain⟨k,j,rfl,ej,eσ⟩:=K0 e2
  obtain⟨j',c,ej',eN,kx,kr,ec⟩:=L.free k x e1
  rw [ej] at ej'
  cases ej'
  obtain⟨mx,hmx,hl'⟩:=I.loc
  obtain⟨u,r,lk⟩:=hl' j x v eN eσ (kx.elim (fun z=>.inr (.inl z)) fun z=>.inr (.inr z))
  refine⟨u,r,.inr ⟨kr,c,ec,?_⟩⟩
  have hcx:=L.cells x c ec
  rcases lk with⟨z,_⟩ | ⟨_,c',e',hc'⟩
  ·have z':X.env.scope.names.lookup x=some .local:=z
   rcases kx with y |y <;> rw [y] at z' <;> cases z'
  ·rw [hcx] at e'
   cases e'
   obtain⟨o,ho,hd⟩:=hc'
   exact⟨o,old _ _ ho,hd⟩
 cell:=fun x c e=>by
  obtain⟨v,o,ho,hd⟩:=I.cell x c (L.cells x c e)
  exact⟨v,o,old _ _ ho,hd⟩
 free:=by
  show upd H D (.lst []) C=none
  rw [zk (Ne.symm hDC)]
  exact I.hok.fresh hC
 freeC:=fun x c e=>by
  obtain⟨v,o,ho,hd⟩:=I.cell x c (L.cells x c e)
  rw [zk (Nat.ne_of_lt (Nat.lt_of_lt_of_le (Heap.lt_size ho) hD))]
  exact I.freeC x c (L.cells x c e)
 pin:=fun p hp=>absurd (show p∈([]:List (Addr×Obj)) from hp) (by simp)
 hok:=I.hok.laid old hD ⟨Nat.zero_le _,[],k,.nil,hl⟩
 len:=by
  show (jq n js σ).length=N.length
  unfold jq
  rw [List.length_append,List.length_replicate,List.length_map]
  exact L.len
theorem Inv.unlc {fp:List Addr}{C:Addr}{σ':St}{H':Hp}{s':Shared}{h':Heap}(I:Inv X pins σ H s) (hf:∀ b∈fp,FpOk X pins H b) (hC:s.heap.objs.size≤C) (I':Inv (xh X N scope cl C s H fp) [] σ' H' s') (hs:Heap.SameBut C s'.heap h') :
  Inv X pins σ H' { s' with heap:=h' }:=by
 have nC:∀ b o,s.heap.get? b=some o->b≠C:=fun b o e=>Nat.ne_of_lt (Nat.lt_of_lt_of_le (Heap.lt_size e) hC)
 have hfree:H' C=none:=I'.free
 have u:=I'.base
 refine I.call' (ch:=fp) (s':={ s' with heap:=h' }) I'.os ⟨fun b o e n hb hx=>?_,fun b o e n hb hx=>?_,u.free,fun b o e hx=>?_,u.tups,u.frzs,u.tbls⟩ (fun b ob e=>?_) I'.bare fun b hb=>⟨(hf b hb).2.2.2.1,(hf b hb).2.1,(hf b hb).2.2.2.2.1,(hf b hb).2.2.2.2.2⟩
 ·exact (hs.2 b (nC b o e)).trans (u.keep b o e n hb hx)
 ·obtain⟨sl,q⟩:=u.slot b o e n hb hx
  exact⟨sl,(hs.2 b (nC b o e)).trans q⟩
 ·obtain⟨o',q⟩:=u.there b o e hx
  exact⟨o',(hs.2 b (nC b o e)).trans q⟩
 ·refine (I'.hok b ob e).stay (fun c w' hc q=>(hs.2 c ?_).trans q) (fun _ q=>q) fun _ _ q=>q
  rintro rfl
  rcases hc with rfl |hc
  ·rw [hfree] at e
   cases e
  ·rw [hfree] at hc
   cases hc
def tLc (wi:TI) (n:Nat) (js:List Nat) (g:TG) (tt:TT) (te:TE):TE:=fun σ H Q=>wi σ H fun J H1=>∀ D,H1 D=none->∃ W:Nat->Nat->St->Hp->Prop,(∃ m,W 0 m (jq n js σ) (upd H1 D (.lst [])))/\∀ i m σ' H',W i m σ' H'->
  (J.stop i H'/\Q (.ref D) H')\/(J.go i H'/\∃ Nx:St->Hp->Prop,(∀ σ2 H2,Nx σ2 H2->∃ m',m' < m/\W (i+1) m' σ2 H2)/\
    ∀ x H2,J.yld i H' x H2->g x σ' H2 fun σ3 H3=>tt σ3 H3 fun ok H4=>if ok=true then te σ3 H4 fun y H5=>∃ ys,H5 D=some (.lst ys)/\ys.length < sizeLine/\Nx σ3 (upd H5 D (.lst (ys ++ [y]))) else Nx σ3 H4)
theorem UC {elt tg iter:Expr}{ifs:List Expr}{pos:Pos}{g:TG}{tt:TT}{te:TE}{it:Addr}{fp:List Addr}{tn:Nat->Heap->Prop}{J:It}{Q:V->Hp->Prop}{E:Value->Shared->Prop}{RR:Value->Addr->Result->Shared->Prop}
    (L:LcOk X N n js scope cl) (hc:X.calm=true) (I:Inv X pins σ H s) (T:Turn X.prog X.w X.K tg J fp it tn) (t0:tn 0 s.heap) (hf:∀ b∈fp,FpOk X pins H b)
    (hg:∀ C s0 H0 fp0,PG (xh X N scope cl C s0 H0 fp0) tg g) (ht:∀ C s0 H0 fp0,PTs (xh X N scope cl C s0 H0 fp0) ifs tt) (he:∀ C s0 H0 fp0,PE (xh X N scope cl C s0 H0 fp0) elt te)
    (hw:∀ D,H D=none->∃ W:Nat->Nat->St->Hp->Prop,(∃ m,W 0 m (jq n js σ) (upd H D (.lst [])))/\∀ i m σ' H',W i m σ' H'->
      (J.stop i H'/\Q (.ref D) H')\/(J.go i H'/\∃ Nx:St->Hp->Prop,(∀ σ2 H2,Nx σ2 H2->∃ m',m' < m/\W (i+1) m' σ2 H2)/\
        ∀ x H2,J.yld i H' x H2->g x σ' H2 fun σ3 H3=>tt σ3 H3 fun ok H4=>if ok=true then te σ3 H4 fun y H5=>∃ ys,H5 D=some (.lst ys)/\ys.length < sizeLine/\Nx σ3 (upd H5 D (.lst (ys ++ [y]))) else Nx σ3 H4))
    (fin:∀ D C σ' H' s',s.heap.objs.size≤C->Inv (xh X N scope cl C s H fp) [] σ' H' s'->Q (.ref D) H'->RR (.ref D) C (.ok .next) s') :
    wpAny (model X.prog X.w) X.A (newList []) (fun acc s1=>wpAny (model X.prog X.w) X.A (newFunctionEnv scope X.env.globals cl [] X.env.qual none .none (some X.env)) (fun cenv s2=>
      codeAny (model X.prog X.w) X.A (.compStart (.ListComp elt [⟨tg,iter,ifs,0⟩] scope pos) 0 (.ref it) acc { cenv with scope:=relabel scope X.env }) (RR acc cenv.locals) s2) E s1) E s:=by
  refine wpAny_newObj_type (wpAny_newFunctionEnv L.nocell (by intro y hy;simp at hy) (fun h1 hn1 hs1=>?_) L.kind)
  dsimp only at hn1 hs1 ⊢
  generalize hG:s.heap.push { cls:=.type "list",dict:=none,data:=.seq ([]:List Value).toArray } =G at hn1 hs1 ⊢
  have eC:G.objs.size=s.heap.objs.size+1:=by rw [<- hG,Heap.size_push]
  have hC:s.heap.objs.size≤G.objs.size:=by rw [eC];exact Nat.le_succ _
  have hDC:s.heap.objs.size≠G.objs.size:=by rw [eC];exact Nat.ne_of_lt (Nat.lt_succ_self _)
  have hlt:∀ b∈fp,b < s.heap.objs.size:=fun b hb=>by
    obtain⟨o,e,_⟩:=T.obj 0 _ t0 b hb
    exact Heap.lt_size e
  have old:∀ b o,s.heap.get? b=some o->h1.get? b=some o:=fun b o e=>by
    have hb:=Heap.lt_size e
    exact hs1.extBut b o (Nat.ne_of_lt (Nat.lt_of_lt_of_le hb hC)) (Heap.get?_push_of_some _ (hG ▸ Heap.get?_push_of_some _ e))
  have hl:h1.get? s.heap.objs.size=some { cls:=.type "list",data:=.seq ([]:List Value).toArray 0 }:=hs1.extBut _ _ hDC (Heap.get?_push_of_some _ (hG ▸ Heap.get?_push_size _ rfl))
  have I1:∀ tk,Inv (xh X N scope cl G.objs.size s H fp) [] (jq n js σ) (upd H s.heap.objs.size (.lst [])) { s with heap:=h1,toks:=tk }:=fun tk=>Inv.lc L I hf hlt (Nat.le_refl _) hC hDC hn1 old hl
  have t1:tn 0 h1:=T.keep _ _ _ t0 fun b _ o e=>old b o e
  obtain⟨W,⟨m0,w0⟩,step⟩:=hw s.heap.objs.size (I.hok.fresh (Nat.le_refl _))
  have fr1:∀ b∈fp,upd H s.heap.objs.size (.lst []) b=none:=fun b hb=>by
    rw [zk (Nat.ne_of_lt (hlt b hb))]
    exact (hf b hb).1
  have fps:∀ {H':Hp},(∀ b∈fp,H' b=none)->∀ b∈fp,FpOk (xh X N scope cl G.objs.size s H fp) [] H' b:=fun {H'} hn b hb=>by
    refine⟨hn b hb,Nat.ne_of_lt (Nat.lt_of_lt_of_le (hlt b hb) hC),fun hz=>?_,.inl hb,fun x c e=>(hf b hb).2.2.2.2.1 x c (L.cells x c e),fun p hp=>absurd (show p∈([]:List (Addr×Obj)) from hp) (by simp)⟩
    rcases List.mem_cons.mp (I.stkSub b hz) with z |z
    · exact (hf b hb).2.1 z
    · exact (hf b hb).2.2.1 z
  have loop:∀ s0:Shared,s0= { s with heap:=h1,toks:=s.toks+([]:List (Str×Value)).length }->
      codeAny (model X.prog X.w) X.A (.compLoop (.ListComp elt [⟨tg,iter,ifs,0⟩] scope pos) 0 (.ref it) (.ref s.heap.objs.size) (compEnvC scope cl G.objs.size X.env)) (RR (.ref s.heap.objs.size) G.objs.size) s0:=by
    rintro s0 rfl
    refine zcn (fun k s'=>∃ i σ' H',Inv (xh X N scope cl G.objs.size s H fp) [] σ' H' s'/\tn i s'.heap/\(∀ b∈fp,H' b=none)/\W i k σ' H') ?_ m0 ⟨0,_,_,I1 _,t1,fr1,w0⟩
    rintro k s3 ⟨i,σ3,H3,I3,t3,fr3,w3⟩
    rcases step i k σ3 H3 w3 with⟨stop,qn⟩ | ⟨go,Nx,hN,body⟩
    · refine thn (T.done (xh X N scope cl G.objs.size s H fp) rfl rfl rfl hc i [] s3 σ3 H3 _ I3 (fps fr3) t3 stop) fun r s4 ⟨hr,I4⟩=>?_
      subst hr
      exact fin _ _ σ3 H3 s4 hC I4 qn
    · refine thn (T.item (xh X N scope cl G.objs.size s H fp) rfl rfl rfl hc i [] s3 σ3 H3 _ I3 (fps fr3) t3 go) fun r s4 ⟨u,hr,h4⟩=>?_
      subst hr
      refine thn h4 fun _ s5 ⟨x,H5,I5,r5,y5,t5,fr5⟩=>?_
      have I5':=I5.pinned (fps fr5) (T.obj _ _ t5)
      refine thn (hg _ _ _ _ _ s5 σ3 H5 x u _ I5' r5 (body x H5 y5)) fun _ s6 ⟨σ6,H6,I6,q6⟩=>?_
      have again:∀ {σ7:St}{H7:Hp}{s7:Shared},Inv (xh X N scope cl G.objs.size s H fp) ([] ++ jT fp s5.heap) σ7 H7 s7->Nx σ7 H7->
          ∃ j,j < k/\∃ i σ' H',Inv (xh X N scope cl G.objs.size s H fp) [] σ' H' s7/\tn i s7.heap/\(∀ b∈fp,H' b=none)/\W i j σ' H':=fun {σ7 H7 s7} I7 n7=>by
        obtain⟨m',hm,w7⟩:=hN σ7 H7 n7
        refine⟨m',hm,i+1,σ7,H7,I7.unpinned,T.keep _ _ _ t5 fun b hb o e=>(I7.pin (b,o) (List.mem_append_right _ (List.mem_append_right _ (uv hb e)))).1,fun b hb=>?_,w7⟩
        obtain⟨o,e,_⟩:=T.obj _ _ t5 b hb
        exact (I7.pin (b,o) (List.mem_append_right _ (List.mem_append_right _ (uv hb e)))).2.1
      refine thn (ht _ _ _ _ _ s6 σ6 H6 _ I6 q6) fun ok s7 ⟨H7,I7,q7⟩=>?_
      cases ok with
      |false=>
        rw [if_neg (by decide)] at q7 ⊢
        exact again I7 q7
      |true=>
        rw [if_pos rfl] at q7 ⊢
        refine thn (he _ _ _ _ _ s7 σ6 H7 _ I7 q7) fun v s8 ⟨y,H8,I8,r8,ys,e8,z8,q8⟩=>?_
        refine thn (j4 _ s8 σ6 H8 (.ref s.heap.objs.size) [y] (.ref s.heap.objs.size) [v] (fun _ H9=>Nx σ6 H9) I8 rfl (.cons r8 .nil) ⟨_,ys,y,rfl,rfl,e8,z8,q8⟩) fun _ s9 ⟨_,H9,I9,_,q9⟩=>?_
        exact again I9 q9
  exact codeAny_compStart_list (loop _ rfl) (T.self X.A 0 _ _ _ t1 (loop _ rfl))
theorem ZO {elt tg iter:Expr}{ifs:List Expr}{pos:Pos}{wi:TI}{g:TG}{tt:TT}{te:TE}(L:LcOk X N n js scope cl) (hc:X.calm=true) (hi:PI X tg iter wi)
  (hg:∀ C s0 H0 fp0,PG (xh X N scope cl C s0 H0 fp0) tg g) (ht:∀ C s0 H0 fp0,PTs (xh X N scope cl C s0 H0 fp0) ifs tt) (he:∀ C s0 H0 fp0,PE (xh X N scope cl C s0 H0 fp0) elt te)
  (hs:∀ x,foldedSetIterable iter X.env x=pure x:=by intro _;rfl):PE X (.ListComp elt [⟨tg,iter,ifs,0⟩] scope pos) (tLc wi n js g tt te):=by
 intro pins s σ H Q I h
 rw [eval_ListComp]
 refine wpAny_comprehension_free (use:=none) rfl hs L.clos L.kind L.names (thn (hi pins s σ H _ I h) fun v s1 h1=>thn h1 fun itv s2 h2=>?_)
 obtain⟨it,fp,tn,J,H2,e,I2,T,t2,f2,hw⟩:=h2
 subst e
 refine UC (RR:=fun acc C=>compPost (model X.prog X.w) X.A X.xe none (EP X pins σ Q) acc C) L hc I2 T t2 f2 hg ht he hw ?_
 intro D C σ' H' s' hC I' q
 obtain⟨m,hn,_⟩:=I'.loc
 exact⟨m,hn,fun h' hs'=>⟨.ref D,H',I2.unlc f2 hC I' hs',rfl,q⟩⟩
theorem XL {i:Nat}{x:Str}{elt tg iter:Expr}{ifs:List Expr}{pos pos' spos:Pos}{wi:TI}{g:TG}{tt:TT}{te:TE}(hN:X.N.Nodup) (hx:X.N[i]? =some x) (hk:X.env.scope.names.lookup x=some .local)
  (L:LcOk X N n js scope cl) (hc:X.calm=true) (hi:PI X tg iter wi)
  (hg:∀ C s0 H0 fp0,PG (xh X N scope cl C s0 H0 fp0) tg g) (ht:∀ C s0 H0 fp0,PTs (xh X N scope cl C s0 H0 fp0) ifs tt) (he:∀ C s0 H0 fp0,PE (xh X N scope cl C s0 H0 fp0) elt te)
  (hsw:swapsWith (.ListComp elt [⟨tg,iter,ifs,0⟩] scope pos) (some (.Name x pos')) spos.line X.env=pure true:=by rfl)
  (hs:∀ x,foldedSetIterable iter X.env x=pure x:=by intro _;rfl):PS X (.Assign [.Name x pos'] (.ListComp elt [⟨tg,iter,ifs,0⟩] scope pos) spos) (Yo (tLc wi n js g tt te) (jo i)):=by
 intro pins s σ H Dn I h
 rw [exec_Assign_Name_used _ _ _ _ hsw]
 refine wpAny_bind (wpAny_standAt (wpAny_bind ?_))
 show wpAny _ X.A (do let _ <- comprehension (.ListComp elt [⟨tg,iter,ifs,0⟩] scope pos) scope X.env _ (newList []) false (eval iter X.env) (some (assign (.Name x pos') X.env))) _ _ s
 refine wpAny_bind (thn (wpAny_comprehension_free (use:=some (assign (.Name x pos') X.env)) (Q:=fun _ s'=>SP X pins Dn .next s') rfl hs L.clos L.kind L.names (thn (hi pins s σ H _ I h) fun v s1 h1=>thn h1 fun itv s2 h2=>?_)) fun _ s' hq=>wpAny_pure (wpAny_pure hq))
 obtain⟨it,fp,tn,J,H2,e,I2,T,t2,f2,hw⟩:=h2
 subst e
 refine UC (Q:=fun x H1=>jo i x σ H1 Dn.nx) (RR:=fun acc C=>compPost (model X.prog X.w) X.A X.xe (some (assign (.Name x pos') X.env)) (fun _ s'=>SP X pins Dn .next s') acc C) L hc I2 T t2 f2 hg ht he hw ?_
 intro D C σ' H' s' hC I' q
 obtain⟨m,hn,_⟩:=I'.loc
 have I3:Inv X pins σ H' s':=I2.unlc (h':=s'.heap) f2 hC I' (.refl ..)
 show wpAny _ X.A (assign (.Name x pos') X.env (.ref D)) _ X.xe s'
 refine wpAny_assign_Name (YH (v:=.ref D) I3 hN hx (.inl hk) rfl (fun s4 I4 hb=>?_) (.inr hk))
 obtain⟨a,hsa,ha⟩:=hb
 have bl:∀ b o,s2.heap.get? b=some o->b≠C:=fun b o e=>Nat.ne_of_lt (Nat.lt_of_lt_of_le (Heap.lt_size e) hC)
 have hL:C≠X.env.locals:=fun z=>absurd (Nat.lt_of_lt_of_le I2.lt (z ▸ hC)) (Nat.lt_irrefl _)
 have hcl:∀ y c,X.env.cells.lookup y=some c->c≠C:=fun y c e=>by
  obtain⟨v,o,ho,_⟩:=I2.cell y c e
  exact bl c o ho
 have hCa:C≠a:=by
  rcases ha with rfl |ha
  ·exact hL
  ·exact Ne.symm (hcl _ _ ha)
 exact⟨m,hn.sameBut hsa hCa,fun h' hs'=>⟨_,H',I4.turned (h':=h') (t':=s4.toks) (it:=C) (fun b o hb e=>(hs'.2 b hb).trans e) I'.free hL (.inr (Nat.le_trans I2.sz hC)) hcl (fun p hp=>bl _ _ (I2.pin p hp).1),q⟩⟩
end
structure Cal (P:Program) (w:World) (K:W.Frag) (mg:Str->Option Value) (base:Heap) (k:Nat) (x:Str) (dvs:List V) (sp:Sp):Prop where
 ex:∃ (f:Addr) (fd:FuncData) (ps:List Str) (ds:List Value),FnOk P w K mg base CX0 k f fd ps sp/\mg x=some (.ref f)/\PySem.W.keepIn K (.ref f)=true/\Binds K fd ps ds/\Vals dvs ds
section
variable {X:Cx}{k:Nat}{sp:Sp}{dvs:List V}{x:Str}{p pos:Pos}{e:Expr}{es:List Expr}{t:TA}
theorem zn (c:Cal X.prog X.w X.K X.mg X.base k x dvs sp) (hr:Room k X.A) (hg:Gl X x) (ha:PA X (e :: es) t) (hdb:(x == ("__debug__":Str))=false:=by decide)
  (he:starEach (e :: es) X.env=(false,eval e X.env) :: starEach es X.env:=by rfl) (hpl:(backTo pos (starEach es X.env)).any (·.1)=false:=by rfl):PE X (.Call (.Name x p) (e :: es) [] pos) (ZM sp dvs E0 t):=by
 obtain⟨f,fd,ps,ds,F,hm,hk,hb,hd⟩:=c.ex
 exact zci F hr hg hm hk hb hd Qs ha hdb he hpl
end
section
variable {X:Cx}
theorem zee:OpR X (compareOp .Is) (fun x y H Q=>∃ b,y=.bl b/\Q (.bl (decide (x=.bl b))) H):=by
 intro pins s σ H x y v u Q I rx ry h
 obtain⟨b,rfl,q⟩:=h
 cases ry
 refine wpAny_is_plain ?_ (yO I q ?_)
 all_goals cases x <;> first
  | (obtain⟨t,rfl⟩:=rx;rfl)
  | (cases rx;rfl)
  | (cases rx;rename_i c;cases c <;> cases b <;> rfl)
theorem VW:xy X (.builtin "isinstance") (fun xs H Q=>∃ x n t b,xs=[x,.ty n]/\TyOf X.K H x t/\PySem.W.kitOne X.K t (.type n)=some b/\Q (.bl b) H):=by
 intro pins s σ H xs us Q I r h
 obtain⟨x,n,t,b,rfl,ty,e,q⟩:=h
 obtain⟨u,c,rfl,ru,rc⟩:=r.two
 cases rc
 exact Jw I ru ty e fun tk=>⟨.bl b,H,I.tok tk,rfl,q⟩
def zft (K:W.Frag) (H:Hp) (x:V):Prop:=∃ n,TyOf K H x (.type n)/\(n= "NoneType"\/n= "str"\/n= "list"\/n= "tuple"\/n= "dict")
noncomputable def Th (K:W.Frag) (H:Hp) (x:V):Option Int->Prop
 |some i=>x=.int i
 |none=>(∃ b,x=.bl b)\/zft K H x
end
mutual
noncomputable def Rep (K:W.Frag) (H:Hp):PyData->V->Prop
 |.none,x=>x=.non
 |.bool b,x=>x=.bl b
 |.int i,x=>x=.int i
 |.str z,x=>x=.str z
 |.list ds,x=>∃ a xs,x=.ref a/\SqL K H a xs/\Reps K H ds xs
 |.tuple ds,x=>∃ a xs,x=.ref a/\SqT K H a xs/\Reps K H ds xs
 |.dict kvs,x=>kvs=[]/\∃ a,x=.ref a/\Rd H a (.dK [])
noncomputable def Reps (K:W.Frag) (H:Hp):List PyData->List V->Prop
 |[],xs=>xs=[]
 |d :: ds,xs=>∃ x r,xs=x :: r/\Rep K H d x/\Reps K H ds r
end
theorem SqL.same {K:W.Frag}{H H':Hp}{a:Addr}{xs:List V}(e:Same H H') (h:SqL K H a xs):SqL K H' a xs:=e.seq h
theorem SqT.same {K:W.Frag}{H H':Hp}{a:Addr}{xs:List V}(e:Same H H') (h:SqT K H a xs):SqT K H' a xs:=by
 rcases h with (h | ⟨o,h⟩) |h
 ·exact .inl (.inl (e _ _ h))
 ·exact .inl (.inr ⟨o,e _ _ h⟩)
 ·exact .inr h
mutual
theorem Rep.same {K:W.Frag}{H H':Hp}(e:Same H H'):∀ (d:PyData) (x:V),Rep K H d x->Rep K H' d x
 |.none,_,h=>h
 |.bool _,_,h=>h
 |.int _,_,h=>h
 |.str _,_,h=>h
 |.list ds,x,h=>by
  obtain⟨a,xs,e1,h1,h2⟩:=h
  exact⟨a,xs,e1,h1.same e,Reps.same e ds xs h2⟩
 |.tuple ds,x,h=>by
  obtain⟨a,xs,e1,h1,h2⟩:=h
  exact⟨a,xs,e1,h1.same e,Reps.same e ds xs h2⟩
 |.dict _,_,h=>by
  obtain⟨e1,a,e2,h1⟩:=h
  refine⟨e1,a,e2,?_⟩
  rcases h1 with h1 | ⟨o,h1⟩
  ·exact .inl (e _ _ h1)
  ·exact .inr ⟨o,e _ _ h1⟩
theorem Reps.same {K:W.Frag}{H H':Hp}(e:Same H H'):∀ (ds:List PyData) (xs:List V),Reps K H ds xs->Reps K H' ds xs
 |[],_,h=>h
 |d :: ds,xs,h=>by
  obtain⟨x,r,e1,h1,h2⟩:=h
  exact⟨x,r,e1,Rep.same e d x h1,Reps.same e ds r h2⟩
end
theorem Reps.length {K:W.Frag}{H:Hp}:∀ {ds:List PyData}{xs:List V},Reps K H ds xs->ds.length=xs.length
 |[],xs,h=>by
  cases (show xs=[] from h)
  rfl
 |d :: ds,_,h=>by
  obtain⟨x,r,rfl,_,h2⟩:=h
  rw [List.length_cons,List.length_cons,h2.length]
theorem Reps.get {K:W.Frag}{H:Hp}:∀ {ds:List PyData}{xs:List V}(i:Nat) {x:V},Reps K H ds xs->xs[i]? =some x->∃ d,ds[i]? =some d/\Rep K H d x
 |[],_,i,x,h,e=>by
  rw [show _=_ from h] at e
  cases e
 |d :: ds,_,i,x,h,e=>by
  obtain⟨y,r,rfl,h1,h2⟩:=h
  cases i with
  |zero=>
   cases e
   exact⟨d,rfl,h1⟩
  |succ i=>
   obtain⟨d',e',h'⟩:=h2.get i (x:=x) (by simpa using e)
   exact⟨d',by simpa using e',h'⟩
theorem Reps.snoc {K:W.Frag}{H:Hp}:∀ {ds:List PyData}{xs:List V}{d:PyData}{x:V},Reps K H ds xs->Rep K H d x->Reps K H (ds ++ [d]) (xs ++ [x])
 |[],_,d,x,h,h'=>by
  rw [show _=_ from h]
  exact⟨x,[],rfl,h',rfl⟩
 |d0 :: ds,_,d,x,h,h'=>by
  obtain⟨y,r,rfl,h1,h2⟩:=h
  exact⟨y,r ++ [x],rfl,h1,h2.snoc h'⟩
mutual
theorem Rep.reads {X:Cx}{pins:List (Addr×Obj)}{σ:St}{H:Hp}{s:Shared}(I:Inv X pins σ H s):∀ (d:PyData) (x:V) (u:Value),Rep X.K H d x->RelV x u->∃ as,Reads s.heap u d as
 |.none,x,u,h,r=>by
  cases (show x=V.non from h)
  cases r
  exact⟨_,.none⟩
 |.bool b,x,u,h,r=>by
  cases (show x=V.bl b from h)
  cases r
  exact⟨_,.bool b⟩
 |.int i,x,u,h,r=>by
  cases (show x=V.int i from h)
  obtain⟨t,rfl⟩:=r
  exact⟨_,.int i t⟩
 |.str z,x,u,h,r=>by
  cases (show x=V.str z from h)
  obtain⟨t,rfl⟩:=r
  exact⟨_,.str z t⟩
 |.list ds,x,u,h,r=>by
  obtain⟨a,xs,rfl,h1,h2⟩:=h
  cases r
  obtain⟨its,rv,⟨o,n,e,c,_,dt⟩,_⟩:=I.list h1
  obtain⟨as,q⟩:=Reps.reads I ds xs its h2 rv
  exact⟨_,.list e c dt (by simpa using q)⟩
 |.tuple ds,x,u,h,r=>by
  obtain⟨a,xs,rfl,h1,h2⟩:=h
  cases r
  obtain⟨its,rv,⟨o,e,c,n,dt⟩,_⟩:=I.tuple h1
  obtain⟨as,q⟩:=Reps.reads I ds xs its h2 rv
  exact⟨_,.tuple e c dt (by simpa using q)⟩
 |.dict kvs,x,u,h,r=>by
  obtain⟨rfl,a,rfl,h1⟩:=h
  cases r
  obtain⟨_,_,vs,kv,dd⟩:=(show y9 X.prog X.w H s.heap a (.dK []) from h1.ok I.hok)
  cases kv
  obtain⟨o,es,ep,h2,h3,h4,_,h5,_⟩:=dd
  have e0:es= #[]:=by
   have:=h5.length
   exact Array.eq_empty_of_size_eq_zero (by simpa using this)
  subst e0
  exact⟨_,.dict h2 h3.1 h4 .nil .nil⟩
theorem Reps.reads {X:Cx}{pins:List (Addr×Obj)}{σ:St}{H:Hp}{s:Shared}(I:Inv X pins σ H s):∀ (ds:List PyData) (xs:List V) (us:List Value),Reps X.K H ds xs->Vals xs us->∃ as,ReadsAll s.heap us ds as
 |[],xs,us,h,r=>by
  cases (show xs=[] from h)
  cases r
  exact⟨_,.nil⟩
 |d :: ds,xs,us,h,r=>by
  obtain⟨x,x4,rfl,h1,h2⟩:=h
  cases r with
  |cons r1 r2=>
   obtain⟨as,q⟩:=Rep.reads I d x _ h1 r1
   obtain⟨bs,q2⟩:=Reps.reads I ds x4 _ h2 r2
   exact⟨_,.cons q q2⟩
end
section
variable {X:Cx}
def K1 (K:W.Frag):R2:=fun x y H Q=>∃ d e,Rep K H d x/\Rep K H e y/\SeqAt.shaped d=true/\SeqAt.shaped e=true/\Q (.bl (PyData.eqv d e)) H
def K2 (K:W.Frag):R2:=fun x y H Q=>∃ d e,Rep K H d x/\Rep K H e y/\SeqAt.shaped d=true/\SeqAt.shaped e=true/\Q (.bl (!PyData.eqv d e)) H
theorem zef (hu:X.A.units+64 < cLine):OpR X (compareOp .Eq) (K1 X.K):=by
 intro pins s σ H x y v u Q I rx ry h
 obtain⟨d,e,h1,h2,s1,s2,q⟩:=h
 obtain⟨as,r1⟩:=Rep.reads I d x v h1 rx
 obtain⟨bs,r2⟩:=Rep.reads I e y u h2 ry
 exact eq_dataH r1 r2 s1 s2 hu ⟨.bl _,H,I,rfl,q⟩
theorem zeg (hu:X.A.units+64 < cLine):OpR X (compareOp .NotEq) (K2 X.K):=by
 intro pins s σ H x y v u Q I rx ry h
 obtain⟨d,e,h1,h2,s1,s2,q⟩:=h
 obtain⟨as,r1⟩:=Rep.reads I d x v h1 rx
 obtain⟨bs,r2⟩:=Rep.reads I e y u h2 ry
 exact ne_dataH r1 r2 s1 s2 hu ⟨.bl _,H,I,rfl,q⟩
end
noncomputable def XM:Expr->Bool
 |.Starred ..=>false
 |_=>true
theorem Y2 {e:Expr}{es:List Expr}{env:Env}(h:XM e=true):starEach (e :: es) env=(false,eval e env) :: starEach es env:=by
 cases e <;> first |rfl |cases h
structure QA (X:Cx) (es:List Expr) (t:TA):Prop where
 pa:PA X es t
theorem qn {X:Cx}:QA X [] Yq:=⟨zd3⟩
theorem qc {X:Cx}{e:Expr}{es:List Expr}{te:TE}{t:TA}(ha:PE X e te) (hr:QA X es t) (h:XM e=true:=by rfl):QA X (e :: es) (ZL te t):=⟨zch ha hr.pa (Y2 h)⟩
theorem xn {X:Cx}{es:List Expr}{t:TA}{pos:Pos}(h:QA X es t):PE X (.List es pos) (Zj t):=Jx h.pa
theorem yL {X:Cx}{es:List Expr}{t:TA}{pos:Pos}{k:Nat}(h:QA X es t):PE X (.Tuple es k pos) (KQ t):=zd4 h.pa
def Sm (a:Int):Prop:=-1000000000000≤a/\a≤1000000000000
theorem Sm.mulL {a b:Int}(h:Sm a):Yp a b:=.inl ⟨Int.lt_of_lt_of_le (by decide) h.1,Int.lt_of_le_of_lt h.2 (by decide)⟩
theorem Sm.mulR {a b:Int}(h:Sm b):Yp a b:=.inr ⟨Int.lt_of_lt_of_le (by decide) h.1,Int.lt_of_le_of_lt h.2 (by decide)⟩
theorem zco {a b:Int}(h1:-1000000000000≤a) (h2:a≤1000000000000):Yp a b:=Sm.mulL ⟨h1,h2⟩
theorem K3 {a b:Int}(h1:-1000000000000≤b) (h2:b≤1000000000000):Yp a b:=Sm.mulR ⟨h1,h2⟩
theorem xT {H:Hp}{p:Addr}{o:HO}(hp:H p=none):Same H (upd H p o):=fun b u e=>by
 rw [zk (y8 e hp)]
 exact e
theorem uD {H H':Hp}{r:Addr}{o:HO}(hs:Same H H') (hr:H r=none):Same H (upd H' r o):=fun b u e=>by
 rw [zk (y8 e hr)]
 exact hs b u e
def ZP (n:Nat) (g:TG) (tb:TS) (D:Ends) (σ:St) (H:Hp):Prop:=∃ W:Nat->Nat->St->Hp->Prop,(∃ m,W 0 m σ H)/\∀ i m σ H,W i m σ H->
 ((Itr 0 n).stop i H/\D.nx σ H)\/((Itr 0 n).go i H/\∃ N:St->Hp->Prop,(∀ σ' H',N σ' H'->∃ m',m' < m/\W (i+1) m' σ' H')/\∀ x H',(Itr 0 n).yld i H x H'->g x σ H' fun σ2 H2=>tb { D with nx:=N,ct:=N,bk:=D.nx } σ2 H2)
theorem ZP.by {n:Nat}{g:TG}{tb:TS}{D:Ends}{σ:St}{H:Hp}(Pv:Nat->St->Hp->Prop) (h0:Pv 0 σ H)
  (hs:∀ i σ H,i < n->Pv i σ H->g (.int i) σ H fun σ2 H2=>tb { D with nx:=Pv (i+1),ct:=Pv (i+1),bk:=D.nx } σ2 H2) (hd:∀ σ H,Pv n σ H->D.nx σ H):ZP n g tb D σ H:=
 Jq (lo:=0) (n:=n) Pv h0 (fun i σ H hi p=>by rw [Int.zero_add];exact hs i σ H hi p) hd
theorem ZP.run {n:Nat}{g:TG}{tb:TS}{D:Ends}{σ:St}{H:Hp}(Pv:Nat->St->Hp->Prop) (h0:Pv 0 σ H)
  (hs:∀ i σ H,i < n->Pv i σ H->∀ R:St->Hp->Prop,(∀ σ' H',Pv (i+1) σ' H'->R σ' H')->g (.int i) σ H fun σ2 H2=>tb { D with nx:=R,ct:=R,bk:=D.nx } σ2 H2) (hd:∀ σ H,Pv n σ H->D.nx σ H):ZP n g tb D σ H:=
 ZP.by Pv h0 (fun i σ H hi p=>hs i σ H hi p _ fun _ _ z=>z) hd
def ZQ (K:W.Frag) (a:Addr) (g:TG) (tb:TS) (D:Ends) (σ:St) (H:Hp):Prop:=∃ W:Nat->Nat->St->Hp->Prop,(∃ m,W 0 m σ H)/\∀ i m σ H,W i m σ H->
 ((Itl K a).stop i H/\D.nx σ H)\/((Itl K a).go i H/\∃ N:St->Hp->Prop,(∀ σ' H',N σ' H'->∃ m',m' < m/\W (i+1) m' σ' H')/\∀ x H',(Itl K a).yld i H x H'->g x σ H' fun σ2 H2=>tb { D with nx:=N,ct:=N,bk:=D.nx } σ2 H2)
theorem ZQ.by {K:W.Frag}{a:Addr}{xs:List V}{g:TG}{tb:TS}{D:Ends}{σ:St}{H:Hp}(Pv:Nat->St->Hp->Prop) (h0:Pv 0 σ H) (hl:∀ i σ H,i≤xs.length->Pv i σ H->SqL K H a xs)
  (hs:∀ i x σ H,xs[i]? =some x->Pv i σ H->g x σ H fun σ2 H2=>tb { D with nx:=Pv (i+1),ct:=Pv (i+1),bk:=D.nx } σ2 H2) (hd:∀ σ H,Pv xs.length σ H->D.nx σ H):ZQ K a g tb D σ H:=
 KI Pv h0 hl hs hd
theorem ZQ.run {K:W.Frag}{a:Addr}{xs:List V}{g:TG}{tb:TS}{D:Ends}{σ:St}{H:Hp}(Pv:Nat->St->Hp->Prop) (h0:Pv 0 σ H) (hl:∀ i σ H,i≤xs.length->Pv i σ H->SqL K H a xs)
  (hs:∀ i x σ H,xs[i]? =some x->Pv i σ H->∀ R:St->Hp->Prop,(∀ σ' H',Pv (i+1) σ' H'->R σ' H')->g x σ H fun σ2 H2=>tb { D with nx:=R,ct:=R,bk:=D.nx } σ2 H2) (hd:∀ σ H,Pv xs.length σ H->D.nx σ H):ZQ K a g tb D σ H:=
 ZQ.by Pv h0 hl (fun i x σ H hi p=>hs i x σ H hi p _ fun _ _ z=>z) hd
structure FunD (K:W.Frag) (x qual:Str) (st:Stmt) (ds:List Value) (f:Addr) (fd:FuncData):Prop where
 ex:∃ (oc:Value) (od:Option Addr) (kV doc pm:Value) (an:Option Addr) (cdv ct:Value) (osl:Array (Option Value)) (T:Addr) (oT:Obj) (n:Nat),
  fd=PySem.W.fnOf x qual (defArgs st) (defBody st) (defScope st) (.ref T) kV doc pm an cdv ct/\K.lookup f=some ⟨oc,od,.func fd,osl⟩/\PySem.W.codeIn K cdv qual=true/\K.lookup T=some oT/\oT.data=.seq ds.toArray n
 kp:PySem.W.keepIn K (.ref f)=true
section
variable {P:Program}{w:World}{K:W.Frag}{mg:Str->Option Value}{base:Heap}
theorem FunD.ok {x qual:Str}{st:Stmt}{ds:List Value}{f:Addr}{fd:FuncData}{N ps:List Str}{k:Nat}{sp:Sp}(F:FunD K x qual st ds f fd) (S:FnScope N ps (defScope st)) (len:∀ vs H Q E,sp vs H Q E->vs.length=ps.length)
    (hbody:∀ (cdv:Value) (A:Around) (outer:List Env) (s:Shared) (H:Hp) (vs:List V) (Q:VK) (E:XK),Room k (A.deeper (envOfC qual (defScope st) s.heap.objs.size f cdv))->sp vs H Q E->
      ∃ t,PSs (uC CX0 P w K mg base N qual (defScope st) f cdv A outer s H E).nox (defBody st) t/\t { nx:=fun _ H'=>Q .non H',rt:=Q } (L2.start N vs) H):FnOk P w K mg base CX0 (k+1) f fd ps sp:=by
  obtain⟨oc,od,kV,doc,pm,an,cdv,ct,osl,T,oT,n,rfl,lk,hcd,_,_⟩:=F.ex
  refine zbn lk hcd S len fun A outer s H vs Q E hr hsp=>?_
  obtain⟨t,h,q⟩:=hbody cdv A outer s H vs Q E hr hsp
  exact⟨t,h.nox,q⟩
theorem FunD.binds {x qual:Str}{st:Stmt}{ds es:List Value}{f:Addr}{fd:FuncData}{ps:List Str}(F:FunD K x qual st ds f fd)
    (h:∀ (T:Addr) (kV doc pm:Value) (an:Option Addr) (cdv ct:Value) (us:List Value),(us ++ es).length=ps.length->
      ∃ k,bindArgs (PySem.W.fnOf x qual (defArgs st) (defBody st) (defScope st) (.ref T) kV doc pm an cdv ct) ⟨us,[]⟩=seqItems? (PySem.W.fnOf x qual (defArgs st) (defBody st) (defScope st) (.ref T) kV doc pm an cdv ct).defaults >>= k/\k (some ds.toArray)=pure (ps.zip (us ++ es))):Binds K fd ps es:=by
  obtain⟨oc,od,kV,doc,pm,an,cdv,ct,osl,T,oT,n,rfl,lk,hcd,hT,hd⟩:=F.ex
  intro s us hK hl
  obtain⟨k,h1,h2⟩:=h T kV doc pm an cdv ct us hl
  exact .of_defaults rfl (hK _ _ hT) hd h1 h2
end
theorem qA {α:Type}{x:Str}{c:α}:∀ {l:List (Str×α)},l.lookup x=some c->(x,c)∈l
 |[],h=>by cases h
 | (y,d) :: l,h=>by
  rw [List.lookup_cons] at h
  cases e:x == y with
  |true=>
   rw [e] at h
   have h1:x=y:=by simpa using e
   have h2:d=c:=Option.some.inj h
   rw [h1,h2]
   exact List.mem_cons_self
  |false=>
   rw [e] at h
   exact List.mem_cons_of_mem _ (qA h)
noncomputable def Yu (k:Option NameKind):Bool:=match k with
 |some .cell=>true
 |some .free=>true
 |_=>false
theorem UD {k:Option NameKind}(h:Yu k=true):k=some .cell\/k=some .free:=by
 unfold Yu at h
 split at h
 ·exact .inl rfl
 ·exact .inr rfl
 ·cases h
inductive CellsIn (big:List (Str×Addr)):List (Str×Addr)->Prop
 |nil:CellsIn big []
 |cons {x:Str}{c:Addr}{l:List (Str×Addr)}:big.lookup x=some c->CellsIn big l->CellsIn big ((x,c) :: l)
theorem CellsIn.mem {big:List (Str×Addr)}{x:Str}{c:Addr}:∀ {l:List (Str×Addr)},CellsIn big l->(x,c)∈l->big.lookup x=some c
 |_,.nil,h=>by cases h
 |_,.cons e r,h=>by
  rcases List.mem_cons.mp h with z |z
  ·cases z
   exact e
  ·exact r.mem z
theorem qB {X:Cx}{N:List Str}{n:Nat}{js:List Nat}{scope:Scope}{cl:List (Str×Addr)}(clos:closureFor scope X.env=pure cl:=by rfl) (nocell:(scope.names.all fun y=>!(y.2 == .cell))=true:=by rfl) (kind:scope.kind=.function:=by rfl)
  (names:(scope.names.all fun y=>!(y.2 == .local) || scope.names.lookup y.1 == some .local)=true:=by rfl) (cells:CellsIn X.env.cells cl:=by repeat' first |exact CellsIn.nil |refine CellsIn.cons rfl ?_)
  (has:((relabel scope X.env).names.all fun y=>!(Yu (some y.2)) || (cl.lookup y.1).isSome)=true:=by rfl) (len:n+js.length=N.length:=by rfl)
  (free:((N.drop n).zip js).all (fun p=>X.N[p.2]? == some p.1 && Yu (X.env.scope.names.lookup p.1) && Yu ((relabel scope X.env).names.lookup p.1) && (cl.lookup p.1).isSome)=true:=by rfl):LcOk X N n js scope cl where
 clos:=clos
 nocell:=fun y hy e=>by
  have h:=List.all_eq_true.mp nocell y hy
  rw [e] at h
  cases h
 kind:=kind
 names:=fun y hy e=>by
  have h:=List.all_eq_true.mp names y hy
  rw [e] at h
  simpa using h
 cells:=fun x c h=>cells.mem (qA h)
 has:=fun x h=>by
  have key:∀ k,(relabel scope X.env).names.lookup x=some k->Yu (some k)=true->∃ c,cl.lookup x=some c:=fun k e hk=>by
   have h1:=List.all_eq_true.mp has (x,k) (qA e)
   rw [hk] at h1
   exact Option.isSome_iff_exists.mp (by simpa using h1)
  rcases h with h |h
  ·exact key _ h rfl
  ·exact key _ h rfl
 len:=len
 free:=fun i x h=>by
  have hd:(N.drop n)[i]? =some x:=by rw [List.getElem?_drop];exact h
  have hi:i < (N.drop n).length:=(List.getElem?_eq_some_iff.mp hd).1
  have hj:i < js.length:=by rw [List.length_drop] at hi;omega
  have hz:((N.drop n).zip js)[i]? =some (x,js[i]):=by
   rw [List.getElem?_zip_eq_some]
   exact⟨hd,List.getElem?_eq_getElem hj⟩
  have h1:=List.all_eq_true.mp free (x,js[i]) (List.mem_of_getElem? hz)
  simp only [Bool.and_eq_true,beq_iff_eq] at h1
  obtain⟨⟨⟨a1,a2⟩,a3⟩,a4⟩:=h1
  obtain⟨c,hc⟩:=Option.isSome_iff_exists.mp a4
  exact⟨js[i],c,List.getElem?_eq_getElem hj,a1,UD a2,UD a3,hc⟩
def LcL (K:W.Frag) (a:Addr) (g:TG) (tt:TT) (te:TE) (σ0:St) (H1:Hp) (Q:VK):Prop:=∀ D,H1 D=none->∃ W:Nat->Nat->St->Hp->Prop,(∃ m,W 0 m σ0 (upd H1 D (.lst [])))/\∀ i m σ' H',W i m σ' H'->
  ((Itl K a).stop i H'/\Q (.ref D) H')\/((Itl K a).go i H'/\∃ Nx:St->Hp->Prop,(∀ σ2 H2,Nx σ2 H2->∃ m',m' < m/\W (i+1) m' σ2 H2)/\
    ∀ x H2,(Itl K a).yld i H' x H2->g x σ' H2 fun σ3 H3=>tt σ3 H3 fun ok H4=>if ok=true then te σ3 H4 fun y H5=>∃ ys,H5 D=some (.lst ys)/\ys.length < sizeLine/\Nx σ3 (upd H5 D (.lst (ys ++ [y]))) else Nx σ3 H4)
theorem LcL.by {K:W.Frag}{a:Addr}{xs:List V}{g:TG}{tt:TT}{te:TE}{σ0:St}{H1:Hp}{Q:VK}(Pv:Addr->Nat->St->Hp->Prop) (h0:∀ D,H1 D=none->Pv D 0 σ0 (upd H1 D (.lst [])))
  (hl:∀ D i σ H,H1 D=none->i≤xs.length->Pv D i σ H->SqL K H a xs)
  (hs:∀ D i x σ H,H1 D=none->xs[i]? =some x->Pv D i σ H->g x σ H fun σ3 H3=>tt σ3 H3 fun ok H4=>if ok=true then te σ3 H4 fun y H5=>∃ ys,H5 D=some (.lst ys)/\ys.length < sizeLine/\Pv D (i+1) σ3 (upd H5 D (.lst (ys ++ [y]))) else Pv D (i+1) σ3 H4)
  (hd:∀ D σ H,H1 D=none->Pv D xs.length σ H->Q (.ref D) H):LcL K a g tt te σ0 H1 Q:=by
 intro D hD
 refine⟨fun i m σ H=>m=xs.length - i/\i≤xs.length/\Pv D i σ H,⟨xs.length,by simp,Nat.zero_le _,h0 D hD⟩,?_⟩
 rintro i m σ H ⟨rfl,hi,p⟩
 have q:=hl D i σ H hD hi p
 by_cases hlt:i < xs.length
 ·refine .inr ⟨⟨xs,xs[i],q,by simp [hlt]⟩,Pv D (i+1),fun σ' H' p'=>⟨xs.length - (i+1),by omega,rfl,hlt,p'⟩,fun x H' y=>?_⟩
  obtain⟨e,y⟩:=y
  subst e
  exact hs D i x σ _ hD (y xs q) p
 ·have e:i=xs.length:=by omega
  subst e
  exact .inl ⟨⟨xs,q,Nat.le_refl _⟩,hd D σ H hD p⟩
def LcR (n0:Nat) (g:TG) (tt:TT) (te:TE) (σ0:St) (H1:Hp) (Q:VK):Prop:=∀ D,H1 D=none->∃ W:Nat->Nat->St->Hp->Prop,(∃ m,W 0 m σ0 (upd H1 D (.lst [])))/\∀ i m σ' H',W i m σ' H'->
  ((Itr 0 n0).stop i H'/\Q (.ref D) H')\/((Itr 0 n0).go i H'/\∃ Nx:St->Hp->Prop,(∀ σ2 H2,Nx σ2 H2->∃ m',m' < m/\W (i+1) m' σ2 H2)/\
    ∀ x H2,(Itr 0 n0).yld i H' x H2->g x σ' H2 fun σ3 H3=>tt σ3 H3 fun ok H4=>if ok=true then te σ3 H4 fun y H5=>∃ ys,H5 D=some (.lst ys)/\ys.length < sizeLine/\Nx σ3 (upd H5 D (.lst (ys ++ [y]))) else Nx σ3 H4)
theorem LcR.by {n0:Nat}{g:TG}{tt:TT}{te:TE}{σ0:St}{H1:Hp}{Q:VK}(Pv:Addr->Nat->St->Hp->Prop) (h0:∀ D,H1 D=none->Pv D 0 σ0 (upd H1 D (.lst [])))
  (hs:∀ D i σ H,H1 D=none->i < n0->Pv D i σ H->g (.int i) σ H fun σ3 H3=>tt σ3 H3 fun ok H4=>if ok=true then te σ3 H4 fun y H5=>∃ ys,H5 D=some (.lst ys)/\ys.length < sizeLine/\Pv D (i+1) σ3 (upd H5 D (.lst (ys ++ [y]))) else Pv D (i+1) σ3 H4)
  (hd:∀ D σ H,H1 D=none->Pv D n0 σ H->Q (.ref D) H):LcR n0 g tt te σ0 H1 Q:=by
 intro D hD
 refine⟨fun i m σ H=>m=n0 - i/\i≤n0/\Pv D i σ H,⟨n0,by simp,Nat.zero_le _,h0 D hD⟩,?_⟩
 rintro i m σ H ⟨rfl,hi,p⟩
 by_cases hlt:i < n0
 ·refine .inr ⟨hlt,Pv D (i+1),fun σ' H' p'=>⟨n0 - (i+1),by omega,rfl,hlt,p'⟩,fun x H' y=>?_⟩
  obtain⟨e,y⟩:=y
  subst e y
  rw [Int.zero_add]
  exact hs D i σ _ hD hlt p
 ·have e:i=n0:=by omega
  subst e
  exact .inl ⟨Nat.le_refl _,hd D σ H hD p⟩
noncomputable abbrev Cel:=Str×Int
noncomputable abbrev Pict:=List (List Cel)
noncomputable def celD (c:Cel):PyData:=.tuple [.str c.1,.int c.2]
noncomputable def zgl (r:List Cel):PyData:=.list (r.map celD)
noncomputable def zgm (p:Pict):PyData:=.list (p.map zgl)
def okC (c:Cel):Prop:=PyData.strOk c.1=true
structure IsPic (p:Pict) (w h:Nat):Prop where
 hh:p.length=h
 ww:∀ r∈p,r.length=w
 ok:∀ r∈p,∀ c∈r,okC c
 w1:1≤w
 w2:w≤24
 h1:1≤h
 h2:h≤12
theorem Reps.at {K:W.Frag}{H:Hp}:∀ {ds:List PyData}{xs:List V}(i:Nat) {d:PyData},Reps K H ds xs->ds[i]? =some d->∃ x,xs[i]? =some x/\Rep K H d x
 |[],_,i,d,_,e=>by cases e
 |d0 :: ds,_,i,d,h,e=>by
  obtain⟨y,r,rfl,h1,h2⟩:=h
  cases i with
  |zero=>
   cases e
   exact⟨y,rfl,h1⟩
  |succ i=>
   obtain⟨x,e',h'⟩:=h2.at i (d:=d) (by simpa using e)
   exact⟨x,by simpa using e',h'⟩
section
variable {K:W.Frag}{H:Hp}
theorem zcp (c d:Cel):PyData.eqv (celD c) (celD d)=decide (c=d):=by
 obtain⟨x,i⟩:=c
 obtain⟨y,j⟩:=d
 by_cases h1:x=y <;> by_cases h2:i=j <;> simp [celD,PyData.eqv,PyData.eqvAll,h1,h2]
end
noncomputable def uE (H:Hp):List (Int×Int)->List V->Prop
 |[],xs=>xs=[]
 |p :: l,xs=>∃ t r,xs=.ref t :: r/\H t=some (.tup [.int p.1,.int p.2])/\uE H l r
theorem uE.same {H H':Hp}(e:∀ b xs,H b=some (.tup xs)->H' b=some (.tup xs)):∀ {l:List (Int×Int)}{xs:List V},uE H l xs->uE H' l xs
 |[],_,h=>h
 |p :: l,_,h=>by
  obtain⟨t,r,e1,h1,h2⟩:=h
  exact⟨t,r,e1,e _ _ h1,h2.same e⟩
theorem uE.length {H:Hp}:∀ {l:List (Int×Int)}{xs:List V},uE H l xs->xs.length=l.length
 |[],_,h=>by rw [show _=[] from h];rfl
 |p :: l,_,h=>by
  obtain⟨t,r,rfl,_,h2⟩:=h
  rw [List.length_cons,List.length_cons,h2.length]
theorem uE.snoc {H:Hp}{p:Int×Int}{t:Addr}(ht:H t=some (.tup [.int p.1,.int p.2])):∀ {l:List (Int×Int)}{xs:List V},uE H l xs->uE H (l ++ [p]) (xs ++ [.ref t])
 |[],_,h=>by
  rw [show _=[] from h]
  exact⟨t,[],rfl,ht,rfl⟩
 |q :: l,_,h=>by
  obtain⟨u,r,rfl,h1,h2⟩:=h
  exact⟨u,r ++ [.ref t],rfl,h1,h2.snoc ht⟩
theorem uE.at {H:Hp}:∀ {l:List (Int×Int)}{xs:List V}(i:Nat) {x:V},uE H l xs->xs[i]? =some x->∃ (t:Addr) (p:Int×Int),x=.ref t/\H t=some (.tup [.int p.1,.int p.2])
 |[],_,i,x,h,e=>by
  rw [show _=[] from h] at e
  cases e
 |p :: l,_,i,x,h,e=>by
  obtain⟨t,r,rfl,h1,h2⟩:=h
  cases i with
  |zero=>
   cases e
   exact⟨t,p,rfl,h1⟩
  |succ i=>exact h2.at i (by simpa using e)
noncomputable def uF (p:Pict) (i j:Nat):Cel:=(p.getD i []).getD j (Str.ofString "",0)
noncomputable def zeh (p q:Pict) (i j:Nat):List (Int×Int):=((List.range j).filter fun c=>!decide (uF p i c=uF q i c)).map fun (c:Nat)=>(((i:Nat):Int),((c:Nat):Int))
noncomputable def dif (p q:Pict) (w i:Nat):List (Int×Int):=(List.range i).flatMap fun r=>zeh p q r w
theorem K4 {p:Pict}{w h:Nat}(ip:IsPic p w h) {i j:Nat}(hi:i < h) (hj:j < w):∃ r,p[i]? =some r/\r.length=w/\r[j]? =some (uF p i j)/\okC (uF p i j):=by
 have hl:i < p.length:=by rw [ip.hh];exact hi
 have hm:p[i]∈p:=List.getElem_mem hl
 have hw:=ip.ww _ hm
 have hj':j < p[i].length:=by rw [hw];exact hj
 have e:uF p i j=p[i][j]:=by
  unfold uF
  have e1:p.getD i []=p[i]:=by rw [List.getD_eq_getElem?_getD,List.getElem?_eq_getElem hl,Option.getD_some]
  rw [e1,List.getD_eq_getElem?_getD,List.getElem?_eq_getElem hj',Option.getD_some]
 refine⟨p[i],List.getElem?_eq_getElem hl,hw,?_,?_⟩
 ·rw [e,List.getElem?_eq_getElem hj']
 ·rw [e]
  exact ip.ok _ hm _ (List.getElem_mem hj')
def Bld (K:W.Frag) (H0 H:Hp) (av:List Addr) (r:Addr) (ds:List PyData):Prop:=∃ G vs,Same H0 G/\Same G H/\(∀ b∈r :: av,G b=none)/\H r=some (.lst vs)/\Reps K G ds vs
section
variable {K:W.Frag}{H0 H H1:Hp}{av:List Addr}{r t l:Addr}{ds es:List PyData}{d:PyData}
theorem Bld.new (hs:Same H0 H) (ha:∀ b∈av,H0 b=none) (hr:H r=none):Bld K H0 (upd H r (.lst [])) av r []:=by
 refine⟨H0,[],fun _ _ e=>e,uD hs (hs.free hr),fun b hb=>?_,zC,rfl⟩
 rcases List.mem_cons.mp hb with z |z
 ·rw [z]
  exact hs.free hr
 ·exact ha b z
theorem Bld.same (b:Bld K H0 H av r ds) (hs:Same H H1):Bld K H0 H1 av r ds:=by
 obtain⟨G,vs,h1,h2,h3,h4,h5⟩:=b
 exact⟨G,vs,h1,h2.trans hs,h3,hs _ _ h4,h5⟩
theorem Bld.base (b:Bld K H0 H av r ds):Same H0 H:=by
 obtain⟨G,vs,h1,h2,_⟩:=b
 exact h1.trans h2
theorem Bld.lst (b:Bld K H0 H av r ds):∃ vs,H r=some (.lst vs)/\vs.length=ds.length:=by
 obtain⟨G,vs,h1,h2,h3,h4,h5⟩:=b
 exact⟨vs,h4,h5.length.symm⟩
theorem Bld.tup {cs vs:List V}(b:Bld K H0 H av r ds) (hv:H r=some (.lst vs)) (ha:∀ c∈av,∃ o,H c=some o) (ht:H t=none) (hc:∀ G,Reps K G es cs) :
  Bld K H0 (upd (upd H t (.tup cs)) r (.lst (vs ++ [.ref t]))) av r (ds ++ [.tuple es]):=by
 obtain⟨G,ws,h1,h2,h3,h4,h5⟩:=b
 rw [hv] at h4
 cases h4
 have nr:t≠r:=fun z=>by rw [z,hv] at ht;cases ht
 have gt:G t=none:=h2.free ht
 refine⟨upd G t (.tup cs),_,h1.trans (xT gt),fun c o q=>?_,fun c hc'=>?_,zC,?_⟩
 ·by_cases z:c=t
  ·rw [z] at q ⊢
   rw [zC] at q
   rw [zk nr,zC]
   exact q
  ·rw [zk z] at q
   have nc:c≠r:=fun y=>by rw [y,h3 r List.mem_cons_self] at q;cases q
   rw [zk nc,zk z]
   exact h2 _ _ q
 ·have nc:c≠t:=fun y=>by
   rcases List.mem_cons.mp hc' with z |z
   ·exact nr (y.symm.trans z)
   ·obtain⟨o,q⟩:=ha c z
    rw [y,ht] at q
    cases q
  rw [zk nc]
  exact h3 c hc'
 ·exact (Reps.same (xT gt) _ _ h5).snoc ⟨t,cs,rfl,SqT.of zC,hc _⟩
theorem Bld.row {vs:List V}{G:Hp}(h1:Same H0 G) (h3:∀ b∈r :: av,G b=none) (h5:Reps K G ds vs) (b:Bld K G H (r :: av) l es) (hv:H r=some (.lst vs)) (nl:∀ c∈r :: av,c≠l) :
  Bld K H0 (upd H r (.lst (vs ++ [.ref l]))) av r (ds ++ [.list es]):=by
 obtain⟨G2,us,k1,k2,k3,k4,k5⟩:=b
 have gl:G2 l=none:=k3 l List.mem_cons_self
 have nr:l≠r:=(nl r List.mem_cons_self).symm
 have sn:Same G2 (upd G2 l (.lst us)):=xT gl
 refine⟨upd G2 l (.lst us),_,(h1.trans k1).trans sn,fun c o q=>?_,fun c hc=>?_,zC,?_⟩
 ·by_cases z:c=l
  ·rw [z] at q ⊢
   rw [zC] at q
   rw [zk nr,k4]
   exact q
  ·rw [zk z] at q
   have nc:c≠r:=fun y=>by rw [y,k3 r (List.mem_cons_of_mem _ List.mem_cons_self)] at q;cases q
   rw [zk nc]
   exact k2 _ _ q
 ·rw [zk (nl c hc)]
  exact k3 c (List.mem_cons_of_mem _ hc)
 ·exact (Reps.same (k1.trans sn) _ _ h5).snoc ⟨l,us,rfl,SqL.of zC,Reps.same sn _ _ k5⟩
theorem Bld.done (b:Bld K H0 H av r ds):Rep K H (.list ds) (.ref r):=by
 obtain⟨G,vs,h1,h2,h3,h4,h5⟩:=b
 exact⟨r,vs,rfl,SqL.of h4,Reps.same h2 _ _ h5⟩
end
def xW (K:W.Frag) (H0 H:Hp) (r:Addr) (p:Pict):Prop:=∃ (G:Hp) (as:List Addr),Same H0 G/\Same G H/\(∀ a∈r :: as,G a=none)/\(r :: as).Nodup/\H r=some (.lst (as.map V.ref))/\as.length=p.length/\
 ∀ (i:Nat) row,p[i]? =some row->∃ a us,as[i]? =some a/\H a=some (.lst us)/\Reps K G (row.map celD) us
section
variable {K:W.Frag}{H0 H H1:Hp}{r b t:Addr}{p:Pict}{row:List Cel}
theorem xW.new (hs:Same H0 H) (hr:H r=none):xW K H0 (upd H r (.lst [])) r []:=by
 refine⟨H0,[],fun _ _ e=>e,uD hs (hs.free hr),fun b hb=>?_,by simp,zC,rfl,fun i row q=>by simp at q⟩
 rw [List.mem_singleton.mp hb]
 exact hs.free hr
theorem xW.same (g:xW K H0 H r p) (hs:Same H H1):xW K H0 H1 r p:=by
 obtain⟨G,as,h1,h2,h3,h4,h5,h6,h7⟩:=g
 refine⟨G,as,h1,h2.trans hs,h3,h4,hs _ _ h5,h6,fun i row q=>?_⟩
 obtain⟨a,us,k1,k2,k3⟩:=h7 i row q
 exact⟨a,us,k1,hs _ _ k2,k3⟩
theorem xW.base (g:xW K H0 H r p):Same H0 H:=by
 obtain⟨G,as,h1,h2,_⟩:=g
 exact h1.trans h2
theorem xW.lst (g:xW K H0 H r p):∃ vs,H r=some (.lst vs)/\vs.length=p.length:=by
 obtain⟨G,as,h1,h2,h3,h4,h5,h6,h7⟩:=g
 exact⟨_,h5,by rw [List.length_map];exact h6⟩
theorem xW.put {ys vs:List V}{H2:Hp}(g:xW K H0 H r p) (hv:H r=some (.lst vs)) (hy:Reps K H0 (row.map celD) ys) (hb:H b=none) (hs:Same H H2) (hb2:H2 b=some (.lst ys)):xW K H0 (upd H2 r (.lst (vs ++ [.ref b]))) r (p ++ [row]):=by
 obtain⟨G,as,h1,h2,h3,h4,h5,h6,h7⟩:=g
 rw [hv] at h5
 have h5:vs=as.map V.ref:=by cases h5;rfl
 subst h5
 have nb:∀ (c:Addr) (o:HO),H c=some o->c≠b:=fun c o q z=>by
  rw [z,hb] at q
  cases q
 have inH:∀ c∈as,∃ o,H c=some o:=fun c hc=>by
  obtain⟨i,hi,e⟩:=List.getElem_of_mem hc
  obtain⟨a,us,k1,k2,_⟩:=h7 i _ (List.getElem?_eq_getElem (h6 ▸ hi))
  rw [List.getElem?_eq_getElem hi] at k1
  cases k1
  exact⟨_,e ▸ k2⟩
 have nr:=nb r _ hv
 have nin:b ∉ as:=fun z=>by
  obtain⟨o,q⟩:=inH b z
  exact nb b o q rfl
 obtain⟨n1,n2⟩:=List.nodup_cons.mp h4
 refine⟨G,as ++ [b],h1,fun c o q=>?_,fun c hc=>?_,?_,by rw [List.map_append];exact zC,by simp [h6],fun i y q=>?_⟩
 ·have c1:c≠r:=fun z=>by rw [z,h3 r List.mem_cons_self] at q;cases q
  rw [zk c1]
  exact hs _ _ (h2 _ _ q)
 ·rcases List.mem_cons.mp hc with z |z
  ·rw [z]
   exact h3 r List.mem_cons_self
  ·rcases List.mem_append.mp z with z |z
   ·exact h3 c (List.mem_cons_of_mem _ z)
   ·rw [List.mem_singleton.mp z]
    exact h2.free hb
 ·rw [List.nodup_cons]
  refine⟨fun z=>?_,List.nodup_append.mpr ⟨n2,by simp,fun x hx y hy z=>?_⟩⟩
  ·rcases List.mem_append.mp z with z |z
   ·exact n1 z
   ·exact nr (List.mem_singleton.mp z)
  ·rw [z,List.mem_singleton.mp hy] at hx
   exact nin hx
 ·by_cases hi:i < p.length
  ·rw [List.getElem?_append_left hi] at q
   obtain⟨a,us,k1,k2,k3⟩:=h7 i y q
   have ar:a≠r:=fun z=>n1 (z ▸ List.mem_of_getElem? k1)
   exact⟨a,us,by rw [List.getElem?_append_left (h6 ▸ hi)];exact k1,by rw [zk ar];exact hs _ _ k2,k3⟩
  ·have e:i=p.length:=by
    have:=(List.getElem?_eq_some_iff.mp q).1
    simp at this
    omega
   subst e
   simp only [List.getElem?_concat_length,Option.some.injEq] at q
   subst q
   exact⟨b,ys,by rw [<- h6];simp,by rw [zk nr.symm];exact hb2,Reps.same h1 _ _ hy⟩
theorem xW.push {ys vs:List V}(g:xW K H0 H r p) (hv:H r=some (.lst vs)) (hy:Reps K H0 (row.map celD) ys) (hb:H b=none):xW K H0 (upd (upd H b (.lst ys)) r (.lst (vs ++ [.ref b]))) r (p ++ [row]):=g.put hv hy hb (xT hb) zC
theorem Reps.set {G:Hp}:∀ {ds:List PyData}{xs:List V}(j:Nat) {d:PyData}{x:V},Reps K G ds xs->Rep K G d x->Reps K G (ds.set j d) (xs.set j x)
 |[],_,j,d,x,h,_=>by
  rw [show _=[] from h]
  rfl
 |d0 :: ds,_,j,d,x,h,h'=>by
  obtain⟨y,q,rfl,h1,h2⟩:=h
  cases j with
  |zero=>exact⟨x,q,rfl,h',h2⟩
  |succ j=>exact⟨y,_,rfl,h1,h2.set j h'⟩
theorem zcq {c:Cel}{u:V}(h:Rep K H (celD c) u):∃ t,u=.ref t/\SqT K H t [.str c.1,.int c.2]:=by
 obtain⟨t,xs,rfl,h1,x1,q1,rfl,e1,x2,q2,rfl,e2,e3⟩:=h
 cases e1
 cases e2
 cases e3
 exact⟨t,rfl,h1⟩
theorem xW.cell {i j:Nat}{c:Cel}(g:xW K H0 H r p) (hi:p[i]? =some row) (hj:row[j]? =some c):∃ vs a us t,H r=some (.lst vs)/\atI vs (i:Int)=some (.ref a)/\H a=some (.lst us)/\us.length=row.length/\atI us (j:Int)=some (.ref t)/\SqT K H t [.str c.1,.int c.2]/\
  ∀ H2 t2 z n,Same H H2->H2 t2=none->xW K H0 (upd (upd H2 t2 (.tup [.str z,.int n])) a (.lst (us.set j (.ref t2)))) r (p.set i (row.set j (z,n))):=by
 obtain⟨G,as,h1,h2,h3,h4,h5,h6,h7⟩:=g
 obtain⟨a,us,k1,k2,k3⟩:=h7 i row hi
 obtain⟨u,hu,ru⟩:=k3.at j (d:=celD c) (by rw [List.getElem?_map,hj];rfl)
 obtain⟨t,rfl,ht⟩:=zcq (Rep.same h2 _ _ ru)
 obtain⟨n1,n2⟩:=List.nodup_cons.mp h4
 have am:a∈as:=List.mem_of_getElem? k1
 have ar:a≠r:=fun z=>n1 (z ▸ am)
 refine⟨_,a,us,t,h5,kN (by rw [List.getElem?_map,k1];rfl),k2,by rw [<- k3.length,List.length_map],kN hu,ht,fun H2 t2 z n hs ht2=>?_⟩
 have nt:∀ (b:Addr) (o:HO),H2 b=some o->b≠t2:=fun b o q y=>by
  rw [y,ht2] at q
  cases q
 have gt:G t2=none:=(h2.trans hs).free ht2
 have sn:Same G (upd G t2 (.tup [.str z,.int n])):=xT gt
 refine⟨upd G t2 (.tup [.str z,.int n]),as,h1.trans sn,fun b o q=>?_,fun b hb=>?_,h4,?_,by rw [List.length_set];exact h6,fun i' y q=>?_⟩
 ·have na:b≠a:=fun y=>by
   rw [y] at q
   by_cases w:a=t2
   ·exact nt a _ (hs _ _ k2) w
   ·rw [zk w,h3 a (List.mem_cons_of_mem _ am)] at q
    cases q
  rw [zk na]
  by_cases w:b=t2
  ·rw [w] at q ⊢
   rw [zC] at q ⊢
   exact q
  ·rw [zk w] at q ⊢
   exact hs _ _ (h2 _ _ q)
 ·have nb:b≠t2:=by
   rcases List.mem_cons.mp hb with y |y
   ·rw [y]
    exact nt r _ (hs _ _ h5)
   ·obtain⟨k,hk,e⟩:=List.getElem_of_mem y
    obtain⟨a',us',m1,m2,_⟩:=h7 k _ (List.getElem?_eq_getElem (h6 ▸ hk))
    rw [List.getElem?_eq_getElem hk] at m1
    cases m1
    rw [<- e]
    exact nt _ _ (hs _ _ m2)
  rw [zk nb]
  exact h3 b hb
 ·rw [zk ar.symm,zk (nt r _ (hs _ _ h5))]
  exact hs _ _ h5
 ·by_cases e:i'=i
  ·subst e
   have hl:i' < p.length:=(List.getElem?_eq_some_iff.mp hi).1
   rw [List.getElem?_set_self hl] at q
   cases q
   refine⟨a,_,k1,zC,?_⟩
   rw [List.map_set]
   exact (Reps.same sn _ _ k3).set j ⟨t2,_,rfl,SqT.of zC,.str z,_,rfl,rfl,.int n,[],rfl,rfl,rfl⟩
  ·rw [List.getElem?_set_ne (Ne.symm e)] at q
   obtain⟨a',us',m1,m2,m3⟩:=h7 i' y q
   have na:a'≠a:=fun w=>by
    rw [w] at m1
    have l1:=(List.getElem?_eq_some_iff.mp m1)
    have l2:=(List.getElem?_eq_some_iff.mp k1)
    exact e ((List.getElem_inj n2).mp (l1.2.trans l2.2.symm))
   exact⟨a',us',m1,by rw [zk na,zk (nt a' _ (hs _ _ m2))];exact hs _ _ m2,Reps.same sn _ _ m3⟩
theorem xW.done (g:xW K H0 H r p):Rep K H (zgm p) (.ref r):=by
 obtain⟨G,as,h1,h2,h3,h4,h5,h6,h7⟩:=g
 refine⟨r,_,rfl,SqL.of h5,?_⟩
 clear h5 h4 h3
 induction p generalizing as with
 |nil=>
  cases as with
  |nil=>rfl
  |cons _ _=>cases h6
 |cons y p ih=>
  cases as with
  |nil=>cases h6
  |cons a as=>
   obtain⟨a',us,k1,k2,k3⟩:=h7 0 y rfl
   cases k1
   exact⟨.ref a,as.map V.ref,rfl,⟨a,us,rfl,SqL.of k2,Reps.same h2 _ _ k3⟩,ih as (by simpa using h6) fun i z q=>h7 (i+1) z (by simpa using q)⟩
end
def rLo (K:W.Frag):List V->Hp->VK->Prop:=fun xs H Q=>∃ p ys,xs=[.ref p]/\(SqL K H p ys\/SqT K H p ys)/\∀ l:Addr,H l=none->Q (.ref l) (upd H l (.lst ys))
section
variable {X:Cx}{K:W.Frag}
theorem zbq (h:X.K=K):xy X (.type "list") (rLo K):=by
 subst h
 exact XI
theorem qT (h:X.K=K):SlR X (Qp K):=by
 subst h
 exact zcm
theorem xB (h:X.K=K):IxR X (Qn K):=by
 subst h
 exact zcl
end
def zei (K:W.Frag):R2:=fun x y H Q=>∃ l b xs zs,x=.ref l/\y=.ref b/\SqL K H l xs/\SqL K H b zs/\xs.length+zs.length≤sizeLine/\∀ p,H p=none->Q (.ref p) (upd H p (.lst (xs ++ zs)))
theorem j6 {X:Cx}{K:W.Frag}(hK:X.K=K):OpR X (binaryOp .Add) (zei K):=by
 subst hK
 intro pins s σ H x y v u Q I rx ry h
 obtain⟨l,b,xs,zs,rfl,rfl,hH,hB,hz,q⟩:=h
 cases rx
 cases ry
 obtain⟨its,r,⟨o1,n1,e1,c1,d1,m1⟩,z1⟩:=I.list hH
 obtain⟨ita,r2,⟨o2,n2,e2,c2,d2,m2⟩,z2⟩:=I.list hB
 obtain⟨g1,g2,g3,g4⟩:=o1
 obtain⟨f1,f2,f3,f4⟩:=o2
 simp only at c1 d1 m1 c2 d2 m2
 subst c1 d1 m1 c2 d2 m2
 have hs:its.length+ita.length≤sizeLine:=by
  rw [<- r.length,<- r2.length]
  exact hz
 have ea:its.toArray ++ ita.toArray=(its ++ ita).toArray:=by simp
 refine concat_meets ⟨_,e1,rfl⟩ ⟨_,e2,rfl⟩ noFill_list_add seq_list_add F.slot_list_add F.entry_list_add (F.args_list_add_2 _ _) (list_addW l b its.toArray ita.toArray n1 n2 none none g4 f4 (by simpa using hs)) ⟨e1,e2,?_⟩
 rw [ea]
 exact⟨.ref _,_,I.lnew (t':=s.toks) (r.append r2) (by rw [List.length_append];omega),rfl,q _ I.fresh⟩
theorem Reps.drop {K:W.Frag}{H:Hp}:∀ {ds:List PyData}{xs:List V}(k:Nat),Reps K H ds xs->Reps K H (ds.drop k) (xs.drop k)
 |[],_,k,h=>by
  rw [show _=[] from h]
  simp only [List.drop_nil]
  rfl
 |d :: ds,_,k,h=>by
  obtain⟨y,q,rfl,h1,h2⟩:=h
  cases k with
  |zero=>exact⟨y,q,rfl,h1,h2⟩
  |succ k=>exact h2.drop k
theorem Reps.take {K:W.Frag}{H:Hp}:∀ {ds:List PyData}{xs:List V}(k:Nat),Reps K H ds xs->Reps K H (ds.take k) (xs.take k)
 |[],_,k,h=>by
  rw [show _=[] from h]
  simp only [List.take_nil]
  rfl
 |d :: ds,_,k,h=>by
  obtain⟨y,q,rfl,h1,h2⟩:=h
  cases k with
  |zero=>rfl
  |succ k=>exact⟨y,_,rfl,h1,h2.take k⟩
theorem Reps.append {K:W.Frag}{H:Hp}:∀ {ds es:List PyData}{xs ys:List V},Reps K H ds xs->Reps K H es ys->Reps K H (ds ++ es) (xs ++ ys)
 |[],_,_,_,h,h'=>by
  rw [show _=[] from h]
  exact h'
 |d :: ds,_,_,_,h,h'=>by
  obtain⟨y,q,rfl,h1,h2⟩:=h
  exact⟨y,_,rfl,h1,h2.append h'⟩
theorem IsPic.more {p:Pict}{w h:Nat}(ip:IsPic p w h) (h2:h < 12):IsPic (p ++ p.take 1) w (h+1):=by
 have hm:∀ r,r∈p ++ p.take 1->r∈p:=fun r hr=>(List.mem_append.mp hr).elim id List.mem_of_mem_take
 have:=ip.h1
 exact⟨by rw [List.length_append,List.length_take,ip.hh];omega,fun r hr=>ip.ww r (hm r hr),fun r hr=>ip.ok r (hm r hr),ip.w1,ip.w2,by omega,by omega⟩
theorem IsPic.rows {p:Pict}{w h w':Nat}(g:List Cel->List Cel) (ip:IsPic p w h) (hg:∀ r∈p,(g r).length=w') (hm:∀ r c,c∈g r->c∈r) (h1:1≤w') (h2:w'≤24):IsPic (p.map g) w' h:=by
 refine⟨by rw [List.length_map,ip.hh],fun r hr=>?_,fun r hr c hc=>?_,h1,h2,ip.h1,ip.h2⟩
 ·obtain⟨y,hy,rfl⟩:=List.mem_map.mp hr
  exact hg y hy
 ·obtain⟨y,hy,rfl⟩:=List.mem_map.mp hr
  exact ip.ok y hy c (hm y c hc)
noncomputable def zbr (p:Pict) (h w:Nat):Pict:=(List.range w).map fun c=>(List.range h).map fun i=>uF p i c
theorem IsPic.turn {p:Pict}{w h:Nat}(ip:IsPic p w h) (hw:w≤12):IsPic (zbr p h w) h w:=by
 refine⟨by simp [zbr],fun r hr=>?_,fun r hr c hc=>?_,ip.h1,by have:=ip.h2;omega,ip.w1,hw⟩
 ·obtain⟨y,_,rfl⟩:=List.mem_map.mp hr
  simp
 ·obtain⟨y,hy,rfl⟩:=List.mem_map.mp hr
  obtain⟨i,hi,rfl⟩:=List.mem_map.mp hc
  obtain⟨_,_,_,_,ok⟩:=K4 ip (List.mem_range.mp hi) (List.mem_range.mp hy)
  exact ok
def Fly (h:Heap) (e C:Addr) (fp:List Addr):Prop:=∃ oe vs,h.get? e=some oe/\(oe.cls=.ref C/\oe.dict=none)/\oe.data=.fields vs/\1 < vs.size/\
 ((vs[1]? =some .none/\fp=[e])\/∃ T oT ts,vs[1]? =some (.ref T)/\T≠e/\h.get? T=some oT/\oT.data=.fields ts/\ts[3]? =some .none/\fp=[e,T])
theorem Fly.mem {h:Heap}{e C:Addr}{fp:List Addr}(F:Fly h e C fp):∀ b∈fp,∃ o vs,h.get? b=some o/\o.data=.fields vs:=by
 obtain⟨oe,vs,he,_,hd,_,⟨_,rfl⟩ | ⟨T,oT,ts,_,_,hT,hdT,_,rfl⟩⟩:=F
 ·intro b hb
  cases List.mem_singleton.mp hb
  exact⟨oe,vs,he,hd⟩
 ·intro b hb
  rcases List.mem_cons.mp hb with rfl |hb
  ·exact⟨oe,vs,he,hd⟩
  ·cases List.mem_singleton.mp hb
   exact⟨oT,ts,hT,hdT⟩
theorem Fly.self {h:Heap}{e C:Addr}{fp:List Addr}(F:Fly h e C fp):e∈fp:=by
 obtain⟨_,_,_,_,_,_,⟨_,rfl⟩ | ⟨_,_,_,_,_,_,_,_,rfl⟩⟩:=F <;> exact List.mem_cons_self
theorem Fly.keep {h h':Heap}{e C:Addr}{fp:List Addr}(F:Fly h e C fp) (k:∀ b∈fp,∀ o,h.get? b=some o->h'.get? b=some o):Fly h' e C fp:=by
 have hs:=F.self
 obtain⟨oe,vs,he,hc,hd,hz,h1 | ⟨T,oT,ts,h1,h2,hT,hdT,h3,rfl⟩⟩:=F
 ·exact⟨oe,vs,k _ hs _ he,hc,hd,hz,.inl h1⟩
 ·exact⟨oe,vs,k _ hs _ he,hc,hd,hz,.inr ⟨T,oT,ts,h1,h2,k _ (by simp) _ hT,hdT,h3,rfl⟩⟩
section
variable {M:Model}{A:Around}{E:Value->Shared->Prop}{s:Shared}
structure Noted (fs fp:List Addr) (h h':Heap):Prop where
 keep:∀ b o,h.get? b=some o->b ∉ fp->b ∉ fs->h'.get? b=some o
 slot:∀ b o,h.get? b=some o->b ∉ fp->∃ sl,h'.get? b=some { o with slots:=sl }
 there:∀ b o,h.get? b=some o->∃ o',h'.get? b=some o'
theorem Noted.size {fs fp:List Addr}{h h':Heap}(n:Noted fs fp h h') (hp:h'.objs.size < h.objs.size->False):h.objs.size≤h'.objs.size:=Nat.not_lt.mp hp
end
noncomputable def CX1 (P:Program) (w:World):CXT:=fun outer H s E ev s'=>∃ e C fp H',ev=.ref e/\Fly s'.heap e C fp/\(∀ b∈fp,s.heap.get? b=none/\H' b=none)/\s'.os=s.os/\AllBare s'.gens/\Un (frs outer) [] H H' s.heap s'.heap/\HOk P w H' s'.heap/\E (.ref C) none H'
def FpX (X:Cx) (pins:List (Addr×Obj)) (H:Hp) (b:Addr):Prop:=
 H b=none/\b≠X.env.locals/\b ∉ X.fs/\(b∈X.ex\/X.s₀.heap.get? b=none)/\(∀ x c,X.env.cells.lookup x=some c->c≠b)/\∀ p∈X.pn ++ pins,p.1≠b
theorem Inv.fpX {X:Cx}{pins:List (Addr×Obj)}{σ:St}{H H':Hp}{s:Shared}{b:Addr}(I:Inv X pins σ H s) (hb:s.heap.get? b=none) (hn:H' b=none):FpX X pins H' b:=by
 have no:∀ c o,s.heap.get? c=some o->c≠b:=fun c o q z=>by
  rw [z,hb] at q
  cases q
 refine⟨hn,fun z=>?_,fun z=>?_,?_,fun x c q=>?_,fun p hp=>no _ _ (I.pin p hp).1⟩
 ·obtain⟨m,⟨o,_,_,ho,_⟩,_⟩:=I.loc
  exact no _ _ ho z.symm
 ·obtain⟨_,o,ho,_⟩:=I.funs.mem z
  exact no _ _ ho rfl
 ·by_cases hx:b∈X.ex
  ·exact .inl hx
  ·refine .inr ?_
   cases q:X.s₀.heap.get? b with
   |none=>rfl
   |some o=>
    obtain⟨o',q'⟩:=I.base.there b o q hx
    exact absurd rfl (no _ _ q')
 ·obtain⟨v,o,ho,_⟩:=I.cell x c q
  exact no _ _ ho
def Up (X:Cx) (W:XK) (ev:Value) (s':Shared):Prop:=∃ pins σ H e C fp,ev=.ref e/\Inv X pins σ H s'/\Fly s'.heap e C fp/\(∀ b∈fp,FpX X pins H b)/\W (.ref C) none H
def zbs (X:Cx) (W:XK):Prop:=∀ ev s',Up X W ev s'->X.xe ev s'
theorem zbs.passes {X:Cx}{W:XK}(L:zbs X W):uB (CX1 X.prog X.w) X W:=by
 rintro pins σ H s ev s' I ⟨e,C,fp,H',rfl,F,hf,os,bare,un,hok,hw⟩
 have I':Inv X pins σ H' s':=I.call' (ch:=[]) os un hok bare fun b z=>absurd z (by simp)
 exact L _ _ ⟨pins,σ,H',e,C,fp,rfl,I',F,fun b hb=>I.fpX (H':=H') (hf b hb).1 (hf b hb).2,hw⟩
end L2
namespace L2
open PySem PySem.W PySem.Spec PySem.Calls PyProof.Rows
section
variable {prog:Program}{w:World}{A:Around}{E:Value->Shared->Prop}{s:Shared}{K:W.Frag}{e C:Addr}{oe:Obj}
end
structure XMake (K:W.Frag) (C:Addr):Prop where
 ex:∃ B nid iid bmB,ExcBaseFacts B nid iid bmB/\excIn K C bmB nid=true
theorem XMake.obj {K:W.Frag}{C:Addr}{h:Heap}(m:XMake K C) (X:K.In h):∃ B nid iid bmB,ExcBaseFacts B nid iid bmB/\∃ bm ns nm qn bs hd sn sub ab col dd k0 k1 k2 k3 k5 mN,
  h.get? C=some (excClassObj nm qn C ns bs bm hd sn sub ab col dd k0 k1 k2 k3 k5 nid)/\h.Ns ns mN/\mN "__init__" =none/\OwnTail h bmB bm:=by
 obtain⟨B,nid,iid,bmB,F,z⟩:=m.ex
 refine⟨B,nid,iid,bmB,F,?_⟩
 unfold excIn at z
 split at z
 ·rename_i d0 c0 s0 lk0
  split at z
  ·rename_i A0 tl j0 j1 j2 j3 nm0 j5 hm0 hs0
   rw [Bool.and_eq_true,Bool.and_eq_true,Bool.and_eq_true,Bool.and_eq_true,Bool.and_eq_true] at z
   obtain⟨⟨⟨⟨⟨z1,z2⟩,z3⟩,z4⟩,z5⟩,z6⟩:=z
   rw [beq_iff_eq.mp z1] at hm0
   rw [beq_iff_eq.mp z2] at hs0
   obtain⟨n0,b0,r0,y0,q0,h0,t0,u0,a0,l0,del0⟩:=c0
   have e3:del0=false:=by simpa using z3
   have e1:r0=.ref C :: tl:=hm0
   have e2:s0= #[j0,j1,j2,j3,some (.builtin nid),j5]:=by
    cases s0
    exact congrArg Array.mk hs0
   subst e1 e2 e3
   have g1:=Heap.Ns.of_isNs (isNs_of_in X z5)
   have g2:=nsMap_none_of_in X z5 (beq_iff_eq.mp z6)
   exact⟨tl,y0,n0,q0,b0,h0,t0,u0,a0,l0,d0,j0,j1,j2,j3,j5,_,X _ _ lk0,g1,g2,tail_of_in X z4⟩
  ·cases z
 ·cases z
noncomputable abbrev Cx.suite (X:Cx) (pins:List (Addr×Obj)) (e:Addr):Cx:={ X with A:=X.A.mark (some (.ref e)),calm:=false,pn:=X.pn ++ pins,xe:=fun _ _=>False }
section
variable {X:Cx}{pins ps:List (Addr×Obj)}{σ:St}{H:Hp}{s:Shared}{Z:Value->Shared->Prop}{e:Addr}
theorem Inv.suite (I:Inv X pins σ H s) (e:Addr) (hz:(X.A.mark (some (.ref e))).frames=X.A.frames):Inv (X.suite pins e) [] σ H s:=
 ⟨⟨I.ok.mod,I.ok.kind,I.ok.glob,I.ok.blt,I.ok.above,I.ok.inj,I.ok.has,I.ok.cab,fun z=>(Bool.noConfusion z),hz.trans I.ok.frames,I.ok.stk,I.ok.exf,I.ok.bs,I.ok.bsz,I.ok.noex,I.ok.exfs,I.ok.funs,I.ok.frf⟩,
  I.os,I.bare,I.base,I.loc,I.cell,I.free,I.freeC,fun p hp=>I.pin p (by simpa using hp),I.hok,I.len⟩
end
end L2
namespace L2
open PySem PySem.Spec PyProof.Rows
noncomputable def zfu (X:Cx) (N:List Str) (scope:Scope) (cl:List (Str×Addr)) (y:Str) (C:Addr) (s:Shared) (H:Hp) (fp:List Addr):Cx:=
 { xh X N scope cl C s H fp with env:=compEnvC scope ((y,C+1) :: cl) C X.env,fn:=fun x=>x == y }
structure LcOkC (X:Cx) (N:List Str) (n:Nat) (js:List Nat) (scope:Scope) (cl:List (Str×Addr)) (y:Str):Prop where
 clos:closureFor scope X.env=pure cl
 one:∀ k,cellsFrom k scope.names cl=(y,k) :: cl
 onep:∀ h:Heap,pushCells h scope.names=h.push { cls:=.type "cell",data:=.cell none }
 kind:scope.kind=.function
 names:∀ y∈scope.names,y.2=.local->scope.names.lookup y.1=some .local
 cells:∀ x c,cl.lookup x=some c->X.env.cells.lookup x=some c
 has:∀ x,((relabel scope X.env).names.lookup x=some .cell\/(relabel scope X.env).names.lookup x=some .free)->x=y\/∃ c,cl.lookup x=some c
 len:n+js.length=N.length
 free:∀ (i:Nat) (x:Str),N[n+i]? =some x->∃ j c,js[i]? =some j/\X.N[j]? =some x/\(X.env.scope.names.lookup x=some .cell\/X.env.scope.names.lookup x=some .free)/\
  ((relabel scope X.env).names.lookup x=some .cell\/(relabel scope X.env).names.lookup x=some .free)/\cl.lookup x=some c/\x≠y
theorem Zl {cl:List (Str×Addr)}{y x:Str}{k c:Addr}(h:List.lookup x ((y,k) :: cl)=some c):(x=y/\c=k)\/cl.lookup x=some c:=by
 rw [List.lookup_cons] at h
 cases q:x == y with
 |true=>
  rw [q] at h
  exact .inl ⟨beq_iff_eq.mp q,(Option.some.inj h).symm⟩
 |false=>
  rw [q] at h
  exact .inr h
theorem K5 {cl:List (Str×Addr)}{y x:Str}{k:Addr}(h:x≠y):List.lookup x ((y,k) :: cl)=cl.lookup x:=by
 rw [List.lookup_cons,beq_eq_false_iff_ne.mpr h]
theorem Zm {cl:List (Str×Addr)}{y:Str}{k:Addr}:List.lookup y ((y,k) :: cl)=some k:=by
 rw [List.lookup_cons,beq_self_eq_true]
section
variable {X:Cx}{pins:List (Addr×Obj)}{σ:St}{H:Hp}{s:Shared}{N:List Str}{n:Nat}{js:List Nat}{scope:Scope}{cl:List (Str×Addr)}{y:Str}
theorem LcOkC.far (L:LcOkC X N n js scope cl y) {fp:List Addr}{C b c:Addr}{x:Str}{z:Nat}(hf:∀ b∈fp,FpOk X pins H b) (hlt:b < z) (hb:b∈fp) (hC:z≤C) (e:List.lookup x ((y,C+1) :: cl)=some c):c≠b:=by
 rcases Zl e with⟨_,q⟩ |q
 ·rw [q]
  exact Nat.ne_of_gt (Nat.lt_of_lt_of_le hlt (Nat.le_succ_of_le hC))
 ·exact (hf b hb).2.2.2.2.1 x c (L.cells x c q)
theorem LcOkC.low (L:LcOkC X N n js scope cl y) (I:Inv X pins σ H s) {x:Str}{c:Addr}(e:cl.lookup x=some c):c < s.heap.objs.size:=by
 obtain⟨v,o,ho,_⟩:=I.cell x c (L.cells x c e)
 exact Heap.lt_size ho
theorem LcOkC.ok (L:LcOkC X N n js scope cl y) (I:Inv X pins σ H s) {fp:List Addr}(hf:∀ b∈fp,FpOk X pins H b) (hlt:∀ b∈fp,b < s.heap.objs.size) {C:Addr}(hC:s.heap.objs.size≤C):(zfu X N scope cl y C s H fp).Ok where
 mod:=I.ok.mod
 kind:=L.kind
 glob:=I.ok.glob
 blt:=I.ok.blt
 above:=hC
 inj:=fun x x' c h1 h2=>by
  rcases Zl h1 with⟨e1,q1⟩ |q1 <;> rcases Zl h2 with⟨e2,q2⟩ |q2
  ·rw [e1,e2]
  ·exact absurd (Nat.lt_of_lt_of_le (L.low I q2) hC) (by rw [q1];exact Nat.not_lt.mpr (Nat.le_succ C))
  ·exact absurd (Nat.lt_of_lt_of_le (L.low I q1) hC) (by rw [q2];exact Nat.not_lt.mpr (Nat.le_succ C))
  ·exact I.ok.inj x x' c (L.cells x c q1) (L.cells x' c q2)
 has:=fun x hx=>by
  rcases L.has x hx with e | ⟨c,e⟩
  ·rw [e]
   exact⟨_,Zm⟩
  ·by_cases q:x=y
   ·rw [q]
    exact⟨_,Zm⟩
   ·exact⟨c,(K5 q).trans e⟩
 cab:=fun x c hx e=>by
  have hx:x=y:=beq_iff_eq.mp hx
  rw [hx] at e
  cases (Zm.symm.trans e)
  exact Nat.le_succ_of_le hC
 hd:=I.ok.hd
 frames:=I.ok.frames
 stk:=.inl rfl
 exf:=fun b hb=>⟨Nat.ne_of_lt (Nat.lt_of_lt_of_le (hlt b hb) hC),fun x c e=>L.far hf (hlt b hb) hb hC e⟩
 bs:=I.bs
 bsz:=Nat.le_trans I.ok.bsz I.sz
 noex:=fun b o e hb=>by
  rcases (hf b hb).2.2.2.1 with z |z
  ·exact I.ok.noex b o e z
  ·exact absurd (Nat.lt_of_lt_of_le (Heap.lt_size (I.ok.bs b o e).1) z) (Nat.lt_irrefl _)
 exfs:=fun b hb hz=>by
  rcases List.mem_cons.mp (I.stkSub b hz) with z |z
  ·exact (hf b hb).2.1 z
  ·exact (hf b hb).2.2.1 z
 funs:=I.stack
 frf:=I.stkFree
end
section
variable {κ:Type} [DecidableEq κ]
noncomputable def vf (kvs:List (κ×V)) (k:κ):Option V:=(kvs.find? fun kv=>decide (kv.1=k)).map (·.2)
noncomputable def x5 (kvs:List (κ×V)) (k:κ) (v:V):List (κ×V):=
 if (kvs.any fun kv=>decide (kv.1=k))=true then kvs.map (fun kv=>if kv.1=k then (kv.1,v) else kv) else kvs ++ [(k,v)]
noncomputable def zbt (kvs:List (κ×V)) (k:κ):List (κ×V):=kvs.filter fun kv=>decide (kv.1≠k)
theorem Zn {p:κ×V}{r:List (κ×V)}{k:κ}(e:p.1=k):vf (p :: r) k=some p.2:=by simp [vf,List.find?_cons,e]
theorem Zo {p:κ×V}{r:List (κ×V)}{k:κ}(e:¬ p.1=k):vf (p :: r) k=vf r k:=by simp [vf,List.find?_cons,e]
theorem XN (k:κ):∀ kvs:List (κ×V),(kvs.any fun kv=>decide (kv.1=k))=(vf kvs k).isSome
 |[]=>rfl
 |p :: r=>by
  rw [List.any_cons]
  by_cases e:p.1=k
  ·simp only [Zn e,decide_eq_true e,Bool.true_or,Option.isSome_some]
  ·rw [Zo e,decide_eq_false e,Bool.false_or];exact XN k r
theorem qC (kvs:List (κ×V)) (k:κ) (v:V):(x5 kvs k v).length≤kvs.length+1:=by
 unfold x5
 split
 ·rw [List.length_map];omega
 ·rw [List.length_append,List.length_cons,List.length_nil];omega
theorem va.isSome_eq {o:Option V}{u:Option Value}(r:va o u):o.isSome=u.isSome:=by
 cases o with
 |none=>cases u with
  |none=>rfl
  |some _=>exact (show False from r).elim
 |some _=>cases u with
  |none=>exact (show False from r).elim
  |some _=>rfl
theorem va.getD {o:Option V}{u:Option Value}{d:V}{d':Value}(r:va o u) (rd:RelV d d'):RelV (o.getD d) (u.getD d'):=by
 cases o with
 |none=>cases u with
  |none=>exact rd
  |some _=>exact (show False from r).elim
 |some _=>cases u with
  |none=>exact (show False from r).elim
  |some _=>exact r
theorem KV.val {kvs:List (κ×V)}{vs:List (κ×Value)}(r:KV kvs vs) (k:κ):va (vf kvs k) (valueAt vs k):=by
 unfold KV at r
 induction r with
 |nil=>exact True.intro
 | @cons p q ps qs h t ih=>
  obtain⟨h1,h2⟩:=h
  by_cases e:p.1=k
  ·have e':q.1=k:=h1.symm.trans e
   have b:valueAt (q :: qs) k=some q.2:=by simp [valueAt,List.find?_cons,e']
   rw [Zn e,b];exact h2
  ·have e':¬ q.1=k:=fun z=>e (h1.trans z)
   have b:valueAt (q :: qs) k=valueAt qs k:=by simp [valueAt,List.find?_cons,e']
   rw [Zo e,b];exact ih
theorem KV.any {kvs:List (κ×V)}{vs:List (κ×Value)}(r:KV kvs vs) (k:κ):(kvs.any fun kv=>decide (kv.1=k))=vs.any fun kv=>decide (kv.1=k):=by
 unfold KV at r
 induction r with
 |nil=>rfl
 |cons h t ih=>rw [List.any_cons,List.any_cons,ih,h.1]
theorem KV.repl {kvs:List (κ×V)}{vs:List (κ×Value)}(r:KV kvs vs) (k:κ) {y:V}{u:Value}(ry:RelV y u) :
  KV (kvs.map fun kv=>if kv.1=k then (kv.1,y) else kv) (vs.map fun kv=>if kv.1=k then (kv.1,u) else kv):=by
 unfold KV at r ⊢
 induction r with
 |nil=>exact .nil
 | @cons p q ps qs h t ih=>
  rw [List.map_cons,List.map_cons]
  refine .cons ?_ ih
  obtain⟨h1,h2⟩:=h
  by_cases e:p.1=k
  ·rw [if_pos e,if_pos (h1.symm.trans e)];exact⟨h1,ry⟩
  ·rw [if_neg e,if_neg (fun z=>e (h1.trans z))];exact⟨h1,h2⟩
theorem KV.put {kvs:List (κ×V)}{vs:List (κ×Value)}(r:KV kvs vs) (k:κ) {y:V}{u:Value}(ry:RelV y u):KV (x5 kvs k y) (stored vs k u):=by
 unfold x5 stored
 rw [r.any k]
 by_cases e:(vs.any fun kv=>decide (kv.1=k))=true
 ·rw [if_pos e,if_pos e];exact r.repl k ry
 ·rw [if_neg e,if_neg e];exact Paired.snoc r ⟨rfl,ry⟩
theorem KV.drop {kvs:List (κ×V)}{vs:List (κ×Value)}(r:KV kvs vs) (k:κ):KV (zbt kvs k) (without vs k):=by
 unfold KV at r ⊢
 unfold zbt without
 induction r with
 |nil=>exact .nil
 | @cons p q ps qs h t ih=>
  obtain⟨h1,h2⟩:=h
  rw [List.filter_cons,List.filter_cons]
  by_cases e:p.1=k
  ·have a:¬ decide (p.1≠k)=true:=by simp [e]
   have b:¬ decide (q.1≠k)=true:=by simp [h1.symm.trans e]
   rw [if_neg a,if_neg b];exact ih
  ·have e':¬ q.1=k:=fun z=>e (h1.trans z)
   have a:decide (p.1≠k)=true:=by simp [e]
   have b:decide (q.1≠k)=true:=by simp [e']
   rw [if_pos a,if_pos b];exact .cons ⟨h1,h2⟩ ih
theorem KV.keys {kvs:List (κ×V)}{vs:List (κ×Value)}(r:KV kvs vs):kvs.map (·.1)=vs.map (·.1):=by
 unfold KV at r
 induction r with
 |nil=>rfl
 |cons h t ih=>rw [List.map_cons,List.map_cons,ih,h.1]
theorem KV.length {kvs:List (κ×V)}{vs:List (κ×Value)}(r:KV kvs vs):kvs.length=vs.length:=Paired.length r
end
theorem jr {P:Program}{w:World}{k:Key}{u:Value}(r:RelV (kV k) u):(yX P w).is k u=true:=by
 cases k with
 |inl i=>obtain⟨t,e⟩:=(show ∃ t,u=Value.int i t from r);subst e;exact VR P w i t
 |inr x=>obtain⟨t,e⟩:=(show ∃ t,u=Value.str x t from r);subst e;exact VS P w x t
theorem YO {P:Program}{w:World}:∀ {ks:List Key}{us:List Value},Vals (ks.map kV) us->ItemsAre (yX P w) ks us
 |[],_,r=>by rw [List.map_nil] at r;cases r;exact .nil
 |k :: ks,_,r=>by
  rw [List.map_cons] at r
  cases r with
  |cons h t=>exact .cons (jr h) (YO t)
noncomputable abbrev KT (H:Hp):List (List Key×V)->List (List Key×Addr×Value)->Prop:=Paired fun p q=>p.1=q.1/\H q.2.1=some (.tup (p.1.map kV))/\RelV p.2 q.2.2
theorem KT.val {H:Hp}{kvs:List (List Key×V)}{xs:List (List Key×Addr×Value)}(r:KT H kvs xs) (k:List Key):va (vf kvs k) ((atKey xs k).map (·.2)):=by
 induction r with
 |nil=>exact True.intro
 | @cons p q ps qs h t ih=>
  obtain⟨h1,_,h2⟩:=h
  by_cases e:p.1=k
  ·have e':q.1=k:=h1.symm.trans e
   have b:atKey (q :: qs) k=some q.2:=by simp [atKey,List.find?_cons,e']
   rw [Zn e,b];exact h2
  ·have e':¬ q.1=k:=fun z=>e (h1.trans z)
   have b:atKey (q :: qs) k=atKey qs k:=by simp [atKey,List.find?_cons,e']
   rw [Zo e,b];exact ih
theorem KT.repl {H:Hp}{kvs:List (List Key×V)}{xs:List (List Key×Addr×Value)}(r:KT H kvs xs) (k:List Key) {y:V}{u:Value}(ry:RelV y u) :
  KT H (kvs.map fun kv=>if kv.1=k then (kv.1,y) else kv) (xs.map (putAt k u)):=by
 induction r with
 |nil=>exact .nil
 | @cons p q ps qs h t ih=>
  rw [List.map_cons,List.map_cons]
  refine .cons ?_ ih
  obtain⟨h1,h2,h3⟩:=h
  unfold putAt
  by_cases e:p.1=k
  ·rw [if_pos e,if_pos (h1.symm.trans e)];exact⟨h1,h2,ry⟩
  ·rw [if_neg e,if_neg (fun z=>e (h1.trans z))];exact⟨h1,h2,h3⟩
theorem KT.put {H:Hp}{kvs:List (List Key×V)}{xs:List (List Key×Addr×Value)}(r:KT H kvs xs) (k:List Key) {b:Addr}{y:V}{u:Value}(hb:H b=some (.tup (k.map kV))) (ry:RelV y u) :
  KT H (x5 kvs k y) (storedH xs k b u):=by
 have e:(kvs.any fun kv=>decide (kv.1=k))=(atKey xs k).isSome:=by
  rw [XN,(r.val k).isSome_eq,Option.isSome_map]
 unfold x5 storedH
 rw [e]
 by_cases q:(atKey xs k).isSome=true
 ·rw [if_pos q,if_pos q];exact r.repl k ry
 ·rw [if_neg q,if_neg q];exact Paired.snoc r ⟨rfl,hb,ry⟩
theorem KT.keeps {H H':Hp}{kvs:List (List Key×V)}{xs:List (List Key×Addr×Value)}(r:KT H kvs xs) (ht:∀ b ys,H b=some (.tup ys)->H' b=some (.tup ys)):KT H' kvs xs:=
 Paired.mapP r fun _ _ z=>⟨z.1,ht _ _ z.2.1,z.2.2⟩
section
variable {P:Program}{w:World}{H:Hp}{h:Heap}{a:Addr}
theorem zbu {u:HO}(ok:HOk P w H h) (e:Rd H a u):y9 P w H h a u:=e.ok ok
theorem ZR {kvs:List (Key×V)}(ok:HOk P w H h) (e:Rd H a (.dK kvs)):kvs.length≤sizeLine/\(a == sysModules)=false/\∃ vs,KV kvs vs/\h.DictOf (yX P w) a vs:=
 show y9 P w H h a (.dK kvs) from zbu ok e
theorem ZS {kvs:List (Key×V)}(ok:HOk P w H h) (e:H a=some (.dK kvs)):kvs.length≤sizeLine/\(a == sysModules)=false/\∃ vs,KV kvs vs/\h.DictOf (yX P w) a vs:=ZR ok (.inl e)
theorem ZT {ks:List Key}(ok:HOk P w H h) (e:H a=some (.tup (ks.map kV))):(tupleKind (yX P w)).is h ks a:=by
 obtain⟨_,its,r,o,h1,h2,n,h3⟩:=(show y9 P w H h a (.tup (ks.map kV)) from ok a _ e)
 exact⟨o,its.toArray,n,h1,h2,h3,by simpa using YO r⟩
theorem ZU {kvs:List (List Key×V)}(ok:HOk P w H h) (e:Rd H a (.dT kvs)):kvs.length≤sizeLine/\(a == sysModules)=false/\
  ∃ xs,KT H kvs xs/\h.DictOfH (tupleKind (yX P w)) a xs:=by
 obtain⟨z,y,xs,r,o,es,ep,h1,h2,h3,h4,h5⟩:=(show y9 P w H h a (.dT kvs) from zbu ok e)
 refine⟨z,y,xs,r,o,es,ep,h1,h2,h3,h4,fun x hx=>?_,h5⟩
 have all:∀ {l:List (List Key×V)}{m:List (List Key×Addr×Value)},KT H l m->∀ x∈m,(tupleKind (yX P w)).is h x.1 x.2.1:=by
  intro l m q
  induction q with
  |nil=>intro x hx;exact nomatch hx
  | @cons p q ps qs hq t ih=>
   intro x hx
   rcases List.mem_cons.mp hx with e |hx
   ·subst e
    exact ZT ok (by rw [<- hq.1];exact hq.2.1)
   ·exact ih x hx
 exact all r x hx
theorem zfv {kvs:List (List Key×V)}(ok:HOk P w H h) (e:H a=some (.dT kvs)):kvs.length≤sizeLine/\(a == sysModules)=false/\
  ∃ xs,KT H kvs xs/\h.DictOfH (tupleKind (yX P w)) a xs:=ZU ok (.inl e)
end
def uG (H:Hp) (a:Addr) (y:V) (r:Option V):Prop:=
 (∃ kvs k,Rd H a (.dK kvs)/\y=kV k/\r=vf kvs k)\/∃ kvs k b,Rd H a (.dT kvs)/\y=.ref b/\H b=some (.tup (k.map kV))/\r=vf kvs k
def Zp (H:Hp) (a:Addr) (y v:V) (H':Hp):Prop:=
 (∃ kvs k,H a=some (.dK kvs)/\y=kV k/\kvs.length < sizeLine/\H'=upd H a (.dK (x5 kvs k v)))\/
 ∃ kvs k b,H a=some (.dT kvs)/\y=.ref b/\H b=some (.tup (k.map kV))/\kvs.length < sizeLine/\H'=upd H a (.dT (x5 kvs k v))
theorem uG.k {H:Hp}{a:Addr}{kvs:List (Key×V)}{k:Key}(e:H a=some (.dK kvs)):uG H a (kV k) (vf kvs k):=.inl ⟨kvs,k,.inl e,rfl,rfl⟩
theorem uG.t {H:Hp}{a b:Addr}{kvs:List (List Key×V)}{k:List Key}(e:H a=some (.dT kvs)) (eb:H b=some (.tup (k.map kV))):uG H a (.ref b) (vf kvs k):=.inr ⟨kvs,k,b,.inl e,rfl,eb,rfl⟩
theorem Zp.k {H:Hp}{a:Addr}{kvs:List (Key×V)}{k:Key}{v:V}(e:H a=some (.dK kvs)) (hl:kvs.length < sizeLine):Zp H a (kV k) v (upd H a (.dK (x5 kvs k v))):=.inl ⟨kvs,k,e,rfl,hl,rfl⟩
theorem Zp.t {H:Hp}{a b:Addr}{kvs:List (List Key×V)}{k:List Key}{v:V}(e:H a=some (.dT kvs)) (eb:H b=some (.tup (k.map kV))) (hl:kvs.length < sizeLine) :
  Zp H a (.ref b) v (upd H a (.dT (x5 kvs k v))):=.inr ⟨kvs,k,b,e,rfl,eb,hl,rfl⟩
section
variable {X:Cx}{pins:List (Addr×Obj)}{σ:St}{H:Hp}{s:Shared}{a:Addr}{y v:V}{u r:Value}{o:Option V}{A:Around}{E:Value->Shared->Prop}
theorem Inv.big (I:Inv X pins σ H s):sysModules < s.heap.objs.size:=by
 have h:mainGlobals < s.heap.objs.size:=(I.mod.glob.keeps I.bk).lt
 exact Nat.lt_trans (by decide) h
theorem JJ {Q:Value->Shared->Prop}(hu:A.units+1 < cLine) (I:Inv X pins σ H s) (g:uG H a y (some v)) (ry:RelV y u) (h:∀ w' s',Inv X pins σ H s'->RelV v w'->Q w' s') :
  wpAny (model X.prog X.w) A (getItem (.ref a) u) Q E s:=by
 rcases g with⟨kvs,k,e,ey,l⟩ | ⟨kvs,k,b,e,ey,eb,l⟩
 ·subst ey
  obtain⟨z,hd,vs,rel,dd⟩:=ZR I.hok e
  obtain⟨w',hw,rw'⟩:=va.some_of (v:=v) (o:=valueAt vs k) (by rw [l];exact rel.val k)
  exact wpAny_getItem_of (jr ry) dd.mapOf hw (h w' _ (I.tok _) rw')
 ·subst ey
  cases (show u=Value.ref b from ry)
  obtain⟨z,hd,xs,rel,dd⟩:=ZU I.hok e
  obtain⟨w',hw,rw'⟩:=va.some_of (v:=v) (o:=(atKey xs k).map (·.2)) (by rw [l];exact rel.val k)
  obtain⟨p,hp,hp2⟩:=Option.map_eq_some_iff.mp hw
  refine wpAny_getItem_heap (tupleKind_room_in1 hu) (ZT I.hok eb) dd hp ?_
  rw [hp2]
  exact h w' _ (I.tok _) rw'
theorem kO {h':Heap}{t':Nat}{ob:HO}(I:Inv X pins σ H s) (mu:Mut (H a)) (hs:Heap.SameBut a s.heap h') (he:∃ q,h'.get? a=some q) (new:y9 X.prog X.w (upd H a ob) h' a ob) :
  Inv X pins σ (upd H a ob) { s with heap:=h',toks:=t' }:=
 I.write (x:=a) (e:=a) mu (.inl rfl) (fun b q hb z=>(hs.2 b hb).trans z) he new
theorem j7 {P:Program}{w:World}{H':Hp}{h':Heap}{kvs:List (Key×V)}{vs:List (Key×Value)}(z:kvs.length≤sizeLine) (hd:(a == sysModules)=false) (rel:KV kvs vs) (dd:h'.DictOf (yX P w) a vs) :
  y9 P w H' h' a (.dK kvs):=⟨z,hd,vs,rel,dd⟩
theorem JK {H':Hp}{Q:Unit->Shared->Prop}(hu:A.units+1 < cLine) (I:Inv X pins σ H s) (g:Zp H a y v H') (ry:RelV y u) (rv:RelV v r) (h:∀ s',Inv X pins σ H' s'->Q () s') :
  wpAny (model X.prog X.w) A (setItem (.ref a) u r) Q E s:=by
 rcases g with⟨kvs,k,e,ey,l,eH⟩ | ⟨kvs,k,b,e,ey,eb,l,eH⟩
 ·subst ey eH
  obtain⟨z,hd,vs,rel,dd⟩:=ZS I.hok e
  have hz:vs.length≤sizeLine:=by rw [<- rel.length];exact z
  have hl:(x5 kvs k v).length≤sizeLine:=by have:=qC kvs k v;omega
  refine wpAny_setItem_pairs (hsz:=hz) (jr ry) dd fun h' dd' hs=>h _ ?_
  have he:∃ q,h'.get? a=some q:=let ⟨q,_,_,hq,_⟩:=dd';⟨q,hq⟩
  exact kO I (by rw [e];exact True.intro) hs he (j7 hl hd (rel.put k rv) dd')
 ·subst ey eH
  cases (show u=Value.ref b from ry)
  obtain⟨z,hd,xs,rel,dd⟩:=zfv I.hok e
  have hz:xs.length≤sizeLine:=by rw [<- Paired.length rel];exact z
  have hl:(x5 kvs k v).length≤sizeLine:=by have:=qC kvs k v;omega
  refine wpAny_setItem_heap (hsz:=hz) (tupleKind_room_in1 hu) (ZT I.hok eb) dd fun h' dd' hs=>h _ ?_
  obtain⟨q,es,ep,hq,h2,h3,h4,_,h5⟩:=dd'
  refine kO I (by rw [e];exact True.intro) hs ⟨q,hq⟩ ⟨hl,hd,_,(rel.put k eb rv).keeps fun c ys ec=>?_,q,es,ep,hq,h2,h3,h4,h5⟩
  rw [zk (zfq ec e (fun z=>nomatch z))]
  exact ec
end
section
variable {X:Cx}{pins:List (Addr×Obj)}{σ:St}{H:Hp}{s:Shared}{a:Addr}{kvs:List (Key×V)}{k:Key}{u:Value}{A:Around}{E:Value->Shared->Prop}
end
def K6 (i:Expr):Prop:=∀ ov iv,subscripted i false ov iv=operate [ov,iv] (getItem ov iv)
theorem zcr {prog:Program}{w:World}{A:Around}{E:Value->Shared->Prop}{s:Shared}{env:Env}{value slice:Expr}{pos:Pos}{T id:String}{Q:Value->Shared->Prop}
  (hl:typeLookup (.type T) "__getitem__" =pure (some (.builtin id))) (hs:K6 slice)
  (h:wpAny (model prog w) A (eval value env) (fun o s₁=>wpAny (model prog w) A (eval slice env) (fun i s₂=>s₂.TypeIs o T/\wpAny (model prog w) A (getItem o i) Q E s₂) E s₁) E s) :
  wpAny (model prog w) A (eval (.Subscript value slice pos) env) Q E s:=by
 refine Subscript_ (wpAny_mono h (fun o s₁ h₁=>wpAny_mono h₁ (fun i s₂ h₂=>?_) fun _ _ x=>x) fun _ _ x=>x)
 obtain⟨hT,h₂⟩:=h₂
 unfold subscriptTail
 refine wpAny_bind ?_
 rw [getitemInPython_of_ne hT.not_modules]
 refine wpAny_bind (wpAny_specialOf hT hl ?_)
 have fin:wpAny (model prog w) A (subscripted slice false o i) (fun r s₃=>wpAny (model prog w) A (letTemporaryGo value o r >>= fun _=>pure r) Q E s₃) E s₂:=by
  rw [hs o i]
  exact wpAny_operating (wpAny_mono h₂ (fun r s₃ h₃=>wpAny_bind (wpAny_letTemporaryGo (wpAny_pure h₃))) fun _ _ x=>x)
 first
  |exact wpAny_pure (wpAny_bind fin)
  |exact wpAny_bind (wpAny_pure (wpAny_bind fin))
  |exact wpAny_bind fin
theorem VX {X:Cx}{pins:List (Addr×Obj)}{σ:St}{H:Hp}{s:Shared}{a:Addr}{y:V}{o:Option V}(I:Inv X pins σ H s) (g:uG H a y o):s.TypeIs (.ref a) "dict":=by
 rcases g with⟨kvs,k,e,_,_⟩ | ⟨kvs,k,b,e,_,_,_⟩
 ·obtain⟨_,_,vs,_,dd⟩:=ZR I.hok e
  exact dd.typeIs
 ·obtain⟨_,_,xs,_,dd⟩:=ZU I.hok e
  exact dd.typeIs
def zfw (td ty:TE):TE:=fun σ H Q=>td σ H fun x H1=>ty σ H1 fun y H2=>∃ a v,x=.ref a/\uG H2 a y (some v)/\Q v H2
def zfx (td ty tv:TE):TS:=fun D σ H=>tv σ H fun v H1=>td σ H1 fun x H2=>ty σ H2 fun y H3=>∃ a H4,x=.ref a/\Zp H3 a y v H4/\D.nx σ H4
section
variable {X:Cx}{o i e value:Expr}{pos pos' tpos:Pos}{td ty tv:TE}
theorem zcs (hu:X.A.units+1 < cLine) (ho:PE X o td) (hi:PE X i ty) (hs:K6 i):PE X (.Subscript o i pos) (zfw td ty):=by
 intro pins s σ H Q I h
 refine zcr PySem.F.slot_dict_getitem.lookup hs (thn (ho pins s σ H _ I h) fun u s1 ⟨x,H1,I1,rx,q1⟩=>thn (hi pins s1 σ H1 _ I1 q1) fun iv s2 ⟨y,H2,I2,ry,a,v,ex,g,q2⟩=>?_)
 subst ex
 obtain rfl:u=Value.ref a:=rx
 exact⟨VX I2 g,JJ hu I2 g ry fun w' s3 I3 rw'=>⟨v,H2,I3,rw',q2⟩⟩
theorem zct (hu:X.A.units+1 < cLine) (ho:PE X o td) (hi:PE X i ty) (hv:PE X value tv) (hs:swapsWith value (some (.Subscript o i pos')) pos.line X.env=pure false) :
  PS X (.Assign [.Subscript o i pos'] value pos) (zfx td ty tv):=by
 intro pins s σ H D I h
 refine wpAny_Assign_Subscript (thn (hv pins s σ H _ I h) fun r s1 ⟨v,H1,I1,rv,q1⟩=>thn (ho pins s1 σ H1 _ I1 q1) fun u s2 ⟨x,H2,I2,rx,q2⟩=>thn (hi pins s2 σ H2 _ I2 q2) fun iv s3 ⟨y,H3,I3,ry,a,H4,ex,g,q3⟩=>?_) hs
 subst ex
 obtain rfl:u=Value.ref a:=rx
 exact JK hu I3 g ry rv fun s4 I4=>⟨σ,H4,I4,q3⟩
end
theorem K7 {P:Program}{w:World}{H:Hp}(h:Heap) (hb:sysModules < h.objs.size):y9 P w H (h.push { cls:=.type "dict",data:=.dict #[] }) h.objs.size (.dK []):=
 ⟨Nat.zero_le _,beq_eq_false_iff_ne.mpr (Ne.symm (Nat.ne_of_lt hb)),[],.nil,Heap.DictOf.new h⟩
section
variable {X:Cx}{pos:Pos}
end
noncomputable def ZV:List (TE×TE)->St->Hp->(List (V×V)->Hp->Prop)->Prop
 |[],_,H,Q=>Q [] H
 | (tk,tv) :: r,σ,H,Q=>tk σ H fun x H1=>tv σ H1 fun y H2=>ZV r σ H2 fun ps H3=>Q ((x,y) :: ps) H3
noncomputable abbrev VV:List (V×V)->List (Value×Value)->Prop:=Paired fun p q=>RelV p.1 q.1/\RelV p.2 q.2
def PPs (X:Cx) (pos:Pos) (keys:List (Option Expr)) (values:List Expr) (trs:List (TE×TE)):Prop:=
 ∀ (pins:List (Addr×Obj)) (s:Shared) (σ:St) (H:Hp) (Q:List (V×V)->Hp->Prop),Inv X pins σ H s->ZV trs σ H Q->
  wpAny (model X.prog X.w) X.A (evalPairs (pairTrees keys values X.env pos)) (fun vs s'=>∃ ps H',Inv X pins σ H' s'/\VV ps vs/\Q ps H') X.xe s
theorem qU {X:Cx}{pos:Pos}:PPs X pos [] [] []:=fun pins s σ H Q I h=>pairTrees_nil_walk ⟨[],H,I,.nil,h⟩
theorem yR {X:Cx}{pos:Pos}{k v:Expr}{ks:List (Option Expr)}{vs:List Expr}{tk tv:TE}{trs:List (TE×TE)}(hk:PE X k tk) (hv:PE X v tv) (hr:PPs X pos ks vs trs) :
    PPs X pos (some k :: ks) (v :: vs) ((tk,tv) :: trs):=fun pins s σ H Q I h=>
  pairTrees_cons_walk (thn (hk pins s σ H _ I h) fun u s1 ⟨x,H1,I1,rx,q1⟩=>thn (hv pins s1 σ H1 _ I1 q1) fun w2 s2 ⟨y,H2,I2,ry,q2⟩=>
    thn (hr pins s2 σ H2 _ I2 q2) fun ws s3 ⟨ps,H3,I3,rel,q3⟩=>⟨(x,y) :: ps,H3,I3,.cons ⟨rx,ry⟩ rel,q3⟩)
noncomputable def xI (kvs more:List (Key×V)):List (Key×V):=more.foldl (fun acc kv=>x5 acc kv.1 kv.2) kvs
theorem KV.merge:∀ {more:List (Key×V)}{rs:List (Key×Value)}{kvs:List (Key×V)}{vs:List (Key×Value)},KV more rs->KV kvs vs->KV (xI kvs more) (merged vs rs):=by
 intro more rs kvs vs r
 unfold KV at r
 induction r generalizing kvs vs with
 |nil=>intro q;exact q
 | @cons p q ps qs h t ih=>
  intro r0
  have e:KV (x5 kvs p.1 p.2) (stored vs q.1 q.2):=by
   have:=r0.put p.1 h.2
   rw [<- h.1];exact this
  exact ih e
theorem x9:∀ (more kvs:List (Key×V)),(xI kvs more).length≤kvs.length+more.length
 |[],kvs=>by show kvs.length≤kvs.length+0;omega
 |p :: r,kvs=>by
  have h1:=x9 r (x5 kvs p.1 p.2)
  have h2:=qC kvs p.1 p.2
  show (xI (x5 kvs p.1 p.2) r).length≤_
  rw [List.length_cons];omega
theorem ZW {P:Program}{w:World}:∀ {kvs:List (Key×V)}{ws:List (Value×Value)},VV (kvs.map fun kv=>(kV kv.1,kv.2)) ws->∃ rs,Carries (yX P w) ws rs/\KV kvs rs
 |[],_,r=>by rw [List.map_nil] at r;cases r;exact⟨[],True.intro,.nil⟩
 |p :: kvs,_,r=>by
  rw [List.map_cons] at r
  cases r with
  | @cons a b as bs h t=>
   obtain⟨rs,c,q⟩:=ZW (P:=P) (w:=w) t
   obtain⟨b1,b2⟩:=b
   exact⟨(p.1,b2) :: rs,⟨jr h.1,rfl,c⟩,.cons ⟨rfl,h.2⟩ q⟩
def zbv (trs:List (TE×TE)):TE:=fun σ H Q=>∀ p,H p=none->ZV trs σ (upd H p (.dK [])) fun ps H2=>H2 p=some (.dK [])/\∃ kvs:List (Key×V),ps=kvs.map (fun kv=>(kV kv.1,kv.2))/\kvs.length≤15/\Q (.ref p) (upd H2 p (.dK (xI [] kvs)))
theorem qV {X:Cx}{pos:Pos}{keys:List (Option Expr)}{values:List Expr}{trs:List (TE×TE)}(h:PPs X pos keys values trs) (hall:keys.all (·.isSome)=true) (hl:keys.length=values.length) (h0:keys≠[])
  (h15:keys.length≤15):PE X (.Dict keys values pos) (zbv trs):=by
 intro pins s σ H Q I q
 have hn:=I.hok.fresh (Nat.le_refl s.heap.objs.size)
 have I1:=I.laid (a:=s.heap.objs.size) (o:=.dK []) (h':=s.heap.push { cls:=.type "dict",data:=.dict #[] }) (t':=s.toks) (fun _ _ q=>Heap.get?_push_of_some _ q) (Nat.le_refl _) (K7 s.heap I.big)
 refine wpAny_Dict_walk (knd:=yX X.prog X.w) hall hl h0 h15 (thn (h pins _ σ _ _ I1 (q _ hn)) fun ws s2 ⟨ps,H2,I2,rel,e,kvs,ep,lk,q2⟩=>?_)
 subst ep
 obtain⟨rs,c,rk⟩:=ZW (P:=X.prog) (w:=X.w) rel
 obtain⟨z,hd,vs0,r0,dd⟩:=ZS I2.hok e
 cases r0
 refine⟨rs,c,dd,fun h' dd' hs=>⟨.ref s.heap.objs.size,_,?_,rfl,q2⟩⟩
 have hz:(xI [] kvs).length≤sizeLine:=by
  have h1:=x9 kvs []
  rw [List.length_nil] at h1
  rw [sizeLine_eq];omega
 have he:∃ q,h'.get? s.heap.objs.size=some q:=let ⟨q,_,_,hq,_⟩:=dd';⟨q,hq⟩
 exact kO I2 (by rw [e];exact True.intro) hs he (j7 hz hd (rk.merge .nil) dd')
structure M2 (X:Cx) (o:Expr) (m:Str) (apos:Pos) (e f:Expr) (cpos:Pos):Prop where
  base:attributeBase o m X.env (eval o X.env)=eval o X.env
  few:((backTo cpos (starEach [e,f] X.env)).all (fun x=>!x.1) && (backToKw cpos (keywordEach [] X.env)).all (fun x=>x.1.isSome)
    && decide (([e,f]:List Expr).length+([]:List Keyword).length+(if ([]:List Keyword).isEmpty then 0 else 1) < 30))=true
  line:(apos.endLine == cpos.line)=true
  trees:backTo cpos (starEach [e,f] X.env)=[(false,eval e X.env),(false,eval f X.env)]
def IsD (H:Hp) (a:Addr):Prop:=(∃ kvs,Rd H a (.dK kvs))\/∃ kvs,Rd H a (.dT kvs)
theorem zej {X:Cx}{pins:List (Addr×Obj)}{σ:St}{H:Hp}{s:Shared}{a:Addr}(I:Inv X pins σ H s) (d:IsD H a) :
  s.TypeIs (.ref a) "dict"/\(∀ b,Value.ref a=.ref b->∃ ob,s.heap.get? b=some ob/\ob.dict=none)/\(a == sysModules)=false:=by
 rcases d with⟨kvs,e⟩ | ⟨kvs,e⟩
 ·obtain⟨_,hd,vs,_,dd⟩:=ZR I.hok e
  refine⟨dd.typeIs,fun b q=>?_,hd⟩
  cases q
  obtain⟨ob,_,_,h1,h2,_⟩:=dd
  exact⟨ob,h1,h2.2.1⟩
 ·obtain⟨_,hd,xs,_,dd⟩:=ZU I.hok e
  refine⟨dd.typeIs,fun b q=>?_,hd⟩
  cases q
  obtain⟨ob,_,_,h1,h2,_⟩:=dd
  exact⟨ob,h1,h2.2.1⟩
section
variable {X:Cx}{pins:List (Addr×Obj)}{σ:St}{H:Hp}{s:Shared}{a:Addr}{y d:V}{u r:Value}{o:Option V}{A:Around}{E:Value->Shared->Prop}
theorem zek {Q:Value->Shared->Prop}(hu:A.units+1 < cLine) (I:Inv X pins σ H s) (g:uG H a y o) (ry:RelV y u) (rd:RelV d r) (h:∀ w' s',Inv X pins σ H s'->RelV (o.getD d) w'->Q w' s') :
  wpAny (model X.prog X.w) A (call (.builtin "dict.get") [.ref a,u,r]) Q E s:=by
 rcases g with⟨kvs,k,e,ey,l⟩ | ⟨kvs,k,b,e,ey,eb,l⟩
 ·subst ey
  obtain⟨z,hd,vs,rel,dd⟩:=ZR I.hok e
  refine call_meetsIn PySem.F.slot_dict_get dd.typeIs PySem.F.entry_dict_get (PySem.F.args_dict_get_3 _ _ _) (meets_dict_get_default (yX X.prog X.w) a (jr ry) hd r) ⟨_,dd.mapOf,h _ _ (I.tok _) ?_⟩
  rw [l]
  exact (rel.val k).getD rd
 ·subst ey
  cases (show u=Value.ref b from ry)
  obtain⟨z,hd,xs,rel,dd⟩:=ZU I.hok e
  refine call_meetsIn PySem.F.slot_dict_get dd.typeIs PySem.F.entry_dict_get (PySem.F.args_dict_get_3 _ _ _) (meetsH_dict_get_default (tupleKind (yX X.prog X.w)) a b hd r) ⟨tupleKind_room_in1 hu,k,xs,ZT I.hok eb,dd,h _ _ (I.tok _) ?_⟩
  rw [l]
  exact (rel.val k).getD rd
end
def JL (td ty tx:TE):TE:=fun σ H Q=>td σ H fun x H1=>∃ a,x=.ref a/\IsD H1 a/\ty σ H1 fun y H2=>tx σ H2 fun z H3=>∃ o,uG H3 a y o/\Q (o.getD z) H3
section
variable {X:Cx}{o e f:Expr}{apos cpos:Pos}{td ty tx:TE}
theorem K8 (hu:X.A.units+1 < cLine) (ho:PE X o td) (he:PE X e ty) (hf:PE X f tx) (m:M2 X o "get" apos e f cpos):PE X (.Call (.Attribute o "get" apos) [e,f] [] cpos) (JL td ty tx):=by
  intro pins s σ H Q I h
  refine wpAny_Call_method m.base m.few m.line PySem.F.plainAttrs_dict PySem.F.slot_dict_get PySem.F.type_dict_get (thn (ho pins s σ H _ I h) fun u s1 ⟨x,H1,I1,rx,a,ex,d,q1⟩=>?_)
  subst ex
  obtain rfl:u=Value.ref a:=rx
  obtain⟨t1,t2,_⟩:=zej I1 d
  refine⟨t1,t2,?_⟩
  rw [m.trees]
  refine Calls.callWith_builtin rfl (Calls.evalArgs_plain (Calls.spliced_cons (thn (he pins s1 σ H1 _ I1 q1) fun iv s2 ⟨y,H2,I2,ry,q2⟩=>
    Calls.spliced_cons (thn (hf pins s2 σ H2 _ I2 q2) fun fv s3 ⟨z,H3,I3,rz,ov,g,q3⟩=>Calls.spliced_nil ?_))))
  exact zek hu I3 g ry rz fun w' s4 I4 rw'=>⟨_,H3,I4,rw',q3⟩
end
section
variable {X:Cx}{pins:List (Addr×Obj)}{σ:St}{H:Hp}{s:Shared}{a:Addr}{kvs:List (Key×V)}{A:Around}{E:Value->Shared->Prop}
end
section
variable {X:Cx}{pins:List (Addr×Obj)}{σ:St}{H:Hp}{s:Shared}{a:Addr}{y:V}{u:Value}{A:Around}{E:Value->Shared->Prop}
end
end L2
namespace PySem
theorem Y3:typeLookup (.type "list") "keys" =pure none:=by rw [typeLookup_type,builtinLookup_eq_fast];kernel_rfl
theorem vg:entryFor table "dict.update.loop" =some Builtin.«dict.update.loop»:=entryFor_of_tree (by kernel_rfl)
theorem xu:plainId "dict.update.loop" =true:=by decide +kernel
section
variable {prog:Program}{w:World}{A:Around}{E:Value->Shared->Prop}{s:Shared}
theorem VY {a:Addr}{o:Obj}{xs:Array Value}{k:Nat}{Q:Option Value->Shared->Prop}
  (hx:s.heap.get? a=some o) (hc:o.cls=.type "list") (hdat:o.data=.seq xs k) (hd:o.dict=none) (hA:A.handled=none)
  (h:∀ h' tk,(∀ b u,s.heap.get? b=some u->h'.get? b=some u)->Q none { s with heap:=h',toks:=tk }) :
  wpAny (model prog w) A (getAttr? (.ref a) "keys") Q E s:=by
 obtain⟨c,dct,dat,sl⟩:=o
 simp only at hc hdat hd
 subst hc hdat hd
 obtain⟨hp,g,d,tk,os⟩:=s
 have hT:∀ tk',(⟨hp,g,d,tk',os⟩:Shared).TypeIs (.ref a) "list":=fun _=>⟨_,hx,rfl⟩
 have f1:=sub_AttributeError
 have f3:=F.slot_list_getattribute.lookup
 have f4:=F.slot_list_getattribute.bind (.ref a)
 have f5:=am_list_getattr_none
 have hname:(["__module__","__name__","__qualname__","__doc__","__annotations__"]:List Str).contains "keys" =false:=by decide
 unfold getAttr? getAttrBy? getAttrBy
 repeat (any_goals (first |assumption |exact hT _ | ((with_reducible show wpAny _ _ (call (Value.builtin "list.__getattribute__") _ _) _ _ _);refine call_meets F.slot_list_getattribute (hT _) am_entry_list_getattribute (F.args_list_getattribute_2 _ _) (meets_getattribute_miss_list a xs k sl "keys" _ Y3 hname (by decide)) ⟨hx,hA,fun h' tk' e hx'=>?_⟩) |wp_step))
 obtain⟨t',u',he⟩:=hx'.there
 show wpAny _ _ (getattributeRaised _ _ _ _ _ _ _) _ _ _
 unfold getattributeRaised
 repeat (any_goals (first |assumption |wp_step))
 exact h _ _ hx'.keeps
end
section
variable {prog:Program}{w:World}{A:Around}{K:Type} [DecidableEq K] {knd:KeyKind prog w K}
theorem K9 (hh:A.handled=none) {d it l:Addr}{items:Array Value}{r:Value}{R:Result->Shared->Prop}(hdi:d≠it) (hdl:d≠l) (hil:it≠l) :
  ∀ (more:List (K×Value)) (i:Nat) (s:Shared) (kvs:List (K×Value)),i+more.length=items.size->s.heap.DictOf knd d kvs->s.heap.IsListIter it l i->s.heap.IsList l items->
   (∀ (j:Nat) kv,more[j]? =some kv->∃ t key,items[i+j]? =some (.ref t)/\t≠d/\t≠it/\PyProof.Rows.IsTup s.heap t #[key,kv.2]/\knd.is kv.1 key=true)->kvs.length+more.length≤sizeLine->
   (∀ h' tk,h'.DictOf knd d (merged kvs more)->(∀ c o,c≠d->c≠it->s.heap.get? c=some o->h'.get? c=some o)->R (.ok (.ret r)) { s with heap:=h',toks:=tk })->
   codeAny (model prog w) A (.builtin "dict.update.loop" ⟨[.ref d,.ref it,rawInt i,r],[]⟩) R s:=by
 intro more
 induction more with
 |nil=>
  intro i s kvs hi hd hit hl hp hz hR
  refine codeAny_builtin vg ?_
  rw [Around.under_plainId xu _]
  show wpAny _ A.in1 (pyNext (.ref it) >>= _) _ _ _
  refine wpAny_bind (wpAny_pyNext_list_end (A:=A.in1) hh hit hl (by simp at hi;simp;omega) fun h' eb=>?_)
  show wpAny _ _ (Builtin.Dict.addKeywords d [] >>= _) _ _ _
  exact wpAny_bind (wpAny_pure (wpAny_pure (hR h' s.toks (hd.extBut eb hdi) fun c o _ hc q=>eb c o hc q)))
 |cons kv more ih=>
  intro i s kvs hi hd hit hl hp hz hR
  obtain⟨t,key,hx,htd,hti,⟨o,ho,hc,n,hdat⟩,hk⟩:=hp 0 kv rfl
  refine codeAny_builtin vg ?_
  rw [Around.under_plainId xu _]
  show wpAny _ A.in1 (pyNext (.ref it) >>= _) _ _ _
  refine wpAny_bind (wpAny_pyNext_list_item hit hl (x:=.ref t) (by simpa using hx) fun h1 hit1 sb1=>?_)
  have ho1:h1.get? t=some o:=(sb1.2 t hti).trans ho
  show wpAny _ _ (holding [.ref t] _ >>= _) _ _ _
  refine wpAny_bind (wpAny_holding ?_)
  refine wpAny_bind (wpAny_tryCatch ?_)
  unfold Builtin.Dict.pairItems
  refine wpAny_bind (wpAny_typeOf (T:="tuple") ⟨o,ho1,hc⟩ ?_)
  rw [if_pos (by decide)]
  refine wpAny_bind (wpAny_seqItems ho1 hdat ?_)
  refine wpAny_pure ?_
  show wpAny _ _ (holding [key,kv.2] (dictSet d key kv.2)) _ _ _
  refine wpAny_holding (wpAny_dictSet_pairs hk (hd.sameBut sb1 hdi) (fun h2 hd2 sb2=>?_) (by simp at hz;omega))
  show wpAny _ _ (again (.builtin "dict.update.loop" ⟨[.ref d,.ref it,rawInt ((i:Int)+1),r],[]⟩)) _ _ _
  have ei:((i:Int)+1)=(((i+1:Nat)):Int):=by omega
  rw [ei]
  have keep:∀ c o,c≠d->c≠it->s.heap.get? c=some o->h2.get? c=some o:=fun c o h3 h4 q=>(sb2.2 c h3).trans ((sb1.2 c h4).trans q)
  refine wpAny_pure ⟨plainId_quiet xu _,ih (i+1) _ (stored kvs kv.1 kv.2) (by simp at hi;omega) hd2 ?_ ?_ (fun j kv' hj=>?_) ?_ fun h3 tk hd3 k3=>?_⟩
  ·obtain⟨oi,hoi,r1⟩:=hit1
   exact⟨oi,(sb2.2 it (Ne.symm hdi)).trans hoi,r1⟩
  ·obtain⟨ol,hol,r1⟩:=hl
   exact⟨ol,keep l ol (Ne.symm hdl) (Ne.symm hil) hol,r1⟩
  ·obtain⟨t',key',h1',h2',h3',⟨o',ho',r'⟩,h5'⟩:=hp (j+1) kv' (by simpa using hj)
   refine⟨t',key',?_,h2',h3',⟨o',keep t' o' h2' h3' ho',r'⟩,h5'⟩
   rw [<- h1']
   congr 1
   omega
  ·have:=stored_length_le kvs kv.1 kv.2
   simp at hz
   omega
  ·exact hR h3 tk hd3 fun c o h4 h5 q=>k3 c o h4 h5 (keep c o h4 h5 q)
theorem zaa {E:Value->Shared->Prop}{s:Shared}(hh:A.handled=none) {l:Addr}{o:Obj}{items:Array Value}{n:Nat}{Q:Value->Shared->Prop}(ho:s.heap.get? l=some o) (hc:o.cls=.type "list") (hdat:o.data=.seq items n) (hnd:o.dict=none) {more:List (K×Value)}(hlen:more.length=items.size)
  (hp:∀ (j:Nat) kv,more[j]? =some kv->∃ t key,items[j]? =some (.ref t)/\PyProof.Rows.IsTup s.heap t #[key,kv.2]/\knd.is kv.1 key=true) (hz:more.length≤sizeLine)
  (h:∀ h' tk,h'.DictOf knd s.heap.objs.size (merged [] more)->(∀ c o,s.heap.get? c=some o->h'.get? c=some o)->Q (.ref s.heap.objs.size) { s with heap:=h',toks:=tk }) :
  wpAny (model prog w) A (call (.type "dict") [.ref l]) Q E s:=by
 refine callType_codes (Q₁:=fun obj s₁=>obj=.ref s.heap.objs.size/\s₁= { s with heap:=s.heap.push { cls:=.type "dict",data:=.dict #[] } }) F.kt_called_dict (F.kt_typeCall_dict_1 _) F.entry_dict_init (kt_code_dict_new _ ⟨rfl,rfl⟩) ?_
 rintro obj s₁ ⟨rfl,rfl⟩
 have hnew:(s.heap.push { cls:=.type "dict",data:=.dict #[] }).DictOf knd s.heap.objs.size []:=Heap.DictOf.new s.heap
 refine⟨hnew.typeIs,F.args_dict_init_2 _ _,?_⟩
 have ho1:(s.heap.push { cls:=.type "dict",data:=.dict #[] }).get? l=some o:=Heap.get?_push_of_some _ ho
 refine wpAny_bind ?_
 unfold Builtin.Dict.selfAndRest
 refine wpAny_bind (wpAny_notOrdered_dict hnew.typeIs ?_)
 refine wpAny_pure ?_
 show wpAny _ _ (Builtin.Dict.updateFrom "dict.__init__" s.heap.objs.size (.ref l) [] .none) _ _ _
 unfold Builtin.Dict.updateFrom
 refine wpAny_bind (wpAny_typeOf (T:="list") ⟨o,ho1,hc⟩ ?_)
 rw [if_pos (by decide)]
 refine wpAny_bind (VY (A:=A.in1.in1) ho1 hc hdat hnd hh fun h1 tk k1=>?_)
 rw [if_pos (by rfl)]
 refine wpAny_bind (wpAny_rule ?_)
 have ho2:h1.get? l=some o:=k1 _ _ ho1
 refine wpAny_bind (wpAny_pyIter_list (items:=items) ⟨o,ho2,hc,n,hdat⟩ ?_)
 have hlt:s.heap.objs.size < h1.objs.size:=Heap.lt_size (k1 _ _ (Heap.get?_push_size s.heap (o:={ cls:=.type "dict",data:=.dict #[] }) rfl))
 have hl0:l < s.heap.objs.size:=Heap.lt_size ho
 obtain⟨od,es,ep,hod,rd⟩:=hnew
 have kk:∀ c u,s.heap.get? c=some u->(h1.push { cls:=.type "list_iterator",data:=.fields #[.ref l,.int 0 0] }).get? c=some u:=fun c u q=>Heap.get?_push_of_some _ (k1 _ _ (Heap.get?_push_of_some _ q))
 refine wpAny_pure ⟨plainId_quiet xu _,K9 (knd:=knd) (A:=A.in1) (d:=s.heap.objs.size) (it:=h1.objs.size) (l:=l) (items:=items) hh (Nat.ne_of_lt hlt) (Nat.ne_of_gt hl0) (Nat.ne_of_gt (Nat.lt_trans hl0 hlt)) more 0 _ [] (by rw [hlen];omega) ?_ ?_ ?_ (fun j kv hj=>?_) (by simpa using hz) fun h' tk' hd' k'=>⟨rfl,?_⟩⟩
 ·exact⟨od,es,ep,Heap.get?_push_of_some _ (k1 _ _ hod),rd⟩
 ·exact⟨_,Heap.get?_push_size _ rfl,rfl,rfl⟩
 ·exact⟨o,Heap.get?_push_of_some _ ho2,hc,n,hdat⟩
 ·obtain⟨t,key,e1,⟨ot,e2,r2⟩,e3⟩:=hp j kv hj
  have ht:t < s.heap.objs.size:=Heap.lt_size e2
  exact⟨t,key,by simpa using e1,Nat.ne_of_lt ht,Nat.ne_of_lt (Nat.lt_trans ht hlt),⟨ot,kk _ _ e2,r2⟩,e3⟩
 ·exact h h' tk' hd' fun c u q=>k' c u (Nat.ne_of_lt (Heap.lt_size q)) (Nat.ne_of_lt (Nat.lt_trans (Heap.lt_size q) hlt)) (kk c u q)
end
end PySem
namespace PySem
open PySem PySem.W PySem.Calls PyProof.Rows
section
variable {prog:Program}{w:World}{A:Around}{E:Value->Shared->Prop}{s:Shared}{T:String}{r d:Addr}{n:Nat}{P:Nat->Value->Prop}{OK:Heap->Prop}
theorem XO:∀ (vs:List Value) (ns:List Int),vs.length=ns.length->(∀ (j:Nat) v,vs[j]? =some v->∃ i t,v=Value.int i t/\ns[j]? =some i)->PyProof.Rows.IntsAre vs ns
 |[],[],_,_=>.nil
 |v :: vs,i :: ns,e,h=>by
  obtain⟨k,t,rfl,hk⟩:=h 0 v rfl
  cases hk
  exact .cons _ t (XO vs ns (by simpa using e) fun j v hj=>h (j+1) v (by simpa using hj))
theorem zcu (C:KdlSrc prog w T r d n P OK) (hh:A.handled=none) (hok:OK s.heap) (hn:n≤sizeLine) {ns:List Int}(hns:ns.length=n) (h64:n < 64) (hP:∀ (j:Nat) v,P j v->∃ i t,v=Value.int i t/\ns[j]? =some i) {Q:Value->Shared->Prop}
  (h:∀ (h1 h':Heap) (tk:Nat) (out:Array Value) (ns':List Int) (e:Nat),PyProof.Rows.IntsAre out.toList ns'->ns'.Perm ns->ns'.Pairwise (·≤·)->(∀ b o,s.heap.get? b=some o->h1.get? b=some o)->(∀ b o,h1.get? b=some o->h'.get? b=some o)->h'.get? h1.objs.size=some (seqObj "list" out e)->Q (.ref h1.objs.size) { s with heap:=h',toks:=tk }) :
  wpAny (model prog w) A (call (.builtin "sorted") [.ref r]) Q E s:=by
 refine call_function_entry kind_sorted plain_sorted entry_sorted (args_sorted1 _) ?_
 unfold Builtin.«sorted»
 refine wpAny_bind (m:=checkCount "sorted" 1 1 _) (wpAny_pure ?_)
 refine wpAny_bind (kdu_collect (A:=A.in1) C hh hok hn fun h1 tk acc hk hacc=>?_)
 have hl:acc.toList.length=n:=by rw [Array.length_toList];exact hacc.1
 refine wpAny_bind (wpAny_newList ?_ (by rw [hl];exact hn))
 have hoL:(h1.push (seqObj "list" acc.toList.toArray 0)).get? h1.objs.size=some (seqObj "list" acc.toList.toArray 0):=Heap.get?_push_size _ rfl
 have hI:PyProof.Rows.IntsAre acc.toList ns:=XO _ _ (by rw [hl,hns]) fun j v hj=>hP j v (hacc.2 j v (by rw [<- Array.getElem?_toList];exact hj))
 refine wpAny_bind (wpAny_holding (wpAny_call_entry slot_list_sort ⟨_,hoL,rfl⟩ entry_list_sort (list_sort_tree hoL hI (by rw [hl];exact h64) fun out ns' a1 a2 a3=>⟨_,rfl,?_⟩) (args_list_sort _)))
 obtain⟨e,he⟩:=sortedHeap_at (out:=out) hoL
 exact wpAny_pure ⟨_,rfl,h h1 _ tk out ns' e a1 a2 a3 hk (fun b o q=>by rw [sortedHeap_old (Nat.ne_of_lt (Heap.lt_size q)) (by rw [size_push'];exact Nat.lt_succ_of_lt (Heap.lt_size q))];exact Heap.get?_push_of_some _ q) he⟩
end
end PySem
namespace L2
open PySem PySem.Spec PyProof.Rows
theorem Inv.turnedL {X:Cx}{pins:List (Addr×Obj)}{σ:St}{H:Hp}{s:Shared}{h':Heap}{t':Nat}{fp:List Addr}(I:Inv X pins σ H s) (k:∀ b o,b ∉ fp->s.heap.get? b=some o->h'.get? b=some o)
  (hf:∀ b∈fp,FpOk X pins H b):Inv X pins σ H { s with heap:=h',toks:=t' }:=by
 have nit:∀ b u,H b=some u->b ∉ fp:=fun b u e z=>by rw [(hf b z).1] at e;cases e
 refine I.step (g':=s.gens) (d':=s.drawn) (ch:=fp) (fun b hb=>?_) (fun b o _ _ hc e _=>k b o hc e) (fun b o _ _ hc e _=>⟨o.slots,k b o hc e⟩) (fun _ _ _ _ n=>n)
  (fun b o hc e=>⟨o,k b o hc e⟩) (fun _ _ e=>e) (fun _ _ _ e=>e) (fun b ps e=>⟨#[],by rw [e];simp⟩) (fun m hm=>?_) (fun b u e=>?_) I.bare
 ·obtain⟨f0,f1,f2,f3,f4,f5⟩:=hf b hb
  exact⟨f3,f1,f4,f5⟩
 ·obtain⟨o,es,ep,ho,r⟩:=hm
  exact⟨o,es,ep,k _ o (fun z=>(hf _ z).2.1 rfl) ho,r⟩
 ·refine (I.hok b u e).stay (fun c v hc q=>k c v ?_ q) (fun _ q=>q) fun _ _ q=>q
  rcases hc with z |z
  ·rw [z];exact nit b u e
  ·exact nit c _ z
noncomputable def Ite (K:W.Frag) (a:Addr):It:=
 ⟨fun i H=>∃ xs x,SqL K H a xs/\xs[i]? =some x,fun i H x H'=>∃ t y,x=.ref t/\H t=none/\H'=upd H t (.tup [.int i,y])/\∀ xs,SqL K H a xs->xs[i]? =some y,fun i H=>∃ xs,SqL K H a xs/\xs.length≤i⟩
theorem JM {P:Program}{w:World}{K:W.Frag}{es:List Expr}{k:Nat}{pos:Pos}(a e it:Addr) (hne:e≠it) :
    Turn P w K (.Tuple es k pos) (Ite K a) [e,it] e (fun i h=>(∃ old,IsEnum h e it (i:Nat) old)/\h.IsListIter it a i) where
  mem:=by simp
  obj:=fun i h st b hb=>by
    obtain⟨⟨old,he⟩,o,e1,c,d⟩:=st
    have hb':b=e\/b=it:=by simpa using hb
    rcases hb' with rfl |rfl
    · exact⟨_,he,fun v z=>by
        have z':Data.fields _=Data.cell v:=z
        cases z'⟩
    · exact⟨o,e1,fun v z=>by rw [d] at z;cases z⟩
  keep:=fun i h h' st k=>⟨st.1.elim fun old he=>⟨old,k e (by simp) _ he⟩,st.2.at fun o q=>k it (by simp) o q⟩
  item:=by
    intro X hP hw hK hc i pins s σ H E I hf st hg
    subst hP hw hK
    obtain⟨⟨old,he⟩,hit⟩:=st
    obtain⟨xs,x,hq,hx⟩:=hg
    obtain⟨its,rv,p,hz⟩:=I.list hq
    obtain⟨u,hu,ru⟩:=rv.get hx
    refine wpAny_pyNext_enum_item he hit p.isList (x:=u) (by simpa using hu) hne fun h' he' hit' ht hsz kk=>?_
    refine⟨_,rfl,wpAny_letOwnedTupleGo_enum he' fun h2 he2 sb=>?_⟩
    have hn:=I.hok.fresh (Nat.le_refl s.heap.objs.size)
    have I1:Inv X pins σ (upd H s.heap.objs.size (.tup [.int i,x])) { s with heap:=s.heap.push { cls:=.type "tuple",data:=.seq [Value.int i s.toks,u].toArray },toks:=s.toks+1 }:=
      I.laid (fun b o e=>Heap.get?_push_of_some _ e) (Nat.le_refl _) ⟨by show 2≤sizeLine;decide,[Value.int i s.toks,u],.cons ⟨_,rfl⟩ (.cons ru .nil),IsTup.new s.heap _⟩
    have lt:∀ b∈[e,it],b≠s.heap.objs.size:=fun b hb=>by
      have hb':b=e\/b=it:=by simpa using hb
      rcases hb' with rfl |rfl
      · exact Nat.ne_of_lt (Heap.lt_size he)
      · obtain⟨o,e1,_⟩:=hit
        exact Nat.ne_of_lt (Heap.lt_size e1)
    have nt:∀ b∈[e,it],upd H s.heap.objs.size (.tup [.int i,x]) b=none:=fun b hb=>by rw [zk (lt b hb)];exact (hf b hb).1
    have I2:=I1.turnedL (h':=h2) (t':=s.toks+1) (fp:=[e,it]) (fun b o hb q=>by
      have h1:b≠e:=fun z=>hb (by simp [z])
      have h2':b≠it:=fun z=>hb (by simp [z])
      by_cases hbz:b=s.heap.objs.size
      · subst hbz
        have q':(s.heap.push { cls:=.type "tuple",data:=.seq #[Value.int i s.toks,u] }).get? s.heap.objs.size=some o:=q
        rw [Heap.get?_push_size s.heap (o:={ cls:=.type "tuple",data:=.seq #[Value.int i s.toks,u] }) rfl] at q'
        exact (sb.2 _ h1).trans (ht.trans q')
      · have q':(s.heap.push { cls:=.type "tuple",data:=.seq #[Value.int i s.toks,u] }).get? b=some o:=q
        rw [Heap.get?_push_ne _ _ _ hbz] at q'
        exact (sb.2 b h1).trans (kk b o h1 h2' q')) fun b hb=>⟨nt b hb,(hf b hb).2⟩
    have ei:((i:Int)+1)=(((i+1:Nat)):Int):=by omega
    refine⟨.ref s.heap.objs.size,_,I2,rfl,⟨_,x,rfl,hn,rfl,fun ys hy=>by rw [I.list_inj hy hq];exact hx⟩,⟨⟨_,ei ▸ he2⟩,hit'.at fun o q=>(sb.2 it (Ne.symm hne)).trans q⟩,nt⟩
  done:=by
    intro X hP hw hK hc i pins s σ H E I hf st hg
    subst hP hw hK
    obtain⟨⟨old,he⟩,hit⟩:=st
    obtain⟨xs,hq,hx⟩:=hg
    obtain⟨its,rv,p,hz⟩:=I.list hq
    have hl:=rv.length
    obtain⟨f0,f1,f2,f3,f4,f5⟩:=hf it (by simp)
    exact wpAny_pyNext_enum_end (I.ok.hd hc) he hit p.isList (by simp;omega) fun h' eb=>⟨rfl,I.turned (t':=s.toks) (fun b o hb e=>eb b o hb e) f0 f1 f3 f4 f5⟩
  self:=fun _ _ _ _ _ st h=>st.1.elim fun old he=>wpAny_pyIter_enum he h
def Qt (K:W.Frag) (ta:TA):TI:=fun σ H R=>ta σ H fun vs H1=>∃ a,vs=[.ref a]/\(∃ xs,SqL K H1 a xs)/\R (Ite K a) H1
section
variable {X:Cx}
theorem zcv {es:List Expr}{k:Nat}{tp:Pos}{l:Expr}{ta:TA}{p pos:Pos}(hg:Gl X "enumerate") (hm:X.mg "enumerate" =none) (ha:PA X [l] ta) (hs:starEach [l] X.env=[(false,eval l X.env)]:=by rfl) :
  PI X (.Tuple es k tp) (.Call (.Name "enumerate" p) [l] [] pos) (Qt X.K ta):=by
 intro pins s σ H R I h
 refine Call_ (vE I hg hm boot_enumerate (PyProof.Rows.callWith_type1 (thn (ha pos pins s σ H _ I h) fun us s1 ⟨vs,H1,I1,r1,q1⟩=>?_) hs rfl))
 obtain⟨a,e,⟨xs,hq⟩,q⟩:=q1
 subst e
 cases r1 with
 |cons r rr=>
  cases rr
  cases r
  obtain⟨its,rv,p,hz⟩:=I1.list hq
  refine call_enumerate_list p.isList fun h' hE hI hsz hk=>wpAny_pyIter_enum hE ?_
  refine⟨s1.heap.objs.size+1,[s1.heap.objs.size+1,s1.heap.objs.size],_,_,H1,rfl,I1.kept (t':=s1.toks) hk,JM a _ _ (Nat.succ_ne_self _),⟨⟨_,hE⟩,hI⟩,fun b hb=>?_,q⟩
  have hb':b=s1.heap.objs.size+1\/b=s1.heap.objs.size:=by simpa using hb
  rcases hb' with rfl |rfl
  ·exact I1.fpOk (Nat.le_succ _) (I1.hok.fresh (Nat.le_succ _))
  ·exact I1.fpOk (Nat.le_refl _) (I1.hok.fresh (Nat.le_refl _))
end
def zbw (K:W.Frag) (a:Addr) (g:TG) (tb:TS) (D:Ends) (σ:St) (H:Hp):Prop:=∃ W:Nat->Nat->St->Hp->Prop,(∃ m,W 0 m σ H)/\∀ i m σ H,W i m σ H->
 ((Ite K a).stop i H/\D.nx σ H)\/((Ite K a).go i H/\∃ N:St->Hp->Prop,(∀ σ' H',N σ' H'->∃ m',m' < m/\W (i+1) m' σ' H')/\∀ x H',(Ite K a).yld i H x H'->g x σ H' fun σ2 H2=>tb { D with nx:=N,ct:=N,bk:=D.nx } σ2 H2)
theorem zbw.run {K:W.Frag}{a:Addr}{xs:List V}{g:TG}{tb:TS}{D:Ends}{σ:St}{H:Hp}(Pv:Nat->St->Hp->Prop) (h0:Pv 0 σ H) (hl:∀ i σ H,i≤xs.length->Pv i σ H->SqL K H a xs)
  (hs:∀ i x σ H t,xs[i]? =some x->Pv i σ H->H t=none->∀ R:St->Hp->Prop,(∀ σ' H',Pv (i+1) σ' H'->R σ' H')->g (.ref t) σ (upd H t (.tup [.int i,x])) fun σ2 H2=>tb { D with nx:=R,ct:=R,bk:=D.nx } σ2 H2) (hd:∀ σ H,Pv xs.length σ H->D.nx σ H) :
  zbw K a g tb D σ H:=by
 refine⟨fun i m σ H=>m=xs.length - i/\i≤xs.length/\Pv i σ H,⟨xs.length,by simp,Nat.zero_le _,h0⟩,?_⟩
 rintro i m σ H ⟨rfl,hi,p⟩
 have q:=hl i σ H hi p
 by_cases hlt:i < xs.length
 ·refine .inr ⟨⟨xs,xs[i],q,by simp [hlt]⟩,Pv (i+1),fun σ' H' p'=>⟨xs.length - (i+1),by omega,rfl,hlt,p'⟩,?_⟩
  rintro _ _ ⟨t,y,rfl,ht,rfl,hy⟩
  exact hs i y σ H t (hy xs q) p ht _ fun _ _ z=>z
 ·have e:i=xs.length:=by omega
  subst e
  exact .inl ⟨⟨xs,q,Nat.le_refl _⟩,hd σ H p⟩
noncomputable def zel (lo c:Int) (n:Nat):It:=⟨fun i _=>i < n,fun i H x H'=>H'=H/\x=.int (lo+(i:Nat)*c),fun i _=>n≤i⟩
theorem VZ {P:Program}{w:World}{K:W.Frag}{tg:Expr}(it:Addr) (lo c:Int) (n:Nat):Turn P w K tg (zel lo c n) [it] it (fun i h=>IsRangeIter h it (lo+(i:Nat)*c) ((n:Int) - (i:Nat)) c) where
 mem:=by simp
 obj:=fun i h st b hb=>by
  have e:b=it:=by simpa using hb
  subst e
  exact⟨_,st,fun v z=>by
   have z':Data.fields _=Data.cell v:=z
   cases z'⟩
 keep:=fun i h h' st k=>k it (by simp) _ st
 item:=by
  intro X hP hw hK hc i pins s σ H E I hf st hg
  subst hP hw hK
  obtain⟨f0,f1,f2,f3,f4,f5⟩:=hf it (by simp)
  have W:=Walks.range (prog:=X.prog) (w:=X.w) (I.ok.hd hc) it lo c n
  refine W.item i s _ _ hg st fun v h' tk hv st' kk=>?_
  obtain⟨t,rfl⟩:=hv
  have I1:Inv X pins σ H { s with heap:=h',toks:=tk }:=I.turned (fun b o hb e=>kk b o (by simpa using hb) e) f0 f1 f3 f4 f5
  exact⟨_,rfl,Xi (s:={ s with heap:=h',toks:=tk }) (n:="range_iterator") st' rfl rfl (by decide) ⟨.int (lo+(i:Nat)*c),H,I1,⟨t,rfl⟩,⟨rfl,rfl⟩,st',fun b hb=>(hf b hb).1⟩⟩
 done:=by
  intro X hP hw hK hc i pins s σ H E I hf st hg
  subst hP hw hK
  obtain⟨f0,f1,f2,f3,f4,f5⟩:=hf it (by simp)
  exact wpAny_pyNext_range_end (I.ok.hd hc) st (by have:n≤i:=hg;omega) fun h' eb=>⟨rfl,I.turned (t':=s.toks) (fun b o hb e=>eb b o hb e) f0 f1 f3 f4 f5⟩
 self:=fun _ _ _ _ _ st h=>wpAny_pyIter_rangeiter st h
section
variable {X:Cx}{tg:Expr}
def R3 (i j c:Int) (n:Nat):Prop:=c≠0/\Builtin.Range.small i j c=true/\Builtin.Range.rangeSize i j c=n/\Builtin.divisionGoesByPylong (j - i) c=false
def zbx (ta:TA):TI:=fun σ H R=>ta σ H fun vs H1=>∃ (i j c:Int) (n:Nat),vs=[.int i,.int j,.int c]/\R3 i j c n/\R (zel i c n) H1
theorem JN {a b c:Expr}{ta:TA}{p pos:Pos}(hg:Gl X "range") (hm:X.mg "range" =none) (ha:PA X [a,b,c] ta) (hs:starEach [a,b,c] X.env=(false,eval a X.env) :: starEach [b,c] X.env:=by rfl)
  (hs2:(backTo pos (starEach [b,c] X.env)).any (·.1)=false:=by rfl):PI X tg (.Call (.Name "range" p) [a,b,c] [] pos) (zbx ta):=by
 intro pins s σ H R I h
 refine Call_ (vE I hg hm boot_range (PyProof.Rows.callWith_type1 (thn (ha pos pins s σ H _ I h) fun us s1 ⟨vs,H1,I1,r1,q1⟩=>?_) hs hs2))
 obtain⟨i,j,k,n,e,⟨k0,sm,sz,dv⟩,q⟩:=q1
 subst e
 cases r1 with
 |cons r rr=>
  cases rr with
  |cons r' rr=>
   cases rr with
   |cons r2 rr=>
    cases rr
    obtain⟨t,rfl⟩:=r
    obtain⟨t',rfl⟩:=r'
    obtain⟨t2,rfl⟩:=r2
    refine call_range_3 k0 ?_ (.inl dv)
    refine wpAny_pyIter_range (IsRange.new ..) sm ?_
    have I2:Inv X pins σ H1 { s1 with heap:=s1.heap.push { cls:=.type "range",data:=.fields #[.int i t,.int j t',.int k t2] } }:=I1.kept (t':=s1.toks) fun b o e=>Heap.get?_push_of_some _ e
    refine⟨_,[(s1.heap.push { cls:=.type "range",data:=.fields #[.int i t,.int j t',.int k t2] }).objs.size],_,_,H1,rfl,I2.kept (t':=s1.toks) fun b o e=>Heap.get?_push_of_some _ e,VZ _ i k n,?_,fun b hb=>?_,q⟩
    ·have e1:i+((0:Nat):Int)*k=i:=by simp
     have e2:((n:Nat):Int) - ((0:Nat):Int)=Builtin.Range.rangeSize i j k:=by rw [sz];simp
     show IsRangeIter _ _ (i+((0:Nat):Int)*k) (((n:Nat):Int) - ((0:Nat):Int)) k
     rw [e1,e2]
     exact Heap.get?_push_size _ rfl
    ·have e:b=(s1.heap.push { cls:=.type "range",data:=.fields #[.int i t,.int j t',.int k t2] }).objs.size:=by simpa using hb
     subst e
     exact I2.fpOk (Nat.le_refl _) (I2.hok.fresh (Nat.le_refl _))
end
section
variable {X:Cx}
def zby (K:W.Frag):List V->Hp->VK->Prop:=fun xs H Q=>∃ d x,xs=[x]/\Rep K H d x/\(isDisplay d && !d.hasDict)=true/\d.showable=true/\d.depth≤60/\d.shown.length≤sizeLine/\Q (.str d.shown) H
theorem Qu (hg:X.A.guards=some []) (hu:X.A.units+64 < cLine):xy X (.builtin "repr") (zby X.K):=by
 intro pins s σ H xs us Q I r h
 obtain⟨d,x,rfl,h1,h2,h3,h4,h5,q⟩:=h
 rw [Bool.and_eq_true] at h2
 obtain⟨h2,h0⟩:=h2
 obtain⟨u,rfl,ru⟩:=r.one
 obtain⟨as,rd⟩:=Rep.reads I d x u h1 ru
 obtain⟨a,rfl⟩:=isRef_of_reads rd h2
 exact repr_of_reads' rd h3 (fun z=>absurd z (by cases hz:d.hasDict <;> simp_all)) hg (by omega) (fun _ _ e=>e) (fun h' u tk hk=>⟨.str d.shown,H,I.kept (t':=tk) hk,⟨u,rfl⟩,q⟩) h5
noncomputable def srt (ns:List Int):List Int:=ns.mergeSort fun a b=>decide (a≤b)
theorem JO (ns:List Int):(srt ns).Pairwise (·≤·):=by
 have h:=List.pairwise_mergeSort (le:=fun a b:Int=>decide (a≤b)) (fun a b c h1 h2=>by simp at h1 h2 ⊢;omega) (fun a b=>by simp;omega) ns
 exact h.imp fun h=>by simpa using h
theorem XQ:∀ {a b:List Int},a.Perm b->a.Pairwise (·≤·)->b.Pairwise (·≤·)->a=b
 |[],b,h,_,_=>by
  have:=h.length_eq
  cases b with
  |nil=>rfl
  |cons=>cases this
 |x :: a,[],h,_,_=>by cases h.length_eq
 |x :: a,y :: b,h,ha,hb=>by
  have e:x=y:=by
   have h1:x∈y :: b:=h.mem_iff.mp (List.mem_cons_self ..)
   have h2:y∈x :: a:=h.mem_iff.mpr (List.mem_cons_self ..)
   have l1:x≤y:=by
    rcases List.mem_cons.mp h2 with z |z
    ·exact Int.le_of_eq z.symm
    ·exact (List.pairwise_cons.mp ha).1 y z
   have l2:y≤x:=by
    rcases List.mem_cons.mp h1 with z |z
    ·exact Int.le_of_eq z.symm
    ·exact (List.pairwise_cons.mp hb).1 x z
   omega
  subst e
  rw [XQ (List.Perm.cons_inv h) (List.pairwise_cons.mp ha).2 (List.pairwise_cons.mp hb).2]
theorem XR {ns ns':List Int}(h1:ns'.Perm ns) (h2:ns'.Pairwise (·≤·)):ns'=srt ns:=XQ (h1.trans (List.mergeSort_perm ns _).symm) h2 (JO ns)
theorem zab {a b:List Int}(h:a.Perm b):srt a=srt b:=XR ((List.mergeSort_perm a _).trans h) (JO a)
theorem UE (ns:List Int):(srt ns).length=ns.length:=(List.mergeSort_perm ns _).length_eq
theorem j8:∀ {ns:List Int}{us:List Value},Vals (ns.map V.int) us->IntsAre us ns
 |[],_,h=>by cases h;exact .nil
 |n :: ns,_,h=>by
  cases h with
  |cons h1 h2=>
   obtain⟨t,rfl⟩:=h1
   exact .cons n t (j8 h2)
def zbz (K:W.Frag):List V->Hp->VK->Prop:=fun xs H Q=>∃ a ns,xs=[.ref a]/\SqL K H a (ns.map V.int)/\ns.length < 64/\∀ p,H p=none->Q (.ref p) (upd H p (.lst ((srt ns).map V.int)))
theorem XS:xy X (.builtin "sorted") (zbz X.K):=by
 intro pins s σ H xs us Q I r h
 obtain⟨a,ns,rfl,hq,hl,q⟩:=h
 obtain⟨u,rfl,ru⟩:=r.one
 cases ru
 obtain⟨its,rv,p,hz⟩:=I.list hq
 have hI:=j8 rv
 have hlen:=rv.length
 rw [List.length_map] at hlen
 refine sorted_ints p.isList hI (by omega) fun out ns' a1 a2 a3=>?_
 obtain⟨e,he⟩:=sortedAll_at s.heap its out
 have en:=XR a2 a3
 subst en
 refine⟨.ref (s.heap.objs.size+1),_,I.laid (a:=s.heap.objs.size+1) (o:=.lst ((srt ns).map V.int)) (t':=s.toks) (fun b o e=>sortedAll_old e) (Nat.le_succ _) ⟨?_,out.toList,e,qt a1,?_⟩,rfl,q _ (I.hok.fresh (Nat.le_succ _))⟩
 ·rw [List.length_map,UE,sizeLine_eq];omega
 ·rw [Array.toArray_toList];exact he
def Qv:List V->Hp->VK->Prop:=fun xs H Q=>∃ a kvs ns,xs=[.ref a]/\H a=some (.dK kvs)/\kvs.map (·.1)=ns.map (Sum.inl:Int->Key)/\ns.length < 64/\∀ p,H p=none->Q (.ref p) (upd H p (.lst ((srt ns).map V.int)))
theorem XT (hc:X.calm=true):xy X (.builtin "sorted") Qv:=by
 intro pins s σ H xs us Q I r h
 obtain⟨a,kvs,ns,rfl,e,hk,hl,q⟩:=h
 obtain⟨u,rfl,ru⟩:=r.one
 cases ru
 obtain⟨z,hd,vs,rel,dd⟩:=ZS I.hok e
 obtain⟨ep,hat⟩:=dd.dictAt
 have kk:=rel.keys
 rw [hk] at kk
 have hlen:ns.length=vs.length:=by have:=congrArg List.length kk;simpa using this
 refine zcu (PySem.W.kdl_dict (knd:=yX X.prog X.w) (kvs:=vs) (ep:=ep) hd) (I.ok.hd hc) hat (by rw [sizeLine_eq];omega) (ns:=ns) hlen (by omega) (fun j v hv=>?_) fun h1 h' tk out ns' e' a1 a2 a3 k1 k2 hp=>?_
 ·obtain⟨k,x,hx,hkv⟩:=hv
  have h2:(vs.map (·.1))[j]? =some k:=by rw [List.getElem?_map,hx];rfl
  rw [<- kk,List.getElem?_map] at h2
  cases hn:ns[j]? with
  |none=>rw [hn] at h2;cases h2
  |some i=>
   rw [hn] at h2
   have h3:(Sum.inl i:Key)=k:=Option.some.inj h2
   subst h3
   rcases xx (k:=Sum.inl i) (show jm (Sum.inl i) v=true from hkv) with⟨i',t,e1,e2⟩ | ⟨x',t,e1,e2⟩
   ·cases e1
    exact⟨i,t,e2,rfl⟩
   ·cases e1
 ·have en:=XR a2 a3
  subst en
  have I1:Inv X pins σ H { s with heap:=h1 }:=I.kept (t':=s.toks) k1
  refine⟨.ref h1.objs.size,_,I1.laid (a:=h1.objs.size) (o:=.lst ((srt ns).map V.int)) (t':=tk) k2 (Nat.le_refl _) ⟨?_,out.toList,e',qt a1,?_⟩,rfl,q _ (I1.hok.fresh (Nat.le_refl _))⟩
  ·rw [List.length_map,UE,sizeLine_eq];omega
  ·rw [Array.toArray_toList];exact hp
def vn (K:W.Frag) (H:Hp):List V->List (Key×V)->Prop:=Paired fun y kv=>∃ t,y=.ref t/\SqT K H t [kV kv.1,kv.2]
theorem vn.get {K:W.Frag}{H:Hp}:∀ {ys:List V}{kvs:List (Key×V)}{j:Nat}{kv:Key×V},vn K H ys kvs->kvs[j]? =some kv->∃ t,ys[j]? =some (.ref t)/\SqT K H t [kV kv.1,kv.2]
 |_,_,_,_,.nil,e=>by simp at e
 |_,_,0,_,.cons r _,e=>by
  simp at e
  subst e
  obtain⟨t,rfl,h⟩:=r
  exact⟨t,rfl,h⟩
 |_,_,j+1,kv,.cons _ q,e=>by
  obtain⟨t,h1,h2⟩:=vn.get (j:=j) (kv:=kv) q (by simpa using e)
  exact⟨t,by simpa using h1,h2⟩
theorem vn.snoc {K:W.Frag}{H:Hp}{y:V}{kv:Key×V}(hy:∃ t,y=.ref t/\SqT K H t [kV kv.1,kv.2]):∀ {ys:List V}{kvs:List (Key×V)},vn K H ys kvs->vn K H (ys ++ [y]) (kvs ++ [kv])
 |_,_,.nil=>.cons hy .nil
 |_,_,.cons r q=>.cons r (vn.snoc hy q)
theorem vn.keep {K:W.Frag}{H H':Hp}{ys:List V}{kvs:List (Key×V)}(h:vn K H ys kvs) (k:∀ b xs,SqT K H b xs->SqT K H' b xs):vn K H' ys kvs:=
 Paired.imp' (fun y kv ⟨t,e,q⟩=>⟨t,e,k t _ q⟩) h
def JP (K:W.Frag):List V->Hp->VK->Prop:=fun xs H Q=>∃ a ys kvs,xs=[.ref a]/\SqL K H a ys/\vn K H ys kvs/\kvs.length≤1000/\∀ p,H p=none->Q (.ref p) (upd H p (.dK (xI [] kvs)))
theorem Qw (hc:X.calm=true):xy X (.type "dict") (JP X.K):=by
 intro pins s σ H xs us Q I r h
 obtain⟨a,ys,kvs,rfl,hq,hp,hl,q⟩:=h
 obtain⟨u,rfl,ru⟩:=r.one
 cases ru
 obtain⟨its,rv,⟨o,n,e,c,hnd,dt⟩,hz⟩:=I.list hq
 have l1:=Paired.length hp
 have l2:=rv.length
 have hval:∃ ws:List (Key×Value),KV kvs ws/\∀ (j:Nat) kv,ws[j]? =some kv->∃ t key,its[j]? =some (.ref t)/\IsTup s.heap t #[key,kv.2]/\(yX X.prog X.w).is kv.1 key=true:=by
  clear q dt e hz l1 l2 hq
  induction hp generalizing its with
  |nil=>exact⟨[],.nil,fun j kv hj=>by simp at hj⟩
  | @cons y kv ys kvs hy t ih=>
   cases rv with
   | @cons _ w1 _ ws1 r1 r2=>
    obtain⟨ws,k1,k2⟩:=ih (by simp at hl;omega) _ r2
    obtain⟨b,rfl,hb⟩:=hy
    cases r1
    obtain⟨tt,rt,pt,_⟩:=I.tuple hb
    cases rt with
    | @cons _ key _ t1 rk t1r=>
     cases t1r with
     | @cons _ v _ t2 rv' t2r=>
      cases t2r
      refine⟨(kv.1,v) :: ws,.cons ⟨rfl,rv'⟩ k1,fun j kv' hj=>?_⟩
      cases j with
      |zero=>
       cases hj
       obtain⟨ot,e1,e2,_,e3⟩:=pt
       exact⟨b,key,rfl,⟨ot,e1,e2,_,e3⟩,jr rk⟩
      |succ j=>
       obtain⟨t',key',g1,g2,g3⟩:=k2 j kv' (by simpa using hj)
       exact⟨t',key',by simpa using g1,g2,g3⟩
 obtain⟨ws,k1,k2⟩:=hval
 have l3:=k1.length
 refine zaa (knd:=yX X.prog X.w) (I.ok.hd hc) e c dt hnd (more:=ws) (by simp;omega) (fun j kv hj=>?_) (by rw [sizeLine_eq];omega) fun h' tk dd kk=>?_
 ·obtain⟨t,key,g1,g2,g3⟩:=k2 j kv hj
  exact⟨t,key,by simpa using g1,g2,g3⟩
 ·refine⟨.ref s.heap.objs.size,_,I.laid (a:=s.heap.objs.size) (o:=.dK (xI [] kvs)) (t':=tk) kk (Nat.le_refl _) ?_,rfl,q _ (I.hok.fresh (Nat.le_refl _))⟩
  have hz2:(xI [] kvs).length≤sizeLine:=by
   have h1:=x9 kvs []
   rw [List.length_nil] at h1
   rw [sizeLine_eq];omega
  exact j7 hz2 (beq_eq_false_iff_ne.mpr (Ne.symm (Nat.ne_of_lt I.big))) (KV.merge k1 .nil) dd
def UF:V->List V->Hp->VK->Prop:=fun x vs H Q=>∃ a b kvs more,x=.ref a/\vs=[.ref b]/\H a=some (.dK kvs)/\H b=some (.dK more)/\a≠b/\kvs.length+more.length≤1000/\Q .non (upd H a (.dK (xI kvs more)))
theorem uc:MtR X "dict.update" UF:=by
 intro pins s σ H x xs v us Q I rx r h
 obtain⟨a,b,kvs,more,rfl,rfl,e1,e2,hab,hl,q⟩:=h
 obtain⟨u,rfl,ru⟩:=r.one
 cases ru
 cases rx
 obtain⟨z1,hd1,vs,rel1,dd1⟩:=ZS I.hok e1
 obtain⟨z2,hd2,ws,rel2,dd2⟩:=ZS I.hok e2
 have l1:=rel1.length
 have l2:=rel2.length
 have l3:=x9 more kvs
 refine call_meetsIn PySem.F.slot_dict_update dd1.typeIs PySem.F.entry_dict_update (PySem.F.args_dict_update_2 _ _) (meets_dict_update (yX X.prog X.w) a b hab hd2)
  ⟨vs,ws,dd1,dd2,(by rw [sizeLine_eq];omega),fun h' dd' _ hs=>⟨.non,_,?_,rfl,q⟩⟩
 have he:∃ q,h'.get? a=some q:=let ⟨q,_,_,hq,_⟩:=dd';⟨q,hq⟩
 exact kO I (by rw [e1];exact True.intro) hs he (j7 (by rw [sizeLine_eq];omega) hd1 (KV.merge rel2 rel1) dd')
end
section
variable {X:Cx}{pos:Pos}
def zbA (i j k:Nat) (ta:TA):TS:=fun D σ H=>ta σ H fun vs H1=>∃ u v w,vs=[u,v,w]/\D.nx (((σ.set k (some w)).set j (some v)).set i (some u)) H1
theorem UG {i j k:Nat}{x y z:Str}{a b c:Expr}{ta:TA}{px py pz pt:Pos}{kt k2 pt2} (hc:X.calm=true) (hN:X.N.Nodup) (hi:X.N[i]? =some x) (hj:X.N[j]? =some y) (hk:X.N[k]? =some z)
  (hx:X.env.scope.names.lookup x=some .local) (hy:X.env.scope.names.lookup y=some .local) (hz:X.env.scope.names.lookup z=some .local) (ha:PA X [a,b,c] ta)
  (hw:swappedStores [.Tuple [.Name x px,.Name y py,.Name z pz] kt pt] (.Tuple [a,b,c] k2 pt2) X.env=pure (some [x,y,z]))
  (hs:swapsWithSole [.Tuple [.Name x px,.Name y py,.Name z pz] kt pt] (.Tuple [a,b,c] k2 pt2) pos.line X.env=pure false:=by rfl) :
  PS X (.Assign [.Tuple [.Name x px,.Name y py,.Name z pz] kt pt] (.Tuple [a,b,c] k2 pt2) pos) (zbA i j k ta):=by
 intro pins s σ H D I h
 rw [exec_Assign_arm]
 refine wpAny_bind (wpAny_standAt ?_)
 rw [hs]
 refine wpAny_bind (wpAny_pure ?_)
 rw [if_neg (by decide)]
 refine wpAny_bind (Tuple_ (thn (ha _ pins s σ H _ I h) fun us s1 ⟨vs,H1,I1,r1,q1⟩=>?_))
 obtain⟨u,v,w,e1,q1⟩:=q1
 subst e1
 obtain⟨u1,u2,u3,rfl,ru,rv,rw'⟩:∃ u1 u2 u3,us=[u1,u2,u3]/\RelV u u1/\RelV v u2/\RelV w u3:=by
  cases r1 with
  |cons p q=>
   cases q with
   |cons p' q'=>
    cases q' with
    |cons p2 q2=>
     cases q2
     exact⟨_,_,_,rfl,p,p',p2⟩
 refine wpAny_newObj_type ?_ (by show 3≤sizeLine;decide)
 have I2:Inv X pins σ H1 { s1 with heap:=s1.heap.push { cls:=.type "tuple",data:=.seq [u1,u2,u3].toArray } }:=I1.kept (t':=s1.toks) fun b o e=>Heap.get?_push_of_some _ e
 rw [hw]
 refine wpAny_bind (wpAny_pure ?_)
 show wpAny (model X.prog X.w) X.A (do rule "assign.swapped-stores";let items <- unpackItems (.ref s1.heap.objs.size) 3 none;assignInOrder [fun v=>bindName X.env z v,fun v=>bindName X.env y v,fun v=>bindName X.env x v] items.reverse;pure Flow.next) _ _ _
 refine wpAny_bind (wpAny_rule (wpAny_bind (unpackItems_tuple (items:=#[u1,u2,u3]) (I.ok.hd hc) (IsTup.new s1.heap _) fun h' hx'=>?_)))
 have I3:=I2.kept (h':=h') (t':=s1.toks) fun b o e=>hx' b o (Nat.ne_of_lt (Heap.lt_size e)) e
 show wpAny _ _ (assignInOrder [fun v=>bindName X.env z v,fun v=>bindName X.env y v,fun v=>bindName X.env x v] [u3,u2,u1] >>= fun _=>pure Flow.next) _ _ _
 refine wpAny_bind (assignInOrder_cons (wpAny_bindName (vp I3 hN hk (.inl hz) rw' (fun s2 I4=>?_) (.inr hz))))
 refine assignInOrder_cons (wpAny_bindName (vp I4 hN hj (.inl hy) rv (fun s3 I5=>?_) (.inr hy)))
 refine assignInOrder_cons (wpAny_bindName (vp I5 hN hi (.inl hx) ru (fun s4 I6=>assignInOrder_nil (wpAny_pure ?_)) (.inr hx)))
 exact⟨_,H1,I6,q1⟩
end
structure CalM (P:Program) (w:World) (K:W.Frag) (mg:Str->Option Value) (base:Heap) (k:Nat) (x:Str) (C:Addr) (sp:Sp):Prop where
 ex:∃ (f:Addr) (fd:FuncData) (ps:List Str),Mk K C f/\FnOk P w K mg base CX0 k f fd ps sp/\mg x=some (.ref C)/\Binds K fd ps []
section
variable {X:Cx}{k:Nat}{sp:Sp}{C:Addr}{x:Str}{p pos:Pos}{e:Expr}{es:List Expr}{t:TA}
theorem JQ (c:CalM X.prog X.w X.K X.mg X.base k x C sp) (hr:Room (k+1) X.A) (hg:Gl X x) (ha:PA X (e :: es) t) (hdb:(x == ("__debug__":Str))=false:=by decide)
  (he:starEach (e :: es) X.env=(false,eval e X.env) :: starEach es X.env:=by rfl) (hpl:(backTo pos (starEach es X.env)).any (·.1)=false:=by rfl):PE X (.Call (.Name x p) (e :: es) [] pos) (Qm C sp [] E0 t):=by
 obtain⟨f,fd,ps,M,F,hm,hb⟩:=c.ex
 exact zcj M F hr hg hm hb .nil Qs ha hdb he hpl
end
noncomputable def Itf (f:Nat->Int) (n:Nat):It:=⟨fun i _=>i < n,fun i H x H'=>H'=H/\x=.int (f i),fun i _=>n≤i⟩
def LcF (n0:Nat) (f:Nat->Int) (g:TG) (tt:TT) (te:TE) (σ0:St) (H1:Hp) (Q:VK):Prop:=∀ D,H1 D=none->∃ W:Nat->Nat->St->Hp->Prop,(∃ m,W 0 m σ0 (upd H1 D (.lst [])))/\∀ i m σ' H',W i m σ' H'->
  ((Itf f n0).stop i H'/\Q (.ref D) H')\/((Itf f n0).go i H'/\∃ Nx:St->Hp->Prop,(∀ σ2 H2,Nx σ2 H2->∃ m',m' < m/\W (i+1) m' σ2 H2)/\
    ∀ x H2,(Itf f n0).yld i H' x H2->g x σ' H2 fun σ3 H3=>tt σ3 H3 fun ok H4=>if ok=true then te σ3 H4 fun y H5=>∃ ys,H5 D=some (.lst ys)/\ys.length < sizeLine/\Nx σ3 (upd H5 D (.lst (ys ++ [y]))) else Nx σ3 H4)
theorem LcF.by {n0:Nat}{f:Nat->Int}{g:TG}{tt:TT}{te:TE}{σ0:St}{H1:Hp}{Q:VK}(Pv:Addr->Nat->St->Hp->Prop) (h0:∀ D,H1 D=none->Pv D 0 σ0 (upd H1 D (.lst [])))
  (hs:∀ D i σ H,H1 D=none->i < n0->Pv D i σ H->g (.int (f i)) σ H fun σ3 H3=>tt σ3 H3 fun ok H4=>if ok=true then te σ3 H4 fun y H5=>∃ ys,H5 D=some (.lst ys)/\ys.length < sizeLine/\Pv D (i+1) σ3 (upd H5 D (.lst (ys ++ [y]))) else Pv D (i+1) σ3 H4)
  (hd:∀ D σ H,H1 D=none->Pv D n0 σ H->Q (.ref D) H):LcF n0 f g tt te σ0 H1 Q:=by
 intro D hD
 refine⟨fun i m σ H=>m=n0 - i/\i≤n0/\Pv D i σ H,⟨n0,by simp,Nat.zero_le _,h0 D hD⟩,?_⟩
 rintro i m σ H ⟨rfl,hi,p⟩
 by_cases hlt:i < n0
 ·refine .inr ⟨hlt,Pv D (i+1),fun σ' H' p'=>⟨n0 - (i+1),by omega,rfl,hlt,p'⟩,fun x H' y=>?_⟩
  obtain⟨e,y⟩:=y
  subst e y
  exact hs D i σ _ hD hlt p
 ·have e:i=n0:=by omega
  subst e
  exact .inl ⟨Nat.le_refl _,hd D σ H hD p⟩
theorem kP {X:Cx}{x:Str}{i:Int}{pos:Pos}(hg:Gl X x) (h:∃ t,X.mg x=some (.int i t)) (hd:(x == ("__debug__":Str))=false:=by decide):PE X (.Name x pos) (tC (.int i)):=by
 obtain⟨t,e⟩:=h
 exact Yn hg e ⟨t,rfl⟩ hd
def zbB (K:W.Frag) (a:Addr) (g:TG) (tb:TS) (D:Ends) (σ:St) (H:Hp):Prop:=∃ W:Nat->Nat->St->Hp->Prop,(∃ m,W 0 m σ H)/\∀ i m σ H,W i m σ H->
 ((Itt K a).stop i H/\D.nx σ H)\/((Itt K a).go i H/\∃ N:St->Hp->Prop,(∀ σ' H',N σ' H'->∃ m',m' < m/\W (i+1) m' σ' H')/\∀ x H',(Itt K a).yld i H x H'->g x σ H' fun σ2 H2=>tb { D with nx:=N,ct:=N,bk:=D.nx } σ2 H2)
theorem zbB.run {K:W.Frag}{a:Addr}{xs:List V}{g:TG}{tb:TS}{D:Ends}{σ:St}{H:Hp}(Pv:Nat->St->Hp->Prop) (h0:Pv 0 σ H) (hl:∀ i σ H,i≤xs.length->Pv i σ H->SqT K H a xs)
  (hs:∀ i x σ H,xs[i]? =some x->Pv i σ H->∀ R:St->Hp->Prop,(∀ σ' H',Pv (i+1) σ' H'->R σ' H')->g x σ H fun σ2 H2=>tb { D with nx:=R,ct:=R,bk:=D.nx } σ2 H2) (hd:∀ σ H,Pv xs.length σ H->D.nx σ H):zbB K a g tb D σ H:=
 zcd Pv h0 hl (fun i x σ H hi p=>hs i x σ H hi p _ fun _ _ z=>z) hd
noncomputable def cE:Expr->Option V
 |.Constant (.int i) _ _=>some (.int i)
 |.Constant .none _ _=>some .non
 |.Constant (.bool b) _ _=>some (.bl b)
 |.Constant (.str x) _ _=>some (.str x)
 |_=>none
noncomputable def Qx:List Expr->Option (List V)
 |[]=>some []
 |e :: es=>match cE e,Qx es with
  |some v,some vs=>some (v :: vs)
  |_,_=>none
def tCs (vs:List V):TA:=fun _ H Q=>Q vs H
theorem zfy {X:Cx}{e:Expr}{v:V}(h:cE e=some v):PE X e (tC v):=by
 unfold cE at h
 split at h
 ·cases h;exact za
 ·cases h;exact xo
 ·cases h;exact xa
 ·cases h;exact zg
 ·cases h
theorem zcw {e:Expr}{v:V}(h:cE e=some v):XM e=true:=by
 unfold cE at h
 split at h <;> first |rfl |cases h
theorem JR {X:Cx}:∀ {es:List Expr}{vs:List V},Qx es=some vs->QA X es (tCs vs)
 |[],vs,h=>by
  cases h
  exact qn
 |e :: es,vs,h=>by
  simp only [Qx] at h
  split at h
  ·rename_i v ws h1 h2
   cases h
   exact qc (zfy h1) (JR h2) (zcw h1)
  ·cases h
theorem UH {X:Cx}{es:List Expr}{vs:List V}{pos:Pos}(h:Qx es=some vs):PE X (.List es pos) (Zj (tCs vs)):=xn (JR h)
end L2
namespace L2
open PySem PySem.W PySem.Calls PyProof.Rows
section
variable {X:Cx}
end
end L2
namespace PySem
open PySem PySem.W PySem.Calls PyProof.Rows
section
variable {prog:Program}{w:World}{A:Around}{R:Result->Shared->Prop}{I S:Addr}{fp wr:List Addr}{n:Nat}{P:Nat->Value->Prop}{St:Nat->Heap->Prop}
end
end PySem
namespace L2
open PySem PySem.W PySem.Calls PyProof.Rows
section
variable {X:Cx}{x:Str}{p pos:Pos}{e:Expr}{es:List Expr}{kws:List Keyword}{ks:List Str}{t tk:TA}{id:String}{r:List V->List V->Hp->VK->Prop}
end
end L2
namespace L2
open PySem PySem.Spec PyProof.Rows
structure CalT (P:Program) (w:World) (K:W.Frag) (mg:Str->Option Value) (base:Heap) (k:Nat) (m:Str) (C:Addr) (sp:Sp):Prop where
 ex:∃ (f:Addr) (fd:FuncData) (ps:List Str),Cls K C/\Meth K C m f/\FnOk P w K mg base CX0 k f fd ps sp/\Binds K fd ps []
section
variable {X:Cx}{k:Nat}{sp:Sp}{C:Addr}{m:Str}{apos pos:Pos}{o e:Expr}{es:List Expr}{ta:TE}{t:TA}
theorem UI {pl:Sem Bool}(c:CalT X.prog X.w X.K X.mg X.base k m C sp) (hr:Room k X.A) (he:PE X o ta)
    (ht:eval (.Call (.Attribute o m apos) [] [] pos) X.env=(do
      let ov <- eval o X.env
      standAt apos.atName
      let (f,first) <- holding [ov] (getMethod ov m pl)
      callWith pos f first (backTo pos (starEach [] X.env)) (backToKw pos (keywordEach [] X.env))):=by rfl):PE X (.Call (.Attribute o m apos) [] [] pos) (Ql C m sp [] E0 ta Yq):=by
  obtain⟨f,fd,ps,c,M,F,hb⟩:=c.ex
  exact KR (pl:=pl) he c M F hr hb .nil Qs ht
end
structure SV where
 wide:Int
 high:Int
 row:Int
 col:Int
 late:Bool
 ink:Int
 wrap:Bool
 putting:Bool
 home:Bool
 top:Int
 bottom:Int
 left:Int
 right:Int
 last:V
section
variable {p st kp:Addr}{S:SV}
end
structure Sta (K:W.Frag) (C:Addr):Prop where
 cl:Cls K C
 n_picture:NoAttr K C "picture"
 n_wide:NoAttr K C "wide"
 n_high:NoAttr K C "high"
 n_row:NoAttr K C "row"
 n_column:NoAttr K C "column"
 n_late:NoAttr K C "late"
 n_ink:NoAttr K C "ink"
 n_wrap:NoAttr K C "wrap"
 n_putting:NoAttr K C "putting"
 n_home:NoAttr K C "home"
 n_top:NoAttr K C "top"
 n_bottom:NoAttr K C "bottom"
 n_left:NoAttr K C "left"
 n_right:NoAttr K C "right"
 n_stops:NoAttr K C "stops"
 n_kept:NoAttr K C "kept"
 n_last:NoAttr K C "last"
section
variable {sl:Addr}{S:SV}
end
def JS (td ty:TE):TE:=fun σ H Q=>td σ H fun x H1=>ty σ H1 fun y H2=>∃ a kvs k v,x=.ref a/\H2 a=some (.dK kvs)/\y=kV k/\vf kvs k=some v/\Q v H2
def JT (td ty tv:TE):TS:=fun D σ H=>tv σ H fun v H1=>td σ H1 fun x H2=>ty σ H2 fun y H3=>∃ a kvs k,x=.ref a/\H3 a=some (.dK kvs)/\y=kV k/\kvs.length < 1000/\D.nx σ (upd H3 a (.dK (x5 kvs k v)))
section
variable {X:Cx}{o i value:Expr}{td ty tv:TE}{pos pos':Pos}
theorem PE.cl {e:Expr}{t:TE}(h:PE X e t):PE X e (fun σ H Q=>∃ Q':VK,t σ H Q'/\∀ x H1,Q' x H1->Q x H1):=fun pins s σ H Q I ⟨Q',q,w⟩=>
 thn (h pins s σ H Q' I q) fun v s1 ⟨x,H1,I1,r1,q1⟩=>⟨x,H1,I1,r1,w x H1 q1⟩
theorem zl (hu:X.A.units+1 < cLine) (ho:PE X o td) (hi:PE X i ty) (hs:K6 i):PE X (.Subscript o i pos) (JS td ty):=fun pins s σ H Q I h=>
 (zcs hu ho.cl hi.cl hs) pins s σ H Q I ⟨_,h,fun x H1 h1=>⟨_,h1,fun y H2 ⟨a,kvs,k,v,e1,e2,e3,e4,q⟩=>⟨a,v,e1,by rw [e3,<- e4];exact uG.k e2,q⟩⟩⟩
theorem yU (hu:X.A.units+1 < cLine) (ho:PE X o td) (hi:PE X i ty) (hv:PE X value tv) (hs:swapsWith value (some (.Subscript o i pos')) pos.line X.env=pure false) :
  PS X (.Assign [.Subscript o i pos'] value pos) (JT td ty tv):=fun pins s σ H D I h=>
 (zct hu ho.cl hi.cl hv.cl hs) pins s σ H D I ⟨_,h,fun v H1 h1=>⟨_,h1,fun x H2 h2=>⟨_,h2,fun y H3 ⟨a,kvs,k,e1,e2,e3,e4,q⟩=>⟨a,_,e1,by rw [e3];exact Zp.k e2 (ve (by omega)),q⟩⟩⟩⟩
end
def Sh (i:Int):Prop:=-1000000≤i/\i≤1000000
theorem YQ {K:W.Frag}{H:Hp}:∀ ns:List Int,Reps K H (ns.map .int) (ns.map V.int)
 |[]=>rfl
 |n :: ns=>⟨_,_,rfl,rfl,YQ ns⟩
theorem Sh.log {i:Int}(h:Sh i):i.natAbs.log2 < 20:=by
 obtain⟨h1,h2⟩:=h
 by_cases h0:i.natAbs= 0
 ·rw [h0];decide
 ·exact (Nat.log2_lt h0).mpr (by omega)
theorem Sh.w {i:Int}(h:Sh i):PyData.weight (.int i)≤21:=by
 have:=h.log
 simp only [PyData.weight]
 split <;> omega
theorem JU:∀ {ns:List Int},(∀ n∈ns,Sh n)->PyData.weightAll (ns.map .int)≤22*ns.length
 |[],_=>by simp [PyData.weightAll]
 |n :: ns,h=>by
  have h1:=(h n (by simp)).w
  have h2:=JU (ns:=ns) fun m hm=>h m (by simp [hm])
  simp only [List.map_cons,PyData.weightAll,List.length_cons]
  omega
theorem UJ:∀ {ns:List Int},(∀ n∈ns,Sh n)->PyData.showableAll (ns.map .int)=true
 |[],_=>by simp [PyData.showableAll]
 |n :: ns,h=>by
  have h1:=(h n (by simp)).log
  have h2:=UJ (ns:=ns) fun m hm=>h m (by simp [hm])
  simp only [List.map_cons,PyData.showableAll,PyData.showable,h2,Bool.and_true,decide_eq_true_eq]
  omega
theorem Sh.short {i:Int}(h:Sh i):PyData.intsShort 13 (.int i)=true:=by
 obtain⟨h1,h2⟩:=h
 have q:(toString i).length≤7+1:=int_text_length_le10 (by decide) (show i.natAbs < 10 ^ 7 by omega)
 have e:(PyData.int i).shown.length=(toString i).length:=by
  simp only [PyData.shown]
  exact PySem.ofString_length _
 simp only [PyData.intsShort,decide_eq_true_eq]
 omega
theorem ZX:∀ {ns:List Int},(∀ n∈ns,Sh n)->PyData.intsShortAll 13 (ns.map .int)=true
 |[],_=>by simp [PyData.intsShortAll]
 |n :: ns,h=>by
  have h1:=(h n (by simp)).short
  have h2:=ZX (ns:=ns) fun m hm=>h m (by simp [hm])
  simp only [List.map_cons,PyData.intsShortAll,h1,h2,Bool.and_self]
theorem XU:∀ {ns:List Int},PyData.canLayAll0 (ns.map .int)=true
 |[]=>by simp [PyData.canLayAll0]
 |n :: ns=>by simp [PyData.canLayAll0,PyData.canLay0,XU (ns:=ns)]
theorem XV:∀ {ns:List Int},PyData.depthAll (ns.map .int)≤1
 |[]=>by simp [PyData.depthAll]
 |n :: ns=>by
  have:=XV (ns:=ns)
  simp [PyData.depthAll,PyData.depth]
  omega
theorem Sh.sho {i:Int}(h:Sh i):PyData.showable (.int i)=true:=by
 have:=h.log
 simp only [PyData.showable,decide_eq_true_eq]
 omega
theorem xj {x:PyData}{xs:List PyData}{n m:Nat}(h1:PyData.weight x≤n) (h2:PyData.weightAll xs≤m):PyData.weightAll (x :: xs)≤n+m+1:=by
 simp only [PyData.weightAll]
 omega
theorem xl {x:PyData}{xs:List PyData}{n:Nat}(h1:PyData.depth x≤n) (h2:PyData.depthAll xs≤n):PyData.depthAll (x :: xs)≤n:=by
 simp only [PyData.depthAll]
 omega
theorem zem {a b c d f h i j k:Int}{e g g2 g3:Bool}{ns:List Int}(ha:Sh a) (hb:Sh b) (hc:Sh c) (hd:Sh d) (hf:Sh f) (hh:Sh h) (hi:Sh i) (hj:Sh j) (hk:Sh k) (hn:∀ n∈ns,Sh n) (hl:ns.length < 64) :
  let D:PyData:=.list [.int a,.int b,.int c,.int d,.bool e,.int f,.bool g,.bool g2,.bool g3,.int h,.int i,.int j,.int k,.list (ns.map .int)]
  D.showable=true/\D.depth≤60/\D.shown.length≤sizeLine:=by
 intro D
 have e1:D.showable=true:=by
  have q:=UJ hn
  have u:∀ b,PyData.showable (.bool b)=true:=fun _=>by simp only [PyData.showable]
  have v:PyData.showable (.list (ns.map .int))=true:=by simp only [PyData.showable,q]
  rw [show D=.list [.int a,.int b,.int c,.int d,.bool e,.int f,.bool g,.bool g2,.bool g3,.int h,.int i,.int j,.int k,.list (ns.map .int)] from rfl,PyData.showable]
  simp only [PyData.showableAll,ha.sho,hb.sho,hc.sho,hd.sho,hf.sho,hh.sho,hi.sho,hj.sho,hk.sho,u,v,Bool.and_self]
 have e2:D.depth≤60:=by
  have q:=XV (ns:=ns)
  have i1:∀ i,PyData.depth (.int i)≤58:=fun i=>by simp only [PyData.depth];omega
  have b1:∀ i,PyData.depth (.bool i)≤58:=fun i=>by simp only [PyData.depth];omega
  have z:PyData.depth (.list (ns.map .int))≤58:=by simp only [PyData.depth];omega
  have z0:PyData.depthAll []≤58:=by simp only [PyData.depthAll];omega
  have:=xl (i1 a) (xl (i1 b) (xl (i1 c) (xl (i1 d) (xl (b1 e) (xl (i1 f) (xl (b1 g) (xl (b1 g2) (xl (b1 g3) (xl (i1 h) (xl (i1 i) (xl (i1 j) (xl (i1 k) (xl z z0)))))))))))))
  rw [show D=.list [.int a,.int b,.int c,.int d,.bool e,.int f,.bool g,.bool g2,.bool g3,.int h,.int i,.int j,.int k,.list (ns.map .int)] from rfl,PyData.depth]
  clear q z z0 i1 b1
  omega
 refine⟨e1,e2,?_⟩
 have e3:D.intsShort 13 =true:=by
  simp only [D,PyData.intsShort,PyData.intsShortAll,ZX hn,Bool.and_true,Bool.true_and]
  have:=ha.short;have:=hb.short;have:=hc.short;have:=hd.short;have:=hf.short;have:=hh.short;have:=hi.short;have:=hj.short;have:=hk.short
  simp only [PyData.intsShort] at *
  simp only [*,Bool.and_self]
 have e4:PyData.layable0 D=true:=by
  have w1:=ha.w;have w2:=hb.w;have w3:=hc.w;have w4:=hd.w;have w5:=hf.w;have w6:=hh.w;have w7:=hi.w;have w8:=hj.w;have w9:=hk.w
  have w0:=JU hn
  have q1:PyData.canLay0 D=true:=by simp only [D,PyData.canLay0,PyData.canLayAll0,XU,Bool.and_self]
  have q2:PyData.weight D≤2 ^ 20:=by
   have e20:(2:Nat) ^ 20 = 1048576:=by decide
   have u1:∀ b,PyData.weight (.bool b)= 0:=fun _=>rfl
   have u2:PyData.weight (.list (ns.map .int))=PyData.weightAll (ns.map .int):=by simp only [PyData.weight]
   have u3:PyData.weight D=PyData.weightAll [.int a,.int b,.int c,.int d,.bool e,.int f,.bool g,.bool g2,.bool g3,.int h,.int i,.int j,.int k,.list (ns.map .int)]:=by simp only [D,PyData.weight]
   rw [u3,e20]
   have b0:∀ b,PyData.weight (.bool b)≤0:=fun b=>Nat.le_of_eq (u1 b)
   have z:PyData.weight (.list (ns.map .int))≤2000:=by rw [u2];omega
   have z0:PyData.weightAll []≤0:=by simp only [PyData.weightAll];omega
   exact Nat.le_trans (xj w1 (xj w2 (xj w3 (xj w4 (xj (b0 _) (xj w5 (xj (b0 _) (xj (b0 _) (xj (b0 _) (xj w6 (xj w7 (xj w8 (xj w9 (xj z z0)))))))))))))) (by decide)
  show (PyData.canLay0 D && decide (PyData.depth D≤64) && decide (PyData.weight D≤2 ^ 20))=true
  rw [q1,decide_eq_true (show PyData.depth D≤64 by omega),decide_eq_true q2]
  rfl
 exact Nat.le_trans (shown_le13 e4 e3) (by rw [sizeLine_eq];decide)
def DK (K:W.Frag) (a:Addr) (D:List (Int×Int)):Prop:=KTD.keyedLook (fun b=>K.lookup b) a (D.map fun p=>(p.1,PyData.int p.2))=true
noncomputable def xU (D:List (Int×Int)) (k:Int):Option Int:=match D with
 |[]=>none
 | (i,d) :: r=>if k=i then some d else xU r k
theorem Ze (k:Int):∀ D:List (Int×Int),KTD.datumAt k (D.map fun p=>(p.1,PyData.int p.2))=(xU D k).map PyData.int
 |[]=>rfl
 | (i,d) :: D=>by
  have ih:=Ze k D
  show (if decide (k=i)=true then some (PyData.int d) else KTD.datumAt k (D.map fun p=>(p.1,PyData.int p.2)))=((if k=i then some d else xU D k).map PyData.int)
  by_cases h:k=i
  ·rw [if_pos (decide_eq_true h),if_pos h,Option.map_some]
  ·rw [if_neg (by simpa using h),if_neg h,ih]
def Qy (K:W.Frag) (to:TE) (t:TA):TE:=fun σ H Q=>to σ H fun x H1=>∃ a D,x=.ref a/\DK K a D/\t σ H1 fun xs H2=>∃ i d,xs=[.int i,.int d]/\Q (.int ((xU D i).getD d)) H2
theorem zcx {X:Cx}{o e:Expr}{es:List Expr}{to:TE}{t:TA}{apos cpos:Pos}(ho:PE X o to) (ha:PA X (e :: es) t)
    (hbase:attributeBase o "get" X.env (eval o X.env)=eval o X.env:=by rfl)
    (hfew:((backTo cpos (starEach (e :: es) X.env)).all (fun x=>!x.1) && (backToKw cpos (keywordEach [] X.env)).all (fun x=>x.1.isSome)
      && decide ((e :: es).length+([]:List Keyword).length+(if ([]:List Keyword).isEmpty then 0 else 1) < 30))=true:=by rfl)
    (hline:(apos.endLine == cpos.line)=true:=by rfl) (hs:starEach (e :: es) X.env=(false,eval e X.env) :: starEach es X.env:=by rfl) (hplain:(backTo cpos (starEach es X.env)).any (·.1)=false:=by rfl) :
    PE X (.Call (.Attribute o "get" apos) (e :: es) [] cpos) (Qy X.K to t):=by
  intro pins s σ H Q I h
  refine wpAny_Call_method_late hbase hfew hline rfl (thn (ho pins s σ H _ I h) fun v s1 ⟨x,H1,I1,r1,a,D,ex,hD,q1⟩=>?_)
  subst ex
  cases r1
  have KD:=KTD.keyed_of_look (h:=s1.heap) (fun b o q=>I1.kIn b o q) hD
  obtain⟨_,kvs,⟨ob,bs,ep,hob,hc,_⟩,_⟩:=id (KD X.prog X.w)
  refine⟨"dict","dict.get",PySem.F.plainAttrs_dict,PySem.F.slot_dict_get,PySem.F.type_dict_get,⟨ob,hob,hc.1⟩,fun b e=>by injection e with e;subst e;exact⟨ob,hob,hc.2.1⟩,?_⟩
  have hA:=ha cpos pins s1 σ H1 _ I1 q1
  rw [hs] at hA ⊢
  refine Calls.callWith_builtin (by show (false || (backTo cpos (starEach es X.env)).any (·.1))=false;rw [hplain] <;> rfl) (Calls.evalArgs_plain ?_)
  refine thn hA fun us s2 ⟨vs,H2,I2,r2,i,d,ev,q2⟩=>?_
  subst ev
  obtain⟨u1,u2,rfl,h1,h2⟩:=r2.two
  obtain⟨t1,rfl⟩:=h1
  obtain⟨t2,rfl⟩:=h2
  have KD2:=KTD.keyed_of_look (h:=s2.heap) (fun b o q=>I2.kIn b o q) hD
  refine call_get2_intTab (KD2 X.prog X.w) (.int d t2) fun v hv=>?_
  rw [KTD.lookup_keyed,Ze] at hv
  have hv':PyProof.V.Flat v (PyData.int ((xU D i).getD d)):=by
    cases e:xU D i with
    |none=>rw [e] at hv;exact hv
    |some z=>rw [e] at hv;exact hv
  generalize (xU D i).getD d=z at hv' q2
  cases hv' s2.heap with
  |int _ t=>exact⟨.int _,H2,I2.tok _,⟨t,rfl⟩,q2⟩
inductive W where
 |d (x:PyData)
 |own (a:Addr)
 |row (a:Addr) (i:Nat)
inductive OO where
 |lst (ws:List W)
 |dK (kvs:List (Key×W))
 |ins (C dx:Addr) (fs:List (Str×W))
 |grid (rows:List (List PyData))
 |raw (p:HO->Hp->Prop)
noncomputable abbrev OM:=Addr->Option OO
noncomputable def updO (O:OM) (a:Addr) (o:OO):OM:=fun b=>if b=a then some o else O b
noncomputable def del (O:OM) (a:Addr):OM:=fun b=>if b=a then none else O b
theorem zc {O:OM}{a:Addr}{o:OO}:updO O a o a=some o:=by simp [updO]
theorem ze {O:OM}{a b:Addr}{o:OO}(h:b≠a):updO O a o b=O b:=by simp [updO,h]
theorem x6 {O:OM}{a:Addr}:del O a a=none:=by simp [del]
theorem vk {O:OM}{a b:Addr}(h:b≠a):del O a b=O b:=by simp [del,h]
theorem zy {O:OM}{a:Addr}{o u:OO}:updO (updO O a o) a u=updO O a u:=by
 funext b;unfold updO;split <;> rfl
structure Gh where
 Z:Hp
 G:Addr->Option (List Addr)
 F:Hp
structure Le (Γ Γ':Gh):Prop where
 f:Γ'.F=Γ.F
 z:Same Γ.Z Γ'.Z
 g:∀ a rs,Γ.G a=some rs->∃ more,Γ'.G a=some (rs ++ more)
theorem Le.refl (Γ:Gh):Le Γ Γ:=⟨rfl,Same.refl _,fun _ rs h=>⟨[],by rw [List.append_nil];exact h⟩⟩
theorem Le.trans {Γ Γ1 Γ2:Gh}(a:Le Γ Γ1) (b:Le Γ1 Γ2):Le Γ Γ2:=⟨b.f.trans a.f,a.z.trans b.z,fun x rs h=>by
 obtain⟨m,h1⟩:=a.g x rs h
 obtain⟨m2,h2⟩:=b.g x _ h1
 exact⟨m ++ m2,by rw [<- List.append_assoc];exact h2⟩⟩
theorem Le.zOnly {Γ:Gh}{Z:Hp}(h:Same Γ.Z Z):Le Γ ⟨Z,Γ.G,Γ.F⟩:=⟨rfl,h,fun _ rs h=>⟨[],by rw [List.append_nil];exact h⟩⟩
section
variable (K:W.Frag)
noncomputable def relW (Γ:Gh):W->V->Prop
 |.d x,v=>Rep K Γ.Z x v
 |.own a,v=>v=.ref a
 |.row a i,v=>∃ rs r,Γ.G a=some rs/\rs[i]? =some r/\v=.ref r
noncomputable abbrev relWs (Γ:Gh):List W->List V->Prop:=Paired (relW K Γ)
noncomputable def jt (Γ:Gh):Option W->Option V->Prop
 |some w,some v=>relW K Γ w v
 |none,_=>True
 |_,_=>False
noncomputable abbrev relR (Γ:Gh):List (Option W)->St->Prop:=Paired (jt K Γ)
def y6 {κ:Type}(Γ:Gh):List (κ×W)->List (κ×V)->Prop:=Paired fun p q=>p.1=q.1/\relW K Γ p.2 q.2
noncomputable def ObjW (Γ:Gh) (O:OM) (H:Hp) (a:Addr):OO->Prop
 |.lst ws=>∃ vs,H a=some (.lst vs)/\relWs K Γ ws vs
 |.dK kvs=>∃ vs,H a=some (.dK vs)/\y6 K Γ kvs vs
 |.ins C dx fs=>∃ vs,H a=some (.ins C dx vs)/\y6 K Γ fs vs
 |.grid rows=>∃ rs,Γ.G a=some rs/\H a=some (.lst (rs.map V.ref))/\rs.length=rows.length/\rs.Nodup/\
   ∀ (i:Nat) (r:Addr) (ds:List PyData),rs[i]? =some r->rows[i]? =some ds->Γ.Z r=none/\O r=none/\∃ vs,H r=some (.lst vs)/\Reps K Γ.Z ds vs
 |.raw p=>∃ o,H a=some o/\∀ Z,Same Γ.Z Z->p o Z
structure Sim (Γ:Gh) (O:OM) (H:Hp):Prop where
 z:Same Γ.Z H
 o:∀ a oo,O a=some oo->Γ.Z a=none/\ObjW K Γ O H a oo
 gd:∀ a rs,Γ.G a=some rs->∃ o,H a=some o
 f:Same Γ.F H
 gn:∀ a oo,O a=some oo->(∀ rows,oo≠.grid rows)->Γ.G a=none
 fg:∀ a o,Γ.F a=some o->Γ.G a=none
 fd:∀ a o,Γ.F a=some o->Γ.Z a=none/\O a=none/\∀ b rows rs,O b=some (.grid rows)->Γ.G b=some rs->a ∉ rs
 u:∀ a b ra rb rs ss r,O a=some (.grid ra)->O b=some (.grid rb)->Γ.G a=some rs->Γ.G b=some ss->r∈rs->r∈ss->a=b
end
section
variable {K:W.Frag}{Γ Γ':Gh}{O:OM}{H H':Hp}
theorem relW.mono (h:Le Γ Γ'):∀ {w:W}{v:V},relW K Γ w v->relW K Γ' w v
 |.d x,v,r=>Rep.same h.z x v r
 |.own a,v,r=>r
 |.row a i,v,⟨rs,r,e,f,g⟩=>by
  obtain⟨m,e'⟩:=h.g _ _ e
  have hi:i < rs.length:=(List.getElem?_eq_some_iff.mp f).1
  exact⟨rs ++ m,r,e',by rw [List.getElem?_append_left hi];exact f,g⟩
theorem relWs.mono (h:Le Γ Γ') {ws:List W}{vs:List V}(r:relWs K Γ ws vs):relWs K Γ' ws vs:=Paired.mapP r fun _ _ z=>z.mono h
theorem jt.mono (h:Le Γ Γ'):∀ {w:Option W}{v:Option V},jt K Γ w v->jt K Γ' w v
 |some w,some v,r=>relW.mono h r
 |none,_,_=>trivial
 |some _,none,r=>r.elim
theorem relR.mono (h:Le Γ Γ') {ρ:List (Option W)}{σ:St}(r:relR K Γ ρ σ):relR K Γ' ρ σ:=Paired.mapP r fun _ _ z=>z.mono h
theorem y6.mono {κ:Type}(h:Le Γ Γ') {a:List (κ×W)}{b:List (κ×V)}(r:y6 K Γ a b):y6 K Γ' a b:=Paired.mapP r fun _ _ z=>⟨z.1,z.2.mono h⟩
theorem relR.get {ρ:List (Option W)}{σ:St}:∀ {i:Nat}{w:W},relR K Γ ρ σ->ρ[i]? =some (some w)->∃ v,σ[i]? =some (some v)/\relW K Γ w v:=by
 intro i w r
 induction r generalizing i with
 |nil=>intro e;simp at e
 |cons h t ih=>
  rename_i x y xs ys
  intro e
  cases i with
  |zero=>
   simp at e
   subst e
   cases y with
   |none=>exact h.elim
   |some v=>exact⟨v,rfl,h⟩
  |succ i=>simpa using ih (i:=i) (by simpa using e)
theorem Paired.getP {α β:Type}{F:α->β->Prop}{xs:List α}{ys:List β}(r:Paired F xs ys):∀ {i:Nat}{x:α},xs[i]? =some x->∃ y,ys[i]? =some y/\F x y:=by
 induction r with
 |nil=>intro i x e;simp at e
 |cons h t ih=>
  intro i x e
  cases i with
  |zero=>simp at e;subst e;exact⟨_,rfl,h⟩
  |succ i=>simpa using ih (i:=i) (by simpa using e)
theorem Paired.setP {α β:Type}{F:α->β->Prop}{xs:List α}{ys:List β}{x:α}{y:β}(r:Paired F xs ys) (h:F x y):∀ {i:Nat},Paired F (xs.set i x) (ys.set i y):=by
 induction r with
 |nil=>intro i;exact .nil
 |cons g t ih=>
  intro i
  cases i with
  |zero=>exact .cons h t
  |succ i=>exact .cons g ih
theorem Paired.appP {α β:Type}{F:α->β->Prop}{xs xs':List α}{ys ys':List β}(r:Paired F xs ys) (s:Paired F xs' ys'):Paired F (xs ++ xs') (ys ++ ys'):=by
 induction r with
 |nil=>exact s
 |cons h t ih=>exact .cons h ih
theorem Paired.takeP {α β:Type}{F:α->β->Prop}{xs:List α}{ys:List β}(r:Paired F xs ys):∀ n,Paired F (xs.take n) (ys.take n):=by
 induction r with
 |nil=>intro n;simp;exact .nil
 |cons h t ih=>
  intro n
  cases n with
  |zero=>exact .nil
  |succ n=>exact .cons h (ih n)
theorem Paired.dropP {α β:Type}{F:α->β->Prop}{xs:List α}{ys:List β}(r:Paired F xs ys):∀ n,Paired F (xs.drop n) (ys.drop n):=by
 induction r with
 |nil=>intro n;simp;exact .nil
 |cons h t ih=>
  intro n
  cases n with
  |zero=>exact .cons h t
  |succ n=>exact ih n
theorem xt:∀ {ds:List PyData}{vs:List V},Reps K Γ.Z ds vs->relWs K Γ (ds.map .d) vs
 |[],_,h=>by rw [show _=[] from h];exact .nil
 |d :: ds,_,h=>by
  obtain⟨x,r,rfl,h1,h2⟩:=h
  exact .cons h1 (xt h2)
theorem yI:∀ {ds:List PyData}{vs:List V},relWs K Γ (ds.map .d) vs->Reps K Γ.Z ds vs
 |[],_,h=>by cases h;rfl
 |d :: ds,_,h=>by
  cases h with
  |cons a b=>exact⟨_,_,rfl,a,yI b⟩
noncomputable def yN (O:OM):W->Option (List W)
 |.d (.list ds)=>some (ds.map .d)
 |.own a=>match O a with
  |some (.lst ws)=>some ws
  |some (.grid rows)=>some ((List.range rows.length).map (.row a))
  |_=>none
 |.row a i=>match O a with
  |some (.grid rows)=>(rows[i]?).map (·.map .d)
  |_=>none
 |_=>none
noncomputable def xD:W->Option (List PyData)
 |.d (.tuple ds)=>some ds
 |_=>none
theorem uy {w:W}{v:V}{ds:List PyData}(S:Sim K Γ O H) (r:relW K Γ w v) (e:xD w=some ds):∃ a vs,v=.ref a/\SqT K H a vs/\relWs K Γ (ds.map .d) vs:=by
 cases w with
 |d x=>
  cases x with
  |tuple es=>
   simp [xD] at e
   subst e
   obtain⟨a,xs,e1,h1,h2⟩:=r
   exact⟨a,xs,e1,h1.same S.z,xt h2⟩
  |_=>simp [xD] at e
 |own a=>simp [xD] at e
 |row a i=>simp [xD] at e
theorem xv {w:W}{v:V}{ws:List W}(S:Sim K Γ O H) (r:relW K Γ w v) (e:yN O w=some ws):∃ a vs,v=.ref a/\SqL K H a vs/\relWs K Γ ws vs:=by
 cases w with
 |d x=>
  cases x with
  |list es=>
   simp [yN] at e
   subst e
   obtain⟨a,xs,e1,h1,h2⟩:=r
   exact⟨a,xs,e1,h1.same S.z,xt h2⟩
  |_=>simp [yN] at e
 |own a=>
  cases (show v=.ref a from r)
  simp only [yN] at e
  split at e
  ·rename_i us h
   cases e
   obtain⟨_,vs,h1,h2⟩:=S.o _ _ h
   exact⟨a,vs,rfl,SqL.of h1,h2⟩
  ·rename_i rows h
   cases e
   obtain⟨_,rs,hg,h1,hl,_,_⟩:=S.o _ _ h
   refine⟨a,_,rfl,SqL.of h1,?_⟩
   rw [<- hl]
   have key:∀ (ss:List Addr) (k:Nat),(∀ i,ss[i]? =rs[k+i]?)->relWs K Γ ((List.range' k ss.length).map (W.row a)) (ss.map V.ref):=by
    intro ss
    induction ss with
    |nil=>intro k _;exact .nil
    |cons s ss ih=>
     intro k hk
     refine .cons ⟨rs,s,hg,?_,rfl⟩ (ih (k+1) fun i=>?_)
     ·have:=hk 0;simpa using this.symm
     ·have:=hk (i+1)
      rw [List.getElem?_cons_succ] at this
      rw [this]
      congr 1
      omega
   have h0:=key rs 0 (fun i=>by rw [Nat.zero_add])
   rw [List.range_eq_range']
   exact h0
  ·cases e
 |row a i=>
  obtain⟨rs,r0,hg,hr,rfl⟩:=r
  simp only [yN] at e
  split at e
  ·rename_i rows h
   cases hi:rows[i]? with
   |none=>rw [hi] at e;cases e
   |some ds=>
    rw [hi] at e
    cases e
    obtain⟨_,rs',hg',h1,hl,_,hrow⟩:=S.o _ _ h
    rw [hg] at hg'
    cases hg'
    obtain⟨_,_,vs,h2,h3⟩:=hrow i r0 ds hr hi
    exact⟨r0,vs,rfl,SqL.of h2,xt h3⟩
  ·cases e
noncomputable def xq:List W->Option (List PyData)
 |[]=>some []
 |.d x :: ws=>(xq ws).map (x :: ·)
 |_ :: _=>none
theorem xG:∀ ds:List PyData,xq (ds.map .d)=some ds
 |[]=>rfl
 |d :: ds=>by simp [xq,xG ds]
theorem xO:∀ {ws:List W}{ds:List PyData},xq ws=some ds->ws=ds.map .d
 |[],ds,e=>by cases e;rfl
 |.d x :: ws,ds,e=>by
  simp [xq] at e
  obtain⟨es,h1,h2⟩:=e
  subst h2
  rw [xO h1]
  rfl
 |.own _ :: _,_,e=>by simp [xq] at e
 |.row _ _ :: _,_,e=>by simp [xq] at e
noncomputable def vO (O:OM):W->Option PyData
 |.d x=>some x
 |.own a=>match O a with
  |some (.lst ws)=>(xq ws).map .list
  |some (.grid rows)=>some (.list (rows.map .list))
  |_=>none
 |.row a i=>match O a with
  |some (.grid rows)=>(rows[i]?).map .list
  |_=>none
theorem uH {w:W}{v:V}{x:PyData}(S:Sim K Γ O H) (r:relW K Γ w v) (e:vO O w=some x):Rep K H x v:=by
 cases w with
 |d y=>cases e;exact Rep.same S.z _ _ r
 |own a=>
  cases (show v=.ref a from r)
  simp only [vO] at e
  split at e
  ·rename_i ws h
   cases hd:xq ws with
   |none=>rw [hd] at e;cases e
   |some ds=>
    rw [hd] at e
    cases e
    obtain⟨_,vs,h1,h2⟩:=S.o _ _ h
    rw [xO hd] at h2
    exact⟨a,vs,rfl,SqL.of h1,Reps.same S.z _ _ (yI h2)⟩
  ·rename_i rows h
   cases e
   obtain⟨_,rs,hg,h1,hl,_,hrow⟩:=S.o _ _ h
   refine⟨a,_,rfl,SqL.of h1,?_⟩
   have key:∀ (rows:List (List PyData)) (rs:List Addr),rs.length=rows.length->(∀ (i:Nat) (r:Addr) (ds:List PyData),rs[i]? =some r->rows[i]? =some ds->∃ vs,H r=some (.lst vs)/\Reps K Γ.Z ds vs)->Reps K H (rows.map .list) (rs.map V.ref):=by
    intro rows
    induction rows with
    |nil=>intro rs hl _;cases rs with |nil=>rfl |cons _ _=>simp at hl
    |cons row rows ih=>
     intro rs hl hr
     cases rs with
     |nil=>simp at hl
     |cons r rs=>
      obtain⟨vs,h1,h2⟩:=hr 0 r row rfl rfl
      exact⟨.ref r,_,rfl,⟨r,vs,rfl,SqL.of h1,Reps.same S.z _ _ h2⟩,ih rs (by simpa using hl) fun i r ds a b=>hr (i+1) r ds (by simpa using a) (by simpa using b)⟩
   exact key rows rs hl fun i r ds a b=>(hrow i r ds a b).2.2
  ·cases e
 |row a i=>
  obtain⟨rs,r0,hg,hr,rfl⟩:=r
  simp only [vO] at e
  split at e
  ·rename_i rows h
   cases hi:rows[i]? with
   |none=>rw [hi] at e;cases e
   |some ds=>
    rw [hi] at e
    cases e
    obtain⟨_,rs',hg',h1,hl,_,hrow⟩:=S.o _ _ h
    rw [hg] at hg'
    cases hg'
    obtain⟨_,_,vs,h2,h3⟩:=hrow i r0 ds hr hi
    exact⟨r0,vs,rfl,SqL.of h2,Reps.same S.z _ _ h3⟩
  ·cases e
theorem Sim.free (S:Sim K Γ O H) {p:Addr}(hp:H p=none):Γ.Z p=none/\O p=none/\Γ.G p=none:=by
 refine⟨S.z.free hp,?_,?_⟩
 ·cases e:O p with
  |none=>rfl
  |some oo=>
   obtain⟨_,h⟩:=S.o _ _ e
   cases oo with
   |lst ws=>obtain⟨vs,h1,_⟩:=h;rw [hp] at h1;cases h1
   |dK ws=>obtain⟨vs,h1,_⟩:=h;rw [hp] at h1;cases h1
   |ins C dx ws=>obtain⟨vs,h1,_⟩:=h;rw [hp] at h1;cases h1
   |grid rows=>obtain⟨rs,_,h1,_⟩:=h;rw [hp] at h1;cases h1
   |raw p=>obtain⟨o,h1,_⟩:=h;rw [hp] at h1;cases h1
 ·cases e:Γ.G p with
  |none=>rfl
  |some rs=>
   obtain⟨o,h⟩:=S.gd _ _ e
   rw [hp] at h
   cases h
theorem ObjW.keep {a:Addr}{oo:OO}(h:ObjW K Γ O H a oo) (hl:Le Γ Γ') {O':OM}(ha:H' a=H a) (hG:Γ'.G a=Γ.G a) (hr:∀ rs r,Γ.G a=some rs->(∃ rows,oo=.grid rows)->r∈rs->H' r=H r/\Γ'.Z r=Γ.Z r/\O' r=O r):ObjW K Γ' O' H' a oo:=by
 cases oo with
 |lst ws=>obtain⟨vs,h1,h2⟩:=h;exact⟨vs,by rw [ha];exact h1,h2.mono hl⟩
 |dK ws=>obtain⟨vs,h1,h2⟩:=h;exact⟨vs,by rw [ha];exact h1,h2.mono hl⟩
 |ins C dx ws=>obtain⟨vs,h1,h2⟩:=h;exact⟨vs,by rw [ha];exact h1,h2.mono hl⟩
 |raw p=>obtain⟨o,h1,h2⟩:=h;exact⟨o,by rw [ha];exact h1,fun Z hZ=>h2 Z (hl.z.trans hZ)⟩
 |grid rows=>
  obtain⟨rs,hg,h1,h2,hn,h3⟩:=h
  refine⟨rs,by rw [hG];exact hg,by rw [ha];exact h1,h2,hn,fun i r ds e1 e2=>?_⟩
  obtain⟨q1,q2,q3⟩:=hr rs r hg ⟨rows,rfl⟩ (List.mem_of_getElem? e1)
  obtain⟨z1,z2,vs,z3,z4⟩:=h3 i r ds e1 e2
  exact⟨by rw [q2];exact z1,by rw [q3];exact z2,vs,by rw [q1];exact z3,Reps.same hl.z _ _ z4⟩
theorem Sim.rowIn (S:Sim K Γ O H) {a:Addr}{rows:List (List PyData)}{rs:List Addr}{r:Addr}(ho:O a=some (.grid rows)) (hg:Γ.G a=some rs) (hr:r∈rs):Γ.Z r=none/\O r=none/\∃ vs,H r=some (.lst vs):=by
 obtain⟨_,rs',hg',h1,hl,_,hrow⟩:=S.o _ _ ho
 rw [hg] at hg'
 cases hg'
 obtain⟨i,hi,rfl⟩:=List.mem_iff_getElem.mp hr
 obtain⟨z1,z2,vs,z3,_⟩:=hrow i rs[i] (rows[i]'(by omega)) (List.getElem?_eq_getElem hi) (List.getElem?_eq_getElem (by omega))
 exact⟨z1,z2,vs,z3⟩
theorem Sim.newD (S:Sim K Γ O H) {p:Addr}(hp:H p=none) (o:HO):Le Γ ⟨upd Γ.Z p o,Γ.G,Γ.F⟩/\Sim K ⟨upd Γ.Z p o,Γ.G,Γ.F⟩ O (upd H p o):=by
 obtain⟨hz,hO,hG⟩:=S.free hp
 have le:Le Γ ⟨upd Γ.Z p o,Γ.G,Γ.F⟩:=Le.zOnly (xT hz)
 have hF:=S.f.free hp
 refine⟨le,⟨fun b u e=>?_,fun a oo e=>?_,fun a rs e=>?_,uD S.f hF,S.gn,S.fg,fun a o' e=>?_,S.u⟩⟩
 ·replace e:upd Γ.Z p o b=some u:=e
  by_cases hb:b=p
  ·subst hb;rw [zC] at e;rw [zC];exact e
  ·rw [zk hb] at e;rw [zk hb];exact S.z _ _ e
 ·have hap:a≠p:=fun z=>by rw [z,hO] at e;cases e
  obtain⟨h1,h2⟩:=S.o _ _ e
  refine⟨by show upd Γ.Z p o a=none;rw [zk hap];exact h1,h2.keep le (zk hap) rfl fun rs r hg ⟨rows,hrw⟩ hr=>?_⟩
  subst hrw
  obtain⟨_,_,vs,q⟩:=S.rowIn e hg hr
  have hrp:r≠p:=fun z=>by rw [z,hp] at q;cases q
  exact⟨zk hrp,zk hrp,rfl⟩
 ·obtain⟨o',h⟩:=S.gd _ _ e
  exact⟨o',by rw [zk (y8 h hp)];exact h⟩
 ·obtain⟨q1,q2,q3⟩:=S.fd a o' e
  exact⟨(zk (y8 e hF)).trans q1,q2,q3⟩
theorem Sim.newO (S:Sim K Γ O H) {p:Addr}(hp:H p=none) {o:HO}{oo:OO}(hg:∀ rows,oo≠.grid rows) (ho:ObjW K Γ O (upd H p o) p oo):Sim K Γ (updO O p oo) (upd H p o):=by
 obtain⟨hz,hO,hG⟩:=S.free hp
 have hF:=S.f.free hp
 have k1:∀ {x:Addr}{rx:List (List PyData)},updO O p oo x=some (.grid rx)->O x=some (.grid rx):=fun {x rx} h=>by
  by_cases hx:x=p
  ·subst hx;rw [zc] at h;cases h;exact absurd rfl (hg rx)
  ·rw [ze hx] at h;exact h
 refine⟨fun b u e=>?_,fun a o' e=>?_,fun a rs e=>?_,uD S.f hF,fun a o' e hn=>?_,S.fg,fun a o' e=>?_,fun a b ra rb rs ss r e1 e2=>S.u a b ra rb rs ss r (k1 e1) (k1 e2)⟩
 ·rw [zk (fun z=>by rw [z,hz] at e;cases e)];exact S.z _ _ e
 ·by_cases hap:a=p
  ·subst hap
   rw [zc] at e
   cases e
   refine⟨hz,ho.keep (Le.refl _) rfl rfl fun rs r h1 ⟨rows,h2⟩=>absurd h2 (hg rows)⟩
  ·rw [ze hap] at e
   obtain⟨h1,h2⟩:=S.o _ _ e
   refine⟨h1,h2.keep (Le.refl _) (zk hap) rfl fun rs r hg' ⟨rows,hrw⟩ hr=>?_⟩
   subst hrw
   obtain⟨_,q2,vs,q⟩:=S.rowIn e hg' hr
   have hrp:r≠p:=fun z=>by rw [z,hp] at q;cases q
   exact⟨zk hrp,rfl,ze hrp⟩
 ·obtain⟨o',h⟩:=S.gd _ _ e
  exact⟨o',by rw [zk (y8 h hp)];exact h⟩
 ·by_cases hap:a=p
  ·rw [hap];exact hG
  ·rw [ze hap] at e;exact S.gn a o' e hn
 ·obtain⟨q1,q2,q3⟩:=S.fd a o' e
  exact⟨q1,by rw [ze (y8 e hF)];exact q2,fun b rows rs e1=>q3 b rows rs (k1 e1)⟩
theorem Sim.put (S:Sim K Γ O H) {a:Addr}{oo o1:OO}{o:HO}(h0:O a=some o1) (hn:∀ rows,o1≠.grid rows) (hg:∀ rows,oo≠.grid rows) (ho:ObjW K Γ O (upd H a o) a oo):Sim K Γ (updO O a oo) (upd H a o):=by
 obtain⟨hz,h1⟩:=S.o _ _ h0
 have k1:∀ {x:Addr}{rx:List (List PyData)},updO O a oo x=some (.grid rx)->O x=some (.grid rx):=fun {x rx} h=>by
  by_cases hx:x=a
  ·subst hx;rw [zc] at h;cases h;exact absurd rfl (hg rx)
  ·rw [ze hx] at h;exact h
 have nF:∀ b o',Γ.F b=some o'->b≠a:=fun b o' e z=>by
  have:=(S.fd b o' e).2.1
  rw [z,h0] at this;cases this
 refine⟨fun b u e=>?_,fun x o' e=>?_,fun x rs e=>?_,fun b u e=>?_,fun x o' e hn'=>?_,S.fg,fun x o' e=>?_,fun x b ra rb rs ss r e1 e2=>S.u x b ra rb rs ss r (k1 e1) (k1 e2)⟩
 ·rw [zk (fun z=>by rw [z,hz] at e;cases e)];exact S.z _ _ e
 ·by_cases hap:x=a
  ·subst hap
   rw [zc] at e
   cases e
   exact⟨hz,ho.keep (Le.refl _) rfl rfl fun rs r h1 ⟨rows,h2⟩=>absurd h2 (hg rows)⟩
  ·rw [ze hap] at e
   obtain⟨h1,h2⟩:=S.o _ _ e
   refine⟨h1,h2.keep (Le.refl _) (zk hap) rfl fun rs r hg' ⟨rows,hrw⟩ hr=>?_⟩
   subst hrw
   obtain⟨_,q2,vs,q⟩:=S.rowIn e hg' hr
   have hrp:r≠a:=fun z=>by rw [z,h0] at q2;cases q2
   exact⟨zk hrp,rfl,ze hrp⟩
 ·obtain⟨o',h⟩:=S.gd _ _ e
  by_cases hx:x=a
  ·exact⟨o,by rw [hx,zC]⟩
  ·exact⟨o',by rw [zk hx];exact h⟩
 ·rw [zk (nF _ _ e)];exact S.f _ _ e
 ·by_cases hap:x=a
  ·rw [hap];exact S.gn a o1 h0 hn
  ·rw [ze hap] at e;exact S.gn x o' e hn'
 ·obtain⟨q1,q2,q3⟩:=S.fd x o' e
  exact⟨q1,by rw [ze (nF _ _ e)];exact q2,fun b rows rs e1=>q3 b rows rs (k1 e1)⟩
theorem Sim.drop (S:Sim K Γ O H) (a:Addr):Sim K Γ (del O a) H:=by
 have k1:∀ {x:Addr}{o:OO},del O a x=some o->x≠a/\O x=some o:=fun {x o} h=>by
  by_cases hx:x=a
  ·subst hx;rw [x6] at h;cases h
  ·rw [vk hx] at h;exact⟨hx,h⟩
 refine⟨S.z,fun x o e=>?_,S.gd,S.f,fun x o e hn=>S.gn x o (k1 e).2 hn,S.fg,fun x o e=>⟨(S.fd x o e).1,by unfold del;split;rfl;exact (S.fd x o e).2.1,fun b rows rs e1=>(S.fd x o e).2.2 b rows rs (k1 e1).2⟩,fun x b ra rb rs ss r e1 e2=>S.u x b ra rb rs ss r (k1 e1).2 (k1 e2).2⟩
 obtain⟨hx,e⟩:=k1 e
 obtain⟨h1,h2⟩:=S.o _ _ e
 refine⟨h1,h2.keep (Le.refl _) rfl rfl fun rs r hg ⟨rows,hrw⟩ hr=>?_⟩
 subst hrw
 obtain⟨_,q2,_⟩:=S.rowIn e hg hr
 refine⟨rfl,rfl,?_⟩
 rw [q2]
 unfold del
 split
 ·rfl
 ·exact q2
theorem Sim.freeze (S:Sim K Γ O H) {a:Addr}{ds:List PyData}(h:O a=some (.lst (ds.map .d))):∃ Γ',Le Γ Γ'/\Sim K Γ' (del O a) H/\relW K Γ' (.d (.list ds)) (.ref a):=by
 obtain⟨hz,vs,h1,h2⟩:=S.o _ _ h
 have le:Le Γ ⟨upd Γ.Z a (.lst vs),Γ.G,Γ.F⟩:=Le.zOnly (xT hz)
 have S1:=S.drop a
 have nF:∀ b o',Γ.F b=some o'->b≠a:=fun b o' e z=>by
  have:=(S.fd b o' e).2.1
  rw [z,h] at this;cases this
 refine⟨⟨upd Γ.Z a (.lst vs),Γ.G,Γ.F⟩,le,⟨fun b u e=>?_,fun x o e=>?_,S.gd,S.f,S1.gn,S.fg,fun x o e=>⟨(zk (nF x o e)).trans (S1.fd x o e).1,(S1.fd x o e).2⟩,S1.u⟩,⟨a,vs,rfl,SqL.of zC,Reps.same le.z _ _ (yI h2)⟩⟩
 ·replace e:upd Γ.Z a (.lst vs) b=some u:=e
  by_cases hb:b=a
  ·subst hb;rw [zC] at e;cases e;exact h1
  ·rw [zk hb] at e;exact S.z _ _ e
 ·have hx:x≠a:=fun z=>by rw [z,x6] at e;cases e
  obtain⟨q1,q2⟩:=S1.o _ _ e
  refine⟨by show upd Γ.Z a _ x=none;rw [zk hx];exact q1,q2.keep le rfl rfl fun rs r hg ⟨rows,hrw⟩ hr=>⟨rfl,?_,rfl⟩⟩
  subst hrw
  rw [vk hx] at e
  obtain⟨_,q2,_⟩:=S.rowIn e hg hr
  exact zk (fun z=>by rw [z,h] at q2;cases q2)
theorem Sim.cell (S:Sim K Γ O H) {a r:Addr}{rows:List (List PyData)}{rs:List Addr}{i j:Nat}{ds:List PyData}{vs:List V}{x:PyData}{v:V}(h0:O a=some (.grid rows)) (hg:Γ.G a=some rs) (hr:rs[i]? =some r) (hd:rows[i]? =some ds)
  (hv:H r=some (.lst vs)) (rx:Rep K Γ.Z x v):Sim K Γ (updO O a (.grid (rows.set i (ds.set j x)))) (upd H r (.lst (vs.set j v))):=by
 obtain⟨hz,rs',hg',h1,hl,hn,hrow⟩:=S.o _ _ h0
 rw [hg] at hg'
 cases hg'
 obtain⟨z1,z2,vs',z3,z4⟩:=hrow i r ds hr hd
 rw [hv] at z3
 cases z3
 have har:a≠r:=fun e=>by rw [<- e,h0] at z2;cases z2
 have nF:∀ b o',Γ.F b=some o'->b≠r:=fun b o' e z=>(S.fd b o' e).2.2 a rows rs h0 hg (by rw [z];exact List.mem_of_getElem? hr)
 have nFa:∀ b o',Γ.F b=some o'->b≠a:=fun b o' e z=>by
  have:=(S.fd b o' e).2.1
  rw [z,h0] at this;cases this
 have kg:∀ {b:Addr}{rb:List (List PyData)},updO O a (.grid (rows.set i (ds.set j x))) b=some (.grid rb)->∃ ry,O b=some (.grid ry):=fun {b rb} e1=>by
  by_cases hx:b=a
  ·exact⟨rows,by rw [hx];exact h0⟩
  ·rw [ze hx] at e1;exact⟨rb,e1⟩
 refine⟨fun b u e=>?_,fun b oo e=>?_,fun b ss e=>?_,fun b u e=>by rw [zk (nF _ _ e)];exact S.f _ _ e,fun b o' e hn'=>?_,S.fg,fun b o' e=>⟨(S.fd b o' e).1,by rw [ze (nFa _ _ e)];exact (S.fd b o' e).2.1,fun c rc ss e1 g1=>by obtain⟨ry,e2⟩:=kg e1;exact (S.fd b o' e).2.2 c ry ss e2 g1⟩,fun b c rb rc ss tt q e1 e2 h3 h4 h5 h6=>?_⟩
 ·rw [zk (fun z=>by rw [z,z1] at e;cases e)];exact S.z _ _ e
 ·by_cases hb:b=a
  ·subst hb
   rw [zc] at e
   cases e
   refine⟨hz,rs,hg,by rw [zk har];exact h1,by rw [List.length_set];exact hl,hn,fun k q es e1 e2=>?_⟩
   have hq:O q=none:=(S.rowIn h0 hg (List.mem_of_getElem? e1)).2.1
   have hqb:q≠b:=fun e=>by rw [e,h0] at hq;cases hq
   by_cases hk:k=i
   ·subst hk
    rw [hr] at e1
    cases e1
    rw [List.getElem?_set_self (List.getElem?_eq_some_iff.mp hd).1] at e2
    cases e2
    refine⟨z1,by rw [ze hqb];exact z2,_,zC,?_⟩
    have hw:=xt (Γ:=Γ) z4
    have hw2:=Paired.setP hw (show relW K Γ (.d x) v from rx) (i:=j)
    rw [<- List.map_set] at hw2
    exact yI hw2
   ·have hne:q≠r:=fun e=>by
     rw [e] at e1
     obtain⟨l1,g1⟩:=List.getElem?_eq_some_iff.mp e1
     obtain⟨l2,g2⟩:=List.getElem?_eq_some_iff.mp hr
     exact hk ((List.getElem_inj hn).mp (g1.trans g2.symm))
    rw [List.getElem?_set_ne (Ne.symm hk)] at e2
    obtain⟨y1,y2,ws,y3,y4⟩:=hrow k q es e1 e2
    exact⟨y1,by rw [ze hqb];exact y2,ws,by rw [zk hne];exact y3,y4⟩
  ·rw [ze hb] at e
   obtain⟨q1,q2⟩:=S.o _ _ e
   have hbr:b≠r:=fun z=>by rw [z,z2] at e;cases e
   refine⟨q1,q2.keep (Le.refl _) (zk hbr) rfl fun ss q hgs ⟨rows',hrw⟩ hq=>?_⟩
   subst hrw
   obtain⟨w1,w2,ws,w3⟩:=S.rowIn e hgs hq
   have hqr:q≠r:=fun z=>hb (S.u b a rows' rows ss rs q e h0 hgs hg hq (by rw [z];exact List.mem_of_getElem? hr))
   exact⟨zk hqr,rfl,ze (fun z=>by rw [z,h0] at w2;cases w2)⟩
 ·obtain⟨o,h⟩:=S.gd _ _ e
  by_cases hb:b=r
  ·exact⟨_,by rw [hb,zC]⟩
  ·exact⟨o,by rw [zk hb];exact h⟩
 ·by_cases hb:b=a
  ·subst hb;rw [zc] at e;cases e;exact absurd rfl (hn' _)
  ·rw [ze hb] at e;exact S.gn b o' e hn'
 ·obtain⟨r1,f1⟩:=kg e1
  obtain⟨r2,f2⟩:=kg e2
  exact S.u b c r1 r2 ss tt q f1 f2 h3 h4 h5 h6
theorem Sim.absorb (S:Sim K Γ O H) {a b:Addr}{rows:List (List PyData)}{rs:List Addr}{ds:List PyData}(h0:O a=some (.grid rows)) (hg:Γ.G a=some rs) (hb:O b=some (.lst (ds.map .d))) :
  H a=some (.lst (rs.map V.ref))/\rs.length=rows.length/\∃ Γ',Le Γ Γ'/\Sim K Γ' (updO (del O b) a (.grid (rows ++ [ds]))) (upd H a (.lst (rs.map V.ref ++ [.ref b]))):=by
 obtain⟨hz,rs',hg',h1,hl,hn,hrow⟩:=S.o _ _ h0
 rw [hg] at hg'
 cases hg'
 obtain⟨hzb,vb,hb1,hb2⟩:=S.o _ _ hb
 have hab:a≠b:=fun e=>by rw [e,hb] at h0;cases h0
 have hbr:b ∉ rs:=fun m=>by
  obtain⟨_,q,_⟩:=S.rowIn h0 hg m
  rw [hb] at q;cases q
 have le:Le Γ ⟨Γ.Z,fun x=>if x=a then some (rs ++ [b]) else Γ.G x,Γ.F⟩:=⟨rfl,Same.refl _,fun x ss h=>by
  by_cases hx:x=a
  ·subst hx;rw [hg] at h;cases h;exact⟨[b],by simp⟩
  ·exact⟨[],by simp [hx,h]⟩⟩
 have nFa:∀ c o',Γ.F c=some o'->c≠a:=fun c o' e z=>by
  have:=(S.fd c o' e).2.1
  rw [z,h0] at this;cases this
 have nFb:∀ c o',Γ.F c=some o'->c≠b:=fun c o' e z=>by
  have:=(S.fd c o' e).2.1
  rw [z,hb] at this;cases this
 have k1:∀ {x:Addr}{rx:List (List PyData)},updO (del O b) a (.grid (rows ++ [ds])) x=some (.grid rx)->∃ ry,O x=some (.grid ry):=fun {x rx} h=>by
  by_cases hx:x=a
  ·exact⟨rows,by rw [hx];exact h0⟩
  ·rw [ze hx] at h
   by_cases hxb:x=b
   ·rw [hxb,x6] at h;cases h
   ·rw [vk hxb] at h;exact⟨rx,h⟩
 refine⟨h1,hl,_,le,⟨fun x u e=>?_,fun x oo e=>?_,fun x ss e=>?_,fun c u e=>by rw [zk (nFa _ _ e)];exact S.f _ _ e,fun x o' e hn'=>?_,fun c o' e=>by have hne:=nFa c o' e;simpa [hne] using S.fg c o' e,fun c o' e=>⟨(S.fd c o' e).1,by rw [ze (nFa _ _ e),vk (nFb _ _ e)];exact (S.fd c o' e).2.1,fun d rd ss e1 g1=>?_⟩,fun x y ra rb ss tt r e1 e2 g1 g2 m1 m2=>?_⟩⟩
 ·rw [zk (fun z=>by rw [z,show ({ Z:=Γ.Z,G:=fun x=>if x=a then some (rs ++ [b]) else Γ.G x,F:=Γ.F }:Gh).Z a=none from hz] at e;cases e)];exact S.z _ _ e
 ·by_cases hx:x=a
  ·subst hx
   rw [zc] at e
   cases e
   refine⟨hz,rs ++ [b],by simp,by rw [zC,List.map_append];rfl,by simp [hl],?_,fun i r es e1 e2=>?_⟩
   ·rw [List.nodup_append]
    exact⟨hn,by simp,fun u hu v hv=>by simp at hv;subst hv;exact fun z=>hbr (by rw [<- z];exact hu)⟩
   ·by_cases hi:i < rs.length
    ·rw [List.getElem?_append_left hi] at e1
     rw [List.getElem?_append_left (by omega)] at e2
     obtain⟨y1,y2,ws,y3,y4⟩:=hrow i r es e1 e2
     have hrx:r≠x:=fun z=>by rw [z,h0] at y2;cases y2
     refine⟨y1,?_,ws,by rw [zk hrx];exact y3,y4⟩
     rw [ze hrx]
     unfold del
     split
     ·rfl
     ·exact y2
    ·have hi2:i=rs.length:=by
      have:=(List.getElem?_eq_some_iff.mp e1).1
      simp at this;omega
     subst hi2
     rw [List.getElem?_append_right (Nat.le_refl _)] at e1
     simp at e1
     subst e1
     rw [hl,List.getElem?_append_right (Nat.le_refl _)] at e2
     simp at e2
     subst e2
     exact⟨hzb,by rw [ze (Ne.symm hab),x6],vb,by rw [zk (Ne.symm hab)];exact hb1,yI (Γ:=Γ) hb2⟩
  ·rw [ze hx] at e
   have hxb:x≠b:=fun z=>by rw [z,x6] at e;cases e
   rw [vk hxb] at e
   obtain⟨q1,q2⟩:=S.o _ _ e
   refine⟨q1,q2.keep le (zk hx) (by simp [hx]) fun ss r hgs ⟨rows',hrw⟩ hq=>?_⟩
   subst hrw
   obtain⟨w1,w2,ws,w3⟩:=S.rowIn e hgs hq
   have hra:r≠a:=fun z=>by rw [z,h0] at w2;cases w2
   have hrb:r≠b:=fun z=>by rw [z,hb] at w2;cases w2
   exact⟨zk hra,rfl,by rw [ze hra,vk hrb]⟩
 ·by_cases hx:x=a
  ·exact⟨_,by rw [hx,zC]⟩
  ·obtain⟨o,h⟩:=S.gd x ss (by simpa [hx] using e)
   exact⟨o,by rw [zk hx];exact h⟩
 ·by_cases hx:x=a
  ·subst hx;rw [zc] at e;cases e;exact absurd rfl (hn' _)
  ·rw [ze hx] at e
   by_cases hxb:x=b
   ·rw [hxb,x6] at e;cases e
   ·rw [vk hxb] at e
    simpa [hx] using S.gn x o' e hn'
 ·by_cases hd:d=a
  ·subst hd
   simp at g1
   subst g1
   intro m
   rcases List.mem_append.mp m with m |m
   ·exact (S.fd c o' e).2.2 d rows rs h0 hg m
   ·simp at m;exact nFb _ _ e m
  ·obtain⟨ry,e2⟩:=k1 e1
   exact (S.fd c o' e).2.2 d ry ss e2 (by simpa [hd] using g1)
 ·obtain⟨r1,f1⟩:=k1 e1
  obtain⟨r2,f2⟩:=k1 e2
  have nb:∀ {z:Addr}{rz:List (List PyData)}{sz:List Addr},O z=some (.grid rz)->Γ.G z=some sz->b ∉ sz:=fun hz1 hz2 m=>by
   obtain⟨_,q,_⟩:=S.rowIn hz1 hz2 m
   rw [hb] at q;cases q
  by_cases hx:x=a
  ·by_cases hy:y=a
   ·rw [hx,hy]
   ·have g2':Γ.G y=some tt:=by simpa [hy] using g2
    rw [hx] at g1 ⊢
    simp at g1
    subst g1
    rcases List.mem_append.mp m1 with m |m
    ·exact S.u a y rows r2 rs tt r h0 f2 hg g2' m m2
    ·simp at m;subst m;exact absurd m2 (nb f2 g2')
  ·have g1':Γ.G x=some ss:=by simpa [hx] using g1
   by_cases hy:y=a
   ·rw [hy] at g2 ⊢
    simp at g2
    subst g2
    rcases List.mem_append.mp m2 with m |m
    ·exact S.u x a r1 rows ss rs r f1 h0 g1' hg m1 m
    ·simp at m;subst m;exact absurd m1 (nb f1 g1')
   ·exact S.u x y r1 r2 ss tt r f1 f2 g1' (by simpa [hy] using g2) m1 m2
theorem relW.setF {F:Hp}:∀ {w:W}{v:V},relW K Γ w v->relW K ⟨Γ.Z,Γ.G,F⟩ w v
 |.d _,_,h=>h
 |.own _,_,h=>h
 |.row _ _,_,h=>h
theorem relR.setF {F:Hp}{ρ:List (Option W)}{σ:St}(r:relR K Γ ρ σ):relR K ⟨Γ.Z,Γ.G,F⟩ ρ σ:=Paired.mapP r fun a b h=>by
 cases a with
 |none=>trivial
 |some w=>cases b with
  |none=>exact h
  |some v=>exact relW.setF h
theorem ObjW.setF {F:Hp}{a:Addr}{oo:OO}(h:ObjW K Γ O H a oo):ObjW K ⟨Γ.Z,Γ.G,F⟩ O H a oo:=by
 cases oo with
 |lst ws=>obtain⟨vs,h1,h2⟩:=h;exact⟨vs,h1,Paired.mapP h2 fun _ _ z=>z.setF⟩
 |dK ws=>obtain⟨vs,h1,h2⟩:=h;exact⟨vs,h1,Paired.mapP h2 fun _ _ z=>⟨z.1,z.2.setF⟩⟩
 |ins C dx ws=>obtain⟨vs,h1,h2⟩:=h;exact⟨vs,h1,Paired.mapP h2 fun _ _ z=>⟨z.1,z.2.setF⟩⟩
 |grid rows=>exact h
 |raw p=>exact h
theorem Sim.frameNew (S:Sim K Γ O H) {p:Addr}(hp:H p=none) (o:HO):Sim K ⟨Γ.Z,Γ.G,upd Γ.F p o⟩ O (upd H p o):=by
 obtain⟨hz,hO,hG⟩:=S.free hp
 have key:∀ a o',upd Γ.F p o a=some o'->a=p\/(a≠p/\Γ.F a=some o'):=fun a o' e=>by
  by_cases ha:a=p
  ·exact .inl ha
  ·rw [zk ha] at e;exact .inr ⟨ha,e⟩
 refine⟨fun b u e=>?_,fun a oo e=>?_,fun a rs e=>?_,fun b u e=>?_,S.gn,fun a o' e=>?_,fun a o' e=>?_,S.u⟩
 ·rw [zk (fun z=>by rw [z,show ({ Z:=Γ.Z,G:=Γ.G,F:=upd Γ.F p o }:Gh).Z p=none from hz] at e;cases e)];exact S.z _ _ e
 ·have hap:a≠p:=fun z=>by rw [z,hO] at e;cases e
  obtain⟨h1,h2⟩:=S.o _ _ e
  refine⟨h1,(h2.keep (Le.refl _) (zk hap) rfl fun rs r hg ⟨rows,hrw⟩ hr=>?_).setF⟩
  subst hrw
  obtain⟨_,_,vs,q⟩:=S.rowIn e hg hr
  exact⟨zk (fun z=>by rw [z,hp] at q;cases q),rfl,rfl⟩
 ·obtain⟨o',h⟩:=S.gd _ _ e
  exact⟨o',by rw [zk (y8 h hp)];exact h⟩
 ·replace e:upd Γ.F p o b=some u:=e
  rcases key b u e with rfl | ⟨hb,e'⟩
  ·rw [zC] at e ⊢;exact e
  ·rw [zk hb];exact S.f _ _ e'
 ·rcases key a o' e with rfl | ⟨hb,e'⟩
  ·exact hG
  ·exact S.fg _ _ e'
 ·rcases key a o' e with rfl | ⟨hb,e'⟩
  ·refine⟨hz,hO,fun b rows rs e1 g1 m=>?_⟩
   obtain⟨_,_,vs,q⟩:=S.rowIn e1 g1 m
   rw [hp] at q;cases q
  ·exact S.fd _ _ e'
theorem Sim.framePut (S:Sim K Γ O H) {a:Addr}{o1:HO}(h:Γ.F a=some o1) (o:HO):Sim K ⟨Γ.Z,Γ.G,upd Γ.F a o⟩ O (upd H a o):=by
 obtain⟨hz,hO,hr⟩:=S.fd _ _ h
 have hG:=S.fg _ _ h
 have key:∀ b o',upd Γ.F a o b=some o'->b=a\/(b≠a/\Γ.F b=some o'):=fun b o' e=>by
  by_cases ha:b=a
  ·exact .inl ha
  ·rw [zk ha] at e;exact .inr ⟨ha,e⟩
 refine⟨fun b u e=>?_,fun b oo e=>?_,fun b rs e=>?_,fun b u e=>?_,S.gn,fun b o' e=>?_,fun b o' e=>?_,S.u⟩
 ·rw [zk (fun z=>by rw [z,show ({ Z:=Γ.Z,G:=Γ.G,F:=upd Γ.F a o }:Gh).Z a=none from hz] at e;cases e)];exact S.z _ _ e
 ·have hap:b≠a:=fun z=>by rw [z,hO] at e;cases e
  obtain⟨h1,h2⟩:=S.o _ _ e
  refine⟨h1,(h2.keep (Le.refl _) (zk hap) rfl fun rs r hg ⟨rows,hrw⟩ hm=>?_).setF⟩
  subst hrw
  exact⟨zk (fun z=>hr b rows rs e hg (by rw [<- z];exact hm)),rfl,rfl⟩
 ·obtain⟨o',h⟩:=S.gd _ _ e
  by_cases hb:b=a
  ·exact⟨o,by rw [hb,zC]⟩
  ·exact⟨o',by rw [zk hb];exact h⟩
 ·replace e:upd Γ.F a o b=some u:=e
  rcases key b u e with rfl | ⟨hb,e'⟩
  ·rw [zC] at e ⊢;exact e
  ·rw [zk hb];exact S.f _ _ e'
 ·rcases key b o' e with rfl | ⟨hb,e'⟩
  ·exact hG
  ·exact S.fg _ _ e'
 ·rcases key b o' e with rfl | ⟨hb,e'⟩
  ·exact⟨hz,hO,hr⟩
  ·exact S.fd _ _ e'
theorem Sim.frameOwn (S:Sim K Γ O H) {a:Addr}{ws:List W}(h:O a=some (.lst ws)):∃ vs,H a=some (.lst vs)/\relWs K Γ ws vs/\Sim K ⟨Γ.Z,Γ.G,upd Γ.F a (.lst vs)⟩ (del O a) H:=by
 obtain⟨hz,vs,h1,h2⟩:=S.o _ _ h
 have hG:=S.gn _ _ h (by intro _ z;cases z)
 have S1:=S.drop a
 have key:∀ b o',upd Γ.F a (.lst vs) b=some o'->b=a\/(b≠a/\Γ.F b=some o'):=fun b o' e=>by
  by_cases ha:b=a
  ·exact .inl ha
  ·rw [zk ha] at e;exact .inr ⟨ha,e⟩
 refine⟨vs,h1,h2,⟨S.z,fun b oo e=>⟨(S1.o b oo e).1,(S1.o b oo e).2.setF⟩,S.gd,fun b u e=>?_,S1.gn,fun b o' e=>?_,fun b o' e=>?_,S1.u⟩⟩
 ·replace e:upd Γ.F a (.lst vs) b=some u:=e
  rcases key b u e with rfl | ⟨hb,e'⟩
  ·rw [zC] at e;cases e;exact h1
  ·exact S.f _ _ e'
 ·rcases key b o' e with rfl | ⟨hb,e'⟩
  ·exact hG
  ·exact S.fg _ _ e'
 ·rcases key b o' e with rfl | ⟨hb,e'⟩
  ·refine⟨hz,x6,fun c rows rs e1 g1 m=>?_⟩
   obtain⟨_,q,_⟩:=S1.rowIn e1 g1 m
   have hc:c≠b:=fun z=>by rw [z,x6] at e1;cases e1
   rw [vk hc] at e1
   have:=(S.rowIn e1 g1 m).2.1
   rw [h] at this;cases this
  ·exact S1.fd _ _ e'
theorem Sim.unframe (S:Sim K Γ O H) {a:Addr}{ds:List PyData}{vs:List V}{F:Hp}(hF:Γ.F=upd F a (.lst vs)) (h0:F a=none) (hr:Reps K Γ.Z ds vs) :
  Same Γ.Z (upd Γ.Z a (.lst vs))/\Sim K ⟨upd Γ.Z a (.lst vs),Γ.G,F⟩ O H/\relW K ⟨upd Γ.Z a (.lst vs),Γ.G,F⟩ (.d (.list ds)) (.ref a):=by
 have hFa:Γ.F a=some (.lst vs):=by rw [hF,zC]
 obtain⟨hz,hO,hrow⟩:=S.fd _ _ hFa
 have le:Le Γ ⟨upd Γ.Z a (.lst vs),Γ.G,Γ.F⟩:=Le.zOnly (xT hz)
 have kF:∀ b o,F b=some o->b≠a/\Γ.F b=some o:=fun b o e=>by
  have hb:b≠a:=fun z=>by rw [z,h0] at e;cases e
  exact⟨hb,by rw [hF,zk hb];exact e⟩
 refine⟨xT hz,⟨fun b u e=>?_,fun b oo e=>?_,S.gd,fun b u e=>S.f _ _ (kF b u e).2,S.gn,fun b o e=>S.fg b o (kF b o e).2,fun b o e=>⟨(zk (kF b o e).1).trans (S.fd b o (kF b o e).2).1,(S.fd b o (kF b o e).2).2⟩,S.u⟩,⟨a,vs,rfl,SqL.of zC,Reps.same (xT hz) _ _ hr⟩⟩
 ·replace e:upd Γ.Z a (.lst vs) b=some u:=e
  by_cases hb:b=a
  ·subst hb;rw [zC] at e;cases e;exact S.f _ _ hFa
  ·rw [zk hb] at e;exact S.z _ _ e
 ·obtain⟨q1,q2⟩:=S.o _ _ e
  have hb:b≠a:=fun z=>by rw [z,hO] at e;cases e
  refine⟨(zk hb).trans q1,(q2.keep le rfl rfl fun rs r hg ⟨rows,hrw⟩ hm=>⟨rfl,?_,rfl⟩).setF⟩
  subst hrw
  exact zk (fun z=>hrow b rows rs e hg (by rw [<- z];exact hm))
theorem Sim.gridify (S:Sim K Γ O H) {a:Addr}{rs:List Addr}{rows:List (List PyData)}{F:Hp}(h0:F a=none) (hFa:Γ.F a=some (.lst (rs.map V.ref))) (hn:rs.Nodup) (har:a ∉ rs) (hl:rs.length=rows.length)
  (hrow:∀ (i:Nat) (r:Addr) (ds:List PyData),rs[i]? =some r->rows[i]? =some ds->F r=none/\∃ vs,Γ.F r=some (.lst vs)/\Reps K Γ.Z ds vs) (hF:∀ x,x≠a->x ∉ rs->Γ.F x=F x) :
  O a=none/\∃ G',(∀ b ss,Γ.G b=some ss->G' b=some ss)/\Sim K ⟨Γ.Z,G',F⟩ (updO O a (.grid rows)) H:=by
 obtain⟨hz,hO,_⟩:=S.fd _ _ hFa
 have hG:=S.fg _ _ hFa
 have hmem:∀ r∈rs,F r=none/\∃ vs,Γ.F r=some (.lst vs):=fun r hr=>by
  obtain⟨i,hi,rfl⟩:=List.mem_iff_getElem.mp hr
  obtain⟨q1,vs,q2,_⟩:=hrow i rs[i] (rows[i]'(by omega)) (List.getElem?_eq_getElem hi) (List.getElem?_eq_getElem (by omega))
  exact⟨q1,vs,q2⟩
 have kF:∀ b o,F b=some o->b≠a/\b ∉ rs/\Γ.F b=some o:=fun b o e=>by
  have hb:b≠a:=fun z=>by rw [z,h0] at e;cases e
  have hb2:b ∉ rs:=fun m=>by rw [(hmem b m).1] at e;cases e
  exact⟨hb,hb2,by rw [hF b hb hb2];exact e⟩
 have le:Le Γ ⟨Γ.Z,fun b=>if b=a then some rs else Γ.G b,Γ.F⟩:=⟨rfl,Same.refl _,fun b ss h=>⟨[],by
  have:b≠a:=fun e=>by rw [e,hG] at h;cases h
  simp [this,h]⟩⟩
 refine⟨hO,fun b=>if b=a then some rs else Γ.G b,fun b ss h=>by
  have:b≠a:=fun e=>by rw [e,hG] at h;cases h
  simp [this,h],⟨S.z,fun b oo e=>?_,fun b ss e=>?_,fun b u e=>S.f _ _ (kF b u e).2.2,fun b oo e hne=>?_,fun b o e=>?_,fun b o e=>?_,fun b c rb rc ss tt r e1 e2 g1 g2 m1 m2=>?_⟩⟩
 ·by_cases hb:b=a
  ·subst hb
   rw [zc] at e
   cases e
   refine⟨hz,rs,by simp,S.f _ _ hFa,hl,hn,fun i r ds q1 q2=>?_⟩
   obtain⟨_,vs,q3,q4⟩:=hrow i r ds q1 q2
   obtain⟨y1,y2,_⟩:=S.fd _ _ q3
   refine⟨y1,?_,vs,S.f _ _ q3,q4⟩
   rw [ze (fun z=>har (by rw [<- z];exact List.mem_of_getElem? q1))]
   exact y2
  ·rw [ze hb] at e
   obtain⟨q1,q2⟩:=S.o _ _ e
   refine⟨q1,(q2.keep le rfl (by simp [hb]) fun ss r hg ⟨rows',hrw⟩ hm=>⟨rfl,rfl,?_⟩).setF⟩
   subst hrw
   obtain⟨_,q,_⟩:=S.rowIn e hg hm
   exact ze (fun z=>(S.fd _ _ hFa).2.2 b rows' ss e hg (by rw [<- z];exact hm))
 ·by_cases hb:b=a
  ·rw [hb];exact⟨_,S.f _ _ hFa⟩
  ·exact S.gd b ss (by simpa [hb] using e)
 ·by_cases hb:b=a
  ·subst hb;rw [zc] at e;cases e;exact absurd rfl (hne _)
  ·rw [ze hb] at e
   simpa [hb] using S.gn b oo e hne
 ·have:=(kF b o e).1
  simpa [this] using S.fg b o (kF b o e).2.2
 ·obtain⟨k1,k2,k3⟩:=kF b o e
  obtain⟨y1,y2,y3⟩:=S.fd _ _ k3
  refine⟨y1,by rw [ze k1];exact y2,fun c rows' ss e1 g1=>?_⟩
  by_cases hc:c=a
  ·subst hc;simp at g1;subst g1;exact k2
  ·rw [ze hc] at e1
   exact y3 c rows' ss e1 (by simpa [hc] using g1)
 ·by_cases hb:b=a
  ·by_cases hc:c=a
   ·rw [hb,hc]
   ·subst hb
    simp at g1
    subst g1
    rw [ze hc] at e2
    obtain⟨_,vs,q⟩:=hmem r m1
    exact absurd m2 ((S.fd _ _ q).2.2 c rc tt e2 (by simpa [hc] using g2))
  ·rw [ze hb] at e1
   by_cases hc:c=a
   ·subst hc
    simp at g2
    subst g2
    obtain⟨_,vs,q⟩:=hmem r m2
    exact absurd m1 ((S.fd _ _ q).2.2 b rb ss e1 (by simpa [hb] using g1))
   ·rw [ze hc] at e2
    exact S.u b c rb rc ss tt r e1 e2 (by simpa [hb] using g1) (by simpa [hc] using g2) m1 m2
end
noncomputable abbrev WS:=List (Option W)
abbrev WK:=W->OM->Prop
abbrev TEW:=WS->OM->WK->Prop
abbrev TTW:=WS->OM->(Bool->OM->Prop)->Prop
abbrev TAW:=WS->OM->(List W->OM->Prop)->Prop
structure EndsW where
 nx:WS->OM->Prop
 rt:WK
 bk:WS->OM->Prop:=fun _ _=>False
 ct:WS->OM->Prop:=fun _ _=>False
abbrev TSW:=EndsW->WS->OM->Prop
abbrev TGW:=W->WS->OM->(WS->OM->Prop)->Prop
abbrev TGsW:=List PyData->WS->OM->(WS->OM->Prop)->Prop
abbrev R2W:=W->W->OM->WK->Prop
section
variable (K:W.Frag)
def RefE (t:TE) (T:TEW):Prop:=∀ Γ O H ρ σ,Sim K Γ O H->relR K Γ ρ σ->∀ (Q:VK) (R:WK),T ρ O R->(∀ Γ' O' H' w v,Le Γ Γ'->Sim K Γ' O' H'->relW K Γ' w v->R w O'->Q v H')->t σ H Q
def x8 (t:TT) (T:TTW):Prop:=∀ Γ O H ρ σ,Sim K Γ O H->relR K Γ ρ σ->∀ (Q:Bool->Hp->Prop) (R:Bool->OM->Prop),T ρ O R->(∀ Γ' O' H' b,Le Γ Γ'->Sim K Γ' O' H'->R b O'->Q b H')->t σ H Q
def xN (t:TA) (T:TAW):Prop:=∀ Γ O H ρ σ,Sim K Γ O H->relR K Γ ρ σ->∀ (Q:List V->Hp->Prop) (R:List W->OM->Prop),T ρ O R->(∀ Γ' O' H' ws vs,Le Γ Γ'->Sim K Γ' O' H'->relWs K Γ' ws vs->R ws O'->Q vs H')->t σ H Q
structure EndsR (Γ:Gh) (D:Ends) (DW:EndsW):Prop where
 nx:∀ Γ' O' H' ρ' σ',Le Γ Γ'->Sim K Γ' O' H'->relR K Γ' ρ' σ'->DW.nx ρ' O'->D.nx σ' H'
 rt:∀ Γ' O' H' w v,Le Γ Γ'->Sim K Γ' O' H'->relW K Γ' w v->DW.rt w O'->D.rt v H'
 bk:∀ Γ' O' H' ρ' σ',Le Γ Γ'->Sim K Γ' O' H'->relR K Γ' ρ' σ'->DW.bk ρ' O'->D.bk σ' H'
 ct:∀ Γ' O' H' ρ' σ',Le Γ Γ'->Sim K Γ' O' H'->relR K Γ' ρ' σ'->DW.ct ρ' O'->D.ct σ' H'
def RefS (t:TS) (T:TSW):Prop:=∀ Γ O H ρ σ D DW,Sim K Γ O H->relR K Γ ρ σ->T DW ρ O->EndsR K Γ D DW->t D σ H
def RefG (t:TG) (T:TGW):Prop:=∀ Γ O H ρ σ w v,Sim K Γ O H->relR K Γ ρ σ->relW K Γ w v->∀ (Q:St->Hp->Prop) (R:WS->OM->Prop),T w ρ O R->(∀ Γ' O' H' ρ' σ',Le Γ Γ'->Sim K Γ' O' H'->relR K Γ' ρ' σ'->R ρ' O'->Q σ' H')->t v σ H Q
def RefGs (t:TGs) (T:TGsW):Prop:=∀ Γ O H ρ σ ds vs,Sim K Γ O H->relR K Γ ρ σ->Reps K Γ.Z ds vs->∀ (Q:St->Hp->Prop) (R:WS->OM->Prop),T ds ρ O R->(∀ Γ' O' H' ρ' σ',Le Γ Γ'->Sim K Γ' O' H'->relR K Γ' ρ' σ'->R ρ' O'->Q σ' H')->t vs σ H Q
def RefR (r:R2) (rw:R2W):Prop:=∀ Γ O H x y v u,Sim K Γ O H->relW K Γ x v->relW K Γ y u->∀ (Q:VK) (R:WK),rw x y O R->(∀ Γ' O' H' w v,Le Γ Γ'->Sim K Γ' O' H'->relW K Γ' w v->R w O'->Q v H')->r v u H Q
def RefU (r:V->Hp->VK->Prop) (rw:W->OM->WK->Prop):Prop:=∀ Γ O H x v,Sim K Γ O H->relW K Γ x v->∀ (Q:VK) (R:WK),rw x O R->(∀ Γ' O' H' w v,Le Γ Γ'->Sim K Γ' O' H'->relW K Γ' w v->R w O'->Q v H')->r v H Q
def RefC (r:List V->Hp->VK->Prop) (rw:List W->OM->WK->Prop):Prop:=∀ Γ O H xs vs,Sim K Γ O H->relWs K Γ xs vs->∀ (Q:VK) (R:WK),rw xs O R->(∀ Γ' O' H' w v,Le Γ Γ'->Sim K Γ' O' H'->relW K Γ' w v->R w O'->Q v H')->r vs H Q
def RefM (ty:String) (r:V->List V->Hp->VK->Prop) (rw:W->List W->OM->WK->Prop):Prop:=∀ Γ O H x v xs vs,Sim K Γ O H->relW K Γ x v->relWs K Γ xs vs->∀ (Q:VK) (R:WK),rw x xs O R->(∀ Γ' O' H' w v,Le Γ Γ'->Sim K Γ' O' H'->relW K Γ' w v->R w O'->Q v H')->r v vs H Q
end
section
variable {K:W.Frag}
theorem EndsR.mono {Γ Γ':Gh}{D:Ends}{DW:EndsW}(h:EndsR K Γ D DW) (l:Le Γ Γ'):EndsR K Γ' D DW:=
 ⟨fun _ _ _ _ _ l2=>h.nx _ _ _ _ _ (l.trans l2),fun _ _ _ _ _ l2=>h.rt _ _ _ _ _ (l.trans l2),fun _ _ _ _ _ l2=>h.bk _ _ _ _ _ (l.trans l2),fun _ _ _ _ _ l2=>h.ct _ _ _ _ _ (l.trans l2)⟩
noncomputable def ofV:V->W
 |.int i=>.d (.int i)
 |.bl b=>.d (.bool b)
 |.str x=>.d (.str x)
 |_=>.d .none
noncomputable def scV:V->Bool
 |.int _=>true
 |.bl _=>true
 |.str _=>true
 |.non=>true
 |_=>false
theorem kQ {Γ:Gh}{v:V}(h:scV v=true):relW K Γ (ofV v) v:=by
 cases v <;> first |rfl |simp [scV] at h
noncomputable def vOf:PyData->V
 |.int i=>.int i
 |.bool b=>.bl b
 |.str x=>.str x
 |.none=>.non
 |_=>.ty ""
noncomputable def scD:PyData->Bool
 |.int _=>true
 |.bool _=>true
 |.str _=>true
 |.none=>true
 |_=>false
theorem qW {Z:Hp}{x:PyData}{v:V}(h:Rep K Z x v) (s:scD x=true):v=vOf x:=by
 cases x <;> first |exact h |simp [scD] at s
theorem vF {Γ:Gh}{b:Bool}:relW K Γ (.d (.bool b)) (.bl b):=rfl
theorem UK {Γ:Gh}{b:Str}:relW K Γ (.d (.str b)) (.str b):=rfl
theorem qX {Γ:Gh}{b:Int}:relW K Γ (.d (.int b)) (.int b):=rfl
theorem xP {Γ:Gh}{a:Addr}:relW K Γ (.own a) (.ref a):=rfl
theorem zfz {Γ:Gh}{x:PyData}{v:V}(h:Rep K Γ.Z x v):relW K Γ (.d x) v:=h
theorem qY {Γ:Gh}:relW K Γ (.d .none) .non:=rfl
def zgn (i:Nat):TEW:=fun ρ O R=>∃ w,ρ[i]? =some (some w)/\R w O
def wC (x:PyData):TEW:=fun _ O R=>R (.d x) O
theorem zcy {i:Nat}:RefE K (U7 i) (zgn i):=by
 rintro Γ O H ρ σ S r Q R ⟨w,e,h⟩ k
 obtain⟨v,e',hv⟩:=r.get e
 exact⟨v,e',k _ _ _ _ _ (Le.refl _) S hv h⟩
theorem Xm {v:V}{x:PyData}(h:vOf x=v:=by rfl) (hs:scD x=true:=by rfl):RefE K (tC v) (wC x):=by
 rintro Γ O H ρ σ S r Q R hR k
 subst h
 refine k _ _ _ _ _ (Le.refl _) S ?_ hR
 cases x <;> first |rfl |simp [scD] at hs
theorem zcz {i:Int}:RefE K (tC (.int i)) (wC (.int i)):=Xm
theorem zcA {i:Str}:RefE K (tC (.str i)) (wC (.str i)):=Xm
theorem zen {i:Bool}:RefE K (tC (.bl i)) (wC (.bool i)):=Xm
theorem zcB:RefE K (tC .non) (wC .none):=Xm
def wOp (r:R2W) (Ta Tb:TEW):TEW:=fun ρ O R=>Ta ρ O fun x O1=>Tb ρ O1 fun y O2=>r x y O2 R
theorem zeo {r:R2}{rw:R2W}{ta tb:TE}{Ta Tb:TEW}(hr:RefR K r rw) (ha:RefE K ta Ta) (hb:RefE K tb Tb):RefE K (tOp r ta tb) (wOp rw Ta Tb):=by
 intro Γ O H ρ σ S r0 Q R h k
 refine ha Γ O H ρ σ S r0 _ _ h fun Γ1 O1 H1 x v l1 S1 rx h1=>?_
 refine hb Γ1 O1 H1 ρ σ S1 (r0.mono l1) _ _ h1 fun Γ2 O2 H2 y u l2 S2 ry h2=>?_
 exact hr Γ2 O2 H2 x y v u S2 (rx.mono l2) ry _ _ h2 fun Γ3 O3 H3 w z l3 S3 rz h3=>k Γ3 O3 H3 w z ((l1.trans l2).trans l3) S3 rz h3
def wUn (r:W->OM->WK->Prop) (Ta:TEW):TEW:=fun ρ O R=>Ta ρ O fun x O1=>r x O1 R
theorem zep {r:V->Hp->VK->Prop}{rw:W->OM->WK->Prop}{ta:TE}{Ta:TEW}(hr:RefU K r rw) (ha:RefE K ta Ta):RefE K (tUn r ta) (wUn rw Ta):=by
 intro Γ O H ρ σ S r0 Q R h k
 refine ha Γ O H ρ σ S r0 _ _ h fun Γ1 O1 H1 x v l1 S1 rx h1=>?_
 exact hr Γ1 O1 H1 x v S1 rx _ _ h1 fun Γ3 O3 H3 w z l3 S3 rz h3=>k Γ3 O3 H3 w z (l1.trans l3) S3 rz h3
def wI0 (g:Int->Int->V):R2W:=fun x y O R=>∃ i j,x=.d (.int i)/\y=.d (.int j)/\R (ofV (g i j)) O
def wI (C:Int->Int->Prop) (g:Int->Int->V):R2W:=fun x y O R=>∃ i j,x=.d (.int i)/\y=.d (.int j)/\C i j/\R (ofV (g i j)) O
theorem zgo {g:Int->Int->V}(hg:∀ i j,scV (g i j)=true:=by intro _ _;rfl):RefR K (rI0 g) (wI0 g):=by
 rintro Γ O H x y v u S rx ry Q R ⟨i,j,rfl,rfl,h⟩ k
 exact⟨i,j,rx,ry,k _ _ _ _ _ (Le.refl _) S (kQ (hg i j)) h⟩
theorem r_I {C:Int->Int->Prop}{g:Int->Int->V}(hg:∀ i j,scV (g i j)=true:=by intro _ _;rfl):RefR K (rI C g) (wI C g):=by
 rintro Γ O H x y v u S rx ry Q R ⟨i,j,rfl,rfl,c,h⟩ k
 exact⟨i,j,rx,ry,c,k _ _ _ _ _ (Le.refl _) S (kQ (hg i j)) h⟩
def wU (g:Int->V):W->OM->WK->Prop:=fun x O R=>∃ i,x=.d (.int i)/\R (ofV (g i)) O
theorem r_U {g:Int->V}(hg:∀ i,scV (g i)=true:=by intro _;rfl):RefU K (rU g) (wU g):=by
 rintro Γ O H x v S rx Q R ⟨i,rfl,h⟩ k
 exact⟨i,rx,k _ _ _ _ _ (Le.refl _) S (kQ (hg i)) h⟩
def wEq:R2W:=fun x y O R=>∃ a b,x=.d a/\y=.d b/\scD a=true/\scD b=true/\jU (vOf a) (vOf b)=true/\R (.d (.bool (decide (vOf a=vOf b)))) O
def wNe:R2W:=fun x y O R=>∃ a b,x=.d a/\y=.d b/\scD a=true/\scD b=true/\jU (vOf a) (vOf b)=true/\R (.d (.bool (!decide (vOf a=vOf b)))) O
theorem zgp:RefR K rEq wEq:=by
 rintro Γ O H x y v u S rx ry Q R ⟨a,b,rfl,rfl,sa,sb,sc,h⟩ k
 rw [qW rx sa,qW ry sb]
 exact⟨sc,k _ _ _ _ _ (Le.refl _) S vF h⟩
theorem zgq:RefR K rNe wNe:=by
 rintro Γ O H x y v u S rx ry Q R ⟨a,b,rfl,rfl,sa,sb,sc,h⟩ k
 rw [qW rx sa,qW ry sb]
 exact⟨sc,k _ _ _ _ _ (Le.refl _) S vF h⟩
def zeq:R2W:=fun x y O R=>∃ a b,vO O x=some a/\vO O y=some b/\SeqAt.shaped a=true/\SeqAt.shaped b=true/\R (.d (.bool (PyData.eqv a b))) O
def zer:R2W:=fun x y O R=>∃ a b,vO O x=some a/\vO O y=some b/\SeqAt.shaped a=true/\SeqAt.shaped b=true/\R (.d (.bool (!PyData.eqv a b))) O
theorem zfA:RefR K (K1 K) zeq:=by
 rintro Γ O H x y v u S rx ry Q R ⟨a,b,e1,e2,s1,s2,h⟩ k
 exact⟨a,b,uH S rx e1,uH S ry e2,s1,s2,k _ _ _ _ _ (Le.refl _) S vF h⟩
theorem zfB:RefR K (K2 K) zer:=by
 rintro Γ O H x y v u S rx ry Q R ⟨a,b,e1,e2,s1,s2,h⟩ k
 exact⟨a,b,uH S rx e1,uH S ry e2,s1,s2,k _ _ _ _ _ (Le.refl _) S vF h⟩
noncomputable def vZ:W->Bool
 |.d .none=>true
 |_=>false
theorem XW {Γ:Gh}{w:W}{v:V}(r:relW K Γ w v):decide (v=.non)=vZ w:=by
 cases w with
 |d x=>
  cases x with
  |none=>rw [show v=.non from r];rfl
  |list ds=>obtain⟨a,_,rfl,_⟩:=r;rfl
  |tuple ds=>obtain⟨a,_,rfl,_⟩:=r;rfl
  |dict _=>obtain⟨_,a,rfl,_⟩:=r;rfl
  |int i=>rw [show v=.int i from r];rfl
  |bool i=>rw [show v=.bl i from r];rfl
  |str i=>rw [show v=.str i from r];rfl
 |own a=>rw [show v=.ref a from r];rfl
 |row a i=>obtain⟨rs,r0,_,_,rfl⟩:=r;rfl
def zgr:R2W:=fun x y O R=>y=.d .none/\R (.d (.bool (vZ x))) O
def zfC:R2W:=fun x y O R=>y=.d .none/\R (.d (.bool (!vZ x))) O
theorem zfD:RefR K (fun x y H Q=>y=.non/\Q (.bl (decide (x=.non))) H) zgr:=by
 rintro Γ O H x y v u S rx ry Q R ⟨rfl,h⟩ k
 refine⟨ry,k _ _ _ _ _ (Le.refl _) S ?_ h⟩
 rw [XW rx];rfl
theorem zes:RefR K (fun x y H Q=>y=.non/\Q (.bl (!decide (x=.non))) H) zfC:=by
 rintro Γ O H x y v u S rx ry Q R ⟨rfl,h⟩ k
 refine⟨ry,k _ _ _ _ _ (Le.refl _) S ?_ h⟩
 rw [XW rx];rfl
noncomputable def Qz (b:Bool):W->Bool
 |.d (.bool c)=>decide (c=b)
 |_=>false
theorem zcC {Γ:Gh}{w:W}{v:V}{b:Bool}(r:relW K Γ w v):decide (v=.bl b)=Qz b w:=by
 cases w with
 |d x=>
  cases x with
  |none=>rw [show v=.non from r];rfl
  |list ds=>obtain⟨a,_,rfl,_⟩:=r;rfl
  |tuple ds=>obtain⟨a,_,rfl,_⟩:=r;rfl
  |dict _=>obtain⟨_,a,rfl,_⟩:=r;rfl
  |int i=>rw [show v=.int i from r];rfl
  |bool i=>rw [show v=.bl i from r];simp [Qz]
  |str i=>rw [show v=.str i from r];rfl
 |own a=>rw [show v=.ref a from r];rfl
 |row a i=>obtain⟨rs,r0,_,_,rfl⟩:=r;rfl
def zet:R2W:=fun x y O R=>∃ b,y=.d (.bool b)/\R (.d (.bool (Qz b x))) O
theorem zfE:RefR K (fun x y H Q=>∃ b,y=.bl b/\Q (.bl (decide (x=.bl b))) H) zet:=by
 rintro Γ O H x y v u S rx ry Q R ⟨b,rfl,h⟩ k
 refine⟨b,ry,k _ _ _ _ _ (Le.refl _) S ?_ h⟩
 rw [zcC rx];rfl
def zgs:R2W:=fun x y O R=>∃ ws i w,y=.d (.int i)/\yN O x=some ws/\atI ws i=some w/\R w O
def zeu:R2W:=fun x y O R=>∃ ds i e,y=.d (.int i)/\xD x=some ds/\atI ds i=some e/\R (.d e) O
def zev:R2W:=fun x y O R=>∃ z i c,x=.d (.str z)/\y=.d (.int i)/\z.length≤sizeLine/\atI z.cps.toList i=some c/\R (.d (.str ⟨#[c]⟩)) O
theorem ZY {α β:Type}{F:α->β->Prop}{xs:List α}{ys:List β}{i:Int}{x:α}(r:Paired F xs ys) (e:atI xs i=some x):∃ y,atI ys i=some y/\F x y:=by
 unfold atI at e ⊢
 rw [<- Paired.length r]
 cases h:ixN xs.length i with
 |none=>rw [h] at e;cases e
 |some j=>
  rw [h] at e
  exact Paired.getP r e
theorem zfF:RefR K (Qn K) zgs:=by
 rintro Γ O H x y v u S rx ry Q R ⟨ws,i,w,rfl,e,h1,h⟩ k
 obtain⟨a,vs,rfl,q1,q2⟩:=xv S rx e
 obtain⟨z,h2,h3⟩:=ZY q2 h1
 exact⟨a,vs,i,z,rfl,ry,q1,h2,k _ _ _ _ _ (Le.refl _) S h3 h⟩
theorem zfG:RefR K (KU K) zeu:=by
 rintro Γ O H x y v u S rx ry Q R ⟨ds,i,w,rfl,e,h1,h⟩ k
 obtain⟨a,vs,rfl,q1,q2⟩:=uy S rx e
 have h1':atI (ds.map W.d) i=some (.d w):=by
  unfold atI at h1 ⊢
  rw [List.length_map]
  cases hj:ixN ds.length i with
  |none=>rw [hj] at h1;cases h1
  |some j=>
   rw [hj] at h1
   replace h1:ds[j]? =some w:=h1
   show (ds.map W.d)[j]? =some (.d w)
   rw [List.getElem?_map,h1];rfl
 obtain⟨z,h2,h3⟩:=ZY q2 h1'
 exact⟨a,vs,i,z,rfl,ry,q1,h2,k _ _ _ _ _ (Le.refl _) S h3 h⟩
theorem zfH:RefR K zd5 zev:=by
 rintro Γ O H x y v u S rx ry Q R ⟨z,i,c,rfl,rfl,hl,h1,h⟩ k
 exact⟨z,i,c,rx,ry,hl,h1,k _ _ _ _ _ (Le.refl _) S UK h⟩
def zac (T U:TTW):TTW:=fun ρ O R=>T ρ O fun c O1=>if c=true then U ρ O1 R else R false O1
def wOr (T U:TTW):TTW:=fun ρ O R=>T ρ O fun c O1=>if c=true then R true O1 else U ρ O1 R
def zad (T:TTW):TTW:=fun ρ O R=>T ρ O fun c O1=>R (!c) O1
theorem zcD {t u:TT}{T U:TTW}(h:x8 K t T) (g:x8 K u U):x8 K (zdJ t u) (zac T U):=by
 intro Γ O H ρ σ S r0 Q R hT k
 refine h Γ O H ρ σ S r0 _ _ hT fun Γ1 O1 H1 b l1 S1 h1=>?_
 cases b with
 |true=>rw [if_pos rfl] at h1 ⊢;exact g _ _ _ _ _ S1 (r0.mono l1) _ _ h1 fun Γ2 O2 H2 c l2 S2 h2=>k _ _ _ _ (l1.trans l2) S2 h2
 |false=>rw [if_neg (by decide)] at h1 ⊢;exact k _ _ _ _ l1 S1 h1
theorem zew {t u:TT}{T U:TTW}(h:x8 K t T) (g:x8 K u U):x8 K (tOr t u) (wOr T U):=by
 intro Γ O H ρ σ S r0 Q R hT k
 refine h Γ O H ρ σ S r0 _ _ hT fun Γ1 O1 H1 b l1 S1 h1=>?_
 cases b with
 |false=>rw [if_neg (by decide)] at h1 ⊢;exact g _ _ _ _ _ S1 (r0.mono l1) _ _ h1 fun Γ2 O2 H2 c l2 S2 h2=>k _ _ _ _ (l1.trans l2) S2 h2
 |true=>rw [if_pos rfl] at h1 ⊢;exact k _ _ _ _ l1 S1 h1
theorem zcE {t:TT}{T:TTW}(h:x8 K t T):x8 K (zdK t) (zad T):=by
 intro Γ O H ρ σ S r0 Q R hT k
 exact h Γ O H ρ σ S r0 _ _ hT fun Γ1 O1 H1 b l1 S1 h1=>k _ _ _ _ l1 S1 h1
def zbC (Ta Tb:TEW):TEW:=fun ρ O R=>Ta ρ O fun x O1=>∃ c,x=.d (.bool c)/\if c=true then Tb ρ O1 R else R (.d (.bool false)) O1
def zbD (Ta:TEW):TEW:=fun ρ O R=>Ta ρ O fun x O1=>∃ c,x=.d (.bool c)/\R (.d (.bool (!c))) O1
theorem zae {ta tb:TE}{Ta Tb:TEW}(ha:RefE K ta Ta) (hb:RefE K tb Tb):RefE K (zbf ta tb) (zbC Ta Tb):=by
 intro Γ O H ρ σ S r0 Q R hT k
 refine ha Γ O H ρ σ S r0 _ _ hT fun Γ1 O1 H1 x v l1 S1 rx h1=>?_
 obtain⟨c,rfl,h1⟩:=h1
 refine⟨c,rx,?_⟩
 cases c with
 |true=>rw [if_pos rfl] at h1 ⊢;exact hb _ _ _ _ _ S1 (r0.mono l1) _ _ h1 fun Γ2 O2 H2 y u l2 S2 ry h2=>k _ _ _ _ _ (l1.trans l2) S2 ry h2
 |false=>rw [if_neg (by decide)] at h1 ⊢;exact k _ _ _ _ _ l1 S1 vF h1
theorem zaf {ta:TE}{Ta:TEW}(ha:RefE K ta Ta):RefE K (zbg ta) (zbD Ta):=by
 intro Γ O H ρ σ S r0 Q R hT k
 refine ha Γ O H ρ σ S r0 _ _ hT fun Γ1 O1 H1 x v l1 S1 rx h1=>?_
 obtain⟨c,rfl,h1⟩:=h1
 exact⟨c,rx,k _ _ _ _ _ l1 S1 vF h1⟩
def wIf (T:TTW) (Ta Tb:TEW):TEW:=fun ρ O R=>T ρ O fun c O1=>if c=true then Ta ρ O1 R else Tb ρ O1 R
theorem zex {t:TT}{T:TTW}{ta tb:TE}{Ta Tb:TEW}(h:x8 K t T) (ha:RefE K ta Ta) (hb:RefE K tb Tb):RefE K (tIf t ta tb) (wIf T Ta Tb):=by
 intro Γ O H ρ σ S r0 Q R hT k
 refine h Γ O H ρ σ S r0 _ _ hT fun Γ1 O1 H1 b l1 S1 h1=>?_
 cases b with
 |true=>rw [if_pos rfl] at h1 ⊢;exact ha _ _ _ _ _ S1 (r0.mono l1) _ _ h1 fun Γ2 O2 H2 y u l2 S2 ry h2=>k _ _ _ _ _ (l1.trans l2) S2 ry h2
 |false=>rw [if_neg (by decide)] at h1 ⊢;exact hb _ _ _ _ _ S1 (r0.mono l1) _ _ h1 fun Γ2 O2 H2 y u l2 S2 ry h2=>k _ _ _ _ _ (l1.trans l2) S2 ry h2
noncomputable def QB (O:OM):W->Option Bool
 |.d .none=>some false
 |.d (.bool b)=>some b
 |.d (.int i)=>some (i != 0)
 |.d (.str z)=>some (z.length != 0)
 |.d (.list ds)=>some (!ds.isEmpty)
 |.d (.tuple ds)=>some (!ds.isEmpty)
 |.own a=>match O a with
  |some (.lst ws)=>some (!ws.isEmpty)
  |some (.dK kvs)=>some (!kvs.isEmpty)
  |_=>none
 |_=>none
noncomputable def XX:W->Prop
 |.d (.str z)=>z.length≤sizeLine
 |_=>True
theorem vh {α β:Type}{F:α->β->Prop}{xs:List α}{ys:List β}(r:Paired F xs ys):xs.isEmpty=ys.isEmpty:=by cases r <;> rfl
theorem zag {Γ:Gh}{O:OM}{H:Hp}{w:W}{v:V}{b:Bool}(S:Sim K Γ O H) (r:relW K Γ w v) (e:QB O w=some b) (hs:XX w):XE K v H b:=by
 cases w with
 |d x=>
  cases x with
  |none=>rw [show v=.non from r];cases e;rfl
  |bool i=>rw [show v=.bl i from r];cases e;rfl
  |int i=>rw [show v=.int i from r];cases e;rfl
  |str z=>
   rw [show v=.str z from r];cases e
   refine⟨hs,?_⟩
   show (z.length != 0)=((z.length:Int) != 0)
   cases hz:z.length with
   |zero=>rfl
   |succ n=>simp only [bne,Nat.beq_eq_true_eq];simp;omega
  |list ds=>
   cases e
   obtain⟨a,xs,rfl,h1,h2⟩:=r
   refine .inl ⟨xs,h1.same S.z,?_⟩
   rw [<- vh (xt h2:relWs K Γ _ _)]
   simp
  |tuple ds=>
   cases e
   obtain⟨a,xs,rfl,h1,h2⟩:=r
   refine .inr (.inl ⟨xs,h1.same S.z,?_⟩)
   rw [<- vh (xt h2:relWs K Γ _ _)]
   simp
  |dict _=>cases e
 |own a=>
  cases (show v=.ref a from r)
  simp only [QB] at e
  split at e
  ·rename_i ws h
   cases e
   obtain⟨_,vs,h1,h2⟩:=S.o _ _ h
   exact .inl ⟨vs,SqL.of h1,by rw [vh h2]⟩
  ·rename_i kvs h
   cases e
   obtain⟨_,vs,h1,h2⟩:=S.o _ _ h
   exact .inr (.inr ⟨vs,h1,by rw [vh h2]⟩)
  ·cases e
 |row a i=>cases e
def zah (T:TEW):TTW:=fun ρ O R=>T ρ O fun x O1=>∃ b,QB O1 x=some b/\XX x/\R b O1
theorem zcF {t:TE}{T:TEW}(h:RefE K t T):x8 K (fun σ H Q=>t σ H fun x H'=>∃ k,XE K x H' k/\Q k H') (zah T):=by
 intro Γ O H ρ σ S r0 Q R hT k
 refine h Γ O H ρ σ S r0 _ _ hT fun Γ1 O1 H1 x v l1 S1 rx h1=>?_
 obtain⟨c,e,hs,h1⟩:=h1
 exact⟨c,zag S1 rx e hs,k _ _ _ _ l1 S1 h1⟩
def zai:TAW:=fun _ O R=>R [] O
def QC (Ta:TEW) (Tr:TAW):TAW:=fun ρ O R=>Ta ρ O fun x O1=>Tr ρ O1 fun xs O2=>R (x :: xs) O2
theorem zcG:xN K Yq zai:=fun Γ O H ρ σ S r0 Q R h k=>k _ _ _ _ _ (Le.refl _) S .nil h
theorem zaj {ta:TE}{t:TA}{Ta:TEW}{T:TAW}(ha:RefE K ta Ta) (hr:xN K t T):xN K (ZL ta t) (QC Ta T):=by
 intro Γ O H ρ σ S r0 Q R h k
 refine ha Γ O H ρ σ S r0 _ _ h fun Γ1 O1 H1 x v l1 S1 rx h1=>?_
 exact hr Γ1 O1 H1 ρ σ S1 (r0.mono l1) _ _ h1 fun Γ2 O2 H2 ws vs l2 S2 rs h2=>k _ _ _ _ _ (l1.trans l2) S2 (.cons (rx.mono l2) rs) h2
def zey (T:TAW):TEW:=fun ρ O R=>T ρ O fun ws O1=>∃ ds,xq ws=some ds/\ds.length≤1000/\R (.d (.tuple ds)) O1
def zez (T:TAW):TEW:=fun ρ O R=>T ρ O fun ws O1=>∃ ds,xq ws=some ds/\ds.length≤1000/\R (.d (.list ds)) O1
theorem qZ {n:Nat}(h:n≤1000):n≤sizeLine:=Nat.le_of_lt (ve h)
theorem JV {Γ:Gh}{O:OM}{H:Hp}{ds:List PyData}{vs:List V}{p:Addr}(S:Sim K Γ O H) (hr:Reps K Γ.Z ds vs) (hp:H p=none):∃ Γ',Le Γ Γ'/\Sim K Γ' O (upd H p (.tup vs))/\relW K Γ' (.d (.tuple ds)) (.ref p):=by
 obtain⟨l,S'⟩:=S.newD hp (.tup vs)
 exact⟨_,l,S',p,vs,rfl,SqT.of zC,Reps.same l.z _ _ hr⟩
theorem uI {Γ:Gh}{O:OM}{H:Hp}{ds:List PyData}{vs:List V}{p:Addr}(S:Sim K Γ O H) (hr:Reps K Γ.Z ds vs) (hp:H p=none):∃ Γ',Le Γ Γ'/\Sim K Γ' O (upd H p (.lst vs))/\relW K Γ' (.d (.list ds)) (.ref p):=by
 obtain⟨l,S'⟩:=S.newD hp (.lst vs)
 exact⟨_,l,S',p,vs,rfl,SqL.of zC,Reps.same l.z _ _ hr⟩
theorem Yv {Γ:Gh}{O:OM}{H:Hp}{ws:List W}{vs:List V}{p:Addr}(S:Sim K Γ O H) (hr:relWs K Γ ws vs) (hp:H p=none):O p=none/\Sim K Γ (updO O p (.lst ws)) (upd H p (.lst vs)):=
 ⟨(S.free hp).2.1,S.newO hp (by intro _ h;cases h) ⟨vs,zC,hr⟩⟩
theorem zcH {t:TA}{T:TAW}(h:xN K t T):RefE K (KQ t) (zey T):=by
 intro Γ O H ρ σ S r0 Q R hT k
 refine h Γ O H ρ σ S r0 _ _ hT fun Γ1 O1 H1 ws vs l1 S1 rs h1=>?_
 obtain⟨ds,e,hl,h1⟩:=h1
 rw [xO e] at rs
 refine⟨by rw [<- Paired.length rs,List.length_map];exact qZ hl,fun p hp=>?_⟩
 obtain⟨Γ',l,S',r'⟩:=JV S1 (yI rs) hp
 exact k _ _ _ _ _ (l1.trans l) S' r' h1
theorem zcI {t:TA}{T:TAW}(h:xN K t T):RefE K (Zj t) (zez T):=by
 intro Γ O H ρ σ S r0 Q R hT k
 refine h Γ O H ρ σ S r0 _ _ hT fun Γ1 O1 H1 ws vs l1 S1 rs h1=>?_
 obtain⟨ds,e,hl,h1⟩:=h1
 rw [xO e] at rs
 refine⟨by rw [<- Paired.length rs,List.length_map];exact qZ hl,fun p hp=>?_⟩
 obtain⟨Γ',l,S',r'⟩:=uI S1 (yI rs) hp
 exact k _ _ _ _ _ (l1.trans l) S' r' h1
end
abbrev SpW:=List W->OM->WK->Prop
def zb (K:W.Frag) (s:SpW):Sp:=fun vs H Q _=>∃ Γ O ws R,Sim K Γ O H/\relWs K Γ ws vs/\s ws O R/\∀ Γ' O' H' w v,Le Γ Γ'->Sim K Γ' O' H'->relW K Γ' w v->R w O'->Q v H'
def Clo (R:WK):WK:=fun w O=>R w O\/∃ a ds,w=.own a/\O a=some (.lst (ds.map .d))/\R (.d (.list ds)) (del O a)
noncomputable def ud (N:List Str) (ws:List W):WS:=ws.map some ++ List.replicate (N.length - ws.length) none
section
variable {K:W.Frag}
theorem ZZ {Γ:Gh}{N:List Str}{ws:List W}{vs:List V}(h:relWs K Γ ws vs):relR K Γ (ud N ws) (L2.start N vs):=by
 unfold ud L2.start
 rw [Paired.length h]
 refine Paired.appP ?_ ?_
 ·induction h with
  |nil=>exact .nil
  |cons a b ih=>exact .cons a ih
 ·generalize N.length - vs.length=n
  induction n with
  |zero=>exact .nil
  |succ n ih=>exact .cons trivial ih
theorem kR {Γ:Gh}{O:OM}{H:Hp}{w:W}{v:V}{R:WK}{Q:VK}(S:Sim K Γ O H) (r:relW K Γ w v) (h:Clo R w O) (k:∀ Γ' O' H' w v,Le Γ Γ'->Sim K Γ' O' H'->relW K Γ' w v->R w O'->Q v H'):Q v H:=by
 rcases h with h | ⟨a,ds,rfl,e,h⟩
 ·exact k _ _ _ _ _ (Le.refl _) S r h
 ·obtain⟨Γ',l,S',r'⟩:=S.freeze e
  cases (show v=.ref a from r)
  exact k _ _ _ _ _ l S' r' h
variable {P:Program}{w:World}{mg:Str->Option Value}{base:Heap}
theorem Fun.okW {x qual:Str}{st:Stmt}{f:Addr}{fd:FuncData}{N ps:List Str}{k:Nat}{s:SpW}(F:Fun K x qual st f fd) (S:FnScope N ps (defScope st)) (len:∀ ws O R,s ws O R->ws.length=ps.length)
    (hbody:∀ (cdv:Value) (A:Around) (outer:List Env) (sh:Shared) (H:Hp) (E:XK),Room k (A.deeper (envOfC qual (defScope st) sh.heap.objs.size f cdv))->
      ∃ t T,PSs (uC CX0 P w K mg base N qual (defScope st) f cdv A outer sh H E).nox (defBody st) t/\RefS K t T/\∀ ws O R,s ws O R->T { nx:=fun _ O'=>Clo R (.d .none) O',rt:=Clo R } (ud N ws) O):FnOk P w K mg base CX0 (k+1) f fd ps (zb K s):=by
  refine F.ok S (fun vs H Q E h=>?_) (fun cdv A outer sh H vs Q E hr h=>?_)
  · obtain⟨Γ,O,ws,R,S1,r,hs,_⟩:=h
    rw [<- Paired.length r]
    exact len ws O R hs
  · obtain⟨t,T,h1,h2,h3⟩:=hbody cdv A outer sh H E hr
    obtain⟨Γ,O,ws,R,S1,r,hs,kk⟩:=h
    refine⟨t,h1,h2 Γ O H _ _ _ _ S1 (ZZ r) (h3 ws O R hs) ⟨fun Γ' O' H' ρ' σ' l S' r' h'=>?_,fun Γ' O' H' w v l S' r' h'=>?_,fun _ _ _ _ _ _ _ _ h=>h.elim,fun _ _ _ _ _ _ _ _ h=>h.elim⟩⟩
    · exact kR S' qY h' fun Γ2 O2 H2 w v l2=>kk _ _ _ _ _ (l.trans l2)
    · exact kR S' r' h' fun Γ2 O2 H2 w v l2=>kk _ _ _ _ _ (l.trans l2)
theorem Fun.okV {x qual:Str}{st:Stmt}{f:Addr}{fd:FuncData}{N ps:List Str}{k:Nat}{s:SpW}{t:TS}{T:TSW}(F:Fun K x qual st f fd) (S:FnScope N ps (defScope st)) (len:∀ ws O R,s ws O R->ws.length=ps.length)
  (hP:∀ (cdv:Value) (A:Around) (outer:List Env) (sh:Shared) (H:Hp) (E:XK),Room k (A.deeper (envOfC qual (defScope st) sh.heap.objs.size f cdv))->PSs (uC CX0 P w K mg base N qual (defScope st) f cdv A outer sh H E).nox (defBody st) t)
  (hR:RefS K t T) (hb:∀ ws O R,s ws O R->T { nx:=fun _ O'=>Clo R (.d .none) O',rt:=Clo R } (ud N ws) O):FnOk P w K mg base CX0 (k+1) f fd ps (zb K s):=
 F.okW S len fun cdv A outer sh H E hr=>⟨t,T,hP cdv A outer sh H E hr,hR,hb⟩
theorem FunD.okW {x qual:Str}{st:Stmt}{ds:List Value}{f:Addr}{fd:FuncData}{N ps:List Str}{k:Nat}{s:SpW}(F:FunD K x qual st ds f fd) (S:FnScope N ps (defScope st)) (len:∀ ws O R,s ws O R->ws.length=ps.length)
    (hbody:∀ (cdv:Value) (A:Around) (outer:List Env) (sh:Shared) (H:Hp) (E:XK),Room k (A.deeper (envOfC qual (defScope st) sh.heap.objs.size f cdv))->
      ∃ t T,PSs (uC CX0 P w K mg base N qual (defScope st) f cdv A outer sh H E).nox (defBody st) t/\RefS K t T/\∀ ws O R,s ws O R->T { nx:=fun _ O'=>Clo R (.d .none) O',rt:=Clo R } (ud N ws) O):FnOk P w K mg base CX0 (k+1) f fd ps (zb K s):=by
  refine F.ok S (fun vs H Q E h=>?_) (fun cdv A outer sh H vs Q E hr h=>?_)
  · obtain⟨Γ,O,ws,R,S1,r,hs,_⟩:=h
    rw [<- Paired.length r]
    exact len ws O R hs
  · obtain⟨t,T,h1,h2,h3⟩:=hbody cdv A outer sh H E hr
    obtain⟨Γ,O,ws,R,S1,r,hs,kk⟩:=h
    refine⟨t,h1,h2 Γ O H _ _ _ _ S1 (ZZ r) (h3 ws O R hs) ⟨fun Γ' O' H' ρ' σ' l S' r' h'=>?_,fun Γ' O' H' w v l S' r' h'=>?_,fun _ _ _ _ _ _ _ _ h=>h.elim,fun _ _ _ _ _ _ _ _ h=>h.elim⟩⟩
    · exact kR S' qY h' fun Γ2 O2 H2 w v l2=>kk _ _ _ _ _ (l.trans l2)
    · exact kR S' r' h' fun Γ2 O2 H2 w v l2=>kk _ _ _ _ _ (l.trans l2)
theorem FunD.okV {x qual:Str}{st:Stmt}{ds:List Value}{f:Addr}{fd:FuncData}{N ps:List Str}{k:Nat}{s:SpW}{t:TS}{T:TSW}(F:FunD K x qual st ds f fd) (S:FnScope N ps (defScope st)) (len:∀ ws O R,s ws O R->ws.length=ps.length)
  (hP:∀ (cdv:Value) (A:Around) (outer:List Env) (sh:Shared) (H:Hp) (E:XK),Room k (A.deeper (envOfC qual (defScope st) sh.heap.objs.size f cdv))->PSs (uC CX0 P w K mg base N qual (defScope st) f cdv A outer sh H E).nox (defBody st) t)
  (hR:RefS K t T) (hb:∀ ws O R,s ws O R->T { nx:=fun _ O'=>Clo R (.d .none) O',rt:=Clo R } (ud N ws) O):FnOk P w K mg base CX0 (k+1) f fd ps (zb K s):=
 F.okW S len fun cdv A outer sh H E hr=>⟨t,T,hP cdv A outer sh H E hr,hR,hb⟩
end
section
variable {K:W.Frag}
theorem Zq {Γ:Gh}:∀ {vs:List V},vs.all scV=true->relWs K Γ (vs.map ofV) vs
 |[],_=>.nil
 |v :: vs,h=>by
  simp at h
  exact .cons (kQ h.1) (Zq (by simpa using h.2))
def Z0 (s:SpW) (dvs:List V) (T:TAW):TEW:=fun ρ O R=>T ρ O fun ws O1=>s (ws ++ dvs.map ofV) O1 R
theorem XY {s:SpW}{dvs:List V}{t:TA}{T:TAW}(h:xN K t T) (hd:dvs.all scV=true:=by rfl):RefE K (ZM (zb K s) dvs E0 t) (Z0 s dvs T):=by
 intro Γ O H ρ σ S r0 Q R hT k
 refine h Γ O H ρ σ S r0 _ _ hT fun Γ1 O1 H1 ws vs l1 S1 rs h1=>?_
 exact⟨Γ1,O1,_,R,S1,Paired.appP rs (Zq hd),h1,fun Γ2 O2 H2 w v l2 S2 r2 h2=>k _ _ _ _ _ (l1.trans l2) S2 r2 h2⟩
def wCB (r:List W->OM->WK->Prop) (T:TAW):TEW:=fun ρ O R=>T ρ O fun ws O1=>r ws O1 R
theorem zeA {r:List V->Hp->VK->Prop}{rw:List W->OM->WK->Prop}{t:TA}{T:TAW}(hr:RefC K r rw) (h:xN K t T):RefE K (tCB r t) (wCB rw T):=by
 intro Γ O H ρ σ S r0 Q R hT k
 refine h Γ O H ρ σ S r0 _ _ hT fun Γ1 O1 H1 ws vs l1 S1 rs h1=>?_
 exact hr _ _ _ _ _ S1 rs _ _ h1 fun Γ2 O2 H2 w v l2 S2 r2 h2=>k _ _ _ _ _ (l1.trans l2) S2 r2 h2
theorem Z1 {Γ:Gh}{f:Str}:∀ {fs:List (Str×W)}{vs:List (Str×V)},y6 K Γ fs vs->(fs.lookup f=none->vs.lookup f=none)/\∀ w,fs.lookup f=some w->∃ v,vs.lookup f=some v/\relW K Γ w v:=by
 intro fs vs h
 unfold y6 at h
 induction h with
 |nil=>exact⟨fun _=>rfl,fun w e=>by cases e⟩
 |cons a b ih=>
  rename_i p q ps qs
  obtain⟨k,x⟩:=p
  obtain⟨k',y⟩:=q
  obtain⟨e1,e2⟩:=a
  cases (show k=k' from e1)
  simp only [List.lookup_cons]
  cases e:f == k with
  |true=>exact⟨fun z=>(by cases z),fun w z=>by cases z;exact⟨_,rfl,e2⟩⟩
  |false=>exact ih
def zbE (C:Addr) (m:Str) (s:SpW) (Ta:TEW) (T:TAW):TEW:=fun ρ O R=>Ta ρ O fun x O1=>∃ a dx fs,x=.own a/\O1 a=some (.ins C dx fs)/\fs.lookup m=none/\T ρ O1 fun ws O2=>s (x :: ws) O2 R
theorem zak {C:Addr}{m:Str}{s:SpW}{ta:TE}{t:TA}{Ta:TEW}{T:TAW}(ha:RefE K ta Ta) (h:xN K t T):RefE K (Ql C m (zb K s) [] E0 ta t) (zbE C m s Ta T):=by
 intro Γ O H ρ σ S r0 Q R hT k
 refine ha Γ O H ρ σ S r0 _ _ hT fun Γ1 O1 H1 x v l1 S1 rx h1=>?_
 obtain⟨a,dx,fs,rfl,ho,hm,h1⟩:=h1
 cases (show v=.ref a from rx)
 obtain⟨_,vs,q1,q2⟩:=S1.o _ _ ho
 refine⟨a,dx,vs,rfl,q1,(Z1 q2).1 hm,?_⟩
 refine h _ _ _ _ _ S1 (r0.mono l1) _ _ h1 fun Γ2 O2 H2 ws us l2 S2 rs h2=>?_
 rw [List.append_nil]
 exact⟨Γ2,O2,_,R,S2,.cons xP rs,h2,fun Γ3 O3 H3 w v l3 S3 r3 h3=>k _ _ _ _ _ ((l1.trans l2).trans l3) S3 r3 h3⟩
theorem Sim.junk {Γ:Gh}{O:OM}{H:Hp}(S:Sim K Γ O H) {p:Addr}(hp:H p=none) (o:HO):Sim K Γ O (upd H p o):=by
 obtain⟨hz,hO,hG⟩:=S.free hp
 refine⟨fun b u e=>?_,fun a oo e=>?_,fun a rs e=>?_,uD S.f (S.f.free hp),S.gn,S.fg,S.fd,S.u⟩
 ·rw [zk (fun z=>by rw [z,hz] at e;cases e)];exact S.z _ _ e
 ·have hap:a≠p:=fun z=>by rw [z,hO] at e;cases e
  obtain⟨h1,h2⟩:=S.o _ _ e
  refine⟨h1,h2.keep (Le.refl _) (zk hap) rfl fun rs r hg ⟨rows,hrw⟩ hr=>?_⟩
  subst hrw
  obtain⟨_,_,vs,q⟩:=S.rowIn e hg hr
  exact⟨zk (fun z=>by rw [z,hp] at q;cases q),rfl,rfl⟩
 ·obtain⟨o',h⟩:=S.gd _ _ e
  exact⟨o',by rw [zk (y8 h hp)];exact h⟩
def zbF (C:Addr) (s:SpW) (T:TAW):TEW:=fun ρ O R=>T ρ O fun ws O1=>∀ x dx,O1 x=none->s (.own x :: ws) (updO O1 x (.ins C dx [])) fun w O2=>w=.d .none/\R (.own x) O2
theorem zal {C:Addr}{s:SpW}{t:TA}{T:TAW}(h:xN K t T):RefE K (Qm C (zb K s) [] E0 t) (zbF C s T):=by
 intro Γ O H ρ σ S r0 Q R hT k
 refine h _ _ _ _ _ S r0 _ _ hT fun Γ1 O1 H1 ws vs l1 S1 rs h1=>?_
 intro x dx hx hdx hne
 have hx':upd H1 dx (.own x) x=none:=by rw [zk (Ne.symm hne)];exact hx
 have S2:=S1.junk hdx (.own x)
 have S3:=S2.newO hx' (o:=.ins C dx []) (oo:=.ins C dx []) (by intro _ h;cases h) ⟨[],zC,.nil⟩
 rw [List.append_nil]
 refine⟨Γ1,_,_,_,S3,.cons xP rs,h1 x dx (S2.free hx').2.1,fun Γ2 O2 H2 w v l2 S4 r2 h2=>?_⟩
 obtain⟨rfl,h2⟩:=h2
 exact⟨r2,k _ _ _ _ _ (l1.trans l2) S4 xP h2⟩
noncomputable def qD (O:OM) (w:W):Option (List PyData):=match xD w with
 |some ds=>some ds
 |none=>(yN O w).bind xq
theorem UL {Γ:Gh}{O:OM}{H:Hp}{w:W}{v:V}{ds:List PyData}(S:Sim K Γ O H) (r:relW K Γ w v) (e:qD O w=some ds):∃ a vs,v=.ref a/\(SqL K H a vs\/SqT K H a vs)/\Reps K Γ.Z ds vs:=by
 unfold qD at e
 split at e
 ·rename_i es h
  cases e
  obtain⟨a,vs,e1,h1,h2⟩:=uy S r h
  exact⟨a,vs,e1,.inr h1,yI h2⟩
 ·cases h:yN O w with
  |none=>rw [h] at e;cases e
  |some ws=>
   rw [h] at e
   obtain⟨a,vs,e1,h1,h2⟩:=xv S r h
   rw [xO (show xq ws=some ds from e)] at h2
   exact⟨a,vs,e1,.inl h1,yI h2⟩
noncomputable def Zr (O:OM) (w:W):Option Nat:=match xD w with
 |some ds=>some ds.length
 |none=>(yN O w).map (·.length)
def zam:List W->OM->WK->Prop:=fun xs O R=>∃ w n,xs=[w]/\Zr O w=some n/\R (.d (.int n)) O
theorem zfI:RefC K (fun xs H Q=>∃ p ys,xs=[.ref p]/\(SqL K H p ys\/SqT K H p ys)/\Q (.int ys.length) H) zam:=by
 rintro Γ O H xs vs S rs Q R ⟨w,n,rfl,e,h⟩ k
 cases rs with
 |cons rx t=>
  cases t
  unfold Zr at e
  split at e
  ·rename_i ds hT
   cases e
   obtain⟨a,vs,e1,h1,h2⟩:=uy S rx hT
   subst e1
   refine⟨a,vs,rfl,.inr h1,k _ _ _ _ _ (Le.refl _) S ?_ h⟩
   rw [<- Paired.length h2,List.length_map];rfl
  ·cases hL:yN O w with
   |none=>rw [hL] at e;cases e
   |some ws=>
    rw [hL] at e
    cases e
    obtain⟨a,vs,e1,h1,h2⟩:=xv S rx hL
    subst e1
    refine⟨a,vs,rfl,.inl h1,k _ _ _ _ _ (Le.refl _) S ?_ h⟩
    rw [<- Paired.length h2];rfl
def XZ:List W->OM->WK->Prop:=fun xs O R=>∃ w ds,xs=[w]/\qD O w=some ds/\R (.d (.list ds)) O
theorem zcJ:RefC K (fun xs H Q=>∃ p ys,xs=[.ref p]/\(SqL K H p ys\/SqT K H p ys)/\∀ l,H l=none->Q (.ref l) (upd H l (.lst ys))) XZ:=by
 rintro Γ O H xs vs S rs Q R ⟨w,ds,rfl,e,h⟩ k
 cases rs with
 |cons rx t=>
  cases t
  obtain⟨a,vs,e1,h1,h2⟩:=UL S rx e
  subst e1
  refine⟨a,vs,rfl,h1,fun l hl=>?_⟩
  obtain⟨Γ',le,S',r'⟩:=uI S h2 hl
  exact k _ _ _ _ _ le S' r' h
def wI2 (g:Int->Int->Int):List W->OM->WK->Prop:=fun xs O R=>∃ i j,xs=[.d (.int i),.d (.int j)]/\R (.d (.int (g i j))) O
theorem zgt {g:Int->Int->Int}:RefC K (fun xs H Q=>∃ i j,xs=[.int i,.int j]/\Q (.int (g i j)) H) (wI2 g):=by
 rintro Γ O H xs vs S rs Q R ⟨i,j,rfl,h⟩ k
 cases rs with
 |cons rx t=>
  cases t with
  |cons ry t=>
   cases t
   exact⟨i,j,by rw [show _=V.int i from rx,show _=V.int j from ry],k _ _ _ _ _ (Le.refl _) S qX h⟩
def zbG:List W->OM->WK->Prop:=fun xs O R=>∃ i,(xs=[.d (.int i)]\/∃ b:Bool,xs=[.d (.bool b)]/\i=if b then 1 else 0)/\R (.d (.int i)) O
theorem zeB:RefC K (fun xs H Q=>(∃ i,xs=[.int i]/\Q (.int i) H)\/∃ k,xs=[.bl k]/\Q (.int (if k then 1 else 0)) H) zbG:=by
 rintro Γ O H xs vs S rs Q R ⟨i,hx,h⟩ k
 rcases hx with rfl | ⟨b,rfl,rfl⟩
 ·cases rs with
  |cons rx t=>cases t;exact .inl ⟨i,by rw [show _=V.int i from rx],k _ _ _ _ _ (Le.refl _) S qX h⟩
 ·cases rs with
  |cons rx t=>cases t;exact .inr ⟨b,by rw [show _=V.bl b from rx],k _ _ _ _ _ (Le.refl _) S qX h⟩
def Xn:TSW:=fun D ρ O=>D.nx ρ O
def vG (T U:TSW):TSW:=fun D ρ O=>T { D with nx:=U D } ρ O
def QD (T:TEW):TSW:=fun D ρ O=>T ρ O fun _ O1=>D.nx ρ O1
def zan (T:TEW):TSW:=fun D ρ O=>T ρ O D.rt
def zfJ:TSW:=fun D _ O=>D.rt (.d .none) O
def X0 (c:TTW) (T U:TSW):TSW:=fun D ρ O=>c ρ O fun b O1=>if b=true then T D ρ O1 else U D ρ O1
def zeC:TSW:=fun _ _ _=>False
theorem zao:RefS K zbh Xn:=fun Γ O H ρ σ D DW S r h e=>e.nx _ _ _ _ _ (Le.refl _) S r h
theorem JW:RefS K Jn zeC:=fun Γ O H ρ σ D DW S r h e=>h.elim
theorem zcK {t u:TS}{T U:TSW}(h:RefS K t T) (g:RefS K u U):RefS K (zdM t u) (vG T U):=fun Γ O H ρ σ D DW S r hT e=>
 h Γ O H ρ σ { D with nx:=u D } { DW with nx:=U DW } S r hT ⟨fun Γ' O' H' ρ' σ' l S' r' h'=>g _ _ _ _ _ _ _ S' r' h' (e.mono l),e.rt,e.bk,e.ct⟩
theorem zap {t:TE}{T:TEW}(h:RefE K t T):RefS K (zbi t) (QD T):=fun Γ O H ρ σ D DW S r hT e=>
 h _ _ _ _ _ S r _ _ hT fun Γ1 O1 H1 w v l S1 r1 h1=>e.nx _ _ _ _ _ l S1 (r.mono l) h1
theorem zcL {t:TE}{T:TEW}(h:RefE K t T):RefS K (zdN t) (zan T):=fun Γ O H ρ σ D DW S r hT e=>
 h _ _ _ _ _ S r _ _ hT fun Γ1 O1 H1 w v l S1 r1 h1=>e.rt _ _ _ _ _ l S1 r1 h1
theorem zcM {c:TT}{C:TTW}{t u:TS}{T U:TSW}(hc:x8 K c C) (h:RefS K t T) (g:RefS K u U):RefS K (zdO c t u) (X0 C T U):=fun Γ O H ρ σ D DW S r hT e=>by
 refine hc _ _ _ _ _ S r _ _ hT fun Γ1 O1 H1 b l S1 h1=>?_
 cases b with
 |true=>rw [if_pos rfl] at h1 ⊢;exact h _ _ _ _ _ _ _ S1 (r.mono l) h1 (e.mono l)
 |false=>rw [if_neg (by decide)] at h1 ⊢;exact g _ _ _ _ _ _ _ S1 (r.mono l) h1 (e.mono l)
def zaq (T:TEW) (G:TGW):TSW:=fun D ρ O=>T ρ O fun x O1=>G x ρ O1 D.nx
theorem zcN {t:TE}{T:TEW}{g:TG}{G:TGW}(h:RefE K t T) (hg:RefG K g G):RefS K (Yo t g) (zaq T G):=fun Γ O H ρ σ D DW S r hT e=>
 h _ _ _ _ _ S r _ _ hT fun Γ1 O1 H1 w v l S1 r1 h1=>hg _ _ _ _ _ _ _ S1 (r.mono l) r1 _ _ h1 fun Γ2 O2 H2 ρ2 σ2 l2=>e.nx _ _ _ _ _ (l.trans l2)
def Z2 (i:Nat):TGW:=fun w ρ O R=>R (ρ.set i (some w)) O
theorem zar {i:Nat}:RefG K (jo i) (Z2 i):=fun Γ O H ρ σ w v S r rw Q R h k=>k _ _ _ _ _ (Le.refl _) S (Paired.setP r (show jt K Γ (some w) (some v) from rw)) h
def QE:TGsW:=fun ds ρ O R=>ds=[]/\R ρ O
def Xo (G:TGW) (U:TGsW):TGsW:=fun ds ρ O R=>∃ e es,ds=e :: es/\G (.d e) ρ O fun ρ' O'=>U es ρ' O' R
theorem zas:RefGs K zdQ QE:=by
 rintro Γ O H ρ σ ds vs S r rs Q R ⟨rfl,h⟩ k
 exact⟨rs,k _ _ _ _ _ (Le.refl _) S r h⟩
theorem JX {t:TG}{u:TGs}{G:TGW}{U:TGsW}(h:RefG K t G) (g:RefGs K u U):RefGs K (zbj t u) (Xo G U):=by
 rintro Γ O H ρ σ ds vs S r rs Q R ⟨e,es,rfl,hh⟩ k
 obtain⟨x,xs,rfl,h1,h2⟩:=rs
 refine⟨x,xs,rfl,h _ _ _ _ _ _ _ S r (zfz h1) _ _ hh fun Γ1 O1 H1 ρ1 σ1 l1 S1 r1 q1=>?_⟩
 exact g _ _ _ _ _ _ _ S1 r1 (Reps.same l1.z _ _ h2) _ _ q1 fun Γ2 O2 H2 ρ2 σ2 l2=>k _ _ _ _ _ (l1.trans l2)
def QF (n:Nat) (U:TGsW):TGW:=fun w ρ O R=>∃ ds,xD w=some ds/\ds.length=n/\U ds ρ O R
theorem zat {n:Nat}{t:TGs}{U:TGsW}(h:RefGs K t U):RefG K (KG K n t) (QF n U):=by
 rintro Γ O H ρ σ w v S r rw Q R ⟨ds,e,hl,hh⟩ k
 obtain⟨a,vs,e1,h1,h2⟩:=uy S rw e
 refine⟨a,vs,e1,h1,by rw [<- Paired.length h2,List.length_map];exact hl,h _ _ _ _ _ _ _ S r (yI h2) _ _ hh k⟩
noncomputable def uf (O:OM) (o:W) (k:Int) (w:W):Option OM:=match o with
 |.own a=>match O a with
  |some (.lst ws)=>(ixN ws.length k).map fun j=>updO O a (.lst (ws.set j w))
  |_=>none
 |.row a r=>match O a,w with
  |some (.grid rows),.d x=>match rows[r]? with
   |some ds=>(ixN ds.length k).map fun j=>updO O a (.grid (rows.set r (ds.set j x)))
   |none=>none
  |_,_=>none
 |_=>none
def zeD (To Ti:TEW):TGW:=fun w ρ O R=>To ρ O fun o O1=>Ti ρ O1 fun i O2=>∃ k O3,i=.d (.int k)/\uf O2 o k w=some O3/\R ρ O3
theorem zau {to ti:TE}{To Ti:TEW}(ho:RefE K to To) (hi:RefE K ti Ti):RefG K (zdS to ti zbp) (zeD To Ti):=by
 rintro Γ O H ρ σ w v S r rw Q R h k
 refine ho _ _ _ _ _ S r _ _ h fun Γ1 O1 H1 o vo l1 S1 ro h1=>?_
 refine hi _ _ _ _ _ S1 (r.mono l1) _ _ h1 fun Γ2 O2 H2 i vi l2 S2 ri h2=>?_
 obtain⟨n,O3,rfl,e,h2⟩:=h2
 have ro2:=ro.mono l2
 have rw2:=rw.mono (l1.trans l2)
 cases (show vi=.int n from ri)
 cases o with
 |d x=>cases e
 |own a=>
  cases (show vo=.ref a from ro2)
  simp only [uf] at e
  split at e
  ·rename_i ws hO
   cases hj:ixN ws.length n with
   |none=>rw [hj] at e;cases e
   |some j=>
    rw [hj] at e
    cases e
    obtain⟨_,us,q1,q2⟩:=S2.o _ _ hO
    refine⟨a,us,n,j,rfl,rfl,q1,by rw [<- Paired.length q2];exact hj,?_⟩
    exact k _ _ _ _ _ (l1.trans l2) (S2.put (oo:=.lst _) hO (by intro _ h;cases h) (by intro _ h;cases h) ⟨_,zC,Paired.setP q2 rw2⟩) (r.mono (l1.trans l2)) h2
  ·cases e
 |row a i=>
  obtain⟨rs,r0,hg,hr,rfl⟩:=ro2
  simp only [uf] at e
  split at e
  ·rename_i rows x hO
   cases hd:rows[i]? with
   |none=>rw [hd] at e;cases e
   |some ds=>
    rw [hd] at e
    simp only at e
    cases hj:ixN ds.length n with
    |none=>rw [hj] at e;cases e
    |some j=>
     rw [hj] at e
     cases e
     obtain⟨_,rs',hg',_,hl,_,hrow⟩:=S2.o _ _ hO
     rw [hg] at hg'
     cases hg'
     obtain⟨_,_,us,q1,q2⟩:=hrow i r0 ds hr hd
     refine⟨r0,us,n,j,rfl,rfl,q1,by rw [<- Reps.length q2];exact hj,?_⟩
     exact k _ _ _ _ _ (l1.trans l2) (S2.cell hO hg hr hd q1 rw2) (r.mono (l1.trans l2)) h2
  ·cases e
end
section
variable {K:W.Frag}
def zeE (K:W.Frag) (Γ:Gh) (J:It) (ws:List W) (keep:OM->Prop):Prop:=∀ i Γ' O' H',Same Γ.Z Γ'.Z->(∀ a rs,Γ.G a=some rs->∃ more,Γ'.G a=some (rs ++ more))->Sim K Γ' O' H'->keep O'->
 (∀ w,ws[i]? =some w->J.go i H'/\∀ x H2,J.yld i H' x H2->∃ Γ2,Le Γ' Γ2/\Sim K Γ2 O' H2/\relW K Γ2 w x)/\(i=ws.length->J.stop i H')
abbrev TIW:=WS->OM->(List W->(OM->Prop)->OM->Prop)->Prop
def uJ (K:W.Frag) (t:TI) (T:TIW):Prop:=∀ Γ O H ρ σ,Sim K Γ O H->relR K Γ ρ σ->∀ (Q:It->Hp->Prop) (R:List W->(OM->Prop)->OM->Prop),T ρ O R->(∀ Γ' O' H' J ws keep,Le Γ Γ'->Sim K Γ' O' H'->zeE K Γ' J ws keep->R ws keep O'->Q J H')->t σ H Q
theorem relW.up {Γ Γ':Gh}(hz:Same Γ.Z Γ'.Z) (hg:∀ a rs,Γ.G a=some rs->∃ more,Γ'.G a=some (rs ++ more)) {w:W}{v:V}(h:relW K Γ w v):relW K Γ' w v:=by
 have h1:relW K ⟨Γ'.Z,Γ'.G,Γ.F⟩ w v:=relW.mono (Γ:=Γ) (Γ':=⟨Γ'.Z,Γ'.G,Γ.F⟩) ⟨rfl,hz,hg⟩ h
 cases w <;> exact h1
def zbH (T:TEW):TIW:=fun ρ O R=>T ρ O fun w O1=>∃ ws,yN O1 w=some ws/\R ws (fun O'=>yN O' w=some ws) O1
theorem JY {t:TE}{T:TEW}(h:RefE K t T):uJ K (Qa K t) (zbH T):=by
 intro Γ O H ρ σ S r Q R hT k
 refine h _ _ _ _ _ S r _ _ hT fun Γ1 O1 H1 w v l1 S1 r1 h1=>?_
 obtain⟨ws,e,h1⟩:=h1
 obtain⟨a,vs,rfl,q1,q2⟩:=xv S1 r1 e
 refine⟨a,rfl,⟨vs,q1⟩,k _ _ _ _ _ _ l1 S1 (fun i Γ' O' H' hz hg S' e'=>?_) h1⟩
 obtain⟨a',vs',ea,q1',q2'⟩:=xv S' (r1.up hz hg) e'
 cases ea
 refine⟨fun w' hw=>?_,fun hi=>⟨vs',q1',by rw [<- Paired.length q2',hi];exact Nat.le_refl _⟩⟩
 obtain⟨x,hx,rx⟩:=Paired.getP q2' hw
 refine⟨⟨vs',x,q1',hx⟩,fun y H2 ⟨e2,hy⟩=>?_⟩
 subst e2
 have:=hy vs' q1'
 rw [hx] at this
 cases this
 exact⟨Γ',Le.refl _,S',rx⟩
def zeF (T:TEW):TIW:=fun ρ O R=>T ρ O fun w O1=>∃ ds,xD w=some ds/\R (ds.map .d) (fun _=>True) O1
theorem zav {t:TE}{T:TEW}(h:RefE K t T):uJ K (KH K t) (zeF T):=by
 intro Γ O H ρ σ S r Q R hT k
 refine h _ _ _ _ _ S r _ _ hT fun Γ1 O1 H1 w v l1 S1 r1 h1=>?_
 obtain⟨ds,e,h1⟩:=h1
 obtain⟨a,vs,rfl,q1,q2⟩:=uy S1 r1 e
 refine⟨a,rfl,⟨vs,q1⟩,k _ _ _ _ _ _ l1 S1 (fun i Γ' O' H' hz hg S' e'=>?_) h1⟩
 obtain⟨a',vs',ea,q1',q2'⟩:=uy S' (r1.up hz hg) e
 cases ea
 refine⟨fun w' hw=>?_,fun hi=>⟨vs',q1',by rw [<- Paired.length q2',hi];exact Nat.le_refl _⟩⟩
 obtain⟨x,hx,rx⟩:=Paired.getP q2' hw
 refine⟨⟨vs',x,q1',hx⟩,fun y H2 ⟨e2,hy⟩=>?_⟩
 subst e2
 have:=hy vs' q1'
 rw [hx] at this
 cases this
 exact⟨Γ',Le.refl _,S',rx⟩
theorem X1 {Γ:Gh}{n:Nat}{f:Nat->Int}{J:It}(hgo:∀ i H,i < n->J.go i H) (hy:∀ i H x H',J.yld i H x H'->H'=H/\x=.int (f i)) (hs:∀ i H,n≤i->J.stop i H):zeE K Γ J ((List.range n).map fun i=>.d (.int (f i))) fun _=>True:=by
 intro i Γ' O' H' hz hg S' _
 refine⟨fun w hw=>?_,fun hi=>hs i _ (by rw [hi];simp)⟩
 rw [List.getElem?_map] at hw
 cases hr:(List.range n)[i]? with
 |none=>rw [hr] at hw;cases hw
 |some j=>
  rw [hr] at hw
  cases hw
  obtain⟨hi,hj⟩:=List.getElem?_eq_some_iff.mp hr
  simp at hi hj
  subst hj
  refine⟨hgo i _ hi,fun x H2 y=>?_⟩
  obtain⟨rfl,rfl⟩:=hy i _ x H2 y
  exact⟨Γ',Le.refl _,S',qX⟩
def zbI (T:TAW):TIW:=fun ρ O R=>T ρ O fun ws O1=>∃ j:Int,ws=[.d (.int j)]/\-(2 ^ 62)≤j/\j < 2 ^ 62/\R ((List.range j.toNat).map fun (i:Nat)=>.d (.int i)) (fun _=>True) O1
theorem JZ {t:TA}{T:TAW}(h:xN K t T):uJ K (zbk t) (zbI T):=by
 intro Γ O H ρ σ S r Q R hT k
 refine h _ _ _ _ _ S r _ _ hT fun Γ1 O1 H1 ws vs l1 S1 r1 h1=>?_
 obtain⟨j,rfl,b1,b2,h1⟩:=h1
 cases r1 with
 |cons rx t=>
  cases t
  refine⟨j,by rw [show _=V.int j from rx],b1,b2,k _ _ _ _ _ _ l1 S1 (X1 (f:=fun i=>(i:Int)) (fun i H hi=>hi) (fun i H x H' ⟨e1,e2⟩=>⟨e1,by rw [e2,Int.zero_add]⟩) fun i H hi=>hi) h1⟩
def zbJ (T:TAW):TIW:=fun ρ O R=>T ρ O fun ws O1=>∃ i j:Int,ws=[.d (.int i),.d (.int j)]/\(-(2 ^ 62)≤i/\i < 2 ^ 62/\-(2 ^ 62)≤j/\j < 2 ^ 62)/\R ((List.range (j - i).toNat).map fun (k:Nat)=>.d (.int (i+k))) (fun _=>True) O1
theorem J0 {t:TA}{T:TAW}(h:xN K t T):uJ K (zbl t) (zbJ T):=by
 intro Γ O H ρ σ S r Q R hT k
 refine h _ _ _ _ _ S r _ _ hT fun Γ1 O1 H1 ws vs l1 S1 r1 h1=>?_
 obtain⟨i,j,rfl,b,h1⟩:=h1
 cases r1 with
 |cons rx t=>
  cases t with
  |cons ry t=>
   cases t
   exact⟨i,j,by rw [show _=V.int i from rx,show _=V.int j from ry],b,k _ _ _ _ _ _ l1 S1 (X1 (f:=fun k=>i+(k:Int)) (fun i H hi=>hi) (fun i H x H' ⟨e1,e2⟩=>⟨e1,e2⟩) fun i H hi=>hi) h1⟩
def zbK (T:TAW):TIW:=fun ρ O R=>T ρ O fun ws O1=>∃ (i j c:Int) (n:Nat),ws=[.d (.int i),.d (.int j),.d (.int c)]/\R3 i j c n/\R ((List.range n).map fun (k:Nat)=>.d (.int (i+k*c))) (fun _=>True) O1
theorem J1 {t:TA}{T:TAW}(h:xN K t T):uJ K (zbx t) (zbK T):=by
 intro Γ O H ρ σ S r Q R hT k
 refine h _ _ _ _ _ S r _ _ hT fun Γ1 O1 H1 ws vs l1 S1 r1 h1=>?_
 obtain⟨i,j,c,n,rfl,b,h1⟩:=h1
 cases r1 with
 |cons rx t=>
  cases t with
  |cons ry t=>
   cases t with
   |cons rz t=>
    cases t
    exact⟨i,j,c,n,by rw [show _=V.int i from rx,show _=V.int j from ry,show _=V.int c from rz],b,k _ _ _ _ _ _ l1 S1 (X1 (f:=fun k=>i+(k:Int)*c) (fun i H hi=>hi) (fun i H x H' ⟨e1,e2⟩=>⟨e1,e2⟩) fun i H hi=>hi) h1⟩
def zbL (T:TAW):TIW:=fun ρ O R=>T ρ O fun ws O1=>∃ w us ds,ws=[w]/\yN O1 w=some us/\xq us=some ds/\R ((List.range ds.length).zipWith (fun (i:Nat) d=>W.d (.tuple [.int i,d])) ds) (fun O'=>yN O' w=some us) O1
theorem J2 {t:TA}{T:TAW}(h:xN K t T):uJ K (Qt K t) (zbL T):=by
 intro Γ O H ρ σ S r Q R hT k
 refine h _ _ _ _ _ S r _ _ hT fun Γ1 O1 H1 ws vs l1 S1 r1 h1=>?_
 obtain⟨w,us,ds,rfl,e,hd,h1⟩:=h1
 cases r1 with
 |cons rx t=>
  cases t
  obtain⟨a,vs,rfl,q1,q2⟩:=xv S1 rx e
  refine⟨a,rfl,⟨vs,q1⟩,k _ _ _ _ _ _ l1 S1 (fun i Γ' O' H' hz hg S' e'=>?_) h1⟩
  obtain⟨a',vs',ea,q1',q2'⟩:=xv S' (rx.up hz hg) e'
  cases ea
  rw [xO hd] at q2'
  have hl:ds.length=vs'.length:=by rw [<- Paired.length q2',List.length_map]
  refine⟨fun w' hw=>?_,fun hi=>⟨vs',q1',by rw [hi];simp;omega⟩⟩
  rw [List.getElem?_zipWith] at hw
  cases hr:(List.range ds.length)[i]? with
  |none=>rw [hr] at hw;cases hw
  |some j=>
   rw [hr] at hw
   cases hdi:ds[i]? with
   |none=>rw [hdi] at hw;cases hw
   |some d=>
    rw [hdi] at hw
    cases hw
    obtain⟨hi,hj⟩:=List.getElem?_eq_some_iff.mp hr
    simp at hi hj
    subst hj
    obtain⟨x,hx,rx'⟩:=Paired.getP q2' (i:=i) (x:=.d d) (by rw [List.getElem?_map,hdi];rfl)
    refine⟨⟨vs',x,q1',hx⟩,fun y H2 ⟨t,y',e1,e2,e3,hy⟩=>?_⟩
    have hy':=hy vs' q1'
    rw [hx] at hy'
    cases hy'
    subst e1 e3
    obtain⟨Γ2,l2,S2,r2⟩:=JV S' (ds:=[.int i,d]) (vs:=[.int i,x]) ⟨_,_,rfl,rfl,_,_,rfl,rx',rfl⟩ e2
    exact⟨Γ2,l2,S2,r2⟩
def xF (ws:List W) (keep:OM->Prop) (G:TGW) (TB:TSW) (D:EndsW) (ρ:WS) (O:OM):Prop:=∃ Pv:Nat->WS->OM->Prop,Pv 0 ρ O/\(∀ i ρ O,Pv i ρ O->keep O)/\
 (∀ i w ρ O,ws[i]? =some w->Pv i ρ O->G w ρ O fun ρ' O'=>TB { D with nx:=Pv (i+1),ct:=Pv (i+1),bk:=D.nx } ρ' O')/\∀ ρ O,Pv ws.length ρ O->D.nx ρ O
def zeG (Wi:TIW) (G:TGW) (TB:TSW):TSW:=fun D ρ O=>Wi ρ O fun ws keep O1=>xF ws keep G TB D ρ O1
theorem zcO {wi:TI}{Wi:TIW}{g:TG}{G:TGW}{tb:TS}{TB:TSW}(hi:uJ K wi Wi) (hg:RefG K g G) (hb:RefS K tb TB):RefS K (zdW wi g tb) (zeG Wi G TB):=by
 intro Γ O H ρ σ D DW S r hT e
 refine hi _ _ _ _ _ S r _ _ hT fun Γ1 O1 H1 J ws keep l1 S1 ok h1=>?_
 obtain⟨Pv,p0,pk,ps,pd⟩:=h1
 refine⟨fun i m σ' H'=>i≤ws.length/\m=ws.length - i/\∃ Γ' O' ρ',Le Γ1 Γ'/\Sim K Γ' O' H'/\relR K Γ' ρ' σ'/\Pv i ρ' O',⟨_,Nat.zero_le _,rfl,Γ1,O1,ρ,Le.refl _,S1,r.mono l1,p0⟩,?_⟩
 rintro i m σ' H' ⟨hi,rfl,Γ',O',ρ',l',S',r',p'⟩
 obtain⟨ok1,ok2⟩:=ok i Γ' O' H' l'.z l'.g S' (pk _ _ _ p')
 by_cases hlt:i < ws.length
 ·obtain⟨go,y⟩:=ok1 _ (List.getElem?_eq_getElem hlt)
  refine .inr ⟨go,fun σ2 H2=>∃ Γ2 O2 ρ2,Le Γ1 Γ2/\Sim K Γ2 O2 H2/\relR K Γ2 ρ2 σ2/\Pv (i+1) ρ2 O2,fun σ2 H2 ⟨Γ2,O2,ρ2,l2,S2,r2,p2⟩=>⟨ws.length - (i+1),by omega,hlt,rfl,Γ2,O2,ρ2,l2,S2,r2,p2⟩,fun x H2 hy=>?_⟩
  obtain⟨Γ2,l2,S2,rx⟩:=y x H2 hy
  refine hg _ _ _ _ _ _ _ S2 (r'.mono l2) rx _ _ (ps i _ ρ' O' (List.getElem?_eq_getElem hlt) p') fun Γ3 O3 H3 ρ3 σ3 l3 S3 r3 h3=>?_
  have l13:=(l'.trans l2).trans l3
  refine hb _ _ _ _ _ _ _ S3 r3 h3 ⟨fun Γ4 O4 H4 ρ4 σ4 l4 S4 r4 h4=>⟨Γ4,O4,ρ4,l13.trans l4,S4,r4,h4⟩,fun Γ4 O4 H4 w v l4=>e.rt _ _ _ _ _ ((l1.trans l13).trans l4),fun Γ4 O4 H4 ρ4 σ4 l4=>e.nx _ _ _ _ _ ((l1.trans l13).trans l4),fun Γ4 O4 H4 ρ4 σ4 l4 S4 r4 h4=>⟨Γ4,O4,ρ4,l13.trans l4,S4,r4,h4⟩⟩
 ·have hi2:i=ws.length:=by omega
  refine .inl ⟨ok2 hi2,e.nx _ _ _ _ _ (l1.trans l') S' r' (pd _ _ ?_)⟩
  rw [<- hi2];exact p'
noncomputable def xc (js:List Nat) (ρ:WS):WS:=js.map fun j=>(ρ[j]?).join
theorem qu {Γ:Gh}{ρ:WS}{σ:St}(r:relR K Γ ρ σ) (n:Nat) (js:List Nat):relR K Γ (List.replicate n none ++ xc js ρ) (jq n js σ):=by
 refine Paired.appP ?_ ?_
 ·induction n with
  |zero=>exact .nil
  |succ n ih=>exact .cons trivial ih
 ·unfold xc
  induction js with
  |nil=>exact .nil
  |cons j js ih=>
   refine .cons ?_ ih
   show jt K Γ (ρ[j]?.join) (σ[j]?.join)
   cases h:ρ[j]? with
   |none=>exact trivial
   |some o=>
    cases o with
    |none=>exact trivial
    |some w=>
     obtain⟨v,hv,rv⟩:=r.get h
     rw [hv]
     exact rv
def Z3 (G:TGW) (T:TTW) (E:TEW) (n:Nat) (x4:WS) (w:W) (ρ:WS) (O:OM) (k:Option W->OM->Prop):Prop:=
 G w ρ O fun ρ1 O1=>(ρ1.length=n+x4.length/\ρ1.drop n=x4)/\T ρ1 O1 fun ok O2=>if ok=true then E ρ1 O2 fun y O3=>k (some y) O3 else k none O2
def wLc (Wi:TIW) (n:Nat) (js:List Nat) (G:TGW) (T:TTW) (E:TEW):TEW:=fun ρ O R=>Wi ρ O fun ws keep O1=>keep O1/\ws.length≤1000/\∃ F:W->Option PyData,
 (∀ w∈ws,∀ us:WS,us.length=n->Z3 G T E n (xc js ρ) w (us ++ xc js ρ) O1 fun y O2=>O2=O1/\y=(F w).map .d)/\R (.d (.list (ws.filterMap F))) O1
theorem ju {n:Nat}{x4 ρ:WS}(h1:ρ.length=n+x4.length) (h2:ρ.drop n=x4):∃ us:WS,us.length=n/\ρ=us ++ x4:=⟨ρ.take n,by rw [List.length_take];omega,by rw [<- h2,List.take_append_drop]⟩
theorem zeH {wi:TI}{Wi:TIW}{n:Nat}{js:List Nat}{g:TG}{G:TGW}{tt:TT}{T:TTW}{te:TE}{E:TEW}(hi:uJ K wi Wi) (hg:RefG K g G) (ht:x8 K tt T) (he:RefE K te E):RefE K (tLc wi n js g tt te) (wLc Wi n js G T E):=by
 intro Γ O H ρ σ S r Q R hT k
 refine hi _ _ _ _ _ S r _ _ hT fun Γ1 O1 H1 J ws keep l1 S1 ok h1=>?_
 obtain⟨hk,hlen,F,hF,hR⟩:=h1
 intro D hD
 have hFD:Γ1.F D=none:=S1.f.free hD
 have r1:=qu (r.mono l1) n js
 refine⟨fun i m σ' H'=>i≤ws.length/\m=ws.length - i/\∃ Γ' ρ' vs,Same Γ1.Z Γ'.Z/\(∀ a rs,Γ1.G a=some rs->∃ more,Γ'.G a=some (rs ++ more))/\Γ'.F=upd Γ1.F D (.lst vs)/\Sim K Γ' O1 H'/\relR K Γ' ρ' σ'/\
  ρ'.length=n+(xc js ρ).length/\ρ'.drop n=xc js ρ/\Reps K Γ'.Z ((ws.take i).filterMap F) vs,⟨_,Nat.zero_le _,rfl,_,_,[],Same.refl _,fun a rs h=>⟨[],by rw [List.append_nil];exact h⟩,rfl,S1.frameNew hD (.lst []),r1.setF,by simp,by simp,rfl⟩,?_⟩
 rintro i m σ' H' ⟨hi,rfl,Γ',ρ',vs,z',g',f',S',r',n1,n2,rp⟩
 obtain⟨ok1,ok2⟩:=ok i Γ' O1 H' z' g' S' hk
 have hvl:vs.length≤i:=by
  rw [<- Reps.length rp]
  exact Nat.le_trans (List.length_filterMap_le _ _) (by rw [List.length_take];omega)
 by_cases hlt:i < ws.length
 ·obtain⟨go,y⟩:=ok1 _ (List.getElem?_eq_getElem hlt)
  refine .inr ⟨go,fun σ2 H2=>∃ Γ2 ρ2 vs2,Same Γ1.Z Γ2.Z/\(∀ a rs,Γ1.G a=some rs->∃ more,Γ2.G a=some (rs ++ more))/\Γ2.F=upd Γ1.F D (.lst vs2)/\Sim K Γ2 O1 H2/\relR K Γ2 ρ2 σ2/\
   ρ2.length=n+(xc js ρ).length/\ρ2.drop n=xc js ρ/\Reps K Γ2.Z ((ws.take (i+1)).filterMap F) vs2,fun σ2 H2 h=>⟨ws.length - (i+1),by omega,hlt,rfl,h⟩,fun x H2 hy=>?_⟩
  obtain⟨Γ2,l2,S2,rx⟩:=y x H2 hy
  obtain⟨us,hus,rfl⟩:=ju n1 n2
  have et:ws.take (i+1)=ws.take i ++ [ws[i]]:=(List.take_append_getElem hlt).symm
  refine hg _ _ _ _ _ _ _ S2 (r'.mono l2) rx _ _ (hF _ (List.getElem_mem hlt) us hus) fun Γ3 O3 H3 ρ3 σ3 l3 S3 r3 h3=>?_
  obtain⟨⟨m1,m2⟩,h3⟩:=h3
  refine ht _ _ _ _ _ S3 r3 _ _ h3 fun Γ4 O4 H4 b l4 S4 h4=>?_
  have l24:=(l2.trans l3).trans l4
  have up:∀ Γ5,Le Γ' Γ5->Same Γ1.Z Γ5.Z/\(∀ a rs,Γ1.G a=some rs->∃ more,Γ5.G a=some (rs ++ more)):=fun Γ5 l=>⟨z'.trans l.z,fun a rs h=>by
   obtain⟨m,e⟩:=g' a rs h
   obtain⟨m2,e2⟩:=l.g a _ e
   exact⟨m ++ m2,by rw [<- List.append_assoc];exact e2⟩⟩
  cases b with
  |true=>
   rw [if_pos rfl] at h4 ⊢
   refine he _ _ _ _ _ S4 (r3.mono l4) _ _ h4 fun Γ5 O5 H5 w5 v5 l5 S5 r5 h5=>?_
   obtain⟨rfl,h5⟩:=h5
   have l25:=l24.trans l5
   cases hFw:F ws[i] with
   |none=>rw [hFw] at h5;cases h5
   |some d=>
    rw [hFw] at h5
    cases h5
    have f5:Γ5.F=upd Γ1.F D (.lst vs):=by rw [l25.f,f']
    have fD:Γ5.F D=some (.lst vs):=by rw [f5,zC]
    refine⟨vs,S5.f _ _ fD,ve (by omega),?_⟩
    obtain⟨u1,u2⟩:=up Γ5 l25
    refine⟨⟨Γ5.Z,Γ5.G,upd Γ5.F D (.lst (vs ++ [v5]))⟩,ρ3,vs ++ [v5],u1,u2,?_,S5.framePut fD _,((r3.mono l4).mono l5).setF,m1,m2,?_⟩
    ·show upd Γ5.F D _=_
     rw [f5,Yl]
    ·rw [et,List.filterMap_append]
     have:([ws[i]]:List W).filterMap F=[d]:=by simp [hFw]
     rw [this]
     exact Reps.snoc (Reps.same l25.z _ _ rp) r5
  |false=>
   rw [if_neg (by decide)] at h4 ⊢
   obtain⟨rfl,h4⟩:=h4
   obtain⟨u1,u2⟩:=up Γ4 l24
   refine⟨Γ4,ρ3,vs,u1,u2,by rw [l24.f,f'],S4,r3.mono l4,m1,m2,?_⟩
   cases hFw:F ws[i] with
   |some d=>rw [hFw] at h4;cases h4
   |none=>
    rw [et,List.filterMap_append]
    have:([ws[i]]:List W).filterMap F=[]:=by simp [hFw]
    rw [this,List.append_nil]
    exact Reps.same l24.z _ _ rp
 ·have hi2:i=ws.length:=by omega
  subst hi2
  refine .inl ⟨ok2 rfl,?_⟩
  rw [List.take_length] at rp
  obtain⟨q1,q2,q3⟩:=S'.unframe f' hFD rp
  exact k ⟨upd Γ'.Z D (.lst vs),Γ'.G,Γ1.F⟩ _ _ _ _ (l1.trans ⟨rfl,z'.trans q1,g'⟩) q2 q3 hR
end
section
variable {K:W.Frag}
noncomputable def xf {α:Type}(f:Str) (v:α):List (Str×α)->List (Str×α)
 |[]=>[(f,v)]
 | (g,x) :: r=>if g=f then (g,v) :: r else (g,x) :: xf f v r
theorem QG {Γ:Gh}{f:Str}{w:W}{v:V}(r:relW K Γ w v) {fs:List (Str×W)}{vs:List (Str×V)}(h:y6 K Γ fs vs):y6 K Γ (xf f w fs) (vc f v vs):=by
 unfold y6 at h ⊢
 induction h with
 |nil=>exact .cons ⟨rfl,r⟩ .nil
 |cons a b ih=>
  rename_i p q ps qs
  obtain⟨k,x⟩:=p
  obtain⟨k',y⟩:=q
  obtain⟨e1,e2⟩:=a
  cases (show k=k' from e1)
  simp only [xf,vc]
  split
  ·exact .cons ⟨rfl,r⟩ b
  ·exact .cons ⟨rfl,e2⟩ ih
noncomputable def j9:W->Option Key
 |.d (.int i)=>some (.inl i)
 |.d (.str x)=>some (.inr x)
 |_=>none
theorem kT {Γ:Gh}{w:W}{v:V}{k:Key}(r:relW K Γ w v) (e:j9 w=some k):v=kV k:=by
 cases w with
 |d x=>
  cases x <;> simp [j9] at e
  ·subst e;exact r
  ·subst e;exact r
 |own a=>cases e
 |row a i=>cases e
section
variable {κ α:Type} [DecidableEq κ]
noncomputable def xJ (kvs:List (κ×α)) (k:κ):Option α:=(kvs.find? fun kv=>decide (kv.1=k)).map (·.2)
noncomputable def xm (kvs:List (κ×α)) (k:κ) (v:α):List (κ×α):=if (kvs.any fun kv=>decide (kv.1=k))=true then kvs.map (fun kv=>if kv.1=k then (kv.1,v) else kv) else kvs ++ [(k,v)]
noncomputable def xX (kvs more:List (κ×α)):List (κ×α):=more.foldl (fun acc kv=>xm acc kv.1 kv.2) kvs
end
theorem ka {Γ:Gh}{k:Key}{kvs:List (Key×W)}{vs:List (Key×V)}(h:y6 K Γ kvs vs):(xJ kvs k=none->vf vs k=none)/\∀ w,xJ kvs k=some w->∃ v,vf vs k=some v/\relW K Γ w v:=by
 unfold y6 at h
 induction h with
 |nil=>exact⟨fun _=>rfl,fun w e=>by cases e⟩
 |cons a b ih=>
  rename_i p q ps qs
  obtain⟨k1,x⟩:=p
  obtain⟨k',y⟩:=q
  obtain⟨e1,e2⟩:=a
  cases (show k1=k' from e1)
  simp only [xJ,vf,List.find?_cons] at ih ⊢
  by_cases hk:k1=k
  ·simp [hk];exact e2
  ·simp only [hk,decide_false];exact ih
theorem J3 {Γ:Gh}{k:Key}{kvs:List (Key×W)}{vs:List (Key×V)}(h:y6 K Γ kvs vs):(kvs.any fun kv=>decide (kv.1=k))=vs.any fun kv=>decide (kv.1=k):=by
 unfold y6 at h
 induction h with
 |nil=>rfl
 |cons a b ih=>rw [List.any_cons,List.any_cons,a.1,ih]
theorem YR {Γ:Gh}{k:Key}{w:W}{v:V}(r:relW K Γ w v) {kvs:List (Key×W)}{vs:List (Key×V)}(h:y6 K Γ kvs vs):y6 K Γ (xm kvs k w) (x5 vs k v):=by
 unfold xm x5
 rw [J3 h]
 split
 ·have key:∀ {kvs:List (Key×W)}{vs:List (Key×V)},y6 K Γ kvs vs->y6 K Γ (kvs.map fun kv=>if kv.1=k then (kv.1,w) else kv) (vs.map fun kv=>if kv.1=k then (kv.1,v) else kv):=fun {kvs vs} h=>by
   unfold y6 at h ⊢
   induction h with
   |nil=>exact .nil
   |cons a b ih=>
    rename_i p q ps qs
    obtain⟨k1,x⟩:=p
    obtain⟨k',y⟩:=q
    obtain⟨e1,e2⟩:=a
    cases (show k1=k' from e1)
    refine .cons ?_ ih
    dsimp only
    split
    ·exact⟨rfl,r⟩
    ·exact⟨rfl,e2⟩
  exact key h
 ·exact Paired.appP h (.cons ⟨rfl,r⟩ .nil)
theorem ua {Γ:Gh}{more:List (Key×W)}{ms:List (Key×V)}(g:y6 K Γ more ms):∀ {kvs:List (Key×W)}{vs:List (Key×V)},y6 K Γ kvs vs->y6 K Γ (xX kvs more) (xI vs ms):=by
 unfold xX xI
 unfold y6 at g
 induction g with
 |nil=>exact fun h=>h
 |cons a b ih=>
  rename_i p q ps qs
  intro kvs vs h
  obtain⟨k1,x⟩:=p
  obtain⟨k',y⟩:=q
  obtain⟨e1,e2⟩:=a
  cases (show k1=k' from e1)
  exact ih (YR e2 h)
def J4 (Td Ty Tx:TEW):TEW:=fun ρ O R=>Td ρ O fun x O1=>∃ a,x=.own a/\(∃ kvs,O1 a=some (.dK kvs))/\Ty ρ O1 fun y O2=>Tx ρ O2 fun z O3=>∃ kvs k,O3 a=some (.dK kvs)/\j9 y=some k/\R ((xJ kvs k).getD z) O3
theorem J5 {td ty tx:TE}{Td Ty Tx:TEW}(hd:RefE K td Td) (hy:RefE K ty Ty) (hx:RefE K tx Tx):RefE K (JL td ty tx) (J4 Td Ty Tx):=by
 intro Γ O H ρ σ S r0 Q R hT k
 refine hd Γ O H ρ σ S r0 _ _ hT fun Γ1 O1 H1 x v l1 S1 rx h1=>?_
 obtain⟨a,rfl,⟨kvs0,ho0⟩,h1⟩:=h1
 obtain⟨_,vs0,p1,_⟩:=S1.o _ _ ho0
 refine⟨a,rx,.inl ⟨vs0,.inl p1⟩,?_⟩
 refine hy _ _ _ _ _ S1 (r0.mono l1) _ _ h1 fun Γ2 O2 H2 y u l2 S2 ry h2=>?_
 refine hx _ _ _ _ _ S2 (r0.mono (l1.trans l2)) _ _ h2 fun Γ3 O3 H3 z t l3 S3 rz h3=>?_
 obtain⟨kvs,ky,ho,ek,h3⟩:=h3
 obtain⟨_,vs,q1,q2⟩:=S3.o _ _ ho
 refine⟨vf vs ky,by rw [kT (ry.mono l3) ek];exact uG.k q1,k _ _ _ _ _ ((l1.trans l2).trans l3) S3 ?_ h3⟩
 cases e:xJ kvs ky with
 |none=>rw [(ka q2).1 e];exact rz
 |some w=>obtain⟨z',e',r'⟩:=(ka q2).2 w e;rw [e'];exact r'
noncomputable def Z4:List (TEW×TEW)->WS->OM->(List (W×W)->OM->Prop)->Prop
 |[],_,O,R=>R [] O
 | (Tk,Tv) :: ts,ρ,O,R=>Tk ρ O fun k O1=>Tv ρ O1 fun v O2=>Z4 ts ρ O2 fun ps O3=>R ((k,v) :: ps) O3
inductive RefPs (K:W.Frag):List (TE×TE)->List (TEW×TEW)->Prop
 |nil:RefPs K [] []
 |cons {tk tv:TE}{Tk Tv:TEW}{ts:List (TE×TE)}{Ts:List (TEW×TEW)}:RefE K tk Tk->RefE K tv Tv->RefPs K ts Ts->RefPs K ((tk,tv) :: ts) ((Tk,Tv) :: Ts)
theorem J6 {ts:List (TE×TE)}{Ts:List (TEW×TEW)}(h:RefPs K ts Ts):∀ Γ O H ρ σ,Sim K Γ O H->relR K Γ ρ σ->∀ (Q:List (V×V)->Hp->Prop) (R:List (W×W)->OM->Prop),Z4 Ts ρ O R->
  (∀ Γ' O' H' ws vs,Le Γ Γ'->Sim K Γ' O' H'->Paired (fun p q=>relW K Γ' p.1 q.1/\relW K Γ' p.2 q.2) ws vs->R ws O'->Q vs H')->ZV ts σ H Q:=by
 induction h with
 |nil=>intro Γ O H ρ σ S r Q R hT k;exact k _ _ _ _ _ (Le.refl _) S .nil hT
 |cons hk hv _ ih=>
  intro Γ O H ρ σ S r Q R hT k
  refine hk _ _ _ _ _ S r _ _ hT fun Γ1 O1 H1 w v l1 S1 r1 h1=>?_
  refine hv _ _ _ _ _ S1 (r.mono l1) _ _ h1 fun Γ2 O2 H2 w2 v2 l2 S2 r2 h2=>?_
  exact ih _ _ _ _ _ S2 (r.mono (l1.trans l2)) _ _ h2 fun Γ3 O3 H3 ws vs l3 S3 rs h3=>k _ _ _ _ _ ((l1.trans l2).trans l3) S3 (.cons ⟨(r1.mono l2).mono l3,r2.mono l3⟩ rs) h3
noncomputable def Xp:List (W×W)->Option (List (Key×W))
 |[]=>some []
 | (k,v) :: ps=>match j9 k,Xp ps with
  |some k',some r=>some ((k',v) :: r)
  |_,_=>none
theorem J7 {Γ:Gh}{ps:List (W×W)}{vs:List (V×V)}(r:Paired (fun p q=>relW K Γ p.1 q.1/\relW K Γ p.2 q.2) ps vs):∀ {kvs:List (Key×W)},Xp ps=some kvs->∃ us:List (Key×V),vs=us.map (fun kv=>(kV kv.1,kv.2))/\y6 K Γ kvs us:=by
 induction r with
 |nil=>intro kvs e;cases e;exact⟨[],rfl,.nil⟩
 |cons a b ih=>
  rename_i p q ps qs
  intro kvs e
  obtain⟨k,v⟩:=p
  obtain⟨k',v'⟩:=q
  simp only [Xp] at e
  split at e
  ·rename_i k1 r1 e1 e2
   cases e
   obtain⟨us,h1,h2⟩:=ih e2
   have hk:=kT (show relW K Γ k k' from a.1) e1
   exact⟨(k1,v') :: us,by rw [h1,hk];rfl,.cons ⟨rfl,a.2⟩ h2⟩
  ·cases e
def zbM (Ts:List (TEW×TEW)):TEW:=fun ρ O R=>∀ p,O p=none->Z4 Ts ρ (updO O p (.dK [])) fun ps O2=>O2 p=some (.dK [])/\∃ kvs,Xp ps=some kvs/\kvs.length≤15/\R (.own p) (updO O2 p (.dK (xX [] kvs)))
theorem zaw {ts:List (TE×TE)}{Ts:List (TEW×TEW)}(h:RefPs K ts Ts):RefE K (zbv ts) (zbM Ts):=by
 intro Γ O H ρ σ S r Q R hT k p hp
 have S1:=S.newO hp (o:=.dK []) (oo:=.dK []) (by intro _ h;cases h) ⟨[],zC,.nil⟩
 refine J6 h _ _ _ _ _ S1 r _ _ (hT p (S.free hp).2.1) fun Γ2 O2 H2 ws vs l2 S2 rs h2=>?_
 obtain⟨ho,kvs,ek,hl,h2⟩:=h2
 obtain⟨us,h3,h4⟩:=J7 rs ek
 obtain⟨_,vs0,q1,q2⟩:=S2.o _ _ ho
 cases q2
 refine⟨q1,us,h3,by rw [<- Paired.length h4];exact hl,?_⟩
 exact k _ _ _ _ _ l2 (S2.put (oo:=.dK _) ho (by intro _ h;cases h) (by intro _ h;cases h) ⟨_,zC,ua h4 .nil⟩) xP h2
def tyW (T:String) (O:OM) (w:W):Prop:=(T= "list"/\(yN O w).isSome=true)\/(T= "str"/\∃ z,w=.d (.str z))\/(T= "dict"/\∃ a kvs,w=.own a/\O a=some (.dK kvs))
theorem zbN {Γ:Gh}{O:OM}{H:Hp}{T:String}{w:W}{v:V}(S:Sim K Γ O H) (r:relW K Γ w v) (h:tyW T O w):tyV K T v H:=by
 rcases h with⟨rfl,h⟩ | ⟨rfl,z,rfl⟩ | ⟨rfl,a,kvs,rfl,h⟩
 ·obtain⟨ws,e⟩:=Option.isSome_iff_exists.mp h
  obtain⟨a,vs,rfl,q1,_⟩:=xv S r e
  exact .inl ⟨rfl,vs,q1⟩
 ·rw [show v=.str z from r];rfl
 ·cases (show v=.ref a from r)
  obtain⟨_,vs,q1,_⟩:=S.o _ _ h
  exact .inr (.inr (.inl ⟨rfl,.inl ⟨vs,q1⟩⟩))
def wBM (T:String) (rw:W->List W->OM->WK->Prop) (To:TEW) (Ta:TAW):TEW:=fun ρ O R=>To ρ O fun x O1=>tyW T O1 x/\Ta ρ O1 fun xs O2=>rw x xs O2 R
theorem zeI {T:String}{r:V->List V->Hp->VK->Prop}{rw:W->List W->OM->WK->Prop}{to:TE}{To:TEW}{t:TA}{Ta:TAW}(hr:RefM K T r rw) (ho:RefE K to To) (ha:xN K t Ta):RefE K (tBM K T r to t) (wBM T rw To Ta):=by
 intro Γ O H ρ σ S r0 Q R hT k
 refine ho _ _ _ _ _ S r0 _ _ hT fun Γ1 O1 H1 x v l1 S1 rx h1=>?_
 refine⟨zbN S1 rx h1.1,ha _ _ _ _ _ S1 (r0.mono l1) _ _ h1.2 fun Γ2 O2 H2 ws vs l2 S2 rs h2=>?_⟩
 exact hr _ _ _ _ _ _ _ S2 (rx.mono l2) rs _ _ h2 fun Γ3 O3 H3 w u l3=>k _ _ _ _ _ ((l1.trans l2).trans l3)
def zeJ (T:String) (rw:W->List W->OM->WK->Prop) (To:TEW):TEW:=fun ρ O R=>To ρ O fun x O1=>tyW T O1 x/\rw x [] O1 R
theorem zcP {T:String}{r:V->List V->Hp->VK->Prop}{rw:W->List W->OM->WK->Prop}{to:TE}{To:TEW}(hr:RefM K T r rw) (ho:RefE K to To):RefE K (KW K T r to) (zeJ T rw To):=by
 intro Γ O H ρ σ S r0 Q R hT k
 refine ho _ _ _ _ _ S r0 _ _ hT fun Γ1 O1 H1 x v l1 S1 rx h1=>?_
 exact⟨zbN S1 rx h1.1,hr _ _ _ _ _ _ _ S1 rx .nil _ _ h1.2 fun Γ3 O3 H3 w u l3=>k _ _ _ _ _ (l1.trans l3)⟩
noncomputable def X2 (O:OM) (o w:W):Option OM:=match o with
 |.own a=>match O a with
  |some (.lst ws)=>if ws.length < 1000 then some (updO O a (.lst (ws ++ [w]))) else none
  |some (.grid rows)=>match w with
   |.own b=>match O b with
    |some (.lst us)=>if rows.length < 1000 then (xq us).map fun ds=>updO (del O b) a (.grid (rows ++ [ds])) else none
    |_=>none
   |_=>none
  |_=>none
 |_=>none
def UM:W->List W->OM->WK->Prop:=fun x ws O R=>∃ w O1,ws=[w]/\X2 O x w=some O1/\R (.d .none) O1
theorem zax {T:String}:RefM K T Uy UM:=by
 rintro Γ O H x v xs vs S rx rs Q R ⟨w,O1,rfl,e,h⟩ k
 cases rs with
 |cons rw t=>
  cases t
  rename_i u
  cases x with
  |d _=>cases e
  |row _ _=>cases e
  |own a=>
   cases (show v=.ref a from rx)
   simp only [X2] at e
   split at e
   ·rename_i ws ho
    split at e
    ·rename_i hl
     cases e
     obtain⟨_,us,q1,q2⟩:=S.o _ _ ho
     refine⟨a,us,u,rfl,rfl,q1,by rw [<- Paired.length q2];exact ve (by omega),?_⟩
     exact k _ _ _ _ _ (Le.refl _) (S.put (oo:=.lst _) ho (by intro _ h;cases h) (by intro _ h;cases h) ⟨_,zC,Paired.appP q2 (.cons rw .nil)⟩) qY h
    ·cases e
   ·rename_i rows ho
    split at e
    ·rename_i b
     cases (show u=.ref b from rw)
     split at e
     ·rename_i us hb
      split at e
      ·rename_i hl
       cases hd:xq us with
       |none=>rw [hd] at e;cases e
       |some ds=>
        rw [hd] at e
        cases e
        rw [xO hd] at hb
        obtain⟨_,rs,hg,_⟩:=S.o _ _ ho
        obtain⟨q1,q2,Γ',l',S'⟩:=S.absorb ho hg hb
        refine⟨a,_,.ref b,rfl,rfl,q1,by rw [List.length_map,q2];exact ve (by omega),?_⟩
        exact k _ _ _ _ _ l' S' qY h
      ·cases e
     ·cases e
    ·cases e
   ·cases e
def UN:W->List W->OM->WK->Prop:=fun x ws O R=>∃ a b kvs more,x=.own a/\ws=[.own b]/\O a=some (.dK kvs)/\O b=some (.dK more)/\a≠b/\kvs.length+more.length≤1000/\R (.d .none) (updO O a (.dK (xX kvs more)))
theorem zay {T:String}:RefM K T UF UN:=by
 rintro Γ O H x v xs vs S rx rs Q R ⟨a,b,kvs,more,rfl,rfl,ho,hb,hne,hl,h⟩ k
 cases rs with
 |cons rw t=>
  cases t
  cases (show v=.ref a from rx)
  obtain⟨_,vs,q1,q2⟩:=S.o _ _ ho
  obtain⟨_,us,p1,p2⟩:=S.o _ _ hb
  refine⟨a,b,vs,us,rfl,by rw [show _=V.ref b from rw],q1,p1,hne,by rw [<- Paired.length q2,<- Paired.length p2];exact hl,?_⟩
  exact k _ _ _ _ _ (Le.refl _) (S.put (oo:=.dK _) ho (by intro _ h;cases h) (by intro _ h;cases h) ⟨_,zC,ua p2 q2⟩) qY h
end
section
variable {K:W.Frag}
def zbO (t:TA):TE:=Zj t
theorem kU {X:Cx}{es:List Expr}{t:TA}{pos:Pos}(h:QA X es t):PE X (.List es pos) (zbO t):=Jx h.pa
def zbP (T:TAW):TEW:=fun ρ O R=>T ρ O fun ws O1=>ws.length≤1000/\∀ p,O1 p=none->R (.own p) (updO O1 p (.lst ws))
theorem zaz {t:TA}{T:TAW}(h:xN K t T):RefE K (zbO t) (zbP T):=by
 intro Γ O H ρ σ S r0 Q R hT k
 refine h Γ O H ρ σ S r0 _ _ hT fun Γ1 O1 H1 ws vs l1 S1 rs h1=>?_
 refine⟨by rw [<- Paired.length rs];exact qZ h1.1,fun p hp=>?_⟩
 obtain⟨hO,S'⟩:=Yv S1 rs hp
 exact k _ _ _ _ _ l1 S' xP (h1.2 p hO)
theorem zgu:RefC K (rLo K) XZ:=zcJ
def zeK (i j:Nat) (T:TAW):TSW:=fun D ρ O=>T ρ O fun ws O1=>∃ x y,ws=[x,y]/\D.nx ((ρ.set i (some x)).set j (some y)) O1
theorem vH {Γ:Gh}{w:W}{v:V}(h:relW K Γ w v):jt K Γ (some w) (some v):=h
theorem zcQ {i j:Nat}{t:TA}{T:TAW}(h:xN K t T):RefS K (zdT i j t) (zeK i j T):=by
 intro Γ O H ρ σ D DW S r hT e
 refine h _ _ _ _ _ S r _ _ hT fun Γ1 O1 H1 ws vs l1 S1 rs h1=>?_
 obtain⟨x,y,rfl,h1⟩:=h1
 cases rs with
 |cons rx t=>cases t with
  |cons ry t=>
   cases t
   exact⟨_,_,rfl,e.nx _ _ _ _ _ l1 S1 (Paired.setP (Paired.setP (r.mono l1) (vH rx)) (vH ry)) h1⟩
def zbQ (i j k:Nat) (T:TAW):TSW:=fun D ρ O=>T ρ O fun ws O1=>∃ x y z,ws=[x,y,z]/\D.nx (((ρ.set k (some z)).set j (some y)).set i (some x)) O1
theorem zaA {i j k:Nat}{t:TA}{T:TAW}(h:xN K t T):RefS K (zbA i j k t) (zbQ i j k T):=by
 intro Γ O H ρ σ D DW S r hT e
 refine h _ _ _ _ _ S r _ _ hT fun Γ1 O1 H1 ws vs l1 S1 rs h1=>?_
 obtain⟨x,y,z,rfl,h1⟩:=h1
 cases rs with
 |cons rx t=>cases t with
  |cons ry t=>cases t with
   |cons rz t=>
    cases t
    exact⟨_,_,_,rfl,e.nx _ _ _ _ _ l1 S1 (Paired.setP (Paired.setP (Paired.setP (r.mono l1) (vH rz)) (vH ry)) (vH rx)) h1⟩
def wCs (vs:List V):TAW:=fun _ O R=>R (vs.map ofV) O
theorem zeL {vs:List V}(h:vs.all scV=true:=by rfl):xN K (tCs vs) (wCs vs):=fun Γ O H ρ σ S r Q R hT k=>k _ _ _ _ _ (Le.refl _) S (Zq h) hT
noncomputable def tyD:PyData->Option String
 |.none=>some "NoneType"
 |.bool _=>some "bool"
 |.int _=>some "int"
 |.str _=>some "str"
 |_=>none
noncomputable def isI:String->String->Option Bool
 | "int","int"=>some true
 | "int","bool"=>some false
 | "int","str"=>some false
 | "bool","int"=>some true
 | "bool","bool"=>some true
 | "bool","str"=>some false
 | "str","int"=>some false
 | "str","bool"=>some false
 | "str","str"=>some true
 | "NoneType","int"=>some false
 | "NoneType","bool"=>some false
 | "NoneType","str"=>some false
 |_,_=>none
theorem zcR {a b:String}{c:Bool}(h:isI a b=some c):PySem.W.kitOne K (.type a) (.type b)=some c:=by
 unfold isI at h
 split at h <;> first | (cases h;rfl) |cases h
def zeM (K:W.Frag):List V->Hp->VK->Prop:=fun xs H Q=>∃ x n t b,xs=[x,.ty n]/\TyOf K H x t/\PySem.W.kitOne K t (.type n)=some b/\Q (.bl b) H
theorem YS {X:Cx}(h:X.K=K):xy X (.builtin "isinstance") (zeM K):=by subst h;exact VW
def zaB (n:String) (Ta:TEW):TEW:=fun ρ O R=>Ta ρ O fun x O1=>∃ d s b,x=.d d/\tyD d=some s/\isI s n=some b/\R (.d (.bool b)) O1
theorem zcS {n:String}{ta:TE}{Ta:TEW}(h:RefE K ta Ta):RefE K (tCB (zeM K) (ZL ta (ZL (tC (.ty n)) Yq))) (zaB n Ta):=by
 intro Γ O H ρ σ S r Q R hT k
 refine h _ _ _ _ _ S r _ _ hT fun Γ1 O1 H1 x v l1 S1 rx h1=>?_
 obtain⟨d,s,b,rfl,e1,e2,h1⟩:=h1
 have ty:TyOf K H1 v (.type s):=by
  cases d <;> simp [tyD] at e1
  ·subst e1;rw [show v=_ from rx];exact .non
  ·subst e1;rw [show v=_ from rx];exact .bl _
  ·subst e1;rw [show v=_ from rx];exact .int _
  ·subst e1;rw [show v=_ from rx];exact .str _
 exact⟨v,n,_,b,rfl,ty,zcR e2,k _ _ _ _ _ l1 S1 vF h1⟩
abbrev TOW:=WS->OM->(Option Int->OM->Prop)->Prop
def kb (K:W.Frag) (t:TO) (T:TOW):Prop:=∀ Γ O H ρ σ,Sim K Γ O H->relR K Γ ρ σ->∀ (Q:Option Int->Hp->Prop) (R:Option Int->OM->Prop),T ρ O R->(∀ Γ' O' H' b,Le Γ Γ'->Sim K Γ' O' H'->R b O'->Q b H')->t σ H Q
def UO:TOW:=fun _ O R=>R none O
def zbR (T:TEW):TOW:=fun ρ O R=>T ρ O fun x O1=>∃ i,x=.d (.int i)/\R (some i) O1
theorem QH:kb K Uw UO:=fun Γ O H ρ σ S r Q R hT k=>k _ _ _ _ (Le.refl _) S hT
theorem zaC {t:TE}{T:TEW}(h:RefE K t T):kb K (zbo t) (zbR T):=by
 intro Γ O H ρ σ S r Q R hT k
 refine h _ _ _ _ _ S r _ _ hT fun Γ1 O1 H1 x v l1 S1 rx h1=>?_
 obtain⟨i,rfl,h1⟩:=h1
 exact⟨i,rx,k _ _ _ _ l1 S1 h1⟩
noncomputable def vd {α:Type}(xs:List α) (lo hi:Option Int):List α:=(xs.drop (HT.sIx xs.length 0 lo)).take (HT.sIx xs.length xs.length hi - HT.sIx xs.length 0 lo)
theorem zaD {Z:Hp}{ds:List PyData}{vs:List V}(h:Reps K Z ds vs) (lo hi:Option Int):Reps K Z (vd ds lo hi) (jX vs lo hi):=by
 have hp:relWs K ⟨Z,fun _=>none,fun _=>none⟩ (ds.map .d) vs:=xt h
 have hl:=Reps.length h
 have:=Paired.takeP (Paired.dropP hp (HT.sIx vs.length 0 lo)) (HT.sIx vs.length vs.length hi - HT.sIx vs.length 0 lo)
 rw [<- List.map_drop,<- List.map_take] at this
 unfold vd jX
 rw [hl]
 exact yI this
def zeN (Te:TEW) (Tl Th:TOW):TEW:=fun ρ O R=>Te ρ O fun x O1=>Tl ρ O1 fun l O2=>Th ρ O2 fun u O3=>∃ ws ds,yN O3 x=some ws/\xq ws=some ds/\R (.d (.list (vd ds l u))) O3
theorem zcT {te:TE}{tl th:TO}{Te:TEW}{Tl Th:TOW}(he:RefE K te Te) (hl:kb K tl Tl) (hh:kb K th Th):RefE K (tSl (Qp K) te tl th) (zeN Te Tl Th):=by
 intro Γ O H ρ σ S r Q R hT k
 refine he _ _ _ _ _ S r _ _ hT fun Γ1 O1 H1 x v l1 S1 rx h1=>?_
 refine hl _ _ _ _ _ S1 (r.mono l1) _ _ h1 fun Γ2 O2 H2 l l2 S2 h2=>?_
 refine hh _ _ _ _ _ S2 (r.mono (l1.trans l2)) _ _ h2 fun Γ3 O3 H3 u l3 S3 h3=>?_
 obtain⟨ws,ds,e1,e2,h3⟩:=h3
 obtain⟨a,vs,rfl,q1,q2⟩:=xv S3 ((rx.mono l2).mono l3) e1
 rw [xO e2] at q2
 refine⟨a,vs,rfl,q1,fun p hp=>?_⟩
 obtain⟨Γ',l',S',r'⟩:=uI S3 (zaD (yI q2) l u) hp
 exact k _ _ _ _ _ (((l1.trans l2).trans l3).trans l') S' r' h3
def zeO:R2W:=fun x y O R=>∃ ws us ds es,yN O x=some ws/\yN O y=some us/\xq ws=some ds/\xq us=some es/\ds.length+es.length≤1000/\R (.d (.list (ds ++ es))) O
theorem Zs {Z:Hp}:∀ {ds es:List PyData}{vs us:List V},Reps K Z ds vs->Reps K Z es us->Reps K Z (ds ++ es) (vs ++ us)
 |[],_,_,_,h,g=>by rw [show _=[] from h];exact g
 |d :: ds,_,_,_,h,g=>by
  obtain⟨x,r,rfl,h1,h2⟩:=h
  exact⟨x,_,rfl,h1,Zs h2 g⟩
theorem zfK:RefR K (zei K) zeO:=by
 rintro Γ O H x y v u S rx ry Q R ⟨ws,us,ds,es,e1,e2,e3,e4,hl,h⟩ k
 obtain⟨a,vs,rfl,q1,q2⟩:=xv S rx e1
 obtain⟨b,zs,rfl,p1,p2⟩:=xv S ry e2
 rw [xO e3] at q2
 rw [xO e4] at p2
 have q3:=yI q2
 have p3:=yI p2
 refine⟨a,b,vs,zs,rfl,rfl,q1,p1,by rw [<- Reps.length q3,<- Reps.length p3];exact qZ hl,fun p hp=>?_⟩
 obtain⟨Γ',l',S',r'⟩:=uI S (Zs q3 p3) hp
 exact k _ _ _ _ _ l' S' r' h
def wIn (neg:Bool):R2W:=fun x y O R=>∃ d ds,x=.d d/\qD O y=some ds/\scD d=true/\ds.all scD=true/\R (.d (.bool (if neg then !inV (vOf d) (ds.map vOf) else inV (vOf d) (ds.map vOf)))) O
theorem UP {Z:Hp}:∀ {ds:List PyData}{vs:List V},Reps K Z ds vs->ds.all scD=true->vs=ds.map vOf
 |[],_,h,_=>h
 |d :: ds,_,h,a=>by
  obtain⟨x,r,rfl,h1,h2⟩:=h
  simp at a
  rw [qW h1 a.1,UP h2 (by simpa using a.2)]
  rfl
theorem UQ {d:PyData}(h:scD d=true):uw (vOf d)=true:=by cases d <;> first |rfl |simp [scD] at h
def zeP (K:W.Frag) (neg:Bool):R2:=rIn K neg
theorem jv {X:Cx}(h:X.K=K):OpR X (compareOp .In) (zeP K false):=by subst h;exact JB
theorem zgv {neg:Bool}:RefR K (zeP K neg) (wIn neg):=by
 rintro Γ O H x y v u S rx ry Q R ⟨d,ds,rfl,e,h1,h2,h⟩ k
 obtain⟨a,vs,rfl,q1,q2⟩:=UL S ry e
 have hv:=qW rx h1
 have hvs:=UP q2 h2
 subst hv hvs
 refine⟨a,_,rfl,q1,UQ h1,?_,k _ _ _ _ _ (Le.refl _) S vF h⟩
 rw [List.all_map]
 simp only [List.all_eq_true] at h2 ⊢
 exact fun z hz=>UQ (h2 z hz)
end
section
variable {K:W.Frag}
theorem Sim.unframeO {Γ:Gh}{O:OM}{H:Hp}(S:Sim K Γ O H) {a:Addr}{ds:List PyData}{vs:List V}{F:Hp}(hF:Γ.F=upd F a (.lst vs)) (h0:F a=none) (hr:Reps K Γ.Z ds vs) :
  O a=none/\Sim K ⟨Γ.Z,Γ.G,F⟩ (updO O a (.lst (ds.map .d))) H:=by
 have hFa:Γ.F a=some (.lst vs):=by rw [hF,zC]
 obtain⟨hz,hO,hrow⟩:=S.fd _ _ hFa
 have kF:∀ b o,F b=some o->b≠a/\Γ.F b=some o:=fun b o e=>by
  have hb:b≠a:=fun z=>by rw [z,h0] at e;cases e
  exact⟨hb,by rw [hF,zk hb];exact e⟩
 have k1:∀ {x:Addr}{rx:List (List PyData)},updO O a (.lst (ds.map .d)) x=some (.grid rx)->O x=some (.grid rx):=fun {x rx} h=>by
  by_cases hx:x=a
  ·subst hx;rw [zc] at h;cases h
  ·rw [ze hx] at h;exact h
 refine⟨hO,⟨S.z,fun b oo e=>?_,S.gd,fun b u e=>S.f _ _ (kF b u e).2,fun b oo e hn=>?_,fun b o e=>S.fg b o (kF b o e).2,fun b o e=>⟨(S.fd b o (kF b o e).2).1,by rw [ze (kF b o e).1];exact (S.fd b o (kF b o e).2).2.1,fun c rows rs e1=>(S.fd b o (kF b o e).2).2.2 c rows rs (k1 e1)⟩,fun x y ra rb rs ss r e1 e2=>S.u x y ra rb rs ss r (k1 e1) (k1 e2)⟩⟩
 ·by_cases hb:b=a
  ·subst hb
   rw [zc] at e
   cases e
   exact⟨hz,vs,S.f _ _ hFa,xt hr⟩
  ·rw [ze hb] at e
   obtain⟨q1,q2⟩:=S.o _ _ e
   refine⟨q1,(q2.keep (Le.refl _) rfl rfl fun rs r hg ⟨rows,hrw⟩ hm=>⟨rfl,rfl,?_⟩).setF⟩
   subst hrw
   exact ze (fun z=>hrow b rows rs e hg (by rw [<- z];exact hm))
 ·by_cases hb:b=a
  ·rw [hb];exact S.fg _ _ hFa
  ·rw [ze hb] at e;exact S.gn b oo e hn
def zaE (wi:TI) (n:Nat) (js:List Nat) (g:TG) (tt:TT) (te:TE):TE:=tLc wi n js g tt te
def zeQ (wi:TI) (n:Nat) (js:List Nat) (g:TG) (tt:TT) (te:TE):TE:=tLc wi n js g tt te
section
variable {X:Cx}{N:List Str}{n:Nat}{js:List Nat}{scope:Scope}{cl:List (Str×Addr)}{elt tg iter:Expr}{ifs:List Expr}{pos:Pos}{wi:TI}{g:TG}{tt:TT}{te:TE}
theorem X3 (L:LcOk X N n js scope cl) (hc:X.calm=true) (hi:PI X tg iter wi)
  (hg:∀ C s0 H0 fp0,PG (xh X N scope cl C s0 H0 fp0) tg g) (ht:∀ C s0 H0 fp0,PTs (xh X N scope cl C s0 H0 fp0) ifs tt) (he:∀ C s0 H0 fp0,PE (xh X N scope cl C s0 H0 fp0) elt te)
  (hs:∀ x,foldedSetIterable iter X.env x=pure x:=by intro _;rfl):PE X (.ListComp elt [⟨tg,iter,ifs,0⟩] scope pos) (zaE wi n js g tt te):=ZO L hc hi hg ht he hs
theorem J8 (L:LcOk X N n js scope cl) (hc:X.calm=true) (hi:PI X tg iter wi)
  (hg:∀ C s0 H0 fp0,PG (xh X N scope cl C s0 H0 fp0) tg g) (ht:∀ C s0 H0 fp0,PTs (xh X N scope cl C s0 H0 fp0) ifs tt) (he:∀ C s0 H0 fp0,PE (xh X N scope cl C s0 H0 fp0) elt te)
  (hs:∀ x,foldedSetIterable iter X.env x=pure x:=by intro _;rfl):PE X (.ListComp elt [⟨tg,iter,ifs,0⟩] scope pos) (zeQ wi n js g tt te):=ZO L hc hi hg ht he hs
theorem J9 {i:Nat}{x:Str}{pos' spos:Pos}(hN:X.N.Nodup) (hx:X.N[i]? =some x) (hk:X.env.scope.names.lookup x=some .local) (L:LcOk X N n js scope cl) (hc:X.calm=true) (hi:PI X tg iter wi)
  (hg:∀ C s0 H0 fp0,PG (xh X N scope cl C s0 H0 fp0) tg g) (ht:∀ C s0 H0 fp0,PTs (xh X N scope cl C s0 H0 fp0) ifs tt) (he:∀ C s0 H0 fp0,PE (xh X N scope cl C s0 H0 fp0) elt te)
  (hsw:swapsWith (.ListComp elt [⟨tg,iter,ifs,0⟩] scope pos) (some (.Name x pos')) spos.line X.env=pure true:=by rfl)
  (hs:∀ x,foldedSetIterable iter X.env x=pure x:=by intro _;rfl):PS X (.Assign [.Name x pos'] (.ListComp elt [⟨tg,iter,ifs,0⟩] scope pos) spos) (Yo (zaE wi n js g tt te) (jo i)):=XL hN hx hk L hc hi hg ht he hsw hs
end
def zeR (Wi:TIW) (n:Nat) (js:List Nat) (G:TGW) (T:TTW) (E:TEW):TEW:=fun ρ O R=>Wi ρ O fun ws keep O1=>keep O1/\ws.length≤1000/\∃ F:W->Option PyData,
 (∀ w∈ws,∀ us:WS,us.length=n->Z3 G T E n (xc js ρ) w (us ++ xc js ρ) O1 fun y O2=>O2=O1/\y=(F w).map .d)/\∀ p,O1 p=none->R (.own p) (updO O1 p (.lst ((ws.filterMap F).map .d)))
theorem zcU {wi:TI}{Wi:TIW}{n:Nat}{js:List Nat}{g:TG}{G:TGW}{tt:TT}{T:TTW}{te:TE}{E:TEW}(hi:uJ K wi Wi) (hg:RefG K g G) (ht:x8 K tt T) (he:RefE K te E):RefE K (zaE wi n js g tt te) (zeR Wi n js G T E):=by
 intro Γ O H ρ σ S r Q R hT k
 refine hi _ _ _ _ _ S r _ _ hT fun Γ1 O1 H1 J ws keep l1 S1 ok h1=>?_
 obtain⟨hk,hlen,F,hF,hR⟩:=h1
 intro D hD
 have hFD:Γ1.F D=none:=S1.f.free hD
 have hOD:=(S1.free hD).2.1
 have r1:=qu (r.mono l1) n js
 refine⟨fun i m σ' H'=>i≤ws.length/\m=ws.length - i/\∃ Γ' ρ' vs,Same Γ1.Z Γ'.Z/\(∀ a rs,Γ1.G a=some rs->∃ more,Γ'.G a=some (rs ++ more))/\Γ'.F=upd Γ1.F D (.lst vs)/\Sim K Γ' O1 H'/\relR K Γ' ρ' σ'/\
  ρ'.length=n+(xc js ρ).length/\ρ'.drop n=xc js ρ/\Reps K Γ'.Z ((ws.take i).filterMap F) vs,⟨_,Nat.zero_le _,rfl,_,_,[],Same.refl _,fun a rs h=>⟨[],by rw [List.append_nil];exact h⟩,rfl,S1.frameNew hD (.lst []),r1.setF,by simp,by simp,rfl⟩,?_⟩
 rintro i m σ' H' ⟨hi,rfl,Γ',ρ',vs,z',g',f',S',r',n1,n2,rp⟩
 obtain⟨ok1,ok2⟩:=ok i Γ' O1 H' z' g' S' hk
 have hvl:vs.length≤i:=by
  rw [<- Reps.length rp]
  exact Nat.le_trans (List.length_filterMap_le _ _) (by rw [List.length_take];omega)
 by_cases hlt:i < ws.length
 ·obtain⟨go,y⟩:=ok1 _ (List.getElem?_eq_getElem hlt)
  refine .inr ⟨go,fun σ2 H2=>∃ Γ2 ρ2 vs2,Same Γ1.Z Γ2.Z/\(∀ a rs,Γ1.G a=some rs->∃ more,Γ2.G a=some (rs ++ more))/\Γ2.F=upd Γ1.F D (.lst vs2)/\Sim K Γ2 O1 H2/\relR K Γ2 ρ2 σ2/\
   ρ2.length=n+(xc js ρ).length/\ρ2.drop n=xc js ρ/\Reps K Γ2.Z ((ws.take (i+1)).filterMap F) vs2,fun σ2 H2 h=>⟨ws.length - (i+1),by omega,hlt,rfl,h⟩,fun x H2 hy=>?_⟩
  obtain⟨Γ2,l2,S2,rx⟩:=y x H2 hy
  obtain⟨us,hus,rfl⟩:=ju n1 n2
  have et:ws.take (i+1)=ws.take i ++ [ws[i]]:=(List.take_append_getElem hlt).symm
  refine hg _ _ _ _ _ _ _ S2 (r'.mono l2) rx _ _ (hF _ (List.getElem_mem hlt) us hus) fun Γ3 O3 H3 ρ3 σ3 l3 S3 r3 h3=>?_
  obtain⟨⟨m1,m2⟩,h3⟩:=h3
  refine ht _ _ _ _ _ S3 r3 _ _ h3 fun Γ4 O4 H4 b l4 S4 h4=>?_
  have l24:=(l2.trans l3).trans l4
  have up:∀ Γ5,Le Γ' Γ5->Same Γ1.Z Γ5.Z/\(∀ a rs,Γ1.G a=some rs->∃ more,Γ5.G a=some (rs ++ more)):=fun Γ5 l=>⟨z'.trans l.z,fun a rs h=>by
   obtain⟨m,e⟩:=g' a rs h
   obtain⟨m2,e2⟩:=l.g a _ e
   exact⟨m ++ m2,by rw [<- List.append_assoc];exact e2⟩⟩
  cases b with
  |true=>
   rw [if_pos rfl] at h4 ⊢
   refine he _ _ _ _ _ S4 (r3.mono l4) _ _ h4 fun Γ5 O5 H5 w5 v5 l5 S5 r5 h5=>?_
   obtain⟨rfl,h5⟩:=h5
   have l25:=l24.trans l5
   cases hFw:F ws[i] with
   |none=>rw [hFw] at h5;cases h5
   |some d=>
    rw [hFw] at h5
    cases h5
    have f5:Γ5.F=upd Γ1.F D (.lst vs):=by rw [l25.f,f']
    have fD:Γ5.F D=some (.lst vs):=by rw [f5,zC]
    refine⟨vs,S5.f _ _ fD,ve (by omega),?_⟩
    obtain⟨u1,u2⟩:=up Γ5 l25
    refine⟨⟨Γ5.Z,Γ5.G,upd Γ5.F D (.lst (vs ++ [v5]))⟩,ρ3,vs ++ [v5],u1,u2,?_,S5.framePut fD _,((r3.mono l4).mono l5).setF,m1,m2,?_⟩
    ·show upd Γ5.F D _=_
     rw [f5,Yl]
    ·rw [et,List.filterMap_append]
     have:([ws[i]]:List W).filterMap F=[d]:=by simp [hFw]
     rw [this]
     exact Reps.snoc (Reps.same l25.z _ _ rp) r5
  |false=>
   rw [if_neg (by decide)] at h4 ⊢
   obtain⟨rfl,h4⟩:=h4
   obtain⟨u1,u2⟩:=up Γ4 l24
   refine⟨Γ4,ρ3,vs,u1,u2,by rw [l24.f,f'],S4,r3.mono l4,m1,m2,?_⟩
   cases hFw:F ws[i] with
   |some d=>rw [hFw] at h4;cases h4
   |none=>
    rw [et,List.filterMap_append]
    have:([ws[i]]:List W).filterMap F=[]:=by simp [hFw]
    rw [this,List.append_nil]
    exact Reps.same l24.z _ _ rp
 ·have hi2:i=ws.length:=by omega
  subst hi2
  refine .inl ⟨ok2 rfl,?_⟩
  rw [List.take_length] at rp
  obtain⟨q1,q2⟩:=S'.unframeO f' hFD rp
  exact k ⟨Γ'.Z,Γ'.G,Γ1.F⟩ _ _ _ _ (l1.trans ⟨rfl,z',g'⟩) q2 xP (hR D hOD)
def zeS (Wi:TIW) (n:Nat) (js:List Nat) (G:TGW) (T:TTW) (E:TEW):TEW:=fun ρ O R=>Wi ρ O fun ws keep O1=>keep O1/\ws.length≤1000/\∃ F:W->List PyData,
 (∀ w∈ws,∀ us:WS,us.length=n->Z3 G T E n (xc js ρ) w (us ++ xc js ρ) O1 fun y O2=>∃ b,O1 b=none/\y=some (.own b)/\O2=updO O1 b (.lst ((F w).map .d)))/\∀ p,O1 p=none->R (.own p) (updO O1 p (.grid (ws.map F)))
theorem zcV {wi:TI}{Wi:TIW}{n:Nat}{js:List Nat}{g:TG}{G:TGW}{tt:TT}{T:TTW}{te:TE}{E:TEW}(hi:uJ K wi Wi) (hg:RefG K g G) (ht:x8 K tt T) (he:RefE K te E):RefE K (zeQ wi n js g tt te) (zeS Wi n js G T E):=by
  intro Γ O H ρ σ S r Q R hT k
  refine hi _ _ _ _ _ S r _ _ hT fun Γ1 O1 H1 J ws keep l1 S1 ok h1=>?_
  obtain⟨hk,hlen,F,hF,hR⟩:=h1
  intro D hD
  have hFD:Γ1.F D=none:=S1.f.free hD
  have hOD:=(S1.free hD).2.1
  have r1:=qu (r.mono l1) n js
  refine⟨fun i m σ' H'=>i≤ws.length/\m=ws.length - i/\∃ Γ' ρ',∃ rs:List Addr,Same Γ1.Z Γ'.Z/\(∀ a rs,Γ1.G a=some rs->∃ more,Γ'.G a=some (rs ++ more))/\Sim K Γ' O1 H'/\relR K Γ' ρ' σ'/\
    (ρ'.length=n+(xc js ρ).length/\ρ'.drop n=xc js ρ)/\Γ'.F D=some (.lst (rs.map V.ref))/\rs.Nodup/\D ∉ rs/\rs.length=i/\
    (∀ (j:Nat) (q:Addr),rs[j]? =some q->Γ1.F q=none/\∃ vs w,Γ'.F q=some (.lst vs)/\ws[j]? =some w/\Reps K Γ'.Z (F w) vs)/\∀ x,x≠D->x ∉ rs->Γ'.F x=Γ1.F x,
    ⟨_,Nat.zero_le _,rfl,⟨Γ1.Z,Γ1.G,upd Γ1.F D (.lst [])⟩,_,[],Same.refl _,fun a rs h=>⟨[],by rw [List.append_nil];exact h⟩,S1.frameNew hD (.lst []),r1.setF,⟨by simp,by simp⟩,zC,.nil,by simp,rfl,by simp,fun x hx _=>zk hx⟩,?_⟩
  rintro i m σ' H' ⟨hi,rfl,Γ',ρ',rs,z',g',S',r',⟨n1,n2⟩,fD,nd,nD,hl,hrow,hrest⟩
  obtain⟨ok1,ok2⟩:=ok i Γ' O1 H' z' g' S' hk
  by_cases hlt:i < ws.length
  · obtain⟨go,y⟩:=ok1 _ (List.getElem?_eq_getElem hlt)
    refine .inr ⟨go,fun σ' H'=>∃ Γ' ρ',∃ rs:List Addr,Same Γ1.Z Γ'.Z/\(∀ a rs,Γ1.G a=some rs->∃ more,Γ'.G a=some (rs ++ more))/\Sim K Γ' O1 H'/\relR K Γ' ρ' σ'/\
      (ρ'.length=n+(xc js ρ).length/\ρ'.drop n=xc js ρ)/\Γ'.F D=some (.lst (rs.map V.ref))/\rs.Nodup/\D ∉ rs/\rs.length=i+1/\
      (∀ (j:Nat) (q:Addr),rs[j]? =some q->Γ1.F q=none/\∃ vs w,Γ'.F q=some (.lst vs)/\ws[j]? =some w/\Reps K Γ'.Z (F w) vs)/\∀ x,x≠D->x ∉ rs->Γ'.F x=Γ1.F x,fun σ2 H2 h=>⟨ws.length - (i+1),by omega,hlt,rfl,h⟩,fun x H2 hy=>?_⟩
    obtain⟨Γ2,l2,S2,rx⟩:=y x H2 hy
    obtain⟨us,hus,rfl⟩:=ju n1 n2
    refine hg _ _ _ _ _ _ _ S2 (r'.mono l2) rx _ _ (hF _ (List.getElem_mem hlt) us hus) fun Γ3 O3 H3 ρ3 σ3 l3 S3 r3 h3=>?_
    obtain⟨⟨m1,m2⟩,h3⟩:=h3
    refine ht _ _ _ _ _ S3 r3 _ _ h3 fun Γ4 O4 H4 b l4 S4 h4=>?_
    have l24:=(l2.trans l3).trans l4
    cases b with
    |false=>
      rw [if_neg (by decide)] at h4
      obtain⟨_,_,h,_⟩:=h4
      cases h
    |true=>
      rw [if_pos rfl] at h4 ⊢
      refine he _ _ _ _ _ S4 (r3.mono l4) _ _ h4 fun Γ5 O5 H5 w5 v5 l5 S5 r5 h5=>?_
      obtain⟨b,hb0,hw,rfl⟩:=h5
      cases hw
      cases (show v5=.ref b from r5)
      have l25:=l24.trans l5
      have f5:Γ5.F=Γ'.F:=l25.f
      have hOb:updO O1 b (.lst ((F ws[i]).map .d)) b=some (.lst ((F ws[i]).map .d)):=zc
      have Fb:Γ5.F b=none:=by
        cases e:Γ5.F b with
        |none=>rfl
        |some o=>have:=(S5.fd _ _ e).2.1;rw [hOb] at this;cases this
      have bD:b≠D:=fun e=>by rw [e,f5,fD] at Fb;cases Fb
      have brs:b ∉ rs:=fun m=>by
        obtain⟨j,hj,e⟩:=List.mem_iff_getElem.mp m
        obtain⟨_,vs,w,q,_⟩:=hrow j b (by rw [List.getElem?_eq_getElem hj,e])
        rw [f5,q] at Fb;cases Fb
      have F1b:Γ1.F b=none:=by rw [<- hrest b bD brs,<- f5];exact Fb
      obtain⟨vb,hb1,hb2,S6⟩:=S5.frameOwn hOb
      have hdel:del (updO O1 b (.lst ((F ws[i]).map .d))) b=O1:=by
        funext c
        by_cases hc:c=b
        · rw [hc,x6,hb0]
        · rw [vk hc,ze hc]
      rw [hdel] at S6
      have F6D:(⟨Γ5.Z,Γ5.G,upd Γ5.F b (.lst vb)⟩:Gh).F D=some (.lst (rs.map V.ref)):=by
        show upd Γ5.F b _ D=_
        rw [zk (Ne.symm bD),f5];exact fD
      have S7:=S6.framePut F6D (.lst (rs.map V.ref ++ [.ref b]))
      refine⟨rs.map V.ref,S6.f _ _ F6D,ve (by rw [List.length_map];omega),?_⟩
      refine⟨⟨Γ5.Z,Γ5.G,upd (upd Γ5.F b (.lst vb)) D (.lst (rs.map V.ref ++ [.ref b]))⟩,ρ3,rs ++ [b],z'.trans l25.z,fun a ss h=>?_,S7,(((r3.mono l4).mono l5).setF).setF,⟨m1,m2⟩,?_,?_,?_,by simp [hl],fun j q e=>?_,fun x hx hxr=>?_⟩
      · obtain⟨m,e⟩:=g' a ss h
        obtain⟨m2,e2⟩:=l25.g a _ e
        exact⟨m ++ m2,by rw [<- List.append_assoc];exact e2⟩
      · rw [List.map_append];exact zC
      · rw [List.nodup_append]
        exact⟨nd,by simp,fun u hu v hv=>by simp at hv;subst hv;exact fun z=>brs (by rw [<- z];exact hu)⟩
      · simp [nD];exact fun e=>bD e.symm
      · by_cases hj:j < rs.length
        · rw [List.getElem?_append_left hj] at e
          obtain⟨q1,vs,w,q2,q3,q4⟩:=hrow j q e
          have hqb:q≠b:=fun z=>brs (by rw [<- z];exact List.mem_of_getElem? e)
          have hqD:q≠D:=fun z=>nD (by rw [<- z];exact List.mem_of_getElem? e)
          refine⟨q1,vs,w,?_,q3,Reps.same l25.z _ _ q4⟩
          show upd (upd Γ5.F b _) D _ q=_
          rw [zk hqD,zk hqb,f5];exact q2
        · have hj2:j=rs.length:=by
            have:=(List.getElem?_eq_some_iff.mp e).1
            simp at this;omega
          subst hj2
          rw [List.getElem?_append_right (Nat.le_refl _)] at e
          simp at e
          subst e
          refine⟨F1b,vb,ws[i],?_,by rw [hl];exact List.getElem?_eq_getElem hlt,yI (Γ:=Γ5) hb2⟩
          show upd (upd Γ5.F b _) D _ b=_
          rw [zk bD,zC]
      · have hxb:x≠b:=fun z=>hxr (by rw [z];simp)
        show upd (upd Γ5.F b _) D _ x=_
        rw [zk hx,zk hxb,f5]
        exact hrest x hx fun m=>hxr (by simp [m])
  · have hi2:i=ws.length:=by omega
    refine .inl ⟨ok2 hi2,?_⟩
    obtain⟨q1,G',q2,q3⟩:=S'.gridify (F:=Γ1.F) (rows:=ws.map F) hFD fD nd nD (by rw [List.length_map];omega) (fun j q ds e1 e2=>by
      obtain⟨y1,vs,w,y2,y3,y4⟩:=hrow j q e1
      rw [List.getElem?_map,y3] at e2
      cases e2
      exact⟨y1,vs,y2,y4⟩) hrest
    exact k ⟨Γ'.Z,G',Γ1.F⟩ _ _ _ _ (l1.trans ⟨rfl,z',fun a ss h=>by obtain⟨m,e⟩:=g' a ss h;exact⟨m,q2 _ _ e⟩⟩) q3 xP (hR D hOD)
end
section
variable {X:Cx}{K:W.Frag}
theorem zj {e:Expr}{ta:TE}{f:Str}{pos:Pos}(hK:X.K=K) (he:PE X e ta) (hb:attributeBase e f X.env (eval e X.env)=eval e X.env):PE X (.Attribute e f pos) (KN K ta f):=by
 subst hK;exact zd1 he hb
theorem yf {o value:Expr}{ta tv:TE}{f:Str}{pos pos':Pos}(hK:X.K=K) (ha:PE X o ta) (hv:PE X value tv) (hs:swapsWith value (some (.Attribute o f pos')) pos.line X.env=pure false):PS X (.Assign [.Attribute o f pos'] value pos) (KO K ta tv f):=by
 subst hK;exact zd2 ha hv hs
theorem xg (hK:X.K=K):IxR X (KU K):=by subst hK;exact zd6
theorem jw {tg l:Expr}{tl:TE}(hK:X.K=K) (hl:PE X l tl):PI X tg l (Qa K tl):=by subst hK;exact zcc hl
theorem kW {tg l:Expr}{tl:TE}(hK:X.K=K) (hl:PE X l tl):PI X tg l (KH K tl):=by subst hK;exact zdV hl
theorem X4 {es:List Expr}{k:Nat}{tp:Pos}{l:Expr}{ta:TA}{p pos:Pos}(hK:X.K=K) (hg:Gl X "enumerate") (hm:X.mg "enumerate" =none) (ha:PA X [l] ta) (hs:starEach [l] X.env=[(false,eval l X.env)]:=by rfl) :
  PI X (.Tuple es k tp) (.Call (.Name "enumerate" p) [l] [] pos) (Qt K ta):=by subst hK;exact zcv hg hm ha hs
theorem vP {es:List Expr}{k:Nat}{t:TGs}{n:Nat}{pos:Pos}(hK:X.K=K) (hc:X.calm=true) (h:PGs X es t)
  (hn:(assignEach es X.env).length=n:=by rfl) (hst:(assignEach es X.env).findIdx? (·.1)=none:=by rfl):PG X (.Tuple es k pos) (KG K n t):=by subst hK;exact zdR hc h hn hst
section
variable {T:String}{name:Str}{id:String}{r:V->List V->Hp->VK->Prop}{o e:Expr}{es:List Expr}{to:TE}{t:TA}{apos cpos:Pos}
theorem UR (hK:X.K=K) (pa:PlainAttrs T) (slot:Slot T name id) (hty:typeOf (.builtin id)=pure (.type "method_descriptor")) (hm:MtR X id r) (ho:PE X o to)
  (hbase:attributeBase o name X.env (eval o X.env)=eval o X.env:=by rfl) (hline:(apos.endLine == cpos.line)=true:=by rfl):PE X (.Call (.Attribute o name apos) [] [] cpos) (KW K T r to):=by subst hK;exact zd8 pa slot hty hm ho hbase hline
theorem ue (hK:X.K=K) (pa:PlainAttrs T) (slot:Slot T name id) (hty:typeOf (.builtin id)=pure (.type "method_descriptor")) (hm:MtR X id r) (ho:PE X o to) (ha:PA X (e :: es) t)
  (hbase:attributeBase o name X.env (eval o X.env)=eval o X.env:=by rfl)
  (hfew:((backTo cpos (starEach (e :: es) X.env)).all (fun x=>!x.1) && (backToKw cpos (keywordEach [] X.env)).all (fun x=>x.1.isSome) && decide ((e :: es).length+([]:List Keyword).length+(if ([]:List Keyword).isEmpty then 0 else 1) < 30))=true:=by rfl)
  (hline:(apos.endLine == cpos.line)=true:=by rfl) (hs:starEach (e :: es) X.env=(false,eval e X.env) :: starEach es X.env:=by rfl) (hplain:(backTo cpos (starEach es X.env)).any (·.1)=false:=by rfl) :
  PE X (.Call (.Attribute o name apos) (e :: es) [] cpos) (tBM K T r to t):=by subst hK;exact zfs pa slot hty hm ho ha hbase hfew hline hs hplain
end
def zbS (K:W.Frag):List V->Hp->VK->Prop:=fun xs H Q=>∃ p ys,xs=[.ref p]/\(SqL K H p ys\/SqT K H p ys)/\Q (.int ys.length) H
theorem ke (hK:X.K=K):xy X (.builtin "len") (zbS K):=by subst hK;exact XH
theorem zeT:RefC K (zbS K) zam:=zfI
def zbT (K:W.Frag) (ta:TE):TT:=fun σ H Q=>ta σ H fun x H'=>∃ k,XE K x H' k/\Q k H'
theorem YT {a:Expr}{ta:TE}(hK:X.K=K) (ha:PE X a ta) (he:∀ whole,isTrue a X.env whole=(do let v <- whole;standAt a.pos;holding [v] (truthy v))):PT X a (zbT K ta):=by
 subst hK;exact KK ha he
theorem zaF {t:TE}{T:TEW}(h:RefE K t T):x8 K (zbT K t) (zah T):=zcF h
theorem Ka (hK:X.K=K) (hu:X.A.units+64 < cLine):OpR X (compareOp .Eq) (K1 K):=by subst hK;exact zef hu
theorem Kb (hK:X.K=K) (hu:X.A.units+64 < cLine):OpR X (compareOp .NotEq) (K2 K):=by subst hK;exact zeg hu
theorem zcW:x8 K zed (fun _ O R=>R true O):=fun Γ O H ρ σ S r Q R hT k=>k _ _ _ _ (Le.refl _) S hT
end
section
variable {K:W.Frag}
end
section
variable {K:W.Frag}
def wCR (a:Addr):TEW:=fun _ O R=>R (.own a) O
theorem zeU {a:Addr}:RefE K (tC (.ref a)) (wCR a):=fun Γ O H ρ σ S r Q R h k=>k _ _ _ _ _ (Le.refl _) S xP h
def zbU (K:W.Frag) (To:TEW) (T:TAW):TEW:=fun ρ O R=>To ρ O fun x O1=>∃ a D,x=.own a/\DK K a D/\T ρ O1 fun ws O2=>∃ i d,ws=[.d (.int i),.d (.int d)]/\R (.d (.int ((xU D i).getD d))) O2
theorem zaG {to:TE}{t:TA}{To:TEW}{T:TAW}(ho:RefE K to To) (h:xN K t T):RefE K (Qy K to t) (zbU K To T):=by
 intro Γ O H ρ σ S r Q R hT k
 refine ho _ _ _ _ _ S r _ _ hT fun Γ1 O1 H1 x v l1 S1 rx h1=>?_
 obtain⟨a,D,rfl,hd,h1⟩:=h1
 refine⟨a,D,rx,hd,h _ _ _ _ _ S1 (r.mono l1) _ _ h1 fun Γ2 O2 H2 ws vs l2 S2 rs h2=>?_⟩
 obtain⟨i,d,rfl,h2⟩:=h2
 cases rs with
 |cons rx t=>cases t with
  |cons ry t=>
   cases t
   exact⟨i,d,by rw [show _=V.int i from rx,show _=V.int d from ry],k _ _ _ _ _ (l1.trans l2) S2 qX h2⟩
theorem X5 {X:Cx}{o e:Expr}{es:List Expr}{to:TE}{t:TA}{apos cpos:Pos}(hK:X.K=K) (ho:PE X o to) (ha:PA X (e :: es) t)
  (hbase:attributeBase o "get" X.env (eval o X.env)=eval o X.env:=by rfl)
  (hfew:((backTo cpos (starEach (e :: es) X.env)).all (fun x=>!x.1) && (backToKw cpos (keywordEach [] X.env)).all (fun x=>x.1.isSome) && decide ((e :: es).length+([]:List Keyword).length+(if ([]:List Keyword).isEmpty then 0 else 1) < 30))=true:=by rfl)
  (hline:(apos.endLine == cpos.line)=true:=by rfl) (hs:starEach (e :: es) X.env=(false,eval e X.env) :: starEach es X.env:=by rfl) (hplain:(backTo cpos (starEach es X.env)).any (·.1)=false:=by rfl) :
  PE X (.Call (.Attribute o "get" apos) (e :: es) [] cpos) (Qy K to t):=by subst hK;exact zcx ho ha hbase hfew hline hs hplain
theorem Kc {s:SpW}{t:TA}{T:TAW}(h:xN K t T):RefE K (ZM (zb K s) [] E0 t) (Z0 s [] T):=XY h
theorem Kd {s:SpW}{i:Int}{t:TA}{T:TAW}(h:xN K t T):RefE K (ZM (zb K s) [.int i] E0 t) (Z0 s [.int i] T):=XY h
theorem yK {T U:TSW}{D:EndsW}{ρ:WS}{O:OM}(J:WS->OM->Prop) (ht:∀ R:WS->OM->Prop,(∀ ρ' O',J ρ' O'->R ρ' O')->T { D with nx:=R } ρ O) (hu:∀ ρ' O',J ρ' O'->U D ρ' O'):vG T U D ρ O:=ht (U D) hu
theorem xF.by {ws:List W}{keep:OM->Prop}{G:TGW}{TB:TSW}{D:EndsW}{ρ:WS}{O:OM}(Pv:Nat->WS->OM->Prop) (h0:Pv 0 ρ O) (hk:∀ i ρ O,Pv i ρ O->keep O)
  (hs:∀ i w ρ O,ws[i]? =some w->Pv i ρ O->∀ R:WS->OM->Prop,(∀ ρ' O',Pv (i+1) ρ' O'->R ρ' O')->G w ρ O fun ρ' O'=>TB { D with nx:=R,ct:=R,bk:=D.nx } ρ' O') (hd:∀ ρ O,Pv ws.length ρ O->D.nx ρ O):xF ws keep G TB D ρ O:=
 ⟨Pv,h0,hk,fun i w ρ O e p=>hs i w ρ O e p _ fun _ _ z=>z,hd⟩
theorem xF.rng {n:Nat}{f:Nat->Int}{G:TGW}{TB:TSW}{D:EndsW}{ρ:WS}{O:OM}(Pv:Nat->WS->OM->Prop) (h0:Pv 0 ρ O)
    (hs:∀ i ρ O,i < n->Pv i ρ O->∀ R:WS->OM->Prop,(∀ ρ' O',Pv (i+1) ρ' O'->R ρ' O')->G (.d (.int (f i))) ρ O fun ρ' O'=>TB { D with nx:=R,ct:=R,bk:=D.nx } ρ' O') (hd:∀ ρ O,Pv n ρ O->D.nx ρ O):xF ((List.range n).map fun i=>.d (.int (f i))) (fun _=>True) G TB D ρ O:=
  xF.by Pv h0 (fun _ _ _ _=>trivial) (fun i w ρ O e p R hR=>by
    rw [List.getElem?_map] at e
    cases hr:(List.range n)[i]? with
    |none=>rw [hr] at e;cases e
    |some j=>
      rw [hr] at e
      cases e
      obtain⟨hi,hj⟩:=List.getElem?_eq_some_iff.mp hr
      simp at hi hj
      subst hj
      exact hs i ρ O hi p R hR) (fun ρ O p=>hd ρ O (by simpa using p))
end
noncomputable abbrev PF:=Nat->Nat->Cel
noncomputable def genG (h w:Nat) (f:PF):List (List PyData):=(List.range h).map fun i=>(List.range w).map fun j=>celD (f i j)
theorem X6 {h w:Nat}{f:PF}{i:Nat}(hi:i < h):(genG h w f)[i]? =some ((List.range w).map fun j=>celD (f i j)):=by
 unfold genG
 rw [List.getElem?_map,List.getElem?_range hi]
 rfl
theorem uK {h w:Nat}{f:PF}:(genG h w f).length=h:=by simp [genG]
noncomputable def setF (f:PF) (i j:Nat) (c:Cel):PF:=fun a b=>if a=i/\b=j then c else f a b
theorem YU {α:Type}{n i:Nat}{f:Nat->α}{x:α}:((List.range n).map f).set i x=(List.range n).map fun k=>if k=i then x else f k:=by
 apply List.ext_getElem?
 intro k
 rw [List.getElem?_set]
 by_cases hk:k < n
 ·simp [hk]
  by_cases e:i=k
  ·subst e;simp [hk]
  ·simp [e,Ne.symm e]
 ·simp [hk]
  omega
theorem zaH {h w:Nat}{f:PF}{i j:Nat}{c:Cel}(hi:i < h):(genG h w f).set i (((List.range w).map fun j=>celD (f i j)).set j (celD c))=genG h w (setF f i j c):=by
 unfold genG
 rw [YU,YU]
 refine List.map_congr_left fun a ha=>?_
 by_cases e:a=i
 ·subst e
  simp only [if_true,setF,true_and]
  refine List.map_congr_left fun b hb=>?_
  by_cases eb:b=j <;> simp [eb]
 ·simp [e,setF]
theorem x3 {O:OM}{p:Addr}{rows:List (List PyData)}(h:O p=some (.grid rows)):yN O (.own p)=some ((List.range rows.length).map (.row p)):=by simp [yN,h]
theorem X7 {O:OM}{p:Addr}{h w i:Nat}{f:PF}(hp:O p=some (.grid (genG h w f))) (hi:i < h):yN O (.row p i)=some ((List.range w).map fun j=>.d (celD (f i j))):=by
 simp [yN,hp,X6 hi]
theorem xR {α:Type}{n:Nat}{f:Nat->α}{i:Int}(h0:0≤i) (h1:i < n):atI ((List.range n).map f) i=some (f i.toNat):=by
 obtain⟨k,rfl⟩:=Int.eq_ofNat_of_zero_le h0
 refine kN ?_
 rw [List.getElem?_map,List.getElem?_range (by omega)]
 rfl
theorem jx {O:OM}{p:Addr}{h w i:Nat}{f:PF}{k:Int}{c:Cel}(hp:O p=some (.grid (genG h w f))) (hi:i < h) (h0:0≤k) (h1:k < w):uf O (.row p i) k (.d (celD c))=some (updO O p (.grid (genG h w (setF f i k.toNat c)))):=by
 have hx:ixN ((List.range w).map fun j=>celD (f i j)).length k=some k.toNat:=by
  unfold ixN
  rw [if_pos h0,if_pos (by simp;exact h1)]
 simp only [uf,hp,X6 hi,hx,Option.map_some,zaH hi]
theorem xM {X:Cx}:OpR X (binaryOp .Mult) (rI IntMulOk fun i j=>.int (i*j)):=opI fun _ _ _ _ _ _ _ hc q=>mul_int q hc
theorem mulL {a b:Int}(h1:-1000000000000≤a) (h2:a≤1000000000000):IntMulOk a b:=(zco h1 h2).ok
theorem mulR {a b:Int}(h1:-1000000000000≤b) (h2:b≤1000000000000):IntMulOk a b:=(K3 h1 h2).ok
def Bt (m:Nat) (c:Int):Prop:=c.natAbs < 2 ^ m
theorem Bt.bits {m:Nat}{c:Int}(h:Bt m c):Builtin.Int.intBits c≤m:=by
 unfold Builtin.Int.intBits
 by_cases hc:c= 0
 ·simp [hc]
 ·have hn:c.natAbs≠0:=by omega
  simp only [beq_iff_eq,hc,if_false]
  exact (Nat.log2_lt hn).mpr h
theorem Bt.mono {m n:Nat}{a:Int}(ha:Bt m a) (h:m≤n):Bt n a:=Nat.lt_of_lt_of_le ha (Nat.pow_le_pow_right (by decide) h)
theorem Bt.small {a:Int}(h1:-1000000000000≤a) (h2:a≤1000000000000):Bt 40 a:=by
 unfold Bt
 have:(2:Nat) ^ 40 = 1099511627776:=by decide
 omega
structure KP where
 row:Int
 col:Int
 late:Bool
 ink:Int
 wrap:Bool
 putting:Bool
 home:Bool
noncomputable def kpT (k:KP):PyData:=.tuple [.int k.row,.int k.col,.bool k.late,.int k.ink,.bool k.wrap,.bool k.putting,.bool k.home]
noncomputable def stK (ks:List Int):List (Key×W):=ks.map fun i=>(Sum.inl i,W.d (.bool true))
structure ST where
 w:Nat
 h:Nat
 row:Int
 col:Int
 late:Bool
 ink:Int
 wrap:Bool
 putting:Bool
 home:Bool
 top:Int
 bottom:Int
 left:Int
 right:Int
 last:PyData
 pic:PF
 stops:List Int
 kept:List KP
noncomputable def fldW (p st kp:Addr) (S:ST):List (Str×W):=[("picture",.own p),("wide",.d (.int S.w)),("high",.d (.int S.h)),("row",.d (.int S.row)),("column",.d (.int S.col)),("late",.d (.bool S.late)),("ink",.d (.int S.ink)),("wrap",.d (.bool S.wrap)),("putting",.d (.bool S.putting)),("home",.d (.bool S.home)),("top",.d (.int S.top)),("bottom",.d (.int S.bottom)),("left",.d (.int S.left)),("right",.d (.int S.right)),("stops",.own st),("kept",.own kp),("last",.d S.last)]
noncomputable def ownW (q:Addr) (S:ST):List (Key×W):=[(Sum.inr "wide",.d (.int S.w)),(Sum.inr "high",.d (.int S.h)),(Sum.inr "top",.d (.int S.top)),(Sum.inr "left",.d (.int S.left)),(Sum.inr "cells",.own q),(Sum.inr "bottom",.d (.int S.bottom)),(Sum.inr "right",.d (.int S.right)),(Sum.inr "home",.d (.bool S.home)),(Sum.inr "putting",.d (.bool S.putting)),(Sum.inr "wrap",.d (.bool S.wrap)),(Sum.inr "last",.d S.last),(Sum.inr "late",.d (.bool S.late)),(Sum.inr "ink",.d (.int S.ink)),(Sum.inr "row",.d (.int S.row)),(Sum.inr "column",.d (.int S.col))]
section
variable {p st kp q:Addr}{S:ST}
theorem yH:(fldW p st kp S).length= 17:=rfl
theorem zaI:(ownW q S).length= 15:=rfl
theorem zo:(fldW p st kp S).lookup (Str.ofString "picture")=some (W.own p):=rfl
theorem zK:(fldW p st kp S).lookup (Str.ofString "wide")=some (W.d (.int S.w)):=rfl
theorem zL:(fldW p st kp S).lookup (Str.ofString "high")=some (W.d (.int S.h)):=rfl
theorem yc:(fldW p st kp S).lookup (Str.ofString "row")=some (W.d (.int S.row)):=rfl
theorem zu:(fldW p st kp S).lookup (Str.ofString "column")=some (W.d (.int S.col)):=rfl
theorem zM:(fldW p st kp S).lookup (Str.ofString "late")=some (W.d (.bool S.late)):=rfl
theorem yd:(fldW p st kp S).lookup (Str.ofString "ink")=some (W.d (.int S.ink)):=rfl
theorem zN:(fldW p st kp S).lookup (Str.ofString "wrap")=some (W.d (.bool S.wrap)):=rfl
theorem zq:(fldW p st kp S).lookup (Str.ofString "putting")=some (W.d (.bool S.putting)):=rfl
theorem zO:(fldW p st kp S).lookup (Str.ofString "home")=some (W.d (.bool S.home)):=rfl
theorem ye:(fldW p st kp S).lookup (Str.ofString "top")=some (W.d (.int S.top)):=rfl
theorem zv:(fldW p st kp S).lookup (Str.ofString "bottom")=some (W.d (.int S.bottom)):=rfl
theorem zP:(fldW p st kp S).lookup (Str.ofString "left")=some (W.d (.int S.left)):=rfl
theorem zA:(fldW p st kp S).lookup (Str.ofString "right")=some (W.d (.int S.right)):=rfl
theorem zB:(fldW p st kp S).lookup (Str.ofString "stops")=some (W.own st):=rfl
theorem zD:(fldW p st kp S).lookup (Str.ofString "kept")=some (W.own kp):=rfl
theorem zH:(fldW p st kp S).lookup (Str.ofString "last")=some (W.d S.last):=rfl
theorem zX {x:Int}:xf (Str.ofString "row") (.d (.int x)) (fldW p st kp S)=fldW p st kp { S with row:=x }:=rfl
theorem zr {x:Int}:xf (Str.ofString "column") (.d (.int x)) (fldW p st kp S)=fldW p st kp { S with col:=x }:=rfl
theorem zF {x:Bool}:xf (Str.ofString "late") (.d (.bool x)) (fldW p st kp S)=fldW p st kp { S with late:=x }:=rfl
theorem zY {x:Int}:xf (Str.ofString "ink") (.d (.int x)) (fldW p st kp S)=fldW p st kp { S with ink:=x }:=rfl
theorem zG {x:Bool}:xf (Str.ofString "wrap") (.d (.bool x)) (fldW p st kp S)=fldW p st kp { S with wrap:=x }:=rfl
theorem zm {x:Bool}:xf (Str.ofString "putting") (.d (.bool x)) (fldW p st kp S)=fldW p st kp { S with putting:=x }:=rfl
theorem zI {x:Bool}:xf (Str.ofString "home") (.d (.bool x)) (fldW p st kp S)=fldW p st kp { S with home:=x }:=rfl
theorem z9 {x:Int}:xf (Str.ofString "top") (.d (.int x)) (fldW p st kp S)=fldW p st kp { S with top:=x }:=rfl
theorem zt {x:Int}:xf (Str.ofString "bottom") (.d (.int x)) (fldW p st kp S)=fldW p st kp { S with bottom:=x }:=rfl
theorem zJ {x:Int}:xf (Str.ofString "left") (.d (.int x)) (fldW p st kp S)=fldW p st kp { S with left:=x }:=rfl
theorem zz {x:Int}:xf (Str.ofString "right") (.d (.int x)) (fldW p st kp S)=fldW p st kp { S with right:=x }:=rfl
theorem zQ {x:PyData}:xf (Str.ofString "last") (.d x) (fldW p st kp S)=fldW p st kp { S with last:=x }:=rfl
end
structure StAt (O:OM) (C x dx p st kp:Addr) (S:ST):Prop where
 x:O x=some (.ins C dx (fldW p st kp S))
 p:O p=some (.grid (genG S.h S.w S.pic))
 st:O st=some (.dK (stK S.stops))
 kp:O kp=some (.lst ((S.kept.map kpT).map .d))
theorem neW {O:OM}{a b:Addr}{o u:OO}(h:O a=some o) (h':O b=some u) (d:o≠u):a≠b:=by
 intro e;subst e;rw [h] at h';exact d (Option.some.inj h')
section
variable {O O':OM}{C x dx p st kp:Addr}{S:ST}
theorem StAt.xp (s:StAt O C x dx p st kp S):x≠p:=neW s.x s.p (by intro h;cases h)
theorem StAt.xs (s:StAt O C x dx p st kp S):x≠st:=neW s.x s.st (by intro h;cases h)
theorem StAt.xk (s:StAt O C x dx p st kp S):x≠kp:=neW s.x s.kp (by intro h;cases h)
theorem StAt.ps (s:StAt O C x dx p st kp S):p≠st:=neW s.p s.st (by intro h;cases h)
theorem StAt.pk (s:StAt O C x dx p st kp S):p≠kp:=neW s.p s.kp (by intro h;cases h)
def But (O O':OM) (x p:Addr):Prop:=∀ b,b≠x->b≠p->O' b=O b
theorem But.refl:But O O x p:=fun _ _ _=>rfl
theorem But.trans {O1 O2:OM}(a:But O O1 x p) (b:But O1 O2 x p):But O O2 x p:=fun c h1 h2=>(b c h1 h2).trans (a c h1 h2)
theorem But.ux {o:OO}:But O (updO O x o) x p:=fun _ h _=>ze h
theorem But.up {o:OO}:But O (updO O p o) x p:=fun _ _ h=>ze h
theorem StAt.fld (s:StAt O C x dx p st kp S) {S':ST}(hw:S'.w=S.w) (hh:S'.h=S.h) (hp:S'.pic=S.pic) (hst:S'.stops=S.stops:=by rfl) (hk:S'.kept=S.kept:=by rfl):StAt (updO O x (.ins C dx (fldW p st kp S'))) C x dx p st kp S':=
 ⟨zc,by rw [ze (Ne.symm s.xp),hw,hh,hp];exact s.p,by rw [ze (Ne.symm s.xs),hst];exact s.st,by rw [ze (Ne.symm s.xk),hk];exact s.kp⟩
theorem StAt.pic (s:StAt O C x dx p st kp S) {f:PF}:StAt (updO O p (.grid (genG S.h S.w f))) C x dx p st kp { S with pic:=f }:=
 ⟨by rw [ze s.xp];exact s.x,zc,by rw [ze (Ne.symm s.ps)];exact s.st,by rw [ze (Ne.symm s.pk)];exact s.kp⟩
theorem StAt.of (s:StAt O C x dx p st kp S) {S':ST}(hx:O' x=some (.ins C dx (fldW p st kp S'))) (hp:O' p=some (.grid (genG S'.h S'.w S'.pic))) (hw:S'.w=S.w) (b:But O O' x p) (hst:S'.stops=S.stops:=by rfl) (hk:S'.kept=S.kept:=by rfl):StAt O' C x dx p st kp S':=
 ⟨hx,hp,by rw [b _ (Ne.symm s.xs) (Ne.symm s.ps),hst];exact s.st,by rw [b _ (Ne.symm s.xk) (Ne.symm s.pk),hk];exact s.kp⟩
theorem StAt.keep (s:StAt O C x dx p st kp S) {y z:Addr}(b:But O O' y z) (h1:x≠y) (h2:x≠z) (h3:p≠y) (h4:p≠z) (h5:st≠y) (h6:st≠z) (h7:kp≠y) (h8:kp≠z):StAt O' C x dx p st kp S:=
 ⟨by rw [b _ h1 h2];exact s.x,by rw [b _ h3 h4];exact s.p,by rw [b _ h5 h6];exact s.st,by rw [b _ h7 h8];exact s.kp⟩
end
structure Bds (S:ST):Prop where
 w1:1≤S.w
 w2:S.w≤24
 h1:1≤S.h
 h2:S.h≤12
 r0:0≤S.row
 r1:S.row < S.h
 c0:0≤S.col
 c1:S.col < S.w
 t0:0≤S.top
 tb:S.top≤S.bottom
 b1:S.bottom < S.h
 l0:0≤S.left
 lr:S.left≤S.right
 rr:S.right < S.w
 i0:0≤S.ink
 i1:S.ink < 512
theorem zi {p q:Prop} [Decidable p] [Decidable q] {a b:Prop}:(if p then (if q then a else b) else b)=(if p/\q then a else b):=by
 by_cases hp:p <;> by_cases hq:q <;> simp [hp,hq]
noncomputable def NumD:PyData->Prop
 |.none=>True
 |.int i=>0≤i/\i≤1000000
 |_=>False
theorem NumD.cs {n:PyData}(h:NumD n):n=.none\/∃ i,n=.int i/\0≤i/\i≤1000000:=by
 cases n <;> first |exact .inl rfl |exact h.elim |exact .inr ⟨_,rfl,h.1,h.2⟩
noncomputable def oneD:PyData->Int
 |.int i=>if i > 1 then i else 1
 |_=>1
theorem uz {n:PyData}:1≤oneD n:=by cases n <;> simp [oneD];split <;> omega
theorem US {n:PyData}(h:NumD n):oneD n≤1000000:=by
 rcases h.cs with rfl | ⟨i,rfl,h0,h1⟩
 ·decide
 ·simp only [oneD];split <;> omega
def Zt:SpW:=fun ws O R=>∃ n,ws=[.d n]/\NumD n/\R (.d (.int (oneD n))) O
def sI1 (P:Int->Prop) (f:Int->Int):SpW:=fun ws O R=>∃ a,ws=[.d (.int a)]/\P a/\R (.d (.int (f a))) O
def sI2 (P:Int->Int->Prop) (f:Int->Int->Int):SpW:=fun ws O R=>∃ a b,ws=[.d (.int a),.d (.int b)]/\P a b/\R (.d (.int (f a b))) O
def sI3 (P:Int->Int->Int->Prop) (f:Int->Int->Int->Int):SpW:=fun ws O R=>∃ a b c,ws=[.d (.int a),.d (.int b),.d (.int c)]/\P a b c/\R (.d (.int (f a b c))) O
noncomputable def qE (n:PyData) (a b:Int):Int:=if b < a+oneD n - 1 then b else a+oneD n - 1
def jy:SpW:=fun ws O R=>∃ n a b,ws=[.d n,.d (.int a),.d (.int b)]/\NumD n/\R (.d (.int (qE n a b))) O
def kX:SpW:=fun ws O R=>∃ ns:List Int,∃ k:Nat,ws=[.d (.list (ns.map .int)),.d (.int k)]/\R (.d (.int (ns.getD k 0))) O
noncomputable def vj:PyData->Int
 |.int i=>if i= 0 then 1 else i
 |_=>1
theorem jz {n:PyData}(h:NumD n):vj n=oneD n:=by
 rcases h.cs with rfl | ⟨i,rfl,h0,h1⟩
 ·rfl
 ·simp only [vj,oneD];split <;> split <;> omega
def ja:SpW:=fun ws O R=>∃ n,ws=[.d n]/\NumD n/\R (.d (.int (vj n))) O
def Z5:SpW:=fun ws O R=>∃ n lo hi,ws=[.d (.int n),.d (.int lo),.d (.int hi)]/\R (.d (.bool (decide (lo≤n/\n≤hi)))) O
def QI:SpW:=fun ws O R=>∃ a b:Nat,ws=[.d (.int a),.d (.int b)]/\1≤a/\a≤24/\1≤b/\b≤12/\R (.d (.bool true)) O
noncomputable def xi (m:PyData) (size:Int):Int:=match m with
 |.int i=>if i= 0 then size else if size < i then size else i
 |_=>size
noncomputable def Xq (n m:PyData) (size:Int):PyData:=if xi m size < oneD n then .none else .tuple [.int (oneD n - 1),.int (xi m size - 1)]
def Z6:SpW:=fun ws O R=>∃ n m s,ws=[.d n,.d m,.d (.int s)]/\NumD n/\NumD m/\R (.d (Xq n m s)) O
noncomputable def dyeI (ink:Int) (n:PyData):Int:=match n with
 |.int i=>if i= 0 then 0
  else if 1≤i/\i≤3 then Builtin.bitOr ink ((xU [(0,64),(1,128),(2,256)] (i - 1)).getD 0)
  else if 4≤i/\i≤6 then Builtin.bitAnd ink (Builtin.bitNot ((xU [(0,64),(1,128),(2,256)] (i - 4)).getD 0))
  else if i= 7 then Builtin.bitXor ink 448
  else if 10≤i/\i≤17 then (i - 10)+8*Builtin.bitAnd (ink / 8) 7+64*Builtin.bitAnd (ink / 64) 7
  else if 20≤i/\i≤27 then Builtin.bitAnd ink 7+8*(i - 20)+64*Builtin.bitAnd (ink / 64) 7
  else ink
 |_=>0
def Ink (i:Int):Prop:=0≤i/\i < 512
def jb:SpW:=sI3 (fun a b c=>-1000≤b/\b≤1000/\-1000≤c/\c≤1000) (fun a b c=>a+8*b+64*c)
def Xr:SpW:=fun ws O R=>∃ ink n,ws=[.d (.int ink),.d n]/\Ink ink/\NumD n/\R (.d (.int (dyeI ink n))) O
noncomputable def eT (S:ST):Int:=if S.top≤S.row then S.top else 0
noncomputable def eB (S:ST):Int:=if S.row≤S.bottom then S.bottom else S.h - 1
noncomputable def eL (S:ST):Int:=if S.left≤S.col then S.left else 0
noncomputable def eR (S:ST):Int:=if S.col≤S.right then S.right else S.w - 1
noncomputable def plS (r c:PyData) (S:ST):ST:=if S.home=true then { S with row:=qE r S.top S.bottom,col:=qE c S.left S.right,late:=false } else { S with row:=qE r 0 (S.h - 1),col:=qE c 0 (S.w - 1),late:=false }
noncomputable def rowsS (a b:PyData) (S:ST):ST:=if xi b S.h < oneD a then S else plS .none .none { S with top:=oneD a - 1,bottom:=xi b S.h - 1 }
noncomputable def colsS (a b:PyData) (S:ST):ST:=if xi b S.w < oneD a then S else plS .none .none { S with left:=oneD a - 1,right:=xi b S.w - 1 }
noncomputable def modeS (k:Int) (on:Bool) (S:ST):ST:=if k= 1 then { S with wrap:=on } else if k= 2 then { S with putting:=on } else if k= 3 then plS .none .none { S with home:=on } else S
noncomputable def blank (i:Int):Cel:=(Str.ofString " ",i)
noncomputable def atF (f:PF) (i j:Int):Cel:=f i.toNat j.toNat
noncomputable def mvP (f:PF) (ink t b l r dn ac:Int):PF:=fun i j=>
 if t≤(i:Int)/\(i:Int)≤b/\l≤(j:Int)/\(j:Int)≤r then (if t≤i+dn/\i+dn≤b/\l≤j+ac/\j+ac≤r then atF f (i+dn) (j+ac) else blank ink) else f i j
noncomputable def mvS (t b l r dn ac:Int) (S:ST):ST:={ S with pic:=mvP S.pic S.ink t b l r dn ac }
inductive sSt (C:Addr) (args:List W) (pre:ST->Prop) (f:ST->ST) (ws:List W) (O:OM) (R:WK):Prop
 |mk:∀ x dx p st kp S,ws=.own x :: args->StAt O C x dx p st kp S->pre S->(∀ O',StAt O' C x dx p st kp (f S)->But O O' x p->R (.d .none) O')->sSt C args pre f ws O R
inductive sEdges (C:Addr) (ws:List W) (O:OM) (R:WK):Prop
 |mk:∀ x dx p st kp S,ws=[.own x]->StAt O C x dx p st kp S->R (.d (.tuple [.int (eT S),.int (eB S),.int (eL S),.int (eR S)])) O->sEdges C ws O R
inductive sBlankOf (C:Addr) (ws:List W) (O:OM) (R:WK):Prop
 |mk:∀ x dx p st kp S,ws=[.own x]->StAt O C x dx p st kp S->R (.d (celD (blank S.ink))) O->sBlankOf C ws O R
def sPlace (C:Addr):SpW:=fun ws O R=>∃ r c,NumD r/\NumD c/\sSt C [.d r,.d c] (fun _=>True) (plS r c) ws O R
def sHome (C:Addr):SpW:=sSt C [] (fun _=>True) (plS .none .none)
def sRows (C:Addr):SpW:=fun ws O R=>∃ a b,NumD a/\NumD b/\sSt C [.d a,.d b] (fun _=>True) (rowsS a b) ws O R
def sCols (C:Addr):SpW:=fun ws O R=>∃ a b,NumD a/\NumD b/\sSt C [.d a,.d b] (fun _=>True) (colsS a b) ws O R
noncomputable def dyeS (ns:List PyData) (S:ST):ST:={ S with ink:=ns.foldl dyeI S.ink }
def sDye (C:Addr):SpW:=fun ws O R=>∃ ns:List PyData,(∀ n∈ns,NumD n)/\sSt C [.d (.tuple ns)] (fun S=>Ink S.ink) (dyeS ns) ws O R
def sModes (C:Addr):SpW:=fun ws O R=>∃ k on,sSt C [.d (.tuple [.int k]),.d (.bool on)] (fun _=>True) (modeS k on) ws O R
noncomputable def rollS (a s:Int) (S:ST):ST:=mvS a S.bottom S.left S.right s 0 S
def PreR (a:Int) (S:ST):Prop:=Bds S/\0≤a/\a≤S.bottom
def sRoll (C:Addr):SpW:=fun ws O R=>∃ a s,-2000000≤s/\s≤2000000/\sSt C [.d (.int a),.d (.int s)] (PreR a) (rollS a s) ws O R
noncomputable def cellsS (s:Int) (S:ST):ST:={ mvS S.row S.row S.col (eR S) 0 s S with late:=false }
def sMvC (C:Addr):SpW:=fun ws O R=>∃ s,-2000000≤s/\s≤2000000/\sSt C [.d (.int s)] Bds (cellsS s) ws O R
def sPutC (C:Addr):SpW:=fun ws O R=>∃ n,NumD n/\sSt C [.d n] Bds (cellsS (-(oneD n))) ws O R
noncomputable def leftS (S:ST):ST:={ S with col:=eL S,late:=false }
def sLeft (C:Addr):SpW:=sSt C [] (fun _=>True) leftS
noncomputable def lineE (S:ST):ST:=let S1:=leftS S;if S1.row=S1.bottom then rollS S1.top 1 S1 else if S1.row < S1.h - 1 then { S1 with row:=S1.row+1 } else S1
def sLineE (C:Addr):SpW:=sSt C [] Bds lineE
noncomputable def putS0 (c:Str) (S:ST):ST:=
 let S1:ST:=if S.late=true/\S.wrap=true then lineE S else S
 let S2:ST:={ S1 with late:=false }
 let S3:ST:=if S2.putting=true then cellsS (-1) S2 else S2
 let S4:ST:={ S3 with pic:=setF S3.pic S3.row.toNat S3.col.toNat (c,S3.ink),last:=.str c }
 if S4.col < eR S4 then { S4 with col:=S4.col+1 } else { S4 with late:=S4.wrap }
def sPutSign (C:Addr):SpW:=fun ws O R=>∃ c,sSt C [.d (.str c)] Bds (putS0 c) ws O R
inductive sBlankRow (ws:List W) (O:OM) (R:WK):Prop
 |mk:∀ (a:Nat) (i:Int),ws=[.d (.int a),.d (.int i)]->a≤24->(∀ p,O p=none->R (.own p) (updO O p (.lst (((List.range a).map fun _=>celD (blank i)).map .d))))->sBlankRow ws O R
inductive sBlankPic (ws:List W) (O:OM) (R:WK):Prop
 |mk:∀ (a b:Nat) (i:Int),ws=[.d (.int a),.d (.int b),.d (.int i)]->1≤a->a≤24->1≤b->b≤12->(∀ p,O p=none->R (.own p) (updO O p (.grid (genG b a fun _ _=>blank i))))->sBlankPic ws O R
inductive sCopied (ws:List W) (O:OM) (R:WK):Prop
 |mk:∀ p h w f,ws=[.own p]->O p=some (.grid (genG h w f))->h≤12->R (.d (.list ((genG h w f).map .list))) O->sCopied ws O R
noncomputable def stopsI (w:Nat):List Int:=(List.range ((w - 1) / 4)).map fun i=>(4+(i:Nat)*4:Int)
noncomputable def stopsW (w:Nat):List (Key×W):=stK (stopsI w)
inductive sStops (ws:List W) (O:OM) (R:WK):Prop
 |mk:∀ a:Nat,ws=[.d (.int a)]->1≤a->a≤24->(∀ p,O p=none->R (.own p) (updO O p (.dK (stopsW a))))->sStops ws O R
noncomputable def st0 (w h:Nat) (f:PF):ST:=⟨w,h,0,0,false,0,true,false,false,0,h - 1,0,w - 1,.none,f,stopsI w,[]⟩
def sBegin (C:Addr):SpW:=fun ws O R=>∃ x dx p,∃ w h:Nat,ws=[.own x]/\O x=some (.ins C dx [("picture",.own p),("wide",.d (.int w)),("high",.d (.int h))])/\1≤w/\w≤24/\
 ∀ st kp O',O st=none->O kp=none->O' x=some (.ins C dx (fldW p st kp (st0 w h fun _ _=>blank 0)))->O' st=some (.dK (stopsW w))->O' kp=some (.lst [])->(∀ b,b≠x->b≠st->b≠kp->O' b=O b)->R (.d .none) O'
inductive sInit (C:Addr) (ws:List W) (O:OM) (R:WK):Prop
 |mk:∀ x dx,∀ w h:Nat,ws=[.own x,.d (.int w),.d (.int h)]->O x=some (.ins C dx [])->1≤w->w≤24->1≤h->h≤12->(∀ p st kp O',O p=none->O st=none->O kp=none->StAt O' C x dx p st kp (st0 w h fun _ _=>blank 0)->(∀ b,b≠x->b≠p->b≠st->b≠kp->O' b=O b)->R (.d .none) O')->sInit C ws O R
theorem zaJ {i:Int}(h:Ink i):0≤Builtin.bitAnd (i / 8) 7/\Builtin.bitAnd (i / 8) 7≤7:=by
 obtain⟨n,rfl⟩:∃ n:_root_.Fin 512,i=((n.val:Nat):Int):=⟨⟨i.toNat,by have:=h.1;have:=h.2;omega⟩,by have:=h.1;simp only;omega⟩
 clear h
 revert n
 decide +kernel
theorem YV {i:Int}(h:Ink i):0≤Builtin.bitAnd (i / 64) 7/\Builtin.bitAnd (i / 64) 7≤7:=by
 obtain⟨n,rfl⟩:∃ n:_root_.Fin 512,i=((n.val:Nat):Int):=⟨⟨i.toNat,by have:=h.1;have:=h.2;omega⟩,by have:=h.1;simp only;omega⟩
 clear h
 revert n
 decide +kernel
theorem Zu {i:Int}{n:PyData}(h:Ink i):Ink (dyeI i n):=by
 cases n with
 |int k=>
  obtain⟨m,rfl⟩:∃ m:_root_.Fin 512,i=((m.val:Nat):Int):=⟨⟨i.toNat,by have:=h.1;have:=h.2;omega⟩,by have:=h.1;simp only;omega⟩
  by_cases hk:0≤k/\k≤27
  ·obtain⟨q,rfl⟩:∃ q:_root_.Fin 28,k=((q.val:Nat):Int):=⟨⟨k.toNat,by omega⟩,by simp only;omega⟩
   clear h hk
   unfold Ink
   revert m q
   decide +kernel
  ·simp only [dyeI]
   rw [if_neg (by omega),if_neg (by omega),if_neg (by omega),if_neg (by omega),if_neg (by omega),if_neg (by omega)]
   exact h
 |_=>exact⟨Int.le_refl 0,(by decide:(0:Int) < 512)⟩
theorem zaK {h w:Nat}{f:PF}{k:Int}(h0:0≤k) (h1:k < h):atI (((genG h w f).map PyData.list).map W.d) k=some (.d (.list ((List.range w).map fun j=>celD (f k.toNat j)))):=by
 unfold genG
 rw [List.map_map,List.map_map]
 exact xR h0 h1
theorem X8 {w:Nat}{g:Nat->Cel}{k:Int}(h0:0≤k) (h1:k < w):atI (((List.range w).map fun j=>celD (g j)).map W.d) k=some (.d (celD (g k.toNat))):=by
 rw [List.map_map]
 exact xR h0 h1
noncomputable def goP (N f:PF) (t l:Int) (i j:Nat):PF:=fun a b=>if (a:Int) < t+i\/((a:Int)=t+i/\(b:Int) < l+j) then N a b else f a b
theorem X9 {N f:PF}{t l:Int}(hN:∀ a b:Nat,(a:Int) < t\/((a:Int)=t/\(b:Int) < l)->N a b=f a b):goP N f t l 0 0 =f:=by
 funext a b
 unfold goP
 split
 ·rename_i e;exact hN a b (by omega)
 ·rfl
theorem Va {N f:PF}{t l:Int}{i j:Nat}{r c:Nat}(hr:(r:Int)=t+i) (hc:(c:Int)=l+j):setF (goP N f t l i j) r c (N r c)=goP N f t l i (j+1):=by
 funext a b
 unfold setF goP
 by_cases e:a=r/\b=c
 ·obtain⟨rfl,rfl⟩:=e
  rw [if_pos ⟨rfl,rfl⟩,if_pos (by omega)]
 ·rw [if_neg e]
  by_cases e2:(a:Int) < t+i\/((a:Int)=t+i/\(b:Int) < l+j)
  ·rw [if_pos e2,if_pos (by omega)]
  ·rw [if_neg e2,if_neg (by omega)]
theorem UT {N f:PF}{t l:Int}{i n:Nat}(hN:∀ a b:Nat,(a:Int)=t+i->l+n≤b->N a b=f a b) (hM:∀ a b:Nat,(a:Int)=t+i+1->(b:Int) < l->N a b=f a b):goP N f t l i n=goP N f t l (i+1) 0:=by
 funext a b
 unfold goP
 by_cases e2:(a:Int) < t+i\/((a:Int)=t+i/\(b:Int) < l+n)
 ·rw [if_pos e2,if_pos (by omega)]
 ·rw [if_neg e2]
  split
  ·rename_i e3
   by_cases e4:(a:Int)=t+i
   ·exact (hN a b e4 (by omega)).symm
   ·exact (hM a b (by omega) (by omega)).symm
  ·rfl
theorem UU {N f:PF}{t l:Int}{n:Nat}(hN:∀ a b:Nat,t+n≤a->N a b=f a b):goP N f t l n 0 =N:=by
 funext a b
 unfold goP
 split
 ·rfl
 ·rename_i e
  by_cases e4:t+n≤a
  ·exact (hN a b e4).symm
  ·exact absurd (.inl (by omega)) e
theorem vC {f:PF}{ink t b l r dn ac:Int}{i j:Nat}(h:¬ (t≤(i:Int)/\(i:Int)≤b/\l≤(j:Int)/\(j:Int)≤r)):mvP f ink t b l r dn ac i j=f i j:=if_neg h
theorem Ke {O:OM}{ds:List PyData}:yN O (.d (.list ds))=some (ds.map .d):=rfl
theorem QJ {T1 T2 T3 U:TSW}{D:EndsW}{ρ:WS}{O:OM}(J:WS->OM->Prop) (ht:∀ R:WS->OM->Prop,(∀ ρ' O',J ρ' O'->R ρ' O')->vG T1 (vG T2 T3) { D with nx:=R } ρ O) (hu:∀ ρ' O',J ρ' O'->U D ρ' O'):vG T1 (vG T2 (vG T3 U)) D ρ O:=ht (U D) hu
theorem zeV {α:Type}{a b c d:α}:atI [a,b,c,d] (3:Int)=some d:=rfl
theorem jA {S:ST}(h:Bds S):0≤eL S/\eL S < S.w:=by
 have:=h.l0;have:=h.lr;have:=h.rr;have:=h.w1
 unfold eL;split <;> omega
theorem qv {S:ST}(h:Bds S):S.col≤eR S/\eR S < S.w:=by
 have:=h.l0;have:=h.lr;have:=h.rr;have:=h.c1
 unfold eR;split <;> omega
theorem Bds.left {S:ST}(h:Bds S):Bds (leftS S):={ h with c0:=(jA h).1,c1:=(jA h).2 }
theorem Bds.pic' {S:ST}{f:PF}(h:Bds S):Bds { S with pic:=f }:={ h with }
theorem Bds.late' {S:ST}{b:Bool}(h:Bds S):Bds { S with late:=b }:={ h with }
theorem Bds.roll {S:ST}{a s:Int}(h:Bds S):Bds (rollS a s S):={ h with }
theorem Bds.cells {S:ST}{s:Int}(h:Bds S):Bds (cellsS s S):={ h with }
theorem Bds.lineE {S:ST}(h:Bds S):Bds (lineE S):=by
 have h1:=h.left
 unfold L2.lineE
 dsimp only
 split
 ·exact h1.roll
 ·split
  ·rename_i e1 e2
   exact { h1 with r0:=by have:=h1.r0;simp only at *;omega,r1:=by simp only at *;omega }
  ·exact h1
noncomputable def pA (S:ST):ST:=if S.late=true/\S.wrap=true then lineE S else S
noncomputable def pB (S:ST):ST:={ S with late:=false }
noncomputable def pC (S:ST):ST:=if S.putting=true then cellsS (-1) S else S
noncomputable def pD (c:Str) (S:ST):ST:={ S with pic:=setF S.pic S.row.toNat S.col.toNat (c,S.ink) }
noncomputable def pE (c:Str) (S:ST):ST:={ S with last:=.str c }
noncomputable def pF (S:ST):ST:=if S.col < eR S then { S with col:=S.col+1 } else { S with late:=S.wrap }
theorem zaL (c:Str) (S:ST):putS0 c S=pF (pE c (pD c (pC (pB (pA S))))):=rfl
theorem Bds.pA {S:ST}(h:Bds S):Bds (pA S):=by unfold L2.pA;split;exact h.lineE;exact h
theorem Bds.pB {S:ST}(h:Bds S):Bds (pB S):=h.late'
theorem Bds.pC {S:ST}(h:Bds S):Bds (pC S):=by unfold L2.pC;split;exact h.cells;exact h
theorem Bds.pD {c:Str}{S:ST}(h:Bds S):Bds (pD c S):=h.pic'
theorem Bds.pE {c:Str}{S:ST}(h:Bds S):Bds (pE c S):={ h with }
theorem Bds.pF {S:ST}(h:Bds S):Bds (pF S):=by
 unfold L2.pF
 split
 ·rename_i e
  have:=qv h
  exact { h with c0:=by have:=h.c0;simp only;omega,c1:=by simp only;omega }
 ·exact h.late'
end L2
namespace L2
open PySem
theorem zgw {a0 a1 a2 v:W}:xf (Str.ofString "row") v [(Str.ofString "picture",a0),(Str.ofString "wide",a1),(Str.ofString "high",a2)]=[(Str.ofString "picture",a0),(Str.ofString "wide",a1),(Str.ofString "high",a2)] ++ [(Str.ofString "row",v)]:=rfl
theorem zgx {a0 a1 a2 a3 v:W}:xf (Str.ofString "column") v [(Str.ofString "picture",a0),(Str.ofString "wide",a1),(Str.ofString "high",a2),(Str.ofString "row",a3)]=[(Str.ofString "picture",a0),(Str.ofString "wide",a1),(Str.ofString "high",a2),(Str.ofString "row",a3)] ++ [(Str.ofString "column",v)]:=rfl
theorem zgy {a0 a1 a2 a3 a4 v:W}:xf (Str.ofString "late") v [(Str.ofString "picture",a0),(Str.ofString "wide",a1),(Str.ofString "high",a2),(Str.ofString "row",a3),(Str.ofString "column",a4)]=[(Str.ofString "picture",a0),(Str.ofString "wide",a1),(Str.ofString "high",a2),(Str.ofString "row",a3),(Str.ofString "column",a4)] ++ [(Str.ofString "late",v)]:=rfl
theorem zgz {a0 a1 a2 a3 a4 a5 v:W}:xf (Str.ofString "ink") v [(Str.ofString "picture",a0),(Str.ofString "wide",a1),(Str.ofString "high",a2),(Str.ofString "row",a3),(Str.ofString "column",a4),(Str.ofString "late",a5)]=[(Str.ofString "picture",a0),(Str.ofString "wide",a1),(Str.ofString "high",a2),(Str.ofString "row",a3),(Str.ofString "column",a4),(Str.ofString "late",a5)] ++ [(Str.ofString "ink",v)]:=rfl
theorem zgA {a0 a1 a2 a3 a4 a5 a6 v:W}:xf (Str.ofString "wrap") v [(Str.ofString "picture",a0),(Str.ofString "wide",a1),(Str.ofString "high",a2),(Str.ofString "row",a3),(Str.ofString "column",a4),(Str.ofString "late",a5),(Str.ofString "ink",a6)]=[(Str.ofString "picture",a0),(Str.ofString "wide",a1),(Str.ofString "high",a2),(Str.ofString "row",a3),(Str.ofString "column",a4),(Str.ofString "late",a5),(Str.ofString "ink",a6)] ++ [(Str.ofString "wrap",v)]:=rfl
theorem zgB {a0 a1 a2 a3 a4 a5 a6 a7 v:W}:xf (Str.ofString "putting") v [(Str.ofString "picture",a0),(Str.ofString "wide",a1),(Str.ofString "high",a2),(Str.ofString "row",a3),(Str.ofString "column",a4),(Str.ofString "late",a5),(Str.ofString "ink",a6),(Str.ofString "wrap",a7)]=[(Str.ofString "picture",a0),(Str.ofString "wide",a1),(Str.ofString "high",a2),(Str.ofString "row",a3),(Str.ofString "column",a4),(Str.ofString "late",a5),(Str.ofString "ink",a6),(Str.ofString "wrap",a7)] ++ [(Str.ofString "putting",v)]:=rfl
theorem zgC {a0 a1 a2 a3 a4 a5 a6 a7 a8 v:W}:xf (Str.ofString "home") v [(Str.ofString "picture",a0),(Str.ofString "wide",a1),(Str.ofString "high",a2),(Str.ofString "row",a3),(Str.ofString "column",a4),(Str.ofString "late",a5),(Str.ofString "ink",a6),(Str.ofString "wrap",a7),(Str.ofString "putting",a8)]=[(Str.ofString "picture",a0),(Str.ofString "wide",a1),(Str.ofString "high",a2),(Str.ofString "row",a3),(Str.ofString "column",a4),(Str.ofString "late",a5),(Str.ofString "ink",a6),(Str.ofString "wrap",a7),(Str.ofString "putting",a8)] ++ [(Str.ofString "home",v)]:=rfl
theorem zfL {a0 a1 a2 a3 a4 a5 a6 a7 a8 a9 v:W}:xf (Str.ofString "top") v [(Str.ofString "picture",a0),(Str.ofString "wide",a1),(Str.ofString "high",a2),(Str.ofString "row",a3),(Str.ofString "column",a4),(Str.ofString "late",a5),(Str.ofString "ink",a6),(Str.ofString "wrap",a7),(Str.ofString "putting",a8),(Str.ofString "home",a9)]=[(Str.ofString "picture",a0),(Str.ofString "wide",a1),(Str.ofString "high",a2),(Str.ofString "row",a3),(Str.ofString "column",a4),(Str.ofString "late",a5),(Str.ofString "ink",a6),(Str.ofString "wrap",a7),(Str.ofString "putting",a8),(Str.ofString "home",a9)] ++ [(Str.ofString "top",v)]:=rfl
theorem zfM {a0 a1 a2 a3 a4 a5 a6 a7 a8 a9 a10 v:W}:xf (Str.ofString "bottom") v [(Str.ofString "picture",a0),(Str.ofString "wide",a1),(Str.ofString "high",a2),(Str.ofString "row",a3),(Str.ofString "column",a4),(Str.ofString "late",a5),(Str.ofString "ink",a6),(Str.ofString "wrap",a7),(Str.ofString "putting",a8),(Str.ofString "home",a9),(Str.ofString "top",a10)]=[(Str.ofString "picture",a0),(Str.ofString "wide",a1),(Str.ofString "high",a2),(Str.ofString "row",a3),(Str.ofString "column",a4),(Str.ofString "late",a5),(Str.ofString "ink",a6),(Str.ofString "wrap",a7),(Str.ofString "putting",a8),(Str.ofString "home",a9),(Str.ofString "top",a10)] ++ [(Str.ofString "bottom",v)]:=rfl
theorem zfN {a0 a1 a2 a3 a4 a5 a6 a7 a8 a9 a10 a11 v:W}:xf (Str.ofString "left") v [(Str.ofString "picture",a0),(Str.ofString "wide",a1),(Str.ofString "high",a2),(Str.ofString "row",a3),(Str.ofString "column",a4),(Str.ofString "late",a5),(Str.ofString "ink",a6),(Str.ofString "wrap",a7),(Str.ofString "putting",a8),(Str.ofString "home",a9),(Str.ofString "top",a10),(Str.ofString "bottom",a11)]=[(Str.ofString "picture",a0),(Str.ofString "wide",a1),(Str.ofString "high",a2),(Str.ofString "row",a3),(Str.ofString "column",a4),(Str.ofString "late",a5),(Str.ofString "ink",a6),(Str.ofString "wrap",a7),(Str.ofString "putting",a8),(Str.ofString "home",a9),(Str.ofString "top",a10),(Str.ofString "bottom",a11)] ++ [(Str.ofString "left",v)]:=rfl
theorem zfO {a0 a1 a2 a3 a4 a5 a6 a7 a8 a9 a10 a11 a12 v:W}:xf (Str.ofString "right") v [(Str.ofString "picture",a0),(Str.ofString "wide",a1),(Str.ofString "high",a2),(Str.ofString "row",a3),(Str.ofString "column",a4),(Str.ofString "late",a5),(Str.ofString "ink",a6),(Str.ofString "wrap",a7),(Str.ofString "putting",a8),(Str.ofString "home",a9),(Str.ofString "top",a10),(Str.ofString "bottom",a11),(Str.ofString "left",a12)]=[(Str.ofString "picture",a0),(Str.ofString "wide",a1),(Str.ofString "high",a2),(Str.ofString "row",a3),(Str.ofString "column",a4),(Str.ofString "late",a5),(Str.ofString "ink",a6),(Str.ofString "wrap",a7),(Str.ofString "putting",a8),(Str.ofString "home",a9),(Str.ofString "top",a10),(Str.ofString "bottom",a11),(Str.ofString "left",a12)] ++ [(Str.ofString "right",v)]:=rfl
theorem zbV {a0 a1 a2 a3 a4 a5 a6 a7 a8 a9 a10 a11 a12 a13 v:W}:xf (Str.ofString "stops") v [(Str.ofString "picture",a0),(Str.ofString "wide",a1),(Str.ofString "high",a2),(Str.ofString "row",a3),(Str.ofString "column",a4),(Str.ofString "late",a5),(Str.ofString "ink",a6),(Str.ofString "wrap",a7),(Str.ofString "putting",a8),(Str.ofString "home",a9),(Str.ofString "top",a10),(Str.ofString "bottom",a11),(Str.ofString "left",a12),(Str.ofString "right",a13)]=[(Str.ofString "picture",a0),(Str.ofString "wide",a1),(Str.ofString "high",a2),(Str.ofString "row",a3),(Str.ofString "column",a4),(Str.ofString "late",a5),(Str.ofString "ink",a6),(Str.ofString "wrap",a7),(Str.ofString "putting",a8),(Str.ofString "home",a9),(Str.ofString "top",a10),(Str.ofString "bottom",a11),(Str.ofString "left",a12),(Str.ofString "right",a13)] ++ [(Str.ofString "stops",v)]:=rfl
theorem zbW {a0 a1 a2 a3 a4 a5 a6 a7 a8 a9 a10 a11 a12 a13 a14 v:W}:xf (Str.ofString "kept") v [(Str.ofString "picture",a0),(Str.ofString "wide",a1),(Str.ofString "high",a2),(Str.ofString "row",a3),(Str.ofString "column",a4),(Str.ofString "late",a5),(Str.ofString "ink",a6),(Str.ofString "wrap",a7),(Str.ofString "putting",a8),(Str.ofString "home",a9),(Str.ofString "top",a10),(Str.ofString "bottom",a11),(Str.ofString "left",a12),(Str.ofString "right",a13),(Str.ofString "stops",a14)]=[(Str.ofString "picture",a0),(Str.ofString "wide",a1),(Str.ofString "high",a2),(Str.ofString "row",a3),(Str.ofString "column",a4),(Str.ofString "late",a5),(Str.ofString "ink",a6),(Str.ofString "wrap",a7),(Str.ofString "putting",a8),(Str.ofString "home",a9),(Str.ofString "top",a10),(Str.ofString "bottom",a11),(Str.ofString "left",a12),(Str.ofString "right",a13),(Str.ofString "stops",a14)] ++ [(Str.ofString "kept",v)]:=rfl
theorem zfP {a0 a1 a2 a3 a4 a5 a6 a7 a8 a9 a10 a11 a12 a13 a14 a15 v:W}:xf (Str.ofString "last") v [(Str.ofString "picture",a0),(Str.ofString "wide",a1),(Str.ofString "high",a2),(Str.ofString "row",a3),(Str.ofString "column",a4),(Str.ofString "late",a5),(Str.ofString "ink",a6),(Str.ofString "wrap",a7),(Str.ofString "putting",a8),(Str.ofString "home",a9),(Str.ofString "top",a10),(Str.ofString "bottom",a11),(Str.ofString "left",a12),(Str.ofString "right",a13),(Str.ofString "stops",a14),(Str.ofString "kept",a15)]=[(Str.ofString "picture",a0),(Str.ofString "wide",a1),(Str.ofString "high",a2),(Str.ofString "row",a3),(Str.ofString "column",a4),(Str.ofString "late",a5),(Str.ofString "ink",a6),(Str.ofString "wrap",a7),(Str.ofString "putting",a8),(Str.ofString "home",a9),(Str.ofString "top",a10),(Str.ofString "bottom",a11),(Str.ofString "left",a12),(Str.ofString "right",a13),(Str.ofString "stops",a14),(Str.ofString "kept",a15)] ++ [(Str.ofString "last",v)]:=rfl
theorem QK {a0 a1 a2:W}:List.lookup (Str.ofString "begin") [(Str.ofString "picture",a0),(Str.ofString "wide",a1),(Str.ofString "high",a2)]=none:=rfl
theorem QL {a0 a1 a2 a3 a4 a5 a6 a7 a8 a9 a10:W}:List.lookup (Str.ofString "high") [(Str.ofString "picture",a0),(Str.ofString "wide",a1),(Str.ofString "high",a2),(Str.ofString "row",a3),(Str.ofString "column",a4),(Str.ofString "late",a5),(Str.ofString "ink",a6),(Str.ofString "wrap",a7),(Str.ofString "putting",a8),(Str.ofString "home",a9),(Str.ofString "top",a10)]=some a2:=rfl
theorem QM {a0 a1 a2 a3 a4 a5 a6 a7 a8 a9 a10 a11 a12:W}:List.lookup (Str.ofString "wide") [(Str.ofString "picture",a0),(Str.ofString "wide",a1),(Str.ofString "high",a2),(Str.ofString "row",a3),(Str.ofString "column",a4),(Str.ofString "late",a5),(Str.ofString "ink",a6),(Str.ofString "wrap",a7),(Str.ofString "putting",a8),(Str.ofString "home",a9),(Str.ofString "top",a10),(Str.ofString "bottom",a11),(Str.ofString "left",a12)]=some a1:=rfl
theorem QN {a0 a1 a2 a3 a4 a5 a6 a7 a8 a9 a10 a11 a12 a13:W}:List.lookup (Str.ofString "wide") [(Str.ofString "picture",a0),(Str.ofString "wide",a1),(Str.ofString "high",a2),(Str.ofString "row",a3),(Str.ofString "column",a4),(Str.ofString "late",a5),(Str.ofString "ink",a6),(Str.ofString "wrap",a7),(Str.ofString "putting",a8),(Str.ofString "home",a9),(Str.ofString "top",a10),(Str.ofString "bottom",a11),(Str.ofString "left",a12),(Str.ofString "right",a13)]=some a1:=rfl
theorem zgD { v:W}:xf (Str.ofString "picture") v []=[] ++ [(Str.ofString "picture",v)]:=rfl
theorem zgE {a0 v:W}:xf (Str.ofString "wide") v [(Str.ofString "picture",a0)]=[(Str.ofString "picture",a0)] ++ [(Str.ofString "wide",v)]:=rfl
theorem zgF {a0 a1 v:W}:xf (Str.ofString "high") v [(Str.ofString "picture",a0),(Str.ofString "wide",a1)]=[(Str.ofString "picture",a0),(Str.ofString "wide",a1)] ++ [(Str.ofString "high",v)]:=rfl
end L2
namespace L2
open PySem PySem.Spec PyProof.Rows
theorem Kf {κ α:Type} [DecidableEq κ] {kvs:List (κ×α)}{k:κ}{v:α}(h:k ∉ kvs.map (·.1)):xm kvs k v=kvs ++ [(k,v)]:=by
 unfold xm
 rw [if_neg]
 intro e
 rw [List.any_eq_true] at e
 obtain⟨kv,h1,h2⟩:=e
 exact h (List.mem_map.mpr ⟨kv,h1,by simpa using h2⟩)
theorem Z7 {κ α:Type} [DecidableEq κ]:∀ {more kvs:List (κ×α)},((kvs ++ more).map (·.1)).Nodup->xX kvs more=kvs ++ more
 |[],kvs,_=>by simp [xX]
 | (k,v) :: more,kvs,h=>by
  have hk:k ∉ kvs.map (·.1):=by
   intro m
   rw [List.map_append,List.nodup_append] at h
   exact h.2.2 k m k (by simp) rfl
  show xX (xm kvs k v) more=_
  rw [Kf hk,Z7 (by simpa using h)]
  simp
theorem r3w {w:Nat}(h1:1≤w) (h2:w≤24):R3 4 w 4 ((w - 1) / 4):=by
 have e:∀ n:_root_.Fin 25,1≤n.val->(4:Int)≠0/\Builtin.Range.small 4 ((n.val:Nat):Int) 4 =true/\Builtin.Range.rangeSize 4 ((n.val:Nat):Int) 4 =(((n.val - 1) / 4:Nat))/\Builtin.divisionGoesByPylong (((n.val:Nat):Int) - 4) 4 =false:=by decide +kernel
 exact e ⟨w,by omega⟩ h1
theorem zaM {w:Nat}(h2:w≤24):((stopsW w).map (·.1)).Nodup:=by
 have e:∀ n:_root_.Fin 25,((List.range ((n.val - 1) / 4)).map fun i=>(Sum.inl (4+(i:Nat)*4:Int):Key)).Nodup:=by decide +kernel
 have:=e ⟨w,by omega⟩
 unfold stopsW stK stopsI
 rw [List.map_map,List.map_map]
 exact this
def Kg (K:W.Frag):List V->Hp->VK->Prop:=JP K
theorem zcX {X:Cx}{K:W.Frag}(hK:X.K=K) (hc:X.calm=true):xy X (.type "dict") (Kg K):=by subst hK;exact Qw hc
noncomputable def vJ:List PyData->Option (List (Key×PyData))
 |[]=>some []
 |.tuple [.int i,v] :: r=>(vJ r).map ((Sum.inl i,v) :: ·)
 |.tuple [.str i,v] :: r=>(vJ r).map ((Sum.inr i,v) :: ·)
 |_=>none
theorem jB {K:W.Frag}{Γ:Gh}:∀ {ds:List PyData}{kvs:List (Key×PyData)}{vs:List V},vJ ds=some kvs->Reps K Γ.Z ds vs->∃ us:List (Key×V),vn K Γ.Z vs us/\y6 K Γ (kvs.map fun kv=>(kv.1,W.d kv.2)) us
 |[],kvs,vs,e,h=>by
  cases e
  rw [show vs=[] from h]
  exact⟨[],.nil,.nil⟩
 |d :: ds,kvs,vs,e,h=>by
  obtain⟨x,r,rfl,h1,h2⟩:=h
  unfold vJ at e
  split at e
  ·rename_i heq;cases heq
  ·rename_i i v r' heq
   cases heq
   cases hp:vJ ds with
   |none=>rw [hp] at e;cases e
   |some k2=>
    rw [hp] at e
    cases e
    obtain⟨us,q1,q2⟩:=jB hp h2
    obtain⟨a,xs,rfl,s1,y1,r1,e1,s2,y2,r2,e2,s3,e3⟩:=h1
    subst e1 e2
    rw [show r2=[] from e3] at s1
    rw [show y1=.int i from s2] at s1
    exact⟨(Sum.inl i,y2) :: us,.cons ⟨a,rfl,s1⟩ q1,.cons ⟨rfl,s3⟩ q2⟩
  ·rename_i i v r' heq
   cases heq
   cases hp:vJ ds with
   |none=>rw [hp] at e;cases e
   |some k2=>
    rw [hp] at e
    cases e
    obtain⟨us,q1,q2⟩:=jB hp h2
    obtain⟨a,xs,rfl,s1,y1,r1,e1,s2,y2,r2,e2,s3,e3⟩:=h1
    subst e1 e2
    rw [show r2=[] from e3] at s1
    rw [show y1=.str i from s2] at s1
    exact⟨(Sum.inr i,y2) :: us,.cons ⟨a,rfl,s1⟩ q1,.cons ⟨rfl,s3⟩ q2⟩
  ·cases e
def Kh:List W->OM->WK->Prop:=fun xs O R=>∃ w ds kvs,xs=[w]/\yN O w=some (ds.map .d)/\vJ ds=some kvs/\kvs.length≤1000/\∀ p,O p=none->R (.own p) (updO O p (.dK (xX [] (kvs.map fun kv=>(kv.1,.d kv.2)))))
theorem zcY {K:W.Frag}:RefC K (Kg K) Kh:=by
 rintro Γ O H xs vs S rs Q R ⟨w,ds,kvs,rfl,e,ep,hl,h⟩ k
 cases rs with
 |cons rx t=>
  cases t
  obtain⟨a,ys,rfl,q1,q2⟩:=xv S rx e
  obtain⟨us,p1,p2⟩:=jB ep (yI q2)
  refine⟨a,ys,us,rfl,q1,p1.keep fun b xs hb=>hb.same S.z,by rw [<- Paired.length p2,List.length_map];exact hl,fun p hp=>?_⟩
  have S':=S.newO hp (o:=.dK (xI [] us)) (oo:=.dK _) (by intro _ h;cases h) ⟨_,zC,ua p2 .nil⟩
  exact k _ _ _ _ _ (Le.refl _) S' xP (h p (S.free hp).2.1)
section
variable {X:Cx}{K:W.Frag}
def zbX (K:W.Frag):List V->Hp->VK->Prop:=zbz K
theorem zcZ (hK:X.K=K):xy X (.builtin "sorted") (zbX K):=by subst hK;exact XS
theorem jC {Z:Hp}:∀ ns:List Int,Reps K Z (ns.map PyData.int) (ns.map V.int)
 |[]=>rfl
 |n :: ns=>⟨_,_,rfl,rfl,jC ns⟩
theorem QO {Γ:Gh}{kvs:List (Key×W)}{vs:List (Key×V)}(h:y6 K Γ kvs vs):kvs.map (·.1)=vs.map (·.1):=by
 unfold y6 at h
 induction h with
 |nil=>rfl
 |cons a b ih=>rw [List.map_cons,List.map_cons,a.1,ih]
def zbY:List W->OM->WK->Prop:=fun xs O R=>∃ w,∃ ns:List Int,xs=[w]/\yN O w=some ((ns.map .int).map .d)/\ns.length < 64/\R (.d (.list ((srt ns).map .int))) O
theorem kh {Z:Hp}:∀ {ns:List Int}{vs:List V},Reps K Z (ns.map PyData.int) vs->vs=ns.map V.int
 |[],_,h=>h
 |n :: ns,_,h=>by
  obtain⟨x,r,rfl,h1,h2⟩:=h
  rw [show x=V.int n from h1,kh h2]
  rfl
theorem zfQ:RefC K (zbX K) zbY:=by
 rintro Γ O H xs vs S rs Q R ⟨w,ns,rfl,e,hl,h⟩ k
 cases rs with
 |cons rx t=>
  cases t
  obtain⟨a,us,rfl,q1,q2⟩:=xv S rx e
  have hu:=kh (yI q2)
  subst hu
  refine⟨a,ns,rfl,q1,hl,fun p hp=>?_⟩
  obtain⟨Γ',l',S',r'⟩:=uI S (jC (srt ns)) hp
  exact k _ _ _ _ _ l' S' r' h
end
section
variable {K:W.Frag}
theorem RefR.weak {r:R2}{rw rw':R2W}(h:RefR K r rw) (imp:∀ x y O R,rw' x y O R->rw x y O R):RefR K r rw':=fun Γ O H x y v u S rx ry Q R hT k=>h Γ O H x y v u S rx ry Q R (imp _ _ _ _ hT) k
theorem RefC.weak {r:List V->Hp->VK->Prop}{rw rw':List W->OM->WK->Prop}(h:RefC K r rw) (imp:∀ x O R,rw' x O R->rw x O R):RefC K r rw':=fun Γ O H xs vs S rs Q R hT k=>h Γ O H xs vs S rs Q R (imp _ _ _ hT) k
def Zv (i:Nat):TEW:=fun ρ O R=>match ρ[i]? with
 |some (some w)=>R w O
 |_=>False
theorem zeW {i:Nat}:RefE K (U7 i) (Zv i):=fun Γ O H ρ σ S r Q R hT k=>zcy Γ O H ρ σ S r Q R (by
  unfold Zv at hT
  split at hT
  · rename_i w e;exact⟨w,e,hT⟩
  · exact hT.elim) k
def vI0 (g:Int->Int->V):R2W:=fun x y O R=>match x,y with
 |.d (.int i),.d (.int j)=>R (ofV (g i j)) O
 |_,_=>False
def vI (C:Int->Int->Prop) (g:Int->Int->V):R2W:=fun x y O R=>match x,y with
 |.d (.int i),.d (.int j)=>C i j/\R (ofV (g i j)) O
 |_,_=>False
theorem zfR {g:Int->Int->V}(hg:∀ i j,scV (g i j)=true:=by intro _ _;rfl):RefR K (rI0 g) (vI0 g):=(zgo hg).weak fun x y O R h=>by
 unfold vI0 at h
 split at h
 ·exact⟨_,_,rfl,rfl,h⟩
 ·exact h.elim
theorem zgG {C:Int->Int->Prop}{g:Int->Int->V}(hg:∀ i j,scV (g i j)=true:=by intro _ _;rfl):RefR K (rI C g) (vI C g):=(r_I hg).weak fun x y O R h=>by
 unfold vI at h
 split at h
 ·exact⟨_,_,rfl,rfl,h⟩
 ·exact h.elim
def vU (g:Int->V):W->OM->WK->Prop:=fun x O R=>match x with
 |.d (.int i)=>R (ofV (g i)) O
 |_=>False
theorem zgH {g:Int->V}(hg:∀ i,scV (g i)=true:=by intro _;rfl):RefU K (rU g) (vU g):=fun Γ O H x v S rx Q R h k=>r_U hg Γ O H x v S rx Q R (by
  unfold vU at h
  split at h
  · exact⟨_,rfl,h⟩
  · exact h.elim) k
def vEq:R2W:=fun x y O R=>match x,y with
 |.d (.int i),.d (.int j)=>R (.d (.bool (decide (i=j)))) O
 |.d a,.d b=>scD a=true/\scD b=true/\jU (vOf a) (vOf b)=true/\R (.d (.bool (decide (vOf a=vOf b)))) O
 |_,_=>False
def vNe:R2W:=fun x y O R=>match x,y with
 |.d (.int i),.d (.int j)=>R (.d (.bool (!decide (i=j)))) O
 |.d a,.d b=>scD a=true/\scD b=true/\jU (vOf a) (vOf b)=true/\R (.d (.bool (!decide (vOf a=vOf b)))) O
 |_,_=>False
theorem zfS:RefR K rEq vEq:=zgp.weak fun x y O R h=>by
 unfold vEq at h
 split at h
 ·rename_i i j
  have e:decide (vOf (.int i)=vOf (.int j))=decide (i=j):=by simp [vOf]
  exact⟨.int i,.int j,rfl,rfl,rfl,rfl,rfl,by rw [e];exact h⟩
 ·exact⟨_,_,rfl,rfl,h⟩
 ·exact h.elim
theorem zfT:RefR K rNe vNe:=zgq.weak fun x y O R h=>by
 unfold vNe at h
 split at h
 ·rename_i i j
  have e:decide (vOf (.int i)=vOf (.int j))=decide (i=j):=by simp [vOf]
  exact⟨.int i,.int j,rfl,rfl,rfl,rfl,rfl,by rw [e];exact h⟩
 ·exact⟨_,_,rfl,rfl,h⟩
 ·exact h.elim
def QP:R2W:=fun x y O R=>match y with
 |.d .none=>R (.d (.bool (vZ x))) O
 |_=>False
def Xs:R2W:=fun x y O R=>match y with
 |.d .none=>R (.d (.bool (!vZ x))) O
 |_=>False
theorem zeX:RefR K (fun x y H Q=>y=.non/\Q (.bl (decide (x=.non))) H) QP:=zfD.weak fun x y O R h=>by
 unfold QP at h
 split at h
 ·exact⟨rfl,h⟩
 ·exact h.elim
theorem zc0:RefR K (fun x y H Q=>y=.non/\Q (.bl (!decide (x=.non))) H) Xs:=zes.weak fun x y O R h=>by
 unfold Xs at h
 split at h
 ·exact⟨rfl,h⟩
 ·exact h.elim
def zaN:R2W:=fun x y O R=>match y with
 |.d (.int i)=>∃ ws,yN O x=some ws/\∃ w,atI ws i=some w/\R w O
 |_=>False
theorem zeY:RefR K (Qn K) zaN:=zfF.weak fun x y O R h=>by
 unfold zaN at h
 split at h
 ·obtain⟨ws,e,w,e2,h⟩:=h
  exact⟨ws,_,w,rfl,e,e2,h⟩
 ·exact h.elim
def Xt (T:TEW):TTW:=fun ρ O R=>T ρ O fun x O1=>match x with
 |.d (.bool k)=>R k O1
 |_=>False
theorem UV {t:TE}{T:TEW}(h:RefE K t T):x8 K (Qe t) (Xt T):=by
 intro Γ O H ρ σ S r0 Q R hT k
 refine h Γ O H ρ σ S r0 _ _ hT fun Γ1 O1 H1 x v l1 S1 rx h1=>?_
 split at h1
 ·exact⟨_,rx,k _ _ _ _ l1 S1 h1⟩
 ·exact h1.elim
theorem zfU {t:TE}{T:TEW}(h:RefE K t T):x8 K (tB t) (Xt T):=UV h
def Vb (r r':R2W) (Ta Tb Tc:TEW):TEW:=fun ρ O R=>Ta ρ O fun x O1=>Tb ρ O1 fun y O2=>r x y O2 fun z O3=>match z with
 |.d (.bool k)=>if k=true then Tc ρ O3 fun w O4=>r' y w O4 R else R (.d (.bool false)) O3
 |_=>False
theorem zaO {r r':R2}{rw rw':R2W}{ta tb tc:TE}{Ta Tb Tc:TEW}(hr:RefR K r rw) (hr':RefR K r' rw') (ha:RefE K ta Ta) (hb:RefE K tb Tb) (hc:RefE K tc Tc):RefE K (XD r r' ta tb tc) (Vb rw rw' Ta Tb Tc):=by
 intro Γ O H ρ σ S r0 Q R h k
 refine ha Γ O H ρ σ S r0 _ _ h fun Γ1 O1 H1 x v l1 S1 rx h1=>?_
 refine hb Γ1 O1 H1 ρ σ S1 (r0.mono l1) _ _ h1 fun Γ2 O2 H2 y u l2 S2 ry h2=>?_
 refine hr Γ2 O2 H2 x y v u S2 (rx.mono l2) ry _ _ h2 fun Γ3 O3 H3 w z l3 S3 rz h3=>?_
 split at h3
 ·rename_i c
  refine⟨c,rz,?_⟩
  have l13:=(l1.trans l2).trans l3
  cases c with
  |true=>
   rw [if_pos rfl] at h3 ⊢
   refine hc _ _ _ _ _ S3 (r0.mono l13) _ _ h3 fun Γ4 O4 H4 q z4 l4 S4 r4 h4=>?_
   exact hr' _ _ _ _ _ _ _ S4 (ry.mono (l3.trans l4)) r4 _ _ h4 fun Γ5 O5 H5 w5 z5 l5 S5 r5 h5=>k _ _ _ _ _ ((l13.trans l4).trans l5) S5 r5 h5
  |false=>rw [if_neg (by decide)] at h3 ⊢;exact k _ _ _ _ _ l13 S3 vF h3
 ·exact h3.elim
def zaP (K:W.Frag) (Ta:TEW) (f:Str):TEW:=fun ρ O R=>Ta ρ O fun x O1=>match x with
 |.own a=>∃ C dx fs,O1 a=some (.ins C dx fs)/\Cls K C/\NoAttr K C f/\∃ w,fs.lookup f=some w/\R w O1
 |_=>False
theorem zeZ {ta:TE}{Ta:TEW}{f:Str}(ha:RefE K ta Ta):RefE K (KN K ta f) (zaP K Ta f):=by
 intro Γ O H ρ σ S r0 Q R hT k
 refine ha Γ O H ρ σ S r0 _ _ hT fun Γ1 O1 H1 x v l1 S1 rx h1=>?_
 split at h1
 ·obtain⟨C,dx,fs,ho,c,na,w,e,h1⟩:=h1
  obtain⟨_,vs,q1,q2⟩:=S1.o _ _ ho
  obtain⟨u,e',ru⟩:=(Z1 q2).2 w e
  exact⟨_,C,dx,vs,u,rx,q1,c,na,e',k _ _ _ _ _ l1 S1 ru h1⟩
 ·exact h1.elim
def Xu (K:W.Frag) (Ta Tv:TEW) (f:Str):TSW:=fun D ρ O=>Tv ρ O fun y O1=>Ta ρ O1 fun x O2=>match x with
 |.own a=>∃ C dx fs,O2 a=some (.ins C dx fs)/\Cls K C/\NoAttr K C f/\fs.length < 1000/\D.nx ρ (updO O2 a (.ins C dx (xf f y fs)))
 |_=>False
theorem zc1 {ta tv:TE}{Ta Tv:TEW}{f:Str}(ha:RefE K ta Ta) (hv:RefE K tv Tv):RefS K (KO K ta tv f) (Xu K Ta Tv f):=by
 intro Γ O H ρ σ D DW S r0 hT e
 refine hv Γ O H ρ σ S r0 _ _ hT fun Γ1 O1 H1 y u l1 S1 ry h1=>?_
 refine ha _ _ _ _ _ S1 (r0.mono l1) _ _ h1 fun Γ2 O2 H2 x v l2 S2 rx h2=>?_
 split at h2
 ·obtain⟨C,dx,fs,ho,c,na,hl,h2⟩:=h2
  obtain⟨_,vs,q1,q2⟩:=S2.o _ _ ho
  refine⟨_,C,dx,vs,rx,q1,c,na,by rw [<- Paired.length q2];exact hl,?_⟩
  exact e.nx _ _ _ _ _ (l1.trans l2) (S2.put (oo:=.ins C dx _) ho (by intro _ h;cases h) (by intro _ h;cases h) ⟨_,zC,QG (ry.mono l2) q2⟩) (r0.mono (l1.trans l2)) h2
 ·exact h2.elim
def Vc (Td Ty:TEW):TEW:=fun ρ O R=>Td ρ O fun x O1=>Ty ρ O1 fun y O2=>match x,j9 y with
 |.own a,some k=>∃ kvs,O2 a=some (.dK kvs)/\∃ w,xJ kvs k=some w/\R w O2
 |_,_=>False
theorem zaQ {td ty:TE}{Td Ty:TEW}(hd:RefE K td Td) (hy:RefE K ty Ty):RefE K (JS td ty) (Vc Td Ty):=by
 intro Γ O H ρ σ S r0 Q R hT k
 refine hd Γ O H ρ σ S r0 _ _ hT fun Γ1 O1 H1 x v l1 S1 rx h1=>?_
 refine hy _ _ _ _ _ S1 (r0.mono l1) _ _ h1 fun Γ2 O2 H2 y u l2 S2 ry h2=>?_
 split at h2
 ·rename_i ky ek
  obtain⟨kvs,ho,w,ev,h2⟩:=h2
  obtain⟨_,vs,q1,q2⟩:=S2.o _ _ ho
  obtain⟨z,ez,rz⟩:=(ka q2).2 w ev
  exact⟨_,vs,ky,z,rx,q1,kT ry ek,ez,k _ _ _ _ _ (l1.trans l2) S2 rz h2⟩
 ·exact h2.elim
def Vd (Td Ty Tv:TEW):TSW:=fun D ρ O=>Tv ρ O fun w O1=>Td ρ O1 fun x O2=>Ty ρ O2 fun y O3=>match x,j9 y with
 |.own a,some k=>∃ kvs,O3 a=some (.dK kvs)/\kvs.length < 1000/\D.nx ρ (updO O3 a (.dK (xm kvs k w)))
 |_,_=>False
theorem zaR {td ty tv:TE}{Td Ty Tv:TEW}(hd:RefE K td Td) (hy:RefE K ty Ty) (hv:RefE K tv Tv):RefS K (JT td ty tv) (Vd Td Ty Tv):=by
 intro Γ O H ρ σ D DW S r0 hT e
 refine hv Γ O H ρ σ S r0 _ _ hT fun Γ1 O1 H1 w z l1 S1 rw h1=>?_
 refine hd _ _ _ _ _ S1 (r0.mono l1) _ _ h1 fun Γ2 O2 H2 x v l2 S2 rx h2=>?_
 refine hy _ _ _ _ _ S2 (r0.mono (l1.trans l2)) _ _ h2 fun Γ3 O3 H3 y u l3 S3 ry h3=>?_
 split at h3
 ·rename_i ky ek
  obtain⟨kvs,ho,hl,h3⟩:=h3
  obtain⟨_,vs,q1,q2⟩:=S3.o _ _ ho
  refine⟨_,vs,ky,rx,q1,kT ry ek,by rw [<- Paired.length q2];exact hl,?_⟩
  have l13:=(l1.trans l2).trans l3
  exact e.nx _ _ _ _ _ l13 (S3.put (oo:=.dK _) ho (by intro _ h;cases h) (by intro _ h;cases h) ⟨_,zC,YR ((rw.mono l2).mono l3) q2⟩) (r0.mono l13) h3
 ·exact h3.elim
def vI2 (g:Int->Int->Int):List W->OM->WK->Prop:=fun xs O R=>match xs with
 |[.d (.int i),.d (.int j)]=>R (.d (.int (g i j))) O
 |_=>False
theorem zfV {g:Int->Int->Int}:RefC K (fun xs H Q=>∃ i j,xs=[.int i,.int j]/\Q (.int (g i j)) H) (vI2 g):=zgt.weak fun x O R h=>by
 unfold vI2 at h
 split at h
 ·exact⟨_,_,rfl,h⟩
 ·exact h.elim
end
end L2
namespace PySem
open Sem (wp)
noncomputable abbrev xE (h:Heap) (z TI TO:Addr) (f0:Value) (f1:Bool):Prop:=
 h.get? z=some { cls:=.type "zip",dict:=none,data:=.fields #[f0,.bool f1,.bool false,.ref TI,.ref TO],slots:=#[] }
structure ZlApart (z TI TO i1 i2:Addr) (fp1 fp2:List Addr):Prop where
 TIz:TI≠z
 TOz:TO≠z
 i1z:i1≠z
 i2z:i2≠z
 TITO:TI≠TO
 TIi1:TI≠i1
 TIi2:TI≠i2
 TOi1:TO≠i1
 TOi2:TO≠i2
 i12:i1≠i2
 z1:z ∉ fp1
 z2:z ∉ fp2
 o1:TO ∉ fp1
 o2:TO ∉ fp2
 i1f:i1 ∉ fp2
 i2f:i2 ∉ fp1
section
variable {prog:Program}{w:World}{A:Around}{E:Value->Shared->Prop}{s:Shared}
theorem k9 {M:Model}{a:Addr}{Q:Option Obj->Shared->Prop}(h:Q (s.heap.get? a) s):wpAny M A (loadIfAlive a) Q E s:=fun _ _ _=>h
variable {z TI TO i1 i2:Addr}{fp1 fp2:List Addr}{n1 n2:Nat}{P1 P2:Nat->Value->Prop}{St1 St2:Nat->Heap->Prop}
def ZlS (z TI TO i1 i2:Addr) (St1 St2:Nat->Heap->Prop) (k:Nat) (h:Heap):Prop:=
 ∃ f0 f1 a b,xE h z TI TO f0 f1/\((f0=.none/\f1=false)\/∃ (t:Addr) (o:Obj),f0=rawInt (t:Nat)/\h.get? t=some o/\t≠z/\t≠TO/\t≠i1/\t≠i2)/\IsPair h TI (.ref i1) (.ref i2)/\IsPair h TO a b/\St1 k h/\St2 k h
theorem Ve {k:Nat}{a b:Value}{Q:Value->Shared->Prop}(D:ZlApart z TI TO i1 i2 fp1 fp2) (D1:Draws prog w A i1 fp1 n1 P1 St1) (D2:Draws prog w A i2 fp2 n2 P2 St2)
  (hz:xE s.heap z TI TO .none false) (hTI:IsPair s.heap TI (.ref i1) (.ref i2)) (hTO:IsPair s.heap TO a b) (h1:St1 k s.heap) (h2:St2 k s.heap) (k1:k < n1) (k2:k < n2)
  (hQ:∀ x y h' tk,P1 k x->P2 k y->IsPair h' s.heap.objs.size x y->ZlS z TI TO i1 i2 St1 St2 (k+1) h'->(∀ c o,c≠z->c≠TO->c≠i1->c≠i2->s.heap.get? c=some o->h'.get? c=some o)->Q (.ref s.heap.objs.size) { s with heap:=h',toks:=tk }) :
  wpAny (model prog w) A (Builtin.«zip.__next__» ⟨[.ref z],[]⟩) (fun fin s'=>∃ v,fin=.done (.ret v)/\Q v s') E s:=by
 show wpAny _ _ (field (.ref z) 2 >>= _) _ _ _
 refine wpAny_bind (wpAny_field hz rfl (x:=.bool false) rfl ?_)
 show wpAny _ _ (field (.ref z) 3 >>= _) _ _ _
 refine wpAny_bind (wpAny_field hz rfl (x:=.ref TI) rfl ?_)
 refine wpAny_bind (wpAny_seqItems hTI rfl ?_)
 show wpAny _ _ (Builtin.SmallTypes.ownedTupleIsFree (.ref z) >>= _) _ _ _
 refine wpAny_bind ?_
 unfold Builtin.SmallTypes.ownedTupleIsFree
 refine wpAny_bind (wpAny_field hz rfl (x:=.none) rfl (wpAny_pure ?_))
 simp only [if_true]
 refine wpAny_bind (wpAny_rule ?_)
 refine wpAny_bind (wpAny_field hz rfl (x:=.ref TO) rfl ?_)
 refine wpAny_bind (wpAny_setField_rec hz (by simp) fun h₁ hz₁ hs₁=>?_)
 replace hz₁:xE h₁ z TI TO .ellipsis false:=hz₁
 refine wpAny_bind ?_
 simp only [List.zipIdx_cons,List.zipIdx_nil,List.forIn_cons,List.forIn_nil]
 refine wpAny_bind (wpAny_bind (wpAny_onRaise ?_))
 show wpAny _ _ (Builtin.SmallTypes.nextOf (.ref i1) >>= _) _ _ _
 refine wpAny_bind (D1.item k _ _ _ k1 (D1.frame k _ _ h1 fun c hc o e=>hs₁.extBut _ _ (fun q=>D.z1 (q ▸ hc)) e) fun x h₂ tk hx h1₂ hs₂=>wpAny_pure ?_)
 replace hs₂:Heap.SameBut i1 h₁ h₂:=hs₂
 have hTO₂:IsPair h₂ TO a b:=hs₂.extBut _ _ D.TOi1 (hs₁.extBut _ _ D.TOz hTO)
 refine wpAny_bind (wpAny_seqItems hTO₂ rfl ?_)
 refine wpAny_bind (wpAny_updateSeq_pair hTO₂ fun h₃ hTO₃ hs₃=>?_)
 replace hTO₃:IsPair h₃ TO x b:=hTO₃
 refine wpAny_bind (wpAny_letGo (wpAny_pure ?_))
 refine wpAny_bind (wpAny_bind (wpAny_onRaise ?_))
 show wpAny _ _ (Builtin.SmallTypes.nextOf (.ref i2) >>= _) _ _ _
 refine wpAny_bind (D2.item k _ _ _ k2 (D2.frame k _ _ h2 fun c hc o e=>hs₃.extBut _ _ (fun q=>D.o2 (q ▸ hc)) (hs₂.extBut _ _ (fun q=>D.i1f (q ▸ hc)) (hs₁.extBut _ _ (fun q=>D.z2 (q ▸ hc)) e))) fun y h₄ tk' hy h2₄ hs₄=>wpAny_pure ?_)
 replace hs₄:Heap.SameBut i2 h₃ h₄:=hs₄
 have hTO₄:IsPair h₄ TO x b:=hs₄.extBut _ _ D.TOi2 hTO₃
 refine wpAny_bind (wpAny_seqItems hTO₄ rfl ?_)
 refine wpAny_bind (wpAny_updateSeq_pair hTO₄ fun h₅ hTO₅ hs₅=>?_)
 replace hTO₅:IsPair h₅ TO x y:=hTO₅
 refine wpAny_bind (wpAny_letGo (wpAny_pure (wpAny_pure ?_)))
 refine wpAny_bind (wpAny_seqItems hTO₅ rfl ?_)
 refine wpAny_bind (wpAny_newTuple ?_)
 have hsz:h₅.objs.size=s.heap.objs.size:=by rw [hs₅.1,hs₄.1,hs₃.1,hs₂.1,hs₁.1]
 have hz₅:xE h₅ z TI TO .ellipsis false:=hs₅.extBut _ _ D.TOz.symm (hs₄.extBut _ _ D.i2z.symm (hs₃.extBut _ _ D.TOz.symm (hs₂.extBut _ _ D.i1z.symm hz₁)))
 have hk₅:∀ c o,c≠z->c≠TO->c≠i1->c≠i2->s.heap.get? c=some o->h₅.get? c=some o:=fun c o c1 c2 c3 c4 e=>
  hs₅.extBut _ _ c2 (hs₄.extBut _ _ c4 (hs₃.extBut _ _ c2 (hs₂.extBut _ _ c3 (hs₁.extBut _ _ c1 e))))
 have h1₅:St1 (k+1) h₅:=D1.frame _ _ _ h1₂ fun c hc o e=>hs₅.extBut _ _ (fun q=>D.o1 (q ▸ hc)) (hs₄.extBut _ _ (fun q=>D.i2f (q ▸ hc)) (hs₃.extBut _ _ (fun q=>D.o1 (q ▸ hc)) e))
 have h2₅:St2 (k+1) h₅:=D2.frame _ _ _ h2₄ fun c hc o e=>hs₅.extBut _ _ (fun q=>D.o2 (q ▸ hc)) e
 have hzlt:z < h₅.objs.size:=Heap.lt_size hz₅
 have hTOlt:TO < h₅.objs.size:=Heap.lt_size hTO₅
 have hi1lt:i1 < h₅.objs.size:=by obtain⟨_,e⟩:=D1.live _ _ h1₅;exact Heap.lt_size e
 have hi2lt:i2 < h₅.objs.size:=by obtain⟨_,e⟩:=D2.live _ _ h2₅;exact Heap.lt_size e
 show wpAny _ _ (Builtin.SmallTypes.ownedTupleHandOut (.ref z) (.ref h₅.objs.size) >>= _) _ _ _
 refine wpAny_bind ?_
 unfold Builtin.SmallTypes.ownedTupleHandOut
 have hz₆:xE (h₅.push { cls:=.type "tuple",data:=.seq #[x,y] }) z TI TO .ellipsis false:=Heap.get?_push_of_some _ hz₅
 refine wpAny_bind (wpAny_setField_rec hz₆ (by simp) fun h₇ hz₇ hs₇=>?_)
 replace hz₇:xE h₇ z TI TO (rawInt h₅.objs.size) false:=hz₇
 refine wpAny_setField_rec hz₇ (by simp) fun h₈ hz₈ hs₈=>?_
 replace hz₈:xE h₈ z TI TO (rawInt h₅.objs.size) false:=hz₈
 have up:∀ c o,c≠z->h₅.get? c=some o->h₈.get? c=some o:=fun c o c1 e=>hs₈.extBut _ _ c1 (hs₇.extBut _ _ c1 (Heap.get?_push_of_some _ e))
 have hT₈:IsPair h₈ h₅.objs.size x y:=hs₈.extBut _ _ (Nat.ne_of_gt hzlt) (hs₇.extBut _ _ (Nat.ne_of_gt hzlt) (Heap.get?_push_size _ rfl))
 have fin:ZlS z TI TO i1 i2 St1 St2 (k+1) h₈:=⟨_,_,x,y,hz₈,.inr ⟨_,_,rfl,hT₈,Nat.ne_of_gt hzlt,Nat.ne_of_gt hTOlt,Nat.ne_of_gt hi1lt,Nat.ne_of_gt hi2lt⟩,up _ _ D.TIz (hk₅ _ _ D.TIz D.TITO D.TIi1 D.TIi2 hTI),up _ _ D.TOz hTO₅,
  D1.frame _ _ _ h1₅ fun c hc o e=>up _ _ (fun q=>D.z1 (q ▸ hc)) e,D2.frame _ _ _ h2₅ fun c hc o e=>up _ _ (fun q=>D.z2 (q ▸ hc)) e⟩
 refine wpAny_pure ⟨_,rfl,?_⟩
 show Q (.ref h₅.objs.size) _
 rw [hsz] at hT₈ ⊢
 exact hQ x y h₈ tk' hx hy hT₈ fin fun c o c1 c2 c3 c4 e=>up c o c1 (hk₅ c o c1 c2 c3 c4 e)
theorem Z8 {f1:Bool}{t:Addr}{o0:Obj}{Q:Bool->Shared->Prop}(hz:xE s.heap z TI TO (rawInt (t:Nat)) f1) (ht:s.heap.get? t=some o0)
  (h:∀ h₁,xE h₁ z TI TO (rawInt (t:Nat)) true->(∀ c o,c≠z->s.heap.get? c=some o->h₁.get? c=some o)->h₁.objs.size=s.heap.objs.size->Q false { s with heap:=h₁ }) :
  wpAny (model prog w) A (Builtin.SmallTypes.ownedTupleIsFree (.ref z)) Q E s:=by
 unfold Builtin.SmallTypes.ownedTupleIsFree
 refine wpAny_bind (wpAny_field hz rfl (x:=rawInt (t:Nat)) rfl ?_)
 show wpAny _ _ (loadIfAlive ((t:Int).toNat) >>= _) _ _ _
 rw [Int.toNat_natCast]
 refine wpAny_bind (k9 ?_)
 rw [ht,if_neg (by simp)]
 refine wpAny_bind (wpAny_field hz rfl (x:=.bool f1) rfl ?_)
 cases f1 with
 |true=>
  rw [if_neg (by decide)]
  exact wpAny_pure (h s.heap hz (fun _ _ _ e=>e) rfl)
 |false=>
  rw [if_pos (by decide)]
  refine wpAny_bind (wpAny_setField_rec hz (by simp) fun h₁ hz₁ hs₁=>wpAny_pure (h h₁ hz₁ (fun c o hc e=>hs₁.extBut _ _ hc e) hs₁.1))
theorem V0 {k:Nat}{a b:Value}{f1:Bool}{t:Addr}{o0:Obj}{Q:Value->Shared->Prop}(D:ZlApart z TI TO i1 i2 fp1 fp2) (D1:Draws prog w A i1 fp1 n1 P1 St1) (D2:Draws prog w A i2 fp2 n2 P2 St2)
  (hz:xE s.heap z TI TO (rawInt (t:Nat)) f1) (ht:s.heap.get? t=some o0) (tz:t≠z) (tO:t≠TO) (t1:t≠i1) (t2:t≠i2) (hTI:IsPair s.heap TI (.ref i1) (.ref i2)) (hTO:IsPair s.heap TO a b) (h1:St1 k s.heap) (h2:St2 k s.heap) (k1:k < n1) (k2:k < n2)
  (hQ:∀ x y h' tk,P1 k x->P2 k y->IsPair h' s.heap.objs.size x y->ZlS z TI TO i1 i2 St1 St2 (k+1) h'->(∀ c o,c≠z->c≠TO->c≠i1->c≠i2->s.heap.get? c=some o->h'.get? c=some o)->Q (.ref s.heap.objs.size) { s with heap:=h',toks:=tk }) :
  wpAny (model prog w) A (Builtin.«zip.__next__» ⟨[.ref z],[]⟩) (fun fin s'=>∃ v,fin=.done (.ret v)/\Q v s') E s:=by
 show wpAny _ _ (field (.ref z) 2 >>= _) _ _ _
 refine wpAny_bind (wpAny_field hz rfl (x:=.bool false) rfl ?_)
 show wpAny _ _ (field (.ref z) 3 >>= _) _ _ _
 refine wpAny_bind (wpAny_field hz rfl (x:=.ref TI) rfl ?_)
 refine wpAny_bind (wpAny_seqItems hTI rfl ?_)
 show wpAny _ _ (Builtin.SmallTypes.ownedTupleIsFree (.ref z) >>= _) _ _ _
 refine wpAny_bind (Z8 hz ht fun h₁ hz₁ hk₁ hsz₁=>?_)
 rw [if_neg (by decide)]
 refine wpAny_bind ?_
 rw [<- Array.forIn_toList]
 simp only [List.forIn_cons,List.forIn_nil]
 refine wpAny_bind (wpAny_bind (wpAny_holding ?_))
 show wpAny _ _ (Builtin.SmallTypes.nextOf (.ref i1) >>= _) _ _ _
 refine wpAny_bind (D1.item k _ _ _ k1 (D1.frame k _ _ h1 fun c hc o e=>hk₁ _ _ (fun q=>D.z1 (q ▸ hc)) e) fun x h₂ tk hx h1₂ hs₂=>wpAny_pure ?_)
 replace hs₂:Heap.SameBut i1 h₁ h₂:=hs₂
 refine wpAny_pure ?_
 refine wpAny_bind (wpAny_bind (wpAny_holding ?_))
 show wpAny _ _ (Builtin.SmallTypes.nextOf (.ref i2) >>= _) _ _ _
 refine wpAny_bind (D2.item k _ _ _ k2 (D2.frame k _ _ h2 fun c hc o e=>hs₂.extBut _ _ (fun q=>D.i1f (q ▸ hc)) (hk₁ _ _ (fun q=>D.z2 (q ▸ hc)) e)) fun y h₃ tk' hy h2₃ hs₃=>wpAny_pure ?_)
 replace hs₃:Heap.SameBut i2 h₂ h₃:=hs₃
 refine wpAny_pure (wpAny_pure ?_)
 refine wpAny_bind (wpAny_newTuple (hsz:=by show (2:Nat)≤2 ^ 24;decide) ?_)
 have hsz:h₃.objs.size=s.heap.objs.size:=by rw [hs₃.1,hs₂.1,hsz₁]
 have up:∀ c o,c≠z->c≠i1->c≠i2->s.heap.get? c=some o->(h₃.push { cls:=.type "tuple",data:=.seq #[x,y] }).get? c=some o:=fun c o c1 c2 c3 e=>Heap.get?_push_of_some _ (hs₃.extBut _ _ c3 (hs₂.extBut _ _ c2 (hk₁ _ _ c1 e)))
 have hz₃:xE (h₃.push { cls:=.type "tuple",data:=.seq #[x,y] }) z TI TO (rawInt (t:Nat)) true:=Heap.get?_push_of_some _ (hs₃.extBut _ _ D.i2z.symm (hs₂.extBut _ _ D.i1z.symm hz₁))
 have fin:ZlS z TI TO i1 i2 St1 St2 (k+1) (h₃.push { cls:=.type "tuple",data:=.seq #[x,y] }):=⟨_,_,a,b,hz₃,.inr ⟨t,o0,rfl,up _ _ tz t1 t2 ht,tz,tO,t1,t2⟩,up _ _ D.TIz D.TIi1 D.TIi2 hTI,up _ _ D.TOz D.TOi1 D.TOi2 hTO,
  D1.frame _ _ _ h1₂ fun c hc o e=>Heap.get?_push_of_some _ (hs₃.extBut _ _ (fun q=>D.i2f (q ▸ hc)) e),D2.frame _ _ _ h2₃ fun c hc o e=>Heap.get?_push_of_some _ e⟩
 have hT:IsPair (h₃.push { cls:=.type "tuple",data:=.seq #[x,y] }) h₃.objs.size x y:=Heap.get?_push_size _ rfl
 refine wpAny_pure ⟨_,rfl,?_⟩
 show Q (.ref h₃.objs.size) _
 rw [hsz] at hT ⊢
 exact hQ x y _ tk' hx hy hT fin fun c o c1 c2 c3 c4 e=>up c o c1 c3 c4 e
theorem V1 {k:Nat}{a b:Value}{Q:Fin->Shared->Prop}(D:ZlApart z TI TO i1 i2 fp1 fp2) (D1:Draws prog w A i1 fp1 n1 P1 St1) (D2:Draws prog w A i2 fp2 n2 P2 St2)
  (hz:xE s.heap z TI TO .none false) (hTI:IsPair s.heap TI (.ref i1) (.ref i2)) (hTO:IsPair s.heap TO a b) (h1:St1 k s.heap) (h2:St2 k s.heap) (hend:k=n1\/(k < n1/\k=n2))
  (hE:∀ h' e tk,(∀ c o,c≠z->c≠TO->c≠i1->c≠i2->s.heap.get? c=some o->h'.get? c=some o)->(∃ o,h'.get? e=some o/\o.cls=.type "StopIteration")->E (.ref e) { s with heap:=h',toks:=tk }) :
  wpAny (model prog w) A (Builtin.«zip.__next__» ⟨[.ref z],[]⟩) Q E s:=by
 show wpAny _ _ (field (.ref z) 2 >>= _) _ _ _
 refine wpAny_bind (wpAny_field hz rfl (x:=.bool false) rfl ?_)
 show wpAny _ _ (field (.ref z) 3 >>= _) _ _ _
 refine wpAny_bind (wpAny_field hz rfl (x:=.ref TI) rfl ?_)
 refine wpAny_bind (wpAny_seqItems hTI rfl ?_)
 show wpAny _ _ (Builtin.SmallTypes.ownedTupleIsFree (.ref z) >>= _) _ _ _
 refine wpAny_bind ?_
 unfold Builtin.SmallTypes.ownedTupleIsFree
 refine wpAny_bind (wpAny_field hz rfl (x:=.none) rfl (wpAny_pure ?_))
 simp only [if_true]
 refine wpAny_bind (wpAny_rule ?_)
 refine wpAny_bind (wpAny_field hz rfl (x:=.ref TO) rfl ?_)
 refine wpAny_bind (wpAny_setField_rec hz (by simp) fun h₁ hz₁ hs₁=>?_)
 replace hz₁:xE h₁ z TI TO .ellipsis false:=hz₁
 refine wpAny_bind ?_
 simp only [List.zipIdx_cons,List.zipIdx_nil,List.forIn_cons,List.forIn_nil]
 refine wpAny_bind (wpAny_bind (wpAny_onRaise ?_))
 show wpAny _ _ (Builtin.SmallTypes.nextOf (.ref i1) >>= _) _ _ _
 have g1:St1 k h₁:=D1.frame k _ _ h1 fun c hc o e=>hs₁.extBut _ _ (fun q=>D.z1 (q ▸ hc)) e
 rcases hend with rfl | ⟨k1,rfl⟩
 ·refine wpAny_bind (D1.done _ _ _ g1 fun h₂ e hs₂ he=>?_)
  obtain⟨oe,hoe,hce⟩:=he
  have hz₂:xE h₂ z TI TO .ellipsis false:=hs₂ _ _ D.i1z.symm hz₁
  have hez:e≠z:=fun x=>by subst x;rw [hz₂] at hoe;cases hoe;simp at hce
  refine wpAny_setField_rec hz₂ (by simp) fun h₃ _ hs₃=>hE h₃ e s.toks (fun c o c1 _ c3 _ x=>hs₃.extBut _ _ c1 (hs₂ _ _ c3 (hs₁.extBut _ _ c1 x))) ⟨oe,hs₃.extBut _ _ hez hoe,hce⟩
 ·refine wpAny_bind (D1.item k _ _ _ k1 g1 fun x h₂ tk hx h1₂ hs₂=>wpAny_pure ?_)
  replace hs₂:Heap.SameBut i1 h₁ h₂:=hs₂
  have hTO₂:IsPair h₂ TO a b:=hs₂.extBut _ _ D.TOi1 (hs₁.extBut _ _ D.TOz hTO)
  refine wpAny_bind (wpAny_seqItems hTO₂ rfl ?_)
  refine wpAny_bind (wpAny_updateSeq_pair hTO₂ fun h₃ hTO₃ hs₃=>?_)
  refine wpAny_bind (wpAny_letGo (wpAny_pure ?_))
  refine wpAny_bind (wpAny_bind (wpAny_onRaise ?_))
  show wpAny _ _ (Builtin.SmallTypes.nextOf (.ref i2) >>= _) _ _ _
  refine wpAny_bind (D2.done _ _ _ (D2.frame k _ _ h2 fun c hc o e=>hs₃.extBut _ _ (fun q=>D.o2 (q ▸ hc)) (hs₂.extBut _ _ (fun q=>D.i1f (q ▸ hc)) (hs₁.extBut _ _ (fun q=>D.z2 (q ▸ hc)) e))) fun h₄ e hs₄ he=>?_)
  obtain⟨oe,hoe,hce⟩:=he
  have hz₄:xE h₄ z TI TO .ellipsis false:=hs₄ _ _ D.i2z.symm (hs₃.extBut _ _ D.TOz.symm (hs₂.extBut _ _ D.i1z.symm hz₁))
  have hez:e≠z:=fun x=>by subst x;rw [hz₄] at hoe;cases hoe;simp at hce
  refine wpAny_setField_rec hz₄ (by simp) fun h₅ _ hs₅=>hE h₅ e tk (fun c o c1 c2 c3 c4 x=>hs₅.extBut _ _ c1 (hs₄ _ _ c4 (hs₃.extBut _ _ c2 (hs₂.extBut _ _ c3 (hs₁.extBut _ _ c1 x))))) ⟨oe,hs₅.extBut _ _ hez hoe,hce⟩
theorem QQ {k:Nat}{f1:Bool}{t:Addr}{o0:Obj}{Q:Fin->Shared->Prop}(D:ZlApart z TI TO i1 i2 fp1 fp2) (D1:Draws prog w A i1 fp1 n1 P1 St1) (D2:Draws prog w A i2 fp2 n2 P2 St2)
  (hz:xE s.heap z TI TO (rawInt (t:Nat)) f1) (ht:s.heap.get? t=some o0) (hTI:IsPair s.heap TI (.ref i1) (.ref i2)) (h1:St1 k s.heap) (h2:St2 k s.heap) (hend:k=n1\/(k < n1/\k=n2))
  (hE:∀ h' e tk,(∀ c o,c≠z->c≠TO->c≠i1->c≠i2->s.heap.get? c=some o->h'.get? c=some o)->(∃ o,h'.get? e=some o/\o.cls=.type "StopIteration")->E (.ref e) { s with heap:=h',toks:=tk }) :
  wpAny (model prog w) A (Builtin.«zip.__next__» ⟨[.ref z],[]⟩) Q E s:=by
 show wpAny _ _ (field (.ref z) 2 >>= _) _ _ _
 refine wpAny_bind (wpAny_field hz rfl (x:=.bool false) rfl ?_)
 show wpAny _ _ (field (.ref z) 3 >>= _) _ _ _
 refine wpAny_bind (wpAny_field hz rfl (x:=.ref TI) rfl ?_)
 refine wpAny_bind (wpAny_seqItems hTI rfl ?_)
 show wpAny _ _ (Builtin.SmallTypes.ownedTupleIsFree (.ref z) >>= _) _ _ _
 refine wpAny_bind (Z8 hz ht fun h₁ hz₁ hk₁ hsz₁=>?_)
 rw [if_neg (by decide)]
 refine wpAny_bind ?_
 rw [<- Array.forIn_toList]
 simp only [List.forIn_cons,List.forIn_nil]
 refine wpAny_bind (wpAny_bind (wpAny_holding ?_))
 show wpAny _ _ (Builtin.SmallTypes.nextOf (.ref i1) >>= _) _ _ _
 have g1:St1 k h₁:=D1.frame k _ _ h1 fun c hc o e=>hk₁ _ _ (fun q=>D.z1 (q ▸ hc)) e
 rcases hend with rfl | ⟨k1,rfl⟩
 ·refine wpAny_bind (D1.done _ _ _ g1 fun h₂ e hs₂ he=>?_)
  exact hE h₂ e s.toks (fun c o c1 _ c3 _ x=>hs₂ _ _ c3 (hk₁ _ _ c1 x)) he
 ·refine wpAny_bind (D1.item k _ _ _ k1 g1 fun x h₂ tk hx h1₂ hs₂=>wpAny_pure ?_)
  replace hs₂:Heap.SameBut i1 h₁ h₂:=hs₂
  refine wpAny_pure ?_
  refine wpAny_bind (wpAny_bind (wpAny_holding ?_))
  show wpAny _ _ (Builtin.SmallTypes.nextOf (.ref i2) >>= _) _ _ _
  refine wpAny_bind (D2.done _ _ _ (D2.frame k _ _ h2 fun c hc o e=>hs₂.extBut _ _ (fun q=>D.i1f (q ▸ hc)) (hk₁ _ _ (fun q=>D.z2 (q ▸ hc)) e)) fun h₄ e hs₄ he=>?_)
  exact hE h₄ e tk (fun c o c1 _ c3 c4 x=>hs₄ _ _ c4 (hs₂.extBut _ _ c3 (hk₁ _ _ c1 x))) he
theorem zc2 {k:Nat}{Q:Option Value->Shared->Prop}(D:ZlApart z TI TO i1 i2 fp1 fp2) (D1:Draws prog w A.in1 i1 fp1 n1 P1 St1) (D2:Draws prog w A.in1 i2 fp2 n2 P2 St2) (hS:ZlS z TI TO i1 i2 St1 St2 k s.heap) (k1:k < n1) (k2:k < n2)
  (hQ:∀ x y h' tk,P1 k x->P2 k y->IsPair h' s.heap.objs.size x y->ZlS z TI TO i1 i2 St1 St2 (k+1) h'->(∀ c o,c≠z->c≠TO->c≠i1->c≠i2->s.heap.get? c=some o->h'.get? c=some o)->Q (some (.ref s.heap.objs.size)) { s with heap:=h',toks:=tk }) :
  wpAny (model prog w) A (pyNext (.ref z)) Q E s:=by
 obtain⟨f0,f1,a,b,hz,hf,hTI,hTO,h1,h2⟩:=hS
 have hT:s.TypeIs (.ref z) "zip":=⟨_,hz,rfl⟩
 unfold pyNext
 refine wpAny_bind (wpAny_attempt (wpAny_callSpecial?_slot (name:=Str.ofString "__next__") hT F.slot_zip_next (wpAny_call_entry F.slot_zip_next hT F.entry_zip_next ?_ (F.args_zip_next_1 _))))
 rcases hf with⟨rfl,rfl⟩ | ⟨t,o0,rfl,ht,tz,tO,t1,t2⟩
 ·exact Ve D D1 D2 hz hTI hTO h1 h2 k1 k2 fun x y h' tk a1 a2 a3 a4 a5=>wpAny_pure (hQ x y h' tk a1 a2 a3 a4 a5)
 ·exact V0 D D1 D2 hz ht tz tO t1 t2 hTI hTO h1 h2 k1 k2 fun x y h' tk a1 a2 a3 a4 a5=>wpAny_pure (hQ x y h' tk a1 a2 a3 a4 a5)
theorem ze0 {k:Nat}{Q:Option Value->Shared->Prop}(D:ZlApart z TI TO i1 i2 fp1 fp2) (D1:Draws prog w A.in1 i1 fp1 n1 P1 St1) (D2:Draws prog w A.in1 i2 fp2 n2 P2 St2) (hS:ZlS z TI TO i1 i2 St1 St2 k s.heap) (hend:k=n1\/(k < n1/\k=n2))
    (hQ:∀ h' tk,(∀ c o,c≠z->c≠TO->c≠i1->c≠i2->s.heap.get? c=some o->h'.get? c=some o)->Q none { s with heap:=h',toks:=tk }) :
    wpAny (model prog w) A (pyNext (.ref z)) Q E s:=by
  obtain⟨f0,f1,a,b,hz,hf,hTI,hTO,h1,h2⟩:=hS
  have hT:s.TypeIs (.ref z) "zip":=⟨_,hz,rfl⟩
  have fin:∀ h' e tk,(∀ c o,c≠z->c≠TO->c≠i1->c≠i2->s.heap.get? c=some o->h'.get? c=some o)->(∃ o,h'.get? e=some o/\o.cls=.type "StopIteration")->wpAny (model prog w) A (do
      if (<- isInstance (.ref e) (.type "StopIteration"))=true then pure none else throw (.ref e)) Q E { s with heap:=h',toks:=tk }:=by
    intro h' e tk hk ⟨o,ho,hc⟩
    refine wpAny_bind (wpAny_isInstance (T:="StopIteration") (b:=true) ⟨o,ho,hc⟩ isSubtype_stop ?_)
    exact wpAny_pure (hQ _ _ hk)
  unfold pyNext
  refine wpAny_bind (wpAny_attempt (wpAny_callSpecial?_slot (name:=Str.ofString "__next__") hT F.slot_zip_next (wpAny_call_entry F.slot_zip_next hT F.entry_zip_next ?_ (F.args_zip_next_1 _))))
  rcases hf with⟨rfl,rfl⟩ | ⟨t,o0,rfl,ht,tz,tO,t1,t2⟩
  · exact V1 D D1 D2 hz hTI hTO h1 h2 hend fin
  · exact QQ D D1 D2 hz ht hTI h1 h2 hend fin
end
section
variable {prog:Program}{w:World}{A:Around}{E:Value->Shared->Prop}{s:Shared}
end
end PySem
namespace L2
open PySem PySem.Spec PyProof.Rows
section
variable {X:Cx}
end
section
variable {X:Cx}{K:W.Frag}
end
section
variable {X:Cx}{K:W.Frag}
end
section
variable {K:W.Frag}
end
section
variable {K:W.Frag}
theorem Zw {Z:Hp}{ds:List PyData}{vs:List V}(h:Reps K Z ds vs):∀ n,Reps K Z (List.replicate n ds).flatten (List.replicate n vs).flatten
 | 0=>rfl
 |n+1=>by
  rw [List.replicate_succ,List.replicate_succ,List.flatten_cons,List.flatten_cons]
  exact Zs h (Zw h n)
end
noncomputable abbrev Rw6:=List Cel
def zgI (c:Cel):Prop:=∃ k,32≤k/\k≤126/\c.1=⟨#[k]⟩
def okR (r:Rw6):Prop:=∀ c∈r,zgI c
noncomputable abbrev T3:=Nat×Nat×Int
noncomputable def Cov (f:Nat->Int):Nat->List T3->Nat->Prop
 |a,[],b=>a=b
 |a,t :: l,b=>t.1=a/\t.1 < t.2.1/\(∀ j,t.1≤j->j < t.2.1->f j=t.2.2)/\Cov f t.2.1 l b
theorem Cov.le {f:Nat->Int}:∀ {l:List T3}{a b:Nat},Cov f a l b->a+l.length≤b
 |[],a,b,h=>by cases h;exact Nat.le_refl _
 |t :: l,a,b,⟨h1,h2,h3,h4⟩=>by have:=h4.le;simp only [List.length_cons];omega
theorem Cov.mem {f:Nat->Int}:∀ {l:List T3}{a b:Nat},Cov f a l b->∀ t∈l,a≤t.1/\t.1 < t.2.1/\t.2.1≤b/\∀ j,t.1≤j->j < t.2.1->f j=t.2.2
 |t :: l,a,b,⟨h1,h2,h3,h4⟩,u,hu=>by
  have:=h4.le
  rcases List.mem_cons.mp hu with rfl |hu
  ·exact⟨by omega,h2,by omega,h3⟩
  ·obtain⟨q1,q2,q3,q4⟩:=h4.mem u hu
   exact⟨by omega,q2,q3,q4⟩
structure OwnAt (O:OM) (d q:Addr) (S:ST):Prop where
 d:O d=some (.dK (ownW q S))
 q:O q=some (.grid (genG S.h S.w S.pic))
def PicOk (S:ST):Prop:=∀ i j,i < S.h->j < S.w->okC (S.pic i j)
def InWin (S:ST):Prop:=S.home=true->S.top≤S.row/\S.row≤S.bottom/\S.left≤S.col/\S.col≤S.right
section
variable {O O':OM}{d q:Addr}{S:ST}
theorem OwnAt.dq (s:OwnAt O d q S):d≠q:=neW s.d s.q (by intro h;cases h)
theorem OwnAt.fld (s:OwnAt O d q S) {S':ST}(hw:S'.w=S.w) (hh:S'.h=S.h) (hp:S'.pic=S.pic):OwnAt (updO O d (.dK (ownW q S'))) d q S':=
 ⟨zc,by rw [ze (Ne.symm s.dq),hw,hh,hp];exact s.q⟩
theorem OwnAt.pic (s:OwnAt O d q S) {f:PF}:OwnAt (updO O q (.grid (genG S.h S.w f))) d q { S with pic:=f }:=
 ⟨by rw [ze s.dq];exact s.d,zc⟩
theorem OwnAt.keep (s:OwnAt O d q S) {y z:Addr}(b:But O O' y z) (h1:d≠y) (h2:d≠z) (h3:q≠y) (h4:q≠z):OwnAt O' d q S:=
 ⟨by rw [b _ h1 h2];exact s.d,by rw [b _ h3 h4];exact s.q⟩
end
structure Both (O:OM) (C x dx p st kp d q:Addr) (S S':ST):Prop where
 s:StAt O C x dx p st kp S
 o:OwnAt O d q S'
 ds:d≠st
 pq:p≠q
section
variable {O O':OM}{C x dx p st kp d q:Addr}{S S' S1:ST}
theorem Both.dx' (b:Both O C x dx p st kp d q S S'):d≠x:=neW b.o.d b.s.x (by intro h;cases h)
theorem Both.dp (b:Both O C x dx p st kp d q S S'):d≠p:=neW b.o.d b.s.p (by intro h;cases h)
theorem Both.dk (b:Both O C x dx p st kp d q S S'):d≠kp:=neW b.o.d b.s.kp (by intro h;cases h)
theorem Both.qx (b:Both O C x dx p st kp d q S S'):q≠x:=neW b.o.q b.s.x (by intro h;cases h)
theorem Both.qs (b:Both O C x dx p st kp d q S S'):q≠st:=neW b.o.q b.s.st (by intro h;cases h)
theorem Both.st' (b:Both O C x dx p st kp d q S S') (h:StAt O' C x dx p st kp S1) (k:But O O' x p):Both O' C x dx p st kp d q S1 S':=
 ⟨h,b.o.keep k b.dx' b.dp b.qx (Ne.symm b.pq),b.ds,b.pq⟩
end
def zfW (S:ST):Prop:=PicOk S/\SeqAt.shaped S.last=true/\PyData.eqv S.last S.last=true
structure Drawn (S:ST):Prop where
 b:Bds S
 ok:PicOk S
 win:InWin S
 last:S.last=.none\/∃ c,S.last=.str c/\S.pic S.row.toNat S.col.toNat=(c,S.ink)
 late:S.late=true->S.col=eR S/\S.last≠.none
theorem ze1 {c:Str}(h:PyData.strOk c=true):SeqAt.shaped (.str c)=true/\PyData.eqv (.str c) (.str c)=true:=
 ⟨by simp [SeqAt.shaped,PyData.canLay0,PyData.depth,h],by simp [PyData.eqv]⟩
theorem Drawn.all {S:ST}(h:Drawn S):zfW S:=by
 refine⟨h.ok,?_⟩
 rcases h.last with e | ⟨c,e,e2⟩
 ·rw [e];exact⟨rfl,rfl⟩
 ·have h0:=h.ok S.row.toNat S.col.toNat (by have:=h.b.r0;have:=h.b.r1;omega) (by have:=h.b.c0;have:=h.b.c1;omega)
  rw [e2] at h0
  rw [e]
  exact ze1 h0
end L2
namespace L2
end L2
namespace L2
open PySem PySem.Spec PyProof.Rows
def Old (O O':OM):Prop:=∀ b,O b≠none->O' b=O b
theorem Old.refl {O:OM}:Old O O:=fun _ _=>rfl
theorem Old.upd {O O':OM}{a:Addr}{o:OO}(h:Old O O') (ha:O a=none):Old O (updO O' a o):=fun b hb=>by
 rw [ze (fun e=>by rw [e] at hb;exact hb ha)];exact h b hb
theorem Old.new {O O':OM}{a:Addr}(h:Old O O') (ha:O' a=none):O a=none:=by
 cases e:O a with
 |none=>rfl
 |some o=>rw [h a (by rw [e];simp)] at ha;rw [ha] at e;cases e
section
variable {q:Addr}{S:ST}{a b:Int}{u:Bool}{l:PyData}
end
theorem PicOk.set {S:ST}{i j:Nat}{c:Str}{k:Int}(h:PicOk S) (hc:PyData.strOk c=true):PicOk { S with pic:=setF S.pic i j (c,k) }:=by
 intro x y hx hy
 show okC (setF S.pic i j (c,k) x y)
 unfold setF
 split
 ·exact hc
 ·exact h x y hx hy
def sLaw:SpW:=fun ws O R=>∃ ns:List Int,ws=[.d (.list (ns.map .int))]/\(∀ n∈ns,Bt 1048580 n)/\ns.length≤63/\∀ O',R (.d (.bool true)) O'
theorem Old.del {O O':OM}{a:Addr}(h:Old O O') (ha:O a=none):Old O (L2.del O' a):=fun b hb=>by
 rw [vk (O:=O') (fun e=>hb (by rw [e];exact ha))]
 exact h b hb
noncomputable def sp2 (t:T3):PyData:=.tuple [.int t.1,.int t.2.1]
theorem V2 {ds:List PyData}(h1:PyData.canLayAll0 ds=true) (h2:PyData.depthAll ds≤60):SeqAt.shaped (.list ds)=true:=by
 have h3:PyData.depth (.list ds)≤64:=by simp only [PyData.depth];omega
 have h4:PyData.canLay0 (.list ds)=true:=by simp only [PyData.canLay0];exact h1
 unfold SeqAt.shaped
 rw [h4,decide_eq_true h3]
 rfl
theorem QR {α:Type}{g:α->PyData}{l:List α}(h:∀ a∈l,PyData.canLay0 (g a)=true/\PyData.depth (g a)≤50):PyData.canLayAll0 (l.map g)=true/\PyData.depthAll (l.map g)≤50:=by
 induction l with
 |nil=>exact⟨rfl,Nat.zero_le _⟩
 |cons a l ih=>
  obtain⟨h1,h2⟩:=ih fun x hx=>h x (List.mem_cons_of_mem _ hx)
  obtain⟨q1,q2⟩:=h a List.mem_cons_self
  refine⟨?_,?_⟩
  ·simp only [List.map_cons,PyData.canLayAll0,q1,h1,Bool.and_self]
  ·simp only [List.map_cons,PyData.depthAll]
   omega
theorem QS {α:Type}{g:α->PyData}{l:List α}(h:∀ a∈l,PyData.canLay0 (g a)=true/\PyData.depth (g a)≤50):SeqAt.shaped (.list (l.map g))=true:=by
 obtain⟨h1,h2⟩:=QR h
 exact V2 h1 (by omega)
section
variable {X:Cx}{K:W.Frag}
end
section
variable {X:Cx}{K:W.Frag}
end
section
variable {X:Cx}{k:Nat}{sp:Sp}{C:Addr}{x:Str}{p pos:Pos}
end
noncomputable abbrev sgS (c:Nat):Str:=⟨#[c]⟩
noncomputable abbrev sgW (c:Nat):W:=.d (.str (sgS c))
def zbZ (c:Nat):Prop:=(97≤c/\c≤122)\/(65≤c/\c≤90)
def zb0 (c:Nat):Prop:=48≤c/\c≤57
instance (c:Nat):Decidable (zbZ c):=by unfold zbZ;infer_instance
instance (c:Nat):Decidable (zb0 c):=by unfold zb0;infer_instance
structure RdAt (C:Addr) (O:OM) (x dx p:Addr) (b:List Nat):Prop where
 x:O x=some (.ins C dx [(Str.ofString "begun",.own p)])
 p:O p=some (.lst (b.map sgW))
theorem RdAt.ne {C:Addr}{O:OM}{x dx p:Addr}{b:List Nat}(h:RdAt C O x dx p b):x≠p:=fun e=>by
 have:=h.x;rw [e,h.p] at this;cases this
section
variable {K:W.Frag}
def ze2 (wi:TI) (n:Nat) (js:List Nat) (g:TG) (tt:TT) (te:TE):TE:=tLc wi n js g tt te
section
variable {X:Cx}{N:List Str}{n:Nat}{js:List Nat}{scope:Scope}{cl:List (Str×Addr)}{elt tg iter:Expr}{ifs:List Expr}{pos:Pos}{wi:TI}{g:TG}{tt:TT}{te:TE}
theorem Ki {i:Nat}{x:Str}{pos' spos:Pos}(hN:X.N.Nodup) (hx:X.N[i]? =some x) (hk:X.env.scope.names.lookup x=some .local) (L:LcOk X N n js scope cl) (hc:X.calm=true) (hi:PI X tg iter wi)
  (hg:∀ C s0 H0 fp0,PG (xh X N scope cl C s0 H0 fp0) tg g) (ht:∀ C s0 H0 fp0,PTs (xh X N scope cl C s0 H0 fp0) ifs tt) (he:∀ C s0 H0 fp0,PE (xh X N scope cl C s0 H0 fp0) elt te)
  (hsw:swapsWith (.ListComp elt [⟨tg,iter,ifs,0⟩] scope pos) (some (.Name x pos')) spos.line X.env=pure true:=by rfl)
  (hs:∀ x,foldedSetIterable iter X.env x=pure x:=by intro _;rfl):PS X (.Assign [.Name x pos'] (.ListComp elt [⟨tg,iter,ifs,0⟩] scope pos) spos) (Yo (ze2 wi n js g tt te) (jo i)):=XL hN hx hk L hc hi hg ht he hsw hs
end
def ze3 (Wi:TIW) (n:Nat) (js:List Nat) (G:TGW) (T:TTW) (E:TEW):TEW:=fun ρ O R=>Wi ρ O fun ws keep O1=>keep O1/\ws.length≤1000000/\∃ Pd:PyData->Prop,
 (∀ w∈ws,∀ us:WS,us.length=n->Z3 G T E n (xc js ρ) w (us ++ xc js ρ) O1 fun y O2=>O2=O1/\∃ d,y=some (.d d)/\Pd d)/\∀ ds:List PyData,ds.length=ws.length->(∀ d∈ds,Pd d)->R (.d (.list ds)) O1
theorem zc3 {wi:TI}{Wi:TIW}{n:Nat}{js:List Nat}{g:TG}{G:TGW}{tt:TT}{T:TTW}{te:TE}{E:TEW}(hi:uJ K wi Wi) (hg:RefG K g G) (ht:x8 K tt T) (he:RefE K te E):RefE K (ze2 wi n js g tt te) (ze3 Wi n js G T E):=by
 intro Γ O H ρ σ S r Q R hT k
 refine hi _ _ _ _ _ S r _ _ hT fun Γ1 O1 H1 J ws keep l1 S1 ok h1=>?_
 obtain⟨hk,hlen,Pd,hF,hR⟩:=h1
 intro D hD
 have hFD:Γ1.F D=none:=S1.f.free hD
 have r1:=qu (r.mono l1) n js
 refine⟨fun i m σ' H'=>i≤ws.length/\m=ws.length - i/\∃ Γ' ρ' vs,Same Γ1.Z Γ'.Z/\(∀ a rs,Γ1.G a=some rs->∃ more,Γ'.G a=some (rs ++ more))/\Γ'.F=upd Γ1.F D (.lst vs)/\Sim K Γ' O1 H'/\relR K Γ' ρ' σ'/\
  ρ'.length=n+(xc js ρ).length/\ρ'.drop n=xc js ρ/\∃ ds,ds.length=i/\(∀ d∈ds,Pd d)/\Reps K Γ'.Z ds vs,⟨_,Nat.zero_le _,rfl,_,_,[],Same.refl _,fun a rs h=>⟨[],by rw [List.append_nil];exact h⟩,rfl,S1.frameNew hD (.lst []),r1.setF,by simp,by simp,[],rfl,fun d h=>(by cases h),rfl⟩,?_⟩
 rintro i m σ' H' ⟨hi,rfl,Γ',ρ',vs,z',g',f',S',r',n1,n2,ds,hdl,hdp,rp⟩
 obtain⟨ok1,ok2⟩:=ok i Γ' O1 H' z' g' S' hk
 have hvl:vs.length≤i:=by
  rw [<- Reps.length rp]
  omega
 by_cases hlt:i < ws.length
 ·obtain⟨go,y⟩:=ok1 _ (List.getElem?_eq_getElem hlt)
  refine .inr ⟨go,fun σ2 H2=>∃ Γ2 ρ2 vs2,Same Γ1.Z Γ2.Z/\(∀ a rs,Γ1.G a=some rs->∃ more,Γ2.G a=some (rs ++ more))/\Γ2.F=upd Γ1.F D (.lst vs2)/\Sim K Γ2 O1 H2/\relR K Γ2 ρ2 σ2/\
   ρ2.length=n+(xc js ρ).length/\ρ2.drop n=xc js ρ/\∃ ds,ds.length=i+1/\(∀ d∈ds,Pd d)/\Reps K Γ2.Z ds vs2,fun σ2 H2 h=>⟨ws.length - (i+1),by omega,hlt,rfl,h⟩,fun x H2 hy=>?_⟩
  obtain⟨Γ2,l2,S2,rx⟩:=y x H2 hy
  obtain⟨us,hus,rfl⟩:=ju n1 n2
  have et:ws.take (i+1)=ws.take i ++ [ws[i]]:=(List.take_append_getElem hlt).symm
  refine hg _ _ _ _ _ _ _ S2 (r'.mono l2) rx _ _ (hF _ (List.getElem_mem hlt) us hus) fun Γ3 O3 H3 ρ3 σ3 l3 S3 r3 h3=>?_
  obtain⟨⟨m1,m2⟩,h3⟩:=h3
  refine ht _ _ _ _ _ S3 r3 _ _ h3 fun Γ4 O4 H4 b l4 S4 h4=>?_
  have l24:=(l2.trans l3).trans l4
  have up:∀ Γ5,Le Γ' Γ5->Same Γ1.Z Γ5.Z/\(∀ a rs,Γ1.G a=some rs->∃ more,Γ5.G a=some (rs ++ more)):=fun Γ5 l=>⟨z'.trans l.z,fun a rs h=>by
   obtain⟨m,e⟩:=g' a rs h
   obtain⟨m2,e2⟩:=l.g a _ e
   exact⟨m ++ m2,by rw [<- List.append_assoc];exact e2⟩⟩
  cases b with
  |true=>
   rw [if_pos rfl] at h4 ⊢
   refine he _ _ _ _ _ S4 (r3.mono l4) _ _ h4 fun Γ5 O5 H5 w5 v5 l5 S5 r5 h5=>?_
   obtain⟨rfl,h5⟩:=h5
   have l25:=l24.trans l5
   obtain⟨d,hy5,hd⟩:=h5
   cases hy5
   have f5:Γ5.F=upd Γ1.F D (.lst vs):=by rw [l25.f,f']
   have fD:Γ5.F D=some (.lst vs):=by rw [f5,zC]
   refine⟨vs,S5.f _ _ fD,(by rw [sizeLine_eq];omega),?_⟩
   obtain⟨u1,u2⟩:=up Γ5 l25
   refine⟨⟨Γ5.Z,Γ5.G,upd Γ5.F D (.lst (vs ++ [v5]))⟩,ρ3,vs ++ [v5],u1,u2,?_,S5.framePut fD _,((r3.mono l4).mono l5).setF,m1,m2,ds ++ [d],?_,?_,?_⟩
   ·show upd Γ5.F D _=_
    rw [f5,Yl]
   ·simp [hdl]
   ·intro e he
    rcases List.mem_append.mp he with he |he
    ·exact hdp e he
    ·cases List.mem_singleton.mp he;exact hd
   ·exact Reps.snoc (Reps.same l25.z _ _ rp) r5
  |false=>
   rw [if_neg (by decide)] at h4
   obtain⟨_,d,h4,_⟩:=h4
   cases h4
 ·have hi2:i=ws.length:=by omega
  subst hi2
  refine .inl ⟨ok2 rfl,?_⟩
  obtain⟨q1,q2,q3⟩:=S'.unframe f' hFD rp
  exact k ⟨upd Γ'.Z D (.lst vs),Γ'.G,Γ1.F⟩ _ _ _ _ (l1.trans ⟨rfl,z'.trans q1,g'⟩) q2 q3 (hR ds hdl hdp)
end
theorem RdAt.old {C:Addr}{O O':OM}{x dx p:Addr}{b:List Nat}(r:RdAt C O x dx p b) (h:Old O O'):RdAt C O' x dx p b:=⟨by rw [h x (by rw [r.x];simp)];exact r.x,by rw [h p (by rw [r.p];simp)];exact r.p⟩
section
variable {X:Cx}{K:W.Frag}
noncomputable def frz (w:W) (O:OM):Option (PyData×OM):=match w with
 |.d x=>some (x,O)
 |.own a=>match O a with
  |some (.lst ws)=>(xq ws).map fun ds=>(.list ds,del O a)
  |_=>none
 |_=>none
noncomputable def frzs:List W->OM->Option (List PyData×OM)
 |[],O=>some ([],O)
 |w :: ws,O=>match frz w O with
  |some (d,O1)=>(frzs ws O1).map fun q=>(d :: q.1,q.2)
  |none=>none
end
structure Two (C:Addr) (O:OM) (xb db pb:Addr) (bb:List Nat) (xr dr pr:Addr) (br:List Nat):Prop where
 b:RdAt C O xb db pb bb
 r:RdAt C O xr dr pr br
 nx:xb≠xr
 np:pb≠pr
section
variable {C:Addr}{O O':OM}{xb db pb xr dr pr p' q:Addr}{bb br br' bb':List Nat}
theorem Two.xp (h:Two C O xb db pb bb xr dr pr br):xb≠pr/\xr≠pb:=⟨fun e=>(by have:=h.b.x;rw [e,h.r.p] at this;cases this),fun e=>(by have:=h.r.x;rw [e,h.b.p] at this;cases this)⟩
theorem Two.old (h:Two C O xb db pb bb xr dr pr br) (ho:Old O O'):Two C O' xb db pb bb xr dr pr br:=⟨h.b.old ho,h.r.old ho,h.nx,h.np⟩
def zb1 (q xb pb xr pr:Addr):Prop:=q≠xb/\q≠pb/\q≠xr/\q≠pr
theorem Two.apart (h:Two C O xb db pb bb xr dr pr br) (hq:O q=none):zb1 q xb pb xr pr:=
 ⟨fun e=>(by rw [e,h.b.x] at hq;cases hq),fun e=>(by rw [e,h.b.p] at hq;cases hq),fun e=>(by rw [e,h.r.x] at hq;cases hq),fun e=>(by rw [e,h.r.p] at hq;cases hq)⟩
theorem Two.upd (h:Two C O xb db pb bb xr dr pr br) (hq:zb1 q xb pb xr pr) (o:OO):Two C (updO O q o) xb db pb bb xr dr pr br:=by
 obtain⟨q1,q2,q3,q4⟩:=hq
 exact⟨⟨by rw [ze (Ne.symm q1)];exact h.b.x,by rw [ze (Ne.symm q2)];exact h.b.p⟩,⟨by rw [ze (Ne.symm q3)];exact h.r.x,by rw [ze (Ne.symm q4)];exact h.r.p⟩,h.nx,h.np⟩
end
section
variable {K:W.Frag}
section
variable {X:Cx}{N:List Str}{n:Nat}{js:List Nat}{scope:Scope}{cl:List (Str×Addr)}{elt tg iter:Expr}{ifs:List Expr}{pos:Pos}{wi:TI}{g:TG}{tt:TT}{te:TE}
end
def ze4 (K:W.Frag):V->Option Int->Option Int->Hp->VK->Prop:=Qp K
theorem ze5 {X:Cx}(h:X.K=K):SlR X (ze4 K):=qT h
theorem zc4 {Γ:Gh}{ws:List W}{vs:List V}(h:relWs K Γ ws vs) (lo hi:Option Int):relWs K Γ (vd ws lo hi) (jX vs lo hi):=by
 have hl:ws.length=vs.length:=Paired.length h
 have:=Paired.takeP (Paired.dropP h (HT.sIx vs.length 0 lo)) (HT.sIx vs.length vs.length hi - HT.sIx vs.length 0 lo)
 unfold vd jX
 rw [hl]
 exact this
def ze6 (Te:TEW) (Tl Th:TOW):TEW:=fun ρ O R=>Te ρ O fun x O1=>Tl ρ O1 fun l O2=>Th ρ O2 fun u O3=>∃ ws,yN O3 x=some ws/\∀ p,O3 p=none->R (.own p) (updO O3 p (.lst (vd ws l u)))
theorem zc5 {te:TE}{tl th:TO}{Te:TEW}{Tl Th:TOW}(he:RefE K te Te) (hl:kb K tl Tl) (hh:kb K th Th):RefE K (tSl (ze4 K) te tl th) (ze6 Te Tl Th):=by
 intro Γ O H ρ σ S r Q R hT k
 refine he _ _ _ _ _ S r _ _ hT fun Γ1 O1 H1 x v l1 S1 rx h1=>?_
 refine hl _ _ _ _ _ S1 (r.mono l1) _ _ h1 fun Γ2 O2 H2 l l2 S2 h2=>?_
 refine hh _ _ _ _ _ S2 (r.mono (l1.trans l2)) _ _ h2 fun Γ3 O3 H3 u l3 S3 h3=>?_
 obtain⟨ws,e1,h3⟩:=h3
 obtain⟨a,vs,rfl,q1,q2⟩:=xv S3 ((rx.mono l2).mono l3) e1
 refine⟨a,vs,rfl,q1,fun p hp=>?_⟩
 obtain⟨hO,S'⟩:=Yv S3 (zc4 q2 l u) hp
 exact k _ _ _ _ _ ((l1.trans l2).trans l3) S' xP (h3 p hO)
end
section
variable {P:Program}{w:World}{K:W.Frag}{mg:Str->Option Value}{base:Heap}
end
theorem Rd.but {H H':Hp}{x a:Addr}{u:HO}{C dx:Addr}{fs:List (Str×V)}(hx:H x=some (.ins C dx fs)) (hk:∀ b o,b≠x->H b=some o->H' b=some o) (hu:(∃ vs,u=.lst vs)\/(∃ vs,u=.tup vs)\/∃ kvs,u=.dK kvs) (r:Rd H a u):Rd H' a u:=by
 have ne:a≠x:=fun z=>by
  subst z
  rcases r with r | ⟨o,r⟩
  ·rw [hx] at r
   cases r
   rcases hu with⟨_,e⟩ | ⟨_,e⟩ | ⟨_,e⟩ <;> cases e
  ·rw [hx] at r;cases r
 rcases r with r | ⟨o,r⟩
 ·exact .inl (hk a _ ne r)
 ·exact .inr ⟨o,hk a _ ne r⟩
mutual
theorem Rep.but {K:W.Frag}{H H':Hp}{x:Addr}{C dx:Addr}{fs:List (Str×V)}(hx:H x=some (.ins C dx fs)) (hk:∀ b o,b≠x->H b=some o->H' b=some o):∀ (d:PyData) (v:V),Rep K H d v->Rep K H' d v
 |.none,_,h=>h
 |.bool _,_,h=>h
 |.int _,_,h=>h
 |.str _,_,h=>h
 |.list ds,_,⟨a,xs,e,h1,h2⟩=>⟨a,xs,e,h1.elim (fun r=>.inl (r.but hx hk (.inl ⟨_,rfl⟩))) .inr,Reps.but hx hk ds xs h2⟩
 |.tuple ds,_,⟨a,xs,e,h1,h2⟩=>⟨a,xs,e,h1.elim (fun r=>.inl (r.but hx hk (.inr (.inl ⟨_,rfl⟩)))) .inr,Reps.but hx hk ds xs h2⟩
 |.dict _,_,⟨e0,a,e,h1⟩=>⟨e0,a,e,h1.but hx hk (.inr (.inr ⟨_,rfl⟩))⟩
theorem Reps.but {K:W.Frag}{H H':Hp}{x:Addr}{C dx:Addr}{fs:List (Str×V)}(hx:H x=some (.ins C dx fs)) (hk:∀ b o,b≠x->H b=some o->H' b=some o):∀ (ds:List PyData) (vs:List V),Reps K H ds vs->Reps K H' ds vs
 |[],_,h=>h
 |d :: ds,_,⟨x',r,e,h1,h2⟩=>⟨x',r,e,Rep.but hx hk d x' h1,Reps.but hx hk ds r h2⟩
end
end L2
namespace PySem.AutoListH
open AutoSeq1 (wpAny_loadPart')
open MeetsSeq MeetsSeq2 MeetsSeq3 SeqRoads2
theorem list_mul_sl (l:Addr) (items:Array Value) (n:Nat) (sl:Array (Option Value)) (x:Int) (u:Tok) (hc0:¬(!Builtin.List.listFitsIndex x)=true) (hc1:¬items.size*x.toNat > (2 ^ 63 - 1) / 8) (hc2:¬Builtin.List.listTooLong (items.size*x.toNat)=true) :
  Meets (Builtin.«list.__mul__» ⟨[.ref l,.int x u],[]⟩) (fun _ R s=>s.heap.get? l=some { cls:=.type "list",dict:=none,data:=.seq items n,slots:=sl }/\R (.ok (.ret (Value.ref s.heap.objs.size))) { s with heap:=s.heap.push { cls:=Value.type "list",data:=Data.seq (List.foldl (fun x1 x2=>x1 ++ x2) #[] (List.replicate (if items.isEmpty=true then 0 else x.toNat) items)) },toks:=s.toks }):=
 .of_wp fun prog w A R s h=>by
  obtain⟨hp,g,d,tk,os⟩:=s;obtain⟨hl,h⟩:=h
  have hsz:=joined_fits hc2
  wp_walk using wpAny_loadPart' hl;refine wpAny_ite_false (decide_eq_false (Nat.not_lt.mpr hsz)) ?_;wp_walk;exact⟨_,rfl,h⟩
theorem rmul_sl (a:Int) (t:Tok) (l:Addr) (items:Array Value) (n:Nat) (sl:Array (Option Value)) :
  Meets (Builtin.«int.__rmul__» ⟨[.int a t,.ref l],[]⟩) (fun _ R s=>s.heap.get? l=some { cls:=.type "list",dict:=none,data:=.seq items n,slots:=sl }/\R (.ok (.ret Value.notImplemented)) s):=
 .of_wp fun prog w A R s h=>by obtain⟨hp,g,d,tk,os⟩:=s;obtain⟨hl,h⟩:=h;wp_walk;exact⟨_,rfl,h⟩
end PySem.AutoListH
namespace L2
open PySem PySem.Spec PyProof.Rows
abbrev YK:=Addr->OM->Prop
section
variable (K:W.Frag)
def zaS (Γ:Gh) (E:XK) (Y:YK):Prop:=∀ Γ' O' H' C,Le Γ Γ'->Sim K Γ' O' H'->Y C O'->E (.ref C) none H'
end
section
variable {K:W.Frag}
theorem zaS.mono {Γ Γ':Gh}{E:XK}{Y:YK}(h:zaS K Γ E Y) (l:Le Γ Γ'):zaS K Γ' E Y:=fun _ _ _ _ l2=>h _ _ _ _ (l.trans l2)
variable {P:Program}{w:World}{mg:Str->Option Value}{base:Heap}
theorem Sim.grow {Γ:Gh}{O:OM}{H H':Hp}(S:Sim K Γ O H) (h:Same H H'):Sim K Γ O H':=by
 refine⟨fun b u e=>h _ _ (S.z _ _ e),fun a oo e=>?_,fun a rs e=>?_,fun b u e=>h _ _ (S.f _ _ e),S.gn,S.fg,S.fd,S.u⟩
 ·obtain⟨h1,h2⟩:=S.o _ _ e
  refine⟨h1,?_⟩
  cases oo with
  |lst ws=>obtain⟨vs,q1,q2⟩:=h2;exact⟨vs,h _ _ q1,q2⟩
  |dK kvs=>obtain⟨vs,q1,q2⟩:=h2;exact⟨vs,h _ _ q1,q2⟩
  |ins C dx fs=>obtain⟨vs,q1,q2⟩:=h2;exact⟨vs,h _ _ q1,q2⟩
  |raw p=>obtain⟨o,q1,q2⟩:=h2;exact⟨o,h _ _ q1,q2⟩
  |grid rows=>
   obtain⟨rs,q1,q2,q3,q4,q5⟩:=h2
   refine⟨rs,q1,h _ _ q2,q3,q4,fun i r ds e1 e2=>?_⟩
   obtain⟨z1,z2,vs,z3,z4⟩:=q5 i r ds e1 e2
   exact⟨z1,z2,vs,h _ _ z3,z4⟩
 ·obtain⟨o,q⟩:=S.gd _ _ e
  exact⟨o,h _ _ q⟩
end
section
variable {K:W.Frag}
def QT (K:W.Frag):R2:=fun x y H Q=>∃ l k xs,x=.ref l/\y=.int k/\SqL K H l xs/\-(2 ^ 63)≤k/\k < 2 ^ 63/\xs.length*k.toNat≤sizeLine/\
 ∀ p,H p=none->Q (.ref p) (upd H p (.lst (List.replicate k.toNat xs).flatten))
end
theorem zc6 {X:Cx}:OpR X (binaryOp .Mult) (QT X.K):=by
  intro pins s σ H x y v u Q I rx ry h
  obtain⟨l,k,xs,rfl,rfl,hH,h1,h2,hz,q⟩:=h
  cases rx
  obtain⟨t,rfl⟩:=ry
  obtain⟨its,r,⟨⟨oc,od,oda,osl⟩,n,e,c,d,dt⟩,hl⟩:=I.list hH
  simp only at c d dt
  subst c d dt
  have hl:xs.length=its.length:=r.length
  have hlen:its.toArray.size*k.toNat≤sizeLine:=by rw [List.size_toArray,<- hl];exact hz
  have hcap:¬ its.toArray.size*k.toNat > (2 ^ 63 - 1) / 8:=by
    have:(sizeLine:Nat)≤(2 ^ 63 - 1) / 8:=by decide
    omega
  have hfit:¬ (!Builtin.List.listFitsIndex k)=true:=by
    rw [fitsIndex_both h1 h2]
    exact Bool.false_ne_true
  have hlong:¬ Builtin.List.listTooLong (its.toArray.size*k.toNat)=true:=by
    rw [jp hlen]
    exact Bool.false_ne_true
  have hnew:List.foldl (fun x1 x2=>x1 ++ x2) #[] (List.replicate (if its.toArray.isEmpty=true then 0 else k.toNat) its.toArray)=(List.replicate k.toNat its).flatten.toArray:=by
    have f0:∀ m:Nat,List.foldl (fun x1 x2=>x1 ++ x2) #[] (List.replicate m its.toArray)=(List.replicate m its).flatten.toArray:=fun m=>by
      have:=jZ its m []
      rw [List.nil_append] at this
      exact this
    rw [f0]
    cases its with
    |nil=>simp
    |cons a r'=>rw [if_neg (by simp)]
  refine wpAny_binaryOp_repeat_ref (T:="list") (U:="int") (by decide) ⟨_,e,rfl⟩ (fun s'=>typeIs_int s' k t) noFill_list_mul F.fills_int_mul F.slot_int_rmul repeat_list F.slot_int_index.lookup
    (call_meets F.slot_int_rmul (typeIs_int s k t) F.entry_int_rmul (F.args_int_rmul_2 _ _) (AutoListH.rmul_sl k t l its.toArray n osl)
      ⟨e,rfl,⟨_,e,rfl⟩,call_meets F.slot_list_mul ⟨_,e,rfl⟩ F.entry_list_mul (F.args_list_mul_2 _ _) (AutoListH.list_mul_sl l its.toArray n osl k t hfit hcap hlong) ⟨e,?_⟩⟩)
  rw [hnew]
  exact⟨.ref _,_,I.lnew (t':=s.toks) (r.rep k.toNat) (by rw [Uz,Nat.mul_comm];exact hz),rfl,q _ I.fresh⟩
theorem zc7 {X:Cx}{K:W.Frag}(h:X.K=K):OpR X (binaryOp .Mult) (QT K):=by subst h;exact zc6
section
variable {K:W.Frag}
noncomputable def ze7 (n:Int) (ds:List PyData):List PyData:=(List.replicate n.toNat ds).flatten
def zb2:R2W:=fun x y O R=>∃ ds n,qD O x=some ds/\xD x=none/\y=.d (.int n)/\0≤n/\n≤1000/\ds.length*n.toNat≤100000/\R (.d (.list (ze7 n ds))) O
theorem ze8:RefR K (QT K) zb2:=by
 rintro Γ O H x y v u S rx ry Q R ⟨ds,n,e,et,rfl,n0,n1,hl,h⟩ k
 unfold qD at e
 rw [et] at e
 simp only at e
 cases hL:yN O x with
 |none=>rw [hL] at e;cases e
 |some ws=>
  rw [hL] at e
  obtain⟨a,vs,rfl,q1,q2⟩:=xv S rx hL
  rw [xO (show xq ws=some ds from e)] at q2
  have q3:=yI q2
  refine⟨a,n,vs,rfl,ry,q1,by omega,by omega,by rw [<- Reps.length q3,sizeLine_eq];omega,fun p hp=>?_⟩
  obtain⟨Γ',le,S',r'⟩:=uI S (Zw q3 n.toNat) hp
  exact k _ _ _ _ _ le S' r' h
end
end L2
namespace PySem.MeetsSeq2
open AutoSeq1 (wpAny_loadPart')
open MeetsSeq
end PySem.MeetsSeq2
namespace L2
open PySem PySem.Spec PyProof.Rows
noncomputable abbrev DSp (kvs:List (Str×Value)) (D:List (Str×Int)):Prop:=Paired (fun (p:Str×Value) (q:Str×Int)=>p.1=q.1/\∃ t,p.2=.int q.2 t) kvs D
structure DS (P:Program) (w:World) (K:W.Frag) (a:Addr) (D:List (Str×Int)):Prop where
 ns:(a == sysModules)=false
 ex:∃ (kvs:List (Str×Value)) (ep:Nat),(∀ h:Heap,K.In h->h.DictAt (strKind P w) a kvs ep)/\DSp kvs D
theorem Vf:∀ {kvs:List (Str×Value)}{D:List (Str×Int)},PyProof.V.FlatPairs PyData.str kvs ((D.map fun p=>(p.1,PyData.int p.2)).map fun p=>(PyData.str p.1,p.2))->DSp kvs D
 |_,[],h=>by
  cases h
  exact .nil
 |_,(y,i) :: D,h=>by
  simp only [List.map_cons] at h
  cases h with
  |cons hf ht=>
   refine .cons ⟨rfl,?_⟩ (Vf ht)
   cases hf (default:Heap) with
   |int _ t=>exact⟨t,rfl⟩
theorem DS.of {P:Program}{w:World}{K:W.Frag}{a:Addr}{D:List (Str×Int)}(hl:KTD.tabLook KTD.flatLooks (fun b=>K.lookup b) a (D.map fun p=>(p.1,PyData.int p.2))=true)
  (hn:((D.map fun p=>(p.1,PyData.int p.2)).map (·.1)).Nodup) (hh:KTD.hashesOf (fun b=>K.lookup b) a=(D.map fun p=>(p.1,PyData.int p.2)).map fun p=>(strKind P w).hash p.1):DS P w K a D:=by
 simp only [KTD.tabLook,Bool.and_eq_true] at hl
 obtain⟨h0,hl⟩:=hl
 split at hl
 ·rename_i o ho
  simp only [Bool.and_eq_true] at hl
  obtain⟨⟨⟨e1,e2⟩,e3⟩,e4⟩:=hl
  split at e4
  ·rename_i es ep hd
   have hh':es.toList.map (·.hash)=(D.map fun p=>(p.1,PyData.int p.2)).map fun p=>(strKind P w).hash p.1:=by
    rw [<- hh];unfold KTD.hashesOf;simp only [ho,hd]
   obtain⟨hk,kvs,hp,hf,hm⟩:=KTD.strs_of_rows P w (KTD.rows_of_look (fun _ _ x=>KTD.flat_of_looks x) e4) hh'
   exact⟨by simpa using h0,kvs,ep,fun h X=>⟨o,es,X _ _ ho,⟨beq_iff_eq.mp e1,by simpa using e2,by simpa using e3⟩,hd,fun e he=>hk e (by simpa using he),hp,by rw [hm];exact hn⟩,Vf hf⟩
  ·cases e4
 ·cases hl
section
variable {K:W.Frag}{P:Program}{w:World}
end
section
variable {K:W.Frag}
end
section
variable {K:W.Frag}
noncomputable def zgJ:W->Option Str
 |.d (.str z)=>if z.length≤1000 then some z else none
 |.d (.int i)=>if -1000000≤i/\i≤1000000 then some (toString i) else none
 |_=>none
end
end L2
namespace L2
open PySem PySem.W PySem.Spec PySem.Calls PyProof.Rows
structure RoomE (k:Nat) (A:Around):Prop where
 dp:A.depth+3*k+5 < recursionLimit
 un:A.units+16*k+200 < cLine
 gd:A.guards=some []
theorem Room.e {k:Nat}{A:Around}(r:Room k A):RoomE k A:=⟨r.dp,r.un,r.gd⟩
theorem RoomE.mono {j k:Nat}{A:Around}(r:RoomE k A) (h:j≤k):RoomE j A:=⟨by have:=r.dp;omega,by have:=r.un;omega,r.gd⟩
theorem RoomE.deeper {k:Nat}{A:Around}(r:RoomE (k+1) A) (env:Env):RoomE k (A.deeper env):=
 ⟨by have:=r.dp;show A.depth+1+3*k+5 < _;omega,by have:=r.un;show A.units+3+16*k+200 < _;omega,r.gd⟩
section
variable {X:Cx}{K:W.Frag}{P:Program}{w:World}
end
end L2
namespace L2
open PySem PySem.Spec PyProof.Rows
noncomputable def sp1:Str:=Str.ofString " "
section
variable {K:W.Frag}
theorem Sim.all (H:Hp):Sim K ⟨H,fun _=>none,fun _=>none⟩ (fun _=>none) H:=
 ⟨Same.refl _,fun _ _ e=>(by cases e),fun _ _ e=>(by cases e),fun _ _ e=>(by cases e),fun _ _ e=>(by cases e),fun _ _ e=>(by cases e),fun _ _ e=>(by cases e),fun _ _ _ _ _ _ _ e=>(by cases e)⟩
variable {P:Program}{w:World}{mg:Str->Option Value}{base:Heap}
end
section
variable {X:Cx}{K:W.Frag}
end
section
variable {X:Cx}{pins:List (Addr×Obj)}{σ:St}{H H':Hp}{s:Shared}{h':Heap}
end
section
variable {X:Cx}{K:W.Frag}
end
section
variable {K:W.Frag}
end
end L2
namespace PySem
open Sem (wp)
theorem V3:typeLookup (.type "zip") "keys" =pure none:=by rw [typeLookup_type,builtinLookup_eq_fast];kernel_rfl
theorem Z9:typeLookup (.type "zip") "__getattr__" =pure none:=by rw [typeLookup_type,builtinLookup_eq_fast];kernel_rfl
theorem jc:entryFor table "zip.__getattribute__" =some Builtin.«object.__getattribute__»:=
 entryFor_alias (id':="object.__getattribute__") (by kernel_rfl) (by decide +kernel) (by decide +kernel) (by kernel_rfl)
theorem Y4 (a:Addr) (xs:Array Value) (sl:Array (Option Value)) (name:Str) (u:Tok) (hmiss:typeLookup (.type "zip") name=pure none) (hname:(["__module__","__name__","__qualname__","__doc__","__annotations__"]:List Str).contains name=false) (hsz:name.length+100≤sizeLine:=by size_fits) :
  Meets (Builtin.«object.__getattribute__» ⟨[.ref a,.str name u],[]⟩) (fun A R s=>s.heap.get? a=some { cls:=.type "zip",dict:=none,data:=.fields xs,slots:=sl }/\raisesAttr (.ref a) name A R s):=
 Meets.of_wp fun prog w A R s hs=>by
  obtain⟨hp,g,d,tk,os⟩:=s
  obtain⟨hx,hs⟩:=hs
  have hT:(⟨hp,g,d,tk,os⟩:Shared).TypeIs (.ref a) "zip":=⟨_,hx,rfl⟩
  unfold Builtin.«object.__getattribute__»
  repeat (any_goals (first |assumption |wp_step))
  simp only [hname,Bool.false_eq_true,if_false]
  repeat (any_goals (first |assumption |wp_step))
  exact wpAny_raiseAttrError hs.1 hs.2 (attrMsg_fits (by decide +kernel) hsz)
section
variable {prog:Program}{w:World}{A:Around}{E:Value->Shared->Prop}{s:Shared}
theorem QU {a:Addr}{xs:Array Value}{sl:Array (Option Value)}{Q:Option Value->Shared->Prop}
  (hx:s.heap.get? a=some { cls:=.type "zip",dict:=none,data:=.fields xs,slots:=sl }) (hA:A.handled=none)
  (h:∀ h' tk,(∀ b u,s.heap.get? b=some u->h'.get? b=some u)->Q none { s with heap:=h',toks:=tk }) :
  wpAny (model prog w) A (getAttr? (.ref a) "keys") Q E s:=by
 obtain⟨hp,g,d,tk,os⟩:=s
 have hT:∀ tk',(⟨hp,g,d,tk',os⟩:Shared).TypeIs (.ref a) "zip":=fun _=>⟨_,hx,rfl⟩
 have f1:=sub_AttributeError
 have f3:=F.slot_zip_getattribute.lookup
 have f4:=F.slot_zip_getattribute.bind (.ref a)
 have f5:=Z9
 have hname:(["__module__","__name__","__qualname__","__doc__","__annotations__"]:List Str).contains "keys" =false:=by decide
 unfold getAttr? getAttrBy? getAttrBy
 repeat (any_goals (first |assumption |exact hT _ | ((with_reducible show wpAny _ _ (call (Value.builtin "zip.__getattribute__") _ _) _ _ _);refine call_meets F.slot_zip_getattribute (hT _) jc (F.args_zip_getattribute_2 _ _) (Y4 a xs sl "keys" _ V3 hname (by decide)) ⟨hx,hA,fun h' tk' e hx'=>?_⟩) |wp_step))
 obtain⟨t',u',he⟩:=hx'.there
 show wpAny _ _ (getattributeRaised _ _ _ _ _ _ _) _ _ _
 unfold getattributeRaised
 repeat (any_goals (first |assumption |wp_step))
 exact h _ _ hx'.keeps
end
section
variable {prog:Program}{w:World}{A:Around}{K:Type} [DecidableEq K] {knd:KeyKind prog w K}
variable {z TI TO i1 i2:Addr}{fp1 fp2:List Addr}{n1 n2:Nat}{P1 P2:Nat->Value->Prop}{St1 St2:Nat->Heap->Prop}
theorem zc8 (D:ZlApart z TI TO i1 i2 fp1 fp2) (D1:Draws prog w A.in1.in1 i1 fp1 n1 P1 St1) (D2:Draws prog w A.in1.in1 i2 fp2 n2 P2 St2) {n:Nat}(hn:n=min n1 n2) {d:Addr}(hdf:d ∉ [z,TI,TO,i1,i2] ++ fp1 ++ fp2) {r:Value}{R:Result->Shared->Prop} :
  ∀ (more:List (K×Value)) (k:Nat) (s:Shared) (kvs:List (K×Value)),k+more.length=n->s.heap.DictOf knd d kvs->ZlS z TI TO i1 i2 St1 St2 k s.heap->
   (∀ (j:Nat) kv,more[j]? =some kv->(∀ x,P1 (k+j) x->knd.is kv.1 x=true)/\∀ y,P2 (k+j) y->y=kv.2)->kvs.length+more.length≤sizeLine->
   (∀ h' tk,h'.DictOf knd d (merged kvs more)->(∀ c o,c ∉ [d,z,TO,i1,i2]->s.heap.get? c=some o->h'.get? c=some o)->R (.ok (.ret r)) { s with heap:=h',toks:=tk })->
   codeAny (model prog w) A (.builtin "dict.update.loop" ⟨[.ref d,.ref z,rawInt k,r],[]⟩) R s:=by
 have dz:d≠z:=fun e=>hdf (by simp [e])
 have dTO:d≠TO:=fun e=>hdf (by simp [e])
 have di1:d≠i1:=fun e=>hdf (by simp [e])
 have di2:d≠i2:=fun e=>hdf (by simp [e])
 intro more
 induction more with
 |nil=>
  intro k s kvs hi hd hst hp hz hR
  have hend:k=n1\/(k < n1/\k=n2):=by simp at hi;omega
  refine codeAny_builtin vg ?_
  rw [Around.under_plainId xu _]
  show wpAny _ A.in1 (pyNext (.ref z) >>= _) _ _ _
  refine wpAny_bind (ze0 D D1 D2 hst hend fun h' tk hk'=>?_)
  have kk:∀ b o,b ∉ [d,z,TO,i1,i2]->s.heap.get? b=some o->h'.get? b=some o:=fun b o hb e=>hk' b o (fun q=>hb (by simp [q])) (fun q=>hb (by simp [q])) (fun q=>hb (by simp [q])) (fun q=>hb (by simp [q])) e
  show wpAny _ _ (Builtin.Dict.addKeywords d [] >>= _) _ _ _
  obtain⟨od,es,ep,hod,rd⟩:=hd
  exact wpAny_bind (wpAny_pure (wpAny_pure (hR h' tk ⟨od,es,ep,hk' _ _ dz dTO di1 di2 hod,rd⟩ kk)))
 |cons kv more ih=>
  intro k s kvs hi hd hst hp hz hR
  have hk1:k < n1/\k < n2:=by simp at hi;omega
  refine codeAny_builtin vg ?_
  rw [Around.under_plainId xu _]
  show wpAny _ A.in1 (pyNext (.ref z) >>= _) _ _ _
  refine wpAny_bind (zc2 D D1 D2 hst hk1.1 hk1.2 fun x y h' tk p1 p2 hpr hst' hk'=>?_)
  obtain⟨hkx,hky⟩:=hp 0 kv rfl
  have hkx:=hkx x (by simpa using p1)
  have hky:=hky y (by simpa using p2)
  subst hky
  have hd1:h'.DictOf knd d kvs:=by
   obtain⟨od,es,ep,hod,rd⟩:=hd
   exact⟨od,es,ep,hk' _ _ dz dTO di1 di2 hod,rd⟩
  show wpAny _ _ (holding [.ref s.heap.objs.size] _ >>= _) _ _ _
  refine wpAny_bind (wpAny_holding ?_)
  refine wpAny_bind (wpAny_tryCatch ?_)
  unfold Builtin.Dict.pairItems
  refine wpAny_bind (wpAny_typeOf (T:="tuple") ⟨_,hpr,rfl⟩ ?_)
  rw [if_pos (by decide)]
  refine wpAny_bind (wpAny_seqItems hpr rfl ?_)
  refine wpAny_pure ?_
  show wpAny _ _ (holding [x,kv.2] (dictSet d x kv.2)) _ _ _
  refine wpAny_holding (wpAny_dictSet_pairs hkx hd1 (fun h2 hd2 sb2=>?_) (by simp at hz;omega))
  show wpAny _ _ (again (.builtin "dict.update.loop" ⟨[.ref d,.ref z,rawInt ((k:Int)+1),r],[]⟩)) _ _ _
  have ei:((k:Int)+1)=(((k+1:Nat)):Int):=by omega
  rw [ei]
  have oth:∀ b o,b≠d->h'.get? b=some o->h2.get? b=some o:=fun b o hb e=>(sb2.2 b hb).trans e
  have keep:∀ c o,c ∉ [d,z,TO,i1,i2]->s.heap.get? c=some o->h2.get? c=some o:=fun c o hb e=>oth c o (fun q=>hb (by simp [q])) (hk' c o (fun q=>hb (by simp [q])) (fun q=>hb (by simp [q])) (fun q=>hb (by simp [q])) (fun q=>hb (by simp [q])) e)
  refine wpAny_pure ⟨plainId_quiet xu _,ih (k+1) _ (stored kvs kv.1 kv.2) (by simp at hi;omega) hd2 ?_ (fun j kv' hj=>?_) ?_ fun h3 tk hd3 k3=>?_⟩
  ·obtain⟨f0,f1,a,b,gz,gf,gTI,gTO,g1,g2⟩:=hst'
   refine⟨f0,f1,a,b,oth _ _ (Ne.symm dz) gz,?_,oth _ _ (fun q=>hdf (by simp [<- q])) gTI,oth _ _ (Ne.symm dTO) gTO,D1.frame _ _ _ g1 fun c hc o e=>oth _ _ (fun q=>hdf (by simp [<- q,hc])) e,D2.frame _ _ _ g2 fun c hc o e=>oth _ _ (fun q=>hdf (by simp [<- q,hc])) e⟩
   rcases gf with g | ⟨t,o,e1,e2,e3⟩
   ·exact .inl g
   ·refine .inr ⟨t,?_⟩
    by_cases ht:t=d
    ·subst ht
     obtain⟨od,es,ep,hod,rd⟩:=hd2
     exact⟨od,e1,hod,e3⟩
    ·exact⟨o,e1,oth _ _ ht e2,e3⟩
  ·have:=hp (j+1) kv' (by simpa using hj)
   rw [show k+(j+1)=k+1+j by omega] at this
   exact this
  ·have:=stored_length_le kvs kv.1 kv.2
   simp at hz
   omega
  ·exact hR h3 tk hd3 fun c o h4 q=>k3 c o h4 (keep c o h4 q)
theorem zc9 {E:Value->Shared->Prop}{s:Shared}(hh:A.handled=none) (D:ZlApart z TI TO i1 i2 fp1 fp2) (D1:Draws prog w A.in1.in1.in1 i1 fp1 n1 P1 St1) (D2:Draws prog w A.in1.in1.in1 i2 fp2 n2 P2 St2) {n:Nat}(hn:n=min n1 n2) (hlt:∀ b∈[z,TI,TO,i1,i2] ++ fp1 ++ fp2,b < s.heap.objs.size) {Q:Value->Shared->Prop}
  (hz0:∃ f0,xE s.heap z TI TO f0 false) (hst:ZlS z TI TO i1 i2 St1 St2 0 s.heap) {more:List (K×Value)}(hlen:more.length=n) (hp:∀ (j:Nat) kv,more[j]? =some kv->(∀ x,P1 j x->knd.is kv.1 x=true)/\∀ y,P2 j y->y=kv.2) (hz:more.length≤sizeLine)
  (h:∀ h' tk,h'.DictOf knd s.heap.objs.size (merged [] more)->(∀ c o,c ∉ [z,TO,i1,i2]->s.heap.get? c=some o->h'.get? c=some o)->Q (.ref s.heap.objs.size) { s with heap:=h',toks:=tk }) :
  wpAny (model prog w) A (call (.type "dict") [.ref z]) Q E s:=by
 refine callType_codes (Q₁:=fun obj s₁=>obj=.ref s.heap.objs.size/\s₁= { s with heap:=s.heap.push { cls:=.type "dict",data:=.dict #[] } }) F.kt_called_dict (F.kt_typeCall_dict_1 _) F.entry_dict_init (kt_code_dict_new _ ⟨rfl,rfl⟩) ?_
 rintro obj s₁ ⟨rfl,rfl⟩
 have hnew:(s.heap.push { cls:=.type "dict",data:=.dict #[] }).DictOf knd s.heap.objs.size []:=Heap.DictOf.new s.heap
 refine⟨hnew.typeIs,F.args_dict_init_2 _ _,?_⟩
 obtain⟨f0,hz0⟩:=hz0
 have hz1:(s.heap.push { cls:=.type "dict",data:=.dict #[] }).get? z=some _:=Heap.get?_push_of_some _ hz0
 have hdf:s.heap.objs.size ∉ [z,TI,TO,i1,i2] ++ fp1 ++ fp2:=fun m=>Nat.lt_irrefl _ (hlt _ m)
 refine wpAny_bind ?_
 unfold Builtin.Dict.selfAndRest
 refine wpAny_bind (wpAny_notOrdered_dict hnew.typeIs ?_)
 refine wpAny_pure ?_
 show wpAny _ _ (Builtin.Dict.updateFrom "dict.__init__" s.heap.objs.size (.ref z) [] .none) _ _ _
 unfold Builtin.Dict.updateFrom
 refine wpAny_bind (wpAny_typeOf (T:="zip") ⟨_,hz1,rfl⟩ ?_)
 rw [if_pos (by decide)]
 refine wpAny_bind (QU (A:=A.in1.in1) hz1 hh fun h1 tk k1=>?_)
 rw [if_pos (by rfl)]
 refine wpAny_bind (wpAny_rule ?_)
 have kk:∀ c u,s.heap.get? c=some u->h1.get? c=some u:=fun c u q=>k1 _ _ (Heap.get?_push_of_some _ q)
 refine wpAny_bind (wpAny_pyIter_zip (kk _ _ hz0) ?_)
 obtain⟨od,es,ep,hod,rd⟩:=hnew
 refine wpAny_pure ⟨plainId_quiet xu _,zc8 (knd:=knd) (A:=A.in1) D D1 D2 hn hdf more 0 _ [] (by rw [hlen];omega) ⟨od,es,ep,k1 _ _ hod,rd⟩ ?_ (fun j kv hj=>?_) (by simpa using hz) fun h' tk' hd' k'=>⟨rfl,?_⟩⟩
 ·obtain⟨f0,f1,a,b,gz,gf,gTI,gTO,g1,g2⟩:=hst
  refine⟨f0,f1,a,b,kk _ _ gz,?_,kk _ _ gTI,kk _ _ gTO,D1.frame _ _ _ g1 fun c hc o e=>kk _ _ e,D2.frame _ _ _ g2 fun c hc o e=>kk _ _ e⟩
  rcases gf with g | ⟨t,o,e1,e2,e3⟩
  ·exact .inl g
  ·exact .inr ⟨t,o,e1,kk _ _ e2,e3⟩
 ·have:=hp j kv hj
  rwa [show (0+j:Nat)=j by omega]
 ·refine h h' tk' hd' fun c u hc q=>k' c u (fun m=>?_) (kk c u q)
  rcases List.mem_cons.1 m with e |m
  ·exact Nat.lt_irrefl _ (by have:=Heap.lt_size q;rw [e] at this;exact this)
  ·exact hc m
theorem zda {E:Value->Shared->Prop}{s:Shared}(hh:A.handled=none) {l1 l2:Addr}{xs ys:Array Value}(hl1:s.heap.IsList l1 xs) (hl2:s.heap.IsList l2 ys) {Q:Value->Shared->Prop}{more:List (K×Value)}(hlen:more.length=min xs.size ys.size)
  (hp:∀ (j:Nat) kv,more[j]? =some kv->(∀ x,xs[j]? =some x->knd.is kv.1 x=true)/\∀ y,ys[j]? =some y->y=kv.2) (hz:more.length≤sizeLine)
  (h:∀ h' tk (S:Addr),s.heap.objs.size≤S->h'.DictOf knd S (merged [] more)->(∀ c o,s.heap.get? c=some o->h'.get? c=some o)->Q (.ref S) { s with heap:=h',toks:=tk }) :
  wpAny (model prog w) A (call (.type "zip") [.ref l1,.ref l2]) (fun v s₁=>wpAny (model prog w) A (call (.type "dict") [v]) Q E s₁) E s:=by
 refine callType_new F.called_zip (by decide) (F.typeCall_zip_2 _ _) (F.newCall_zip_2 _ _) (fun obj=>F.args_object_init_3 obj _ _) F.entry_zip_new
  (meets_zip_new l1 l2 xs ys) ⟨hl1,hl2,?_⟩
 have z1:(zipH1 s.heap l1).objs.size=s.heap.objs.size+1:=Heap.size_push ..
 have z2:(zipH2 s.heap l1 l2).objs.size=s.heap.objs.size+2:=by rw [Heap.size_push,z1]
 have z3:(zipH3 s.heap l1 l2).objs.size=s.heap.objs.size+3:=by rw [Heap.size_push,z2]
 have z4:(zipH4 s.heap l1 l2).objs.size=s.heap.objs.size+4:=by rw [Heap.size_push,z3]
 have z5:(zipH5 s.heap l1 l2).objs.size=s.heap.objs.size+5:=by rw [Heap.size_push,z4]
 have g5:(zipH5 s.heap l1 l2).get? (zipH4 s.heap l1 l2).objs.size=some _:=Heap.get?_push_size _ rfl
 have g4:(zipH5 s.heap l1 l2).get? (zipH3 s.heap l1 l2).objs.size=some _:=Heap.get?_push_of_some _ (Heap.get?_push_size _ rfl)
 have g3:(zipH5 s.heap l1 l2).get? (zipH2 s.heap l1 l2).objs.size=some _:=Heap.get?_push_of_some _ (Heap.get?_push_of_some _ (Heap.get?_push_size _ rfl))
 have g2:(zipH5 s.heap l1 l2).get? (zipH1 s.heap l1).objs.size=some _:=Heap.get?_push_of_some _ (Heap.get?_push_of_some _ (Heap.get?_push_of_some _ (Heap.get?_push_size _ rfl)))
 have g1:(zipH5 s.heap l1 l2).get? s.heap.objs.size=some _:=Heap.get?_push_of_some _ (Heap.get?_push_of_some _ (Heap.get?_push_of_some _ (Heap.get?_push_of_some _ (Heap.get?_push_size _ rfl))))
 have kp:∀ c o,s.heap.get? c=some o->(zipH5 s.heap l1 l2).get? c=some o:=fun c o e=>Heap.get?_push_of_some _ (Heap.get?_push_of_some _ (Heap.get?_push_of_some _ (Heap.get?_push_of_some _ (Heap.get?_push_of_some _ e))))
 show _/\_
 rw [z2,z3,z4] at g5
 rw [z1,z2] at g3
 rw [z3] at g4
 rw [z1] at g2
 rw [z4]
 refine⟨⟨_,g5,rfl⟩,?_⟩
 have lt1:l1 < s.heap.objs.size:=by obtain⟨_,e,_⟩:=hl1;exact Heap.lt_size e
 have lt2:l2 < s.heap.objs.size:=by obtain⟨_,e,_⟩:=hl2;exact Heap.lt_size e
 refine zc9 (K:=K) (knd:=knd) hh (z:=s.heap.objs.size+4) (TI:=s.heap.objs.size+2) (TO:=s.heap.objs.size+3) (i1:=s.heap.objs.size) (i2:=s.heap.objs.size+1) (s:={ s with heap:=zipH5 s.heap l1 l2 }) ?_
  (Draws.list (A:=A.in1.in1.in1) hh s.heap.objs.size l1 (Nat.ne_of_lt lt1) xs) (Draws.list (A:=A.in1.in1.in1) hh (s.heap.objs.size+1) l2 (Nat.ne_of_lt (Nat.lt_trans lt2 (Nat.lt_succ_self _))) ys) rfl ?_ ⟨_,g5⟩ ⟨_,_,_,_,g5,.inl ⟨rfl,rfl⟩,g3,g4,⟨⟨_,g1,rfl,rfl⟩,hl1.at fun o e=>kp l1 o e⟩,⟨⟨_,g2,rfl,rfl⟩,hl2.at fun o e=>kp l2 o e⟩⟩ hlen hp hz ?_
 ·have h10:l1≠(s.heap.objs.size:Nat):=Nat.ne_of_lt lt1
  have h11:l1≠(s.heap.objs.size+1:Nat):=Nat.ne_of_lt (Nat.lt_of_lt_of_le lt1 (by omega))
  have h13:l1≠(s.heap.objs.size+3:Nat):=Nat.ne_of_lt (Nat.lt_of_lt_of_le lt1 (by omega))
  have h14:l1≠(s.heap.objs.size+4:Nat):=Nat.ne_of_lt (Nat.lt_of_lt_of_le lt1 (by omega))
  have h20:l2≠(s.heap.objs.size:Nat):=Nat.ne_of_lt lt2
  have h21:l2≠(s.heap.objs.size+1:Nat):=Nat.ne_of_lt (Nat.lt_of_lt_of_le lt2 (by omega))
  have h23:l2≠(s.heap.objs.size+3:Nat):=Nat.ne_of_lt (Nat.lt_of_lt_of_le lt2 (by omega))
  have h24:l2≠(s.heap.objs.size+4:Nat):=Nat.ne_of_lt (Nat.lt_of_lt_of_le lt2 (by omega))
  exact⟨by simp,by simp,by simp,by simp,by simp,by simp,by simp,by simp,by simp,by simp,by simp [Ne.symm h14],by simp [Ne.symm h24],by simp [Ne.symm h13],by simp [Ne.symm h23],by simp [Ne.symm h20],by simp [Ne.symm h11]⟩
 ·intro b hb
  show b < (zipH5 s.heap l1 l2).objs.size
  rw [z5]
  simp only [List.mem_append,List.mem_cons,List.not_mem_nil,or_false] at hb
  rcases hb with ((q |q |q |q |q) |q |q) |q |q <;> rw [q]
  ·exact Nat.lt_succ_self _
  ·exact Nat.add_lt_add_left (by decide) _
  ·exact Nat.add_lt_add_left (by decide) _
  ·exact Nat.lt_add_of_pos_right (by decide)
  ·exact Nat.add_lt_add_left (by decide) _
  ·exact Nat.lt_add_of_pos_right (by decide)
  ·exact Nat.lt_add_right _ lt1
  ·exact Nat.add_lt_add_left (by decide) _
  ·exact Nat.lt_add_right _ lt2
 ·intro h' tk hd hk
  have e5:(Shared.heap { s with heap:=zipH5 s.heap l1 l2 }).objs.size=s.heap.objs.size+5:=z5
  rw [e5] at hd ⊢
  refine h h' tk _ (Nat.le_add_right _ _) hd fun b o e=>hk b o (fun m=>?_) (kp b o e)
  have lt:=Heap.lt_size e
  simp only [List.mem_cons,List.not_mem_nil,or_false] at m
  rcases m with q |q |q |q <;> rw [q] at lt
  ·exact absurd lt (Nat.not_lt.2 (Nat.le_add_right _ _))
  ·exact absurd lt (Nat.not_lt.2 (Nat.le_add_right _ _))
  ·exact absurd lt (Nat.lt_irrefl _)
  ·exact absurd lt (Nat.not_lt.2 (Nat.le_add_right _ _))
end
end PySem
namespace L2
open PySem PySem.Spec PyProof.Rows
noncomputable def ug {α:Type}(ks:List Str) (ys:List α):List (Key×α):=List.zipWith (fun k y=>((Sum.inr k:Key),y)) ks ys
def tDZ (K:W.Frag) (ta:TA):TE:=fun σ H Q=>ta σ H fun vs H1=>∃ a b ks ys,vs=[.ref a,.ref b]/\SqL K H1 a (ks.map V.str)/\SqL K H1 b ys/\ks.length≤1000/\∀ p,H1 p=none->Q (.ref p) (upd H1 p (.dK (xI [] (ug ks ys))))
theorem zaT {α:Type}:∀ (ks:List Str) (ys:List α),(ug ks ys).length=min ks.length ys.length:=fun ks ys=>by unfold ug;rw [List.length_zipWith]
theorem YW {P:Program}{w:World}:∀ {ks:List Str}{ys:List V}{its jts:List Value},Vals (ks.map V.str) its->Vals ys jts->∃ ws:List (Key×Value),KV (ug ks ys) ws/\ws.length=min its.length jts.length/\
  ∀ (j:Nat) kv,ws[j]? =some kv->(∀ x,its[j]? =some x->(yX P w).is kv.1 x=true)/\∀ y,jts[j]? =some y->y=kv.2
 |[],ys,its,jts,r1,r2=>by
  cases r1
  exact⟨[],.nil,by simp,fun j kv h=>by simp at h⟩
 |k :: ks,ys,its,jts,r1,r2=>by
  cases r1 with
  | @cons _ x _ xs a b=>
   cases r2 with
   |nil=>exact⟨[],.nil,by simp,fun j kv h=>by simp at h⟩
   | @cons y v ys vs c d=>
    obtain⟨ws,h1,h2,h3⟩:=YW (P:=P) (w:=w) b d
    refine⟨(Sum.inr k,v) :: ws,.cons ⟨rfl,c⟩ h1,by simp [h2],fun j kv hj=>?_⟩
    cases j with
    |zero=>
     cases hj
     refine⟨fun z hz=>?_,fun z hz=>?_⟩
     ·simp at hz
      subst hz
      exact jr (k:=Sum.inr k) a
     ·simp at hz
      exact hz.symm
    |succ j=>
     obtain⟨g1,g2⟩:=h3 j kv (by simpa using hj)
     exact⟨fun z hz=>g1 z (by simpa using hz),fun z hz=>g2 z (by simpa using hz)⟩
theorem QV:bootBuiltins "dict" =some (.type "dict"):=rfl
section
variable {X:Cx}{K:W.Frag}
theorem QW {a b:Expr}{ta:TA}{p1 p2 q1 q2:Pos}(hK:X.K=K) (hc:X.calm=true) (hl:Gl X "dict") (ml:X.mg "dict" =none) (hg:Gl X "zip") (hm:X.mg "zip" =none) (ha:PA X [a,b] ta)
  (hs:starEach [a,b] X.env=(false,eval a X.env) :: starEach [b] X.env:=by rfl) (hs2:(backTo q2 (starEach [b] X.env)).any (·.1)=false:=by rfl)
  (he:starEach [.Call (.Name "zip" p2) [a,b] [] q2] X.env=(false,eval (.Call (.Name "zip" p2) [a,b] [] q2) X.env) :: starEach [] X.env:=by rfl) (hpl:(backTo q1 (starEach [] X.env)).any (·.1)=false:=by rfl)
  (ht:backTo q1 (starEach [.Call (.Name "zip" p2) [a,b] [] q2] X.env)=[(false,eval (.Call (.Name "zip" p2) [a,b] [] q2) X.env)]:=by rfl) :
  PE X (.Call (.Name "dict" p1) [.Call (.Name "zip" p2) [a,b] [] q2] [] q1) (tDZ K ta):=by
 subst hK
 intro pins s σ H Q I h
 refine wpAny_Call_Name_kw (vE I hl ml QV ?_)
 refine PyProof.Rows.callWith_type1 (T:="dict") ?_ he hpl
 rw [ht]
 refine Calls.spliced_cons ?_
 refine wpAny_Call_Name_kw (vE I hg hm boot_zip ?_)
 refine PyProof.Rows.callWith_type1 (T:="zip") (thn (ha q2 pins s σ H _ I h) fun us s1 ⟨vs,H1,I1,r1,q1⟩=>?_) hs hs2
 obtain⟨a,b,ks,ys,e,qa,qb,kl,q⟩:=q1
 subst e
 cases r1 with
 |cons r rr=>
  cases rr with
  |cons r' rr=>
   cases rr
   cases r
   cases r'
   obtain⟨its,rv,p,_⟩:=I1.list qa
   obtain⟨jts,rv2,p2,_⟩:=I1.list qb
   have ln:=rv.length
   rw [List.length_map] at ln
   obtain⟨ws,w1,w2,w3⟩:=YW (P:=X.prog) (w:=X.w) rv rv2
   refine wpAny_mono (zda (knd:=yX X.prog X.w) (I1.ok.hd hc) p.isList p2.isList (more:=ws) (by simpa using w2) (fun j kv hj=>?_) (by rw [sizeLine_eq];omega) fun h' tk S hS dd kk=>?_) (fun v s2 z=>Calls.spliced_nil z) fun _ _ z=>z
   ·obtain⟨g1,g2⟩:=w3 j kv hj
    exact⟨fun x hx=>g1 x (by simpa using hx),fun y hy=>g2 y (by simpa using hy)⟩
   ·refine⟨.ref S,_,I1.laid (a:=S) (o:=.dK (xI [] (ug ks ys))) (t':=tk) kk hS ?_,rfl,q _ (I1.hok.fresh hS)⟩
    have hz2:(xI [] (ug ks ys)).length≤sizeLine:=by
     have h1:=x9 (ug ks ys) []
     rw [List.length_nil,zaT] at h1
     rw [sizeLine_eq];omega
    exact j7 hz2 (beq_eq_false_iff_ne.mpr (Ne.symm (Nat.ne_of_lt (Nat.lt_of_lt_of_le I1.big hS)))) (KV.merge w1 .nil) dd
end
section
variable {K:W.Frag}
def wDZ (T:TAW):TEW:=fun ρ O R=>T ρ O fun ws O1=>∃ w1 w2 ks us,ws=[w1,w2]/\yN O1 w1=some (ks.map fun k=>W.d (.str k))/\yN O1 w2=some us/\ks.length≤1000/\∀ p,O1 p=none->R (.own p) (updO O1 p (.dK (xX [] (ug ks us))))
theorem Vg {Γ:Gh}:∀ {ks:List Str}{xs:List V},relWs K Γ (ks.map fun k=>W.d (.str k)) xs->xs=ks.map V.str
 |[],_,h=>by cases h;rfl
 |k :: ks,_,h=>by
  cases h with
  |cons a b=>rw [show _=V.str k from a,Vg b];rfl
theorem Vh {Γ:Gh}:∀ {ks:List Str}{us:List W}{ys:List V},relWs K Γ us ys->y6 K Γ (ug ks us) (ug ks ys)
 |[],us,ys,h=>.nil
 |k :: ks,us,ys,h=>by
  cases h with
  |nil=>exact .nil
  |cons a b=>exact .cons ⟨rfl,a⟩ (Vh (ks:=ks) b)
theorem Kj {t:TA}{T:TAW}(h:xN K t T):RefE K (tDZ K t) (wDZ T):=by
 intro Γ O H ρ σ S r Q R hT k
 refine h _ _ _ _ _ S r _ _ hT fun Γ1 O1 H1 ws vs l1 S1 rs h1=>?_
 obtain⟨w1,w2,ks,us,rfl,e1,e2,kl,h1⟩:=h1
 cases rs with
 |cons rx t=>
  cases t with
  |cons ry t=>
   cases t
   obtain⟨a,xs,rfl,q1,q2⟩:=xv S1 rx e1
   obtain⟨b,ys,rfl,q3,q4⟩:=xv S1 ry e2
   cases Vg q2
   refine⟨a,b,ks,ys,rfl,q1,q3,kl,fun p hp=>?_⟩
   have S':=S1.newO hp (o:=.dK (xI [] (ug ks ys))) (oo:=.dK _) (by intro _ h;cases h) ⟨_,zC,ua (Vh (ks:=ks) q4) .nil⟩
   exact k _ _ _ _ _ l1 S' xP (h1 p (S1.free hp).2.1)
end
section
variable {K:W.Frag}
def ze9:W->List W->OM->WK->Prop:=fun x ws O R=>∃ a us y,x=.own a/\ws=[]/\O a=some (.lst us)/\us[us.length - 1]? =some y/\R y (updO O a (.lst us.dropLast))
theorem Paired.dropLastP {α β:Type}{F:α->β->Prop}{xs:List α}{ys:List β}(r:Paired F xs ys):Paired F xs.dropLast ys.dropLast:=by
 have e:ys.length=xs.length:=(Paired.length r).symm
 rw [List.dropLast_eq_take,List.dropLast_eq_take,e]
 exact Paired.takeP r _
theorem Paired.eraseP {α β:Type}{F:α->β->Prop}{xs:List α}{ys:List β}(r:Paired F xs ys):∀ k,Paired F (xs.eraseIdx k) (ys.eraseIdx k):=by
 induction r with
 |nil=>intro k;exact .nil
 |cons h t ih=>
  intro k
  cases k with
  |zero=>exact t
  |succ k=>exact .cons h (ih k)
theorem zfX {T:String}:RefM K T zd9 ze9:=by
 rintro Γ O H x v xs vs S rx rs Q R ⟨a,us,y,rfl,rfl,ho,hy,h⟩ k
 cases rs
 cases (show v=.ref a from rx)
 obtain⟨_,vs,q1,q2⟩:=S.o _ _ ho
 obtain⟨u,hu,ru⟩:=Paired.getP q2 hy
 rw [Paired.length q2] at hu
 exact⟨a,vs,u,rfl,rfl,q1,hu,k _ _ _ _ _ (Le.refl _) (S.put (oo:=.lst _) ho (by intro _ h;cases h) (by intro _ h;cases h) ⟨_,zC,Paired.dropLastP q2⟩) ru h⟩
def Kk:W->List W->OM->WK->Prop:=fun x ws O R=>∃ a us y,∃ n:Nat,x=.own a/\ws=[.d (.int n)]/\O a=some (.lst us)/\us[n]? =some y/\n≤1000/\R y (updO O a (.lst (us.eraseIdx n)))
theorem zdb {T:String}:RefM K T JE Kk:=by
 rintro Γ O H x v xs vs S rx rs Q R ⟨a,us,y,n,rfl,rfl,ho,hy,hn,h⟩ k
 cases rs with
 |cons rn t=>
  cases t
  cases (show v=.ref a from rx)
  obtain⟨_,vs,q1,q2⟩:=S.o _ _ ho
  obtain⟨u,hu,ru⟩:=Paired.getP q2 hy
  have hlt:n < vs.length:=(List.getElem?_eq_some_iff.mp hu).1
  refine⟨a,vs,n,n,u,rfl,by rw [show _=V.int n from rn],q1,by omega,by omega,?_,hu,k _ _ _ _ _ (Le.refl _) (S.put (oo:=.lst _) ho (by intro _ h;cases h) (by intro _ h;cases h) ⟨_,zC,Paired.eraseP q2 n⟩) ru h⟩
  unfold seqIndex?
  have h1:¬ ((n:Int) < 0):=by omega
  have h2:¬ ((n:Int) ≥ (vs.length:Int)):=by omega
  simp [h1,h2,hlt]
def Kl (K:W.Frag):List V->Hp->VK->Prop:=zby K
theorem UW {X:Cx}(h:X.K=K) (hg:X.A.guards=some []) (hu:X.A.units+64 < cLine):xy X (.builtin "repr") (Kl K):=by subst h;exact Qu hg hu
def zb3:List W->OM->WK->Prop:=fun xs O R=>∃ w d,xs=[w]/\vO O w=some d/\(isDisplay d && !d.hasDict)=true/\d.showable=true/\d.depth≤60/\d.shown.length≤sizeLine/\R (.d (.str d.shown)) O
theorem zfa:RefC K (Kl K) zb3:=by
 rintro Γ O H xs vs S rs Q R ⟨w,d,rfl,e,h1,h2,h3,h4,h⟩ k
 cases rs with
 |cons rx t=>
  cases t
  exact⟨d,_,rfl,uH S rx e,h1,h2,h3,h4,k _ _ _ _ _ (Le.refl _) S UK h⟩
theorem zdc {X:Cx}(hc:X.calm=true):xy X (.builtin "sorted") Qv:=XT hc
def zb4:List W->OM->WK->Prop:=fun xs O R=>∃ a kvs,∃ ns:List Int,xs=[.own a]/\O a=some (.dK kvs)/\kvs.map (·.1)=ns.map (Sum.inl:Int->Key)/\ns.length < 64/\R (.d (.list ((srt ns).map .int))) O
theorem zfb:RefC K Qv zb4:=by
 rintro Γ O H xs vs S rs Q R ⟨a,kvs,ns,rfl,ho,hk,hl,h⟩ k
 cases rs with
 |cons rx t=>
  cases t
  obtain⟨_,us,q1,q2⟩:=S.o _ _ ho
  refine⟨a,us,ns,by rw [show _=V.ref a from rx],q1,by rw [<- QO q2];exact hk,hl,fun p hp=>?_⟩
  obtain⟨Γ',l',S',r'⟩:=uI S (jC (srt ns)) hp
  exact k _ _ _ _ _ l' S' r' h
end
theorem qw {T1 T2 U:TSW}{D:EndsW}{ρ:WS}{O:OM}(J:WS->OM->Prop) (ht:∀ R:WS->OM->Prop,(∀ ρ' O',J ρ' O'->R ρ' O')->vG T1 T2 { D with nx:=R } ρ O) (hu:∀ ρ' O',J ρ' O'->U D ρ' O'):vG T1 (vG T2 U) D ρ O:=ht (U D) hu
structure MA where
 sp:Addr
 kq:Addr
 q:Addr
noncomputable def mW (A:MA) (S:ST):List (Key×W):=[(Sum.inr "wide",.d (.int S.w)),(Sum.inr "high",.d (.int S.h)),(Sum.inr "row",.d (.int S.row)),(Sum.inr "column",.d (.int S.col)),(Sum.inr "late",.d (.bool S.late)),(Sum.inr "ink",.d (.int S.ink)),(Sum.inr "wrap",.d (.bool S.wrap)),(Sum.inr "insert",.d (.bool S.putting)),(Sum.inr "home",.d (.bool S.home)),(Sum.inr "top",.d (.int S.top)),(Sum.inr "bottom",.d (.int S.bottom)),(Sum.inr "left",.d (.int S.left)),(Sum.inr "right",.d (.int S.right)),(Sum.inr "stops",.own A.sp),(Sum.inr "kept",.own A.kq),(Sum.inr "last",.d S.last),(Sum.inr "cells",.own A.q)]
section
variable {A:MA}{S:ST}
theorem yB:(mW A S).length= 17:=rfl
theorem yo:xJ (mW A S) (Sum.inr (Str.ofString "wide"))=some (W.d (.int S.w)):=rfl
theorem yp:xJ (mW A S) (Sum.inr (Str.ofString "high"))=some (W.d (.int S.h)):=rfl
theorem yC:xJ (mW A S) (Sum.inr (Str.ofString "row"))=some (W.d (.int S.row)):=rfl
theorem zU:xJ (mW A S) (Sum.inr (Str.ofString "column"))=some (W.d (.int S.col)):=rfl
theorem yq:xJ (mW A S) (Sum.inr (Str.ofString "late"))=some (W.d (.bool S.late)):=rfl
theorem yD:xJ (mW A S) (Sum.inr (Str.ofString "ink"))=some (W.d (.int S.ink)):=rfl
theorem yr:xJ (mW A S) (Sum.inr (Str.ofString "wrap"))=some (W.d (.bool S.wrap)):=rfl
theorem zV:xJ (mW A S) (Sum.inr (Str.ofString "insert"))=some (W.d (.bool S.putting)):=rfl
theorem yt:xJ (mW A S) (Sum.inr (Str.ofString "home"))=some (W.d (.bool S.home)):=rfl
theorem yE:xJ (mW A S) (Sum.inr (Str.ofString "top"))=some (W.d (.int S.top)):=rfl
theorem zW:xJ (mW A S) (Sum.inr (Str.ofString "bottom"))=some (W.d (.int S.bottom)):=rfl
theorem yu:xJ (mW A S) (Sum.inr (Str.ofString "left"))=some (W.d (.int S.left)):=rfl
theorem ya:xJ (mW A S) (Sum.inr (Str.ofString "right"))=some (W.d (.int S.right)):=rfl
theorem yb:xJ (mW A S) (Sum.inr (Str.ofString "stops"))=some (W.own A.sp):=rfl
theorem yv:xJ (mW A S) (Sum.inr (Str.ofString "kept"))=some (W.own A.kq):=rfl
theorem yy {x:Int}:xm (mW A S) (Sum.inr (Str.ofString "row")) (.d (.int x))=mW A { S with row:=x }:=rfl
theorem zR {x:Int}:xm (mW A S) (Sum.inr (Str.ofString "column")) (.d (.int x))=mW A { S with col:=x }:=rfl
theorem yi {x:Bool}:xm (mW A S) (Sum.inr (Str.ofString "late")) (.d (.bool x))=mW A { S with late:=x }:=rfl
theorem yz {x:Int}:xm (mW A S) (Sum.inr (Str.ofString "ink")) (.d (.int x))=mW A { S with ink:=x }:=rfl
theorem yj {x:Bool}:xm (mW A S) (Sum.inr (Str.ofString "wrap")) (.d (.bool x))=mW A { S with wrap:=x }:=rfl
theorem zS {x:Bool}:xm (mW A S) (Sum.inr (Str.ofString "insert")) (.d (.bool x))=mW A { S with putting:=x }:=rfl
theorem yk {x:Bool}:xm (mW A S) (Sum.inr (Str.ofString "home")) (.d (.bool x))=mW A { S with home:=x }:=rfl
theorem yA {x:Int}:xm (mW A S) (Sum.inr (Str.ofString "top")) (.d (.int x))=mW A { S with top:=x }:=rfl
theorem zT {x:Int}:xm (mW A S) (Sum.inr (Str.ofString "bottom")) (.d (.int x))=mW A { S with bottom:=x }:=rfl
theorem yl {x:Int}:xm (mW A S) (Sum.inr (Str.ofString "left")) (.d (.int x))=mW A { S with left:=x }:=rfl
theorem zZ {x:Int}:xm (mW A S) (Sum.inr (Str.ofString "right")) (.d (.int x))=mW A { S with right:=x }:=rfl
theorem z7 {r:Addr}:xm (mW A S) (Sum.inr (Str.ofString "stops")) (.own r)=mW { A with sp:=r } S:=rfl
theorem ym {r:Addr}:xm (mW A S) (Sum.inr (Str.ofString "kept")) (.own r)=mW { A with kq:=r } S:=rfl
theorem UX {x:PyData}:xm (mW A S) (Sum.inr (Str.ofString "last")) (.d x)=mW A { S with last:=x }:=rfl
theorem zaU {r:Addr}:xm (mW A S) (Sum.inr (Str.ofString "cells")) (.own r)=mW { A with q:=r } S:=rfl
end
noncomputable def kpL (k:KP):PyData:=.list [.int k.row,.int k.col,.bool k.late,.int k.ink,.bool k.wrap,.bool k.putting,.bool k.home]
structure MAt (O:OM) (d:Addr) (A:MA) (S:ST):Prop where
 d:O d=some (.dK (mW A S))
 sp:O A.sp=some (.lst ((S.stops.map .int).map .d))
 kq:O A.kq=some (.lst ((S.kept.map kpL).map .d))
def ButO (O O':OM) (xs:List Addr):Prop:=∀ b,b ∉ xs->O b≠none->O' b=O b
section
variable {O O' O1:OM}{C x dx p st kp d:Addr}{A:MA}{S S' S1:ST}{xs:List Addr}
theorem ButO.refl:ButO O O xs:=fun _ _ _=>rfl
theorem ButO.trans (a:ButO O O1 xs) (b:ButO O1 O' xs):ButO O O' xs:=fun c h1 h2=>by
 have e:=a c h1 h2
 rw [b c h1 (by rw [e];exact h2),e]
theorem ButO.upd {o:OO}{a:Addr}(h:a∈xs):ButO O (updO O a o) xs:=fun b hb _=>ze fun e=>hb (by rw [e];exact h)
theorem ButO.new {o:OO}{a:Addr}(h:O a=none):ButO O (updO O a o) xs:=fun b _ hb=>ze fun e=>hb (by rw [e];exact h)
theorem ButO.old (h:ButO O O' xs):∀ {b:Addr}{o:OO},O b=some o->b ∉ xs->O' b=some o:=fun {b o} e hb=>by rw [h b hb (by rw [e];simp),e]
theorem ButO.mono {ys:List Addr}(h:ButO O O' xs) (m:∀ b∈xs,b∈ys):ButO O O' ys:=fun b hb h0=>h b (fun z=>hb (m b z)) h0
theorem But.butO (h:But O O' x p):ButO O O' [x,p]:=fun b hb _=>h b (fun e=>hb (by simp [e])) (fun e=>hb (by simp [e]))
theorem Old.butO (h:Old O O'):ButO O O' xs:=fun b _ hb=>h b hb
theorem ButO.nn (h:ButO O O' xs) {b:Addr}(hb:O' b=none) (hx:b ∉ xs):O b=none:=by
 cases e:O b with
 |none=>rfl
 |some o=>rw [h b hx (by rw [e];simp),e] at hb;cases hb
theorem MAt.ds (m:MAt O d A S):d≠A.sp:=neW m.d m.sp (by intro h;cases h)
theorem MAt.dk (m:MAt O d A S):d≠A.kq:=neW m.d m.kq (by intro h;cases h)
theorem MAt.fld (m:MAt O d A S) (hs:S'.stops=S.stops:=by rfl) (hk:S'.kept=S.kept:=by rfl):MAt (updO O d (.dK (mW A S'))) d A S':=
 ⟨zc,by rw [ze (Ne.symm m.ds),hs];exact m.sp,by rw [ze (Ne.symm m.dk),hk];exact m.kq⟩
theorem MAt.butO (m:MAt O d A S) (h:ButO O O' xs) (h1:d ∉ xs) (h2:A.sp ∉ xs) (h3:A.kq ∉ xs):MAt O' d A S:=
 ⟨h.old m.d h1,h.old m.sp h2,h.old m.kq h3⟩
theorem StAt.butO (s:StAt O C x dx p st kp S) (h:ButO O O' xs) (h1:x ∉ xs) (h2:p ∉ xs) (h3:st ∉ xs) (h4:kp ∉ xs):StAt O' C x dx p st kp S:=
 ⟨h.old s.x h1,h.old s.p h2,h.old s.st h3,h.old s.kp h4⟩
structure Tw (O:OM) (C x dx p st kp d:Addr) (A:MA) (S S':ST):Prop where
 s:StAt O C x dx p st kp S
 m:MAt O d A S'
 ds:d≠st
 ak:A.sp≠kp
 bk:A.kq≠kp
 ab:A.sp≠A.kq
theorem Tw.st' (t:Tw O C x dx p st kp d A S S') (h:StAt O' C x dx p st kp S1) (b:ButO O O' [x,p,st,kp]):Tw O' C x dx p st kp d A S1 S':=by
 refine⟨h,t.m.butO b ?_ ?_ ?_,t.ds,t.ak,t.bk,t.ab⟩
 ·simp only [List.mem_cons,List.not_mem_nil,or_false,not_or]
  exact⟨neW t.m.d t.s.x (by intro h;cases h),neW t.m.d t.s.p (by intro h;cases h),t.ds,neW t.m.d t.s.kp (by intro h;cases h)⟩
 ·simp only [List.mem_cons,List.not_mem_nil,or_false,not_or]
  exact⟨neW t.m.sp t.s.x (by intro h;cases h),neW t.m.sp t.s.p (by intro h;cases h),neW t.m.sp t.s.st (by intro h;cases h),t.ak⟩
 ·simp only [List.mem_cons,List.not_mem_nil,or_false,not_or]
  exact⟨neW t.m.kq t.s.x (by intro h;cases h),neW t.m.kq t.s.p (by intro h;cases h),neW t.m.kq t.s.st (by intro h;cases h),t.bk⟩
theorem Tw.m' (t:Tw O C x dx p st kp d A S S') (h:MAt O' d A S1) (b:ButO O O' [d,A.kq]):Tw O' C x dx p st kp d A S S1:=by
 refine⟨t.s.butO b ?_ ?_ ?_ ?_,h,t.ds,t.ak,t.bk,t.ab⟩
 ·simp only [List.mem_cons,List.not_mem_nil,or_false,not_or]
  exact⟨neW t.s.x t.m.d (by intro h;cases h),neW t.s.x t.m.kq (by intro h;cases h)⟩
 ·simp only [List.mem_cons,List.not_mem_nil,or_false,not_or]
  exact⟨neW t.s.p t.m.d (by intro h;cases h),neW t.s.p t.m.kq (by intro h;cases h)⟩
 ·simp only [List.mem_cons,List.not_mem_nil,or_false,not_or]
  exact⟨Ne.symm t.ds,neW t.s.st t.m.kq (by intro h;cases h)⟩
 ·simp only [List.mem_cons,List.not_mem_nil,or_false,not_or]
  exact⟨neW t.s.kp t.m.d (by intro h;cases h),Ne.symm t.bk⟩
theorem Tw.old (t:Tw O C x dx p st kp d A S S') (h:Old O O'):Tw O' C x dx p st kp d A S S':=
 (t.st' (t.s.butO (h.butO (xs:=[])) (by simp) (by simp) (by simp) (by simp)) h.butO)
end
theorem uL:((⟨#[117]⟩:Str)=Str.ofString "u")=True:=eq_true (by decide +kernel)
theorem uM:((⟨#[117]⟩:Str)=Str.ofString "d")=False:=eq_false (by decide +kernel)
theorem uN:((⟨#[117]⟩:Str)=Str.ofString "l")=False:=eq_false (by decide +kernel)
theorem uO:((⟨#[117]⟩:Str)=Str.ofString "r")=False:=eq_false (by decide +kernel)
theorem uP:((⟨#[100]⟩:Str)=Str.ofString "u")=False:=eq_false (by decide +kernel)
theorem uQ:((⟨#[100]⟩:Str)=Str.ofString "d")=True:=eq_true (by decide +kernel)
theorem uR:((⟨#[100]⟩:Str)=Str.ofString "l")=False:=eq_false (by decide +kernel)
theorem uS:((⟨#[100]⟩:Str)=Str.ofString "r")=False:=eq_false (by decide +kernel)
theorem uT:((⟨#[108]⟩:Str)=Str.ofString "u")=False:=eq_false (by decide +kernel)
theorem uU:((⟨#[108]⟩:Str)=Str.ofString "d")=False:=eq_false (by decide +kernel)
theorem uV:((⟨#[108]⟩:Str)=Str.ofString "l")=True:=eq_true (by decide +kernel)
theorem uW:((⟨#[108]⟩:Str)=Str.ofString "r")=False:=eq_false (by decide +kernel)
theorem uX:((⟨#[114]⟩:Str)=Str.ofString "u")=False:=eq_false (by decide +kernel)
theorem uY:((⟨#[114]⟩:Str)=Str.ofString "d")=False:=eq_false (by decide +kernel)
theorem uZ:((⟨#[114]⟩:Str)=Str.ofString "l")=False:=eq_false (by decide +kernel)
theorem u4:((⟨#[114]⟩:Str)=Str.ofString "r")=True:=eq_true (by decide +kernel)
theorem u5:((⟨#[109]⟩:Str)=Str.ofString "m")=True:=eq_true (by decide +kernel)
theorem jd:((⟨#[77]⟩:Str)=Str.ofString "m")=False:=eq_false (by decide +kernel)
noncomputable def goS (c:Nat) (n:Int) (S:ST):ST:=
 if c= 117 then { S with row:=if eT S > S.row - n then eT S else S.row - n } else if c= 100 then { S with row:=if eB S < S.row+n then eB S else S.row+n }
 else if c= 108 then { S with col:=if eL S > S.col - n then eL S else S.col - n } else if c= 114 then { S with col:=if eR S < S.col+n then eR S else S.col+n } else S
noncomputable def offS (S:ST):ST:={ S with late:=false }
def ltr (c:Nat):Prop:=c= 117\/c= 100\/c= 108\/c= 114
def zaV (C:Addr):SpW:=fun ws O R=>∃ c n,ltr c/\NumD n/\sSt C [.d (.str ⟨#[c]⟩),.d n] (fun _=>True) (fun S=>offS (goS c (oneD n) S)) ws O R
noncomputable def u6 (S:ST):KP:=⟨S.row,S.col,S.late,S.ink,S.wrap,S.putting,S.home⟩
noncomputable def keepS (S:ST):ST:={ S with kept:=(if S.kept.length < 8 then S.kept else S.kept.drop 1) ++ [u6 S] }
noncomputable def backS (S:ST):ST:=match S.kept[S.kept.length - 1]? with
 |some k=>{ S with row:=k.row,col:=k.col,late:=k.late,ink:=k.ink,wrap:=k.wrap,putting:=k.putting,home:=k.home,kept:=S.kept.dropLast }
 |none=>S
inductive sKeep (C:Addr) (f:ST->ST) (ws:List W) (O:OM) (R:WK):Prop
 |mk:∀ x dx p st kp S,ws=[.own x]->StAt O C x dx p st kp S->S.kept.length≤8->(∀ O',StAt O' C x dx p st kp (f S)->ButO O O' [x,kp]->R (.d .none) O')->sKeep C f ws O R
theorem yS {c:TTW}{T U:TSW}{D:EndsW}{ρ:WS}{O:OM}(q:Prop) [Decidable q] (hc:∀ R:Bool->OM->Prop,R (decide q) O->c ρ O R) (ht:q->T D ρ O) (hu:¬ q->U D ρ O):X0 c T U D ρ O:=by
 refine hc _ ?_
 show if decide q=true then T D ρ O else U D ρ O
 by_cases h:q
 ·rw [if_pos (decide_eq_true h)];exact ht h
 ·rw [if_neg (by simp [h])];exact hu h
theorem yP {K:W.Frag}{C:Addr}{Tv:TEW}{U:TSW}{D:EndsW}{ρ:WS}{O:OM}{i:Nat}{x dx:Addr}{fs fs':List (Str×W)}{y:W}{fn:Str}(hc:Cls K C) (hn:NoAttr K C fn) (e:xf fn y fs=fs') (hv:∀ R:WK,R y (updO O x (.ins C dx fs))->Tv ρ (updO O x (.ins C dx fs)) R) (hl:fs.length < 1000) (hr:ρ[i]? =some (some (.own x))) (h:U D ρ (updO O x (.ins C dx fs'))):vG (Xu K (Zv i) Tv fn) U D ρ (updO O x (.ins C dx fs)):=by
 refine hv _ ?_
 show Zv i ρ _ _
 unfold Zv
 rw [hr]
 refine⟨C,dx,fs,zc,hc,hn,hl,?_⟩
 show U D ρ _
 rw [zy,e]
 exact h
theorem Yw {O:OM}{x:Addr}{o:OO}(h:O x=some o):O=updO O x o:=by
 funext b
 by_cases e:b=x
 ·rw [e,zc,h]
 ·rw [ze e]
inductive sM (args:List W) (pre:ST->Prop) (f:ST->ST) (ws:List W) (O:OM) (R:WK):Prop
 |mk:∀ d A S,ws=.own d :: args->MAt O d A S->pre S->(∀ O',MAt O' d A (f S)->ButO O O' [d]->R (.d .none) O')->sM args pre f ws O R
def sPlacedM:SpW:=fun ws O R=>∃ r c,NumD r/\NumD c/\sM [.d r,.d c] (fun _=>True) (plS r c) ws O R
inductive sEdgesM (ws:List W) (O:OM) (R:WK):Prop
 |mk:∀ d A S,ws=[.own d]->O d=some (.dK (mW A S))->R (.d (.tuple [.int (eT S),.int (eB S),.int (eL S),.int (eR S)])) O->sEdgesM ws O R
def sSteppedM:SpW:=fun ws O R=>∃ c n,ltr c/\NumD n/\sM [.d (.str ⟨#[c]⟩),.d n] Bds (fun S=>offS (goS c (oneD n) S)) ws O R
noncomputable def winS (c:Nat) (a b:PyData) (S:ST):ST:=if c= 109 then rowsS a b S else colsS a b S
def sWindowM:SpW:=fun ws O R=>∃ c a b,(c= 109\/c= 77)/\NumD a/\NumD b/\sM [.d (.str ⟨#[c]⟩),.d a,.d b] (fun _=>True) (winS c a b) ws O R
def sModedM:SpW:=fun ws O R=>∃ k on,(k= 1\/k= 2\/k= 3)/\sM [.d (.tuple [.int k]),.d (.bool on)] (fun _=>True) (modeS k on) ws O R
def sDyedM:SpW:=fun ws O R=>∃ ns:List PyData,(∀ n∈ns,∃ i:Int,n=.int i/\0≤i/\i≤27)/\sM [.d (.tuple ns)] (fun S=>Ink S.ink) (dyeS ns) ws O R
noncomputable def tellL (S:ST):List PyData:=[.int S.w,.int S.h,.int S.row,.int S.col,.bool S.late,.int S.ink,.bool S.wrap,.bool S.putting,.bool S.home,.int S.top,.int S.bottom,.int S.left,.int S.right,.list ((srt S.stops).map .int)]
inductive sTold (C:Addr) (ws:List W) (O:OM) (R:WK):Prop
 |mk:∀ x dx p st kp S,ws=[.own x]->StAt O C x dx p st kp S->S.stops.length < 64->R (.d (.list (tellL S))) O->sTold C ws O R
inductive sDue (ws:List W) (O:OM) (R:WK):Prop
 |mk:∀ d A S,ws=[.own d]->MAt O d A S->S.stops.length < 64->R (.d (.list (tellL S))) O->sDue ws O R
inductive sMixM (ws:List W) (O:OM) (R:WK):Prop
 |mk:∀ c k:Int,ws=[.d (.int c),.d (.int k)]->0≤k->k≤1000->(∀ n:Int,0≤n->n < 100000000->R (.d (.int n)) O)->sMixM ws O R
inductive sSizeM (ws:List W) (O:OM) (R:WK):Prop
 |mk:∀ c:Int,ws=[.d (.int c)]->0≤c->(∀ w h:Nat,1≤w->w≤24->1≤h->h≤12->R (.d (.tuple [.int w,.int h])) O)->sSizeM ws O R
inductive sNumM (ws:List W) (O:OM) (R:WK):Prop
 |mk:∀ c:Int,ws=[.d (.int c)]->0≤c->(∀ n,NumD n->R (.d n) O)->sNumM ws O R
inductive sBegunM (ws:List W) (O:OM) (R:WK):Prop
 |mk:∀ w h:Nat,ws=[.d (.int w),.d (.int h)]->1≤w->w≤24->1≤h->h≤12->(∀ d sp O',O d=none->O sp=none->d≠sp->O' d=some (.dK ((mW ⟨sp,sp,sp⟩ (st0 w h fun _ _=>blank 0)).take 14))->O' sp=some (.lst (((stopsI w).map .int).map .d))->Old O O'->R (.own d) O')->sBegunM ws O R
theorem kY {n:PyData}{a b:Int}(h:a≤b):a≤qE n a b/\qE n a b≤b:=by
 have:=uz (n:=n)
 unfold qE
 split <;> omega
theorem Bds.pl {r c:PyData}{S:ST}(h:Bds S):Bds (plS r c S):=by
 have t:=h.tb;have t0:=h.t0;have b1:=h.b1;have lr:=h.lr;have l0:=h.l0;have rr:=h.rr;have w1:=h.w1;have h1:=h.h1
 have a1:=kY (n:=r) t
 have a2:=kY (n:=c) lr
 have a3:=kY (n:=r) (show (0:Int)≤S.h - 1 by omega)
 have a4:=kY (n:=c) (show (0:Int)≤S.w - 1 by omega)
 unfold plS
 split
 ·exact { h with r0:=by simp only;omega,r1:=by simp only;omega,c0:=by simp only;omega,c1:=by simp only;omega }
 ·exact { h with r0:=by simp only;omega,r1:=by simp only;omega,c0:=by simp only;omega,c1:=by simp only;omega }
theorem UY {m:PyData}{s:Int}:xi m s≤s:=by
 unfold xi
 split
 ·split
  ·omega
  ·split <;> omega
 ·omega
theorem Bds.rows {a b:PyData}{S:ST}(h:Bds S):Bds (rowsS a b S):=by
 have o:=uz (n:=a)
 have e:=UY (m:=b) (s:=S.h)
 unfold rowsS
 split
 ·exact h
 ·exact Bds.pl { h with t0:=by simp only;omega,tb:=by simp only;omega,b1:=by simp only;omega }
theorem Bds.cols {a b:PyData}{S:ST}(h:Bds S):Bds (colsS a b S):=by
 have o:=uz (n:=a)
 have e:=UY (m:=b) (s:=S.w)
 unfold colsS
 split
 ·exact h
 ·exact Bds.pl { h with l0:=by simp only;omega,lr:=by simp only;omega,rr:=by simp only;omega }
theorem Bds.win {c:Nat}{a b:PyData}{S:ST}(h:Bds S):Bds (winS c a b S):=by unfold winS;split;exact h.rows;exact h.cols
theorem Bds.mode {k:Int}{on:Bool}{S:ST}(h:Bds S):Bds (modeS k on S):=by
 unfold modeS
 split
 ·exact { h with }
 ·split
  ·exact { h with }
  ·split
   ·exact Bds.pl { h with }
   ·exact h
theorem Bds.dye {ns:List PyData}{S:ST}(h:Bds S):Bds (dyeS ns S):=by
 have key:∀ (ns:List PyData) (i:Int),Ink i->Ink (ns.foldl dyeI i):=fun ns=>by
  induction ns with
  |nil=>exact fun i h=>h
  |cons n ns ih=>exact fun i h=>ih _ (Zu h)
 have:=key ns S.ink ⟨h.i0,h.i1⟩
 exact { h with i0:=this.1,i1:=this.2 }
theorem Xv {S:ST}(h:Bds S):0≤eT S/\eT S≤S.row:=by
 have:=h.t0;have:=h.r0
 unfold eT;split <;> omega
theorem Xw {S:ST}(h:Bds S):S.row≤eB S/\eB S < S.h:=by
 have:=h.b1;have:=h.r1
 unfold eB;split <;> omega
theorem kZ {S:ST}(h:Bds S):eL S≤S.col:=by
 have:=h.c0
 unfold eL;split <;> omega
theorem Bds.goS {c:Nat}{n:Int}{S:ST}(hn:0≤n) (h:Bds S):Bds (goS c n S):=by
 have t:=Xv h;have b:=Xw h;have l:=jA h;have l2:=kZ h;have r:=qv h
 have:=h.r0;have:=h.r1;have:=h.c0;have:=h.c1
 unfold L2.goS
 repeat' split
 all_goals first |exact h |exact { h with r0:=by simp only;omega,r1:=by simp only;omega } |exact { h with c0:=by simp only;omega,c1:=by simp only;omega }
def KOk (S:ST):Prop:=S.kept.length≤8/\∀ k∈S.kept,0≤k.row/\k.row < S.h/\0≤k.col/\k.col < S.w/\Ink k.ink
theorem KOk.keep {S:ST}(h:KOk S) (b:Bds S):KOk (keepS S):=by
 refine⟨?_,fun k hk=>?_⟩
 ·unfold keepS
  simp only [List.length_append,List.length_singleton]
  split
  ·omega
  ·rw [List.length_drop];have:=h.1;omega
 ·unfold keepS at hk
  simp only [List.mem_append,List.mem_singleton] at hk
  rcases hk with hk |rfl
  ·split at hk
   ·exact h.2 k hk
   ·exact h.2 k (List.mem_of_mem_drop hk)
  ·exact⟨b.r0,b.r1,b.c0,b.c1,b.i0,b.i1⟩
theorem UZ {S:ST}(h:KOk S) (b:Bds S):KOk (backS S)/\Bds (backS S):=by
 unfold backS
 split
 ·rename_i k hk
  obtain⟨r0,r1,c0,c1,i0,i1⟩:=h.2 k (List.mem_of_getElem? hk)
  exact⟨⟨by simp;have:=h.1;omega,fun z hz=>h.2 z (List.dropLast_subset _ hz)⟩,{ b with r0:=r0,r1:=r1,c0:=c0,c1:=c1,i0:=i0,i1:=i1 }⟩
 ·exact⟨h,b⟩
theorem zdd {S:ST}(h:Bds S) (hn:∀ i∈S.stops,Sh i) (hl:S.stops.length < 64):(PyData.list (tellL S)).showable=true/\(PyData.list (tellL S)).depth≤60/\(PyData.list (tellL S)).shown.length≤sizeLine:=by
 have w1:=h.w1;have w2:=h.w2;have h1:=h.h1;have h2:=h.h2;have r0:=h.r0;have r1:=h.r1;have c0:=h.c0;have c1:=h.c1;have t0:=h.t0;have tb:=h.tb;have b1:=h.b1;have l0:=h.l0;have lr:=h.lr;have rr:=h.rr;have i0:=h.i0;have i1:=h.i1
 unfold tellL
 refine zem ⟨?_,?_⟩ ⟨?_,?_⟩ ⟨?_,?_⟩ ⟨?_,?_⟩ ⟨?_,?_⟩ ⟨?_,?_⟩ ⟨?_,?_⟩ ⟨?_,?_⟩ ⟨?_,?_⟩ (fun i hi=>hn i ((List.mergeSort_perm _ _).mem_iff.1 hi)) (by rw [show (srt S.stops).length=S.stops.length from (List.mergeSort_perm _ _).length_eq];exact hl) <;> omega
structure All20 (O:OM) (C x dx p st kp d:Addr) (A:MA) (S:ST):Prop where
 t:Tw O C x dx p st kp d A S S
 b:Bds S
 k:KOk S
 s:S.stops=stopsI S.w
def Far (O O':OM) (x p st kp d:Addr) (A:MA):Prop:=ButO O O' [x,p,st,kp,d,A.sp,A.kq]
section
variable {O O':OM}{C x dx p st kp d:Addr}{A:MA}{S:ST}{r c:PyData}{n:Nat}{k:Int}{on:Bool}{ns:List PyData}
theorem Ya:(plS r c S).w=S.w/\(plS r c S).h=S.h/\(plS r c S).stops=S.stops/\(plS r c S).kept=S.kept:=by unfold plS;split <;> exact⟨rfl,rfl,rfl,rfl⟩
theorem zde:(rowsS r c S).w=S.w/\(rowsS r c S).h=S.h/\(rowsS r c S).stops=S.stops/\(rowsS r c S).kept=S.kept:=by unfold rowsS;split;exact⟨rfl,rfl,rfl,rfl⟩;exact Ya
theorem zdf:(colsS r c S).w=S.w/\(colsS r c S).h=S.h/\(colsS r c S).stops=S.stops/\(colsS r c S).kept=S.kept:=by unfold colsS;split;exact⟨rfl,rfl,rfl,rfl⟩;exact Ya
theorem zdg:(modeS k on S).w=S.w/\(modeS k on S).h=S.h/\(modeS k on S).stops=S.stops/\(modeS k on S).kept=S.kept:=by
 unfold modeS
 split
 ·exact⟨rfl,rfl,rfl,rfl⟩
 ·split
  ·exact⟨rfl,rfl,rfl,rfl⟩
  ·split
   ·exact Ya
   ·exact⟨rfl,rfl,rfl,rfl⟩
theorem zfY:(offS (goS n k S)).w=S.w/\(offS (goS n k S)).h=S.h/\(offS (goS n k S)).stops=S.stops/\(offS (goS n k S)).kept=S.kept:=by
 unfold goS
 repeat' split
 all_goals exact⟨rfl,rfl,rfl,rfl⟩
theorem KOk.of {S S':ST}(h:KOk S) (e:S'.w=S.w/\S'.h=S.h/\S'.stops=S.stops/\S'.kept=S.kept):KOk S':=by
 obtain⟨e1,e2,_,e4⟩:=e
 unfold KOk
 rw [e1,e2,e4]
 exact h
theorem All20.of {S':ST}(a:All20 O C x dx p st kp d A S) (t:Tw O' C x dx p st kp d A S' S') (b:Bds S') (e:S'.w=S.w/\S'.h=S.h/\S'.stops=S.stops/\S'.kept=S.kept):All20 O' C x dx p st kp d A S':=
 ⟨t,b,a.k.of e,by rw [e.2.2.1,e.1];exact a.s⟩
theorem Far.refl:Far O O x p st kp d A:=ButO.refl
theorem Far.trans {O1:OM}(a:Far O O1 x p st kp d A) (b:Far O1 O' x p st kp d A):Far O O' x p st kp d A:=ButO.trans a b
theorem But.far (h:But O O' x p):Far O O' x p st kp d A:=h.butO.mono (by intro b hb;simp only [List.mem_cons,List.not_mem_nil,or_false] at hb;rcases hb with rfl |rfl <;> simp)
theorem Old.far (h:Old O O'):Far O O' x p st kp d A:=h.butO
theorem Tw.kp' {S' S1:ST}(t:Tw O C x dx p st kp d A S S') (h:StAt O' C x dx p st kp S1) (b:ButO O O' [x,kp]):Tw O' C x dx p st kp d A S1 S':=t.st' h (b.mono (by intro b hb;simp only [List.mem_cons,List.not_mem_nil,or_false] at hb;rcases hb with rfl |rfl <;> simp))
end
end L2
namespace L2
open PySem PySem.Spec PyProof.Rows PySem.Builtin PySem.Builtin.Str
section
variable {K:W.Frag}
def zb5:R2:=zea
theorem zdh {X:Cx}:OpR X (binaryOp .Mult) zb5:=zeb
theorem Zf {Γ:Gh}:∀ {ds:List PyData}{vs:List V},Reps K Γ.Z ds vs->relWs K Γ (ds.map W.d) vs
 |[],_,h=>by
  cases (show _=[] from h)
  exact .nil
 |d :: ds,_,h=>by
  obtain⟨v,vs,rfl,h1,h2⟩:=h
  exact .cons h1 (Zf h2)
end
noncomputable def zgP:Str:=⟨#[58]⟩
noncomputable def nl:Str:=⟨#[10]⟩
def okW (r:Rw6):Prop:=1≤r.length/\r.length≤24/\okR r/\∀ c∈r,0≤c.2/\c.2 < 512
end L2
namespace L2
open PySem PySem.Spec PyProof.Rows
section
variable {X:Cx}{K:W.Frag}{e:Expr}{te:TE}{lo hi:Option Expr}{tl th:TO}{pos p2:Pos}
def gSl (K:W.Frag) (te:TE) (tl th:TO):TG:=fun v σ H Q=>te σ H fun o H1=>tl σ H1 fun l H2=>th σ H2 fun u H3=>
 ∃ p b xs ys a c,o=.ref p/\v=.ref b/\l=some a/\u=some c/\H3 p=some (.lst xs)/\SqL K H3 b ys/\(K.lookup b=none->p≠b)/\0≤a/\a≤c/\c≤(xs.length:Int)/\xs.length+ys.length≤sizeLine/\Q σ (upd H3 p (.lst (xs.take a.toNat ++ ys ++ xs.drop c.toNat)))
theorem Vi (hK:X.K=K) (he:PE X e te) (hl:PO X lo tl) (hu:PO X hi th)
    (ha:∀ v,assign (.Subscript e (.Slice lo hi none p2) pos) X.env v=(do
      let ov <- holding [v] (eval e X.env)
      let iv <- holding [v,ov] (eval (.Slice lo hi none p2) X.env)
      standAt pos
      holding [v,ov,iv] (setItem ov iv v)
      release [iv,v,ov] []):=by intro _;rfl):PG X (.Subscript e (.Slice lo hi none p2) pos) (gSl K te tl th):=by
  subst hK
  intro pins s σ H v u Q I r h
  rw [ha]
  refine wpAny_bind (wpAny_holding (thn (he pins s σ H _ I h) fun ov s1 ⟨x,H1,I1,r1,q1⟩=>?_))
  refine wpAny_bind (wpAny_holding ?_)
  refine wpAny_Slice (thn (hl pins s1 σ H1 _ I1 q1) fun vl s2 ⟨l,H2,I2,pl,q2⟩=>thn (hu pins s2 σ H2 _ I2 q2) fun vu s3 ⟨uu,H3,I3,pu,q3⟩=>?_)
  rw [evalPart_none]
  refine wpAny_pure ?_
  obtain⟨p,b,xs,ys,a,c,rfl,rfl,rfl,rfl,hp,hb,hne,h0,hac,hc,hz,q⟩:=q3
  have hpb:p≠b:=fun e=>by
    cases hk:X.K.lookup b with
    |none=>exact hne hk e
    |some o=>
      have:=(I3.bs b o (I3.mod.kin b o hk)).2
      rw [<- e,hp] at this
      cases this
  cases r1
  cases r
  cases pl with
  |int _ ta=>
    cases pu with
    |int _ tc=>
      have I4:Inv X pins σ H3 { s3 with heap:=s3.heap.push { cls:=.type "slice",data:=.fields #[.int a ta,.int c tc,.none] } }:=I3.kept (t':=s3.toks) fun b ob q=>Heap.get?_push_of_some _ q
      refine wpAny_bind (wpAny_standAt (wpAny_bind (wpAny_holding (JG I4 hp hb hpb (Heap.IsSliceOf.new ..) ⟨ta,rfl⟩ ⟨tc,rfl⟩ h0 hac hc hz fun s' I'=>?_))))
      exact wpAny_release ⟨σ,_,I',q⟩
end
section
variable {K:W.Frag}{Γ:Gh}{O:OM}{H:Hp}
theorem Sim.rowTo (S:Sim K Γ O H) {a r:Addr}{rows:List (List PyData)}{rs:List Addr}{i:Nat}{ds es:List PyData}{vs us:List V}(h0:O a=some (.grid rows)) (hg:Γ.G a=some rs) (hr:rs[i]? =some r) (hd:rows[i]? =some ds)
  (hv:H r=some (.lst vs)) (rx:Reps K Γ.Z es us):Sim K Γ (updO O a (.grid (rows.set i es))) (upd H r (.lst us)):=by
 obtain⟨hz,rs',hg',h1,hl,hn,hrow⟩:=S.o _ _ h0
 rw [hg] at hg'
 cases hg'
 obtain⟨z1,z2,vs',z3,z4⟩:=hrow i r ds hr hd
 rw [hv] at z3
 cases z3
 have har:a≠r:=fun e=>by rw [<- e,h0] at z2;cases z2
 have nF:∀ b o',Γ.F b=some o'->b≠r:=fun b o' e z=>(S.fd b o' e).2.2 a rows rs h0 hg (by rw [z];exact List.mem_of_getElem? hr)
 have nFa:∀ b o',Γ.F b=some o'->b≠a:=fun b o' e z=>by
  have:=(S.fd b o' e).2.1
  rw [z,h0] at this;cases this
 have kg:∀ {b:Addr}{rb:List (List PyData)},updO O a (.grid (rows.set i es)) b=some (.grid rb)->∃ ry,O b=some (.grid ry):=fun {b rb} e1=>by
  by_cases hx:b=a
  ·exact⟨rows,by rw [hx];exact h0⟩
  ·rw [ze hx] at e1;exact⟨rb,e1⟩
 refine⟨fun b u e=>?_,fun b oo e=>?_,fun b ss e=>?_,fun b u e=>by rw [zk (nF _ _ e)];exact S.f _ _ e,fun b o' e hn'=>?_,S.fg,fun b o' e=>⟨(S.fd b o' e).1,by rw [ze (nFa _ _ e)];exact (S.fd b o' e).2.1,fun c rc ss e1 g1=>by obtain⟨ry,e2⟩:=kg e1;exact (S.fd b o' e).2.2 c ry ss e2 g1⟩,fun b c rb rc ss tt q e1 e2 h3 h4 h5 h6=>?_⟩
 ·rw [zk (fun z=>by rw [z,z1] at e;cases e)];exact S.z _ _ e
 ·by_cases hb:b=a
  ·subst hb
   rw [zc] at e
   cases e
   refine⟨hz,rs,hg,by rw [zk har];exact h1,by rw [List.length_set];exact hl,hn,fun k q es' e1 e2=>?_⟩
   have hq:O q=none:=(S.rowIn h0 hg (List.mem_of_getElem? e1)).2.1
   have hqb:q≠b:=fun e=>by rw [e,h0] at hq;cases hq
   by_cases hk:k=i
   ·subst hk
    rw [hr] at e1
    cases e1
    rw [List.getElem?_set_self (List.getElem?_eq_some_iff.mp hd).1] at e2
    cases e2
    refine⟨z1,by rw [ze hqb];exact z2,_,zC,?_⟩
    exact rx
   ·have hne:q≠r:=fun e=>by
     rw [e] at e1
     obtain⟨l1,g1⟩:=List.getElem?_eq_some_iff.mp e1
     obtain⟨l2,g2⟩:=List.getElem?_eq_some_iff.mp hr
     exact hk ((List.getElem_inj hn).mp (g1.trans g2.symm))
    rw [List.getElem?_set_ne (Ne.symm hk)] at e2
    obtain⟨y1,y2,ws,y3,y4⟩:=hrow k q es' e1 e2
    exact⟨y1,by rw [ze hqb];exact y2,ws,by rw [zk hne];exact y3,y4⟩
  ·rw [ze hb] at e
   obtain⟨q1,q2⟩:=S.o _ _ e
   have hbr:b≠r:=fun z=>by rw [z,z2] at e;cases e
   refine⟨q1,q2.keep (Le.refl _) (zk hbr) rfl fun ss q hgs ⟨rows',hrw⟩ hq=>?_⟩
   subst hrw
   obtain⟨w1,w2,ws,w3⟩:=S.rowIn e hgs hq
   have hqr:q≠r:=fun z=>hb (S.u b a rows' rows ss rs q e h0 hgs hg hq (by rw [z];exact List.mem_of_getElem? hr))
   exact⟨zk hqr,rfl,ze (fun z=>by rw [z,h0] at w2;cases w2)⟩
 ·obtain⟨o,h⟩:=S.gd _ _ e
  by_cases hb:b=r
  ·exact⟨_,by rw [hb,zC]⟩
  ·exact⟨o,by rw [zk hb];exact h⟩
 ·by_cases hb:b=a
  ·subst hb;rw [zc] at e;cases e;exact absurd rfl (hn' _)
  ·rw [ze hb] at e;exact S.gn b o' e hn'
 ·obtain⟨r1,f1⟩:=kg e1
  obtain⟨r2,f2⟩:=kg e2
  exact S.u b c r1 r2 ss tt q f1 f2 h3 h4 h5 h6
end
section
variable {K:W.Frag}
def hSl (Te:TEW) (Tl Th:TOW):TGW:=fun w ρ O R=>Te ρ O fun o O1=>Tl ρ O1 fun l O2=>Th ρ O2 fun u O3=>
 ∃ q i rows ds es a c,o=.row q i/\l=some a/\u=some c/\O3 q=some (.grid rows)/\rows[i]? =some ds/\w=.d (.list es)/\0≤a/\a≤c/\c≤(ds.length:Int)/\ds.length+es.length≤1000/\R ρ (updO O3 q (.grid (rows.set i (ds.take a.toNat ++ es ++ ds.drop c.toNat))))
theorem zdi {te:TE}{Te:TEW}{tl th:TO}{Tl Th:TOW}(he:RefE K te Te) (hl:kb K tl Tl) (hh:kb K th Th):RefG K (gSl K te tl th) (hSl Te Tl Th):=by
 rintro Γ O H ρ σ w v S r rw Q R h k
 refine he _ _ _ _ _ S r _ _ h fun Γ1 O1 H1 o vo l1 S1 ro h1=>?_
 refine hl _ _ _ _ _ S1 (r.mono l1) _ _ h1 fun Γ2 O2 H2 l l2 S2 h2=>?_
 refine hh _ _ _ _ _ S2 (r.mono (l1.trans l2)) _ _ h2 fun Γ3 O3 H3 u l3 S3 h3=>?_
 obtain⟨q,i,rows,ds,es,a,c,rfl,rfl,rfl,hq,hd,rfl,h0,hac,hc,hz,h3⟩:=h3
 obtain⟨rs,r0,hg,hr,rfl⟩:=ro.mono (l2.trans l3)
 obtain⟨b,ys,rfl,q3,q4⟩:=(show Rep K Γ3.Z (.list es) v from rw.mono ((l1.trans l2).trans l3))
 obtain⟨_,rs',hg',_,hl',_,hrow⟩:=S3.o _ _ hq
 rw [hg] at hg'
 cases hg'
 obtain⟨z1,_,xs,q1,q2⟩:=hrow i r0 ds hr hd
 have e1:=Reps.length q2
 have e2:=Reps.length q4
 refine⟨r0,b,xs,ys,a,c,rfl,rfl,rfl,rfl,q1,SqL.same S3.z q3,fun hk e=>?_,h0,hac,by rw [<- e1];exact hc,by rw [sizeLine_eq];omega,?_⟩
 ·subst e
  rcases q3 with hq' | ⟨o,_,_,hk',_⟩
  ·rcases hq' with hq' | ⟨_,hq'⟩ <;> rw [z1] at hq' <;> cases hq'
  ·rw [hk] at hk';cases hk'
 ·exact k _ _ _ _ _ ((l1.trans l2).trans l3) (S3.rowTo hq hg hr hd q1 (Reps.append (Reps.append (Reps.take _ q2) q4) (Reps.drop _ q2))) (r.mono ((l1.trans l2).trans l3)) h3
end
def zb6 (ta:TA) (tn:TE):TE:=tOp zb5 (Zj ta) tn
theorem zdj {X:Cx}{e b:Expr}{pos:Pos}{ta:TA}{tb:TE}(he:PE X e (Zj ta)) (hn:PE X b tb):PE X (.BinOp e .Mult b pos) (zb6 ta tb):=zh zdh he hn
section
variable {K:W.Frag}
def zb7 (T:TAW) (Tn:TEW):TEW:=fun ρ O R=>T ρ O fun ws O1=>∃ ds,xq ws=some ds/\ds.length≤1000/\Tn ρ O1 fun y O2=>∃ n,y=.d (.int n)/\0≤n/\n≤1000/\ds.length*n.toNat≤100000/\∀ p,O2 p=none->R (.own p) (updO O2 p (.lst ((List.replicate n.toNat ds).flatten.map W.d)))
theorem zaW {ta:TA}{T:TAW}{tn:TE}{Tn:TEW}(h:xN K ta T) (hn:RefE K tn Tn):RefE K (zb6 ta tn) (zb7 T Tn):=by
 intro Γ O H ρ σ S r0 Q R hT k
 refine h Γ O H ρ σ S r0 _ _ hT fun Γ1 O1 H1 ws vs l1 S1 rs h1=>?_
 obtain⟨ds,e,hl,h1⟩:=h1
 rw [xO e] at rs
 refine⟨by rw [<- Paired.length rs,List.length_map];exact qZ hl,fun p hp=>?_⟩
 have q3:=yI rs
 obtain⟨l,S'⟩:=S1.newD hp (.lst vs)
 refine hn _ _ _ _ _ S' (r0.mono (l1.trans l)) _ _ h1 fun Γ2 O2 H2 y v l2 S2 ry h2=>?_
 obtain⟨n,rfl,n0,n1,hl2,h2⟩:=h2
 have zp:H2 p=some (.lst vs):=S2.z _ _ (l2.z _ _ zC)
 refine⟨p,n,vs,rfl,ry,zp,by omega,by omega,by rw [<- Reps.length q3,sizeLine_eq];omega,fun p' hp'=>?_⟩
 have q4:=Reps.same (l.trans l2).z _ _ q3
 obtain⟨hO,S3⟩:=Yv S2 (Zf (Zw q4 n.toNat)) hp'
 exact k _ _ _ _ _ ((l1.trans l).trans l2) S3 xP (h2 p' hO)
end
noncomputable def vQ (f:PF) (k:Int) (w:Nat) (a b:Int):PF:=fun i j=>if j < w/\a≤(i:Int)*w+j/\(i:Int)*w+j < b then blank k else f i j
noncomputable def Zx (a b:Int) (S:ST):ST:={ S with pic:=vQ S.pic S.ink S.w a b,late:=false }
def QX (C:Addr):SpW:=fun ws O R=>∃ a b:Int,0≤a/\a≤1000/\0≤b/\b≤1000/\sSt C [.d (.int a),.d (.int b)] (fun S=>Bds S/\b≤(S.h:Int)*S.w) (Zx a b) ws O R
theorem Vj {f:PF}{k:Int}{w:Nat}{a:Int}:vQ f k w a a=f:=by
 funext i j
 unfold vQ
 rw [if_neg (by omega)]
theorem zdk {f:PF}{k:Int}{w:Nat}{a b:Int}(h:b≤a):vQ f k w a b=f:=by
 funext i j
 unfold vQ
 rw [if_neg (by omega)]
theorem Km {f:PF}{k:Int}{w:Nat}{a b:Int}(h0:0≤b) (hab:a≤b) (hw:1≤w):setF (vQ f k w a b) (b / w).toNat (b%w).toNat (blank k)=vQ f k w a (b+1):=by
 have w0:(0:Int) < w:=by omega
 have e1:b%w=b - w*(b / w):=by have:=Int.mul_ediv_add_emod b w;omega
 have e2:0≤b%(w:Int):=Int.emod_nonneg _ (by omega)
 have e3:b%(w:Int) < w:=Int.emod_lt_of_pos _ w0
 have e4:0≤b / (w:Int):=Int.ediv_nonneg h0 (by omega)
 have key:∀ i j:Nat,j < w->((i:Int)*w+j=b↔i=(b / w).toNat/\j=(b%w).toNat):=fun i j hj=>by
  constructor
  ·intro h
   have q1:b / w=i:=by
    rw [<- h,Int.add_comm,Int.add_mul_ediv_right _ _ (by omega),Int.ediv_eq_zero_of_lt (by omega) (by omega)]
    omega
   have q2:b%w=j:=by
    rw [<- h,Int.add_comm,Int.add_mul_emod_self_right,Int.emod_eq_of_lt (by omega) (by omega)]
   exact⟨by omega,by omega⟩
  ·rintro⟨rfl,rfl⟩
   rw [Int.toNat_of_nonneg e4,Int.toNat_of_nonneg e2,Int.mul_comm]
   exact Int.mul_ediv_add_emod b w
 funext i j
 unfold setF
 by_cases hj:j < w
 ·by_cases h:i=(b / w).toNat/\j=(b%w).toNat
  ·rw [if_pos h]
   have:=(key i j hj).2 h
   unfold vQ
   rw [if_pos ⟨hj,by omega,by omega⟩]
  ·rw [if_neg h]
   have nb:¬((i:Int)*w+j=b):=fun z=>h ((key i j hj).1 z)
   unfold vQ
   by_cases z:a≤(i:Int)*w+j/\(i:Int)*w+j < b
   ·rw [if_pos ⟨hj,z⟩,if_pos ⟨hj,z.1,by omega⟩]
   ·rw [if_neg (fun y=>z y.2),if_neg (fun y=>z ⟨y.2.1,by have:=y.2.2;omega⟩)]
 ·rw [if_neg (by omega)]
  unfold vQ
  rw [if_neg (fun y=>hj y.1),if_neg (fun y=>hj y.1)]
noncomputable def spI (y:Int) (S:ST):Int×Int:=
 if y= 0 then (S.row*S.w+S.col,S.row*S.w+S.w) else if y= 1 then (S.row*S.w,S.row*S.w+S.col+1) else if y= 2 then (S.row*S.w,S.row*S.w+S.w)
 else if y= 3 then (S.row*S.w+S.col,S.w*S.h) else if y= 4 then (0,S.row*S.w+S.col+1) else if y= 5 then (0,S.w*S.h) else (0,0)
noncomputable def Vk:PyData->Int
 |.int i=>i
 |_=>0
def QY (C:Addr):SpW:=fun ws O R=>∃ x dx p st kp S m,ws=[.own x,.d m]/\NumD m/\StAt O C x dx p st kp S/\Bds S/\∀ O',StAt O' C x dx p st kp (Zx (spI (Vk m) S).1 (spI (Vk m) S).2 S)->(∀ b,b≠x->b≠p->O b≠none->O' b=O b)->R (.d .none) O'
theorem StAt.old {O O':OM}{C x dx p st kp:Addr}{S:ST}(s:StAt O C x dx p st kp S) (h:Old O O'):StAt O' C x dx p st kp S:=
 ⟨by rw [h x (by rw [s.x];simp)];exact s.x,by rw [h p (by rw [s.p];simp)];exact s.p,by rw [h st (by rw [s.st];simp)];exact s.st,by rw [h kp (by rw [s.kp];simp)];exact s.kp⟩
theorem Both.old {O O':OM}{C x dx p st kp d q:Addr}{S S':ST}(b:Both O C x dx p st kp d q S S') (h:Old O O'):Both O' C x dx p st kp d q S S':=
 ⟨b.s.old h,⟨by rw [h d (by rw [b.o.d];simp)];exact b.o.d,by rw [h q (by rw [b.o.q];simp)];exact b.o.q⟩,b.ds,b.pq⟩
theorem zfc {S:ST}(h:Bds S):0≤S.row*(S.w:Int)/\S.row*(S.w:Int)+S.w≤(S.w:Int)*S.h/\(S.w:Int)*S.h≤288:=by
 have r0:=h.r0
 have r1:=h.r1
 have w2:=h.w2
 have h2:=h.h2
 have m0:0≤S.row*(S.w:Int):=Int.mul_nonneg r0 (by omega)
 have m1:(S.row+1)*(S.w:Int)≤(S.h:Int)*S.w:=Int.mul_le_mul_of_nonneg_right (by omega) (by omega)
 have m2:(S.h:Int)*S.w≤12*24:=Int.mul_le_mul (by omega) (by omega) (by omega) (by omega)
 rw [Int.add_mul] at m1
 rw [Int.mul_comm (S.w:Int) (S.h:Int)]
 omega
theorem zfd {S:ST}(h:Bds S) (y:Int):0≤(spI y S).1/\(spI y S).1≤1000/\0≤(spI y S).2/\(spI y S).2≤1000/\(spI y S).2≤(S.w:Int)*S.h:=by
 obtain⟨a,b,c⟩:=zfc h
 have c0:=h.c0
 have c1:=h.c1
 unfold spI
 repeat' split
 all_goals simp only;omega
def k6 (C:Addr):SpW:=fun ws O R=>sBegin C ws O R\/∃ x dx p st kp S,ws=[.own x]/\StAt O C x dx p st kp S/\1≤S.w/\S.w≤24/\
 ∀ st' kp' O',O st'=none->O kp'=none->StAt O' C x dx p st' kp' (st0 S.w S.h S.pic)->(∀ b,b≠x->b≠st'->b≠kp'->O' b=O b)->R (.d .none) O'
noncomputable def newS (S:ST):ST:=Zx 0 ((S.w:Int)*S.h) (st0 S.w S.h S.pic)
inductive sAnew (C:Addr) (ws:List W) (O:OM) (R:WK):Prop
 |mk:∀ x dx p st kp S,ws=[.own x]->StAt O C x dx p st kp S->Bds S->(∀ st' kp' O',O st'=none->O kp'=none->StAt O' C x dx p st' kp' (newS S)->ButO O O' [x,p]->R (.d .none) O')->sAnew C ws O R
noncomputable def stopS (S:ST):ST:={ S with stops:=if S.col∈S.stops then S.stops else S.stops ++ [S.col] }
inductive sSetStop (C:Addr) (ws:List W) (O:OM) (R:WK):Prop
 |mk:∀ x dx p st kp S,ws=[.own x]->StAt O C x dx p st kp S->S.stops.length < 100->(∀ O',StAt O' C x dx p st kp (stopS S)->ButO O O' [st]->R (.d .none) O')->sSetStop C ws O R
theorem Kn (l:List Int) (c:Int):xm (stK l) (Sum.inl c) (W.d (.bool true))=stK (if c∈l then l else l ++ [c]):=by
 unfold xm
 have e:((stK l).any fun kv=>decide (kv.1=(Sum.inl c:Key)))=decide (c∈l):=by
  rw [Bool.eq_iff_iff,List.any_eq_true,decide_eq_true_iff]
  unfold stK
  constructor
  ·rintro⟨kv,hk,h⟩
   obtain⟨i,hi,rfl⟩:=List.mem_map.1 hk
   have:=of_decide_eq_true h
   cases this
   exact hi
  ·intro h
   exact⟨_,List.mem_map.2 ⟨c,h,rfl⟩,by simp⟩
 rw [e]
 by_cases h:c∈l
 ·rw [if_pos (decide_eq_true h),if_pos h]
  unfold stK
  rw [List.map_map]
  apply List.map_congr_left
  intro i _
  simp only [Function.comp]
  split
  ·rfl
  ·rfl
 ·rw [if_neg (by simp [h]),if_neg h]
  unfold stK
  simp
def Cel19 (O:OM) (q:Addr) (w h:Nat):Prop:=∃ rows:List (List PyData),O q=some (.grid rows)/\rows.length=h/\∀ r∈rows,r.length=w
theorem Cel19.set {O:OM}{q:Addr}{w h i:Nat}{rows:List (List PyData)}{r:List PyData}(e1:rows.length=h) (e2:∀ r∈rows,r.length=w) (hr:r.length=w):Cel19 (updO O q (.grid (rows.set i r))) q w h:=
 ⟨_,zc,by rw [List.length_set];exact e1,fun r' hr'=>by
  rcases List.mem_or_eq_of_mem_set hr' with z |z
  ·exact e2 r' z
  ·rw [z];exact hr⟩
inductive sMC (args:List W) (pre:ST->Prop) (f:ST->ST) (ws:List W) (O:OM) (R:WK):Prop
 |mk:∀ d A S,ws=.own d :: args->MAt O d A S->Cel19 O A.q S.w S.h->pre S->(∀ O',MAt O' d A (f S)->Cel19 O' A.q S.w S.h->ButO O O' [d,A.q]->R (.d .none) O')->sMC args pre f ws O R
inductive sBlankM (ws:List W) (O:OM) (R:WK):Prop
 |mk:∀ d A S,ws=[.own d]->O d=some (.dK (mW A S))->R (.d (celD (blank S.ink))) O->sBlankM ws O R
def sRolledM:SpW:=fun ws O R=>∃ a:Int,sMC [.d (.int a),.d (.int 1),.d (.bool true)] (PreR a) (fun S=>S) ws O R
def sLineEM:SpW:=sMC [] Bds lineE
def sWrittenM:SpW:=fun ws O R=>∃ c,sMC [.d (.str c)] Bds (putS0 c) ws O R
noncomputable def stopL (l:List Int) (c:Int):List Int:=l.filter (fun i=>decide (i≠c)) ++ [c]
inductive sStopsM (ws:List W) (O:OM) (R:WK):Prop
 |mk:∀ d A S,ws=[.own d,.d (.str ⟨#[116]⟩)]->MAt O d A S->A.sp≠A.kq->S.stops.length < 100->(∀ sp O',O sp=none->MAt O' d { A with sp:=sp } { S with stops:=stopL S.stops S.col }->sp≠A.kq->ButO O O' [d]->R (.d .none) O')->sStopsM ws O R
inductive sScreenM (ws:List W) (O:OM) (R:WK):Prop
 |mk:∀ w h:Nat,ws=[.d (.int w),.d (.int h)]->1≤w->w≤24->1≤h->h≤12->(∀ d A O',O d=none->O A.sp=none->O A.kq=none->O A.q=none->A.sp≠A.kq->MAt O' d A (st0 w h fun _ _=>blank 0)->Cel19 O' A.q w h->Old O O'->R (.own d) O')->sScreenM ws O R
noncomputable def kS (c:Nat) (S:ST):ST:=if c= 118 then keepS S else if c= 122 then backS S else st0 S.w S.h S.pic
structure Nx (O:OM) (A A':MA):Prop where
 sp:A'.sp=A.sp\/O A'.sp=none
 kq:A'.kq=A.kq\/O A'.kq=none
 q:A'.q=A.q\/O A'.q=none
 sk:A'.sp≠A'.kq
inductive sKeptM (ws:List W) (O:OM) (R:WK):Prop
 |mk:∀ c d A S,((c= 118\/c= 122\/c= 90))->ws=[.own d,.d (.str ⟨#[c]⟩)]->MAt O d A S->Cel19 O A.q S.w S.h->A.sp≠A.kq->S.kept.length≤8->1≤S.w->S.w≤24->1≤S.h->S.h≤12->(∀ A' O',MAt O' d A' (kS c S)->Cel19 O' A'.q S.w S.h->Nx O A A'->ButO O O' [d,A.kq]->R (.d .none) O')->sKeptM ws O R
inductive sLikeP (C:Addr) (ws:List W) (O:OM) (R:WK):Prop
 |mk:∀ x dx p st kp d A S ss,ws=[.own x,.own d]->StAt O C x dx p st kp S->MAt O d A { S with stops:=ss }->ss.Perm S.stops->Bds S->S.stops.length < 64->(∀ i∈S.stops,Sh i)->R (.d (.bool true)) O->sLikeP C ws O R
theorem Ko {S:ST}{ss:List Int}(h:ss.Perm S.stops):tellL { S with stops:=ss } =tellL S:=by
 unfold tellL
 simp only
 rw [zab h]
structure Al (O:OM) (C x dx p st kp d:Addr) (A:MA) (S:ST) (ss:List Int):Prop where
 t:Tw O C x dx p st kp d A S { S with stops:=ss }
 c:Cel19 O A.q S.w S.h
 qp:A.q≠p
 b:Bds S
 k:KOk S
 ps:ss.Perm S.stops
 nd:S.stops.Nodup
 sh:∀ i∈S.stops,0≤i/\i < 24
theorem YX {w:Nat}{g:Nat->Cel}:∀ {l:List Nat},(∀ j∈l,okC (g j))->PyData.canLayAll0 (l.map fun j=>celD (g j))=true/\PyData.depthAll (l.map fun j=>celD (g j))≤1
 |[],_=>⟨rfl,Nat.zero_le _⟩
 |j :: l,h=>by
  obtain⟨h1,h2⟩:=YX (w:=w) (l:=l) fun k hk=>h k (List.mem_cons_of_mem _ hk)
  have h0:PyData.strOk (g j).1 =true:=h j List.mem_cons_self
  refine⟨?_,?_⟩
  ·simp [PyData.canLayAll0,celD,PyData.canLay0,h0] ;exact h1
  ·simp only [List.map_cons,PyData.depthAll,celD,PyData.depth]
   simp only [celD] at h2
   omega
theorem Vl {w:Nat}{f:PF}:∀ {l:List Nat},(∀ i∈l,∀ j,j < w->okC (f i j))->PyData.canLayAll0 ((l.map fun i=>(List.range w).map fun j=>celD (f i j)).map PyData.list)=true/\PyData.depthAll ((l.map fun i=>(List.range w).map fun j=>celD (f i j)).map PyData.list)≤2
 |[],_=>⟨rfl,Nat.zero_le _⟩
 |i :: l,h=>by
  obtain⟨h1,h2⟩:=Vl (l:=l) fun k hk=>h k (List.mem_cons_of_mem _ hk)
  obtain⟨g1,g2⟩:=YX (w:=w) (g:=f i) (l:=List.range w) fun j hj=>h i List.mem_cons_self j (by simpa using hj)
  refine⟨?_,?_⟩
  ·simp only [List.map_cons,PyData.canLayAll0,PyData.canLay0,g1,h1,Bool.and_self]
  ·simp only [List.map_cons,PyData.depthAll,PyData.depth]
   omega
theorem V4 {h w:Nat}{f:PF}(hf:∀ i j,i < h->j < w->okC (f i j)):SeqAt.shaped (.list ((genG h w f).map PyData.list))=true:=by
 obtain⟨h1,h2⟩:=Vl (w:=w) (f:=f) (l:=List.range h) fun i hi j hj=>hf i j (by simpa using hi) hj
 unfold genG
 have h3:PyData.depth (.list (((List.range h).map fun i=>(List.range w).map fun j=>celD (f i j)).map PyData.list))≤64:=by
  simp only [PyData.depth]
  omega
 have h4:PyData.canLay0 (.list (((List.range h).map fun i=>(List.range w).map fun j=>celD (f i j)).map PyData.list))=true:=by
  simp only [PyData.canLay0]
  exact h1
 unfold SeqAt.shaped
 rw [h4,decide_eq_true h3]
 rfl
theorem ki {g:Nat->Cel}:∀ l:List Nat,PyData.eqvAll (l.map fun j=>celD (g j)) (l.map fun j=>celD (g j))=true
 |[]=>rfl
 |j :: l=>by simp only [List.map_cons,PyData.eqvAll,zcp,decide_true,Bool.true_and];exact ki l
theorem zaX {h w:Nat}{f:PF}:PyData.eqv (.list ((genG h w f).map PyData.list)) (.list ((genG h w f).map PyData.list))=true:=by
 unfold genG
 simp only [PyData.eqv]
 generalize List.range h=l
 induction l with
 |nil=>rfl
 |cons i l ih=>simp only [List.map_cons,PyData.eqvAll,PyData.eqv,ki,Bool.true_and];exact ih
end L2
namespace Att
open PySem PySem.W PySem.Calls PyProof.Rows
theorem zaY {i:Int}(x:(WData.int i).layable=true):L2.Bt 1048576 i:=by
  have h:=(layableW_iff.mp x).2.2
  simp only [WData.weight] at h
  unfold L2.Bt
  by_cases hi:i= 0
  · subst hi
    exact Nat.two_pow_pos _
  · have hn:i.natAbs≠0:=by omega
    simp only [beq_iff_eq,hi,if_false] at h
    exact (Nat.log2_lt hn).mp (by
      have e:(2:Nat) ^ 20 = 1048576:=by decide
      omega)
theorem attB {l:OpenLaw}{n:Nat}{q:Program}{loose:List Str}{XP:(Str->Option Value)->Heap->Prop}{YP:World->Heap->Prop}{d:DefRec}
    (hn:l.most=some n) (hdf:d.params.defaults=[])
    (call:∀ (w:World) (s₀ s₁:Shared) (mg mb:Str->Option Value) (fa a:Addr) (vs:List Value) (ns:List Int),Ground q loose [] XP w s₀ mg mb s₁.heap->YP w s₁.heap->mg d.name=some (.ref fa)->
      s₁.heap.get? a=some { cls:=.type "list",data:=.seq vs.toArray }->IntsAre vs ns->ns.length≤n->(∀ i∈ns,L2.Bt 1048576 i)->s₁.gens= #[]->
      codeAny (model l.prog w) callerA (.call (.ref fa) ⟨[.ref a],[]⟩) (fun r s'=>r=.ok (.ret (.bool true))/\OldK s₁.heap s'.heap/\s'.os=s₁.os/\AllBare s'.gens) s₁) :
    WalkO q loose XP YP l.row.toRowW d [] (fun f vs=>PySem.call f vs):=by
  intro w s₀ s₁ mg mb G Y fa o pm cd doc dV kV ho hd hcd hD hm hg args vals as hp hy hr hw hl
  cases Dflts.none hD hdf
  cases Dflts.noKw hD
  obtain⟨a,vs,ns,e1,e2,hb,hi,hk⟩:=JH hn hp hw
  subst e1
  subst e2
  have bits:∀ i∈ns,L2.Bt 1048576 i:=fun i h=>zaY (layableW_item (layableW_arg hy _ List.mem_cons_self) _ (List.mem_map.2 ⟨i,h,rfl⟩))
  refine enter_call (codeAny_mono (call w s₀ s₁ mg mb fa a vs ns G Y hm hb hi hk bits hg) ?_)
  rintro r s' ⟨rfl,c2,c3,c4⟩
  refine⟨.inl ⟨.bool true,.bool true,[],rfl,fun _=>rfl,.bool true,JI l _,fun _=>⟨List.Pairwise.nil,fun _ z=>?_⟩⟩,c2,c3,c4⟩
  cases z
end Att
namespace L2
open PySem PySem.Spec PyProof.Rows
theorem walkW {l:PySem.W.OpenLaw}{n k:Nat}{q:Program}{loose:List Str}{XP:(Str->Option Value)->Heap->Prop}{YP:World->Heap->Prop}{d:DefRec}{K:Params->W.Frag}{x:Str}{s:SpW}(hn:l.most=some n) (hn2:n≤1000) (hdf:d.params.defaults=[]) (hr:Room k callerA)
    (hY:∀ (w:World) (h:Heap),YP w h->(K w.params).In h)
    (F:∀ (w:World) (mg:Str->Option Value) (fa:Addr) (h:Heap),(K w.params).In h->h.Ns mainGlobals mg->mg d.name=some (.ref fa)->
      ∃ fd:FuncData,(∀ (s:Shared) (u:Value),BindsTo s fd ⟨[u],[]⟩ [(x,u)])/\∀ base:Heap,(K w.params).In base->base.Ns mainGlobals mg->FnOk l.prog w (K w.params) mg base CX0 k fa fd [x] (zb (K w.params) s))
    (hs:∀ (ns:List Int) (O:OM) (R:WK),ns.length≤n->(∀ i∈ns,Bt 1048576 i)->(∀ O',R (.d (.bool true)) O')->s [.d (.list (ns.map .int))] O R) :
    PySem.W.WalkO q loose XP YP l.row.toRowW d [] (fun f vs=>PySem.call f vs):=by
  refine Att.attB hn hdf fun w s₀ s₁ mg mb fa a vs ns G Y hm hb hi hk bits hg=>?_
  obtain⟨fd,e1,e2⟩:=F w mg fa _ (hY w _ Y) G.T.g hm
  refine KZ (hY w _ Y) G.T.g G.T.b G.T.builtins G.T.nolimit hg hb hi (Nat.le_trans hk (Nat.le_trans hn2 (by decide))) hr e2 e1 (fun H hO hS=>?_) fun _ _ _ z=>z
  refine⟨⟨H,fun _=>none,fun _=>none⟩,fun _=>none,[.d (.list (ns.map .int))],fun w _=>w=.d (.bool true),?_,.cons ⟨a,_,rfl,hS,YQ ns⟩ .nil,hs ns _ _ hk bits fun _=>rfl,?_⟩
  · exact⟨Same.refl _,fun _ _ e=>(by cases e),fun _ _ e=>(by cases e),fun _ _ e=>(by cases e),fun _ _ e=>(by cases e),fun _ _ e=>(by cases e),fun _ _ e=>(by cases e),fun _ _ _ _ _ _ _ e=>(by cases e)⟩
  · rintro Γ' O' H' w v _ _ r rfl
    exact r
end L2
namespace K19
open PySem L2
set_option hygiene false
local macro_rules | `(tactic| walk_at "ref")=>`(tactic| repeat' (first
  |with_reducible first |exact zeW |exact zcz |exact zcA |exact zen |exact zcB |apply zeo |exact zfS |exact zfT |exact zfA |exact zfB |exact zeX |exact zc0 |exact zfE |exact zeY |exact zfG |exact zfH |exact zfK |exact ze8 |exact zgv |apply zep
  |exact zgH (fun _=>rfl) |exact zfR (fun _ _=>rfl) |exact zgG (fun _ _=>rfl)
  |with_reducible first |apply zaO |apply zae |apply zaf |apply zex |apply UV |apply zfU |apply zcD |apply zew |apply zcE |apply zaF |exact zcW |exact zcG |apply zcS |apply zaj |exact zeL rfl |exact zeU |apply zaW |apply Kj |apply zcH |apply zcI |apply zaz |apply Kc |apply Kd |apply zal |apply zak |apply zeA |exact zeT |exact zgu |exact zfV |exact zeB |exact zfa |exact zfb |exact zfQ |exact zcY |apply zc5 |apply zcT |exact QH |apply zaC |apply zc3 |apply zeH |apply zcU |apply zcV |apply zeZ |apply zaQ |apply J5 |apply zaw |exact RefPs.nil |apply RefPs.cons |apply zeI |apply zcP |exact zfX |exact zdb |exact zax |exact zay |apply zaG |apply zcK |exact zao |exact JW |apply zap |apply zcL |apply zcM |apply zcN |exact zar |apply zat |exact zas |apply JX |apply zdi |apply zau |apply zcQ |apply zaA |apply zc1 |apply zaR |apply zcO |apply JY |apply zav |apply JZ |apply J0 |apply J1 |apply J2))
local macro_rules | `(tactic| walk_at "wd")=>`(tactic| ((try dsimp only [Zv,List.getElem?_cons_zero,List.getElem?_cons_succ,wC,wOp,vI0,vI,wUn,vU,vEq,vNe,QP,Xs,Xt,Vb,zac,wOr,zad,wIf,zai,QC,wCs,Z0,wCB,vI2,zaP,Xu,Vc,Vd,vG,Xn,QD,zan,zfJ,X0,zaq,Z2,ofV,j9,List.set,List.map,ud,List.append,List.nil_append,List.cons_append]);try simp [hSl,zb7,zb2,ze6,ze3,zgJ,wDZ,ze9,Kk,zb3,zb4,Zv,wC,wOp,vI0,vI,wUn,vU,vEq,vNe,zeq,zer,QP,Xs,zet,zaN,zeu,zev,zeO,wIn,Vb,zbC,zbD,wIf,Xt,zac,wOr,zad,zah,zai,QC,wCs,zey,zez,zbP,Z0,zbF,zbE,Kh,zbY,wCB,zam,XZ,vI2,zbG,zeN,UO,zbR,zaP,Vc,J4,zbM,Z4,wBM,zeJ,UM,UN,vG,Xn,QD,zan,X0,zaq,Z2,QF,QE,Xo,zeD,zeK,zbQ,Xu,Vd,zeG,zbH,zeF,zbI,zbJ,zbK,zbL,wLc,zeR,zeS,zaB,zbU,Z3,xc,ud,ofV,vOf,scD,jU,vZ,Qz,xD,j9,QB,XX,tyD,isI,xq,and_assoc,wCR,zaB,Zt,sI1,sI2,sI3,jy,kX,ja,Z5,Z6,jb,Xr,zi,zc,zy,yH,zaI]))
set_option hygiene true
noncomputable def top (i:Nat):Stmt:=PySem.Challenge.pw_signscreen_k19_kept_states.main.body.getD i (.Pass ⟨0,0,0,0⟩)
local macro_rules | `(tactic| walk_at "sc")=>`(tactic| exact⟨rfl,rfl,rfl,by decide +kernel,rfl,by decide +kernel,by decide +kernel⟩)
noncomputable abbrev jD:Stmt:=top 6
theorem V5:FnScope ["thing","least","most"] ["thing","least","most"] (defScope jD):=by walk_at "sc"
noncomputable abbrev kj:Stmt:=top 7
theorem QZ:FnScope ["ink"] ["ink"] (defScope kj):=by walk_at "sc"
noncomputable abbrev km:Stmt:=top 8
theorem Q0:FnScope ["ink"] ["ink"] (defScope km):=by walk_at "sc"
noncomputable abbrev jE:Stmt:=top 9
theorem V6:FnScope ["ink"] ["ink"] (defScope jE):=by walk_at "sc"
noncomputable abbrev u7:Stmt:=top 10
theorem Kp:FnScope ["fore","back","marks"] ["fore","back","marks"] (defScope u7):=by walk_at "sc"
noncomputable abbrev qF:Stmt:=top 11
theorem Vm:FnScope ["ink","hue"] ["ink","hue"] (defScope qF):=by walk_at "sc"
noncomputable abbrev qG:Stmt:=top 12
theorem Vn:FnScope ["ink","hue"] ["ink","hue"] (defScope qG):=by walk_at "sc"
noncomputable abbrev qH:Stmt:=top 13
theorem Vo:FnScope ["ink","mark"] ["ink","mark"] (defScope qH):=by walk_at "sc"
noncomputable abbrev vR:Stmt:=top 14
theorem Yb:FnScope ["ink","mark"] ["ink","mark"] (defScope vR):=by walk_at "sc"
noncomputable abbrev vS:Stmt:=top 15
theorem Yc:FnScope ["ink"] ["ink"] (defScope vS):=by walk_at "sc"
noncomputable abbrev kn:Stmt:=top 19
theorem Q1:FnScope ["wide","high"] ["wide","high"] (defScope kn):=by walk_at "sc"
noncomputable abbrev vm:Stmt:=top 20
theorem Vp:FnScope ["wide","ink"] ["wide","ink"] (defScope vm):=by walk_at "sc"
noncomputable abbrev xS:Stmt:=top 21
theorem Zy:FnScope ["wide","high","ink"] ["wide","high","ink"] (defScope xS):=by walk_at "sc"
noncomputable abbrev Zz:Stmt:=top 22
theorem Kq:FnScope ["picture"] ["picture"] (defScope Zz):=by walk_at "sc"
noncomputable abbrev y7:Stmt:=UA (top 25) 0
theorem Za:FnScope ["self","wide","high"] ["self","wide","high"] (defScope y7):=by walk_at "sc"
noncomputable abbrev xA:Stmt:=UA (top 25) 1
theorem Yx:FnScope ["self"] ["self"] (defScope xA):=by walk_at "sc"
noncomputable abbrev uh:Stmt:=top 26
theorem Yy:FnScope ["wide"] ["wide"] (defScope uh):=by walk_at "sc"
noncomputable abbrev Yz:Stmt:=top 27
theorem Vq:FnScope ["state","top","bottom","left","right"] ["state"] (defScope Yz):=by walk_at "sc"
noncomputable abbrev vT:Stmt:=top 28
theorem Yd:FnScope ["many"] ["many"] (defScope vT):=by walk_at "sc"
noncomputable abbrev jF:Stmt:=top 29
theorem V7:FnScope ["state"] ["state"] (defScope jF):=by walk_at "sc"
noncomputable abbrev u8:Stmt:=top 31
theorem jM:FnScope ["state","step","right","line","old","column","source","inside"] ["state","step"] (defScope u8):=by walk_at "sc"
noncomputable abbrev qI:Stmt:=top 32
theorem Vr:FnScope ["state","many"] ["state","many"] (defScope qI):=by walk_at "sc"
noncomputable abbrev ui:Stmt:=top 33
theorem je:FnScope ["state","first","behind","place"] ["state","first","behind"] (defScope ui):=by walk_at "sc"
noncomputable abbrev Vs:Stmt:=top 34
theorem U0:FnScope ["state","way","row_begin","row_end","cursor","picture_end","spans","span"] ["state","way"] (defScope Vs):=by walk_at "sc"
noncomputable abbrev Vt:Stmt:=top 37
theorem zdl:FnScope ["state"] ["state"] (defScope Vt):=by walk_at "sc"
noncomputable abbrev qJ:Stmt:=top 38
theorem ku:FnScope ["state","then"] ["state"] (defScope qJ):=by walk_at "sc"
noncomputable abbrev u9:Stmt:=top 39
theorem Y5:FnScope ["state"] ["state"] (defScope u9):=by walk_at "sc"
noncomputable abbrev zaZ:Stmt:=top 41
theorem zb8:FnScope ["state","letter","many","times","edge"] ["state","letter","many"] (defScope zaZ):=by walk_at "sc"
noncomputable abbrev vV:Stmt:=top 42
theorem Ye:FnScope ["state"] ["state"] (defScope vV):=by walk_at "sc"
noncomputable abbrev kz:Stmt:=top 43
theorem Q2:FnScope ["number","first","last"] ["number","first","last"] (defScope kz):=by walk_at "sc"
noncomputable abbrev jG:Stmt:=top 44
theorem V8:FnScope ["state","row","column"] ["state","row","column"] (defScope jG):=by walk_at "sc"
noncomputable abbrev kA:Stmt:=top 45
theorem Q3:FnScope ["state"] ["state"] (defScope kA):=by walk_at "sc"
noncomputable abbrev jH:Stmt:=top 46
theorem V9:FnScope ["state"] ["state"] (defScope jH):=by walk_at "sc"
noncomputable abbrev Vu:Stmt:=top 48
theorem U1:FnScope ["first","last","size","begin","end"] ["first","last","size"] (defScope Vu):=by walk_at "sc"
noncomputable abbrev jI:Stmt:=top 49
theorem Zg:FnScope ["state","first","last","rows"] ["state","first","last"] (defScope jI):=by walk_at "sc"
noncomputable abbrev uj:Stmt:=top 50
theorem jf:FnScope ["state","first","last","columns"] ["state","first","last"] (defScope uj):=by walk_at "sc"
noncomputable abbrev Vv:Stmt:=top 51
theorem zdm:FnScope ["ink","number"] ["ink","number"] (defScope Vv):=by walk_at "sc"
noncomputable abbrev Q4:Stmt:=top 52
theorem Kr:FnScope ["state","numbers","number"] ["state","numbers"] (defScope Q4):=by walk_at "sc"
noncomputable abbrev qe:Stmt:=top 53
theorem jN:FnScope ["state","numbers","on","turned_on","number"] ["state","numbers","on"] (defScope qe):=by walk_at "sc"
noncomputable abbrev qK:Stmt:=top 55
theorem kB:FnScope ["state","first","step","old","row","source","inside","column"] ["state","first","step"] (defScope qK):=by walk_at "sc"
noncomputable abbrev kC:Stmt:=top 56
theorem Q5:FnScope ["state","first","times"] ["state","first","times"] (defScope kC):=by walk_at "sc"
noncomputable abbrev jJ:Stmt:=top 58
theorem Ua:FnScope ["state"] ["state"] (defScope jJ):=by walk_at "sc"
noncomputable abbrev jK:Stmt:=top 59
theorem Ub:FnScope ["state","sign"] ["state","sign"] (defScope jK):=by walk_at "sc"
noncomputable abbrev kD:Stmt:=top 61
theorem Q6:FnScope ["_law_script","_law_k"] ["_law_script","_law_k"] (defScope kD):=by walk_at "sc"
noncomputable abbrev qf:Stmt:=top 62
theorem jO:FnScope ["_law_cell","_law_k","_law_mixed_here"] ["_law_cell","_law_k"] (defScope qf):=by walk_at "sc"
noncomputable abbrev qL:Stmt:=top 63
theorem kE:FnScope ["_law_cell","_law_wide"] ["_law_cell"] (defScope qL):=by walk_at "sc"
noncomputable abbrev uk:Stmt:=top 64
theorem YA:FnScope ["_law_cell"] ["_law_cell"] (defScope uk):=by walk_at "sc"
noncomputable abbrev qg:Stmt:=top 65
theorem jP:FnScope ["_law_wide","_law_high","_law_m"] ["_law_wide","_law_high"] (defScope qg):=by walk_at "sc"
noncomputable abbrev qh:Stmt:=top 66
theorem jQ:FnScope ["_law_m","_law_top","_law_bottom","_law_left","_law_right"] ["_law_m"] (defScope qh):=by walk_at "sc"
noncomputable abbrev qi:Stmt:=top 67
theorem Y6:FnScope ["_law_many"] ["_law_many"] (defScope qi):=by walk_at "sc"
noncomputable abbrev ul:Stmt:=top 68
theorem jg:FnScope ["_law_m","_law_row","_law_column","_law_top","_law_bottom","_law_left","_law_right"] ["_law_m","_law_row","_law_column"] (defScope ul):=by walk_at "sc"
noncomputable abbrev vW:Stmt:=top 69
theorem qy:FnScope ["_law_m","_law_letter","_law_many","_law_top","_law_bottom","_law_left","_law_right","_law_turn"] ["_law_m","_law_letter","_law_many"] (defScope vW):=by walk_at "sc"
noncomputable abbrev vt:Stmt:=top 71
theorem ur:FnScope ["_law_m","_law_letter"] ["_law_m","_law_letter"] (defScope vt):=by walk_at "sc"
noncomputable abbrev um:Stmt:=top 72
theorem jh:FnScope ["_law_m","_law_letter","_law_first","_law_last","_law_most","_law_names","_law_end"] ["_law_m","_law_letter","_law_first","_law_last"] (defScope um):=by walk_at "sc"
noncomputable abbrev qj:Stmt:=top 73
theorem jR:FnScope ["_law_m","_law_numbers","_law_on","_law_number_here"] ["_law_m","_law_numbers","_law_on"] (defScope qj):=by walk_at "sc"
noncomputable abbrev qM:Stmt:=top 74
theorem kG:FnScope ["_law_m","_law_numbers","_law_number_here","_law_ink","_law_fore","_law_back","_law_marks"] ["_law_m","_law_numbers"] (defScope qM):=by walk_at "sc"
noncomputable abbrev qk:Stmt:=top 75
theorem Y7:FnScope ["_law_m"] ["_law_m"] (defScope qk):=by walk_at "sc"
noncomputable abbrev uo:Stmt:=top 76
theorem ji:FnScope ["_law_m","_law_first","_law_times_here","_law_up","_law_left","_law_right","_law_turn","_law_rows","_law_blank_here","_law_k","_law_row"] ["_law_m","_law_first","_law_times_here","_law_up"] (defScope uo):=by walk_at "sc"
noncomputable abbrev vK:Stmt:=top 77
theorem ql:FnScope ["_law_m"] ["_law_m"] (defScope vK):=by walk_at "sc"
noncomputable abbrev vX:Stmt:=top 78
theorem qz:FnScope ["_law_m","_law_sign","_law_right","_law_row"] ["_law_m","_law_sign"] (defScope vX):=by walk_at "sc"
noncomputable abbrev qN:Stmt:=top 79
theorem kH:FnScope ["_law_m","_law_letter","_law_names"] ["_law_m","_law_letter"] (defScope qN):=by walk_at "sc"
noncomputable abbrev uq:Stmt:=top 80
theorem jj:FnScope ["_law_wide","_law_high","_law_m"] ["_law_wide","_law_high"] (defScope uq):=by walk_at "sc"
noncomputable abbrev qO:Stmt:=top 81
theorem kI:FnScope ["_law_state","_law_found"] ["_law_state"] (defScope qO):=by walk_at "sc"
noncomputable abbrev jL:Stmt:=top 82
theorem Zh:FnScope ["_law_m","_law_found"] ["_law_m"] (defScope jL):=by walk_at "sc"
noncomputable abbrev qP:Stmt:=top 83
theorem Vw:FnScope ["_law_state","_law_m"] ["_law_state","_law_m"] (defScope qP):=by walk_at "sc"
noncomputable abbrev vv:Stmt:=top 84
theorem ut:FnScope ["_law_state","_law_m","_law_way"] ["_law_state","_law_m","_law_way"] (defScope vv):=by walk_at "sc"
noncomputable abbrev qQ:Stmt:=top 85
theorem kJ:FnScope ["_law_state","_law_m","_law_mixed_here","_law_is_keeping","_law_way","_law_one","_law_two","_law_sign"] ["_law_state","_law_m","_law_mixed_here","_law_is_keeping"] (defScope qQ):=by walk_at "sc"
noncomputable abbrev Q7:Stmt:=top 86
theorem Ks:FnScope ["_law_script","_law_wide","_law_high","_law_state","_law_other","_law_m","_law_k","_law_cell","_law_mixed_here","_law_turn"] ["_law_script"] (defScope Q7):=by walk_at "sc"
structure Txt (K:W.Frag) (mg:Str->Option Value) (C:Addr):Prop where
 n_len:mg "len" =none
 n_range:mg "range" =none
 n_int:mg "int" =none
 n_bool:mg "bool" =none
 n_dict:mg "dict" =none
 n_list:mg "list" =none
 n_tuple:mg "tuple" =none
 n_isinstance:mg "isinstance" =none
 n_sorted:mg "sorted" =none
 n_min:mg "min" =none
 n_max:mg "max" =none
 n_zip:mg "zip" =none
 n_repr:mg "repr" =none
 n_enumerate:mg "enumerate" =none
 g_WIDEST:∃ t,mg "WIDEST" =some (.int 24 t)
 g_HIGHEST:∃ t,mg "HIGHEST" =some (.int 12 t)
 g_TAB_STEP:∃ t,mg "TAB_STEP" =some (.int 4 t)
 g_ALL_MARKS:∃ t,mg "ALL_MARKS" =some (.int 448 t)
 g_MOST_KEPT:∃ t,mg "MOST_KEPT" =some (.int 8 t)
 g_BITS_BY_MARK:∃ a,mg "BITS_BY_MARK" =some (.ref a)/\DK K a [(0,64),(1,128),(2,256)]
 mgC:mg "State" =some (.ref C)
 st:Sta K C
section
variable {P:Program}{w:World}{K:W.Frag}{mg:Str->Option Value}{base:Heap}{f C:Addr}{fd:FuncData}
theorem Yf (F:Fun K "at_least_one" "at_least_one" vT f fd) (T:Txt K mg C):FnOk P w K mg base CX0 1 f fd ["many"] (zb K Zt):=by
 apply F.okV Yd (by rintro _ _ _ ⟨n,rfl,_⟩;rfl) (fun cdv A outer sh H E hr=>(zf (yg (yZ (zx XC (pv 0) xo (zE _)) za (yT (jV rfl) (by rfl) T.n_max (by rfl) (QA.pa (qc za (qc (pv 0) qn))))))))
 ·walk_at "ref"
 rintro _ O R ⟨n,rfl,hn,h⟩
 rcases hn.cs with rfl | ⟨i,rfl,h0,h1⟩
 ·walk_at "wd"
  exact .inl h
 ·walk_at "wd"
  exact .inl h
theorem Q8 (F:Fun K "counted" "counted" kz f fd) (T:Txt K mg C) (zhj:Cal P w K mg base 1 "at_least_one" [] (zb K Zt)):FnOk P w K mg base CX0 2 f fd ["number","first","last"] (zb K jy):=by
 apply F.okV Q2 (by rintro _ _ _ ⟨n,a,b,rfl,_⟩;rfl) (fun cdv A outer sh H E hr=>(zf (yg (yT (x0 rfl) (by rfl) T.n_min (by rfl) (QA.pa (qc (zh yM (zh yG (pv 1) (zn zhj (hr.mono (by decide)) rfl (QA.pa (qc (pv 0) qn)))) za) (qc (pv 2) qn)))))))
 ·walk_at "ref"
 rintro _ O R ⟨n,a,b,rfl,hn,h⟩
 walk_at "wd"
 exact⟨hn,.inl h⟩
theorem Vx (F:Fun K "_law_times" "_law_times" qi f fd) (T:Txt K mg C):FnOk P w K mg base CX0 1 f fd ["_law_many"] (zb K ja):=by
 apply F.okV Y6 (by rintro _ _ _ ⟨n,rfl,_⟩;rfl) (fun cdv A outer sh H E hr=>(zf (yg (yZ (zx (jv (K:=K) rfl) (pv 0) (yL (qc xo (qc za qn))) (by with_unfolding_all rfl)) za (pv 0)))))
 ·walk_at "ref"
 rintro _ O R ⟨n,rfl,hn,h⟩
 rcases hn.cs with rfl | ⟨i,rfl,h0,h1⟩
 ·walk_at "wd"
  refine⟨_,rfl,by simp,?_⟩
  rw [if_pos (by rfl)]
  exact .inl h
 ·walk_at "wd"
  have e:inV (V.int i) (List.map vOf [.none,.int 0])=decide (i= 0):=by
   simp [inV,eqV,vOf]
   by_cases q:i= 0
   ·subst q;rfl
   ·rw [decide_eq_false q];exact beq_false_of_ne (Ne.symm q)
  refine⟨_,rfl,by simp,?_⟩
  rw [e]
  simp only [vj] at h
  by_cases q:i= 0
  ·rw [if_pos (by simp [q])];rw [if_pos q] at h;exact .inl h
  ·rw [if_neg (by simp [q])];rw [if_neg q] at h;exact .inl h
theorem Uc (F:Fun K "is_whole" "is_whole" jD f fd) (T:Txt K mg C):FnOk P w K mg base CX0 1 f fd ["thing","least","most"] (zb K Z5):=by
 apply F.okV V5 (by rintro _ _ _ ⟨n,a,b,rfl,_⟩;rfl) (fun cdv A outer sh H E hr=>(zf (yg (jS (yT (YS (K:=K) rfl) (by rfl) T.n_isinstance (by rfl) (QA.pa (qc (pv 0) (qc (Us (v:=.ty "int") (u:=.type "int") rfl T.n_int rfl rfl) qn)))) (jS (zdL (yT (YS (K:=K) rfl) (by rfl) T.n_isinstance (by rfl) (QA.pa (qc (pv 0) (qc (Us (v:=.ty "bool") (u:=.type "bool") rfl T.n_bool rfl rfl) qn))))) (Xy (Zi xz xz (pv 1) (pv 0) (pv 2))))))))
 ·walk_at "ref"
 rintro _ O R ⟨n,lo,hi,rfl,h⟩
 walk_at "wd"
 split
 ·rename_i h1;simp [h1] at h;exact .inl h
 ·rename_i h1;simp [h1] at h;exact .inl h
theorem Q9 (F:Fun K "is_size" "is_size" kn f fd) (T:Txt K mg C) (zhC:Cal P w K mg base 1 "is_whole" [] (zb K Z5)):FnOk P w K mg base CX0 2 f fd ["wide","high"] (zb K QI):=by
 apply F.okV Q1 (by rintro _ _ _ ⟨a,b,rfl,_⟩;rfl) (fun cdv A outer sh H E hr=>(zf (yg (jS (zn zhC (hr.mono (by decide)) rfl (QA.pa (qc (pv 0) (qc za (qc (kP rfl T.g_WIDEST) qn))))) (Xy (zn zhC (hr.mono (by decide)) rfl (QA.pa (qc (pv 1) (qc za (qc (kP rfl T.g_HIGHEST) qn))))))))))
 ·walk_at "ref"
 rintro _ O R ⟨a,b,rfl,a1,a2,b1,b2,h⟩
 walk_at "wd"
 have e1:(1:Int)≤a/\(a:Int)≤24:=by omega
 have e2:(1:Int)≤b/\(b:Int)≤12:=by omega
 simp [e1,e2]
 exact .inl h
theorem zdn (F:Fun K "span" "span" Vu f fd) (T:Txt K mg C) (zhj:Cal P w K mg base 1 "at_least_one" [] (zb K Zt)):FnOk P w K mg base CX0 2 f fd ["first","last","size"] (zb K Z6):=by
  have nd:=U1.nd
  apply F.okV U1 (by rintro _ _ _ ⟨n,a,b,rfl,_⟩;rfl) (fun cdv A outer sh H E hr=>(zd (yn (i:=3) nd rfl (Or.inl rfl) (zn zhj (hr.mono (by decide)) rfl (QA.pa (qc (pv 0) qn))))
      (zd (yn (i:=4) nd rfl (Or.inl rfl) (yZ (YT (K:=K) rfl (pv 1) (fun _=>rfl)) (yT (x0 rfl) (by rfl) T.n_min (by rfl) (QA.pa (qc (pv 1) (qc (pv 2) qn)))) (pv 2)))
      (zf (yg (yZ (zx ZJ (pv 3) (pv 4) (zE _)) xo (yL (qc (zh yM (pv 3) za) (qc (zh yM (pv 4) za) qn)))))))))
  · walk_at "ref"
  rintro _ O R ⟨n,m,s,rfl,hn,hm,h⟩
  simp only [Xq] at h
  have fin:∀ E:Int,xi m s=E->if E < oneD n then Clo R (.d .none) O else Clo R (.d (.tuple [.int (oneD n - 1),.int (E - 1)])) O:=by
    rintro E rfl
    split
    · rename_i e;rw [if_pos e] at h;exact .inl h
    · rename_i e;rw [if_neg e] at h;exact .inl h
  rcases hm.cs with rfl | ⟨i,rfl,h0,h1⟩
  · walk_at "wd"
    exact⟨hn,fin s rfl⟩
  · walk_at "wd"
    refine⟨hn,?_⟩
    by_cases hi:i= 0
    · first |exact .inl ⟨hi,fin s (by simp [xi,hi])⟩ | (rw [if_pos hi];exact fin s (by simp [xi,hi]))
    · first |exact .inr ⟨hi,fin _ (by simp [xi,hi])⟩ | (rw [if_neg hi];exact fin _ (by simp [xi,hi]))
theorem Ja (F:Fun K "fore_of" "fore_of" kj f fd) (T:Txt K mg C):FnOk P w K mg base CX0 1 f fd ["ink"] (zb K (sI1 (fun _=>True) fun i=>Builtin.bitAnd i 7)):=by
 apply F.okV QZ (by rintro _ _ _ ⟨n,rfl,_⟩;rfl) (fun cdv A outer sh H E hr=>(zf (yg (zh ZI (pv 0) za))))
 ·walk_at "ref"
 rintro _ O R ⟨n,rfl,_,h⟩
 walk_at "wd"
 exact .inl h
theorem Jb (F:Fun K "back_of" "back_of" km f fd) (T:Txt K mg C):FnOk P w K mg base CX0 1 f fd ["ink"] (zb K (sI1 (fun _=>True) fun i=>Builtin.bitAnd (i / 8) 7)):=by
 apply F.okV Q0 (by rintro _ _ _ ⟨n,rfl,_⟩;rfl) (fun cdv A outer sh H E hr=>(zf (yg (zh ZI (zh Jr (pv 0) za) za))))
 ·walk_at "ref"
 rintro _ O R ⟨n,rfl,_,h⟩
 walk_at "wd"
 exact .inl h
theorem Ud (F:Fun K "marks_of" "marks_of" jE f fd) (T:Txt K mg C):FnOk P w K mg base CX0 1 f fd ["ink"] (zb K (sI1 (fun _=>True) fun i=>Builtin.bitAnd (i / 64) 7)):=by
 apply F.okV V6 (by rintro _ _ _ ⟨n,rfl,_⟩;rfl) (fun cdv A outer sh H E hr=>(zf (yg (zh ZI (zh Jr (pv 0) za) za))))
 ·walk_at "ref"
 rintro _ O R ⟨n,rfl,_,h⟩
 walk_at "wd"
 exact .inl h
theorem YY {d:Value}(F:FunD K "ink_of" "ink_of" u7 [d] f fd) (T:Txt K mg C):FnOk P w K mg base CX0 1 f fd ["fore","back","marks"] (zb K jb):=by
 apply F.okV Kp (by rintro _ _ _ ⟨n,a,b,rfl,_⟩;rfl) (fun cdv A outer sh H E hr=>(zf (yg (zh yG (zh yG (pv 0) (zh xM za (pv 1))) (zh xM za (pv 2))))))
 ·walk_at "ref"
 rintro _ O R ⟨a,b,c,rfl,⟨b1,b2,c1,c2⟩,h⟩
 walk_at "wd"
 exact⟨mulL (by omega) (by omega),mulL (by omega) (by omega),.inl h⟩
theorem Yg (F:Fun K "turned_marks" "turned_marks" vS f fd) (T:Txt K mg C):FnOk P w K mg base CX0 1 f fd ["ink"] (zb K (sI1 (fun _=>True) fun i=>Builtin.bitXor i 448)):=by
 apply F.okV Yc (by rintro _ _ _ ⟨n,rfl,_⟩;rfl) (fun cdv A outer sh H E hr=>(zf (yg (zh zdY (pv 0) (kP rfl T.g_ALL_MARKS)))))
 ·walk_at "ref"
 rintro _ O R ⟨n,rfl,_,h⟩
 walk_at "wd"
 exact .inl h
theorem Vy (F:Fun K "with_mark" "with_mark" qH f fd) (T:Txt K mg C):FnOk P w K mg base CX0 1 f fd ["ink","mark"] (zb K (sI2 (fun _ _=>True) fun i m=>Builtin.bitOr i ((xU [(0,64),(1,128),(2,256)] m).getD 0))):=by
 obtain⟨aB,hB,dB⟩:=T.g_BITS_BY_MARK
 apply F.okV Vo (by rintro _ _ _ ⟨n,m,rfl,_⟩;rfl) (fun cdv A outer sh H E hr=>(zf (yg (zh zfr (pv 0) (X5 (K:=K) rfl (Yn (v:=.ref aB) (u:=.ref aB) rfl hB rfl) (QA.pa (qc (pv 1) (qc za qn))))))))
 ·walk_at "ref"
 rintro _ O R ⟨n,m,rfl,_,h⟩
 walk_at "wd"
 exact⟨_,dB,.inl h⟩
theorem Yh (F:Fun K "without_mark" "without_mark" vR f fd) (T:Txt K mg C):FnOk P w K mg base CX0 1 f fd ["ink","mark"] (zb K (sI2 (fun _ _=>True) fun i m=>Builtin.bitAnd i (Builtin.bitNot ((xU [(0,64),(1,128),(2,256)] m).getD 0)))):=by
 obtain⟨aB,hB,dB⟩:=T.g_BITS_BY_MARK
 apply F.okV Yb (by rintro _ _ _ ⟨n,m,rfl,_⟩;rfl) (fun cdv A outer sh H E hr=>(zf (yg (zh ZI (pv 0) (Xj zdZ (X5 (K:=K) rfl (Yn (v:=.ref aB) (u:=.ref aB) rfl hB rfl) (QA.pa (qc (pv 1) (qc za qn)))))))))
 ·walk_at "ref"
 rintro _ O R ⟨n,m,rfl,_,h⟩
 walk_at "wd"
 exact⟨_,dB,.inl h⟩
theorem Vz (F:Fun K "with_fore" "with_fore" qF f fd) (T:Txt K mg C) (zhz:Cal P w K mg base 1 "ink_of" [] (zb K jb)) (zhk:Cal P w K mg base 1 "back_of" [] (zb K (sI1 (fun _=>True) fun i=>Builtin.bitAnd (i / 8) 7))) (zhF:Cal P w K mg base 1 "marks_of" [] (zb K (sI1 (fun _=>True) fun i=>Builtin.bitAnd (i / 64) 7))) :
  FnOk P w K mg base CX0 2 f fd ["ink","hue"] (zb K (sI2 (fun i _=>Ink i) fun i h=>h+8*Builtin.bitAnd (i / 8) 7+64*Builtin.bitAnd (i / 64) 7)):=by
 apply F.okV Vm (by rintro _ _ _ ⟨n,m,rfl,_⟩;rfl) (fun cdv A outer sh H E hr=>(zf (yg (zn zhz (hr.mono (by decide)) rfl (QA.pa (qc (pv 1) (qc (zn zhk (hr.mono (by decide)) rfl (QA.pa (qc (pv 0) qn))) (qc (zn zhF (hr.mono (by decide)) rfl (QA.pa (qc (pv 0) qn))) qn))))))))
 ·walk_at "ref"
 rintro _ O R ⟨n,m,rfl,hi,h⟩
 have a1:=zaJ hi
 have a2:=YV hi
 walk_at "wd"
 exact⟨by omega,by omega,by omega,by omega,.inl h⟩
theorem VA (F:Fun K "with_back" "with_back" qG f fd) (T:Txt K mg C) (zhz:Cal P w K mg base 1 "ink_of" [] (zb K jb)) (zhx:Cal P w K mg base 1 "fore_of" [] (zb K (sI1 (fun _=>True) fun i=>Builtin.bitAnd i 7))) (zhF:Cal P w K mg base 1 "marks_of" [] (zb K (sI1 (fun _=>True) fun i=>Builtin.bitAnd (i / 64) 7))) :
  FnOk P w K mg base CX0 2 f fd ["ink","hue"] (zb K (sI2 (fun i h=>Ink i/\0≤h/\h≤10) fun i h=>Builtin.bitAnd i 7+8*h+64*Builtin.bitAnd (i / 64) 7)):=by
 apply F.okV Vn (by rintro _ _ _ ⟨n,m,rfl,_⟩;rfl) (fun cdv A outer sh H E hr=>(zf (yg (zn zhz (hr.mono (by decide)) rfl (QA.pa (qc (zn zhx (hr.mono (by decide)) rfl (QA.pa (qc (pv 0) qn))) (qc (pv 1) (qc (zn zhF (hr.mono (by decide)) rfl (QA.pa (qc (pv 0) qn))) qn))))))))
 ·walk_at "ref"
 rintro _ O R ⟨n,m,rfl,⟨hi,m1,m2⟩,h⟩
 have a2:=YV hi
 walk_at "wd"
 exact⟨by omega,by omega,by omega,by omega,.inl h⟩
theorem zdo (F:Fun K "dyed" "dyed" Vv f fd) (T:Txt K mg C) (zhZ:Cal P w K mg base 1 "with_mark" [] (zb K (sI2 (fun _ _=>True) fun i m=>Builtin.bitOr i ((xU [(0,64),(1,128),(2,256)] m).getD 0))))
    (zh0:Cal P w K mg base 1 "without_mark" [] (zb K (sI2 (fun _ _=>True) fun i m=>Builtin.bitAnd i (Builtin.bitNot ((xU [(0,64),(1,128),(2,256)] m).getD 0))))) (zhU:Cal P w K mg base 1 "turned_marks" [] (zb K (sI1 (fun _=>True) fun i=>Builtin.bitXor i 448)))
    (zhY:Cal P w K mg base 2 "with_fore" [] (zb K (sI2 (fun i _=>Ink i) fun i h=>h+8*Builtin.bitAnd (i / 8) 7+64*Builtin.bitAnd (i / 64) 7))) (zhX:Cal P w K mg base 2 "with_back" [] (zb K (sI2 (fun i h=>Ink i/\0≤h/\h≤10) fun i h=>Builtin.bitAnd i 7+8*h+64*Builtin.bitAnd (i / 64) 7))) :
    FnOk P w K mg base CX0 3 f fd ["ink","number"] (zb K Xr):=by
  apply F.okV zdm (by rintro _ _ _ ⟨n,m,rfl,_⟩;rfl) (fun cdv A outer sh H E hr=>(zd (yw (PW.pt (ZG (zx XC (pv 1) xo (zE _)) (ZF (zx yW (pv 1) za (zE _))))) (zf (yg za)) yh)
      (zd (yw (vM xz xz za (pv 1) za) (zf (yg (zn zhZ (hr.mono (by decide)) rfl (QA.pa (qc (pv 0) (qc (zh yM (pv 1) za) qn)))))) yh)
      (zd (yw (vM xz xz za (pv 1) za) (zf (yg (zn zh0 (hr.mono (by decide)) rfl (QA.pa (qc (pv 0) (qc (zh yM (pv 1) za) qn)))))) yh)
      (zd (yw (zx yW (pv 1) za (zE _)) (zf (yg (zn zhU (hr.mono (by decide)) rfl (QA.pa (qc (pv 0) qn))))) yh)
      (zd (yw (vM xz xz za (pv 1) za) (zf (yg (zn zhY (hr.mono (by decide)) rfl (QA.pa (qc (pv 0) (qc (zh yM (pv 1) za) qn)))))) yh)
      (zd (yw (vM xz xz za (pv 1) za) (zf (yg (zn zhX (hr.mono (by decide)) rfl (QA.pa (qc (pv 0) (qc (zh yM (pv 1) za) qn)))))) yh)
      (zf (yg (pv 0))))))))))
  · walk_at "ref"
  rintro _ O R ⟨ink,n,rfl,hi,hn,h⟩
  rcases hn.cs with rfl | ⟨i,rfl,h0,h1⟩
  · walk_at "wd"
    exact .inl h
  · have key:∀ v,dyeI ink (.int i)=v->Clo R (.d (.int v)) O:=fun v e=>by rw [e] at h;exact .inl h
    walk_at "wd"
    repeat' split
    all_goals first
      |exact key _ (by simp only [dyeI];repeat' (first |rw [if_pos (by omega)] |rw [if_neg (by omega)]))
      |exact⟨hi,key _ (by simp only [dyeI];repeat' (first |rw [if_pos (by omega)] |rw [if_neg (by omega)]))⟩
      |exact⟨hi,by omega,by omega,key _ (by simp only [dyeI];repeat' (first |rw [if_pos (by omega)] |rw [if_neg (by omega)]))⟩
theorem za0 (F:Fun K "edges" "edges" Yz f fd) (T:Txt K mg C):FnOk P w K mg base CX0 1 f fd ["state"] (zb K (sEdges C)):=by
  have nd:=Vq.nd
  apply F.okV Vq (by rintro _ _ _ ⟨x,dx,p,st,kp,S,rfl,_⟩;rfl) (fun cdv A outer sh H E hr=>(zd (yn (i:=1) nd rfl (Or.inl rfl) (yZ (zx Xk (zj (K:=K) rfl (pv 0) rfl) (zj (K:=K) rfl (pv 0) rfl) (zE _)) (zj (K:=K) rfl (pv 0) rfl) za))
      (zd (yn (i:=2) nd rfl (Or.inl rfl) (yZ (zx xz (zj (K:=K) rfl (pv 0) rfl) (zj (K:=K) rfl (pv 0) rfl) (zE _)) (zj (K:=K) rfl (pv 0) rfl) (zh yM (zj (K:=K) rfl (pv 0) rfl) za)))
      (zd (yn (i:=3) nd rfl (Or.inl rfl) (yZ (zx Xk (zj (K:=K) rfl (pv 0) rfl) (zj (K:=K) rfl (pv 0) rfl) (zE _)) (zj (K:=K) rfl (pv 0) rfl) za))
      (zd (yn (i:=4) nd rfl (Or.inl rfl) (yZ (zx xz (zj (K:=K) rfl (pv 0) rfl) (zj (K:=K) rfl (pv 0) rfl) (zE _)) (zj (K:=K) rfl (pv 0) rfl) (zh yM (zj (K:=K) rfl (pv 0) rfl) za)))
      (zf (yg (yL (qc (pv 1) (qc (pv 2) (qc (pv 3) (qc (pv 4) qn))))))))))))
  · walk_at "ref"
  rintro _ O R ⟨x,dx,p,st,kp,S,rfl,hs,h⟩
  have hx:=hs.x
  refine yK (fun ρ' O'=>ρ'=[some (.own x),some (.d (.int (eT S))),none,none,none]/\O=O') (fun R1 hR1=>?_) ?_
  · walk_at "wd"
    simp [hx,and_assoc,zi,T.st.cl,T.st.n_picture,T.st.n_wide,T.st.n_high,T.st.n_row,T.st.n_column,T.st.n_late,T.st.n_ink,T.st.n_wrap,T.st.n_putting,T.st.n_home,T.st.n_top,T.st.n_bottom,T.st.n_left,T.st.n_right,T.st.n_stops,T.st.n_kept,T.st.n_last,zo,zK,zL,yc,zu,zM,yd,zN,zq,zO,ye,zv,zP,zA,zB,zD,zH,zX,zr,zF,zY,zG,zm,zI,z9,zt,zJ,zz,zQ]
    split
    · rename_i e;exact hR1 _ _ ⟨by rw [eT,if_pos e],rfl⟩
    · rename_i e;exact hR1 _ _ ⟨by rw [eT,if_neg e],rfl⟩
  rintro _ _ ⟨rfl,rfl⟩
  refine yK (fun ρ' O'=>ρ'=[some (.own x),some (.d (.int (eT S))),some (.d (.int (eB S))),none,none]/\O=O') (fun R1 hR1=>?_) ?_
  · walk_at "wd"
    simp [hx,and_assoc,zi,T.st.cl,T.st.n_picture,T.st.n_wide,T.st.n_high,T.st.n_row,T.st.n_column,T.st.n_late,T.st.n_ink,T.st.n_wrap,T.st.n_putting,T.st.n_home,T.st.n_top,T.st.n_bottom,T.st.n_left,T.st.n_right,T.st.n_stops,T.st.n_kept,T.st.n_last,zo,zK,zL,yc,zu,zM,yd,zN,zq,zO,ye,zv,zP,zA,zB,zD,zH,zX,zr,zF,zY,zG,zm,zI,z9,zt,zJ,zz,zQ]
    split
    · rename_i e;exact hR1 _ _ ⟨by rw [eB,if_pos e],rfl⟩
    · rename_i e;exact hR1 _ _ ⟨by rw [eB,if_neg e],rfl⟩
  rintro _ _ ⟨rfl,rfl⟩
  refine yK (fun ρ' O'=>ρ'=[some (.own x),some (.d (.int (eT S))),some (.d (.int (eB S))),some (.d (.int (eL S))),none]/\O=O') (fun R1 hR1=>?_) ?_
  · walk_at "wd"
    simp [hx,and_assoc,zi,T.st.cl,T.st.n_picture,T.st.n_wide,T.st.n_high,T.st.n_row,T.st.n_column,T.st.n_late,T.st.n_ink,T.st.n_wrap,T.st.n_putting,T.st.n_home,T.st.n_top,T.st.n_bottom,T.st.n_left,T.st.n_right,T.st.n_stops,T.st.n_kept,T.st.n_last,zo,zK,zL,yc,zu,zM,yd,zN,zq,zO,ye,zv,zP,zA,zB,zD,zH,zX,zr,zF,zY,zG,zm,zI,z9,zt,zJ,zz,zQ]
    split
    · rename_i e;exact hR1 _ _ ⟨by rw [eL,if_pos e],rfl⟩
    · rename_i e;exact hR1 _ _ ⟨by rw [eL,if_neg e],rfl⟩
  rintro _ _ ⟨rfl,rfl⟩
  refine yK (fun ρ' O'=>ρ'=[some (.own x),some (.d (.int (eT S))),some (.d (.int (eB S))),some (.d (.int (eL S))),some (.d (.int (eR S)))]/\O=O') (fun R1 hR1=>?_) ?_
  · walk_at "wd"
    simp [hx,and_assoc,zi,T.st.cl,T.st.n_picture,T.st.n_wide,T.st.n_high,T.st.n_row,T.st.n_column,T.st.n_late,T.st.n_ink,T.st.n_wrap,T.st.n_putting,T.st.n_home,T.st.n_top,T.st.n_bottom,T.st.n_left,T.st.n_right,T.st.n_stops,T.st.n_kept,T.st.n_last,zo,zK,zL,yc,zu,zM,yd,zN,zq,zO,ye,zv,zP,zA,zB,zD,zH,zX,zr,zF,zY,zG,zm,zI,z9,zt,zJ,zz,zQ]
    split
    · rename_i e;exact hR1 _ _ ⟨by rw [eR,if_pos e],rfl⟩
    · rename_i e;exact hR1 _ _ ⟨by rw [eR,if_neg e],rfl⟩
  rintro _ _ ⟨rfl,rfl⟩
  walk_at "wd"
  exact .inl h
theorem Ue (F:Fun K "blank_of" "blank_of" jF f fd) (T:Txt K mg C):FnOk P w K mg base CX0 1 f fd ["state"] (zb K (sBlankOf C)):=by
 apply F.okV V7 (by rintro _ _ _ ⟨x,dx,p,st,kp,S,rfl,_⟩;rfl) (fun cdv A outer sh H E hr=>(zf (yg (yL (qc zg (qc (zj (K:=K) rfl (pv 0) rfl) qn))))))
 ·walk_at "ref"
 rintro _ O R ⟨x,dx,p,st,kp,S,rfl,hs,h⟩
 have hx:=hs.x
 walk_at "wd"
 simp [hx,xq,and_assoc,zi,T.st.cl,T.st.n_picture,T.st.n_wide,T.st.n_high,T.st.n_row,T.st.n_column,T.st.n_late,T.st.n_ink,T.st.n_wrap,T.st.n_putting,T.st.n_home,T.st.n_top,T.st.n_bottom,T.st.n_left,T.st.n_right,T.st.n_stops,T.st.n_kept,T.st.n_last,zo,zK,zL,yc,zu,zM,yd,zN,zq,zO,ye,zv,zP,zA,zB,zD,zH,zX,zr,zF,zY,zG,zm,zI,z9,zt,zJ,zz,zQ]
 exact .inl h
theorem Uf (F:Fun K "to_place" "to_place" jG f fd) (T:Txt K mg C) (zhs:Cal P w K mg base 2 "counted" [] (zb K jy)):FnOk P w K mg base CX0 3 f fd ["state","row","column"] (zb K (sPlace C)):=by
  apply F.okV V8 (by rintro _ _ _ ⟨r,c,_,_,x,dx,p,st,kp,S,rfl,_⟩;rfl) (fun cdv A outer sh H E hr=>(zd (yw (xH (zj (K:=K) rfl (pv 0) rfl)) (zd (yf (K:=K) rfl (pv 0) (zn zhs (hr.mono (by decide)) rfl (QA.pa (qc (pv 1) (qc (zj (K:=K) rfl (pv 0) rfl) (qc (zj (K:=K) rfl (pv 0) rfl) qn))))) rfl)
      (zf (yf (K:=K) rfl (pv 0) (zn zhs (hr.mono (by decide)) rfl (QA.pa (qc (pv 2) (qc (zj (K:=K) rfl (pv 0) rfl) (qc (zj (K:=K) rfl (pv 0) rfl) qn))))) rfl))) (zd (yf (K:=K) rfl (pv 0) (zn zhs (hr.mono (by decide)) rfl (QA.pa (qc (pv 1) (qc za (qc (zh yM (zj (K:=K) rfl (pv 0) rfl) za) qn))))) rfl)
      (zf (yf (K:=K) rfl (pv 0) (zn zhs (hr.mono (by decide)) rfl (QA.pa (qc (pv 2) (qc za (qc (zh yM (zj (K:=K) rfl (pv 0) rfl) za) qn))))) rfl))))
      (zf (yf (K:=K) rfl (pv 0) xa rfl))))
  · walk_at "ref"
  rintro _ O R ⟨r,c,hr,hc,x,dx,p,st,kp,S,rfl,hs,_,h⟩
  have hx:=hs.x
  simp only [plS] at h
  walk_at "wd"
  simp [hx,hr,hc,yH,and_assoc,zi,T.st.cl,T.st.n_picture,T.st.n_wide,T.st.n_high,T.st.n_row,T.st.n_column,T.st.n_late,T.st.n_ink,T.st.n_wrap,T.st.n_putting,T.st.n_home,T.st.n_top,T.st.n_bottom,T.st.n_left,T.st.n_right,T.st.n_stops,T.st.n_kept,T.st.n_last,zo,zK,zL,yc,zu,zM,yd,zN,zq,zO,ye,zv,zP,zA,zB,zD,zH,zX,zr,zF,zY,zG,zm,zI,z9,zt,zJ,zz,zQ]
  cases hh:S.home with
  |true=>
    simp [hh] at h ⊢
    exact .inl (h _ (hs.fld rfl rfl rfl) But.ux)
  |false=>
    simp [hh] at h ⊢
    exact .inl (h _ (hs.fld rfl rfl rfl) But.ux)
theorem Jc (F:Fun K "to_home" "to_home" kA f fd) (T:Txt K mg C) (zhS:Cal P w K mg base 3 "to_place" [] (zb K (sPlace C))):FnOk P w K mg base CX0 4 f fd ["state"] (zb K (sHome C)):=by
 apply F.okV Q3 (by rintro _ _ _ ⟨x,dx,p,st,kp,S,rfl,_⟩;rfl) (fun cdv A outer sh H E hr=>(zf (yF (zn zhS (hr.mono (by decide)) rfl (QA.pa (qc (pv 0) (qc xo (qc xo qn))))))))
 ·walk_at "ref"
 rintro _ O R ⟨x,dx,p,st,kp,S,rfl,hs,_,h⟩
 walk_at "wd"
 exact⟨.none,.none,trivial,trivial,x,dx,p,st,kp,S,rfl,hs,trivial,fun O' h1 h2=>.inl (h O' h1 h2)⟩
theorem Ug (F:Fun K "set_rows" "set_rows" jI f fd) (T:Txt K mg C) (zhO:Cal P w K mg base 2 "span" [] (zb K Z6)) (zhQ:Cal P w K mg base 4 "to_home" [] (zb K (sHome C))):FnOk P w K mg base CX0 5 f fd ["state","first","last"] (zb K (sRows C)):=by
  have nd:=Zg.nd
  apply F.okV Zg (by rintro _ _ _ ⟨r,c,_,_,x,dx,p,st,kp,S,rfl,_⟩;rfl) (fun cdv A outer sh H E hr=>(zd (yn (i:=3) nd rfl (Or.inl rfl) (zn zhO (hr.mono (by decide)) rfl (QA.pa (qc (pv 1) (qc (pv 2) (qc (zj (K:=K) rfl (pv 0) rfl) qn))))))
      (zf (yw (zx qR (pv 3) xo (zE _)) (zd (yf (K:=K) rfl (pv 0) (yJ (xg (K:=K) rfl) (pv 3) za (fun _ _=>rfl)) rfl)
      (zd (yf (K:=K) rfl (pv 0) (yJ (xg (K:=K) rfl) (pv 3) za (fun _ _=>rfl)) rfl)
      (zf (yF (zn zhQ (hr.mono (by decide)) rfl (QA.pa (qc (pv 0) qn))))))) yh))))
  · walk_at "ref"
  rintro _ O R ⟨a,b,ha,hb,x,dx,p,st,kp,S,rfl,hs,_,h⟩
  have hx:=hs.x
  simp only [rowsS] at h
  walk_at "wd"
  simp [hx,ha,hb,yH,Xq,and_assoc,zi,T.st.cl,T.st.n_picture,T.st.n_wide,T.st.n_high,T.st.n_row,T.st.n_column,T.st.n_late,T.st.n_ink,T.st.n_wrap,T.st.n_putting,T.st.n_home,T.st.n_top,T.st.n_bottom,T.st.n_left,T.st.n_right,T.st.n_stops,T.st.n_kept,T.st.n_last,zo,zK,zL,yc,zu,zM,yd,zN,zq,zO,ye,zv,zP,zA,zB,zD,zH,zX,zr,zF,zY,zG,zm,zI,z9,zt,zJ,zz,zQ]
  by_cases e:xi b S.h < oneD a
  · rw [if_pos e] at h
    simp [e,vZ]
    exact .inl (h _ hs But.refl)
  · rw [if_neg e] at h
    simp [e,vZ,atI,ixN,xD,hx,yH,and_assoc,zi,T.st.cl,T.st.n_picture,T.st.n_wide,T.st.n_high,T.st.n_row,T.st.n_column,T.st.n_late,T.st.n_ink,T.st.n_wrap,T.st.n_putting,T.st.n_home,T.st.n_top,T.st.n_bottom,T.st.n_left,T.st.n_right,T.st.n_stops,T.st.n_kept,T.st.n_last,zo,zK,zL,yc,zu,zM,yd,zN,zq,zO,ye,zv,zP,zA,zB,zD,zH,zX,zr,zF,zY,zG,zm,zI,z9,zt,zJ,zz,zQ]
    refine⟨x,dx,p,st,kp,_,rfl,hs.fld (S':={ S with top:=oneD a - 1,bottom:=xi b S.h - 1 }) rfl rfl rfl,trivial,fun O' h1 h2=>.inl (h O' h1 (But.ux.trans h2))⟩
theorem YB (F:Fun K "set_columns" "set_columns" uj f fd) (T:Txt K mg C) (zhO:Cal P w K mg base 2 "span" [] (zb K Z6)) (zhQ:Cal P w K mg base 4 "to_home" [] (zb K (sHome C))):FnOk P w K mg base CX0 5 f fd ["state","first","last"] (zb K (sCols C)):=by
  have nd:=jf.nd
  apply F.okV jf (by rintro _ _ _ ⟨r,c,_,_,x,dx,p,st,kp,S,rfl,_⟩;rfl) (fun cdv A outer sh H E hr=>(zd (yn (i:=3) nd rfl (Or.inl rfl) (zn zhO (hr.mono (by decide)) rfl (QA.pa (qc (pv 1) (qc (pv 2) (qc (zj (K:=K) rfl (pv 0) rfl) qn))))))
      (zf (yw (zx qR (pv 3) xo (zE _)) (zd (yf (K:=K) rfl (pv 0) (yJ (xg (K:=K) rfl) (pv 3) za (fun _ _=>rfl)) rfl)
      (zd (yf (K:=K) rfl (pv 0) (yJ (xg (K:=K) rfl) (pv 3) za (fun _ _=>rfl)) rfl)
      (zf (yF (zn zhQ (hr.mono (by decide)) rfl (QA.pa (qc (pv 0) qn))))))) yh))))
  · walk_at "ref"
  rintro _ O R ⟨a,b,ha,hb,x,dx,p,st,kp,S,rfl,hs,_,h⟩
  have hx:=hs.x
  simp only [colsS] at h
  walk_at "wd"
  simp [hx,ha,hb,yH,Xq,and_assoc,zi,T.st.cl,T.st.n_picture,T.st.n_wide,T.st.n_high,T.st.n_row,T.st.n_column,T.st.n_late,T.st.n_ink,T.st.n_wrap,T.st.n_putting,T.st.n_home,T.st.n_top,T.st.n_bottom,T.st.n_left,T.st.n_right,T.st.n_stops,T.st.n_kept,T.st.n_last,zo,zK,zL,yc,zu,zM,yd,zN,zq,zO,ye,zv,zP,zA,zB,zD,zH,zX,zr,zF,zY,zG,zm,zI,z9,zt,zJ,zz,zQ]
  by_cases e:xi b S.w < oneD a
  · rw [if_pos e] at h
    simp [e,vZ]
    exact .inl (h _ hs But.refl)
  · rw [if_neg e] at h
    simp [e,vZ,atI,ixN,xD,hx,yH,and_assoc,zi,T.st.cl,T.st.n_picture,T.st.n_wide,T.st.n_high,T.st.n_row,T.st.n_column,T.st.n_late,T.st.n_ink,T.st.n_wrap,T.st.n_putting,T.st.n_home,T.st.n_top,T.st.n_bottom,T.st.n_left,T.st.n_right,T.st.n_stops,T.st.n_kept,T.st.n_last,zo,zK,zL,yc,zu,zM,yd,zN,zq,zO,ye,zv,zP,zA,zB,zD,zH,zX,zr,zF,zY,zG,zm,zI,z9,zt,zJ,zz,zQ]
    refine⟨x,dx,p,st,kp,_,rfl,hs.fld (S':={ S with left:=oneD a - 1,right:=xi b S.w - 1 }) rfl rfl rfl,trivial,fun O' h1 h2=>.inl (h O' h1 (But.ux.trans h2))⟩
theorem Yi (F:Fun K "to_left_edge" "to_left_edge" vV f fd) (T:Txt K mg C) (zhv:Cal P w K mg base 1 "edges" [] (zb K (sEdges C))):FnOk P w K mg base CX0 2 f fd ["state"] (zb K (sLeft C)):=by
  apply F.okV Ye (by rintro _ _ _ ⟨x,dx,p,st,kp,S,rfl,_⟩;rfl) (fun cdv A outer sh H E hr=>(zd (yf (K:=K) rfl (pv 0) (yJ (xg (K:=K) rfl) (zn zhv (hr.mono (by decide)) rfl (QA.pa (qc (pv 0) qn))) za (fun _ _=>rfl)) rfl)
      (zf (yf (K:=K) rfl (pv 0) xa rfl))))
  · walk_at "ref"
  rintro _ O R ⟨x,dx,p,st,kp,S,rfl,hs,_,h⟩
  have hx:=hs.x
  walk_at "wd"
  refine⟨x,dx,p,st,kp,S,rfl,hs,?_⟩
  simp [hx,yH,atI,ixN,and_assoc,zi,T.st.cl,T.st.n_picture,T.st.n_wide,T.st.n_high,T.st.n_row,T.st.n_column,T.st.n_late,T.st.n_ink,T.st.n_wrap,T.st.n_putting,T.st.n_home,T.st.n_top,T.st.n_bottom,T.st.n_left,T.st.n_right,T.st.n_stops,T.st.n_kept,T.st.n_last,zo,zK,zL,yc,zu,zM,yd,zN,zq,zO,ye,zv,zP,zA,zB,zD,zH,zX,zr,zF,zY,zG,zm,zI,z9,zt,zJ,zz,zQ]
  exact .inl (h _ (hs.fld rfl rfl rfl) But.ux)
theorem zfe (F:Fun K "dye" "dye" Q4 f fd) (T:Txt K mg C) (zhu:Cal P w K mg base 3 "dyed" [] (zb K Xr)):FnOk P w K mg base CX0 4 f fd ["state","numbers"] (zb K (sDye C)):=by
  have nd:=Kr.nd
  apply F.okV Kr (by rintro _ _ _ ⟨ns,_,x,dx,p,st,kp,S,rfl,_⟩;rfl) (fun cdv A outer sh H E hr=>(zf (xV PassesOwn.never rfl (kW (K:=K) rfl (pv 1)) (yx (i:=2) nd rfl (Or.inl rfl))
      (zf (yf (K:=K) rfl (pv 0) (zn zhu (hr.mono (by decide)) rfl (QA.pa (qc (zj (K:=K) rfl (pv 0) rfl) (qc (pv 2) qn)))) rfl)))))
  · walk_at "ref"
  rintro _ O R ⟨ns,hns,x,dx,p,st,kp,S,rfl,hs,hi,h⟩
  walk_at "wd"
  refine xF.by (fun i ρ O'=>∃ v,ρ=[some (.own x),some (.d (.tuple ns)),v]/\StAt O' C x dx p st kp (dyeS (ns.take i) S)/\Ink (dyeS (ns.take i) S).ink/\But O O' x p) ⟨_,rfl,hs,hi,But.refl⟩ (fun _ _ _ _=>trivial) ?_ ?_
  · rintro i wv _ O1 hw ⟨v,rfl,hs1,hi1,hb1⟩ R1 hR1
    rw [List.getElem?_map] at hw
    cases hni:ns[i]? with
    |none=>rw [hni] at hw;cases hw
    |some n=>
      rw [hni] at hw
      cases hw
      have hx1:=hs1.x
      have hn:=hns n (List.mem_of_getElem? hni)
      walk_at "wd"
      simp [hx1,hi1,hn,yH,and_assoc,zi,T.st.cl,T.st.n_picture,T.st.n_wide,T.st.n_high,T.st.n_row,T.st.n_column,T.st.n_late,T.st.n_ink,T.st.n_wrap,T.st.n_putting,T.st.n_home,T.st.n_top,T.st.n_bottom,T.st.n_left,T.st.n_right,T.st.n_stops,T.st.n_kept,T.st.n_last,zo,zK,zL,yc,zu,zM,yd,zN,zq,zO,ye,zv,zP,zA,zB,zD,zH,zX,zr,zF,zY,zG,zm,zI,z9,zt,zJ,zz,zQ]
      have et:ns.take (i+1)=ns.take i ++ [n]:=by
        rw [List.take_add_one,hni];rfl
      refine hR1 _ _ ⟨_,rfl,?_,?_,hb1.trans But.ux⟩
      · have:=hs1.fld (S':={ dyeS (ns.take i) S with ink:=dyeI (dyeS (ns.take i) S).ink n }) rfl rfl rfl
        rw [et]
        simpa [dyeS,List.foldl_append] using this
      · rw [et]
        simp only [dyeS,List.foldl_append,List.foldl_cons,List.foldl_nil]
        exact Zu hi1
  · rintro ρ O1 ⟨v,rfl,hs1,_,hb1⟩
    simp at hs1
    exact .inl (h _ hs1 hb1)
theorem Y8 (F:Fun K "turn_modes" "turn_modes" qe f fd) (T:Txt K mg C) (zhQ:Cal P w K mg base 4 "to_home" [] (zb K (sHome C))):FnOk P w K mg base CX0 5 f fd ["state","numbers","on"] (zb K (sModes C)):=by
  have nd:=jN.nd
  apply F.okV jN (by rintro _ _ _ ⟨k,on,x,dx,p,st,kp,S,rfl,_⟩;rfl) (fun cdv A outer sh H E hr=>(zd (yn (i:=3) nd rfl (Or.inl rfl) (vA zee (pv 2) xa (zE _)))
      (zd (xV PassesOwn.never rfl (kW (K:=K) rfl (pv 1)) (yx (i:=4) nd rfl (Or.inl rfl))
      (zf (yw (zx yW (pv 4) za (zE _)) (zf (yf (K:=K) rfl (pv 0) (pv 3) rfl)) (zf (yw (zx yW (pv 4) za (zE _)) (zf (yf (K:=K) rfl (pv 0) (pv 3) rfl)) (zf (yw (zx yW (pv 4) za (zE _)) (zf (yf (K:=K) rfl (pv 0) (pv 3) rfl)) yh)))))))
      (zf (yw (zx (jv (K:=K) rfl) za (pv 1) (by with_unfolding_all rfl)) (zf (yF (zn zhQ (hr.mono (by decide)) rfl (QA.pa (qc (pv 0) qn))))) yh)))))
  · walk_at "ref"
  rintro _ O R ⟨k,on,x,dx,p,st,kp,S,rfl,hs,_,h⟩
  refine yK (fun ρ' O'=>ρ'=[some (.own x),some (.d (.tuple [.int k])),some (.d (.bool on)),some (.d (.bool on)),none]/\O=O') (fun R1 hR1=>?_) ?_
  · walk_at "wd"
    exact hR1 _ _ ⟨rfl,rfl⟩
  rintro _ _ ⟨rfl,rfl⟩
  refine yK (fun ρ' O'=>∃ v,ρ'=[some (.own x),some (.d (.tuple [.int k])),some (.d (.bool on)),some (.d (.bool on)),v]/\But O O' x p/\StAt O' C x dx p st kp (if k= 1 then { S with wrap:=on } else if k= 2 then { S with putting:=on } else if k= 3 then { S with home:=on } else S)) (fun R1 hR1=>?_) ?_
  · walk_at "wd"
    refine xF.by (fun i ρ O'=>∃ v,ρ=[some (.own x),some (.d (.tuple [.int k])),some (.d (.bool on)),some (.d (.bool on)),v]/\But O O' x p/\StAt O' C x dx p st kp (if i= 0 then S else if k= 1 then { S with wrap:=on } else if k= 2 then { S with putting:=on } else if k= 3 then { S with home:=on } else S)) ⟨_,rfl,But.refl,hs⟩ (fun _ _ _ _=>trivial) ?_ ?_
    · rintro i wv _ O1 hw ⟨v,rfl,hb1,hs1⟩ R2 hR2
      cases i with
      |succ i=>simp at hw
      |zero=>
        cases hw
        rw [if_pos rfl] at hs1
        have hx1:=hs1.x
        walk_at "wd"
        simp [hx1,yH,and_assoc,zi,T.st.cl,T.st.n_picture,T.st.n_wide,T.st.n_high,T.st.n_row,T.st.n_column,T.st.n_late,T.st.n_ink,T.st.n_wrap,T.st.n_putting,T.st.n_home,T.st.n_top,T.st.n_bottom,T.st.n_left,T.st.n_right,T.st.n_stops,T.st.n_kept,T.st.n_last,zo,zK,zL,yc,zu,zM,yd,zN,zq,zO,ye,zv,zP,zA,zB,zD,zH,zX,zr,zF,zY,zG,zm,zI,z9,zt,zJ,zz,zQ]
        split
        · rename_i e;subst e;exact hR2 _ _ ⟨_,rfl,hb1.trans But.ux,by simpa using hs1.fld (S':={ S with wrap:=on }) rfl rfl rfl⟩
        · split
          · rename_i e;subst e;exact hR2 _ _ ⟨_,rfl,hb1.trans But.ux,by simpa using hs1.fld (S':={ S with putting:=on }) rfl rfl rfl⟩
          · split
            · rename_i e;subst e;exact hR2 _ _ ⟨_,rfl,hb1.trans But.ux,by simpa using hs1.fld (S':={ S with home:=on }) rfl rfl rfl⟩
            · rename_i e1 e2 e3;exact hR2 _ _ ⟨_,rfl,hb1,by simpa [e1,e2,e3] using hs1⟩
    · rintro ρ O1 ⟨v,rfl,hb1,hs1⟩
      exact hR1 _ _ ⟨v,rfl,hb1,by simpa using hs1⟩
  rintro _ O1 ⟨v,rfl,hb1,hs1⟩
  walk_at "wd"
  simp [qD,xD,inV,eqV,scD,vOf]
  simp only [modeS] at h
  by_cases e:k= 3
  · subst e
    simp at hs1 h ⊢
    exact⟨x,dx,p,st,kp,_,rfl,hs1,trivial,fun O' h1 h2=>.inl (h O' h1 (hb1.trans h2))⟩
  · simp [e] at hs1 h ⊢
    exact .inl (h _ hs1 hb1)
theorem Kt (F:Fun K "copied" "copied" Zz f fd) (T:Txt K mg C):FnOk P w K mg base CX0 1 f fd ["picture"] (zb K sCopied):=by
 apply F.okV Kq (by rintro _ _ _ ⟨p,h,w,f,rfl,_⟩;rfl) (fun cdv A outer sh H E hr=>(zf (yg (ZO (qB (N:=["row"]) (n:=1) (js:=[])) rfl (jw (K:=K) rfl (pv 0)) (fun _ _ _ _=>(yx (i:=0) (show List.Nodup (["row"]:List Str) by decide +kernel) rfl (Or.inl rfl))) (fun _ _ _ _=>vB) (fun _ _ _ _=>(qr (zbq (K:=K) rfl) (by rfl) T.n_list rfl (QA.pa (qc (pv 0) qn))))))))
 ·walk_at "ref"
 rintro _ O R ⟨p,h,w,g,rfl,hp,hh,q⟩
 walk_at "wd"
 have e1:=x3 hp
 rw [uK] at e1
 refine⟨_,e1,by simp;omega,fun v=>match v with |.row _ i=>some (PyData.list ((List.range w).map fun j=>celD (g i j))) |_=>none,?_,.inl ?_⟩
 ·intro a ha us hus
  obtain⟨i,hi,rfl⟩:=List.mem_map.mp ha
  have hi:i < h:=by simpa using hi
  match us,hus with
  |[u],_=>
   have e2:=X7 hp hi
   have e3:xq ((List.range w).map fun j=>W.d (celD (g i j)))=some ((List.range w).map fun j=>celD (g i j)):=by
    have:=xG ((List.range w).map fun j=>celD (g i j))
    rw [List.map_map] at this
    exact this
   simp [qD,xD,e2,e3]
 ·have e4:List.filterMap (fun v=>match v with |W.row _ i=>some (PyData.list ((List.range w).map fun j=>celD (g i j))) |_=>none) ((List.range h).map (W.row p))=(genG h w g).map .list:=by
   unfold genG
   rw [List.filterMap_map,List.map_map]
   exact congrFun (List.filterMap_eq_map (f:=fun i=>PyData.list ((List.range w).map fun j=>celD (g i j)))) (List.range h)
  rw [e4]
  exact q
theorem VB (F:Fun K "roll_rows" "roll_rows" qK f fd) (T:Txt K mg C) (zhr:Cal P w K mg base 1 "copied" [] (zb K sCopied)) (zhm:Cal P w K mg base 1 "blank_of" [] (zb K (sBlankOf C))):FnOk P w K mg base CX0 2 f fd ["state","first","step"] (zb K (sRoll C)):=by
  have nd:=kB.nd
  apply F.okV kB (by rintro _ _ _ ⟨a,s,_,_,x,dx,p,st,kp,S,rfl,_⟩;rfl) (fun cdv A outer sh H E hr=>(zd (yn (i:=3) nd rfl (Or.inl rfl) (zn zhr (hr.mono (by decide)) rfl (QA.pa (qc (zj (K:=K) rfl (pv 0) rfl) qn))))
      (zf (xV PassesOwn.never rfl (vz rfl T.n_range (QA.pa (qc (pv 1) (qc (zh yG (zj (K:=K) rfl (pv 0) rfl) za) qn)))) (yx (i:=4) nd rfl (Or.inl rfl))
      (zd (yn (i:=5) nd rfl (Or.inl rfl) (zh yG (pv 4) (pv 2)))
      (zd (yn (i:=6) nd rfl (Or.inl rfl) (Zi xz xz (pv 1) (pv 5) (zj (K:=K) rfl (pv 0) rfl)))
      (zf (xV PassesOwn.never rfl (vz rfl T.n_range (QA.pa (qc (zj (K:=K) rfl (pv 0) rfl) (qc (zh yG (zj (K:=K) rfl (pv 0) rfl) za) qn)))) (yx (i:=7) nd rfl (Or.inl rfl))
      (zf (xQ (yZ (xH (pv 6)) (yJ (xB (K:=K) rfl) (yJ (xB (K:=K) rfl) (pv 3) (pv 5) (fun _ _=>rfl)) (pv 7) (fun _ _=>rfl)) (zn zhm (hr.mono (by decide)) rfl (QA.pa (qc (pv 0) qn)))) (uA (yJ (xB (K:=K) rfl) (zj (K:=K) rfl (pv 0) rfl) (pv 4) (fun _ _=>rfl)) (pv 7) vq)))))))))))
  · walk_at "ref"
  rintro _ O R ⟨a,s,s1,s2,x,dx,p,st,kp,S,rfl,hs,⟨hB,a0,a1⟩,h⟩
  have hx:=hs.x
  have:=hB.h2
  have:=hB.w2
  refine yK (fun ρ' O'=>ρ'=[some (.own x),some (.d (.int a)),some (.d (.int s)),some (.d (.list ((genG S.h S.w S.pic).map .list))),none,none,none,none]/\O=O') (fun R1 hR1=>?_) ?_
  · walk_at "wd"
    simp [hx,and_assoc,zi,T.st.cl,T.st.n_picture,T.st.n_wide,T.st.n_high,T.st.n_row,T.st.n_column,T.st.n_late,T.st.n_ink,T.st.n_wrap,T.st.n_putting,T.st.n_home,T.st.n_top,T.st.n_bottom,T.st.n_left,T.st.n_right,T.st.n_stops,T.st.n_kept,T.st.n_last,zo,zK,zL,yc,zu,zM,yd,zN,zq,zO,ye,zv,zP,zA,zB,zD,zH,zX,zr,zF,zY,zG,zm,zI,z9,zt,zJ,zz,zQ]
    exact⟨p,S.h,S.w,S.pic,rfl,hs.p,hB.h2,hR1 _ _ ⟨rfl,rfl⟩⟩
  rintro _ _ ⟨rfl,rfl⟩
  have:=hB.b1
  have:=hB.l0
  have:=hB.lr
  have:=hB.rr
  walk_at "wd"
  simp [hx,and_assoc,zi,T.st.cl,T.st.n_picture,T.st.n_wide,T.st.n_high,T.st.n_row,T.st.n_column,T.st.n_late,T.st.n_ink,T.st.n_wrap,T.st.n_putting,T.st.n_home,T.st.n_top,T.st.n_bottom,T.st.n_left,T.st.n_right,T.st.n_stops,T.st.n_kept,T.st.n_last,zo,zK,zL,yc,zu,zM,yd,zN,zq,zO,ye,zv,zP,zA,zB,zD,zH,zX,zr,zF,zY,zG,zm,zI,z9,zt,zJ,zz,zQ]
  refine⟨by omega,by omega,by omega,by omega,?_⟩
  generalize hN:mvP S.pic S.ink a S.bottom S.left S.right s 0 =N
  refine xF.rng (fun i ρ O'=>∃ v4 v5 v6 v7,ρ=[some (.own x),some (.d (.int a)),some (.d (.int s)),some (.d (.list ((genG S.h S.w S.pic).map .list))),v4,v5,v6,v7]/\But O O' x p/\StAt O' C x dx p st kp { S with pic:=goP N S.pic a S.left i 0 }) ⟨_,_,_,_,rfl,But.refl,?_⟩ ?_ ?_
  · rw [X9 (fun a' b' hab=>by rw [<- hN];exact vC (by omega))]
    exact hs
  · rintro i _ O1 hi ⟨v4,v5,v6,v7,rfl,hb1,hs1⟩ R1 hR1
    have hx1:=hs1.x
    refine yK (fun ρ' O'=>ρ'=[some (.own x),some (.d (.int a)),some (.d (.int s)),some (.d (.list ((genG S.h S.w S.pic).map .list))),some (.d (.int (a+i))),some (.d (.int (a+i+s))),v6,v7]/\O1=O') (fun R2 hR2=>?_) ?_
    · walk_at "wd"
      exact hR2 _ _ ⟨rfl,rfl⟩
    rintro _ _ ⟨rfl,rfl⟩
    refine yK (fun ρ' O'=>ρ'=[some (.own x),some (.d (.int a)),some (.d (.int s)),some (.d (.list ((genG S.h S.w S.pic).map .list))),some (.d (.int (a+i))),some (.d (.int (a+i+s))),some (.d (.bool (decide (a≤a+i+s/\a+i+s≤S.bottom)))),v7]/\O1=O') (fun R2 hR2=>?_) ?_
    · walk_at "wd"
      simp [hx1,and_assoc,zi,T.st.cl,T.st.n_picture,T.st.n_wide,T.st.n_high,T.st.n_row,T.st.n_column,T.st.n_late,T.st.n_ink,T.st.n_wrap,T.st.n_putting,T.st.n_home,T.st.n_top,T.st.n_bottom,T.st.n_left,T.st.n_right,T.st.n_stops,T.st.n_kept,T.st.n_last,zo,zK,zL,yc,zu,zM,yd,zN,zq,zO,ye,zv,zP,zA,zB,zD,zH,zX,zr,zF,zY,zG,zm,zI,z9,zt,zJ,zz,zQ]
      split
      · rename_i e;exact hR2 _ _ ⟨by simp [e],rfl⟩
      · rename_i e;exact hR2 _ _ ⟨by simp [e],rfl⟩
    rintro _ _ ⟨rfl,rfl⟩
    generalize hin:decide (a≤a+i+s/\a+i+s≤S.bottom)=ins
    walk_at "wd"
    simp [hx1,and_assoc,zi,T.st.cl,T.st.n_picture,T.st.n_wide,T.st.n_high,T.st.n_row,T.st.n_column,T.st.n_late,T.st.n_ink,T.st.n_wrap,T.st.n_putting,T.st.n_home,T.st.n_top,T.st.n_bottom,T.st.n_left,T.st.n_right,T.st.n_stops,T.st.n_kept,T.st.n_last,zo,zK,zL,yc,zu,zM,yd,zN,zq,zO,ye,zv,zP,zA,zB,zD,zH,zX,zr,zF,zY,zG,zm,zI,z9,zt,zJ,zz,zQ]
    refine⟨by omega,by omega,by omega,by omega,?_⟩
    refine xF.rng (fun j ρ O'=>∃ v7,ρ=[some (.own x),some (.d (.int a)),some (.d (.int s)),some (.d (.list ((genG S.h S.w S.pic).map .list))),some (.d (.int (a+i))),some (.d (.int (a+i+s))),some (.d (.bool ins)),v7]/\But O O' x p/\StAt O' C x dx p st kp { S with pic:=goP N S.pic a S.left i j }) ⟨_,rfl,hb1,hs1⟩ ?_ ?_
    · rintro j _ O2 hj ⟨v7,rfl,hb2,hs2⟩ R2 hR2
      have hx2:=hs2.x
      have e1:=x3 hs2.p
      rw [uK] at e1
      have e2:atI ((List.range S.h).map (W.row p)) (a+(i:Int))=some (W.row p (a+(i:Int)).toNat):=xR (by omega) (by omega)
      have e3:∀ c,N (a+(i:Int)).toNat (S.left+(j:Int)).toNat=c->uf O2 (.row p (a+(i:Int)).toNat) (S.left+j) (.d (celD c))=some (updO O2 p (.grid (genG S.h S.w (goP N S.pic a S.left i (j+1))))):=by
        rintro _ rfl
        rw [jx hs2.p (by simp only;omega) (by omega) (by simp only;omega),Va (by omega) (by omega)]
      have nx:∀ v,R2 [some (.own x),some (.d (.int a)),some (.d (.int s)),some (.d (.list ((genG S.h S.w S.pic).map .list))),some (.d (.int (a+i))),some (.d (.int (a+i+s))),some (.d (.bool ins)),v] (updO O2 p (.grid (genG S.h S.w (goP N S.pic a S.left i (j+1))))):=fun v=>
        hR2 _ _ ⟨v,rfl,hb2.trans But.up,hs2.pic (f:=goP N S.pic a S.left i (j+1))⟩
      cases ins with
      |true=>
        have hin:=of_decide_eq_true hin
        have eN:N (a+(i:Int)).toNat (S.left+(j:Int)).toNat=S.pic (a+i+s).toNat (S.left+(j:Int)).toNat:=by
          rw [<- hN]
          unfold mvP
          rw [if_pos (by omega),if_pos (by omega)]
          unfold atF
          congr 1 <;> first |omega | (congr 1;omega)
        walk_at "wd"
        simp [hx2,e1,e2,e3 _ eN,Ke,zaK (show 0≤a+i+s by omega) (show a+i+s < S.h by omega),X8 (show 0≤S.left+j by omega) (show S.left+j < S.w by omega),-List.map_map,and_assoc,zi,T.st.cl,T.st.n_picture,T.st.n_wide,T.st.n_high,T.st.n_row,T.st.n_column,T.st.n_late,T.st.n_ink,T.st.n_wrap,T.st.n_putting,T.st.n_home,T.st.n_top,T.st.n_bottom,T.st.n_left,T.st.n_right,T.st.n_stops,T.st.n_kept,T.st.n_last,zo,zK,zL,yc,zu,zM,yd,zN,zq,zO,ye,zv,zP,zA,zB,zD,zH,zX,zr,zF,zY,zG,zm,zI,z9,zt,zJ,zz,zQ]
        exact nx _
      |false=>
        have hin:=of_decide_eq_false hin
        have eN:N (a+(i:Int)).toNat (S.left+(j:Int)).toNat=blank S.ink:=by
          rw [<- hN]
          unfold mvP
          rw [if_pos (by omega),if_neg (by omega)]
        walk_at "wd"
        refine⟨x,dx,p,st,kp,_,rfl,hs2,?_⟩
        simp [hx2,e1,e2,e3 _ eN,and_assoc,zi,T.st.cl,T.st.n_picture,T.st.n_wide,T.st.n_high,T.st.n_row,T.st.n_column,T.st.n_late,T.st.n_ink,T.st.n_wrap,T.st.n_putting,T.st.n_home,T.st.n_top,T.st.n_bottom,T.st.n_left,T.st.n_right,T.st.n_stops,T.st.n_kept,T.st.n_last,zo,zK,zL,yc,zu,zM,yd,zN,zq,zO,ye,zv,zP,zA,zB,zD,zH,zX,zr,zF,zY,zG,zm,zI,z9,zt,zJ,zz,zQ]
        exact nx _
    · rintro ρ O2 ⟨v7,rfl,hb2,hs2⟩
      refine hR1 _ _ ⟨_,_,_,_,rfl,hb2,?_⟩
      rw [UT (fun a' b' h1 h2=>by rw [<- hN];exact vC (by omega)) (fun a' b' h1 h2=>by rw [<- hN];exact vC (by omega))] at hs2
      exact hs2
  · rintro ρ O1 ⟨v4,v5,v6,v7,rfl,hb1,hs1⟩
    rw [UU (fun a' b' h1=>by rw [<- hN];exact vC (by omega)),<- hN] at hs1
    exact .inl (h _ hs1 hb1)
theorem kK {d:Value}(F:FunD K "blank_row" "blank_row" vm [d] f fd) (T:Txt K mg C):FnOk P w K mg base CX0 1 f fd ["wide","ink"] (zb K sBlankRow):=by
 apply F.okV Vp (by rintro _ _ _ ⟨a,i,rfl,_⟩;rfl) (fun cdv A outer sh H E hr=>(zf (yg (X3 (qB (N:=["column","ink"]) (n:=1) (js:=[1])) rfl (vy rfl T.n_range (QA.pa (qc (pv 0) qn))) (fun _ _ _ _=>(yx (i:=0) (show List.Nodup (["column","ink"]:List Str) by decide +kernel) rfl (Or.inl rfl))) (fun _ _ _ _=>vB) (fun _ _ _ _=>(yL (qc zg (qc (pv 1) qn))))))))
 ·walk_at "ref"
 rintro _ O R ⟨a,i,rfl,ha,h⟩
 walk_at "wd"
 refine⟨by omega,by omega,fun _=>some (celD (blank i)),?_,fun p hp=>.inl ?_⟩
 ·intro k hk us hus
  match us,hus with
  |[u],_=>simp [xq,celD,blank]
 ·have:=h p hp
  simpa [List.filterMap_map,Function.comp_def] using this
theorem qm {d:Value}(F:FunD K "blank_picture" "blank_picture" xS [d] f fd) (T:Txt K mg C) (zhB:Cal P w K mg base 2 "is_size" [] (zb K QI)) (zhp:Cal P w K mg base 1 "blank_row" [] (zb K sBlankRow)) :
    FnOk P w K mg base CX0 3 f fd ["wide","high","ink"] (zb K sBlankPic):=by
  apply F.okV Zy (by rintro _ _ _ ⟨a,b,i,rfl,_⟩;rfl) (fun cdv A outer sh H E hr=>(zd (yw (ZH (xH (zn zhB (hr.mono (by decide)) rfl (QA.pa (qc (pv 0) (qc (pv 1) qn)))))) (zf KC) yh)
      (zf (yg (J8 (qB (N:=["row","wide","ink"]) (n:=1) (js:=[0,2])) rfl (vy rfl T.n_range (QA.pa (qc (pv 1) qn))) (fun _ _ _ _=>(yx (i:=0) (show List.Nodup (["row","wide","ink"]:List Str) by decide +kernel) rfl (Or.inl rfl))) (fun _ _ _ _=>vB) (fun _ _ _ _=>(zn zhp (hr.mono (by decide)) rfl (QA.pa (qc (pv 1) (qc (pv 2) qn))))))))))
  · walk_at "ref"
  rintro _ O R ⟨a,b,i,rfl,a1,a2,b1,b2,h⟩
  walk_at "wd"
  refine⟨a,b,rfl,a1,a2,b1,b2,?_⟩
  simp
  refine⟨by omega,by omega,fun _=>(List.range a).map fun _=>celD (blank i),?_,fun p hp=>.inl ?_⟩
  · intro k hk us hus
    match us,hus with
    |[u],_=>
      simp
      exact⟨a,i,rfl,a2,fun p hp=>⟨p,hp,rfl,by simp⟩⟩
  · have:=h p hp
    simpa [genG,Function.comp_def] using this
theorem YC (F:Fun K "first_stops" "first_stops" uh f fd) (T:Txt K mg C):FnOk P w K mg base CX0 1 f fd ["wide"] (zb K sStops):=by
 apply F.okV Yy (by rintro _ _ _ ⟨a,rfl,_⟩;rfl) (fun cdv A outer sh H E hr=>(zf (yg (qr (zcX (K:=K) rfl rfl) (by rfl) T.n_dict rfl (QA.pa (qc (ZO (qB (N:=["column"]) (n:=1) (js:=[])) rfl (JN rfl T.n_range (QA.pa (qc (kP rfl T.g_TAB_STEP) (qc (pv 0) (qc (kP rfl T.g_TAB_STEP) qn))))) (fun _ _ _ _=>(yx (i:=0) (show List.Nodup (["column"]:List Str) by decide +kernel) rfl (Or.inl rfl))) (fun _ _ _ _=>vB) (fun _ _ _ _=>(yL (qc (pv 0) (qc xa qn))))) qn))))))
 ·walk_at "ref"
 rintro _ O R ⟨a,rfl,a1,a2,h⟩
 walk_at "wd"
 refine⟨_,r3w a1 a2,by omega,fun v=>match v with |.d (.int k)=>some (.tuple [.int k,.bool true]) |_=>none,?_,?_⟩
 ·intro k hk us hus
  match us,hus with
  |[u],_=>simp [xq]
 ·have e1:∀ (g:Nat->Int) (l:List Nat),List.filterMap ((fun v=>match v with |W.d (PyData.int k)=>some (PyData.tuple [PyData.int k,PyData.bool true]) |_=>none) ∘ fun k=>W.d (PyData.int (g k))) l=l.map fun k=>PyData.tuple [.int (g k),.bool true]:=fun g l=>congrFun (List.filterMap_eq_map (f:=fun k=>PyData.tuple [.int (g k),.bool true])) l
  have e2:∀ (g:Nat->Int) (l:List Nat),vJ (l.map fun k=>PyData.tuple [.int (g k),.bool true])=some (l.map fun k=>(Sum.inl (g k),PyData.bool true)):=fun g l=>by
   induction l with
   |nil=>rfl
   |cons k l ih=>simp [vJ,ih]
  rw [e1 (fun k=>4+(k:Int)*4)]
  refine⟨_,rfl,_,e2 _ _,by simp;omega,fun p hp=>.inl ?_⟩
  have:=h p hp
  rw [List.map_map,Z7 (by have:=zaM a2;simpa [stopsW,stK,stopsI,Function.comp_def] using this)]
  simpa [stopsW,stK,stopsI,Function.comp_def] using this
theorem YD (F:Fun K "begin" "State.begin" xA f fd) (T:Txt K mg C) (zhw:Cal P w K mg base 1 "first_stops" [] (zb K sStops)):FnOk P w K mg base CX0 2 f fd ["self"] (zb K (k6 C)):=by
  apply F.okV Yx (by rintro _ _ _ (⟨x,dx,p,w,h,rfl,_⟩ | ⟨x,dx,p,st,kp,S,rfl,_⟩) <;> rfl) (fun cdv A outer sh H E hr=>(zd (yf (K:=K) rfl (pv 0) za rfl)
      (zd (yf (K:=K) rfl (pv 0) za rfl)
      (zd (yf (K:=K) rfl (pv 0) xa rfl)
      (zd (yf (K:=K) rfl (pv 0) za rfl)
      (zd (yf (K:=K) rfl (pv 0) xa rfl)
      (zd (yf (K:=K) rfl (pv 0) xa rfl)
      (zd (yf (K:=K) rfl (pv 0) xa rfl)
      (zd (yf (K:=K) rfl (pv 0) za rfl)
      (zd (yf (K:=K) rfl (pv 0) (zh yM (zj (K:=K) rfl (pv 0) rfl) za) rfl)
      (zd (yf (K:=K) rfl (pv 0) za rfl)
      (zd (yf (K:=K) rfl (pv 0) (zh yM (zj (K:=K) rfl (pv 0) rfl) za) rfl)
      (zd (yf (K:=K) rfl (pv 0) (zn zhw (hr.mono (by decide)) rfl (QA.pa (qc (zj (K:=K) rfl (pv 0) rfl) qn))) rfl)
      (zd (yf (K:=K) rfl (pv 0) (kU qn) rfl)
      (zf (yf (K:=K) rfl (pv 0) xo rfl))))))))))))))))
  · walk_at "ref"
  rintro _ O R (⟨x,dx,p,a,b,rfl,hx,a1,a2,h⟩ | ⟨x,dx,p,st,kp,S,rfl,hs,a1,a2,h⟩)
  · rw [Yw hx]
    refine yP T.st.cl T.st.n_row zgw (fun _ h=>h) (by show 3 < 1000;decide) rfl ?_
    refine yP T.st.cl T.st.n_column zgx (fun _ h=>h) (by show 4 < 1000;decide) rfl ?_
    refine yP T.st.cl T.st.n_late zgy (fun _ h=>h) (by show 5 < 1000;decide) rfl ?_
    refine yP T.st.cl T.st.n_ink zgz (fun _ h=>h) (by show 6 < 1000;decide) rfl ?_
    refine yP T.st.cl T.st.n_wrap zgA (fun _ h=>h) (by show 7 < 1000;decide) rfl ?_
    refine yP T.st.cl T.st.n_putting zgB (fun _ h=>h) (by show 8 < 1000;decide) rfl ?_
    refine yP T.st.cl T.st.n_home zgC (fun _ h=>h) (by show 9 < 1000;decide) rfl ?_
    refine yP T.st.cl T.st.n_top zfL (fun _ h=>h) (by show 10 < 1000;decide) rfl ?_
    refine yP T.st.cl T.st.n_bottom zfM (fun _ h=>by walk_at "wd";simp [zc,QL,and_assoc,zi,T.st.cl,T.st.n_picture,T.st.n_wide,T.st.n_high,T.st.n_row,T.st.n_column,T.st.n_late,T.st.n_ink,T.st.n_wrap,T.st.n_putting,T.st.n_home,T.st.n_top,T.st.n_bottom,T.st.n_left,T.st.n_right,T.st.n_stops,T.st.n_kept,T.st.n_last,zo,zK,zL,yc,zu,zM,yd,zN,zq,zO,ye,zv,zP,zA,zB,zD,zH,zX,zr,zF,zY,zG,zm,zI,z9,zt,zJ,zz,zQ];exact h) (by show 11 < 1000;decide) rfl ?_
    refine yP T.st.cl T.st.n_left zfN (fun _ h=>h) (by show 12 < 1000;decide) rfl ?_
    refine yP T.st.cl T.st.n_right zfO (fun _ h=>by walk_at "wd";simp [zc,QM,and_assoc,zi,T.st.cl,T.st.n_picture,T.st.n_wide,T.st.n_high,T.st.n_row,T.st.n_column,T.st.n_late,T.st.n_ink,T.st.n_wrap,T.st.n_putting,T.st.n_home,T.st.n_top,T.st.n_bottom,T.st.n_left,T.st.n_right,T.st.n_stops,T.st.n_kept,T.st.n_last,zo,zK,zL,yc,zu,zM,yd,zN,zq,zO,ye,zv,zP,zA,zB,zD,zH,zX,zr,zF,zY,zG,zm,zI,z9,zt,zJ,zz,zQ];exact h) (by show 13 < 1000;decide) rfl ?_
    walk_at "wd"
    simp [zc,QN,zbV,and_assoc,zi,T.st.cl,T.st.n_picture,T.st.n_wide,T.st.n_high,T.st.n_row,T.st.n_column,T.st.n_late,T.st.n_ink,T.st.n_wrap,T.st.n_putting,T.st.n_home,T.st.n_top,T.st.n_bottom,T.st.n_left,T.st.n_right,T.st.n_stops,T.st.n_kept,T.st.n_last,zo,zK,zL,yc,zu,zM,yd,zN,zq,zO,ye,zv,zP,zA,zB,zD,zH,zX,zr,zF,zY,zG,zm,zI,z9,zt,zJ,zz,zQ]
    refine⟨a,rfl,a1,a2,fun st hst=>?_⟩
    have nsx:st≠x:=fun e=>by rw [e,zc] at hst;cases hst
    rw [ze nsx] at hst
    simp [ze (Ne.symm nsx),zc,zbV,zbW,and_assoc,zi,T.st.cl,T.st.n_picture,T.st.n_wide,T.st.n_high,T.st.n_row,T.st.n_column,T.st.n_late,T.st.n_ink,T.st.n_wrap,T.st.n_putting,T.st.n_home,T.st.n_top,T.st.n_bottom,T.st.n_left,T.st.n_right,T.st.n_stops,T.st.n_kept,T.st.n_last,zo,zK,zL,yc,zu,zM,yd,zN,zq,zO,ye,zv,zP,zA,zB,zD,zH,zX,zr,zF,zY,zG,zm,zI,z9,zt,zJ,zz,zQ]
    intro kp hkp
    have nkx:kp≠x:=fun e=>by rw [e,zc] at hkp;cases hkp
    rw [ze nkx] at hkp
    have nks:kp≠st:=fun e=>by rw [e,zc] at hkp;cases hkp
    rw [ze nks,ze nkx] at hkp
    simp [ze (Ne.symm nkx),zc,zy,zbW,zfP,and_assoc,zi,T.st.cl,T.st.n_picture,T.st.n_wide,T.st.n_high,T.st.n_row,T.st.n_column,T.st.n_late,T.st.n_ink,T.st.n_wrap,T.st.n_putting,T.st.n_home,T.st.n_top,T.st.n_bottom,T.st.n_left,T.st.n_right,T.st.n_stops,T.st.n_kept,T.st.n_last,zo,zK,zL,yc,zu,zM,yd,zN,zq,zO,ye,zv,zP,zA,zB,zD,zH,zX,zr,zF,zY,zG,zm,zI,z9,zt,zJ,zz,zQ]
    refine .inl (h st kp _ hst hkp zc ?_ ?_ fun b h1 h2 h3=>?_)
    · rw [ze nsx,ze (Ne.symm nks),ze nsx,zc]
    · rw [ze nkx,zc]
    · rw [ze h1,ze h3,ze h1,ze h2,ze h1]
  · rw [Yw hs.x]
    refine yP T.st.cl T.st.n_row zX (fun _ h=>h) (by show 17 < 1000;decide) rfl ?_
    refine yP T.st.cl T.st.n_column zr (fun _ h=>h) (by show 17 < 1000;decide) rfl ?_
    refine yP T.st.cl T.st.n_late zF (fun _ h=>h) (by show 17 < 1000;decide) rfl ?_
    refine yP T.st.cl T.st.n_ink zY (fun _ h=>h) (by show 17 < 1000;decide) rfl ?_
    refine yP T.st.cl T.st.n_wrap zG (fun _ h=>h) (by show 17 < 1000;decide) rfl ?_
    refine yP T.st.cl T.st.n_putting zm (fun _ h=>h) (by show 17 < 1000;decide) rfl ?_
    refine yP T.st.cl T.st.n_home zI (fun _ h=>h) (by show 17 < 1000;decide) rfl ?_
    refine yP T.st.cl T.st.n_top z9 (fun _ h=>h) (by show 17 < 1000;decide) rfl ?_
    refine yP T.st.cl T.st.n_bottom zt (fun _ h=>by walk_at "wd";simp [zc,and_assoc,zi,T.st.cl,T.st.n_picture,T.st.n_wide,T.st.n_high,T.st.n_row,T.st.n_column,T.st.n_late,T.st.n_ink,T.st.n_wrap,T.st.n_putting,T.st.n_home,T.st.n_top,T.st.n_bottom,T.st.n_left,T.st.n_right,T.st.n_stops,T.st.n_kept,T.st.n_last,zo,zK,zL,yc,zu,zM,yd,zN,zq,zO,ye,zv,zP,zA,zB,zD,zH,zX,zr,zF,zY,zG,zm,zI,z9,zt,zJ,zz,zQ];exact h) (by show 17 < 1000;decide) rfl ?_
    refine yP T.st.cl T.st.n_left zJ (fun _ h=>h) (by show 17 < 1000;decide) rfl ?_
    refine yP T.st.cl T.st.n_right zz (fun _ h=>by walk_at "wd";simp [zc,and_assoc,zi,T.st.cl,T.st.n_picture,T.st.n_wide,T.st.n_high,T.st.n_row,T.st.n_column,T.st.n_late,T.st.n_ink,T.st.n_wrap,T.st.n_putting,T.st.n_home,T.st.n_top,T.st.n_bottom,T.st.n_left,T.st.n_right,T.st.n_stops,T.st.n_kept,T.st.n_last,zo,zK,zL,yc,zu,zM,yd,zN,zq,zO,ye,zv,zP,zA,zB,zD,zH,zX,zr,zF,zY,zG,zm,zI,z9,zt,zJ,zz,zQ];exact h) (by show 17 < 1000;decide) rfl ?_
    walk_at "wd"
    simp [zc,and_assoc,zi,T.st.cl,T.st.n_picture,T.st.n_wide,T.st.n_high,T.st.n_row,T.st.n_column,T.st.n_late,T.st.n_ink,T.st.n_wrap,T.st.n_putting,T.st.n_home,T.st.n_top,T.st.n_bottom,T.st.n_left,T.st.n_right,T.st.n_stops,T.st.n_kept,T.st.n_last,zo,zK,zL,yc,zu,zM,yd,zN,zq,zO,ye,zv,zP,zA,zB,zD,zH,zX,zr,zF,zY,zG,zm,zI,z9,zt,zJ,zz,zQ]
    refine⟨S.w,rfl,a1,a2,fun st' hst=>?_⟩
    have nsx:st'≠x:=fun e=>by rw [e,zc] at hst;cases hst
    rw [ze nsx] at hst
    refine⟨C,dx,_,(ze (Ne.symm nsx)).trans zc,T.st.cl,T.st.n_stops,by show 17 < 1000;omega,fun kp' hkp=>?_⟩
    have nkx:kp'≠x:=fun e=>by rw [e,zc] at hkp;cases hkp
    rw [ze nkx] at hkp
    have nks:kp'≠st':=fun e=>by rw [e,zc] at hkp;cases hkp
    rw [ze nks,ze nkx] at hkp
    have nps:p≠st':=fun e=>by rw [<- e,hs.p] at hst;cases hst
    have npk:p≠kp':=fun e=>by rw [<- e,hs.p] at hkp;cases hkp
    refine⟨C,dx,_,(ze (Ne.symm nkx)).trans zc,T.st.cl,T.st.n_kept,by show 17 < 1000;omega,T.st.cl,T.st.n_last,by show 17 < 1000;omega,.inl (h st' kp' _ hst hkp ⟨zc,?_,?_,?_⟩ fun b h1 h2 h3=>?_)⟩
    · rw [ze (Ne.symm hs.xp),ze npk,ze (Ne.symm hs.xp),ze nps,ze (Ne.symm hs.xp)];exact hs.p
    · rw [ze nsx,ze (Ne.symm nks),ze nsx,zc];rfl
    · rw [ze nkx,zc];rfl
    · rw [ze h1,ze h3,ze h1,ze h2,ze h1]
theorem Y9 (F:Fun K "__init__" "State.__init__" y7 f fd) (T:Txt K mg C) (zho:Cal P w K mg base 3 "blank_picture" [.int 0] (zb K sBlankPic)) (zgU:CalT P w K mg base 2 "begin" C (zb K (k6 C))):FnOk P w K mg base CX0 4 f fd ["self","wide","high"] (zb K (sInit C)):=by
  apply F.okV Za (by rintro _ _ _ ⟨x,dx,w,h,rfl,_⟩;rfl) (fun cdv A outer sh H E hr=>(zd (yf (K:=K) rfl (pv 0) (zn zho (hr.mono (by decide)) rfl (QA.pa (qc (pv 1) (qc (pv 2) qn)))) rfl)
      (zd (yf (K:=K) rfl (pv 0) (pv 1) rfl)
      (zd (yf (K:=K) rfl (pv 0) (pv 2) rfl)
      (zf (yF (UI zgU (hr.mono (by decide)) (pv 0))))))))
  · walk_at "ref"
  rintro _ O R ⟨x,dx,a,b,rfl,hx,a1,a2,b1,b2,h⟩
  walk_at "wd"
  refine⟨a,b,0,rfl,a1,a2,b1,b2,fun p hp=>?_⟩
  have npx:p≠x:=fun e=>by rw [e,hx] at hp;cases hp
  simp [ze (Ne.symm npx),hx,zgD,zgE,zgF,QK,and_assoc,zi,T.st.cl,T.st.n_picture,T.st.n_wide,T.st.n_high,T.st.n_row,T.st.n_column,T.st.n_late,T.st.n_ink,T.st.n_wrap,T.st.n_putting,T.st.n_home,T.st.n_top,T.st.n_bottom,T.st.n_left,T.st.n_right,T.st.n_stops,T.st.n_kept,T.st.n_last,zo,zK,zL,yc,zu,zM,yd,zN,zq,zO,ye,zv,zP,zA,zB,zD,zH,zX,zr,zF,zY,zG,zm,zI,z9,zt,zJ,zz,zQ]
  refine⟨by rintro c d (⟨rfl,_⟩ | ⟨rfl,_⟩ | ⟨rfl,_⟩) <;> decide,.inl ⟨x,dx,p,a,b,rfl,zc,a1,a2,fun st kp O' hst hkp h1 h2 h3 h4=>.inl ?_⟩⟩
  have nsx:st≠x:=fun e=>by rw [e,zc] at hst;cases hst
  rw [ze nsx] at hst
  have nsp:st≠p:=fun e=>by rw [e,zc] at hst;cases hst
  rw [ze nsp] at hst
  have nkx:kp≠x:=fun e=>by rw [e,zc] at hkp;cases hkp
  rw [ze nkx] at hkp
  have nkp:kp≠p:=fun e=>by rw [e,zc] at hkp;cases hkp
  rw [ze nkp] at hkp
  refine h p st kp O' hp hst hkp ⟨h1,?_,h2,h3⟩ fun c q1 q2 q3 q4=>?_
  · rw [h4 p npx (Ne.symm nsp) (Ne.symm nkp),ze npx,zc]
    rfl
  · rw [h4 c q1 q3 q4,ze q1,ze q2]
end
theorem _root_.L2.StAt.keptTo {O:OM}{C x dx p st kp:Addr}{S:ST}(s:StAt O C x dx p st kp S) (ks:List KP):StAt (updO O kp (.lst ((ks.map kpT).map .d))) C x dx p st kp { S with kept:=ks }:=
 ⟨by rw [ze s.xk];exact s.x,by rw [ze s.pk];exact s.p,by rw [ze (neW s.st s.kp (by intro h;cases h))];exact s.st,zc⟩
theorem zff {c:Nat}:((⟨#[c]⟩:Str)=Str.ofString "u")=(c= 117):=by rw [show Str.ofString "u" =⟨#[117]⟩ by decide +kernel];simp
theorem zfg {c:Nat}:((⟨#[c]⟩:Str)=Str.ofString "d")=(c= 100):=by rw [show Str.ofString "d" =⟨#[100]⟩ by decide +kernel];simp
theorem zfh {c:Nat}:((⟨#[c]⟩:Str)=Str.ofString "l")=(c= 108):=by rw [show Str.ofString "l" =⟨#[108]⟩ by decide +kernel];simp
theorem zfi {c:Nat}:((⟨#[c]⟩:Str)=Str.ofString "r")=(c= 114):=by rw [show Str.ofString "r" =⟨#[114]⟩ by decide +kernel];simp
section
variable {P:Program}{w:World}{K:W.Frag}{mg:Str->Option Value}{base:Heap}{f C:Addr}{fd:FuncData}
theorem zfZ (F:Fun K "go" "go" zaZ f fd) (T:Txt K mg C) (zhj:Cal P w K mg base 1 "at_least_one" [] (zb K Zt)) (zhv:Cal P w K mg base 1 "edges" [] (zb K (sEdges C))):FnOk P w K mg base CX0 2 f fd ["state","letter","many"] (zb K (zaV C)):=by
  have nd:=zb8.nd
  apply F.okV zb8 (by rintro _ _ _ ⟨c,n,_,_,x,dx,p,st,kp,S,rfl,_⟩;rfl) (fun cdv A outer sh H E hr=>(zd (yn (i:=3) nd rfl (Or.inl rfl) (zn zhj (hr.mono (by decide)) rfl (QA.pa (qc (pv 2) qn))))
      (zd (yn (i:=4) nd rfl (Or.inl rfl) (zn zhv (hr.mono (by decide)) rfl (QA.pa (qc (pv 0) qn))))
      (zd (yw (zx yW (pv 1) zg (zE _)) (zf (yf (K:=K) rfl (pv 0) (yT (jV rfl) (by rfl) T.n_max (by rfl) (QA.pa (qc (zh yM (zj (K:=K) rfl (pv 0) rfl) (pv 3)) (qc (yJ (xg (K:=K) rfl) (pv 4) za (fun _ _=>rfl)) qn)))) rfl)) (zf (yw (zx yW (pv 1) zg (zE _)) (zf (yf (K:=K) rfl (pv 0) (yT (x0 rfl) (by rfl) T.n_min (by rfl) (QA.pa (qc (zh yG (zj (K:=K) rfl (pv 0) rfl) (pv 3)) (qc (yJ (xg (K:=K) rfl) (pv 4) za (fun _ _=>rfl)) qn)))) rfl)) (zf (yw (zx yW (pv 1) zg (zE _)) (zf (yf (K:=K) rfl (pv 0) (yT (jV rfl) (by rfl) T.n_max (by rfl) (QA.pa (qc (zh yM (zj (K:=K) rfl (pv 0) rfl) (pv 3)) (qc (yJ (xg (K:=K) rfl) (pv 4) za (fun _ _=>rfl)) qn)))) rfl)) (zf (yw (zx yW (pv 1) zg (zE _)) (zf (yf (K:=K) rfl (pv 0) (yT (x0 rfl) (by rfl) T.n_min (by rfl) (QA.pa (qc (zh yG (zj (K:=K) rfl (pv 0) rfl) (pv 3)) (qc (yJ (xg (K:=K) rfl) (pv 4) za (fun _ _=>rfl)) qn)))) rfl)) yh)))))))
      (zf (yf (K:=K) rfl (pv 0) xa rfl))))))
  · walk_at "ref"
  rintro _ O R ⟨c,n,hc,hn,x,dx,p,st,kp,S,rfl,hs,_,h⟩
  have hx:=hs.x
  refine yK (fun ρ' O'=>ρ'=[some (.own x),some (.d (.str ⟨#[c]⟩)),some (.d n),some (.d (.int (oneD n))),none]/\O=O') (fun R1 hR1=>?_) ?_
  · walk_at "wd"
    exact⟨hn,hR1 _ _ ⟨rfl,rfl⟩⟩
  rintro _ _ ⟨rfl,rfl⟩
  refine yK (fun ρ' O'=>ρ'=[some (.own x),some (.d (.str ⟨#[c]⟩)),some (.d n),some (.d (.int (oneD n))),some (.d (.tuple [.int (eT S),.int (eB S),.int (eL S),.int (eR S)]))]/\O=O') (fun R1 hR1=>?_) ?_
  · walk_at "wd"
    exact⟨x,dx,p,st,kp,S,rfl,hs,hR1 _ _ ⟨rfl,rfl⟩⟩
  rintro _ _ ⟨rfl,rfl⟩
  refine yK (fun ρ' O'=>ρ'=[some (.own x),some (.d (.str ⟨#[c]⟩)),some (.d n),some (.d (.int (oneD n))),some (.d (.tuple [.int (eT S),.int (eB S),.int (eL S),.int (eR S)]))]/\StAt O' C x dx p st kp (goS c (oneD n) S)/\But O O' x p) (fun R1 hR1=>?_) ?_
  · refine yS (c= 117) (fun R4 hR4=>?_) (fun e=>?_) (fun e117=>?_)
    · walk_at "wd"
      simp [zff]
      exact hR4
    · subst e
      walk_at "wd"
      simp [hx,yH,and_assoc,zi,T.st.cl,T.st.n_picture,T.st.n_wide,T.st.n_high,T.st.n_row,T.st.n_column,T.st.n_late,T.st.n_ink,T.st.n_wrap,T.st.n_putting,T.st.n_home,T.st.n_top,T.st.n_bottom,T.st.n_left,T.st.n_right,T.st.n_stops,T.st.n_kept,T.st.n_last,zo,zK,zL,yc,zu,zM,yd,zN,zq,zO,ye,zv,zP,zA,zB,zD,zH,zX,zr,zF,zY,zG,zm,zI,z9,zt,zJ,zz,zQ]
      exact⟨_,rfl,hR1 _ _ ⟨rfl,hs.fld (S':=goS 117 (oneD n) S) rfl rfl rfl,But.ux⟩⟩
    refine yS (c= 100) (fun R4 hR4=>?_) (fun e=>?_) (fun e100=>?_)
    · walk_at "wd"
      simp [zfg]
      exact hR4
    · subst e
      walk_at "wd"
      simp [hx,yH,and_assoc,zi,T.st.cl,T.st.n_picture,T.st.n_wide,T.st.n_high,T.st.n_row,T.st.n_column,T.st.n_late,T.st.n_ink,T.st.n_wrap,T.st.n_putting,T.st.n_home,T.st.n_top,T.st.n_bottom,T.st.n_left,T.st.n_right,T.st.n_stops,T.st.n_kept,T.st.n_last,zo,zK,zL,yc,zu,zM,yd,zN,zq,zO,ye,zv,zP,zA,zB,zD,zH,zX,zr,zF,zY,zG,zm,zI,z9,zt,zJ,zz,zQ]
      exact⟨_,rfl,hR1 _ _ ⟨rfl,hs.fld (S':=goS 100 (oneD n) S) rfl rfl rfl,But.ux⟩⟩
    refine yS (c= 108) (fun R4 hR4=>?_) (fun e=>?_) (fun e108=>?_)
    · walk_at "wd"
      simp [zfh]
      exact hR4
    · subst e
      walk_at "wd"
      simp [hx,yH,and_assoc,zi,T.st.cl,T.st.n_picture,T.st.n_wide,T.st.n_high,T.st.n_row,T.st.n_column,T.st.n_late,T.st.n_ink,T.st.n_wrap,T.st.n_putting,T.st.n_home,T.st.n_top,T.st.n_bottom,T.st.n_left,T.st.n_right,T.st.n_stops,T.st.n_kept,T.st.n_last,zo,zK,zL,yc,zu,zM,yd,zN,zq,zO,ye,zv,zP,zA,zB,zD,zH,zX,zr,zF,zY,zG,zm,zI,z9,zt,zJ,zz,zQ]
      exact⟨_,rfl,hR1 _ _ ⟨rfl,hs.fld (S':=goS 108 (oneD n) S) rfl rfl rfl,But.ux⟩⟩
    refine yS (c= 114) (fun R4 hR4=>?_) (fun e=>?_) (fun e114=>?_)
    · walk_at "wd"
      simp [zfi]
      exact hR4
    · subst e
      walk_at "wd"
      simp [hx,yH,and_assoc,zi,T.st.cl,T.st.n_picture,T.st.n_wide,T.st.n_high,T.st.n_row,T.st.n_column,T.st.n_late,T.st.n_ink,T.st.n_wrap,T.st.n_putting,T.st.n_home,T.st.n_top,T.st.n_bottom,T.st.n_left,T.st.n_right,T.st.n_stops,T.st.n_kept,T.st.n_last,zo,zK,zL,yc,zu,zM,yd,zN,zq,zO,ye,zv,zP,zA,zB,zD,zH,zX,zr,zF,zY,zG,zm,zI,z9,zt,zJ,zz,zQ]
      exact⟨_,rfl,hR1 _ _ ⟨rfl,hs.fld (S':=goS 114 (oneD n) S) rfl rfl rfl,But.ux⟩⟩
    rcases hc with h |h |h |h
    · exact absurd h e117
    · exact absurd h e100
    · exact absurd h e108
    · exact absurd h e114
  rintro _ O1 ⟨rfl,hs1,hb1⟩
  have hx1:=hs1.x
  walk_at "wd"
  simp [hx1,yH,and_assoc,zi,T.st.cl,T.st.n_picture,T.st.n_wide,T.st.n_high,T.st.n_row,T.st.n_column,T.st.n_late,T.st.n_ink,T.st.n_wrap,T.st.n_putting,T.st.n_home,T.st.n_top,T.st.n_bottom,T.st.n_left,T.st.n_right,T.st.n_stops,T.st.n_kept,T.st.n_last,zo,zK,zL,yc,zu,zM,yd,zN,zq,zO,ye,zv,zP,zA,zB,zD,zH,zX,zr,zF,zY,zG,zm,zI,z9,zt,zJ,zz,zQ]
  exact .inl (h _ (hs1.fld (S':=offS (goS c (oneD n) S)) rfl rfl rfl) (hb1.trans But.ux))
theorem zdp (F:Fun K "keep" "keep" Vt f fd) (T:Txt K mg C):FnOk P w K mg base CX0 1 f fd ["state"] (zb K (sKeep C keepS)):=by
  apply F.okV zdl (by rintro _ _ _ ⟨x,dx,p,st,kp,S,rfl,_⟩;rfl) (fun cdv A outer sh H E hr=>(zd (yF (ue (K:=K) rfl PySem.F.plainAttrs_list PySem.F.slot_list_append PySem.F.type_list_append j4 (zj (K:=K) rfl (pv 0) rfl) (QA.pa (qc (yL (qc (zj (K:=K) rfl (pv 0) rfl) (qc (zj (K:=K) rfl (pv 0) rfl) (qc (zj (K:=K) rfl (pv 0) rfl) (qc (zj (K:=K) rfl (pv 0) rfl) (qc (zj (K:=K) rfl (pv 0) rfl) (qc (zj (K:=K) rfl (pv 0) rfl) (qc (zj (K:=K) rfl (pv 0) rfl) qn)))))))) qn))))
      (zf (yw (zx ZJ (yT (ke (K:=K) rfl) (by rfl) T.n_len (by rfl) (QA.pa (qc (zj (K:=K) rfl (pv 0) rfl) qn))) (kP rfl T.g_MOST_KEPT) (zE _)) (zf (yF (ue (K:=K) rfl PySem.F.plainAttrs_list PySem.F.slot_list_pop PySem.F.type_list_pop KY (zj (K:=K) rfl (pv 0) rfl) (QA.pa (qc za qn))))) yh))))
  · walk_at "ref"
  rintro _ O R ⟨x,dx,p,st,kp,S,rfl,hs,hk,h⟩
  have hx:=hs.x
  have hkp:=hs.kp
  have hx2:∀ o,updO O kp o x=some (.ins C dx (fldW p st kp S)):=fun o=>by rw [ze hs.xk];exact hx
  refine yK (fun ρ' O'=>ρ'=[some (.own x)]/\O'=updO O kp (.lst (((S.kept ++ [u6 S]).map kpT).map .d))) (fun R1 hR1=>?_) ?_
  · walk_at "wd"
    simp [hx,yH,and_assoc,zi,T.st.cl,T.st.n_picture,T.st.n_wide,T.st.n_high,T.st.n_row,T.st.n_column,T.st.n_late,T.st.n_ink,T.st.n_wrap,T.st.n_putting,T.st.n_home,T.st.n_top,T.st.n_bottom,T.st.n_left,T.st.n_right,T.st.n_stops,T.st.n_kept,T.st.n_last,zo,zK,zL,yc,zu,zM,yd,zN,zq,zO,ye,zv,zP,zA,zB,zD,zH,zX,zr,zF,zY,zG,zm,zI,z9,zt,zJ,zz,zQ]
    refine⟨.inl ⟨rfl,by simp [yN,hkp]⟩,_,rfl,by show 7≤1000;omega,_,?_,hR1 _ _ ⟨rfl,rfl⟩⟩
    simp only [X2,hkp]
    rw [if_pos (by simp;omega)]
    simp [u6,kpT]
  rintro _ O1 ⟨rfl,hO1⟩
  have hx1:O1 x=some (.ins C dx (fldW p st kp S)):=by rw [hO1];exact hx2 _
  have hk1:O1 kp=some (.lst (((S.kept ++ [u6 S]).map kpT).map .d)):=by rw [hO1];exact zc
  have le:(S.kept ++ [u6 S]).length=S.kept.length+1:=by simp
  refine yS ((8:Int) < (S.kept.length+1:Nat)) (fun R4 hR4=>?_) (fun h8=>?_) (fun h8=>?_)
  · walk_at "wd"
    simp [hx1,and_assoc,zi,T.st.cl,T.st.n_picture,T.st.n_wide,T.st.n_high,T.st.n_row,T.st.n_column,T.st.n_late,T.st.n_ink,T.st.n_wrap,T.st.n_putting,T.st.n_home,T.st.n_top,T.st.n_bottom,T.st.n_left,T.st.n_right,T.st.n_stops,T.st.n_kept,T.st.n_last,zo,zK,zL,yc,zu,zM,yd,zN,zq,zO,ye,zv,zP,zA,zB,zD,zH,zX,zr,zF,zY,zG,zm,zI,z9,zt,zJ,zz,zQ]
    exact⟨S.kept.length+1,by simp only [Zr,xD,yN,hk1];simp,hR4⟩
  · have e8:¬ S.kept.length < 8:=by omega
    walk_at "wd"
    refine⟨C,dx,_,hx1,T.st.cl,T.st.n_kept,_,zD,.inl ⟨rfl,by simp [yN,hk1]⟩,kp,rfl,_,((S.kept ++ [u6 S]).map kpT |>.map W.d)[0]'(by simp),0,rfl,hk1,List.getElem?_eq_getElem _,by omega,.inl ?_⟩
    rw [hO1,zy]
    have ek:(((S.kept ++ [u6 S]).map kpT).map W.d).eraseIdx 0 =(((S.kept.drop 1) ++ [u6 S]).map kpT).map W.d:=by
      cases hkk:S.kept with
      |nil=>rw [hkk] at e8;simp at e8
      |cons a l=>simp
    rw [ek]
    have e9:keepS S= { S with kept:=S.kept.drop 1 ++ [u6 S] }:=by unfold keepS;rw [if_neg e8]
    rw [e9] at h
    exact h _ (hs.keptTo _) (ButO.upd (by simp))
  · have e8:S.kept.length < 8:=by omega
    have e9:keepS S= { S with kept:=S.kept ++ [u6 S] }:=by unfold keepS;rw [if_pos e8]
    rw [e9] at h
    walk_at "wd"
    rw [hO1]
    exact .inl (h _ (hs.keptTo _) (ButO.upd (by simp)))
theorem VC (F:Fun K "take_back" "take_back" qJ f fd) (T:Txt K mg C):FnOk P w K mg base CX0 1 f fd ["state"] (zb K (sKeep C backS)):=by
  have nd:=ku.nd
  apply F.okV ku (by rintro _ _ _ ⟨x,dx,p,st,kp,S,rfl,_⟩;rfl) (fun cdv A outer sh H E hr=>(zf (yw (YT (K:=K) rfl (zj (K:=K) rfl (pv 0) rfl) (fun _=>rfl)) (zd (yn (i:=1) nd rfl (Or.inl rfl) (UR (K:=K) rfl PySem.F.plainAttrs_list PySem.F.slot_list_pop PySem.F.type_list_pop JD (zj (K:=K) rfl (pv 0) rfl)))
      (zd (yf (K:=K) rfl (pv 0) (yJ (xg (K:=K) rfl) (pv 1) za (fun _ _=>rfl)) rfl)
      (zd (yf (K:=K) rfl (pv 0) (yJ (xg (K:=K) rfl) (pv 1) za (fun _ _=>rfl)) rfl)
      (zd (yf (K:=K) rfl (pv 0) (yJ (xg (K:=K) rfl) (pv 1) za (fun _ _=>rfl)) rfl)
      (zd (yf (K:=K) rfl (pv 0) (yJ (xg (K:=K) rfl) (pv 1) za (fun _ _=>rfl)) rfl)
      (zd (yf (K:=K) rfl (pv 0) (yJ (xg (K:=K) rfl) (pv 1) za (fun _ _=>rfl)) rfl)
      (zd (yf (K:=K) rfl (pv 0) (yJ (xg (K:=K) rfl) (pv 1) za (fun _ _=>rfl)) rfl)
      (zf (yf (K:=K) rfl (pv 0) (yJ (xg (K:=K) rfl) (pv 1) za (fun _ _=>rfl)) rfl))))))))) yh)))
  · walk_at "ref"
  rintro _ O R ⟨x,dx,p,st,kp,S,rfl,hs,hk,h⟩
  have hx:=hs.x
  have hkp:=hs.kp
  have hx2:∀ o,updO O kp o x=some (.ins C dx (fldW p st kp S)):=fun o=>by rw [ze hs.xk];exact hx
  cases hl:S.kept[S.kept.length - 1]? with
  |none=>
    have e:S.kept=[]:=by
      cases hkk:S.kept with
      |nil=>rfl
      |cons a l=>rw [hkk] at hl;simp at hl
    have e9:backS S=S:=by unfold backS;rw [hl]
    rw [e9] at h
    walk_at "wd"
    simp [hx,hkp,e,yH,and_assoc,zi,T.st.cl,T.st.n_picture,T.st.n_wide,T.st.n_high,T.st.n_row,T.st.n_column,T.st.n_late,T.st.n_ink,T.st.n_wrap,T.st.n_putting,T.st.n_home,T.st.n_top,T.st.n_bottom,T.st.n_left,T.st.n_right,T.st.n_stops,T.st.n_kept,T.st.n_last,zo,zK,zL,yc,zu,zM,yd,zN,zq,zO,ye,zv,zP,zA,zB,zD,zH,zX,zr,zF,zY,zG,zm,zI,z9,zt,zJ,zz,zQ]
    exact .inl (h _ hs ButO.refl)
  |some k=>
    have e:¬ S.kept=[]:=fun e=>by rw [e] at hl;simp at hl
    have e9:backS S= { S with row:=k.row,col:=k.col,late:=k.late,ink:=k.ink,wrap:=k.wrap,putting:=k.putting,home:=k.home,kept:=S.kept.dropLast }:=by unfold backS;rw [hl]
    rw [e9] at h
    refine yS (¬ S.kept=[]) (fun R4 hR4=>?_) (fun _=>?_) (fun z=>absurd e z)
    · walk_at "wd"
      simp [hx,hkp,e,yH,and_assoc,zi,T.st.cl,T.st.n_picture,T.st.n_wide,T.st.n_high,T.st.n_row,T.st.n_column,T.st.n_late,T.st.n_ink,T.st.n_wrap,T.st.n_putting,T.st.n_home,T.st.n_top,T.st.n_bottom,T.st.n_left,T.st.n_right,T.st.n_stops,T.st.n_kept,T.st.n_last,zo,zK,zL,yc,zu,zM,yd,zN,zq,zO,ye,zv,zP,zA,zB,zD,zH,zX,zr,zF,zY,zG,zm,zI,z9,zt,zJ,zz,zQ] at hR4 ⊢
      exact hR4
    refine yK (fun ρ' O'=>ρ'=[some (.own x),some (.d (kpT k))]/\O'=updO O kp (.lst ((S.kept.dropLast.map kpT).map .d))) (fun R1 hR1=>?_) ?_
    · walk_at "wd"
      simp [hx,hkp,e,hl,yH,and_assoc,zi,T.st.cl,T.st.n_picture,T.st.n_wide,T.st.n_high,T.st.n_row,T.st.n_column,T.st.n_late,T.st.n_ink,T.st.n_wrap,T.st.n_putting,T.st.n_home,T.st.n_top,T.st.n_bottom,T.st.n_left,T.st.n_right,T.st.n_stops,T.st.n_kept,T.st.n_last,zo,zK,zL,yc,zu,zM,yd,zN,zq,zO,ye,zv,zP,zA,zB,zD,zH,zX,zr,zF,zY,zG,zm,zI,z9,zt,zJ,zz,zQ]
      exact⟨.inl ⟨rfl,by simp [yN,hkp]⟩,hR1 _ _ ⟨rfl,by simp [List.map_dropLast]⟩⟩
    rintro _ O1 ⟨rfl,hO1⟩
    have s1:StAt O1 C x dx p st kp { S with kept:=S.kept.dropLast }:=by rw [hO1];exact hs.keptTo S.kept.dropLast
    have b1:ButO O O1 [x,kp]:=by rw [hO1];exact ButO.upd (by simp)
    rw [Yw s1.x]
    refine yP T.st.cl T.st.n_row (zX (x:=k.row)) (fun _ h=>by walk_at "wd";exact⟨_,rfl,_,rfl,h⟩) (by show 17 < 1000;decide) rfl ?_
    refine yP T.st.cl T.st.n_column (zr (x:=k.col)) (fun _ h=>by walk_at "wd";exact⟨_,rfl,_,rfl,h⟩) (by show 17 < 1000;decide) rfl ?_
    refine yP T.st.cl T.st.n_late (zF (x:=k.late)) (fun _ h=>by walk_at "wd";exact⟨_,rfl,_,rfl,h⟩) (by show 17 < 1000;decide) rfl ?_
    refine yP T.st.cl T.st.n_ink (zY (x:=k.ink)) (fun _ h=>by walk_at "wd";exact⟨_,rfl,_,rfl,h⟩) (by show 17 < 1000;decide) rfl ?_
    refine yP T.st.cl T.st.n_wrap (zG (x:=k.wrap)) (fun _ h=>by walk_at "wd";exact⟨_,rfl,_,rfl,h⟩) (by show 17 < 1000;decide) rfl ?_
    refine yP T.st.cl T.st.n_putting (zm (x:=k.putting)) (fun _ h=>by walk_at "wd";exact⟨_,rfl,_,rfl,h⟩) (by show 17 < 1000;decide) rfl ?_
    walk_at "wd"
    simp [zc,zy,yH,and_assoc,zi,T.st.cl,T.st.n_picture,T.st.n_wide,T.st.n_high,T.st.n_row,T.st.n_column,T.st.n_late,T.st.n_ink,T.st.n_wrap,T.st.n_putting,T.st.n_home,T.st.n_top,T.st.n_bottom,T.st.n_left,T.st.n_right,T.st.n_stops,T.st.n_kept,T.st.n_last,zo,zK,zL,yc,zu,zM,yd,zN,zq,zO,ye,zv,zP,zA,zB,zD,zH,zX,zr,zF,zY,zG,zm,zI,z9,zt,zJ,zz,zQ]
    refine⟨_,rfl,_,rfl,.inl ?_⟩
    exact h _ (s1.fld (S':={ S with row:=k.row,col:=k.col,late:=k.late,ink:=k.ink,wrap:=k.wrap,putting:=k.putting,home:=k.home,kept:=S.kept.dropLast }) rfl rfl rfl) (b1.trans (ButO.upd (by simp)))
end
theorem k7 {n:PyData}{a b:Int}(hn:NumD n):qE n a b=if a+vj n - 1 < b then a+vj n - 1 else b:=by
 unfold qE
 rw [jz hn]
 split <;> split <;> omega
section
variable {P:Program}{w:World}{K:W.Frag}{mg:Str->Option Value}{base:Heap}{f C:Addr}{fd:FuncData}
theorem Ku (F:Fun K "_law_at" "_law_at" kD f fd) (T:Txt K mg C):FnOk P w K mg base CX0 1 f fd ["_law_script","_law_k"] (zb K kX):=by
  apply F.okV Q6 (by rintro _ _ _ ⟨n,a,rfl,_⟩;rfl) (fun cdv A outer sh H E hr=>(zd (yw (zx vY (pv 1) (yT (ke (K:=K) rfl) (by rfl) T.n_len (by rfl) (QA.pa (qc (pv 0) qn))) (zE _)) (zf (yg (yJ (xB (K:=K) rfl) (pv 0) (pv 1) (fun _ _=>rfl)))) yh)
      (zf (yg za))))
  · walk_at "ref"
  rintro _ O R ⟨ns,k,rfl,h⟩
  walk_at "wd"
  simp [Zr,xD,yN]
  split
  · rename_i hk
    refine⟨_,kN (by rw [List.getElem?_map,List.getElem?_eq_getElem hk];rfl),.inl ?_⟩
    rw [List.getD_eq_getElem?_getD,List.getElem?_eq_getElem hk] at h
    exact h
  · rename_i hk
    rw [List.getD_eq_getElem?_getD,List.getElem?_eq_none (by omega)] at h
    exact .inl h
theorem VD (F:Fun K "_law_mixed" "_law_mixed" qf f fd) (T:Txt K mg C):FnOk P w K mg base CX0 1 f fd ["_law_cell","_law_k"] (zb K sMixM):=by
  have nd:=jO.nd
  apply F.okV jO (by rintro _ _ _ ⟨n,a,rfl,_⟩;rfl) (fun cdv A outer sh H E hr=>(zd (yn (i:=2) nd rfl (Or.inl rfl) (zh yG (zh yQ (zh xM (zh yG (pv 0) za) za) za) (zh xM za (pv 1))))
      (zf (yg (zh yV (zh yQ (zh xM (pv 2) (zh yG za (zh xM (zh xM za (pv 1)) (pv 1)))) za) za)))))
  · walk_at "ref"
  rintro _ O R ⟨c,k,rfl,k0,k1,h⟩
  walk_at "wd"
  have kk0:0≤k*k:=Int.mul_nonneg k0 k0
  have kk1:k*k≤1000*1000:=Int.mul_le_mul k1 k1 k0 (by decide)
  have ea:1021*k*k= 1021*(k*k):=Int.mul_assoc _ _ _
  have q1:IntMulOk ((c+11)*48271%2147483647+5*k) (16807+1021*k*k):=mulR (by omega) (by omega)
  have y0:=Int.emod_nonneg (((c+11)*48271%2147483647+5*k)*(16807+1021*k*k)) (show (2147483629:Int)≠0 by decide)
  have y1:=Int.emod_lt_of_pos (((c+11)*48271%2147483647+5*k)*(16807+1021*k*k)) (show (0:Int) < 2147483629 by decide)
  refine⟨mulR (by decide) (by decide),mulL (by decide) (by decide),mulL (by decide) (by decide),mulR (by omega) (by omega),q1,?_⟩
  generalize ((c+11)*48271%2147483647+5*k)*(16807+1021*k*k)%2147483629 =y at y0 y1 ⊢
  exact⟨⟨by omega,by omega⟩,.inl (h _ (by omega) (by omega))⟩
theorem VE (F:Fun K "_law_edges" "_law_edges" qh f fd) (T:Txt K mg C):FnOk P w K mg base CX0 1 f fd ["_law_m"] (zb K sEdgesM):=by
  have nd:=jQ.nd
  apply F.okV jQ (by rintro _ _ _ ⟨d,A,S,rfl,_⟩;rfl) (fun cdv A outer sh H E hr=>(zd (yn (i:=1) nd rfl (Or.inl rfl) (yZ (zx Xk (zl (zw hr) (pv 0) zg (fun _ _=>rfl)) (zl (zw hr) (pv 0) zg (fun _ _=>rfl)) (zE _)) (zl (zw hr) (pv 0) zg (fun _ _=>rfl)) za))
      (zd (yn (i:=2) nd rfl (Or.inl rfl) (yZ (zx xz (zl (zw hr) (pv 0) zg (fun _ _=>rfl)) (zl (zw hr) (pv 0) zg (fun _ _=>rfl)) (zE _)) (zl (zw hr) (pv 0) zg (fun _ _=>rfl)) (zh yM (zl (zw hr) (pv 0) zg (fun _ _=>rfl)) za)))
      (zd (yn (i:=3) nd rfl (Or.inl rfl) (yZ (zx Xk (zl (zw hr) (pv 0) zg (fun _ _=>rfl)) (zl (zw hr) (pv 0) zg (fun _ _=>rfl)) (zE _)) (zl (zw hr) (pv 0) zg (fun _ _=>rfl)) za))
      (zd (yn (i:=4) nd rfl (Or.inl rfl) (yZ (zx xz (zl (zw hr) (pv 0) zg (fun _ _=>rfl)) (zl (zw hr) (pv 0) zg (fun _ _=>rfl)) (zE _)) (zl (zw hr) (pv 0) zg (fun _ _=>rfl)) (zh yM (zl (zw hr) (pv 0) zg (fun _ _=>rfl)) za)))
      (zf (yg (yL (qc (pv 1) (qc (pv 2) (qc (pv 3) (qc (pv 4) qn))))))))))))
  · walk_at "ref"
  rintro _ O R ⟨d,A,S,rfl,hd,h⟩
  refine yK (fun ρ' O'=>ρ'=[some (.own d),some (.d (.int (eT S))),none,none,none]/\O=O') (fun R1 hR1=>?_) ?_
  · walk_at "wd"
    simp [hd,and_assoc,zi,yB,zc,zy,yo,yp,yC,zU,yq,yD,yr,zV,yt,yE,zW,yu,ya,yb,yv,yy,zR,yi,yz,yj,zS,yk,yA,zT,yl,zZ,z7,ym]
    split
    · rename_i e;exact hR1 _ _ ⟨by rw [eT,if_pos e],rfl⟩
    · rename_i e;exact hR1 _ _ ⟨by rw [eT,if_neg e],rfl⟩
  rintro _ _ ⟨rfl,rfl⟩
  refine yK (fun ρ' O'=>ρ'=[some (.own d),some (.d (.int (eT S))),some (.d (.int (eB S))),none,none]/\O=O') (fun R1 hR1=>?_) ?_
  · walk_at "wd"
    simp [hd,and_assoc,zi,yB,zc,zy,yo,yp,yC,zU,yq,yD,yr,zV,yt,yE,zW,yu,ya,yb,yv,yy,zR,yi,yz,yj,zS,yk,yA,zT,yl,zZ,z7,ym]
    split
    · rename_i e;exact hR1 _ _ ⟨by rw [eB,if_pos e],rfl⟩
    · rename_i e;exact hR1 _ _ ⟨by rw [eB,if_neg e],rfl⟩
  rintro _ _ ⟨rfl,rfl⟩
  refine yK (fun ρ' O'=>ρ'=[some (.own d),some (.d (.int (eT S))),some (.d (.int (eB S))),some (.d (.int (eL S))),none]/\O=O') (fun R1 hR1=>?_) ?_
  · walk_at "wd"
    simp [hd,and_assoc,zi,yB,zc,zy,yo,yp,yC,zU,yq,yD,yr,zV,yt,yE,zW,yu,ya,yb,yv,yy,zR,yi,yz,yj,zS,yk,yA,zT,yl,zZ,z7,ym]
    split
    · rename_i e;exact hR1 _ _ ⟨by rw [eL,if_pos e],rfl⟩
    · rename_i e;exact hR1 _ _ ⟨by rw [eL,if_neg e],rfl⟩
  rintro _ _ ⟨rfl,rfl⟩
  refine yK (fun ρ' O'=>ρ'=[some (.own d),some (.d (.int (eT S))),some (.d (.int (eB S))),some (.d (.int (eL S))),some (.d (.int (eR S)))]/\O=O') (fun R1 hR1=>?_) ?_
  · walk_at "wd"
    simp [hd,and_assoc,zi,yB,zc,zy,yo,yp,yC,zU,yq,yD,yr,zV,yt,yE,zW,yu,ya,yb,yv,yy,zR,yi,yz,yj,zS,yk,yA,zT,yl,zZ,z7,ym]
    split
    · rename_i e;exact hR1 _ _ ⟨by rw [eR,if_pos e],rfl⟩
    · rename_i e;exact hR1 _ _ ⟨by rw [eR,if_neg e],rfl⟩
  rintro _ _ ⟨rfl,rfl⟩
  walk_at "wd"
  exact .inl h
theorem Xa (F:Fun K "_law_placed" "_law_placed" ul f fd) (T:Txt K mg C) (zhf:Cal P w K mg base 1 "_law_times" [] (zb K ja)):FnOk P w K mg base CX0 2 f fd ["_law_m","_law_row","_law_column"] (zb K sPlacedM):=by
  have nd:=jg.nd
  apply F.okV jg (by rintro _ _ _ ⟨r,c,_,_,d,A,S,rfl,_⟩;rfl) (fun cdv A outer sh H E hr=>(zd (xQ (yL (qc za (qc (zh yM (zl (zw hr) (pv 0) zg (fun _ _=>rfl)) za) (qc za (qc (zh yM (zl (zw hr) (pv 0) zg (fun _ _=>rfl)) za) qn))))) (vP (K:=K) (n:=4) rfl rfl (yY (yx (i:=3) nd rfl (Or.inl rfl)) (yY (yx (i:=4) nd rfl (Or.inl rfl)) (yY (yx (i:=5) nd rfl (Or.inl rfl)) (yY (yx (i:=6) nd rfl (Or.inl rfl)) vL))))))
      (zd (yw (xH (zl (zw hr) (pv 0) zg (fun _ _=>rfl))) (zf (xQ (yL (qc (zl (zw hr) (pv 0) zg (fun _ _=>rfl)) (qc (zl (zw hr) (pv 0) zg (fun _ _=>rfl)) (qc (zl (zw hr) (pv 0) zg (fun _ _=>rfl)) (qc (zl (zw hr) (pv 0) zg (fun _ _=>rfl)) qn))))) (vP (K:=K) (n:=4) rfl rfl (yY (yx (i:=3) nd rfl (Or.inl rfl)) (yY (yx (i:=4) nd rfl (Or.inl rfl)) (yY (yx (i:=5) nd rfl (Or.inl rfl)) (yY (yx (i:=6) nd rfl (Or.inl rfl)) vL))))))) yh)
      (zd (yU (zw hr) (pv 0) zg (yT (x0 rfl) (by rfl) T.n_min (by rfl) (QA.pa (qc (pv 4) (qc (zh yM (zh yG (pv 3) (zn zhf (hr.mono (by decide)) rfl (QA.pa (qc (pv 1) qn)))) za) qn)))) rfl)
      (zd (yU (zw hr) (pv 0) zg (yT (x0 rfl) (by rfl) T.n_min (by rfl) (QA.pa (qc (pv 6) (qc (zh yM (zh yG (pv 5) (zn zhf (hr.mono (by decide)) rfl (QA.pa (qc (pv 2) qn)))) za) qn)))) rfl)
      (zf (yU (zw hr) (pv 0) zg xa rfl)))))))
  · walk_at "ref"
  rintro _ O R ⟨r,c,hr,hc,d,A,S,rfl,hm,_,h⟩
  have hd:=hm.d
  refine qw (fun ρ' O'=>∃ t b l e:Int,ρ'=[some (.own d),some (.d r),some (.d c),some (.d (.int t)),some (.d (.int b)),some (.d (.int l)),some (.d (.int e))]/\O=O'/\plS r c S= { S with row:=if t+vj r - 1 < b then t+vj r - 1 else b,col:=if l+vj c - 1 < e then l+vj c - 1 else e,late:=false }) (fun R1 hR1=>?_) ?_
  · walk_at "wd"
    simp [hd,and_assoc,zi,yB,zc,zy,yo,yp,yC,zU,yq,yD,yr,zV,yt,yE,zW,yu,ya,yb,yv,yy,zR,yi,yz,yj,zS,yk,yA,zT,yl,zZ,z7,ym]
    split
    · rename_i q
      exact⟨_,rfl,by show 4≤1000;omega,rfl,_,_,rfl,_,_,rfl,_,_,rfl,_,_,rfl,rfl,hR1 _ _ ⟨_,_,_,_,rfl,rfl,by unfold plS;rw [if_pos q,k7 hr,k7 hc]⟩⟩
    · rename_i q
      exact hR1 _ _ ⟨_,_,_,_,rfl,rfl,by unfold plS;rw [if_neg q,k7 hr,k7 hc]⟩
  rintro _ _ ⟨t,b,l,e,rfl,rfl,eq⟩
  rw [eq] at h
  walk_at "wd"
  simp [hd,hr,hc,and_assoc,zi,yB,zc,zy,yo,yp,yC,zU,yq,yD,yr,zV,yt,yE,zW,yu,ya,yb,yv,yy,zR,yi,yz,yj,zS,yk,yA,zT,yl,zZ,z7,ym]
  exact .inl (h _ hm.fld (ButO.upd (by simp)))
end
theorem za1 {c:Nat}{S:ST}(h:Bds S):goS c 0 S=S:=by
 have t:=Xv h;have b:=Xw h;have l:=kZ h;have r:=qv h
 unfold goS
 repeat' split
 all_goals first |rfl | (exfalso;omega) |simp
theorem zgK {S:ST}{i:Int}(h:Bds S) (hi:0≤i) (q:eT S < (goS 117 i S).row):{ goS 117 i S with row:=(goS 117 i S).row - 1 } =goS 117 (i+1) S:=by
 have t:=Xv h
 have e:∀ j:Int,goS 117 j S= { S with row:=if eT S > S.row - j then eT S else S.row - j }:=fun j=>rfl
 rw [e,e] at *
 simp only at q ⊢
 congr 1
 split at q <;> rename_i z
 ·omega
 ·rw [if_neg z,if_neg (by omega)]
  omega
theorem zf0 {S:ST}{i:Int}(h:Bds S) (hi:0≤i) (q:¬ eT S < (goS 117 i S).row):goS 117 i S=goS 117 (i+1) S:=by
 have t:=Xv h
 have e:∀ j:Int,goS 117 j S= { S with row:=if eT S > S.row - j then eT S else S.row - j }:=fun j=>rfl
 rw [e,e] at *
 simp only at q ⊢
 congr 1
 split at q <;> rename_i z
 ·rw [if_pos z,if_pos (by omega)]
 ·rw [if_neg z]
  split <;> omega
theorem zgL {S:ST}{i:Int}(h:Bds S) (hi:0≤i) (q:(goS 100 i S).row < eB S):{ goS 100 i S with row:=(goS 100 i S).row+1 } =goS 100 (i+1) S:=by
 have t:=Xw h
 have e:∀ j:Int,goS 100 j S= { S with row:=if eB S < S.row+j then eB S else S.row+j }:=fun j=>rfl
 rw [e,e] at *
 simp only at q ⊢
 congr 1
 split at q <;> rename_i z
 ·omega
 ·rw [if_neg z,if_neg (by omega)]
  omega
theorem zf1 {S:ST}{i:Int}(h:Bds S) (hi:0≤i) (q:¬ (goS 100 i S).row < eB S):goS 100 i S=goS 100 (i+1) S:=by
 have t:=Xw h
 have e:∀ j:Int,goS 100 j S= { S with row:=if eB S < S.row+j then eB S else S.row+j }:=fun j=>rfl
 rw [e,e] at *
 simp only at q ⊢
 congr 1
 split at q <;> rename_i z
 ·rw [if_pos z,if_pos (by omega)]
 ·rw [if_neg z]
  split <;> omega
theorem zgM {S:ST}{i:Int}(h:Bds S) (hi:0≤i) (q:eL S < (goS 108 i S).col):{ goS 108 i S with col:=(goS 108 i S).col - 1 } =goS 108 (i+1) S:=by
 have t:=kZ h
 have e:∀ j:Int,goS 108 j S= { S with col:=if eL S > S.col - j then eL S else S.col - j }:=fun j=>rfl
 rw [e,e] at *
 simp only at q ⊢
 congr 1
 split at q <;> rename_i z
 ·omega
 ·rw [if_neg z,if_neg (by omega)]
  omega
theorem zf2 {S:ST}{i:Int}(h:Bds S) (hi:0≤i) (q:¬ eL S < (goS 108 i S).col):goS 108 i S=goS 108 (i+1) S:=by
 have t:=kZ h
 have e:∀ j:Int,goS 108 j S= { S with col:=if eL S > S.col - j then eL S else S.col - j }:=fun j=>rfl
 rw [e,e] at *
 simp only at q ⊢
 congr 1
 split at q <;> rename_i z
 ·rw [if_pos z,if_pos (by omega)]
 ·rw [if_neg z]
  split <;> omega
theorem zgN {S:ST}{i:Int}(h:Bds S) (hi:0≤i) (q:(goS 114 i S).col < eR S):{ goS 114 i S with col:=(goS 114 i S).col+1 } =goS 114 (i+1) S:=by
 have t:=qv h
 have e:∀ j:Int,goS 114 j S= { S with col:=if eR S < S.col+j then eR S else S.col+j }:=fun j=>rfl
 rw [e,e] at *
 simp only at q ⊢
 congr 1
 split at q <;> rename_i z
 ·omega
 ·rw [if_neg z,if_neg (by omega)]
  omega
theorem zf3 {S:ST}{i:Int}(h:Bds S) (hi:0≤i) (q:¬ (goS 114 i S).col < eR S):goS 114 i S=goS 114 (i+1) S:=by
 have t:=qv h
 have e:∀ j:Int,goS 114 j S= { S with col:=if eR S < S.col+j then eR S else S.col+j }:=fun j=>rfl
 rw [e,e] at *
 simp only at q ⊢
 congr 1
 split at q <;> rename_i z
 ·rw [if_pos z,if_pos (by omega)]
 ·rw [if_neg z]
  split <;> omega
theorem jk {p q:Prop} [Decidable p] [Decidable q] {R:Bool->OM->Prop}{O:OM}(h:R (decide (p/\q)) O):if p then R (decide q) O else R false O:=by
 split
 ·rename_i e
  rw [show decide (p/\q)=decide q from decide_eq_decide.2 ⟨fun z=>z.2,fun z=>⟨e,z⟩⟩] at h
  exact h
 ·rename_i e
  rw [show decide (p/\q)=false from decide_eq_false (fun z=>e z.1)] at h
  exact h
noncomputable def Jd (c:Nat) (S S0:ST):ST:=
 let S1:ST:=if c= 117/\eT S < S0.row then { S0 with row:=S0.row - 1 } else S0
 let S2:ST:=if c= 100/\S1.row < eB S then { S1 with row:=S1.row+1 } else S1
 let S3:ST:=if c= 108/\eL S < S2.col then { S2 with col:=S2.col - 1 } else S2
 if c= 114/\S3.col < eR S then { S3 with col:=S3.col+1 } else S3
theorem zdq {c:Nat}{S:ST}{i:Int}(h:Bds S) (hi:0≤i) (hc:ltr c):Jd c S (goS c i S)=goS c (i+1) S:=by
 unfold Jd
 rcases hc with rfl |rfl |rfl |rfl
 ·by_cases q:eT S < (goS 117 i S).row
  ·simp [q];exact zgK h hi q
  ·simp [q];exact zf0 h hi q
 ·by_cases q:(goS 100 i S).row < eB S
  ·simp [q];exact zgL h hi q
  ·simp [q];exact zf1 h hi q
 ·by_cases q:eL S < (goS 108 i S).col
  ·simp [q];exact zgM h hi q
  ·simp [q];exact zf2 h hi q
 ·by_cases q:(goS 114 i S).col < eR S
  ·simp [q];exact zgN h hi q
  ·simp [q];exact zf3 h hi q
section
variable {P:Program}{w:World}{K:W.Frag}{mg:Str->Option Value}{base:Heap}{f C:Addr}{fd:FuncData}
theorem YE (F:Fun K "_law_stepped" "_law_stepped" vW f fd) (T:Txt K mg C) (zg1:Cal P w K mg base 1 "_law_edges" [] (zb K sEdgesM)) (zhf:Cal P w K mg base 1 "_law_times" [] (zb K ja)):FnOk P w K mg base CX0 2 f fd ["_law_m","_law_letter","_law_many"] (zb K sSteppedM):=by
  have nd:=qy.nd
  apply F.okV qy (by rintro _ _ _ ⟨c,n,_,_,d,A,S,rfl,_⟩;rfl) (fun cdv A outer sh H E hr=>(zd (xQ (zn zg1 (hr.mono (by decide)) rfl (QA.pa (qc (pv 0) qn))) (vP (K:=K) (n:=4) rfl rfl (yY (yx (i:=3) nd rfl (Or.inl rfl)) (yY (yx (i:=4) nd rfl (Or.inl rfl)) (yY (yx (i:=5) nd rfl (Or.inl rfl)) (yY (yx (i:=6) nd rfl (Or.inl rfl)) vL))))))
      (zd (xV PassesOwn.never rfl (vy rfl T.n_range (QA.pa (qc (zn zhf (hr.mono (by decide)) rfl (QA.pa (qc (pv 2) qn))) qn))) (yx (i:=7) nd rfl (Or.inl rfl))
      (zd (yw (PW.pt (ub (zx yW (pv 1) zg (zE _)) (vx (zx ZJ (zl (zw hr) (pv 0) zg (fun _ _=>rfl)) (pv 3) (zE _))))) (zf (yU (zw hr) (pv 0) zg (zh yM (zl (zw hr) (pv 0) zg (fun _ _=>rfl)) za) rfl)) yh)
      (zd (yw (PW.pt (ub (zx yW (pv 1) zg (zE _)) (vx (zx vY (zl (zw hr) (pv 0) zg (fun _ _=>rfl)) (pv 4) (zE _))))) (zf (yU (zw hr) (pv 0) zg (zh yG (zl (zw hr) (pv 0) zg (fun _ _=>rfl)) za) rfl)) yh)
      (zd (yw (PW.pt (ub (zx yW (pv 1) zg (zE _)) (vx (zx ZJ (zl (zw hr) (pv 0) zg (fun _ _=>rfl)) (pv 5) (zE _))))) (zf (yU (zw hr) (pv 0) zg (zh yM (zl (zw hr) (pv 0) zg (fun _ _=>rfl)) za) rfl)) yh)
      (zf (yw (PW.pt (ub (zx yW (pv 1) zg (zE _)) (vx (zx vY (zl (zw hr) (pv 0) zg (fun _ _=>rfl)) (pv 6) (zE _))))) (zf (yU (zw hr) (pv 0) zg (zh yG (zl (zw hr) (pv 0) zg (fun _ _=>rfl)) za) rfl)) yh))))))
      (zf (yU (zw hr) (pv 0) zg xa rfl)))))
  · walk_at "ref"
  rintro _ O R ⟨c,n,hc,hn,d,A,S,rfl,hm,hb,h⟩
  have hd:=hm.d
  refine yK (fun ρ' O'=>ρ'=[some (.own d),some (.d (.str ⟨#[c]⟩)),some (.d n),some (.d (.int (eT S))),some (.d (.int (eB S))),some (.d (.int (eL S))),some (.d (.int (eR S))),none]/\O=O') (fun R1 hR1=>?_) ?_
  · walk_at "wd"
    exact⟨d,A,S,rfl,hd,_,rfl,rfl,_,_,rfl,_,_,rfl,_,_,rfl,_,_,rfl,rfl,hR1 _ _ ⟨rfl,rfl⟩⟩
  rintro _ _ ⟨rfl,rfl⟩
  refine yK (fun ρ' O'=>∃ v,ρ'=[some (.own d),some (.d (.str ⟨#[c]⟩)),some (.d n),some (.d (.int (eT S))),some (.d (.int (eB S))),some (.d (.int (eL S))),some (.d (.int (eR S))),v]/\MAt O' d A (goS c (oneD n) S)/\ButO O O' [d]) (fun R1 hR1=>?_) ?_
  · walk_at "wd"
    rw [jz hn]
    have o1:=uz (n:=n)
    have o2:=US hn
    refine⟨hn,by omega,by omega,?_⟩
    refine xF.rng (f:=fun i=>(i:Int)) (fun i ρ O'=>∃ v,ρ=[some (.own d),some (.d (.str ⟨#[c]⟩)),some (.d n),some (.d (.int (eT S))),some (.d (.int (eB S))),some (.d (.int (eL S))),some (.d (.int (eR S))),v]/\MAt O' d A (goS c i S)/\ButO O O' [d]) ⟨_,rfl,by rw [show ((0:Nat):Int)= 0 from rfl,za1 hb];exact hm,ButO.refl⟩ ?_ ?_
    · rintro i _ O1 hi ⟨v,rfl,hm1,hb1⟩ R2 hR2
      have hd1:=hm1.d
      have fin:∀ S' O',MAt O' d A S'->ButO O O' [d]->S'=goS c ((i:Int)+1) S->R2 [some (.own d),some (.d (.str ⟨#[c]⟩)),some (.d n),some (.d (.int (eT S))),some (.d (.int (eB S))),some (.d (.int (eL S))),some (.d (.int (eR S))),some (.d (.int (i:Int)))] O':=fun S' O' e1 e2 e3=>hR2 _ _ ⟨_,rfl,by rw [show ((i+1:Nat):Int)=(i:Int)+1 by omega,<- e3];exact e1,e2⟩
      have step:=zdq (c:=c) (i:=(i:Int)) hb (by omega) hc
      simp only [Jd] at step
      generalize goS c (i:Int) S=S0 at hm1 hd1 step
      refine yK (fun ρ' O'=>ρ'=[some (.own d),some (.d (.str ⟨#[c]⟩)),some (.d n),some (.d (.int (eT S))),some (.d (.int (eB S))),some (.d (.int (eL S))),some (.d (.int (eR S))),some (.d (.int (i:Int)))]/\MAt O' d A (if c= 117/\eT S < S0.row then { S0 with row:=S0.row - 1 } else S0)/\ButO O O' [d]) (fun R3 hR3=>?_) ?_
      · refine yS (c= 117/\eT S < S0.row) (fun R4 hR4=>?_) (fun e=>?_) (fun e=>?_)
        · walk_at "wd"
          simp [hd1,zff,and_assoc,zi,yB,zc,zy,yo,yp,yC,zU,yq,yD,yr,zV,yt,yE,zW,yu,ya,yb,yv,yy,zR,yi,yz,yj,zS,yk,yA,zT,yl,zZ,z7,ym]
          exact jk hR4
        · walk_at "wd"
          simp [hd1,and_assoc,zi,yB,zc,zy,yo,yp,yC,zU,yq,yD,yr,zV,yt,yE,zW,yu,ya,yb,yv,yy,zR,yi,yz,yj,zS,yk,yA,zT,yl,zZ,z7,ym]
          exact hR3 _ _ ⟨rfl,by rw [if_pos e];exact hm1.fld,hb1.trans (ButO.upd (by simp))⟩
        · walk_at "wd"
          exact hR3 _ _ ⟨rfl,by rw [if_neg e];exact hm1,hb1⟩
      rintro _ O2 ⟨rfl,hm2,hb2⟩
      generalize (if c= 117/\eT S < S0.row then { S0 with row:=S0.row - 1 } else S0)=S1 at hm2 step
      have hd2:=hm2.d
      refine yK (fun ρ' O'=>ρ'=[some (.own d),some (.d (.str ⟨#[c]⟩)),some (.d n),some (.d (.int (eT S))),some (.d (.int (eB S))),some (.d (.int (eL S))),some (.d (.int (eR S))),some (.d (.int (i:Int)))]/\MAt O' d A (if c= 100/\S1.row < eB S then { S1 with row:=S1.row+1 } else S1)/\ButO O O' [d]) (fun R3 hR3=>?_) ?_
      · refine yS (c= 100/\S1.row < eB S) (fun R4 hR4=>?_) (fun e=>?_) (fun e=>?_)
        · walk_at "wd"
          simp [hd2,zfg,and_assoc,zi,yB,zc,zy,yo,yp,yC,zU,yq,yD,yr,zV,yt,yE,zW,yu,ya,yb,yv,yy,zR,yi,yz,yj,zS,yk,yA,zT,yl,zZ,z7,ym]
          exact jk hR4
        · walk_at "wd"
          simp [hd2,and_assoc,zi,yB,zc,zy,yo,yp,yC,zU,yq,yD,yr,zV,yt,yE,zW,yu,ya,yb,yv,yy,zR,yi,yz,yj,zS,yk,yA,zT,yl,zZ,z7,ym]
          exact hR3 _ _ ⟨rfl,by rw [if_pos e];exact hm2.fld,hb2.trans (ButO.upd (by simp))⟩
        · walk_at "wd"
          exact hR3 _ _ ⟨rfl,by rw [if_neg e];exact hm2,hb2⟩
      rintro _ O3 ⟨rfl,hm3,hb3⟩
      generalize (if c= 100/\S1.row < eB S then { S1 with row:=S1.row+1 } else S1)=S2 at hm3 step
      have hd3:=hm3.d
      refine yK (fun ρ' O'=>ρ'=[some (.own d),some (.d (.str ⟨#[c]⟩)),some (.d n),some (.d (.int (eT S))),some (.d (.int (eB S))),some (.d (.int (eL S))),some (.d (.int (eR S))),some (.d (.int (i:Int)))]/\MAt O' d A (if c= 108/\eL S < S2.col then { S2 with col:=S2.col - 1 } else S2)/\ButO O O' [d]) (fun R3 hR3=>?_) ?_
      · refine yS (c= 108/\eL S < S2.col) (fun R4 hR4=>?_) (fun e=>?_) (fun e=>?_)
        · walk_at "wd"
          simp [hd3,zfh,and_assoc,zi,yB,zc,zy,yo,yp,yC,zU,yq,yD,yr,zV,yt,yE,zW,yu,ya,yb,yv,yy,zR,yi,yz,yj,zS,yk,yA,zT,yl,zZ,z7,ym]
          exact jk hR4
        · walk_at "wd"
          simp [hd3,and_assoc,zi,yB,zc,zy,yo,yp,yC,zU,yq,yD,yr,zV,yt,yE,zW,yu,ya,yb,yv,yy,zR,yi,yz,yj,zS,yk,yA,zT,yl,zZ,z7,ym]
          exact hR3 _ _ ⟨rfl,by rw [if_pos e];exact hm3.fld,hb3.trans (ButO.upd (by simp))⟩
        · walk_at "wd"
          exact hR3 _ _ ⟨rfl,by rw [if_neg e];exact hm3,hb3⟩
      rintro _ O4 ⟨rfl,hm4,hb4⟩
      generalize (if c= 108/\eL S < S2.col then { S2 with col:=S2.col - 1 } else S2)=S3 at hm4 step
      have hd4:=hm4.d
      refine yS (c= 114/\S3.col < eR S) (fun R4 hR4=>?_) (fun e=>?_) (fun e=>?_)
      · walk_at "wd"
        simp [hd4,zfi,and_assoc,zi,yB,zc,zy,yo,yp,yC,zU,yq,yD,yr,zV,yt,yE,zW,yu,ya,yb,yv,yy,zR,yi,yz,yj,zS,yk,yA,zT,yl,zZ,z7,ym]
        exact jk hR4
      · rw [if_pos e] at step
        walk_at "wd"
        simp [hd4,and_assoc,zi,yB,zc,zy,yo,yp,yC,zU,yq,yD,yr,zV,yt,yE,zW,yu,ya,yb,yv,yy,zR,yi,yz,yj,zS,yk,yA,zT,yl,zZ,z7,ym]
        exact fin _ _ hm4.fld (hb4.trans (ButO.upd (by simp))) step
      · rw [if_neg e] at step
        walk_at "wd"
        exact fin _ _ hm4 hb4 step
    · rintro ρ O1 ⟨v,rfl,hm1,hb1⟩
      rw [show (((oneD n).toNat:Nat):Int)=oneD n by omega] at hm1
      exact hR1 _ _ ⟨_,rfl,hm1,hb1⟩
  rintro _ O1 ⟨v,rfl,hm1,hb1⟩
  have hd1:=hm1.d
  walk_at "wd"
  simp [hd1,and_assoc,zi,yB,zc,zy,yo,yp,yC,zU,yq,yD,yr,zV,yt,yE,zW,yu,ya,yb,yv,yy,zR,yi,yz,yj,zS,yk,yA,zT,yl,zZ,z7,ym]
  exact .inl (h _ hm1.fld (hb1.trans (ButO.upd (by simp))))
seal L2.PE L2.PS L2.PSs L2.PT L2.PA in
theorem Uh (F:Fun K "_law_size" "_law_size" qL f fd) (T:Txt K mg C):FnOk P w K mg base CX0 1 f fd ["_law_cell"] (zb K sSizeM):=by
  have nd:=kE.nd
  apply F.okV kE (by rintro _ _ _ ⟨n,rfl,_⟩;rfl) (fun cdv A outer sh H E hr=>(zd (yn (i:=1) nd rfl (Or.inl rfl) (yJ (xB (K:=K) rfl) (xn (qc (zh yG za (zh yQ (pv 0) za)) (qc (zh yG za (zh yQ (pv 0) za)) (qc (zh yG za (zh yQ (pv 0) za)) (qc za qn))))) (zh yQ (zh yV (pv 0) za) za) (fun _ _=>rfl)))
      (zf (yg (yL (qc (pv 1) (qc (yJ (xB (K:=K) rfl) (xn (qc (zh yG za (zh yQ (zh yV (pv 0) za) za)) (qc (zh yG za (zh yQ (zh yV (pv 0) za) za)) (qc (zh yG za (zh yQ (zh yV (pv 0) za) za)) qn)))) (zh yQ (zh yV (pv 0) za) za) (fun _ _=>rfl)) qn)))))))
  · walk_at "ref"
  rintro _ O R ⟨c,rfl,c0,h⟩
  walk_at "wd"
  obtain⟨wv,w0,w1,hwv⟩:∃ wv:Nat,1≤wv/\wv≤24/\atI ([PyData.int (1+c%24),PyData.int (2+c%7),PyData.int (5+c%5),PyData.int 9].map W.d) (c / 24%4)=some (.d (.int wv)):=by
    rcases (by omega:c / 24%4 = 0\/c / 24%4 = 1\/c / 24%4 = 2\/c / 24%4 = 3) with e |e |e |e <;> rw [e]
    · exact⟨(1+c%24).toNat,by omega,by omega,by rw [show (((1+c%24).toNat:Nat):Int)= 1+c%24 by omega];rfl⟩
    · exact⟨(2+c%7).toNat,by omega,by omega,by rw [show (((2+c%7).toNat:Nat):Int)= 2+c%7 by omega];rfl⟩
    · exact⟨(5+c%5).toNat,by omega,by omega,by rw [show (((5+c%5).toNat:Nat):Int)= 5+c%5 by omega];rfl⟩
    · exact⟨9,by omega,by omega,rfl⟩
  obtain⟨hv,v0,v1,hhv⟩:∃ hv:Nat,1≤hv/\hv≤12/\atI ([PyData.int (1+c / 96%12),PyData.int (1+c / 96%4),PyData.int (3+c / 96%3)].map W.d) (c / 1152%3)=some (.d (.int hv)):=by
    rcases (by omega:c / 1152%3 = 0\/c / 1152%3 = 1\/c / 1152%3 = 2) with e |e |e <;> rw [e]
    · exact⟨(1+c / 96%12).toNat,by omega,by omega,by rw [show (((1+c / 96%12).toNat:Nat):Int)= 1+c / 96%12 by omega];rfl⟩
    · exact⟨(1+c / 96%4).toNat,by omega,by omega,by rw [show (((1+c / 96%4).toNat:Nat):Int)= 1+c / 96%4 by omega];rfl⟩
    · exact⟨(3+c / 96%3).toNat,by omega,by omega,by rw [show (((3+c / 96%3).toNat:Nat):Int)= 3+c / 96%3 by omega];rfl⟩
  exact⟨⟨by omega,by omega⟩,_,rfl,_,hwv,⟨by omega,by omega⟩,⟨by omega,by omega⟩,_,rfl,_,hhv,_,rfl,by show 2≤1000;omega,.inl (h wv hv w0 w1 v0 v1)⟩
seal L2.PE L2.PS L2.PSs L2.PT L2.PA in
theorem Xb (F:Fun K "_law_number" "_law_number" uk f fd) (T:Txt K mg C):FnOk P w K mg base CX0 1 f fd ["_law_cell"] (zb K sNumM):=by
 apply F.okV YA (by rintro _ _ _ ⟨n,rfl,_⟩;rfl) (fun cdv A outer sh H E hr=>(zf (yg (yJ (xB (K:=K) rfl) (UH rfl) (zh yQ (pv 0) za) (fun _ _=>rfl)))))
 ·walk_at "ref"
 rintro _ O R ⟨c,rfl,c0,h⟩
 walk_at "wd"
 refine⟨_,rfl,?_⟩
 have z0:=Int.emod_nonneg c (show (16:Int)≠0 by decide)
 have z1:=Int.emod_lt_of_pos c (show (0:Int) < 16 by decide)
 generalize c%16 =k at z0 z1
 obtain⟨m,rfl⟩:=Int.eq_ofNat_of_zero_le z0
 have z2:m < 16:=by omega
 clear z0 z1
 match m,z2 with
 | 0,_=>exact⟨_,rfl,.inl (h _ trivial)⟩
 | 1,_=>exact⟨_,rfl,.inl (h _ ⟨by decide,by decide⟩)⟩
 | 2,_=>exact⟨_,rfl,.inl (h _ ⟨by decide,by decide⟩)⟩
 | 3,_=>exact⟨_,rfl,.inl (h _ ⟨by decide,by decide⟩)⟩
 | 4,_=>exact⟨_,rfl,.inl (h _ ⟨by decide,by decide⟩)⟩
 | 5,_=>exact⟨_,rfl,.inl (h _ ⟨by decide,by decide⟩)⟩
 | 6,_=>exact⟨_,rfl,.inl (h _ ⟨by decide,by decide⟩)⟩
 | 7,_=>exact⟨_,rfl,.inl (h _ ⟨by decide,by decide⟩)⟩
 | 8,_=>exact⟨_,rfl,.inl (h _ ⟨by decide,by decide⟩)⟩
 | 9,_=>exact⟨_,rfl,.inl (h _ ⟨by decide,by decide⟩)⟩
 | 10,_=>exact⟨_,rfl,.inl (h _ ⟨by decide,by decide⟩)⟩
 | 11,_=>exact⟨_,rfl,.inl (h _ ⟨by decide,by decide⟩)⟩
 | 12,_=>exact⟨_,rfl,.inl (h _ ⟨by decide,by decide⟩)⟩
 | 13,_=>exact⟨_,rfl,.inl (h _ ⟨by decide,by decide⟩)⟩
 | 14,_=>exact⟨_,rfl,.inl (h _ ⟨by decide,by decide⟩)⟩
 | 15,_=>exact⟨_,rfl,.inl (h _ ⟨by decide,by decide⟩)⟩
 |n+16,z=>exact absurd z (by omega)
theorem Xc (F:Fun K "_law_window" "_law_window" um f fd) (T:Txt K mg C) (zhf:Cal P w K mg base 1 "_law_times" [] (zb K ja)) (zg9:Cal P w K mg base 2 "_law_placed" [] (zb K sPlacedM)):FnOk P w K mg base CX0 3 f fd ["_law_m","_law_letter","_law_first","_law_last"] (zb K sWindowM):=by
  have nd:=jh.nd
  apply F.okV jh (by rintro _ _ _ ⟨c,a,b,_,_,_,d,A,S,rfl,_⟩;rfl) (fun cdv A outer sh H E hr=>(zd (yn (i:=4) nd rfl (Or.inl rfl) (yZ (zx yW (pv 1) zg (zE _)) (zl (zw hr) (pv 0) zg (fun _ _=>rfl)) (zl (zw hr) (pv 0) zg (fun _ _=>rfl))))
      (zd (yn (i:=5) nd rfl (Or.inl rfl) (yZ (zx yW (pv 1) zg (zE _)) (xn (qc zg (qc zg qn))) (xn (qc zg (qc zg qn)))))
      (zd (yn (i:=6) nd rfl (Or.inl rfl) (yZ (zx (jv (K:=K) rfl) (pv 3) (yL (qc xo (qc za qn))) (by with_unfolding_all rfl)) (pv 4) (yT (x0 rfl) (by rfl) T.n_min (by rfl) (QA.pa (qc (pv 3) (qc (pv 4) qn))))))
      (zf (yw (zx xz (zn zhf (hr.mono (by decide)) rfl (QA.pa (qc (pv 2) qn))) (pv 6) (zE _)) (zd (yU (zw hr) (pv 0) (yJ (xB (K:=K) rfl) (pv 5) za (fun _ _=>rfl)) (zh yM (zn zhf (hr.mono (by decide)) rfl (QA.pa (qc (pv 2) qn))) za) rfl)
      (zd (yU (zw hr) (pv 0) (yJ (xB (K:=K) rfl) (pv 5) za (fun _ _=>rfl)) (zh yM (pv 6) za) rfl)
      (zf (yF (zn zg9 (hr.mono (by decide)) rfl (QA.pa (qc (pv 0) (qc xo (qc xo qn))))))))) yh))))))
  · walk_at "ref"
  rintro _ O R ⟨c,a,b,hc,ha,hb,d,A,S,rfl,hm,_,h⟩
  have hd:=hm.d
  rcases hc with rfl |rfl
  · refine QJ (fun ρ' O'=>ρ'=[some (.own d),some (.d (.str ⟨#[109]⟩)),some (.d a),some (.d b),some (.d (.int S.h)),some (.d (.list [.str (Str.ofString "top"),.str (Str.ofString "bottom")])),some (.d (.int (xi b S.h)))]/\O=O') (fun R1 hR1=>?_) ?_
    · rcases hb.cs with rfl | ⟨i,rfl,i0,i1⟩
      · walk_at "wd"
        simp [hd,uL,uM,uN,uO,uP,uQ,uR,uS,uT,uU,uV,uW,uX,uY,uZ,u4,u5,jd,and_assoc,zi,yB,zc,zy,yo,yp,yC,zU,yq,yD,yr,zV,yt,yE,zW,yu,ya,yb,yv,yy,zR,yi,yz,yj,zS,yk,yA,zT,yl,zZ,z7,ym]
        refine⟨_,rfl,by simp,?_⟩
        exact⟨rfl,hR1 _ _ ⟨rfl,rfl⟩⟩
      · walk_at "wd"
        simp [hd,uL,uM,uN,uO,uP,uQ,uR,uS,uT,uU,uV,uW,uX,uY,uZ,u4,u5,jd,and_assoc,zi,yB,zc,zy,yo,yp,yC,zU,yq,yD,yr,zV,yt,yE,zW,yu,ya,yb,yv,yy,zR,yi,yz,yj,zS,yk,yA,zT,yl,zZ,z7,ym]
        have e:inV (V.int i) (List.map vOf [.none,.int 0])=decide (i= 0):=by
          simp [inV,eqV,vOf]
          by_cases q:i= 0
          · subst q;rfl
          · rw [decide_eq_false q];exact beq_false_of_ne (Ne.symm q)
        refine⟨_,rfl,by simp,?_⟩
        rw [e]
        by_cases q:i= 0
        · rw [if_pos (by simp [q])]
          exact hR1 _ _ ⟨by simp [xi,q],rfl⟩
        · rw [if_neg (by simp [q])]
          refine hR1 _ _ ⟨?_,rfl⟩
          have:xi (.int i) S.h=if (S.h:Int) < i then (S.h:Int) else i:=by simp [xi,q]
          rw [this]
    rintro _ _ ⟨rfl,rfl⟩
    walk_at "wd"
    simp [hd,ha,and_assoc,zi,yB,zc,zy,yo,yp,yC,zU,yq,yD,yr,zV,yt,yE,zW,yu,ya,yb,yv,yy,zR,yi,yz,yj,zS,yk,yA,zT,yl,zZ,z7,ym]
    have hto:=jz ha
    split
    · rename_i q
      have e:winS 109 a b S=plS .none .none { S with top:=vj a - 1,bottom:=xi b S.h - 1 }:=by
        unfold winS rowsS
        first |rw [if_pos rfl] |rw [if_neg (by decide)]
        rw [if_neg (by omega),hto]
      rw [e] at h
      have m1:=hm.fld (S':={ S with top:=vj a - 1,bottom:=xi b S.h - 1 })
      refine⟨_,rfl,_,rfl,_,hd,by show 17 < 1000;decide,_,rfl,_,rfl,_,zc,by show 17 < 1000;decide,.none,.none,trivial,trivial,d,A,{ S with top:=vj a - 1,bottom:=xi b S.h - 1 },rfl,?_,trivial,fun O' g1 g2=>.inl (h _ g1 (ButO.trans (ButO.trans (ButO.upd (by simp)) (ButO.upd (by simp))) g2))⟩
      rw [zy]
      exact m1
    · rename_i q
      have e:winS 109 a b S=S:=by
        unfold winS rowsS
        first |rw [if_pos rfl] |rw [if_neg (by decide)]
        rw [if_pos (by omega)]
      rw [e] at h
      exact .inl (h _ hm ButO.refl)
  · refine QJ (fun ρ' O'=>ρ'=[some (.own d),some (.d (.str ⟨#[77]⟩)),some (.d a),some (.d b),some (.d (.int S.w)),some (.d (.list [.str (Str.ofString "left"),.str (Str.ofString "right")])),some (.d (.int (xi b S.w)))]/\O=O') (fun R1 hR1=>?_) ?_
    · rcases hb.cs with rfl | ⟨i,rfl,i0,i1⟩
      · walk_at "wd"
        simp [hd,uL,uM,uN,uO,uP,uQ,uR,uS,uT,uU,uV,uW,uX,uY,uZ,u4,u5,jd,and_assoc,zi,yB,zc,zy,yo,yp,yC,zU,yq,yD,yr,zV,yt,yE,zW,yu,ya,yb,yv,yy,zR,yi,yz,yj,zS,yk,yA,zT,yl,zZ,z7,ym]
        refine⟨_,rfl,by simp,?_⟩
        exact⟨rfl,hR1 _ _ ⟨rfl,rfl⟩⟩
      · walk_at "wd"
        simp [hd,uL,uM,uN,uO,uP,uQ,uR,uS,uT,uU,uV,uW,uX,uY,uZ,u4,u5,jd,and_assoc,zi,yB,zc,zy,yo,yp,yC,zU,yq,yD,yr,zV,yt,yE,zW,yu,ya,yb,yv,yy,zR,yi,yz,yj,zS,yk,yA,zT,yl,zZ,z7,ym]
        have e:inV (V.int i) (List.map vOf [.none,.int 0])=decide (i= 0):=by
          simp [inV,eqV,vOf]
          by_cases q:i= 0
          · subst q;rfl
          · rw [decide_eq_false q];exact beq_false_of_ne (Ne.symm q)
        refine⟨_,rfl,by simp,?_⟩
        rw [e]
        by_cases q:i= 0
        · rw [if_pos (by simp [q])]
          exact hR1 _ _ ⟨by simp [xi,q],rfl⟩
        · rw [if_neg (by simp [q])]
          refine hR1 _ _ ⟨?_,rfl⟩
          have:xi (.int i) S.w=if (S.w:Int) < i then (S.w:Int) else i:=by simp [xi,q]
          rw [this]
    rintro _ _ ⟨rfl,rfl⟩
    walk_at "wd"
    simp [hd,ha,and_assoc,zi,yB,zc,zy,yo,yp,yC,zU,yq,yD,yr,zV,yt,yE,zW,yu,ya,yb,yv,yy,zR,yi,yz,yj,zS,yk,yA,zT,yl,zZ,z7,ym]
    have hto:=jz ha
    split
    · rename_i q
      have e:winS 77 a b S=plS .none .none { S with left:=vj a - 1,right:=xi b S.w - 1 }:=by
        unfold winS colsS
        first |rw [if_pos rfl] |rw [if_neg (by decide)]
        rw [if_neg (by omega),hto]
      rw [e] at h
      have m1:=hm.fld (S':={ S with left:=vj a - 1,right:=xi b S.w - 1 })
      refine⟨_,rfl,_,rfl,_,hd,by show 17 < 1000;decide,_,rfl,_,rfl,_,zc,by show 17 < 1000;decide,.none,.none,trivial,trivial,d,A,{ S with left:=vj a - 1,right:=xi b S.w - 1 },rfl,?_,trivial,fun O' g1 g2=>.inl (h _ g1 (ButO.trans (ButO.trans (ButO.upd (by simp)) (ButO.upd (by simp))) g2))⟩
      rw [zy]
      exact m1
    · rename_i q
      have e:winS 77 a b S=S:=by
        unfold winS colsS
        first |rw [if_pos rfl] |rw [if_neg (by decide)]
        rw [if_pos (by omega)]
      rw [e] at h
      exact .inl (h _ hm ButO.refl)
theorem VF (F:Fun K "_law_moded" "_law_moded" qj f fd) (T:Txt K mg C) (zg9:Cal P w K mg base 2 "_law_placed" [] (zb K sPlacedM)):FnOk P w K mg base CX0 3 f fd ["_law_m","_law_numbers","_law_on"] (zb K sModedM):=by
  have nd:=jR.nd
  apply F.okV jR (by rintro _ _ _ ⟨k,on,_,d,A,S,rfl,_⟩;rfl) (fun cdv A outer sh H E hr=>(zf (xV PassesOwn.never rfl (kW (K:=K) rfl (pv 1)) (yx (i:=3) nd rfl (Or.inl rfl))
      (zd (yw (zx (jv (K:=K) rfl) (pv 3) (yL (qc za (qc za (qc za qn)))) (by with_unfolding_all rfl)) (zf (yU (zw hr) (pv 0) (yJ (xB (K:=K) rfl) (xn (qc zg (qc zg (qc zg qn)))) (zh yM (pv 3) za) (fun _ _=>rfl)) (pv 2) rfl)) yh)
      (zf (yw (zx yW (pv 3) za (zE _)) (zf (yF (zn zg9 (hr.mono (by decide)) rfl (QA.pa (qc (pv 0) (qc xo (qc xo qn))))))) yh))))))
  · walk_at "ref"
  rintro _ O R ⟨k,on,hk,d,A,S,rfl,hm,_,h⟩
  walk_at "wd"
  refine xF.by (fun i ρ O'=>∃ v,ρ=[some (.own d),some (.d (.tuple [.int k])),some (.d (.bool on)),v]/\MAt O' d A (if i= 0 then S else modeS k on S)/\ButO O O' [d]) ⟨_,rfl,hm,ButO.refl⟩ (fun _ _ _ _=>trivial) ?_ ?_
  · rintro i wv _ O1 hw ⟨v,rfl,hm1,hb1⟩ R2 hR2
    cases i with
    |succ i=>simp at hw
    |zero=>
      cases hw
      rw [if_pos rfl] at hm1
      have hd1:=hm1.d
      rcases hk with rfl |rfl |rfl
      · walk_at "wd"
        refine⟨_,rfl,by simp,?_⟩
        rw [if_pos (by rfl)]
        exact⟨_,rfl,_,rfl,_,hd1,by show 17 < 1000;decide,hR2 _ _ ⟨_,rfl,hm1.fld (S':={ S with wrap:=on }),hb1.trans (ButO.upd (by simp))⟩⟩
      · walk_at "wd"
        refine⟨_,rfl,by simp,?_⟩
        rw [if_pos (by rfl)]
        exact⟨_,rfl,_,rfl,_,hd1,by show 17 < 1000;decide,hR2 _ _ ⟨_,rfl,hm1.fld (S':={ S with putting:=on }),hb1.trans (ButO.upd (by simp))⟩⟩
      · walk_at "wd"
        refine⟨_,rfl,by simp,?_⟩
        rw [if_pos (by rfl)]
        exact⟨_,rfl,_,rfl,_,hd1,by show 17 < 1000;decide,.none,.none,trivial,trivial,d,A,{ S with home:=on },rfl,hm1.fld (S':={ S with home:=on }),trivial,fun O' g1 g2=>hR2 _ _ ⟨_,rfl,g1,(hb1.trans (ButO.upd (by simp))).trans g2⟩⟩
  · rintro ρ O1 ⟨v,rfl,hm1,hb1⟩
    exact .inl (h _ hm1 hb1)
end
theorem vD {i:Int}(hi:Ink i):∃ n:_root_.Fin 512,i=((n.val:Nat):Int):=⟨⟨i.toNat,by have:=hi.1;have:=hi.2;omega⟩,by have:=hi.1;simp only;omega⟩
theorem zf4 {i:Int}(hi:Ink i):dyeI i (.int 1)=i%8+8*(i / 8%8)+64*1+128*(i / 128%2)+256*(i / 256):=by
 obtain⟨n,rfl⟩:=vD hi;clear hi;revert n;decide +kernel
theorem zf5 {i:Int}(hi:Ink i):dyeI i (.int 2)=i%8+8*(i / 8%8)+64*(i / 64%2)+128*1+256*(i / 256):=by
 obtain⟨n,rfl⟩:=vD hi;clear hi;revert n;decide +kernel
theorem zf6 {i:Int}(hi:Ink i):dyeI i (.int 3)=i%8+8*(i / 8%8)+64*(i / 64%2)+128*(i / 128%2)+256*1:=by
 obtain⟨n,rfl⟩:=vD hi;clear hi;revert n;decide +kernel
theorem zf7 {i:Int}(hi:Ink i):dyeI i (.int 4)=i%8+8*(i / 8%8)+64*0+128*(i / 128%2)+256*(i / 256):=by
 obtain⟨n,rfl⟩:=vD hi;clear hi;revert n;decide +kernel
theorem zf8 {i:Int}(hi:Ink i):dyeI i (.int 5)=i%8+8*(i / 8%8)+64*(i / 64%2)+128*0+256*(i / 256):=by
 obtain⟨n,rfl⟩:=vD hi;clear hi;revert n;decide +kernel
theorem zf9 {i:Int}(hi:Ink i):dyeI i (.int 6)=i%8+8*(i / 8%8)+64*(i / 64%2)+128*(i / 128%2)+256*0:=by
 obtain⟨n,rfl⟩:=vD hi;clear hi;revert n;decide +kernel
theorem zga {i:Int}(hi:Ink i):dyeI i (.int 7)=i%8+8*(i / 8%8)+64*(1 - i / 64%2)+128*(1 - i / 128%2)+256*(1 - i / 256):=by
 obtain⟨n,rfl⟩:=vD hi;clear hi;revert n;decide +kernel
theorem ZA {i:Int}(hi:Ink i):Builtin.bitAnd i 7 =i%8/\Builtin.bitAnd (i / 8) 7 =i / 8%8/\64*Builtin.bitAnd (i / 64) 7 = 64*(i / 64%2)+128*(i / 128%2)+256*(i / 256)/\i=i%8+8*(i / 8%8)+64*(i / 64%2)+128*(i / 128%2)+256*(i / 256):=by
 obtain⟨n,rfl⟩:=vD hi;clear hi;revert n;decide +kernel
theorem zgb {i k:Int}(hi:Ink i) (h1:10≤k) (h2:k≤17):dyeI i (.int k)=(k - 10)+8*(i / 8%8)+64*(i / 64%2)+128*(i / 128%2)+256*(i / 256):=by
 obtain⟨_,e2,e3,_⟩:=ZA hi
 simp only [dyeI]
 rw [if_neg (by omega),if_neg (by omega),if_neg (by omega),if_neg (by omega),if_pos ⟨h1,h2⟩,e2,e3]
 omega
theorem zgc {i k:Int}(hi:Ink i) (h1:20≤k) (h2:k≤27):dyeI i (.int k)=i%8+8*(k - 20)+64*(i / 64%2)+128*(i / 128%2)+256*(i / 256):=by
 obtain⟨e1,_,e3,_⟩:=ZA hi
 simp only [dyeI]
 rw [if_neg (by omega),if_neg (by omega),if_neg (by omega),if_neg (by omega),if_neg (by omega),if_pos ⟨h1,h2⟩,e1,e3]
 omega
theorem zgd {i k:Int}(hi:Ink i) (h:k= 8\/k= 9\/k= 18\/k= 19):dyeI i (.int k)=i%8+8*(i / 8%8)+64*(i / 64%2)+128*(i / 128%2)+256*(i / 256):=by
 obtain⟨_,_,_,e⟩:=ZA hi
 simp only [dyeI]
 rw [if_neg (by omega),if_neg (by omega),if_neg (by omega),if_neg (by omega),if_neg (by omega),if_neg (by omega)]
 exact e
theorem zge {k:Int}:inV (V.int k) (List.map vOf [.none,.int 0])=decide (k= 0):=by
 rw [Bool.eq_iff_iff,decide_eq_true_iff]
 simp [inV,eqV,vOf]
 try omega
theorem VG {k a b c:Int}:inV (V.int k) (List.map vOf [.int a,.int b,.int c])=decide (k=a\/k=b\/k=c):=by
 rw [Bool.eq_iff_iff,decide_eq_true_iff]
 simp [inV,eqV,vOf]
 try omega
section
variable {P:Program}{w:World}{K:W.Frag}{mg:Str->Option Value}{base:Heap}{f C:Addr}{fd:FuncData}
seal L2.PE L2.PS L2.PSs L2.PT L2.PA in
theorem Ui (F:Fun K "_law_dyed" "_law_dyed" qM f fd) (T:Txt K mg C):FnOk P w K mg base CX0 1 f fd ["_law_m","_law_numbers"] (zb K sDyedM):=by
  have nd:=kG.nd
  apply F.okV kG (by rintro _ _ _ ⟨ns,_,d,A,S,rfl,_⟩;rfl) (fun cdv A outer sh H E hr=>(zf (xV PassesOwn.never rfl (kW (K:=K) rfl (pv 1)) (yx (i:=2) nd rfl (Or.inl rfl))
      (zd (yn (i:=3) nd rfl (Or.inl rfl) (zl (zw hr) (pv 0) zg (fun _ _=>rfl)))
      (zd (UG (i:=4) (j:=5) (k:=6) rfl nd rfl rfl rfl rfl rfl rfl (QA.pa (qc (zh yQ (pv 3) za) (qc (zh yQ (zh yV (pv 3) za) za) (qc (kU (qc (zh yQ (zh yV (pv 3) za) za) (qc (zh yQ (zh yV (pv 3) za) za) (qc (zh yV (pv 3) za) qn)))) qn)))) rfl)
      (zd (yw (zx (jv (K:=K) rfl) (pv 2) (yL (qc xo (qc za qn))) (by with_unfolding_all rfl)) (zf (UG (i:=4) (j:=5) (k:=6) rfl nd rfl rfl rfl rfl rfl rfl (QA.pa (qc za (qc za (qc (kU (qc za (qc za (qc za qn)))) qn)))) rfl)) (zf (yw (zx (jv (K:=K) rfl) (pv 2) (yL (qc za (qc za (qc za qn)))) (by with_unfolding_all rfl)) (zf (xQ za (uA (pv 6) (zh yM (pv 2) za) vq))) (zf (yw (zx (jv (K:=K) rfl) (pv 2) (yL (qc za (qc za (qc za qn)))) (by with_unfolding_all rfl)) (zf (xQ za (uA (pv 6) (zh yM (pv 2) za) vq))) (zf (yw (zx yW (pv 2) za (zE _)) (zf (J9 (i:=6) nd rfl rfl (qB (N:=["_law_mark"]) (n:=1) (js:=[])) rfl (jw (K:=K) rfl (pv 6)) (fun _ _ _ _=>(yx (i:=0) (show List.Nodup (["_law_mark"]:List Str) by decide +kernel) rfl (Or.inl rfl))) (fun _ _ _ _=>vB) (fun _ _ _ _=>(zh yM za (pv 0))))) (zf (yw (vM xz xz za (pv 2) za) (zf (yn (i:=4) nd rfl (Or.inl rfl) (zh yM (pv 2) za))) (zf (yw (vM xz xz za (pv 2) za) (zf (yn (i:=5) nd rfl (Or.inl rfl) (zh yM (pv 2) za))) yh)))))))))))
      (zf (yU (zw hr) (pv 0) zg (zh yG (zh yG (zh yG (zh yG (pv 4) (zh xM za (pv 5))) (zh xM za (yJ (xB (K:=K) rfl) (pv 6) za (fun _ _=>rfl)))) (zh xM za (yJ (xB (K:=K) rfl) (pv 6) za (fun _ _=>rfl)))) (zh xM za (yJ (xB (K:=K) rfl) (pv 6) za (fun _ _=>rfl)))) rfl))))))))
  · walk_at "ref"
  rintro _ O R ⟨ns,hns,d,A,S,rfl,hm,hi,h⟩
  show ∃ ds,xD (W.d (.tuple ns))=some ds/\xF (ds.map .d) (fun _=>True) _ _ _ _ _
  refine⟨ns,rfl,?_⟩
  refine xF.by (fun i ρ O'=>∃ v2 v3 v4 v5 v6,ρ=[some (.own d),some (.d (.tuple ns)),v2,v3,v4,v5,v6]/\MAt O' d A (dyeS (ns.take i) S)/\Ink (dyeS (ns.take i) S).ink/\ButO O O' [d]) ⟨_,_,_,_,_,rfl,hm,hi,ButO.refl⟩ (fun _ _ _ _=>trivial) ?_ ?_
  · rintro i wv _ O1 hw ⟨v2,v3,v4,v5,v6,rfl,hm1,hi1,hb1⟩ R1 hR1
    rw [List.getElem?_map] at hw
    cases hni:ns[i]? with
    |none=>rw [hni] at hw;cases hw
    |some n=>
      rw [hni] at hw
      cases hw
      obtain⟨k,rfl,k0,k1⟩:=hns n (List.mem_of_getElem? hni)
      have et:ns.take (i+1)=ns.take i ++ [.int k]:=by
        rw [List.take_add_one,hni];rfl
      have es:dyeS (ns.take (i+1)) S= { dyeS (ns.take i) S with ink:=dyeI (dyeS (ns.take i) S).ink (.int k) }:=by
        unfold dyeS
        rw [et,List.foldl_append]
        rfl
      rw [es] at hR1
      obtain⟨Si,eSi⟩:∃ Si,Si=dyeS (ns.take i) S:=⟨_,rfl⟩
      rw [<- eSi] at hm1 hi1 hR1
      have hd1:=hm1.d
      obtain⟨I,eI⟩:∃ I,I=Si.ink:=⟨_,rfl⟩
      have hI:Ink I:=by rw [eI];exact hi1
      have hI0:=hI.1
      have hI1:=hI.2
      refine qw (fun ρ' O'=>∃ r,O1 r=none/\ρ'=[some (.own d),some (.d (.tuple ns)),some (.d (.int k)),some (.d (.int I)),some (.d (.int (I%8))),some (.d (.int (I / 8%8))),some (.own r)]/\O'=updO O1 r (.lst [.d (.int (I / 64%2)),.d (.int (I / 128%2)),.d (.int (I / 256))])) (fun R2 hR2=>?_) ?_
      · walk_at "wd"
        simp [hd1,and_assoc,zi,yB,zc,zy,yo,yp,yC,zU,yq,yD,yr,zV,yt,yE,zW,yu,ya,yb,yv,yy,zR,yi,yz,yj,zS,yk,yA,zT,yl,zZ,z7,ym]
        have i0:=hi1.1
        have i1:=hi1.2
        exact⟨⟨by omega,by omega⟩,⟨by omega,by omega⟩,⟨by omega,by omega⟩,⟨by omega,by omega⟩,fun r hr=>hR2 _ _ ⟨r,hr,by rw [eI],by rw [eI]⟩⟩
      rintro _ _ ⟨r,hr0,rfl,rfl⟩
      have hr1:updO O1 r (.lst [.d (.int (I / 64%2)),.d (.int (I / 128%2)),.d (.int (I / 256))]) r=some (.lst [.d (.int (I / 64%2)),.d (.int (I / 128%2)),.d (.int (I / 256))]):=zc
      have ho2:Old O1 (updO O1 r (.lst [.d (.int (I / 64%2)),.d (.int (I / 128%2)),.d (.int (I / 256))])):=Old.refl.upd hr0
      generalize updO O1 r (.lst [.d (.int (I / 64%2)),.d (.int (I / 128%2)),.d (.int (I / 256))])=O2 at hr1 ho2 ⊢
      refine yK (fun ρ' O'=>∃ f b m0 m1 m2 r',ρ'=[some (.own d),some (.d (.tuple ns)),some (.d (.int k)),some (.d (.int I)),some (.d (.int f)),some (.d (.int b)),some (.own r')]/\O' r'=some (.lst [.d (.int m0),.d (.int m1),.d (.int m2)])/\Old O1 O'/\dyeI I (.int k)=f+8*b+64*m0+128*m1+256*m2) (fun R2 hR2=>?_) ?_
      · have fin:∀ f b r' m0 m1 m2 O',O' r'=some (.lst [.d (.int m0),.d (.int m1),.d (.int m2)])->Old O1 O'->dyeI I (.int k)=f+8*b+64*m0+128*m1+256*m2->R2 [some (.own d),some (.d (.tuple ns)),some (.d (.int k)),some (.d (.int I)),some (.d (.int f)),some (.d (.int b)),some (.own r')] O':=fun f b r' m0 m1 m2 O' e1 e2 e3=>hR2 _ _ ⟨f,b,m0,m1,m2,r',rfl,e1,e2,e3⟩
        have setr:∀ j:Nat,j < 3->∀ v:Int,uf O2 (.own r) (j:Int) (.d (.int v))=some (updO O2 r (.lst (([.d (.int (I / 64%2)),.d (.int (I / 128%2)),.d (.int (I / 256))]:List W).set j (.d (.int v))))):=by
          intro j hj v
          simp only [uf,hr1]
          rcases (by omega:j= 0\/j= 1\/j= 2) with rfl |rfl |rfl <;> rfl
        have old3:∀ o,Old O1 (updO O2 r o):=fun o b hb=>by
          have:b≠r:=fun e=>hb (by rw [e];exact hr0)
          rw [ze this]
          exact ho2 b hb
        refine yS (k= 0) (fun R3 hR3=>?_) (fun hk=>?_) (fun hk=>?_)
        · walk_at "wd"
          exact⟨_,rfl,by simp,by rw [zge];exact hR3⟩
        · subst hk
          walk_at "wd"
          exact fun p hp=>fin _ _ _ _ _ _ _ zc (ho2.upd (ho2.new hp)) rfl
        refine yS (k= 1\/k= 2\/k= 3) (fun R3 hR3=>?_) (fun hk=>?_) (fun hk2=>?_)
        · walk_at "wd"
          exact⟨_,rfl,by simp,by rw [VG];exact hR3⟩
        · rcases hk with rfl |rfl |rfl
          · walk_at "wd"
            exact⟨_,setr 0 (by omega) 1,fin _ _ _ _ _ _ _ zc (old3 _) (zf4 hI)⟩
          · walk_at "wd"
            exact⟨_,setr 1 (by omega) 1,fin _ _ _ _ _ _ _ zc (old3 _) (zf5 hI)⟩
          · walk_at "wd"
            exact⟨_,setr 2 (by omega) 1,fin _ _ _ _ _ _ _ zc (old3 _) (zf6 hI)⟩
        refine yS (k= 4\/k= 5\/k= 6) (fun R3 hR3=>?_) (fun hk=>?_) (fun hk3=>?_)
        · walk_at "wd"
          exact⟨_,rfl,by simp,by rw [VG];exact hR3⟩
        · rcases hk with rfl |rfl |rfl
          · walk_at "wd"
            exact⟨_,setr 0 (by omega) 0,fin _ _ _ _ _ _ _ zc (old3 _) (zf7 hI)⟩
          · walk_at "wd"
            exact⟨_,setr 1 (by omega) 0,fin _ _ _ _ _ _ _ zc (old3 _) (zf8 hI)⟩
          · walk_at "wd"
            exact⟨_,setr 2 (by omega) 0,fin _ _ _ _ _ _ _ zc (old3 _) (zf9 hI)⟩
        refine yS (k= 7) (fun R3 hR3=>?_) (fun hk=>?_) (fun hk4=>?_)
        · walk_at "wd"
          exact hR3
        · subst hk
          walk_at "wd"
          refine⟨[.d (.int (I / 64%2)),.d (.int (I / 128%2)),.d (.int (I / 256))],by simp only [yN,hr1],by simp,fun v=>match v with |.d (.int j)=>some (.int (1 - j)) |_=>none,?_,fun p hp=>fin _ _ _ _ _ _ _ zc (ho2.upd (ho2.new hp)) (zga hI)⟩
          intro w hw us hus
          match us,hus with
          |[u],_=>
            simp only [List.mem_cons,List.not_mem_nil,or_false] at hw
            rcases hw with rfl |rfl |rfl <;> exact⟨rfl,rfl,rfl⟩
        refine yS (10≤k/\k≤17) (fun R3 hR3=>?_) (fun hk=>?_) (fun hk5=>?_)
        · walk_at "wd"
          split
          · rename_i e
            rw [show decide (10≤k/\k≤17)=decide (k≤17) from decide_eq_decide.2 ⟨fun z=>z.2,fun z=>⟨e,z⟩⟩] at hR3
            exact hR3
          · rename_i e
            rw [show decide (10≤k/\k≤17)=false from decide_eq_false (by omega)] at hR3
            exact hR3
        · walk_at "wd"
          exact fin _ _ _ _ _ _ _ hr1 ho2 (zgb hI hk.1 hk.2)
        refine yS (20≤k/\k≤27) (fun R3 hR3=>?_) (fun hk=>?_) (fun hk6=>?_)
        · walk_at "wd"
          split
          · rename_i e
            rw [show decide (20≤k/\k≤27)=decide (k≤27) from decide_eq_decide.2 ⟨fun z=>z.2,fun z=>⟨e,z⟩⟩] at hR3
            exact hR3
          · rename_i e
            rw [show decide (20≤k/\k≤27)=false from decide_eq_false (by omega)] at hR3
            exact hR3
        · walk_at "wd"
          exact fin _ _ _ _ _ _ _ hr1 ho2 (zgc hI hk.1 hk.2)
        walk_at "wd"
        exact fin _ _ _ _ _ _ _ hr1 ho2 (zgd hI (by omega))
      rintro _ O3 ⟨f,b,m0,m1,m2,r',rfl,hr3,ho3,ed⟩
      have hm3:=hm1.butO (ho3.butO (xs:=[])) (by simp) (by simp) (by simp)
      have hd3:=hm3.d
      have sq:yN O3 (.own r')=some [.d (.int m0),.d (.int m1),.d (.int m2)]:=by simp only [yN,hr3]
      have ed':dyeI Si.ink (.int k)=f+8*b+64*m0+128*m1+256*m2:=by rw [<- eI];exact ed
      have ik:=Zu (n:=.int k) hi1
      simp only [ed'] at hR1 ik
      walk_at "wd"
      simp [hd3,and_assoc,zi,yB,zc,zy,yo,yp,yC,zU,yq,yD,yr,zV,yt,yE,zW,yu,ya,yb,yv,yy,zR,yi,yz,yj,zS,yk,yA,zT,yl,zZ,z7,ym]
      exact⟨mulL (by decide) (by decide),_,sq,_,rfl,mulL (by decide) (by decide),_,sq,_,rfl,mulL (by decide) (by decide),_,sq,_,rfl,mulL (by decide) (by decide),hR1 _ _ ⟨_,_,_,_,_,rfl,hm3.fld,ik,hb1.trans (ho3.butO.trans (ButO.upd (by simp)))⟩⟩
  · rintro ρ O1 ⟨v2,v3,v4,v5,v6,rfl,hm1,_,hb1⟩
    simp at hm1
    exact .inl (h _ hm1 hb1)
end
noncomputable def stF:W->Option PyData:=fun v=>match v with
 |.d (.int c)=>if c%4 = 0 then some (.int c) else none
 |_=>none
theorem za2:∀ {wd:Nat},1≤wd->wd≤24->List.filterMap (stF ∘ fun (k:Nat)=>W.d (.int (4+(k:Int)))) (List.range ((wd:Int) - 4).toNat)=(stopsI wd).map PyData.int
 | 0,h,_=>absurd h (by decide)
 | 1,_,_=>rfl
 | 2,_,_=>rfl
 | 3,_,_=>rfl
 | 4,_,_=>rfl
 | 5,_,_=>rfl
 | 6,_,_=>rfl
 | 7,_,_=>rfl
 | 8,_,_=>rfl
 | 9,_,_=>rfl
 | 10,_,_=>rfl
 | 11,_,_=>rfl
 | 12,_,_=>rfl
 | 13,_,_=>rfl
 | 14,_,_=>rfl
 | 15,_,_=>rfl
 | 16,_,_=>rfl
 | 17,_,_=>rfl
 | 18,_,_=>rfl
 | 19,_,_=>rfl
 | 20,_,_=>rfl
 | 21,_,_=>rfl
 | 22,_,_=>rfl
 | 23,_,_=>rfl
 | 24,_,_=>rfl
 |n+25,_,h=>absurd h (by omega)
section
variable {P:Program}{w:World}{K:W.Frag}{mg:Str->Option Value}{base:Heap}{f C:Addr}{fd:FuncData}
seal L2.PE L2.PS L2.PSs L2.PT L2.PA in
theorem VH (F:Fun K "_law_begun" "_law_begun" qg f fd) (T:Txt K mg C):FnOk P w K mg base CX0 1 f fd ["_law_wide","_law_high"] (zb K sBegunM):=by
  have nd:=jP.nd
  apply F.okV jP (by rintro _ _ _ ⟨a,b,rfl,_⟩;rfl) (fun cdv A outer sh H E hr=>(zd (yn (i:=2) nd rfl (Or.inl rfl) (qV (yR zg (pv 0) (yR zg (pv 1) (yR zg za (yR zg za (yR zg xa (yR zg za qU)))))) rfl rfl (by decide) (by decide)))
      (zd (yF (ue (K:=K) rfl PySem.F.plainAttrs_dict PySem.F.slot_dict_update PySem.F.type_dict_update uc (pv 2) (QA.pa (qc (qV (yR zg xa (yR zg xa (yR zg xa (yR zg za (yR zg (zh yM (pv 1) za) (yR zg za qU)))))) rfl rfl (by decide) (by decide)) qn))))
      (zd (yF (ue (K:=K) rfl PySem.F.plainAttrs_dict PySem.F.slot_dict_update PySem.F.type_dict_update uc (pv 2) (QA.pa (qc (qV (yR zg (zh yM (pv 0) za) (yR zg (X3 (qB (N:=["_law_column"]) (n:=1) (js:=[])) rfl (vz rfl T.n_range (QA.pa (qc za (qc (pv 0) qn)))) (fun _ _ _ _=>(yx (i:=0) (show List.Nodup (["_law_column"]:List Str) by decide +kernel) rfl (Or.inl rfl))) (fun _ _ _ _=>(UB (zx yW (zh yQ (pv 0) za) za (zE _)))) (fun _ _ _ _=>(pv 0))) qU)) rfl rfl (by decide) (by decide)) qn))))
      (zf (yg (pv 2)))))))
  · walk_at "ref"
  rintro _ O R ⟨wd,hg,rfl,w1,w2,h1,h2,h⟩
  refine yK (fun ρ' O'=>∃ d,O d=none/\ρ'=[some (.d (.int wd)),some (.d (.int hg)),some (.own d)]/\O' d=some (.dK ((mW ⟨d,d,d⟩ (st0 wd hg fun _ _=>blank 0)).take 6))/\Old O O') (fun R1 hR1=>?_) ?_
  · walk_at "wd"
    exact fun p hp=>⟨_,rfl,by show 6≤15;omega,hR1 _ _ ⟨p,hp,rfl,zc,Old.refl.upd hp⟩⟩
  rintro _ O1 ⟨d,hd0,rfl,hd1,ho1⟩
  refine yK (fun ρ' O'=>ρ'=[some (.d (.int wd)),some (.d (.int hg)),some (.own d)]/\O' d=some (.dK ((mW ⟨d,d,d⟩ (st0 wd hg fun _ _=>blank 0)).take 12))/\Old O O') (fun R1 hR1=>?_) ?_
  · walk_at "wd"
    have dn:∀ p,O1 p=none->d≠p:=fun p hp e=>by rw [<- e,hd1] at hp;cases hp
    exact⟨.inr (.inr ⟨rfl,d,_,rfl,hd1⟩),fun p hp=>⟨_,rfl,by show 6≤15;omega,_,(ze (dn p hp)).trans hd1,dn p hp,by show 6+6≤1000;omega,hR1 _ _ ⟨rfl,zc,(ho1.upd (ho1.new hp)).upd hd0⟩⟩⟩
  rintro _ O2 ⟨rfl,hd2,ho2⟩
  refine yK (fun ρ' O'=>∃ sp,O sp=none/\d≠sp/\ρ'=[some (.d (.int wd)),some (.d (.int hg)),some (.own d)]/\O' d=some (.dK ((mW ⟨sp,sp,sp⟩ (st0 wd hg fun _ _=>blank 0)).take 14))/\O' sp=some (.lst (((stopsI wd).map .int).map .d))/\Old O O') (fun R1 hR1=>?_) ?_
  · walk_at "wd"
    have dn:∀ p,O2 p=none->d≠p:=fun p hp e=>by rw [<- e,hd2] at hp;cases hp
    refine⟨.inr (.inr ⟨rfl,d,_,rfl,hd2⟩),fun p hp=>⟨by omega,by omega,stF,?_,fun sp hsp=>?_⟩⟩
    · intro a ha us hus
      match us,hus with
      |[u],_=>
        refine⟨rfl,rfl,?_⟩
        show 0 < (4:Int)/\if (4+(a:Int))%4 = 0 then some (W.d (.int (4+(a:Int))))=Option.map W.d (if (4+(a:Int))%4 = 0 then some (.int (4+(a:Int))) else none) else none=Option.map W.d (if (4+(a:Int))%4 = 0 then some (.int (4+(a:Int))) else none)
        refine⟨by decide,?_⟩
        split
        · rfl
        · rfl
    · have psp:sp≠p:=fun e=>by rw [e,zc] at hsp;cases hsp
      have sp2:O2 sp=none:=by rw [ze psp] at hsp;exact hsp
      have dp:d≠p:=dn p hp
      have dsp:d≠sp:=dn sp sp2
      refine⟨by rw [ze (Ne.symm psp),zc],_,rfl,by show 2≤15;omega,_,(ze dp).trans ((ze dsp).trans ((ze dp).trans hd2)),dp,by show 12+2≤1000;omega,hR1 _ _ ⟨sp,ho2.new sp2,dsp,rfl,zc,?_,?_⟩⟩
      · rw [ze (Ne.symm dsp),ze psp,zc,za2 w1 w2]
      · exact (((ho2.upd (ho2.new hp)).upd (ho2.new sp2)).upd (ho2.new hp)).upd hd0
  rintro _ O3 ⟨sp,hs0,hne,rfl,hd3,hs3,ho3⟩
  walk_at "wd"
  exact .inl (h d sp O3 hd0 hs0 hne hd3 hs3 ho3)
theorem Uj (F:Fun K "_law_told" "_law_told" qO f fd) (T:Txt K mg C):FnOk P w K mg base CX0 1 f fd ["_law_state"] (zb K (sTold C)):=by
  have nd:=kI.nd
  apply F.okV kI (by rintro _ _ _ ⟨x,dx,p,st,kp,S,rfl,_⟩;rfl) (fun cdv A outer sh H E hr=>(zd (yn (i:=1) nd rfl (Or.inl rfl) (xn (qc (zj (K:=K) rfl (pv 0) rfl) (qc (zj (K:=K) rfl (pv 0) rfl) (qc (zj (K:=K) rfl (pv 0) rfl) (qc (zj (K:=K) rfl (pv 0) rfl) (qc (zj (K:=K) rfl (pv 0) rfl) (qc (zj (K:=K) rfl (pv 0) rfl) (qc (zj (K:=K) rfl (pv 0) rfl) (qc (zj (K:=K) rfl (pv 0) rfl) qn))))))))))
      (zf (yg (zh (j6 (K:=K) rfl) (pv 1) (xn (qc (zj (K:=K) rfl (pv 0) rfl) (qc (zj (K:=K) rfl (pv 0) rfl) (qc (zj (K:=K) rfl (pv 0) rfl) (qc (zj (K:=K) rfl (pv 0) rfl) (qc (zj (K:=K) rfl (pv 0) rfl) (qc (yT (zdc rfl) (by rfl) T.n_sorted (by rfl) (QA.pa (qc (zj (K:=K) rfl (pv 0) rfl) qn))) qn))))))))))))
  · walk_at "ref"
  rintro _ O R ⟨x,dx,p,st,kp,S,rfl,hs,hl,h⟩
  have hx:=hs.x
  walk_at "wd"
  simp [hx,yH,and_assoc,zi,T.st.cl,T.st.n_picture,T.st.n_wide,T.st.n_high,T.st.n_row,T.st.n_column,T.st.n_late,T.st.n_ink,T.st.n_wrap,T.st.n_putting,T.st.n_home,T.st.n_top,T.st.n_bottom,T.st.n_left,T.st.n_right,T.st.n_stops,T.st.n_kept,T.st.n_last,zo,zK,zL,yc,zu,zM,yd,zN,zq,zO,ye,zv,zP,zA,zB,zD,zH,zX,zr,zF,zY,zG,zm,zI,z9,zt,zJ,zz,zQ]
  exact⟨_,rfl,by show 8≤1000;omega,_,hs.st,S.stops,by unfold stK;rw [List.map_map];rfl,hl,_,rfl,by show 6≤1000;omega,_,rfl,_,rfl,_,rfl,_,rfl,by show 8+6≤1000;omega,.inl h⟩
theorem Je (F:Fun K "_law_due" "_law_due" jL f fd) (T:Txt K mg C):FnOk P w K mg base CX0 1 f fd ["_law_m"] (zb K sDue):=by
  have nd:=Zh.nd
  apply F.okV Zh (by rintro _ _ _ ⟨d,A,S,rfl,_⟩;rfl) (fun cdv A outer sh H E hr=>(zd (yn (i:=1) nd rfl (Or.inl rfl) (xn (qc (zl (zw hr) (pv 0) zg (fun _ _=>rfl)) (qc (zl (zw hr) (pv 0) zg (fun _ _=>rfl)) (qc (zl (zw hr) (pv 0) zg (fun _ _=>rfl)) (qc (zl (zw hr) (pv 0) zg (fun _ _=>rfl)) (qc (zl (zw hr) (pv 0) zg (fun _ _=>rfl)) (qc (zl (zw hr) (pv 0) zg (fun _ _=>rfl)) (qc (zl (zw hr) (pv 0) zg (fun _ _=>rfl)) (qc (zl (zw hr) (pv 0) zg (fun _ _=>rfl)) qn))))))))))
      (zf (yg (zh (j6 (K:=K) rfl) (pv 1) (xn (qc (zl (zw hr) (pv 0) zg (fun _ _=>rfl)) (qc (zl (zw hr) (pv 0) zg (fun _ _=>rfl)) (qc (zl (zw hr) (pv 0) zg (fun _ _=>rfl)) (qc (zl (zw hr) (pv 0) zg (fun _ _=>rfl)) (qc (zl (zw hr) (pv 0) zg (fun _ _=>rfl)) (qc (yT (zcZ (K:=K) rfl) (by rfl) T.n_sorted (by rfl) (QA.pa (qc (zl (zw hr) (pv 0) zg (fun _ _=>rfl)) qn))) qn))))))))))))
  · walk_at "ref"
  rintro _ O R ⟨d,A,S,rfl,hm,hl,h⟩
  have hd:=hm.d
  walk_at "wd"
  simp [hd,and_assoc,zi,yB,zc,zy,yo,yp,yC,zU,yq,yD,yr,zV,yt,yE,zW,yu,ya,yb,yv,yy,zR,yi,yz,yj,zS,yk,yA,zT,yl,zZ,z7,ym]
  exact⟨_,rfl,by show 8≤1000;omega,S.stops,by simp only [yN,hm.sp];rw [List.map_map],hl,_,rfl,by show 6≤1000;omega,_,rfl,_,rfl,_,rfl,_,rfl,by show 8+6≤1000;omega,.inl h⟩
theorem Uk (F:Fun K "_law_like" "_law_like" qP f fd) (T:Txt K mg C) (zhg:Cal P w K mg base 1 "_law_told" [] (zb K (sTold C))) (zgZ:Cal P w K mg base 1 "_law_due" [] (zb K sDue)):FnOk P w K mg base CX0 2 f fd ["_law_state","_law_m"] (zb K (sLikeP C)):=by
 apply F.okV Vw (by rintro _ _ _ ⟨x,dx,p,st,kp,d,A,S,ss,rfl,_⟩;rfl) (fun cdv A outer sh H E hr=>(zf (yg (vA yW (yT (UW (K:=K) rfl hr.gd hr.units) (by rfl) T.n_repr (by rfl) (QA.pa (qc (zn zhg (hr.mono (by decide)) rfl (QA.pa (qc (pv 0) qn))) qn))) (yT (UW (K:=K) rfl hr.gd hr.units) (by rfl) T.n_repr (by rfl) (QA.pa (qc (zn zgZ (hr.mono (by decide)) rfl (QA.pa (qc (pv 1) qn))) qn))) (zE _)))))
 ·walk_at "ref"
 rintro _ O R ⟨x,dx,p,st,kp,d,A,S,ss,rfl,hs,hm,hp,hb,hl,hn,h⟩
 obtain⟨a1,a2,a3⟩:=zdd hb hn hl
 have et:=Ko hp
 walk_at "wd"
 have hD:PyData.hasDict (.list (tellL S))=false:=by
  have e:∀ ns:List Int,PyData.hasDictAll (ns.map PyData.int)=false:=fun ns=>by
   induction ns with
   |nil=>rfl
   |cons n ns ih=>simp [PyData.hasDictAll,PyData.hasDict,ih]
  simp [tellL,PyData.hasDict,PyData.hasDictAll,e]
 refine⟨x,dx,p,st,kp,S,rfl,hs,hl,_,rfl,rfl,hD,a1,a2,a3,d,A,_,rfl,hm,by show ss.length < 64;rw [hp.length_eq];exact hl,?_⟩
 rw [et]
 exact⟨_,rfl,rfl,hD,a1,a2,a3,.inl (by rw [decide_eq_true rfl];exact h)⟩
theorem Jf (F:Fun K "roll_up" "roll_up" kC f fd) (T:Txt K mg C) (zhJ:Cal P w K mg base 2 "roll_rows" [] (zb K (sRoll C))):FnOk P w K mg base CX0 3 f fd ["state","first","times"] (zb K (sRoll C)):=by
 apply F.okV Q5 (by rintro _ _ _ ⟨a,s,_,_,x,dx,p,st,kp,S,rfl,_⟩;rfl) (fun cdv A outer sh H E hr=>(zf (yF (zn zhJ (hr.mono (by decide)) rfl (QA.pa (qc (pv 0) (qc (pv 1) (qc (pv 2) qn))))))))
 ·walk_at "ref"
 rintro _ O R ⟨a,s,s1,s2,x,dx,p,st,kp,S,rfl,hs,hp,h⟩
 walk_at "wd"
 exact⟨a,s,s1,s2,x,dx,p,st,kp,S,rfl,hs,hp,fun O' h1 h2=>.inl (h O' h1 h2)⟩
theorem Xd (F:Fun K "move_cells" "move_cells" u8 f fd) (T:Txt K mg C) (zhv:Cal P w K mg base 1 "edges" [] (zb K (sEdges C))) (zhm:Cal P w K mg base 1 "blank_of" [] (zb K (sBlankOf C))):FnOk P w K mg base CX0 2 f fd ["state","step"] (zb K (sMvC C)):=by
  have nd:=jM.nd
  apply F.okV jM (by rintro _ _ _ ⟨s,_,_,x,dx,p,st,kp,S,rfl,_⟩;rfl) (fun cdv A outer sh H E hr=>(zd (yn (i:=2) nd rfl (Or.inl rfl) (yJ (xg (K:=K) rfl) (zn zhv (hr.mono (by decide)) rfl (QA.pa (qc (pv 0) qn))) za (fun _ _=>rfl)))
      (zd (yn (i:=3) nd rfl (Or.inl rfl) (yJ (xB (K:=K) rfl) (zj (K:=K) rfl (pv 0) rfl) (zj (K:=K) rfl (pv 0) rfl) (fun _ _=>rfl)))
      (zd (yn (i:=4) nd rfl (Or.inl rfl) (qr (zbq (K:=K) rfl) (by rfl) T.n_list rfl (QA.pa (qc (pv 3) qn))))
      (zd (xV PassesOwn.never rfl (vz rfl T.n_range (QA.pa (qc (zj (K:=K) rfl (pv 0) rfl) (qc (zh yG (pv 2) za) qn)))) (yx (i:=5) nd rfl (Or.inl rfl))
      (zd (yn (i:=6) nd rfl (Or.inl rfl) (zh yG (pv 5) (pv 1)))
      (zd (yn (i:=7) nd rfl (Or.inl rfl) (Zi xz xz (zj (K:=K) rfl (pv 0) rfl) (pv 6) (pv 2)))
      (zf (xQ (yZ (xH (pv 7)) (yJ (xB (K:=K) rfl) (pv 4) (pv 6) (fun _ _=>rfl)) (zn zhm (hr.mono (by decide)) rfl (QA.pa (qc (pv 0) qn)))) (uA (pv 3) (pv 5) vq))))))
      (zf (yf (K:=K) rfl (pv 0) xa rfl)))))))
  · walk_at "ref"
  rintro _ O R ⟨s,s1,s2,x,dx,p,st,kp,S,rfl,hs,hB,h⟩
  have hx:=hs.x
  have:=hB.h2
  have:=hB.w2
  have:=hB.r0
  have:=hB.r1
  have:=hB.c0
  have eR1:=qv hB
  have e0:=x3 hs.p
  rw [uK] at e0
  have e0b:atI ((List.range S.h).map (W.row p)) S.row=some (W.row p S.row.toNat):=xR hB.r0 hB.r1
  have e0c:=X7 hs.p (i:=S.row.toNat) (by omega)
  have e0d:xq ((List.range S.w).map fun j=>W.d (celD (S.pic S.row.toNat j)))=some ((List.range S.w).map fun j=>celD (S.pic S.row.toNat j)):=by
    have:=xG ((List.range S.w).map fun j=>celD (S.pic S.row.toNat j))
    rw [List.map_map] at this
    exact this
  refine QJ (fun ρ' O'=>ρ'=[some (.own x),some (.d (.int s)),some (.d (.int (eR S))),some (.row p S.row.toNat),some (.d (.list ((List.range S.w).map fun j=>celD (S.pic S.row.toNat j)))),none,none,none]/\O=O') (fun R1 hR1=>?_) ?_
  · walk_at "wd"
    refine⟨x,dx,p,st,kp,S,rfl,hs,?_⟩
    simp [hx,e0,e0b,e0c,e0d,qD,xD,zeV,and_assoc,zi,T.st.cl,T.st.n_picture,T.st.n_wide,T.st.n_high,T.st.n_row,T.st.n_column,T.st.n_late,T.st.n_ink,T.st.n_wrap,T.st.n_putting,T.st.n_home,T.st.n_top,T.st.n_bottom,T.st.n_left,T.st.n_right,T.st.n_stops,T.st.n_kept,T.st.n_last,zo,zK,zL,yc,zu,zM,yd,zN,zq,zO,ye,zv,zP,zA,zB,zD,zH,zX,zr,zF,zY,zG,zm,zI,z9,zt,zJ,zz,zQ]
    exact hR1 _ _ ⟨rfl,rfl⟩
  rintro _ _ ⟨rfl,rfl⟩
  generalize hN:mvP S.pic S.ink S.row S.row S.col (eR S) 0 s=N
  refine yK (fun ρ' O'=>∃ v5 v6 v7,ρ'=[some (.own x),some (.d (.int s)),some (.d (.int (eR S))),some (.row p S.row.toNat),some (.d (.list ((List.range S.w).map fun j=>celD (S.pic S.row.toNat j)))),v5,v6,v7]/\But O O' x p/\StAt O' C x dx p st kp { S with pic:=N }) (fun R1 hR1=>?_) ?_
  · walk_at "wd"
    simp [hx,and_assoc,zi,T.st.cl,T.st.n_picture,T.st.n_wide,T.st.n_high,T.st.n_row,T.st.n_column,T.st.n_late,T.st.n_ink,T.st.n_wrap,T.st.n_putting,T.st.n_home,T.st.n_top,T.st.n_bottom,T.st.n_left,T.st.n_right,T.st.n_stops,T.st.n_kept,T.st.n_last,zo,zK,zL,yc,zu,zM,yd,zN,zq,zO,ye,zv,zP,zA,zB,zD,zH,zX,zr,zF,zY,zG,zm,zI,z9,zt,zJ,zz,zQ]
    refine⟨by omega,by omega,by omega,by omega,?_⟩
    refine xF.rng (fun j ρ O'=>∃ v5 v6 v7,ρ=[some (.own x),some (.d (.int s)),some (.d (.int (eR S))),some (.row p S.row.toNat),some (.d (.list ((List.range S.w).map fun j=>celD (S.pic S.row.toNat j)))),v5,v6,v7]/\But O O' x p/\StAt O' C x dx p st kp { S with pic:=goP N S.pic S.row S.col 0 j }) ⟨_,_,_,rfl,But.refl,?_⟩ ?_ ?_
    · rw [X9 (fun a' b' hab=>by rw [<- hN];exact vC (by omega))]
      exact hs
    · rintro j _ O1 hj ⟨v5,v6,v7,rfl,hb1,hs1⟩ R2 hR2
      have hx1:=hs1.x
      refine yK (fun ρ' O'=>ρ'=[some (.own x),some (.d (.int s)),some (.d (.int (eR S))),some (.row p S.row.toNat),some (.d (.list ((List.range S.w).map fun j=>celD (S.pic S.row.toNat j)))),some (.d (.int (S.col+j))),some (.d (.int (S.col+j+s))),v7]/\O1=O') (fun R3 hR3=>?_) ?_
      · walk_at "wd"
        exact hR3 _ _ ⟨rfl,rfl⟩
      rintro _ _ ⟨rfl,rfl⟩
      refine yK (fun ρ' O'=>ρ'=[some (.own x),some (.d (.int s)),some (.d (.int (eR S))),some (.row p S.row.toNat),some (.d (.list ((List.range S.w).map fun j=>celD (S.pic S.row.toNat j)))),some (.d (.int (S.col+j))),some (.d (.int (S.col+j+s))),some (.d (.bool (decide (S.col≤S.col+j+s/\S.col+j+s≤eR S))))]/\O1=O') (fun R3 hR3=>?_) ?_
      · walk_at "wd"
        simp [hx1,and_assoc,zi,T.st.cl,T.st.n_picture,T.st.n_wide,T.st.n_high,T.st.n_row,T.st.n_column,T.st.n_late,T.st.n_ink,T.st.n_wrap,T.st.n_putting,T.st.n_home,T.st.n_top,T.st.n_bottom,T.st.n_left,T.st.n_right,T.st.n_stops,T.st.n_kept,T.st.n_last,zo,zK,zL,yc,zu,zM,yd,zN,zq,zO,ye,zv,zP,zA,zB,zD,zH,zX,zr,zF,zY,zG,zm,zI,z9,zt,zJ,zz,zQ]
        split
        · rename_i e;exact hR3 _ _ ⟨by simp [e],rfl⟩
        · rename_i e;exact hR3 _ _ ⟨by simp [e],rfl⟩
      rintro _ _ ⟨rfl,rfl⟩
      generalize hin:decide (S.col≤S.col+j+s/\S.col+j+s≤eR S)=ins
      have e3:∀ c,N S.row.toNat (S.col+(j:Int)).toNat=c->uf O1 (.row p S.row.toNat) (S.col+j) (.d (celD c))=some (updO O1 p (.grid (genG S.h S.w (goP N S.pic S.row S.col 0 (j+1))))):=by
        rintro _ rfl
        rw [jx hs1.p (by simp only;omega) (by omega) (by simp only;omega),Va (by omega) (by omega)]
      have nx:∀ v5 v6 v7,R2 [some (.own x),some (.d (.int s)),some (.d (.int (eR S))),some (.row p S.row.toNat),some (.d (.list ((List.range S.w).map fun j=>celD (S.pic S.row.toNat j)))),v5,v6,v7] (updO O1 p (.grid (genG S.h S.w (goP N S.pic S.row S.col 0 (j+1))))):=fun v5 v6 v7=>
        hR2 _ _ ⟨v5,v6,v7,rfl,hb1.trans But.up,hs1.pic (f:=goP N S.pic S.row S.col 0 (j+1))⟩
      cases ins with
      |true=>
        have hin:=of_decide_eq_true hin
        have eN:N S.row.toNat (S.col+(j:Int)).toNat=S.pic S.row.toNat (S.col+j+s).toNat:=by
          rw [<- hN]
          unfold mvP
          rw [if_pos (by omega),if_pos (by omega)]
          unfold atF
          congr 1 <;> first |omega | (congr 1;omega)
        walk_at "wd"
        simp [hx1,e3 _ eN,Ke,X8 (show 0≤S.col+j+s by omega) (show S.col+j+s < S.w by omega),-List.map_map,and_assoc,zi,T.st.cl,T.st.n_picture,T.st.n_wide,T.st.n_high,T.st.n_row,T.st.n_column,T.st.n_late,T.st.n_ink,T.st.n_wrap,T.st.n_putting,T.st.n_home,T.st.n_top,T.st.n_bottom,T.st.n_left,T.st.n_right,T.st.n_stops,T.st.n_kept,T.st.n_last,zo,zK,zL,yc,zu,zM,yd,zN,zq,zO,ye,zv,zP,zA,zB,zD,zH,zX,zr,zF,zY,zG,zm,zI,z9,zt,zJ,zz,zQ]
        exact nx _ _ _
      |false=>
        have hin:=of_decide_eq_false hin
        have eN:N S.row.toNat (S.col+(j:Int)).toNat=blank S.ink:=by
          rw [<- hN]
          unfold mvP
          rw [if_pos (by omega),if_neg (by omega)]
        walk_at "wd"
        refine⟨x,dx,p,st,kp,_,rfl,hs1,?_⟩
        simp [hx1,e3 _ eN,and_assoc,zi,T.st.cl,T.st.n_picture,T.st.n_wide,T.st.n_high,T.st.n_row,T.st.n_column,T.st.n_late,T.st.n_ink,T.st.n_wrap,T.st.n_putting,T.st.n_home,T.st.n_top,T.st.n_bottom,T.st.n_left,T.st.n_right,T.st.n_stops,T.st.n_kept,T.st.n_last,zo,zK,zL,yc,zu,zM,yd,zN,zq,zO,ye,zv,zP,zA,zB,zD,zH,zX,zr,zF,zY,zG,zm,zI,z9,zt,zJ,zz,zQ]
        exact nx _ _ _
    · rintro ρ O2 ⟨v5,v6,v7,rfl,hb2,hs2⟩
      rw [UT (fun a' b' h1 h2=>by rw [<- hN];exact vC (by omega)) (fun a' b' h1 h2=>by rw [<- hN];exact vC (by omega)),UU (fun a' b' h1=>by rw [<- hN];exact vC (by omega))] at hs2
      exact hR1 _ _ ⟨_,_,_,rfl,hb2,hs2⟩
  rintro _ O1 ⟨v5,v6,v7,rfl,hb1,hs1⟩
  have hx1:=hs1.x
  walk_at "wd"
  simp [hx1,yH,and_assoc,zi,T.st.cl,T.st.n_picture,T.st.n_wide,T.st.n_high,T.st.n_row,T.st.n_column,T.st.n_late,T.st.n_ink,T.st.n_wrap,T.st.n_putting,T.st.n_home,T.st.n_top,T.st.n_bottom,T.st.n_left,T.st.n_right,T.st.n_stops,T.st.n_kept,T.st.n_last,zo,zK,zL,yc,zu,zM,yd,zN,zq,zO,ye,zv,zP,zA,zB,zD,zH,zX,zr,zF,zY,zG,zm,zI,z9,zt,zJ,zz,zQ]
  refine .inl (h _ ?_ (hb1.trans But.ux))
  have:=hs1.fld (S':={ S with pic:=N,late:=false }) rfl rfl rfl
  rw [<- hN] at this ⊢
  exact this
theorem VI (F:Fun K "put_cells" "put_cells" qI f fd) (T:Txt K mg C) (zhj:Cal P w K mg base 1 "at_least_one" [] (zb K Zt)) (zhG:Cal P w K mg base 2 "move_cells" [] (zb K (sMvC C))):FnOk P w K mg base CX0 3 f fd ["state","many"] (zb K (sPutC C)):=by
 apply F.okV Vr (by rintro _ _ _ ⟨n,_,x,dx,p,st,kp,S,rfl,_⟩;rfl) (fun cdv A outer sh H E hr=>(zf (yF (zn zhG (hr.mono (by decide)) rfl (QA.pa (qc (pv 0) (qc (Xj XB (zn zhj (hr.mono (by decide)) rfl (QA.pa (qc (pv 1) qn)))) qn)))))))
 ·walk_at "ref"
 rintro _ O R ⟨n,hn,x,dx,p,st,kp,S,rfl,hs,hB,h⟩
 have o1:=@uz n
 have o2:=US hn
 walk_at "wd"
 exact⟨hn,_,by omega,by omega,x,dx,p,st,kp,S,rfl,hs,hB,fun O' h1 h2=>.inl (h O' h1 h2)⟩
theorem Ul (F:Fun K "line_end" "line_end" jJ f fd) (T:Txt K mg C) (zhR:Cal P w K mg base 2 "to_left_edge" [] (zb K (sLeft C))) (zhK:Cal P w K mg base 3 "roll_up" [] (zb K (sRoll C))):FnOk P w K mg base CX0 4 f fd ["state"] (zb K (sLineE C)):=by
  apply F.okV Ua (by rintro _ _ _ ⟨x,dx,p,st,kp,S,rfl,_⟩;rfl) (fun cdv A outer sh H E hr=>(zd (yF (zn zhR (hr.mono (by decide)) rfl (QA.pa (qc (pv 0) qn))))
      (zf (yw (zx yW (zj (K:=K) rfl (pv 0) rfl) (zj (K:=K) rfl (pv 0) rfl) (zE _)) (zf (yF (zn zhK (hr.mono (by decide)) rfl (QA.pa (qc (pv 0) (qc (zj (K:=K) rfl (pv 0) rfl) (qc za qn))))))) (zf (yw (zx vY (zj (K:=K) rfl (pv 0) rfl) (zh yM (zj (K:=K) rfl (pv 0) rfl) za) (zE _)) (zf (yf (K:=K) rfl (pv 0) (zh yG (zj (K:=K) rfl (pv 0) rfl) za) rfl)) yh))))))
  · walk_at "ref"
  rintro _ O R ⟨x,dx,p,st,kp,S,rfl,hs,hB,h⟩
  have hB1:=hB.left
  have:=hB1.tb
  walk_at "wd"
  refine⟨x,dx,p,st,kp,S,rfl,hs,trivial,fun O1 hs1 hb1=>?_⟩
  have hx1:=hs1.x
  simp only [lineE] at h
  simp [hx1,yH,and_assoc,zi,T.st.cl,T.st.n_picture,T.st.n_wide,T.st.n_high,T.st.n_row,T.st.n_column,T.st.n_late,T.st.n_ink,T.st.n_wrap,T.st.n_putting,T.st.n_home,T.st.n_top,T.st.n_bottom,T.st.n_left,T.st.n_right,T.st.n_stops,T.st.n_kept,T.st.n_last,zo,zK,zL,yc,zu,zM,yd,zN,zq,zO,ye,zv,zP,zA,zB,zD,zH,zX,zr,zF,zY,zG,zm,zI,z9,zt,zJ,zz,zQ]
  split
  · rename_i e
    rw [if_pos e] at h
    exact⟨_,1,by decide,by decide,x,dx,p,st,kp,_,rfl,hs1,⟨hB1,hB1.t0,by omega⟩,fun O' h1 h2=>.inl (h O' h1 (hb1.trans h2))⟩
  · rename_i e
    rw [if_neg e] at h
    split
    · rename_i e2
      rw [if_pos e2] at h
      exact .inl (h _ (hs1.fld rfl rfl rfl) (hb1.trans But.ux))
    · rename_i e2
      rw [if_neg e2] at h
      exact .inl (h _ hs1 hb1)
theorem Um (F:Fun K "put_sign" "put_sign" jK f fd) (T:Txt K mg C) (zhE:Cal P w K mg base 4 "line_end" [] (zb K (sLineE C))) (zhH:Cal P w K mg base 3 "put_cells" [] (zb K (sPutC C))) (zhv:Cal P w K mg base 1 "edges" [] (zb K (sEdges C))):FnOk P w K mg base CX0 5 f fd ["state","sign"] (zb K (sPutSign C)):=by
  apply F.okV Ub (by rintro _ _ _ ⟨c,x,dx,p,st,kp,S,rfl,_⟩;rfl) (fun cdv A outer sh H E hr=>(zd (yw (PW.pt (ub (xH (zj (K:=K) rfl (pv 0) rfl)) (vx (xH (zj (K:=K) rfl (pv 0) rfl))))) (zf (yF (zn zhE (hr.mono (by decide)) rfl (QA.pa (qc (pv 0) qn))))) yh)
      (zd (yf (K:=K) rfl (pv 0) xa rfl)
      (zd (yw (xH (zj (K:=K) rfl (pv 0) rfl)) (zf (yF (zn zhH (hr.mono (by decide)) rfl (QA.pa (qc (pv 0) (qc za qn)))))) yh)
      (zd (xQ (yL (qc (pv 1) (qc (zj (K:=K) rfl (pv 0) rfl) qn))) (uA (yJ (xB (K:=K) rfl) (zj (K:=K) rfl (pv 0) rfl) (zj (K:=K) rfl (pv 0) rfl) (fun _ _=>rfl)) (zj (K:=K) rfl (pv 0) rfl) vq))
      (zd (yf (K:=K) rfl (pv 0) (pv 1) rfl)
      (zf (yw (zx vY (zj (K:=K) rfl (pv 0) rfl) (yJ (xg (K:=K) rfl) (zn zhv (hr.mono (by decide)) rfl (QA.pa (qc (pv 0) qn))) za (fun _ _=>rfl)) (zE _)) (zf (yf (K:=K) rfl (pv 0) (zh yG (zj (K:=K) rfl (pv 0) rfl) za) rfl)) (zf (yf (K:=K) rfl (pv 0) (zj (K:=K) rfl (pv 0) rfl) rfl))))))))))
  · walk_at "ref"
  rintro _ O R ⟨c,x,dx,p,st,kp,S,rfl,hs,hB,h⟩
  have hx:=hs.x
  rw [zaL] at h
  refine yK (fun ρ' O'=>ρ'=[some (.own x),some (.d (.str c))]/\But O O' x p/\StAt O' C x dx p st kp (pA S)) (fun R1 hR1=>?_) ?_
  · walk_at "wd"
    simp [hx,yH,and_assoc,zi,T.st.cl,T.st.n_picture,T.st.n_wide,T.st.n_high,T.st.n_row,T.st.n_column,T.st.n_late,T.st.n_ink,T.st.n_wrap,T.st.n_putting,T.st.n_home,T.st.n_top,T.st.n_bottom,T.st.n_left,T.st.n_right,T.st.n_stops,T.st.n_kept,T.st.n_last,zo,zK,zL,yc,zu,zM,yd,zN,zq,zO,ye,zv,zP,zA,zB,zD,zH,zX,zr,zF,zY,zG,zm,zI,z9,zt,zJ,zz,zQ]
    by_cases e:S.late=true/\S.wrap=true
    · rw [pA,if_pos e] at hR1
      simp [e.1,e.2]
      exact⟨x,dx,p,st,kp,S,rfl,hs,hB,fun O' h1 h2=>hR1 _ _ ⟨rfl,h2,h1⟩⟩
    · rw [pA,if_neg e] at hR1
      have:=hR1 _ _ ⟨rfl,But.refl,hs⟩
      cases hl:S.late <;> cases hw:S.wrap <;> simp [hl,hw] at e ⊢ <;> exact this
  rintro _ O1 ⟨rfl,hb1,hs1⟩
  have hB1:Bds (pA S):=hB.pA
  refine yK (fun ρ' O'=>ρ'=[some (.own x),some (.d (.str c))]/\But O O' x p/\StAt O' C x dx p st kp (pB (pA S))) (fun R1 hR1=>?_) ?_
  · have hx1:=hs1.x
    walk_at "wd"
    simp [hx1,yH,and_assoc,zi,T.st.cl,T.st.n_picture,T.st.n_wide,T.st.n_high,T.st.n_row,T.st.n_column,T.st.n_late,T.st.n_ink,T.st.n_wrap,T.st.n_putting,T.st.n_home,T.st.n_top,T.st.n_bottom,T.st.n_left,T.st.n_right,T.st.n_stops,T.st.n_kept,T.st.n_last,zo,zK,zL,yc,zu,zM,yd,zN,zq,zO,ye,zv,zP,zA,zB,zD,zH,zX,zr,zF,zY,zG,zm,zI,z9,zt,zJ,zz,zQ]
    exact hR1 _ _ ⟨rfl,hb1.trans But.ux,hs1.fld (S':=pB (pA S)) rfl rfl rfl⟩
  rintro _ O2 ⟨rfl,hb2,hs2⟩
  have hB2:=hB1.pB
  generalize pB (pA S)=S2 at *
  refine yK (fun ρ' O'=>ρ'=[some (.own x),some (.d (.str c))]/\But O O' x p/\StAt O' C x dx p st kp (pC S2)) (fun R1 hR1=>?_) ?_
  · have hx2:=hs2.x
    walk_at "wd"
    simp [hx2,yH,and_assoc,zi,T.st.cl,T.st.n_picture,T.st.n_wide,T.st.n_high,T.st.n_row,T.st.n_column,T.st.n_late,T.st.n_ink,T.st.n_wrap,T.st.n_putting,T.st.n_home,T.st.n_top,T.st.n_bottom,T.st.n_left,T.st.n_right,T.st.n_stops,T.st.n_kept,T.st.n_last,zo,zK,zL,yc,zu,zM,yd,zN,zq,zO,ye,zv,zP,zA,zB,zD,zH,zX,zr,zF,zY,zG,zm,zI,z9,zt,zJ,zz,zQ]
    cases hl:S2.putting
    · rw [pC,hl] at hR1
      simp
      exact hR1 _ _ ⟨rfl,hb2,hs2⟩
    · rw [pC,hl,if_pos rfl] at hR1
      simp
      exact⟨.int 1,⟨by decide,by decide⟩,x,dx,p,st,kp,S2,rfl,hs2,hB2,fun O' h1 h2=>hR1 _ _ ⟨rfl,hb2.trans h2,h1⟩⟩
  rintro _ O3 ⟨rfl,hb3,hs3⟩
  have hB3:=hB2.pC
  generalize pC S2=S3 at *
  refine yK (fun ρ' O'=>ρ'=[some (.own x),some (.d (.str c))]/\But O O' x p/\StAt O' C x dx p st kp (pD c S3)) (fun R1 hR1=>?_) ?_
  · have hx3:=hs3.x
    have:=hB3.r0
    have:=hB3.r1
    have e1:=x3 hs3.p
    rw [uK] at e1
    have e2:atI ((List.range S3.h).map (W.row p)) S3.row=some (W.row p S3.row.toNat):=xR hB3.r0 hB3.r1
    have e3:uf O3 (.row p S3.row.toNat) S3.col (.d (.tuple [.str c,.int S3.ink]))=_:=jx (c:=(c,S3.ink)) hs3.p (by omega) hB3.c0 hB3.c1
    walk_at "wd"
    simp [hx3,e1,e2,e3,xq,and_assoc,zi,T.st.cl,T.st.n_picture,T.st.n_wide,T.st.n_high,T.st.n_row,T.st.n_column,T.st.n_late,T.st.n_ink,T.st.n_wrap,T.st.n_putting,T.st.n_home,T.st.n_top,T.st.n_bottom,T.st.n_left,T.st.n_right,T.st.n_stops,T.st.n_kept,T.st.n_last,zo,zK,zL,yc,zu,zM,yd,zN,zq,zO,ye,zv,zP,zA,zB,zD,zH,zX,zr,zF,zY,zG,zm,zI,z9,zt,zJ,zz,zQ]
    exact hR1 _ _ ⟨rfl,hb3.trans But.up,hs3.pic⟩
  rintro _ O4 ⟨rfl,hb4,hs4⟩
  have hB4:Bds (pD c S3):=hB3.pD
  generalize pD c S3=S4 at *
  have hx4:=hs4.x
  refine yK (fun ρ' O'=>ρ'=[some (.own x),some (.d (.str c))]/\But O O' x p/\StAt O' C x dx p st kp (pE c S4)) (fun R1 hR1=>?_) ?_
  · walk_at "wd"
    simp [hx4,yH,and_assoc,zi,T.st.cl,T.st.n_picture,T.st.n_wide,T.st.n_high,T.st.n_row,T.st.n_column,T.st.n_late,T.st.n_ink,T.st.n_wrap,T.st.n_putting,T.st.n_home,T.st.n_top,T.st.n_bottom,T.st.n_left,T.st.n_right,T.st.n_stops,T.st.n_kept,T.st.n_last,zo,zK,zL,yc,zu,zM,yd,zN,zq,zO,ye,zv,zP,zA,zB,zD,zH,zX,zr,zF,zY,zG,zm,zI,z9,zt,zJ,zz,zQ]
    exact hR1 _ _ ⟨rfl,hb4.trans But.ux,hs4.fld (S':=pE c S4) rfl rfl rfl⟩
  rintro _ O5 ⟨rfl,hb5,hs5⟩
  generalize pE c S4=S5 at *
  have hx5:=hs5.x
  simp only [pF] at h
  walk_at "wd"
  simp [hx5,yH,and_assoc,zi,T.st.cl,T.st.n_picture,T.st.n_wide,T.st.n_high,T.st.n_row,T.st.n_column,T.st.n_late,T.st.n_ink,T.st.n_wrap,T.st.n_putting,T.st.n_home,T.st.n_top,T.st.n_bottom,T.st.n_left,T.st.n_right,T.st.n_stops,T.st.n_kept,T.st.n_last,zo,zK,zL,yc,zu,zM,yd,zN,zq,zO,ye,zv,zP,zA,zB,zD,zH,zX,zr,zF,zY,zG,zm,zI,z9,zt,zJ,zz,zQ]
  refine⟨x,dx,p,st,kp,S5,rfl,hs5,?_⟩
  simp [hx5,zeV,yH,and_assoc,zi,T.st.cl,T.st.n_picture,T.st.n_wide,T.st.n_high,T.st.n_row,T.st.n_column,T.st.n_late,T.st.n_ink,T.st.n_wrap,T.st.n_putting,T.st.n_home,T.st.n_top,T.st.n_bottom,T.st.n_left,T.st.n_right,T.st.n_stops,T.st.n_kept,T.st.n_last,zo,zK,zL,yc,zu,zM,yd,zN,zq,zO,ye,zv,zP,zA,zB,zD,zH,zX,zr,zF,zY,zG,zm,zI,z9,zt,zJ,zz,zQ]
  split
  · rename_i e
    rw [if_pos e] at h
    exact .inl (h _ (hs5.fld rfl rfl rfl) (hb5.trans But.ux))
  · rename_i e
    rw [if_neg e] at h
    exact .inl (h _ (hs5.fld rfl rfl rfl) (hb5.trans But.ux))
theorem YF (F:Fun K "wipe_places" "wipe_places" ui f fd) (T:Txt K mg C) (zhm:Cal P w K mg base 1 "blank_of" [] (zb K (sBlankOf C))):FnOk P w K mg base CX0 2 f fd ["state","first","behind"] (zb K (QX C)):=by
  have nd:=je.nd
  apply F.okV je (by rintro _ _ _ ⟨a,b,_,_,_,_,x,dx,p,st,kp,S,rfl,_⟩;rfl) (fun cdv A outer sh H E hr=>(zd (xV PassesOwn.never rfl (vz rfl T.n_range (QA.pa (qc (pv 1) (qc (pv 2) qn)))) (yx (i:=3) nd rfl (Or.inl rfl))
      (zf (xQ (zn zhm (hr.mono (by decide)) rfl (QA.pa (qc (pv 0) qn))) (uA (yJ (xB (K:=K) rfl) (zj (K:=K) rfl (pv 0) rfl) (zh yV (pv 3) (zj (K:=K) rfl (pv 0) rfl)) (fun _ _=>rfl)) (zh yQ (pv 3) (zj (K:=K) rfl (pv 0) rfl)) vq))))
      (zf (yf (K:=K) rfl (pv 0) xa rfl))))
  · walk_at "ref"
  rintro _ O R ⟨a,b,a0,a1,b0,b1,x,dx,p,st,kp,S,rfl,hs,⟨hB,hb⟩,h⟩
  have hx:=hs.x
  have w1:=hB.w1
  have w2:=hB.w2
  have h2:=hB.h2
  refine yK (fun ρ' O'=>∃ v,ρ'=[some (.own x),some (.d (.int a)),some (.d (.int b)),v]/\But O O' x p/\StAt O' C x dx p st kp { S with pic:=vQ S.pic S.ink S.w a b }) (fun R1 hR1=>?_) ?_
  · walk_at "wd"
    refine⟨by omega,by omega,by omega,by omega,?_⟩
    refine xF.rng (fun i ρ O'=>∃ v,ρ=[some (.own x),some (.d (.int a)),some (.d (.int b)),v]/\But O O' x p/\StAt O' C x dx p st kp { S with pic:=vQ S.pic S.ink S.w a (a+i) }) ⟨_,rfl,But.refl,?_⟩ ?_ ?_
    · rw [show a+((0:Nat):Int)=a by omega,Vj]
      exact hs
    · rintro i _ O1 hi ⟨v,rfl,hb1,hs1⟩ R2 hR2
      have hx1:=hs1.x
      have e0:=x3 hs1.p
      rw [uK] at e0
      have hlt:a+i < (S.h:Int)*S.w:=by omega
      have q0:0≤(a+i) / (S.w:Int):=Int.ediv_nonneg (by omega) (by omega)
      have q1:(a+i) / (S.w:Int) < S.h:=Int.ediv_lt_of_lt_mul (by omega) hlt
      have q2:0≤(a+i)%(S.w:Int):=Int.emod_nonneg _ (by omega)
      have q3:(a+i)%(S.w:Int) < S.w:=Int.emod_lt_of_pos _ (by omega)
      have e1:atI ((List.range S.h).map (W.row p)) ((a+i) / (S.w:Int))=some (W.row p ((a+i) / (S.w:Int)).toNat):=xR q0 q1
      have e2:=jx (c:=blank S.ink) hs1.p (i:=((a+i) / (S.w:Int)).toNat) (k:=(a+i)%(S.w:Int)) (by simp only;omega) q2 q3
      have e3:=Km (f:=S.pic) (k:=S.ink) (w:=S.w) (a:=a) (b:=a+i) (by omega) (by omega) w1
      walk_at "wd"
      refine⟨x,dx,p,st,kp,_,rfl,hs1,?_⟩
      rw [e3] at e2
      have cd:zdX (a+i) (S.w:Int):=⟨by omega,by omega⟩
      simp [hx1,e0,e1,e2,cd,and_assoc,zi,T.st.cl,T.st.n_picture,T.st.n_wide,T.st.n_high,T.st.n_row,T.st.n_column,T.st.n_late,T.st.n_ink,T.st.n_wrap,T.st.n_putting,T.st.n_home,T.st.n_top,T.st.n_bottom,T.st.n_left,T.st.n_right,T.st.n_stops,T.st.n_kept,T.st.n_last,zo,zK,zL,yc,zu,zM,yd,zN,zq,zO,ye,zv,zP,zA,zB,zD,zH,zX,zr,zF,zY,zG,zm,zI,z9,zt,zJ,zz,zQ]
      refine⟨by omega,hR2 _ _ ⟨_,rfl,hb1.trans But.up,?_⟩⟩
      rw [show a+((i+1:Nat):Int)=a+i+1 by omega]
      exact hs1.pic (f:=vQ S.pic S.ink S.w a (a+i+1))
    · rintro _ O1 ⟨v,rfl,hb1,hs1⟩
      refine hR1 _ _ ⟨_,rfl,hb1,?_⟩
      by_cases hab:a≤b
      · rw [show a+(((b - a).toNat:Nat):Int)=b by omega] at hs1
        exact hs1
      · rw [show a+(((b - a).toNat:Nat):Int)=a by omega,Vj] at hs1
        rw [zdk (by omega)]
        exact hs1
  rintro _ O1 ⟨v,rfl,hb1,hs1⟩
  have hx1:=hs1.x
  walk_at "wd"
  simp [hx1,yH,and_assoc,zi,T.st.cl,T.st.n_picture,T.st.n_wide,T.st.n_high,T.st.n_row,T.st.n_column,T.st.n_late,T.st.n_ink,T.st.n_wrap,T.st.n_putting,T.st.n_home,T.st.n_top,T.st.n_bottom,T.st.n_left,T.st.n_right,T.st.n_stops,T.st.n_kept,T.st.n_last,zo,zK,zL,yc,zu,zM,yd,zN,zq,zO,ye,zv,zP,zA,zB,zD,zH,zX,zr,zF,zY,zG,zm,zI,z9,zt,zJ,zz,zQ]
  exact .inl (h _ (hs1.fld (S':=Zx a b S) rfl rfl rfl) (hb1.trans But.ux))
theorem zdr (F:Fun K "wipe" "wipe" Vs f fd) (T:Txt K mg C) (zhW:Cal P w K mg base 2 "wipe_places" [] (zb K (QX C))):FnOk P w K mg base CX0 3 f fd ["state","way"] (zb K (QY C)):=by
  have nd:=U0.nd
  apply F.okV U0 (by rintro _ _ _ ⟨x,dx,p,st,kp,S,m,rfl,_⟩;rfl) (fun cdv A outer sh H E hr=>(zd (yn (i:=2) nd rfl (Or.inl rfl) (zh xM (zj (K:=K) rfl (pv 0) rfl) (zj (K:=K) rfl (pv 0) rfl)))
      (zd (yn (i:=3) nd rfl (Or.inl rfl) (zh yG (pv 2) (zj (K:=K) rfl (pv 0) rfl)))
      (zd (yn (i:=4) nd rfl (Or.inl rfl) (zh yG (pv 2) (zj (K:=K) rfl (pv 0) rfl)))
      (zd (yn (i:=5) nd rfl (Or.inl rfl) (zh xM (zj (K:=K) rfl (pv 0) rfl) (zj (K:=K) rfl (pv 0) rfl)))
      (zd (yn (i:=6) nd rfl (Or.inl rfl) (qV (yR za (yL (qc (pv 4) (qc (pv 3) qn))) (yR za (yL (qc (pv 2) (qc (zh yG (pv 4) za) qn))) (yR za (yL (qc (pv 2) (qc (pv 3) qn))) (yR za (yL (qc (pv 4) (qc (pv 5) qn))) (yR za (yL (qc za (qc (zh yG (pv 4) za) qn))) (yR za (yL (qc za (qc (pv 5) qn))) qU)))))) rfl rfl (by decide) (by decide)))
      (zd (yn (i:=7) nd rfl (Or.inl rfl) (K8 (zw hr) (pv 6) (yZ (zx XC (pv 1) xo (zE _)) za (pv 1)) (yL (qc za (qc za qn))) ⟨rfl,rfl,rfl,rfl⟩))
      (zf (yF (zn zhW (hr.mono (by decide)) rfl (QA.pa (qc (pv 0) (qc (yJ (xg (K:=K) rfl) (pv 7) za (fun _ _=>rfl)) (qc (yJ (xg (K:=K) rfl) (pv 7) za (fun _ _=>rfl)) qn))))))))))))))
  · walk_at "ref"
  rintro _ O R ⟨x,dx,p,st,kp,S,m,rfl,hm,hs,hB,h⟩
  have hx:=hs.x
  obtain⟨q0,q1,q2⟩:=zfc hB
  have w2:=hB.w2
  have h2:=hB.h2
  have r0:=hB.r0
  have r1:=hB.r1
  refine qw (fun ρ' O'=>ρ'=[some (.own x),some (.d m),some (.d (.int (S.row*S.w))),some (.d (.int (S.row*S.w+S.w))),none,none,none,none]/\O=O') (fun R1 hR1=>?_) ?_
  · walk_at "wd"
    simp [hx,and_assoc,zi,T.st.cl,T.st.n_picture,T.st.n_wide,T.st.n_high,T.st.n_row,T.st.n_column,T.st.n_late,T.st.n_ink,T.st.n_wrap,T.st.n_putting,T.st.n_home,T.st.n_top,T.st.n_bottom,T.st.n_left,T.st.n_right,T.st.n_stops,T.st.n_kept,T.st.n_last,zo,zK,zL,yc,zu,zM,yd,zN,zq,zO,ye,zv,zP,zA,zB,zD,zH,zX,zr,zF,zY,zG,zm,zI,z9,zt,zJ,zz,zQ]
    exact⟨mulL (by omega) (by omega),hR1 _ _ ⟨rfl,rfl⟩⟩
  rintro _ _ ⟨rfl,rfl⟩
  refine qw (fun ρ' O'=>ρ'=[some (.own x),some (.d m),some (.d (.int (S.row*S.w))),some (.d (.int (S.row*S.w+S.w))),some (.d (.int (S.row*S.w+S.col))),some (.d (.int (S.w*S.h))),none,none]/\O=O') (fun R1 hR1=>?_) ?_
  · walk_at "wd"
    simp [hx,and_assoc,zi,T.st.cl,T.st.n_picture,T.st.n_wide,T.st.n_high,T.st.n_row,T.st.n_column,T.st.n_late,T.st.n_ink,T.st.n_wrap,T.st.n_putting,T.st.n_home,T.st.n_top,T.st.n_bottom,T.st.n_left,T.st.n_right,T.st.n_stops,T.st.n_kept,T.st.n_last,zo,zK,zL,yc,zu,zM,yd,zN,zq,zO,ye,zv,zP,zA,zB,zD,zH,zX,zr,zF,zY,zG,zm,zI,z9,zt,zJ,zz,zQ]
    exact⟨mulL (by omega) (by omega),hR1 _ _ ⟨rfl,rfl⟩⟩
  rintro _ _ ⟨rfl,rfl⟩
  refine yK (fun ρ' O'=>∃ b,O b=none/\ρ'=[some (.own x),some (.d m),some (.d (.int (S.row*S.w))),some (.d (.int (S.row*S.w+S.w))),some (.d (.int (S.row*S.w+S.col))),some (.d (.int (S.w*S.h))),some (.own b),none]/\O'=updO O b (.dK [(Sum.inl 0,.d (.tuple [.int (S.row*S.w+S.col),.int (S.row*S.w+S.w)])),(Sum.inl 1,.d (.tuple [.int (S.row*S.w),.int (S.row*S.w+S.col+1)])),(Sum.inl 2,.d (.tuple [.int (S.row*S.w),.int (S.row*S.w+S.w)])),(Sum.inl 3,.d (.tuple [.int (S.row*S.w+S.col),.int (S.w*S.h)])),(Sum.inl 4,.d (.tuple [.int 0,.int (S.row*S.w+S.col+1)])),(Sum.inl 5,.d (.tuple [.int 0,.int (S.w*S.h)]))])) (fun R1 hR1=>?_) ?_
  · walk_at "wd"
    intro b hb
    exact⟨_,rfl,by show (6:Nat)≤15;decide,hR1 _ _ ⟨b,hb,rfl,rfl⟩⟩
  rintro _ O1 ⟨b,hb,rfl,rfl⟩
  have ob:Old O (updO O b (.dK [(Sum.inl 0,.d (.tuple [.int (S.row*S.w+S.col),.int (S.row*S.w+S.w)])),(Sum.inl 1,.d (.tuple [.int (S.row*S.w),.int (S.row*S.w+S.col+1)])),(Sum.inl 2,.d (.tuple [.int (S.row*S.w),.int (S.row*S.w+S.w)])),(Sum.inl 3,.d (.tuple [.int (S.row*S.w+S.col),.int (S.w*S.h)])),(Sum.inl 4,.d (.tuple [.int 0,.int (S.row*S.w+S.col+1)])),(Sum.inl 5,.d (.tuple [.int 0,.int (S.w*S.h)]))])):=Old.refl.upd hb
  refine yK (fun ρ' O'=>ρ'=[some (.own x),some (.d m),some (.d (.int (S.row*S.w))),some (.d (.int (S.row*S.w+S.w))),some (.d (.int (S.row*S.w+S.col))),some (.d (.int (S.w*S.h))),some (.own b),some (.d (.tuple [.int (spI (Vk m) S).1,.int (spI (Vk m) S).2]))]/\Old O O') (fun R1 hR1=>?_) ?_
  · have key:∀ y:Int,(xJ [((Sum.inl 0:Key),W.d (.tuple [.int (S.row*S.w+S.col),.int (S.row*S.w+S.w)])),(Sum.inl 1,.d (.tuple [.int (S.row*S.w),.int (S.row*S.w+S.col+1)])),(Sum.inl 2,.d (.tuple [.int (S.row*S.w),.int (S.row*S.w+S.w)])),(Sum.inl 3,.d (.tuple [.int (S.row*S.w+S.col),.int (S.w*S.h)])),(Sum.inl 4,.d (.tuple [.int 0,.int (S.row*S.w+S.col+1)])),(Sum.inl 5,.d (.tuple [.int 0,.int (S.w*S.h)]))] (Sum.inl y)).getD (.d (.tuple [.int 0,.int 0]))=.d (.tuple [.int (spI y S).1,.int (spI y S).2]):=fun y=>by
      unfold spI xJ
      by_cases e0:y= 0
      · subst e0;rfl
      by_cases e1:y= 1
      · subst e1;rfl
      by_cases e2:y= 2
      · subst e2;rfl
      by_cases e3:y= 3
      · subst e3;rfl
      by_cases e4:y= 4
      · subst e4;rfl
      by_cases e5:y= 5
      · subst e5;rfl
      simp [e0,e1,e2,e3,e4,e5,List.find?_cons,Ne.symm e0,Ne.symm e1,Ne.symm e2,Ne.symm e3,Ne.symm e4,Ne.symm e5]
    rcases hm.cs with rfl | ⟨i,rfl,_,_⟩
    · walk_at "wd"
      simp only [key]
      exact hR1 _ _ ⟨rfl,ob⟩
    · walk_at "wd"
      simp only [key]
      exact hR1 _ _ ⟨rfl,ob⟩
  rintro _ O2 ⟨rfl,o2⟩
  obtain⟨i0,i1,i2,i3,i4⟩:=zfd hB (Vk m)
  walk_at "wd"
  refine⟨_,rfl,_,rfl,_,_,i0,i1,i2,i3,x,dx,p,st,kp,S,rfl,hs.old o2,⟨hB,by rw [Int.mul_comm];exact i4⟩,fun O' h1 h2=>.inl (h O' h1 fun c c1 c2 c3=>?_)⟩
  rw [h2 c c1 c2]
  exact o2 c c3
end
theorem VJ {wd hg:Nat}{g:PF}(w1:1≤wd) (w2:wd≤24) (h1:1≤hg) (h2:hg≤12):Bds (st0 wd hg g):=by
 constructor <;> simp only [st0] <;> first |decide |omega
section
variable {P:Program}{w:World}{K:W.Frag}{mg:Str->Option Value}{base:Heap}{f C:Addr}{fd:FuncData}
theorem Uo (F:Fun K "set_stop" "set_stop" jH f fd) (T:Txt K mg C):FnOk P w K mg base CX0 1 f fd ["state"] (zb K (sSetStop C)):=by
 apply F.okV V9 (by rintro _ _ _ ⟨x,dx,p,st,kp,S,rfl,_⟩;rfl) (fun cdv A outer sh H E hr=>(zf (yU (zw hr) (zj (K:=K) rfl (pv 0) rfl) (zj (K:=K) rfl (pv 0) rfl) xa rfl)))
 ·walk_at "ref"
 rintro _ O R ⟨x,dx,p,st,kp,S,rfl,hs,hl,h⟩
 have hx:=hs.x
 have hst:=hs.st
 walk_at "wd"
 simp [hx,hst,yH,and_assoc,zi,T.st.cl,T.st.n_picture,T.st.n_wide,T.st.n_high,T.st.n_row,T.st.n_column,T.st.n_late,T.st.n_ink,T.st.n_wrap,T.st.n_putting,T.st.n_home,T.st.n_top,T.st.n_bottom,T.st.n_left,T.st.n_right,T.st.n_stops,T.st.n_kept,T.st.n_last,zo,zK,zL,yc,zu,zM,yd,zN,zq,zO,ye,zv,zP,zA,zB,zD,zH,zX,zr,zF,zY,zG,zm,zI,z9,zt,zJ,zz,zQ]
 refine⟨by simp [stK];omega,.inl (h _ ⟨by rw [ze hs.xs];exact hs.x,by rw [ze hs.ps];exact hs.p,by rw [zc,Kn];rfl,by rw [ze (neW hs.kp hs.st (by intro h;cases h))];exact hs.kp⟩ (ButO.upd (by simp)))⟩
theorem Xe (F:Fun K "begin_anew" "begin_anew" u9 f fd) (T:Txt K mg C) (zgU:CalT P w K mg base 2 "begin" C (zb K (k6 C))) (zhV:Cal P w K mg base 3 "wipe" [] (zb K (QY C))):FnOk P w K mg base CX0 4 f fd ["state"] (zb K (sAnew C)):=by
  apply F.okV Y5 (by rintro _ _ _ ⟨x,dx,p,st,kp,S,rfl,_⟩;rfl) (fun cdv A outer sh H E hr=>(zd (yF (UI zgU (hr.mono (by decide)) (pv 0)))
      (zf (yF (zn zhV (hr.mono (by decide)) rfl (QA.pa (qc (pv 0) (qc za qn))))))))
  · walk_at "ref"
  rintro _ O R ⟨x,dx,p,st,kp,S,rfl,hs,hB,h⟩
  have hx:=hs.x
  walk_at "wd"
  simp [hx,yH,and_assoc,zi,T.st.cl,T.st.n_picture,T.st.n_wide,T.st.n_high,T.st.n_row,T.st.n_column,T.st.n_late,T.st.n_ink,T.st.n_wrap,T.st.n_putting,T.st.n_home,T.st.n_top,T.st.n_bottom,T.st.n_left,T.st.n_right,T.st.n_stops,T.st.n_kept,T.st.n_last,zo,zK,zL,yc,zu,zM,yd,zN,zq,zO,ye,zv,zP,zA,zB,zD,zH,zX,zr,zF,zY,zG,zm,zI,z9,zt,zJ,zz,zQ]
  refine⟨?_,.inr ⟨x,dx,p,st,kp,S,rfl,hs,hB.w1,hB.w2,fun st' kp' O1 q1 q2 q3 q4=>⟨x,dx,p,st',kp',_,.int 5,rfl,⟨by decide,by decide⟩,q3,VJ hB.w1 hB.w2 hB.h1 hB.h2,fun O2 q5 q6=>.inl (h st' kp' O2 q1 q2 q5 fun b hb h0=>?_)⟩⟩⟩
  · intro a b hab
    simp only [fldW,List.mem_cons,Prod.mk.injEq,List.not_mem_nil,or_false] at hab
    rcases hab with⟨rfl,_⟩ | ⟨rfl,_⟩ | ⟨rfl,_⟩ | ⟨rfl,_⟩ | ⟨rfl,_⟩ | ⟨rfl,_⟩ | ⟨rfl,_⟩ | ⟨rfl,_⟩ | ⟨rfl,_⟩ | ⟨rfl,_⟩ | ⟨rfl,_⟩ | ⟨rfl,_⟩ | ⟨rfl,_⟩ | ⟨rfl,_⟩ | ⟨rfl,_⟩ | ⟨rfl,_⟩ | ⟨rfl,_⟩ <;> decide +kernel
  · have b1:b≠x:=fun e=>hb (by simp [e])
    have b2:b≠p:=fun e=>hb (by simp [e])
    have b3:b≠st':=fun e=>h0 (by rw [e];exact q1)
    have b4:b≠kp':=fun e=>h0 (by rw [e];exact q2)
    have e:=q4 b b1 b3 b4
    rw [q6 b b1 b2 (by rw [e];exact h0),e]
end
theorem U2 (c:Int):∀ l:List Int,List.filterMap (fun v=>match v with |W.d (PyData.int i)=>if i=c then none else some (PyData.int i) |_=>none) (List.map W.d (List.map PyData.int l))=(l.filter (fun i=>decide (i≠c))).map PyData.int
 |[]=>rfl
 |a :: l=>by
  have ih:=U2 c l
  by_cases e:a=c
  ·simp only [List.map_cons,List.filterMap_cons,e,if_true,List.filter_cons,ne_eq,not_true_eq_false,decide_false,Bool.false_eq_true,if_false]
   exact ih
  ·simp only [List.map_cons,List.filterMap_cons,e,if_false,List.filter_cons,ne_eq,not_false_eq_true,decide_true,if_true]
   rw [ih]
section
variable {P:Program}{w:World}{K:W.Frag}{mg:Str->Option Value}{base:Heap}{f C:Addr}{fd:FuncData}
theorem VL (F:Fun K "_law_blank" "_law_blank" qk f fd) (T:Txt K mg C):FnOk P w K mg base CX0 1 f fd ["_law_m"] (zb K sBlankM):=by
 apply F.okV Y7 (by rintro _ _ _ ⟨d,A,S,rfl,_⟩;rfl) (fun cdv A outer sh H E hr=>(zf (yg (yL (qc zg (qc (zl (zw hr) (pv 0) zg (fun _ _=>rfl)) qn))))))
 ·walk_at "ref"
 rintro _ O R ⟨d,A,S,rfl,hd,h⟩
 walk_at "wd"
 simp [hd,and_assoc,zi,yB,zc,zy,yo,yp,yC,zU,yq,yD,yr,zV,yt,yE,zW,yu,ya,yb,yv,yy,zR,yi,yz,yj,zS,yk,yA,zT,yl,zZ,z7,ym]
 exact⟨_,⟨_,rfl,rfl⟩,by show 2≤1000;omega,.inl h⟩
theorem ZB (F:Fun K "_law_stops_set" "_law_stops_set" vt f fd) (T:Txt K mg C):FnOk P w K mg base CX0 1 f fd ["_law_m","_law_letter"] (zb K sStopsM):=by
  have nd:=ur.nd
  apply F.okV ur (by rintro _ _ _ ⟨d,A,S,rfl,_⟩;rfl) (fun cdv A outer sh H E hr=>(zd (yU (zw hr) (pv 0) zg (X3 (qB (N:=["_law_column","_law_letter","_law_m"]) (n:=1) (js:=[1,0])) rfl (jw (K:=K) rfl (zl (zw hr) (pv 0) zg (fun _ _=>rfl))) (fun _ _ _ _=>(yx (i:=0) (show List.Nodup (["_law_column","_law_letter","_law_m"]:List Str) by decide +kernel) rfl (Or.inl rfl))) (fun _ _ _ _=>(UB (PW.pt (ub (zx Qd (pv 1) zg (zE _)) (vx (zx Qd (pv 0) (zl (zw hr) (pv 2) zg (fun _ _=>rfl)) (zE _))))))) (fun _ _ _ _=>(pv 0))) rfl)
      (zf (yw (zx yW (pv 1) zg (zE _)) (zf (yF (ue (K:=K) rfl PySem.F.plainAttrs_list PySem.F.slot_list_append PySem.F.type_list_append j4 (zl (zw hr) (pv 0) zg (fun _ _=>rfl)) (QA.pa (qc (zl (zw hr) (pv 0) zg (fun _ _=>rfl)) qn))))) yh))))
  · walk_at "ref"
  rintro _ O R ⟨d,A,S,rfl,hm,hk,hl,h⟩
  have hd:=hm.d
  have hsp:=hm.sp
  refine yK (fun ρ' O'=>∃ sp,O sp=none/\ρ'=[some (.own d),some (.d (.str ⟨#[116]⟩))]/\MAt O' d { A with sp:=sp } { S with stops:=S.stops.filter (fun i=>decide (i≠S.col)) }/\ButO O O' [d]) (fun R1 hR1=>?_) ?_
  · walk_at "wd"
    simp [hd,and_assoc,zi,yB,zc,zy,yo,yp,yC,zU,yq,yD,yr,zV,yt,yE,zW,yu,ya,yb,yv,yy,zR,yi,yz,yj,zS,yk,yA,zT,yl,zZ,z7,ym]
    refine⟨(S.stops.map .int).map .d,by simp only [yN,hsp],by simp;omega,fun v=>match v with |.d (.int i)=>if i=S.col then none else some (.int i) |_=>none,?_,?_⟩
    · intro w hw us hus
      obtain⟨y,hy,rfl⟩:=List.mem_map.1 hw
      obtain⟨i,hi,rfl⟩:=List.mem_map.1 hy
      match us,hus with
      |[u],_=>
        refine⟨rfl,rfl,?_⟩
        have ne:¬ ((⟨#[116]⟩:Str)=Str.ofString "U"):=by decide +kernel
        by_cases e:i=S.col <;> simp [ne,hd,e,and_assoc,zi,yB,zc,zy,yo,yp,yC,zU,yq,yD,yr,zV,yt,yE,zW,yu,ya,yb,yv,yy,zR,yi,yz,yj,zS,yk,yA,zT,yl,zZ,z7,ym,scD,vOf,jU]
    · intro p hp
      have dp:d≠p:=fun e=>by rw [<- e,hd] at hp;cases hp
      have kp:A.kq≠p:=fun e=>by rw [<- e,hm.kq] at hp;cases hp
      refine⟨_,(ze dp).trans hd,by show 17 < 1000;omega,hR1 _ _ ⟨p,hp,rfl,⟨zc,?_,?_⟩,(ButO.new hp).trans (ButO.upd (by simp))⟩⟩
      · rw [ze (Ne.symm dp),zc,U2]
      · rw [ze (Ne.symm hm.dk),ze kp];exact hm.kq
  rintro _ O1 ⟨sp,hs0,rfl,hm1,hb1⟩
  have hd1:=hm1.d
  have hsp1:=hm1.sp
  walk_at "wd"
  simp [hd1,and_assoc,zi,yB,zc,zy,yo,yp,yC,zU,yq,yD,yr,zV,yt,yE,zW,yu,ya,yb,yv,yy,zR,yi,yz,yj,zS,yk,yA,zT,yl,zZ,z7,ym,uL,uM,uN,uO,uP,uQ,uR,uS,uT,uU,uV,uW,uX,uY,uZ,u4,u5,jd]
  rw [if_pos (by decide +kernel)]
  have e2:X2 O1 (.own sp) (.d (.int S.col))=some (updO O1 sp (.lst (((stopL S.stops S.col).map .int).map .d))):=by
    simp only [X2,hsp1]
    have:=List.length_filter_le (fun i=>decide (i≠S.col)) S.stops
    rw [if_pos (by rw [List.length_map,List.length_map];omega)]
    simp [stopL]
  have sd:sp≠d:=fun e=>by rw [e,hd] at hs0;cases hs0
  have sk:sp≠A.kq:=fun e=>by rw [e,hm.kq] at hs0;cases hs0
  refine⟨.inl ⟨rfl,by simp [yN,hsp1]⟩,_,e2,.inl (h sp _ hs0 ⟨by rw [ze (Ne.symm sd)];exact hm1.d,zc,by rw [ze (Ne.symm sk)];exact hm1.kq⟩ sk fun b hb h0=>?_)⟩
  have bs:b≠sp:=fun e=>h0 (by rw [e];exact hs0)
  rw [ze bs]
  exact hb1 b hb h0
end
theorem U3 {α:Type}{ds:List α}{l r:Int}(h0:0≤l) (h1:l≤r) (h2:r≤ds.length):((vd ds (some l) (some r)).length:Int)=r - l:=by
 obtain⟨l',rfl⟩:=Int.eq_ofNat_of_zero_le h0
 obtain⟨r',rfl⟩:=Int.eq_ofNat_of_zero_le (Int.le_trans h0 h1)
 unfold vd
 rw [HT.sIx_nat,HT.sIx_nat,List.length_take,List.length_drop]
 omega
theorem Jg {α:Type}{xs:List α}:vd xs (some 1) none=xs.drop 1:=by
 unfold vd
 rw [show HT.sIx xs.length 0 (some 1)=min 1 xs.length from HT.sIx_nat xs.length 0 1,HT.sIx_none]
 cases xs with
 |nil=>rfl
 |cons a l=>simp
def VM (n:Nat) (rs:List PyData):Prop:=∀ x∈rs,∃ ds,x=.list ds/\ds.length=n
section
variable {P:Program}{w:World}{K:W.Frag}{mg:Str->Option Value}{base:Heap}{f C:Addr}{fd:FuncData}
theorem Xf (F:Fun K "_law_rolled" "_law_rolled" uo f fd) (T:Txt K mg C) (zgX:Cal P w K mg base 1 "_law_blank" [] (zb K sBlankM)):FnOk P w K mg base CX0 2 f fd ["_law_m","_law_first","_law_times_here","_law_up"] (zb K sRolledM):=by
  have nd:=ji.nd
  apply F.okV ji (by rintro _ _ _ ⟨a,d,A,S,rfl,_⟩;rfl) (fun cdv A outer sh H E hr=>(zd (xQ (yL (qc (zl (zw hr) (pv 0) zg (fun _ _=>rfl)) (qc (zh yG (zl (zw hr) (pv 0) zg (fun _ _=>rfl)) za) qn))) (vP (K:=K) (n:=2) rfl rfl (yY (yx (i:=4) nd rfl (Or.inr rfl)) (yY (yx (i:=5) nd rfl (Or.inr rfl)) vL))))
      (zf (xV PassesOwn.never rfl (vy rfl T.n_range (QA.pa (qc (yT (x0 rfl) (by rfl) T.n_min (by rfl) (QA.pa (qc (pv 2) (qc (zl (zw hr) (pv 0) zg (fun _ _=>rfl)) qn)))) qn))) (yx (i:=6) nd rfl (Or.inl rfl))
      (zd (Ki (i:=7) nd rfl rfl (qB (N:=["_law_row","_law_left","_law_right","_law_m"]) (n:=1) (js:=[4,5,0])) rfl (vz rfl T.n_range (QA.pa (qc (pv 1) (qc (zh yG (zl (zw hr) (pv 0) zg (fun _ _=>rfl)) za) qn)))) (fun _ _ _ _=>(yx (i:=0) (show List.Nodup (["_law_row","_law_left","_law_right","_law_m"]:List Str) by decide +kernel) rfl (Or.inl rfl))) (fun _ _ _ _=>vB) (fun _ _ _ _=>(vN (qT (K:=K) rfl) (yJ (xB (K:=K) rfl) (zl (zw hr) (pv 3) zg (fun _ _=>rfl)) (pv 0) (fun _ _=>rfl)) (xL (pv 1)) (xL (pv 2)))))
      (zd (yn (i:=8) nd rfl (Or.inl rfl) (xn (qc (zh (zc7 (K:=K) rfl) (xn (qc (zn zgX (hr.mono (by decide)) rfl (QA.pa (qc (pv 0) qn))) qn)) (zh yM (pv 5) (pv 4))) qn)))
      (zd (yn (i:=7) nd rfl (Or.inl rfl) (yZ (xH (pv 3)) (zh (j6 (K:=K) rfl) (vN (qT (K:=K) rfl) (pv 7) (xL za) Yr) (pv 8)) (zh (j6 (K:=K) rfl) (pv 8) (vN (qT (K:=K) rfl) (pv 7) Yr (xL (Xj XB za))))))
      (zf (xV PassesOwn.never rfl (X4 (K:=K) rfl rfl T.n_enumerate (QA.pa (qc (pv 7) qn))) (vP (K:=K) (n:=2) rfl rfl (yY (yx (i:=9) nd rfl (Or.inl rfl)) (yY (yx (i:=10) nd rfl (Or.inl rfl)) vL)))
      (zf (xQ (pv 10) (Vi (K:=K) rfl (yJ (xB (K:=K) rfl) (zl (zw hr) (pv 0) zg (fun _ _=>rfl)) (zh yG (pv 1) (pv 9)) (fun _ _=>rfl)) (xL (pv 4)) (xL (pv 5))))))))))))))
  · walk_at "ref"
  rintro _ O R ⟨a,d,A,S,rfl,hm,hc,⟨hB,a0,a1⟩,h⟩
  have hd:=hm.d
  obtain⟨rw0,hq0,_⟩:=id hc
  have dq:d≠A.q:=neW hd hq0 (by intro h;cases h)
  have sq:A.sp≠A.q:=neW hm.sp hq0 (by intro h;cases h)
  have kq:A.kq≠A.q:=neW hm.kq hq0 (by intro h;cases h)
  have mk:∀ O',ButO O O' [A.q]->MAt O' d A S:=fun O' bo=>hm.butO bo (by simpa using dq) (by simpa using sq) (by simpa using kq)
  have l0:=hB.l0
  have lr:=hB.lr
  have rr:=hB.rr
  have b1:=hB.b1
  have w2:=hB.w2
  have h2:=hB.h2
  have h1:=hB.h1
  obtain⟨n,en⟩:∃ n:Nat,(n:Int)=S.right+1 - S.left:=⟨(S.right+1 - S.left).toNat,by omega⟩
  obtain⟨m,em⟩:∃ m:Nat,(m:Int)=S.bottom+1 - a:=⟨(S.bottom+1 - a).toNat,by omega⟩
  refine yK (fun ρ' O'=>ρ'=[some (.own d),some (.d (.int a)),some (.d (.int 1)),some (.d (.bool true)),some (.d (.int S.left)),some (.d (.int (S.right+1))),none,none,none,none,none]/\O=O') (fun R1 hR1=>?_) ?_
  · walk_at "wd"
    simp [hd,and_assoc,zi,yB,zc,zy,yo,yp,yC,zU,yq,yD,yr,zV,yt,yE,zW,yu,ya,yb,yv,yy,zR,yi,yz,yj,zS,yk,yA,zT,yl,zZ,z7,ym]
    exact⟨_,rfl,by show 2≤1000;omega,rfl,_,_,rfl,_,_,rfl,rfl,hR1 _ _ ⟨rfl,rfl⟩⟩
  rintro _ _ ⟨rfl,rfl⟩
  walk_at "wd"
  simp [hd,and_assoc,zi,yB,zc,zy,yo,yp,yC,zU,yq,yD,yr,zV,yt,yE,zW,yu,ya,yb,yv,yy,zR,yi,yz,yj,zS,yk,yA,zT,yl,zZ,z7,ym]
  have e1:(if (S.h:Int) < 1 then (S.h:Int) else 1)= 1:=if_neg (by omega)
  simp only [e1]
  refine⟨by decide,by decide,?_⟩
  refine xF.rng (f:=fun i=>(i:Int)) (fun i ρ O'=>∃ v6 v7 v8 v9 v10,ρ=[some (.own d),some (.d (.int a)),some (.d (.int 1)),some (.d (.bool true)),some (.d (.int S.left)),some (.d (.int (S.right+1))),v6,v7,v8,v9,v10]/\ButO O O' [A.q]/\Cel19 O' A.q S.w S.h) ⟨_,_,_,_,_,rfl,ButO.refl,hc⟩ ?_ ?_
  · rintro i _ O1 hi ⟨v6,v7,v8,v9,v10,rfl,bo1,hc1⟩ R1 hR1
    have hm1:=mk O1 bo1
    have hd1:=hm1.d
    obtain⟨rows,hq1,rl1,rw1⟩:=id hc1
    have rowAt:∀ j,j < S.h->∃ ds,rows[j]? =some ds/\ds.length=S.w/\yN O1 (.row A.q j)=some (ds.map .d):=fun j hj=>by
      have lj:j < rows.length:=by omega
      exact⟨rows[j],List.getElem?_eq_getElem lj,rw1 _ (List.getElem_mem lj),by simp [yN,hq1,List.getElem?_eq_getElem lj]⟩
    refine yK (fun ρ' O'=>∃ rs:List PyData,VM n rs/\rs.length=m/\ρ'=[some (.own d),some (.d (.int a)),some (.d (.int 1)),some (.d (.bool true)),some (.d (.int S.left)),some (.d (.int (S.right+1))),some (.d (.int i)),some (.d (.list rs)),v8,v9,v10]/\O1=O') (fun R2 hR2=>?_) ?_
    · walk_at "wd"
      simp [hd1,and_assoc,zi,yB,zc,zy,yo,yp,yC,zU,yq,yD,yr,zV,yt,yE,zW,yu,ya,yb,yv,yy,zR,yi,yz,yj,zS,yk,yA,zT,yl,zZ,z7,ym]
      refine⟨by omega,by omega,by omega,by omega,by omega,fun x=>∃ ds,x=.list ds/\ds.length=n,?_,fun ds e1 e2=>hR2 _ _ ⟨ds,e2,by omega,rfl,rfl⟩⟩
      intro k hk us hus
      obtain⟨ds,e1,e2,e3⟩:=rowAt (a+(k:Int)).toNat (by omega)
      match us,hus with
      |[u],_=>
        refine⟨rfl,rfl,_,hd1,_,rfl,_,x3 hq1,_,xR (by omega) (by rw [rl1];omega),S.left,rfl,S.right+1,rfl,_,e3,_,xG _,_,rfl,?_⟩
        have:=U3 (ds:=ds) (l:=S.left) (r:=S.right+1) l0 (by omega) (by rw [e2];omega)
        omega
    rintro _ _ ⟨rs,hrs,lrs,rfl,rfl⟩
    refine yK (fun ρ' O'=>∃ bs:PyData,VM n [bs]/\ρ'=[some (.own d),some (.d (.int a)),some (.d (.int 1)),some (.d (.bool true)),some (.d (.int S.left)),some (.d (.int (S.right+1))),some (.d (.int i)),some (.d (.list rs)),some (.d (.list [bs])),v9,v10]/\O1=O') (fun R2 hR2=>?_) ?_
    · walk_at "wd"
      refine⟨d,A,S,rfl,hd1,_,rfl,by show 1≤1000;omega,[celD (blank S.ink)],by simp [qD,xD,yN,xq],by omega,by omega,by simp;omega,hR2 _ _ ⟨_,?_,rfl,rfl⟩⟩
      intro x hx
      cases List.mem_singleton.1 hx
      exact⟨_,rfl,by simp [ze7];omega⟩
    rintro _ _ ⟨bs,hbs,rfl,rfl⟩
    refine yK (fun ρ' O'=>∃ rs:List PyData,VM n rs/\rs.length=m/\ρ'=[some (.own d),some (.d (.int a)),some (.d (.int 1)),some (.d (.bool true)),some (.d (.int S.left)),some (.d (.int (S.right+1))),some (.d (.int i)),some (.d (.list rs)),some (.d (.list [bs])),v9,v10]/\O1=O') (fun R2 hR2=>?_) ?_
    · walk_at "wd"
      refine⟨_,rfl,rs,xG _,_,rfl,_,rfl,_,xG _,[bs],rfl,by rw [Jg];simp;omega,hR2 _ _ ⟨_,?_,?_,rfl,rfl⟩⟩
      · rw [Jg]
        intro x hx
        rcases List.mem_append.1 hx with hx |hx
        · exact hrs x (List.mem_of_mem_drop hx)
        · exact hbs x hx
      · rw [Jg]
        simp
        omega
    rintro _ _ ⟨rs2,hrs2,lrs2,rfl,rfl⟩
    walk_at "wd"
    refine⟨_,rfl,rs2,xG _,?_⟩
    refine xF.by (fun j ρ O'=>∃ v9 v10,ρ=[some (.own d),some (.d (.int a)),some (.d (.int 1)),some (.d (.bool true)),some (.d (.int S.left)),some (.d (.int (S.right+1))),some (.d (.int i)),some (.d (.list rs2)),some (.d (.list [bs])),v9,v10]/\ButO O O' [A.q]/\Cel19 O' A.q S.w S.h) ⟨_,_,rfl,bo1,hc1⟩ (fun _ _ _ _=>rfl) ?_ ?_
    · rintro j u _ O2 hu ⟨v9,v10,rfl,bo2,hc2⟩ R3 hR3
      rw [List.getElem?_zipWith] at hu
      cases hr:(List.range rs2.length)[j]? with
      |none=>rw [hr] at hu;cases hu
      |some k=>
      rw [hr] at hu
      cases hdi:rs2[j]? with
      |none=>rw [hdi] at hu;cases hu
      |some dd=>
      rw [hdi] at hu
      cases hu
      have hk:=List.mem_range.mp (List.mem_of_getElem? hr)
      obtain⟨es,rfl,les⟩:=hrs2 dd (List.mem_of_getElem? hdi)
      simp only [QF,Xo,QE,Z2,xD]
      refine⟨_,rfl,rfl,_,_,rfl,_,_,rfl,rfl,?_⟩
      have hd2:=(mk O2 bo2).d
      obtain⟨rows2,hq2,rl2,rw2⟩:=id hc2
      have lk:(a+(k:Int)).toNat < rows2.length:=by omega
      walk_at "wd"
      simp [hd2,and_assoc,zi,yB,zc,zy,yo,yp,yC,zU,yq,yD,yr,zV,yt,yE,zW,yu,ya,yb,yv,yy,zR,yi,yz,yj,zS,yk,yA,zT,yl,zZ,z7,ym]
      have lw:=rw2 _ (List.getElem_mem lk)
      exact⟨_,rfl,_,x3 hq2,_,xR (by omega) (by omega),A.q,_,rfl,_,hq2,_,List.getElem?_eq_getElem lk,l0,by omega,by omega,by omega,hR3 _ _ ⟨_,_,rfl,bo2.trans (ButO.upd (by simp)),Cel19.set rl2 rw2 (by simp;omega)⟩⟩
    · rintro ρ O2 ⟨v9,v10,rfl,bo2,hc2⟩
      exact hR1 _ _ ⟨_,_,_,_,_,rfl,bo2,hc2⟩
  · rintro _ O1 ⟨v6,v7,v8,v9,v10,rfl,bo1,hc1⟩
    exact .inl (h O1 (mk O1 bo1) hc1 (bo1.mono (by simp)))
end
theorem xY {O O':OM}{q:Addr}{w h:Nat}{xs:List Addr}(c:Cel19 O q w h) (b:ButO O O' xs) (hq:q ∉ xs):Cel19 O' q w h:=by
 obtain⟨rows,e,r⟩:=c
 exact⟨rows,b.old e hq,r⟩
theorem jl {O:OM}{d:Addr}{A:MA}{S S':ST}(m:MAt O d A S) (e1:mW A S'=mW A S) (e2:S'.stops=S.stops) (e3:S'.kept=S.kept):MAt O d A S':=
 ⟨by rw [e1];exact m.d,by rw [e2];exact m.sp,by rw [e3];exact m.kq⟩
section
variable {P:Program}{w:World}{K:W.Frag}{mg:Str->Option Value}{base:Heap}{f C:Addr}{fd:FuncData}
theorem Yj (F:Fun K "_law_line_end" "_law_line_end" vK f fd) (T:Txt K mg C) (zg1:Cal P w K mg base 1 "_law_edges" [] (zb K sEdgesM)) (zha:Cal P w K mg base 2 "_law_rolled" [] (zb K sRolledM)):FnOk P w K mg base CX0 3 f fd ["_law_m"] (zb K sLineEM):=by
  have nd:=ql.nd
  apply F.okV ql (by rintro _ _ _ ⟨d,A,S,rfl,_⟩;rfl) (fun cdv A outer sh H E hr=>(zd (yU (zw hr) (pv 0) zg xa rfl)
      (zd (yU (zw hr) (pv 0) zg (yJ (xg (K:=K) rfl) (zn zg1 (hr.mono (by decide)) rfl (QA.pa (qc (pv 0) qn))) za (fun _ _=>rfl)) rfl)
      (zf (yw (zx yW (zl (zw hr) (pv 0) zg (fun _ _=>rfl)) (zl (zw hr) (pv 0) zg (fun _ _=>rfl)) (zE _)) (zf (yF (zn zha (hr.mono (by decide)) rfl (QA.pa (qc (pv 0) (qc (zl (zw hr) (pv 0) zg (fun _ _=>rfl)) (qc za (qc xa qn)))))))) (zf (yw (zx vY (zl (zw hr) (pv 0) zg (fun _ _=>rfl)) (zh yM (zl (zw hr) (pv 0) zg (fun _ _=>rfl)) za) (zE _)) (zf (yU (zw hr) (pv 0) zg (zh yG (zl (zw hr) (pv 0) zg (fun _ _=>rfl)) za) rfl)) yh)))))))
  · walk_at "ref"
  rintro _ O R ⟨d,A,S,rfl,hm,hc,hB,h⟩
  have hd:=hm.d
  obtain⟨rw0,hq0,_⟩:=id hc
  have dq:A.q≠d:=neW hq0 hd (by intro h;cases h)
  refine qw (fun ρ' O'=>ρ'=[some (.own d)]/\MAt O' d A (leftS S)/\ButO O O' [d]) (fun R1 hR1=>?_) ?_
  · walk_at "wd"
    simp [hd,and_assoc,zi,yB,zc,zy,yo,yp,yC,zU,yq,yD,yr,zV,yt,yE,zW,yu,ya,yb,yv,yy,zR,yi,yz,yj,zS,yk,yA,zT,yl,zZ,z7,ym]
    refine⟨d,A,_,rfl,zc,_,rfl,_,rfl,_,zc,by show 17 < 1000;omega,hR1 _ _ ⟨rfl,?_,?_⟩⟩
    · rw [zy]
      exact hm.fld (S':=leftS S)
    · rw [zy]
      exact ButO.upd (by simp)
  rintro _ O1 ⟨rfl,hm1,bo1⟩
  have hd1:=hm1.d
  have hc1:Cel19 O1 A.q S.w S.h:=xY hc bo1 (by simpa using dq)
  have hB1:Bds (leftS S):={ hB with c0:=by have:=jA hB;exact this.1,c1:=by have:=jA hB;have:=kZ hB;have:=hB.c1;simp only [leftS];omega }
  refine yS (S.row=S.bottom) (fun R1 hR1=>?_) (fun e=>?_) (fun e=>?_)
  · walk_at "wd"
    simp [hd1,and_assoc,zi,yB,zc,zy,yo,yp,yC,zU,yq,yD,yr,zV,yt,yE,zW,yu,ya,yb,yv,yy,zR,yi,yz,yj,zS,yk,yA,zT,yl,zZ,z7,ym]
    exact hR1
  · walk_at "wd"
    simp [hd1,and_assoc,zi,yB,zc,zy,yo,yp,yC,zU,yq,yD,yr,zV,yt,yE,zW,yu,ya,yb,yv,yy,zR,yi,yz,yj,zS,yk,yA,zT,yl,zZ,z7,ym]
    have el:lineE S=rollS (leftS S).top 1 (leftS S):=by unfold lineE;simp only;rw [if_pos (show (leftS S).row=(leftS S).bottom from e)]
    refine⟨(leftS S).top,d,A,leftS S,rfl,hm1,hc1,⟨hB1,hB.t0,hB.tb⟩,fun O' g1 g2 g3=>.inl (h O' ?_ g2 ((bo1.mono (by simp)).trans g3))⟩
    rw [el]
    exact jl g1 rfl rfl rfl
  refine yS (S.row < S.h - 1) (fun R1 hR1=>?_) (fun e2=>?_) (fun e2=>?_)
  · walk_at "wd"
    simp [hd1,and_assoc,zi,yB,zc,zy,yo,yp,yC,zU,yq,yD,yr,zV,yt,yE,zW,yu,ya,yb,yv,yy,zR,yi,yz,yj,zS,yk,yA,zT,yl,zZ,z7,ym]
    exact hR1
  · walk_at "wd"
    simp [hd1,and_assoc,zi,yB,zc,zy,yo,yp,yC,zU,yq,yD,yr,zV,yt,yE,zW,yu,ya,yb,yv,yy,zR,yi,yz,yj,zS,yk,yA,zT,yl,zZ,z7,ym]
    have el:lineE S= { leftS S with row:=(leftS S).row+1 }:=by unfold lineE;simp only;rw [if_neg (show ¬ (leftS S).row=(leftS S).bottom from e),if_pos (show (leftS S).row < (leftS S).h - 1 from e2)]
    refine .inl (h _ ?_ (xY hc1 (ButO.upd (xs:=[d]) (by simp)) (by simpa using dq)) ((bo1.trans (ButO.upd (by simp))).mono (by simp)))
    rw [el]
    exact hm1.fld
  · walk_at "wd"
    have el:lineE S=leftS S:=by unfold lineE;simp only;rw [if_neg (show ¬ (leftS S).row=(leftS S).bottom from e),if_neg (show ¬ (leftS S).row < (leftS S).h - 1 from e2)]
    refine .inl (h _ ?_ hc1 (bo1.mono (by simp)))
    rw [el]
    exact hm1
end
section
variable {O O' O1:OM}{C x dx p st kp d q:Addr}{A:MA}{S S1:ST}{k:KP}
theorem VN (hl:S.kept[S.kept.length - 1]? =some k):backS S= { S with row:=k.row,col:=k.col,late:=k.late,ink:=k.ink,wrap:=k.wrap,putting:=k.putting,home:=k.home,kept:=S.kept.dropLast }:=by unfold backS;rw [hl]
theorem zds (h:S.kept≠[]):∃ k,S.kept[S.kept.length - 1]? =some k:=by
 have:S.kept.length≠0:=fun e=>h (List.length_eq_zero_iff.1 e)
 exact⟨_,List.getElem?_eq_getElem (by omega)⟩
theorem Kv (l:List KP):SeqAt.shaped (.list (l.map kpL))=true:=QS fun k _=>⟨by simp [kpL,PyData.canLay0,PyData.canLayAll0],by simp [kpL,PyData.depth,PyData.depthAll]⟩
theorem za3 (l:List KP):PyData.eqv (.list (l.map kpL)) (.list [])=decide (l=[]):=by
 cases l <;> simp [PyData.eqv,PyData.eqvAll]
theorem zfj (hl:S.kept[S.kept.length - 1]? =some k):((S.kept.map kpL).map W.d)[((S.kept.map kpL).map W.d).length - 1]? =some (.d (kpL k)):=by
 simp [hl]
theorem Jh (hl:S.kept[S.kept.length - 1]? =some k):xX (mW A S) (xX [] (ug [Str.ofString "row",Str.ofString "column",Str.ofString "late",Str.ofString "ink",Str.ofString "wrap",Str.ofString "insert",Str.ofString "home"] [.d (.int k.row),.d (.int k.col),.d (.bool k.late),.d (.int k.ink),.d (.bool k.wrap),.d (.bool k.putting),.d (.bool k.home)]))=mW A (backS S):=by
 rw [VN hl]
 rfl
theorem Kw (m:MAt O d A S) (hab:A.sp≠A.kq) (hl:S.kept[S.kept.length - 1]? =some k) {Z:List (Key×W)}(hq:updO O A.kq (.lst (((S.kept.map kpL).map W.d).dropLast)) q=none):MAt (updO (updO (updO O A.kq (.lst (((S.kept.map kpL).map W.d).dropLast))) q (.dK Z)) d (.dK (mW A (backS S)))) d A (backS S)/\ButO O (updO (updO (updO O A.kq (.lst (((S.kept.map kpL).map W.d).dropLast))) q (.dK Z)) d (.dK (mW A (backS S)))) [d,A.kq]:=by
 have eb:=VN hl
 have q1:q≠A.kq:=fun e=>by rw [e,zc] at hq;cases hq
 rw [ze q1] at hq
 have hs:=m.sp
 have q2:A.sp≠q:=fun e=>by rw [e,hq] at hs;cases hs
 refine⟨⟨zc,?_,?_⟩,ButO.trans (ButO.trans (ButO.upd (a:=A.kq) (by simp)) (ButO.new (by rw [ze q1];exact hq))) (ButO.upd (a:=d) (by simp))⟩
 ·rw [ze (Ne.symm m.ds),ze q2,ze hab,eb]
  exact hs
 ·rw [ze (Ne.symm m.dk),ze (Ne.symm q1),zc,eb]
  simp [List.map_dropLast]
theorem Ji (h:S.kept=[]):backS S=S:=by unfold backS;rw [h];rfl
theorem zgf {α:Type}(l:List α) (h:l.length≤9):vd l (some (-8)) none=if l.length < 9 then l else l.drop 1:=by
 have e:HT.sIx l.length 0 (some (-8))=(-8+(l.length:Int)).toNat:=by
  show (if (-8:Int) < 0 then ((-8:Int)+(l.length:Int)).toNat else min (-8:Int).toNat l.length)=(-8+(l.length:Int)).toNat
  rw [if_pos (by decide)]
 unfold vd
 rw [HT.sIx_none,e]
 split
 ·rw [show (-8+(l.length:Int)).toNat= 0 by omega]
  simp
 ·rw [show (-8+(l.length:Int)).toNat= 1 by omega]
  rw [List.take_of_length_le (by simp)]
theorem za4 (hk:S.kept.length≤8):vd (((S.kept.map kpL) ++ [kpL (u6 S)]).map W.d) (some (-8)) none=((keepS S).kept.map kpL).map W.d:=by
 rw [zgf _ (by simp;omega)]
 unfold keepS
 simp only [List.length_map,List.length_append,List.length_singleton]
 by_cases h:S.kept.length < 8
 ·rw [if_pos (by omega),if_pos h]
  simp
 ·rw [if_neg (by omega),if_neg h]
  cases hh:S.kept with
  |nil=>rw [hh] at h;simp at h
  |cons a l=>simp
end
noncomputable def nmS:List Str:=[Str.ofString "row",Str.ofString "column",Str.ofString "late",Str.ofString "ink",Str.ofString "wrap",Str.ofString "insert",Str.ofString "home"]
noncomputable def zfk (A:MA) (S:ST):W->Option PyData:=fun v=>match v with
 |.d (.str s)=>match xJ (mW A S) (Sum.inr s) with
  |some (.d y)=>some y
  |_=>none
 |_=>none
section
variable {P:Program}{w:World}{K:W.Frag}{mg:Str->Option Value}{base:Heap}{f C:Addr}{fd:FuncData}
seal L2.PE L2.PS L2.PSs L2.PT L2.PA in
theorem Xg (F:Fun K "_law_screen" "_law_screen" uq f fd) (T:Txt K mg C) (zgW:Cal P w K mg base 1 "_law_begun" [] (zb K sBegunM)):FnOk P w K mg base CX0 2 f fd ["_law_wide","_law_high"] (zb K sScreenM):=by
  have nd:=jj.nd
  apply F.okV jj (by rintro _ _ _ ⟨a,b,rfl,_⟩;rfl) (fun cdv A outer sh H E hr=>(zd (yn (i:=2) nd rfl (Or.inl rfl) (zn zgW (hr.mono (by decide)) rfl (QA.pa (qc (pv 0) (qc (pv 1) qn)))))
      (zd (yF (ue (K:=K) rfl PySem.F.plainAttrs_dict PySem.F.slot_dict_update PySem.F.type_dict_update uc (pv 2) (QA.pa (qc (qV (yR zg (kU qn) (yR zg xo (yR zg (J8 (qB (N:=["_law_row","_law_wide"]) (n:=1) (js:=[0])) rfl (vy rfl T.n_range (QA.pa (qc (pv 1) qn))) (fun _ _ _ _=>(yx (i:=0) (show List.Nodup (["_law_row","_law_wide"]:List Str) by decide +kernel) rfl (Or.inl rfl))) (fun _ _ _ _=>vB) (fun _ _ _ _=>(zdj (xn (qc (yL (qc zg (qc za qn))) qn)) (pv 1)))) qU))) rfl rfl (by decide) (by decide)) qn))))
      (zf (yg (pv 2))))))
  · walk_at "ref"
  rintro _ O R ⟨wd,hg,rfl,w1,w2,h1,h2,h⟩
  refine yK (fun ρ' O'=>∃ d sp,O d=none/\O sp=none/\d≠sp/\ρ'=[some (.d (.int wd)),some (.d (.int hg)),some (.own d)]/\O' d=some (.dK ((mW ⟨sp,sp,sp⟩ (st0 wd hg fun _ _=>blank 0)).take 14))/\O' sp=some (.lst (((stopsI wd).map .int).map .d))/\Old O O') (fun R1 hR1=>?_) ?_
  · walk_at "wd"
    exact⟨wd,hg,rfl,w1,w2,h1,h2,fun d sp O' q1 q2 q3 q4 q5 q6=>hR1 _ _ ⟨d,sp,q1,q2,q3,rfl,q4,q5,q6⟩⟩
  rintro _ O1 ⟨d,sp,hd0,hs0,hne,rfl,hd1,hs1,ho1⟩
  walk_at "wd"
  refine⟨.inr (.inr ⟨rfl,d,_,rfl,hd1⟩),fun p hp kq hkq=>⟨by omega,by omega,fun _=>List.replicate wd (.tuple [.str (Str.ofString " "),.int 0]),?_,fun q hq=>?_⟩⟩
  · intro a ha us hus
    match us,hus with
    |[u],_=>exact⟨rfl,rfl,(wd:Int),rfl,by omega,by omega,by omega,fun p2 hp2=>⟨p2,hp2,rfl,by simp⟩⟩
  · have kqp:kq≠p:=fun e=>by rw [e,zc] at hkq;cases hkq
    rw [ze kqp] at hkq
    have qkq:q≠kq:=fun e=>by rw [e,zc] at hq;cases hq
    rw [ze qkq] at hq
    have qp:q≠p:=fun e=>by rw [e,zc] at hq;cases hq
    rw [ze qp] at hq
    have nn:∀ {b c:Addr}{o:OO},O1 b=some o->O1 c=none->b≠c:=fun h1 h2 e=>by rw [e,h2] at h1;cases h1
    have dp:=nn hd1 hp
    have dk:=nn hd1 hkq
    have dq:=nn hd1 hq
    have sp1:=nn hs1 hp
    have sk:=nn hs1 hkq
    have sq:=nn hs1 hq
    refine⟨by rw [ze (Ne.symm qp),ze (Ne.symm kqp),zc],_,rfl,by show 3≤15;omega,_,(ze dp).trans ((ze dq).trans ((ze dk).trans ((ze dp).trans hd1))),dp,by show 14+3≤1000;omega,.inl (h d ⟨sp,kq,q⟩ _ hd0 hs0 (ho1.new hkq) (ho1.new hq) sk ⟨zc,?_,?_⟩ ⟨_,by rw [ze (Ne.symm dq),ze qp,zc],by simp,fun r hr=>?_⟩ ?_)⟩
    · rw [ze (Ne.symm hne),ze sp1,ze sq,ze sk,ze sp1];exact hs1
    · rw [ze (Ne.symm dk),ze kqp,ze (Ne.symm qkq),zc];rfl
    · obtain⟨i,_,rfl⟩:=List.mem_map.1 hr
      simp
    · exact ((((ho1.upd (ho1.new hp)).upd (ho1.new hkq)).upd (ho1.new hq)).upd (ho1.new hp)).upd hd0
end
theorem za5 {A:MA}{S:ST}{x:Nat}:xm (mW A S) (Sum.inr (Str.ofString "wide")) (.d (.int x))=mW A { S with w:=x }:=rfl
theorem za6 {A:MA}{S:ST}{x:Nat}:xm (mW A S) (Sum.inr (Str.ofString "high")) (.d (.int x))=mW A { S with h:=x }:=rfl
theorem Kx {A A2:MA}{S S2:ST}:xX (mW A S) (mW A2 S2)=mW A2 S2:=by
 have e:mW A2 S2=[(Sum.inr (Str.ofString "wide"),.d (.int S2.w)),(Sum.inr (Str.ofString "high"),.d (.int S2.h)),(Sum.inr (Str.ofString "row"),.d (.int S2.row)),(Sum.inr (Str.ofString "column"),.d (.int S2.col)),(Sum.inr (Str.ofString "late"),.d (.bool S2.late)),(Sum.inr (Str.ofString "ink"),.d (.int S2.ink)),(Sum.inr (Str.ofString "wrap"),.d (.bool S2.wrap)),(Sum.inr (Str.ofString "insert"),.d (.bool S2.putting)),(Sum.inr (Str.ofString "home"),.d (.bool S2.home)),(Sum.inr (Str.ofString "top"),.d (.int S2.top)),(Sum.inr (Str.ofString "bottom"),.d (.int S2.bottom)),(Sum.inr (Str.ofString "left"),.d (.int S2.left)),(Sum.inr (Str.ofString "right"),.d (.int S2.right)),(Sum.inr (Str.ofString "stops"),.own A2.sp),(Sum.inr (Str.ofString "kept"),.own A2.kq),(Sum.inr (Str.ofString "last"),.d S2.last),(Sum.inr (Str.ofString "cells"),.own A2.q)]:=rfl
 rw [e]
 unfold xX
 simp only [List.foldl_cons,List.foldl_nil,za5,za6,yy,zR,yi,yz,yj,zS,yk,yA,zT,yl,zZ,z7,ym,UX,zaU]
 rfl
theorem za7 {A:MA}{S:ST}:List.filterMap (zfk A S) ((nmS.map PyData.str).map W.d)=[.int S.row,.int S.col,.bool S.late,.int S.ink,.bool S.wrap,.bool S.putting,.bool S.home]:=rfl
section
variable {P:Program}{w:World}{K:W.Frag}{mg:Str->Option Value}{base:Heap}{f C:Addr}{fd:FuncData}
theorem Uq (F:Fun K "_law_kept" "_law_kept" qN f fd) (T:Txt K mg C) (zhb:Cal P w K mg base 2 "_law_screen" [] (zb K sScreenM)):FnOk P w K mg base CX0 3 f fd ["_law_m","_law_letter"] (zb K sKeptM):=by
  have nd:=kH.nd
  apply F.okV kH (by rintro _ _ _ ⟨c,d,A,S,_,rfl,_⟩;rfl) (fun cdv A outer sh H E hr=>(zd (yn (i:=2) nd rfl (Or.inl rfl) (UH rfl))
      (zf (yw (zx yW (pv 1) zg (zE _)) (zf (yU (zw hr) (pv 0) zg (vN (ze5 (K:=K) rfl) (zh (j6 (K:=K) rfl) (zl (zw hr) (pv 0) zg (fun _ _=>rfl)) (xn (qc (ZO (qB (N:=["_law_name","_law_m"]) (n:=1) (js:=[0])) rfl (jw (K:=K) rfl (pv 2)) (fun _ _ _ _=>(yx (i:=0) (show List.Nodup (["_law_name","_law_m"]:List Str) by decide +kernel) rfl (Or.inl rfl))) (fun _ _ _ _=>vB) (fun _ _ _ _=>(zl (zw hr) (pv 1) (pv 0) (fun _ _=>rfl)))) qn))) (xL (Xj XB za)) Yr) rfl)) (zf (yw (PW.pt (ub (zx yW (pv 1) zg (zE _)) (vx (zx (Kb (K:=K) rfl hr.units) (zl (zw hr) (pv 0) zg (fun _ _=>rfl)) (xn qn) (zE _))))) (zf (yF (ue (K:=K) rfl PySem.F.plainAttrs_dict PySem.F.slot_dict_update PySem.F.type_dict_update uc (pv 0) (QA.pa (qc (QW (K:=K) rfl rfl (by rfl) T.n_dict (by rfl) T.n_zip (QA.pa (qc (pv 2) (qc (UR (K:=K) rfl PySem.F.plainAttrs_list PySem.F.slot_list_pop PySem.F.type_list_pop JD (zl (zw hr) (pv 0) zg (fun _ _=>rfl))) qn)))) qn))))) (zf (yw (zx yW (pv 1) zg (zE _)) (zf (yF (ue (K:=K) rfl PySem.F.plainAttrs_dict PySem.F.slot_dict_update PySem.F.type_dict_update uc (pv 0) (QA.pa (qc (zn zhb (hr.mono (by decide)) rfl (QA.pa (qc (zl (zw hr) (pv 0) zg (fun _ _=>rfl)) (qc (zl (zw hr) (pv 0) zg (fun _ _=>rfl)) qn)))) qn))))) yh))))))))
  · walk_at "ref"
  rintro _ O R ⟨c,d,A,S,hcc,rfl,hm,hc,hsk,hk,w1,w2,h1,h2,h⟩
  have hd:=hm.d
  have hkq:=hm.kq
  obtain⟨rw0,hq0,_⟩:=id hc
  have dq:A.q≠d:=neW hq0 hd (by intro h;cases h)
  have kq':A.q≠A.kq:=neW hq0 hkq (by intro h;cases h)
  refine yK (fun ρ' O'=>ρ'=[some (.own d),some (.d (.str ⟨#[c]⟩)),some (.d (.list (nmS.map .str)))]/\O=O') (fun R1 hR1=>?_) ?_
  · walk_at "wd"
    exact hR1 _ _ ⟨rfl,rfl⟩
  rintro _ _ ⟨rfl,rfl⟩
  rcases hcc with rfl |rfl |rfl
  · refine yS True (fun R1 hR1=>?_) (fun _=>?_) (fun z=>absurd trivial z)
    · walk_at "wd"
      simp [show ((⟨#[118]⟩:Str)=Str.ofString "v")=True from eq_true (by decide +kernel)]
      simpa using hR1
    walk_at "wd"
    simp [hd,and_assoc,zi,yB,zc,zy,yo,yp,yC,zU,yq,yD,yr,zV,yt,yE,zW,yu,ya,yb,yv,yy,zR,yi,yz,yj,zS,yk,yA,zT,yl,zZ,z7,ym]
    refine⟨_,rfl,by show 7≤1000;omega,zfk A S,?_,_,by simp only [yN,hkq],_,rfl,S.kept.map kpL,xG _,_,rfl,by simp;omega,_,rfl,fun p hp=>?_⟩
    · intro w hw us hus
      match us,hus with
      |[u],_=>
        simp only [nmS,List.map_cons,List.map_nil,List.mem_cons,List.not_mem_nil,or_false] at hw
        rcases hw with rfl |rfl |rfl |rfl |rfl |rfl |rfl <;> exact⟨rfl,rfl,_,hd,_,rfl,rfl⟩
    · have dp:d≠p:=fun e=>by rw [<- e,hd] at hp;cases hp
      have sp1:A.sp≠p:=fun e=>by rw [<- e,hm.sp] at hp;cases hp
      refine⟨_,(ze dp).trans hd,by show 17 < 1000;omega,.inl (h { A with kq:=p } _ ⟨zc,?_,?_⟩ (xY hc ((ButO.new hp).trans (ButO.upd (xs:=[d]) (by simp))) (by simpa using dq)) ⟨.inl rfl,.inr hp,.inl rfl,sp1⟩ ((ButO.new hp).trans (ButO.upd (by simp))))⟩
      · rw [ze (Ne.symm hm.ds),ze sp1];exact hm.sp
      · rw [ze (Ne.symm dp),zc,za7]
        exact congrArg (fun z=>some (OO.lst z)) (za4 hk)
  · refine yS False (fun R1 hR1=>?_) (fun z=>z.elim) (fun _=>?_)
    · walk_at "wd"
      simp [show ((⟨#[122]⟩:Str)=Str.ofString "v")=False from eq_false (by decide +kernel)]
      simpa using hR1
    refine yS (S.kept≠[]) (fun R1 hR1=>?_) (fun hne=>?_) (fun hne=>?_)
    · walk_at "wd"
      simp [hd,and_assoc,zi,yB,zc,zy,yo,yp,yC,zU,yq,yD,yr,zV,yt,yE,zW,yu,ya,yb,yv,yy,zR,yi,yz,yj,zS,yk,yA,zT,yl,zZ,z7,ym,show ((⟨#[122]⟩:Str)=Str.ofString "z")=True from eq_true (by decide +kernel)]
      refine⟨.list (S.kept.map kpL),by simp only [vO,hkq,xG];rfl,_,rfl,Kv _,rfl,?_⟩
      rw [za3,show (!decide (S.kept=[]))=decide (S.kept≠[]) from by simp]
      exact hR1
    · walk_at "wd"
      simp [hd,and_assoc,zi,yB,zc,zy,yo,yp,yC,zU,yq,yD,yr,zV,yt,yE,zW,yu,ya,yb,yv,yy,zR,yi,yz,yj,zS,yk,yA,zT,yl,zZ,z7,ym]
      obtain⟨k,hl⟩:=zds hne
      have key:∀ q Z Y,updO O A.kq (.lst (((S.kept.map kpL).map W.d).dropLast)) q=none->Y=mW A (backS S)->R (W.d .none) (updO (updO (updO O A.kq (.lst (((S.kept.map kpL).map W.d).dropLast))) q (.dK Z)) d (.dK Y)):=by
        rintro q Z _ hq rfl
        obtain⟨t2,f2⟩:=Kw hm hsk hl (Z:=Z) hq
        exact h A _ t2 (xY hc f2 (by simp only [List.mem_cons,List.not_mem_nil,or_false,not_or];exact⟨dq,kq'⟩)) ⟨.inl rfl,.inl rfl,.inl rfl,hsk⟩ f2
      refine⟨.inr (.inr ⟨rfl,d,_,rfl,hd⟩),.inl ⟨rfl,by simp [yN,hkq]⟩,_,hkq,_,zfj hl,nmS,rfl,_,rfl,by show 7≤1000;omega,fun q hq=>?_⟩
      have dq':d≠q:=fun e=>by rw [<- e,ze hm.dk,hd] at hq;cases hq
      exact⟨_,(ze dq').trans ((ze hm.dk).trans hd),dq',by show 17+7≤1000;omega,.inl (key q _ _ hq (Jh hl))⟩
    · refine yS False (fun R1 hR1=>?_) (fun z=>z.elim) (fun _=>?_)
      · walk_at "wd"
        simp [show ((⟨#[122]⟩:Str)=Str.ofString "Z")=False from eq_false (by decide +kernel)]
        simpa using hR1
      walk_at "wd"
      have e0:S.kept=[]:=by simpa using hne
      exact .inl (h A O (by show MAt O d A (backS S);rw [Ji e0];exact hm) hc ⟨.inl rfl,.inl rfl,.inl rfl,hsk⟩ ButO.refl)
  · refine yS False (fun R1 hR1=>?_) (fun z=>z.elim) (fun _=>?_)
    · walk_at "wd"
      simp [show ((⟨#[90]⟩:Str)=Str.ofString "v")=False from eq_false (by decide +kernel)]
      simpa using hR1
    refine yS False (fun R1 hR1=>?_) (fun z=>z.elim) (fun _=>?_)
    · walk_at "wd"
      simp [show ((⟨#[90]⟩:Str)=Str.ofString "z")=False from eq_false (by decide +kernel)]
      simpa using hR1
    refine yS True (fun R1 hR1=>?_) (fun _=>?_) (fun z=>absurd trivial z)
    · walk_at "wd"
      simp [show ((⟨#[90]⟩:Str)=Str.ofString "Z")=True from eq_true (by decide +kernel)]
      simpa using hR1
    walk_at "wd"
    simp [hd,and_assoc,zi,yB,zc,zy,yo,yp,yC,zU,yq,yD,yr,zV,yt,yE,zW,yu,ya,yb,yv,yy,zR,yi,yz,yj,zS,yk,yA,zT,yl,zZ,z7,ym]
    refine⟨.inr (.inr ⟨rfl,d,_,rfl,hd⟩),S.w,S.h,rfl,w1,w2,h1,h2,fun m2 A2 O1 q1 q2 q3 q4 q5 q6 q7 q8=>?_⟩
    have nn:∀ {c:Addr},O c=none->d≠c:=fun h2 e=>by rw [<- e,hd] at h2;cases h2
    refine⟨m2,rfl,_,(q8 d (by rw [hd];simp)).trans hd,_,q6.d,nn q1,by show 17+17≤1000;omega,.inl (h A2 _ ⟨by rw [zc,Kx];rfl,?_,?_⟩ (xY q7 (ButO.upd (xs:=[d]) (by simp)) (by simpa using Ne.symm (nn q4))) ⟨.inr q2,.inr q3,.inr q4,q5⟩ (q8.butO.trans (ButO.upd (by simp))))⟩
    · rw [ze (Ne.symm (nn q2))];exact q6.sp
    · rw [ze (Ne.symm (nn q3))];exact q6.kq
end
theorem za8 {S:ST}(hB:Bds S):Bds (lineE S):=by
 have hB1:Bds (leftS S):={ hB with c0:=by have:=jA hB;exact this.1,c1:=by have:=jA hB;have:=kZ hB;have:=hB.c1;simp only [leftS];omega }
 have r0:=hB1.r0
 unfold lineE
 simp only
 split
 ·exact { hB1 with }
 ·split
  ·rename_i e1 e2
   exact { hB1 with r0:=by simp only;omega,r1:=by simp only;omega }
  ·exact hB1
noncomputable def xw (S:ST):ST:={ (if S.late=true/\S.wrap=true then lineE S else S) with late:=false }
theorem U4 (S:ST):(xw S).w=S.w/\(xw S).h=S.h:=by
 unfold xw
 simp only
 split
 ·unfold lineE
  simp only
  split
  ·exact⟨rfl,rfl⟩
  ·split <;> exact⟨rfl,rfl⟩
 ·exact⟨rfl,rfl⟩
theorem U5 {S:ST}(hB:Bds S):Bds (xw S):=by
 unfold xw
 split
 ·exact { za8 hB with }
 ·exact { hB with }
theorem kL (S:ST):(lineE S).late=false/\(lineE S).stops=S.stops/\(lineE S).kept=S.kept:=by
 unfold lineE
 simp only
 split
 ·exact⟨rfl,rfl,rfl⟩
 ·split <;> exact⟨rfl,rfl,rfl⟩
theorem VO (S:ST):(xw S).late=false/\(xw S).stops=S.stops/\(xw S).kept=S.kept:=by
 unfold xw
 refine⟨rfl,?_,?_⟩
 ·simp only
  split
  ·exact (kL S).2.1
  ·rfl
 ·simp only
  split
  ·exact (kL S).2.2
  ·rfl
noncomputable def xC (c:Str) (S2:ST):ST:=
 let S3:ST:=if S2.putting=true then cellsS (-1) S2 else S2
 let S4:ST:={ S3 with pic:=setF S3.pic S3.row.toNat S3.col.toNat (c,S3.ink),last:=.str c }
 if S4.col < eR S4 then { S4 with col:=S4.col+1 } else { S4 with late:=S4.wrap }
theorem qo (c:Str) (S:ST):putS0 c S=xC c (xw S):=rfl
theorem zdt {A:MA}{c:Str}{S2:ST}(hl:S2.late=false):mW A (xC c S2)=mW A (if S2.col < eR S2 then { S2 with last:=.str c,col:=S2.col+1 } else { S2 with last:=.str c,late:=S2.wrap })/\(xC c S2).stops=S2.stops/\(xC c S2).kept=S2.kept:=by
 rcases S2 with⟨w,h,row,col,late,ink,wrap,putting,home,top,bottom,left,right,last,pic,stops,kept⟩
 cases hl
 by_cases hc:col < (if col≤right then right else (w:Int) - 1) <;> cases putting <;> simp [xC,cellsS,mvS,eR,hc,mW]
theorem zfl {n:Nat}{k:Int}(h0:0≤k) (h1:k < n):ixN n k=some k.toNat:=by
 unfold ixN
 rw [if_pos h0,if_pos h1]
theorem zdu {O:OM}{q:Addr}{rows:List (List PyData)}{i:Nat}{ds:List PyData}{k:Int}{x:PyData}(hq:O q=some (.grid rows)) (hr:rows[i]? =some ds) (h0:0≤k) (h1:k < ds.length):uf O (.row q i) k (.d x)=some (updO O q (.grid (rows.set i (ds.set k.toNat x)))):=by
 simp only [uf,hq,hr]
 rw [zfl h0 h1]
 rfl
section
variable {P:Program}{w:World}{K:W.Frag}{mg:Str->Option Value}{base:Heap}{f C:Addr}{fd:FuncData}
theorem YG (F:Fun K "_law_written" "_law_written" vX f fd) (T:Txt K mg C) (zg5:Cal P w K mg base 3 "_law_line_end" [] (zb K sLineEM)) (zg1:Cal P w K mg base 1 "_law_edges" [] (zb K sEdgesM)):FnOk P w K mg base CX0 4 f fd ["_law_m","_law_sign"] (zb K sWrittenM):=by
  have nd:=qz.nd
  apply F.okV qz (by rintro _ _ _ ⟨c,d,A,S,rfl,_⟩;rfl) (fun cdv A outer sh H E hr=>(zd (yw (xH (zl (zw hr) (pv 0) zg (fun _ _=>rfl))) (zd (yU (zw hr) (pv 0) zg xa rfl)
      (zf (yw (xH (zl (zw hr) (pv 0) zg (fun _ _=>rfl))) (zf (yF (zn zg5 (hr.mono (by decide)) rfl (QA.pa (qc (pv 0) qn))))) yh))) yh)
      (zd (yn (i:=2) nd rfl (Or.inl rfl) (yJ (xg (K:=K) rfl) (zn zg1 (hr.mono (by decide)) rfl (QA.pa (qc (pv 0) qn))) za (fun _ _=>rfl)))
      (zd (yn (i:=3) nd rfl (Or.inl rfl) (yJ (xB (K:=K) rfl) (zl (zw hr) (pv 0) zg (fun _ _=>rfl)) (zl (zw hr) (pv 0) zg (fun _ _=>rfl)) (fun _ _=>rfl)))
      (zd (yw (xH (zl (zw hr) (pv 0) zg (fun _ _=>rfl))) (zf (xQ (vN (qT (K:=K) rfl) (pv 3) (xL (zl (zw hr) (pv 0) zg (fun _ _=>rfl))) (xL (pv 2))) (Vi (K:=K) rfl (pv 3) (xL (zh yG (zl (zw hr) (pv 0) zg (fun _ _=>rfl)) za)) (xL (zh yG (pv 2) za))))) yh)
      (zd (xQ (yL (qc (pv 1) (qc (zl (zw hr) (pv 0) zg (fun _ _=>rfl)) qn))) (uA (pv 3) (zl (zw hr) (pv 0) zg (fun _ _=>rfl)) vq))
      (zd (yU (zw hr) (pv 0) zg (pv 1) rfl)
      (zf (yw (zx vY (zl (zw hr) (pv 0) zg (fun _ _=>rfl)) (pv 2) (zE _)) (zf (yU (zw hr) (pv 0) zg (zh yG (zl (zw hr) (pv 0) zg (fun _ _=>rfl)) za) rfl)) (zf (yU (zw hr) (pv 0) zg (zl (zw hr) (pv 0) zg (fun _ _=>rfl)) rfl)))))))))))
  · walk_at "ref"
  rintro _ O R ⟨c,d,A,S,rfl,hm,hc,hB,h⟩
  have hd:=hm.d
  obtain⟨rw0,hq0,_⟩:=id hc
  have dq:A.q≠d:=neW hq0 hd (by intro h;cases h)
  refine yK (fun ρ' O'=>ρ'=[some (.own d),some (.d (.str c)),none,none]/\MAt O' d A (xw S)/\Cel19 O' A.q S.w S.h/\ButO O O' [d,A.q]) (fun R1 hR1=>?_) ?_
  · walk_at "wd"
    simp [hd,and_assoc,zi,yB,zc,zy,yo,yp,yC,zU,yq,yD,yr,zV,yt,yE,zW,yu,ya,yb,yv,yy,zR,yi,yz,yj,zS,yk,yA,zT,yl,zZ,z7,ym]
    have cel:∀ o,Cel19 (updO O d (.dK o)) A.q S.w S.h:=fun o=>xY hc (ButO.upd (xs:=[d]) (by simp)) (by simpa using dq)
    split
    · rename_i e1
      split
      · rename_i e2
        refine⟨d,A,{ S with late:=false },rfl,hm.fld,cel _,{ hB with },fun O' g1 g2 g3=>hR1 _ _ ⟨rfl,?_,g2,(ButO.upd (by simp)).trans g3⟩⟩
        have el:xw S= { lineE S with late:=false }:=by unfold xw;rw [if_pos ⟨e1,e2⟩]
        rw [el]
        exact jl g1 (by show mW A { lineE S with late:=false } =mW A (lineE S);simp [mW,(kL S).1]) rfl rfl
      · rename_i e2
        have el:xw S= { S with late:=false }:=by unfold xw;rw [if_neg (fun z=>e2 z.2)]
        exact hR1 _ _ ⟨rfl,by rw [el];exact hm.fld,cel _,ButO.upd (by simp)⟩
    · rename_i e1
      have el:xw S= { S with late:=false }:=by unfold xw;rw [if_neg (fun z=>e1 z.1)]
      have e0:S.late=false:=by simpa using e1
      refine hR1 _ _ ⟨rfl,?_,hc,ButO.refl⟩
      rw [el]
      exact jl hm (by simp [mW,e0]) rfl rfl
  rintro _ O1 ⟨rfl,hm1,hc1,bo1⟩
  have hd1:=hm1.d
  have hB1:=U5 hB
  obtain⟨ew,eh⟩:=U4 S
  obtain⟨hl,est1,ek1⟩:=VO S
  obtain⟨em,est,ek⟩:=zdt (A:=A) (c:=c) hl
  rw [<- qo] at em est ek
  generalize xw S=S1 at hm1 hd1 hB1 ew eh em est1 ek1 est ek
  obtain⟨rows,hq1,rl1,rw1⟩:=id hc1
  have r0:=hB1.r0
  have r1:=hB1.r1
  have c0:=hB1.c0
  have w2:=hB1.w2
  have eR1:=qv hB1
  refine qw (fun ρ' O'=>ρ'=[some (.own d),some (.d (.str c)),some (.d (.int (eR S1))),some (.row A.q S1.row.toNat)]/\O1=O') (fun R1 hR1=>?_) ?_
  · walk_at "wd"
    exact⟨d,A,S1,rfl,hd1,_,rfl,_,rfl,_,hd1,_,rfl,_,hd1,_,rfl,_,x3 hq1,_,xR r0 (by omega),hR1 _ _ ⟨rfl,rfl⟩⟩
  rintro _ _ ⟨rfl,rfl⟩
  refine yK (fun ρ' O'=>ρ'=[some (.own d),some (.d (.str c)),some (.d (.int (eR S1))),some (.row A.q S1.row.toNat)]/\Cel19 O' A.q S.w S.h/\ButO O1 O' [A.q]) (fun R1 hR1=>?_) ?_
  · have lj:S1.row.toNat < rows.length:=by omega
    have lw:=rw1 _ (List.getElem_mem lj)
    have sr:yN O1 (.row A.q S1.row.toNat)=some (rows[S1.row.toNat].map .d):=by simp [yN,hq1,List.getElem?_eq_getElem lj]
    have cl:=U3 (ds:=rows[S1.row.toNat]) (l:=S1.col) (r:=eR S1) c0 (by omega) (by rw [lw];omega)
    walk_at "wd"
    simp [hd1,and_assoc,zi,yB,zc,zy,yo,yp,yC,zU,yq,yD,yr,zV,yt,yE,zW,yu,ya,yb,yv,yy,zR,yi,yz,yj,zS,yk,yA,zT,yl,zZ,z7,ym]
    split
    · exact⟨_,sr,_,xG _,_,hq1,_,List.getElem?_eq_getElem lj,by omega,by omega,by omega,by omega,hR1 _ _ ⟨rfl,Cel19.set rl1 rw1 (by simp;omega),ButO.upd (by simp)⟩⟩
    · exact hR1 _ _ ⟨rfl,hc1,ButO.refl⟩
  rintro _ O2 ⟨rfl,hc2,bo2⟩
  have sq:A.sp≠A.q:=neW hm.sp hq0 (by intro h;cases h)
  have kq:A.kq≠A.q:=neW hm.kq hq0 (by intro h;cases h)
  have mk:∀ O',ButO O1 O' [A.q]->MAt O' d A S1:=fun O' bo=>hm1.butO bo (by simpa using Ne.symm dq) (by simpa using sq) (by simpa using kq)
  have hd2:=(mk O2 bo2).d
  obtain⟨rows2,hq2,rl2,rw2⟩:=id hc2
  refine yK (fun ρ' O'=>ρ'=[some (.own d),some (.d (.str c)),some (.d (.int (eR S1))),some (.row A.q S1.row.toNat)]/\Cel19 O' A.q S.w S.h/\ButO O1 O' [A.q]) (fun R1 hR1=>?_) ?_
  · have lj:S1.row.toNat < rows2.length:=by omega
    have lw:=rw2 _ (List.getElem_mem lj)
    walk_at "wd"
    simp [hd2,and_assoc,zi,yB,zc,zy,yo,yp,yC,zU,yq,yD,yr,zV,yt,yE,zW,yu,ya,yb,yv,yy,zR,yi,yz,yj,zS,yk,yA,zT,yl,zZ,z7,ym]
    exact⟨_,⟨_,rfl,rfl⟩,by show 2≤1000;omega,_,zdu hq2 (List.getElem?_eq_getElem lj) c0 (by omega),hR1 _ _ ⟨rfl,Cel19.set rl2 rw2 (by simp;omega),bo2.trans (ButO.upd (by simp))⟩⟩
  rintro _ O3 ⟨rfl,hc3,bo3⟩
  have hm3:=mk O3 bo3
  have hd3:=hm3.d
  have fin:∀ X:ST,mW A (putS0 c S)=mW A X->X.stops=S1.stops->X.kept=S1.kept->R (.d .none) (updO O3 d (.dK (mW A X))):=fun X e1 e2 e3=>
    h _ (jl (hm3.fld (S':=X) e2 e3) e1 (by rw [e2,est]) (by rw [e3,ek])) (xY hc3 (ButO.upd (xs:=[d]) (by simp)) (by simpa using dq)) (bo1.trans ((bo3.mono (by simp)).trans (ButO.upd (by simp))))
  walk_at "wd"
  simp [hd3,UX,and_assoc,zi,yB,zc,zy,yo,yp,yC,zU,yq,yD,yr,zV,yt,yE,zW,yu,ya,yb,yv,yy,zR,yi,yz,yj,zS,yk,yA,zT,yl,zZ,z7,ym]
  split
  · rename_i e
    rw [if_pos e] at em
    exact .inl (fin _ em rfl rfl)
  · rename_i e
    rw [if_neg e] at em
    exact .inl (fin _ em rfl rfl)
end
section
variable {S:ST}{ss:List Int}{r c:PyData}
noncomputable def stp (ss:List Int) (S:ST):ST:={ S with stops:=ss }
theorem zfm:plS r c (stp ss S)=stp ss (plS r c S):=by
 by_cases h:S.home=true <;> simp [plS,stp,h]
theorem za9:rowsS r c (stp ss S)=stp ss (rowsS r c S):=by
 by_cases h:xi c S.h < oneD r
 ·simp [rowsS,stp,h]
 ·by_cases h2:S.home=true <;> simp [rowsS,plS,stp,h,h2]
theorem zba:colsS r c (stp ss S)=stp ss (colsS r c S):=by
 by_cases h:xi c S.w < oneD r
 ·simp [colsS,stp,h]
 ·by_cases h2:S.home=true <;> simp [colsS,plS,stp,h,h2]
theorem zbb {k:Int}{on:Bool}:modeS k on (stp ss S)=stp ss (modeS k on S):=by
 by_cases h1:k= 1
 ·simp [modeS,stp,h1]
 ·by_cases h2:k= 2
  ·simp [modeS,stp,h2]
  ·by_cases h3:k= 3
   ·cases on <;> simp [modeS,plS,stp,h3]
   ·simp [modeS,stp,h1,h2,h3]
theorem zdv {ns:List PyData}:dyeS ns (stp ss S)=stp ss (dyeS ns S):=rfl
theorem zfn {n:Nat}{k:Int}:offS (goS n k (stp ss S))=stp ss (offS (goS n k S)):=by
 by_cases h1:n= 117
 ·(simp [goS,offS,stp,eT,h1] <;> rfl)
 ·by_cases h2:n= 100
  ·(simp [goS,offS,stp,eB,h2] <;> rfl)
  ·by_cases h3:n= 108
   ·(simp [goS,offS,stp,eL,h3] <;> rfl)
   ·by_cases h4:n= 114
    ·(simp [goS,offS,stp,eR,h4] <;> rfl)
    ·(simp [goS,offS,stp,h1,h2,h3,h4] <;> rfl)
theorem zbc:lineE (stp ss S)=stp ss (lineE S):=by
 by_cases h1:S.row=S.bottom
 ·(simp [lineE,leftS,rollS,mvS,stp,eL,h1] <;> rfl)
 ·by_cases h2:S.row < S.h - 1 <;> (simp [lineE,leftS,rollS,mvS,stp,eL,h1,h2] <;> rfl)
theorem zdw:xw (stp ss S)=stp ss (xw S):=by
 by_cases h:S.late=true/\S.wrap=true
 ·have e:xw S= { lineE S with late:=false }:=by unfold xw;rw [if_pos h]
  have e2:xw (stp ss S)= { lineE (stp ss S) with late:=false }:=by unfold xw;rw [if_pos (show (stp ss S).late=true/\(stp ss S).wrap=true from h)]
  rw [e,e2,zbc]
  rfl
 ·have e:xw S= { S with late:=false }:=by unfold xw;rw [if_neg h]
  have e2:xw (stp ss S)= { stp ss S with late:=false }:=by unfold xw;rw [if_neg (show ¬ ((stp ss S).late=true/\(stp ss S).wrap=true) from h)]
  rw [e,e2]
  rfl
theorem zbd {z:Str}:xC z (stp ss S)=stp ss (xC z S):=by
 rcases S with⟨w,h,row,col,late,ink,wrap,putting,home,top,bottom,left,right,last,pic,stops,kept⟩
 by_cases hc:col < (if col≤right then right else (w:Int) - 1) <;> cases putting <;> (simp [xC,cellsS,mvS,eR,hc,stp] <;> rfl)
theorem zdx {z:Str}:putS0 z (stp ss S)=stp ss (putS0 z S):=by
 rw [qo,qo,zdw,zbd]
theorem zgg {z:Str}:(putS0 z S).w=S.w/\(putS0 z S).h=S.h/\(putS0 z S).stops=S.stops/\(putS0 z S).kept=S.kept:=by
 have t:∀ S2:ST,(xC z S2).w=S2.w/\(xC z S2).h=S2.h/\(xC z S2).stops=S2.stops/\(xC z S2).kept=S2.kept:=fun S2=>by
  rcases S2 with⟨w,h,row,col,late,ink,wrap,putting,home,top,bottom,left,right,last,pic,stops,kept⟩
  by_cases hc:col < (if col≤right then right else (w:Int) - 1) <;> cases putting <;> simp [xC,cellsS,mvS,eR,hc]
 obtain⟨t1,t2,t3,t4⟩:=t (xw S)
 obtain⟨p1,p2⟩:=U4 S
 obtain⟨_,p3,p4⟩:=VO S
 rw [qo]
 exact⟨t1.trans p1,t2.trans p2,t3.trans p3,t4.trans p4⟩
theorem zdy {z:Str}(hB:Bds S):Bds (putS0 z S):=by
 have hP:=U5 hB
 have hR:=qv hP
 rw [qo]
 generalize xw S=S2 at hP hR
 have c0:=hP.c0
 have c1:=hP.c1
 rcases S2 with⟨w,h,row,col,late,ink,wrap,putting,home,top,bottom,left,right,last,pic,stops,kept⟩
 simp only [eR] at hR
 by_cases hc:col < (if col≤right then right else (w:Int) - 1)
 ·cases putting
  ·have e:xC z ⟨w,h,row,col,late,ink,wrap,false,home,top,bottom,left,right,last,pic,stops,kept⟩= { (⟨w,h,row,col,late,ink,wrap,false,home,top,bottom,left,right,last,pic,stops,kept⟩:ST) with pic:=setF pic row.toNat col.toNat (z,ink),last:=.str z,col:=col+1 }:=by simp [xC,eR,hc]
   rw [e]
   exact { hP with c0:=by simp only at c0 ⊢;omega,c1:=by simp only at hR ⊢;omega }
  ·have e:xC z ⟨w,h,row,col,late,ink,wrap,true,home,top,bottom,left,right,last,pic,stops,kept⟩= { xC z ⟨w,h,row,col,late,ink,wrap,true,home,top,bottom,left,right,last,pic,stops,kept⟩ with col:=col+1,row:=row,w:=w,h:=h,top:=top,bottom:=bottom,left:=left,right:=right,ink:=ink }:=by simp [xC,cellsS,mvS,eR,hc]
   rw [e]
   exact⟨hP.w1,hP.w2,hP.h1,hP.h2,hP.r0,hP.r1,by simp only at c0 ⊢;omega,by simp only at hR ⊢;omega,hP.t0,hP.tb,hP.b1,hP.l0,hP.lr,hP.rr,hP.i0,hP.i1⟩
 ·have e:xC z ⟨w,h,row,col,late,ink,wrap,putting,home,top,bottom,left,right,last,pic,stops,kept⟩= { xC z ⟨w,h,row,col,late,ink,wrap,putting,home,top,bottom,left,right,last,pic,stops,kept⟩ with col:=col,row:=row,w:=w,h:=h,top:=top,bottom:=bottom,left:=left,right:=right,ink:=ink }:=by cases putting <;> simp [xC,cellsS,mvS,eR,hc]
  rw [e]
  exact⟨hP.w1,hP.w2,hP.h1,hP.h2,hP.r0,hP.r1,hP.c0,hP.c1,hP.t0,hP.tb,hP.b1,hP.l0,hP.lr,hP.rr,hP.i0,hP.i1⟩
theorem VP:backS (stp ss S)=stp ss (backS S):=by
 show (match S.kept[S.kept.length - 1]? with |some k=>_ |none=>_)=stp ss (match S.kept[S.kept.length - 1]? with |some k=>_ |none=>_)
 cases S.kept[S.kept.length - 1]? <;> rfl
theorem Ky {c:Int}{l m:List Int}(h:l.Perm m) (nd:m.Nodup):(stopL l c).Perm (if c∈m then m else m ++ [c]):=by
 unfold stopL
 have h1:(l.filter (fun i=>decide (i≠c)) ++ [c]).Perm (m.filter (fun i=>decide (i≠c)) ++ [c]):=(h.filter _).append_right _
 refine h1.trans ?_
 split
 ·rename_i hc
  have e:m.filter (fun i=>decide (i≠c))=m.erase c:=by
   rw [nd.erase_eq_filter]
   apply List.filter_congr
   intro i _
   by_cases hi:i=c <;> simp [hi]
  rw [e]
  exact (List.perm_append_singleton c _).trans (List.perm_cons_erase hc).symm
 ·rename_i hc
  rw [List.filter_eq_self.2 (fun i hi=>by simp;rintro rfl;exact hc hi)]
theorem zdz {c:Int}{m:List Int}(nd:m.Nodup):(if c∈m then m else m ++ [c]).Nodup:=by
 split
 ·exact nd
 ·rename_i hc
  rw [List.nodup_append]
  exact⟨nd,by simp,fun a ha b hb=>by rw [List.mem_singleton.1 hb];rintro rfl;exact hc ha⟩
theorem YZ {w:Nat}(h:w≤24):(stopsI w).length≤5/\(stopsI w).Nodup/\∀ i∈stopsI w,0≤i/\i < 24:=by
 have key:∀ w:_root_.Fin 25,(stopsI w.val).length≤5/\(stopsI w.val).Nodup/\∀ i∈stopsI w.val,0≤i/\i < 24:=by decide +kernel
 exact key ⟨w,by omega⟩
end
noncomputable def cur (x p st kp d:Addr) (A:MA):List Addr:=[x,p,st,kp,d,A.sp,A.kq,A.q]
def Keeps (O O':OM) (c c':List Addr):Prop:=∀ b,b ∉ c->O b≠none->O' b=O b/\b ∉ c'
inductive sDo (C:Addr) (args:List W) (ws:List W) (O:OM) (R:WK):Prop
 |mk:∀ x dx p st kp d A S ss,ws=.own x :: .own d :: args->Al O C x dx p st kp d A S ss->S.stops.length < 90->(∀ st' kp' A' S' ss' O',Al O' C x dx p st' kp' d A' S' ss'->S'.w=S.w->S'.h=S.h->(S'.stops.length≤S.stops.length+1\/S'.stops.length≤5)->Keeps O O' (cur x p st kp d A) (cur x p st' kp' d A')->R (.d .none) O')->sDo C args ws O R
inductive sKDeed (C:Addr) (ws:List W) (O:OM) (R:WK):Prop
 |mk:∀ k:Int,((k= 0\/k= 1\/k= 2))->sDo C [.d (.int k)] ws O R->sKDeed C ws O R
inductive sDeed19 (C:Addr) (ws:List W) (O:OM) (R:WK):Prop
 |mk:∀ n:Int,∀ kf:Bool,0≤n->sDo C [.d (.int n),.d (.bool kf)] ws O R->sDeed19 C ws O R
section
variable {O O1 O2:OM}{C x dx p st kp st' kp' d:Addr}{A A':MA}{S S':ST}{ss:List Int}
theorem Keeps.trans {c1 c2 c3:List Addr}(a:Keeps O O1 c1 c2) (b:Keeps O1 O2 c2 c3):Keeps O O2 c1 c3:=fun z h0 h1=>by
 obtain⟨e1,n1⟩:=a z h0 h1
 obtain⟨e2,n2⟩:=b z n1 (by rw [e1];exact h1)
 exact⟨e2.trans e1,n2⟩
theorem nn {b c:Addr}{o:OO}(h1:O b=some o) (h2:O c=none):b≠c:=fun e=>by rw [e,h2] at h1;cases h1
theorem zdA (h:A.sp≠A.kq):Nx O A A:=⟨.inl rfl,.inl rfl,.inl rfl,h⟩
theorem ZC (b1:ButO O O1 (cur x p st kp d A)) (b2:ButO O1 O2 (cur x p st kp d A)) (h1:st'=st\/O1 st'=none) (h2:kp'=kp\/O1 kp'=none) (n:Nx O A A'):Keeps O O2 (cur x p st kp d A) (cur x p st' kp' d A'):=by
 intro b hb h0
 have e1:=b1 b hb h0
 have e2:=b2 b hb (by rw [e1];exact h0)
 have h01:O1 b≠none:=by rw [e1];exact h0
 refine⟨e2.trans e1,?_⟩
 simp only [cur,List.mem_cons,List.not_mem_nil,or_false,not_or] at hb ⊢
 obtain⟨q1,q2,q3,q4,q5,q6,q7,q8⟩:=hb
 have dif:∀ {y z:Addr},(y=z\/O1 y=none)->b≠z->b≠y:=fun {y z} h hz e=>by
  rcases h with h |h
  ·exact hz (e.trans h)
  ·rw [<- e] at h;exact h01 h
 have dif0:∀ {y z:Addr},(y=z\/O y=none)->b≠z->b≠y:=fun {y z} h hz e=>by
  rcases h with h |h
  ·exact hz (e.trans h)
  ·rw [<- e] at h;exact h0 h
 exact⟨q1,q2,dif h1 q3,dif h2 q4,q5,dif0 n.sp q6,dif0 n.kq q7,dif0 n.q q8⟩
theorem Al.sto {xs:List Addr}(a:Al O C x dx p st kp d A S ss) (b:ButO O O1 xs) (h:∀ y∈xs,y=d\/y=A.q\/y=A.kq):StAt O1 C x dx p st kp S:=by
 obtain⟨rows,hq,_⟩:=a.c
 have hd:=a.t.m.d
 have hk:=a.t.m.kq
 have hs:=a.t.s
 have go:∀ {y:Addr},y≠d->y≠A.q->y≠A.kq->y ∉ xs:=fun {y} h1 h2 h3 hy=>by
  rcases h y hy with e |e |e
  ·exact h1 e
  ·exact h2 e
  ·exact h3 e
 exact hs.butO b (go (neW hs.x hd (by intro h;cases h)) (neW hs.x hq (by intro h;cases h)) (neW hs.x hk (by intro h;cases h)))
  (go (neW hs.p hd (by intro h;cases h)) (Ne.symm a.qp) (neW hs.p hk (by intro h;cases h)))
  (go (Ne.symm a.t.ds) (neW hs.st hq (by intro h;cases h)) (neW hs.st hk (by intro h;cases h)))
  (go (neW hs.kp hd (by intro h;cases h)) (neW hs.kp hq (by intro h;cases h)) (Ne.symm a.t.bk))
theorem U6 (S:ST):(backS S).w=S.w/\(backS S).h=S.h/\(backS S).stops=S.stops:=by
 unfold backS
 split <;> exact⟨rfl,rfl,rfl⟩
theorem Al.done {ys:List Addr}(a:Al O C x dx p st kp d A S ss) (m1:MAt O1 d A' (stp ss S')) (c1:Cel19 O1 A'.q S'.w S'.h) (b1:ButO O O1 [d,A.q,A.kq]) (n:Nx O A A') (s2:StAt O2 C x dx p st kp S') (b2:ButO O1 O2 ys) (hy:∀ y∈ys,y=x\/y=p\/y=kp\/y=st)
  (bd:Bds S') (ko:KOk S') (ps:ss.Perm S'.stops) (ndp:S'.stops.Nodup) (shp:∀ i∈S'.stops,0≤i/\i < 24):Al O2 C x dx p st kp d A' S' ss/\Keeps O O2 (cur x p st kp d A) (cur x p st kp d A'):=by
 have hs1:StAt O1 C x dx p st kp S:=Al.sto a b1 (by intro y hy;simp only [List.mem_cons,List.not_mem_nil,or_false] at hy;rcases hy with h |h |h <;> simp [h])
 obtain⟨rows,hq,rr⟩:=id c1
 have dk:∀ {y z:Addr},(y=z\/O y=none)->z≠kp->y≠kp:=fun {y z} h hz e=>by
  rcases h with h |h
  ·exact hz (h.symm.trans e)
  ·rw [e,a.t.s.kp] at h;cases h
 have ak:A'.sp≠kp:=dk n.sp a.t.ak
 have bk:A'.kq≠kp:=dk n.kq a.t.bk
 have qp:A'.q≠p:=fun e=>by
  rcases n.q with h |h
  ·exact a.qp (h.symm.trans e)
  ·rw [e,a.t.s.p] at h;cases h
 have go:∀ {y:Addr},y≠x->y≠p->y≠kp->y≠st->y ∉ ys:=fun {y} h1 h2 h3 h4 hh=>by
  rcases hy y hh with e |e |e |e
  ·exact h1 e
  ·exact h2 e
  ·exact h3 e
  ·exact h4 e
 have d1:d ∉ ys:=go (neW m1.d hs1.x (by intro h;cases h)) (neW m1.d hs1.p (by intro h;cases h)) (neW m1.d hs1.kp (by intro h;cases h)) a.t.ds
 have d2:A'.sp ∉ ys:=go (neW m1.sp hs1.x (by intro h;cases h)) (neW m1.sp hs1.p (by intro h;cases h)) ak (neW m1.sp hs1.st (by intro h;cases h))
 have d3:A'.kq ∉ ys:=go (neW m1.kq hs1.x (by intro h;cases h)) (neW m1.kq hs1.p (by intro h;cases h)) bk (neW m1.kq hs1.st (by intro h;cases h))
 have d4:A'.q ∉ ys:=go (neW hq hs1.x (by intro h;cases h)) qp (neW hq hs1.kp (by intro h;cases h)) (neW hq hs1.st (by intro h;cases h))
 refine⟨⟨⟨s2,m1.butO b2 d1 d2 d3,a.t.ds,ak,bk,n.sk⟩,xY c1 b2 d4,qp,bd,ko,ps,ndp,shp⟩,ZC (b1.mono ?_) (b2.mono ?_) (.inl rfl) (.inl rfl) n⟩
 ·intro y hy
  simp only [List.mem_cons,List.not_mem_nil,or_false] at hy
  rcases hy with h |h |h <;> simp [cur,h]
 ·intro y hh
  rcases hy y hh with h |h |h |h <;> simp [cur,h]
theorem zgh {ys:List Addr}{ss':List Int}(a:Al O C x dx p st kp d A S ss) (m1:MAt O1 d A' (stp ss' S')) (c1:Cel19 O1 A'.q S'.w S'.h) (b1:ButO O O1 [d,A.q,A.kq]) (n:Nx O A A') (s2:StAt O2 C x dx p st kp S') (b2:ButO O1 O2 ys) (hy:∀ y∈ys,y=x\/y=p\/y=kp\/y=st)
  (bd:Bds S') (ko:KOk S') (ps:ss'.Perm S'.stops) (ndp:S'.stops.Nodup) (shp:∀ i∈S'.stops,0≤i/\i < 24):Al O2 C x dx p st kp d A' S' ss'/\Keeps O O2 (cur x p st kp d A) (cur x p st kp d A'):=by
 have hs1:StAt O1 C x dx p st kp S:=Al.sto a b1 (by intro y hy;simp only [List.mem_cons,List.not_mem_nil,or_false] at hy;rcases hy with h |h |h <;> simp [h])
 obtain⟨rows,hq,rr⟩:=id c1
 have dk:∀ {y z:Addr},(y=z\/O y=none)->z≠kp->y≠kp:=fun {y z} h hz e=>by
  rcases h with h |h
  ·exact hz (h.symm.trans e)
  ·rw [e,a.t.s.kp] at h;cases h
 have ak:A'.sp≠kp:=dk n.sp a.t.ak
 have bk:A'.kq≠kp:=dk n.kq a.t.bk
 have qp:A'.q≠p:=fun e=>by
  rcases n.q with h |h
  ·exact a.qp (h.symm.trans e)
  ·rw [e,a.t.s.p] at h;cases h
 have go:∀ {y:Addr},y≠x->y≠p->y≠kp->y≠st->y ∉ ys:=fun {y} h1 h2 h3 h4 hh=>by
  rcases hy y hh with e |e |e |e
  ·exact h1 e
  ·exact h2 e
  ·exact h3 e
  ·exact h4 e
 have d1:d ∉ ys:=go (neW m1.d hs1.x (by intro h;cases h)) (neW m1.d hs1.p (by intro h;cases h)) (neW m1.d hs1.kp (by intro h;cases h)) a.t.ds
 have d2:A'.sp ∉ ys:=go (neW m1.sp hs1.x (by intro h;cases h)) (neW m1.sp hs1.p (by intro h;cases h)) ak (neW m1.sp hs1.st (by intro h;cases h))
 have d3:A'.kq ∉ ys:=go (neW m1.kq hs1.x (by intro h;cases h)) (neW m1.kq hs1.p (by intro h;cases h)) bk (neW m1.kq hs1.st (by intro h;cases h))
 have d4:A'.q ∉ ys:=go (neW hq hs1.x (by intro h;cases h)) qp (neW hq hs1.kp (by intro h;cases h)) (neW hq hs1.st (by intro h;cases h))
 refine⟨⟨⟨s2,m1.butO b2 d1 d2 d3,a.t.ds,ak,bk,n.sk⟩,xY c1 b2 d4,qp,bd,ko,ps,ndp,shp⟩,ZC (b1.mono ?_) (b2.mono ?_) (.inl rfl) (.inl rfl) n⟩
 ·intro y hy
  simp only [List.mem_cons,List.not_mem_nil,or_false] at hy
  rcases hy with h |h |h <;> simp [cur,h]
 ·intro y hh
  rcases hy y hh with h |h |h |h <;> simp [cur,h]
theorem Al.same (a:Al O C x dx p st kp d A S ss) (m1:MAt O1 d A (stp ss S')) (c1:Cel19 O1 A.q S.w S.h) (b1:ButO O O1 [d,A.q]) (s2:StAt O2 C x dx p st kp S') (b2:But O1 O2 x p) (e:S'.w=S.w/\S'.h=S.h/\S'.stops=S.stops/\S'.kept=S.kept) (bd:Bds S'):Al O2 C x dx p st kp d A S' ss/\Keeps O O2 (cur x p st kp d A) (cur x p st kp d A):=
 Al.done a m1 (by rw [e.1,e.2.1];exact c1) (b1.mono (by intro y hy;simp only [List.mem_cons,List.not_mem_nil,or_false] at hy;rcases hy with h |h <;> simp [h])) (zdA a.t.ab) s2 b2.butO (by intro y hy;simp only [List.mem_cons,List.not_mem_nil,or_false] at hy;rcases hy with h |h <;> simp [h]) bd (a.k.of e) (by rw [e.2.2.1];exact a.ps) (by rw [e.2.2.1];exact a.nd) (by rw [e.2.2.1];exact a.sh)
end
section
variable {P:Program}{w:World}{K:W.Frag}{mg:Str->Option Value}{base:Heap}{f C:Addr}{fd:FuncData}
theorem ZD (F:Fun K "_law_kept_deed" "_law_kept_deed" vv f fd) (T:Txt K mg C) (zg2:Cal P w K mg base 3 "_law_kept" [] (zb K sKeptM)) (zhD:Cal P w K mg base 1 "keep" [] (zb K (sKeep C keepS))) (zhP:Cal P w K mg base 1 "take_back" [] (zb K (sKeep C backS))) (zhl:Cal P w K mg base 4 "begin_anew" [] (zb K (sAnew C))):FnOk P w K mg base CX0 5 f fd ["_law_state","_law_m","_law_way"] (zb K (sKDeed C)):=by
  have nd:=ut.nd
  apply F.okV ut (by rintro _ _ _ ⟨k,_,x,dx,p,st,kp,d,A,S,ss,rfl,_⟩;rfl) (fun cdv A outer sh H E hr=>(zd (yF (zn zg2 (hr.mono (by decide)) rfl (QA.pa (qc (pv 1) (qc (yJ jY zg (pv 2) (fun _ _=>rfl)) qn)))))
      (zd (yw (zx yW (pv 2) za (zE _)) (zf (yg (zn zhD (hr.mono (by decide)) rfl (QA.pa (qc (pv 0) qn))))) yh)
      (zd (yw (zx yW (pv 2) za (zE _)) (zf (yg (zn zhP (hr.mono (by decide)) rfl (QA.pa (qc (pv 0) qn))))) yh)
      (zf (yg (zn zhl (hr.mono (by decide)) rfl (QA.pa (qc (pv 0) qn)))))))))
  · walk_at "ref"
  rintro _ O R ⟨k,hk,x,dx,p,st,kp,d,A,S,ss,rfl,ha,hl,h⟩
  have hB:=ha.b
  have sl:(Str.ofString "vzZ").length≤sizeLine:=by rw [sizeLine_eq];decide +kernel
  have dk:∀ y∈[d,A.kq],y=d\/y=A.q\/y=A.kq:=by intro y hy;simp only [List.mem_cons,List.not_mem_nil,or_false] at hy;rcases hy with h |h <;> simp [h]
  have mk:∀ y∈[d,A.kq],y∈[d,A.q,A.kq]:=by intro y hy;simp only [List.mem_cons,List.not_mem_nil,or_false] at hy;rcases hy with h |h <;> simp [h]
  have xk:∀ y∈[x,kp],y=x\/y=p\/y=kp\/y=st:=by intro y hy;simp only [List.mem_cons,List.not_mem_nil,or_false] at hy;rcases hy with h |h <;> simp [h]
  rcases hk with rfl |rfl |rfl
  · walk_at "wd"
    refine⟨sl,118,by first |rfl |decide +kernel,118,d,A,stp ss S,.inl rfl,rfl,ha.t.m,ha.c,ha.t.ab,ha.k.1,hB.w1,hB.w2,hB.h1,hB.h2,fun A' O1 m1 c1 n1 b1=>⟨x,dx,p,st,kp,S,rfl,Al.sto ha b1 dk,ha.k.1,fun O2 s2 b2=>.inl ?_⟩⟩
    obtain⟨a2,k2⟩:=Al.done ha (S':=keepS S) m1 c1 (b1.mono mk) n1 s2 b2 xk { hB with } (ha.k.keep hB) ha.ps ha.nd ha.sh
    exact h _ _ _ _ _ _ a2 rfl rfl (.inl (Nat.le_succ _)) k2
  · walk_at "wd"
    obtain⟨e1,e2,e3⟩:=U6 S
    obtain⟨k1,k3⟩:=UZ ha.k hB
    refine⟨sl,122,by first |rfl |decide +kernel,122,d,A,stp ss S,.inr (.inl rfl),rfl,ha.t.m,ha.c,ha.t.ab,ha.k.1,hB.w1,hB.w2,hB.h1,hB.h2,fun A' O1 m1 c1 n1 b1=>⟨x,dx,p,st,kp,S,rfl,Al.sto ha b1 dk,ha.k.1,fun O2 s2 b2=>.inl ?_⟩⟩
    have m2:MAt O1 d A' (stp ss (backS S)):=by rw [<- VP];exact m1
    obtain⟨a2,k2⟩:=Al.done ha (S':=backS S) m2 (by rw [e1,e2];exact c1) (b1.mono mk) n1 s2 b2 xk k3 k1 (by rw [e3];exact ha.ps) (by rw [e3];exact ha.nd) (by rw [e3];exact ha.sh)
    exact h _ _ _ _ _ _ a2 e1 e2 (.inl (by rw [e3];exact Nat.le_succ _)) k2
  · walk_at "wd"
    obtain⟨s5,snd,ssh⟩:=YZ hB.w2
    refine⟨sl,90,by first |rfl |decide +kernel,90,d,A,stp ss S,.inr (.inr rfl),rfl,ha.t.m,ha.c,ha.t.ab,ha.k.1,hB.w1,hB.w2,hB.h1,hB.h2,fun A' O1 m1 c1 n1 b1=>?_⟩
    have s1:=Al.sto ha b1 dk
    refine⟨x,dx,p,st,kp,S,rfl,s1,hB,fun st' kp' O2 q1 q2 s2 b2=>.inl ?_⟩
    have m2:MAt O1 d A' (stp (stopsI S.w) (newS S)):=jl m1 rfl rfl rfl
    obtain⟨rows,hq,_⟩:=id c1
    have qp:A'.q≠p:=fun e=>by
      rcases n1.q with h |h
      · exact ha.qp (h.symm.trans e)
      · rw [e,ha.t.s.p] at h;cases h
    have go:∀ {y:Addr},y≠x->y≠p->y ∉ [x,p]:=fun {y} h1 h2 hh=>by
      simp only [List.mem_cons,List.not_mem_nil,or_false] at hh
      rcases hh with e |e
      · exact h1 e
      · exact h2 e
    have m3:=m2.butO b2 (go (neW m2.d s1.x (by intro h;cases h)) (neW m2.d s1.p (by intro h;cases h))) (go (neW m2.sp s1.x (by intro h;cases h)) (neW m2.sp s1.p (by intro h;cases h))) (go (neW m2.kq s1.x (by intro h;cases h)) (neW m2.kq s1.p (by intro h;cases h)))
    have c2:Cel19 O2 A'.q S.w S.h:=xY c1 b2 (go (neW hq s1.x (by intro h;cases h)) qp)
    refine h st' kp' A' (newS S) (stopsI S.w) O2 ⟨⟨s2,m3,nn m2.d q1,nn m2.sp q2,nn m2.kq q2,n1.sk⟩,c2,qp,{ (VJ (g:=S.pic) hB.w1 hB.w2 hB.h1 hB.h2) with },⟨by simp [newS,Zx,st0],by simp [newS,Zx,st0]⟩,List.Perm.refl _,snd,ssh⟩ rfl rfl (.inr s5) (ZC (b1.mono ?_) (b2.mono ?_) (.inr q1) (.inr q2) n1)
    · intro y hy
      simp only [List.mem_cons,List.not_mem_nil,or_false] at hy
      rcases hy with e |e <;> simp [cur,e]
    · intro y hy
      simp only [List.mem_cons,List.not_mem_nil,or_false] at hy
      rcases hy with e |e <;> simp [cur,e]
end
theorem qq {c:TTW}{T U:TSW}{D:EndsW}{ρ:WS}{O:OM}(q:Prop) [Decidable q] (hc:∀ R:Bool->OM->Prop,R (decide q) O->c ρ O R) (ht:q->∀ N:WS->OM->Prop,T { D with nx:=N } ρ O) (hu:¬ q->U D ρ O):vG (X0 c T Xn) U D ρ O:=
 yS (D:={ D with nx:=U D }) q hc (fun e=>ht e _) hu
theorem zdB {k:Int}(h0:0≤k) (h1:k < 4):∃ c,ltr c/\atI (Str.ofString "udlr").cps.toList k=some c:=by
 obtain⟨m,rfl⟩:=Int.eq_ofNat_of_zero_le h0
 rw [show (Str.ofString "udlr").cps.toList=[117,100,108,114] from by decide +kernel]
 match m,h1 with
 | 0,_=>exact⟨117,.inl rfl,rfl⟩
 | 1,_=>exact⟨100,.inr (.inl rfl),rfl⟩
 | 2,_=>exact⟨108,.inr (.inr (.inl rfl)),rfl⟩
 | 3,_=>exact⟨114,.inr (.inr (.inr rfl)),rfl⟩
 |k+4,h=>exact absurd h (by omega)
theorem zdC {k:Int}(h0:0≤k) (h1:k < 5):∃ c,atI (Str.ofString "ab~ #").cps.toList k=some c:=by
 obtain⟨m,rfl⟩:=Int.eq_ofNat_of_zero_le h0
 rw [show (Str.ofString "ab~ #").cps.toList=[97,98,126,32,35] from by decide +kernel]
 match m,h1 with
 | 0,_ | 1,_ | 2,_ | 3,_ | 4,_=>exact⟨_,rfl⟩
 |k+5,h=>exact absurd h (by omega)
theorem zfo {v k:Int}(h0:0≤k) (h1:k < 8) (hv:v= 1\/v= 2):∃ y:Int,(y= 0\/y= 1\/y= 2)/\atI (([.int 0,.int 0,.int 0,.int 0,.int 1,.int 1,.int 1,.int v]:List PyData).map W.d) k=some (.d (.int y)):=by
 obtain⟨m,rfl⟩:=Int.eq_ofNat_of_zero_le h0
 match m,h1 with
 | 0,_ | 1,_ | 2,_ | 3,_=>exact⟨0,.inl rfl,rfl⟩
 | 4,_ | 5,_ | 6,_=>exact⟨1,.inr (.inl rfl),rfl⟩
 | 7,_=>exact⟨v,.inr hv,rfl⟩
 |k+8,h=>exact absurd h (by omega)
section
variable {P:Program}{w:World}{K:W.Frag}{mg:Str->Option Value}{base:Heap}{f C:Addr}{fd:FuncData}
theorem Ur (F:Fun K "_law_deed" "_law_deed" qQ f fd) (T:Txt K mg C) (zg8:Cal P w K mg base 1 "_law_number" [] (zb K sNumM)) (zg3:Cal P w K mg base 5 "_law_kept_deed" [] (zb K (sKDeed C))) (zhi:Cal P w K mg base 4 "_law_written" [] (zb K sWrittenM)) (zhI:Cal P w K mg base 5 "put_sign" [] (zb K (sPutSign C))) (zhd:Cal P w K mg base 2 "_law_stepped" [] (zb K sSteppedM)) (zhy:Cal P w K mg base 2 "go" [] (zb K (zaV C))) (zhh:Cal P w K mg base 3 "_law_window" [] (zb K sWindowM)) (zhM:Cal P w K mg base 5 "set_rows" [] (zb K (sRows C))) (zhL:Cal P w K mg base 5 "set_columns" [] (zb K (sCols C))) (zg0:Cal P w K mg base 1 "_law_dyed" [] (zb K sDyedM)) (zht:Cal P w K mg base 4 "dye" [] (zb K (sDye C))) (zg7:Cal P w K mg base 3 "_law_moded" [] (zb K sModedM)) (zhT:Cal P w K mg base 5 "turn_modes" [] (zb K (sModes C))) (zg9:Cal P w K mg base 2 "_law_placed" [] (zb K sPlacedM)) (zhe:Cal P w K mg base 1 "_law_stops_set" [] (zb K sStopsM)) (zhS:Cal P w K mg base 3 "to_place" [] (zb K (sPlace C))) (zhN:Cal P w K mg base 1 "set_stop" [] (zb K (sSetStop C))):FnOk P w K mg base CX0 6 f fd ["_law_state","_law_m","_law_mixed_here","_law_is_keeping"] (zb K (sDeed19 C)):=by
  have nd:=kJ.nd
  apply F.okV kJ (by rintro _ _ _ ⟨n,kf,_,x,dx,p,st,kp,d,A,S,ss,rfl,_⟩;rfl) (fun cdv A outer sh H E hr=>(zd (yn (i:=4) nd rfl (Or.inl rfl) (zh yQ (pv 2) za))
      (zd (zdU (i:=5) (j:=6) rfl nd rfl rfl (by decide) rfl rfl (QA.pa (qc (zn zg8 (hr.mono (by decide)) rfl (QA.pa (qc (zh yV (pv 2) za) qn))) (qc (zn zg8 (hr.mono (by decide)) rfl (QA.pa (qc (zh yV (pv 2) za) qn))) qn))) rfl)
      (zd (yw (PW.pt (ub (zx vY (pv 4) za (zE _)) (vx (xH (pv 3))))) (zf (yg (zn zg3 (hr.mono (by decide)) rfl (QA.pa (qc (pv 0) (qc (pv 1) (qc za qn))))))) yh)
      (zd (yw (zx vY (pv 4) za (zE _)) (zf (yg (zn zg3 (hr.mono (by decide)) rfl (QA.pa (qc (pv 0) (qc (pv 1) (qc (yJ (xB (K:=K) rfl) (xn (qc za (qc za (qc za (qc za (qc za (qc za (qc za (qc (zh yM za (qr Jt (by rfl) T.n_int rfl (QA.pa (qc (vA ZJ (zh yQ (zh yV (pv 2) za) za) za (zE _)) qn)))) qn))))))))) (pv 4) (fun _ _=>rfl)) qn))))))) yh)
      (zd (yw (zx vY (pv 4) za (zE _)) (zd (yn (i:=7) nd rfl (Or.inl rfl) (yJ jY zg (zh yQ (zh yV (pv 2) za) za) (fun _ _=>rfl)))
      (zd (yF (zn zhi (hr.mono (by decide)) rfl (QA.pa (qc (pv 1) (qc (pv 7) qn)))))
      (zf (yg (zn zhI (hr.mono (by decide)) rfl (QA.pa (qc (pv 0) (qc (pv 7) qn)))))))) yh)
      (zd (yw (zx yW (pv 4) za (zE _)) (zd (yF (zn zhd (hr.mono (by decide)) rfl (QA.pa (qc (pv 1) (qc (yJ jY zg (zh yQ (zh yV (pv 2) za) za) (fun _ _=>rfl)) (qc (pv 6) qn))))))
      (zf (yg (zn zhy (hr.mono (by decide)) rfl (QA.pa (qc (pv 0) (qc (yJ jY zg (zh yQ (zh yV (pv 2) za) za) (fun _ _=>rfl)) (qc (pv 6) qn)))))))) yh)
      (zd (yw (zx yW (pv 4) za (zE _)) (zd (yF (zn zhh (hr.mono (by decide)) rfl (QA.pa (qc (pv 1) (qc (yJ jY zg (zh yQ (zh yV (pv 2) za) za) (fun _ _=>rfl)) (qc (pv 5) (qc (pv 6) qn)))))))
      (zd (yw (zx yW (zh yQ (zh yV (pv 2) za) za) za (zE _)) (zf (yg (zn zhM (hr.mono (by decide)) rfl (QA.pa (qc (pv 0) (qc (pv 5) (qc (pv 6) qn))))))) yh)
      (zf (yg (zn zhL (hr.mono (by decide)) rfl (QA.pa (qc (pv 0) (qc (pv 5) (qc (pv 6) qn))))))))) yh)
      (zd (yw (zx yW (pv 4) za (zE _)) (zd (yF (zn zg0 (hr.mono (by decide)) rfl (QA.pa (qc (pv 1) (qc (yL (qc (zh yQ (zh yV (pv 2) za) za) qn)) qn)))))
      (zf (yg (zn zht (hr.mono (by decide)) rfl (QA.pa (qc (pv 0) (qc (yL (qc (zh yQ (zh yV (pv 2) za) za) qn)) qn))))))) yh)
      (zd (yw (zx yW (pv 4) za (zE _)) (zd (yF (zn zg7 (hr.mono (by decide)) rfl (QA.pa (qc (pv 1) (qc (yL (qc (zh yG za (zh yQ (zh yV (pv 2) za) za)) qn)) (qc (vA yW (zh yQ (zh yV (pv 2) za) za) za (zE _)) qn))))))
      (zf (yg (zn zhT (hr.mono (by decide)) rfl (QA.pa (qc (pv 0) (qc (yL (qc (zh yG za (zh yQ (zh yV (pv 2) za) za)) qn)) (qc (vA yW (zh yQ (zh yV (pv 2) za) za) za (zE _)) qn)))))))) yh)
      (zd (yF (zn zg9 (hr.mono (by decide)) rfl (QA.pa (qc (pv 1) (qc (pv 5) (qc (pv 6) qn))))))
      (zd (yF (zn zhe (hr.mono (by decide)) rfl (QA.pa (qc (pv 1) (qc zg qn)))))
      (zd (yF (zn zhS (hr.mono (by decide)) rfl (QA.pa (qc (pv 0) (qc (pv 5) (qc (pv 6) qn))))))
      (zf (yg (zn zhN (hr.mono (by decide)) rfl (QA.pa (qc (pv 0) qn))))))))))))))))))
  · walk_at "ref"
  rintro _ O R ⟨n,kf,n0,x,dx,p,st,kp,d,A,S,ss,rfl,ha,hl,h⟩
  have hB:=ha.b
  have hst:S.stops.length≤S.stops.length+1:=Nat.le_succ _
  refine qw (fun ρ' O'=>∃ a b,NumD a/\NumD b/\ρ'=[some (.own x),some (.own d),some (.d (.int n)),some (.d (.bool kf)),some (.d (.int (n%16))),some (.d a),some (.d b),none]/\O=O') (fun R1 hR1=>?_) ?_
  · walk_at "wd"
    exact⟨⟨by omega,by omega⟩,_,rfl,by omega,fun a ha=>⟨⟨by omega,by omega⟩,_,rfl,by omega,fun b hb=>hR1 _ _ ⟨a,b,ha,hb,rfl,rfl⟩⟩⟩
  rintro _ _ ⟨a,b,hna,hnb,rfl,rfl⟩
  obtain⟨rows,hq,_⟩:=id ha.c
  have qd:A.q≠d:=neW hq ha.t.m.d (by intro h;cases h)
  have dB:∀ {O1:OM},ButO O O1 [d]->ButO O O1 [d,A.q]:=fun b=>b.mono (by simp)
  have st1:∀ {O1:OM},ButO O O1 [d,A.q]->StAt O1 C x dx p st kp S:=fun b=>Al.sto ha b (by intro y hy;simp only [List.mem_cons,List.not_mem_nil,or_false] at hy;rcases hy with h |h <;> simp [h])
  have cl:∀ {O1:OM},ButO O O1 [d]->Cel19 O1 A.q S.w S.h:=fun b=>xY ha.c b (by simpa using qd)
  have fin:∀ {S':ST}{O1 O2:OM},MAt O1 d A (stp ss S')->Cel19 O1 A.q S.w S.h->ButO O O1 [d,A.q]->StAt O2 C x dx p st kp S'->But O1 O2 x p->(S'.w=S.w/\S'.h=S.h/\S'.stops=S.stops/\S'.kept=S.kept)->Bds S'->Clo R (.d .none) O2:=fun m c b s b2 e bd=>by
    obtain⟨a2,k2⟩:=Al.same ha m c b s b2 e bd
    exact .inl (h _ _ _ _ _ _ a2 e.1 e.2.1 (.inl (by rw [e.2.2.1];exact hst)) k2)
  have kd:∀ k:Int,(k= 0\/k= 1\/k= 2)->sKDeed C [.own x,.own d,.d (.int k)] O (Clo R):=fun k hk=>⟨k,hk,x,dx,p,st,kp,d,A,S,ss,rfl,ha,hl,fun st' kp' A' S' ss' O' a1 a2 a3 a4 a5=>.inl (h st' kp' A' S' ss' O' a1 a2 a3 a4 a5)⟩
  refine qq (n%16 < 7/\kf=true) (fun R1 hR1=>?_) (fun e N=>?_) (fun e=>?_)
  · walk_at "wd"
    have:=jk hR1
    simpa using this
  · walk_at "wd"
    exact kd 0 (.inl rfl)
  refine qq (n%16 < 8) (fun R1 hR1=>?_) (fun e N=>?_) (fun e=>?_)
  · walk_at "wd"
    exact hR1
  · walk_at "wd"
    obtain⟨y,hy,ey⟩:=zfo (v:=2 - if 0 < n / 16%4 then 1 else 0) (k:=n%16) (by omega) (by omega) (by split <;> simp)
    exact⟨⟨by omega,by omega⟩,_,rfl,_,ey,kd y hy⟩
  refine qq (n%16 < 11) (fun R1 hR1=>?_) (fun e N=>?_) (fun e=>?_)
  · walk_at "wd"
    exact hR1
  · walk_at "wd"
    obtain⟨c,ec⟩:=zdC (k:=n / 16%5) (by omega) (by omega)
    exact⟨⟨by omega,by omega⟩,by rw [sizeLine_eq];decide +kernel,c,ec,_,d,A,stp ss S,rfl,ha.t.m,ha.c,{ hB with },fun O1 m1 c1 b1=>⟨_,x,dx,p,st,kp,S,rfl,st1 b1,hB,fun O2 s2 b2=>fin (by rw [<- zdx];exact m1) c1 b1 s2 b2 zgg (zdy hB)⟩⟩
  refine qq (n%16 = 11) (fun R1 hR1=>?_) (fun e N=>?_) (fun e=>?_)
  · walk_at "wd"
    exact hR1
  · walk_at "wd"
    obtain⟨c,hc,ec⟩:=zdB (k:=n / 16%4) (by omega) (by omega)
    have bo:Bds (offS (goS c (oneD b) S)):={ Bds.goS (c:=c) (n:=oneD b) (S:=S) (by have:=uz (n:=b);omega) ha.b with }
    have sl:(Str.ofString "udlr").length≤sizeLine:=by rw [sizeLine_eq];decide +kernel
    exact⟨⟨by omega,by omega⟩,sl,c,ec,c,b,hc,hnb,d,A,stp ss S,rfl,ha.t.m,{ hB with },fun O1 m1 b1=>⟨⟨by omega,by omega⟩,sl,c,ec,c,b,hc,hnb,x,dx,p,st,kp,S,rfl,st1 (dB b1),trivial,fun O2 s2 b2=>fin (by rw [<- zfn];exact m1) (cl b1) (dB b1) s2 b2 zfY bo⟩⟩
  refine qq (n%16 = 12) (fun R1 hR1=>?_) (fun e N=>?_) (fun e=>?_)
  · walk_at "wd"
    exact hR1
  · walk_at "wd"
    have sl:(Str.ofString "mM").length≤sizeLine:=by rw [sizeLine_eq];decide +kernel
    rcases (by omega:n / 4096%2 = 0\/n / 4096%2 = 1) with e2 |e2
    · exact⟨⟨by omega,by omega⟩,sl,109,by rw [e2];first |rfl |decide +kernel,109,a,b,.inl rfl,hna,hnb,d,A,stp ss S,rfl,ha.t.m,trivial,fun O1 m1 b1=>⟨⟨by omega,by omega⟩,(iff_of_eq (if_pos e2)).mpr ⟨a,b,hna,hnb,x,dx,p,st,kp,S,rfl,st1 (dB b1),trivial,fun O2 s2 b2=>fin (by rw [<- za9];exact m1) (cl b1) (dB b1) s2 b2 zde hB.rows⟩⟩⟩
    · exact⟨⟨by omega,by omega⟩,sl,77,by rw [e2];first |rfl |decide +kernel,77,a,b,.inr rfl,hna,hnb,d,A,stp ss S,rfl,ha.t.m,trivial,fun O1 m1 b1=>⟨⟨by omega,by omega⟩,(iff_of_eq (if_neg (by omega))).mpr ⟨a,b,hna,hnb,x,dx,p,st,kp,S,rfl,st1 (dB b1),trivial,fun O2 s2 b2=>fin (by rw [<- zba];exact m1) (cl b1) (dB b1) s2 b2 zdf hB.cols⟩⟩⟩
  refine qq (n%16 = 13) (fun R1 hR1=>?_) (fun e N=>?_) (fun e=>?_)
  · walk_at "wd"
    exact hR1
  · walk_at "wd"
    have q1:∀ m∈[PyData.int (n / 16%28)],∃ i:Int,m=.int i/\0≤i/\i≤27:=fun m hm=>by
      cases List.mem_singleton.1 hm
      exact⟨_,rfl,by omega,by omega⟩
    have q2:∀ m∈[PyData.int (n / 16%28)],NumD m:=fun m hm=>by
      obtain⟨i,rfl,i0,i1⟩:=q1 m hm
      exact⟨i0,by omega⟩
    exact⟨⟨by omega,by omega⟩,_,q1,d,A,stp ss S,rfl,ha.t.m,⟨hB.i0,hB.i1⟩,fun O1 m1 b1=>⟨⟨by omega,by omega⟩,_,q2,x,dx,p,st,kp,S,rfl,st1 (dB b1),⟨hB.i0,hB.i1⟩,fun O2 s2 b2=>fin (by rw [<- zdv];exact m1) (cl b1) (dB b1) s2 b2 ⟨rfl,rfl,rfl,rfl⟩ hB.dye⟩⟩
  refine qq (n%16 = 14) (fun R1 hR1=>?_) (fun e N=>?_) (fun e=>?_)
  · walk_at "wd"
    exact hR1
  · walk_at "wd"
    exact⟨⟨by omega,by omega⟩,⟨by omega,by omega⟩,_,_,by omega,d,A,stp ss S,rfl,ha.t.m,trivial,fun O1 m1 b1=>⟨⟨by omega,by omega⟩,⟨by omega,by omega⟩,_,_,x,dx,p,st,kp,S,rfl,st1 (dB b1),trivial,fun O2 s2 b2=>fin (by rw [<- zbb];exact m1) (cl b1) (dB b1) s2 b2 zdg hB.mode⟩⟩
  walk_at "wd"
  refine⟨a,b,hna,hnb,d,A,stp ss S,rfl,ha.t.m,trivial,fun O1 m1 b1=>?_⟩
  rw [zfm] at m1
  obtain⟨w1,w2,w3,w4⟩:=Ya (r:=a) (c:=b) (S:=S)
  have ls:ss.length=S.stops.length:=ha.ps.length_eq
  refine⟨d,A,stp ss (plS a b S),rfl,m1,ha.t.ab,by show ss.length < 100;omega,fun sp O2 s0 m2 sk b2=>?_⟩
  have sd:sp ∉ [d]:=by simp only [List.mem_singleton];rintro rfl;rw [m1.d] at s0;cases s0
  have b12:ButO O O2 [d]:=b1.trans b2
  refine⟨a,b,hna,hnb,x,dx,p,st,kp,S,rfl,st1 (dB b12),trivial,fun O3 s3 b3=>⟨x,dx,p,st,kp,_,rfl,s3,by rw [w3];omega,fun O4 s4 b4=>.inl ?_⟩⟩
  have hP:Bds (plS a b S):=hB.pl
  have pp:(stopL ss (plS a b S).col).Perm (stopS (plS a b S)).stops:=by
    show (stopL ss (plS a b S).col).Perm (if (plS a b S).col∈(plS a b S).stops then (plS a b S).stops else (plS a b S).stops ++ [(plS a b S).col])
    rw [w3]
    exact Ky ha.ps ha.nd
  have pn:(stopS (plS a b S)).stops.Nodup:=by
    show (if (plS a b S).col∈(plS a b S).stops then (plS a b S).stops else (plS a b S).stops ++ [(plS a b S).col]).Nodup
    rw [w3]
    exact zdz ha.nd
  have psh:∀ i∈(stopS (plS a b S)).stops,0≤i/\i < 24:=by
    intro i hi
    have hi':i∈(if (plS a b S).col∈S.stops then S.stops else S.stops ++ [(plS a b S).col]):=by
      have:=hi
      simp only [stopS,w3] at this
      exact this
    split at hi'
    · exact ha.sh i hi'
    · rcases List.mem_append.1 hi' with z |z
      · exact ha.sh i z
      · cases List.mem_singleton.1 z
        have:=hP.c0
        have:=hP.c1
        have:=hP.w2
        omega
  have pl:(stopS (plS a b S)).stops.length≤S.stops.length+1:=by
    show (if (plS a b S).col∈(plS a b S).stops then (plS a b S).stops else (plS a b S).stops ++ [(plS a b S).col]).length≤_
    rw [w3]
    split
    · omega
    · simp
  have m3:MAt O2 d { A with sp:=sp } (stp (stopL ss (plS a b S).col) (stopS (plS a b S))):=m2
  have os0:O sp=none:=b1.nn s0 sd
  have c2:Cel19 O2 A.q (stopS (plS a b S)).w (stopS (plS a b S)).h:=by
    show Cel19 O2 A.q (plS a b S).w (plS a b S).h
    rw [w1,w2]
    exact cl b12
  obtain⟨a2,k2⟩:=zgh (O1:=O2) (O2:=O4) (A':={ A with sp:=sp }) (S':=stopS (plS a b S)) (ss':=stopL ss (plS a b S).col) (ys:=[x,p,st]) ha m3 c2 (b12.mono (by simp)) ⟨.inr os0,.inl rfl,.inl rfl,sk⟩ s4 ((b3.butO.mono (by intro y hy;simp only [List.mem_cons,List.not_mem_nil,or_false] at hy;rcases hy with h |h <;> simp [h])).trans (b4.mono (by simp))) (by intro y hy;simp only [List.mem_cons,List.not_mem_nil,or_false] at hy;rcases hy with h |h |h <;> simp [h]) { hP with } (show KOk (stopS (plS a b S)) from (ha.k.of Ya:KOk (plS a b S))) pp pn psh
  exact h _ _ _ _ _ _ a2 w1 w2 (.inl pl) k2
end
structure Oth (O:OM) (C:Addr) (xs c:List Addr) (x dx p st kp:Addr) (S:ST):Prop where
 s:StAt O C x dx p st kp S
 a:∀ y∈[x,p,st,kp],y ∉ c
theorem Oth.keep {O O':OM}{C x dx p st kp:Addr}{xs c c':List Addr}{S:ST}(h:Oth O C xs c x dx p st kp S) (k:Keeps O O' c c'):Oth O' C xs c' x dx p st kp S:=by
 have k1:=k x (h.a x (by simp)) (by rw [h.s.x];simp)
 have k2:=k p (h.a p (by simp)) (by rw [h.s.p];simp)
 have k3:=k st (h.a st (by simp)) (by rw [h.s.st];simp)
 have k4:=k kp (h.a kp (by simp)) (by rw [h.s.kp];simp)
 refine⟨⟨by rw [k1.1];exact h.s.x,by rw [k2.1];exact h.s.p,by rw [k3.1];exact h.s.st,by rw [k4.1];exact h.s.kp⟩,fun y hy=>?_⟩
 simp only [List.mem_cons,List.not_mem_nil,or_false] at hy
 rcases hy with rfl |rfl |rfl |rfl
 ·exact k1.2
 ·exact k2.2
 ·exact k3.2
 ·exact k4.2
theorem Kz {O O1 O2:OM}{C x dx p st kp d:Addr}{A A':MA}{S:ST}{ss:List Int}(ha:Al O C x dx p st kp d A S ss) (m1:MAt O1 d A' (kS 122 (stp ss S))) (c1:Cel19 O1 A'.q S.w S.h) (n1:Nx O A A') (b1:ButO O O1 [d,A.kq]) (s2:StAt O2 C x dx p st kp (backS S)) (b2:ButO O1 O2 [x,kp]) :
  Al O2 C x dx p st kp d A' (backS S) ss/\Keeps O O2 (cur x p st kp d A) (cur x p st kp d A')/\(backS S).w=S.w/\(backS S).h=S.h/\(backS S).stops=S.stops:=by
 obtain⟨e1,e2,e3⟩:=U6 S
 obtain⟨k1,k3⟩:=UZ ha.k ha.b
 have m2:MAt O1 d A' (stp ss (backS S)):=by rw [<- VP];exact m1
 obtain⟨a2,k2⟩:=Al.done ha (S':=backS S) m2 (by rw [e1,e2];exact c1) (b1.mono (by intro y hy;simp only [List.mem_cons,List.not_mem_nil,or_false] at hy;rcases hy with h |h <;> simp [h])) n1 s2 b2 (by intro y hy;simp only [List.mem_cons,List.not_mem_nil,or_false] at hy;rcases hy with h |h <;> simp [h]) k3 k1 (by rw [e3];exact ha.ps) (by rw [e3];exact ha.nd) (by rw [e3];exact ha.sh)
 exact⟨a2,k2,e1,e2,e3⟩
theorem zb9 {S:ST}(h:∀ i∈S.stops,0≤i/\i < 24):∀ i∈S.stops,Sh i:=fun i hi=>by
 obtain⟨a,b⟩:=h i hi
 constructor <;> omega
theorem zdD {wd hg:Nat}{g:PF}:genG hg wd (newS (st0 wd hg g)).pic=genG hg wd (fun _ _=>blank 0):=by
 unfold genG
 apply List.map_congr_left
 intro i hi
 apply List.map_congr_left
 intro j hj
 have hi:=List.mem_range.1 hi
 have hj:=List.mem_range.1 hj
 have e:(newS (st0 wd hg g)).pic i j=blank 0:=by
  show (if j < wd/\(0:Int)≤(i:Int)*wd+j/\(i:Int)*wd+j < (wd:Int)*hg then blank 0 else g i j)=blank 0
  rw [if_pos]
  have g1:(i+1)*wd≤hg*wd:=Nat.mul_le_mul_right _ hi
  have g2:(i+1)*wd=i*wd+wd:=Nat.succ_mul _ _
  have g3:hg*wd=wd*hg:=Nat.mul_comm _ _
  have g4:i*wd+j < wd*hg:=by omega
  exact⟨hj,by exact_mod_cast Nat.zero_le _,by exact_mod_cast g4⟩
 rw [e]
inductive IvL (ns:List Int) (C x dx d x2 dx2 p p2 st2 kp2:Addr) (wd hg n:Nat) (O:OM):WS->Prop
 |mk (st kp:Addr) (A:MA) (S:ST) (ss:List Int) (v6 v7 v8 v9:Option W) (ha:Al O C x dx p st kp d A S ss) (ew:S.w=wd) (eh:S.h=hg) (hl:S.stops.length < n) (ho:Oth O C [] (cur x p st kp d A) x2 dx2 p2 st2 kp2 (st0 wd hg fun _ _=>blank 0)) :
  IvL ns C x dx d x2 dx2 p p2 st2 kp2 wd hg n O [some (.d (.list (ns.map .int))),some (.d (.int wd)),some (.d (.int hg)),some (.own x),some (.own x2),some (.own d),v6,v7,v8,v9]
section
variable {P:Program}{w:World}{K:W.Frag}{mg:Str->Option Value}{base:Heap}{f C:Addr}{fd:FuncData}
seal L2.PE L2.PS L2.PSs L2.PT L2.PA in
theorem zfp (F:Fun K "law" "law" Q7 f fd) (T:Txt K mg C) (zhc:Cal P w K mg base 1 "_law_size" [] (zb K sSizeM)) (zg6:Cal P w K mg base 1 "_law_mixed" [] (zb K sMixM)) (zgV:Cal P w K mg base 1 "_law_at" [] (zb K kX)) (c_State:CalM P w K mg base 4 "State" C (zb K (sInit C))) (zhb:Cal P w K mg base 2 "_law_screen" [] (zb K sScreenM)) (zgY:Cal P w K mg base 6 "_law_deed" [] (zb K (sDeed19 C))) (zg4:Cal P w K mg base 2 "_law_like" [] (zb K (sLikeP C))) (zg2:Cal P w K mg base 3 "_law_kept" [] (zb K sKeptM)) (zhP:Cal P w K mg base 1 "take_back" [] (zb K (sKeep C backS))) (zhl:Cal P w K mg base 4 "begin_anew" [] (zb K (sAnew C))) (zho:Cal P w K mg base 3 "blank_picture" [.int 0] (zb K sBlankPic)):FnOk P w K mg base CX0 7 f fd ["_law_script"] (zb K sLaw):=by
  have nd:=Ks.nd
  apply F.okV Ks (by rintro _ _ _ ⟨ns,rfl,_⟩;rfl) (fun cdv A outer sh H E hr=>(zd (xQ (zn zhc (hr.mono (by decide)) rfl (QA.pa (qc (zn zg6 (hr.mono (by decide)) rfl (QA.pa (qc (zn zgV (hr.mono (by decide)) rfl (QA.pa (qc (pv 0) (qc za qn)))) (qc za qn)))) qn))) (vP (K:=K) (n:=2) rfl rfl (yY (yx (i:=1) nd rfl (Or.inl rfl)) (yY (yx (i:=2) nd rfl (Or.inl rfl)) vL))))
      (zd (yn (i:=3) nd rfl (Or.inl rfl) (JQ c_State (hr.mono (by decide)) rfl (QA.pa (qc (pv 1) (qc (pv 2) qn)))))
      (zd (yn (i:=4) nd rfl (Or.inl rfl) (JQ c_State (hr.mono (by decide)) rfl (QA.pa (qc (pv 1) (qc (pv 2) qn)))))
      (zd (yn (i:=5) nd rfl (Or.inl rfl) (zn zhb (hr.mono (by decide)) rfl (QA.pa (qc (pv 1) (qc (pv 2) qn)))))
      (zd (xV PassesOwn.never rfl (X4 (K:=K) rfl rfl T.n_enumerate (QA.pa (qc (vN (qT (K:=K) rfl) (pv 0) (xL za) (xL za)) qn))) (vP (K:=K) (n:=2) rfl rfl (yY (yx (i:=6) nd rfl (Or.inl rfl)) (yY (yx (i:=7) nd rfl (Or.inl rfl)) vL)))
      (zd (yn (i:=8) nd rfl (Or.inl rfl) (zn zg6 (hr.mono (by decide)) rfl (QA.pa (qc (pv 7) (qc (pv 6) qn)))))
      (zd (yw (zx qR (zn zgY (hr.mono (by decide)) rfl (QA.pa (qc (pv 3) (qc (pv 5) (qc (pv 8) (qc (vA yW (zh yQ (zn zgV (hr.mono (by decide)) rfl (QA.pa (qc (pv 0) (qc za qn)))) za) za (zE _)) qn)))))) xo (zE _)) (zf (yg xa)) yh)
      (zf (yw (PW.pt (ZG (ZH (xH (zn zg4 (hr.mono (by decide)) rfl (QA.pa (qc (pv 3) (qc (pv 5) qn)))))) (ZF (zx Qd (yT (ke (K:=K) rfl) (by rfl) T.n_len (by rfl) (QA.pa (qc (zj (K:=K) rfl (pv 3) rfl) qn))) (yT (ke (K:=K) rfl) (by rfl) T.n_len (by rfl) (QA.pa (qc (zl (zw hr) (pv 5) zg (fun _ _=>rfl)) qn))) (zE _))))) (zf (yg xa)) yh)))))
      (zd (xV PassesOwn.never rfl (vy rfl T.n_range (QA.pa (qc (zh yG (yT (ke (K:=K) rfl) (by rfl) T.n_len (by rfl) (QA.pa (qc (zl (zw hr) (pv 5) zg (fun _ _=>rfl)) qn))) za) qn))) (yx (i:=9) nd rfl (Or.inl rfl))
      (zd (yF (zn zg2 (hr.mono (by decide)) rfl (QA.pa (qc (pv 5) (qc zg qn)))))
      (zf (yw (PW.pt (ZG (zx qR (zn zhP (hr.mono (by decide)) rfl (QA.pa (qc (pv 3) qn))) xo (zE _)) (ZF (ZH (xH (zn zg4 (hr.mono (by decide)) rfl (QA.pa (qc (pv 3) (qc (pv 5) qn))))))))) (zf (yg xa)) yh))))
      (zd (yF (zn zhl (hr.mono (by decide)) rfl (QA.pa (qc (pv 3) qn))))
      (zd (yn (i:=5) nd rfl (Or.inl rfl) (zn zhb (hr.mono (by decide)) rfl (QA.pa (qc (pv 1) (qc (pv 2) qn)))))
      (zd (yw (PW.pt (ZG (ZH (xH (zn zg4 (hr.mono (by decide)) rfl (QA.pa (qc (pv 3) (qc (pv 5) qn)))))) (ZG (zx (Kb (K:=K) rfl hr.units) (zj (K:=K) rfl (pv 3) rfl) (xn qn) (zE _)) (ZF (zx qR (zj (K:=K) rfl (pv 3) rfl) xo (zE _)))))) (zf (yg xa)) yh)
      (zf (yg (jS (vA (Ka (K:=K) rfl hr.units) (zj (K:=K) rfl (pv 3) rfl) (zn zho (hr.mono (by decide)) rfl (QA.pa (qc (pv 1) (qc (pv 2) qn)))) (zE _)) (jS (zn zg4 (hr.mono (by decide)) rfl (QA.pa (qc (pv 4) (qc (pv 5) qn)))) (Xy (vA (Ka (K:=K) rfl hr.units) (zj (K:=K) rfl (pv 4) rfl) (xn qn) (zE _)))))))))))))))))
  · walk_at "ref"
  rintro _ O R ⟨ns,rfl,_,hlen,h⟩
  refine yK (fun ρ' O'=>∃ wd hg:Nat,1≤wd/\wd≤24/\1≤hg/\hg≤12/\ρ'=[some (.d (.list (ns.map .int))),some (.d (.int wd)),some (.d (.int hg)),none,none,none,none,none,none,none]/\O=O') (fun R1 hR1=>?_) ?_
  · walk_at "wd"
    exact⟨ns,rfl,0,rfl,_,1,rfl,by decide,by decide,fun n n0 _=>⟨n,rfl,n0,fun wd hg a b c e=>⟨_,rfl,rfl,_,_,rfl,_,_,rfl,rfl,hR1 _ _ ⟨wd,hg,a,b,c,e,rfl,rfl⟩⟩⟩⟩
  rintro _ _ ⟨wd,hg,w1,w2,h1,h2,rfl,rfl⟩
  refine yK (fun ρ' O'=>∃ x dx p st kp,ρ'=[some (.d (.list (ns.map .int))),some (.d (.int wd)),some (.d (.int hg)),some (.own x),none,none,none,none,none,none]/\StAt O' C x dx p st kp (st0 wd hg fun _ _=>blank 0)) (fun R1 hR1=>?_) ?_
  · walk_at "wd"
    exact fun x dx hx=>⟨x,dx,wd,hg,rfl,zc,w1,w2,h1,h2,fun p st kp O' _ _ _ hs _=>⟨rfl,hR1 _ _ ⟨x,dx,p,st,kp,rfl,hs⟩⟩⟩
  rintro _ O1 ⟨x,dx,p,st,kp,rfl,hs1⟩
  refine yK (fun ρ' O'=>∃ x2 dx2 p2 st2 kp2,ρ'=[some (.d (.list (ns.map .int))),some (.d (.int wd)),some (.d (.int hg)),some (.own x),some (.own x2),none,none,none,none,none]/\StAt O' C x dx p st kp (st0 wd hg fun _ _=>blank 0)/\StAt O' C x2 dx2 p2 st2 kp2 (st0 wd hg fun _ _=>blank 0)/\∀ y∈[x2,p2,st2,kp2],y ∉ [x,p,st,kp]) (fun R1 hR1=>?_) ?_
  · walk_at "wd"
    refine fun x2 dx2 hx2=>⟨x2,dx2,wd,hg,rfl,zc,w1,w2,h1,h2,fun p2 st2 kp2 O' q1 q2 q3 hs2 hk=>⟨rfl,?_⟩⟩
    have np:∀ {a:Addr},updO O1 x2 (.ins C dx2 []) a=none->O1 a=none:=fun {a} e=>by
      have:a≠x2:=fun z=>by rw [z,zc] at e;cases e
      rw [ze this] at e
      exact e
    have keep:∀ {y:Addr}{o:OO},O1 y=some o->O' y=some o:=fun {y o} e=>by
      rw [hk y (nn e hx2) (nn e (np q1)) (nn e (np q2)) (nn e (np q3)),ze (nn e hx2)]
      exact e
    refine hR1 _ _ ⟨x2,dx2,p2,st2,kp2,rfl,?_,hs2,?_⟩
    · exact⟨keep hs1.x,keep hs1.p,keep hs1.st,keep hs1.kp⟩
    · intro y hy hz
      simp only [List.mem_cons,List.not_mem_nil,or_false] at hy hz
      have e1:O1 y=none:=by
        rcases hy with rfl |rfl |rfl |rfl
        · exact hx2
        · exact np q1
        · exact np q2
        · exact np q3
      rcases hz with rfl |rfl |rfl |rfl
      · rw [hs1.x] at e1;cases e1
      · rw [hs1.p] at e1;cases e1
      · rw [hs1.st] at e1;cases e1
      · rw [hs1.kp] at e1;cases e1
  rintro _ O2 ⟨x2,dx2,p2,st2,kp2,rfl,hs2,ho2,hap2⟩
  obtain⟨s5,snd,ssh⟩:=YZ w2
  have hB0:Bds (st0 wd hg fun _ _=>blank 0):=VJ w1 w2 h1 h2
  refine yK (fun ρ' O'=>∃ d A,ρ'=[some (.d (.list (ns.map .int))),some (.d (.int wd)),some (.d (.int hg)),some (.own x),some (.own x2),some (.own d),none,none,none,none]/\Al O' C x dx p st kp d A (st0 wd hg fun _ _=>blank 0) (stopsI wd)/\Oth O' C [] (cur x p st kp d A) x2 dx2 p2 st2 kp2 (st0 wd hg fun _ _=>blank 0)) (fun R1 hR1=>?_) ?_
  · walk_at "wd"
    refine⟨wd,hg,rfl,w1,w2,h1,h2,fun d A O' q1 q2 q3 q4 q5 q6 q7 q8=>hR1 _ _ ⟨d,A,rfl,?_,?_⟩⟩
    · exact⟨⟨hs2.butO (q8.butO (xs:=[])) (by simp) (by simp) (by simp) (by simp),q6,Ne.symm (nn hs2.st q1),Ne.symm (nn hs2.kp q2),Ne.symm (nn hs2.kp q3),q5⟩,q7,Ne.symm (nn hs2.p q4),hB0,⟨by simp [st0],by simp [st0]⟩,List.Perm.refl _,snd,ssh⟩
    · refine⟨ho2.butO (q8.butO (xs:=[])) (by simp) (by simp) (by simp) (by simp),fun y hy=>?_⟩
      have h4:=hap2 y hy
      have e1:∃ o,O2 y=some o:=by
        simp only [List.mem_cons,List.not_mem_nil,or_false] at hy
        rcases hy with rfl |rfl |rfl |rfl
        · exact⟨_,ho2.x⟩
        · exact⟨_,ho2.p⟩
        · exact⟨_,ho2.st⟩
        · exact⟨_,ho2.kp⟩
      obtain⟨o,e1⟩:=e1
      simp only [cur,List.mem_cons,List.not_mem_nil,or_false,not_or] at h4 ⊢
      exact⟨h4.1,h4.2.1,h4.2.2.1,h4.2.2.2,nn e1 q1,nn e1 q2,nn e1 q3,nn e1 q4⟩
  rintro _ O3 ⟨d,A,rfl,ha3,hot3⟩
  refine yK (fun ρ' O'=>IvL ns C x dx d x2 dx2 p p2 st2 kp2 wd hg 60 O' ρ') (fun R1 hR1=>?_) ?_
  · walk_at "wd"
    have hcm:∀ d∈vd (ns.map PyData.int) (some 1) (some 25),∃ n∈ns,d=.int n:=fun d hd=>by
      unfold vd at hd
      obtain⟨n,hn,rfl⟩:=List.mem_map.1 (List.mem_of_mem_drop (List.mem_of_mem_take hd))
      exact⟨n,hn,rfl⟩
    have hcl:(vd (ns.map PyData.int) (some 1) (some 25)).length≤24:=by
      unfold vd
      rw [show HT.sIx (ns.map PyData.int).length 0 (some 1)=min 1 (ns.map PyData.int).length from HT.sIx_nat _ 0 1,show HT.sIx (ns.map PyData.int).length (ns.map PyData.int).length (some 25)=min 25 (ns.map PyData.int).length from HT.sIx_nat _ _ 25,List.length_take,List.length_drop,List.length_map]
      omega
    generalize hcu:vd (ns.map PyData.int) (some 1) (some 25)=cu at hcl hcm
    refine⟨_,rfl,_,xG _,?_⟩
    rw [hcu]
    refine⟨_,rfl,_,xG _,?_⟩
    refine xF.by (fun i ρ O'=>IvL ns C x dx d x2 dx2 p p2 st2 kp2 wd hg (6+i) O' ρ) ⟨st,kp,A,_,_,_,_,_,_,ha3,rfl,rfl,Nat.lt_succ_of_le s5,hot3⟩ (fun _ _ _ _=>rfl) ?_ ?_
    · rintro i u _ O4 hu ⟨st,kp,A,S,ss,v6,v7,v8,v9,ha4,ew,eh,hsl,hot4⟩ R2 hR2
      rw [List.getElem?_zipWith] at hu
      cases hr:(List.range cu.length)[i]? with
      |none=>rw [hr] at hu;cases hu
      |some k=>
      rw [hr] at hu
      cases hdi:cu[i]? with
      |none=>rw [hdi] at hu;cases hu
      |some dd=>
      rw [hdi] at hu
      cases hu
      have hk:=List.mem_range.mp (List.mem_of_getElem? hr)
      have hik:i < cu.length:=(List.getElem?_eq_some_iff.1 hdi).1
      have k1:(k:Int)≤1000:=by omega
      obtain⟨c,_,rfl⟩:=hcm dd (List.mem_of_getElem? hdi)
      simp only [QF,Xo,QE,Z2,xD]
      refine⟨_,rfl,rfl,_,_,rfl,_,_,rfl,rfl,?_⟩
      refine yK (fun ρ' O'=>∃ n:Int,0≤n/\ρ'=[some (.d (.list (ns.map .int))),some (.d (.int wd)),some (.d (.int hg)),some (.own x),some (.own x2),some (.own d),some (.d (.int k)),some (.d (.int c)),some (.d (.int n)),v9]/\O4=O') (fun R3 hR3=>?_) ?_
      · walk_at "wd"
        exact⟨c,k,rfl,by omega,k1,fun n n0 _=>hR3 _ _ ⟨n,n0,rfl,rfl⟩⟩
      rintro _ _ ⟨n,n0,rfl,rfl⟩
      refine yK (fun ρ' O'=>IvL ns C x dx d x2 dx2 p p2 st2 kp2 wd hg (6+(i+1)) O' ρ') (fun R3 hR3=>?_) ?_
      · walk_at "wd"
        exact⟨ns,rfl,0,rfl,n,_,n0,x,dx,p,st,kp,d,A,S,ss,rfl,ha4,by omega,fun st' kp' A' S' ss' O' a1 a2 a3 a4 a5=>(iff_of_eq (if_pos rfl)).mpr (hR3 _ _ ⟨st',kp',A',S',ss',_,_,_,_,a1,a2.trans ew,a3.trans eh,by rcases a4 with z |z <;> omega,hot4.keep a5⟩)⟩
      rintro _ O5 ⟨st,kp,A,S,ss,v6,v7,v8,v9,ha5,ew5,eh5,hsl5,hot5⟩
      have hx5:=ha5.t.s.x
      have hd5:=ha5.t.m.d
      walk_at "wd"
      have hkp5:=ha5.t.s.kp
      have hkq5:=ha5.t.m.kq
      exact⟨x,dx,p,st,kp,d,A,S,ss,rfl,ha5.t.s,ha5.t.m,ha5.ps,ha5.b,by omega,zb9 ha5.sh,(iff_of_eq (if_pos rfl)).mpr ⟨C,dx,_,hx5,T.st.cl,T.st.n_kept,_,zD,S.kept.length,by simp [Zr,xD,yN,hkp5],_,hd5,_,rfl,S.kept.length,by simp [Zr,xD,yN,hkq5,stp],(iff_of_eq (if_pos rfl)).mpr (hR2 _ _ ⟨st,kp,A,S,ss,_,_,_,_,ha5,ew5,eh5,hsl5,hot5⟩)⟩⟩
    · rintro ρ O5 ⟨st,kp,A,S,ss,v6,v7,v8,v9,ha5,ew5,eh5,hsl5,hot5⟩
      exact hR1 _ _ ⟨st,kp,A,S,ss,_,_,_,_,ha5,ew5,eh5,by simp at hsl5;omega,hot5⟩
  rintro _ O4 ⟨st,kp,A,S,ss,v6,v7,v8,v9,ha4,ew4,eh4,hsl4,hot4⟩
  refine yK (fun ρ' O'=>IvL ns C x dx d x2 dx2 p p2 st2 kp2 wd hg 60 O' ρ') (fun R1 hR1=>?_) ?_
  · have hd4:=ha4.t.m.d
    have hkq4:=ha4.t.m.kq
    walk_at "wd"
    simp [hd4,and_assoc,zi,yB,zc,zy,yo,yp,yC,zU,yq,yD,yr,zV,yt,yE,zW,yu,ya,yb,yv,yy,zR,yi,yz,yj,zS,yk,yA,zT,yl,zZ,z7,ym]
    have k8:=ha4.k.1
    refine⟨S.kept.length,by simp [Zr,xD,yN,hkq4],by omega,by omega,?_⟩
    refine xF.rng (f:=fun i=>(i:Int)) (fun i ρ O'=>IvL ns C x dx d x2 dx2 p p2 st2 kp2 wd hg 60 O' ρ) ⟨st,kp,A,S,ss,_,_,_,_,ha4,ew4,eh4,hsl4,hot4⟩ ?_ (fun ρ O' z=>hR1 _ _ z)
    rintro i _ O5 hi ⟨st,kp,A,S,ss,v6,v7,v8,v9,ha5,ew5,eh5,hsl5,hot5⟩ R2 hR2
    walk_at "wd"
    refine⟨122,d,A,stp ss S,.inr (.inl rfl),rfl,ha5.t.m,ha5.c,ha5.t.ab,ha5.k.1,ha5.b.w1,ha5.b.w2,ha5.b.h1,ha5.b.h2,fun A' O6 m1 c1 n1 b1=>⟨x,dx,p,st,kp,S,rfl,Al.sto ha5 b1 (by intro y hy;simp only [List.mem_cons,List.not_mem_nil,or_false] at hy;rcases hy with h |h <;> simp [h]),ha5.k.1,fun O7 s2 b2=>?_⟩⟩
    obtain⟨a2,k2,e1,e2,e3⟩:=Kz ha5 m1 c1 n1 b1 s2 b2
    exact (iff_of_eq (if_pos rfl)).mpr ⟨x,dx,p,st,kp,d,A',backS S,ss,rfl,a2.t.s,a2.t.m,a2.ps,a2.b,by rw [e3];omega,zb9 a2.sh,(iff_of_eq (if_pos rfl)).mpr (hR2 _ _ ⟨st,kp,A',backS S,ss,_,_,_,_,a2,e1.trans ew5,e2.trans eh5,by rw [e3];exact hsl5,hot5.keep k2⟩)⟩
  rintro _ O5 ⟨st,kp,A,S,ss,v6,v7,v8,v9,ha5,ew5,eh5,hsl5,hot5⟩
  subst ew5
  subst eh5
  have hBn:Bds (newS S):={ (VJ (g:=S.pic) w1 w2 h1 h2) with }
  have notxp:∀ {y:Addr},y∈[x2,p2,st2,kp2]->y ∉ [x,p]:=fun {y} hy hz=>by
    have:=hot5.a y hy
    simp only [cur,List.mem_cons,List.not_mem_nil,or_false,not_or] at this hz
    rcases hz with e |e
    · exact this.1 e
    · exact this.2.1 e
  refine qw (fun ρ' O'=>∃ st kp d A,ρ'=[some (.d (.list (ns.map .int))),some (.d (.int S.w)),some (.d (.int S.h)),some (.own x),some (.own x2),some (.own d),v6,v7,v8,v9]/\StAt O' C x dx p st kp (newS S)/\StAt O' C x2 dx2 p2 st2 kp2 (st0 S.w S.h fun _ _=>blank 0)/\MAt O' d A (st0 S.w S.h fun _ _=>blank 0)) (fun R1 hR1=>?_) ?_
  · walk_at "wd"
    exact⟨x,dx,p,st,kp,S,rfl,ha5.t.s,ha5.b,fun st' kp' O6 q1 q2 s2 b2=>⟨S.w,S.h,rfl,w1,w2,h1,h2,fun d A O' q1 q2 q3 q4 q5 q6 q7 q8=>hR1 _ _ ⟨st',kp',d,A,rfl,s2.butO (q8.butO (xs:=[])) (by simp) (by simp) (by simp) (by simp),(hot5.s.butO b2 (notxp (by simp)) (notxp (by simp)) (notxp (by simp)) (notxp (by simp))).butO (q8.butO (xs:=[])) (by simp) (by simp) (by simp) (by simp),q6⟩⟩⟩
  rintro _ O6 ⟨st',kp',d',A',rfl,hs6,ho6,hm6⟩
  have hx6:=hs6.x
  have hy6:=ho6.x
  have hkp6:=hs6.kp
  have hkp7:=ho6.kp
  have mn:MAt O6 d' A' (stp (stopsI S.w) (newS S)):=jl hm6 rfl rfl rfl
  have shp:∀ i∈stopsI S.w,Sh i:=fun i hi=>by
    obtain⟨a,b⟩:=ssh i hi
    constructor <;> omega
  refine yK (fun ρ' O'=>ρ'=[some (.d (.list (ns.map .int))),some (.d (.int S.w)),some (.d (.int S.h)),some (.own x),some (.own x2),some (.own d'),v6,v7,v8,v9]/\O6=O') (fun R1 hR1=>?_) ?_
  · walk_at "wd"
    exact⟨x,dx,p,st',kp',d',A',newS S,stopsI S.w,rfl,hs6,mn,List.Perm.refl _,hBn,by show (stopsI S.w).length < 64;omega,shp,(iff_of_eq (if_pos rfl)).mpr ⟨C,dx,_,hx6,T.st.cl,T.st.n_kept,_,zD,.list [],by simp [vO,hkp6,xq,newS,Zx,st0],.list [],rfl,rfl,rfl,(iff_of_eq (if_pos rfl)).mpr ⟨C,dx,_,hx6,T.st.cl,T.st.n_last,_,zH,hR1 _ _ ⟨rfl,rfl⟩⟩⟩⟩
  rintro _ _ ⟨rfl,rfl⟩
  walk_at "wd"
  simp [hx6,hy6,yH,and_assoc,zi,T.st.cl,T.st.n_picture,T.st.n_wide,T.st.n_high,T.st.n_row,T.st.n_column,T.st.n_late,T.st.n_ink,T.st.n_wrap,T.st.n_putting,T.st.n_home,T.st.n_top,T.st.n_bottom,T.st.n_left,T.st.n_right,T.st.n_stops,T.st.n_kept,T.st.n_last,zo,zK,zL,yc,zu,zM,yd,zN,zq,zO,ye,zv,zP,zA,zB,zD,zH,zX,zr,zF,zY,zG,zm,zI,z9,zt,zJ,zz,zQ]
  refine⟨S.w,S.h,0,rfl,w1,w2,h1,h2,fun q hq=>?_⟩
  have okb:PyData.strOk (blank 0).1 =true:=by decide +kernel
  have shg:SeqAt.shaped (.list ((genG S.h S.w fun _ _=>blank 0).map PyData.list))=true:=V4 (fun _ _ _ _=>okb)
  have ho7:StAt (updO O6 q (.grid (genG S.h S.w fun _ _=>blank 0))) C x2 dx2 p2 st2 kp2 (st0 S.w S.h fun _ _=>blank 0):=ho6.butO (ButO.new hq (xs:=[])) (by simp) (by simp) (by simp) (by simp)
  have hm7:MAt (updO O6 q (.grid (genG S.h S.w fun _ _=>blank 0))) d' A' (st0 S.w S.h fun _ _=>blank 0):=hm6.butO (ButO.new hq (xs:=[])) (by simp) (by simp) (by simp)
  have hk7:=ho7.kp
  refine⟨.list ((genG S.h S.w fun _ _=>blank 0).map .list),?_,.list ((genG S.h S.w fun _ _=>blank 0).map .list),by simp only [vO,zc],shg,shg,?_⟩
  · simp only [vO,ze (nn hs6.p hq),hs6.p]
    rw [show genG (newS S).h (newS S).w (newS S).pic=genG S.h S.w (fun _ _=>blank 0) from zdD (wd:=S.w) (hg:=S.h) (g:=S.pic)]
  rw [if_pos zaX]
  exact⟨x2,dx2,p2,st2,kp2,d',A',_,stopsI S.w,rfl,ho7,hm7,List.Perm.refl _,VJ w1 w2 h1 h2,by show (stopsI S.w).length < 64;omega,shp,.inr ⟨rfl,C,dx2,_,ho7.x,T.st.cl,T.st.n_kept,_,zD,.list [],by simp [vO,hk7,xq,st0],.list [],rfl,rfl,rfl,.inl (h _)⟩⟩
end
noncomputable abbrev EF (K:W.Frag) (mg:Str->Option Value) (x:Str) (st:Stmt):Prop:=∃ f fd,Fun K x x st f fd/\mg x=some (.ref f)
theorem Yk {P:Program}{w:World}{K:W.Frag}{mg:Str->Option Value}{base:Heap}{k:Nat}{x:Str}{st:Stmt}{ps:List Str}{sp:Sp}(e:EF K mg x st) (ok:∀ f fd,Fun K x x st f fd->FnOk P w K mg base CX0 k f fd ps sp) (hb:∀ kV doc pm an cdv ct us,us.length=ps.length->bindArgs (PySem.W.fnOf x x (defArgs st) (defBody st) (defScope st) .none kV doc pm an cdv ct) ⟨us,[]⟩=pure (ps.zip us)):Cal P w K mg base k x [] sp:=by
 obtain⟨f,fd,F,m⟩:=e
 exact⟨f,fd,ps,[],ok f fd F,m,F.kp,F.binds hb,.nil⟩
theorem xK {P:Program}{w:World}{K:W.Frag}{mg:Str->Option Value}{base:Heap}{k:Nat}{x:Str}{st:Stmt}{ps:List Str}{sp:Sp}(e:EF K mg x st) (ok:∀ f fd,Fun K x x st f fd->FnOk P w K mg base CX0 k f fd ps sp) (hl:ps.length= 1) (hb:∀ kV doc pm an cdv ct a,bindArgs (PySem.W.fnOf x x (defArgs st) (defBody st) (defScope st) .none kV doc pm an cdv ct) ⟨[a],[]⟩=pure (ps.zip [a])):Cal P w K mg base k x [] sp:=Yk e ok fun _ _ _ _ _ _ us h=>match us,h.trans hl with |[a],_=>hb _ _ _ _ _ _ _
theorem xZ {P:Program}{w:World}{K:W.Frag}{mg:Str->Option Value}{base:Heap}{k:Nat}{x:Str}{st:Stmt}{ps:List Str}{sp:Sp}(e:EF K mg x st) (ok:∀ f fd,Fun K x x st f fd->FnOk P w K mg base CX0 k f fd ps sp) (hl:ps.length= 2) (hb:∀ kV doc pm an cdv ct a b,bindArgs (PySem.W.fnOf x x (defArgs st) (defBody st) (defScope st) .none kV doc pm an cdv ct) ⟨[a,b],[]⟩=pure (ps.zip [a,b])):Cal P w K mg base k x [] sp:=Yk e ok fun _ _ _ _ _ _ us h=>match us,h.trans hl with |[a,b],_=>hb _ _ _ _ _ _ _ _
theorem vw {P:Program}{w:World}{K:W.Frag}{mg:Str->Option Value}{base:Heap}{k:Nat}{x:Str}{st:Stmt}{ps:List Str}{sp:Sp}(e:EF K mg x st) (ok:∀ f fd,Fun K x x st f fd->FnOk P w K mg base CX0 k f fd ps sp) (hl:ps.length= 3) (hb:∀ kV doc pm an cdv ct a b c,bindArgs (PySem.W.fnOf x x (defArgs st) (defBody st) (defScope st) .none kV doc pm an cdv ct) ⟨[a,b,c],[]⟩=pure (ps.zip [a,b,c])):Cal P w K mg base k x [] sp:=Yk e ok fun _ _ _ _ _ _ us h=>match us,h.trans hl with |[a,b,c],_=>hb _ _ _ _ _ _ _ _ _
theorem zbe {P:Program}{w:World}{K:W.Frag}{mg:Str->Option Value}{base:Heap}{k:Nat}{x:Str}{st:Stmt}{ps:List Str}{sp:Sp}(e:EF K mg x st) (ok:∀ f fd,Fun K x x st f fd->FnOk P w K mg base CX0 k f fd ps sp) (hl:ps.length= 4) (hb:∀ kV doc pm an cdv ct a b c d,bindArgs (PySem.W.fnOf x x (defArgs st) (defBody st) (defScope st) .none kV doc pm an cdv ct) ⟨[a,b,c,d],[]⟩=pure (ps.zip [a,b,c,d])):Cal P w K mg base k x [] sp:=Yk e ok fun _ _ _ _ _ _ us h=>match us,h.trans hl with |[a,b,c,d],_=>hb _ _ _ _ _ _ _ _ _ _
theorem fk {K:W.Frag}{h:Heap}{mg:Str->Option Value}{x:Str}{st:Stmt}{f:Addr}{oc kV doc pm cd ct:Value}{od an:Option Addr}{sl:Array (Option Value)}(X:K.In h) (G:h.Ns mainGlobals mg)
  (a:PySem.W.nsIn K mainGlobals x=some (some (.ref f))) (l:K.lookup f=some ⟨oc,od,.func (PySem.W.fnOf x x (defArgs st) (defBody st) (defScope st) .none kV doc pm an cd ct),sl⟩) (c:PySem.W.codeIn K cd x=true) (k:PySem.W.keepIn K (.ref f)=true) :
  EF K mg x st:=⟨f,_,XJ (st:=st) l c k,PySem.W.mg_of X G a⟩
theorem fkD {K:W.Frag}{h:Heap}{mg:Str->Option Value}{x:Str}{st:Stmt}{f D:Addr}{oc kV doc pm cd ct:Value}{od an:Option Addr}{sl:Array (Option Value)}{oD:Obj}{ds:List Value}{n:Nat}(X:K.In h) (G:h.Ns mainGlobals mg)
  (a:PySem.W.nsIn K mainGlobals x=some (some (.ref f))) (l:K.lookup f=some ⟨oc,od,.func (PySem.W.fnOf x x (defArgs st) (defBody st) (defScope st) (.ref D) kV doc pm an cd ct),sl⟩) (c:PySem.W.codeIn K cd x=true) (k:PySem.W.keepIn K (.ref f)=true)
  (t:K.lookup D=some oD) (e:oD.data=.seq ds.toArray n):∃ f fd,FunD K x x st ds f fd/\mg x=some (.ref f):=⟨f,_,⟨⟨oc,od,kV,doc,pm,an,cd,ct,sl,D,oD,n,rfl,l,c,t,e⟩,k⟩,PySem.W.mg_of X G a⟩
theorem mk_State {K:W.Frag}{C f:Addr}{oc kV doc pm cd ct:Value}{od an:Option Addr}{sl:Array (Option Value)}(mk:PySem.W.makesIn K C=true) (a1:PySem.W.findIn K (.ref C) "__init__" =some (some (.ref f))) (i1:PySem.W.isFn K (.ref f)=true) (kc:PySem.W.keepIn K (.ref C)=true)
  (l:K.lookup f=some ⟨oc,od,.func (PySem.W.fnOf "__init__" "State.__init__" (defArgs y7) (defBody y7) (defScope y7) .none kV doc pm an cd ct),sl⟩) (c:PySem.W.codeIn K cd "State.__init__" =true) (k:PySem.W.keepIn K (.ref f)=true) :
  ∃ f fd,Mk K C f/\Fun K "__init__" "State.__init__" y7 f fd:=⟨f,_,⟨mk,a1,i1,kc⟩,XJ (st:=y7) l c k⟩
theorem mt_begin {K:W.Frag}{C f:Addr}{oc kV doc pm cd ct:Value}{od an:Option Addr}{sl:Array (Option Value)}(a1:PySem.W.findIn K (.ref C) "begin" =some (some (.ref f))) (i1:PySem.W.isFn K (.ref f)=true)
  (l:K.lookup f=some ⟨oc,od,.func (PySem.W.fnOf "begin" "State.begin" (defArgs xA) (defBody xA) (defScope xA) .none kV doc pm an cd ct),sl⟩) (c:PySem.W.codeIn K cd "State.begin" =true) (k:PySem.W.keepIn K (.ref f)=true) :
  ∃ f fd,Meth K C "begin" f/\Fun K "begin" "State.begin" xA f fd:=⟨f,_,⟨a1,i1,k⟩,XJ (st:=xA) l c k⟩
theorem VQ {K:W.Frag}{f:Addr}{fd:FuncData}{d:Value}(F:FunD K "blank_row" "blank_row" vm [d] f fd):Binds K fd ["wide","ink"] []:=
 F.binds fun T kV doc pm an cdv ct us hl=>match us,hl with |[_,_],_=>⟨_,rfl,rfl⟩
theorem Xh {K:W.Frag}{f:Addr}{fd:FuncData}{d:Value}(F:FunD K "blank_row" "blank_row" vm [d] f fd):Binds K fd ["wide","ink"] [d]:=
 F.binds fun T kV doc pm an cdv ct us hl=>by
  have h2:us.length= 1:=by simpa using hl
  match us,h2 with
  |[_],_=>exact⟨_,rfl,rfl⟩
theorem ZE {K:W.Frag}{f:Addr}{fd:FuncData}{d:Value}(F:FunD K "blank_picture" "blank_picture" xS [d] f fd):Binds K fd ["wide","high","ink"] []:=
 F.binds fun T kV doc pm an cdv ct us hl=>match us,hl with |[_,_,_],_=>⟨_,rfl,rfl⟩
theorem Zb {K:W.Frag}{f:Addr}{fd:FuncData}{d:Value}(F:FunD K "blank_picture" "blank_picture" xS [d] f fd):Binds K fd ["wide","high","ink"] [d]:=
 F.binds fun T kV doc pm an cdv ct us hl=>by
  have h2:us.length= 2:=by simpa using hl
  match us,h2 with
  |[_,_],_=>exact⟨_,rfl,rfl⟩
theorem KA {K:W.Frag}{f:Addr}{fd:FuncData}{d:Value}(F:FunD K "ink_of" "ink_of" u7 [d] f fd):Binds K fd ["fore","back","marks"] []:=
 F.binds fun T kV doc pm an cdv ct us hl=>match us,hl with |[_,_,_],_=>⟨_,rfl,rfl⟩
theorem Jj {K:W.Frag}{f:Addr}{fd:FuncData}{d:Value}(F:FunD K "ink_of" "ink_of" u7 [d] f fd):Binds K fd ["fore","back","marks"] [d]:=
 F.binds fun T kV doc pm an cdv ct us hl=>by
  have h2:us.length= 2:=by simpa using hl
  match us,h2 with
  |[_,_],_=>exact⟨_,rfl,rfl⟩
theorem all_mk {P:Program}{w:World}{K:W.Frag}{mg:Str->Option Value}{fa C:Addr}(T:Txt K mg C) (hfa:mg "law" =some (.ref fa)) (e_State:∃ f fd,Mk K C f/\Fun K "__init__" "State.__init__" y7 f fd) (e_begin:∃ f fd,Meth K C "begin" f/\Fun K "begin" "State.begin" xA f fd)
  (zim:EF K mg "_law_size" qL)
  (zig:EF K mg "_law_mixed" qf)
  (zh5:EF K mg "_law_at" kD)
  (ziK:EF K mg "is_whole" jD)
  (ziJ:EF K mg "is_size" kn)
  (ziF:EF K mg "first_stops" uh)
  (zh6:EF K mg "_law_begun" qg)
  (zil:EF K mg "_law_screen" uq)
  (zii:EF K mg "_law_number" uk)
  (zic:EF K mg "_law_kept" qN)
  (ziL:EF K mg "keep" Vt)
  (ziY:EF K mg "take_back" qJ)
  (zix:EF K mg "blank_of" jF)
  (zi5:EF K mg "wipe_places" ui)
  (zi4:EF K mg "wipe" Vs)
  (ziw:EF K mg "begin_anew" u9)
  (zid:EF K mg "_law_kept_deed" vv)
  (zib:EF K mg "_law_edges" qh)
  (zh7:EF K mg "_law_blank" qk)
  (zik:EF K mg "_law_rolled" uo)
  (zif:EF K mg "_law_line_end" vK)
  (zit:EF K mg "_law_written" vX)
  (ziE:EF K mg "edges" Yz)
  (zi0:EF K mg "to_left_edge" vV)
  (ziA:EF K mg "copied" Zz)
  (ziS:EF K mg "roll_rows" qK)
  (ziT:EF K mg "roll_up" kC)
  (ziN:EF K mg "line_end" jJ)
  (ziu:EF K mg "at_least_one" vT)
  (ziP:EF K mg "move_cells" u8)
  (ziQ:EF K mg "put_cells" qI)
  (ziR:EF K mg "put_sign" jK)
  (ziq:EF K mg "_law_times" qi)
  (zin:EF K mg "_law_stepped" vW)
  (ziH:EF K mg "go" zaZ)
  (zij:EF K mg "_law_placed" ul)
  (zis:EF K mg "_law_window" um)
  (ziX:EF K mg "span" Vu)
  (ziB:EF K mg "counted" kz)
  (zi1:EF K mg "to_place" jG)
  (ziZ:EF K mg "to_home" kA)
  (ziV:EF K mg "set_rows" jI)
  (ziU:EF K mg "set_columns" uj)
  (zia:EF K mg "_law_dyed" qM)
  (zi8:EF K mg "with_mark" qH)
  (zi9:EF K mg "without_mark" vR)
  (zi3:EF K mg "turned_marks" vS)
  (ziv:EF K mg "back_of" km)
  (ziO:EF K mg "marks_of" jE)
  (zi7:EF K mg "with_fore" qF)
  (ziG:EF K mg "fore_of" kj)
  (zi6:EF K mg "with_back" qG)
  (ziD:EF K mg "dyed" Vv)
  (ziC:EF K mg "dye" Q4)
  (zih:EF K mg "_law_moded" qj)
  (zi2:EF K mg "turn_modes" qe)
  (zio:EF K mg "_law_stops_set" vt)
  (ziW:EF K mg "set_stop" jH)
  (zh8:EF K mg "_law_deed" qQ)
  (zir:EF K mg "_law_told" qO)
  (zh9:EF K mg "_law_due" jL)
  (zie:EF K mg "_law_like" qP)
  (ziM:EF K mg "law" Q7)
  (ziz:∃ t f fd,FunD K "blank_row" "blank_row" vm [.int 0 t] f fd/\mg "blank_row" =some (.ref f))
  (ziy:∃ t f fd,FunD K "blank_picture" "blank_picture" xS [.int 0 t] f fd/\mg "blank_picture" =some (.ref f))
  (ziI:∃ t f fd,FunD K "ink_of" "ink_of" u7 [.int 0 t] f fd/\mg "ink_of" =some (.ref f)) :
  ∃ fd:FuncData,(∀ (s:Shared) (v:Value),BindsTo s fd ⟨[v],[]⟩ [("_law_script",v)])/\∀ base:Heap,K.In base->base.Ns mainGlobals mg->FnOk P w K mg base CX0 7 fa fd ["_law_script"] (zb K sLaw):=by
 obtain⟨fS,dS,MS,FS⟩:=e_State
 obtain⟨fB,dB,MB,FB⟩:=e_begin
 obtain⟨zjd,zh4,zgT,zjh⟩:=ziM
 obtain⟨zjj,zjb,zh2,zgR,zjf⟩:=ziz
 obtain⟨zji,zja,zh1,zgQ,zje⟩:=ziy
 obtain⟨zjk,zjc,zh3,zgS,zjg⟩:=ziI
 rw [hfa] at zjh
 cases zjh
 refine⟨zh4,fun s v=>?_,fun base _ _=>?_⟩
 ·obtain⟨oc,od,kV,doc,pm,an,cdv,ct,osl,rfl,_⟩:=zgT.ex
  exact .of_eq rfl
 have zhc:Cal P w K mg base 1 "_law_size" [] (zb K sSizeM):=xK zim (fun _ _ F=>Uh F T) rfl fun _ _ _ _ _ _ _=>rfl
 have zg6:Cal P w K mg base 1 "_law_mixed" [] (zb K sMixM):=xZ zig (fun _ _ F=>VD F T) rfl fun _ _ _ _ _ _ _ _=>rfl
 have zgV:Cal P w K mg base 1 "_law_at" [] (zb K kX):=xZ zh5 (fun _ _ F=>Ku F T) rfl fun _ _ _ _ _ _ _ _=>rfl
 have zhC:Cal P w K mg base 1 "is_whole" [] (zb K Z5):=vw ziK (fun _ _ F=>Uc F T) rfl fun _ _ _ _ _ _ _ _ _=>rfl
 have zhB:Cal P w K mg base 2 "is_size" [] (zb K QI):=xZ ziJ (fun _ _ F=>Q9 F T zhC) rfl fun _ _ _ _ _ _ _ _=>rfl
 have zhp:Cal P w K mg base 1 "blank_row" [] (zb K sBlankRow):=⟨zjb,zh2,_,[],kK zgR T,zjf,zgR.kp,VQ zgR,.nil⟩
 have zhq:Cal P w K mg base 1 "blank_row" [.int 0] (zb K sBlankRow):=⟨zjb,zh2,_,_,kK zgR T,zjf,zgR.kp,Xh zgR,.cons ⟨zjj,rfl⟩ .nil⟩
 have zhn:Cal P w K mg base 3 "blank_picture" [] (zb K sBlankPic):=⟨zja,zh1,_,[],qm zgQ T zhB zhp,zje,zgQ.kp,ZE zgQ,.nil⟩
 have zho:Cal P w K mg base 3 "blank_picture" [.int 0] (zb K sBlankPic):=⟨zja,zh1,_,_,qm zgQ T zhB zhp,zje,zgQ.kp,Zb zgQ,.cons ⟨zji,rfl⟩ .nil⟩
 have zhw:Cal P w K mg base 1 "first_stops" [] (zb K sStops):=xK ziF (fun _ _ F=>YC F T) rfl fun _ _ _ _ _ _ _=>rfl
 have zgU:CalT P w K mg base 2 "begin" C (zb K (k6 C)):=⟨fB,dB,_,T.st.cl,MB,YD FB T zhw,FB.binds fun _ _ _ _ _ _ us hl=>match us,hl with |[_],_=>rfl⟩
 have c_State:CalM P w K mg base 4 "State" C (zb K (sInit C)):=⟨fS,dS,_,MS,Y9 FS T zho zgU,T.mgC,FS.binds fun _ _ _ _ _ _ us hl=>match us,hl with |[_,_,_],_=>rfl⟩
 have zgW:Cal P w K mg base 1 "_law_begun" [] (zb K sBegunM):=xZ zh6 (fun _ _ F=>VH F T) rfl fun _ _ _ _ _ _ _ _=>rfl
 have zhb:Cal P w K mg base 2 "_law_screen" [] (zb K sScreenM):=xZ zil (fun _ _ F=>Xg F T zgW) rfl fun _ _ _ _ _ _ _ _=>rfl
 have zg8:Cal P w K mg base 1 "_law_number" [] (zb K sNumM):=xK zii (fun _ _ F=>Xb F T) rfl fun _ _ _ _ _ _ _=>rfl
 have zg2:Cal P w K mg base 3 "_law_kept" [] (zb K sKeptM):=xZ zic (fun _ _ F=>Uq F T zhb) rfl fun _ _ _ _ _ _ _ _=>rfl
 have zhD:Cal P w K mg base 1 "keep" [] (zb K (sKeep C keepS)):=xK ziL (fun _ _ F=>zdp F T) rfl fun _ _ _ _ _ _ _=>rfl
 have zhP:Cal P w K mg base 1 "take_back" [] (zb K (sKeep C backS)):=xK ziY (fun _ _ F=>VC F T) rfl fun _ _ _ _ _ _ _=>rfl
 have zhm:Cal P w K mg base 1 "blank_of" [] (zb K (sBlankOf C)):=xK zix (fun _ _ F=>Ue F T) rfl fun _ _ _ _ _ _ _=>rfl
 have zhW:Cal P w K mg base 2 "wipe_places" [] (zb K (QX C)):=vw zi5 (fun _ _ F=>YF F T zhm) rfl fun _ _ _ _ _ _ _ _ _=>rfl
 have zhV:Cal P w K mg base 3 "wipe" [] (zb K (QY C)):=xZ zi4 (fun _ _ F=>zdr F T zhW) rfl fun _ _ _ _ _ _ _ _=>rfl
 have zhl:Cal P w K mg base 4 "begin_anew" [] (zb K (sAnew C)):=xK ziw (fun _ _ F=>Xe F T zgU zhV) rfl fun _ _ _ _ _ _ _=>rfl
 have zg3:Cal P w K mg base 5 "_law_kept_deed" [] (zb K (sKDeed C)):=vw zid (fun _ _ F=>ZD F T zg2 zhD zhP zhl) rfl fun _ _ _ _ _ _ _ _ _=>rfl
 have zg1:Cal P w K mg base 1 "_law_edges" [] (zb K sEdgesM):=xK zib (fun _ _ F=>VE F T) rfl fun _ _ _ _ _ _ _=>rfl
 have zgX:Cal P w K mg base 1 "_law_blank" [] (zb K sBlankM):=xK zh7 (fun _ _ F=>VL F T) rfl fun _ _ _ _ _ _ _=>rfl
 have zha:Cal P w K mg base 2 "_law_rolled" [] (zb K sRolledM):=zbe zik (fun _ _ F=>Xf F T zgX) rfl fun _ _ _ _ _ _ _ _ _ _=>rfl
 have zg5:Cal P w K mg base 3 "_law_line_end" [] (zb K sLineEM):=xK zif (fun _ _ F=>Yj F T zg1 zha) rfl fun _ _ _ _ _ _ _=>rfl
 have zhi:Cal P w K mg base 4 "_law_written" [] (zb K sWrittenM):=xZ zit (fun _ _ F=>YG F T zg5 zg1) rfl fun _ _ _ _ _ _ _ _=>rfl
 have zhv:Cal P w K mg base 1 "edges" [] (zb K (sEdges C)):=xK ziE (fun _ _ F=>za0 F T) rfl fun _ _ _ _ _ _ _=>rfl
 have zhR:Cal P w K mg base 2 "to_left_edge" [] (zb K (sLeft C)):=xK zi0 (fun _ _ F=>Yi F T zhv) rfl fun _ _ _ _ _ _ _=>rfl
 have zhr:Cal P w K mg base 1 "copied" [] (zb K sCopied):=xK ziA (fun _ _ F=>Kt F T) rfl fun _ _ _ _ _ _ _=>rfl
 have zhJ:Cal P w K mg base 2 "roll_rows" [] (zb K (sRoll C)):=vw ziS (fun _ _ F=>VB F T zhr zhm) rfl fun _ _ _ _ _ _ _ _ _=>rfl
 have zhK:Cal P w K mg base 3 "roll_up" [] (zb K (sRoll C)):=vw ziT (fun _ _ F=>Jf F T zhJ) rfl fun _ _ _ _ _ _ _ _ _=>rfl
 have zhE:Cal P w K mg base 4 "line_end" [] (zb K (sLineE C)):=xK ziN (fun _ _ F=>Ul F T zhR zhK) rfl fun _ _ _ _ _ _ _=>rfl
 have zhj:Cal P w K mg base 1 "at_least_one" [] (zb K Zt):=xK ziu (fun _ _ F=>Yf F T) rfl fun _ _ _ _ _ _ _=>rfl
 have zhG:Cal P w K mg base 2 "move_cells" [] (zb K (sMvC C)):=xZ ziP (fun _ _ F=>Xd F T zhv zhm) rfl fun _ _ _ _ _ _ _ _=>rfl
 have zhH:Cal P w K mg base 3 "put_cells" [] (zb K (sPutC C)):=xZ ziQ (fun _ _ F=>VI F T zhj zhG) rfl fun _ _ _ _ _ _ _ _=>rfl
 have zhI:Cal P w K mg base 5 "put_sign" [] (zb K (sPutSign C)):=xZ ziR (fun _ _ F=>Um F T zhE zhH zhv) rfl fun _ _ _ _ _ _ _ _=>rfl
 have zhf:Cal P w K mg base 1 "_law_times" [] (zb K ja):=xK ziq (fun _ _ F=>Vx F T) rfl fun _ _ _ _ _ _ _=>rfl
 have zhd:Cal P w K mg base 2 "_law_stepped" [] (zb K sSteppedM):=vw zin (fun _ _ F=>YE F T zg1 zhf) rfl fun _ _ _ _ _ _ _ _ _=>rfl
 have zhy:Cal P w K mg base 2 "go" [] (zb K (zaV C)):=vw ziH (fun _ _ F=>zfZ F T zhj zhv) rfl fun _ _ _ _ _ _ _ _ _=>rfl
 have zg9:Cal P w K mg base 2 "_law_placed" [] (zb K sPlacedM):=vw zij (fun _ _ F=>Xa F T zhf) rfl fun _ _ _ _ _ _ _ _ _=>rfl
 have zhh:Cal P w K mg base 3 "_law_window" [] (zb K sWindowM):=zbe zis (fun _ _ F=>Xc F T zhf zg9) rfl fun _ _ _ _ _ _ _ _ _ _=>rfl
 have zhO:Cal P w K mg base 2 "span" [] (zb K Z6):=vw ziX (fun _ _ F=>zdn F T zhj) rfl fun _ _ _ _ _ _ _ _ _=>rfl
 have zhs:Cal P w K mg base 2 "counted" [] (zb K jy):=vw ziB (fun _ _ F=>Q8 F T zhj) rfl fun _ _ _ _ _ _ _ _ _=>rfl
 have zhS:Cal P w K mg base 3 "to_place" [] (zb K (sPlace C)):=vw zi1 (fun _ _ F=>Uf F T zhs) rfl fun _ _ _ _ _ _ _ _ _=>rfl
 have zhQ:Cal P w K mg base 4 "to_home" [] (zb K (sHome C)):=xK ziZ (fun _ _ F=>Jc F T zhS) rfl fun _ _ _ _ _ _ _=>rfl
 have zhM:Cal P w K mg base 5 "set_rows" [] (zb K (sRows C)):=vw ziV (fun _ _ F=>Ug F T zhO zhQ) rfl fun _ _ _ _ _ _ _ _ _=>rfl
 have zhL:Cal P w K mg base 5 "set_columns" [] (zb K (sCols C)):=vw ziU (fun _ _ F=>YB F T zhO zhQ) rfl fun _ _ _ _ _ _ _ _ _=>rfl
 have zg0:Cal P w K mg base 1 "_law_dyed" [] (zb K sDyedM):=xZ zia (fun _ _ F=>Ui F T) rfl fun _ _ _ _ _ _ _ _=>rfl
 have zhZ:Cal P w K mg base 1 "with_mark" [] (zb K (sI2 (fun _ _=>True) fun i m=>Builtin.bitOr i ((xU [(0,64),(1,128),(2,256)] m).getD 0))):=xZ zi8 (fun _ _ F=>Vy F T) rfl fun _ _ _ _ _ _ _ _=>rfl
 have zh0:Cal P w K mg base 1 "without_mark" [] (zb K (sI2 (fun _ _=>True) fun i m=>Builtin.bitAnd i (Builtin.bitNot ((xU [(0,64),(1,128),(2,256)] m).getD 0)))):=xZ zi9 (fun _ _ F=>Yh F T) rfl fun _ _ _ _ _ _ _ _=>rfl
 have zhU:Cal P w K mg base 1 "turned_marks" [] (zb K (sI1 (fun _=>True) fun i=>Builtin.bitXor i 448)):=xK zi3 (fun _ _ F=>Yg F T) rfl fun _ _ _ _ _ _ _=>rfl
 have zhz:Cal P w K mg base 1 "ink_of" [] (zb K jb):=⟨zjc,zh3,_,[],YY zgS T,zjg,zgS.kp,KA zgS,.nil⟩
 have zhA:Cal P w K mg base 1 "ink_of" [.int 0] (zb K jb):=⟨zjc,zh3,_,_,YY zgS T,zjg,zgS.kp,Jj zgS,.cons ⟨zjk,rfl⟩ .nil⟩
 have zhk:Cal P w K mg base 1 "back_of" [] (zb K (sI1 (fun _=>True) fun i=>Builtin.bitAnd (i / 8) 7)):=xK ziv (fun _ _ F=>Jb F T) rfl fun _ _ _ _ _ _ _=>rfl
 have zhF:Cal P w K mg base 1 "marks_of" [] (zb K (sI1 (fun _=>True) fun i=>Builtin.bitAnd (i / 64) 7)):=xK ziO (fun _ _ F=>Ud F T) rfl fun _ _ _ _ _ _ _=>rfl
 have zhY:Cal P w K mg base 2 "with_fore" [] (zb K (sI2 (fun i _=>Ink i) fun i h=>h+8*Builtin.bitAnd (i / 8) 7+64*Builtin.bitAnd (i / 64) 7)):=xZ zi7 (fun _ _ F=>Vz F T zhz zhk zhF) rfl fun _ _ _ _ _ _ _ _=>rfl
 have zhx:Cal P w K mg base 1 "fore_of" [] (zb K (sI1 (fun _=>True) fun i=>Builtin.bitAnd i 7)):=xK ziG (fun _ _ F=>Ja F T) rfl fun _ _ _ _ _ _ _=>rfl
 have zhX:Cal P w K mg base 2 "with_back" [] (zb K (sI2 (fun i h=>Ink i/\0≤h/\h≤10) fun i h=>Builtin.bitAnd i 7+8*h+64*Builtin.bitAnd (i / 64) 7)):=xZ zi6 (fun _ _ F=>VA F T zhz zhx zhF) rfl fun _ _ _ _ _ _ _ _=>rfl
 have zhu:Cal P w K mg base 3 "dyed" [] (zb K Xr):=xZ ziD (fun _ _ F=>zdo F T zhZ zh0 zhU zhY zhX) rfl fun _ _ _ _ _ _ _ _=>rfl
 have zht:Cal P w K mg base 4 "dye" [] (zb K (sDye C)):=xZ ziC (fun _ _ F=>zfe F T zhu) rfl fun _ _ _ _ _ _ _ _=>rfl
 have zg7:Cal P w K mg base 3 "_law_moded" [] (zb K sModedM):=vw zih (fun _ _ F=>VF F T zg9) rfl fun _ _ _ _ _ _ _ _ _=>rfl
 have zhT:Cal P w K mg base 5 "turn_modes" [] (zb K (sModes C)):=vw zi2 (fun _ _ F=>Y8 F T zhQ) rfl fun _ _ _ _ _ _ _ _ _=>rfl
 have zhe:Cal P w K mg base 1 "_law_stops_set" [] (zb K sStopsM):=xZ zio (fun _ _ F=>ZB F T) rfl fun _ _ _ _ _ _ _ _=>rfl
 have zhN:Cal P w K mg base 1 "set_stop" [] (zb K (sSetStop C)):=xK ziW (fun _ _ F=>Uo F T) rfl fun _ _ _ _ _ _ _=>rfl
 have zgY:Cal P w K mg base 6 "_law_deed" [] (zb K (sDeed19 C)):=zbe zh8 (fun _ _ F=>Ur F T zg8 zg3 zhi zhI zhd zhy zhh zhM zhL zg0 zht zg7 zhT zg9 zhe zhS zhN) rfl fun _ _ _ _ _ _ _ _ _ _=>rfl
 have zhg:Cal P w K mg base 1 "_law_told" [] (zb K (sTold C)):=xK zir (fun _ _ F=>Uj F T) rfl fun _ _ _ _ _ _ _=>rfl
 have zgZ:Cal P w K mg base 1 "_law_due" [] (zb K sDue):=xK zh9 (fun _ _ F=>Je F T) rfl fun _ _ _ _ _ _ _=>rfl
 have zg4:Cal P w K mg base 2 "_law_like" [] (zb K (sLikeP C)):=xZ zie (fun _ _ F=>Uk F T zhg zgZ) rfl fun _ _ _ _ _ _ _ _=>rfl
 exact zfp zgT T zhc zg6 zgV c_State zhb zgY zg4 zg2 zhP zhl zho
theorem txt_mk {K:W.Frag}{h:Heap}{mg:Str->Option Value}{C aB:Addr}{t_WIDEST t_HIGHEST t_TAB_STEP t_ALL_MARKS t_MOST_KEPT:Tok}(X:K.In h) (G:h.Ns mainGlobals mg)
  (n_len:PySem.W.nsIn K mainGlobals "len" =some none)
  (n_range:PySem.W.nsIn K mainGlobals "range" =some none)
  (n_int:PySem.W.nsIn K mainGlobals "int" =some none)
  (n_bool:PySem.W.nsIn K mainGlobals "bool" =some none)
  (n_dict:PySem.W.nsIn K mainGlobals "dict" =some none)
  (n_list:PySem.W.nsIn K mainGlobals "list" =some none)
  (n_tuple:PySem.W.nsIn K mainGlobals "tuple" =some none)
  (n_isinstance:PySem.W.nsIn K mainGlobals "isinstance" =some none)
  (n_sorted:PySem.W.nsIn K mainGlobals "sorted" =some none)
  (n_min:PySem.W.nsIn K mainGlobals "min" =some none)
  (n_max:PySem.W.nsIn K mainGlobals "max" =some none)
  (n_zip:PySem.W.nsIn K mainGlobals "zip" =some none)
  (n_repr:PySem.W.nsIn K mainGlobals "repr" =some none)
  (n_enumerate:PySem.W.nsIn K mainGlobals "enumerate" =some none)
  (g_WIDEST:PySem.W.nsIn K mainGlobals "WIDEST" =some (some (.int 24 t_WIDEST)))
  (g_HIGHEST:PySem.W.nsIn K mainGlobals "HIGHEST" =some (some (.int 12 t_HIGHEST)))
  (g_TAB_STEP:PySem.W.nsIn K mainGlobals "TAB_STEP" =some (some (.int 4 t_TAB_STEP)))
  (g_ALL_MARKS:PySem.W.nsIn K mainGlobals "ALL_MARKS" =some (some (.int 448 t_ALL_MARKS)))
  (g_MOST_KEPT:PySem.W.nsIn K mainGlobals "MOST_KEPT" =some (some (.int 8 t_MOST_KEPT)))
  (g_B:PySem.W.nsIn K mainGlobals "BITS_BY_MARK" =some (some (.ref aB))) (d_B:DK K aB [(0,64),(1,128),(2,256)])
  (aC:PySem.W.nsIn K mainGlobals "State" =some (some (.ref C)))
  (pg:PySem.W.plainGet K C Str.empty=true) (hd:PySem.W.hasDictIn K C=true) (po:PySem.W.plainOver K C=true) (sa:PySem.W.findIn K (.ref C) "__setattr__" =some (some (.builtin "object.__setattr__")))
  (a_picture:PySem.W.findIn K (.ref C) "picture" =some none)
  (a_wide:PySem.W.findIn K (.ref C) "wide" =some none)
  (a_high:PySem.W.findIn K (.ref C) "high" =some none)
  (a_row:PySem.W.findIn K (.ref C) "row" =some none)
  (a_column:PySem.W.findIn K (.ref C) "column" =some none)
  (a_late:PySem.W.findIn K (.ref C) "late" =some none)
  (a_ink:PySem.W.findIn K (.ref C) "ink" =some none)
  (a_wrap:PySem.W.findIn K (.ref C) "wrap" =some none)
  (a_putting:PySem.W.findIn K (.ref C) "putting" =some none)
  (a_home:PySem.W.findIn K (.ref C) "home" =some none)
  (a_top:PySem.W.findIn K (.ref C) "top" =some none)
  (a_bottom:PySem.W.findIn K (.ref C) "bottom" =some none)
  (a_left:PySem.W.findIn K (.ref C) "left" =some none)
  (a_right:PySem.W.findIn K (.ref C) "right" =some none)
  (a_stops:PySem.W.findIn K (.ref C) "stops" =some none)
  (a_kept:PySem.W.findIn K (.ref C) "kept" =some none)
  (a_last:PySem.W.findIn K (.ref C) "last" =some none)
  : Txt K mg C:=
 ⟨PySem.W.mg_none_of X G n_len,PySem.W.mg_none_of X G n_range,PySem.W.mg_none_of X G n_int,PySem.W.mg_none_of X G n_bool,PySem.W.mg_none_of X G n_dict,PySem.W.mg_none_of X G n_list,PySem.W.mg_none_of X G n_tuple,PySem.W.mg_none_of X G n_isinstance,PySem.W.mg_none_of X G n_sorted,PySem.W.mg_none_of X G n_min,PySem.W.mg_none_of X G n_max,PySem.W.mg_none_of X G n_zip,PySem.W.mg_none_of X G n_repr,PySem.W.mg_none_of X G n_enumerate,⟨t_WIDEST,PySem.W.mg_of X G g_WIDEST⟩,⟨t_HIGHEST,PySem.W.mg_of X G g_HIGHEST⟩,⟨t_TAB_STEP,PySem.W.mg_of X G g_TAB_STEP⟩,⟨t_ALL_MARKS,PySem.W.mg_of X G g_ALL_MARKS⟩,⟨t_MOST_KEPT,PySem.W.mg_of X G g_MOST_KEPT⟩,⟨aB,PySem.W.mg_of X G g_B,d_B⟩,PySem.W.mg_of X G aC,⟨⟨pg,hd,po,sa⟩,a_picture,a_wide,a_high,a_row,a_column,a_late,a_ink,a_wrap,a_putting,a_home,a_top,a_bottom,a_left,a_right,a_stops,a_kept,a_last⟩⟩
end K19
namespace PySem.W.Fast
def tw6188025528521512213:=()
def tw11011154112193637044:=()
def tw6631372150255473659:=()
def tw13348537128679511593:=()
def tw15028578563242747332:=()
def tw2158056459961677049:=()
def tw4858400034750160876:=()
def tw6740687183785047164:=()
def tw7361472046095411458:=()
def tw8164691039106938462:=()
def tw9438807717657663380:=()
def tw708485874595262988:=()
def tw11873262568090330555:=()
def tw14774118257172692203:=()
def tw20078008900559682:=()
def tw15142503051824296675:=()
def tw1849320782089426681:=()
def tw5420574576445965655:=()
def tw12790040060972269046:=()
def tw7524192359774105297:=()
def tw17761375916238734008:=()
def tw5423012664709984647:=()
def tw147425152711264946:=()
def tw15951383070040977198:=()
def tw10241473461822901431:=()
def tw4800883996224624669:=()
def tw2905492305057748390:=()
def tw14284861376127176452:=()
def tw7210331140071047747:=()
def tw508352455413858722:=()
def tw1961272654994445468:=()
def tw13162713628749921760:=()
def tw15341914336742180598:=()
def tw12118839920205370934:=()
def tw6943208620446833725:=()
def tw16022773663173989141:=()
def tw1445479556643608916:=()
def tw6374197501439203534:=()
def tw15093478322102176673:=()
def tw3840623010300212819:=()
def tw4568434123851505763:=()
def tw13112653662179225788:=()
def tw6746469969997330137:=()
def tw8359632981649279716:=()
def tw15224278657754934008:=()
def tw7574546327009293118:=()
def tw5126674044598481215:=()
def tw15902911330593183198:=()
def tw9195026665472479138:=()
def tw10262382674277708167:=()
def tw17298546729353035953:=()
def tw10421027232683099134:=()
def tw15424856327496294439:=()
def tw11209742213726837299:=()
def tw17602986473026237921:=()
def tw18093619081615810672:=()
def tw8073191048511548858:=()
def tw6370935169029329237:=()
def tw9685017069162483451:=()
def tw3689140476494978769:=()
def tw8030969433071896779:=()
def tw14809027913705320720:=()
def tw14900892506121578707:=()
def tw14654862679031371057:=()
def tw4744008846015391449:=()
def tw9160745440827236623:=()
def tw17921390021810281168:=()
def tw4869678015752657377:=()
def tw3481667628540360471:=()
def tw7366764141592053040:=()
def tw4097979222341967919:=()
def tw15840732876917910446:=()
def tw15205271840849568171:=()
def tw10647867782300132772:=()
def tw10947850435240151517:=()
def tw13649619261338884373:=()
def tw16620294255531738831:=()
def tw8943568521686324349:=()
def tw2380305367871473445:=()
def tw16503773907289794557:=()
def tw4248518910950904895:=()
def tw13848797548006167984:=()
def tw15195966126807347286:=()
def tw10997285762087651028:=()
def tw3164199281865116421:=()
def tw8119182248840778287:=()
def tw16273120905944625468:=()
def tw17302499353858511421:=()
def tw5106566920577282991:=()
end PySem.W.Fast
open PySem PySem.W PyProof.Rows
set_option maxRecDepth 100000 in
set_option maxHeartbeats 0 in
theorem PySem.Challenge.cw_signscreen_k19_kept_states_holds : PySem.Challenge.rw_signscreen_k19_kept_states.Holds := by
 w_on;o_law;k_head;(case hw=>w_witness2)
 k_fill
 refine L2.walkW (l:=PySem.Challenge.rw_signscreen_k19_kept_states) (n:=63) (k:=7) (x:="_law_script") (s:=L2.sLaw) rfl (by decide) rfl ⟨rfl,by decide,by decide,rfl⟩ (fun w h Y=>PySem.W.kIn_of Y) ?F (fun ns O R hl hb hR=>⟨ns,rfl,fun n h=>(hb n h).mono (by decide),hl,hR⟩)
 case F=>
  intro w mg fa h KX G hmg
  refine' K19.all_mk ?T hmg ?e_State ?e_begin ?zim ?zig ?zh5 ?ziK ?ziJ ?ziF ?zh6 ?zil ?zii ?zic ?ziL ?ziY ?zix ?zi5 ?zi4 ?ziw ?zid ?zib ?zh7 ?zik ?zif ?zit ?ziE ?zi0 ?ziA ?ziS ?ziT ?ziN ?ziu ?ziP ?ziQ ?ziR ?ziq ?zin ?ziH ?zij ?zis ?ziX ?ziB ?zi1 ?ziZ ?ziV ?ziU ?zia ?zi8 ?zi9 ?zi3 ?ziv ?ziO ?zi7 ?ziG ?zi6 ?ziD ?ziC ?zih ?zi2 ?zio ?ziW ?zh8 ?zir ?zh9 ?zie ?ziM ?ziz ?ziy ?ziI
  case T=>
   refine' K19.txt_mk KX G ?n_len ?n_range ?n_int ?n_bool ?n_dict ?n_list ?n_tuple ?n_isinstance ?n_sorted ?n_min ?n_max ?n_zip ?n_repr ?n_enumerate ?g_WIDEST ?g_HIGHEST ?g_TAB_STEP ?g_ALL_MARKS ?g_MOST_KEPT ?g_B ?d_B ?aC ?pg ?hd ?po ?sa ?a_picture ?a_wide ?a_high ?a_row ?a_column ?a_late ?a_ink ?a_wrap ?a_putting ?a_home ?a_top ?a_bottom ?a_left ?a_right ?a_stops ?a_kept ?a_last
   (case n_len=>k_is)
   (case n_range=>k_is)
   (case n_int=>k_is)
   (case n_bool=>k_is)
   (case n_dict=>k_is)
   (case n_list=>k_is)
   (case n_tuple=>k_is)
   (case n_isinstance=>k_is)
   (case n_sorted=>k_is)
   (case n_min=>k_is)
   (case n_max=>k_is)
   (case n_zip=>k_is)
   (case n_repr=>k_is)
   (case n_enumerate=>k_is)
   (case g_WIDEST=>k_is)
   (case g_HIGHEST=>k_is)
   (case g_TAB_STEP=>k_is)
   (case g_ALL_MARKS=>k_is)
   (case g_MOST_KEPT=>k_is)
   (case g_B=>k_is)
   (case d_B=>rfl)
   (case aC=>k_is)
   (case pg=>k_is)
   (case hd=>k_is)
   (case po=>k_is)
   (case sa=>k_is)
   (case a_picture=>k_is)
   (case a_wide=>k_is)
   (case a_high=>k_is)
   (case a_row=>k_is)
   (case a_column=>k_is)
   (case a_late=>k_is)
   (case a_ink=>k_is)
   (case a_wrap=>k_is)
   (case a_putting=>k_is)
   (case a_home=>k_is)
   (case a_top=>k_is)
   (case a_bottom=>k_is)
   (case a_left=>k_is)
   (case a_right=>k_is)
   (case a_stops=>k_is)
   (case a_kept=>k_is)
   (case a_last=>k_is)
  case e_State=>
   refine' K19.mk_State ?mk ?a1 ?i1 ?kc ?l ?c ?k
   (case mk=>k_is);(case a1=>k_is);(case i1=>k_is);(case kc=>k_is);(case l=>k_is);(case c=>k_is);(case k=>k_is)
  case e_begin=>
   refine' K19.mt_begin ?a1 ?i1 ?l ?c ?k
   (case a1=>k_is);(case i1=>k_is);(case l=>k_is);(case c=>k_is);(case k=>k_is)
  case ziz=>exact⟨_,by (refine' K19.fkD KX G ?a ?l ?c ?k ?t ?e;(case a=>k_is);(case l=>k_is);(case c=>k_is);(case k=>k_is);(case t=>k_is);(case e=>rfl))⟩
  case ziy=>exact⟨_,by (refine' K19.fkD KX G ?a ?l ?c ?k ?t ?e;(case a=>k_is);(case l=>k_is);(case c=>k_is);(case k=>k_is);(case t=>k_is);(case e=>rfl))⟩
  case ziI=>exact⟨_,by (refine' K19.fkD KX G ?a ?l ?c ?k ?t ?e;(case a=>k_is);(case l=>k_is);(case c=>k_is);(case k=>k_is);(case t=>k_is);(case e=>rfl))⟩
  all_goals (refine' K19.fk KX G ?a ?l ?c ?k;(case a=>k_is);(case l=>k_is);(case c=>k_is);(case k=>k_is))
