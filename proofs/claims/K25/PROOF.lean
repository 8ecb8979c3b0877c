import PyProof.Rows.All
import Wide.All
import OpenK.AllK
import Wide.FinOn
import Lean
import PyProof.EqAt
import PyProof.EqKinds
import PyProof.TupleCall
import KE.KTryMore
import KE.KDictOf
import PyProof.AttrMissHeap
import PyProof.Seq
import PyProof.Rows.Tup
import KE.KDictSum
import PyProof.Rows.SortWalk
import PyProof.EnumStmt
import PyProof.EnumMake
import PyProof.EnumFor
import PyProof.Rows.Range3
import PyProof.ReprRoads
import PyProof.Rows.MinMaxN
import KE.KMinBuiltin
import PyProof.Rows.CallKwBuiltin
import KE.KTabLook
import KE.LcSums
import KE.KIntText
import PyProof.Rows.StrIndexOr
import PyProof.FString5
import PyProof.StrBlockH
import PyProof.SliceStr2
import KE.KDictList
import PyProof.ListRange
import PyProof.StrLawsChain
import PyProof.StrLawsTight
import KE.IntTextLaws
import PyProof.Rows.StrSplitAre
import PyProof.Rows.ReprOcc
import PyProof.Rows.StrFin3
import PyProof.Draws
import PyProof.ZipIter
import PyProof.StrCalls
import PyProof.DictItems
import KE.KPairComp
import PyProof.MeetsSeq2
import PyProof.Rows.FStr
import PyProof.Rows.StrInSeq3
import PyProof.StrLoop
import PyProof.ListNew
import PyProof.CollectWalk
import PyProof.Rows.StrNews2
import PyProof.StrReplace2
import PyProof.DictUpdate
import PyProof.DictFindH
import PyProof.TupleKey
import PyProof.ExcBaseAll.ValueError
import KE.RegKTryMore
import KE.RegKIsAll
import PySem.Challenge.RW_signscreen_k25_papers_refused
set_option compiler.extract_closed false
set_option Elab.async false
set_option linter.all false
set_option maxRecDepth 100000
set_option maxHeartbeats 4000000
namespace L2
open PySem PySem.Spec PyProof.Rows
noncomputable abbrev Key:=Sum Int Str
noncomputable def zbl:Key->Value->Bool
 |.inl k,v=>Value.isInt k v
 |.inr x,v=>Value.isStrOf x v
noncomputable def zf2 (w:World):Key->Int
 |.inl k=>hashInt k
 |.inr x=>hashStr w x
theorem yH:∀ {k:Key}{v:Value},zbl k v=true->(∃ i t,k=Sum.inl i/\v=Value.int i t)\/(∃ x t,k=Sum.inr x/\v=Value.str x t)
 |.inl i,v,h=>by
  obtain⟨t,e⟩:=Value.isInt_shape (k:=i) (v:=v) h
  exact .inl ⟨i,t,rfl,e⟩
 |.inr x,v,h=>by
  obtain⟨t,e⟩:=Value.isStrOf_shape (x:=x) (v:=v) h
  exact .inr ⟨x,t,rfl,e⟩
theorem zdF (a b:Int):decide ((Sum.inl a:Key)=Sum.inl b)=(a == b):=by
 by_cases e:a=b
 ·subst e;simp
 ·have h:¬ (Sum.inl a:Key)=Sum.inl b:=fun q=>e (Sum.inl.inj q)
  rw [decide_eq_false h]
  exact (beq_eq_false_iff_ne.mpr e).symm
theorem zdG (a b:Str):decide ((Sum.inr a:Key)=Sum.inr b)=decide (a=b):=by
 by_cases e:a=b
 ·subst e;simp
 ·have h:¬ (Sum.inr a:Key)=Sum.inr b:=fun q=>e (Sum.inr.inj q)
  rw [decide_eq_false h,decide_eq_false e]
theorem zdH (a:Int) (b:Str):decide ((Sum.inl a:Key)=Sum.inr b)=false:=decide_eq_false (fun q=>nomatch q)
theorem zdI (a:Str) (b:Int):decide ((Sum.inr a:Key)=Sum.inl b)=false:=decide_eq_false (fun q=>nomatch q)
noncomputable def Zz (prog:Program) (w:World):PySem.KeyKind prog w Key where
 is:=zbl
 hash:=zf2 w
 inj:=fun v a b ha hb=>by
  rcases yH ha with⟨i,t,rfl,rfl⟩ | ⟨x,t,rfl,rfl⟩
  ·rcases yH hb with⟨j,u,rfl,e⟩ | ⟨y,u,rfl,e⟩
   ·injection e with e1 _;rw [e1]
   ·exact nomatch e
  ·rcases yH hb with⟨j,u,rfl,e⟩ | ⟨y,u,rfl,e⟩
   ·exact nomatch e
   ·injection e with e1 _;rw [e1]
 byValue:=fun k v h=>by
  rcases yH h with⟨i,t,rfl,rfl⟩ | ⟨x,t,rfl,rfl⟩ <;> rfl
 pyHash:=fun hv h=>by
  rcases yH hv with⟨i,t,rfl,rfl⟩ | ⟨x,t,rfl,rfl⟩
  ·exact wpAny_pyHash_int h
  ·exact wpAny_pyHash_str h
 eqBool:=fun hu hv h=>by
  rcases yH hu with⟨i,t,rfl,rfl⟩ | ⟨x,t,rfl,rfl⟩
  ·rcases yH hv with⟨j,u,rfl,rfl⟩ | ⟨y,u,rfl,rfl⟩
   ·rw [zdF] at h;exact wpAny_eqBool_int h
   ·rw [zdH] at h;exact SeqAt.EqAt.int_str i t y u _ _ _ _ h
  ·rcases yH hv with⟨j,u,rfl,rfl⟩ | ⟨y,u,rfl,rfl⟩
   ·rw [zdI] at h;exact SeqAt.EqAt.str_int x t j u _ _ _ _ h
   ·rw [zdG] at h;exact wpAny_eqBool_str h
 «strs»:=fun k x t v h=>by
  rcases yH h with⟨i,u,rfl,e⟩ | ⟨y,u,rfl,e⟩
  ·exact nomatch e
  ·injection e with e1 _
   subst e1
   cases v <;> rfl
inductive V where
 |non |bl (b:Bool) |int (i:Int) |str (x:Str) |byt (b:Array UInt8) |flt (b:UInt64) |ref (a:Addr) |ty (n:String)
 deriving DecidableEq
noncomputable def RelV:V->Value->Prop
 |.non,u=>u=Value.none
 |.bl b,u=>u=Value.bool b
 |.int i,u=>∃ t,u=Value.int i t
 |.str x,u=>∃ t,u=Value.str x t
 |.byt b,u=>∃ t,u=Value.bytes b t
 |.flt b,u=>∃ t,u=Value.float b t
 |.ref a,u=>u=Value.ref a
 |.ty n,u=>u=Value.type n
noncomputable abbrev Vals:List V->List Value->Prop:=Paired RelV
theorem Vals.length {xs:List V}{us:List Value}(r:Vals xs us):xs.length=us.length:=Paired.length r
theorem Vals.get:∀ {xs:List V}{us:List Value}{i:Nat}{x:V},Vals xs us->xs[i]? =some x->∃ u,us[i]? =some u/\RelV x u
 |_,_,_,_,.nil,e=>by simp at e
 |_,_,0,_,.cons r _,e=>by simp at e;subst e;exact⟨_,rfl,r⟩
 |_,_,i+1,x,.cons _ t,e=>by
  obtain⟨u,h1,h2⟩:=Vals.get (i:=i) (x:=x) t (by simpa using e)
  exact⟨u,by simpa using h1,h2⟩
theorem Vals.append:∀ {xs ys:List V}{us ws:List Value},Vals xs us->Vals ys ws->Vals (xs ++ ys) (us ++ ws)
 |_,_,_,_,.nil,s=>s
 |_,_,_,_,.cons r t,s=>.cons r (Vals.append t s)
theorem Vals.take:∀ {xs:List V}{us:List Value}(n:Nat),Vals xs us->Vals (xs.take n) (us.take n)
 |_,_,0,_=>.nil
 |_,_,_+1,.nil=>.nil
 |_,_,n+1,.cons r t=>.cons r (Vals.take n t)
theorem Vals.drop:∀ {xs:List V}{us:List Value}(n:Nat),Vals xs us->Vals (xs.drop n) (us.drop n)
 |_,_,0,r=>r
 |_,_,_+1,.nil=>.nil
 |_,_,n+1,.cons _ t=>Vals.drop n t
noncomputable def KA:Option V->Option Value->Prop
 |some v,some u=>RelV v u
 |none,none=>True
 |_,_=>False
def KV {κ:Type}:List (κ×V)->List (κ×Value)->Prop:=Paired fun (p:κ×V) (q:κ×Value)=>p.1=q.1/\RelV p.2 q.2
noncomputable def kV:Key->V
 |.inl i=>.int i
 |.inr x=>.str x
inductive HO where
 |lst (xs:List V)
 |tup (xs:List V)
 |dK (kvs:List (Key×V)) |dT (kvs:List (List Key×V))
 |set (S:Int->Bool) (n:Nat)
 |ins (C dx:Addr) (fs:List (Str×V))
 |own (x:Addr)
 |xd (fs:List (Str×V))
 |met (f x:Addr)
 |rng (lo hi:Int)
 |frz (o:Obj) (u:HO)
 |tbl (ps:Array Value)
 |ext (φ:Heap->Prop)
noncomputable abbrev Hp:=Addr->Option HO
noncomputable def upd (H:Hp) (a:Addr) (o:HO):Hp:=fun b=>if b=a then some o else H b
theorem zA {H:Hp}{a:Addr}{o:HO}:upd H a o a=some o:=by unfold upd;rw [if_pos rfl]
theorem zg {H:Hp}{a b:Addr}{o:HO}(h:b≠a):upd H a o b=H b:=by unfold upd;rw [if_neg h]
theorem ZA {H:Hp}{a:Addr}{o u:HO}:upd (upd H a o) a u=upd H a u:=by
 funext b;unfold upd;split <;> rfl
theorem yi {H:Hp}{a b:Addr}{o:HO}(h:H a=some o) (h':H b=none):a≠b:=by
 intro e;subst e;rw [h] at h';cases h'
section
variable (P:Program) (w:World)
noncomputable def yq (H:Hp) (h:Heap) (a:Addr):HO->Prop
 |.lst xs=>xs.length≤sizeLine/\∃ (its:List Value) (n:Nat),Vals xs its/\h.get? a=some { cls:=.type "list",data:=.seq its.toArray n }
 |.tup xs=>xs.length≤sizeLine/\∃ its:List Value,Vals xs its/\IsTup h a its.toArray
 |.dK kvs=>kvs.length≤sizeLine/\(a == sysModules)=false/\∃ vs,KV kvs vs/\h.DictOf (Zz P w) a vs
 |.dT kvs=>kvs.length≤sizeLine/\(a == sysModules)=false/\∃ xs:List (List Key×Addr×Value),
   Paired (fun (p:List Key×V) (q:List Key×Addr×Value)=>p.1=q.1/\H q.2.1=some (.tup (p.1.map kV))/\RelV p.2 q.2.2) kvs xs/\
   ∃ o es ep,h.get? a=some o/\o.ExactDict/\o.data=.dict es ep/\es.toList=xs.map (entryOfKey (tupleKind (Zz P w)))/\(xs.map (·.1)).Nodup
 |.set S n=>h.SetOf (intKind P w) a S n
 |.ins C dx fs=>H dx=some (.own a)/\fs.length≤1000/\dx≠a/\h.get? a=some (PySem.W.instObj C dx)/\
   ∃ mA,h.Ns1 dx mA/\(∀ f,KA (fs.lookup f) (mA f))/\PySem.Within mA (fs.map (·.1))
 |.own _=>∃ o,h.get? a=some o
 |.xd fs=>∃ mA,h.Ns1 a mA/\∀ f,KA (fs.lookup f) (mA f)
 |.rng lo hi=>∃ t u v,h.get? a=some { cls:=.type "range",data:=.fields #[.int lo t,.int hi u,.int 1 v] }
 |.frz o u=>h.get? a=some o/\yq H h a u
 |.tbl ps=>h.get? a=some { cls:=.none,data:=.fields ps }
 |.met f x=>h.get? a=some (PySem.W.methodObj (.ref f) (.ref x))
 |.ext φ=>φ h/\(∃ o,h.get? a=some o)/\∀ h1 h2:Heap,φ h1->(∀ o,h1.get? a=some o->h2.get? a=some o)->φ h2
def HOk (H:Hp) (h:Heap):Prop:=∀ a o,H a=some o->yq P w H h a o
end
section
variable {P:Program}{w:World}{H H':Hp}{h h':Heap}{a:Addr}{o:HO}
theorem yq.lt (x:yq P w H h a o):a < h.objs.size:=by
 cases o with
 |lst xs=>obtain⟨_,_,_,_,e⟩:=x;exact Heap.lt_size e
 |tup xs=>obtain⟨_,_,_,p⟩:=x;exact p.lt
 |dK kvs=>obtain⟨_,_,_,_,o,_,_,e,_⟩:=x;exact Heap.lt_size e
 |dT kvs=>obtain⟨_,_,_,_,o,_,_,e,_⟩:=x;exact Heap.lt_size e
 |set S n=>obtain⟨o,_,_,_,e,_⟩:=x;exact Heap.lt_size e
 |ins C dx fs=>obtain⟨_,_,_,e,_⟩:=x;exact Heap.lt_size e
 |own y=>obtain⟨_,e⟩:=x;exact Heap.lt_size e
 |xd fs=>obtain⟨_,⟨_,_,_,e,_⟩,_⟩:=x;exact Heap.lt_size e
 |rng lo hi=>obtain⟨_,_,_,e⟩:=x;exact Heap.lt_size e
 |frz ob u=>obtain⟨e,_⟩:=x;exact Heap.lt_size e
 |tbl ps=>exact Heap.lt_size (show h.get? a=some _ from x)
 |met f y=>exact Heap.lt_size (show h.get? a=some _ from x)
 |ext φ=>obtain⟨_,⟨_,e⟩,_⟩:=x;exact Heap.lt_size e
theorem Paired.mapP {α β:Type}{F G:α->β->Prop}:∀ {l₁:List α}{l₂:List β},Paired F l₁ l₂->(∀ a b,F a b->G a b)->Paired G l₁ l₂
 |_,_,.nil,_=>.nil
 |_,_,.cons r t,f=>.cons (f _ _ r) (Paired.mapP t f)
theorem yq.stay (x:yq P w H h a o) (k:∀ b u,(b=a\/H b=some (.own a))->h.get? b=some u->h'.get? b=some u)
  (ho:∀ b,H b=some (.own a)->H' b=some (.own a)) (ht:∀ b xs,H b=some (.tup xs)->H' b=some (.tup xs)):yq P w H' h' a o:=by
 induction o with
 |lst xs=>obtain⟨z,its,n,r,e⟩:=x;exact⟨z,its,n,r,k _ _ (.inl rfl) e⟩
 |tup xs=>obtain⟨z,its,r,ob,e,c⟩:=x;exact⟨z,its,r,ob,k _ _ (.inl rfl) e,c⟩
 |dK kvs=>obtain⟨z,y,vs,r,ob,es,ep,e,c⟩:=x;exact⟨z,y,vs,r,ob,es,ep,k _ _ (.inl rfl) e,c⟩
 |dT kvs=>
  obtain⟨z,y,xs,r,ob,es,ep,e,c⟩:=x
  exact⟨z,y,xs,Paired.mapP r fun p q z=>⟨z.1,ht _ _ z.2.1,z.2.2⟩,ob,es,ep,k _ _ (.inl rfl) e,c⟩
 |set S n=>obtain⟨ob,es,ep,t,e,c⟩:=x;exact⟨ob,es,ep,t,k _ _ (.inl rfl) e,c⟩
 |ins C dx fs=>
  obtain⟨d,z,ne,e,mA,⟨od,es,ep,e2,c⟩,r⟩:=x
  exact⟨ho _ d,z,ne,k _ _ (.inl rfl) e,mA,⟨od,es,ep,k _ _ (.inr d) e2,c⟩,r⟩
 |own y=>obtain⟨ob,e⟩:=x;exact⟨ob,k _ _ (.inl rfl) e⟩
 |xd fs=>obtain⟨mA,⟨od,es,ep,e,c⟩,r⟩:=x;exact⟨mA,⟨od,es,ep,k _ _ (.inl rfl) e,c⟩,r⟩
 |rng lo hi=>obtain⟨t,u,v,e⟩:=x;exact⟨t,u,v,k _ _ (.inl rfl) e⟩
 |frz ob u ih=>obtain⟨e,q⟩:=x;exact⟨k _ _ (.inl rfl) e,ih q⟩
 |tbl ps=>
  have e:h.get? a=some { cls:=.none,data:=.fields ps }:=x
  show h'.get? a=some { cls:=.none,data:=.fields ps }
  exact k a _ (.inl rfl) e
 |met f y=>
  have e:h.get? a=some (PySem.W.methodObj (.ref f) (.ref y)):=x
  show h'.get? a=some (PySem.W.methodObj (.ref f) (.ref y))
  exact k a _ (.inl rfl) e
 |ext φ=>obtain⟨p,⟨o,e⟩,st⟩:=x;exact⟨st _ _ p fun o q=>k _ _ (.inl rfl) q,⟨o,k _ _ (.inl rfl) e⟩,st⟩
theorem HOk.lt (x:HOk P w H h) (e:H a=some o):a < h.objs.size:=(x a o e).lt
theorem HOk.fresh (x:HOk P w H h) (e:h.objs.size≤a):H a=none:=by
 cases q:H a with
 |none=>rfl
 |some u=>exact absurd (Nat.lt_of_lt_of_le (x.lt q) e) (Nat.lt_irrefl _)
theorem HOk.kept (x:HOk P w H h) (k:∀ b u,h.get? b=some u->h'.get? b=some u):HOk P w H h':=fun a o e=>
 (x a o e).stay (fun b u _ q=>k b u q) (fun _ q=>q) fun _ _ q=>q
theorem HOk.laid (x:HOk P w H h) (k:∀ b u,h.get? b=some u->h'.get? b=some u) (hp:h.objs.size≤a) (new:yq P w (upd H a o) h' a o):HOk P w (upd H a o) h':=fun b u e=>by
 have hn:=x.fresh hp
 by_cases hb:b=a
 ·subst hb;rw [zA] at e;cases e;exact new
 ·rw [zg hb] at e
  exact (x b u e).stay (fun c v _ q=>k c v q) (fun c q=>by rw [zg (yi q hn)];exact q) fun c xs q=>by rw [zg (yi q hn)];exact q
end
def Rd (H:Hp) (a:Addr) (u:HO):Prop:=H a=some u\/∃ o,H a=some (.frz o u)
theorem Rd.ok {P:Program}{w:World}{H:Hp}{h:Heap}{a:Addr}{u:HO}(r:Rd H a u) (x:HOk P w H h):yq P w H h a u:=by
 rcases r with r | ⟨o,r⟩
 ·exact x a u r
 ·obtain⟨_,q⟩:=x a _ r
  exact q
noncomputable def Mut:Option HO->Prop
 |some (.lst _)=>True
 |some (.dK _)=>True
 |some (.dT _)=>True
 |some (.set _ _)=>True
 |some (.ins _ _ _)=>True
 |some (.ext _)=>True
 |_=>False
section
variable {P:Program}{w:World}{H:Hp}{h h':Heap}{x e:Addr}{o':HO}
theorem HOk.write (ok:HOk P w H h) (mu:Mut (H x)) (he:e=x\/H e=some (.own x)) (k:∀ b u,b≠e->h.get? b=some u->h'.get? b=some u) (heo:∃ u,h'.get? e=some u)
  (new:yq P w (upd H x o') h' x o'):HOk P w (upd H x o') h':=fun b u q=>by
 have nown:∀ c y,H c=some (.own y)->c≠x:=fun c y r z=>by subst z;rw [r] at mu;exact mu
 have ntup:∀ c xs,H c=some (.tup xs)->c≠x:=fun c xs r z=>by subst z;rw [r] at mu;exact mu
 by_cases hb:b=x
 ·subst hb;rw [zA] at q;cases q;exact new
 ·rw [zg hb] at q
  by_cases hbe:b=e
  ·have q':H b=some (.own x):=by
    rcases he with z |z
    ·exact absurd (hbe.trans z) hb
    ·rw [hbe];exact z
   rw [q] at q';cases q'
   obtain⟨v,hv⟩:=heo
   exact⟨v,by rw [hbe];exact hv⟩
  ·refine (ok b u q).stay (fun c v hc r=>k c v ?_ r) (fun c r=>by rw [zg (nown c b r)];exact r) fun c xs r=>by rw [zg (ntup c xs r)];exact r
   rcases hc with rfl |hc
   ·exact hbe
   ·rintro rfl
    rcases he with z |z
    ·exact nown c b hc z
    ·rw [hc] at z;cases z;exact hb rfl
end
structure Un (fs ex:List Addr) (H H':Hp) (h h':Heap):Prop where
 keep:∀ b o,h.get? b=some o->H b=none->b ∉ fs->b ∉ ex->h'.get? b=some o
 slot:∀ b o,h.get? b=some o->H b=none->b∈fs->b ∉ ex->∃ sl,h'.get? b=some { o with slots:=sl }
 free:∀ b o,h.get? b=some o->H b=none->b ∉ ex->H' b=none
 there:∀ b o,h.get? b=some o->b ∉ ex->∃ o',h'.get? b=some o'
 tups:∀ b xs,H b=some (.tup xs)->H' b=some (.tup xs)
 frzs:∀ b o u,H b=some (.frz o u)->H' b=some (.frz o u)
 tbls:∀ b ps,H b=some (.tbl ps)->∃ more,H' b=some (.tbl (ps ++ more))
section
variable {fs fs' ex ex':List Addr}{H H1 H2:Hp}{h h1 h2 h':Heap}{a x e:Addr}{o:HO}
theorem Un.any (u:Un fs ex H H1 h h1) {b:Addr}{ob:Obj}(q:h.get? b=some ob) (n:H b=none) (hx:b ∉ ex):∃ sl,h1.get? b=some { ob with slots:=sl }:=by
 by_cases hb:b∈fs
 ·exact u.slot b ob q n hb hx
 ·exact⟨ob.slots,u.keep b ob q n hb hx⟩
theorem Un.kept (k:∀ b u,h.get? b=some u->h'.get? b=some u):Un fs ex H H h h':=
 ⟨fun b ob q _ _ _=>k b ob q,fun b ob q _ _ _=>⟨ob.slots,k b ob q⟩,fun _ _ _ n _=>n,fun b ob q _=>⟨ob,k b ob q⟩,fun _ _ q=>q,fun _ _ _ q=>q,fun _ ps q=>⟨#[],by rw [q];simp⟩⟩
theorem Un.refl:Un fs ex H H h h:=Un.kept fun _ _ q=>q
theorem Un.laid (k:∀ b u,h.get? b=some u->h'.get? b=some u) (hp:h.objs.size≤a) (hn:H a=none):Un fs ex H (upd H a o) h h' where
 keep:=fun b u q _ _ _=>k b u q
 slot:=fun b u q _ _ _=>⟨u.slots,k b u q⟩
 free:=fun b u q n _=>by rw [zg (Nat.ne_of_lt (Nat.lt_of_lt_of_le (Heap.lt_size q) hp))];exact n
 there:=fun b u q _=>⟨u,k b u q⟩
 tups:=fun b xs q=>by rw [zg (yi q hn)];exact q
 frzs:=fun b u xs q=>by rw [zg (yi q hn)];exact q
 tbls:=fun b ps q=>⟨#[],by rw [zg (yi q hn),q];simp⟩
theorem Un.write (mu:Mut (H x)) (he:e=x\/H e=some (.own x)) (k:∀ b u,b≠e->h.get? b=some u->h'.get? b=some u) (heo:∃ u,h'.get? e=some u):Un fs ex H (upd H x o) h h':=by
 have hx:∀ b,H b=none->b≠x:=fun b n z=>by subst z;rw [n] at mu;exact mu
 have hb:∀ b,H b=none->b≠e:=fun b n z=>by
  subst z
  rcases he with r |r
  ·exact hx b n r
  ·rw [n] at r;cases r
 have hm:∀ b u,H b=some u->¬ Mut (some u)->b≠x:=fun b u q nm z=>by subst z;rw [q] at mu;exact nm mu
 refine⟨fun b u q n _ _=>k b u (hb b n) q,fun b u q n _ _=>⟨u.slots,k b u (hb b n) q⟩,fun b u q n _=>by rw [zg (hx b n)];exact n,fun b u q _=>?_,
  fun b xs q=>by rw [zg (hm b _ q fun z=>z)];exact q,fun b u xs q=>by rw [zg (hm b _ q fun z=>z)];exact q,fun b ps q=>⟨#[],by rw [zg (hm b _ q fun z=>z),q];simp⟩⟩
 by_cases hbe:b=e
 ·subst hbe;exact heo
 ·exact⟨u,k b u hbe q⟩
end
noncomputable def trk (h:Heap) (H:Hp):List Addr:=(List.range h.objs.size).filter fun a=>(H a).isSome
noncomputable def qw (h:Heap) (H:Hp):Heap:=PySem.W.hideAll h (trk h H)
theorem QU (h:Heap) (H:Hp):(qw h H).objs.size=h.objs.size:=PySem.W.hideAll_size _ _
theorem KB {h:Heap}{H:Hp}{b:Addr}{o:Obj}(e:h.get? b=some o) (n:H b=none):(qw h H).get? b=some o:=
 PySem.W.hideAll_get _ e fun hm=>by
  have q:(H b).isSome=true:=(List.mem_filter.mp hm).2
  rw [n] at q;simp at q
theorem zcf {h:Heap}{H:Hp}{b:Addr}{o:Obj}(e:(qw h H).get? b=some o):h.get? b=some o/\H b=none:=by
 have e':h.get? b=some o:=PySem.W.of_hideAll (trk h H) e
 refine⟨e',?_⟩
 cases q:H b with
 |none=>rfl
 |some x=>
  have hm:b∈trk h H:=List.mem_filter.mpr ⟨List.mem_range.mpr (Heap.lt_size e'),by simp [q]⟩
  have z:(qw h H).get? b=none:=PySem.W.hideAll_none (trk h H) hm
  rw [z] at e;cases e
noncomputable def zcg (g h:Heap) (L:Addr):List (Addr×Obj):=(List.range h.objs.size).filterMap fun a=>if a=L\/(g.get? a).isSome=true then none else (h.get? a).map fun o=>(a,o)
noncomputable def z0 (g h:Heap) (L d:Addr):List (Addr×Obj):=(zcg g h L).filter fun p=>decide (p.1≠d)
structure Mod (K:W.Frag) (mg:Str->Option Value) (base:Heap):Prop where
 kin:K.In base
 glob:base.Ns mainGlobals mg
 blt:∃ mb,base.Ns builtinsNs mb/\∀ x:Str,x≠"__name__"->mb x=bootBuiltins x
 nolimit:base.NoLimit
structure Cx where
 prog:Program
 w:World
 K:W.Frag
 mg:Str->Option Value
 base:Heap
 A:Around
 N:List Str
 s₀:Shared
 H₀:Hp
 env:Env
 outer:List Env
 stack:List Env
 ex:List Addr
 fn:Str->Bool
 calm:Bool
 pn:List (Addr×Obj)
 xe:Value->Shared->Prop
noncomputable def frs (l:List Env):List Addr:=l.filterMap (·.frame)
noncomputable abbrev Cx.fs (X:Cx):List Addr:=frs X.outer
def Vis (sc:Scope) (x:Str):Prop:=sc.names.lookup x=some .local\/sc.names.lookup x=some .cell\/sc.names.lookup x=some .free
def Loc (sc:Scope) (x:Str):Prop:=sc.names.lookup x=some .local\/sc.names.lookup x=some .cell
def Look (env:Env) (h:Heap) (m:Str->Option Value) (x:Str) (u:Value):Prop:=
 (env.kindOf x=some .local/\m x=some u)\/((env.kindOf x=some .cell\/env.kindOf x=some .free)/\∃ c,env.cells.lookup x=some c/\h.IsCell c (some u))
structure Cx.Ok (X:Cx):Prop where
 mod:Mod X.K X.mg X.base
 kind:X.env.scope.kind=.function
 glob:X.env.globals=mainGlobals
 blt:X.env.builtins=builtinsNs
 above:X.s₀.heap.objs.size≤X.env.locals
 inj:∀ x y c,X.env.cells.lookup x=some c->X.env.cells.lookup y=some c->x=y
 has:∀ x,(X.env.kindOf x=some .cell\/X.env.kindOf x=some .free)->∃ c,X.env.cells.lookup x=some c
 cab:∀ x c,X.fn x=true->X.env.cells.lookup x=some c->X.s₀.heap.objs.size≤c
 hd:X.calm=true->X.A.handled=none
 frames:X.A.frames=some X.stack
 stk:X.stack=X.outer\/(X.stack=X.env :: X.outer/\X.env.frame=some X.env.locals)
 exf:∀ b∈X.ex,b≠X.env.locals/\∀ x c,X.env.cells.lookup x=some c->c≠b
 bs:∀ b o,X.base.get? b=some o->X.s₀.heap.get? b=some o/\X.H₀ b=none
 bsz:X.base.objs.size≤X.s₀.heap.objs.size
 noex:∀ b o,X.base.get? b=some o->b ∉ X.ex
 exfs:∀ b∈X.ex,b ∉ X.fs
 funs:X.s₀.heap.FunFrames X.base X.outer
 frf:∀ b∈X.fs,X.H₀ b=none
structure Inv (X:Cx) (pins:List (Addr×Obj)) (σ:List (Option V)) (H:Hp) (s:Shared):Prop where
 ok:X.Ok
 os:s.os=X.s₀.os
 bare:AllBare s.gens
 base:Un X.fs X.ex X.H₀ H X.s₀.heap s.heap
 loc:∃ m,s.heap.Ns X.env.locals m/\∀ (i:Nat) (x:Str) (v:V),X.N[i]? =some x->σ[i]? =some (some v)->Vis X.env.scope x->∃ u,RelV v u/\Look X.env s.heap m x u
 cell:∀ x c,X.env.cells.lookup x=some c->∃ v,s.heap.IsCell c v
 free:H X.env.locals=none
 freeC:∀ x c,X.env.cells.lookup x=some c->H c=none
 pin:∀ p∈X.pn ++ pins,s.heap.get? p.1=some p.2/\H p.1=none/\p.1≠X.env.locals/\p.1 ∉ X.fs/\∀ v,p.2.data≠.cell v
 hok:HOk X.prog X.w H s.heap
 len:σ.length=X.N.length
section
variable {X:Cx}{pins:List (Addr×Obj)}{σ:List (Option V)}{H H':Hp}{s:Shared}{h':Heap}
theorem Cx.Ok.nofr (ok:X.Ok) {b:Addr}{o:Obj}(e:X.base.get? b=some o):b ∉ X.fs:=fun hb=>by
 have:=(ok.funs.mem hb).1
 rw [e] at this;cases this
theorem Inv.bs (I:Inv X pins σ H s):∀ b o,X.base.get? b=some o->s.heap.get? b=some o/\H b=none:=fun b o e=>
 ⟨I.base.keep b o (I.ok.bs b o e).1 (I.ok.bs b o e).2 (I.ok.nofr e) (I.ok.noex b o e),I.base.free b o (I.ok.bs b o e).1 (I.ok.bs b o e).2 (I.ok.noex b o e)⟩
theorem Inv.bk (I:Inv X pins σ H s):∀ b o,X.base.get? b=some o->s.heap.get? b=some o:=fun b o e=>(I.bs b o e).1
theorem Inv.mod (I:Inv X pins σ H s):Mod X.K X.mg X.base:=I.ok.mod
theorem Inv.kIn (I:Inv X pins σ H s):X.K.In s.heap:=I.ok.mod.kin.keeps I.bk
theorem Inv.lt (I:Inv X pins σ H s):X.env.locals < s.heap.objs.size:=let ⟨_,hn,_⟩:=I.loc;hn.lt
theorem Inv.sz (I:Inv X pins σ H s):X.s₀.heap.objs.size≤s.heap.objs.size:=Nat.le_trans I.ok.above (Nat.le_of_lt I.lt)
theorem Inv.nofs (I:Inv X pins σ H s) {a:Addr}(h:s.heap.objs.size≤a):a ∉ X.fs:=fun hb=>by
 obtain⟨_,o,ho,_⟩:=I.ok.funs.mem hb
 exact absurd (Nat.lt_of_lt_of_le (Heap.lt_size ho) (Nat.le_trans I.sz h)) (Nat.lt_irrefl _)
theorem Inv.cne (I:Inv X pins σ H s):∀ x c,X.env.cells.lookup x=some c->c≠X.env.locals:=fun x c e z=>by
 obtain⟨v,o,ho,hd⟩:=I.cell x c e
 obtain⟨m,⟨o',es,ep,ho',hd',_⟩,_⟩:=I.loc
 rw [z,ho'] at ho;cases ho;rw [hd'] at hd;cases hd
theorem Inv.funs (I:Inv X pins σ H s):s.heap.FunFrames X.base X.outer:=by
 have all:∀ (l:List Env),(∀ b∈frs l,b∈X.fs)->X.s₀.heap.FunFrames X.base l->s.heap.FunFrames X.base l:=by
  intro l
  induction l with
  |nil=>intro _ _;trivial
  |cons env r ih=>
   intro hs hl
   obtain⟨hk,⟨L,o,hf,hn,ho,hd⟩,hr⟩:=hl
   have hL:L∈X.fs:=hs L (by unfold frs;rw [List.filterMap_cons,hf];exact List.mem_cons_self)
   obtain⟨sl,e⟩:=I.base.slot L o ho (I.ok.frf L hL) hL fun z=>I.ok.exfs L z hL
   exact⟨hk,⟨L,_,hf,hn,e,hd⟩,ih (fun b hb=>hs b (by unfold frs;rw [List.filterMap_cons,hf];exact List.mem_cons_of_mem _ hb)) hr⟩
 exact all X.outer (fun _ hb=>hb) I.ok.funs
theorem Inv.stack (I:Inv X pins σ H s):s.heap.FunFrames X.base X.stack:=by
 rcases I.ok.stk with e | ⟨e,hf⟩
 ·rw [e];exact I.funs
 ·rw [e]
  obtain⟨m,hn,_⟩:=I.loc
  refine .cons (by rw [I.ok.kind];decide) hf hn ?_ I.funs
  exact Heap.get?_none_of_le (Nat.le_trans I.ok.bsz I.ok.above)
theorem Inv.stkSub (I:Inv X pins σ H s):∀ b∈frs X.stack,b∈X.env.locals :: X.fs:=fun b hb=>by
 rcases I.ok.stk with e | ⟨e,hf⟩
 ·rw [e] at hb;exact List.mem_cons_of_mem _ hb
 ·rw [e] at hb
  unfold frs at hb
  rw [List.filterMap_cons,hf] at hb
  exact hb
theorem Inv.stkFree (I:Inv X pins σ H s):∀ b∈frs X.stack,H b=none:=fun b hb=>by
 rcases List.mem_cons.mp (I.stkSub b hb) with e |hb
 ·rw [e];exact I.free
 ·obtain⟨_,o,ho,_⟩:=I.ok.funs.mem hb
  exact I.base.free b o ho (I.ok.frf b hb) fun z=>I.ok.exfs b z hb
theorem Inv.step {g':Array GenState}{t':Nat}{d':Drawn}{ch:List Addr}(I:Inv X pins σ H s)
  (hch:∀ b∈ch,(b∈X.ex\/X.s₀.heap.objs.size≤b)/\b≠X.env.locals/\(∀ x c,X.env.cells.lookup x=some c->c≠b)/\∀ p∈X.pn ++ pins,p.1≠b)
  (keep:∀ b o,b≠X.env.locals->b ∉ X.fs->b ∉ ch->s.heap.get? b=some o->H b=none->h'.get? b=some o)
  (slot:∀ b o,b≠X.env.locals->b∈X.fs->b ∉ ch->s.heap.get? b=some o->H b=none->∃ sl,h'.get? b=some { o with slots:=sl }) (free:∀ b o,b ∉ ch->s.heap.get? b=some o->H b=none->H' b=none)
  (there:∀ b o,b ∉ ch->s.heap.get? b=some o->∃ o',h'.get? b=some o')
  (tups:∀ b xs,H b=some (.tup xs)->H' b=some (.tup xs)) (frzs:∀ b o u,H b=some (.frz o u)->H' b=some (.frz o u)) (tbls:∀ b ps,H b=some (.tbl ps)->∃ more,H' b=some (.tbl (ps ++ more)))
  (ns:∀ m,s.heap.Ns X.env.locals m->h'.Ns X.env.locals m) (hok:HOk X.prog X.w H' h') (hg:AllBare g') :
  Inv X pins σ H' { s with heap:=h',gens:=g',drawn:=d',toks:=t' }:=by
 have neL:∀ b o,X.s₀.heap.get? b=some o->b≠X.env.locals:=fun b o e=>Nat.ne_of_lt (Nat.lt_of_lt_of_le (Heap.lt_size e) I.ok.above)
 have neC:∀ b o,X.s₀.heap.get? b=some o->b ∉ X.ex->b ∉ ch:=fun b o e hx hb=>by
  rcases (hch b hb).1 with z |z
  ·exact hx z
  ·exact absurd (Nat.lt_of_lt_of_le (Heap.lt_size e) z) (Nat.lt_irrefl _)
 have Qy:∀ x c,X.env.cells.lookup x=some c->∀ v,s.heap.IsCell c v->h'.IsCell c v:=fun x c e v ⟨o,ho,hd⟩=>by
  have nch:c ∉ ch:=fun z=>(hch c z).2.2.1 x c e rfl
  by_cases hc:c∈X.fs
  ·obtain⟨sl,q⟩:=slot c o (I.cne x c e) hc nch ho (I.freeC x c e)
   exact⟨_,q,hd⟩
  ·exact⟨o,keep c o (I.cne x c e) hc nch ho (I.freeC x c e),hd⟩
 refine⟨I.ok,I.os,hg,⟨fun b o e n hb hx=>?_,fun b o e n hb hx=>?_,fun b o e n hx=>?_,fun b o e hx=>?_,fun b xs e=>tups b xs (I.base.tups b xs e),fun b o xs e=>frzs b o xs (I.base.frzs b o xs e),fun b ps e=>?_⟩,?_,fun x c e=>?_,?_,fun x c e=>?_,fun p hp=>?_,hok,I.len⟩
 ·exact keep b o (neL b o e) hb (neC b o e hx) (I.base.keep b o e n hb hx) (I.base.free b o e n hx)
 ·obtain⟨sl,e1⟩:=I.base.slot b o e n hb hx
  obtain⟨sl',e2⟩:=slot b _ (neL b o e) hb (neC b o e hx) e1 (I.base.free b o e n hx)
  exact⟨sl',e2⟩
 ·obtain⟨o',e1⟩:=I.base.there b o e hx
  exact free b o' (neC b o e hx) e1 (I.base.free b o e n hx)
 ·obtain⟨o',e1⟩:=I.base.there b o e hx
  exact there b o' (neC b o e hx) e1
 ·obtain⟨m1,e1⟩:=I.base.tbls b ps e
  obtain⟨m2,e2⟩:=tbls b _ e1
  exact⟨m1 ++ m2,by rw [e2,Array.append_assoc]⟩
 ·obtain⟨m,hn,hl⟩:=I.loc
  refine⟨m,ns m hn,fun i x v e1 e2 e3=>?_⟩
  obtain⟨u,r,l⟩:=hl i x v e1 e2 e3
  refine⟨u,r,?_⟩
  rcases l with l | ⟨k,c,e,z⟩
  ·exact .inl l
  ·exact .inr ⟨k,c,e,Qy x c e _ z⟩
 ·obtain⟨v,z⟩:=I.cell x c e
  exact⟨v,Qy x c e v z⟩
 ·obtain⟨m,⟨o,_,_,ho,_⟩,_⟩:=I.loc
  exact free _ o (fun z=>(hch _ z).2.1 rfl) ho I.free
 ·obtain⟨v,o,ho,hd⟩:=I.cell x c e
  exact free c o (fun z=>(hch c z).2.2.1 x c e rfl) ho (I.freeC x c e)
 ·obtain⟨e,n,ne,nf,d⟩:=I.pin p hp
  have nch:p.1 ∉ ch:=fun z=>(hch p.1 z).2.2.2 p hp rfl
  exact⟨keep p.1 p.2 ne nf nch e n,free p.1 p.2 nch e n,ne,nf,d⟩
theorem Inv.un {t':Nat}(I:Inv X pins σ H s) (u:Un X.fs [] H H' s.heap h') (hok:HOk X.prog X.w H' h'):Inv X pins σ H' { s with heap:=h',toks:=t' }:=by
  obtain⟨m,⟨o,es,ep,ho,r⟩,_⟩:=id I.loc
  obtain⟨sl,hL⟩:=u.any ho I.free (by simp)
  exact I.step (g':=s.gens) (d':=s.drawn) (ch:=[]) (fun _ z=>nomatch z) (fun b o _ hb _ e n=>u.keep b o e n hb (by simp)) (fun b o _ hb _ e n=>u.slot b o e n hb (by simp)) (fun b o _ e n=>u.free b o e n (by simp)) (fun b o _ e=>u.there b o e (by simp)) u.tups u.frzs u.tbls (fun m' hm=>by
    obtain⟨o',es',ep',ho',r'⟩:=hm
    rw [ho] at ho';cases ho'
    exact⟨_,es',ep',hL,r'⟩) hok I.bare
theorem Inv.call {g':Array GenState}{t':Nat}{d':Drawn}{ch:List Addr}(I:Inv X pins σ H s) (u:Un (frs X.stack) ch H H' s.heap h') (hok:HOk X.prog X.w H' h') (hg:AllBare g')
    (hch:∀ b∈ch,(b∈X.ex\/X.s₀.heap.objs.size≤b)/\b≠X.env.locals/\(∀ x c,X.env.cells.lookup x=some c->c≠b)/\∀ p∈X.pn ++ pins,p.1≠b) :
    Inv X pins σ H' { s with heap:=h',gens:=g',drawn:=d',toks:=t' }:=by
  obtain⟨m,⟨o,es,ep,ho,r⟩,_⟩:=id I.loc
  obtain⟨sl,hL⟩:=u.any ho I.free fun z=>(hch _ z).2.1 rfl
  exact I.step (ch:=ch) hch (fun b o hL hb hc e n=>u.keep b o e n (fun z=>(List.mem_cons.mp (I.stkSub b z)).elim hL hb) hc) (fun b o _ _ hc e n=>u.any e n hc) (fun b o hc e n=>u.free b o e n hc) (fun b o hc e=>u.there b o e hc) u.tups u.frzs u.tbls (fun m' hm=>by
    obtain⟨o',es',ep',ho',r'⟩:=hm
    rw [ho] at ho';cases ho'
    exact⟨_,es',ep',hL,r'⟩) hok hg
theorem Inv.turned {t':Nat}{it:Addr}(I:Inv X pins σ H s) (k:∀ b o,b≠it->s.heap.get? b=some o->h'.get? b=some o) (hn:H it=none) (hL:it≠X.env.locals)
  (h1:it∈X.ex\/X.s₀.heap.objs.size≤it) (h2:∀ x c,X.env.cells.lookup x=some c->c≠it) (h3:∀ p∈X.pn ++ pins,p.1≠it):Inv X pins σ H { s with heap:=h',toks:=t' }:=by
 have nit:∀ b u,H b=some u->b≠it:=fun b u e z=>by rw [z,hn] at e;cases e
 refine I.step (g':=s.gens) (d':=s.drawn) (ch:=[it]) (fun b hb=>?_) (fun b o _ _ hc e _=>k b o (fun z=>hc (by simp [z])) e) (fun b o _ _ hc e _=>⟨o.slots,k b o (fun z=>hc (by simp [z])) e⟩) (fun _ _ _ _ n=>n)
  (fun b o hc e=>⟨o,k b o (fun z=>hc (by simp [z])) e⟩) (fun _ _ e=>e) (fun _ _ _ e=>e) (fun b ps e=>⟨#[],by rw [e];simp⟩) (fun m hm=>?_) (fun b u e=>?_) I.bare
 ·have e:b=it:=by simpa using hb
  subst e
  exact⟨h1,hL,h2,h3⟩
 ·obtain⟨o,es,ep,ho,r⟩:=hm
  exact⟨o,es,ep,k _ o (Ne.symm hL) ho,r⟩
 ·refine (I.hok b u e).stay (fun c v hc q=>k c v ?_ q) (fun _ q=>q) fun _ _ q=>q
  rcases hc with z |z
  ·rw [z];exact nit b u e
  ·exact nit c _ z
theorem Inv.tok (I:Inv X pins σ H s) (t:Nat):Inv X pins σ H { s with toks:=t }:=I.un (h':=s.heap) (t':=t) Un.refl I.hok
theorem Inv.kept {t':Nat}(I:Inv X pins σ H s) (k:∀ b u,s.heap.get? b=some u->h'.get? b=some u):Inv X pins σ H { s with heap:=h',toks:=t' }:=I.un (Un.kept k) (I.hok.kept k)
theorem Inv.laid {a:Addr}{o:HO}{t':Nat}(I:Inv X pins σ H s) (k:∀ b u,s.heap.get? b=some u->h'.get? b=some u) (hp:s.heap.objs.size≤a) (new:yq X.prog X.w (upd H a o) h' a o) :
  Inv X pins σ (upd H a o) { s with heap:=h',toks:=t' }:=I.un (Un.laid k hp (I.hok.fresh hp)) (I.hok.laid k hp new)
theorem Inv.write {x e:Addr}{o:HO}{t':Nat}(I:Inv X pins σ H s) (mu:Mut (H x)) (he:e=x\/H e=some (.own x)) (k:∀ b u,b≠e->s.heap.get? b=some u->h'.get? b=some u) (heo:∃ u,h'.get? e=some u)
  (new:yq X.prog X.w (upd H x o) h' x o):Inv X pins σ (upd H x o) { s with heap:=h',toks:=t' }:=I.un (Un.write mu he k heo) (I.hok.write mu he k heo new)
theorem Inv.weak {σ':List (Option V)}(I:Inv X pins σ H s) (hl:σ'.length=σ.length) (w:∀ (i:Nat) v,σ'[i]? =some (some v)->σ[i]? =some (some v)):Inv X pins σ' H s:=
 ⟨I.ok,I.os,I.bare,I.base,let ⟨m,hn,hl'⟩:=I.loc;⟨m,hn,fun i x v e1 e2 e3=>hl' i x v e1 (w i v e2) e3⟩,I.cell,I.free,I.freeC,I.pin,I.hok,hl.trans I.len⟩
theorem Inv.pins_of {pins':List (Addr×Obj)}(I:Inv X pins σ H s) (h:∀ p∈pins',s.heap.get? p.1=some p.2/\H p.1=none/\p.1≠X.env.locals/\p.1 ∉ X.fs/\∀ v,p.2.data≠.cell v):Inv X pins' σ H s:=
 ⟨I.ok,I.os,I.bare,I.base,I.loc,I.cell,I.free,I.freeC,fun p hp=>(List.mem_append.mp hp).elim (fun z=>I.pin p (List.mem_append_left _ z)) (h p),I.hok,I.len⟩
theorem kg {N:List Str}(hN:N.Nodup) {i j:Nat}{x:Str}(a:N[i]? =some x) (b:N[j]? =some x):i=j:=by
 obtain⟨h1,e1⟩:=List.getElem?_eq_some_iff.mp a
 obtain⟨h2,e2⟩:=List.getElem?_eq_some_iff.mp b
 exact (List.getElem_inj hN).mp (e1.trans e2.symm)
theorem Ym {M:Model}{A:Around}{E:Value->Shared->Prop}{i:Nat}{x:Str}{v:V}{u:Value}{Q:Unit->Shared->Prop}(I:Inv X pins σ H s) (hN:X.N.Nodup) (hi:X.N[i]? =some x) (hx:Loc X.env.scope x) (r:RelV v u)
  (h:∀ s',Inv X pins (σ.set i (some v)) H s'->(∃ a,Heap.SameBut a s.heap s'.heap/\(a=X.env.locals\/X.env.cells.lookup x=some a))->Q () s') (hf:X.fn x=true\/X.env.scope.names.lookup x=some .local:=by first |exact .inl rfl |exact .inr rfl |assumption):wpAny M A (storeName X.env x u) Q E s:=by
 obtain⟨m,hn,hl⟩:=id I.loc
 have hcls:(X.env.scope.kind == .class || (X.env.scope.kind == .module && X.env.locals != X.env.globals))=false:=by rw [I.ok.kind];rfl
 have hiσ:i < σ.length:=by rw [I.len];exact (List.getElem?_eq_some_iff.mp hi).1
 have cne:=I.cne
 have tracked:∀ {a:Addr}{h':Heap},(∃ o,s.heap.get? a=some o/\H a=none)->Heap.SameBut a s.heap h'->HOk X.prog X.w H h':=fun {a h'} ha hs b ob e=>by
  obtain⟨_,_,hfree⟩:=ha
  refine (I.hok b ob e).stay (fun c w' hc q=>(hs.2 c ?_).trans q) (fun _ q=>q) fun _ _ q=>q
  rintro rfl
  rcases hc with rfl |hc
  ·rw [hfree] at e;cases e
  ·rw [hfree] at hc;cases hc
 rcases hx with hk |hk
 ·refine wpAny_storeName_local hk hn (fun h' hn' hs=>?_) hcls
  obtain⟨oL,_,_,hoL,_⟩:=id hn
  refine h _ ⟨I.ok,I.os,I.bare,⟨fun b o e n hb hx=>?_,fun b o e n hb hx=>?_,I.base.free,fun b o e hx=>?_,I.base.tups,I.base.frzs,I.base.tbls⟩,⟨_,hn',fun j y v' e1 e2 e3=>?_⟩,fun y c e=>?_,I.free,I.freeC,fun p hp=>?_,tracked ⟨oL,hoL,I.free⟩ hs,by simpa using I.len⟩ ⟨_,hs,.inl rfl⟩
  ·exact (hs.2 b (Nat.ne_of_lt (Nat.lt_of_lt_of_le (Heap.lt_size e) I.ok.above))).trans (I.base.keep b o e n hb hx)
  ·obtain⟨sl,e1⟩:=I.base.slot b o e n hb hx
   exact⟨sl,(hs.2 b (Nat.ne_of_lt (Nat.lt_of_lt_of_le (Heap.lt_size e) I.ok.above))).trans e1⟩
  ·obtain⟨o',e1⟩:=I.base.there b o e hx
   exact⟨o',(hs.2 b (Nat.ne_of_lt (Nat.lt_of_lt_of_le (Heap.lt_size e) I.ok.above))).trans e1⟩
  ·by_cases hj:j=i
   ·subst hj
    rw [hi] at e1;cases e1
    rw [List.getElem?_set_self hiσ] at e2
    cases e2
    exact⟨u,r,.inl ⟨hk,by simp⟩⟩
   ·rw [List.getElem?_set_ne (Ne.symm hj)] at e2
    obtain⟨u',r',q⟩:=hl j y v' e1 e2 e3
    refine⟨u',r',?_⟩
    rcases q with⟨k,e⟩ | ⟨k,c,e,z⟩
    ·refine .inl ⟨k,?_⟩
     have:y≠x:=fun e=>hj (kg hN e1 (e ▸ hi))
     simp [this,e]
    ·exact .inr ⟨k,c,e,z.sameBut hs (cne y c e)⟩
  ·obtain⟨w',z⟩:=I.cell y c e
   exact⟨w',z.sameBut hs (cne y c e)⟩
  ·obtain⟨e,n,ne,nf,d⟩:=I.pin p hp
   exact⟨(hs.2 p.1 ne).trans e,n,ne,nf,d⟩
 ·have hfn:X.fn x=true:=by
   rcases hf with z |z
   ·exact z
   ·rw [z] at hk;cases hk
  obtain⟨c,hc⟩:=I.ok.has x (.inl hk)
  obtain⟨w',z⟩:=I.cell x c hc
  refine wpAny_storeName_cell I.ok.kind hk hc z (fun h' hc' hs=>?_)
  obtain⟨oc,hoc,hocd⟩:=id z
  refine h { s with heap:=h' } ⟨I.ok,I.os,I.bare,⟨fun b o e n hb hx=>?_,fun b o e n hb hx=>?_,I.base.free,fun b o e hx=>?_,I.base.tups,I.base.frzs,I.base.tbls⟩,⟨m,hn.sameBut hs (Ne.symm (cne x c hc)),fun j y v' e1 e2 e3=>?_⟩,fun y c' e=>?_,I.free,I.freeC,fun p hp=>?_,tracked ⟨oc,hoc,I.freeC x c hc⟩ hs,by simpa using I.len⟩ ⟨c,hs,.inr hc⟩
  ·exact (hs.2 b (Nat.ne_of_lt (Nat.lt_of_lt_of_le (Heap.lt_size e) (I.ok.cab x c hfn hc)))).trans (I.base.keep b o e n hb hx)
  ·obtain⟨sl,e1⟩:=I.base.slot b o e n hb hx
   exact⟨sl,(hs.2 b (Nat.ne_of_lt (Nat.lt_of_lt_of_le (Heap.lt_size e) (I.ok.cab x c hfn hc)))).trans e1⟩
  ·obtain⟨o',e1⟩:=I.base.there b o e hx
   exact⟨o',(hs.2 b (Nat.ne_of_lt (Nat.lt_of_lt_of_le (Heap.lt_size e) (I.ok.cab x c hfn hc)))).trans e1⟩
  ·by_cases hj:j=i
   ·subst hj
    rw [hi] at e1;cases e1
    rw [List.getElem?_set_self hiσ] at e2
    cases e2
    exact⟨u,r,.inr ⟨.inl hk,c,hc,hc'⟩⟩
   ·rw [List.getElem?_set_ne (Ne.symm hj)] at e2
    obtain⟨u',r',q⟩:=hl j y v' e1 e2 e3
    refine⟨u',r',?_⟩
    rcases q with q | ⟨k,c',e,z'⟩
    ·exact .inl q
    ·refine .inr ⟨k,c',e,z'.sameBut hs ?_⟩
     rintro rfl
     exact hj (kg hN e1 (I.ok.inj _ _ _ e hc ▸ hi))
  ·by_cases hcc:c'=c
   ·subst hcc;exact⟨_,hc'⟩
   ·obtain⟨w2,z2⟩:=I.cell y c' e
    exact⟨w2,z2.sameBut hs hcc⟩
  ·obtain⟨e,n,ne,nf,d⟩:=I.pin p hp
   refine⟨(hs.2 p.1 ?_).trans e,n,ne,nf,d⟩
   intro q
   rw [q,hoc] at e
   have q':oc=p.2:=Option.some.inj e
   exact d w' (by rw [<- q'];exact hocd)
theorem kh {M:Model}{A:Around}{E:Value->Shared->Prop}{i:Nat}{x:Str}{v:V}{u:Value}{Q:Unit->Shared->Prop}(I:Inv X pins σ H s) (hN:X.N.Nodup) (hi:X.N[i]? =some x) (hx:Loc X.env.scope x) (r:RelV v u)
  (h:∀ s',Inv X pins (σ.set i (some v)) H s'->Q () s') (hf:X.fn x=true\/X.env.scope.names.lookup x=some .local:=by first |exact .inl rfl |exact .inr rfl |assumption):wpAny M A (storeName X.env x u) Q E s:=
 Ym I hN hi hx r (fun s' I' _=>h s' I') hf
theorem Inv.call' {s':Shared}{ch:List Addr}(I:Inv X pins σ H s) (ho:s'.os=s.os) (u:Un (frs X.stack) ch H H' s.heap s'.heap) (hok:HOk X.prog X.w H' s'.heap) (hg:AllBare s'.gens)
  (hch:∀ b∈ch,(b∈X.ex\/X.s₀.heap.objs.size≤b)/\b≠X.env.locals/\(∀ x c,X.env.cells.lookup x=some c->c≠b)/\∀ p∈X.pn ++ pins,p.1≠b):Inv X pins σ H' s':=by
 obtain⟨h',g',d',t',o'⟩:=s'
 have e:o'=s.os:=ho
 subst e
 exact I.call (g':=g') (t':=t') (d':=d') u hok hg hch
end
abbrev XK:=Value->Option Addr->Hp->Prop
noncomputable abbrev St:=List (Option V)
abbrev VK:=V->Hp->Prop
abbrev TE:=St->Hp->VK->Prop
abbrev TT:=St->Hp->(Bool->Hp->Prop)->Prop
abbrev TA:=St->Hp->(List V->Hp->Prop)->Prop
structure Ends where
 nx:St->Hp->Prop
 rt:VK
 bk:St->Hp->Prop:=fun _ _=>False
 ct:St->Hp->Prop:=fun _ _=>False
abbrev TS:=Ends->St->Hp->Prop
def EP (X:Cx) (pins:List (Addr×Obj)) (σ:St) (Q:VK) (u:Value) (s':Shared):Prop:=∃ v H',Inv X pins σ H' s'/\RelV v u/\Q v H'
def TP (X:Cx) (pins:List (Addr×Obj)) (σ:St) (Q:Bool->Hp->Prop) (b:Bool) (s':Shared):Prop:=∃ H',Inv X pins σ H' s'/\Q b H'
def AP (X:Cx) (pins:List (Addr×Obj)) (σ:St) (Q:List V->Hp->Prop) (us:List Value) (s':Shared):Prop:=∃ vs H',Inv X pins σ H' s'/\Vals vs us/\Q vs H'
def SP (X:Cx) (pins:List (Addr×Obj)) (D:Ends) (f:Flow) (s':Shared):Prop:=
 match f with
 |.next=>∃ σ' H',Inv X pins σ' H' s'/\D.nx σ' H'
 |.brk=>∃ σ' H',Inv X pins σ' H' s'/\D.bk σ' H'
 |.cont=>∃ σ' H',Inv X pins σ' H' s'/\D.ct σ' H'
 |.ret u=>∃ v σ' H',Inv X pins σ' H' s'/\RelV v u/\D.rt v H'
def PE (X:Cx) (e:Expr) (t:TE):Prop:=
 ∀ (pins:List (Addr×Obj)) (s:Shared) (σ:St) (H:Hp) (Q:VK),Inv X pins σ H s->t σ H Q->wpAny (model X.prog X.w) X.A (eval e X.env) (EP X pins σ Q) X.xe s
def PT (X:Cx) (e:Expr) (t:TT):Prop:=
 ∀ (pins:List (Addr×Obj)) (s:Shared) (σ:St) (H:Hp) (Q:Bool->Hp->Prop),Inv X pins σ H s->t σ H Q->wpAny (model X.prog X.w) X.A (isTrue e X.env (eval e X.env)) (TP X pins σ Q) X.xe s
def PW (X:Cx) (e:Expr) (t:TT):Prop:=
 ∀ (whole:Sem Value) (pins:List (Addr×Obj)) (s:Shared) (σ:St) (H:Hp) (Q:Bool->Hp->Prop),Inv X pins σ H s->t σ H Q->wpAny (model X.prog X.w) X.A (isTrue e X.env whole) (TP X pins σ Q) X.xe s
theorem PW.pt {X:Cx}{e:Expr}{t:TT}(h:PW X e t):PT X e t:=h _
def PA (X:Cx) (es:List Expr) (t:TA):Prop:=
 ∀ (pos:Pos) (pins:List (Addr×Obj)) (s:Shared) (σ:St) (H:Hp) (Q:List V->Hp->Prop),Inv X pins σ H s->t σ H Q->wpAny (model X.prog X.w) X.A (spliced (backTo pos (starEach es X.env))) (AP X pins σ Q) X.xe s
def PS (X:Cx) (st:Stmt) (t:TS):Prop:=
 ∀ (pins:List (Addr×Obj)) (s:Shared) (σ:St) (H:Hp) (D:Ends),Inv X pins σ H s->t D σ H->wpAny (model X.prog X.w) X.A (exec st X.env) (SP X pins D) X.xe s
def PSs (X:Cx) (st:List Stmt) (t:TS):Prop:=
 ∀ (pins:List (Addr×Obj)) (s:Shared) (σ:St) (H:Hp) (D:Ends),Inv X pins σ H s->t D σ H->wpAny (model X.prog X.w) X.A (execs st X.env) (SP X pins D) X.xe s
theorem thn {α:Type}{t:Sem α}{Q Q':α->Shared->Prop}{M:Model}{A:Around}{E:Value->Shared->Prop}{s:Shared}(h:wpAny M A t Q E s) (hQ:∀ a s,Q a s->Q' a s):wpAny M A t Q' E s:=wpAny_mono h hQ fun _ _ x=>x
section
variable {X:Cx}
def ZB (i:Nat):TE:=fun σ H Q=>∃ v,σ[i]? =some (some v)/\Q v H
def tC (v:V):TE:=fun _ H Q=>Q v H
theorem zdJ {i:Nat}{x:Str}{pos:Pos}(hN:X.N[i]? =some x) (hv:Vis X.env.scope x) (hd:(x == ("__debug__":Str))=false:=by decide) (hcd:(x == ("__classdict__":Str))=false:=by decide):PE X (.Name x pos) (ZB i):=by
 intro pins s σ H Q I h
 obtain⟨v,e,h⟩:=h
 obtain⟨m,hn,hl⟩:=I.loc
 obtain⟨u,r,l⟩:=hl i x v hN e hv
 have fin:EP X pins σ Q u s:=⟨v,H,I,r,h⟩
 rcases l with⟨hk,hm⟩ | ⟨hk,c,hc,hcell⟩
 ·exact wpAny_Name (wpAny_loadName_local I.ok.kind hk hn hm fin) hd
 ·rcases hk with hk |hk
  ·exact wpAny_Name (wpAny_loadName_cell I.ok.kind hk hc hcell fin) hd
  ·exact wpAny_Name (wpAny_loadName_free I.ok.kind hk hc hcell fin hcd) hd
theorem za {i j pos}:PE X (.Constant (.int i) j pos) (tC (.int i)):=fun _ _ _ H _ I h=>wpAny_Constant_int ⟨.int i,H,I.tok _,⟨_,rfl⟩,h⟩
theorem x5 {b j pos}:PE X (.Constant (.bool b) j pos) (tC (.bl b)):=fun _ _ _ H _ I h=>Constant_bool ⟨.bl b,H,I,rfl,h⟩
theorem xE {j pos}:PE X (.Constant .none j pos) (tC .non):=fun _ _ _ H _ I h=>Constant_none ⟨.non,H,I,rfl,h⟩
theorem zj {x j pos}:PE X (.Constant (.str x) j pos) (tC (.str x)):=fun _ _ _ H _ I h=>Calls.Constant_str ⟨.str x,H,I.tok _,⟨_,rfl⟩,h⟩
def Gl (X:Cx) (x:Str):Prop:=X.env.kindOf x=some .globalImplicit
theorem ud {E:Value->Shared->Prop}{pins:List (Addr×Obj)}{s:Shared}{σ:St}{H:Hp}{x:Str}{u:Value}{pos:Pos}{Q:Value->Shared->Prop}(I:Inv X pins σ H s) (hg:Gl X x) (hm:X.mg x=some u) (h:Q u s)
  (hd:(x == ("__debug__":Str))=false:=by decide):wpAny (model X.prog X.w) X.A (eval (.Name x pos) X.env) Q E s:=
 Calls.Name_function_global I.ok.kind hg (Calls.loadGlobal_global (by rw [I.ok.glob];exact I.mod.glob.keeps I.bk) hm h) hd
theorem vN {E:Value->Shared->Prop}{pins:List (Addr×Obj)}{s:Shared}{σ:St}{H:Hp}{x:Str}{u:Value}{pos:Pos}{Q:Value->Shared->Prop}(I:Inv X pins σ H s) (hg:Gl X x) (hm:X.mg x=none) (hv:bootBuiltins x=some u) (h:Q u s)
  (hn:x≠"__name__":=by decide) (hd:(x == ("__debug__":Str))=false:=by decide):wpAny (model X.prog X.w) X.A (eval (.Name x pos) X.env) Q E s:=by
 obtain⟨mb,h1,h2⟩:=I.mod.blt
 exact Calls.Name_function_global I.ok.kind hg (Calls.loadGlobal_builtin (by rw [I.ok.glob];exact I.mod.glob.keeps I.bk) hm (by rw [I.ok.blt];exact h1.keeps I.bk) ((h2 x hn).trans hv) h) hd
theorem xh {x:Str}{v:V}{u:Value}{pos:Pos}(hg:Gl X x) (hm:X.mg x=some u) (r:RelV v u) (hd:(x == ("__debug__":Str))=false:=by decide):PE X (.Name x pos) (tC v):=
 fun _ _ _ H _ I h=>ud I hg hm ⟨v,H,I,r,h⟩ hd
theorem yW {x:Str}{v:V}{u:Value}{pos:Pos}(hg:Gl X x) (hm:X.mg x=none) (hv:bootBuiltins x=some u) (r:RelV v u) (hn:x≠"__name__":=by decide) (hd:(x == ("__debug__":Str))=false:=by decide):PE X (.Name x pos) (tC v):=
 fun _ _ _ H _ I h=>vN I hg hm hv ⟨v,H,I,r,h⟩ hn hd
variable {a b:Expr}{ta tb:TE}{pos:Pos}
def tB (t:TE):TT:=fun σ H Q=>t σ H fun x H1=>∃ c,x=.bl c/\Q c H1
theorem yS {e:Expr}{t:TE}(h:PE X e t) (he:∀ whole,isTrue e X.env whole=(do let v <- whole;standAt e.pos;holding [v] (truthy v)):=by intro _;rfl):PT X e (tB t):=by
 intro pins s σ H Q I hw
 refine isTrue_plain (thn (h pins s σ H _ I hw) fun v s1 ⟨x,H1,I1,r1,q1⟩=>?_) (he _)
 obtain⟨d,rfl,q⟩:=q1
 cases r1
 exact wpAny_truthy_bool ⟨H1,I1,q⟩
variable {tA tB':TT}{z0:List Expr}
def KC (t u:TT):TT:=fun σ H Q=>t σ H fun c H1=>if c=true then u σ H1 Q else Q false H1
def tOr (t u:TT):TT:=fun σ H Q=>t σ H fun c H1=>if c=true then Q true H1 else u σ H1 Q
def KD (t:TT):TT:=fun σ H Q=>t σ H fun c H1=>Q (!c) H1
theorem ZC (ha:PT X a tA):PW X (.BoolOp .And [a] pos) tA:=by
 intro wh pins s σ H Q I h
 refine isTrue_and (thn (ha pins s σ H Q I h) fun c s1 e=>?_)
 cases c with
 |true=>exact isTrue_and_nil e
 |false=>exact e
theorem xi (ha:PT X a tA):PW X (.BoolOp .Or [a] pos) tA:=by
 intro wh pins s σ H Q I h
 refine isTrue_or (thn (ha pins s σ H Q I h) fun c s1 e=>?_)
 cases c with
 |false=>exact isTrue_or_nil e
 |true=>exact e
theorem Y8 (ha:PT X a tA) (hb:PW X (.BoolOp .And (b :: z0) pos) tB'):PW X (.BoolOp .And (a :: b :: z0) pos) (KC tA tB'):=by
 intro wh pins s σ H Q I h
 refine isTrue_and (thn (ha pins s σ H _ I h) fun c s1 ⟨H1,I1,q1⟩=>?_)
 cases c with
 |true=>exact hb wh pins s1 σ H1 Q I1 q1
 |false=>exact⟨H1,I1,q1⟩
theorem yQ (ha:PT X a tA) (hb:PW X (.BoolOp .Or (b :: z0) pos) tB'):PW X (.BoolOp .Or (a :: b :: z0) pos) (tOr tA tB'):=by
 intro wh pins s σ H Q I h
 refine isTrue_or (thn (ha pins s σ H _ I h) fun c s1 ⟨H1,I1,q1⟩=>?_)
 cases c with
 |true=>exact⟨H1,I1,q1⟩
 |false=>exact hb wh pins s1 σ H1 Q I1 q1
theorem yK (ha:PT X a tA):PT X (.UnaryOp .Not a pos) (KD tA):=by
 intro pins s σ H Q I h
 exact isTrue_not (ha pins s σ H (fun c H1=>Q (!c) H1) I h)
def UJ (ta tb:TE):TE:=fun σ H Q=>ta σ H fun x H1=>∃ c,x=.bl c/\if c=true then tb σ H1 Q else Q (.bl false) H1
def zf3 (ta tb:TE):TE:=fun σ H Q=>ta σ H fun x H1=>∃ c,x=.bl c/\if c=true then Q (.bl true) H1 else tb σ H1 Q
def UK (ta:TE):TE:=fun σ H Q=>ta σ H fun x H1=>∃ c,x=.bl c/\Q (.bl (!c)) H1
theorem vO {op} {t:TE}(h:PE X a t):PE X (.BoolOp op [a] pos) t:=fun pins s σ H Q I hw=>BoolOp_one (h pins s σ H Q I hw)
theorem xy (ha:PE X a ta) (hb:PE X (.BoolOp .And (b :: z0) pos) tb):PE X (.BoolOp .And (a :: b :: z0) pos) (UJ ta tb):=by
 intro pins s σ H Q I h
 refine BoolOp_and (thn (ha pins s σ H _ I h) fun v s1 ⟨x,H1,I1,r1,q1⟩=>?_)
 obtain⟨c,rfl,q1⟩:=q1
 cases r1
 refine wpAny_truthy_bool ?_
 cases c with
 |true=>exact hb pins s1 σ H1 Q I1 q1
 |false=>exact⟨.bl false,H1,I1,rfl,q1⟩
theorem zdK (ha:PE X a ta):PE X (.UnaryOp .Not a pos) (UK ta):=by
 intro pins s σ H Q I h
 refine UnaryOp_ (thn (ha pins s σ H _ I h) fun v s1 ⟨x,H1,I1,r1,q1⟩=>?_)
 obtain⟨c,rfl,q1⟩:=q1
 cases r1
 exact not_of (wpAny_truthy_bool ⟨.bl (!c),H1,I1,rfl,q1⟩)
def tIf (t:TT) (ta tb:TE):TE:=fun σ H Q=>t σ H fun c H1=>if c=true then ta σ H1 Q else tb σ H1 Q
theorem KF {c:Expr}(hc:PT X c tA) (ha:PE X a ta) (hb:PE X b tb):PE X (.IfExp c a b pos) (tIf tA ta tb):=by
 intro pins s σ H Q I h
 refine wpAny_IfExp (thn (hc pins s σ H _ I h) fun d s1 ⟨H1,I1,q1⟩=>?_)
 cases d with
 |true=>exact ha pins s1 σ H1 Q I1 q1
 |false=>exact hb pins s1 σ H1 Q I1 q1
end
def SqL (K:W.Frag) (H:Hp) (a:Addr) (xs:List V):Prop:=
 Rd H a (.lst xs)\/
  ∃ (o:Obj) (its:Array Value) (n:Nat),K.lookup a=some o/\o.cls=.type "list"/\o.dict=none/\o.data=.seq its n/\its.size≤sizeLine/\Vals xs its.toList
def SqT (K:W.Frag) (H:Hp) (a:Addr) (xs:List V):Prop:=
 Rd H a (.tup xs)\/
  ∃ (o:Obj) (its:Array Value) (n:Nat),K.lookup a=some o/\o.cls=.type "tuple"/\o.data=.seq its n/\its.size≤sizeLine/\Vals xs its.toList
noncomputable def zf4:Value->Option V
 |.none=>some .non
 |.bool b=>some (.bl b)
 |.int i _=>some (.int i)
 |.str x _=>some (.str x)
 |.bytes b _=>some (.byt b)
 |.float b _=>some (.flt b)
 |.ref a=>some (.ref a)
 |.type n=>some (.ty n)
 |_=>none
theorem RelV.abs {x:V}{u:Value}(r:RelV x u):zf4 u=some x:=by
 cases x with
 |non=>cases r;rfl
 |bl _=>cases r;rfl
 |int _=>obtain⟨t,rfl⟩:=r;rfl
 |str _=>obtain⟨t,rfl⟩:=r;rfl
 |byt _=>obtain⟨t,rfl⟩:=r;rfl
 |flt _=>obtain⟨t,rfl⟩:=r;rfl
 |ref _=>cases r;rfl
 |ty _=>cases r;rfl
theorem RelV.inj {x y:V}{u:Value}(r:RelV x u) (q:RelV y u):x=y:=Option.some.inj (r.abs.symm.trans q.abs)
theorem Vals.inj:∀ {xs ys:List V}{us:List Value},Vals xs us->Vals ys us->xs=ys
 |_,_,_,.nil,.nil=>rfl
 |_,_,_,.cons r t,.cons r' t'=>by rw [r.inj r',Vals.inj t t']
section
variable {X:Cx}{pins:List (Addr×Obj)}{σ:St}{H:Hp}{s:Shared}{a:Addr}{xs ys:List V}
theorem SqL.of {K:W.Frag}(h:H a=some (.lst xs)):SqL K H a xs:=.inl (.inl h)
theorem SqT.of {K:W.Frag}(h:H a=some (.tup xs)):SqT K H a xs:=.inl (.inl h)
theorem Inv.list (I:Inv X pins σ H s) (h:SqL X.K H a xs):∃ its:List Value,Vals xs its/\PlainL s.heap a its.toArray/\xs.length≤sizeLine:=by
 rcases h with h | ⟨o,its,n,hk,hc,hd,hs,hz,r⟩
 ·obtain⟨z,its,n,r,e⟩:=h.ok I.hok
  exact⟨its,r,⟨_,n,e,rfl,rfl,rfl⟩,z⟩
 ·refine⟨its.toList,r,⟨o,n,I.kIn a o hk,hc,hd,by simpa using hs⟩,?_⟩
  have e:=r.length
  simp only [Array.length_toList] at e
  omega
theorem Inv.tuple (I:Inv X pins σ H s) (h:SqT X.K H a xs):∃ its:List Value,Vals xs its/\IsTup s.heap a its.toArray/\xs.length≤sizeLine:=by
 rcases h with h | ⟨o,its,n,hk,hc,hs,hz,r⟩
 ·obtain⟨z,its,r,p⟩:=h.ok I.hok
  exact⟨its,r,p,z⟩
 ·refine⟨its.toList,r,⟨o,I.kIn a o hk,hc,n,by simpa using hs⟩,?_⟩
  have e:=r.length
  simp only [Array.length_toList] at e
  omega
theorem Inv.list_inj (I:Inv X pins σ H s) (h:SqL X.K H a xs) (h':SqL X.K H a ys):xs=ys:=by
 obtain⟨its,r,⟨o,n,e,_,_,d⟩,_⟩:=I.list h
 obtain⟨its',r',⟨o',n',e',_,_,d'⟩,_⟩:=I.list h'
 rw [e] at e';cases e'
 rw [d] at d'
 injection d' with d1 _
 have:its=its':=by simpa using congrArg Array.toList d1
 subst this
 exact r.inj r'
theorem Inv.tuple_inj (I:Inv X pins σ H s) (h:SqT X.K H a xs) (h':SqT X.K H a ys):xs=ys:=by
 obtain⟨its,r,⟨o,e,_,n,d⟩,_⟩:=I.tuple h
 obtain⟨its',r',⟨o',e',_,n',d'⟩,_⟩:=I.tuple h'
 rw [e] at e';cases e'
 rw [d] at d'
 injection d' with d1 _
 have:its=its':=by simpa using congrArg Array.toList d1
 subst this
 exact r.inj r'
end
noncomputable abbrev Cx.wish (X:Cx) (E:Value->Shared->Prop):Cx:={ X with xe:=E }
noncomputable abbrev Cx.nox (X:Cx):Cx:=X.wish fun _ _=>False
theorem Cx.Ok.wish {X:Cx}(ok:X.Ok) (E:Value->Shared->Prop):(X.wish E).Ok:=
 ⟨ok.mod,ok.kind,ok.glob,ok.blt,ok.above,ok.inj,ok.has,ok.cab,ok.hd,ok.frames,ok.stk,ok.exf,ok.bs,ok.bsz,ok.noex,ok.exfs,ok.funs,ok.frf⟩
theorem Cx.Ok.unwish {X:Cx}{E:Value->Shared->Prop}(ok:(X.wish E).Ok):X.Ok:=
 ⟨ok.mod,ok.kind,ok.glob,ok.blt,ok.above,ok.inj,ok.has,ok.cab,ok.hd,ok.frames,ok.stk,ok.exf,ok.bs,ok.bsz,ok.noex,ok.exfs,ok.funs,ok.frf⟩
section
variable {X:Cx}{pins:List (Addr×Obj)}{σ:St}{H:Hp}{s:Shared}{E:Value->Shared->Prop}
theorem Inv.wish (I:Inv X pins σ H s) (E:Value->Shared->Prop):Inv (X.wish E) pins σ H s:=⟨I.ok.wish E,I.os,I.bare,I.base,I.loc,I.cell,I.free,I.freeC,I.pin,I.hok,I.len⟩
theorem Inv.unwish (I:Inv (X.wish E) pins σ H s):Inv X pins σ H s:=⟨I.ok.unwish,I.os,I.bare,I.base,I.loc,I.cell,I.free,I.freeC,I.pin,I.hok,I.len⟩
theorem SP.unwish {D:Ends}{f:Flow}{s':Shared}(h:SP (X.wish E) pins D f s'):SP X pins D f s':=by
 cases f with
 |next=>obtain⟨σ',H',I,q⟩:=h;exact⟨σ',H',I.unwish,q⟩
 |brk=>obtain⟨σ',H',I,q⟩:=h;exact⟨σ',H',I.unwish,q⟩
 |cont=>obtain⟨σ',H',I,q⟩:=h;exact⟨σ',H',I.unwish,q⟩
 |ret u=>obtain⟨v,σ',H',I,r,q⟩:=h;exact⟨v,σ',H',I.unwish,r,q⟩
theorem PSs.nox {st:List Stmt}{t:TS}(h:PSs X.nox st t):PSs X st t:=fun pins s σ H D I hw=>
 wpAny_mono (h pins s σ H D (I.wish _) hw) (fun _ _ q=>q.unwish) fun _ _ z=>False.elim z
end
section
variable {X:Cx}{st:Stmt}{z0:List Stmt}{t u:TS}{e:Expr}{te:TE}{pos:Pos}
def UL:TS:=fun D σ H=>D.nx σ H
def ZD (t u:TS):TS:=fun D σ H=>t { D with nx:=u D } σ H
theorem zw:PSs X [] UL:=fun _ _ σ H _ I h=>wpAny_execs_nil ⟨σ,H,I,h⟩
theorem zb (h1:PS X st t) (h2:PSs X z0 u):PSs X (st :: z0) (ZD t u):=by
 intro pins s σ H D I h
 refine wpAny_execs_cons (thn (h1 pins s σ H { D with nx:=u D } I h) fun f s1 q=>?_)
 cases f with
 |next=>
  obtain⟨σ',H',I',q⟩:=q
  exact h2 pins s1 σ' H' D I' q
 |ret v=>exact q
 |brk=>exact q
 |cont=>exact q
theorem ze (h1:PS X st t):PSs X [st] t:=by
 intro pins s σ H D I h
 refine wpAny_execs_cons (thn (h1 pins s σ H D I h) fun f s1 q=>?_)
 cases f with
 |next=>exact wpAny_execs_nil q
 |ret v=>exact q
 |brk=>exact q
 |cont=>exact q
theorem Inv.quiet {pins:List (Addr×Obj)}{σ:St}{H:Hp}{s:Shared}(I:Inv X pins σ H s):interactive X.env=false:=by simp [interactive,I.ok.kind]
def kN (te:TE):TS:=fun D σ H=>te σ H fun _ H1=>D.nx σ H1
theorem yX (he:PE X e te) (hs:swapsWith e none pos.line X.env=pure false:=by rfl):PS X (.Expr e pos) (kN te):=by
 intro pins s σ H D I h
 exact wpAny_Expr_any (thn (he pins s σ H _ I h) fun v s1 ⟨x,H1,I1,r1,q1⟩=>⟨σ,H1,I1,q1⟩) I.quiet hs
def Y9 (te:TE):TS:=fun D σ H=>te σ H D.rt
theorem zi (he:PE X e te):PS X (.Return (some e) pos) (Y9 te):=by
 intro pins s σ H D I h
 exact wpAny_Return_some (thn (he pins s σ H _ I h) fun v s1 ⟨x,H1,I1,r1,q1⟩=>⟨x,σ,H1,I1,r1,q1⟩)
def UM (c:TT) (t u:TS):TS:=fun D σ H=>c σ H fun b H1=>if b=true then t D σ H1 else u D σ H1
theorem zL {c:Expr}{a b:List Stmt}{tc:TT}(hc:PT X c tc) (ha:PSs X a t) (hb:PSs X b u):PS X (.If c a b pos) (UM tc t u):=by
 intro pins s σ H D I h
 refine wpAny_If (thn (hc pins s σ H _ I h) fun d s1 ⟨H1,I1,q1⟩=>?_)
 cases d with
 |true=>exact ha pins s1 σ H1 D I1 q1
 |false=>exact hb pins s1 σ H1 D I1 q1
end
abbrev TG:=V->St->Hp->(St->Hp->Prop)->Prop
abbrev TGs:=List V->St->Hp->(St->Hp->Prop)->Prop
def PG (X:Cx) (target:Expr) (t:TG):Prop:=
 ∀ (pins:List (Addr×Obj)) (s:Shared) (σ:St) (H:Hp) (v:V) (u:Value) (Q:St->Hp->Prop),Inv X pins σ H s->RelV v u->t v σ H Q->
  wpAny (model X.prog X.w) X.A (assign target X.env u) (fun _ s'=>∃ σ' H',Inv X pins σ' H' s'/\Q σ' H') X.xe s
def PGs (X:Cx) (ts:List Expr) (t:TGs):Prop:=
 ∀ (pins:List (Addr×Obj)) (s:Shared) (σ:St) (H:Hp) (vs:List V) (us:List Value) (Q:St->Hp->Prop),Inv X pins σ H s->Vals vs us->t vs σ H Q->
  wpAny (model X.prog X.w) X.A (assignInOrder ((assignEach ts X.env).map (·.2)) us) (fun _ s'=>∃ σ' H',Inv X pins σ' H' s'/\Q σ' H') X.xe s
section
variable {X:Cx}{pos:Pos}
def qx (i:Nat):TG:=fun v σ H Q=>Q (σ.set i (some v)) H
theorem zv {i:Nat}{x:Str}(hN:X.N.Nodup) (hi:X.N[i]? =some x) (hx:Loc X.env.scope x) (hf:X.fn x=true\/X.env.scope.names.lookup x=some .local:=by first |exact .inl rfl |exact .inr rfl |assumption):PG X (.Name x pos) (qx i):=by
 intro pins s σ H v u Q I r h
 exact wpAny_assign_Name (kh I hN hi hx r (fun s' I'=>⟨_,H,I',h⟩) hf)
def zdL:TGs:=fun vs σ H Q=>vs=[]/\Q σ H
def zbm (t:TG) (u:TGs):TGs:=fun vs σ H Q=>∃ v r,vs=v :: r/\t v σ H fun σ' H'=>u r σ' H' Q
theorem vg:PGs X [] zdL:=by
 intro pins s σ H vs us Q I r h
 obtain⟨e,h⟩:=h
 subst e
 cases r
 exact assignInOrder_nil ⟨σ,H,I,h⟩
theorem yk {e:Expr}{es:List Expr}{t:TG}{u:TGs}(h1:PG X e t) (h2:PGs X es u)
  (hs:(assignEach (e :: es) X.env).map (·.2)=assign e X.env :: (assignEach es X.env).map (·.2):=by rfl):PGs X (e :: es) (zbm t u):=by
 intro pins s σ H vs us Q I r h
 obtain⟨v,vr,e1,h⟩:=h
 subst e1
 cases r with
 |cons r rr=>
  rw [hs]
  refine assignInOrder_cons (thn (h1 pins s σ H _ _ _ I r h) fun _ s1 ⟨σ1,H1,I1,q1⟩=>?_)
  exact h2 pins s1 σ1 H1 _ _ Q I1 rr q1
def KG (K:W.Frag) (n:Nat) (t:TGs):TG:=fun v σ H Q=>∃ a xs,v=.ref a/\SqT K H a xs/\xs.length=n/\t xs σ H Q
theorem zdM {es:List Expr}{k:Nat}{t:TGs}{n:Nat}(hc:X.calm=true) (h:PGs X es t)
  (hn:(assignEach es X.env).length=n:=by rfl) (hst:(assignEach es X.env).findIdx? (·.1)=none:=by rfl):PG X (.Tuple es k pos) (KG X.K n t):=by
 intro pins s σ H v u Q I r hw
 obtain⟨a,xs,e1,hq,hl,hw⟩:=hw
 subst e1
 cases r
 obtain⟨its,rv,ht,hz⟩:=I.tuple hq
 refine assign_Tuple_tuple (I.ok.hd hc) ht (by simp [hn,<- hl,rv.length]) hst fun h' hx=>?_
 have I1:Inv X pins σ H { s with heap:=h' }:=I.kept (t':=s.toks) fun b o e=>hx b o (Nat.ne_of_lt (Heap.lt_size e)) e
 exact h pins _ σ H xs _ Q I1 (by simpa using rv) hw
def ki (te:TE) (g:TG):TS:=fun D σ H=>te σ H fun x H1=>g x σ H1 D.nx
theorem zdN {tg e:Expr}{te:TE}{g:TG}(he:PE X e te) (hg:PG X tg g) (hs:swapsWithSole [tg] e pos.line X.env=pure false:=by rfl) (hw:swappedStores [tg] e X.env=pure none:=by rfl)
  (h1:(assignEach [tg] X.env).map (·.2)=[assign tg X.env]:=by rfl):PS X (.Assign [tg] e pos) (ki te g):=by
 intro pins s σ H D I h
 refine wpAny_Assign_stores (thn (he pins s σ H _ I h) fun v s1 ⟨x,H1,I1,r1,q1⟩=>?_) hs hw
 rw [h1]
 exact thn (hg pins s1 σ H1 x v _ I1 r1 q1) fun _ s2 q=>q
theorem zh {i:Nat}{x:Str}{e:Expr}{te:TE}{pos':Pos}(hN:X.N.Nodup) (hi:X.N[i]? =some x) (hx:Loc X.env.scope x) (he:PE X e te) (hs:swapsWith e (some (.Name x pos')) pos.line X.env=pure false:=by rfl) (hf:X.fn x=true\/X.env.scope.names.lookup x=some .local:=by first |exact .inl rfl |exact .inr rfl |assumption) :
  PS X (.Assign [.Name x pos'] e pos) (ki te (qx i)):=by
 intro pins s σ H D I h
 refine wpAny_Assign_Name (thn (he pins s σ H _ I h) fun v s1 ⟨y,H1,I1,r1,q1⟩=>?_) hs
 exact kh I1 hN hi hx r1 (fun s2 I2=>⟨_,H1,I2,q1⟩) hf
end
section
variable {X:Cx}{pos:Pos}
def QV (c:TT) (tb:TS):TS:=fun D σ H=>∃ W:Nat->St->Hp->Prop,(∃ m,W m σ H)/\∀ m σ H,W m σ H->
 c σ H fun b H1=>if b=true then ∃ N:St->Hp->Prop,(∀ σ' H',N σ' H'->∃ m',m' < m/\W m' σ' H')/\tb { D with nx:=N,ct:=N,bk:=D.nx } σ H1 else D.nx σ H1
theorem Xa {c:Expr}{body:List Stmt}{tc:TT}{tb:TS}(hp:PassesOwn (model X.prog X.w) X.A X.env X.xe) (hc:PT X c tc) (hb:PSs X body tb):PS X (.While c body [] pos) (QV tc tb):=by
 intro pins s σ H D I h
 obtain⟨W,⟨m0,w0⟩,turn⟩:=h
 refine wpAny_While (codeAny_whileLoop (fun n s'=>∃ σ' H',Inv X pins σ' H' s'/\W n σ' H') ?_ m0 ⟨σ,H,I,w0⟩)
 rintro n s1 ⟨σ1,H1,I1,w1⟩
 refine wpAny_passesOwn hp (thn (hc pins s1 σ1 H1 _ I1 (turn n σ1 H1 w1)) fun b s2 ⟨H2,I2,q2⟩=>?_)
 cases b with
 |true=>
  obtain⟨N,hN,q2⟩:=q2
  rw [if_pos rfl]
  refine wpAny_passesOwn hp (thn (hb pins s2 σ1 H2 _ I2 q2) fun f s3 q3=>?_)
  cases f with
  |next=>
   obtain⟨σ3,H3,I3,n3⟩:=q3
   obtain⟨m',hm,w3⟩:=hN σ3 H3 n3
   exact⟨m',hm,σ3,H3,I3,w3⟩
  |cont=>
   obtain⟨σ3,H3,I3,n3⟩:=q3
   obtain⟨m',hm,w3⟩:=hN σ3 H3 n3
   exact⟨m',hm,σ3,H3,I3,w3⟩
  |brk=>exact q3
  |ret v=>exact q3
 |false=>
  rw [if_neg Bool.false_ne_true]
  exact wpAny_execs_nil ⟨σ1,H2,I2,q2⟩
end
structure It where
 go:Nat->Hp->Prop
 yld:Nat->Hp->V->Hp->Prop
 stop:Nat->Hp->Prop
def FpOk (X:Cx) (pins:List (Addr×Obj)) (H:Hp) (b:Addr):Prop:=
 H b=none/\b≠X.env.locals/\b ∉ X.fs/\(b∈X.ex\/X.s₀.heap.objs.size≤b)/\(∀ x c,X.env.cells.lookup x=some c->c≠b)/\∀ p∈X.pn ++ pins,p.1≠b
theorem Inv.fpOk {X:Cx}{pins:List (Addr×Obj)}{σ:St}{H H':Hp}{s:Shared}{b:Addr}(I:Inv X pins σ H s) (hb:s.heap.objs.size≤b) (hn:H' b=none):FpOk X pins H' b:=by
 refine⟨hn,Nat.ne_of_gt (Nat.lt_of_lt_of_le I.lt hb),I.nofs hb,.inr (Nat.le_trans I.sz hb),fun x c e z=>?_,fun p hp z=>?_⟩
 ·obtain⟨v,q⟩:=I.cell x c e
  exact absurd (Nat.lt_of_lt_of_le q.lt (by rw [z];exact hb)) (Nat.lt_irrefl _)
 ·exact absurd (Nat.lt_of_lt_of_le (Heap.lt_size (I.pin p hp).1) (by rw [z];exact hb)) (Nat.lt_irrefl _)
structure Turn (P:Program) (w:World) (K:W.Frag) (tg:Expr) (J:It) (fp:List Addr) (it:Addr) (tn:Nat->Heap->Prop):Prop where
  mem:it∈fp
  obj:∀ i h,tn i h->∀ b∈fp,∃ o,h.get? b=some o/\∀ v,o.data≠.cell v
  keep:∀ i h h',tn i h->(∀ b∈fp,∀ o,h.get? b=some o->h'.get? b=some o)->tn i h'
  item:∀ (X:Cx),X.prog=P->X.w=w->X.K=K->X.calm=true->∀ (i:Nat) (pins:List (Addr×Obj)) (s:Shared) (σ:St) (H:Hp) (E:Value->Shared->Prop),Inv X pins σ H s->(∀ b∈fp,FpOk X pins H b)->tn i s.heap->J.go i H->
    wpAny (model P w) X.A (pyNext (.ref it)) (fun r s1=>∃ u,r=some u/\
      wpAny (model P w) X.A (letOwnedTupleGo tg (.ref it) u) (fun _ s2=>∃ x H',Inv X pins σ H' s2/\RelV x u/\J.yld i H x H'/\tn (i+1) s2.heap/\∀ b∈fp,H' b=none) E s1) E s
  done:∀ (X:Cx),X.prog=P->X.w=w->X.K=K->X.calm=true->∀ (i:Nat) (pins:List (Addr×Obj)) (s:Shared) (σ:St) (H:Hp) (E:Value->Shared->Prop),Inv X pins σ H s->(∀ b∈fp,FpOk X pins H b)->tn i s.heap->J.stop i H->
    wpAny (model P w) X.A (pyNext (.ref it)) (fun r s1=>r=none/\Inv X pins σ H s1) E s
  self:∀ (A:Around) (i:Nat) (s:Shared) (Q:Value->Shared->Prop) (E:Value->Shared->Prop),tn i s.heap->Q (.ref it) s->wpAny (model P w) A (pyIter (.ref it)) Q E s
abbrev TI:=St->Hp->(It->Hp->Prop)->Prop
def PIE (X:Cx) (pins:List (Addr×Obj)) (σ:St) (tg:Expr) (R:It->Hp->Prop) (itv:Value) (s2:Shared):Prop:=
 ∃ (it:Addr) (fp:List Addr) (tn:Nat->Heap->Prop) (J:It) (H':Hp),itv=.ref it/\Inv X pins σ H' s2/\Turn X.prog X.w X.K tg J fp it tn/\tn 0 s2.heap/\(∀ b∈fp,FpOk X pins H' b)/\R J H'
def PI (X:Cx) (tg iter:Expr) (wi:TI):Prop:=
 ∀ (pins:List (Addr×Obj)) (s:Shared) (σ:St) (H:Hp) (R:It->Hp->Prop),Inv X pins σ H s->wi σ H R->
  wpAny (model X.prog X.w) X.A (eval iter X.env) (fun v s1=>wpAny (model X.prog X.w) X.A (pyIter v) (PIE X pins σ tg R) X.xe s1) X.xe s
theorem UN {M:Model}{A:Around}{E:Value->Shared->Prop}{s:Shared}{tg:Expr}{it:Addr}{u:Value}{o:Obj}{n:String}{vs:Array Value}{Q:Unit->Shared->Prop}(ho:s.heap.get? it=some o) (hc:o.cls=.type n) (hd:o.data=.fields vs)
    (hn:["enumerate","zip","dict_itemiterator","dict_reverseitemiterator","odict_iterator","itertools.zip_longest","itertools.pairwise"].contains n=false) (hQ:Q () s):wpAny M A (letOwnedTupleGo tg (.ref it) u) Q E s:=by
  unfold letOwnedTupleGo
  cases tg <;> first
    |exact wpAny_pure hQ
    | (cases u <;> first
        |exact wpAny_pure hQ
        | (refine wpAny_bind (wpAny_load ho ?_)
           rw [hc,hd]
           show wpAny M A (if (["enumerate","zip","dict_itemiterator","dict_reverseitemiterator","odict_iterator","itertools.zip_longest","itertools.pairwise"].contains n && vs[0]? == some (rawInt _))=true then _ else _) Q E s
           rw [if_neg (by intro h;rw [hn,Bool.false_and] at h;cases h)]
           exact wpAny_pure hQ))
noncomputable def Itl (K:W.Frag) (a:Addr):It:=
 ⟨fun i H=>∃ xs x,SqL K H a xs/\xs[i]? =some x,fun i H x H'=>H'=H/\∀ xs,SqL K H a xs->xs[i]? =some x,fun i H=>∃ xs,SqL K H a xs/\xs.length≤i⟩
noncomputable def Itt (K:W.Frag) (a:Addr):It:=
 ⟨fun i H=>∃ xs x,SqT K H a xs/\xs[i]? =some x,fun i H x H'=>H'=H/\∀ xs,SqT K H a xs->xs[i]? =some x,fun i H=>∃ xs,SqT K H a xs/\xs.length≤i⟩
noncomputable def Itr (lo:Int) (n:Nat):It:=⟨fun i _=>i < n,fun i H x H'=>H'=H/\x=.int (lo+i),fun i _=>n≤i⟩
theorem QW {P:Program}{w:World}{K:W.Frag}{tg:Expr}(a it:Addr):Turn P w K tg (Itl K a) [it] it (fun i h=>h.IsListIter it a i) where
 mem:=by simp
 obj:=fun i h st b hb=>by
  have e:b=it:=by simpa using hb
  subst e
  obtain⟨o,e,c,d⟩:=st
  exact⟨o,e,fun v z=>by rw [d] at z;cases z⟩
 keep:=fun i h h' st k=>st.at fun o e=>k it (by simp) o e
 item:=by
  intro X hP hw hK hc i pins s σ H E I hf st hg
  subst hP hw hK
  obtain⟨xs,x,hq,hx⟩:=hg
  obtain⟨its,rv,p,hz⟩:=I.list hq
  obtain⟨u,hu,ru⟩:=rv.get hx
  obtain⟨f0,f1,f2,f3,f4,f5⟩:=hf it (by simp)
  refine wpAny_pyNext_list_item st p.isList (x:=u) (by simpa using hu) fun h' st' sb=>?_
  have I1:Inv X pins σ H { s with heap:=h' }:=I.turned (t':=s.toks) (fun b o hb e=>(sb.2 b hb).trans e) f0 f1 f3 f4 f5
  obtain⟨o,e,c,d⟩:=id st'
  exact⟨u,rfl,UN (s:={ s with heap:=h' }) e c d (by decide) ⟨x,H,I1,ru,⟨rfl,fun ys hy=>by rw [I.list_inj hy hq];exact hx⟩,st',fun b hb=>(hf b hb).1⟩⟩
 done:=by
  intro X hP hw hK hc i pins s σ H E I hf st hg
  subst hP hw hK
  obtain⟨xs,hq,hx⟩:=hg
  obtain⟨its,rv,p,hz⟩:=I.list hq
  obtain⟨f0,f1,f2,f3,f4,f5⟩:=hf it (by simp)
  have hl:=rv.length
  exact wpAny_pyNext_list_end (I.ok.hd hc) st p.isList (by simp;omega) fun h' eb=>⟨rfl,I.turned (t':=s.toks) (fun b o hb e=>eb b o hb e) f0 f1 f3 f4 f5⟩
 self:=fun _ _ _ _ _ st h=>wpAny_pyIter_listiter st h
theorem UO {P:Program}{w:World}{K:W.Frag}{tg:Expr}(a it:Addr):Turn P w K tg (Itt K a) [it] it (fun i h=>h.IsTupleIter it a i) where
 mem:=by simp
 obj:=fun i h st b hb=>by
  have e:b=it:=by simpa using hb
  subst e
  obtain⟨o,e,c,d⟩:=st
  exact⟨o,e,fun v z=>by rw [d] at z;cases z⟩
 keep:=fun i h h' st k=>st.at fun o e=>k it (by simp) o e
 item:=by
  intro X hP hw hK hc i pins s σ H E I hf st hg
  subst hP hw hK
  obtain⟨xs,x,hq,hx⟩:=hg
  obtain⟨its,rv,p,hz⟩:=I.tuple hq
  obtain⟨u,hu,ru⟩:=rv.get hx
  obtain⟨f0,f1,f2,f3,f4,f5⟩:=hf it (by simp)
  refine wpAny_pyNext_tuple_item st (show s.heap.IsTuple a its.toArray from p) (x:=u) (by simpa using hu) fun h' st' sb=>?_
  have I1:Inv X pins σ H { s with heap:=h' }:=I.turned (t':=s.toks) (fun b o hb e=>(sb.2 b hb).trans e) f0 f1 f3 f4 f5
  obtain⟨o,e,c,d⟩:=id st'
  exact⟨u,rfl,UN (s:={ s with heap:=h' }) e c d (by decide) ⟨x,H,I1,ru,⟨rfl,fun ys hy=>by rw [I.tuple_inj hy hq];exact hx⟩,st',fun b hb=>(hf b hb).1⟩⟩
 done:=by
  intro X hP hw hK hc i pins s σ H E I hf st hg
  subst hP hw hK
  obtain⟨xs,hq,hx⟩:=hg
  obtain⟨its,rv,p,hz⟩:=I.tuple hq
  obtain⟨f0,f1,f2,f3,f4,f5⟩:=hf it (by simp)
  have hl:=rv.length
  exact wpAny_pyNext_tuple_end (I.ok.hd hc) st (show s.heap.IsTuple a its.toArray from p) (by simp;omega) fun h' eb=>⟨rfl,I.turned (t':=s.toks) (fun b o hb e=>eb b o hb e) f0 f1 f3 f4 f5⟩
 self:=fun _ _ _ _ _ st h=>wpAny_pyIter_tupleiter st h
theorem UP {P:Program}{w:World}{K:W.Frag}{tg:Expr}(it:Addr) (lo:Int) (n:Nat):Turn P w K tg (Itr lo n) [it] it (fun i h=>IsRangeIter h it (lo+(i:Nat)*1) ((n:Int) - (i:Nat)) 1) where
 mem:=by simp
 obj:=fun i h st b hb=>by
  have e:b=it:=by simpa using hb
  subst e
  exact⟨_,st,fun v z=>by
   have z':Data.fields _=Data.cell v:=z
   cases z'⟩
 keep:=fun i h h' st k=>k it (by simp) _ st
 item:=by
  intro X hP hw hK hc i pins s σ H E I hf st hg
  subst hP hw hK
  obtain⟨f0,f1,f2,f3,f4,f5⟩:=hf it (by simp)
  have W:=Walks.range (prog:=X.prog) (w:=X.w) (I.ok.hd hc) it lo 1 n
  refine W.item i s _ _ hg st fun v h' tk hv st' kk=>?_
  obtain⟨t,rfl⟩:=hv
  have I1:Inv X pins σ H { s with heap:=h',toks:=tk }:=I.turned (fun b o hb e=>kk b o (by simpa using hb) e) f0 f1 f3 f4 f5
  refine⟨_,rfl,UN (s:={ s with heap:=h',toks:=tk }) (n:="range_iterator") st' rfl rfl (by decide) ⟨.int (lo+i),H,I1,⟨t,?_⟩,⟨rfl,rfl⟩,st',fun b hb=>(hf b hb).1⟩⟩
  rw [Int.mul_one]
 done:=by
  intro X hP hw hK hc i pins s σ H E I hf st hg
  subst hP hw hK
  obtain⟨f0,f1,f2,f3,f4,f5⟩:=hf it (by simp)
  exact wpAny_pyNext_range_end (I.ok.hd hc) st (by have:n≤i:=hg;omega) fun h' eb=>⟨rfl,I.turned (t':=s.toks) (fun b o hb e=>eb b o hb e) f0 f1 f3 f4 f5⟩
 self:=fun _ _ _ _ _ st h=>wpAny_pyIter_rangeiter st h
section
variable {X:Cx}{tg:Expr}
def UQ (K:W.Frag) (tl:TE):TI:=fun σ H R=>tl σ H fun x H1=>∃ a,x=.ref a/\(∃ xs,SqL K H1 a xs)/\R (Itl K a) H1
def KH (K:W.Frag) (tl:TE):TI:=fun σ H R=>tl σ H fun x H1=>∃ a,x=.ref a/\(∃ xs,SqT K H1 a xs)/\R (Itt K a) H1
theorem zch {l:Expr}{tl:TE}(hl:PE X l tl):PI X tg l (UQ X.K tl):=by
 intro pins s σ H R I h
 refine thn (hl pins s σ H _ I h) fun v s1 ⟨x,H1,I1,r1,q1⟩=>?_
 obtain⟨a,e,⟨xs,hq⟩,q⟩:=q1
 subst e
 cases r1
 obtain⟨its,rv,p,hz⟩:=I1.list hq
 refine wpAny_pyIter_list p.isList ?_
 refine⟨s1.heap.objs.size,[s1.heap.objs.size],_,_,H1,rfl,I1.kept (t':=s1.toks) fun b o e=>Heap.get?_push_of_some _ e,QW a _,⟨_,Heap.get?_push_size _ rfl,rfl,rfl⟩,fun b hb=>?_,q⟩
 have e:b=s1.heap.objs.size:=by simpa using hb
 subst e
 exact I1.fpOk (Nat.le_refl _) (I1.hok.fresh (Nat.le_refl _))
theorem zdO {l:Expr}{tl:TE}(hl:PE X l tl):PI X tg l (KH X.K tl):=by
 intro pins s σ H R I h
 refine thn (hl pins s σ H _ I h) fun v s1 ⟨x,H1,I1,r1,q1⟩=>?_
 obtain⟨a,e,⟨xs,hq⟩,q⟩:=q1
 subst e
 cases r1
 obtain⟨its,rv,p,hz⟩:=I1.tuple hq
 refine wpAny_pyIter_tuple (show s1.heap.IsTuple a its.toArray from p) ?_
 refine⟨s1.heap.objs.size,[s1.heap.objs.size],_,_,H1,rfl,I1.kept (t':=s1.toks) fun b o e=>Heap.get?_push_of_some _ e,UO a _,⟨_,Heap.get?_push_size _ rfl,rfl,rfl⟩,fun b hb=>?_,q⟩
 have e:b=s1.heap.objs.size:=by simpa using hb
 subst e
 exact I1.fpOk (Nat.le_refl _) (I1.hok.fresh (Nat.le_refl _))
theorem Xb {pins:List (Addr×Obj)}{σ:St}{H:Hp}{s:Shared}{R:It->Hp->Prop}{E:Value->Shared->Prop}{lo hi:Int}{t u v:Tok}{tk:Nat}(I:Inv X pins σ H s) (h1:-(2 ^ 62)≤lo) (h2:lo < 2 ^ 62) (h3:-(2 ^ 62)≤hi) (h4:hi < 2 ^ 62)
  (q:R (Itr lo (hi - lo).toNat) H):wpAny (model X.prog X.w) X.A (pyIter (.ref s.heap.objs.size)) (PIE X pins σ tg R) E { s with heap:=s.heap.push { cls:=.type "range",data:=.fields #[.int lo t,.int hi u,.int 1 v] },toks:=tk }:=by
 refine wpAny_pyIter_range (IsRange.new ..) (small_one h1 h2 h3 h4) ?_
 have I1:Inv X pins σ H { s with heap:=s.heap.push { cls:=.type "range",data:=.fields #[.int lo t,.int hi u,.int 1 v] },toks:=tk }:=I.kept fun b o e=>Heap.get?_push_of_some _ e
 refine⟨(s.heap.push { cls:=.type "range",data:=.fields #[.int lo t,.int hi u,.int 1 v] }).objs.size,[(s.heap.push { cls:=.type "range",data:=.fields #[.int lo t,.int hi u,.int 1 v] }).objs.size],_,_,H,rfl,
  I1.kept (t':=tk) fun b o e=>Heap.get?_push_of_some _ e,UP _ lo (hi - lo).toNat,?_,fun b hb=>?_,q⟩
 ·have e1:lo+((0:Nat):Int)*1 =lo:=by simp
  have e2:(((hi - lo).toNat:Nat):Int) - ((0:Nat):Int)=Builtin.Range.rangeSize lo hi 1:=by rw [rangeSize_one];split <;> omega
  show IsRangeIter _ _ (lo+((0:Nat):Int)*1) ((((hi - lo).toNat:Nat):Int) - ((0:Nat):Int)) 1
  rw [e1,e2]
  exact Heap.get?_push_size _ rfl
 ·have e:b=(s.heap.push { cls:=.type "range",data:=.fields #[.int lo t,.int hi u,.int 1 v] }).objs.size:=by simpa using hb
  subst e
  exact I1.fpOk (Nat.le_refl _) (I1.hok.fresh (Nat.le_refl _))
def zbn (ta:TA):TI:=fun σ H R=>ta σ H fun vs H1=>∃ j:Int,vs=[.int j]/\-(2 ^ 62)≤j/\j < 2 ^ 62/\R (Itr 0 j.toNat) H1
def zbo (ta:TA):TI:=fun σ H R=>ta σ H fun vs H1=>∃ i j:Int,vs=[.int i,.int j]/\(-(2 ^ 62)≤i/\i < 2 ^ 62/\-(2 ^ 62)≤j/\j < 2 ^ 62)/\R (Itr i (j - i).toNat) H1
theorem y6 {a:Expr}{ta:TA}{p pos:Pos}(hg:Gl X "range") (hm:X.mg "range" =none) (ha:PA X [a] ta) (hs:starEach [a] X.env=[(false,eval a X.env)]:=by rfl):PI X tg (.Call (.Name "range" p) [a] [] pos) (zbn ta):=by
 intro pins s σ H R I h
 refine Call_ (vN I hg hm boot_range (PyProof.Rows.callWith_type1 (thn (ha pos pins s σ H _ I h) fun us s1 ⟨vs,H1,I1,r1,q1⟩=>?_) hs rfl))
 obtain⟨j,e,q1,q2,q⟩:=q1
 subst e
 cases r1 with
 |cons r rr=>
  cases rr
  obtain⟨t,rfl⟩:=r
  exact call_range_1 (Xb I1 (by omega) (by omega) q1 q2 (by simpa using q))
theorem qZ {a b:Expr}{ta:TA}{p pos:Pos}(hg:Gl X "range") (hm:X.mg "range" =none) (ha:PA X [a,b] ta) (hs:starEach [a,b] X.env=[(false,eval a X.env),(false,eval b X.env)]:=by rfl) (hs2:starEach [b] X.env=[(false,eval b X.env)]:=by rfl) :
  PI X tg (.Call (.Name "range" p) [a,b] [] pos) (zbo ta):=by
 intro pins s σ H R I h
 refine Call_ (vN I hg hm boot_range (PyProof.Rows.callWith_type1 (thn (ha pos pins s σ H _ I h) fun us s1 ⟨vs,H1,I1,r1,q1⟩=>?_) (by rw [hs,hs2]) (by rw [hs2];rfl)))
 obtain⟨i,j,e,⟨q1,q2,q3,q4⟩,q⟩:=q1
 subst e
 cases r1 with
 |cons r rr=>
  cases rr with
  |cons r' rr=>
   cases rr
   obtain⟨t,rfl⟩:=r
   obtain⟨t',rfl⟩:=r'
   exact call_range_2 (Xb I1 q1 q2 q3 q4 q)
def KI (wi:TI) (g:TG) (tb:TS):TS:=fun D σ H=>wi σ H fun J H1=>∃ W:Nat->Nat->St->Hp->Prop,(∃ m,W 0 m σ H1)/\∀ i m σ H,W i m σ H->
 (J.stop i H/\D.nx σ H)\/(J.go i H/\∃ N:St->Hp->Prop,(∀ σ' H',N σ' H'->∃ m',m' < m/\W (i+1) m' σ' H')/\∀ x H',J.yld i H x H'->g x σ H' fun σ2 H2=>tb { D with nx:=N,ct:=N,bk:=D.nx } σ2 H2)
noncomputable def ur (fp:List Addr) (h:Heap):List (Addr×Obj):=fp.filterMap fun b=>(h.get? b).map fun o=>(b,o)
theorem xw {fp:List Addr}{h:Heap}{b:Addr}{o:Obj}(hb:b∈fp) (e:h.get? b=some o):(b,o)∈ur fp h:=List.mem_filterMap.mpr ⟨b,hb,by rw [e];rfl⟩
theorem QX {fp:List Addr}{h:Heap}{p:Addr×Obj}(hp:p∈ur fp h):p.1∈fp/\h.get? p.1=some p.2:=by
 obtain⟨b,hb,e⟩:=List.mem_filterMap.mp hp
 cases q:h.get? b with
 |none=>rw [q] at e;cases e
 |some o=>
  rw [q] at e
  have e':(b,o)=p:=Option.some.inj e
  subst e'
  exact⟨hb,q⟩
theorem Inv.pinned {pins:List (Addr×Obj)}{σ:St}{H:Hp}{s:Shared}{fp:List Addr}(I:Inv X pins σ H s) (hf:∀ b∈fp,FpOk X pins H b) (ho:∀ b∈fp,∃ o,s.heap.get? b=some o/\∀ v,o.data≠.cell v):Inv X (pins ++ ur fp s.heap) σ H s:=
 I.pins_of fun p hp=>(List.mem_append.mp hp).elim (fun z=>I.pin p (List.mem_append_right _ z)) fun z=>by
  obtain⟨hb,e⟩:=QX z
  obtain⟨f0,f1,f2,_⟩:=hf p.1 hb
  obtain⟨o,e',d⟩:=ho p.1 hb
  rw [e] at e';cases e'
  exact⟨e,f0,f1,f2,d⟩
theorem Inv.unpinned {pins pl:List (Addr×Obj)}{σ:St}{H:Hp}{s:Shared}(I:Inv X (pins ++ pl) σ H s):Inv X pins σ H s:=I.pins_of fun p hp=>I.pin p (List.mem_append_right _ (List.mem_append_left _ hp))
theorem y7 {iter:Expr}{body:List Stmt}{wi:TI}{g:TG}{tb:TS}{pos:Pos}(hp:PassesOwn (model X.prog X.w) X.A X.env X.xe) (hc:X.calm=true) (hi:PI X tg iter wi) (hg:PG X tg g) (hb:PSs X body tb)
  (hs:∀ x,foldedSetIterable iter X.env x=pure x:=by intro _;rfl):PS X (.For tg iter body [] pos) (KI wi g tb):=by
 intro pins s σ H D I h
 refine wpAny_For (thn (hi pins s σ H _ I h) fun v s1 h1=>thn h1 fun itv s2 h2=>?_) hs
 obtain⟨it,fp,tn,J,H2,e,I2,T,st2,f2,W,⟨m0,w0⟩,turn⟩:=h2
 subst e
 have stat:∀ {H':Hp},(∀ b∈fp,H' b=none)->∀ b∈fp,FpOk X pins H' b:=fun hn b hb=>⟨hn b hb,(f2 b hb).2⟩
 refine codeAny_forLoop_any (fun n s'=>∃ i σ' H',Inv X pins σ' H' s'/\tn i s'.heap/\(∀ b∈fp,H' b=none)/\W i n σ' H') ?_ m0 ⟨0,σ,H2,I2,st2,fun b hb=>(f2 b hb).1,w0⟩
 rintro n s3 ⟨i,σ3,H3,I3,st3,fr3,w3⟩
 rcases turn i n σ3 H3 w3 with⟨stop,qn⟩ | ⟨go,N,hN,step⟩
 ·refine wpAny_passesOwn hp (thn (T.done X rfl rfl rfl hc i pins s3 σ3 H3 X.xe I3 (stat fr3) st3 stop) fun r s4 ⟨hr,I4⟩=>?_)
  subst hr
  exact wpAny_execs_nil ⟨σ3,H3,I4,qn⟩
 ·refine wpAny_passesOwn hp (thn (T.item X rfl rfl rfl hc i pins s3 σ3 H3 X.xe I3 (stat fr3) st3 go) fun r s4 ⟨u,hr,h4⟩=>?_)
  subst hr
  refine wpAny_passesOwn hp (thn h4 fun _ s5 ⟨x,H5,I5,r5,y5,st5,fr5⟩=>?_)
  have I5':=I5.pinned (stat fr5) (T.obj _ _ st5)
  refine wpAny_passesOwn hp (thn (hg _ s5 σ3 H5 x u _ I5' r5 (step x H5 y5)) fun _ s6 ⟨σ6,H6,I6,q6⟩=>?_)
  refine wpAny_passesOwn hp (thn (hb _ s6 σ6 H6 _ I6 q6) fun f s7 q7=>?_)
  have again:∀ {σ7:St}{H7:Hp},Inv X (pins ++ ur fp s5.heap) σ7 H7 s7->N σ7 H7->∃ m,m < n/\∃ i σ' H',Inv X pins σ' H' s7/\tn i s7.heap/\(∀ b∈fp,H' b=none)/\W i m σ' H':=fun {σ7 H7} I7 n7=>by
   obtain⟨m',hm,w7⟩:=hN σ7 H7 n7
   refine⟨m',hm,i+1,σ7,H7,I7.unpinned,T.keep _ _ _ st5 fun b hb o e=>(I7.pin (b,o) (List.mem_append_right _ (List.mem_append_right _ (xw hb e)))).1,fun b hb=>?_,w7⟩
   obtain⟨o,e,d⟩:=T.obj _ _ st5 b hb
   exact (I7.pin (b,o) (List.mem_append_right _ (List.mem_append_right _ (xw hb e)))).2.1
  cases f with
  |next=>obtain⟨σ7,H7,I7,n7⟩:=q7;exact again I7 n7
  |cont=>obtain⟨σ7,H7,I7,n7⟩:=q7;exact again I7 n7
  |brk=>obtain⟨σ7,H7,I7,q7⟩:=q7;exact⟨σ7,H7,I7.unpinned,q7⟩
  |ret v=>obtain⟨x7,σ7,H7,I7,r7,q7⟩:=q7;exact⟨x7,σ7,H7,I7.unpinned,r7,q7⟩
end
abbrev R2:=V->V->Hp->VK->Prop
def OpR (X:Cx) (f:Value->Value->Sem Value) (r:R2):Prop:=
 ∀ (pins:List (Addr×Obj)) (s:Shared) (σ:St) (H:Hp) (x y:V) (v u:Value) (Q:VK),Inv X pins σ H s->RelV x v->RelV y u->r x y H Q->
  wpAny (model X.prog X.w) X.A (f v u) (EP X pins σ Q) X.xe s
def UnR (X:Cx) (f:Value->Sem Value) (r:V->Hp->VK->Prop):Prop:=
 ∀ (pins:List (Addr×Obj)) (s:Shared) (σ:St) (H:Hp) (x:V) (v:Value) (Q:VK),Inv X pins σ H s->RelV x v->r x H Q->
  wpAny (model X.prog X.w) X.A (f v) (EP X pins σ Q) X.xe s
def y8 (X:Cx) (f:Value) (r:List V->Hp->VK->Prop):Prop:=
 ∀ (pins:List (Addr×Obj)) (s:Shared) (σ:St) (H:Hp) (xs:List V) (us:List Value) (Q:VK),Inv X pins σ H s->Vals xs us->r xs H Q->
  wpAny (model X.prog X.w) X.A (call f us) (EP X pins σ Q) X.xe s
def zf5 (X:Cx) (r:V->Hp->(Bool->Hp->Prop)->Prop):Prop:=
 ∀ (pins:List (Addr×Obj)) (s:Shared) (σ:St) (H:Hp) (x:V) (v:Value) (Q:Bool->Hp->Prop),Inv X pins σ H s->RelV x v->r x H Q->
  wpAny (model X.prog X.w) X.A (truthy v) (TP X pins σ Q) X.xe s
def tOp (r:R2) (ta tb:TE):TE:=fun σ H Q=>ta σ H fun x H1=>tb σ H1 fun y H2=>r x y H2 Q
def tUn (r:V->Hp->VK->Prop) (ta:TE):TE:=fun σ H Q=>ta σ H fun x H1=>r x H1 Q
def rI (C:Int->Int->Prop) (g:Int->Int->V):R2:=fun x y H Q=>∃ i j,x=.int i/\y=.int j/\C i j/\Q (g i j) H
def rI0 (g:Int->Int->V):R2:=fun x y H Q=>∃ i j,x=.int i/\y=.int j/\Q (g i j) H
def rU (g:Int->V):V->Hp->VK->Prop:=fun x H Q=>∃ i,x=.int i/\Q (g i) H
section
variable {X:Cx}{a b c:Expr}{ta tb tc:TE}{pos:Pos}
theorem KJ (ha:PE X a ta) (hb:PE X b tb) {pins:List (Addr×Obj)}{s:Shared}{σ:St}{H:Hp}{R:V->V->Hp->Prop}(I:Inv X pins σ H s)
  (h:ta σ H fun x H1=>tb σ H1 fun y H2=>R x y H2) {Q:Value->Shared->Prop}{f:Value->Value->Sem Value}
  (hf:∀ v u s2 x y H2,Inv X pins σ H2 s2->RelV x v->RelV y u->R x y H2->wpAny (model X.prog X.w) X.A (f v u) Q X.xe s2) :
  wpAny (model X.prog X.w) X.A (eval a X.env) (fun v s₁=>wpAny (model X.prog X.w) X.A (eval b X.env) (fun u s₂=>wpAny (model X.prog X.w) X.A (f v u) Q X.xe s₂) X.xe s₁) X.xe s:=by
 refine thn (ha pins s σ H _ I h) fun v s1 ⟨x,H1,I1,r1,q1⟩=>?_
 refine thn (hb pins s1 σ H1 _ I1 q1) fun u s2 ⟨y,H2,I2,r2,q2⟩=>?_
 exact hf v u s2 x y H2 I2 r1 r2 q2
theorem zc {op:Operator}{r:R2}(ho:OpR X (binaryOp op) r) (ha:PE X a ta) (hb:PE X b tb):PE X (.BinOp a op b pos) (tOp r ta tb):=by
 intro pins s σ H Q I h
 exact wpAny_BinOp (KJ ha hb I h fun v u s2 x y H2 I2 rx ry q=>ho pins s2 σ H2 x y v u Q I2 rx ry q)
theorem qy {op:UnaryOp}{r:V->Hp->VK->Prop}(ho:UnR X (unaryOp op) r) (ha:PE X a ta):PE X (.UnaryOp op a pos) (tUn r ta):=by
 intro pins s σ H Q I h
 exact UnaryOp_ (thn (ha pins s σ H _ I h) fun v s1 ⟨x,H1,I1,r1,q1⟩=>ho pins s1 σ H1 x v Q I1 r1 q1)
theorem opI {f:Value->Value->Sem Value}{C:Int->Int->Prop}{g:Int->Int->Int}
  (rule:∀ (i j:Int) (t u:Tok) (s:Shared) (Q:Value->Shared->Prop) (E:Value->Shared->Prop),C i j->Q (.int (g i j) s.toks) { s with toks:=s.toks+1 }->wpAny (model X.prog X.w) X.A (f (.int i t) (.int j u)) Q E s) :
  OpR X f (rI C fun i j=>.int (g i j)):=by
 intro pins s σ H x y v u Q I rx ry h
 obtain⟨i,j,rfl,rfl,hc,q⟩:=h
 obtain⟨t,rfl⟩:=rx
 obtain⟨t',rfl⟩:=ry
 exact rule i j t t' s _ _ hc ⟨.int (g i j),H,I.tok _,⟨_,rfl⟩,q⟩
theorem UR {f:Value->Value->Sem Value}{g:Int->Int->Int}
  (rule:∀ (i j:Int) (t u:Tok) (s:Shared) (Q:Value->Shared->Prop) (E:Value->Shared->Prop),Q (.int (g i j) s.toks) { s with toks:=s.toks+1 }->wpAny (model X.prog X.w) X.A (f (.int i t) (.int j u)) Q E s) :
  OpR X f (rI0 fun i j=>.int (g i j)):=by
 intro pins s σ H x y v u Q I rx ry h
 obtain⟨i,j,rfl,rfl,q⟩:=h
 obtain⟨t,rfl⟩:=rx
 obtain⟨t',rfl⟩:=ry
 exact rule i j t t' s _ _ ⟨.int (g i j),H,I.tok _,⟨_,rfl⟩,q⟩
theorem KK {f:Value->Value->Sem Value}{g:Int->Int->Bool}
  (rule:∀ (i j:Int) (t u:Tok) (s:Shared) (Q:Value->Shared->Prop) (E:Value->Shared->Prop),Q (.bool (g i j)) s->wpAny (model X.prog X.w) X.A (f (.int i t) (.int j u)) Q E s) :
  OpR X f (rI0 fun i j=>.bl (g i j)):=by
 intro pins s σ H x y v u Q I rx ry h
 obtain⟨i,j,rfl,rfl,q⟩:=h
 obtain⟨t,rfl⟩:=rx
 obtain⟨t',rfl⟩:=ry
 exact rule i j t t' s _ _ ⟨.bl (g i j),H,I,rfl,q⟩
def zdP (i j:Int):Prop:=0 < j/\j < 1073741824
def ZE (i j:Int):Prop:=(-(2 ^ 64) < i/\i < 2 ^ 64)\/(-(2 ^ 64) < j/\j < 2 ^ 64)
theorem ZE.ok {i j:Int}(h:ZE i j):IntMulOk i j:=by
 rcases h with⟨h1,h2⟩ | ⟨h1,h2⟩
 ·exact .of_left (intBits_le_64 h1 h2)
 ·exact .of_right (intBits_le_64 h1 h2)
theorem US (k:Nat):(0:Int)≤2 ^ k:=by
 rw [two_pow_cast]
 exact Int.natCast_nonneg _
theorem zy:OpR X (binaryOp .Add) (rI0 fun i j=>.int (i+j)):=UR fun _ _ _ _ _ _ _ q=>add_int q
theorem kO:OpR X (binaryOp .Sub) (rI0 fun i j=>.int (i - j)):=UR fun _ _ _ _ _ _ _ q=>sub_int q
theorem zT:OpR X (binaryOp .FloorDiv) (rI zdP fun i j=>.int (i / j)):=opI fun i j _ _ _ _ _ hc q=>by
 have h1:(0:Int) < j:=hc.1
 have h2:j < 1073741824:=hc.2
 exact floordiv_int (by omega) (by rw [Int.fdiv_eq_ediv_of_nonneg i (by omega)];exact q) (.inl (PyProof.noPylong_small (by omega)))
theorem zG:OpR X (binaryOp .Mod) (rI (fun _ j=>0 < j) fun i j=>.int (i%j)):=opI fun i j _ _ _ _ _ hc q=>by
 have h1:(0:Int) < j:=hc
 exact mod_int' (by omega) (by rw [Int.fmod_eq_emod_of_nonneg i (by omega)];exact q)
theorem zdQ:OpR X (binaryOp .RShift) (rI (fun _ j=>0≤j) fun i j=>.int (i / 2 ^ j.toNat)):=opI fun i j _ _ _ _ _ hc q=>
 rshift_int hc (by rw [Int.fdiv_eq_ediv_of_nonneg i (US _)];exact q)
theorem Xc:OpR X (binaryOp .BitAnd) (rI0 fun i j=>.int (Builtin.bitAnd i j)):=UR fun _ _ _ _ _ _ _ q=>and_int q
theorem zbp:OpR X (binaryOp .BitOr) (rI0 fun i j=>.int (Builtin.bitOr i j)):=UR fun _ _ _ _ _ _ _ q=>or_int q
theorem unI {f:Value->Sem Value}{g:Int->Int}
  (rule:∀ (i:Int) (t:Tok) (s:Shared) (Q:Value->Shared->Prop) (E:Value->Shared->Prop),Q (.int (g i) s.toks) { s with toks:=s.toks+1 }->wpAny (model X.prog X.w) X.A (f (.int i t)) Q E s) :
  UnR X f (rU fun i=>.int (g i)):=by
 intro pins s σ H x v Q I rx h
 obtain⟨i,rfl,q⟩:=h
 obtain⟨t,rfl⟩:=rx
 exact rule i t s _ _ ⟨.int (g i),H,I.tok _,⟨_,rfl⟩,q⟩
theorem ut:UnR X (unaryOp .USub) (rU fun i=>.int (-i)):=unI fun _ _ _ _ _ q=>neg_int q
end
noncomputable def ja:V->V->Bool
 |.non,.non=>true |.non,.int _=>true |.int _,.non=>true |.non,.bl _=>true |.bl _,.non=>true |.non,.str _=>true |.str _,.non=>true
 |.int _,.int _=>true |.bl _,.bl _=>true |.str _,.str _=>true |.byt _,.byt _=>true
 |.int _,.str _=>true |.str _,.int _=>true |.bl _,.str _=>true |.str _,.bl _=>true
 |_,_=>false
def rEq:R2:=fun x y H Q=>ja x y=true/\Q (.bl (decide (x=y))) H
def rNe:R2:=fun x y H Q=>ja x y=true/\Q (.bl (!decide (x=y))) H
theorem VI {i j:Int}:decide (V.int i=V.int j)=(i == j):=by
 rw [Bool.eq_iff_iff]
 simp
theorem QY {i j:Bool}:decide (V.bl i=V.bl j)=(i == j):=by
 rw [Bool.eq_iff_iff]
 simp
theorem VJ {i j:Str}:decide (V.str i=V.str j)=(i == j):=by
 rw [Bool.eq_iff_iff]
 simp
theorem VL {i j:Array UInt8}:decide (V.byt i=V.byt j)=(i.toList == j.toList):=by
 rw [Bool.eq_iff_iff]
 cases i
 cases j
 simp
section
variable {X:Cx}{a b c:Expr}{ta tb tc:TE}{pos:Pos}
theorem zM {pins:List (Addr×Obj)}{σ:St}{H:Hp}{s:Shared}{Q:VK}{k k':Bool}(I:Inv X pins σ H s) (q:Q (.bl k) H) (e:k=k'):EP X pins σ Q (.bool k') s:=by
 subst e
 exact⟨.bl k,H,I,rfl,q⟩
theorem yr:OpR X (compareOp .Eq) rEq:=by
 intro pins s σ H x y v u Q I rx ry h
 obtain⟨hs,q⟩:=h
 cases x with
 |non=>
  cases rx
  cases y with
  |non=>cases ry;exact PySem.EqNone.eq_none_none (zM I q (by simp))
  |bl j=>cases ry;exact PySem.EqNone.eq_none_bool (zM I q (by simp))
  |int j=>obtain⟨t',rfl⟩:=ry;exact PySem.EqNone.eq_none_int (zM I q (by simp))
  |str j=>obtain⟨t',rfl⟩:=ry;exact PySem.EqNone.eq_none_str (zM I q (by simp))
  |_=>exact absurd (show false=true from hs) Bool.false_ne_true
 |bl i=>
  cases rx
  cases y with
  |non=>cases ry;exact PySem.EqNone.eq_bool_none (zM I q (by simp))
  |bl j=>cases ry;exact eq_bool (zM I q QY)
  |str j=>obtain⟨t',rfl⟩:=ry;exact PySem.EqMixed.eq_bool_str (zM I q (by simp))
  |_=>exact absurd (show false=true from hs) Bool.false_ne_true
 |int i=>
  obtain⟨t,rfl⟩:=rx
  cases y with
  |non=>cases ry;exact PySem.EqNone.eq_int_none (zM I q (by simp))
  |int j=>obtain⟨t',rfl⟩:=ry;exact eq_int (zM I q VI)
  |str j=>obtain⟨t',rfl⟩:=ry;exact PySem.EqMixed.eq_int_str (zM I q (by simp))
  |_=>exact absurd (show false=true from hs) Bool.false_ne_true
 |str i=>
  obtain⟨t,rfl⟩:=rx
  cases y with
  |non=>cases ry;exact PySem.EqNone.eq_str_none (zM I q (by simp))
  |bl j=>cases ry;exact PySem.EqMixed.eq_str_bool (zM I q (by simp))
  |int j=>obtain⟨t',rfl⟩:=ry;exact PySem.EqMixed.eq_str_int (zM I q (by simp))
  |str j=>obtain⟨t',rfl⟩:=ry;exact eq_str (zM I q VJ)
  |_=>exact absurd (show false=true from hs) Bool.false_ne_true
 |byt i=>
  obtain⟨t,rfl⟩:=rx
  cases y with
  |byt j=>obtain⟨t',rfl⟩:=ry;exact PySem.W.eq_bytes (zM I q VL)
  |_=>exact absurd (show false=true from hs) Bool.false_ne_true
 |_=>cases y <;> exact absurd (show false=true from hs) Bool.false_ne_true
theorem x6:OpR X (compareOp .NotEq) rNe:=by
 intro pins s σ H x y v u Q I rx ry h
 obtain⟨hs,q⟩:=h
 cases x with
 |non=>
  cases rx
  cases y with
  |non=>cases ry;exact PySem.EqNone.ne_none_none (zM I q (by simp))
  |bl j=>cases ry;exact PySem.EqNone.ne_none_bool (zM I q (by simp))
  |int j=>obtain⟨t',rfl⟩:=ry;exact PySem.EqNone.ne_none_int (zM I q (by simp))
  |str j=>obtain⟨t',rfl⟩:=ry;exact PySem.EqNone.ne_none_str (zM I q (by simp))
  |_=>exact absurd (show false=true from hs) Bool.false_ne_true
 |bl i=>
  cases rx
  cases y with
  |non=>cases ry;exact PySem.EqNone.ne_bool_none (zM I q (by simp))
  |bl j=>cases ry;exact ne_bool (zM I q (congrArg not QY))
  |str j=>obtain⟨t',rfl⟩:=ry;exact PySem.EqMixed.ne_bool_str (zM I q (by simp))
  |_=>exact absurd (show false=true from hs) Bool.false_ne_true
 |int i=>
  obtain⟨t,rfl⟩:=rx
  cases y with
  |non=>cases ry;exact PySem.EqNone.ne_int_none (zM I q (by simp))
  |int j=>obtain⟨t',rfl⟩:=ry;exact ne_int (zM I q (congrArg not VI))
  |str j=>obtain⟨t',rfl⟩:=ry;exact PySem.EqMixed.ne_int_str (zM I q (by simp))
  |_=>exact absurd (show false=true from hs) Bool.false_ne_true
 |str i=>
  obtain⟨t,rfl⟩:=rx
  cases y with
  |non=>cases ry;exact PySem.EqNone.ne_str_none (zM I q (by simp))
  |bl j=>cases ry;exact PySem.EqMixed.ne_str_bool (zM I q (by simp))
  |int j=>obtain⟨t',rfl⟩:=ry;exact PySem.EqMixed.ne_str_int (zM I q (by simp))
  |str j=>obtain⟨t',rfl⟩:=ry;exact ne_str (zM I q (congrArg not VJ))
  |_=>exact absurd (show false=true from hs) Bool.false_ne_true
 |byt i=>
  obtain⟨t,rfl⟩:=rx
  cases y with
  |byt j=>obtain⟨t',rfl⟩:=ry;exact PySem.W.ne_bytes (zM I q (congrArg not VL))
  |_=>exact absurd (show false=true from hs) Bool.false_ne_true
 |_=>cases y <;> exact absurd (show false=true from hs) Bool.false_ne_true
theorem kP:OpR X (compareOp .Lt) (rI0 fun i j=>.bl (decide (i < j))):=KK fun _ _ _ _ _ _ _ q=>lt_int q
theorem jK:OpR X (compareOp .LtE) (rI0 fun i j=>.bl (decide (i≤j))):=KK fun _ _ _ _ _ _ _ q=>le_int q
theorem Y1:OpR X (compareOp .Gt) (rI0 fun i j=>.bl (decide (j < i))):=KK fun _ _ _ _ _ _ _ q=>gt_int q
theorem QZ:OpR X (compareOp .In) (fun x y H Q=>∃ i j,x=.str i/\y=.str j/\Q (.bl (!(Builtin.Str.occurrences j i 0 j.length 1).isEmpty)) H):=by
 intro pins s σ H x y v u Q I rx ry h
 obtain⟨i,j,rfl,rfl,q⟩:=h
 obtain⟨t,rfl⟩:=rx
 obtain⟨t',rfl⟩:=ry
 exact in_str (zM I q rfl)
theorem Q0:OpR X (compareOp .Is) (fun x y H Q=>y=.non/\Q (.bl (decide (x=.non))) H):=by
 intro pins s σ H x y v u Q I rx ry h
 obtain⟨rfl,q⟩:=h
 cases ry
 refine is_none_gen (zM I q ?_)
 cases x <;> first
  | (cases rx;rfl)
  | (obtain⟨t,rfl⟩:=rx;rfl)
theorem zt (b:Expr) {op:CmpOp}(h:op≠.In:=by decide) (h2:op≠.NotIn:=by decide):behindInMarks op b=false:=by
 have e1:(op == CmpOp.In)=false:=by cases op <;> first |rfl |exact absurd rfl h
 have e2:(op == CmpOp.NotIn)=false:=by cases op <;> first |rfl |exact absurd rfl h2
 cases b <;> simp [behindInMarks,e1,e2]
theorem ue {op:CmpOp}{r:R2}(ho:OpR X (compareOp op) r) (ha:PE X a ta) (hb:PE X b tb) (hm:behindInMarks op b=false):PE X (.Compare a [op] [b] pos) (tOp r ta tb):=by
 intro pins s σ H Q I h
 exact wpAny_Compare1 (KJ ha hb I h fun v u s2 x y H2 I2 rx ry q=>ho pins s2 σ H2 x y v u Q I2 rx ry q) hm
def Y2 (t:TE):TT:=fun σ H Q=>t σ H fun x H'=>∃ k,x=.bl k/\Q k H'
theorem zq {op:CmpOp}{r:R2}(ho:OpR X (compareOp op) r) (ha:PE X a ta) (hb:PE X b tb) (hm:behindInMarks op b=false):PT X (.Compare a [op] [b] pos) (Y2 (tOp r ta tb)):=by
  intro pins s σ H Q I h
  refine wpAny_isTrue_Compare1 (thn (ha pins s σ H _ I h) fun v s1 ⟨x,H1,I1,r1,q1⟩=>thn (hb pins s1 σ H1 _ I1 q1) fun u s2 ⟨y,H2,I2,r2,q2⟩=>
    thn (ho pins s2 σ H2 x y v u _ I2 r1 r2 q2) fun c s3 ⟨z,H3,I3,r3,k,e,q3⟩=>?_) hm
  subst e
  cases r3
  exact wpAny_truthy_bool ⟨H3,I3,q3⟩
def kQ (r r':R2) (ta tb tc:TE):TE:=fun σ H Q=>ta σ H fun x H1=>tb σ H1 fun y H2=>r x y H2 fun z H3=>∃ k,z=.bl k/\
 (if k=true then tc σ H3 fun w' H4=>r' y w' H4 Q else Q (.bl false) H3)
theorem Xd {op op':CmpOp}{r r':R2}(ho:OpR X (compareOp op) r) (ho':OpR X (compareOp op') r') (ha:PE X a ta) (hb:PE X b tb) (hc:PE X c tc)
    (hm:lastMarks [op,op'] [b,c]=false:=by with_unfolding_all rfl):PE X (.Compare a [op,op'] [b,c] pos) (kQ r r' ta tb tc):=by
  intro pins s σ H Q I h
  refine Compare_chain (thn (ha pins s σ H _ I h) fun v s1 ⟨x,H1,I1,r1,q1⟩=>chain_link (thn (hb pins s1 σ H1 _ I1 q1) fun u s2 ⟨y,H2,I2,r2,q2⟩=>
    thn (ho pins s2 σ H2 x y v u _ I2 r1 r2 q2) fun d s3 ⟨z,H3,I3,r3,k,e,q3⟩=>?_)) hm
  subst e
  cases r3
  refine wpAny_truthy_bool ?_
  cases k with
  |false=>exact ite_ff ⟨.bl false,H3,I3,rfl,q3⟩
  |true=>exact ite_tt (chain_last (thn (hc pins s3 σ H3 _ I3 q3) fun w' s4 ⟨z',H4,I4,r4,q4⟩=>ho' pins s4 σ H4 y z' u w' Q I4 r2 r4 q4))
theorem Xe {op op':CmpOp}{r r':R2}(ho:OpR X (compareOp op) r) (ho':OpR X (compareOp op') r') (ha:PE X a ta) (hb:PE X b tb) (hc:PE X c tc)
    (hm:lastMarks [op,op'] [b,c]=false:=by with_unfolding_all rfl):PT X (.Compare a [op,op'] [b,c] pos) (Y2 (kQ r r' ta tb tc)):=by
  intro pins s σ H Q I h
  refine isTrue_chain (thn (ha pins s σ H _ I h) fun v s1 ⟨x,H1,I1,r1,q1⟩=>test_link (thn (hb pins s1 σ H1 _ I1 q1) fun u s2 ⟨y,H2,I2,r2,q2⟩=>
    thn (ho pins s2 σ H2 x y v u _ I2 r1 r2 q2) fun d s3 ⟨z,H3,I3,r3,k,e,q3⟩=>?_)) hm
  subst e
  cases r3
  refine wpAny_truthy_bool ?_
  cases k with
  |false=>
    obtain⟨k',e',q'⟩:=q3
    cases e'
    exact ite_ff ⟨H3,I3,q'⟩
  |true=>
    refine ite_tt (test_last (thn (hc pins s3 σ H3 _ I3 q3) fun w' s4 ⟨z',H4,I4,r4,q4⟩=>thn (ho' pins s4 σ H4 y z' u w' _ I4 r2 r4 q4) fun d' s5 ⟨z2,H5,I5,r5,k2,e2,q5⟩=>?_))
    subst e2
    cases r5
    exact wpAny_truthy_bool ⟨H5,I5,q5⟩
def Xf (K:W.Frag) (x:V) (H:Hp) (k:Bool):Prop:=
 match x with
 |.non=>k=false
 |.bl b=>k=b
 |.int i=>k=(i != 0)
 |.str y=>y.length≤sizeLine/\k=((y.length:Int) != 0)
 |.byt y=>y.size≤sizeLine/\k=((y.size:Int) != 0)
 |.ref p=>(∃ xs,SqL K H p xs/\k= !xs.isEmpty)\/(∃ xs,SqT K H p xs/\k= !xs.isEmpty)\/∃ kvs,H p=some (.dK kvs)/\k= !kvs.isEmpty
 |_=>False
theorem UT {κ:Type}{kvs:List (κ×V)}{vs:List (κ×Value)}(r:KV kvs vs):(!vs.isEmpty)= !kvs.isEmpty:=by
 cases r <;> rfl
theorem kR {xs:List V}{its:List Value}(r:Vals xs its):(!its.toArray.isEmpty)= !xs.isEmpty:=by
 cases r <;> simp
theorem qg:(sizeLine:Nat) < 2 ^ 63:=by rw [sizeLine_eq];decide
theorem zdR:zf5 X (fun x H Q=>∃ k,Xf X.K x H k/\Q k H):=by
 intro pins s σ H x v Q I rx h
 obtain⟨k,e,q⟩:=h
 have hl:=qg
 have hs:sizeLine= 16777216:=sizeLine_eq
 cases x with
 |non=>
  cases rx
  have e':k=false:=e
  subst e'
  exact truthy_none ⟨H,I,q⟩
 |bl b=>
  cases rx
  have e':k=b:=e
  subst e'
  exact wpAny_truthy_bool ⟨H,I,q⟩
 |int i=>
  obtain⟨t,rfl⟩:=rx
  have e':k=(i != 0):=e
  subst e'
  exact PySem.P.truthy_int ⟨H,I,q⟩
 |str y=>
  obtain⟨t,rfl⟩:=rx
  obtain⟨hy,e'⟩:y.length≤sizeLine/\k=((y.length:Int) != 0):=e
  subst e'
  exact PySem.P.truthy_str (by omega) ⟨H,I.tok _,q⟩
 |byt y=>
  obtain⟨t,rfl⟩:=rx
  obtain⟨hy,e'⟩:y.size≤sizeLine/\k=((y.size:Int) != 0):=e
  subst e'
  exact PySem.W.truthy_bytes (by omega) ⟨H,I.tok _,q⟩
 |ref p=>
  cases rx
  have e':(∃ xs,SqL X.K H p xs/\k= !xs.isEmpty)\/(∃ xs,SqT X.K H p xs/\k= !xs.isEmpty)\/∃ kvs,H p=some (.dK kvs)/\k= !kvs.isEmpty:=e
  rcases e' with⟨xs,hx,e'⟩ | ⟨xs,hx,e'⟩ | ⟨kvs,hx,e'⟩
  ·subst e'
   obtain⟨its,r,pl,hz⟩:=I.list hx
   have hlen:=r.length
   exact wpAny_truthy_list pl.isList (by simp only [List.size_toArray];omega) ⟨H,I.tok _,by rw [kR r];exact q⟩
  ·subst e'
   obtain⟨its,r,pl,hz⟩:=I.tuple hx
   have hlen:=r.length
   exact truthy_tuple pl (by simp only [List.size_toArray];omega) ⟨H,I.tok _,by rw [kR r];exact q⟩
  ·subst e'
   obtain⟨hz,hS,vs,r,m⟩:kvs.length≤sizeLine/\(p == sysModules)=false/\∃ vs,KV kvs vs/\s.heap.DictOf (Zz X.prog X.w) p vs:=I.hok p _ hx
   have hlen:kvs.length=vs.length:=Paired.length r
   exact wpAny_truthy_dict hS m (by omega) ⟨H,I.tok _,by rw [UT r];exact q⟩
 |_=>exact (show False from e).elim
theorem KL (ha:PE X a ta) (he:∀ whole,isTrue a X.env whole=(do let v <- whole;standAt a.pos;holding [v] (truthy v))) :
  PT X a (fun σ H Q=>ta σ H fun x H'=>∃ k,Xf X.K x H' k/\Q k H'):=by
 intro pins s σ H Q I h
 exact isTrue_plain (thn (ha pins s σ H _ I h) fun v s1 ⟨x,H1,I1,r1,q1⟩=>zdR pins s1 σ H1 x v Q I1 r1 q1) (he _)
theorem zX:OpR X (binaryOp .Add) (fun x y H Q=>∃ i j,x=.str i/\y=.str j/\i.length+j.length≤sizeLine/\Q (.str (i ++ j)) H):=by
 intro pins s σ H x y v u Q I rx ry h
 obtain⟨i,j,rfl,rfl,hz,q⟩:=h
 obtain⟨t,rfl⟩:=rx
 obtain⟨t',rfl⟩:=ry
 exact add_str (fun t' tk=>⟨.str (i ++ j),H,I.tok _,⟨_,rfl⟩,q⟩) hz
theorem vC {x:V}{us:List Value}(r:Vals [x] us):∃ u,us=[u]/\RelV x u:=by
 cases r with
 |cons r1 r2=>cases r2;exact⟨_,rfl,r1⟩
theorem zfy {x y:V}{us:List Value}(r:Vals [x,y] us):∃ u w',us=[u,w']/\RelV x u/\RelV y w':=by
 cases r with
 |cons r1 r2=>
  cases r2 with
  |cons r3 r4=>cases r4;exact⟨_,_,rfl,r1,r3⟩
theorem Q2 (hc:X.calm=true):y8 X (.builtin "min") (fun xs H Q=>∃ i j,xs=[.int i,.int j]/\Q (.int (if j < i then j else i)) H):=by
 intro pins s σ H xs us Q I r h
 obtain⟨i,j,rfl,q⟩:=h
 obtain⟨u,w',rfl,⟨t,rfl⟩,⟨t',rfl⟩⟩:=zfy r
 refine min_two_ints (I.ok.hd hc) fun h' tk k=>⟨_,H,I.kept k,?_,q⟩
 by_cases hj:j < i
 ·rw [if_pos hj,if_pos hj];exact⟨_,rfl⟩
 ·rw [if_neg hj,if_neg hj];exact⟨_,rfl⟩
theorem Yn:y8 X (.type "int") (fun xs H Q=>(∃ i,xs=[.int i]/\Q (.int i) H)\/∃ k,xs=[.bl k]/\Q (.int (if k then 1 else 0)) H):=by
 intro pins s σ H xs us Q I r h
 rcases h with⟨i,rfl,q⟩ | ⟨k,rfl,q⟩
 ·obtain⟨u,rfl,t,rfl⟩:=vC r
  exact call_int_int ⟨.int i,H,I,⟨_,rfl⟩,q⟩
 ·obtain⟨u,rfl,r1⟩:=vC r
  cases r1
  exact call_int_bool ⟨.int (if k then 1 else 0),H,I.tok _,⟨_,rfl⟩,q⟩
theorem Xg:y8 X (.type "str") (fun xs H Q=>∃ i,xs=[.int i]/\i.natAbs.log2 < 1920/\Q (.str (toString i)) H):=by
 intro pins s σ H xs us Q I r h
 obtain⟨i,rfl,hz,q⟩:=h
 obtain⟨u,rfl,t,rfl⟩:=vC r
 exact PySem.P.str_of_int hz ⟨.str _,H,I.tok _,⟨_,rfl⟩,q⟩
theorem KM:y8 X (.builtin "ord") (fun xs H Q=>∃ x,xs=[.str x]/\x.length= 1/\Q (.int (x.cps.getD 0 0:Nat)) H):=by
 intro pins s σ H xs us Q I r h
 obtain⟨x,rfl,hz,q⟩:=h
 obtain⟨u,rfl,t,rfl⟩:=vC r
 exact ord_of_one hz ⟨.int _,H,I.tok _,⟨_,rfl⟩,q⟩
end
structure ObjM (h:Heap) (x dx C:Addr) (mA:Str->Option Value):Prop where
 obj:h.get? x=some (PySem.W.instObj C dx)
 ns:h.Ns1 dx mA
 ne:dx≠x
theorem Q3 {h:Heap}{dx:Addr}{mA:Str->Option Value}(n:h.Ns1 dx mA):∃ od,h.get? dx=some od/\∀ name,PySem.W.lookIn name od=some (mA name):=by
 obtain⟨o,es,ep,ho,hd,hk,_,hm⟩:=n
 refine⟨o,ho,fun name=>?_⟩
 have e:=hm name
 unfold nsFind findBy at e
 rw [<- Array.find?_toList] at e
 unfold PySem.W.lookIn
 rw [hd]
 dsimp only
 split
 ·rename_i y q
  rw [q] at e
  exact congrArg some e
 ·rename_i q
  rw [q] at e
  have a:es.toList.any (·.refKey)=false:=by
   rw [List.any_eq_false]
   intro y hy
   obtain⟨z,t,hkey⟩:=hk y (Array.mem_toList_iff.mp hy)
   simp [DictEntry.refKey,hkey]
  have a':¬ es.toList.any (·.refKey)=true:=by rw [a];exact Bool.false_ne_true
  rw [if_neg a']
  exact congrArg some e
theorem ObjM.look {h:Heap}{x dx C:Addr}{mA:Str->Option Value}(I:ObjM h x dx C mA):∃ od,PySem.W.InstAt h x (PySem.W.instObj C dx) C (some od)/\∀ name,PySem.W.lookIn name od=some (mA name):=
 let ⟨od,ho,hl⟩:=Q3 I.ns
 ⟨od,⟨I.obj,rfl,rfl,ho⟩,hl⟩
section
variable {prog:Program}{w:World}{A:Around}{E:Value->Shared->Prop}{s:Shared}{K:W.Frag}{x dx C f:Addr}{mA:Str->Option Value}{name:Str}{v:Value}
end
section
variable {P:Program}{w:World}{H H':Hp}{h h':Heap}{a C dx:Addr}{fs fs':List (Str×V)}
theorem zci (hok:HOk P w H h) (e:H a=some (.ins C dx fs)):∃ mA,ObjM h a dx C mA/\(∀ f,KA (fs.lookup f) (mA f))/\PySem.Within mA (fs.map (·.1))/\fs.length≤1000/\H dx=some (.own a):=by
 obtain⟨d,z,ne,ob,mA,n,r,q⟩:=(show yq P w H h a (.ins C dx fs) from hok a _ e)
 exact⟨mA,⟨ob,n,ne⟩,r,q,z,d⟩
end
structure Cls (K:W.Frag) (C:Addr):Prop where
 pg:PySem.W.plainGet K C Str.empty=true
 hd:PySem.W.hasDictIn K C=true
 po:PySem.W.plainOver K C=true
 sa:PySem.W.findIn K (.ref C) "__setattr__" =some (some (.builtin "object.__setattr__"))
theorem Cls.get {K:W.Frag}{C:Addr}(c:Cls K C) (f:Str):PySem.W.plainGet K C f=true:=c.pg
def Q4 (K:W.Frag) (C:Addr) (f:Str):Prop:=PySem.W.findIn K (.ref C) f=some none
section
variable {X:Cx}{pins:List (Addr×Obj)}{σ:St}{H:Hp}{s:Shared}{a C dx:Addr}{fs:List (Str×V)}{f:Str}{v:V}{A:Around}{E:Value->Shared->Prop}
end
section
variable {X:Cx}{o e value:Expr}{f:Str}{pos pos' tpos:Pos}{ta tv:TE}
end
section
variable {X:Cx}{pins:List (Addr×Obj)}{σ:St}{H:Hp}{s:Shared}{A:Around}{E:Value->Shared->Prop}{Q:Value->Shared->Prop}{c:Value}{b:Bool}
inductive TyOf (K:W.Frag) (H:Hp):V->Value->Prop where
 |non:TyOf K H .non (.type "NoneType")
 |bl (x:Bool):TyOf K H (.bl x) (.type "bool")
 |int (i:Int):TyOf K H (.int i) (.type "int")
 |str (x:Str):TyOf K H (.str x) (.type "str")
 |flt (x:UInt64):TyOf K H (.flt x) (.type "float")
 |lst {a:Addr}{xs:List V}(e:H a=some (.lst xs)):TyOf K H (.ref a) (.type "list")
 |frz {a:Addr}{o:Obj}{xs:List V}(e:H a=some (.frz o (.lst xs))):TyOf K H (.ref a) (.type "list")
 |tup {a:Addr}{xs:List V}(e:H a=some (.tup xs)):TyOf K H (.ref a) (.type "tuple")
 |dK {a:Addr}{kvs:List (Key×V)}(e:H a=some (.dK kvs)):TyOf K H (.ref a) (.type "dict")
 |dT {a:Addr}{kvs:List (List Key×V)}(e:H a=some (.dT kvs)):TyOf K H (.ref a) (.type "dict")
 |ins {a C dx:Addr}{fs:List (Str×V)}(e:H a=some (.ins C dx fs)) (cl:Cls K C) (ha:PySem.W.findIn K (.ref C) "__class__" =some (some (.builtin "object.__class__")))
   (hn:PySem.W.specialIn K (.builtin "object.__class__") "__get__" =some (some (.builtin "getset_descriptor.__get__"))) (htk:PySem.W.takesIn K (.builtin "object.__class__")=some true)
   (hm:PySem.W.mroIn K C (.type "object")=some true):TyOf K H (.ref a) (.ref C)
theorem uM {x:V}{u t:Value}(I:Inv X pins σ H s) (rx:RelV x u) (ty:TyOf X.K H x t) (e:PySem.W.kitOne X.K t c=some b) (h:∀ tk,Q (.bool b) { s with toks:=tk }) :
  wpAny (model X.prog X.w) A (call (.builtin "isinstance") [u,c]) Q E s:=by
 cases ty with
 |non=>cases (show u=Value.none from rx);exact PySem.W.kia_one PySem.W.kitx_none I.kIn True.intro e (fun z=>nomatch z) h
 |bl y=>cases (show u=Value.bool y from rx);exact PySem.W.kia_one PySem.W.kitx_bool I.kIn True.intro e (fun z=>nomatch z) h
 |int i=>obtain⟨t,q⟩:=(show ∃ t,u=Value.int i t from rx);cases q;exact PySem.W.kia_one PySem.W.kitx_int I.kIn True.intro e (fun z=>nomatch z) h
 |str y=>obtain⟨t,q⟩:=(show ∃ t,u=Value.str y t from rx);cases q;exact PySem.W.kia_one PySem.W.kitx_str I.kIn True.intro e (fun z=>nomatch z) h
 |flt y=>obtain⟨t,q⟩:=(show ∃ t,u=Value.float y t from rx);cases q;exact PySem.W.kia_one PySem.W.kitx_float I.kIn True.intro e (fun z=>nomatch z) h
 | @lst a xs ea=>
  cases (show u=Value.ref a from rx)
  obtain⟨_,_,n,_,h1⟩:=(show yq X.prog X.w H s.heap a (.lst xs) from I.hok a _ ea)
  exact PySem.W.kia_one PySem.W.kitx_list I.kIn ⟨_,h1,rfl⟩ e (fun z=>nomatch z) h
 | @frz a ob xs ea=>
  cases (show u=Value.ref a from rx)
  obtain⟨_,_,_,n,_,h1⟩:=(show yq X.prog X.w H s.heap a (.frz ob (.lst xs)) from I.hok a _ ea)
  exact PySem.W.kia_one PySem.W.kitx_list I.kIn ⟨_,h1,rfl⟩ e (fun z=>nomatch z) h
 | @tup a xs ea=>
  cases (show u=Value.ref a from rx)
  obtain⟨_,_,_,p⟩:=(show yq X.prog X.w H s.heap a (.tup xs) from I.hok a _ ea)
  obtain⟨o,h1,h2,_⟩:=p
  exact PySem.W.kia_one PySem.W.kitx_tuple I.kIn ⟨o,h1,h2⟩ e (fun z=>nomatch z) h
 | @dK a kvs ea=>
  cases (show u=Value.ref a from rx)
  obtain⟨_,_,vs,_,p⟩:=(show yq X.prog X.w H s.heap a (.dK kvs) from I.hok a _ ea)
  obtain⟨o,es,ep,h1,h2,_⟩:=p
  exact PySem.W.kia_one PySem.W.kitx_dict I.kIn ⟨o,h1,h2.1⟩ e (fun z=>nomatch z) h
 | @dT a kvs ea=>
  cases (show u=Value.ref a from rx)
  obtain⟨_,_,xs,_,o,es,ep,h1,h2,_⟩:=(show yq X.prog X.w H s.heap a (.dT kvs) from I.hok a _ ea)
  exact PySem.W.kia_one PySem.W.kitx_dict I.kIn ⟨o,h1,h2.1⟩ e (fun z=>nomatch z) h
 | @ins a C dx fs ea cl ha hn htk hm=>
  cases (show u=Value.ref a from rx)
  obtain⟨mA,O,_⟩:=zci I.hok ea
  obtain⟨od,J,_⟩:=O.look
  exact PySem.W.kia_one (PySem.W.kitx_own (cl.get _) cl.hd ha hn htk hm) I.kIn J e (fun z=>nomatch z) h
end
structure Room (k:Nat) (A:Around):Prop where
 hd:A.handled=none
 dp:A.depth+3*k+5 < recursionLimit
 un:A.units+16*k+200 < cLine
 gd:A.guards=some []
theorem Room.mono {j k:Nat}{A:Around}(r:Room k A) (h:j≤k):Room j A:=⟨r.hd,by have:=r.dp;omega,by have:=r.un;omega,r.gd⟩
theorem Room.deeper {k:Nat}{A:Around}(r:Room (k+1) A) (env:Env):Room k (A.deeper env):=
 ⟨r.hd,by have:=r.dp;show A.depth+1+3*k+5 < _;omega,by have:=r.un;show A.units+3+16*k+200 < _;omega,r.gd⟩
theorem Room.depth {k:Nat}{A:Around}(r:Room k A):A.depth < recursionLimit:=by have:=r.dp;omega
theorem Room.units {k:Nat}{A:Around}(r:Room k A):A.units+64 < cLine:=by have:=r.un;omega
def ZF:TA:=fun _ H Q=>Q [] H
def v0 (ta:TE) (tr:TA):TA:=fun σ H Q=>ta σ H fun x H1=>tr σ H1 fun xs H2=>Q (x :: xs) H2
section
variable {X:Cx}{e:Expr}{es:List Expr}{te:TE}{t:TA}{pos:Pos}
theorem Q5:PA X [] ZF:=fun _ _ _ _ H Q I h=>Calls.spliced_nil ⟨[],H,I,.nil,h⟩
theorem VM (ha:PE X e te) (hr:PA X es t) (hs:starEach (e :: es) X.env=(false,eval e X.env) :: starEach es X.env:=by rfl):PA X (e :: es) (v0 te t):=by
 intro pos pins s σ H Q I h
 rw [hs]
 show wpAny _ _ (spliced ((false,eval e X.env) :: backTo pos (starEach es X.env))) _ _ s
 refine Calls.spliced_cons (thn (ha pins s σ H _ I h) fun u s1 ⟨x,H1,I1,r1,q1⟩=>?_)
 exact thn (hr pos pins s1 σ H1 _ I1 q1) fun us s2 ⟨xs,H2,I2,r2,q2⟩=>⟨x :: xs,H2,I2,.cons r1 r2,q2⟩
def UU (t:TA):TE:=fun σ H Q=>t σ H fun xs H1=>xs.length≤sizeLine/\∀ p,H1 p=none->Q (.ref p) (upd H1 p (.tup xs))
def ZG (t:TA):TE:=fun σ H Q=>t σ H fun xs H1=>xs.length≤sizeLine/\∀ p,H1 p=none->Q (.ref p) (upd H1 p (.lst xs))
theorem zdS {x1} (h:PA X es t):PE X (.Tuple es x1 pos) (UU t):=by
 intro pins s σ H Q I hq
 refine wpAny_Tuple_spliced (thn (h pos pins s σ H _ I hq) fun us s1 ⟨xs,H1,I1,r,z,q⟩=>⟨by rw [<- r.length];exact z,?_⟩)
 have hf:H1 s1.heap.objs.size=none:=I1.hok.fresh (Nat.le_refl _)
 refine⟨.ref s1.heap.objs.size,upd H1 s1.heap.objs.size (.tup xs),I1.laid (t':=s1.toks) (fun b u e=>Heap.get?_push_of_some _ e) (Nat.le_refl _) ?_,rfl,q _ hf⟩
 exact⟨z,us,r,⟨_,Heap.get?_push_size _ rfl,rfl,_,rfl⟩⟩
theorem Q6 (h:PA X es t):PE X (.List es pos) (ZG t):=by
 intro pins s σ H Q I hq
 refine wpAny_List_spliced (thn (h pos pins s σ H _ I hq) fun us s1 ⟨xs,H1,I1,r,z,q⟩=>⟨by rw [<- r.length];exact z,?_⟩)
 have hf:H1 s1.heap.objs.size=none:=I1.hok.fresh (Nat.le_refl _)
 refine⟨.ref s1.heap.objs.size,upd H1 s1.heap.objs.size (.lst xs),I1.laid (t':=s1.toks) (fun b u e=>Heap.get?_push_of_some _ e) (Nat.le_refl _) ?_,rfl,q _ hf⟩
 exact⟨z,us,0,r,Heap.get?_push_size _ rfl⟩
end
abbrev Sp:=List V->Hp->VK->XK->Prop
abbrev CXT:=List Env->Hp->Shared->XK->Value->Shared->Prop
structure Env0 (P:Program) (w:World) (K:W.Frag) (mg:Str->Option Value) (base:Heap) (A:Around) (outer:List Env) (s:Shared) (H:Hp):Prop where
 frames:A.frames=some outer
 mod:Mod K mg base
 bs:∀ b o,base.get? b=some o->s.heap.get? b=some o/\H b=none
 bsz:base.objs.size≤s.heap.objs.size
 funs:s.heap.FunFrames base outer
 frf:∀ b∈frs outer,H b=none
 hok:HOk P w H s.heap
 bare:AllBare s.gens
def CE (outer:List Env) (P:Program) (w:World) (H:Hp) (s:Shared) (Q:VK) (u:Value) (s':Shared):Prop:=
 ∃ v H',s'.os=s.os/\AllBare s'.gens/\Un (frs outer) [] H H' s.heap s'.heap/\HOk P w H' s'.heap/\RelV v u/\Q v H'
def CR (CX:CXT) (outer:List Env) (P:Program) (w:World) (H:Hp) (s:Shared) (Q:VK) (E:XK) (r:Result) (s':Shared):Prop:=
 match r with
 |.ok (.ret u)=>CE outer P w H s Q u s'
 |.ok _=>False
 |.error e=>CX outer H s E e s'
structure FnOk (P:Program) (w:World) (K:W.Frag) (mg:Str->Option Value) (base:Heap) (CX:CXT) (k:Nat) (f:Addr) (fd:FuncData) (ps:List Str) (sp:Sp):Prop where
 len:∀ vs H Q E,sp vs H Q E->vs.length=ps.length
 run:∀ (A:Around) (outer:List Env) (s:Shared) (H:Hp) (args:Args) (us:List Value) (vs:List V) (Q:VK) (E:XK),Room k A->Env0 P w K mg base A outer s H->BindsTo s fd args (ps.zip us)->Vals vs us->sp vs H Q E->
  codeAny (model P w) A (.call (.ref f) args) (CR CX outer P w H s Q E) s
theorem FnOk.imp {P:Program}{w:World}{K:W.Frag}{mg:Str->Option Value}{base:Heap}{CX:CXT}{k:Nat}{f:Addr}{fd:FuncData}{ps:List Str}{sp sp':Sp}(F:FnOk P w K mg base CX k f fd ps sp)
  (h:∀ vs H Q E,sp' vs H Q E->sp vs H Q E):FnOk P w K mg base CX k f fd ps sp':=
 ⟨fun vs H Q E q=>F.len vs H Q E (h _ _ _ _ q),fun A outer s H args us vs Q E hr he hb hv hs=>F.run A outer s H args us vs Q E hr he hb hv (h _ _ _ _ hs)⟩
section
variable {X:Cx}{pins:List (Addr×Obj)}{σ:St}{H:Hp}{s s':Shared}
theorem Inv.env0 (I:Inv X pins σ H s):Env0 X.prog X.w X.K X.mg X.base X.A X.stack s H:=
 ⟨I.ok.frames,I.ok.mod,I.bs,Nat.le_trans I.ok.bsz I.sz,I.stack,I.stkFree,I.hok,I.bare⟩
theorem Inv.after {Q:VK}{u:Value}(I:Inv X pins σ H s) (h:CE X.stack X.prog X.w H s Q u s'):EP X pins σ Q u s':=by
 obtain⟨v,H',os,bare,un,hok,r,q⟩:=h
 obtain⟨hh,g,d,t,os'⟩:=s'
 obtain rfl:os'=s.os:=os
 exact⟨v,H',I.call (h':=hh) (g':=g) (d':=d) (t':=t) (ch:=[]) un hok bare (fun b z=>absurd z (by simp)),r,q⟩
end
def xT (sp:Sp) (dvs:List V) (E:XK) (t:TA):TE:=fun σ H Q=>t σ H fun vs H1=>sp (vs ++ dvs) H1 Q E
def Binds (K:W.Frag) (fd:FuncData) (ps:List Str) (ds:List Value):Prop:=
 ∀ (s:Shared) (us:List Value),K.In s.heap->(us ++ ds).length=ps.length->BindsTo s fd ⟨us,[]⟩ (ps.zip (us ++ ds))
theorem Binds.all {K:W.Frag}{fd:FuncData}{ps:List Str}(h:∀ us:List Value,us.length=ps.length->bindArgs fd ⟨us,[]⟩=pure (ps.zip us)):Binds K fd ps []:=fun s us _ hl=>by
 rw [List.append_nil] at hl ⊢
 exact .of_eq (h us hl)
def qh (CX:CXT) (X:Cx) (E:XK):Prop:=∀ (pins:List (Addr×Obj)) (σ:St) (H:Hp) (s:Shared) (e:Value) (s':Shared),Inv X pins σ H s->CX X.stack H s E e s'->X.xe e s'
section
variable {X:Cx}{CX:CXT}{k:Nat}{f C:Addr}{fd:FuncData}{ps:List Str}{sp:Sp}{dvs:List V}{ds:List Value}{E:XK}{x m:Str}{p pos apos:Pos}{e o:Expr}{es:List Expr}{ta:TE}{t:TA}
theorem zdT {pins:List (Addr×Obj)}{σ:St}{H:Hp}{s:Shared}{Q:VK}{us:List Value}{vs:List V}(F:FnOk X.prog X.w X.K X.mg X.base CX k f fd ps sp) (hr:Room k X.A) (hb:Binds X.K fd ps ds) (hd:Vals dvs ds) (hx:qh CX X E)
  (I:Inv X pins σ H s) (r:Vals vs us) (h:sp (vs ++ dvs) H Q E):wpAny (model X.prog X.w) X.A (call (.ref f) us) (EP X pins σ Q) X.xe s:=by
 have r2:Vals (vs ++ dvs) (us ++ ds):=r.append hd
 have hl:(us ++ ds).length=ps.length:=by rw [<- r2.length];exact F.len _ _ _ _ h
 refine wpAny_call (codeAny_mono (F.run X.A X.stack s H ⟨us,[]⟩ (us ++ ds) (vs ++ dvs) Q E hr I.env0 (hb s us I.kIn hl) r2 h) fun r s' hq=>?_)
 cases r with
 |error e=>exact hx pins σ H s e s' I hq
 |ok fl=>
  cases fl with
  |ret u=>exact I.after hq
  |next=>exact False.elim hq
  |brk=>exact False.elim hq
  |cont=>exact False.elim hq
theorem VN (F:FnOk X.prog X.w X.K X.mg X.base CX k f fd ps sp) (hr:Room k X.A) (hg:Gl X x) (hm:X.mg x=some (.ref f)) (hk:PySem.W.keepIn X.K (.ref f)=true) (hb:Binds X.K fd ps ds) (hd:Vals dvs ds) (hx:qh CX X E)
  (ha:PA X (e :: es) t) (hdb:(x == ("__debug__":Str))=false:=by decide) (he:starEach (e :: es) X.env=(false,eval e X.env) :: starEach es X.env:=by rfl) (hpl:(backTo pos (starEach es X.env)).any (·.1)=false:=by rfl) :
  PE X (.Call (.Name x p) (e :: es) [] pos) (xT sp dvs E t):=by
 intro pins s σ H Q I h
 refine wpAny_Call_Name_kw (ud I hg hm ?_ hdb)
 refine PySem.W.callWith_K (h₀:=X.base) I.ok.mod.kin hk (thn (ha pos pins s σ H _ I h) fun us s1 ⟨vs,H1,I1,r,q⟩=>⟨I1.kIn,?_⟩) he hpl
 exact zdT F hr hb hd hx I1 r q
end
section
variable {X:Cx}{CX:CXT}{k:Nat}{f C:Addr}{fd:FuncData}{ps ks:List Str}{sp:Sp}{E:XK}{x m:Str}{p pos apos kpos:Pos}{e o:Expr}{es:List Expr}{kws:List Keyword}{te ta:TE}{t tk:TA}{nm:Option Str}
variable {g:List Value->List Value->List Value}{gV:List V->List V->List V}
end
structure FnScope (N P:List Str) (sc:Scope):Prop where
 kind:sc.kind=.function
 co:sc.isCoroutine=false
 gen:sc.isGenerator=false
 nd:N.Nodup
 pre:N.take P.length=P
 par:∀ x∈P,sc.names.lookup x=some .local\/sc.names.lookup x=some .cell
 nofree:∀ y∈sc.names,y.2≠.free
theorem Yo {kindOf:Str->Option NameKind}{x:Str}:∀ {binds:List (Str×Value)}{m:Str->Option Value},(∀ v,(x,v) ∉ binds)->bindL kindOf binds m x=m x
 |[],_,_=>rfl
 | (n,v) :: r,m,h=>by
  unfold bindL
  rw [Yo fun w hw=>h w (List.mem_cons_of_mem _ hw)]
  split
  ·have:x≠n:=by rintro rfl;exact h v List.mem_cons_self
   simp [this]
  ·rfl
theorem Yp {kindOf:Str->Option NameKind}{x:Str}:∀ {binds:List (Str×Value)}{m:Str->Option Value},(∀ v,(x,v) ∉ binds)->bindC kindOf binds m x=m x
 |[],_,_=>rfl
 | (n,v) :: r,m,h=>by
  unfold bindC
  rw [Yp fun w hw=>h w (List.mem_cons_of_mem _ hw)]
  split
  ·rfl
  ·have:x≠n:=by rintro rfl;exact h v List.mem_cons_self
   simp [this]
theorem Yq {kindOf:Str->Option NameKind}{x:Str}{v:Value}:∀ {P:List Str}{vs:List Value}{i:Nat}{m:Str->Option Value},P.Nodup->P[i]? =some x->vs[i]? =some v->kindOf x=some .local->
  bindL kindOf (P.zip vs) m x=some v
 |[],_,_,_,_,h,_,_=>by simp at h
 |_ :: _,[],_,_,_,_,h,_=>by simp at h
 |p :: P,w :: vs,0,m,nd,h1,h2,hk=>by
  simp at h1 h2;subst h1;subst h2
  show bindL kindOf ((p,w) :: P.zip vs) m p=_
  unfold bindL
  rw [Yo fun v hv=>(List.nodup_cons.mp nd).1 (List.of_mem_zip hv).1,if_pos hk]
  simp
 |p :: P,w :: vs,i+1,m,nd,h1,h2,hk=>by
  show bindL kindOf ((p,w) :: P.zip vs) m x=_
  unfold bindL
  exact Yq (i:=i) (List.nodup_cons.mp nd).2 (by simpa using h1) (by simpa using h2) hk
theorem Yr {kindOf:Str->Option NameKind}{x:Str}{v:Value}:∀ {P:List Str}{vs:List Value}{i:Nat}{m:Str->Option Value},P.Nodup->P[i]? =some x->vs[i]? =some v->kindOf x≠some .local->
  bindC kindOf (P.zip vs) m x=some v
 |[],_,_,_,_,h,_,_=>by simp at h
 |_ :: _,[],_,_,_,_,h,_=>by simp at h
 |p :: P,w :: vs,0,m,nd,h1,h2,hk=>by
  simp at h1 h2;subst h1;subst h2
  show bindC kindOf ((p,w) :: P.zip vs) m p=_
  unfold bindC
  rw [Yp fun v hv=>(List.nodup_cons.mp nd).1 (List.of_mem_zip hv).1,if_neg hk]
  simp
 |p :: P,w :: vs,i+1,m,nd,h1,h2,hk=>by
  show bindC kindOf ((p,w) :: P.zip vs) m x=_
  unfold bindC
  exact Yr (i:=i) (List.nodup_cons.mp nd).2 (by simpa using h1) (by simpa using h2) hk
noncomputable def start (N:List Str) (vs:List V):St:=vs.map some ++ List.replicate (N.length - vs.length) none
noncomputable def uu (CX:CXT) (P:Program) (w:World) (K:W.Frag) (mg:Str->Option Value) (base:Heap) (N:List Str) (qual:Str) (scope:Scope) (f:Addr) (cd:Value) (A:Around) (outer:List Env) (s:Shared) (H:Hp) (E:XK):Cx where
 prog:=P
 w:=w
 K:=K
 mg:=mg
 base:=base
 A:=A.deeper (envOfC qual scope s.heap.objs.size f cd)
 N:=N
 s₀:=s
 H₀:=H
 env:=envOfC qual scope s.heap.objs.size f cd
 outer:=outer
 stack:=envOfC qual scope s.heap.objs.size f cd :: outer
 ex:=[]
 calm:=true
 fn:=fun _=>true
 pn:=[]
 xe:=fun e s'=>wpAny (model P w) (A.deeper (envOfC qual scope s.heap.objs.size f cd)) (leaving (envOfC qual scope s.heap.objs.size f cd) e) (fun _ s''=>CX outer H s E e s'') (fun e' s''=>CX outer H s E e' s'') s'
theorem Xh {sc:Scope}{n:Nat}{x:Str}(h:sc.names.lookup x=some .cell):∃ c,(cellsFrom n sc.names []).lookup x=some c:=by
 have q:=PySem.W.cellsFrom_some sc.names n [] (.inl h)
 exact Option.isSome_iff_exists.mp q
theorem Q7 {CX:CXT}{P:Program}{w:World}{K:W.Frag}{mg:Str->Option Value}{base:Heap}{N ps:List Str}{qual:Str}{scope:Scope}{f:Addr}{cd:Value}{A:Around}{outer:List Env}{s s1:Shared}{H:Hp}{E:XK}{us:List Value}{vs:List V}
  (S:FnScope N ps scope) (hd:A.handled=none) (e0:Env0 P w K mg base A outer s H) (hl:vs.length=ps.length) (r:Vals vs us)
  (x:InCallC s s.heap.objs.size (bindL (envOfC qual scope s.heap.objs.size f cd).kindOf (ps.zip us) fun _=>none) (cellsFrom (s.heap.objs.size+1) scope.names []) (bindC (envOfC qual scope s.heap.objs.size f cd).kindOf (ps.zip us) fun _=>none) s1) :
  Inv (uu CX P w K mg base N qual scope f cd A outer s H E) [] (start N vs) H s1:=by
 have hpl:ps.length≤N.length:=by have:=congrArg List.length S.pre;rw [List.length_take] at this;omega
 obtain⟨h1,tk,rfl,hk⟩:=x.done
 have noA:∀ b:Addr,b ∉ (uu CX P w K mg base N qual scope f cd A outer s H E).ex:=fun b z=>absurd (show b∈([]:List Addr) from z) (by simp)
 refine⟨⟨e0.mod,S.kind,rfl,rfl,Nat.le_refl _,fun y z c h1 h2=>?_,fun y hy=>?_,fun y c _ h=>?_,fun _=>hd,Around.frames_deeper e0.frames,.inr ⟨rfl,rfl⟩,fun b z=>absurd z (noA b),e0.bs,e0.bsz,fun b _ _=>noA b,fun b z=>absurd z (noA b),e0.funs,e0.frf⟩,
  rfl,e0.bare,Un.kept hk,⟨_,x.toInCall.ns,fun i y v h1 h2 h3=>?_⟩,fun y c h=>⟨_,x.cell y c h⟩,e0.hok.fresh (Nat.le_refl _),fun y c h=>?_,fun p hp=>absurd (show p∈([]:List (Addr×Obj)) from hp) (by simp),e0.hok.kept hk,?_⟩
 ·exact name_of_addr x.apart (PySem.mem_of_lookup h1) (PySem.mem_of_lookup h2)
 ·have hy:scope.names.lookup y=some .cell\/scope.names.lookup y=some .free:=hy
  rcases hy with hy |hy
  ·exact Xh hy
  ·exact absurd rfl (S.nofree _ (PySem.mem_of_lookup hy))
 ·exact Nat.le_of_lt (x.above y c (PySem.mem_of_lookup h))
 ·have hi:i < vs.length:=by
   unfold start at h2
   by_cases hi:i < vs.length
   ·exact hi
   ·rw [List.getElem?_append_right (by simpa using hi)] at h2
    rw [List.getElem?_replicate] at h2
    split at h2 <;> cases h2
  have ha:vs[i]? =some v:=by
   unfold start at h2
   rw [List.getElem?_append_left (by simpa using hi),List.getElem?_map] at h2
   cases e:vs[i]? with
   |none=>rw [e] at h2;cases h2
   |some a=>rw [e] at h2;cases h2;rfl
  obtain⟨u,hu,rv⟩:=r.get ha
  have hp:ps[i]? =some y:=by
   rw [<- S.pre,List.getElem?_take_of_lt (by omega)];exact h1
  have ndP:ps.Nodup:=by rw [<- S.pre];exact S.nd.sublist (List.take_sublist _ _)
  refine⟨u,rv,?_⟩
  rcases S.par y (List.mem_of_getElem? hp) with k |k
  ·exact .inl ⟨k,Yq ndP hp hu k⟩
  ·obtain⟨c,e⟩:=Xh (n:=s.heap.objs.size+1) k
   refine .inr ⟨.inl k,c,e,?_⟩
   have q:=x.cell y c e
   rw [Yr ndP hp hu (by show scope.names.lookup y≠_;rw [k];decide)] at q
   exact q
 ·exact e0.hok.fresh (Nat.le_of_lt (x.above y c (PySem.mem_of_lookup h)))
 ·unfold start
  show _=N.length
  rw [List.length_append,List.length_map,List.length_replicate]
  omega
theorem zbq {CX:CXT}{P:Program}{w:World}{K:W.Frag}{mg:Str->Option Value}{base:Heap}{k:Nat}{f:Addr}{name qual:Str}{params:Arguments}{body:List Stmt}{scope:Scope}{dV kV doc pm cdv ct oc:Value}{an od:Option Addr}
    {osl:Array (Option Value)}{N ps:List Str}{sp:Sp}(lk:K.lookup f=some ⟨oc,od,.func (PySem.W.fnOf name qual params body scope dV kV doc pm an cdv ct),osl⟩) (hcd:PySem.W.codeIn K cdv qual=true) (S:FnScope N ps scope)
    (len:∀ vs H Q E,sp vs H Q E->vs.length=ps.length)
    (hbody:∀ (A:Around) (outer:List Env) (s:Shared) (H:Hp) (vs:List V) (Q:VK) (E:XK),Room k (A.deeper (envOfC qual scope s.heap.objs.size f cdv))->sp vs H Q E->
      ∃ t,PSs (uu CX P w K mg base N qual scope f cdv A outer s H E) body t/\t { nx:=fun _ H'=>Q .non H',rt:=Q } (start N vs) H) :
    FnOk P w K mg base CX (k+1) f (PySem.W.fnOf name qual params body scope dV kV doc pm an cdv ct) ps sp:=by
  refine⟨len,fun A outer s H args us vs Q E hr e0 hb r hsp=>?_⟩
  have hl:=len _ _ _ _ hsp
  have KX:K.In s.heap:=e0.mod.kin.keeps fun b o e=>(e0.bs b o e).1
  have lim:s.heap.NoLimit:=e0.mod.nolimit.keeps fun b o e=>(e0.bs b o e).1
  have hkind:∀ y∈ps.zip us,scope.names.lookup y.1=some .local\/(scope.names.lookup y.1=some .cell/\((cellsFrom (s.heap.objs.size+1) scope.names []).lookup y.1).isSome=true):=fun⟨n,v⟩ hy=>by
    rcases S.par n (List.of_mem_zip hy).1 with q |q
    · exact .inl q
    · exact .inr ⟨q,PySem.W.cellsFrom_some _ _ _ (.inl q)⟩
  refine codeAny_call_function hr.depth (KX _ _ lk) rfl S.co S.gen rfl (PySem.W.codeRec_of KX hcd) (hb _ _ _ _ ?_)
  refine wpAny_newFunctionEnv_cells S.kind hkind fun env he s1 x=>?_
  subst he
  refine⟨lim.keeps x.toInCall.keep,codeAny_func ?_⟩
  obtain⟨t,ht,hq⟩:=hbody A outer s H vs Q E (hr.deeper _) hsp
  have I:Inv (uu CX P w K mg base N qual scope f cdv A outer s H E) [] (start N vs) H s1:=Q7 S hr.hd e0 hl r x
  refine wpAny_mono (ht [] s1 (start N vs) H _ I hq) (fun fl s' hs=>?_) fun e s' hs=>hs
  have fin:∀ {σ':St}{H':Hp}{v:V}{u:Value},Inv (uu CX P w K mg base N qual scope f cdv A outer s H E) [] σ' H' s'->RelV v u->Q v H'->CE outer P w H s Q u s':=
    fun {σ' H' v u} J rv q=>⟨v,H',J.os,J.bare,J.base,J.hok,rv,q⟩
  cases fl with
  |ret u=>
    obtain⟨v,σ',H',J,rv,q⟩:=hs
    exact fin J rv q
  |next=>
    obtain⟨σ',H',J,q⟩:=hs
    exact fin (v:=V.non) (u:=Value.none) J rfl q
  |brk=>
    obtain⟨_,_,_,q⟩:=hs
    exact False.elim q
  |cont=>
    obtain⟨_,_,_,q⟩:=hs
    exact False.elim q
section
variable {X:Cx}{x:Str}{p pos:Pos}{e:Expr}{es:List Expr}{t:TA}{id T:String}{r:List V->Hp->VK->Prop}
def tCB (r:List V->Hp->VK->Prop) (t:TA):TE:=fun σ H Q=>t σ H fun vs H1=>r vs H1 Q
theorem zk (hc:y8 X (.builtin id) r) (hg:Gl X x) (hm:X.mg x=none) (hv:bootBuiltins x=some (.builtin id)) (ha:PA X (e :: es) t) (hn:x≠"__name__":=by decide) (hdb:(x == ("__debug__":Str))=false:=by decide)
  (he:starEach (e :: es) X.env=(false,eval e X.env) :: starEach es X.env:=by rfl) (hpl:(backTo pos (starEach es X.env)).any (·.1)=false:=by rfl):PE X (.Call (.Name x p) (e :: es) [] pos) (tCB r t):=by
 intro pins s σ H Q I h
 refine wpAny_Call_Name_kw (vN I hg hm hv ?_ hn hdb)
 exact PyProof.Rows.callWith_builtin1 (thn (ha pos pins s σ H _ I h) fun us s1 ⟨vs,H1,I1,r1,q1⟩=>hc pins s1 σ H1 vs us Q I1 r1 q1) he hpl
theorem y9 (hc:y8 X (.type T) r) (hg:Gl X x) (hm:X.mg x=none) (hv:bootBuiltins x=some (.type T)) (ha:PA X (e :: es) t) (hn:x≠"__name__":=by decide) (hdb:(x == ("__debug__":Str))=false:=by decide)
  (he:starEach (e :: es) X.env=(false,eval e X.env) :: starEach es X.env:=by rfl) (hpl:(backTo pos (starEach es X.env)).any (·.1)=false:=by rfl):PE X (.Call (.Name x p) (e :: es) [] pos) (tCB r t):=by
 intro pins s σ H Q I h
 refine wpAny_Call_Name_kw (vN I hg hm hv ?_ hn hdb)
 exact PyProof.Rows.callWith_type1 (thn (ha pos pins s σ H _ I h) fun us s1 ⟨vs,H1,I1,r1,q1⟩=>hc pins s1 σ H1 vs us Q I1 r1 q1) he hpl
end
end L2
namespace HT
open PySem PyProof.Rows
section
open PySem.SeqAt
open PySem.AutoSeq1 (wpAny_loadPart')
open PySem.MeetsSeq PySem.MeetsSeq2 PySem.MeetsSeq3
end
section
variable {prog:Program}{w:World}{A:Around}{E:Value->Shared->Prop}{s:Shared}
noncomputable def sIx (n d:Nat):Option Int->Nat
 |none=>d
 |some v=>if v < 0 then (v+(n:Int)).toNat else min v.toNat n
theorem sIx_none (n d:Nat):sIx n d none=d:=rfl
theorem sIx_nat (n d k:Nat):sIx n d (some (k:Int))=min k n:=by
 show (if (k:Int) < 0 then ((k:Int)+(n:Int)).toNat else min (k:Int).toNat n)=min k n
 rw [if_neg (by omega),Int.toNat_natCast]
end
end HT
namespace L2
open PySem PySem.Spec PyProof.Rows
abbrev TO:=St->Hp->(Option Int->Hp->Prop)->Prop
def PO (X:Cx) (e:Option Expr) (t:TO):Prop:=
 ∀ (pins:List (Addr×Obj)) (s:Shared) (σ:St) (H:Hp) (Q:Option Int->Hp->Prop),Inv X pins σ H s->t σ H Q->
  wpAny (model X.prog X.w) X.A (evalPart e X.env) (fun u s'=>∃ o H',Inv X pins σ H' s'/\IsPart u o/\Q o H') X.xe s
def VO:TO:=fun _ H Q=>Q none H
def zbr (t:TE):TO:=fun σ H Q=>t σ H fun x H1=>∃ i,x=.int i/\Q (some i) H1
section
variable {X:Cx}{e:Expr}{te:TE}{lo hi:Option Expr}{tl th:TO}{pos p2:Pos}
theorem zW:PO X none VO:=by
 intro pins s σ H Q I h
 rw [evalPart_none]
 exact wpAny_pure ⟨none,H,I,.none,h⟩
theorem zF (h:PE X e te):PO X (some e) (zbr te):=by
 intro pins s σ H Q I hw
 rw [evalPart_some]
 refine thn (h pins s σ H _ I hw) fun u s1 ⟨x,H1,I1,r1,q1⟩=>?_
 obtain⟨i,rfl,q⟩:=q1
 obtain⟨t,rfl⟩:=r1
 exact⟨some i,H1,I1,.int i t,q⟩
def SlR (X:Cx) (r:V->Option Int->Option Int->Hp->VK->Prop):Prop:=
 ∀ (pins:List (Addr×Obj)) (s:Shared) (σ:St) (H:Hp) (x:V) (v vl vu:Value) (lo hi:Option Int) (sl:Addr) (Q:VK),Inv X pins σ H s->RelV x v->s.heap.IsSliceOf sl vl vu .none->IsPart vl lo->IsPart vu hi->r x lo hi H Q->
  ∃ T id,typeLookup (.type T) "__getitem__" =pure (some (.builtin id))/\s.TypeIs v T/\wpAny (model X.prog X.w) X.A (getItem v (.ref sl)) (EP X pins σ Q) X.xe s
def tSl (r:V->Option Int->Option Int->Hp->VK->Prop) (te:TE) (tl th:TO):TE:=fun σ H Q=>te σ H fun x H1=>tl σ H1 fun l H2=>th σ H2 fun u H3=>r x l u H3 Q
theorem zH {r:V->Option Int->Option Int->Hp->VK->Prop}(hr:SlR X r) (he:PE X e te) (hl:PO X lo tl) (hu:PO X hi th):PE X (.Subscript e (.Slice lo hi none p2) pos) (tSl r te tl th):=by
 intro pins s σ H Q I h
 refine Subscript_ (thn (he pins s σ H _ I h) fun v s1 ⟨x,H1,I1,r1,q1⟩=>?_)
 refine wpAny_Slice (thn (hl pins s1 σ H1 _ I1 q1) fun vl s2 ⟨l,H2,I2,pl,q2⟩=>thn (hu pins s2 σ H2 _ I2 q2) fun vu s3 ⟨u,H3,I3,pu,q3⟩=>?_)
 rw [evalPart_none]
 refine wpAny_pure ?_
 have I4:Inv X pins σ H3 { s3 with heap:=s3.heap.push { cls:=.type "slice",data:=.fields #[vl,vu,.none] } }:=I3.kept (t':=s3.toks) fun b ob q=>Heap.get?_push_of_some _ q
 obtain⟨T,id,hT,ht,hg⟩:=hr pins { s3 with heap:=s3.heap.push { cls:=.type "slice",data:=.fields #[vl,vu,.none] } } σ H3 x v vl vu l u s3.heap.objs.size Q I4 r1 (Heap.IsSliceOf.new ..) pl pu q3
 show wpAny (model X.prog X.w) X.A (subscriptTail e (.Slice lo hi none p2) v (.ref s3.heap.objs.size)) (EP X pins σ Q) X.xe { s3 with heap:=s3.heap.push { cls:=.type "slice",data:=.fields #[vl,vu,.none] } }
 exact tail_any (ops:=[.ref s3.heap.objs.size,v]) ht hT hg (by with_unfolding_all rfl)
noncomputable def ZH (xs:List V) (lo hi:Option Int):List V:=(xs.drop (HT.sIx xs.length 0 lo)).take (HT.sIx xs.length xs.length hi - HT.sIx xs.length 0 lo)
theorem Vm (xs:List V) (lo hi:Option Int):(ZH xs lo hi).length≤xs.length:=by
 unfold ZH
 rw [List.length_take,List.length_drop]
 omega
end
noncomputable def ixN (n:Nat) (i:Int):Option Nat:=if 0≤i then (if i < n then some i.toNat else none) else if -(n:Int)≤i then some (i+n).toNat else none
noncomputable def atI {α:Type}(xs:List α) (i:Int):Option α:=(ixN xs.length i).bind fun j=>xs[j]?
theorem zcj {n:Nat}{i:Int}{j:Nat}(h:ixN n i=some j):seqIndex? i n=some j/\j < n/\-(n:Int)≤i/\i < n:=by
 unfold ixN at h
 by_cases h0:0≤i
 ·rw [if_pos h0] at h
  by_cases h1:i < n
  ·rw [if_pos h1] at h
   have e:i.toNat=j:=Option.some.inj h
   exact⟨by rw [seqIndex_of h0 h1,e],by omega,by omega,h1⟩
  ·rw [if_neg h1] at h;cases h
 ·rw [if_neg h0] at h
  by_cases h1:-(n:Int)≤i
  ·rw [if_pos h1] at h
   have e:(i+n).toNat=j:=Option.some.inj h
   exact⟨by rw [seqIndex_neg (by omega) h1,e],by omega,h1,by omega⟩
  ·rw [if_neg h1] at h;cases h
theorem ZI {α:Type}{xs:List α}{i:Int}{v:α}(h:atI xs i=some v):∃ j,seqIndex? i xs.length=some j/\xs[j]? =some v/\j < xs.length/\-(xs.length:Int)≤i/\i < xs.length:=by
 unfold atI at h
 cases e:ixN xs.length i with
 |none=>rw [e] at h;cases h
 |some j=>
  rw [e] at h
  obtain⟨h1,h2,h3,h4⟩:=zcj e
  exact⟨j,h1,h,h2,h3,h4⟩
theorem yn {α:Type}{xs:List α}{j:Nat}{v:α}(h:xs[j]? =some v):atI xs (j:Int)=some v:=by
 have hj:j < xs.length:=(List.getElem?_eq_some_iff.mp h).1
 have e:ixN xs.length (j:Int)=some j:=by
  unfold ixN
  rw [if_pos (by omega),if_pos (by omega)];simp
 unfold atI;rw [e];exact h
def zck (b:Expr):Prop:=∀ o i,subscripted b false o i=operate [o,i] (getItem o i)
def IxR (X:Cx) (r:R2):Prop:=
 ∀ (value slice:Expr) (pins:List (Addr×Obj)) (s:Shared) (σ:St) (H:Hp) (x y:V) (v u:Value) (Q:VK),Inv X pins σ H s->RelV x v->RelV y u->r x y H Q->
  subscripted slice false v u=operate [v,u] (getItem v u)->wpAny (model X.prog X.w) X.A (subscriptTail value slice v u) (EP X pins σ Q) X.xe s
def MtR (X:Cx) (id:String) (r:V->List V->Hp->VK->Prop):Prop:=
 ∀ (pins:List (Addr×Obj)) (s:Shared) (σ:St) (H:Hp) (x:V) (xs:List V) (v:Value) (us:List Value) (Q:VK),Inv X pins σ H s->RelV x v->Vals xs us->r x xs H Q->
  wpAny (model X.prog X.w) X.A (call (.builtin id) (v :: us)) (EP X pins σ Q) X.xe s
section
variable {X:Cx}{a b:Expr}{ta tb:TE}{pos:Pos}
theorem zE {r:R2}(hr:IxR X r) (ha:PE X a ta) (hb:PE X b tb) (hs:zck b):PE X (.Subscript a b pos) (tOp r ta tb):=by
 intro pins s σ H Q I h
 exact Subscript_ (KJ ha hb I h fun v u s2 x y H2 I2 rx ry q=>hr a b pins s2 σ H2 x y v u Q I2 rx ry q (hs _ _))
def Xi (K:W.Frag):R2:=fun x y H Q=>∃ p xs i v,x=.ref p/\y=.int i/\SqL K H p xs/\atI xs i=some v/\Q v H
def KN (K:W.Frag):R2:=fun x y H Q=>∃ p xs i v,x=.ref p/\y=.int i/\SqT K H p xs/\atI xs i=some v/\Q v H
def zdU:R2:=fun x y H Q=>∃ z i c,x=.str z/\y=.int i/\z.length≤sizeLine/\atI z.cps.toList i=some c/\Q (.str ⟨#[c]⟩) H
theorem zcl:IxR X (Xi X.K):=by
 intro value slice pins s σ H x y v u Q I rx ry h hs
 obtain⟨p,xs,i,z,rfl,rfl,hq,he,q⟩:=h
 cases rx
 obtain⟨t,rfl⟩:=ry
 obtain⟨its,r,pl,hz⟩:=I.list hq
 obtain⟨j,h1,h2,h3,h4,h5⟩:=ZI he
 obtain⟨w,ew,rw'⟩:=r.get h2
 have hl:=r.length
 have hn:=qg
 have fin:EP X pins σ Q w s:=⟨z,H,I,rw',q⟩
 by_cases h0:0≤i
 ·have hj:i.toNat=j:=by
   rw [seqIndex_of h0 h5] at h1
   exact Option.some.inj h1
  exact item_listR pl.isList h0 (by omega) (by rw [hj];simpa using ew) fin hs
 ·have hj:(i+(its.toArray.size:Int)).toNat=j:=by
   rw [seqIndex_neg (by omega) h4] at h1
   rw [List.size_toArray,<- hl]
   exact Option.some.inj h1
  exact subscriptTail_builtinR (x:=w) pl.isList.typeIs slot_list_getitem.lookup
   (wpAny_getItem_list_neg (Q:=fun r s'=>r=w/\EP X pins σ Q r s') pl.isList (by omega) (by rw [List.size_toArray] <;> omega) (by omega) (by rw [hj];simpa using ew) ⟨rfl,fin⟩) hs
theorem zdV:IxR X (KN X.K):=by
 intro value slice pins s σ H x y v u Q I rx ry h hs
 obtain⟨p,xs,i,z,rfl,rfl,hq,he,q⟩:=h
 cases rx
 obtain⟨t,rfl⟩:=ry
 obtain⟨its,r,pl,hz⟩:=I.tuple hq
 obtain⟨j,h1,h2,h3,h4,h5⟩:=ZI he
 obtain⟨w,ew,rw'⟩:=r.get h2
 have hl:=r.length
 have hn:=qg
 have fin:EP X pins σ Q w s:=⟨z,H,I,rw',q⟩
 exact subscriptTail_builtinR (x:=w) pl.typeIs slot_tuple_getitem.lookup
  (getItem_tuple (j:=j) (Q:=fun r s'=>r=w/\EP X pins σ Q r s') pl (by omega) (by omega) (by rw [List.size_toArray,<- hl];exact h1) (by simpa using ew) ⟨rfl,fin⟩) hs
theorem Xj:IxR X zdU:=by
  intro value slice pins s σ H x y v u Q I rx ry h hs
  obtain⟨z,i,c,rfl,rfl,hz,he,q⟩:=h
  obtain⟨t,rfl⟩:=rx
  obtain⟨t',rfl⟩:=ry
  obtain⟨j,h1,h2,h3,h4,h5⟩:=ZI he
  have hl:z.cps.toList.length=z.length:=by simp [Str.length]
  rw [hl] at h1 h4 h5
  have hn:=qg
  exact tail_any (typeIs_str s z t) slot_str_getitem.lookup (getItem_str (c:=c) (by
    have e1:decide (i < -(2 ^ 63:Int))=false:=decide_eq_false (by omega)
    have e2:decide (i ≥ 2 ^ 63)=false:=decide_eq_false (by omega)
    rw [e1,e2,Bool.or_false]) (by rw [h1];simpa using h2) ⟨.str ⟨#[c]⟩,H,I.tok _,⟨_,rfl⟩,q⟩) hs
theorem Xk (lo hi:Option Int) (n:Nat):(sliceBounds lo hi none n).1 =((HT.sIx n 0 lo:Nat):Int)/\(sliceBounds lo hi none n).2.1 =((HT.sIx n n hi:Nat):Int)/\(sliceBounds lo hi none n).2.2 = 1:=by
 refine⟨?_,?_,rfl⟩
 ·cases lo with
  |none=>simp [sliceBounds,HT.sIx]
  |some i=>
   simp only [sliceBounds,HT.sIx,Option.getD_none,show (1:Int) > 0 by decide,if_true]
   by_cases h:i < 0
   ·simp only [h,if_true] <;> omega
   ·simp only [h,if_false] <;> omega
 ·cases hi with
  |none=>simp [sliceBounds,HT.sIx]
  |some i=>
   simp only [sliceBounds,HT.sIx,Option.getD_none,show (1:Int) > 0 by decide,if_true]
   by_cases h:i < 0
   ·simp only [h,if_true] <;> omega
   ·simp only [h,if_false] <;> omega
theorem YS (its:List Value) (lo hi:Option Int):slicePick its.toArray lo hi none=((its.drop (HT.sIx its.length 0 lo)).take (HT.sIx its.length its.length hi - HT.sIx its.length 0 lo)).toArray:=by
 obtain⟨h1,h2,h3⟩:=Xk lo hi its.toArray.size
 unfold slicePick
 rw [h1,h2,h3]
 simp only [sliceRange_one,pick_run,List.size_toArray] <;> rfl
def KO (K:W.Frag):V->Option Int->Option Int->Hp->VK->Prop:=fun x lo hi H Q=>∃ a xs,x=.ref a/\SqL K H a xs/\∀ p,H p=none->Q (.ref p) (upd H p (.lst (ZH xs lo hi)))
theorem zcm:SlR X (KO X.K):=by
 intro pins s σ H x v vl vu lo hi sl Q I rx hs pl pu h
 obtain⟨a,xs,rfl,hx,q⟩:=h
 cases rx
 obtain⟨its,r,ht,hz⟩:=I.list hx
 have hlen:=r.length
 refine⟨"list",_,slot_list_getitem.lookup,ht.isList.typeIs,?_⟩
 refine wpAny_getItem_list_slice ht.isList hs pl pu .none (by simp) ?_ (by rw [List.size_toArray] <;> omega)
 rw [YS,<- hlen]
 refine⟨.ref s.heap.objs.size,_,I.laid (t':=s.toks) (o:=.lst (ZH xs lo hi)) (fun b ob q=>Heap.get?_push_of_some _ q) (Nat.le_refl _) ?_,rfl,q _ (I.hok.fresh (Nat.le_refl _))⟩
 exact⟨Nat.le_trans (Vm xs lo hi) hz,_,0,(r.drop (HT.sIx xs.length 0 lo)).take (HT.sIx xs.length xs.length hi - HT.sIx xs.length 0 lo),Heap.get?_push_size _ rfl⟩
noncomputable def v7:V->Bool
 |.non=>true
 |.bl _=>true
 |.int _=>true
 |.str _=>true
 |_=>false
noncomputable def eqV:V->V->Bool
 |.non,.non=>true
 |.bl a,.bl b=>a == b
 |.bl a,.int b=>(if a then 1 else 0) == b
 |.int a,.bl b=>a == (if b then 1 else 0)
 |.int a,.int b=>a == b
 |.str a,.str b=>a == b
 |_,_=>false
theorem zdW {A:Around}{s:Shared}{y x:V}{u v:Value}(ry:RelV y u) (rx:RelV x v) (fy:v7 y=true) (fx:v7 x=true):SeqAt.EqAt A s u v (eqV y x):=by
 cases y with
 |non=>
  cases ry
  cases x with
  |non=>cases rx;exact SeqAt.EqAt.same _
  |bl b=>cases rx;exact SeqAt.EqAt.none_bool b
  |int b=>obtain⟨t,rfl⟩:=rx;exact SeqAt.EqAt.none_int b t
  |str b=>obtain⟨t,rfl⟩:=rx;exact SeqAt.EqAt.none_str b t
  |_=>exact absurd (show false=true from fx) Bool.false_ne_true
 |bl a=>
  cases ry
  cases x with
  |non=>cases rx;exact SeqAt.EqAt.bool_none a
  |bl b=>cases rx;exact SeqAt.EqAt.bool_bool a b
  |int b=>obtain⟨t,rfl⟩:=rx;exact SeqAt.EqAt.bool_int a b t
  |str b=>obtain⟨t,rfl⟩:=rx;exact SeqAt.EqAt.bool_str a b t
  |_=>exact absurd (show false=true from fx) Bool.false_ne_true
 |int a=>
  obtain⟨t',rfl⟩:=ry
  cases x with
  |non=>cases rx;exact SeqAt.EqAt.int_none a t'
  |bl b=>cases rx;exact SeqAt.EqAt.int_bool a t' b
  |int b=>obtain⟨t,rfl⟩:=rx;exact SeqAt.EqAt.int_int a t' b t
  |str b=>obtain⟨t,rfl⟩:=rx;exact SeqAt.EqAt.int_str a t' b t
  |_=>exact absurd (show false=true from fx) Bool.false_ne_true
 |str a=>
  obtain⟨t',rfl⟩:=ry
  cases x with
  |non=>cases rx;exact SeqAt.EqAt.str_none a t'
  |bl b=>cases rx;exact SeqAt.EqAt.str_bool a t' b
  |int b=>obtain⟨t,rfl⟩:=rx;exact SeqAt.EqAt.str_int a t' b t
  |str b=>obtain⟨t,rfl⟩:=rx;exact SeqAt.EqAt.str_str a t' b t
  |_=>exact absurd (show false=true from fx) Bool.false_ne_true
 |_=>exact absurd (show false=true from fy) Bool.false_ne_true
noncomputable def eqU (x:V) (u:Value):Bool:=match u with
 |.none=>eqV .non x
 |.bool b=>eqV (.bl b) x
 |.int i _=>eqV (.int i) x
 |.str z _=>eqV (.str z) x
 |_=>false
theorem Q8 {x y:V}{u:Value}(r:RelV y u) (f:v7 y=true):eqU x u=eqV y x:=by
 cases y with
 |non=>cases r;rfl
 |bl b=>cases r;rfl
 |int i=>obtain⟨t,rfl⟩:=r;rfl
 |str z=>obtain⟨t,rfl⟩:=r;rfl
 |_=>exact absurd (show false=true from f) Bool.false_ne_true
theorem qi {x:V}:∀ {xs:List V}{us:List Value},Vals xs us->xs.all v7=true->us.any (eqU x)=xs.any fun y=>eqV y x
 |_,_,.nil,_=>rfl
 |y :: xs,u :: us,.cons r t,f=>by
  rw [List.all_cons,Bool.and_eq_true] at f
  rw [List.any_cons,List.any_cons,Q8 r f.1,qi t f.2]
theorem uv {A:Around}{s:Shared}{x:V}{v:Value}(rx:RelV x v) (fx:v7 x=true):∀ {xs:List V}{us:List Value},Vals xs us->xs.all v7=true->∀ u∈us,SeqAt.EqAt A s u v (eqU x u)
 |_,_,.nil,_=>fun u hu=>by cases hu
 |y :: xs,u :: us,.cons r t,f=>fun u' hu=>by
  rw [List.all_cons,Bool.and_eq_true] at f
  rcases List.mem_cons.mp hu with rfl |hu
  ·rw [Q8 r f.1];exact zdW r rx f.1 fx
  ·exact uv rx fx t f.2 u' hu
noncomputable def inV (x:V) (xs:List V):Bool:=xs.any fun y=>eqV y x
def rIn (K:W.Frag) (neg:Bool):R2:=fun x y H Q=>∃ p xs,y=.ref p/\(SqL K H p xs\/SqT K H p xs)/\v7 x=true/\xs.all v7=true/\Q (.bl (if neg then !inV x xs else inV x xs)) H
theorem Q9:OpR X (compareOp .In) (rIn X.K false):=by
 intro pins s σ H x y v u Q I rx ry h
 obtain⟨p,xs,rfl,hq,fx,fs,q⟩:=h
 cases ry
 rcases hq with hq |hq
 ·obtain⟨its,r,pl,hz⟩:=I.list hq
  refine SeqAt.in_listAt (eqU x) pl.isList (fun w hw=>uv rx fx r fs w (by simpa using hw)) ⟨.bl _,H,I,rfl,?_⟩
  rw [show its.toArray.any (eqU x)=its.any (eqU x) by simp,qi r fs]
  exact q
 ·obtain⟨its,r,pl,hz⟩:=I.tuple hq
  refine SeqAt.in_tupleAt (eqU x) pl (fun w hw=>uv rx fx r fs w (by simpa using hw)) ⟨.bl _,H,I,rfl,?_⟩
  rw [show its.toArray.any (eqU x)=its.any (eqU x) by simp,qi r fs]
  exact q
theorem jb:OpR X (compareOp .NotIn) (rIn X.K true):=by
 intro pins s σ H x y v u Q I rx ry h
 obtain⟨p,xs,rfl,hq,fx,fs,q⟩:=h
 cases ry
 rcases hq with hq |hq
 ·obtain⟨its,r,pl,hz⟩:=I.list hq
  refine SeqAt.notIn_listAt (eqU x) pl.isList (fun w hw=>uv rx fx r fs w (by simpa using hw)) ⟨.bl _,H,I,rfl,?_⟩
  rw [show its.toArray.any (eqU x)=its.any (eqU x) by simp,qi r fs]
  exact q
 ·obtain⟨its,r,pl,hz⟩:=I.tuple hq
  refine SeqAt.notIn_tupleAt (eqU x) pl (fun w hw=>uv rx fx r fs w (by simpa using hw)) ⟨.bl _,H,I,rfl,?_⟩
  rw [show its.toArray.any (eqU x)=its.any (eqU x) by simp,qi r fs]
  exact q
theorem Xl:y8 X (.builtin "len") (fun xs H Q=>∃ p ys,xs=[.ref p]/\(SqL X.K H p ys\/SqT X.K H p ys)/\Q (.int ys.length) H):=by
 intro pins s σ H xs us Q I r h
 obtain⟨p,ys,rfl,hq,q⟩:=h
 obtain⟨u,rfl,rx⟩:=vC r
 cases rx
 have hn:=qg
 rcases hq with hq |hq
 ·obtain⟨its,r',pl,hz⟩:=I.list hq
  have hlen:=r'.length
  exact Calls.call_len_list pl.isList (by simp only [List.size_toArray] <;> omega) ⟨.int ys.length,H,I.tok _,⟨s.toks+1,by rw [List.size_toArray,hlen]⟩,q⟩
 ·obtain⟨its,r',pl,hz⟩:=I.tuple hq
  have hlen:=r'.length
  exact len_tuple pl (by simp only [List.size_toArray] <;> omega) ⟨.int ys.length,H,I.tok _,⟨s.toks+1,by rw [List.size_toArray,hlen]⟩,q⟩
theorem xj:y8 X (.builtin "len") (fun xs H Q=>∃ z,xs=[.str z]/\z.length≤sizeLine/\Q (.int z.length) H):=by
 intro pins s σ H xs us Q I r h
 obtain⟨z,rfl,hz,q⟩:=h
 obtain⟨u,rfl,t,rfl⟩:=vC r
 have hn:=qg
 exact len_str (by omega) ⟨.int z.length,H,I.tok _,⟨_,rfl⟩,q⟩
def tyV (K:W.Frag) (T:String) (x:V) (H:Hp):Prop:=match x with
 |.str _=>T= "str"
 |.int _=>T= "int"
 |.ref p=>(T= "list"/\∃ xs,SqL K H p xs)\/(T= "tuple"/\∃ o,K.lookup p=some o/\o.cls=.type "tuple"/\o.dict=none)\/
   (T= "dict"/\((∃ kvs,H p=some (.dK kvs))\/∃ kvs,H p=some (.dT kvs)))\/(T= "set"/\∃ S n,H p=some (.set S n))
 |_=>False
theorem zdX {pins:List (Addr×Obj)}{σ:St}{H:Hp}{s:Shared}{T:String}{x:V}{v:Value}(I:Inv X pins σ H s) (r:RelV x v) (ty:tyV X.K T x H) :
  s.TypeIs v T/\∀ a,v=.ref a->∃ ob,s.heap.get? a=some ob/\ob.dict=none:=by
 cases x with
 |str z=>
  obtain⟨t,rfl⟩:=r
  cases (show T= "str" from ty)
  exact⟨typeIs_str s z t,fun _ e=>nomatch e⟩
 |int i=>
  obtain⟨t,rfl⟩:=r
  cases (show T= "int" from ty)
  exact⟨typeIs_int s i t,fun _ e=>nomatch e⟩
 |ref p=>
  cases r
  rcases ty with⟨rfl,xs,hq⟩ | ⟨rfl,o,hk,hc,hd⟩ | ⟨rfl,hk⟩ | ⟨rfl,S,n,hk⟩
  ·obtain⟨its,_,pl,_⟩:=I.list hq
   refine⟨pl.isList.typeIs,fun a e=>?_⟩
   cases e
   obtain⟨o,n,e,c,hd,_⟩:=pl
   exact⟨o,e,hd⟩
  ·refine⟨⟨o,I.kIn p o hk,hc⟩,fun a e=>?_⟩
   cases e
   exact⟨o,I.kIn _ o hk,hd⟩
  ·have z:∃ o,s.heap.get? p=some o/\o.ExactDict:=by
    rcases hk with⟨kvs,hk⟩ | ⟨kvs,hk⟩
    ·obtain⟨_,_,_,_,o,_,_,e,ex,_⟩:=I.hok p _ hk
     exact⟨o,e,ex⟩
    ·obtain⟨_,_,_,_,o,_,_,e,ex,_⟩:=I.hok p _ hk
     exact⟨o,e,ex⟩
   obtain⟨o,e,ex⟩:=z
   refine⟨⟨o,e,ex.1⟩,fun a e2=>?_⟩
   cases e2
   exact⟨o,e,ex.2.1⟩
  ·obtain⟨o,_,_,_,e,ex,_⟩:=I.hok p _ hk
   refine⟨⟨o,e,ex.1⟩,fun a e2=>?_⟩
   cases e2
   exact⟨o,e,ex.2.1⟩
 |_=>exact False.elim ty
def tBM (K:W.Frag) (T:String) (r:V->List V->Hp->VK->Prop) (to:TE) (t:TA):TE:=fun σ H Q=>to σ H fun x H1=>tyV K T x H1/\t σ H1 fun xs H2=>r x xs H2 Q
variable {o e:Expr}{es:List Expr}{to:TE}{t:TA}{name:Str}{apos cpos:Pos}{T id:String}{r:V->List V->Hp->VK->Prop}
theorem UV (pa:PlainAttrs T) (slot:Slot T name id) (hty:typeOf (.builtin id)=pure (.type "method_descriptor")) (hm:MtR X id r) (ho:PE X o to) (ha:PA X (e :: es) t)
    (hbase:attributeBase o name X.env (eval o X.env)=eval o X.env:=by rfl)
    (hfew:((backTo cpos (starEach (e :: es) X.env)).all (fun x=>!x.1) && (backToKw cpos (keywordEach [] X.env)).all (fun x=>x.1.isSome)
      && decide ((e :: es).length+([]:List Keyword).length+(if ([]:List Keyword).isEmpty then 0 else 1) < 30))=true:=by rfl)
    (hline:(apos.endLine == cpos.line)=true:=by rfl) (hs:starEach (e :: es) X.env=(false,eval e X.env) :: starEach es X.env:=by rfl) (hplain:(backTo cpos (starEach es X.env)).any (·.1)=false:=by rfl) :
    PE X (.Call (.Attribute o name apos) (e :: es) [] cpos) (tBM X.K T r to t):=by
  intro pins s σ H Q I h
  refine wpAny_Call_method_late hbase hfew hline rfl (thn (ho pins s σ H _ I h) fun v s1 ⟨x,H1,I1,r1,ty,q1⟩=>?_)
  obtain⟨h1,h2⟩:=zdX I1 r1 ty
  refine⟨T,id,pa,slot,hty,h1,h2,?_⟩
  have hA:=ha cpos pins s1 σ H1 _ I1 q1
  rw [hs] at hA ⊢
  refine Calls.callWith_builtin (by show (false || (backTo cpos (starEach es X.env)).any (·.1))=false;rw [hplain] <;> rfl) (Calls.evalArgs_plain ?_)
  exact thn hA fun us s2 ⟨vs,H2,I2,r2,q2⟩=>hm pins s2 σ H2 x vs v us Q I2 r1 r2 q2
end
def MtM (X:Cx) (id:String) (r:V->List V->Hp->VK->Prop):Prop:=
 ∀ (pins:List (Addr×Obj)) (s:Shared) (σ:St) (H:Hp) (x:V) (xs:List V) (v:Value) (us:List Value) (Q:VK),Inv X pins σ H s->RelV x v->Vals xs us->r x xs H Q->
  wpAny (model X.prog X.w) X.A (call (.builtin id) (v :: us)) (EP X pins σ Q) X.xe s
theorem Vals.one:∀ {x:V}{us:List Value},Vals [x] us->∃ u,us=[u]/\RelV x u
 |_,_,.cons r .nil=>⟨_,rfl,r⟩
theorem Vals.two:∀ {x y:V}{us:List Value},Vals [x,y] us->∃ u v,us=[u,v]/\RelV x u/\RelV y v
 |_,_,_,.cons r (.cons q .nil)=>⟨_,_,rfl,r,q⟩
theorem Vals.reverse {xs:List V}{us:List Value}(h:Vals xs us):Vals xs.reverse us.reverse:=by
 induction h with
 |nil=>exact .nil
 |cons r t ih=>rw [List.reverse_cons,List.reverse_cons];exact Vals.append ih (.cons r .nil)
theorem Vals.rep {xs:List V}{us:List Value}(h:Vals xs us):∀ k:Nat,Vals (List.replicate k xs).flatten (List.replicate k us).flatten
 | 0=>.nil
 |k+1=>by
  rw [List.replicate_succ,List.replicate_succ,List.flatten_cons,List.flatten_cons]
  exact Vals.append h (Vals.rep h k)
theorem jc (its:List Value):∀ (k:Nat) (acc:List Value),
  List.foldl (fun x1 x2=>x1 ++ x2) acc.toArray (List.replicate k its.toArray)=(acc ++ (List.replicate k its).flatten).toArray
 | 0,acc=>by simp
 |k+1,acc=>by
  have e:acc.toArray ++ its.toArray=(acc ++ its).toArray:=by simp
  have e2:(acc ++ its) ++ (List.replicate k its).flatten=acc ++ (List.replicate (k+1) its).flatten:=by
   rw [List.replicate_succ,List.flatten_cons,List.append_assoc]
  rw [<- e2,<- jc its k (acc ++ its),<- e,List.replicate_succ,List.foldl_cons]
section
variable {X:Cx}{pins:List (Addr×Obj)}{σ:St}{H:Hp}{s:Shared}{l b:Addr}{xs ys zs:List V}
theorem Inv.lset {its its':List Value}{n:Nat}{f:Array Value->Array Value}{t':Nat}(I:Inv X pins σ H s) (hH:H l=some (.lst xs))
  (e:s.heap.get? l=some { cls:=.type "list",data:=.seq its.toArray n }) (hf:f its.toArray=its'.toArray) (hv:Vals ys its') (hz:ys.length≤sizeLine) :
  Inv X pins σ (upd H l (.lst ys)) { s with heap:=s.heap.update l (Obj.mapSeq f),toks:=t' }:=by
 have q:=PySem.IsL.update e f
 rw [hf] at q
 refine I.write (x:=l) (e:=l) (by rw [hH];exact trivial) (.inl rfl) (fun b' u hb hu=>(Heap.get?_update_other s.heap (Obj.mapSeq f) (Ne.symm hb)).trans hu) ⟨_,q⟩ ?_
 exact⟨hz,its',_,hv,q⟩
theorem Inv.lnew {its:List Value}{t':Nat}(I:Inv X pins σ H s) (hv:Vals ys its) (hz:ys.length≤sizeLine) :
  Inv X pins σ (upd H s.heap.objs.size (.lst ys)) { s with heap:=s.heap.push { cls:=.type "list",data:=.seq its.toArray },toks:=t' }:=
 I.laid (fun _ _ q=>Heap.get?_push_of_some _ q) (Nat.le_refl _) ⟨hz,its,0,hv,Heap.get?_push_size _ rfl⟩
theorem Inv.fresh (I:Inv X pins σ H s):H s.heap.objs.size=none:=I.hok.fresh (Nat.le_refl _)
theorem Inv.lstM (I:Inv X pins σ H s) (hH:H l=some (.lst xs)):xs.length≤sizeLine/\∃ (its:List Value) (n:Nat),Vals xs its/\xs.length=its.length/\s.heap.get? l=some { cls:=.type "list",data:=.seq its.toArray n }:=by
 obtain⟨z,its,n,r,e⟩:=I.hok l _ hH
 exact⟨z,its,n,r,r.length,e⟩
theorem kj {n:Nat}(h:n≤sizeLine):Builtin.List.listTooLong n=false:=by
 unfold Builtin.List.listTooLong
 exact decide_eq_false (by omega)
end
section
variable {X:Cx}
def jL:V->List V->Hp->VK->Prop:=fun x vs H Q=>∃ l xs y,x=.ref l/\vs=[y]/\H l=some (.lst xs)/\xs.length < sizeLine/\Q .non (upd H l (.lst (xs ++ [y])))
theorem yL:MtM X "list.append" jL:=by
 intro pins s σ H x vs v us Q I rx rv h
 obtain⟨l,xs,y,rfl,rfl,hH,hz,q⟩:=h
 cases rx
 obtain⟨u,rfl,ru⟩:=rv.one
 obtain⟨z,its,n,r,hl,e⟩:=I.lstM hH
 refine call_meets F.slot_list_append ⟨_,e,rfl⟩ F.entry_list_append (F.args_list_append_2 _ _) (PySem.list_append l its.toArray n u (by rw [List.size_toArray];omega)) ⟨e,?_⟩
 refine⟨.non,_,I.lset (its':=its ++ [u]) hH e (by simp) (r.append (.cons ru .nil)) ?_,rfl,q⟩
 rw [List.length_append,List.length_singleton]
 omega
def VP:V->List V->Hp->VK->Prop:=fun x vs H Q=>∃ l b xs zs,x=.ref l/\vs=[.ref b]/\H l=some (.lst xs)/\H b=some (.lst zs)/\xs.length+zs.length≤sizeLine/\Q .non (upd H l (.lst (xs ++ zs)))
theorem Ja:MtM X "list.extend" VP:=by
 intro pins s σ H x vs v us Q I rx rv h
 obtain⟨l,b,xs,zs,rfl,rfl,hH,hB,hz,q⟩:=h
 cases rx
 obtain⟨u,rfl,ru⟩:=rv.one
 cases ru
 obtain⟨z,its,n,r,hl,e⟩:=I.lstM hH
 obtain⟨z2,its2,n2,r2,hl2,e2⟩:=I.lstM hB
 have hsz:its.toArray.size+its2.toArray.size≤sizeLine:=by rw [List.size_toArray,List.size_toArray];omega
 have hlong:¬ (!its.toArray.isEmpty && Builtin.List.listTooLong (its.toArray.size+its2.toArray.size))=true:=by
  rw [kj hsz,Bool.and_false]
  exact Bool.false_ne_true
 refine call_meets F.slot_list_extend ⟨_,e,rfl⟩ F.entry_list_extend (F.args_list_extend_2 _ _)
  (AutoSeq1.list_extend_list_list_0 l its.toArray n b its2.toArray n2 hlong (by rw [List.size_toArray];omega) (by omega)) ⟨e,e2,?_⟩
 refine⟨.non,_,I.lset (its':=its ++ its2) hH e (by simp) (r.append r2) ?_,rfl,q⟩
 rw [List.length_append]
 omega
def zdY:R2:=fun x y H Q=>∃ l k xs,x=.ref l/\y=.int k/\H l=some (.lst xs)/\-(2 ^ 63)≤k/\k < 2 ^ 63/\xs.length*k.toNat≤sizeLine/\
 ∀ p,H p=none->Q (.ref p) (upd H p (.lst (List.replicate k.toNat xs).flatten))
theorem VQ {α:Type}(xs:List α) (k:Nat):(List.replicate k xs).flatten.length=k*xs.length:=by
 induction k with
 |zero=>simp
 |succ k ih=>rw [List.replicate_succ,List.flatten_cons,List.length_append,ih,Nat.succ_mul,Nat.add_comm]
theorem zdZ:OpR X (binaryOp .Mult) zdY:=by
  intro pins s σ H x y v u Q I rx ry h
  obtain⟨l,k,xs,rfl,rfl,hH,h1,h2,hz,q⟩:=h
  cases rx
  obtain⟨t,rfl⟩:=ry
  obtain⟨z,its,n,r,hl,e⟩:=I.lstM hH
  have hlen:its.toArray.size*k.toNat≤sizeLine:=by rw [List.size_toArray,<- hl];exact hz
  have hcap:¬ its.toArray.size*k.toNat > (2 ^ 63 - 1) / 8:=by
    have:(sizeLine:Nat)≤(2 ^ 63 - 1) / 8:=by decide
    omega
  have hfit:¬ (!Builtin.List.listFitsIndex k)=true:=by
    rw [fitsIndex_both h1 h2]
    exact Bool.false_ne_true
  have hlong:¬ Builtin.List.listTooLong (its.toArray.size*k.toNat)=true:=by
    rw [kj hlen]
    exact Bool.false_ne_true
  have hnew:List.foldl (fun x1 x2=>x1 ++ x2) #[] (List.replicate (if its.toArray.isEmpty=true then 0 else k.toNat) its.toArray)=(List.replicate k.toNat its).flatten.toArray:=by
    have f0:∀ m:Nat,List.foldl (fun x1 x2=>x1 ++ x2) #[] (List.replicate m its.toArray)=(List.replicate m its).flatten.toArray:=fun m=>by
      have:=jc its m []
      rw [List.nil_append] at this
      exact this
    rw [f0]
    cases its with
    |nil=>simp
    |cons a r'=>rw [if_neg (by simp)]
  refine wpAny_binaryOp_repeat_ref (T:="list") (U:="int") (by decide) ⟨_,e,rfl⟩ (fun s'=>typeIs_int s' k t) noFill_list_mul F.fills_int_mul F.slot_int_rmul repeat_list F.slot_int_index.lookup
    (call_meets F.slot_int_rmul (typeIs_int s k t) F.entry_int_rmul (F.args_int_rmul_2 _ _) (int___rmul___int_list k t l its.toArray n)
      ⟨e,rfl,⟨_,e,rfl⟩,call_meets F.slot_list_mul ⟨_,e,rfl⟩ F.entry_list_mul (F.args_list_mul_2 _ _) (AutoListH.list___mul___list_int_3 l its.toArray n k t hfit hcap hlong) ⟨e,?_⟩⟩)
  rw [hnew]
  exact⟨.ref _,_,I.lnew (t':=s.toks) (r.rep k.toNat) (by rw [VQ,Nat.mul_comm];exact hz),rfl,q _ I.fresh⟩
end
section
variable {prog:Program}{w:World}{A:Around}{E:Value->Shared->Prop}{s:Shared}
end
section
variable {X:Cx}
end
end L2
namespace Att
open PySem PySem.W PySem.Calls PyProof.Rows
theorem kS {P:Params}{h:Heap}:∀ (ns:List Int) (vs:List Value),WellAll P h vs (ns.map WData.int)->IntsAre vs ns:=by
 intro ns
 induction ns with
 |nil=>
  intro vs w
  rw [List.map_nil] at w
  cases w
  exact .nil
 |cons n ns ih=>
  intro vs w
  rw [List.map_cons] at w
  cases w with
  |cons a b=>
   cases a
   exact .cons _ _ (ih _ b)
theorem Jb {l:OpenLaw}{n:Nat}(hn:l.most=some n) {P:Params}{h:Heap}{args:List WData}{vals:List Value}
  (hpre:l.row.toRowW.claim.pre args=true) (hwl:WellAll P h vals args) :
  ∃ a vs ns,vals=[Value.ref a]/\args=[WData.list (ns.map WData.int)]/\h.get? a=some { cls:=.type "list",data:=.seq vs.toArray }/\IntsAre vs ns/\ns.length≤n:=by
 have hsh:WShape.hasAll [] args [.list .int]=true:=(pre_splitW hpre).1
 have hc:l.pre.holds [] { args:=args } =true:=(pre_splitW hpre).2
 obtain⟨d,r,rfl,h1,h2⟩:=hasAllW_cons hsh
 obtain rfl:=hasAllW_nil h2
 obtain⟨xs,rfl,h3⟩:=hasW_list h1
 obtain⟨ns,rfl⟩:=items_int h3
 have hlen:ns.length≤n:=by
  unfold OpenLaw.pre at hc
  have h4:(WTm.not (.lt (.lit (.int (n:Int))) (.len (.arg 0)))).holds [] { args:=[.list (ns.map .int)] } =true:=by
   have h4:=(holds_andW hc).1
   rw [hn] at h4
   exact h4
  have h5:=condW_of h4 (w_not (w_lt w_lit (w_len_list (w_arg rfl))))
  rw [List.length_map] at h5
  refine Nat.le_of_not_lt fun q=>?_
  have q':(n:Int) < ((ns.length:Nat):Int):=by omega
  first
   | (rw [decide_eq_true q'] at h5;exact absurd h5 (by decide))
   | (simp at h5;omega)
 cases hwl with
 |cons w1 w2=>
  cases w2
  cases w1 with
  |list ho hall=>exact⟨_,_,ns,rfl,rfl,ho,kS ns _ hall,hlen⟩
theorem Jc (l:OpenLaw) (args:List WData):l.row.toRowW.claim.post args (.bool true) args=true:=
 postW_of (r:=l.row.toRowW) (X:=(true == true))
  (show WShape.has [] (.bool true) .bool=true by first |rfl |decide |simp [WShape.has,WShape.arms,WShape.armsAll])
  (show (WTm.eq .res (.lit (.bool true))).value [] { args:=args,res:=some (.bool true),after:=args } =some (.bool (true == true)) from w_eq_bool (w_res rfl) w_lit) rfl
section
variable {prog:Program}{w:World}{A:Around}{E:Value->Shared->Prop}{s:Shared}{K:Frag}
noncomputable def zgl (h:Heap) (L d:Addr):List (Addr×Obj):=(List.range h.objs.size).filterMap fun a=>if a=L\/a=d then none else (h.get? a).map fun o=>(a,o)
end
end Att
namespace L2
open PySem PySem.Spec PyProof.Rows
theorem Ys:∀ {vs:List Value}{ns:List Int},IntsAre vs ns->Vals (ns.map V.int) vs
 |_,_,.nil=>.nil
 |_,_,.cons n t h=>.cons ⟨t,rfl⟩ (Ys h)
def zd0 (H:Hp):Prop:=∀ b,H b=none\/∃ o xs,H b=some (.frz o (.lst xs))
theorem KQ {P:Program}{w:World}{K:W.Frag}{mg mb:Str->Option Value}{CX:CXT}{k:Nat}{fa a:Addr}{fd:FuncData}{x:Str}{sp:Sp}{s₁:Shared}{vs:List Value}{ns:List Int}
    (KX:K.In s₁.heap) (hns:s₁.heap.Ns mainGlobals mg) (hb:s₁.heap.Ns builtinsNs mb) (hbb:∀ x:Str,x≠"__name__"->mb x=bootBuiltins x) (hlim:s₁.heap.NoLimit) (hg:s₁.gens= #[])
    (ha:s₁.heap.get? a=some { cls:=.type "list",data:=.seq vs.toArray }) (hi:IntsAre vs ns) (hl:ns.length≤sizeLine) (hr:Room k callerA)
    (F:∀ base:Heap,K.In base->base.Ns mainGlobals mg->FnOk P w K mg base CX k fa fd [x] sp) (hbind:∀ (s:Shared) (u:Value),BindsTo s fd ⟨[u],[]⟩ [(x,u)])
    (hsp:∀ H:Hp,zd0 H->SqL K H a (ns.map V.int)->sp [.ref a] H (fun v _=>v=.bl true) fun _ _ _=>False)
    (hCX:∀ H e s',CX [] H s₁ (fun _ _ _=>False) e s'->False) :
    codeAny (model P w) callerA (.call (.ref fa) ⟨[.ref a],[]⟩) (fun r s'=>r=.ok (.ret (.bool true))/\OldK s₁.heap s'.heap/\s'.os=s₁.os/\AllBare s'.gens) s₁:=by
  have rv:=Ys hi
  have lenV:=hi.length
  have core:∀ H:Hp,zd0 H->SqL K H a (ns.map V.int)->HOk P w H s₁.heap->(∀ b,H b≠none->b=a)->(H a≠none->K.lookup a=none)->
      codeAny (model P w) callerA (.call (.ref fa) ⟨[.ref a],[]⟩) (fun r s'=>r=.ok (.ret (.bool true))/\OldK s₁.heap s'.heap/\s'.os=s₁.os/\AllBare s'.gens) s₁:=by
    intro H hO hS hok hA hK
    have base_of:∀ {b:Addr}{o:Obj},s₁.heap.get? b=some o->H b=none->(qw s₁.heap H).get? b=some o:=fun e n=>KB e n
    have noA:∀ {b:Addr}{o:Obj}{es:Array DictEntry}{ep:Nat},s₁.heap.get? b=some o->o.data=.dict es ep->H b=none:=fun {b o es ep} e d=>by
      cases q:H b with
      |none=>rfl
      |some u=>
        have e':b=a:=hA b (by rw [q];simp)
        subst e'
        rw [ha] at e;cases e
        have d':Data.seq vs.toArray _=Data.dict es ep:=d
        cases d'
    have nsK:∀ {b:Addr}{m:Str->Option Value},s₁.heap.Ns b m->(qw s₁.heap H).Ns b m:=fun {b m} ⟨o,es,ep,e,d,r⟩=>⟨o,es,ep,base_of e (noA e d),d,r⟩
    have hKb:K.In (qw s₁.heap H):=fun b o e=>base_of (KX b o e) (by
      cases q:H b with
      |none=>rfl
      |some u=>
        have e':b=a:=hA b (by rw [q];simp)
        subst e'
        rw [hK (by rw [q];simp)] at e;cases e)
    have hM:Mod K mg (qw s₁.heap H):=⟨hKb,nsK hns,⟨mb,nsK hb,hbb⟩,let ⟨mc,h1,h2⟩:=hlim;⟨mc,nsK h1,h2⟩⟩
    have e0:Env0 P w K mg (qw s₁.heap H) callerA [] s₁ H:=⟨rfl,hM,fun b o e=>zcf e,Nat.le_of_eq (QU _ _),trivial,fun b hb=>absurd (show b∈([]:List Addr) from hb) (by simp),hok,.of_eq hg⟩
    refine codeAny_mono ((F _ hKb (nsK hns)).run callerA [] s₁ H ⟨[.ref a],[]⟩ [.ref a] [.ref a] _ _ hr e0 (hbind s₁ (.ref a)) (.cons rfl .nil) (hsp H hO hS)) fun r s' h=>?_
    cases r with
    |error e=>exact (hCX H e s' h).elim
    |ok fl=>
      cases fl with
      |next=>exact False.elim h
      |brk=>exact False.elim h
      |cont=>exact False.elim h
      |ret u=>
        obtain⟨v,H',os,bare,un,hok',r',q⟩:=h
        have q':v=.bl true:=q
        subst q'
        obtain rfl:u=Value.bool true:=r'
        refine⟨rfl,OldK.of_keep fun b o e=>?_,os,bare⟩
        cases q:H b with
        |none=>exact un.keep b o e q (by intro z;exact absurd (show b∈([]:List Addr) from z) (by simp)) (by simp)
        |some u=>
          rcases hO b with z | ⟨ob,xs,z⟩
          · rw [q] at z;cases z
          · have z2:=un.frzs b ob _ z
            obtain⟨e1,_⟩:=hok b _ z
            obtain⟨e2,_⟩:=hok' b _ z2
            rw [e] at e1;cases e1
            exact e2
  cases hk:K.lookup a with
  |some o=>
    have e:=KX a o hk
    rw [ha] at e
    cases e
    refine core (fun _=>none) (fun _=>.inl rfl) (.inr ⟨_,vs.toArray,_,hk,rfl,rfl,rfl,by rw [List.size_toArray,lenV];exact hl,by simpa using rv⟩) (fun b u z=>by have z':(none:Option HO)=some u:=z;cases z') (fun b z=>absurd rfl z) fun z=>absurd rfl z
  |none=>
    refine core (fun b=>if b=a then some (.frz { cls:=.type "list",data:=.seq vs.toArray } (.lst (ns.map V.int))) else none) (fun b=>?_) (.inl (.inr ⟨{ cls:=.type "list",data:=.seq vs.toArray },if_pos rfl⟩)) (fun b u z=>?_) (fun b z=>?_) fun _=>hk
    · by_cases hb:b=a
      · exact .inr ⟨_,_,if_pos hb⟩
      · exact .inl (if_neg hb)
    · by_cases hb:b=a
      · have z':=(if_pos hb).symm.trans z
        cases z'
        subst hb
        exact⟨ha,by rw [List.length_map];exact hl,vs,_,rv,ha⟩
      · have z':=(if_neg hb).symm.trans z
        cases z'
    · by_cases hb:b=a
      · exact hb
      · exact absurd (if_neg hb) z
noncomputable def defArgs (s:Stmt):Arguments:=match s with
 |.FunctionDef _ a _ _ _ _ _ _ _ _=>a
 |_=>{ posonlyargs:=[],args:=[],vararg:=none,kwonlyargs:=[],kw_defaults:=[],kwarg:=none,defaults:=[] }
noncomputable def defBody (s:Stmt):List Stmt:=match s with
 |.FunctionDef _ _ b _ _ _ _ _ _ _=>b
 |_=>[]
noncomputable def defScope (s:Stmt):Scope:=match s with
 |.FunctionDef _ _ _ _ _ _ sc _ _ _=>sc
 |_=>{ kind:=.function,names:=[],isGenerator:=false,isCoroutine:=false }
noncomputable abbrev CX0:CXT:=fun _ _ _ _ _ _=>False
noncomputable abbrev E0:XK:=fun _ _ _=>False
theorem zfz {X:Cx}:qh CX0 X E0:=fun _ _ _ _ _ _ _ h=>h.elim
structure Fun (K:W.Frag) (x qual:Str) (st:Stmt) (f:Addr) (fd:FuncData):Prop where
 ex:∃ (oc:Value) (od:Option Addr) (kV doc pm:Value) (an:Option Addr) (cdv ct:Value) (osl:Array (Option Value)),
  fd=PySem.W.fnOf x qual (defArgs st) (defBody st) (defScope st) .none kV doc pm an cdv ct/\K.lookup f=some ⟨oc,od,.func fd,osl⟩/\PySem.W.codeIn K cdv qual=true
 kp:PySem.W.keepIn K (.ref f)=true
section
variable {P:Program}{w:World}{K:W.Frag}{mg:Str->Option Value}{base:Heap}
theorem Fun.ok {x qual:Str}{st:Stmt}{f:Addr}{fd:FuncData}{N ps:List Str}{k:Nat}{sp:Sp}(F:Fun K x qual st f fd) (S:FnScope N ps (defScope st)) (len:∀ vs H Q E,sp vs H Q E->vs.length=ps.length)
    (hbody:∀ (cdv:Value) (A:Around) (outer:List Env) (s:Shared) (H:Hp) (vs:List V) (Q:VK) (E:XK),Room k (A.deeper (envOfC qual (defScope st) s.heap.objs.size f cdv))->sp vs H Q E->
      ∃ t,PSs (uu CX0 P w K mg base N qual (defScope st) f cdv A outer s H E).nox (defBody st) t/\t { nx:=fun _ H'=>Q .non H',rt:=Q } (start N vs) H):FnOk P w K mg base CX0 (k+1) f fd ps sp:=by
  obtain⟨oc,od,kV,doc,pm,an,cdv,ct,osl,rfl,lk,hcd⟩:=F.ex
  refine zbq lk hcd S len fun A outer s H vs Q E hr hsp=>?_
  obtain⟨t,h,q⟩:=hbody cdv A outer s H vs Q E hr hsp
  exact⟨t,h.nox,q⟩
theorem Fun.binds {x qual:Str}{st:Stmt}{f:Addr}{fd:FuncData}{ps:List Str}(F:Fun K x qual st f fd)
  (h:∀ (kV doc pm:Value) (an:Option Addr) (cdv ct:Value) (us:List Value),us.length=ps.length->bindArgs (PySem.W.fnOf x qual (defArgs st) (defBody st) (defScope st) .none kV doc pm an cdv ct) ⟨us,[]⟩=pure (ps.zip us)):Binds K fd ps []:=by
 obtain⟨oc,od,kV,doc,pm,an,cdv,ct,osl,rfl,lk,hcd⟩:=F.ex
 exact .all (h kV doc pm an cdv ct)
theorem zd1 {x qual:Str}{st:Stmt}{f:Addr}{oc:Value}{od an:Option Addr}{osl:Array (Option Value)}{kV doc pm cdv ct:Value}(l:K.lookup f=some ⟨oc,od,.func (PySem.W.fnOf x qual (defArgs st) (defBody st) (defScope st) .none kV doc pm an cdv ct),osl⟩)
  (c:PySem.W.codeIn K cdv qual=true) (k:PySem.W.keepIn K (.ref f)=true):Fun K x qual st f (PySem.W.fnOf x qual (defArgs st) (defBody st) (defScope st) .none kV doc pm an cdv ct):=⟨⟨oc,od,kV,doc,pm,an,cdv,ct,osl,rfl,l,c⟩,k⟩
end
theorem xZ {n:Nat}(h:n≤1000):n < sizeLine:=Nat.lt_of_le_of_lt h (by decide)
section
variable {X:Cx}
theorem pv (i:Nat) {x:Str}{pos:Pos}(hN:X.N[i]? =some x:=by rfl) (hv:Vis X.env.scope x:=by first |exact Or.inl rfl |exact Or.inr (Or.inl rfl) |exact Or.inr (Or.inr rfl)) (hd:(x == ("__debug__":Str))=false:=by decide)
  (hcd:(x == ("__classdict__":Str))=false:=by decide):PE X (.Name x pos) (ZB i):=zdJ hN hv hd hcd
end
def Same (H H':Hp):Prop:=∀ b o,H b=some o->H' b=some o
theorem Same.refl (H:Hp):Same H H:=fun _ _ h=>h
theorem Same.trans {H H1 H2:Hp}(a:Same H H1) (b:Same H1 H2):Same H H2:=fun c o h=>b c o (a c o h)
theorem Same.free {H H':Hp}(e:Same H H') {l:Addr}(h:H' l=Option.none):H l=Option.none:=by
 cases q:H l with
 |none=>rfl
 |some o=>
  rw [e l o q] at h
  cases h
theorem Same.seq {K:W.Frag}{H H':Hp}{a:Addr}{xs:List V}(e:Same H H') (h:SqL K H a xs):SqL K H' a xs:=by
 rcases h with (h | ⟨o,h⟩) |h
 ·exact .inl (.inl (e _ _ h))
 ·exact .inl (.inr ⟨o,e _ _ h⟩)
 ·exact .inr h
theorem zcn {prog:Program}{w:World}{A:Around}{R:Result->Shared->Prop}{s:Shared}{elt tg iter:Expr}{ifs:List Expr}{scope:Scope}{pos:Pos}{it acc:Value}{env:Env}(J:Nat->Shared->Prop)
    (turn:∀ k s0,J k s0->wpAny (model prog w) A (pyNext it) (fun r s1=>match r with
      |none=>R (.ok .next) s1
      |some v=>wpAny (model prog w) A (letOwnedTupleGo tg it v) (fun _ s2=>wpAny (model prog w) A (assign tg env v) (fun _ s3=>
          wpAny (model prog w) A (forIn ifs true fun c r=>if r=true then do let ok <- isTrue c env (eval c env);pure (ForInStep.yield ok) else pure (ForInStep.yield r)) (fun ok s4=>
            if ok=true then wpAny (model prog w) A (eval elt env) (fun x s5=>wpAny (model prog w) A (call (.builtin "list.append") [acc,x]) (fun _ s6=>∃ j,j < k/\J j s6) (fun _ _=>False) s5) (fun _ _=>False) s4
            else ∃ j,j < k/\J j s4) (fun _ _=>False) s3) (fun _ _=>False) s2) (fun _ _=>False) s1) (fun _ _=>False) s0)
    (k:Nat) (h:J k s):codeAny (model prog w) A (.compLoop (.ListComp elt [⟨tg,iter,ifs,0⟩] scope pos) 0 it acc env) R s:=by
  refine codeAny_loop rfl J (fun k0 s0 hJ=>?_) k h
  show wpAny _ A ((compTurn (.ListComp elt [⟨tg,iter,ifs,0⟩] scope pos) 0 it acc env).onRaise (fun x=>do noteFrame x env;theTreesLotGoes x)) _ _ s0
  refine wpAny_noted ?_
  rw [compTurn_list]
  refine wpAny_bind (wpAny_standAt (wpAny_bind (wpAny_mono (turn k0 s0 hJ) (fun r s1 h1=>?_) fun _ _ f=>f.elim)))
  cases r with
  |none=>exact wpAny_pure h1
  |some v=>
    refine wpAny_bind (wpAny_mono h1 (fun _ s2 h2=>wpAny_bind (wpAny_mono h2 (fun _ s3 h3=>wpAny_bind (wpAny_mono h3 (fun ok s4 h4=>?_) fun _ _ f=>f.elim)) fun _ _ f=>f.elim)) fun _ _ f=>f.elim)
    cases ok with
    |false=>exact wpAny_pure ⟨rfl,h4⟩
    |true=>exact wpAny_bind (wpAny_bind (wpAny_mono h4 (fun x s5 h5=>wpAny_bind (wpAny_mono h5 (fun _ s6 h6=>wpAny_pure (wpAny_pure ⟨rfl,h6⟩)) fun _ _ f=>f.elim)) fun _ _ f=>f.elim))
def PTs (X:Cx) (ifs:List Expr) (t:TT):Prop:=
 ∀ (pins:List (Addr×Obj)) (s:Shared) (σ:St) (H:Hp) (Q:Bool->Hp->Prop),Inv X pins σ H s->t σ H Q->
  wpAny (model X.prog X.w) X.A (forIn ifs true fun c r=>if r=true then do let ok <- isTrue c X.env (eval c X.env);pure (ForInStep.yield ok) else pure (ForInStep.yield r)) (TP X pins σ Q) X.xe s
def zd2:TT:=fun _ H Q=>Q true H
theorem yx {X:Cx}:PTs X [] zd2:=fun _ _ _ H _ I h=>wpAny_tests_nil ⟨H,I,h⟩
theorem jM {X:Cx}{c:Expr}{t:TT}(h:PT X c t):PTs X [c] t:=fun pins s σ H Q I hw=>wpAny_tests_one (h pins s σ H Q I hw)
noncomputable def zP (X:Cx) (N:List Str) (scope:Scope) (cl:List (Str×Addr)) (C:Addr) (s:Shared) (H:Hp) (fp:List Addr):Cx where
 prog:=X.prog
 w:=X.w
 K:=X.K
 mg:=X.mg
 base:=X.base
 A:=X.A
 N:=N
 s₀:=s
 H₀:=H
 env:=compEnvC scope cl C X.env
 outer:=X.stack
 stack:=X.stack
 ex:=fp
 fn:=fun _=>false
 calm:=X.calm
 pn:=[]
 xe:=fun _ _=>False
noncomputable def uw (n:Nat) (js:List Nat) (σ:St):St:=List.replicate n none ++ js.map fun j=>(σ[j]?).join
structure LcOk (X:Cx) (N:List Str) (n:Nat) (js:List Nat) (scope:Scope) (cl:List (Str×Addr)):Prop where
 clos:closureFor scope X.env=pure cl
 nocell:∀ y∈scope.names,y.2≠.cell
 kind:scope.kind=.function
 names:∀ y∈scope.names,y.2=.local->scope.names.lookup y.1=some .local
 cells:∀ x c,cl.lookup x=some c->X.env.cells.lookup x=some c
 has:∀ x,((relabel scope X.env).names.lookup x=some .cell\/(relabel scope X.env).names.lookup x=some .free)->∃ c,cl.lookup x=some c
 len:n+js.length=N.length
 free:∀ (i:Nat) (x:Str),N[n+i]? =some x->∃ j c,js[i]? =some j/\X.N[j]? =some x/\(X.env.scope.names.lookup x=some .cell\/X.env.scope.names.lookup x=some .free)/\
  ((relabel scope X.env).names.lookup x=some .cell\/(relabel scope X.env).names.lookup x=some .free)/\cl.lookup x=some c
section
variable {X:Cx}{pins:List (Addr×Obj)}{σ:St}{H:Hp}{s:Shared}{N:List Str}{n:Nat}{js:List Nat}{scope:Scope}{cl:List (Str×Addr)}
theorem LcOk.ok (L:LcOk X N n js scope cl) (I:Inv X pins σ H s) {fp:List Addr}(hf:∀ b∈fp,FpOk X pins H b) (hlt:∀ b∈fp,b < s.heap.objs.size) {C:Addr}(hC:s.heap.objs.size≤C):(zP X N scope cl C s H fp).Ok where
 mod:=I.ok.mod
 kind:=L.kind
 glob:=I.ok.glob
 blt:=I.ok.blt
 above:=hC
 inj:=fun x y c h1 h2=>I.ok.inj x y c (L.cells x c h1) (L.cells y c h2)
 has:=fun x hx=>L.has x hx
 cab:=fun x c hx _=>by cases hx
 hd:=I.ok.hd
 frames:=I.ok.frames
 stk:=.inl rfl
 exf:=fun b hb=>⟨Nat.ne_of_lt (Nat.lt_of_lt_of_le (hlt b hb) hC),fun x c e=>(hf b hb).2.2.2.2.1 x c (L.cells x c e)⟩
 bs:=I.bs
 bsz:=Nat.le_trans I.ok.bsz I.sz
 noex:=fun b o e hb=>by
  rcases (hf b hb).2.2.2.1 with z |z
  ·exact I.ok.noex b o e z
  ·exact absurd (Nat.lt_of_lt_of_le (Heap.lt_size (I.ok.bs b o e).1) z) (Nat.lt_irrefl _)
 exfs:=fun b hb hz=>by
  rcases List.mem_cons.mp (I.stkSub b hz) with z |z
  ·exact (hf b hb).2.1 z
  ·exact (hf b hb).2.2.1 z
 funs:=I.stack
 frf:=I.stkFree
theorem KR {n:Nat}{js:List Nat}{σ:St}{i:Nat}{v:V}(h:(uw n js σ)[i]? =some (some v)):∃ k j,i=n+k/\js[k]? =some j/\σ[j]? =some (some v):=by
 unfold uw at h
 by_cases hi:i < n
 ·rw [List.getElem?_append_left (by simpa using hi),List.getElem?_replicate] at h
  split at h <;> cases h
 ·rw [List.getElem?_append_right (by simpa using hi),List.length_replicate,List.getElem?_map] at h
  cases e:js[i - n]? with
  |none=>rw [e] at h;cases h
  |some j=>
   rw [e] at h
   refine⟨i - n,j,by omega,e,?_⟩
   cases e2:σ[j]? with
   |none=>rw [Option.map_some,e2] at h;cases h
   |some o=>
    rw [Option.map_some,e2] at h
    have h':o=some v:=Option.some.inj h
    rw [h']
theorem Inv.lc (L:LcOk X N n js scope cl) (I:Inv X pins σ H s) {fp:List Addr}(hf:∀ b∈fp,FpOk X pins H b) (hlt:∀ b∈fp,b < s.heap.objs.size) {D C:Addr}{h1:Heap}{m:Str->Option Value}{tk:Nat}
  (hD:s.heap.objs.size≤D) (hC:s.heap.objs.size≤C) (hDC:D≠C) (hn:h1.Ns C m) (old:∀ b o,s.heap.get? b=some o->h1.get? b=some o) {k:Nat}(hl:h1.get? D=some { cls:=.type "list",data:=.seq ([]:List Value).toArray k }) :
  Inv (zP X N scope cl C s H fp) [] (uw n js σ) (upd H D (.lst [])) { s with heap:=h1,toks:=tk } where
 ok:=L.ok I hf hlt hC
 os:=rfl
 bare:=I.bare
 base:=Un.laid old hD (I.hok.fresh hD)
 loc:=by
  refine⟨m,hn,fun i x v e1 e2 e3=>?_⟩
  obtain⟨k,j,rfl,ej,eσ⟩:=KR e2
  obtain⟨j',c,ej',eN,kx,kr,ec⟩:=L.free k x e1
  rw [ej] at ej'
  cases ej'
  obtain⟨mx,hmx,hl'⟩:=I.loc
  obtain⟨u,r,lk⟩:=hl' j x v eN eσ (kx.elim (fun z=>.inr (.inl z)) fun z=>.inr (.inr z))
  refine⟨u,r,.inr ⟨kr,c,ec,?_⟩⟩
  have hcx:=L.cells x c ec
  rcases lk with⟨z,_⟩ | ⟨_,c',e',hc'⟩
  ·have z':X.env.scope.names.lookup x=some .local:=z
   rcases kx with y |y <;> rw [y] at z' <;> cases z'
  ·rw [hcx] at e'
   cases e'
   obtain⟨o,ho,hd⟩:=hc'
   exact⟨o,old _ _ ho,hd⟩
 cell:=fun x c e=>by
  obtain⟨v,o,ho,hd⟩:=I.cell x c (L.cells x c e)
  exact⟨v,o,old _ _ ho,hd⟩
 free:=by
  show upd H D (.lst []) C=none
  rw [zg (Ne.symm hDC)]
  exact I.hok.fresh hC
 freeC:=fun x c e=>by
  obtain⟨v,o,ho,hd⟩:=I.cell x c (L.cells x c e)
  rw [zg (Nat.ne_of_lt (Nat.lt_of_lt_of_le (Heap.lt_size ho) hD))]
  exact I.freeC x c (L.cells x c e)
 pin:=fun p hp=>absurd (show p∈([]:List (Addr×Obj)) from hp) (by simp)
 hok:=I.hok.laid old hD ⟨Nat.zero_le _,[],k,.nil,hl⟩
 len:=by
  show (uw n js σ).length=N.length
  unfold uw
  rw [List.length_append,List.length_replicate,List.length_map]
  exact L.len
theorem Inv.unlc {fp:List Addr}{C:Addr}{σ':St}{H':Hp}{s':Shared}{h':Heap}(I:Inv X pins σ H s) (hf:∀ b∈fp,FpOk X pins H b) (hC:s.heap.objs.size≤C) (I':Inv (zP X N scope cl C s H fp) [] σ' H' s') (hs:Heap.SameBut C s'.heap h') :
  Inv X pins σ H' { s' with heap:=h' }:=by
 have nC:∀ b o,s.heap.get? b=some o->b≠C:=fun b o e=>Nat.ne_of_lt (Nat.lt_of_lt_of_le (Heap.lt_size e) hC)
 have hfree:H' C=none:=I'.free
 have u:=I'.base
 refine I.call' (ch:=fp) (s':={ s' with heap:=h' }) I'.os ⟨fun b o e n hb hx=>?_,fun b o e n hb hx=>?_,u.free,fun b o e hx=>?_,u.tups,u.frzs,u.tbls⟩ (fun b ob e=>?_) I'.bare fun b hb=>⟨(hf b hb).2.2.2.1,(hf b hb).2.1,(hf b hb).2.2.2.2.1,(hf b hb).2.2.2.2.2⟩
 ·exact (hs.2 b (nC b o e)).trans (u.keep b o e n hb hx)
 ·obtain⟨sl,q⟩:=u.slot b o e n hb hx
  exact⟨sl,(hs.2 b (nC b o e)).trans q⟩
 ·obtain⟨o',q⟩:=u.there b o e hx
  exact⟨o',(hs.2 b (nC b o e)).trans q⟩
 ·refine (I'.hok b ob e).stay (fun c w' hc q=>(hs.2 c ?_).trans q) (fun _ q=>q) fun _ _ q=>q
  rintro rfl
  rcases hc with rfl |hc
  ·rw [hfree] at e
   cases e
  ·rw [hfree] at hc
   cases hc
def tLc (wi:TI) (n:Nat) (js:List Nat) (g:TG) (tt:TT) (te:TE):TE:=fun σ H Q=>wi σ H fun J H1=>∀ D,H1 D=none->∃ W:Nat->Nat->St->Hp->Prop,(∃ m,W 0 m (uw n js σ) (upd H1 D (.lst [])))/\∀ i m σ' H',W i m σ' H'->
  (J.stop i H'/\Q (.ref D) H')\/(J.go i H'/\∃ Nx:St->Hp->Prop,(∀ σ2 H2,Nx σ2 H2->∃ m',m' < m/\W (i+1) m' σ2 H2)/\
    ∀ x H2,J.yld i H' x H2->g x σ' H2 fun σ3 H3=>tt σ3 H3 fun ok H4=>if ok=true then te σ3 H4 fun y H5=>∃ ys,H5 D=some (.lst ys)/\ys.length < sizeLine/\Nx σ3 (upd H5 D (.lst (ys ++ [y]))) else Nx σ3 H4)
theorem VR {elt tg iter:Expr}{ifs:List Expr}{pos:Pos}{g:TG}{tt:TT}{te:TE}{it:Addr}{fp:List Addr}{tn:Nat->Heap->Prop}{J:It}{Q:V->Hp->Prop}{E:Value->Shared->Prop}{RR:Value->Addr->Result->Shared->Prop}
    (L:LcOk X N n js scope cl) (hc:X.calm=true) (I:Inv X pins σ H s) (T:Turn X.prog X.w X.K tg J fp it tn) (t0:tn 0 s.heap) (hf:∀ b∈fp,FpOk X pins H b)
    (hg:∀ C s0 H0 fp0,PG (zP X N scope cl C s0 H0 fp0) tg g) (ht:∀ C s0 H0 fp0,PTs (zP X N scope cl C s0 H0 fp0) ifs tt) (he:∀ C s0 H0 fp0,PE (zP X N scope cl C s0 H0 fp0) elt te)
    (hw:∀ D,H D=none->∃ W:Nat->Nat->St->Hp->Prop,(∃ m,W 0 m (uw n js σ) (upd H D (.lst [])))/\∀ i m σ' H',W i m σ' H'->
      (J.stop i H'/\Q (.ref D) H')\/(J.go i H'/\∃ Nx:St->Hp->Prop,(∀ σ2 H2,Nx σ2 H2->∃ m',m' < m/\W (i+1) m' σ2 H2)/\
        ∀ x H2,J.yld i H' x H2->g x σ' H2 fun σ3 H3=>tt σ3 H3 fun ok H4=>if ok=true then te σ3 H4 fun y H5=>∃ ys,H5 D=some (.lst ys)/\ys.length < sizeLine/\Nx σ3 (upd H5 D (.lst (ys ++ [y]))) else Nx σ3 H4))
    (fin:∀ D C σ' H' s',s.heap.objs.size≤C->Inv (zP X N scope cl C s H fp) [] σ' H' s'->Q (.ref D) H'->RR (.ref D) C (.ok .next) s') :
    wpAny (model X.prog X.w) X.A (newList []) (fun acc s1=>wpAny (model X.prog X.w) X.A (newFunctionEnv scope X.env.globals cl [] X.env.qual none .none (some X.env)) (fun cenv s2=>
      codeAny (model X.prog X.w) X.A (.compStart (.ListComp elt [⟨tg,iter,ifs,0⟩] scope pos) 0 (.ref it) acc { cenv with scope:=relabel scope X.env }) (RR acc cenv.locals) s2) E s1) E s:=by
  refine wpAny_newObj_type (wpAny_newFunctionEnv L.nocell (by intro y hy;simp at hy) (fun h1 hn1 hs1=>?_) L.kind)
  dsimp only at hn1 hs1 ⊢
  generalize hG:s.heap.push { cls:=.type "list",dict:=none,data:=.seq ([]:List Value).toArray } =G at hn1 hs1 ⊢
  have eC:G.objs.size=s.heap.objs.size+1:=by rw [<- hG,Heap.size_push]
  have hC:s.heap.objs.size≤G.objs.size:=by rw [eC];exact Nat.le_succ _
  have hDC:s.heap.objs.size≠G.objs.size:=by rw [eC];exact Nat.ne_of_lt (Nat.lt_succ_self _)
  have hlt:∀ b∈fp,b < s.heap.objs.size:=fun b hb=>by
    obtain⟨o,e,_⟩:=T.obj 0 _ t0 b hb
    exact Heap.lt_size e
  have old:∀ b o,s.heap.get? b=some o->h1.get? b=some o:=fun b o e=>by
    have hb:=Heap.lt_size e
    exact hs1.extBut b o (Nat.ne_of_lt (Nat.lt_of_lt_of_le hb hC)) (Heap.get?_push_of_some _ (hG ▸ Heap.get?_push_of_some _ e))
  have hl:h1.get? s.heap.objs.size=some { cls:=.type "list",data:=.seq ([]:List Value).toArray 0 }:=hs1.extBut _ _ hDC (Heap.get?_push_of_some _ (hG ▸ Heap.get?_push_size _ rfl))
  have I1:∀ tk,Inv (zP X N scope cl G.objs.size s H fp) [] (uw n js σ) (upd H s.heap.objs.size (.lst [])) { s with heap:=h1,toks:=tk }:=fun tk=>Inv.lc L I hf hlt (Nat.le_refl _) hC hDC hn1 old hl
  have t1:tn 0 h1:=T.keep _ _ _ t0 fun b _ o e=>old b o e
  obtain⟨W,⟨m0,w0⟩,step⟩:=hw s.heap.objs.size (I.hok.fresh (Nat.le_refl _))
  have fr1:∀ b∈fp,upd H s.heap.objs.size (.lst []) b=none:=fun b hb=>by
    rw [zg (Nat.ne_of_lt (hlt b hb))]
    exact (hf b hb).1
  have fps:∀ {H':Hp},(∀ b∈fp,H' b=none)->∀ b∈fp,FpOk (zP X N scope cl G.objs.size s H fp) [] H' b:=fun {H'} hn b hb=>by
    refine⟨hn b hb,Nat.ne_of_lt (Nat.lt_of_lt_of_le (hlt b hb) hC),fun hz=>?_,.inl hb,fun x c e=>(hf b hb).2.2.2.2.1 x c (L.cells x c e),fun p hp=>absurd (show p∈([]:List (Addr×Obj)) from hp) (by simp)⟩
    rcases List.mem_cons.mp (I.stkSub b hz) with z |z
    · exact (hf b hb).2.1 z
    · exact (hf b hb).2.2.1 z
  have loop:∀ s0:Shared,s0= { s with heap:=h1,toks:=s.toks+([]:List (Str×Value)).length }->
      codeAny (model X.prog X.w) X.A (.compLoop (.ListComp elt [⟨tg,iter,ifs,0⟩] scope pos) 0 (.ref it) (.ref s.heap.objs.size) (compEnvC scope cl G.objs.size X.env)) (RR (.ref s.heap.objs.size) G.objs.size) s0:=by
    rintro s0 rfl
    refine zcn (fun k s'=>∃ i σ' H',Inv (zP X N scope cl G.objs.size s H fp) [] σ' H' s'/\tn i s'.heap/\(∀ b∈fp,H' b=none)/\W i k σ' H') ?_ m0 ⟨0,_,_,I1 _,t1,fr1,w0⟩
    rintro k s3 ⟨i,σ3,H3,I3,t3,fr3,w3⟩
    rcases step i k σ3 H3 w3 with⟨stop,qn⟩ | ⟨go,Nx,hN,body⟩
    · refine thn (T.done (zP X N scope cl G.objs.size s H fp) rfl rfl rfl hc i [] s3 σ3 H3 _ I3 (fps fr3) t3 stop) fun r s4 ⟨hr,I4⟩=>?_
      subst hr
      exact fin _ _ σ3 H3 s4 hC I4 qn
    · refine thn (T.item (zP X N scope cl G.objs.size s H fp) rfl rfl rfl hc i [] s3 σ3 H3 _ I3 (fps fr3) t3 go) fun r s4 ⟨u,hr,h4⟩=>?_
      subst hr
      refine thn h4 fun _ s5 ⟨x,H5,I5,r5,y5,t5,fr5⟩=>?_
      have I5':=I5.pinned (fps fr5) (T.obj _ _ t5)
      refine thn (hg _ _ _ _ _ s5 σ3 H5 x u _ I5' r5 (body x H5 y5)) fun _ s6 ⟨σ6,H6,I6,q6⟩=>?_
      have again:∀ {σ7:St}{H7:Hp}{s7:Shared},Inv (zP X N scope cl G.objs.size s H fp) ([] ++ ur fp s5.heap) σ7 H7 s7->Nx σ7 H7->
          ∃ j,j < k/\∃ i σ' H',Inv (zP X N scope cl G.objs.size s H fp) [] σ' H' s7/\tn i s7.heap/\(∀ b∈fp,H' b=none)/\W i j σ' H':=fun {σ7 H7 s7} I7 n7=>by
        obtain⟨m',hm,w7⟩:=hN σ7 H7 n7
        refine⟨m',hm,i+1,σ7,H7,I7.unpinned,T.keep _ _ _ t5 fun b hb o e=>(I7.pin (b,o) (List.mem_append_right _ (List.mem_append_right _ (xw hb e)))).1,fun b hb=>?_,w7⟩
        obtain⟨o,e,_⟩:=T.obj _ _ t5 b hb
        exact (I7.pin (b,o) (List.mem_append_right _ (List.mem_append_right _ (xw hb e)))).2.1
      refine thn (ht _ _ _ _ _ s6 σ6 H6 _ I6 q6) fun ok s7 ⟨H7,I7,q7⟩=>?_
      cases ok with
      |false=>
        rw [if_neg (by decide)] at q7 ⊢
        exact again I7 q7
      |true=>
        rw [if_pos rfl] at q7 ⊢
        refine thn (he _ _ _ _ _ s7 σ6 H7 _ I7 q7) fun v s8 ⟨y,H8,I8,r8,ys,e8,z8,q8⟩=>?_
        refine thn (yL _ s8 σ6 H8 (.ref s.heap.objs.size) [y] (.ref s.heap.objs.size) [v] (fun _ H9=>Nx σ6 H9) I8 rfl (.cons r8 .nil) ⟨_,ys,y,rfl,rfl,e8,z8,q8⟩) fun _ s9 ⟨_,H9,I9,_,q9⟩=>?_
        exact again I9 q9
  exact codeAny_compStart_list (loop _ rfl) (T.self X.A 0 _ _ _ t1 (loop _ rfl))
theorem xa {elt tg iter:Expr}{ifs:List Expr}{pos:Pos}{wi:TI}{g:TG}{tt:TT}{te:TE}(L:LcOk X N n js scope cl) (hc:X.calm=true) (hi:PI X tg iter wi)
  (hg:∀ C s0 H0 fp0,PG (zP X N scope cl C s0 H0 fp0) tg g) (ht:∀ C s0 H0 fp0,PTs (zP X N scope cl C s0 H0 fp0) ifs tt) (he:∀ C s0 H0 fp0,PE (zP X N scope cl C s0 H0 fp0) elt te)
  (hs:∀ x,foldedSetIterable iter X.env x=pure x:=by intro _;rfl):PE X (.ListComp elt [⟨tg,iter,ifs,0⟩] scope pos) (tLc wi n js g tt te):=by
 intro pins s σ H Q I h
 rw [eval_ListComp]
 refine wpAny_comprehension_free (use:=none) rfl hs L.clos L.kind L.names (thn (hi pins s σ H _ I h) fun v s1 h1=>thn h1 fun itv s2 h2=>?_)
 obtain⟨it,fp,tn,J,H2,e,I2,T,t2,f2,hw⟩:=h2
 subst e
 refine VR (RR:=fun acc C=>compPost (model X.prog X.w) X.A X.xe none (EP X pins σ Q) acc C) L hc I2 T t2 f2 hg ht he hw ?_
 intro D C σ' H' s' hC I' q
 obtain⟨m,hn,_⟩:=I'.loc
 exact⟨m,hn,fun h' hs'=>⟨.ref D,H',I2.unlc f2 hC I' hs',rfl,q⟩⟩
theorem KS {i:Nat}{x:Str}{elt tg iter:Expr}{ifs:List Expr}{pos pos' spos:Pos}{wi:TI}{g:TG}{tt:TT}{te:TE}(hN:X.N.Nodup) (hx:X.N[i]? =some x) (hk:X.env.scope.names.lookup x=some .local)
  (L:LcOk X N n js scope cl) (hc:X.calm=true) (hi:PI X tg iter wi)
  (hg:∀ C s0 H0 fp0,PG (zP X N scope cl C s0 H0 fp0) tg g) (ht:∀ C s0 H0 fp0,PTs (zP X N scope cl C s0 H0 fp0) ifs tt) (he:∀ C s0 H0 fp0,PE (zP X N scope cl C s0 H0 fp0) elt te)
  (hsw:swapsWith (.ListComp elt [⟨tg,iter,ifs,0⟩] scope pos) (some (.Name x pos')) spos.line X.env=pure true:=by rfl)
  (hs:∀ x,foldedSetIterable iter X.env x=pure x:=by intro _;rfl):PS X (.Assign [.Name x pos'] (.ListComp elt [⟨tg,iter,ifs,0⟩] scope pos) spos) (ki (tLc wi n js g tt te) (qx i)):=by
 intro pins s σ H Dn I h
 rw [exec_Assign_Name_used _ _ _ _ hsw]
 refine wpAny_bind (wpAny_standAt (wpAny_bind ?_))
 show wpAny _ X.A (do let _ <- comprehension (.ListComp elt [⟨tg,iter,ifs,0⟩] scope pos) scope X.env _ (newList []) false (eval iter X.env) (some (assign (.Name x pos') X.env))) _ _ s
 refine wpAny_bind (thn (wpAny_comprehension_free (use:=some (assign (.Name x pos') X.env)) (Q:=fun _ s'=>SP X pins Dn .next s') rfl hs L.clos L.kind L.names (thn (hi pins s σ H _ I h) fun v s1 h1=>thn h1 fun itv s2 h2=>?_)) fun _ s' hq=>wpAny_pure (wpAny_pure hq))
 obtain⟨it,fp,tn,J,H2,e,I2,T,t2,f2,hw⟩:=h2
 subst e
 refine VR (Q:=fun x H1=>qx i x σ H1 Dn.nx) (RR:=fun acc C=>compPost (model X.prog X.w) X.A X.xe (some (assign (.Name x pos') X.env)) (fun _ s'=>SP X pins Dn .next s') acc C) L hc I2 T t2 f2 hg ht he hw ?_
 intro D C σ' H' s' hC I' q
 obtain⟨m,hn,_⟩:=I'.loc
 have I3:Inv X pins σ H' s':=I2.unlc (h':=s'.heap) f2 hC I' (.refl ..)
 show wpAny _ X.A (assign (.Name x pos') X.env (.ref D)) _ X.xe s'
 refine wpAny_assign_Name (Ym (v:=.ref D) I3 hN hx (.inl hk) rfl (fun s4 I4 hb=>?_) (.inr hk))
 obtain⟨a,hsa,ha⟩:=hb
 have bl:∀ b o,s2.heap.get? b=some o->b≠C:=fun b o e=>Nat.ne_of_lt (Nat.lt_of_lt_of_le (Heap.lt_size e) hC)
 have hL:C≠X.env.locals:=fun z=>absurd (Nat.lt_of_lt_of_le I2.lt (z ▸ hC)) (Nat.lt_irrefl _)
 have hcl:∀ y c,X.env.cells.lookup y=some c->c≠C:=fun y c e=>by
  obtain⟨v,o,ho,_⟩:=I2.cell y c e
  exact bl c o ho
 have hCa:C≠a:=by
  rcases ha with rfl |ha
  ·exact hL
  ·exact Ne.symm (hcl _ _ ha)
 exact⟨m,hn.sameBut hsa hCa,fun h' hs'=>⟨_,H',I4.turned (h':=h') (t':=s4.toks) (it:=C) (fun b o hb e=>(hs'.2 b hb).trans e) I'.free hL (.inr (Nat.le_trans I2.sz hC)) hcl (fun p hp=>bl _ _ (I2.pin p hp).1),q⟩⟩
end
structure Cal (P:Program) (w:World) (K:W.Frag) (mg:Str->Option Value) (base:Heap) (k:Nat) (x:Str) (dvs:List V) (sp:Sp):Prop where
 ex:∃ (f:Addr) (fd:FuncData) (ps:List Str) (ds:List Value),FnOk P w K mg base CX0 k f fd ps sp/\mg x=some (.ref f)/\PySem.W.keepIn K (.ref f)=true/\Binds K fd ps ds/\Vals dvs ds
section
variable {X:Cx}{k:Nat}{sp:Sp}{dvs:List V}{x:Str}{p pos:Pos}{e:Expr}{es:List Expr}{t:TA}
theorem zr (c:Cal X.prog X.w X.K X.mg X.base k x dvs sp) (hr:Room k X.A) (hg:Gl X x) (ha:PA X (e :: es) t) (hdb:(x == ("__debug__":Str))=false:=by decide)
  (he:starEach (e :: es) X.env=(false,eval e X.env) :: starEach es X.env:=by rfl) (hpl:(backTo pos (starEach es X.env)).any (·.1)=false:=by rfl):PE X (.Call (.Name x p) (e :: es) [] pos) (xT sp dvs E0 t):=by
 obtain⟨f,fd,ps,ds,F,hm,hk,hb,hd⟩:=c.ex
 exact VN F hr hg hm hk hb hd zfz ha hdb he hpl
end
section
variable {X:Cx}
def zfA (K:W.Frag) (H:Hp) (x:V):Prop:=∃ n,TyOf K H x (.type n)/\(n= "NoneType"\/n= "str"\/n= "list"\/n= "tuple"\/n= "dict")
noncomputable def Th (K:W.Frag) (H:Hp) (x:V):Option Int->Prop
 |some i=>x=.int i
 |none=>(∃ b,x=.bl b)\/zfA K H x
end
mutual
noncomputable def Rep (K:W.Frag) (H:Hp):PyData->V->Prop
 |.none,x=>x=.non
 |.bool b,x=>x=.bl b
 |.int i,x=>x=.int i
 |.str z,x=>x=.str z
 |.list ds,x=>∃ a xs,x=.ref a/\SqL K H a xs/\Reps K H ds xs
 |.tuple ds,x=>∃ a xs,x=.ref a/\SqT K H a xs/\Reps K H ds xs
 |.dict kvs,x=>kvs=[]/\∃ a,x=.ref a/\Rd H a (.dK [])
noncomputable def Reps (K:W.Frag) (H:Hp):List PyData->List V->Prop
 |[],xs=>xs=[]
 |d :: ds,xs=>∃ x r,xs=x :: r/\Rep K H d x/\Reps K H ds r
end
theorem SqL.same {K:W.Frag}{H H':Hp}{a:Addr}{xs:List V}(e:Same H H') (h:SqL K H a xs):SqL K H' a xs:=e.seq h
theorem SqT.same {K:W.Frag}{H H':Hp}{a:Addr}{xs:List V}(e:Same H H') (h:SqT K H a xs):SqT K H' a xs:=by
 rcases h with (h | ⟨o,h⟩) |h
 ·exact .inl (.inl (e _ _ h))
 ·exact .inl (.inr ⟨o,e _ _ h⟩)
 ·exact .inr h
mutual
theorem Rep.same {K:W.Frag}{H H':Hp}(e:Same H H'):∀ (d:PyData) (x:V),Rep K H d x->Rep K H' d x
 |.none,_,h=>h
 |.bool _,_,h=>h
 |.int _,_,h=>h
 |.str _,_,h=>h
 |.list ds,x,h=>by
  obtain⟨a,xs,e1,h1,h2⟩:=h
  exact⟨a,xs,e1,h1.same e,Reps.same e ds xs h2⟩
 |.tuple ds,x,h=>by
  obtain⟨a,xs,e1,h1,h2⟩:=h
  exact⟨a,xs,e1,h1.same e,Reps.same e ds xs h2⟩
 |.dict _,_,h=>by
  obtain⟨e1,a,e2,h1⟩:=h
  refine⟨e1,a,e2,?_⟩
  rcases h1 with h1 | ⟨o,h1⟩
  ·exact .inl (e _ _ h1)
  ·exact .inr ⟨o,e _ _ h1⟩
theorem Reps.same {K:W.Frag}{H H':Hp}(e:Same H H'):∀ (ds:List PyData) (xs:List V),Reps K H ds xs->Reps K H' ds xs
 |[],_,h=>h
 |d :: ds,xs,h=>by
  obtain⟨x,r,e1,h1,h2⟩:=h
  exact⟨x,r,e1,Rep.same e d x h1,Reps.same e ds r h2⟩
end
theorem Reps.length {K:W.Frag}{H:Hp}:∀ {ds:List PyData}{xs:List V},Reps K H ds xs->ds.length=xs.length
 |[],xs,h=>by
  cases (show xs=[] from h)
  rfl
 |d :: ds,_,h=>by
  obtain⟨x,r,rfl,_,h2⟩:=h
  rw [List.length_cons,List.length_cons,h2.length]
theorem Reps.snoc {K:W.Frag}{H:Hp}:∀ {ds:List PyData}{xs:List V}{d:PyData}{x:V},Reps K H ds xs->Rep K H d x->Reps K H (ds ++ [d]) (xs ++ [x])
 |[],_,d,x,h,h'=>by
  rw [show _=_ from h]
  exact⟨x,[],rfl,h',rfl⟩
 |d0 :: ds,_,d,x,h,h'=>by
  obtain⟨y,r,rfl,h1,h2⟩:=h
  exact⟨y,r ++ [x],rfl,h1,h2.snoc h'⟩
mutual
theorem Rep.reads {X:Cx}{pins:List (Addr×Obj)}{σ:St}{H:Hp}{s:Shared}(I:Inv X pins σ H s):∀ (d:PyData) (x:V) (u:Value),Rep X.K H d x->RelV x u->∃ as,Reads s.heap u d as
 |.none,x,u,h,r=>by
  cases (show x=V.non from h)
  cases r
  exact⟨_,.none⟩
 |.bool b,x,u,h,r=>by
  cases (show x=V.bl b from h)
  cases r
  exact⟨_,.bool b⟩
 |.int i,x,u,h,r=>by
  cases (show x=V.int i from h)
  obtain⟨t,rfl⟩:=r
  exact⟨_,.int i t⟩
 |.str z,x,u,h,r=>by
  cases (show x=V.str z from h)
  obtain⟨t,rfl⟩:=r
  exact⟨_,.str z t⟩
 |.list ds,x,u,h,r=>by
  obtain⟨a,xs,rfl,h1,h2⟩:=h
  cases r
  obtain⟨its,rv,⟨o,n,e,c,_,dt⟩,_⟩:=I.list h1
  obtain⟨as,q⟩:=Reps.reads I ds xs its h2 rv
  exact⟨_,.list e c dt (by simpa using q)⟩
 |.tuple ds,x,u,h,r=>by
  obtain⟨a,xs,rfl,h1,h2⟩:=h
  cases r
  obtain⟨its,rv,⟨o,e,c,n,dt⟩,_⟩:=I.tuple h1
  obtain⟨as,q⟩:=Reps.reads I ds xs its h2 rv
  exact⟨_,.tuple e c dt (by simpa using q)⟩
 |.dict kvs,x,u,h,r=>by
  obtain⟨rfl,a,rfl,h1⟩:=h
  cases r
  obtain⟨_,_,vs,kv,dd⟩:=(show yq X.prog X.w H s.heap a (.dK []) from h1.ok I.hok)
  cases kv
  obtain⟨o,es,ep,h2,h3,h4,_,h5,_⟩:=dd
  have e0:es= #[]:=by
   have:=h5.length
   exact Array.eq_empty_of_size_eq_zero (by simpa using this)
  subst e0
  exact⟨_,.dict h2 h3.1 h4 .nil .nil⟩
theorem Reps.reads {X:Cx}{pins:List (Addr×Obj)}{σ:St}{H:Hp}{s:Shared}(I:Inv X pins σ H s):∀ (ds:List PyData) (xs:List V) (us:List Value),Reps X.K H ds xs->Vals xs us->∃ as,ReadsAll s.heap us ds as
 |[],xs,us,h,r=>by
  cases (show xs=[] from h)
  cases r
  exact⟨_,.nil⟩
 |d :: ds,xs,us,h,r=>by
  obtain⟨x,z0,rfl,h1,h2⟩:=h
  cases r with
  |cons r1 r2=>
   obtain⟨as,q⟩:=Rep.reads I d x _ h1 r1
   obtain⟨bs,q2⟩:=Reps.reads I ds z0 _ h2 r2
   exact⟨_,.cons q q2⟩
end
section
variable {X:Cx}
def KT (K:W.Frag):R2:=fun x y H Q=>∃ d e,Rep K H d x/\Rep K H e y/\SeqAt.shaped d=true/\SeqAt.shaped e=true/\Q (.bl (PyData.eqv d e)) H
def KU (K:W.Frag):R2:=fun x y H Q=>∃ d e,Rep K H d x/\Rep K H e y/\SeqAt.shaped d=true/\SeqAt.shaped e=true/\Q (.bl (!PyData.eqv d e)) H
theorem zd3 (hu:X.A.units+64 < cLine):OpR X (compareOp .Eq) (KT X.K):=by
 intro pins s σ H x y v u Q I rx ry h
 obtain⟨d,e,h1,h2,s1,s2,q⟩:=h
 obtain⟨as,r1⟩:=Rep.reads I d x v h1 rx
 obtain⟨bs,r2⟩:=Rep.reads I e y u h2 ry
 exact eq_dataH r1 r2 s1 s2 hu ⟨.bl _,H,I,rfl,q⟩
theorem zd4 (hu:X.A.units+64 < cLine):OpR X (compareOp .NotEq) (KU X.K):=by
 intro pins s σ H x y v u Q I rx ry h
 obtain⟨d,e,h1,h2,s1,s2,q⟩:=h
 obtain⟨as,r1⟩:=Rep.reads I d x v h1 rx
 obtain⟨bs,r2⟩:=Rep.reads I e y u h2 ry
 exact ne_dataH r1 r2 s1 s2 hu ⟨.bl _,H,I,rfl,q⟩
end
noncomputable def Xm:Expr->Bool
 |.Starred ..=>false
 |_=>true
theorem YT {e:Expr}{es:List Expr}{env:Env}(h:Xm e=true):starEach (e :: es) env=(false,eval e env) :: starEach es env:=by
 cases e <;> first |rfl |cases h
structure QA (X:Cx) (es:List Expr) (t:TA):Prop where
 pa:PA X es t
theorem qn {X:Cx}:QA X [] ZF:=⟨Q5⟩
theorem qc {X:Cx}{e:Expr}{es:List Expr}{te:TE}{t:TA}(ha:PE X e te) (hr:QA X es t) (h:Xm e=true:=by rfl):QA X (e :: es) (v0 te t):=⟨VM ha hr.pa (YT h)⟩
theorem zR {X:Cx}{es:List Expr}{t:TA}{pos:Pos}(h:QA X es t):PE X (.List es pos) (ZG t):=Q6 h.pa
theorem yR {X:Cx}{es:List Expr}{t:TA}{pos:Pos}{k:Nat}(h:QA X es t):PE X (.Tuple es k pos) (UU t):=zdS h.pa
def Sm (a:Int):Prop:=-1000000000000≤a/\a≤1000000000000
theorem Sm.mulL {a b:Int}(h:Sm a):ZE a b:=.inl ⟨Int.lt_of_lt_of_le (by decide) h.1,Int.lt_of_le_of_lt h.2 (by decide)⟩
theorem Sm.mulR {a b:Int}(h:Sm b):ZE a b:=.inr ⟨Int.lt_of_lt_of_le (by decide) h.1,Int.lt_of_le_of_lt h.2 (by decide)⟩
theorem zco {a b:Int}(h1:-1000000000000≤a) (h2:a≤1000000000000):ZE a b:=Sm.mulL ⟨h1,h2⟩
theorem KW {a b:Int}(h1:-1000000000000≤b) (h2:b≤1000000000000):ZE a b:=Sm.mulR ⟨h1,h2⟩
theorem vi {H:Hp}{p:Addr}{o:HO}(hp:H p=none):Same H (upd H p o):=fun b u e=>by
 rw [zg (yi e hp)]
 exact e
theorem kl {H H':Hp}{r:Addr}{o:HO}(hs:Same H H') (hr:H r=none):Same H (upd H' r o):=fun b u e=>by
 rw [zg (yi e hr)]
 exact hs b u e
theorem zcp {α:Type}{xs:List α}{i:Int}{R:α->Prop}(h0:0≤i) (h1:i < (xs.length:Int)) (h:∀ v∈xs,R v):∃ v,atI xs i=some v/\R v:=by
 obtain⟨j,hj⟩:∃ j:Nat,i=(j:Int):=⟨_,(Int.toNat_of_nonneg h0).symm⟩
 subst hj
 have hl:j < xs.length:=by omega
 exact⟨xs[j],yn (List.getElem?_eq_getElem hl),h _ (List.getElem_mem hl)⟩
theorem VS {t u:TS}{D:Ends}{σ:St}{H:Hp}(J:St->Hp->Prop) (ht:∀ R:St->Hp->Prop,(∀ σ' H',J σ' H'->R σ' H')->t { D with nx:=R } σ H) (hu:∀ σ' H',J σ' H'->u D σ' H'):ZD t u D σ H:=ht (u D) hu
section
variable {P:Program}{w:World}{K:W.Frag}{mg:Str->Option Value}{base:Heap}
end
theorem uT {α:Type}{x:Str}{c:α}:∀ {l:List (Str×α)},l.lookup x=some c->(x,c)∈l
 |[],h=>by cases h
 | (y,d) :: l,h=>by
  rw [List.lookup_cons] at h
  cases e:x == y with
  |true=>
   rw [e] at h
   have h1:x=y:=by simpa using e
   have h2:d=c:=Option.some.inj h
   rw [h1,h2]
   exact List.mem_cons_self
  |false=>
   rw [e] at h
   exact List.mem_cons_of_mem _ (uT h)
noncomputable def ZJ (k:Option NameKind):Bool:=match k with
 |some .cell=>true
 |some .free=>true
 |_=>false
theorem VT {k:Option NameKind}(h:ZJ k=true):k=some .cell\/k=some .free:=by
 unfold ZJ at h
 split at h
 ·exact .inl rfl
 ·exact .inr rfl
 ·cases h
inductive CellsIn (big:List (Str×Addr)):List (Str×Addr)->Prop
 |nil:CellsIn big []
 |cons {x:Str}{c:Addr}{l:List (Str×Addr)}:big.lookup x=some c->CellsIn big l->CellsIn big ((x,c) :: l)
theorem CellsIn.mem {big:List (Str×Addr)}{x:Str}{c:Addr}:∀ {l:List (Str×Addr)},CellsIn big l->(x,c)∈l->big.lookup x=some c
 |_,.nil,h=>by cases h
 |_,.cons e r,h=>by
  rcases List.mem_cons.mp h with z |z
  ·cases z
   exact e
  ·exact r.mem z
theorem xk {X:Cx}{N:List Str}{n:Nat}{js:List Nat}{scope:Scope}{cl:List (Str×Addr)}(clos:closureFor scope X.env=pure cl:=by rfl) (nocell:(scope.names.all fun y=>!(y.2 == .cell))=true:=by rfl) (kind:scope.kind=.function:=by rfl)
  (names:(scope.names.all fun y=>!(y.2 == .local) || scope.names.lookup y.1 == some .local)=true:=by rfl) (cells:CellsIn X.env.cells cl:=by repeat' first |exact CellsIn.nil |refine CellsIn.cons rfl ?_)
  (has:((relabel scope X.env).names.all fun y=>!(ZJ (some y.2)) || (cl.lookup y.1).isSome)=true:=by rfl) (len:n+js.length=N.length:=by rfl)
  (free:((N.drop n).zip js).all (fun p=>X.N[p.2]? == some p.1 && ZJ (X.env.scope.names.lookup p.1) && ZJ ((relabel scope X.env).names.lookup p.1) && (cl.lookup p.1).isSome)=true:=by rfl):LcOk X N n js scope cl where
 clos:=clos
 nocell:=fun y hy e=>by
  have h:=List.all_eq_true.mp nocell y hy
  rw [e] at h
  cases h
 kind:=kind
 names:=fun y hy e=>by
  have h:=List.all_eq_true.mp names y hy
  rw [e] at h
  simpa using h
 cells:=fun x c h=>cells.mem (uT h)
 has:=fun x h=>by
  have key:∀ k,(relabel scope X.env).names.lookup x=some k->ZJ (some k)=true->∃ c,cl.lookup x=some c:=fun k e hk=>by
   have h1:=List.all_eq_true.mp has (x,k) (uT e)
   rw [hk] at h1
   exact Option.isSome_iff_exists.mp (by simpa using h1)
  rcases h with h |h
  ·exact key _ h rfl
  ·exact key _ h rfl
 len:=len
 free:=fun i x h=>by
  have hd:(N.drop n)[i]? =some x:=by rw [List.getElem?_drop];exact h
  have hi:i < (N.drop n).length:=(List.getElem?_eq_some_iff.mp hd).1
  have hj:i < js.length:=by rw [List.length_drop] at hi;omega
  have hz:((N.drop n).zip js)[i]? =some (x,js[i]):=by
   rw [List.getElem?_zip_eq_some]
   exact⟨hd,List.getElem?_eq_getElem hj⟩
  have h1:=List.all_eq_true.mp free (x,js[i]) (List.mem_of_getElem? hz)
  simp only [Bool.and_eq_true,beq_iff_eq] at h1
  obtain⟨⟨⟨a1,a2⟩,a3⟩,a4⟩:=h1
  obtain⟨c,hc⟩:=Option.isSome_iff_exists.mp a4
  exact⟨js[i],c,List.getElem?_eq_getElem hj,a1,VT a2,VT a3,hc⟩
noncomputable abbrev Cel:=Str×Int
noncomputable abbrev zf6:=List (List Cel)
noncomputable def zp (c:Cel):PyData:=.tuple [.str c.1,.int c.2]
def okC (c:Cel):Prop:=PyData.strOk c.1=true
section
variable {K:W.Frag}{H:Hp}
end
section
variable {K:W.Frag}{H0 H H1:Hp}{av:List Addr}{r t l:Addr}{ds es:List PyData}{d:PyData}
end
section
variable {K:W.Frag}{H0 H H1:Hp}{r b t:Addr}{p:zf6}{row:List Cel}
end
section
variable {X:Cx}{K:W.Frag}
theorem yg (h:X.K=K):SlR X (KO K):=by
 subst h
 exact zcm
theorem zZ (h:X.K=K):IxR X (Xi K):=by
 subst h
 exact zcl
end
def KY (K:W.Frag):R2:=fun x y H Q=>∃ l b xs zs,x=.ref l/\y=.ref b/\SqL K H l xs/\SqL K H b zs/\xs.length+zs.length≤sizeLine/\∀ p,H p=none->Q (.ref p) (upd H p (.lst (xs ++ zs)))
theorem yT {X:Cx}{K:W.Frag}(hK:X.K=K):OpR X (binaryOp .Add) (KY K):=by
 subst hK
 intro pins s σ H x y v u Q I rx ry h
 obtain⟨l,b,xs,zs,rfl,rfl,hH,hB,hz,q⟩:=h
 cases rx
 cases ry
 obtain⟨its,r,⟨o1,n1,e1,c1,d1,m1⟩,z1⟩:=I.list hH
 obtain⟨ita,r2,⟨o2,n2,e2,c2,d2,m2⟩,z2⟩:=I.list hB
 obtain⟨g1,g2,g3,g4⟩:=o1
 obtain⟨f1,f2,f3,f4⟩:=o2
 simp only at c1 d1 m1 c2 d2 m2
 subst c1 d1 m1 c2 d2 m2
 have hs:its.length+ita.length≤sizeLine:=by
  rw [<- r.length,<- r2.length]
  exact hz
 have ea:its.toArray ++ ita.toArray=(its ++ ita).toArray:=by simp
 refine concat_meets ⟨_,e1,rfl⟩ ⟨_,e2,rfl⟩ noFill_list_add seq_list_add F.slot_list_add F.entry_list_add (F.args_list_add_2 _ _) (list_addW l b its.toArray ita.toArray n1 n2 none none g4 f4 (by simpa using hs)) ⟨e1,e2,?_⟩
 rw [ea]
 exact⟨.ref _,_,I.lnew (t':=s.toks) (r.append r2) (by rw [List.length_append];omega),rfl,q _ I.fresh⟩
theorem Reps.append {K:W.Frag}{H:Hp}:∀ {ds es:List PyData}{xs ys:List V},Reps K H ds xs->Reps K H es ys->Reps K H (ds ++ es) (xs ++ ys)
 |[],_,_,_,h,h'=>by
  rw [show _=[] from h]
  exact h'
 |d :: ds,_,_,_,h,h'=>by
  obtain⟨y,q,rfl,h1,h2⟩:=h
  exact⟨y,_,rfl,h1,h2.append h'⟩
theorem Yt (o:Obj) (f:Array Value->Array Value):(o.mapFields f).dict=o.dict:=by
 rcases o with⟨_,_,q,_⟩
 cases q <;> rfl
def xm (z:Bool) (h:Heap) (e C:Addr) (fp:List Addr):Prop:=∃ oe vs,h.get? e=some oe/\(oe.cls=.ref C/\oe.dict=none)/\oe.data=.fields vs/\(1 < vs.size/\(z=true->vs[2]? =some .none))/\
 ((vs[1]? =some .none/\fp=[e])\/∃ T oT ts,vs[1]? =some (.ref T)/\T≠e/\h.get? T=some oT/\oT.data=.fields ts/\(∃ q,ts[3]? =some q)/\fp=[e,T])
noncomputable abbrev Fly:=xm false
theorem xm.self {z:Bool}{h:Heap}{e C:Addr}{fp:List Addr}(F:xm z h e C fp):e∈fp:=by
 obtain⟨_,_,_,_,_,_,⟨_,rfl⟩ | ⟨_,_,_,_,_,_,_,_,rfl⟩⟩:=F <;> exact List.mem_cons_self
theorem xm.keep {z:Bool}{h h':Heap}{e C:Addr}{fp:List Addr}(F:xm z h e C fp) (k:∀ b∈fp,∀ o,h.get? b=some o->h'.get? b=some o):xm z h' e C fp:=by
 have hs:=F.self
 obtain⟨oe,vs,he,hc,hd,hz,h1 | ⟨T,oT,ts,h1,h2,hT,hdT,h3,rfl⟩⟩:=F
 ·exact⟨oe,vs,k _ hs _ he,hc,hd,hz,.inl h1⟩
 ·exact⟨oe,vs,k _ hs _ he,hc,hd,hz,.inr ⟨T,oT,ts,h1,h2,k _ (by simp) _ hT,hdT,h3,rfl⟩⟩
section
variable {M:Model}{A:Around}{E:Value->Shared->Prop}{s:Shared}
structure Noted (fs fp:List Addr) (h h':Heap):Prop where
 keep:∀ b o,h.get? b=some o->b ∉ fp->b ∉ fs->h'.get? b=some o
 slot:∀ b o,h.get? b=some o->b ∉ fp->∃ sl,h'.get? b=some { o with slots:=sl }
 there:∀ b o,h.get? b=some o->∃ o',h'.get? b=some o'
theorem Xn {z:Bool}{base:Heap}{env:Env}{outer:List Env}{L e C:Addr}{oe:Obj}{vs:Array Value}{head:Value}{hadNext:Bool}{Q:Unit->Shared->Prop}
  (hfr:A.frames=some (env :: outer)) (hl:s.heap.FunFrames base (env :: outer)) (hf:env.frame=some L) (he:s.heap.get? e=some oe) (hc:oe.cls=.ref C/\oe.dict=none) (hd:oe.data=.fields vs) (hzz:1 < vs.size/\(z=true->vs[2]? =some .none))
  (h:∀ h' T,s.heap.objs.size≤T->s.heap.objs.size≤h'.objs.size->Noted (frs (env :: outer)) [e] s.heap h'->xm z h' e C [e,T]->Q () { s with heap:=h' }) :
  wpAny M A (do let a <- frameOf env;let pl <- entryPlaceOf L hadNext;let b <- EntryCells.newEntry head a .none (rawInt L) .none pl;setField (.ref e) 1 b) (fun _ s'=>wpAny M A (setFlight (.ref e) none) Q E s') E s:=by
 have hz:=hzz.1
 have ef:e ∉ frs (env :: outer):=fun hm=>by
  obtain⟨_,o,ho,hn⟩:=hl.mem hm
  rw [he] at ho
  cases ho
  exact hn vs hd
 refine wpAny_bind (wpAny_frameOf_fun hfr hl hf fun h1 s1=>?_)
 refine wpAny_bind (wpAny_entryPlaceOf fun pl hp=>?_)
 unfold EntryCells.newEntry newFields
 refine wpAny_bind (wpAny_newObj_type ?_ (hp.sizeOk5 _ _ _ _ _))
 generalize hO:({ cls:=.type "traceback",dict:=none,data:=.fields ([head,.ref L,.none,rawInt L,.none] ++ (if pl.isEmpty then List.replicate 6 Value.none else pl)).toArray }:Obj)=O
 have he1:h1.get? e=some oe:=(s1.2.1 e ef).trans he
 have he2:(h1.push O).get? e=some oe:=Heap.get?_push_of_some _ he1
 refine wpAny_setField he2 hd hz ?_
 have nTe:h1.objs.size≠e:=Nat.ne_of_gt (Heap.lt_size he1)
 have hd3:=Obj.data_mapFields hd (·.setIfInBounds 1 (Value.ref h1.objs.size))
 have he3:=Heap.get?_update_self (Obj.mapFields (·.setIfInBounds 1 (Value.ref h1.objs.size))) he2 (Obj.isFreed_of_fields hd3)
 have hOd:O.data=.fields ([head,.ref L,.none,rawInt L,.none] ++ (if pl.isEmpty then List.replicate 6 Value.none else pl)).toArray:=by rw [<- hO]
 have hOf:O.isFreed=false:=Obj.isFreed_of_fields hOd
 have hT3:((h1.push O).update e (Obj.mapFields (·.setIfInBounds 1 (Value.ref h1.objs.size)))).get? h1.objs.size=some O:=(Heap.get?_update_other (h1.push O) (Obj.mapFields (·.setIfInBounds 1 (Value.ref h1.objs.size))) (Ne.symm nTe)).trans (Heap.get?_push_size h1 hOf)
 unfold setFlight
 refine wpAny_bind (wpAny_field he3 hd3 (x:=.ref h1.objs.size) (by simp [hz]) ?_)
 rw [if_pos (show (Value.ref h1.objs.size != Value.none)=true from by simp)]
 have h3:3 < ([head,.ref L,.none,rawInt L,.none] ++ (if pl.isEmpty then List.replicate 6 Value.none else pl)).toArray.size:=by
  simp only [List.size_toArray,List.length_append,List.length_cons,List.length_nil]
  omega
 have kp:∀ b o,b≠e->h1.get? b=some o->(((h1.push O).update e (Obj.mapFields (·.setIfInBounds 1 (Value.ref h1.objs.size)))).update h1.objs.size (Obj.mapFields (·.setIfInBounds 3 ((none:Option Addr).elim Value.none fun f=>rawInt f)))).get? b=some o:=fun b o hb q=>by
  rw [Heap.get?_update_other _ _ (Nat.ne_of_gt (Heap.lt_size q)),Heap.get?_update_other _ _ (Ne.symm hb)]
  exact Heap.get?_push_of_some _ q
 have hd4:=Obj.data_mapFields hOd (·.setIfInBounds 3 ((none:Option Addr).elim Value.none fun f=>rawInt f))
 have he4:(((h1.push O).update e (Obj.mapFields (·.setIfInBounds 1 (Value.ref h1.objs.size)))).update h1.objs.size (Obj.mapFields (·.setIfInBounds 3 ((none:Option Addr).elim Value.none fun f=>rawInt f)))).get? e=some (oe.mapFields (·.setIfInBounds 1 (Value.ref h1.objs.size))):=
  (Heap.get?_update_other _ _ nTe).trans he3
 refine wpAny_setField hT3 hOd h3 (h _ h1.objs.size (Nat.le_of_eq s1.1.symm) ?_ ⟨?_,?_,?_⟩ ?_)
 ·rw [Heap.size_after_update,Heap.size_after_update,Heap.size_push,s1.1]
  exact Nat.le_succ _
 ·intro b o q nb nf
  exact kp b o (fun z=>nb (by simp [z])) ((s1.2.1 b nf).trans q)
 ·intro b o q nb
  obtain⟨sl,q2⟩:=s1.2.2 b o q
  exact⟨sl,kp b _ (fun z=>nb (by simp [z])) q2⟩
 ·intro b o q
  by_cases z:b=e
  ·rw [z]
   exact⟨_,he4⟩
  ·obtain⟨sl,q2⟩:=s1.2.2 b o q
   exact⟨_,kp b _ z q2⟩
 ·refine⟨_,_,he4,⟨(Obj.cls_mapFields _ _).trans hc.1,(Yt _ _).trans hc.2⟩,hd3,⟨by simpa using hz,fun q=>by rw [Array.getElem?_setIfInBounds_ne (by decide)];exact hzz.2 q⟩,.inr ⟨_,_,_,by simp [hz],nTe,Heap.get?_update_self _ hT3 (Obj.isFreed_of_fields hd4),hd4,?_,rfl⟩⟩
  exact⟨_,Array.getElem?_setIfInBounds_self_of_lt h3⟩
theorem ZK {z:Bool}{base:Heap}{env:Env}{outer:List Env}{L e C:Addr}{fp:List Addr}{Q:Unit->Shared->Prop}
  (hfr:A.frames=some (env :: outer)) (hl:s.heap.FunFrames base (env :: outer)) (hf:env.frame=some L) (F:xm z s.heap e C fp)
  (h:∀ h' T,(s.heap.objs.size≤T\/T∈fp)->s.heap.objs.size≤h'.objs.size->Noted (frs (env :: outer)) fp s.heap h'->xm z h' e C [e,T]->Q () { s with heap:=h' }) :
  wpAny M A (noteFrame (.ref e) env) (fun _ s'=>wpAny M A (setFlight (.ref e) none) Q E s') E s:=by
 obtain⟨oe,vs,he,hc,hd,hz,⟨h1,rfl⟩ | ⟨T,oT,ts,h1,nT,hT,hdT,h3,rfl⟩⟩:=F
 ·unfold noteFrame
  simp only [hf]
  refine wpAny_bind (wpAny_field he hd h1 ?_)
  rw [if_neg (by decide)]
  exact Xn hfr hl hf he hc hd hz fun h' T z1 z2 N F=>h h' T (.inl z1) z2 N F
 ·obtain⟨q3,h3⟩:=h3
  unfold noteFrame
  simp only [hf]
  refine wpAny_bind (wpAny_field he hd h1 ?_)
  rw [if_pos (show (Value.ref T != Value.none)=true from by simp)]
  refine wpAny_bind (wpAny_field hT hdT h3 ?_)
  by_cases own:(q3 == rawInt L)=true
  ·rw [if_pos own]
   refine wpAny_pure ?_
   unfold setFlight
   refine wpAny_bind (wpAny_field he hd h1 ?_)
   rw [if_pos (show (Value.ref T != Value.none)=true from by simp)]
   have l3:=(Array.getElem?_eq_some_iff.mp h3).1
   refine wpAny_setField hT hdT l3 ?_
   have d4:=Obj.data_mapFields hdT (·.setIfInBounds 3 ((none:Option Addr).elim Value.none fun f=>rawInt f))
   have g4:=Heap.get?_update_self (Obj.mapFields (·.setIfInBounds 3 ((none:Option Addr).elim Value.none fun f=>rawInt f))) hT (Obj.isFreed_of_fields d4)
   have oth:∀ b,b≠T->(s.heap.update T (Obj.mapFields (·.setIfInBounds 3 ((none:Option Addr).elim Value.none fun f=>rawInt f)))).get? b=s.heap.get? b:=fun b hb=>Heap.get?_update_other _ _ (Ne.symm hb)
   refine h _ T (.inr (by simp)) (Nat.le_of_eq (Heap.size_after_update _ _ _).symm) ⟨fun b o q nb _=>(oth b fun z=>nb (by simp [z])).trans q,fun b o q nb=>⟨o.slots,(oth b fun z=>nb (by simp [z])).trans q⟩,fun b o q=>?_⟩ ⟨oe,vs,(oth e (Ne.symm nT)).trans he,hc,hd,hz,.inr ⟨T,_,_,h1,nT,g4,d4,⟨_,Array.getElem?_setIfInBounds_self_of_lt l3⟩,rfl⟩⟩
   by_cases z:b=T
   ·rw [z]
    exact⟨_,g4⟩
   ·exact⟨o,(oth b z).trans q⟩
  rw [if_neg own]
  refine wpAny_bind (wpAny_setField hT hdT (Array.getElem?_eq_some_iff.mp h3).1 ?_)
  have oth:∀ b,b≠T->(s.heap.update T (Obj.mapFields (·.setIfInBounds 3 Value.none))).get? b=s.heap.get? b:=fun b hb=>Heap.get?_update_other _ _ (Ne.symm hb)
  have hd4:=Obj.data_mapFields hdT (·.setIfInBounds 3 Value.none)
  have hT4:=Heap.get?_update_self (Obj.mapFields (·.setIfInBounds 3 Value.none)) hT (Obj.isFreed_of_fields hd4)
  have noR:∀ b o,s.heap.get? b=some o->(∀ vs,o.data≠.fields vs)->b≠T:=fun b o hb hn z=>by
   rw [z,hT] at hb
   cases hb
   exact hn ts hdT
  refine Xn (s:={ s with heap:=s.heap.update T (Obj.mapFields (·.setIfInBounds 3 Value.none)) }) hfr (hl.of_keeps fun b o hb hn=>⟨o,(oth b (noR b o hb hn)).trans hb,rfl⟩) hf ((oth e (Ne.symm nT)).trans he) hc hd hz fun h' T' z1 z2 N F'=>?_
  have sz:(s.heap.update T (Obj.mapFields (·.setIfInBounds 3 Value.none))).objs.size=s.heap.objs.size:=Heap.size_after_update _ _ _
  have z1':s.heap.objs.size≤T':=by rw [<- sz];exact z1
  have z2':s.heap.objs.size≤h'.objs.size:=by rw [<- sz];exact z2
  refine h h' T' (.inl z1') z2' ⟨fun b o q nb nf=>?_,fun b o q nb=>?_,fun b o q=>?_⟩ F'
  ·have nbT:b≠T:=fun z=>nb (by simp [z])
   exact N.keep b o ((oth b nbT).trans q) (fun z=>nb (by rw [List.mem_singleton] at z;simp [z])) nf
  ·have nbT:b≠T:=fun z=>nb (by simp [z])
   exact N.slot b o ((oth b nbT).trans q) (fun z=>nb (by rw [List.mem_singleton] at z;simp [z]))
  ·by_cases z:b=T
   ·rw [z]
    exact N.there T _ hT4
   ·exact N.there b o ((oth b z).trans q)
theorem KZ {z:Bool}{base:Heap}{env:Env}{outer:List Env}{L e C:Addr}{fp:List Addr}{Q:Unit->Shared->Prop}
  (hfr:A.frames=some (env :: outer)) (hl:s.heap.FunFrames base (env :: outer)) (hf:env.frame=some L) (F:xm z s.heap e C fp)
  (h:∀ h' T,(s.heap.objs.size≤T\/T∈fp)->s.heap.objs.size≤h'.objs.size->Noted (frs (env :: outer)) fp s.heap h'->xm z h' e C [e,T]->Q () { s with heap:=h' }) :
  wpAny M A (leaving env (.ref e)) Q E s:=by
 unfold leaving
 exact wpAny_bind (ZK hfr hl hf F h)
end
noncomputable def CXz (z:Bool) (P:Program) (w:World):CXT:=fun outer H s E ev s'=>∃ e C fp H',ev=.ref e/\xm z s'.heap e C fp/\(∀ b∈fp,s.heap.get? b=none/\H' b=none)/\s'.os=s.os/\AllBare s'.gens/\Un (frs outer) [] H H' s.heap s'.heap/\HOk P w H' s'.heap/\E (.ref C) none H'
noncomputable abbrev CX1:=CXz false
def FpX (X:Cx) (pins:List (Addr×Obj)) (H:Hp) (b:Addr):Prop:=
 H b=none/\b≠X.env.locals/\b ∉ X.fs/\(b∈X.ex\/X.s₀.heap.get? b=none)/\(∀ x c,X.env.cells.lookup x=some c->c≠b)/\∀ p∈X.pn ++ pins,p.1≠b
theorem Inv.fpX {X:Cx}{pins:List (Addr×Obj)}{σ:St}{H H':Hp}{s:Shared}{b:Addr}(I:Inv X pins σ H s) (hb:s.heap.get? b=none) (hn:H' b=none):FpX X pins H' b:=by
 have no:∀ c o,s.heap.get? c=some o->c≠b:=fun c o q z=>by
  rw [z,hb] at q
  cases q
 refine⟨hn,fun z=>?_,fun z=>?_,?_,fun x c q=>?_,fun p hp=>no _ _ (I.pin p hp).1⟩
 ·obtain⟨m,⟨o,_,_,ho,_⟩,_⟩:=I.loc
  exact no _ _ ho z.symm
 ·obtain⟨_,o,ho,_⟩:=I.funs.mem z
  exact no _ _ ho rfl
 ·by_cases hx:b∈X.ex
  ·exact .inl hx
  ·refine .inr ?_
   cases q:X.s₀.heap.get? b with
   |none=>rfl
   |some o=>
    obtain⟨o',q'⟩:=I.base.there b o q hx
    exact absurd rfl (no _ _ q')
 ·obtain⟨v,o,ho,_⟩:=I.cell x c q
  exact no _ _ ho
def UpZ (z:Bool) (X:Cx) (W:XK) (ev:Value) (s':Shared):Prop:=∃ pins σ H e C fp,ev=.ref e/\Inv X pins σ H s'/\xm z s'.heap e C fp/\(∀ b∈fp,FpX X pins H b)/\W (.ref C) none H
noncomputable abbrev Up:=UpZ false
def ux (z:Bool) (X:Cx) (W:XK):Prop:=∀ ev s',UpZ z X W ev s'->X.xe ev s'
noncomputable abbrev jN:=ux false
theorem ux.passes {z:Bool}{X:Cx}{W:XK}(L:ux z X W):qh (CXz z X.prog X.w) X W:=by
 rintro pins σ H s ev s' I ⟨e,C,fp,H',rfl,F,hf,os,bare,un,hok,hw⟩
 have I':Inv X pins σ H' s':=I.call' (ch:=[]) os un hok bare fun b z=>absurd z (by simp)
 exact L _ _ ⟨pins,σ,H',e,C,fp,rfl,I',F,fun b hb=>I.fpX (H':=H') (hf b hb).1 (hf b hb).2,hw⟩
theorem xc {z:Bool}{P:Program}{w:World}{K:W.Frag}{mg:Str->Option Value}{base:Heap}{N:List Str}{qual:Str}{scope:Scope}{f:Addr}{cd:Value}{A:Around}{outer:List Env}{s:Shared}{H:Hp}{E:XK} :
  ux z (uu (CXz z P w) P w K mg base N qual scope f cd A outer s H E) E:=by
 rintro ev s' ⟨pins,σ,H',e,C,fp,rfl,I,F,hf,hw⟩
 show wpAny (model P w) _ (leaving _ (.ref e)) _ _ s'
 refine KZ (base:=base) (outer:=outer) (L:=s.heap.objs.size) I.ok.frames I.stack rfl F fun h' T z1 z2 N F'=>?_
 have fz:∀ b∈fp,s.heap.get? b=none/\H' b=none:=fun b hb=>by
  obtain⟨k0,_,_,k1,_⟩:=hf b hb
  rcases k1 with k1 |k1
  ·exact absurd (show b∈([]:List Addr) from k1) (by simp)
  ·exact⟨k1,k0⟩
 have old:∀ b o,s.heap.get? b=some o->b ∉ fp:=fun b o q z=>by
  rw [(fz b z).1] at q
  cases q
 have u:=I.base
 have notr:∀ b o,H' b=some o->b ∉ fp/\b ∉ frs (envOfC qual scope s.heap.objs.size f cd :: outer):=fun b o q=>by
  refine⟨fun z=>?_,fun z=>?_⟩
  ·rw [(fz b z).2] at q
   cases q
  ·rw [I.stkFree b z] at q
   cases q
 refine⟨e,C,[e,T],H',rfl,F',fun b hb=>?_,I.os,I.bare,⟨fun b o q n hb hx=>?_,fun b o q n hb hx=>?_,u.free,fun b o q hx=>?_,u.tups,u.frzs,u.tbls⟩,fun b ob q=>?_,hw⟩
 ·rcases List.mem_cons.mp hb with rfl |hb
  ·exact fz _ F.self
  ·cases List.mem_singleton.mp hb
   rcases z1 with z1 |z1
   ·exact⟨Heap.get?_none_of_le (Nat.le_trans I.sz z1),I.hok.fresh z1⟩
   ·exact fz _ z1
 ·refine N.keep b o (u.keep b o q n hb hx) (old b o q) fun z=>?_
  rcases List.mem_cons.mp z with z |z
  ·exact absurd (Heap.lt_size q) (by rw [z];exact Nat.lt_irrefl _)
  ·exact hb z
 ·obtain⟨sl,q1⟩:=u.slot b o q n hb hx
  obtain⟨sl',q2⟩:=N.slot b _ q1 (old b o q)
  exact⟨sl',q2⟩
 ·obtain⟨o',q1⟩:=u.there b o q hx
  exact N.there b o' q1
 ·refine (I.hok b ob q).stay (fun c w' hc q2=>?_) (fun _ z=>z) fun _ _ z=>z
  have hcH:∃ o,H' c=some o:=by
   rcases hc with z |z
   ·rw [z]
    exact⟨_,q⟩
   ·exact⟨_,z⟩
  obtain⟨oc,hoc⟩:=hcH
  exact N.keep c w' q2 (notr c oc hoc).1 (notr c oc hoc).2
theorem Inv.noted {X:Cx}{pins:List (Addr×Obj)}{σ:St}{H:Hp}{s:Shared}{h':Heap}{fp:List Addr}(I:Inv X pins σ H s) (N:Noted (frs X.stack) fp s.heap h') (hf:∀ b∈fp,FpX X pins H b):Inv X pins σ H { s with heap:=h' }:=by
 have old:∀ b o,X.s₀.heap.get? b=some o->b ∉ X.ex->b ∉ fp:=fun b o q hx z=>by
  rcases (hf b z).2.2.2.1 with k |k
  ·exact hx k
  ·rw [k] at q
   cases q
 have far:∀ b,b≠X.env.locals->b ∉ X.fs->b ∉ frs X.stack:=fun b h1 h2 z=>(List.mem_cons.mp (I.stkSub b z)).elim h1 h2
 have up:∀ b o,X.s₀.heap.get? b=some o->b≠X.env.locals:=fun b o q z=>absurd (Heap.lt_size q) (by rw [z];exact Nat.not_lt.mpr I.ok.above)
 have cel:∀ x c,X.env.cells.lookup x=some c->∀ v,s.heap.IsCell c v->h'.IsCell c v:=fun x c q v ⟨o,ho,hd⟩=>by
  obtain⟨sl,q2⟩:=N.slot c o ho fun z=>(hf c z).2.2.2.2.1 x c q rfl
  exact⟨_,q2,hd⟩
 have u:=I.base
 refine⟨I.ok,I.os,I.bare,⟨fun b o q n hb hx=>?_,fun b o q n hb hx=>?_,u.free,fun b o q hx=>?_,u.tups,u.frzs,u.tbls⟩,?_,fun x c q=>?_,I.free,I.freeC,fun p hp=>?_,fun b ob q=>?_,I.len⟩
 ·exact N.keep b o (u.keep b o q n hb hx) (old b o q hx) (far b (up b o q) hb)
 ·obtain⟨sl,q1⟩:=u.slot b o q n hb hx
  obtain⟨sl',q2⟩:=N.slot b _ q1 (old b o q hx)
  exact⟨sl',q2⟩
 ·obtain⟨o',q1⟩:=u.there b o q hx
  exact N.there b o' q1
 ·obtain⟨m,⟨o,es,ep,ho,r⟩,hl⟩:=I.loc
  obtain⟨sl,q2⟩:=N.slot _ o ho fun z=>(hf _ z).2.1 rfl
  refine⟨m,⟨_,es,ep,q2,r⟩,fun i x v e1 e2 e3=>?_⟩
  obtain⟨w',rw',l⟩:=hl i x v e1 e2 e3
  refine⟨w',rw',?_⟩
  rcases l with l | ⟨k,c,q,z⟩
  ·exact .inl l
  ·exact .inr ⟨k,c,q,cel x c q _ z⟩
 ·obtain⟨v,z⟩:=I.cell x c q
  exact⟨v,cel x c q v z⟩
 ·obtain⟨q,n,ne,nf,d⟩:=I.pin p hp
  exact⟨N.keep p.1 p.2 q (fun z=>(hf _ z).2.2.2.2.2 p hp rfl) (far _ ne nf),n,ne,nf,d⟩
 ·refine (I.hok b ob q).stay (fun c w' hc q2=>?_) (fun _ z=>z) fun _ _ z=>z
  have hcH:∃ o,H c=some o:=by
   rcases hc with z |z
   ·rw [z]
    exact⟨_,q⟩
   ·exact⟨_,z⟩
  obtain⟨oc,hoc⟩:=hcH
  refine N.keep c w' q2 (fun z=>?_) fun z=>?_
  ·rw [(hf c z).1] at hoc
   cases hoc
  ·rw [I.stkFree c z] at hoc
   cases hoc
end L2
namespace L2
open PySem PySem.W PySem.Spec PySem.Calls PyProof.Rows
structure XClass (K:W.Frag) (C:Addr):Prop where
 ga:findIn K (.ref C) "__getattribute__" =some (some (.builtin "BaseException.__getattribute__"))
 gh:findIn K (.ref C) "__getattr__" =some none
 cl:findIn K (.ref C) "__class__" =some (some (.builtin "object.__class__"))
 sp:specialIn K (.builtin "object.__class__") "__get__" =some (some (.builtin "getset_descriptor.__get__"))
 tk:takesIn K (.builtin "object.__class__")=some true
 mo:mroIn K C (.type "object")=some true
 mb:mroIn K C (.type "BaseException")=some true
 cs:(clsIn K C).isSome=true
section
variable {prog:Program}{w:World}{A:Around}{E:Value->Shared->Prop}{s:Shared}{K:W.Frag}{e C:Addr}{oe:Obj}
theorem Jd {Q:Option Value->Shared->Prop}(XC:XClass K C) (X:K.In s.heap) (I:InstAt s.heap e oe C none) (h:Q (some (.ref C)) { s with toks:=s.toks+1 }):wpAny (model prog w) A (getAttr? (.ref e) "__class__") Q E s:=by
 obtain⟨hh,g,d,t,os⟩:=s
 have L0:=I.type (M:=model prog w)
 have L1:=looks_findIn (M:=model prog w) X XC.ga
 have L2:=looks_findIn (M:=model prog w) X XC.gh
 have L3:=looks_mroIn (M:=model prog w) X XC.mb
 have hf:findObj K C none "__class__" =some (.bind (.builtin "getset_descriptor.__get__") (.builtin "object.__class__")):=by
  obtain⟨cd,hc⟩:=Option.isSome_iff_exists.mp XC.cs
  unfold findObj
  rw [hc,Option.bind_some,XC.cl,Option.bind_some]
  simp [XC.sp,XC.tk]
 have L4:=looks_find (M:=model prog w) X I hf
 have gaB:=F.attr_ValueError.ga.bind (.ref e)
 have hx2:(Value.builtin "BaseException.__getattribute__" == Value.builtin "object.__getattribute__")=false:=by decide +kernel
 have hx1:(onTheHeap (Value.ref C) && Value.builtin "BaseException.__getattribute__" == Value.builtin "object.__getattribute__")=false:=by rw [hx2];rfl
 unfold getAttr? getAttrBy? getAttrBy
 refine wpAny_bind (wpAny_mkText (wpAny_bind (wpAny_attempt (wpAny_holding (wpAny_bind (L0.at (wpAny_bind (L1.at ?_))))))))
 show wpAny _ _ (if (onTheHeap (Value.ref C) && Value.builtin "BaseException.__getattribute__" == Value.builtin "object.__getattribute__")=true then _ else getAttrByItsOwn _ _ _ _ _ _) _ _ _
 rw [hx1,if_neg (by decide)]
 unfold getAttrByItsOwn hookBefore
 rw [if_pos (show onTheHeap (Value.ref C)=true by rfl)]
 refine wpAny_bind (L2.at ?_)
 refine wpAny_bind (wpAny_attempt (wpAny_holding ?_))
 unfold callGetattribute boundAndCalled
 rw [if_neg (by decide)]
 refine wpAny_bind (wpAny_of_eq gaB ?_)
 refine wpAny_call (codeAny_call_builtin F.attr_ValueError.ga.plain F.entry_bexc_ga ?_)
 have hk:builtinKind "BaseException.__getattribute__" =some .slot:=by decide +kernel
 have hsp:splitId "BaseException.__getattribute__" =some ("BaseException","__getattribute__"):=by decide +kernel
 have ha:=F.args_bexc_ga (.ref e) (.str "__class__" t)
 simp only [checkBuiltinCall,hk,hsp]
 refine wpAny_bind ?_
 unfold isInstance
 repeat lk
 refine wpAny_run (h:=none) (class_get (ox:=oe) (od:=none) X I XC.mo ?_)
 refine wpAny_pure (wpAny_pure ?_)
 exact handed_on rfl (wpAny_pure h)
theorem Xo (XC:XClass K C):KitX K (.ref e) (.ref C) (fun h=>InstAt h e oe C none) where
 ty:=fun _ _ _ I=>I.type
 it:=fun _ _ X _=>by
  obtain⟨cd,hc⟩:=Option.isSome_iff_exists.mp XC.cs
  unfold clsIn at hc
  split at hc
  ·rename_i c' d' cd' sl' ho
   intro A' Q' E' s' k q
   unfold isType loadHead
   exact wpAny_bind (wpAny_loadPart (k _ _ (X _ _ ho)) (wpAny_pure q))
  ·cases hc
 ne:=fun h tp dd its n sl X htp=>by
  obtain⟨cd,hc⟩:=Option.isSome_iff_exists.mp XC.cs
  refine Bool.eq_false_iff.mpr fun q=>?_
  have z:C=tp:=Value.ref.inj (beq_iff_eq.mp q)
  subst z
  unfold clsIn at hc
  split at hc
  ·rename_i c' d' cd' sl' ho
   have z:=(X _ _ ho).symm.trans htp
   cases z
  ·cases hc
 ca:=fun X I k=>Jd XC X I k
end
theorem Vn {P:Program}{w:World}{H:Hp}{h:Heap}{a:Addr}{o:HO}(x:yq P w H h a o):∃ u,h.get? a=some u:=by
 cases o with
 |lst xs=>
  obtain⟨_,_,_,_,q⟩:=x
  exact⟨_,q⟩
 |tup xs=>
  obtain⟨_,_,_,⟨_,q,_⟩⟩:=x
  exact⟨_,q⟩
 |dK kvs=>
  obtain⟨_,_,_,_,o,_,_,q,_⟩:=x
  exact⟨_,q⟩
 |dT kvs=>
  obtain⟨_,_,_,_,o,_,_,q,_⟩:=x
  exact⟨_,q⟩
 |set S n=>
  obtain⟨o,_,_,_,q,_⟩:=x
  exact⟨_,q⟩
 |ins C dx fs=>
  obtain⟨_,_,_,q,_⟩:=x
  exact⟨_,q⟩
 |own y=>exact x
 |xd fs=>
  obtain⟨_,⟨o,_,_,q,_⟩,_⟩:=x
  exact⟨_,q⟩
 |rng lo hi=>
  obtain⟨_,_,_,q⟩:=x
  exact⟨_,q⟩
 |frz o u=>exact⟨_,x.1⟩
 |tbl ps=>exact⟨_,x⟩
 |met f y=>exact⟨_,x⟩
 |ext φ=>exact x.2.1
theorem Xp {P:Program}{w:World}{H:Hp}{h:Heap}{a:Addr}(x:HOk P w H h) (n:h.get? a=none):H a=none:=by
 cases q:H a with
 |none=>rfl
 |some o=>
  obtain⟨u,z⟩:=Vn (x a o q)
  rw [n] at z
  cases z
structure XMake (K:W.Frag) (C:Addr):Prop where
 ex:∃ B nid iid bmB,ExcBaseFacts B nid iid bmB/\excIn K C bmB nid=true
theorem XMake.obj {K:W.Frag}{C:Addr}{h:Heap}(m:XMake K C) (X:K.In h):∃ B nid iid bmB,ExcBaseFacts B nid iid bmB/\∃ bm ns nm qn bs hd sn sub ab col dd k0 k1 k2 k3 k5 mN,
  h.get? C=some (excClassObj nm qn C ns bs bm hd sn sub ab col dd k0 k1 k2 k3 k5 nid)/\h.Ns ns mN/\mN "__init__" =none/\OwnTail h bmB bm:=by
 obtain⟨B,nid,iid,bmB,F,z⟩:=m.ex
 refine⟨B,nid,iid,bmB,F,?_⟩
 unfold excIn at z
 split at z
 ·rename_i d0 c0 s0 lk0
  split at z
  ·rename_i A0 tl j0 j1 j2 j3 nm0 j5 hm0 hs0
   rw [Bool.and_eq_true,Bool.and_eq_true,Bool.and_eq_true,Bool.and_eq_true,Bool.and_eq_true] at z
   obtain⟨⟨⟨⟨⟨z1,z2⟩,z3⟩,z4⟩,z5⟩,z6⟩:=z
   rw [beq_iff_eq.mp z1] at hm0
   rw [beq_iff_eq.mp z2] at hs0
   obtain⟨n0,b0,r0,y0,q0,h0,t0,u0,a0,l0,del0⟩:=c0
   have e3:del0=false:=by simpa using z3
   have e1:r0=.ref C :: tl:=hm0
   have e2:s0= #[j0,j1,j2,j3,some (.builtin nid),j5]:=by
    cases s0
    exact congrArg Array.mk hs0
   subst e1 e2 e3
   have g1:=Heap.Ns.of_isNs (isNs_of_in X z5)
   have g2:=nsMap_none_of_in X z5 (beq_iff_eq.mp z6)
   exact⟨tl,y0,n0,q0,b0,h0,t0,u0,a0,l0,d0,j0,j1,j2,j3,j5,_,X _ _ lk0,g1,g2,tail_of_in X z4⟩
  ·cases z
 ·cases z
def Xq (t:TA) (C:Addr) (W:XK):TS:=fun _ σ H=>t σ H fun vs H1=>vs.length≤sizeLine/\W (.ref C) none H1
theorem uy {z:Bool}{X:Cx}{W:XK}{C:Addr}{x:Str}{np cpos pos:Pos}{e:Expr}{es:List Expr}{t:TA}(L:ux z X W) (m:XMake X.K C) (hc:X.calm=true) (hg:Gl X x) (hm:X.mg x=some (.ref C)) (ha:PA X (e :: es) t)
  (hs:starEach (e :: es) X.env=(false,eval e X.env) :: starEach es X.env:=by rfl) (hpl:(backTo cpos (starEach (e :: es) X.env)).any (·.1)=false:=by rfl) (hdb:(x == ("__debug__":Str))=false:=by decide) :
  PS X (.Raise (some (.Call (.Name x np) (e :: es) [] cpos)) none pos) (Xq t C W):=by
 intro pins s σ H D I h
 obtain⟨B,nid,iid,bmB,F,bm,ns,nm,qn,bs,hd,sn,sub,ab,col,dd,k0,k1,k2,k3,k5,mN,lc,ln,hni,TL⟩:=m.obj I.mod.kin
 refine wpAny_Raise_call_subT (nm:=nm) (q:=qn) (N:=ns) (bs:=bs) (hdct:=hd) (sn:=sn) (sub:=sub) (ab:=ab) (col:=col) (dd:=dd) (k0:=k0) (k1:=k1) (k2:=k2) (k3:=k3) (k5:=k5) F (TL.hasType F.hasBase) (I.ok.hd hc) hpl hni (ud I hg hm ⟨rfl,?_⟩ hdb)
 have ar:=ha cpos pins s σ H _ I h
 rw [hs] at ar ⊢
 refine evalArgs_plain (thn ar fun us s1 ⟨vs,H1,I1,r,z,q⟩=>?_)
 refine⟨rfl,by rw [<- r.length];exact z,I1.bk _ _ lc,ln.keeps I1.bk,TL.keeps I1.bk,fun h' e' M=>?_⟩
 obtain⟨t0,ht,_,_⟩:=M.there
 have I2:Inv X pins σ H1 { s1 with heap:=h' }:=I1.kept (t':=s1.toks) M.keeps
 refine L _ _ ⟨pins,σ,H1,e',C,[e'],rfl,I2,⟨_,_,ht,⟨rfl,rfl⟩,rfl,⟨Nat.lt_of_sub_pos (Nat.zero_lt_succ 4),fun _=>rfl⟩,.inl ⟨rfl,rfl⟩⟩,fun b hb=>?_,q⟩
 cases List.mem_singleton.mp hb
 exact I1.fpX M.new (Xp I1.hok M.new)
theorem Fun.okX {z:Bool}{P:Program}{w:World}{K:W.Frag}{mg:Str->Option Value}{base:Heap}{x qual:Str}{st:Stmt}{f:Addr}{fd:FuncData}{N ps:List Str}{k:Nat}{sp:Sp}(F:Fun K x qual st f fd) (S:FnScope N ps (defScope st))
    (len:∀ vs H Q E,sp vs H Q E->vs.length=ps.length)
    (hbody:∀ (cdv:Value) (A:Around) (outer:List Env) (s:Shared) (H:Hp) (vs:List V) (Q:VK) (E:XK),Room k (A.deeper (envOfC qual (defScope st) s.heap.objs.size f cdv))->sp vs H Q E->
      ∃ t,PSs (uu (CXz z P w) P w K mg base N qual (defScope st) f cdv A outer s H E) (defBody st) t/\t { nx:=fun _ H'=>Q .non H',rt:=Q } (start N vs) H):FnOk P w K mg base (CXz z P w) (k+1) f fd ps sp:=by
  obtain⟨oc,od,kV,doc,pm,an,cdv,ct,osl,rfl,lk,hcd⟩:=F.ex
  exact zbq lk hcd S len fun A outer s H vs Q E hr hsp=>hbody cdv A outer s H vs Q E hr hsp
noncomputable abbrev Cx.tried (X:Cx) (pins:List (Addr×Obj)) (Z:Value->Shared->Prop):Cx:={ X with pn:=X.pn ++ pins,xe:=Z }
noncomputable abbrev Cx.suite (X:Cx) (pins:List (Addr×Obj)) (e:Addr):Cx:={ X with A:=X.A.mark (some (.ref e)),calm:=false,pn:=X.pn ++ pins,xe:=fun _ _=>False }
section
variable {X:Cx}{pins ps:List (Addr×Obj)}{σ:St}{H:Hp}{s:Shared}{Z:Value->Shared->Prop}{e:Addr}
theorem Inv.tried (I:Inv X pins σ H s) (Z:Value->Shared->Prop):Inv (X.tried pins Z) [] σ H s:=
 ⟨⟨I.ok.mod,I.ok.kind,I.ok.glob,I.ok.blt,I.ok.above,I.ok.inj,I.ok.has,I.ok.cab,I.ok.hd,I.ok.frames,I.ok.stk,I.ok.exf,I.ok.bs,I.ok.bsz,I.ok.noex,I.ok.exfs,I.ok.funs,I.ok.frf⟩,
  I.os,I.bare,I.base,I.loc,I.cell,I.free,I.freeC,fun p hp=>I.pin p (by simpa using hp),I.hok,I.len⟩
theorem Inv.untried (I:Inv (X.tried pins Z) ps σ H s):Inv X pins σ H s:=
 ⟨⟨I.ok.mod,I.ok.kind,I.ok.glob,I.ok.blt,I.ok.above,I.ok.inj,I.ok.has,I.ok.cab,I.ok.hd,I.ok.frames,I.ok.stk,I.ok.exf,I.ok.bs,I.ok.bsz,I.ok.noex,I.ok.exfs,I.ok.funs,I.ok.frf⟩,
  I.os,I.bare,I.base,I.loc,I.cell,I.free,I.freeC,fun p hp=>I.pin p (List.mem_append_left _ hp),I.hok,I.len⟩
theorem Inv.suite (I:Inv X pins σ H s) (e:Addr) (hz:(X.A.mark (some (.ref e))).frames=X.A.frames):Inv (X.suite pins e) [] σ H s:=
 ⟨⟨I.ok.mod,I.ok.kind,I.ok.glob,I.ok.blt,I.ok.above,I.ok.inj,I.ok.has,I.ok.cab,fun z=>(Bool.noConfusion z),hz.trans I.ok.frames,I.ok.stk,I.ok.exf,I.ok.bs,I.ok.bsz,I.ok.noex,I.ok.exfs,I.ok.funs,I.ok.frf⟩,
  I.os,I.bare,I.base,I.loc,I.cell,I.free,I.freeC,fun p hp=>I.pin p (by simpa using hp),I.hok,I.len⟩
theorem Inv.unsuite (I:Inv (X.suite pins e) ps σ H s) (c:X.calm=true->X.A.handled=none) (hz:(X.A.mark (some (.ref e))).frames=X.A.frames):Inv X pins σ H s:=
 ⟨⟨I.ok.mod,I.ok.kind,I.ok.glob,I.ok.blt,I.ok.above,I.ok.inj,I.ok.has,I.ok.cab,c,hz.symm.trans I.ok.frames,I.ok.stk,I.ok.exf,I.ok.bs,I.ok.bsz,I.ok.noex,I.ok.exfs,I.ok.funs,I.ok.frf⟩,
  I.os,I.bare,I.base,I.loc,I.cell,I.free,I.freeC,fun p hp=>I.pin p (List.mem_append_left _ hp),I.hok,I.len⟩
theorem Inv.forget (I:Inv X pins σ H s):Inv X pins (List.replicate X.N.length none) H s:=
 I.weak (by rw [List.length_replicate];exact I.len.symm) fun i v q=>by
  rw [List.getElem?_replicate] at q
  split at q <;> cases q
theorem Je {M:Model}{A:Around}{E:Value->Shared->Prop}{n:Str}{pos:Pos}{Q:Unit->Shared->Prop}(I:Inv X pins σ H s) (hl:X.env.kindOf n=some .local) (h:∀ s',Inv X pins (List.replicate X.N.length none) H s'->Q () s') :
  wpAny M A (do bindName X.env n .none;unbindBehindTheSuite X.env n pos) Q E s:=by
 obtain⟨m,hn,_⟩:=id I.loc
 obtain⟨oL,_,_,hoL,_⟩:=id hn
 refine wpAny_nameGoes hl hn (by rw [I.ok.kind];rfl) fun h' m' hn' hs=>h _ ?_
 have kp:∀ b o,b≠X.env.locals->s.heap.get? b=some o->h'.get? b=some o:=fun b o nb q=>(hs.2 b nb).trans q
 have far:∀ b o,X.s₀.heap.get? b=some o->b≠X.env.locals:=fun b o q z=>absurd (Heap.lt_size q) (by rw [z];exact Nat.not_lt.mpr I.ok.above)
 have u:=I.base
 refine⟨I.ok,I.os,I.bare,⟨fun b o q nn hb hx=>kp b o (far b o q) (u.keep b o q nn hb hx),fun b o q nn hb hx=>?_,u.free,fun b o q hx=>?_,u.tups,u.frzs,u.tbls⟩,⟨m',hn',fun i x v _ q _=>?_⟩,fun x c q=>?_,I.free,I.freeC,fun p hp=>?_,fun b ob q=>?_,List.length_replicate⟩
 ·obtain⟨sl,q1⟩:=u.slot b o q nn hb hx
  exact⟨sl,kp b _ (far b o q) q1⟩
 ·obtain⟨o',q1⟩:=u.there b o q hx
  exact⟨o',kp b o' (far b o q) q1⟩
 ·rw [List.getElem?_replicate] at q
  split at q <;> cases q
 ·obtain⟨v,o,ho,hd⟩:=I.cell x c q
  exact⟨v,o,kp c o (I.cne x c q) ho,hd⟩
 ·obtain⟨q,nn,ne,nf,d⟩:=I.pin p hp
  exact⟨kp p.1 p.2 ne q,nn,ne,nf,d⟩
 ·refine (I.hok b ob q).stay (fun c w' hc q2=>kp c w' (fun z=>?_) q2) (fun _ z=>z) fun _ _ z=>z
  have hcH:∃ o,H c=some o:=by
   rcases hc with z |z
   ·rw [z]
    exact⟨_,q⟩
   ·exact⟨_,z⟩
  obtain⟨oc,hoc⟩:=hcH
  rw [z,I.free] at hoc
  cases hoc
theorem Yu {z:Bool}{M:Model}{A:Around}{E:Value->Shared->Prop}{e C T:Addr}{fs:List Addr}{Q:Unit->Shared->Prop}(F:xm z s.heap e C [e,T]) (h:∀ h',Noted fs [e,T] s.heap h'->xm z h' e C [e,T]->Q () { s with heap:=h' }) :
  wpAny M A (setFlight (.ref e) none) Q E s:=by
 obtain⟨oe,vs,he,hc,hd,hz,⟨_,z⟩ | ⟨T',oT,ts,h1,nT,hT,hdT,h3,z⟩⟩:=F
 ·cases z
 ·cases z
  unfold setFlight
  refine wpAny_bind (wpAny_field he hd h1 ?_)
  rw [if_pos (show (Value.ref T != Value.none)=true from by simp)]
  obtain⟨q3,h3⟩:=h3
  have l3:=(Array.getElem?_eq_some_iff.mp h3).1
  refine wpAny_setField hT hdT l3 ?_
  have d4:=Obj.data_mapFields hdT (·.setIfInBounds 3 ((none:Option Addr).elim Value.none fun f=>rawInt f))
  have g4:=Heap.get?_update_self (Obj.mapFields (·.setIfInBounds 3 ((none:Option Addr).elim Value.none fun f=>rawInt f))) hT (Obj.isFreed_of_fields d4)
  have oth:∀ b,b≠T->(s.heap.update T (Obj.mapFields (·.setIfInBounds 3 ((none:Option Addr).elim Value.none fun f=>rawInt f)))).get? b=s.heap.get? b:=fun b hb=>Heap.get?_update_other _ _ (Ne.symm hb)
  refine h _ ⟨fun b o q nb _=>(oth b fun z=>nb (by simp [z])).trans q,fun b o q nb=>⟨o.slots,(oth b fun z=>nb (by simp [z])).trans q⟩,fun b o q=>?_⟩ ⟨oe,vs,(oth e (Ne.symm nT)).trans he,hc,hd,hz,.inr ⟨T,_,_,h1,nT,g4,d4,?_,rfl⟩⟩
  ·by_cases z:b=T
   ·rw [z]
    exact⟨_,g4⟩
   ·exact⟨o,(oth b z).trans q⟩
  ·exact⟨_,Array.getElem?_setIfInBounds_self_of_lt l3⟩
def K0 (tb:TS) (G:VK->Prop):TS:=fun D σ H=>tb D σ H/\G D.rt
theorem zd5 {body:List Stmt}{x n:Str}{np hpos pos:Pos}{b0:Stmt}{suite:List Stmt}{tb:TS}{W:XK}{G:VK->Prop}{i N:Nat}{D:Addr}(hN:X.N.length=N) (hnd:X.N.Nodup) (hi:X.N[i]? =some n) (hl:X.env.kindOf n=some .local)
  (hg:Gl X x) (hm:X.mg x=some (.ref D)) (hx:∀ C H,W (.ref C) none H->exmOne X.K (.ref C) (.ref D)=some true)
  (hb:∀ pins Z,jN (X.tried pins Z) W->PSs (X.tried pins Z) body tb)
  (hs:∀ pins e C oe H' rt,W (.ref C) none H'->H' e=none->(e,oe)∈pins->(oe.cls=.ref C/\oe.dict=none)->(∃ vs,oe.data=.fields vs)->G rt->∃ ts,PSs (X.suite pins e) (b0 :: suite) ts/\ts { nx:=fun _ _=>False,rt:=rt } ((List.replicate N none).set i (some (.ref e))) H')
  (hst:X.stack=X.env :: X.outer:=by rfl) (hfr:X.env.frame=some X.env.locals:=by rfl) (hdb:(x == ("__debug__":Str))=false:=by decide) :
  PS X (.Try body [.ExceptHandler (some (.Name x np)) (some n) (b0 :: suite) hpos] [] [] pos) (K0 tb G):=by
 intro pins s σ H B I ⟨h1,h2⟩
 refine wpAny_Try_except ?_
 have mono:∀ Z,jN (X.tried pins Z) W->wpAny (model X.prog X.w) X.A (execs body X.env) (fun f s₁=>match f with |.next=>wpAny (model X.prog X.w) X.A (execs [] X.env) (SP X pins B) X.xe s₁ |f=>SP X pins B f s₁) Z s:=fun Z L=>by
  refine wpAny_mono (hb pins Z L [] s σ H B (I.tried Z) h1) (fun f s1 q=>?_) fun _ _ z=>z
  cases f with
  |next=>
   obtain⟨σ',H',J,q⟩:=q
   exact wpAny_execs_nil ⟨σ',H',J.untried,q⟩
  |brk=>
   obtain⟨σ',H',J,q⟩:=q
   exact⟨σ',H',J.untried,q⟩
  |cont=>
   obtain⟨σ',H',J,q⟩:=q
   exact⟨σ',H',J.untried,q⟩
  |ret u=>
   obtain⟨v,σ',H',J,r,q⟩:=q
   exact⟨v,σ',H',J.untried,r,q⟩
 refine mono _ ?_
 rintro ev s' ⟨pins',σ',H',e,C,fp,rfl,I',F,hf,hw⟩
 have fr:X.A.frames=some (X.env :: X.outer):=I.ok.frames.trans (by rw [hst])
 have st:s'.heap.FunFrames X.base (X.env :: X.outer):=by
  have z:=I'.stack
  rw [show (X.tried pins _).stack=X.env :: X.outer from hst] at z
  exact z
 refine ZK (base:=X.base) (outer:=X.outer) fr st hfr F fun h' T z1 z2 NN F'=>?_
 rw [<- hst] at NN
 have fT:FpX X pins H' T:=by
  rcases z1 with z1 |z1
  ·exact (I'.untried).fpX (Heap.get?_none_of_le z1) (I'.hok.fresh z1)
  ·obtain⟨k0,k1,k2,k3,k4,k5⟩:=hf T z1
   exact⟨k0,k1,k2,k3,k4,fun p hp=>k5 p (List.mem_append_left _ hp)⟩
 have fe:FpX X pins H' e:=by
  obtain⟨k0,k1,k2,k3,k4,k5⟩:=hf e F.self
  exact⟨k0,k1,k2,k3,k4,fun p hp=>k5 p (List.mem_append_left _ hp)⟩
 have I2:Inv X pins (List.replicate X.N.length none) H' { s' with heap:=h' }:=(I'.noted NN hf).untried.forget
 have I3:=I2.suite e rfl
 have hfp:∀ b∈[e,T],FpX X pins H' b:=fun b hb=>by
  rcases List.mem_cons.mp hb with z |z
  ·rw [z]
   exact fe
  ·rw [List.mem_singleton.mp z]
   exact fT
 refine wpAny_handleBy_cons (codeAny_handlers_test (ud I3 hg hm ?_ hdb)) (by intro q;cases q)
 have LT:Looks (model X.prog X.w) h' (typeOf (.ref e)) (.ref C):=by
  obtain⟨oe,_,he,hc,_⟩:=F'
  exact hc.1 ▸ (Looks.ld he).andThen .now
 refine (exm_one I3.kIn LT (hx C H' hw)).here ?_
 refine codeAny_handlers_suite_as (Yu (fs:=frs X.stack) F' fun h5 N5 F5=>?_)
 have I5:Inv X pins (List.replicate X.N.length none) H' { s' with heap:=h5 }:=I2.noted N5 hfp
 obtain⟨oe,vs,he,hc,hd,_⟩:=F5
 have I6:Inv X (pins ++ [(e,oe)]) (List.replicate X.N.length none) H' { s' with heap:=h5 }:=I5.pins_of fun p hp=>by
  rcases List.mem_append.mp hp with z |z
  ·exact I5.pin p (List.mem_append_right _ z)
  ·rw [List.mem_singleton.mp z]
   exact⟨he,fe.1,fe.2.1,fe.2.2.1,fun v q=>by rw [hd] at q;cases q⟩
 have I7:=I6.suite e rfl
 refine kh (X:=X.suite (pins ++ [(e,oe)]) e) I7 hnd hi (.inl hl) (v:=.ref e) rfl (fun s6 I8=>?_) (.inr hl)
 obtain⟨ts,ht,g⟩:=hs (pins ++ [(e,oe)]) e C oe H' _ hw fe.1 (by simp) hc ⟨vs,hd⟩ h2
 rw [<- hN] at g
 refine wpAny_mono (ht [] s6 _ H' _ I8 g) (fun f s7 q=>?_) fun _ _ z=>z.elim
 cases f with
 |next=>
  obtain⟨_,_,_,q⟩:=q
  exact q.elim
 |brk=>
  obtain⟨_,_,_,q⟩:=q
  exact q.elim
 |cont=>
  obtain⟨_,_,_,q⟩:=q
  exact q.elim
 |ret u=>
  obtain⟨v,σ7,H7,J,r,q⟩:=q
  have J2:=J.unsuite I.ok.hd rfl
  refine Je J2 hl fun s8 J3=>⟨v,_,H7,J3.pins_of fun p hp=>J3.pin p ?_,r,q⟩
  exact List.mem_append_right _ (List.mem_append_left _ hp)
theorem xL {C:Addr}{oe:Obj}(XC:XClass X.K C) (hp:(e,oe)∈X.pn) (hc:oe.cls=.ref C/\oe.dict=none) (hd:∃ vs,oe.data=.fields vs) :
  y8 X (.builtin "isinstance") (fun xs H Q=>(∃ D b,xs=[.ref e,.ref D]/\kitOne X.K (.ref C) (.ref D)=some b/\Q (.bl b) H)\/∃ n b,xs=[.ref e,.ty n]/\kitOne X.K (.ref C) (.type n)=some b/\Q (.bl b) H):=by
 intro pins s σ H xs us Q I r h
 have at0:InstAt s.heap e oe C none:=by
  obtain⟨vs,hd⟩:=hd
  refine⟨(I.pin _ (List.mem_append_left _ hp)).1,hc.1,?_,?_⟩
  ·unfold notCls
   rw [hd]
  ·rw [hc.2]
   trivial
 rcases h with⟨D,b,rfl,k,q⟩ | ⟨n,b,rfl,k,q⟩
 ·obtain⟨u,c,rfl,ru,rc⟩:=r.two
  cases ru
  cases rc
  exact kia_one (Xo (oe:=oe) XC) I.kIn at0 k (fun z=>nomatch z) fun tk=>⟨.bl b,H,I.tok tk,rfl,q⟩
 ·obtain⟨u,c,rfl,ru,rc⟩:=r.two
  cases ru
  cases rc
  exact kia_one (Xo (oe:=oe) XC) I.kIn at0 k (fun z=>nomatch z) fun tk=>⟨.bl b,H,I.tok tk,rfl,q⟩
end
structure CalXz (z:Bool) (P:Program) (w:World) (K:W.Frag) (mg:Str->Option Value) (base:Heap) (k:Nat) (x:Str) (dvs:List V) (sp:Sp):Prop where
 ex:∃ (f:Addr) (fd:FuncData) (ps:List Str) (ds:List Value),FnOk P w K mg base (CXz z P w) k f fd ps sp/\mg x=some (.ref f)/\keepIn K (.ref f)=true/\Binds K fd ps ds/\Vals dvs ds
noncomputable abbrev CalX:=CalXz false
theorem zbs {z:Bool}{X:Cx}:qh (CXz z X.prog X.w) X E0:=by
 rintro pins σ H s ev s' I ⟨e,C,fp,H',rfl,F,hf,os,bare,un,hok,hw⟩
 exact hw.elim
theorem vj {z:Bool}{X:Cx}{k:Nat}{sp:Sp}{dvs:List V}{W:XK}{x:Str}{p pos:Pos}{e:Expr}{es:List Expr}{t:TA}(c:CalXz z X.prog X.w X.K X.mg X.base k x dvs sp) (ps:qh (CXz z X.prog X.w) X W) (hr:Room k X.A) (hg:Gl X x) (ha:PA X (e :: es) t)
  (hdb:(x == ("__debug__":Str))=false:=by decide) (hse:starEach (e :: es) X.env=(false,eval e X.env) :: starEach es X.env:=by rfl) (hpl:(backTo pos (starEach es X.env)).any (·.1)=false:=by rfl) :
  PE X (.Call (.Name x p) (e :: es) [] pos) (xT sp dvs W t):=by
 obtain⟨f,fd,qs,ds,F,hm,hk,hb,hd⟩:=c.ex
 exact VN F hr hg hm hk hb hd ps ha hdb hse hpl
end L2
namespace L2
open PySem PySem.Spec PyProof.Rows
section
variable {X:Cx}{pins:List (Addr×Obj)}{σ:St}{H:Hp}{s:Shared}{N:List Str}{n:Nat}{js:List Nat}{scope:Scope}{cl:List (Str×Addr)}{y:Str}
end
section
variable {κ:Type} [DecidableEq κ]
end
section
variable {P:Program}{w:World}{H:Hp}{h:Heap}{a:Addr}
end
section
variable {X:Cx}{pins:List (Addr×Obj)}{σ:St}{H:Hp}{s:Shared}{a:Addr}{y v:V}{u r:Value}{o:Option V}{A:Around}{E:Value->Shared->Prop}
theorem Inv.big (I:Inv X pins σ H s):sysModules < s.heap.objs.size:=by
 have h:mainGlobals < s.heap.objs.size:=(I.mod.glob.keeps I.bk).lt
 exact Nat.lt_trans (by decide) h
end
section
variable {X:Cx}{pins:List (Addr×Obj)}{σ:St}{H:Hp}{s:Shared}{a:Addr}{kvs:List (Key×V)}{k:Key}{u:Value}{A:Around}{E:Value->Shared->Prop}
end
section
variable {X:Cx}{o i e value:Expr}{pos pos' tpos:Pos}{td ty tv:TE}
end
theorem K1 {P:Program}{w:World}{H:Hp}(h:Heap) (hb:sysModules < h.objs.size):yq P w H (h.push { cls:=.type "dict",data:=.dict #[] }) h.objs.size (.dK []):=
 ⟨Nat.zero_le _,beq_eq_false_iff_ne.mpr (Ne.symm (Nat.ne_of_lt hb)),[],.nil,Heap.DictOf.new h⟩
def Jf:TE:=fun _ H Q=>∀ p,H p=none->Q (.ref p) (upd H p (.dK []))
section
variable {X:Cx}{pos:Pos}
theorem K2:PE X (.Dict [] [] pos) Jf:=fun pins s σ H Q I h=>
 wpAny_Dict_empty ⟨.ref s.heap.objs.size,_,I.laid (a:=s.heap.objs.size) (o:=.dK []) (t':=s.toks) (fun _ _ q=>Heap.get?_push_of_some _ q) (Nat.le_refl _) (K1 s.heap I.big),rfl,h _ (I.hok.fresh (Nat.le_refl _))⟩
end
section
variable {X:Cx}{pins:List (Addr×Obj)}{σ:St}{H:Hp}{s:Shared}{a:Addr}{y d:V}{u r:Value}{o:Option V}{A:Around}{E:Value->Shared->Prop}
end
section
variable {X:Cx}{o e f:Expr}{apos cpos:Pos}{td ty tx:TE}
end
section
variable {X:Cx}{pins:List (Addr×Obj)}{σ:St}{H:Hp}{s:Shared}{a:Addr}{kvs:List (Key×V)}{A:Around}{E:Value->Shared->Prop}
end
section
variable {X:Cx}{pins:List (Addr×Obj)}{σ:St}{H:Hp}{s:Shared}{a:Addr}{y:V}{u:Value}{A:Around}{E:Value->Shared->Prop}
end
end L2
namespace PySem
section
variable {prog:Program}{w:World}{A:Around}{E:Value->Shared->Prop}{s:Shared}
end
section
variable {prog:Program}{w:World}{A:Around}{K:Type} [DecidableEq K] {knd:KeyKind prog w K}
end
end PySem
namespace PySem
open PySem PySem.W PySem.Calls PyProof.Rows
section
variable {prog:Program}{w:World}{A:Around}{E:Value->Shared->Prop}{s:Shared}{T:String}{r d:Addr}{n:Nat}{P:Nat->Value->Prop}{OK:Heap->Prop}
end
end PySem
namespace L2
open PySem PySem.Spec PyProof.Rows
theorem Inv.turnedL {X:Cx}{pins:List (Addr×Obj)}{σ:St}{H:Hp}{s:Shared}{h':Heap}{t':Nat}{fp:List Addr}(I:Inv X pins σ H s) (k:∀ b o,b ∉ fp->s.heap.get? b=some o->h'.get? b=some o)
  (hf:∀ b∈fp,FpOk X pins H b):Inv X pins σ H { s with heap:=h',toks:=t' }:=by
 have nit:∀ b u,H b=some u->b ∉ fp:=fun b u e z=>by rw [(hf b z).1] at e;cases e
 refine I.step (g':=s.gens) (d':=s.drawn) (ch:=fp) (fun b hb=>?_) (fun b o _ _ hc e _=>k b o hc e) (fun b o _ _ hc e _=>⟨o.slots,k b o hc e⟩) (fun _ _ _ _ n=>n)
  (fun b o hc e=>⟨o,k b o hc e⟩) (fun _ _ e=>e) (fun _ _ _ e=>e) (fun b ps e=>⟨#[],by rw [e];simp⟩) (fun m hm=>?_) (fun b u e=>?_) I.bare
 ·obtain⟨f0,f1,f2,f3,f4,f5⟩:=hf b hb
  exact⟨f3,f1,f4,f5⟩
 ·obtain⟨o,es,ep,ho,r⟩:=hm
  exact⟨o,es,ep,k _ o (fun z=>(hf _ z).2.1 rfl) ho,r⟩
 ·refine (I.hok b u e).stay (fun c v hc q=>k c v ?_ q) (fun _ q=>q) fun _ _ q=>q
  rcases hc with z |z
  ·rw [z];exact nit b u e
  ·exact nit c _ z
noncomputable def Ite (K:W.Frag) (a:Addr):It:=
 ⟨fun i H=>∃ xs x,SqL K H a xs/\xs[i]? =some x,fun i H x H'=>∃ t y,x=.ref t/\H t=none/\H'=upd H t (.tup [.int i,y])/\∀ xs,SqL K H a xs->xs[i]? =some y,fun i H=>∃ xs,SqL K H a xs/\xs.length≤i⟩
theorem Jg {P:Program}{w:World}{K:W.Frag}{es:List Expr}{k:Nat}{pos:Pos}(a e it:Addr) (hne:e≠it) :
    Turn P w K (.Tuple es k pos) (Ite K a) [e,it] e (fun i h=>(∃ old,IsEnum h e it (i:Nat) old)/\h.IsListIter it a i) where
  mem:=by simp
  obj:=fun i h st b hb=>by
    obtain⟨⟨old,he⟩,o,e1,c,d⟩:=st
    have hb':b=e\/b=it:=by simpa using hb
    rcases hb' with rfl |rfl
    · exact⟨_,he,fun v z=>by
        have z':Data.fields _=Data.cell v:=z
        cases z'⟩
    · exact⟨o,e1,fun v z=>by rw [d] at z;cases z⟩
  keep:=fun i h h' st k=>⟨st.1.elim fun old he=>⟨old,k e (by simp) _ he⟩,st.2.at fun o q=>k it (by simp) o q⟩
  item:=by
    intro X hP hw hK hc i pins s σ H E I hf st hg
    subst hP hw hK
    obtain⟨⟨old,he⟩,hit⟩:=st
    obtain⟨xs,x,hq,hx⟩:=hg
    obtain⟨its,rv,p,hz⟩:=I.list hq
    obtain⟨u,hu,ru⟩:=rv.get hx
    refine wpAny_pyNext_enum_item he hit p.isList (x:=u) (by simpa using hu) hne fun h' he' hit' ht hsz kk=>?_
    refine⟨_,rfl,wpAny_letOwnedTupleGo_enum he' fun h2 he2 sb=>?_⟩
    have hn:=I.hok.fresh (Nat.le_refl s.heap.objs.size)
    have I1:Inv X pins σ (upd H s.heap.objs.size (.tup [.int i,x])) { s with heap:=s.heap.push { cls:=.type "tuple",data:=.seq [Value.int i s.toks,u].toArray },toks:=s.toks+1 }:=
      I.laid (fun b o e=>Heap.get?_push_of_some _ e) (Nat.le_refl _) ⟨by show 2≤sizeLine;decide,[Value.int i s.toks,u],.cons ⟨_,rfl⟩ (.cons ru .nil),IsTup.new s.heap _⟩
    have lt:∀ b∈[e,it],b≠s.heap.objs.size:=fun b hb=>by
      have hb':b=e\/b=it:=by simpa using hb
      rcases hb' with rfl |rfl
      · exact Nat.ne_of_lt (Heap.lt_size he)
      · obtain⟨o,e1,_⟩:=hit
        exact Nat.ne_of_lt (Heap.lt_size e1)
    have nt:∀ b∈[e,it],upd H s.heap.objs.size (.tup [.int i,x]) b=none:=fun b hb=>by rw [zg (lt b hb)];exact (hf b hb).1
    have I2:=I1.turnedL (h':=h2) (t':=s.toks+1) (fp:=[e,it]) (fun b o hb q=>by
      have h1:b≠e:=fun z=>hb (by simp [z])
      have h2':b≠it:=fun z=>hb (by simp [z])
      by_cases hbz:b=s.heap.objs.size
      · subst hbz
        have q':(s.heap.push { cls:=.type "tuple",data:=.seq #[Value.int i s.toks,u] }).get? s.heap.objs.size=some o:=q
        rw [Heap.get?_push_size s.heap (o:={ cls:=.type "tuple",data:=.seq #[Value.int i s.toks,u] }) rfl] at q'
        exact (sb.2 _ h1).trans (ht.trans q')
      · have q':(s.heap.push { cls:=.type "tuple",data:=.seq #[Value.int i s.toks,u] }).get? b=some o:=q
        rw [Heap.get?_push_ne _ _ _ hbz] at q'
        exact (sb.2 b h1).trans (kk b o h1 h2' q')) fun b hb=>⟨nt b hb,(hf b hb).2⟩
    have ei:((i:Int)+1)=(((i+1:Nat)):Int):=by omega
    refine⟨.ref s.heap.objs.size,_,I2,rfl,⟨_,x,rfl,hn,rfl,fun ys hy=>by rw [I.list_inj hy hq];exact hx⟩,⟨⟨_,ei ▸ he2⟩,hit'.at fun o q=>(sb.2 it (Ne.symm hne)).trans q⟩,nt⟩
  done:=by
    intro X hP hw hK hc i pins s σ H E I hf st hg
    subst hP hw hK
    obtain⟨⟨old,he⟩,hit⟩:=st
    obtain⟨xs,hq,hx⟩:=hg
    obtain⟨its,rv,p,hz⟩:=I.list hq
    have hl:=rv.length
    obtain⟨f0,f1,f2,f3,f4,f5⟩:=hf it (by simp)
    exact wpAny_pyNext_enum_end (I.ok.hd hc) he hit p.isList (by simp;omega) fun h' eb=>⟨rfl,I.turned (t':=s.toks) (fun b o hb e=>eb b o hb e) f0 f1 f3 f4 f5⟩
  self:=fun _ _ _ _ _ st h=>st.1.elim fun old he=>wpAny_pyIter_enum he h
def UW (K:W.Frag) (ta:TA):TI:=fun σ H R=>ta σ H fun vs H1=>∃ a,vs=[.ref a]/\(∃ xs,SqL K H1 a xs)/\R (Ite K a) H1
section
variable {X:Cx}
theorem zcq {es:List Expr}{k:Nat}{tp:Pos}{l:Expr}{ta:TA}{p pos:Pos}(hg:Gl X "enumerate") (hm:X.mg "enumerate" =none) (ha:PA X [l] ta) (hs:starEach [l] X.env=[(false,eval l X.env)]:=by rfl) :
  PI X (.Tuple es k tp) (.Call (.Name "enumerate" p) [l] [] pos) (UW X.K ta):=by
 intro pins s σ H R I h
 refine Call_ (vN I hg hm boot_enumerate (PyProof.Rows.callWith_type1 (thn (ha pos pins s σ H _ I h) fun us s1 ⟨vs,H1,I1,r1,q1⟩=>?_) hs rfl))
 obtain⟨a,e,⟨xs,hq⟩,q⟩:=q1
 subst e
 cases r1 with
 |cons r rr=>
  cases rr
  cases r
  obtain⟨its,rv,p,hz⟩:=I1.list hq
  refine call_enumerate_list p.isList fun h' hE hI hsz hk=>wpAny_pyIter_enum hE ?_
  refine⟨s1.heap.objs.size+1,[s1.heap.objs.size+1,s1.heap.objs.size],_,_,H1,rfl,I1.kept (t':=s1.toks) hk,Jg a _ _ (Nat.succ_ne_self _),⟨⟨_,hE⟩,hI⟩,fun b hb=>?_,q⟩
  have hb':b=s1.heap.objs.size+1\/b=s1.heap.objs.size:=by simpa using hb
  rcases hb' with rfl |rfl
  ·exact I1.fpOk (Nat.le_succ _) (I1.hok.fresh (Nat.le_succ _))
  ·exact I1.fpOk (Nat.le_refl _) (I1.hok.fresh (Nat.le_refl _))
end
section
variable {X:Cx}{tg:Expr}
def R3 (i j c:Int) (n:Nat):Prop:=c≠0/\Builtin.Range.small i j c=true/\Builtin.Range.rangeSize i j c=n/\Builtin.divisionGoesByPylong (j - i) c=false
end
section
variable {X:Cx}
end
section
variable {X:Cx}{pos:Pos}
end
section
variable {X:Cx}{k:Nat}{sp:Sp}{C:Addr}{x:Str}{p pos:Pos}{e:Expr}{es:List Expr}{t:TA}
end
theorem kT {X:Cx}{x:Str}{i:Int}{pos:Pos}(hg:Gl X x) (h:∃ t,X.mg x=some (.int i t)) (hd:(x == ("__debug__":Str))=false:=by decide):PE X (.Name x pos) (tC (.int i)):=by
 obtain⟨t,e⟩:=h
 exact xh hg e ⟨t,rfl⟩ hd
noncomputable def cE:Expr->Option V
 |.Constant (.int i) _ _=>some (.int i)
 |.Constant .none _ _=>some .non
 |.Constant (.bool b) _ _=>some (.bl b)
 |.Constant (.str x) _ _=>some (.str x)
 |_=>none
noncomputable def UX:List Expr->Option (List V)
 |[]=>some []
 |e :: es=>match cE e,UX es with
  |some v,some vs=>some (v :: vs)
  |_,_=>none
def tCs (vs:List V):TA:=fun _ H Q=>Q vs H
theorem zfB {X:Cx}{e:Expr}{v:V}(h:cE e=some v):PE X e (tC v):=by
 unfold cE at h
 split at h
 ·cases h;exact za
 ·cases h;exact xE
 ·cases h;exact x5
 ·cases h;exact zj
 ·cases h
theorem zcr {e:Expr}{v:V}(h:cE e=some v):Xm e=true:=by
 unfold cE at h
 split at h <;> first |rfl |cases h
theorem Jh {X:Cx}:∀ {es:List Expr}{vs:List V},UX es=some vs->QA X es (tCs vs)
 |[],vs,h=>by
  cases h
  exact qn
 |e :: es,vs,h=>by
  simp only [UX] at h
  split at h
  ·rename_i v ws h1 h2
   cases h
   exact qc (zfB h1) (Jh h2) (zcr h1)
  ·cases h
theorem zcs {X:Cx}{es:List Expr}{vs:List V}{pos:Pos}(h:UX es=some vs):PE X (.List es pos) (ZG (tCs vs)):=zR (Jh h)
end L2
namespace L2
open PySem PySem.W PySem.Calls PyProof.Rows
section
variable {X:Cx}
end
end L2
namespace PySem
open PySem PySem.W PySem.Calls PyProof.Rows
section
variable {prog:Program}{w:World}{A:Around}{R:Result->Shared->Prop}{I S:Addr}{fp wr:List Addr}{n:Nat}{P:Nat->Value->Prop}{St:Nat->Heap->Prop}
end
end PySem
namespace L2
open PySem PySem.W PySem.Calls PyProof.Rows
section
variable {X:Cx}{x:Str}{p pos:Pos}{e:Expr}{es:List Expr}{kws:List Keyword}{ks:List Str}{t tk:TA}{id:String}{r:List V->List V->Hp->VK->Prop}
end
end L2
namespace L2
open PySem PySem.Spec PyProof.Rows
section
variable {X:Cx}{k:Nat}{sp:Sp}{C:Addr}{m:Str}{apos pos:Pos}{o e:Expr}{es:List Expr}{ta:TE}{t:TA}
end
structure SV where
 wide:Int
 high:Int
 row:Int
 col:Int
 late:Bool
 ink:Int
 wrap:Bool
 putting:Bool
 home:Bool
 top:Int
 bottom:Int
 left:Int
 right:Int
 last:V
section
variable {p st kp:Addr}{S:SV}
end
section
variable {sl:Addr}{S:SV}
end
section
variable {X:Cx}{o i value:Expr}{td ty tv:TE}{pos pos':Pos}
end
theorem Yv {K:W.Frag}{H:Hp}:∀ ns:List Int,Reps K H (ns.map .int) (ns.map V.int)
 |[]=>rfl
 |n :: ns=>⟨_,_,rfl,rfl,Yv ns⟩
inductive W where
 |d (x:PyData)
 |own (a:Addr)
 |row (a:Addr) (i:Nat)
inductive OO where
 |lst (ws:List W)
 |dK (kvs:List (Key×W))
 |ins (C dx:Addr) (fs:List (Str×W))
 |grid (rows:List (List PyData))
 |raw (p:HO->Hp->Prop)
noncomputable abbrev OM:=Addr->Option OO
noncomputable def updO (O:OM) (a:Addr) (o:OO):OM:=fun b=>if b=a then some o else O b
noncomputable def del (O:OM) (a:Addr):OM:=fun b=>if b=a then none else O b
theorem zu {O:OM}{a:Addr}{o:OO}:updO O a o a=some o:=by simp [updO]
theorem zC {O:OM}{a b:Addr}{o:OO}(h:b≠a):updO O a o b=O b:=by simp [updO,h]
theorem vm {O:OM}{a:Addr}:del O a a=none:=by simp [del]
theorem xF {O:OM}{a b:Addr}(h:b≠a):del O a b=O b:=by simp [del,h]
theorem Ji {O:OM}{a:Addr}{o u:OO}:updO (updO O a o) a u=updO O a u:=by
 funext b;unfold updO;split <;> rfl
theorem neO {O:OM}{a b:Addr}{o:OO}(h:O a=some o) (h':O b=none):a≠b:=by
 intro e;subst e;rw [h] at h';cases h'
structure Gh where
 Z:Hp
 G:Addr->Option (List Addr)
 F:Hp
structure Le (Γ Γ':Gh):Prop where
 f:Γ'.F=Γ.F
 z:Same Γ.Z Γ'.Z
 g:∀ a rs,Γ.G a=some rs->∃ more,Γ'.G a=some (rs ++ more)
theorem Le.refl (Γ:Gh):Le Γ Γ:=⟨rfl,Same.refl _,fun _ rs h=>⟨[],by rw [List.append_nil];exact h⟩⟩
theorem Le.trans {Γ Γ1 Γ2:Gh}(a:Le Γ Γ1) (b:Le Γ1 Γ2):Le Γ Γ2:=⟨b.f.trans a.f,a.z.trans b.z,fun x rs h=>by
 obtain⟨m,h1⟩:=a.g x rs h
 obtain⟨m2,h2⟩:=b.g x _ h1
 exact⟨m ++ m2,by rw [<- List.append_assoc];exact h2⟩⟩
theorem Le.zOnly {Γ:Gh}{Z:Hp}(h:Same Γ.Z Z):Le Γ ⟨Z,Γ.G,Γ.F⟩:=⟨rfl,h,fun _ rs h=>⟨[],by rw [List.append_nil];exact h⟩⟩
section
variable (K:W.Frag)
noncomputable def relW (Γ:Gh):W->V->Prop
 |.d x,v=>Rep K Γ.Z x v
 |.own a,v=>v=.ref a
 |.row a i,v=>∃ rs r,Γ.G a=some rs/\rs[i]? =some r/\v=.ref r
noncomputable abbrev relWs (Γ:Gh):List W->List V->Prop:=Paired (relW K Γ)
noncomputable def jO (Γ:Gh):Option W->Option V->Prop
 |some w,some v=>relW K Γ w v
 |none,_=>True
 |_,_=>False
noncomputable abbrev relR (Γ:Gh):List (Option W)->St->Prop:=Paired (jO K Γ)
def kU {κ:Type}(Γ:Gh):List (κ×W)->List (κ×V)->Prop:=Paired fun p q=>p.1=q.1/\relW K Γ p.2 q.2
noncomputable def ObjW (Γ:Gh) (O:OM) (H:Hp) (a:Addr):OO->Prop
 |.lst ws=>∃ vs,H a=some (.lst vs)/\relWs K Γ ws vs
 |.dK kvs=>∃ vs,H a=some (.dK vs)/\kU K Γ kvs vs
 |.ins C dx fs=>∃ vs,H a=some (.ins C dx vs)/\kU K Γ fs vs
 |.grid rows=>∃ rs,Γ.G a=some rs/\H a=some (.lst (rs.map V.ref))/\rs.length=rows.length/\rs.Nodup/\
   ∀ (i:Nat) (r:Addr) (ds:List PyData),rs[i]? =some r->rows[i]? =some ds->Γ.Z r=none/\O r=none/\∃ vs,H r=some (.lst vs)/\Reps K Γ.Z ds vs
 |.raw p=>∃ o,H a=some o/\∀ Z,Same Γ.Z Z->p o Z
structure Sim (Γ:Gh) (O:OM) (H:Hp):Prop where
 z:Same Γ.Z H
 o:∀ a oo,O a=some oo->Γ.Z a=none/\ObjW K Γ O H a oo
 gd:∀ a rs,Γ.G a=some rs->∃ o,H a=some o
 f:Same Γ.F H
 gn:∀ a oo,O a=some oo->(∀ rows,oo≠.grid rows)->Γ.G a=none
 fg:∀ a o,Γ.F a=some o->Γ.G a=none
 fd:∀ a o,Γ.F a=some o->Γ.Z a=none/\O a=none/\∀ b rows rs,O b=some (.grid rows)->Γ.G b=some rs->a ∉ rs
 u:∀ a b ra rb rs ss r,O a=some (.grid ra)->O b=some (.grid rb)->Γ.G a=some rs->Γ.G b=some ss->r∈rs->r∈ss->a=b
end
section
variable {K:W.Frag}{Γ Γ':Gh}{O:OM}{H H':Hp}
theorem relW.mono (h:Le Γ Γ'):∀ {w:W}{v:V},relW K Γ w v->relW K Γ' w v
 |.d x,v,r=>Rep.same h.z x v r
 |.own a,v,r=>r
 |.row a i,v,⟨rs,r,e,f,g⟩=>by
  obtain⟨m,e'⟩:=h.g _ _ e
  have hi:i < rs.length:=(List.getElem?_eq_some_iff.mp f).1
  exact⟨rs ++ m,r,e',by rw [List.getElem?_append_left hi];exact f,g⟩
theorem relWs.mono (h:Le Γ Γ') {ws:List W}{vs:List V}(r:relWs K Γ ws vs):relWs K Γ' ws vs:=Paired.mapP r fun _ _ z=>z.mono h
theorem jO.mono (h:Le Γ Γ'):∀ {w:Option W}{v:Option V},jO K Γ w v->jO K Γ' w v
 |some w,some v,r=>relW.mono h r
 |none,_,_=>trivial
 |some _,none,r=>r.elim
theorem relR.mono (h:Le Γ Γ') {ρ:List (Option W)}{σ:St}(r:relR K Γ ρ σ):relR K Γ' ρ σ:=Paired.mapP r fun _ _ z=>z.mono h
theorem kU.mono {κ:Type}(h:Le Γ Γ') {a:List (κ×W)}{b:List (κ×V)}(r:kU K Γ a b):kU K Γ' a b:=Paired.mapP r fun _ _ z=>⟨z.1,z.2.mono h⟩
theorem relR.get {ρ:List (Option W)}{σ:St}:∀ {i:Nat}{w:W},relR K Γ ρ σ->ρ[i]? =some (some w)->∃ v,σ[i]? =some (some v)/\relW K Γ w v:=by
 intro i w r
 induction r generalizing i with
 |nil=>intro e;simp at e
 |cons h t ih=>
  rename_i x y xs ys
  intro e
  cases i with
  |zero=>
   simp at e
   subst e
   cases y with
   |none=>exact h.elim
   |some v=>exact⟨v,rfl,h⟩
  |succ i=>simpa using ih (i:=i) (by simpa using e)
theorem Paired.getP {α β:Type}{F:α->β->Prop}{xs:List α}{ys:List β}(r:Paired F xs ys):∀ {i:Nat}{x:α},xs[i]? =some x->∃ y,ys[i]? =some y/\F x y:=by
 induction r with
 |nil=>intro i x e;simp at e
 |cons h t ih=>
  intro i x e
  cases i with
  |zero=>simp at e;subst e;exact⟨_,rfl,h⟩
  |succ i=>simpa using ih (i:=i) (by simpa using e)
theorem Paired.getQ {α β:Type}{F:α->β->Prop}{xs:List α}{ys:List β}(r:Paired F xs ys):∀ {i:Nat}{y:β},ys[i]? =some y->∃ x,xs[i]? =some x/\F x y:=by
 induction r with
 |nil=>intro i x e;simp at e
 |cons h t ih=>
  intro i x e
  cases i with
  |zero=>simp at e;subst e;exact⟨_,rfl,h⟩
  |succ i=>simpa using ih (i:=i) (by simpa using e)
theorem Paired.setP {α β:Type}{F:α->β->Prop}{xs:List α}{ys:List β}{x:α}{y:β}(r:Paired F xs ys) (h:F x y):∀ {i:Nat},Paired F (xs.set i x) (ys.set i y):=by
 induction r with
 |nil=>intro i;exact .nil
 |cons g t ih=>
  intro i
  cases i with
  |zero=>exact .cons h t
  |succ i=>exact .cons g ih
theorem Paired.appP {α β:Type}{F:α->β->Prop}{xs xs':List α}{ys ys':List β}(r:Paired F xs ys) (s:Paired F xs' ys'):Paired F (xs ++ xs') (ys ++ ys'):=by
 induction r with
 |nil=>exact s
 |cons h t ih=>exact .cons h ih
theorem Paired.takeP {α β:Type}{F:α->β->Prop}{xs:List α}{ys:List β}(r:Paired F xs ys):∀ n,Paired F (xs.take n) (ys.take n):=by
 induction r with
 |nil=>intro n;simp;exact .nil
 |cons h t ih=>
  intro n
  cases n with
  |zero=>exact .nil
  |succ n=>exact .cons h (ih n)
theorem Paired.dropP {α β:Type}{F:α->β->Prop}{xs:List α}{ys:List β}(r:Paired F xs ys):∀ n,Paired F (xs.drop n) (ys.drop n):=by
 induction r with
 |nil=>intro n;simp;exact .nil
 |cons h t ih=>
  intro n
  cases n with
  |zero=>exact .cons h t
  |succ n=>exact ih n
theorem yj:∀ {ds:List PyData}{vs:List V},Reps K Γ.Z ds vs->relWs K Γ (ds.map .d) vs
 |[],_,h=>by rw [show _=[] from h];exact .nil
 |d :: ds,_,h=>by
  obtain⟨x,r,rfl,h1,h2⟩:=h
  exact .cons h1 (yj h2)
theorem zK:∀ {ds:List PyData}{vs:List V},relWs K Γ (ds.map .d) vs->Reps K Γ.Z ds vs
 |[],_,h=>by cases h;rfl
 |d :: ds,_,h=>by
  cases h with
  |cons a b=>exact⟨_,_,rfl,a,zK b⟩
noncomputable def zD (O:OM):W->Option (List W)
 |.d (.list ds)=>some (ds.map .d)
 |.own a=>match O a with
  |some (.lst ws)=>some ws
  |some (.grid rows)=>some ((List.range rows.length).map (.row a))
  |_=>none
 |.row a i=>match O a with
  |some (.grid rows)=>(rows[i]?).map (·.map .d)
  |_=>none
 |_=>none
noncomputable def xn:W->Option (List PyData)
 |.d (.tuple ds)=>some ds
 |_=>none
theorem uf {w:W}{v:V}{ds:List PyData}(S:Sim K Γ O H) (r:relW K Γ w v) (e:xn w=some ds):∃ a vs,v=.ref a/\SqT K H a vs/\relWs K Γ (ds.map .d) vs:=by
 cases w with
 |d x=>
  cases x with
  |tuple es=>
   simp [xn] at e
   subst e
   obtain⟨a,xs,e1,h1,h2⟩:=r
   exact⟨a,xs,e1,h1.same S.z,yj h2⟩
  |_=>simp [xn] at e
 |own a=>simp [xn] at e
 |row a i=>simp [xn] at e
theorem yy {w:W}{v:V}{ws:List W}(S:Sim K Γ O H) (r:relW K Γ w v) (e:zD O w=some ws):∃ a vs,v=.ref a/\SqL K H a vs/\relWs K Γ ws vs:=by
 cases w with
 |d x=>
  cases x with
  |list es=>
   simp [zD] at e
   subst e
   obtain⟨a,xs,e1,h1,h2⟩:=r
   exact⟨a,xs,e1,h1.same S.z,yj h2⟩
  |_=>simp [zD] at e
 |own a=>
  cases (show v=.ref a from r)
  simp only [zD] at e
  split at e
  ·rename_i us h
   cases e
   obtain⟨_,vs,h1,h2⟩:=S.o _ _ h
   exact⟨a,vs,rfl,SqL.of h1,h2⟩
  ·rename_i rows h
   cases e
   obtain⟨_,rs,hg,h1,hl,_,_⟩:=S.o _ _ h
   refine⟨a,_,rfl,SqL.of h1,?_⟩
   rw [<- hl]
   have key:∀ (ss:List Addr) (k:Nat),(∀ i,ss[i]? =rs[k+i]?)->relWs K Γ ((List.range' k ss.length).map (W.row a)) (ss.map V.ref):=by
    intro ss
    induction ss with
    |nil=>intro k _;exact .nil
    |cons s ss ih=>
     intro k hk
     refine .cons ⟨rs,s,hg,?_,rfl⟩ (ih (k+1) fun i=>?_)
     ·have:=hk 0;simpa using this.symm
     ·have:=hk (i+1)
      rw [List.getElem?_cons_succ] at this
      rw [this]
      congr 1
      omega
   have h0:=key rs 0 (fun i=>by rw [Nat.zero_add])
   rw [List.range_eq_range']
   exact h0
  ·cases e
 |row a i=>
  obtain⟨rs,r0,hg,hr,rfl⟩:=r
  simp only [zD] at e
  split at e
  ·rename_i rows h
   cases hi:rows[i]? with
   |none=>rw [hi] at e;cases e
   |some ds=>
    rw [hi] at e
    cases e
    obtain⟨_,rs',hg',h1,hl,_,hrow⟩:=S.o _ _ h
    rw [hg] at hg'
    cases hg'
    obtain⟨_,_,vs,h2,h3⟩:=hrow i r0 ds hr hi
    exact⟨r0,vs,rfl,SqL.of h2,yj h3⟩
  ·cases e
noncomputable def yh:List W->Option (List PyData)
 |[]=>some []
 |.d x :: ws=>(yh ws).map (x :: ·)
 |_ :: _=>none
theorem zf:∀ ds:List PyData,yh (ds.map .d)=some ds
 |[]=>rfl
 |d :: ds=>by simp [yh,zf ds]
theorem yE:∀ {ws:List W}{ds:List PyData},yh ws=some ds->ws=ds.map .d
 |[],ds,e=>by cases e;rfl
 |.d x :: ws,ds,e=>by
  simp [yh] at e
  obtain⟨es,h1,h2⟩:=e
  subst h2
  rw [yE h1]
  rfl
 |.own _ :: _,_,e=>by simp [yh] at e
 |.row _ _ :: _,_,e=>by simp [yh] at e
noncomputable def ZL (O:OM):W->Option PyData
 |.d x=>some x
 |.own a=>match O a with
  |some (.lst ws)=>(yh ws).map .list
  |some (.grid rows)=>some (.list (rows.map .list))
  |_=>none
 |.row a i=>match O a with
  |some (.grid rows)=>(rows[i]?).map .list
  |_=>none
theorem km {w:W}{v:V}{x:PyData}(S:Sim K Γ O H) (r:relW K Γ w v) (e:ZL O w=some x):Rep K H x v:=by
 cases w with
 |d y=>cases e;exact Rep.same S.z _ _ r
 |own a=>
  cases (show v=.ref a from r)
  simp only [ZL] at e
  split at e
  ·rename_i ws h
   cases hd:yh ws with
   |none=>rw [hd] at e;cases e
   |some ds=>
    rw [hd] at e
    cases e
    obtain⟨_,vs,h1,h2⟩:=S.o _ _ h
    rw [yE hd] at h2
    exact⟨a,vs,rfl,SqL.of h1,Reps.same S.z _ _ (zK h2)⟩
  ·rename_i rows h
   cases e
   obtain⟨_,rs,hg,h1,hl,_,hrow⟩:=S.o _ _ h
   refine⟨a,_,rfl,SqL.of h1,?_⟩
   have key:∀ (rows:List (List PyData)) (rs:List Addr),rs.length=rows.length->(∀ (i:Nat) (r:Addr) (ds:List PyData),rs[i]? =some r->rows[i]? =some ds->∃ vs,H r=some (.lst vs)/\Reps K Γ.Z ds vs)->Reps K H (rows.map .list) (rs.map V.ref):=by
    intro rows
    induction rows with
    |nil=>intro rs hl _;cases rs with |nil=>rfl |cons _ _=>simp at hl
    |cons row rows ih=>
     intro rs hl hr
     cases rs with
     |nil=>simp at hl
     |cons r rs=>
      obtain⟨vs,h1,h2⟩:=hr 0 r row rfl rfl
      exact⟨.ref r,_,rfl,⟨r,vs,rfl,SqL.of h1,Reps.same S.z _ _ h2⟩,ih rs (by simpa using hl) fun i r ds a b=>hr (i+1) r ds (by simpa using a) (by simpa using b)⟩
   exact key rows rs hl fun i r ds a b=>(hrow i r ds a b).2.2
  ·cases e
 |row a i=>
  obtain⟨rs,r0,hg,hr,rfl⟩:=r
  simp only [ZL] at e
  split at e
  ·rename_i rows h
   cases hi:rows[i]? with
   |none=>rw [hi] at e;cases e
   |some ds=>
    rw [hi] at e
    cases e
    obtain⟨_,rs',hg',h1,hl,_,hrow⟩:=S.o _ _ h
    rw [hg] at hg'
    cases hg'
    obtain⟨_,_,vs,h2,h3⟩:=hrow i r0 ds hr hi
    exact⟨r0,vs,rfl,SqL.of h2,Reps.same S.z _ _ h3⟩
  ·cases e
theorem Sim.free (S:Sim K Γ O H) {p:Addr}(hp:H p=none):Γ.Z p=none/\O p=none/\Γ.G p=none:=by
 refine⟨S.z.free hp,?_,?_⟩
 ·cases e:O p with
  |none=>rfl
  |some oo=>
   obtain⟨_,h⟩:=S.o _ _ e
   cases oo with
   |lst ws=>obtain⟨vs,h1,_⟩:=h;rw [hp] at h1;cases h1
   |dK ws=>obtain⟨vs,h1,_⟩:=h;rw [hp] at h1;cases h1
   |ins C dx ws=>obtain⟨vs,h1,_⟩:=h;rw [hp] at h1;cases h1
   |grid rows=>obtain⟨rs,_,h1,_⟩:=h;rw [hp] at h1;cases h1
   |raw p=>obtain⟨o,h1,_⟩:=h;rw [hp] at h1;cases h1
 ·cases e:Γ.G p with
  |none=>rfl
  |some rs=>
   obtain⟨o,h⟩:=S.gd _ _ e
   rw [hp] at h
   cases h
theorem ObjW.keep {a:Addr}{oo:OO}(h:ObjW K Γ O H a oo) (hl:Le Γ Γ') {O':OM}(ha:H' a=H a) (hG:Γ'.G a=Γ.G a) (hr:∀ rs r,Γ.G a=some rs->(∃ rows,oo=.grid rows)->r∈rs->H' r=H r/\Γ'.Z r=Γ.Z r/\O' r=O r):ObjW K Γ' O' H' a oo:=by
 cases oo with
 |lst ws=>obtain⟨vs,h1,h2⟩:=h;exact⟨vs,by rw [ha];exact h1,h2.mono hl⟩
 |dK ws=>obtain⟨vs,h1,h2⟩:=h;exact⟨vs,by rw [ha];exact h1,h2.mono hl⟩
 |ins C dx ws=>obtain⟨vs,h1,h2⟩:=h;exact⟨vs,by rw [ha];exact h1,h2.mono hl⟩
 |raw p=>obtain⟨o,h1,h2⟩:=h;exact⟨o,by rw [ha];exact h1,fun Z hZ=>h2 Z (hl.z.trans hZ)⟩
 |grid rows=>
  obtain⟨rs,hg,h1,h2,hn,h3⟩:=h
  refine⟨rs,by rw [hG];exact hg,by rw [ha];exact h1,h2,hn,fun i r ds e1 e2=>?_⟩
  obtain⟨q1,q2,q3⟩:=hr rs r hg ⟨rows,rfl⟩ (List.mem_of_getElem? e1)
  obtain⟨z1,z2,vs,z3,z4⟩:=h3 i r ds e1 e2
  exact⟨by rw [q2];exact z1,by rw [q3];exact z2,vs,by rw [q1];exact z3,Reps.same hl.z _ _ z4⟩
theorem Sim.rowIn (S:Sim K Γ O H) {a:Addr}{rows:List (List PyData)}{rs:List Addr}{r:Addr}(ho:O a=some (.grid rows)) (hg:Γ.G a=some rs) (hr:r∈rs):Γ.Z r=none/\O r=none/\∃ vs,H r=some (.lst vs):=by
 obtain⟨_,rs',hg',h1,hl,_,hrow⟩:=S.o _ _ ho
 rw [hg] at hg'
 cases hg'
 obtain⟨i,hi,rfl⟩:=List.mem_iff_getElem.mp hr
 obtain⟨z1,z2,vs,z3,_⟩:=hrow i rs[i] (rows[i]'(by omega)) (List.getElem?_eq_getElem hi) (List.getElem?_eq_getElem (by omega))
 exact⟨z1,z2,vs,z3⟩
theorem Sim.newD (S:Sim K Γ O H) {p:Addr}(hp:H p=none) (o:HO):Le Γ ⟨upd Γ.Z p o,Γ.G,Γ.F⟩/\Sim K ⟨upd Γ.Z p o,Γ.G,Γ.F⟩ O (upd H p o):=by
 obtain⟨hz,hO,hG⟩:=S.free hp
 have le:Le Γ ⟨upd Γ.Z p o,Γ.G,Γ.F⟩:=Le.zOnly (vi hz)
 have hF:=S.f.free hp
 refine⟨le,⟨fun b u e=>?_,fun a oo e=>?_,fun a rs e=>?_,kl S.f hF,S.gn,S.fg,fun a o' e=>?_,S.u⟩⟩
 ·replace e:upd Γ.Z p o b=some u:=e
  by_cases hb:b=p
  ·subst hb;rw [zA] at e;rw [zA];exact e
  ·rw [zg hb] at e;rw [zg hb];exact S.z _ _ e
 ·have hap:a≠p:=fun z=>by rw [z,hO] at e;cases e
  obtain⟨h1,h2⟩:=S.o _ _ e
  refine⟨by show upd Γ.Z p o a=none;rw [zg hap];exact h1,h2.keep le (zg hap) rfl fun rs r hg ⟨rows,hrw⟩ hr=>?_⟩
  subst hrw
  obtain⟨_,_,vs,q⟩:=S.rowIn e hg hr
  have hrp:r≠p:=fun z=>by rw [z,hp] at q;cases q
  exact⟨zg hrp,zg hrp,rfl⟩
 ·obtain⟨o',h⟩:=S.gd _ _ e
  exact⟨o',by rw [zg (yi h hp)];exact h⟩
 ·obtain⟨q1,q2,q3⟩:=S.fd a o' e
  exact⟨(zg (yi e hF)).trans q1,q2,q3⟩
theorem Sim.newO (S:Sim K Γ O H) {p:Addr}(hp:H p=none) {o:HO}{oo:OO}(hg:∀ rows,oo≠.grid rows) (ho:ObjW K Γ O (upd H p o) p oo):Sim K Γ (updO O p oo) (upd H p o):=by
 obtain⟨hz,hO,hG⟩:=S.free hp
 have hF:=S.f.free hp
 have k1:∀ {x:Addr}{rx:List (List PyData)},updO O p oo x=some (.grid rx)->O x=some (.grid rx):=fun {x rx} h=>by
  by_cases hx:x=p
  ·subst hx;rw [zu] at h;cases h;exact absurd rfl (hg rx)
  ·rw [zC hx] at h;exact h
 refine⟨fun b u e=>?_,fun a o' e=>?_,fun a rs e=>?_,kl S.f hF,fun a o' e hn=>?_,S.fg,fun a o' e=>?_,fun a b ra rb rs ss r e1 e2=>S.u a b ra rb rs ss r (k1 e1) (k1 e2)⟩
 ·rw [zg (fun z=>by rw [z,hz] at e;cases e)];exact S.z _ _ e
 ·by_cases hap:a=p
  ·subst hap
   rw [zu] at e
   cases e
   refine⟨hz,ho.keep (Le.refl _) rfl rfl fun rs r h1 ⟨rows,h2⟩=>absurd h2 (hg rows)⟩
  ·rw [zC hap] at e
   obtain⟨h1,h2⟩:=S.o _ _ e
   refine⟨h1,h2.keep (Le.refl _) (zg hap) rfl fun rs r hg' ⟨rows,hrw⟩ hr=>?_⟩
   subst hrw
   obtain⟨_,q2,vs,q⟩:=S.rowIn e hg' hr
   have hrp:r≠p:=fun z=>by rw [z,hp] at q;cases q
   exact⟨zg hrp,rfl,zC hrp⟩
 ·obtain⟨o',h⟩:=S.gd _ _ e
  exact⟨o',by rw [zg (yi h hp)];exact h⟩
 ·by_cases hap:a=p
  ·rw [hap];exact hG
  ·rw [zC hap] at e;exact S.gn a o' e hn
 ·obtain⟨q1,q2,q3⟩:=S.fd a o' e
  exact⟨q1,by rw [zC (yi e hF)];exact q2,fun b rows rs e1=>q3 b rows rs (k1 e1)⟩
theorem Sim.put (S:Sim K Γ O H) {a:Addr}{oo o1:OO}{o:HO}(h0:O a=some o1) (hn:∀ rows,o1≠.grid rows) (hg:∀ rows,oo≠.grid rows) (ho:ObjW K Γ O (upd H a o) a oo):Sim K Γ (updO O a oo) (upd H a o):=by
 obtain⟨hz,h1⟩:=S.o _ _ h0
 have k1:∀ {x:Addr}{rx:List (List PyData)},updO O a oo x=some (.grid rx)->O x=some (.grid rx):=fun {x rx} h=>by
  by_cases hx:x=a
  ·subst hx;rw [zu] at h;cases h;exact absurd rfl (hg rx)
  ·rw [zC hx] at h;exact h
 have nF:∀ b o',Γ.F b=some o'->b≠a:=fun b o' e z=>by
  have:=(S.fd b o' e).2.1
  rw [z,h0] at this;cases this
 refine⟨fun b u e=>?_,fun x o' e=>?_,fun x rs e=>?_,fun b u e=>?_,fun x o' e hn'=>?_,S.fg,fun x o' e=>?_,fun x b ra rb rs ss r e1 e2=>S.u x b ra rb rs ss r (k1 e1) (k1 e2)⟩
 ·rw [zg (fun z=>by rw [z,hz] at e;cases e)];exact S.z _ _ e
 ·by_cases hap:x=a
  ·subst hap
   rw [zu] at e
   cases e
   exact⟨hz,ho.keep (Le.refl _) rfl rfl fun rs r h1 ⟨rows,h2⟩=>absurd h2 (hg rows)⟩
  ·rw [zC hap] at e
   obtain⟨h1,h2⟩:=S.o _ _ e
   refine⟨h1,h2.keep (Le.refl _) (zg hap) rfl fun rs r hg' ⟨rows,hrw⟩ hr=>?_⟩
   subst hrw
   obtain⟨_,q2,vs,q⟩:=S.rowIn e hg' hr
   have hrp:r≠a:=fun z=>by rw [z,h0] at q2;cases q2
   exact⟨zg hrp,rfl,zC hrp⟩
 ·obtain⟨o',h⟩:=S.gd _ _ e
  by_cases hx:x=a
  ·exact⟨o,by rw [hx,zA]⟩
  ·exact⟨o',by rw [zg hx];exact h⟩
 ·rw [zg (nF _ _ e)];exact S.f _ _ e
 ·by_cases hap:x=a
  ·rw [hap];exact S.gn a o1 h0 hn
  ·rw [zC hap] at e;exact S.gn x o' e hn'
 ·obtain⟨q1,q2,q3⟩:=S.fd x o' e
  exact⟨q1,by rw [zC (nF _ _ e)];exact q2,fun b rows rs e1=>q3 b rows rs (k1 e1)⟩
theorem Sim.drop (S:Sim K Γ O H) (a:Addr):Sim K Γ (del O a) H:=by
 have k1:∀ {x:Addr}{o:OO},del O a x=some o->x≠a/\O x=some o:=fun {x o} h=>by
  by_cases hx:x=a
  ·subst hx;rw [vm] at h;cases h
  ·rw [xF hx] at h;exact⟨hx,h⟩
 refine⟨S.z,fun x o e=>?_,S.gd,S.f,fun x o e hn=>S.gn x o (k1 e).2 hn,S.fg,fun x o e=>⟨(S.fd x o e).1,by unfold del;split;rfl;exact (S.fd x o e).2.1,fun b rows rs e1=>(S.fd x o e).2.2 b rows rs (k1 e1).2⟩,fun x b ra rb rs ss r e1 e2=>S.u x b ra rb rs ss r (k1 e1).2 (k1 e2).2⟩
 obtain⟨hx,e⟩:=k1 e
 obtain⟨h1,h2⟩:=S.o _ _ e
 refine⟨h1,h2.keep (Le.refl _) rfl rfl fun rs r hg ⟨rows,hrw⟩ hr=>?_⟩
 subst hrw
 obtain⟨_,q2,_⟩:=S.rowIn e hg hr
 refine⟨rfl,rfl,?_⟩
 rw [q2]
 unfold del
 split
 ·rfl
 ·exact q2
theorem Sim.freeze (S:Sim K Γ O H) {a:Addr}{ds:List PyData}(h:O a=some (.lst (ds.map .d))):∃ Γ',Le Γ Γ'/\Sim K Γ' (del O a) H/\relW K Γ' (.d (.list ds)) (.ref a):=by
 obtain⟨hz,vs,h1,h2⟩:=S.o _ _ h
 have le:Le Γ ⟨upd Γ.Z a (.lst vs),Γ.G,Γ.F⟩:=Le.zOnly (vi hz)
 have S1:=S.drop a
 have nF:∀ b o',Γ.F b=some o'->b≠a:=fun b o' e z=>by
  have:=(S.fd b o' e).2.1
  rw [z,h] at this;cases this
 refine⟨⟨upd Γ.Z a (.lst vs),Γ.G,Γ.F⟩,le,⟨fun b u e=>?_,fun x o e=>?_,S.gd,S.f,S1.gn,S.fg,fun x o e=>⟨(zg (nF x o e)).trans (S1.fd x o e).1,(S1.fd x o e).2⟩,S1.u⟩,⟨a,vs,rfl,SqL.of zA,Reps.same le.z _ _ (zK h2)⟩⟩
 ·replace e:upd Γ.Z a (.lst vs) b=some u:=e
  by_cases hb:b=a
  ·subst hb;rw [zA] at e;cases e;exact h1
  ·rw [zg hb] at e;exact S.z _ _ e
 ·have hx:x≠a:=fun z=>by rw [z,vm] at e;cases e
  obtain⟨q1,q2⟩:=S1.o _ _ e
  refine⟨by show upd Γ.Z a _ x=none;rw [zg hx];exact q1,q2.keep le rfl rfl fun rs r hg ⟨rows,hrw⟩ hr=>⟨rfl,?_,rfl⟩⟩
  subst hrw
  rw [xF hx] at e
  obtain⟨_,q2,_⟩:=S.rowIn e hg hr
  exact zg (fun z=>by rw [z,h] at q2;cases q2)
theorem Sim.absorb (S:Sim K Γ O H) {a b:Addr}{rows:List (List PyData)}{rs:List Addr}{ds:List PyData}(h0:O a=some (.grid rows)) (hg:Γ.G a=some rs) (hb:O b=some (.lst (ds.map .d))) :
  H a=some (.lst (rs.map V.ref))/\rs.length=rows.length/\∃ Γ',Le Γ Γ'/\Sim K Γ' (updO (del O b) a (.grid (rows ++ [ds]))) (upd H a (.lst (rs.map V.ref ++ [.ref b]))):=by
 obtain⟨hz,rs',hg',h1,hl,hn,hrow⟩:=S.o _ _ h0
 rw [hg] at hg'
 cases hg'
 obtain⟨hzb,vb,hb1,hb2⟩:=S.o _ _ hb
 have hab:a≠b:=fun e=>by rw [e,hb] at h0;cases h0
 have hbr:b ∉ rs:=fun m=>by
  obtain⟨_,q,_⟩:=S.rowIn h0 hg m
  rw [hb] at q;cases q
 have le:Le Γ ⟨Γ.Z,fun x=>if x=a then some (rs ++ [b]) else Γ.G x,Γ.F⟩:=⟨rfl,Same.refl _,fun x ss h=>by
  by_cases hx:x=a
  ·subst hx;rw [hg] at h;cases h;exact⟨[b],by simp⟩
  ·exact⟨[],by simp [hx,h]⟩⟩
 have nFa:∀ c o',Γ.F c=some o'->c≠a:=fun c o' e z=>by
  have:=(S.fd c o' e).2.1
  rw [z,h0] at this;cases this
 have nFb:∀ c o',Γ.F c=some o'->c≠b:=fun c o' e z=>by
  have:=(S.fd c o' e).2.1
  rw [z,hb] at this;cases this
 have k1:∀ {x:Addr}{rx:List (List PyData)},updO (del O b) a (.grid (rows ++ [ds])) x=some (.grid rx)->∃ ry,O x=some (.grid ry):=fun {x rx} h=>by
  by_cases hx:x=a
  ·exact⟨rows,by rw [hx];exact h0⟩
  ·rw [zC hx] at h
   by_cases hxb:x=b
   ·rw [hxb,vm] at h;cases h
   ·rw [xF hxb] at h;exact⟨rx,h⟩
 refine⟨h1,hl,_,le,⟨fun x u e=>?_,fun x oo e=>?_,fun x ss e=>?_,fun c u e=>by rw [zg (nFa _ _ e)];exact S.f _ _ e,fun x o' e hn'=>?_,fun c o' e=>by have hne:=nFa c o' e;simpa [hne] using S.fg c o' e,fun c o' e=>⟨(S.fd c o' e).1,by rw [zC (nFa _ _ e),xF (nFb _ _ e)];exact (S.fd c o' e).2.1,fun d rd ss e1 g1=>?_⟩,fun x y ra rb ss tt r e1 e2 g1 g2 m1 m2=>?_⟩⟩
 ·rw [zg (fun z=>by rw [z,show ({ Z:=Γ.Z,G:=fun x=>if x=a then some (rs ++ [b]) else Γ.G x,F:=Γ.F }:Gh).Z a=none from hz] at e;cases e)];exact S.z _ _ e
 ·by_cases hx:x=a
  ·subst hx
   rw [zu] at e
   cases e
   refine⟨hz,rs ++ [b],by simp,by rw [zA,List.map_append];rfl,by simp [hl],?_,fun i r es e1 e2=>?_⟩
   ·rw [List.nodup_append]
    exact⟨hn,by simp,fun u hu v hv=>by simp at hv;subst hv;exact fun z=>hbr (by rw [<- z];exact hu)⟩
   ·by_cases hi:i < rs.length
    ·rw [List.getElem?_append_left hi] at e1
     rw [List.getElem?_append_left (by omega)] at e2
     obtain⟨y1,y2,ws,y3,y4⟩:=hrow i r es e1 e2
     have hrx:r≠x:=fun z=>by rw [z,h0] at y2;cases y2
     refine⟨y1,?_,ws,by rw [zg hrx];exact y3,y4⟩
     rw [zC hrx]
     unfold del
     split
     ·rfl
     ·exact y2
    ·have hi2:i=rs.length:=by
      have:=(List.getElem?_eq_some_iff.mp e1).1
      simp at this;omega
     subst hi2
     rw [List.getElem?_append_right (Nat.le_refl _)] at e1
     simp at e1
     subst e1
     rw [hl,List.getElem?_append_right (Nat.le_refl _)] at e2
     simp at e2
     subst e2
     exact⟨hzb,by rw [zC (Ne.symm hab),vm],vb,by rw [zg (Ne.symm hab)];exact hb1,zK (Γ:=Γ) hb2⟩
  ·rw [zC hx] at e
   have hxb:x≠b:=fun z=>by rw [z,vm] at e;cases e
   rw [xF hxb] at e
   obtain⟨q1,q2⟩:=S.o _ _ e
   refine⟨q1,q2.keep le (zg hx) (by simp [hx]) fun ss r hgs ⟨rows',hrw⟩ hq=>?_⟩
   subst hrw
   obtain⟨w1,w2,ws,w3⟩:=S.rowIn e hgs hq
   have hra:r≠a:=fun z=>by rw [z,h0] at w2;cases w2
   have hrb:r≠b:=fun z=>by rw [z,hb] at w2;cases w2
   exact⟨zg hra,rfl,by rw [zC hra,xF hrb]⟩
 ·by_cases hx:x=a
  ·exact⟨_,by rw [hx,zA]⟩
  ·obtain⟨o,h⟩:=S.gd x ss (by simpa [hx] using e)
   exact⟨o,by rw [zg hx];exact h⟩
 ·by_cases hx:x=a
  ·subst hx;rw [zu] at e;cases e;exact absurd rfl (hn' _)
  ·rw [zC hx] at e
   by_cases hxb:x=b
   ·rw [hxb,vm] at e;cases e
   ·rw [xF hxb] at e
    simpa [hx] using S.gn x o' e hn'
 ·by_cases hd:d=a
  ·subst hd
   simp at g1
   subst g1
   intro m
   rcases List.mem_append.mp m with m |m
   ·exact (S.fd c o' e).2.2 d rows rs h0 hg m
   ·simp at m;exact nFb _ _ e m
  ·obtain⟨ry,e2⟩:=k1 e1
   exact (S.fd c o' e).2.2 d ry ss e2 (by simpa [hd] using g1)
 ·obtain⟨r1,f1⟩:=k1 e1
  obtain⟨r2,f2⟩:=k1 e2
  have nb:∀ {z:Addr}{rz:List (List PyData)}{sz:List Addr},O z=some (.grid rz)->Γ.G z=some sz->b ∉ sz:=fun hz1 hz2 m=>by
   obtain⟨_,q,_⟩:=S.rowIn hz1 hz2 m
   rw [hb] at q;cases q
  by_cases hx:x=a
  ·by_cases hy:y=a
   ·rw [hx,hy]
   ·have g2':Γ.G y=some tt:=by simpa [hy] using g2
    rw [hx] at g1 ⊢
    simp at g1
    subst g1
    rcases List.mem_append.mp m1 with m |m
    ·exact S.u a y rows r2 rs tt r h0 f2 hg g2' m m2
    ·simp at m;subst m;exact absurd m2 (nb f2 g2')
  ·have g1':Γ.G x=some ss:=by simpa [hx] using g1
   by_cases hy:y=a
   ·rw [hy] at g2 ⊢
    simp at g2
    subst g2
    rcases List.mem_append.mp m2 with m |m
    ·exact S.u x a r1 rows ss rs r f1 h0 g1' hg m1 m
    ·simp at m;subst m;exact absurd m1 (nb f1 g1')
   ·exact S.u x y r1 r2 ss tt r f1 f2 g1' (by simpa [hy] using g2) m1 m2
theorem relW.setF {F:Hp}:∀ {w:W}{v:V},relW K Γ w v->relW K ⟨Γ.Z,Γ.G,F⟩ w v
 |.d _,_,h=>h
 |.own _,_,h=>h
 |.row _ _,_,h=>h
theorem relR.setF {F:Hp}{ρ:List (Option W)}{σ:St}(r:relR K Γ ρ σ):relR K ⟨Γ.Z,Γ.G,F⟩ ρ σ:=Paired.mapP r fun a b h=>by
 cases a with
 |none=>trivial
 |some w=>cases b with
  |none=>exact h
  |some v=>exact relW.setF h
theorem ObjW.setF {F:Hp}{a:Addr}{oo:OO}(h:ObjW K Γ O H a oo):ObjW K ⟨Γ.Z,Γ.G,F⟩ O H a oo:=by
 cases oo with
 |lst ws=>obtain⟨vs,h1,h2⟩:=h;exact⟨vs,h1,Paired.mapP h2 fun _ _ z=>z.setF⟩
 |dK ws=>obtain⟨vs,h1,h2⟩:=h;exact⟨vs,h1,Paired.mapP h2 fun _ _ z=>⟨z.1,z.2.setF⟩⟩
 |ins C dx ws=>obtain⟨vs,h1,h2⟩:=h;exact⟨vs,h1,Paired.mapP h2 fun _ _ z=>⟨z.1,z.2.setF⟩⟩
 |grid rows=>exact h
 |raw p=>exact h
theorem Sim.frameNew (S:Sim K Γ O H) {p:Addr}(hp:H p=none) (o:HO):Sim K ⟨Γ.Z,Γ.G,upd Γ.F p o⟩ O (upd H p o):=by
 obtain⟨hz,hO,hG⟩:=S.free hp
 have key:∀ a o',upd Γ.F p o a=some o'->a=p\/(a≠p/\Γ.F a=some o'):=fun a o' e=>by
  by_cases ha:a=p
  ·exact .inl ha
  ·rw [zg ha] at e;exact .inr ⟨ha,e⟩
 refine⟨fun b u e=>?_,fun a oo e=>?_,fun a rs e=>?_,fun b u e=>?_,S.gn,fun a o' e=>?_,fun a o' e=>?_,S.u⟩
 ·rw [zg (fun z=>by rw [z,show ({ Z:=Γ.Z,G:=Γ.G,F:=upd Γ.F p o }:Gh).Z p=none from hz] at e;cases e)];exact S.z _ _ e
 ·have hap:a≠p:=fun z=>by rw [z,hO] at e;cases e
  obtain⟨h1,h2⟩:=S.o _ _ e
  refine⟨h1,(h2.keep (Le.refl _) (zg hap) rfl fun rs r hg ⟨rows,hrw⟩ hr=>?_).setF⟩
  subst hrw
  obtain⟨_,_,vs,q⟩:=S.rowIn e hg hr
  exact⟨zg (fun z=>by rw [z,hp] at q;cases q),rfl,rfl⟩
 ·obtain⟨o',h⟩:=S.gd _ _ e
  exact⟨o',by rw [zg (yi h hp)];exact h⟩
 ·replace e:upd Γ.F p o b=some u:=e
  rcases key b u e with rfl | ⟨hb,e'⟩
  ·rw [zA] at e ⊢;exact e
  ·rw [zg hb];exact S.f _ _ e'
 ·rcases key a o' e with rfl | ⟨hb,e'⟩
  ·exact hG
  ·exact S.fg _ _ e'
 ·rcases key a o' e with rfl | ⟨hb,e'⟩
  ·refine⟨hz,hO,fun b rows rs e1 g1 m=>?_⟩
   obtain⟨_,_,vs,q⟩:=S.rowIn e1 g1 m
   rw [hp] at q;cases q
  ·exact S.fd _ _ e'
theorem Sim.framePut (S:Sim K Γ O H) {a:Addr}{o1:HO}(h:Γ.F a=some o1) (o:HO):Sim K ⟨Γ.Z,Γ.G,upd Γ.F a o⟩ O (upd H a o):=by
 obtain⟨hz,hO,hr⟩:=S.fd _ _ h
 have hG:=S.fg _ _ h
 have key:∀ b o',upd Γ.F a o b=some o'->b=a\/(b≠a/\Γ.F b=some o'):=fun b o' e=>by
  by_cases ha:b=a
  ·exact .inl ha
  ·rw [zg ha] at e;exact .inr ⟨ha,e⟩
 refine⟨fun b u e=>?_,fun b oo e=>?_,fun b rs e=>?_,fun b u e=>?_,S.gn,fun b o' e=>?_,fun b o' e=>?_,S.u⟩
 ·rw [zg (fun z=>by rw [z,show ({ Z:=Γ.Z,G:=Γ.G,F:=upd Γ.F a o }:Gh).Z a=none from hz] at e;cases e)];exact S.z _ _ e
 ·have hap:b≠a:=fun z=>by rw [z,hO] at e;cases e
  obtain⟨h1,h2⟩:=S.o _ _ e
  refine⟨h1,(h2.keep (Le.refl _) (zg hap) rfl fun rs r hg ⟨rows,hrw⟩ hm=>?_).setF⟩
  subst hrw
  exact⟨zg (fun z=>hr b rows rs e hg (by rw [<- z];exact hm)),rfl,rfl⟩
 ·obtain⟨o',h⟩:=S.gd _ _ e
  by_cases hb:b=a
  ·exact⟨o,by rw [hb,zA]⟩
  ·exact⟨o',by rw [zg hb];exact h⟩
 ·replace e:upd Γ.F a o b=some u:=e
  rcases key b u e with rfl | ⟨hb,e'⟩
  ·rw [zA] at e ⊢;exact e
  ·rw [zg hb];exact S.f _ _ e'
 ·rcases key b o' e with rfl | ⟨hb,e'⟩
  ·exact hG
  ·exact S.fg _ _ e'
 ·rcases key b o' e with rfl | ⟨hb,e'⟩
  ·exact⟨hz,hO,hr⟩
  ·exact S.fd _ _ e'
theorem Sim.unframe (S:Sim K Γ O H) {a:Addr}{ds:List PyData}{vs:List V}{F:Hp}(hF:Γ.F=upd F a (.lst vs)) (h0:F a=none) (hr:Reps K Γ.Z ds vs) :
  Same Γ.Z (upd Γ.Z a (.lst vs))/\Sim K ⟨upd Γ.Z a (.lst vs),Γ.G,F⟩ O H/\relW K ⟨upd Γ.Z a (.lst vs),Γ.G,F⟩ (.d (.list ds)) (.ref a):=by
 have hFa:Γ.F a=some (.lst vs):=by rw [hF,zA]
 obtain⟨hz,hO,hrow⟩:=S.fd _ _ hFa
 have le:Le Γ ⟨upd Γ.Z a (.lst vs),Γ.G,Γ.F⟩:=Le.zOnly (vi hz)
 have kF:∀ b o,F b=some o->b≠a/\Γ.F b=some o:=fun b o e=>by
  have hb:b≠a:=fun z=>by rw [z,h0] at e;cases e
  exact⟨hb,by rw [hF,zg hb];exact e⟩
 refine⟨vi hz,⟨fun b u e=>?_,fun b oo e=>?_,S.gd,fun b u e=>S.f _ _ (kF b u e).2,S.gn,fun b o e=>S.fg b o (kF b o e).2,fun b o e=>⟨(zg (kF b o e).1).trans (S.fd b o (kF b o e).2).1,(S.fd b o (kF b o e).2).2⟩,S.u⟩,⟨a,vs,rfl,SqL.of zA,Reps.same (vi hz) _ _ hr⟩⟩
 ·replace e:upd Γ.Z a (.lst vs) b=some u:=e
  by_cases hb:b=a
  ·subst hb;rw [zA] at e;cases e;exact S.f _ _ hFa
  ·rw [zg hb] at e;exact S.z _ _ e
 ·obtain⟨q1,q2⟩:=S.o _ _ e
  have hb:b≠a:=fun z=>by rw [z,hO] at e;cases e
  refine⟨(zg hb).trans q1,(q2.keep le rfl rfl fun rs r hg ⟨rows,hrw⟩ hm=>⟨rfl,?_,rfl⟩).setF⟩
  subst hrw
  exact zg (fun z=>hrow b rows rs e hg (by rw [<- z];exact hm))
end
noncomputable abbrev WS:=List (Option W)
abbrev WK:=W->OM->Prop
abbrev TEW:=WS->OM->WK->Prop
abbrev TTW:=WS->OM->(Bool->OM->Prop)->Prop
abbrev TAW:=WS->OM->(List W->OM->Prop)->Prop
structure EndsW where
 nx:WS->OM->Prop
 rt:WK
 bk:WS->OM->Prop:=fun _ _=>False
 ct:WS->OM->Prop:=fun _ _=>False
abbrev TSW:=EndsW->WS->OM->Prop
abbrev TGW:=W->WS->OM->(WS->OM->Prop)->Prop
abbrev TGsW:=List PyData->WS->OM->(WS->OM->Prop)->Prop
abbrev R2W:=W->W->OM->WK->Prop
section
variable (K:W.Frag)
def zx (t:TE) (T:TEW):Prop:=∀ Γ O H ρ σ,Sim K Γ O H->relR K Γ ρ σ->∀ (Q:VK) (R:WK),T ρ O R->(∀ Γ' O' H' w v,Le Γ Γ'->Sim K Γ' O' H'->relW K Γ' w v->R w O'->Q v H')->t σ H Q
def xo (t:TT) (T:TTW):Prop:=∀ Γ O H ρ σ,Sim K Γ O H->relR K Γ ρ σ->∀ (Q:Bool->Hp->Prop) (R:Bool->OM->Prop),T ρ O R->(∀ Γ' O' H' b,Le Γ Γ'->Sim K Γ' O' H'->R b O'->Q b H')->t σ H Q
def yU (t:TA) (T:TAW):Prop:=∀ Γ O H ρ σ,Sim K Γ O H->relR K Γ ρ σ->∀ (Q:List V->Hp->Prop) (R:List W->OM->Prop),T ρ O R->(∀ Γ' O' H' ws vs,Le Γ Γ'->Sim K Γ' O' H'->relWs K Γ' ws vs->R ws O'->Q vs H')->t σ H Q
structure EndsR (Γ:Gh) (D:Ends) (DW:EndsW):Prop where
 nx:∀ Γ' O' H' ρ' σ',Le Γ Γ'->Sim K Γ' O' H'->relR K Γ' ρ' σ'->DW.nx ρ' O'->D.nx σ' H'
 rt:∀ Γ' O' H' w v,Le Γ Γ'->Sim K Γ' O' H'->relW K Γ' w v->DW.rt w O'->D.rt v H'
 bk:∀ Γ' O' H' ρ' σ',Le Γ Γ'->Sim K Γ' O' H'->relR K Γ' ρ' σ'->DW.bk ρ' O'->D.bk σ' H'
 ct:∀ Γ' O' H' ρ' σ',Le Γ Γ'->Sim K Γ' O' H'->relR K Γ' ρ' σ'->DW.ct ρ' O'->D.ct σ' H'
def RefS (t:TS) (T:TSW):Prop:=∀ Γ O H ρ σ D DW,Sim K Γ O H->relR K Γ ρ σ->T DW ρ O->EndsR K Γ D DW->t D σ H
def RefG (t:TG) (T:TGW):Prop:=∀ Γ O H ρ σ w v,Sim K Γ O H->relR K Γ ρ σ->relW K Γ w v->∀ (Q:St->Hp->Prop) (R:WS->OM->Prop),T w ρ O R->(∀ Γ' O' H' ρ' σ',Le Γ Γ'->Sim K Γ' O' H'->relR K Γ' ρ' σ'->R ρ' O'->Q σ' H')->t v σ H Q
def RefGs (t:TGs) (T:TGsW):Prop:=∀ Γ O H ρ σ ds vs,Sim K Γ O H->relR K Γ ρ σ->Reps K Γ.Z ds vs->∀ (Q:St->Hp->Prop) (R:WS->OM->Prop),T ds ρ O R->(∀ Γ' O' H' ρ' σ',Le Γ Γ'->Sim K Γ' O' H'->relR K Γ' ρ' σ'->R ρ' O'->Q σ' H')->t vs σ H Q
def RefR (r:R2) (rw:R2W):Prop:=∀ Γ O H x y v u,Sim K Γ O H->relW K Γ x v->relW K Γ y u->∀ (Q:VK) (R:WK),rw x y O R->(∀ Γ' O' H' w v,Le Γ Γ'->Sim K Γ' O' H'->relW K Γ' w v->R w O'->Q v H')->r v u H Q
def RefU (r:V->Hp->VK->Prop) (rw:W->OM->WK->Prop):Prop:=∀ Γ O H x v,Sim K Γ O H->relW K Γ x v->∀ (Q:VK) (R:WK),rw x O R->(∀ Γ' O' H' w v,Le Γ Γ'->Sim K Γ' O' H'->relW K Γ' w v->R w O'->Q v H')->r v H Q
def RefC (r:List V->Hp->VK->Prop) (rw:List W->OM->WK->Prop):Prop:=∀ Γ O H xs vs,Sim K Γ O H->relWs K Γ xs vs->∀ (Q:VK) (R:WK),rw xs O R->(∀ Γ' O' H' w v,Le Γ Γ'->Sim K Γ' O' H'->relW K Γ' w v->R w O'->Q v H')->r vs H Q
def RefM (ty:String) (r:V->List V->Hp->VK->Prop) (rw:W->List W->OM->WK->Prop):Prop:=∀ Γ O H x v xs vs,Sim K Γ O H->relW K Γ x v->relWs K Γ xs vs->∀ (Q:VK) (R:WK),rw x xs O R->(∀ Γ' O' H' w v,Le Γ Γ'->Sim K Γ' O' H'->relW K Γ' w v->R w O'->Q v H')->r v vs H Q
end
section
variable {K:W.Frag}
theorem EndsR.mono {Γ Γ':Gh}{D:Ends}{DW:EndsW}(h:EndsR K Γ D DW) (l:Le Γ Γ'):EndsR K Γ' D DW:=
 ⟨fun _ _ _ _ _ l2=>h.nx _ _ _ _ _ (l.trans l2),fun _ _ _ _ _ l2=>h.rt _ _ _ _ _ (l.trans l2),fun _ _ _ _ _ l2=>h.bk _ _ _ _ _ (l.trans l2),fun _ _ _ _ _ l2=>h.ct _ _ _ _ _ (l.trans l2)⟩
noncomputable def ofV:V->W
 |.int i=>.d (.int i)
 |.bl b=>.d (.bool b)
 |.str x=>.d (.str x)
 |_=>.d .none
noncomputable def scV:V->Bool
 |.int _=>true
 |.bl _=>true
 |.str _=>true
 |.non=>true
 |_=>false
theorem jP {Γ:Gh}{v:V}(h:scV v=true):relW K Γ (ofV v) v:=by
 cases v <;> first |rfl |simp [scV] at h
noncomputable def vOf:PyData->V
 |.int i=>.int i
 |.bool b=>.bl b
 |.str x=>.str x
 |.none=>.non
 |_=>.ty ""
noncomputable def scD:PyData->Bool
 |.int _=>true
 |.bool _=>true
 |.str _=>true
 |.none=>true
 |_=>false
theorem qj {Z:Hp}{x:PyData}{v:V}(h:Rep K Z x v) (s:scD x=true):v=vOf x:=by
 cases x <;> first |exact h |simp [scD] at s
theorem xf {Γ:Gh}{b:Bool}:relW K Γ (.d (.bool b)) (.bl b):=rfl
theorem xM {Γ:Gh}{b:Str}:relW K Γ (.d (.str b)) (.str b):=rfl
theorem xN {Γ:Gh}{b:Int}:relW K Γ (.d (.int b)) (.int b):=rfl
theorem ug {Γ:Gh}{a:Addr}:relW K Γ (.own a) (.ref a):=rfl
theorem zbt {Γ:Gh}{x:PyData}{v:V}(h:Rep K Γ.Z x v):relW K Γ (.d x) v:=h
theorem uh {Γ:Gh}:relW K Γ (.d .none) .non:=rfl
def zf7 (i:Nat):TEW:=fun ρ O R=>∃ w,ρ[i]? =some (some w)/\R w O
def wC (x:PyData):TEW:=fun _ O R=>R (.d x) O
theorem zct {i:Nat}:zx K (ZB i) (zf7 i):=by
 rintro Γ O H ρ σ S r Q R ⟨w,e,h⟩ k
 obtain⟨v,e',hv⟩:=r.get e
 exact⟨v,e',k _ _ _ _ _ (Le.refl _) S hv h⟩
theorem Y3 {v:V}{x:PyData}(h:vOf x=v:=by rfl) (hs:scD x=true:=by rfl):zx K (tC v) (wC x):=by
 rintro Γ O H ρ σ S r Q R hR k
 subst h
 refine k _ _ _ _ _ (Le.refl _) S ?_ hR
 cases x <;> first |rfl |simp [scD] at hs
theorem zcu {i:Int}:zx K (tC (.int i)) (wC (.int i)):=Y3
theorem zcv {i:Str}:zx K (tC (.str i)) (wC (.str i)):=Y3
theorem zd6 {i:Bool}:zx K (tC (.bl i)) (wC (.bool i)):=Y3
theorem zcw:zx K (tC .non) (wC .none):=Y3
def wOp (r:R2W) (Ta Tb:TEW):TEW:=fun ρ O R=>Ta ρ O fun x O1=>Tb ρ O1 fun y O2=>r x y O2 R
theorem zd7 {r:R2}{rw:R2W}{ta tb:TE}{Ta Tb:TEW}(hr:RefR K r rw) (ha:zx K ta Ta) (hb:zx K tb Tb):zx K (tOp r ta tb) (wOp rw Ta Tb):=by
 intro Γ O H ρ σ S r0 Q R h k
 refine ha Γ O H ρ σ S r0 _ _ h fun Γ1 O1 H1 x v l1 S1 rx h1=>?_
 refine hb Γ1 O1 H1 ρ σ S1 (r0.mono l1) _ _ h1 fun Γ2 O2 H2 y u l2 S2 ry h2=>?_
 exact hr Γ2 O2 H2 x y v u S2 (rx.mono l2) ry _ _ h2 fun Γ3 O3 H3 w z l3 S3 rz h3=>k Γ3 O3 H3 w z ((l1.trans l2).trans l3) S3 rz h3
def wUn (r:W->OM->WK->Prop) (Ta:TEW):TEW:=fun ρ O R=>Ta ρ O fun x O1=>r x O1 R
theorem zd8 {r:V->Hp->VK->Prop}{rw:W->OM->WK->Prop}{ta:TE}{Ta:TEW}(hr:RefU K r rw) (ha:zx K ta Ta):zx K (tUn r ta) (wUn rw Ta):=by
 intro Γ O H ρ σ S r0 Q R h k
 refine ha Γ O H ρ σ S r0 _ _ h fun Γ1 O1 H1 x v l1 S1 rx h1=>?_
 exact hr Γ1 O1 H1 x v S1 rx _ _ h1 fun Γ3 O3 H3 w z l3 S3 rz h3=>k Γ3 O3 H3 w z (l1.trans l3) S3 rz h3
def wI0 (g:Int->Int->V):R2W:=fun x y O R=>∃ i j,x=.d (.int i)/\y=.d (.int j)/\R (ofV (g i j)) O
def wI (C:Int->Int->Prop) (g:Int->Int->V):R2W:=fun x y O R=>∃ i j,x=.d (.int i)/\y=.d (.int j)/\C i j/\R (ofV (g i j)) O
theorem zf8 {g:Int->Int->V}(hg:∀ i j,scV (g i j)=true:=by intro _ _;rfl):RefR K (rI0 g) (wI0 g):=by
 rintro Γ O H x y v u S rx ry Q R ⟨i,j,rfl,rfl,h⟩ k
 exact⟨i,j,rx,ry,k _ _ _ _ _ (Le.refl _) S (jP (hg i j)) h⟩
theorem r_I {C:Int->Int->Prop}{g:Int->Int->V}(hg:∀ i j,scV (g i j)=true:=by intro _ _;rfl):RefR K (rI C g) (wI C g):=by
 rintro Γ O H x y v u S rx ry Q R ⟨i,j,rfl,rfl,c,h⟩ k
 exact⟨i,j,rx,ry,c,k _ _ _ _ _ (Le.refl _) S (jP (hg i j)) h⟩
def wU (g:Int->V):W->OM->WK->Prop:=fun x O R=>∃ i,x=.d (.int i)/\R (ofV (g i)) O
theorem r_U {g:Int->V}(hg:∀ i,scV (g i)=true:=by intro _;rfl):RefU K (rU g) (wU g):=by
 rintro Γ O H x v S rx Q R ⟨i,rfl,h⟩ k
 exact⟨i,rx,k _ _ _ _ _ (Le.refl _) S (jP (hg i)) h⟩
def wEq:R2W:=fun x y O R=>∃ a b,x=.d a/\y=.d b/\scD a=true/\scD b=true/\ja (vOf a) (vOf b)=true/\R (.d (.bool (decide (vOf a=vOf b)))) O
def wNe:R2W:=fun x y O R=>∃ a b,x=.d a/\y=.d b/\scD a=true/\scD b=true/\ja (vOf a) (vOf b)=true/\R (.d (.bool (!decide (vOf a=vOf b)))) O
theorem zf9:RefR K rEq wEq:=by
 rintro Γ O H x y v u S rx ry Q R ⟨a,b,rfl,rfl,sa,sb,sc,h⟩ k
 rw [qj rx sa,qj ry sb]
 exact⟨sc,k _ _ _ _ _ (Le.refl _) S xf h⟩
theorem zga:RefR K rNe wNe:=by
 rintro Γ O H x y v u S rx ry Q R ⟨a,b,rfl,rfl,sa,sb,sc,h⟩ k
 rw [qj rx sa,qj ry sb]
 exact⟨sc,k _ _ _ _ _ (Le.refl _) S xf h⟩
noncomputable def kW:W->Bool
 |.d .none=>true
 |_=>false
theorem K3 {Γ:Gh}{w:W}{v:V}(r:relW K Γ w v):decide (v=.non)=kW w:=by
 cases w with
 |d x=>
  cases x with
  |none=>rw [show v=.non from r];rfl
  |list ds=>obtain⟨a,_,rfl,_⟩:=r;rfl
  |tuple ds=>obtain⟨a,_,rfl,_⟩:=r;rfl
  |dict _=>obtain⟨_,a,rfl,_⟩:=r;rfl
  |int i=>rw [show v=.int i from r];rfl
  |bool i=>rw [show v=.bl i from r];rfl
  |str i=>rw [show v=.str i from r];rfl
 |own a=>rw [show v=.ref a from r];rfl
 |row a i=>obtain⟨rs,r0,_,_,rfl⟩:=r;rfl
def zgb:R2W:=fun x y O R=>y=.d .none/\R (.d (.bool (kW x))) O
theorem zfC:RefR K (fun x y H Q=>y=.non/\Q (.bl (decide (x=.non))) H) zgb:=by
 rintro Γ O H x y v u S rx ry Q R ⟨rfl,h⟩ k
 refine⟨ry,k _ _ _ _ _ (Le.refl _) S ?_ h⟩
 rw [K3 rx];rfl
noncomputable def zgc (b:Bool):W->Bool
 |.d (.bool c)=>decide (c=b)
 |_=>false
def zgd:R2W:=fun x y O R=>∃ ws i w,y=.d (.int i)/\zD O x=some ws/\atI ws i=some w/\R w O
def zd9:R2W:=fun x y O R=>∃ ds i e,y=.d (.int i)/\xn x=some ds/\atI ds i=some e/\R (.d e) O
def zea:R2W:=fun x y O R=>∃ z i c,x=.d (.str z)/\y=.d (.int i)/\z.length≤sizeLine/\atI z.cps.toList i=some c/\R (.d (.str ⟨#[c]⟩)) O
theorem kX {α β:Type}{F:α->β->Prop}{xs:List α}{ys:List β}{i:Int}{x:α}(r:Paired F xs ys) (e:atI xs i=some x):∃ y,atI ys i=some y/\F x y:=by
 unfold atI at e ⊢
 rw [<- Paired.length r]
 cases h:ixN xs.length i with
 |none=>rw [h] at e;cases e
 |some j=>
  rw [h] at e
  exact Paired.getP r e
theorem zfD:RefR K (Xi K) zgd:=by
 rintro Γ O H x y v u S rx ry Q R ⟨ws,i,w,rfl,e,h1,h⟩ k
 obtain⟨a,vs,rfl,q1,q2⟩:=yy S rx e
 obtain⟨z,h2,h3⟩:=kX q2 h1
 exact⟨a,vs,i,z,rfl,ry,q1,h2,k _ _ _ _ _ (Le.refl _) S h3 h⟩
theorem zfE:RefR K (KN K) zd9:=by
 rintro Γ O H x y v u S rx ry Q R ⟨ds,i,w,rfl,e,h1,h⟩ k
 obtain⟨a,vs,rfl,q1,q2⟩:=uf S rx e
 have h1':atI (ds.map W.d) i=some (.d w):=by
  unfold atI at h1 ⊢
  rw [List.length_map]
  cases hj:ixN ds.length i with
  |none=>rw [hj] at h1;cases h1
  |some j=>
   rw [hj] at h1
   replace h1:ds[j]? =some w:=h1
   show (ds.map W.d)[j]? =some (.d w)
   rw [List.getElem?_map,h1];rfl
 obtain⟨z,h2,h3⟩:=kX q2 h1'
 exact⟨a,vs,i,z,rfl,ry,q1,h2,k _ _ _ _ _ (Le.refl _) S h3 h⟩
theorem zfF:RefR K zdU zea:=by
 rintro Γ O H x y v u S rx ry Q R ⟨z,i,c,rfl,rfl,hl,h1,h⟩ k
 exact⟨z,i,c,rx,ry,hl,h1,k _ _ _ _ _ (Le.refl _) S xM h⟩
def K4 (T U:TTW):TTW:=fun ρ O R=>T ρ O fun c O1=>if c=true then U ρ O1 R else R false O1
def wOr (T U:TTW):TTW:=fun ρ O R=>T ρ O fun c O1=>if c=true then R true O1 else U ρ O1 R
def K5 (T:TTW):TTW:=fun ρ O R=>T ρ O fun c O1=>R (!c) O1
theorem zcx {t u:TT}{T U:TTW}(h:xo K t T) (g:xo K u U):xo K (KC t u) (K4 T U):=by
 intro Γ O H ρ σ S r0 Q R hT k
 refine h Γ O H ρ σ S r0 _ _ hT fun Γ1 O1 H1 b l1 S1 h1=>?_
 cases b with
 |true=>rw [if_pos rfl] at h1 ⊢;exact g _ _ _ _ _ S1 (r0.mono l1) _ _ h1 fun Γ2 O2 H2 c l2 S2 h2=>k _ _ _ _ (l1.trans l2) S2 h2
 |false=>rw [if_neg (by decide)] at h1 ⊢;exact k _ _ _ _ l1 S1 h1
theorem zeb {t u:TT}{T U:TTW}(h:xo K t T) (g:xo K u U):xo K (tOr t u) (wOr T U):=by
 intro Γ O H ρ σ S r0 Q R hT k
 refine h Γ O H ρ σ S r0 _ _ hT fun Γ1 O1 H1 b l1 S1 h1=>?_
 cases b with
 |false=>rw [if_neg (by decide)] at h1 ⊢;exact g _ _ _ _ _ S1 (r0.mono l1) _ _ h1 fun Γ2 O2 H2 c l2 S2 h2=>k _ _ _ _ (l1.trans l2) S2 h2
 |true=>rw [if_pos rfl] at h1 ⊢;exact k _ _ _ _ l1 S1 h1
theorem zcy {t:TT}{T:TTW}(h:xo K t T):xo K (KD t) (K5 T):=by
 intro Γ O H ρ σ S r0 Q R hT k
 exact h Γ O H ρ σ S r0 _ _ hT fun Γ1 O1 H1 b l1 S1 h1=>k _ _ _ _ l1 S1 h1
def zbu (Ta Tb:TEW):TEW:=fun ρ O R=>Ta ρ O fun x O1=>∃ c,x=.d (.bool c)/\if c=true then Tb ρ O1 R else R (.d (.bool false)) O1
def zbv (Ta:TEW):TEW:=fun ρ O R=>Ta ρ O fun x O1=>∃ c,x=.d (.bool c)/\R (.d (.bool (!c))) O1
theorem K6 {ta tb:TE}{Ta Tb:TEW}(ha:zx K ta Ta) (hb:zx K tb Tb):zx K (UJ ta tb) (zbu Ta Tb):=by
 intro Γ O H ρ σ S r0 Q R hT k
 refine ha Γ O H ρ σ S r0 _ _ hT fun Γ1 O1 H1 x v l1 S1 rx h1=>?_
 obtain⟨c,rfl,h1⟩:=h1
 refine⟨c,rx,?_⟩
 cases c with
 |true=>rw [if_pos rfl] at h1 ⊢;exact hb _ _ _ _ _ S1 (r0.mono l1) _ _ h1 fun Γ2 O2 H2 y u l2 S2 ry h2=>k _ _ _ _ _ (l1.trans l2) S2 ry h2
 |false=>rw [if_neg (by decide)] at h1 ⊢;exact k _ _ _ _ _ l1 S1 xf h1
theorem K7 {ta:TE}{Ta:TEW}(ha:zx K ta Ta):zx K (UK ta) (zbv Ta):=by
 intro Γ O H ρ σ S r0 Q R hT k
 refine ha Γ O H ρ σ S r0 _ _ hT fun Γ1 O1 H1 x v l1 S1 rx h1=>?_
 obtain⟨c,rfl,h1⟩:=h1
 exact⟨c,rx,k _ _ _ _ _ l1 S1 xf h1⟩
def wIf (T:TTW) (Ta Tb:TEW):TEW:=fun ρ O R=>T ρ O fun c O1=>if c=true then Ta ρ O1 R else Tb ρ O1 R
theorem zec {t:TT}{T:TTW}{ta tb:TE}{Ta Tb:TEW}(h:xo K t T) (ha:zx K ta Ta) (hb:zx K tb Tb):zx K (tIf t ta tb) (wIf T Ta Tb):=by
 intro Γ O H ρ σ S r0 Q R hT k
 refine h Γ O H ρ σ S r0 _ _ hT fun Γ1 O1 H1 b l1 S1 h1=>?_
 cases b with
 |true=>rw [if_pos rfl] at h1 ⊢;exact ha _ _ _ _ _ S1 (r0.mono l1) _ _ h1 fun Γ2 O2 H2 y u l2 S2 ry h2=>k _ _ _ _ _ (l1.trans l2) S2 ry h2
 |false=>rw [if_neg (by decide)] at h1 ⊢;exact hb _ _ _ _ _ S1 (r0.mono l1) _ _ h1 fun Γ2 O2 H2 y u l2 S2 ry h2=>k _ _ _ _ _ (l1.trans l2) S2 ry h2
noncomputable def UY (O:OM):W->Option Bool
 |.d .none=>some false
 |.d (.bool b)=>some b
 |.d (.int i)=>some (i != 0)
 |.d (.str z)=>some (z.length != 0)
 |.d (.list ds)=>some (!ds.isEmpty)
 |.d (.tuple ds)=>some (!ds.isEmpty)
 |.own a=>match O a with
  |some (.lst ws)=>some (!ws.isEmpty)
  |some (.dK kvs)=>some (!kvs.isEmpty)
  |_=>none
 |_=>none
noncomputable def Xr:W->Prop
 |.d (.str z)=>z.length≤sizeLine
 |_=>True
theorem xO {α β:Type}{F:α->β->Prop}{xs:List α}{ys:List β}(r:Paired F xs ys):xs.isEmpty=ys.isEmpty:=by cases r <;> rfl
theorem K8 {Γ:Gh}{O:OM}{H:Hp}{w:W}{v:V}{b:Bool}(S:Sim K Γ O H) (r:relW K Γ w v) (e:UY O w=some b) (hs:Xr w):Xf K v H b:=by
 cases w with
 |d x=>
  cases x with
  |none=>rw [show v=.non from r];cases e;rfl
  |bool i=>rw [show v=.bl i from r];cases e;rfl
  |int i=>rw [show v=.int i from r];cases e;rfl
  |str z=>
   rw [show v=.str z from r];cases e
   refine⟨hs,?_⟩
   show (z.length != 0)=((z.length:Int) != 0)
   cases hz:z.length with
   |zero=>rfl
   |succ n=>simp only [bne,Nat.beq_eq_true_eq];simp;omega
  |list ds=>
   cases e
   obtain⟨a,xs,rfl,h1,h2⟩:=r
   refine .inl ⟨xs,h1.same S.z,?_⟩
   rw [<- xO (yj h2:relWs K Γ _ _)]
   simp
  |tuple ds=>
   cases e
   obtain⟨a,xs,rfl,h1,h2⟩:=r
   refine .inr (.inl ⟨xs,h1.same S.z,?_⟩)
   rw [<- xO (yj h2:relWs K Γ _ _)]
   simp
  |dict _=>cases e
 |own a=>
  cases (show v=.ref a from r)
  simp only [UY] at e
  split at e
  ·rename_i ws h
   cases e
   obtain⟨_,vs,h1,h2⟩:=S.o _ _ h
   exact .inl ⟨vs,SqL.of h1,by rw [xO h2]⟩
  ·rename_i kvs h
   cases e
   obtain⟨_,vs,h1,h2⟩:=S.o _ _ h
   exact .inr (.inr ⟨vs,h1,by rw [xO h2]⟩)
  ·cases e
 |row a i=>cases e
def K9 (T:TEW):TTW:=fun ρ O R=>T ρ O fun x O1=>∃ b,UY O1 x=some b/\Xr x/\R b O1
theorem zcz {t:TE}{T:TEW}(h:zx K t T):xo K (fun σ H Q=>t σ H fun x H'=>∃ k,Xf K x H' k/\Q k H') (K9 T):=by
 intro Γ O H ρ σ S r0 Q R hT k
 refine h Γ O H ρ σ S r0 _ _ hT fun Γ1 O1 H1 x v l1 S1 rx h1=>?_
 obtain⟨c,e,hs,h1⟩:=h1
 exact⟨c,K8 S1 rx e hs,k _ _ _ _ l1 S1 h1⟩
def UZ:TAW:=fun _ O R=>R [] O
def jQ (Ta:TEW) (Tr:TAW):TAW:=fun ρ O R=>Ta ρ O fun x O1=>Tr ρ O1 fun xs O2=>R (x :: xs) O2
theorem zcA:yU K ZF UZ:=fun Γ O H ρ σ S r0 Q R h k=>k _ _ _ _ _ (Le.refl _) S .nil h
theorem zaa {ta:TE}{t:TA}{Ta:TEW}{T:TAW}(ha:zx K ta Ta) (hr:yU K t T):yU K (v0 ta t) (jQ Ta T):=by
 intro Γ O H ρ σ S r0 Q R h k
 refine ha Γ O H ρ σ S r0 _ _ h fun Γ1 O1 H1 x v l1 S1 rx h1=>?_
 exact hr Γ1 O1 H1 ρ σ S1 (r0.mono l1) _ _ h1 fun Γ2 O2 H2 ws vs l2 S2 rs h2=>k _ _ _ _ _ (l1.trans l2) S2 (.cons (rx.mono l2) rs) h2
def zed (T:TAW):TEW:=fun ρ O R=>T ρ O fun ws O1=>∃ ds,yh ws=some ds/\ds.length≤1000/\R (.d (.tuple ds)) O1
def zee (T:TAW):TEW:=fun ρ O R=>T ρ O fun ws O1=>∃ ds,yh ws=some ds/\ds.length≤1000/\R (.d (.list ds)) O1
theorem ZM {n:Nat}(h:n≤1000):n≤sizeLine:=Nat.le_of_lt (xZ h)
theorem jd {Γ:Gh}{O:OM}{H:Hp}{ds:List PyData}{vs:List V}{p:Addr}(S:Sim K Γ O H) (hr:Reps K Γ.Z ds vs) (hp:H p=none):∃ Γ',Le Γ Γ'/\Sim K Γ' O (upd H p (.tup vs))/\relW K Γ' (.d (.tuple ds)) (.ref p):=by
 obtain⟨l,S'⟩:=S.newD hp (.tup vs)
 exact⟨_,l,S',p,vs,rfl,SqT.of zA,Reps.same l.z _ _ hr⟩
theorem ql {Γ:Gh}{O:OM}{H:Hp}{ds:List PyData}{vs:List V}{p:Addr}(S:Sim K Γ O H) (hr:Reps K Γ.Z ds vs) (hp:H p=none):∃ Γ',Le Γ Γ'/\Sim K Γ' O (upd H p (.lst vs))/\relW K Γ' (.d (.list ds)) (.ref p):=by
 obtain⟨l,S'⟩:=S.newD hp (.lst vs)
 exact⟨_,l,S',p,vs,rfl,SqL.of zA,Reps.same l.z _ _ hr⟩
theorem ZN {Γ:Gh}{O:OM}{H:Hp}{ws:List W}{vs:List V}{p:Addr}(S:Sim K Γ O H) (hr:relWs K Γ ws vs) (hp:H p=none):O p=none/\Sim K Γ (updO O p (.lst ws)) (upd H p (.lst vs)):=
 ⟨(S.free hp).2.1,S.newO hp (by intro _ h;cases h) ⟨vs,zA,hr⟩⟩
theorem zcB {t:TA}{T:TAW}(h:yU K t T):zx K (UU t) (zed T):=by
 intro Γ O H ρ σ S r0 Q R hT k
 refine h Γ O H ρ σ S r0 _ _ hT fun Γ1 O1 H1 ws vs l1 S1 rs h1=>?_
 obtain⟨ds,e,hl,h1⟩:=h1
 rw [yE e] at rs
 refine⟨by rw [<- Paired.length rs,List.length_map];exact ZM hl,fun p hp=>?_⟩
 obtain⟨Γ',l,S',r'⟩:=jd S1 (zK rs) hp
 exact k _ _ _ _ _ (l1.trans l) S' r' h1
theorem zcC {t:TA}{T:TAW}(h:yU K t T):zx K (ZG t) (zee T):=by
 intro Γ O H ρ σ S r0 Q R hT k
 refine h Γ O H ρ σ S r0 _ _ hT fun Γ1 O1 H1 ws vs l1 S1 rs h1=>?_
 obtain⟨ds,e,hl,h1⟩:=h1
 rw [yE e] at rs
 refine⟨by rw [<- Paired.length rs,List.length_map];exact ZM hl,fun p hp=>?_⟩
 obtain⟨Γ',l,S',r'⟩:=ql S1 (zK rs) hp
 exact k _ _ _ _ _ (l1.trans l) S' r' h1
end
abbrev SpW:=List W->OM->WK->Prop
def zd (K:W.Frag) (s:SpW):Sp:=fun vs H Q _=>∃ Γ O ws R,Sim K Γ O H/\relWs K Γ ws vs/\s ws O R/\∀ Γ' O' H' w v,Le Γ Γ'->Sim K Γ' O' H'->relW K Γ' w v->R w O'->Q v H'
def Clo (R:WK):WK:=fun w O=>R w O\/∃ a ds,w=.own a/\O a=some (.lst (ds.map .d))/\R (.d (.list ds)) (del O a)
noncomputable def vP (N:List Str) (ws:List W):WS:=ws.map some ++ List.replicate (N.length - ws.length) none
section
variable {K:W.Frag}
theorem qA {Γ:Gh}{N:List Str}{ws:List W}{vs:List V}(h:relWs K Γ ws vs):relR K Γ (vP N ws) (L2.start N vs):=by
 unfold vP L2.start
 rw [Paired.length h]
 refine Paired.appP ?_ ?_
 ·induction h with
  |nil=>exact .nil
  |cons a b ih=>exact .cons a ih
 ·generalize N.length - vs.length=n
  induction n with
  |zero=>exact .nil
  |succ n ih=>exact .cons trivial ih
theorem jR {Γ:Gh}{O:OM}{H:Hp}{w:W}{v:V}{R:WK}{Q:VK}(S:Sim K Γ O H) (r:relW K Γ w v) (h:Clo R w O) (k:∀ Γ' O' H' w v,Le Γ Γ'->Sim K Γ' O' H'->relW K Γ' w v->R w O'->Q v H'):Q v H:=by
 rcases h with h | ⟨a,ds,rfl,e,h⟩
 ·exact k _ _ _ _ _ (Le.refl _) S r h
 ·obtain⟨Γ',l,S',r'⟩:=S.freeze e
  cases (show v=.ref a from r)
  exact k _ _ _ _ _ l S' r' h
variable {P:Program}{w:World}{mg:Str->Option Value}{base:Heap}
theorem Fun.okW {x qual:Str}{st:Stmt}{f:Addr}{fd:FuncData}{N ps:List Str}{k:Nat}{s:SpW}(F:Fun K x qual st f fd) (S:FnScope N ps (defScope st)) (len:∀ ws O R,s ws O R->ws.length=ps.length)
    (hbody:∀ (cdv:Value) (A:Around) (outer:List Env) (sh:Shared) (H:Hp) (E:XK),Room k (A.deeper (envOfC qual (defScope st) sh.heap.objs.size f cdv))->
      ∃ t T,PSs (uu CX0 P w K mg base N qual (defScope st) f cdv A outer sh H E).nox (defBody st) t/\RefS K t T/\∀ ws O R,s ws O R->T { nx:=fun _ O'=>Clo R (.d .none) O',rt:=Clo R } (vP N ws) O):FnOk P w K mg base CX0 (k+1) f fd ps (zd K s):=by
  refine F.ok S (fun vs H Q E h=>?_) (fun cdv A outer sh H vs Q E hr h=>?_)
  · obtain⟨Γ,O,ws,R,S1,r,hs,_⟩:=h
    rw [<- Paired.length r]
    exact len ws O R hs
  · obtain⟨t,T,h1,h2,h3⟩:=hbody cdv A outer sh H E hr
    obtain⟨Γ,O,ws,R,S1,r,hs,kk⟩:=h
    refine⟨t,h1,h2 Γ O H _ _ _ _ S1 (qA r) (h3 ws O R hs) ⟨fun Γ' O' H' ρ' σ' l S' r' h'=>?_,fun Γ' O' H' w v l S' r' h'=>?_,fun _ _ _ _ _ _ _ _ h=>h.elim,fun _ _ _ _ _ _ _ _ h=>h.elim⟩⟩
    · exact jR S' uh h' fun Γ2 O2 H2 w v l2=>kk _ _ _ _ _ (l.trans l2)
    · exact jR S' r' h' fun Γ2 O2 H2 w v l2=>kk _ _ _ _ _ (l.trans l2)
theorem Fun.okV {x qual:Str}{st:Stmt}{f:Addr}{fd:FuncData}{N ps:List Str}{k:Nat}{s:SpW}{t:TS}{T:TSW}(F:Fun K x qual st f fd) (S:FnScope N ps (defScope st)) (len:∀ ws O R,s ws O R->ws.length=ps.length)
  (hP:∀ (cdv:Value) (A:Around) (outer:List Env) (sh:Shared) (H:Hp) (E:XK),Room k (A.deeper (envOfC qual (defScope st) sh.heap.objs.size f cdv))->PSs (uu CX0 P w K mg base N qual (defScope st) f cdv A outer sh H E).nox (defBody st) t)
  (hR:RefS K t T) (hb:∀ ws O R,s ws O R->T { nx:=fun _ O'=>Clo R (.d .none) O',rt:=Clo R } (vP N ws) O):FnOk P w K mg base CX0 (k+1) f fd ps (zd K s):=
 F.okW S len fun cdv A outer sh H E hr=>⟨t,T,hP cdv A outer sh H E hr,hR,hb⟩
end
section
variable {K:W.Frag}
theorem uz {Γ:Gh}:∀ {vs:List V},vs.all scV=true->relWs K Γ (vs.map ofV) vs
 |[],_=>.nil
 |v :: vs,h=>by
  simp at h
  exact .cons (jP h.1) (uz (by simpa using h.2))
def kY (s:SpW) (dvs:List V) (T:TAW):TEW:=fun ρ O R=>T ρ O fun ws O1=>s (ws ++ dvs.map ofV) O1 R
theorem zab {s:SpW}{dvs:List V}{t:TA}{T:TAW}(h:yU K t T) (hd:dvs.all scV=true:=by rfl):zx K (xT (zd K s) dvs E0 t) (kY s dvs T):=by
 intro Γ O H ρ σ S r0 Q R hT k
 refine h Γ O H ρ σ S r0 _ _ hT fun Γ1 O1 H1 ws vs l1 S1 rs h1=>?_
 exact⟨Γ1,O1,_,R,S1,Paired.appP rs (uz hd),h1,fun Γ2 O2 H2 w v l2 S2 r2 h2=>k _ _ _ _ _ (l1.trans l2) S2 r2 h2⟩
def wCB (r:List W->OM->WK->Prop) (T:TAW):TEW:=fun ρ O R=>T ρ O fun ws O1=>r ws O1 R
theorem zef {r:List V->Hp->VK->Prop}{rw:List W->OM->WK->Prop}{t:TA}{T:TAW}(hr:RefC K r rw) (h:yU K t T):zx K (tCB r t) (wCB rw T):=by
 intro Γ O H ρ σ S r0 Q R hT k
 refine h Γ O H ρ σ S r0 _ _ hT fun Γ1 O1 H1 ws vs l1 S1 rs h1=>?_
 exact hr _ _ _ _ _ S1 rs _ _ h1 fun Γ2 O2 H2 w v l2 S2 r2 h2=>k _ _ _ _ _ (l1.trans l2) S2 r2 h2
noncomputable def qB (O:OM) (w:W):Option (List PyData):=match xn w with
 |some ds=>some ds
 |none=>(zD O w).bind yh
theorem zcD {Γ:Gh}{O:OM}{H:Hp}{w:W}{v:V}{ds:List PyData}(S:Sim K Γ O H) (r:relW K Γ w v) (e:qB O w=some ds):∃ a vs,v=.ref a/\(SqL K H a vs\/SqT K H a vs)/\Reps K Γ.Z ds vs:=by
 unfold qB at e
 split at e
 ·rename_i es h
  cases e
  obtain⟨a,vs,e1,h1,h2⟩:=uf S r h
  exact⟨a,vs,e1,.inr h1,zK h2⟩
 ·cases h:zD O w with
  |none=>rw [h] at e;cases e
  |some ws=>
   rw [h] at e
   obtain⟨a,vs,e1,h1,h2⟩:=yy S r h
   rw [yE (show yh ws=some ds from e)] at h2
   exact⟨a,vs,e1,.inl h1,zK h2⟩
noncomputable def qC (O:OM) (w:W):Option Nat:=match xn w with
 |some ds=>some ds.length
 |none=>(zD O w).map (·.length)
def zac:List W->OM->WK->Prop:=fun xs O R=>∃ w n,xs=[w]/\qC O w=some n/\R (.d (.int n)) O
theorem zfG:RefC K (fun xs H Q=>∃ p ys,xs=[.ref p]/\(SqL K H p ys\/SqT K H p ys)/\Q (.int ys.length) H) zac:=by
 rintro Γ O H xs vs S rs Q R ⟨w,n,rfl,e,h⟩ k
 cases rs with
 |cons rx t=>
  cases t
  unfold qC at e
  split at e
  ·rename_i ds hT
   cases e
   obtain⟨a,vs,e1,h1,h2⟩:=uf S rx hT
   subst e1
   refine⟨a,vs,rfl,.inr h1,k _ _ _ _ _ (Le.refl _) S ?_ h⟩
   rw [<- Paired.length h2,List.length_map];rfl
  ·cases hL:zD O w with
   |none=>rw [hL] at e;cases e
   |some ws=>
    rw [hL] at e
    cases e
    obtain⟨a,vs,e1,h1,h2⟩:=yy S rx hL
    subst e1
    refine⟨a,vs,rfl,.inl h1,k _ _ _ _ _ (Le.refl _) S ?_ h⟩
    rw [<- Paired.length h2];rfl
def zbw:List W->OM->WK->Prop:=fun xs O R=>∃ z,xs=[.d (.str z)]/\z.length≤sizeLine/\R (.d (.int z.length)) O
theorem zeg:RefC K (fun xs H Q=>∃ z,xs=[.str z]/\z.length≤sizeLine/\Q (.int z.length) H) zbw:=by
 rintro Γ O H xs vs S rs Q R ⟨z,rfl,e,h⟩ k
 cases rs with
 |cons rx t=>
  cases t
  exact⟨z,by rw [show _=V.str z from rx],e,k _ _ _ _ _ (Le.refl _) S xN h⟩
def wI2 (g:Int->Int->Int):List W->OM->WK->Prop:=fun xs O R=>∃ i j,xs=[.d (.int i),.d (.int j)]/\R (.d (.int (g i j))) O
theorem zge {g:Int->Int->Int}:RefC K (fun xs H Q=>∃ i j,xs=[.int i,.int j]/\Q (.int (g i j)) H) (wI2 g):=by
 rintro Γ O H xs vs S rs Q R ⟨i,j,rfl,h⟩ k
 cases rs with
 |cons rx t=>
  cases t with
  |cons ry t=>
   cases t
   exact⟨i,j,by rw [show _=V.int i from rx,show _=V.int j from ry],k _ _ _ _ _ (Le.refl _) S xN h⟩
def zbx:List W->OM->WK->Prop:=fun xs O R=>∃ i,(xs=[.d (.int i)]\/∃ b:Bool,xs=[.d (.bool b)]/\i=if b then 1 else 0)/\R (.d (.int i)) O
theorem zeh:RefC K (fun xs H Q=>(∃ i,xs=[.int i]/\Q (.int i) H)\/∃ k,xs=[.bl k]/\Q (.int (if k then 1 else 0)) H) zbx:=by
 rintro Γ O H xs vs S rs Q R ⟨i,hx,h⟩ k
 rcases hx with rfl | ⟨b,rfl,rfl⟩
 ·cases rs with
  |cons rx t=>cases t;exact .inl ⟨i,by rw [show _=V.int i from rx],k _ _ _ _ _ (Le.refl _) S xN h⟩
 ·cases rs with
  |cons rx t=>cases t;exact .inr ⟨b,by rw [show _=V.bl b from rx],k _ _ _ _ _ (Le.refl _) S xN h⟩
def Y4:TSW:=fun D ρ O=>D.nx ρ O
def yV (T U:TSW):TSW:=fun D ρ O=>T { D with nx:=U D } ρ O
def kZ (T:TEW):TSW:=fun D ρ O=>T ρ O fun _ O1=>D.nx ρ O1
def U0 (T:TEW):TSW:=fun D ρ O=>T ρ O D.rt
def zfH:TSW:=fun D _ O=>D.rt (.d .none) O
def Xs (c:TTW) (T U:TSW):TSW:=fun D ρ O=>c ρ O fun b O1=>if b=true then T D ρ O1 else U D ρ O1
theorem zad:RefS K UL Y4:=fun Γ O H ρ σ D DW S r h e=>e.nx _ _ _ _ _ (Le.refl _) S r h
theorem zcE {t u:TS}{T U:TSW}(h:RefS K t T) (g:RefS K u U):RefS K (ZD t u) (yV T U):=fun Γ O H ρ σ D DW S r hT e=>
 h Γ O H ρ σ { D with nx:=u D } { DW with nx:=U DW } S r hT ⟨fun Γ' O' H' ρ' σ' l S' r' h'=>g _ _ _ _ _ _ _ S' r' h' (e.mono l),e.rt,e.bk,e.ct⟩
theorem zae {t:TE}{T:TEW}(h:zx K t T):RefS K (kN t) (kZ T):=fun Γ O H ρ σ D DW S r hT e=>
 h _ _ _ _ _ S r _ _ hT fun Γ1 O1 H1 w v l S1 r1 h1=>e.nx _ _ _ _ _ l S1 (r.mono l) h1
theorem zcF {t:TE}{T:TEW}(h:zx K t T):RefS K (Y9 t) (U0 T):=fun Γ O H ρ σ D DW S r hT e=>
 h _ _ _ _ _ S r _ _ hT fun Γ1 O1 H1 w v l S1 r1 h1=>e.rt _ _ _ _ _ l S1 r1 h1
theorem zcG {c:TT}{C:TTW}{t u:TS}{T U:TSW}(hc:xo K c C) (h:RefS K t T) (g:RefS K u U):RefS K (UM c t u) (Xs C T U):=fun Γ O H ρ σ D DW S r hT e=>by
 refine hc _ _ _ _ _ S r _ _ hT fun Γ1 O1 H1 b l S1 h1=>?_
 cases b with
 |true=>rw [if_pos rfl] at h1 ⊢;exact h _ _ _ _ _ _ _ S1 (r.mono l) h1 (e.mono l)
 |false=>rw [if_neg (by decide)] at h1 ⊢;exact g _ _ _ _ _ _ _ S1 (r.mono l) h1 (e.mono l)
def U1 (T:TEW) (G:TGW):TSW:=fun D ρ O=>T ρ O fun x O1=>G x ρ O1 D.nx
theorem zcH {t:TE}{T:TEW}{g:TG}{G:TGW}(h:zx K t T) (hg:RefG K g G):RefS K (ki t g) (U1 T G):=fun Γ O H ρ σ D DW S r hT e=>
 h _ _ _ _ _ S r _ _ hT fun Γ1 O1 H1 w v l S1 r1 h1=>hg _ _ _ _ _ _ _ S1 (r.mono l) r1 _ _ h1 fun Γ2 O2 H2 ρ2 σ2 l2=>e.nx _ _ _ _ _ (l.trans l2)
def x8 (i:Nat):TGW:=fun w ρ O R=>R (ρ.set i (some w)) O
theorem zaf {i:Nat}:RefG K (qx i) (x8 i):=fun Γ O H ρ σ w v S r rw Q R h k=>k _ _ _ _ _ (Le.refl _) S (Paired.setP r (show jO K Γ (some w) (some v) from rw)) h
def zei:TGsW:=fun ds ρ O R=>ds=[]/\R ρ O
def zby (G:TGW) (U:TGsW):TGsW:=fun ds ρ O R=>∃ e es,ds=e :: es/\G (.d e) ρ O fun ρ' O'=>U es ρ' O' R
theorem zag:RefGs K zdL zei:=by
 rintro Γ O H ρ σ ds vs S r rs Q R ⟨rfl,h⟩ k
 exact⟨rs,k _ _ _ _ _ (Le.refl _) S r h⟩
theorem Jj {t:TG}{u:TGs}{G:TGW}{U:TGsW}(h:RefG K t G) (g:RefGs K u U):RefGs K (zbm t u) (zby G U):=by
 rintro Γ O H ρ σ ds vs S r rs Q R ⟨e,es,rfl,hh⟩ k
 obtain⟨x,xs,rfl,h1,h2⟩:=rs
 refine⟨x,xs,rfl,h _ _ _ _ _ _ _ S r (zbt h1) _ _ hh fun Γ1 O1 H1 ρ1 σ1 l1 S1 r1 q1=>?_⟩
 exact g _ _ _ _ _ _ _ S1 r1 (Reps.same l1.z _ _ h2) _ _ q1 fun Γ2 O2 H2 ρ2 σ2 l2=>k _ _ _ _ _ (l1.trans l2)
def zej (n:Nat) (U:TGsW):TGW:=fun w ρ O R=>∃ ds,xn w=some ds/\ds.length=n/\U ds ρ O R
theorem zah {n:Nat}{t:TGs}{U:TGsW}(h:RefGs K t U):RefG K (KG K n t) (zej n U):=by
 rintro Γ O H ρ σ w v S r rw Q R ⟨ds,e,hl,hh⟩ k
 obtain⟨a,vs,e1,h1,h2⟩:=uf S rw e
 refine⟨a,vs,e1,h1,by rw [<- Paired.length h2,List.length_map];exact hl,h _ _ _ _ _ _ _ S r (zK h2) _ _ hh k⟩
end
section
variable {K:W.Frag}
def zek (K:W.Frag) (Γ:Gh) (J:It) (ws:List W) (keep:OM->Prop):Prop:=∀ i Γ' O' H',Same Γ.Z Γ'.Z->(∀ a rs,Γ.G a=some rs->∃ more,Γ'.G a=some (rs ++ more))->Sim K Γ' O' H'->keep O'->
 (∀ w,ws[i]? =some w->J.go i H'/\∀ x H2,J.yld i H' x H2->∃ Γ2,Le Γ' Γ2/\Sim K Γ2 O' H2/\relW K Γ2 w x)/\(i=ws.length->J.stop i H')
abbrev TIW:=WS->OM->(List W->(OM->Prop)->OM->Prop)->Prop
def uA (K:W.Frag) (t:TI) (T:TIW):Prop:=∀ Γ O H ρ σ,Sim K Γ O H->relR K Γ ρ σ->∀ (Q:It->Hp->Prop) (R:List W->(OM->Prop)->OM->Prop),T ρ O R->(∀ Γ' O' H' J ws keep,Le Γ Γ'->Sim K Γ' O' H'->zek K Γ' J ws keep->R ws keep O'->Q J H')->t σ H Q
theorem relW.up {Γ Γ':Gh}(hz:Same Γ.Z Γ'.Z) (hg:∀ a rs,Γ.G a=some rs->∃ more,Γ'.G a=some (rs ++ more)) {w:W}{v:V}(h:relW K Γ w v):relW K Γ' w v:=by
 have h1:relW K ⟨Γ'.Z,Γ'.G,Γ.F⟩ w v:=relW.mono (Γ:=Γ) (Γ':=⟨Γ'.Z,Γ'.G,Γ.F⟩) ⟨rfl,hz,hg⟩ h
 cases w <;> exact h1
def zbz (T:TEW):TIW:=fun ρ O R=>T ρ O fun w O1=>∃ ws,zD O1 w=some ws/\R ws (fun O'=>zD O' w=some ws) O1
theorem Jk {t:TE}{T:TEW}(h:zx K t T):uA K (UQ K t) (zbz T):=by
 intro Γ O H ρ σ S r Q R hT k
 refine h _ _ _ _ _ S r _ _ hT fun Γ1 O1 H1 w v l1 S1 r1 h1=>?_
 obtain⟨ws,e,h1⟩:=h1
 obtain⟨a,vs,rfl,q1,q2⟩:=yy S1 r1 e
 refine⟨a,rfl,⟨vs,q1⟩,k _ _ _ _ _ _ l1 S1 (fun i Γ' O' H' hz hg S' e'=>?_) h1⟩
 obtain⟨a',vs',ea,q1',q2'⟩:=yy S' (r1.up hz hg) e'
 cases ea
 refine⟨fun w' hw=>?_,fun hi=>⟨vs',q1',by rw [<- Paired.length q2',hi];exact Nat.le_refl _⟩⟩
 obtain⟨x,hx,rx⟩:=Paired.getP q2' hw
 refine⟨⟨vs',x,q1',hx⟩,fun y H2 ⟨e2,hy⟩=>?_⟩
 subst e2
 have:=hy vs' q1'
 rw [hx] at this
 cases this
 exact⟨Γ',Le.refl _,S',rx⟩
def zel (T:TEW):TIW:=fun ρ O R=>T ρ O fun w O1=>∃ ds,xn w=some ds/\R (ds.map .d) (fun _=>True) O1
theorem zai {t:TE}{T:TEW}(h:zx K t T):uA K (KH K t) (zel T):=by
 intro Γ O H ρ σ S r Q R hT k
 refine h _ _ _ _ _ S r _ _ hT fun Γ1 O1 H1 w v l1 S1 r1 h1=>?_
 obtain⟨ds,e,h1⟩:=h1
 obtain⟨a,vs,rfl,q1,q2⟩:=uf S1 r1 e
 refine⟨a,rfl,⟨vs,q1⟩,k _ _ _ _ _ _ l1 S1 (fun i Γ' O' H' hz hg S' e'=>?_) h1⟩
 obtain⟨a',vs',ea,q1',q2'⟩:=uf S' (r1.up hz hg) e
 cases ea
 refine⟨fun w' hw=>?_,fun hi=>⟨vs',q1',by rw [<- Paired.length q2',hi];exact Nat.le_refl _⟩⟩
 obtain⟨x,hx,rx⟩:=Paired.getP q2' hw
 refine⟨⟨vs',x,q1',hx⟩,fun y H2 ⟨e2,hy⟩=>?_⟩
 subst e2
 have:=hy vs' q1'
 rw [hx] at this
 cases this
 exact⟨Γ',Le.refl _,S',rx⟩
theorem Jl {Γ:Gh}{n:Nat}{f:Nat->Int}{J:It}(hgo:∀ i H,i < n->J.go i H) (hy:∀ i H x H',J.yld i H x H'->H'=H/\x=.int (f i)) (hs:∀ i H,n≤i->J.stop i H):zek K Γ J ((List.range n).map fun i=>.d (.int (f i))) fun _=>True:=by
 intro i Γ' O' H' hz hg S' _
 refine⟨fun w hw=>?_,fun hi=>hs i _ (by rw [hi];simp)⟩
 rw [List.getElem?_map] at hw
 cases hr:(List.range n)[i]? with
 |none=>rw [hr] at hw;cases hw
 |some j=>
  rw [hr] at hw
  cases hw
  obtain⟨hi,hj⟩:=List.getElem?_eq_some_iff.mp hr
  simp at hi hj
  subst hj
  refine⟨hgo i _ hi,fun x H2 y=>?_⟩
  obtain⟨rfl,rfl⟩:=hy i _ x H2 y
  exact⟨Γ',Le.refl _,S',xN⟩
def zbA (T:TAW):TIW:=fun ρ O R=>T ρ O fun ws O1=>∃ j:Int,ws=[.d (.int j)]/\-(2 ^ 62)≤j/\j < 2 ^ 62/\R ((List.range j.toNat).map fun (i:Nat)=>.d (.int i)) (fun _=>True) O1
theorem Jm {t:TA}{T:TAW}(h:yU K t T):uA K (zbn t) (zbA T):=by
 intro Γ O H ρ σ S r Q R hT k
 refine h _ _ _ _ _ S r _ _ hT fun Γ1 O1 H1 ws vs l1 S1 r1 h1=>?_
 obtain⟨j,rfl,b1,b2,h1⟩:=h1
 cases r1 with
 |cons rx t=>
  cases t
  refine⟨j,by rw [show _=V.int j from rx],b1,b2,k _ _ _ _ _ _ l1 S1 (Jl (f:=fun i=>(i:Int)) (fun i H hi=>hi) (fun i H x H' ⟨e1,e2⟩=>⟨e1,by rw [e2,Int.zero_add]⟩) fun i H hi=>hi) h1⟩
def zbB (T:TAW):TIW:=fun ρ O R=>T ρ O fun ws O1=>∃ i j:Int,ws=[.d (.int i),.d (.int j)]/\(-(2 ^ 62)≤i/\i < 2 ^ 62/\-(2 ^ 62)≤j/\j < 2 ^ 62)/\R ((List.range (j - i).toNat).map fun (k:Nat)=>.d (.int (i+k))) (fun _=>True) O1
theorem Jn {t:TA}{T:TAW}(h:yU K t T):uA K (zbo t) (zbB T):=by
 intro Γ O H ρ σ S r Q R hT k
 refine h _ _ _ _ _ S r _ _ hT fun Γ1 O1 H1 ws vs l1 S1 r1 h1=>?_
 obtain⟨i,j,rfl,b,h1⟩:=h1
 cases r1 with
 |cons rx t=>
  cases t with
  |cons ry t=>
   cases t
   exact⟨i,j,by rw [show _=V.int i from rx,show _=V.int j from ry],b,k _ _ _ _ _ _ l1 S1 (Jl (f:=fun k=>i+(k:Int)) (fun i H hi=>hi) (fun i H x H' ⟨e1,e2⟩=>⟨e1,e2⟩) fun i H hi=>hi) h1⟩
def zbC (T:TAW):TIW:=fun ρ O R=>T ρ O fun ws O1=>∃ w us ds,ws=[w]/\zD O1 w=some us/\yh us=some ds/\R ((List.range ds.length).zipWith (fun (i:Nat) d=>W.d (.tuple [.int i,d])) ds) (fun O'=>zD O' w=some us) O1
theorem Jo {t:TA}{T:TAW}(h:yU K t T):uA K (UW K t) (zbC T):=by
 intro Γ O H ρ σ S r Q R hT k
 refine h _ _ _ _ _ S r _ _ hT fun Γ1 O1 H1 ws vs l1 S1 r1 h1=>?_
 obtain⟨w,us,ds,rfl,e,hd,h1⟩:=h1
 cases r1 with
 |cons rx t=>
  cases t
  obtain⟨a,vs,rfl,q1,q2⟩:=yy S1 rx e
  refine⟨a,rfl,⟨vs,q1⟩,k _ _ _ _ _ _ l1 S1 (fun i Γ' O' H' hz hg S' e'=>?_) h1⟩
  obtain⟨a',vs',ea,q1',q2'⟩:=yy S' (rx.up hz hg) e'
  cases ea
  rw [yE hd] at q2'
  have hl:ds.length=vs'.length:=by rw [<- Paired.length q2',List.length_map]
  refine⟨fun w' hw=>?_,fun hi=>⟨vs',q1',by rw [hi];simp;omega⟩⟩
  rw [List.getElem?_zipWith] at hw
  cases hr:(List.range ds.length)[i]? with
  |none=>rw [hr] at hw;cases hw
  |some j=>
   rw [hr] at hw
   cases hdi:ds[i]? with
   |none=>rw [hdi] at hw;cases hw
   |some d=>
    rw [hdi] at hw
    cases hw
    obtain⟨hi,hj⟩:=List.getElem?_eq_some_iff.mp hr
    simp at hi hj
    subst hj
    obtain⟨x,hx,rx'⟩:=Paired.getP q2' (i:=i) (x:=.d d) (by rw [List.getElem?_map,hdi];rfl)
    refine⟨⟨vs',x,q1',hx⟩,fun y H2 ⟨t,y',e1,e2,e3,hy⟩=>?_⟩
    have hy':=hy vs' q1'
    rw [hx] at hy'
    cases hy'
    subst e1 e3
    obtain⟨Γ2,l2,S2,r2⟩:=jd S' (ds:=[.int i,d]) (vs:=[.int i,x]) ⟨_,_,rfl,rfl,_,_,rfl,rx',rfl⟩ e2
    exact⟨Γ2,l2,S2,r2⟩
def yN (ws:List W) (keep:OM->Prop) (G:TGW) (TB:TSW) (D:EndsW) (ρ:WS) (O:OM):Prop:=∃ Pv:Nat->WS->OM->Prop,Pv 0 ρ O/\(∀ i ρ O,Pv i ρ O->keep O)/\
 (∀ i w ρ O,ws[i]? =some w->Pv i ρ O->G w ρ O fun ρ' O'=>TB { D with nx:=Pv (i+1),ct:=Pv (i+1),bk:=D.nx } ρ' O')/\∀ ρ O,Pv ws.length ρ O->D.nx ρ O
def zaj (Wi:TIW) (G:TGW) (TB:TSW):TSW:=fun D ρ O=>Wi ρ O fun ws keep O1=>yN ws keep G TB D ρ O1
theorem zcI {wi:TI}{Wi:TIW}{g:TG}{G:TGW}{tb:TS}{TB:TSW}(hi:uA K wi Wi) (hg:RefG K g G) (hb:RefS K tb TB):RefS K (KI wi g tb) (zaj Wi G TB):=by
 intro Γ O H ρ σ D DW S r hT e
 refine hi _ _ _ _ _ S r _ _ hT fun Γ1 O1 H1 J ws keep l1 S1 ok h1=>?_
 obtain⟨Pv,p0,pk,ps,pd⟩:=h1
 refine⟨fun i m σ' H'=>i≤ws.length/\m=ws.length - i/\∃ Γ' O' ρ',Le Γ1 Γ'/\Sim K Γ' O' H'/\relR K Γ' ρ' σ'/\Pv i ρ' O',⟨_,Nat.zero_le _,rfl,Γ1,O1,ρ,Le.refl _,S1,r.mono l1,p0⟩,?_⟩
 rintro i m σ' H' ⟨hi,rfl,Γ',O',ρ',l',S',r',p'⟩
 obtain⟨ok1,ok2⟩:=ok i Γ' O' H' l'.z l'.g S' (pk _ _ _ p')
 by_cases hlt:i < ws.length
 ·obtain⟨go,y⟩:=ok1 _ (List.getElem?_eq_getElem hlt)
  refine .inr ⟨go,fun σ2 H2=>∃ Γ2 O2 ρ2,Le Γ1 Γ2/\Sim K Γ2 O2 H2/\relR K Γ2 ρ2 σ2/\Pv (i+1) ρ2 O2,fun σ2 H2 ⟨Γ2,O2,ρ2,l2,S2,r2,p2⟩=>⟨ws.length - (i+1),by omega,hlt,rfl,Γ2,O2,ρ2,l2,S2,r2,p2⟩,fun x H2 hy=>?_⟩
  obtain⟨Γ2,l2,S2,rx⟩:=y x H2 hy
  refine hg _ _ _ _ _ _ _ S2 (r'.mono l2) rx _ _ (ps i _ ρ' O' (List.getElem?_eq_getElem hlt) p') fun Γ3 O3 H3 ρ3 σ3 l3 S3 r3 h3=>?_
  have l13:=(l'.trans l2).trans l3
  refine hb _ _ _ _ _ _ _ S3 r3 h3 ⟨fun Γ4 O4 H4 ρ4 σ4 l4 S4 r4 h4=>⟨Γ4,O4,ρ4,l13.trans l4,S4,r4,h4⟩,fun Γ4 O4 H4 w v l4=>e.rt _ _ _ _ _ ((l1.trans l13).trans l4),fun Γ4 O4 H4 ρ4 σ4 l4=>e.nx _ _ _ _ _ ((l1.trans l13).trans l4),fun Γ4 O4 H4 ρ4 σ4 l4 S4 r4 h4=>⟨Γ4,O4,ρ4,l13.trans l4,S4,r4,h4⟩⟩
 ·have hi2:i=ws.length:=by omega
  refine .inl ⟨ok2 hi2,e.nx _ _ _ _ _ (l1.trans l') S' r' (pd _ _ ?_)⟩
  rw [<- hi2];exact p'
noncomputable def yI (js:List Nat) (ρ:WS):WS:=js.map fun j=>(ρ[j]?).join
theorem je {Γ:Gh}{ρ:WS}{σ:St}(r:relR K Γ ρ σ) (n:Nat) (js:List Nat):relR K Γ (List.replicate n none ++ yI js ρ) (uw n js σ):=by
 refine Paired.appP ?_ ?_
 ·induction n with
  |zero=>exact .nil
  |succ n ih=>exact .cons trivial ih
 ·unfold yI
  induction js with
  |nil=>exact .nil
  |cons j js ih=>
   refine .cons ?_ ih
   show jO K Γ (ρ[j]?.join) (σ[j]?.join)
   cases h:ρ[j]? with
   |none=>exact trivial
   |some o=>
    cases o with
    |none=>exact trivial
    |some w=>
     obtain⟨v,hv,rv⟩:=r.get h
     rw [hv]
     exact rv
def Y5 (G:TGW) (T:TTW) (E:TEW) (n:Nat) (z0:WS) (w:W) (ρ:WS) (O:OM) (k:Option W->OM->Prop):Prop:=
 G w ρ O fun ρ1 O1=>(ρ1.length=n+z0.length/\ρ1.drop n=z0)/\T ρ1 O1 fun ok O2=>if ok=true then E ρ1 O2 fun y O3=>k (some y) O3 else k none O2
def wLc (Wi:TIW) (n:Nat) (js:List Nat) (G:TGW) (T:TTW) (E:TEW):TEW:=fun ρ O R=>Wi ρ O fun ws keep O1=>keep O1/\ws.length≤1000/\∃ F:W->Option PyData,
 (∀ w∈ws,∀ us:WS,us.length=n->Y5 G T E n (yI js ρ) w (us ++ yI js ρ) O1 fun y O2=>O2=O1/\y=(F w).map .d)/\R (.d (.list (ws.filterMap F))) O1
theorem kn {n:Nat}{z0 ρ:WS}(h1:ρ.length=n+z0.length) (h2:ρ.drop n=z0):∃ us:WS,us.length=n/\ρ=us ++ z0:=⟨ρ.take n,by rw [List.length_take];omega,by rw [<- h2,List.take_append_drop]⟩
theorem zem {wi:TI}{Wi:TIW}{n:Nat}{js:List Nat}{g:TG}{G:TGW}{tt:TT}{T:TTW}{te:TE}{E:TEW}(hi:uA K wi Wi) (hg:RefG K g G) (ht:xo K tt T) (he:zx K te E):zx K (tLc wi n js g tt te) (wLc Wi n js G T E):=by
 intro Γ O H ρ σ S r Q R hT k
 refine hi _ _ _ _ _ S r _ _ hT fun Γ1 O1 H1 J ws keep l1 S1 ok h1=>?_
 obtain⟨hk,hlen,F,hF,hR⟩:=h1
 intro D hD
 have hFD:Γ1.F D=none:=S1.f.free hD
 have r1:=je (r.mono l1) n js
 refine⟨fun i m σ' H'=>i≤ws.length/\m=ws.length - i/\∃ Γ' ρ' vs,Same Γ1.Z Γ'.Z/\(∀ a rs,Γ1.G a=some rs->∃ more,Γ'.G a=some (rs ++ more))/\Γ'.F=upd Γ1.F D (.lst vs)/\Sim K Γ' O1 H'/\relR K Γ' ρ' σ'/\
  ρ'.length=n+(yI js ρ).length/\ρ'.drop n=yI js ρ/\Reps K Γ'.Z ((ws.take i).filterMap F) vs,⟨_,Nat.zero_le _,rfl,_,_,[],Same.refl _,fun a rs h=>⟨[],by rw [List.append_nil];exact h⟩,rfl,S1.frameNew hD (.lst []),r1.setF,by simp,by simp,rfl⟩,?_⟩
 rintro i m σ' H' ⟨hi,rfl,Γ',ρ',vs,z',g',f',S',r',n1,n2,rp⟩
 obtain⟨ok1,ok2⟩:=ok i Γ' O1 H' z' g' S' hk
 have hvl:vs.length≤i:=by
  rw [<- Reps.length rp]
  exact Nat.le_trans (List.length_filterMap_le _ _) (by rw [List.length_take];omega)
 by_cases hlt:i < ws.length
 ·obtain⟨go,y⟩:=ok1 _ (List.getElem?_eq_getElem hlt)
  refine .inr ⟨go,fun σ2 H2=>∃ Γ2 ρ2 vs2,Same Γ1.Z Γ2.Z/\(∀ a rs,Γ1.G a=some rs->∃ more,Γ2.G a=some (rs ++ more))/\Γ2.F=upd Γ1.F D (.lst vs2)/\Sim K Γ2 O1 H2/\relR K Γ2 ρ2 σ2/\
   ρ2.length=n+(yI js ρ).length/\ρ2.drop n=yI js ρ/\Reps K Γ2.Z ((ws.take (i+1)).filterMap F) vs2,fun σ2 H2 h=>⟨ws.length - (i+1),by omega,hlt,rfl,h⟩,fun x H2 hy=>?_⟩
  obtain⟨Γ2,l2,S2,rx⟩:=y x H2 hy
  obtain⟨us,hus,rfl⟩:=kn n1 n2
  have et:ws.take (i+1)=ws.take i ++ [ws[i]]:=(List.take_append_getElem hlt).symm
  refine hg _ _ _ _ _ _ _ S2 (r'.mono l2) rx _ _ (hF _ (List.getElem_mem hlt) us hus) fun Γ3 O3 H3 ρ3 σ3 l3 S3 r3 h3=>?_
  obtain⟨⟨m1,m2⟩,h3⟩:=h3
  refine ht _ _ _ _ _ S3 r3 _ _ h3 fun Γ4 O4 H4 b l4 S4 h4=>?_
  have l24:=(l2.trans l3).trans l4
  have up:∀ Γ5,Le Γ' Γ5->Same Γ1.Z Γ5.Z/\(∀ a rs,Γ1.G a=some rs->∃ more,Γ5.G a=some (rs ++ more)):=fun Γ5 l=>⟨z'.trans l.z,fun a rs h=>by
   obtain⟨m,e⟩:=g' a rs h
   obtain⟨m2,e2⟩:=l.g a _ e
   exact⟨m ++ m2,by rw [<- List.append_assoc];exact e2⟩⟩
  cases b with
  |true=>
   rw [if_pos rfl] at h4 ⊢
   refine he _ _ _ _ _ S4 (r3.mono l4) _ _ h4 fun Γ5 O5 H5 w5 v5 l5 S5 r5 h5=>?_
   obtain⟨rfl,h5⟩:=h5
   have l25:=l24.trans l5
   cases hFw:F ws[i] with
   |none=>rw [hFw] at h5;cases h5
   |some d=>
    rw [hFw] at h5
    cases h5
    have f5:Γ5.F=upd Γ1.F D (.lst vs):=by rw [l25.f,f']
    have fD:Γ5.F D=some (.lst vs):=by rw [f5,zA]
    refine⟨vs,S5.f _ _ fD,xZ (by omega),?_⟩
    obtain⟨u1,u2⟩:=up Γ5 l25
    refine⟨⟨Γ5.Z,Γ5.G,upd Γ5.F D (.lst (vs ++ [v5]))⟩,ρ3,vs ++ [v5],u1,u2,?_,S5.framePut fD _,((r3.mono l4).mono l5).setF,m1,m2,?_⟩
    ·show upd Γ5.F D _=_
     rw [f5,ZA]
    ·rw [et,List.filterMap_append]
     have:([ws[i]]:List W).filterMap F=[d]:=by simp [hFw]
     rw [this]
     exact Reps.snoc (Reps.same l25.z _ _ rp) r5
  |false=>
   rw [if_neg (by decide)] at h4 ⊢
   obtain⟨rfl,h4⟩:=h4
   obtain⟨u1,u2⟩:=up Γ4 l24
   refine⟨Γ4,ρ3,vs,u1,u2,by rw [l24.f,f'],S4,r3.mono l4,m1,m2,?_⟩
   cases hFw:F ws[i] with
   |some d=>rw [hFw] at h4;cases h4
   |none=>
    rw [et,List.filterMap_append]
    have:([ws[i]]:List W).filterMap F=[]:=by simp [hFw]
    rw [this,List.append_nil]
    exact Reps.same l24.z _ _ rp
 ·have hi2:i=ws.length:=by omega
  subst hi2
  refine .inl ⟨ok2 rfl,?_⟩
  rw [List.take_length] at rp
  obtain⟨q1,q2,q3⟩:=S'.unframe f' hFD rp
  exact k ⟨upd Γ'.Z D (.lst vs),Γ'.G,Γ1.F⟩ _ _ _ _ (l1.trans ⟨rfl,z'.trans q1,g'⟩) q2 q3 hR
end
section
variable {K:W.Frag}
noncomputable def zen {α:Type}(f:Str) (v:α):List (Str×α)->List (Str×α)
 |[]=>[(f,v)]
 | (g,x) :: r=>if g=f then (g,v) :: r else (g,x) :: zen f v r
noncomputable def U2:W->Option Key
 |.d (.int i)=>some (.inl i)
 |.d (.str x)=>some (.inr x)
 |_=>none
section
variable {κ α:Type} [DecidableEq κ]
noncomputable def zgf (kvs:List (κ×α)) (k:κ):Option α:=(kvs.find? fun kv=>decide (kv.1=k)).map (·.2)
noncomputable def zfI (kvs:List (κ×α)) (k:κ) (v:α):List (κ×α):=if (kvs.any fun kv=>decide (kv.1=k))=true then kvs.map (fun kv=>if kv.1=k then (kv.1,v) else kv) else kvs ++ [(k,v)]
end
def tyW (T:String) (O:OM) (w:W):Prop:=(T= "list"/\(zD O w).isSome=true)\/(T= "str"/\∃ z,w=.d (.str z))\/(T= "dict"/\∃ a kvs,w=.own a/\O a=some (.dK kvs))
theorem zfJ {Γ:Gh}{O:OM}{H:Hp}{T:String}{w:W}{v:V}(S:Sim K Γ O H) (r:relW K Γ w v) (h:tyW T O w):tyV K T v H:=by
 rcases h with⟨rfl,h⟩ | ⟨rfl,z,rfl⟩ | ⟨rfl,a,kvs,rfl,h⟩
 ·obtain⟨ws,e⟩:=Option.isSome_iff_exists.mp h
  obtain⟨a,vs,rfl,q1,_⟩:=yy S r e
  exact .inl ⟨rfl,vs,q1⟩
 ·rw [show v=.str z from r];rfl
 ·cases (show v=.ref a from r)
  obtain⟨_,vs,q1,_⟩:=S.o _ _ h
  exact .inr (.inr (.inl ⟨rfl,.inl ⟨vs,q1⟩⟩))
def wBM (T:String) (rw:W->List W->OM->WK->Prop) (To:TEW) (Ta:TAW):TEW:=fun ρ O R=>To ρ O fun x O1=>tyW T O1 x/\Ta ρ O1 fun xs O2=>rw x xs O2 R
theorem zeo {T:String}{r:V->List V->Hp->VK->Prop}{rw:W->List W->OM->WK->Prop}{to:TE}{To:TEW}{t:TA}{Ta:TAW}(hr:RefM K T r rw) (ho:zx K to To) (ha:yU K t Ta):zx K (tBM K T r to t) (wBM T rw To Ta):=by
 intro Γ O H ρ σ S r0 Q R hT k
 refine ho _ _ _ _ _ S r0 _ _ hT fun Γ1 O1 H1 x v l1 S1 rx h1=>?_
 refine⟨zfJ S1 rx h1.1,ha _ _ _ _ _ S1 (r0.mono l1) _ _ h1.2 fun Γ2 O2 H2 ws vs l2 S2 rs h2=>?_⟩
 exact hr _ _ _ _ _ _ _ S2 (rx.mono l2) rs _ _ h2 fun Γ3 O3 H3 w u l3=>k _ _ _ _ _ ((l1.trans l2).trans l3)
noncomputable def uU (O:OM) (o w:W):Option OM:=match o with
 |.own a=>match O a with
  |some (.lst ws)=>if ws.length < 1000 then some (updO O a (.lst (ws ++ [w]))) else none
  |some (.grid rows)=>match w with
   |.own b=>match O b with
    |some (.lst us)=>if rows.length < 1000 then (yh us).map fun ds=>updO (del O b) a (.grid (rows ++ [ds])) else none
    |_=>none
   |_=>none
  |_=>none
 |_=>none
def ZO:W->List W->OM->WK->Prop:=fun x ws O R=>∃ w O1,ws=[w]/\uU O x w=some O1/\R (.d .none) O1
theorem zak {T:String}:RefM K T jL ZO:=by
 rintro Γ O H x v xs vs S rx rs Q R ⟨w,O1,rfl,e,h⟩ k
 cases rs with
 |cons rw t=>
  cases t
  rename_i u
  cases x with
  |d _=>cases e
  |row _ _=>cases e
  |own a=>
   cases (show v=.ref a from rx)
   simp only [uU] at e
   split at e
   ·rename_i ws ho
    split at e
    ·rename_i hl
     cases e
     obtain⟨_,us,q1,q2⟩:=S.o _ _ ho
     refine⟨a,us,u,rfl,rfl,q1,by rw [<- Paired.length q2];exact xZ (by omega),?_⟩
     exact k _ _ _ _ _ (Le.refl _) (S.put (oo:=.lst _) ho (by intro _ h;cases h) (by intro _ h;cases h) ⟨_,zA,Paired.appP q2 (.cons rw .nil)⟩) uh h
    ·cases e
   ·rename_i rows ho
    split at e
    ·rename_i b
     cases (show u=.ref b from rw)
     split at e
     ·rename_i us hb
      split at e
      ·rename_i hl
       cases hd:yh us with
       |none=>rw [hd] at e;cases e
       |some ds=>
        rw [hd] at e
        cases e
        rw [yE hd] at hb
        obtain⟨_,rs,hg,_⟩:=S.o _ _ ho
        obtain⟨q1,q2,Γ',l',S'⟩:=S.absorb ho hg hb
        refine⟨a,_,.ref b,rfl,rfl,q1,by rw [List.length_map,q2];exact xZ (by omega),?_⟩
        exact k _ _ _ _ _ l' S' uh h
      ·cases e
     ·cases e
    ·cases e
   ·cases e
end
section
variable {K:W.Frag}
def zbD (t:TA):TE:=ZG t
theorem vn {X:Cx}{es:List Expr}{t:TA}{pos:Pos}(h:QA X es t):PE X (.List es pos) (zbD t):=Q6 h.pa
def zbE (T:TAW):TEW:=fun ρ O R=>T ρ O fun ws O1=>ws.length≤1000/\∀ p,O1 p=none->R (.own p) (updO O1 p (.lst ws))
theorem zal {t:TA}{T:TAW}(h:yU K t T):zx K (zbD t) (zbE T):=by
 intro Γ O H ρ σ S r0 Q R hT k
 refine h Γ O H ρ σ S r0 _ _ hT fun Γ1 O1 H1 ws vs l1 S1 rs h1=>?_
 refine⟨by rw [<- Paired.length rs];exact ZM h1.1,fun p hp=>?_⟩
 obtain⟨hO,S'⟩:=ZN S1 rs hp
 exact k _ _ _ _ _ l1 S' ug (h1.2 p hO)
def wCs (vs:List V):TAW:=fun _ O R=>R (vs.map ofV) O
theorem zep {vs:List V}(h:vs.all scV=true:=by rfl):yU K (tCs vs) (wCs vs):=fun Γ O H ρ σ S r Q R hT k=>k _ _ _ _ _ (Le.refl _) S (uz h) hT
noncomputable def tyD:PyData->Option String
 |.none=>some "NoneType"
 |.bool _=>some "bool"
 |.int _=>some "int"
 |.str _=>some "str"
 |_=>none
noncomputable def isI:String->String->Option Bool
 | "int","int"=>some true
 | "int","bool"=>some false
 | "int","str"=>some false
 | "bool","int"=>some true
 | "bool","bool"=>some true
 | "bool","str"=>some false
 | "str","int"=>some false
 | "str","bool"=>some false
 | "str","str"=>some true
 | "NoneType","int"=>some false
 | "NoneType","bool"=>some false
 | "NoneType","str"=>some false
 |_,_=>none
abbrev TOW:=WS->OM->(Option Int->OM->Prop)->Prop
def ZP (K:W.Frag) (t:TO) (T:TOW):Prop:=∀ Γ O H ρ σ,Sim K Γ O H->relR K Γ ρ σ->∀ (Q:Option Int->Hp->Prop) (R:Option Int->OM->Prop),T ρ O R->(∀ Γ' O' H' b,Le Γ Γ'->Sim K Γ' O' H'->R b O'->Q b H')->t σ H Q
def VU:TOW:=fun _ O R=>R none O
def zbF (T:TEW):TOW:=fun ρ O R=>T ρ O fun x O1=>∃ i,x=.d (.int i)/\R (some i) O1
theorem U3:ZP K VO VU:=fun Γ O H ρ σ S r Q R hT k=>k _ _ _ _ (Le.refl _) S hT
theorem zam {t:TE}{T:TEW}(h:zx K t T):ZP K (zbr t) (zbF T):=by
 intro Γ O H ρ σ S r Q R hT k
 refine h _ _ _ _ _ S r _ _ hT fun Γ1 O1 H1 x v l1 S1 rx h1=>?_
 obtain⟨i,rfl,h1⟩:=h1
 exact⟨i,rx,k _ _ _ _ l1 S1 h1⟩
noncomputable def zY {α:Type}(xs:List α) (lo hi:Option Int):List α:=(xs.drop (HT.sIx xs.length 0 lo)).take (HT.sIx xs.length xs.length hi - HT.sIx xs.length 0 lo)
theorem zan {Z:Hp}{ds:List PyData}{vs:List V}(h:Reps K Z ds vs) (lo hi:Option Int):Reps K Z (zY ds lo hi) (ZH vs lo hi):=by
 have hp:relWs K ⟨Z,fun _=>none,fun _=>none⟩ (ds.map .d) vs:=yj h
 have hl:=Reps.length h
 have:=Paired.takeP (Paired.dropP hp (HT.sIx vs.length 0 lo)) (HT.sIx vs.length vs.length hi - HT.sIx vs.length 0 lo)
 rw [<- List.map_drop,<- List.map_take] at this
 unfold zY ZH
 rw [hl]
 exact zK this
def zeq (Te:TEW) (Tl Th:TOW):TEW:=fun ρ O R=>Te ρ O fun x O1=>Tl ρ O1 fun l O2=>Th ρ O2 fun u O3=>∃ ws ds,zD O3 x=some ws/\yh ws=some ds/\R (.d (.list (zY ds l u))) O3
theorem zcJ {te:TE}{tl th:TO}{Te:TEW}{Tl Th:TOW}(he:zx K te Te) (hl:ZP K tl Tl) (hh:ZP K th Th):zx K (tSl (KO K) te tl th) (zeq Te Tl Th):=by
 intro Γ O H ρ σ S r Q R hT k
 refine he _ _ _ _ _ S r _ _ hT fun Γ1 O1 H1 x v l1 S1 rx h1=>?_
 refine hl _ _ _ _ _ S1 (r.mono l1) _ _ h1 fun Γ2 O2 H2 l l2 S2 h2=>?_
 refine hh _ _ _ _ _ S2 (r.mono (l1.trans l2)) _ _ h2 fun Γ3 O3 H3 u l3 S3 h3=>?_
 obtain⟨ws,ds,e1,e2,h3⟩:=h3
 obtain⟨a,vs,rfl,q1,q2⟩:=yy S3 ((rx.mono l2).mono l3) e1
 rw [yE e2] at q2
 refine⟨a,vs,rfl,q1,fun p hp=>?_⟩
 obtain⟨Γ',l',S',r'⟩:=ql S3 (zan (zK q2) l u) hp
 exact k _ _ _ _ _ (((l1.trans l2).trans l3).trans l') S' r' h3
def zer:R2W:=fun x y O R=>∃ ws us ds es,zD O x=some ws/\zD O y=some us/\yh ws=some ds/\yh us=some es/\ds.length+es.length≤10000000/\R (.d (.list (ds ++ es))) O
theorem ko {Z:Hp}:∀ {ds es:List PyData}{vs us:List V},Reps K Z ds vs->Reps K Z es us->Reps K Z (ds ++ es) (vs ++ us)
 |[],_,_,_,h,g=>by rw [show _=[] from h];exact g
 |d :: ds,_,_,_,h,g=>by
  obtain⟨x,r,rfl,h1,h2⟩:=h
  exact⟨x,_,rfl,h1,ko h2 g⟩
theorem zfK:RefR K (KY K) zer:=by
 rintro Γ O H x y v u S rx ry Q R ⟨ws,us,ds,es,e1,e2,e3,e4,hl,h⟩ k
 obtain⟨a,vs,rfl,q1,q2⟩:=yy S rx e1
 obtain⟨b,zs,rfl,p1,p2⟩:=yy S ry e2
 rw [yE e3] at q2
 rw [yE e4] at p2
 have q3:=zK q2
 have p3:=zK p2
 refine⟨a,b,vs,zs,rfl,rfl,q1,p1,by rw [<- Reps.length q3,<- Reps.length p3,sizeLine_eq];omega,fun p hp=>?_⟩
 obtain⟨Γ',l',S',r'⟩:=ql S (ko q3 p3) hp
 exact k _ _ _ _ _ l' S' r' h
def wIn (neg:Bool):R2W:=fun x y O R=>∃ d ds,x=.d d/\qB O y=some ds/\scD d=true/\ds.all scD=true/\R (.d (.bool (if neg then !inV (vOf d) (ds.map vOf) else inV (vOf d) (ds.map vOf)))) O
theorem VV {Z:Hp}:∀ {ds:List PyData}{vs:List V},Reps K Z ds vs->ds.all scD=true->vs=ds.map vOf
 |[],_,h,_=>h
 |d :: ds,_,h,a=>by
  obtain⟨x,r,rfl,h1,h2⟩:=h
  simp at a
  rw [qj h1 a.1,VV h2 (by simpa using a.2)]
  rfl
theorem VW {d:PyData}(h:scD d=true):v7 (vOf d)=true:=by cases d <;> first |rfl |simp [scD] at h
def zao (K:W.Frag) (neg:Bool):R2:=rIn K neg
theorem zbG {X:Cx}(h:X.K=K):OpR X (compareOp .In) (zao K false):=by subst h;exact Q9
theorem zap {X:Cx}(h:X.K=K):OpR X (compareOp .NotIn) (zao K true):=by subst h;exact jb
theorem zgg {neg:Bool}:RefR K (zao K neg) (wIn neg):=by
 rintro Γ O H x y v u S rx ry Q R ⟨d,ds,rfl,e,h1,h2,h⟩ k
 obtain⟨a,vs,rfl,q1,q2⟩:=zcD S ry e
 have hv:=qj rx h1
 have hvs:=VV q2 h2
 subst hv hvs
 refine⟨a,_,rfl,q1,VW h1,?_,k _ _ _ _ _ (Le.refl _) S xf h⟩
 rw [List.all_map]
 simp only [List.all_eq_true] at h2 ⊢
 exact fun z hz=>VW (h2 z hz)
def zbH:R2W:=fun x y O R=>∃ i j,x=.d (.str i)/\y=.d (.str j)/\i.length+j.length≤sizeLine/\R (.d (.str (i ++ j))) O
theorem zes:RefR K (fun x y H Q=>∃ i j,x=.str i/\y=.str j/\i.length+j.length≤sizeLine/\Q (.str (i ++ j)) H) zbH:=by
 rintro Γ O H x y v u S rx ry Q R ⟨i,j,rfl,rfl,hl,h⟩ k
 exact⟨i,j,rx,ry,hl,k _ _ _ _ _ (Le.refl _) S xM h⟩
end
section
variable {K:W.Frag}
theorem Sim.unframeO {Γ:Gh}{O:OM}{H:Hp}(S:Sim K Γ O H) {a:Addr}{ds:List PyData}{vs:List V}{F:Hp}(hF:Γ.F=upd F a (.lst vs)) (h0:F a=none) (hr:Reps K Γ.Z ds vs) :
  O a=none/\Sim K ⟨Γ.Z,Γ.G,F⟩ (updO O a (.lst (ds.map .d))) H:=by
 have hFa:Γ.F a=some (.lst vs):=by rw [hF,zA]
 obtain⟨hz,hO,hrow⟩:=S.fd _ _ hFa
 have kF:∀ b o,F b=some o->b≠a/\Γ.F b=some o:=fun b o e=>by
  have hb:b≠a:=fun z=>by rw [z,h0] at e;cases e
  exact⟨hb,by rw [hF,zg hb];exact e⟩
 have k1:∀ {x:Addr}{rx:List (List PyData)},updO O a (.lst (ds.map .d)) x=some (.grid rx)->O x=some (.grid rx):=fun {x rx} h=>by
  by_cases hx:x=a
  ·subst hx;rw [zu] at h;cases h
  ·rw [zC hx] at h;exact h
 refine⟨hO,⟨S.z,fun b oo e=>?_,S.gd,fun b u e=>S.f _ _ (kF b u e).2,fun b oo e hn=>?_,fun b o e=>S.fg b o (kF b o e).2,fun b o e=>⟨(S.fd b o (kF b o e).2).1,by rw [zC (kF b o e).1];exact (S.fd b o (kF b o e).2).2.1,fun c rows rs e1=>(S.fd b o (kF b o e).2).2.2 c rows rs (k1 e1)⟩,fun x y ra rb rs ss r e1 e2=>S.u x y ra rb rs ss r (k1 e1) (k1 e2)⟩⟩
 ·by_cases hb:b=a
  ·subst hb
   rw [zu] at e
   cases e
   exact⟨hz,vs,S.f _ _ hFa,yj hr⟩
  ·rw [zC hb] at e
   obtain⟨q1,q2⟩:=S.o _ _ e
   refine⟨q1,(q2.keep (Le.refl _) rfl rfl fun rs r hg ⟨rows,hrw⟩ hm=>⟨rfl,rfl,?_⟩).setF⟩
   subst hrw
   exact zC (fun z=>hrow b rows rs e hg (by rw [<- z];exact hm))
 ·by_cases hb:b=a
  ·rw [hb];exact S.fg _ _ hFa
  ·rw [zC hb] at e;exact S.gn b oo e hn
def zaq (wi:TI) (n:Nat) (js:List Nat) (g:TG) (tt:TT) (te:TE):TE:=tLc wi n js g tt te
section
variable {X:Cx}{N:List Str}{n:Nat}{js:List Nat}{scope:Scope}{cl:List (Str×Addr)}{elt tg iter:Expr}{ifs:List Expr}{pos:Pos}{wi:TI}{g:TG}{tt:TT}{te:TE}
theorem zet (L:LcOk X N n js scope cl) (hc:X.calm=true) (hi:PI X tg iter wi)
  (hg:∀ C s0 H0 fp0,PG (zP X N scope cl C s0 H0 fp0) tg g) (ht:∀ C s0 H0 fp0,PTs (zP X N scope cl C s0 H0 fp0) ifs tt) (he:∀ C s0 H0 fp0,PE (zP X N scope cl C s0 H0 fp0) elt te)
  (hs:∀ x,foldedSetIterable iter X.env x=pure x:=by intro _;rfl):PE X (.ListComp elt [⟨tg,iter,ifs,0⟩] scope pos) (zaq wi n js g tt te):=xa L hc hi hg ht he hs
theorem Yw {i:Nat}{x:Str}{pos' spos:Pos}(hN:X.N.Nodup) (hx:X.N[i]? =some x) (hk:X.env.scope.names.lookup x=some .local) (L:LcOk X N n js scope cl) (hc:X.calm=true) (hi:PI X tg iter wi)
  (hg:∀ C s0 H0 fp0,PG (zP X N scope cl C s0 H0 fp0) tg g) (ht:∀ C s0 H0 fp0,PTs (zP X N scope cl C s0 H0 fp0) ifs tt) (he:∀ C s0 H0 fp0,PE (zP X N scope cl C s0 H0 fp0) elt te)
  (hsw:swapsWith (.ListComp elt [⟨tg,iter,ifs,0⟩] scope pos) (some (.Name x pos')) spos.line X.env=pure true:=by rfl)
  (hs:∀ x,foldedSetIterable iter X.env x=pure x:=by intro _;rfl):PS X (.Assign [.Name x pos'] (.ListComp elt [⟨tg,iter,ifs,0⟩] scope pos) spos) (ki (zaq wi n js g tt te) (qx i)):=KS hN hx hk L hc hi hg ht he hsw hs
end
def zeu (Wi:TIW) (n:Nat) (js:List Nat) (G:TGW) (T:TTW) (E:TEW):TEW:=fun ρ O R=>Wi ρ O fun ws keep O1=>keep O1/\ws.length≤1000/\∃ F:W->Option PyData,
 (∀ w∈ws,∀ us:WS,us.length=n->Y5 G T E n (yI js ρ) w (us ++ yI js ρ) O1 fun y O2=>O2=O1/\y=(F w).map .d)/\∀ p,O1 p=none->R (.own p) (updO O1 p (.lst ((ws.filterMap F).map .d)))
theorem zcK {wi:TI}{Wi:TIW}{n:Nat}{js:List Nat}{g:TG}{G:TGW}{tt:TT}{T:TTW}{te:TE}{E:TEW}(hi:uA K wi Wi) (hg:RefG K g G) (ht:xo K tt T) (he:zx K te E):zx K (zaq wi n js g tt te) (zeu Wi n js G T E):=by
 intro Γ O H ρ σ S r Q R hT k
 refine hi _ _ _ _ _ S r _ _ hT fun Γ1 O1 H1 J ws keep l1 S1 ok h1=>?_
 obtain⟨hk,hlen,F,hF,hR⟩:=h1
 intro D hD
 have hFD:Γ1.F D=none:=S1.f.free hD
 have hOD:=(S1.free hD).2.1
 have r1:=je (r.mono l1) n js
 refine⟨fun i m σ' H'=>i≤ws.length/\m=ws.length - i/\∃ Γ' ρ' vs,Same Γ1.Z Γ'.Z/\(∀ a rs,Γ1.G a=some rs->∃ more,Γ'.G a=some (rs ++ more))/\Γ'.F=upd Γ1.F D (.lst vs)/\Sim K Γ' O1 H'/\relR K Γ' ρ' σ'/\
  ρ'.length=n+(yI js ρ).length/\ρ'.drop n=yI js ρ/\Reps K Γ'.Z ((ws.take i).filterMap F) vs,⟨_,Nat.zero_le _,rfl,_,_,[],Same.refl _,fun a rs h=>⟨[],by rw [List.append_nil];exact h⟩,rfl,S1.frameNew hD (.lst []),r1.setF,by simp,by simp,rfl⟩,?_⟩
 rintro i m σ' H' ⟨hi,rfl,Γ',ρ',vs,z',g',f',S',r',n1,n2,rp⟩
 obtain⟨ok1,ok2⟩:=ok i Γ' O1 H' z' g' S' hk
 have hvl:vs.length≤i:=by
  rw [<- Reps.length rp]
  exact Nat.le_trans (List.length_filterMap_le _ _) (by rw [List.length_take];omega)
 by_cases hlt:i < ws.length
 ·obtain⟨go,y⟩:=ok1 _ (List.getElem?_eq_getElem hlt)
  refine .inr ⟨go,fun σ2 H2=>∃ Γ2 ρ2 vs2,Same Γ1.Z Γ2.Z/\(∀ a rs,Γ1.G a=some rs->∃ more,Γ2.G a=some (rs ++ more))/\Γ2.F=upd Γ1.F D (.lst vs2)/\Sim K Γ2 O1 H2/\relR K Γ2 ρ2 σ2/\
   ρ2.length=n+(yI js ρ).length/\ρ2.drop n=yI js ρ/\Reps K Γ2.Z ((ws.take (i+1)).filterMap F) vs2,fun σ2 H2 h=>⟨ws.length - (i+1),by omega,hlt,rfl,h⟩,fun x H2 hy=>?_⟩
  obtain⟨Γ2,l2,S2,rx⟩:=y x H2 hy
  obtain⟨us,hus,rfl⟩:=kn n1 n2
  have et:ws.take (i+1)=ws.take i ++ [ws[i]]:=(List.take_append_getElem hlt).symm
  refine hg _ _ _ _ _ _ _ S2 (r'.mono l2) rx _ _ (hF _ (List.getElem_mem hlt) us hus) fun Γ3 O3 H3 ρ3 σ3 l3 S3 r3 h3=>?_
  obtain⟨⟨m1,m2⟩,h3⟩:=h3
  refine ht _ _ _ _ _ S3 r3 _ _ h3 fun Γ4 O4 H4 b l4 S4 h4=>?_
  have l24:=(l2.trans l3).trans l4
  have up:∀ Γ5,Le Γ' Γ5->Same Γ1.Z Γ5.Z/\(∀ a rs,Γ1.G a=some rs->∃ more,Γ5.G a=some (rs ++ more)):=fun Γ5 l=>⟨z'.trans l.z,fun a rs h=>by
   obtain⟨m,e⟩:=g' a rs h
   obtain⟨m2,e2⟩:=l.g a _ e
   exact⟨m ++ m2,by rw [<- List.append_assoc];exact e2⟩⟩
  cases b with
  |true=>
   rw [if_pos rfl] at h4 ⊢
   refine he _ _ _ _ _ S4 (r3.mono l4) _ _ h4 fun Γ5 O5 H5 w5 v5 l5 S5 r5 h5=>?_
   obtain⟨rfl,h5⟩:=h5
   have l25:=l24.trans l5
   cases hFw:F ws[i] with
   |none=>rw [hFw] at h5;cases h5
   |some d=>
    rw [hFw] at h5
    cases h5
    have f5:Γ5.F=upd Γ1.F D (.lst vs):=by rw [l25.f,f']
    have fD:Γ5.F D=some (.lst vs):=by rw [f5,zA]
    refine⟨vs,S5.f _ _ fD,xZ (by omega),?_⟩
    obtain⟨u1,u2⟩:=up Γ5 l25
    refine⟨⟨Γ5.Z,Γ5.G,upd Γ5.F D (.lst (vs ++ [v5]))⟩,ρ3,vs ++ [v5],u1,u2,?_,S5.framePut fD _,((r3.mono l4).mono l5).setF,m1,m2,?_⟩
    ·show upd Γ5.F D _=_
     rw [f5,ZA]
    ·rw [et,List.filterMap_append]
     have:([ws[i]]:List W).filterMap F=[d]:=by simp [hFw]
     rw [this]
     exact Reps.snoc (Reps.same l25.z _ _ rp) r5
  |false=>
   rw [if_neg (by decide)] at h4 ⊢
   obtain⟨rfl,h4⟩:=h4
   obtain⟨u1,u2⟩:=up Γ4 l24
   refine⟨Γ4,ρ3,vs,u1,u2,by rw [l24.f,f'],S4,r3.mono l4,m1,m2,?_⟩
   cases hFw:F ws[i] with
   |some d=>rw [hFw] at h4;cases h4
   |none=>
    rw [et,List.filterMap_append]
    have:([ws[i]]:List W).filterMap F=[]:=by simp [hFw]
    rw [this,List.append_nil]
    exact Reps.same l24.z _ _ rp
 ·have hi2:i=ws.length:=by omega
  subst hi2
  refine .inl ⟨ok2 rfl,?_⟩
  rw [List.take_length] at rp
  obtain⟨q1,q2⟩:=S'.unframeO f' hFD rp
  exact k ⟨Γ'.Z,Γ'.G,Γ1.F⟩ _ _ _ _ (l1.trans ⟨rfl,z',g'⟩) q2 ug (hR D hOD)
end
section
variable {X:Cx}{K:W.Frag}
theorem xp (hK:X.K=K):IxR X (KN K):=by subst hK;exact zdV
theorem z7 {tg l:Expr}{tl:TE}(hK:X.K=K) (hl:PE X l tl):PI X tg l (UQ K tl):=by subst hK;exact zch hl
theorem zcL {tg l:Expr}{tl:TE}(hK:X.K=K) (hl:PE X l tl):PI X tg l (KH K tl):=by subst hK;exact zdO hl
theorem Xt {es:List Expr}{k:Nat}{tp:Pos}{l:Expr}{ta:TA}{p pos:Pos}(hK:X.K=K) (hg:Gl X "enumerate") (hm:X.mg "enumerate" =none) (ha:PA X [l] ta) (hs:starEach [l] X.env=[(false,eval l X.env)]:=by rfl) :
  PI X (.Tuple es k tp) (.Call (.Name "enumerate" p) [l] [] pos) (UW K ta):=by subst hK;exact zcq hg hm ha hs
theorem vo {es:List Expr}{k:Nat}{t:TGs}{n:Nat}{pos:Pos}(hK:X.K=K) (hc:X.calm=true) (h:PGs X es t)
  (hn:(assignEach es X.env).length=n:=by rfl) (hst:(assignEach es X.env).findIdx? (·.1)=none:=by rfl):PG X (.Tuple es k pos) (KG K n t):=by subst hK;exact zdM hc h hn hst
section
variable {T:String}{name:Str}{id:String}{r:V->List V->Hp->VK->Prop}{o e:Expr}{es:List Expr}{to:TE}{t:TA}{apos cpos:Pos}
theorem zS (hK:X.K=K) (pa:PlainAttrs T) (slot:Slot T name id) (hty:typeOf (.builtin id)=pure (.type "method_descriptor")) (hm:MtR X id r) (ho:PE X o to) (ha:PA X (e :: es) t)
  (hbase:attributeBase o name X.env (eval o X.env)=eval o X.env:=by rfl)
  (hfew:((backTo cpos (starEach (e :: es) X.env)).all (fun x=>!x.1) && (backToKw cpos (keywordEach [] X.env)).all (fun x=>x.1.isSome) && decide ((e :: es).length+([]:List Keyword).length+(if ([]:List Keyword).isEmpty then 0 else 1) < 30))=true:=by rfl)
  (hline:(apos.endLine == cpos.line)=true:=by rfl) (hs:starEach (e :: es) X.env=(false,eval e X.env) :: starEach es X.env:=by rfl) (hplain:(backTo cpos (starEach es X.env)).any (·.1)=false:=by rfl) :
  PE X (.Call (.Attribute o name apos) (e :: es) [] cpos) (tBM K T r to t):=by subst hK;exact UV pa slot hty hm ho ha hbase hfew hline hs hplain
end
def zbI (K:W.Frag):List V->Hp->VK->Prop:=fun xs H Q=>∃ p ys,xs=[.ref p]/\(SqL K H p ys\/SqT K H p ys)/\Q (.int ys.length) H
theorem ye (hK:X.K=K):y8 X (.builtin "len") (zbI K):=by subst hK;exact Xl
theorem zev:RefC K (zbI K) zac:=zfG
def zbJ (K:W.Frag) (ta:TE):TT:=fun σ H Q=>ta σ H fun x H'=>∃ k,Xf K x H' k/\Q k H'
theorem Yx {a:Expr}{ta:TE}(hK:X.K=K) (ha:PE X a ta) (he:∀ whole,isTrue a X.env whole=(do let v <- whole;standAt a.pos;holding [v] (truthy v))):PT X a (zbJ K ta):=by
 subst hK;exact KL ha he
theorem zar {t:TE}{T:TEW}(h:zx K t T):xo K (zbJ K t) (K9 T):=zcz h
theorem jf (hK:X.K=K) (hu:X.A.units+64 < cLine):OpR X (compareOp .Eq) (KT K):=by subst hK;exact zd3 hu
theorem Jp (hK:X.K=K) (hu:X.A.units+64 < cLine):OpR X (compareOp .NotEq) (KU K):=by subst hK;exact zd4 hu
theorem zcM:xo K zd2 (fun _ O R=>R true O):=fun Γ O H ρ σ S r Q R hT k=>k _ _ _ _ (Le.refl _) S hT
end
section
variable {K:W.Frag}
end
section
variable {K:W.Frag}
def wCR (a:Addr):TEW:=fun _ O R=>R (.own a) O
theorem zew {a:Addr}:zx K (tC (.ref a)) (wCR a):=fun Γ O H ρ σ S r Q R h k=>k _ _ _ _ _ (Le.refl _) S ug h
theorem Jq {s:SpW}{t:TA}{T:TAW}(h:yU K t T):zx K (xT (zd K s) [] E0 t) (kY s [] T):=zab h
theorem zN {T U:TSW}{D:EndsW}{ρ:WS}{O:OM}(J:WS->OM->Prop) (ht:∀ R:WS->OM->Prop,(∀ ρ' O',J ρ' O'->R ρ' O')->T { D with nx:=R } ρ O) (hu:∀ ρ' O',J ρ' O'->U D ρ' O'):yV T U D ρ O:=ht (U D) hu
theorem yN.by {ws:List W}{keep:OM->Prop}{G:TGW}{TB:TSW}{D:EndsW}{ρ:WS}{O:OM}(Pv:Nat->WS->OM->Prop) (h0:Pv 0 ρ O) (hk:∀ i ρ O,Pv i ρ O->keep O)
  (hs:∀ i w ρ O,ws[i]? =some w->Pv i ρ O->∀ R:WS->OM->Prop,(∀ ρ' O',Pv (i+1) ρ' O'->R ρ' O')->G w ρ O fun ρ' O'=>TB { D with nx:=R,ct:=R,bk:=D.nx } ρ' O') (hd:∀ ρ O,Pv ws.length ρ O->D.nx ρ O):yN ws keep G TB D ρ O:=
 ⟨Pv,h0,hk,fun i w ρ O e p=>hs i w ρ O e p _ fun _ _ z=>z,hd⟩
theorem yN.rng {n:Nat}{f:Nat->Int}{G:TGW}{TB:TSW}{D:EndsW}{ρ:WS}{O:OM}(Pv:Nat->WS->OM->Prop) (h0:Pv 0 ρ O)
    (hs:∀ i ρ O,i < n->Pv i ρ O->∀ R:WS->OM->Prop,(∀ ρ' O',Pv (i+1) ρ' O'->R ρ' O')->G (.d (.int (f i))) ρ O fun ρ' O'=>TB { D with nx:=R,ct:=R,bk:=D.nx } ρ' O') (hd:∀ ρ O,Pv n ρ O->D.nx ρ O):yN ((List.range n).map fun i=>.d (.int (f i))) (fun _=>True) G TB D ρ O:=
  yN.by Pv h0 (fun _ _ _ _=>trivial) (fun i w ρ O e p R hR=>by
    rw [List.getElem?_map] at e
    cases hr:(List.range n)[i]? with
    |none=>rw [hr] at e;cases e
    |some j=>
      rw [hr] at e
      cases e
      obtain⟨hi,hj⟩:=List.getElem?_eq_some_iff.mp hr
      simp at hi hj
      subst hj
      exact hs i ρ O hi p R hR) (fun ρ O p=>hd ρ O (by simpa using p))
end
noncomputable abbrev PF:=Nat->Nat->Cel
noncomputable def genG (h w:Nat) (f:PF):List (List PyData):=(List.range h).map fun i=>(List.range w).map fun j=>zp (f i j)
noncomputable def setF (f:PF) (i j:Nat) (c:Cel):PF:=fun a b=>if a=i/\b=j then c else f a b
theorem yF {X:Cx}:OpR X (binaryOp .Mult) (rI IntMulOk fun i j=>.int (i*j)):=opI fun _ _ _ _ _ _ _ hc q=>mul_int q hc
theorem mulL {a b:Int}(h1:-1000000000000≤a) (h2:a≤1000000000000):IntMulOk a b:=(zco h1 h2).ok
theorem mulR {a b:Int}(h1:-1000000000000≤b) (h2:b≤1000000000000):IntMulOk a b:=(KW h1 h2).ok
def Bt (m:Nat) (c:Int):Prop:=c.natAbs < 2 ^ m
section
variable {K:W.Frag}
theorem RefR.weak {r:R2}{rw rw':R2W}(h:RefR K r rw) (imp:∀ x y O R,rw' x y O R->rw x y O R):RefR K r rw':=fun Γ O H x y v u S rx ry Q R hT k=>h Γ O H x y v u S rx ry Q R (imp _ _ _ _ hT) k
theorem RefC.weak {r:List V->Hp->VK->Prop}{rw rw':List W->OM->WK->Prop}(h:RefC K r rw) (imp:∀ x O R,rw' x O R->rw x O R):RefC K r rw':=fun Γ O H xs vs S rs Q R hT k=>h Γ O H xs vs S rs Q R (imp _ _ _ hT) k
def jg (i:Nat):TEW:=fun ρ O R=>match ρ[i]? with
 |some (some w)=>R w O
 |_=>False
theorem zex {i:Nat}:zx K (ZB i) (jg i):=fun Γ O H ρ σ S r Q R hT k=>zct Γ O H ρ σ S r Q R (by
  unfold jg at hT
  split at hT
  · rename_i w e;exact⟨w,e,hT⟩
  · exact hT.elim) k
def vI0 (g:Int->Int->V):R2W:=fun x y O R=>match x,y with
 |.d (.int i),.d (.int j)=>R (ofV (g i j)) O
 |_,_=>False
def vI (C:Int->Int->Prop) (g:Int->Int->V):R2W:=fun x y O R=>match x,y with
 |.d (.int i),.d (.int j)=>C i j/\R (ofV (g i j)) O
 |_,_=>False
theorem zfL {g:Int->Int->V}(hg:∀ i j,scV (g i j)=true:=by intro _ _;rfl):RefR K (rI0 g) (vI0 g):=(zf8 hg).weak fun x y O R h=>by
 unfold vI0 at h
 split at h
 ·exact⟨_,_,rfl,rfl,h⟩
 ·exact h.elim
theorem zgh {C:Int->Int->Prop}{g:Int->Int->V}(hg:∀ i j,scV (g i j)=true:=by intro _ _;rfl):RefR K (rI C g) (vI C g):=(r_I hg).weak fun x y O R h=>by
 unfold vI at h
 split at h
 ·exact⟨_,_,rfl,rfl,h⟩
 ·exact h.elim
def vU (g:Int->V):W->OM->WK->Prop:=fun x O R=>match x with
 |.d (.int i)=>R (ofV (g i)) O
 |_=>False
theorem zgi {g:Int->V}(hg:∀ i,scV (g i)=true:=by intro _;rfl):RefU K (rU g) (vU g):=fun Γ O H x v S rx Q R h k=>r_U hg Γ O H x v S rx Q R (by
  unfold vU at h
  split at h
  · exact⟨_,rfl,h⟩
  · exact h.elim) k
def vEq:R2W:=fun x y O R=>match x,y with
 |.d (.int i),.d (.int j)=>R (.d (.bool (decide (i=j)))) O
 |.d a,.d b=>scD a=true/\scD b=true/\ja (vOf a) (vOf b)=true/\R (.d (.bool (decide (vOf a=vOf b)))) O
 |_,_=>False
def vNe:R2W:=fun x y O R=>match x,y with
 |.d (.int i),.d (.int j)=>R (.d (.bool (!decide (i=j)))) O
 |.d a,.d b=>scD a=true/\scD b=true/\ja (vOf a) (vOf b)=true/\R (.d (.bool (!decide (vOf a=vOf b)))) O
 |_,_=>False
theorem zfM:RefR K rEq vEq:=zf9.weak fun x y O R h=>by
 unfold vEq at h
 split at h
 ·rename_i i j
  have e:decide (vOf (.int i)=vOf (.int j))=decide (i=j):=by simp [vOf]
  exact⟨.int i,.int j,rfl,rfl,rfl,rfl,rfl,by rw [e];exact h⟩
 ·exact⟨_,_,rfl,rfl,h⟩
 ·exact h.elim
theorem zfN:RefR K rNe vNe:=zga.weak fun x y O R h=>by
 unfold vNe at h
 split at h
 ·rename_i i j
  have e:decide (vOf (.int i)=vOf (.int j))=decide (i=j):=by simp [vOf]
  exact⟨.int i,.int j,rfl,rfl,rfl,rfl,rfl,by rw [e];exact h⟩
 ·exact⟨_,_,rfl,rfl,h⟩
 ·exact h.elim
def U4:R2W:=fun x y O R=>match y with
 |.d .none=>R (.d (.bool (kW x))) O
 |_=>False
def zbK:R2W:=fun x y O R=>match y with
 |.d .none=>R (.d (.bool (!kW x))) O
 |_=>False
theorem zey:RefR K (fun x y H Q=>y=.non/\Q (.bl (decide (x=.non))) H) U4:=zfC.weak fun x y O R h=>by
 unfold U4 at h
 split at h
 ·exact⟨rfl,h⟩
 ·exact h.elim
def zas:R2W:=fun x y O R=>match y with
 |.d (.int i)=>∃ ws,zD O x=some ws/\∃ w,atI ws i=some w/\R w O
 |_=>False
theorem zez:RefR K (Xi K) zas:=zfD.weak fun x y O R h=>by
 unfold zas at h
 split at h
 ·obtain⟨ws,e,w,e2,h⟩:=h
  exact⟨ws,_,w,rfl,e,e2,h⟩
 ·exact h.elim
def k6 (T:TEW):TTW:=fun ρ O R=>T ρ O fun x O1=>match x with
 |.d (.bool k)=>R k O1
 |_=>False
theorem VX {t:TE}{T:TEW}(h:zx K t T):xo K (Y2 t) (k6 T):=by
 intro Γ O H ρ σ S r0 Q R hT k
 refine h Γ O H ρ σ S r0 _ _ hT fun Γ1 O1 H1 x v l1 S1 rx h1=>?_
 split at h1
 ·exact⟨_,rx,k _ _ _ _ l1 S1 h1⟩
 ·exact h1.elim
theorem zfO {t:TE}{T:TEW}(h:zx K t T):xo K (tB t) (k6 T):=VX h
def Xu (r r':R2W) (Ta Tb Tc:TEW):TEW:=fun ρ O R=>Ta ρ O fun x O1=>Tb ρ O1 fun y O2=>r x y O2 fun z O3=>match z with
 |.d (.bool k)=>if k=true then Tc ρ O3 fun w O4=>r' y w O4 R else R (.d (.bool false)) O3
 |_=>False
theorem zat {r r':R2}{rw rw':R2W}{ta tb tc:TE}{Ta Tb Tc:TEW}(hr:RefR K r rw) (hr':RefR K r' rw') (ha:zx K ta Ta) (hb:zx K tb Tb) (hc:zx K tc Tc):zx K (kQ r r' ta tb tc) (Xu rw rw' Ta Tb Tc):=by
 intro Γ O H ρ σ S r0 Q R h k
 refine ha Γ O H ρ σ S r0 _ _ h fun Γ1 O1 H1 x v l1 S1 rx h1=>?_
 refine hb Γ1 O1 H1 ρ σ S1 (r0.mono l1) _ _ h1 fun Γ2 O2 H2 y u l2 S2 ry h2=>?_
 refine hr Γ2 O2 H2 x y v u S2 (rx.mono l2) ry _ _ h2 fun Γ3 O3 H3 w z l3 S3 rz h3=>?_
 split at h3
 ·rename_i c
  refine⟨c,rz,?_⟩
  have l13:=(l1.trans l2).trans l3
  cases c with
  |true=>
   rw [if_pos rfl] at h3 ⊢
   refine hc _ _ _ _ _ S3 (r0.mono l13) _ _ h3 fun Γ4 O4 H4 q z4 l4 S4 r4 h4=>?_
   exact hr' _ _ _ _ _ _ _ S4 (ry.mono (l3.trans l4)) r4 _ _ h4 fun Γ5 O5 H5 w5 z5 l5 S5 r5 h5=>k _ _ _ _ _ ((l13.trans l4).trans l5) S5 r5 h5
  |false=>rw [if_neg (by decide)] at h3 ⊢;exact k _ _ _ _ _ l13 S3 xf h3
 ·exact h3.elim
def zeA (K:W.Frag) (Ta:TEW) (f:Str):TEW:=fun ρ O R=>Ta ρ O fun x O1=>match x with
 |.own a=>∃ C dx fs,O1 a=some (.ins C dx fs)/\Cls K C/\Q4 K C f/\∃ w,fs.lookup f=some w/\R w O1
 |_=>False
def zbL (K:W.Frag) (Ta Tv:TEW) (f:Str):TSW:=fun D ρ O=>Tv ρ O fun y O1=>Ta ρ O1 fun x O2=>match x with
 |.own a=>∃ C dx fs,O2 a=some (.ins C dx fs)/\Cls K C/\Q4 K C f/\fs.length < 1000/\D.nx ρ (updO O2 a (.ins C dx (zen f y fs)))
 |_=>False
def Jr (Td Ty:TEW):TEW:=fun ρ O R=>Td ρ O fun x O1=>Ty ρ O1 fun y O2=>match x,U2 y with
 |.own a,some k=>∃ kvs,O2 a=some (.dK kvs)/\∃ w,zgf kvs k=some w/\R w O2
 |_,_=>False
def Js (Td Ty Tv:TEW):TSW:=fun D ρ O=>Tv ρ O fun w O1=>Td ρ O1 fun x O2=>Ty ρ O2 fun y O3=>match x,U2 y with
 |.own a,some k=>∃ kvs,O3 a=some (.dK kvs)/\kvs.length < 1000/\D.nx ρ (updO O3 a (.dK (zfI kvs k w)))
 |_,_=>False
def vI2 (g:Int->Int->Int):List W->OM->WK->Prop:=fun xs O R=>match xs with
 |[.d (.int i),.d (.int j)]=>R (.d (.int (g i j))) O
 |_=>False
theorem zfP {g:Int->Int->Int}:RefC K (fun xs H Q=>∃ i j,xs=[.int i,.int j]/\Q (.int (g i j)) H) (vI2 g):=zge.weak fun x O R h=>by
 unfold vI2 at h
 split at h
 ·exact⟨_,_,rfl,h⟩
 ·exact h.elim
end
section
variable {X:Cx}
theorem jh:∀ {zs:List Str}{us:List Value},Vals (zs.map V.str) us->StrsAre us zs
 |[],_,.nil=>.nil
 |z :: zs,_,.cons r t=>by
  obtain⟨k,rfl⟩:=r
  exact .cons z k (jh t)
def U5 (K:W.Frag):V->List V->Hp->VK->Prop:=fun x xs H Q=>∃ sep a zs,x=.str sep/\xs=[.ref a]/\SqL K H a (zs.map .str)/\sep.length≤16/\(zs.map (·.length)).sum+zs.length≤1048576/\Q (.str (Txt.join sep zs)) H
theorem zcN:MtR X "str.join" (U5 X.K):=by
 intro pins s σ H x xs v us Q I rx r h
 obtain⟨sep,a,zs,rfl,rfl,hq,hs,hw,q⟩:=h
 obtain⟨u,rfl,ru⟩:=r.one
 cases ru
 obtain⟨t,rfl⟩:=rx
 obtain⟨its,rv,p,hz⟩:=I.list hq
 exact join_listW p.isList (jh rv) hs hw fun t' k=>⟨.str _,H,I.tok _,⟨_,rfl⟩,q⟩
def zbM:R2:=fun x y H Q=>∃ z n,x=.str z/\y=.int n/\MulOk z n/\Q (.str (Txt.mul z n)) H
theorem VY:OpR X (binaryOp .Mult) zbM:=by
 intro pins s σ H x y v u Q I rx ry h
 obtain⟨z,n,rfl,rfl,hok,q⟩:=h
 obtain⟨t,rfl⟩:=rx
 obtain⟨t',rfl⟩:=ry
 exact SB.mul hok fun t' k=>⟨.str _,H,I.tok _,⟨_,rfl⟩,q⟩
theorem Yy:∀ {bs:List Bool}{us:List Value}{i:Nat}{v:Value},Vals (bs.map V.bl) us->us[i]? =some v->∃ b,bs[i]? =some b/\v=.bool b
 |[],_,_,_,.nil,e=>by simp at e
 |b :: bs,_,0,v,.cons r t,e=>⟨b,rfl,by simp at e;subst e;exact r⟩
 |b :: bs,_,i+1,v,.cons r t,e=>by
  simp only [List.getElem?_cons_succ] at e ⊢
  exact Yy t e
theorem U6 (bs:List Bool):((List.range bs.length).all fun i=>(bs[i]?).getD true)=bs.all id:=by
 induction bs with
 |nil=>rfl
 |cons b bs ih=>simp only [List.length_cons,List.range_succ_eq_map,List.all_cons,List.all_map];rw [<- ih];rfl
def zau (K:W.Frag):List V->Hp->VK->Prop:=fun xs H Q=>∃ a,∃ bs:List Bool,xs=[.ref a]/\SqL K H a (bs.map .bl)/\Q (.bl (bs.all id)) H
theorem Jt (hc:X.calm=true):y8 X (.builtin "all") (zau X.K):=by
 intro pins s σ H xs us Q I r h
 obtain⟨a,bs,rfl,hq,q⟩:=h
 obtain⟨u,rfl,ru⟩:=r.one
 cases ru
 obtain⟨its,rv,p,hz⟩:=I.list hq
 have hl:=p.isList
 have hlt:a < s.heap.objs.size:=by obtain⟨_,e,_⟩:=hl;exact Heap.lt_size e
 have len:=rv.length
 rw [List.length_map] at len
 refine call_all_walk (wpAny_pyIter_list hl ?_)
 refine⟨_,_,_,_,_,_,fun i=>(bs[i]?).getD true,rfl,Walks.list (A:=X.A.in1) (I.ok.hd hc) _ a (Nat.ne_of_lt hlt) _,⟨⟨_,Heap.get?_push_size _ rfl,rfl,rfl⟩,hl.push _⟩,fun i v s1 Q1 E1 hP hQ=>?_,fun h1 tk hk=>?_⟩
 ·obtain⟨b,e,rfl⟩:=Yy rv (by simpa using hP)
  simp only [e,Option.getD_some] at hQ
  exact wpAny_truthy_bool hQ
 ·have e:=U6 bs
  rw [len] at e
  rw [show ((List.range its.toArray.size).all fun i=>(bs[i]?).getD true)=bs.all id by simpa using e]
  exact⟨.bl _,H,I.kept (t':=tk) (LSm.kept_iter hk),rfl,q⟩
theorem Yz:y8 X (.type "int") (fun xs H Q=>∃ z n,xs=[.str z]/\intText? z=some n/\z.length≤640/\Q (.int n) H):=by
 intro pins s σ H xs us Q I r h
 obtain⟨z,n,rfl,hn,hl,q⟩:=h
 obtain⟨u,rfl,t,rfl⟩:=vC r
 exact PySem.W.KIN.call_text hn hl ⟨.int n,H,I.tok _,⟨_,rfl⟩,q⟩
def Ju:V->List V->Hp->VK->Prop:=fun x xs H Q=>∃ z y,x=.str z/\xs=[.str y]/\(y.length == 0)=false/\z.length≤1000000/\∀ p,H p=none->Q (.ref p) (upd H p (.lst ((Txt.split z y).map .str)))
theorem YA:∀ {l:List (Str×Tok)}{zs:List Str},l.map (·.1)=zs->Vals (zs.map V.str) (strValues l)
 |[],_,rfl=>.nil
 | (z,t) :: l,_,rfl=>.cons ⟨t,rfl⟩ (YA rfl)
theorem xG:MtR X "str.split" Ju:=by
 intro pins s σ H x xs v us Q I rx r h
 obtain⟨z,y,rfl,rfl,hy,hz,q⟩:=h
 obtain⟨u,rfl,t,rfl⟩:=vC r
 obtain⟨t',rfl⟩:=rx
 have hsz:z.length≤sizeLine:=by rw [sizeLine_eq];omega
 have hsp:=split_le z y
 have fin:∀ (l:List (Str×Tok)) (k:Tok),l.map (·.1)=Txt.split z y->EP X pins σ Q (.ref s.heap.objs.size) { s with toks:=k,heap:=s.heap.push { cls:=.type "list",data:=.seq (strValues l).toArray } }:=fun l k e=>by
  have len:((Txt.split z y).map V.str).length≤sizeLine:=by rw [List.length_map,sizeLine_eq];omega
  exact⟨.ref s.heap.objs.size,_,I.laid (t':=k) (o:=.lst ((Txt.split z y).map .str)) (fun b ob g=>Heap.get?_push_of_some _ g) (Nat.le_refl _) ⟨len,strValues l,0,YA e,Heap.get?_push_size _ rfl⟩,rfl,q _ (I.hok.fresh (Nat.le_refl _))⟩
 cases h1:(decide (z.length < y.length) || decide (Builtin.Str.strKind z < Builtin.Str.strKind y)) with
 |true=>
  have e:[z]=Txt.split z y:=(if_pos h1).symm
  refine call_meets PySem.F.slot_str_split (typeIs_str _ _ _) PySem.F.entry_str_split ?_ (meets_str_split_cannot_occur z y t' t h1) ?_
  ·exact PySem.F.args_str_split_2 _ _
  ·exact fin [(z,t')] s.toks e
 |false=>
  cases hf:(Builtin.Str.occurrences z y 0 z.length (z.length+1)).isEmpty with
  |true=>
   have e:[z]=Txt.split z y:=((if_neg (by rw [h1];decide)).trans (if_pos hf)).symm
   refine call_meets PySem.F.slot_str_split (typeIs_str _ _ _) PySem.F.entry_str_split ?_ (meets_str_split_not_found z y t' t h1 hy hf) ?_
   ·exact PySem.F.args_str_split_2 _ _
   ·exact fin [(z,t')] s.toks e
  |false=>
   have e:Builtin.Str.partsBetween z (Builtin.Str.occurrences z y 0 z.length (z.length+1)) y.length=Txt.split z y:=((if_neg (by rw [h1];decide)).trans (if_neg (by rw [hf];decide))).symm
   refine call_meets PySem.F.slot_str_split (typeIs_str _ _ _) PySem.F.entry_str_split ?_ (meets_str_split_sep z y t' t h1 hy hf hsz ?_) ?_
   ·exact PySem.F.args_str_split_2 _ _
   ·rw [e,sizeLine_eq];omega
   ·show wants _ _ _ _
    rw [strsFrom_eq]
    exact fin (numbered s.toks _) _ ((numbered_texts _ _).trans e)
end
section
variable {X:Cx}{K:W.Frag}
theorem Jv (h:X.K=K) (hc:X.calm=true):y8 X (.builtin "all") (zau K):=by subst h;exact Jt hc
theorem yY (h:X.K=K):MtR X "str.join" (U5 K):=by subst h;exact zcN
noncomputable def yO (z:Str):W:=.d (.str z)
theorem YB {Γ:Gh}:∀ {zs:List Str}{vs:List V},relWs K Γ (zs.map yO) vs->vs=zs.map V.str
 |[],_,.nil=>rfl
 |z :: zs,_,.cons r t=>by rw [YB t,show _=V.str z from r];rfl
theorem k7 {Γ:Gh}:∀ {bs:List Bool}{vs:List V},relWs K Γ (bs.map fun b=>.d (.bool b)) vs->vs=bs.map V.bl
 |[],_,.nil=>rfl
 |b :: bs,_,.cons r t=>by rw [k7 t,show _=V.bl b from r];rfl
def zbN:W->List W->OM->WK->Prop:=fun x xs O R=>∃ sep w,∃ zs:List Str,x=.d (.str sep)/\xs=[w]/\zD O w=some (zs.map yO)/\sep.length≤16/\(zs.map (·.length)).sum+zs.length≤1048576/\R (.d (.str (Txt.join sep zs))) O
theorem zeB {T:String}:RefM K T (U5 K) zbN:=by
 rintro Γ O H x v xs vs S rx rs Q R ⟨sep,w,zs,rfl,rfl,e,h1,h2,h⟩ k
 cases rs with
 |cons rw t=>
  cases t
  obtain⟨a,us,rfl,q1,q2⟩:=yy S rw e
  rw [YB q2] at q1
  exact⟨sep,a,zs,rx,rfl,q1,h1,h2,k _ _ _ _ _ (Le.refl _) S xM h⟩
def Jw:W->List W->OM->WK->Prop:=fun x xs O R=>∃ z y,x=.d (.str z)/\xs=[.d (.str y)]/\(y.length == 0)=false/\z.length≤1000000/\R (.d (.list ((Txt.split z y).map .str))) O
theorem uN {Z:Hp}:∀ zs:List Str,Reps K Z (zs.map PyData.str) (zs.map V.str)
 |[]=>rfl
 |z :: zs=>⟨_,_,rfl,rfl,uN zs⟩
theorem zcO {T:String}:RefM K T Ju Jw:=by
 rintro Γ O H x v xs vs S rx rs Q R ⟨z,y,rfl,rfl,h1,h2,h⟩ k
 cases rs with
 |cons rw t=>
  cases t
  refine⟨z,y,rx,by rw [show _=V.str y from rw],h1,h2,fun p hp=>?_⟩
  obtain⟨Γ',le,S',r'⟩:=ql S (uN (Txt.split z y)) hp
  exact k _ _ _ _ _ le S' r' h
def zbO:R2W:=fun x y O R=>∃ z n,x=.d (.str z)/\y=.d (.int n)/\MulOk z n/\R (.d (.str (Txt.mul z n))) O
theorem zeC:RefR K zbM zbO:=by
 rintro Γ O H x y v u S rx ry Q R ⟨z,n,rfl,rfl,h1,h⟩ k
 exact⟨z,n,rx,ry,h1,k _ _ _ _ _ (Le.refl _) S xM h⟩
def zbP:List W->OM->WK->Prop:=fun xs O R=>∃ w,∃ bs:List Bool,xs=[w]/\zD O w=some (bs.map fun b=>.d (.bool b))/\R (.d (.bool (bs.all id))) O
theorem zfQ:RefC K (zau K) zbP:=by
 rintro Γ O H xs vs S rs Q R ⟨w,bs,rfl,e,h⟩ k
 cases rs with
 |cons rw t=>
  cases t
  obtain⟨a,us,rfl,q1,q2⟩:=yy S rw e
  rw [k7 q2] at q1
  exact⟨a,bs,rfl,q1,k _ _ _ _ _ (Le.refl _) S xf h⟩
def zbQ:List W->OM->WK->Prop:=fun xs O R=>∃ z n,xs=[.d (.str z)]/\intText? z=some n/\z.length≤640/\R (.d (.int n)) O
theorem zeD:RefC K (fun xs H Q=>∃ z n,xs=[.str z]/\intText? z=some n/\z.length≤640/\Q (.int n) H) zbQ:=by
 rintro Γ O H xs vs S rs Q R ⟨z,n,rfl,h1,h2,h⟩ k
 cases rs with
 |cons rw t=>
  cases t
  exact⟨z,n,by rw [show _=V.str z from rw],h1,h2,k _ _ _ _ _ (Le.refl _) S xN h⟩
end
section
variable {X:Cx}{K:W.Frag}
def zeE:R2:=fun x y H Q=>∃ i j,x=.str i/\y=.str j/\Q (.bl (!decide (j.cps.toList < i.cps.toList))) H
theorem YC:OpR X (compareOp .LtE) zeE:=by
 intro pins s σ H x y v u Q I rx ry h
 obtain⟨i,j,rfl,rfl,q⟩:=h
 obtain⟨t,rfl⟩:=rx
 obtain⟨t',rfl⟩:=ry
 exact PySem.P.le_str (zM I q rfl)
def zeF:R2W:=fun x y O R=>∃ i j,x=.d (.str i)/\y=.d (.str j)/\R (.d (.bool (!decide (j.cps.toList < i.cps.toList)))) O
theorem zfR:RefR K zeE zeF:=by
 rintro Γ O H x y v u S rx ry Q R ⟨i,j,rfl,rfl,h⟩ k
 exact⟨i,j,rx,ry,k _ _ _ _ _ (Le.refl _) S xf h⟩
def zeG:V->Option Int->Option Int->Hp->VK->Prop:=fun x lo hi H Q=>∃ z,x=.str z/\z.length≤sizeLine/\Q (.str (Txt.slice z lo hi)) H
theorem uk:SlR X zeG:=by
 intro pins s σ H x v vl vu lo hi sl Q I rx hs pl pu h
 obtain⟨z,rfl,hz,q⟩:=h
 obtain⟨t,rfl⟩:=rx
 refine⟨"str",_,PySem.F.slot_str_getitem.lookup,typeIs_str _ _ _,?_⟩
 have fin:∀ tk k,EP X pins σ Q (.str (Txt.slice z lo hi) tk) { s with toks:=k }:=fun tk k=>⟨.str _,H,I.tok _,⟨_,rfl⟩,q⟩
 cases pl with
 |none=>cases pu with
  |none=>exact wpAny_getItem_str_slice (l:=none) (u:=none) (st:=none) hs rfl (post_val_or_str ⟨Nat.le_trans (Txt.slice_le z _ _) hz,fin⟩)
  |int j uj=>exact wpAny_getItem_str_slice (l:=none) (u:=some (j,uj)) (st:=none) hs rfl (post_val_or_str ⟨Nat.le_trans (Txt.slice_le z _ _) hz,fin⟩)
 |int i ui=>cases pu with
  |none=>exact wpAny_getItem_str_slice (l:=some (i,ui)) (u:=none) (st:=none) hs rfl (post_val_or_str ⟨Nat.le_trans (Txt.slice_le z _ _) hz,fin⟩)
  |int j uj=>exact wpAny_getItem_str_slice (l:=some (i,ui)) (u:=some (j,uj)) (st:=none) hs rfl (post_val_or_str ⟨Nat.le_trans (Txt.slice_le z _ _) hz,fin⟩)
def zeH (Te:TEW) (Tl Th:TOW):TEW:=fun ρ O R=>Te ρ O fun x O1=>Tl ρ O1 fun l O2=>Th ρ O2 fun u O3=>∃ z,x=.d (.str z)/\z.length≤sizeLine/\R (.d (.str (Txt.slice z l u))) O3
theorem zcP {te:TE}{tl th:TO}{Te:TEW}{Tl Th:TOW}(he:zx K te Te) (hl:ZP K tl Tl) (hh:ZP K th Th):zx K (tSl zeG te tl th) (zeH Te Tl Th):=by
 intro Γ O H ρ σ S r Q R hT k
 refine he _ _ _ _ _ S r _ _ hT fun Γ1 O1 H1 x v l1 S1 rx h1=>?_
 refine hl _ _ _ _ _ S1 (r.mono l1) _ _ h1 fun Γ2 O2 H2 l l2 S2 h2=>?_
 refine hh _ _ _ _ _ S2 (r.mono (l1.trans l2)) _ _ h2 fun Γ3 O3 H3 u l3 S3 h3=>?_
 obtain⟨z,rfl,hz,h3⟩:=h3
 exact⟨z,rx,hz,k _ _ _ _ _ ((l1.trans l2).trans l3) S3 xM h3⟩
def VZ:W->List W->OM->WK->Prop:=fun x xs O R=>∃ l b ws us,x=.own l/\xs=[.own b]/\O l=some (.lst ws)/\O b=some (.lst us)/\ws.length+us.length≤10000000/\R (.d .none) (updO O l (.lst (ws ++ us)))
theorem zav {T:String}:RefM K T VP VZ:=by
 rintro Γ O H x v xs vs S rx rs Q R ⟨l,b,ws,us,rfl,rfl,hl,hb,hn,h⟩ k
 cases rs with
 |cons rw t=>
  cases t
  cases (show v=.ref l from rx)
  obtain⟨_,vl,q1,q2⟩:=S.o _ _ hl
  obtain⟨_,vb,p1,p2⟩:=S.o _ _ hb
  refine⟨l,b,vl,vb,rfl,by rw [show _=V.ref b from rw],q1,p1,by rw [<- Paired.length q2,<- Paired.length p2,sizeLine_eq];omega,?_⟩
  exact k _ _ _ _ _ (Le.refl _) (S.put (oo:=.lst _) hl (by intro _ h;cases h) (by intro _ h;cases h) ⟨_,zA,Paired.appP q2 p2⟩) uh h
end
section
variable {K:W.Frag}
end
section
variable {K:W.Frag}
theorem kq {Z:Hp}{ds:List PyData}{vs:List V}(h:Reps K Z ds vs):∀ n,Reps K Z (List.replicate n ds).flatten (List.replicate n vs).flatten
 | 0=>rfl
 |n+1=>by
  rw [List.replicate_succ,List.replicate_succ,List.flatten_cons,List.flatten_cons]
  exact ko h (kq h n)
end
theorem V0 (c d:Nat):decide ((⟨#[c]⟩:Str).cps.toList < (⟨#[d]⟩:Str).cps.toList)=decide (c < d):=by
 apply decide_eq_decide.mpr
 show [c] < [d]↔c < d
 constructor
 ·intro h
  cases h with
  |rel h=>exact h
  |cons h=>cases h
 ·intro h
  exact List.Lex.rel h
structure KP where
 row:Int
 col:Int
 late:Bool
 ink:Int
 wrap:Bool
 putting:Bool
 home:Bool
noncomputable def kpT (k:KP):PyData:=.tuple [.int k.row,.int k.col,.bool k.late,.int k.ink,.bool k.wrap,.bool k.putting,.bool k.home]
noncomputable def stK (ks:List Int):List (Key×W):=ks.map fun i=>(Sum.inl i,W.d (.bool true))
structure ST where
 w:Nat
 h:Nat
 row:Int
 col:Int
 late:Bool
 ink:Int
 wrap:Bool
 putting:Bool
 home:Bool
 top:Int
 bottom:Int
 left:Int
 right:Int
 last:PyData
 pic:PF
 stops:List Int
 kept:List KP
noncomputable def fldW (p st kp:Addr) (S:ST):List (Str×W):=[("picture",.own p),("wide",.d (.int S.w)),("high",.d (.int S.h)),("row",.d (.int S.row)),("column",.d (.int S.col)),("late",.d (.bool S.late)),("ink",.d (.int S.ink)),("wrap",.d (.bool S.wrap)),("putting",.d (.bool S.putting)),("home",.d (.bool S.home)),("top",.d (.int S.top)),("bottom",.d (.int S.bottom)),("left",.d (.int S.left)),("right",.d (.int S.right)),("stops",.own st),("kept",.own kp),("last",.d S.last)]
noncomputable def ownW (q:Addr) (S:ST):List (Key×W):=[(Sum.inr "wide",.d (.int S.w)),(Sum.inr "high",.d (.int S.h)),(Sum.inr "top",.d (.int S.top)),(Sum.inr "left",.d (.int S.left)),(Sum.inr "cells",.own q),(Sum.inr "bottom",.d (.int S.bottom)),(Sum.inr "right",.d (.int S.right)),(Sum.inr "home",.d (.bool S.home)),(Sum.inr "putting",.d (.bool S.putting)),(Sum.inr "wrap",.d (.bool S.wrap)),(Sum.inr "last",.d S.last),(Sum.inr "late",.d (.bool S.late)),(Sum.inr "ink",.d (.int S.ink)),(Sum.inr "row",.d (.int S.row)),(Sum.inr "column",.d (.int S.col))]
section
variable {p st kp q:Addr}{S:ST}
end
structure StAt (O:OM) (C x dx p st kp:Addr) (S:ST):Prop where
 x:O x=some (.ins C dx (fldW p st kp S))
 p:O p=some (.grid (genG S.h S.w S.pic))
 st:O st=some (.dK (stK S.stops))
 kp:O kp=some (.lst ((S.kept.map kpT).map .d))
section
variable {O O':OM}{C x dx p st kp:Addr}{S:ST}
end
structure Bds (S:ST):Prop where
 w1:1≤S.w
 w2:S.w≤24
 h1:1≤S.h
 h2:S.h≤12
 r0:0≤S.row
 r1:S.row < S.h
 c0:0≤S.col
 c1:S.col < S.w
 t0:0≤S.top
 tb:S.top≤S.bottom
 b1:S.bottom < S.h
 l0:0≤S.left
 lr:S.left≤S.right
 rr:S.right < S.w
 i0:0≤S.ink
 i1:S.ink < 512
theorem zcQ {p q:Prop} [Decidable p] [Decidable q] {a b:Prop}:(if p then (if q then a else b) else b)=(if p/\q then a else b):=by
 by_cases hp:p <;> by_cases hq:q <;> simp [hp,hq]
noncomputable def eL (S:ST):Int:=if S.left≤S.col then S.left else 0
noncomputable def eR (S:ST):Int:=if S.col≤S.right then S.right else S.w - 1
noncomputable def zgm (i:Int):Cel:=(Str.ofString " ",i)
noncomputable abbrev Rw6:=List Cel
noncomputable def rowC (r:Rw6):PyData:=.list (r.map zp)
def zaw (c:Cel):Prop:=∃ k,32≤k/\k≤126/\c.1=⟨#[k]⟩
def okR (r:Rw6):Prop:=∀ c∈r,zaw c
noncomputable def cA (s:Rw6) (j:Nat):Cel:=s.getD j (⟨#[]⟩,0)
theorem zfS {s:Rw6}{j:Nat}(h:j < s.length):s[j]? =some (cA s j):=by
 unfold cA
 rw [List.getD_eq_getElem?_getD,List.getElem?_eq_getElem h]
 rfl
noncomputable abbrev T3:=Nat×Nat×Int
noncomputable def gSt (f:Nat->Int):Nat->List T3×Nat
 | 0=>([],0)
 |i+1=>if f (i+1)=f (gSt f i).2 then gSt f i else ((gSt f i).1 ++ [((gSt f i).2,i+1,f (gSt f i).2)],i+1)
noncomputable def stN (f:Nat->Int):Nat->List T3
 | 0=>[]
 |n+1=>(gSt f n).1 ++ [((gSt f n).2,n+1,f (gSt f n).2)]
noncomputable def Cov (f:Nat->Int):Nat->List T3->Nat->Prop
 |a,[],b=>a=b
 |a,t :: l,b=>t.1=a/\t.1 < t.2.1/\(∀ j,t.1≤j->j < t.2.1->f j=t.2.2)/\Cov f t.2.1 l b
theorem Cov.app {f:Nat->Int}:∀ {l:List T3}{a b c:Nat}{m:List T3},Cov f a l b->Cov f b m c->Cov f a (l ++ m) c
 |[],a,b,c,m,h,h'=>by cases h;exact h'
 |t :: l,a,b,c,m,⟨h1,h2,h3,h4⟩,h'=>⟨h1,h2,h3,Cov.app h4 h'⟩
theorem k9 (f:Nat->Int):∀ i,Cov f 0 (gSt f i).1 (gSt f i).2/\(gSt f i).2≤i/\∀ j,(gSt f i).2≤j->j≤i->f j=f (gSt f i).2
 | 0=>⟨rfl,Nat.le_refl _,fun j _ h=>by cases Nat.le_zero.mp h;rfl⟩
 |i+1=>by
  obtain⟨h1,h2,h3⟩:=k9 f i
  unfold gSt
  split
  ·rename_i e
   refine⟨h1,by omega,fun j a b=>?_⟩
   rcases Nat.lt_or_ge i j with z |z
   ·have:j=i+1:=by omega
    subst this;exact e
   ·exact h3 j a z
  ·refine⟨h1.app ⟨rfl,by show (gSt f i).2 < i+1;omega,fun j a b=>h3 j a (by have:j < i+1:=b;omega),rfl⟩,Nat.le_refl _,fun j a b=>?_⟩
   have:j=i+1:=Nat.le_antisymm b a
   subst this;rfl
theorem um (f:Nat->Int):∀ n,Cov f 0 (stN f n) n
 | 0=>rfl
 |n+1=>by
  obtain⟨h1,h2,h3⟩:=k9 f n
  exact h1.app ⟨rfl,by show (gSt f n).2 < n+1;omega,fun j a b=>h3 j a (by have:j < n+1:=b;omega),rfl⟩
theorem Cov.le {f:Nat->Int}:∀ {l:List T3}{a b:Nat},Cov f a l b->a+l.length≤b
 |[],a,b,h=>by cases h;exact Nat.le_refl _
 |t :: l,a,b,⟨h1,h2,h3,h4⟩=>by have:=h4.le;simp only [List.length_cons];omega
theorem Cov.mem {f:Nat->Int}:∀ {l:List T3}{a b:Nat},Cov f a l b->∀ t∈l,a≤t.1/\t.1 < t.2.1/\t.2.1≤b/\∀ j,t.1≤j->j < t.2.1->f j=t.2.2
 |t :: l,a,b,⟨h1,h2,h3,h4⟩,u,hu=>by
  have:=h4.le
  rcases List.mem_cons.mp hu with rfl |hu
  ·exact⟨by omega,h2,by omega,h3⟩
  ·obtain⟨q1,q2,q3,q4⟩:=h4.mem u hu
   exact⟨by omega,q2,q3,q4⟩
theorem qm (f:Nat->Int) (n:Nat):(stN f n).length≤n:=by have:=(um f n).le;omega
theorem ZQ {f:Nat->Int}{n:Nat}{t:T3}(h:t∈stN f n):t.1 < t.2.1/\t.2.1≤n/\f t.1=t.2.2:=by
 obtain⟨_,h2,h3,h4⟩:=(um f n).mem t h
 exact⟨h2,h3,h4 _ (Nat.le_refl _) h2⟩
theorem zbR {T1 T2 T3 U:TSW}{D:EndsW}{ρ:WS}{O:OM}(J:WS->OM->Prop) (ht:∀ R:WS->OM->Prop,(∀ ρ' O',J ρ' O'->R ρ' O')->yV T1 (yV T2 T3) { D with nx:=R } ρ O) (hu:∀ ρ' O',J ρ' O'->U D ρ' O'):yV T1 (yV T2 (yV T3 U)) D ρ O:=ht (U D) hu
end L2
namespace L2
open PySem
end L2
namespace L2
open PySem PySem.Spec PyProof.Rows
section
variable {X:Cx}{K:W.Frag}
end
structure OwnAt (O:OM) (d q:Addr) (S:ST):Prop where
 d:O d=some (.dK (ownW q S))
 q:O q=some (.grid (genG S.h S.w S.pic))
def PicOk (S:ST):Prop:=∀ i j,i < S.h->j < S.w->okC (S.pic i j)
def InWin (S:ST):Prop:=S.home=true->S.top≤S.row/\S.row≤S.bottom/\S.left≤S.col/\S.col≤S.right
section
variable {O O':OM}{d q:Addr}{S:ST}
end
structure Both (O:OM) (C x dx p st kp d q:Addr) (S S':ST):Prop where
 s:StAt O C x dx p st kp S
 o:OwnAt O d q S'
 ds:d≠st
 pq:p≠q
section
variable {O O':OM}{C x dx p st kp d q:Addr}{S S' S1:ST}
end
def AllOk (S:ST):Prop:=PicOk S/\SeqAt.shaped S.last=true/\PyData.eqv S.last S.last=true
structure Drawn (S:ST):Prop where
 b:Bds S
 ok:PicOk S
 win:InWin S
 last:S.last=.none\/∃ c,S.last=.str c/\S.pic S.row.toNat S.col.toNat=(c,S.ink)
 late:S.late=true->S.col=eR S/\S.last≠.none
def sRight (C:Addr):SpW:=fun ws O R=>∃ x dx p st kp d q S,ws=[.own x,.own d]/\Both O C x dx p st kp d q S S/\Bds S/\AllOk S/\R (.d (.bool true)) O
end L2
namespace L2
end L2
namespace L2
open PySem PySem.Spec PyProof.Rows
def Old (O O':OM):Prop:=∀ b,O b≠none->O' b=O b
theorem Old.refl {O:OM}:Old O O:=fun _ _=>rfl
theorem Old.upd {O O':OM}{a:Addr}{o:OO}(h:Old O O') (ha:O a=none):Old O (updO O' a o):=fun b hb=>by
 rw [zC (fun e=>by rw [e] at hb;exact hb ha)];exact h b hb
theorem Old.new {O O':OM}{a:Addr}(h:Old O O') (ha:O' a=none):O a=none:=by
 cases e:O a with
 |none=>rfl
 |some o=>rw [h a (by rw [e];simp)] at ha;rw [ha] at e;cases e
section
variable {q:Addr}{S:ST}{a b:Int}{u:Bool}{l:PyData}
end
theorem zm {a b:Str}:(a ++ b).cps.toList=a.cps.toList ++ b.cps.toList:=by
 show (a.cps ++ b.cps).toList=_
 simp
theorem ZR (z:Str):z.length=z.cps.toList.length:=rfl
theorem xA (sep:Str) (zs:List Str):Txt.join sep zs=Str.join sep zs:=eq_of_beq (join_plain_closes sep zs)
theorem qD (sep:Str):∀ zs:List Str,(Str.join sep zs).cps.toList.length≤(zs.map (·.length)).sum+zs.length*sep.length
 |[]=>Nat.zero_le _
 |[p]=>by
  show p.cps.toList.length≤([p].map (·.length)).sum+_
  rw [<- ZR]
  simp
 |p :: q :: r=>by
  have ih:=qD sep (q :: r)
  rw [join_cons_cons,zm,zm,List.length_append,List.length_append,<- ZR p,<- ZR sep]
  simp only [List.map_cons,List.sum_cons,List.length_cons,Nat.add_mul] at ih ⊢
  omega
theorem ji:∀ cs:List Nat,(Str.join ⟨#[]⟩ (cs.map fun c=>⟨#[c]⟩)).cps.toList=cs
 |[]=>rfl
 |[c]=>rfl
 |c :: d :: r=>by
  have ih:=ji (d :: r)
  show (Str.join ⟨#[]⟩ (⟨#[c]⟩ :: ⟨#[d]⟩ :: r.map _)).cps.toList=_
  rw [join_cons_cons,zm,zm]
  have ih:(Str.join ⟨#[]⟩ (⟨#[d]⟩ :: r.map fun c=>⟨#[c]⟩)).cps.toList=d :: r:=ih
  rw [ih]
  rfl
theorem xq {α:Type}(l:List α) (g:α->W) (F:W->Option PyData) (k:α->PyData) (h:∀ a,F (g a)=some (k a)):(l.map g).filterMap F=l.map k:=by
 induction l with
 |nil=>rfl
 |cons a l ih=>rw [List.map_cons,List.filterMap_cons,h a,ih];rfl
theorem Old.del {O O':OM}{a:Addr}(h:Old O O') (ha:O a=none):Old O (L2.del O' a):=fun b hb=>by
 rw [xF (O:=O') (fun e=>hb (by rw [e];exact ha))]
 exact h b hb
noncomputable def inkF (r:Rw6):Nat->Int:=fun j=>(cA r j).2
noncomputable def spD (t:T3):PyData:=.tuple [.int t.1,.int t.2.1,.int t.2.2]
noncomputable def sp2 (t:T3):PyData:=.tuple [.int t.1,.int t.2.1]
noncomputable def noS:Str:=⟨#[]⟩
inductive sTextOf (ws:List W) (O:OM) (R:WK):Prop
 |mk:∀ r:Rw6,ws=[.d (rowC r)]->r.length≤24->okR r->R (.d (.str (Txt.join noS (r.map (·.1))))) O->sTextOf ws O R
inductive sAlike (ws:List W) (O:OM) (R:WK):Prop
 |mk:∀ l:List Int,ws=[.d (.list (l.map .int))]->1≤l.length->l.length≤24->(∀ O',Old O O'->R (.d (.list ((stN (fun j=>l.getD j 0) l.length).map sp2))) O')->sAlike ws O R
inductive sStr6 (ws:List W) (O:OM) (R:WK):Prop
 |mk:∀ r:Rw6,ws=[.d (rowC r)]->1≤r.length->r.length≤24->(∀ p O',O p=none->Old O O'->O' p=some (.lst (((stN (inkF r) r.length).map spD).map .d))->R (.own p) O')->sStr6 ws O R
theorem Xv {α:Type}{x:α}{l:List α}:atI (x :: l) 0 =some x:=yn (xs:=x :: l) (j:=0) (v:=x) rfl
section
variable {X:Cx}{K:W.Frag}
end
section
variable {X:Cx}{K:W.Frag}
end
section
variable {X:Cx}{k:Nat}{sp:Sp}{C:Addr}{x:Str}{p pos:Pos}
end
theorem zax {z:Str}{lo hi:Option Int}{a b:Nat}(hab:a≤b) (hb:b≤z.length) (e:Builtin.Str.strSliceIndices lo hi 1 z.length=(List.range (b - a)).map (a+ ·)):(Txt.slice z lo hi).cps.toList=(z.cps.toList.drop a).take (b - a):=by
 have hz:z.length=z.cps.toList.length:=rfl
 unfold Txt.slice
 rw [e]
 split
 ·rename_i h
  simp at h
  have ha:a= 0:=by omega
  subst ha
  rw [List.drop_zero,List.take_of_length_le (by omega)]
 ·show (((List.range (b - a)).map (a+ ·)).filterMap (z.cps[·]?))=_
  rw [List.filterMap_map]
  refine List.ext_getElem? fun i=>?_
  have key:∀ n,n≤b - a->(List.range n).filterMap ((fun x=>z.cps[x]?) ∘ fun x=>a+x)=(z.cps.toList.drop a).take n:=by
   intro n
   induction n with
   |zero=>intro _;simp
   |succ n ih=>
    intro hn
    rw [List.range_succ,List.filterMap_append,ih (by omega)]
    have h1:a+n < z.cps.toList.length:=by omega
    have h2:z.cps[a+n]? =some z.cps.toList[a+n]:=by
     rw [<- Array.getElem?_toList,List.getElem?_eq_getElem h1]
    have h3:(z.cps.toList.drop a)[n]? =some z.cps.toList[a+n]:=by
     rw [List.getElem?_drop,List.getElem?_eq_getElem h1]
    rw [List.take_succ,h3]
    simp [h2]
  rw [key _ (Nat.le_refl _)]
theorem V1 {z:Str}{a:Nat}(ha:a≤z.length):(Txt.slice z (some (a:Int)) none).cps.toList=z.cps.toList.drop a:=by
 rw [zax (a:=a) (b:=z.length) ha (Nat.le_refl _) ?_]
 ·rw [List.take_of_length_le (by rw [List.length_drop];exact Nat.le_refl _)]
 unfold Builtin.Str.strSliceIndices sliceRange
 simp only [show (1:Int) > 0 by decide,if_true]
 have ca:max 0 (min (if (a:Int) < 0 then (a:Int)+z.length else a) z.length)=(a:Int):=by rw [if_neg (by omega)];omega
 rw [ca]
 have e:(if (a:Int) < z.length then ((z.length:Int) - a+1 - 1) / 1 else 0).toNat=z.length - a:=by
  split
  ·rw [Int.ediv_one];omega
  ·simp;omega
 rw [e]
 refine List.map_congr_left fun k hk=>?_
 omega
theorem yG {a b:Str}(h:a.cps.toList=b.cps.toList):a=b:=by
 obtain⟨a⟩:=a
 obtain⟨b⟩:=b
 exact congrArg Str.mk (Array.ext' h)
def zbS (c:Nat):Prop:=(97≤c/\c≤122)\/(65≤c/\c≤90)
def zbT (c:Nat):Prop:=48≤c/\c≤57
noncomputable instance (c:Nat):Decidable (zbS c):=by unfold zbS;infer_instance
noncomputable instance (c:Nat):Decidable (zbT c):=by unfold zbT;infer_instance
section
variable {K:W.Frag}
theorem Sim.shrink {Γ:Gh}{O O':OM}{H:Hp}(S:Sim K Γ O' H) (h:Old O O'):Sim K Γ O H:=by
 have k1:∀ {x:Addr}{o:OO},O x=some o->O' x=some o:=fun {x o} e=>by rw [h x (by rw [e];simp)];exact e
 have k0:∀ {x:Addr},O' x=none->O x=none:=fun {x} e=>by
  cases q:O x with
  |none=>rfl
  |some o=>rw [k1 q] at e;cases e
 refine⟨S.z,fun x o e=>?_,S.gd,S.f,fun x o e hn=>S.gn x o (k1 e) hn,S.fg,fun x o e=>⟨(S.fd x o e).1,k0 (S.fd x o e).2.1,fun b rows rs e1=>(S.fd x o e).2.2 b rows rs (k1 e1)⟩,fun x b ra rb rs ss r e1 e2=>S.u x b ra rb rs ss r (k1 e1) (k1 e2)⟩
 obtain⟨h1,h2⟩:=S.o _ _ (k1 e)
 refine⟨h1,h2.keep (Le.refl _) rfl rfl fun rs r hg ⟨rows,hrw⟩ hr=>?_⟩
 subst hrw
 obtain⟨_,q2,_⟩:=S.rowIn (k1 e) hg hr
 refine⟨rfl,rfl,?_⟩
 rw [q2]
 exact k0 q2
theorem FnOk.forget {P:Program}{w:World}{mg:Str->Option Value}{base:Heap}{CX:CXT}{k:Nat}{f:Addr}{fd:FuncData}{ps:List Str}{s s':SpW}(F:FnOk P w K mg base CX k f fd ps (zd K s'))
  (h:∀ ws O R,s ws O R->s' ws O fun w O'=>Old O O'/\R w O):FnOk P w K mg base CX k f fd ps (zd K s):=
 F.imp fun vs H Q E ⟨Γ,O,ws,R,S,r,hs,k⟩=>⟨Γ,O,ws,_,S,r,h ws O R hs,fun Γ' O' H' w v l S' rw ⟨ho,hR⟩=>k Γ' O H' w v l (S'.shrink ho) rw hR⟩
section
variable {X:Cx}{N:List Str}{n:Nat}{js:List Nat}{scope:Scope}{cl:List (Str×Addr)}{elt tg iter:Expr}{ifs:List Expr}{pos:Pos}{wi:TI}{g:TG}{tt:TT}{te:TE}
end
end
section
variable {X:Cx}{K:W.Frag}
def Xw (C:TTW) (TB:TSW):TSW:=fun D ρ O=>∃ Pv:Nat->WS->OM->Prop,(∃ m,Pv m ρ O)/\∀ m ρ O,Pv m ρ O->
 C ρ O fun b O1=>if b=true then TB { D with nx:=fun ρ' O'=>∃ m',m' < m/\Pv m' ρ' O',ct:=fun ρ' O'=>∃ m',m' < m/\Pv m' ρ' O',bk:=D.nx } ρ O1 else D.nx ρ O1
theorem Jx {c:TT}{tb:TS}{C:TTW}{TB:TSW}(hc:xo K c C) (hb:RefS K tb TB):RefS K (QV c tb) (Xw C TB):=by
 intro Γ O H ρ σ D DW S r hT e
 obtain⟨Pv,⟨m0,p0⟩,turn⟩:=hT
 refine⟨fun m σ' H'=>∃ Γ' O' ρ',Le Γ Γ'/\Sim K Γ' O' H'/\relR K Γ' ρ' σ'/\Pv m ρ' O',⟨m0,Γ,O,ρ,Le.refl _,S,r,p0⟩,?_⟩
 rintro m σ' H' ⟨Γ',O',ρ',l',S',r',p'⟩
 refine hc _ _ _ _ _ S' r' _ _ (turn m ρ' O' p') fun Γ1 O1 H1 b l1 S1 h1=>?_
 cases b with
 |true=>
  rw [if_pos rfl] at h1 ⊢
  refine⟨fun σ2 H2=>∃ Γ2 O2 ρ2,Le Γ Γ2/\Sim K Γ2 O2 H2/\relR K Γ2 ρ2 σ2/\∃ m',m' < m/\Pv m' ρ2 O2,fun σ2 H2 ⟨Γ2,O2,ρ2,l2,S2,r2,m',hm,p2⟩=>⟨m',hm,Γ2,O2,ρ2,l2,S2,r2,p2⟩,?_⟩
  have l01:=l'.trans l1
  exact hb _ _ _ _ _ _ _ S1 (r'.mono l1) h1 ⟨fun Γ4 O4 H4 ρ4 σ4 l4 S4 r4 h4=>⟨Γ4,O4,ρ4,l01.trans l4,S4,r4,h4⟩,fun Γ4 O4 H4 w v l4=>e.rt _ _ _ _ _ (l01.trans l4),fun Γ4 O4 H4 ρ4 σ4 l4=>e.nx _ _ _ _ _ (l01.trans l4),fun Γ4 O4 H4 ρ4 σ4 l4 S4 r4 h4=>⟨Γ4,O4,ρ4,l01.trans l4,S4,r4,h4⟩⟩
 |false=>
  rw [if_neg (by decide)] at h1 ⊢
  exact e.nx _ _ _ _ _ (l'.trans l1) S1 (r'.mono l1) h1
theorem V2 {C:TTW}{TB:TSW}{D:EndsW}{ρ:WS}{O:OM}(Pv:Nat->WS->OM->Prop) (m:Nat) (h0:Pv m ρ O)
  (hs:∀ m ρ O,Pv m ρ O->∀ R:WS->OM->Prop,(∀ m' ρ' O',m' < m->Pv m' ρ' O'->R ρ' O')->C ρ O fun b O1=>if b=true then TB { D with nx:=R,ct:=R,bk:=D.nx } ρ O1 else D.nx ρ O1):Xw C TB D ρ O:=
 ⟨Pv,⟨m,h0⟩,fun m ρ O p=>hs m ρ O p _ fun m' ρ' O' hm hp=>⟨m',hm,hp⟩⟩
noncomputable def frz (w:W) (O:OM):Option (PyData×OM):=match w with
 |.d x=>some (x,O)
 |.own a=>match O a with
  |some (.lst ws)=>(yh ws).map fun ds=>(.list ds,del O a)
  |_=>none
 |_=>none
noncomputable def frzs:List W->OM->Option (List PyData×OM)
 |[],O=>some ([],O)
 |w :: ws,O=>match frz w O with
  |some (d,O1)=>(frzs ws O1).map fun q=>(d :: q.1,q.2)
  |none=>none
end
theorem Jy {C:TTW}{TB:TSW}{D:EndsW}{ρ:WS}{O:OM}(Pv:Nat->WS->OM->Prop) (J:WS->OM->Prop) (m:Nat) (h0:Pv m ρ O)
  (hs:∀ m ρ O,Pv m ρ O->∀ R S:WS->OM->Prop,(∀ m' ρ' O',m' < m->Pv m' ρ' O'->R ρ' O')->(∀ ρ' O',J ρ' O'->S ρ' O')->C ρ O fun b O1=>if b=true then TB { D with nx:=R,ct:=R,bk:=S } ρ O1 else S ρ O1)
  (hx:∀ ρ' O',J ρ' O'->D.nx ρ' O'):Xw C TB D ρ O:=
 V2 Pv m h0 fun m ρ O p R hR=>hs m ρ O p R D.nx hR hx
section
variable {C:Addr}{O O':OM}{xb db pb xr dr pr p' q:Addr}{bb br br' bb':List Nat}
end
section
variable {K:W.Frag}
theorem Sim.unframeW {Γ:Gh}{O:OM}{H:Hp}(S:Sim K Γ O H) {a:Addr}{us:List W}{vs:List V}{F:Hp}(hF:Γ.F=upd F a (.lst vs)) (h0:F a=none) (hr:relWs K Γ us vs) :
  O a=none/\Sim K ⟨Γ.Z,Γ.G,F⟩ (updO O a (.lst us)) H:=by
 have hFa:Γ.F a=some (.lst vs):=by rw [hF,zA]
 obtain⟨hz,hO,hrow⟩:=S.fd _ _ hFa
 have kF:∀ b o,F b=some o->b≠a/\Γ.F b=some o:=fun b o e=>by
  have hb:b≠a:=fun z=>by rw [z,h0] at e;cases e
  exact⟨hb,by rw [hF,zg hb];exact e⟩
 have k1:∀ {x:Addr}{rx:List (List PyData)},updO O a (.lst us) x=some (.grid rx)->O x=some (.grid rx):=fun {x rx} h=>by
  by_cases hx:x=a
  ·subst hx;rw [zu] at h;cases h
  ·rw [zC hx] at h;exact h
 refine⟨hO,⟨S.z,fun b oo e=>?_,S.gd,fun b u e=>S.f _ _ (kF b u e).2,fun b oo e hn=>?_,fun b o e=>S.fg b o (kF b o e).2,fun b o e=>⟨(S.fd b o (kF b o e).2).1,by rw [zC (kF b o e).1];exact (S.fd b o (kF b o e).2).2.1,fun c rows rs e1=>(S.fd b o (kF b o e).2).2.2 c rows rs (k1 e1)⟩,fun x y ra rb rs ss r e1 e2=>S.u x y ra rb rs ss r (k1 e1) (k1 e2)⟩⟩
 ·by_cases hb:b=a
  ·subst hb
   rw [zu] at e
   cases e
   exact⟨hz,vs,S.f _ _ hFa,Paired.mapP hr fun _ _ z=>z.setF⟩
  ·rw [zC hb] at e
   obtain⟨q1,q2⟩:=S.o _ _ e
   refine⟨q1,(q2.keep (Le.refl _) rfl rfl fun rs r hg ⟨rows,hrw⟩ hm=>⟨rfl,rfl,?_⟩).setF⟩
   subst hrw
   exact zC (fun z=>hrow b rows rs e hg (by rw [<- z];exact hm))
 ·by_cases hb:b=a
  ·rw [hb];exact S.fg _ _ hFa
  ·rw [zC hb] at e;exact S.gn b oo e hn
section
variable {X:Cx}{N:List Str}{n:Nat}{js:List Nat}{scope:Scope}{cl:List (Str×Addr)}{elt tg iter:Expr}{ifs:List Expr}{pos:Pos}{wi:TI}{g:TG}{tt:TT}{te:TE}
end
noncomputable def vD (O:OM):W->Option PyData
 |.d x=>some x
 |.own a=>match O a with
  |some (.lst ws)=>(yh ws).map .list
  |_=>none
 |_=>none
noncomputable def yC (O:OM):List W->Option (List PyData)
 |[]=>some []
 |w :: ws=>match vD O w,yC O ws with
  |some d,some ds=>some (d :: ds)
  |_,_=>none
noncomputable def x9 (O:OM):W->Option PyData
 |.d x=>some x
 |.own a=>match O a with
  |some (.lst ws)=>(yC O ws).map .list
  |some (.grid rows)=>some (.list (rows.map .list))
  |_=>none
 |.row a i=>ZL O (.row a i)
theorem Jz {Γ:Gh}{O:OM}{H:Hp}{w:W}{v:V}{x:PyData}(S:Sim K Γ O H) (r:relW K Γ w v) (e:vD O w=some x):Rep K H x v:=by
 cases w with
 |d y=>cases e;exact Rep.same S.z _ _ r
 |row _ _=>cases e
 |own a=>
  refine km S r ?_
  simp only [vD] at e
  simp only [ZL]
  split at e
  ·rename_i ws h
   rw [h]
   exact e
  ·cases e
theorem Za {Γ:Gh}{O:OM}{H:Hp}(S:Sim K Γ O H):∀ {ws:List W}{vs:List V}{ds:List PyData},relWs K Γ ws vs->yC O ws=some ds->Reps K H ds vs
 |[],_,ds,r,e=>by
  cases r
  cases e
  exact rfl
 |w :: ws,_,ds,r,e=>by
  cases r with
  |cons rx t=>
   simp only [yC] at e
   split at e
   ·rename_i d ds' e1 e2
    cases e
    exact⟨_,_,rfl,Jz S rx e1,Za S t e2⟩
   ·cases e
theorem vQ {Γ:Gh}{O:OM}{H:Hp}{w:W}{v:V}{x:PyData}(S:Sim K Γ O H) (r:relW K Γ w v) (e:x9 O w=some x):Rep K H x v:=by
 cases w with
 |d y=>cases e;exact Rep.same S.z _ _ r
 |row a i=>exact km S r e
 |own a=>
  simp only [x9] at e
  split at e
  ·rename_i ws h
   cases (show v=.ref a from r)
   cases hd:yC O ws with
   |none=>rw [hd] at e;cases e
   |some ds=>
    rw [hd] at e
    cases e
    obtain⟨_,vs,h1,h2⟩:=S.o _ _ h
    exact⟨a,vs,rfl,SqL.of h1,Za S h2 hd⟩
  ·rename_i rows h
   refine km S r ?_
   simp only [ZL,h]
   exact e
  ·cases e
def zbU:R2W:=fun x y O R=>∃ a b,x9 O x=some a/\x9 O y=some b/\SeqAt.shaped a=true/\SeqAt.shaped b=true/\R (.d (.bool (PyData.eqv a b))) O
def zbV:R2W:=fun x y O R=>∃ a b,x9 O x=some a/\x9 O y=some b/\SeqAt.shaped a=true/\SeqAt.shaped b=true/\R (.d (.bool (!PyData.eqv a b))) O
theorem zeI:RefR K (KT K) zbU:=by
 rintro Γ O H x y v u S rx ry Q R ⟨a,b,e1,e2,s1,s2,h⟩ k
 exact⟨a,b,vQ S rx e1,vQ S ry e2,s1,s2,k _ _ _ _ _ (Le.refl _) S xf h⟩
theorem zeJ:RefR K (KU K) zbV:=by
 rintro Γ O H x y v u S rx ry Q R ⟨a,b,e1,e2,s1,s2,h⟩ k
 exact⟨a,b,vQ S rx e1,vQ S ry e2,s1,s2,k _ _ _ _ _ (Le.refl _) S xf h⟩
theorem Zb (O:OM):∀ ds:List PyData,yC O (ds.map .d)=some ds
 |[]=>rfl
 |d :: ds=>by simp only [List.map_cons,yC,vD,Zb O ds]
end
section
variable {P:Program}{w:World}{K:W.Frag}{mg:Str->Option Value}{base:Heap}
end
end L2
namespace PySem.AutoListH
open AutoSeq1 (wpAny_loadPart')
open MeetsSeq MeetsSeq2 MeetsSeq3 SeqRoads2
theorem list_mul_sl (l:Addr) (items:Array Value) (n:Nat) (sl:Array (Option Value)) (x:Int) (u:Tok) (hc0:¬(!Builtin.List.listFitsIndex x)=true) (hc1:¬items.size*x.toNat > (2 ^ 63 - 1) / 8) (hc2:¬Builtin.List.listTooLong (items.size*x.toNat)=true) :
  Meets (Builtin.«list.__mul__» ⟨[.ref l,.int x u],[]⟩) (fun _ R s=>s.heap.get? l=some { cls:=.type "list",dict:=none,data:=.seq items n,slots:=sl }/\R (.ok (.ret (Value.ref s.heap.objs.size))) { s with heap:=s.heap.push { cls:=Value.type "list",data:=Data.seq (List.foldl (fun x1 x2=>x1 ++ x2) #[] (List.replicate (if items.isEmpty=true then 0 else x.toNat) items)) },toks:=s.toks }):=
 .of_wp fun prog w A R s h=>by
  obtain⟨hp,g,d,tk,os⟩:=s;obtain⟨hl,h⟩:=h
  have hsz:=joined_fits hc2
  wp_walk using wpAny_loadPart' hl;refine wpAny_ite_false (decide_eq_false (Nat.not_lt.mpr hsz)) ?_;wp_walk;exact⟨_,rfl,h⟩
theorem rmul_sl (a:Int) (t:Tok) (l:Addr) (items:Array Value) (n:Nat) (sl:Array (Option Value)) :
  Meets (Builtin.«int.__rmul__» ⟨[.int a t,.ref l],[]⟩) (fun _ R s=>s.heap.get? l=some { cls:=.type "list",dict:=none,data:=.seq items n,slots:=sl }/\R (.ok (.ret Value.notImplemented)) s):=
 .of_wp fun prog w A R s h=>by obtain⟨hp,g,d,tk,os⟩:=s;obtain⟨hl,h⟩:=h;wp_walk;exact⟨_,rfl,h⟩
end PySem.AutoListH
namespace L2
open PySem PySem.Spec PyProof.Rows
abbrev YK:=Addr->OM->Prop
abbrev SpX:=List W->OM->WK->YK->Prop
section
variable (K:W.Frag)
def kt (Γ:Gh) (E:XK) (Y:YK):Prop:=∀ Γ' O' H' C,Le Γ Γ'->Sim K Γ' O' H'->Y C O'->E (.ref C) none H'
def zU (s:SpX):Sp:=fun vs H Q E=>∃ Γ O ws R Y,Sim K Γ O H/\relWs K Γ ws vs/\s ws O R Y/\(∀ Γ' O' H' w v,Le Γ Γ'->Sim K Γ' O' H'->relW K Γ' w v->R w O'->Q v H')/\kt K Γ E Y
def xg (t:XK->TS) (T:YK->TSW):Prop:=∀ E Y Γ O H ρ σ D DW,Sim K Γ O H->relR K Γ ρ σ->kt K Γ E Y->T Y DW ρ O->EndsR K Γ D DW->t E D σ H
def vE (t:XK->TE) (T:YK->TEW):Prop:=∀ E Y Γ O H ρ σ,Sim K Γ O H->relR K Γ ρ σ->kt K Γ E Y->∀ (Q:VK) (R:WK),T Y ρ O R->(∀ Γ' O' H' w v,Le Γ Γ'->Sim K Γ' O' H'->relW K Γ' w v->R w O'->Q v H')->t E σ H Q
end
section
variable {K:W.Frag}
theorem kt.mono {Γ Γ':Gh}{E:XK}{Y:YK}(h:kt K Γ E Y) (l:Le Γ Γ'):kt K Γ' E Y:=fun _ _ _ _ l2=>h _ _ _ _ (l.trans l2)
theorem zcR {t:TS}{T:TSW}(h:RefS K t T):xg K (fun _=>t) (fun _=>T):=fun _ _ Γ O H ρ σ D DW S r _ hT e=>h Γ O H ρ σ D DW S r hT e
theorem zay {t:TE}{T:TEW}(h:zx K t T):vE K (fun _=>t) (fun _=>T):=fun _ _ Γ O H ρ σ S r _ Q R hT k=>h Γ O H ρ σ S r Q R hT k
theorem zaz {t u:XK->TS}{T U:YK->TSW}(h:xg K t T) (g:xg K u U):xg K (fun E=>ZD (t E) (u E)) (fun Y=>yV (T Y) (U Y)):=fun E Y Γ O H ρ σ D DW S r m hT e=>
 h E Y Γ O H ρ σ { D with nx:=u E D } { DW with nx:=U Y DW } S r m hT ⟨fun Γ' O' H' ρ' σ' l S' r' h'=>g E Y _ _ _ _ _ _ _ S' r' (m.mono l) h' (e.mono l),e.rt,e.bk,e.ct⟩
theorem zaA {c:TT}{C:TTW}{t u:XK->TS}{T U:YK->TSW}(hc:xo K c C) (h:xg K t T) (g:xg K u U):xg K (fun E=>UM c (t E) (u E)) (fun Y=>Xs C (T Y) (U Y)):=fun E Y Γ O H ρ σ D DW S r m hT e=>by
 refine hc _ _ _ _ _ S r _ _ hT fun Γ1 O1 H1 b l S1 h1=>?_
 cases b with
 |true=>rw [if_pos rfl] at h1 ⊢;exact h E Y _ _ _ _ _ _ _ S1 (r.mono l) (m.mono l) h1 (e.mono l)
 |false=>rw [if_neg (by decide)] at h1 ⊢;exact g E Y _ _ _ _ _ _ _ S1 (r.mono l) (m.mono l) h1 (e.mono l)
noncomputable def JA (T:TAW) (C:Addr):YK->TSW:=fun Y _ ρ O=>T ρ O fun ws O1=>ws.length≤100/\Y C O1
theorem U7 {t:TA}{T:TAW}{C:Addr}(h:yU K t T):xg K (fun E=>Xq t C E) (JA T C):=by
 intro E Y Γ O H ρ σ D DW S r m hT e
 refine h _ _ _ _ _ S r _ _ hT fun Γ1 O1 H1 ws vs l1 S1 rs h1=>?_
 refine⟨by rw [<- Paired.length rs,sizeLine_eq];omega,m _ _ _ _ l1 S1 h1.2⟩
theorem JB {t:XK->TE}{T:YK->TEW}(h:vE K t T):xg K (fun E=>kN (t E)) (fun Y=>kZ (T Y)):=fun E Y Γ O H ρ σ D DW S r m hT e=>
 h E Y _ _ _ _ _ S r m _ _ hT fun Γ1 O1 H1 w v l S1 r1 h1=>e.nx _ _ _ _ _ l S1 (r.mono l) h1
theorem zaB {t:XK->TE}{T:YK->TEW}(h:vE K t T):xg K (fun E=>Y9 (t E)) (fun Y=>U0 (T Y)):=fun E Y Γ O H ρ σ D DW S r m hT e=>
 h E Y _ _ _ _ _ S r m _ _ hT fun Γ1 O1 H1 w v l S1 r1 h1=>e.rt _ _ _ _ _ l S1 r1 h1
theorem zaC {t:XK->TE}{T:YK->TEW}{g:TG}{G:TGW}(h:vE K t T) (hg:RefG K g G):xg K (fun E=>ki (t E) g) (fun Y=>U1 (T Y) G):=fun E Y Γ O H ρ σ D DW S r m hT e=>
 h E Y _ _ _ _ _ S r m _ _ hT fun Γ1 O1 H1 w v l S1 r1 h1=>hg _ _ _ _ _ _ _ S1 (r.mono l) r1 _ _ h1 fun Γ2 O2 H2 ρ2 σ2 l2=>e.nx _ _ _ _ _ (l.trans l2)
def Xx (s:SpX) (dvs:List V) (T:TAW) (Y:YK):TEW:=fun ρ O R=>T ρ O fun ws O1=>s (ws ++ dvs.map ofV) O1 R Y
theorem JC {s:SpX}{dvs:List V}{t:TA}{T:TAW}(h:yU K t T) (hd:dvs.all scV=true:=by rfl):vE K (fun E=>xT (zU K s) dvs E t) (Xx s dvs T):=by
 intro E Y Γ O H ρ σ S r0 m Q R hT k
 refine h Γ O H ρ σ S r0 _ _ hT fun Γ1 O1 H1 ws vs l1 S1 rs h1=>?_
 exact⟨Γ1,O1,_,R,Y,S1,Paired.appP rs (uz hd),h1,fun Γ2 O2 H2 w v l2 S2 r2 h2=>k _ _ _ _ _ (l1.trans l2) S2 r2 h2,m.mono l1⟩
def Xy (s:SpX) (dvs:List V) (T:TAW):TEW:=fun ρ O R=>T ρ O fun ws O1=>s (ws ++ dvs.map ofV) O1 R fun _ _=>False
theorem JD {s:SpX}{dvs:List V}{t:TA}{T:TAW}(h:yU K t T) (hd:dvs.all scV=true:=by rfl):zx K (xT (zU K s) dvs E0 t) (Xy s dvs T):=by
 intro Γ O H ρ σ S r0 Q R hT k
 refine h Γ O H ρ σ S r0 _ _ hT fun Γ1 O1 H1 ws vs l1 S1 rs h1=>?_
 exact⟨Γ1,O1,_,R,_,S1,Paired.appP rs (uz hd),h1,fun Γ2 O2 H2 w v l2 S2 r2 h2=>k _ _ _ _ _ (l1.trans l2) S2 r2 h2,fun _ _ _ _ _ _ z=>z.elim⟩
theorem U8 {s:SpX}{t:TA}{T:TAW}(h:yU K t T):zx K (xT (zU K s) [] E0 t) (Xy s [] T):=JD h
theorem U9 {s:SpX}{t:TA}{T:TAW}(h:yU K t T):vE K (fun E=>xT (zU K s) [] E t) (Xx s [] T):=JC h
variable {P:Program}{w:World}{mg:Str->Option Value}{base:Heap}
theorem Fun.okXV {z:Bool}{x qual:Str}{st:Stmt}{f:Addr}{fd:FuncData}{N ps:List Str}{k:Nat}{s:SpX}{t:XK->TS}{T:YK->TSW}(F:Fun K x qual st f fd) (S:FnScope N ps (defScope st)) (len:∀ ws O R Y,s ws O R Y->ws.length=ps.length)
  (hP:∀ (cdv:Value) (A:Around) (outer:List Env) (sh:Shared) (H:Hp) (E:XK),Room k (A.deeper (envOfC qual (defScope st) sh.heap.objs.size f cdv))->PSs (uu (CXz z P w) P w K mg base N qual (defScope st) f cdv A outer sh H E) (defBody st) (t E))
  (hR:xg K t T) (hb:∀ ws O R Y,s ws O R Y->T Y { nx:=fun _ O'=>Clo R (.d .none) O',rt:=Clo R } (vP N ws) O):FnOk P w K mg base (CXz z P w) (k+1) f fd ps (zU K s):=by
 refine F.okX S (fun vs H Q E h=>?_) (fun cdv A outer sh H vs Q E hr h=>?_)
 ·obtain⟨Γ,O,ws,R,Y,S1,r,hs,_⟩:=h
  rw [<- Paired.length r]
  exact len ws O R Y hs
 ·obtain⟨Γ,O,ws,R,Y,S1,r,hs,kk,m⟩:=h
  refine⟨t E,hP cdv A outer sh H E hr,hR E Y Γ O H _ _ _ _ S1 (qA r) m (hb ws O R Y hs) ⟨fun Γ' O' H' ρ' σ' l S' r' h'=>?_,fun Γ' O' H' w v l S' r' h'=>?_,fun _ _ _ _ _ _ _ _ h=>h.elim,fun _ _ _ _ _ _ _ _ h=>h.elim⟩⟩
  ·exact jR S' uh h' fun Γ2 O2 H2 w v l2=>kk _ _ _ _ _ (l.trans l2)
  ·exact jR S' r' h' fun Γ2 O2 H2 w v l2=>kk _ _ _ _ _ (l.trans l2)
theorem Sim.grow {Γ:Gh}{O:OM}{H H':Hp}(S:Sim K Γ O H) (h:Same H H'):Sim K Γ O H':=by
 refine⟨fun b u e=>h _ _ (S.z _ _ e),fun a oo e=>?_,fun a rs e=>?_,fun b u e=>h _ _ (S.f _ _ e),S.gn,S.fg,S.fd,S.u⟩
 ·obtain⟨h1,h2⟩:=S.o _ _ e
  refine⟨h1,?_⟩
  cases oo with
  |lst ws=>obtain⟨vs,q1,q2⟩:=h2;exact⟨vs,h _ _ q1,q2⟩
  |dK kvs=>obtain⟨vs,q1,q2⟩:=h2;exact⟨vs,h _ _ q1,q2⟩
  |ins C dx fs=>obtain⟨vs,q1,q2⟩:=h2;exact⟨vs,h _ _ q1,q2⟩
  |raw p=>obtain⟨o,q1,q2⟩:=h2;exact⟨o,h _ _ q1,q2⟩
  |grid rows=>
   obtain⟨rs,q1,q2,q3,q4,q5⟩:=h2
   refine⟨rs,q1,h _ _ q2,q3,q4,fun i r ds e1 e2=>?_⟩
   obtain⟨z1,z2,vs,z3,z4⟩:=q5 i r ds e1 e2
   exact⟨z1,z2,vs,h _ _ z3,z4⟩
 ·obtain⟨o,q⟩:=S.gd _ _ e
  exact⟨o,h _ _ q⟩
end
noncomputable def tyN:PyData->String
 |.none=>"NoneType"
 |.bool _=>"bool"
 |.int _=>"int"
 |.str _=>"str"
 |.list _=>"list"
 |.tuple _=>"tuple"
 |.dict _=>"dict"
noncomputable def JE:PyData->Bool
 |.int _=>true
 |.bool _=>true
 |_=>false
noncomputable def V3:PyData->Bool
 |.bool _=>true
 |_=>false
noncomputable def JF:PyData->Bool
 |.str _=>true
 |_=>false
noncomputable def V4:PyData->Bool
 |.list _=>true
 |_=>false
noncomputable def JG:PyData->Bool
 |.tuple _=>true
 |_=>false
noncomputable def isN (d:PyData):String->Bool
 | "int"=>JE d
 | "bool"=>V3 d
 | "str"=>JF d
 | "list"=>V4 d
 |_=>JG d
noncomputable def okN:String->Bool
 | "bool"=>true
 | "int"=>true
 | "str"=>true
 | "list"=>true
 | "tuple"=>true
 |_=>false
theorem zcS {K:W.Frag}(d:PyData) {n:String}(h:okN n=true):PySem.W.kitOne K (.type (tyN d)) (.type n)=some (isN d n):=by
 unfold okN at h
 split at h <;> first | (cases d <;> rfl) |cases h
def zaD (K:W.Frag):List V->Hp->VK->Prop:=fun xs H Q=>∃ d x n,xs=[x,.ty n]/\Rep K H d x/\okN n=true/\Q (.bl (isN d n)) H
theorem zaE {X:Cx}:y8 X (.builtin "isinstance") (zaD X.K):=by
 intro pins s σ H xs us Q I r h
 obtain⟨d,x,n,rfl,hd,hn,q⟩:=h
 obtain⟨u,c,rfl,ru,rc⟩:=r.two
 cases rc
 have e:=zcS (K:=X.K) d hn
 have fin:∀ tk,∃ v H',Inv X pins σ H' { s with toks:=tk }/\RelV v (.bool (isN d n))/\Q v H':=fun tk=>⟨.bl _,H,I.tok tk,rfl,q⟩
 cases d with
 |none=>cases (show x=.non from hd);exact uM I ru .non e fin
 |bool b=>cases (show x=.bl b from hd);exact uM I ru (.bl _) e fin
 |int b=>cases (show x=.int b from hd);exact uM I ru (.int _) e fin
 |str b=>cases (show x=.str b from hd);exact uM I ru (.str _) e fin
 |list ds=>
  obtain⟨a,ys,rfl,h1,_⟩:=hd
  cases ru
  obtain⟨its,rv,⟨o,m,h2,h3,_⟩,_⟩:=I.list h1
  exact PySem.W.kia_one PySem.W.kitx_list I.kIn ⟨o,h2,h3⟩ e (fun z=>nomatch z) fin
 |tuple ds=>
  obtain⟨a,ys,rfl,h1,_⟩:=hd
  cases ru
  obtain⟨its,rv,⟨o,h2,h3,_⟩,_⟩:=I.tuple h1
  exact PySem.W.kia_one PySem.W.kitx_tuple I.kIn ⟨o,h2,h3⟩ e (fun z=>nomatch z) fin
 |dict kvs=>
  obtain⟨rfl,a,rfl,h1⟩:=hd
  cases ru
  obtain⟨_,_,vs,_,p⟩:=(show yq X.prog X.w H s.heap a (.dK []) from h1.ok I.hok)
  obtain⟨o,es,ep,h2,h3,_⟩:=p
  exact PySem.W.kia_one PySem.W.kitx_dict I.kIn ⟨o,h2,h3.1⟩ e (fun z=>nomatch z) fin
theorem xH {X:Cx}{K:W.Frag}(h:X.K=K):y8 X (.builtin "isinstance") (zaD K):=by subst h;exact zaE
section
variable {K:W.Frag}
def zeK (n:String) (Ta:TEW):TEW:=fun ρ O R=>Ta ρ O fun x O1=>match x with
 |.d d=>okN n=true/\R (.d (.bool (isN d n))) O1
 |_=>False
theorem zcT {n:String}{ta:TE}{Ta:TEW}(h:zx K ta Ta):zx K (tCB (zaD K) (v0 ta (v0 (tC (.ty n)) ZF))) (zeK n Ta):=by
 intro Γ O H ρ σ S r Q R hT k
 refine h _ _ _ _ _ S r _ _ hT fun Γ1 O1 H1 x v l1 S1 rx h1=>?_
 cases x with
 |d d=>exact⟨d,v,n,rfl,Rep.same S1.z _ _ rx,h1.1,k _ _ _ _ _ l1 S1 xf h1.2⟩
 |own _=>exact h1.elim
 |row _ _=>exact h1.elim
def JH:TEW:=fun ρ O R=>R (.d (.dict [])) O
theorem JI:zx K Jf JH:=by
 intro Γ O H ρ σ S r Q R hT k p hp
 obtain⟨l,S'⟩:=S.newD hp (.dK [])
 exact k _ _ (upd H p (.dK [])) (.d (.dict [])) (.ref p) l S' (show Rep K _ (.dict []) (.ref p) from⟨rfl,p,rfl,.inl zA⟩) hT
def Xz:V->List V->Hp->VK->Prop:=jL
theorem Qa {X:Cx}:MtM X "list.append" Xz:=yL
noncomputable def zaF (O:OM) (o w:W):Option OM:=match o,w with
 |.own a,.own b=>match O b with
  |some (.lst us)=>match yh us with
   |some ds=>match del O b a with
    |some (.lst ws)=>if ws.length < 1000 then some (updO (del O b) a (.lst (ws ++ [.d (.list ds)]))) else none
    |_=>none
   |none=>none
  |_=>none
 |_,_=>none
def zbW:W->List W->OM->WK->Prop:=fun x ws O R=>∃ w O1,ws=[w]/\zaF O x w=some O1/\R (.d .none) O1
theorem zeL {T:String}:RefM K T Xz zbW:=by
 rintro Γ O H x v xs vs S rx rs Q R ⟨w,O1,rfl,e,h⟩ k
 cases rs with
 |cons rw t=>
  cases t
  rename_i u
  unfold zaF at e
  split at e
  ·rename_i a b
   cases (show v=.ref a from rx)
   cases (show u=.ref b from rw)
   split at e
   ·rename_i us hb
    split at e
    ·rename_i ds hd
     split at e
     ·rename_i ws ho
      split at e
      ·rename_i hl
       cases e
       rw [yE hd] at hb
       obtain⟨Γ1,l1,S1,r1⟩:=S.freeze hb
       obtain⟨_,us,q1,q2⟩:=S1.o _ _ ho
       refine⟨a,us,.ref b,rfl,rfl,q1,by rw [<- Paired.length q2];exact xZ (by omega),?_⟩
       exact k _ _ _ _ _ l1 (S1.put (oo:=.lst _) ho (by intro _ h;cases h) (by intro _ h;cases h) ⟨_,zA,Paired.appP q2 (.cons r1 .nil)⟩) uh h
      ·cases e
     ·cases e
    ·cases e
   ·cases e
  ·cases e
def Qb (K:W.Frag):R2:=fun x y H Q=>∃ l k xs,x=.ref l/\y=.int k/\SqL K H l xs/\-(2 ^ 63)≤k/\k < 2 ^ 63/\xs.length*k.toNat≤sizeLine/\
 ∀ p,H p=none->Q (.ref p) (upd H p (.lst (List.replicate k.toNat xs).flatten))
end
theorem zcU {X:Cx}:OpR X (binaryOp .Mult) (Qb X.K):=by
  intro pins s σ H x y v u Q I rx ry h
  obtain⟨l,k,xs,rfl,rfl,hH,h1,h2,hz,q⟩:=h
  cases rx
  obtain⟨t,rfl⟩:=ry
  obtain⟨its,r,⟨⟨oc,od,oda,osl⟩,n,e,c,d,dt⟩,hl⟩:=I.list hH
  simp only at c d dt
  subst c d dt
  have hl:xs.length=its.length:=r.length
  have hlen:its.toArray.size*k.toNat≤sizeLine:=by rw [List.size_toArray,<- hl];exact hz
  have hcap:¬ its.toArray.size*k.toNat > (2 ^ 63 - 1) / 8:=by
    have:(sizeLine:Nat)≤(2 ^ 63 - 1) / 8:=by decide
    omega
  have hfit:¬ (!Builtin.List.listFitsIndex k)=true:=by
    rw [fitsIndex_both h1 h2]
    exact Bool.false_ne_true
  have hlong:¬ Builtin.List.listTooLong (its.toArray.size*k.toNat)=true:=by
    rw [kj hlen]
    exact Bool.false_ne_true
  have hnew:List.foldl (fun x1 x2=>x1 ++ x2) #[] (List.replicate (if its.toArray.isEmpty=true then 0 else k.toNat) its.toArray)=(List.replicate k.toNat its).flatten.toArray:=by
    have f0:∀ m:Nat,List.foldl (fun x1 x2=>x1 ++ x2) #[] (List.replicate m its.toArray)=(List.replicate m its).flatten.toArray:=fun m=>by
      have:=jc its m []
      rw [List.nil_append] at this
      exact this
    rw [f0]
    cases its with
    |nil=>simp
    |cons a r'=>rw [if_neg (by simp)]
  refine wpAny_binaryOp_repeat_ref (T:="list") (U:="int") (by decide) ⟨_,e,rfl⟩ (fun s'=>typeIs_int s' k t) noFill_list_mul F.fills_int_mul F.slot_int_rmul repeat_list F.slot_int_index.lookup
    (call_meets F.slot_int_rmul (typeIs_int s k t) F.entry_int_rmul (F.args_int_rmul_2 _ _) (AutoListH.rmul_sl k t l its.toArray n osl)
      ⟨e,rfl,⟨_,e,rfl⟩,call_meets F.slot_list_mul ⟨_,e,rfl⟩ F.entry_list_mul (F.args_list_mul_2 _ _) (AutoListH.list_mul_sl l its.toArray n osl k t hfit hcap hlong) ⟨e,?_⟩⟩)
  rw [hnew]
  exact⟨.ref _,_,I.lnew (t':=s.toks) (r.rep k.toNat) (by rw [VQ,Nat.mul_comm];exact hz),rfl,q _ I.fresh⟩
theorem jS {X:Cx}{K:W.Frag}(h:X.K=K):OpR X (binaryOp .Mult) (Qb K):=by subst h;exact zcU
section
variable {K:W.Frag}
noncomputable def xV (n:Int) (ds:List PyData):List PyData:=(List.replicate n.toNat ds).flatten
def zbX:R2W:=fun x y O R=>∃ ds n,qB O x=some ds/\xn x=none/\y=.d (.int n)/\0≤n/\n≤1000/\ds.length*n.toNat≤100000/\R (.d (.list (xV n ds))) O
theorem zeM:RefR K (Qb K) zbX:=by
 rintro Γ O H x y v u S rx ry Q R ⟨ds,n,e,et,rfl,n0,n1,hl,h⟩ k
 unfold qB at e
 rw [et] at e
 simp only at e
 cases hL:zD O x with
 |none=>rw [hL] at e;cases e
 |some ws=>
  rw [hL] at e
  obtain⟨a,vs,rfl,q1,q2⟩:=yy S rx hL
  rw [yE (show yh ws=some ds from e)] at q2
  have q3:=zK q2
  refine⟨a,n,vs,rfl,ry,q1,by omega,by omega,by rw [<- Reps.length q3,sizeLine_eq];omega,fun p hp=>?_⟩
  obtain⟨Γ',le,S',r'⟩:=ql S (kq q3 n.toNat) hp
  exact k _ _ _ _ _ le S' r' h
def zeN:List V->Hp->VK->Prop:=fun xs H Q=>∃ x,xs=[.str x]/\x.length= 1/\Q (.int (x.cps.getD 0 0:Nat)) H
def zeO:List W->OM->WK->Prop:=fun xs O R=>∃ z:Str,xs=[.d (.str z)]/\z.length= 1/\R (.d (.int (z.cps.getD 0 0:Nat))) O
theorem zfT:RefC K zeN zeO:=by
 rintro Γ O H xs vs S rs Q R ⟨z,rfl,e,h⟩ k
 cases rs with
 |cons rx t=>
  cases t
  exact⟨z,by rw [show _=V.str z from rx],e,k _ _ _ _ _ (Le.refl _) S xN h⟩
end
theorem JJ {X:Cx}:y8 X (.builtin "ord") zeN:=KM
def zcV (K:W.Frag):V->List V->Hp->VK->Prop:=fun x vs H Q=>∃ l,∃ bs:List Bool,x=.ref l/\vs=[.bl true]/\SqL K H l (bs.map V.bl)/\Q (.int (bs.countP id:Nat)) H
def zcW (K:W.Frag):V->List V->Hp->VK->Prop:=fun x vs H Q=>∃ l,∃ bs:List Bool,∃ j,x=.ref l/\vs=[.bl true]/\SqL K H l (bs.map V.bl)/\bs[j]? =some true/\(∀ i,i < j->bs[i]? =some false)/\j < 1000/\Q (.int (j:Nat)) H
end L2
namespace PySem.MeetsSeq2
open AutoSeq1 (wpAny_loadPart')
open MeetsSeq
theorem ku {M:Model}{A:Around}{E:Value->Shared->Prop}{s:Shared}{β:Type}(f:Nat->β->Sem (ForInStep β)) (I:List Nat->β->Shared->Prop) (Q:β->Shared->Prop)
  (turn:∀ x z0 b s,I (x :: z0) b s->wpAny M A (f x b) (fun r s'=>match r with |.yield b'=>I z0 b' s' |.done b'=>Q b' s') E s)
  (fin:∀ b s,I [] b s->Q b s) (n:Nat) (b:β) (h:I (List.range' 0 n) b s):wpAny M A (forIn [:n] b f) Q E s:=by
 rw [Std.Legacy.Range.forIn_eq_forIn_range']
 simp only [Std.Legacy.Range.size,Nat.sub_zero,Nat.add_sub_cancel,Nat.div_one]
 exact wpAny_forIn_list f I Q turn fin _ b h
theorem tuple_index_sl (l:Addr) (items:Array Value) (n:Nat) (dd:Option Addr) (sl:Array (Option Value)) (x:Value) (e:Value->Bool) (he:∀ y,y∈items->EqGives y x (e y)) (j:Nat) (hj:j < items.size) (hit:e items[j]=true) (hno:∀ m (hm:m < items.size),m < j->e items[m]=false) :
  Meets (Builtin.«tuple.index» ⟨[.ref l,x],[]⟩)
   (fun _ R s=>s.heap.get? l=some { cls:=.type "tuple",dict:=dd,data:=.seq items n,slots:=sl }/\R (.ok (.ret (.int j s.toks))) { s with toks:=s.toks+1 }):=
 .of_wp fun prog w A R s h=>by
  obtain⟨hp,g,d,tk,os⟩:=s;obtain⟨hl,h⟩:=h
  wp_walk using wpAny_loadPart' hl,ku _ (fun z0 b s'=>b.1=none/\s'=⟨hp,g,d,tk,os⟩/\∃ i,i≤j/\z0=List.range' i (items.size - i)) _
  case turn=>
   rintro m z0 b s' ⟨hb,rfl,i,hij,hr⟩
   have hlt:i < items.size:=by omega
   obtain⟨rfl,hrest⟩:m=i/\z0=List.range' (i+1) (items.size - (i+1)):=by
    have e:items.size - i=(items.size - (i+1))+1:=by omega
    rw [e,List.range'_succ] at hr
    injection hr with h1 h2
    exact⟨h1,h2⟩
   rw [Array.getElem?_eq_getElem hlt]
   refine wpAny_bind (he _ (Array.getElem_mem hlt) prog w _ _ _ _ ?_)
   by_cases hmj:m=j
   ·subst hmj
    rw [hit,if_pos rfl]
    wp_walk
    exact⟨_,rfl,h⟩
   ·rw [hno m hlt (by omega),if_neg (by decide)]
    exact wpAny_pure ⟨rfl,rfl,m+1,by omega,hrest⟩
  case fin=>
   rintro b s' ⟨hb,rfl,i,hij,hr⟩
   have e:items.size - i=(items.size - (i+1))+1:=by omega
   rw [e,List.range'_succ] at hr
   cases hr
  case h=>
   exact⟨rfl,rfl,0,Nat.zero_le _,by simp⟩
end PySem.MeetsSeq2
namespace L2
open PySem PySem.Spec PyProof.Rows
noncomputable abbrev DSp (kvs:List (Str×Value)) (D:List (Str×Int)):Prop:=Paired (fun (p:Str×Value) (q:Str×Int)=>p.1=q.1/\∃ t,p.2=.int q.2 t) kvs D
structure DS (P:Program) (w:World) (K:W.Frag) (a:Addr) (D:List (Str×Int)):Prop where
 ns:(a == sysModules)=false
 ex:∃ (kvs:List (Str×Value)) (ep:Nat),(∀ h:Heap,K.In h->h.DictAt (strKind P w) a kvs ep)/\DSp kvs D
theorem XA:∀ {kvs:List (Str×Value)}{D:List (Str×Int)},PyProof.V.FlatPairs PyData.str kvs ((D.map fun p=>(p.1,PyData.int p.2)).map fun p=>(PyData.str p.1,p.2))->DSp kvs D
 |_,[],h=>by
  cases h
  exact .nil
 |_,(y,i) :: D,h=>by
  simp only [List.map_cons] at h
  cases h with
  |cons hf ht=>
   refine .cons ⟨rfl,?_⟩ (XA ht)
   cases hf (default:Heap) with
   |int _ t=>exact⟨t,rfl⟩
theorem DS.of {P:Program}{w:World}{K:W.Frag}{a:Addr}{D:List (Str×Int)}(hl:KTD.tabLook KTD.flatLooks (fun b=>K.lookup b) a (D.map fun p=>(p.1,PyData.int p.2))=true)
  (hn:((D.map fun p=>(p.1,PyData.int p.2)).map (·.1)).Nodup) (hh:KTD.hashesOf (fun b=>K.lookup b) a=(D.map fun p=>(p.1,PyData.int p.2)).map fun p=>(strKind P w).hash p.1):DS P w K a D:=by
 simp only [KTD.tabLook,Bool.and_eq_true] at hl
 obtain⟨h0,hl⟩:=hl
 split at hl
 ·rename_i o ho
  simp only [Bool.and_eq_true] at hl
  obtain⟨⟨⟨e1,e2⟩,e3⟩,e4⟩:=hl
  split at e4
  ·rename_i es ep hd
   have hh':es.toList.map (·.hash)=(D.map fun p=>(p.1,PyData.int p.2)).map fun p=>(strKind P w).hash p.1:=by
    rw [<- hh];unfold KTD.hashesOf;simp only [ho,hd]
   obtain⟨hk,kvs,hp,hf,hm⟩:=KTD.strs_of_rows P w (KTD.rows_of_look (fun _ _ x=>KTD.flat_of_looks x) e4) hh'
   exact⟨by simpa using h0,kvs,ep,fun h X=>⟨o,es,X _ _ ho,⟨beq_iff_eq.mp e1,by simpa using e2,by simpa using e3⟩,hd,fun e he=>hk e (by simpa using he),hp,by rw [hm];exact hn⟩,XA hf⟩
  ·cases e4
 ·cases hl
noncomputable def xU (D:List (Str×Int)) (k:Str):Option Int:=match D with
 |[]=>none
 | (i,d) :: r=>if i=k then some d else xU r k
theorem V5:∀ {kvs:List (Str×Value)}{D:List (Str×Int)}(k:Str),DSp kvs D->(∃ t i,xU D k=some i/\valueAt kvs k=some (.int i t))\/(xU D k=none/\valueAt kvs k=none)
 |[],_,k,h=>by
  cases h
  exact .inr ⟨rfl,rfl⟩
 | (x,v) :: kvs,_,k,h=>by
  cases h with
  |cons a b=>
   rename_i q D
   obtain⟨y,i⟩:=q
   obtain⟨e1,t,e2⟩:=a
   simp only at e1 e2
   subst e1 e2
   by_cases hk:x=k
   ·exact .inl ⟨t,i,by simp [xU,hk],by simp [valueAt,hk]⟩
   ·have:=V5 k b
    rcases this with⟨t',i',q1,q2⟩ | ⟨q1,q2⟩
    ·exact .inl ⟨t',i',by simp [xU,hk,q1],by simpa [valueAt,hk] using q2⟩
    ·exact .inr ⟨by simp [xU,hk,q1],by simpa [valueAt,hk] using q2⟩
def Qc (P:Program) (w:World) (K:W.Frag) (to:TE) (t:TA):TE:=fun σ H Q=>to σ H fun x H1=>∃ a D,x=.ref a/\DS P w K a D/\t σ H1 fun xs H2=>∃ z d,xs=[.str z,.int d]/\Q (.int ((xU D z).getD d)) H2
theorem zcX {X:Cx}{o e:Expr}{es:List Expr}{to:TE}{t:TA}{apos cpos:Pos}(ho:PE X o to) (ha:PA X (e :: es) t)
    (hbase:attributeBase o "get" X.env (eval o X.env)=eval o X.env:=by rfl)
    (hfew:((backTo cpos (starEach (e :: es) X.env)).all (fun x=>!x.1) && (backToKw cpos (keywordEach [] X.env)).all (fun x=>x.1.isSome)
      && decide ((e :: es).length+([]:List Keyword).length+(if ([]:List Keyword).isEmpty then 0 else 1) < 30))=true:=by rfl)
    (hline:(apos.endLine == cpos.line)=true:=by rfl) (hs:starEach (e :: es) X.env=(false,eval e X.env) :: starEach es X.env:=by rfl) (hplain:(backTo cpos (starEach es X.env)).any (·.1)=false:=by rfl) :
    PE X (.Call (.Attribute o "get" apos) (e :: es) [] cpos) (Qc X.prog X.w X.K to t):=by
  intro pins s σ H Q I h
  refine wpAny_Call_method_late hbase hfew hline rfl (thn (ho pins s σ H _ I h) fun v s1 ⟨x,H1,I1,r1,a,D,ex,hD,q1⟩=>?_)
  subst ex
  cases r1
  obtain⟨kvs,ep,hat,hp⟩:=hD.ex
  obtain⟨ob,bs,hob,hc,_⟩:=hat s1.heap I1.kIn
  refine⟨"dict","dict.get",PySem.F.plainAttrs_dict,PySem.F.slot_dict_get,PySem.F.type_dict_get,⟨ob,hob,hc.1⟩,fun b e=>by injection e with e;subst e;exact⟨ob,hob,hc.2.1⟩,?_⟩
  have hA:=ha cpos pins s1 σ H1 _ I1 q1
  rw [hs] at hA ⊢
  refine Calls.callWith_builtin (by show (false || (backTo cpos (starEach es X.env)).any (·.1))=false;rw [hplain] <;> rfl) (Calls.evalArgs_plain ?_)
  refine thn hA fun us s2 ⟨vs,H2,I2,r2,z,d,ev,q2⟩=>?_
  subst ev
  obtain⟨u1,u2,rfl,h1,h2⟩:=r2.two
  obtain⟨t1,rfl⟩:=h1
  obtain⟨t2,rfl⟩:=h2
  have dd:=hat s2.heap I2.kIn
  have dof:s2.heap.DictOf (strKind X.prog X.w) a kvs:=by
    obtain⟨o,es,q⟩:=dd
    exact⟨o,es,ep,q⟩
  refine call_meetsIn PySem.F.slot_dict_get dof.typeIs PySem.F.entry_dict_get (PySem.F.args_dict_get_3 _ _ _) (meets_dict_get_default (knd:=strKind X.prog X.w) (d:=a) (k:=z) (strKind_is X.prog X.w z t1) hD.ns (.int d t2)) ⟨_,dof.mapOf,?_⟩
  rcases V5 z hp with⟨t',i,e1,e2⟩ | ⟨e1,e2⟩
  · rw [e1] at q2
    exact⟨.int i,H2,I2.tok _,⟨t',by show Option.getD (valueAt kvs z) _=_;rw [e2];rfl⟩,q2⟩
  · rw [e1] at q2
    exact⟨.int d,H2,I2.tok _,⟨t2,by show Option.getD (valueAt kvs z) _=_;rw [e2];rfl⟩,q2⟩
noncomputable def Iti (D:List (Str×Int)):It:=
  ⟨fun i _=>i < D.length,
   fun i H v H'=>∃ t p,v=.ref t/\H t=none/\D[i]? =some p/\H'=upd H t (.tup [.str p.1,.int p.2]),
   fun i _=>D.length≤i⟩
theorem Qd {P:Program}{w:World}{K:W.Frag}{es:List Expr}{k:Nat}{pos:Pos}{a n ep:Nat}{D:List (Str×Int)}{kvs:List (Str×Value)}(hat:∀ h:Heap,K.In h->h.DictAt (strKind P w) a kvs ep) (hp:DSp kvs D) :
    Turn P w K (.Tuple es k pos) (Iti D) [n] n (fun i h=>∃ ok ov,IsItemIter h n a i kvs.length ep ok ov) where
  mem:=by simp
  obj:=fun i h st c hc=>by
    obtain⟨ok,ov,hz⟩:=st
    cases List.mem_singleton.1 hc
    exact⟨_,hz,fun v z=>by
      have z':Data.fields _=Data.cell v:=z
      cases z'⟩
  keep:=fun i h h' st k=>by
    obtain⟨ok,ov,hz⟩:=st
    exact⟨ok,ov,k _ (by simp) _ hz⟩
  item:=by
    intro X hP hw hK hc i pins s σ H E I hf st hg
    subst hP hw hK
    obtain⟨ok,ov,hz⟩:=st
    have hg':i < D.length:=hg
    obtain⟨q,hq,e1,t,e2⟩:=Paired.getQ hp (List.getElem?_eq_getElem hg')
    obtain⟨qk,qv⟩:=q
    simp only at e1 e2
    subst e2
    have hm:=hat s.heap I.kIn
    refine wpAny_pyNext_items_item hz hm hq fun key h' hkey hz' hp' hsz kk=>?_
    obtain⟨tk,rfl⟩:=Value.isStrOf_shape hkey
    refine⟨_,rfl,wpAny_letOwnedTupleGo_items hz' fun h3 z3 sb=>?_⟩
    have hn:=I.hok.fresh (Nat.le_refl s.heap.objs.size)
    have I1:Inv X pins σ (upd H s.heap.objs.size (.tup [.str qk,.int D[i].2])) { s with heap:=s.heap.push { cls:=.type "tuple",data:=.seq [Value.str qk tk,Value.int D[i].2 t].toArray },toks:=s.toks }:=
      I.laid (t':=s.toks) (fun b o e=>Heap.get?_push_of_some _ e) (Nat.le_refl _) ⟨by show 2≤sizeLine;decide,[Value.str qk tk,Value.int D[i].2 t],.cons ⟨tk,rfl⟩ (.cons ⟨t,rfl⟩ .nil),IsTup.new s.heap _⟩
    have ln:n≠s.heap.objs.size:=Nat.ne_of_lt (Heap.lt_size hz)
    have I2:=I1.turnedL (h':=h3) (t':=s.toks) (fp:=[n]) (fun c o hc q=>by
      have c0:c≠n:=fun z=>hc (by simp [z])
      by_cases hcz:c=s.heap.objs.size
      · subst hcz
        have q':(s.heap.push { cls:=.type "tuple",data:=.seq #[Value.str qk tk,Value.int D[i].2 t] }).get? s.heap.objs.size=some o:=q
        rw [Heap.get?_push_size s.heap (o:={ cls:=.type "tuple",data:=.seq #[Value.str qk tk,Value.int D[i].2 t] }) rfl] at q'
        exact (sb.2 _ c0).trans (hp'.trans q')
      · have q':(s.heap.push { cls:=.type "tuple",data:=.seq #[Value.str qk tk,Value.int D[i].2 t] }).get? c=some o:=q
        rw [Heap.get?_push_ne _ _ _ hcz] at q'
        exact (sb.2 c c0).trans (kk c o c0 q')) fun c hc=>by
          cases List.mem_singleton.1 hc
          exact⟨by rw [zg ln];exact (hf n (by simp)).1,(hf n (by simp)).2⟩
    refine⟨.ref s.heap.objs.size,_,I2,rfl,⟨_,D[i],rfl,hn,List.getElem?_eq_getElem hg',by rw [e1]⟩,⟨_,_,z3⟩,fun c hc=>by
      cases List.mem_singleton.1 hc
      rw [zg ln]
      exact (hf n (by simp)).1⟩
  done:=by
    intro X hP hw hK hc i pins s σ H E I hf st hg
    subst hP hw hK
    obtain⟨ok,ov,hz⟩:=st
    have hg':D.length≤i:=hg
    have hm:=hat s.heap I.kIn
    refine wpAny_pyNext_items_end (I.ok.hd hc) hz hm (List.getElem?_eq_none (by rw [Paired.length hp];exact hg')) fun h' kk=>⟨rfl,I.turnedL (t':=s.toks) (fp:=[n]) (fun c o hc e=>kk c o (fun z=>hc (by simp [z])) e) hf⟩
  self:=fun _ _ _ _ _ st h=>by
    obtain⟨ok,ov,hz⟩:=st
    exact PySem.W.kcp_self hz h
def XB (P:Program) (w:World) (K:W.Frag) (to:TE):TI:=fun σ H R=>to σ H fun x H1=>∃ a D,x=.ref a/\DS P w K a D/\R (Iti D) H1
theorem zaG {X:Cx}{es:List Expr}{k:Nat}{tp:Pos}{o:Expr}{to:TE}{apos cpos:Pos}(ho:PE X o to) (hbase:attributeBase o "items" X.env (eval o X.env)=eval o X.env:=by rfl) (hline:(apos.endLine == cpos.line)=true:=by rfl) :
  PI X (.Tuple es k tp) (.Call (.Attribute o "items" apos) [] [] cpos) (XB X.prog X.w X.K to):=by
 intro pins s σ H R I h
 refine wpAny_Call_method0_late hbase hline (thn (ho pins s σ H _ I h) fun v s1 ⟨x,H1,I1,r1,a,D,ex,hD,q⟩=>?_)
 subst ex
 cases r1
 obtain⟨kvs,ep,hat,hp⟩:=hD.ex
 have dd:=hat s1.heap I1.kIn
 obtain⟨ob,bs,hob,hc,hrest⟩:=id dd
 have dof:s1.heap.DictOf (strKind X.prog X.w) a kvs:=⟨ob,bs,ep,hob,hc,hrest⟩
 refine⟨"dict","dict.items",PySem.F.plainAttrs_dict,PySem.F.slot_dict_items,PySem.F.type_dict_items,⟨ob,hob,hc.1⟩,fun b e=>by injection e with e;subst e;exact⟨ob,hob,hc.2.1⟩,Calls.callWith_builtin rfl (PySem.evalArgs_none ?_)⟩
 refine call_meetsIn PySem.F.slot_dict_items dof.typeIs PySem.F.entry_dict_items (PySem.F.args_dict_items_1 _) (meets_dict_items (strKind X.prog X.w) a hD.ns) ⟨⟨kvs,dof⟩,?_⟩
 have hv:(s1.heap.push { cls:=.type "dict_items",data:=.fields #[.ref a] }).IsItemsView s1.heap.objs.size a:=⟨_,Heap.get?_push_size _ rfl,rfl,rfl⟩
 have k1:∀ b o,s1.heap.get? b=some o->(s1.heap.push { cls:=.type "dict_items",data:=.fields #[.ref a] }).get? b=some o:=fun b o e=>Heap.get?_push_of_some _ e
 have I2:Inv X pins σ H1 { s1 with heap:=s1.heap.push { cls:=.type "dict_items",data:=.fields #[.ref a] } }:=I1.kept (t':=s1.toks) k1
 refine wpAny_pyIter_items (knd:=strKind X.prog X.w) hv (hat _ I2.kIn) ?_
 refine⟨_,[(s1.heap.push { cls:=.type "dict_items",data:=.fields #[.ref a] }).objs.size],_,_,H1,rfl,I2.kept (t':=s1.toks) fun b o e=>Heap.get?_push_of_some _ e,Qd (ep:=ep) hat hp,⟨.none,.none,Heap.get?_push_size _ rfl⟩,fun c hc=>?_,q⟩
 cases List.mem_singleton.1 hc
 exact I2.fpOk (Nat.le_refl _) (I2.hok.fresh (Nat.le_refl _))
section
variable {K:W.Frag}{P:Program}{w:World}
def JK (P:Program) (w:World) (K:W.Frag) (To:TEW):TIW:=fun ρ O R=>To ρ O fun x O1=>∃ a D,x=.own a/\DS P w K a D/\R (D.map fun p=>W.d (.tuple [.str p.1,.int p.2])) (fun _=>True) O1
theorem Qe {to:TE}{To:TEW}(h:zx K to To):uA K (XB P w K to) (JK P w K To):=by
 intro Γ O H ρ σ S r Q R hT k
 refine h _ _ _ _ _ S r _ _ hT fun Γ1 O1 H1 x v l1 S1 r1 h1=>?_
 obtain⟨a,D,rfl,hD,h1⟩:=h1
 refine⟨a,D,r1,hD,k _ _ _ _ _ _ l1 S1 (fun i Γ' O' H' hz hg S' e'=>⟨fun w' hw=>?_,fun hi=>?_⟩) h1⟩
 ·rw [List.getElem?_map] at hw
  cases hd:D[i]? with
  |none=>rw [hd] at hw;cases hw
  |some p=>
   rw [hd] at hw
   cases hw
   refine⟨(List.getElem?_eq_some_iff.mp hd).1,fun y H2 ⟨t,p',e1,e2,e3,e4⟩=>?_⟩
   rw [hd] at e3
   cases e3
   subst e1 e4
   obtain⟨Γ2,l2,S2,r2⟩:=jd S' (ds:=[.str p.1,.int p.2]) (vs:=[.str p.1,.int p.2]) ⟨_,_,rfl,rfl,_,_,rfl,rfl,rfl⟩ e2
   exact⟨Γ2,l2,S2,r2⟩
 ·show D.length≤i
  rw [hi,List.length_map]
  exact Nat.le_refl _
def zbY (P:Program) (w:World) (K:W.Frag) (To:TEW) (T:TAW):TEW:=fun ρ O R=>To ρ O fun x O1=>∃ a D,x=.own a/\DS P w K a D/\T ρ O1 fun ws O2=>∃ z d,ws=[.d (.str z),.d (.int d)]/\R (.d (.int ((xU D z).getD d))) O2
theorem zaH {to:TE}{t:TA}{To:TEW}{T:TAW}(ho:zx K to To) (h:yU K t T):zx K (Qc P w K to t) (zbY P w K To T):=by
 intro Γ O H ρ σ S r Q R hT k
 refine ho _ _ _ _ _ S r _ _ hT fun Γ1 O1 H1 x v l1 S1 rx h1=>?_
 obtain⟨a,D,rfl,hd,h1⟩:=h1
 refine⟨a,D,rx,hd,h _ _ _ _ _ S1 (r.mono l1) _ _ h1 fun Γ2 O2 H2 ws vs l2 S2 rs h2=>?_⟩
 obtain⟨z,d,rfl,h2⟩:=h2
 cases rs with
 |cons rx t=>cases t with
  |cons ry t=>
   cases t
   exact⟨z,d,by rw [show _=V.str z from rx,show _=V.int d from ry],k _ _ _ _ _ (l1.trans l2) S2 xN h2⟩
theorem Zc {i:Int}(h0:0≤i) (h1:i≤1000000):i.natAbs.log2 < 1920:=by
 by_cases hz:i.natAbs= 0
 ·rw [hz]
  decide
 ·refine (Nat.log2_lt hz).2 ?_
  have:i.natAbs≤1000000:=by omega
  exact Nat.lt_of_le_of_lt this (Nat.lt_of_lt_of_le (show 1000000 < 2 ^ 20 by decide) (Nat.pow_le_pow_right (n:=2) (by decide) (show 20≤1920 by decide)))
def zbZ:List V->Hp->VK->Prop:=fun xs H Q=>∃ i,xs=[.int i]/\i.natAbs.log2 < 1920/\Q (.str (toString i)) H
def zb0:List W->OM->WK->Prop:=fun xs O R=>∃ i:Int,xs=[.d (.int i)]/\0≤i/\i≤1000000/\R (.d (.str (toString i))) O
theorem zeP:RefC K zbZ zb0:=by
 rintro Γ O H xs vs S rs Q R ⟨i,rfl,h0,h1,h⟩ k
 cases rs with
 |cons rx t=>
  cases t
  refine⟨i,by rw [show _=V.int i from rx],?_,k _ _ _ _ _ (Le.refl _) S xM h⟩
  exact Zc h0 h1
end
theorem vR {X:Cx}:y8 X (.type "str") zbZ:=Xg
def V6 (K:W.Frag):V->List V->Hp->VK->Prop:=fun x vs H Q=>∃ a,∃ ws:List Str,∃ z j,x=.ref a/\vs=[.str z]/\SqT K H a (ws.map V.str)/\ws[j]? =some z/\(∀ i,i < j->ws[i]?≠some z)/\Q (.int (j:Nat)) H
theorem qE:∀ {ws:List Str}{its:List Value},Vals (ws.map V.str) its->∀ (i:Nat) (z:Str),ws[i]? =some z->∃ t,its[i]? =some (Value.str z t)
 |[],_,_,i,z,e=>by cases e
 |w :: ws,_,.cons a t,i,z,e=>by
  cases i with
  |zero=>
   cases e
   obtain⟨t,rfl⟩:=a
   exact⟨t,rfl⟩
  |succ i=>exact qE t i z e
noncomputable def Qf (z:Str):Value->Bool
 |.str y _=>y == z
 |_=>false
theorem JL {X:Cx}:MtR X "tuple.index" (V6 X.K):=by
 intro pins s σ H x xs v us Q I rx r h
 obtain⟨a,ws,z,j,rfl,rfl,hq,hj,hno,q⟩:=h
 cases rx
 obtain⟨u,rfl,tz,rfl⟩:=vC r
 obtain⟨its,rv,⟨⟨oc,od,oda,osl⟩,e,c,n,dt⟩,_⟩:=I.tuple hq
 simp only at c dt
 subst c dt
 obtain⟨tj,hij⟩:=qE rv j z hj
 obtain⟨hlt,hv⟩:=List.getElem?_eq_some_iff.mp hij
 have hw:∀ (m:Nat) (hm:m < its.length),∃ y t,ws[m]? =some y/\its[m]=Value.str y t:=fun m hm=>by
  have hl:=rv.length
  rw [List.length_map] at hl
  have hm':m < ws.length:=by omega
  obtain⟨t,ht⟩:=qE rv m _ (List.getElem?_eq_getElem hm')
  exact⟨_,t,List.getElem?_eq_getElem hm',(List.getElem?_eq_some_iff.mp ht).2⟩
 refine call_meets F.slot_tuple_index ⟨_,e,rfl⟩ F.entry_tuple_index (F.args_tuple_index_2 _ _) (MeetsSeq2.tuple_index_sl a _ n od osl (.str z tz) (Qf z) (fun y hy=>?_) j (by simpa using hlt) (by simp [hv,Qf]) (fun m hm hmj=>?_)) ⟨e,?_⟩
 ·have hy':y∈its:=by simpa using hy
  obtain⟨m,hm,rfl⟩:=List.mem_iff_getElem.1 hy'
  obtain⟨y,t,_,e2⟩:=hw m hm
  rw [e2]
  exact PyProof.Rows.eqGives_str y z t tz
 ·obtain⟨y,t,e1,e2⟩:=hw m (by simpa using hm)
  have:=hno m hmj
  rw [e1] at this
  simp only [List.getElem_toArray,e2,Qf,beq_eq_false_iff_ne]
  exact fun e=>this (by rw [e])
 ·exact⟨.int (j:Nat),H,I.tok _,⟨_,rfl⟩,q⟩
section
variable {K:W.Frag}
end
noncomputable def ZS:V->Option Str
 |.str z=>if z.length≤1000 then some z else none
 |.int i=>if -1000000≤i/\i≤1000000 then some (toString i) else none
 |_=>none
def zeQ (ta:TE) (z:Str) (tb:TE):TE:=fun σ H Q=>ta σ H fun x H1=>∃ s1,ZS x=some s1/\s1.length≤1000/\tb σ H1 fun y H2=>∃ s2,ZS y=some s2/\s2.length≤1000/\Q (.str (((Str.empty ++ s1) ++ z) ++ s2)) H2
theorem JM {X:Cx}{pins:List (Addr×Obj)}{s:Shared}{σ:St}{H:Hp}{x:V}{v:Value}{y:Str}{Q:Value->Shared->Prop}(I:Inv X pins σ H s) (r:RelV x v) (e:ZS x=some y) (h:∀ t s',Inv X pins σ H s'->Q (.str y t) s'):wpAny (model X.prog X.w) X.A (formatField v Str.empty) Q X.xe s:=by
 cases x with
 |str z=>
  obtain⟨t,rfl⟩:=r
  simp only [ZS] at e
  split at e
  ·rename_i hz
   cases e
   exact formatField_str (fun t' tk=>h t' _ (I.tok tk)) (by rw [sizeLine_eq];omega)
  ·cases e
 |int i=>
  obtain⟨t,rfl⟩:=r
  simp only [ZS] at e
  split at e
  ·rename_i hz
   cases e
   exact formatField_int_small (by have e:=Zc (i:=(i.natAbs:Int)) (by omega) (by omega);rwa [Int.natAbs_natCast] at e) (h _ _ (I.tok _))
  ·cases e
 |_=>cases e
theorem JN {X:Cx}{a b:Expr}{z:Str}{k:Nat}{p1 p2 p3 pos:Pos}{ta tb:TE}(ha:PE X a ta) (hb:PE X b tb) (hz:z.length≤1000):PE X (.JoinedStr [.FormattedValue a (-1) none p1,.Constant (.str z) k p2,.FormattedValue b (-1) none p3] pos) (zeQ ta z tb):=by
 intro pins s σ H Q I h
 refine JoinedStr_many (joinParts_cons (FormattedValue_plain (thn (ha pins s σ H _ I h) fun v s1 ⟨x,H1,I1,r1,s1',e1,l1,q1⟩=>JM I1 r1 e1 fun t s2 I2=>?_)))
 have len:∀ a b:Str,(a ++ b).length=a.length+b.length:=strLen_append
 have le0:Str.empty.length= 0:=rfl
 refine⟨by rw [len,le0,sizeLine_eq];omega,?_⟩
 refine joinParts_cons (thn (zj (X:=X) (x:=z) pins s2 σ H1 (fun v H'=>v=.str z/\H'=H1) I2 ⟨rfl,rfl⟩) fun v s3 ⟨x',H',I3,r3,ex,eH⟩=>?_)
 subst ex eH
 obtain⟨t3,rfl⟩:=r3
 refine⟨by rw [len,len,le0,sizeLine_eq];omega,?_⟩
 refine joinParts_cons (FormattedValue_plain (thn (hb pins s3 σ H' _ I3 q1) fun v s4 ⟨y,H2,I4,r4,s2',e2,l2,q2⟩=>JM I4 r4 e2 fun t s5 I5=>?_))
 refine⟨by rw [len,len,len,le0,sizeLine_eq];omega,?_⟩
 exact joinParts_nil ⟨.str _,H2,I5.tok _,⟨_,rfl⟩,q2⟩ (by rw [len,len,len,le0,sizeLine_eq];omega)
section
variable {K:W.Frag}
noncomputable def Qg:W->Option Str
 |.d (.str z)=>if z.length≤1000 then some z else none
 |.d (.int i)=>if -1000000≤i/\i≤1000000 then some (toString i) else none
 |_=>none
theorem JO {Γ:Gh}{x:W}{v:V}{y:Str}(r:relW K Γ x v) (e:Qg x=some y):ZS v=some y:=by
 cases x with
 |d d=>
  cases d with
  |str z=>rw [show v=V.str z from r];exact e
  |int z=>rw [show v=V.int z from r];exact e
  |_=>cases e
 |own _=>cases e
 |row _ _=>cases e
def zaI (Ta:TEW) (z:Str) (Tb:TEW):TEW:=fun ρ O R=>Ta ρ O fun x O1=>∃ s1,Qg x=some s1/\s1.length≤1000/\Tb ρ O1 fun y O2=>∃ s2,Qg y=some s2/\s2.length≤1000/\R (.d (.str (((Str.empty ++ s1) ++ z) ++ s2))) O2
theorem zcY {ta tb:TE}{Ta Tb:TEW}{z:Str}(ha:zx K ta Ta) (hb:zx K tb Tb):zx K (zeQ ta z tb) (zaI Ta z Tb):=by
 intro Γ O H ρ σ S r Q R hT k
 refine ha _ _ _ _ _ S r _ _ hT fun Γ1 O1 H1 x v l1 S1 rx h1=>?_
 obtain⟨s1,e1,n1,h1⟩:=h1
 refine⟨s1,JO rx e1,n1,hb _ _ _ _ _ S1 (r.mono l1) _ _ h1 fun Γ2 O2 H2 y u l2 S2 ry h2=>?_⟩
 obtain⟨s2,e2,n2,h2⟩:=h2
 exact⟨s2,JO ry e2,n2,k _ _ _ _ _ (l1.trans l2) S2 xM h2⟩
end
end L2
namespace L2
open PySem PySem.W PySem.Spec PySem.Calls PyProof.Rows
section
variable {X:Cx}{K:W.Frag}{P:Program}{w:World}
theorem XD {o e:Expr}{es:List Expr}{to:TE}{t:TA}{apos cpos:Pos}(hK:X.K=K) (hP:X.prog=P) (hw:X.w=w) (ho:PE X o to) (ha:PA X (e :: es) t)
    (hbase:attributeBase o "get" X.env (eval o X.env)=eval o X.env:=by rfl)
    (hfew:((backTo cpos (starEach (e :: es) X.env)).all (fun x=>!x.1) && (backToKw cpos (keywordEach [] X.env)).all (fun x=>x.1.isSome)
      && decide ((e :: es).length+([]:List Keyword).length+(if ([]:List Keyword).isEmpty then 0 else 1) < 30))=true:=by rfl)
    (hline:(apos.endLine == cpos.line)=true:=by rfl) (hs:starEach (e :: es) X.env=(false,eval e X.env) :: starEach es X.env:=by rfl) (hplain:(backTo cpos (starEach es X.env)).any (·.1)=false:=by rfl) :
    PE X (.Call (.Attribute o "get" apos) (e :: es) [] cpos) (Qc P w K to t):=by subst hK hP hw;exact zcX ho ha hbase hfew hline hs hplain
theorem JP {es:List Expr}{k:Nat}{tp:Pos}{o:Expr}{to:TE}{apos cpos:Pos}(hK:X.K=K) (hP:X.prog=P) (hw:X.w=w) (ho:PE X o to) (hbase:attributeBase o "items" X.env (eval o X.env)=eval o X.env:=by rfl) (hline:(apos.endLine == cpos.line)=true:=by rfl) :
  PI X (.Tuple es k tp) (.Call (.Attribute o "items" apos) [] [] cpos) (XB P w K to):=by subst hK hP hw;exact zaG ho hbase hline
def tCD (v:V):TE:=tC v
theorem zfU {x:Str}{p:Pos}{a:Addr}(hg:Gl X x) (hm:X.mg x=some (.ref a)) (hdb:(x == ("__debug__":Str))=false:=by decide):PE X (.Name x p) (tCD (.ref a)):=xh (v:=.ref a) (u:=.ref a) hg hm rfl hdb
def wCD (K:W.Frag) (v:V):TEW:=fun _ O R=>∃ x,(∀ Z:Hp,Rep K Z x v)/\R (.d x) O
theorem zeR {v:V}:zx K (tCD v) (wCD K v):=by
 rintro Γ O H ρ σ S r Q R ⟨x,hx,hR⟩ k
 exact k _ _ _ _ _ (Le.refl _) S (zbt (hx _)) hR
def zb1 (K:W.Frag) (a:Addr) (t:TA):TE:=tBM K "tuple" (V6 K) (tC (.ref a)) t
theorem zcZ {x:Str}{p:Pos}{a:Addr}{e:Expr}{es:List Expr}{t:TA}{apos cpos:Pos}(hK:X.K=K) (hg:Gl X x) (hm:X.mg x=some (.ref a)) (ha:PA X (e :: es) t) (hdb:(x == ("__debug__":Str))=false:=by decide)
    (hbase:attributeBase (.Name x p) "index" X.env (eval (.Name x p) X.env)=eval (.Name x p) X.env:=by rfl)
    (hfew:((backTo cpos (starEach (e :: es) X.env)).all (fun x=>!x.1) && (backToKw cpos (keywordEach [] X.env)).all (fun x=>x.1.isSome)
      && decide ((e :: es).length+([]:List Keyword).length+(if ([]:List Keyword).isEmpty then 0 else 1) < 30))=true:=by rfl)
    (hline:(apos.endLine == cpos.line)=true:=by rfl) (hs:starEach (e :: es) X.env=(false,eval e X.env) :: starEach es X.env:=by rfl) (hplain:(backTo cpos (starEach es X.env)).any (·.1)=false:=by rfl) :
    PE X (.Call (.Attribute (.Name x p) "index" apos) (e :: es) [] cpos) (zb1 K a t):=by
  subst hK
  exact UV PySem.F.plainAttrs_tuple PySem.F.slot_tuple_index PySem.F.type_tuple_index JL (xh (v:=.ref a) (u:=.ref a) hg hm rfl hdb) ha hbase hfew hline hs hplain
def zb2 (K:W.Frag) (a:Addr) (T:TAW):TEW:=fun ρ O R=>(∃ o,K.lookup a=some o/\o.cls=.type "tuple"/\o.dict=none)/\T ρ O fun xs O1=>∃ ws:List Str,∃ z j,(∀ Z:Hp,SqT K Z a (ws.map V.str))/\xs=[.d (.str z)]/\ws[j]? =some z/\(∀ i,i < j->ws[i]?≠some z)/\R (.d (.int (j:Nat))) O1
theorem zaJ {a:Addr}{t:TA}{T:TAW}(h:yU K t T):zx K (zb1 K a t) (zb2 K a T):=by
 rintro Γ O H ρ σ S r Q R ⟨ho,hT⟩ k
 refine⟨.inr (.inl ⟨rfl,ho⟩),h _ _ _ _ _ S r _ _ hT fun Γ1 O1 H1 xs vs l1 S1 rs h1=>?_⟩
 obtain⟨ws,z,j,hq,rfl,hj,hno,h1⟩:=h1
 cases rs with
 |cons ry t=>
  cases t
  exact⟨a,ws,z,j,rfl,by rw [show _=V.str z from ry],hq _,hj,hno,k _ _ _ _ _ l1 S1 xN h1⟩
end
end L2
namespace L2
open PySem PySem.Spec PyProof.Rows
noncomputable def jnB:List (List Nat)->List Nat
 |[]=>[]
 |[a]=>a
 |a :: b :: r=>a ++ 32 :: jnB (b :: r)
theorem zb3:∀ {a b x y:List Nat},32 ∉ a->32 ∉ b->a ++ 32 :: x=b ++ 32 :: y->a=b/\x=y
 |[],[],x,y,_,_,e=>⟨rfl,by simpa using e⟩
 |[],c :: b,x,y,_,hb,e=>by
  simp at e
  exact absurd (by rw [<- e.1];exact List.mem_cons_self) hb
 |c :: a,[],x,y,ha,_,e=>by
  simp at e
  exact absurd (by rw [e.1];exact List.mem_cons_self) ha
 |c :: a,d :: b,x,y,ha,hb,e=>by
  simp at e
  obtain⟨h1,h2⟩:=zb3 (fun z=>ha (List.mem_cons_of_mem _ z)) (fun z=>hb (List.mem_cons_of_mem _ z)) e.2
  exact⟨by rw [e.1,h1],h2⟩
theorem V7:∀ {A B:List (List Nat)},A≠[]->B≠[]->(∀ a∈A,32 ∉ a)->(∀ b∈B,32 ∉ b)->jnB A=jnB B->A=B
 |[],_,h,_,_,_,_=>absurd rfl h
 |_,[],_,h,_,_,_=>absurd rfl h
 |[a],[b],_,_,_,_,e=>by rw [show a=b from e]
 |[a],b :: c :: s,_,_,ha,_,e=>by
  have e:a=b ++ 32 :: jnB (c :: s):=e
  exact absurd (by rw [e];simp) (ha a List.mem_cons_self)
 |a :: d :: r,[b],_,_,_,hb,e=>by
  have e:a ++ 32 :: jnB (d :: r)=b:=e
  exact absurd (by rw [<- e];simp) (hb b List.mem_cons_self)
 |a :: d :: r,b :: c :: s,_,_,ha,hb,e=>by
  have e:a ++ 32 :: jnB (d :: r)=b ++ 32 :: jnB (c :: s):=e
  obtain⟨h1,h2⟩:=zb3 (ha a List.mem_cons_self) (hb b List.mem_cons_self) e
  rw [h1,V7 (A:=d :: r) (B:=c :: s) (by simp) (by simp) (fun z hz=>ha z (List.mem_cons_of_mem _ hz)) (fun z hz=>hb z (List.mem_cons_of_mem _ hz)) h2]
noncomputable def sp1:Str:=Str.ofString " "
theorem JQ:sp1=⟨#[32]⟩:=by decide +kernel
theorem v8:∀ ps:List Str,(Str.join sp1 ps).cps.toList=jnB (ps.map (·.cps.toList))
 |[]=>rfl
 |[p]=>rfl
 |p :: q :: r=>by
  rw [join_cons_cons,zm,zm,v8 (q :: r)]
  have e:sp1.cps.toList=[32]:=by rw [JQ]
  have e2:jnB ((p :: q :: r).map (·.cps.toList))=p.cps.toList ++ 32 :: jnB ((q :: r).map (·.cps.toList)):=rfl
  rw [e,e2]
  simp
theorem uV {A B:List Str}(h:A.map (·.cps.toList)=B.map (·.cps.toList)):A=B:=by
 induction A generalizing B with
 |nil=>cases B with
  |nil=>rfl
  |cons _ _=>cases h
 |cons a A ih=>cases B with
  |nil=>cases h
  |cons b B=>
   simp only [List.map_cons,List.cons.injEq] at h
   rw [yG h.1,ih h.2]
theorem qS {ws:List Str}(hn:ws≠[]) (hf:∀ w∈ws,32 ∉ w.cps.toList):Txt.split (Str.join sp1 ws) sp1=ws:=by
 apply uV
 refine V7 ?_ (by simpa using hn) ?_ ?_ ?_
 ·have:=split_pos (Str.join sp1 ws) sp1
  intro e
  have:(Txt.split (Str.join sp1 ws) sp1).length= 0:=by simpa using congrArg List.length e
  omega
 ·intro a ha
  obtain⟨p,hp,rfl⟩:=List.mem_map.mp ha
  rw [JQ] at hp
  exact StrLaws.split_free _ 32 p hp
 ·intro a ha
  obtain⟨p,hp,rfl⟩:=List.mem_map.mp ha
  exact hf p hp
 ·rw [<- v8,<- v8,StrLaws.join_split]
theorem V8 (a b:Nat):Builtin.bitOr (a:Int) (b:Int)=((a ||| b:Nat):Int):=by
 have h1:¬ (0:Int)≤Builtin.bitNot (a:Int):=by unfold Builtin.bitNot;omega
 have h2:¬ (0:Int)≤Builtin.bitNot (b:Int):=by unfold Builtin.bitNot;omega
 have e:∀ x:Int,Builtin.bitNot (Builtin.bitNot x)=x:=fun x=>by unfold Builtin.bitNot;omega
 unfold Builtin.bitOr Builtin.bitAnd
 rw [decide_eq_false h1,decide_eq_false h2]
 simp only [e,Int.toNat_natCast]
theorem uB (a b:Nat):Builtin.bitAnd (a:Int) (b:Int)=((a &&& b:Nat):Int):=by
 unfold Builtin.bitAnd
 rw [decide_eq_true (Int.natCast_nonneg a),decide_eq_true (Int.natCast_nonneg b)]
 rfl
noncomputable def bitsD:List (Str×Int):=[(Str.ofString "bold",64),(Str.ofString "under",128),(Str.ofString "turned",256)]
noncomputable def stepsD:List (Str×Int):=[(Str.ofString "fore",1),(Str.ofString "back",8)]
noncomputable def figs:List Str:=[Str.ofString "0",Str.ofString "1",Str.ofString "2",Str.ofString "3",Str.ofString "4",Str.ofString "5",Str.ofString "6",Str.ofString "7"]
noncomputable def xC (w:Str):Nat:=if w=Str.ofString "bold" then 64 else if w=Str.ofString "under" then 128 else if w=Str.ofString "turned" then 256 else 0
noncomputable def va (w:Str):Nat:=if w=Str.ofString "fore" then 1 else if w=Str.ofString "back" then 8 else 0
theorem zc0 (w:Str):(xU bitsD w).getD 0 =(xC w:Nat):=by
 unfold xC bitsD
 simp only [xU]
 by_cases h1:Str.ofString "bold" =w
 ·rw [if_pos h1,if_pos h1.symm];rfl
 ·rw [if_neg h1,if_neg (Ne.symm h1)]
  by_cases h2:Str.ofString "under" =w
  ·rw [if_pos h2,if_pos h2.symm];rfl
  ·rw [if_neg h2,if_neg (Ne.symm h2)]
   by_cases h3:Str.ofString "turned" =w
   ·rw [if_pos h3,if_pos h3.symm];rfl
   ·rw [if_neg h3,if_neg (Ne.symm h3)];rfl
theorem zaK (w:Str):(xU stepsD w).getD 0 =(va w:Nat):=by
 unfold va stepsD
 simp only [xU]
 by_cases h1:Str.ofString "fore" =w
 ·rw [if_pos h1,if_pos h1.symm];rfl
 ·rw [if_neg h1,if_neg (Ne.symm h1)]
  by_cases h2:Str.ofString "back" =w
  ·rw [if_pos h2,if_pos h2.symm];rfl
  ·rw [if_neg h2,if_neg (Ne.symm h2)];rfl
noncomputable def xD (w:Str):Nat:=figs.findIdx (· == w)
noncomputable def xI (r:Nat×Str) (w:Str):Nat×Str:=(if w∈figs then (r.1 ||| xC w) ||| xD w*va r.2 else r.1 ||| xC w,w)
noncomputable def lik (ws:List Str):Nat:=(ws.foldl xI (0,Str.ofString "")).1
theorem zc1 (w:Str):xC w < 512:=by unfold xC;split <;> (try split) <;> (try split) <;> decide
theorem JR {w:Str}(h:w∈figs):xD w < 8:=List.findIdx_lt_length_of_exists ⟨w,h,by simp⟩
theorem zaL (w:Str):va w≤8:=by unfold va;split <;> (try split) <;> decide
theorem zc2 {r:Nat×Str}{w:Str}(h:r.1 < 512):(xI r w).1 < 512:=by
 unfold xI
 have h1:r.1 ||| xC w < 2 ^ 9:=Nat.or_lt_two_pow h (zc1 w)
 simp only
 split
 ·rename_i hf
  have h2:=JR hf
  have h3:=zaL r.2
  have h4:xD w*va r.2≤7*8:=Nat.mul_le_mul (by omega) h3
  exact Nat.or_lt_two_pow h1 (show xD w*va r.2 < 2 ^ 9 by omega)
 ·exact h1
theorem zeS (ws:List Str):lik ws < 512:=by
 unfold lik
 have key:∀ (ws:List Str) (r:Nat×Str),r.1 < 512->(ws.foldl xI r).1 < 512:=by
  intro ws
  induction ws with
  |nil=>exact fun _ h=>h
  |cons w ws ih=>exact fun r h=>ih _ (zc2 h)
 exact key ws _ (by decide)
noncomputable def ya:Str:=Str.ofString "bold"
noncomputable def yd:Str:=Str.ofString "under"
noncomputable def yf:Str:=Str.ofString "turned"
noncomputable def yb:Str:=Str.ofString "fore"
noncomputable def yt:Str:=Str.ofString "back"
noncomputable def fig (k:Nat):Str:=⟨#[48+k]⟩
noncomputable def bun (n:Nat):List (List Str):=(if n / 64%2 = 1 then [[ya]] else []) ++ (if n / 128%2 = 1 then [[yd]] else []) ++ (if n / 256%2 = 1 then [[yf]] else []) ++ (if n%8 = 0 then [] else [[yb,fig (n%8)]]) ++ (if n / 8%8 = 0 then [] else [[yt,fig (n / 8%8)]])
noncomputable def wl (n:Nat):List Str:=(bun n).flatten
noncomputable def inkT (n:Nat):Str:=if n= 0 then Str.ofString "plain" else Str.join sp1 ((bun n).map (Str.join sp1))
theorem jT (a b:Str) (r:List Str):Str.join sp1 (a :: b :: r)=a ++ sp1 ++ Str.join sp1 (b :: r):=rfl
theorem JS (a b c:Str):a ++ b ++ c=a ++ (b ++ c):=by
 apply yG
 rw [zm,zm,zm,zm,List.append_assoc]
theorem XE:∀ {A B:List Str},A≠[]->B≠[]->Str.join sp1 (A ++ B)=Str.join sp1 A ++ sp1 ++ Str.join sp1 B
 |[],_,h,_=>absurd rfl h
 |[a],b :: B,_,_=>by
  rw [List.singleton_append,jT]
  rfl
 |[a],[],_,h=>absurd rfl h
 |a :: c :: A,B,_,hB=>by
  rw [List.cons_append,List.cons_append,jT,<- List.cons_append,XE (A:=c :: A) (by simp) hB,jT]
  simp only [JS]
theorem XF:∀ {L:List (List Str)},(∀ l∈L,l≠[])->Str.join sp1 (L.map (Str.join sp1))=Str.join sp1 L.flatten
 |[],_=>rfl
 |[l],_=>by
  rw [List.map_singleton,List.flatten_singleton]
  rfl
 |l :: m :: L,h=>by
  have ih:=XF (L:=m :: L) fun x hx=>h x (List.mem_cons_of_mem _ hx)
  have e0:(l :: m :: L).flatten=l ++ (m :: L).flatten:=rfl
  have e1:(l :: m :: L).map (Str.join sp1)=Str.join sp1 l :: Str.join sp1 m :: L.map (Str.join sp1):=rfl
  rw [e0,e1,jT,show Str.join sp1 m :: L.map (Str.join sp1)=(m :: L).map (Str.join sp1) from rfl,ih,XE (h l List.mem_cons_self)]
  intro e
  have hm:=h m (by simp)
  simp only [List.flatten_cons,List.append_eq_nil_iff] at e
  exact hm e.1
theorem zeT (n:Nat):∀ l∈bun n,l≠[]:=by
 intro l hl
 unfold bun at hl
 simp only [List.mem_append] at hl
 rcases hl with (((hl |hl) |hl) |hl) |hl <;> split at hl <;> simp at hl <;> subst hl <;> simp
theorem Qh {n:Nat}(h0:n≠0) (h:n < 512):wl n≠[]:=by
 unfold wl bun
 intro e
 simp only [List.flatten_append,List.append_eq_nil_iff] at e
 obtain⟨⟨⟨⟨e1,e2⟩,e3⟩,e4⟩,e5⟩:=e
 have g1:n / 64%2≠1:=fun z=>by rw [if_pos z] at e1;simp at e1
 have g2:n / 128%2≠1:=fun z=>by rw [if_pos z] at e2;simp at e2
 have g3:n / 256%2≠1:=fun z=>by rw [if_pos z] at e3;simp at e3
 have g4:n%8 = 0:=Classical.byContradiction fun z=>by rw [if_neg z] at e4;simp at e4
 have g5:n / 8%8 = 0:=Classical.byContradiction fun z=>by rw [if_neg z] at e5;simp at e5
 omega
theorem V9 {n:Nat}(h0:n≠0):inkT n=Str.join sp1 (wl n):=by
 unfold inkT
 rw [if_neg h0,XF (zeT n)]
 rfl
theorem YD:(32 ∉ ya.cps.toList)/\(32 ∉ yd.cps.toList)/\(32 ∉ yf.cps.toList)/\(32 ∉ yb.cps.toList)/\(32 ∉ yt.cps.toList)/\32 ∉ (Str.ofString "plain").cps.toList:=by decide +kernel
theorem zc3 (n:Nat):∀ w∈wl n,32 ∉ w.cps.toList:=by
 intro w hw
 obtain⟨f1,f2,f3,f4,f5,_⟩:=YD
 have ff:∀ k,32 ∉ (fig k).cps.toList:=fun k m=>by
  have:32 = 48+k:=by simpa [fig] using m
  omega
 unfold wl at hw
 obtain⟨l,hl,hw⟩:=List.mem_flatten.1 hw
 unfold bun at hl
 simp only [List.mem_append] at hl
 rcases hl with (((hl |hl) |hl) |hl) |hl <;> split at hl <;> simp at hl <;> subst hl <;> simp at hw
 ·rw [hw];exact f1
 ·rw [hw];exact f2
 ·rw [hw];exact f3
 ·rcases hw with rfl |rfl
  ·exact f4
  ·exact ff _
 ·rcases hw with rfl |rfl
  ·exact f5
  ·exact ff _
theorem jj {n:Nat}(h0:n≠0) (h:n < 512):Txt.split (inkT n) sp1=wl n:=by
 rw [V9 h0]
 exact qS (Qh h0 h) (zc3 n)
theorem j6:Txt.split (Str.ofString "plain") sp1=[Str.ofString "plain"]:=by
 have:=qS (ws:=[Str.ofString "plain"]) (by simp) (fun w hw=>by cases List.mem_singleton.1 hw;exact YD.2.2.2.2.2)
 exact this
theorem Ua {k:Nat}(h:k < 8):fig k∈figs/\xD (fig k)=k/\xC (fig k)= 0:=by
 have:∀ k:_root_.Fin 8,fig k.val∈figs/\xD (fig k.val)=k.val/\xC (fig k.val)= 0:=by decide +kernel
 exact this ⟨k,h⟩
theorem qF:(ya ∉ figs/\xC ya= 64)/\(yd ∉ figs/\xC yd= 128)/\(yf ∉ figs/\xC yf= 256)/\(yb ∉ figs/\xC yb= 0/\va yb= 1)/\(yt ∉ figs/\xC yt= 0/\va yt= 8)/\(Str.ofString "plain" ∉ figs/\xC (Str.ofString "plain")= 0):=by decide +kernel
theorem ky {r:Nat}{a w:Str}(h:w ∉ figs):xI (r,a) w=(r ||| xC w,w):=by unfold xI;rw [if_neg h]
theorem zc4 {r k:Nat}{a:Str}(h:k < 8):xI (r,a) (fig k)=(r ||| k*va a,fig k):=by
 obtain⟨h1,h2,h3⟩:=Ua h
 unfold xI
 rw [if_pos h1,h2,h3,Nat.or_zero]
theorem zeU:∀ n:_root_.Fin 512,((((0 ||| (if n.val / 64%2 = 1 then 64 else 0)) ||| (if n.val / 128%2 = 1 then 128 else 0)) ||| (if n.val / 256%2 = 1 then 256 else 0)) ||| n.val%8) ||| n.val / 8%8*8 =n.val:=by decide +kernel
theorem ZT {r:Nat}{a:Str}{c:Prop} [Decidable c] {w:Str}(h:w ∉ figs):∃ b,((if c then [[w]] else []).flatten).foldl xI (r,a)=(r ||| (if c then xC w else 0),b):=by
 by_cases hc:c
 ·rw [if_pos hc,if_pos hc]
  exact⟨w,by simp [ky h]⟩
 ·rw [if_neg hc,if_neg hc]
  exact⟨a,by simp⟩
theorem Ub {r k:Nat}{a w:Str}(hk:k < 8) (h:w ∉ figs) (hb:xC w= 0):∃ b,((if k= 0 then [] else [[w,fig k]]).flatten).foldl xI (r,a)=(r ||| k*va w,b):=by
 by_cases hc:k= 0
 ·rw [if_pos hc]
  exact⟨a,by simp [hc]⟩
 ·rw [if_neg hc]
  exact⟨fig k,by simp [ky h,hb,zc4 hk]⟩
theorem zeV {n:Nat}(h:n < 512):lik (wl n)=n:=by
 obtain⟨⟨b1,b2⟩,⟨u1,u2⟩,⟨t1,t2⟩,⟨f1,f2,f3⟩,⟨k1,k2,k3⟩,_⟩:=qF
 unfold lik wl bun
 simp only [List.flatten_append,List.foldl_append]
 obtain⟨a1,e1⟩:=ZT (r:=0) (a:=Str.ofString "") (c:=n / 64%2 = 1) b1
 rw [e1,b2]
 obtain⟨a2,e2⟩:=ZT (r:=0 ||| (if n / 64%2 = 1 then 64 else 0)) (a:=a1) (c:=n / 128%2 = 1) u1
 rw [e2,u2]
 obtain⟨a3,e3⟩:=ZT (r:=(0 ||| (if n / 64%2 = 1 then 64 else 0)) ||| (if n / 128%2 = 1 then 128 else 0)) (a:=a2) (c:=n / 256%2 = 1) t1
 rw [e3,t2]
 obtain⟨a4,e4⟩:=Ub (r:=((0 ||| (if n / 64%2 = 1 then 64 else 0)) ||| (if n / 128%2 = 1 then 128 else 0)) ||| (if n / 256%2 = 1 then 256 else 0)) (a:=a3) (k:=n%8) (by omega) f1 f2
 rw [e4,f3,Nat.mul_one]
 obtain⟨a5,e5⟩:=Ub (r:=(((0 ||| (if n / 64%2 = 1 then 64 else 0)) ||| (if n / 128%2 = 1 then 128 else 0)) ||| (if n / 256%2 = 1 then 256 else 0)) ||| n%8) (a:=a4) (k:=n / 8%8) (by omega) k1 k2
 rw [e5,k3]
 exact zeU ⟨n,h⟩
theorem zc5 {n:Nat}(h:n < 512):lik (Txt.split (inkT n) sp1)=n:=by
 by_cases h0:n= 0
 ·subst h0
  have e:inkT 0 =Str.ofString "plain":=rfl
  rw [e,j6]
  unfold lik
  rw [List.foldl_cons,List.foldl_nil,ky qF.2.2.2.2.2.1,qF.2.2.2.2.2.2]
  rfl
 ·rw [jj h0 h,zeV h]
noncomputable def vp:List Str:=[Str.ofString "1",Str.ofString "2",Str.ofString "3",Str.ofString "4",Str.ofString "5",Str.ofString "6",Str.ofString "7"]
noncomputable def ym (ws:List Str) (m:Str) (v:Nat) (s:Nat×Nat):Nat×Nat:=if (ws.drop s.2).take 1 =[m] then (s.1+v,s.2+1) else s
noncomputable def uC (ws:List Str) (i:Nat):Str:=(((ws.drop (i+1)).take 1) ++ [Str.ofString ""]).headD (Str.ofString "")
noncomputable def vq (ws:List Str) (m:Str) (v:Nat) (s:Nat×Nat):Nat×Nat:=if (ws.drop s.2).take 1 =[m]/\uC ws s.2∈vp then (s.1+v*xD (uC ws s.2),s.2+2) else s
noncomputable def xu (ws:List Str):Nat×Nat:=vq ws yt 8 (vq ws yb 1 (ym ws yf 256 (ym ws yd 128 (ym ws ya 64 (0,0)))))
noncomputable def ZU (ws:List Str):Option Nat:=if (xu ws).2 = 0\/(xu ws).2 < ws.length then none else some (xu ws).1
noncomputable def lawInk (z:Str):Option Nat:=if z=Str.ofString "plain" then some 0 else ZU (Txt.split z sp1)
theorem ZV (ws:List Str) (m:Str) (v:Nat) (s:Nat×Nat):∃ b:Bool,ym ws m v s=(s.1+(if b then v else 0),s.2+(if b then 1 else 0))/\ws.drop s.2=(if b then [m] else []) ++ ws.drop (s.2+(if b then 1 else 0)):=by
 unfold ym
 by_cases h:(ws.drop s.2).take 1 =[m]
 ·refine⟨true,by rw [if_pos h];rfl,?_⟩
  have:=List.take_append_drop 1 (ws.drop s.2)
  rw [h,List.drop_drop] at this
  exact this.symm
 ·exact⟨false,by rw [if_neg h];rfl,rfl⟩
theorem zc6 {d:Str}(h:d∈vp):∃ k,1≤k/\k < 8/\d=fig k/\xD d=k:=by
 have:∀ d∈vp,d=fig (xD d)/\1≤xD d/\xD d < 8:=by decide +kernel
 obtain⟨h1,h2,h3⟩:=this d h
 exact⟨xD d,h2,h3,h1,rfl⟩
theorem Uc (ws:List Str) (m:Str) (v:Nat) (s:Nat×Nat):∃ k,k < 8/\vq ws m v s=(s.1+v*k,s.2+(if k= 0 then 0 else 2))/\ws.drop s.2=(if k= 0 then [] else [m,fig k]) ++ ws.drop (s.2+(if k= 0 then 0 else 2)):=by
 unfold vq
 by_cases h:(ws.drop s.2).take 1 =[m]/\uC ws s.2∈vp
 ·obtain⟨h1,h2⟩:=h
  obtain⟨k,k1,k2,k3,k4⟩:=zc6 h2
  have hk:k≠0:=by omega
  refine⟨k,k2,by rw [if_pos ⟨h1,h2⟩,k4,if_neg hk],?_⟩
  rw [if_neg hk,if_neg hk]
  have e1:=List.take_append_drop 1 (ws.drop s.2)
  rw [h1,List.drop_drop] at e1
  have e2:ws.drop (s.2+1)=fig k :: ws.drop (s.2+2):=by
   cases hd:ws.drop (s.2+1) with
   |nil=>
    unfold uC at k3
    rw [hd] at k3
    have:Str.ofString "" =fig k:=k3
    have:(Str.ofString "").cps.toList.length= 1:=by rw [this];rfl
    exact absurd this (by decide +kernel)
   |cons x r=>
    unfold uC at k3
    rw [hd] at k3
    have hx:x=fig k:=k3
    have hr:r=ws.drop (s.2+2):=by
     have:=congrArg (List.drop 1) hd
     rw [List.drop_drop] at this
     exact this.symm
    rw [hx,hr]
  rw [<- e1,e2]
  rfl
 ·exact⟨0,by decide,by rw [if_neg h];simp,rfl⟩
theorem JT {ws:List Str}{n:Nat}(h:ZU ws=some n):n≠0/\n < 512/\ws=wl n:=by
 unfold ZU at h
 split at h
 ·cases h
 ·rename_i hn
  cases h
  obtain⟨b1,e1,d1⟩:=ZV ws ya 64 (0,0)
  obtain⟨b2,e2,d2⟩:=ZV ws yd 128 (ym ws ya 64 (0,0))
  obtain⟨b3,e3,d3⟩:=ZV ws yf 256 (ym ws yd 128 (ym ws ya 64 (0,0)))
  obtain⟨f,f8,e4,d4⟩:=Uc ws yb 1 (ym ws yf 256 (ym ws yd 128 (ym ws ya 64 (0,0))))
  obtain⟨k,k8,e5,d5⟩:=Uc ws yt 8 (vq ws yb 1 (ym ws yf 256 (ym ws yd 128 (ym ws ya 64 (0,0)))))
  have hS:xu ws=vq ws yt 8 (vq ws yb 1 (ym ws yf 256 (ym ws yd 128 (ym ws ya 64 (0,0))))):=rfl
  rw [<- hS] at e5
  have hdrop:ws.drop (xu ws).2 =[]:=List.drop_eq_nil_of_le (by omega)
  have s5:(vq ws yb 1 (ym ws yf 256 (ym ws yd 128 (ym ws ya 64 (0,0))))).2+(if k= 0 then 0 else 2)=(xu ws).2:=by rw [e5]
  have s4:=congrArg Prod.snd e4
  have s3:=congrArg Prod.snd e3
  have s2:=congrArg Prod.snd e2
  have s1:=congrArg Prod.snd e1
  simp only at s1 s2 s3 s4
  rw [s5,hdrop] at d5
  rw [<- s4,d5] at d4
  rw [<- s3,d4] at d3
  rw [<- s2,d3] at d2
  rw [<- s1,d2] at d1
  have n5:=congrArg Prod.fst e5
  have n4:=congrArg Prod.fst e4
  have n3:=congrArg Prod.fst e3
  have n2:=congrArg Prod.fst e2
  have n1:=congrArg Prod.fst e1
  simp only at n1 n2 n3 n4 n5
  have hnum:(xu ws).1 =(if b1 then 64 else 0)+(if b2 then 128 else 0)+(if b3 then 256 else 0)+f+8*k:=by omega
  have hlen:(xu ws).2 =(if b1 then 1 else 0)+(if b2 then 1 else 0)+(if b3 then 1 else 0)+(if f= 0 then 0 else 2)+(if k= 0 then 0 else 2):=by omega
  have c1:((xu ws).1 / 64%2 = 1)=(b1=true):=by cases b1 <;> cases b2 <;> cases b3 <;> simp only [if_true,Bool.false_eq_true,if_false] at hnum <;> simp <;> omega
  have c2:((xu ws).1 / 128%2 = 1)=(b2=true):=by cases b1 <;> cases b2 <;> cases b3 <;> simp only [if_true,Bool.false_eq_true,if_false] at hnum <;> simp <;> omega
  have c3:((xu ws).1 / 256%2 = 1)=(b3=true):=by cases b1 <;> cases b2 <;> cases b3 <;> simp only [if_true,Bool.false_eq_true,if_false] at hnum <;> simp <;> omega
  have c4:(xu ws).1%8 =f:=by cases b1 <;> cases b2 <;> cases b3 <;> simp only [if_true,Bool.false_eq_true,if_false] at hnum <;> omega
  have c5:(xu ws).1 / 8%8 =k:=by cases b1 <;> cases b2 <;> cases b3 <;> simp only [if_true,Bool.false_eq_true,if_false] at hnum <;> omega
  refine⟨?_,?_,?_⟩
  ·intro z
   rw [z] at hnum
   cases b1 <;> cases b2 <;> cases b3 <;> simp only [if_true,Bool.false_eq_true,if_false] at hnum hlen <;> split at hlen <;> split at hlen <;> omega
  ·cases b1 <;> cases b2 <;> cases b3 <;> simp only [if_true,Bool.false_eq_true,if_false] at hnum <;> omega
  ·unfold wl bun
   simp only [c1,c2,c3,c4,c5]
   rw [show ws=ws.drop 0 from rfl,d1]
   cases b1 <;> cases b2 <;> cases b3 <;> by_cases hf:f= 0 <;> by_cases hk:k= 0 <;> simp [hf,hk]
theorem Vo {z:Str}{n:Nat}(h:lawInk z=some n):n < 512/\z=inkT n:=by
 unfold lawInk at h
 split at h
 ·rename_i e
  cases h
  exact⟨by decide,e⟩
 ·obtain⟨h0,h1,h2⟩:=JT h
  refine⟨h1,?_⟩
  rw [V9 h0,<- h2,StrLaws.join_split]
theorem ZW {ws z0:List Str}{m:Str}{v:Nat}{s:Nat×Nat}{c:Prop} [Decidable c] (h:ws.drop s.2=(if c then [m] else []) ++ z0) (hn:m ∉ z0):ym ws m v s=(s.1+(if c then v else 0),s.2+(if c then 1 else 0))/\ws.drop (s.2+(if c then 1 else 0))=z0:=by
 unfold ym
 by_cases hc:c
 ·simp only [if_pos hc] at h ⊢
  refine⟨by rw [if_pos (by rw [h];rfl)],?_⟩
  have:=congrArg (List.drop 1) h
  rw [List.drop_drop] at this
  exact this
 ·simp only [if_neg hc] at h ⊢
  refine⟨by
   rw [if_neg fun e=>hn ?_]
   ·rfl
   ·rw [h,List.nil_append] at e
    exact List.mem_of_mem_take (show m∈z0.take 1 by rw [e];simp),by simpa using h⟩
theorem zaM {k:Nat}(h1:1≤k) (h2:k < 8):fig k∈vp:=by
 have:∀ k:_root_.Fin 8,1≤k.val->fig k.val∈vp:=by decide +kernel
 exact this ⟨k,h2⟩ h1
theorem Ud {ws z0:List Str}{m:Str}{v k:Nat}{s:Nat×Nat}(hk:k < 8) (h:ws.drop s.2=(if k= 0 then [] else [m,fig k]) ++ z0) (hn:m ∉ z0):vq ws m v s=(s.1+v*k,s.2+(if k= 0 then 0 else 2))/\ws.drop (s.2+(if k= 0 then 0 else 2))=z0:=by
 unfold vq
 by_cases hc:k= 0
 ·simp only [if_pos hc] at h ⊢
  refine⟨by
   rw [if_neg fun e=>hn ?_]
   ·subst hc
    rfl
   ·have e1:=e.1
    rw [h,List.nil_append] at e1
    exact List.mem_of_mem_take (show m∈z0.take 1 by rw [e1];simp),by simpa using h⟩
 ·simp only [if_neg hc] at h ⊢
  have d1:ws.drop (s.2+1)=fig k :: z0:=by
   have:=congrArg (List.drop 1) h
   rw [List.drop_drop] at this
   exact this
  have hh:uC ws s.2=fig k:=by
   unfold uC
   rw [d1]
   rfl
  refine⟨by rw [if_pos ⟨by rw [h];rfl,by rw [hh];exact zaM (by omega) hk⟩,hh,(Ua hk).2.1],?_⟩
  have:=congrArg (List.drop 2) h
  rw [List.drop_drop] at this
  exact this
theorem JU:ya≠yd/\ya≠yf/\ya≠yb/\ya≠yt/\yd≠yf/\yd≠yb/\yd≠yt/\yf≠yb/\yf≠yt/\yb≠yt/\(∀ w∈[ya,yd,yf,yb,yt,Str.ofString "plain"],w.cps.toList.length≠1)/\(∀ w∈[ya,yd,yf,yb,yt],w≠Str.ofString "plain"):=by decide +kernel
theorem zc7 {n:Nat}(h0:n≠0) (h:n < 512):ZU (wl n)=some n:=by
 obtain⟨n1,n2,n3,n4,n5,n6,n7,n8,n9,n10,nl,_⟩:=JU
 have nf:∀ w∈[ya,yd,yf,yb,yt,Str.ofString "plain"],∀ k,w≠fig k:=fun w hw k e=>nl w hw (by rw [e];rfl)
 have hd:(wl n).drop 0 =(if n / 64%2 = 1 then [ya] else []) ++ ((if n / 128%2 = 1 then [yd] else []) ++ ((if n / 256%2 = 1 then [yf] else []) ++ ((if n%8 = 0 then [] else [yb,fig (n%8)]) ++ ((if n / 8%8 = 0 then [] else [yt,fig (n / 8%8)]) ++ [])))):=by
  unfold wl bun
  by_cases c1:n / 64%2 = 1 <;> by_cases c2:n / 128%2 = 1 <;> by_cases c3:n / 256%2 = 1 <;> by_cases c4:n%8 = 0 <;> by_cases c5:n / 8%8 = 0 <;> simp [c1,c2,c3,c4,c5]
 have m5:yt ∉ ([]:List Str):=by simp
 have m4:yb ∉ (if n / 8%8 = 0 then [] else [yt,fig (n / 8%8)]) ++ ([]:List Str):=by
  split <;> simp [n10,nf yb (by simp)]
 have m3:yf ∉ (if n%8 = 0 then [] else [yb,fig (n%8)]) ++ ((if n / 8%8 = 0 then [] else [yt,fig (n / 8%8)]) ++ ([]:List Str)):=by
  split <;> split <;> simp [n8,n9,nf yf (by simp)]
 have m2:yd ∉ (if n / 256%2 = 1 then [yf] else []) ++ ((if n%8 = 0 then [] else [yb,fig (n%8)]) ++ ((if n / 8%8 = 0 then [] else [yt,fig (n / 8%8)]) ++ ([]:List Str))):=by
  split <;> split <;> split <;> simp [n5,n6,n7,nf yd (by simp)]
 have m1:ya ∉ (if n / 128%2 = 1 then [yd] else []) ++ ((if n / 256%2 = 1 then [yf] else []) ++ ((if n%8 = 0 then [] else [yb,fig (n%8)]) ++ ((if n / 8%8 = 0 then [] else [yt,fig (n / 8%8)]) ++ ([]:List Str)))):=by
  split <;> split <;> split <;> split <;> simp [n1,n2,n3,n4,nf ya (by simp)]
 obtain⟨e1,d1⟩:=ZW (s:=(0,0)) (v:=64) hd m1
 obtain⟨e2,d2⟩:=ZW (s:=(0+(if n / 64%2 = 1 then 64 else 0),0+(if n / 64%2 = 1 then 1 else 0))) (v:=128) d1 m2
 obtain⟨e3,d3⟩:=ZW (v:=256) (s:=((0+(if n / 64%2 = 1 then 64 else 0))+(if n / 128%2 = 1 then 128 else 0),(0+(if n / 64%2 = 1 then 1 else 0))+(if n / 128%2 = 1 then 1 else 0))) d2 m3
 obtain⟨e4,d4⟩:=Ud (v:=1) (s:=(((0+(if n / 64%2 = 1 then 64 else 0))+(if n / 128%2 = 1 then 128 else 0))+(if n / 256%2 = 1 then 256 else 0),((0+(if n / 64%2 = 1 then 1 else 0))+(if n / 128%2 = 1 then 1 else 0))+(if n / 256%2 = 1 then 1 else 0))) (by omega) d3 m4
 obtain⟨e5,d5⟩:=Ud (v:=8) (s:=((((0+(if n / 64%2 = 1 then 64 else 0))+(if n / 128%2 = 1 then 128 else 0))+(if n / 256%2 = 1 then 256 else 0))+1*(n%8),(((0+(if n / 64%2 = 1 then 1 else 0))+(if n / 128%2 = 1 then 1 else 0))+(if n / 256%2 = 1 then 1 else 0))+(if n%8 = 0 then 0 else 2))) (by omega) d4 m5
 have hS:xu (wl n)=(((((0+(if n / 64%2 = 1 then 64 else 0))+(if n / 128%2 = 1 then 128 else 0))+(if n / 256%2 = 1 then 256 else 0))+1*(n%8))+8*(n / 8%8),((((0+(if n / 64%2 = 1 then 1 else 0))+(if n / 128%2 = 1 then 1 else 0))+(if n / 256%2 = 1 then 1 else 0))+(if n%8 = 0 then 0 else 2))+(if n / 8%8 = 0 then 0 else 2)):=by
  unfold xu
  rw [e1,e2,e3,e4,e5]
 have hnum:(xu (wl n)).1 =n:=by
  rw [hS]
  simp only
  split <;> split <;> split <;> omega
 have hlen:(wl n).length≤(xu (wl n)).2:=by
  rw [hS]
  exact List.drop_eq_nil_iff.1 d5
 have hpos:(xu (wl n)).2≠0:=by
  have:=Qh h0 h
  have:0 < (wl n).length:=List.length_pos_iff.2 this
  omega
 unfold ZU
 rw [if_neg (by omega),hnum]
theorem Qi {n:Nat}(h:n < 512):lawInk (inkT n)=some n:=by
 by_cases h0:n= 0
 ·subst h0
  rfl
 ·unfold lawInk
  rw [if_neg,jj h0 h,zc7 h0 h]
  intro e
  have e2:=jj h0 h
  rw [e,j6] at e2
  have hm:Str.ofString "plain"∈wl n:=by rw [<- e2];simp
  obtain⟨_,_,_,_,_,_,_,_,_,_,nl,np⟩:=JU
  unfold wl at hm
  obtain⟨l,hl,hw⟩:=List.mem_flatten.1 hm
  have nfp:∀ k,Str.ofString "plain"≠fig k:=fun k e=>nl (Str.ofString "plain") (by simp) (by rw [e];rfl)
  unfold bun at hl
  simp only [List.mem_append] at hl
  rcases hl with (((hl |hl) |hl) |hl) |hl <;> split at hl <;> simp at hl <;> subst hl <;> simp at hw
  ·exact np ya (by simp) hw.symm
  ·exact np yd (by simp) hw.symm
  ·exact np yf (by simp) hw.symm
  ·rcases hw with hw |hw
   ·exact np yb (by simp) hw.symm
   ·exact nfp _ hw
  ·rcases hw with hw |hw
   ·exact np yt (by simp) hw.symm
   ·exact nfp _ hw
end L2
namespace PySem
open Sem (wp)
noncomputable abbrev yD (h:Heap) (z TI TO:Addr) (f0:Value) (f1:Bool):Prop:=
 h.get? z=some { cls:=.type "zip",dict:=none,data:=.fields #[f0,.bool f1,.bool false,.ref TI,.ref TO],slots:=#[] }
structure ZlApart (z TI TO i1 i2:Addr) (fp1 fp2:List Addr):Prop where
 TIz:TI≠z
 TOz:TO≠z
 i1z:i1≠z
 i2z:i2≠z
 TITO:TI≠TO
 TIi1:TI≠i1
 TIi2:TI≠i2
 TOi1:TO≠i1
 TOi2:TO≠i2
 i12:i1≠i2
 z1:z ∉ fp1
 z2:z ∉ fp2
 o1:TO ∉ fp1
 o2:TO ∉ fp2
 i1f:i1 ∉ fp2
 i2f:i2 ∉ fp1
section
variable {prog:Program}{w:World}{A:Around}{E:Value->Shared->Prop}{s:Shared}
theorem jY {M:Model}{a:Addr}{Q:Option Obj->Shared->Prop}(h:Q (s.heap.get? a) s):wpAny M A (loadIfAlive a) Q E s:=fun _ _ _=>h
variable {z TI TO i1 i2:Addr}{fp1 fp2:List Addr}{n1 n2:Nat}{P1 P2:Nat->Value->Prop}{St1 St2:Nat->Heap->Prop}
def ZlS (z TI TO i1 i2:Addr) (St1 St2:Nat->Heap->Prop) (k:Nat) (h:Heap):Prop:=
 ∃ f0 f1 a b,yD h z TI TO f0 f1/\((f0=.none/\f1=false)\/∃ (t:Addr) (o:Obj),f0=rawInt (t:Nat)/\h.get? t=some o/\t≠z/\t≠TO/\t≠i1/\t≠i2)/\IsPair h TI (.ref i1) (.ref i2)/\IsPair h TO a b/\St1 k h/\St2 k h
theorem XG {k:Nat}{a b:Value}{Q:Value->Shared->Prop}(D:ZlApart z TI TO i1 i2 fp1 fp2) (D1:Draws prog w A i1 fp1 n1 P1 St1) (D2:Draws prog w A i2 fp2 n2 P2 St2)
  (hz:yD s.heap z TI TO .none false) (hTI:IsPair s.heap TI (.ref i1) (.ref i2)) (hTO:IsPair s.heap TO a b) (h1:St1 k s.heap) (h2:St2 k s.heap) (k1:k < n1) (k2:k < n2)
  (hQ:∀ x y h' tk,P1 k x->P2 k y->IsPair h' s.heap.objs.size x y->ZlS z TI TO i1 i2 St1 St2 (k+1) h'->(∀ c o,c≠z->c≠TO->c≠i1->c≠i2->s.heap.get? c=some o->h'.get? c=some o)->Q (.ref s.heap.objs.size) { s with heap:=h',toks:=tk }) :
  wpAny (model prog w) A (Builtin.«zip.__next__» ⟨[.ref z],[]⟩) (fun fin s'=>∃ v,fin=.done (.ret v)/\Q v s') E s:=by
 show wpAny _ _ (field (.ref z) 2 >>= _) _ _ _
 refine wpAny_bind (wpAny_field hz rfl (x:=.bool false) rfl ?_)
 show wpAny _ _ (field (.ref z) 3 >>= _) _ _ _
 refine wpAny_bind (wpAny_field hz rfl (x:=.ref TI) rfl ?_)
 refine wpAny_bind (wpAny_seqItems hTI rfl ?_)
 show wpAny _ _ (Builtin.SmallTypes.ownedTupleIsFree (.ref z) >>= _) _ _ _
 refine wpAny_bind ?_
 unfold Builtin.SmallTypes.ownedTupleIsFree
 refine wpAny_bind (wpAny_field hz rfl (x:=.none) rfl (wpAny_pure ?_))
 simp only [if_true]
 refine wpAny_bind (wpAny_rule ?_)
 refine wpAny_bind (wpAny_field hz rfl (x:=.ref TO) rfl ?_)
 refine wpAny_bind (wpAny_setField_rec hz (by simp) fun h₁ hz₁ hs₁=>?_)
 replace hz₁:yD h₁ z TI TO .ellipsis false:=hz₁
 refine wpAny_bind ?_
 simp only [List.zipIdx_cons,List.zipIdx_nil,List.forIn_cons,List.forIn_nil]
 refine wpAny_bind (wpAny_bind (wpAny_onRaise ?_))
 show wpAny _ _ (Builtin.SmallTypes.nextOf (.ref i1) >>= _) _ _ _
 refine wpAny_bind (D1.item k _ _ _ k1 (D1.frame k _ _ h1 fun c hc o e=>hs₁.extBut _ _ (fun q=>D.z1 (q ▸ hc)) e) fun x h₂ tk hx h1₂ hs₂=>wpAny_pure ?_)
 replace hs₂:Heap.SameBut i1 h₁ h₂:=hs₂
 have hTO₂:IsPair h₂ TO a b:=hs₂.extBut _ _ D.TOi1 (hs₁.extBut _ _ D.TOz hTO)
 refine wpAny_bind (wpAny_seqItems hTO₂ rfl ?_)
 refine wpAny_bind (wpAny_updateSeq_pair hTO₂ fun h₃ hTO₃ hs₃=>?_)
 replace hTO₃:IsPair h₃ TO x b:=hTO₃
 refine wpAny_bind (wpAny_letGo (wpAny_pure ?_))
 refine wpAny_bind (wpAny_bind (wpAny_onRaise ?_))
 show wpAny _ _ (Builtin.SmallTypes.nextOf (.ref i2) >>= _) _ _ _
 refine wpAny_bind (D2.item k _ _ _ k2 (D2.frame k _ _ h2 fun c hc o e=>hs₃.extBut _ _ (fun q=>D.o2 (q ▸ hc)) (hs₂.extBut _ _ (fun q=>D.i1f (q ▸ hc)) (hs₁.extBut _ _ (fun q=>D.z2 (q ▸ hc)) e))) fun y h₄ tk' hy h2₄ hs₄=>wpAny_pure ?_)
 replace hs₄:Heap.SameBut i2 h₃ h₄:=hs₄
 have hTO₄:IsPair h₄ TO x b:=hs₄.extBut _ _ D.TOi2 hTO₃
 refine wpAny_bind (wpAny_seqItems hTO₄ rfl ?_)
 refine wpAny_bind (wpAny_updateSeq_pair hTO₄ fun h₅ hTO₅ hs₅=>?_)
 replace hTO₅:IsPair h₅ TO x y:=hTO₅
 refine wpAny_bind (wpAny_letGo (wpAny_pure (wpAny_pure ?_)))
 refine wpAny_bind (wpAny_seqItems hTO₅ rfl ?_)
 refine wpAny_bind (wpAny_newTuple ?_)
 have hsz:h₅.objs.size=s.heap.objs.size:=by rw [hs₅.1,hs₄.1,hs₃.1,hs₂.1,hs₁.1]
 have hz₅:yD h₅ z TI TO .ellipsis false:=hs₅.extBut _ _ D.TOz.symm (hs₄.extBut _ _ D.i2z.symm (hs₃.extBut _ _ D.TOz.symm (hs₂.extBut _ _ D.i1z.symm hz₁)))
 have hk₅:∀ c o,c≠z->c≠TO->c≠i1->c≠i2->s.heap.get? c=some o->h₅.get? c=some o:=fun c o c1 c2 c3 c4 e=>
  hs₅.extBut _ _ c2 (hs₄.extBut _ _ c4 (hs₃.extBut _ _ c2 (hs₂.extBut _ _ c3 (hs₁.extBut _ _ c1 e))))
 have h1₅:St1 (k+1) h₅:=D1.frame _ _ _ h1₂ fun c hc o e=>hs₅.extBut _ _ (fun q=>D.o1 (q ▸ hc)) (hs₄.extBut _ _ (fun q=>D.i2f (q ▸ hc)) (hs₃.extBut _ _ (fun q=>D.o1 (q ▸ hc)) e))
 have h2₅:St2 (k+1) h₅:=D2.frame _ _ _ h2₄ fun c hc o e=>hs₅.extBut _ _ (fun q=>D.o2 (q ▸ hc)) e
 have hzlt:z < h₅.objs.size:=Heap.lt_size hz₅
 have hTOlt:TO < h₅.objs.size:=Heap.lt_size hTO₅
 have hi1lt:i1 < h₅.objs.size:=by obtain⟨_,e⟩:=D1.live _ _ h1₅;exact Heap.lt_size e
 have hi2lt:i2 < h₅.objs.size:=by obtain⟨_,e⟩:=D2.live _ _ h2₅;exact Heap.lt_size e
 show wpAny _ _ (Builtin.SmallTypes.ownedTupleHandOut (.ref z) (.ref h₅.objs.size) >>= _) _ _ _
 refine wpAny_bind ?_
 unfold Builtin.SmallTypes.ownedTupleHandOut
 have hz₆:yD (h₅.push { cls:=.type "tuple",data:=.seq #[x,y] }) z TI TO .ellipsis false:=Heap.get?_push_of_some _ hz₅
 refine wpAny_bind (wpAny_setField_rec hz₆ (by simp) fun h₇ hz₇ hs₇=>?_)
 replace hz₇:yD h₇ z TI TO (rawInt h₅.objs.size) false:=hz₇
 refine wpAny_setField_rec hz₇ (by simp) fun h₈ hz₈ hs₈=>?_
 replace hz₈:yD h₈ z TI TO (rawInt h₅.objs.size) false:=hz₈
 have up:∀ c o,c≠z->h₅.get? c=some o->h₈.get? c=some o:=fun c o c1 e=>hs₈.extBut _ _ c1 (hs₇.extBut _ _ c1 (Heap.get?_push_of_some _ e))
 have hT₈:IsPair h₈ h₅.objs.size x y:=hs₈.extBut _ _ (Nat.ne_of_gt hzlt) (hs₇.extBut _ _ (Nat.ne_of_gt hzlt) (Heap.get?_push_size _ rfl))
 have fin:ZlS z TI TO i1 i2 St1 St2 (k+1) h₈:=⟨_,_,x,y,hz₈,.inr ⟨_,_,rfl,hT₈,Nat.ne_of_gt hzlt,Nat.ne_of_gt hTOlt,Nat.ne_of_gt hi1lt,Nat.ne_of_gt hi2lt⟩,up _ _ D.TIz (hk₅ _ _ D.TIz D.TITO D.TIi1 D.TIi2 hTI),up _ _ D.TOz hTO₅,
  D1.frame _ _ _ h1₅ fun c hc o e=>up _ _ (fun q=>D.z1 (q ▸ hc)) e,D2.frame _ _ _ h2₅ fun c hc o e=>up _ _ (fun q=>D.z2 (q ▸ hc)) e⟩
 refine wpAny_pure ⟨_,rfl,?_⟩
 show Q (.ref h₅.objs.size) _
 rw [hsz] at hT₈ ⊢
 exact hQ x y h₈ tk' hx hy hT₈ fin fun c o c1 c2 c3 c4 e=>up c o c1 (hk₅ c o c1 c2 c3 c4 e)
theorem Zd {f1:Bool}{t:Addr}{o0:Obj}{Q:Bool->Shared->Prop}(hz:yD s.heap z TI TO (rawInt (t:Nat)) f1) (ht:s.heap.get? t=some o0)
  (h:∀ h₁,yD h₁ z TI TO (rawInt (t:Nat)) true->(∀ c o,c≠z->s.heap.get? c=some o->h₁.get? c=some o)->h₁.objs.size=s.heap.objs.size->Q false { s with heap:=h₁ }) :
  wpAny (model prog w) A (Builtin.SmallTypes.ownedTupleIsFree (.ref z)) Q E s:=by
 unfold Builtin.SmallTypes.ownedTupleIsFree
 refine wpAny_bind (wpAny_field hz rfl (x:=rawInt (t:Nat)) rfl ?_)
 show wpAny _ _ (loadIfAlive ((t:Int).toNat) >>= _) _ _ _
 rw [Int.toNat_natCast]
 refine wpAny_bind (jY ?_)
 rw [ht,if_neg (by simp)]
 refine wpAny_bind (wpAny_field hz rfl (x:=.bool f1) rfl ?_)
 cases f1 with
 |true=>
  rw [if_neg (by decide)]
  exact wpAny_pure (h s.heap hz (fun _ _ _ e=>e) rfl)
 |false=>
  rw [if_pos (by decide)]
  refine wpAny_bind (wpAny_setField_rec hz (by simp) fun h₁ hz₁ hs₁=>wpAny_pure (h h₁ hz₁ (fun c o hc e=>hs₁.extBut _ _ hc e) hs₁.1))
theorem Vp {k:Nat}{a b:Value}{f1:Bool}{t:Addr}{o0:Obj}{Q:Value->Shared->Prop}(D:ZlApart z TI TO i1 i2 fp1 fp2) (D1:Draws prog w A i1 fp1 n1 P1 St1) (D2:Draws prog w A i2 fp2 n2 P2 St2)
  (hz:yD s.heap z TI TO (rawInt (t:Nat)) f1) (ht:s.heap.get? t=some o0) (tz:t≠z) (tO:t≠TO) (t1:t≠i1) (t2:t≠i2) (hTI:IsPair s.heap TI (.ref i1) (.ref i2)) (hTO:IsPair s.heap TO a b) (h1:St1 k s.heap) (h2:St2 k s.heap) (k1:k < n1) (k2:k < n2)
  (hQ:∀ x y h' tk,P1 k x->P2 k y->IsPair h' s.heap.objs.size x y->ZlS z TI TO i1 i2 St1 St2 (k+1) h'->(∀ c o,c≠z->c≠TO->c≠i1->c≠i2->s.heap.get? c=some o->h'.get? c=some o)->Q (.ref s.heap.objs.size) { s with heap:=h',toks:=tk }) :
  wpAny (model prog w) A (Builtin.«zip.__next__» ⟨[.ref z],[]⟩) (fun fin s'=>∃ v,fin=.done (.ret v)/\Q v s') E s:=by
 show wpAny _ _ (field (.ref z) 2 >>= _) _ _ _
 refine wpAny_bind (wpAny_field hz rfl (x:=.bool false) rfl ?_)
 show wpAny _ _ (field (.ref z) 3 >>= _) _ _ _
 refine wpAny_bind (wpAny_field hz rfl (x:=.ref TI) rfl ?_)
 refine wpAny_bind (wpAny_seqItems hTI rfl ?_)
 show wpAny _ _ (Builtin.SmallTypes.ownedTupleIsFree (.ref z) >>= _) _ _ _
 refine wpAny_bind (Zd hz ht fun h₁ hz₁ hk₁ hsz₁=>?_)
 rw [if_neg (by decide)]
 refine wpAny_bind ?_
 rw [<- Array.forIn_toList]
 simp only [List.forIn_cons,List.forIn_nil]
 refine wpAny_bind (wpAny_bind (wpAny_holding ?_))
 show wpAny _ _ (Builtin.SmallTypes.nextOf (.ref i1) >>= _) _ _ _
 refine wpAny_bind (D1.item k _ _ _ k1 (D1.frame k _ _ h1 fun c hc o e=>hk₁ _ _ (fun q=>D.z1 (q ▸ hc)) e) fun x h₂ tk hx h1₂ hs₂=>wpAny_pure ?_)
 replace hs₂:Heap.SameBut i1 h₁ h₂:=hs₂
 refine wpAny_pure ?_
 refine wpAny_bind (wpAny_bind (wpAny_holding ?_))
 show wpAny _ _ (Builtin.SmallTypes.nextOf (.ref i2) >>= _) _ _ _
 refine wpAny_bind (D2.item k _ _ _ k2 (D2.frame k _ _ h2 fun c hc o e=>hs₂.extBut _ _ (fun q=>D.i1f (q ▸ hc)) (hk₁ _ _ (fun q=>D.z2 (q ▸ hc)) e)) fun y h₃ tk' hy h2₃ hs₃=>wpAny_pure ?_)
 replace hs₃:Heap.SameBut i2 h₂ h₃:=hs₃
 refine wpAny_pure (wpAny_pure ?_)
 refine wpAny_bind (wpAny_newTuple (hsz:=by show (2:Nat)≤2 ^ 24;decide) ?_)
 have hsz:h₃.objs.size=s.heap.objs.size:=by rw [hs₃.1,hs₂.1,hsz₁]
 have up:∀ c o,c≠z->c≠i1->c≠i2->s.heap.get? c=some o->(h₃.push { cls:=.type "tuple",data:=.seq #[x,y] }).get? c=some o:=fun c o c1 c2 c3 e=>Heap.get?_push_of_some _ (hs₃.extBut _ _ c3 (hs₂.extBut _ _ c2 (hk₁ _ _ c1 e)))
 have hz₃:yD (h₃.push { cls:=.type "tuple",data:=.seq #[x,y] }) z TI TO (rawInt (t:Nat)) true:=Heap.get?_push_of_some _ (hs₃.extBut _ _ D.i2z.symm (hs₂.extBut _ _ D.i1z.symm hz₁))
 have fin:ZlS z TI TO i1 i2 St1 St2 (k+1) (h₃.push { cls:=.type "tuple",data:=.seq #[x,y] }):=⟨_,_,a,b,hz₃,.inr ⟨t,o0,rfl,up _ _ tz t1 t2 ht,tz,tO,t1,t2⟩,up _ _ D.TIz D.TIi1 D.TIi2 hTI,up _ _ D.TOz D.TOi1 D.TOi2 hTO,
  D1.frame _ _ _ h1₂ fun c hc o e=>Heap.get?_push_of_some _ (hs₃.extBut _ _ (fun q=>D.i2f (q ▸ hc)) e),D2.frame _ _ _ h2₃ fun c hc o e=>Heap.get?_push_of_some _ e⟩
 have hT:IsPair (h₃.push { cls:=.type "tuple",data:=.seq #[x,y] }) h₃.objs.size x y:=Heap.get?_push_size _ rfl
 refine wpAny_pure ⟨_,rfl,?_⟩
 show Q (.ref h₃.objs.size) _
 rw [hsz] at hT ⊢
 exact hQ x y _ tk' hx hy hT fin fun c o c1 c2 c3 c4 e=>up c o c1 c3 c4 e
theorem Vq {k:Nat}{a b:Value}{Q:Fin->Shared->Prop}(D:ZlApart z TI TO i1 i2 fp1 fp2) (D1:Draws prog w A i1 fp1 n1 P1 St1) (D2:Draws prog w A i2 fp2 n2 P2 St2)
  (hz:yD s.heap z TI TO .none false) (hTI:IsPair s.heap TI (.ref i1) (.ref i2)) (hTO:IsPair s.heap TO a b) (h1:St1 k s.heap) (h2:St2 k s.heap) (hend:k=n1\/(k < n1/\k=n2))
  (hE:∀ h' e tk,(∀ c o,c≠z->c≠TO->c≠i1->c≠i2->s.heap.get? c=some o->h'.get? c=some o)->(∃ o,h'.get? e=some o/\o.cls=.type "StopIteration")->E (.ref e) { s with heap:=h',toks:=tk }) :
  wpAny (model prog w) A (Builtin.«zip.__next__» ⟨[.ref z],[]⟩) Q E s:=by
 show wpAny _ _ (field (.ref z) 2 >>= _) _ _ _
 refine wpAny_bind (wpAny_field hz rfl (x:=.bool false) rfl ?_)
 show wpAny _ _ (field (.ref z) 3 >>= _) _ _ _
 refine wpAny_bind (wpAny_field hz rfl (x:=.ref TI) rfl ?_)
 refine wpAny_bind (wpAny_seqItems hTI rfl ?_)
 show wpAny _ _ (Builtin.SmallTypes.ownedTupleIsFree (.ref z) >>= _) _ _ _
 refine wpAny_bind ?_
 unfold Builtin.SmallTypes.ownedTupleIsFree
 refine wpAny_bind (wpAny_field hz rfl (x:=.none) rfl (wpAny_pure ?_))
 simp only [if_true]
 refine wpAny_bind (wpAny_rule ?_)
 refine wpAny_bind (wpAny_field hz rfl (x:=.ref TO) rfl ?_)
 refine wpAny_bind (wpAny_setField_rec hz (by simp) fun h₁ hz₁ hs₁=>?_)
 replace hz₁:yD h₁ z TI TO .ellipsis false:=hz₁
 refine wpAny_bind ?_
 simp only [List.zipIdx_cons,List.zipIdx_nil,List.forIn_cons,List.forIn_nil]
 refine wpAny_bind (wpAny_bind (wpAny_onRaise ?_))
 show wpAny _ _ (Builtin.SmallTypes.nextOf (.ref i1) >>= _) _ _ _
 have g1:St1 k h₁:=D1.frame k _ _ h1 fun c hc o e=>hs₁.extBut _ _ (fun q=>D.z1 (q ▸ hc)) e
 rcases hend with rfl | ⟨k1,rfl⟩
 ·refine wpAny_bind (D1.done _ _ _ g1 fun h₂ e hs₂ he=>?_)
  obtain⟨oe,hoe,hce⟩:=he
  have hz₂:yD h₂ z TI TO .ellipsis false:=hs₂ _ _ D.i1z.symm hz₁
  have hez:e≠z:=fun x=>by subst x;rw [hz₂] at hoe;cases hoe;simp at hce
  refine wpAny_setField_rec hz₂ (by simp) fun h₃ _ hs₃=>hE h₃ e s.toks (fun c o c1 _ c3 _ x=>hs₃.extBut _ _ c1 (hs₂ _ _ c3 (hs₁.extBut _ _ c1 x))) ⟨oe,hs₃.extBut _ _ hez hoe,hce⟩
 ·refine wpAny_bind (D1.item k _ _ _ k1 g1 fun x h₂ tk hx h1₂ hs₂=>wpAny_pure ?_)
  replace hs₂:Heap.SameBut i1 h₁ h₂:=hs₂
  have hTO₂:IsPair h₂ TO a b:=hs₂.extBut _ _ D.TOi1 (hs₁.extBut _ _ D.TOz hTO)
  refine wpAny_bind (wpAny_seqItems hTO₂ rfl ?_)
  refine wpAny_bind (wpAny_updateSeq_pair hTO₂ fun h₃ hTO₃ hs₃=>?_)
  refine wpAny_bind (wpAny_letGo (wpAny_pure ?_))
  refine wpAny_bind (wpAny_bind (wpAny_onRaise ?_))
  show wpAny _ _ (Builtin.SmallTypes.nextOf (.ref i2) >>= _) _ _ _
  refine wpAny_bind (D2.done _ _ _ (D2.frame k _ _ h2 fun c hc o e=>hs₃.extBut _ _ (fun q=>D.o2 (q ▸ hc)) (hs₂.extBut _ _ (fun q=>D.i1f (q ▸ hc)) (hs₁.extBut _ _ (fun q=>D.z2 (q ▸ hc)) e))) fun h₄ e hs₄ he=>?_)
  obtain⟨oe,hoe,hce⟩:=he
  have hz₄:yD h₄ z TI TO .ellipsis false:=hs₄ _ _ D.i2z.symm (hs₃.extBut _ _ D.TOz.symm (hs₂.extBut _ _ D.i1z.symm hz₁))
  have hez:e≠z:=fun x=>by subst x;rw [hz₄] at hoe;cases hoe;simp at hce
  refine wpAny_setField_rec hz₄ (by simp) fun h₅ _ hs₅=>hE h₅ e tk (fun c o c1 c2 c3 c4 x=>hs₅.extBut _ _ c1 (hs₄ _ _ c4 (hs₃.extBut _ _ c2 (hs₂.extBut _ _ c3 (hs₁.extBut _ _ c1 x))))) ⟨oe,hs₅.extBut _ _ hez hoe,hce⟩
theorem Qj {k:Nat}{f1:Bool}{t:Addr}{o0:Obj}{Q:Fin->Shared->Prop}(D:ZlApart z TI TO i1 i2 fp1 fp2) (D1:Draws prog w A i1 fp1 n1 P1 St1) (D2:Draws prog w A i2 fp2 n2 P2 St2)
  (hz:yD s.heap z TI TO (rawInt (t:Nat)) f1) (ht:s.heap.get? t=some o0) (hTI:IsPair s.heap TI (.ref i1) (.ref i2)) (h1:St1 k s.heap) (h2:St2 k s.heap) (hend:k=n1\/(k < n1/\k=n2))
  (hE:∀ h' e tk,(∀ c o,c≠z->c≠TO->c≠i1->c≠i2->s.heap.get? c=some o->h'.get? c=some o)->(∃ o,h'.get? e=some o/\o.cls=.type "StopIteration")->E (.ref e) { s with heap:=h',toks:=tk }) :
  wpAny (model prog w) A (Builtin.«zip.__next__» ⟨[.ref z],[]⟩) Q E s:=by
 show wpAny _ _ (field (.ref z) 2 >>= _) _ _ _
 refine wpAny_bind (wpAny_field hz rfl (x:=.bool false) rfl ?_)
 show wpAny _ _ (field (.ref z) 3 >>= _) _ _ _
 refine wpAny_bind (wpAny_field hz rfl (x:=.ref TI) rfl ?_)
 refine wpAny_bind (wpAny_seqItems hTI rfl ?_)
 show wpAny _ _ (Builtin.SmallTypes.ownedTupleIsFree (.ref z) >>= _) _ _ _
 refine wpAny_bind (Zd hz ht fun h₁ hz₁ hk₁ hsz₁=>?_)
 rw [if_neg (by decide)]
 refine wpAny_bind ?_
 rw [<- Array.forIn_toList]
 simp only [List.forIn_cons,List.forIn_nil]
 refine wpAny_bind (wpAny_bind (wpAny_holding ?_))
 show wpAny _ _ (Builtin.SmallTypes.nextOf (.ref i1) >>= _) _ _ _
 have g1:St1 k h₁:=D1.frame k _ _ h1 fun c hc o e=>hk₁ _ _ (fun q=>D.z1 (q ▸ hc)) e
 rcases hend with rfl | ⟨k1,rfl⟩
 ·refine wpAny_bind (D1.done _ _ _ g1 fun h₂ e hs₂ he=>?_)
  exact hE h₂ e s.toks (fun c o c1 _ c3 _ x=>hs₂ _ _ c3 (hk₁ _ _ c1 x)) he
 ·refine wpAny_bind (D1.item k _ _ _ k1 g1 fun x h₂ tk hx h1₂ hs₂=>wpAny_pure ?_)
  replace hs₂:Heap.SameBut i1 h₁ h₂:=hs₂
  refine wpAny_pure ?_
  refine wpAny_bind (wpAny_bind (wpAny_holding ?_))
  show wpAny _ _ (Builtin.SmallTypes.nextOf (.ref i2) >>= _) _ _ _
  refine wpAny_bind (D2.done _ _ _ (D2.frame k _ _ h2 fun c hc o e=>hs₂.extBut _ _ (fun q=>D.i1f (q ▸ hc)) (hk₁ _ _ (fun q=>D.z2 (q ▸ hc)) e)) fun h₄ e hs₄ he=>?_)
  exact hE h₄ e tk (fun c o c1 _ c3 c4 x=>hs₄ _ _ c4 (hs₂.extBut _ _ c3 (hk₁ _ _ c1 x))) he
theorem zc8 {k:Nat}{Q:Option Value->Shared->Prop}(D:ZlApart z TI TO i1 i2 fp1 fp2) (D1:Draws prog w A.in1 i1 fp1 n1 P1 St1) (D2:Draws prog w A.in1 i2 fp2 n2 P2 St2) (hS:ZlS z TI TO i1 i2 St1 St2 k s.heap) (k1:k < n1) (k2:k < n2)
  (hQ:∀ x y h' tk,P1 k x->P2 k y->IsPair h' s.heap.objs.size x y->ZlS z TI TO i1 i2 St1 St2 (k+1) h'->(∀ c o,c≠z->c≠TO->c≠i1->c≠i2->s.heap.get? c=some o->h'.get? c=some o)->Q (some (.ref s.heap.objs.size)) { s with heap:=h',toks:=tk }) :
  wpAny (model prog w) A (pyNext (.ref z)) Q E s:=by
 obtain⟨f0,f1,a,b,hz,hf,hTI,hTO,h1,h2⟩:=hS
 have hT:s.TypeIs (.ref z) "zip":=⟨_,hz,rfl⟩
 unfold pyNext
 refine wpAny_bind (wpAny_attempt (wpAny_callSpecial?_slot (name:=Str.ofString "__next__") hT F.slot_zip_next (wpAny_call_entry F.slot_zip_next hT F.entry_zip_next ?_ (F.args_zip_next_1 _))))
 rcases hf with⟨rfl,rfl⟩ | ⟨t,o0,rfl,ht,tz,tO,t1,t2⟩
 ·exact XG D D1 D2 hz hTI hTO h1 h2 k1 k2 fun x y h' tk a1 a2 a3 a4 a5=>wpAny_pure (hQ x y h' tk a1 a2 a3 a4 a5)
 ·exact Vp D D1 D2 hz ht tz tO t1 t2 hTI hTO h1 h2 k1 k2 fun x y h' tk a1 a2 a3 a4 a5=>wpAny_pure (hQ x y h' tk a1 a2 a3 a4 a5)
theorem zeW {k:Nat}{Q:Option Value->Shared->Prop}(D:ZlApart z TI TO i1 i2 fp1 fp2) (D1:Draws prog w A.in1 i1 fp1 n1 P1 St1) (D2:Draws prog w A.in1 i2 fp2 n2 P2 St2) (hS:ZlS z TI TO i1 i2 St1 St2 k s.heap) (hend:k=n1\/(k < n1/\k=n2))
    (hQ:∀ h' tk,(∀ c o,c≠z->c≠TO->c≠i1->c≠i2->s.heap.get? c=some o->h'.get? c=some o)->Q none { s with heap:=h',toks:=tk }) :
    wpAny (model prog w) A (pyNext (.ref z)) Q E s:=by
  obtain⟨f0,f1,a,b,hz,hf,hTI,hTO,h1,h2⟩:=hS
  have hT:s.TypeIs (.ref z) "zip":=⟨_,hz,rfl⟩
  have fin:∀ h' e tk,(∀ c o,c≠z->c≠TO->c≠i1->c≠i2->s.heap.get? c=some o->h'.get? c=some o)->(∃ o,h'.get? e=some o/\o.cls=.type "StopIteration")->wpAny (model prog w) A (do
      if (<- isInstance (.ref e) (.type "StopIteration"))=true then pure none else throw (.ref e)) Q E { s with heap:=h',toks:=tk }:=by
    intro h' e tk hk ⟨o,ho,hc⟩
    refine wpAny_bind (wpAny_isInstance (T:="StopIteration") (b:=true) ⟨o,ho,hc⟩ isSubtype_stop ?_)
    exact wpAny_pure (hQ _ _ hk)
  unfold pyNext
  refine wpAny_bind (wpAny_attempt (wpAny_callSpecial?_slot (name:=Str.ofString "__next__") hT F.slot_zip_next (wpAny_call_entry F.slot_zip_next hT F.entry_zip_next ?_ (F.args_zip_next_1 _))))
  rcases hf with⟨rfl,rfl⟩ | ⟨t,o0,rfl,ht,tz,tO,t1,t2⟩
  · exact Vq D D1 D2 hz hTI hTO h1 h2 hend fin
  · exact Qj D D1 D2 hz ht hTI h1 h2 hend fin
def zaN (P1 P2:Nat->Value->Prop) (h:Heap) (far:List Addr) (lo j:Nat) (v:Value):Prop:=∃ T x y,v=.ref T/\P1 j x/\P2 j y/\IsPair h T x y/\T ∉ far/\lo≤T
theorem zc9 (D:ZlApart z TI TO i1 i2 fp1 fp2) (D1:Draws prog w A.in1.in1 i1 fp1 n1 P1 St1) (D2:Draws prog w A.in1.in1 i2 fp2 n2 P2 St2) {n lo:Nat}(hn:n=min n1 n2) (hn':n≤1000000) (S:Addr) (hSf:S ∉ [z,TI,TO,i1,i2] ++ fp1 ++ fp2) (res:Value) {R:Result->Shared->Prop} :
    ∀ (m k:Nat) (s:Shared) (acc:Array Value) (c:Nat),n - k=m->k≤n->ZlS z TI TO i1 i2 St1 St2 k s.heap->s.heap.get? S=some { cls:=.type "list",dict:=none,data:=.seq acc c,slots:=#[] }->acc.size=k->lo≤s.heap.objs.size->
    (∀ j v,acc[j]? =some v->zaN P1 P2 s.heap [S,z,TO,i1,i2] lo j v)->(∀ (j:Nat) (v:Value) (T:Addr),acc[j]? =some v->v=Value.ref T->T < s.heap.objs.size)->(∀ (i j:Nat) v,acc[i]? =some v->acc[j]? =some v->i=j)->
    (∀ h' tk acc' c',(∀ b o,b ∉ [S,z,TO,i1,i2]->s.heap.get? b=some o->h'.get? b=some o)->h'.get? S=some { cls:=.type "list",dict:=none,data:=.seq acc' c',slots:=#[] }->acc'.size=n->(∀ j v,acc'[j]? =some v->zaN P1 P2 h' [S,z,TO,i1,i2] lo j v)->
      (∀ (i j:Nat) v,acc'[i]? =some v->acc'[j]? =some v->i=j)->R (.ok (.ret res)) { s with heap:=h',toks:=tk })->
    codeAny (model prog w) A (.builtin "list.extend.loop" ⟨[.ref S,.ref z,res],[]⟩) R s:=by
  have Sz:S≠z:=fun e=>hSf (by simp [e])
  have STO:S≠TO:=fun e=>hSf (by simp [e])
  have Si1:S≠i1:=fun e=>hSf (by simp [e])
  have Si2:S≠i2:=fun e=>hSf (by simp [e])
  intro m
  induction m with
  |zero=>
    intro k s acc c hk hi hst hS hsz hlo hacc hlt hinj hR
    have hend:k=n1\/(k < n1/\k=n2):=by omega
    refine codeAny_builtin F.entry_extend_loop ?_
    rw [Around.under_plainId F.plain_extend_loop _]
    show wpAny _ A.in1 (pyNext (.ref z) >>= _) _ _ s
    refine wpAny_bind (zeW D D1 D2 hst hend fun h' tk hk'=>?_)
    have kk:∀ b o,b ∉ [S,z,TO,i1,i2]->s.heap.get? b=some o->h'.get? b=some o:=fun b o hb e=>hk' b o (fun q=>hb (by simp [q])) (fun q=>hb (by simp [q])) (fun q=>hb (by simp [q])) (fun q=>hb (by simp [q])) e
    refine wpAny_pure (hR h' tk acc c kk (hk' _ _ Sz STO Si1 Si2 hS) (by omega) (fun j v hj=>?_) hinj)
    obtain⟨T,x,y,e,p1,p2,hp,hf,hl⟩:=hacc j v hj
    exact⟨T,x,y,e,p1,p2,kk _ _ hf hp,hf,hl⟩
  |succ m ih=>
    intro k s acc c hk hi hst hS hsz hlo hacc hlt hinj hR
    refine codeAny_builtin F.entry_extend_loop ?_
    rw [Around.under_plainId F.plain_extend_loop _]
    show wpAny _ A.in1 (pyNext (.ref z) >>= _) _ _ s
    refine wpAny_bind (zc8 D D1 D2 hst (by omega) (by omega) fun x y h' tk p1 p2 hp hst' hk'=>?_)
    have hS':=hk' _ _ Sz STO Si1 Si2 hS
    have kk:∀ b o,b ∉ [S,z,TO,i1,i2]->s.heap.get? b=some o->h'.get? b=some o:=fun b o hb e=>hk' b o (fun q=>hb (by simp [q])) (fun q=>hb (by simp [q])) (fun q=>hb (by simp [q])) (fun q=>hb (by simp [q])) e
    obtain⟨f0,f1,a,b,hz,hf,hTI,hTO,h1,h2⟩:=id hst
    have zlt:z < s.heap.objs.size:=Heap.lt_size hz
    have Olt:TO < s.heap.objs.size:=Heap.lt_size hTO
    have Slt:S < s.heap.objs.size:=Heap.lt_size hS
    have ilt:i1 < s.heap.objs.size:=by obtain⟨_,e⟩:=D1.live _ _ h1;exact Heap.lt_size e
    have jlt:i2 < s.heap.objs.size:=by obtain⟨_,e⟩:=D2.live _ _ h2;exact Heap.lt_size e
    have nf:s.heap.objs.size ∉ [S,z,TO,i1,i2]:=by
      simp only [List.mem_cons,List.not_mem_nil,or_false,not_or]
      exact⟨Nat.ne_of_gt Slt,Nat.ne_of_gt zlt,Nat.ne_of_gt Olt,Nat.ne_of_gt ilt,Nat.ne_of_gt jlt⟩
    have plt:s.heap.objs.size < h'.objs.size:=Heap.lt_size hp
    show wpAny _ A.in1 (updateSeq S (·.push (.ref s.heap.objs.size)) >>= _) _ _ _
    refine wpAny_bind ?_
    refine wpAny_updateSeq hS' rfl (wpAny_pure ⟨plainId_quiet F.plain_extend_loop _,ih (k+1) _ (acc.push (.ref s.heap.objs.size)) _ (by omega) (by omega) ?_ (Heap.get?_update_self _ hS' rfl) (by rw [Array.size_push,hsz]) ?_ (fun j v hj=>?_) (fun j v T hj e=>?_) (fun i j v hi' hj=>?_) fun h'' tk' acc' c' hk2 hS2 hz2 hacc2 hinj2=>?_⟩)
      (by rw [hsz,sizeLine];omega) (by show (acc.push _).size≤sizeLine+1;rw [Array.size_push,hsz,sizeLine];omega)
    · have oth:∀ b o,b≠S->h'.get? b=some o->(h'.update S (Obj.mapSeq (·.push (.ref s.heap.objs.size)))).get? b=some o:=fun b o hb e=>(Heap.get?_update_other _ _ (Ne.symm hb)).trans e
      obtain⟨f0,f1,a,b,gz,gf,gTI,gTO,g1,g2⟩:=hst'
      refine⟨f0,f1,a,b,oth _ _ (Ne.symm Sz) gz,?_,oth _ _ (fun q=>hSf (by simp [<- q])) gTI,oth _ _ (Ne.symm STO) gTO,D1.frame _ _ _ g1 fun c hc o e=>oth _ _ (fun q=>hSf (by simp [<- q,hc])) e,D2.frame _ _ _ g2 fun c hc o e=>oth _ _ (fun q=>hSf (by simp [<- q,hc])) e⟩
      rcases gf with g | ⟨t,o,e1,e2,e3⟩
      · exact .inl g
      · refine .inr ⟨t,?_⟩
        by_cases ht:t=S
        · subst ht
          exact⟨_,e1,Heap.get?_update_self _ hS' rfl,e3⟩
        · exact⟨o,e1,oth _ _ ht e2,e3⟩
    · show lo≤(h'.update S _).objs.size
      rw [Heap.size_update]
      omega
    · rw [Array.getElem?_push] at hj
      split at hj
      · rename_i e
        cases hj
        rw [e,hsz]
        exact⟨_,x,y,rfl,p1,p2,(Heap.get?_update_other _ _ (fun q=>nf (by simp [<- q]))).trans hp,nf,hlo⟩
      · obtain⟨T,x',y',e,q1,q2,hp',hf',hl⟩:=hacc j v hj
        exact⟨T,x',y',e,q1,q2,(Heap.get?_update_other _ _ (fun q=>hf' (by simp [<- q]))).trans (kk _ _ hf' hp'),hf',hl⟩
    · show T < (h'.update S _).objs.size
      rw [Heap.size_update]
      rw [Array.getElem?_push] at hj
      split at hj
      · cases hj
        cases e
        exact plt
      · exact Nat.lt_trans (hlt j v T hj e) plt
    · rw [Array.getElem?_push] at hi' hj
      split at hi' <;> split at hj
      · omega
      · rename_i e1 e2
        cases hi'
        have:=hlt j _ _ hj rfl
        exact absurd this (Nat.lt_irrefl _)
      · rename_i e1 e2
        cases hj
        have:=hlt i _ _ hi' rfl
        exact absurd this (Nat.lt_irrefl _)
      · exact hinj i j v hi' hj
    · exact hR h'' tk' acc' c' (fun b o hb e=>hk2 b o hb ((Heap.get?_update_other _ _ (fun q=>hb (by simp [<- q]))).trans (kk b o hb e))) hS2 hz2 hacc2 hinj2
theorem Qk:typeLookup (.type "zip") "__len__" =pure none:=by rw [typeLookup_type,builtinLookup_eq_fast];kernel_rfl
theorem Vr:typeLookup (.type "zip") "__length_hint__" =pure none:=by rw [typeLookup_type,builtinLookup_eq_fast];kernel_rfl
theorem JV (D:ZlApart z TI TO i1 i2 fp1 fp2) (D1:Draws prog w A.in1.in1 i1 fp1 n1 P1 St1) (D2:Draws prog w A.in1.in1 i2 fp2 n2 P2 St2) {n lo:Nat}(hn:n=min n1 n2) (hn':n≤1000000) (S:Addr) (hSf:S ∉ [z,TI,TO,i1,i2] ++ fp1 ++ fp2) (res:Value) (c₀:Nat) {R:Result->Shared->Prop}
    (hz0:∃ f0,yD s.heap z TI TO f0 false) (hst:ZlS z TI TO i1 i2 St1 St2 0 s.heap) (hlo:lo≤s.heap.objs.size) (hS:s.heap.get? S=some { cls:=.type "list",data:=.seq #[] c₀ })
    (hR:∀ h' tk acc' c',(∀ b o,b ∉ [S,z,TO,i1,i2]->s.heap.get? b=some o->h'.get? b=some o)->h'.get? S=some { cls:=.type "list",dict:=none,data:=.seq acc' c',slots:=#[] }->acc'.size=n->(∀ j v,acc'[j]? =some v->zaN P1 P2 h' [S,z,TO,i1,i2] lo j v)->
      (∀ (i j:Nat) v,acc'[i]? =some v->acc'[j]? =some v->i=j)->R (.ok (.ret res)) { s with heap:=h',toks:=tk }) :
    wpAny (model prog w) A.in1 (Builtin.List.listExtendWith (.ref S) (.ref z) res)
      (fun fin s'=>match fin with |.done f=>R (.ok f) s' |.again c'=>c'.quiet=true/\codeAny (model prog w) A c' R s') (fun e s'=>R (.error e) s') s:=by
  obtain⟨f0,hz⟩:=hz0
  have hT:s.TypeIs (.ref z) "zip":=⟨_,hz,rfl⟩
  have Sz:S≠z:=fun e=>hSf (by simp [e])
  unfold Builtin.List.listExtendWith
  refine wpAny_bind (wpAny_typeOf hT ?_)
  have h1:Builtin.List.listSameRef (.ref S) (.ref z)=false:=by simp [Builtin.List.listSameRef,Sz]
  have h2:(Value.type "zip" == Value.type "list")=false:=by decide
  have h3:(Value.type "zip" == Value.type "tuple")=false:=by decide
  simp only [h1,h2,h3,Bool.or_false,Bool.false_eq_true,if_false]
  refine wpAny_bind (wpAny_pyIter_zip hz ?_)
  refine wpAny_bind (wpAny_holding ?_)
  unfold Builtin.List.listLengthHint
  refine wpAny_bind (wpAny_specialOf hT Qk ?_)
  show wpAny _ A.in1 (specialOf (Value.ref z) (Str.ofString "__length_hint__") >>= _) _ _ _
  refine wpAny_bind (wpAny_specialOf hT Vr ?_)
  refine wpAny_pure ?_
  show wpAny _ A.in1 (rule "list.extend.makes-room" >>= fun _=>Builtin.List.listTouch (.ref S) >>= fun _=>
    again (.builtin "list.extend.loop" ⟨[.ref S,.ref z,res],[]⟩)) _ _ _
  refine wpAny_bind (wpAny_rule ?_)
  refine wpAny_bind ?_
  show wpAny _ A.in1 (updateSeq S (·.push .none) >>= fun _=>updateSeq S (·.pop)) _ _ _
  refine wpAny_bind (wpAny_updateSeq hS rfl ?_)
  have hS₂:=Heap.get?_update_self (Obj.mapSeq (·.push Value.none)) hS rfl
  refine wpAny_updateSeq (hz:=by seq_fits) hS₂ rfl ?_
  have hS₃:=Heap.get?_update_self (Obj.mapSeq (·.pop)) hS₂ rfl
  have oth:∀ b o,b≠S->s.heap.get? b=some o->((s.heap.update S (Obj.mapSeq (·.push Value.none))).update S (Obj.mapSeq (·.pop))).get? b=some o:=fun b o hb e=>(Heap.get?_update_other _ _ (Ne.symm hb)).trans ((Heap.get?_update_other _ _ (Ne.symm hb)).trans e)
  refine wpAny_pure ⟨plainId_quiet F.plain_extend_loop _,zc9 D D1 D2 hn hn' S hSf res (lo:=lo) n 0 _ #[] _ (by omega) (by omega) ?_ hS₃ rfl ?_ (fun j v hj=>by simp at hj) (fun j v T hj=>by simp at hj) (fun i j v hi=>by simp at hi) fun h' tk acc' c' hk hS' hz' hacc hinj=>hR h' tk acc' c' (fun b o hb e=>hk b o hb (oth b o (fun q=>hb (by simp [q])) e)) hS' hz' hacc hinj⟩
  · obtain⟨f0,f1,a,b,gz,gf,gTI,gTO,g1,g2⟩:=hst
    refine⟨f0,f1,a,b,oth _ _ (Ne.symm Sz) gz,?_,oth _ _ (fun q=>hSf (by simp [<- q])) gTI,oth _ _ (fun q=>hSf (by simp [<- q])) gTO,D1.frame _ _ _ g1 fun c hc o e=>oth _ _ (fun q=>hSf (by simp [<- q,hc])) e,D2.frame _ _ _ g2 fun c hc o e=>oth _ _ (fun q=>hSf (by simp [<- q,hc])) e⟩
    rcases gf with g | ⟨t,o,e1,e2,e3⟩
    · exact .inl g
    · refine .inr ⟨t,?_⟩
      by_cases ht:t=S
      · subst ht
        exact⟨_,e1,hS₃,e3⟩
      · exact⟨o,e1,oth _ _ ht e2,e3⟩
  · show lo≤((s.heap.update S _).update S _).objs.size
    rw [Heap.size_update,Heap.size_update]
    exact hlo
theorem zda (D:ZlApart z TI TO i1 i2 fp1 fp2) (D1:Draws prog w A.in1.in1.in1 i1 fp1 n1 P1 St1) (D2:Draws prog w A.in1.in1.in1 i2 fp2 n2 P2 St2) {n:Nat}(hn:n=min n1 n2) (hn':n≤1000000) (hlt:∀ b∈[z,TI,TO,i1,i2] ++ fp1 ++ fp2,b < s.heap.objs.size) {Q:Value->Shared->Prop}
    (hz0:∃ f0,yD s.heap z TI TO f0 false) (hst:ZlS z TI TO i1 i2 St1 St2 0 s.heap)
    (hQ:∀ h' tk acc' c',(∀ b o,b ∉ [z,TO,i1,i2]->s.heap.get? b=some o->h'.get? b=some o)->h'.get? s.heap.objs.size=some { cls:=.type "list",dict:=none,data:=.seq acc' c',slots:=#[] }->acc'.size=n->
      (∀ (j:Nat) (v:Value),acc'[j]? =some v->∃ T x y,v=Value.ref T/\P1 j x/\P2 j y/\IsPair h' T x y/\s.heap.objs.size < T)->(∀ (i j:Nat) v,acc'[i]? =some v->acc'[j]? =some v->i=j)->Q (.ref s.heap.objs.size) { s with heap:=h',toks:=tk }) :
    wpAny (model prog w) A (call (.type "list") [.ref z]) Q E s:=by
  refine callType_codes (Q₁:=fun obj s₁=>obj=.ref s.heap.objs.size/\s₁= { s with heap:=s.heap.push { cls:=.type "list",data:=.seq #[] } }) F.called_list (F.typeCall_list_1 _) F.entry_list_init
    (code_list_new _ ⟨rfl,rfl⟩) fun obj s₁ h₁=>?_
  obtain⟨rfl,rfl⟩:=h₁
  have hS:(s.heap.push { cls:=.type "list",data:=.seq #[] }).get? s.heap.objs.size=some { cls:=.type "list",data:=.seq #[] }:=Heap.get?_push_size _ rfl
  have hSf:s.heap.objs.size ∉ [z,TI,TO,i1,i2] ++ fp1 ++ fp2:=fun m=>Nat.lt_irrefl _ (hlt _ m)
  refine⟨⟨_,hS,rfl⟩,F.args_list_init_2 _ _,?_⟩
  show wpAny _ _ (do let old <- Builtin.List.listItems (.ref s.heap.objs.size);Builtin.List.listUpdate (.ref s.heap.objs.size) (fun _=>#[]);letGo old.toList.reverse;Builtin.List.listExtendWith (.ref s.heap.objs.size) (.ref z) .none) _ _ _
  refine wpAny_bind ?_
  unfold Builtin.List.listItems
  refine wpAny_bind (wpAny_seqItems hS rfl (wpAny_pure ?_))
  show wpAny _ _ (updateSeq s.heap.objs.size (fun _=>#[]) >>= fun _=>letGo (#[]:Array Value).toList.reverse >>= fun _=>Builtin.List.listExtendWith (.ref s.heap.objs.size) (.ref z) .none) _ _ _
  refine wpAny_bind (wpAny_updateSeq hS rfl ?_)
  have hS₂:=Heap.get?_update_self (Obj.mapSeq (fun _=>(#[]:Array Value))) hS rfl
  have oth:∀ b o,b≠s.heap.objs.size->s.heap.get? b=some o->((s.heap.push { cls:=.type "list",data:=.seq #[] }).update s.heap.objs.size (Obj.mapSeq (fun _=>(#[]:Array Value)))).get? b=some o:=
    fun b o hb e=>(Heap.get?_update_other _ _ (Ne.symm hb)).trans (Heap.get?_push_of_some _ e)
  have ne:∀ b∈[z,TI,TO,i1,i2] ++ fp1 ++ fp2,b≠s.heap.objs.size:=fun b m=>Nat.ne_of_lt (hlt b m)
  refine wpAny_bind (wpAny_letGo ?_)
  refine JV (A:=A.in1) D D1 D2 hn hn' s.heap.objs.size hSf .none _ (lo:=s.heap.objs.size+1) ?_ ?_ ?_ hS₂ fun h' tk acc' c' hk hS' hz' hacc hinj=>?_
  · obtain⟨f0,hz⟩:=hz0
    exact⟨f0,oth _ _ (ne _ (by simp)) hz⟩
  · obtain⟨f0,f1,a,b,gz,gf,gTI,gTO,g1,g2⟩:=hst
    refine⟨f0,f1,a,b,oth _ _ (ne _ (by simp)) gz,?_,oth _ _ (ne _ (by simp)) gTI,oth _ _ (ne _ (by simp)) gTO,D1.frame _ _ _ g1 fun c hc o e=>oth _ _ (ne _ (by simp [hc])) e,D2.frame _ _ _ g2 fun c hc o e=>oth _ _ (ne _ (by simp [hc])) e⟩
    rcases gf with g | ⟨t,o,e1,e2,e3⟩
    · exact .inl g
    · exact .inr ⟨t,o,e1,oth _ _ (Nat.ne_of_lt (Heap.lt_size e2)) e2,e3⟩
  · show s.heap.objs.size+1≤((s.heap.push _).update _ _).objs.size
    rw [Heap.size_update,Heap.size_push]
    exact Nat.le_refl _
  · refine⟨rfl,hQ h' tk acc' c' (fun b o hb e=>hk b o (fun m=>?_) (oth b o (Nat.ne_of_lt (Heap.lt_size e)) e)) hS' hz' (fun j v hj=>?_) hinj⟩
    · rcases List.mem_cons.1 m with q |q
      · exact Nat.ne_of_lt (Heap.lt_size e) q
      · exact hb q
    · obtain⟨T,x,y,e,p1,p2,hp,_,hl⟩:=hacc j v hj
      exact⟨T,x,y,e,p1,p2,hp,hl⟩
end
noncomputable abbrev Ql (h:Heap) (x:Str) (t:Tok):Heap:=h.push { cls:=.type "str_ascii_iterator",data:=.fields #[.str x t,.int 0 0] }
noncomputable abbrev Qm (h:Heap) (x:Str) (t:Tok) (l2:Addr):Heap:=(Ql h x t).push { cls:=.type "list_iterator",data:=.fields #[.ref l2,.int 0 0] }
noncomputable abbrev Qn (h:Heap) (x:Str) (t:Tok) (l2:Addr):Heap:=(Qm h x t l2).push { cls:=.type "tuple",data:=.seq #[.ref h.objs.size,.ref (Ql h x t).objs.size] }
noncomputable abbrev Qo (h:Heap) (x:Str) (t:Tok) (l2:Addr):Heap:=(Qn h x t l2).push { cls:=.type "tuple",data:=.seq #[.none,.none] }
noncomputable abbrev uD (h:Heap) (x:Str) (t:Tok) (l2:Addr):Heap:=(Qo h x t l2).push { cls:=.type "zip",data:=.fields #[.none,.bool false,.bool false,.ref (Qm h x t l2).objs.size,.ref (Qn h x t l2).objs.size] }
theorem ZX (x:Str) (t:Tok) (l2:Addr) (ys:Array Value) (ha:x.cps.all (· < 128)=true) :
    Meets (Builtin.«zip.__new__» ⟨[.type "zip",.str x t,.ref l2],[]⟩) (fun _ R s=>s.heap.IsList l2 ys/\
      R (.ok (.ret (.ref (Qo s.heap x t l2).objs.size))) { s with heap:=uD s.heap x t l2 }):=
  .of_wp fun prog w A R s h=>by
    obtain⟨hp,g,d,tk,os⟩:=s;obtain⟨hl2,h⟩:=h
    have hsub:=sub_zip
    have hL2:Heap.IsList (Shared.heap ⟨hp.push { cls:=.type "str_ascii_iterator",data:=.fields #[.str x t,.int 0 0] },g,d,tk,os⟩) l2 ys:=Heap.IsList.push hl2 _
    wp_walk using wpAny_pyIter_ascii ha,wpAny_pyIter_list hL2
    exact⟨_,rfl,h⟩
section
variable {prog:Program}{w:World}{A:Around}{E:Value->Shared->Prop}{s:Shared}
theorem zdb {x:Str}{t:Tok}{l:Addr}{ys:Array Value}{Q:Value->Shared->Prop}(hh:A.handled=none) (ha:x.cps.all (· < 128)=true) (hl:s.heap.IsList l ys) {n:Nat}(hn:n=min x.cps.size ys.size) (hn':n≤1000000)
    (hQ:∀ h' tk S acc' c',s.heap.objs.size≤S->(∀ b o,s.heap.get? b=some o->h'.get? b=some o)->h'.get? S=some { cls:=.type "list",dict:=none,data:=.seq acc' c',slots:=#[] }->acc'.size=n->
      (∀ (j:Nat) (v:Value),acc'[j]? =some v->∃ T c u y,v=Value.ref T/\x.cps[j]? =some c/\ys[j]? =some y/\IsPair h' T (.str ⟨#[c]⟩ u) y/\S < T)->(∀ (i j:Nat) v,acc'[i]? =some v->acc'[j]? =some v->i=j)->Q (.ref S) { s with heap:=h',toks:=tk }) :
    wpAny (model prog w) A (call (.type "zip") [.str x t,.ref l]) (fun v s₁=>wpAny (model prog w) A (call (.type "list") [v]) Q E s₁) E s:=by
  refine callType_new F.called_zip (by decide) (F.typeCall_zip_2 _ _) (F.newCall_zip_2 _ _) (fun obj=>F.args_object_init_3 obj _ _) F.entry_zip_new
    (ZX x t l ys ha) ⟨hl,?_⟩
  have z1:(Ql s.heap x t).objs.size=s.heap.objs.size+1:=Heap.size_push ..
  have z2:(Qm s.heap x t l).objs.size=s.heap.objs.size+2:=by rw [Heap.size_push,z1]
  have z3:(Qn s.heap x t l).objs.size=s.heap.objs.size+3:=by rw [Heap.size_push,z2]
  have z4:(Qo s.heap x t l).objs.size=s.heap.objs.size+4:=by rw [Heap.size_push,z3]
  have z5:(uD s.heap x t l).objs.size=s.heap.objs.size+5:=by rw [Heap.size_push,z4]
  have g5:(uD s.heap x t l).get? (Qo s.heap x t l).objs.size=some _:=Heap.get?_push_size _ rfl
  have g4:(uD s.heap x t l).get? (Qn s.heap x t l).objs.size=some _:=Heap.get?_push_of_some _ (Heap.get?_push_size _ rfl)
  have g3:(uD s.heap x t l).get? (Qm s.heap x t l).objs.size=some _:=Heap.get?_push_of_some _ (Heap.get?_push_of_some _ (Heap.get?_push_size _ rfl))
  have g2:(uD s.heap x t l).get? (Ql s.heap x t).objs.size=some _:=Heap.get?_push_of_some _ (Heap.get?_push_of_some _ (Heap.get?_push_of_some _ (Heap.get?_push_size _ rfl)))
  have g1:(uD s.heap x t l).get? s.heap.objs.size=some _:=Heap.get?_push_of_some _ (Heap.get?_push_of_some _ (Heap.get?_push_of_some _ (Heap.get?_push_of_some _ (Heap.get?_push_size _ rfl))))
  have kp:∀ c o,s.heap.get? c=some o->(uD s.heap x t l).get? c=some o:=fun c o e=>Heap.get?_push_of_some _ (Heap.get?_push_of_some _ (Heap.get?_push_of_some _ (Heap.get?_push_of_some _ (Heap.get?_push_of_some _ e))))
  show _/\_
  rw [z2,z3,z4] at g5
  rw [z1,z2] at g3
  rw [z3] at g4
  rw [z1] at g2
  rw [z4]
  refine⟨⟨_,g5,rfl⟩,?_⟩
  have llt:l < s.heap.objs.size:=by obtain⟨_,e,_⟩:=hl;exact Heap.lt_size e
  refine zda (z:=s.heap.objs.size+4) (TI:=s.heap.objs.size+2) (TO:=s.heap.objs.size+3) (i1:=s.heap.objs.size) (i2:=s.heap.objs.size+1) (s:={ s with heap:=uD s.heap x t l }) ?_
    (Draws.strAscii (A:=A.in1.in1.in1) hh s.heap.objs.size x t) (Draws.list (A:=A.in1.in1.in1) hh (s.heap.objs.size+1) l (Nat.ne_of_lt (Nat.lt_trans llt (Nat.lt_succ_self _))) ys) hn hn' ?_ ⟨_,g5⟩ ⟨_,_,_,_,g5,.inl ⟨rfl,rfl⟩,g3,g4,⟨_,g1,rfl,rfl⟩,⟨_,g2,rfl,rfl⟩,hl.at fun o e=>kp l o e⟩ ?_
  · have n1:(s.heap.objs.size+1:Nat)≠s.heap.objs.size:=by omega
    have h0:l≠(s.heap.objs.size:Nat):=Nat.ne_of_lt llt
    have h1:l≠(s.heap.objs.size+1:Nat):=Nat.ne_of_lt (Nat.lt_of_lt_of_le llt (by omega))
    have h3:l≠(s.heap.objs.size+3:Nat):=Nat.ne_of_lt (Nat.lt_of_lt_of_le llt (by omega))
    have h4:l≠(s.heap.objs.size+4:Nat):=Nat.ne_of_lt (Nat.lt_of_lt_of_le llt (by omega))
    exact⟨by simp,by simp,by simp,by simp,by simp,by simp,by simp,by simp,by simp,by simp,by simp,by simp [Ne.symm h4],by simp,by simp [Ne.symm h3],by simp [Ne.symm h0],by simp⟩
  · intro b hb
    show b < (uD s.heap x t l).objs.size
    rw [z5]
    simp only [List.mem_append,List.mem_cons,List.not_mem_nil,or_false] at hb
    rcases hb with ((q |q |q |q |q) |q) |q |q <;> rw [q]
    · exact Nat.lt_succ_self _
    · exact Nat.add_lt_add_left (by decide) _
    · exact Nat.add_lt_add_left (by decide) _
    · exact Nat.lt_add_of_pos_right (by decide)
    · exact Nat.add_lt_add_left (by decide) _
    · exact Nat.lt_add_of_pos_right (by decide)
    · exact Nat.add_lt_add_left (by decide) _
    · exact Nat.lt_add_right _ llt
  · intro h' tk acc' c' hk hS hz hacc hinj
    have e5:(Shared.heap { s with heap:=uD s.heap x t l }).objs.size=s.heap.objs.size+5:=z5
    rw [e5] at hS ⊢
    refine hQ h' tk _ acc' c' (Nat.le_add_right _ _) (fun b o e=>hk b o (fun m=>?_) (kp b o e)) hS hz (fun j v hj=>?_) hinj
    · have lt:=Heap.lt_size e
      simp only [List.mem_cons,List.not_mem_nil,or_false] at m
      rcases m with q |q |q |q <;> rw [q] at lt
      · exact absurd lt (Nat.not_lt.2 (Nat.le_add_right _ _))
      · exact absurd lt (Nat.not_lt.2 (Nat.le_add_right _ _))
      · exact absurd lt (Nat.lt_irrefl _)
      · exact absurd lt (Nat.not_lt.2 (Nat.le_add_right _ _))
    · obtain⟨T,a,y,e,⟨c,u,e1,rfl⟩,p2,hp,hl'⟩:=hacc j v hj
      rw [e5] at hl'
      exact⟨T,c,u,y,e,e1,p2,hp,hl'⟩
end
end PySem
namespace L2
open PySem PySem.Spec PyProof.Rows
section
variable {K:W.Frag}
noncomputable def uE (O:OM):List W->Option (List PyData)
 |[]=>some []
 |w :: ws=>match x9 O w,uE O ws with
  |some d,some ds=>some (d :: ds)
  |_,_=>none
theorem qG {Γ:Gh}{O:OM}{H:Hp}(S:Sim K Γ O H):∀ {ws:List W}{vs:List V}{ds:List PyData},relWs K Γ ws vs->uE O ws=some ds->relWs K ⟨H,fun _=>none,fun _=>none⟩ (ds.map W.d) vs
 |[],_,ds,r,e=>by
  cases r
  cases e
  exact .nil
 |w :: ws,_,ds,r,e=>by
  cases r with
  |cons rx t=>
   simp only [uE] at e
   split at e
   ·rename_i d ds' e1 e2
    cases e
    exact .cons (vQ S rx e1) (qG S t e2)
   ·cases e
theorem Sim.all (H:Hp):Sim K ⟨H,fun _=>none,fun _=>none⟩ (fun _=>none) H:=
 ⟨Same.refl _,fun _ _ e=>(by cases e),fun _ _ e=>(by cases e),fun _ _ e=>(by cases e),fun _ _ e=>(by cases e),fun _ _ e=>(by cases e),fun _ _ e=>(by cases e),fun _ _ _ _ _ _ _ e=>(by cases e)⟩
theorem JW {Γ Γ':Gh}{x:PyData}{v:V}(h:scD x=true) (r:relW K Γ (.d x) v):relW K Γ' (.d x) v:=by
 cases x <;> first |exact r |cases h
def zb4 (s:SpW):SpW:=fun ws O R=>∃ ds,uE O ws=some ds/\s (ds.map W.d) (fun _=>none) fun w _=>∃ x,w=.d x/\scD x=true/\R (.d x) O
def zb5 (s:SpX):SpX:=fun ws O R Y=>∃ ds,uE O ws=some ds/\s (ds.map W.d) (fun _=>none) (fun w _=>∃ x,w=.d x/\scD x=true/\R (.d x) O) fun C _=>Y C O
theorem zdc {s:SpW}{vs:List V}{H:Hp}{Q:VK}{E:XK}(h:zd K (zb4 s) vs H Q E):zd K s vs H Q E:=by
 obtain⟨Γ,O,ws,R,S,r,⟨ds,e,hs⟩,kk⟩:=h
 refine⟨_,_,_,_,Sim.all H,qG S r e,hs,?_⟩
 rintro Γ' O' H' w v l S' rw ⟨x,rfl,sc,hR⟩
 exact kk Γ O H' (.d x) v (Le.refl _) (S.grow (l.z.trans S'.z)) (JW sc rw) hR
theorem zeX {s:SpX}{vs:List V}{H:Hp}{Q:VK}{E:XK}(h:zU K (zb5 s) vs H Q E):zU K s vs H Q E:=by
 obtain⟨Γ,O,ws,R,Y,S,r,⟨ds,e,hs⟩,kk,m⟩:=h
 refine⟨_,_,_,_,_,Sim.all H,qG S r e,hs,?_,?_⟩
 ·rintro Γ' O' H' w v l S' rw ⟨x,rfl,sc,hR⟩
  exact kk Γ O H' (.d x) v (Le.refl _) (S.grow (l.z.trans S'.z)) (JW sc rw) hR
 ·intro Γ' O' H' C l S' y
  exact m Γ O H' C (Le.refl _) (S.grow (l.z.trans S'.z)) y
variable {P:Program}{w:World}{mg:Str->Option Value}{base:Heap}
theorem Cal.lend {k:Nat}{x:Str}{dvs:List V}{s:SpW}(c:Cal P w K mg base k x dvs (zd K s)):Cal P w K mg base k x dvs (zd K (zb4 s)):=by
 obtain⟨f,fd,ps,ds,F,r⟩:=c.ex
 exact⟨f,fd,ps,ds,F.imp fun _ _ _ _=>zdc,r⟩
theorem CalX.lend {k:Nat}{x:Str}{dvs:List V}{s:SpX}(c:CalX P w K mg base k x dvs (zU K s)):CalX P w K mg base k x dvs (zU K (zb5 s)):=by
 obtain⟨f,fd,ps,ds,F,r⟩:=c.ex
 exact⟨f,fd,ps,ds,F.imp fun _ _ _ _=>zeX,r⟩
end
section
variable {X:Cx}{K:W.Frag}
def zb6:V->List V->Hp->VK->Prop:=fun x xs H Q=>∃ z y,x=.str z/\xs=[.str y]/\(y.length == 0)=false/\z.length≤1000000/\∀ p,H p=none->Q (.ref p) (upd H p (.tup [.str (Txt.partition z y).1,.str (Txt.partition z y).2.1,.str (Txt.partition z y).2.2]))
theorem XH:MtR X "str.partition" zb6:=by
 intro pins s σ H x xs v us Q I rx r h
 obtain⟨z,y,rfl,rfl,hy,hz,q⟩:=h
 obtain⟨u,rfl,t,rfl⟩:=vC r
 obtain⟨t',rfl⟩:=rx
 refine call_meets PySem.F.slot_str_partition (typeIs_str _ _ _) PySem.F.entry_str_partition (PySem.F.args_str_partition_2 _ _) (meets_str_partition z y t' t hy (by rw [sizeLine_eq];omega)) ?_
 have fin:∀ (a b c:Str) (ta tb tc k:Tok),Txt.partition z y=(a,b,c)->EP X pins σ Q (.ref s.heap.objs.size) { s with toks:=k,heap:=s.heap.push { cls:=.type "tuple",data:=.seq [.str a ta,.str b tb,.str c tc].toArray } }:=fun a b c ta tb tc k e=>by
  rw [e] at q
  exact⟨.ref s.heap.objs.size,_,I.laid (t':=k) (o:=.tup [.str a,.str b,.str c]) (fun b ob g=>Heap.get?_push_of_some _ g) (Nat.le_refl _) ⟨by show (3:Nat)≤sizeLine;rw [sizeLine_eq];decide,[.str a ta,.str b tb,.str c tc],.cons ⟨ta,rfl⟩ (.cons ⟨tb,rfl⟩ (.cons ⟨tc,rfl⟩ .nil)),⟨_,Heap.get?_push_size _ rfl,rfl,0,rfl⟩⟩,rfl,q _ (I.hok.fresh (Nat.le_refl _))⟩
 unfold Txt.partition at fin
 split
 ·rename_i i more e
  rw [e] at fin
  exact fin _ _ _ _ _ _ _ rfl
 ·rename_i e
  rw [e] at fin
  exact fin _ _ _ _ _ _ _ rfl
def JX:W->List W->OM->WK->Prop:=fun x xs O R=>∃ z y,x=.d (.str z)/\xs=[.d (.str y)]/\(y.length == 0)=false/\z.length≤1000000/\R (.d (.tuple [.str (Txt.partition z y).1,.str (Txt.partition z y).2.1,.str (Txt.partition z y).2.2])) O
theorem Vs {T:String}:RefM K T zb6 JX:=by
 rintro Γ O H x v xs vs S rx rs Q R ⟨z,y,rfl,rfl,h1,h2,h⟩ k
 cases rs with
 |cons rw t=>
  cases t
  refine⟨z,y,rx,by rw [show _=V.str y from rw],h1,h2,fun p hp=>?_⟩
  obtain⟨Γ',le,S',r'⟩:=jd S (uN [(Txt.partition z y).1,(Txt.partition z y).2.1,(Txt.partition z y).2.2]) hp
  exact k _ _ _ _ _ le S' r' h
end
section
variable {X:Cx}{pins:List (Addr×Obj)}{σ:St}{H H':Hp}{s:Shared}{h':Heap}
theorem Inv.laids {t':Nat}(I:Inv X pins σ H s) (k:∀ b u,s.heap.get? b=some u->h'.get? b=some u) (old:∀ b,b < s.heap.objs.size->H' b=H b) (new:∀ b o,s.heap.objs.size≤b->H' b=some o->yq X.prog X.w H' h' b o) :
  Inv X pins σ H' { s with heap:=h',toks:=t' }:=by
 have up:∀ b o,H b=some o->H' b=some o:=fun b o e=>by rw [old b (I.hok.lt e)];exact e
 refine I.un ⟨fun b o q _ _ _=>k b o q,fun b o q _ _ _=>⟨o.slots,k b o q⟩,fun b o q n _=>by rw [old b (Heap.lt_size q)];exact n,fun b o q _=>⟨o,k b o q⟩,fun b xs q=>up b _ q,fun b o u q=>up b _ q,fun b ps q=>⟨#[],by rw [up b _ q];simp⟩⟩ fun b o e=>?_
 by_cases hb:b < s.heap.objs.size
 ·rw [old b hb] at e
  exact (I.hok b o e).stay (fun c v _ q=>k c v q) (fun c q=>up c _ q) fun c xs q=>up c _ q
 ·exact new b o (Nat.le_of_not_lt hb) e
end
theorem Ue:∀ l:List Value,(∀ v∈l,∃ T,v=Value.ref T)->∃ Ts:List Addr,l=Ts.map Value.ref
 |[],_=>⟨[],rfl⟩
 |v :: l,h=>by
  obtain⟨T,rfl⟩:=h v List.mem_cons_self
  obtain⟨Ts,rfl⟩:=Ue l fun v m=>h v (List.mem_cons_of_mem _ m)
  exact⟨T :: Ts,rfl⟩
theorem zdd {xs:List V}{us:List Value}(h:Vals xs us):∀ {j:Nat}{u:Value},us[j]? =some u->∃ x,xs[j]? =some x/\RelV x u:=by
 induction h with
 |nil=>intro j u e;simp at e
 |cons a b ih=>
  intro j u e
  cases j with
  |zero=>cases e;exact⟨_,rfl,a⟩
  |succ j=>
   obtain⟨x,e1,e2⟩:=ih (j:=j) (u:=u) (by simpa using e)
   exact⟨x,by simpa using e1,e2⟩
noncomputable def uW (H:Hp):List Addr->List (List V)->Hp
 |T :: Ts,v :: vs=>uW (upd H T (.tup v)) Ts vs
 |_,_=>H
theorem uF {b:Addr}:∀ {Ts:List Addr}{vs:List (List V)}{H:Hp},b ∉ Ts->uW H Ts vs b=H b
 |[],_,H,_=>by cases ‹List (List V)› <;> rfl
 |T :: Ts,[],H,_=>rfl
 |T :: Ts,v :: vs,H,h=>by
  rw [uW,uF (fun m=>h (List.mem_cons_of_mem _ m)),zg (fun e=>h (by rw [e];exact List.mem_cons_self))]
theorem XI:∀ {Ts:List Addr}{vs:List (List V)}{H:Hp}{i:Nat}{T:Addr}{v:List V},Ts.Nodup->Ts[i]? =some T->vs[i]? =some v->uW H Ts vs T=some (.tup v)
 |T :: Ts,v :: vs,H,0,_,_,nd,e1,e2=>by
  cases e1
  cases e2
  rw [uW,uF (List.nodup_cons.1 nd).1,zA]
 |T :: Ts,v :: vs,H,i+1,_,_,nd,e1,e2=>by
  rw [uW]
  exact XI (List.nodup_cons.1 nd).2 (by simpa using e1) (by simpa using e2)
 |[],_,_,_,_,_,_,e,_=>by simp at e
 |_ :: _,[],_,_,_,_,_,_,e=>by simp at e
noncomputable def qH (x:Str) (ys:List V):List (List V):=List.zipWith (fun c y=>[.str ⟨#[c]⟩,y]) x.cps.toList ys
def tLZ (K:W.Frag) (ta:TA):TE:=fun σ H Q=>ta σ H fun vs H1=>∃ x a ys,vs=[.str x,.ref a]/\SqL K H1 a ys/\x.cps.all (· < 128)=true/\x.length≤1000000/\ys.length≤10000000/\
 ∀ Ts l,Ts.Nodup->(∀ T∈Ts,H1 T=none)->Ts.length=(qH x ys).length->l ∉ Ts->H1 l=none->Q (.ref l) (upd (uW H1 Ts (qH x ys)) l (.lst (Ts.map .ref)))
section
variable {X:Cx}{K:W.Frag}
theorem Qp:bootBuiltins "list" =some (.type "list"):=rfl
theorem Qq {a b:Expr}{ta:TA}{p1 p2 q1 q2:Pos}(hK:X.K=K) (hc:X.calm=true) (hl:Gl X "list") (ml:X.mg "list" =none) (hg:Gl X "zip") (hm:X.mg "zip" =none) (ha:PA X [a,b] ta)
  (hs:starEach [a,b] X.env=(false,eval a X.env) :: starEach [b] X.env:=by rfl) (hs2:(backTo q2 (starEach [b] X.env)).any (·.1)=false:=by rfl)
  (he:starEach [.Call (.Name "zip" p2) [a,b] [] q2] X.env=(false,eval (.Call (.Name "zip" p2) [a,b] [] q2) X.env) :: starEach [] X.env:=by rfl) (hpl:(backTo q1 (starEach [] X.env)).any (·.1)=false:=by rfl)
  (ht:backTo q1 (starEach [.Call (.Name "zip" p2) [a,b] [] q2] X.env)=[(false,eval (.Call (.Name "zip" p2) [a,b] [] q2) X.env)]:=by rfl) :
  PE X (.Call (.Name "list" p1) [.Call (.Name "zip" p2) [a,b] [] q2] [] q1) (tLZ K ta):=by
 subst hK
 intro pins s σ H Q I h
 refine wpAny_Call_Name_kw (vN I hl ml Qp ?_)
 refine PyProof.Rows.callWith_type1 (T:="list") ?_ he hpl
 rw [ht]
 refine Calls.spliced_cons ?_
 refine wpAny_Call_Name_kw (vN I hg hm boot_zip ?_)
 refine PyProof.Rows.callWith_type1 (T:="zip") (thn (ha q2 pins s σ H _ I h) fun us s1 ⟨vs,H1,I1,r1,q1⟩=>?_) hs hs2
 obtain⟨x,a,ys,e,qa,hx,xl,yl,q⟩:=q1
 subst e
 cases r1 with
 |cons r rr=>
  cases rr with
  |cons r' rr=>
   cases rr
   obtain⟨t,rfl⟩:=r
   cases r'
   obtain⟨its,rv,p,_⟩:=I1.list qa
   have ln:=rv.length
   refine wpAny_mono (zdb (I1.ok.hd hc) hx p.isList (n:=min x.cps.size its.toArray.size) rfl (Nat.le_trans (Nat.min_le_left _ _) xl) fun h' tk S acc c' hS hk hl' hz hacc hinj=>?_) (fun v s2 z=>Calls.spliced_nil z) fun _ _ z=>z
   obtain⟨Ts,hTs⟩:=Ue acc.toList fun v hv=>by
    obtain⟨j,hj⟩:=List.mem_iff_getElem?.1 hv
    obtain⟨T,_,_,_,e,_⟩:=hacc j v (by rw [<- Array.getElem?_toList];exact hj)
    exact⟨T,e⟩
   have at_:∀ (j:Nat) (T:Addr),Ts[j]? =some T->acc[j]? =some (.ref T):=fun j T e=>by
    rw [<- Array.getElem?_toList,hTs,List.getElem?_map,e]
    rfl
   have big:∀ T∈Ts,S < T:=fun T m=>by
    obtain⟨j,hj⟩:=List.mem_iff_getElem?.1 m
    obtain⟨T',_,_,_,e,_,_,_,hl⟩:=hacc j _ (at_ j T hj)
    cases e
    exact hl
   have nd:Ts.Nodup:=by
    rw [List.Nodup,List.pairwise_iff_getElem]
    intro i j hi hj lt e
    have:=hinj i j (.ref Ts[i]) (at_ i _ (List.getElem?_eq_getElem hi)) (at_ j _ (by rw [List.getElem?_eq_getElem hj,e]))
    omega
   have lt:Ts.length=(qH x ys).length:=by
    have e1:acc.toList.length=Ts.length:=by rw [hTs,List.length_map]
    unfold qH
    rw [List.length_zipWith,<- e1,Array.length_toList,hz,ln,Array.length_toList]
    simp
   have nS:S ∉ Ts:=fun m=>Nat.lt_irrefl _ (big S m)
   have frT:∀ T∈Ts,H1 T=none:=fun T m=>I1.hok.fresh (Nat.le_of_lt (Nat.lt_of_le_of_lt hS (big T m)))
   have vr:∀ l:List Addr,Vals (l.map V.ref) (l.map Value.ref):=fun l=>by
    induction l with
    |nil=>exact .nil
    |cons a l ih=>exact .cons rfl ih
   refine⟨.ref S,_,I1.laids (H':=upd (uW H1 Ts (qH x ys)) S (.lst (Ts.map .ref))) hk (fun b hb=>?_) (fun b o hb e=>?_),rfl,q Ts S nd frT lt nS (I1.hok.fresh hS)⟩
   ·rw [zg (fun e=>by rw [e] at hb;exact absurd hS (Nat.not_le_of_lt hb)),uF (fun m=>absurd (Nat.lt_of_le_of_lt hS (big b m)) (Nat.not_lt_of_lt hb))]
   ·by_cases hbS:b=S
    ·subst hbS
     rw [zA] at e
     cases e
     refine⟨?_,acc.toList,c',by rw [hTs];exact vr Ts,by rw [Array.toArray_toList];exact hl'⟩
     rw [List.length_map,lt,sizeLine_eq]
     unfold qH
     rw [List.length_zipWith]
     omega
    ·rw [zg hbS] at e
     by_cases m:b∈Ts
     ·obtain⟨j,hj⟩:=List.mem_iff_getElem?.1 m
      obtain⟨T',c,u,y,e1,e2,e3,e4,_⟩:=hacc j _ (at_ j b hj)
      cases e1
      have e3':its[j]? =some y:=by simpa using e3
      obtain⟨yv,e5,e6⟩:=zdd rv e3'
      have ez:(qH x ys)[j]? =some [.str ⟨#[c]⟩,yv]:=by
       unfold qH
       rw [List.getElem?_zipWith,Array.getElem?_toList,e2,e5]
      rw [XI nd hj ez] at e
      cases e
      exact⟨by show (2:Nat)≤sizeLine;rw [sizeLine_eq];decide,[.str ⟨#[c]⟩ u,y],.cons ⟨u,rfl⟩ (.cons e6 .nil),⟨_,e4,rfl,0,rfl⟩⟩
     ·rw [uF m,I1.hok.fresh hb] at e
      cases e
end
section
variable {K:W.Frag}
noncomputable def zipD (x:Str) (ds:List PyData):List PyData:=List.zipWith (fun c d=>.tuple [.str ⟨#[c]⟩,d]) x.cps.toList ds
def wLZ (T:TAW):TEW:=fun ρ O R=>T ρ O fun ws O1=>∃ x w2 us ds,ws=[.d (.str x),w2]/\zD O1 w2=some us/\yh us=some ds/\x.cps.all (· < 128)=true/\x.length≤1000000/\ds.length≤10000000/\∀ p,O1 p=none->R (.own p) (updO O1 p (.lst ((zipD x ds).map W.d)))
theorem Uf {O:OM}:∀ {Ts:List Addr}{cs:List (List PyData)}{vs:List (List V)}{Γ:Gh}{H:Hp},Sim K Γ O H->Paired (fun c v=>Reps K Γ.Z c v) cs vs->Ts.Nodup->(∀ T∈Ts,H T=none)->Ts.length=vs.length->
  ∃ Γ',Le Γ Γ'/\Sim K Γ' O (uW H Ts vs)/\relWs K Γ' (cs.map fun c=>.d (.tuple c)) (Ts.map V.ref)
 |[],cs,vs,Γ,H,S,r,nd,hn,hl=>by
  have:vs=[]:=List.length_eq_zero_iff.1 (by simpa using hl.symm)
  subst this
  cases r
  exact⟨Γ,Le.refl _,S,.nil⟩
 |T :: Ts,cs,vs,Γ,H,S,r,nd,hn,hl=>by
  cases r with
  |nil=>simp at hl
  |cons a b=>
   rename_i c v cs vs
   obtain⟨n1,n2⟩:=List.nodup_cons.1 nd
   obtain⟨Γ1,l1,S1,r1⟩:=jd S a (hn T List.mem_cons_self)
   have hn':∀ T'∈Ts,upd H T (.tup v) T'=none:=fun T' m=>by
    rw [zg (fun e=>n1 (by rw [<- e];exact m))]
    exact hn T' (List.mem_cons_of_mem _ m)
   obtain⟨Γ2,l2,S2,r2⟩:=Uf S1 (Paired.mapP b fun _ _ z=>Reps.same l1.z _ _ z) n2 hn' (by simpa using hl)
   exact⟨Γ2,l1.trans l2,S2,.cons (r1.mono l2) r2⟩
theorem zaO {Γ:Gh}{ds:List PyData}{ys:List V}(h:relWs K Γ (ds.map W.d) ys):∀ cs:List Nat,Paired (fun c v=>Reps K Γ.Z c v) (List.zipWith (fun c d=>[PyData.str ⟨#[c]⟩,d]) cs ds) (List.zipWith (fun c y=>[V.str ⟨#[c]⟩,y]) cs ys):=by
 induction ds generalizing ys with
 |nil=>
  cases h
  intro cs
  cases cs <;> exact .nil
 |cons d ds ih=>
  cases h with
  |cons a b=>
   intro cs
   cases cs with
   |nil=>exact .nil
   |cons c cs=>exact .cons ⟨_,_,rfl,rfl,_,_,rfl,a,rfl⟩ (ih b cs)
theorem JY {t:TA}{T:TAW}(h:yU K t T):zx K (tLZ K t) (wLZ T):=by
 intro Γ O H ρ σ S r Q R hT k
 refine h _ _ _ _ _ S r _ _ hT fun Γ1 O1 H1 ws vs l1 S1 rs h1=>?_
 obtain⟨x,w2,us,ds,rfl,e1,e2,hx,xl,dl,h1⟩:=h1
 cases rs with
 |cons rx t=>
  cases t with
  |cons ry t=>
   cases t
   obtain⟨a,ys,rfl,q1,q2⟩:=yy S1 ry e1
   rw [yE e2] at q2
   have yl:=Paired.length q2
   rw [List.length_map] at yl
   refine⟨x,a,ys,by rw [show _=V.str x from rx],q1,hx,xl,by omega,fun Ts l nd hn hlen hl hl0=>?_⟩
   obtain⟨Γ2,l2,S2,r2⟩:=Uf S1 (zaO q2 x.cps.toList) nd hn (by rw [hlen];rfl)
   have hl2:uW H1 Ts (qH x ys) l=none:=by rw [uF hl];exact hl0
   have hr:relWs K Γ2 ((zipD x ds).map W.d) (Ts.map V.ref):=by
    have e:(zipD x ds).map W.d=(List.zipWith (fun c d=>[PyData.str ⟨#[c]⟩,d]) x.cps.toList ds).map fun c=>W.d (.tuple c):=by
     unfold zipD
     rw [List.map_zipWith,List.map_zipWith]
    rw [e]
    exact r2
   obtain⟨hO,S3⟩:=ZN S2 hr hl2
   exact k _ _ _ _ _ (l1.trans l2) S3 ug (h1 l hO)
end
end L2
namespace L2
open PySem PySem.Spec PyProof.Rows PySem.Builtin PySem.Builtin.Str
section
variable {K:W.Frag}
def zb7:R2:=zdY
theorem zde {X:Cx}:OpR X (binaryOp .Mult) zb7:=zdZ
def zb8:R2W:=fun x y O R=>∃ a ws ds n,x=.own a/\y=.d (.int n)/\O a=some (.lst ws)/\yh ws=some ds/\0≤n/\n≤1000/\ds.length*n.toNat≤100000/\∀ p,O p=none->R (.own p) (updO O p (.lst ((List.replicate n.toNat ds).flatten.map W.d)))
theorem j7 {Γ:Gh}:∀ {ds:List PyData}{vs:List V},Reps K Γ.Z ds vs->relWs K Γ (ds.map W.d) vs
 |[],_,h=>by
  cases (show _=[] from h)
  exact .nil
 |d :: ds,_,h=>by
  obtain⟨v,vs,rfl,h1,h2⟩:=h
  exact .cons h1 (j7 h2)
theorem zeY:RefR K zb7 zb8:=by
 rintro Γ O H x y v u S rx ry Q R ⟨a,ws,ds,n,rfl,rfl,ho,e,n0,n1,hl,h⟩ k
 cases (show v=.ref a from rx)
 obtain⟨_,vs,q1,q2⟩:=S.o _ _ ho
 rw [yE e] at q2
 have q3:=zK q2
 refine⟨a,n,vs,rfl,ry,q1,by omega,by omega,by rw [<- Reps.length q3,sizeLine_eq];omega,fun p hp=>?_⟩
 obtain⟨hO,S'⟩:=ZN S (j7 (kq q3 n.toNat)) hp
 exact k _ _ _ _ _ (Le.refl _) S' ug (h p hO)
end
noncomputable def jnS (sp:List Nat):List (List Nat)->List Nat
 |[]=>[]
 |[a]=>a
 |a :: b :: r=>a ++ sp ++ jnS sp (b :: r)
theorem zaP {c:Nat}:∀ {a b x y:List Nat},c ∉ a->c ∉ b->a ++ c :: x=b ++ c :: y->a=b/\x=y
 |[],[],x,y,_,_,e=>⟨rfl,by simpa using e⟩
 |[],d :: b,x,y,_,hb,e=>by
  simp at e
  exact absurd (by rw [<- e.1];exact List.mem_cons_self) hb
 |d :: a,[],x,y,ha,_,e=>by
  simp at e
  exact absurd (by rw [e.1];exact List.mem_cons_self) ha
 |d :: a,g :: b,x,y,ha,hb,e=>by
  simp at e
  obtain⟨h1,h2⟩:=zaP (fun z=>ha (List.mem_cons_of_mem _ z)) (fun z=>hb (List.mem_cons_of_mem _ z)) e.2
  exact⟨by rw [e.1,h1],h2⟩
theorem ZY {c:Nat}{tl:List Nat}:∀ {A B:List (List Nat)},A≠[]->B≠[]->(∀ a∈A,c ∉ a)->(∀ b∈B,c ∉ b)->jnS (c :: tl) A=jnS (c :: tl) B->A=B
 |[],_,h,_,_,_,_=>absurd rfl h
 |_,[],_,h,_,_,_=>absurd rfl h
 |[a],[b],_,_,_,_,e=>by rw [show a=b from e]
 |[a],b :: d :: s,_,_,ha,_,e=>by
  have e:a=b ++ (c :: tl) ++ jnS (c :: tl) (d :: s):=e
  exact absurd (by rw [e];simp) (ha a List.mem_cons_self)
 |a :: d :: r,[b],_,_,_,hb,e=>by
  have e:a ++ (c :: tl) ++ jnS (c :: tl) (d :: r)=b:=e
  exact absurd (by rw [<- e];simp) (hb b List.mem_cons_self)
 |a :: d :: r,b :: g :: s,_,_,ha,hb,e=>by
  have e:a ++ (c :: tl) ++ jnS (c :: tl) (d :: r)=b ++ (c :: tl) ++ jnS (c :: tl) (g :: s):=e
  rw [List.append_assoc,List.append_assoc,List.cons_append,List.cons_append] at e
  obtain⟨h1,h2⟩:=zaP (ha a List.mem_cons_self) (hb b List.mem_cons_self) e
  have h3:=List.append_cancel_left h2
  rw [h1,ZY (A:=d :: r) (B:=g :: s) (by simp) (by simp) (fun z hz=>ha z (List.mem_cons_of_mem _ hz)) (fun z hz=>hb z (List.mem_cons_of_mem _ hz)) h3]
theorem zO (sep:Str):∀ ps:List Str,(Str.join sep ps).cps.toList=jnS sep.cps.toList (ps.map (·.cps.toList))
 |[]=>rfl
 |[p]=>rfl
 |p :: q :: r=>by
  rw [join_cons_cons,zm,zm,zO sep (q :: r)]
  rfl
def Y6 (x:Str) (c d:Nat):Prop:=∀ k:Nat,x.cps.toList[k]? =some c->x.cps.toList[k+1]? =some d
theorem JZ {x:Str}{c d k:Nat}(h1:x.cps.toList[k]? =some c) (h2:x.cps.toList[k+1]? =some d):StrLaws.At x ⟨#[c,d]⟩ x.length k:=by
 have l2:=(List.getElem?_eq_some_iff.mp h2).1
 have ll:x.length=x.cps.toList.length:=rfl
 refine⟨by show k+2≤x.length;omega,?_⟩
 rw [StrLaws.subAt_eq]
 show (((x.cps.toList.drop k).take 2 == [c,d])=true)
 rw [List.drop_eq_getElem_cons (by omega),List.drop_eq_getElem_cons (by omega)]
 obtain⟨_,e1⟩:=List.getElem?_eq_some_iff.mp h1
 obtain⟨_,e2⟩:=List.getElem?_eq_some_iff.mp h2
 rw [e1,e2]
 simp
theorem qI {x:Str}{c d:Nat}(ht:Y6 x c d) (a b:Nat) (hb:b≤x.length) (hn:∀ k,a≤k->k < b->¬ StrLaws.At x ⟨#[c,d]⟩ x.length k):c ∉ (strSub x a b).cps.toList:=by
 intro hm
 rw [StrLaws.strSub_toList] at hm
 obtain⟨j,hj⟩:=List.getElem?_of_mem hm
 have hlt:j < b - a:=by
  have h1:j < ((x.cps.toList.drop a).take (b - a)).length:=(List.getElem?_eq_some_iff.mp hj).1
  simp at h1
  omega
 rw [List.getElem?_take_of_lt hlt,List.getElem?_drop] at hj
 exact hn (a+j) (by omega) (by omega) (JZ hj (ht _ hj))
theorem j8 {x:Str}{c d:Nat}(ht:Y6 x c d):∀ (cuts:List Nat) (a f:Nat),StrLaws.ChainG x ⟨#[c,d]⟩ x.length a cuts f->(∀ k,f≤k->¬ StrLaws.At x ⟨#[c,d]⟩ x.length k)->∀ p∈StrLaws.partsFrom x (⟨#[c,d]⟩:Str).length a cuts,c ∉ p.cps.toList
 |[],a,f,h,hn,p,hp=>by
  have e:f=a:=h
  subst e
  rw [List.mem_singleton.mp hp]
  exact qI ht f x.length (Nat.le_refl _) fun k h1 _=>hn k h1
 |g :: r,a,f,h,hn,p,hp=>by
  rcases List.mem_cons.mp hp with rfl |hp'
  ·exact qI ht a g (by have:=h.2.1.1;omega) h.2.2.1
  ·exact j8 ht r _ f h.2.2.2 hn p hp'
theorem Vt {x:Str}{c d:Nat}(hc:c < 128) (hd:d < 128) (hx:x.cps.all (· < 128)=true) (ht:Y6 x c d):∀ p∈Txt.split x ⟨#[c,d]⟩,c ∉ p.cps.toList:=by
 obtain⟨f,hG,hn⟩:=StrLaws.occ_tight x ⟨#[c,d]⟩ (by show 1≤2;decide)
 have k1:Builtin.Str.strKind ⟨#[c,d]⟩= 1:=by
  unfold Builtin.Str.strKind
  rw [if_pos (by simp;omega)]
 unfold Txt.split
 split
 ·rename_i h
  intro p hp
  rw [List.mem_singleton.mp hp]
  intro hm
  obtain⟨j,hj⟩:=List.getElem?_of_mem hm
  have hA:=JZ hj (ht _ hj)
  rw [Bool.or_eq_true,decide_eq_true_eq,decide_eq_true_eq,k1] at h
  rcases h with h |h
  ·have:=hA.1;omega
  ·have:1≤Builtin.Str.strKind x:=by unfold Builtin.Str.strKind;split <;> (try split) <;> omega
   omega
 ·split
  ·rename_i he
   intro p hp
   rw [List.mem_singleton.mp hp]
   have e0:occurrences x ⟨#[c,d]⟩ 0 x.length (x.length+1)=[]:=List.isEmpty_iff.mp he
   rw [e0] at hG
   have ef:f= 0:=hG
   subst ef
   rw [<- StrLaws.sub_whole x]
   exact qI ht 0 x.length (Nat.le_refl _) fun k h1 _=>hn k h1
  ·rw [StrLaws.partsBetween_eq]
   exact j8 ht _ 0 f hG hn
theorem XJ {c d:Nat}(hcd:c≠d):∀ {A:List (List Nat)},(∀ a∈A,c ∉ a)->∀ k:Nat,(jnS [c,d] A)[k]? =some c->(jnS [c,d] A)[k+1]? =some d
 |[],_,k,e=>by simp [jnS] at e
 |[a],h,k,e=>absurd (List.mem_of_getElem? e) (h a List.mem_cons_self)
 |a :: b :: r,h,k,e=>by
  have h1:jnS [c,d] (a :: b :: r)=a ++ (c :: d :: jnS [c,d] (b :: r)):=by
   show a ++ [c,d] ++ _=_
   simp
  rw [h1] at e ⊢
  rcases Nat.lt_trichotomy k a.length with q |q |q
  ·rw [List.getElem?_append_left q] at e
   exact absurd (List.mem_of_getElem? e) (h a List.mem_cons_self)
  ·subst q
   rw [List.getElem?_append_right (by omega)]
   simp
  ·obtain⟨j,rfl⟩:∃ j,k=a.length+1+j:=⟨k - a.length - 1,by omega⟩
   rw [List.getElem?_append_right (by omega),show a.length+1+j - a.length=j+1 by omega,List.getElem?_cons_succ] at e
   rw [List.getElem?_append_right (by omega),show a.length+1+j+1 - a.length=j+1+1 by omega,List.getElem?_cons_succ]
   cases j with
   |zero=>
    simp at e
    exact absurd e.symm hcd
   |succ j=>
    rw [List.getElem?_cons_succ] at e ⊢
    exact XJ hcd (fun a ha=>h a (List.mem_cons_of_mem _ ha)) j e
theorem qJ (x y:Str):Txt.split x y≠[]:=by
 have:=split_pos x y
 intro e
 rw [e] at this
 exact absurd this (by decide)
theorem j9 {c:Nat}{ws:List Str}(hn:ws≠[]) (hf:∀ w∈ws,c ∉ w.cps.toList):Txt.split (Str.join ⟨#[c]⟩ ws) ⟨#[c]⟩=ws:=by
 apply uV
 refine ZY (c:=c) (tl:=[]) (by simpa using qJ _ _) (by simpa using hn) ?_ ?_ ?_
 ·intro a ha
  obtain⟨p,hp,rfl⟩:=List.mem_map.mp ha
  exact StrLaws.split_free _ c p hp
 ·intro a ha
  obtain⟨p,hp,rfl⟩:=List.mem_map.mp ha
  exact hf p hp
 ·have e:=congrArg (fun z:Str=>z.cps.toList) (StrLaws.join_split (Str.join ⟨#[c]⟩ ws) ⟨#[c]⟩)
  simp only [zO] at e
  exact e
theorem Vu {c d:Nat}{ws:List Str}(hcd:c≠d) (hc:c < 128) (hd:d < 128) (hn:ws≠[]) (hf:∀ w∈ws,c ∉ w.cps.toList) (hx:(Str.join ⟨#[c,d]⟩ ws).cps.all (· < 128)=true):Txt.split (Str.join ⟨#[c,d]⟩ ws) ⟨#[c,d]⟩=ws:=by
 have hf':∀ a∈ws.map (·.cps.toList),c ∉ a:=fun a ha=>by
  obtain⟨p,hp,rfl⟩:=List.mem_map.mp ha
  exact hf p hp
 have ht:Y6 (Str.join ⟨#[c,d]⟩ ws) c d:=fun k e=>by
  rw [zO] at e ⊢
  exact XJ hcd hf' k e
 apply uV
 refine ZY (c:=c) (tl:=[d]) (by simpa using qJ _ _) (by simpa using hn) ?_ hf' ?_
 ·intro a ha
  obtain⟨p,hp,rfl⟩:=List.mem_map.mp ha
  exact Vt hc hd hx ht p hp
 ·have e:=congrArg (fun z:Str=>z.cps.toList) (StrLaws.join_split (Str.join ⟨#[c,d]⟩ ws) ⟨#[c,d]⟩)
  simp only [zO] at e
  exact e
theorem zdf {a b:Str}{c:Nat}(h:c ∉ a.cps.toList):Txt.partition (a ++ ⟨#[c]⟩ ++ b) ⟨#[c]⟩=(a,⟨#[c]⟩,b):=by
 have e0:(a ++ ⟨#[c]⟩ ++ b).cps.toList=a.cps.toList ++ c :: b.cps.toList:=by rw [zm,zm];simp
 have ea:a.length=a.cps.toList.length:=rfl
 have at_:∀ k,StrLaws.At (a ++ ⟨#[c]⟩ ++ b) ⟨#[c]⟩ (a ++ ⟨#[c]⟩ ++ b).length k↔(a.cps.toList ++ c :: b.cps.toList)[k]? =some c:=fun k=>by
  rw [<- e0]
  exact StrLaws.subAt_one _ c k
 have hA:StrLaws.At (a ++ ⟨#[c]⟩ ++ b) ⟨#[c]⟩ (a ++ ⟨#[c]⟩ ++ b).length a.length:=by
  rw [at_,List.getElem?_append_right (by omega),ea]
  simp
 have hB:∀ k,k < a.length->¬ StrLaws.At (a ++ ⟨#[c]⟩ ++ b) ⟨#[c]⟩ (a ++ ⟨#[c]⟩ ++ b).length k:=fun k hk z=>by
  rw [at_,List.getElem?_append_left (by omega)] at z
  exact h (List.mem_of_getElem? z)
 unfold Txt.partition
 rcases StrLaws.occ_head (a ++ ⟨#[c]⟩ ++ b) ⟨#[c]⟩ 1 (Nat.le_refl 1) with⟨_,z⟩ | ⟨i,r,e,hi,hk⟩
 ·exact absurd hA (z _)
 ·have:i=a.length:=by
   rcases Nat.lt_trichotomy i a.length with q |q |q
   ·exact absurd hi (hB i q)
   ·exact q
   ·exact absurd hA (hk _ q)
  subst this
  rw [e]
  have l0:(a ++ ⟨#[c]⟩ ++ b).length=a.cps.toList.length+(1+b.cps.toList.length):=by
   show (a ++ ⟨#[c]⟩ ++ b).cps.size=_
   rw [<- Array.length_toList,e0]
   simp
   omega
  have x1:strSub (a ++ ⟨#[c]⟩ ++ b) 0 a.length=a:=by
   apply yG
   rw [StrLaws.strSub_toList,e0,ea]
   simp
  have x2:strSub (a ++ ⟨#[c]⟩ ++ b) (a.length+(⟨#[c]⟩:Str).length) (a ++ ⟨#[c]⟩ ++ b).length=b:=by
   apply yG
   rw [StrLaws.strSub_toList,e0,l0]
   show ((a.cps.toList ++ c :: b.cps.toList).drop (a.cps.toList.length+1)).take (a.cps.toList.length+(1+b.cps.toList.length) - (a.cps.toList.length+1))=_
   rw [show a.cps.toList ++ c :: b.cps.toList=(a.cps.toList ++ [c]) ++ b.cps.toList by simp,List.drop_left' (by simp),List.take_of_length_le (by omega)]
  show (strSub _ 0 a.length,_,_)=_
  rw [x1,x2]
noncomputable def yP (n:Nat):Str:=Str.ofString ((n:Int).repr)
noncomputable def zI:Str:=⟨#[44,32]⟩
noncomputable def zz:Str:=⟨#[58]⟩
noncomputable def nl:Str:=⟨#[10]⟩
noncomputable def Ze (z:Str):Bool:=z.cps.toList.all fun c=>decide (c≠44/\c≠58/\c≠10/\c < 128)
theorem uo:∀ n:_root_.Fin 25,Ze (yP n.val)=true/\(yP n.val).length≤2/\∀ m:_root_.Fin 25,yP n.val=yP m.val->n=m:=by decide +kernel
theorem qo:∀ n:_root_.Fin 512,Ze (inkT n.val)=true/\(inkT n.val).length≤40:=by decide +kernel
theorem v9 {z:Str}(h:Ze z=true) {c:Nat}(hc:c∈z.cps.toList):c≠44/\c≠58/\c≠10/\c < 128:=by
 unfold Ze at h
 rw [List.all_eq_true] at h
 exact of_decide_eq_true (h c hc)
noncomputable def stT (t:T3):Str:=yP (t.2.1 - t.1) ++ zz ++ inkT t.2.2.toNat
def okT3 (t:T3):Prop:=t.1 < t.2.1/\t.2.1 - t.1≤24/\0≤t.2.2/\t.2.2 < 512
theorem Ug {t:T3}(h:okT3 t) {c:Nat}(hc:c∈(stT t).cps.toList):c≠44/\c≠10/\c < 128:=by
 obtain⟨h1,h2,h3,h4⟩:=h
 unfold stT at hc
 rw [zm,zm,List.mem_append,List.mem_append] at hc
 rcases hc with (hc |hc) |hc
 ·have:=v9 (uo ⟨t.2.1 - t.1,by omega⟩).1 hc
  exact⟨this.1,this.2.2.1,this.2.2.2⟩
 ·have:c= 58:=by simpa [zz] using hc
  subst this
  decide
 ·have:=v9 (qo ⟨t.2.2.toNat,by omega⟩).1 hc
  exact⟨this.1,this.2.2.1,this.2.2.2⟩
theorem Uh {t:T3}(h:okT3 t):(stT t).length≤43:=by
 obtain⟨h1,h2,h3,h4⟩:=h
 have a:=(uo ⟨t.2.1 - t.1,by omega⟩).2.1
 have b:=(qo ⟨t.2.2.toNat,by omega⟩).2
 unfold stT
 rw [strLen_append,strLen_append]
 have:zz.length= 1:=rfl
 simp only at a b
 omega
theorem zaQ {t:T3}(h:okT3 t):Txt.partition (stT t) zz=(yP (t.2.1 - t.1),zz,inkT t.2.2.toNat):=by
 obtain⟨h1,h2,h3,h4⟩:=h
 exact zdf fun hc=>(v9 (uo ⟨t.2.1 - t.1,by omega⟩).1 hc).2.1 rfl
noncomputable def inksT (r:Rw6):Str:=Str.join zI ((stN (inkF r) r.length).map stT)
noncomputable def zQ (r:Rw6):Str:=Str.join noS (r.map (·.1))
def okW (r:Rw6):Prop:=1≤r.length/\r.length≤24/\okR r/\∀ c∈r,0≤c.2/\c.2 < 512
theorem zdg {r:Rw6}(h:okW r) {j:Nat}(hj:j < r.length):0≤inkF r j/\inkF r j < 512:=by
 unfold inkF cA
 rw [List.getD_eq_getElem?_getD,List.getElem?_eq_getElem hj]
 exact h.2.2.2 _ (List.getElem_mem hj)
theorem x0 {r:Rw6}(h:okW r):∀ t∈stN (inkF r) r.length,okT3 t:=fun t ht=>by
 obtain⟨h1,h2,h3⟩:=ZQ ht
 have:=h.2.1
 have hk:=zdg h (j:=t.1) (by omega)
 rw [h3] at hk
 exact⟨h1,by omega,hk.1,hk.2⟩
theorem zeZ {f:Nat->Int}{n:Nat}(h:1≤n):stN f n≠[]:=by
 obtain⟨m,rfl⟩:∃ m,n=m+1:=⟨n - 1,by omega⟩
 simp [stN]
theorem vS {sp:List Nat}:∀ {A:List (List Nat)}{c:Nat},c∈jnS sp A->c∈sp\/∃ a∈A,c∈a
 |[],_,h=>by cases h
 |[a],c,h=>.inr ⟨a,by simp,h⟩
 |a :: b :: r,c,h=>by
  have h:c∈a ++ sp ++ jnS sp (b :: r):=h
  rcases List.mem_append.1 h with h |h
  ·rcases List.mem_append.1 h with h |h
   ·exact .inr ⟨a,by simp,h⟩
   ·exact .inl h
  ·rcases vS h with h | ⟨x,hx,hc⟩
   ·exact .inl h
   ·exact .inr ⟨x,List.mem_cons_of_mem _ hx,hc⟩
theorem YE {r:Rw6}(h:okW r) {c:Nat}(hc:c∈(inksT r).cps.toList):c≠10/\c < 128:=by
 unfold inksT at hc
 rw [zO] at hc
 rcases vS hc with hc | ⟨a,ha,hc⟩
 ·have:c= 44\/c= 32:=by simpa [zI] using hc
  rcases this with rfl |rfl <;> decide
 ·rw [List.map_map] at ha
  obtain⟨t,ht,rfl⟩:=List.mem_map.1 ha
  have:=Ug (x0 h t ht) hc
  exact⟨this.2.1,this.2.2⟩
theorem ze0 {z:Str}(h:∀ c∈z.cps.toList,c < 128):z.cps.all (· < 128)=true:=by
 rw [<- Array.all_toList,List.all_eq_true]
 exact fun c hc=>decide_eq_true (h c hc)
theorem ka {r:Rw6}(h:okW r):Txt.split (inksT r) zI=(stN (inkF r) r.length).map stT:=by
 refine Vu (by decide) (by decide) (by decide) (by simpa using zeZ h.1) ?_ (ze0 fun c hc=>(YE h hc).2)
 intro w hw hc
 obtain⟨t,ht,rfl⟩:=List.mem_map.1 hw
 exact (Ug (x0 h t ht) hc).1 rfl
theorem vt:∀ L:List Str,(∀ q∈L,q.length≤43)->(L.map (·.length)).sum≤43*L.length
 |[],_=>by simp
 |a :: L,h=>by
  have:=vt L fun q hq=>h q (List.mem_cons_of_mem _ hq)
  have:=h a List.mem_cons_self
  simp only [List.map_cons,List.sum_cons,List.length_cons]
  omega
theorem YF {r:Rw6}(h:okW r):(inksT r).length≤1100:=by
 have a:=qD zI ((stN (inkF r) r.length).map stT)
 have b:=vt ((stN (inkF r) r.length).map stT) fun q hq=>by
  obtain⟨t,ht,rfl⟩:=List.mem_map.1 hq
  exact Uh (x0 h t ht)
 have c:=qm (inkF r) r.length
 have d:=h.2.1
 rw [List.length_map] at a b
 have:zI.length= 2:=rfl
 rw [this] at a
 show (inksT r).cps.size≤1100
 rw [<- Array.length_toList]
 unfold inksT
 omega
theorem xS {r:Rw6}(h:okR r):∃ ks:List Nat,(zQ r).cps.toList=ks/\r.map (·.1)=ks.map (fun k=>(⟨#[k]⟩:Str))/\∀ k∈ks,32≤k/\k≤126:=by
 have:∃ ks:List Nat,r.map (·.1)=ks.map (fun k=>(⟨#[k]⟩:Str))/\∀ k∈ks,32≤k/\k≤126:=by
  induction r with
  |nil=>exact⟨[],rfl,by simp⟩
  |cons c r ih=>
   obtain⟨ks,e,hk⟩:=ih fun x hx=>h x (List.mem_cons_of_mem _ hx)
   obtain⟨k,k1,k2,e2⟩:=h c List.mem_cons_self
   refine⟨k :: ks,by simp [e,e2],fun x hx=>?_⟩
   rcases List.mem_cons.1 hx with rfl |hx
   ·exact⟨k1,k2⟩
   ·exact hk x hx
 obtain⟨ks,e,hk⟩:=this
 refine⟨ks,?_,e,hk⟩
 unfold zQ
 rw [e]
 exact ji ks
theorem Qr {r:Rw6}(h:okR r) {c:Nat}(hc:c∈(zQ r).cps.toList):c≠10/\c < 128:=by
 obtain⟨ks,e,_,hk⟩:=xS h
 rw [e] at hc
 have:=hk c hc
 exact⟨by omega,by omega⟩
theorem Zf {r:Rw6}(h:okR r):(zQ r).length=r.length:=by
 obtain⟨ks,e,e2,_⟩:=xS h
 show (zQ r).cps.size=_
 rw [<- Array.length_toList,e,<- List.length_map (f:=fun c:Cel=>c.1) (as:=r),e2,List.length_map]
theorem XL {f:Nat->Int}:∀ {l:List T3}{a b:Nat},Cov f a l b->(l.flatMap fun t=>List.replicate (t.2.1 - t.1) t.2.2)=(List.range (b - a)).map fun i=>f (a+i)
 |[],a,b,h=>by
  cases h
  simp
 |t :: l,a,b,h=>by
  have hle:=h.2.2.2.le
  obtain⟨h1,h2,h3,h4⟩:=h
  rw [List.flatMap_cons,XL h4]
  apply List.ext_getElem?
  intro i
  have e1:(List.replicate (t.2.1 - t.1) t.2.2).length=t.2.1 - a:=by rw [List.length_replicate,h1]
  rcases Nat.lt_or_ge i (t.2.1 - a) with q |q
  ·rw [List.getElem?_append_left (by omega),List.getElem?_replicate,if_pos (by omega),List.getElem?_map,List.getElem?_range (by omega)]
   simp only [Option.map_some]
   rw [h3 (a+i) (by omega) (by omega)]
  ·rw [List.getElem?_append_right (by omega),e1,List.getElem?_map,List.getElem?_map]
   rcases Nat.lt_or_ge i (b - a) with z |z
   ·rw [List.getElem?_range (by omega),List.getElem?_range z]
    simp only [Option.map_some]
    congr 2
    omega
   ·rw [List.getElem?_eq_none (by simp;omega),List.getElem?_eq_none (by simp;omega)]
    rfl
theorem XM {r:Rw6}:((stN (inkF r) r.length).flatMap fun t=>List.replicate (t.2.1 - t.1) t.2.2)=r.map (·.2):=by
 rw [XL (um (inkF r) r.length)]
 apply List.ext_getElem?
 intro i
 rw [List.getElem?_map,List.getElem?_map]
 rcases Nat.lt_or_ge i r.length with z |z
 ·rw [List.getElem?_range (by omega),List.getElem?_eq_getElem z]
  simp only [Option.map_some,Nat.zero_add]
  congr 1
  unfold inkF cA
  rw [List.getD_eq_getElem?_getD,List.getElem?_eq_getElem z]
  rfl
 ·rw [List.getElem?_eq_none (by simp;omega),List.getElem?_eq_none z]
  rfl
theorem zdh {r:Rw6}(h:okR r):zipD (zQ r) ((r.map (·.2)).map PyData.int)=r.map zp:=by
 obtain⟨ks,e,e2,_⟩:=xS h
 unfold zipD
 rw [e]
 clear e
 induction r generalizing ks with
 |nil=>
  cases ks with
  |nil=>rfl
  |cons k ks=>cases e2
 |cons c r ih=>
  cases ks with
  |nil=>cases e2
  |cons k ks=>
   simp only [List.map_cons,List.cons.injEq] at e2
   simp only [List.map_cons,List.zipWith_cons_cons]
   rw [ih (fun x hx=>h x (List.mem_cons_of_mem _ hx)) ks e2.2 fun x hx=>by rename_i hk;exact hk x (List.mem_cons_of_mem _ hx)]
   congr 1
   unfold zp
   rw [e2.1]
noncomputable abbrev Pc:=List Rw6
noncomputable def zB (p:Pc):List Str:=p.map zQ ++ p.map inksT
noncomputable def paperT (p:Pc):Str:=Str.join noS ((zB p).map (· ++ nl))
def okP24 (p:Pc):Prop:=1≤p.length/\p.length≤12/\∀ r∈p,okW r
theorem qK (L:List Str):(Str.join noS (L.map (· ++ nl))).cps.toList=jnS [10] (L.map (·.cps.toList) ++ [[]]):=by
 rw [zO]
 induction L with
 |nil=>rfl
 |cons a L ih=>
  cases L with
  |nil=>
   show (a ++ nl).cps.toList=a.cps.toList ++ [10] ++ []
   rw [zm,List.append_nil]
   rfl
  |cons b L=>
   simp only [List.map_cons,List.cons_append] at ih ⊢
   show (a ++ nl).cps.toList ++ noS.cps.toList ++ jnS noS.cps.toList ((b ++ nl).cps.toList :: _)=a.cps.toList ++ [10] ++ jnS [10] (b.cps.toList :: _)
   rw [ih,zm]
   show a.cps.toList ++ [10] ++ [] ++ _=_
   rw [List.append_nil]
theorem jk {p:Pc}(h:okP24 p) {z:Str}(hz:z∈zB p):(∀ c∈z.cps.toList,c≠10/\c < 128)/\z.length≤1100:=by
 unfold zB at hz
 rcases List.mem_append.1 hz with hz |hz
 ·obtain⟨r,hr,rfl⟩:=List.mem_map.1 hz
  have q:=h.2.2 r hr
  exact⟨fun c hc=>Qr q.2.2.1 hc,by rw [Zf q.2.2.1];have:=q.2.1;omega⟩
 ·obtain⟨r,hr,rfl⟩:=List.mem_map.1 hz
  have q:=h.2.2 r hr
  exact⟨fun c hc=>YE q hc,YF q⟩
theorem kb {p:Pc}(h:okP24 p):Txt.split (paperT p) nl=zB p ++ [noS]:=by
 have e:paperT p=Str.join nl (zB p ++ [noS]):=by
  apply yG
  unfold paperT
  rw [qK,zO,List.map_append]
  rfl
 rw [e]
 refine j9 (by simp) fun w hw hc=>?_
 rcases List.mem_append.1 hw with hw |hw
 ·exact ((jk h hw).1 10 hc).1 rfl
 ·cases List.mem_singleton.1 hw
  exact absurd hc (by decide)
theorem Zg:∀ L:List Str,(∀ q∈L,q.length≤1101)->(L.map (·.length)).sum≤1101*L.length
 |[],_=>by simp
 |a :: L,h=>by
  have:=Zg L fun q hq=>h q (List.mem_cons_of_mem _ hq)
  have:=h a List.mem_cons_self
  simp only [List.map_cons,List.sum_cons,List.length_cons]
  omega
theorem J4 {p:Pc}(h:okP24 p):(((zB p).map (· ++ nl)).map (·.length)).sum≤26424/\(zB p).length≤24:=by
 have l1:(zB p).length≤24:=by
  unfold zB
  rw [List.length_append,List.length_map,List.length_map]
  have:=h.2.1
  omega
 have:=Zg ((zB p).map (· ++ nl)) fun q hq=>by
  obtain⟨z,hz,rfl⟩:=List.mem_map.1 hq
  have:=(jk h hz).2
  rw [strLen_append]
  have:nl.length= 1:=rfl
  omega
 rw [List.length_map] at this
 exact⟨by omega,l1⟩
def Mx (f:Nat->Int) (n:Nat) (l:List T3):Prop:=∀ t∈l,t.2.1 < n->f t.2.1≠t.2.2
theorem kz {f:Nat->Int}{n:Nat}:∀ {l m:List T3}{a:Nat},Cov f a l n->Cov f a m n->Mx f n l->Mx f n m->l=m
 |[],[],_,_,_,_,_=>rfl
 |[],t :: m,a,h,h',_,_=>by
  cases h
  have:=h'.2.2.2.le
  have:=h'.1
  have:=h'.2.1
  omega
 |t :: l,[],a,h,h',_,_=>by
  cases h'
  have:=h.2.2.2.le
  have:=h.1
  have:=h.2.1
  omega
 | (t1,t2,t3) :: l,(u1,u2,u3) :: m,a,h,h',x,y=>by
  have l1:=h.2.2.2.le
  have l2:=h'.2.2.2.le
  obtain⟨a1,a2,a3,a4⟩:=h
  obtain⟨b1,b2,b3,b4⟩:=h'
  simp only at a1 a2 a3 a4 b1 b2 b3 b4 l1 l2
  have e3:t3=u3:=by rw [<- a3 a (by omega) (by omega),b3 a (by omega) (by omega)]
  have e2:t2=u2:=by
   rcases Nat.lt_trichotomy t2 u2 with q |q |q
   ·exact absurd (by show f t2=t3;rw [b3 t2 (by omega) q,e3]) (x (t1,t2,t3) List.mem_cons_self (by show t2 < n;omega))
   ·exact q
   ·exact absurd (by show f u2=u3;rw [a3 u2 (by omega) q,e3]) (y (u1,u2,u3) List.mem_cons_self (by show u2 < n;omega))
  subst e2
  rw [a1,b1,e3,kz a4 b4 (fun t ht=>x t (List.mem_cons_of_mem _ ht)) (fun t ht=>y t (List.mem_cons_of_mem _ ht))]
theorem XN (f:Nat->Int):∀ i,∀ t∈(gSt f i).1,f t.2.1≠t.2.2
 | 0,t,h=>by simp [gSt] at h
 |i+1,t,h=>by
  unfold gSt at h
  split at h
  ·exact XN f i t h
  ·rename_i e
   rcases List.mem_append.1 h with h |h
   ·exact XN f i t h
   ·cases List.mem_singleton.1 h
    exact e
theorem XO (f:Nat->Int):∀ n,Mx f n (stN f n)
 | 0,t,h,_=>by simp [stN] at h
 |n+1,t,h,hl=>by
  unfold stN at h
  rcases List.mem_append.1 h with h |h
  ·exact XN f n t h
  ·cases List.mem_singleton.1 h
   exact absurd hl (Nat.lt_irrefl _)
noncomputable def vc:List Str:=(List.range 24).map fun k=>yP (k+1)
noncomputable def ZZ (z:Str):Nat:=vc.findIdx (· == z)+1
noncomputable def manyS (z:Str):Nat:=if z∈vc then ZZ z else 0
theorem XQ:∀ n:_root_.Fin 24,ZZ (yP (n.val+1))=n.val+1:=by decide +kernel
theorem jl {z:Str}(h:z∈vc):∃ n,1≤n/\n≤24/\z=yP n/\ZZ z=n:=by
 unfold vc at h
 obtain⟨k,hk,rfl⟩:=List.mem_map.1 h
 have hk:=List.mem_range.1 hk
 exact⟨k+1,by omega,by omega,rfl,XQ ⟨k,hk⟩⟩
theorem Z0 {n:Nat}(h1:1≤n) (h2:n≤24):yP n∈vc/\ZZ (yP n)=n:=by
 obtain⟨k,rfl⟩:∃ k,n=k+1:=⟨n - 1,by omega⟩
 exact⟨List.mem_map.2 ⟨k,List.mem_range.2 (by omega),rfl⟩,XQ ⟨k,by omega⟩⟩
theorem Ui (z:Str):manyS z≤24:=by
 unfold manyS
 split
 ·rename_i h
  obtain⟨n,h1,h2,_,e⟩:=jl h
  omega
 ·omega
noncomputable def zb9 (z:Str) (n:Nat):Str:=⟨(z.cps.toList.drop n).toArray⟩
noncomputable def zV (z:Str):Str:=(Txt.split z zz).headD noS
noncomputable def vF (z:Str):Str:=zb9 z ((zV z).length+1)
theorem zdi {z:Str}(h:z≠zV z):z=zV z ++ zz ++ vF z:=by
 have e:=StrLaws.join_split z zz
 unfold vF zV at *
 cases hs:Txt.split z zz with
 |nil=>exact absurd hs (qJ _ _)
 |cons a r=>
  rw [hs] at e h
  cases r with
  |nil=>exact absurd e.symm h
  |cons b r=>
   rw [join_cons_cons] at e
   apply yG
   rw [zm,zm]
   show z.cps.toList=a.cps.toList ++ [58] ++ z.cps.toList.drop (a.length+1)
   rw [<- e,zm,zm]
   have:a.length=a.cps.toList.length:=rfl
   rw [this]
   show a.cps.toList ++ [58] ++ _=_
   rw [List.drop_left' (l₁:=a.cps.toList ++ zz.cps.toList) (by simp [zz])]
theorem XR {a b:Str}(h:58 ∉ a.cps.toList):zV (a ++ zz ++ b)=a:=by
 have e:=congrArg (fun z:Str=>z.cps.toList) (StrLaws.join_split (a ++ zz ++ b) zz)
 have fr:∀ p∈Txt.split (a ++ zz ++ b) zz,58 ∉ p.cps.toList:=StrLaws.split_free _ 58
 unfold zV
 simp only [zO] at e
 cases hs:Txt.split (a ++ zz ++ b) zz with
 |nil=>exact absurd hs (qJ _ _)
 |cons x r=>
  rw [hs] at e fr
  cases r with
  |nil=>
   exfalso
   refine fr x List.mem_cons_self ?_
   have e:x.cps.toList=(a ++ zz ++ b).cps.toList:=e
   rw [e,zm,zm]
   simp [zz]
  |cons y r=>
   rw [zm,zm] at e
   have e:x.cps.toList ++ [58] ++ jnS [58] (y.cps.toList :: r.map (·.cps.toList))=a.cps.toList ++ [58] ++ b.cps.toList:=e
   rw [List.append_assoc,List.append_assoc] at e
   exact yG (zaP (fr x List.mem_cons_self) h e).1
theorem zdj {a b:Str}(h:58 ∉ a.cps.toList):vF (a ++ zz ++ b)=b:=by
 unfold vF
 rw [XR h]
 apply yG
 show (a ++ zz ++ b).cps.toList.drop (a.length+1)=_
 rw [zm,zm,List.drop_left' (by simp [zz];rfl)]
noncomputable def yc:List Str->List Int->Option Int->Option (List Int)
 |[],found,_=>some found
 |z :: zs,found,last=>match lawInk (vF z) with
  |none=>none
  |some k=>if some (k:Int)=last\/zV z ∉ vc\/z=zV z then none else yc zs (found ++ List.replicate (ZZ (zV z)) (k:Int)) (some (k:Int))
def okS (l:List (Nat×Nat)):Prop:=∀ x∈l,1≤x.1/\x.1≤24/\x.2 < 512
noncomputable def adj:Option Int->List (Nat×Nat)->Prop
 |_,[]=>True
 |o,x :: l=>some (x.2:Int)≠o/\adj (some (x.2:Int)) l
noncomputable def stP (x:Nat×Nat):Str:=yP x.1 ++ zz ++ inkT x.2
noncomputable def yu (l:List (Nat×Nat)):List Int:=l.flatMap fun x=>List.replicate x.1 (x.2:Int)
theorem Zh:∀ {zs:List Str}{found:List Int}{last:Option Int}{out:List Int},yc zs found last=some out->∃ l,okS l/\adj last l/\zs=l.map stP/\out=found ++ yu l
 |[],found,last,out,h=>⟨[],fun x hx=>(by cases hx),trivial,rfl,by cases h;simp [yu]⟩
 |z :: zs,found,last,out,h=>by
  unfold yc at h
  split at h
  ·cases h
  ·rename_i k hk
   split at h
   ·cases h
   ·rename_i hc
    rw [not_or,not_or,Decidable.not_not] at hc
    obtain⟨c1,c2,c3⟩:=hc
    obtain⟨n,n1,n2,e1,e2⟩:=jl c2
    obtain⟨k1,k2⟩:=Vo hk
    obtain⟨l,a1,a2,a3,a4⟩:=Zh h
    refine⟨(n,k) :: l,?_,⟨c1,a2⟩,?_,?_⟩
    ·intro x hx
     rcases List.mem_cons.1 hx with rfl |hx
     ·exact⟨n1,n2,k1⟩
     ·exact a1 x hx
    ·rw [List.map_cons,a3]
     congr 1
     rw [zdi c3,e1,k2]
     rfl
    ·rw [a4,e2]
     unfold yu
     rw [List.flatMap_cons,List.append_assoc]
theorem J5 {n:Nat}(h:n≤24):58 ∉ (yP n).cps.toList:=fun hc=>(v9 (uo ⟨n,by omega⟩).1 hc).2.1 rfl
theorem XS:∀ {l:List (Nat×Nat)}{found:List Int}{last:Option Int},okS l->adj last l->yc (l.map stP) found last=some (found ++ yu l)
 |[],found,last,_,_=>by simp [yc,yu]
 |x :: l,found,last,h,a=>by
  obtain⟨x1,x2,x3⟩:=h x List.mem_cons_self
  have fr:=J5 x2
  have e1:zV (stP x)=yP x.1:=XR fr
  have e2:vF (stP x)=inkT x.2:=zdj fr
  have m:=Z0 x1 x2
  have ne:stP x≠yP x.1:=fun e=>fr (by rw [<- e];unfold stP;rw [zm,zm];simp [zz])
  rw [List.map_cons,yc,e2,Qi x3]
  simp only
  rw [e1,if_neg (by rw [not_or,not_or,Decidable.not_not];exact⟨a.1,m.1,ne⟩),m.2,XS (fun y hy=>h y (List.mem_cons_of_mem _ hy)) a.2]
  unfold yu
  rw [List.flatMap_cons,List.append_assoc]
noncomputable def t3s:Nat->List (Nat×Nat)->List T3
 |_,[]=>[]
 |a,x :: l=>(a,a+x.1,(x.2:Int)) :: t3s (a+x.1) l
theorem Uj:∀ (l:List (Nat×Nat)) (a:Nat),(t3s a l).map stT=l.map stP
 |[],_=>rfl
 |x :: l,a=>by
  rw [t3s,List.map_cons,List.map_cons,Uj l]
  congr 1
  show yP (a+x.1 - a) ++ zz ++ inkT ((x.2:Int)).toNat=_
  rw [Nat.add_sub_cancel_left]
  rfl
theorem Uk (f:Nat->Int):∀ (l:List (Nat×Nat)) (a:Nat),okS l->(∀ j,(yu l)[j]? =none\/(yu l)[j]? =some (f (a+j)))->Cov f a (t3s a l) (a+(yu l).length)
 |[],a,_,_=>by simp [t3s,yu,Cov]
 |x :: l,a,h,e=>by
  obtain⟨x1,x2,x3⟩:=h x List.mem_cons_self
  have ei:yu (x :: l)=List.replicate x.1 (x.2:Int) ++ yu l:=by unfold yu;rw [List.flatMap_cons]
  rw [ei] at e ⊢
  refine⟨rfl,by show a < a+x.1;omega,fun j h1 h2=>?_,?_⟩
  ·have h2:j < a+x.1:=h2
   have:=e (j - a)
   rw [List.getElem?_append_left (by rw [List.length_replicate];omega),List.getElem?_replicate,if_pos (by omega),show a+(j - a)=j by omega] at this
   rcases this with q |q
   ·cases q
   ·exact (Option.some.inj q).symm
  ·have:=Uk f l (a+x.1) (fun y hy=>h y (List.mem_cons_of_mem _ hy)) fun j=>by
    have:=e (x.1+j)
    rw [List.getElem?_append_right (by rw [List.length_replicate];omega),List.length_replicate,Nat.add_sub_cancel_left,<- Nat.add_assoc] at this
    exact this
   rw [List.length_append,List.length_replicate,<- Nat.add_assoc]
   exact this
theorem J6 (f:Nat->Int):∀ (l:List (Nat×Nat)) (a n:Nat) (o:Option Int),okS l->adj o l->Cov f a (t3s a l) n->Mx f n (t3s a l)
 |[],_,_,_,_,_,_=>by intro t ht;cases ht
 |[x],a,n,o,_,_,c=>by
  intro t ht hl
  cases List.mem_singleton.1 ht
  have:a+x.1=n:=c.2.2.2
  exact absurd hl (by show ¬ a+x.1 < n;omega)
 |x :: y :: l,a,n,o,h,ad,c=>by
  intro t ht hl
  have h2:=h y (by simp)
  rcases List.mem_cons.1 ht with rfl |ht
  ·have c2:=c.2.2.2
   have:f (a+x.1)=(y.2:Int):=c2.2.2.1 _ (Nat.le_refl _) (by show a+x.1 < a+x.1+y.1;omega)
   show f (a+x.1)≠(x.2:Int)
   rw [this]
   exact fun q=>ad.2.1 (by rw [q])
  ·exact J6 f (y :: l) (a+x.1) n (some (x.2:Int)) (fun z hz=>h z (List.mem_cons_of_mem _ hz)) ad.2 c.2.2.2 t ht hl
theorem YU {r:Rw6}{l:List (Nat×Nat)}{o:Option Int}(h:okS l) (a:adj o l) (e:yu l=r.map (·.2)):stN (inkF r) r.length=t3s 0 l:=by
 have hl:(yu l).length=r.length:=by rw [e,List.length_map]
 have c:=Uk (inkF r) l 0 h fun j=>by
  rw [e,List.getElem?_map,Nat.zero_add]
  rcases Nat.lt_or_ge j r.length with z |z
  ·refine .inr ?_
   rw [List.getElem?_eq_getElem z]
   unfold inkF cA
   rw [List.getD_eq_getElem?_getD,List.getElem?_eq_getElem z]
   rfl
  ·refine .inl ?_
   rw [List.getElem?_eq_none z]
   rfl
 rw [Nat.zero_add,hl] at c
 exact kz (um _ _) c (XO _ _) (J6 _ l 0 _ o h a c)
noncomputable def jU (r:Rw6):List (Nat×Nat):=(stN (inkF r) r.length).map fun t=>(t.2.1 - t.1,t.2.2.toNat)
theorem Ul {f:Nat->Int}{n:Nat}:∀ {l:List T3}{a:Nat}{o:Option Int},Cov f a l n->Mx f n l->(∀ t∈l,okT3 t)->(∀ t r,l=t :: r->some (t.2.2)≠o)->adj o (l.map fun t=>(t.2.1 - t.1,t.2.2.toNat))
 |[],_,_,_,_,_,_=>trivial
 |t :: l,a,o,c,m,k,ho=>by
  obtain⟨_,_,k3,_⟩:=k t List.mem_cons_self
  have e:((t.2.2.toNat:Nat):Int)=t.2.2:=by omega
  refine⟨by show some ((t.2.2.toNat:Nat):Int)≠o;rw [e];exact ho t l rfl,?_⟩
  refine Ul (a:=t.2.1) c.2.2.2 (fun u hu=>m u (List.mem_cons_of_mem _ hu)) (fun u hu=>k u (List.mem_cons_of_mem _ hu)) fun u r' e2 q=>?_
  subst e2
  have c2:=c.2.2.2
  have hlt:t.2.1 < n:=by have:=c2.2.2.2.le;have:=c2.2.1;have:=c2.1;omega
  refine m t List.mem_cons_self hlt ?_
  rw [c2.2.2.1 t.2.1 (by have:=c2.1;omega) (by have:=c2.2.1;have:=c2.1;omega)]
  have q:=Option.some.inj q
  show u.2.2=t.2.2
  rw [q]
  exact e
theorem zdk {r:Rw6}(h:okW r):okS (jU r)/\adj none (jU r)/\(jU r).map stP=(stN (inkF r) r.length).map stT/\yu (jU r)=r.map (·.2):=by
 have k:=x0 h
 refine⟨fun x hx=>?_,Ul (um _ _) (XO _ _) k (fun _ _ _=>by simp),?_,?_⟩
 ·obtain⟨t,ht,rfl⟩:=List.mem_map.1 hx
  obtain⟨k1,k2,k3,k4⟩:=k t ht
  exact⟨by show 1≤t.2.1 - t.1;omega,k2,by show t.2.2.toNat < 512;omega⟩
 ·unfold jU
  rw [List.map_map]
  rfl
 ·unfold jU yu
  rw [List.flatMap_map,<- XM]
  have:∀ l:List T3,(∀ t∈l,okT3 t)->(l.flatMap fun t=>List.replicate (t.2.1 - t.1) ((t.2.2.toNat:Nat):Int))=l.flatMap fun t=>List.replicate (t.2.1 - t.1) t.2.2:=by
   intro l
   induction l with
   |nil=>intro _;rfl
   |cons t l ih=>
    intro hl
    obtain⟨_,_,k3,_⟩:=hl t List.mem_cons_self
    rw [List.flatMap_cons,List.flatMap_cons,ih fun u hu=>hl u (List.mem_cons_of_mem _ hu),show ((t.2.2.toNat:Nat):Int)=t.2.2 by omega]
  exact this _ k
def yM (c:Nat):Prop:=32≤c/\c≤126/\c≠37
noncomputable instance (c:Nat):Decidable (yM c):=inferInstanceAs (Decidable (32≤c/\c≤126/\c≠37))
def okTx (z:Str):Prop:=∀ c∈z.cps.toList,c= 10\/c= 9\/yM c
noncomputable def sgn (k:Nat):Str:=⟨#[k]⟩
noncomputable def lawLine (signs told:Str):Option Rw6:=match yc (Txt.split told zI) [] none with
 |none=>none
 |some out=>if out.length≠signs.length\/¬ (1≤signs.length/\signs.length≤24) then none else some (List.zipWith (fun k i=>(sgn k,i)) signs.cps.toList out)
def Z1 (r:Rw6):Prop:=∀ c∈r,c.1≠sgn 37
def okV (p:Pc) (w:Nat):Prop:=okP24 p/\∀ r∈p,r.length=w/\Z1 r
theorem J7:∀ {ks:List Nat}{is:List Int},is.length=ks.length->(List.zipWith (fun k i=>(sgn k,i)) ks is).map (·.1)=ks.map sgn
 |[],[],_=>rfl
 |k :: ks,i :: is,h=>by simp only [List.zipWith_cons_cons,List.map_cons];rw [J7 (by simpa using h)]
theorem J8:∀ {ks:List Nat}{is:List Int},is.length=ks.length->(List.zipWith (fun k i=>(sgn k,i)) ks is).map (·.2)=is
 |[],[],_=>rfl
 |k :: ks,i :: is,h=>by simp only [List.zipWith_cons_cons,List.map_cons];rw [J8 (by simpa using h)]
theorem ze1 {ks:List Nat}{is:List Int}{c:Cel}(h:c∈List.zipWith (fun k i=>(sgn k,i)) ks is):(∃ k∈ks,c.1=sgn k)/\c.2∈is:=by
 induction ks generalizing is with
 |nil=>cases h
 |cons k ks ih=>
  cases is with
  |nil=>cases h
  |cons i is=>
   rcases List.mem_cons.1 h with rfl |h
   ·exact⟨⟨k,List.mem_cons_self,rfl⟩,List.mem_cons_self⟩
   ·obtain⟨⟨k',h1,h2⟩,h3⟩:=ih h
    exact⟨⟨k',List.mem_cons_of_mem _ h1,h2⟩,List.mem_cons_of_mem _ h3⟩
theorem J9 {l:List (Nat×Nat)}(h:okS l) {i:Int}(hi:i∈yu l):0≤i/\i < 512:=by
 unfold yu at hi
 obtain⟨x,hx,hi⟩:=List.mem_flatMap.1 hi
 have:=(h x hx).2.2
 rw [(List.mem_replicate.1 hi).2]
 omega
theorem Z2 {a b:Nat}(h:sgn a=sgn b):a=b:=by
 have:=congrArg (fun z:Str=>z.cps.toList) h
 simpa [sgn] using this
theorem YG {signs told:Str}{r:Rw6}(hs:∀ c∈signs.cps.toList,yM c) (h:lawLine signs told=some r):okW r/\signs=zQ r/\told=inksT r/\Z1 r:=by
 unfold lawLine at h
 split at h
 ·cases h
 rename_i out ho
 split at h
 ·cases h
 rename_i hc
 rw [not_or,Decidable.not_not,Decidable.not_not] at hc
 obtain⟨c1,c2,c3⟩:=hc
 obtain⟨l,h1,h2,h3,h4⟩:=Zh ho
 rw [List.nil_append] at h4
 subst h4
 have c1:(yu l).length=signs.cps.toList.length:=c1
 have e1:=J7 c1
 have e2:=J8 c1
 have mem:=fun c (hc:c∈List.zipWith (fun k i=>(sgn k,i)) signs.cps.toList (yu l))=>ze1 hc
 have ln:(List.zipWith (fun k i=>(sgn k,i)) signs.cps.toList (yu l)).length=signs.length:=by
  rw [List.length_zipWith,c1,Nat.min_self]
  rfl
 cases Option.some.inj h
 generalize List.zipWith (fun k i=>(sgn k,i)) signs.cps.toList (yu l)=r at e1 e2 mem ln
 refine⟨⟨by omega,by omega,fun c hc=>?_,fun c hc=>J9 h1 (mem c hc).2⟩,?_,?_,fun c hc=>?_⟩
 ·obtain⟨k,hk,e⟩:=(mem c hc).1
  exact⟨k,(hs k hk).1,(hs k hk).2.1,e⟩
 ·apply yG
  unfold zQ
  rw [e1]
  exact (ji _).symm
 ·rw [<- StrLaws.join_split told zI,h3]
  unfold inksT
  rw [YU h1 h2 e2.symm,Uj]
 ·obtain⟨k,hk,e⟩:=(mem c hc).1
  rw [e]
  exact fun q=>(hs k hk).2.2 (Z2 q)
theorem Ka:∀ {r:Rw6}{ks:List Nat},r.map (·.1)=ks.map sgn->List.zipWith (fun k i=>(sgn k,i)) ks (r.map (·.2))=r
 |[],[],_=>rfl
 |c :: r,k :: ks,e=>by
  simp only [List.map_cons,List.cons.injEq] at e
  simp only [List.map_cons,List.zipWith_cons_cons]
  rw [Ka e.2,<- e.1]
theorem zdl {r:Rw6}(h:okW r):lawLine (zQ r) (inksT r)=some r:=by
 obtain⟨k1,k2,k3,k4⟩:=zdk h
 obtain⟨ks,e1,e2,_⟩:=xS h.2.2.1
 have sl:=Zf h.2.2.1
 unfold lawLine
 rw [ka h,<- k3,XS k1 k2,List.nil_append,k4]
 simp only
 rw [if_neg (by rw [not_or,Decidable.not_not,Decidable.not_not,List.length_map,sl];exact⟨rfl,h.1,h.2.1⟩),e1,Ka e2]
noncomputable def lawRead (t:Str):Option Pc:=
 if (Txt.split t nl).length%2 = 0\/¬ (1≤(Txt.split t nl).length / 2/\(Txt.split t nl).length / 2≤12)\/(Txt.split t nl).getLast?≠some noS\/9∈t.cps.toList then none
 else
  let found:=(List.range ((Txt.split t nl).length / 2)).map fun k=>lawLine ((Txt.split t nl).getD k noS) ((Txt.split t nl).getD ((Txt.split t nl).length / 2+k) noS)
  if none∈found\/∃ r∈found.filterMap id,r.length≠((found.filterMap id).headD []).length then none else some (found.filterMap id)
theorem jV {sp:List Nat}:∀ {A:List (List Nat)}{a:List Nat}{c:Nat},a∈A->c∈a->c∈jnS sp A
 |[x],a,c,ha,hc=>by
  cases List.mem_singleton.1 ha
  exact hc
 |x :: y :: r,a,c,ha,hc=>by
  show c∈x ++ sp ++ jnS sp (y :: r)
  rcases List.mem_cons.1 ha with rfl |ha
  ·simp [hc]
  ·exact List.mem_append.2 (.inr (jV ha hc))
theorem vd {t sep p:Str}(hp:p∈Txt.split t sep) {c:Nat}(hc:c∈p.cps.toList):c∈t.cps.toList:=by
 rw [<- StrLaws.join_split t sep,zO]
 exact jV (List.mem_map.2 ⟨p,hp,rfl⟩) hc
theorem ua (p:Pc):paperT p=Str.join nl (zB p ++ [noS]):=by
 apply yG
 unfold paperT
 rw [qK,zO,List.map_append]
 rfl
theorem kA {α:Type}:∀ {l:List (Option α)},none ∉ l->l=(l.filterMap id).map some
 |[],_=>rfl
 |none :: l,h=>absurd List.mem_cons_self h
 |some a :: l,h=>by
  rw [List.filterMap_cons]
  simp only [id_eq,List.map_cons]
  rw [<- kA fun q=>h (List.mem_cons_of_mem _ q)]
theorem jm {t:Str}{p:Pc}(ht:okTx t) (h:lawRead t=some p):∃ w,okV p w/\t=paperT p:=by
 unfold lawRead at h
 split at h
 ·cases h
 rename_i hc
 simp only [not_or,Decidable.not_not] at hc
 obtain⟨c1,⟨c2,c3⟩,c4,c5⟩:=hc
 simp only at h
 split at h
 ·cases h
 rename_i hf
 rw [not_or] at hf
 obtain⟨f1,f2⟩:=hf
 have e:=kA f1
 have h:=Option.some.inj h
 rw [h] at e f2
 have fr:∀ q∈Txt.split t nl,∀ c∈q.cps.toList,yM c:=fun q hq c hc=>by
  have n10:c≠10:=fun z=>StrLaws.split_free t 10 q hq (z ▸ hc)
  have m:=vd hq hc
  rcases ht c m with z |z |z
  ·exact absurd z n10
  ·exact absurd (z ▸ m) c5
  ·exact z
 have js:=StrLaws.join_split t nl
 generalize Txt.split t nl=rows at *
 have hp:p.length=rows.length / 2:=by
  have:=congrArg List.length e
  simpa using this.symm
 have at_:∀ k,k < p.length->∃ r,p[k]? =some r/\lawLine (rows.getD k noS) (rows.getD (rows.length / 2+k) noS)=some r:=fun k hk=>by
  have:=congrArg (fun l=>l[k]?) e
  simp only [List.getElem?_map,List.getElem?_range (show k < rows.length / 2 by omega),Option.map_some] at this
  rw [List.getElem?_eq_getElem hk] at this ⊢
  exact⟨_,rfl,Option.some.inj this⟩
 have lin:∀ k r,p[k]? =some r->okW r/\rows[k]? =some (zQ r)/\rows[p.length+k]? =some (inksT r)/\Z1 r:=fun k r hr=>by
  have hk:k < p.length:=(List.getElem?_eq_some_iff.1 hr).1
  obtain⟨r',hr',hl⟩:=at_ k hk
  rw [hr] at hr'
  cases hr'
  have k1:k < rows.length:=by omega
  have k2:rows.length / 2+k < rows.length:=by omega
  rw [List.getD_eq_getElem?_getD,List.getD_eq_getElem?_getD,List.getElem?_eq_getElem k1,List.getElem?_eq_getElem k2] at hl
  obtain⟨a1,a2,a3,a4⟩:=YG (fr _ (List.getElem_mem k1)) hl
  refine⟨a1,?_,?_,a4⟩
  ·rw [List.getElem?_eq_getElem k1,<- a2]
  ·rw [hp,List.getElem?_eq_getElem k2,<- a3]
   rfl
 have er:rows=zB p ++ [noS]:=by
  apply List.ext_getElem?
  intro i
  unfold zB
  rcases Nat.lt_or_ge i p.length with q1 |q1
  ·obtain⟨r,hr,_⟩:=at_ i q1
   rw [(lin i r hr).2.1,List.append_assoc,List.getElem?_append_left (by simpa using q1),List.getElem?_map,hr]
   rfl
  ·rcases Nat.lt_or_ge i (p.length+p.length) with q2 |q2
   ·obtain⟨j,rfl⟩:∃ j,i=p.length+j:=⟨i - p.length,by omega⟩
    obtain⟨r,hr,_⟩:=at_ j (by omega)
    rw [(lin j r hr).2.2.1,List.getElem?_append_left (by simpa using q2),List.getElem?_append_right (by simp),List.length_map,Nat.add_sub_cancel_left,List.getElem?_map,hr]
    rfl
   ·rw [List.getElem?_append_right (by simpa using q2)]
    rcases Nat.lt_or_ge i rows.length with q3 |q3
    ·have:i=rows.length - 1:=by omega
     subst this
     rw [List.getLast?_eq_getElem?] at c4
     rw [c4]
     simp only [List.length_append,List.length_map]
     rw [show rows.length - 1 - (p.length+p.length)= 0 by omega]
     rfl
    ·rw [List.getElem?_eq_none q3,List.getElem?_eq_none (by simp;omega)]
 refine⟨(p.headD []).length,⟨⟨by omega,by omega,fun r hr=>?_⟩,fun r hr=>?_⟩,?_⟩
 ·obtain⟨k,hk⟩:=List.getElem?_of_mem hr
  exact (lin k r hk).1
 ·obtain⟨k,hk⟩:=List.getElem?_of_mem hr
  refine⟨Decidable.not_not.1 fun q=>f2 ⟨r,hr,q⟩,(lin k r hk).2.2.2⟩
 ·rw [ua,<- er,js]
noncomputable def Qs (z:Str):Bool:=z.cps.toList.all fun c=>decide (32≤c/\c≤126/\c≠37)
theorem qL {z:Str}(h:Qs z=true) {c:Nat}(hc:c∈z.cps.toList):yM c:=of_decide_eq_true (List.all_eq_true.1 h c hc)
theorem ze2:∀ n:_root_.Fin 25,Qs (yP n.val)=true:=by decide +kernel
theorem Kb:∀ n:_root_.Fin 512,Qs (inkT n.val)=true:=by decide +kernel
theorem zfV {t:T3}(h:okT3 t) {c:Nat}(hc:c∈(stT t).cps.toList):yM c:=by
 obtain⟨h1,h2,h3,h4⟩:=h
 unfold stT at hc
 rw [zm,zm,List.mem_append,List.mem_append] at hc
 rcases hc with (hc |hc) |hc
 ·exact qL (ze2 ⟨t.2.1 - t.1,by omega⟩) hc
 ·have:c= 58:=by simpa [zz] using hc
  subst this
  unfold yM
  decide
 ·exact qL (Kb ⟨t.2.2.toNat,by omega⟩) hc
theorem ze3 {sep:Str}{zs:List Str}(h1:∀ c∈sep.cps.toList,yM c) (h2:∀ z∈zs,∀ c∈z.cps.toList,yM c) {c:Nat}(hc:c∈(Str.join sep zs).cps.toList):yM c:=by
 rw [zO] at hc
 rcases vS hc with hc | ⟨a,ha,hc⟩
 ·exact h1 c hc
 ·obtain⟨z,hz,rfl⟩:=List.mem_map.1 ha
  exact h2 z hz c hc
theorem Um:∀ c∈zI.cps.toList,yM c:=fun c hc=>by
 have:c= 44\/c= 32:=by simpa [zI] using hc
 unfold yM
 omega
theorem zdm {r:Rw6}(h:okW r):∀ c∈(inksT r).cps.toList,yM c:=fun c hc=>by
 unfold inksT at hc
 refine ze3 Um (fun z hz c hc=>?_) hc
 obtain⟨t,ht,rfl⟩:=List.mem_map.1 hz
 exact zfV (x0 h t ht) hc
theorem zaR {r:Rw6}(h:okR r) (h2:Z1 r):∀ c∈(zQ r).cps.toList,yM c:=fun c hc=>by
 obtain⟨ks,e1,e2,hk⟩:=xS h
 rw [e1] at hc
 have:=hk c hc
 refine⟨this.1,this.2,fun q=>?_⟩
 subst q
 have:sgn 37∈r.map (·.1):=by rw [e2];exact List.mem_map.2 ⟨37,hc,rfl⟩
 obtain⟨x,hx,e⟩:=List.mem_map.1 this
 exact h2 x hx e
theorem zfW {L:List Str}(h:∀ z∈L,∀ c∈z.cps.toList,yM c):∀ c∈(Str.join noS (L.map (· ++ nl))).cps.toList,c= 10\/yM c:=fun c hc=>by
 rw [qK] at hc
 rcases vS hc with hc | ⟨a,ha,hc⟩
 ·exact .inl (by simpa using hc)
 ·rcases List.mem_append.1 ha with ha |ha
  ·obtain⟨z,hz,rfl⟩:=List.mem_map.1 ha
   exact .inr (h z hz c hc)
  ·cases List.mem_singleton.1 ha
   cases hc
theorem zdn {p:Pc}{w:Nat}(h:okV p w):∀ c∈(paperT p).cps.toList,c= 10\/yM c:=by
 refine zfW fun z hz=>?_
 unfold zB at hz
 rcases List.mem_append.1 hz with hz |hz
 ·obtain⟨r,hr,rfl⟩:=List.mem_map.1 hz
  exact zaR (h.1.2.2 r hr).2.2.1 (h.2 r hr).2
 ·obtain⟨r,hr,rfl⟩:=List.mem_map.1 hz
  exact zdm (h.1.2.2 r hr)
theorem zdo {α:Type}:∀ l:List α,(l.map some).filterMap id=l
 |[]=>rfl
 |a :: l=>by simp
theorem Uo {p:Pc}{w:Nat}(h:okV p w):lawRead (paperT p)=some p:=by
 have sp:=kb h.1
 have hl:(zB p ++ [noS]).length= 2*p.length+1:=by
  unfold zB
  simp
  omega
 have h1:=h.1.1
 have h2:=h.1.2.1
 have hh:(2*p.length+1) / 2 =p.length:=by omega
 have n9:9 ∉ (paperT p).cps.toList:=fun q=>by
  rcases zdn h 9 q with q |q
  ·exact absurd q (by decide)
  ·exact absurd q.1 (by decide)
 have fo:((List.range p.length).map fun k=>lawLine ((zB p ++ [noS]).getD k noS) ((zB p ++ [noS]).getD (p.length+k) noS))=p.map some:=by
  apply List.ext_getElem?
  intro i
  rw [List.getElem?_map,List.getElem?_map]
  rcases Nat.lt_or_ge i p.length with q |q
  ·rw [List.getElem?_range q,List.getElem?_eq_getElem q]
   simp only [Option.map_some]
   have hr:p[i]? =some p[i]:=List.getElem?_eq_getElem q
   have ok:=h.1.2.2 p[i] (List.getElem_mem q)
   generalize p[i]=r at hr ok
   rw [List.getD_eq_getElem?_getD,List.getD_eq_getElem?_getD]
   unfold zB
   rw [List.append_assoc,List.getElem?_append_left (by simpa using q),List.getElem?_map,hr,List.getElem?_append_right (by simp),List.length_map,Nat.add_sub_cancel_left,List.getElem?_append_left (by simpa using q),List.getElem?_map,hr]
   simp only [Option.map_some,Option.getD_some]
   rw [zdl ok]
  ·rw [List.getElem?_eq_none (by simpa using q),List.getElem?_eq_none q]
   rfl
 unfold lawRead
 rw [sp,hl,hh,if_neg]
 ·simp only
  rw [fo,zdo,if_neg]
  rw [not_or]
  refine⟨fun q=>?_,fun⟨r,hr,q⟩=>?_⟩
  ·obtain⟨_,_,e⟩:=List.mem_map.1 q
   cases e
  ·refine q ?_
   rw [(h.2 r hr).1]
   cases p with
   |nil=>cases hr
   |cons a p=>exact (h.2 a List.mem_cons_self).1.symm
 ·rw [not_or,not_or,not_or,Decidable.not_not,Decidable.not_not]
  exact⟨by omega,⟨h1,h2⟩,by simp,n9⟩
theorem Zi (x y z:Str):∃ P:List Str,P≠[]/\Str.join y P=x/\(Txt.replace x y z=x\/Txt.replace x y z=Str.join z P):=by
 refine⟨partsBetween x (occurrences x y 0 x.length (x.length+1)) y.length,?_,?_,?_⟩
 ·rw [StrLaws.partsBetween_eq]
  obtain⟨p,r,e⟩:=StrLaws.partsFrom_ne x y.length 0 (occurrences x y 0 x.length (x.length+1))
  rw [e]
  simp
 ·rw [<- StrLaws.glued_eq_join]
  exact StrLaws.glued_between_self x y _
 ·unfold Txt.replace
  split
  ·exact .inl rfl
  ·exact .inr (StrLaws.glued_eq_join _ _)
theorem kc (sep:Str):∀ {ps:List Str},ps≠[]->∃ s k,(∀ sep':Str,(Str.join sep' ps).cps.toList.length=s+k*sep'.length)
 |[],h=>absurd rfl h
 |[p],_=>⟨p.cps.toList.length,0,fun sep'=>by rw [Nat.zero_mul];rfl⟩
 |p :: q :: r,_=>by
  obtain⟨s,k,e⟩:=kc sep (ps:=q :: r) (by simp)
  refine⟨p.cps.toList.length+s,k+1,fun sep'=>?_⟩
  rw [join_cons_cons,zm,zm,List.length_append,List.length_append,e sep',Nat.succ_mul]
  have:sep'.length=sep'.cps.toList.length:=rfl
  omega
theorem Vv {x y z:Str}(h:z.length≤6*y.length):(Txt.replace x y z).length≤6*x.length:=by
 obtain⟨P,h1,h2,h3⟩:=Zi x y z
 obtain⟨s,k,e⟩:=kc y h1
 have e1:=e y
 have e2:=e z
 rw [h2] at e1
 have lx:x.length=x.cps.toList.length:=rfl
 rcases h3 with h3 |h3
 ·rw [h3]
  omega
 ·rw [h3]
  show (Str.join z P).cps.toList.length≤_
  have:=Nat.mul_le_mul_left k h
  have m:k*(6*y.length)= 6*(k*y.length):=by rw [Nat.mul_left_comm]
  omega
theorem Kc {x y z:Str}{c:Nat}(hc:c∈(Txt.replace x y z).cps.toList):c∈x.cps.toList\/c∈z.cps.toList:=by
 obtain⟨P,h1,h2,h3⟩:=Zi x y z
 rcases h3 with h3 |h3
 ·rw [h3] at hc
  exact .inl hc
 ·rw [h3,zO] at hc
  rcases vS hc with hc | ⟨a,ha,hc⟩
  ·exact .inr hc
  ·refine .inl ?_
   rw [<- h2,zO]
   exact jV ha hc
end L2
namespace L2
open PySem PySem.W PySem.Spec PySem.Calls PyProof.Rows
theorem YV:entryFor table "proto.unchain" =some Builtin.«proto.unchain»:=entryFor_of_fast (by kernel_rfl)
section
variable {prog:Program}{w:World}{A:Around}{E:Value->Shared->Prop}{env:Env}
variable {nm q:Str}{C N:Addr}{bs bm:List Value}{hdct:Bool}{sn:List Str}{sub:List Value}{ab:Bool}{col:Option Bool}{dd:Option Addr}{k0 k1 k2 k3 k5:Option Value}{newId:String}
theorem XT {α:Type}{s:Shared}{e h:Addr}{oe oh:Obj}{vs vh:Array Value}{Q:α->Shared->Prop}(hh:A.handled=some (.ref h)) (ne:h≠e) (hoh:s.heap.get? h=some oh) (hdh:oh.data=.fields vh) (h2:vh[2]? =some .none)
  (he:s.heap.get? e=some oe) (hd:oe.data=.fields vs) (hz:2 < vs.size) (hE:E (.ref e) { s with heap:=s.heap.update e (Obj.mapFields (·.setIfInBounds 2 (.ref h))) }):wpAny (model prog w) A (raiseNew (.ref e):Sem α) Q E s:=by
 unfold raiseNew
 refine wpAny_bind (wpAny_handled ?_)
 rw [hh]
 dsimp only
 rw [if_pos (show (Value.ref h != Value.ref e)=true from by simpa using ne)]
 refine wpAny_bind (wpAny_holding (wpAny_runValue (codeAny_builtin YV ?_)))
 unfold Builtin.«proto.unchain»
 dsimp only
 refine wpAny_bind (wpAny_field hoh hdh h2 ?_)
 rw [if_pos (show (Value.none == Value.none)=true from rfl)]
 refine wpAny_bind (wpAny_pure (wpAny_pure ?_))
 show wpAny _ _ _ _ _ s
 have up:wpAny (model prog w) A (updateField e 2 (.ref h)) (fun _ s'=>wpAny (model prog w) A (throw (Value.ref e):Sem α) Q E s') E s:=wpAny_setField (i:=2) (x:=.ref h) he hd hz (wpAny_throw hE)
 exact wpAny_bind up
theorem Z3 {s:Shared}{x c:Sem Value}{Q:Flow->Shared->Prop}{h:Addr}(hbase:bm.contains (.type "BaseException")=true) (hh:A.handled=some (.ref h))
    (hc:∀ s1 (Q:Value->Shared->Prop),Q .none s1->wpAny (model prog w) A c Q E s1)
    (hx:wpAny (model prog w) A x (fun v s₁=>∃ e t,v=.ref e/\s₁.heap.get? C=some (excClassObj nm q C N bs bm hdct sn sub ab col dd k0 k1 k2 k3 k5 newId)/\
      s₁.heap.get? e=some { cls:=.ref C,data:=.fields #[.ref t,.none,.none,.none,.bool false,.none] }/\h≠e/\e≠C/\(∃ oh vh,s₁.heap.get? h=some oh/\oh.data=.fields vh/\vh[2]? =some .none)/\
      ∀ h',(∀ b o,b≠e->s₁.heap.get? b=some o->h'.get? b=some o)->h'.get? e=some { cls:=.ref C,data:=.fields #[.ref t,.none,.ref h,.none,.bool true,.none] }->E (.ref e) { s₁ with heap:=h' }) E s) :
    wpAny (model prog w) A (raiseStmt env (some x) (some c)) Q E s:=by
  have hcB:(Value.ref C :: bm).contains (.type "BaseException")=true:=by rw [List.contains_cons,hbase,Bool.or_true]
  unfold raiseStmt
  refine wpAny_bind (wpAny_mono hx (fun v s₁ h₁=>?_) fun _ _ x=>x)
  obtain⟨e,t,rfl,hC,he,nh,nC,⟨oh,vh,hoh,hdh,h2⟩,hE⟩:=h₁
  refine wpAny_bind (wpAny_holding (hc _ _ (wpAny_bind (wpAny_pure ?_))))
  obtain⟨hp,g,d,tk,os⟩:=s₁
  dsimp only at hC he hoh hE ⊢
  repeat (first |with_reducible refine wpAny_loadPart_at he ?_ |with_reducible refine wpAny_loadPart_at hC ?_ | (with_reducible refine wpAny_isSubtype_exc hC ?_;rw [hcB]) |wp_step)
  have he1:=Heap.get?_update_self (Obj.mapFields (·.setIfInBounds 3 Value.none)) he rfl
  have he2:=Heap.get?_update_self (Obj.mapFields (·.setIfInBounds 4 (Value.bool true))) he1 rfl
  have he3:=Heap.get?_update_self (Obj.mapFields (·.setIfInBounds 2 (Value.ref h))) he2 rfl
  have oth:∀ b o,b≠e->hp.get? b=some o->((hp.update e (Obj.mapFields (·.setIfInBounds 3 Value.none))).update e (Obj.mapFields (·.setIfInBounds 4 (Value.bool true)))).get? b=some o:=fun b o nb q=>by
    rw [Heap.get?_update_other _ _ (Ne.symm nb),Heap.get?_update_other _ _ (Ne.symm nb)]
    exact q
  refine XT hh nh (oth h oh nh hoh) hdh h2 he2 rfl (by show (2:Nat) < 6;decide) (hE _ (fun b o nb q=>?_) he3)
  rw [Heap.get?_update_other _ _ (Ne.symm nb)]
  exact oth b o nb q
end
section
variable {prog:Program}{w:World}{A:Around}{E:Value->Shared->Prop}{s:Shared}{env:Env}
variable {nm q:Str}{C N:Addr}{bs bm bmB:List Value}{hdct:Bool}{sn:List Str}{sub:List Value}{ab:Bool}{col:Option Bool}{dd:Option Addr}{k0 k1 k2 k3 k5:Option Value}{B newId initId:String}
theorem Zj (F:ExcBaseFacts B newId initId bmB) {mN:Str->Option Value}{x:Str}{np cpos pos jp:Pos}{j:Nat}{args:List Expr}{Q:Flow->Shared->Prop}{h:Addr}
    (hbase:bm.contains (.type "BaseException")=true) (hh:A.handled=some (.ref h)) (hplain:(backTo cpos (starEach args env)).any (·.1)=false) (hni:mN "__init__" =none)
    (hx:wpAny (model prog w) A (eval (.Name x np) env) (fun f s₁=>f=.ref C/\wpAny (model prog w) A (evalArgs (.ref C) true (backTo cpos (starEach args env)) [])
      (fun a s₂=>a.kw=[]/\a.pos.length≤sizeLine/\s₂.heap.get? C=some (excClassObj nm q C N bs bm hdct sn sub ab col dd k0 k1 k2 k3 k5 newId)/\s₂.heap.Ns N mN/\OwnTail s₂.heap bmB bm/\(∃ oh vh,s₂.heap.get? h=some oh/\oh.data=.fields vh/\vh[2]? =some .none)/\
        ∀ h1 e t,Heap.MadeExcOf s₂.heap h1 e (.ref C) a.pos->∀ h',(∀ b o,b≠e->h1.get? b=some o->h'.get? b=some o)->h'.get? e=some { cls:=.ref C,data:=.fields #[.ref t,.none,.ref h,.none,.bool true,.none] }->E (.ref e) { s₂ with heap:=h' }) E s₁) E s) :
    wpAny (model prog w) A (exec (.Raise (some (.Call (.Name x np) args [] cpos)) (some (.Constant .none j jp)) pos) env) Q E s:=by
  rw [arm_exec_Raise]
  simp only [evalOpt,Option.map]
  refine wpAny_bind (wpAny_standAt (Z3 (C:=C) (nm:=nm) (q:=q) (N:=N) (bs:=bs) (bm:=bm) (hdct:=hdct) (sn:=sn) (sub:=sub) (ab:=ab) (col:=col) (dd:=dd) (k0:=k0) (k1:=k1) (k2:=k2) (k3:=k3) (k5:=k5) (newId:=newId) hbase hh
    (fun s1 Q1 q1=>wpAny_bind (Constant_none (wpAny_bind (wpAny_standAt (wpAny_pure q1)))))
    (wpAny_bind (wpAny_mono (wpAny_Call_ofName (wpAny_mono hx (fun f s₁ h₁=>?_) fun _ _ x=>x)) (fun v s₃ h₃=>wpAny_bind (wpAny_standAt (wpAny_pure h₃))) fun _ _ x=>x))))
  obtain⟨rfl,h₁⟩:=h₁
  unfold callWith
  refine wpAny_bind (wpAny_holding (wpAny_mono h₁ (fun a s₂ h₂=>wpAny_bind (wpAny_standAt ?_)) fun _ _ x=>x))
  obtain⟨apos,akw⟩:=a
  obtain⟨hkw,hlen,hC,hn,T,hho,h₂⟩:=h₂
  obtain rfl:akw=[]:=hkw
  obtain⟨hp,g,d,tk,os⟩:=s₂
  simp only [hplain]
  refine wpAny_bind (wpAny_keeperOf_exc hC ?_)
  refine wpAny_bind (wpAny_call_exc_subT (hrest:=hlen) F T hC hn hni fun h' e hm=>wpAny_bind (wpAny_holding (wpAny_point (wpAny_pure ?_))))
  obtain⟨t,ht,_,_⟩:=hm.there
  obtain⟨oh,vh,ho,hd,h2⟩:=hho
  have old:∀ b o,hp.get? b=some o->b≠e:=fun b o q z=>by
    have z2:hp.get? e=none:=hm.new
    rw [<- z,q] at z2
    cases z2
  exact⟨e,t,rfl,hm.keeps _ _ hC,ht,old _ _ ho,Ne.symm (old _ _ hC),⟨oh,vh,hm.keeps _ _ ho,hd,h2⟩,fun h'' k1 k2=>h₂ h' e t hm h'' k1 k2⟩
end
noncomputable def trE (D B:Addr) (W:XK):XK:=fun c _ H=>(∃ C,c=.ref C/\C=D)/\W (.ref B) none H
def zca (D B:Addr) (tb:XK->TS) (W:XK):TS:=tb (trE D B W)
section
variable {X:Cx}
theorem zdp {body:List Stmt}{x y:Str}{np hpos pos yp cpos rpos jp sp:Pos}{j js:Nat}{msg:Str}{tb:XK->TS}{W:XK}{D B:Addr}
  (hgx:Gl X x) (hmx:X.mg x=some (.ref D)) (hx:exmOne X.K (.ref D) (.ref D)=some true) (hgy:Gl X y) (hmy:X.mg y=some (.ref B)) (m:XMake X.K B) (L:jN X W)
  (hpo:∀ e:Addr,PassesOwnAt (model X.prog X.w) (X.A.mark (some (.ref e))) X.A X.env X.xe)
  (hb:∀ pins Z W',ux true (X.tried pins Z) W'->PSs (X.tried pins Z) body (tb W'))
  (hst:X.stack=X.env :: X.outer:=by rfl) (hfr:X.env.frame=some X.env.locals:=by rfl) (hdx:(x == ("__debug__":Str))=false:=by decide) (hdy:(y == ("__debug__":Str))=false:=by decide) :
  PS X (.Try body [.ExceptHandler (some (.Name x np)) none [.Raise (some (.Call (.Name y yp) [.Constant (.str msg) js sp] [] cpos)) (some (.Constant .none j jp)) rpos] hpos] [] [] pos) (zca D B tb W):=by
 intro pins s σ H Dn I h1
 refine wpAny_Try_except ?_
 have mono:∀ Z,ux true (X.tried pins Z) (trE D B W)->wpAny (model X.prog X.w) X.A (execs body X.env) (fun f s₁=>match f with |.next=>wpAny (model X.prog X.w) X.A (execs [] X.env) (SP X pins Dn) X.xe s₁ |f=>SP X pins Dn f s₁) Z s:=fun Z L=>by
  refine wpAny_mono (hb pins Z _ L [] s σ H Dn (I.tried Z) h1) (fun f s1 q=>?_) fun _ _ z=>z
  cases f with
  |next=>
   obtain⟨σ',H',J,q⟩:=q
   exact wpAny_execs_nil ⟨σ',H',J.untried,q⟩
  |brk=>
   obtain⟨σ',H',J,q⟩:=q
   exact⟨σ',H',J.untried,q⟩
  |cont=>
   obtain⟨σ',H',J,q⟩:=q
   exact⟨σ',H',J.untried,q⟩
  |ret u=>
   obtain⟨v,σ',H',J,r,q⟩:=q
   exact⟨v,σ',H',J.untried,r,q⟩
 refine mono _ ?_
 rintro ev s' ⟨pins',σ',H',e,C,fp,rfl,I',F,hf,⟨C',eC,rfl⟩,hw⟩
 cases eC
 have fr:X.A.frames=some (X.env :: X.outer):=I.ok.frames.trans (by rw [hst])
 have st:s'.heap.FunFrames X.base (X.env :: X.outer):=by
  have z:=I'.stack
  rw [show (X.tried pins _).stack=X.env :: X.outer from hst] at z
  exact z
 refine ZK (base:=X.base) (outer:=X.outer) fr st hfr F fun h' T z1 z2 NN F'=>?_
 rw [<- hst] at NN
 have fT:FpX X pins H' T:=by
  rcases z1 with z1 |z1
  ·exact (I'.untried).fpX (Heap.get?_none_of_le z1) (I'.hok.fresh z1)
  ·obtain⟨k0,k1,k2,k3,k4,k5⟩:=hf T z1
   exact⟨k0,k1,k2,k3,k4,fun p hp=>k5 p (List.mem_append_left _ hp)⟩
 have fe:FpX X pins H' e:=by
  obtain⟨k0,k1,k2,k3,k4,k5⟩:=hf e F.self
  exact⟨k0,k1,k2,k3,k4,fun p hp=>k5 p (List.mem_append_left _ hp)⟩
 have I2:Inv X pins (List.replicate X.N.length none) H' { s' with heap:=h' }:=(I'.noted NN hf).untried.forget
 have I3:=I2.suite e rfl
 have hfp:∀ b∈[e,T],FpX X pins H' b:=fun b hb=>by
  rcases List.mem_cons.mp hb with z |z
  ·rw [z]
   exact fe
  ·rw [List.mem_singleton.mp z]
   exact fT
 refine wpAny_handleBy_cons (codeAny_handlers_test (ud I3 hgx hmx ?_ hdx)) (by intro q;cases q)
 have LT:Looks (model X.prog X.w) h' (typeOf (.ref e)) (.ref C):=by
  obtain⟨oe,_,he,hc,_⟩:=F'
  exact hc.1 ▸ (Looks.ld he).andThen .now
 refine (exm_one I3.kIn LT hx).here ?_
 refine codeAny_handlers_suite (Yu (fs:=frs X.stack) F' fun h5 N5 F5=>?_)
 have I5:Inv X pins (List.replicate X.N.length none) H' { s' with heap:=h5 }:=I2.noted N5 hfp
 obtain⟨oe,vs,he,hc,hd,⟨_,hz2⟩,_⟩:=F5
 have I6:Inv X (pins ++ [(e,oe)]) (List.replicate X.N.length none) H' { s' with heap:=h5 }:=I5.pins_of fun p hp=>by
  rcases List.mem_append.mp hp with z |z
  ·exact I5.pin p (List.mem_append_right _ z)
  ·rw [List.mem_singleton.mp z]
   exact⟨he,fe.1,fe.2.1,fe.2.2.1,fun v q=>by rw [hd] at q;cases q⟩
 have I7:=I6.suite e rfl
 obtain⟨Bx,nid,iid,bmB,Fx,bm,ns,nm,qn,bs,hdct,sn,sub,ab,col,dd,k0,k1,k2,k3,k5,mN,lc,ln,hni,TL⟩:=m.obj I5.mod.kin
 refine wpAny_execs_cons (Zj (h:=e) (nm:=nm) (q:=qn) (N:=ns) (bs:=bs) (hdct:=hdct) (sn:=sn) (sub:=sub) (ab:=ab) (col:=col) (dd:=dd) (k0:=k0) (k1:=k1) (k2:=k2) (k3:=k3) (k5:=k5) Fx (TL.hasType Fx.hasBase) rfl rfl hni (ud I7 hgy hmy ⟨rfl,?_⟩ hdy))
 have ar:=(VM zj Q5:PA (X.suite (pins ++ [(e,oe)]) e) [.Constant (.str msg) js sp] _) cpos [] _ _ H' (fun vs H1=>vs=[.str msg]/\H1=H') I7 ⟨rfl,rfl⟩
 refine wpAny_mono (evalArgs_plain (thn ar fun us s1 ⟨vs,H1,I1,r,q⟩=>?_)) (fun _ _ z=>z) (fun _ _ z=>False.elim z)
 obtain⟨rfl,rfl⟩:=q
 have pe:=I1.pin (e,oe) (by simp)
 have J1:Inv X (pins ++ [(e,oe)]) (List.replicate X.N.length none) H1 s1:=I1.unsuite I.ok.hd rfl
 have J2:Inv X pins (List.replicate X.N.length none) H1 s1:=J1.pins_of fun p hp=>J1.pin p (List.mem_append_right _ (List.mem_append_left _ hp))
 refine⟨rfl,by rw [<- r.length];show (1:Nat)≤_;decide,I1.bk _ _ lc,ln.keeps I1.bk,TL.keeps I1.bk,⟨oe,_,pe.1,hd,hz2 rfl⟩,fun h1 e' t M h'' k1 k2=>hpo e _ _ (L _ _ ?_)⟩
 have ne:∀ b o,s1.heap.get? b=some o->b≠e':=fun b o q z=>by
  have z2:=M.new
  rw [<- z,q] at z2
  cases z2
 have J3:Inv X pins (List.replicate X.N.length none) H1 { s1 with heap:=h'' }:=J2.kept (t':=s1.toks) fun b o q=>k1 b o (ne b o q) (M.keeps b o q)
 refine⟨pins,_,H1,e',B,[e'],rfl,J3,⟨_,_,k2,⟨rfl,rfl⟩,rfl,⟨by show (1:Nat) < 6;decide,fun z=>by cases z⟩,.inl ⟨rfl,rfl⟩⟩,fun b hb=>?_,hw⟩
 cases List.mem_singleton.mp hb
 exact J2.fpX M.new (Xp J2.hok M.new)
end
end L2
namespace L2
open PySem PySem.Spec PyProof.Rows
section
variable {M:Model}{A:Around}{E:Value->Shared->Prop}{s:Shared}
theorem Uq {z:Bool}{base:Heap}{env:Env}{outer:List Env}{L e C:Addr}{oe:Obj}{vs:Array Value}{head:Value}{hadNext:Bool}{Q:Unit->Shared->Prop}
  (hfr:A.frames=some (env :: outer)) (hl:s.heap.FunFrames base (env :: outer)) (hf:env.frame=some L) (he:s.heap.get? e=some oe) (hc:oe.cls=.ref C/\oe.dict=none) (hd:oe.data=.fields vs) (hzz:1 < vs.size/\(z=true->vs[2]? =some .none))
  (h:∀ h' T,s.heap.objs.size≤T->Noted (frs (env :: outer)) [e] s.heap h'->xm z h' e C [e,T]->Q () { s with heap:=h' }) :
  wpAny M A (do let a <- frameOf env;let pl <- entryPlaceOf L hadNext;let b <- EntryCells.newEntry head a .none (rawInt L) .none pl;setField (.ref e) 1 b) Q E s:=by
 have hz:=hzz.1
 have ef:e ∉ frs (env :: outer):=fun hm=>by
  obtain⟨_,o,ho,hn⟩:=hl.mem hm
  rw [he] at ho
  cases ho
  exact hn vs hd
 refine wpAny_bind (wpAny_frameOf_fun hfr hl hf fun h1 s1=>?_)
 refine wpAny_bind (wpAny_entryPlaceOf fun pl hp=>?_)
 unfold EntryCells.newEntry newFields
 refine wpAny_bind (wpAny_newObj_type ?_ (hp.sizeOk5 _ _ _ _ _))
 generalize hO:({ cls:=.type "traceback",dict:=none,data:=.fields ([head,.ref L,.none,rawInt L,.none] ++ (if pl.isEmpty then List.replicate 6 Value.none else pl)).toArray }:Obj)=O
 have he1:h1.get? e=some oe:=(s1.2.1 e ef).trans he
 have he2:(h1.push O).get? e=some oe:=Heap.get?_push_of_some _ he1
 have nTe:h1.objs.size≠e:=Nat.ne_of_gt (Heap.lt_size he1)
 have hd3:=Obj.data_mapFields hd (·.setIfInBounds 1 (Value.ref h1.objs.size))
 have he3:=Heap.get?_update_self (Obj.mapFields (·.setIfInBounds 1 (Value.ref h1.objs.size))) he2 (Obj.isFreed_of_fields hd3)
 have hOd:O.data=.fields ([head,.ref L,.none,rawInt L,.none] ++ (if pl.isEmpty then List.replicate 6 Value.none else pl)).toArray:=by rw [<- hO]
 have hOf:O.isFreed=false:=Obj.isFreed_of_fields hOd
 have hT3:((h1.push O).update e (Obj.mapFields (·.setIfInBounds 1 (Value.ref h1.objs.size)))).get? h1.objs.size=some O:=(Heap.get?_update_other (h1.push O) (Obj.mapFields (·.setIfInBounds 1 (Value.ref h1.objs.size))) (Ne.symm nTe)).trans (Heap.get?_push_size h1 hOf)
 have kp:∀ b o,b≠e->h1.get? b=some o->((h1.push O).update e (Obj.mapFields (·.setIfInBounds 1 (Value.ref h1.objs.size)))).get? b=some o:=fun b o hb q=>by
  rw [Heap.get?_update_other _ _ (Ne.symm hb)]
  exact Heap.get?_push_of_some _ q
 refine wpAny_setField he2 hd hz (h _ h1.objs.size (Nat.le_of_eq s1.1.symm) ⟨?_,?_,?_⟩ ?_)
 ·intro b o q nb nf
  exact kp b o (fun z=>nb (by simp [z])) ((s1.2.1 b nf).trans q)
 ·intro b o q nb
  obtain⟨sl,q2⟩:=s1.2.2 b o q
  exact⟨sl,kp b _ (fun z=>nb (by simp [z])) q2⟩
 ·intro b o q
  by_cases z:b=e
  ·rw [z]
   exact⟨_,he3⟩
  ·obtain⟨sl,q2⟩:=s1.2.2 b o q
   exact⟨_,kp b _ z q2⟩
 ·exact⟨_,_,he3,⟨(Obj.cls_mapFields _ _).trans hc.1,(Yt _ _).trans hc.2⟩,hd3,⟨by simpa using hz,fun q=>by rw [Array.getElem?_setIfInBounds_ne (by decide)];exact hzz.2 q⟩,.inr ⟨_,_,_,by simp [hz],nTe,hT3,hOd,⟨_,rfl⟩,rfl⟩⟩
theorem ze4 {z:Bool}{base:Heap}{env:Env}{outer:List Env}{L e C:Addr}{fp:List Addr}{Q:Unit->Shared->Prop}
  (hfr:A.frames=some (env :: outer)) (hl:s.heap.FunFrames base (env :: outer)) (hf:env.frame=some L) (F:xm z s.heap e C fp)
  (h:∀ h' T,(s.heap.objs.size≤T\/T∈fp)->Noted (frs (env :: outer)) fp s.heap h'->xm z h' e C [e,T]->Q () { s with heap:=h' }) :
  wpAny M A (noteFrame (.ref e) env) Q E s:=by
 obtain⟨oe,vs,he,hc,hd,hz,⟨h1,rfl⟩ | ⟨T,oT,ts,h1,nT,hT,hdT,h3,rfl⟩⟩:=F
 ·unfold noteFrame
  simp only [hf]
  refine wpAny_bind (wpAny_field he hd h1 ?_)
  rw [if_neg (by decide)]
  exact Uq hfr hl hf he hc hd hz fun h' T z1 N F=>h h' T (.inl z1) N F
 ·obtain⟨q3,h3⟩:=h3
  unfold noteFrame
  simp only [hf]
  refine wpAny_bind (wpAny_field he hd h1 ?_)
  rw [if_pos (show (Value.ref T != Value.none)=true from by simp)]
  refine wpAny_bind (wpAny_field hT hdT h3 ?_)
  by_cases own:(q3 == rawInt L)=true
  ·rw [if_pos own]
   exact wpAny_pure (h _ T (.inr (by simp)) ⟨fun _ _ q _ _=>q,fun b o q _=>⟨o.slots,q⟩,fun _ o q=>⟨o,q⟩⟩ ⟨oe,vs,he,hc,hd,hz,.inr ⟨T,oT,ts,h1,nT,hT,hdT,⟨_,h3⟩,rfl⟩⟩)
  rw [if_neg own]
  refine wpAny_bind (wpAny_setField hT hdT (Array.getElem?_eq_some_iff.mp h3).1 ?_)
  have oth:∀ b,b≠T->(s.heap.update T (Obj.mapFields (·.setIfInBounds 3 Value.none))).get? b=s.heap.get? b:=fun b hb=>Heap.get?_update_other _ _ (Ne.symm hb)
  have hd4:=Obj.data_mapFields hdT (·.setIfInBounds 3 Value.none)
  have hT4:=Heap.get?_update_self (Obj.mapFields (·.setIfInBounds 3 Value.none)) hT (Obj.isFreed_of_fields hd4)
  have noR:∀ b o,s.heap.get? b=some o->(∀ vs,o.data≠.fields vs)->b≠T:=fun b o hb hn z=>by
   rw [z,hT] at hb
   cases hb
   exact hn ts hdT
  refine Uq (s:={ s with heap:=s.heap.update T (Obj.mapFields (·.setIfInBounds 3 Value.none)) }) hfr (hl.of_keeps fun b o hb hn=>⟨o,(oth b (noR b o hb hn)).trans hb,rfl⟩) hf ((oth e (Ne.symm nT)).trans he) hc hd hz fun h' T' z1 N F'=>?_
  have sz:(s.heap.update T (Obj.mapFields (·.setIfInBounds 3 Value.none))).objs.size=s.heap.objs.size:=Heap.size_after_update _ _ _
  have z1':s.heap.objs.size≤T':=by rw [<- sz];exact z1
  refine h h' T' (.inl z1') ⟨fun b o q nb nf=>?_,fun b o q nb=>?_,fun b o q=>?_⟩ F'
  ·have nbT:b≠T:=fun z=>nb (by simp [z])
   exact N.keep b o ((oth b nbT).trans q) (fun z=>nb (by rw [List.mem_singleton] at z;simp [z])) nf
  ·have nbT:b≠T:=fun z=>nb (by simp [z])
   exact N.slot b o ((oth b nbT).trans q) (fun z=>nb (by rw [List.mem_singleton] at z;simp [z]))
  ·by_cases z:b=T
   ·rw [z]
    exact N.there T _ hT4
   ·exact N.there b o ((oth b z).trans q)
end
theorem zaS {prog:Program}{w:World}{A:Around}{R:Result->Shared->Prop}{s:Shared}{elt tg iter:Expr}{ifs:List Expr}{scope:Scope}{pos:Pos}{it acc:Value}{env:Env}(J:Nat->Shared->Prop) {Z:Value->Shared->Prop}(hZ:∀ ev s',Z ev s'->notedBy (model prog w) A env (fun x s'=>R (.error x) s') ev s')
    (turn:∀ k s0,J k s0->wpAny (model prog w) A (pyNext it) (fun r s1=>match r with
      |none=>R (.ok .next) s1
      |some v=>wpAny (model prog w) A (letOwnedTupleGo tg it v) (fun _ s2=>wpAny (model prog w) A (assign tg env v) (fun _ s3=>
          wpAny (model prog w) A (forIn ifs true fun c r=>if r=true then do let ok <- isTrue c env (eval c env);pure (ForInStep.yield ok) else pure (ForInStep.yield r)) (fun ok s4=>
            if ok=true then wpAny (model prog w) A (eval elt env) (fun x s5=>wpAny (model prog w) A (call (.builtin "list.append") [acc,x]) (fun _ s6=>∃ j,j < k/\J j s6) (fun _ _=>False) s5) Z s4
            else ∃ j,j < k/\J j s4) (fun _ _=>False) s3) (fun _ _=>False) s2) (fun _ _=>False) s1) (fun _ _=>False) s0)
    (k:Nat) (h:J k s):codeAny (model prog w) A (.compLoop (.ListComp elt [⟨tg,iter,ifs,0⟩] scope pos) 0 it acc env) R s:=by
  refine codeAny_loop rfl J (fun k0 s0 hJ=>?_) k h
  show wpAny _ A ((compTurn (.ListComp elt [⟨tg,iter,ifs,0⟩] scope pos) 0 it acc env).onRaise (fun x=>do noteFrame x env;theTreesLotGoes x)) _ _ s0
  refine wpAny_noted ?_
  rw [compTurn_list]
  refine wpAny_bind (wpAny_standAt (wpAny_bind (wpAny_mono (turn k0 s0 hJ) (fun r s1 h1=>?_) fun _ _ f=>f.elim)))
  cases r with
  |none=>exact wpAny_pure h1
  |some v=>
    refine wpAny_bind (wpAny_mono h1 (fun _ s2 h2=>wpAny_bind (wpAny_mono h2 (fun _ s3 h3=>wpAny_bind (wpAny_mono h3 (fun ok s4 h4=>?_) fun _ _ f=>f.elim)) fun _ _ f=>f.elim)) fun _ _ f=>f.elim)
    cases ok with
    |false=>exact wpAny_pure ⟨rfl,h4⟩
    |true=>exact wpAny_bind (wpAny_bind (wpAny_mono h4 (fun x s5 h5=>wpAny_bind (wpAny_mono h5 (fun _ s6 h6=>wpAny_pure (wpAny_pure ⟨rfl,h6⟩)) fun _ _ f=>f.elim)) hZ))
theorem Qt {z:Bool}{s:Shared}{fr:Option Addr}{M:Model}{A:Around}{E:Value->Shared->Prop}{e C T:Addr}{fs:List Addr}{Q:Unit->Shared->Prop}(F:xm z s.heap e C [e,T]) (h:∀ h',Noted fs [e,T] s.heap h'->xm z h' e C [e,T]->Q () { s with heap:=h' }) :
  wpAny M A (setFlight (.ref e) fr) Q E s:=by
 obtain⟨oe,vs,he,hc,hd,hz,⟨_,z⟩ | ⟨T',oT,ts,h1,nT,hT,hdT,h3,z⟩⟩:=F
 ·cases z
 ·cases z
  unfold setFlight
  refine wpAny_bind (wpAny_field he hd h1 ?_)
  rw [if_pos (show (Value.ref T != Value.none)=true from by simp)]
  obtain⟨q3,h3⟩:=h3
  have l3:=(Array.getElem?_eq_some_iff.mp h3).1
  refine wpAny_setField hT hdT l3 ?_
  have d4:=Obj.data_mapFields hdT (·.setIfInBounds 3 (fr.elim Value.none fun f=>rawInt f))
  have g4:=Heap.get?_update_self (Obj.mapFields (·.setIfInBounds 3 (fr.elim Value.none fun f=>rawInt f))) hT (Obj.isFreed_of_fields d4)
  have oth:∀ b,b≠T->(s.heap.update T (Obj.mapFields (·.setIfInBounds 3 (fr.elim Value.none fun f=>rawInt f)))).get? b=s.heap.get? b:=fun b hb=>Heap.get?_update_other _ _ (Ne.symm hb)
  refine h _ ⟨fun b o q nb _=>(oth b fun z=>nb (by simp [z])).trans q,fun b o q nb=>⟨o.slots,(oth b fun z=>nb (by simp [z])).trans q⟩,fun b o q=>?_⟩ ⟨oe,vs,(oth e (Ne.symm nT)).trans he,hc,hd,hz,.inr ⟨T,_,_,h1,nT,g4,d4,?_,rfl⟩⟩
  ·by_cases z:b=T
   ·rw [z]
    exact⟨_,g4⟩
   ·exact⟨o,(oth b z).trans q⟩
  ·exact⟨_,Array.getElem?_setIfInBounds_self_of_lt l3⟩
section
variable {X:Cx}{pins:List (Addr×Obj)}{σ:St}{H:Hp}{s:Shared}{N:List Str}{n:Nat}{js:List Nat}{scope:Scope}{cl:List (Str×Addr)}
theorem zaT {elt tg iter:Expr}{ifs:List Expr}{pos:Pos}{g:TG}{tt:TT}{te:TE}{it:Addr}{fp:List Addr}{tn:Nat->Heap->Prop}{J:It}{Q:V->Hp->Prop}{E:Value->Shared->Prop}{RR:Value->Addr->Result->Shared->Prop}{W0:XK}
    (L:LcOk X N n js scope cl) (hc:X.calm=true) (I:Inv X pins σ H s) (T:Turn X.prog X.w X.K tg J fp it tn) (t0:tn 0 s.heap) (hf:∀ b∈fp,FpOk X pins H b)
    (hg:∀ C s0 H0 fp0,PG (zP X N scope cl C s0 H0 fp0) tg g) (ht:∀ C s0 H0 fp0,PTs (zP X N scope cl C s0 H0 fp0) ifs tt) (he:∀ C s0 H0 fp0 pins0 Z,jN ((zP X N scope cl C s0 H0 fp0).tried pins0 Z) W0->PE ((zP X N scope cl C s0 H0 fp0).tried pins0 Z) elt te)
    (hw:∀ D,H D=none->∃ W:Nat->Nat->St->Hp->Prop,(∃ m,W 0 m (uw n js σ) (upd H D (.lst [])))/\∀ i m σ' H',W i m σ' H'->
      (J.stop i H'/\Q (.ref D) H')\/(J.go i H'/\∃ Nx:St->Hp->Prop,(∀ σ2 H2,Nx σ2 H2->∃ m',m' < m/\W (i+1) m' σ2 H2)/\
        ∀ x H2,J.yld i H' x H2->g x σ' H2 fun σ3 H3=>tt σ3 H3 fun ok H4=>if ok=true then te σ3 H4 fun y H5=>∃ ys,H5 D=some (.lst ys)/\ys.length < sizeLine/\Nx σ3 (upd H5 D (.lst (ys ++ [y]))) else Nx σ3 H4))
    (finX:∀ D C pins0 Z ev s',s.heap.objs.size≤C->(∀ b∈fp,∃ o,(b,o)∈pins0)->Up ((zP X N scope cl C s H fp).tried pins0 Z) W0 ev s'->notedBy (model X.prog X.w) X.A (compEnvC scope cl C X.env) (fun x s''=>RR (.ref D) C (.error x) s'') ev s')
    (fin:∀ D C σ' H' s',s.heap.objs.size≤C->Inv (zP X N scope cl C s H fp) [] σ' H' s'->Q (.ref D) H'->RR (.ref D) C (.ok .next) s') :
    wpAny (model X.prog X.w) X.A (newList []) (fun acc s1=>wpAny (model X.prog X.w) X.A (newFunctionEnv scope X.env.globals cl [] X.env.qual none .none (some X.env)) (fun cenv s2=>
      codeAny (model X.prog X.w) X.A (.compStart (.ListComp elt [⟨tg,iter,ifs,0⟩] scope pos) 0 (.ref it) acc { cenv with scope:=relabel scope X.env }) (RR acc cenv.locals) s2) E s1) E s:=by
  refine wpAny_newObj_type (wpAny_newFunctionEnv L.nocell (by intro y hy;simp at hy) (fun h1 hn1 hs1=>?_) L.kind)
  dsimp only at hn1 hs1 ⊢
  generalize hG:s.heap.push { cls:=.type "list",dict:=none,data:=.seq ([]:List Value).toArray } =G at hn1 hs1 ⊢
  have eC:G.objs.size=s.heap.objs.size+1:=by rw [<- hG,Heap.size_push]
  have hC:s.heap.objs.size≤G.objs.size:=by rw [eC];exact Nat.le_succ _
  have hDC:s.heap.objs.size≠G.objs.size:=by rw [eC];exact Nat.ne_of_lt (Nat.lt_succ_self _)
  have hlt:∀ b∈fp,b < s.heap.objs.size:=fun b hb=>by
    obtain⟨o,e,_⟩:=T.obj 0 _ t0 b hb
    exact Heap.lt_size e
  have old:∀ b o,s.heap.get? b=some o->h1.get? b=some o:=fun b o e=>by
    have hb:=Heap.lt_size e
    exact hs1.extBut b o (Nat.ne_of_lt (Nat.lt_of_lt_of_le hb hC)) (Heap.get?_push_of_some _ (hG ▸ Heap.get?_push_of_some _ e))
  have hl:h1.get? s.heap.objs.size=some { cls:=.type "list",data:=.seq ([]:List Value).toArray 0 }:=hs1.extBut _ _ hDC (Heap.get?_push_of_some _ (hG ▸ Heap.get?_push_size _ rfl))
  have I1:∀ tk,Inv (zP X N scope cl G.objs.size s H fp) [] (uw n js σ) (upd H s.heap.objs.size (.lst [])) { s with heap:=h1,toks:=tk }:=fun tk=>Inv.lc L I hf hlt (Nat.le_refl _) hC hDC hn1 old hl
  have t1:tn 0 h1:=T.keep _ _ _ t0 fun b _ o e=>old b o e
  obtain⟨W,⟨m0,w0⟩,step⟩:=hw s.heap.objs.size (I.hok.fresh (Nat.le_refl _))
  have fr1:∀ b∈fp,upd H s.heap.objs.size (.lst []) b=none:=fun b hb=>by
    rw [zg (Nat.ne_of_lt (hlt b hb))]
    exact (hf b hb).1
  have fps:∀ {H':Hp},(∀ b∈fp,H' b=none)->∀ b∈fp,FpOk (zP X N scope cl G.objs.size s H fp) [] H' b:=fun {H'} hn b hb=>by
    refine⟨hn b hb,Nat.ne_of_lt (Nat.lt_of_lt_of_le (hlt b hb) hC),fun hz=>?_,.inl hb,fun x c e=>(hf b hb).2.2.2.2.1 x c (L.cells x c e),fun p hp=>absurd (show p∈([]:List (Addr×Obj)) from hp) (by simp)⟩
    rcases List.mem_cons.mp (I.stkSub b hz) with z |z
    · exact (hf b hb).2.1 z
    · exact (hf b hb).2.2.1 z
  have loop:∀ s0:Shared,s0= { s with heap:=h1,toks:=s.toks+([]:List (Str×Value)).length }->
      codeAny (model X.prog X.w) X.A (.compLoop (.ListComp elt [⟨tg,iter,ifs,0⟩] scope pos) 0 (.ref it) (.ref s.heap.objs.size) (compEnvC scope cl G.objs.size X.env)) (RR (.ref s.heap.objs.size) G.objs.size) s0:=by
    rintro s0 rfl
    refine zaS (Z:=notedBy (model X.prog X.w) X.A (compEnvC scope cl G.objs.size X.env) (fun x s''=>RR (.ref s.heap.objs.size) G.objs.size (.error x) s'')) (hZ:=fun _ _ z=>z) (fun k s'=>∃ i σ' H',Inv (zP X N scope cl G.objs.size s H fp) [] σ' H' s'/\tn i s'.heap/\(∀ b∈fp,H' b=none)/\W i k σ' H') ?_ m0 ⟨0,_,_,I1 _,t1,fr1,w0⟩
    rintro k s3 ⟨i,σ3,H3,I3,t3,fr3,w3⟩
    rcases step i k σ3 H3 w3 with⟨stop,qn⟩ | ⟨go,Nx,hN,body⟩
    · refine thn (T.done (zP X N scope cl G.objs.size s H fp) rfl rfl rfl hc i [] s3 σ3 H3 _ I3 (fps fr3) t3 stop) fun r s4 ⟨hr,I4⟩=>?_
      subst hr
      exact fin _ _ σ3 H3 s4 hC I4 qn
    · refine thn (T.item (zP X N scope cl G.objs.size s H fp) rfl rfl rfl hc i [] s3 σ3 H3 _ I3 (fps fr3) t3 go) fun r s4 ⟨u,hr,h4⟩=>?_
      subst hr
      refine thn h4 fun _ s5 ⟨x,H5,I5,r5,y5,t5,fr5⟩=>?_
      have I5':=I5.pinned (fps fr5) (T.obj _ _ t5)
      refine thn (hg _ _ _ _ _ s5 σ3 H5 x u _ I5' r5 (body x H5 y5)) fun _ s6 ⟨σ6,H6,I6,q6⟩=>?_
      have again:∀ {σ7:St}{H7:Hp}{s7:Shared},Inv (zP X N scope cl G.objs.size s H fp) ([] ++ ur fp s5.heap) σ7 H7 s7->Nx σ7 H7->
          ∃ j,j < k/\∃ i σ' H',Inv (zP X N scope cl G.objs.size s H fp) [] σ' H' s7/\tn i s7.heap/\(∀ b∈fp,H' b=none)/\W i j σ' H':=fun {σ7 H7 s7} I7 n7=>by
        obtain⟨m',hm,w7⟩:=hN σ7 H7 n7
        refine⟨m',hm,i+1,σ7,H7,I7.unpinned,T.keep _ _ _ t5 fun b hb o e=>(I7.pin (b,o) (List.mem_append_right _ (List.mem_append_right _ (xw hb e)))).1,fun b hb=>?_,w7⟩
        obtain⟨o,e,_⟩:=T.obj _ _ t5 b hb
        exact (I7.pin (b,o) (List.mem_append_right _ (List.mem_append_right _ (xw hb e)))).2.1
      refine thn (ht _ _ _ _ _ s6 σ6 H6 _ I6 q6) fun ok s7 ⟨H7,I7,q7⟩=>?_
      cases ok with
      |false=>
        rw [if_neg (by decide)] at q7 ⊢
        exact again I7 q7
      |true=>
        rw [if_pos rfl] at q7 ⊢
        refine wpAny_mono (he _ _ _ _ ([] ++ ur fp s5.heap) _ (fun ev s' up=>finX _ _ _ _ _ _ hC (fun b hb=>by
          obtain⟨o,e,_⟩:=T.obj _ _ t5 b hb
          exact⟨o,List.mem_append_right _ (xw hb e)⟩) up) [] s7 σ6 H7 _ (I7.tried _) q7) (fun v s8 ⟨y,H8,I8,r8,ys,e8,z8,q8⟩=>?_) fun _ _ z=>z
        replace I8:=I8.untried
        refine thn (yL _ s8 σ6 H8 (.ref s.heap.objs.size) [y] (.ref s.heap.objs.size) [v] (fun _ H9=>Nx σ6 H9) I8 rfl (.cons r8 .nil) ⟨_,ys,y,rfl,rfl,e8,z8,q8⟩) fun _ s9 ⟨_,H9,I9,_,q9⟩=>?_
        exact again I9 q9
  exact codeAny_compStart_list (loop _ rfl) (T.self X.A 0 _ _ _ t1 (loop _ rfl))
theorem ze5 {elt tg iter:Expr}{ifs:List Expr}{pos:Pos}{wi:TI}{g:TG}{tt:TT}{te:TE}{W0:XK}(LX:jN X W0) (L:LcOk X N n js scope cl) (hc:X.calm=true) (hi:PI X tg iter wi)
  (hg:∀ C s0 H0 fp0,PG (zP X N scope cl C s0 H0 fp0) tg g) (ht:∀ C s0 H0 fp0,PTs (zP X N scope cl C s0 H0 fp0) ifs tt)
  (he:∀ C s0 H0 fp0 pins0 Z,jN ((zP X N scope cl C s0 H0 fp0).tried pins0 Z) W0->PE ((zP X N scope cl C s0 H0 fp0).tried pins0 Z) elt te)
  (hs:∀ x,foldedSetIterable iter X.env x=pure x:=by intro _;rfl) (hst:X.stack=X.env :: X.outer:=by rfl) (hfr:X.env.frame=some X.env.locals:=by rfl):PE X (.ListComp elt [⟨tg,iter,ifs,0⟩] scope pos) (tLc wi n js g tt te):=by
 intro pins s σ H Q I h
 rw [eval_ListComp]
 refine wpAny_comprehension_free (use:=none) rfl hs L.clos L.kind L.names (thn (hi pins s σ H _ I h) fun v s1 h1=>thn h1 fun itv s2 h2=>?_)
 obtain⟨it,fp,tn,J,H2,e,I2,T,t2,f2,hw⟩:=h2
 subst e
 refine zaT (W0:=W0) (RR:=fun acc C=>compPost (model X.prog X.w) X.A X.xe none (EP X pins σ Q) acc C) L hc I2 T t2 f2 hg ht he hw ?_ ?_
 ·rintro D C pins0 Z ev s' hC hp ⟨pins',σ',H',e,Cc,fq,rfl,I',F,hf,hw⟩
  have fr:X.A.frames=some (X.env :: X.outer):=I.ok.frames.trans (by rw [hst])
  have st:s'.heap.FunFrames X.base (X.env :: X.outer):=by
   have z:=I'.stack
   rw [show ((zP X N scope cl C s2 H2 fp).tried pins0 Z).stack=X.env :: X.outer from hst] at z
   exact z
  show wpAny (model X.prog X.w) X.A (noteFrame (.ref e) X.env) _ _ s'
  refine ze4 (base:=X.base) (outer:=X.outer) fr st hfr F fun h1 T1 z1 NN F'=>?_
  have fT:FpX ((zP X N scope cl C s2 H2 fp).tried pins0 Z) pins' H' T1:=by
   rcases z1 with z1 |z1
   ·exact I'.fpX (Heap.get?_none_of_le z1) (I'.hok.fresh z1)
   ·exact hf T1 z1
  have fe:=hf e F.self
  rw [<- hst] at NN
  have J1:=(Inv.noted I' NN hf).untried
  have J2:Inv (zP X N scope cl C s2 H2 fp) [] σ' H' { s' with heap:=h1 }:=J1.pins_of fun p hp=>absurd (show p∈([]:List (Addr×Obj)) from hp) (by simp)
  obtain⟨m,hn,_⟩:=id J2.loc
  refine⟨m,hn,fun h' hs cenv _=>?_⟩
  have F2:Fly h' e Cc [e,T1]:=F'.keep fun b hb o q=>by
   rcases List.mem_cons.mp hb with z |z
   ·rw [z] at q ⊢
    exact (hs.2 e fe.2.1).trans q
   ·rw [List.mem_singleton.mp z] at q ⊢
    exact (hs.2 T1 fT.2.1).trans q
  have I3:Inv X pins σ H' { s' with heap:=h' }:=Inv.unlc (s':={ s' with heap:=h1 }) (h':=h') I2 f2 hC J2 hs
  have nf:∀ b,FpX ((zP X N scope cl C s2 H2 fp).tried pins0 Z) pins' H' b->FpX X pins H' b:=fun b k=>by
   obtain⟨k0,_,_,k3,_,k5⟩:=k
   rcases k3 with k3 |k3
   ·obtain⟨o,ho⟩:=hp b k3
    exact absurd rfl (k5 (b,o) (List.mem_append_left _ (List.mem_append_right _ ho)))
   ·exact I2.fpX k3 k0
  have hfp:∀ b∈[e,T1],FpX X pins H' b:=fun b hb=>by
   rcases List.mem_cons.mp hb with z |z
   ·rw [z];exact nf _ fe
   ·rw [List.mem_singleton.mp z];exact nf _ fT
  unfold PySem.passOn
  obtain⟨oe,vs,he',hc',hd',hz',⟨_,z⟩ | ⟨T',oT,ts,h1',nT,hT,hdT,h3,z⟩⟩:=id F2
  ·cases z
  refine wpAny_bind (wpAny_field he' hd' h1' ?_)
  rw [if_neg (show ¬ ((Value.ref T' == Value.none)=true) from by simp)]
  refine wpAny_bind (Qt (fs:=frs X.stack) F2 fun h'' N'' F''=>wpAny_throw (LX _ _ ⟨pins,σ,H',e,Cc,[e,T1],rfl,I3.noted N'' hfp,F'',hfp,hw⟩))
 ·intro D C σ' H' s' hC I' q
  obtain⟨m,hn,_⟩:=I'.loc
  exact⟨m,hn,fun h' hs'=>⟨.ref D,H',I2.unlc f2 hC I' hs',rfl,q⟩⟩
end
section
variable {K:W.Frag}
theorem zaU {wi:TI}{Wi:TIW}{g:TG}{G:TGW}{tb:XK->TS}{TB:YK->TSW}(hi:uA K wi Wi) (hg:RefG K g G) (hb:xg K tb TB):xg K (fun E=>KI wi g (tb E)) (fun Y=>zaj Wi G (TB Y)):=by
 intro E Y Γ O H ρ σ D DW S r m hT e
 refine hi _ _ _ _ _ S r _ _ hT fun Γ1 O1 H1 J ws keep l1 S1 ok h1=>?_
 obtain⟨Pv,p0,pk,ps,pd⟩:=h1
 refine⟨fun i m' σ' H'=>i≤ws.length/\m'=ws.length - i/\∃ Γ' O' ρ',Le Γ1 Γ'/\Sim K Γ' O' H'/\relR K Γ' ρ' σ'/\Pv i ρ' O',⟨_,Nat.zero_le _,rfl,Γ1,O1,ρ,Le.refl _,S1,r.mono l1,p0⟩,?_⟩
 rintro i m' σ' H' ⟨hi,rfl,Γ',O',ρ',l',S',r',p'⟩
 obtain⟨ok1,ok2⟩:=ok i Γ' O' H' l'.z l'.g S' (pk _ _ _ p')
 by_cases hlt:i < ws.length
 ·obtain⟨go,y⟩:=ok1 _ (List.getElem?_eq_getElem hlt)
  refine .inr ⟨go,fun σ2 H2=>∃ Γ2 O2 ρ2,Le Γ1 Γ2/\Sim K Γ2 O2 H2/\relR K Γ2 ρ2 σ2/\Pv (i+1) ρ2 O2,fun σ2 H2 ⟨Γ2,O2,ρ2,l2,S2,r2,p2⟩=>⟨ws.length - (i+1),by omega,hlt,rfl,Γ2,O2,ρ2,l2,S2,r2,p2⟩,fun x H2 hy=>?_⟩
  obtain⟨Γ2,l2,S2,rx⟩:=y x H2 hy
  refine hg _ _ _ _ _ _ _ S2 (r'.mono l2) rx _ _ (ps i _ ρ' O' (List.getElem?_eq_getElem hlt) p') fun Γ3 O3 H3 ρ3 σ3 l3 S3 r3 h3=>?_
  have l13:=(l'.trans l2).trans l3
  refine hb E Y _ _ _ _ _ _ _ S3 r3 (m.mono (l1.trans l13)) h3 ⟨fun Γ4 O4 H4 ρ4 σ4 l4 S4 r4 h4=>⟨Γ4,O4,ρ4,l13.trans l4,S4,r4,h4⟩,fun Γ4 O4 H4 w v l4=>e.rt _ _ _ _ _ ((l1.trans l13).trans l4),fun Γ4 O4 H4 ρ4 σ4 l4=>e.nx _ _ _ _ _ ((l1.trans l13).trans l4),fun Γ4 O4 H4 ρ4 σ4 l4 S4 r4 h4=>⟨Γ4,O4,ρ4,l13.trans l4,S4,r4,h4⟩⟩
 ·have hi2:i=ws.length:=by omega
  refine .inl ⟨ok2 hi2,e.nx _ _ _ _ _ (l1.trans l') S' r' (pd _ _ ?_)⟩
  rw [<- hi2];exact p'
def ze6 (Wi:TIW) (n:Nat) (js:List Nat) (G:TGW) (T:TTW) (E:YK->TEW) (Y:YK):TEW:=fun ρ O R=>Wi ρ O fun ws keep O1=>ws.length≤10000000/\∃ J:Nat->List W->OM->Prop,J 0 [] O1/\(∀ i vs O',J i vs O'->keep O')/\
 (∀ i w vs O',ws[i]? =some w->J i vs O'->∀ us:WS,us.length=n->Y5 G T (E fun C O2=>∀ p us,O2 p=none->Y C (updO O2 p (.lst us))) n (yI js ρ) w (us ++ yI js ρ) O' fun y O2=>J (i+1) (vs ++ y.toList) O2)/\∀ vs O',J ws.length vs O'->∀ p,O' p=none->R (.own p) (updO O' p (.lst vs))
theorem zaV {wi:TI}{Wi:TIW}{n:Nat}{js:List Nat}{g:TG}{G:TGW}{tt:TT}{T:TTW}{te:XK->TE}{TE':YK->TEW}(hi:uA K wi Wi) (hg:RefG K g G) (ht:xo K tt T) (he:vE K te TE'):vE K (fun E=>tLc wi n js g tt (te E)) (ze6 Wi n js G T TE'):=by
 intro E Y Γ O H ρ σ S r m0 Q R hT k
 refine hi _ _ _ _ _ S r _ _ hT fun Γ1 O1 H1 J0 ws keep l1 S1 ok h1=>?_
 obtain⟨hlen,J,hJ0,hJk,hF,hR⟩:=h1
 intro D hD
 have hFD:Γ1.F D=none:=S1.f.free hD
 have r1:=je (r.mono l1) n js
 refine⟨fun i m σ' H'=>i≤ws.length/\m=ws.length - i/\∃ Γ' O' ρ' us vs,Same Γ1.Z Γ'.Z/\(∀ a rs,Γ1.G a=some rs->∃ more,Γ'.G a=some (rs ++ more))/\Γ'.F=upd Γ1.F D (.lst vs)/\Sim K Γ' O' H'/\relR K Γ' ρ' σ'/\
  ρ'.length=n+(yI js ρ).length/\ρ'.drop n=yI js ρ/\J i us O'/\us.length≤i/\relWs K Γ' us vs,⟨_,Nat.zero_le _,rfl,_,O1,_,[],[],Same.refl _,fun a rs h=>⟨[],by rw [List.append_nil];exact h⟩,rfl,S1.frameNew hD (.lst []),r1.setF,by simp,by simp,hJ0,Nat.le_refl _,.nil⟩,?_⟩
 rintro i m σ' H' ⟨hi,rfl,Γ',O',ρ',us,vs,z',g',f',S',r',n1,n2,hJ,hul,rp⟩
 obtain⟨ok1,ok2⟩:=ok i Γ' O' H' z' g' S' (hJk _ _ _ hJ)
 have hvl:vs.length≤i:=by rw [<- Paired.length rp];exact hul
 by_cases hlt:i < ws.length
 ·obtain⟨go,y⟩:=ok1 _ (List.getElem?_eq_getElem hlt)
  refine .inr ⟨go,fun σ2 H2=>∃ Γ2 O2 ρ2 us2 vs2,Same Γ1.Z Γ2.Z/\(∀ a rs,Γ1.G a=some rs->∃ more,Γ2.G a=some (rs ++ more))/\Γ2.F=upd Γ1.F D (.lst vs2)/\Sim K Γ2 O2 H2/\relR K Γ2 ρ2 σ2/\
   ρ2.length=n+(yI js ρ).length/\ρ2.drop n=yI js ρ/\J (i+1) us2 O2/\us2.length≤i+1/\relWs K Γ2 us2 vs2,fun σ2 H2 h=>⟨ws.length - (i+1),by omega,hlt,rfl,h⟩,fun x H2 hy=>?_⟩
  obtain⟨Γ2,l2,S2,rx⟩:=y x H2 hy
  obtain⟨ul,hus,rfl⟩:=kn n1 n2
  refine hg _ _ _ _ _ _ _ S2 (r'.mono l2) rx _ _ (hF i _ us O' (List.getElem?_eq_getElem hlt) hJ ul hus) fun Γ3 O3 H3 ρ3 σ3 l3 S3 r3 h3=>?_
  obtain⟨⟨m1,m2⟩,h3⟩:=h3
  refine ht _ _ _ _ _ S3 r3 _ _ h3 fun Γ4 O4 H4 b l4 S4 h4=>?_
  have l24:=(l2.trans l3).trans l4
  have up:∀ Γ5,Le Γ' Γ5->Same Γ1.Z Γ5.Z/\(∀ a rs,Γ1.G a=some rs->∃ more,Γ5.G a=some (rs ++ more)):=fun Γ5 l=>⟨z'.trans l.z,fun a rs h=>by
   obtain⟨m,e⟩:=g' a rs h
   obtain⟨m2,e2⟩:=l.g a _ e
   exact⟨m ++ m2,by rw [<- List.append_assoc];exact e2⟩⟩
  cases b with
  |true=>
   rw [if_pos rfl] at h4 ⊢
   refine he E _ _ _ _ _ _ S4 (r3.mono l4) (fun Γ5 O5 H5 Cc l5 S5 hY=>?_) _ _ h4 fun Γ5 O5 H5 w5 v5 l5 S5 r5 h5=>?_
   ·have l25:=l24.trans l5
    obtain⟨u1,u2⟩:=up Γ5 l25
    obtain⟨q1,q2⟩:=S5.unframeW (us:=us) (vs:=vs) (a:=D) (F:=Γ1.F) (by rw [l25.f,f']) hFD (Paired.mapP rp fun _ _ z=>z.mono l25)
    exact m0 ⟨Γ5.Z,Γ5.G,Γ1.F⟩ _ _ _ (l1.trans ⟨rfl,u1,u2⟩) q2 (hY D us q1)
   have l25:=l24.trans l5
   have f5:Γ5.F=upd Γ1.F D (.lst vs):=by rw [l25.f,f']
   have fD:Γ5.F D=some (.lst vs):=by rw [f5,zA]
   refine⟨vs,S5.f _ _ fD,(by rw [sizeLine_eq];omega),?_⟩
   obtain⟨u1,u2⟩:=up Γ5 l25
   refine⟨⟨Γ5.Z,Γ5.G,upd Γ5.F D (.lst (vs ++ [v5]))⟩,O5,ρ3,us ++ [w5],vs ++ [v5],u1,u2,?_,S5.framePut fD _,((r3.mono l4).mono l5).setF,m1,m2,h5,by rw [List.length_append];simpa using hul,?_⟩
   ·show upd Γ5.F D _=_
    rw [f5,ZA]
   ·exact Paired.appP (Paired.mapP rp fun _ _ z=>(z.mono l25).setF) (.cons r5.setF .nil)
  |false=>
   rw [if_neg (by decide)] at h4 ⊢
   obtain⟨u1,u2⟩:=up Γ4 l24
   refine⟨Γ4,O4,ρ3,us,vs,u1,u2,by rw [l24.f,f'],S4,r3.mono l4,m1,m2,by simpa using h4,by omega,Paired.mapP rp fun _ _ z=>z.mono l24⟩
 ·have hi2:i=ws.length:=by omega
  subst hi2
  refine .inl ⟨ok2 rfl,?_⟩
  obtain⟨q1,q2⟩:=S'.unframeW f' hFD rp
  exact k ⟨Γ'.Z,Γ'.G,Γ1.F⟩ _ _ _ _ (l1.trans ⟨rfl,z',g'⟩) q2 ug (hR us O' hJ D q1)
noncomputable def trY (D B:Addr) (Y:YK):YK:=fun C O=>C=D/\Y B O
def zcb (D B:Addr) (T:YK->TSW) (Y:YK):TSW:=T (trY D B Y)
theorem Kd {D B:Addr}{t:XK->TS}{T:YK->TSW}(h:xg K t T):xg K (zca D B t) (zcb D B T):=fun E Y Γ O H ρ σ D' DW S r m hT e=>
 h _ _ Γ O H ρ σ D' DW S r (fun Γ' O' H' C l S' ⟨e1,hY⟩=>⟨⟨C,rfl,e1⟩,m _ _ _ _ l S' hY⟩) hT e
end
noncomputable def yB {α:Type}(k:Int) (xs:List α):List α:=if k= -1 then xs.reverse else xs
theorem Ke:∀ (its:List Value),List.filterMap (fun x=>its[x]?) (List.range its.length)=its:=fun its=>by
 apply List.ext_getElem?
 intro i
 rw [show (fun x=>its[x]?)=fun x=>(its[x]?) from rfl]
 have:List.filterMap (fun x=>its[x]?) (List.range its.length)=(List.range its.length).map fun x=>its.getD x .none:=by
  have g:∀ l:List Nat,(∀ x∈l,x < its.length)->List.filterMap (fun x=>its[x]?) l=l.map fun x=>its.getD x .none:=fun l=>by
   induction l with
   |nil=>intro _;rfl
   |cons a l ih=>
    intro h
    have ha:=h a List.mem_cons_self
    rw [List.filterMap_cons,List.getElem?_eq_getElem ha,List.map_cons,<- ih fun x hx=>h x (List.mem_cons_of_mem _ hx),List.getD_eq_getElem?_getD,List.getElem?_eq_getElem ha]
    rfl
  exact g _ fun x hx=>List.mem_range.1 hx
 rw [this,List.getElem?_map]
 by_cases h:i < its.length
 ·simp [h]
 ·simp [h]
theorem zaW (its:List Value):slicePick its.toArray none none (some 1)=its.toArray:=by
 unfold slicePick
 simp [sliceBounds,sliceRange]
 have:(if 0 < its.length then (its.length:Int) else 0).toNat=its.length:=by split <;> omega
 rw [this]
 exact Ke its
theorem zaX (its:List Value):slicePick its.toArray none none (some (-1))=its.reverse.toArray:=by
 unfold slicePick
 simp [sliceBounds,sliceRange]
 have:(if -1 < (its.length:Int) - 1 then (its.length:Int) else 0).toNat=its.length:=by split <;> omega
 rw [this]
 have e:=Ke its.reverse
 rw [List.length_reverse] at e
 conv=>rhs;rw [<- e]
 have g:∀ l:List Nat,(∀ x∈l,x < its.length)->List.filterMap ((fun x=>its[x]?) ∘ fun k:Nat=>((its.length:Int) - 1+ -(k:Int)).toNat) l=List.filterMap (fun x=>its.reverse[x]?) l:=fun l=>by
  induction l with
  |nil=>intro _;rfl
  |cons a l ih=>
   intro h
   have ha:=h a List.mem_cons_self
   have q:its[((its.length:Int) - 1+ -(a:Int)).toNat]? =its.reverse[a]?:=by
    rw [List.getElem?_reverse ha]
    congr 1
    omega
   have q':((fun x=>its[x]?) ∘ fun k:Nat=>((its.length:Int) - 1+ -(k:Int)).toNat) a=its.reverse[a]?:=q
   rw [List.filterMap_cons,List.filterMap_cons,ih fun x hx=>h x (List.mem_cons_of_mem _ hx),q']
 exact g _ fun x hx=>List.mem_range.1 hx
theorem Kf (its:List Value) {k:Int}(h:k= 1\/k= -1):slicePick its.toArray none none (some k)=(yB k its).toArray:=by
 rcases h with rfl |rfl
 ·exact zaW its
 ·exact zaX its
theorem jn {α:Type}(k:Int) (xs:List α):(yB k xs).length=xs.length:=by unfold yB;split <;> simp
theorem Vals.step {xs:List V}{its:List Value}(k:Int) (h:Vals xs its):Vals (yB k xs) (yB k its):=by
 unfold yB
 split
 ·exact h.reverse
 ·exact h
def ze7 (K:W.Frag) (te tk:TE):TE:=fun σ H Q=>te σ H fun x H1=>tk σ H1 fun y H2=>∃ a xs k,x=.ref a/\y=.int k/\(k= 1\/k= -1)/\SqL K H2 a xs/\∀ p,H2 p=none->Q (.ref p) (upd H2 p (.lst (yB k xs)))
section
variable {X:Cx}
theorem YH {K:W.Frag}{e st:Expr}{te tk:TE}{p2 pos:Pos}(hK:X.K=K) (he:PE X e te) (hk:PE X st tk):PE X (.Subscript e (.Slice none none (some st) p2) pos) (ze7 K te tk):=by
 subst hK
 intro pins s σ H Q I h
 refine Subscript_ (thn (he pins s σ H _ I h) fun v s1 ⟨x,H1,I1,r1,q1⟩=>?_)
 refine wpAny_Slice ?_
 rw [evalPart_none]
 refine wpAny_pure (wpAny_pure ?_)
 refine thn (hk pins s1 σ H1 _ I1 q1) fun vk s2 ⟨y,H2,I2,r2,q2⟩=>?_
 obtain⟨a,xs,k,rfl,rfl,hk1,hq,q2⟩:=q2
 cases r1
 obtain⟨t,rfl⟩:=r2
 have I4:Inv X pins σ H2 { s2 with heap:=s2.heap.push { cls:=.type "slice",data:=.fields #[.none,.none,.int k t] } }:=I2.kept (t':=s2.toks) fun b ob q=>Heap.get?_push_of_some _ q
 obtain⟨its,r,ht,hz⟩:=I4.list hq
 have hlen:=r.length
 show wpAny (model X.prog X.w) X.A (subscriptTail e (.Slice none none (some st) p2) (.ref a) (.ref s2.heap.objs.size)) (EP X pins σ Q) X.xe { s2 with heap:=s2.heap.push { cls:=.type "slice",data:=.fields #[.none,.none,.int k t] } }
 refine tail_any (ops:=[.ref a,.ref s2.heap.objs.size]) ht.isList.typeIs slot_list_getitem.lookup ?_ (by with_unfolding_all rfl)
 refine wpAny_getItem_list_slice ht.isList (Heap.IsSliceOf.new ..) .none .none (.int k t) (by rcases hk1 with rfl |rfl <;> simp) ?_ (by rw [List.size_toArray] <;> omega)
 rw [Kf its hk1]
 refine⟨.ref _,_,I4.laid (t':=s2.toks) (o:=.lst (yB k xs)) (fun b ob q=>Heap.get?_push_of_some _ q) (Nat.le_refl _) ?_,rfl,q2 _ (I4.hok.fresh (Nat.le_refl _))⟩
 exact⟨by rw [jn];exact hz,_,0,r.step k,Heap.get?_push_size _ rfl⟩
end
section
variable {K:W.Frag}
def ze8 (Te Tk:TEW):TEW:=fun ρ O R=>Te ρ O fun x O1=>Tk ρ O1 fun y O2=>∃ ds k,zD O2 x=some (ds.map .d)/\y=.d (.int k)/\(k= 1\/k= -1)/\R (.d (.list (yB k ds))) O2
theorem XU {Z:Hp}:∀ {ds:List PyData}{vs:List V},Reps K Z ds vs->Reps K Z ds.reverse vs.reverse
 |[],_,h=>by cases (show _=[] from h);exact rfl
 |d :: ds,_,⟨x,r,e,h1,h2⟩=>by
  subst e
  rw [List.reverse_cons,List.reverse_cons]
  exact Reps.append (XU h2) ⟨x,[],rfl,h1,rfl⟩
theorem Kg {Z:Hp}{ds:List PyData}{vs:List V}(k:Int) (h:Reps K Z ds vs):Reps K Z (yB k ds) (yB k vs):=by
 unfold yB
 split
 ·exact XU h
 ·exact h
theorem zdq {te tk:TE}{Te Tk:TEW}(he:zx K te Te) (hk:zx K tk Tk):zx K (ze7 K te tk) (ze8 Te Tk):=by
 intro Γ O H ρ σ S r Q R hT k
 refine he _ _ _ _ _ S r _ _ hT fun Γ1 O1 H1 x v l1 S1 rx h1=>?_
 refine hk _ _ _ _ _ S1 (r.mono l1) _ _ h1 fun Γ2 O2 H2 y u l2 S2 ry h2=>?_
 obtain⟨ds,n,e,rfl,hn,h2⟩:=h2
 obtain⟨a,vs,rfl,q1,q2⟩:=yy S2 (rx.mono l2) e
 have q3:=zK q2
 refine⟨a,vs,n,rfl,ry,hn,q1,fun p hp=>?_⟩
 obtain⟨Γ',le,S',r'⟩:=ql S2 (Kg n q3) hp
 exact k _ _ _ _ _ ((l1.trans l2).trans le) S' r' h2
end
end L2
namespace L2
open PySem PySem.Spec PyProof.Rows PySem.Builtin PySem.Builtin.Str
theorem Qu (y z:Str) {u:Tok}(hu:u≠0):isSame (.str y u) (.str z u)=pure true:=by
 show isSame.created (y == z) u u=pure true
 unfold isSame.created
 have h0:(u == 0 || u == 0)=false:=by simp [hu]
 rw [if_neg (by rw [h0];simp),if_pos (by simp)]
theorem Z4 (x y z:Str) (t:Tok) {u:Tok}(hu:u≠0):Gives («str.replace» ⟨[.str x t,.str y u,.str z u],[]⟩) (.val (.str x t)):=by
  show Gives (if ((occurrences x y 0 x.length (x.length+1)).isEmpty || (y.length == 0 && z.length == 0))=true then (do rule "str.replace.nothing";ret (.str x t)) else
          (do let same <- isSame (.str y u) (.str z u)
              if same=true then (do rule "str.replace.old-is-new";ret (.str x t)) else
              if tooLong (x.length+(occurrences x y 0 x.length (x.length+1)).length*z.length)=true then unsupported "str.replace:memory" else
              retStr (glued z (partsBetween x (occurrences x y 0 x.length (x.length+1)) y.length)))) _
  cases hc:((occurrences x y 0 x.length (x.length+1)).isEmpty || (y.length == 0 && z.length == 0))
  · rw [Qu y z hu]
    exact .rule (.of_eq rfl)
  · exact .rule (.of_eq rfl)
section
variable {prog:Program}{w:World}{A:Around}{E:Value->Shared->Prop}{s:Shared}{x y z:Str}{t u v:Tok}{Q:Value->Shared->Prop}
theorem zaY (hu:u≠0) (hv:v≠0) (hyz:(y == z)=false) (hb:x.length+(x.length+1)*z.length≤16777216) (h1:Q (.str x t) s) (h2:∀ t' k,Q (.str (Txt.replace x y z) t') { s with toks:=k }) :
  wpAny (model prog w) A (call (.builtin "str.replace") [.str x t,.str y u,.str z v]) Q E s:=by
 by_cases e:u=v
 ·subst e
  exact call_givesAt (P:=fun _=>True) F.slot_str_replace (typeIs_str _ _ _) F.entry_str_replace (F.args_str_replace_3 _ _ _) (Z4 x y z t hu).at trivial h1
 ·exact SC.replace hu hv e hyz hb h2
end
theorem Ur {X:Cx}{pins:List (Addr×Obj)}{σ:St}{H:Hp}{s:Shared}{M:Model}{A:Around}{E:Value->Shared->Prop}{i:Nat}{x:Str}{v:V}{u:Value}{Q:Unit->Shared->Prop}(I:Inv X pins σ H s) (hN:X.N.Nodup) (hi:X.N[i]? =some x) (hk:X.env.scope.names.lookup x=some .local) (r:RelV v u)
  (h:∀ s' m,Inv X pins (σ.set i (some v)) H s'->1≤s'.toks->s'.heap.Ns X.env.locals m->m x=some u->(∀ y m0,s.heap.Ns X.env.locals m0->y≠x->m y=m0 y)->Q () s'):wpAny M A (storeName X.env x u) Q E s:=by
 obtain⟨m,hn,hl⟩:=id I.loc
 have hcls:(X.env.scope.kind == .class || (X.env.scope.kind == .module && X.env.locals != X.env.globals))=false:=by rw [I.ok.kind];rfl
 have hiσ:i < σ.length:=by rw [I.len];exact (List.getElem?_eq_some_iff.mp hi).1
 have cne:=I.cne
 have tracked:∀ {a:Addr}{h':Heap},(∃ o,s.heap.get? a=some o/\H a=none)->Heap.SameBut a s.heap h'->HOk X.prog X.w H h':=fun {a h'} ha hs b ob e=>by
  obtain⟨_,_,hfree⟩:=ha
  refine (I.hok b ob e).stay (fun c w' hc q=>(hs.2 c ?_).trans q) (fun _ q=>q) fun _ _ q=>q
  rintro rfl
  rcases hc with rfl |hc
  ·rw [hfree] at e;cases e
  ·rw [hfree] at hc;cases hc
 refine wpAny_storeName_local hk hn (fun h' hn' hs=>?_) hcls
 obtain⟨oL,_,_,hoL,_⟩:=id hn
 refine h _ _ ⟨I.ok,I.os,I.bare,⟨fun b o e n hb hx=>?_,fun b o e n hb hx=>?_,I.base.free,fun b o e hx=>?_,I.base.tups,I.base.frzs,I.base.tbls⟩,⟨_,hn',fun j y v' e1 e2 e3=>?_⟩,fun y c e=>?_,I.free,I.freeC,fun p hp=>?_,tracked ⟨oL,hoL,I.free⟩ hs,by simpa using I.len⟩ (Nat.le_add_left _ _) hn' (by simp) (fun y m0 hn0 ny=>by rw [if_neg ny];exact hn.agree hn0 y)
 ·exact (hs.2 b (Nat.ne_of_lt (Nat.lt_of_lt_of_le (Heap.lt_size e) I.ok.above))).trans (I.base.keep b o e n hb hx)
 ·obtain⟨sl,e1⟩:=I.base.slot b o e n hb hx
  exact⟨sl,(hs.2 b (Nat.ne_of_lt (Nat.lt_of_lt_of_le (Heap.lt_size e) I.ok.above))).trans e1⟩
 ·obtain⟨o',e1⟩:=I.base.there b o e hx
  exact⟨o',(hs.2 b (Nat.ne_of_lt (Nat.lt_of_lt_of_le (Heap.lt_size e) I.ok.above))).trans e1⟩
 ·by_cases hj:j=i
  ·subst hj
   rw [hi] at e1;cases e1
   rw [List.getElem?_set_self hiσ] at e2
   cases e2
   exact⟨u,r,.inl ⟨hk,by simp⟩⟩
  ·rw [List.getElem?_set_ne (Ne.symm hj)] at e2
   obtain⟨u',r',q⟩:=hl j y v' e1 e2 e3
   refine⟨u',r',?_⟩
   rcases q with⟨k,e⟩ | ⟨k,c,e,z⟩
   ·refine .inl ⟨k,?_⟩
    have:y≠x:=fun e=>hj (kg hN e1 (e ▸ hi))
    simp [this,e]
   ·exact .inr ⟨k,c,e,z.sameBut hs (cne y c e)⟩
 ·obtain⟨w',z⟩:=I.cell y c e
  exact⟨w',z.sameBut hs (cne y c e)⟩
 ·obtain⟨e,n,ne,nf,d⟩:=I.pin p hp
  exact⟨(hs.2 p.1 ne).trans e,n,ne,nf,d⟩
noncomputable def vG:List (Str×Nat×Pos)->List Expr
 |[]=>[]
 |c :: cs=>.Constant (.str c.1) c.2.1 c.2.2 :: vG cs
theorem XV {X:Cx}{pins:List (Addr×Obj)}{σ:St}{H:Hp}{E:Value->Shared->Prop}{pos:Pos}:∀ {cs:List (Str×Nat×Pos)}{s:Shared}{Q:List Value->Shared->Prop},Inv X pins σ H s->1≤s.toks->
  (∀ us s',Inv X pins σ H s'->1≤s'.toks->s'.heap=s.heap->us.length=cs.length->(∀ (i:Nat) z,(cs.map (·.1))[i]? =some z->∃ t,t≠0/\us[i]? =some (Value.str z t))->Q us s')->
  wpAny (model X.prog X.w) X.A (spliced (backTo pos (starEach (vG cs) X.env))) Q E s
 |[],s,Q,I,ht,h=>Calls.spliced_nil (h [] s I ht rfl rfl (fun i z e=>by simp at e))
 |c :: cs,s,Q,I,ht,h=>by
  show wpAny _ _ (spliced ((false,eval (.Constant (.str c.1) c.2.1 c.2.2) X.env) :: backTo pos (starEach (vG cs) X.env))) _ _ s
  refine Calls.spliced_cons (Calls.Constant_str ?_)
  refine XV (I.tok _) (Nat.le_add_left _ _) fun us s' I' t' e l g=>h _ s' I' t' e (by rw [List.length_cons,l,List.length_cons]) fun i z q=>?_
  cases i with
  |zero=>
   simp at q
   subst q
   exact⟨s.toks,(by show @Ne Nat _ _;omega),rfl⟩
  |succ i=>
   simp at q
   exact g i z (by simpa using q)
theorem uG {X:Cx}{pins:List (Addr×Obj)}{σ:St}{H:Hp}{E:Value->Shared->Prop}{pos:Pos}{cs:List (Str×Nat×Pos)}{s:Shared}{Q:Value->Shared->Prop}(I:Inv X pins σ H s) (ht:1≤s.toks) (hz:cs.length≤1000)
  (h:∀ (l:Addr) (us:List Value) s',Inv X (pins ++ [(l,{ cls:=.type "list",data:=.seq us.toArray })]) σ H s'->1≤s'.toks->(∀ b o,s.heap.get? b=some o->s'.heap.get? b=some o)->(∀ (i:Nat) z,(cs.map (·.1))[i]? =some z->∃ t,t≠0/\us[i]? =some (Value.str z t))->us.length=cs.length->Q (.ref l) s') :
  wpAny (model X.prog X.w) X.A (eval (.List (vG cs) pos) X.env) Q E s:=by
 refine wpAny_List_spliced (XV I ht fun us s' I' t' e l g=>⟨by rw [l,sizeLine_eq];omega,?_⟩)
 have I2:Inv X pins σ H { s' with heap:=s'.heap.push { cls:=.type "list",data:=.seq us.toArray } }:=I'.kept (t':=s'.toks) fun b u q=>Heap.get?_push_of_some _ q
 refine h _ us _ (I2.pins_of fun p hp=>?_) t' (fun b o q=>Heap.get?_push_of_some _ (by have q':s.heap.get? b=some o:=q;rw [<- e] at q';exact q')) g l
 rcases List.mem_append.1 hp with z |z
 ·exact I2.pin p (List.mem_append_right _ z)
 ·cases List.mem_singleton.1 z
  refine⟨Heap.get?_push_size _ rfl,I'.hok.fresh (Nat.le_refl _),?_,?_,fun v q=>by cases q⟩
  ·intro z
   have:=I'.lt
   rw [<- z] at this
   exact absurd this (Nat.lt_irrefl _)
  ·intro z
   obtain⟨_,o,ho,_⟩:=I'.funs.mem z
   exact absurd (Heap.lt_size ho) (Nat.lt_irrefl _)
theorem Us {X:Cx}{pins:List (Addr×Obj)}{σ:St}{H:Hp}{s:Shared}{ce:Expr}{tc:TE}{j:Nat}{p8 pb:Pos}{Q:Value->Shared->Prop}(hc:PE X ce tc) (I:Inv X pins σ H s) {G:Int->Hp->Prop}(h:tc σ H fun y H1=>∃ a,y=.int a/\G a H1)
  (k:∀ (a:Int) t H1 s',Inv X pins σ H1 s'->G a H1->0≤a%8->a%8 < 8->Q (.int (a%8) t) s'):wpAny (model X.prog X.w) X.A (eval (.BinOp ce .Mod (.Constant (.int 8) j p8) pb) X.env) Q X.xe s:=by
 refine wpAny_BinOp (thn (hc pins s σ H _ I h) fun v s1 ⟨y,H1,I1,r1,a,e,g⟩=>?_)
 subst e
 obtain⟨t,rfl⟩:=r1
 refine wpAny_Constant_int (mod_int' (by decide) ?_)
 rw [Int.fmod_eq_emod_of_nonneg a (by decide)]
 exact k _ _ H1 _ ((I1.tok _).tok _) g (Int.emod_nonneg a (by decide)) (Int.emod_lt_of_pos a (by decide))
theorem Kh {X:Cx}{pins:List (Addr×Obj)}{σ:St}{H:Hp}{s:Shared}{E:Value->Shared->Prop}{i:Nat}{x:Str}{v:V}{p:Pos}{Q:Value->Shared->Prop}(I:Inv X pins σ H s) (hi:X.N[i]? =some x) (hk:X.env.scope.names.lookup x=some .local) (e:σ[i]? =some (some v))
  (hd:(x == ("__debug__":Str))=false) (k:∀ u,RelV v u->Q u s):wpAny (model X.prog X.w) X.A (eval (.Name x p) X.env) Q E s:=by
 obtain⟨m,hn,hl⟩:=I.loc
 obtain⟨u,r,l⟩:=hl i x v hi e (.inl hk)
 rcases l with⟨_,hm⟩ | ⟨z,_⟩
 ·exact wpAny_Name (wpAny_loadName_local I.ok.kind hk hn hm (k u r)) hd
 ·have hk':X.env.scope.names.lookup x=some .local:=hk
  rcases z with z |z <;> (have z':X.env.scope.names.lookup x=_:=z;rw [hk'] at z';cases z')
def zaZ (iw it io iq:Nat) (tb:TS) (tc:TE) (os ns:List Str):TS:=fun D σ H=>∃ n x,σ[iw]? =some (some (.int n))/\σ[it]? =some (some (.str x))/\x.length≤700000/\
 if n= 12 then tb { D with nx:=fun _ _=>False } σ H else tc σ H fun y H1=>∃ a,y=.int a/\tc ((σ.set io none).set iq none) H1 fun y' H2=>∃ b,y'=.int b/\b=a/\D.rt (.str x) H2/\∀ (i:Nat) o z,os[i]? =some o->ns[i]? =some z->D.rt (.str (Txt.replace x o z)) H2
theorem za0 {σ:St}{i:Nat}{v:Option V}:∀ (j:Nat) w,(σ.set i none)[j]? =some (some w)->(σ.set i v)[j]? =some (some w):=fun j w e=>by
 by_cases z:i=j
 ·subst z
  rw [List.getElem?_set,if_pos rfl] at e
  split at e <;> cases e
 ·rw [List.getElem?_set_ne z] at e ⊢
  exact e
theorem Ki {σ τ:St}{i:Nat}{v:Option V}(h:∀ (j:Nat) w,σ[j]? =some (some w)->τ[j]? =some (some w)):∀ (j:Nat) w,(σ.set i none)[j]? =some (some w)->(τ.set i v)[j]? =some (some w):=fun j w e=>by
 by_cases z:i=j
 ·subst z
  rw [List.getElem?_set,if_pos rfl] at e
  split at e <;> cases e
 ·rw [List.getElem?_set_ne z] at e ⊢
  exact h j w e
theorem zdr {X:Cx}{iw it io iq:Nat}{w x o q:Str}{body:List Stmt}{tb:TS}{tc:TE}{ce ce2:Expr}{olds news:List (Str×Nat×Pos)}{p1 p2 p3 p4 p5 p6 p7 p8 p9 p10 p11 p12 p13 p14 p15 p16 p17 p18 p19 p20 p21 p22:Pos}{j1 j2 j3:Nat}
    (hN:X.N.Nodup) (hw:X.N[iw]? =some w) (hx:X.N[it]? =some x) (ho:X.N[io]? =some o) (hq:X.N[iq]? =some q) (lw:X.env.scope.names.lookup w=some .local) (lx:X.env.scope.names.lookup x=some .local) (lo:X.env.scope.names.lookup o=some .local) (lq:X.env.scope.names.lookup q=some .local)
    (no:olds.length= 8) (nn:news.length= 8) (ne:(olds.all fun a=>news.all fun b=>!(a.1 == b.1) && decide (b.1.length≤20))=true) (hoq:o≠q) (hito:it≠io) (hitq:it≠iq)
    (hb:PSs X body tb) (hc:PE X ce tc) (hc2:PE X ce2 tc)
    (dw:(w == ("__debug__":Str))=false:=by decide) (dx:(x == ("__debug__":Str))=false:=by decide) (do_:(o == ("__debug__":Str))=false:=by decide) (dq:(q == ("__debug__":Str))=false:=by decide)
    (sw1:swapsWith (.Subscript (.List (vG olds) p5) (.BinOp ce .Mod (.Constant (.int 8) j2 p6) p7) p8) (some (.Name o p9)) p10.line X.env=pure false:=by rfl)
    (sw2:swapsWith (.List (vG news) p11) (some (.Name q p12)) p13.line X.env=pure false:=by rfl)
    (hbase:attributeBase (.Name x p14) "replace" X.env (eval (.Name x p14) X.env)=eval (.Name x p14) X.env:=by rfl) (hline:(p15.endLine == p20.line)=true:=by rfl)
    (hfew:((backTo p20 (starEach [.Name o p16,.Subscript (.Name q p17) (.BinOp ce2 .Mod (.Constant (.int 8) j3 p18) p19) p21] X.env)).all (fun x=>!x.1) && (backToKw p20 (keywordEach [] X.env)).all (fun x=>x.1.isSome)
      && decide (([.Name o p16,.Subscript (.Name q p17) (.BinOp ce2 .Mod (.Constant (.int 8) j3 p18) p19) p21]:List Expr).length+([]:List Keyword).length+(if ([]:List Keyword).isEmpty then 0 else 1) < 30))=true:=by rfl) :
    PSs X [.If (.Compare (.Name w p1) [.Eq] [.Constant (.int 12) j1 p2] p3) body [] p4,
      .Assign [.Name o p9] (.Subscript (.List (vG olds) p5) (.BinOp ce .Mod (.Constant (.int 8) j2 p6) p7) p8) p10,
      .Assign [.Name q p12] (.List (vG news) p11) p13,
      .Return (some (.Call (.Attribute (.Name x p14) "replace" p15) [.Name o p16,.Subscript (.Name q p17) (.BinOp ce2 .Mod (.Constant (.int 8) j3 p18) p19) p21] [] p20)) p22] (zaZ iw it io iq tb tc (olds.map (·.1)) (news.map (·.1))):=by
  intro pins s σ H D I ⟨n,xt,ew,ex,xl,h⟩
  have hne:∀ a∈olds.map (·.1),∀ b∈news.map (·.1),(a == b)=false/\b.length≤20:=fun a ha b hb=>by
    obtain⟨a',ha',rfl⟩:=List.mem_map.1 ha
    obtain⟨b',hb',rfl⟩:=List.mem_map.1 hb
    have:=List.all_eq_true.1 (List.all_eq_true.1 ne a' ha') b' hb'
    rw [Bool.and_eq_true] at this
    exact⟨by simpa using this.1,of_decide_eq_true this.2⟩
  refine wpAny_execs_cons (wpAny_If (wpAny_isTrue_Compare1 (Kh I hw lw ew dw fun v r1=>?_)))
  obtain⟨tw,rfl⟩:=r1
  refine wpAny_Constant_int (wpAny_eq_int (wpAny_truthy_bool ?_))
  by_cases h12:n= 12
  · rw [if_pos h12] at h
    subst h12
    show wpAny _ _ (execs body X.env) _ _ _
    refine thn (hb pins _ σ H _ (I.tok _) h) fun f s1 q=>?_
    cases f with
    |next=>obtain⟨_,_,_,q⟩:=q;exact q.elim
    |ret v=>exact q
    |brk=>exact q
    |cont=>exact q
  rw [if_neg h12] at h
  have e12:(n == 12)=false:=by simpa using h12
  rw [e12]
  show wpAny _ _ (execs [] X.env) _ _ _
  refine wpAny_execs_nil ?_
  have I1:Inv X pins σ H { s with toks:=s.toks+1 }:=I.tok _
  have t1:1≤({ s with toks:=s.toks+1 }:Shared).toks:=Nat.le_add_left _ _
  generalize ({ s with toks:=s.toks+1 }:Shared)=sA at I1 t1
  show wpAny _ _ (execs (_ :: _) X.env) _ _ sA
  refine wpAny_execs_cons (wpAny_Assign_Name (Subscript_ (uG I1 t1 (by omega) fun l us s2 I2 t2 _ g2 l2=>?_)) sw1)
  refine Us (G:=fun a H1=>tc ((σ.set io none).set iq none) H1 fun y' H2=>∃ b,y'=.int b/\b=a/\D.rt (.str xt) H2/\∀ (i:Nat) o z,(olds.map (·.1))[i]? =some o->(news.map (·.1))[i]? =some z->D.rt (.str (Txt.replace xt o z)) H2) hc I2 h fun a t H1 s3 I3 h3 a0 a8=>?_
  have ho8:(a%8).toNat < (olds.map (·.1)).length:=by rw [List.length_map,no];omega
  have eo:=List.getElem?_eq_getElem ho8
  obtain⟨to,to0,huo⟩:=g2 (a%8).toNat _ eo
  have mo:=List.getElem_mem ho8
  generalize (olds.map (·.1))[(a%8).toNat]=zo at huo mo eo
  have pl:=I3.pin (l,{ cls:=.type "list",data:=.seq us.toArray }) (by simp)
  have hl:s3.heap.IsList l us.toArray:=⟨_,pl.1,rfl,_,rfl⟩
  refine tail_any (ops:=[.ref l,.int (a%8) t]) hl.typeIs slot_list_getitem.lookup (wpAny_getItem_list hl a0 (by omega) (by simpa using huo) ?_) (by with_unfolding_all rfl)
  have I3':Inv X pins σ H1 s3:=I3.pins_of fun p hp=>I3.pin p (List.mem_append_right _ (List.mem_append_left _ hp))
  refine Ur I3' hN ho lo (v:=.str zo) ⟨_,rfl⟩ fun s4 m4 I4 t4 n4 m4o _=>?_
  show wpAny _ _ (execs (_ :: _) X.env) _ _ s4
  refine wpAny_execs_cons (wpAny_Assign_Name (uG I4 t4 (by omega) fun lb us2 s5 I5 t5 k5 g5 l5=>?_) sw2)
  refine Ur I5 hN hq lq (v:=.ref lb) rfl fun s6 m6 I6 t6 n6 m6q old=>?_
  have m6o:m6 o=some (.str zo to):=(old o m4 (n4.keeps k5) hoq).trans m4o
  show wpAny _ _ (execs [_] X.env) _ _ s6
  refine wpAny_execs_cons (wpAny_Return_some (wpAny_Call_method_late hbase hfew hline rfl (Kh (i:=it) I6 hx lx (v:=.str xt) ?_ dx fun v r=>?_)))
  · rw [List.getElem?_set_ne (Ne.symm hitq),List.getElem?_set_ne (Ne.symm hito)]
    exact ex
  obtain⟨tx,rfl⟩:=r
  refine⟨"str","str.replace",PySem.F.plainAttrs_str,PySem.F.slot_str_replace,PySem.F.type_str_replace,typeIs_str _ _ _,(fun a z=>by cases z),?_⟩
  refine Calls.callWith_builtin rfl (Calls.evalArgs_plain (Calls.spliced_cons (wpAny_Name (wpAny_loadName_local I6.ok.kind lo n6 m6o ?_) do_)))
  refine Calls.spliced_cons (Subscript_ (wpAny_Name (wpAny_loadName_local I6.ok.kind lq n6 m6q ?_) dq))
  have I7:Inv X (pins ++ [(lb,{ cls:=.type "list",data:=.seq us2.toArray })]) ((σ.set io none).set iq none) H1 s6:=I6.weak (by simp only [List.length_set]) (Ki za0)
  refine Us (G:=fun b H2=>b=a/\D.rt (.str xt) H2/\∀ (i:Nat) o z,(olds.map (·.1))[i]? =some o->(news.map (·.1))[i]? =some z->D.rt (.str (Txt.replace xt o z)) H2) hc2 I7 h3 fun b t H2 s7 I8 h8 a0 a8=>?_
  obtain⟨eb,h8⟩:=h8
  subst eb
  have hq8:(b%8).toNat < (news.map (·.1)).length:=by rw [List.length_map,nn];omega
  have ez:=List.getElem?_eq_getElem hq8
  obtain⟨tn,tn0,hun⟩:=g5 (b%8).toNat _ ez
  have mn:=List.getElem_mem hq8
  generalize (news.map (·.1))[(b%8).toNat]=zn at hun mn ez
  have pl2:=I8.pin (lb,{ cls:=.type "list",data:=.seq us2.toArray }) (by simp)
  have hl2:s7.heap.IsList lb us2.toArray:=⟨_,pl2.1,rfl,_,rfl⟩
  refine tail_any (ops:=[.ref lb,.int (b%8) t]) hl2.typeIs slot_list_getitem.lookup (wpAny_getItem_list hl2 a0 (by omega) (by simpa using hun) ?_) (by with_unfolding_all rfl)
  refine Calls.spliced_nil ?_
  have I9:Inv X pins _ H2 s7:=I8.pins_of fun p hp=>I8.pin p (List.mem_append_right _ (List.mem_append_left _ hp))
  obtain⟨yz,zl⟩:=hne zo mo zn mn
  refine zaY to0 tn0 yz ?_ ?_ fun t' k=>?_
  · have:=Nat.mul_le_mul_left (xt.length+1) zl
    omega
  · exact⟨.str xt,_,H2,I9,⟨_,rfl⟩,h8.1⟩
  · exact⟨.str _,_,H2,I9.tok _,⟨_,rfl⟩,h8.2 _ _ _ eo ez⟩
section
variable {K:W.Frag}
def ze9 (iw it io iq:Nat) (TB:TSW) (TC:TEW) (os ns:List Str):TSW:=fun D ρ O=>∃ n x,ρ[iw]? =some (some (.d (.int n)))/\ρ[it]? =some (some (.d (.str x)))/\x.length≤700000/\
 if n= 12 then TB { D with nx:=fun _ _=>False } ρ O else TC ρ O fun y O1=>∃ a,y=.d (.int a)/\TC ((ρ.set io none).set iq none) O1 fun y' O2=>∃ b,y'=.d (.int b)/\b=a/\D.rt (.d (.str x)) O2/\∀ (i:Nat) o z,os[i]? =some o->ns[i]? =some z->D.rt (.d (.str (Txt.replace x o z))) O2
theorem zds {iw it io iq:Nat}{tb:TS}{TB:TSW}{tc:TE}{TC:TEW}{os ns:List Str}(hb:RefS K tb TB) (hc:zx K tc TC):RefS K (zaZ iw it io iq tb tc os ns) (ze9 iw it io iq TB TC os ns):=by
 rintro Γ O H ρ σ D DW S r ⟨n,x,ew,ex,xl,h⟩ e
 obtain⟨v1,e1,r1⟩:=r.get ew
 obtain⟨v2,e2,r2⟩:=r.get ex
 cases (show v1=.int n from r1)
 cases (show v2=.str x from r2)
 refine⟨n,x,e1,e2,xl,?_⟩
 by_cases h12:n= 12
 ·rw [if_pos h12] at h ⊢
  exact hb _ _ _ _ _ _ _ S r h ⟨fun _ _ _ _ _ _ _ _ z=>z.elim,e.rt,e.bk,e.ct⟩
 ·rw [if_neg h12] at h ⊢
  refine hc _ _ _ _ _ S r _ _ h fun Γ1 O1 H1 y v l1 S1 ry ⟨a,ea,h1⟩=>?_
  subst ea
  refine⟨a,ry,?_⟩
  refine hc _ _ _ _ _ S1 (Paired.setP (Paired.setP (r.mono l1) (x:=none) (y:=none) trivial) (x:=none) (y:=none) trivial) _ _ h1 fun Γ2 O2 H2 y' v' l2 S2 ry' ⟨b,eb,ab,h2,h3⟩=>?_
  subst eb
  exact⟨b,ry',ab,e.rt _ _ _ _ _ (l1.trans l2) S2 xM h2,fun i o z ho hz=>e.rt _ _ _ _ _ (l1.trans l2) S2 xM (h3 i o z ho hz)⟩
variable (K) in
def Y7 (t:XK->TA) (T:YK->TAW):Prop:=∀ E Y Γ O H ρ σ,Sim K Γ O H->relR K Γ ρ σ->kt K Γ E Y->∀ (Q:List V->Hp->Prop) (R:List W->OM->Prop),T Y ρ O R->(∀ Γ' O' H' ws vs,Le Γ Γ'->Sim K Γ' O' H'->relWs K Γ' ws vs->R ws O'->Q vs H')->t E σ H Q
theorem Qv {ta:TE}{t:XK->TA}{Ta:TEW}{T:YK->TAW}(ha:zx K ta Ta) (hr:Y7 K t T):Y7 K (fun E=>v0 ta (t E)) (fun Y=>jQ Ta (T Y)):=by
 intro E Y Γ O H ρ σ S r0 m Q R h k
 refine ha Γ O H ρ σ S r0 _ _ h fun Γ1 O1 H1 x v l1 S1 rx h1=>?_
 exact hr E Y Γ1 O1 H1 ρ σ S1 (r0.mono l1) (m.mono l1) _ _ h1 fun Γ2 O2 H2 ws vs l2 S2 rs h2=>k _ _ _ _ _ (l1.trans l2) S2 (.cons (rx.mono l2) rs) h2
theorem Qw {ta:XK->TE}{t:TA}{Ta:YK->TEW}{T:TAW}(ha:vE K ta Ta) (hr:yU K t T):Y7 K (fun E=>v0 (ta E) t) (fun Y=>jQ (Ta Y) T):=by
 intro E Y Γ O H ρ σ S r0 m Q R h k
 refine ha E Y Γ O H ρ σ S r0 m _ _ h fun Γ1 O1 H1 x v l1 S1 rx h1=>?_
 exact hr Γ1 O1 H1 ρ σ S1 (r0.mono l1) _ _ h1 fun Γ2 O2 H2 ws vs l2 S2 rs h2=>k _ _ _ _ _ (l1.trans l2) S2 (.cons (rx.mono l2) rs) h2
theorem Qx {s:SpW}{t:XK->TA}{T:YK->TAW}(h:Y7 K t T):vE K (fun E=>xT (zd K s) [] E0 (t E)) (fun Y=>kY s [] (T Y)):=by
 intro E Y Γ O H ρ σ S r0 m Q R hT k
 refine h E Y Γ O H ρ σ S r0 m _ _ hT fun Γ1 O1 H1 ws vs l1 S1 rs h1=>?_
 exact⟨Γ1,O1,_,R,S1,Paired.appP rs .nil,h1,fun Γ2 O2 H2 w v l2 S2 r2 h2=>k _ _ _ _ _ (l1.trans l2) S2 r2 h2⟩
end
end L2
namespace L2
open PySem PySem.Spec PyProof.Rows
noncomputable def Zk:V->Bool
 |.non=>true
 |_=>false
def za1 (K:W.Frag):R2:=fun x y H Q=>∃ p xs,x=.non/\y=.ref p/\SqL K H p xs/\(∀ v∈xs,v=.non\/∃ a ys,v=.ref a/\SqL K H a ys)/\Q (.bl (xs.any Zk)) H
noncomputable def uq:Value->Bool
 |.none=>true
 |_=>false
theorem zfa {X:Cx}(hu:X.A.in1.units < cLine):OpR X (compareOp .In) (za1 X.K):=by
 intro pins s σ H x y v u Q I rx ry h
 obtain⟨p,xs,rfl,rfl,hq,hx,q⟩:=h
 cases ry
 cases (show v=Value.none from rx)
 obtain⟨its,r,pl,hz⟩:=I.list hq
 have key:∀ {xs:List V}{its:List Value},Vals xs its->(∀ v∈xs,v=.non\/∃ a ys,v=.ref a/\SqL X.K H a ys)->its.any uq=xs.any Zk/\∀ w∈its,SeqAt.EqAt X.A.in1 s w .none (uq w):=fun {xs its} r=>by
  induction r with
  |nil=>intro _;exact⟨rfl,by simp⟩
  |cons h t ih=>
   intro hx
   obtain⟨i1,i2⟩:=ih fun v hv=>hx v (List.mem_cons_of_mem _ hv)
   rename_i a b as bs
   rcases hx a List.mem_cons_self with rfl | ⟨l,ys,rfl,hl⟩
   ·cases (show b=Value.none from h)
    refine⟨by simp [uq,Zk],fun w hw=>?_⟩
    rcases List.mem_cons.1 hw with rfl |hw
    ·exact SeqAt.EqAt.same _
    ·exact i2 w hw
   ·cases (show b=Value.ref l from h)
    refine⟨by rw [List.any_cons,List.any_cons,i1];rfl,fun w hw=>?_⟩
    rcases List.mem_cons.1 hw with rfl |hw
    ·obtain⟨its',_,pl',_⟩:=I.list hl
     exact SeqAt.EqAt.list_none pl'.isList hu
    ·exact i2 w hw
 obtain⟨k1,k2⟩:=key r hx
 refine SeqAt.in_listAt uq pl.isList (fun w hw=>k2 w (by simpa using hw)) ⟨.bl _,H,I,rfl,?_⟩
 rw [show its.toArray.any uq=its.any uq by simp,k1]
 exact q
theorem zfb {X:Cx}{K:W.Frag}(h:X.K=K) (hu:X.A.units+64 < cLine):OpR X (compareOp .In) (za1 K):=by subst h;exact zfa (by show X.A.units+_ < _;omega)
section
variable {K:W.Frag}
noncomputable def za2:PyData->Bool
 |.none=>true
 |_=>false
noncomputable def zfc:PyData->Bool
 |.none=>true
 |.list _=>true
 |_=>false
def zfd:R2W:=fun x y O R=>∃ ds,x=.d .none/\y=.d (.list ds)/\ds.all zfc=true/\R (.d (.bool (ds.any za2))) O
theorem zfX:RefR K (za1 K) zfd:=by
 rintro Γ O H x y v u S rx ry Q R ⟨ds,rfl,rfl,hd,h⟩ k
 cases (show v=V.non from rx)
 obtain⟨a,xs,rfl,h1,h2⟩:=(show Rep K Γ.Z (.list ds) u from ry)
 have key:∀ {ds:List PyData}{xs:List V},Reps K Γ.Z ds xs->ds.all zfc=true->xs.any Zk=ds.any za2/\∀ v∈xs,v=.non\/∃ a ys,v=.ref a/\SqL K H a ys:=fun {ds}=>by
  induction ds with
  |nil=>intro xs h _;cases (show xs=[] from h);exact⟨rfl,by simp⟩
  |cons d ds ih=>
   rintro _ ⟨x,r,rfl,g1,g2⟩ hd
   rw [List.all_cons,Bool.and_eq_true] at hd
   obtain⟨i1,i2⟩:=ih g2 hd.2
   cases d with
   |none=>
    cases (show x=V.non from g1)
    exact⟨by simp [Zk,za2],fun v hv=>(List.mem_cons.1 hv).elim .inl (i2 v)⟩
   |list es=>
    obtain⟨b,ys,rfl,q1,q2⟩:=g1
    refine⟨by rw [List.any_cons,List.any_cons,i1];rfl,fun v hv=>(List.mem_cons.1 hv).elim (fun e=>.inr ⟨b,ys,e,?_⟩) (i2 v)⟩
    exact SqL.same S.z q1
   |_=>cases hd.1
 obtain⟨k1,k2⟩:=key h2 hd
 exact⟨a,xs,rfl,rfl,SqL.same S.z h1,k2,by rw [k1];exact k _ _ _ _ _ (Le.refl _) S xf h⟩
end
section
variable {K:W.Frag}
noncomputable def inT (j i:Str):Bool:=!(Builtin.Str.occurrences j i 0 j.length 1).isEmpty
def zfe:R2W:=fun x y O R=>∃ i j,x=.d (.str i)/\y=.d (.str j)/\R (.d (.bool (inT j i))) O
theorem zfY:RefR K (fun x y H Q=>∃ i j,x=.str i/\y=.str j/\Q (.bl (!(Builtin.Str.occurrences j i 0 j.length 1).isEmpty)) H) zfe:=by
 rintro Γ O H x y v u S rx ry Q R ⟨i,j,rfl,rfl,h⟩ k
 exact⟨i,j,rx,ry,k _ _ _ _ _ (Le.refl _) S xf h⟩
end
noncomputable def unE:List Expr->List (Str×Nat×Pos)
 |.Constant (.str z) j p :: es=>(z,j,p) :: unE es
 |_=>[]
theorem za3 {X:Cx}{iw it io iq:Nat}{w x o q:Str}{body:List Stmt}{tb:TS}{tc:TE}{ce ce2:Expr}{es1 es2:List Expr}{p1 p2 p3 p4 p5 p6 p7 p8 p9 p10 p11 p12 p13 p14 p15 p16 p17 p18 p19 p20 p21 p22:Pos}{j1 j2 j3:Nat}
    (hN:X.N.Nodup) (hw:X.N[iw]? =some w) (hx:X.N[it]? =some x) (ho:X.N[io]? =some o) (hq:X.N[iq]? =some q) (lw:X.env.scope.names.lookup w=some .local) (lx:X.env.scope.names.lookup x=some .local) (lo:X.env.scope.names.lookup o=some .local) (lq:X.env.scope.names.lookup q=some .local)
    (h1:es1=vG (unE es1)) (h2:es2=vG (unE es2)) (no:(unE es1).length= 8) (nn:(unE es2).length= 8) (ne:((unE es1).all fun a=>(unE es2).all fun b=>!(a.1 == b.1) && decide (b.1.length≤20))=true) (hoq:o≠q) (hito:it≠io) (hitq:it≠iq)
    (hb:PSs X body tb) (hc:PE X ce tc) (hc2:PE X ce2 tc)
    (dw:(w == ("__debug__":Str))=false:=by decide) (dx:(x == ("__debug__":Str))=false:=by decide) (do_:(o == ("__debug__":Str))=false:=by decide) (dq:(q == ("__debug__":Str))=false:=by decide)
    (sw1:swapsWith (.Subscript (.List (es1) p5) (.BinOp ce .Mod (.Constant (.int 8) j2 p6) p7) p8) (some (.Name o p9)) p10.line X.env=pure false:=by rfl)
    (sw2:swapsWith (.List (es2) p11) (some (.Name q p12)) p13.line X.env=pure false:=by rfl)
    (hbase:attributeBase (.Name x p14) "replace" X.env (eval (.Name x p14) X.env)=eval (.Name x p14) X.env:=by rfl) (hline:(p15.endLine == p20.line)=true:=by rfl)
    (hfew:((backTo p20 (starEach [.Name o p16,.Subscript (.Name q p17) (.BinOp ce2 .Mod (.Constant (.int 8) j3 p18) p19) p21] X.env)).all (fun x=>!x.1) && (backToKw p20 (keywordEach [] X.env)).all (fun x=>x.1.isSome)
      && decide (([.Name o p16,.Subscript (.Name q p17) (.BinOp ce2 .Mod (.Constant (.int 8) j3 p18) p19) p21]:List Expr).length+([]:List Keyword).length+(if ([]:List Keyword).isEmpty then 0 else 1) < 30))=true:=by rfl) :
    PSs X [.If (.Compare (.Name w p1) [.Eq] [.Constant (.int 12) j1 p2] p3) body [] p4,
      .Assign [.Name o p9] (.Subscript (.List (es1) p5) (.BinOp ce .Mod (.Constant (.int 8) j2 p6) p7) p8) p10,
      .Assign [.Name q p12] (.List (es2) p11) p13,
      .Return (some (.Call (.Attribute (.Name x p14) "replace" p15) [.Name o p16,.Subscript (.Name q p17) (.BinOp ce2 .Mod (.Constant (.int 8) j3 p18) p19) p21] [] p20)) p22] (zaZ iw it io iq tb tc ((unE es1).map (·.1)) ((unE es2).map (·.1))):=by
  generalize unE es1=o1 at h1 no ne ⊢
  generalize unE es2=o2 at h2 nn ne ⊢
  subst h1 h2
  exact zdr hN hw hx ho hq lw lx lo lq no nn ne hoq hito hitq hb hc hc2 dw dx do_ dq sw1 sw2 hbase hline hfew
end L2
namespace L2
universe u0 u1 u2 u3 u4 u5 u6 u7 u8 u9 u10 u11
inductive Ex1 {α0:Sort u0}(p:α0->Prop):Prop
 |mk (a0:α0) (h:p a0)
inductive Ex2 {α0:Sort u0}{α1:Sort u1}(p:α0->α1->Prop):Prop
 |mk (a0:α0) (a1:α1) (h:p a0 a1)
inductive Ex3 {α0:Sort u0}{α1:Sort u1}{α2:Sort u2}(p:α0->α1->α2->Prop):Prop
 |mk (a0:α0) (a1:α1) (a2:α2) (h:p a0 a1 a2)
inductive Ex4 {α0:Sort u0}{α1:Sort u1}{α2:Sort u2}{α3:Sort u3}(p:α0->α1->α2->α3->Prop):Prop
 |mk (a0:α0) (a1:α1) (a2:α2) (a3:α3) (h:p a0 a1 a2 a3)
inductive Ex5 {α0:Sort u0}{α1:Sort u1}{α2:Sort u2}{α3:Sort u3}{α4:Sort u4}(p:α0->α1->α2->α3->α4->Prop):Prop
 |mk (a0:α0) (a1:α1) (a2:α2) (a3:α3) (a4:α4) (h:p a0 a1 a2 a3 a4)
inductive Ex6 {α0:Sort u0}{α1:Sort u1}{α2:Sort u2}{α3:Sort u3}{α4:Sort u4}{α5:Sort u5}(p:α0->α1->α2->α3->α4->α5->Prop):Prop
 |mk (a0:α0) (a1:α1) (a2:α2) (a3:α3) (a4:α4) (a5:α5) (h:p a0 a1 a2 a3 a4 a5)
inductive An2 (a0 a1:Prop):Prop
 |mk (h0:a0) (h1:a1)
inductive An3 (a0 a1 a2:Prop):Prop
 |mk (h0:a0) (h1:a1) (h2:a2)
inductive An4 (a0 a1 a2 a3:Prop):Prop
 |mk (h0:a0) (h1:a1) (h2:a2) (h3:a3)
inductive An5 (a0 a1 a2 a3 a4:Prop):Prop
 |mk (h0:a0) (h1:a1) (h2:a2) (h3:a3) (h4:a4)
inductive An6 (a0 a1 a2 a3 a4 a5:Prop):Prop
 |mk (h0:a0) (h1:a1) (h2:a2) (h3:a3) (h4:a4) (h5:a5)
inductive An7 (a0 a1 a2 a3 a4 a5 a6:Prop):Prop
 |mk (h0:a0) (h1:a1) (h2:a2) (h3:a3) (h4:a4) (h5:a5) (h6:a6)
inductive An8 (a0 a1 a2 a3 a4 a5 a6 a7:Prop):Prop
 |mk (h0:a0) (h1:a1) (h2:a2) (h3:a3) (h4:a4) (h5:a5) (h6:a6) (h7:a7)
end L2
namespace L2
open PySem PySem.Spec PyProof.Rows
theorem ub {T1 T2 U:TSW}{D:EndsW}{ρ:WS}{O:OM}(J:WS->OM->Prop) (ht:∀ R:WS->OM->Prop,(∀ ρ' O',J ρ' O'->R ρ' O')->yV T1 T2 { D with nx:=R } ρ O) (hu:∀ ρ' O',J ρ' O'->U D ρ' O'):yV T1 (yV T2 U) D ρ O:=ht (U D) hu
end L2
namespace PySem
open Sem (wp)
section
variable {K:Type} [DecidableEq K]
end
section
variable {prog:Program}{w:World}{K:Type} [DecidableEq K] {knd:HeapKind prog w K}{A:Around}{E:Value->Shared->Prop}{s:Shared}
end
section
variable {prog:Program}{w:World}{A:Around}{E:Value->Shared->Prop}{s:Shared}{K:Type} [DecidableEq K] {knd:KeyKind prog w K}
end
end PySem
namespace L2
open PySem PySem.Spec PyProof.Rows
noncomputable def Qy (r c:Nat):List Key:=[.inl (r:Int),.inl (c:Int)]
section
variable {X:Cx}
end
section
variable {K:W.Frag}
end
section
variable {K:W.Frag}
theorem YI {H:Hp}{O:OM}{Γ:Gh}{a:Addr}{d:PyData}(ed:vD O (.own a)=some d):∀ {ws:List W}{vs:List V}{ds:List PyData},relWs K Γ ws vs->yC O ws=some ds->Reps K H ds vs->W.own a∈ws->Rep K H d (.ref a)
 |[],_,_,_,_,_,m=>by cases m
 |w :: ws,_,ds,r,e,q,m=>by
  cases r with
  |cons rx t=>
   simp only [yC] at e
   split at e
   ·rename_i d1 ds' e1 e2
    cases e
    obtain⟨v1,vs1,hv,q1,q2⟩:=q
    cases hv
    rcases List.mem_cons.1 m with z |z
    ·subst z
     rw [ed] at e1
     cases e1
     cases (show _=_ from rx)
     exact q1
    ·exact YI ed t e2 q2 z
   ·cases e
theorem Sim.freezeItemsA {H:Hp}{Γ:Gh}{O:OM}(S:Sim K Γ O H):∀ {ws:List W}{vs:List V}{ds:List PyData},relWs K Γ ws vs->yC O ws=some ds->∃ Γ' O',Le Γ Γ'/\Sim K Γ' O' H/\Reps K Γ'.Z ds vs/\(∀ b,W.own b ∉ ws->O' b=O b)
 |[],_,ds,r,e=>by
  cases r
  cases e
  exact⟨Γ,O,Le.refl _,S,rfl,fun _ _=>rfl⟩
 |w :: ws,_,ds,r,e=>by
  cases r with
  |cons rx t=>
   rename_i v vs
   simp only [yC] at e
   split at e
   ·rename_i d ds' e1 e2
    cases e
    obtain⟨Γ',O',l,S',rs,hk⟩:=Sim.freezeItemsA S t e2
    cases w with
    |d y=>
     cases e1
     exact⟨Γ',O',l,S',⟨_,_,rfl,Rep.same l.z _ _ rx,rs⟩,fun b hb=>hk b fun z=>hb (List.mem_cons_of_mem _ z)⟩
    |row _ _=>cases e1
    |own a=>
     cases (show v=.ref a from rx)
     by_cases ha:W.own a∈ws
     ·exact⟨Γ',O',l,S',⟨_,_,rfl,YI e1 t e2 rs ha,rs⟩,fun b hb=>hk b fun z=>hb (List.mem_cons_of_mem _ z)⟩
     ·simp only [vD] at e1
      split at e1
      ·rename_i us ho
       cases hd:yh us with
       |none=>rw [hd] at e1;cases e1
       |some es=>
        rw [hd] at e1
        cases e1
        rw [yE hd] at ho
        obtain⟨Γ2,l2,S2,r2⟩:=S'.freeze ((hk a ha).trans ho)
        refine⟨Γ2,_,l.trans l2,S2,⟨_,_,rfl,r2,Reps.same l2.z _ _ rs⟩,fun b hb=>?_⟩
        rw [xF fun z=>hb (by rw [z];exact List.mem_cons_self)]
        exact hk b fun z=>hb (List.mem_cons_of_mem _ z)
      ·cases e1
   ·cases e
theorem XW {a:Addr}:∀ {ws:List W},W.own a∈ws->yh ws=none
 |w :: ws,m=>by
  rcases List.mem_cons.1 m with z |z
  ·subst z;simp [yh]
  ·cases w <;> simp [yh,XW z]
theorem Qz {O:OM}{a:Addr}{us:List W}(ha:O a=some (.lst us)) (m:W.own a∈us):yC O us=none:=by
 have key:vD O (.own a)=none:=by simp only [vD,ha,XW m,Option.map_none]
 have:∀ {ws:List W},W.own a∈ws->yC O ws=none:=by
  intro ws
  induction ws with
  |nil=>intro m;cases m
  |cons w ws ih=>
   intro m
   rcases List.mem_cons.1 m with z |z
   ·subst z;simp [yC,key]
   ·simp only [yC,ih z]
    split <;> first |rfl |simp_all
 exact this m
theorem Sim.freezeDeepA {Γ:Gh}{O:OM}{H:Hp}(S:Sim K Γ O H) {a:Addr}{ws:List W}{ds:List PyData}(h:O a=some (.lst ws)) (hd:yC O ws=some ds) :
  ∃ Γ' O',Le Γ Γ'/\Sim K Γ' O' H/\relW K Γ' (.d (.list ds)) (.ref a)/\∀ b,b≠a->W.own b ∉ ws->O' b=O b:=by
 have na:W.own a ∉ ws:=fun m=>by rw [Qz h m] at hd;cases hd
 obtain⟨_,vs,h1,h2⟩:=S.o _ _ h
 obtain⟨Γ1,O1,l1,S1,r1,k1⟩:=Sim.freezeItemsA S h2 hd
 have e1:O1 a=some (.lst ws):=(k1 a na).trans h
 have eH:upd H a (.lst vs)=H:=by
  funext b
  unfold upd
  split
  ·rename_i e;rw [e];exact h1.symm
  ·rfl
 have S2:Sim K Γ1 (updO O1 a (.lst (ds.map .d))) (upd H a (.lst vs)):=S1.put e1 (by intro _ h;cases h) (by intro _ h;cases h) ⟨vs,zA,yj r1⟩
 rw [eH] at S2
 obtain⟨Γ2,l2,S3,r3⟩:=S2.freeze zu
 refine⟨Γ2,_,l1.trans l2,S3,r3,fun b hb hn=>?_⟩
 rw [xF hb,zC hb,k1 b hn]
end
end L2
namespace Att
open PySem PySem.W PySem.Calls PyProof.Rows
theorem za4 {i:Int}(x:(WData.int i).layable=true):L2.Bt 1048576 i:=by
  have h:=(layableW_iff.mp x).2.2
  simp only [WData.weight] at h
  unfold L2.Bt
  by_cases hi:i= 0
  · subst hi
    exact Nat.two_pow_pos _
  · have hn:i.natAbs≠0:=by omega
    simp only [beq_iff_eq,hi,if_false] at h
    exact (Nat.log2_lt hn).mp (by
      have e:(2:Nat) ^ 20 = 1048576:=by decide
      omega)
theorem attB {l:OpenLaw}{n:Nat}{q:Program}{loose:List Str}{XP:(Str->Option Value)->Heap->Prop}{YP:World->Heap->Prop}{d:DefRec}
    (hn:l.most=some n) (hdf:d.params.defaults=[])
    (call:∀ (w:World) (s₀ s₁:Shared) (mg mb:Str->Option Value) (fa a:Addr) (vs:List Value) (ns:List Int),Ground q loose [] XP w s₀ mg mb s₁.heap->YP w s₁.heap->mg d.name=some (.ref fa)->
      s₁.heap.get? a=some { cls:=.type "list",data:=.seq vs.toArray }->IntsAre vs ns->ns.length≤n->(∀ i∈ns,L2.Bt 1048576 i)->s₁.gens= #[]->
      codeAny (model l.prog w) callerA (.call (.ref fa) ⟨[.ref a],[]⟩) (fun r s'=>r=.ok (.ret (.bool true))/\OldK s₁.heap s'.heap/\s'.os=s₁.os/\AllBare s'.gens) s₁) :
    WalkO q loose XP YP l.row.toRowW d [] (fun f vs=>PySem.call f vs):=by
  intro w s₀ s₁ mg mb G Y fa o pm cd doc dV kV ho hd hcd hD hm hg args vals as hp hy hr hw hl
  cases Dflts.none hD hdf
  cases Dflts.noKw hD
  obtain⟨a,vs,ns,e1,e2,hb,hi,hk⟩:=Jb hn hp hw
  subst e1
  subst e2
  have bits:∀ i∈ns,L2.Bt 1048576 i:=fun i h=>za4 (layableW_item (layableW_arg hy _ List.mem_cons_self) _ (List.mem_map.2 ⟨i,h,rfl⟩))
  refine enter_call (codeAny_mono (call w s₀ s₁ mg mb fa a vs ns G Y hm hb hi hk bits hg) ?_)
  rintro r s' ⟨rfl,c2,c3,c4⟩
  refine⟨.inl ⟨.bool true,.bool true,[],rfl,fun _=>rfl,.bool true,Jc l _,fun _=>⟨List.Pairwise.nil,fun _ z=>?_⟩⟩,c2,c3,c4⟩
  cases z
end Att
namespace L2
open PySem PySem.Spec PyProof.Rows
theorem walkW {l:PySem.W.OpenLaw}{n k:Nat}{q:Program}{loose:List Str}{XP:(Str->Option Value)->Heap->Prop}{YP:World->Heap->Prop}{d:DefRec}{K:Params->W.Frag}{x:Str}{s:SpW}(hn:l.most=some n) (hn2:n≤1000) (hdf:d.params.defaults=[]) (hr:Room k callerA)
    (hY:∀ (w:World) (h:Heap),YP w h->(K w.params).In h)
    (F:∀ (w:World) (mg:Str->Option Value) (fa:Addr) (h:Heap),(K w.params).In h->h.Ns mainGlobals mg->mg d.name=some (.ref fa)->
      ∃ fd:FuncData,(∀ (s:Shared) (u:Value),BindsTo s fd ⟨[u],[]⟩ [(x,u)])/\∀ base:Heap,(K w.params).In base->base.Ns mainGlobals mg->FnOk l.prog w (K w.params) mg base CX0 k fa fd [x] (zd (K w.params) s))
    (hs:∀ (ns:List Int) (O:OM) (R:WK),ns.length≤n->(∀ i∈ns,Bt 1048576 i)->(∀ O',R (.d (.bool true)) O')->s [.d (.list (ns.map .int))] O R) :
    PySem.W.WalkO q loose XP YP l.row.toRowW d [] (fun f vs=>PySem.call f vs):=by
  refine Att.attB hn hdf fun w s₀ s₁ mg mb fa a vs ns G Y hm hb hi hk bits hg=>?_
  obtain⟨fd,e1,e2⟩:=F w mg fa _ (hY w _ Y) G.T.g hm
  refine KQ (hY w _ Y) G.T.g G.T.b G.T.builtins G.T.nolimit hg hb hi (Nat.le_trans hk (Nat.le_trans hn2 (by decide))) hr e2 e1 (fun H hO hS=>?_) fun _ _ _ z=>z
  refine⟨⟨H,fun _=>none,fun _=>none⟩,fun _=>none,[.d (.list (ns.map .int))],fun w _=>w=.d (.bool true),?_,.cons ⟨a,_,rfl,hS,Yv ns⟩ .nil,hs ns _ _ hk bits fun _=>rfl,?_⟩
  · exact⟨Same.refl _,fun _ _ e=>(by cases e),fun _ _ e=>(by cases e),fun _ _ e=>(by cases e),fun _ _ e=>(by cases e),fun _ _ e=>(by cases e),fun _ _ e=>(by cases e),fun _ _ _ _ _ _ _ e=>(by cases e)⟩
  · rintro Γ' O' H' w v _ _ r rfl
    exact r
end L2
namespace K25
open PySem L2
set_option hygiene false
local macro_rules | `(tactic| walk_at "ref") => do
  let f (s : String) : Lean.MacroM (Lean.TSyntax `tactic) := do
    let a ← (s.splitOn " ").toArray.mapM fun n => `(tactic| apply $(Lean.mkIdent n.toName))
    `(tactic| with_reducible first $[| $a:tactic]*)
  `(tactic| repeat' (first | $(← f "zex zcu zcv zd6 zcw zd7 zfM zfN zeI zeJ zey zez zfE zfF zfK zgg zes zeC zeY zeM zfR zd8"):tactic | exact zgi (fun _=>rfl) | exact zfL (fun _ _=>rfl) | exact zgh (fun _ _=>rfl) | $(← f "zat K6 K7 zec VX zfO zcx zeb zcy zar zcM zcA zcT zaa"):tactic | with_reducible exact zep rfl | $(← f "zew zcB zcC zal JI zaH JY zaJ zeR zcY U8 Jq zef zfT zeP zev zeg zfP zeh zfQ zeD zdq zcP zcJ U3 zam zem zcK zeo zeL zak zeB zav zcO Vs zaz zaA U7 JB U9 zaB zfX zfY zds Kd zaU zaC zaV zay zcR zcE zad zae zcF zcG zcH zaf zah zag Jj zcI Jx Qe Jk zai Jm Jn Jo"):tactic))
local macro_rules | `(tactic| walk_at "wd") => do
  let f (s : String) : Lean.MacroM (Array (Lean.TSyntax ``Lean.Parser.Tactic.simpLemma)) := (s.splitOn " ").toArray.mapM fun n => `(Lean.Parser.Tactic.simpLemma| $(Lean.mkIdent n.toName):ident)
  let a ← f "jg List.getElem?_cons_zero List.getElem?_cons_succ wC wOp vI0 vI wUn vU vEq vNe U4 zbK k6 Xu K4 wOr K5 wIf UZ jQ wCs kY wCB vI2 zeA zbL Jr Js yV Y4 kZ U0 zfH Xs U1 x8 ofV U2 List.set List.map vP List.append List.nil_append List.cons_append"
  let b ← f "zfd zfe zcb trY ze6 ze8 JX wLZ zb8 JK zbY zb0 zb2 wCD zaI Qg zbU zbV zeK isN JE V3 JF V4 JG okN zbX zeO JH Xy Xx JA zbW jg wC wOp vI0 vI wUn vU vEq vNe U4 zbK zas zd9 zea zer wIn zbH Xu zbu zbO zeF VZ zeH zbN Jw zbP zbQ zbv wIf k6 K4 wOr K5 K9 UZ jQ wCs zed zee zbE kY wCB zac zbw vI2 zbx zeq VU zbF zeA Jr wBM ZO yV Y4 kZ U0 Xs U1 x8 zej zei zby zbL Js zaj zbz zel zbA zbB zbC wLc zeu Y5 yI vP ofV vOf scD ja kW zgc xn U2 UY Xr tyD isI yh and_assoc wCR zcQ zu Ji"
  `(tactic| ((try dsimp only [$a,*]);try simp [$b,*]))
set_option hygiene true
noncomputable def top (i:Nat):Stmt:=PySem.Challenge.pw_signscreen_k25_papers_refused.main.body.getD i (.Pass ⟨0,0,0,0⟩)
local macro_rules | `(tactic| walk_at "sc")=>`(tactic| exact⟨rfl,rfl,rfl,by decide +kernel,rfl,by decide +kernel,by decide +kernel⟩)
noncomputable abbrev qM:Stmt:=top 12
theorem Vw:FnScope ["thing","least","most"] ["thing","least","most"] (defScope qM):=by walk_at "sc"
noncomputable abbrev kB:Stmt:=top 13
theorem Kj:FnScope ["thing"] ["thing"] (defScope kB):=by walk_at "sc"
noncomputable abbrev jq:Stmt:=top 14
theorem QB:FnScope ["ink"] ["ink"] (defScope jq):=by walk_at "sc"
noncomputable abbrev jr:Stmt:=top 15
theorem QC:FnScope ["ink"] ["ink"] (defScope jr):=by walk_at "sc"
noncomputable abbrev uc:Stmt:=top 16
theorem kd:FnScope ["ink","words","word","hue"] ["ink"] (defScope uc):=by walk_at "sc"
noncomputable abbrev uH:Stmt:=top 17
theorem qT:FnScope ["words","ink","ahead","word"] ["words"] (defScope uH):=by walk_at "sc"
noncomputable abbrev vW:Stmt:=top 18
theorem qp:FnScope ["text","ink"] ["text"] (defScope vW):=by walk_at "sc"
noncomputable abbrev jt:Stmt:=top 23
theorem QD:FnScope ["thing"] ["thing"] (defScope jt):=by walk_at "sc"
noncomputable abbrev ju:Stmt:=top 24
theorem QE:FnScope ["thing"] ["thing"] (defScope ju):=by walk_at "sc"
noncomputable abbrev jv:Stmt:=top 25
theorem QF:FnScope ["wide","high"] ["wide","high"] (defScope jv):=by walk_at "sc"
noncomputable abbrev kC:Stmt:=top 26
theorem Kk:FnScope ["thing","wide"] ["thing","wide"] (defScope kC):=by walk_at "sc"
noncomputable abbrev uI:Stmt:=top 27
theorem qU:FnScope ["thing","wide"] ["thing"] (defScope uI):=by walk_at "sc"
noncomputable abbrev vv:Stmt:=top 28
theorem Zl:FnScope ["picture"] ["picture"] (defScope vv):=by walk_at "sc"
noncomputable abbrev jw:Stmt:=top 29
theorem Zm:FnScope ["row"] ["row"] (defScope jw):=by walk_at "sc"
noncomputable abbrev vX:Stmt:=top 31
theorem qq:FnScope ["things","found","first","place"] ["things"] (defScope vX):=by walk_at "sc"
noncomputable abbrev uX:Stmt:=top 32
theorem jx:FnScope ["row","inks"] ["row"] (defScope uX):=by walk_at "sc"
noncomputable abbrev vw:Stmt:=top 34
theorem uO:FnScope ["many","ink","words"] ["many","ink"] (defScope vw):=by walk_at "sc"
noncomputable abbrev vH:Stmt:=top 35
theorem jy:FnScope ["row"] ["row"] (defScope vH):=by walk_at "sc"
noncomputable abbrev qN:Stmt:=top 36
theorem ke:FnScope ["picture","rows"] ["picture"] (defScope qN):=by walk_at "sc"
noncomputable abbrev vx:Stmt:=top 37
theorem uP:FnScope ["text","many"] ["text"] (defScope vx):=by walk_at "sc"
noncomputable abbrev vy:Stmt:=top 38
theorem uQ:FnScope ["text","inks","part","halves","ink"] ["text"] (defScope vy):=by walk_at "sc"
noncomputable abbrev uJ:Stmt:=top 39
theorem qV:FnScope ["signs","inks"] ["signs","inks"] (defScope uJ):=by walk_at "sc"
noncomputable abbrev xW:Stmt:=top 40
theorem vY:FnScope ["paper","rows","high"] ["paper"] (defScope xW):=by walk_at "sc"
noncomputable abbrev ve:Stmt:=top 41
theorem qW:FnScope ["paper","picture"] ["paper"] (defScope ve):=by walk_at "sc"
noncomputable abbrev jz:Stmt:=top 43
theorem Zn:FnScope ["_law_script","_law_k","_law_cell","_law_number"] ["_law_script","_law_k"] (defScope jz):=by walk_at "sc"
noncomputable abbrev uY:Stmt:=top 45
theorem jA:FnScope ["_law_cell","_law_signs"] ["_law_cell"] (defScope uY):=by walk_at "sc"
noncomputable abbrev uZ:Stmt:=top 46
theorem XX:FnScope ["_law_cell"] ["_law_cell"] (defScope uZ):=by walk_at "sc"
noncomputable abbrev vz:Stmt:=top 47
theorem uR:FnScope ["_law_script","_law_at_here","_law_wide","_law_high","_law_many","_law_found","_law_row","_law_line_here","_law_column","_law_cell","_law_ink_here"] ["_law_script","_law_at_here"] (defScope vz):=by walk_at "sc"
noncomputable abbrev xX:Stmt:=top 48
theorem vZ:FnScope ["_law_picture_here","_law_script","_law_at_here","_law_found","_law_row","_law_line_here","_law_size_here"] ["_law_picture_here","_law_script","_law_at_here"] (defScope xX):=by walk_at "sc"
noncomputable abbrev vJ:Stmt:=top 49
theorem jB:FnScope ["_law_ink_here","_law_words"] ["_law_ink_here"] (defScope vJ):=by walk_at "sc"
noncomputable abbrev qO:Stmt:=top 50
theorem kf:FnScope ["_law_text_here","_law_words","_law_found","_law_at_here","_law_k","_law_hue"] ["_law_text_here"] (defScope qO):=by walk_at "sc"
noncomputable abbrev vK:Stmt:=top 51
theorem jC:FnScope ["_law_line_here","_law_parts","_law_place","_law_behind"] ["_law_line_here"] (defScope vK):=by walk_at "sc"
noncomputable abbrev uK:Stmt:=top 52
theorem qX:FnScope ["_law_picture_here","_law_found","_law_line_here"] ["_law_picture_here"] (defScope uK):=by walk_at "sc"
noncomputable abbrev qb:Stmt:=top 53
theorem jD:FnScope ["_law_text_here","_law_cell","_law_rows","_law_at_here","_law_place","_law_sign_here","_law_way","_law_others","_law_old","_law_new"] ["_law_text_here","_law_cell"] (defScope qb):=by walk_at "sc"
noncomputable abbrev qd:Stmt:=top 54
theorem jE:FnScope ["_law_signs","_law_told","_law_found","_law_last","_law_part","_law_count","_law_ink_here"] ["_law_signs","_law_told"] (defScope qd):=by walk_at "sc"
noncomputable abbrev qe:Stmt:=top 55
theorem jF:FnScope ["_law_text_here","_law_rows","_law_high","_law_found"] ["_law_text_here"] (defScope qe):=by walk_at "sc"
noncomputable abbrev xR:Stmt:=top 56
theorem vT:FnScope ["_law_picture_here","_law_cell","_law_row"] ["_law_picture_here","_law_cell"] (defScope xR):=by walk_at "sc"
noncomputable abbrev vA:Stmt:=top 57
theorem uS:FnScope ["_law_thing","error","_law_kinds"] ["_law_thing"] (defScope vA):=by walk_at "sc"
noncomputable abbrev uL:Stmt:=top 58
theorem qY:FnScope ["_law_text_here","_law_due","_law_found"] ["_law_text_here"] (defScope uL):=by walk_at "sc"
noncomputable abbrev QG:Stmt:=top 59
theorem Kl:FnScope ["_law_script","_law_picture_here","_law_text_here","_law_k","_law_bent_here","_law_twice","_law_odd"] ["_law_script"] (defScope QG):=by walk_at "sc"
structure Txt (P:Program) (w:World) (K:W.Frag) (mg:Str->Option Value) (bw sw hf:Addr):Prop where
 n_len:mg "len" =none
 n_range:mg "range" =none
 n_int:mg "int" =none
 n_bool:mg "bool" =none
 n_str:mg "str" =none
 n_list:mg "list" =none
 n_tuple:mg "tuple" =none
 n_isinstance:mg "isinstance" =none
 n_ord:mg "ord" =none
 n_all:mg "all" =none
 n_min:mg "min" =none
 n_zip:mg "zip" =none
 n_enumerate:mg "enumerate" =none
 g_LAST_INK:∃ t,mg "LAST_INK" =some (.int 511 t)
 g_WIDEST:∃ t,mg "WIDEST" =some (.int 24 t)
 g_HIGHEST:∃ t,mg "HIGHEST" =some (.int 12 t)
 g_PERCENT_SIGN:∃ t,mg "PERCENT_SIGN" =some (.int 37 t)
 g_BITS_BY_WORD:mg "BITS_BY_WORD" =some (.ref bw)
 g_STEPS_BY_WORD:mg "STEPS_BY_WORD" =some (.ref sw)
 g_HUE_FIGURES:mg "HUE_FIGURES" =some (.ref hf)
 d_bw:DS P w K bw bitsD
 d_sw:DS P w K sw stepsD
 t_hf:∃ o,K.lookup hf=some o/\o.cls=.type "tuple"/\o.dict=none
 q_hf:∀ Z:Hp,SqT K Z hf (figs.map V.str)
structure TxtX (K:W.Frag) (mg:Str->Option Value) (se bp bs bi ba un:Addr):Prop where
 c_ScreenError:mg "ScreenError" =some (.ref se)
 c_BadPicture:mg "BadPicture" =some (.ref bp)
 c_BadSize:mg "BadSize" =some (.ref bs)
 c_BadInk:mg "BadInk" =some (.ref bi)
 c_BadPaper:mg "BadPaper" =some (.ref ba)
 c_Unlike:mg "Unlike" =some (.ref un)
 n_ve:mg "ValueError" =none
 x_BadPicture:XMake K bp
 x_BadInk:XMake K bi
 x_BadPaper:XMake K ba
 y_BadPicture:XClass K bp
 y_BadInk:XClass K bi
 y_BadPaper:XClass K ba
 p_se:PySem.W.exmOne K (.ref bp) (.ref se)=some true
 p_bp:PySem.W.kitOne K (.ref bp) (.ref bp)=some true
 p_bs:PySem.W.kitOne K (.ref bp) (.ref bs)=some false
 p_bi:PySem.W.kitOne K (.ref bp) (.ref bi)=some false
 p_ba:PySem.W.kitOne K (.ref bp) (.ref ba)=some false
 p_un:PySem.W.kitOne K (.ref bp) (.ref un)=some false
 p_ve:PySem.W.kitOne K (.ref bp) (.type "ValueError")=some true
 i_se:PySem.W.exmOne K (.ref bi) (.ref se)=some true
 i_bp:PySem.W.kitOne K (.ref bi) (.ref bp)=some false
 i_bs:PySem.W.kitOne K (.ref bi) (.ref bs)=some false
 i_bi:PySem.W.kitOne K (.ref bi) (.ref bi)=some true
 i_ba:PySem.W.kitOne K (.ref bi) (.ref ba)=some false
 i_un:PySem.W.kitOne K (.ref bi) (.ref un)=some false
 i_ve:PySem.W.kitOne K (.ref bi) (.type "ValueError")=some true
 a_se:PySem.W.exmOne K (.ref ba) (.ref se)=some true
 a_bp:PySem.W.kitOne K (.ref ba) (.ref bp)=some false
 a_bs:PySem.W.kitOne K (.ref ba) (.ref bs)=some false
 a_bi:PySem.W.kitOne K (.ref ba) (.ref bi)=some false
 a_ba:PySem.W.kitOne K (.ref ba) (.ref ba)=some true
 a_un:PySem.W.kitOne K (.ref ba) (.ref un)=some false
 a_ve:PySem.W.kitOne K (.ref ba) (.type "ValueError")=some true
 i_xi:PySem.W.exmOne K (.ref bi) (.ref bi)=some true
noncomputable def wholeD (a b:Int):PyData->Bool
 |.int i=>decide (a≤i) && decide (i≤b)
 |_=>false
noncomputable def inkD:PyData->Bool:=wholeD 0 511
noncomputable def signD:PyData->Bool
 |.str z=>decide (z.length= 1) && (decide (32≤z.cps.getD 0 0) && decide (z.cps.getD 0 0≤126)) && decide (z.cps.getD 0 0≠37)
 |_=>false
noncomputable def cellD:PyData->Bool
 |.tuple [a,b]=>signD a && inkD b
 |_=>false
noncomputable def rowB (w:Int):PyData->Bool
 |.list ds=>decide ((ds.length:Int)=w) && ds.all cellD
 |_=>false
noncomputable def sizeB (a b:PyData):Bool:=wholeD 1 24 a && wholeD 1 12 b
noncomputable def picB:PyData->Bool
 |.list (.list ds :: rs)=>sizeB (.int ds.length) (.int (rs.length+1:Nat)) && (PyData.list ds :: rs).all (rowB ds.length)
 |_=>false
mutual
noncomputable def smD:PyData->Bool
 |.str z=>decide (z.length≤1000)
 |.list ds=>vL ds
 |.tuple ds=>vL ds
 |_=>true
noncomputable def vL:List PyData->Bool
 |[]=>true
 |d :: ds=>smD d && vL ds
end
theorem jG:∀ {ds:List PyData}{d:PyData},vL ds=true->d∈ds->smD d=true
 |x :: ds,d,h,m=>by
  simp only [vL,Bool.and_eq_true] at h
  rcases List.mem_cons.1 m with rfl |m
  ·exact h.1
  ·exact jG h.2 m
inductive sWholeD (ws:List W) (O:OM) (R:WK):Prop
 |mk:∀ d a b,ws=[.d d,.d (.int a),.d (.int b)]->R (.d (.bool (wholeD a b d))) O->sWholeD ws O R
inductive sInkD (ws:List W) (O:OM) (R:WK):Prop
 |mk:∀ d,ws=[.d d]->R (.d (.bool (inkD d))) O->sInkD ws O R
inductive sSignD (ws:List W) (O:OM) (R:WK):Prop
 |mk:∀ d,ws=[.d d]->smD d=true->R (.d (.bool (signD d))) O->sSignD ws O R
inductive sCellD (ws:List W) (O:OM) (R:WK):Prop
 |mk:∀ d,ws=[.d d]->smD d=true->R (.d (.bool (cellD d))) O->sCellD ws O R
inductive sSizeD (ws:List W) (O:OM) (R:WK):Prop
 |mk:∀ a b,ws=[.d a,.d b]->R (.d (.bool (sizeB a b))) O->sSizeD ws O R
inductive sRowD (ws:List W) (O:OM) (R:WK):Prop
 |mk:∀ d w,ws=[.d d,.d (.int w)]->w≤24->smD d=true->R (.d (.bool (rowB w d))) O->sRowD ws O R
inductive sPicD (ws:List W) (O:OM) (R:WK):Prop
 |mk:∀ d,ws=[.d d]->smD d=true->R (.d (.bool (picB d))) O->sPicD ws O R
theorem zff (O:OM) (ds:List PyData) (g:PyData->Bool):zD O (.d (.list ((ds.map W.d).filterMap fun w=>match w with |.d d=>some (.bool (g d)) |_=>none)))=some ((ds.map g).map fun b=>W.d (.bool b)):=by
 rw [xq ds W.d _ (fun d=>PyData.bool (g d)) (fun _=>rfl)]
 show some (List.map W.d _)=_
 rw [List.map_map,List.map_map]
 rfl
theorem all_map {α:Type}(ds:List α) (g:α->Bool):(ds.map g).all id=ds.all g:=by rw [List.all_map];rfl
theorem yJ {O:OM}{ds:List PyData}:qC O (.d (.list ds))=some ds.length:=by simp [qC,xn,zD]
theorem QH {α:Type}{x:α}{l:List α}:atI (x :: l) 0 =some x:=(yn (j:=0) (xs:=x :: l) rfl:atI (x :: l) ((0:Nat):Int)=some x)
theorem zfg (a c:Nat):(#[a]:Array Nat)≤#[c]↔a≤c:=by
 rw [<- Array.not_lt,<- Array.lt_toList]
 have:=V0 c a
 simp only [decide_eq_decide] at this
 rw [show ((#[c]:Array Nat).toList < (#[a]:Array Nat).toList)↔c < a from this]
 omega
theorem zfh (a c:Nat):(#[a]:Array Nat) < #[c]↔a < c:=by
 rw [<- Array.lt_toList]
 have:=V0 a c
 simp only [decide_eq_decide] at this
 exact this
theorem Z5 {z:Str}(h:z.length= 1):∃ c,z=⟨#[c]⟩:=by
 obtain⟨⟨l⟩⟩:=z
 obtain⟨c,rfl⟩:=List.length_eq_one_iff.1 (show l.length= 1 from h)
 exact⟨c,rfl⟩
section
variable {P:Program}{w:World}{K:W.Frag}{mg:Str->Option Value}{base:Heap}{f:Addr}{fd:FuncData}{bw sw hf:Addr}
theorem Vx (F:Fun K "is_whole" "is_whole" qM f fd) (T:Txt P w K mg bw sw hf):FnOk P w K mg base CX0 1 f fd ["thing","least","most"] (zd K sWholeD):=by
 apply F.okV Vw (by rintro _ _ _ ⟨d,a,b,rfl,_⟩;rfl) (fun cdv A outer sh H E hr=>(ze (zi (xy (zk (xH (K:=K) rfl) (by rfl) T.n_isinstance (by rfl) (QA.pa (qc (pv 0) (qc (yW (v:=.ty "int") (u:=.type "int") rfl T.n_int rfl rfl) qn)))) (xy (zdK (zk (xH (K:=K) rfl) (by rfl) T.n_isinstance (by rfl) (QA.pa (qc (pv 0) (qc (yW (v:=.ty "bool") (u:=.type "bool") rfl T.n_bool rfl rfl) qn))))) (vO (Xd jK jK (pv 1) (pv 0) (pv 2))))))))
 ·walk_at "ref"
 rintro _ O R ⟨d,a,b,rfl,h⟩
 cases d with
 |int i=>
  walk_at "wd"
  simp only [wholeD] at h
  split
  ·rename_i q
   rw [decide_eq_true q,Bool.true_and] at h
   exact .inl h
  ·rename_i q
   rw [decide_eq_false q,Bool.false_and] at h
   exact .inl h
 |_=>
  walk_at "wd"
  exact .inl h
theorem Km (F:Fun K "is_ink" "is_ink" kB f fd) (T:Txt P w K mg bw sw hf) (zhs:Cal P w K mg base 1 "is_whole" [] (zd K sWholeD)):FnOk P w K mg base CX0 2 f fd ["thing"] (zd K sInkD):=by
 apply F.okV Kj (by rintro _ _ _ ⟨d,rfl,_⟩;rfl) (fun cdv A outer sh H E hr=>(ze (zi (zr zhs (hr.mono (by decide)) rfl (QA.pa (qc (pv 0) (qc za (qc (kT rfl T.g_LAST_INK) qn))))))))
 ·walk_at "ref"
 rintro _ O R ⟨d,rfl,h⟩
 walk_at "wd"
 exact⟨d,0,511,rfl,.inl h⟩
theorem QI (F:Fun K "is_sign" "is_sign" jt f fd) (T:Txt P w K mg bw sw hf):FnOk P w K mg base CX0 1 f fd ["thing"] (zd K sSignD):=by
  apply F.okV QD (by rintro _ _ _ ⟨d,rfl,_⟩;rfl) (fun cdv A outer sh H E hr=>(zb (zL (PW.pt (yQ (yK (yS (zk (xH (K:=K) rfl) (by rfl) T.n_isinstance (by rfl) (QA.pa (qc (pv 0) (qc (yW (v:=.ty "str") (u:=.type "str") rfl T.n_str rfl rfl) qn)))))) (xi (zq x6 (zk xj (by rfl) T.n_len (by rfl) (QA.pa (qc (pv 0) qn))) za (zt _))))) (ze (zi x5)) zw)
      (ze (zi (xy (Xd YC YC zj (pv 0) zj) (vO (ue x6 (zk JJ (by rfl) T.n_ord (by rfl) (QA.pa (qc (pv 0) qn))) (kT rfl T.g_PERCENT_SIGN) (zt _))))))))
  · walk_at "ref"
  rintro _ O R ⟨d,rfl,sm,h⟩
  cases d with
  |str z=>
    walk_at "wd"
    have hl:z.length≤1000:=of_decide_eq_true sm
    refine⟨by rw [sizeLine_eq];omega,?_⟩
    by_cases hz:z.length= 1
    · obtain⟨c,rfl⟩:=Z5 hz
      have e1:(Str.ofString " ").cps= #[32]:=by decide +kernel
      have e2:(Str.ofString "~").cps= #[126]:=by decide +kernel
      have ec:(⟨#[c]⟩:Str).cps= #[c]:=rfl
      have e3:(#[c]:Array Nat)[0]?.getD 0 =c:=rfl
      have hs:signD (.str ⟨#[c]⟩)=((decide (32≤c) && decide (c≤126)) && decide (c≠37)):=rfl
      rw [hs] at h
      rw [e1,e2,ec,e3]
      simp only [zfg,zfh]
      split
      · rename_i q
        rw [decide_eq_true q.2,Bool.true_and] at h
        by_cases q2:c≤126
        · refine .inr ⟨q2,hz,?_⟩
          rw [decide_eq_true q2,Bool.true_and] at h
          have:(!decide ((c:Int)= 37))=decide (c≠37):=by
            by_cases q3:c= 37
            · subst q3;rfl
            · rw [decide_eq_true q3,decide_eq_false (by omega)];rfl
          rw [this]
          exact .inl h
        · rw [decide_eq_false q2,Bool.false_and] at h
          exact .inl ⟨by omega,.inl h⟩
      · rename_i q
        have:¬ 32≤c:=fun z=>q ⟨by rw [hz];rfl,z⟩
        rw [decide_eq_false this,Bool.false_and,Bool.false_and] at h
        exact .inl h
    · rw [if_neg (fun q=>hz (by omega))]
      have hs:signD (.str z)=false:=by simp only [signD,decide_eq_false hz,Bool.false_and]
      rw [hs] at h
      exact .inl h
  |_=>
    walk_at "wd"
    exact .inl h
theorem QJ (F:Fun K "is_cell" "is_cell" ju f fd) (T:Txt P w K mg bw sw hf) (zhq:Cal P w K mg base 1 "is_sign" [] (zd K sSignD)) (zho:Cal P w K mg base 2 "is_ink" [] (zd K sInkD)):FnOk P w K mg base CX0 3 f fd ["thing"] (zd K sCellD):=by
  apply F.okV QE (by rintro _ _ _ ⟨d,rfl,_⟩;rfl) (fun cdv A outer sh H E hr=>(zb (zL (PW.pt (yQ (yK (yS (zk (xH (K:=K) rfl) (by rfl) T.n_isinstance (by rfl) (QA.pa (qc (pv 0) (qc (yW (v:=.ty "tuple") (u:=.type "tuple") rfl T.n_tuple rfl rfl) qn)))))) (xi (zq x6 (zk (ye (K:=K) rfl) (by rfl) T.n_len (by rfl) (QA.pa (qc (pv 0) qn))) za (zt _))))) (ze (zi x5)) zw)
      (ze (zi (xy (zr zhq (hr.mono (by decide)) rfl (QA.pa (qc (zE (xp (K:=K) rfl) (pv 0) za (fun _ _=>rfl)) qn))) (vO (zr zho (hr.mono (by decide)) rfl (QA.pa (qc (zE (xp (K:=K) rfl) (pv 0) za (fun _ _=>rfl)) qn)))))))))
  · walk_at "ref"
  rintro _ O R ⟨d,rfl,sm,h⟩
  cases d with
  |tuple ds=>
    walk_at "wd"
    refine⟨ds.length,rfl,?_⟩
    match ds,sm,h with
    |[a,b],sm,h=>
      rw [if_pos (show (([a,b]:List PyData).length:Int)= 2 from rfl)]
      have sm2:smD a=true:=by
        simp only [smD,vL,Bool.and_eq_true] at sm
        exact sm.1
      refine⟨a,rfl,a,rfl,sm2,?_⟩
      have hc:cellD (.tuple [a,b])=(signD a && inkD b):=rfl
      rw [hc] at h
      cases hs:signD a with
      |false=>
        rw [hs,Bool.false_and] at h
        exact .inl ⟨rfl,.inl h⟩
      |true=>
        rw [hs,Bool.true_and] at h
        exact .inr ⟨rfl,b,rfl,b,rfl,.inl h⟩
    |[],sm,h=>exact .inl h
    |[a],sm,h=>exact .inl h
    |a :: b :: c :: ds,sm,h=>
      rw [if_neg (by simp only [List.length_cons];omega)]
      exact .inl h
  |_=>
    walk_at "wd"
    exact .inl h
theorem QK (F:Fun K "is_size" "is_size" jv f fd) (T:Txt P w K mg bw sw hf) (zhs:Cal P w K mg base 1 "is_whole" [] (zd K sWholeD)):FnOk P w K mg base CX0 2 f fd ["wide","high"] (zd K sSizeD):=by
 apply F.okV QF (by rintro _ _ _ ⟨a,b,rfl,_⟩;rfl) (fun cdv A outer sh H E hr=>(ze (zi (xy (zr zhs (hr.mono (by decide)) rfl (QA.pa (qc (pv 0) (qc za (qc (kT rfl T.g_WIDEST) qn))))) (vO (zr zhs (hr.mono (by decide)) rfl (QA.pa (qc (pv 1) (qc za (qc (kT rfl T.g_HIGHEST) qn))))))))))
 ·walk_at "ref"
 rintro _ O R ⟨a,b,rfl,h⟩
 walk_at "wd"
 refine⟨a,1,24,rfl,?_⟩
 unfold sizeB at h
 cases hs:wholeD 1 24 a with
 |false=>
  rw [hs,Bool.false_and] at h
  exact .inl ⟨rfl,.inl h⟩
 |true=>
  rw [hs,Bool.true_and] at h
  exact .inr ⟨rfl,b,1,12,rfl,.inl h⟩
theorem Kn (F:Fun K "is_row" "is_row" kC f fd) (T:Txt P w K mg bw sw hf) (zhn:Cal P w K mg base 3 "is_cell" [] (zd K sCellD)):FnOk P w K mg base CX0 4 f fd ["thing","wide"] (zd K sRowD):=by
  apply F.okV Kk (by rintro _ _ _ ⟨d,a,rfl,_⟩;rfl) (fun cdv A outer sh H E hr=>(zb (zL (PW.pt (yQ (yK (yS (zk (xH (K:=K) rfl) (by rfl) T.n_isinstance (by rfl) (QA.pa (qc (pv 0) (qc (yW (v:=.ty "list") (u:=.type "list") rfl T.n_list rfl rfl) qn)))))) (xi (zq x6 (zk (ye (K:=K) rfl) (by rfl) T.n_len (by rfl) (QA.pa (qc (pv 0) qn))) (pv 1) (zt _))))) (ze (zi x5)) zw)
      (ze (zi (zk (Jv (K:=K) rfl rfl) (by rfl) T.n_all (by rfl) (QA.pa (qc (xa (xk (N:=["cell"]) (n:=1) (js:=[])) rfl (z7 (K:=K) rfl (pv 0)) (fun _ _ _ _=>(zv (i:=0) (show List.Nodup (["cell"]:List Str) by decide +kernel) rfl (Or.inl rfl))) (fun _ _ _ _=>yx) (fun _ _ _ _=>(zr zhn (hr.mono (by decide)) rfl (QA.pa (qc (pv 0) qn))))) qn)))))))
  · walk_at "ref"
  rintro _ O R ⟨d,a,rfl,ha,sm,h⟩
  cases d with
  |list ds=>
    walk_at "wd"
    simp only [smD] at sm
    have hr:rowB a (.list ds)=(decide ((ds.length:Int)=a) && ds.all cellD):=rfl
    rw [hr] at h
    refine⟨ds.length,yJ,?_⟩
    split
    · rename_i q
      rw [decide_eq_true q,Bool.true_and] at h
      refine⟨ds.map .d,rfl,by rw [List.length_map];omega,fun w=>match w with |.d d=>some (.bool (cellD d)) |_=>none,?_,ds.map cellD,zff O ds cellD,?_⟩
      · intro w hw us hu
        obtain⟨u,rfl⟩:=List.length_eq_one_iff.1 hu
        obtain⟨d,hd,rfl⟩:=List.mem_map.1 hw
        exact⟨rfl,rfl,d,rfl,jG sm hd,rfl,rfl⟩
      · rw [all_map]
        exact .inl h
    · rename_i q
      rw [decide_eq_false q,Bool.false_and] at h
      exact .inl h
  |_=>
    walk_at "wd"
    exact .inl h
theorem YW (F:Fun K "is_picture" "is_picture" uI f fd) (T:Txt P w K mg bw sw hf) (zhr:Cal P w K mg base 2 "is_size" [] (zd K sSizeD)) (zhp:Cal P w K mg base 4 "is_row" [] (zd K sRowD)):FnOk P w K mg base CX0 5 f fd ["thing"] (zd K sPicD):=by
  have nd:=qU.nd
  apply F.okV qU (by rintro _ _ _ ⟨d,rfl,_⟩;rfl) (fun cdv A outer sh H E hr=>(zb (zL (PW.pt (yQ (yK (yS (zk (xH (K:=K) rfl) (by rfl) T.n_isinstance (by rfl) (QA.pa (qc (pv 0) (qc (yW (v:=.ty "list") (u:=.type "list") rfl T.n_list rfl rfl) qn)))))) (yQ (zq yr (zk (ye (K:=K) rfl) (by rfl) T.n_len (by rfl) (QA.pa (qc (pv 0) qn))) za (zt _)) (xi (yK (yS (zk (xH (K:=K) rfl) (by rfl) T.n_isinstance (by rfl) (QA.pa (qc (zE (zZ (K:=K) rfl) (pv 0) za (fun _ _=>rfl)) (qc (yW (v:=.ty "list") (u:=.type "list") rfl T.n_list rfl rfl) qn)))))))))) (ze (zi x5)) zw)
      (zb (zh (i:=1) nd rfl (Or.inr rfl) (zk (ye (K:=K) rfl) (by rfl) T.n_len (by rfl) (QA.pa (qc (zE (zZ (K:=K) rfl) (pv 0) za (fun _ _=>rfl)) qn))))
      (ze (zi (xy (zr zhr (hr.mono (by decide)) rfl (QA.pa (qc (pv 1) (qc (zk (ye (K:=K) rfl) (by rfl) T.n_len (by rfl) (QA.pa (qc (pv 0) qn))) qn)))) (vO (zk (Jv (K:=K) rfl rfl) (by rfl) T.n_all (by rfl) (QA.pa (qc (xa (xk (N:=["row","wide"]) (n:=1) (js:=[1])) rfl (z7 (K:=K) rfl (pv 0)) (fun _ _ _ _=>(zv (i:=0) (show List.Nodup (["row","wide"]:List Str) by decide +kernel) rfl (Or.inl rfl))) (fun _ _ _ _=>yx) (fun _ _ _ _=>(zr zhp (hr.mono (by decide)) rfl (QA.pa (qc (pv 0) (qc (pv 1) qn)))))) qn))))))))))
  · walk_at "ref"
  rintro _ O R ⟨d,rfl,sm,h⟩
  cases d with
  |list ds=>
    simp only [smD] at sm
    refine zN (fun ρ' O'=>An3 (ρ'=[some (.d (.list ds)),none]) (O=O') (Ex2 fun es rs=>ds=.list es :: rs)) (fun R1 hR1=>?_) ?_
    · walk_at "wd"
      refine⟨ds.length,yJ,?_⟩
      match ds,sm,h,hR1 with
      |[],sm,h,hR1=>
        rw [if_pos (show ([]:List PyData).length= 0 from rfl)]
        exact .inl h
      |d :: rs,sm,h,hR1=>
        rw [if_neg (by simp)]
        refine⟨_,rfl,.d d,QH,?_⟩
        cases d with
        |list es=>
          show if true=true then _ else _
          rw [if_pos rfl]
          exact hR1 _ _ ⟨rfl,rfl,es,rs,rfl⟩
        |_=>exact .inl h
    rintro _ _ ⟨rfl,rfl,es,rs,rfl⟩
    refine zN (fun ρ' O'=>ρ'=[some (.d (.list (.list es :: rs))),some (.d (.int es.length))]/\O=O') (fun R1 hR1=>?_) ?_
    · walk_at "wd"
      exact⟨_,rfl,_,QH,_,yJ,hR1 _ _ ⟨rfl,rfl⟩⟩
    rintro _ _ ⟨rfl,rfl⟩
    walk_at "wd"
    refine⟨_,yJ,_,_,rfl,?_⟩
    have hp:picB (.list (.list es :: rs))=(sizeB (.int es.length) (.int (rs.length+1:Nat)) && (PyData.list es :: rs).all (rowB es.length)):=rfl
    rw [hp] at h
    show _/\_\/_
    rw [List.length_cons]
    cases hs:sizeB (.int es.length) (.int (rs.length+1:Nat)) with
    |false=>
      rw [hs,Bool.false_and] at h
      exact .inl ⟨rfl,.inl h⟩
    |true=>
      rw [hs,Bool.true_and] at h
      have hz:=hs
      simp only [sizeB,wholeD,Bool.and_eq_true,decide_eq_true_eq] at hz
      refine .inr ⟨rfl,(PyData.list es :: rs).map .d,rfl,by rw [List.length_map,List.length_cons];omega,fun w=>match w with |.d d=>some (.bool (rowB es.length d)) |_=>none,?_,(PyData.list es :: rs).map (rowB es.length),zff O _ _,?_⟩
      · intro w hw us hu
        obtain⟨u,rfl⟩:=List.length_eq_one_iff.1 hu
        obtain⟨d,hd,rfl⟩:=List.mem_map.1 hw
        exact⟨rfl,rfl,d,_,rfl,by omega,jG sm hd,rfl,rfl⟩
      · rw [all_map]
        exact .inl h
  |_=>
    refine zN (fun ρ' O'=>False) (fun R1 hR1=>?_) ?_
    · walk_at "wd"
      exact .inl h
    · exact fun _ _ z=>z.elim
end
structure Ds (O:OM) (bs:List Addr) (rows:List (List PyData)):Prop where
 pr:Paired (fun (b:Addr) (ds:List PyData)=>O b=some (.lst (ds.map W.d))) bs rows
 nd:bs.Nodup
structure Dp (O:OM) (p:Addr) (bs:List Addr) (rows:List (List PyData)):Prop where
 at_:O p=some (.lst (bs.map W.own))
 ds:Ds O bs rows
 out:p ∉ bs
theorem Ds.nil {O:OM}:Ds O [] []:=⟨.nil,List.nodup_nil⟩
theorem Ds.mem {O:OM}{bs:List Addr}{rows:List (List PyData)}(h:Ds O bs rows) {b:Addr}(m:b∈bs):∃ ds:List PyData,O b=some (.lst (ds.map W.d)):=by
 obtain⟨i,hi⟩:=List.mem_iff_getElem?.1 m
 obtain⟨ds,_,q⟩:=Paired.getP h.pr hi
 exact⟨ds,q⟩
theorem Ds.far {O:OM}{bs:List Addr}{rows:List (List PyData)}(h:Ds O bs rows) {p:Addr}(hp:p ∉ bs) (x:OO):Ds (updO O p x) bs rows:=by
 obtain⟨pr,nd⟩:=h
 refine⟨?_,nd⟩
 clear nd
 induction pr with
 |nil=>exact .nil
 |cons a b ih=>exact .cons (by rw [zC (fun z=>hp (by rw [z];exact List.mem_cons_self))];exact a) (ih fun z=>hp (List.mem_cons_of_mem _ z))
theorem Ds.new {O:OM}{bs:List Addr}{rows:List (List PyData)}(h:Ds O bs rows) {p:Addr}(hp:O p=none):p ∉ bs:=fun m=>by
 obtain⟨ds,q⟩:=h.mem m
 rw [hp] at q
 cases q
theorem Ds.snoc {O:OM}{bs:List Addr}{rows:List (List PyData)}(h:Ds O bs rows) {p:Addr}(hp:O p=none) (ds:List PyData):Ds (updO O p (.lst (ds.map W.d))) (bs ++ [p]) (rows ++ [ds]):=by
 have hn:=h.new hp
 refine⟨Paired.appP (h.far hn _).pr (.cons zu .nil),?_⟩
 rw [List.nodup_append]
 refine⟨h.nd,by simp,fun a ha b hb=>?_⟩
 cases List.mem_singleton.1 hb
 exact fun e=>hn (e ▸ ha)
theorem Ds.full {O:OM}{bs:List Addr}{rows:List (List PyData)}(h:Ds O bs rows) {p:Addr}(hp:O p=none):Dp (updO O p (.lst (bs.map W.own))) p bs rows:=⟨zu,h.far (h.new hp) _,h.new hp⟩
theorem Ds.items {O:OM}{bs:List Addr}{rows:List (List PyData)}(h:Ds O bs rows):yC O (bs.map W.own)=some (rows.map PyData.list):=by
 have pr:=h.pr
 clear h
 induction pr with
 |nil=>rfl
 |cons a b ih=>
  rename_i x y xs ys
  have e:vD O (.own x)=some (.list y):=by
   simp only [vD,show O x=_ from a,zf]
   rfl
  rw [List.map_cons,yC,e,ih]
  rfl
noncomputable def pd (rows:List (List PyData)):PyData:=.list (rows.map .list)
theorem Dp.deep {O:OM}{p:Addr}{bs:List Addr}{rows:List (List PyData)}(h:Dp O p bs rows):x9 O (.own p)=some (pd rows):=by
 simp only [x9,h.at_,h.ds.items]
 rfl
inductive sNeed (bp:Addr) (ws:List W) (O:OM) (R:WK) (Y:Addr->OM->Prop):Prop
 |mk:∀ d,ws=[.d d]->smD d=true->((picB d=true->R (.d .none) O))->((picB d=false->Y bp O))->sNeed bp ws O R Y
inductive sAtL (ws:List W) (O:OM) (R:WK):Prop
 |mk:∀ ns:List Int,∀ k:Int,ws=[.d (.list (ns.map .int)),.d (.int k)]->0≤k->k≤2000->(∀ n:Int,0≤n->n≤333334->R (.d (.int n)) O)->sAtL ws O R
inductive sSignL (ws:List W) (O:OM) (R:WK):Prop
 |mk:∀ c:Int,ws=[.d (.int c)]->0≤c->(∀ z:Str,signD (.str z)=true->R (.d (.str z)) O)->sSignL ws O R
inductive sSizeL (ws:List W) (O:OM) (R:WK):Prop
 |mk:∀ c:Int,ws=[.d (.int c)]->0≤c->(∀ w h:Int,1≤w->w≤24->1≤h->h≤12->R (.d (.tuple [.int w,.int h])) O)->sSizeL ws O R
theorem Ko {O:OM}{ds:List PyData}:zD O (.d (.list ds))=some (ds.map W.d):=rfl
theorem qr {O:OM}{ds:List PyData}:qB O (.d (.list ds))=some ds:=by simp only [qB,xn,zD,Option.bind_some,zf]
theorem zfi {O:OM}{rows:List (List PyData)}:qC O (.d (pd rows))=some rows.length:=by unfold pd;rw [yJ,List.length_map]
theorem zdt {O:OM}{rows:List (List PyData)}:zD O (.d (pd rows))=some ((rows.map PyData.list).map W.d):=rfl
theorem zdu {O:OM}{rows:List (List PyData)}:qB O (.d (pd rows))=some (rows.map PyData.list):=qr
section
variable {P:Program}{w:World}{K:W.Frag}{mg:Str->Option Value}{base:Heap}{f:Addr}{fd:FuncData}{se bp bs bi ba un:Addr}{bw sw hf:Addr}
theorem Zo (F:Fun K "need_picture" "need_picture" vv f fd) (T:Txt P w K mg bw sw hf) (X:TxtX K mg se bp bs bi ba un) (c_is_picture:Cal P w K mg base 5 "is_picture" [] (zd K sPicD)):FnOk P w K mg base (CX1 P w) 6 f fd ["picture"] (zU K (sNeed bp)):=by
 apply F.okXV Zl (by rintro _ _ _ _ ⟨d,rfl,_⟩;rfl) (fun cdv A outer sh H E hr=>(ze (zL (yK (yS (zr c_is_picture (hr.mono (by decide)) rfl (QA.pa (qc (pv 0) qn))))) (ze (uy xc X.x_BadPicture rfl rfl X.c_BadPicture (QA.pa (qc zj qn)))) zw)))
 ·walk_at "ref"
 rintro _ O R Y ⟨d,rfl,sm,h1,h2⟩
 walk_at "wd"
 refine⟨d,rfl,sm,?_⟩
 cases hp:picB d with
 |true=>exact .inl (h1 hp)
 |false=>exact h2 hp
theorem Kp (F:Fun K "_law_at" "_law_at" jz f fd) (T:Txt P w K mg bw sw hf):FnOk P w K mg base CX0 1 f fd ["_law_script","_law_k"] (zd K sAtL):=by
  have nd:=Zn.nd
  apply F.okV Zn (by rintro _ _ _ ⟨a,b,rfl,_⟩;rfl) (fun cdv A outer sh H E hr=>(zb (zh (i:=2) nd rfl (Or.inl rfl) za)
      (zb (zL (zq Y1 (zk (ye (K:=K) rfl) (by rfl) T.n_len (by rfl) (QA.pa (qc (pv 0) qn))) za (zt _)) (ze (zh (i:=2) nd rfl (Or.inl rfl) (zE (zZ (K:=K) rfl) (pv 0) (zc zG (pv 1) (zk (ye (K:=K) rfl) (by rfl) T.n_len (by rfl) (QA.pa (qc (pv 0) qn)))) (fun _ _=>rfl)))) zw)
      (zb (zh (i:=3) nd rfl (Or.inl rfl) (zc zG (zc yF (zc zy (zc zy (zc zy (zc zG (pv 2) za) (zc yF (zc yF za (pv 1)) (pv 1))) (zc yF za (pv 1))) za) za) za))
      (ze (zi (zc zT (zc zG (zc yF (pv 3) (pv 3)) za) za)))))))
  · walk_at "ref"
  rintro _ O R ⟨ns,k,rfl,k0,k1,h⟩
  refine ub (fun ρ' O'=>Ex1 fun (c:Int)=>An2 (ρ'=[some (.d (.list (ns.map .int))),some (.d (.int k)),some (.d (.int c)),none]) (O=O')) (fun R1 hR1=>?_) ?_
  · walk_at "wd"
    refine⟨ns.length,by rw [yJ,List.length_map],?_⟩
    split
    · rename_i q
      refine⟨ns.length,by rw [yJ,List.length_map],q,_,rfl,?_⟩
      obtain⟨j,hj⟩:=Int.eq_ofNat_of_zero_le (Int.emod_nonneg k (show (ns.length:Int)≠0 by omega))
      have q1:j < ns.length:=by
        have:=Int.emod_lt_of_pos k (show (0:Int) < ns.length by omega)
        omega
      rw [hj]
      refine⟨.d (.int ns[j]),yn ?_,hR1 _ _ ⟨_,rfl,rfl⟩⟩
      rw [List.getElem?_map,List.getElem?_map,List.getElem?_eq_getElem q1]
      rfl
    · exact hR1 _ _ ⟨0,rfl,rfl⟩
  rintro _ _ ⟨c,rfl,rfl⟩
  walk_at "wd"
  have k2:0≤k*k:=Int.mul_nonneg k0 k0
  have k3:k*k≤2000*2000:=Int.mul_le_mul k1 k1 k0 (by omega)
  have e31:31*k*k= 31*(k*k):=by rw [Int.mul_assoc]
  have c1:=Int.emod_nonneg c (show (1000003:Int)≠0 by decide)
  have c2:=Int.emod_lt_of_pos c (show (0:Int) < 1000003 by decide)
  refine⟨mulL (by decide) (by decide),mulL (by omega) (by omega),mulL (by decide) (by decide),mulR (by decide) (by decide),mulL ?_ ?_,⟨by omega,by omega⟩,.inl (h _ ?_ ?_)⟩
  · omega
  · omega
  · have:=Int.emod_nonneg ((c%1000003+31*k*k+7*k+11)*48271%1000003*((c%1000003+31*k*k+7*k+11)*48271%1000003)) (show (1000003:Int)≠0 by decide)
    omega
  · have:=Int.emod_lt_of_pos ((c%1000003+31*k*k+7*k+11)*48271%1000003*((c%1000003+31*k*k+7*k+11)*48271%1000003)) (show (0:Int) < 1000003 by decide)
    omega
theorem Vy (F:Fun K "_law_sign" "_law_sign" uY f fd) (T:Txt P w K mg bw sw hf):FnOk P w K mg base CX0 1 f fd ["_law_cell"] (zd K sSignL):=by
  have nd:=jA.nd
  apply F.okV jA (by rintro _ _ _ ⟨a,rfl,_⟩;rfl) (fun cdv A outer sh H E hr=>(zb (zh (i:=1) nd rfl (Or.inl rfl) zj)
      (ze (zi (zE (zZ (K:=K) rfl) (zR (qc (zE Xj (pv 1) (zc zG (zc zT (pv 0) za) za) (fun _ _=>rfl)) (qc zj (qc zj (qc zj qn))))) (zc zG (pv 0) za) (fun _ _=>rfl))))))
  · walk_at "ref"
  rintro _ O R ⟨c,rfl,c0,h⟩
  walk_at "wd"
  have sg:∀ n:_root_.Fin 94,∃ x,(Str.ofString " !\"#$&'()*+,-./0123456789:;<=>?\x40ABCDEFGHIJKLMNOPQRSTUVWXYZ[\\]^_`abcdefghijklmnopqrstuvwxyz{|}~").cps.toList[n.val]? =some x/\signD (.str ⟨#[x]⟩)=true:=by
    intro n
    have:∀ n:_root_.Fin 94,signD (.str ⟨#[(Str.ofString " !\"#$&'()*+,-./0123456789:;<=>?\x40ABCDEFGHIJKLMNOPQRSTUVWXYZ[\\]^_`abcdefghijklmnopqrstuvwxyz{|}~").cps.toList[n.val]?.getD 0]⟩)=true:=by decide +kernel
    have hl:(Str.ofString " !\"#$&'()*+,-./0123456789:;<=>?\x40ABCDEFGHIJKLMNOPQRSTUVWXYZ[\\]^_`abcdefghijklmnopqrstuvwxyz{|}~").cps.toList.length= 94:=by decide +kernel
    have h1:=List.getElem?_eq_getElem (show n.val < (Str.ofString " !\"#$&'()*+,-./0123456789:;<=>?\x40ABCDEFGHIJKLMNOPQRSTUVWXYZ[\\]^_`abcdefghijklmnopqrstuvwxyz{|}~").cps.toList.length by rw [hl];exact n.isLt)
    have h2:=this n
    rw [h1] at h2
    exact⟨_,h1,h2⟩
  obtain⟨x,hx,hs⟩:=sg ⟨(c / 4%94).toNat,by omega⟩
  refine⟨⟨by omega,by omega⟩,by decide +kernel,x,?_,_,rfl,?_⟩
  · have e:c / 4%94 =((c / 4%94).toNat:Nat):=by omega
    rw [e]
    exact yn hx
  · have e:c%4 = 0\/c%4 = 1\/c%4 = 2\/c%4 = 3:=by omega
    rcases e with e |e |e |e <;> rw [e]
    · exact⟨_,rfl,.inl (h _ hs)⟩
    · exact⟨_,rfl,.inl (h _ (by decide +kernel))⟩
    · exact⟨_,rfl,.inl (h _ (by decide +kernel))⟩
    · exact⟨_,rfl,.inl (h _ (by decide +kernel))⟩
theorem Vz (F:Fun K "_law_size" "_law_size" uZ f fd) (T:Txt P w K mg bw sw hf):FnOk P w K mg base CX0 1 f fd ["_law_cell"] (zd K sSizeL):=by
  apply F.okV XX (by rintro _ _ _ ⟨a,rfl,_⟩;rfl) (fun cdv A outer sh H E hr=>(zb (zL (zq yr (zc zG (pv 0) za) za (zt _)) (ze (zi (yR (qc (zc zy za (zc zG (zc zT (pv 0) za) za)) (qc (zc zy za (zc zG (zc zT (pv 0) za) za)) qn))))) zw)
      (zb (zL (zq yr (zc zG (pv 0) za) za (zt _)) (ze (zi (yR (qc za (qc za qn))))) zw)
      (ze (zi (yR (qc (zc zy za (zc zG (zc zT (pv 0) za) za)) (qc (zc zy za (zc zG (zc zT (pv 0) za) za)) qn))))))))
  · walk_at "ref"
  rintro _ O R ⟨c,rfl,c0,h⟩
  walk_at "wd"
  split
  · exact⟨⟨by omega,by omega⟩,⟨by omega,by omega⟩,.inl (h _ _ (by omega) (by omega) (by omega) (by omega))⟩
  · split
    · exact .inl (h _ _ (by decide) (by decide) (by decide) (by decide))
    · exact⟨⟨by omega,by omega⟩,⟨by omega,by omega⟩,.inl (h _ _ (by omega) (by omega) (by omega) (by omega))⟩
end
structure PicOk (rows:List (List PyData)) (w:Nat):Prop where
 w1:1≤w
 w2:w≤24
 h1:1≤rows.length
 h2:rows.length≤12
 row:∀ r∈rows,r.length=w/\r.all cellD=true
theorem kD:∀ {ds:List PyData},(∀ d∈ds,smD d=true)->vL ds=true
 |[],_=>rfl
 |d :: ds,h=>by
  simp only [vL,Bool.and_eq_true]
  exact⟨h d List.mem_cons_self,kD fun x hx=>h x (List.mem_cons_of_mem _ hx)⟩
theorem PicOk.pic {rows:List (List PyData)}{w:Nat}(h:PicOk rows w):picB (pd rows)=true:=by
 obtain⟨w1,w2,h1,h2,row⟩:=h
 cases rows with
 |nil=>cases h1
 |cons r rs=>
  have e:picB (pd (r :: rs))=(sizeB (.int r.length) (.int ((rs.map PyData.list).length+1:Nat)) && ((r :: rs).map PyData.list).all (rowB r.length)):=rfl
  have hw:=(row r List.mem_cons_self).1
  rw [e,Bool.and_eq_true]
  refine⟨?_,List.all_eq_true.2 fun d hd=>?_⟩
  ·simp only [sizeB,wholeD,Bool.and_eq_true,decide_eq_true_eq,List.length_map]
   simp only [List.length_cons] at h1 h2
   omega
  ·obtain⟨q,hq,rfl⟩:=List.mem_map.1 hd
   have:=row q hq
   show (decide ((q.length:Int)=_) && q.all cellD)=true
   rw [this.2,this.1,hw,decide_eq_true rfl]
   rfl
inductive sPicL (ws:List W) (O:OM) (R:WK):Prop
 |mk:∀ ns:List Int,∀ k:Int,ws=[.d (.list (ns.map .int)),.d (.int k)]->0≤k->k≤1000->(∀ rows w O',PicOk rows w->R (.d (pd rows)) O')->sPicL ws O R
local macro_rules | `(tactic| walk_at "postc")=>`(tactic| simp only [yJ,zfi,Ko,qr,zdt,zdu,zf,Option.some.injEq,exists_eq_left',List.length_map,xn])
section
variable {P:Program}{w:World}{K:W.Frag}{mg:Str->Option Value}{base:Heap}{f:Addr}{fd:FuncData}{se bp bs bi ba un:Addr}{bw sw hf:Addr}
theorem Z6 (F:Fun K "_law_picture" "_law_picture" vz f fd) (T:Txt P w K mg bw sw hf) (zhd:Cal P w K mg base 1 "_law_size" [] (zd K sSizeL)) (zg1:Cal P w K mg base 1 "_law_at" [] (zd K sAtL)) (zhc:Cal P w K mg base 1 "_law_sign" [] (zd K sSignL)):FnOk P w K mg base CX0 2 f fd ["_law_script","_law_at_here"] (zd K sPicL):=by
  have nd:=uR.nd
  apply F.okV uR (by rintro _ _ _ ⟨a,b,rfl,_⟩;rfl) (fun cdv A outer sh H E hr=>(zb (zdN (zr zhd (hr.mono (by decide)) rfl (QA.pa (qc (zr zg1 (hr.mono (by decide)) rfl (QA.pa (qc (pv 0) (qc (pv 1) qn)))) qn))) (vo (K:=K) (n:=2) rfl rfl (yk (zv (i:=2) nd rfl (Or.inl rfl)) (yk (zv (i:=3) nd rfl (Or.inl rfl)) vg))))
      (zb (zh (i:=4) nd rfl (Or.inl rfl) (zE (zZ (K:=K) rfl) (zR (qc za (qc za (qc za (qc za qn))))) (zc zG (zr zg1 (hr.mono (by decide)) rfl (QA.pa (qc (pv 0) (qc (zc zy (pv 1) za) qn)))) za) (fun _ _=>rfl)))
      (zb (zh (i:=5) nd rfl (Or.inl rfl) (vn qn))
      (zb (y7 PassesOwn.never rfl (y6 rfl T.n_range (QA.pa (qc (pv 3) qn))) (zv (i:=6) nd rfl (Or.inl rfl))
      (zb (zh (i:=7) nd rfl (Or.inl rfl) (vn qn))
      (zb (y7 PassesOwn.never rfl (y6 rfl T.n_range (QA.pa (qc (pv 2) qn))) (zv (i:=8) nd rfl (Or.inl rfl))
      (zb (zh (i:=9) nd rfl (Or.inl rfl) (zr zg1 (hr.mono (by decide)) rfl (QA.pa (qc (pv 0) (qc (zc zy (zc zy (zc zy (pv 1) za) (zc yF za (pv 6))) (pv 8)) qn)))))
      (zb (zh (i:=10) nd rfl (Or.inl rfl) (zc zG (zc zy (zc zT (zr zg1 (hr.mono (by decide)) rfl (QA.pa (qc (pv 0) (qc (zc zy (pv 1) za) qn)))) za) (zc yF (zc zG (zc zT (pv 9) za) (pv 4)) za)) za))
      (ze (yX (zS (K:=K) rfl PySem.F.plainAttrs_list PySem.F.slot_list_append PySem.F.type_list_append yL (pv 7) (QA.pa (qc (yR (qc (zr zhc (hr.mono (by decide)) rfl (QA.pa (qc (pv 9) qn))) (qc (pv 10) qn))) qn))))))))
      (ze (yX (zS (K:=K) rfl PySem.F.plainAttrs_list PySem.F.slot_list_append PySem.F.type_list_append Qa (pv 5) (QA.pa (qc (pv 7) qn))))))))
      (ze (zi (pv 5))))))))
  · walk_at "ref"
  rintro _ O R ⟨ns,k,rfl,k0,k1,h⟩
  refine zbR (fun ρ' O'=>Ex4 fun (x y m:Int) a=>An8 (1≤x) (x≤24) (1≤y) (y≤12) (1≤m) (m≤512) (ρ'=[some (.d (.list (ns.map .int))),some (.d (.int k)),some (.d (.int x)),some (.d (.int y)),some (.d (.int m)),some (.own a),none,none,none,none,none]) (O' a=some (.lst []))) (fun R1 hR1=>?_) ?_
  · walk_at "wd"
    refine⟨ns,k,rfl,k0,by omega,fun n n0 n1=>⟨n,rfl,n0,fun x y x1 x2 y1 y2=>⟨_,rfl,rfl,_,_,rfl,_,_,rfl,rfl,ns,k+1,rfl,by omega,by omega,fun n n0 n1=>⟨by decide,_,rfl,?_⟩⟩⟩⟩
    have e:n%4 = 0\/n%4 = 1\/n%4 = 2\/n%4 = 3:=by omega
    rcases e with e |e |e |e <;> rw [e] <;> exact⟨_,rfl,fun p hp=>hR1 _ _ ⟨x,y,_,p,x1,x2,y1,y2,by decide,by decide,rfl,zu⟩⟩
  rintro _ O1 ⟨x,y,m,a,x1,x2,y1,y2,m1,m2,rfl,ha⟩
  refine zN (fun ρ' O'=>Ex6 fun rows v1 v2 v3 v4 v5=>An3 (PicOk rows x.toNat) (ρ'=[some (.d (.list (ns.map .int))),some (.d (.int k)),some (.d (.int x)),some (.d (.int y)),some (.d (.int m)),some (.own a),v1,v2,v3,v4,v5]) (O' a=some (.lst (rows.map fun r=>W.d (.list r))))) (fun R1 hR1=>?_) ?_
  · walk_at "wd"
    refine⟨by omega,by omega,?_⟩
    refine yN.rng (f:=fun i=>(i:Int)) (fun i ρ O'=>Ex6 fun (rows:List (List PyData)) v1 v2 v3 v4 v5=>An4 (ρ=[some (.d (.list (ns.map .int))),some (.d (.int k)),some (.d (.int x)),some (.d (.int y)),some (.d (.int m)),some (.own a),v1,v2,v3,v4,v5]) (O' a=some (.lst (rows.map fun r=>W.d (.list r)))) (rows.length=i) (∀ r∈rows,r.length=x.toNat/\r.all cellD=true)) ⟨[],_,_,_,_,_,rfl,ha,rfl,by simp⟩ ?_ ?_
    · rintro i _ O2 hi ⟨rows,v1,v2,v3,v4,v5,rfl,ho,hl,hrow⟩ R2 hR2
      simp only [x8]
      refine ub (fun ρ' O'=>Ex5 fun b (r:List PyData) v3 v4 v5=>An6 (ρ'=[some (.d (.list (ns.map .int))),some (.d (.int k)),some (.d (.int x)),some (.d (.int y)),some (.d (.int m)),some (.own a),some (.d (.int i)),some (.own b),v3,v4,v5]) (b≠a) (O' a=some (.lst (rows.map fun r=>W.d (.list r)))) (O' b=some (.lst (r.map W.d))) (r.length=x.toNat) (r.all cellD=true)) (fun R3 hR3=>?_) ?_
      · walk_at "wd"
        intro b hb
        have nb:b≠a:=fun e=>by rw [e,ho] at hb;cases hb
        refine⟨by omega,by omega,?_⟩
        refine yN.rng (f:=fun i=>(i:Int)) (fun j ρ O'=>Ex4 fun (r:List PyData) v3 v4 v5=>An5 (ρ=[some (.d (.list (ns.map .int))),some (.d (.int k)),some (.d (.int x)),some (.d (.int y)),some (.d (.int m)),some (.own a),some (.d (.int i)),some (.own b),v3,v4,v5]) (O' a=some (.lst (rows.map fun r=>W.d (.list r)))) (O' b=some (.lst (r.map W.d))) (r.length=j) (r.all cellD=true)) ⟨[],_,_,_,rfl,by rw [zC (Ne.symm nb)];exact ho,zu,rfl,rfl⟩ ?_ ?_
        · rintro j _ O3 hj ⟨r,v3,v4,v5,rfl,h1,h2,h3,h4⟩ R4 hR4
          simp only [x8]
          refine ub (fun ρ' O'=>Ex2 fun (c d:Int)=>An5 (0≤c) (0≤d) (d < 512) (ρ'=[some (.d (.list (ns.map .int))),some (.d (.int k)),some (.d (.int x)),some (.d (.int y)),some (.d (.int m)),some (.own a),some (.d (.int i)),some (.own b),some (.d (.int j)),some (.d (.int c)),some (.d (.int d))]) (O3=O')) (fun R5 hR5=>?_) ?_
          · walk_at "wd"
            refine⟨mulL (by decide) (by decide),ns,_,rfl,by omega,by omega,fun n n0 n1=>⟨ns,_,rfl,by omega,by omega,fun q q0 q1=>⟨⟨by omega,by omega⟩,⟨by omega,by omega⟩,by omega,mulR (by decide) (by decide),hR5 _ _ ⟨n,_,n0,Int.emod_nonneg _ (by decide),Int.emod_lt_of_pos _ (by decide),rfl,rfl⟩⟩⟩⟩
          rintro _ _ ⟨c,d,c0,d0,d1,rfl,rfl⟩
          walk_at "wd"
          refine⟨.inl ⟨rfl,by simp [zD,h2]⟩,c,rfl,c0,fun z hz=>⟨[.str z,.int d],rfl,by simp,updO O3 b (.lst ((r ++ [PyData.tuple [.str z,.int d]]).map W.d)),?_,hR4 _ _ ⟨r ++ [.tuple [.str z,.int d]],_,_,_,rfl,by rw [zC (Ne.symm nb)];exact h1,zu,by simp [h3],?_⟩⟩⟩
          · simp only [uU,h2]
            rw [if_pos (by rw [List.length_map];omega),List.map_append]
            rfl
          · rw [List.all_append,h4,List.all_cons,List.all_nil,Bool.and_true,Bool.true_and]
            show (signD (.str z) && inkD (.int d))=true
            rw [hz,Bool.true_and]
            simp only [inkD,wholeD,Bool.and_eq_true,decide_eq_true_eq]
            omega
        · rintro _ O3 ⟨r,v3,v4,v5,rfl,h1,h2,h3,h4⟩
          exact hR3 _ _ ⟨b,r,_,_,_,rfl,nb,h1,h2,h3,h4⟩
      rintro _ O3 ⟨b,r,w3,w4,w5,rfl,nb,h1,h2,h3,h4⟩
      walk_at "wd"
      refine⟨.inl ⟨rfl,by simp [zD,h1]⟩,updO (del O3 b) a (.lst ((rows ++ [r]).map fun r=>W.d (.list r))),?_,hR2 _ _ ⟨rows ++ [r],_,_,_,_,_,rfl,zu,by simp [hl],?_⟩⟩
      · simp only [zaF,h2,zf,xF (Ne.symm nb),h1]
        rw [if_pos (by rw [List.length_map];omega),List.map_append]
        rfl
      · intro q hq
        rcases List.mem_append.1 hq with m |m
        · exact hrow q m
        · cases List.mem_singleton.1 m
          exact⟨h3,h4⟩
    · rintro _ O2 ⟨rows,v1,v2,v3,v4,v5,rfl,ho,hl,hrow⟩
      exact hR1 _ _ ⟨rows,_,_,_,_,_,⟨by omega,by omega,by omega,by omega,hrow⟩,rfl,ho⟩
  rintro _ O2 ⟨rows,v1,v2,v3,v4,v5,ok,rfl,ho⟩
  walk_at "wd"
  refine .inr ⟨a,rows.map PyData.list,rfl,?_,h _ _ _ ok⟩
  rw [ho,List.map_map]
  rfl
end
noncomputable def yo (n:Nat):List Str:=(if n / 64%2 = 1 then [ya] else []) ++ (if n / 128%2 = 1 then [yd] else []) ++ (if n / 256%2 = 1 then [yf] else [])
noncomputable def zJ (n:Nat):List Str:=yo n ++ (if n%8 = 0 then [] else [yb ++ sp1 ++ fig (n%8)]) ++ (if n / 8%8 = 0 then [] else [yt ++ sp1 ++ fig (n / 8%8)])
theorem zdv (w:Str):Str.join sp1 [w]=w:=rfl
theorem zdw (w v:Str):Str.join sp1 [w,v]=w ++ sp1 ++ v:=rfl
theorem Zp (n:Nat):zJ n=(bun n).map (Str.join sp1):=by
 unfold zJ yo bun
 by_cases c1:n / 64%2 = 1 <;> by_cases c2:n / 128%2 = 1 <;> by_cases c3:n / 256%2 = 1 <;> by_cases c4:n%8 = 0 <;> by_cases c5:n / 8%8 = 0 <;> simp [c1,c2,c3,c4,c5,zdv,zdw]
theorem qP {n:Nat}(h:n < 512):(zJ n).isEmpty=decide (n= 0):=by
 rw [Zp]
 by_cases h0:n= 0
 ·subst h0;rfl
 ·rw [decide_eq_false h0]
  cases hb:bun n with
  |nil=>
   have:=Qh h0 h
   unfold wl at this
   rw [hb] at this
   exact absurd rfl this
  |cons a l=>rfl
theorem XY {n:Nat}:inkT n=if n= 0 then Str.ofString "plain" else Str.join sp1 (zJ n):=by
 unfold inkT
 rw [Zp]
theorem kE:∀ n:_root_.Fin 512,(n.val &&& 64 = 0↔¬ n.val / 64%2 = 1)/\(n.val &&& 128 = 0↔¬ n.val / 128%2 = 1)/\(n.val &&& 256 = 0↔¬ n.val / 256%2 = 1)/\n.val &&& 7 =n.val%8/\(n.val / 8) &&& 7 =n.val / 8%8:=by decide +kernel
theorem Z7:∀ k:_root_.Fin 8,Str.ofString ((k.val:Int).repr)=fig k.val:=by decide +kernel
theorem zfj:∀ z∈figs,figs[xD z]? =some z/\∀ i,i < xD z->figs[i]?≠some z:=by decide +kernel
theorem zfk (z:Str):inV (V.str z) (List.map vOf (figs.map PyData.str))=decide (z∈figs):=by
 rw [List.map_map]
 have e:List.map (vOf ∘ PyData.str) figs=figs.map V.str:=rfl
 rw [e]
 unfold inV
 rw [List.any_map,Bool.eq_iff_iff,List.any_eq_true,decide_eq_true_iff]
 constructor
 ·rintro⟨y,hy,hz⟩
  have:y=z:=by simpa [eqV] using hz
  rw [<- this]
  exact hy
 ·intro hz
  exact⟨z,hz,by simp [eqV]⟩
theorem YJ (a:Str):Str.empty ++ a=a:=by
 apply yG
 rw [zm]
 rfl
inductive sFore (ws:List W) (O:OM) (R:WK):Prop
 |mk:∀ n:Nat,ws=[.d (.int n)]->n < 512->R (.d (.int (n%8:Nat))) O->sFore ws O R
inductive sBack (ws:List W) (O:OM) (R:WK):Prop
 |mk:∀ n:Nat,ws=[.d (.int n)]->n < 512->R (.d (.int (n / 8%8:Nat))) O->sBack ws O R
inductive sInkTO (ws:List W) (O:OM) (R:WK):Prop
 |mk:∀ n:Nat,ws=[.d (.int n)]->n < 512->(∀ O',Old O O'->R (.d (.str (inkT n))) O')->sInkTO ws O R
inductive sInkT (ws:List W) (O:OM) (R:WK):Prop
 |mk:∀ n:Nat,ws=[.d (.int n)]->n < 512->R (.d (.str (inkT n))) O->sInkT ws O R
inductive sLik (ws:List W) (O:OM) (R:WK):Prop
 |mk:∀ zs:List Str,ws=[.d (.list (zs.map .str))]->R (.d (.int (lik zs:Nat))) O->sLik ws O R
section
variable {P:Program}{w:World}{K:W.Frag}{mg:Str->Option Value}{base:Heap}{f:Addr}{fd:FuncData}{bw sw hf:Addr}
theorem QL (F:Fun K "fore_of" "fore_of" jq f fd) (T:Txt P w K mg bw sw hf):FnOk P w K mg base CX0 1 f fd ["ink"] (zd K sFore):=by
 apply F.okV QB (by rintro _ _ _ ⟨a,rfl,_⟩;rfl) (fun cdv A outer sh H E hr=>(ze (zi (zc Xc (pv 0) za))))
 ·walk_at "ref"
 rintro _ O R ⟨n,rfl,hn,h⟩
 walk_at "wd"
 have e:Builtin.bitAnd (n:Int) 7 =((n%8:Nat):Int):=by
  rw [<- (kE ⟨n,hn⟩).2.2.2.1]
  exact uB n 7
 rw [e]
 exact .inl h
theorem QM (F:Fun K "back_of" "back_of" jr f fd) (T:Txt P w K mg bw sw hf):FnOk P w K mg base CX0 1 f fd ["ink"] (zd K sBack):=by
 apply F.okV QC (by rintro _ _ _ ⟨a,rfl,_⟩;rfl) (fun cdv A outer sh H E hr=>(ze (zi (zc Xc (zc zdQ (pv 0) za) za))))
 ·walk_at "ref"
 rintro _ O R ⟨n,rfl,hn,h⟩
 walk_at "wd"
 have e:Builtin.bitAnd ((n:Int) / 8) 7 =((n / 8%8:Nat):Int):=by
  rw [<- (kE ⟨n,hn⟩).2.2.2.2]
  exact uB (n / 8) 7
 rw [e]
 exact .inl h
theorem XZ (F:Fun K "ink_text" "ink_text" uc f fd) (T:Txt P w K mg bw sw hf) (zhi:Cal P w K mg base 1 "fore_of" [] (zd K sFore)) (zhh:Cal P w K mg base 1 "back_of" [] (zd K sBack)):FnOk P w K mg base CX0 2 f fd ["ink"] (zd K sInkTO):=by
  have nd:=kd.nd
  apply F.okV kd (by rintro _ _ _ ⟨a,rfl,_⟩;rfl) (fun cdv A outer sh H E hr=>(zb (Yw (i:=1) nd rfl rfl (xk (N:=["word","bit","ink"]) (n:=2) (js:=[0])) rfl (JP (K:=K) (P:=P) (w:=w) rfl rfl rfl (xh (v:=.ref bw) (u:=.ref bw) rfl T.g_BITS_BY_WORD rfl)) (fun _ _ _ _=>(vo (K:=K) (n:=2) rfl rfl (yk (zv (i:=0) (show List.Nodup (["word","bit","ink"]:List Str) by decide +kernel) rfl (Or.inl rfl)) (yk (zv (i:=1) (show List.Nodup (["word","bit","ink"]:List Str) by decide +kernel) rfl (Or.inl rfl)) vg)))) (fun _ _ _ _=>(jM (Yx (K:=K) rfl (zc Xc (pv 2) (pv 1)) (fun _=>rfl)))) (fun _ _ _ _=>(pv 0)))
      (zb (y7 PassesOwn.never rfl (zcL (K:=K) rfl (yR (qc (yR (qc zj (qc (zr zhi (hr.mono (by decide)) rfl (QA.pa (qc (pv 0) qn))) qn))) (qc (yR (qc zj (qc (zr zhh (hr.mono (by decide)) rfl (QA.pa (qc (pv 0) qn))) qn))) qn)))) (vo (K:=K) (n:=2) rfl rfl (yk (zv (i:=2) nd rfl (Or.inl rfl)) (yk (zv (i:=3) nd rfl (Or.inl rfl)) vg)))
      (ze (zL (zq x6 (pv 3) za (zt _)) (ze (yX (zS (K:=K) rfl PySem.F.plainAttrs_list PySem.F.slot_list_append PySem.F.type_list_append yL (pv 1) (QA.pa (qc (JN (pv 2) (pv 3) (by decide)) qn))))) zw)))
      (ze (zi (KF (Yx (K:=K) rfl (pv 1) (fun _=>rfl)) (zS (K:=K) rfl PySem.F.plainAttrs_str PySem.F.slot_str_join PySem.F.type_str_join (yY (K:=K) rfl) zj (QA.pa (qc (pv 1) qn))) zj))))))
  · walk_at "ref"
  rintro _ O R ⟨n,rfl,hn,h⟩
  obtain⟨a1,a2,a3,_,_⟩:=kE ⟨n,hn⟩
  refine zN (fun ρ' O'=>Ex1 fun p=>An4 (ρ'=[some (.d (.int n)),some (.own p),none,none]) (O' p=some (.lst ((yo n).map yO))) (O p=none) (Old O O')) (fun R1 hR1=>?_) ?_
  · walk_at "wd"
    refine⟨bitsD,T.d_bw,by decide,fun v=>match v with |.d (.tuple [.str z,.int b])=>if Builtin.bitAnd (n:Int) b= 0 then none else some (.str z) |_=>none,?_,fun p hp=>?_⟩
    · rintro _ z b hz rfl us hu
      obtain⟨u1,u2,rfl⟩:∃ a b,us=[a,b]:=by
        match us,hu with
        |[a,b],_=>exact⟨a,b,rfl⟩
      refine⟨_,rfl,rfl,_,_,rfl,_,_,rfl,rfl,rfl,rfl,?_⟩
      show if Builtin.bitAnd (n:Int) b= 0 then _ else _
      split
      · rename_i q
        show none=Option.map W.d (if Builtin.bitAnd (n:Int) b= 0 then none else some (.str z))
        rw [if_pos q]
        rfl
      · rename_i q
        show some (W.d (.str z))=Option.map W.d (if Builtin.bitAnd (n:Int) b= 0 then none else some (.str z))
        rw [if_neg q]
        rfl
    · refine hR1 _ _ ⟨p,rfl,?_,hp,Old.upd Old.refl hp⟩
      rw [zu]
      have b1:(Builtin.bitAnd (n:Int) 64 = 0)= ¬ n / 64%2 = 1:=by
        rw [show (64:Int)=((64:Nat):Int) from rfl,uB]
        exact propext ⟨fun z=>a1.1 (by exact_mod_cast z),fun z=>by exact_mod_cast a1.2 z⟩
      have b2:(Builtin.bitAnd (n:Int) 128 = 0)= ¬ n / 128%2 = 1:=by
        rw [show (128:Int)=((128:Nat):Int) from rfl,uB]
        exact propext ⟨fun z=>a2.1 (by exact_mod_cast z),fun z=>by exact_mod_cast a2.2 z⟩
      have b3:(Builtin.bitAnd (n:Int) 256 = 0)= ¬ n / 256%2 = 1:=by
        rw [show (256:Int)=((256:Nat):Int) from rfl,uB]
        exact propext ⟨fun z=>a3.1 (by exact_mod_cast z),fun z=>by exact_mod_cast a3.2 z⟩
      unfold bitsD yo
      by_cases c1:n / 64%2 = 1 <;> by_cases c2:n / 128%2 = 1 <;> by_cases c3:n / 256%2 = 1 <;> simp [b1,b2,b3,c1,c2,c3,yO,ya,yd,yf]
  rintro _ O1 ⟨p,rfl,hp,hpn,ho1⟩
  refine zN (fun ρ' O'=>Ex2 fun v1 v2=>An3 (ρ'=[some (.d (.int n)),some (.own p),v1,v2]) (O' p=some (.lst ((zJ n).map yO))) (Old O O')) (fun R1 hR1=>?_) ?_
  · walk_at "wd"
    refine⟨n,rfl,hn,_,⟨_,rfl,rfl⟩,(by show (2:Nat)≤1000;decide),n,rfl,hn,_,⟨_,rfl,rfl⟩,(by show (2:Nat)≤1000;decide),?_⟩
    have ml:(yo n).length≤3:=by
      unfold yo
      simp only [List.length_append]
      split <;> split <;> split <;> simp
    have step:∀ (wd:Str) (k:Nat) (v1 v2:Option W) (O2:OM) (L:List Str) (R2:WS->OM->Prop),wd.length≤10->k < 8->L.length≤10->O2 p=some (.lst (L.map yO))->Old O O2->(∀ O3 v1 v2,Old O O3->O3 p=some (.lst ((L ++ (if k= 0 then [] else [wd ++ sp1 ++ fig k])).map yO))->R2 [some (.d (.int n)),some (.own p),v1,v2] O3)->
        Xs (k6 (wOp vNe (jg 3) (wC (PyData.int 0)))) (kZ (wBM "list" ZO (jg 1) (jQ (zaI (jg 2) (Str.ofString " ") (jg 3)) UZ))) Y4 { nx:=R2,rt:=Clo R,bk:=R1,ct:=R2 } [some (.d (.int n)),some (.own p),some (.d (.str wd)),some (.d (.int k))] O2:=by
      intro wd k v1 v2 O2 L R2 hwd hk hL hO ho2 hR2
      walk_at "wd"
      split
      · rename_i q
        refine hR2 _ _ _ ho2 ?_
        rw [if_pos q,List.append_nil]
        exact hO
      · rename_i q
        have ef:=Z7 ⟨k,hk⟩
        simp only at ef
        rw [ef,YJ]
        refine⟨.inl ⟨rfl,by simp [zD,hO]⟩,by omega,by omega,(by show (1:Nat)≤1000;decide),updO O2 p (.lst ((L ++ [wd ++ sp1 ++ fig k]).map yO)),?_,hR2 _ _ _ (ho2.upd hpn) ?_⟩
        · simp only [uU,hO]
          rw [if_pos (by rw [List.length_map];omega),List.map_append]
          rfl
        · rw [zu,if_neg q]
    refine yN.by (fun i ρ O'=>Ex2 fun v1 v2=>An3 (ρ=[some (.d (.int n)),some (.own p),v1,v2]) (O' p=some (.lst ((match i with | 0=>yo n | 1=>yo n ++ (if n%8 = 0 then [] else [yb ++ sp1 ++ fig (n%8)]) |_=>zJ n).map yO))) (Old O O')) ⟨_,_,rfl,hp,ho1⟩ (fun _ _ _ _=>trivial) ?_ ?_
    · rintro i x _ O2 hx ⟨v1,v2,rfl,hO,ho2⟩ R2 hR2
      match i,hx,hO,hR2 with
      | 0,hx,hO,hR2=>
        cases hx
        refine⟨_,rfl,rfl,_,_,rfl,_,_,rfl,rfl,?_⟩
        exact step yb (n%8) v1 v2 O2 (yo n) R2 (by decide +kernel) (by omega) (by omega) hO ho2 fun O3 v1 v2 ho3 h3=>hR2 _ _ ⟨_,_,rfl,h3,ho3⟩
      | 1,hx,hO,hR2=>
        cases hx
        refine⟨_,rfl,rfl,_,_,rfl,_,_,rfl,rfl,?_⟩
        exact step yt (n / 8%8) v1 v2 O2 (yo n ++ (if n%8 = 0 then [] else [yb ++ sp1 ++ fig (n%8)])) R2 (by decide +kernel) (by omega) (by rw [List.length_append];split <;> simp <;> omega) hO ho2 fun O3 v1 v2 ho3 h3=>hR2 _ _ ⟨_,_,rfl,h3,ho3⟩
      |i+2,hx,hO,hR2=>cases hx
    · rintro _ O2 ⟨v1,v2,rfl,hO,ho2⟩
      exact hR1 _ _ ⟨v1,v2,rfl,hO,ho2⟩
  rintro _ O2 ⟨v1,v2,rfl,hp2,ho2⟩
  walk_at "wd"
  simp only [hp2,List.isEmpty_map,qP hn]
  by_cases h0:n= 0
  · refine .inl ⟨by simp [h0],.inl ?_⟩
    have:=h O2 ho2
    rw [XY,if_pos h0] at this
    exact this
  · refine .inr ⟨by simp [h0],.inr (.inl ⟨rfl,_,rfl⟩),zJ n,by simp only [zD,hp2],by decide +kernel,?_,.inl ?_⟩
    · have pl:(zJ n).length≤5:=by
        unfold zJ yo
        simp only [List.length_append]
        split <;> split <;> split <;> split <;> split <;> simp
      have pw:∀ q∈zJ n,q.length≤20:=by
        have w1:ya.length≤20/\yd.length≤20/\yf.length≤20/\yb.length≤10/\yt.length≤10/\sp1.length≤1:=by decide +kernel
        obtain⟨w1,w2,w3,w4,w5,w6⟩:=w1
        have lf:∀ k,(fig k).length= 1:=fun k=>rfl
        intro q hq
        unfold zJ yo at hq
        simp only [List.mem_append] at hq
        rcases hq with (((hq |hq) |hq) |hq) |hq <;> split at hq <;> simp at hq <;> subst hq
        · exact w1
        · exact w2
        · exact w3
        · rw [strLen_append,strLen_append,lf];omega
        · rw [strLen_append,strLen_append,lf];omega
      have:∀ L:List Str,(∀ q∈L,q.length≤20)->(L.map (·.length)).sum≤20*L.length:=by
        intro L
        induction L with
        |nil=>simp
        |cons a L ih=>
          intro hL
          have:=ih fun q hq=>hL q (List.mem_cons_of_mem _ hq)
          have:=hL a List.mem_cons_self
          simp only [List.map_cons,List.sum_cons,List.length_cons]
          omega
      have:=this _ pw
      omega
    · have:=h O2 ho2
      rw [XY,if_neg h0] at this
      rw [xA]
      exact this
theorem VA (F:Fun K "ink_text" "ink_text" uc f fd) (T:Txt P w K mg bw sw hf) (zhi:Cal P w K mg base 1 "fore_of" [] (zd K sFore)) (zhh:Cal P w K mg base 1 "back_of" [] (zd K sBack)):FnOk P w K mg base CX0 2 f fd ["ink"] (zd K sInkT):=by
 exact (XZ F T zhi zhh).forget fun ws O R ⟨n,e,hn,h⟩=>⟨n,e,hn,fun O' ho=>⟨ho,h⟩⟩
theorem YX (F:Fun K "likely_ink" "likely_ink" uH f fd) (T:Txt P w K mg bw sw hf):FnOk P w K mg base CX0 1 f fd ["words"] (zd K sLik):=by
  have nd:=qT.nd
  apply F.okV qT (by rintro _ _ _ ⟨a,rfl,_⟩;rfl) (fun cdv A outer sh H E hr=>(zb (zh (i:=1) nd rfl (Or.inl rfl) za)
      (zb (zh (i:=2) nd rfl (Or.inl rfl) zj)
      (zb (y7 PassesOwn.never rfl (z7 (K:=K) rfl (pv 0)) (zv (i:=3) nd rfl (Or.inl rfl))
      (zb (zh (i:=1) nd rfl (Or.inl rfl) (zc zbp (pv 1) (XD (K:=K) (P:=P) (w:=w) rfl rfl rfl (xh (v:=.ref bw) (u:=.ref bw) rfl T.g_BITS_BY_WORD rfl) (QA.pa (qc (pv 3) (qc za qn))))))
      (zb (zL (zq (zbG (K:=K) rfl) (pv 3) (zfU rfl T.g_HUE_FIGURES) (by with_unfolding_all rfl)) (ze (zh (i:=1) nd rfl (Or.inl rfl) (zc zbp (pv 1) (zc yF (zcZ (K:=K) rfl rfl T.g_HUE_FIGURES (QA.pa (qc (pv 3) qn))) (XD (K:=K) (P:=P) (w:=w) rfl rfl rfl (xh (v:=.ref sw) (u:=.ref sw) rfl T.g_STEPS_BY_WORD rfl) (QA.pa (qc (pv 2) (qc za qn)))))))) zw)
      (ze (zh (i:=2) nd rfl (Or.inl rfl) (pv 3))))))
      (ze (zi (pv 1)))))))
  · walk_at "ref"
  rintro _ O R ⟨zs,rfl,h⟩
  walk_at "wd"
  have es:∀ O':OM,zD O' (.d (.list (zs.map PyData.str)))=some (zs.map yO):=fun O'=>by
    show some (List.map W.d _)=_
    rw [List.map_map]
    rfl
  refine⟨_,es O,?_⟩
  refine yN.by (fun i ρ O'=>O=O'/\∃ v,ρ=[some (.d (.list (zs.map .str))),some (.d (.int (((zs.take i).foldl xI (0,Str.ofString "")).1:Nat))),some (.d (.str ((zs.take i).foldl xI (0,Str.ofString "")).2)),v]) ⟨rfl,_,rfl⟩ (fun _ _ O' _=>es O') ?_ ?_
  · rintro i x _ _ hx ⟨rfl,v,rfl⟩ R2 hR2
    simp only [x8]
    generalize hr:(zs.take i).foldl xI (0,Str.ofString "")=r at *
    rw [List.getElem?_map] at hx
    cases hz:zs[i]? with
    |none=>rw [hz] at hx;cases hx
    |some z=>
      rw [hz] at hx
      cases hx
      have nx:(zs.take (i+1)).foldl xI (0,Str.ofString "")=xI r z:=by
        rw [List.take_add_one,hz,List.foldl_append,hr]
        rfl
      unfold yO
      walk_at "wd"
      refine⟨bitsD,T.d_bw,.tuple (figs.map .str),fun Z=>⟨hf,_,rfl,T.q_hf Z,?_⟩,_,rfl,?_,?_⟩
      · exact uN figs
      · intro x hx
        obtain⟨y,_,rfl⟩:=List.mem_map.1 hx
        rfl
      · rw [zfk]
        rw [zc0,V8]
        split
        · rename_i q
          have qz:=of_decide_eq_true q
          obtain⟨i1,i2⟩:=zfj z qz
          have f8:=JR qz
          refine⟨T.t_hf,figs,T.q_hf,xD z,i1,i2,stepsD,T.d_sw,mulL (by omega) (by omega),?_⟩
          rw [zaK,<- Int.natCast_mul,V8]
          refine hR2 _ _ ⟨rfl,some (.d (.str z)),?_⟩
          rw [nx]
          unfold xI
          rw [if_pos qz]
        · rename_i q
          have qz:z ∉ figs:=fun m=>q (decide_eq_true m)
          refine hR2 _ _ ⟨rfl,some (.d (.str z)),?_⟩
          rw [nx]
          unfold xI
          rw [if_neg qz]
  · rintro _ _ ⟨rfl,v,rfl⟩
    rw [List.length_map,List.take_length]
    walk_at "wd"
    exact .inl h
end
noncomputable def byT:PyData->Option Nat
 |.str z=>if inkT (lik (Txt.split z sp1))=z then some (lik (Txt.split z sp1)) else none
 |_=>none
noncomputable def smallT:PyData->Prop
 |.str z=>z.length≤700000
 |_=>True
inductive sByText (bi:Addr) (ws:List W) (O:OM) (R:WK) (Y:Addr->OM->Prop):Prop
 |mk:∀ d,ws=[.d d]->smallT d->((∀ n,byT d=some n->R (.d (.int (n:Nat))) O))->((byT d=none->Y bi O))->sByText bi ws O R Y
def okZ (z:Str):Prop:=z.length≤700000/\∀ c∈z.cps.toList,c < 128
theorem Ut:∀ {A:List (List Nat)}{a:List Nat}{c:Nat},a∈A->c∈a->c∈jnB A
 |[],_,_,h,_=>by cases h
 |[b],a,c,h,hc=>by
  cases List.mem_singleton.1 h
  exact hc
 |b :: d :: r,a,c,h,hc=>by
  show c∈b ++ 32 :: jnB (d :: r)
  rcases List.mem_cons.1 h with rfl |h
  ·exact List.mem_append_left _ hc
  ·exact List.mem_append_right _ (List.mem_cons_of_mem _ (Ut h hc))
theorem za5 {z:Str}(h:okZ z):∀ w∈Txt.split z sp1,∀ c∈w.cps.toList,c < 128:=fun w hw c hc=>by
 refine h.2 c ?_
 have e:z.cps.toList=jnB ((Txt.split z sp1).map (·.cps.toList)):=by rw [<- v8,StrLaws.join_split]
 rw [e]
 exact Ut (List.mem_map.2 ⟨w,hw,rfl⟩) hc
theorem zdx {w:Str}(h:∀ c∈w.cps.toList,c < 128):PyData.canLay0 (.str w)=true:=by
 have:PyData.strOk w=true:=by
  unfold PyData.strOk
  rw [Array.all_eq_true']
  intro c hc
  have:=h c (by simpa using hc)
  simp
  omega
 simp [PyData.canLay0,this]
theorem uG:∀ {ws:List Str},(∀ w∈ws,∀ c∈w.cps.toList,c < 128)->PyData.canLayAll0 (ws.map PyData.str)=true/\PyData.depthAll (ws.map PyData.str)≤1
 |[],_=>by simp [PyData.canLayAll0,PyData.depthAll]
 |w :: ws,h=>by
  obtain⟨h1,h2⟩:=uG (ws:=ws) fun x hx=>h x (List.mem_cons_of_mem _ hx)
  have h3:=zdx (h w List.mem_cons_self)
  simp [PyData.canLayAll0,PyData.depthAll,PyData.depth,h1,h3]
  omega
theorem qf {ws:List Str}(h:∀ w∈ws,∀ c∈w.cps.toList,c < 128):SeqAt.shaped (.list (ws.map PyData.str))=true:=by
 obtain⟨h1,h2⟩:=uG h
 unfold SeqAt.shaped
 rw [Bool.and_eq_true]
 refine⟨by simpa [PyData.canLay0] using h1,decide_eq_true ?_⟩
 simp only [PyData.depth]
 omega
theorem X0:∀ {A B:List Str},PyData.eqvAll (A.map PyData.str) (B.map PyData.str)=decide (A=B)
 |[],[]=>by simp [PyData.eqvAll]
 |[],b :: B=>by simp [PyData.eqvAll]
 |a :: A,[]=>by simp [PyData.eqvAll]
 |a :: A,b :: B=>by
  simp [PyData.eqvAll,PyData.eqv,X0 (A:=A) (B:=B)]
  by_cases e:a=b <;> simp [e]
theorem kG {A B:List Str}:PyData.eqv (.list (A.map PyData.str)) (.list (B.map PyData.str))=decide (A=B):=by
 simp only [PyData.eqv]
 exact X0
theorem X1 (n:Nat):(zJ n).length≤5/\((zJ n).map (fun x=>x.length)).sum+(zJ n).length≤1048576:=by
 have pl:(zJ n).length≤5:=by
  unfold zJ yo
  simp only [List.length_append]
  split <;> split <;> split <;> split <;> split <;> simp
 have pw:∀ q∈zJ n,q.length≤20:=by
  have w1:ya.length≤20/\yd.length≤20/\yf.length≤20/\yb.length≤10/\yt.length≤10/\sp1.length≤1:=by decide +kernel
  obtain⟨w1,w2,w3,w4,w5,w6⟩:=w1
  have lf:∀ k,(fig k).length= 1:=fun k=>rfl
  intro q hq
  unfold zJ yo at hq
  simp only [List.mem_append] at hq
  rcases hq with (((hq |hq) |hq) |hq) |hq <;> split at hq <;> simp at hq <;> subst hq
  ·exact w1
  ·exact w2
  ·exact w3
  ·rw [strLen_append,strLen_append,lf];omega
  ·rw [strLen_append,strLen_append,lf];omega
 have:∀ L:List Str,(∀ q∈L,q.length≤20)->(L.map (·.length)).sum≤20*L.length:=by
  intro L
  induction L with
  |nil=>simp
  |cons a L ih=>
   intro hL
   have:=ih fun q hq=>hL q (List.mem_cons_of_mem _ hq)
   have:=hL a List.mem_cons_self
   simp only [List.map_cons,List.sum_cons,List.length_cons]
   omega
 have:=this _ pw
 exact⟨pl,by omega⟩
theorem za6 (l:List PyData):xV 1 l=l:=by simp [xV]
theorem Kq (l:List PyData):xV 0 l=[]:=by simp [xV]
inductive sTextLO (ws:List W) (O:OM) (R:WK):Prop
 |mk:∀ n:Nat,ws=[.d (.int n)]->n < 512->(∀ O',Old O O'->R (.d (.str (inkT n))) O')->sTextLO ws O R
inductive sTextL (ws:List W) (O:OM) (R:WK):Prop
 |mk:∀ n:Nat,ws=[.d (.int n)]->n < 512->R (.d (.str (inkT n))) O->sTextL ws O R
noncomputable def optD:Option Nat->PyData
 |some n=>.int (n:Nat)
 |none=>.none
inductive sInkL (ws:List W) (O:OM) (R:WK):Prop
 |mk:∀ z:Str,ws=[.d (.str z)]->okZ z->R (.d (optD (lawInk z))) O->sInkL ws O R
local macro_rules | `(tactic| walk_at "postb")=>`(tactic| simp only [yJ,Ko,qr,zf,Option.some.injEq,exists_eq_left',List.length_map,xn])
section
variable {P:Program}{w:World}{K:W.Frag}{mg:Str->Option Value}{base:Heap}{f:Addr}{fd:FuncData}{bw sw hf:Addr}{se bp bs bi ba un:Addr}
theorem Z8 (F:Fun K "ink_by_text" "ink_by_text" vW f fd) (T:Txt P w K mg bw sw hf) (X:TxtX K mg se bp bs bi ba un) (zht:Cal P w K mg base 1 "likely_ink" [] (zd K sLik)) (zhk:Cal P w K mg base 2 "ink_text" [] (zd K sInkT)):FnOk P w K mg base (CXz true P w) 3 f fd ["text"] (zU K (sByText bi)):=by
  have nd:=qp.nd
  apply F.okXV qp (by rintro _ _ _ _ ⟨d,rfl,_⟩;rfl) (fun cdv A outer sh H E hr=>(zb (zL (yK (yS (zk (xH (K:=K) rfl) (by rfl) T.n_isinstance (by rfl) (QA.pa (qc (pv 0) (qc (yW (v:=.ty "str") (u:=.type "str") rfl T.n_str rfl rfl) qn)))))) (ze (uy xc X.x_BadInk rfl rfl X.c_BadInk (QA.pa (qc zj qn)))) zw)
      (zb (zh (i:=1) nd rfl (Or.inl rfl) (zr zht (hr.mono (by decide)) rfl (QA.pa (qc (zS (K:=K) rfl PySem.F.plainAttrs_str PySem.F.slot_str_split PySem.F.type_str_split xG (pv 0) (QA.pa (qc zj qn))) qn))))
      (zb (zL (zq x6 (zr zhk (hr.mono (by decide)) rfl (QA.pa (qc (pv 1) qn))) (pv 0) (zt _)) (ze (uy xc X.x_BadInk rfl rfl X.c_BadInk (QA.pa (qc zj qn)))) zw)
      (ze (zi (pv 1)))))))
  · walk_at "ref"
  rintro _ O R Y ⟨d,rfl,sm,h1,h2⟩
  cases d with
  |str z=>
    walk_at "wd"
    have sm':z.length≤700000:=sm
    refine⟨.inr (.inl ⟨rfl,_,rfl⟩),by decide +kernel,by omega,Txt.split z sp1,rfl,lik (Txt.split z sp1),rfl,zeS _,rfl,rfl,rfl,?_⟩
    by_cases he:inkT (lik (Txt.split z sp1))=z
    · refine (iff_of_eq (if_pos (decide_eq_true (by rw [he])))).mpr (.inl (h1 _ ?_))
      simp only [byT,if_pos he]
    · refine (iff_of_eq (if_neg fun q=>he ?_)).mpr (h2 ?_)
      · have:=of_decide_eq_true q
        injection this
      · simp only [byT,if_neg he]
  |_=>
    walk_at "wd"
    exact h2 rfl
theorem X2 (F:Fun K "_law_text" "_law_text" vJ f fd) (T:Txt P w K mg bw sw hf):FnOk P w K mg base CX0 1 f fd ["_law_ink_here"] (zd K sTextLO):=by
  have nd:=jB.nd
  apply F.okV jB (by rintro _ _ _ ⟨a,rfl,_⟩;rfl) (fun cdv A outer sh H E hr=>(zb (Yw (i:=1) nd rfl rfl (xk (N:=["_law_k","_law_ink_here"]) (n:=1) (js:=[0])) rfl (y6 rfl T.n_range (QA.pa (qc za qn))) (fun _ _ _ _=>(zv (i:=0) (show List.Nodup (["_law_k","_law_ink_here"]:List Str) by decide +kernel) rfl (Or.inl rfl))) (fun _ _ _ _=>(jM (zq yr (zc zG (zc zT (pv 1) (zE (zZ (K:=K) rfl) (zR (qc za (qc za (qc za qn)))) (pv 0) (fun _ _=>rfl))) za) za (zt _)))) (fun _ _ _ _=>(zE (zZ (K:=K) rfl) (zR (qc zj (qc zj (qc zj qn)))) (pv 0) (fun _ _=>rfl))))
      (zb (zL (zq Y1 (zc zG (pv 0) za) za (zt _)) (ze (yX (zS (K:=K) rfl PySem.F.plainAttrs_list PySem.F.slot_list_append PySem.F.type_list_append yL (pv 1) (QA.pa (qc (zc zX zj (y9 vR (by rfl) T.n_str rfl (QA.pa (qc (zc zG (pv 0) za) qn)))) qn))))) zw)
      (zb (zL (zq Y1 (zc zG (zc zT (pv 0) za) za) za (zt _)) (ze (yX (zS (K:=K) rfl PySem.F.plainAttrs_list PySem.F.slot_list_append PySem.F.type_list_append yL (pv 1) (QA.pa (qc (zc zX zj (y9 vR (by rfl) T.n_str rfl (QA.pa (qc (zc zG (zc zT (pv 0) za) za) qn)))) qn))))) zw)
      (ze (zi (zS (K:=K) rfl PySem.F.plainAttrs_str PySem.F.slot_str_join PySem.F.type_str_join (yY (K:=K) rfl) zj (QA.pa (qc (zc (yT (K:=K) rfl) (pv 1) (zc (jS (K:=K) rfl) (zR (qc zj qn)) (y9 Yn (by rfl) T.n_int rfl (QA.pa (qc (ue (jf (K:=K) rfl hr.units) (pv 1) (zR qn) (zt _)) qn))))) qn)))))))))
  · walk_at "ref"
  rintro _ O R ⟨n,rfl,hn,h⟩
  refine zN (fun ρ' O'=>Ex1 fun p=>An4 (ρ'=[some (.d (.int n)),some (.own p)]) (O' p=some (.lst ((yo n).map yO))) (O p=none) (Old O O')) (fun R1 hR1=>?_) ?_
  · walk_at "wd"
    refine⟨fun v=>match v with |.d (.int i)=>if (n:Int) / ([64,128,256].getD i.toNat 1)%2 = 1 then some (.str ([ya,yd,yf].getD i.toNat ya)) else none |_=>none,?_,fun p hp=>hR1 _ _ ⟨p,rfl,?_,hp,Old.upd Old.refl hp⟩⟩
    · intro a ha us hu
      obtain⟨u,rfl⟩:=List.length_eq_one_iff.1 hu
      refine⟨rfl,rfl,_,rfl,?_⟩
      have e:a= 0\/a= 1\/a= 2:=by omega
      rcases e with rfl |rfl |rfl
      · refine⟨_,rfl,⟨by decide,by decide⟩,?_⟩
        show if (n:Int) / 64%2 = 1 then _ else _
        by_cases c:(n:Int) / 64%2 = 1
        · rw [if_pos c]
          exact⟨_,rfl,_,rfl,by show _=Option.map W.d (if (n:Int) / 64%2 = 1 then some (.str ya) else none);rw [if_pos c];rfl⟩
        · rw [if_neg c]
          show none=Option.map W.d (if (n:Int) / 64%2 = 1 then some (.str ya) else none)
          rw [if_neg c]
          rfl
      · refine⟨_,rfl,⟨by decide,by decide⟩,?_⟩
        show if (n:Int) / 128%2 = 1 then _ else _
        by_cases c:(n:Int) / 128%2 = 1
        · rw [if_pos c]
          exact⟨_,rfl,_,rfl,by show _=Option.map W.d (if (n:Int) / 128%2 = 1 then some (.str yd) else none);rw [if_pos c];rfl⟩
        · rw [if_neg c]
          show none=Option.map W.d (if (n:Int) / 128%2 = 1 then some (.str yd) else none)
          rw [if_neg c]
          rfl
      · refine⟨_,rfl,⟨by decide,by decide⟩,?_⟩
        show if (n:Int) / 256%2 = 1 then _ else _
        by_cases c:(n:Int) / 256%2 = 1
        · rw [if_pos c]
          exact⟨_,rfl,_,rfl,by show _=Option.map W.d (if (n:Int) / 256%2 = 1 then some (.str yf) else none);rw [if_pos c];rfl⟩
        · rw [if_neg c]
          show none=Option.map W.d (if (n:Int) / 256%2 = 1 then some (.str yf) else none)
          rw [if_neg c]
          rfl
    · rw [zu]
      have r3:List.range 3 =[0,1,2]:=rfl
      rw [r3]
      have i1:((n:Int) / 64%2 = 1)=(n / 64%2 = 1):=propext ⟨fun z=>by omega,fun z=>by omega⟩
      have i2:((n:Int) / 128%2 = 1)=(n / 128%2 = 1):=propext ⟨fun z=>by omega,fun z=>by omega⟩
      have i3:((n:Int) / 256%2 = 1)=(n / 256%2 = 1):=propext ⟨fun z=>by omega,fun z=>by omega⟩
      unfold yo
      by_cases c1:n / 64%2 = 1 <;> by_cases c2:n / 128%2 = 1 <;> by_cases c3:n / 256%2 = 1 <;> simp [i1,i2,i3,c1,c2,c3,yO]
  rintro _ O1 ⟨p,rfl,hp,hpn,ho1⟩
  have app1:∀ (O':OM) (L:List Str) (q:Str),O' p=some (.lst (L.map yO))->L.length≤10->uU O' (.own p) (.d (.str q))=some (updO O' p (.lst ((L ++ [q]).map yO))):=fun O' L q hO hL=>by
    simp only [uU,hO]
    rw [if_pos (by rw [List.length_map];omega),List.map_append]
    rfl
  have ml:(yo n).length≤3:=by
    unfold yo
    simp only [List.length_append]
    split <;> split <;> split <;> simp
  have pre1:Str.ofString "fore " =yb ++ sp1:=by decide +kernel
  have pre2:Str.ofString "back " =yt ++ sp1:=by decide +kernel
  have prl:(Str.ofString "fore ").length≤10/\(Str.ofString "back ").length≤10:=by decide +kernel
  refine zN (fun ρ' O'=>An3 (ρ'=[some (.d (.int n)),some (.own p)]) (Old O O') (O' p=some (.lst ((yo n ++ (if n%8 = 0 then [] else [yb ++ sp1 ++ fig (n%8)])).map yO)))) (fun R1 hR1=>?_) ?_
  · walk_at "wd"
    have ec:(n:Int)%8 =((n%8:Nat):Int):=by omega
    have ef:=Z7 ⟨n%8,by omega⟩
    simp only at ef
    rw [ec,ef]
    split
    · rename_i q
      have hq:¬ n%8 = 0:=by omega
      refine⟨.inl ⟨rfl,by simp [zD,hp]⟩,by omega,by omega,by have:=prl.1;rw [sizeLine_eq];show _+1≤_;omega,_,app1 O1 _ _ hp (by omega),hR1 _ _ ⟨rfl,ho1.upd hpn,?_⟩⟩
      rw [zu,if_neg hq,pre1]
    · rename_i q
      refine hR1 _ _ ⟨rfl,ho1,?_⟩
      rw [if_pos (by omega),List.append_nil]
      exact hp
  rintro _ O2 ⟨rfl,ho2,hp2⟩
  refine zN (fun ρ' O'=>An3 (ρ'=[some (.d (.int n)),some (.own p)]) (Old O O') (O' p=some (.lst ((zJ n).map yO)))) (fun R1 hR1=>?_) ?_
  · walk_at "wd"
    have ec:(n:Int) / 8%8 =((n / 8%8:Nat):Int):=by omega
    have ef:=Z7 ⟨n / 8%8,by omega⟩
    simp only at ef
    rw [ec,ef]
    refine⟨⟨by decide,by decide⟩,?_⟩
    split
    · rename_i q
      have hq:¬ n / 8%8 = 0:=by omega
      refine⟨.inl ⟨rfl,by simp [zD,hp2]⟩,⟨by decide,by decide⟩,by omega,by omega,by have:=prl.2;rw [sizeLine_eq];show _+1≤_;omega,_,app1 O2 _ _ hp2 (by rw [List.length_append];split <;> simp <;> omega),hR1 _ _ ⟨rfl,ho2.upd hpn,?_⟩⟩
      rw [zu,pre2]
      unfold zJ
      rw [if_neg hq]
    · rename_i q
      refine hR1 _ _ ⟨rfl,ho2,?_⟩
      unfold zJ
      rw [if_pos (show n / 8%8 = 0 by omega),List.append_nil]
      exact hp2
  rintro _ O3 ⟨rfl,ho3,hp3⟩
  walk_at "wd"
  have dp:x9 O3 (.own p)=some (.list ((zJ n).map PyData.str)):=by
    simp only [x9,hp3]
    have:(zJ n).map yO=((zJ n).map PyData.str).map W.d:=by rw [List.map_map];rfl
    rw [this,Zb]
    rfl
  have sl:zD O3 (.own p)=some ((zJ n).map yO):=by simp only [zD,hp3]
  have al:yh ((zJ n).map yO)=some ((zJ n).map PyData.str):=by
    have:(zJ n).map yO=((zJ n).map PyData.str).map W.d:=by rw [List.map_map];rfl
    rw [this,zf]
  have pa:∀ q∈zJ n,∀ c∈q.cps.toList,c < 128:=by
    have w1:(∀ c∈ya.cps.toList,c < 128)/\(∀ c∈yd.cps.toList,c < 128)/\(∀ c∈yf.cps.toList,c < 128)/\(∀ c∈yb.cps.toList,c < 128)/\(∀ c∈yt.cps.toList,c < 128)/\(∀ c∈sp1.cps.toList,c < 128):=by decide +kernel
    obtain⟨w1,w2,w3,w4,w5,w6⟩:=w1
    have lf:∀ k,k < 8->∀ c∈(fig k).cps.toList,c < 128:=fun k hk c hc=>by
      have:c= 48+k:=by simpa [fig] using hc
      omega
    intro q hq
    unfold zJ yo at hq
    simp only [List.mem_append] at hq
    rcases hq with (((hq |hq) |hq) |hq) |hq <;> split at hq <;> simp at hq <;> subst hq
    · exact w1
    · exact w2
    · exact w3
    · intro c hc
      rw [zm,zm] at hc
      simp only [List.mem_append] at hc
      rcases hc with (hc |hc) |hc
      · exact w4 c hc
      · exact w6 c hc
      · exact lf _ (by omega) c hc
    · intro c hc
      rw [zm,zm] at hc
      simp only [List.mem_append] at hc
      rcases hc with (hc |hc) |hc
      · exact w5 c hc
      · exact w6 c hc
      · exact lf _ (by omega) c hc
  have ev:PyData.eqv (.list ((zJ n).map PyData.str)) (.list [])=decide (n= 0):=by
    have:=kG (A:=zJ n) (B:=[])
    rw [List.map_nil] at this
    rw [this,<- qP hn]
    cases zJ n <;> rfl
  refine⟨.inr (.inl ⟨rfl,_,rfl⟩),_,dp,_,rfl,qf pa,by decide,_,qr,?_⟩
  rw [ev]
  have hl:=h O3 ho3
  rw [XY] at hl
  have jo:∀ L,Txt.join (Str.ofString " ") L=Str.join sp1 L:=fun L=>xA _ _
  by_cases h0:n= 0
  · have pn:zJ n=[]:=by
      have:=qP hn
      rw [decide_eq_true h0] at this
      exact List.isEmpty_iff.1 this
    rw [decide_eq_true h0,if_pos rfl]
    rw [pn] at sl al
    rw [if_pos h0] at hl
    refine⟨by decide,by decide,by decide,_,sl,_,rfl,_,al,[.str (Str.ofString "plain")],by rw [za6];rfl,by decide,[Str.ofString "plain"],rfl,by decide +kernel,by decide +kernel,.inl ?_⟩
    rw [jo]
    exact hl
  · rw [decide_eq_false h0,if_neg (by decide)]
    rw [if_neg h0] at hl
    refine⟨by decide,by decide,by decide,_,sl,_,rfl,_,al,[],by rw [Kq];rfl,by have:=(X1 n).1;simp;omega,zJ n,by rw [List.append_nil];show some _=_;rw [List.map_map];rfl,by decide +kernel,(X1 n).2,.inl ?_⟩
    rw [jo]
    exact hl
theorem VB (F:Fun K "_law_text" "_law_text" vJ f fd) (T:Txt P w K mg bw sw hf):FnOk P w K mg base CX0 1 f fd ["_law_ink_here"] (zd K sTextL):=by
 exact (X2 F T).forget fun ws O R ⟨n,e,hn,h⟩=>⟨n,e,hn,fun O' ho=>⟨ho,h⟩⟩
end
section
variable {P:Program}{w:World}{K:W.Frag}{mg:Str->Option Value}{base:Heap}{f:Addr}{fd:FuncData}{bw sw hf:Addr}
theorem QN (F:Fun K "text_of" "text_of" jw f fd) (T:Txt P w K mg bw sw hf):FnOk P w K mg base CX0 1 f fd ["row"] (zd K sTextOf):=by
 have nd:=Zm.nd
 apply F.okV Zm (by rintro _ _ _ ⟨n,rfl,_⟩;rfl) (fun cdv A outer sh H E hr=>(ze (zi (zS (K:=K) rfl PySem.F.plainAttrs_str PySem.F.slot_str_join PySem.F.type_str_join (yY (K:=K) rfl) zj (QA.pa (qc (xa (xk (N:=["cell"]) (n:=1) (js:=[])) rfl (z7 (K:=K) rfl (pv 0)) (fun _ _ _ _=>(zv (i:=0) (show List.Nodup (["cell"]:List Str) by decide +kernel) rfl (Or.inl rfl))) (fun _ _ _ _=>yx) (fun _ _ _ _=>(zE (xp (K:=K) rfl) (pv 0) za (fun _ _=>rfl)))) qn))))))
 ·walk_at "ref"
 rintro _ O R ⟨r,rfl,r1,hr,h⟩
 have l1:∀ l:List Str,(∀ x∈l,x.length= 1)->(l.map fun x=>x.length).sum=l.length:=fun l=>by
  induction l with
  |nil=>intro _;rfl
  |cons a l ih=>
   intro hl
   simp only [List.map_cons,List.sum_cons,ih fun x hx=>hl x (List.mem_cons_of_mem _ hx),hl a List.mem_cons_self,List.length_cons]
   omega
 have e1:(r.map zp).map W.d=r.map fun c=>W.d (zp c):=by rw [List.map_map];rfl
 walk_at "wd"
 refine⟨.inr (.inl ⟨rfl,_,rfl⟩),r.map fun c=>W.d (zp c),by simp only [rowC,zD,xn,e1],by rw [List.length_map];omega,fun v=>match v with |.d (.tuple [a,_])=>some a |_=>none,?_,r.map (fun c:Cel=>c.1),?_,by decide,?_,.inl h⟩
 ·intro w hw us hu
  obtain⟨u,rfl⟩:=List.length_eq_one_iff.1 hu
  obtain⟨c,hc,rfl⟩:=List.mem_map.1 hw
  exact⟨rfl,rfl,_,rfl,_,rfl,rfl⟩
 ·rw [xq r _ _ (fun c=>.str c.1) (fun _=>rfl)]
  show some (List.map W.d _)=_
  rw [List.map_map,List.map_map]
  rfl
 ·rw [l1 _ fun x hx=>by
   obtain⟨c,hc,rfl⟩:=List.mem_map.1 hx
   obtain⟨k,_,_,e⟩:=hr c hc
   rw [e];rfl]
  simp only [List.length_map]
  omega
theorem Z9 (F:Fun K "alike_spans" "alike_spans" vX f fd) (T:Txt P w K mg bw sw hf):FnOk P w K mg base CX0 1 f fd ["things"] (zd K sAlike):=by
  have nd:=qq.nd
  apply F.okV qq (by rintro _ _ _ ⟨n,rfl,_⟩;rfl) (fun cdv A outer sh H E hr=>(zb (zh (i:=1) nd rfl (Or.inl rfl) (vn qn))
      (zb (zh (i:=2) nd rfl (Or.inl rfl) za)
      (zb (y7 PassesOwn.never rfl (qZ rfl T.n_range (QA.pa (qc za (qc (zc zy (zk (ye (K:=K) rfl) (by rfl) T.n_len (by rfl) (QA.pa (qc (pv 0) qn))) za) qn)))) (zv (i:=3) nd rfl (Or.inl rfl))
      (ze (zL (PW.pt (yQ (zq yr (pv 3) (zk (ye (K:=K) rfl) (by rfl) T.n_len (by rfl) (QA.pa (qc (pv 0) qn))) (zt _)) (xi (zq x6 (zE (zZ (K:=K) rfl) (pv 0) (pv 3) (fun _ _=>rfl)) (zE (zZ (K:=K) rfl) (pv 0) (pv 2) (fun _ _=>rfl)) (zt _))))) (zb (yX (zS (K:=K) rfl PySem.F.plainAttrs_list PySem.F.slot_list_append PySem.F.type_list_append yL (pv 1) (QA.pa (qc (yR (qc (pv 2) (qc (pv 3) qn))) qn))))
      (ze (zh (i:=2) nd rfl (Or.inl rfl) (pv 3)))) zw)))
      (ze (zi (pv 1)))))))
  · walk_at "ref"
  rintro _ O R ⟨l,rfl,l0,l1,h⟩
  have hat:∀ (k:Int),0≤k->k < l.length->atI ((l.map PyData.int).map W.d) k=some (.d (.int (l.getD k.toNat 0))):=fun k k0 k1=>by
    obtain⟨n,rfl⟩:=Int.eq_ofNat_of_zero_le k0
    refine yn ?_
    rw [List.getElem?_map,List.getElem?_map,List.getD_eq_getElem?_getD,Int.toNat_natCast,List.getElem?_eq_getElem (by omega)]
    rfl
  have hlen:∀ O,qC O (.d (.list (l.map PyData.int)))=some l.length:=fun O=>by simp [qC,xn,zD]
  obtain⟨n,hn⟩:∃ n,l.length=n+1:=⟨l.length - 1,by omega⟩
  walk_at "wd"
  refine fun p hp=>⟨_,hlen _,by omega,by omega,?_⟩
  generalize hf:(fun j=>l.getD j 0)=f at h
  have hfj:∀ j,l.getD j 0 =f j:=fun j=>by rw [<- hf]
  refine yN.rng (f:=fun k=>1+(k:Int)) (fun i ρ O'=>An3 (Old O O') ((i < l.length->∃ v3,ρ=[some (.d (.list (l.map .int))),some (.own p),some (.d (.int (gSt f i).2)),v3]/\O' p=some (.lst (((gSt f i).1.map sp2).map .d)))) ((i=l.length->∃ v2 v3,ρ=[some (.d (.list (l.map .int))),some (.own p),v2,v3]/\O' p=some (.lst (((stN f l.length).map sp2).map .d))))) ⟨Old.refl.upd hp,fun _=>⟨_,rfl,zu⟩,fun e=>by omega⟩ ?_ ?_
  · rintro i _ O2 hi ⟨ho,h1,_⟩ R2 hR2
    obtain⟨v3,rfl,hb2⟩:=h1 hi
    have gl:=(k9 f i).1.le
    have g2:=(k9 f i).2.1
    have e2:∀ w,uU O2 (.own p) w=some (updO O2 p (.lst (((gSt f i).1.map sp2).map .d ++ [w]))):=fun w=>by
      simp only [uU,hb2]
      rw [if_pos (by simp only [List.length_map];omega)]
    walk_at "wd"
    refine⟨_,hlen _,?_⟩
    have e3:(1:Int)+(i:Int)=((i+1:Nat):Int):=by omega
    split
    · rename_i e
      have e':i=n:=by omega
      subst e'
      refine⟨.inl ⟨rfl,by simp [zD,hb2]⟩,_,e2 _,hR2 _ _ ⟨ho.upd hp,fun z=>by omega,fun _=>⟨_,_,rfl,?_⟩⟩⟩
      rw [zu,hn]
      unfold stN
      rw [List.map_append,List.map_append,e3]
      rfl
    · rename_i e
      refine⟨_,rfl,_,hat _ (by omega) (by omega),_,rfl,_,hat _ (by omega) (by omega),?_⟩
      rw [e3,Int.toNat_natCast,Int.toNat_natCast,hfj,hfj]
      show if f (i+1)=f (gSt f i).2 then _ else _
      split
      · rename_i q
        have:gSt f (i+1)=gSt f i:=by conv=>lhs;unfold gSt;rw [if_pos q]
        exact hR2 _ _ ⟨ho,fun _=>⟨_,by rw [this],by rw [this];exact hb2⟩,fun z=>by omega⟩
      · rename_i q
        have:gSt f (i+1)=((gSt f i).1 ++ [((gSt f i).2,i+1,f (gSt f i).2)],i+1):=by conv=>lhs;unfold gSt;rw [if_neg q]
        refine⟨.inl ⟨rfl,by simp [zD,hb2]⟩,_,e2 _,hR2 _ _ ⟨ho.upd hp,fun _=>⟨_,by rw [this],?_⟩,fun z=>by omega⟩⟩
        rw [this,zu,List.map_append,List.map_append]
        rfl
  · rintro _ O2 ⟨ho,_,h2⟩
    obtain⟨v2,v3,rfl,hb2⟩:=h2 rfl
    walk_at "wd"
    exact .inr ⟨_,_,rfl,hb2,h _ (ho.del hp)⟩
theorem X3 (F:Fun K "stretches" "stretches" uX f fd) (T:Txt P w K mg bw sw hf) (zhg:Cal P w K mg base 1 "alike_spans" [] (zd K sAlike)):FnOk P w K mg base CX0 2 f fd ["row"] (zd K sStr6):=by
  have nd:=jx.nd
  apply F.okV jx (by rintro _ _ _ ⟨n,rfl,_⟩;rfl) (fun cdv A outer sh H E hr=>(zb (zh (i:=1) nd rfl (Or.inr rfl) (xa (xk (N:=["cell"]) (n:=1) (js:=[])) rfl (z7 (K:=K) rfl (pv 0)) (fun _ _ _ _=>(zv (i:=0) (show List.Nodup (["cell"]:List Str) by decide +kernel) rfl (Or.inl rfl))) (fun _ _ _ _=>yx) (fun _ _ _ _=>(zE (xp (K:=K) rfl) (pv 0) za (fun _ _=>rfl)))))
      (ze (zi (zet (xk (N:=["first","behind","inks"]) (n:=2) (js:=[1])) rfl (z7 (K:=K) rfl (zr zhg (hr.mono (by decide)) rfl (QA.pa (qc (pv 1) qn)))) (fun _ _ _ _=>(vo (K:=K) (n:=2) rfl rfl (yk (zv (i:=0) (show List.Nodup (["first","behind","inks"]:List Str) by decide +kernel) rfl (Or.inl rfl)) (yk (zv (i:=1) (show List.Nodup (["first","behind","inks"]:List Str) by decide +kernel) rfl (Or.inl rfl)) vg)))) (fun _ _ _ _=>yx) (fun _ _ _ _=>(yR (qc (pv 0) (qc (pv 1) (qc (zE (zZ (K:=K) rfl) (pv 2) (pv 0) (fun _ _=>rfl)) qn))))))))))
  · walk_at "ref"
  rintro _ O R ⟨r,rfl,r0,r1,h⟩
  have e1:(r.map zp).map W.d=r.map fun c=>W.d (zp c):=by rw [List.map_map];rfl
  refine zN (fun ρ' O'=>Ex1 fun (l:List Int)=>An3 (l=r.map (·.2)) (ρ'=[some (.d (rowC r)),some (.d (.list (l.map .int)))]) (O=O')) (fun R1 hR1=>?_) ?_
  · walk_at "wd"
    refine⟨r.map fun c=>W.d (zp c),by simp only [rowC,zD,xn,e1],by rw [List.length_map];omega,fun v=>match v with |.d (.tuple [_,a])=>some a |_=>none,?_,?_⟩
    · intro w hw us hu
      obtain⟨u,rfl⟩:=List.length_eq_one_iff.1 hu
      obtain⟨c,hc,rfl⟩:=List.mem_map.1 hw
      exact⟨rfl,rfl,_,rfl,_,rfl,rfl⟩
    · rw [xq r _ _ (fun c=>.int c.2) (fun _=>rfl)]
      exact hR1 _ _ ⟨_,rfl,by rw [List.map_map];rfl,rfl⟩
  rintro _ _ ⟨l,el,rfl,rfl⟩
  have ll:l.length=r.length:=by rw [el,List.length_map]
  have hf:(fun j=>l.getD j 0)=inkF r:=by
    funext j
    unfold inkF cA
    rw [el,List.getD_eq_getElem?_getD,List.getD_eq_getElem?_getD,List.getElem?_map]
    cases r[j]? <;> rfl
  have hat:∀ (j:Nat),j < r.length->atI ((l.map PyData.int).map W.d) (j:Int)=some (.d (.int (inkF r j))):=fun j hj=>by
    refine yn ?_
    rw [el,List.getElem?_map,List.getElem?_map,List.getElem?_map,zfS hj]
    rfl
  walk_at "wd"
  refine⟨_,rfl,by omega,by omega,fun O' ho=>?_⟩
  rw [hf,ll]
  have hm:∀ t∈stN (inkF r) r.length,_:=fun t ht=>ZQ ht
  have hl:=qm (inkF r) r.length
  generalize stN (inkF r) r.length=L at *
  have e2:(L.map sp2).map W.d=L.map fun t=>W.d (sp2 t):=by rw [List.map_map];rfl
  refine⟨L.map fun t=>W.d (sp2 t),by simp only [zD,xn,e2],by rw [List.length_map];omega,fun v=>match v with |.d (.tuple [.int a,.int b])=>some (.tuple [.int a,.int b,.int (inkF r a.toNat)]) |_=>none,?_,?_⟩
  · intro w hw us hu
    obtain⟨u0,u1,rfl⟩:∃ a b,us=[a,b]:=by
      match us,hu with
      |[a,b],_=>exact⟨a,b,rfl⟩
    obtain⟨t,ht,rfl⟩:=List.mem_map.1 hw
    have:=hm t ht
    exact⟨_,rfl,rfl,_,_,rfl,_,_,rfl,rfl,rfl,rfl,_,rfl,_,hat t.1 (by omega),_,⟨_,rfl,rfl⟩,by show 3≤1000;omega,rfl⟩
  · intro p hp
    refine .inl (h p _ (ho.new hp) (ho.upd (ho.new hp)) ?_)
    rw [zu]
    congr 3
    rw [xq L _ _ (fun t=>.tuple [.int t.1,.int t.2.1,.int (inkF r t.1)]) (fun _=>rfl)]
    refine List.map_congr_left fun t ht=>?_
    rw [(hm t ht).2.2]
    rfl
end
theorem Ya {ws:List Str}{a b:Nat}(h:a≤b):zY (ws.map PyData.str) (some (a:Int)) (some (b:Int))=((ws.drop a).take (b - a)).map PyData.str:=by
 unfold zY
 rw [HT.sIx_nat,HT.sIx_nat,List.length_map,List.map_take,List.map_drop]
 by_cases q:a≤ws.length
 ·rw [Nat.min_eq_left q]
  by_cases q2:b≤ws.length
  ·rw [Nat.min_eq_left q2]
  ·rw [Nat.min_eq_right (by omega),List.take_of_length_le (by rw [List.length_drop,List.length_map];omega),List.take_of_length_le (by rw [List.length_drop,List.length_map];omega)]
 ·rw [List.drop_of_length_le (by rw [List.length_map];omega),List.drop_of_length_le (by rw [List.length_map];omega),List.take_nil,List.take_nil]
noncomputable def stM (ws:List Str):Nat->Nat×Nat
 | 0=>(0,0)
 | 1=>ym ws ya 64 (0,0)
 | 2=>ym ws yd 128 (ym ws ya 64 (0,0))
 |_=>ym ws yf 256 (ym ws yd 128 (ym ws ya 64 (0,0)))
noncomputable def stH (ws:List Str) (s:Nat×Nat):Nat->Nat×Nat
 | 0=>s
 | 1=>vq ws yb 1 s
 |_=>vq ws yt 8 (vq ws yb 1 s)
theorem Uu (z:Str):inV (V.str z) (List.map vOf (vp.map PyData.str))=decide (z∈vp):=by
 rw [List.map_map]
 have e:List.map (vOf ∘ PyData.str) vp=vp.map V.str:=rfl
 rw [e]
 unfold inV
 rw [List.any_map,Bool.eq_iff_iff,List.any_eq_true,decide_eq_true_iff]
 constructor
 ·rintro⟨y,hy,hz⟩
  have:y=z:=by simpa [eqV] using hz
  rw [<- this]
  exact hy
 ·intro hz
  exact⟨z,hz,by simp [eqV]⟩
theorem X4:∀ z∈vp,intText? z=some ((xD z:Nat):Int)/\z.length≤640:=by decide +kernel
theorem X5 {ws:List Str}{q:Str->Prop}(h:∀ x∈ws,q x) (a n:Nat):∀ x∈(ws.drop a).take n,q x:=fun x hx=>h x (List.mem_of_mem_drop (List.mem_of_mem_take hx))
section
variable {P:Program}{w:World}{K:W.Frag}{mg:Str->Option Value}{base:Heap}{f:Addr}{fd:FuncData}{bw sw hf:Addr}{se bp bs bi ba un:Addr}
theorem QO (F:Fun K "_law_ink" "_law_ink" qO f fd) (T:Txt P w K mg bw sw hf):FnOk P w K mg base CX0 1 f fd ["_law_text_here"] (zd K sInkL):=by
  have nd:=kf.nd
  apply F.okV kf (by rintro _ _ _ ⟨a,rfl,_⟩;rfl) (fun cdv A outer sh H E hr=>(zb (zL (zq yr (pv 0) zj (zt _)) (ze (zi za)) zw)
      (zb (zh (i:=1) nd rfl (Or.inl rfl) (zS (K:=K) rfl PySem.F.plainAttrs_str PySem.F.slot_str_split PySem.F.type_str_split xG (pv 0) (QA.pa (qc zj qn))))
      (zb (zh (i:=2) nd rfl (Or.inl rfl) za)
      (zb (zh (i:=3) nd rfl (Or.inl rfl) za)
      (zb (y7 PassesOwn.never rfl (y6 rfl T.n_range (QA.pa (qc za qn))) (zv (i:=4) nd rfl (Or.inl rfl))
      (ze (zL (zq (jf (K:=K) rfl hr.units) (zH (yg (K:=K) rfl) (pv 1) (zF (pv 3)) (zF (zc zy (pv 3) za))) (zR (qc (zE (zZ (K:=K) rfl) (zR (qc zj (qc zj (qc zj qn)))) (pv 4) (fun _ _=>rfl)) qn)) (zt _)) (zb (zh (i:=2) nd rfl (Or.inl rfl) (zc zy (pv 2) (zE (zZ (K:=K) rfl) (zR (qc za (qc za (qc za qn)))) (pv 4) (fun _ _=>rfl))))
      (ze (zh (i:=3) nd rfl (Or.inl rfl) (zc zy (pv 3) za)))) zw)))
      (zb (y7 PassesOwn.never rfl (y6 rfl T.n_range (QA.pa (qc za qn))) (zv (i:=4) nd rfl (Or.inl rfl))
      (zb (zh (i:=5) nd rfl (Or.inl rfl) (zE (zZ (K:=K) rfl) (zc (yT (K:=K) rfl) (zH (yg (K:=K) rfl) (pv 1) (zF (zc zy (pv 3) za)) (zF (zc zy (pv 3) za))) (zR (qc zj qn))) za (fun _ _=>rfl)))
      (ze (zL (PW.pt (Y8 (zq (jf (K:=K) rfl hr.units) (zH (yg (K:=K) rfl) (pv 1) (zF (pv 3)) (zF (zc zy (pv 3) za))) (zR (qc (zE (zZ (K:=K) rfl) (zR (qc zj (qc zj qn))) (pv 4) (fun _ _=>rfl)) qn)) (zt _)) (ZC (zq (zbG (K:=K) rfl) (pv 5) (zcs rfl) (by with_unfolding_all rfl))))) (zb (zh (i:=2) nd rfl (Or.inl rfl) (zc zy (pv 2) (zc yF (zE (zZ (K:=K) rfl) (zR (qc za (qc za qn))) (pv 4) (fun _ _=>rfl)) (y9 Yz (by rfl) T.n_int rfl (QA.pa (qc (pv 5) qn))))))
      (ze (zh (i:=3) nd rfl (Or.inl rfl) (zc zy (pv 3) za)))) zw))))
      (zb (zL (PW.pt (yQ (zq yr (pv 3) za (zt _)) (xi (zq kP (pv 3) (zk (ye (K:=K) rfl) (by rfl) T.n_len (by rfl) (QA.pa (qc (pv 1) qn))) (zt _))))) (ze (zi xE)) zw)
      (ze (zi (pv 2)))))))))))
  · walk_at "ref"
  rintro _ O R ⟨z,rfl,hz,h⟩
  refine zN (fun ρ' O'=>An3 (O=O') (z≠Str.ofString "plain") (ρ'=[some (.d (.str z)),none,none,none,none,none])) (fun R1 hR1=>?_) ?_
  · walk_at "wd"
    split
    · rename_i e
      refine .inl ?_
      have:=h
      unfold lawInk at this
      rw [if_pos e] at this
      exact this
    · rename_i e
      exact hR1 _ _ ⟨rfl,e,rfl⟩
  rintro _ _ ⟨rfl,hzp,rfl⟩
  generalize hw:Txt.split z sp1=ws
  refine zbR (fun ρ' O'=>O=O'/\ρ'=[some (.d (.str z)),some (.d (.list (ws.map .str))),some (.d (.int (0:Nat))),some (.d (.int (0:Nat))),none,none]) (fun R1 hR1=>?_) ?_
  · walk_at "wd"
    refine⟨.inr (.inl ⟨rfl,_,rfl⟩),by decide +kernel,by have:=hz.1;omega,?_⟩
    rw [show Str.ofString " " =sp1 from rfl,hw]
    exact hR1 _ _ ⟨rfl,rfl⟩
  have wa:∀ q∈ws,∀ c∈q.cps.toList,c < 128:=by rw [<- hw];exact za5 hz
  rintro _ _ ⟨rfl,rfl⟩
  refine zN (fun ρ' O'=>O=O'/\∃ v s,s=ym ws yf 256 (ym ws yd 128 (ym ws ya 64 (0,0)))/\ρ'=[some (.d (.str z)),some (.d (.list (ws.map .str))),some (.d (.int (s.1:Nat))),some (.d (.int (s.2:Nat))),v,none]) (fun R1 hR1=>?_) ?_
  · walk_at "wd"
    refine yN.rng (fun i ρ O'=>O=O'/\∃ v s,s=stM ws i/\ρ=[some (.d (.str z)),some (.d (.list (ws.map .str))),some (.d (.int (s.1:Nat))),some (.d (.int (s.2:Nat))),v,none]) ⟨rfl,_,_,rfl,rfl⟩ ?_ ?_
    · rintro i _ _ hi ⟨rfl,v,s,hs,rfl⟩ R2 hR2
      have cu:zY (ws.map PyData.str) (some (s.2:Int)) (some ((s.2:Int)+1))=((ws.drop s.2).take 1).map PyData.str:=by
        have:=Ya (ws:=ws) (a:=s.2) (b:=s.2+1) (by omega)
        rw [show s.2+1 - s.2= 1 by omega] at this
        exact this
      have ev:∀ q:Str,PyData.eqv (.list (((ws.drop s.2).take 1).map PyData.str)) (.list [.str q])=decide ((ws.drop s.2).take 1 =[q]):=fun q=>kG (A:=(ws.drop s.2).take 1) (B:=[q])
      have sh:=qf (X5 wa s.2 1)
      match i,hi,hs,hR2 with
      | 0,hi,hs,hR2=>
        have put:∀ (a b:Nat) v,(a,b)=stM ws 1->R2 [some (.d (.str z)),some (.d (.list (ws.map .str))),some (.d (.int (a:Nat))),some (.d (.int (b:Nat))),v,none] O:=fun a b v e=>hR2 _ _ ⟨rfl,v,(a,b),e,rfl⟩
        walk_at "wd"
        refine⟨_,rfl,_,zf _,_,rfl,_,rfl,_,rfl,by decide,_,rfl,_,rfl,by rw [cu];exact sh,by decide +kernel,?_⟩
        rw [cu,ev]
        split
        · rename_i q
          refine⟨_,rfl,_,rfl,put (s.1+64) (s.2+1) _ ?_⟩
          have:=of_decide_eq_true q
          subst hs
          exact (if_pos this).symm
        · rename_i q
          refine put s.1 s.2 _ ?_
          have:=fun c=>q (decide_eq_true c)
          subst hs
          exact (if_neg this).symm
      | 1,hi,hs,hR2=>
        have put:∀ (a b:Nat) v,(a,b)=stM ws 2->R2 [some (.d (.str z)),some (.d (.list (ws.map .str))),some (.d (.int (a:Nat))),some (.d (.int (b:Nat))),v,none] O:=fun a b v e=>hR2 _ _ ⟨rfl,v,(a,b),e,rfl⟩
        walk_at "wd"
        refine⟨_,rfl,_,zf _,_,rfl,_,rfl,_,rfl,by decide,_,rfl,_,rfl,by rw [cu];exact sh,by decide +kernel,?_⟩
        rw [cu,ev]
        split
        · rename_i q
          refine⟨_,rfl,_,rfl,put (s.1+128) (s.2+1) _ ?_⟩
          have:=of_decide_eq_true q
          subst hs
          exact (if_pos this).symm
        · rename_i q
          refine put s.1 s.2 _ ?_
          have:=fun c=>q (decide_eq_true c)
          subst hs
          exact (if_neg this).symm
      | 2,hi,hs,hR2=>
        have put:∀ (a b:Nat) v,(a,b)=stM ws 3->R2 [some (.d (.str z)),some (.d (.list (ws.map .str))),some (.d (.int (a:Nat))),some (.d (.int (b:Nat))),v,none] O:=fun a b v e=>hR2 _ _ ⟨rfl,v,(a,b),e,rfl⟩
        walk_at "wd"
        refine⟨_,rfl,_,zf _,_,rfl,_,rfl,_,rfl,by decide,_,rfl,_,rfl,by rw [cu];exact sh,by decide +kernel,?_⟩
        rw [cu,ev]
        split
        · rename_i q
          refine⟨_,rfl,_,rfl,put (s.1+256) (s.2+1) _ ?_⟩
          have:=of_decide_eq_true q
          subst hs
          exact (if_pos this).symm
        · rename_i q
          refine put s.1 s.2 _ ?_
          have:=fun c=>q (decide_eq_true c)
          subst hs
          exact (if_neg this).symm
    · rintro _ _ ⟨rfl,v,s,hs,rfl⟩
      exact hR1 _ _ ⟨rfl,v,s,hs,rfl⟩
  rintro _ _ ⟨rfl,v,s,hs,rfl⟩
  refine zN (fun ρ' O'=>O=O'/\∃ v u,ρ'=[some (.d (.str z)),some (.d (.list (ws.map .str))),some (.d (.int ((xu ws).1:Nat))),some (.d (.int ((xu ws).2:Nat))),v,u]) (fun R1 hR1=>?_) ?_
  · walk_at "wd"
    refine yN.rng (fun i ρ O'=>O=O'/\∃ v u r,r=stH ws s i/\ρ=[some (.d (.str z)),some (.d (.list (ws.map .str))),some (.d (.int (r.1:Nat))),some (.d (.int (r.2:Nat))),v,u]) ⟨rfl,_,_,_,rfl,rfl⟩ ?_ ?_
    · rintro i _ _ hi ⟨rfl,v,u,r,hr,rfl⟩ R2 hR2
      have cu:zY (ws.map PyData.str) (some (r.2:Int)) (some ((r.2:Int)+1))=((ws.drop r.2).take 1).map PyData.str:=by
        have:=Ya (ws:=ws) (a:=r.2) (b:=r.2+1) (by omega)
        rw [show r.2+1 - r.2= 1 by omega] at this
        exact this
      have cu2:zY (ws.map PyData.str) (some ((r.2:Int)+1)) (some ((r.2:Int)+2))=((ws.drop (r.2+1)).take 1).map PyData.str:=by
        have:=Ya (ws:=ws) (a:=r.2+1) (b:=r.2+2) (by omega)
        rw [show r.2+2 - (r.2+1)= 1 by omega] at this
        exact this
      have ev:∀ q:Str,PyData.eqv (.list (((ws.drop r.2).take 1).map PyData.str)) (.list [.str q])=decide ((ws.drop r.2).take 1 =[q]):=fun q=>kG (A:=(ws.drop r.2).take 1) (B:=[q])
      have sh:=qf (X5 wa r.2 1)
      have hd:atI (((((ws.drop (r.2+1)).take 1).map PyData.str) ++ [PyData.str (Str.ofString "")]).map W.d) 0 =some (.d (.str (uC ws r.2))):=by
        unfold uC
        generalize (ws.drop (r.2+1)).take 1 =L
        cases L <;> exact QH
      have l1:(((ws.drop (r.2+1)).take 1).map PyData.str).length+ [PyData.str (Str.ofString "")].length≤10000000:=by
        rw [List.length_map,List.length_take]
        show _+1≤10000000
        omega
      match i,hi,hr,hR2 with
      | 0,hi,hr,hR2=>
        have put:∀ (a b:Nat) v u,(a,b)=stH ws s 1->R2 [some (.d (.str z)),some (.d (.list (ws.map .str))),some (.d (.int (a:Nat))),some (.d (.int (b:Nat))),v,u] O:=fun a b v u e=>hR2 _ _ ⟨rfl,v,u,(a,b),e,rfl⟩
        walk_at "wd"
        refine⟨_,rfl,_,zf _,_,rfl,_,rfl,_,zf _,_,rfl,by rw [cu2];exact l1,_,rfl,_,by rw [cu2];exact hd,?_⟩
        refine⟨_,rfl,_,zf _,_,rfl,_,rfl,_,rfl,by decide,_,rfl,_,rfl,by rw [cu];exact sh,by decide +kernel,?_⟩
        rw [cu,ev]
        split
        · rename_i q
          have q1:=of_decide_eq_true q
          refine⟨_,rfl,vp.map PyData.str,qr,rfl,?_,?_⟩
          · intro x hx
            obtain⟨y,_,rfl⟩:=List.mem_map.1 hx
            rfl
          rw [Uu]
          split
          · rename_i q
            have q2:=of_decide_eq_true q
            obtain⟨f1,f2⟩:=X4 _ q2
            refine⟨_,rfl,_,rfl,_,rfl,_,f1,f2,mulL (by decide) (by decide),put (r.1+1*xD (uC ws r.2)) (r.2+2) _ _ ?_⟩
            subst hr
            exact (if_pos ⟨q1,q2⟩).symm
          · rename_i q
            have q2:=fun c=>q (decide_eq_true c)
            refine put r.1 r.2 _ _ ?_
            subst hr
            exact (if_neg (fun c=>q2 c.2)).symm
        · rename_i q
          have q1:=fun c=>q (decide_eq_true c)
          refine put r.1 r.2 _ _ ?_
          subst hr
          exact (if_neg (fun c=>q1 c.1)).symm
      | 1,hi,hr,hR2=>
        have put:∀ (a b:Nat) v u,(a,b)=stH ws s 2->R2 [some (.d (.str z)),some (.d (.list (ws.map .str))),some (.d (.int (a:Nat))),some (.d (.int (b:Nat))),v,u] O:=fun a b v u e=>hR2 _ _ ⟨rfl,v,u,(a,b),e,rfl⟩
        walk_at "wd"
        refine⟨_,rfl,_,zf _,_,rfl,_,rfl,_,zf _,_,rfl,by rw [cu2];exact l1,_,rfl,_,by rw [cu2];exact hd,?_⟩
        refine⟨_,rfl,_,zf _,_,rfl,_,rfl,_,rfl,by decide,_,rfl,_,rfl,by rw [cu];exact sh,by decide +kernel,?_⟩
        rw [cu,ev]
        split
        · rename_i q
          have q1:=of_decide_eq_true q
          refine⟨_,rfl,vp.map PyData.str,qr,rfl,?_,?_⟩
          · intro x hx
            obtain⟨y,_,rfl⟩:=List.mem_map.1 hx
            rfl
          rw [Uu]
          split
          · rename_i q
            have q2:=of_decide_eq_true q
            obtain⟨f1,f2⟩:=X4 _ q2
            refine⟨_,rfl,_,rfl,_,rfl,_,f1,f2,mulL (by decide) (by decide),put (r.1+8*xD (uC ws r.2)) (r.2+2) _ _ ?_⟩
            subst hr
            exact (if_pos ⟨q1,q2⟩).symm
          · rename_i q
            have q2:=fun c=>q (decide_eq_true c)
            refine put r.1 r.2 _ _ ?_
            subst hr
            exact (if_neg (fun c=>q2 c.2)).symm
        · rename_i q
          have q1:=fun c=>q (decide_eq_true c)
          refine put r.1 r.2 _ _ ?_
          subst hr
          exact (if_neg (fun c=>q1 c.1)).symm
    · rintro _ _ ⟨rfl,v,u,r,hr,rfl⟩
      subst hr
      subst hs
      exact hR1 _ _ ⟨rfl,v,u,rfl⟩
  rintro _ _ ⟨rfl,v,u,rfl⟩
  walk_at "wd"
  have hl:=h
  unfold lawInk at hl
  rw [if_neg hzp,hw] at hl
  unfold ZU at hl
  split
  · rename_i q
    rw [if_pos (.inl q)] at hl
    exact .inl hl
  · rename_i q
    refine⟨ws.length,by rw [yJ,List.length_map],?_⟩
    split
    · rename_i q2
      rw [if_pos (.inr q2)] at hl
      exact .inl hl
    · rename_i q2
      rw [if_neg (by omega)] at hl
      exact .inl hl
end
inductive sStT (ws:List W) (O:OM) (R:WK):Prop
 |mk:∀ t:T3,ws=[.d (.int (t.2.1 - t.1:Nat)),.d (.int t.2.2)]->okT3 t->R (.d (.str (stT t))) O->sStT ws O R
inductive sInksO (ws:List W) (O:OM) (R:WK):Prop
 |mk:∀ r:Rw6,ws=[.d (rowC r)]->okW r->(∀ O',Old O O'->R (.d (.str (inksT r))) O')->sInksO ws O R
inductive sInks (ws:List W) (O:OM) (R:WK):Prop
 |mk:∀ r:Rw6,ws=[.d (rowC r)]->okW r->R (.d (.str (inksT r))) O->sInks ws O R
inductive sMany (ws:List W) (O:OM) (R:WK):Prop
 |mk:∀ z:Str,ws=[.d (.str z)]->R (.d (.int (manyS z:Nat))) O->sMany ws O R
section
variable {P:Program}{w:World}{K:W.Frag}{mg:Str->Option Value}{base:Heap}{f:Addr}{fd:FuncData}{bw sw hf:Addr}{se bp bs bi ba un:Addr}
theorem Zq (F:Fun K "stretch_text" "stretch_text" vw f fd) (T:Txt P w K mg bw sw hf) (zhk:Cal P w K mg base 2 "ink_text" [] (zd K sInkT)):FnOk P w K mg base CX0 3 f fd ["many","ink"] (zd K sStT):=by
  have nd:=uO.nd
  apply F.okV uO (by rintro _ _ _ ⟨t,rfl,_⟩;rfl) (fun cdv A outer sh H E hr=>(zb (zh (i:=2) nd rfl (Or.inl rfl) (zr zhk (hr.mono (by decide)) rfl (QA.pa (qc (pv 1) qn))))
      (ze (zi (JN (pv 0) (pv 2) (by decide))))))
  · walk_at "ref"
  rintro _ O R ⟨t,rfl,ht,h⟩
  walk_at "wd"
  obtain⟨t1,t2,t3,t4⟩:=ht
  have a:=(uo ⟨t.2.1 - t.1,by omega⟩).2.1
  have b:=(qo ⟨t.2.2.toNat,by omega⟩).2
  simp only at a b
  refine⟨t.2.2.toNat,by rw [Int.toNat_of_nonneg t3],by omega,by omega,Nat.le_trans a (by decide),inkT t.2.2.toNat,if_pos (by omega),by omega,.inl ?_⟩
  have e:Str.empty ++ Str.ofString ((t.2.1 - t.1:Nat):Int).repr ++ Str.ofString ":" ++ inkT t.2.2.toNat=stT t:=by
    rw [YJ]
    rfl
  rw [e]
  exact h
theorem YY (F:Fun K "inks_text" "inks_text" vH f fd) (T:Txt P w K mg bw sw hf) (zhA:Cal P w K mg base 2 "stretches" [] (zd K sStr6)) (zhz:Cal P w K mg base 3 "stretch_text" [] (zd K sStT)):FnOk P w K mg base CX0 4 f fd ["row"] (zd K sInksO):=by
 have nd:=jy.nd
 apply F.okV jy (by rintro _ _ _ ⟨t,rfl,_⟩;rfl) (fun cdv A outer sh H E hr=>(ze (zi (zS (K:=K) rfl PySem.F.plainAttrs_str PySem.F.slot_str_join PySem.F.type_str_join (yY (K:=K) rfl) zj (QA.pa (qc (xa (xk (N:=["first","behind","ink"]) (n:=3) (js:=[])) rfl (z7 (K:=K) rfl (zr zhA (hr.mono (by decide)) rfl (QA.pa (qc (pv 0) qn)))) (fun _ _ _ _=>(vo (K:=K) (n:=3) rfl rfl (yk (zv (i:=0) (show List.Nodup (["first","behind","ink"]:List Str) by decide +kernel) rfl (Or.inl rfl)) (yk (zv (i:=1) (show List.Nodup (["first","behind","ink"]:List Str) by decide +kernel) rfl (Or.inl rfl)) (yk (zv (i:=2) (show List.Nodup (["first","behind","ink"]:List Str) by decide +kernel) rfl (Or.inl rfl)) vg))))) (fun _ _ _ _=>yx) (fun _ _ _ _=>(zr zhz (hr.mono (by decide)) rfl (QA.pa (qc (zc kO (pv 1) (pv 0)) (qc (pv 2) qn)))))) qn))))))
 ·walk_at "ref"
 rintro _ O R ⟨r,rfl,hr,h⟩
 walk_at "wd"
 have ec:Str.ofString ", " =zI:=rfl
 rw [ec]
 refine⟨.inr (.inl ⟨rfl,_,rfl⟩),r,rfl,hr.1,hr.2.1,fun p O' hp ho hO'=>?_⟩
 have sl:=qm (inkF r) r.length
 have r1:=hr.2.1
 refine⟨((stN (inkF r) r.length).map spD).map .d,by simp only [zD,hO'],by rw [List.length_map,List.length_map];omega,fun v=>match v with |.d (.tuple [.int a,.int b,.int i])=>some (.str (stT (a.toNat,b.toNat,i))) |_=>none,?_,(stN (inkF r) r.length).map stT,?_,by decide,?_,.inl ?_⟩
 ·intro w hw us hu
  rw [List.map_map] at hw
  obtain⟨t,ht,rfl⟩:=List.mem_map.1 hw
  have ok:=x0 hr t ht
  obtain⟨u1,u2,u3,rfl⟩:∃ a b c,us=[a,b,c]:=by
   match us,hu with
   |[a,b,c],_=>exact⟨a,b,c,rfl⟩
  refine⟨_,rfl,rfl,_,_,rfl,_,_,rfl,_,_,rfl,rfl,rfl,Nat.le_refl _,?_⟩
  have e:((t.2.1:Int) - (t.1:Int))=((t.2.1 - t.1:Nat):Int):=by have:=ok.1;omega
  exact⟨t,by rw [<- e],ok,rfl,by simp [spD]⟩
 ·rw [List.map_map,xq (stN (inkF r) r.length) (W.d ∘ spD) _ (fun t=>.str (stT t)) (fun t=>by simp [spD])]
  show some (List.map W.d _)=_
  rw [List.map_map,List.map_map]
  rfl
 ·have:=vt ((stN (inkF r) r.length).map stT) fun q hq=>by
   obtain⟨t,ht,rfl⟩:=List.mem_map.1 hq
   exact Uh (x0 hr t ht)
  rw [List.length_map] at this ⊢
  omega
 ·rw [xA]
  exact h O' ho
theorem X6 (F:Fun K "inks_text" "inks_text" vH f fd) (T:Txt P w K mg bw sw hf) (zhA:Cal P w K mg base 2 "stretches" [] (zd K sStr6)) (zhz:Cal P w K mg base 3 "stretch_text" [] (zd K sStT)):FnOk P w K mg base CX0 4 f fd ["row"] (zd K sInks):=by
 exact (YY F T zhA zhz).forget fun ws O R ⟨n,e,hn,h⟩=>⟨n,e,hn,fun O' ho=>⟨ho,h⟩⟩
theorem Zr (F:Fun K "many_by_text" "many_by_text" vx f fd) (T:Txt P w K mg bw sw hf):FnOk P w K mg base CX0 1 f fd ["text"] (zd K sMany):=by
  have nd:=uP.nd
  apply F.okV uP (by rintro _ _ _ ⟨t,rfl,_⟩;rfl) (fun cdv A outer sh H E hr=>(zb (y7 PassesOwn.never rfl (qZ rfl T.n_range (QA.pa (qc za (qc (zc zy (kT rfl T.g_WIDEST) za) qn)))) (zv (i:=1) nd rfl (Or.inl rfl))
      (ze (zL (zq yr (y9 vR (by rfl) T.n_str rfl (QA.pa (qc (pv 1) qn))) (pv 0) (zt _)) (ze (zi (pv 1))) zw)))
      (ze (zi za))))
  · walk_at "ref"
  rintro _ O R ⟨z,rfl,h⟩
  refine zN (fun ρ' O'=>O=O'/\z ∉ vc) (fun R1 hR1=>?_) ?_
  · walk_at "wd"
    refine yN.rng (f:=fun k=>1+(k:Int)) (fun i ρ O'=>Ex1 fun v1=>An3 (ρ=[some (.d (.str z)),v1]) (O=O') (∀ n,1≤n->n≤i->z≠yP n)) ⟨_,rfl,rfl,fun n n1 n2=>by omega⟩ ?_ ?_
    · rintro i _ O' hi ⟨v1,rfl,rfl,hn⟩ R2 hR2
      have e1:(1+(i:Int))=((1+i:Nat):Int):=by omega
      walk_at "wd"
      refine⟨by omega,by omega,?_⟩
      have e2:Str.ofString (1+(i:Int)).repr=yP (1+i):=by unfold yP;rw [<- e1]
      rw [e2]
      split
      · rename_i q
        have m:=Z0 (n:=1+i) (by omega) (by omega)
        have ez:manyS z= 1+i:=by
          unfold manyS
          rw [<- q,if_pos m.1,m.2]
        rw [ez,<- e1] at h
        exact .inl h
      · rename_i q
        refine hR2 _ _ ⟨_,rfl,rfl,fun n n1 n2 e=>?_⟩
        by_cases y:n= 1+i
        · exact q (by rw [e,y])
        · exact hn n n1 (by omega) e
    · rintro _ O' ⟨v1,rfl,rfl,hn⟩
      refine hR1 _ _ ⟨rfl,fun m=>?_⟩
      obtain⟨n,n1,n2,e,_⟩:=jl m
      exact hn n n1 (by omega) e
  rintro _ _ ⟨rfl,hz⟩
  walk_at "wd"
  have ez:manyS z= 0:=if_neg hz
  rw [ez] at h
  exact .inl h
end
inductive sLRow (ws:List W) (O:OM) (R:WK):Prop
 |mk:∀ x:Str,∀ q:Addr,∀ is:List Int,ws=[.d (.str x),.own q]->okTx x->x.length≤700000->is.length≤10000000->O q=some (.lst ((is.map PyData.int).map W.d))->(∀ p,O p=none->R (.own p) (updO O p (.lst ((zipD x (is.map PyData.int)).map W.d))))->sLRow ws O R
theorem X7 {x:Str}(h:okTx x) {c:Nat}(hc:c∈x.cps.toList):c < 128:=by
 rcases h c hc with z |z |z
 ·rw [z];decide
 ·rw [z];decide
 ·exact Nat.lt_of_le_of_lt z.2.1 (by decide)
section
variable {P:Program}{w:World}{K:W.Frag}{mg:Str->Option Value}{base:Heap}{f:Addr}{fd:FuncData}{bw sw hf:Addr}{se bp bs bi ba un:Addr}
theorem YZ (F:Fun K "likely_row" "likely_row" uJ f fd) (T:Txt P w K mg bw sw hf):FnOk P w K mg base CX0 1 f fd ["signs","inks"] (zd K sLRow):=by
 have nd:=qV.nd
 apply F.okV qV (by rintro _ _ _ ⟨x,q,is,rfl,_⟩;rfl) (fun cdv A outer sh H E hr=>(ze (zi (Qq (K:=K) rfl rfl (by rfl) T.n_list (by rfl) T.n_zip (QA.pa (qc (pv 0) (qc (pv 1) qn)))))))
 ·walk_at "ref"
 rintro _ O R ⟨x,q,is,rfl,hx,xl,il,hq,h⟩
 walk_at "wd"
 exact⟨_,by simp only [zD,hq],is.map PyData.int,zf _,fun i hi=>X7 hx (by rw [<- Array.getElem_toList];exact List.getElem_mem _),by omega,by rw [List.length_map];omega,fun p hp=>.inl (h p hp)⟩
end
noncomputable def rowsP (p:Pc):List (List PyData):=p.map fun r=>r.map zp
theorem Ds.old {O O':OM}{bs:List Addr}{rows:List (List PyData)}(h:Ds O bs rows) (o:Old O O'):Ds O' bs rows:=by
 obtain⟨pr,nd⟩:=h
 refine⟨Paired.mapP pr fun b ds e=>?_,nd⟩
 rw [o b (by rw [e];simp)]
 exact e
theorem za7 {d:PyData}(h:cellD d=true):∃ c:Cel,d=zp c/\zaw c/\0≤c.2/\c.2 < 512:=by
 unfold cellD at h
 split at h
 ·rename_i a b
  rw [Bool.and_eq_true] at h
  obtain⟨h1,h2⟩:=h
  cases a <;> try cases h1
  cases b <;> try cases h2
  rename_i z i
  simp only [signD,Bool.and_eq_true,decide_eq_true_eq] at h1
  simp only [inkD,wholeD,Bool.and_eq_true,decide_eq_true_eq] at h2
  obtain⟨⟨z1,z2,z3⟩,z4⟩:=h1
  obtain⟨k,rfl⟩:=Z5 z1
  exact⟨(⟨#[k]⟩,i),rfl,⟨k,by simpa using z2,by simpa using z3,rfl⟩,h2.1,by show i < 512;omega⟩
 ·cases h
theorem Yb:∀ {r:List PyData},r.all cellD=true->∃ s:Rw6,r=s.map zp/\∀ c∈s,zaw c/\0≤c.2/\c.2 < 512
 |[],_=>⟨[],rfl,by simp⟩
 |d :: r,h=>by
  rw [List.all_cons,Bool.and_eq_true] at h
  obtain⟨c,e,hc⟩:=za7 h.1
  obtain⟨s,e2,hs⟩:=Yb h.2
  refine⟨c :: s,by rw [e,e2];rfl,fun x hx=>?_⟩
  rcases List.mem_cons.1 hx with rfl |hx
  ·exact hc
  ·exact hs x hx
theorem X8 {w:Nat}(w1:1≤w) (w2:w≤24):∀ {rows:List (List PyData)},(∀ r∈rows,r.length=w/\r.all cellD=true)->∃ p:Pc,rows=rowsP p/\∀ r∈p,okW r
 |[],_=>⟨[],rfl,by simp⟩
 |r :: rows,h=>by
  obtain⟨s,e,hs⟩:=Yb (h r List.mem_cons_self).2
  obtain⟨p,e2,hp⟩:=X8 w1 w2 fun x hx=>h x (List.mem_cons_of_mem _ hx)
  have l:=(h r List.mem_cons_self).1
  rw [e,List.length_map] at l
  refine⟨s :: p,by rw [e,e2];rfl,fun x hx=>?_⟩
  rcases List.mem_cons.1 hx with rfl |hx
  ·exact⟨by omega,by omega,fun c hc=>(hs c hc).1,fun c hc=>(hs c hc).2⟩
  ·exact hp x hx
theorem PicOk.pc {rows:List (List PyData)}{w:Nat}(h:PicOk rows w):∃ p:Pc,rows=rowsP p/\okP24 p:=by
 obtain⟨p,e,hp⟩:=X8 h.w1 h.w2 h.row
 have h1:=h.h1
 have h2:=h.h2
 rw [e,rowsP,List.length_map] at h1 h2
 exact⟨p,e,h1,h2,hp⟩
theorem Uv {d:PyData}(h:picB d=true):∃ rows w,d=pd rows/\PicOk rows w:=by
 unfold picB at h
 split at h
 ·rename_i ds rs
  rw [Bool.and_eq_true] at h
  obtain⟨h1,h2⟩:=h
  simp only [sizeB,wholeD,Bool.and_eq_true,decide_eq_true_eq] at h1
  rw [List.all_eq_true] at h2
  have ex:∀ l:List PyData,(∀ x∈l,rowB ds.length x=true)->∃ rows:List (List PyData),l=rows.map .list/\∀ r∈rows,r.length=ds.length/\r.all cellD=true:=by
   intro l
   induction l with
   |nil=>intro _;exact⟨[],rfl,by simp⟩
   |cons x l ih=>
    intro hl
    obtain⟨rows,e,hr⟩:=ih fun y hy=>hl y (List.mem_cons_of_mem _ hy)
    have hx:=hl x List.mem_cons_self
    cases x <;> try cases hx
    rename_i es
    simp only [rowB,Bool.and_eq_true,decide_eq_true_eq] at hx
    refine⟨es :: rows,by rw [e];rfl,fun r hr'=>?_⟩
    rcases List.mem_cons.1 hr' with rfl |hr'
    ·exact⟨by omega,hx.2⟩
    ·exact hr r hr'
  obtain⟨rows,e,hr⟩:=ex _ h2
  have ll:rs.length+1 =rows.length:=by
   have:=congrArg List.length e
   simpa using this
  refine⟨rows,ds.length,by rw [e];rfl,⟨by omega,by omega,by omega,by omega,hr⟩⟩
 ·cases h
theorem za8 {a b:Cel}(h:zp a=zp b):a=b:=by
 obtain⟨a1,a2⟩:=a
 obtain⟨b1,b2⟩:=b
 simp only [zp,PyData.tuple.injEq,List.cons.injEq,PyData.str.injEq,PyData.int.injEq,and_true] at h
 rw [h.1,h.2]
theorem qt {α β:Type}{g:α->β}(hg:∀ a b,g a=g b->a=b):∀ {l m:List α},l.map g=m.map g->l=m
 |[],[],_=>rfl
 |[],_ :: _,h=>by cases h
 |_ :: _,[],h=>by cases h
 |a :: l,b :: m,h=>by
  simp only [List.map_cons,List.cons.injEq] at h
  rw [hg a b h.1,qt hg h.2]
theorem Kr {p q:Pc}(h:pd (rowsP p)=pd (rowsP q)):p=q:=by
 unfold pd rowsP at h
 simp only [PyData.list.injEq,List.map_map] at h
 refine qt (fun a b e=>?_) h
 simp only [Function.comp,PyData.list.injEq] at e
 exact qt (fun _ _=>za8) e
theorem jH {ds:List PyData}{x:PyData}:zY (ds ++ [x]) none (some (-1))=ds:=by
 unfold zY
 rw [HT.sIx_none]
 have:HT.sIx (ds ++ [x]).length (ds ++ [x]).length (some (-1))=ds.length:=by
  simp [HT.sIx]
  omega
 rw [this]
 simp
noncomputable def unC (cs:List PyData):Rw6:=cs.map fun d=>match d with |.tuple [.str z,.int i]=>(z,i) |_=>(noS,0)
theorem zdy (r:Rw6):unC (r.map zp)=r:=by
 unfold unC
 rw [List.map_map]
 exact List.map_id r
noncomputable def FR (g:Rw6->Str):W->Option PyData:=fun v=>match v with |.d (.list cs)=>some (.str (g (unC cs))) |_=>none
theorem X9 (g:Rw6->Str) (r:Rw6):FR g (.d (rowC r))=some (.str (g r)):=by
 simp only [FR,rowC,zdy]
theorem Zs (g:Rw6->Str) (p:Pc):(p.map fun r=>W.d (rowC r)).filterMap (FR g)=(p.map g).map .str:=by
 rw [xq p (fun r=>W.d (rowC r)) _ (fun r=>.str (g r)) (X9 g),List.map_map]
 rfl
inductive sPaperOf (bp:Addr) (ws:List W) (O:OM) (R:WK) (Y:Addr->OM->Prop):Prop
 |mk:∀ d,ws=[.d d]->smD d=true->((∀ p:Pc,d=pd (rowsP p)->okP24 p->picB d=true->R (.d (.str (paperT p))) O))->((picB d=false->Y bp O))->sPaperOf bp ws O R Y
section
variable {P:Program}{w:World}{K:W.Frag}{mg:Str->Option Value}{base:Heap}{f:Addr}{fd:FuncData}{bw sw hf:Addr}{se bp bs bi ba un:Addr}
theorem VC (F:Fun K "paper_of" "paper_of" qN f fd) (T:Txt P w K mg bw sw hf) (zhx:CalX P w K mg base 6 "need_picture" [] (zU K (sNeed bp))) (zhB:Cal P w K mg base 1 "text_of" [] (zd K sTextOf)) (zhm:Cal P w K mg base 4 "inks_text" [] (zd K sInks)):FnOk P w K mg base (CX1 P w) 7 f fd ["picture"] (zU K (sPaperOf bp)):=by
  have nd:=ke.nd
  apply F.okXV ke (by rintro _ _ _ _ ⟨d,rfl,_⟩;rfl) (fun cdv A outer sh H E hr=>(zb (yX (vj zhx xc.passes (hr.mono (by decide)) rfl (QA.pa (qc (pv 0) qn))))
      (zb (zh (i:=1) nd rfl (Or.inl rfl) (zc (yT (K:=K) rfl) (xa (xk (N:=["row"]) (n:=1) (js:=[])) rfl (z7 (K:=K) rfl (pv 0)) (fun _ _ _ _=>(zv (i:=0) (show List.Nodup (["row"]:List Str) by decide +kernel) rfl (Or.inl rfl))) (fun _ _ _ _=>yx) (fun _ _ _ _=>(zr zhB (hr.mono (by decide)) rfl (QA.pa (qc (pv 0) qn))))) (xa (xk (N:=["row"]) (n:=1) (js:=[])) rfl (z7 (K:=K) rfl (pv 0)) (fun _ _ _ _=>(zv (i:=0) (show List.Nodup (["row"]:List Str) by decide +kernel) rfl (Or.inl rfl))) (fun _ _ _ _=>yx) (fun _ _ _ _=>(zr zhm (hr.mono (by decide)) rfl (QA.pa (qc (pv 0) qn)))))))
      (ze (zi (zS (K:=K) rfl PySem.F.plainAttrs_str PySem.F.slot_str_join PySem.F.type_str_join (yY (K:=K) rfl) zj (QA.pa (qc (xa (xk (N:=["row"]) (n:=1) (js:=[])) rfl (z7 (K:=K) rfl (pv 1)) (fun _ _ _ _=>(zv (i:=0) (show List.Nodup (["row"]:List Str) by decide +kernel) rfl (Or.inl rfl))) (fun _ _ _ _=>yx) (fun _ _ _ _=>(zc zX (pv 0) zj))) qn))))))))
  · walk_at "ref"
  rintro _ O R Y ⟨d,rfl,sm,h1,h2⟩
  refine zN (fun ρ' O'=>Ex1 fun (p:Pc)=>An5 (d=pd (rowsP p)) (okP24 p) (picB d=true) (ρ'=[some (.d d),none]) (O=O')) (fun R1 hR1=>?_) ?_
  · walk_at "wd"
    refine⟨d,rfl,sm,fun hb=>?_,h2⟩
    obtain⟨rows,x,e,ok⟩:=Uv hb
    obtain⟨p,e2,ok2⟩:=ok.pc
    exact hR1 _ _ ⟨p,by rw [e,e2],ok2,hb,rfl,rfl⟩
  rintro _ _ ⟨p,rfl,hp,hb,rfl,rfl⟩
  have es:∀ O':OM,zD O' (.d (pd (rowsP p)))=some (p.map fun r=>W.d (rowC r)):=fun O'=>by
    show some (List.map W.d _)=_
    unfold rowsP
    rw [List.map_map,List.map_map]
    rfl
  have p2:=hp.2.1
  refine zN (fun ρ' O'=>ρ'=[some (.d (pd (rowsP p))),some (.d (.list ((zB p).map .str)))]/\O=O') (fun R1 hR1=>?_) ?_
  · walk_at "wd"
    refine⟨_,es O,by rw [List.length_map];omega,FR zQ,?_,_,es O,by rw [List.length_map];omega,FR inksT,?_,_,rfl,_,rfl,_,zf _,_,zf _,?_,?_⟩
    · intro w hw us hu
      obtain⟨u,rfl⟩:=List.length_eq_one_iff.1 hu
      obtain⟨r,hr,rfl⟩:=List.mem_map.1 hw
      have ok:=hp.2.2 r hr
      refine⟨rfl,rfl,r,rfl,ok.2.1,ok.2.2.1,rfl,?_⟩
      rw [X9,xA]
      rfl
    · intro w hw us hu
      obtain⟨u,rfl⟩:=List.length_eq_one_iff.1 hu
      obtain⟨r,hr,rfl⟩:=List.mem_map.1 hw
      have ok:=hp.2.2 r hr
      refine⟨rfl,rfl,r,rfl,ok,rfl,?_⟩
      rw [X9]
      rfl
    · rw [Zs,Zs]
      simp only [List.length_map]
      omega
    · refine hR1 _ _ ⟨?_,rfl⟩
      rw [Zs,Zs,<- List.map_append]
      rfl
  rintro _ _ ⟨rfl,rfl⟩
  have ls:=J4 hp
  walk_at "wd"
  have es2:zD O (.d (.list ((zB p).map .str)))=some ((zB p).map fun z=>W.d (.str z)):=by
    show some (List.map W.d _)=_
    rw [List.map_map]
    rfl
  refine⟨.inr (.inl ⟨rfl,_,rfl⟩),_,es2,by rw [List.length_map];omega,fun v=>match v with |.d (.str z)=>some (.str (z ++ nl)) |_=>none,?_,(zB p).map (· ++ nl),?_,by decide,?_,.inl ?_⟩
  · intro w hw us hu
    obtain⟨u,rfl⟩:=List.length_eq_one_iff.1 hu
    obtain⟨z,hz,rfl⟩:=List.mem_map.1 hw
    have zl:=(jk hp hz).2
    refine⟨rfl,rfl,z,rfl,?_,rfl⟩
    have:(Str.ofString "\n").length= 1:=rfl
    rw [this,sizeLine_eq]
    omega
  · rw [xq (zB p) (fun z=>W.d (.str z)) _ (fun z=>.str (z ++ nl)) (fun _=>rfl)]
    show some (List.map W.d _)=_
    rw [List.map_map,List.map_map]
    rfl
  · rw [List.length_map]
    omega
  · rw [xA]
    exact h1 p rfl hp hb
end
theorem kH (ds:List PyData):((List.range ds.length).zipWith (fun (i:Nat) d=>W.d (.tuple [.int i,d])) ds)=(List.range ds.length).map fun (i:Nat)=>W.d (.tuple [.int i,ds.getD i .none]):=by
 apply List.ext_getElem?
 intro i
 rw [List.getElem?_zipWith,List.getElem?_map]
 rcases Nat.lt_or_ge i ds.length with q |q
 ·rw [List.getElem?_range q,List.getElem?_eq_getElem q]
  simp only [Option.map_some]
  rw [List.getD_eq_getElem?_getD,List.getElem?_eq_getElem q]
  rfl
 ·rw [List.getElem?_eq_none (by simpa using q)]
  rfl
inductive sStr24 (ws:List W) (O:OM) (R:WK):Prop
 |mk:∀ rows,∀ x:Nat,∀ ns:List Int,∀ k:Int,ws=[.d (pd rows),.d (.list (ns.map .int)),.d (.int k)]->PicOk rows x->0≤k->k≤1000->(∀ rows' O',PicOk rows' x->R (.d (pd rows')) O')->sStr24 ws O R
section
variable {P:Program}{w:World}{K:W.Frag}{mg:Str->Option Value}{base:Heap}{f:Addr}{fd:FuncData}{bw sw hf:Addr}{se bp bs bi ba un:Addr}
theorem kI (F:Fun K "_law_stretched" "_law_stretched" xX f fd) (T:Txt P w K mg bw sw hf) (zg1:Cal P w K mg base 1 "_law_at" [] (zd K sAtL)):FnOk P w K mg base CX0 2 f fd ["_law_picture_here","_law_script","_law_at_here"] (zd K sStr24):=by
  have nd:=vZ.nd
  apply F.okV vZ (by rintro _ _ _ ⟨a,b,c,d,rfl,_⟩;rfl) (fun cdv A outer sh H E hr=>(zb (zL (zq yr (zc zG (zr zg1 (hr.mono (by decide)) rfl (QA.pa (qc (pv 1) (qc (pv 2) qn)))) za) za (zt _)) (ze (zi (pv 0))) zw)
      (zb (zh (i:=3) nd rfl (Or.inl rfl) (vn qn))
      (zb (y7 PassesOwn.never rfl (Xt (K:=K) rfl rfl T.n_enumerate (QA.pa (qc (pv 0) qn))) (vo (K:=K) (n:=2) rfl rfl (yk (zv (i:=4) nd rfl (Or.inl rfl)) (yk (zv (i:=5) nd rfl (Or.inr rfl)) vg)))
      (zb (zh (i:=6) nd rfl (Or.inr rfl) (zc zy za (zc zG (zr zg1 (hr.mono (by decide)) rfl (QA.pa (qc (pv 1) (qc (zc zy (zc zy (pv 2) za) (pv 4)) qn)))) za)))
      (ze (yX (zS (K:=K) rfl PySem.F.plainAttrs_list PySem.F.slot_list_append PySem.F.type_list_append yL (pv 3) (QA.pa (qc (xa (xk (N:=["_law_column","_law_cell","_law_line_here","_law_size_here"]) (n:=2) (js:=[5,6])) rfl (Xt (K:=K) rfl rfl T.n_enumerate (QA.pa (qc (pv 5) qn))) (fun _ _ _ _=>(vo (K:=K) (n:=2) rfl rfl (yk (zv (i:=0) (show List.Nodup (["_law_column","_law_cell","_law_line_here","_law_size_here"]:List Str) by decide +kernel) rfl (Or.inl rfl)) (yk (zv (i:=1) (show List.Nodup (["_law_column","_law_cell","_law_line_here","_law_size_here"]:List Str) by decide +kernel) rfl (Or.inl rfl)) vg)))) (fun _ _ _ _=>yx) (fun _ _ _ _=>(yR (qc (zE (xp (K:=K) rfl) (pv 1) za (fun _ _=>rfl)) (qc (zE (xp (K:=K) rfl) (zE (zZ (K:=K) rfl) (pv 2) (zc yF (zc zT (pv 0) (pv 3)) (pv 3)) (fun _ _=>rfl)) za (fun _ _=>rfl)) qn))))) qn)))))))
      (ze (zi (pv 3)))))))
  · walk_at "ref"
  rintro _ O R ⟨rows,x,ns,k,rfl,ok,k0,k1,h⟩
  refine ub (fun ρ' O'=>Ex1 fun a=>An2 (ρ'=[some (.d (pd rows)),some (.d (.list (ns.map .int))),some (.d (.int k)),some (.own a),none,none,none]) (O' a=some (.lst []))) (fun R1 hR1=>?_) ?_
  · walk_at "wd"
    refine⟨ns,k,rfl,k0,by omega,fun n n0 n1=>?_⟩
    show 0 < (2:Int)/\_
    refine⟨by decide,?_⟩
    split
    · exact .inl (h rows O ok)
    · exact fun p hp=>hR1 _ _ ⟨p,rfl,zu⟩
  rintro _ O1 ⟨a,rfl,ha⟩
  have h2:=ok.h2
  refine zN (fun ρ' O'=>Ex4 fun rows' v4 v5 v6=>An3 (PicOk rows' x) (ρ'=[some (.d (pd rows)),some (.d (.list (ns.map .int))),some (.d (.int k)),some (.own a),v4,v5,v6]) (O' a=some (.lst ((rows'.map PyData.list).map W.d)))) (fun R1 hR1=>?_) ?_
  · walk_at "wd"
    refine⟨_,rfl,_,zf _,?_⟩
    rw [kH]
    refine yN.by (fun i ρ O'=>Ex4 fun rows' v4 v5 v6=>An4 (rows'.length=i) ((∀ r∈rows',r.length=x/\r.all cellD=true)) (ρ=[some (.d (pd rows)),some (.d (.list (ns.map .int))),some (.d (.int k)),some (.own a),v4,v5,v6]) (O' a=some (.lst ((rows'.map PyData.list).map W.d)))) ⟨[],_,_,_,rfl,by simp,rfl,ha⟩ (fun _ _ _ _=>rfl) ?_ ?_
    · rintro i w _ O' hw ⟨rows',v4,v5,v6,rl,hrow,rfl,hO'⟩ R2 hR2
      rw [List.getElem?_map,List.length_map] at hw
      obtain⟨j,hj,rfl⟩:=Option.map_eq_some_iff.1 hw
      obtain⟨hi,e⟩:=List.getElem?_eq_some_iff.1 hj
      rw [List.length_range] at hi
      rw [List.getElem_range] at e
      subst e
      have hr:rows[i]? =some rows[i]:=List.getElem?_eq_getElem hi
      generalize rows[i]=r at hr
      have rk:=ok.row r (List.mem_of_getElem? hr)
      have eg:(rows.map PyData.list).getD i .none=.list r:=by rw [List.getD_eq_getElem?_getD,List.getElem?_map,hr];rfl
      rw [eg]
      refine⟨_,rfl,rfl,_,_,rfl,_,_,rfl,rfl,?_⟩
      refine zN (fun ρ' O2=>Ex1 fun (s:Nat)=>An4 (1≤s) (s≤9) (ρ'=[some (.d (pd rows)),some (.d (.list (ns.map .int))),some (.d (.int k)),some (.own a),some (.d (.int i)),some (.d (.list r)),some (.d (.int s))]) (O'=O2)) (fun R3 hR3=>?_) ?_
      · walk_at "wd"
        refine⟨ns,k+1+i,rfl,by omega,by omega,fun n n0 n1=>?_⟩
        show 0 < (9:Int)/\_
        have e9:((1+n%9).toNat:Int)= 1+n%9:=Int.toNat_of_nonneg (by omega)
        exact⟨by decide,hR3 _ _ ⟨(1+n%9).toNat,by omega,by omega,by rw [e9],rfl⟩⟩
      rintro _ _ ⟨s,s1,s2,rfl,rfl⟩
      obtain⟨sr,es,_⟩:=Yb rk.2
      subst es
      have hc:∀ c∈sr,cellD (zp c)=true:=fun c m=>List.all_eq_true.1 rk.2 _ (List.mem_map.2 ⟨c,m,rfl⟩)
      have sl:sr.length=x:=by rw [<- rk.1,List.length_map]
      have x2:=ok.w2
      have gA:∀ j,j < sr.length->(sr.map zp).getD j .none=zp (cA sr j)/\cA sr j∈sr:=fun j hj=>by
        unfold cA
        rw [List.getD_eq_getElem?_getD,List.getD_eq_getElem?_getD,List.getElem?_map,List.getElem?_eq_getElem hj]
        exact⟨rfl,List.getElem_mem hj⟩
      walk_at "wd"
      refine⟨.inl ⟨rfl,by simp [zD,hO']⟩,_,rfl,_,zf _,rfl,by rw [List.length_map];omega,fun w=>match w with |.d (.tuple [.int j,_])=>some (zp ((cA sr j.toNat).1,(cA sr (j.toNat / s*s)).2)) |_=>none,?_,?_⟩
      · intro w hw us hu
        rw [kH] at hw
        obtain⟨j,hj,rfl⟩:=List.mem_map.1 hw
        rw [List.mem_range,List.length_map] at hj
        obtain⟨u1,u2,rfl⟩:∃ a b,us=[a,b]:=by
          match us,hu with
          |[a,b],_=>exact⟨a,b,rfl⟩
        have js:j / s*s≤j:=Nat.div_mul_le_self j s
        rw [(gA j hj).1]
        refine⟨_,rfl,rfl,_,_,rfl,_,_,rfl,rfl,rfl,rfl,_,rfl,_,rfl,?_⟩
        show zdP (j:Int) (s:Int)/\IntMulOk ((j:Int) / (s:Int)) (s:Int)/\_
        have dj:(j:Int) / (s:Int)=((j / s:Nat):Int):=by simp
        have dm:((j:Int) / (s:Int))*(s:Int)=((j / s*s:Nat):Int):=by rw [dj];simp
        have dl:=Nat.div_le_self j s
        refine⟨⟨by omega,by omega⟩,mulR (by omega) (by omega),_,rfl,.d (zp (cA sr (j / s*s))),?_,?_⟩
        · rw [dm]
          refine yn ?_
          rw [List.getElem?_map,List.getElem?_map,List.getElem?_eq_getElem (by omega)]
          unfold cA
          rw [List.getD_eq_getElem?_getD,List.getElem?_eq_getElem (by omega)]
          rfl
        · exact⟨_,rfl,_,rfl,rfl⟩
      · rw [kH,xq (List.range (sr.map zp).length) _ _ (fun j=>zp ((cA sr j).1,(cA sr (j / s*s)).2)) (fun j=>rfl)]
        refine⟨updO O' a (.lst (((rows' ++ [(List.range (sr.map zp).length).map fun j=>zp ((cA sr j).1,(cA sr (j / s*s)).2)]).map PyData.list).map W.d)),?_,hR2 _ _ ⟨rows' ++ [(List.range (sr.map zp).length).map fun j=>zp ((cA sr j).1,(cA sr (j / s*s)).2)],_,_,_,by rw [List.length_append,rl];rfl,fun r hr=>?_,rfl,zu⟩⟩
        · simp only [uU,hO']
          rw [if_pos (by rw [List.length_map,List.length_map,rl];omega),List.map_append,List.map_append]
          rfl
        · rcases List.mem_append.1 hr with hr |hr
          · exact hrow r hr
          · cases List.mem_singleton.1 hr
            refine⟨by rw [List.length_map,List.length_range,List.length_map,sl],List.all_eq_true.2 fun d hd=>?_⟩
            obtain⟨j,hj,rfl⟩:=List.mem_map.1 hd
            rw [List.mem_range,List.length_map] at hj
            have js:j / s*s≤j:=Nat.div_mul_le_self j s
            have q1:=hc _ (gA j hj).2
            have q2:=hc _ (gA (j / s*s) (by omega)).2
            have q1:(signD (.str (cA sr j).1) && inkD (.int (cA sr j).2))=true:=q1
            have q2:(signD (.str (cA sr (j / s*s)).1) && inkD (.int (cA sr (j / s*s)).2))=true:=q2
            rw [Bool.and_eq_true] at q1 q2
            show (signD (.str (cA sr j).1) && inkD (.int (cA sr (j / s*s)).2))=true
            rw [q1.1,q2.2]
            rfl
    · rintro _ O' ⟨rows',v4,v5,v6,rl,hrow,rfl,hO'⟩
      rw [List.length_map,List.length_range,List.length_map] at rl
      exact hR1 _ _ ⟨rows',_,_,_,⟨ok.w1,ok.w2,by rw [rl];exact ok.h1,by rw [rl];exact ok.h2,hrow⟩,rfl,hO'⟩
  rintro _ O2 ⟨rows',v4,v5,v6,ok',rfl,hO2⟩
  walk_at "wd"
  exact .inr ⟨a,_,rfl,hO2,h _ _ ok'⟩
end
noncomputable def vM (z:Str):Option (List Int):=match byT (.str (Txt.partition z zz).2.2) with
 |none=>none
 |some n=>some (List.replicate (manyS (Txt.partition z zz).1) (n:Int))
noncomputable def z9:List Str->Option (List Int)
 |[]=>some []
 |z :: zs=>match vM z,z9 zs with
  |some a,some b=>some (a ++ b)
  |_,_=>none
noncomputable def inksBy (z:Str):Option (List Int):=z9 (Txt.split z zI)
theorem YL:∀ (l:List Str) (z:Str) (a b:List Int),z9 l=some a->vM z=some b->z9 (l ++ [z])=some (a ++ b)
 |[],z,a,b,h1,h2=>by
  cases h1
  show z9 [z]=_
  simp [z9,h2]
 |x :: l,z,a,b,h1,h2=>by
  unfold z9 at h1
  split at h1
  ·rename_i a1 b1 e1 e2
   cases h1
   show z9 (x :: (l ++ [z]))=_
   simp only [z9,e1,YL l z b1 b e2 h2,List.append_assoc]
  ·cases h1
theorem YM:∀ {l:List Str}{z:Str},z∈l->vM z=none->z9 l=none
 |x :: l,z,h,e=>by
  rcases List.mem_cons.1 h with rfl |h
  ·simp [z9,e]
  ·have:=YM h e
   simp [z9,this]
theorem zdz {z:Str}{a:List Int}(h:vM z=some a):a.length≤24:=by
 unfold vM at h
 split at h
 ·cases h
 ·cases h
  rw [List.length_replicate]
  exact Ui _
theorem Yc:∀ {l:List Str}{a:List Int},z9 l=some a->a.length≤24*l.length
 |[],a,h=>by cases h;simp
 |x :: l,a,h=>by
  unfold z9 at h
  split at h
  ·rename_i a1 b1 e1 e2
   cases h
   have:=zdz e1
   have:=Yc e2
   rw [List.length_append,List.length_cons]
   omega
  ·cases h
theorem Va (sep:Str):∀ {ps:List Str},ps≠[]->ps.length*sep.length≤(Str.join sep ps).length+sep.length
 |[],h=>absurd rfl h
 |[p],_=>by simp only [List.length_cons,List.length_nil];omega
 |p :: q :: r,_=>by
  have ih:=Va sep (ps:=q :: r) (by simp)
  have e:(Str.join sep (p :: q :: r)).length=p.length+sep.length+(Str.join sep (q :: r)).length:=by
   show (Str.join sep (p :: q :: r)).cps.toList.length=p.cps.toList.length+sep.cps.toList.length+(Str.join sep (q :: r)).cps.toList.length
   rw [show Str.join sep (p :: q :: r)=p ++ sep ++ Str.join sep (q :: r) from rfl,zm,zm,List.length_append,List.length_append]
  rw [e,List.length_cons,Nat.succ_mul]
  omega
theorem xJ (t sep:Str):(Txt.split t sep).length*sep.length≤t.length+sep.length:=by
 by_cases h:Txt.split t sep=[]
 ·rw [h];simp
 ·have:=Va sep h
  rw [StrLaws.join_split] at this
  exact this
theorem YN (sep:Str):∀ {ps:List Str}{p:Str},p∈ps->p.length≤(Str.join sep ps).length
 |[q],p,h=>by cases List.mem_singleton.1 h;exact Nat.le_refl _
 |q :: q2 :: r,p,h=>by
  have e:(Str.join sep (q :: q2 :: r)).length=q.length+sep.length+(Str.join sep (q2 :: r)).length:=by
   show (Str.join sep (q :: q2 :: r)).cps.toList.length=q.cps.toList.length+sep.cps.toList.length+(Str.join sep (q2 :: r)).cps.toList.length
   rw [show Str.join sep (q :: q2 :: r)=q ++ sep ++ Str.join sep (q2 :: r) from rfl,zm,zm,List.length_append,List.length_append]
  rcases List.mem_cons.1 h with rfl |h
  ·omega
  ·have:=YN sep h
   omega
theorem xx {t sep p:Str}(h:p∈Txt.split t sep):p.length≤t.length:=by
 have:=YN sep h
 rw [StrLaws.join_split] at this
 exact this
inductive sInksBy (ba:Addr) (ws:List W) (O:OM) (R:WK) (Y:Addr->OM->Prop):Prop
 |mk:∀ z:Str,ws=[.d (.str z)]->z.length≤700000->((∀ is p O',inksBy z=some is->is.length≤10000000->O p=none->Old O O'->O' p=some (.lst ((is.map PyData.int).map W.d))->R (.own p) O'))->(∀ O',inksBy z=none->Old O O'->Y ba O')->sInksBy ba ws O R Y
theorem za9 (z:Str):(Txt.partition z zz).2.2.length≤z.length:=by
 unfold Txt.partition
 split
 ·show (Builtin.Str.strSub z _ _).length≤_
  unfold Builtin.Str.strSub
  simp [Str.length]
 ·exact Nat.zero_le _
section
variable {P:Program}{w:World}{K:W.Frag}{mg:Str->Option Value}{base:Heap}{f:Addr}{fd:FuncData}{bw sw hf:Addr}{se bp bs bi ba un:Addr}
theorem Zt (F:Fun K "inks_by_text" "inks_by_text" vy f fd) (T:Txt P w K mg bw sw hf) (X:TxtX K mg se bp bs bi ba un) (zhj:CalXz true P w K mg base 3 "ink_by_text" [] (zU K (sByText bi))) (zhw:Cal P w K mg base 1 "many_by_text" [] (zd K sMany)):FnOk P w K mg base (CX1 P w) 4 f fd ["text"] (zU K (sInksBy ba)):=by
  have nd:=uQ.nd
  apply F.okXV uQ (by rintro _ _ _ _ ⟨t,rfl,_⟩;rfl) (fun cdv A outer sh H E hr=>(zb (zh (i:=1) nd rfl (Or.inl rfl) (vn qn))
      (zb (y7 PassesOwn.leaving rfl (z7 (K:=K) rfl (zS (K:=K) rfl PySem.F.plainAttrs_str PySem.F.slot_str_split PySem.F.type_str_split xG (pv 0) (QA.pa (qc zj qn)))) (zv (i:=2) nd rfl (Or.inl rfl))
      (zb (zh (i:=3) nd rfl (Or.inl rfl) (zS (K:=K) rfl PySem.F.plainAttrs_str PySem.F.slot_str_partition PySem.F.type_str_partition XH (pv 2) (QA.pa (qc zj qn))))
      (zb (zdp rfl X.c_BadInk X.i_xi rfl X.c_BadPaper X.x_BadPaper xc (fun _=>PassesOwnAt.leaving) (fun _ _ _ L=>(ze (zh (i:=4) nd rfl (Or.inl rfl) (vj zhj L.passes (hr.mono (by decide)) rfl (QA.pa (qc (zE (xp (K:=K) rfl) (pv 3) za (fun _ _=>rfl)) qn)))))))
      (ze (yX (zS (K:=K) rfl PySem.F.plainAttrs_list PySem.F.slot_list_extend PySem.F.type_list_extend Ja (pv 1) (QA.pa (qc (zc zde (vn (qc (pv 4) qn)) (zr zhw (hr.mono (by decide)) rfl (QA.pa (qc (zE (xp (K:=K) rfl) (pv 3) za (fun _ _=>rfl)) qn)))) qn))))))))
      (ze (zi (pv 1))))))
  · walk_at "ref"
  rintro _ O R Y ⟨z,rfl,zl,h,hY⟩
  walk_at "wd"
  have ec:Str.ofString ", " =zI:=rfl
  have eo:Str.ofString ":" =zz:=rfl
  rw [ec,eo]
  have cnt:=xJ z zI
  have cl:zI.length= 2:=rfl
  rw [cl] at cnt
  refine fun p hp=>⟨.inr (.inl ⟨rfl,_,rfl⟩),by decide,by omega,_,rfl,?_⟩
  refine yN.by (fun i ρ O'=>Ex4 fun is v2 v3 v4=>An4 (z9 ((Txt.split z zI).take i)=some is) (ρ=[some (.d (.str z)),some (.own p),v2,v3,v4]) (Old O O') (O' p=some (.lst ((is.map PyData.int).map W.d)))) ⟨[],_,_,_,rfl,rfl,Old.refl.upd hp,zu⟩ (fun _ _ _ _=>rfl) ?_ ?_
  · rintro i w _ O' hw ⟨is,v2,v3,v4,his,rfl,ho,hO'⟩ R1 hR1
    rw [List.getElem?_map,List.getElem?_map] at hw
    cases ht:(Txt.split z zI)[i]? with
    |none=>rw [ht] at hw;cases hw
    |some t=>
      rw [ht] at hw
      cases hw
      have tm:=List.mem_of_getElem? ht
      have tl:=xx tm
      have il:=Yc his
      have tk:((Txt.split z zI).take i).length≤(Txt.split z zI).length:=by rw [List.length_take];exact Nat.min_le_right _ _
      simp only [x8]
      refine zN (fun ρ' O2=>ρ'=[some (.d (.str z)),some (.own p),some (.d (.str t)),some (.d (.tuple [.str (Txt.partition t zz).1,.str (Txt.partition t zz).2.1,.str (Txt.partition t zz).2.2])),v4]/\O'=O2) (fun R2 hR2=>?_) ?_
      · walk_at "wd"
        exact⟨.inr (.inl ⟨rfl,_,rfl⟩),by decide,by omega,hR2 _ _ ⟨rfl,rfl⟩⟩
      rintro _ _ ⟨rfl,rfl⟩
      refine zN (fun ρ' O2=>Ex1 fun (n:Nat)=>An3 (byT (.str (Txt.partition t zz).2.2)=some n) (ρ'=[some (.d (.str z)),some (.own p),some (.d (.str t)),some (.d (.tuple [.str (Txt.partition t zz).1,.str (Txt.partition t zz).2.1,.str (Txt.partition t zz).2.2])),some (.d (.int n))]) (O'=O2)) (fun R2 hR2=>?_) ?_
      · walk_at "wd"
        have p2:=za9 t
        refine⟨_,rfl,_,rfl,by show (Txt.partition t zz).2.2.length≤700000;omega,fun n hn=>hR2 _ _ ⟨n,hn,rfl,rfl⟩,fun hn=>⟨rfl,hY _ (YM tm ?_) ho⟩⟩
        unfold vM
        rw [hn]
      rintro _ _ ⟨n,hn,rfl,rfl⟩
      walk_at "wd"
      have m24:=Ui (Txt.partition t zz).1
      refine⟨.inl ⟨rfl,by simp [zD,hO']⟩,fun a ha=>⟨_,rfl,_,rfl,[W.d (.int n)],[.int n],((manyS (Txt.partition t zz).1:Nat):Int),rfl,zu,rfl,by omega,by omega,by simp;omega,fun b hb=>?_⟩⟩
      have pa:p≠a:=neO hO' ha
      have hp2:updO O' a (.lst [W.d (.int n)]) p=some (.lst ((is.map PyData.int).map W.d)):=by rw [zC pa];exact hO'
      have pb:p≠b:=neO hp2 hb
      have o1:Old O (updO O' a (.lst [W.d (.int n)])):=ho.upd (ho.new ha)
      have pi:vM t=some (List.replicate (manyS (Txt.partition t zz).1) (n:Int)):=by unfold vM;rw [hn]
      have nx:z9 ((Txt.split z zI).take (i+1))=some (is ++ List.replicate (manyS (Txt.partition t zz).1) (n:Int)):=by
        rw [List.take_add_one,ht]
        exact YL _ _ _ _ his pi
      refine⟨_,by rw [zC pb];exact hp2,by simp only [List.length_map,List.length_cons,List.length_nil,Int.toNat_natCast];omega,hR1 _ _ ⟨_,_,_,_,nx,rfl,(o1.upd (o1.new hb)).upd hp,?_⟩⟩
      rw [zu,List.map_append,List.map_append,Int.toNat_natCast]
      congr 3
      rw [List.map_replicate,List.map_replicate]
      generalize manyS (Txt.partition t zz).1 =k
      induction k with
      |zero=>rfl
      |succ k ih=>rw [List.replicate_succ,List.replicate_succ,List.flatten_cons,ih];rfl
  · rintro _ O' ⟨is,v2,v3,v4,his,rfl,ho,hO'⟩
    rw [List.length_map,List.length_map,List.take_length] at his
    walk_at "wd"
    have il:=Yc his
    exact .inl (h is p O' his (by omega) hp ho hO')
end
noncomputable def jW (rows:List Str) (high k:Nat):Option (List PyData):=match inksBy (rows.getD (high+k) noS) with
 |none=>none
 |some is=>some (zipD (rows.getD k noS) (is.map .int))
noncomputable def xz (rows:List Str) (high:Nat):Nat->Option (List (List PyData))
 | 0=>some []
 |k+1=>match xz rows high k,jW rows high k with
  |some a,some r=>some (a ++ [r])
  |_,_=>none
noncomputable def yw (t:Str):List Str:=(Txt.split t nl).dropLast
noncomputable def lpic (t:Str):Option (List (List PyData)):=xz (yw t) ((yw t).length / 2) ((yw t).length / 2)
theorem YO {rows:List Str}{high k:Nat}(h:jW rows high k=none):∀ {n:Nat},k < n->xz rows high n=none
 |n+1,hn=>by
  by_cases e:k=n
  ·subst e
   simp [xz,h]
  ·have:=YO h (n:=n) (by omega)
   simp [xz,this]
theorem zba {ds:List Str}:zY (ds.map PyData.str) none (some (-1))=ds.dropLast.map PyData.str:=by
 rcases List.eq_nil_or_concat ds with rfl | ⟨l,x,rfl⟩
 ·rfl
 ·rw [List.concat_eq_append,List.map_append,List.map_cons,List.map_nil,jH,List.dropLast_concat]
theorem zfl {x:Str}{is:List Int}:∀ d∈zipD x (is.map .int),smD d=true:=by
 unfold zipD
 generalize x.cps.toList=cs
 induction cs generalizing is with
 |nil=>intro d hd;cases hd
 |cons c cs ih=>
  cases is with
  |nil=>intro d hd;cases hd
  |cons i is=>
   intro d hd
   rw [List.map_cons,List.zipWith_cons_cons] at hd
   rcases List.mem_cons.1 hd with rfl |hd
   ·simp [smD,vL,Str.length]
   ·exact ih d hd
theorem Uw {rows:List Str}{high:Nat}:∀ {n:Nat}{out:List (List PyData)},xz rows high n=some out->∀ r∈out,∀ d∈r,smD d=true
 | 0,out,h=>by cases h;simp
 |n+1,out,h=>by
  unfold xz at h
  split at h
  ·rename_i a r e1 e2
   cases h
   intro r' hr
   rcases List.mem_append.1 hr with hr |hr
   ·exact Uw e1 r' hr
   ·cases List.mem_singleton.1 hr
    unfold jW at e2
    split at e2
    ·cases e2
    ·cases e2
     exact zfl
  ·cases h
theorem zfZ {rows:List (List PyData)}(h:∀ r∈rows,∀ d∈r,smD d=true):smD (pd rows)=true:=by
 show vL (rows.map PyData.list)=true
 refine kD fun d hd=>?_
 obtain⟨r,hr,rfl⟩:=List.mem_map.1 hd
 exact kD (h r hr)
theorem Vb {O1 O2 O3:OM}(h:Old O1 O2) (h':Old O2 O3):Old O1 O3:=fun a ha=>by rw [h' a (by rw [h a ha];exact ha),h a ha]
inductive sLPic (ba:Addr) (ws:List W) (O:OM) (R:WK) (Y:Addr->OM->Prop):Prop
 |mk:∀ t:Str,ws=[.d (.str t)]->okTx t->t.length≤700000->((∀ rows a cs O',lpic t=some rows->O a=none->(∀ c∈cs,O c=none)->Old O O'->Dp O' a cs rows->R (.own a) O'))->(∀ O',lpic t=none->Old O O'->Y ba O')->sLPic ba ws O R Y
section
variable {P:Program}{w:World}{K:W.Frag}{mg:Str->Option Value}{base:Heap}{f:Addr}{fd:FuncData}{bw sw hf:Addr}{se bp bs bi ba un:Addr}
theorem jZ (F:Fun K "likely_picture" "likely_picture" xW f fd) (T:Txt P w K mg bw sw hf) (zhv:Cal P w K mg base 1 "likely_row" [] (zd K sLRow)) (zhl:CalX P w K mg base 4 "inks_by_text" [] (zU K (sInksBy ba))):FnOk P w K mg base (CX1 P w) 5 f fd ["paper"] (zU K (sLPic ba)):=by
  have nd:=vY.nd
  apply F.okXV vY (by rintro _ _ _ _ ⟨t,rfl,_⟩;rfl) (fun cdv A outer sh H E hr=>(zb (zh (i:=1) nd rfl (Or.inr rfl) (zH (yg (K:=K) rfl) (zS (K:=K) rfl PySem.F.plainAttrs_str PySem.F.slot_str_split PySem.F.type_str_split xG (pv 0) (QA.pa (qc zj qn))) zW (zF (qy ut za))))
      (zb (zh (i:=2) nd rfl (Or.inr rfl) (zc zT (zk (ye (K:=K) rfl) (by rfl) T.n_len (by rfl) (QA.pa (qc (pv 1) qn))) za))
      (ze (zi (ze5 xc (xk (N:=["row","rows","high"]) (n:=1) (js:=[1,2])) rfl (y6 rfl T.n_range (QA.pa (qc (pv 2) qn))) (fun _ _ _ _=>(zv (i:=0) (show List.Nodup (["row","rows","high"]:List Str) by decide +kernel) rfl (Or.inl rfl))) (fun _ _ _ _=>yx) (fun _ _ _ _ _ _ L=>(zr zhv (hr.mono (by decide)) rfl (QA.pa (qc (zE (zZ (K:=K) rfl) (pv 1) (pv 0) (fun _ _=>rfl)) (qc (vj zhl L.passes (hr.mono (by decide)) rfl (QA.pa (qc (zE (zZ (K:=K) rfl) (pv 1) (zc zy (pv 2) (pv 0)) (fun _ _=>rfl)) qn))) qn)))))))))))
  · walk_at "ref"
    apply Qx
    apply Qv
    · walk_at "ref"
    apply Qw <;> walk_at "ref"
  rintro _ O R Y ⟨t,rfl,ht,tl,h,hY⟩
  have en:Str.ofString "\n" =nl:=rfl
  have cnt:=xJ t nl
  have nll:nl.length= 1:=rfl
  rw [nll] at cnt
  have ll:(yw t).length≤700001:=by unfold yw;rw [List.length_dropLast];omega
  obtain⟨hi,ehi⟩:∃ hi,hi=(yw t).length / 2:=⟨_,rfl⟩
  refine ub (fun ρ' O'=>ρ'=[some (.d (.str t)),some (.d (.list ((yw t).map .str))),some (.d (.int (hi:Nat)))]/\O=O') (fun R1 hR1=>?_) ?_
  · walk_at "wd"
    rw [en]
    refine⟨.inr (.inl ⟨rfl,_,rfl⟩),by decide,by omega,_,rfl,_,zf _,?_⟩
    rw [zba]
    refine⟨_,yJ,⟨by decide,by decide⟩,?_⟩
    rw [List.length_map]
    exact hR1 _ _ ⟨by rw [ehi];rfl,rfl⟩
  rintro _ _ ⟨rfl,rfl⟩
  have el:lpic t=xz (yw t) hi hi:=by unfold lpic;rw [<- ehi]
  walk_at "wd"
  refine⟨by omega,by omega,fun i vs O'=>Ex2 fun out cs=>An5 (xz (yw t) hi i=some out) (vs=cs.map W.own) (Ds O' cs out) (Old O O') (∀ c∈cs,O c=none),⟨[],[],rfl,rfl,.nil,Old.refl,by simp⟩,?_,?_⟩
  · rintro i _ _ O' x hx rfl ⟨out,cs,ho,rfl,ds,old,hcs⟩ us hu
    obtain⟨u,rfl⟩:=List.length_eq_one_iff.1 hu
    obtain⟨hi',e⟩:=List.getElem?_eq_some_iff.1 hx
    simp only [List.length_range] at hi'
    rw [List.getElem_range] at e
    subst e
    have gl:∀ k,k < (yw t).length->(((yw t).map PyData.str).map W.d)[k]? =some (.d (.str ((yw t).getD k noS)))/\(yw t).getD k noS∈Txt.split t nl:=fun k hk=>by
      rw [List.getElem?_map,List.getElem?_map,List.getD_eq_getElem?_getD,List.getElem?_eq_getElem hk]
      exact⟨rfl,List.dropLast_subset _ (List.getElem_mem hk)⟩
    have l1:=gl i (by omega)
    have l2:=gl (hi+i) (by omega)
    have s1:=xx l1.2
    have s2:=xx l2.2
    refine⟨rfl,rfl,?_⟩
    show ∃ ws,zD O' (.d (.list ((yw t).map .str)))=some ws/\∃ w2,atI ws (i:Int)=some w2/\∃ ws,zD O' (.d (.list ((yw t).map .str)))=some ws/\∃ w,atI ws ((hi:Int)+(i:Int))=some w/\sInksBy ba [w] O' (fun y O1=>sLRow [w2,y] O1 fun y O3=>_) _
    refine⟨_,rfl,_,yn l1.1,_,rfl,.d (.str ((yw t).getD (hi+i) noS)),?_,_,rfl,by omega,fun is p O1 his hil hp o1 hO1=>⟨_,p,is,rfl,fun c hc=>ht c (vd l1.2 hc),by omega,hil,hO1,fun b hb=>⟨out ++ [zipD ((yw t).getD i noS) (is.map .int)],cs ++ [b],?_,by simp,(ds.old o1).snoc hb _,(Vb old o1).upd ((Vb old o1).new hb),fun c hc=>(List.mem_append.1 hc).elim (hcs c) fun z=>by cases List.mem_singleton.1 z;exact (Vb old o1).new hb⟩⟩,fun O1 hn o1 p us hp=>hY _ ?_ ((Vb old o1).upd ((Vb old o1).new hp))⟩
    · have:=yn l2.1
      rw [show ((hi+i:Nat):Int)=(hi:Int)+(i:Int) by omega] at this
      exact this
    · simp only [xz,ho,jW,his]
    · rw [el]
      refine YO (k:=i) ?_ hi'
      unfold jW
      rw [hn]
  · rintro _ O' ⟨out,cs,ho,rfl,ds,old,hcs⟩ a ha
    exact .inl (h out a cs _ (by rw [el];exact ho) (old.new ha) hcs (old.upd (old.new ha)) (ds.full ha))
end
theorem zgj {P:Program}{w:World}{K:W.Frag}{mg:Str->Option Value}{base:Heap}{CX:CXT}{k:Nat}{f:Addr}{fd:FuncData}{ps:List Str}{s s':SpX}(F:FnOk P w K mg base CX k f fd ps (zU K s'))
  (h:∀ ws O R Y,s ws O R Y->s' ws O (fun w O'=>∃ a cs rows,w=.own a/\Dp O' a cs rows/\Old O O'/\O a=none/\(∀ c∈cs,O c=none)/\R (.d (pd rows)) O) (fun C O'=>Old O O'/\Y C O)):FnOk P w K mg base CX k f fd ps (zU K s):=
 F.imp fun vs H Q E ⟨Γ,O,ws,R,Y,S,r,hs,k,m⟩=>⟨Γ,O,ws,_,_,S,r,h ws O R Y hs,fun Γ' O' H' w v l S' rw ⟨a,cs,rows,e,dp,old,ha,hc,hR⟩=>by
  subst e
  cases (show v=.ref a from rw)
  obtain⟨Γ2,O2,l2,S2,r2,k2⟩:=S'.freezeDeepA dp.at_ dp.ds.items
  refine k Γ2 O H' _ _ (l.trans l2) (S2.shrink fun b hb=>(k2 b (fun z=>?_) fun z=>?_).trans (old b hb)) r2 hR
  ·rw [z] at hb
   exact hb ha
  ·obtain⟨c,hc',e⟩:=List.mem_map.1 z
   cases e
   exact hb (hc b hc'),fun Γ' O' H' C l S' ⟨ho,hY⟩=>m Γ' O H' C l (S'.shrink ho) hY⟩
theorem zdA {n:Nat}(h:n < 512):byT (.str (inkT n))=some n:=by
 have e:=zc5 (n:=n) h
 simp only [byT,e,if_true]
theorem zdB {r:Rw6}(h:okW r):inksBy (inksT r)=some (r.map (·.2)):=by
 unfold inksBy
 rw [ka h,<- XM]
 have:∀ l:List T3,(∀ t∈l,okT3 t)->z9 (l.map stT)=some (l.flatMap fun t=>List.replicate (t.2.1 - t.1) t.2.2):=fun l=>by
  induction l with
  |nil=>intro _;rfl
  |cons t l ih=>
   intro hl
   have ok:=hl t List.mem_cons_self
   have pt:vM (stT t)=some (List.replicate (t.2.1 - t.1) t.2.2):=by
    obtain⟨t1,t2,t3,t4⟩:=ok
    have m:=Z0 (n:=t.2.1 - t.1) (by omega) (by omega)
    unfold vM
    rw [zaQ ⟨t1,t2,t3,t4⟩]
    simp only
    rw [zdA (by omega)]
    simp only [manyS,if_pos m.1,m.2,Int.toNat_of_nonneg t3]
   rw [List.map_cons,List.flatMap_cons]
   simp only [z9,pt,ih fun x hx=>hl x (List.mem_cons_of_mem _ hx)]
 exact this _ (x0 h)
theorem VD {p:Pc}(h:okP24 p):yw (paperT p)=zB p:=by
 unfold yw
 rw [kb h,List.dropLast_concat]
theorem QP {p:Pc}(h:okP24 p):lpic (paperT p)=some (rowsP p):=by
 unfold lpic
 rw [VD h]
 have ll:(zB p).length / 2 =p.length:=by unfold zB;rw [List.length_append,List.length_map,List.length_map];omega
 rw [ll]
 have:∀ k,k≤p.length->xz (zB p) p.length k=some ((rowsP p).take k):=fun k=>by
  induction k with
  |zero=>intro _;rfl
  |succ k ih=>
   intro hk
   have hr:p[k]? =some p[k]:=List.getElem?_eq_getElem (by omega)
   generalize p[k]=r at hr
   have ok:=h.2.2 r (List.mem_of_getElem? hr)
   have e1:(zB p).getD k noS=zQ r:=by
    rw [List.getD_eq_getElem?_getD,zB,List.getElem?_append_left (by simp;omega),List.getElem?_map,hr]
    rfl
   have e2:(zB p).getD (p.length+k) noS=inksT r:=by
    rw [List.getD_eq_getElem?_getD,zB,List.getElem?_append_right (by simp),List.getElem?_map,List.length_map,Nat.add_sub_cancel_left,hr]
    rfl
   have e3:(rowsP p)[k]? =some (r.map zp):=by rw [rowsP,List.getElem?_map,hr];rfl
   simp only [xz,ih (by omega),jW,e1,e2,zdB ok,zdh ok.2.2.1]
   rw [List.take_add_one,e3]
   rfl
 have e:=this p.length (Nat.le_refl _)
 rw [List.take_of_length_le (by simp [rowsP])] at e
 exact e
theorem zfm {c:Cel}(h:cellD (zp c)=true):c.1≠sgn 37:=fun e=>by
 have h:(signD (.str c.1) && inkD (.int c.2))=true:=h
 rw [Bool.and_eq_true,e] at h
 exact absurd h.1 (by decide)
theorem Ux {p:Pc}(h:okP24 p) (hb:picB (pd (rowsP p))=true):∃ w,okV p w:=by
 obtain⟨rows,x,e,ok⟩:=Uv hb
 have e2:rowsP p=rows:=by
  unfold pd at e
  injection e with e
  exact qt (fun _ _ z=>by injection z) e
 subst e2
 refine⟨x,h,fun r hr=>?_⟩
 have q:=ok.row (r.map zp) (List.mem_map.2 ⟨r,hr,rfl⟩)
 rw [List.length_map] at q
 exact⟨q.1,fun c hc=>zfm (List.all_eq_true.1 q.2 _ (List.mem_map.2 ⟨c,hc,rfl⟩))⟩
theorem zdC {p:Pc}{w:Nat}(h:okV p w):picB (pd (rowsP p))=true:=by
 obtain⟨⟨h1,h2,h3⟩,h4⟩:=h
 have hr:∀ r∈rowsP p,r.length=w/\r.all cellD=true:=fun r hr=>by
  obtain⟨q,hq,rfl⟩:=List.mem_map.1 hr
  rw [List.length_map]
  refine⟨(h4 q hq).1,List.all_eq_true.2 fun d hd=>?_⟩
  obtain⟨c,hc,rfl⟩:=List.mem_map.1 hd
  obtain⟨k,k1,k2,ek⟩:=(h3 q hq).2.2.1 c hc
  have i:=(h3 q hq).2.2.2 c hc
  have n37:=(h4 q hq).2 c hc
  show (signD (.str c.1) && inkD (.int c.2))=true
  rw [ek] at n37 ⊢
  have k37:k≠37:=fun z=>n37 (by rw [z];rfl)
  simp [signD,inkD,wholeD,Str.length]
  omega
 obtain⟨q,hq⟩:∃ q,q∈p:=by
  cases p with
  |nil=>simp at h1
  |cons q p=>exact⟨q,List.mem_cons_self⟩
 have w1:=(h3 q hq).1
 have w2:=(h3 q hq).2.1
 rw [(h4 q hq).1] at w1 w2
 exact PicOk.pic ⟨w1,w2,by rw [rowsP,List.length_map];exact h1,by rw [rowsP,List.length_map];exact h2,hr⟩
theorem zbb {t:Str}(ht:okTx t) {p:Pc}(h:lawRead t=some p):lpic t=some (rowsP p)/\picB (pd (rowsP p))=true/\paperT p=t:=by
 obtain⟨w,ok,e⟩:=jm ht h
 exact⟨by rw [e];exact QP ok.1,zdC ok,e.symm⟩
theorem jI {t:Str}(ht:okTx t) (h:∀ p:Pc,lpic t=some (rowsP p)->picB (pd (rowsP p))=true->paperT p=t->False):lawRead t=none:=by
 cases e:lawRead t with
 |none=>rfl
 |some p=>
  obtain⟨e1,e2,e3⟩:=zbb ht e
  exact (h p e1 e2 e3).elim
theorem zfn {a b:List (List PyData)}(h:pd a=pd b):a=b:=by
 unfold pd at h
 injection h with h
 exact qt (fun _ _ z=>by injection z) h
inductive sPicOfO (ba:Addr) (ws:List W) (O:OM) (R:WK) (Y:Addr->OM->Prop):Prop
 |mk:∀ d,ws=[.d d]->((∀ z,d=.str z->okTx z/\z.length≤700000))->((∀ z p a cs O',d=.str z->lawRead z=some p->O a=none->(∀ c∈cs,O c=none)->Old O O'->Dp O' a cs (rowsP p)->R (.own a) O'))->(∀ O',(∀ z,d=.str z->lawRead z=none)->Old O O'->Y ba O')->sPicOfO ba ws O R Y
inductive sPicOf (ba:Addr) (ws:List W) (O:OM) (R:WK) (Y:Addr->OM->Prop):Prop
 |mk:∀ d,ws=[.d d]->((∀ z,d=.str z->okTx z/\z.length≤700000))->((∀ z p,d=.str z->lawRead z=some p->R (.d (pd (rowsP p))) O))->(((∀ z,d=.str z->lawRead z=none)->Y ba O))->sPicOf ba ws O R Y
section
variable {P:Program}{w:World}{K:W.Frag}{mg:Str->Option Value}{base:Heap}{f:Addr}{fd:FuncData}{bw sw hf:Addr}{se bp bs bi ba un:Addr}
theorem Yd (F:Fun K "picture_of" "picture_of" ve f fd) (T:Txt P w K mg bw sw hf) (X:TxtX K mg se bp bs bi ba un) (zhu:CalX P w K mg base 5 "likely_picture" [] (zU K (sLPic ba))) (c_is_picture:Cal P w K mg base 5 "is_picture" [] (zd K sPicD)) (c_paper_of:CalX P w K mg base 7 "paper_of" [] (zU K (sPaperOf bp))):FnOk P w K mg base (CX1 P w) 8 f fd ["paper"] (zU K (sPicOfO ba)):=by
  have nd:=qW.nd
  have c_is_picture:=c_is_picture.lend
  have c_paper_of:=c_paper_of.lend
  apply F.okXV qW (by rintro _ _ _ _ ⟨d,rfl,_⟩;rfl) (fun cdv A outer sh H E hr=>(zb (zL (yK (yS (zk (xH (K:=K) rfl) (by rfl) T.n_isinstance (by rfl) (QA.pa (qc (pv 0) (qc (yW (v:=.ty "str") (u:=.type "str") rfl T.n_str rfl rfl) qn)))))) (ze (uy xc X.x_BadPaper rfl rfl X.c_BadPaper (QA.pa (qc zj qn)))) zw)
      (zb (zh (i:=1) nd rfl (Or.inl rfl) (vj zhu xc.passes (hr.mono (by decide)) rfl (QA.pa (qc (pv 0) qn))))
      (zb (zL (PW.pt (yQ (yK (yS (zr c_is_picture (hr.mono (by decide)) rfl (QA.pa (qc (pv 1) qn))))) (xi (zq x6 (vj c_paper_of zbs (hr.mono (by decide)) rfl (QA.pa (qc (pv 1) qn))) (pv 0) (zt _))))) (ze (uy xc X.x_BadPaper rfl rfl X.c_BadPaper (QA.pa (qc zj qn)))) zw)
      (ze (zi (pv 1)))))))
  · walk_at "ref"
  rintro _ O R Y ⟨d,rfl,hd,h,hY⟩
  cases d with
  |str t=>
    obtain⟨ht,tl⟩:=hd t rfl
    walk_at "wd"
    refine⟨t,rfl,ht,tl,fun rows a cs O' hl ha hcs old dp=>?_,fun O' hn old=>hY O' (fun z e=>?_) old⟩
    · have dw:uE O' [.own a]=some [pd rows]:=by simp only [uE,dp.deep]
      have sm:=zfZ (Uw hl)
      refine⟨_,dw,_,rfl,sm,_,rfl,rfl,?_⟩
      cases pb:picB (pd rows) with
      |true=>
        simp only [if_true]
        refine⟨_,dw,_,rfl,sm,fun q e ok _=>⟨_,rfl,rfl,?_⟩,fun z=>by rw [pb] at z;cases z⟩
        have er:=zfn e
        subst er
        obtain⟨w0,okv⟩:=Ux ok pb
        by_cases et:paperT q=t
        · refine⟨rfl,rfl,rfl,(iff_of_eq (if_pos (decide_eq_true (by rw [et])))).mpr ?_⟩
          exact .inl (h t q a cs O' rfl (by rw [<- et];exact Uo okv) ha hcs old dp)
        · refine⟨rfl,rfl,rfl,(iff_of_eq (if_neg fun z=>et ?_)).mpr (hY O' (fun z e=>?_) old)⟩
          · have:=of_decide_eq_true z
            injection this
          · cases e
            refine jI ht fun p e1 _ e3=>et ?_
            rw [hl] at e1
            rw [Kr (p:=q) (q:=p) (by rw [Option.some.inj e1])]
            exact e3
      |false=>
        simp only [Bool.false_eq_true,if_false]
        refine hY O' (fun z e=>?_) old
        cases e
        refine jI ht fun p e1 e2 _=>?_
        rw [hl] at e1
        rw [Option.some.inj e1,e2] at pb
        cases pb
    · cases e
      refine jI ht fun p e1 _ _=>?_
      rw [hn] at e1
      cases e1
  |_=>
    walk_at "wd"
    exact hY O (fun z e=>by cases e) Old.refl
theorem Y0 (F:Fun K "picture_of" "picture_of" ve f fd) (T:Txt P w K mg bw sw hf) (X:TxtX K mg se bp bs bi ba un) (zhu:CalX P w K mg base 5 "likely_picture" [] (zU K (sLPic ba))) (c_is_picture:Cal P w K mg base 5 "is_picture" [] (zd K sPicD)) (c_paper_of:CalX P w K mg base 7 "paper_of" [] (zU K (sPaperOf bp))):FnOk P w K mg base (CX1 P w) 8 f fd ["paper"] (zU K (sPicOf ba)):=by
 refine zgj (Yd F T X zhu c_is_picture c_paper_of) fun ws O R Y ⟨d,e,hd,h,hY⟩=>⟨d,e,hd,fun z p a cs O' ez hp ha hcs old dp=>⟨a,cs,_,rfl,dp,old,ha,hcs,h z p ez hp⟩,fun O' hn old=>⟨old,hY hn⟩⟩
end
inductive sRef25 (ws:List W) (O:OM) (R:WK):Prop
 |mk:∀ d,ws=[.d d]->((∀ z,d=.str z->okTx z/\z.length≤700000/\lawRead z=none))->R (.d (.bool true)) O->sRef25 ws O R
local macro_rules | `(tactic| walk_at "rd") => do
  let f (s : String) : Lean.MacroM (Array (Lean.TSyntax ``Lean.Parser.Tactic.simpLemma)) := (s.splitOn " ").toArray.mapM fun n => `(Lean.Parser.Tactic.simpLemma| $(Lean.mkIdent n.toName):ident)
  let a ← f "K0 Xq KY tBM Y9 tOp rI rI0 rU tUn ZB tC L2.start ZD UM Y2 ki qx xT v0 ZF tCB UL kN UJ zf3 UK kQ KC tOr KD tB rEq rNe ja UU ZG Xi tIf and_assoc zcV zcW jL"
  `(tactic| simp [$a,*])
section
variable {P:Program}{w:World}{K:W.Frag}{mg:Str->Option Value}{base:Heap}{f:Addr}{fd:FuncData}{bw sw hf:Addr}{se bp bs bi ba un:Addr}
theorem Ye (F:Fun K "_law_refused" "_law_refused" vA f fd) (T:Txt P w K mg bw sw hf) (X:TxtX K mg se bp bs bi ba un) (zhy:CalX P w K mg base 8 "picture_of" [] (zU K (sPicOf ba))):FnOk P w K mg base CX0 9 f fd ["_law_thing"] (zd K sRef25):=by
  have nd:=uS.nd
  refine F.ok uS (fun vs H Q E h=>?_) (fun cdv A outer sh H vs Q E hr h=>?_)
  · obtain⟨Γ,O,ws,R,S1,r,⟨d,rfl,_⟩,_⟩:=h
    rw [<- Paired.length r]
    rfl
  · obtain⟨Γ,O,ws,R,S1,r,⟨d,rfl,hd,hR⟩,kk⟩:=h
    let Y:YK:=fun C O'=>C=ba/\O=O'
    refine⟨_,zb (zd5 (W:=fun cc _ H1=>∃ C Γ' O',cc=.ref C/\Le Γ Γ'/\Sim K Γ' O' H1/\Y C O') (G:=fun rt=>∀ Γ' O' H1 H2,Le Γ Γ'->Sim K Γ' O' H1->Same H1 H2->O=O'->rt (.bl true) H2) (N:=3) (i:=1) rfl nd rfl rfl rfl X.c_ScreenError (fun C H1 z=>?hx)
      (fun pins Z L=>ze (yX (vj zhy L.passes (hr.mono (by decide)) rfl (QA.pa (qc (pv 0) qn)))))
      ?hs) (ze (zi x5)),?_⟩
    case hx=>
      obtain⟨C',Γ',O',e,_,_,hY⟩:=z
      cases e
      obtain⟨rfl,_⟩:=hY
      exact X.a_se
    case hs=>
      intro pins e CC oe H1 rt hw he hm hc hd g
      obtain⟨C',Γ',O',ec,hle,hsim,hY⟩:=hw
      cases ec
      obtain⟨rfl,hold⟩:=hY
      refine⟨_,(zb (zh (i:=2) nd rfl (Or.inl rfl) (zR (qc (zk (xL X.y_BadPaper (List.mem_append_right _ hm) hc hd) (by rfl) T.n_isinstance (by rfl) (QA.pa (qc (pv 1) (qc (xh (v:=.ref bp) (by rfl) X.c_BadPicture (by rfl)) qn)))) (qc (zk (xL X.y_BadPaper (List.mem_append_right _ hm) hc hd) (by rfl) T.n_isinstance (by rfl) (QA.pa (qc (pv 1) (qc (xh (v:=.ref bs) (by rfl) X.c_BadSize (by rfl)) qn)))) (qc (zk (xL X.y_BadPaper (List.mem_append_right _ hm) hc hd) (by rfl) T.n_isinstance (by rfl) (QA.pa (qc (pv 1) (qc (xh (v:=.ref bi) (by rfl) X.c_BadInk (by rfl)) qn)))) qn)))))
        (zb (yX (UV PySem.F.plainAttrs_list PySem.F.slot_list_append PySem.F.type_list_append yL (pv 2) (QA.pa (qc (zk (xL X.y_BadPaper (List.mem_append_right _ hm) hc hd) (by rfl) T.n_isinstance (by rfl) (QA.pa (qc (pv 1) (qc (xh (v:=.ref un) (by rfl) X.c_Unlike (by rfl)) qn)))) qn))))
        (ze (zi (xy (zk (xL X.y_BadPaper (List.mem_append_right _ hm) hc hd) (by rfl) T.n_isinstance (by rfl) (QA.pa (qc (pv 1) (qc (xh (v:=.ref CC) (by rfl) X.c_BadPaper (by rfl)) qn)))) (xy (zk (xL X.y_BadPaper (List.mem_append_right _ hm) hc hd) (by rfl) T.n_isinstance (by rfl) (QA.pa (qc (pv 1) (qc (yW (v:=.ty "ValueError") (u:=.type "ValueError") (by rfl) X.n_ve (by rfl) (by rfl)) qn)))) (vO (ue jb x5 (pv 2) (by with_unfolding_all rfl))))))))),?_⟩
      refine VS (fun σ' H2=>∃ r,σ'=[none,some (.ref e),some (.ref r)]/\Same H1 H2/\H1 r=none/\H2 r=some (.lst ([false,false,false].map V.bl))) (fun R hR=>?_) ?_
      · refine⟨_,rfl,.inl ⟨_,_,rfl,X.a_bp,?_⟩⟩
        refine⟨_,rfl,.inl ⟨_,_,rfl,X.a_bs,?_⟩⟩
        refine⟨_,rfl,.inl ⟨_,_,rfl,X.a_bi,?_⟩⟩
        exact⟨by show (3:Nat)≤sizeLine;decide,fun p hp=>hR _ _ ⟨p,rfl,vi hp,hp,zA⟩⟩
      rintro _ H2 ⟨r2,rfl,hs2,hrn,hr2⟩
      refine VS (fun σ' H3=>σ'=[none,some (.ref e),some (.ref r2)]/\Same H1 H3/\H3 r2=some (.lst ([false,false,false,false].map V.bl))) (fun R hR=>?_) ?_
      · walk_at "rd"
        exact⟨.inl ⟨rfl,_,SqL.of hr2⟩,.inl ⟨X.a_un,_,hr2,by show (3:Nat) < sizeLine;decide,hR _ _ ⟨rfl,kl hs2 hrn,zA⟩⟩⟩
      rintro _ H3 ⟨rfl,hs3,hr3⟩
      walk_at "rd"
      exact .inr ⟨X.a_ba,.inr ⟨X.a_ve,r2,_,rfl,.inl (SqL.of hr3),rfl,rfl,g Γ' O' H1 H3 hle hsim hs3 hold⟩⟩
    · show ZD (K0 _ _) _ _ _ _
      refine⟨?_,fun Γ' O' H1 H2 hle hsim hsm hold=>?_⟩
      · have rf:∀ T,xg K (fun E=>kN (xT (zU K (sPicOf ba)) [] E (v0 (ZB 0) ZF))) T->T Y { nx:=fun _ _=>False,rt:=fun _ _=>False } (vP ["_law_thing","error","_law_kinds"] [.d d]) O->_:=fun T hT h=>hT (fun cc x H1=>∃ C Γ' O',cc=Value.ref C/\Le Γ Γ'/\Sim K Γ' O' H1/\Y C O') Y Γ O H _ _ { nx:=Y9 (tC (V.bl false)) { nx:=fun _ H'=>Q V.non H',rt:=Q },rt:=Q } _ S1 (qA r) (fun Γ' O' H' C l S' y=>⟨C,Γ',O',rfl,l,S',y⟩) h ⟨fun _ _ _ _ _ _ _ _ z=>z.elim,fun _ _ _ _ _ _ _ _ z=>z.elim,fun _ _ _ _ _ _ _ _ z=>z.elim,fun _ _ _ _ _ _ _ _ z=>z.elim⟩
        apply rf
        · walk_at "ref"
        walk_at "wd"
        exact⟨d,rfl,fun z e=>⟨(hd z e).1,(hd z e).2.1⟩,fun z p e hp=>(by rw [(hd z e).2.2] at hp;cases hp),fun _=>⟨rfl,rfl⟩⟩
      · refine kk Γ' O' H2 _ _ hle (hsim.grow hsm) xf ?_
        rw [<- hold]
        exact hR
end
theorem Uy {x:Str}{l u:Option Int}{c:Nat}(h:c∈(Txt.slice x l u).cps.toList):c∈x.cps.toList:=by
 unfold Txt.slice at h
 split at h
 ·exact h
 ·rw [List.mem_filterMap] at h
  obtain⟨i,_,e⟩:=h
  rw [<- Array.getElem?_toList] at e
  exact List.mem_of_getElem? e
theorem vf {x:Str}(h:okTx x) {l u:Option Int}:okTx (Txt.slice x l u):=fun c hc=>h c (Uy hc)
theorem vB {x y:Str}(h:okTx x) (g:okTx y):okTx (x ++ y):=fun c hc=>by
 rw [zm] at hc
 exact (List.mem_append.1 hc).elim (h c) (g c)
theorem Ks {L:List Str}(h:∀ z∈L,okTx z):okTx (Str.join nl L):=fun c hc=>by
 rw [zO] at hc
 rcases vS hc with hc | ⟨a,ha,hc⟩
 ·exact .inl (List.mem_singleton.1 hc)
 ·obtain⟨z,hz,rfl⟩:=List.mem_map.1 ha
  exact h z hz c hc
noncomputable def wt (L:List Str):Nat:=(L.map fun z=>z.length+1).sum
theorem qu (L M:List Str):wt (L ++ M)=wt L+wt M:=by unfold wt;rw [List.map_append,List.sum_append]
theorem x4 (z:Str) (L:List Str):wt (z :: L)=z.length+1+wt L:=by unfold wt;rw [List.map_cons,List.sum_cons]
theorem Uz:∀ L:List Str,(Str.join nl L).length≤wt L
 |[]=>Nat.zero_le _
 |[z]=>by rw [x4];show z.length≤_;omega
 |z :: y :: r=>by
  have ih:=Uz (y :: r)
  rw [x4]
  have e:(Str.join nl (z :: y :: r)).length=z.length+1+(Str.join nl (y :: r)).length:=by
   show (z ++ nl ++ Str.join nl (y :: r)).cps.toList.length=z.cps.toList.length+1+(Str.join nl (y :: r)).cps.toList.length
   rw [zm,zm,List.length_append,List.length_append]
   rfl
  omega
theorem UA:∀ {L:List Str},L≠[]->wt L=(Str.join nl L).length+1
 |[],h=>absurd rfl h
 |[z],_=>by rw [x4];rfl
 |z :: y :: r,_=>by
  have ih:=UA (L:=y :: r) (by simp)
  have e:(Str.join nl (z :: y :: r)).length=z.length+1+(Str.join nl (y :: r)).length:=by
   show (z ++ nl ++ Str.join nl (y :: r)).cps.toList.length=z.cps.toList.length+1+(Str.join nl (y :: r)).cps.toList.length
   rw [zm,zm,List.length_append,List.length_append]
   rfl
  rw [x4,ih,e]
  omega
theorem zbc (z:Str):wt (Txt.split z nl)≤z.length+1:=by
 by_cases h:Txt.split z nl=[]
 ·rw [h];exact Nat.zero_le _
 ·rw [UA h,StrLaws.join_split]
  omega
theorem zfo {L M:List Str}(h:L.Sublist M):wt L≤wt M:=by
 induction h with
 |slnil=>exact Nat.le_refl _
 |cons a _ ih=>rw [x4];omega
 |cons_cons a _ ih=>rw [x4,x4];omega
theorem Yf {α:Type}(L:List α) (a b:Option Int):(zY L a b).Sublist L:=(List.take_sublist _ _).trans (List.drop_sublist _ _)
theorem yZ {α β:Type}(f:α->β) (L:List α) (a b:Option Int):zY (L.map f) a b=(zY L a b).map f:=by
 unfold zY
 rw [List.length_map,List.map_take,List.map_drop]
theorem Vc {α β:Type}(f:α->β) (k:Int) (L:List α):yB k (L.map f)=(yB k L).map f:=by
 unfold yB
 split <;> simp
theorem Vd {α:Type}{k:Int}{L:List α}{x:α}:x∈yB k L↔x∈L:=by
 unfold yB
 split <;> simp
theorem Yg (k:Int) (L:List Str):wt (yB k L)=wt L:=by
 unfold yB wt
 split
 ·rw [List.map_reverse,List.sum_reverse]
 ·rfl
theorem UB {z:Str}(hz:okTx z) {L:List Str}(h:∀ x∈L,x∈Txt.split z nl) (hw:wt L≤3*(z.length+1)):okTx (Str.join nl L)/\(Str.join nl L).length≤3*z.length+3:=by
 refine⟨Ks fun x hx c hc=>hz c (vd (h x hx) hc),?_⟩
 have:=Uz L
 omega
def bentB (z t:Str):Prop:=okTx t/\t.length≤6*z.length+20
theorem xK (z:Str) (a b:Option Int):wt (zY (Txt.split z nl) a b)≤z.length+1:=Nat.le_trans (zfo (Yf _ a b)) (zbc z)
theorem xv {z x:Str}{a b:Option Int}(h:x∈zY (Txt.split z nl) a b):x∈Txt.split z nl:=(Yf _ a b).subset h
theorem Zu (z y:Str):1≤(Txt.split z y).length:=by
 unfold Txt.split
 split
 ·exact Nat.le_refl _
 ·split
  ·exact Nat.le_refl _
  ·rw [StrLaws.partsBetween_eq]
   obtain⟨p,r,e⟩:=StrLaws.partsFrom_ne z y.length 0 (Builtin.Str.occurrences z y 0 z.length (z.length+1))
   rw [e]
   simp
theorem xP (x y:Str):(x ++ y).length=x.length+y.length:=by
 show (x ++ y).cps.toList.length=x.cps.toList.length+y.cps.toList.length
 rw [zm,List.length_append]
inductive sBent (ws:List W) (O:OM) (R:WK):Prop
 |mk:∀ z:Str,∀ c:Int,ws=[.d (.str z),.d (.int c)]->okTx z->z.length≤110000->0≤c->c≤10000000->(∀ t,bentB z t->R (.d (.str t)) O)->sBent ws O R
theorem Zv {O:OM}(L:List Str):zD O (.d (.list (L.map .str)))=some (L.map yO):=by
 show some (List.map W.d (L.map PyData.str))=_
 rw [List.map_map]
 rfl
theorem zcc (L:List Str):(L.map (·.length)).sum+L.length=wt L:=by
 induction L with
 |nil=>rfl
 |cons z L ih=>rw [x4,List.map_cons,List.sum_cons,List.length_cons];omega
theorem xB {z:Str}(a b:Option Int):(zY ((Txt.split z nl).map PyData.str) a b).length≤z.length+1:=by
 rw [yZ,List.length_map]
 have h1:=(Yf (Txt.split z nl) a b).length_le
 have h2:=xJ z nl
 have nll:nl.length= 1:=rfl
 rw [nll] at h2
 omega
theorem zfp {k:Int}(h0:0≤k) (h1:k < 3):MulOk (Str.ofString "\n") k/\okTx (Txt.mul (Str.ofString "\n") k)/\(Txt.mul (Str.ofString "\n") k).length≤2:=by
 have e:k= 0\/k= 1\/k= 2:=by omega
 rcases e with rfl |rfl |rfl <;> exact⟨by unfold MulOk;decide +kernel,by unfold okTx;decide +kernel,by decide +kernel⟩
theorem zfq {k:Int}(h0:0≤k) (h1:k < 2):MulOk (Str.ofString "1:plain") k/\okTx (Txt.mul (Str.ofString "1:plain") k)/\(Txt.mul (Str.ofString "1:plain") k).length≤7:=by
 have e:k= 0\/k= 1:=by omega
 rcases e with rfl |rfl <;> exact⟨by unfold MulOk;decide +kernel,by unfold okTx;decide +kernel,by decide +kernel⟩
noncomputable def osL:List Str:=["plain","2:plain",":","3:","1:",", ","bold","fore"]
noncomputable def nsL:List Str:=["plain, 1:plain","1:plain, 1:plain",":0","03:","0:plain, 1:",",","bold bold","fore 0 fore"]
theorem Kt:((osL.zip nsL).all fun q=>decide (q.2.length≤6*q.1.length) && q.2.cps.toList.all fun c=>decide (32≤c/\c≤126/\c≠37))=true:=by decide +kernel
theorem zbd {i:Nat}{o n:Str}(h1:osL[i]? =some o) (h2:nsL[i]? =some n):n.length≤6*o.length/\∀ c∈n.cps.toList,yM c:=by
 have m:(o,n)∈osL.zip nsL:=by
  have e:(osL.zip nsL)[i]? =some (o,n):=by rw [List.getElem?_zip_eq_some];exact⟨h1,h2⟩
  exact List.mem_of_getElem? e
 have:=List.all_eq_true.1 Kt _ m
 rw [Bool.and_eq_true] at this
 exact⟨of_decide_eq_true this.1,fun c hc=>of_decide_eq_true (List.all_eq_true.1 this.2 c hc)⟩
theorem zfr {z o n:Str}(hz:okTx z) (h1:n.length≤6*o.length) (h2:∀ c∈n.cps.toList,yM c):okTx (Txt.replace z o n)/\(Txt.replace z o n).length≤6*z.length+20:=by
 have:=Vv (x:=z) h1
 exact⟨fun c hc=>(Kc hc).elim (hz c) fun q=>.inr (.inr (h2 c q)),by omega⟩
theorem zfs {k:Int}(h0:0≤k) (h1:k < 26):∃ x,atI (Str.ofString "abdlnoprtu :,0123456789~\n\t").cps.toList k=some x/\okTx ⟨#[x]⟩:=by
 have l:(Str.ofString "abdlnoprtu :,0123456789~\n\t").cps.toList.length= 26:=by decide +kernel
 have a:∀ x∈(Str.ofString "abdlnoprtu :,0123456789~\n\t").cps.toList,x= 10\/x= 9\/yM x:=by decide +kernel
 generalize (Str.ofString "abdlnoprtu :,0123456789~\n\t").cps.toList=L at l a ⊢
 obtain⟨n,rfl⟩:=Int.eq_ofNat_of_zero_le h0
 have hn:n < L.length:=by omega
 refine⟨L[n],yn (List.getElem?_eq_getElem hn),fun c hc=>?_⟩
 cases List.mem_singleton.1 hc
 exact a _ (List.getElem_mem hn)
theorem zf0 {T1 T2 T3 T4 T5 U:TSW}{D:EndsW}{ρ:WS}{O:OM}(J:WS->OM->Prop) (ht:∀ R:WS->OM->Prop,(∀ ρ' O',J ρ' O'->R ρ' O')->yV T1 (yV T2 (yV T3 (yV T4 T5))) { D with nx:=R } ρ O) (hu:∀ ρ' O',J ρ' O'->U D ρ' O'):yV T1 (yV T2 (yV T3 (yV T4 (yV T5 U)))) D ρ O:=ht (U D) hu
section
variable {P:Program}{w:World}{K:W.Frag}{mg:Str->Option Value}{base:Heap}{f:Addr}{fd:FuncData}{bw sw hf:Addr}{se bp bs bi ba un:Addr}
seal L2.PE L2.PS L2.PSs L2.PT L2.PA in
theorem VE (F:Fun K "_law_bent" "_law_bent" qb f fd) (T:Txt P w K mg bw sw hf):FnOk P w K mg base CX0 1 f fd ["_law_text_here","_law_cell"] (zd K sBent):=by
  have nd:=jD.nd
  apply F.okV jD (by rintro _ _ _ ⟨a,b,rfl,_⟩;rfl) (fun cdv A outer sh H E hr=>(zb (zh (i:=2) nd rfl (Or.inl rfl) (zS (K:=K) rfl PySem.F.plainAttrs_str PySem.F.slot_str_split PySem.F.type_str_split xG (pv 0) (QA.pa (qc zj qn))))
      (zb (zh (i:=3) nd rfl (Or.inl rfl) (zc zG (zc zT (pv 1) za) (zc zy (zk xj (by rfl) T.n_len (by rfl) (QA.pa (qc (pv 0) qn))) za)))
      (zb (zh (i:=4) nd rfl (Or.inl rfl) (zc zG (zc zT (pv 1) za) (zk (ye (K:=K) rfl) (by rfl) T.n_len (by rfl) (QA.pa (qc (pv 2) qn)))))
      (zb (zh (i:=5) nd rfl (Or.inl rfl) (zE Xj zj (zc zG (zc zT (pv 1) za) za) (fun _ _=>rfl)))
      (zb (zh (i:=6) nd rfl (Or.inl rfl) (zc zG (pv 1) za))
      (zb (zL (zq kP (pv 6) za (zt _)) (ze (zi (zc zX (zc zX (zH uk (pv 0) zW (zF (pv 3))) (pv 5)) (zH uk (pv 0) (zF (zc zy (pv 3) (y9 Yn (by rfl) T.n_int rfl (QA.pa (qc (ue yr (pv 6) za (zt _)) qn))))) zW)))) zw)
      (zb (zL (zq kP (pv 6) za (zt _)) (ze (zi (zc zX (zH uk (pv 0) zW (zF (pv 3))) (zH uk (pv 0) (zF (zc zy (pv 3) za)) zW)))) zw)
      (zb (zL (zq yr (pv 6) za (zt _)) (ze (zi (zS (K:=K) rfl PySem.F.plainAttrs_str PySem.F.slot_str_join PySem.F.type_str_join (yY (K:=K) rfl) zj (QA.pa (qc (zc (yT (K:=K) rfl) (zH (yg (K:=K) rfl) (pv 2) zW (zF (pv 4))) (zH (yg (K:=K) rfl) (pv 2) (zF (zc zy (pv 4) za)) zW)) qn))))) zw)
      (zb (zL (zq yr (pv 6) za (zt _)) (ze (zi (zS (K:=K) rfl PySem.F.plainAttrs_str PySem.F.slot_str_join PySem.F.type_str_join (yY (K:=K) rfl) zj (QA.pa (qc (zc (yT (K:=K) rfl) (zH (yg (K:=K) rfl) (pv 2) zW (zF (zc zy (pv 4) za))) (zH (yg (K:=K) rfl) (pv 2) (zF (pv 4)) zW)) qn))))) zw)
      (zb (zL (zq yr (pv 6) za (zt _)) (zb (zh (i:=7) nd rfl (Or.inl rfl) (zc (yT (K:=K) rfl) (YH (K:=K) rfl (zH (yg (K:=K) rfl) (pv 2) (zF (pv 4)) (zF (zc zy (pv 4) za))) (qy ut za)) (zH (yg (K:=K) rfl) (pv 2) (zF (zc zy (pv 4) za)) zW)))
      (ze (zi (zS (K:=K) rfl PySem.F.plainAttrs_str PySem.F.slot_str_join PySem.F.type_str_join (yY (K:=K) rfl) zj (QA.pa (qc (zc (yT (K:=K) rfl) (zH (yg (K:=K) rfl) (pv 2) zW (zF (pv 4))) (pv 7)) qn)))))) zw)
      (zb (zL (zq yr (pv 6) za (zt _)) (zb (zh (i:=7) nd rfl (Or.inl rfl) (zc (yT (K:=K) rfl) (zH (yg (K:=K) rfl) (pv 2) zW (zF (pv 4))) (zH (yg (K:=K) rfl) (pv 2) (zF (zc zy (pv 4) za)) zW)))
      (ze (zi (zS (K:=K) rfl PySem.F.plainAttrs_str PySem.F.slot_str_join PySem.F.type_str_join (yY (K:=K) rfl) zj (QA.pa (qc (zc (yT (K:=K) rfl) (pv 7) (zH (yg (K:=K) rfl) (pv 2) (zF (pv 4)) (zF (zc zy (pv 4) za)))) qn)))))) zw)
      (zb (zL (zq yr (pv 6) za (zt _)) (ze (zi (zc zX (zc zX (pv 0) (zc VY zj (zc zG (zc zT (pv 1) za) za))) (zc VY zj (zc zG (zc zT (pv 1) za) za))))) zw)
      (zb (zL (zq yr (pv 6) za (zt _)) (ze (zi (zH uk (pv 0) zW (zF (zc kO (qy ut za) (zc zG (zc zT (pv 1) za) za)))))) zw)
      (za3 (iw:=6) (it:=0) (io:=8) (iq:=9) nd rfl rfl rfl rfl rfl rfl rfl rfl rfl rfl rfl rfl (by decide +kernel) (by decide +kernel) (by decide) (by decide) (ze (zi (zc zX (zS (K:=K) rfl PySem.F.plainAttrs_str PySem.F.slot_str_join PySem.F.type_str_join (yY (K:=K) rfl) zj (QA.pa (qc (YH (K:=K) rfl (zH (yg (K:=K) rfl) (pv 2) zW (zF (zc zT (zk (ye (K:=K) rfl) (by rfl) T.n_len (by rfl) (QA.pa (qc (pv 2) qn))) za))) (zc kO za (zc yF za (zc zG (zc zT (pv 1) za) za)))) qn))) zj))) (zc zT (pv 1) za) (zc zT (pv 1) za))))))))))))))))
  · walk_at "ref"
  rintro _ O R ⟨z,c,rfl,hz,zl,c0,c1,h⟩
  have en:Str.ofString "\n" =nl:=rfl
  have sc:=xJ z nl
  have s1:=Zu z nl
  have nll:nl.length= 1:=rfl
  rw [nll] at sc
  refine zf0 (fun ρ' O'=>Ex3 fun (at_ pl:Int) (s:Str)=>An8 (0≤at_) (at_≤z.length) (0≤pl) (pl < (Txt.split z nl).length) (okTx s) (s.length= 1) (ρ'=[some (.d (.str z)),some (.d (.int c)),some (.d (.list ((Txt.split z nl).map .str))),some (.d (.int at_)),some (.d (.int pl)),some (.d (.str s)),some (.d (.int (c%16))),none,none,none]) (O=O')) (fun R1 hR1=>?_) ?_
  · walk_at "wd"
    obtain⟨x,hx,ox⟩:=zfs (k:=c / 4096%26) (by omega) (by omega)
    rw [en]
    refine⟨.inr (.inl ⟨rfl,_,rfl⟩),by decide,by omega,⟨by omega,by decide⟩,by rw [sizeLine_eq];omega,⟨by omega,by decide⟩,(Txt.split z nl).length,by rw [yJ,List.length_map],by omega,⟨by omega,by decide⟩,by decide +kernel,x,hx,hR1 _ _ ⟨_,_,_,?_,?_,?_,?_,ox,rfl,rfl,rfl⟩⟩
    · exact Int.emod_nonneg _ (by omega)
    · have:=Int.emod_lt_of_pos (c / 16) (b:=(z.length:Int)+1) (by omega)
      omega
    · exact Int.emod_nonneg _ (by omega)
    · exact Int.emod_lt_of_pos _ (by omega)
  rintro _ _ ⟨at_,pl,s,a0,a1,p0,p1,hs,sl,rfl,rfl⟩
  have sz:=sizeLine_eq
  have sle:=fun l u=>Txt.slice_le z l u
  have fin:∀ t,okTx t->t.length≤6*z.length+20->R (.d (.str t)) O:=fun t h1 h2=>h t ⟨h1,h2⟩
  have mid:∀ l u v y,(Txt.slice z l u ++ s ++ Txt.slice z v y).length≤6*z.length+20:=fun l u v y=>by
    have:=sle l u
    have:=sle v y
    rw [xP,xP]
    omega
  have J:∀ L:List Str,(∀ x∈L,x∈Txt.split z nl)->wt L≤3*(z.length+1)->(L.map (·.length)).sum+L.length≤1048576/\R (.d (.str (Txt.join nl L))) O:=fun L h1 h2=>by
    obtain⟨b1,b2⟩:=UB hz h1 h2
    rw [xA]
    exact⟨by rw [zcc];omega,fin _ b1 (by omega)⟩
  refine zN (fun ρ' O'=>ρ'=[some (.d (.str z)),some (.d (.int c)),some (.d (.list ((Txt.split z nl).map .str))),some (.d (.int at_)),some (.d (.int pl)),some (.d (.str s)),some (.d (.int (c%16))),none,none,none]/\O=O') (fun R1 hR1=>?_) ?_
  · walk_at "wd"
    split
    · refine⟨by omega,?_,by omega,?_,.inl (fin _ (vB (vB (vf hz) hs) (vf hz)) (mid _ _ _ _))⟩
      · have:=sle none (some at_);omega
      · rw [xP]
        have:=sle none (some at_)
        have:=sle (some (at_+if c%16 = 1 then 1 else 0)) none
        omega
    · exact hR1 _ _ ⟨rfl,rfl⟩
  rintro _ _ ⟨rfl,rfl⟩
  refine zN (fun ρ' O'=>ρ'=[some (.d (.str z)),some (.d (.int c)),some (.d (.list ((Txt.split z nl).map .str))),some (.d (.int at_)),some (.d (.int pl)),some (.d (.str s)),some (.d (.int (c%16))),none,none,none]/\O=O') (fun R1 hR1=>?_) ?_
  · walk_at "wd"
    split
    · have:=sle none (some at_)
      have:=sle (some (at_+1)) none
      exact⟨by omega,by omega,.inl (fin _ (vB (vf hz) (vf hz)) (by rw [xP];omega))⟩
    · exact hR1 _ _ ⟨rfl,rfl⟩
  rintro _ _ ⟨rfl,rfl⟩
  refine zN (fun ρ' O'=>ρ'=[some (.d (.str z)),some (.d (.int c)),some (.d (.list ((Txt.split z nl).map .str))),some (.d (.int at_)),some (.d (.int pl)),some (.d (.str s)),some (.d (.int (c%16))),none,none,none]/\O=O') (fun R1 hR1=>?_) ?_
  · walk_at "wd"
    rw [en]
    split
    · have c1:=xK z none (some pl)
      have c2:=xK z (some (pl+1)) none
      have l1:=xB (z:=z) none (some pl)
      have l2:=xB (z:=z) (some (pl+1)) none
      obtain⟨j1,j2⟩:=J (zY (Txt.split z nl) none (some pl) ++ zY (Txt.split z nl) (some (pl+1)) none) (fun x hx=>(List.mem_append.1 hx).elim xv xv) (by rw [qu];omega)
      exact⟨.inr (.inl ⟨rfl,_,rfl⟩),_,rfl,_,zf _,_,rfl,_,zf _,_,rfl,_,rfl,_,zf _,_,zf _,by omega,_,by rw [yZ,yZ,<- List.map_append];exact Zv _,by decide,j1,.inl j2⟩
    · exact hR1 _ _ ⟨rfl,rfl⟩
  rintro _ _ ⟨rfl,rfl⟩
  refine zN (fun ρ' O'=>ρ'=[some (.d (.str z)),some (.d (.int c)),some (.d (.list ((Txt.split z nl).map .str))),some (.d (.int at_)),some (.d (.int pl)),some (.d (.str s)),some (.d (.int (c%16))),none,none,none]/\O=O') (fun R1 hR1=>?_) ?_
  · walk_at "wd"
    rw [en]
    split
    · have c1:=xK z none (some (pl+1))
      have c2:=xK z (some pl) none
      have l1:=xB (z:=z) none (some (pl+1))
      have l2:=xB (z:=z) (some pl) none
      obtain⟨j1,j2⟩:=J (zY (Txt.split z nl) none (some (pl+1)) ++ zY (Txt.split z nl) (some pl) none) (fun x hx=>(List.mem_append.1 hx).elim xv xv) (by rw [qu];omega)
      exact⟨.inr (.inl ⟨rfl,_,rfl⟩),_,rfl,_,zf _,_,rfl,_,zf _,_,rfl,_,rfl,_,zf _,_,zf _,by omega,_,by rw [yZ,yZ,<- List.map_append];exact Zv _,by decide,j1,.inl j2⟩
    · exact hR1 _ _ ⟨rfl,rfl⟩
  rintro _ _ ⟨rfl,rfl⟩
  refine zN (fun ρ' O'=>ρ'=[some (.d (.str z)),some (.d (.int c)),some (.d (.list ((Txt.split z nl).map .str))),some (.d (.int at_)),some (.d (.int pl)),some (.d (.str s)),some (.d (.int (c%16))),none,none,none]/\O=O') (fun R1 hR1=>?_) ?_
  · walk_at "wd"
    rw [en]
    split
    · have c1:=xK z (some pl) (some (pl+2))
      have c2:=xK z (some (pl+2)) none
      have c3:=xK z none (some pl)
      have l1:=xB (z:=z) (some pl) (some (pl+2))
      have l2:=xB (z:=z) (some (pl+2)) none
      have l3:=xB (z:=z) none (some pl)
      obtain⟨j1,j2⟩:=J (zY (Txt.split z nl) none (some pl) ++ (yB (-1) (zY (Txt.split z nl) (some pl) (some (pl+2))) ++ zY (Txt.split z nl) (some (pl+2)) none)) (fun x hx=>(List.mem_append.1 hx).elim xv fun hx=>(List.mem_append.1 hx).elim (fun hx=>xv (Vd.1 hx)) xv) (by rw [qu,qu,Yg];omega)
      refine⟨_,rfl,_,zf _,_,rfl,_,rfl,_,zf _,_,rfl,_,rfl,_,zf _,_,zf _,by rw [jn];omega,.inr (.inl ⟨rfl,_,rfl⟩),_,rfl,_,zf _,_,rfl,_,rfl,_,zf _,_,zf _,by rw [List.length_append,jn];omega,_,?_,by decide,j1,.inl j2⟩
      rw [yZ,yZ,yZ,Vc,<- List.map_append,<- List.map_append]
      exact Zv _
    · exact hR1 _ _ ⟨rfl,rfl⟩
  rintro _ _ ⟨rfl,rfl⟩
  refine zN (fun ρ' O'=>ρ'=[some (.d (.str z)),some (.d (.int c)),some (.d (.list ((Txt.split z nl).map .str))),some (.d (.int at_)),some (.d (.int pl)),some (.d (.str s)),some (.d (.int (c%16))),none,none,none]/\O=O') (fun R1 hR1=>?_) ?_
  · walk_at "wd"
    rw [en]
    split
    · have c1:=xK z none (some pl)
      have c2:=xK z (some (pl+1)) none
      have c3:=xK z (some pl) (some (pl+1))
      have l1:=xB (z:=z) none (some pl)
      have l2:=xB (z:=z) (some (pl+1)) none
      have l3:=xB (z:=z) (some pl) (some (pl+1))
      obtain⟨j1,j2⟩:=J ((zY (Txt.split z nl) none (some pl) ++ zY (Txt.split z nl) (some (pl+1)) none) ++ zY (Txt.split z nl) (some pl) (some (pl+1))) (fun x hx=>(List.mem_append.1 hx).elim (fun hx=>(List.mem_append.1 hx).elim xv xv) xv) (by rw [qu,qu];omega)
      refine⟨_,rfl,_,zf _,_,rfl,_,zf _,_,rfl,_,rfl,_,zf _,_,zf _,by omega,.inr (.inl ⟨rfl,_,rfl⟩),_,rfl,_,zf _,_,rfl,_,rfl,_,zf _,_,zf _,by rw [List.length_append];omega,_,?_,by decide,j1,.inl j2⟩
      rw [yZ,yZ,yZ,<- List.map_append,<- List.map_append]
      exact Zv _
    · exact hR1 _ _ ⟨rfl,rfl⟩
  rintro _ _ ⟨rfl,rfl⟩
  refine zN (fun ρ' O'=>ρ'=[some (.d (.str z)),some (.d (.int c)),some (.d (.list ((Txt.split z nl).map .str))),some (.d (.int at_)),some (.d (.int pl)),some (.d (.str s)),some (.d (.int (c%16))),none,none,none]/\O=O') (fun R1 hR1=>?_) ?_
  · walk_at "wd"
    split
    · obtain⟨m1,m2,m3⟩:=zfp (k:=c / 16%3) (by omega) (by omega)
      obtain⟨q1,q2,q3⟩:=zfq (k:=c / 48%2) (by omega) (by omega)
      refine⟨⟨by omega,by decide⟩,m1,by omega,⟨by omega,by decide⟩,q1,by rw [xP];omega,.inl (fin _ (vB (vB hz m2) q2) (by rw [xP,xP];omega))⟩
    · exact hR1 _ _ ⟨rfl,rfl⟩
  rintro _ _ ⟨rfl,rfl⟩
  refine zN (fun ρ' O'=>ρ'=[some (.d (.str z)),some (.d (.int c)),some (.d (.list ((Txt.split z nl).map .str))),some (.d (.int at_)),some (.d (.int pl)),some (.d (.str s)),some (.d (.int (c%16))),none,none,none]/\O=O') (fun R1 hR1=>?_) ?_
  · walk_at "wd"
    split
    · have:=sle none (some (-1 - c / 16%3))
      exact⟨⟨by omega,by decide⟩,by omega,.inl (fin _ (vf hz) (by omega))⟩
    · exact hR1 _ _ ⟨rfl,rfl⟩
  rintro _ _ ⟨rfl,rfl⟩
  unfold ze9
  walk_at "wd"
  rw [en]
  refine⟨by omega,?_⟩
  split
  · have c1:=xK z none (some (((Txt.split z nl).length:Int) / 2))
    have hk:1 - 2*(c / 16%2)= 1\/1 - 2*(c / 16%2)= -1:=by omega
    obtain⟨j1,j2⟩:=UB hz (L:=yB (1 - 2*(c / 16%2)) (zY (Txt.split z nl) none (some (((Txt.split z nl).length:Int) / 2)))) (fun x hx=>xv (Vd.1 hx)) (by rw [Yg];omega)
    refine⟨.inr (.inl ⟨rfl,_,rfl⟩),(Txt.split z nl).length,by rw [yJ,List.length_map],⟨by omega,by decide⟩,_,rfl,_,zf _,⟨by omega,by decide⟩,mulR (by omega) (by omega),_,rfl,hk,yB (1 - 2*(c / 16%2)) (zY (Txt.split z nl) none (some (((Txt.split z nl).length:Int) / 2))),?_,by decide,?_,?_,.inl ?_⟩
    · rw [yZ,Vc]
      exact Zv _
    · rw [zcc,Yg]
      omega
    · rw [xA]
      show _+1≤_
      omega
    · rw [xA]
      refine fin _ (vB j1 fun x hx=>.inl (List.mem_singleton.1 hx)) ?_
      rw [xP,nll]
      omega
  · refine⟨⟨by omega,by decide⟩,.inl (fin z hz (by omega)),fun i o n x p e1 x2 p2 e2=>.inl ?_⟩
    have q1:=congrArg (Option.map (·.1)) e1
    have q2:=congrArg (Option.map (·.1)) e2
    rw [<- List.getElem?_map] at q1 q2
    obtain⟨b1,b2⟩:=zbd (i:=i) (o:=o) (n:=n) q1 q2
    obtain⟨b3,b4⟩:=zfr hz b1 b2
    exact fin _ b3 b4
end
theorem zbe {z:Str}{a:Nat}:Txt.slice z (some (a:Int)) none=zb9 z a:=by
 by_cases h:a≤z.length
 ·exact yG (V1 h)
 ·have e:Builtin.Str.strSliceIndices (some (a:Int)) none 1 z.length=Builtin.Str.strSliceIndices (some (z.length:Int)) none 1 z.length:=by
   unfold Builtin.Str.strSliceIndices
   have h1:¬ ((a:Int) < 0):=by omega
   have h2:¬ ((z.length:Int) < 0):=by omega
   have h3:(1:Int) > 0:=by decide
   simp only [h1,h2,h3,if_false,if_true]
   have:min (a:Int) (z.length:Int)=min (z.length:Int) (z.length:Int):=by omega
   rw [this]
  have e2:Txt.slice z (some (a:Int)) none=Txt.slice z (some (z.length:Int)) none:=by
   unfold Txt.slice
   rw [e]
  apply yG
  rw [e2,V1 (Nat.le_refl _)]
  show z.cps.toList.drop z.length=z.cps.toList.drop a
  have l:z.cps.toList.length=z.length:=rfl
  rw [List.drop_of_length_le (by omega),List.drop_of_length_le (by omega)]
theorem zbf:∀ n:_root_.Fin 24,intText? (yP (n.val+1))=some ((n.val+1:Nat):Int):=by decide +kernel
theorem zdD {z:Str}(h:z∈vc):intText? z=some (ZZ z:Int)/\z.length≤640:=by
 obtain⟨n,n1,n2,e,en⟩:=jl h
 rw [en,e]
 obtain⟨m,rfl⟩:∃ m,n=m+1:=⟨n - 1,by omega⟩
 have a:=(uo ⟨m+1,by omega⟩).2.1
 exact⟨zbf ⟨m,by omega⟩,Nat.le_trans a (by decide)⟩
noncomputable def lineD:Option Rw6->PyData
 |none=>.none
 |some r=>.list (r.map zp)
noncomputable def qQ:Option Int->PyData
 |none=>.none
 |some i=>.int i
theorem Ku {x told:Str}(h:yc (Txt.split told zI) [] none=none):lawLine x told=none:=by
 unfold lawLine
 rw [h]
theorem Kv (t:Str):atI ((((Txt.split t zz).map PyData.str ++ [PyData.str (Str.ofString "")])).map W.d) 0 =some (.d (.str (zV t))):=by
 refine yn (j:=0) ?_
 unfold zV
 cases Txt.split t zz with
 |nil=>rfl
 |cons a l=>rfl
theorem zbg (t:Str):(zV t).length≤t.length:=by
 unfold zV
 cases e:Txt.split t zz with
 |nil=>exact Nat.zero_le _
 |cons a l=>exact xx (sep:=zz) (by rw [e];exact List.mem_cons_self)
noncomputable def FC:W->Option PyData:=fun w=>match w with |.d (.int i)=>some (.str (Str.ofString i.repr)) |_=>none
theorem QQ:List.filterMap (FC ∘ fun k:Nat=>W.d (.int (1+(k:Int)))) (List.range 24)=vc.map PyData.str:=by
  rw [<- List.filterMap_map,xq (List.range 24) (fun k:Nat=>W.d (.int (1+(k:Int)))) FC (fun k=>.str (yP (k+1))) (fun k=>by
    show some (PyData.str (Str.ofString (1+(k:Int)).repr))=_
    rw [show (1+(k:Int))=((k+1:Nat):Int) by omega]
    rfl)]
  unfold vc
  rw [List.map_map]
  rfl
theorem Yh {z:Str}:∀ {L:List Str},inV (V.str z) ((L.map PyData.str).map vOf)=true↔z∈L
 |[]=>by simp [inV]
 |a :: L=>by
  have ih:=Yh (z:=z) (L:=L)
  unfold inV at ih ⊢
  rw [List.map_cons,List.map_cons,List.any_cons,Bool.or_eq_true,ih,List.mem_cons]
  have:eqV (vOf (.str a)) (V.str z)=true↔z=a:=by
   simp [eqV,vOf]
   exact eq_comm
  rw [this]
theorem Ve (n:Nat) (k:Int):xV (n:Int) [PyData.int k]=(List.replicate n k).map PyData.int:=by
 unfold xV
 rw [Int.toNat_natCast,List.map_replicate]
 induction n with
 |zero=>rfl
 |succ n ih=>rw [List.replicate_succ,List.replicate_succ,List.flatten_cons,ih];rfl
theorem Kw {cs:List Nat}{found:List Int}{n:Nat}(h1:cs.length=n) (h2:found.length=n):((List.range n).map fun a=>zp (sgn (cs.getD a 0),found.getD a 0))=(List.zipWith (fun k i=>(sgn k,i)) cs found).map zp:=by
 apply List.ext_getElem?
 intro i
 rw [List.getElem?_map,List.getElem?_map,List.getElem?_zipWith]
 by_cases h:i < n
 ·rw [List.getElem?_range h,List.getElem?_eq_getElem (show i < cs.length by omega),List.getElem?_eq_getElem (show i < found.length by omega)]
  simp only [Option.map_some]
  rw [List.getD_eq_getElem?_getD,List.getD_eq_getElem?_getD,List.getElem?_eq_getElem (show i < cs.length by omega),List.getElem?_eq_getElem (show i < found.length by omega)]
  rfl
 ·rw [List.getElem?_eq_none (by simpa using h),List.getElem?_eq_none (show cs.length≤i by omega)]
  rfl
inductive sLine (ws:List W) (O:OM) (R:WK):Prop
 |mk:∀ x told:Str,ws=[.d (.str x),.d (.str told)]->okTx x->okTx told->x.length≤700000->told.length≤700000->R (.d (lineD (lawLine x told))) O->sLine ws O R
theorem UC {n:Nat}:∀ {ds:List PyData},(∀ d∈ds,PyData.canLay0 d=true/\PyData.depth d≤n/\PyData.eqv d d=true)->PyData.canLayAll0 ds=true/\PyData.depthAll ds≤n/\PyData.eqvAll ds ds=true
 |[],_=>by simp [PyData.canLayAll0,PyData.depthAll,PyData.eqvAll]
 |d :: ds,h=>by
  obtain⟨a1,a2,a3⟩:=h d List.mem_cons_self
  obtain⟨b1,b2,b3⟩:=UC (n:=n) (ds:=ds) fun x hx=>h x (List.mem_cons_of_mem _ hx)
  simp [PyData.canLayAll0,PyData.depthAll,PyData.eqvAll,a1,a3,b1,b3]
  omega
theorem Vf {n:Nat}{ds:List PyData}(h:∀ d∈ds,PyData.canLay0 d=true/\PyData.depth d≤n/\PyData.eqv d d=true):PyData.canLay0 (.list ds)=true/\PyData.depth (.list ds)≤n+1/\PyData.eqv (.list ds) (.list ds)=true:=by
 obtain⟨a,b,c⟩:=UC h
 simp [PyData.canLay0,PyData.depth,PyData.eqv,a,c]
 omega
theorem zbh {d:PyData}(h:cellD d=true):PyData.canLay0 d=true/\PyData.depth d≤3/\PyData.eqv d d=true:=by
 unfold cellD at h
 split at h
 ·rename_i a b
  rw [Bool.and_eq_true] at h
  obtain⟨h1,h2⟩:=h
  cases a <;> try cases h1
  cases b <;> try cases h2
  rename_i z i
  simp only [signD,Bool.and_eq_true,decide_eq_true_eq] at h1
  obtain⟨c,rfl⟩:=Z5 h1.1.1
  have hc:c≤126:=h1.1.2.2
  have:PyData.strOk ⟨#[c]⟩=true:=by
   unfold PyData.strOk
   simp
   omega
  simp [PyData.canLay0,PyData.canLayAll0,PyData.depth,PyData.depthAll,PyData.eqv,PyData.eqvAll,this]
 ·cases h
theorem kJ {rows:List (List PyData)}(h:∀ r∈rows,r.all cellD=true):SeqAt.shaped (pd rows)=true/\PyData.eqv (pd rows) (pd rows)=true:=by
 obtain⟨a,b,c⟩:=Vf (n:=4) (ds:=rows.map PyData.list) fun d hd=>by
  obtain⟨r,hr,rfl⟩:=List.mem_map.1 hd
  exact Vf fun x hx=>zbh (List.all_eq_true.1 (h r hr) x hx)
 refine⟨?_,c⟩
 unfold SeqAt.shaped
 rw [Bool.and_eq_true]
 exact⟨a,decide_eq_true (by show PyData.depth (.list _)≤64;omega)⟩
theorem Vg {α:Type}{l:List α}{x:α}:atI (l ++ [x]) (-1)=some x:=by
 unfold atI ixN
 rw [if_neg (by decide)]
 simp only [List.length_append,List.length_cons,List.length_nil]
 rw [if_pos (by omega),Option.bind_some,show ((-1:Int)+((l.length+(0+1):Nat):Int)).toNat=l.length by omega,List.getElem?_append_right (Nat.le_refl _),Nat.sub_self]
 rfl
theorem zft (t:Str):inT t (Str.ofString "\t")=decide (9∈t.cps.toList):=StrLaws.found_one t 9
theorem Vh {r:Rw6}(h:okW r) (h2:Z1 r):(r.map zp).all cellD=true:=List.all_eq_true.2 fun d hd=>by
 obtain⟨c,hc,rfl⟩:=List.mem_map.1 hd
 obtain⟨k,k1,k2,ek⟩:=h.2.2.1 c hc
 have i:=h.2.2.2 c hc
 have n37:=h2 c hc
 show (signD (.str c.1) && inkD (.int c.2))=true
 rw [ek] at n37 ⊢
 have k37:k≠37:=fun z=>n37 (by rw [z];rfl)
 simp [signD,inkD,wholeD,Str.length]
 omega
noncomputable def FL (n:Nat):W->Option PyData:=fun w=>match w with |.d (.list cs)=>if cs.length=n then none else some (.list cs) |_=>none
theorem Kx (n:Nat):∀ ps:List Rw6,(ps.map (W.d ∘ fun r=>PyData.list (r.map zp))).filterMap (FL n)=(ps.filter fun r=>decide (r.length≠n)).map fun r=>PyData.list (r.map zp)
 |[]=>rfl
 |r :: ps=>by
  have ih:=Kx n ps
  rw [List.map_cons,List.filterMap_cons,List.filter_cons,ih]
  have ef:FL n ((W.d ∘ fun r=>PyData.list (r.map zp)) r)=if r.length=n then none else some (PyData.list (r.map zp)):=by
   show (if (r.map zp).length=n then none else some (PyData.list (r.map zp)))=_
   rw [List.length_map]
  rw [ef]
  by_cases e:r.length=n
  ·rw [if_pos e,if_neg (by simpa using e)]
  ·rw [if_neg e,if_pos (decide_eq_true e)]
   rfl
noncomputable def readD:Option Pc->PyData
 |none=>.none
 |some p=>pd (rowsP p)
inductive sRead (ws:List W) (O:OM) (R:WK):Prop
 |mk:∀ t:Str,ws=[.d (.str t)]->okTx t->t.length≤700000->R (.d (readD (lawRead t))) O->sRead ws O R
section
variable {P:Program}{w:World}{K:W.Frag}{mg:Str->Option Value}{base:Heap}{f:Addr}{fd:FuncData}{bw sw hf:Addr}{se bp bs bi ba un:Addr}
theorem VF (F:Fun K "_law_line" "_law_line" qd f fd) (T:Txt P w K mg bw sw hf) (zg3:Cal P w K mg base 1 "_law_ink" [] (zd K sInkL)):FnOk P w K mg base CX0 2 f fd ["_law_signs","_law_told"] (zd K sLine):=by
  have nd:=jE.nd
  apply F.okV jE (by rintro _ _ _ ⟨a,b,rfl,_⟩;rfl) (fun cdv A outer sh H E hr=>(zb (zh (i:=2) nd rfl (Or.inr rfl) (zR qn))
      (zb (zh (i:=3) nd rfl (Or.inl rfl) xE)
      (zb (y7 PassesOwn.never rfl (z7 (K:=K) rfl (zS (K:=K) rfl PySem.F.plainAttrs_str PySem.F.slot_str_split PySem.F.type_str_split xG (pv 1) (QA.pa (qc zj qn)))) (zv (i:=4) nd rfl (Or.inl rfl))
      (zb (zh (i:=5) nd rfl (Or.inl rfl) (zE (zZ (K:=K) rfl) (zc (yT (K:=K) rfl) (zS (K:=K) rfl PySem.F.plainAttrs_str PySem.F.slot_str_split PySem.F.type_str_split xG (pv 4) (QA.pa (qc zj qn))) (zR (qc zj qn))) za (fun _ _=>rfl)))
      (zb (zh (i:=6) nd rfl (Or.inl rfl) (zr zg3 (hr.mono (by decide)) rfl (QA.pa (qc (zH uk (pv 4) (zF (zc zy (zk xj (by rfl) T.n_len (by rfl) (QA.pa (qc (pv 5) qn))) za)) zW) qn))))
      (zb (zL (PW.pt (yQ (zq Q0 (pv 6) xE (zt _)) (yQ (zq yr (pv 6) (pv 3) (zt _)) (yQ (zq (zap (K:=K) rfl) (pv 5) (xa (xk (N:=["_law_k"]) (n:=1) (js:=[])) rfl (qZ rfl T.n_range (QA.pa (qc za (qc za qn)))) (fun _ _ _ _=>(zv (i:=0) (show List.Nodup (["_law_k"]:List Str) by decide +kernel) rfl (Or.inl rfl))) (fun _ _ _ _=>yx) (fun _ _ _ _=>(y9 vR (by rfl) T.n_str rfl (QA.pa (qc (pv 0) qn))))) (by with_unfolding_all rfl)) (xi (zq yr (pv 4) (pv 5) (zt _))))))) (ze (zi xE)) zw)
      (zb (zh (i:=2) nd rfl (Or.inr rfl) (zc (yT (K:=K) rfl) (pv 2) (zc (jS (K:=K) rfl) (zR (qc (pv 6) qn)) (y9 Yz (by rfl) T.n_int rfl (QA.pa (qc (pv 5) qn))))))
      (ze (zh (i:=3) nd rfl (Or.inl rfl) (pv 6))))))))
      (zb (zL (PW.pt (yQ (zq x6 (zk (ye (K:=K) rfl) (by rfl) T.n_len (by rfl) (QA.pa (qc (pv 2) qn))) (zk xj (by rfl) T.n_len (by rfl) (QA.pa (qc (pv 0) qn))) (zt _)) (xi (yK (Xe jK jK za (zk xj (by rfl) T.n_len (by rfl) (QA.pa (qc (pv 0) qn))) za))))) (ze (zi xE)) zw)
      (ze (zi (xa (xk (N:=["_law_k","_law_signs","_law_found"]) (n:=1) (js:=[0,2])) rfl (y6 rfl T.n_range (QA.pa (qc (zk xj (by rfl) T.n_len (by rfl) (QA.pa (qc (pv 0) qn))) qn))) (fun _ _ _ _=>(zv (i:=0) (show List.Nodup (["_law_k","_law_signs","_law_found"]:List Str) by decide +kernel) rfl (Or.inl rfl))) (fun _ _ _ _=>yx) (fun _ _ _ _=>(yR (qc (zE Xj (pv 1) (pv 0) (fun _ _=>rfl)) (qc (zE (zZ (K:=K) rfl) (pv 2) (pv 0) (fun _ _=>rfl)) qn))))))))))))
  · walk_at "ref"
  rintro _ O R ⟨x,told,rfl,hx,ht,xl,tl,h⟩
  have ec:Str.ofString ", " =zI:=rfl
  have cnt:=xJ told zI
  have cl:zI.length= 2:=rfl
  rw [cl] at cnt
  refine ub (fun ρ' O'=>ρ'=[some (.d (.str x)),some (.d (.str told)),some (.d (.list [])),some (.d .none),none,none,none]/\O=O') (fun R1 hR1=>?_) ?_
  · walk_at "wd"
    exact hR1 _ _ ⟨rfl,rfl⟩
  rintro _ _ ⟨rfl,rfl⟩
  refine zN (fun ρ' O'=>Ex5 fun found v3 v4 v5 v6=>An4 (yc (Txt.split told zI) [] none=some found) (found.length≤10000000) (ρ'=[some (.d (.str x)),some (.d (.str told)),some (.d (.list (found.map .int))),v3,v4,v5,v6]) (O=O')) (fun R1 hR1=>?_) ?_
  · walk_at "wd"
    rw [ec]
    refine⟨.inr (.inl ⟨rfl,_,rfl⟩),by decide,by omega,_,rfl,?_⟩
    refine yN.by (fun i ρ O'=>Ex5 fun found last v4 v5 v6=>An5 (yc (Txt.split told zI) [] none=yc ((Txt.split told zI).drop i) found last) (found.length≤24*i) (i≤(Txt.split told zI).length) (ρ=[some (.d (.str x)),some (.d (.str told)),some (.d (.list (found.map .int))),some (.d (qQ last)),v4,v5,v6]) (O=O')) ⟨[],none,_,_,_,rfl,Nat.le_refl _,Nat.zero_le _,rfl,rfl⟩ (fun _ _ _ _=>rfl) ?_ ?_
    · rintro i w _ O' hw ⟨found,last,v4,v5,v6,el,fl,il,rfl,rfl⟩ R2 hR2
      rw [List.getElem?_map,List.getElem?_map] at hw
      cases htt:(Txt.split told zI)[i]? with
      |none=>rw [htt] at hw;cases hw
      |some t=>
        rw [htt] at hw
        cases hw
        obtain⟨il',eti⟩:=List.getElem?_eq_some_iff.1 htt
        have ed:(Txt.split told zI).drop i=t :: (Txt.split told zI).drop (i+1):=by rw [<- eti];exact List.drop_eq_getElem_cons il'
        have tm:=List.mem_of_getElem? htt
        have tl2:=xx tm
        have fp:=zbg t
        have sc:=xJ t zz
        have col:zz.length= 1:=rfl
        rw [col] at sc
        have eo:Str.ofString ":" =zz:=rfl
        have nz:yc (Txt.split told zI) [] none=none->Clo R (.d .none) O:=fun e=>by
          rw [Ku e] at h
          exact .inl h
        simp only [x8]
        refine zN (fun ρ' O'=>ρ'=[some (.d (.str x)),some (.d (.str told)),some (.d (.list (found.map .int))),some (.d (qQ last)),some (.d (.str t)),some (.d (.str (zV t))),v6]/\O=O') (fun R3 hR3=>?_) ?_
        · walk_at "wd"
          rw [eo]
          exact⟨.inr (.inl ⟨rfl,_,rfl⟩),by decide,by omega,_,rfl,_,rfl,_,zf _,_,rfl,by rw [List.length_map];show _+1≤_;omega,_,rfl,_,Kv t,hR3 _ _ ⟨rfl,rfl⟩⟩
        rintro _ _ ⟨rfl,rfl⟩
        refine zN (fun ρ' O'=>ρ'=[some (.d (.str x)),some (.d (.str told)),some (.d (.list (found.map .int))),some (.d (qQ last)),some (.d (.str t)),some (.d (.str (zV t))),some (.d (optD (lawInk (vF t))))]/\O=O') (fun R3 hR3=>?_) ?_
        · walk_at "wd"
          have er:Txt.slice t (some (((zV t).length:Int)+1)) none=vF t:=zbe (a:=(zV t).length+1)
          have rl:(vF t).length≤t.length:=by rw [<- er];exact Txt.slice_le _ _ _
          refine⟨by rw [sizeLine_eq];omega,by rw [sizeLine_eq];omega,?_⟩
          rw [er]
          exact⟨_,rfl,⟨by omega,fun c hc=>X7 (fun c hc=>ht c (vd tm (by rw [<- er] at hc;exact Uy hc))) hc⟩,hR3 _ _ ⟨rfl,rfl⟩⟩
        rintro _ _ ⟨rfl,rfl⟩
        rw [ed] at el
        cases hk:lawInk (vF t) with
        |none=>
          have e0:yc (Txt.split told zI) [] none=none:=by rw [el];simp only [yc,hk]
          simp only [optD]
          walk_at "wd"
          exact nz e0
        |some k=>
          simp only [optD]
          refine zN (fun ρ' O'=>An5 (some (k:Int)≠last) (zV t∈vc) (t≠zV t) (ρ'=[some (.d (.str x)),some (.d (.str told)),some (.d (.list (found.map .int))),some (.d (qQ last)),some (.d (.str t)),some (.d (.str (zV t))),some (.d (.int (k:Nat)))]) (O=O')) (fun R3 hR3=>?_) ?_
          · have e0:∀ (q:some (k:Int)=last\/zV t ∉ vc\/t=zV t),yc (Txt.split told zI) [] none=none:=fun q=>by
              rw [el]
              simp only [yc,hk,if_pos q]
            have fin:∀ (q:some (k:Int)≠last) (L:List PyData),L=vc.map PyData.str->if inV (V.str (zV t)) (L.map vOf)=true then (if t=zV t then Clo R (W.d PyData.none) O else R3 [some (.d (.str x)),some (.d (.str told)),some (.d (.list (found.map .int))),some (.d (qQ last)),some (.d (.str t)),some (.d (.str (zV t))),some (.d (.int (k:Nat)))] O) else Clo R (W.d PyData.none) O:=fun q L eL=>by
              subst eL
              split
              · rename_i m
                split
                · rename_i e
                  exact nz (e0 (.inr (.inr e)))
                · rename_i e
                  exact hR3 _ _ ⟨q,Yh.1 m,e,rfl,rfl⟩
              · rename_i m
                exact nz (e0 (.inr (.inl fun z=>m (Yh.2 z))))
            have allS:∀ L:List PyData,L=vc.map PyData.str->∀ y∈L,scD y=true:=fun L eL y hy=>by
              subst eL
              obtain⟨z,_,rfl⟩:=List.mem_map.1 hy
              rfl
            cases last with
            |none=>
              simp only [qQ] at fin ⊢
              walk_at "wd"
              refine⟨FC,fun a ha us hu=>?_,_,rfl,allS _ QQ,fin (fun z=>by cases z) _ QQ⟩
              obtain⟨u,rfl⟩:=List.length_eq_one_iff.1 hu
              exact⟨rfl,rfl,_,rfl,by omega,by omega,rfl⟩
            |some l=>
              simp only [qQ] at fin ⊢
              walk_at "wd"
              split
              · rename_i e
                exact nz (e0 (.inl (by rw [e])))
              · rename_i e
                refine⟨FC,fun a ha us hu=>?_,_,rfl,allS _ QQ,fin (fun z=>e (Option.some.inj z)) _ QQ⟩
                obtain⟨u,rfl⟩:=List.length_eq_one_iff.1 hu
                exact⟨rfl,rfl,_,rfl,by omega,by omega,rfl⟩
          rintro _ _ ⟨n1,n2,n3,rfl,rfl⟩
          walk_at "wd"
          obtain⟨i1,i2⟩:=zdD n2
          obtain⟨n,m1,m2,_,en⟩:=jl n2
          refine⟨_,i1,i2,_,rfl,by omega,by omega,by simp;omega,_,rfl,_,rfl,_,zf _,_,zf _,?_,?_⟩
          · rw [Ve,List.length_map,List.length_map,List.length_replicate]
            omega
          · rw [Ve,<- List.map_append]
            refine hR2 _ _ ⟨_,some (k:Int),_,_,_,?_,?_,by omega,rfl,rfl⟩
            · rw [el]
              simp only [yc,hk]
              rw [if_neg fun q=>q.elim n1 fun q=>q.elim (fun q=>q n2) n3]
            · rw [List.length_append,List.length_replicate]
              omega
    · rintro _ O' ⟨found,last,v4,v5,v6,el,fl,il,rfl,rfl⟩
      rw [List.length_map,List.length_map,List.drop_length] at el
      rw [List.length_map,List.length_map] at fl
      exact hR1 _ _ ⟨found,_,_,_,_,by rw [el];rfl,by omega,rfl,rfl⟩
  rintro _ _ ⟨found,v3,v4,v5,v6,hf,fl,rfl,rfl⟩
  walk_at "wd"
  refine⟨found.length,by rw [yJ,List.length_map],by rw [sizeLine_eq];omega,?_⟩
  have eL:lawLine x told=if found.length≠x.length\/¬ (1≤x.length/\x.length≤24) then none else some (List.zipWith (fun k i=>(sgn k,i)) x.cps.toList found):=by
    unfold lawLine
    rw [hf]
  split
  · rename_i e1
    refine⟨by rw [sizeLine_eq];omega,?_⟩
    split
    · rename_i e2
      split
      · rename_i e3
        rw [if_pos (.inr (by omega))] at eL
        rw [eL] at h
        exact .inl h
      · rename_i e3
        rw [if_neg (by omega)] at eL
        rw [eL] at h
        refine⟨by rw [sizeLine_eq];omega,by omega,by omega,fun w=>match w with |.d (.int a)=>some (zp (sgn (x.cps.toList.getD a.toNat 0),found.getD a.toNat 0)) |_=>none,?_,.inl ?_⟩
        · intro a ha us hu
          obtain⟨u,rfl⟩:=List.length_eq_one_iff.1 hu
          have ha1:a < x.cps.toList.length:=ha
          have ha2:a < found.length:=by omega
          refine⟨rfl,rfl,x,rfl,by rw [sizeLine_eq];omega,x.cps.toList[a],yn (List.getElem?_eq_getElem ha1),_,rfl,.d (.int found[a]),?_,_,⟨_,rfl,rfl⟩,(by show (2:Nat)≤1000;decide),?_⟩
          · refine yn ?_
            rw [List.getElem?_map,List.getElem?_map,List.getElem?_eq_getElem ha2]
            rfl
          · show _=some (W.d (zp (sgn (x.cps.toList.getD ((a:Nat):Int).toNat 0),found.getD ((a:Nat):Int).toNat 0)))
            rw [Int.toNat_natCast,List.getD_eq_getElem?_getD,List.getD_eq_getElem?_getD,List.getElem?_eq_getElem ha1,List.getElem?_eq_getElem ha2]
            rfl
        · rw [<- List.filterMap_map,xq (List.range x.length) (fun i:Nat=>W.d (.int i)) _ (fun a=>zp (sgn (x.cps.toList.getD a 0),found.getD a 0)) (fun a=>by simp),Kw (cs:=x.cps.toList) (found:=found) (n:=x.length) rfl (by omega)]
          exact h
    · rename_i e2
      rw [if_pos (.inr (by omega))] at eL
      rw [eL] at h
      exact .inl h
  · rename_i e1
    rw [if_pos (.inl (by omega))] at eL
    rw [eL] at h
    exact .inl h
theorem VG (F:Fun K "_law_read" "_law_read" qe f fd) (T:Txt P w K mg bw sw hf) (zg5:Cal P w K mg base 2 "_law_line" [] (zd K sLine)):FnOk P w K mg base CX0 3 f fd ["_law_text_here"] (zd K sRead):=by
  have nd:=jF.nd
  apply F.okV jF (by rintro _ _ _ ⟨a,rfl,_⟩;rfl) (fun cdv A outer sh H E hr=>(zb (zh (i:=1) nd rfl (Or.inr rfl) (zS (K:=K) rfl PySem.F.plainAttrs_str PySem.F.slot_str_split PySem.F.type_str_split xG (pv 0) (QA.pa (qc zj qn))))
      (zb (zh (i:=2) nd rfl (Or.inr rfl) (zc zT (zk (ye (K:=K) rfl) (by rfl) T.n_len (by rfl) (QA.pa (qc (pv 1) qn))) za))
      (zb (zL (PW.pt (yQ (zq yr (zc zG (zk (ye (K:=K) rfl) (by rfl) T.n_len (by rfl) (QA.pa (qc (pv 1) qn))) za) za (zt _)) (yQ (yK (Xe jK jK za (pv 2) za)) (yQ (zq x6 (zE (zZ (K:=K) rfl) (pv 1) (qy ut za) (fun _ _=>rfl)) zj (zt _)) (xi (zq QZ zj (pv 0) (by with_unfolding_all rfl))))))) (ze (zi xE)) zw)
      (zb (zh (i:=3) nd rfl (Or.inr rfl) (xa (xk (N:=["_law_k","_law_rows","_law_high"]) (n:=1) (js:=[1,2])) rfl (y6 rfl T.n_range (QA.pa (qc (pv 2) qn))) (fun _ _ _ _=>(zv (i:=0) (show List.Nodup (["_law_k","_law_rows","_law_high"]:List Str) by decide +kernel) rfl (Or.inl rfl))) (fun _ _ _ _=>yx) (fun _ _ _ _=>(zr zg5 (hr.mono (by decide)) rfl (QA.pa (qc (zE (zZ (K:=K) rfl) (pv 1) (pv 0) (fun _ _=>rfl)) (qc (zE (zZ (K:=K) rfl) (pv 1) (zc zy (pv 2) (pv 0)) (fun _ _=>rfl)) qn)))))))
      (zb (zL (PW.pt (yQ (zq (zfb (K:=K) rfl hr.units) xE (pv 3) (by with_unfolding_all rfl)) (xi (zq (Jp (K:=K) rfl hr.units) (xa (xk (N:=["_law_line_here","_law_found"]) (n:=1) (js:=[3])) rfl (z7 (K:=K) rfl (pv 3)) (fun _ _ _ _=>(zv (i:=0) (show List.Nodup (["_law_line_here","_law_found"]:List Str) by decide +kernel) rfl (Or.inl rfl))) (fun _ _ _ _=>(jM (zq x6 (zk (ye (K:=K) rfl) (by rfl) T.n_len (by rfl) (QA.pa (qc (pv 0) qn))) (zk (ye (K:=K) rfl) (by rfl) T.n_len (by rfl) (QA.pa (qc (zE (zZ (K:=K) rfl) (pv 1) za (fun _ _=>rfl)) qn))) (zt _)))) (fun _ _ _ _=>(pv 0))) (zR qn) (zt _))))) (ze (zi xE)) zw)
      (ze (zi (pv 3)))))))))
  · walk_at "ref"
  rintro _ O R ⟨t,rfl,ht,tl,h⟩
  have en:Str.ofString "\n" =nl:=rfl
  have sc:=xJ t nl
  have s1:=Zu t nl
  have nll:nl.length= 1:=rfl
  rw [nll] at sc
  obtain⟨rows,er⟩:∃ rows,rows=Txt.split t nl:=⟨_,rfl⟩
  obtain⟨hi,ehi⟩:∃ hi,hi=rows.length / 2:=⟨_,rfl⟩
  rw [<- er] at sc s1
  have rn:(rows.length%2 = 0\/¬ (1≤hi/\hi≤12)\/rows.getLast?≠some noS\/9∈t.cps.toList)->Clo R (.d .none) O:=fun q=>by
    unfold lawRead at h
    rw [<- er,<- ehi,if_pos q] at h
    exact .inl h
  refine ub (fun ρ' O'=>ρ'=[some (.d (.str t)),some (.d (.list (rows.map .str))),some (.d (.int (hi:Nat))),none]/\O=O') (fun R1 hR1=>?_) ?_
  · walk_at "wd"
    rw [en,<- er]
    exact⟨.inr (.inl ⟨rfl,_,rfl⟩),by decide,by omega,rows.length,by rw [yJ,List.length_map],⟨by omega,by decide⟩,hR1 _ _ ⟨by rw [ehi];rfl,rfl⟩⟩
  rintro _ _ ⟨rfl,rfl⟩
  refine zN (fun ρ' O'=>An7 (rows.length%2≠0) (1≤hi) (hi≤12) (rows.getLast?=some noS) (9 ∉ t.cps.toList) (ρ'=[some (.d (.str t)),some (.d (.list (rows.map .str))),some (.d (.int (hi:Nat))),none]) (O=O')) (fun R1 hR1=>?_) ?_
  · walk_at "wd"
    refine⟨rows.length,by rw [yJ,List.length_map],?_⟩
    split
    · rename_i c1
      exact rn (.inl (by omega))
    · rename_i c1
      split
      · rename_i c2
        split
        · rename_i c3
          exact rn (.inr (.inl (by omega)))
        · rename_i c3
          rcases List.eq_nil_or_concat rows with e0 | ⟨l,x,e0⟩
          · rw [e0] at s1
            cases s1
          rw [List.concat_eq_append] at e0
          have el:rows.getLast?=some x:=by rw [e0,List.getLast?_concat]
          refine⟨_,rfl,.d (.str x),by rw [e0,List.map_append,List.map_append];exact Vg,?_⟩
          by_cases ex:x=noS
          · refine⟨rfl,rfl,rfl,?_⟩
            subst ex
            rw [zft]
            refine (iff_of_eq (if_pos (decide_eq_true (by rfl)))).mpr ?_
            split
            · rename_i c4
              exact rn (.inr (.inr (.inr (of_decide_eq_true c4))))
            · rename_i c4
              exact hR1 _ _ ⟨by omega,by omega,by omega,el,fun z=>c4 (decide_eq_true z),rfl,rfl⟩
          · refine⟨rfl,rfl,rfl,(iff_of_eq (if_neg fun z=>ex ?_)).mpr (rn (.inr (.inr (.inl fun z=>ex ?_))))⟩
            · have:=of_decide_eq_true z
              injection this
            · rw [el] at z
              exact Option.some.inj z
      · rename_i c2
        exact rn (.inr (.inl (by omega)))
  rintro _ _ ⟨q1,q2,q3,q4,q5,rfl,rfl⟩
  have fr:∀ q∈rows,∀ c∈q.cps.toList,yM c:=fun q hq c hc=>by
    rw [er] at hq
    have n10:c≠10:=fun z=>StrLaws.split_free t 10 q hq (z ▸ hc)
    have m:=vd hq hc
    rcases ht c m with z |z |z
    · exact absurd z n10
    · exact absurd (z ▸ m) q5
    · exact z
  obtain⟨fs,efs⟩:∃ fs,fs=(List.range hi).map fun k=>lawLine (rows.getD k noS) (rows.getD (hi+k) noS):=⟨_,rfl⟩
  have rd:lawRead t=if none∈fs\/∃ r∈fs.filterMap id,r.length≠((fs.filterMap id).headD []).length then none else some (fs.filterMap id):=by
    unfold lawRead
    rw [<- er,<- ehi,if_neg (by rw [not_or,not_or,not_or,Decidable.not_not,Decidable.not_not];exact⟨q1,⟨q2,q3⟩,q4,q5⟩),<- efs]
  refine zN (fun ρ' O'=>ρ'=[some (.d (.str t)),some (.d (.list (rows.map .str))),some (.d (.int (hi:Nat))),some (.d (.list (fs.map lineD)))]/\O=O') (fun R1 hR1=>?_) ?_
  · walk_at "wd"
    refine⟨by omega,by omega,fun w=>match w with |.d (.int a)=>some (lineD (lawLine (rows.getD a.toNat noS) (rows.getD (hi+a.toNat) noS))) |_=>none,fun a ha us hu=>?_,?_⟩
    · obtain⟨u,rfl⟩:=List.length_eq_one_iff.1 hu
      have gl:∀ k,k < rows.length->((rows.map PyData.str).map W.d)[k]? =some (.d (.str (rows.getD k noS)))/\rows.getD k noS∈rows:=fun k hk=>by
        rw [List.getElem?_map,List.getElem?_map,List.getD_eq_getElem?_getD,List.getElem?_eq_getElem hk]
        exact⟨rfl,List.getElem_mem hk⟩
      have l1:=gl a (by omega)
      have l2:=gl (hi+a) (by omega)
      have p1:=xx (t:=t) (sep:=nl) (p:=rows.getD a noS) (by rw [<- er];exact l1.2)
      have p2:=xx (t:=t) (sep:=nl) (p:=rows.getD (hi+a) noS) (by rw [<- er];exact l2.2)
      refine⟨rfl,rfl,_,rfl,_,yn l1.1,_,rfl,.d (.str (rows.getD (hi+a) noS)),?_,_,_,rfl,fun c hc=>.inr (.inr (fr _ l1.2 c hc)),fun c hc=>.inr (.inr (fr _ l2.2 c hc)),by omega,by omega,rfl,?_⟩
      · have:=yn l2.1
        rw [show ((hi+a:Nat):Int)=(hi:Int)+(a:Int) by omega] at this
        exact this
      · simp
    · rw [<- List.filterMap_map,xq (List.range hi) (fun i:Nat=>W.d (.int i)) _ (fun a=>lineD (lawLine (rows.getD a noS) (rows.getD (hi+a) noS))) (fun a=>by simp)]
      refine hR1 _ _ ⟨?_,rfl⟩
      rw [efs,List.map_map]
      rfl
  rintro _ _ ⟨rfl,rfl⟩
  walk_at "wd"
  refine⟨fun a _=>by cases a <;> rfl,?_⟩
  split
  · rename_i hn
    obtain⟨x,hx,hn⟩:=hn
    obtain⟨o,ho,rfl⟩:=List.mem_map.1 hx
    cases o with
    |some r=>cases hn
    |none=>
      rw [rd,if_pos (.inl ho)] at h
      exact .inl h
  · rename_i hn
    have nn:none ∉ fs:=fun z=>hn ⟨.none,List.mem_map.2 ⟨none,z,rfl⟩,rfl⟩
    have e:=kA nn
    have lf:fs.length=hi:=by rw [efs,List.length_map,List.length_range]
    have ce:∀ r,some r∈fs->(r.map zp).all cellD=true:=fun r hr=>by
      rw [efs] at hr
      obtain⟨k,hk,e⟩:=List.mem_map.1 hr
      rw [List.mem_range] at hk
      have k1:k < rows.length:=by omega
      have m:rows.getD k noS∈rows:=by
        rw [List.getD_eq_getElem?_getD,List.getElem?_eq_getElem k1]
        exact List.getElem_mem k1
      obtain⟨a1,_,_,a4⟩:=YG (fr _ m) e
      exact Vh a1 a4
    generalize fs.filterMap id=ps at e rd
    subst e
    rw [List.length_map] at lf
    have em:(ps.map some).map lineD=ps.map fun r=>PyData.list (r.map zp):=by rw [List.map_map];rfl
    have nnn:none ∉ ps.map some:=nn
    rw [em]
    cases ps with
    |nil=>simp at lf;omega
    |cons r0 ps'=>
      have pc:∀ r∈r0 :: ps',(r.map zp).all cellD=true:=fun r hr=>ce r (List.mem_map.2 ⟨r,hr,rfl⟩)
      refine⟨_,rfl,by rw [List.length_map,List.length_map];omega,FL r0.length,fun w hw us hu=>?_,?_⟩
      · obtain⟨u,rfl⟩:=List.length_eq_one_iff.1 hu
        rw [List.map_map] at hw
        obtain⟨r,hr,rfl⟩:=List.mem_map.1 hw
        refine⟨rfl,rfl,r.length,by show qC O (.d (.list (r.map zp)))=_;rw [yJ,List.length_map],_,rfl,.d (.list (r0.map zp)),Xv,r0.length,by rw [yJ,List.length_map],?_⟩
        show if (r.length:Int)=(r0.length:Int) then none=Option.map W.d (FL r0.length (.d (.list (r.map zp)))) else some (W.d (.list (r.map zp)))=Option.map W.d (FL r0.length (.d (.list (r.map zp))))
        unfold FL
        simp only [List.length_map]
        split
        · rename_i c
          rw [if_pos (by omega)]
          rfl
        · rename_i c
          rw [if_neg (by omega)]
          rfl
      · rw [List.map_map,Kx]
        generalize eq:(r0 :: ps').filter (fun r=>decide (r.length≠r0.length))=qs
        have qc:∀ r∈qs.map fun r=>r.map zp,r.all cellD=true:=fun r hr=>by
          obtain⟨r',hr',rfl⟩:=List.mem_map.1 hr
          rw [<- eq] at hr'
          exact pc r' (List.mem_filter.1 hr').1
        have sh:=kJ qc
        have ep:PyData.list (qs.map fun r=>PyData.list (r.map zp))=pd (qs.map fun r=>r.map zp):=by unfold pd;rw [List.map_map];rfl
        refine⟨_,rfl,_,rfl,by rw [ep];exact sh.1,by decide +kernel,?_⟩
        cases qs with
        |nil=>
          refine (iff_of_eq (if_pos (by rfl))).mpr ?_
          rw [rd,if_neg (by
            rintro (z | ⟨r,hr,z⟩)
            · exact nnn z
            · have:r∈((r0 :: ps').filter (fun r=>decide (r.length≠r0.length))):=List.mem_filter.2 ⟨hr,decide_eq_true z⟩
              rw [eq] at this
              cases this)] at h
          have e2:readD (some (r0 :: ps'))=PyData.list ((r0 :: ps').map fun r=>PyData.list (r.map zp)):=by
            show pd (rowsP (r0 :: ps'))=_
            unfold pd rowsP
            rw [List.map_map]
            rfl
          rw [e2] at h
          exact .inl h
        |cons q qs=>
          refine (iff_of_eq (if_neg (by simp [PyData.eqv,PyData.eqvAll]))).mpr ?_
          have m:q∈(r0 :: ps').filter (fun r=>decide (r.length≠r0.length)):=by rw [eq];exact List.mem_cons_self
          rw [rd,if_pos (.inr ⟨q,(List.mem_filter.1 m).1,of_decide_eq_true (List.mem_filter.1 m).2⟩)] at h
          exact .inl h
end
inductive sRight (ws:List W) (O:OM) (R:WK):Prop
 |mk:∀ t:Str,ws=[.d (.str t)]->okTx t->t.length≤700000->R (.d (.bool true)) O->sRight ws O R
section
variable {P:Program}{w:World}{K:W.Frag}{mg:Str->Option Value}{base:Heap}{f:Addr}{fd:FuncData}{bw sw hf:Addr}{se bp bs bi ba un:Addr}
theorem Vi (F:Fun K "_law_right" "_law_right" uL f fd) (T:Txt P w K mg bw sw hf) (zg9:Cal P w K mg base 3 "_law_read" [] (zd K sRead)) (zha:Cal P w K mg base 9 "_law_refused" [] (zd K sRef25)) (zhy:CalX P w K mg base 8 "picture_of" [] (zU K (sPicOf ba))):FnOk P w K mg base CX0 10 f fd ["_law_text_here"] (zd K sRight):=by
  have nd:=qY.nd
  apply F.okV qY (by rintro _ _ _ ⟨a,rfl,_⟩;rfl) (fun cdv A outer sh H E hr=>(zb (zh (i:=1) nd rfl (Or.inl rfl) (zr zg9 (hr.mono (by decide)) rfl (QA.pa (qc (pv 0) qn))))
      (zb (zL (zq Q0 (pv 1) xE (zt _)) (ze (zi (zr zha (hr.mono (by decide)) rfl (QA.pa (qc (pv 0) qn))))) zw)
      (zb (zh (i:=2) nd rfl (Or.inl rfl) (vj zhy zbs (hr.mono (by decide)) rfl (QA.pa (qc (pv 0) qn))))
      (ze (zi (xy (zk (xH (K:=K) rfl) (by rfl) T.n_isinstance (by rfl) (QA.pa (qc (pv 2) (qc (yW (v:=.ty "list") (u:=.type "list") rfl T.n_list rfl rfl) qn)))) (xy (ue (jf (K:=K) rfl hr.units) (pv 2) (pv 1) (zt _)) (vO (ue (jf (K:=K) rfl hr.units) (xa (xk (N:=["_law_row"]) (n:=1) (js:=[])) rfl (z7 (K:=K) rfl (pv 2)) (fun _ _ _ _=>(zv (i:=0) (show List.Nodup (["_law_row"]:List Str) by decide +kernel) rfl (Or.inl rfl))) (fun _ _ _ _=>(jM (yK (yS (zk (xH (K:=K) rfl) (by rfl) T.n_isinstance (by rfl) (QA.pa (qc (pv 0) (qc (yW (v:=.ty "list") (u:=.type "list") rfl T.n_list rfl rfl) qn)))))))) (fun _ _ _ _=>(pv 0))) (zR qn) (zt _)))))))))))
  · walk_at "ref"
  rintro _ O R ⟨t,rfl,ht,tl,h⟩
  refine zN (fun ρ' O'=>ρ'=[some (.d (.str t)),some (.d (readD (lawRead t))),none]/\O=O') (fun R1 hR1=>?_) ?_
  · walk_at "wd"
    exact⟨t,rfl,ht,tl,hR1 _ _ ⟨rfl,rfl⟩⟩
  rintro _ _ ⟨rfl,rfl⟩
  cases e:lawRead t with
  |none=>
    simp only [readD]
    walk_at "wd"
    exact⟨_,rfl,fun z ez=>by cases ez;exact⟨ht,tl,e⟩,.inl h⟩
  |some p=>
    simp only [readD]
    obtain⟨w0,okv,ep⟩:=jm ht e
    have sh:=kJ (rows:=rowsP p) fun r hr=>by
      obtain⟨q,hq,rfl⟩:=List.mem_map.1 hr
      exact Vh (okv.1.2.2 q hq) (okv.2 q hq).2
    have sh1:=sh.1
    have sh2:=sh.2
    unfold pd at sh1 sh2 ⊢
    walk_at "wd"
    refine⟨_,rfl,fun z ez=>by cases ez;exact⟨ht,tl⟩,fun z q ez hq=>?_,fun hn=>?_⟩
    · cases ez
      rw [e] at hq
      cases hq
      have fm:∀ ws:List W,ws.filterMap (fun _=>(none:Option PyData))=[]:=fun ws=>by simp
      refine (iff_of_eq (if_pos rfl)).mpr ⟨_,rfl,_,rfl,sh1,sh1,(iff_of_eq (if_pos sh2)).mpr ⟨_,rfl,?_,fun _=>none,fun w hw us hu=>?_,_,rfl,_,rfl,?_,by decide +kernel,.inl ?_⟩⟩
      · have:=okv.1.2.1
        rw [List.length_map,List.length_map,rowsP,List.length_map]
        omega
      · obtain⟨u,rfl⟩:=List.length_eq_one_iff.1 hu
        rw [List.map_map] at hw
        obtain⟨r,_,rfl⟩:=List.mem_map.1 hw
        exact⟨rfl,rfl,rfl⟩
      · rw [fm]
        decide +kernel
      · rw [fm]
        exact h
    · have:=hn t rfl
      rw [e] at this
      cases this
end
def QR (t:T3):Prop:=t.1 < t.2.1/\t.2.1 - t.1≤25/\0≤t.2.2/\t.2.2 < 512
def Row5 (r:Rw6):Prop:=r.length≤25/\∀ c∈r,(∃ k,(yM k\/k= 9)/\c.1=sgn k)/\0≤c.2/\c.2 < 512
def Pic5 (p:Pc):Prop:=p.length≤13/\∀ r∈p,Row5 r
theorem zcd:∀ n:_root_.Fin 26,(yP n.val).length≤2/\Qs (yP n.val)=true:=by decide +kernel
theorem UD {n:Nat}(h:n≤25):(yP n).length≤2:=(zcd ⟨n,by omega⟩).1
theorem zce {r:Rw6}(h:Row5 r) {j:Nat}(hj:j < r.length):0≤inkF r j/\inkF r j < 512:=by
 unfold inkF cA
 rw [List.getD_eq_getElem?_getD,List.getElem?_eq_getElem hj]
 exact (h.2 _ (List.getElem_mem hj)).2
theorem Yi {r:Rw6}(h:Row5 r):∀ t∈stN (inkF r) r.length,QR t:=fun t ht=>by
 obtain⟨h1,h2,h3⟩:=ZQ ht
 have:=h.1
 have hk:=zce h (j:=t.1) (by omega)
 rw [h3] at hk
 exact⟨h1,by omega,hk.1,hk.2⟩
theorem Vj {t:T3}(h:QR t):(stT t).length≤43:=by
 obtain⟨h1,h2,h3,h4⟩:=h
 have a:=UD h2
 have b:=(qo ⟨t.2.2.toNat,by omega⟩).2
 unfold stT
 rw [strLen_append,strLen_append]
 have:zz.length= 1:=rfl
 simp only at a b
 omega
theorem zfu {t:T3}(h:QR t) {c:Nat}(hc:c∈(stT t).cps.toList):yM c:=by
 obtain⟨h1,h2,h3,h4⟩:=h
 unfold stT at hc
 rw [zm,zm,List.mem_append,List.mem_append] at hc
 rcases hc with (hc |hc) |hc
 ·exact qL (zcd ⟨t.2.1 - t.1,by omega⟩).2 hc
 ·have:c= 58:=by simpa [zz] using hc
  subst this
  decide
 ·exact qL (Kb ⟨t.2.2.toNat,by omega⟩) hc
theorem zbi {r:Rw6}(h:Row5 r) {c:Nat}(hc:c∈(inksT r).cps.toList):yM c:=by
 unfold inksT at hc
 rw [zO] at hc
 rcases vS hc with hc | ⟨a,ha,hc⟩
 ·exact Um c hc
 ·rw [List.map_map] at ha
  obtain⟨t,ht,rfl⟩:=List.mem_map.1 ha
  exact zfu (Yi h t ht) hc
theorem Zw {r:Rw6}(h:Row5 r):(inksT r).length≤1125:=by
 have a:=qD zI ((stN (inkF r) r.length).map stT)
 have b:=vt ((stN (inkF r) r.length).map stT) fun q hq=>by
  obtain⟨t,ht,rfl⟩:=List.mem_map.1 hq
  exact Vj (Yi h t ht)
 have c:=qm (inkF r) r.length
 have d:=h.1
 rw [List.length_map] at a b
 have:zI.length= 2:=rfl
 rw [this] at a
 show (inksT r).cps.size≤1125
 rw [<- Array.length_toList]
 unfold inksT
 omega
theorem Zx {r:Rw6}(h:∀ c∈r,∃ k,c.1=sgn k):∃ ks:List Nat,(zQ r).cps.toList=ks/\r.map (·.1)=ks.map sgn:=by
 unfold zQ
 induction r with
 |nil=>exact⟨[],rfl,rfl⟩
 |cons c r ih=>
  obtain⟨k,ek⟩:=h c List.mem_cons_self
  obtain⟨ks,e1,e2⟩:=ih fun c hc=>h c (List.mem_cons_of_mem _ hc)
  refine⟨k :: ks,?_,by rw [List.map_cons,List.map_cons,e2,ek]⟩
  rw [zO] at e1 ⊢
  rw [List.map_cons,List.map_cons,ek]
  cases r with
  |nil=>simp at e2;subst e2;rfl
  |cons d r=>
   rw [List.map_cons,List.map_cons] at e1 ⊢
   show (sgn k).cps.toList ++ noS.cps.toList ++ jnS _ _=_
   rw [e1]
   rfl
theorem xQ {r:Rw6}(h:Row5 r):(zQ r).length=r.length/\∀ c∈(zQ r).cps.toList,yM c\/c= 9:=by
 obtain⟨ks,e1,e2⟩:=Zx (r:=r) fun c hc=>by
  obtain⟨⟨k,_,e⟩,_⟩:=h.2 c hc
  exact⟨k,e⟩
 refine⟨?_,fun c hc=>?_⟩
 ·show (zQ r).cps.size=_
  rw [<- Array.length_toList,e1,<- List.length_map (f:=sgn) (as:=ks),<- e2,List.length_map]
 ·rw [e1] at hc
  have m:sgn c∈r.map (·.1):=by rw [e2];exact List.mem_map.2 ⟨c,hc,rfl⟩
  obtain⟨d,hd,e⟩:=List.mem_map.1 m
  obtain⟨⟨k,ok,ek⟩,_⟩:=h.2 d hd
  rw [ek] at e
  rw [<- Z2 e]
  exact ok
noncomputable def xY (L:List Str):Str:=Str.join noS (L.map (· ++ nl))
theorem UE:∀ A:List (List Nat),jnS [] A=A.flatten
 |[]=>rfl
 |[a]=>by simp [jnS]
 |a :: b :: r=>by
  show a ++ [] ++ jnS [] (b :: r)=_
  rw [UE (b :: r),List.append_nil]
  simp
theorem vV (L:List Str):(xY L).cps.toList=(L.map fun z=>z.cps.toList ++ [10]).flatten:=by
 unfold xY
 rw [zO]
 show jnS [] _=_
 rw [UE,List.map_map]
 congr 1
 apply List.map_congr_left
 intro z _
 show (z ++ nl).cps.toList=_
 rw [zm]
 rfl
theorem YQ (L:List Str) (z:Str):xY (L ++ [z])=xY L ++ z ++ nl:=by
 apply yG
 rw [zm,zm,vV,vV,List.map_append,List.flatten_append]
 simp [nl]
theorem UF {n:Nat}:∀ L:List Str,(∀ q∈L,q.length≤n)->(L.map (·.length)).sum≤n*L.length
 |[],_=>by simp
 |a :: L,h=>by
  have:=UF L fun q hq=>h q (List.mem_cons_of_mem _ hq)
  have:=h a List.mem_cons_self
  simp only [List.map_cons,List.sum_cons,List.length_cons,Nat.mul_succ]
  omega
theorem Yj {L:List Str}{n:Nat}(h2:∀ z∈L,z.length≤n):(xY L).length≤(n+1)*L.length:=by
 have a:=qD noS (L.map (· ++ nl))
 have b:=UF (n:=n+1) (L.map (· ++ nl)) fun q hq=>by
  obtain⟨z,hz,rfl⟩:=List.mem_map.1 hq
  have:=h2 z hz
  rw [strLen_append]
  have:nl.length= 1:=rfl
  omega
 have:noS.length= 0:=rfl
 rw [this] at a
 rw [List.length_map] at b
 show (xY L).cps.size≤_
 rw [<- Array.length_toList]
 unfold xY
 omega
theorem kK {L:List Str}(h1:L.length≤26) (h2:∀ z∈L,z.length≤1125):(xY L).length≤30000:=by
 have a:=Yj h2
 have b:(1125+1)*L.length≤(1125+1)*26:=Nat.mul_le_mul_left _ h1
 omega
inductive sLInksO (ws:List W) (O:OM) (R:WK):Prop
 |mk:∀ r:Rw6,ws=[.d (rowC r)]->Row5 r->(∀ O',Old O O'->R (.d (.str (inksT r))) O')->sLInksO ws O R
inductive sLInks (ws:List W) (O:OM) (R:WK):Prop
 |mk:∀ r:Rw6,ws=[.d (rowC r)]->Row5 r->R (.d (.str (inksT r))) O->sLInks ws O R
inductive sLPaper (ws:List W) (O:OM) (R:WK):Prop
 |mk:∀ p:Pc,ws=[.d (pd (rowsP p))]->Pic5 p->R (.d (.str (paperT p))) O->sLPaper ws O R
section
variable {P:Program}{w:World}{K:W.Frag}{mg:Str->Option Value}{base:Heap}{f:Addr}{fd:FuncData}{bw sw hf:Addr}{se bp bs bi ba un:Addr}
theorem Vk (F:Fun K "_law_inks" "_law_inks" vK f fd) (T:Txt P w K mg bw sw hf) (zhf:Cal P w K mg base 1 "_law_text" [] (zd K sTextL)):FnOk P w K mg base CX0 2 f fd ["_law_line_here"] (zd K sLInksO):=by
  have nd:=jC.nd
  apply F.okV jC (by rintro _ _ _ ⟨r,rfl,_⟩;rfl) (fun cdv A outer sh H E hr=>(zb (zh (i:=1) nd rfl (Or.inl rfl) (vn qn))
      (zb (zh (i:=2) nd rfl (Or.inl rfl) za)
      (zb (Xa PassesOwn.never (zq kP (pv 2) (zk (ye (K:=K) rfl) (by rfl) T.n_len (by rfl) (QA.pa (qc (pv 0) qn))) (zt _)) (zb (zh (i:=3) nd rfl (Or.inl rfl) (pv 2))
      (zb (Xa PassesOwn.never (PW.pt (Y8 (zq kP (pv 3) (zk (ye (K:=K) rfl) (by rfl) T.n_len (by rfl) (QA.pa (qc (pv 0) qn))) (zt _)) (ZC (zq yr (zE (xp (K:=K) rfl) (zE (zZ (K:=K) rfl) (pv 0) (pv 3) (fun _ _=>rfl)) za (fun _ _=>rfl)) (zE (xp (K:=K) rfl) (zE (zZ (K:=K) rfl) (pv 0) (pv 2) (fun _ _=>rfl)) za (fun _ _=>rfl)) (zt _))))) (ze (zh (i:=3) nd rfl (Or.inl rfl) (zc zy (pv 3) za))))
      (zb (yX (zS (K:=K) rfl PySem.F.plainAttrs_list PySem.F.slot_list_append PySem.F.type_list_append yL (pv 1) (QA.pa (qc (zc zX (zc zX (y9 vR (by rfl) T.n_str rfl (QA.pa (qc (zc kO (pv 3) (pv 2)) qn))) zj) (zr zhf (hr.mono (by decide)) rfl (QA.pa (qc (zE (xp (K:=K) rfl) (zE (zZ (K:=K) rfl) (pv 0) (pv 2) (fun _ _=>rfl)) za (fun _ _=>rfl)) qn)))) qn))))
      (ze (zh (i:=2) nd rfl (Or.inl rfl) (pv 3)))))))
      (ze (zi (zS (K:=K) rfl PySem.F.plainAttrs_str PySem.F.slot_str_join PySem.F.type_str_join (yY (K:=K) rfl) zj (QA.pa (qc (pv 1) qn)))))))))
  · walk_at "ref"
  rintro _ O R ⟨r,rfl,hr,h⟩
  refine ub (fun ρ' O'=>Ex1 fun q=>An4 (O q=none) (ρ'=[some (.d (rowC r)),some (.own q),some (.d (.int 0)),none]) (Old O O') (O' q=some (.lst []))) (fun R1 hR1=>?_) ?_
  · walk_at "wd"
    exact fun q hq=>hR1 _ _ ⟨q,hq,rfl,Old.refl.upd hq,zu⟩
  rintro _ O1 ⟨q,hq,rfl,o1,hO1⟩
  have r1:=hr.1
  have ln:∀ O,qC O (.d (rowC r))=some r.length:=fun O=>by unfold rowC;rw [yJ,List.length_map]
  have at_:∀ (O:OM) (j:Nat),j < r.length->∃ ws,zD O (.d (rowC r))=some ws/\atI ws (j:Int)=some (.d (zp (cA r j))):=fun O j hj=>⟨_,rfl,yn (by
    rw [List.getElem?_map,List.getElem?_map,List.getElem?_eq_getElem hj]
    unfold cA
    rw [List.getD_eq_getElem?_getD,List.getElem?_eq_getElem hj]
    rfl)⟩
  refine zN (fun ρ' O'=>Ex2 fun v2 v3=>An3 (ρ'=[some (.d (rowC r)),some (.own q),v2,v3]) (Old O O') (O' q=some (.lst (((stN (inkF r) r.length).map stT).map yO)))) (fun R1 hR1=>?_) ?_
  · refine V2 (fun m ρ O'=>∃ (done:List T3) (a:Nat) (v3:Option W),m=r.length - a/\a≤r.length/\Cov (inkF r) 0 done a/\Mx (inkF r) r.length done/\ρ=[some (.d (rowC r)),some (.own q),some (.d (.int a)),v3]/\Old O O'/\O' q=some (.lst ((done.map stT).map yO))) r.length ⟨[],0,_,rfl,Nat.zero_le _,rfl,fun t ht=>by simp at ht,rfl,o1,hO1⟩ ?_
    rintro m _ O2 ⟨done,a,v3,rfl,ha,cov,mx,rfl,o2,hO2⟩ R2 hR2
    walk_at "wd"
    refine⟨_,ln _,?_⟩
    split
    · rename_i hlt
      have hlt:a < r.length:=by omega
      refine Jy (fun m ρ O'=>∃ b:Nat,m=r.length - b/\a≤b/\b≤r.length/\(∀ j,a≤j->j < b->inkF r j=inkF r a)/\ρ=[some (.d (rowC r)),some (.own q),some (.d (.int a)),some (.d (.int b))]/\O2=O')
        (fun ρ O'=>∃ b:Nat,a < b/\b≤r.length/\(∀ j,a≤j->j < b->inkF r j=inkF r a)/\(b < r.length->inkF r b≠inkF r a)/\ρ=[some (.d (rowC r)),some (.own q),some (.d (.int a)),some (.d (.int b))]/\O2=O') (r.length - a) ⟨a,rfl,Nat.le_refl _,ha,fun j h1 h2=>by omega,rfl,rfl⟩ ?_ ?_
      · rintro m _ _ ⟨b,rfl,ab,bn,hf',rfl,rfl⟩ R3 S3 hR3 hS3
        obtain⟨wa,wa1,wa2⟩:=at_ O2 a hlt
        walk_at "wd"
        refine⟨_,ln _,?_⟩
        split
        · rename_i hb
          obtain⟨wb,wb1,wb2⟩:=at_ O2 b hb
          refine⟨wb,wb1,_,wb2,_,rfl,_,rfl,wa,wa1,_,wa2,_,rfl,_,rfl,?_⟩
          show if (cA r b).2 =(cA r a).2 then _ else _
          split
          · rename_i e
            exact hR3 (r.length - (b+1)) _ _ (by omega) ⟨b+1,rfl,by omega,by omega,fun j h1 h2=>by
              rcases Nat.lt_or_ge j b with z |z
              · exact hf' j h1 z
              · have:j=b:=by omega
                subst this
                exact e,by simp,rfl⟩
          · rename_i e
            exact hS3 _ _ ⟨b,by
              rcases Nat.lt_or_ge a b with z |z
              · exact z
              · have:a=b:=by omega
                subst this
                exact absurd rfl e,bn,hf',fun _=>e,rfl,rfl⟩
        · rename_i hb
          exact hS3 _ _ ⟨b,by omega,bn,hf',fun z=>absurd z hb,rfl,rfl⟩
      rintro _ _ ⟨b,ab,bn,hf',hne,rfl,rfl⟩
      have okt:QR (a,b,inkF r a):=by
        have:=zce hr hlt
        exact⟨ab,by show b - a≤25;omega,this.1,this.2⟩
      obtain⟨wa,wa1,wa2⟩:=at_ O2 a hlt
      have sl:=UD (n:=b - a) (by omega)
      have il:=(qo ⟨(inkF r a).toNat,by have:=okt.2.2;simp only at this;omega⟩).2
      have eb:((b:Int) - (a:Int))=((b - a:Nat):Int):=by omega
      have i0:=okt.2.2.1
      have i1:=okt.2.2.2
      simp only at i0 i1 sl il
      have dn:=cov.le
      walk_at "wd"
      rw [eb]
      have sl':(Str.ofString ((b - a:Nat):Int).repr).length≤2:=sl
      have l1:(Str.ofString ":").length= 1:=rfl
      refine⟨.inl ⟨rfl,by simp [zD,hO2]⟩,by omega,by omega,by rw [l1,sizeLine_eq];omega,wa,wa1,_,wa2,_,rfl,_,rfl,(inkF r a).toNat,by rw [Int.toNat_of_nonneg i0];rfl,by omega,inkT (inkF r a).toNat,rfl,by rw [strLen_append,l1,sizeLine_eq];omega,updO O2 q (.lst ((done.map stT).map yO ++ [.d (.str (stT (a,b,inkF r a)))])),?_,hR2 (r.length - b) _ _ (by omega) ⟨done ++ [(a,b,inkF r a)],b,_,rfl,bn,cov.app ⟨rfl,ab,fun j h1 h2=>hf' j h1 h2,rfl⟩,fun t ht hl=>?_,rfl,o2.upd hq,?_⟩⟩
      · simp only [uU,hO2]
        rw [if_pos (by simp;omega)]
        rfl
      · rcases List.mem_append.1 ht with ht |ht
        · exact mx t ht hl
        · cases List.mem_singleton.1 ht
          exact hne hl
      · rw [zu,List.map_append,List.map_append]
        rfl
    · rename_i hlt
      have e:a=r.length:=by omega
      subst e
      have e:=kz cov (um _ _) mx (XO _ _)
      rw [e] at hO2
      exact hR1 _ _ ⟨_,_,rfl,o2,hO2⟩
  rintro _ O2 ⟨v2,v3,rfl,o2,hO2⟩
  walk_at "wd"
  have ec:Str.ofString ", " =zI:=rfl
  rw [ec]
  refine⟨.inr (.inl ⟨rfl,_,rfl⟩),(stN (inkF r) r.length).map stT,by simp only [zD,hO2],by decide,?_,.inl ?_⟩
  · have:=vt ((stN (inkF r) r.length).map stT) fun q hq=>by
      obtain⟨t,ht,rfl⟩:=List.mem_map.1 hq
      exact Vj (Yi hr t ht)
    have sl:=qm (inkF r) r.length
    rw [List.length_map] at this ⊢
    omega
  · rw [xA]
    exact h O2 o2
theorem VH (F:Fun K "_law_inks" "_law_inks" vK f fd) (T:Txt P w K mg bw sw hf) (zhf:Cal P w K mg base 1 "_law_text" [] (zd K sTextL)):FnOk P w K mg base CX0 2 f fd ["_law_line_here"] (zd K sLInks):=by
 exact (Vk F T zhf).forget fun ws O R ⟨n,e,hn,h⟩=>⟨n,e,hn,fun O' ho=>⟨ho,h⟩⟩
theorem Vl (F:Fun K "_law_paper" "_law_paper" uK f fd) (T:Txt P w K mg bw sw hf) (zg4:Cal P w K mg base 2 "_law_inks" [] (zd K sLInks)):FnOk P w K mg base CX0 3 f fd ["_law_picture_here"] (zd K sLPaper):=by
  have nd:=qX.nd
  apply F.okV qX (by rintro _ _ _ ⟨p,rfl,_⟩;rfl) (fun cdv A outer sh H E hr=>(zb (zh (i:=1) nd rfl (Or.inl rfl) zj)
      (zb (y7 PassesOwn.never rfl (z7 (K:=K) rfl (pv 0)) (zv (i:=2) nd rfl (Or.inl rfl))
      (ze (zh (i:=1) nd rfl (Or.inl rfl) (zc zX (zc zX (pv 1) (zS (K:=K) rfl PySem.F.plainAttrs_str PySem.F.slot_str_join PySem.F.type_str_join (yY (K:=K) rfl) zj (QA.pa (qc (xa (xk (N:=["_law_cell"]) (n:=1) (js:=[])) rfl (z7 (K:=K) rfl (pv 2)) (fun _ _ _ _=>(zv (i:=0) (show List.Nodup (["_law_cell"]:List Str) by decide +kernel) rfl (Or.inl rfl))) (fun _ _ _ _=>yx) (fun _ _ _ _=>(zE (xp (K:=K) rfl) (pv 0) za (fun _ _=>rfl)))) qn)))) zj))))
      (zb (y7 PassesOwn.never rfl (z7 (K:=K) rfl (pv 0)) (zv (i:=2) nd rfl (Or.inl rfl))
      (ze (zh (i:=1) nd rfl (Or.inl rfl) (zc zX (zc zX (pv 1) (zr zg4 (hr.mono (by decide)) rfl (QA.pa (qc (pv 2) qn)))) zj))))
      (ze (zi (pv 1)))))))
  · walk_at "ref"
  rintro _ O R ⟨p,rfl,hp,h⟩
  have es:∀ O':OM,zD O' (.d (pd (rowsP p)))=some (p.map fun r=>W.d (rowC r)):=fun O'=>by
    show some (List.map W.d _)=_
    unfold rowsP
    rw [List.map_map,List.map_map]
    rfl
  have p2:=hp.1
  have sl:∀ r∈p,(zQ r).length≤1125/\(inksT r).length≤1125:=fun r hr=>by
    have q:=hp.2 r hr
    exact⟨by rw [(xQ q).1];have:=q.1;omega,Zw q⟩
  have en:(Str.ofString "\n")=nl:=rfl
  have l1:nl.length= 1:=rfl
  refine ub (fun ρ' O'=>Ex1 fun v2=>An2 (ρ'=[some (.d (pd (rowsP p))),some (.d (.str (xY (p.map zQ)))),v2]) (O=O')) (fun R1 hR1=>?_) ?_
  · walk_at "wd"
    refine⟨_,es O,?_⟩
    refine yN.by (fun i ρ O'=>Ex1 fun v2=>An2 (ρ=[some (.d (pd (rowsP p))),some (.d (.str (xY ((p.map zQ).take i)))),v2]) (O=O')) ⟨_,rfl,rfl⟩ (fun _ _ _ _=>es _) ?_ ?_
    · rintro i w _ _ hw ⟨v2,rfl,rfl⟩ R2 hR2
      rw [List.getElem?_map] at hw
      obtain⟨r,hr,rfl⟩:=Option.map_eq_some_iff.1 hw
      have ok:=hp.2 r (List.mem_of_getElem? hr)
      have cl:=kK (L:=(p.map zQ).take i) (by rw [List.length_take,List.length_map];omega) fun z hz=>by
        obtain⟨q,hq,rfl⟩:=List.mem_map.1 (List.mem_of_mem_take hz)
        exact (sl q hq).1
      simp only [x8]
      walk_at "wd"
      have es3:zD O (.d (rowC r))=some (r.map fun c=>W.d (zp c)):=by
        show some (List.map W.d _)=_
        rw [List.map_map]
        rfl
      have ej:Txt.join (Str.ofString "") (r.map fun c:Cel=>c.1)=zQ r:=by rw [xA];rfl
      have s1:=(sl r (List.mem_of_getElem? hr)).1
      have r1:=ok.1
      have su:=vt (r.map fun c:Cel=>c.1) fun q hq=>by
        obtain⟨c,hc,rfl⟩:=List.mem_map.1 hq
        obtain⟨⟨k,_,e⟩,_⟩:=ok.2 c hc
        rw [e]
        show (1:Nat)≤43
        decide
      rw [List.length_map] at su
      refine⟨.inr (.inl ⟨rfl,_,rfl⟩),_,es3,by rw [List.length_map];omega,fun v=>match v with |.d (.tuple [a,_])=>some a |_=>none,?_,r.map fun c:Cel=>c.1,?_,by decide,by rw [List.length_map];omega,?_,?_,?_⟩
      · intro w hw us hu
        obtain⟨u,rfl⟩:=List.length_eq_one_iff.1 hu
        obtain⟨c,hc,rfl⟩:=List.mem_map.1 hw
        exact⟨rfl,rfl,_,rfl,_,rfl,rfl⟩
      · rw [xq r (fun c=>W.d (zp c)) _ (fun c=>.str c.1) (fun _=>rfl)]
        show some (List.map W.d _)=_
        rw [List.map_map,List.map_map]
        rfl
      · rw [ej,sizeLine_eq]
        omega
      · rw [ej,en,l1,strLen_append,sizeLine_eq]
        omega
      · rw [ej,en]
        refine hR2 _ _ ⟨some (.d (rowC r)),?_,rfl⟩
        rw [List.take_add_one,List.getElem?_map,hr,Option.map_some,Option.toList_some,YQ]
    · rintro _ _ ⟨v2,rfl,rfl⟩
      rw [List.length_map,List.take_of_length_le (by simp)]
      exact hR1 _ _ ⟨_,rfl,rfl⟩
  rintro _ _ ⟨v2,rfl,rfl⟩
  refine zN (fun ρ' O'=>Ex1 fun v2=>An2 (ρ'=[some (.d (pd (rowsP p))),some (.d (.str (paperT p))),v2]) (O=O')) (fun R1 hR1=>?_) ?_
  · walk_at "wd"
    refine⟨_,es O,?_⟩
    refine yN.by (fun i ρ O'=>Ex1 fun v2=>An2 (ρ=[some (.d (pd (rowsP p))),some (.d (.str (xY (p.map zQ ++ (p.map inksT).take i)))),v2]) (O=O')) ⟨v2,by simp,rfl⟩ (fun _ _ _ _=>es _) ?_ ?_
    · rintro i w _ _ hw ⟨v2,rfl,rfl⟩ R2 hR2
      rw [List.getElem?_map] at hw
      obtain⟨r,hr,rfl⟩:=Option.map_eq_some_iff.1 hw
      have ok:=hp.2 r (List.mem_of_getElem? hr)
      have cl:=kK (L:=p.map zQ ++ (p.map inksT).take i) (by rw [List.length_append,List.length_map,List.length_take,List.length_map];omega) fun z hz=>by
        rcases List.mem_append.1 hz with hz |hz
        · obtain⟨q,hq,rfl⟩:=List.mem_map.1 hz
          exact (sl q hq).1
        · obtain⟨q,hq,rfl⟩:=List.mem_map.1 (List.mem_of_mem_take hz)
          exact (sl q hq).2
      simp only [x8]
      walk_at "wd"
      have s2:=(sl r (List.mem_of_getElem? hr)).2
      refine⟨r,rfl,ok,inksT r,rfl,by rw [sizeLine_eq];omega,by rw [en,l1,strLen_append,sizeLine_eq];omega,?_⟩
      refine hR2 _ _ ⟨some (.d (rowC r)),?_,rfl⟩
      rw [List.take_add_one,List.getElem?_map,hr,Option.map_some,Option.toList_some,<- List.append_assoc,YQ]
      rfl
    · rintro _ _ ⟨v2,rfl,rfl⟩
      rw [List.length_map,List.take_of_length_le (by simp)]
      exact hR1 _ _ ⟨_,rfl,rfl⟩
  rintro _ _ ⟨v2,rfl,rfl⟩
  walk_at "wd"
  exact .inl h
end
theorem kL {p:Pc}(h:Pic5 p) {z:Str}(hz:z∈zB p):(∀ c∈z.cps.toList,yM c\/c= 9)/\z.length≤1125:=by
 unfold zB at hz
 rcases List.mem_append.1 hz with hz |hz
 ·obtain⟨r,hr,rfl⟩:=List.mem_map.1 hz
  have q:=h.2 r hr
  exact⟨(xQ q).2,by rw [(xQ q).1];have:=q.1;omega⟩
 ·obtain⟨r,hr,rfl⟩:=List.mem_map.1 hz
  have q:=h.2 r hr
  exact⟨fun c hc=>.inl (zbi q hc),Zw q⟩
theorem jJ {p:Pc}(h:Pic5 p):Txt.split (paperT p) nl=zB p ++ [noS]:=by
 rw [ua]
 refine j9 (by simp) fun w hw hc=>?_
 rcases List.mem_append.1 hw with hw |hw
 ·rcases (kL h hw).1 10 hc with z |z
  ·exact absurd z.1 (by decide)
  ·cases z
 ·cases List.mem_singleton.1 hw
  exact absurd hc (by decide)
theorem zbj {p:Pc}{z:Str}{c:Nat}(hz:z∈zB p) (hc:c∈z.cps.toList):c∈(paperT p).cps.toList:=by
 rw [ua,zO]
 exact jV (List.mem_map.2 ⟨z,List.mem_append_left _ hz,rfl⟩) hc
theorem tx5 {p:Pc}(h:Pic5 p):okTx (paperT p):=fun c hc=>by
 rw [ua,zO] at hc
 rcases vS hc with hc | ⟨a,ha,hc⟩
 ·exact .inl (List.mem_singleton.1 hc)
 ·obtain⟨z,hz,rfl⟩:=List.mem_map.1 ha
  rcases List.mem_append.1 hz with hz |hz
  ·rcases (kL h hz).1 c hc with q |q
   ·exact .inr (.inr q)
   ·exact .inr (.inl q)
  ·cases List.mem_singleton.1 hz
   cases hc
theorem zgk {p:Pc}(h:Pic5 p):(paperT p).length≤30000:=by
 refine kK (L:=zB p) ?_ fun z hz=>(kL h hz).2
 unfold zB
 rw [List.length_append,List.length_map,List.length_map]
 have:=h.1
 omega
theorem zf1 {r:Rw6}(h:okW r) (h2:Z1 r):Row5 r:=⟨by have:=h.2.1;omega,fun c hc=>by
 obtain⟨k,k1,k2,e⟩:=h.2.2.1 c hc
 exact⟨⟨k,.inl ⟨k1,k2,fun z=>h2 c hc (by rw [e,z];rfl)⟩,e⟩,h.2.2.2 c hc⟩⟩
theorem Zy {p:Pc}{w:Nat}(h:okV p w):Pic5 p:=⟨by have:=h.1.2.1;omega,fun r hr=>zf1 (h.1.2.2 r hr) (h.2 r hr).2⟩
theorem zdE {p:Pc}{w:Nat}(h:okV p w):(paperT p).length≤13512:=by
 have e:paperT p=xY (zB p):=rfl
 have e2:xY (zB p)=xY (p.map zQ) ++ xY (p.map inksT):=by
  apply yG
  rw [zm,vV,vV,vV,zB,List.map_append,List.flatten_append]
 have a:=Yj (L:=p.map zQ) (n:=24) fun z hz=>by
  obtain⟨r,hr,rfl⟩:=List.mem_map.1 hz
  rw [(xQ ((Zy h).2 r hr)).1]
  exact (h.1.2.2 r hr).2.1
 have b:=Yj (L:=p.map inksT) (n:=1100) fun z hz=>by
  obtain⟨r,hr,rfl⟩:=List.mem_map.1 hz
  exact YF (h.1.2.2 r hr)
 rw [List.length_map] at a b
 have c:=h.1.2.1
 rw [e,e2,xP]
 omega
theorem Yk {q:Pc}(hq:Pic5 q) (h:∀ (p:Pc) (w:Nat),okV p w->p.length=q.length->p.map List.length=q.map List.length->False):lawRead (paperT q)=none:=by
 cases e:lawRead (paperT q) with
 |none=>rfl
 |some p=>
  obtain⟨w,ok,ep⟩:=jm (tx5 hq) e
  have s1:=jJ hq
  rw [ep,jJ (Zy ok)] at s1
  have s2:=List.append_cancel_right s1
  unfold zB at s2
  have l:p.length=q.length:=by
   have:=congrArg List.length s2
   simp at this
   omega
  have s3:=(List.append_inj s2 (by rw [List.length_map,List.length_map,l])).1
  refine (h p w ok l ?_).elim
  have lp:p.map List.length=(p.map zQ).map (·.length):=by
   rw [List.map_map]
   exact List.map_congr_left fun r hr=>((xQ ((Zy ok).2 r hr)).1).symm
  have lq:q.map List.length=(q.map zQ).map (·.length):=by
   rw [List.map_map]
   exact List.map_congr_left fun r hr=>((xQ (hq.2 r hr)).1).symm
  rw [lp,lq,s3]
theorem zfv {q:Pc}{r:Rw6}(hr:r∈q) {i:Int}(hc:(sgn 9,i)∈r) (h5:Row5 r):lawRead (paperT q)=none:=by
 have m:9∈(zQ r).cps.toList:=by
  obtain⟨ks,e1,e2⟩:=Zx (r:=r) fun c hc=>by
   obtain⟨⟨k,_,e⟩,_⟩:=h5.2 c hc
   exact⟨k,e⟩
  rw [e1]
  have:sgn 9∈ks.map sgn:=by rw [<- e2];exact List.mem_map.2 ⟨_,hc,rfl⟩
  obtain⟨k,hk,e⟩:=List.mem_map.1 this
  rw [<- Z2 e]
  exact hk
 unfold lawRead
 rw [if_pos (.inr (.inr (.inr (zbj (List.mem_append_left _ (List.mem_map.2 ⟨r,hr,rfl⟩)) m))))]
theorem kM {α:Type}(xs:List α) (n:Nat):zY xs none (some (n:Int))=xs.take n:=by
 unfold zY
 rw [HT.sIx_none]
 have:HT.sIx xs.length xs.length (some (n:Int))=min n xs.length:=by
  simp [HT.sIx]
  omega
 rw [this,Nat.sub_zero,List.drop_zero]
 rcases Nat.le_total n xs.length with h |h
 ·rw [Nat.min_eq_left h]
 ·rw [Nat.min_eq_right h,List.take_of_length_le (Nat.le_refl _),List.take_of_length_le h]
theorem zbk {α:Type}(xs:List α) (n:Nat):zY xs (some (n:Int)) none=xs.drop n:=by
 unfold zY
 rw [HT.sIx_none]
 have:HT.sIx xs.length 0 (some (n:Int))=min n xs.length:=by
  simp [HT.sIx]
  omega
 rw [this]
 rcases Nat.le_total n xs.length with h |h
 ·rw [Nat.min_eq_left h,List.take_of_length_le (by rw [List.length_drop];exact Nat.le_refl _)]
 ·rw [Nat.min_eq_right h,List.drop_of_length_le (Nat.le_refl _),List.drop_of_length_le h,List.take_nil]
theorem UG {α:Type}(n:Nat) (xs:List α):((List.replicate n xs).flatten).length=n*xs.length:=by
 induction n with
 |zero=>simp
 |succ n ih=>rw [List.replicate_succ,List.flatten_cons,List.length_append,ih,Nat.succ_mul];omega
theorem UH {α:Type}{n:Nat}{xs:List α}{x:α}(h:x∈(List.replicate n xs).flatten):x∈xs:=by
 obtain⟨l,hl,hx⟩:=List.mem_flatten.1 h
 rw [(List.mem_replicate.1 hl).2] at hx
 exact hx
theorem UI {α β:Type}(f:α->β) (n:Nat) (xs:List α):(List.replicate n (xs.map f)).flatten=((List.replicate n xs).flatten).map f:=by
 rw [List.map_flatten,List.map_replicate]
theorem jX (q:Pc):pd (rowsP q)=.list (q.map fun r=>PyData.list (r.map zp)):=by
 unfold pd rowsP
 rw [List.map_map]
 rfl
noncomputable def F25:W->Option PyData:=fun w=>match w with |.d (.list cs)=>some (.list ((xV 25 cs).take 25)) |_=>none
theorem Ky {O:OM}{ds:List PyData}:qB O (.d (.list ds))=some ds:=by
 show yh (ds.map W.d)=some ds
 exact zf _
inductive sNoPic (ws:List W) (O:OM) (R:WK):Prop
 |mk:∀ p:Pc,∀ w:Nat,∀ c:Int,ws=[.d (pd (rowsP p)),.d (.int c)]->okV p w->0≤c->(∀ q:Pc,Pic5 q->lawRead (paperT q)=none->R (.d (pd (rowsP q))) O)->sNoPic ws O R
section
variable {P:Program}{w:World}{K:W.Frag}{mg:Str->Option Value}{base:Heap}{f:Addr}{fd:FuncData}{bw sw hf:Addr}{se bp bs bi ba un:Addr}
theorem j4 (F:Fun K "_law_no_picture" "_law_no_picture" xR f fd) (T:Txt P w K mg bw sw hf):FnOk P w K mg base CX0 1 f fd ["_law_picture_here","_law_cell"] (zd K sNoPic):=by
  have nd:=vT.nd
  apply F.okV vT (by rintro _ _ _ ⟨p,w,c,rfl,_⟩;rfl) (fun cdv A outer sh H E hr=>(zb (zh (i:=2) nd rfl (Or.inl rfl) (zE (zZ (K:=K) rfl) (pv 0) (qy ut za) (fun _ _=>rfl)))
      (zb (zL (PW.pt (Y8 (zq yr (zc zG (pv 1) za) za (zt _)) (ZC (zq Y1 (zk (ye (K:=K) rfl) (by rfl) T.n_len (by rfl) (QA.pa (qc (pv 0) qn))) za (zt _))))) (ze (zi (zc (yT (K:=K) rfl) (zH (yg (K:=K) rfl) (pv 0) zW (zF (qy ut za))) (zR (qc (zc (yT (K:=K) rfl) (pv 2) (zH (yg (K:=K) rfl) (pv 2) zW (zF za))) qn))))) zw)
      (zb (zL (zq yr (zc zG (pv 1) za) za (zt _)) (ze (zi (zH (yg (K:=K) rfl) (zc (jS (K:=K) rfl) (pv 0) za) zW (zF za)))) zw)
      (zb (zL (zq yr (zc zG (pv 1) za) za (zt _)) (ze (zi (xa (xk (N:=["_law_line_here"]) (n:=1) (js:=[])) rfl (z7 (K:=K) rfl (pv 0)) (fun _ _ _ _=>(zv (i:=0) (show List.Nodup (["_law_line_here"]:List Str) by decide +kernel) rfl (Or.inl rfl))) (fun _ _ _ _=>yx) (fun _ _ _ _=>(zH (yg (K:=K) rfl) (zc (jS (K:=K) rfl) (pv 0) za) zW (zF za)))))) zw)
      (ze (zi (zc (yT (K:=K) rfl) (zH (yg (K:=K) rfl) (pv 0) zW (zF (qy ut za))) (zR (qc (zc (yT (K:=K) rfl) (zR (qc (yR (qc zj (qc (zE (xp (K:=K) rfl) (zE (zZ (K:=K) rfl) (pv 2) za (fun _ _=>rfl)) za (fun _ _=>rfl)) qn))) qn)) (zH (yg (K:=K) rfl) (pv 2) (zF za) zW)) qn))))))))))
  · walk_at "ref"
  rintro _ O R ⟨p,w0,c,rfl,ok,c0,h⟩
  obtain⟨l,r,rfl⟩:∃ l r,p=l ++ [r]:=by
    rcases List.eq_nil_or_concat p with e | ⟨l,r,e⟩
    · have:=ok.1.1
      rw [e] at this
      cases this
    · exact⟨l,r,by rw [e,List.concat_eq_append]⟩
  have er:rowsP (l ++ [r])=rowsP l ++ [r.map zp]:=by unfold rowsP;rw [List.map_append];rfl
  have p5:=Zy ok
  have hr5:=p5.2 r (by simp)
  have hl5:∀ q∈l,Row5 q:=fun q hq=>p5.2 q (List.mem_append_left _ hq)
  have okr:=ok.1.2.2 r (by simp)
  have lr:=(ok.2 r (by simp)).1
  have h12:=ok.1.2.1
  have long:∀ q∈l ++ [r ++ r.take 1],Row5 q:=fun q hq=>by
    rcases List.mem_append.1 hq with hq |hq
    · exact hl5 q hq
    · cases List.mem_singleton.1 hq
      refine⟨?_,fun c hc=>?_⟩
      · rw [List.length_append,List.length_take]
        have:=okr.2.1
        omega
      · rcases List.mem_append.1 hc with hc |hc
        · exact hr5.2 c hc
        · exact hr5.2 c (List.mem_of_mem_take hc)
  unfold pd
  rw [er,List.map_append,List.map_cons,List.map_nil]
  refine zN (fun ρ' O'=>ρ'=[some (.d (.list ((rowsP l).map .list ++ [.list (r.map zp)]))),some (.d (.int c)),some (.d (.list (r.map zp)))]/\O=O') (fun R1 hR1=>?_) ?_
  · walk_at "wd"
    exact⟨_,rfl,.d (.list (r.map zp)),by rw [List.map_append];exact Vg,hR1 _ _ ⟨rfl,rfl⟩⟩
  rintro _ _ ⟨rfl,rfl⟩
  refine zN (fun ρ' O'=>ρ'=[some (.d (.list ((rowsP l).map .list ++ [.list (r.map zp)]))),some (.d (.int c)),some (.d (.list (r.map zp)))]/\O=O') (fun R1 hR1=>?_) ?_
  · walk_at "wd"
    split
    · refine⟨l.length+1,by rw [yJ,List.length_append,List.length_map,rowsP,List.length_map];rfl,?_⟩
      split
      · rename_i c1
        have ct:zY (r.map zp) none (some 1)=(r.take 1).map zp:=by
          rw [List.map_take]
          exact kM _ 1
        have r1:=okr.1
        have r2:=okr.2.1
        have t1:(r.take 1).length= 1:=by rw [List.length_take];omega
        refine⟨_,rfl,_,zf _,_,rfl,_,zf _,_,rfl,_,rfl,_,zf _,_,zf _,?_,_,rfl,_,rfl,_,zf _,_,zf [_],?_,.inl ?_⟩
        · rw [ct,List.length_map,List.length_map]
          omega
        · rw [jH,List.length_map,rowsP,List.length_map]
          show _+1≤_
          rw [List.length_append] at h12
          omega
        · have:=h (l ++ [r ++ r.take 1]) ⟨by rw [List.length_append] at h12 ⊢;show _+1≤_;have h12':l.length+1≤12:=h12;omega,fun q hq=>?_⟩ (Yk ⟨by rw [List.length_append] at h12 ⊢;show _+1≤_;have h12':l.length+1≤12:=h12;omega,fun q hq=>?_⟩ fun p' w' ok' _ e=>?_)
          · rw [jX,List.map_append] at this
            rw [jH,ct,<- List.map_append]
            have e2:(rowsP l).map PyData.list=l.map fun r=>PyData.list (r.map zp):=by unfold rowsP;rw [List.map_map];rfl
            rw [e2]
            exact this
          · exact long q hq
          · exact long q hq
          · cases l with
            |nil=>simp at c1
            |cons a l=>
              have la:=(ok.2 a (by simp)).1
              have all:∀ n∈p'.map List.length,n=w':=fun n hn=>by
                obtain⟨r',hr',rfl⟩:=List.mem_map.1 hn
                exact (ok'.2 r' hr').1
              rw [e] at all
              have z1:=all a.length (by simp)
              have z2:=all (r ++ r.take 1).length (by simp)
              rw [List.length_append,t1] at z2
              omega
      · exact hR1 _ _ ⟨rfl,rfl⟩
    · exact hR1 _ _ ⟨rfl,rfl⟩
  rintro _ _ ⟨rfl,rfl⟩
  refine zN (fun ρ' O'=>ρ'=[some (.d (.list ((rowsP l).map .list ++ [.list (r.map zp)]))),some (.d (.int c)),some (.d (.list (r.map zp)))]/\O=O') (fun R1 hR1=>?_) ?_
  · walk_at "wd"
    split
    · refine⟨_,Ky,?_,_,rfl,_,zf _,.inl ?_⟩
      · rw [List.length_append,List.length_map,rowsP,List.length_map]
        rw [List.length_append] at h12
        have h12':l.length+1≤12:=h12
        show (l.length+1)*13≤_
        omega
      · have ll:((List.replicate 13 (l ++ [r])).flatten).length= 13*(l ++ [r]).length:=UG 13 _
        have l13:(((List.replicate 13 (l ++ [r])).flatten).take 13).length= 13:=by
          rw [List.length_take,ll,List.length_append]
          show min 13 (13*(l.length+1))= 13
          omega
        have q5:Pic5 (((List.replicate 13 (l ++ [r])).flatten).take 13):=⟨by rw [l13];exact Nat.le_refl _,fun q hq=>p5.2 q (UH (List.mem_of_mem_take hq))⟩
        have:=h _ q5 (Yk q5 fun p' w' ok' e _=>by
          rw [l13] at e
          have:=ok'.1.2.1
          omega)
        rw [jX,List.map_take,<- UI,List.map_append] at this
        have e2:(rowsP l).map PyData.list=l.map fun r=>PyData.list (r.map zp):=by unfold rowsP;rw [List.map_map];rfl
        rw [e2]
        have ec:zY (xV 13 (l.map (fun r=>PyData.list (r.map zp)) ++ [PyData.list (r.map zp)])) none (some 13)=(xV 13 (l.map (fun r=>PyData.list (r.map zp)) ++ [PyData.list (r.map zp)])).take 13:=kM _ 13
        rw [ec]
        exact this
    · exact hR1 _ _ ⟨rfl,rfl⟩
  rintro _ _ ⟨rfl,rfl⟩
  refine zN (fun ρ' O'=>ρ'=[some (.d (.list ((rowsP l).map .list ++ [.list (r.map zp)]))),some (.d (.int c)),some (.d (.list (r.map zp)))]/\O=O') (fun R1 hR1=>?_) ?_
  · walk_at "wd"
    split
    · have e2:(rowsP l).map PyData.list ++ [PyData.list (r.map zp)]=(l ++ [r]).map fun r=>PyData.list (r.map zp):=by unfold rowsP;rw [List.map_map,List.map_append];rfl
      rw [e2]
      refine⟨_,rfl,by rw [List.length_map,List.length_map];omega,F25,fun w hw us hu=>?_,.inl ?_⟩
      · obtain⟨u,rfl⟩:=List.length_eq_one_iff.1 hu
        rw [List.map_map] at hw
        obtain⟨q,hq,rfl⟩:=List.mem_map.1 hw
        have q1:=(p5.2 q hq).1
        refine⟨rfl,rfl,q.map zp,Ky,rfl,by rw [List.length_map];omega,_,rfl,_,zf _,?_⟩
        show some (W.d (.list (zY (xV 25 (q.map zp)) none (some 25))))=some (W.d (.list ((xV 25 (q.map zp)).take 25)))
        rw [show zY (xV 25 (q.map zp)) none (some 25)=(xV 25 (q.map zp)).take 25 from kM _ 25]
      · rw [List.map_map,xq (l ++ [r]) (W.d ∘ fun r=>PyData.list (r.map zp)) F25 (fun q=>.list ((((List.replicate 25 q).flatten).take 25).map zp)) (fun q=>by
          show some (PyData.list ((xV 25 (q.map zp)).take 25))=_
          rw [List.map_take,<- UI]
          rfl)]
        have le:∀ q∈l ++ [r],(((List.replicate 25 q).flatten).take 25).length= 25:=fun q hq=>by
          rw [List.length_take,UG]
          have:=(ok.1.2.2 q hq).1
          omega
        have q5:Pic5 ((l ++ [r]).map fun q=>((List.replicate 25 q).flatten).take 25):=⟨by rw [List.length_map];omega,fun q hq=>by
          obtain⟨q',hq',rfl⟩:=List.mem_map.1 hq
          exact⟨by rw [le q' hq'];exact Nat.le_refl _,fun c hc=>(p5.2 q' hq').2 c (UH (List.mem_of_mem_take hc))⟩⟩
        have:=h _ q5 (Yk q5 fun p' w' ok' _ e=>by
          rw [List.map_map] at e
          cases p' with
          |nil=>have:=ok'.1.1;cases this
          |cons a p'=>
            have a24:=(ok'.1.2.2 a List.mem_cons_self).2.1
            have m:a.length∈(a :: p').map List.length:=by simp
            rw [e] at m
            obtain⟨q,hq,eq⟩:=List.mem_map.1 m
            have eq':(((List.replicate 25 q).flatten).take 25).length=a.length:=eq
            rw [le q hq] at eq'
            omega)
        rw [jX,List.map_map] at this
        exact this
    · exact hR1 _ _ ⟨rfl,rfl⟩
  rintro _ _ ⟨rfl,rfl⟩
  walk_at "wd"
  cases r with
  |nil=>have:=okr.1;cases this
  |cons r0 r'=>
    have cd:zY ((r0 :: r').map zp) (some 1) none=r'.map zp:=zbk _ 1
    refine⟨_,rfl,_,zf _,_,rfl,.d (zp r0),Xv,_,rfl,.int r0.2,rfl,_,rfl,_,zf _,_,rfl,_,rfl,_,zf [_],_,zf _,?_,_,rfl,_,rfl,_,zf _,_,zf [_],?_,.inl ?_⟩
    · rw [cd,List.length_map]
      have:=hr5.1
      simp only [List.length_cons] at this ⊢
      simp only [List.length_nil]
      omega
    · rw [jH,List.length_map,rowsP,List.length_map]
      rw [List.length_append] at h12
      have h12':l.length+1≤12:=h12
      show _+1≤_
      omega
    · have r5:Row5 ((sgn 9,r0.2) :: r'):=⟨hr5.1,fun c hc=>by
        rcases List.mem_cons.1 hc with rfl |hc
        · exact⟨⟨9,.inr rfl,rfl⟩,(hr5.2 r0 List.mem_cons_self).2⟩
        · exact hr5.2 c (List.mem_cons_of_mem _ hc)⟩
      have q5:Pic5 (l ++ [(sgn 9,r0.2) :: r']):=⟨by rw [List.length_append] at h12 ⊢;have h12':l.length+1≤12:=h12;show l.length+1≤_;omega,fun q hq=>by
        rcases List.mem_append.1 hq with hq |hq
        · exact hl5 q hq
        · cases List.mem_singleton.1 hq
          exact r5⟩
      have:=h _ q5 (zfv (r:=(sgn 9,r0.2) :: r') (by simp) List.mem_cons_self r5)
      rw [jX,List.map_append] at this
      rw [jH,cd]
      have e2:(rowsP l).map PyData.list=l.map fun r=>PyData.list (r.map zp):=by unfold rowsP;rw [List.map_map];rfl
      rw [e2]
      exact this
end
inductive sLaw25 (ws:List W) (O:OM) (R:WK):Prop
 |mk:∀ ns:List Int,ws=[.d (.list (ns.map .int))]->ns.length≤63->(∀ O',R (.d (.bool true)) O')->sLaw25 ws O R
theorem QS:lawRead (Str.ofString "")=none:=by
 unfold lawRead
 rw [if_pos (.inr (.inl (by decide +kernel)))]
noncomputable def QT:List Str->List Value->Bool
 |[],[]=>true
 |s :: ss,.str z _ :: vs=>s == z && QT ss vs
 |_,_=>false
theorem YR:∀ {ss:List Str}{vs:List Value},QT ss vs=true->Vals (ss.map V.str) vs
 |[],[],_=>.nil
 |s :: ss,.str z t :: vs,h=>by
  simp only [QT,Bool.and_eq_true,beq_iff_eq] at h
  obtain⟨rfl,h⟩:=h
  exact .cons ⟨t,rfl⟩ (YR h)
noncomputable def Yl (K:W.Frag) (a:Addr) (ss:List Str):Bool:=match K.lookup a with
  |some o=>o.cls == .type "tuple" && o.dict.isNone && (match o.data with
    |.seq its _=>decide (its.size≤1000) && QT ss its.toList
    |_=>false)
  |none=>false
theorem Kz {K:W.Frag}{a:Addr}{ss:List Str}(h:Yl K a ss=true):(∃ o,K.lookup a=some o/\o.cls=.type "tuple"/\o.dict=none)/\∀ Z:Hp,SqT K Z a (ss.map V.str):=by
 unfold Yl at h
 split at h
 ·rename_i o ho
  simp only [Bool.and_eq_true] at h
  obtain⟨⟨h1,h2⟩,h3⟩:=h
  have h1:=beq_iff_eq.mp h1
  refine⟨⟨o,ho,h1,by simpa using h2⟩,fun Z=>.inr ?_⟩
  split at h3
  ·rename_i its n hd
   simp only [Bool.and_eq_true,decide_eq_true_iff] at h3
   exact⟨o,its,n,ho,h1,hd,by rw [sizeLine_eq];omega,YR h3.2⟩
  ·cases h3
 ·cases h
section
variable {P:Program}{w:World}{K:W.Frag}{mg:Str->Option Value}{base:Heap}{f:Addr}{fd:FuncData}{bw sw hf:Addr}{se bp bs bi ba un:Addr}
theorem zfw (F:Fun K "law" "law" QG f fd) (T:Txt P w K mg bw sw hf) (zhe:Cal P w K mg base 2 "_law_stretched" [] (zd K sStr24)) (zg8:Cal P w K mg base 2 "_law_picture" [] (zd K sPicL)) (zha:Cal P w K mg base 9 "_law_refused" [] (zd K sRef25)) (zg1:Cal P w K mg base 1 "_law_at" [] (zd K sAtL))
    (zg7:Cal P w K mg base 3 "_law_paper" [] (zd K sLPaper)) (zg9:Cal P w K mg base 3 "_law_read" [] (zd K sRead)) (zhb:Cal P w K mg base 10 "_law_right" [] (zd K sRight)) (zg2:Cal P w K mg base 1 "_law_bent" [] (zd K sBent)) (zg6:Cal P w K mg base 1 "_law_no_picture" [] (zd K sNoPic)):FnOk P w K mg base CX0 11 f fd ["_law_script"] (zd K sLaw25):=by
  have nd:=Kl.nd
  apply F.okV Kl (by rintro _ _ _ ⟨ns,rfl,_⟩;rfl) (fun cdv A outer sh H E hr=>(zb (zh (i:=1) nd rfl (Or.inl rfl) (zr zhe (hr.mono (by decide)) rfl (QA.pa (qc (zr zg8 (hr.mono (by decide)) rfl (QA.pa (qc (pv 0) (qc za qn)))) (qc (pv 0) (qc za qn))))))
      (zb (zh (i:=2) nd rfl (Or.inl rfl) (zr zg7 (hr.mono (by decide)) rfl (QA.pa (qc (pv 1) qn))))
      (zb (zL (PW.pt (yQ (zq (Jp (K:=K) rfl hr.units) (zr zg9 (hr.mono (by decide)) rfl (QA.pa (qc (pv 2) qn))) (pv 1) (zt _)) (xi (yK (yS (zr zhb (hr.mono (by decide)) rfl (QA.pa (qc (pv 2) qn)))))))) (ze (zi x5)) zw)
      (zb (y7 PassesOwn.never rfl (y6 rfl T.n_range (QA.pa (qc (zc zy za (zk (Q2 rfl) (by rfl) T.n_min (by rfl) (QA.pa (qc (zk (ye (K:=K) rfl) (by rfl) T.n_len (by rfl) (QA.pa (qc (pv 0) qn))) (qc za qn))))) qn))) (zv (i:=3) nd rfl (Or.inl rfl))
      (zb (zh (i:=4) nd rfl (Or.inl rfl) (zr zg2 (hr.mono (by decide)) rfl (QA.pa (qc (pv 2) (qc (zc zy (zc yF (zr zg1 (hr.mono (by decide)) rfl (QA.pa (qc (pv 0) (qc (zc zy za (zc yF za (pv 3))) qn)))) za) (zc zG (zr zg1 (hr.mono (by decide)) rfl (QA.pa (qc (pv 0) (qc (zc zy za (pv 3)) qn)))) za)) qn)))))
      (zb (zh (i:=5) nd rfl (Or.inl rfl) (zr zg2 (hr.mono (by decide)) rfl (QA.pa (qc (pv 4) (qc (zc zy (zc yF (zr zg1 (hr.mono (by decide)) rfl (QA.pa (qc (pv 0) (qc (zc zy za (zc yF za (pv 3))) qn)))) za) (zc zG (zr zg1 (hr.mono (by decide)) rfl (QA.pa (qc (pv 0) (qc (zc zy za (pv 3)) qn)))) za)) qn)))))
      (ze (zL (PW.pt (yQ (yK (yS (zr zhb (hr.mono (by decide)) rfl (QA.pa (qc (pv 4) qn))))) (yQ (yK (yS (zr zhb (hr.mono (by decide)) rfl (QA.pa (qc (pv 5) qn))))) (xi (yK (yS (zr zhb (hr.mono (by decide)) rfl (QA.pa (qc (pv 2) qn))))))))) (ze (zi x5)) zw)))))
      (zb (zL (yK (yS (zr zha (hr.mono (by decide)) rfl (QA.pa (qc (zr zg7 (hr.mono (by decide)) rfl (QA.pa (qc (zr zg6 (hr.mono (by decide)) rfl (QA.pa (qc (pv 1) (qc (zr zg1 (hr.mono (by decide)) rfl (QA.pa (qc (pv 0) (qc za qn)))) qn)))) qn))) qn))))) (ze (zi x5)) zw)
      (zb (zh (i:=6) nd rfl (Or.inl rfl) (zE (zZ (K:=K) rfl) (zR (qc xE (qc za (qc x5 (qc (zR (qc (pv 2) qn)) (qc (yR (qc (pv 2) qn)) (qc K2 (qc (zR qn) (qc (pv 1) qn))))))))) (zc zG (zr zg1 (hr.mono (by decide)) rfl (QA.pa (qc (pv 0) (qc za qn)))) za) (fun _ _=>rfl)))
      (ze (zi (xy (zr zha (hr.mono (by decide)) rfl (QA.pa (qc (pv 6) qn))) (xy (zr zha (hr.mono (by decide)) rfl (QA.pa (qc zj qn))) (vO (zr zhb (hr.mono (by decide)) rfl (QA.pa (qc (pv 2) qn)))))))))))))))
  · walk_at "ref"
  rintro _ O R ⟨ns,rfl,hl,h⟩
  refine zN (fun ρ' O'=>Ex2 fun rows x=>An2 (PicOk rows x) (ρ'=[some (.d (.list (ns.map .int))),some (.d (pd rows)),none,none,none,none,none])) (fun R1 hR1=>?_) ?_
  · walk_at "wd"
    exact⟨ns,3,rfl,by decide,by decide,fun a x O1 oka=>⟨a,x,ns,300,rfl,oka,by decide,by decide,fun a' O2 oka'=>hR1 _ _ ⟨a',x,oka',rfl⟩⟩⟩
  rintro _ O1 ⟨rows,x,okp,rfl⟩
  obtain⟨p,ep,okp4⟩:=okp.pc
  subst ep
  obtain⟨w0,okv⟩:=Ux okp4 okp.pic
  have p5:=Zy okv
  have tx:=tx5 p5
  have tl:=zdE okv
  have rd:=Uo okv
  have sh:=kJ (rows:=rowsP p) fun r hr=>(okp.row r hr).2
  refine zN (fun ρ' O'=>ρ'=[some (.d (.list (ns.map .int))),some (.d (pd (rowsP p))),some (.d (.str (paperT p))),none,none,none,none]) (fun R1 hR1=>?_) ?_
  · walk_at "wd"
    exact⟨p,rfl,p5,hR1 _ _ rfl⟩
  rintro _ O2 rfl
  refine zN (fun ρ' O'=>ρ'=[some (.d (.list (ns.map .int))),some (.d (pd (rowsP p))),some (.d (.str (paperT p))),none,none,none,none]) (fun R1 hR1=>?_) ?_
  · walk_at "wd"
    refine⟨_,rfl,tx,by omega,?_⟩
    rw [rd]
    exact⟨_,rfl,_,rfl,sh.1,sh.1,(iff_of_eq (if_pos sh.2)).mpr ⟨_,rfl,tx,by omega,hR1 _ _ rfl⟩⟩
  rintro _ O3 rfl
  refine zN (fun ρ' O'=>Ex3 fun v3 v4 v5=>ρ'=[some (.d (.list (ns.map .int))),some (.d (pd (rowsP p))),some (.d (.str (paperT p))),v3,v4,v5,none]) (fun R1 hR1=>?_) ?_
  · walk_at "wd"
    refine⟨_,yJ,by split <;> omega,by split <;> omega,?_⟩
    refine yN.rng (f:=fun i=>(i:Int)) (fun i ρ O'=>Ex3 fun v3 v4 v5=>ρ=[some (.d (.list (ns.map .int))),some (.d (pd (rowsP p))),some (.d (.str (paperT p))),v3,v4,v5,none]) ⟨_,_,_,rfl⟩ ?_ ?_
    · rintro i _ O' hi ⟨v3,v4,v5,rfl⟩ R2 hR2
      have hi:i≤20:=by split at hi <;> omega
      simp only [x8]
      refine zN (fun ρ' O'=>Ex1 fun b=>An2 (bentB (paperT p) b) (ρ'=[some (.d (.list (ns.map .int))),some (.d (pd (rowsP p))),some (.d (.str (paperT p))),some (.d (.int i)),some (.d (.str b)),v5,none])) (fun R3 hR3=>?_) ?_
      · walk_at "wd"
        refine⟨mulL (by decide) (by decide),ns,320+2*i,rfl,by omega,by omega,fun n n0 n1=>?_⟩
        refine⟨mulR (by decide) (by decide),ns,400+i,rfl,by omega,by omega,fun m m0 m1=>?_⟩
        exact⟨by decide,_,_,rfl,tx,by omega,by omega,by omega,fun b hb=>hR3 _ _ ⟨b,hb,rfl⟩⟩
      rintro _ O4 ⟨b,hb,rfl⟩
      refine zN (fun ρ' O'=>Ex1 fun d=>An2 (bentB b d) (ρ'=[some (.d (.list (ns.map .int))),some (.d (pd (rowsP p))),some (.d (.str (paperT p))),some (.d (.int i)),some (.d (.str b)),some (.d (.str d)),none])) (fun R3 hR3=>?_) ?_
      · walk_at "wd"
        have bl:=hb.2
        refine⟨mulL (by decide) (by decide),ns,321+2*i,rfl,by omega,by omega,fun n n0 n1=>?_⟩
        refine⟨mulR (by decide) (by decide),ns,440+i,rfl,by omega,by omega,fun m m0 m1=>?_⟩
        exact⟨by decide,_,_,rfl,hb.1,by omega,by omega,by omega,fun d hd=>hR3 _ _ ⟨d,hd,rfl⟩⟩
      rintro _ O5 ⟨d,hd,rfl⟩
      have bl:=hb.2
      have dl:=hd.2
      walk_at "wd"
      exact⟨_,rfl,hb.1,by omega,_,rfl,hd.1,by omega,_,rfl,tx,by omega,hR2 _ _ ⟨_,_,_,rfl⟩⟩
    · rintro _ O' ⟨v3,v4,v5,rfl⟩
      exact hR1 _ _ ⟨_,_,_,rfl⟩
  rintro _ O4 ⟨v3,v4,v5,rfl⟩
  refine zN (fun ρ' O'=>ρ'=[some (.d (.list (ns.map .int))),some (.d (pd (rowsP p))),some (.d (.str (paperT p))),v3,v4,v5,none]) (fun R1 hR1=>?_) ?_
  · walk_at "wd"
    refine⟨ns,1,rfl,by decide,by decide,fun n n0 n1=>⟨p,w0,n,rfl,okv,n0,fun q q5 qn=>⟨q,rfl,q5,_,rfl,fun z ez=>?_,hR1 _ _ rfl⟩⟩⟩
    cases ez
    exact⟨tx5 q5,Nat.le_trans (zgk q5) (by decide),qn⟩
  rintro _ O5 rfl
  refine zN (fun ρ' O'=>Ex1 fun d=>An2 ((∀ z,d≠.str z)) (ρ'=[some (.d (.list (ns.map .int))),some (.d (pd (rowsP p))),some (.d (.str (paperT p))),v3,v4,v5,some (.d d)])) (fun R1 hR1=>?_) ?_
  · walk_at "wd"
    refine⟨ns,0,rfl,by decide,by decide,fun n n0 n1=>⟨by decide,_,rfl,?_⟩⟩
    obtain⟨v,ev,d,rfl,hd⟩:=zcp (xs:=List.map W.d [PyData.none,PyData.int 5,PyData.bool true,PyData.list [PyData.str (paperT p)],PyData.tuple [PyData.str (paperT p)],PyData.dict [],PyData.list [],pd (rowsP p)]) (i:=n%8) (R:=fun v=>∃ d,v=W.d d/\∀ z,d≠.str z) (by omega) (by show n%8 < 8;omega) (by
      intro v hv
      simp only [List.map_cons,List.map_nil,List.mem_cons,List.not_mem_nil,or_false] at hv
      rcases hv with rfl |rfl |rfl |rfl |rfl |rfl |rfl |rfl <;> exact⟨_,rfl,fun z e=>by cases e⟩)
    exact⟨_,ev,hR1 _ _ ⟨d,hd,rfl⟩⟩
  rintro _ O6 ⟨d,hd,rfl⟩
  walk_at "wd"
  have em:okTx (Str.ofString ""):=fun c hc=>nomatch hc
  refine⟨_,rfl,fun z e=>absurd e (hd z),.inr ⟨rfl,_,rfl,fun z e=>?_,.inr ⟨rfl,_,rfl,tx,by omega,.inl (h _)⟩⟩⟩
  cases e
  exact⟨em,by decide,QS⟩
end
noncomputable abbrev EF (K:W.Frag) (mg:Str->Option Value) (x:Str) (st:Stmt):Prop:=∃ f fd,Fun K x x st f fd/\mg x=some (.ref f)
theorem fk {K:W.Frag}{h:Heap}{mg:Str->Option Value}{x:Str}{st:Stmt}{f:Addr}{oc kV doc pm cd ct:Value}{od an:Option Addr}{sl:Array (Option Value)}(X:K.In h) (G:h.Ns mainGlobals mg)
  (a:PySem.W.nsIn K mainGlobals x=some (some (.ref f))) (l:K.lookup f=some ⟨oc,od,.func (PySem.W.fnOf x x (defArgs st) (defBody st) (defScope st) .none kV doc pm an cd ct),sl⟩) (c:PySem.W.codeIn K cd x=true) (k:PySem.W.keepIn K (.ref f)=true) :
  EF K mg x st:=⟨f,_,zd1 (st:=st) l c k,PySem.W.mg_of X G a⟩
theorem yA {K:W.Frag}{x qual:Str}{st:Stmt}{f:Addr}{fd:FuncData}{ps:List Str}(F:Fun K x qual st f fd) (hl:ps.length= 1) (hb:∀ kV doc pm an cdv ct a0,bindArgs (PySem.W.fnOf x qual (defArgs st) (defBody st) (defScope st) .none kV doc pm an cdv ct) ⟨[a0],[]⟩=pure (ps.zip [a0])):Binds K fd ps []:=F.binds fun _ _ _ _ _ _ us h=>match us,h.trans hl with |[a0],_=>hb _ _ _ _ _ _ _
theorem qR {K:W.Frag}{x qual:Str}{st:Stmt}{f:Addr}{fd:FuncData}{ps:List Str}(F:Fun K x qual st f fd) (hl:ps.length= 2) (hb:∀ kV doc pm an cdv ct a0 a1,bindArgs (PySem.W.fnOf x qual (defArgs st) (defBody st) (defScope st) .none kV doc pm an cdv ct) ⟨[a0,a1],[]⟩=pure (ps.zip [a0,a1])):Binds K fd ps []:=F.binds fun _ _ _ _ _ _ us h=>match us,h.trans hl with |[a0,a1],_=>hb _ _ _ _ _ _ _ _
theorem zfx {K:W.Frag}{x qual:Str}{st:Stmt}{f:Addr}{fd:FuncData}{ps:List Str}(F:Fun K x qual st f fd) (hl:ps.length= 3) (hb:∀ kV doc pm an cdv ct a0 a1 a2,bindArgs (PySem.W.fnOf x qual (defArgs st) (defBody st) (defScope st) .none kV doc pm an cdv ct) ⟨[a0,a1,a2],[]⟩=pure (ps.zip [a0,a1,a2])):Binds K fd ps []:=F.binds fun _ _ _ _ _ _ us h=>match us,h.trans hl with |[a0,a1,a2],_=>hb _ _ _ _ _ _ _ _ _
theorem all_mk {P:Program}{w:World}{K:W.Frag}{mg:Str->Option Value}{fa se bp bs bi ba un:Addr}{bw sw hf:Addr}(T:Txt P w K mg bw sw hf) (X:TxtX K mg se bp bs bi ba un) (hfa:mg "law" =some (.ref fa))
  (zig:EF K mg "_law_at" jz)
  (ziu:EF K mg "_law_stretched" xX)
  (zit:EF K mg "_law_size" uZ)
  (zis:EF K mg "_law_sign" uY)
  (zin:EF K mg "_law_picture" vz)
  (ziN:EF K mg "likely_row" uJ)
  (ziL:EF K mg "likely_ink" uH)
  (ziy:EF K mg "fore_of" jq)
  (zix:EF K mg "back_of" jr)
  (ziA:EF K mg "ink_text" uc)
  (ziz:EF K mg "ink_by_text" vW)
  (ziO:EF K mg "many_by_text" vx)
  (ziB:EF K mg "inks_by_text" vy)
  (ziM:EF K mg "likely_picture" xW)
  (ziJ:EF K mg "is_whole" qM)
  (ziI:EF K mg "is_size" jv)
  (ziH:EF K mg "is_sign" jt)
  (ziE:EF K mg "is_ink" kB)
  (ziD:EF K mg "is_cell" ju)
  (ziG:EF K mg "is_row" kC)
  (ziF:EF K mg "is_picture" uI)
  (ziP:EF K mg "need_picture" vv)
  (ziU:EF K mg "text_of" jw)
  (ziw:EF K mg "alike_spans" vX)
  (ziT:EF K mg "stretches" uX)
  (ziS:EF K mg "stretch_text" vw)
  (ziC:EF K mg "inks_text" vH)
  (ziQ:EF K mg "paper_of" qN)
  (ziR:EF K mg "picture_of" ve)
  (ziq:EF K mg "_law_refused" vA)
  (ziv:EF K mg "_law_text" vJ)
  (zij:EF K mg "_law_inks" vK)
  (zim:EF K mg "_law_paper" uK)
  (zii:EF K mg "_law_ink" qO)
  (zik:EF K mg "_law_line" qd)
  (zio:EF K mg "_law_read" qe)
  (zir:EF K mg "_law_right" uL)
  (zih:EF K mg "_law_bent" qb)
  (zil:EF K mg "_law_no_picture" xR)
  (ziK:EF K mg "law" QG) :
  ∃ fd:FuncData,(∀ (s:Shared) (v:Value),BindsTo s fd ⟨[v],[]⟩ [("_law_script",v)])/\∀ base:Heap,K.In base->base.Ns mainGlobals mg->FnOk P w K mg base CX0 11 fa fd ["_law_script"] (zd K sLaw25):=by
 obtain⟨ziV,zhC,zgn,zjz⟩:=zig
 obtain⟨zi8,zhP,zgA,zjM⟩:=ziu
 obtain⟨zi7,zhO,zgz,zjL⟩:=zit
 obtain⟨zi6,zhN,zgy,zjK⟩:=zis
 obtain⟨zi2,zhJ,zgu,zjG⟩:=zin
 obtain⟨zjr,zh8,zgT,zj5⟩:=ziN
 obtain⟨zjp,zh6,zgR,zj3⟩:=ziL
 obtain⟨zjc,zhT,zgE,zjQ⟩:=ziy
 obtain⟨zjb,zhS,zgD,zjP⟩:=zix
 obtain⟨zje,zhV,zgG,zjS⟩:=ziA
 obtain⟨zjd,zhU,zgF,zjR⟩:=ziz
 obtain⟨zjs,zh9,zgU,zj6⟩:=ziO
 obtain⟨zjf,zhW,zgH,zjT⟩:=ziB
 obtain⟨zjq,zh7,zgS,zj4⟩:=ziM
 obtain⟨zjn,zh4,zgP,zj1⟩:=ziJ
 obtain⟨zjm,zh3,zgO,zj0⟩:=ziI
 obtain⟨zjl,zh2,zgN,zjZ⟩:=ziH
 obtain⟨zji,zhZ,zgK,zjW⟩:=ziE
 obtain⟨zjh,zhY,zgJ,zjV⟩:=ziD
 obtain⟨zjk,zh1,zgM,zjY⟩:=ziG
 obtain⟨zjj,zh0,zgL,zjX⟩:=ziF
 obtain⟨zjt,zia,zgV,zj7⟩:=ziP
 obtain⟨zjy,zif,zg0,zkc⟩:=ziU
 obtain⟨zja,zhR,zgC,zjO⟩:=ziw
 obtain⟨zjx,zie,zgZ,zkb⟩:=ziT
 obtain⟨zjw,zid,zgY,zka⟩:=ziS
 obtain⟨zjg,zhX,zgI,zjU⟩:=ziC
 obtain⟨zju,zib,zgW,zj8⟩:=ziQ
 obtain⟨zjv,zic,zgX,zj9⟩:=ziR
 obtain⟨zi4,zhL,zgw,zjI⟩:=ziq
 obtain⟨zi9,zhQ,zgB,zjN⟩:=ziv
 obtain⟨ziY,zhF,zgq,zjC⟩:=zij
 obtain⟨zi1,zhI,zgt,zjF⟩:=zim
 obtain⟨ziX,zhE,zgp,zjB⟩:=zii
 obtain⟨ziZ,zhG,zgr,zjD⟩:=zik
 obtain⟨zi3,zhK,zgv,zjH⟩:=zio
 obtain⟨zi5,zhM,zgx,zjJ⟩:=zir
 obtain⟨ziW,zhD,zgo,zjA⟩:=zih
 obtain⟨zi0,zhH,zgs,zjE⟩:=zil
 obtain⟨zjo,zh5,zgQ,zj2⟩:=ziK
 rw [hfa] at zj2
 cases zj2
 refine⟨zh5,fun s v=>?_,fun base _ _=>?_⟩
 ·obtain⟨oc,od,kV,doc,pm,an,cdv,ct,osl,rfl,_⟩:=zgQ.ex
  exact .of_eq rfl
 have zg1:Cal P w K mg base 1 "_law_at" [] (zd K sAtL):=⟨ziV,zhC,_,[],Kp zgn T,zjz,zgn.kp,qR zgn rfl fun _ _ _ _ _ _ _ _=>rfl,.nil⟩
 have zhe:Cal P w K mg base 2 "_law_stretched" [] (zd K sStr24):=⟨zi8,zhP,_,[],kI zgA T zg1,zjM,zgA.kp,zfx zgA rfl fun _ _ _ _ _ _ _ _ _=>rfl,.nil⟩
 have zhd:Cal P w K mg base 1 "_law_size" [] (zd K sSizeL):=⟨zi7,zhO,_,[],Vz zgz T,zjL,zgz.kp,yA zgz rfl fun _ _ _ _ _ _ _=>rfl,.nil⟩
 have zhc:Cal P w K mg base 1 "_law_sign" [] (zd K sSignL):=⟨zi6,zhN,_,[],Vy zgy T,zjK,zgy.kp,yA zgy rfl fun _ _ _ _ _ _ _=>rfl,.nil⟩
 have zg8:Cal P w K mg base 2 "_law_picture" [] (zd K sPicL):=⟨zi2,zhJ,_,[],Z6 zgu T zhd zg1 zhc,zjG,zgu.kp,qR zgu rfl fun _ _ _ _ _ _ _ _=>rfl,.nil⟩
 have zhv:Cal P w K mg base 1 "likely_row" [] (zd K sLRow):=⟨zjr,zh8,_,[],YZ zgT T,zj5,zgT.kp,qR zgT rfl fun _ _ _ _ _ _ _ _=>rfl,.nil⟩
 have zht:Cal P w K mg base 1 "likely_ink" [] (zd K sLik):=⟨zjp,zh6,_,[],YX zgR T,zj3,zgR.kp,yA zgR rfl fun _ _ _ _ _ _ _=>rfl,.nil⟩
 have zhi:Cal P w K mg base 1 "fore_of" [] (zd K sFore):=⟨zjc,zhT,_,[],QL zgE T,zjQ,zgE.kp,yA zgE rfl fun _ _ _ _ _ _ _=>rfl,.nil⟩
 have zhh:Cal P w K mg base 1 "back_of" [] (zd K sBack):=⟨zjb,zhS,_,[],QM zgD T,zjP,zgD.kp,yA zgD rfl fun _ _ _ _ _ _ _=>rfl,.nil⟩
 have zhk:Cal P w K mg base 2 "ink_text" [] (zd K sInkT):=⟨zje,zhV,_,[],VA zgG T zhi zhh,zjS,zgG.kp,yA zgG rfl fun _ _ _ _ _ _ _=>rfl,.nil⟩
 have zhj:CalXz true P w K mg base 3 "ink_by_text" [] (zU K (sByText bi)):=⟨zjd,zhU,_,[],Z8 zgF T X zht zhk,zjR,zgF.kp,yA zgF rfl fun _ _ _ _ _ _ _=>rfl,.nil⟩
 have zhw:Cal P w K mg base 1 "many_by_text" [] (zd K sMany):=⟨zjs,zh9,_,[],Zr zgU T,zj6,zgU.kp,yA zgU rfl fun _ _ _ _ _ _ _=>rfl,.nil⟩
 have zhl:CalX P w K mg base 4 "inks_by_text" [] (zU K (sInksBy ba)):=⟨zjf,zhW,_,[],Zt zgH T X zhj zhw,zjT,zgH.kp,yA zgH rfl fun _ _ _ _ _ _ _=>rfl,.nil⟩
 have zhu:CalX P w K mg base 5 "likely_picture" [] (zU K (sLPic ba)):=⟨zjq,zh7,_,[],jZ zgS T zhv zhl,zj4,zgS.kp,yA zgS rfl fun _ _ _ _ _ _ _=>rfl,.nil⟩
 have zhs:Cal P w K mg base 1 "is_whole" [] (zd K sWholeD):=⟨zjn,zh4,_,[],Vx zgP T,zj1,zgP.kp,zfx zgP rfl fun _ _ _ _ _ _ _ _ _=>rfl,.nil⟩
 have zhr:Cal P w K mg base 2 "is_size" [] (zd K sSizeD):=⟨zjm,zh3,_,[],QK zgO T zhs,zj0,zgO.kp,qR zgO rfl fun _ _ _ _ _ _ _ _=>rfl,.nil⟩
 have zhq:Cal P w K mg base 1 "is_sign" [] (zd K sSignD):=⟨zjl,zh2,_,[],QI zgN T,zjZ,zgN.kp,yA zgN rfl fun _ _ _ _ _ _ _=>rfl,.nil⟩
 have zho:Cal P w K mg base 2 "is_ink" [] (zd K sInkD):=⟨zji,zhZ,_,[],Km zgK T zhs,zjW,zgK.kp,yA zgK rfl fun _ _ _ _ _ _ _=>rfl,.nil⟩
 have zhn:Cal P w K mg base 3 "is_cell" [] (zd K sCellD):=⟨zjh,zhY,_,[],QJ zgJ T zhq zho,zjV,zgJ.kp,yA zgJ rfl fun _ _ _ _ _ _ _=>rfl,.nil⟩
 have zhp:Cal P w K mg base 4 "is_row" [] (zd K sRowD):=⟨zjk,zh1,_,[],Kn zgM T zhn,zjY,zgM.kp,qR zgM rfl fun _ _ _ _ _ _ _ _=>rfl,.nil⟩
 have c_is_picture:Cal P w K mg base 5 "is_picture" [] (zd K sPicD):=⟨zjj,zh0,_,[],YW zgL T zhr zhp,zjX,zgL.kp,yA zgL rfl fun _ _ _ _ _ _ _=>rfl,.nil⟩
 have zhx:CalX P w K mg base 6 "need_picture" [] (zU K (sNeed bp)):=⟨zjt,zia,_,[],Zo zgV T X c_is_picture,zj7,zgV.kp,yA zgV rfl fun _ _ _ _ _ _ _=>rfl,.nil⟩
 have zhB:Cal P w K mg base 1 "text_of" [] (zd K sTextOf):=⟨zjy,zif,_,[],QN zg0 T,zkc,zg0.kp,yA zg0 rfl fun _ _ _ _ _ _ _=>rfl,.nil⟩
 have zhg:Cal P w K mg base 1 "alike_spans" [] (zd K sAlike):=⟨zja,zhR,_,[],Z9 zgC T,zjO,zgC.kp,yA zgC rfl fun _ _ _ _ _ _ _=>rfl,.nil⟩
 have zhA:Cal P w K mg base 2 "stretches" [] (zd K sStr6):=⟨zjx,zie,_,[],X3 zgZ T zhg,zkb,zgZ.kp,yA zgZ rfl fun _ _ _ _ _ _ _=>rfl,.nil⟩
 have zhz:Cal P w K mg base 3 "stretch_text" [] (zd K sStT):=⟨zjw,zid,_,[],Zq zgY T zhk,zka,zgY.kp,qR zgY rfl fun _ _ _ _ _ _ _ _=>rfl,.nil⟩
 have zhm:Cal P w K mg base 4 "inks_text" [] (zd K sInks):=⟨zjg,zhX,_,[],X6 zgI T zhA zhz,zjU,zgI.kp,yA zgI rfl fun _ _ _ _ _ _ _=>rfl,.nil⟩
 have c_paper_of:CalX P w K mg base 7 "paper_of" [] (zU K (sPaperOf bp)):=⟨zju,zib,_,[],VC zgW T zhx zhB zhm,zj8,zgW.kp,yA zgW rfl fun _ _ _ _ _ _ _=>rfl,.nil⟩
 have zhy:CalX P w K mg base 8 "picture_of" [] (zU K (sPicOf ba)):=⟨zjv,zic,_,[],Y0 zgX T X zhu c_is_picture c_paper_of,zj9,zgX.kp,yA zgX rfl fun _ _ _ _ _ _ _=>rfl,.nil⟩
 have zha:Cal P w K mg base 9 "_law_refused" [] (zd K sRef25):=⟨zi4,zhL,_,[],Ye zgw T X zhy,zjI,zgw.kp,yA zgw rfl fun _ _ _ _ _ _ _=>rfl,.nil⟩
 have zhf:Cal P w K mg base 1 "_law_text" [] (zd K sTextL):=⟨zi9,zhQ,_,[],VB zgB T,zjN,zgB.kp,yA zgB rfl fun _ _ _ _ _ _ _=>rfl,.nil⟩
 have zg4:Cal P w K mg base 2 "_law_inks" [] (zd K sLInks):=⟨ziY,zhF,_,[],VH zgq T zhf,zjC,zgq.kp,yA zgq rfl fun _ _ _ _ _ _ _=>rfl,.nil⟩
 have zg7:Cal P w K mg base 3 "_law_paper" [] (zd K sLPaper):=⟨zi1,zhI,_,[],Vl zgt T zg4,zjF,zgt.kp,yA zgt rfl fun _ _ _ _ _ _ _=>rfl,.nil⟩
 have zg3:Cal P w K mg base 1 "_law_ink" [] (zd K sInkL):=⟨ziX,zhE,_,[],QO zgp T,zjB,zgp.kp,yA zgp rfl fun _ _ _ _ _ _ _=>rfl,.nil⟩
 have zg5:Cal P w K mg base 2 "_law_line" [] (zd K sLine):=⟨ziZ,zhG,_,[],VF zgr T zg3,zjD,zgr.kp,qR zgr rfl fun _ _ _ _ _ _ _ _=>rfl,.nil⟩
 have zg9:Cal P w K mg base 3 "_law_read" [] (zd K sRead):=⟨zi3,zhK,_,[],VG zgv T zg5,zjH,zgv.kp,yA zgv rfl fun _ _ _ _ _ _ _=>rfl,.nil⟩
 have zhb:Cal P w K mg base 10 "_law_right" [] (zd K sRight):=⟨zi5,zhM,_,[],Vi zgx T zg9 zha zhy,zjJ,zgx.kp,yA zgx rfl fun _ _ _ _ _ _ _=>rfl,.nil⟩
 have zg2:Cal P w K mg base 1 "_law_bent" [] (zd K sBent):=⟨ziW,zhD,_,[],VE zgo T,zjA,zgo.kp,qR zgo rfl fun _ _ _ _ _ _ _ _=>rfl,.nil⟩
 have zg6:Cal P w K mg base 1 "_law_no_picture" [] (zd K sNoPic):=⟨zi0,zhH,_,[],j4 zgs T,zjE,zgs.kp,qR zgs rfl fun _ _ _ _ _ _ _ _=>rfl,.nil⟩
 exact zfw zgQ T zhe zg8 zha zg1 zg7 zg9 zhb zg2 zg6
theorem txt_mk {P:Program}{w:World}{bw sw hf:Addr}{K:W.Frag}{h:Heap}{mg:Str->Option Value}{t_LAST_INK t_WIDEST t_HIGHEST t_PERCENT_SIGN:Tok}(X:K.In h) (G:h.Ns mainGlobals mg)
  (n_len:PySem.W.nsIn K mainGlobals "len" =some none)
  (n_range:PySem.W.nsIn K mainGlobals "range" =some none)
  (n_int:PySem.W.nsIn K mainGlobals "int" =some none)
  (n_bool:PySem.W.nsIn K mainGlobals "bool" =some none)
  (n_str:PySem.W.nsIn K mainGlobals "str" =some none)
  (n_list:PySem.W.nsIn K mainGlobals "list" =some none)
  (n_tuple:PySem.W.nsIn K mainGlobals "tuple" =some none)
  (n_isinstance:PySem.W.nsIn K mainGlobals "isinstance" =some none)
  (n_ord:PySem.W.nsIn K mainGlobals "ord" =some none)
  (n_all:PySem.W.nsIn K mainGlobals "all" =some none)
  (n_min:PySem.W.nsIn K mainGlobals "min" =some none)
  (n_zip:PySem.W.nsIn K mainGlobals "zip" =some none)
  (n_enumerate:PySem.W.nsIn K mainGlobals "enumerate" =some none)
  (g_LAST_INK:PySem.W.nsIn K mainGlobals "LAST_INK" =some (some (.int 511 t_LAST_INK)))
  (g_WIDEST:PySem.W.nsIn K mainGlobals "WIDEST" =some (some (.int 24 t_WIDEST)))
  (g_HIGHEST:PySem.W.nsIn K mainGlobals "HIGHEST" =some (some (.int 12 t_HIGHEST)))
  (g_PERCENT_SIGN:PySem.W.nsIn K mainGlobals "PERCENT_SIGN" =some (some (.int 37 t_PERCENT_SIGN)))
  (g_bw:PySem.W.nsIn K mainGlobals "BITS_BY_WORD" =some (some (.ref bw)))
  (g_sw:PySem.W.nsIn K mainGlobals "STEPS_BY_WORD" =some (some (.ref sw)))
  (g_hf:PySem.W.nsIn K mainGlobals "HUE_FIGURES" =some (some (.ref hf)))
  (d_bw:DS P w K bw bitsD)
  (d_sw:DS P w K sw stepsD)
  (d_hf:Yl K hf figs=true)
  : Txt P w K mg bw sw hf:=
 ⟨PySem.W.mg_none_of X G n_len,PySem.W.mg_none_of X G n_range,PySem.W.mg_none_of X G n_int,PySem.W.mg_none_of X G n_bool,PySem.W.mg_none_of X G n_str,PySem.W.mg_none_of X G n_list,PySem.W.mg_none_of X G n_tuple,PySem.W.mg_none_of X G n_isinstance,PySem.W.mg_none_of X G n_ord,PySem.W.mg_none_of X G n_all,PySem.W.mg_none_of X G n_min,PySem.W.mg_none_of X G n_zip,PySem.W.mg_none_of X G n_enumerate,⟨t_LAST_INK,PySem.W.mg_of X G g_LAST_INK⟩,⟨t_WIDEST,PySem.W.mg_of X G g_WIDEST⟩,⟨t_HIGHEST,PySem.W.mg_of X G g_HIGHEST⟩,⟨t_PERCENT_SIGN,PySem.W.mg_of X G g_PERCENT_SIGN⟩,PySem.W.mg_of X G g_bw,PySem.W.mg_of X G g_sw,PySem.W.mg_of X G g_hf,d_bw,d_sw,(Kz d_hf).1,(Kz d_hf).2⟩
theorem xclass_mk {K:W.Frag}{C:Addr}(ga:PySem.W.findIn K (.ref C) "__getattribute__" =some (some (.builtin "BaseException.__getattribute__"))) (gh:PySem.W.findIn K (.ref C) "__getattr__" =some none)
  (cl:PySem.W.findIn K (.ref C) "__class__" =some (some (.builtin "object.__class__"))) (sp:PySem.W.specialIn K (.builtin "object.__class__") "__get__" =some (some (.builtin "getset_descriptor.__get__"))) (tk:PySem.W.takesIn K (.builtin "object.__class__")=some true)
  (mo:PySem.W.mroIn K C (.type "object")=some true) (mb:PySem.W.mroIn K C (.type "BaseException")=some true) (hd:PySem.W.hasDictIn K C=true):XClass K C:=
 ⟨ga,gh,cl,sp,tk,mo,mb,by
  obtain⟨cd,hc,_⟩:=PySem.W.any_some hd
  rw [hc]
  rfl⟩
theorem txtx_mk {K:W.Frag}{h:Heap}{mg:Str->Option Value}{se bp bs bi ba un:Addr}(X:K.In h) (G:h.Ns mainGlobals mg) (c_se:PySem.W.nsIn K mainGlobals "ScreenError" =some (some (.ref se))) (c_bp:PySem.W.nsIn K mainGlobals "BadPicture" =some (some (.ref bp))) (c_bs:PySem.W.nsIn K mainGlobals "BadSize" =some (some (.ref bs))) (c_bi:PySem.W.nsIn K mainGlobals "BadInk" =some (some (.ref bi))) (c_ba:PySem.W.nsIn K mainGlobals "BadPaper" =some (some (.ref ba))) (c_un:PySem.W.nsIn K mainGlobals "Unlike" =some (some (.ref un))) (nv:PySem.W.nsIn K mainGlobals "ValueError" =some none) (xm_bp:PySem.W.excIn K bp [.type "ValueError",.type "Exception",.type "BaseException",.type "object"] "ValueError.__new__" =true) (xm_bi:PySem.W.excIn K bi [.type "ValueError",.type "Exception",.type "BaseException",.type "object"] "ValueError.__new__" =true) (xm_ba:PySem.W.excIn K ba [.type "ValueError",.type "Exception",.type "BaseException",.type "object"] "ValueError.__new__" =true) (xc_bp:XClass K bp) (xc_bi:XClass K bi) (xc_ba:XClass K ba) (k_bp_se:PySem.W.exmOne K (.ref bp) (.ref se)=some true) (k_bp_bp:PySem.W.kitOne K (.ref bp) (.ref bp)=some true) (k_bp_bs:PySem.W.kitOne K (.ref bp) (.ref bs)=some false) (k_bp_bi:PySem.W.kitOne K (.ref bp) (.ref bi)=some false) (k_bp_ba:PySem.W.kitOne K (.ref bp) (.ref ba)=some false) (k_bp_un:PySem.W.kitOne K (.ref bp) (.ref un)=some false) (k_bp_ve:PySem.W.kitOne K (.ref bp) (.type "ValueError")=some true) (k_bi_se:PySem.W.exmOne K (.ref bi) (.ref se)=some true) (k_bi_bp:PySem.W.kitOne K (.ref bi) (.ref bp)=some false) (k_bi_bs:PySem.W.kitOne K (.ref bi) (.ref bs)=some false) (k_bi_bi:PySem.W.kitOne K (.ref bi) (.ref bi)=some true) (k_bi_ba:PySem.W.kitOne K (.ref bi) (.ref ba)=some false) (k_bi_un:PySem.W.kitOne K (.ref bi) (.ref un)=some false) (k_bi_ve:PySem.W.kitOne K (.ref bi) (.type "ValueError")=some true) (k_ba_se:PySem.W.exmOne K (.ref ba) (.ref se)=some true) (k_ba_bp:PySem.W.kitOne K (.ref ba) (.ref bp)=some false) (k_ba_bs:PySem.W.kitOne K (.ref ba) (.ref bs)=some false) (k_ba_bi:PySem.W.kitOne K (.ref ba) (.ref bi)=some false) (k_ba_ba:PySem.W.kitOne K (.ref ba) (.ref ba)=some true) (k_ba_un:PySem.W.kitOne K (.ref ba) (.ref un)=some false) (k_ba_ve:PySem.W.kitOne K (.ref ba) (.type "ValueError")=some true) (k_xbi:PySem.W.exmOne K (.ref bi) (.ref bi)=some true):TxtX K mg se bp bs bi ba un:=
 ⟨PySem.W.mg_of X G c_se,PySem.W.mg_of X G c_bp,PySem.W.mg_of X G c_bs,PySem.W.mg_of X G c_bi,PySem.W.mg_of X G c_ba,PySem.W.mg_of X G c_un,PySem.W.mg_none_of X G nv,⟨⟨_,_,_,_,PySem.F.excBase_ValueError,xm_bp⟩⟩,⟨⟨_,_,_,_,PySem.F.excBase_ValueError,xm_bi⟩⟩,⟨⟨_,_,_,_,PySem.F.excBase_ValueError,xm_ba⟩⟩,xc_bp,xc_bi,xc_ba,k_bp_se,k_bp_bp,k_bp_bs,k_bp_bi,k_bp_ba,k_bp_un,k_bp_ve,k_bi_se,k_bi_bp,k_bi_bs,k_bi_bi,k_bi_ba,k_bi_un,k_bi_ve,k_ba_se,k_ba_bp,k_ba_bs,k_ba_bi,k_ba_ba,k_ba_un,k_ba_ve,k_xbi⟩
end K25
namespace PySem.W.Fast
def tw10191707064949194636:=()
def tw8294018590648600270:=()
def tw830958239923017480:=()
def tw15741530139497381334:=()
def tw6609097765522085530:=()
def tw7179825751335600502:=()
def tw15359324933049650678:=()
def tw5919611447566210981:=()
def tw2314605638660138603:=()
def tw15092590899225433591:=()
def tw12936800391264301791:=()
def tw10647248780696761164:=()
def tw12934806238982203121:=()
def tw1451429640625341464:=()
def tw9005132983342069129:=()
def tw7826741170185072402:=()
def tw10751489612927859536:=()
def tw2519363641372212498:=()
def tw1083082717541406338:=()
def tw1057848738996087518:=()
def tw6419309681909893676:=()
def tw1936670876683728731:=()
def tw518350106180859927:=()
def tw9172003928696067844:=()
def tw4527429552182106621:=()
def tw11944784980963180563:=()
def tw12390315589441076093:=()
def tw10654956632059203643:=()
def tw9588239320158334887:=()
def tw3098644810400107685:=()
def tw8277529634647558396:=()
def tw11373697381190511747:=()
def tw7148688390915439025:=()
def tw14226059786036773529:=()
def tw4097745654109329180:=()
def tw4543552878011846321:=()
def tw4947969668821229751:=()
def tw2694267129502839265:=()
def tw10755191882219603208:=()
def tw17949080933799093505:=()
def tw6546724005318719129:=()
def tw9472797560716537241:=()
def tw13382064008444549169:=()
def tw1972087087902615542:=()
def tw14653801190808818318:=()
def tw10603062050924372651:=()
def tw11233516249836545327:=()
def tw8674464300510423440:=()
def tw4365620598687647995:=()
def tw436667689889195890:=()
def tw17331991220662275288:=()
def tw17136138040230529436:=()
def tw16113606549759504644:=()
def tw12133779129859248094:=()
def tw10483849021474665034:=()
def tw9216820845403728174:=()
def tw16348194791007183286:=()
def tw15780187996056154793:=()
def tw10327428512585419471:=()
def tw2389136619326551065:=()
def tw5435594445693180718:=()
def tw11262544314086782351:=()
def tw5355692448679936577:=()
def tw2258935402479709034:=()
def tw1793143168632861848:=()
def tw5707804968270467288:=()
def tw8401286516539183897:=()
def tw18400846761466528642:=()
def tw11340859959549450342:=()
def tw10227573961751262199:=()
def tw8869078455343816225:=()
end PySem.W.Fast
open PySem PySem.W PyProof.Rows
set_option maxRecDepth 100000 in
set_option maxHeartbeats 0 in
theorem PySem.Challenge.cw_signscreen_k25_papers_refused_holds : PySem.Challenge.rw_signscreen_k25_papers_refused.Holds := by
 w_on;o_law;k_head;(case hw=>w_witness2)
 k_fill
 refine L2.walkW (l:=PySem.Challenge.rw_signscreen_k25_papers_refused) (n:=63) (k:=11) (x:="_law_script") (s:=K25.sLaw25) rfl (by decide) rfl ⟨rfl,by decide,by decide,rfl⟩ (fun w h Y=>PySem.W.kIn_of Y) ?F (fun ns O R hl hb hR=>⟨ns,rfl,hl,hR⟩)
 case F=>
  intro w mg fa h KX G hmg
  refine' K25.all_mk ?T ?X hmg ?zig ?ziu ?zit ?zis ?zin ?ziN ?ziL ?ziy ?zix ?ziA ?ziz ?ziO ?ziB ?ziM ?ziJ ?ziI ?ziH ?ziE ?ziD ?ziG ?ziF ?ziP ?ziU ?ziw ?ziT ?ziS ?ziC ?ziQ ?ziR ?ziq ?ziv ?zij ?zim ?zii ?zik ?zio ?zir ?zih ?zil ?ziK
  case T=>
   refine' K25.txt_mk KX G ?n_len ?n_range ?n_int ?n_bool ?n_str ?n_list ?n_tuple ?n_isinstance ?n_ord ?n_all ?n_min ?n_zip ?n_enumerate ?g_LAST_INK ?g_WIDEST ?g_HIGHEST ?g_PERCENT_SIGN ?g_bw ?g_sw ?g_hf ?d_bw ?d_sw ?d_hf
   (case n_len=>k_is)
   (case n_range=>k_is)
   (case n_int=>k_is)
   (case n_bool=>k_is)
   (case n_str=>k_is)
   (case n_list=>k_is)
   (case n_tuple=>k_is)
   (case n_isinstance=>k_is)
   (case n_ord=>k_is)
   (case n_all=>k_is)
   (case n_min=>k_is)
   (case n_zip=>k_is)
   (case n_enumerate=>k_is)
   (case g_LAST_INK=>k_is)
   (case g_WIDEST=>k_is)
   (case g_HIGHEST=>k_is)
   (case g_PERCENT_SIGN=>k_is)
   (case g_bw=>k_is)
   (case g_sw=>k_is)
   (case g_hf=>k_is)
   (case d_bw=>exact L2.DS.of (by kernel_rfl) (by decide +kernel) (by kernel_rfl))
   (case d_sw=>exact L2.DS.of (by kernel_rfl) (by decide +kernel) (by kernel_rfl))
   (case d_hf=>kernel_rfl)
  case X=>
   refine' K25.txtx_mk KX G ?c_se ?c_bp ?c_bs ?c_bi ?c_ba ?c_un ?nv ?xm_bp ?xm_bi ?xm_ba ?xc_bp ?xc_bi ?xc_ba ?k_bp_se ?k_bp_bp ?k_bp_bs ?k_bp_bi ?k_bp_ba ?k_bp_un ?k_bp_ve ?k_bi_se ?k_bi_bp ?k_bi_bs ?k_bi_bi ?k_bi_ba ?k_bi_un ?k_bi_ve ?k_ba_se ?k_ba_bp ?k_ba_bs ?k_ba_bi ?k_ba_ba ?k_ba_un ?k_ba_ve ?k_xbi
   (case c_se=>k_is)
   (case c_bp=>k_is)
   (case c_bs=>k_is)
   (case c_bi=>k_is)
   (case c_ba=>k_is)
   (case c_un=>k_is)
   (case nv=>k_is)
   (case xm_bp=>k_exc)
   (case xm_bi=>k_exc)
   (case xm_ba=>k_exc)
   (case xc_bp=>(refine' K25.xclass_mk ?ga ?gh ?cl ?sp ?tk ?mo ?mb ?hd;(case ga=>k_is);(case gh=>k_is);(case cl=>k_is);(case sp=>k_is);(case tk=>k_is);(case mo=>k_is);(case mb=>k_is);(case hd=>k_is)))
   (case xc_bi=>(refine' K25.xclass_mk ?ga ?gh ?cl ?sp ?tk ?mo ?mb ?hd;(case ga=>k_is);(case gh=>k_is);(case cl=>k_is);(case sp=>k_is);(case tk=>k_is);(case mo=>k_is);(case mb=>k_is);(case hd=>k_is)))
   (case xc_ba=>(refine' K25.xclass_mk ?ga ?gh ?cl ?sp ?tk ?mo ?mb ?hd;(case ga=>k_is);(case gh=>k_is);(case cl=>k_is);(case sp=>k_is);(case tk=>k_is);(case mo=>k_is);(case mb=>k_is);(case hd=>k_is)))
   (case k_bp_se=>kts_exm)
   (case k_bp_bp=>kit_is)
   (case k_bp_bs=>kit_is)
   (case k_bp_bi=>kit_is)
   (case k_bp_ba=>kit_is)
   (case k_bp_un=>kit_is)
   (case k_bp_ve=>kit_is)
   (case k_bi_se=>kts_exm)
   (case k_bi_bp=>kit_is)
   (case k_bi_bs=>kit_is)
   (case k_bi_bi=>kit_is)
   (case k_bi_ba=>kit_is)
   (case k_bi_un=>kit_is)
   (case k_bi_ve=>kit_is)
   (case k_ba_se=>kts_exm)
   (case k_ba_bp=>kit_is)
   (case k_ba_bs=>kit_is)
   (case k_ba_bi=>kit_is)
   (case k_ba_ba=>kit_is)
   (case k_ba_un=>kit_is)
   (case k_ba_ve=>kit_is)
   (case k_xbi=>kts_exm)
  all_goals (refine' K25.fk KX G ?a ?l ?c ?k;(case a=>k_is);(case l=>k_is);(case c=>k_is);(case k=>k_is))
