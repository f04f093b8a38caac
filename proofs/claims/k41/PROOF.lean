import PyProof.Rows.All
import Wide.All
import OpenK.AllK
import Wide.FinOn
import Lean
import PyProof.EqAt
import PyProof.EqKinds
import PyProof.TupleCall
import PyProof.NeKinds
import PyProof.EnumMake
import PyProof.EnumStmt
import PyProof.Draws
import PyProof.WalksT
import PyProof.StrWalks
import PyProof.Rows.EnumRows
import PyProof.StrLawsIdx
import PyProof.StrBlockI
import PyProof.StationsW
import PyProof.ExcInit
import PyProof.ExcBaseAll.ValueError
import PyProof.ExcAttrAll.ValueError
import PyProof.Rows.CatchOwn
import PyProof.CompUse
import PyProof.CompFree
import PyProof.SetKind
import PyProof.SetScanFacts
import PyProof.SetRoads
import PyProof.SetNew
import PyProof.Rows.SetFrom
import PyProof.CollectWalk
import PyProof.Rows.SortShell
import PyProof.Cells
import PyProof.ListRange
import PyProof.ConsumeWalk
import PyProof.Tail
import PyProof.Rows.Range3
import PySem.Challenge.RW_holdtalk_k41_catches_walk
set_option Elab.async false
set_option linter.all false
set_option maxRecDepth 100000
namespace L2
open PySem PySem.Spec PyProof.Rows
abbrev JY:=Sum Int Str
def R0:JY→Value→Bool
 | .inl k,v=>Value.isInt k v
 | .inr x,v=>Value.isStrOf x v
def UY (w:World):JY→Int
 | .inl k=>hashInt k
 | .inr x=>hashStr w x
theorem Bf:∀{k:JY} {v:Value},R0 k v=true→(∃i t,k=Sum.inl i∧v=Value.int i t)∨(∃x t,k=Sum.inr x∧v=Value.str x t)
 | .inl i,v,h=>by
  obtain⟨t,e⟩:=Value.isInt_shape (k:=i) (v:=v) h
  exact .inl ⟨i,t,rfl,e⟩
 | .inr x,v,h=>by
  obtain⟨t,e⟩:=Value.isStrOf_shape (x:=x) (v:=v) h
  exact .inr ⟨x,t,rfl,e⟩
theorem SF (a b:Int):decide ((Sum.inl a:JY)=Sum.inl b)=(a == b):=by
 by_cases e:a=b
 ·subst e;simp
 ·have h:¬(Sum.inl a:JY)=Sum.inl b:=fun q=>e (Sum.inl.inj q)
  rw[decide_eq_false h]
  exact (beq_eq_false_iff_ne.mpr e).symm
theorem SA (a b:Str):decide ((Sum.inr a:JY)=Sum.inr b)=decide (a=b):=by
 by_cases e:a=b
 ·subst e;simp
 ·have h:¬(Sum.inr a:JY)=Sum.inr b:=fun q=>e (Sum.inr.inj q)
  rw[decide_eq_false h,decide_eq_false e]
theorem S7 (a:Int) (b:Str):decide ((Sum.inl a:JY)=Sum.inr b)=false:=decide_eq_false (fun q=>nomatch q)
theorem Sf (a:Str) (b:Int):decide ((Sum.inr a:JY)=Sum.inl b)=false:=decide_eq_false (fun q=>nomatch q)
def JI (prog:Program) (w:World):PySem.KeyKind prog w JY where
 is:=R0
 hash:=UY w
 inj:=fun v a b ha hb=>by
  rcases Bf ha with⟨i,t,rfl,rfl⟩|⟨x,t,rfl,rfl⟩
  ·rcases Bf hb with⟨j,u,rfl,e⟩|⟨y,u,rfl,e⟩
   ·injection e with e1 _;rw[e1]
   ·exact nomatch e
  ·rcases Bf hb with⟨j,u,rfl,e⟩|⟨y,u,rfl,e⟩
   ·exact nomatch e
   ·injection e with e1 _;rw[e1]
 byValue:=fun k v h=>by
  rcases Bf h with⟨i,t,rfl,rfl⟩|⟨x,t,rfl,rfl⟩<;>rfl
 pyHash:=fun hv h=>by
  rcases Bf hv with⟨i,t,rfl,rfl⟩|⟨x,t,rfl,rfl⟩
  ·exact wpAny_pyHash_int h
  ·exact wpAny_pyHash_str h
 eqBool:=fun hu hv h=>by
  rcases Bf hu with⟨i,t,rfl,rfl⟩|⟨x,t,rfl,rfl⟩
  ·rcases Bf hv with⟨j,u,rfl,rfl⟩|⟨y,u,rfl,rfl⟩
   ·rw[SF] at h;exact wpAny_eqBool_int h
   ·rw[S7] at h;exact SeqAt.EqAt.int_str i t y u _ _ _ _ h
  ·rcases Bf hv with⟨j,u,rfl,rfl⟩|⟨y,u,rfl,rfl⟩
   ·rw[Sf] at h;exact SeqAt.EqAt.str_int x t j u _ _ _ _ h
   ·rw[SA] at h;exact wpAny_eqBool_str h
 «strs»:=fun k x t v h=>by
  rcases Bf h with⟨i,u,rfl,e⟩|⟨y,u,rfl,e⟩
  ·exact nomatch e
  ·injection e with e1 _
   subst e1
   cases v<;>rfl
end L2
namespace L2
open PySem PySem.Spec PyProof.Rows
inductive V where
 | non | bl (b:Bool) | int (i:Int) | str (x:Str) | byt (b:Array UInt8) | flt (b:UInt64) | ref (a:Addr) | ty (n:String)
 deriving DecidableEq
def RelV:V→Value→Prop
 | .non,u=>u=Value.none
 | .bl b,u=>u=Value.bool b
 | .int i,u=>∃t,u=Value.int i t
 | .str x,u=>∃t,u=Value.str x t
 | .byt b,u=>∃t,u=Value.bytes b t
 | .flt b,u=>∃t,u=Value.float b t
 | .ref a,u=>u=Value.ref a
 | .ty n,u=>u=Value.type n
abbrev Vals:List V→List Value→Prop:=Paired RelV
theorem Vals.length {xs:List V} {us:List Value} (r:Vals xs us):xs.length=us.length:=Paired.length r
theorem Vals.get:∀{xs:List V} {us:List Value} {i:Nat} {x:V},Vals xs us→xs[i]? = some x→∃u,us[i]? = some u∧RelV x u
 | _,_,_,_,.nil,e=>by simp at e
 | _,_,0,_,.cons r _,e=>by simp at e;subst e;exact⟨_,rfl,r⟩
 | _,_,i+1,x,.cons _ t,e=>by
  obtain⟨u,h1,h2⟩:=Vals.get (i:=i) (x:=x) t (by simpa using e)
  exact⟨u,by simpa using h1,h2⟩
theorem Vals.append:∀{xs ys:List V} {us ws:List Value},Vals xs us→Vals ys ws→Vals (xs++ys) (us++ws)
 | _,_,_,_,.nil,s=>s
 | _,_,_,_,.cons r t,s=>.cons r (Vals.append t s)
theorem Vals.take:∀{xs:List V} {us:List Value} (n:Nat),Vals xs us→Vals (xs.take n) (us.take n)
 | _,_,0,_=>.nil
 | _,_,_+1,.nil=>.nil
 | _,_,n+1,.cons r t=>.cons r (Vals.take n t)
theorem Vals.drop:∀{xs:List V} {us:List Value} (n:Nat),Vals xs us→Vals (xs.drop n) (us.drop n)
 | _,_,0,r=>r
 | _,_,_+1,.nil=>.nil
 | _,_,n+1,.cons _ t=>Vals.drop n t
def RelO:Option V→Option Value→Prop
 | some v,some u=>RelV v u
 | none,none=>True
 | _,_=>False
def KV {κ:Type}:List (κ×V)→List (κ×Value)→Prop:=Paired fun (p:κ×V) (q:κ×Value)=>p.1=q.1∧RelV p.2 q.2
def kV:JY→V
 | .inl i=>.int i
 | .inr x=>.str x
inductive HO where
 | lst (xs:List V)
 | tup (xs:List V)
 | dK (kvs:List (JY×V)) | dT (kvs:List (List JY×V))
 | set (S:Int→Bool) (n:Nat)
 | ins (C dx:Addr) (fs:List (Str×V))
 | own (x:Addr)
 | xd (fs:List (Str×V))
 | met (f x:Addr)
 | rng (lo hi:Int)
 | frz (o:Obj) (u:HO)
 | tbl (ps:Array Value)
 | ext (φ:Heap→Prop)
abbrev Hp:=Addr→Option HO
def upd (H:Hp) (a:Addr) (o:HO):Hp:=fun b=>if b=a then some o else H b
theorem upd_same {H:Hp} {a:Addr} {o:HO}:upd H a o a=some o:=by unfold upd;rw[if_pos rfl]
theorem Ax {H:Hp} {a b:Addr} {o:HO} (h:b≠a):upd H a o b=H b:=by unfold upd;rw[if_neg h]
theorem Ev {H:Hp} {a b:Addr} {o u:HO} (h:H a=some o) (h':H b=some u) (d:o≠u):a≠b:=by
 intro e;subst e;rw[h] at h';exact d (Option.some.inj h')
theorem Am {H:Hp} {a b:Addr} {o:HO} (h:H a=some o) (h':H b=none):a≠b:=by
 intro e;subst e;rw[h] at h';cases h'
section
variable (P:Program) (w:World)
def ObjOk (H:Hp) (h:Heap) (a:Addr):HO→Prop
 | .lst xs=>xs.length≤sizeLine∧∃(its:List Value) (n:Nat),Vals xs its∧h.get? a=some { cls:=.type "list",data:=.seq its.toArray n }
 | .tup xs=>xs.length≤sizeLine∧∃its:List Value,Vals xs its∧IsTup h a its.toArray
 | .dK kvs=>kvs.length≤sizeLine∧(a == sysModules)=false∧∃vs,KV kvs vs∧h.DictOf (JI P w) a vs
 | .dT kvs=>kvs.length≤sizeLine∧(a == sysModules)=false∧∃xs:List (List JY×Addr×Value),
   Paired (fun (p:List JY×V) (q:List JY×Addr×Value)=>p.1=q.1∧H q.2.1=some (.tup (p.1.map kV))∧RelV p.2 q.2.2) kvs xs∧
   ∃o es ep,h.get? a=some o∧o.ExactDict∧o.data= .dict es ep∧es.toList=xs.map (entryOfKey (tupleKind (JI P w)))∧(xs.map (·.1)).Nodup
 | .set S n=>h.SetOf (intKind P w) a S n
 | .ins C dx fs=>H dx=some (.own a)∧fs.length≤1000∧dx≠a∧h.get? a=some (PySem.W.instObj C dx)∧
   ∃mA,h.Ns1 dx mA∧(∀f,RelO (fs.lookup f) (mA f))∧PySem.Within mA (fs.map (·.1))
 | .own _=>∃o,h.get? a=some o
 | .xd fs=>∃mA,h.Ns1 a mA∧∀f,RelO (fs.lookup f) (mA f)
 | .rng lo hi=>∃t u v,h.get? a=some { cls:=.type "range",data:=.fields #[.int lo t,.int hi u,.int 1 v] }
 | .frz o u=>h.get? a=some o∧ObjOk H h a u
 | .tbl ps=>h.get? a=some { cls:=.none,data:=.fields ps }
 | .met f x=>h.get? a=some (PySem.W.methodObj (.ref f) (.ref x))
 | .ext φ=>φ h∧(∃o,h.get? a=some o)∧∀h1 h2:Heap,φ h1→(∀o,h1.get? a=some o→h2.get? a=some o)→φ h2
def HOk (H:Hp) (h:Heap):Prop:=∀a o,H a=some o→ObjOk P w H h a o
end
section
variable {P:Program} {w:World} {H H':Hp} {h h':Heap} {a:Addr} {o:HO}
theorem ObjOk.lt (x:ObjOk P w H h a o):a<h.objs.size:=by
 cases o with
 | lst xs=>obtain⟨_,_,_,_,e⟩:=x;exact Heap.lt_size e
 | tup xs=>obtain⟨_,_,_,p⟩:=x;exact p.lt
 | dK kvs=>obtain⟨_,_,_,_,o,_,_,e,_⟩:=x;exact Heap.lt_size e
 | dT kvs=>obtain⟨_,_,_,_,o,_,_,e,_⟩:=x;exact Heap.lt_size e
 | set S n=>obtain⟨o,_,_,_,e,_⟩:=x;exact Heap.lt_size e
 | ins C dx fs=>obtain⟨_,_,_,e,_⟩:=x;exact Heap.lt_size e
 | own y=>obtain⟨_,e⟩:=x;exact Heap.lt_size e
 | xd fs=>obtain⟨_,⟨_,_,_,e,_⟩,_⟩:=x;exact Heap.lt_size e
 | rng lo hi=>obtain⟨_,_,_,e⟩:=x;exact Heap.lt_size e
 | frz ob u=>obtain⟨e,_⟩:=x;exact Heap.lt_size e
 | tbl ps=>exact Heap.lt_size (show h.get? a=some _ from x)
 | met f y=>exact Heap.lt_size (show h.get? a=some _ from x)
 | ext φ=>obtain⟨_,⟨_,e⟩,_⟩:=x;exact Heap.lt_size e
theorem Paired.mapP {α β:Type} {F G:α→β→Prop}:∀{l₁:List α} {l₂:List β},Paired F l₁ l₂→(∀a b,F a b→G a b)→Paired G l₁ l₂
 | _,_,.nil,_=>.nil
 | _,_,.cons r t,f=>.cons (f _ _ r) (Paired.mapP t f)
theorem ObjOk.stay (x:ObjOk P w H h a o) (k:∀b u,(b=a∨H b=some (.own a))→h.get? b=some u→h'.get? b=some u)
  (ho:∀b,H b=some (.own a)→H' b=some (.own a)) (ht:∀b xs,H b=some (.tup xs)→H' b=some (.tup xs)):ObjOk P w H' h' a o:=by
 induction o with
 | lst xs=>obtain⟨z,its,n,r,e⟩:=x;exact⟨z,its,n,r,k _ _ (.inl rfl) e⟩
 | tup xs=>obtain⟨z,its,r,ob,e,c⟩:=x;exact⟨z,its,r,ob,k _ _ (.inl rfl) e,c⟩
 | dK kvs=>obtain⟨z,y,vs,r,ob,es,ep,e,c⟩:=x;exact⟨z,y,vs,r,ob,es,ep,k _ _ (.inl rfl) e,c⟩
 | dT kvs=>
  obtain⟨z,y,xs,r,ob,es,ep,e,c⟩:=x
  exact⟨z,y,xs,Paired.mapP r fun p q z=>⟨z.1,ht _ _ z.2.1,z.2.2⟩,ob,es,ep,k _ _ (.inl rfl) e,c⟩
 | set S n=>obtain⟨ob,es,ep,t,e,c⟩:=x;exact⟨ob,es,ep,t,k _ _ (.inl rfl) e,c⟩
 | ins C dx fs=>
  obtain⟨d,z,ne,e,mA,⟨od,es,ep,e2,c⟩,r⟩:=x
  exact⟨ho _ d,z,ne,k _ _ (.inl rfl) e,mA,⟨od,es,ep,k _ _ (.inr d) e2,c⟩,r⟩
 | own y=>obtain⟨ob,e⟩:=x;exact⟨ob,k _ _ (.inl rfl) e⟩
 | xd fs=>obtain⟨mA,⟨od,es,ep,e,c⟩,r⟩:=x;exact⟨mA,⟨od,es,ep,k _ _ (.inl rfl) e,c⟩,r⟩
 | rng lo hi=>obtain⟨t,u,v,e⟩:=x;exact⟨t,u,v,k _ _ (.inl rfl) e⟩
 | frz ob u ih=>obtain⟨e,q⟩:=x;exact⟨k _ _ (.inl rfl) e,ih q⟩
 | tbl ps=>
  have e:h.get? a=some { cls:=.none,data:=.fields ps }:=x
  show h'.get? a=some { cls:=.none,data:=.fields ps }
  exact k a _ (.inl rfl) e
 | met f y=>
  have e:h.get? a=some (PySem.W.methodObj (.ref f) (.ref y)):=x
  show h'.get? a=some (PySem.W.methodObj (.ref f) (.ref y))
  exact k a _ (.inl rfl) e
 | ext φ=>obtain⟨p,⟨o,e⟩,st⟩:=x;exact⟨st _ _ p fun o q=>k _ _ (.inl rfl) q,⟨o,k _ _ (.inl rfl) e⟩,st⟩
theorem HOk.lt (x:HOk P w H h) (e:H a=some o):a<h.objs.size:=(x a o e).lt
theorem HOk.fresh (x:HOk P w H h) (e:h.objs.size≤a):H a=none:=by
 cases q:H a with
 | none=>rfl
 | some u=>exact absurd (Nat.lt_of_lt_of_le (x.lt q) e) (Nat.lt_irrefl _)
theorem HOk.kept (x:HOk P w H h) (k:∀b u,h.get? b=some u→h'.get? b=some u):HOk P w H h':=fun a o e=>
 (x a o e).stay (fun b u _ q=>k b u q) (fun _ q=>q) fun _ _ q=>q
theorem HOk.laid (x:HOk P w H h) (k:∀b u,h.get? b=some u→h'.get? b=some u) (hp:h.objs.size≤a) (new:ObjOk P w (upd H a o) h' a o):HOk P w (upd H a o) h':=fun b u e=>by
 have hn:=x.fresh hp
 by_cases hb:b=a
 ·subst hb;rw[upd_same] at e;cases e;exact new
 ·rw[Ax hb] at e
  exact (x b u e).stay (fun c v _ q=>k c v q) (fun c q=>by rw[Ax (Am q hn)];exact q) fun c xs q=>by rw[Ax (Am q hn)];exact q
end
def Rd (H:Hp) (a:Addr) (u:HO):Prop:=H a=some u∨∃o,H a=some (.frz o u)
theorem Rd.ok {P:Program} {w:World} {H:Hp} {h:Heap} {a:Addr} {u:HO} (r:Rd H a u) (x:HOk P w H h):ObjOk P w H h a u:=by
 rcases r with r | ⟨o,r⟩
 ·exact x a u r
 ·obtain⟨_,q⟩:=x a _ r
  exact q
def Td:Option HO→Prop
 | some (.lst _)=>True
 | some (.dK _)=>True
 | some (.dT _)=>True
 | some (.set _ _)=>True
 | some (.ins _ _ _)=>True
 | some (.ext _)=>True
 | _=>False
section
variable {P:Program} {w:World} {H:Hp} {h h':Heap} {x e:Addr} {o':HO}
theorem HOk.write (ok:HOk P w H h) (mu:Td (H x)) (he:e=x∨H e=some (.own x)) (k:∀b u,b≠e→h.get? b=some u→h'.get? b=some u) (heo:∃u,h'.get? e=some u)
  (new:ObjOk P w (upd H x o') h' x o'):HOk P w (upd H x o') h':=fun b u q=>by
 have nown:∀c y,H c=some (.own y)→c≠x:=fun c y r z=>by subst z;rw[r] at mu;exact mu
 have ntup:∀c xs,H c=some (.tup xs)→c≠x:=fun c xs r z=>by subst z;rw[r] at mu;exact mu
 by_cases hb:b=x
 ·subst hb;rw[upd_same] at q;cases q;exact new
 ·rw[Ax hb] at q
  by_cases hbe:b=e
  ·have q':H b=some (.own x):=by
    rcases he with z | z
    ·exact absurd (hbe.trans z) hb
    ·rw[hbe];exact z
   rw[q] at q';cases q'
   obtain⟨v,hv⟩:=heo
   exact⟨v,by rw[hbe];exact hv⟩
  ·refine (ok b u q).stay (fun c v hc r=>k c v ?_ r) (fun c r=>by rw[Ax (nown c b r)];exact r) fun c xs r=>by rw[Ax (ntup c xs r)];exact r
   rcases hc with rfl | hc
   ·exact hbe
   ·rintro rfl
    rcases he with z | z
    ·exact nown c b hc z
    ·rw[hc] at z;cases z;exact hb rfl
end
structure Un (fs ex:List Addr) (H H':Hp) (h h':Heap):Prop where
 keep:∀b o,h.get? b=some o→H b=none→b∉fs→b∉ex→h'.get? b=some o
 slot:∀b o,h.get? b=some o→H b=none→b∈fs→b∉ex→∃sl,h'.get? b=some { o with slots:=sl }
 free:∀b o,h.get? b=some o→H b=none→b∉ex→H' b=none
 there:∀b o,h.get? b=some o→b∉ex→∃o',h'.get? b=some o'
 tups:∀b xs,H b=some (.tup xs)→H' b=some (.tup xs)
 frzs:∀b o u,H b=some (.frz o u)→H' b=some (.frz o u)
 tbls:∀b ps,H b=some (.tbl ps)→∃more,H' b=some (.tbl (ps++more))
section
variable {fs fs' ex ex':List Addr} {H H1 H2:Hp} {h h1 h2 h':Heap} {a x e:Addr} {o:HO}
theorem Un.any (u:Un fs ex H H1 h h1) {b:Addr} {ob:Obj} (q:h.get? b=some ob) (n:H b=none) (hx:b∉ex):∃sl,h1.get? b=some { ob with slots:=sl }:=by
 by_cases hb:b∈fs
 ·exact u.slot b ob q n hb hx
 ·exact⟨ob.slots,u.keep b ob q n hb hx⟩
theorem Un.kept (k:∀b u,h.get? b=some u→h'.get? b=some u):Un fs ex H H h h':=
 ⟨fun b ob q _ _ _=>k b ob q,fun b ob q _ _ _=>⟨ob.slots,k b ob q⟩,fun _ _ _ n _=>n,fun b ob q _=>⟨ob,k b ob q⟩,fun _ _ q=>q,fun _ _ _ q=>q,fun _ ps q=>⟨#[],by rw[q];simp⟩⟩
theorem Un.refl:Un fs ex H H h h:=Un.kept fun _ _ q=>q
theorem Un.laid (k:∀b u,h.get? b=some u→h'.get? b=some u) (hp:h.objs.size≤a) (hn:H a=none):Un fs ex H (upd H a o) h h' where
 keep:=fun b u q _ _ _=>k b u q
 slot:=fun b u q _ _ _=>⟨u.slots,k b u q⟩
 free:=fun b u q n _=>by rw[Ax (Nat.ne_of_lt (Nat.lt_of_lt_of_le (Heap.lt_size q) hp))];exact n
 there:=fun b u q _=>⟨u,k b u q⟩
 tups:=fun b xs q=>by rw[Ax (Am q hn)];exact q
 frzs:=fun b u xs q=>by rw[Ax (Am q hn)];exact q
 tbls:=fun b ps q=>⟨#[],by rw[Ax (Am q hn),q];simp⟩
theorem Un.write (mu:Td (H x)) (he:e=x∨H e=some (.own x)) (k:∀b u,b≠e→h.get? b=some u→h'.get? b=some u) (heo:∃u,h'.get? e=some u):Un fs ex H (upd H x o) h h':=by
 have hx:∀b,H b=none→b≠x:=fun b n z=>by subst z;rw[n] at mu;exact mu
 have hb:∀b,H b=none→b≠e:=fun b n z=>by
  subst z
  rcases he with r | r
  ·exact hx b n r
  ·rw[n] at r;cases r
 have hm:∀b u,H b=some u→¬Td (some u)→b≠x:=fun b u q nm z=>by subst z;rw[q] at mu;exact nm mu
 refine⟨fun b u q n _ _=>k b u (hb b n) q,fun b u q n _ _=>⟨u.slots,k b u (hb b n) q⟩,fun b u q n _=>by rw[Ax (hx b n)];exact n,fun b u q _=>?_,
  fun b xs q=>by rw[Ax (hm b _ q fun z=>z)];exact q,fun b u xs q=>by rw[Ax (hm b _ q fun z=>z)];exact q,fun b ps q=>⟨#[],by rw[Ax (hm b _ q fun z=>z),q];simp⟩⟩
 by_cases hbe:b=e
 ·subst hbe;exact heo
 ·exact⟨u,k b u hbe q⟩
end
def Ul (h:Heap) (H:Hp):List Addr:=(List.range h.objs.size).filter fun a=>(H a).isSome
def JK (h:Heap) (H:Hp):Heap:=PySem.W.hideAll h (Ul h H)
theorem Nf (h:Heap) (H:Hp):(JK h H).objs.size=h.objs.size:=PySem.W.hideAll_size _ _
theorem Qq {h:Heap} {H:Hp} {b:Addr} {o:Obj} (e:h.get? b=some o) (n:H b=none):(JK h H).get? b=some o:=
 PySem.W.hideAll_get _ e fun hm=>by
  have q:(H b).isSome=true:=(List.mem_filter.mp hm).2
  rw[n] at q;simp at q
theorem QE {h:Heap} {H:Hp} {b:Addr} {o:Obj} (e:(JK h H).get? b=some o):h.get? b=some o∧H b=none:=by
 have e':h.get? b=some o:=PySem.W.of_hideAll (Ul h H) e
 refine⟨e',?_⟩
 cases q:H b with
 | none=>rfl
 | some x=>
  have hm:b∈Ul h H:=List.mem_filter.mpr ⟨List.mem_range.mpr (Heap.lt_size e'),by simp[q]⟩
  have z:(JK h H).get? b=none:=PySem.W.hideAll_none (Ul h H) hm
  rw[z] at e;cases e
end L2
namespace L2
open PySem PySem.Spec PyProof.Rows
structure Mod (K:PySem.W.Frag) (mg:Str→Option Value) (base:Heap):Prop where
 kin:K.In base
 glob:base.Ns mainGlobals mg
 blt:∃mb,base.Ns builtinsNs mb∧∀x:Str,x≠"__name__"→mb x=bootBuiltins x
 nolimit:base.NoLimit
structure Cx where
 prog:Program
 w:World
 K:PySem.W.Frag
 mg:Str→Option Value
 base:Heap
 A:Around
 N:List Str
 s₀:Shared
 H₀:Hp
 env:Env
 outer:List Env
 stack:List Env
 ex:List Addr
 fn:Str→Bool
 calm:Bool
 pn:List (Addr×Obj)
 xe:Value→Shared→Prop
def Hm (l:List Env):List Addr:=l.filterMap (·.frame)
abbrev Cx.fs (X:Cx):List Addr:=Hm X.outer
def Uv (sc:Scope) (x:Str):Prop:=sc.names.lookup x=some .local∨sc.names.lookup x=some .cell∨sc.names.lookup x=some .free
def Tc (sc:Scope) (x:Str):Prop:=sc.names.lookup x=some .local∨sc.names.lookup x=some .cell
def UI (env:Env) (h:Heap) (m:Str→Option Value) (x:Str) (u:Value):Prop:=
 (env.kindOf x=some .local∧m x=some u)∨((env.kindOf x=some .cell∨env.kindOf x=some .free)∧∃c,env.cells.lookup x=some c∧h.IsCell c (some u))
structure Cx.Ok (X:Cx):Prop where
 mod:Mod X.K X.mg X.base
 kind:X.env.scope.kind= .function
 glob:X.env.globals=mainGlobals
 blt:X.env.builtins=builtinsNs
 above:X.s₀.heap.objs.size≤X.env.locals
 inj:∀x y c,X.env.cells.lookup x=some c→X.env.cells.lookup y=some c→x=y
 has:∀x,(X.env.kindOf x=some .cell∨X.env.kindOf x=some .free)→∃c,X.env.cells.lookup x=some c
 cab:∀x c,X.fn x=true→X.env.cells.lookup x=some c→X.s₀.heap.objs.size≤c
 hd:X.calm=true→X.A.handled=none
 frames:X.A.frames=some X.stack
 stk:X.stack=X.outer∨(X.stack=X.env::X.outer∧X.env.frame=some X.env.locals)
 exf:∀b∈X.ex,b≠X.env.locals∧∀x c,X.env.cells.lookup x=some c→c≠b
 bs:∀b o,X.base.get? b=some o→X.s₀.heap.get? b=some o∧X.H₀ b=none
 bsz:X.base.objs.size≤X.s₀.heap.objs.size
 noex:∀b o,X.base.get? b=some o→b∉X.ex
 exfs:∀b∈X.ex,b∉X.fs
 funs:X.s₀.heap.FunFrames X.base X.outer
 frf:∀b∈X.fs,X.H₀ b=none
structure Inv (X:Cx) (pins:List (Addr×Obj)) (σ:List (Option V)) (H:Hp) (s:Shared):Prop where
 ok:X.Ok
 os:s.os=X.s₀.os
 bare:AllBare s.gens
 base:Un X.fs X.ex X.H₀ H X.s₀.heap s.heap
 loc:∃m,s.heap.Ns X.env.locals m∧∀(i:Nat) (x:Str) (v:V),X.N[i]? = some x→σ[i]? = some (some v)→Uv X.env.scope x→∃u,RelV v u∧UI X.env s.heap m x u
 cell:∀x c,X.env.cells.lookup x=some c→∃v,s.heap.IsCell c v
 free:H X.env.locals=none
 freeC:∀x c,X.env.cells.lookup x=some c→H c=none
 pin:∀p∈X.pn++pins,s.heap.get? p.1=some p.2∧H p.1=none∧p.1≠X.env.locals∧p.1∉X.fs∧∀v,p.2.data≠.cell v
 hok:HOk X.prog X.w H s.heap
 len:σ.length=X.N.length
section
variable {X:Cx} {pins:List (Addr×Obj)} {σ:List (Option V)} {H H':Hp} {s:Shared} {h':Heap}
theorem Cx.Ok.nofr (ok:X.Ok) {b:Addr} {o:Obj} (e:X.base.get? b=some o):b∉X.fs:=fun hb=>by
 have:=(ok.funs.mem hb).1
 rw[e] at this;cases this
theorem Inv.bs (I:Inv X pins σ H s):∀b o,X.base.get? b=some o→s.heap.get? b=some o∧H b=none:=fun b o e=>
 ⟨I.base.keep b o (I.ok.bs b o e).1 (I.ok.bs b o e).2 (I.ok.nofr e) (I.ok.noex b o e),I.base.free b o (I.ok.bs b o e).1 (I.ok.bs b o e).2 (I.ok.noex b o e)⟩
theorem Inv.bk (I:Inv X pins σ H s):∀b o,X.base.get? b=some o→s.heap.get? b=some o:=fun b o e=>(I.bs b o e).1
theorem Inv.mod (I:Inv X pins σ H s):Mod X.K X.mg X.base:=I.ok.mod
theorem Inv.kIn (I:Inv X pins σ H s):X.K.In s.heap:=I.ok.mod.kin.keeps I.bk
theorem Inv.lt (I:Inv X pins σ H s):X.env.locals<s.heap.objs.size:=let ⟨_,hn,_⟩:=I.loc;hn.lt
theorem Inv.sz (I:Inv X pins σ H s):X.s₀.heap.objs.size≤s.heap.objs.size:=Nat.le_trans I.ok.above (Nat.le_of_lt I.lt)
theorem Inv.nofs (I:Inv X pins σ H s) {a:Addr} (h:s.heap.objs.size≤a):a∉X.fs:=fun hb=>by
 obtain⟨_,o,ho,_⟩:=I.ok.funs.mem hb
 exact absurd (Nat.lt_of_lt_of_le (Heap.lt_size ho) (Nat.le_trans I.sz h)) (Nat.lt_irrefl _)
theorem Inv.cne (I:Inv X pins σ H s):∀x c,X.env.cells.lookup x=some c→c≠X.env.locals:=fun x c e z=>by
 obtain⟨v,o,ho,hd⟩:=I.cell x c e
 obtain⟨m,⟨o',es,ep,ho',hd',_⟩,_⟩:=I.loc
 rw[z,ho'] at ho;cases ho;rw[hd'] at hd;cases hd
theorem Inv.funs (I:Inv X pins σ H s):s.heap.FunFrames X.base X.outer:=by
 have all:∀(l:List Env),(∀b∈Hm l,b∈X.fs)→X.s₀.heap.FunFrames X.base l→s.heap.FunFrames X.base l:=by
  intro l
  induction l with
  | nil=>intro _ _;trivial
  | cons env r ih=>
   intro hs hl
   obtain⟨hk,⟨L,o,hf,hn,ho,hd⟩,hr⟩:=hl
   have hL:L∈X.fs:=hs L (by unfold Hm;rw[List.filterMap_cons,hf];exact List.mem_cons_self)
   obtain⟨sl,e⟩:=I.base.slot L o ho (I.ok.frf L hL) hL fun z=>I.ok.exfs L z hL
   exact⟨hk,⟨L,_,hf,hn,e,hd⟩,ih (fun b hb=>hs b (by unfold Hm;rw[List.filterMap_cons,hf];exact List.mem_cons_of_mem _ hb)) hr⟩
 exact all X.outer (fun _ hb=>hb) I.ok.funs
theorem Inv.stack (I:Inv X pins σ H s):s.heap.FunFrames X.base X.stack:=by
 rcases I.ok.stk with e | ⟨e,hf⟩
 ·rw[e];exact I.funs
 ·rw[e]
  obtain⟨m,hn,_⟩:=I.loc
  refine .cons (by rw[I.ok.kind];decide) hf hn ?_ I.funs
  exact Heap.get?_none_of_le (Nat.le_trans I.ok.bsz I.ok.above)
theorem Inv.stkSub (I:Inv X pins σ H s):∀b∈Hm X.stack,b∈X.env.locals::X.fs:=fun b hb=>by
 rcases I.ok.stk with e | ⟨e,hf⟩
 ·rw[e] at hb;exact List.mem_cons_of_mem _ hb
 ·rw[e] at hb
  unfold Hm at hb
  rw[List.filterMap_cons,hf] at hb
  exact hb
theorem Inv.stkFree (I:Inv X pins σ H s):∀b∈Hm X.stack,H b=none:=fun b hb=>by
 rcases List.mem_cons.mp (I.stkSub b hb) with e | hb
 ·rw[e];exact I.free
 ·obtain⟨_,o,ho,_⟩:=I.ok.funs.mem hb
  exact I.base.free b o ho (I.ok.frf b hb) fun z=>I.ok.exfs b z hb
theorem Inv.step {g':Array GenState} {t':Nat} {d':Drawn} {ch:List Addr} (I:Inv X pins σ H s)
  (hch:∀b∈ch,(b∈X.ex∨X.s₀.heap.objs.size≤b)∧b≠X.env.locals∧(∀x c,X.env.cells.lookup x=some c→c≠b)∧∀p∈X.pn++pins,p.1≠b)
  (keep:∀b o,b≠X.env.locals→b∉X.fs→b∉ch→s.heap.get? b=some o→H b=none→h'.get? b=some o)
  (slot:∀b o,b≠X.env.locals→b∈X.fs→b∉ch→s.heap.get? b=some o→H b=none→∃sl,h'.get? b=some { o with slots:=sl }) (free:∀b o,b∉ch→s.heap.get? b=some o→H b=none→H' b=none)
  (there:∀b o,b∉ch→s.heap.get? b=some o→∃o',h'.get? b=some o')
  (tups:∀b xs,H b=some (.tup xs)→H' b=some (.tup xs)) (frzs:∀b o u,H b=some (.frz o u)→H' b=some (.frz o u)) (tbls:∀b ps,H b=some (.tbl ps)→∃more,H' b=some (.tbl (ps++more)))
  (ns:∀m,s.heap.Ns X.env.locals m→h'.Ns X.env.locals m) (hok:HOk X.prog X.w H' h') (hg:AllBare g') :
  Inv X pins σ H' { s with heap:=h',gens:=g',drawn:=d',toks:=t' }:=by
 have neL:∀b o,X.s₀.heap.get? b=some o→b≠X.env.locals:=fun b o e=>Nat.ne_of_lt (Nat.lt_of_lt_of_le (Heap.lt_size e) I.ok.above)
 have neC:∀b o,X.s₀.heap.get? b=some o→b∉X.ex→b∉ch:=fun b o e hx hb=>by
  rcases (hch b hb).1 with z | z
  ·exact hx z
  ·exact absurd (Nat.lt_of_lt_of_le (Heap.lt_size e) z) (Nat.lt_irrefl _)
 have cellK:∀x c,X.env.cells.lookup x=some c→∀v,s.heap.IsCell c v→h'.IsCell c v:=fun x c e v ⟨o,ho,hd⟩=>by
  have nch:c∉ch:=fun z=>(hch c z).2.2.1 x c e rfl
  by_cases hc:c∈X.fs
  ·obtain⟨sl,q⟩:=slot c o (I.cne x c e) hc nch ho (I.freeC x c e)
   exact⟨_,q,hd⟩
  ·exact⟨o,keep c o (I.cne x c e) hc nch ho (I.freeC x c e),hd⟩
 refine⟨I.ok,I.os,hg,⟨fun b o e n hb hx=>?_,fun b o e n hb hx=>?_,fun b o e n hx=>?_,fun b o e hx=>?_,fun b xs e=>tups b xs (I.base.tups b xs e),fun b o xs e=>frzs b o xs (I.base.frzs b o xs e),fun b ps e=>?_⟩,?_,fun x c e=>?_,?_,fun x c e=>?_,fun p hp=>?_,hok,I.len⟩
 ·exact keep b o (neL b o e) hb (neC b o e hx) (I.base.keep b o e n hb hx) (I.base.free b o e n hx)
 ·obtain⟨sl,e1⟩:=I.base.slot b o e n hb hx
  obtain⟨sl',e2⟩:=slot b _ (neL b o e) hb (neC b o e hx) e1 (I.base.free b o e n hx)
  exact⟨sl',e2⟩
 ·obtain⟨o',e1⟩:=I.base.there b o e hx
  exact free b o' (neC b o e hx) e1 (I.base.free b o e n hx)
 ·obtain⟨o',e1⟩:=I.base.there b o e hx
  exact there b o' (neC b o e hx) e1
 ·obtain⟨m1,e1⟩:=I.base.tbls b ps e
  obtain⟨m2,e2⟩:=tbls b _ e1
  exact⟨m1++m2,by rw[e2,Array.append_assoc]⟩
 ·obtain⟨m,hn,hl⟩:=I.loc
  refine⟨m,ns m hn,fun i x v e1 e2 e3=>?_⟩
  obtain⟨u,r,l⟩:=hl i x v e1 e2 e3
  refine⟨u,r,?_⟩
  rcases l with l | ⟨k,c,e,z⟩
  ·exact .inl l
  ·exact .inr ⟨k,c,e,cellK x c e _ z⟩
 ·obtain⟨v,z⟩:=I.cell x c e
  exact⟨v,cellK x c e v z⟩
 ·obtain⟨m,⟨o,_,_,ho,_⟩,_⟩:=I.loc
  exact free _ o (fun z=>(hch _ z).2.1 rfl) ho I.free
 ·obtain⟨v,o,ho,hd⟩:=I.cell x c e
  exact free c o (fun z=>(hch c z).2.2.1 x c e rfl) ho (I.freeC x c e)
 ·obtain⟨e,n,ne,nf,d⟩:=I.pin p hp
  have nch:p.1∉ch:=fun z=>(hch p.1 z).2.2.2 p hp rfl
  exact⟨keep p.1 p.2 ne nf nch e n,free p.1 p.2 nch e n,ne,nf,d⟩
theorem Inv.un {t':Nat} (I:Inv X pins σ H s) (u:Un X.fs [] H H' s.heap h') (hok:HOk X.prog X.w H' h'):Inv X pins σ H' { s with heap:=h',toks:=t' }:=by
 obtain⟨m,⟨o,es,ep,ho,r⟩,_⟩:=id I.loc
 obtain⟨sl,hL⟩:=u.any ho I.free (by simp)
 exact I.step (g':=s.gens) (d':=s.drawn) (ch:=[]) (fun _ z=>nomatch z) (fun b o _ hb _ e n=>u.keep b o e n hb (by simp)) (fun b o _ hb _ e n=>u.slot b o e n hb (by simp)) (fun b o _ e n=>u.free b o e n (by simp)) (fun b o _ e=>u.there b o e (by simp)) u.tups u.frzs u.tbls (fun m' hm=>by
  obtain⟨o',es',ep',ho',r'⟩:=hm
  rw[ho] at ho';cases ho'
  exact⟨_,es',ep',hL,r'⟩) hok I.bare
theorem Inv.call {g':Array GenState} {t':Nat} {d':Drawn} {ch:List Addr} (I:Inv X pins σ H s) (u:Un (Hm X.stack) ch H H' s.heap h') (hok:HOk X.prog X.w H' h') (hg:AllBare g')
  (hch:∀b∈ch,(b∈X.ex∨X.s₀.heap.objs.size≤b)∧b≠X.env.locals∧(∀x c,X.env.cells.lookup x=some c→c≠b)∧∀p∈X.pn++pins,p.1≠b) :
  Inv X pins σ H' { s with heap:=h',gens:=g',drawn:=d',toks:=t' }:=by
 obtain⟨m,⟨o,es,ep,ho,r⟩,_⟩:=id I.loc
 obtain⟨sl,hL⟩:=u.any ho I.free fun z=>(hch _ z).2.1 rfl
 exact I.step (ch:=ch) hch (fun b o hL hb hc e n=>u.keep b o e n (fun z=>(List.mem_cons.mp (I.stkSub b z)).elim hL hb) hc) (fun b o _ _ hc e n=>u.any e n hc) (fun b o hc e n=>u.free b o e n hc) (fun b o hc e=>u.there b o e hc) u.tups u.frzs u.tbls (fun m' hm=>by
  obtain⟨o',es',ep',ho',r'⟩:=hm
  rw[ho] at ho';cases ho'
  exact⟨_,es',ep',hL,r'⟩) hok hg
theorem Inv.turned {t':Nat} {it:Addr} (I:Inv X pins σ H s) (k:∀b o,b≠it→s.heap.get? b=some o→h'.get? b=some o) (hn:H it=none) (hL:it≠X.env.locals)
  (h1:it∈X.ex∨X.s₀.heap.objs.size≤it) (h2:∀x c,X.env.cells.lookup x=some c→c≠it) (h3:∀p∈X.pn++pins,p.1≠it):Inv X pins σ H { s with heap:=h',toks:=t' }:=by
 have nit:∀b u,H b=some u→b≠it:=fun b u e z=>by rw[z,hn] at e;cases e
 refine I.step (g':=s.gens) (d':=s.drawn) (ch:=[it]) (fun b hb=>?_) (fun b o _ _ hc e _=>k b o (fun z=>hc (by simp[z])) e) (fun b o _ _ hc e _=>⟨o.slots,k b o (fun z=>hc (by simp[z])) e⟩) (fun _ _ _ _ n=>n)
  (fun b o hc e=>⟨o,k b o (fun z=>hc (by simp[z])) e⟩) (fun _ _ e=>e) (fun _ _ _ e=>e) (fun b ps e=>⟨#[],by rw[e];simp⟩) (fun m hm=>?_) (fun b u e=>?_) I.bare
 ·have e:b=it:=by simpa using hb
  subst e
  exact⟨h1,hL,h2,h3⟩
 ·obtain⟨o,es,ep,ho,r⟩:=hm
  exact⟨o,es,ep,k _ o (Ne.symm hL) ho,r⟩
 ·refine (I.hok b u e).stay (fun c v hc q=>k c v ?_ q) (fun _ q=>q) fun _ _ q=>q
  rcases hc with z | z
  ·rw[z];exact nit b u e
  ·exact nit c _ z
theorem Inv.tok (I:Inv X pins σ H s) (t:Nat):Inv X pins σ H { s with toks:=t }:=I.un (h':=s.heap) (t':=t) Un.refl I.hok
theorem Inv.kept {t':Nat} (I:Inv X pins σ H s) (k:∀b u,s.heap.get? b=some u→h'.get? b=some u):Inv X pins σ H { s with heap:=h',toks:=t' }:=I.un (Un.kept k) (I.hok.kept k)
theorem Inv.laid {a:Addr} {o:HO} {t':Nat} (I:Inv X pins σ H s) (k:∀b u,s.heap.get? b=some u→h'.get? b=some u) (hp:s.heap.objs.size≤a) (new:ObjOk X.prog X.w (upd H a o) h' a o) :
  Inv X pins σ (upd H a o) { s with heap:=h',toks:=t' }:=I.un (Un.laid k hp (I.hok.fresh hp)) (I.hok.laid k hp new)
theorem Inv.write {x e:Addr} {o:HO} {t':Nat} (I:Inv X pins σ H s) (mu:Td (H x)) (he:e=x∨H e=some (.own x)) (k:∀b u,b≠e→s.heap.get? b=some u→h'.get? b=some u) (heo:∃u,h'.get? e=some u)
  (new:ObjOk X.prog X.w (upd H x o) h' x o):Inv X pins σ (upd H x o) { s with heap:=h',toks:=t' }:=I.un (Un.write mu he k heo) (I.hok.write mu he k heo new)
theorem Inv.pins_of {pins':List (Addr×Obj)} (I:Inv X pins σ H s) (h:∀p∈pins',s.heap.get? p.1=some p.2∧H p.1=none∧p.1≠X.env.locals∧p.1∉X.fs∧∀v,p.2.data≠.cell v):Inv X pins' σ H s:=
 ⟨I.ok,I.os,I.bare,I.base,I.loc,I.cell,I.free,I.freeC,fun p hp=>(List.mem_append.mp hp).elim (fun z=>I.pin p (List.mem_append_left _ z)) (h p),I.hok,I.len⟩
theorem KD {N:List Str} (hN:N.Nodup) {i j:Nat} {x:Str} (a:N[i]? = some x) (b:N[j]? = some x):i=j:=by
 obtain⟨h1,e1⟩:=List.getElem?_eq_some_iff.mp a
 obtain⟨h2,e2⟩:=List.getElem?_eq_some_iff.mp b
 exact (List.getElem_inj hN).mp (e1.trans e2.symm)
theorem IX {M:Model} {A:Around} {E:Value→Shared→Prop} {i:Nat} {x:Str} {v:V} {u:Value} {Q:Unit→Shared→Prop} (I:Inv X pins σ H s) (hN:X.N.Nodup) (hi:X.N[i]? = some x) (hx:Tc X.env.scope x) (r:RelV v u)
  (h:∀s',Inv X pins (σ.set i (some v)) H s'→(∃a,Heap.SameBut a s.heap s'.heap∧(a=X.env.locals∨X.env.cells.lookup x=some a))→Q () s') (hf:X.fn x=true∨X.env.scope.names.lookup x=some .local:=by first | exact .inl rfl | exact .inr rfl | assumption):wpAny M A (storeName X.env x u) Q E s:=by
 obtain⟨m,hn,hl⟩:=id I.loc
 have hcls:(X.env.scope.kind == .class || (X.env.scope.kind == .module && X.env.locals != X.env.globals))=false:=by rw[I.ok.kind];rfl
 have hiσ:i<σ.length:=by rw[I.len];exact (List.getElem?_eq_some_iff.mp hi).1
 have cne:=I.cne
 have tracked:∀{a:Addr} {h':Heap},(∃o,s.heap.get? a=some o∧H a=none)→Heap.SameBut a s.heap h'→HOk X.prog X.w H h':=fun {a h'} ha hs b ob e=>by
  obtain⟨_,_,hfree⟩:=ha
  refine (I.hok b ob e).stay (fun c w' hc q=>(hs.2 c ?_).trans q) (fun _ q=>q) fun _ _ q=>q
  rintro rfl
  rcases hc with rfl | hc
  ·rw[hfree] at e;cases e
  ·rw[hfree] at hc;cases hc
 rcases hx with hk | hk
 ·refine wpAny_storeName_local hk hn (fun h' hn' hs=>?_) hcls
  obtain⟨oL,_,_,hoL,_⟩:=id hn
  refine h _ ⟨I.ok,I.os,I.bare,⟨fun b o e n hb hx=>?_,fun b o e n hb hx=>?_,I.base.free,fun b o e hx=>?_,I.base.tups,I.base.frzs,I.base.tbls⟩,⟨_,hn',fun j y v' e1 e2 e3=>?_⟩,fun y c e=>?_,I.free,I.freeC,fun p hp=>?_,tracked ⟨oL,hoL,I.free⟩ hs,by simpa using I.len⟩ ⟨_,hs,.inl rfl⟩
  ·exact (hs.2 b (Nat.ne_of_lt (Nat.lt_of_lt_of_le (Heap.lt_size e) I.ok.above))).trans (I.base.keep b o e n hb hx)
  ·obtain⟨sl,e1⟩:=I.base.slot b o e n hb hx
   exact⟨sl,(hs.2 b (Nat.ne_of_lt (Nat.lt_of_lt_of_le (Heap.lt_size e) I.ok.above))).trans e1⟩
  ·obtain⟨o',e1⟩:=I.base.there b o e hx
   exact⟨o',(hs.2 b (Nat.ne_of_lt (Nat.lt_of_lt_of_le (Heap.lt_size e) I.ok.above))).trans e1⟩
  ·by_cases hj:j=i
   ·subst hj
    rw[hi] at e1;cases e1
    rw[List.getElem?_set_self hiσ] at e2
    cases e2
    exact⟨u,r,.inl ⟨hk,by simp⟩⟩
   ·rw[List.getElem?_set_ne (Ne.symm hj)] at e2
    obtain⟨u',r',q⟩:=hl j y v' e1 e2 e3
    refine⟨u',r',?_⟩
    rcases q with⟨k,e⟩|⟨k,c,e,z⟩
    ·refine .inl ⟨k,?_⟩
     have:y≠x:=fun e=>hj (KD hN e1 (e ▸ hi))
     simp[this,e]
    ·exact .inr ⟨k,c,e,z.sameBut hs (cne y c e)⟩
  ·obtain⟨w',z⟩:=I.cell y c e
   exact⟨w',z.sameBut hs (cne y c e)⟩
  ·obtain⟨e,n,ne,nf,d⟩:=I.pin p hp
   exact⟨(hs.2 p.1 ne).trans e,n,ne,nf,d⟩
 ·have hfn:X.fn x=true:=by
   rcases hf with z | z
   ·exact z
   ·rw[z] at hk;cases hk
  obtain⟨c,hc⟩:=I.ok.has x (.inl hk)
  obtain⟨w',z⟩:=I.cell x c hc
  refine wpAny_storeName_cell I.ok.kind hk hc z (fun h' hc' hs=>?_)
  obtain⟨oc,hoc,hocd⟩:=id z
  refine h { s with heap:=h' } ⟨I.ok,I.os,I.bare,⟨fun b o e n hb hx=>?_,fun b o e n hb hx=>?_,I.base.free,fun b o e hx=>?_,I.base.tups,I.base.frzs,I.base.tbls⟩,⟨m,hn.sameBut hs (Ne.symm (cne x c hc)),fun j y v' e1 e2 e3=>?_⟩,fun y c' e=>?_,I.free,I.freeC,fun p hp=>?_,tracked ⟨oc,hoc,I.freeC x c hc⟩ hs,by simpa using I.len⟩ ⟨c,hs,.inr hc⟩
  ·exact (hs.2 b (Nat.ne_of_lt (Nat.lt_of_lt_of_le (Heap.lt_size e) (I.ok.cab x c hfn hc)))).trans (I.base.keep b o e n hb hx)
  ·obtain⟨sl,e1⟩:=I.base.slot b o e n hb hx
   exact⟨sl,(hs.2 b (Nat.ne_of_lt (Nat.lt_of_lt_of_le (Heap.lt_size e) (I.ok.cab x c hfn hc)))).trans e1⟩
  ·obtain⟨o',e1⟩:=I.base.there b o e hx
   exact⟨o',(hs.2 b (Nat.ne_of_lt (Nat.lt_of_lt_of_le (Heap.lt_size e) (I.ok.cab x c hfn hc)))).trans e1⟩
  ·by_cases hj:j=i
   ·subst hj
    rw[hi] at e1;cases e1
    rw[List.getElem?_set_self hiσ] at e2
    cases e2
    exact⟨u,r,.inr ⟨.inl hk,c,hc,hc'⟩⟩
   ·rw[List.getElem?_set_ne (Ne.symm hj)] at e2
    obtain⟨u',r',q⟩:=hl j y v' e1 e2 e3
    refine⟨u',r',?_⟩
    rcases q with q | ⟨k,c',e,z'⟩
    ·exact .inl q
    ·refine .inr ⟨k,c',e,z'.sameBut hs ?_⟩
     rintro rfl
     exact hj (KD hN e1 (I.ok.inj _ _ _ e hc ▸ hi))
  ·by_cases hcc:c'=c
   ·subst hcc;exact⟨_,hc'⟩
   ·obtain⟨w2,z2⟩:=I.cell y c' e
    exact⟨w2,z2.sameBut hs hcc⟩
  ·obtain⟨e,n,ne,nf,d⟩:=I.pin p hp
   refine⟨(hs.2 p.1 ?_).trans e,n,ne,nf,d⟩
   intro q
   rw[q,hoc] at e
   have q':oc=p.2:=Option.some.inj e
   exact d w' (by rw[←q'];exact hocd)
theorem KF {M:Model} {A:Around} {E:Value→Shared→Prop} {i:Nat} {x:Str} {v:V} {u:Value} {Q:Unit→Shared→Prop} (I:Inv X pins σ H s) (hN:X.N.Nodup) (hi:X.N[i]? = some x) (hx:Tc X.env.scope x) (r:RelV v u)
  (h:∀s',Inv X pins (σ.set i (some v)) H s'→Q () s') (hf:X.fn x=true∨X.env.scope.names.lookup x=some .local:=by first | exact .inl rfl | exact .inr rfl | assumption):wpAny M A (storeName X.env x u) Q E s:=
 IX I hN hi hx r (fun s' I' _=>h s' I') hf
theorem Inv.call' {s':Shared} {ch:List Addr} (I:Inv X pins σ H s) (ho:s'.os=s.os) (u:Un (Hm X.stack) ch H H' s.heap s'.heap) (hok:HOk X.prog X.w H' s'.heap) (hg:AllBare s'.gens)
  (hch:∀b∈ch,(b∈X.ex∨X.s₀.heap.objs.size≤b)∧b≠X.env.locals∧(∀x c,X.env.cells.lookup x=some c→c≠b)∧∀p∈X.pn++pins,p.1≠b):Inv X pins σ H' s':=by
 obtain⟨h',g',d',t',o'⟩:=s'
 have e:o'=s.os:=ho
 subst e
 exact I.call (g':=g') (t':=t') (d':=d') u hok hg hch
end
abbrev XK:=Value→Option Addr→Hp→Prop
abbrev St:=List (Option V)
abbrev VK:=V→Hp→Prop
abbrev TE:=St→Hp→VK→Prop
abbrev TT:=St→Hp→(Bool→Hp→Prop)→Prop
abbrev TA:=St→Hp→(List V→Hp→Prop)→Prop
structure Cg where
 nx:St→Hp→Prop
 rt:VK
 bk:St→Hp→Prop:=fun _ _=>False
 ct:St→Hp→Prop:=fun _ _=>False
abbrev TS:=Cg→St→Hp→Prop
def EP (X:Cx) (pins:List (Addr×Obj)) (σ:St) (Q:VK) (u:Value) (s':Shared):Prop:=∃v H',Inv X pins σ H' s'∧RelV v u∧Q v H'
def TP (X:Cx) (pins:List (Addr×Obj)) (σ:St) (Q:Bool→Hp→Prop) (b:Bool) (s':Shared):Prop:=∃H',Inv X pins σ H' s'∧Q b H'
def AP (X:Cx) (pins:List (Addr×Obj)) (σ:St) (Q:List V→Hp→Prop) (us:List Value) (s':Shared):Prop:=∃vs H',Inv X pins σ H' s'∧Vals vs us∧Q vs H'
def SP (X:Cx) (pins:List (Addr×Obj)) (D:Cg) (f:Flow) (s':Shared):Prop:=
 match f with
 | .next=>∃σ' H',Inv X pins σ' H' s'∧D.nx σ' H'
 | .brk=>∃σ' H',Inv X pins σ' H' s'∧D.bk σ' H'
 | .cont=>∃σ' H',Inv X pins σ' H' s'∧D.ct σ' H'
 | .ret u=>∃v σ' H',Inv X pins σ' H' s'∧RelV v u∧D.rt v H'
def PE (X:Cx) (e:Expr) (t:TE):Prop:=
 ∀(pins:List (Addr×Obj)) (s:Shared) (σ:St) (H:Hp) (Q:VK),Inv X pins σ H s→t σ H Q→wpAny (model X.prog X.w) X.A (eval e X.env) (EP X pins σ Q) X.xe s
def PT (X:Cx) (e:Expr) (t:TT):Prop:=
 ∀(pins:List (Addr×Obj)) (s:Shared) (σ:St) (H:Hp) (Q:Bool→Hp→Prop),Inv X pins σ H s→t σ H Q→wpAny (model X.prog X.w) X.A (isTrue e X.env (eval e X.env)) (TP X pins σ Q) X.xe s
def PW (X:Cx) (e:Expr) (t:TT):Prop:=
 ∀(whole:Sem Value) (pins:List (Addr×Obj)) (s:Shared) (σ:St) (H:Hp) (Q:Bool→Hp→Prop),Inv X pins σ H s→t σ H Q→wpAny (model X.prog X.w) X.A (isTrue e X.env whole) (TP X pins σ Q) X.xe s
theorem PW.pt {X:Cx} {e:Expr} {t:TT} (h:PW X e t):PT X e t:=h _
def PA (X:Cx) (es:List Expr) (t:TA):Prop:=
 ∀(pos:Pos) (pins:List (Addr×Obj)) (s:Shared) (σ:St) (H:Hp) (Q:List V→Hp→Prop),Inv X pins σ H s→t σ H Q→wpAny (model X.prog X.w) X.A (spliced (backTo pos (starEach es X.env))) (AP X pins σ Q) X.xe s
def PS (X:Cx) (st:Stmt) (t:TS):Prop:=
 ∀(pins:List (Addr×Obj)) (s:Shared) (σ:St) (H:Hp) (D:Cg),Inv X pins σ H s→t D σ H→wpAny (model X.prog X.w) X.A (exec st X.env) (SP X pins D) X.xe s
def PSs (X:Cx) (st:List Stmt) (t:TS):Prop:=
 ∀(pins:List (Addr×Obj)) (s:Shared) (σ:St) (H:Hp) (D:Cg),Inv X pins σ H s→t D σ H→wpAny (model X.prog X.w) X.A (execs st X.env) (SP X pins D) X.xe s
theorem AS {α:Type} {t:Sem α} {Q Q':α→Shared→Prop} {M:Model} {A:Around} {E:Value→Shared→Prop} {s:Shared} (h:wpAny M A t Q E s) (hQ:∀a s,Q a s→Q' a s):wpAny M A t Q' E s:=wpAny_mono h hQ fun _ _ x=>x
end L2
namespace L2
open PySem PySem.Spec PyProof.Rows
section
variable {X:Cx}
def Qh (i:Nat):TE:=fun σ H Q=>∃v,σ[i]? = some (some v)∧Q v H
def tC (v:V):TE:=fun _ H Q=>Q v H
theorem SZ {i:Nat} {x:Str} {pos:Pos} (hN:X.N[i]? = some x) (hv:Uv X.env.scope x) (hd:(x == ("__debug__":Str))=false:=by decide) (hcd:(x == ("__classdict__":Str))=false:=by decide):PE X (.Name x pos) (Qh i):=by
 intro pins s σ H Q I h
 obtain⟨v,e,h⟩:=h
 obtain⟨m,hn,hl⟩:=I.loc
 obtain⟨u,r,l⟩:=hl i x v hN e hv
 have fin:EP X pins σ Q u s:=⟨v,H,I,r,h⟩
 rcases l with⟨hk,hm⟩|⟨hk,c,hc,hcell⟩
 ·exact wpAny_Name (wpAny_loadName_local I.ok.kind hk hn hm fin) hd
 ·rcases hk with hk | hk
  ·exact wpAny_Name (wpAny_loadName_cell I.ok.kind hk hc hcell fin) hd
  ·exact wpAny_Name (wpAny_loadName_free I.ok.kind hk hc hcell fin hcd) hd
theorem Ag {i j pos}:PE X (.Constant (.int i) j pos) (tC (.int i)):=fun _ _ _ H _ I h=>wpAny_Constant_int ⟨.int i,H,I.tok _,⟨_,rfl⟩,h⟩
theorem BA {b j pos}:PE X (.Constant (.bool b) j pos) (tC (.bl b)):=fun _ _ _ H _ I h=>Constant_bool ⟨.bl b,H,I,rfl,h⟩
theorem Ji {j pos}:PE X (.Constant .none j pos) (tC .non):=fun _ _ _ H _ I h=>Constant_none ⟨.non,H,I,rfl,h⟩
theorem Aw {x j pos}:PE X (.Constant (.str x) j pos) (tC (.str x)):=fun _ _ _ H _ I h=>Calls.Constant_str ⟨.str x,H,I.tok _,⟨_,rfl⟩,h⟩
def Gl (X:Cx) (x:Str):Prop:=X.env.kindOf x=some .globalImplicit
theorem GQ {E:Value→Shared→Prop} {pins:List (Addr×Obj)} {s:Shared} {σ:St} {H:Hp} {x:Str} {u:Value} {pos:Pos} {Q:Value→Shared→Prop} (I:Inv X pins σ H s) (hg:Gl X x) (hm:X.mg x=some u) (h:Q u s)
  (hd:(x == ("__debug__":Str))=false:=by decide):wpAny (model X.prog X.w) X.A (eval (.Name x pos) X.env) Q E s:=
 Calls.Name_function_global I.ok.kind hg (Calls.loadGlobal_global (by rw[I.ok.glob];exact I.mod.glob.keeps I.bk) hm h) hd
theorem Cu {E:Value→Shared→Prop} {pins:List (Addr×Obj)} {s:Shared} {σ:St} {H:Hp} {x:Str} {u:Value} {pos:Pos} {Q:Value→Shared→Prop} (I:Inv X pins σ H s) (hg:Gl X x) (hm:X.mg x=none) (hv:bootBuiltins x=some u) (h:Q u s)
  (hn:x≠"__name__":=by decide) (hd:(x == ("__debug__":Str))=false:=by decide):wpAny (model X.prog X.w) X.A (eval (.Name x pos) X.env) Q E s:=by
 obtain⟨mb,h1,h2⟩:=I.mod.blt
 exact Calls.Name_function_global I.ok.kind hg (Calls.loadGlobal_builtin (by rw[I.ok.glob];exact I.mod.glob.keeps I.bk) hm (by rw[I.ok.blt];exact h1.keeps I.bk) ((h2 x hn).trans hv) h) hd
theorem Dq {x:Str} {v:V} {u:Value} {pos:Pos} (hg:Gl X x) (hm:X.mg x=some u) (r:RelV v u) (hd:(x == ("__debug__":Str))=false:=by decide):PE X (.Name x pos) (tC v):=
 fun _ _ _ H _ I h=>GQ I hg hm ⟨v,H,I,r,h⟩ hd
theorem BD {x:Str} {v:V} {u:Value} {pos:Pos} (hg:Gl X x) (hm:X.mg x=none) (hv:bootBuiltins x=some u) (r:RelV v u) (hn:x≠"__name__":=by decide) (hd:(x == ("__debug__":Str))=false:=by decide):PE X (.Name x pos) (tC v):=
 fun _ _ _ H _ I h=>Cu I hg hm hv ⟨v,H,I,r,h⟩ hn hd
variable {a b:Expr} {ta tb:TE} {pos:Pos}
def PC (X:Cx) (op:CmpOp) (a b:Expr) (t:TE):Prop:=
 ∀(pins:List (Addr×Obj)) (s:Shared) (σ:St) (H:Hp) (Q:VK),Inv X pins σ H s→t σ H Q→
  wpAny (model X.prog X.w) X.A (eval a X.env) (fun v s₁=>wpAny (model X.prog X.w) X.A (eval b X.env) (fun u s₂=>wpAny (model X.prog X.w) X.A (compareOp op v u) (EP X pins σ Q) X.xe s₂) X.xe s₁) X.xe s
theorem Kc (b:Expr) {op:CmpOp} (h:op≠.In) (h2:op≠.NotIn):behindInMarks op b=false:=by
 have e1:(op == CmpOp.In)=false:=by cases op<;>first | rfl | exact absurd rfl h
 have e2:(op == CmpOp.NotIn)=false:=by cases op<;>first | rfl | exact absurd rfl h2
 cases b<;>simp[behindInMarks,e1,e2]
def UF (ta:TE):TE:=fun σ H Q=>ta σ H fun x H1=>Q (.bl (decide (x= .non))) H1
theorem RelV.none_iff {x:V} {v:Value} (r:RelV x v):(v == Value.none)=decide (x= .non):=by
 cases x with
 | non=>cases r;rfl
 | bl _=>cases r;rfl
 | int _=>obtain⟨t,rfl⟩:=r;rfl
 | str _=>obtain⟨t,rfl⟩:=r;rfl
 | byt _=>obtain⟨t,rfl⟩:=r;rfl
 | flt _=>obtain⟨t,rfl⟩:=r;rfl
 | ref _=>cases r;rfl
 | ty _=>cases r;rfl
theorem JE {j pos'} (ha:PE X a ta):PC X .Is a (.Constant .none j pos') (UF ta):=by
 intro pins s σ H Q I h
 refine AS (ha pins s σ H _ I h) fun v s1 ⟨x,H1,I1,r1,q1⟩=>?_
 exact Constant_none (is_none_gen ⟨.bl _,H1,I1,by rw[r1.none_iff];rfl,q1⟩)
def tB (t:TE):TT:=fun σ H Q=>t σ H fun x H1=>∃c,x= .bl c∧Q c H1
theorem PH {op:CmpOp} {t:TE} (h:PC X op a b t) (h1:behindInMarks op b=false:=by first | exact Kc _ (by decide) (by decide) | rfl):PE X (.Compare a [op] [b] pos) t:=fun pins s σ H Q I hw=>wpAny_Compare1 (h pins s σ H Q I hw) h1
theorem Oo {op:CmpOp} {t:TE} (h:PC X op a b t) (h1:behindInMarks op b=false:=by first | exact Kc _ (by decide) (by decide) | rfl):PT X (.Compare a [op] [b] pos) (tB t):=by
 intro pins s σ H Q I hw
 refine wpAny_isTrue_Compare1 (AS (h pins s σ H _ I hw) fun v s1 h1=>AS h1 fun u s2 h2=>AS h2 fun c s3 ⟨x,H1,I1,r1,q1⟩=>?_) h1
 obtain⟨d,rfl,q⟩:=q1
 cases r1
 exact wpAny_truthy_bool ⟨H1,I1,q⟩
theorem A1 {e:Expr} {t:TE} (h:PE X e t) (he:∀whole,isTrue e X.env whole=(do let v ←whole;standAt e.pos;holding [v] (truthy v)):=by intro _;rfl):PT X e (tB t):=by
 intro pins s σ H Q I hw
 refine isTrue_plain (AS (h pins s σ H _ I hw) fun v s1 ⟨x,H1,I1,r1,q1⟩=>?_) (he _)
 obtain⟨d,rfl,q⟩:=q1
 cases r1
 exact wpAny_truthy_bool ⟨H1,I1,q⟩
variable {tA tB':TT} {rest:List Expr}
def UK (t u:TT):TT:=fun σ H Q=>t σ H fun c H1=>if c=true then u σ H1 Q else Q false H1
def Vh (t u:TT):TT:=fun σ H Q=>t σ H fun c H1=>if c=true then Q true H1 else u σ H1 Q
def UJ (t:TT):TT:=fun σ H Q=>t σ H fun c H1=>Q (!c) H1
theorem Gz (ha:PT X a tA):PW X (.BoolOp .And [a] pos) tA:=by
 intro wh pins s σ H Q I h
 refine isTrue_and (AS (ha pins s σ H Q I h) fun c s1 e=>?_)
 cases c with
 | true=>exact isTrue_and_nil e
 | false=>exact e
theorem Dw (ha:PT X a tA):PW X (.BoolOp .Or [a] pos) tA:=by
 intro wh pins s σ H Q I h
 refine isTrue_or (AS (ha pins s σ H Q I h) fun c s1 e=>?_)
 cases c with
 | false=>exact isTrue_or_nil e
 | true=>exact e
theorem Jt (ha:PT X a tA) (hb:PW X (.BoolOp .And (b::rest) pos) tB'):PW X (.BoolOp .And (a::b::rest) pos) (UK tA tB'):=by
 intro wh pins s σ H Q I h
 refine isTrue_and (AS (ha pins s σ H _ I h) fun c s1 ⟨H1,I1,q1⟩=>?_)
 cases c with
 | true=>exact hb wh pins s1 σ H1 Q I1 q1
 | false=>exact⟨H1,I1,q1⟩
theorem De (ha:PT X a tA) (hb:PW X (.BoolOp .Or (b::rest) pos) tB'):PW X (.BoolOp .Or (a::b::rest) pos) (Vh tA tB'):=by
 intro wh pins s σ H Q I h
 refine isTrue_or (AS (ha pins s σ H _ I h) fun c s1 ⟨H1,I1,q1⟩=>?_)
 cases c with
 | true=>exact⟨H1,I1,q1⟩
 | false=>exact hb wh pins s1 σ H1 Q I1 q1
theorem Bs (ha:PT X a tA):PT X (.UnaryOp .Not a pos) (UJ tA):=by
 intro pins s σ H Q I h
 exact isTrue_not (ha pins s σ H (fun c H1=>Q (!c) H1) I h)
def Tt (ta tb:TE):TE:=fun σ H Q=>ta σ H fun x H1=>∃c,x= .bl c∧if c=true then tb σ H1 Q else Q (.bl false) H1
def UH (ta tb:TE):TE:=fun σ H Q=>ta σ H fun x H1=>∃c,x= .bl c∧if c=true then Q (.bl true) H1 else tb σ H1 Q
def Th (ta:TE):TE:=fun σ H Q=>ta σ H fun x H1=>∃c,x= .bl c∧Q (.bl (!c)) H1
theorem Bk {op} {t:TE} (h:PE X a t):PE X (.BoolOp op [a] pos) t:=fun pins s σ H Q I hw=>BoolOp_one (h pins s σ H Q I hw)
theorem BE (ha:PE X a ta) (hb:PE X (.BoolOp .And (b::rest) pos) tb):PE X (.BoolOp .And (a::b::rest) pos) (Tt ta tb):=by
 intro pins s σ H Q I h
 refine BoolOp_and (AS (ha pins s σ H _ I h) fun v s1 ⟨x,H1,I1,r1,q1⟩=>?_)
 obtain⟨c,rfl,q1⟩:=q1
 cases r1
 refine wpAny_truthy_bool ?_
 cases c with
 | true=>exact hb pins s1 σ H1 Q I1 q1
 | false=>exact⟨.bl false,H1,I1,rfl,q1⟩
theorem IH (ha:PE X a ta) (hb:PE X (.BoolOp .Or (b::rest) pos) tb):PE X (.BoolOp .Or (a::b::rest) pos) (UH ta tb):=by
 intro pins s σ H Q I h
 refine BoolOp_or (AS (ha pins s σ H _ I h) fun v s1 ⟨x,H1,I1,r1,q1⟩=>?_)
 obtain⟨c,rfl,q1⟩:=q1
 cases r1
 refine wpAny_truthy_bool ?_
 cases c with
 | false=>exact hb pins s1 σ H1 Q I1 q1
 | true=>exact⟨.bl true,H1,I1,rfl,q1⟩
theorem DD (ha:PE X a ta):PE X (.UnaryOp .Not a pos) (Th ta):=by
 intro pins s σ H Q I h
 refine UnaryOp_ (AS (ha pins s σ H _ I h) fun v s1 ⟨x,H1,I1,r1,q1⟩=>?_)
 obtain⟨c,rfl,q1⟩:=q1
 cases r1
 exact not_of (wpAny_truthy_bool ⟨.bl (!c),H1,I1,rfl,q1⟩)
def Ve (t:TT) (ta tb:TE):TE:=fun σ H Q=>t σ H fun c H1=>if c=true then ta σ H1 Q else tb σ H1 Q
theorem OZ {c:Expr} (hc:PT X c tA) (ha:PE X a ta) (hb:PE X b tb):PE X (.IfExp c a b pos) (Ve tA ta tb):=by
 intro pins s σ H Q I h
 refine wpAny_IfExp (AS (hc pins s σ H _ I h) fun d s1 ⟨H1,I1,q1⟩=>?_)
 cases d with
 | true=>exact ha pins s1 σ H1 Q I1 q1
 | false=>exact hb pins s1 σ H1 Q I1 q1
end
end L2
namespace L2
open PySem PySem.Spec PyProof.Rows
def SqL (K:PySem.W.Frag) (H:Hp) (a:Addr) (xs:List V):Prop:=
 Rd H a (.lst xs)∨
  ∃(o:Obj) (its:Array Value) (n:Nat),K.lookup a=some o∧o.cls= .type "list"∧o.dict=none∧o.data= .seq its n∧its.size≤sizeLine∧Vals xs its.toList
def SqT (K:PySem.W.Frag) (H:Hp) (a:Addr) (xs:List V):Prop:=
 Rd H a (.tup xs)∨
  ∃(o:Obj) (its:Array Value) (n:Nat),K.lookup a=some o∧o.cls= .type "tuple"∧o.data= .seq its n∧its.size≤sizeLine∧Vals xs its.toList
def U4:Value→Option V
 | .none=>some .non
 | .bool b=>some (.bl b)
 | .int i _=>some (.int i)
 | .str x _=>some (.str x)
 | .bytes b _=>some (.byt b)
 | .float b _=>some (.flt b)
 | .ref a=>some (.ref a)
 | .type n=>some (.ty n)
 | _=>none
theorem RelV.abs {x:V} {u:Value} (r:RelV x u):U4 u=some x:=by
 cases x with
 | non=>cases r;rfl
 | bl _=>cases r;rfl
 | int _=>obtain⟨t,rfl⟩:=r;rfl
 | str _=>obtain⟨t,rfl⟩:=r;rfl
 | byt _=>obtain⟨t,rfl⟩:=r;rfl
 | flt _=>obtain⟨t,rfl⟩:=r;rfl
 | ref _=>cases r;rfl
 | ty _=>cases r;rfl
theorem RelV.inj {x y:V} {u:Value} (r:RelV x u) (q:RelV y u):x=y:=Option.some.inj (r.abs.symm.trans q.abs)
theorem Vals.inj:∀{xs ys:List V} {us:List Value},Vals xs us→Vals ys us→xs=ys
 | _,_,_,.nil,.nil=>rfl
 | _,_,_,.cons r t,.cons r' t'=>by rw[r.inj r',Vals.inj t t']
section
variable {X:Cx} {pins:List (Addr×Obj)} {σ:St} {H:Hp} {s:Shared} {a:Addr} {xs ys:List V}
theorem SqL.of {K:PySem.W.Frag} (h:H a=some (.lst xs)):SqL K H a xs:=.inl (.inl h)
theorem SqT.of {K:PySem.W.Frag} (h:H a=some (.tup xs)):SqT K H a xs:=.inl (.inl h)
theorem Inv.list (I:Inv X pins σ H s) (h:SqL X.K H a xs):∃its:List Value,Vals xs its∧PlainL s.heap a its.toArray∧xs.length≤sizeLine:=by
 rcases h with h | ⟨o,its,n,hk,hc,hd,hs,hz,r⟩
 ·obtain⟨z,its,n,r,e⟩:=h.ok I.hok
  exact⟨its,r,⟨_,n,e,rfl,rfl,rfl⟩,z⟩
 ·refine⟨its.toList,r,⟨o,n,I.kIn a o hk,hc,hd,by simpa using hs⟩,?_⟩
  have e:=r.length
  simp only[Array.length_toList] at e
  omega
theorem Inv.tuple (I:Inv X pins σ H s) (h:SqT X.K H a xs):∃its:List Value,Vals xs its∧IsTup s.heap a its.toArray∧xs.length≤sizeLine:=by
 rcases h with h | ⟨o,its,n,hk,hc,hs,hz,r⟩
 ·obtain⟨z,its,r,p⟩:=h.ok I.hok
  exact⟨its,r,p,z⟩
 ·refine⟨its.toList,r,⟨o,I.kIn a o hk,hc,n,by simpa using hs⟩,?_⟩
  have e:=r.length
  simp only[Array.length_toList] at e
  omega
theorem Inv.list_inj (I:Inv X pins σ H s) (h:SqL X.K H a xs) (h':SqL X.K H a ys):xs=ys:=by
 obtain⟨its,r,⟨o,n,e,_,_,d⟩,_⟩:=I.list h
 obtain⟨its',r',⟨o',n',e',_,_,d'⟩,_⟩:=I.list h'
 rw[e] at e';cases e'
 rw[d] at d'
 injection d' with d1 _
 have:its=its':=by simpa using congrArg Array.toList d1
 subst this
 exact r.inj r'
theorem Inv.tuple_inj (I:Inv X pins σ H s) (h:SqT X.K H a xs) (h':SqT X.K H a ys):xs=ys:=by
 obtain⟨its,r,⟨o,e,_,n,d⟩,_⟩:=I.tuple h
 obtain⟨its',r',⟨o',e',_,n',d'⟩,_⟩:=I.tuple h'
 rw[e] at e';cases e'
 rw[d] at d'
 injection d' with d1 _
 have:its=its':=by simpa using congrArg Array.toList d1
 subst this
 exact r.inj r'
end
abbrev Cx.wish (X:Cx) (E:Value→Shared→Prop):Cx:={ X with xe:=E }
abbrev Cx.nox (X:Cx):Cx:=X.wish fun _ _=>False
theorem Cx.Ok.wish {X:Cx} (ok:X.Ok) (E:Value→Shared→Prop):(X.wish E).Ok:=
 ⟨ok.mod,ok.kind,ok.glob,ok.blt,ok.above,ok.inj,ok.has,ok.cab,ok.hd,ok.frames,ok.stk,ok.exf,ok.bs,ok.bsz,ok.noex,ok.exfs,ok.funs,ok.frf⟩
theorem Cx.Ok.unwish {X:Cx} {E:Value→Shared→Prop} (ok:(X.wish E).Ok):X.Ok:=
 ⟨ok.mod,ok.kind,ok.glob,ok.blt,ok.above,ok.inj,ok.has,ok.cab,ok.hd,ok.frames,ok.stk,ok.exf,ok.bs,ok.bsz,ok.noex,ok.exfs,ok.funs,ok.frf⟩
section
variable {X:Cx} {pins:List (Addr×Obj)} {σ:St} {H:Hp} {s:Shared} {E:Value→Shared→Prop}
theorem Inv.wish (I:Inv X pins σ H s) (E:Value→Shared→Prop):Inv (X.wish E) pins σ H s:=⟨I.ok.wish E,I.os,I.bare,I.base,I.loc,I.cell,I.free,I.freeC,I.pin,I.hok,I.len⟩
theorem Inv.unwish (I:Inv (X.wish E) pins σ H s):Inv X pins σ H s:=⟨I.ok.unwish,I.os,I.bare,I.base,I.loc,I.cell,I.free,I.freeC,I.pin,I.hok,I.len⟩
theorem SP.unwish {D:Cg} {f:Flow} {s':Shared} (h:SP (X.wish E) pins D f s'):SP X pins D f s':=by
 cases f with
 | next=>obtain⟨σ',H',I,q⟩:=h;exact⟨σ',H',I.unwish,q⟩
 | brk=>obtain⟨σ',H',I,q⟩:=h;exact⟨σ',H',I.unwish,q⟩
 | cont=>obtain⟨σ',H',I,q⟩:=h;exact⟨σ',H',I.unwish,q⟩
 | ret u=>obtain⟨v,σ',H',I,r,q⟩:=h;exact⟨v,σ',H',I.unwish,r,q⟩
theorem PSs.nox {st:List Stmt} {t:TS} (h:PSs X.nox st t):PSs X st t:=fun pins s σ H D I hw=>
 wpAny_mono (h pins s σ H D (I.wish _) hw) (fun _ _ q=>q.unwish) fun _ _ z=>False.elim z
end
section
variable {X:Cx} {st:Stmt} {rest:List Stmt} {t u:TS} {e:Expr} {te:TE} {pos:Pos}
def Uc:TS:=fun D σ H=>D.nx σ H
def R7 (t u:TS):TS:=fun D σ H=>t { D with nx:=u D } σ H
theorem Al:PSs X [] Uc:=fun _ _ σ H _ I h=>wpAny_execs_nil ⟨σ,H,I,h⟩
theorem Ac (h1:PS X st t) (h2:PSs X rest u):PSs X (st::rest) (R7 t u):=by
 intro pins s σ H D I h
 refine wpAny_execs_cons (AS (h1 pins s σ H { D with nx:=u D } I h) fun f s1 q=>?_)
 cases f with
 | next=>
  obtain⟨σ',H',I',q⟩:=q
  exact h2 pins s1 σ' H' D I' q
 | ret v=>exact q
 | brk=>exact q
 | cont=>exact q
theorem Ad (h1:PS X st t):PSs X [st] t:=by
 intro pins s σ H D I h
 refine wpAny_execs_cons (AS (h1 pins s σ H D I h) fun f s1 q=>?_)
 cases f with
 | next=>exact wpAny_execs_nil q
 | ret v=>exact q
 | brk=>exact q
 | cont=>exact q
theorem Inv.quiet {pins:List (Addr×Obj)} {σ:St} {H:Hp} {s:Shared} (I:Inv X pins σ H s):interactive X.env=false:=by simp[interactive,I.ok.kind]
def TR (te:TE):TS:=fun D σ H=>te σ H fun _ H1=>D.nx σ H1
theorem AU (he:PE X e te) (hs:swapsWith e none pos.line X.env=pure false:=by rfl):PS X (.Expr e pos) (TR te):=by
 intro pins s σ H D I h
 exact wpAny_Expr_any (AS (he pins s σ H _ I h) fun v s1 ⟨x,H1,I1,r1,q1⟩=>⟨σ,H1,I1,q1⟩) I.quiet hs
def Ur (te:TE):TS:=fun D σ H=>te σ H D.rt
theorem Ai (he:PE X e te):PS X (.Return (some e) pos) (Ur te):=by
 intro pins s σ H D I h
 exact wpAny_Return_some (AS (he pins s σ H _ I h) fun v s1 ⟨x,H1,I1,r1,q1⟩=>⟨x,σ,H1,I1,r1,q1⟩)
def Uw (c:TT) (t u:TS):TS:=fun D σ H=>c σ H fun b H1=>if b=true then t D σ H1 else u D σ H1
theorem AB {c:Expr} {a b:List Stmt} {tc:TT} (hc:PT X c tc) (ha:PSs X a t) (hb:PSs X b u):PS X (.If c a b pos) (Uw tc t u):=by
 intro pins s σ H D I h
 refine wpAny_If (AS (hc pins s σ H _ I h) fun d s1 ⟨H1,I1,q1⟩=>?_)
 cases d with
 | true=>exact ha pins s1 σ H1 D I1 q1
 | false=>exact hb pins s1 σ H1 D I1 q1
end
abbrev TG:=V→St→Hp→(St→Hp→Prop)→Prop
abbrev Si:=List V→St→Hp→(St→Hp→Prop)→Prop
def PG (X:Cx) (target:Expr) (t:TG):Prop:=
 ∀(pins:List (Addr×Obj)) (s:Shared) (σ:St) (H:Hp) (v:V) (u:Value) (Q:St→Hp→Prop),Inv X pins σ H s→RelV v u→t v σ H Q→
  wpAny (model X.prog X.w) X.A (assign target X.env u) (fun _ s'=>∃σ' H',Inv X pins σ' H' s'∧Q σ' H') X.xe s
def Uh (X:Cx) (ts:List Expr) (t:Si):Prop:=
 ∀(pins:List (Addr×Obj)) (s:Shared) (σ:St) (H:Hp) (vs:List V) (us:List Value) (Q:St→Hp→Prop),Inv X pins σ H s→Vals vs us→t vs σ H Q→
  wpAny (model X.prog X.w) X.A (assignInOrder ((assignEach ts X.env).map (·.2)) us) (fun _ s'=>∃σ' H',Inv X pins σ' H' s'∧Q σ' H') X.xe s
section
variable {X:Cx} {pos:Pos}
def Dd (i:Nat):TG:=fun v σ H Q=>Q (σ.set i (some v)) H
theorem AE {i:Nat} {x:Str} (hN:X.N.Nodup) (hi:X.N[i]? = some x) (hx:Tc X.env.scope x) (hf:X.fn x=true∨X.env.scope.names.lookup x=some .local:=by first | exact .inl rfl | exact .inr rfl | assumption):PG X (.Name x pos) (Dd i):=by
 intro pins s σ H v u Q I r h
 exact wpAny_assign_Name (KF I hN hi hx r (fun s' I'=>⟨_,H,I',h⟩) hf)
def UD:Si:=fun vs σ H Q=>vs=[]∧Q σ H
def TC (t:TG) (u:Si):Si:=fun vs σ H Q=>∃v r,vs=v::r∧t v σ H fun σ' H'=>u r σ' H' Q
theorem Jf:Uh X [] UD:=by
 intro pins s σ H vs us Q I r h
 obtain⟨e,h⟩:=h
 subst e
 cases r
 exact assignInOrder_nil ⟨σ,H,I,h⟩
theorem Ck {e:Expr} {es:List Expr} {t:TG} {u:Si} (h1:PG X e t) (h2:Uh X es u)
  (hs:(assignEach (e::es) X.env).map (·.2)=assign e X.env::(assignEach es X.env).map (·.2):=by rfl):Uh X (e::es) (TC t u):=by
 intro pins s σ H vs us Q I r h
 obtain⟨v,vr,e1,h⟩:=h
 subst e1
 cases r with
 | cons r rr=>
  rw[hs]
  refine assignInOrder_cons (AS (h1 pins s σ H _ _ _ I r h) fun _ s1 ⟨σ1,H1,I1,q1⟩=>?_)
  exact h2 pins s1 σ1 H1 _ _ Q I1 rr q1
def Uz (K:PySem.W.Frag) (n:Nat) (t:Si):TG:=fun v σ H Q=>∃a xs,v= .ref a∧SqT K H a xs∧xs.length=n∧t xs σ H Q
theorem LT {es:List Expr} {k:Nat} {t:Si} {n:Nat} (hc:X.calm=true) (h:Uh X es t)
  (hn:(assignEach es X.env).length=n:=by rfl) (hst:(assignEach es X.env).findIdx? (·.1)=none:=by rfl):PG X (.Tuple es k pos) (Uz X.K n t):=by
 intro pins s σ H v u Q I r hw
 obtain⟨a,xs,e1,hq,hl,hw⟩:=hw
 subst e1
 cases r
 obtain⟨its,rv,ht,hz⟩:=I.tuple hq
 refine assign_Tuple_tuple (I.ok.hd hc) ht (by simp[hn,←hl,rv.length]) hst fun h' hx=>?_
 have I1:Inv X pins σ H { s with heap:=h' }:=I.kept (t':=s.toks) fun b o e=>hx b o (Nat.ne_of_lt (Heap.lt_size e)) e
 exact h pins _ σ H xs _ Q I1 (by simpa using rv) hw
def QK (te:TE) (g:TG):TS:=fun D σ H=>te σ H fun x H1=>g x σ H1 D.nx
theorem SS {tg e:Expr} {te:TE} {g:TG} (he:PE X e te) (hg:PG X tg g) (hs:swapsWithSole [tg] e pos.line X.env=pure false:=by rfl) (hw:swappedStores [tg] e X.env=pure none:=by rfl)
  (h1:(assignEach [tg] X.env).map (·.2)=[assign tg X.env]:=by rfl):PS X (.Assign [tg] e pos) (QK te g):=by
 intro pins s σ H D I h
 refine wpAny_Assign_stores (AS (he pins s σ H _ I h) fun v s1 ⟨x,H1,I1,r1,q1⟩=>?_) hs hw
 rw[h1]
 exact AS (hg pins s1 σ H1 x v _ I1 r1 q1) fun _ s2 q=>q
theorem Az {i:Nat} {x:Str} {e:Expr} {te:TE} {pos':Pos} (hN:X.N.Nodup) (hi:X.N[i]? = some x) (hx:Tc X.env.scope x) (he:PE X e te) (hs:swapsWith e (some (.Name x pos')) pos.line X.env=pure false:=by rfl) (hf:X.fn x=true∨X.env.scope.names.lookup x=some .local:=by first | exact .inl rfl | exact .inr rfl | assumption) :
  PS X (.Assign [.Name x pos'] e pos) (QK te (Dd i)):=by
 intro pins s σ H D I h
 refine wpAny_Assign_Name (AS (he pins s σ H _ I h) fun v s1 ⟨y,H1,I1,r1,q1⟩=>?_) hs
 exact KF I1 hN hi hx r1 (fun s2 I2=>⟨_,H1,I2,q1⟩) hf
end
section
variable {X:Cx} {pos:Pos}
def SK (c:TT) (tb:TS):TS:=fun D σ H=>∃W:Nat→St→Hp→Prop,(∃m,W m σ H)∧∀m σ H,W m σ H→
 c σ H fun b H1=>if b=true then ∃N:St→Hp→Prop,(∀σ' H',N σ' H'→∃m',m'<m∧W m' σ' H')∧tb { D with nx:=N,ct:=N,bk:=D.nx } σ H1 else D.nx σ H1
theorem Ff {c:Expr} {body:List Stmt} {tc:TT} {tb:TS} (hp:PassesOwn (model X.prog X.w) X.A X.env X.xe) (hc:PT X c tc) (hb:PSs X body tb):PS X (.While c body [] pos) (SK tc tb):=by
 intro pins s σ H D I h
 obtain⟨W,⟨m0,w0⟩,turn⟩:=h
 refine wpAny_While (codeAny_whileLoop (fun n s'=>∃σ' H',Inv X pins σ' H' s'∧W n σ' H') ?_ m0 ⟨σ,H,I,w0⟩)
 rintro n s1 ⟨σ1,H1,I1,w1⟩
 refine wpAny_passesOwn hp (AS (hc pins s1 σ1 H1 _ I1 (turn n σ1 H1 w1)) fun b s2 ⟨H2,I2,q2⟩=>?_)
 cases b with
 | true=>
  obtain⟨N,hN,q2⟩:=q2
  rw[if_pos rfl]
  refine wpAny_passesOwn hp (AS (hb pins s2 σ1 H2 _ I2 q2) fun f s3 q3=>?_)
  cases f with
  | next=>
   obtain⟨σ3,H3,I3,n3⟩:=q3
   obtain⟨m',hm,w3⟩:=hN σ3 H3 n3
   exact⟨m',hm,σ3,H3,I3,w3⟩
  | cont=>
   obtain⟨σ3,H3,I3,n3⟩:=q3
   obtain⟨m',hm,w3⟩:=hN σ3 H3 n3
   exact⟨m',hm,σ3,H3,I3,w3⟩
  | brk=>exact q3
  | ret v=>exact q3
 | false=>
  rw[if_neg Bool.false_ne_true]
  exact wpAny_execs_nil ⟨σ1,H2,I2,q2⟩
end
structure It where
 go:Nat→Hp→Prop
 yld:Nat→Hp→V→Hp→Prop
 stop:Nat→Hp→Prop
def B3 (X:Cx) (pins:List (Addr×Obj)) (H:Hp) (b:Addr):Prop:=
 H b=none∧b≠X.env.locals∧b∉X.fs∧(b∈X.ex∨X.s₀.heap.objs.size≤b)∧(∀x c,X.env.cells.lookup x=some c→c≠b)∧∀p∈X.pn++pins,p.1≠b
theorem Inv.fpOk {X:Cx} {pins:List (Addr×Obj)} {σ:St} {H H':Hp} {s:Shared} {b:Addr} (I:Inv X pins σ H s) (hb:s.heap.objs.size≤b) (hn:H' b=none):B3 X pins H' b:=by
 refine⟨hn,Nat.ne_of_gt (Nat.lt_of_lt_of_le I.lt hb),I.nofs hb,.inr (Nat.le_trans I.sz hb),fun x c e z=>?_,fun p hp z=>?_⟩
 ·obtain⟨v,q⟩:=I.cell x c e
  exact absurd (Nat.lt_of_lt_of_le q.lt (by rw[z];exact hb)) (Nat.lt_irrefl _)
 ·exact absurd (Nat.lt_of_lt_of_le (Heap.lt_size (I.pin p hp).1) (by rw[z];exact hb)) (Nat.lt_irrefl _)
structure Lr (P:Program) (w:World) (K:PySem.W.Frag) (tg:Expr) (J:It) (fp:List Addr) (it:Addr) (tn:Nat→Heap→Prop):Prop where
 mem:it∈fp
 obj:∀i h,tn i h→∀b∈fp,∃o,h.get? b=some o∧∀v,o.data≠.cell v
 keep:∀i h h',tn i h→(∀b∈fp,∀o,h.get? b=some o→h'.get? b=some o)→tn i h'
 item:∀(X:Cx),X.prog=P→X.w=w→X.K=K→X.calm=true→∀(i:Nat) (pins:List (Addr×Obj)) (s:Shared) (σ:St) (H:Hp) (E:Value→Shared→Prop),Inv X pins σ H s→(∀b∈fp,B3 X pins H b)→tn i s.heap→J.go i H→
  wpAny (model P w) X.A (pyNext (.ref it)) (fun r s1=>∃u,r=some u∧
   wpAny (model P w) X.A (letOwnedTupleGo tg (.ref it) u) (fun _ s2=>∃x H',Inv X pins σ H' s2∧RelV x u∧J.yld i H x H'∧tn (i+1) s2.heap∧∀b∈fp,H' b=none) E s1) E s
 done:∀(X:Cx),X.prog=P→X.w=w→X.K=K→X.calm=true→∀(i:Nat) (pins:List (Addr×Obj)) (s:Shared) (σ:St) (H:Hp) (E:Value→Shared→Prop),Inv X pins σ H s→(∀b∈fp,B3 X pins H b)→tn i s.heap→J.stop i H→
  wpAny (model P w) X.A (pyNext (.ref it)) (fun r s1=>r=none∧Inv X pins σ H s1) E s
 self:∀(A:Around) (i:Nat) (s:Shared) (Q:Value→Shared→Prop) (E:Value→Shared→Prop),tn i s.heap→Q (.ref it) s→wpAny (model P w) A (pyIter (.ref it)) Q E s
abbrev TI:=St→Hp→(It→Hp→Prop)→Prop
def U7 (X:Cx) (pins:List (Addr×Obj)) (σ:St) (tg:Expr) (R:It→Hp→Prop) (itv:Value) (s2:Shared):Prop:=
 ∃(it:Addr) (fp:List Addr) (tn:Nat→Heap→Prop) (J:It) (H':Hp),itv= .ref it∧Inv X pins σ H' s2∧Lr X.prog X.w X.K tg J fp it tn∧tn 0 s2.heap∧(∀b∈fp,B3 X pins H' b)∧R J H'
def PI (X:Cx) (tg iter:Expr) (wi:TI):Prop:=
 ∀(pins:List (Addr×Obj)) (s:Shared) (σ:St) (H:Hp) (R:It→Hp→Prop),Inv X pins σ H s→wi σ H R→
  wpAny (model X.prog X.w) X.A (eval iter X.env) (fun v s1=>wpAny (model X.prog X.w) X.A (pyIter v) (U7 X pins σ tg R) X.xe s1) X.xe s
theorem Mh {M:Model} {A:Around} {E:Value→Shared→Prop} {s:Shared} {tg:Expr} {it:Addr} {u:Value} {o:Obj} {n:String} {vs:Array Value} {Q:Unit→Shared→Prop} (ho:s.heap.get? it=some o) (hc:o.cls= .type n) (hd:o.data= .fields vs)
    (hn:["enumerate","zip","dict_itemiterator","dict_reverseitemiterator","odict_iterator","itertools.zip_longest","itertools.pairwise"].contains n=false) (hQ:Q () s):wpAny M A (letOwnedTupleGo tg (.ref it) u) Q E s:=by
  unfold letOwnedTupleGo
  cases tg<;>first
    | exact wpAny_pure hQ
    | (cases u<;>first
        | exact wpAny_pure hQ
        | (refine wpAny_bind (wpAny_load ho ?_)
           rw[hc,hd]
           show wpAny M A (if (["enumerate","zip","dict_itemiterator","dict_reverseitemiterator","odict_iterator","itertools.zip_longest","itertools.pairwise"].contains n && vs[0]? == some (rawInt _))=true then _ else _) Q E s
           rw[if_neg (by intro h;rw[hn,Bool.false_and] at h;cases h)]
           exact wpAny_pure hQ))
def Qw (K:PySem.W.Frag) (a:Addr):It:=
 ⟨fun i H=>∃xs x,SqL K H a xs∧xs[i]? = some x,fun i H x H'=>H'=H∧∀xs,SqL K H a xs→xs[i]? = some x,fun i H=>∃xs,SqL K H a xs∧xs.length≤i⟩
def TU (K:PySem.W.Frag) (a:Addr):It:=
 ⟨fun i H=>∃xs x,SqT K H a xs∧xs[i]? = some x,fun i H x H'=>H'=H∧∀xs,SqT K H a xs→xs[i]? = some x,fun i H=>∃xs,SqT K H a xs∧xs.length≤i⟩
def Su (lo:Int) (n:Nat):It:=⟨fun i _=>i<n,fun i H x H'=>H'=H∧x= .int (lo+i),fun i _=>n≤i⟩
theorem Nm {P:Program} {w:World} {K:PySem.W.Frag} {tg:Expr} (a it:Addr):Lr P w K tg (Qw K a) [it] it (fun i h=>h.IsListIter it a i) where
 mem:=by simp
 obj:=fun i h st b hb=>by
  have e:b=it:=by simpa using hb
  subst e
  obtain⟨o,e,c,d⟩:=st
  exact⟨o,e,fun v z=>by rw[d] at z;cases z⟩
 keep:=fun i h h' st k=>st.at fun o e=>k it (by simp) o e
 item:=by
  intro X hP hw hK hc i pins s σ H E I hf st hg
  subst hP hw hK
  obtain⟨xs,x,hq,hx⟩:=hg
  obtain⟨its,rv,p,hz⟩:=I.list hq
  obtain⟨u,hu,ru⟩:=rv.get hx
  obtain⟨f0,f1,f2,f3,f4,f5⟩:=hf it (by simp)
  refine wpAny_pyNext_list_item st p.isList (x:=u) (by simpa using hu) fun h' st' sb=>?_
  have I1:Inv X pins σ H { s with heap:=h' }:=I.turned (t':=s.toks) (fun b o hb e=>(sb.2 b hb).trans e) f0 f1 f3 f4 f5
  obtain⟨o,e,c,d⟩:=id st'
  exact⟨u,rfl,Mh (s:={ s with heap:=h' }) e c d (by decide) ⟨x,H,I1,ru,⟨rfl,fun ys hy=>by rw[I.list_inj hy hq];exact hx⟩,st',fun b hb=>(hf b hb).1⟩⟩
 done:=by
  intro X hP hw hK hc i pins s σ H E I hf st hg
  subst hP hw hK
  obtain⟨xs,hq,hx⟩:=hg
  obtain⟨its,rv,p,hz⟩:=I.list hq
  obtain⟨f0,f1,f2,f3,f4,f5⟩:=hf it (by simp)
  have hl:=rv.length
  exact wpAny_pyNext_list_end (I.ok.hd hc) st p.isList (by simp;omega) fun h' eb=>⟨rfl,I.turned (t':=s.toks) (fun b o hb e=>eb b o hb e) f0 f1 f3 f4 f5⟩
 self:=fun _ _ _ _ _ st h=>wpAny_pyIter_listiter st h
theorem LE {P:Program} {w:World} {K:PySem.W.Frag} {tg:Expr} (a it:Addr):Lr P w K tg (TU K a) [it] it (fun i h=>h.IsTupleIter it a i) where
 mem:=by simp
 obj:=fun i h st b hb=>by
  have e:b=it:=by simpa using hb
  subst e
  obtain⟨o,e,c,d⟩:=st
  exact⟨o,e,fun v z=>by rw[d] at z;cases z⟩
 keep:=fun i h h' st k=>st.at fun o e=>k it (by simp) o e
 item:=by
  intro X hP hw hK hc i pins s σ H E I hf st hg
  subst hP hw hK
  obtain⟨xs,x,hq,hx⟩:=hg
  obtain⟨its,rv,p,hz⟩:=I.tuple hq
  obtain⟨u,hu,ru⟩:=rv.get hx
  obtain⟨f0,f1,f2,f3,f4,f5⟩:=hf it (by simp)
  refine wpAny_pyNext_tuple_item st (show s.heap.IsTuple a its.toArray from p) (x:=u) (by simpa using hu) fun h' st' sb=>?_
  have I1:Inv X pins σ H { s with heap:=h' }:=I.turned (t':=s.toks) (fun b o hb e=>(sb.2 b hb).trans e) f0 f1 f3 f4 f5
  obtain⟨o,e,c,d⟩:=id st'
  exact⟨u,rfl,Mh (s:={ s with heap:=h' }) e c d (by decide) ⟨x,H,I1,ru,⟨rfl,fun ys hy=>by rw[I.tuple_inj hy hq];exact hx⟩,st',fun b hb=>(hf b hb).1⟩⟩
 done:=by
  intro X hP hw hK hc i pins s σ H E I hf st hg
  subst hP hw hK
  obtain⟨xs,hq,hx⟩:=hg
  obtain⟨its,rv,p,hz⟩:=I.tuple hq
  obtain⟨f0,f1,f2,f3,f4,f5⟩:=hf it (by simp)
  have hl:=rv.length
  exact wpAny_pyNext_tuple_end (I.ok.hd hc) st (show s.heap.IsTuple a its.toArray from p) (by simp;omega) fun h' eb=>⟨rfl,I.turned (t':=s.toks) (fun b o hb e=>eb b o hb e) f0 f1 f3 f4 f5⟩
 self:=fun _ _ _ _ _ st h=>wpAny_pyIter_tupleiter st h
theorem Lv {P:Program} {w:World} {K:PySem.W.Frag} {tg:Expr} (it:Addr) (lo:Int) (n:Nat):Lr P w K tg (Su lo n) [it] it (fun i h=>IsRangeIter h it (lo+(i:Nat)*1) ((n:Int)-(i:Nat)) 1) where
 mem:=by simp
 obj:=fun i h st b hb=>by
  have e:b=it:=by simpa using hb
  subst e
  exact⟨_,st,fun v z=>by
   have z':Data.fields _=Data.cell v:=z
   cases z'⟩
 keep:=fun i h h' st k=>k it (by simp) _ st
 item:=by
  intro X hP hw hK hc i pins s σ H E I hf st hg
  subst hP hw hK
  obtain⟨f0,f1,f2,f3,f4,f5⟩:=hf it (by simp)
  have W:=Walks.range (prog:=X.prog) (w:=X.w) (I.ok.hd hc) it lo 1 n
  refine W.item i s _ _ hg st fun v h' tk hv st' kk=>?_
  obtain⟨t,rfl⟩:=hv
  have I1:Inv X pins σ H { s with heap:=h',toks:=tk }:=I.turned (fun b o hb e=>kk b o (by simpa using hb) e) f0 f1 f3 f4 f5
  refine⟨_,rfl,Mh (s:={ s with heap:=h',toks:=tk }) (n:="range_iterator") st' rfl rfl (by decide) ⟨.int (lo+i),H,I1,⟨t,?_⟩,⟨rfl,rfl⟩,st',fun b hb=>(hf b hb).1⟩⟩
  rw[Int.mul_one]
 done:=by
  intro X hP hw hK hc i pins s σ H E I hf st hg
  subst hP hw hK
  obtain⟨f0,f1,f2,f3,f4,f5⟩:=hf it (by simp)
  exact wpAny_pyNext_range_end (I.ok.hd hc) st (by have:n≤i:=hg;omega) fun h' eb=>⟨rfl,I.turned (t':=s.toks) (fun b o hb e=>eb b o hb e) f0 f1 f3 f4 f5⟩
 self:=fun _ _ _ _ _ st h=>wpAny_pyIter_rangeiter st h
end L2
namespace L2
open PySem PySem.Spec PyProof.Rows
section
variable {X:Cx} {tg:Expr}
def Ua (K:PySem.W.Frag) (tl:TE):TI:=fun σ H R=>tl σ H fun x H1=>∃a,x= .ref a∧(∃xs,SqL K H1 a xs)∧R (Qw K a) H1
def Uu (K:PySem.W.Frag) (tl:TE):TI:=fun σ H R=>tl σ H fun x H1=>∃a,x= .ref a∧(∃xs,SqT K H1 a xs)∧R (TU K a) H1
theorem AW {l:Expr} {tl:TE} (hl:PE X l tl):PI X tg l (Ua X.K tl):=by
 intro pins s σ H R I h
 refine AS (hl pins s σ H _ I h) fun v s1 ⟨x,H1,I1,r1,q1⟩=>?_
 obtain⟨a,e,⟨xs,hq⟩,q⟩:=q1
 subst e
 cases r1
 obtain⟨its,rv,p,hz⟩:=I1.list hq
 refine wpAny_pyIter_list p.isList ?_
 refine⟨s1.heap.objs.size,[s1.heap.objs.size],_,_,H1,rfl,I1.kept (t':=s1.toks) fun b o e=>Heap.get?_push_of_some _ e,Nm a _,⟨_,Heap.get?_push_size _ rfl,rfl,rfl⟩,fun b hb=>?_,q⟩
 have e:b=s1.heap.objs.size:=by simpa using hb
 subst e
 exact I1.fpOk (Nat.le_refl _) (I1.hok.fresh (Nat.le_refl _))
theorem PQ {l:Expr} {tl:TE} (hl:PE X l tl):PI X tg l (Uu X.K tl):=by
 intro pins s σ H R I h
 refine AS (hl pins s σ H _ I h) fun v s1 ⟨x,H1,I1,r1,q1⟩=>?_
 obtain⟨a,e,⟨xs,hq⟩,q⟩:=q1
 subst e
 cases r1
 obtain⟨its,rv,p,hz⟩:=I1.tuple hq
 refine wpAny_pyIter_tuple (show s1.heap.IsTuple a its.toArray from p) ?_
 refine⟨s1.heap.objs.size,[s1.heap.objs.size],_,_,H1,rfl,I1.kept (t':=s1.toks) fun b o e=>Heap.get?_push_of_some _ e,LE a _,⟨_,Heap.get?_push_size _ rfl,rfl,rfl⟩,fun b hb=>?_,q⟩
 have e:b=s1.heap.objs.size:=by simpa using hb
 subst e
 exact I1.fpOk (Nat.le_refl _) (I1.hok.fresh (Nat.le_refl _))
theorem KK {pins:List (Addr×Obj)} {σ:St} {H:Hp} {s:Shared} {R:It→Hp→Prop} {E:Value→Shared→Prop} {lo hi:Int} {t u v:Tok} {tk:Nat} (I:Inv X pins σ H s) (h1 : -(2^62)≤lo) (h2:lo<2^62) (h3 : -(2^62)≤hi) (h4:hi<2^62)
  (q:R (Su lo (hi-lo).toNat) H):wpAny (model X.prog X.w) X.A (pyIter (.ref s.heap.objs.size)) (U7 X pins σ tg R) E { s with heap:=s.heap.push { cls:=.type "range",data:=.fields #[.int lo t,.int hi u,.int 1 v] },toks:=tk }:=by
 refine wpAny_pyIter_range (IsRange.new ..) (small_one h1 h2 h3 h4) ?_
 have I1:Inv X pins σ H { s with heap:=s.heap.push { cls:=.type "range",data:=.fields #[.int lo t,.int hi u,.int 1 v] },toks:=tk }:=I.kept fun b o e=>Heap.get?_push_of_some _ e
 refine⟨(s.heap.push { cls:=.type "range",data:=.fields #[.int lo t,.int hi u,.int 1 v] }).objs.size,[(s.heap.push { cls:=.type "range",data:=.fields #[.int lo t,.int hi u,.int 1 v] }).objs.size],_,_,H,rfl,
  I1.kept (t':=tk) fun b o e=>Heap.get?_push_of_some _ e,Lv _ lo (hi-lo).toNat,?_,fun b hb=>?_,q⟩
 ·have e1:lo+((0:Nat):Int)*1=lo:=by simp
  have e2:(((hi-lo).toNat:Nat):Int)-((0:Nat):Int)=Builtin.Range.rangeSize lo hi 1:=by rw[rangeSize_one];split<;>omega
  show IsRangeIter _ _ (lo+((0:Nat):Int)*1) ((((hi-lo).toNat:Nat):Int)-((0:Nat):Int)) 1
  rw[e1,e2]
  exact Heap.get?_push_size _ rfl
 ·have e:b=(s.heap.push { cls:=.type "range",data:=.fields #[.int lo t,.int hi u,.int 1 v] }).objs.size:=by simpa using hb
  subst e
  exact I1.fpOk (Nat.le_refl _) (I1.hok.fresh (Nat.le_refl _))
def TY (ta:TA):TI:=fun σ H R=>ta σ H fun vs H1=>∃j:Int,vs=[.int j]∧-(2^62)≤j∧j<2^62∧R (Su 0 j.toNat) H1
def TD (ta:TA):TI:=fun σ H R=>ta σ H fun vs H1=>∃i j:Int,vs=[.int i,.int j]∧(-(2^62)≤i∧i<2^62∧-(2^62)≤j∧j<2^62)∧R (Su i (j-i).toNat) H1
theorem FY {a:Expr} {ta:TA} {p pos:Pos} (hg:Gl X "range") (hm:X.mg "range"=none) (ha:PA X [a] ta) (hs:starEach [a] X.env=[(false,eval a X.env)]:=by rfl):PI X tg (.Call (.Name "range" p) [a] [] pos) (TY ta):=by
 intro pins s σ H R I h
 refine Call_ (Cu I hg hm boot_range (PyProof.Rows.callWith_type1 (AS (ha pos pins s σ H _ I h) fun us s1 ⟨vs,H1,I1,r1,q1⟩=>?_) hs rfl))
 obtain⟨j,e,q1,q2,q⟩:=q1
 subst e
 cases r1 with
 | cons r rr=>
  cases rr
  obtain⟨t,rfl⟩:=r
  exact call_range_1 (KK I1 (by omega) (by omega) q1 q2 (by simpa using q))
theorem IY {a b:Expr} {ta:TA} {p pos:Pos} (hg:Gl X "range") (hm:X.mg "range"=none) (ha:PA X [a,b] ta) (hs:starEach [a,b] X.env=[(false,eval a X.env),(false,eval b X.env)]:=by rfl) (hs2:starEach [b] X.env=[(false,eval b X.env)]:=by rfl) :
  PI X tg (.Call (.Name "range" p) [a,b] [] pos) (TD ta):=by
 intro pins s σ H R I h
 refine Call_ (Cu I hg hm boot_range (PyProof.Rows.callWith_type1 (AS (ha pos pins s σ H _ I h) fun us s1 ⟨vs,H1,I1,r1,q1⟩=>?_) (by rw[hs,hs2]) (by rw[hs2];rfl)))
 obtain⟨i,j,e,⟨q1,q2,q3,q4⟩,q⟩:=q1
 subst e
 cases r1 with
 | cons r rr=>
  cases rr with
  | cons r' rr=>
   cases rr
   obtain⟨t,rfl⟩:=r
   obtain⟨t',rfl⟩:=r'
   exact call_range_2 (KK I1 q1 q2 q3 q4 q)
def Lf (wi:TI) (g:TG) (tb:TS):TS:=fun D σ H=>wi σ H fun J H1=>∃W:Nat→Nat→St→Hp→Prop,(∃m,W 0 m σ H1)∧∀i m σ H,W i m σ H→
 (J.stop i H∧D.nx σ H)∨(J.go i H∧∃N:St→Hp→Prop,(∀σ' H',N σ' H'→∃m',m'<m∧W (i+1) m' σ' H')∧∀x H',J.yld i H x H'→g x σ H' fun σ2 H2=>tb { D with nx:=N,ct:=N,bk:=D.nx } σ2 H2)
def HW (fp:List Addr) (h:Heap):List (Addr×Obj):=fp.filterMap fun b=>(h.get? b).map fun o=>(b,o)
theorem Dx {fp:List Addr} {h:Heap} {b:Addr} {o:Obj} (hb:b∈fp) (e:h.get? b=some o):(b,o)∈HW fp h:=List.mem_filterMap.mpr ⟨b,hb,by rw[e];rfl⟩
theorem NF {fp:List Addr} {h:Heap} {p:Addr×Obj} (hp:p∈HW fp h):p.1∈fp∧h.get? p.1=some p.2:=by
 obtain⟨b,hb,e⟩:=List.mem_filterMap.mp hp
 cases q:h.get? b with
 | none=>rw[q] at e;cases e
 | some o=>
  rw[q] at e
  have e':(b,o)=p:=Option.some.inj e
  subst e'
  exact⟨hb,q⟩
theorem Inv.pinned {pins:List (Addr×Obj)} {σ:St} {H:Hp} {s:Shared} {fp:List Addr} (I:Inv X pins σ H s) (hf:∀b∈fp,B3 X pins H b) (ho:∀b∈fp,∃o,s.heap.get? b=some o∧∀v,o.data≠.cell v):Inv X (pins++HW fp s.heap) σ H s:=
 I.pins_of fun p hp=>(List.mem_append.mp hp).elim (fun z=>I.pin p (List.mem_append_right _ z)) fun z=>by
  obtain⟨hb,e⟩:=NF z
  obtain⟨f0,f1,f2,_⟩:=hf p.1 hb
  obtain⟨o,e',d⟩:=ho p.1 hb
  rw[e] at e';cases e'
  exact⟨e,f0,f1,f2,d⟩
theorem Inv.unpinned {pins pl:List (Addr×Obj)} {σ:St} {H:Hp} {s:Shared} (I:Inv X (pins++pl) σ H s):Inv X pins σ H s:=I.pins_of fun p hp=>I.pin p (List.mem_append_right _ (List.mem_append_left _ hp))
theorem BR {iter:Expr} {body:List Stmt} {wi:TI} {g:TG} {tb:TS} {pos:Pos} (hp:PassesOwn (model X.prog X.w) X.A X.env X.xe) (hc:X.calm=true) (hi:PI X tg iter wi) (hg:PG X tg g) (hb:PSs X body tb)
  (hs:∀x,foldedSetIterable iter X.env x=pure x:=by intro _;rfl):PS X (.For tg iter body [] pos) (Lf wi g tb):=by
 intro pins s σ H D I h
 refine wpAny_For (AS (hi pins s σ H _ I h) fun v s1 h1=>AS h1 fun itv s2 h2=>?_) hs
 obtain⟨it,fp,tn,J,H2,e,I2,T,st2,f2,W,⟨m0,w0⟩,turn⟩:=h2
 subst e
 have stat:∀{H':Hp},(∀b∈fp,H' b=none)→∀b∈fp,B3 X pins H' b:=fun hn b hb=>⟨hn b hb,(f2 b hb).2⟩
 refine codeAny_forLoop_any (fun n s'=>∃i σ' H',Inv X pins σ' H' s'∧tn i s'.heap∧(∀b∈fp,H' b=none)∧W i n σ' H') ?_ m0 ⟨0,σ,H2,I2,st2,fun b hb=>(f2 b hb).1,w0⟩
 rintro n s3 ⟨i,σ3,H3,I3,st3,fr3,w3⟩
 rcases turn i n σ3 H3 w3 with⟨stop,qn⟩|⟨go,N,hN,step⟩
 ·refine wpAny_passesOwn hp (AS (T.done X rfl rfl rfl hc i pins s3 σ3 H3 X.xe I3 (stat fr3) st3 stop) fun r s4 ⟨hr,I4⟩=>?_)
  subst hr
  exact wpAny_execs_nil ⟨σ3,H3,I4,qn⟩
 ·refine wpAny_passesOwn hp (AS (T.item X rfl rfl rfl hc i pins s3 σ3 H3 X.xe I3 (stat fr3) st3 go) fun r s4 ⟨u,hr,h4⟩=>?_)
  subst hr
  refine wpAny_passesOwn hp (AS h4 fun _ s5 ⟨x,H5,I5,r5,y5,st5,fr5⟩=>?_)
  have I5':=I5.pinned (stat fr5) (T.obj _ _ st5)
  refine wpAny_passesOwn hp (AS (hg _ s5 σ3 H5 x u _ I5' r5 (step x H5 y5)) fun _ s6 ⟨σ6,H6,I6,q6⟩=>?_)
  refine wpAny_passesOwn hp (AS (hb _ s6 σ6 H6 _ I6 q6) fun f s7 q7=>?_)
  have again:∀{σ7:St} {H7:Hp},Inv X (pins++HW fp s5.heap) σ7 H7 s7→N σ7 H7→∃m,m<n∧∃i σ' H',Inv X pins σ' H' s7∧tn i s7.heap∧(∀b∈fp,H' b=none)∧W i m σ' H':=fun {σ7 H7} I7 n7=>by
   obtain⟨m',hm,w7⟩:=hN σ7 H7 n7
   refine⟨m',hm,i+1,σ7,H7,I7.unpinned,T.keep _ _ _ st5 fun b hb o e=>(I7.pin (b,o) (List.mem_append_right _ (List.mem_append_right _ (Dx hb e)))).1,fun b hb=>?_,w7⟩
   obtain⟨o,e,d⟩:=T.obj _ _ st5 b hb
   exact (I7.pin (b,o) (List.mem_append_right _ (List.mem_append_right _ (Dx hb e)))).2.1
  cases f with
  | next=>obtain⟨σ7,H7,I7,n7⟩:=q7;exact again I7 n7
  | cont=>obtain⟨σ7,H7,I7,n7⟩:=q7;exact again I7 n7
  | brk=>obtain⟨σ7,H7,I7,q7⟩:=q7;exact⟨σ7,H7,I7.unpinned,q7⟩
  | ret v=>obtain⟨x7,σ7,H7,I7,r7,q7⟩:=q7;exact⟨x7,σ7,H7,I7.unpinned,r7,q7⟩
end
theorem A4 {K:PySem.W.Frag} {a:Addr} {xs:List V} {g:TG} {tb:TS} {D:Cg} {σ:St} {H:Hp} (Pv:Nat→St→Hp→Prop) (h0:Pv 0 σ H) (hl:∀i σ H,i≤xs.length→Pv i σ H→SqL K H a xs)
  (hs:∀i x σ H,xs[i]? = some x→Pv i σ H→g x σ H fun σ2 H2=>tb { D with nx:=Pv (i+1),ct:=Pv (i+1),bk:=D.nx } σ2 H2) (hd:∀σ H,Pv xs.length σ H→D.nx σ H) :
  ∃W:Nat→Nat→St→Hp→Prop,(∃m,W 0 m σ H)∧∀i m σ H,W i m σ H→
   ((Qw K a).stop i H∧D.nx σ H)∨((Qw K a).go i H∧∃N:St→Hp→Prop,(∀σ' H',N σ' H'→∃m',m'<m∧W (i+1) m' σ' H')∧∀x H',(Qw K a).yld i H x H'→g x σ H' fun σ2 H2=>tb { D with nx:=N,ct:=N,bk:=D.nx } σ2 H2):=by
 refine⟨fun i m σ H=>m=xs.length-i∧i≤xs.length∧Pv i σ H,⟨xs.length,by simp,Nat.zero_le _,h0⟩,?_⟩
 rintro i m σ H ⟨rfl,hi,p⟩
 have q:=hl i σ H hi p
 by_cases hlt:i<xs.length
 ·refine .inr ⟨⟨xs,xs[i],q,by simp[hlt]⟩,Pv (i+1),fun σ' H' p'=>⟨xs.length-(i+1),by omega,rfl,hlt,p'⟩,fun x H' y=>?_⟩
  obtain⟨e,y⟩:=y
  subst e
  exact hs i x σ _ (y xs q) p
 ·have e:i=xs.length:=by omega
  subst e
  exact .inl ⟨⟨xs,q,Nat.le_refl _⟩,hd σ H p⟩
theorem L7 {K:PySem.W.Frag} {a:Addr} {xs:List V} {g:TG} {tb:TS} {D:Cg} {σ:St} {H:Hp} (Pv:Nat→St→Hp→Prop) (h0:Pv 0 σ H) (hl:∀i σ H,i≤xs.length→Pv i σ H→SqT K H a xs)
  (hs:∀i x σ H,xs[i]? = some x→Pv i σ H→g x σ H fun σ2 H2=>tb { D with nx:=Pv (i+1),ct:=Pv (i+1),bk:=D.nx } σ2 H2) (hd:∀σ H,Pv xs.length σ H→D.nx σ H) :
  ∃W:Nat→Nat→St→Hp→Prop,(∃m,W 0 m σ H)∧∀i m σ H,W i m σ H→
   ((TU K a).stop i H∧D.nx σ H)∨((TU K a).go i H∧∃N:St→Hp→Prop,(∀σ' H',N σ' H'→∃m',m'<m∧W (i+1) m' σ' H')∧∀x H',(TU K a).yld i H x H'→g x σ H' fun σ2 H2=>tb { D with nx:=N,ct:=N,bk:=D.nx } σ2 H2):=by
 refine⟨fun i m σ H=>m=xs.length-i∧i≤xs.length∧Pv i σ H,⟨xs.length,by simp,Nat.zero_le _,h0⟩,?_⟩
 rintro i m σ H ⟨rfl,hi,p⟩
 have q:=hl i σ H hi p
 by_cases hlt:i<xs.length
 ·refine .inr ⟨⟨xs,xs[i],q,by simp[hlt]⟩,Pv (i+1),fun σ' H' p'=>⟨xs.length-(i+1),by omega,rfl,hlt,p'⟩,fun x H' y=>?_⟩
  obtain⟨e,y⟩:=y
  subst e
  exact hs i x σ _ (y xs q) p
 ·have e:i=xs.length:=by omega
  subst e
  exact .inl ⟨⟨xs,q,Nat.le_refl _⟩,hd σ H p⟩
theorem Cc {lo:Int} {n:Nat} {g:TG} {tb:TS} {D:Cg} {σ:St} {H:Hp} (Pv:Nat→St→Hp→Prop) (h0:Pv 0 σ H)
  (hs:∀i σ H,i<n→Pv i σ H→g (.int (lo+i)) σ H fun σ2 H2=>tb { D with nx:=Pv (i+1),ct:=Pv (i+1),bk:=D.nx } σ2 H2) (hd:∀σ H,Pv n σ H→D.nx σ H) :
  ∃W:Nat→Nat→St→Hp→Prop,(∃m,W 0 m σ H)∧∀i m σ H,W i m σ H→
   ((Su lo n).stop i H∧D.nx σ H)∨((Su lo n).go i H∧∃N:St→Hp→Prop,(∀σ' H',N σ' H'→∃m',m'<m∧W (i+1) m' σ' H')∧∀x H',(Su lo n).yld i H x H'→g x σ H' fun σ2 H2=>tb { D with nx:=N,ct:=N,bk:=D.nx } σ2 H2):=by
 refine⟨fun i m σ H=>m=n-i∧i≤n∧Pv i σ H,⟨n,by simp,Nat.zero_le _,h0⟩,?_⟩
 rintro i m σ H ⟨rfl,hi,p⟩
 by_cases hlt:i<n
 ·refine .inr ⟨hlt,Pv (i+1),fun σ' H' p'=>⟨n-(i+1),by omega,rfl,hlt,p'⟩,fun x H' y=>?_⟩
  obtain⟨e,y⟩:=y
  subst e y
  exact hs i σ _ hlt p
 ·have e:i=n:=by omega
  subst e
  exact .inl ⟨Nat.le_refl _,hd σ H p⟩
end L2
namespace L2
open PySem PySem.Spec PyProof.Rows
abbrev R2:=V→V→Hp→VK→Prop
def Ep (X:Cx) (f:Value→Value→Sem Value) (r:R2):Prop:=
 ∀(pins:List (Addr×Obj)) (s:Shared) (σ:St) (H:Hp) (x y:V) (v u:Value) (Q:VK),Inv X pins σ H s→RelV x v→RelV y u→r x y H Q→
  wpAny (model X.prog X.w) X.A (f v u) (EP X pins σ Q) X.xe s
def UU (X:Cx) (f:Value→Sem Value) (r:V→Hp→VK→Prop):Prop:=
 ∀(pins:List (Addr×Obj)) (s:Shared) (σ:St) (H:Hp) (x:V) (v:Value) (Q:VK),Inv X pins σ H s→RelV x v→r x H Q→
  wpAny (model X.prog X.w) X.A (f v) (EP X pins σ Q) X.xe s
def BP (X:Cx) (f:Value) (r:List V→Hp→VK→Prop):Prop:=
 ∀(pins:List (Addr×Obj)) (s:Shared) (σ:St) (H:Hp) (xs:List V) (us:List Value) (Q:VK),Inv X pins σ H s→Vals xs us→r xs H Q→
  wpAny (model X.prog X.w) X.A (call f us) (EP X pins σ Q) X.xe s
def UW (X:Cx) (r:V→Hp→(Bool→Hp→Prop)→Prop):Prop:=
 ∀(pins:List (Addr×Obj)) (s:Shared) (σ:St) (H:Hp) (x:V) (v:Value) (Q:Bool→Hp→Prop),Inv X pins σ H s→RelV x v→r x H Q→
  wpAny (model X.prog X.w) X.A (truthy v) (TP X pins σ Q) X.xe s
def Ug (r:R2) (ta tb:TE):TE:=fun σ H Q=>ta σ H fun x H1=>tb σ H1 fun y H2=>r x y H2 Q
def Vf (r:V→Hp→VK→Prop) (ta:TE):TE:=fun σ H Q=>ta σ H fun x H1=>r x H1 Q
def rI (C:Int→Int→Prop) (g:Int→Int→V):R2:=fun x y H Q=>∃i j,x= .int i∧y= .int j∧C i j∧Q (g i j) H
def RQ (g:Int→Int→V):R2:=fun x y H Q=>∃i j,x= .int i∧y= .int j∧Q (g i j) H
def rU (g:Int→V):V→Hp→VK→Prop:=fun x H Q=>∃i,x= .int i∧Q (g i) H
section
variable {X:Cx} {a b c:Expr} {ta tb tc:TE} {pos:Pos}
theorem Sh (ha:PE X a ta) (hb:PE X b tb) {pins:List (Addr×Obj)} {s:Shared} {σ:St} {H:Hp} {R:V→V→Hp→Prop} (I:Inv X pins σ H s)
  (h:ta σ H fun x H1=>tb σ H1 fun y H2=>R x y H2) {Q:Value→Shared→Prop} {f:Value→Value→Sem Value}
  (hf:∀v u s2 x y H2,Inv X pins σ H2 s2→RelV x v→RelV y u→R x y H2→wpAny (model X.prog X.w) X.A (f v u) Q X.xe s2) :
  wpAny (model X.prog X.w) X.A (eval a X.env) (fun v s₁=>wpAny (model X.prog X.w) X.A (eval b X.env) (fun u s₂=>wpAny (model X.prog X.w) X.A (f v u) Q X.xe s₂) X.xe s₁) X.xe s:=by
 refine AS (ha pins s σ H _ I h) fun v s1 ⟨x,H1,I1,r1,q1⟩=>?_
 refine AS (hb pins s1 σ H1 _ I1 q1) fun u s2 ⟨y,H2,I2,r2,q2⟩=>?_
 exact hf v u s2 x y H2 I2 r1 r2 q2
theorem AD {op:Operator} {r:R2} (ho:Ep X (binaryOp op) r) (ha:PE X a ta) (hb:PE X b tb):PE X (.BinOp a op b pos) (Ug r ta tb):=by
 intro pins s σ H Q I h
 exact wpAny_BinOp (Sh ha hb I h fun v u s2 x y H2 I2 rx ry q=>ho pins s2 σ H2 x y v u Q I2 rx ry q)
theorem Ko {op:UnaryOp} {r:V→Hp→VK→Prop} (ho:UU X (unaryOp op) r) (ha:PE X a ta):PE X (.UnaryOp op a pos) (Vf r ta):=by
 intro pins s σ H Q I h
 exact UnaryOp_ (AS (ha pins s σ H _ I h) fun v s1 ⟨x,H1,I1,r1,q1⟩=>ho pins s1 σ H1 x v Q I1 r1 q1)
theorem Te {f:Value→Value→Sem Value} {C:Int→Int→Prop} {g:Int→Int→Int}
  (rule:∀(i j:Int) (t u:Tok) (s:Shared) (Q:Value→Shared→Prop) (E:Value→Shared→Prop),C i j→Q (.int (g i j) s.toks) { s with toks:=s.toks+1 }→wpAny (model X.prog X.w) X.A (f (.int i t) (.int j u)) Q E s) :
  Ep X f (rI C fun i j=>.int (g i j)):=by
 intro pins s σ H x y v u Q I rx ry h
 obtain⟨i,j,rfl,rfl,hc,q⟩:=h
 obtain⟨t,rfl⟩:=rx
 obtain⟨t',rfl⟩:=ry
 exact rule i j t t' s _ _ hc ⟨.int (g i j),H,I.tok _,⟨_,rfl⟩,q⟩
theorem Sq {f:Value→Value→Sem Value} {g:Int→Int→Int}
  (rule:∀(i j:Int) (t u:Tok) (s:Shared) (Q:Value→Shared→Prop) (E:Value→Shared→Prop),Q (.int (g i j) s.toks) { s with toks:=s.toks+1 }→wpAny (model X.prog X.w) X.A (f (.int i t) (.int j u)) Q E s) :
  Ep X f (RQ fun i j=>.int (g i j)):=by
 intro pins s σ H x y v u Q I rx ry h
 obtain⟨i,j,rfl,rfl,q⟩:=h
 obtain⟨t,rfl⟩:=rx
 obtain⟨t',rfl⟩:=ry
 exact rule i j t t' s _ _ ⟨.int (g i j),H,I.tok _,⟨_,rfl⟩,q⟩
theorem Rg {f:Value→Value→Sem Value} {g:Int→Int→Bool}
  (rule:∀(i j:Int) (t u:Tok) (s:Shared) (Q:Value→Shared→Prop) (E:Value→Shared→Prop),Q (.bool (g i j)) s→wpAny (model X.prog X.w) X.A (f (.int i t) (.int j u)) Q E s) :
  Ep X f (RQ fun i j=>.bl (g i j)):=by
 intro pins s σ H x y v u Q I rx ry h
 obtain⟨i,j,rfl,rfl,q⟩:=h
 obtain⟨t,rfl⟩:=rx
 obtain⟨t',rfl⟩:=ry
 exact rule i j t t' s _ _ ⟨.bl (g i j),H,I,rfl,q⟩
def UL (i j:Int):Prop:=0<j∧j<1073741824
def Tu (i j:Int):Prop:=0≤j∧j≤1000000∧i.natAbs<2^64
def CMul (i j:Int):Prop:=(-(2^64)<i∧i<2^64)∨(-(2^64)<j∧j<2^64)
theorem CMul.ok {i j:Int} (h:CMul i j):IntMulOk i j:=by
 rcases h with⟨h1,h2⟩|⟨h1,h2⟩
 ·exact .of_left (intBits_le_64 h1 h2)
 ·exact .of_right (intBits_le_64 h1 h2)
theorem LP (k:Nat):(0:Int)≤2^k:=by
 rw[two_pow_cast]
 exact Int.natCast_nonneg _
theorem Ch:Ep X (binaryOp .Add) (RQ fun i j=>.int (i+j)):=Sq fun _ _ _ _ _ _ _ q=>add_int q
theorem Ez:Ep X (binaryOp .Sub) (RQ fun i j=>.int (i-j)):=Sq fun _ _ _ _ _ _ _ q=>sub_int q
theorem HX:Ep X (binaryOp .Mult) (rI CMul fun i j=>.int (i*j)):=Te fun _ _ _ _ _ _ _ hc q=>mul_int q hc.ok
theorem Br:Ep X (binaryOp .FloorDiv) (rI UL fun i j=>.int (i / j)):=Te fun i j _ _ _ _ _ hc q=>by
 have h1:(0:Int)<j:=hc.1
 have h2:j<1073741824:=hc.2
 exact floordiv_int (by omega) (by rw[Int.fdiv_eq_ediv_of_nonneg i (by omega)];exact q) (.inl (PyProof.noPylong_small (by omega)))
theorem A6:Ep X (binaryOp .Mod) (rI (fun _ j=>0<j) fun i j=>.int (i%j)):=Te fun i j _ _ _ _ _ hc q=>by
 have h1:(0:Int)<j:=hc
 exact mod_int' (by omega) (by rw[Int.fmod_eq_emod_of_nonneg i (by omega)];exact q)
theorem SI:Ep X (binaryOp .Pow) (rI Tu fun i j=>.int (i^j.toNat)):=Te fun _ _ _ _ _ _ _ hc q=>pow_int_small hc.1 hc.2.1 hc.2.2 q
theorem R9:Ep X (binaryOp .LShift) (rI Tu fun i j=>.int (i*2^j.toNat)):=Te fun _ _ _ _ _ _ _ hc q=>lshift_int_small hc.1 hc.2.1 hc.2.2 q
theorem SB:Ep X (binaryOp .RShift) (rI (fun _ j=>0≤j) fun i j=>.int (i / 2^j.toNat)):=Te fun i j _ _ _ _ _ hc q=>
 rshift_int hc (by rw[Int.fdiv_eq_ediv_of_nonneg i (LP _)];exact q)
theorem S0:Ep X (binaryOp .BitAnd) (RQ fun i j=>.int (Builtin.bitAnd i j)):=Sq fun _ _ _ _ _ _ _ q=>and_int q
theorem Vk {f:Value→Sem Value} {g:Int→Int}
  (rule:∀(i:Int) (t:Tok) (s:Shared) (Q:Value→Shared→Prop) (E:Value→Shared→Prop),Q (.int (g i) s.toks) { s with toks:=s.toks+1 }→wpAny (model X.prog X.w) X.A (f (.int i t)) Q E s) :
  UU X f (rU fun i=>.int (g i)):=by
 intro pins s σ H x v Q I rx h
 obtain⟨i,rfl,q⟩:=h
 obtain⟨t,rfl⟩:=rx
 exact rule i t s _ _ ⟨.int (g i),H,I.tok _,⟨_,rfl⟩,q⟩
theorem HB:UU X (unaryOp .USub) (rU fun i=>.int (-i)):=Vk fun _ _ _ _ _ q=>neg_int q
end
def Ue:V→V→Bool
 | .non,.non=>true | .non,.int _=>true | .int _,.non=>true | .non,.bl _=>true | .bl _,.non=>true | .non,.str _=>true | .str _,.non=>true
 | .int _,.int _=>true | .bl _,.bl _=>true | .str _,.str _=>true | .byt _,.byt _=>true
 | .int _,.str _=>true | .str _,.int _=>true | .bl _,.str _=>true | .str _,.bl _=>true
 | _,_=>false
def Vi:R2:=fun x y H Q=>Ue x y=true∧Q (.bl (decide (x=y))) H
def Vl:R2:=fun x y H Q=>Ue x y=true∧Q (.bl (!decide (x=y))) H
theorem L8 {i j:Int}:decide (V.int i=V.int j)=(i == j):=by
 rw[Bool.eq_iff_iff]
 simp
theorem O6 {i j:Bool}:decide (V.bl i=V.bl j)=(i == j):=by
 rw[Bool.eq_iff_iff]
 simp
theorem Mt {i j:Str}:decide (V.str i=V.str j)=(i == j):=by
 rw[Bool.eq_iff_iff]
 simp
theorem Mg {i j:Array UInt8}:decide (V.byt i=V.byt j)=(i.toList == j.toList):=by
 rw[Bool.eq_iff_iff]
 cases i
 cases j
 simp
section
variable {X:Cx} {a b c:Expr} {ta tb tc:TE} {pos:Pos}
theorem AY {pins:List (Addr×Obj)} {σ:St} {H:Hp} {s:Shared} {Q:VK} {k k':Bool} (I:Inv X pins σ H s) (q:Q (.bl k) H) (e:k=k'):EP X pins σ Q (.bool k') s:=by
 subst e
 exact⟨.bl k,H,I,rfl,q⟩
theorem AN:Ep X (compareOp .Eq) Vi:=by
 intro pins s σ H x y v u Q I rx ry h
 obtain⟨hs,q⟩:=h
 cases x with
 | non=>
  cases rx
  cases y with
  | non=>cases ry;exact PySem.EqNone.eq_none_none (AY I q (by simp))
  | bl j=>cases ry;exact PySem.EqNone.eq_none_bool (AY I q (by simp))
  | int j=>obtain⟨t',rfl⟩:=ry;exact PySem.EqNone.eq_none_int (AY I q (by simp))
  | str j=>obtain⟨t',rfl⟩:=ry;exact PySem.EqNone.eq_none_str (AY I q (by simp))
  | _=>exact absurd (show false=true from hs) Bool.false_ne_true
 | bl i=>
  cases rx
  cases y with
  | non=>cases ry;exact PySem.EqNone.eq_bool_none (AY I q (by simp))
  | bl j=>cases ry;exact eq_bool (AY I q O6)
  | str j=>obtain⟨t',rfl⟩:=ry;exact PySem.EqMixed.eq_bool_str (AY I q (by simp))
  | _=>exact absurd (show false=true from hs) Bool.false_ne_true
 | int i=>
  obtain⟨t,rfl⟩:=rx
  cases y with
  | non=>cases ry;exact PySem.EqNone.eq_int_none (AY I q (by simp))
  | int j=>obtain⟨t',rfl⟩:=ry;exact eq_int (AY I q L8)
  | str j=>obtain⟨t',rfl⟩:=ry;exact PySem.EqMixed.eq_int_str (AY I q (by simp))
  | _=>exact absurd (show false=true from hs) Bool.false_ne_true
 | str i=>
  obtain⟨t,rfl⟩:=rx
  cases y with
  | non=>cases ry;exact PySem.EqNone.eq_str_none (AY I q (by simp))
  | bl j=>cases ry;exact PySem.EqMixed.eq_str_bool (AY I q (by simp))
  | int j=>obtain⟨t',rfl⟩:=ry;exact PySem.EqMixed.eq_str_int (AY I q (by simp))
  | str j=>obtain⟨t',rfl⟩:=ry;exact eq_str (AY I q Mt)
  | _=>exact absurd (show false=true from hs) Bool.false_ne_true
 | byt i=>
  obtain⟨t,rfl⟩:=rx
  cases y with
  | byt j=>obtain⟨t',rfl⟩:=ry;exact PySem.W.eq_bytes (AY I q Mg)
  | _=>exact absurd (show false=true from hs) Bool.false_ne_true
 | _=>cases y<;>exact absurd (show false=true from hs) Bool.false_ne_true
theorem ID:Ep X (compareOp .NotEq) Vl:=by
 intro pins s σ H x y v u Q I rx ry h
 obtain⟨hs,q⟩:=h
 cases x with
 | non=>
  cases rx
  cases y with
  | non=>cases ry;exact PySem.EqNone.ne_none_none (AY I q (by simp))
  | bl j=>cases ry;exact PySem.EqNone.ne_none_bool (AY I q (by simp))
  | int j=>obtain⟨t',rfl⟩:=ry;exact PySem.EqNone.ne_none_int (AY I q (by simp))
  | str j=>obtain⟨t',rfl⟩:=ry;exact PySem.EqNone.ne_none_str (AY I q (by simp))
  | _=>exact absurd (show false=true from hs) Bool.false_ne_true
 | bl i=>
  cases rx
  cases y with
  | non=>cases ry;exact PySem.EqNone.ne_bool_none (AY I q (by simp))
  | bl j=>cases ry;exact ne_bool (AY I q (congrArg not O6))
  | str j=>obtain⟨t',rfl⟩:=ry;exact PySem.EqMixed.ne_bool_str (AY I q (by simp))
  | _=>exact absurd (show false=true from hs) Bool.false_ne_true
 | int i=>
  obtain⟨t,rfl⟩:=rx
  cases y with
  | non=>cases ry;exact PySem.EqNone.ne_int_none (AY I q (by simp))
  | int j=>obtain⟨t',rfl⟩:=ry;exact ne_int (AY I q (congrArg not L8))
  | str j=>obtain⟨t',rfl⟩:=ry;exact PySem.EqMixed.ne_int_str (AY I q (by simp))
  | _=>exact absurd (show false=true from hs) Bool.false_ne_true
 | str i=>
  obtain⟨t,rfl⟩:=rx
  cases y with
  | non=>cases ry;exact PySem.EqNone.ne_str_none (AY I q (by simp))
  | bl j=>cases ry;exact PySem.EqMixed.ne_str_bool (AY I q (by simp))
  | int j=>obtain⟨t',rfl⟩:=ry;exact PySem.EqMixed.ne_str_int (AY I q (by simp))
  | str j=>obtain⟨t',rfl⟩:=ry;exact ne_str (AY I q (congrArg not Mt))
  | _=>exact absurd (show false=true from hs) Bool.false_ne_true
 | byt i=>
  obtain⟨t,rfl⟩:=rx
  cases y with
  | byt j=>obtain⟨t',rfl⟩:=ry;exact PySem.W.ne_bytes (AY I q (congrArg not Mg))
  | _=>exact absurd (show false=true from hs) Bool.false_ne_true
 | _=>cases y<;>exact absurd (show false=true from hs) Bool.false_ne_true
theorem Iw:Ep X (compareOp .Lt) (RQ fun i j=>.bl (decide (i<j))):=Rg fun _ _ _ _ _ _ _ q=>lt_int q
theorem TB:Ep X (compareOp .LtE) (RQ fun i j=>.bl (decide (i≤j))):=Rg fun _ _ _ _ _ _ _ q=>le_int q
theorem Et:Ep X (compareOp .Gt) (RQ fun i j=>.bl (decide (j<i))):=Rg fun _ _ _ _ _ _ _ q=>gt_int q
theorem RX:Ep X (compareOp .GtE) (RQ fun i j=>.bl (decide (j≤i))):=Rg fun _ _ _ _ _ _ _ q=>ge_int q
theorem Ar (b:Expr) {op:CmpOp} (h:op≠.In:=by decide) (h2:op≠.NotIn:=by decide):behindInMarks op b=false:=by
 have e1:(op == CmpOp.In)=false:=by cases op<;>first | rfl | exact absurd rfl h
 have e2:(op == CmpOp.NotIn)=false:=by cases op<;>first | rfl | exact absurd rfl h2
 cases b<;>simp[behindInMarks,e1,e2]
theorem Be {op:CmpOp} {r:R2} (ho:Ep X (compareOp op) r) (ha:PE X a ta) (hb:PE X b tb) (hm:behindInMarks op b=false):PE X (.Compare a [op] [b] pos) (Ug r ta tb):=by
 intro pins s σ H Q I h
 exact wpAny_Compare1 (Sh ha hb I h fun v u s2 x y H2 I2 rx ry q=>ho pins s2 σ H2 x y v u Q I2 rx ry q) hm
def Uf (t:TE):TT:=fun σ H Q=>t σ H fun x H'=>∃k,x= .bl k∧Q k H'
theorem Ak {op:CmpOp} {r:R2} (ho:Ep X (compareOp op) r) (ha:PE X a ta) (hb:PE X b tb) (hm:behindInMarks op b=false):PT X (.Compare a [op] [b] pos) (Uf (Ug r ta tb)):=by
 intro pins s σ H Q I h
 refine wpAny_isTrue_Compare1 (AS (ha pins s σ H _ I h) fun v s1 ⟨x,H1,I1,r1,q1⟩=>AS (hb pins s1 σ H1 _ I1 q1) fun u s2 ⟨y,H2,I2,r2,q2⟩=>
  AS (ho pins s2 σ H2 x y v u _ I2 r1 r2 q2) fun c s3 ⟨z,H3,I3,r3,k,e,q3⟩=>?_) hm
 subst e
 cases r3
 exact wpAny_truthy_bool ⟨H3,I3,q3⟩
def Sk (r r':R2) (ta tb tc:TE):TE:=fun σ H Q=>ta σ H fun x H1=>tb σ H1 fun y H2=>r x y H2 fun z H3=>∃k,z= .bl k∧
 (if k=true then tc σ H3 fun w' H4=>r' y w' H4 Q else Q (.bl false) H3)
theorem O1 {op op':CmpOp} {r r':R2} (ho:Ep X (compareOp op) r) (ho':Ep X (compareOp op') r') (ha:PE X a ta) (hb:PE X b tb) (hc:PE X c tc)
  (hm:lastMarks [op,op'] [b,c]=false:=by with_unfolding_all rfl):PE X (.Compare a [op,op'] [b,c] pos) (Sk r r' ta tb tc):=by
 intro pins s σ H Q I h
 refine Compare_chain (AS (ha pins s σ H _ I h) fun v s1 ⟨x,H1,I1,r1,q1⟩=>chain_link (AS (hb pins s1 σ H1 _ I1 q1) fun u s2 ⟨y,H2,I2,r2,q2⟩=>
  AS (ho pins s2 σ H2 x y v u _ I2 r1 r2 q2) fun d s3 ⟨z,H3,I3,r3,k,e,q3⟩=>?_)) hm
 subst e
 cases r3
 refine wpAny_truthy_bool ?_
 cases k with
 | false=>exact ite_ff ⟨.bl false,H3,I3,rfl,q3⟩
 | true=>exact ite_tt (chain_last (AS (hc pins s3 σ H3 _ I3 q3) fun w' s4 ⟨z',H4,I4,r4,q4⟩=>ho' pins s4 σ H4 y z' u w' Q I4 r2 r4 q4))
def Tv (K:PySem.W.Frag) (x:V) (H:Hp) (k:Bool):Prop:=
 match x with
 | .non=>k=false
 | .bl b=>k=b
 | .int i=>k=(i != 0)
 | .str y=>y.length≤sizeLine∧k=((y.length:Int) != 0)
 | .byt y=>y.size≤sizeLine∧k=((y.size:Int) != 0)
 | .ref p=>(∃xs,SqL K H p xs∧k = !xs.isEmpty)∨(∃xs,SqT K H p xs∧k = !xs.isEmpty)∨∃kvs,H p=some (.dK kvs)∧k = !kvs.isEmpty
 | _=>False
theorem LH {κ:Type} {kvs:List (κ×V)} {vs:List (κ×Value)} (r:KV kvs vs):(!vs.isEmpty) = !kvs.isEmpty:=by
 cases r<;>rfl
theorem Hl {xs:List V} {its:List Value} (r:Vals xs its):(!its.toArray.isEmpty) = !xs.isEmpty:=by
 cases r<;>simp
theorem Hu:(sizeLine:Nat)<2^63:=by rw[sizeLine_eq];decide
theorem So:UW X (fun x H Q=>∃k,Tv X.K x H k∧Q k H):=by
 intro pins s σ H x v Q I rx h
 obtain⟨k,e,q⟩:=h
 have hl:=Hu
 have hs:sizeLine=16777216:=sizeLine_eq
 cases x with
 | non=>
  cases rx
  have e':k=false:=e
  subst e'
  exact truthy_none ⟨H,I,q⟩
 | bl b=>
  cases rx
  have e':k=b:=e
  subst e'
  exact wpAny_truthy_bool ⟨H,I,q⟩
 | int i=>
  obtain⟨t,rfl⟩:=rx
  have e':k=(i != 0):=e
  subst e'
  exact PySem.P.truthy_int ⟨H,I,q⟩
 | str y=>
  obtain⟨t,rfl⟩:=rx
  obtain⟨hy,e'⟩:y.length≤sizeLine∧k=((y.length:Int) != 0):=e
  subst e'
  exact PySem.P.truthy_str (by omega) ⟨H,I.tok _,q⟩
 | byt y=>
  obtain⟨t,rfl⟩:=rx
  obtain⟨hy,e'⟩:y.size≤sizeLine∧k=((y.size:Int) != 0):=e
  subst e'
  exact PySem.W.truthy_bytes (by omega) ⟨H,I.tok _,q⟩
 | ref p=>
  cases rx
  have e':(∃xs,SqL X.K H p xs∧k = !xs.isEmpty)∨(∃xs,SqT X.K H p xs∧k = !xs.isEmpty)∨∃kvs,H p=some (.dK kvs)∧k = !kvs.isEmpty:=e
  rcases e' with⟨xs,hx,e'⟩|⟨xs,hx,e'⟩|⟨kvs,hx,e'⟩
  ·subst e'
   obtain⟨its,r,pl,hz⟩:=I.list hx
   have hlen:=r.length
   exact wpAny_truthy_list pl.isList (by simp only[List.size_toArray];omega) ⟨H,I.tok _,by rw[Hl r];exact q⟩
  ·subst e'
   obtain⟨its,r,pl,hz⟩:=I.tuple hx
   have hlen:=r.length
   exact truthy_tuple pl (by simp only[List.size_toArray];omega) ⟨H,I.tok _,by rw[Hl r];exact q⟩
  ·subst e'
   obtain⟨hz,hS,vs,r,m⟩:kvs.length≤sizeLine∧(p == sysModules)=false∧∃vs,KV kvs vs∧s.heap.DictOf (JI X.prog X.w) p vs:=I.hok p _ hx
   have hlen:kvs.length=vs.length:=Paired.length r
   exact wpAny_truthy_dict hS m (by omega) ⟨H,I.tok _,by rw[LH r];exact q⟩
 | _=>exact (show False from e).elim
theorem DM (ha:PE X a ta) (he:∀whole,isTrue a X.env whole=(do let v ←whole;standAt a.pos;holding [v] (truthy v))) :
  PT X a (fun σ H Q=>ta σ H fun x H'=>∃k,Tv X.K x H' k∧Q k H'):=by
 intro pins s σ H Q I h
 exact isTrue_plain (AS (ha pins s σ H _ I h) fun v s1 ⟨x,H1,I1,r1,q1⟩=>So pins s1 σ H1 x v Q I1 r1 q1) (he _)
theorem Dk {x:V} {us:List Value} (r:Vals [x] us):∃u,us=[u]∧RelV x u:=by
 cases r with
 | cons r1 r2=>cases r2;exact⟨_,rfl,r1⟩
theorem Qm {x y:V} {us:List Value} (r:Vals [x,y] us):∃u w',us=[u,w']∧RelV x u∧RelV y w':=by
 cases r with
 | cons r1 r2=>
  cases r2 with
  | cons r3 r4=>cases r4;exact⟨_,_,rfl,r1,r3⟩
theorem PD:BP X (.builtin "abs") (fun xs H Q=>∃i,xs=[.int i]∧Q (.int (if i<0 then -i else i)) H):=by
 intro pins s σ H xs us Q I r h
 obtain⟨i,rfl,q⟩:=h
 obtain⟨u,rfl,t,rfl⟩:=Dk r
 exact call_abs_int fun u tk=>⟨.int (if i<0 then -i else i),H,I.tok _,⟨_,rfl⟩,q⟩
theorem NG (hc:X.calm=true):BP X (.builtin "min") (fun xs H Q=>∃i j,xs=[.int i,.int j]∧Q (.int (if j<i then j else i)) H):=by
 intro pins s σ H xs us Q I r h
 obtain⟨i,j,rfl,q⟩:=h
 obtain⟨u,w',rfl,⟨t,rfl⟩,⟨t',rfl⟩⟩:=Qm r
 refine min_two_ints (I.ok.hd hc) fun h' tk k=>⟨_,H,I.kept k,?_,q⟩
 by_cases hj:j<i
 ·rw[if_pos hj,if_pos hj];exact⟨_,rfl⟩
 ·rw[if_neg hj,if_neg hj];exact⟨_,rfl⟩
end
end L2
namespace L2
open PySem PySem.Spec PyProof.Rows
structure ObjM (h:Heap) (x dx C:Addr) (mA:Str→Option Value):Prop where
 obj:h.get? x=some (PySem.W.instObj C dx)
 ns:h.Ns1 dx mA
 ne:dx≠x
theorem Nz {h:Heap} {dx:Addr} {mA:Str→Option Value} (n:h.Ns1 dx mA):∃od,h.get? dx=some od∧∀name,PySem.W.lookIn name od=some (mA name):=by
 obtain⟨o,es,ep,ho,hd,hk,_,hm⟩:=n
 refine⟨o,ho,fun name=>?_⟩
 have e:=hm name
 unfold nsFind findBy at e
 rw[←Array.find?_toList] at e
 unfold PySem.W.lookIn
 rw[hd]
 dsimp only
 split
 ·rename_i y q
  rw[q] at e
  exact congrArg some e
 ·rename_i q
  rw[q] at e
  have a:es.toList.any (·.refKey)=false:=by
   rw[List.any_eq_false]
   intro y hy
   obtain⟨z,t,hkey⟩:=hk y (Array.mem_toList_iff.mp hy)
   simp[DictEntry.refKey,hkey]
  have a':¬es.toList.any (·.refKey)=true:=by rw[a];exact Bool.false_ne_true
  rw[if_neg a']
  exact congrArg some e
theorem ObjM.look {h:Heap} {x dx C:Addr} {mA:Str→Option Value} (I:ObjM h x dx C mA):∃od,PySem.W.InstAt h x (PySem.W.instObj C dx) C (some od)∧∀name,PySem.W.lookIn name od=some (mA name):=
 let ⟨od,ho,hl⟩:=Nz I.ns
 ⟨od,⟨I.obj,rfl,rfl,ho⟩,hl⟩
section
variable {prog:Program} {w:World} {A:Around} {E:Value→Shared→Prop} {s:Shared} {K:PySem.W.Frag} {x dx C f:Addr} {mA:Str→Option Value} {name:Str} {v:Value}
theorem Rr {expr:Bool} {Q:Value→Shared→Prop} (X:K.In s.heap) (I:ObjM s.heap x dx C mA) (hg:PySem.W.plainGet K C name=true) (hh:PySem.W.hasDictIn K C=true)
  (ha:PySem.W.findIn K (.ref C) name=some none) (hv:mA name=some v) (hv':PySem.W.handedIn v=true) (h:Q v { s with toks:=s.toks+1 }) :
  wpAny (model prog w) A (getAttr (.ref x) name expr) Q E s:=by
 obtain⟨od,J,hl⟩:=I.look
 exact PySem.W.get_value X J (PySem.W.plainGet_of hg).1 (PySem.W.findObj_own hh ha rfl (by rw[hl,hv])) hv' h
theorem P5 {pl:Sem Bool} {Q:Value×List Value→Shared→Prop} (X:K.In s.heap) (I:ObjM s.heap x dx C mA) (hg:PySem.W.plainGet K C name=true)
  (hf:PySem.W.findIn K (.ref C) name=some (some (.ref f))) (ht:PySem.W.isFn K (.ref f)=true) (hv:mA name=none) (h:Q (.ref f,[.ref x]) s) :
  wpAny (model prog w) A (getMethod (.ref x) name pl) Q E s:=by
 obtain⟨od,J,hl⟩:=I.look
 exact PySem.W.method_fn X J (PySem.W.plainGet_of hg).1 (PySem.W.plainGet_of hg).2 hf (beq_iff_eq.mp ht) (by show (PySem.W.lookIn name od).map (·.isSome)=some false;rw[hl,hv];rfl) h
theorem Rb {ns:List Str} {Q:Unit→Shared→Prop} (X:K.In s.heap) (I:ObjM s.heap x dx C mA)
  (hs:PySem.W.findIn K (.ref C) "__setattr__"=some (some (.builtin "object.__setattr__"))) (hp:PySem.W.plainOver K C=true) (ht:PySem.W.takerIn K C name=some none) (hh:PySem.W.hasDictIn K C=true)
  (hw:PySem.Within mA ns) (hsz:ns.length≤sizeLine)
  (h:∀h',ObjM h' x dx C (fun y=>if y=name then some v else mA y)→Heap.SameBut dx s.heap h'→Q () { s with heap:=h',toks:=s.toks+2 }) :
  wpAny (model prog w) A (setAttr (.ref x) name v) Q E s:=by
 obtain⟨od,J,hl⟩:=I.look
 refine PySem.W.set_plain X J hs (PySem.W.osa_open (s:={ s with toks:=s.toks+1 }) (r:=none) X J hp ht fun b=>?_)
 obtain⟨cd,hc,hd'⟩:=PySem.W.any_some hh
 have hx:s.heap.get? x=some ⟨.ref C,some dx,.plain,#[]⟩:=I.obj
 refine wpAny_bind (wpAny_pure (wpAny_bind (wpAny_bind (wpAny_loadPart hx (wpAny_bind (PySem.W.Looks.here (s:={ s with toks:=s.toks+1 }) (PySem.W.looks_clsIn X hc) ?_))))))
 rw[hd']
 refine wpAny_pure (a:=some dx) (wpAny_bind (wpAny_pure (wpAny_bind ?_)))
 refine wpAny_nsSet1 (s:={ s with toks:=s.toks+1 }) I.ns fun h' hn2 hs2=>?_
 obtain⟨oD,esD,epD,hoD,hdD,hcD⟩:=hn2.count (PySem.Within.cons name v hw)
 refine wpAny_bind (wpAny_lookBehind hoD (by rw[hdD];exact pastItsLine_dict (Nat.le_trans hcD (by rw[List.length_cons];omega))) ?_)
 exact wpAny_pure (h _ ⟨(hs2.2 _ (Ne.symm I.ne)).trans I.obj,hn2,I.ne⟩ hs2)
theorem Qi {R:Result→Shared→Prop} {vs:List Value} {kw:List (Str×Value)} (X:K.In s.heap) (hm:PySem.W.makesIn K C=true)
  (hi:PySem.W.findIn K (.ref C) "__init__"=some (some (.ref f))) (hf:PySem.W.typeIn K (.ref f)=some (.type "function"))
  (h:codeAny (model prog w) (A.under (.builtin "type.__call__" ⟨.ref C::vs,kw⟩)) (.call (.ref f) ⟨.ref (s.heap.objs.size+1)::vs,kw⟩) (PySem.W.InitBack (s.heap.objs.size+1) R)
   { s with heap:=(s.heap.push PySem.W.emptyDict).push (PySem.W.instObj C s.heap.objs.size) }) :
  codeAny (model prog w) A (.call (.ref C) ⟨vs,kw⟩) R s:=by
 obtain⟨hh,g,d,t,os⟩:=s
 exact PySem.W.make_core (PySem.W.makes_of X hm) (PySem.W.looks_findIn X hi) (fun self=>PySem.W.bind_fn X self hf) (.inl rfl) h
end
def BG (f:Str) (v:V):List (Str×V)→List (Str×V)
 | []=>[(f,v)]
 | (g,x)::r=>if g=f then (g,v)::r else (g,x)::BG f v r
theorem Gb (f g:Str) (v:V):∀fs:List (Str×V),(BG f v fs).lookup g=if g=f then some v else fs.lookup g
 | []=>by
  show List.lookup g [(f,v)]=_
  by_cases h:g=f
  ·have hb:(g == f)=true:=beq_iff_eq.mpr h
   simp only[List.lookup,hb,if_pos h]
  ·have hb:(g == f)=false:=beq_eq_false_iff_ne.mpr h
   simp only[List.lookup,hb,if_neg h]
 | (k,x)::r=>by
  have ih:=Gb f g v r
  rw[show BG f v ((k,x)::r)=(if k=f then (k,v)::r else (k,x)::BG f v r) from rfl]
  by_cases hk:k=f
  ·rw[if_pos hk]
   by_cases h:g=k
   ·have hb:(g == k)=true:=beq_iff_eq.mpr h
    simp only[List.lookup,hb,if_pos (h.trans hk)]
   ·have hb:(g == k)=false:=beq_eq_false_iff_ne.mpr h
    simp only[List.lookup,hb,if_neg (fun e:g=f=>h (e.trans hk.symm))]
  ·rw[if_neg hk]
   by_cases h:g=k
   ·have hb:(g == k)=true:=beq_iff_eq.mpr h
    simp only[List.lookup,hb,if_neg (fun e:g=f=>hk (h.symm.trans e))]
   ·have hb:(g == k)=false:=beq_eq_false_iff_ne.mpr h
    simp only[List.lookup,hb]
    exact ih
theorem FB (f:Str) (v:V):∀fs:List (Str×V),f∈(BG f v fs).map (·.1)∧∀g,g∈fs.map (·.1)→g∈(BG f v fs).map (·.1)
 | []=>⟨by simp[BG],fun g h=>by simp at h⟩
 | (k,x)::r=>by
  obtain⟨i1,i2⟩:=FB f v r
  rw[show BG f v ((k,x)::r)=(if k=f then (k,v)::r else (k,x)::BG f v r) from rfl]
  by_cases hk:k=f
  ·rw[if_pos hk]
   subst hk
   exact⟨by simp,fun g h=>by simpa using h⟩
  ·rw[if_neg hk]
   refine⟨?_,fun g h=>?_⟩
   ·rw[List.map_cons]
    exact List.mem_cons_of_mem _ i1
   ·rw[List.map_cons] at h ⊢
    rcases List.mem_cons.mp h with e | e
    ·exact List.mem_cons.mpr (.inl e)
    ·exact List.mem_cons_of_mem _ (i2 g e)
theorem F0 (f:Str) (v:V):∀fs:List (Str×V),(BG f v fs).length≤fs.length+1
 | []=>by simp[BG]
 | (k,x)::r=>by
  have ih:=F0 f v r
  rw[show BG f v ((k,x)::r)=(if k=f then (k,v)::r else (k,x)::BG f v r) from rfl]
  by_cases hk:k=f
  ·rw[if_pos hk,List.length_cons,List.length_cons];omega
  ·rw[if_neg hk,List.length_cons,List.length_cons];omega
theorem RelO.some_of {v:V} {o:Option Value} (r:RelO (some v) o):∃u,o=some u∧RelV v u:=by
 cases o with
 | none=>exact (show False from r).elim
 | some u=>exact⟨u,rfl,r⟩
theorem RelO.none_of {o:Option Value} (r:RelO none o):o=none:=by
 cases o with
 | none=>rfl
 | some u=>exact (show False from r).elim
theorem Nc {v:V} {u:Value} (r:RelV v u):PySem.W.handedIn u=true:=by
 cases v with
 | non=>cases (show u=Value.none from r);rfl
 | bl b=>cases (show u=Value.bool b from r);rfl
 | int i=>obtain⟨t,e⟩:=(show ∃t,u=Value.int i t from r);cases e;rfl
 | str x=>obtain⟨t,e⟩:=(show ∃t,u=Value.str x t from r);cases e;rfl
 | byt b=>obtain⟨t,e⟩:=(show ∃t,u=Value.bytes b t from r);cases e;rfl
 | flt b=>obtain⟨t,e⟩:=(show ∃t,u=Value.float b t from r);cases e;rfl
 | ref a=>cases (show u=Value.ref a from r);rfl
 | ty n=>cases (show u=Value.type n from r);rfl
section
variable {P:Program} {w:World} {H H':Hp} {h h':Heap} {a C dx:Addr} {fs fs':List (Str×V)}
theorem G0 (hok:HOk P w H h) (e:H a=some (.ins C dx fs)):∃mA,ObjM h a dx C mA∧(∀f,RelO (fs.lookup f) (mA f))∧PySem.Within mA (fs.map (·.1))∧fs.length≤1000∧H dx=some (.own a):=by
 obtain⟨d,z,ne,ob,mA,n,r,q⟩:=(show ObjOk P w H h a (.ins C dx fs) from hok a _ e)
 exact⟨mA,⟨ob,n,ne⟩,r,q,z,d⟩
end
structure Cls (K:PySem.W.Frag) (C:Addr):Prop where
 pg:PySem.W.plainGet K C Str.empty=true
 hd:PySem.W.hasDictIn K C=true
 po:PySem.W.plainOver K C=true
 sa:PySem.W.findIn K (.ref C) "__setattr__"=some (some (.builtin "object.__setattr__"))
theorem Cls.get {K:PySem.W.Frag} {C:Addr} (c:Cls K C) (f:Str):PySem.W.plainGet K C f=true:=c.pg
def NoAttr (K:PySem.W.Frag) (C:Addr) (f:Str):Prop:=PySem.W.findIn K (.ref C) f=some none
theorem NoAttr.taker {K:PySem.W.Frag} {C:Addr} {f:Str} (n:NoAttr K C f):PySem.W.takerIn K C f=some none:=by
 unfold PySem.W.takerIn
 rw[show PySem.W.findIn K (.ref C) f=some none from n]
 rfl
structure QI (K:PySem.W.Frag) (C:Addr) (m:Str) (f:Addr):Prop where
 at_:PySem.W.findIn K (.ref C) m=some (some (.ref f))
 fn:PySem.W.isFn K (.ref f)=true
 kp:PySem.W.keepIn K (.ref f)=true
section
variable {X:Cx} {pins:List (Addr×Obj)} {σ:St} {H:Hp} {s:Shared} {a C dx:Addr} {fs:List (Str×V)} {f:Str} {v:V} {A:Around} {E:Value→Shared→Prop}
theorem Lo {b:Bool} {Q:Value→Shared→Prop} (I:Inv X pins σ H s) (e:H a=some (.ins C dx fs)) (c:Cls X.K C) (n:NoAttr X.K C f) (l:fs.lookup f=some v)
  (h:∀u s',Inv X pins σ H s'→RelV v u→Q u s'):wpAny (model X.prog X.w) A (getAttr (.ref a) f b) Q E s:=by
 obtain⟨mA,O,r,_,_,_⟩:=G0 I.hok e
 obtain⟨u,hu,ru⟩:=RelO.some_of (v:=v) (o:=mA f) (by rw[←l];exact r f)
 exact Rr I.kIn O (c.get f) c.hd n hu (Nc ru) (h u _ (I.tok _) ru)
theorem Hg {m:Str} {g:Addr} {pl:Sem Bool} {Q:Value×List Value→Shared→Prop} (I:Inv X pins σ H s) (e:H a=some (.ins C dx fs)) (c:Cls X.K C) (k:QI X.K C m g) (l:fs.lookup m=none)
  (h:Q (.ref g,[.ref a]) s):wpAny (model X.prog X.w) A (getMethod (.ref a) m pl) Q E s:=by
 obtain⟨mA,O,r,_,_,_⟩:=G0 I.hok e
 have hn:mA m=none:=RelO.none_of (by rw[←l];exact r m)
 exact P5 I.kIn O (c.get m) k.at_ k.fn hn h
theorem LL {y:V} {u:Value} {Q:Unit→Shared→Prop} (I:Inv X pins σ H s) (e:H a=some (.ins C dx fs)) (c:Cls X.K C) (n:NoAttr X.K C f) (hl:fs.length<1000) (ry:RelV y u)
  (h:∀s',Inv X pins σ (upd H a (.ins C dx (BG f y fs))) s'→Q () s'):wpAny (model X.prog X.w) A (setAttr (.ref a) f u) Q E s:=by
 obtain⟨mA,O,r,wi,_,ho⟩:=G0 I.hok e
 have hz:(fs.map (·.1)).length≤sizeLine:=by rw[List.length_map,sizeLine_eq];omega
 refine Rb I.kIn O c.sa c.po n.taker c.hd wi hz fun h' O' sb=>h _ ?_
 have hd:∃o,h'.get? dx=some o:=let ⟨o,_,_,e',_⟩:=O'.ns;⟨o,e'⟩
 refine I.write (x:=a) (e:=dx) (by rw[e];exact True.intro) (.inr ho) (fun b q hb z=>(sb.2 b hb).trans z) hd ?_
 refine⟨by rw[Ax O.ne];exact ho,?_,O.ne,O'.obj,_,O'.ns,fun g=>?_,fun g hg=>?_⟩
 ·have:=F0 f y fs;omega
 ·show RelO ((BG f y fs).lookup g) (if g=f then some u else mA g)
  rw[Gb]
  by_cases q:g=f
  ·rw[if_pos q,if_pos q];exact ry
  ·rw[if_neg q,if_neg q];exact r g
 ·by_cases q:g=f
  ·rw[q];exact (FB f y fs).1
  ·refine (FB f y fs).2 g (wi g fun z=>hg ?_)
   show (if g=f then some u else mA g)=none
   rw[if_neg q];exact z
theorem Inv.made (I:Inv X pins σ H s):Inv X pins σ (upd (upd H s.heap.objs.size (.own (s.heap.objs.size+1))) (s.heap.objs.size+1) (.ins C s.heap.objs.size []))
  { s with heap:=(s.heap.push PySem.W.emptyDict).push (PySem.W.instObj C s.heap.objs.size) }:=by
 have e1:(s.heap.push PySem.W.emptyDict).get? s.heap.objs.size=some PySem.W.emptyDict:=Heap.get?_push_size s.heap rfl
 have e2:((s.heap.push PySem.W.emptyDict).push (PySem.W.instObj C s.heap.objs.size)).get? (s.heap.objs.size+1)=some (PySem.W.instObj C s.heap.objs.size):=by
  have:=Heap.get?_push_size (s.heap.push PySem.W.emptyDict) (o:=PySem.W.instObj C s.heap.objs.size) rfl
  rwa [Heap.size_push] at this
 have e3:(s.heap.push PySem.W.emptyDict).Ns s.heap.objs.size (fun _=>none):=⟨PySem.W.emptyDict,#[],_,e1,rfl,(fun e he=>absurd he (by simp)),fun _=>rfl⟩
 have I1:=I.laid (a:=s.heap.objs.size) (o:=.own (s.heap.objs.size+1)) (h':=s.heap.push PySem.W.emptyDict) (t':=s.toks) (fun b u q=>Heap.get?_push_of_some _ q) (Nat.le_refl _) ⟨_,e1⟩
 refine I1.laid (a:=s.heap.objs.size+1) (o:=.ins C s.heap.objs.size []) (t':=s.toks) (fun b u q=>Heap.get?_push_of_some _ q) (Nat.le_of_eq (Heap.size_push _ _)) ?_
 have ne:s.heap.objs.size≠s.heap.objs.size+1:=Nat.ne_of_lt (Nat.lt_succ_self _)
 refine⟨by rw[Ax ne,upd_same],Nat.zero_le _,ne,e2,fun _=>none,(Heap.Ns1.of_empty e3).at fun o q=>Heap.get?_push_of_some _ q,fun _=>True.intro,fun y hy=>absurd rfl hy⟩
theorem Rh {prog:Program} {w:World} {env:Env} {e:Expr} {f:Str} {pos:Pos} {s:Shared} {Q:Value→Shared→Prop} (hb:attributeBase e f env (eval e env)=eval e env)
  (h:wpAny (model prog w) A (eval e env) (fun o s₁=>wpAny (model prog w) A (getAttr o f true) Q E s₁) E s):wpAny (model prog w) A (eval (.Attribute e f pos) env) Q E s:=
 Attribute_any_ h (by rw[arm_eval_Attribute,hb])
end
def U1 (K:PySem.W.Frag) (ta:TE) (f:Str):TE:=fun σ H Q=>ta σ H fun x H1=>∃a C dx fs v,x= .ref a∧H1 a=some (.ins C dx fs)∧Cls K C∧NoAttr K C f∧fs.lookup f=some v∧Q v H1
def Ut (K:PySem.W.Frag) (ta tv:TE) (f:Str):TS:=fun D σ H=>tv σ H fun y H1=>ta σ H1 fun x H2=>∃a C dx fs,x= .ref a∧H2 a=some (.ins C dx fs)∧Cls K C∧NoAttr K C f∧fs.length<1000∧
 D.nx σ (upd H2 a (.ins C dx (BG f y fs)))
section
variable {X:Cx} {o e value:Expr} {f:Str} {pos pos' tpos:Pos} {ta tv:TE}
theorem AV (he:PE X e ta) (hb:attributeBase e f X.env (eval e X.env)=eval e X.env):PE X (.Attribute e f pos) (U1 X.K ta f):=by
 intro pins s σ H Q I h
 refine Rh hb (AS (he pins s σ H _ I h) fun u s1 ⟨x,H1,I1,rx,a,C,dx,fs,v,ex,ea,c,n,l,q⟩=>?_)
 subst ex
 obtain rfl:u=Value.ref a:=rx
 exact Lo I1 ea c n l fun u' s2 I2 ru=>⟨v,H1,I2,ru,q⟩
theorem BZ (ha:PE X o ta) (hv:PE X value tv) (hs:swapsWith value (some (.Attribute o f pos')) pos.line X.env=pure false):PS X (.Assign [.Attribute o f pos'] value pos) (Ut X.K ta tv f):=by
 intro pins s σ H D I h
 refine plainObj_wpAny_Assign_Attribute (AS (hv pins s σ H _ I h) fun u s1 ⟨y,H1,I1,ry,q⟩=>AS (ha pins s1 σ H1 _ I1 q) fun ov s2 ⟨x,H2,I2,rx,a,C,dx,fs,ex,ea,c,n,l,q2⟩=>?_) hs
 subst ex
 obtain rfl:ov=Value.ref a:=rx
 exact LL I2 ea c n l ry fun s3 I3=>⟨σ,_,I3,q2⟩
end
section
variable {X:Cx} {pins:List (Addr×Obj)} {σ:St} {H:Hp} {s:Shared} {A:Around} {E:Value→Shared→Prop} {Q:Value→Shared→Prop} {c:Value} {b:Bool}
inductive Fi (K:PySem.W.Frag) (H:Hp):V→Value→Prop where
 | non:Fi K H .non (.type "NoneType")
 | bl (x:Bool):Fi K H (.bl x) (.type "bool")
 | int (i:Int):Fi K H (.int i) (.type "int")
 | str (x:Str):Fi K H (.str x) (.type "str")
 | flt (x:UInt64):Fi K H (.flt x) (.type "float")
 | lst {a:Addr} {xs:List V} (e:H a=some (.lst xs)):Fi K H (.ref a) (.type "list")
 | frz {a:Addr} {o:Obj} {xs:List V} (e:H a=some (.frz o (.lst xs))):Fi K H (.ref a) (.type "list")
 | tup {a:Addr} {xs:List V} (e:H a=some (.tup xs)):Fi K H (.ref a) (.type "tuple")
 | dK {a:Addr} {kvs:List (JY×V)} (e:H a=some (.dK kvs)):Fi K H (.ref a) (.type "dict")
 | dT {a:Addr} {kvs:List (List JY×V)} (e:H a=some (.dT kvs)):Fi K H (.ref a) (.type "dict")
 | ins {a C dx:Addr} {fs:List (Str×V)} (e:H a=some (.ins C dx fs)) (cl:Cls K C) (ha:PySem.W.findIn K (.ref C) "__class__"=some (some (.builtin "object.__class__")))
   (hn:PySem.W.specialIn K (.builtin "object.__class__") "__get__"=some (some (.builtin "getset_descriptor.__get__"))) (htk:PySem.W.takesIn K (.builtin "object.__class__")=some true)
   (hm:PySem.W.mroIn K C (.type "object")=some true):Fi K H (.ref a) (.ref C)
theorem Il {x:V} {u t:Value} (I:Inv X pins σ H s) (rx:RelV x u) (ty:Fi X.K H x t) (e:PySem.W.kitOne X.K t c=some b) (h:∀tk,Q (.bool b) { s with toks:=tk }) :
  wpAny (model X.prog X.w) A (call (.builtin "isinstance") [u,c]) Q E s:=by
 cases ty with
 | non=>cases (show u=Value.none from rx);exact PySem.W.kia_one PySem.W.kitx_none I.kIn True.intro e (fun z=>nomatch z) h
 | bl y=>cases (show u=Value.bool y from rx);exact PySem.W.kia_one PySem.W.kitx_bool I.kIn True.intro e (fun z=>nomatch z) h
 | int i=>obtain⟨t,q⟩:=(show ∃t,u=Value.int i t from rx);cases q;exact PySem.W.kia_one PySem.W.kitx_int I.kIn True.intro e (fun z=>nomatch z) h
 | str y=>obtain⟨t,q⟩:=(show ∃t,u=Value.str y t from rx);cases q;exact PySem.W.kia_one PySem.W.kitx_str I.kIn True.intro e (fun z=>nomatch z) h
 | flt y=>obtain⟨t,q⟩:=(show ∃t,u=Value.float y t from rx);cases q;exact PySem.W.kia_one PySem.W.kitx_float I.kIn True.intro e (fun z=>nomatch z) h
 | @lst a xs ea=>
  cases (show u=Value.ref a from rx)
  obtain⟨_,_,n,_,h1⟩:=(show ObjOk X.prog X.w H s.heap a (.lst xs) from I.hok a _ ea)
  exact PySem.W.kia_one PySem.W.kitx_list I.kIn ⟨_,h1,rfl⟩ e (fun z=>nomatch z) h
 | @frz a ob xs ea=>
  cases (show u=Value.ref a from rx)
  obtain⟨_,_,_,n,_,h1⟩:=(show ObjOk X.prog X.w H s.heap a (.frz ob (.lst xs)) from I.hok a _ ea)
  exact PySem.W.kia_one PySem.W.kitx_list I.kIn ⟨_,h1,rfl⟩ e (fun z=>nomatch z) h
 | @tup a xs ea=>
  cases (show u=Value.ref a from rx)
  obtain⟨_,_,_,p⟩:=(show ObjOk X.prog X.w H s.heap a (.tup xs) from I.hok a _ ea)
  obtain⟨o,h1,h2,_⟩:=p
  exact PySem.W.kia_one PySem.W.kitx_tuple I.kIn ⟨o,h1,h2⟩ e (fun z=>nomatch z) h
 | @dK a kvs ea=>
  cases (show u=Value.ref a from rx)
  obtain⟨_,_,vs,_,p⟩:=(show ObjOk X.prog X.w H s.heap a (.dK kvs) from I.hok a _ ea)
  obtain⟨o,es,ep,h1,h2,_⟩:=p
  exact PySem.W.kia_one PySem.W.kitx_dict I.kIn ⟨o,h1,h2.1⟩ e (fun z=>nomatch z) h
 | @dT a kvs ea=>
  cases (show u=Value.ref a from rx)
  obtain⟨_,_,xs,_,o,es,ep,h1,h2,_⟩:=(show ObjOk X.prog X.w H s.heap a (.dT kvs) from I.hok a _ ea)
  exact PySem.W.kia_one PySem.W.kitx_dict I.kIn ⟨o,h1,h2.1⟩ e (fun z=>nomatch z) h
 | @ins a C dx fs ea cl ha hn htk hm=>
  cases (show u=Value.ref a from rx)
  obtain⟨mA,O,_⟩:=G0 I.hok ea
  obtain⟨od,J,_⟩:=O.look
  exact PySem.W.kia_one (PySem.W.kitx_own (cl.get _) cl.hd ha hn htk hm) I.kIn J e (fun z=>nomatch z) h
end
end L2
namespace L2
open PySem PySem.Spec PyProof.Rows
structure Room (k:Nat) (A:Around):Prop where
 hd:A.handled=none
 dp:A.depth+3*k+5<recursionLimit
 un:A.units+16*k+200<cLine
theorem Room.mono {j k:Nat} {A:Around} (r:Room k A) (h:j≤k):Room j A:=⟨r.hd,by have:=r.dp;omega,by have:=r.un;omega⟩
theorem Room.deeper {k:Nat} {A:Around} (r:Room (k+1) A) (env:Env):Room k (A.deeper env):=
 ⟨r.hd,by have:=r.dp;show A.depth+1+3*k+5<_;omega,by have:=r.un;show A.units+3+16*k+200<_;omega⟩
theorem K9 {A:Around} {C:Addr} {us:List Value} {kw:List (Str×Value)}:(A.under (.builtin "type.__call__" ⟨.ref C::us,kw⟩)).depth=A.depth+1:=by
 first | rfl | simp[Around.under,Code.weight,Code.isCreation,Code.isGuard,Code.isCaller,Code.frames,Code.isFrame,guardIds]
theorem KZ {A:Around} {C:Addr} {us:List Value} {kw:List (Str×Value)}:(A.under (.builtin "type.__call__" ⟨.ref C::us,kw⟩)).units=A.units+1:=by
 first | rfl | simp[Around.under,Code.cUnits,Code.frames,Code.isFrame]
theorem Room.make {k:Nat} {A:Around} (r:Room (k+1) A) (C:Addr) (us:List Value) (kw:List (Str×Value)):Room k (A.under (.builtin "type.__call__" ⟨.ref C::us,kw⟩)):=
 ⟨r.hd,by have:=r.dp;rw[K9];omega,by have:=r.un;rw[KZ];omega⟩
theorem Room.depth {k:Nat} {A:Around} (r:Room k A):A.depth<recursionLimit:=by have:=r.dp;omega
theorem Room.units0 {k:Nat} {A:Around} (r:Room k A):A.units<cLine:=by have:=r.un;omega
def Sm:TA:=fun _ H Q=>Q [] H
def TZ (ta:TE) (tr:TA):TA:=fun σ H Q=>ta σ H fun x H1=>tr σ H1 fun xs H2=>Q (x::xs) H2
section
variable {X:Cx} {e:Expr} {es:List Expr} {te:TE} {t:TA} {pos:Pos}
theorem Ab:PA X [] Sm:=fun _ _ _ _ H Q I h=>Calls.spliced_nil ⟨[],H,I,.nil,h⟩
theorem Aa (ha:PE X e te) (hr:PA X es t) (hs:starEach (e::es) X.env=(false,eval e X.env)::starEach es X.env:=by rfl):PA X (e::es) (TZ te t):=by
 intro pos pins s σ H Q I h
 rw[hs]
 show wpAny _ _ (spliced ((false,eval e X.env)::backTo pos (starEach es X.env))) _ _ s
 refine Calls.spliced_cons (AS (ha pins s σ H _ I h) fun u s1 ⟨x,H1,I1,r1,q1⟩=>?_)
 exact AS (hr pos pins s1 σ H1 _ I1 q1) fun us s2 ⟨xs,H2,I2,r2,q2⟩=>⟨x::xs,H2,I2,.cons r1 r2,q2⟩
def US (t:TA):TE:=fun σ H Q=>t σ H fun xs H1=>xs.length≤sizeLine∧∀p,H1 p=none→Q (.ref p) (upd H1 p (.tup xs))
def UV (t:TA):TE:=fun σ H Q=>t σ H fun xs H1=>xs.length≤sizeLine∧∀p,H1 p=none→Q (.ref p) (upd H1 p (.lst xs))
theorem Bb {x1} (h:PA X es t):PE X (.Tuple es x1 pos) (US t):=by
 intro pins s σ H Q I hq
 refine wpAny_Tuple_spliced (AS (h pos pins s σ H _ I hq) fun us s1 ⟨xs,H1,I1,r,z,q⟩=>⟨by rw[←r.length];exact z,?_⟩)
 have hf:H1 s1.heap.objs.size=none:=I1.hok.fresh (Nat.le_refl _)
 refine⟨.ref s1.heap.objs.size,upd H1 s1.heap.objs.size (.tup xs),I1.laid (t':=s1.toks) (fun b u e=>Heap.get?_push_of_some _ e) (Nat.le_refl _) ?_,rfl,q _ hf⟩
 exact⟨z,us,r,⟨_,Heap.get?_push_size _ rfl,rfl,_,rfl⟩⟩
theorem AK (h:PA X es t):PE X (.List es pos) (UV t):=by
 intro pins s σ H Q I hq
 refine wpAny_List_spliced (AS (h pos pins s σ H _ I hq) fun us s1 ⟨xs,H1,I1,r,z,q⟩=>⟨by rw[←r.length];exact z,?_⟩)
 have hf:H1 s1.heap.objs.size=none:=I1.hok.fresh (Nat.le_refl _)
 refine⟨.ref s1.heap.objs.size,upd H1 s1.heap.objs.size (.lst xs),I1.laid (t':=s1.toks) (fun b u e=>Heap.get?_push_of_some _ e) (Nat.le_refl _) ?_,rfl,q _ hf⟩
 exact⟨z,us,0,r,Heap.get?_push_size _ rfl⟩
end
abbrev Sp:=List V→Hp→VK→XK→Prop
abbrev Mr:=List Env→Hp→Shared→XK→Value→Shared→Prop
structure Env0 (P:Program) (w:World) (K:PySem.W.Frag) (mg:Str→Option Value) (base:Heap) (A:Around) (outer:List Env) (s:Shared) (H:Hp):Prop where
 frames:A.frames=some outer
 mod:Mod K mg base
 bs:∀b o,base.get? b=some o→s.heap.get? b=some o∧H b=none
 bsz:base.objs.size≤s.heap.objs.size
 funs:s.heap.FunFrames base outer
 frf:∀b∈Hm outer,H b=none
 hok:HOk P w H s.heap
 bare:AllBare s.gens
def CE (outer:List Env) (P:Program) (w:World) (H:Hp) (s:Shared) (Q:VK) (u:Value) (s':Shared):Prop:=
 ∃v H',s'.os=s.os∧AllBare s'.gens∧Un (Hm outer) [] H H' s.heap s'.heap∧HOk P w H' s'.heap∧RelV v u∧Q v H'
def CR (CX:Mr) (outer:List Env) (P:Program) (w:World) (H:Hp) (s:Shared) (Q:VK) (E:XK) (r:Result) (s':Shared):Prop:=
 match r with
 | .ok (.ret u)=>CE outer P w H s Q u s'
 | .ok _=>False
 | .error e=>CX outer H s E e s'
structure FnOk (P:Program) (w:World) (K:PySem.W.Frag) (mg:Str→Option Value) (base:Heap) (CX:Mr) (k:Nat) (f:Addr) (fd:FuncData) (ps:List Str) (sp:Sp):Prop where
 len:∀vs H Q E,sp vs H Q E→vs.length=ps.length
 run:∀(A:Around) (outer:List Env) (s:Shared) (H:Hp) (args:Args) (us:List Value) (vs:List V) (Q:VK) (E:XK),Room k A→Env0 P w K mg base A outer s H→BindsTo s fd args (ps.zip us)→Vals vs us→sp vs H Q E→
  codeAny (model P w) A (.call (.ref f) args) (CR CX outer P w H s Q E) s
theorem FnOk.mono {P:Program} {w:World} {K:PySem.W.Frag} {mg:Str→Option Value} {base:Heap} {CX:Mr} {j k:Nat} {f:Addr} {fd:FuncData} {ps:List Str} {sp:Sp} (F:FnOk P w K mg base CX j f fd ps sp) (h:j≤k) :
  FnOk P w K mg base CX k f fd ps sp:=⟨F.len,fun A outer s H args us vs Q E hr=>F.run A outer s H args us vs Q E (hr.mono h)⟩
theorem FnOk.imp {P:Program} {w:World} {K:PySem.W.Frag} {mg:Str→Option Value} {base:Heap} {CX:Mr} {k:Nat} {f:Addr} {fd:FuncData} {ps:List Str} {sp sp':Sp} (F:FnOk P w K mg base CX k f fd ps sp)
  (h:∀vs H Q E,sp' vs H Q E→sp vs H Q E):FnOk P w K mg base CX k f fd ps sp':=
 ⟨fun vs H Q E q=>F.len vs H Q E (h _ _ _ _ q),fun A outer s H args us vs Q E hr he hb hv hs=>F.run A outer s H args us vs Q E hr he hb hv (h _ _ _ _ hs)⟩
theorem Env0.make {P:Program} {w:World} {K:PySem.W.Frag} {mg:Str→Option Value} {base:Heap} {A:Around} {outer:List Env} {s:Shared} {H:Hp} (e:Env0 P w K mg base A outer s H) (C:Addr) (us:List Value) (kw:List (Str×Value)) :
  Env0 P w K mg base (A.under (.builtin "type.__call__" ⟨.ref C::us,kw⟩)) outer s H:=⟨by first | exact e.frames | (simpa [Around.under,Code.envs,Code.isFrame,pushEnvs] using e.frames),e.mod,e.bs,e.bsz,e.funs,e.frf,e.hok,e.bare⟩
section
variable {X:Cx} {pins:List (Addr×Obj)} {σ:St} {H:Hp} {s s':Shared}
theorem Inv.env0 (I:Inv X pins σ H s):Env0 X.prog X.w X.K X.mg X.base X.A X.stack s H:=
 ⟨I.ok.frames,I.ok.mod,I.bs,Nat.le_trans I.ok.bsz I.sz,I.stack,I.stkFree,I.hok,I.bare⟩
theorem Inv.after {Q:VK} {u:Value} (I:Inv X pins σ H s) (h:CE X.stack X.prog X.w H s Q u s'):EP X pins σ Q u s':=by
 obtain⟨v,H',os,bare,un,hok,r,q⟩:=h
 obtain⟨hh,g,d,t,os'⟩:=s'
 obtain rfl:os'=s.os:=os
 exact⟨v,H',I.call (h':=hh) (g':=g) (d':=d) (t':=t) (ch:=[]) un hok bare (fun b z=>absurd z (by simp)),r,q⟩
end
def Ts (sp:Sp) (dvs:List V) (E:XK) (t:TA):TE:=fun σ H Q=>t σ H fun vs H1=>sp (vs++dvs) H1 Q E
def RU (C:Addr) (m:Str) (sp:Sp) (dvs:List V) (E:XK) (ta:TE) (t:TA):TE:=fun σ H Q=>ta σ H fun x H1=>∃a dx fs,x= .ref a∧H1 a=some (.ins C dx fs)∧fs.lookup m=none∧
 t σ H1 fun vs H2=>sp (x::(vs++dvs)) H2 Q E
def Tn (C:Addr) (sp:Sp) (dvs:List V) (E:XK) (t:TA):TE:=fun σ H Q=>t σ H fun vs H1=>∀x dx,H1 x=none→H1 dx=none→dx≠x→
 sp (.ref x::(vs++dvs)) (upd (upd H1 dx (.own x)) x (.ins C dx [])) (fun v H2=>v= .non∧Q (.ref x) H2) E
def Binds (K:PySem.W.Frag) (fd:FuncData) (ps:List Str) (ds:List Value):Prop:=
 ∀(s:Shared) (us:List Value),K.In s.heap→(us++ds).length=ps.length→BindsTo s fd ⟨us,[]⟩ (ps.zip (us++ds))
theorem Binds.all {K:PySem.W.Frag} {fd:FuncData} {ps:List Str} (h:∀us:List Value,us.length=ps.length→bindArgs fd ⟨us,[]⟩=pure (ps.zip us)):Binds K fd ps []:=fun s us _ hl=>by
 rw[List.append_nil] at hl ⊢
 exact .of_eq (h us hl)
def Dv (CX:Mr) (X:Cx) (E:XK):Prop:=∀(pins:List (Addr×Obj)) (σ:St) (H:Hp) (s:Shared) (e:Value) (s':Shared),Inv X pins σ H s→CX X.stack H s E e s'→X.xe e s'
section
variable {X:Cx} {CX:Mr} {k:Nat} {f C:Addr} {fd:FuncData} {ps:List Str} {sp:Sp} {dvs:List V} {ds:List Value} {E:XK} {x m:Str} {p pos apos:Pos} {e o:Expr} {es:List Expr} {ta:TE} {t:TA}
theorem LV {pins:List (Addr×Obj)} {σ:St} {H:Hp} {s:Shared} {Q:VK} {us:List Value} {vs:List V} (F:FnOk X.prog X.w X.K X.mg X.base CX k f fd ps sp) (hr:Room k X.A) (hb:Binds X.K fd ps ds) (hd:Vals dvs ds) (hx:Dv CX X E)
  (I:Inv X pins σ H s) (r:Vals vs us) (h:sp (vs++dvs) H Q E):wpAny (model X.prog X.w) X.A (call (.ref f) us) (EP X pins σ Q) X.xe s:=by
 have r2:Vals (vs++dvs) (us++ds):=r.append hd
 have hl:(us++ds).length=ps.length:=by rw[←r2.length];exact F.len _ _ _ _ h
 refine wpAny_call (codeAny_mono (F.run X.A X.stack s H ⟨us,[]⟩ (us++ds) (vs++dvs) Q E hr I.env0 (hb s us I.kIn hl) r2 h) fun r s' hq=>?_)
 cases r with
 | error e=>exact hx pins σ H s e s' I hq
 | ok fl=>
  cases fl with
  | ret u=>exact I.after hq
  | next=>exact False.elim hq
  | brk=>exact False.elim hq
  | cont=>exact False.elim hq
theorem Ah (F:FnOk X.prog X.w X.K X.mg X.base CX k f fd ps sp) (hr:Room k X.A) (hg:Gl X x) (hm:X.mg x=some (.ref f)) (hk:PySem.W.keepIn X.K (.ref f)=true) (hb:Binds X.K fd ps ds) (hd:Vals dvs ds) (hx:Dv CX X E)
  (ha:PA X (e::es) t) (hdb:(x == ("__debug__":Str))=false:=by decide) (he:starEach (e::es) X.env=(false,eval e X.env)::starEach es X.env:=by rfl) (hpl:(backTo pos (starEach es X.env)).any (·.1)=false:=by rfl) :
  PE X (.Call (.Name x p) (e::es) [] pos) (Ts sp dvs E t):=by
 intro pins s σ H Q I h
 refine wpAny_Call_Name_kw (GQ I hg hm ?_ hdb)
 refine PySem.W.callWith_K (h₀:=X.base) I.ok.mod.kin hk (AS (ha pos pins s σ H _ I h) fun us s1 ⟨vs,H1,I1,r,q⟩=>⟨I1.kIn,?_⟩) he hpl
 exact LV F hr hb hd hx I1 r q
theorem Gr {pl:Sem Bool} (he:PE X o ta) (c:Cls X.K C) (hm:QI X.K C m f) (F:FnOk X.prog X.w X.K X.mg X.base CX k f fd ps sp) (hr:Room k X.A) (hb:Binds X.K fd ps ds) (hd:Vals dvs ds) (hx:Dv CX X E) (ha:PA X (e::es) t)
  (hst:starEach (e::es) X.env=(false,eval e X.env)::starEach es X.env:=by rfl) (hpl:(backTo pos (starEach es X.env)).any (·.1)=false:=by rfl)
  (ht:eval (.Call (.Attribute o m apos) (e::es) [] pos) X.env=(do
   let ov ←eval o X.env
   standAt apos.atName
   let (f,first) ←holding [ov] (getMethod ov m pl)
   callWith pos f first (backTo pos (starEach (e::es) X.env)) (backToKw pos (keywordEach [] X.env))):=by rfl) :
  PE X (.Call (.Attribute o m apos) (e::es) [] pos) (RU C m sp dvs E ta t):=by
 intro pins s σ H Q I h
 refine PySem.W.methodCall_KW (pl:=pl) (AS (he pins s σ H _ I h) fun u s1 ⟨x,H1,I1,rx,a,dx,fs,ex,ea,l,q⟩=>?_) ht
 subst ex
 obtain rfl:u=Value.ref a:=rx
 refine Hg I1 ea c hm l ?_
 refine PySem.W.callWith_K (first:=[.ref a]) (h₀:=X.base) I.ok.mod.kin hm.kp (AS (ha pos pins s1 σ H1 _ I1 q) fun us s2 ⟨vs,H2,I2,r,q2⟩=>⟨I2.kIn,?_⟩) hst hpl
 exact LV (us:=.ref a::us) (vs:=.ref a::vs) F hr hb hd hx I2 (.cons rfl r) q2
theorem Bj {pl:Sem Bool} (he:PE X o ta) (c:Cls X.K C) (hm:QI X.K C m f) (F:FnOk X.prog X.w X.K X.mg X.base CX k f fd ps sp) (hr:Room k X.A) (hb:Binds X.K fd ps ds) (hd:Vals dvs ds) (hx:Dv CX X E)
  (ht:eval (.Call (.Attribute o m apos) [] [] pos) X.env=(do
   let ov ←eval o X.env
   standAt apos.atName
   let (f,first) ←holding [ov] (getMethod ov m pl)
   callWith pos f first (backTo pos (starEach [] X.env)) (backToKw pos (keywordEach [] X.env))):=by rfl) :
  PE X (.Call (.Attribute o m apos) [] [] pos) (RU C m sp dvs E ta Sm):=by
 intro pins s σ H Q I h
 refine PySem.W.methodCall_KW (pl:=pl) (AS (he pins s σ H _ I h) fun u s1 ⟨x,H1,I1,rx,a,dx,fs,ex,ea,l,q⟩=>?_) ht
 subst ex
 obtain rfl:u=Value.ref a:=rx
 refine Hg I1 ea c hm l ?_
 exact PySem.W.callWith_K0 (first:=[.ref a]) I1.kIn hm.kp (LV (us:=[.ref a]) (vs:=[.ref a]) F hr hb hd hx I1 (.cons rfl .nil) q)
structure Mk (K:PySem.W.Frag) (C f:Addr):Prop where
 makes:PySem.W.makesIn K C=true
 init:PySem.W.findIn K (.ref C) "__init__"=some (some (.ref f))
 fn:PySem.W.isFn K (.ref f)=true
 kp:PySem.W.keepIn K (.ref C)=true
theorem OM {pins:List (Addr×Obj)} {σ:St} {H:Hp} {s:Shared} {Q:VK} {us:List Value} {vs:List V} (M:Mk X.K C f) (F:FnOk X.prog X.w X.K X.mg X.base CX k f fd ps sp) (hr:Room (k+1) X.A) (hb:Binds X.K fd ps ds) (hd:Vals dvs ds)
  (hx:Dv CX X E) (I:Inv X pins σ H s) (r:Vals vs us)
  (h:∀x dx,H x=none→H dx=none→dx≠x→sp (.ref x::(vs++dvs)) (upd (upd H dx (.own x)) x (.ins C dx [])) (fun v H2=>v= .non∧Q (.ref x) H2) E) :
  wpAny (model X.prog X.w) X.A (call (.ref C) us) (EP X pins σ Q) X.xe s:=by
 have hq:=h (s.heap.objs.size+1) s.heap.objs.size (I.hok.fresh (Nat.le_succ _)) (I.hok.fresh (Nat.le_refl _)) (Nat.ne_of_lt (Nat.lt_succ_self _))
 have I2:=Inv.made (C:=C) I
 have r2:Vals (V.ref (s.heap.objs.size+1)::(vs++dvs)) (Value.ref (s.heap.objs.size+1)::(us++ds)):=.cons rfl (r.append hd)
 have hl:(Value.ref (s.heap.objs.size+1)::us++ds).length=ps.length:=by
  have e:=r2.length
  rw[F.len _ _ _ _ hq] at e
  exact e.symm
 refine wpAny_call (Qi (f:=f) I.kIn M.makes M.init (beq_iff_eq.mp M.fn) (codeAny_mono (F.run _ X.stack _ _ ⟨Value.ref (s.heap.objs.size+1)::us,[]⟩ (Value.ref (s.heap.objs.size+1)::(us++ds)) _ _ E (hr.make C us [])
  (I2.env0.make C us []) (hb _ (Value.ref (s.heap.objs.size+1)::us) I2.kIn hl) r2 hq) fun r s' hq'=>?_))
 cases r with
 | error e=>exact hx pins σ _ _ e s' I2 hq'
 | ok fl=>
  cases fl with
  | ret u=>
   obtain⟨v,H',I3,rv,ev,q3⟩:=I2.after hq'
   subst ev
   exact⟨rv,⟨V.ref (s.heap.objs.size+1),H',I3,rfl,q3⟩⟩
  | next=>exact False.elim hq'
  | brk=>exact False.elim hq'
  | cont=>exact False.elim hq'
theorem Mi (M:Mk X.K C f) (F:FnOk X.prog X.w X.K X.mg X.base CX k f fd ps sp) (hr:Room (k+1) X.A) (hg:Gl X x) (hm:X.mg x=some (.ref C)) (hb:Binds X.K fd ps ds) (hd:Vals dvs ds) (hx:Dv CX X E)
  (ha:PA X (e::es) t) (hdb:(x == ("__debug__":Str))=false:=by decide) (he:starEach (e::es) X.env=(false,eval e X.env)::starEach es X.env:=by rfl) (hpl:(backTo pos (starEach es X.env)).any (·.1)=false:=by rfl) :
  PE X (.Call (.Name x p) (e::es) [] pos) (Tn C sp dvs E t):=by
 intro pins s σ H Q I h
 refine wpAny_Call_Name_kw (GQ I hg hm ?_ hdb)
 refine PySem.W.callWith_K (h₀:=X.base) I.ok.mod.kin M.kp (AS (ha pos pins s σ H _ I h) fun us s1 ⟨vs,H1,I1,r,q⟩=>⟨I1.kIn,?_⟩) he hpl
 exact OM M F hr hb hd hx I1 r q
end
section
variable {X:Cx} {CX:Mr} {k:Nat} {f C:Addr} {fd:FuncData} {ps ks:List Str} {sp:Sp} {E:XK} {x m:Str} {p pos apos kpos:Pos} {e o:Expr} {es:List Expr} {kws:List Keyword} {te ta:TE} {t tk:TA} {nm:Option Str}
variable {g:List Value→List Value→List Value} {gV:List V→List V→List V}
end
structure Aq (N P:List Str) (sc:Scope):Prop where
 kind:sc.kind= .function
 co:sc.isCoroutine=false
 gen:sc.isGenerator=false
 nd:N.Nodup
 pre:N.take P.length=P
 par:∀x∈P,sc.names.lookup x=some .local∨sc.names.lookup x=some .cell
 nofree:∀y∈sc.names,y.2≠.free
theorem II {kindOf:Str→Option NameKind} {x:Str}:∀{binds:List (Str×Value)} {m:Str→Option Value},(∀v,(x,v)∉binds)→bindL kindOf binds m x=m x
 | [],_,_=>rfl
 | (n,v)::r,m,h=>by
  unfold bindL
  rw[II fun w hw=>h w (List.mem_cons_of_mem _ hw)]
  split
  ·have:x≠n:=by rintro rfl;exact h v List.mem_cons_self
   simp[this]
  ·rfl
theorem IT {kindOf:Str→Option NameKind} {x:Str}:∀{binds:List (Str×Value)} {m:Str→Option Value},(∀v,(x,v)∉binds)→bindC kindOf binds m x=m x
 | [],_,_=>rfl
 | (n,v)::r,m,h=>by
  unfold bindC
  rw[IT fun w hw=>h w (List.mem_cons_of_mem _ hw)]
  split
  ·rfl
  ·have:x≠n:=by rintro rfl;exact h v List.mem_cons_self
   simp[this]
theorem IO {kindOf:Str→Option NameKind} {x:Str} {v:Value}:∀{P:List Str} {vs:List Value} {i:Nat} {m:Str→Option Value},P.Nodup→P[i]? = some x→vs[i]? = some v→kindOf x=some .local→
  bindL kindOf (P.zip vs) m x=some v
 | [],_,_,_,_,h,_,_=>by simp at h
 | _::_,[],_,_,_,_,h,_=>by simp at h
 | p::P,w::vs,0,m,nd,h1,h2,hk=>by
  simp at h1 h2;subst h1;subst h2
  show bindL kindOf ((p,w)::P.zip vs) m p=_
  unfold bindL
  rw[II fun v hv=>(List.nodup_cons.mp nd).1 (List.of_mem_zip hv).1,if_pos hk]
  simp
 | p::P,w::vs,i+1,m,nd,h1,h2,hk=>by
  show bindL kindOf ((p,w)::P.zip vs) m x=_
  unfold bindL
  exact IO (i:=i) (List.nodup_cons.mp nd).2 (by simpa using h1) (by simpa using h2) hk
theorem I9 {kindOf:Str→Option NameKind} {x:Str} {v:Value}:∀{P:List Str} {vs:List Value} {i:Nat} {m:Str→Option Value},P.Nodup→P[i]? = some x→vs[i]? = some v→kindOf x≠some .local→
  bindC kindOf (P.zip vs) m x=some v
 | [],_,_,_,_,h,_,_=>by simp at h
 | _::_,[],_,_,_,_,h,_=>by simp at h
 | p::P,w::vs,0,m,nd,h1,h2,hk=>by
  simp at h1 h2;subst h1;subst h2
  show bindC kindOf ((p,w)::P.zip vs) m p=_
  unfold bindC
  rw[IT fun v hv=>(List.nodup_cons.mp nd).1 (List.of_mem_zip hv).1,if_neg hk]
  simp
 | p::P,w::vs,i+1,m,nd,h1,h2,hk=>by
  show bindC kindOf ((p,w)::P.zip vs) m x=_
  unfold bindC
  exact I9 (i:=i) (List.nodup_cons.mp nd).2 (by simpa using h1) (by simpa using h2) hk
def Fb (N:List Str) (vs:List V):St:=vs.map some++List.replicate (N.length-vs.length) none
def Jq (CX:Mr) (P:Program) (w:World) (K:PySem.W.Frag) (mg:Str→Option Value) (base:Heap) (N:List Str) (qual:Str) (scope:Scope) (f:Addr) (cd:Value) (A:Around) (outer:List Env) (s:Shared) (H:Hp) (E:XK):Cx where
 prog:=P
 w:=w
 K:=K
 mg:=mg
 base:=base
 A:=A.deeper (envOfC qual scope s.heap.objs.size f cd)
 N:=N
 s₀:=s
 H₀:=H
 env:=envOfC qual scope s.heap.objs.size f cd
 outer:=outer
 stack:=envOfC qual scope s.heap.objs.size f cd::outer
 ex:=[]
 calm:=true
 fn:=fun _=>true
 pn:=[]
 xe:=fun e s'=>wpAny (model P w) (A.deeper (envOfC qual scope s.heap.objs.size f cd)) (leaving (envOfC qual scope s.heap.objs.size f cd) e) (fun _ s''=>CX outer H s E e s'') (fun e' s''=>CX outer H s E e' s'') s'
theorem J6 {sc:Scope} {n:Nat} {x:Str} (h:sc.names.lookup x=some .cell):∃c,(cellsFrom n sc.names []).lookup x=some c:=by
 have q:=PySem.W.cellsFrom_some sc.names n [] (.inl h)
 exact Option.isSome_iff_exists.mp q
theorem NR {CX:Mr} {P:Program} {w:World} {K:PySem.W.Frag} {mg:Str→Option Value} {base:Heap} {N ps:List Str} {qual:Str} {scope:Scope} {f:Addr} {cd:Value} {A:Around} {outer:List Env} {s s1:Shared} {H:Hp} {E:XK} {us:List Value} {vs:List V}
  (S:Aq N ps scope) (hd:A.handled=none) (e0:Env0 P w K mg base A outer s H) (hl:vs.length=ps.length) (r:Vals vs us)
  (x:InCallC s s.heap.objs.size (bindL (envOfC qual scope s.heap.objs.size f cd).kindOf (ps.zip us) fun _=>none) (cellsFrom (s.heap.objs.size+1) scope.names []) (bindC (envOfC qual scope s.heap.objs.size f cd).kindOf (ps.zip us) fun _=>none) s1) :
  Inv (Jq CX P w K mg base N qual scope f cd A outer s H E) [] (Fb N vs) H s1:=by
 have hpl:ps.length≤N.length:=by have:=congrArg List.length S.pre;rw[List.length_take] at this;omega
 obtain⟨h1,tk,rfl,hk⟩:=x.done
 have noA:∀b:Addr,b∉(Jq CX P w K mg base N qual scope f cd A outer s H E).ex:=fun b z=>absurd (show b∈([]:List Addr) from z) (by simp)
 refine⟨⟨e0.mod,S.kind,rfl,rfl,Nat.le_refl _,fun y z c h1 h2=>?_,fun y hy=>?_,fun y c _ h=>?_,fun _=>hd,Around.frames_deeper e0.frames,.inr ⟨rfl,rfl⟩,fun b z=>absurd z (noA b),e0.bs,e0.bsz,fun b _ _=>noA b,fun b z=>absurd z (noA b),e0.funs,e0.frf⟩,
  rfl,e0.bare,Un.kept hk,⟨_,x.toInCall.ns,fun i y v h1 h2 h3=>?_⟩,fun y c h=>⟨_,x.cell y c h⟩,e0.hok.fresh (Nat.le_refl _),fun y c h=>?_,fun p hp=>absurd (show p∈([]:List (Addr×Obj)) from hp) (by simp),e0.hok.kept hk,?_⟩
 ·exact name_of_addr x.apart (PySem.mem_of_lookup h1) (PySem.mem_of_lookup h2)
 ·have hy:scope.names.lookup y=some .cell∨scope.names.lookup y=some .free:=hy
  rcases hy with hy | hy
  ·exact J6 hy
  ·exact absurd rfl (S.nofree _ (PySem.mem_of_lookup hy))
 ·exact Nat.le_of_lt (x.above y c (PySem.mem_of_lookup h))
 ·have hi:i<vs.length:=by
   unfold Fb at h2
   by_cases hi:i<vs.length
   ·exact hi
   ·rw[List.getElem?_append_right (by simpa using hi)] at h2
    rw[List.getElem?_replicate] at h2
    split at h2<;>cases h2
  have ha:vs[i]? = some v:=by
   unfold Fb at h2
   rw[List.getElem?_append_left (by simpa using hi),List.getElem?_map] at h2
   cases e:vs[i]? with
   | none=>rw[e] at h2;cases h2
   | some a=>rw[e] at h2;cases h2;rfl
  obtain⟨u,hu,rv⟩:=r.get ha
  have hp:ps[i]? = some y:=by
   rw[←S.pre,List.getElem?_take_of_lt (by omega)];exact h1
  have ndP:ps.Nodup:=by rw[←S.pre];exact S.nd.sublist (List.take_sublist _ _)
  refine⟨u,rv,?_⟩
  rcases S.par y (List.mem_of_getElem? hp) with k | k
  ·exact .inl ⟨k,IO ndP hp hu k⟩
  ·obtain⟨c,e⟩:=J6 (n:=s.heap.objs.size+1) k
   refine .inr ⟨.inl k,c,e,?_⟩
   have q:=x.cell y c e
   rw[I9 ndP hp hu (by show scope.names.lookup y≠_;rw[k];decide)] at q
   exact q
 ·exact e0.hok.fresh (Nat.le_of_lt (x.above y c (PySem.mem_of_lookup h)))
 ·unfold Fb
  show _=N.length
  rw[List.length_append,List.length_map,List.length_replicate]
  omega
theorem R1 {CX:Mr} {P:Program} {w:World} {K:PySem.W.Frag} {mg:Str→Option Value} {base:Heap} {k:Nat} {f:Addr} {name qual:Str} {params:Arguments} {body:List Stmt} {scope:Scope} {dV kV doc pm cdv ct oc:Value} {an od:Option Addr}
  {osl:Array (Option Value)} {N ps:List Str} {sp:Sp} (lk:K.lookup f=some ⟨oc,od,.func (PySem.W.fnOf name qual params body scope dV kV doc pm an cdv ct),osl⟩) (hcd:PySem.W.codeIn K cdv qual=true) (S:Aq N ps scope)
  (len:∀vs H Q E,sp vs H Q E→vs.length=ps.length)
  (hbody:∀(A:Around) (outer:List Env) (s:Shared) (H:Hp) (vs:List V) (Q:VK) (E:XK),Room k (A.deeper (envOfC qual scope s.heap.objs.size f cdv))→sp vs H Q E→
   ∃t,PSs (Jq CX P w K mg base N qual scope f cdv A outer s H E) body t∧t { nx:=fun _ H'=>Q .non H',rt:=Q } (Fb N vs) H) :
  FnOk P w K mg base CX (k+1) f (PySem.W.fnOf name qual params body scope dV kV doc pm an cdv ct) ps sp:=by
 refine⟨len,fun A outer s H args us vs Q E hr e0 hb r hsp=>?_⟩
 have hl:=len _ _ _ _ hsp
 have KX:K.In s.heap:=e0.mod.kin.keeps fun b o e=>(e0.bs b o e).1
 have lim:s.heap.NoLimit:=e0.mod.nolimit.keeps fun b o e=>(e0.bs b o e).1
 have hkind:∀y∈ps.zip us,scope.names.lookup y.1=some .local∨(scope.names.lookup y.1=some .cell∧((cellsFrom (s.heap.objs.size+1) scope.names []).lookup y.1).isSome=true):=fun⟨n,v⟩ hy=>by
  rcases S.par n (List.of_mem_zip hy).1 with q | q
  ·exact .inl q
  ·exact .inr ⟨q,PySem.W.cellsFrom_some _ _ _ (.inl q)⟩
 refine codeAny_call_function hr.depth (KX _ _ lk) rfl S.co S.gen rfl (PySem.W.codeRec_of KX hcd) (hb _ _ _ _ ?_)
 refine wpAny_newFunctionEnv_cells S.kind hkind fun env he s1 x=>?_
 subst he
 refine⟨lim.keeps x.toInCall.keep,codeAny_func ?_⟩
 obtain⟨t,ht,hq⟩:=hbody A outer s H vs Q E (hr.deeper _) hsp
 have I:Inv (Jq CX P w K mg base N qual scope f cdv A outer s H E) [] (Fb N vs) H s1:=NR S hr.hd e0 hl r x
 refine wpAny_mono (ht [] s1 (Fb N vs) H _ I hq) (fun fl s' hs=>?_) fun e s' hs=>hs
 have fin:∀{σ':St} {H':Hp} {v:V} {u:Value},Inv (Jq CX P w K mg base N qual scope f cdv A outer s H E) [] σ' H' s'→RelV v u→Q v H'→CE outer P w H s Q u s':=
  fun {σ' H' v u} J rv q=>⟨v,H',J.os,J.bare,J.base,J.hok,rv,q⟩
 cases fl with
 | ret u=>
  obtain⟨v,σ',H',J,rv,q⟩:=hs
  exact fin J rv q
 | next=>
  obtain⟨σ',H',J,q⟩:=hs
  exact fin (v:=V.non) (u:=Value.none) J rfl q
 | brk=>
  obtain⟨_,_,_,q⟩:=hs
  exact False.elim q
 | cont=>
  obtain⟨_,_,_,q⟩:=hs
  exact False.elim q
end L2
namespace L2
open PySem PySem.Spec PyProof.Rows
section
variable {X:Cx} {x:Str} {p pos:Pos} {e:Expr} {es:List Expr} {t:TA} {id T:String} {r:List V→Hp→VK→Prop}
def UO (r:List V→Hp→VK→Prop) (t:TA):TE:=fun σ H Q=>t σ H fun vs H1=>r vs H1 Q
theorem Av (hc:BP X (.builtin id) r) (hg:Gl X x) (hm:X.mg x=none) (hv:bootBuiltins x=some (.builtin id)) (ha:PA X (e::es) t) (hn:x≠"__name__":=by decide) (hdb:(x == ("__debug__":Str))=false:=by decide)
  (he:starEach (e::es) X.env=(false,eval e X.env)::starEach es X.env:=by rfl) (hpl:(backTo pos (starEach es X.env)).any (·.1)=false:=by rfl):PE X (.Call (.Name x p) (e::es) [] pos) (UO r t):=by
 intro pins s σ H Q I h
 refine wpAny_Call_Name_kw (Cu I hg hm hv ?_ hn hdb)
 exact PyProof.Rows.callWith_builtin1 (AS (ha pos pins s σ H _ I h) fun us s1 ⟨vs,H1,I1,r1,q1⟩=>hc pins s1 σ H1 vs us Q I1 r1 q1) he hpl
theorem AQ (hc:BP X (.type T) r) (hg:Gl X x) (hm:X.mg x=none) (hv:bootBuiltins x=some (.type T)) (ha:PA X (e::es) t) (hn:x≠"__name__":=by decide) (hdb:(x == ("__debug__":Str))=false:=by decide)
  (he:starEach (e::es) X.env=(false,eval e X.env)::starEach es X.env:=by rfl) (hpl:(backTo pos (starEach es X.env)).any (·.1)=false:=by rfl):PE X (.Call (.Name x p) (e::es) [] pos) (UO r t):=by
 intro pins s σ H Q I h
 refine wpAny_Call_Name_kw (Cu I hg hm hv ?_ hn hdb)
 exact PyProof.Rows.callWith_type1 (AS (ha pos pins s σ H _ I h) fun us s1 ⟨vs,H1,I1,r1,q1⟩=>hc pins s1 σ H1 vs us Q I1 r1 q1) he hpl
theorem LC (hc:BP X (.type T) r) (hg:Gl X x) (hm:X.mg x=none) (hv:bootBuiltins x=some (.type T)) (hn:x≠"__name__":=by decide) (hdb:(x == ("__debug__":Str))=false:=by decide) :
  PE X (.Call (.Name x p) [] [] pos) (UO r Sm):=by
 intro pins s σ H Q I h
 refine wpAny_Call_Name_kw (Cu I hg hm hv ?_ hn hdb)
 exact PyProof.Rows.callWith_type0 (hc pins s σ H [] [] Q I .nil h)
end
end L2
namespace HT
open PySem PyProof.Rows
section
open PySem.SeqAt
open PySem.AutoSeq1 (wpAny_loadPart')
open PySem.MeetsSeq PySem.MeetsSeq2 PySem.MeetsSeq3
end
section
variable {prog:Program} {w:World} {A:Around} {E:Value→Shared→Prop} {s:Shared}
def sIx (n d:Nat):Option Int→Nat
 | none=>d
 | some v=>if v<0 then (v+(n:Int)).toNat else min v.toNat n
theorem sIx_none (n d:Nat):sIx n d none=d:=rfl
theorem sIx_nat (n d k:Nat):sIx n d (some (k:Int))=min k n:=by
 show (if (k:Int)<0 then ((k:Int)+(n:Int)).toNat else min (k:Int).toNat n)=min k n
 rw[if_neg (by omega),Int.toNat_natCast]
theorem SW (n d:Nat) (hd:d≤n) (o:Option Int):sIx n d o≤n:=by
 cases o with
 | none=>exact hd
 | some v=>
  show (if v<0 then (v+(n:Int)).toNat else min v.toNat n)≤n
  by_cases hv:v<0
  ·rw[if_pos hv];omega
  ·rw[if_neg hv];exact Nat.min_le_right _ _
theorem L9 (v:Int) (n d:Nat):(if v<0 then max (v+(n:Int)) 0 else min v (n:Int))=((sIx n d (some v):Nat):Int):=by
 show (if v<0 then max (v+(n:Int)) 0 else min v (n:Int))=(((if v<0 then (v+(n:Int)).toNat else min v.toNat n):Nat):Int)
 by_cases hv:v<0
 ·simp only[if_pos hv];omega
 ·simp only[if_neg hv];omega
theorem Lx (lo hi:Option Int) (n:Nat):Builtin.Slice.sliceAdjust lo hi 1 (n:Int)=(((sIx n 0 lo:Nat):Int),((sIx n n hi:Nat):Int)):=by
 have h1:¬((1:Int)<0):=by omega
 unfold Builtin.Slice.sliceAdjust
 simp only[h1,if_false]
 refine Prod.ext ?_ ?_
 ·cases lo with
  | none=>rfl
  | some v=>exact L9 v n 0
 ·cases hi with
  | none=>rfl
  | some v=>exact L9 v n n
theorem Lp (i j:Nat):Builtin.Slice.slicePlaces (i:Int) (j:Int) 1=j-i:=by
 unfold Builtin.Slice.slicePlaces
 have h1:(1:Int)>0:=by omega
 simp only[h1,if_true,Int.ediv_one]
 split<;>omega
theorem Hn {v:Value} {o:Option Int} {Q:Option Int→Shared→Prop} (p:IsPart v o) (h:Q o s):wpAny (model prog w) A (Builtin.Slice.slicePartIndex v) Q E s:=by
 cases p with
 | none=>exact slicePart_none h
 | int i t=>exact slicePart_int h
theorem FK {sl:Addr} {vl vu:Value} {lo hi:Option Int} {n:Nat} {Q:Int×Int×Nat→Shared→Prop} (hs:s.heap.IsSliceOf sl vl vu .none) (pl:IsPart vl lo) (pu:IsPart vu hi)
  (h:Q (((sIx n 0 lo:Nat):Int),1,sIx n n hi-sIx n 0 lo) s):wpAny (model prog w) A (Builtin.Slice.sliceApplied (.ref sl) (pure (n:Int))) Q E s:=by
 obtain⟨os,hos,hcs,hds⟩:=id hs
 unfold Builtin.Slice.sliceApplied Builtin.Slice.sliceFields
 refine wpAny_bind (wpAny_bind (wpAny_field hos hds (x:=vl) rfl (wpAny_bind (wpAny_field hos hds (x:=vu) rfl (wpAny_bind (wpAny_field hos hds (x:=.none) rfl (wpAny_pure ?_)))))))
 refine wpAny_bind (slicePart_none ?_)
 show wpAny _ _ (if ((1:Int) == 0)=true then _ else _) _ _ s
 rw[if_neg (by decide)]
 refine wpAny_bind (Hn pl (wpAny_bind (Hn pu (wpAny_bind (wpAny_pure ?_)))))
 show wpAny _ _ (match Builtin.Slice.sliceAdjust lo hi 1 (n:Int) with | (lo,hi)=>pure (lo,(1:Int),Builtin.Slice.slicePlaces lo hi 1)) _ _ s
 rw[Lx lo hi n]
 show wpAny _ _ (pure (((sIx n 0 lo:Nat):Int),(1:Int),Builtin.Slice.slicePlaces ((sIx n 0 lo:Nat):Int) ((sIx n n hi:Nat):Int) 1)) _ _ s
 rw[Lp]
 exact wpAny_pure h
theorem P8 (xs:Array Value) (i k:Nat):((List.range k).filterMap fun (m:Nat)=>xs[((i:Int)+(m:Int)*1).toNat]?).toArray=((xs.toList.drop i).take k).toArray:=by
 have e:(fun (m:Nat)=>xs[((i:Int)+(m:Int)*1).toNat]?)=fun m=>xs[i+m]? :=by
  funext m
  have:((i:Int)+(m:Int)*1).toNat=i+m:=by omega
  rw[this]
 rw[e]
 have:=pick_run xs i k
 rw[List.filterMap_map] at this
 have e2:((fun x=>xs[x]?) ∘ fun x=>i+x)=fun m=>xs[i+m]? :=rfl
 rw[e2] at this
 rw[this]
theorem getItem_tuple_cut {t sl:Addr} {items:Array Value} {vl vu:Value} {lo hi:Option Int} {Q:Value→Shared→Prop} (ht:IsTup s.heap t items) (hs:s.heap.IsSliceOf sl vl vu .none) (pl:IsPart vl lo) (pu:IsPart vu hi)
  (hw:¬(sIx items.size 0 lo=0∧sIx items.size items.size hi=items.size))
  (h:Q (.ref s.heap.objs.size) { s with heap:=s.heap.push { cls:=.type "tuple",data:=.seq ((items.toList.drop (sIx items.size 0 lo)).take (sIx items.size items.size hi-sIx items.size 0 lo)).toArray } })
  (hsz:items.size≤sizeLine):wpAny (model prog w) A (getItem (.ref t) (.ref sl)) Q E s:=by
 have htake:sizeOk (.seq ((items.toList.drop (sIx items.size 0 lo)).take (sIx items.size items.size hi-sIx items.size 0 lo)).toArray):=by
  show ((items.toList.drop (sIx items.size 0 lo)).take (sIx items.size items.size hi-sIx items.size 0 lo)).toArray.size≤sizeLine
  rw[List.size_toArray,List.length_take,List.length_drop,Array.length_toList]
  omega
 have hj:sIx items.size items.size hi≤items.size:=SW _ _ (Nat.le_refl _) hi
 obtain⟨os,hos,hcs,hds⟩:=id hs
 have hTs:s.TypeIs (.ref sl) "slice":=⟨os,hos,hcs⟩
 unfold getItem
 try with_reducible refine wpAny_holding ?_
 first | refine wpAny_bind (wpAny_pure ?_) | skip
 refine wpAny_bind (wpAny_sequenceKey ht.typeIs (by decide) ?_)
 refine wpAny_bind (wpAny_callSpecial?_slot (name:=Str.ofString "__getitem__") ht.typeIs PyProof.Rows.slot_tuple_getitem
  (wpAny_call_entry PyProof.Rows.slot_tuple_getitem ht.typeIs entry_tuple_getitem ?_ (args_tuple_getitem _ _)))
 show wpAny _ _ (Builtin.Tuple.tupleItemsOf (.ref t) >>= _) _ _ s
 refine wpAny_bind (tupleItemsOf_ ht ?_)
 refine wpAny_bind (wpAny_typeOf hTs ?_)
 rw[if_pos (by decide)]
 refine wpAny_bind (FK hs pl pu ?_)
 have hno:¬((((sIx items.size 0 lo:Nat):Int) == 0 && (1:Int) == 1 && (sIx items.size items.size hi-sIx items.size 0 lo) == items.size)=true):=by
  intro q
  rw[Bool.and_eq_true,Bool.and_eq_true] at q
  have q1:((sIx items.size 0 lo:Nat):Int)=0:=eq_of_beq q.1.1
  have q2:sIx items.size items.size hi-sIx items.size 0 lo=items.size:=eq_of_beq q.2
  exact hw ⟨by omega,by omega⟩
 show wpAny _ _ (if (((sIx items.size 0 lo:Nat):Int) == 0 && (1:Int) == 1 && (sIx items.size items.size hi-sIx items.size 0 lo) == items.size)=true then _ else _) _ _ s
 rw[if_neg hno,P8]
 first
  | exact wpAny_bind (m:=Builtin.Tuple.tupleExact _) (wpAny_newObj_type (wpAny_pure ⟨_,rfl,wpAny_pure h⟩) htake)
  | exact wpAny_bind (m:=Builtin.Tuple.tupleExact _) (wpAny_newObj_type (wpAny_bind (wpAny_pure (wpAny_pure ⟨_,rfl,wpAny_pure h⟩))) htake)
  | exact wpAny_bind (wpAny_bind (m:=Builtin.Tuple.tupleExact _) (wpAny_newObj_type (wpAny_pure (wpAny_pure ⟨_,rfl,wpAny_pure h⟩)) htake))
  | exact wpAny_bind (wpAny_bind (m:=Builtin.Tuple.tupleExact _) (wpAny_newObj_type (wpAny_pure ⟨_,rfl,wpAny_pure h⟩) htake))
end
end HT
namespace L2
open PySem PySem.Spec PyProof.Rows
abbrev TO:=St→Hp→(Option Int→Hp→Prop)→Prop
def PO (X:Cx) (e:Option Expr) (t:TO):Prop:=
 ∀(pins:List (Addr×Obj)) (s:Shared) (σ:St) (H:Hp) (Q:Option Int→Hp→Prop),Inv X pins σ H s→t σ H Q→
  wpAny (model X.prog X.w) X.A (evalPart e X.env) (fun u s'=>∃o H',Inv X pins σ H' s'∧IsPart u o∧Q o H') X.xe s
def QM:TO:=fun _ H Q=>Q none H
def Ud (t:TE):TO:=fun σ H Q=>t σ H fun x H1=>∃i,x= .int i∧Q (some i) H1
section
variable {X:Cx} {e:Expr} {te:TE} {lo hi:Option Expr} {tl th:TO} {pos p2:Pos}
theorem Fd:PO X none QM:=by
 intro pins s σ H Q I h
 rw[evalPart_none]
 exact wpAny_pure ⟨none,H,I,.none,h⟩
theorem E8 (h:PE X e te):PO X (some e) (Ud te):=by
 intro pins s σ H Q I hw
 rw[evalPart_some]
 refine AS (h pins s σ H _ I hw) fun u s1 ⟨x,H1,I1,r1,q1⟩=>?_
 obtain⟨i,rfl,q⟩:=q1
 obtain⟨t,rfl⟩:=r1
 exact⟨some i,H1,I1,.int i t,q⟩
def Us (X:Cx) (r:V→Option Int→Option Int→Hp→VK→Prop):Prop:=
 ∀(pins:List (Addr×Obj)) (s:Shared) (σ:St) (H:Hp) (x:V) (v vl vu:Value) (lo hi:Option Int) (sl:Addr) (Q:VK),Inv X pins σ H s→RelV x v→s.heap.IsSliceOf sl vl vu .none→IsPart vl lo→IsPart vu hi→r x lo hi H Q→
  ∃T id,typeLookup (.type T) "__getitem__"=pure (some (.builtin id))∧s.TypeIs v T∧wpAny (model X.prog X.w) X.A (getItem v (.ref sl)) (EP X pins σ Q) X.xe s
def Vm (r:V→Option Int→Option Int→Hp→VK→Prop) (te:TE) (tl th:TO):TE:=fun σ H Q=>te σ H fun x H1=>tl σ H1 fun l H2=>th σ H2 fun u H3=>r x l u H3 Q
theorem DQ {r:V→Option Int→Option Int→Hp→VK→Prop} (hr:Us X r) (he:PE X e te) (hl:PO X lo tl) (hu:PO X hi th):PE X (.Subscript e (.Slice lo hi none p2) pos) (Vm r te tl th):=by
 intro pins s σ H Q I h
 refine Subscript_ (AS (he pins s σ H _ I h) fun v s1 ⟨x,H1,I1,r1,q1⟩=>?_)
 refine wpAny_Slice (AS (hl pins s1 σ H1 _ I1 q1) fun vl s2 ⟨l,H2,I2,pl,q2⟩=>AS (hu pins s2 σ H2 _ I2 q2) fun vu s3 ⟨u,H3,I3,pu,q3⟩=>?_)
 rw[evalPart_none]
 refine wpAny_pure ?_
 have I4:Inv X pins σ H3 { s3 with heap:=s3.heap.push { cls:=.type "slice",data:=.fields #[vl,vu,.none] } }:=I3.kept (t':=s3.toks) fun b ob q=>Heap.get?_push_of_some _ q
 obtain⟨T,id,hT,ht,hg⟩:=hr pins { s3 with heap:=s3.heap.push { cls:=.type "slice",data:=.fields #[vl,vu,.none] } } σ H3 x v vl vu l u s3.heap.objs.size Q I4 r1 (Heap.IsSliceOf.new ..) pl pu q3
 show wpAny (model X.prog X.w) X.A (subscriptTail e (.Slice lo hi none p2) v (.ref s3.heap.objs.size)) (EP X pins σ Q) X.xe { s3 with heap:=s3.heap.push { cls:=.type "slice",data:=.fields #[vl,vu,.none] } }
 exact tail_any (ops:=[.ref s3.heap.objs.size,v]) ht hT hg (by with_unfolding_all rfl)
def Ct (xs:List V) (lo hi:Option Int):List V:=(xs.drop (HT.sIx xs.length 0 lo)).take (HT.sIx xs.length xs.length hi-HT.sIx xs.length 0 lo)
theorem Gg (xs:List V) (lo hi:Option Int):(Ct xs lo hi).length≤xs.length:=by
 unfold Ct
 rw[List.length_take,List.length_drop]
 omega
def UN (K:PySem.W.Frag):V→Option Int→Option Int→Hp→VK→Prop:=fun x lo hi H Q=>∃a xs,x= .ref a∧SqT K H a xs∧
 ¬(HT.sIx xs.length 0 lo=0∧HT.sIx xs.length xs.length hi=xs.length)∧∀p,H p=none→Q (.ref p) (upd H p (.tup (Ct xs lo hi)))
theorem Pg:Us X (UN X.K):=by
 intro pins s σ H x v vl vu lo hi sl Q I rx hs pl pu h
 obtain⟨a,xs,rfl,hx,hw,q⟩:=h
 cases rx
 obtain⟨its,r,ht,hz⟩:=I.tuple hx
 have hlen:its.toArray.size=xs.length:=by rw[List.size_toArray];exact r.length.symm
 refine⟨"tuple",_,PyProof.Rows.slot_tuple_getitem.lookup,ht.typeIs,?_⟩
 refine HT.getItem_tuple_cut ht hs pl pu (by rw[hlen];exact hw) ?_ (by rw[hlen];exact hz)
 rw[hlen]
 refine⟨.ref s.heap.objs.size,_,I.laid (t':=s.toks) (o:=.tup (Ct xs lo hi)) (fun b ob q=>Heap.get?_push_of_some _ q) (Nat.le_refl _) ?_,rfl,q _ (I.hok.fresh (Nat.le_refl _))⟩
 exact⟨Nat.le_trans (Gg xs lo hi) hz,_,(r.drop (HT.sIx xs.length 0 lo)).take (HT.sIx xs.length xs.length hi-HT.sIx xs.length 0 lo),IsTup.new _ _⟩
end
end L2
namespace L2
open PySem PySem.Spec PyProof.Rows
def RV (n:Nat) (i:Int):Option Nat:=if 0≤i then (if i<n then some i.toNat else none) else if -(n:Int)≤i then some (i+n).toNat else none
def Ia {α:Type} (xs:List α) (i:Int):Option α:=(RV xs.length i).bind fun j=>xs[j]?
theorem Qz {n:Nat} {i:Int} {j:Nat} (h:RV n i=some j):seqIndex? i n=some j∧j<n∧-(n:Int)≤i∧i<n:=by
 unfold RV at h
 by_cases h0:0≤i
 ·rw[if_pos h0] at h
  by_cases h1:i<n
  ·rw[if_pos h1] at h
   have e:i.toNat=j:=Option.some.inj h
   exact⟨by rw[seqIndex_of h0 h1,e],by omega,by omega,h1⟩
  ·rw[if_neg h1] at h;cases h
 ·rw[if_neg h0] at h
  by_cases h1 : -(n:Int)≤i
  ·rw[if_pos h1] at h
   have e:(i+n).toNat=j:=Option.some.inj h
   exact⟨by rw[seqIndex_neg (by omega) h1,e],by omega,h1,by omega⟩
  ·rw[if_neg h1] at h;cases h
theorem LZ {α:Type} {xs:List α} {i:Int} {v:α} (h:Ia xs i=some v):∃j,seqIndex? i xs.length=some j∧xs[j]? = some v∧j<xs.length∧-(xs.length:Int)≤i∧i<xs.length:=by
 unfold Ia at h
 cases e:RV xs.length i with
 | none=>rw[e] at h;cases h
 | some j=>
  rw[e] at h
  obtain⟨h1,h2,h3,h4⟩:=Qz e
  exact⟨j,h1,h,h2,h3,h4⟩
theorem Aj {α:Type} {xs:List α} {j:Nat} {v:α} (h:xs[j]? = some v):Ia xs (j:Int)=some v:=by
 have hj:j<xs.length:=(List.getElem?_eq_some_iff.mp h).1
 have e:RV xs.length (j:Int)=some j:=by
  unfold RV
  rw[if_pos (by omega),if_pos (by omega)];simp
 unfold Ia;rw[e];exact h
def QS (b:Expr):Prop:=∀o i,subscripted b false o i=operate [o,i] (getItem o i)
def UE (X:Cx) (r:R2):Prop:=
 ∀(value slice:Expr) (pins:List (Addr×Obj)) (s:Shared) (σ:St) (H:Hp) (x y:V) (v u:Value) (Q:VK),Inv X pins σ H s→RelV x v→RelV y u→r x y H Q→
  subscripted slice false v u=operate [v,u] (getItem v u)→wpAny (model X.prog X.w) X.A (subscriptTail value slice v u) (EP X pins σ Q) X.xe s
def Va (X:Cx) (id:String) (r:V→List V→Hp→VK→Prop):Prop:=
 ∀(pins:List (Addr×Obj)) (s:Shared) (σ:St) (H:Hp) (x:V) (xs:List V) (v:Value) (us:List Value) (Q:VK),Inv X pins σ H s→RelV x v→Vals xs us→r x xs H Q→
  wpAny (model X.prog X.w) X.A (call (.builtin id) (v::us)) (EP X pins σ Q) X.xe s
section
variable {X:Cx} {a b:Expr} {ta tb:TE} {pos:Pos}
theorem AC {r:R2} (hr:UE X r) (ha:PE X a ta) (hb:PE X b tb) (hs:QS b):PE X (.Subscript a b pos) (Ug r ta tb):=by
 intro pins s σ H Q I h
 exact Subscript_ (Sh ha hb I h fun v u s2 x y H2 I2 rx ry q=>hr a b pins s2 σ H2 x y v u Q I2 rx ry q (hs _ _))
def TJ (K:PySem.W.Frag):R2:=fun x y H Q=>∃p xs i v,x= .ref p∧y= .int i∧SqL K H p xs∧Ia xs i=some v∧Q v H
def Uq (K:PySem.W.Frag):R2:=fun x y H Q=>∃p xs i v,x= .ref p∧y= .int i∧SqT K H p xs∧Ia xs i=some v∧Q v H
theorem AT:UE X (TJ X.K):=by
 intro value slice pins s σ H x y v u Q I rx ry h hs
 obtain⟨p,xs,i,z,rfl,rfl,hq,he,q⟩:=h
 cases rx
 obtain⟨t,rfl⟩:=ry
 obtain⟨its,r,pl,hz⟩:=I.list hq
 obtain⟨j,h1,h2,h3,h4,h5⟩:=LZ he
 obtain⟨w,ew,rw'⟩:=r.get h2
 have hl:=r.length
 have hn:=Hu
 have fin:EP X pins σ Q w s:=⟨z,H,I,rw',q⟩
 by_cases h0:0≤i
 ·have hj:i.toNat=j:=by
   rw[seqIndex_of h0 h5] at h1
   exact Option.some.inj h1
  exact item_listR pl.isList h0 (by omega) (by rw[hj];simpa using ew) fin hs
 ·have hj:(i+(its.toArray.size:Int)).toNat=j:=by
   rw[seqIndex_neg (by omega) h4] at h1
   rw[List.size_toArray,←hl]
   exact Option.some.inj h1
  exact subscriptTail_builtinR (x:=w) pl.isList.typeIs slot_list_getitem.lookup
   (wpAny_getItem_list_neg (Q:=fun r s'=>r=w∧EP X pins σ Q r s') pl.isList (by omega) (by rw[List.size_toArray]<;>omega) (by omega) (by rw[hj];simpa using ew) ⟨rfl,fin⟩) hs
theorem AH:UE X (Uq X.K):=by
 intro value slice pins s σ H x y v u Q I rx ry h hs
 obtain⟨p,xs,i,z,rfl,rfl,hq,he,q⟩:=h
 cases rx
 obtain⟨t,rfl⟩:=ry
 obtain⟨its,r,pl,hz⟩:=I.tuple hq
 obtain⟨j,h1,h2,h3,h4,h5⟩:=LZ he
 obtain⟨w,ew,rw'⟩:=r.get h2
 have hl:=r.length
 have hn:=Hu
 have fin:EP X pins σ Q w s:=⟨z,H,I,rw',q⟩
 exact subscriptTail_builtinR (x:=w) pl.typeIs slot_tuple_getitem.lookup
  (getItem_tuple (j:=j) (Q:=fun r s'=>r=w∧EP X pins σ Q r s') pl (by omega) (by omega) (by rw[List.size_toArray,←hl];exact h1) (by simpa using ew) ⟨rfl,fin⟩) hs
theorem JA (lo hi:Option Int) (n:Nat):(sliceBounds lo hi none n).1=((HT.sIx n 0 lo:Nat):Int)∧(sliceBounds lo hi none n).2.1=((HT.sIx n n hi:Nat):Int)∧(sliceBounds lo hi none n).2.2=1:=by
 refine⟨?_,?_,rfl⟩
 ·cases lo with
  | none=>simp[sliceBounds,HT.sIx]
  | some i=>
   simp only[sliceBounds,HT.sIx,Option.getD_none,show (1:Int)>0 by decide,if_true]
   by_cases h:i<0
   ·simp only[h,if_true]<;>omega
   ·simp only[h,if_false]<;>omega
 ·cases hi with
  | none=>simp[sliceBounds,HT.sIx]
  | some i=>
   simp only[sliceBounds,HT.sIx,Option.getD_none,show (1:Int)>0 by decide,if_true]
   by_cases h:i<0
   ·simp only[h,if_true]<;>omega
   ·simp only[h,if_false]<;>omega
theorem Ih (its:List Value) (lo hi:Option Int):slicePick its.toArray lo hi none=((its.drop (HT.sIx its.length 0 lo)).take (HT.sIx its.length its.length hi-HT.sIx its.length 0 lo)).toArray:=by
 obtain⟨h1,h2,h3⟩:=JA lo hi its.toArray.size
 unfold slicePick
 rw[h1,h2,h3]
 simp only[sliceRange_one,pick_run,List.size_toArray]<;>rfl
def UP (K:PySem.W.Frag):V→Option Int→Option Int→Hp→VK→Prop:=fun x lo hi H Q=>∃a xs,x= .ref a∧SqL K H a xs∧∀p,H p=none→Q (.ref p) (upd H p (.lst (Ct xs lo hi)))
theorem JG:Us X (UP X.K):=by
 intro pins s σ H x v vl vu lo hi sl Q I rx hs pl pu h
 obtain⟨a,xs,rfl,hx,q⟩:=h
 cases rx
 obtain⟨its,r,ht,hz⟩:=I.list hx
 have hlen:=r.length
 refine⟨"list",_,slot_list_getitem.lookup,ht.isList.typeIs,?_⟩
 refine wpAny_getItem_list_slice ht.isList hs pl pu .none (by simp) ?_ (by rw[List.size_toArray]<;>omega)
 rw[Ih,←hlen]
 refine⟨.ref s.heap.objs.size,_,I.laid (t':=s.toks) (o:=.lst (Ct xs lo hi)) (fun b ob q=>Heap.get?_push_of_some _ q) (Nat.le_refl _) ?_,rfl,q _ (I.hok.fresh (Nat.le_refl _))⟩
 exact⟨Nat.le_trans (Gg xs lo hi) hz,_,0,(r.drop (HT.sIx xs.length 0 lo)).take (HT.sIx xs.length xs.length hi-HT.sIx xs.length 0 lo),Heap.get?_push_size _ rfl⟩
def Es:V→Bool
 | .non=>true
 | .bl _=>true
 | .int _=>true
 | .str _=>true
 | _=>false
def OU:V→V→Bool
 | .non,.non=>true
 | .bl a,.bl b=>a == b
 | .bl a,.int b=>(if a then 1 else 0) == b
 | .int a,.bl b=>a == (if b then 1 else 0)
 | .int a,.int b=>a == b
 | .str a,.str b=>a == b
 | _,_=>false
theorem ST {A:Around} {s:Shared} {y x:V} {u v:Value} (ry:RelV y u) (rx:RelV x v) (fy:Es y=true) (fx:Es x=true):SeqAt.EqAt A s u v (OU y x):=by
 cases y with
 | non=>
  cases ry
  cases x with
  | non=>cases rx;exact SeqAt.EqAt.same _
  | bl b=>cases rx;exact SeqAt.EqAt.none_bool b
  | int b=>obtain⟨t,rfl⟩:=rx;exact SeqAt.EqAt.none_int b t
  | str b=>obtain⟨t,rfl⟩:=rx;exact SeqAt.EqAt.none_str b t
  | _=>exact absurd (show false=true from fx) Bool.false_ne_true
 | bl a=>
  cases ry
  cases x with
  | non=>cases rx;exact SeqAt.EqAt.bool_none a
  | bl b=>cases rx;exact SeqAt.EqAt.bool_bool a b
  | int b=>obtain⟨t,rfl⟩:=rx;exact SeqAt.EqAt.bool_int a b t
  | str b=>obtain⟨t,rfl⟩:=rx;exact SeqAt.EqAt.bool_str a b t
  | _=>exact absurd (show false=true from fx) Bool.false_ne_true
 | int a=>
  obtain⟨t',rfl⟩:=ry
  cases x with
  | non=>cases rx;exact SeqAt.EqAt.int_none a t'
  | bl b=>cases rx;exact SeqAt.EqAt.int_bool a t' b
  | int b=>obtain⟨t,rfl⟩:=rx;exact SeqAt.EqAt.int_int a t' b t
  | str b=>obtain⟨t,rfl⟩:=rx;exact SeqAt.EqAt.int_str a t' b t
  | _=>exact absurd (show false=true from fx) Bool.false_ne_true
 | str a=>
  obtain⟨t',rfl⟩:=ry
  cases x with
  | non=>cases rx;exact SeqAt.EqAt.str_none a t'
  | bl b=>cases rx;exact SeqAt.EqAt.str_bool a t' b
  | int b=>obtain⟨t,rfl⟩:=rx;exact SeqAt.EqAt.str_int a t' b t
  | str b=>obtain⟨t,rfl⟩:=rx;exact SeqAt.EqAt.str_str a t' b t
  | _=>exact absurd (show false=true from fx) Bool.false_ne_true
 | _=>exact absurd (show false=true from fy) Bool.false_ne_true
def Lq (x:V) (u:Value):Bool:=match u with
 | .none=>OU .non x
 | .bool b=>OU (.bl b) x
 | .int i _=>OU (.int i) x
 | .str z _=>OU (.str z) x
 | _=>false
theorem Oi {x y:V} {u:Value} (r:RelV y u) (f:Es y=true):Lq x u=OU y x:=by
 cases y with
 | non=>cases r;rfl
 | bl b=>cases r;rfl
 | int i=>obtain⟨t,rfl⟩:=r;rfl
 | str z=>obtain⟨t,rfl⟩:=r;rfl
 | _=>exact absurd (show false=true from f) Bool.false_ne_true
theorem E5 {x:V}:∀{xs:List V} {us:List Value},Vals xs us→xs.all Es=true→us.any (Lq x)=xs.any fun y=>OU y x
 | _,_,.nil,_=>rfl
 | y::xs,u::us,.cons r t,f=>by
  rw[List.all_cons,Bool.and_eq_true] at f
  rw[List.any_cons,List.any_cons,Oi r f.1,E5 t f.2]
theorem DT {A:Around} {s:Shared} {x:V} {v:Value} (rx:RelV x v) (fx:Es x=true):∀{xs:List V} {us:List Value},Vals xs us→xs.all Es=true→∀u∈us,SeqAt.EqAt A s u v (Lq x u)
 | _,_,.nil,_=>fun u hu=>by cases hu
 | y::xs,u::us,.cons r t,f=>fun u' hu=>by
  rw[List.all_cons,Bool.and_eq_true] at f
  rcases List.mem_cons.mp hu with rfl | hu
  ·rw[Oi r f.1];exact ST r rx f.1 fx
  ·exact DT rx fx t f.2 u' hu
def N8 (x:V) (xs:List V):Bool:=xs.any fun y=>OU y x
def Uk (K:PySem.W.Frag) (neg:Bool):R2:=fun x y H Q=>∃p xs,y= .ref p∧(SqL K H p xs∨SqT K H p xs)∧Es x=true∧xs.all Es=true∧Q (.bl (if neg then !N8 x xs else N8 x xs)) H
theorem FH:Ep X (compareOp .In) (Uk X.K false):=by
 intro pins s σ H x y v u Q I rx ry h
 obtain⟨p,xs,rfl,hq,fx,fs,q⟩:=h
 cases ry
 rcases hq with hq | hq
 ·obtain⟨its,r,pl,hz⟩:=I.list hq
  refine SeqAt.in_listAt (Lq x) pl.isList (fun w hw=>DT rx fx r fs w (by simpa using hw)) ⟨.bl _,H,I,rfl,?_⟩
  rw[show its.toArray.any (Lq x)=its.any (Lq x) by simp,E5 r fs]
  exact q
 ·obtain⟨its,r,pl,hz⟩:=I.tuple hq
  refine SeqAt.in_tupleAt (Lq x) pl (fun w hw=>DT rx fx r fs w (by simpa using hw)) ⟨.bl _,H,I,rfl,?_⟩
  rw[show its.toArray.any (Lq x)=its.any (Lq x) by simp,E5 r fs]
  exact q
theorem B5:Ep X (compareOp .NotIn) (Uk X.K true):=by
 intro pins s σ H x y v u Q I rx ry h
 obtain⟨p,xs,rfl,hq,fx,fs,q⟩:=h
 cases ry
 rcases hq with hq | hq
 ·obtain⟨its,r,pl,hz⟩:=I.list hq
  refine SeqAt.notIn_listAt (Lq x) pl.isList (fun w hw=>DT rx fx r fs w (by simpa using hw)) ⟨.bl _,H,I,rfl,?_⟩
  rw[show its.toArray.any (Lq x)=its.any (Lq x) by simp,E5 r fs]
  exact q
 ·obtain⟨its,r,pl,hz⟩:=I.tuple hq
  refine SeqAt.notIn_tupleAt (Lq x) pl (fun w hw=>DT rx fx r fs w (by simpa using hw)) ⟨.bl _,H,I,rfl,?_⟩
  rw[show its.toArray.any (Lq x)=its.any (Lq x) by simp,E5 r fs]
  exact q
theorem Au:BP X (.builtin "len") (fun xs H Q=>∃p ys,xs=[.ref p]∧(SqL X.K H p ys∨SqT X.K H p ys)∧Q (.int ys.length) H):=by
 intro pins s σ H xs us Q I r h
 obtain⟨p,ys,rfl,hq,q⟩:=h
 obtain⟨u,rfl,rx⟩:=Dk r
 cases rx
 have hn:=Hu
 rcases hq with hq | hq
 ·obtain⟨its,r',pl,hz⟩:=I.list hq
  have hlen:=r'.length
  exact Calls.call_len_list pl.isList (by simp only[List.size_toArray]<;>omega) ⟨.int ys.length,H,I.tok _,⟨s.toks+1,by rw[List.size_toArray,hlen]⟩,q⟩
 ·obtain⟨its,r',pl,hz⟩:=I.tuple hq
  have hlen:=r'.length
  exact len_tuple pl (by simp only[List.size_toArray]<;>omega) ⟨.int ys.length,H,I.tok _,⟨s.toks+1,by rw[List.size_toArray,hlen]⟩,q⟩
theorem AX:BP X (.type "list") (fun xs H Q=>∃p ys,xs=[.ref p]∧(SqL X.K H p ys∨SqT X.K H p ys)∧∀l,H l=none→Q (.ref l) (upd H l (.lst ys))):=by
 intro pins s σ H xs us Q I r h
 obtain⟨p,ys,rfl,hq,q⟩:=h
 obtain⟨u,rfl,rx⟩:=Dk r
 cases rx
 have fin:∀(its:List Value),Vals ys its→ys.length≤sizeLine→∀(h':Heap) (c':Nat),(∀b o',s.heap.get? b=some o'→h'.get? b=some o')→
   h'.get? s.heap.objs.size=some { cls:=.type "list",dict:=none,data:=.seq its.toArray c',slots:=#[] }→EP X pins σ Q (.ref s.heap.objs.size) { s with heap:=h' }:=fun its r' hz h' c' kp e=>
  ⟨.ref s.heap.objs.size,_,I.laid (t':=s.toks) kp (Nat.le_refl _) (show ObjOk X.prog X.w _ h' _ (.lst ys) from⟨hz,its,c',r',e⟩),rfl,q _ (I.hok.fresh (Nat.le_refl _))⟩
 rcases hq with hq | hq
 ·obtain⟨its,r',pl,hz⟩:=I.list hq
  have hlen:=r'.length
  obtain⟨o,ho,hc,n,hd⟩:=pl.isList
  exact call_list_seq p (.inl rfl) ho hc hd (fun h' c' kp e=>fin its r' hz h' c' kp e) (by simp only[List.size_toArray]<;>omega)
 ·obtain⟨its,r',pl,hz⟩:=I.tuple hq
  have hlen:=r'.length
  obtain⟨o,ho,hc,n,hd⟩:=pl
  exact call_list_seq p (.inr rfl) ho hc hd (fun h' c' kp e=>fin its r' hz h' c' kp e) (by simp only[List.size_toArray]<;>omega)
def Uo (K:PySem.W.Frag) (T:String) (x:V) (H:Hp):Prop:=match x with
 | .str _=>T="str"
 | .int _=>T="int"
 | .ref p=>(T="list"∧∃xs,SqL K H p xs)∨(T="tuple"∧∃o,K.lookup p=some o∧o.cls= .type "tuple"∧o.dict=none)∨
   (T="dict"∧((∃kvs,H p=some (.dK kvs))∨∃kvs,H p=some (.dT kvs)))∨(T="set"∧∃S n,H p=some (.set S n))
 | _=>False
theorem P1 {pins:List (Addr×Obj)} {σ:St} {H:Hp} {s:Shared} {T:String} {x:V} {v:Value} (I:Inv X pins σ H s) (r:RelV x v) (ty:Uo X.K T x H) :
  s.TypeIs v T∧∀a,v= .ref a→∃ob,s.heap.get? a=some ob∧ob.dict=none:=by
 cases x with
 | str z=>
  obtain⟨t,rfl⟩:=r
  cases (show T="str" from ty)
  exact⟨typeIs_str s z t,fun _ e=>nomatch e⟩
 | int i=>
  obtain⟨t,rfl⟩:=r
  cases (show T="int" from ty)
  exact⟨typeIs_int s i t,fun _ e=>nomatch e⟩
 | ref p=>
  cases r
  rcases ty with⟨rfl,xs,hq⟩|⟨rfl,o,hk,hc,hd⟩|⟨rfl,hk⟩|⟨rfl,S,n,hk⟩
  ·obtain⟨its,_,pl,_⟩:=I.list hq
   refine⟨pl.isList.typeIs,fun a e=>?_⟩
   cases e
   obtain⟨o,n,e,c,hd,_⟩:=pl
   exact⟨o,e,hd⟩
  ·refine⟨⟨o,I.kIn p o hk,hc⟩,fun a e=>?_⟩
   cases e
   exact⟨o,I.kIn _ o hk,hd⟩
  ·have z:∃o,s.heap.get? p=some o∧o.ExactDict:=by
    rcases hk with⟨kvs,hk⟩|⟨kvs,hk⟩
    ·obtain⟨_,_,_,_,o,_,_,e,ex,_⟩:=I.hok p _ hk
     exact⟨o,e,ex⟩
    ·obtain⟨_,_,_,_,o,_,_,e,ex,_⟩:=I.hok p _ hk
     exact⟨o,e,ex⟩
   obtain⟨o,e,ex⟩:=z
   refine⟨⟨o,e,ex.1⟩,fun a e2=>?_⟩
   cases e2
   exact⟨o,e,ex.2.1⟩
  ·obtain⟨o,_,_,_,e,ex,_⟩:=I.hok p _ hk
   refine⟨⟨o,e,ex.1⟩,fun a e2=>?_⟩
   cases e2
   exact⟨o,e,ex.2.1⟩
 | _=>exact False.elim ty
def UR (K:PySem.W.Frag) (T:String) (r:V→List V→Hp→VK→Prop) (to:TE):TE:=fun σ H Q=>to σ H fun x H1=>Uo K T x H1∧r x [] H1 Q
def Vj (K:PySem.W.Frag) (T:String) (r:V→List V→Hp→VK→Prop) (to:TE) (t:TA):TE:=fun σ H Q=>to σ H fun x H1=>Uo K T x H1∧t σ H1 fun xs H2=>r x xs H2 Q
variable {o e:Expr} {es:List Expr} {to:TE} {t:TA} {name:Str} {apos cpos:Pos} {T id:String} {r:V→List V→Hp→VK→Prop}
theorem Cj (pa:PlainAttrs T) (slot:Slot T name id) (hty:typeOf (.builtin id)=pure (.type "method_descriptor")) (hm:Va X id r) (ho:PE X o to)
  (hbase:attributeBase o name X.env (eval o X.env)=eval o X.env:=by rfl) (hline:(apos.endLine == cpos.line)=true:=by rfl):PE X (.Call (.Attribute o name apos) [] [] cpos) (UR X.K T r to):=by
 intro pins s σ H Q I h
 refine wpAny_Call_method0_late hbase hline (AS (ho pins s σ H _ I h) fun v s1 ⟨x,H1,I1,r1,ty,q1⟩=>?_)
 obtain⟨h1,h2⟩:=P1 I1 r1 ty
 exact⟨T,id,pa,slot,hty,h1,h2,Calls.callWith_builtin rfl (PySem.evalArgs_none (hm pins s1 σ H1 x [] v [] Q I1 r1 .nil q1))⟩
theorem BO (pa:PlainAttrs T) (slot:Slot T name id) (hty:typeOf (.builtin id)=pure (.type "method_descriptor")) (hm:Va X id r) (ho:PE X o to) (ha:PA X (e::es) t)
  (hbase:attributeBase o name X.env (eval o X.env)=eval o X.env:=by rfl)
  (hfew:((backTo cpos (starEach (e::es) X.env)).all (fun x=>!x.1) && (backToKw cpos (keywordEach [] X.env)).all (fun x=>x.1.isSome)
   && decide ((e::es).length+([]:List Keyword).length+(if ([]:List Keyword).isEmpty then 0 else 1)<30))=true:=by rfl)
  (hline:(apos.endLine == cpos.line)=true:=by rfl) (hs:starEach (e::es) X.env=(false,eval e X.env)::starEach es X.env:=by rfl) (hplain:(backTo cpos (starEach es X.env)).any (·.1)=false:=by rfl) :
  PE X (.Call (.Attribute o name apos) (e::es) [] cpos) (Vj X.K T r to t):=by
 intro pins s σ H Q I h
 refine wpAny_Call_method_late hbase hfew hline rfl (AS (ho pins s σ H _ I h) fun v s1 ⟨x,H1,I1,r1,ty,q1⟩=>?_)
 obtain⟨h1,h2⟩:=P1 I1 r1 ty
 refine⟨T,id,pa,slot,hty,h1,h2,?_⟩
 have hA:=ha cpos pins s1 σ H1 _ I1 q1
 rw[hs] at hA ⊢
 refine Calls.callWith_builtin (by show (false || (backTo cpos (starEach es X.env)).any (·.1))=false;rw[hplain]<;>rfl) (Calls.evalArgs_plain ?_)
 exact AS hA fun us s2 ⟨vs,H2,I2,r2,q2⟩=>hm pins s2 σ H2 x vs v us Q I2 r1 r2 q2
end
end L2
namespace L2
open PySem PySem.Spec PyProof.Rows
def Uj (X:Cx) (id:String) (r:V→List V→Hp→VK→Prop):Prop:=
 ∀(pins:List (Addr×Obj)) (s:Shared) (σ:St) (H:Hp) (x:V) (xs:List V) (v:Value) (us:List Value) (Q:VK),Inv X pins σ H s→RelV x v→Vals xs us→r x xs H Q→
  wpAny (model X.prog X.w) X.A (call (.builtin id) (v::us)) (EP X pins σ Q) X.xe s
theorem Vals.one:∀{x:V} {us:List Value},Vals [x] us→∃u,us=[u]∧RelV x u
 | _,_,.cons r .nil=>⟨_,rfl,r⟩
theorem Vals.zero:∀{us:List Value},Vals [] us→us=[]
 | _,.nil=>rfl
theorem Vals.dropLast {xs:List V} {us:List Value} (h:Vals xs us):Vals xs.dropLast us.dropLast:=by
 induction h with
 | nil=>exact .nil
 | cons r t ih=>
  cases t with
  | nil=>exact .nil
  | cons q t'=>exact .cons r ih
theorem Vals.reverse {xs:List V} {us:List Value} (h:Vals xs us):Vals xs.reverse us.reverse:=by
 induction h with
 | nil=>exact .nil
 | cons r t ih=>rw[List.reverse_cons,List.reverse_cons];exact Vals.append ih (.cons r .nil)
theorem K8 {α:Type} (l:List α):l.eraseIdx (l.length-1)=l.dropLast:=by
 induction l with
 | nil=>rfl
 | cons a r ih=>
  cases r with
  | nil=>rfl
  | cons b r=>
   have e:(a::b::r).length-1=((b::r).length-1)+1:=by
    have h1:(a::b::r).length=r.length+2:=rfl
    have h2:(b::r).length=r.length+1:=rfl
    omega
   rw[e,List.eraseIdx_cons_succ,ih]
   all_goals rfl
section
variable {X:Cx} {pins:List (Addr×Obj)} {σ:St} {H:Hp} {s:Shared} {l b:Addr} {xs ys zs:List V}
theorem Inv.lset {its its':List Value} {n:Nat} {f:Array Value→Array Value} {t':Nat} (I:Inv X pins σ H s) (hH:H l=some (.lst xs))
  (e:s.heap.get? l=some { cls:=.type "list",data:=.seq its.toArray n }) (hf:f its.toArray=its'.toArray) (hv:Vals ys its') (hz:ys.length≤sizeLine) :
  Inv X pins σ (upd H l (.lst ys)) { s with heap:=s.heap.update l (Obj.mapSeq f),toks:=t' }:=by
 have q:=PySem.IsL.update e f
 rw[hf] at q
 refine I.write (x:=l) (e:=l) (by rw[hH];exact trivial) (.inl rfl) (fun b' u hb hu=>(Heap.get?_update_other s.heap (Obj.mapSeq f) (Ne.symm hb)).trans hu) ⟨_,q⟩ ?_
 exact⟨hz,its',_,hv,q⟩
theorem Inv.lnew {its:List Value} {t':Nat} (I:Inv X pins σ H s) (hv:Vals ys its) (hz:ys.length≤sizeLine) :
  Inv X pins σ (upd H s.heap.objs.size (.lst ys)) { s with heap:=s.heap.push { cls:=.type "list",data:=.seq its.toArray },toks:=t' }:=
 I.laid (fun _ _ q=>Heap.get?_push_of_some _ q) (Nat.le_refl _) ⟨hz,its,0,hv,Heap.get?_push_size _ rfl⟩
theorem Inv.fresh (I:Inv X pins σ H s):H s.heap.objs.size=none:=I.hok.fresh (Nat.le_refl _)
theorem Inv.lstM (I:Inv X pins σ H s) (hH:H l=some (.lst xs)):xs.length≤sizeLine∧∃(its:List Value) (n:Nat),Vals xs its∧xs.length=its.length∧s.heap.get? l=some { cls:=.type "list",data:=.seq its.toArray n }:=by
 obtain⟨z,its,n,r,e⟩:=I.hok l _ hH
 exact⟨z,its,n,r,r.length,e⟩
theorem Po {n:Nat} (h:n≤sizeLine):Builtin.List.listTooLong n=false:=by
 unfold Builtin.List.listTooLong
 exact decide_eq_false (by omega)
end
section
variable {X:Cx}
def Q9:V→List V→Hp→VK→Prop:=fun x vs H Q=>∃l xs y,x= .ref l∧vs=[y]∧H l=some (.lst xs)∧xs.length<sizeLine∧Q .non (upd H l (.lst (xs++[y])))
theorem AZ:Uj X "list.append" Q9:=by
 intro pins s σ H x vs v us Q I rx rv h
 obtain⟨l,xs,y,rfl,rfl,hH,hz,q⟩:=h
 cases rx
 obtain⟨u,rfl,ru⟩:=rv.one
 obtain⟨z,its,n,r,hl,e⟩:=I.lstM hH
 refine call_meets F.slot_list_append ⟨_,e,rfl⟩ F.entry_list_append (F.args_list_append_2 _ _) (PySem.list_append l its.toArray n u (by rw[List.size_toArray];omega)) ⟨e,?_⟩
 refine⟨.non,_,I.lset (its':=its++[u]) hH e (by simp) (r.append (.cons ru .nil)) ?_,rfl,q⟩
 rw[List.length_append,List.length_singleton]
 omega
def QU:V→List V→Hp→VK→Prop:=fun x vs H Q=>∃l b xs zs,x= .ref l∧vs=[.ref b]∧H l=some (.lst xs)∧H b=some (.lst zs)∧xs.length+zs.length≤sizeLine∧Q .non (upd H l (.lst (xs++zs)))
theorem Iu:Uj X "list.extend" QU:=by
 intro pins s σ H x vs v us Q I rx rv h
 obtain⟨l,b,xs,zs,rfl,rfl,hH,hB,hz,q⟩:=h
 cases rx
 obtain⟨u,rfl,ru⟩:=rv.one
 cases ru
 obtain⟨z,its,n,r,hl,e⟩:=I.lstM hH
 obtain⟨z2,its2,n2,r2,hl2,e2⟩:=I.lstM hB
 have hsz:its.toArray.size+its2.toArray.size≤sizeLine:=by rw[List.size_toArray,List.size_toArray];omega
 have hlong:¬(!its.toArray.isEmpty && Builtin.List.listTooLong (its.toArray.size+its2.toArray.size))=true:=by
  rw[Po hsz,Bool.and_false]
  exact Bool.false_ne_true
 refine call_meets F.slot_list_extend ⟨_,e,rfl⟩ F.entry_list_extend (F.args_list_extend_2 _ _)
  (AutoSeq1.list_extend_list_list_0 l its.toArray n b its2.toArray n2 hlong (by rw[List.size_toArray];omega) (by omega)) ⟨e,e2,?_⟩
 refine⟨.non,_,I.lset (its':=its++its2) hH e (by simp) (r.append r2) ?_,rfl,q⟩
 rw[List.length_append]
 omega
def UX:V→List V→Hp→VK→Prop:=fun x vs H Q=>∃l xs y,x= .ref l∧vs=[]∧H l=some (.lst xs)∧xs[xs.length-1]? = some y∧Q y (upd H l (.lst xs.dropLast))
theorem Cw:Uj X "list.pop" UX:=by
 intro pins s σ H x vs v us Q I rx rv h
 obtain⟨l,xs,y,rfl,rfl,hH,hy,q⟩:=h
 cases rx
 have hus:=rv.zero
 subst hus
 obtain⟨z,its,n,r,hl,e⟩:=I.lstM hH
 obtain⟨u,hu,ru⟩:=r.get hy
 have hy':its.toArray[its.toArray.size-1]? = some u:=by
  show its.toArray[its.length-1]? = some u
  rw[←Array.getElem?_toList,←hl]
  exact hu
 refine call_meets F.slot_list_pop ⟨_,e,rfl⟩ F.entry_list_pop (F.args_list_pop_1 _) (MeetsSeq.list_pop_last l its.toArray n u hy' (by rw[List.size_toArray];omega)) ⟨e,?_⟩
 refine⟨y,_,I.lset (its':=its.dropLast) hH e ?_ r.dropLast ?_,ru,q⟩
 ·show its.toArray.eraseIdxIfInBounds (its.toArray.size-1)=its.dropLast.toArray
  rw[List.size_toArray,List.eraseIdxIfInBounds_toArray,K8]
 ·rw[List.length_dropLast]
  omega
def Oj:V→List V→Hp→VK→Prop:=fun x vs H Q=>∃l xs,x= .ref l∧vs=[]∧H l=some (.lst xs)∧Q .non (upd H l (.lst xs.reverse))
theorem KW:Uj X "list.reverse" Oj:=by
 intro pins s σ H x vs v us Q I rx rv h
 obtain⟨l,xs,rfl,rfl,hH,q⟩:=h
 cases rx
 have hus:=rv.zero
 subst hus
 obtain⟨z,its,n,r,hl,e⟩:=I.lstM hH
 refine call_meets F.slot_list_reverse ⟨_,e,rfl⟩ F.entry_list_reverse (F.args_list_reverse_1 _) (AutoSeq1.list_reverse_list_0 l its.toArray n (by rw[List.size_toArray];omega)) ⟨e,?_⟩
 refine⟨.non,_,I.lset (its':=its.reverse) hH e (by simp) r.reverse ?_,rfl,q⟩
 rw[List.length_reverse]
 omega
end
section
variable {prog:Program} {w:World} {A:Around} {E:Value→Shared→Prop} {s:Shared}
end
section
variable {X:Cx}
end
end L2
namespace Att
open PySem PySem.W PySem.Calls PyProof.Rows
theorem Gk {P:Params} {h:Heap}:∀(ns:List Int) (vs:List Value),WellAll P h vs (ns.map WData.int)→IntsAre vs ns:=by
 intro ns
 induction ns with
 | nil=>
  intro vs w
  rw[List.map_nil] at w
  cases w
  exact .nil
 | cons n ns ih=>
  intro vs w
  rw[List.map_cons] at w
  cases w with
  | cons a b=>
   cases a
   exact .cons _ _ (ih _ b)
theorem NW {l:OpenLaw} {n:Nat} (hn:l.most=some n) {P:Params} {h:Heap} {args:List WData} {vals:List Value}
  (hpre:l.row.toRowW.claim.pre args=true) (hwl:WellAll P h vals args) :
  ∃a vs ns,vals=[Value.ref a]∧args=[WData.list (ns.map WData.int)]∧h.get? a=some { cls:=.type "list",data:=.seq vs.toArray }∧IntsAre vs ns∧ns.length≤n:=by
 have hsh:WShape.hasAll [] args [.list .int]=true:=(pre_splitW hpre).1
 have hc:l.pre.holds [] { args:=args }=true:=(pre_splitW hpre).2
 obtain⟨d,r,rfl,h1,h2⟩:=hasAllW_cons hsh
 obtain rfl:=hasAllW_nil h2
 obtain⟨xs,rfl,h3⟩:=hasW_list h1
 obtain⟨ns,rfl⟩:=items_int h3
 have hlen:ns.length≤n:=by
  unfold OpenLaw.pre at hc
  have h4:(WTm.not (.lt (.lit (.int (n:Int))) (.len (.arg 0)))).holds [] { args:=[.list (ns.map .int)] }=true:=by
   have h4:=(holds_andW hc).1
   rw[hn] at h4
   exact h4
  have h5:=condW_of h4 (w_not (w_lt w_lit (w_len_list (w_arg rfl))))
  rw[List.length_map] at h5
  refine Nat.le_of_not_lt fun q=>?_
  have q':(n:Int)<((ns.length:Nat):Int):=by omega
  first
   | (rw[decide_eq_true q'] at h5;exact absurd h5 (by decide))
   | (simp at h5;omega)
 cases hwl with
 | cons w1 w2=>
  cases w2
  cases w1 with
  | list ho hall=>exact⟨_,_,ns,rfl,rfl,ho,Gk ns _ hall,hlen⟩
theorem NY (l:OpenLaw) (args:List WData):l.row.toRowW.claim.post args (.bool true) args=true:=
 postW_of (r:=l.row.toRowW) (X:=(true == true))
  (show WShape.has [] (.bool true) .bool=true by first | rfl | decide | simp[WShape.has,WShape.arms,WShape.armsAll])
  (show (WTm.eq .res (.lit (.bool true))).value [] { args:=args,res:=some (.bool true),after:=args }=some (.bool (true == true)) from w_eq_bool (w_res rfl) w_lit) rfl
theorem attach_call {l:OpenLaw} {n:Nat} {q:Program} {loose:List Str} {XP:(Str→Option Value)→Heap→Prop} {YP:World→Heap→Prop} {d:DefRec}
  (hn:l.most=some n) (hdf:d.params.defaults=[])
  (call:∀(w:World) (s₀ s₁:Shared) (mg mb:Str→Option Value) (fa:Addr) (o:Obj) (pm cd doc:Value) (a:Addr) (vs:List Value) (ns:List Int),
   Ground q loose [] XP w s₀ mg mb s₁.heap→YP w s₁.heap→
   s₁.heap.get? fa=some o→o.data= .func (docDef d.name d.params d.body d.scope pm cd doc)→s₁.heap.CodeRec cd d.name→mg d.name=some (.ref fa)→
   s₁.heap.get? a=some { cls:=.type "list",data:=.seq vs.toArray }→IntsAre vs ns→ns.length≤n→s₁.gens = #[]→
   codeAny (model l.prog w) callerA (.call (.ref fa) ⟨[.ref a],[]⟩) (fun r s'=>r= .ok (.ret (.bool true))∧OldK s₁.heap s'.heap∧s'.os=s₁.os∧AllBare s'.gens) s₁) :
  WalkO q loose XP YP l.row.toRowW d [] (fun f vs=>PySem.call f vs):=by
 intro w s₀ s₁ mg mb G Y fa o pm cd doc dV kV ho hd hcd hD hmg hg args vals as hpre hlay hrd hwl hlo
 obtain rfl:dV= .none:=Dflts.none hD hdf
 obtain rfl:kV= .none:=Dflts.noKw hD
 obtain⟨a,vs,ns,rfl,rfl,hobj,hints,hlen⟩:=NW hn hpre hwl
 refine enter_call (codeAny_mono (call w s₀ s₁ mg mb fa o pm cd doc a vs ns G Y ho (fd_plain hd) hcd hmg hobj hints hlen hg) fun r s' hq=>?_)
 obtain⟨rfl,h2,h3,h4⟩:=hq
 exact⟨.inl ⟨.bool true,.bool true,[],rfl,fun _=>rfl,.bool true,NY l _,fun _=>⟨List.Pairwise.nil,fun _ hm=>(nomatch hm)⟩⟩,h2,h3,h4⟩
section
variable {prog:Program} {w:World} {A:Around} {E:Value→Shared→Prop} {s:Shared} {K:Frag}
end
end Att
namespace L2
open PySem PySem.Spec PyProof.Rows
theorem FA:∀{vs:List Value} {ns:List Int},IntsAre vs ns→Vals (ns.map V.int) vs
 | _,_,.nil=>.nil
 | _,_,.cons n t h=>.cons ⟨t,rfl⟩ (FA h)
def Sz (H:Hp):Prop:=∀b,H b=none∨∃o xs,H b=some (.frz o (.lst xs))
theorem Pj {P:Program} {w:World} {K:PySem.W.Frag} {mg mb:Str→Option Value} {CX:Mr} {k:Nat} {fa a:Addr} {fd:FuncData} {x:Str} {sp:Sp} {s₁:Shared} {vs:List Value} {ns:List Int}
  (KX:K.In s₁.heap) (hns:s₁.heap.Ns mainGlobals mg) (hb:s₁.heap.Ns builtinsNs mb) (hbb:∀x:Str,x≠"__name__"→mb x=bootBuiltins x) (hlim:s₁.heap.NoLimit) (hg:s₁.gens = #[])
  (ha:s₁.heap.get? a=some { cls:=.type "list",data:=.seq vs.toArray }) (hi:IntsAre vs ns) (hl:ns.length≤sizeLine) (hr:Room k callerA)
  (F:∀base:Heap,K.In base→base.Ns mainGlobals mg→FnOk P w K mg base CX k fa fd [x] sp) (hbind:∀(s:Shared) (u:Value),BindsTo s fd ⟨[u],[]⟩ [(x,u)])
  (hsp:∀H:Hp,Sz H→SqL K H a (ns.map V.int)→sp [.ref a] H (fun v _=>v= .bl true) fun _ _ _=>False)
  (hCX:∀H e s',CX [] H s₁ (fun _ _ _=>False) e s'→False) :
  codeAny (model P w) callerA (.call (.ref fa) ⟨[.ref a],[]⟩) (fun r s'=>r= .ok (.ret (.bool true))∧OldK s₁.heap s'.heap∧s'.os=s₁.os∧AllBare s'.gens) s₁:=by
 have rv:=FA hi
 have lenV:=hi.length
 have core:∀H:Hp,Sz H→SqL K H a (ns.map V.int)→HOk P w H s₁.heap→(∀b,H b≠none→b=a)→(H a≠none→K.lookup a=none)→
   codeAny (model P w) callerA (.call (.ref fa) ⟨[.ref a],[]⟩) (fun r s'=>r= .ok (.ret (.bool true))∧OldK s₁.heap s'.heap∧s'.os=s₁.os∧AllBare s'.gens) s₁:=by
  intro H hO hS hok hA hK
  have D5:∀{b:Addr} {o:Obj},s₁.heap.get? b=some o→H b=none→(JK s₁.heap H).get? b=some o:=fun e n=>Qq e n
  have noA:∀{b:Addr} {o:Obj} {es:Array DictEntry} {ep:Nat},s₁.heap.get? b=some o→o.data= .dict es ep→H b=none:=fun {b o es ep} e d=>by
   cases q:H b with
   | none=>rfl
   | some u=>
    have e':b=a:=hA b (by rw[q];simp)
    subst e'
    rw[ha] at e;cases e
    have d':Data.seq vs.toArray _=Data.dict es ep:=d
    cases d'
  have nsK:∀{b:Addr} {m:Str→Option Value},s₁.heap.Ns b m→(JK s₁.heap H).Ns b m:=fun {b m} ⟨o,es,ep,e,d,r⟩=>⟨o,es,ep,D5 e (noA e d),d,r⟩
  have hKb:K.In (JK s₁.heap H):=fun b o e=>D5 (KX b o e) (by
   cases q:H b with
   | none=>rfl
   | some u=>
    have e':b=a:=hA b (by rw[q];simp)
    subst e'
    rw[hK (by rw[q];simp)] at e;cases e)
  have hM:Mod K mg (JK s₁.heap H):=⟨hKb,nsK hns,⟨mb,nsK hb,hbb⟩,let ⟨mc,h1,h2⟩:=hlim;⟨mc,nsK h1,h2⟩⟩
  have e0:Env0 P w K mg (JK s₁.heap H) callerA [] s₁ H:=⟨rfl,hM,fun b o e=>QE e,Nat.le_of_eq (Nf _ _),trivial,fun b hb=>absurd (show b∈([]:List Addr) from hb) (by simp),hok,.of_eq hg⟩
  refine codeAny_mono ((F _ hKb (nsK hns)).run callerA [] s₁ H ⟨[.ref a],[]⟩ [.ref a] [.ref a] _ _ hr e0 (hbind s₁ (.ref a)) (.cons rfl .nil) (hsp H hO hS)) fun r s' h=>?_
  cases r with
  | error e=>exact (hCX H e s' h).elim
  | ok fl=>
   cases fl with
   | next=>exact False.elim h
   | brk=>exact False.elim h
   | cont=>exact False.elim h
   | ret u=>
    obtain⟨v,H',os,bare,un,hok',r',q⟩:=h
    have q':v= .bl true:=q
    subst q'
    obtain rfl:u=Value.bool true:=r'
    refine⟨rfl,OldK.of_keep fun b o e=>?_,os,bare⟩
    cases q:H b with
    | none=>exact un.keep b o e q (by intro z;exact absurd (show b∈([]:List Addr) from z) (by simp)) (by simp)
    | some u=>
     rcases hO b with z | ⟨ob,xs,z⟩
     ·rw[q] at z;cases z
     ·have z2:=un.frzs b ob _ z
      obtain⟨e1,_⟩:=hok b _ z
      obtain⟨e2,_⟩:=hok' b _ z2
      rw[e] at e1;cases e1
      exact e2
 cases hk:K.lookup a with
 | some o=>
  have e:=KX a o hk
  rw[ha] at e
  cases e
  refine core (fun _=>none) (fun _=>.inl rfl) (.inr ⟨_,vs.toArray,_,hk,rfl,rfl,rfl,by rw[List.size_toArray,lenV];exact hl,by simpa using rv⟩) (fun b u z=>by have z':(none:Option HO)=some u:=z;cases z') (fun b z=>absurd rfl z) fun z=>absurd rfl z
 | none=>
  refine core (fun b=>if b=a then some (.frz { cls:=.type "list",data:=.seq vs.toArray } (.lst (ns.map V.int))) else none) (fun b=>?_) (.inl (.inr ⟨{ cls:=.type "list",data:=.seq vs.toArray },if_pos rfl⟩)) (fun b u z=>?_) (fun b z=>?_) fun _=>hk
  ·by_cases hb:b=a
   ·exact .inr ⟨_,_,if_pos hb⟩
   ·exact .inl (if_neg hb)
  ·by_cases hb:b=a
   ·have z':=(if_pos hb).symm.trans z
    cases z'
    subst hb
    exact⟨ha,by rw[List.length_map];exact hl,vs,_,rv,ha⟩
   ·have z':=(if_neg hb).symm.trans z
    cases z'
  ·by_cases hb:b=a
   ·exact hb
   ·exact absurd (if_neg hb) z
end L2
namespace L2
open PySem PySem.Spec PyProof.Rows
theorem walk_of {l:PySem.W.OpenLaw} {n k:Nat} {q:Program} {loose:List Str} {XP:(Str→Option Value)→Heap→Prop} {YP:World→Heap→Prop} {d:DefRec} {K:Params→PySem.W.Frag} {CX:World→Mr} {sp:World→Sp} {x:Str}
  (hn:l.most=some n) (hn2:n≤sizeLine) (hdf:d.params.defaults=[]) (hr:Room k callerA)
  (hY:∀(w:World) (h:Heap),YP w h→(K w.params).In h)
  (F:∀(w:World) (mg:Str→Option Value) (fa:Addr) (h:Heap),(K w.params).In h→h.Ns mainGlobals mg→mg d.name=some (.ref fa)→
   ∃fd:FuncData,(∀(s:Shared) (u:Value),BindsTo s fd ⟨[u],[]⟩ [(x,u)])∧
    ∀base:Heap,(K w.params).In base→base.Ns mainGlobals mg→FnOk l.prog w (K w.params) mg base (CX w) k fa fd [x] (sp w))
  (hsp:∀(w:World) (H:Hp) (a:Addr) (ns:List Int),ns.length≤n→Sz H→SqL (K w.params) H a (ns.map V.int)→sp w [.ref a] H (fun v _=>v= .bl true) fun _ _ _=>False)
  (hCX:∀(w:World) (H:Hp) (s:Shared) (e:Value) (s':Shared),CX w [] H s (fun _ _ _=>False) e s'→False) :
  PySem.W.WalkO q loose XP YP l.row.toRowW d [] (fun f vs=>PySem.call f vs):=by
 refine Att.attach_call hn hdf fun w s₀ s₁ mg mb fa o pm cd doc a vs ns G Y ho hd hcd hmg hobj hints hlen hg=>?_
 have KX:=hY w _ Y
 obtain⟨fd,hb,hF⟩:=F w mg fa _ KX G.T.g hmg
 exact Pj KX G.T.g G.T.b G.T.builtins G.T.nolimit hg hobj hints (Nat.le_trans hlen hn2) hr hF hb (fun H hO hS=>hsp w H a ns hlen hO hS) fun H e s'=>hCX w H s₁ e s'
end L2
namespace L2
open PySem PySem.Spec PyProof.Rows
def BB (s:Stmt) (j:Nat):Stmt:=match s with
 | .ClassDef _ _ _ body _ _ _ _ _ _ _=>body.getD j (.Pass ⟨0,0,0,0⟩)
 | _=>.Pass ⟨0,0,0,0⟩
def Ap (s:Stmt):Arguments:=match s with
 | .FunctionDef _ a _ _ _ _ _ _ _ _=>a
 | _=>{ posonlyargs:=[],args:=[],vararg:=none,kwonlyargs:=[],kw_defaults:=[],kwarg:=none,defaults:=[] }
def An (s:Stmt):List Stmt:=match s with
 | .FunctionDef _ _ b _ _ _ _ _ _ _=>b
 | _=>[]
def Ae (s:Stmt):Scope:=match s with
 | .FunctionDef _ _ _ _ _ _ sc _ _ _=>sc
 | _=>{ kind:=.function,names:=[],isGenerator:=false,isCoroutine:=false }
abbrev AG:Mr:=fun _ _ _ _ _ _=>False
abbrev E0:XK:=fun _ _ _=>False
theorem Ao {X:Cx}:Dv AG X E0:=fun _ _ _ _ _ _ _ h=>h.elim
structure Fun (K:PySem.W.Frag) (x qual:Str) (st:Stmt) (f:Addr) (fd:FuncData):Prop where
 ex:∃(oc:Value) (od:Option Addr) (kV doc pm:Value) (an:Option Addr) (cdv ct:Value) (osl:Array (Option Value)),
  fd=PySem.W.fnOf x qual (Ap st) (An st) (Ae st) .none kV doc pm an cdv ct∧K.lookup f=some ⟨oc,od,.func fd,osl⟩∧PySem.W.codeIn K cdv qual=true
 kp:PySem.W.keepIn K (.ref f)=true
section
variable {P:Program} {w:World} {K:PySem.W.Frag} {mg:Str→Option Value} {base:Heap}
theorem Fun.ok {x qual:Str} {st:Stmt} {f:Addr} {fd:FuncData} {N ps:List Str} {k:Nat} {sp:Sp} (F:Fun K x qual st f fd) (S:Aq N ps (Ae st)) (len:∀vs H Q E,sp vs H Q E→vs.length=ps.length)
  (hbody:∀(cdv:Value) (A:Around) (outer:List Env) (s:Shared) (H:Hp) (vs:List V) (Q:VK) (E:XK),Room k (A.deeper (envOfC qual (Ae st) s.heap.objs.size f cdv))→sp vs H Q E→
   ∃t,PSs (Jq AG P w K mg base N qual (Ae st) f cdv A outer s H E).nox (An st) t∧t { nx:=fun _ H'=>Q .non H',rt:=Q } (Fb N vs) H):FnOk P w K mg base AG (k+1) f fd ps sp:=by
 obtain⟨oc,od,kV,doc,pm,an,cdv,ct,osl,rfl,lk,hcd⟩:=F.ex
 refine R1 lk hcd S len fun A outer s H vs Q E hr hsp=>?_
 obtain⟨t,h,q⟩:=hbody cdv A outer s H vs Q E hr hsp
 exact⟨t,h.nox,q⟩
theorem Fun.binds {x qual:Str} {st:Stmt} {f:Addr} {fd:FuncData} {ps:List Str} (F:Fun K x qual st f fd)
  (h:∀(kV doc pm:Value) (an:Option Addr) (cdv ct:Value) (us:List Value),us.length=ps.length→bindArgs (PySem.W.fnOf x qual (Ap st) (An st) (Ae st) .none kV doc pm an cdv ct) ⟨us,[]⟩=pure (ps.zip us)):Binds K fd ps []:=by
 obtain⟨oc,od,kV,doc,pm,an,cdv,ct,osl,rfl,lk,hcd⟩:=F.ex
 exact .all (h kV doc pm an cdv ct)
theorem AA {x qual:Str} {st:Stmt} {f:Addr} {oc:Value} {od an:Option Addr} {osl:Array (Option Value)} {kV doc pm cdv ct:Value} (l:K.lookup f=some ⟨oc,od,.func (PySem.W.fnOf x qual (Ap st) (An st) (Ae st) .none kV doc pm an cdv ct),osl⟩)
  (c:PySem.W.codeIn K cdv qual=true) (k:PySem.W.keepIn K (.ref f)=true):Fun K x qual st f (PySem.W.fnOf x qual (Ap st) (An st) (Ae st) .none kV doc pm an cdv ct):=⟨⟨oc,od,kV,doc,pm,an,cdv,ct,osl,rfl,l,c⟩,k⟩
end
theorem AF {n:Nat} (h:n≤1000):n<sizeLine:=Nat.lt_of_le_of_lt h (by decide)
section
variable {X:Cx}
theorem pv (i:Nat) {x:Str} {pos:Pos} (hN:X.N[i]? = some x:=by rfl) (hv:Uv X.env.scope x:=by first | exact Or.inl rfl | exact Or.inr (Or.inl rfl) | exact Or.inr (Or.inr rfl)) (hd:(x == ("__debug__":Str))=false:=by decide)
  (hcd:(x == ("__classdict__":Str))=false:=by decide):PE X (.Name x pos) (Qh i):=SZ hN hv hd hcd
end
theorem A8 {A B:Prop} (h:B):if false=true then A else B:=by
 rw[if_neg Bool.false_ne_true]
 exact h
theorem Bq {A B:Prop} (h:A):if true=true then A else B:=by
 rw[if_pos rfl]
 exact h
theorem B7 {c A B:Prop} [Decidable c] (h1:c→A) (h2:¬c→B):if c then A else B:=by
 by_cases h:c
 ·rw[if_pos h]
  exact h1 h
 ·rw[if_neg h]
  exact h2 h
theorem Gj {c A B:Prop} [Decidable c] (hc:c) (h:B):if (!decide c)=true then A else B:=by
 rw[decide_eq_true hc]
 exact A8 h
def Same (H H':Hp):Prop:=∀b o,H b=some o→H' b=some o
theorem Same.refl (H:Hp):Same H H:=fun _ _ h=>h
theorem Same.trans {H H1 H2:Hp} (a:Same H H1) (b:Same H1 H2):Same H H2:=fun c o h=>b c o (a c o h)
theorem Same.free {H H':Hp} (e:Same H H') {l:Addr} (h:H' l=Option.none):H l=Option.none:=by
 cases q:H l with
 | none=>rfl
 | some o=>
  rw[e l o q] at h
  cases h
theorem Same.seq {K:PySem.W.Frag} {H H':Hp} {a:Addr} {xs:List V} (e:Same H H') (h:SqL K H a xs):SqL K H' a xs:=by
 rcases h with (h | ⟨o,h⟩) | h
 ·exact .inl (.inl (e _ _ h))
 ·exact .inl (.inr ⟨o,e _ _ h⟩)
 ·exact .inr h
end L2
namespace L2
open PySem PySem.Spec PyProof.Rows
section
variable {X:Cx}
theorem Bo:BP X (.builtin "isinstance") (fun xs H Q=>∃x T t b,xs=[x,.ty T]∧Fi X.K H x t∧PySem.W.kitOne X.K t (.type T)=some b∧Q (.bl b) H):=by
 intro pins s σ H xs us Q I r h
 obtain⟨x,T,t,b,rfl,ty,e,q⟩:=h
 obtain⟨u,w',rfl,rx,ry⟩:=Qm r
 cases ry
 exact Il I rx ty e fun tk=>⟨.bl b,H,I.tok _,rfl,q⟩
theorem Bd (K:PySem.W.Frag) (T:String):PySem.W.kitOne K (.type T) (.type T)=some true:=by
 unfold PySem.W.kitOne
 rw[if_pos (beq_self_eq_true _)]
theorem Jo (K:PySem.W.Frag):PySem.W.kitOne K (.type "int") (.type "bool")=some false:=by
 with_unfolding_all rfl
def UT (K:PySem.W.Frag):R2:=fun x y H Q=>∃a b xs,x= .ref a∧y= .ref b∧SqL K H a xs∧SqL K H b []∧Q (.bl (!xs.isEmpty)) H
theorem Js (hu:X.A.units<cLine):Ep X (compareOp .NotEq) (UT X.K):=by
 intro pins s σ H x y v u Q I rx ry h
 obtain⟨a,b,xs,rfl,rfl,ha,hb,q⟩:=h
 cases rx
 cases ry
 obtain⟨its,r,pl,hz⟩:=I.list ha
 obtain⟨its2,r2,pl2,hz2⟩:=I.list hb
 cases r2
 cases r with
 | nil=>exact SeqAt.RcNeAt.lists (e:=fun _=>true) pl.isList pl2.isList rfl hu (fun j h1=>absurd h1 (Nat.not_lt_zero _)) _ _ _ _ ⟨.bl false,H,I,rfl,q⟩
 | cons r1 r2=>exact SeqAt.RcNeAt.lists_lengths pl.isList pl2.isList (by simp) hu _ _ _ _ ⟨.bl true,H,I,rfl,q⟩
def U5 (K:PySem.W.Frag):R2:=fun x y H Q=>∃a b xs,x= .ref a∧y= .ref b∧SqL K H a xs∧SqL K H b []∧Q (.bl xs.isEmpty) H
theorem K4 (hu:X.A.units<cLine):Ep X (compareOp .Eq) (U5 X.K):=by
 intro pins s σ H x y v u Q I rx ry h
 obtain⟨a,b,xs,rfl,rfl,ha,hb,q⟩:=h
 cases rx
 cases ry
 obtain⟨its,r,pl,hz⟩:=I.list ha
 obtain⟨its2,r2,pl2,hz2⟩:=I.list hb
 cases r2
 cases r with
 | nil=>exact SeqAt.RcAt.lists (e:=fun _=>true) pl.isList pl2.isList rfl hu (fun j h1=>absurd h1 (Nat.not_lt_zero _)) _ _ _ _ ⟨.bl true,H,I,rfl,q⟩
 | cons r1 r2=>exact SeqAt.RcAt.lists_lengths pl.isList pl2.isList (by simp) hu _ _ _ _ ⟨.bl false,H,I,rfl,q⟩
end
end L2
namespace HT2
open PySem L2
def TS (H H':Hp):Prop:=∀p xs,H p=some (.tup xs)→H' p=some (.tup xs)
theorem TS.trans {H H1 H2:Hp} (a:TS H H1) (b:TS H1 H2):TS H H2:=fun p xs e=>b p xs (a p xs e)
theorem TS.same {H H':Hp} (s:Same H H'):TS H H':=fun p xs e=>s p _ e
theorem TS.lst {H:Hp} {l:Addr} {xs:List V} {o:HO} (h:H l=some (.lst xs)):TS H (upd H l o):=fun p ys e=>by
 rw[Ax (Ev e h (by intro z;cases z))]
 exact e
theorem TS.new {H:Hp} {l:Addr} {o:HO} (h:H l=none):TS H (upd H l o):=fun p ys e=>by
 rw[Ax (Am e h)]
 exact e
theorem Af {H:Hp} {p:Addr} (h:H p=none) (o:HO):Same H (upd H p o):=fun b u q=>by rw[Ax (Am q h)];exact q
theorem AI {H0 H:Hp} {p:Addr} (s:Same H0 H) (h:H0 p=none) (o:HO):Same H0 (upd H p o):=fun b u q=>by rw[Ax (Am q h)];exact s b u q
inductive Tr where
 | lt (k:Nat)
 | nt (t:Tr)
 | bn (j:Nat) (a b:Tr)
 deriving DecidableEq
def jn:Nat→Str
 | 0=>"and"
 | 1=>"or"
 | 2=>"if"
 | _=>"same"
def Tr.At (H:Hp):Tr→V→Prop
 | .lt k,v=>∃p,v= .ref p∧H p=some (.tup [.str "let",.int k])
 | .nt t,v=>∃p u,v= .ref p∧H p=some (.tup [.str "not",u])∧t.At H u
 | .bn j a b,v=>∃p x y,v= .ref p∧H p=some (.tup [.str (jn j),x,y])∧a.At H x∧b.At H y
def Tr.size:Tr→Nat
 | .lt _=>1
 | .nt t=>t.size+1
 | .bn _ a b=>a.size+b.size+1
def Tr.ok (m:Nat):Tr→Prop
 | .lt k=>k<m
 | .nt t=>t.ok m
 | .bn j a b=>j<4∧a.ok m∧b.ok m
theorem Tr.size_pos:∀t:Tr,0<t.size
 | .lt _=>Nat.one_pos
 | .nt _=>Nat.succ_pos _
 | .bn _ _ _=>Nat.succ_pos _
theorem Tr.At.keep {H H':Hp} (s:TS H H'):∀{t:Tr} {v:V},t.At H v→t.At H' v
 | .lt k,v,h=>by
  obtain⟨p,e,h⟩:=h
  exact⟨p,e,s _ _ h⟩
 | .nt t,v,h=>by
  obtain⟨p,u,e,h,q⟩:=h
  exact⟨p,u,e,s _ _ h,Tr.At.keep s q⟩
 | .bn j a b,v,h=>by
  obtain⟨p,x,y,e,h,q,r⟩:=h
  exact⟨p,x,y,e,s _ _ h,Tr.At.keep s q,Tr.At.keep s r⟩
theorem Tr.ok.mono {m n:Nat} (h:m≤n):∀{t:Tr},t.ok m→t.ok n
 | .lt k,q=>Nat.lt_of_lt_of_le q h
 | .nt t,q=>Tr.ok.mono (t:=t) h q
 | .bn j a b,q=>⟨q.1,Tr.ok.mono (t:=a) h q.2.1,Tr.ok.mono (t:=b) h q.2.2⟩
abbrev Pile (H:Hp):List V→List Tr→Prop:=Paired fun (v:V) (t:Tr)=>t.At H v
theorem Pile.keep {H H':Hp} (s:TS H H'):∀{xs:List V} {ts:List Tr},Pile H xs ts→Pile H' xs ts
 | _,_,.nil=>.nil
 | _,_,.cons r q=>.cons (Tr.At.keep s r) (Pile.keep s q)
theorem Pile.len {H:Hp}:∀{xs:List V} {ts:List Tr},Pile H xs ts→xs.length=ts.length
 | _,_,.nil=>rfl
 | _,_,.cons _ q=>congrArg (· + 1) (Pile.len q)
theorem Pile.snoc {H:Hp} {y:V} {t:Tr} (h:t.At H y):∀{xs:List V} {ts:List Tr},Pile H xs ts→Pile H (xs++[y]) (ts++[t])
 | _,_,.nil=>.cons h .nil
 | _,_,.cons r q=>.cons r (Pile.snoc h q)
theorem Pile.last {H:Hp}:∀{xs:List V} {ts:List Tr},Pile H xs ts→0<ts.length→∃xs' y ts' t,xs=xs'++[y]∧ts=ts'++[t]∧Pile H xs' ts'∧Tr.At H t y
 | _,_,.nil,h=>absurd h (Nat.lt_irrefl _)
 | _,_,.cons (a:=v) (b:=t) r .nil,_=>⟨[],v,[],t,rfl,rfl,.nil,r⟩
 | _,_,.cons (a:=v) (b:=t) r (.cons r' q'),_=>by
  obtain⟨xs',y,ts',u,e1,e2,q,a⟩:=Pile.last (Paired.cons r' q') (Nat.succ_pos _)
  exact⟨v::xs',y,t::ts',u,by rw[e1];rfl,by rw[e2];rfl,.cons r q,a⟩
def sz (ts:List Tr):Nat:=(ts.map Tr.size).sum
theorem BC (ts:List Tr) (t:Tr):sz (ts++[t])=sz ts+t.size:=by
 unfold sz
 rw[List.map_append,List.sum_append]
 simp
theorem En (xs:List V) (y:V):(xs++[y])[(xs++[y]).length-1]? = some y:=by
 simp
theorem small {n:Nat} (h:n≤1000):n≤sizeLine:=Nat.le_of_lt (AF h)
theorem Fl:2≤sizeLine:=by decide
theorem M9:3≤sizeLine:=by decide
theorem U6:4≤sizeLine:=by decide
theorem UM:5≤sizeLine:=by decide
theorem M7:1≤sizeLine:=by decide
theorem Jx:0≤sizeLine:=by decide
def joints:List V:=[.str "and",.str "or",.str "if",.str "same"]
theorem KH {i:Int} (h0:0≤i) (h1:i<4):Ia joints i=some (.str (jn i.toNat)):=by
 obtain⟨n,rfl⟩:=Int.eq_ofNat_of_zero_le h0
 have hn:n<4:=by omega
 rw[Int.toNat_natCast]
 refine Aj ?_
 match n,hn with
 | 0,_=>rfl
 | 1,_=>rfl
 | 2,_=>rfl
 | 3,_=>rfl
end HT2
namespace L2
open PySem PySem.Spec PyProof.Rows
abbrev Eu:Value→Shared→Prop:=fun _ _=>False
theorem MD {α:Type} {t:Sem α} {Q:α→Shared→Prop} {M:Model} {A:Around} {E:Value→Shared→Prop} {s:Shared} (h:wpAny M A t Q Eu s):wpAny M A t Q E s:=wpAny_mono h (fun _ _ q=>q) fun _ _ z=>False.elim z
def Er (J:It) (g:TG) (tb:TS) (D:Cg) (σ:St) (H:Hp):Prop:=∃W:Nat→Nat→St→Hp→Prop,(∃m,W 0 m σ H)∧∀i m σ H,W i m σ H→
 (J.stop i H∧D.nx σ H)∨(J.go i H∧∃N:St→Hp→Prop,(∀σ' H',N σ' H'→∃m',m'<m∧W (i+1) m' σ' H')∧∀x H',J.yld i H x H'→g x σ H' fun σ2 H2=>tb { D with nx:=N,ct:=N,bk:=D.nx } σ2 H2)
abbrev Qx:=(Shared→Prop)→Shared→Prop
structure PB (X:Cx) (WB:Qx) (tb:TS):Prop where
 mono:∀(Qa Qb:Shared→Prop) (s:Shared),(∀s,Qa s→Qb s)→WB Qa s→WB Qb s
 run:∀(pins:List (Addr×Obj)) (s:Shared) (σ:St) (H:Hp) (D:Cg),Inv X pins σ H s→tb D σ H→WB (fun s'=>∃σ' H',Inv X pins σ' H' s'∧D.nx σ' H') s
def HT (X:Cx) (e:Expr) (d:Nat) (it acc:Value) (tg:Expr) (WB:Qx):Prop:=∀(s:Shared) (Qd Qa:Shared→Prop),
 wpAny (model X.prog X.w) X.A (pyNext it) (fun r s1=>match r with | none=>Qd s1 | some v=>wpAny (model X.prog X.w) X.A (letOwnedTupleGo tg it v) (fun _ s2=>wpAny (model X.prog X.w) X.A (assign tg X.env v) (fun _ s3=>WB Qa s3) Eu s2) Eu s1) Eu s→
 wpAny (model X.prog X.w) X.A (compTurn e d it acc X.env) (fun fin s'=>match fin with | .done f=>f= .next∧Qd s' | .again c'=>c'= .compLoop e d it acc X.env∧Qa s') Eu s
section
variable {X:Cx} {e tg:Expr} {d:Nat} {acc:Value} {it:Addr} {WB:Qx} {tb:TS} {g:TG} {J:It} {fp:List Addr} {tn:Nat→Heap→Prop} {D:Cg} {pins:List (Addr×Obj)} {σ:St} {H:Hp} {s:Shared}
theorem Ce (hxe:X.xe=Eu) (hc:X.calm=true) (ht:HT X e d (.ref it) acc tg WB) (hfr:(Code.compLoop e d (.ref it) acc X.env).isFrame=false) (hun:X.A.under (.compLoop e d (.ref it) acc X.env)=X.A) (hqu:(Code.compLoop e d (.ref it) acc X.env).quiet=true)
  (T:Lr X.prog X.w X.K tg J fp it tn) (hg:PG X tg g) (hb:PB X WB tb)
  (I:Inv X pins σ H s) (st:tn 0 s.heap) (f2:∀b∈fp,B3 X pins H b) (h:Er J g tb D σ H) :
  codeAny (model X.prog X.w) X.A (.compLoop e d (.ref it) acc X.env) (fun r s'=>r= .ok .next∧∃σ' H',Inv X pins σ' H' s'∧D.nx σ' H') s:=by
 obtain⟨W,⟨m0,w0⟩,turn⟩:=h
 have stat:∀{H':Hp},(∀b∈fp,H' b=none)→∀b∈fp,B3 X pins H' b:=fun hn b hb=>⟨hn b hb,(f2 b hb).2⟩
 refine codeAny_loop hqu (fun n s'=>∃i σ' H',Inv X pins σ' H' s'∧tn i s'.heap∧(∀b∈fp,H' b=none)∧W i n σ' H') (fun n s3 hI=>?_) m0 ⟨0,σ,H,I,st,fun b hb=>(f2 b hb).1,w0⟩
 obtain⟨i,σ3,H3,I3,st3,fr3,w3⟩:=hI
 have hden:(model X.prog X.w).den (.compLoop e d (.ref it) acc X.env)=(compTurn e d (.ref it) acc X.env).onRaise (fun x=>do noteFrame x X.env;theTreesLotGoes x):=by
  show (if (Code.compLoop e d (.ref it) acc X.env).isFrame=true then _ else _)=_
  rw[hfr]
  rfl
 rw[hun,hden]
 refine wpAny_noted (MD ?_)
 rcases turn i n σ3 H3 w3 with⟨stop,qn⟩|⟨go,N,hN,step⟩
 ·refine wpAny_mono (ht s3 (fun s'=>∃σ' H',Inv X pins σ' H' s'∧D.nx σ' H') (fun _=>False) (AS (T.done X rfl rfl rfl hc i pins s3 σ3 H3 Eu I3 (stat fr3) st3 stop) fun r s4 ⟨hr,I4⟩=>?_)) (fun fin s' q=>?_) fun _ _ z=>z
  ·subst hr
   exact⟨σ3,H3,I4,qn⟩
  ·cases fin with
   | done f=>
    obtain⟨rfl,q⟩:=q
    exact⟨rfl,q⟩
   | again c'=>exact False.elim q.2
 ·refine wpAny_mono (ht s3 (fun _=>False) (fun s'=>∃m,m<n∧∃i σ' H',Inv X pins σ' H' s'∧tn i s'.heap∧(∀b∈fp,H' b=none)∧W i m σ' H') (AS (T.item X rfl rfl rfl hc i pins s3 σ3 H3 Eu I3 (stat fr3) st3 go) fun r s4 ⟨u,hr,h4⟩=>?_)) (fun fin s' q=>?_) fun _ _ z=>z
  ·subst hr
   refine AS h4 fun _ s5 ⟨x,H5,I5,r5,y5,st5,fr5⟩=>?_
   have I5':=I5.pinned (stat fr5) (T.obj _ _ st5)
   have hgx:=hg _ s5 σ3 H5 x u _ I5' r5 (step x H5 y5)
   rw[hxe] at hgx
   refine AS hgx fun _ s6 ⟨σ6,H6,I6,q6⟩=>?_
   have again:∀{s7:Shared},(∃σ7 H7,Inv X (pins++HW fp s5.heap) σ7 H7 s7∧N σ7 H7)→∃m,m<n∧∃i σ' H',Inv X pins σ' H' s7∧tn i s7.heap∧(∀b∈fp,H' b=none)∧W i m σ' H':=fun {s7} ⟨σ7,H7,I7,n7⟩=>by
    obtain⟨m',hm,w7⟩:=hN σ7 H7 n7
    refine⟨m',hm,i+1,σ7,H7,I7.unpinned,T.keep _ _ _ st5 fun b hb o e=>(I7.pin (b,o) (List.mem_append_right _ (List.mem_append_right _ (Dx hb e)))).1,fun b hb=>?_,w7⟩
    obtain⟨o,e,d⟩:=T.obj _ _ st5 b hb
    exact (I7.pin (b,o) (List.mem_append_right _ (List.mem_append_right _ (Dx hb e)))).2.1
   exact hb.mono _ _ s6 (fun s7 q7=>again q7) (hb.run _ s6 σ6 H6 _ I6 q6)
  ·cases fin with
   | done f=>exact False.elim q.2
   | again c'=>exact q
def Gs (ifs:List Expr) (env:Env):Sem Bool:=forIn ifs true fun c r=>if r=true then do let ok ←isTrue c env (eval c env);pure (ForInStep.yield ok) else pure (ForInStep.yield r)
def Nb (X:Cx) (ifs:List Expr) (t:TT):Prop:=
 ∀(pins:List (Addr×Obj)) (s:Shared) (σ:St) (H:Hp) (Q:Bool→Hp→Prop),Inv X pins σ H s→t σ H Q→wpAny (model X.prog X.w) X.A (Gs ifs X.env) (TP X pins σ Q) X.xe s
def J7:TT:=fun _ H Q=>Q true H
theorem BI:Nb X [] J7:=fun pins s σ H Q I h=>wpAny_tests_nil ⟨H,I,h⟩
theorem BV {c:Expr} {tc:TT} (h:PT X c tc):Nb X [c] tc:=fun pins s σ H Q I q=>wpAny_tests_one (h pins s σ H Q I q)
def ED (X:Cx) (ifs:List Expr) (elt:Expr) (acc:Value):Qx:=fun Qa s=>wpAny (model X.prog X.w) X.A (Gs ifs X.env) (fun ok s1=>if ok=true then wpAny (model X.prog X.w) X.A (eval elt X.env) (fun x s2=>wpAny (model X.prog X.w) X.A (call (.builtin "list.append") [acc,x]) (fun _ s3=>Qa s3) Eu s2) Eu s1 else Qa s1) Eu s
def BX (acc:Addr) (te:TE):TS:=fun D σ H=>te σ H fun x H1=>∃xs,H1 acc=some (.lst xs)∧xs.length<sizeLine∧D.nx σ (upd H1 acc (.lst (xs++[x])))
def DC (tc:TT) (tb:TS):TS:=fun D σ H=>tc σ H fun b H1=>if b=true then tb D σ H1 else D.nx σ H1
theorem Gq {ifs:List Expr} {elt:Expr} {ac:Addr} {tc:TT} {te:TE} (hxe:X.xe=Eu) (hi:Nb X ifs tc) (he:PE X elt te):PB X (ED X ifs elt (.ref ac)) (DC tc (BX ac te)) where
 mono:=fun Qa Qb s hq h=>AS h fun ok s1 h1=>by
  cases ok with
  | false=>exact hq _ h1
  | true=>exact AS h1 fun x s2 h2=>AS h2 fun _ s3 h3=>hq _ h3
 run:=fun pins s σ H D I h=>by
  have h1:=hi pins s σ H _ I h
  rw[hxe] at h1
  refine AS h1 fun ok s1 ⟨H1,I1,q1⟩=>?_
  cases ok with
  | false=>exact⟨σ,H1,I1,q1⟩
  | true=>
   have q1':BX ac te D σ H1:=q1
   have h2:=he pins s1 σ H1 _ I1 q1'
   rw[hxe] at h2
   refine AS h2 fun u s2 ⟨x,H2,I2,r2,xs,hl,hz,q2⟩=>?_
   have h3:=AZ (X:=X) pins s2 σ H2 (.ref ac) [x] (.ref ac) [u] (fun _ H'=>D.nx σ H') I2 rfl (.cons r2 .nil) ⟨ac,xs,x,rfl,rfl,hl,hz,q2⟩
   rw[hxe] at h3
   exact AS h3 fun _ s3 ⟨_,H3,I3,_,q3⟩=>⟨σ,H3,I3,q3⟩
theorem Ln {elt iter:Expr} {ifs:List Expr} {scope:Scope} {pos:Pos} {itv:Value}:HT X (.ListComp elt [⟨tg,iter,ifs,0⟩] scope pos) 0 itv acc tg (ED X ifs elt acc):=by
 intro s Qd Qa h
 rw[compTurn_list]
 refine wpAny_bind (wpAny_standAt (wpAny_bind (AS h fun r s₁ h₁=>?_)))
 cases r with
 | none=>exact wpAny_pure ⟨rfl,h₁⟩
 | some v=>
  refine wpAny_bind (AS h₁ fun _ s2 h2=>wpAny_bind (AS h2 fun _ s3 h3=>wpAny_bind (AS h3 fun ok s4 h4=>?_)))
  cases ok with
  | false=>exact wpAny_pure ⟨rfl,h4⟩
  | true=>exact wpAny_bind (wpAny_bind (AS h4 fun x s₄ h₄=>wpAny_bind (AS h₄ fun _ s₅ h₅=>wpAny_pure (wpAny_pure ⟨rfl,h₅⟩))))
theorem J2 (elt tg0 iter0 tg iter:Expr) (ifs0 ifs:List Expr) (scope:Scope) (pos:Pos) (it acc:Value) (env:Env) :
  compTurn (.ListComp elt [⟨tg0,iter0,ifs0,0⟩,⟨tg,iter,ifs,0⟩] scope pos) 1 it acc env=(do
   standAt iter.pos
   match ←pyNext it with
   | none=>pure (.done .next)
   | some v=>
    letOwnedTupleGo tg it v
    assign tg env v
    let mut ok:=true
    for c in ifs do
     if ok then ok ←isTrue c env (eval c env)
    if ok then
     (do let _ ←call (.builtin "list.append") [acc,←eval elt env])
    again (.compLoop (.ListComp elt [⟨tg0,iter0,ifs0,0⟩,⟨tg,iter,ifs,0⟩] scope pos) 1 it acc env)):=by rfl
theorem Tm {elt tg0 iter0 iter:Expr} {ifs0 ifs:List Expr} {scope:Scope} {pos:Pos} {itv:Value}:HT X (.ListComp elt [⟨tg0,iter0,ifs0,0⟩,⟨tg,iter,ifs,0⟩] scope pos) 1 itv acc tg (ED X ifs elt acc):=by
 intro s Qd Qa h
 rw[J2]
 refine wpAny_bind (wpAny_standAt (wpAny_bind (AS h fun r s₁ h₁=>?_)))
 cases r with
 | none=>exact wpAny_pure ⟨rfl,h₁⟩
 | some v=>
  refine wpAny_bind (AS h₁ fun _ s2 h2=>wpAny_bind (AS h2 fun _ s3 h3=>wpAny_bind (AS h3 fun ok s4 h4=>?_)))
  cases ok with
  | false=>exact wpAny_pure ⟨rfl,h4⟩
  | true=>exact wpAny_bind (wpAny_bind (AS h4 fun x s₄ h₄=>wpAny_bind (AS h₄ fun _ s₅ h₅=>wpAny_pure (wpAny_pure ⟨rfl,h₅⟩))))
theorem Jv (elt tg iter tg1 iter1:Expr) (ifs ifs1:List Expr) (scope:Scope) (pos:Pos) (it acc:Value) (env:Env) :
  compTurn (.ListComp elt [⟨tg,iter,ifs,0⟩,⟨tg1,iter1,ifs1,0⟩] scope pos) 0 it acc env=(do
   standAt iter.pos
   match ←pyNext it with
   | none=>pure (.done .next)
   | some v=>
    letOwnedTupleGo tg it v
    assign tg env v
    let mut ok:=true
    for c in ifs do
     if ok then ok ←isTrue c env (eval c env)
    if ok then
     let x ←eval iter1 env
     standAt iter1.pos
     let x ←foldedSetIterable iter1 env x
     let _ ←runOwn (.compStart (.ListComp elt [⟨tg,iter,ifs,0⟩,⟨tg1,iter1,ifs1,0⟩] scope pos) 1 (←holding [x] (pyIter x)) acc env) env
    again (.compLoop (.ListComp elt [⟨tg,iter,ifs,0⟩,⟨tg1,iter1,ifs1,0⟩] scope pos) 0 it acc env)):=by rfl
def Ja (X:Cx) (ifs:List Expr) (e iter1:Expr) (acc:Value):Qx:=fun Qa s=>wpAny (model X.prog X.w) X.A (Gs ifs X.env) (fun ok s1=>if ok=true then
 wpAny (model X.prog X.w) X.A (eval iter1 X.env) (fun x s2=>wpAny (model X.prog X.w) X.A (pyIter x) (fun it s3=>codeAny (model X.prog X.w) X.A (.compStart e 1 it acc X.env) (fun r s4=>r= .ok .next∧Qa s4) s3) Eu s2) Eu s1 else Qa s1) Eu s
theorem Sx {elt iter tg1 iter1:Expr} {ifs ifs1:List Expr} {scope:Scope} {pos:Pos} {itv:Value} (hs:∀x,foldedSetIterable iter1 X.env x=pure x) :
  HT X (.ListComp elt [⟨tg,iter,ifs,0⟩,⟨tg1,iter1,ifs1,0⟩] scope pos) 0 itv acc tg (Ja X ifs (.ListComp elt [⟨tg,iter,ifs,0⟩,⟨tg1,iter1,ifs1,0⟩] scope pos) iter1 acc):=by
 intro s Qd Qa h
 rw[Jv]
 refine wpAny_bind (wpAny_standAt (wpAny_bind (AS h fun r s₁ h₁=>?_)))
 cases r with
 | none=>exact wpAny_pure ⟨rfl,h₁⟩
 | some v=>
  refine wpAny_bind (AS h₁ fun _ s2 h2=>wpAny_bind (AS h2 fun _ s3 h3=>wpAny_bind (AS h3 fun ok s4 h4=>?_)))
  cases ok with
  | false=>exact wpAny_pure ⟨rfl,h4⟩
  | true=>
   refine wpAny_bind (AS h4 fun x s₄ h₄=>wpAny_bind (wpAny_standAt (wpAny_bind (wpAny_of_eq (hs x) (wpAny_bind (wpAny_holding (AS h₄ fun it s₅ h₅=>?_)))))))
   refine wpAny_bind (wpAny_runOwn (codeAny_mono h₅ fun r s₆ h₆=>?_))
   obtain⟨rfl,h₆⟩:=h₆
   exact wpAny_pure ⟨rfl,h₆⟩
theorem BS {itv:Value} {R:Result→Shared→Prop} (hcl:((clausesOf e)[d]?).elim false (·.is_async != 0)=false) (hfr:(Code.compStart e d itv acc X.env).isFrame=false) (hun:X.A.under (.compStart e d itv acc X.env)=X.A)
  (hqu:∀it',(Code.compLoop e d it' acc X.env).quiet=true) (hposR:True)
  (h0:codeAny (model X.prog X.w) X.A (.compLoop e d itv acc X.env) R s)
  (h:wpAny (model X.prog X.w) X.A (pyIter itv) (fun it' s'=>codeAny (model X.prog X.w) X.A (.compLoop e d it' acc X.env) R s') Eu s) :
  codeAny (model X.prog X.w) X.A (.compStart e d itv acc X.env) R s:=by
 refine codeAny_of_tree ?_
 have hden:(model X.prog X.w).den (.compStart e d itv acc X.env)=(compStart e d itv acc X.env).onRaise (fun x=>do noteFrame x X.env;standAt theWindowsPlace):=by
  show (if (Code.compStart e d itv acc X.env).isFrame=true then _ else _)=_
  rw[hfr]
  rfl
 rw[hun,hden]
 refine wpAny_notedAt (MD ?_)
 unfold compStart
 rw[hcl]
 show wpAny _ _ (ask >>= _) _ _ s
 refine wpAny_bind (wpAny_askSetting (wpAny_ite ?_))
 split
 ·first
   | exact wpAny_bind (wpAny_pure (wpAny_pure (And.intro (hqu _) h0)))
   | exact wpAny_pure (And.intro (hqu _) h0)
 ·refine wpAny_bind (wpAny_rule ?_)
  cases hg:(clausesOf e)[d]? with
  | none=>exact wpAny_bind (AS h fun it' s' h'=>wpAny_pure (And.intro (hqu _) h'))
  | some g'=>exact wpAny_bind (wpAny_standAt (wpAny_bind (AS h fun it' s' h'=>wpAny_pure (And.intro (hqu _) h'))))
theorem SD {elt iter tg1 iter1:Expr} {ifs ifs1:List Expr} {scope:Scope} {pos:Pos} {ac:Addr} {tc:TT} {wi1:TI} {g1:TG} {tb1:TS} (hxe:X.xe=Eu) (hc:X.calm=true)
  (hi:Nb X ifs tc) (hI:PI X tg1 iter1 wi1) (hg1:PG X tg1 g1) (hb1:PB X (ED X ifs1 elt (.ref ac)) tb1) :
  PB X (Ja X ifs (.ListComp elt [⟨tg,iter,ifs,0⟩,⟨tg1,iter1,ifs1,0⟩] scope pos) iter1 (.ref ac)) (DC tc (Lf wi1 g1 tb1)) where
 mono:=fun Qa Qb s hq h=>AS h fun ok s1 h1=>by
  cases ok with
  | false=>exact hq _ h1
  | true=>exact AS h1 fun x s2 h2=>AS h2 fun it s3 h3=>codeAny_mono h3 fun r s4 h4=>⟨h4.1,hq _ h4.2⟩
 run:=fun pins s σ H D I h=>by
  have h1:=hi pins s σ H _ I h
  rw[hxe] at h1
  refine AS h1 fun ok s1 ⟨H1,I1,q1⟩=>?_
  cases ok with
  | false=>exact⟨σ,H1,I1,q1⟩
  | true=>
   have q1':Lf wi1 g1 tb1 D σ H1:=q1
   have h2:=hI pins s1 σ H1 _ I1 q1'
   rw[hxe] at h2
   refine AS h2 fun u s2 h3=>AS h3 fun itv s3 h4=>?_
   obtain⟨it,fp,tn,J,H3,e,I3,T,st3,f3,hR⟩:=h4
   subst e
   have loop:=Ce (e:=.ListComp elt [⟨tg,iter,ifs,0⟩,⟨tg1,iter1,ifs1,0⟩] scope pos) (d:=1) (D:=D) hxe hc Tm rfl rfl rfl T hg1 hb1 I3 st3 f3 hR
   exact BS (X:=X) rfl rfl rfl (fun _=>rfl) True.intro loop (T.self _ 0 s3 _ _ st3 loop)
end
structure CC where
 s:Shared
 H:Hp
 fp:List Addr
def Cx.cmp (X:Cx) (N:List Str) (scope:Scope) (cl:List (Str×Addr)) (c:CC):Cx:=
 { X with N:=N,s₀:=c.s,H₀:=c.H,env:=compEnvC scope cl c.s.heap.objs.size X.env,outer:=X.stack,ex:=c.fp,fn:=fun _=>false,pn:=[] }
def sub (js:List (Option Nat)) (σ:St):St:=js.map fun o=>o.bind fun j=>(σ[j]?).join
def FV (X:Cx) (N:List Str) (scope:Scope) (js:List (Option Nat)):Prop:=
 ∀(i:Nat) (x:Str) (j:Nat),N[i]? = some x→js[i]? = some (some j)→X.N[j]? = some x∧X.env.kindOf x=some .cell∧(relabel scope X.env).names.lookup x=some .cell
section
variable {X:Cx} {N:List Str} {scope:Scope} {cl:List (Str×Addr)} {js:List (Option Nat)} {pins:List (Addr×Obj)} {σ:St} {H:Hp} {s:Shared} {fp:List Addr}
theorem Inv.cmp {h':Heap} {ob:Obj} (I:Inv X pins σ H s) (hf:∀b∈fp,B3 X pins H b) (hfo:∀b∈fp,b<s.heap.objs.size) (hk:scope.kind= .function)
  (hcl:∀p∈cl,X.env.cells.lookup p.1=some p.2) (hcn:∀x,((relabel scope X.env).names.lookup x=some .cell∨(relabel scope X.env).names.lookup x=some .free)→∃c,cl.lookup x=some c)
  (hsh:FV X N scope js) (hl:js.length=N.length)
  (hns:h'.Ns s.heap.objs.size (fun _=>none)) (hsb:Heap.SameBut s.heap.objs.size (s.heap.push ob) h') {t':Nat} :
  Inv (X.cmp N scope cl ⟨s,H,fp⟩) [] (sub js σ) H { s with heap:=h',toks:=t' }:=by
 have hlook:∀x c,cl.lookup x=some c→X.env.cells.lookup x=some c:=fun x c e=>hcl (x,c) (PySem.mem_of_lookup e)
 have hkeep:∀b o,s.heap.get? b=some o→h'.get? b=some o:=fun b o e=>(hsb.2 b (Nat.ne_of_lt (Heap.lt_size e))).trans (Heap.get?_push_of_some _ e)
 refine⟨⟨I.ok.mod,?_,I.ok.glob,I.ok.blt,Nat.le_refl _,fun x y c h1 h2=>I.ok.inj x y c (hlook x c h1) (hlook y c h2),fun x hx=>hcn x hx,fun x c h=>?_,I.ok.hd,I.ok.frames,.inl rfl,fun b hb=>⟨Nat.ne_of_lt (hfo b hb),fun x c e=>(hf b hb).2.2.2.2.1 x c (hlook x c e)⟩,
   I.bs,Nat.le_trans I.ok.bsz I.sz,fun b o e hb=>?_,fun b hb hs=>?_,I.stack,I.stkFree⟩,rfl,I.bare,Un.kept hkeep,⟨_,hns,fun i x v e1 e2 e3=>?_⟩,fun x c e=>?_,I.hok.fresh (Nat.le_refl _),fun x c e=>I.freeC x c (hlook x c e),fun p hp=>?_,I.hok.kept hkeep,?_⟩
 ·show (relabel scope X.env).kind= .function
  exact hk
 ·exact absurd (show false=true from h) Bool.false_ne_true
 ·rcases (hf b hb).2.2.2.1 with z | z
  ·exact I.ok.noex b o e z
  ·exact absurd (Nat.lt_of_lt_of_le (Heap.lt_size (I.ok.bs b o e).1) z) (Nat.lt_irrefl _)
 ·rcases List.mem_cons.mp (I.stkSub b hs) with z | z
  ·exact (hf b hb).2.1 z
  ·exact (hf b hb).2.2.1 z
 ·have e2':(sub js σ)[i]? = some (some v):=e2
  unfold sub at e2'
  rw[List.getElem?_map] at e2'
  cases ej:js[i]? with
  | none=>rw[ej] at e2';cases e2'
  | some o=>
   rw[ej] at e2'
   cases o with
   | none=>cases e2'
   | some j=>
    obtain⟨a1,a2,a3⟩:=hsh i x j e1 ej
    have e4:(σ[j]?).join=some v:=Option.some.inj e2'
    have e5:σ[j]? = some (some v):=by
     cases q:σ[j]? with
     | none=>rw[q] at e4;cases e4
     | some o=>
      rw[q] at e4
      have:o=some v:=e4
      rw[this]
    obtain⟨m,hn,hloc⟩:=I.loc
    obtain⟨u,r,l⟩:=hloc j x v a1 e5 (.inr (.inl a2))
    refine⟨u,r,.inr ⟨.inl a3,?_⟩⟩
    obtain⟨c,hc⟩:=hcn x (.inl a3)
    refine⟨c,hc,?_⟩
    rcases l with⟨k,_⟩|⟨_,c',hc',hcell⟩
    ·rw[k] at a2;cases a2
    ·have:c'=c:=by
      have:=hlook x c hc
      rw[hc'] at this
      exact Option.some.inj this
     subst this
     obtain⟨o,ho,hd⟩:=hcell
     exact⟨o,hkeep _ _ ho,hd⟩
 ·obtain⟨v,o,ho,hd⟩:=I.cell x c (hlook x c e)
  exact⟨v,o,hkeep _ _ ho,hd⟩
 ·exact absurd (show p∈([]:List (Addr×Obj)) from hp) (by simp)
 ·unfold sub
  rw[List.length_map]
  exact hl
theorem Inv.uncmp {σ':St} {H':Hp} {s':Shared} {h'':Heap} (I:Inv X pins σ H s) (hf:∀b∈fp,B3 X pins H b) (J:Inv (X.cmp N scope cl ⟨s,H,fp⟩) [] σ' H' s') (hsb:Heap.SameBut s.heap.objs.size s'.heap h'') :
  Inv X pins σ H' { s' with heap:=h'' }:=by
 have u:Un (Hm X.stack) fp H H' s.heap s'.heap:=J.base
 have ne:∀b o,s.heap.get? b=some o→b≠s.heap.objs.size:=fun b o e=>Nat.ne_of_lt (Heap.lt_size e)
 have hfree:H' s.heap.objs.size=none:=J.free
 refine I.call' (ch:=fp) (s':={ s' with heap:=h'' }) J.os ⟨fun b o e n hb hx=>(hsb.2 b (ne b o e)).trans (u.keep b o e n hb hx),fun b o e n hb hx=>?_,u.free,fun b o e hx=>?_,u.tups,u.frzs,u.tbls⟩ (fun b ob e=>?_) J.bare fun b hb=>⟨(hf b hb).2.2.2.1,(hf b hb).2.1,(hf b hb).2.2.2.2.1,(hf b hb).2.2.2.2.2⟩
 ·obtain⟨sl,e1⟩:=u.slot b o e n hb hx
  exact⟨sl,(hsb.2 b (ne b o e)).trans e1⟩
 ·obtain⟨o',e1⟩:=u.there b o e hx
  exact⟨o',(hsb.2 b (ne b o e)).trans e1⟩
 ·refine (J.hok b ob e).stay (fun c w' hc q=>(hsb.2 c ?_).trans q) (fun _ q=>q) fun _ _ q=>q
  rintro rfl
  rcases hc with z | z
  ·rw[←z,hfree] at e;cases e
  ·rw[hfree] at z;cases z
end
def Hs (wi:TI) (js:List (Option Nat)) (g:CC→TG) (tb:CC→Addr→TS):TE:=fun σ H Q=>wi σ H fun J H1=>∀(c:CC) (acc:Addr),H1 acc=none→
 Er J (g c) (tb c acc) { nx:=fun _ H'=>Q (.ref acc) H',rt:=fun _ _=>False } (sub js σ) (upd H1 acc (.lst []))
section
variable {X:Cx} {N:List Str} {scope:Scope} {cl:List (Str×Addr)} {js:List (Option Nat)} {elt tg iter:Expr} {ifs:List Expr} {rest:List Comprehension} {pos:Pos} {wi:TI} {g:CC→TG} {tb:CC→Addr→TS}
theorem Kg {WB:CC→Value→Qx} (hxe:X.xe=Eu) (hc:X.calm=true) (hi:PI X tg iter wi) (hs:∀x,foldedSetIterable iter X.env x=pure x) (hclos:closureFor scope X.env=pure cl) (hk:scope.kind= .function)
  (hnames:∀x∈scope.names,x.2= .local→scope.names.lookup x.1=some .local) (hcell:∀x∈scope.names,x.2≠.cell)
  (hcl:∀p∈cl,X.env.cells.lookup p.1=some p.2) (hcn:∀x,((relabel scope X.env).names.lookup x=some .cell∨(relabel scope X.env).names.lookup x=some .free)→∃c,cl.lookup x=some c)
  (hsh:FV X N scope js) (hl:js.length=N.length)
  (ht:∀c it ac,HT (X.cmp N scope cl c) (.ListComp elt (⟨tg,iter,ifs,0⟩::rest) scope pos) 0 it ac tg (WB c ac))
  (hg:∀c,PG (X.cmp N scope cl c) tg (g c)) (hb:∀c ac,PB (X.cmp N scope cl c) (WB c (.ref ac)) (tb c ac)) :
  PE X (.ListComp elt (⟨tg,iter,ifs,0⟩::rest) scope pos) (Hs wi js g tb):=by
 intro pins s σ H Q I h
 rw[eval_ListComp]
 have h0:=hi pins s σ H _ I h
 refine wpAny_comprehension_free (use:=none) (cl:=cl) rfl hs hclos hk hnames (AS h0 fun v s1 h1=>AS h1 fun itv s2 h2=>?_)
 obtain⟨it,fp,tn,J,H2,e,I2,T,st2,f2,hR⟩:=h2
 subst e
 refine wpAny_newObj_type (wpAny_newFunctionEnv hcell (by intro y hy;simp at hy) (fun h₁ hns₁ hsb₁=>?_) hk)
 dsimp only at hns₁ hsb₁ ⊢
 have I3:=I2.lnew (ys:=[]) (its:=[]) (t':=s2.toks) .nil (Nat.zero_le _)
 have fpl:∀b∈fp,b<s2.heap.objs.size:=fun b hb=>by
  obtain⟨o,e,_⟩:=T.obj 0 _ st2 b hb
  exact Heap.lt_size e
 have fpa:∀b∈fp,b≠s2.heap.objs.size:=fun b hb=>Nat.ne_of_lt (fpl b hb)
 have f3:∀b∈fp,B3 X pins (upd H2 s2.heap.objs.size (.lst [])) b:=fun b hb=>⟨by rw[Ax (fpa b hb)];exact (f2 b hb).1,(f2 b hb).2⟩
 have hR':=hR ⟨{ s2 with heap:=s2.heap.push { cls:=.type "list",data:=.seq ([]:List Value).toArray } },upd H2 s2.heap.objs.size (.lst []),fp⟩ s2.heap.objs.size I2.fresh
 have I4:=I3.cmp (N:=N) (cl:=cl) (js:=js) (t':=s2.toks) f3 (fun b hb=>by
  show b<(s2.heap.push _).objs.size
  rw[Heap.size_push]
  exact Nat.lt_succ_of_lt (fpl b hb)) hk hcl hcn hsh hl hns₁ hsb₁
 have st4:tn 0 h₁:=T.keep 0 _ _ st2 fun b hb o e=>(hsb₁.2 b (by
  rw[Heap.size_push]
  exact Nat.ne_of_lt (Nat.lt_succ_of_lt (fpl b hb)))).trans (Heap.get?_push_of_some _ (Heap.get?_push_of_some _ e))
 have f4:∀b∈fp,B3 (X.cmp N scope cl ⟨{ s2 with heap:=s2.heap.push { cls:=.type "list",data:=.seq ([]:List Value).toArray } },upd H2 s2.heap.objs.size (.lst []),fp⟩) [] (upd H2 s2.heap.objs.size (.lst [])) b:=fun b hb=>
  ⟨(f3 b hb).1,(I4.ok.exf b hb).1,I4.ok.exfs b hb,.inl hb,(I4.ok.exf b hb).2,fun p hp=>absurd (show p∈([]:List (Addr×Obj)) from hp) (by simp)⟩
 have loop:=codeAny_mono (Ce (X:=X.cmp N scope cl ⟨{ s2 with heap:=s2.heap.push { cls:=.type "list",data:=.seq ([]:List Value).toArray } },upd H2 s2.heap.objs.size (.lst []),fp⟩) (e:=.ListComp elt (⟨tg,iter,ifs,0⟩::rest) scope pos) (d:=0) (acc:=.ref s2.heap.objs.size) (pins:=[]) hxe hc (ht _ _ _) rfl rfl rfl T (hg _) (hb _ _) I4 st4 f4 hR') (R':=compPost (model X.prog X.w) X.A X.xe none (EP X pins σ Q) (.ref s2.heap.objs.size) (s2.heap.push { cls:=.type "list",data:=.seq ([]:List Value).toArray }).objs.size) (fun r s' hq=>by
  obtain⟨rfl,σ',H',J',q⟩:=hq
  obtain⟨m,hn,_⟩:=id J'.loc
  exact⟨m,hn,fun h'' hs''=>⟨.ref s2.heap.objs.size,H',I3.uncmp f3 J' hs'',rfl,q⟩⟩)
 exact BS (X:=X.cmp N scope cl ⟨{ s2 with heap:=s2.heap.push { cls:=.type "list",data:=.seq ([]:List Value).toArray } },upd H2 s2.heap.objs.size (.lst []),fp⟩) rfl rfl rfl (fun _=>rfl) True.intro loop (T.self _ 0 _ _ _ st4 loop)
end
structure CompOk (X:Cx) (N:List Str) (scope:Scope) (cl:List (Str×Addr)) (js:List (Option Nat)):Prop where
 clos:closureFor scope X.env=pure cl
 kind:scope.kind= .function
 loc:(scope.names.all fun x=>(x.2 != .local || scope.names.lookup x.1 == some .local) && x.2 != .cell)=true
 ccl:∀p∈cl,X.env.cells.lookup p.1=some p.2
 cn:((relabel scope X.env).names.all fun p=>!(p.2 == .cell || p.2 == .free) || (cl.lookup p.1).isSome)=true
 sh:((N.zip js).all fun p=>match p.2 with | none=>true | some j=>X.N[j]? == some p.1 && X.env.kindOf p.1 == some .cell && (relabel scope X.env).names.lookup p.1 == some .cell)=true
 len:js.length=N.length
section
variable {X:Cx} {N:List Str} {scope:Scope} {cl:List (Str×Addr)} {js:List (Option Nat)}
theorem CompOk.names (h:CompOk X N scope cl js):∀x∈scope.names,x.2= .local→scope.names.lookup x.1=some .local:=fun x hx e=>by
 have q:=(List.all_eq_true.mp h.loc) x hx
 rw[Bool.and_eq_true] at q
 rw[e] at q
 simpa using q.1
theorem CompOk.cell (h:CompOk X N scope cl js):∀x∈scope.names,x.2≠.cell:=fun x hx e=>by
 have q:=(List.all_eq_true.mp h.loc) x hx
 rw[Bool.and_eq_true,e] at q
 exact absurd q.2 (by decide)
theorem CompOk.hcn (h:CompOk X N scope cl js):∀x,((relabel scope X.env).names.lookup x=some .cell∨(relabel scope X.env).names.lookup x=some .free)→∃c,cl.lookup x=some c:=fun x hx=>by
 rcases hx with e | e
 ·have q:=(List.all_eq_true.mp h.cn) _ (PySem.mem_of_lookup e)
  exact Option.isSome_iff_exists.mp (by simpa using q)
 ·have q:=(List.all_eq_true.mp h.cn) _ (PySem.mem_of_lookup e)
  exact Option.isSome_iff_exists.mp (by simpa using q)
theorem CompOk.shr (h:CompOk X N scope cl js):FV X N scope js:=fun i x j e1 e2=>by
 have hm:(x,some j)∈N.zip js:=by
  have:(N.zip js)[i]? = some (x,some j):=by rw[List.getElem?_zip_eq_some];exact⟨e1,e2⟩
  exact List.mem_of_getElem? this
 have q:=(List.all_eq_true.mp h.sh) _ hm
 simp only[Bool.and_eq_true] at q
 exact⟨eq_of_beq q.1.1,eq_of_beq q.1.2,eq_of_beq q.2⟩
variable {elt tg iter tg1 iter1:Expr} {ifs ifs1:List Expr} {pos:Pos} {wi:TI} {wi1:CC→TI} {g g1:CC→TG} {tc tc1:CC→TT} {te:CC→TE}
theorem Bm (h:CompOk X N scope cl js) (hi:PI X tg iter wi) (hg:∀c,PG (X.cmp N scope cl c) tg (g c)) (hif:∀c,Nb (X.cmp N scope cl c) ifs (tc c)) (he:∀c,PE (X.cmp N scope cl c) elt (te c))
  (hxe:X.xe=Eu:=by rfl) (hc:X.calm=true:=by rfl) (hs:∀x,foldedSetIterable iter X.env x=pure x:=by intro _;rfl) :
  PE X (.ListComp elt [⟨tg,iter,ifs,0⟩] scope pos) (Hs wi js g fun c ac=>DC (tc c) (BX ac (te c))):=
 Kg (WB:=fun c ac=>ED (X.cmp N scope cl c) ifs elt ac) hxe hc hi hs h.clos h.kind h.names h.cell h.ccl h.hcn h.shr h.len (fun c it ac=>Ln) hg fun c ac=>Gq hxe (hif c) (he c)
theorem Oc (h:CompOk X N scope cl js) (hi:PI X tg iter wi) (hg:∀c,PG (X.cmp N scope cl c) tg (g c)) (hif:∀c,Nb (X.cmp N scope cl c) ifs (tc c))
  (hi1:∀c,PI (X.cmp N scope cl c) tg1 iter1 (wi1 c)) (hg1:∀c,PG (X.cmp N scope cl c) tg1 (g1 c)) (hif1:∀c,Nb (X.cmp N scope cl c) ifs1 (tc1 c)) (he:∀c,PE (X.cmp N scope cl c) elt (te c))
  (hs1:∀c x,foldedSetIterable iter1 (X.cmp N scope cl c).env x=pure x:=by intro _ _;rfl)
  (hxe:X.xe=Eu:=by rfl) (hc:X.calm=true:=by rfl) (hs:∀x,foldedSetIterable iter X.env x=pure x:=by intro _;rfl) :
  PE X (.ListComp elt [⟨tg,iter,ifs,0⟩,⟨tg1,iter1,ifs1,0⟩] scope pos) (Hs wi js g fun c ac=>DC (tc c) (Lf (wi1 c) (g1 c) (DC (tc1 c) (BX ac (te c))))):=
 Kg (WB:=fun c ac=>Ja (X.cmp N scope cl c) ifs (.ListComp elt [⟨tg,iter,ifs,0⟩,⟨tg1,iter1,ifs1,0⟩] scope pos) iter1 ac) hxe hc hi hs h.clos h.kind h.names h.cell h.ccl h.hcn h.shr h.len (fun c it ac=>Sx (hs1 c)) hg
  fun c ac=>SD hxe hc (hif c) (hi1 c) (hg1 c) (Gq hxe (hif1 c) (he c))
end
end L2
namespace L2
open PySem PySem.Spec PyProof.Rows
section
variable {X:Cx} {pins:List (Addr×Obj)} {σ:St} {H:Hp} {s:Shared} {fp:List Addr} {h':Heap}
theorem Inv.turnedL {t':Nat} (I:Inv X pins σ H s) (hf:∀b∈fp,B3 X pins H b) (k:∀b o,b∉fp→s.heap.get? b=some o→h'.get? b=some o):Inv X pins σ H { s with heap:=h',toks:=t' }:=by
 have nfp:∀b u,H b=some u→b∉fp:=fun b u e z=>by rw[(hf b z).1] at e;cases e
 refine I.call' (ch:=fp) (s':={ s with heap:=h',toks:=t' }) rfl ⟨fun b o e _ _ hx=>k b o hx e,fun b o e _ _ hx=>⟨o.slots,k b o hx e⟩,fun _ _ _ n _=>n,fun b o e hx=>⟨o,k b o hx e⟩,fun _ _ q=>q,fun _ _ _ q=>q,fun _ ps q=>⟨#[],by rw[q];simp⟩⟩ (fun b u e=>?_) I.bare
  fun b hb=>⟨(hf b hb).2.2.2.1,(hf b hb).2.1,(hf b hb).2.2.2.2.1,(hf b hb).2.2.2.2.2⟩
 refine (I.hok b u e).stay (fun c v hc q=>k c v ?_ q) (fun _ q=>q) fun _ _ q=>q
 rcases hc with z | z
 ·rw[z];exact nfp b u e
 ·exact nfp c _ z
theorem Inv.turnedT {t':Nat} {T:Addr} {xs:List V} {its:List Value} (I:Inv X pins σ H s) (hf:∀b∈fp,B3 X pins H b) (k:∀b o,b∉fp→s.heap.get? b=some o→h'.get? b=some o)
  (hT:s.heap.objs.size≤T) (hz:xs.length≤sizeLine) (rv:Vals xs its) (ht:IsTup h' T its.toArray):Inv X pins σ (upd H T (.tup xs)) { s with heap:=h',toks:=t' }:=by
 have nfp:∀b u,H b=some u→b∉fp:=fun b u e z=>by rw[(hf b z).1] at e;cases e
 have hn:H T=none:=I.hok.fresh hT
 refine I.call' (ch:=fp) (s':={ s with heap:=h',toks:=t' }) rfl ⟨fun b o e _ _ hx=>k b o hx e,fun b o e _ _ hx=>⟨o.slots,k b o hx e⟩,fun b o e n _=>?_,fun b o e hx=>⟨o,k b o hx e⟩,fun b q e=>?_,fun b o u e=>?_,fun b ps e=>⟨#[],?_⟩⟩ (fun b u e=>?_) I.bare
  fun b hb=>⟨(hf b hb).2.2.2.1,(hf b hb).2.1,(hf b hb).2.2.2.2.1,(hf b hb).2.2.2.2.2⟩
 ·rw[Ax (Nat.ne_of_lt (Nat.lt_of_lt_of_le (Heap.lt_size e) hT))];exact n
 ·rw[Ax (Am e hn)];exact e
 ·rw[Ax (Am e hn)];exact e
 ·rw[Ax (Am e hn),e];simp
 ·by_cases hb:b=T
  ·subst hb
   rw[upd_same] at e
   cases e
   exact⟨hz,its,rv,ht⟩
  ·rw[Ax hb] at e
   refine (I.hok b u e).stay (fun c v hc q=>k c v ?_ q) (fun c q=>?_) fun c xs q=>?_
   ·rcases hc with z | z
    ·rw[z];exact nfp b u e
    ·exact nfp c _ z
   ·rw[Ax (Am q hn)];exact q
   ·rw[Ax (Am q hn)];exact q
end
section
variable {X:Cx} {tg:Expr}
end
end L2
namespace L2
open PySem PySem.Spec PyProof.Rows
section
variable {X:Cx}
end
end L2
namespace L2
open PySem PySem.Spec PyProof.Rows
def SE (a:Addr):It:=
 ⟨fun i H=>∃xs x,H a=some (.lst xs)∧xs[i]? = some x,fun i H x H'=>∃T y,H T=none∧(∀xs,H a=some (.lst xs)→xs[i]? = some y)∧x= .ref T∧H'=upd H T (.tup [.int (i:Nat),y]),fun i H=>∃xs,H a=some (.lst xs)∧xs.length=i⟩
theorem NZ {a:Addr} {xs:List V} {g:TG} {tb:TS} {D:Cg} {σ:St} {H:Hp} (Pv:Nat→St→Hp→Prop) (h0:Pv 0 σ H) (hl:∀i σ H,i≤xs.length→Pv i σ H→H a=some (.lst xs))
  (hs:∀i y T σ H,xs[i]? = some y→H T=none→Pv i σ H→g (.ref T) σ (upd H T (.tup [.int (i:Nat),y])) fun σ2 H2=>tb { D with nx:=Pv (i+1),ct:=Pv (i+1),bk:=D.nx } σ2 H2) (hd:∀σ H,Pv xs.length σ H→D.nx σ H):Er (SE a) g tb D σ H:=by
 refine⟨fun i m σ H=>m=xs.length-i∧i≤xs.length∧Pv i σ H,⟨xs.length,by simp,Nat.zero_le _,h0⟩,?_⟩
 rintro i m σ H ⟨rfl,hi,p⟩
 have q:=hl i σ H hi p
 by_cases hlt:i<xs.length
 ·refine .inr ⟨⟨xs,xs[i],q,by simp[hlt]⟩,Pv (i+1),fun σ' H' p'=>⟨xs.length-(i+1),by omega,rfl,hlt,p'⟩,fun x H' y=>?_⟩
  obtain⟨T,y,hT,hy,e1,e2⟩:=y
  subst e1 e2
  exact hs i y T σ _ (hy xs q) hT p
 ·have e:i=xs.length:=by omega
  subst e
  exact .inl ⟨⟨xs,q,rfl⟩,hd σ H p⟩
theorem LM {P:Program} {w:World} {K:PySem.W.Frag} {elts:List Expr} {k:Nat} {tp:Pos} (a e it:Addr) (hei:e≠it) :
  Lr P w K (.Tuple elts k tp) (SE a) [e,it] e (fun i h=>(∃old,IsEnum h e it i old)∧h.IsListIter it a i) where
 mem:=by simp
 obj:=fun i h st b hb=>by
  obtain⟨⟨old,he⟩,o,ho,c,d⟩:=st
  rcases List.mem_cons.mp hb with q | q
  ·subst q
   exact⟨_,he,fun v z=>by
    have z':Data.fields _=Data.cell v:=z
    cases z'⟩
  ·have q':b=it:=by simpa using q
   subst q'
   exact⟨o,ho,fun v z=>by rw[d] at z;cases z⟩
 keep:=fun i h h' st k=>by
  obtain⟨⟨old,he⟩,hi⟩:=st
  exact⟨⟨old,k e (by simp) _ he⟩,hi.at fun o e=>k it (by simp) o e⟩
 item:=by
  intro X hP hw hK hc i pins s σ H E I hf st hg
  subst hP hw hK
  obtain⟨xs,x,hq,hx⟩:=hg
  obtain⟨its,rv,p,hz⟩:=I.list (SqL.of hq)
  obtain⟨u,hu,ru⟩:=rv.get hx
  have hlen:=rv.length
  have hi:i<xs.length:=(List.getElem?_eq_some_iff.mp hx).1
  have nai:a≠it:=Am hq (hf it (by simp)).1
  have nae:a≠e:=Am hq (hf e (by simp)).1
  have D:=Draws.list (prog:=X.prog) (w:=X.w) (A:=X.A.in1) (I.ok.hd hc) it a nai its.toArray
  have WT:=WalksT.enumerateD (A:=X.A) D e hei (by simp[hei,nae.symm]) (by simp)
  refine WT.item i s _ _ (by simp;omega) ⟨st.1,st.2,p.isList⟩ fun T vals h1 tk hv hT htup hmid kk=>?_
  obtain⟨t',x2,hx2,rfl⟩:=hv
  have hx2':its[i]? = some x2:=by simpa using hx2
  have ex:x2=u:=by rw[hu] at hx2';exact (Option.some.inj hx2').symm
  subst ex
  have I1:Inv X pins σ (upd H T (.tup [.int (i:Nat),x])) { s with heap:=h1,toks:=tk }:=I.turnedT (its:=[.int i t',x2]) hf kk hT (by show 2≤sizeLine;decide) (.cons ⟨_,rfl⟩ (.cons ru .nil)) htup
  have nT:∀b∈[e,it],b≠T:=fun b hb z=>by
   subst z
   exact WT.apart _ _ _ hmid hb
  have hf1:∀b∈[e,it],B3 X pins (upd H T (.tup [.int (i:Nat),x])) b:=fun b hb=>⟨by rw[Ax (nT b hb)];exact (hf b hb).1,(hf b hb).2⟩
  refine⟨_,rfl,WT.go elts k tp i T _ _ _ hmid fun h2 st2 kk2=>?_⟩
  refine⟨.ref T,_,I1.turnedL (t':=tk) hf1 kk2,rfl,⟨T,x,I.hok.fresh hT,fun zs hzs=>?_,rfl,rfl⟩,⟨st2.1,st2.2.1⟩,fun b hb=>(hf1 b hb).1⟩
  rw[hq] at hzs
  cases hzs
  exact hx
 done:=by
  intro X hP hw hK hc i pins s σ H E I hf st hg
  subst hP hw hK
  obtain⟨xs,hq,rfl⟩:=hg
  obtain⟨its,rv,p,hz⟩:=I.list (SqL.of hq)
  have hlen:=rv.length
  have nai:a≠it:=Am hq (hf it (by simp)).1
  have nae:a≠e:=Am hq (hf e (by simp)).1
  have D:=Draws.list (prog:=X.prog) (w:=X.w) (A:=X.A.in1) (I.ok.hd hc) it a nai its.toArray
  have WT:=WalksT.enumerateD (A:=X.A) D e hei (by simp[hei,nae.symm]) (by simp)
  refine WT.done s _ _ ?_ fun h' tk kk=>⟨rfl,I.turnedL hf kk⟩
  have e1:its.toArray.size=xs.length:=by simp;omega
  rw[e1]
  exact⟨st.1,st.2,p.isList⟩
 self:=fun A i s Q E st h=>by
  obtain⟨⟨old,he⟩,_⟩:=st
  exact wpAny_pyIter_enum he h
section
variable {X:Cx} {tg:Expr}
def S8 (ta:TA):TI:=fun σ H R=>ta σ H fun vs H1=>∃a xs,vs=[.ref a]∧H1 a=some (.lst xs)∧R (SE a) H1
theorem OW {elts:List Expr} {k:Nat} {tp:Pos} {a:Expr} {ta:TA} {p pos:Pos} (hg:Gl X "enumerate") (hm:X.mg "enumerate"=none) (ha:PA X [a] ta) (hs:starEach [a] X.env=[(false,eval a X.env)]:=by rfl):PI X (.Tuple elts k tp) (.Call (.Name "enumerate" p) [a] [] pos) (S8 ta):=by
 intro pins s σ H R I h
 refine Call_ (Cu I hg hm boot_enumerate (PyProof.Rows.callWith_type1 (AS (ha pos pins s σ H _ I h) fun us s1 ⟨vs,H1,I1,r1,q1⟩=>?_) hs rfl))
 obtain⟨l,xs,e,hq,q⟩:=q1
 subst e
 cases r1 with
 | cons r rr=>
  cases rr
  cases r
  obtain⟨its,rv,pl,hz⟩:=I1.list (SqL.of hq)
  refine call_enumerate_list pl.isList fun h' he hit hsz hk=>wpAny_pyIter_enum he ?_
  have I2:Inv X pins σ H1 { s1 with heap:=h' }:=I1.kept (t':=s1.toks) hk
  have fp2:∀b∈[s1.heap.objs.size+1,s1.heap.objs.size],B3 X pins H1 b:=fun b hb=>by
   have hle:s1.heap.objs.size≤b:=by
    rcases List.mem_cons.mp hb with q | q
    ·omega
    ·have:b=s1.heap.objs.size:=by simpa using q
     omega
   exact I1.fpOk hle (I1.hok.fresh hle)
  exact⟨_,_,_,_,H1,rfl,I2,LM l (s1.heap.objs.size+1) s1.heap.objs.size (Nat.succ_ne_self _),⟨⟨_,he⟩,hit⟩,fp2,q⟩
end
end L2
namespace L2
open PySem PySem.Spec PyProof.Rows
structure Stp (fr ch:List Addr) (h h':Heap):Prop where
 keep:∀b o,b∉fr→b∉ch→h.get? b=some o→h'.get? b=some o
 slot:∀b o,b∉ch→h.get? b=some o→∃sl,h'.get? b=some { o with slots:=sl }
theorem Stp.more {fr ch ch':List Addr} {h h':Heap} (x:Stp fr ch h h') (m:∀b∈ch,b∈ch'):Stp fr ch' h h':=
 ⟨fun b o hb hc=>x.keep b o hb fun z=>hc (m b z),fun b o hc=>x.slot b o fun z=>hc (m b z)⟩
theorem Stp.trans {fr ch:List Addr} {h h1 h2:Heap} (x:Stp fr ch h h1) (y:Stp fr ch h1 h2):Stp fr ch h h2:=
 ⟨fun b o hb hc e=>y.keep b o hb hc (x.keep b o hb hc e),fun b o hc e=>let ⟨_,e1⟩:=x.slot b o hc e;let ⟨sl,e2⟩:=y.slot b _ hc e1;⟨sl,e2⟩⟩
theorem Stp.hok {P:Program} {w:World} {fr ch:List Addr} {h h':Heap} {H:Hp} (x:Stp fr ch h h') (ok:HOk P w H h) (hf:∀b∈fr,H b=none) (hc:∀b∈ch,H b=none):HOk P w H h':=fun b u e=>by
 have nf:∀c v,H c=some v→c∉fr∧c∉ch:=fun c v q=>⟨(fun z=>nomatch (hf c z).symm.trans q),(fun z=>nomatch (hc c z).symm.trans q)⟩
 refine (ok b u e).stay (fun c v hb q=>?_) (fun _ q=>q) fun _ _ q=>q
 rcases hb with z | z
 ·subst z;exact x.keep c v (nf c u e).1 (nf c u e).2 q
 ·exact x.keep c v (nf c _ z).1 (nf c _ z).2 q
def QC (h:Heap) (e:Addr) (cls:Value) (dx:Option Addr) (T:Addr) (fl:Value):Prop:=
 ∃vs sl oT ts,h.get? e=some ⟨cls,dx,.fields vs,sl⟩∧vs[1]? = some (.ref T)∧T≠e∧h.get? T=some oT∧oT.data= .fields ts∧ts[3]? = some fl
section
variable {M:Model} {A:Around} {E:Value→Shared→Prop} {s:Shared} {base:Heap} {env:Env} {outer:List Env} {L e:Addr} {cls:Value} {dx:Option Addr} {vs:Array Value} {sl:Array (Option Value)} {Q:Unit→Shared→Prop}
theorem Kx {head:Value} {hadNext:Bool} (hfr:A.frames=some (env::outer)) (hl:s.heap.FunFrames base (env::outer)) (hf:env.frame=some L)
  (he:s.heap.get? e=some ⟨cls,dx,.fields vs,sl⟩) (hsz:1<vs.size) (k:∀h' T,s.heap.objs.size≤T→Stp (Hm (env::outer)) [e] s.heap h'→QC h' e cls dx T (rawInt L)→Q () { s with heap:=h' }) :
  wpAny M A (do let a ←frameOf env;let pl ←entryPlaceOf L hadNext;let b ←EntryCells.newEntry head a .none (rawInt L) .none pl;setField (.ref e) 1 b) Q E s:=by
 have nfr:e∉Hm (env::outer):=fun z=>by
  obtain⟨_,o,ho,nd⟩:=hl.mem z
  rw[he] at ho;cases ho
  exact nd vs rfl
 refine wpAny_bind (wpAny_frameOf_fun hfr hl hf fun h1 so=>wpAny_bind (wpAny_entryPlaceOf fun pl hpl=>?_))
 obtain⟨_,so1,so2⟩:=so
 unfold EntryCells.newEntry newFields
 refine wpAny_bind (wpAny_newObj_type ?_ (hpl.sizeOk5 _ _ _ _ _))
 have e1:h1.get? e=some ⟨cls,dx,.fields vs,sl⟩:=(so1 e nfr).trans he
 have e2:=Heap.get?_push_of_some (h:=h1) { cls:=.type "traceback",dict:=none,data:=.fields ([head,.ref L,.none,rawInt L,.none]++(if pl.isEmpty then List.replicate 6 Value.none else pl)).toArray } e1
 refine wpAny_setField e2 rfl hsz (k _ h1.objs.size (by omega) ?_ ?_)
 ·have other:∀b o,b∉[e]→h1.get? b=some o→∀(ob:Obj) (f:Obj→Obj),((h1.push ob).update e f).get? b=some o:=fun b o hb q ob f=>
   (Heap.get?_update_other _ _ (Ne.symm (List.ne_of_not_mem_cons hb))).trans (Heap.get?_push_of_some _ q)
  refine⟨fun b o hb hc q=>other b o hc ((so1 b hb).trans q) _ _,fun b o hc q=>?_⟩
  obtain⟨sl',z⟩:=so2 b o q
  exact⟨sl',other b _ hc z _ _⟩
 ·have ne:h1.objs.size≠e:=Nat.ne_of_gt (Heap.lt_size e1)
  refine⟨_,sl,_,_,Heap.get?_update_self _ e2 rfl,?_,ne,(Heap.get?_update_other _ _ (Ne.symm ne)).trans (Heap.get?_push_size h1 rfl),rfl,?_⟩
  ·simp[hsz]
  ·rcases hpl with rfl | ⟨_,_,_,_,_,_,_,rfl⟩<;>simp
theorem OS (hfr:A.frames=some (env::outer)) (hl:s.heap.FunFrames base (env::outer)) (hf:env.frame=some L) (he:s.heap.get? e=some ⟨cls,dx,.fields vs,sl⟩) (h1:vs[1]? = some .none)
  (k:∀h' T,s.heap.objs.size≤T→Stp (Hm (env::outer)) [e] s.heap h'→QC h' e cls dx T (rawInt L)→Q () { s with heap:=h' }):wpAny M A (noteFrame (.ref e) env) Q E s:=by
 unfold noteFrame
 simp only[hf]
 refine wpAny_bind (wpAny_field he rfl h1 ?_)
 rw[if_neg (by decide)]
 exact Kx hfr hl hf he (Array.getElem?_eq_some_iff.mp h1).1 k
theorem Ms {T:Addr} {fl fl':Value} (hF:QC s.heap e cls dx T fl):Stp [] [T] s.heap (s.heap.update T (Obj.mapFields (·.setIfInBounds 3 fl')))∧QC (s.heap.update T (Obj.mapFields (·.setIfInBounds 3 fl'))) e cls dx T fl':=by
 obtain⟨ws,sl,oT,ts,he,h1,ne,hT,hd,h3⟩:=hF
 have other:∀b o,b∉[T]→s.heap.get? b=some o→(s.heap.update T (Obj.mapFields (·.setIfInBounds 3 fl'))).get? b=some o:=fun b o hb q=>(Heap.get?_update_other _ _ (Ne.symm (List.ne_of_not_mem_cons hb))).trans q
 refine⟨⟨fun b o _ hc q=>other b o hc q,fun b o hc q=>⟨_,other b o hc q⟩⟩,ws,sl,_,_,other e _ (by simpa using Ne.symm ne) he,h1,ne,Heap.get?_update_self _ hT (Obj.isFreed_of_fields (Obj.data_mapFields hd _)),Obj.data_mapFields hd _,?_⟩
 simp[(Array.getElem?_eq_some_iff.mp h3).1]
theorem Qy {T:Addr} (hfr:A.frames=some (env::outer)) (hl:s.heap.FunFrames base (env::outer)) (hf:env.frame=some L) (hF:QC s.heap e cls dx T .none)
  (k:∀h' T',s.heap.objs.size≤T'→Stp (Hm (env::outer)) [e,T] s.heap h'→QC h' e cls dx T' (rawInt L)→Q () { s with heap:=h' }):wpAny M A (noteFrame (.ref e) env) Q E s:=by
 obtain⟨S,F2⟩:=Ms (fl':=.none) hF
 obtain⟨ws,sl,oT,ts,he,h1,ne,hT,hd,h3⟩:=hF
 unfold noteFrame
 simp only[hf]
 refine wpAny_bind (wpAny_field he rfl h1 ?_)
 rw[if_pos (show (Value.ref T != Value.none)=true by simp)]
 refine wpAny_bind (wpAny_field hT hd h3 ?_)
 rw[if_neg (show ¬((Value.none == rawInt L)=true) by simp[rawInt])]
 refine wpAny_bind (wpAny_setField hT hd (Array.getElem?_eq_some_iff.mp h3).1 ?_)
 obtain⟨ws',sl',_,_,he',h1',_⟩:=F2
 refine Kx hfr (hl.of_keeps fun b o q nd=>?_) hf he' (Array.getElem?_eq_some_iff.mp h1').1 fun h' T' hle S' F'=>k h' T' (by simpa using hle) ?_ F'
 ·obtain⟨sl2,z⟩:=S.slot b o (fun z=>by
   have z':b=T:=by simpa using z
   subst z'
   rw[hT] at q;cases q
   exact nd ts hd) q
  exact⟨_,z,rfl⟩
 ·refine Stp.trans (h1:=s.heap.update T (Obj.mapFields (·.setIfInBounds 3 Value.none))) ⟨fun b o _ hc q=>S.keep b o (by simp) (fun z=>hc (List.mem_cons_of_mem _ z)) q,fun b o hc q=>S.slot b o (fun z=>hc (List.mem_cons_of_mem _ z)) q⟩ (S'.more fun b hb=>?_)
  rw[List.mem_singleton.mp hb]
  exact List.mem_cons_self
theorem To {T:Addr} {fl:Value} (hF:QC s.heap e cls dx T fl) (k:∀h',Stp [] [T] s.heap h'→QC h' e cls dx T .none→Q () { s with heap:=h' }):wpAny M A (setFlight (.ref e) none) Q E s:=by
 obtain⟨S,F2⟩:=Ms (fl':=.none) hF
 obtain⟨ws,sl,oT,ts,he,h1,ne,hT,hd,h3⟩:=hF
 unfold setFlight
 refine wpAny_bind (wpAny_field he rfl h1 ?_)
 rw[if_pos (show (Value.ref T != Value.none)=true by simp)]
 exact wpAny_setField hT hd (Array.getElem?_eq_some_iff.mp h3).1 (k _ S F2)
end
end L2
namespace L2
open PySem PySem.Spec PyProof.Rows
def HZ:List Value:=[.type "ValueError",.type "Exception",.type "BaseException",.type "object"]
structure R6 (K:PySem.W.Frag) (C cT:Addr) (ini:Option Addr):Prop where
 cls:∃nm q N bs hdct sn sub ab col dd k0 k1 k2 k3 k5,K.lookup C=some (excClassObj nm q C N bs (.ref cT::HZ) hdct sn sub ab col dd k0 k1 k2 k3 k5 "ValueError.__new__")∧PySem.W.nsOkIn K N=true∧
  PySem.W.nsIn K N "__init__"=some (ini.map Value.ref)
 tail:PySem.W.tailIn K HZ (.ref cT::HZ)=true
 kp:PySem.W.keepIn K (.ref C)=true
theorem Mp {K:PySem.W.Frag} {N:Addr} {oc:Value} {od:Option Addr} {es:Array DictEntry} {ep:Nat} {sl:Array (Option Value)} (l:K.lookup N=some ⟨oc,od,.dict es ep,sl⟩)
  (s:(es.all fun e=>match e.key with | .str _ _=>true | _=>false)=true):PySem.W.nsOkIn K N=true:=by
 unfold PySem.W.nsOkIn
 rw[l]
 exact s
theorem P3 {K:PySem.W.Frag} {cT:Addr} {c0:Value} {d0:Option Addr} {cd:ClassData} {sl:Array (Option Value)} (l:K.lookup cT=some ⟨c0,d0,.cls cd,sl⟩) (o:PySem.W.nsOkIn K cd.ns=true) (n:PySem.W.nsIn K cd.ns "__init__"=some none) :
  PySem.W.tailIn K HZ (.ref cT::HZ)=true:=by
 have t0:PySem.W.tailIn K HZ HZ=true:=by
  unfold PySem.W.tailIn HZ
  simp
 unfold PySem.W.tailIn
 refine Bool.or_eq_true_iff.mpr (.inr ?_)
 simp only[l,o,n,t0]
 rfl
section
variable {prog:Program} {w:World} {A:Around} {E:Value→Shared→Prop} {h:Heap} {g:Array GenState} {d:Drawn} {t:Nat} {os:OsState}
variable {nm q:Str} {C N:Addr} {bs bm:List Value} {hdct:Bool} {sn:List Str} {sub:List Value} {ab:Bool} {col:Option Bool} {dd:Option Addr} {k0 k1 k2 k3 k5:Option Value}
abbrev Ma (C t:Addr) (dx:Option Addr):Obj:=⟨.ref C,dx,.fields #[.ref t,.none,.none,.none,.bool false,.none],#[]⟩
end
end L2
namespace L2
open PySem PySem.Spec PyProof.Rows
structure XAt (K:PySem.W.Frag) (C cT:Addr):Prop where
 cd:∃cd,PySem.W.clsIn K C=some cd∧cd.mro= .ref C::.ref cT::HZ∧cd.hasDict=true
 sa:PySem.W.findIn K (.ref C) "__setattr__"=some (some (.builtin "object.__setattr__"))
 ga:PySem.W.findIn K (.ref C) "__getattribute__"=some (some (.builtin "BaseException.__getattribute__"))
 gn:PySem.W.findIn K (.ref C) "__getattr__"=some none
 ca:PySem.W.findIn K (.ref C) "__class__"=some (some (.builtin "object.__class__"))
 cg:PySem.W.specialIn K (.builtin "object.__class__") "__get__"=some (some (.builtin "getset_descriptor.__get__"))
 ct:PySem.W.takesIn K (.builtin "object.__class__")=some true
section
variable {prog:Program} {w:World} {A:Around} {E:Value→Shared→Prop} {s:Shared} {K:PySem.W.Frag} {C cT x t:Addr} {f:Str} {u:Value}
theorem XAt.sub {M:Model} {h:Heap} (a:XAt K C cT) (X:K.In h) (b:Value) {r:Bool} (e:(Value.ref C::.ref cT::HZ).contains b=r):PySem.W.Looks M h (isSubtype (.ref C) b) r:=by
 obtain⟨cd,h1,h2,_⟩:=a.cd
 refine PySem.W.looks_mroIn X ?_
 unfold PySem.W.mroIn
 rw[h1,Option.bind_some,h2,if_neg (by simp),e]
end
end L2
namespace L2
open PySem PySem.Spec PyProof.Rows
open Builtin Builtin.ObjectAttr
section
variable {prog:Program} {w:World} {A:Around} {E:Value→Shared→Prop} {s:Shared} {K:PySem.W.Frag} {C cT x:Addr} {ox:Obj} {od:Option Obj} {name:Str} {tk:Tok} {fill expr:Bool} {v:Value}
end
end L2
namespace L2
open PySem PySem.Spec PyProof.Rows
def EG (P:Program) (w:World):Mr:=fun outer H s E e s'=>∃(a T:Addr) (cls:Value) (dx:Option Addr) (H':Hp),e= .ref a∧s'.os=s.os∧AllBare s'.gens∧Un (Hm outer) [] H H' s.heap s'.heap∧HOk P w H' s'.heap∧
 QC s'.heap a cls dx T .none∧H' a=none∧H' T=none∧s.heap.objs.size≤a∧s.heap.objs.size≤T∧E cls dx H'
theorem Un.stp {fs fr ch:List Addr} {H0 H:Hp} {h0 h h':Heap} (u:Un fs [] H0 H h0 h) (S:Stp fr ch h h') (hfr:∀b∈fr,b∈fs∨h0.objs.size≤b) (hch:∀b∈ch,h0.objs.size≤b):Un fs [] H0 H h0 h':=by
 have nc:∀b o,h0.get? b=some o→b∉ch:=fun b o e z=>absurd (Heap.lt_size e) (Nat.not_lt.mpr (hch b z))
 refine⟨fun b o e n hb hx=>S.keep b o (fun z=>?_) (nc b o e) (u.keep b o e n hb hx),fun b o e n hb hx=>?_,u.free,fun b o e hx=>?_,u.tups,u.frzs,u.tbls⟩
 ·rcases hfr b z with q | q
  ·exact hb q
  ·exact absurd (Heap.lt_size e) (Nat.not_lt.mpr q)
 ·obtain⟨sl,e1⟩:=u.slot b o e n hb hx
  obtain⟨sl2,e2⟩:=S.slot b _ (nc b o e) e1
  exact⟨sl2,e2⟩
 ·obtain⟨o1,e1⟩:=u.there b o e hx
  obtain⟨sl2,e2⟩:=S.slot b _ (nc b o e) e1
  exact⟨_,e2⟩
section
variable {P:Program} {w:World} {K:PySem.W.Frag} {mg:Str→Option Value} {base:Heap} {N:List Str} {qual:Str} {scope:Scope} {f:Addr} {cdv:Value} {A:Around} {outer:List Env} {s:Shared} {H:Hp} {E:XK}
def Ty (X:Cx) (E:XK):Prop:=∀(pins:List (Addr×Obj)) (σ:St) (H':Hp) (s':Shared) (a:Addr) (cls:Value) (dx:Option Addr) (vs:Array Value) (sl:Array (Option Value)),Inv X pins σ H' s'→H' a=none→
 s'.heap.get? a=some ⟨cls,dx,.fields vs,sl⟩→vs[1]? = some .none→X.s₀.heap.objs.size≤a→E cls dx H'→X.xe (.ref a) s'
theorem DK:Ty (Jq (EG P w) P w K mg base N qual scope f cdv A outer s H E) E:=by
 intro pins σ H' s' a cls dx vs sl I ha he h1 hsz q
 have hfr:=I.ok.frames
 have hl:=I.stack
 have lt:s.heap.objs.size≤s'.heap.objs.size:=I.sz
 have fr2:∀b∈Hm (envOfC qual scope s.heap.objs.size f cdv::outer),b∈Hm outer∨s.heap.objs.size≤b:=fun b hb=>by
  rcases List.mem_cons.mp (I.stkSub b hb) with z | z
  ·exact .inr (by rw[z];exact I.ok.above)
  ·exact .inl z
 show wpAny _ _ (leaving _ _) _ _ _
 unfold leaving
 refine wpAny_bind (OS hfr hl rfl he h1 fun h2 T hT S F=>To F fun h3 S3 F3=>?_)
 have u2:=Un.stp I.base S fr2 (fun b hb=>by rw[List.mem_singleton.mp hb];exact hsz)
 have u3:=Un.stp u2 S3 (fun b hb=>absurd hb (by simp)) (fun b hb=>by rw[List.mem_singleton.mp hb];exact Nat.le_trans lt hT)
 have hTn:H' T=none:=I.hok.fresh hT
 refine⟨a,T,cls,dx,H',rfl,I.os,I.bare,u3,?_,F3,ha,hTn,hsz,Nat.le_trans lt hT,q⟩
 exact S3.hok (S.hok I.hok I.stkFree fun b hb=>by rw[List.mem_singleton.mp hb];exact ha) (fun b hb=>absurd hb (by simp)) fun b hb=>by rw[List.mem_singleton.mp hb];exact hTn
theorem Cl {E1:XK} (le:∀cls dx H',E1 cls dx H'→E cls dx H'):Dv (EG P w) (Jq (EG P w) P w K mg base N qual scope f cdv A outer s H E) E1:=by
 intro pins σ H1 s1 e s' I h
 obtain⟨a,T,cls,dx,H',rfl,os,bare,un,hok,F,ha,hT,la,lT,q⟩:=h
 have I2:=I.call' os un hok bare (fun b z=>absurd z (by simp))
 have lt:s.heap.objs.size≤s1.heap.objs.size:=I.sz
 have fr2:∀b∈Hm (envOfC qual scope s.heap.objs.size f cdv::outer),b∈Hm outer∨s.heap.objs.size≤b:=fun b hb=>by
  rcases List.mem_cons.mp (I2.stkSub b hb) with z | z
  ·exact .inr (by rw[z];exact I2.ok.above)
  ·exact .inl z
 show wpAny _ _ (leaving _ _) _ _ _
 unfold leaving
 refine wpAny_bind (Qy I2.ok.frames I2.stack rfl F fun h2 T2 hT2 S F2=>To F2 fun h3 S3 F3=>?_)
 have l2:s.heap.objs.size≤T2:=Nat.le_trans I2.sz hT2
 have two:∀b∈[a,T],s.heap.objs.size≤b∧H' b=none:=fun b hb=>by
  rcases List.mem_cons.mp hb with z | z
  ·rw[z];exact⟨Nat.le_trans lt la,ha⟩
  ·rw[List.mem_singleton.mp z];exact⟨Nat.le_trans lt lT,hT⟩
 have u2:=Un.stp I2.base S fr2 (fun b hb=>(two b hb).1)
 have u3:=Un.stp u2 S3 (fun b hb=>absurd hb (by simp)) (fun b hb=>by rw[List.mem_singleton.mp hb];exact l2)
 have hTn:H' T2=none:=I2.hok.fresh hT2
 refine⟨a,T2,cls,dx,H',rfl,I2.os,I2.bare,u3,?_,F3,ha,hTn,Nat.le_trans lt la,l2,le _ _ _ q⟩
 exact S3.hok (S.hok I2.hok I2.stkFree fun b hb=>(two b hb).2) (fun b hb=>absurd hb (by simp)) fun b hb=>by rw[List.mem_singleton.mp hb];exact hTn
end
end L2
namespace L2
open PySem PySem.Spec PyProof.Rows
section
variable {X:Cx} {k:Nat} {fI C cT:Addr} {fd:FuncData} {ps:List Str} {sp:Sp} {Ex:XK} {x:Str} {p pos cpos:Pos} {e:Expr} {es:List Expr} {t:TA}
theorem LK {A:Around} {E:Value→Shared→Prop} {s:Shared} {env:Env} {M:Model} {K:PySem.W.Frag} {xs:Sem Value} {Q:Flow→Shared→Prop} (a:XAt K C cT) (ty:PySem.W.typeIn K (.ref C)=some (.type "type")) (hh:A.handled=none)
  (h:wpAny M A xs (fun v s1=>∃b tp dx,v= .ref b∧K.In s1.heap∧s1.heap.get? b=some (Ma C tp dx)∧E (.ref b) s1) E s):wpAny M A (raiseStmt env (some xs) none) Q E s:=by
 unfold raiseStmt
 refine wpAny_bind (wpAny_mono h (fun v s1 h1=>?_) fun _ _ z=>z)
 obtain⟨b,tp,dx,rfl,KX,hb,q⟩:=h1
 have hb1:s1.heap.get? b=some ⟨.ref C,dx,.fields #[.ref tp,.none,.none,.none,.bool false,.none],#[]⟩:=hb
 have T0:PySem.W.Looks M s1.heap (typeOf (.ref b)) (.ref C):=(PySem.W.Looks.ld hb1).andThen .now
 have T1:PySem.W.Looks M s1.heap (isType (.ref b)) false:=by
  unfold isType loadHead
  exact (PySem.W.Looks.ld hb1).andThen .now
 have T2:PySem.W.Looks M s1.heap (isExcClass (.ref b)) false:=by
  unfold isExcClass
  exact T1.andThen .now
 have T3:PySem.W.Looks M s1.heap (isInstance (.ref b) (.type "BaseException")) true:=T0.andThen (a.sub KX _ rfl)
 have T4:PySem.W.Looks M s1.heap (excFromValue (.ref b) "exceptions must derive from BaseException") (.ref b):=by
  unfold excFromValue
  exact T2.andThen (T3.andThen .now)
 have T5:PySem.W.Looks M s1.heap (raisedInstance (.ref b)) (.ref b):=by
  unfold raisedInstance
  exact T0.andThen ((PySem.W.looks_typeIn KX ty).andThen .now)
 refine wpAny_bind (wpAny_pure (wpAny_bind (wpAny_holding (T4.here ?_))))
 refine wpAny_bind (T1.here ?_)
 refine wpAny_bind (T5.here ?_)
 refine wpAny_bind ?_
 unfold setFlight
 refine wpAny_bind (wpAny_field hb1 rfl (x:=.none) rfl ?_)
 rw[if_neg (by decide)]
 exact wpAny_pure (wpAny_raiseNew_none hh q)
end
end L2
namespace L2
open PySem PySem.Spec PyProof.Rows
section
variable {X:Cx} {C cT:Addr} {o value:Expr} {ta tv:TE} {f:Str} {pos pos':Pos}
end
end L2
namespace L2
open PySem PySem.Spec PyProof.Rows
section
variable {X:Cx} {pins:List (Addr×Obj)} {σ:St} {H:Hp} {s:Shared} {a:Addr} {oe:Obj}
end
end L2
namespace L2
open PySem PySem.Spec PyProof.Rows
section
variable {X:Cx} {pins:List (Addr×Obj)} {σ:St} {H:Hp} {s:Shared}
end
section
variable {X:Cx} {C Dc:Addr} {i:Nat} {x n:Str} {np hpos pos:Pos} {body suite:List Stmt} {b0:Stmt} {tb:XK→TS} {th:Addr→Obj→TS}
end
end L2
namespace L2
open PySem PySem.Spec PyProof.Rows
section
variable {X:Cx} {C cT:Addr} {e:Expr} {f:Str} {pos:Pos} {ta:TE}
end
end L2
namespace L2
open PySem PySem.Spec PyProof.Rows
theorem JS {K:PySem.W.Frag} {C:Addr} {T:String} {b:Bool} (hm:PySem.W.kitMeta T=true) (h:PySem.W.subIn K (.ref C) (.type T)=some b):PySem.W.kitOne K (.ref C) (.type T)=some b:=by
 unfold PySem.W.kitOne
 rw[if_neg (show ¬((Value.ref C == Value.type T)=true) by intro z;cases beq_iff_eq.mp z)]
 show (if PySem.W.kitMeta T=true then _ else _)=_
 rw[if_pos hm,h]
theorem B1 {K:PySem.W.Frag} {C D:Addr} {b:Bool} (ne:(Value.ref C == Value.ref D)=false) (hc:(PySem.W.clsIn K D).isSome=true) (ht:PySem.W.typeIn K (.ref D)=some (.type "type")) (h:PySem.W.subIn K (.ref C) (.ref D)=some b):PySem.W.kitOne K (.ref C) (.ref D)=some b:=by
 unfold PySem.W.kitOne
 rw[ne,if_neg Bool.false_ne_true]
 show (if ((PySem.W.clsIn K D).isSome && PySem.W.typeIn K (.ref D) == some (.type "type"))=true then _ else _)=_
 rw[hc,ht,if_pos (by simp),h]
end L2
namespace L2
open PySem PySem.Spec PyProof.Rows
theorem Rn {K:PySem.W.Frag} {h:Heap} {N:Addr} {mg:Str→Option Value} {n:Str} (X:K.In h) (G:h.Ns N mg) (e:PySem.W.nsIn K N n=some none):mg n=none:=by
 obtain⟨o,es,ep,ho,hd,_,hf⟩:=G
 unfold PySem.W.nsIn at e
 split at e
 ·rename_i c d es2 n2 sl q
  have z:=X _ _ q
  rw[ho] at z
  cases z
  cases hd
  split at e
  ·cases e
  ·rename_i he
   rw[←hf]
   unfold nsFind findBy
   rw[←Array.find?_toList,he]
   rfl
 ·cases e
section
variable {prog:Program} {w:World} {A:Around} {E:Value→Shared→Prop} {h:Heap} {g:Array GenState} {d:Drawn} {t:Nat} {os:OsState}
variable {nm q:Str} {C N:Addr} {bs bm:List Value} {hdct:Bool} {sn:List Str} {sub:List Value} {ab:Bool} {col:Option Bool} {dd:Option Addr} {k0 k1 k2 k3 k5:Option Value}
theorem Lm {mN:Str→Option Value} {us:List Value} {Q:Fin→Shared→Prop} {A2:Around} (T:OwnTail h HZ bm)
  (hC:h.get? C=some (excClassObj nm q C N bs bm hdct sn sub ab col dd k0 k1 k2 k3 k5 "ValueError.__new__")) (hn:h.Ns N mN) (hi:mN "__init__"=none) (hu:us.length≤sizeLine)
  (k:∀h',(∀b o,h.get? b=some o→h'.get? b=some o)→h'.get? (h.objs.size+1)=some (Ma C (h.objs.size+2) none)→Q (.done (.ret (.ref (h.objs.size+1)))) ⟨h',g,d,t,os⟩) :
  wpAny (model prog w) A2 (Builtin.«type.__call__» ⟨.ref C::us,[]⟩) Q E ⟨h,g,d,t,os⟩:=by
 have VF:=PySem.F.excBase_ValueError
 repeat (first | with_reducible refine wpAny_madeBy_exc hC ?_ | with_reducible refine wpAny_loadPart_at hC ?_ | wp_step)
 refine codeAny_call_builtin_code (Code.quiet_builtin _ VF.quiet) (wpAny_check_new_subT VF T hC (codeAny_exc_new_subT VF T hC ?_ hu))
 show wpAny _ _ _ _ _ _
 have kk:∀b o,h.get? b=some o→((h.push { cls:=.type "tuple",data:=.seq us.toArray }).push { cls:=.ref C,data:=.fields #[.ref h.objs.size,.none,.none,.none,.bool false,.none] }).get? b=some o:=fun b o e=>Heap.get?_push_of_some _ (Heap.get?_push_of_some _ e)
 have hE:((h.push { cls:=.type "tuple",data:=.seq us.toArray }).push { cls:=.ref C,data:=.fields #[.ref h.objs.size,.none,.none,.none,.bool false,.none] }).get? (h.objs.size+1)=some { cls:=.ref C,data:=.fields #[.ref h.objs.size,.none,.none,.none,.bool false,.none] }:=by heap_get
 have hself:(Value.ref C::bm).contains (.ref C)=true:=by simp
 have hC2:=kk _ _ hC
 have T2:=T.keeps kk
 unfold isInstance
 repeat (first | with_reducible refine wpAny_loadPart_at hE ?_ | (with_reducible refine wpAny_isSubtype_exc hC2 ?_;rw[hself]) | wp_step)
 show wpAny _ _ (typeLookup (.ref C) _) _ _ _
 refine wpAny_typeLookup_tail hC2 (hn.keeps kk) T2 VF.mroIs VF.init.lookup ?_
 rw[hi]
 refine wpAny_holding (wpAny_bind (wpAny_of_eq (VF.init.bind _) (wpAny_bind (wpAny_call (codeAny_call_builtin VF.init.plain VF.initEntry (wpAny_check_init_subT VF T2 hC2 hE rfl ?_))))))
 wp_walk
 refine k _ (fun b o hb=>?_) ?_
 ·have lt:=Heap.lt_size hb
  rw[Heap.get?_update_other _ _ (Nat.ne_of_gt (Nat.lt_succ_of_lt lt))]
  exact Heap.get?_push_of_some _ (kk b o hb)
 ·rw[Heap.get?_update_self _ (Heap.get?_push_of_some (h:=_) _ hE) rfl]
  simp only[Heap.size_push]
  rfl
theorem Np {mN:Str→Option Value} {us:List Value} {Q:Value→Shared→Prop} (T:OwnTail h HZ bm)
  (hC:h.get? C=some (excClassObj nm q C N bs bm hdct sn sub ab col dd k0 k1 k2 k3 k5 "ValueError.__new__")) (hn:h.Ns N mN) (hi:mN "__init__"=none) (hu:us.length≤sizeLine)
  (k:∀h',(∀b o,h.get? b=some o→h'.get? b=some o)→h'.get? (h.objs.size+1)=some (Ma C (h.objs.size+2) none)→Q (.ref (h.objs.size+1)) ⟨h',g,d,t,os⟩) :
  wpAny (model prog w) A (call (.ref C) us) Q E ⟨h,g,d,t,os⟩:=by
 have z1:=tc_lookup
 have z2:=tc_bind (.ref C)
 have z3:(⟨h,g,d,t,os⟩:Shared).TypeIs (.ref C) "type":=⟨_,hC,rfl⟩
 refine wpAny_call (codeAny_of_tree ?_)
 show wpAny _ _ (callAny (.ref C) ⟨us,[]⟩) _ _ _
 repeat (any_goals (first | assumption | with_reducible refine wpAny_loadPart_at hC ?_ | wp_step))
 exact⟨rfl,codeAny_call_builtin_at (Code.quiet_builtin _ (by decide +kernel)) entry_typeCall (wpAny_check_type_call_sub hC (Lm T hC hn hi hu k))⟩
end
def QF (C:Addr) (Ex:XK) (t:TA):TS:=fun _ σ H=>t σ H fun _ H1=>Ex (.ref C) none H1
section
variable {X:Cx} {C cT:Addr} {Ex:XK} {x:Str} {p pos cpos:Pos} {e:Expr} {es:List Expr} {t:TA}
theorem Dl (hx:Ty X Ex) (hc:X.calm=true) (M:R6 X.K C cT none) (at_:XAt X.K C cT) (ty:PySem.W.typeIn X.K (.ref C)=some (.type "type")) (hg:Gl X x) (hm:X.mg x=some (.ref C)) (ha:PA X (e::es) t) (hlen:(e::es).length≤1000:=by decide) (hdb:(x == ("__debug__":Str))=false:=by decide)
  (he:starEach (e::es) X.env=(false,eval e X.env)::starEach es X.env:=by rfl) (hpl:(backTo cpos (starEach es X.env)).any (·.1)=false:=by rfl)
  (hvl:∀σ H (Q:List V→Hp→Prop),t σ H Q→t σ H (fun vs H1=>vs.length≤1000∧Q vs H1)) :
  PS X (.Raise (some (.Call (.Name x p) (e::es) [] cpos)) none pos) (QF C Ex t):=by
 intro pins s σ H D I h
 rw[arm_exec_Raise]
 refine wpAny_bind (wpAny_standAt (LK (K:=X.K) at_ ty (I.ok.hd hc) ?_))
 refine wpAny_bind (AS (Q:=fun v s1=>∃b tp dx,v= .ref b∧X.K.In s1.heap∧s1.heap.get? b=some (Ma C tp dx)∧X.xe (.ref b) s1) ?_ fun v s1 q=>wpAny_bind (wpAny_standAt (wpAny_pure q)))
 refine wpAny_Call_Name_kw (GQ I hg hm ?_ hdb)
 refine PySem.W.callWith_K (h₀:=X.base) I.ok.mod.kin M.kp (AS (ha cpos pins s σ H _ I (hvl _ _ _ h)) fun us s1 ⟨vs,H1,I1,r,hl,q⟩=>⟨I1.kIn,?_⟩) he hpl
 show wpAny _ _ (call (.ref C) us) _ _ _
 obtain⟨nm,q0,N,bs,hdct,sn,sub,ab,col,dd,k0,k1,k2,k3,k5,lC,oN,iN⟩:=M.cls
 have KX:=I1.kIn
 have nsN:=Heap.Ns.of_isNs (PySem.W.isNs_of_in KX oN)
 have hul:us.length≤sizeLine:=by rw[←r.length];exact Nat.le_of_lt (AF hl)
 obtain⟨hh,g,d,tk,os⟩:=s1
 refine Np (PySem.W.tail_of_in KX M.tail) (KX _ _ lC) nsN (Rn KX nsN iN) hul fun h' kk e'=>?_
 have I2:Inv X pins σ H1 ⟨h',g,d,tk,os⟩:=I1.kept (t':=tk) kk
 refine⟨_,_,none,rfl,I2.kIn,e',?_⟩
 exact hx pins σ H1 _ _ _ none _ _ I2 (I1.hok.fresh (Nat.le_succ _)) e' rfl (Nat.le_trans I1.sz (Nat.le_succ _)) q
end
section
variable {X:Cx} {Dc:Addr} {i:Nat} {x n:Str} {np hpos pos:Pos} {body suite:List Stmt} {b0:Stmt} {tb:XK→TS} {th:Addr→Obj→TS} {hs:List ExceptHandler} {tr:THs}
end
section
variable {X:Cx} {C cT:Addr}
def TV (K:PySem.W.Frag):R2:=fun x y H Q=>∃(e p:Addr) (xs:List V) (bs:List Bool),x= .ref e∧y= .ref p∧SqL K H e []∧SqL K H p xs∧bs.length=xs.length∧(∀(i:Nat) v b,xs[i]? = some v→bs[i]? = some b→∃a zs,v= .ref a∧SqL K H a zs∧b=zs.isEmpty)∧Q (.bl (bs.any id)) H
theorem SM (hu:X.A.units+9<cLine):Ep X (compareOp .In) (TV X.K):=by
 intro pins s σ H x y v u Q I rx ry h
 obtain⟨e,p,xs,bs,rfl,rfl,he,hp,hl,hx,q⟩:=h
 cases rx
 cases ry
 obtain⟨its,r,pl,hz⟩:=I.list hp
 obtain⟨its0,r0,pl0,hz0⟩:=I.list he
 cases r0
 have lr:=r.length
 have at':∀(i:Nat) (u:Value),its[i]? = some u→∃b,bs[i]? = some b∧SeqAt.EqAt X.A.in1 s u (.ref e) b:=fun i u hi=>by
  have hil:i<its.length:=(List.getElem?_eq_some_iff.mp hi).1
  have hxi:xs[i]? = some xs[i]:=List.getElem?_eq_getElem (by omega)
  have hbi:bs[i]? = some bs[i]:=List.getElem?_eq_getElem (by omega)
  obtain⟨u2,hu2,ru2⟩:=r.get hxi
  rw[hi] at hu2
  cases hu2
  obtain⟨a,zs,ev,hq,eb⟩:=hx i _ _ hxi hbi
  rw[ev] at ru2
  cases ru2
  refine⟨_,hbi,?_⟩
  obtain⟨itz,rz,plz,_⟩:=I.list hq
  rw[eb]
  by_cases hae:a=e
  ·subst hae
   have hz1:itz=[]:=by
    have h1:=plz.isList
    have h2:=pl0.isList
    obtain⟨o1,g1,_,n1,d1⟩:=h1
    obtain⟨o2,g2,_,n2,d2⟩:=h2
    rw[g1] at g2
    cases g2
    rw[d1] at d2
    cases itz with
    | nil=>rfl
    | cons c r=>cases d2
   subst hz1
   cases rz
   exact SeqAt.EqAt.same _
  ·refine SeqAt.EqAt.of_refs hae ?_
   cases rz with
   | nil=>exact SeqAt.RcAt.lists (e:=fun _=>true) plz.isList pl0.isList rfl (by show X.A.units+1<cLine;omega) (fun j h1=>absurd h1 (Nat.not_lt_zero _))
   | cons r1 r2=>exact SeqAt.RcAt.lists_lengths plz.isList pl0.isList (by simp) (by show X.A.units+1<cLine;omega)
 let f:Value→Bool:=fun u=>(List.range its.length).any fun i=>its[i]? == some u && bs[i]? == some true
 have uniq:∀(i j:Nat) (u:Value),its[i]? = some u→its[j]? = some u→bs[i]? = bs[j]? :=fun i j u hi hj=>by
  have hil:i<its.length:=(List.getElem?_eq_some_iff.mp hi).1
  have hjl:j<its.length:=(List.getElem?_eq_some_iff.mp hj).1
  have hxi:xs[i]? = some xs[i]:=List.getElem?_eq_getElem (by omega)
  have hbi:bs[i]? = some bs[i]:=List.getElem?_eq_getElem (by omega)
  have hxj:xs[j]? = some xs[j]:=List.getElem?_eq_getElem (by omega)
  have hbj:bs[j]? = some bs[j]:=List.getElem?_eq_getElem (by omega)
  obtain⟨u2,hu2,ru2⟩:=r.get hxi
  obtain⟨u3,hu3,ru3⟩:=r.get hxj
  rw[hi] at hu2
  cases hu2
  rw[hj] at hu3
  cases hu3
  obtain⟨a,zs,ev,hq,eb⟩:=hx i _ _ hxi hbi
  obtain⟨a2,zs2,ev2,hq2,eb2⟩:=hx j _ _ hxj hbj
  rw[ev] at ru2
  rw[ev2] at ru3
  cases ru2
  have ea:a=a2:=Value.ref.inj (show Value.ref a=Value.ref a2 from ru3)
  subst ea
  rw[hbi,hbj,eb,eb2]
  obtain⟨it1,rz1,p1,_⟩:=I.list hq
  obtain⟨it2,rz2,p2,_⟩:=I.list hq2
  obtain⟨o1,g1,_,n1,d1⟩:=p1.isList
  obtain⟨o2,g2,_,n2,d2⟩:=p2.isList
  rw[g1] at g2
  cases g2
  rw[d1] at d2
  have eit:it1.toArray=it2.toArray:=by cases d2;rfl
  have eit':it1=it2:=by simpa using eit
  have l1:=rz1.length
  have l2:=rz2.length
  rw[eit'] at l1
  cases zs with
  | nil=>cases zs2 with
   | nil=>rfl
   | cons c d=>simp at l1 l2;omega
  | cons c d=>cases zs2 with
   | nil=>simp at l1 l2;omega
   | cons c2 d2=>rfl
 have ff:∀(i:Nat) (u:Value) (b:Bool),its[i]? = some u→bs[i]? = some b→f u=b:=fun i u b hi hb=>by
  have hil:i<its.length:=(List.getElem?_eq_some_iff.mp hi).1
  cases b with
  | true=>exact List.any_eq_true.mpr ⟨i,List.mem_range.mpr hil,by rw[hi,hb];simp⟩
  | false=>
   refine List.any_eq_false.mpr fun j hj z=>?_
   rw[Bool.and_eq_true] at z
   have z1:its[j]? = some u:=eq_of_beq z.1
   have z2:bs[j]? = some true:=eq_of_beq z.2
   have:=uniq i j u hi z1
   rw[hb,z2] at this
   cases this
 refine SeqAt.in_listAt f pl.isList (fun u hu=>?_) ⟨.bl _,H,I,rfl,?_⟩
 ·have hu':u∈its:=by simpa using hu
  obtain⟨i,hi⟩:=List.getElem?_of_mem hu'
  obtain⟨b,hb,eq⟩:=at' i u hi
  rw[ff i u b hi hb]
  first | exact eq | exact eq.of_in1
 ·have ea:its.toArray.any f=bs.any id:=by
   rw[show its.toArray.any f=its.any f by simp,Bool.eq_iff_iff,List.any_eq_true,List.any_eq_true]
   constructor
   ·rintro⟨u,hu,hf⟩
    obtain⟨i,hi⟩:=List.getElem?_of_mem hu
    obtain⟨b,hb,_⟩:=at' i u hi
    rw[ff i u b hi hb] at hf
    exact⟨b,List.mem_of_getElem? hb,hf⟩
   ·rintro⟨b,hb,hf⟩
    obtain⟨i,hi⟩:=List.getElem?_of_mem hb
    have hil:i<bs.length:=(List.getElem?_eq_some_iff.mp hi).1
    have hii:its[i]? = some its[i]:=List.getElem?_eq_getElem (by omega)
    exact⟨its[i],List.mem_of_getElem? hii,by rw[ff i _ b hii hi];exact hf⟩
  rw[ea]
  exact q
end
end L2
namespace L2
open PySem PySem.Spec PyProof.Rows
section
variable {X:Cx} {N:List Str} {scope:Scope} {cl:List (Str×Addr)} {js:List (Option Nat)} {elt tg iter:Expr} {ifs:List Expr} {rest:List Comprehension} {pos spos ypos:Pos} {wi:TI} {g:CC→TG} {tb:CC→Addr→TS} {i:Nat} {y:Str}
theorem Pt {WB:CC→Value→Qx} (hxe:X.xe=Eu) (hc:X.calm=true) (hi:PI X tg iter wi) (hs:∀x,foldedSetIterable iter X.env x=pure x) (hclos:closureFor scope X.env=pure cl) (hk:scope.kind= .function)
  (hnames:∀x∈scope.names,x.2= .local→scope.names.lookup x.1=some .local) (hcell:∀x∈scope.names,x.2≠.cell)
  (hcl:∀p∈cl,X.env.cells.lookup p.1=some p.2) (hcn:∀x,((relabel scope X.env).names.lookup x=some .cell∨(relabel scope X.env).names.lookup x=some .free)→∃c,cl.lookup x=some c)
  (hsh:FV X N scope js) (hl:js.length=N.length)
  (ht:∀c it ac,HT (X.cmp N scope cl c) (.ListComp elt (⟨tg,iter,ifs,0⟩::rest) scope pos) 0 it ac tg (WB c ac))
  (hg:∀c,PG (X.cmp N scope cl c) tg (g c)) (hb:∀c ac,PB (X.cmp N scope cl c) (WB c (.ref ac)) (tb c ac))
  (hN:X.N.Nodup) (hy:X.N[i]? = some y) (hyl:Tc X.env.scope y) (hsw:swapsWith (.ListComp elt (⟨tg,iter,ifs,0⟩::rest) scope pos) (some (.Name y ypos)) spos.line X.env=pure true)
  (hf:X.fn y=true∨X.env.scope.names.lookup y=some .local) :
  PS X (.Assign [.Name y ypos] (.ListComp elt (⟨tg,iter,ifs,0⟩::rest) scope pos) spos) (QK (Hs wi js g tb) (Dd i)):=by
 intro pins s σ H D I h
 rw[exec_Assign_Name_used _ _ _ _ hsw]
 refine wpAny_bind (wpAny_standAt (wpAny_bind ?_))
 rw[arm_evalThenUse_ListComp]
 have h0:=hi pins s σ H _ I h
 refine wpAny_bind (wpAny_mono (wpAny_comprehension_free (use:=some (assign (.Name y ypos) X.env)) (Q:=fun _ s'=>SP X pins D .next s') (cl:=cl) rfl hs hclos hk hnames (AS h0 fun v s1 h1=>AS h1 fun itv s2 h2=>?_)) (fun _ s' hq=>wpAny_pure (wpAny_pure hq)) fun _ _ z=>z)
 obtain⟨it,fp,tn,J,H2,e,I2,T,st2,f2,hR⟩:=h2
 subst e
 refine wpAny_newObj_type (wpAny_newFunctionEnv hcell (by intro y hy;simp at hy) (fun h₁ hns₁ hsb₁=>?_) hk)
 dsimp only at hns₁ hsb₁ ⊢
 have I3:=I2.lnew (ys:=[]) (its:=[]) (t':=s2.toks) .nil (Nat.zero_le _)
 have fpl:∀b∈fp,b<s2.heap.objs.size:=fun b hb=>by
  obtain⟨o,e,_⟩:=T.obj 0 _ st2 b hb
  exact Heap.lt_size e
 have fpa:∀b∈fp,b≠s2.heap.objs.size:=fun b hb=>Nat.ne_of_lt (fpl b hb)
 have f3:∀b∈fp,B3 X pins (upd H2 s2.heap.objs.size (.lst [])) b:=fun b hb=>⟨by rw[Ax (fpa b hb)];exact (f2 b hb).1,(f2 b hb).2⟩
 have hR':=hR ⟨{ s2 with heap:=s2.heap.push { cls:=.type "list",data:=.seq ([]:List Value).toArray } },upd H2 s2.heap.objs.size (.lst []),fp⟩ s2.heap.objs.size I2.fresh
 have I4:=I3.cmp (N:=N) (cl:=cl) (js:=js) (t':=s2.toks) f3 (fun b hb=>by
  show b<(s2.heap.push _).objs.size
  rw[Heap.size_push]
  exact Nat.lt_succ_of_lt (fpl b hb)) hk hcl hcn hsh hl hns₁ hsb₁
 have st4:tn 0 h₁:=T.keep 0 _ _ st2 fun b hb o e=>(hsb₁.2 b (by
  rw[Heap.size_push]
  exact Nat.ne_of_lt (Nat.lt_succ_of_lt (fpl b hb)))).trans (Heap.get?_push_of_some _ (Heap.get?_push_of_some _ e))
 have f4:∀b∈fp,B3 (X.cmp N scope cl ⟨{ s2 with heap:=s2.heap.push { cls:=.type "list",data:=.seq ([]:List Value).toArray } },upd H2 s2.heap.objs.size (.lst []),fp⟩) [] (upd H2 s2.heap.objs.size (.lst [])) b:=fun b hb=>
  ⟨(f3 b hb).1,(I4.ok.exf b hb).1,I4.ok.exfs b hb,.inl hb,(I4.ok.exf b hb).2,fun p hp=>absurd (show p∈([]:List (Addr×Obj)) from hp) (by simp)⟩
 have lt3:∀b ob,({ s2 with heap:=s2.heap.push { cls:=.type "list",data:=.seq ([]:List Value).toArray } }:Shared).heap.get? b=some ob→b<(s2.heap.push { cls:=.type "list",data:=.seq ([]:List Value).toArray }).objs.size:=fun b ob e=>Heap.lt_size e
 have loop:=codeAny_mono (Ce (X:=X.cmp N scope cl ⟨{ s2 with heap:=s2.heap.push { cls:=.type "list",data:=.seq ([]:List Value).toArray } },upd H2 s2.heap.objs.size (.lst []),fp⟩) (e:=.ListComp elt (⟨tg,iter,ifs,0⟩::rest) scope pos) (d:=0) (acc:=.ref s2.heap.objs.size) (pins:=[]) hxe hc (ht _ _ _) rfl rfl rfl T (hg _) (hb _ _) I4 st4 f4 hR') (R':=compPost (model X.prog X.w) X.A X.xe (some (assign (.Name y ypos) X.env)) (fun _ s'=>SP X pins D .next s') (.ref s2.heap.objs.size) (s2.heap.push { cls:=.type "list",data:=.seq ([]:List Value).toArray }).objs.size) (fun r s' hq=>by
  obtain⟨rfl,σ',H',J',q⟩:=hq
  obtain⟨m,hn,_⟩:=id J'.loc
  have I5:Inv X pins σ H' s':=I3.uncmp f3 J' (Heap.SameBut.refl _ _)
  have nL:(s2.heap.push { cls:=.type "list",data:=.seq ([]:List Value).toArray }).objs.size≠X.env.locals:=Nat.ne_of_gt I3.lt
  have nC:∀x c,X.env.cells.lookup x=some c→c≠(s2.heap.push { cls:=.type "list",data:=.seq ([]:List Value).toArray }).objs.size:=fun x c e=>by
   obtain⟨v,o,ho,_⟩:=I3.cell x c e
   exact Nat.ne_of_lt (lt3 _ _ ho)
  show wpAny _ _ (assign (.Name y ypos) X.env (.ref s2.heap.objs.size)) _ _ _
  refine wpAny_assign_Name (IX I5 hN hy hyl (v:=.ref s2.heap.objs.size) rfl (fun s6 I6 ⟨a,sb,ha⟩=>?_) hf)
  have na:(s2.heap.push { cls:=.type "list",data:=.seq ([]:List Value).toArray }).objs.size≠a:=by
   rcases ha with z | z
   ·rw[z];exact nL
   ·exact Ne.symm (nC _ _ z)
  refine⟨m,hn.sameBut sb na,fun h7 sb7=>?_⟩
  refine⟨_,H',I6.turned (t':=s6.toks) (it:=(s2.heap.push { cls:=.type "list",data:=.seq ([]:List Value).toArray }).objs.size) (fun b ob nb e=>(sb7.2 b nb).trans e) J'.free nL (.inr (Nat.le_trans I3.sz (Nat.le_refl _))) nC (fun p hp=>Nat.ne_of_lt (lt3 _ _ (I3.pin p hp).1)),q⟩)
 exact BS (X:=X.cmp N scope cl ⟨{ s2 with heap:=s2.heap.push { cls:=.type "list",data:=.seq ([]:List Value).toArray } },upd H2 s2.heap.objs.size (.lst []),fp⟩) rfl rfl rfl (fun _=>rfl) True.intro loop (T.self _ 0 _ _ _ st4 loop)
variable {tg1 iter1:Expr} {ifs1:List Expr} {wi1:CC→TI} {g1:CC→TG} {tc tc1:CC→TT} {te:CC→TE}
theorem HL (hN:X.N.Nodup) (hy:X.N[i]? = some y) (hyl:Tc X.env.scope y) (h:CompOk X N scope cl js) (hi:PI X tg iter wi) (hg:∀c,PG (X.cmp N scope cl c) tg (g c)) (hif:∀c,Nb (X.cmp N scope cl c) ifs (tc c)) (he:∀c,PE (X.cmp N scope cl c) elt (te c))
  (hxe:X.xe=Eu:=by rfl) (hc:X.calm=true:=by rfl) (hs:∀x,foldedSetIterable iter X.env x=pure x:=by intro _;rfl) (hsw:swapsWith (.ListComp elt [⟨tg,iter,ifs,0⟩] scope pos) (some (.Name y ypos)) spos.line X.env=pure true:=by rfl)
  (hf:X.fn y=true∨X.env.scope.names.lookup y=some .local:=by first | exact .inl rfl | exact .inr rfl) :
  PS X (.Assign [.Name y ypos] (.ListComp elt [⟨tg,iter,ifs,0⟩] scope pos) spos) (QK (Hs wi js g fun c ac=>DC (tc c) (BX ac (te c))) (Dd i)):=
 Pt (WB:=fun c ac=>ED (X.cmp N scope cl c) ifs elt ac) hxe hc hi hs h.clos h.kind h.names h.cell h.ccl h.hcn h.shr h.len (fun c it ac=>Ln) hg (fun c ac=>Gq hxe (hif c) (he c)) hN hy hyl hsw hf
end
end L2
namespace L2
open PySem PySem.Spec PyProof.Rows
abbrev Up (xs:Array Nat):Prop:=xs.toList.Pairwise (· < ·)
theorem Up.lt {xs:Array Nat} (u:Up xs) {i j:Nat} {a b:Nat} (h:i<j) (ha:xs[i]? = some a) (hb:xs[j]? = some b):a<b:=by
 have ha':xs.toList[i]? = some a:=by simpa using ha
 have hb':xs.toList[j]? = some b:=by simpa using hb
 obtain⟨h1,e1⟩:=List.getElem?_eq_some_iff.mp ha'
 obtain⟨h2,e2⟩:=List.getElem?_eq_some_iff.mp hb'
 have:=List.pairwise_iff_getElem.mp u i j h1 h2 h
 omega
structure UZ (xs:Array Nat) (j p:Nat):Prop where
 le:p≤xs.size
 lo:∀i a,i<p→xs[i]? = some a→a<j
 hi:∀i a,p≤i→xs[i]? = some a→j≤a
theorem Hd {xs:Array Nat} (u:Up xs) (j:Nat):∀(fuel lo hi:Nat),hi-lo≤fuel→lo≤hi→hi≤xs.size→(∀i a,i<lo→xs[i]? = some a→a<j)→(∀i a,hi≤i→xs[i]? = some a→j≤a)→
  UZ xs j (SetTable.below.go xs j fuel lo hi)
 | 0,lo,hi,h1,h2,h3,h4,h5=>by
  have e:lo=hi:=by omega
  subst e
  exact⟨h3,h4,h5⟩
 | fuel+1,lo,hi,h1,h2,h3,h4,h5=>by
  unfold SetTable.below.go
  by_cases hlt:lo<hi
  ·rw[if_pos hlt]
   have hm:(lo+hi) / 2<xs.size:=by omega
   have eg:xs[(lo+hi) / 2]? = some xs[(lo+hi) / 2]:=Array.getElem?_eq_getElem hm
   have ed:xs.getD ((lo+hi) / 2) j=xs[(lo+hi) / 2]:=by simp[Array.getD,hm]
   show UZ xs j (if xs.getD ((lo+hi) / 2) j<j then _ else _)
   rw[ed]
   split
   ·rename_i hl
    refine Hd u j fuel ((lo+hi) / 2+1) hi (by omega) (by omega) h3 (fun i a hi' ha=>?_) h5
    by_cases e:i=(lo+hi) / 2
    ·subst e;rw[eg] at ha;cases ha;exact hl
    ·exact Nat.lt_trans (u.lt (show i<(lo+hi) / 2 by omega) ha eg) hl
   ·rename_i hl
    refine Hd u j fuel lo ((lo+hi) / 2) (by omega) (by omega) (by omega) h4 (fun i a hi' ha=>?_)
    by_cases e:i=(lo+hi) / 2
    ·subst e;rw[eg] at ha;cases ha;omega
    ·have:=u.lt (show (lo+hi) / 2<i by omega) eg ha
     omega
  ·rw[if_neg hlt]
   have e:lo=hi:=by omega
   subst e
   exact⟨h3,h4,h5⟩
theorem HV {xs:Array Nat} (u:Up xs) (j:Nat):UZ xs j (SetTable.below xs j):=
 Hd u j xs.size 0 xs.size (by omega) (Nat.zero_le _) (Nat.le_refl _) (fun i a h=>absurd h (Nat.not_lt_zero _)) fun i a h e=>by
  have:=(Array.getElem?_eq_some_iff.mp e).1
  omega
theorem K3 {xs:Array Nat} (u:Up xs) {i a:Nat} (h:xs[i]? = some a):SetTable.below xs (a+1)=i+1:=by
 have b:=HV u (a+1)
 have hi:i<xs.size:=(Array.getElem?_eq_some_iff.mp h).1
 have h1:i<SetTable.below xs (a+1):=by
  rcases Nat.lt_or_ge i (SetTable.below xs (a+1)) with q | q
  ·exact q
  ·have:=b.hi i a q h
   omega
 rcases Nat.lt_or_ge (i+1) (SetTable.below xs (a+1)) with q | q
 ·have hs:i+1<xs.size:=Nat.lt_of_lt_of_le q b.le
  have e2:=Array.getElem?_eq_getElem hs
  have:=b.lo (i+1) _ q e2
  have:=u.lt (Nat.lt_succ_self i) h e2
  omega
 ·omega
theorem K7 {xs:Array Nat} (u:Up xs):SetTable.below xs 0=0:=by
 have b:=HV u 0
 rcases Nat.eq_zero_or_pos (SetTable.below xs 0) with q | q
 ·exact q
 ·have hs:0<xs.size:=Nat.lt_of_lt_of_le q b.le
  have:=b.lo 0 _ q (Array.getElem?_eq_getElem hs)
  omega
theorem NH {xs:Array Nat} (u:Up xs) {j:Nat} (h:xs[SetTable.below xs j]?≠some j):Up (SetTable.insertAt xs (SetTable.below xs j) j):=by
 have b:=HV u j
 generalize SetTable.below xs j=p at b h
 unfold Up
 rw[SetTable.toList_insertAt]
 have e1:∀x∈xs.toList.take p,x<j:=fun x hx=>by
  obtain⟨i,hi⟩:=List.mem_iff_getElem?.mp hx
  rw[List.getElem?_take] at hi
  split at hi
  ·rename_i hlt
   exact b.lo i x hlt (by simpa using hi)
  ·cases hi
 have e2:∀x∈xs.toList.drop p,j<x:=fun x hx=>by
  obtain⟨i,hi⟩:=List.mem_iff_getElem?.mp hx
  rw[List.getElem?_drop] at hi
  have hi':xs[p+i]? = some x:=by simpa using hi
  have:=b.hi (p+i) x (Nat.le_add_right _ _) hi'
  have ne:x≠j:=fun e=>by
   subst e
   cases i with
   | zero=>exact h hi'
   | succ i=>
    have hp:p<xs.size:=by
     have:=(Array.getElem?_eq_some_iff.mp hi').1
     omega
    have eg:=Array.getElem?_eq_getElem hp
    have h3:=b.hi p _ (Nat.le_refl _) eg
    have h4:=u.lt (show p<p+(i+1) by omega) eg hi'
    omega
  omega
 have u':(xs.toList.take p++xs.toList.drop p).Pairwise (· < ·):=by rw[List.take_append_drop];exact u
 obtain⟨p1,p2,p3⟩:=List.pairwise_append.mp u'
 refine List.pairwise_append.mpr ⟨p1,List.pairwise_cons.mpr ⟨e2,p2⟩,fun x hx y hy=>?_⟩
 rcases List.mem_cons.mp hy with q | q
 ·rw[q];exact e1 x hx
 ·exact Nat.lt_trans (e1 x hx) (e2 y q)
theorem Qg (n:Nat):Up (Array.range n):=by
 unfold Up
 rw[Array.toList_range]
 exact List.pairwise_lt_range
end L2
namespace L2
open PySem PySem.Spec PyProof.Rows
structure TabOk (Bz:Bool) (t:SetTable):Prop where
 dum:t.dummies = #[]
 led:t.led = !Bz
 up:Up t.place
structure Gd (Bz:Bool) (t:SetTable):Prop where
 led:t.led = !Bz
 up:Up t.place
theorem TabOk.it {Bz:Bool} {t:SetTable} (h:TabOk Bz t):Gd Bz t:=⟨h.led,h.up⟩
theorem TabOk.plain_off {Bz:Bool} {t:SetTable} (h:TabOk Bz t):TabOk Bz { t with plain:=false }:=⟨h.dum,h.led,h.up⟩
theorem TabOk.standIn {Bz:Bool} {t:SetTable} (h:TabOk Bz t) (n:Nat):TabOk Bz (t.standIn n):=⟨rfl,h.led,Qg n⟩
theorem TabOk.orStandIn {Bz:Bool} {t:SetTable} (h:TabOk Bz t) (n:Nat):TabOk Bz (t.orStandIn n):=by
 unfold SetTable.orStandIn
 split
 ·exact h
 ·exact h.standIn n
theorem TabOk.fresh (Bz:Bool) (led:Bool) (e:led = !Bz):TabOk Bz (.fresh 0 0 led):=⟨rfl,e,List.Pairwise.nil⟩
theorem My (j:Nat):SetTable.has #[] j=false:=by
 unfold SetTable.has
 simp
theorem Ic (t:SetTable) (p:SetTable.Probe):(t.advance p).dummy=p.dummy:=by
 unfold SetTable.advance
 split
 ·rfl
 ·rfl
theorem Kj {t:SetTable} (hd:t.dummies = #[]) {hashAt:Nat→Int} {h:Int} {j:Nat} {d:Option Nat}:∀(fuel:Nat) (p:SetTable.Probe),p.dummy=none→SetTable.probe.go t hashAt h fuel p=some (.empty j d)→d=none∧t.place[SetTable.below t.place j]?≠some j
 | 0,_,_,e=>by cases e
 | fuel+1,p,hp,e=>by
  unfold SetTable.probe.go at e
  have hs:∀j,t.slot j=if t.place[SetTable.below t.place j]? == some j then .live (SetTable.below t.place j) else .empty:=fun j=>by
   unfold SetTable.slot
   rw[hd,My]
   rfl
  rw[hs] at e
  split at e
  ·rename_i hlive
   split at hlive
   ·cases hlive
   ·rename_i hne
    injection e with e
    injection e with e1 e2
    subst e1
    refine⟨by rw[←e2,hp],fun z=>hne (by rw[z];simp)⟩
  ·rename_i hlive
   split at hlive<;>cases hlive
  ·split at e
   ·cases e
   ·exact Kj hd fuel _ (by rw[Ic];exact hp) e
theorem TabOk.layNew {Bz:Bool} {t:SetTable} (ok:TabOk Bz t) (es:Array (Int×Value)) (h:Int) (x:Value):TabOk Bz (layNew t es h x).2.1:=by
 unfold PySem.layNew
 cases ef:t.freeSlot h with
 | none=>exact ok.standIn _
 | some sw=>
  obtain⟨slot,wd⟩:=sw
  show TabOk Bz ((t.put slot).1.orStandIn _)
  refine TabOk.orStandIn ?_ _
  unfold SetTable.freeSlot at ef
  split at ef
  ·rename_i j dummy eq
   have:=Kj ok.dum _ _ rfl eq
   obtain⟨rfl,hne⟩:=this
   injection ef with ef
   injection ef with e1 e2
   have e1':j=slot:=e1
   subst e1'
   unfold SetTable.put
   refine⟨?_,ok.led,NH ok.up hne⟩
   show (if SetTable.has t.dummies j then _ else t.dummies) = #[]
   rw[ok.dum,My]
   rfl
  ·cases ef
theorem TabOk.relayAll {Bz:Bool} {t:SetTable} (ok:TabOk Bz t) (es:Array (Int×Value)) (wanted:Nat):TabOk Bz (relayAll t es wanted).2.1:=by
 unfold PySem.relayAll
 cases er:t.relaid (es.map (·.1)) wanted with
 | none=>exact ok.standIn _
 | some to=>
  obtain⟨t',order⟩:=to
  dsimp only
  split
  ·unfold SetTable.relaid SetTable.laid at er
   cases eo:SetTable.layClean (SetTable.sizeAbove wanted-1) (es.map (·.1)) with
   | none=>rw[eo] at er;cases er
   | some owner=>
    rw[eo] at er
    injection er with er
    injection er with e1 e2
    subst e1
    refine⟨rfl,ok.led,?_⟩
    show (List.map (fun x:Nat×Nat=>x.fst) (List.filterMap (fun j=>Option.map (fun x=>(j,x)) (owner.getD j none)) (List.range (SetTable.sizeAbove wanted-1+1)))).toArray.toList.Pairwise (· < ·)
    rw[List.toList_toArray]
    rw[List.map_filterMap]
    refine List.Pairwise.filterMap _ (R:=(· < ·)) ?_ List.pairwise_lt_range
    intro a a' hlt b hb b' hb'
    have f:∀{a b:Nat},Option.map (fun x:Nat×Nat=>x.1) (Option.map (fun x=>(a,x)) (owner.getD a none))=some b→b=a:=fun {a b} e=>by
     cases q:owner.getD a none with
     | none=>rw[q] at e;cases e
     | some y=>rw[q] at e;injection e with e;exact e.symm
    rw[f hb,f hb']
    exact hlt
  ·exact ok.standIn _
end L2
namespace L2
open PySem PySem.Spec PyProof.Rows
def A7 (e:Int×Value):Int:=match e.2 with | .int k _=>k | _=>0
def EGood (l:List (Int×Value)):Prop:=∀e∈l,e.1=hashInt (A7 e)∧∃t,e.2= .int (A7 e) t
abbrev Bz (w:World):Bool:=w.params.followText "set-order"
def SetIs (w:World) (h:Heap) (a:Addr) (ks:List Int):Prop:=
 ∃o es ep t,h.get? a=some o∧o.ExactSet∧o.data= .set es ep t∧EGood es.toList∧es.toList.map A7=ks∧ks.Nodup∧ks.length<2000∧TabOk (Bz w) t∧t.fits es.size=true
theorem SetIs.keep {w:World} {h h':Heap} {a:Addr} {ks:List Int} (x:SetIs w h a ks) (k:∀o,h.get? a=some o→h'.get? a=some o):SetIs w h' a ks:=by
 obtain⟨o,es,ep,t,ho,r⟩:=x
 exact⟨o,es,ep,t,k o ho,r⟩
def SetIt (w:World) (h:Heap) (a:Addr) (ks:List Int):Prop:=
 ∃o es ep t,h.get? a=some o∧o.ExactSet∧o.data= .set es ep t∧EGood es.toList∧es.toList.map A7=ks∧ks.Nodup∧ks.length<2000∧Gd (Bz w) t∧t.fits es.size=true
theorem SetIs.it {w:World} {h:Heap} {a:Addr} {ks:List Int} (x:SetIs w h a ks):SetIt w h a ks:=by
 obtain⟨o,es,ep,t,h1,h2,h3,h4,h5,h6,h7,h8,h9⟩:=x
 exact⟨o,es,ep,t,h1,h2,h3,h4,h5,h6,h7,h8.it,h9⟩
theorem SetIt.keep {w:World} {h h':Heap} {a:Addr} {ks:List Int} (x:SetIt w h a ks) (k:∀o,h.get? a=some o→h'.get? a=some o):SetIt w h' a ks:=by
 obtain⟨o,es,ep,t,ho,r⟩:=x
 exact⟨o,es,ep,t,k o ho,r⟩
section
variable {prog:Program} {w:World} {A:Around} {E:Value→Shared→Prop} {s:Shared} {a:Addr} {ks:List Int} {k:Int} {tk:Tok}
theorem EGood.elems {l:List (Int×Value)} (h:EGood l):ElemsOf (intKind prog w) l:=fun e he=>by
 obtain⟨h1,t,h2⟩:=h e he
 refine⟨⟨A7 e,?_,h1⟩,?_⟩
 ·rw[h2];exact intKind_is _ _ _ _
 ·rw[h2];rfl
theorem EGood.is {l:List (Int×Value)} (h:EGood l) {e:Int×Value} (he:e∈l) {j:Int}:(intKind prog w).is j e.2=true↔j=A7 e:=by
 obtain⟨_,t,h2⟩:=h e he
 constructor
 ·intro q
  exact (intKind prog w).inj e.2 j (A7 e) q (by rw[h2];exact intKind_is _ _ _ _)
 ·rintro rfl
  rw[h2]
  exact intKind_is _ _ _ _
theorem Dz {es:Array (Int×Value)} (e:es.toList.map A7=ks):es.size=ks.length:=by rw[←e,List.length_map,Array.length_toList]
theorem EH {h:Heap} {o:Obj} {es es':Array (Int×Value)} {ep:Nat} {t t':SetTable} (ho:h.get? a=some o) (hex:o.ExactSet) (hd:o.data= .set es ep t) (g:EGood es'.toList) (nd:(es'.toList.map A7).Nodup) (hl:es'.size<2000) (ok:TabOk (Bz w) t') (hf:t'.fits es'.size=true) :
  (h.update a (Obj.putSet es' t')).get? a=some { o with data:=.set es' (ep+1) t' }∧SetIs w (h.update a (Obj.putSet es' t')) a (es'.toList.map A7):=by
 have hg:(h.update a (Obj.putSet es' t')).get? a=some { o with data:=.set es' (ep+1) t' }:=by
  have:=Heap.get?_update_self (Obj.putSet es' t') ho (by rw[putSet_of es' t' hd];rfl)
  rw[putSet_of es' t' hd] at this;exact this
 exact⟨hg,_,es',ep+1,t',hg,hex,rfl,g,rfl,nd,by rw[List.length_map,Array.length_toList];exact hl,ok,hf⟩
theorem Cq {n:Nat} (h:n<2000):n<scanBound:=by unfold scanBound;omega
theorem KM {g:Bool→Sem Unit} (hg:∀(b:Bool) (s₁:Shared) (Q':Unit→Shared→Prop),Q' () s₁→wpAny (model prog w) A (g b) Q' E s₁)
  {o:Obj} {es es1:Array (Int×Value)} {ep:Nat} {t t2:SetTable} (ho:s.heap.get? a=some o) (hex:o.ExactSet) (hd:o.data= .set es ep t) (g1:EGood es1.toList) (nd:(es1.toList.map A7).Nodup) (hl:es1.size<2000) (ok:TabOk (Bz w) t2) (hf:t2.fits es1.size=true) {wasDummy:Bool} {R:Option Bool→Shared→Prop}
  (h:∀h' ks',Heap.SameBut a s.heap h'→SetIs w h' a ks'→ks'.Perm (es1.toList.map A7)→R (some true) { s with heap:=h' }) :
  wpAny (model prog w) A (do
    storeSet a es1 t2
    if (!wasDummy && t2.tooFull)=true then do
      g (relayAll t2 es1 (SetTable.grown es1.size)).2.2
      storeSet a (relayAll t2 es1 (SetTable.grown es1.size)).1 (relayAll t2 es1 (SetTable.grown es1.size)).2.1
      pure (some true)
     else pure (some true)) R E s:=by
 refine wpAny_bind (wpAny_storeSet_of ho hd ?_ (fits_of_scanBound (Cq hl)))
 obtain⟨ho1,hS1⟩:=EH (w:=w) ho hex hd g1 nd hl ok hf
 have hsb1:=Heap.SameBut.update s.heap a (Obj.putSet es1 t2)
 split
 ·have hp:=relayAll_perm t2 es1 (SetTable.grown es1.size)
  have hfr:=relayAll_fits t2 es1 (SetTable.grown es1.size)
  have okr:=ok.relayAll es1 (SetTable.grown es1.size)
  generalize hRl:relayAll t2 es1 (SetTable.grown es1.size)=Rl at hp hfr okr ⊢
  obtain⟨es2,t3,gave2⟩:=Rl
  dsimp only at hp hfr okr ⊢
  have hsz:es2.size=es1.size:=by rw[←Array.length_toList,hp.length_eq,Array.length_toList]
  have hb2:es2.size<2000:=by rw[hsz];exact hl
  have g2:EGood es2.toList:=fun e he=>g1 e (hp.mem_iff.mp he)
  refine wpAny_bind (hg _ _ _ ?_)
  refine wpAny_bind (wpAny_storeSet_of ho1 rfl ?_ (fits_of_scanBound (Cq hb2)))
  obtain⟨_,hS2⟩:=EH (w:=w) ho1 hex rfl g2 ((hp.map A7).nodup_iff.mpr nd) hb2 okr hfr
  exact wpAny_pure (h _ _ (hsb1.trans (Heap.SameBut.update _ a _)) hS2 (hp.map A7))
 ·exact wpAny_pure (h _ _ hsb1 hS1 (List.Perm.refl _))
theorem GU {Q:Bool→Shared→Prop} (hS:SetIs w s.heap a ks) (hroom:ks.length+1<2000)
  (h:∀h' ks',Heap.SameBut a s.heap h'→SetIs w h' a ks'→(∀j,j∈ks'↔j∈ks∨j=k)→ks'.length≤ks.length+1→Q (!decide (k∈ks)) { s with heap:=h' }) :
  wpAny (model prog w) A (setAddHashed a (.int k tk) (hashInt k)) Q E s:=by
 obtain⟨o,es,ep,t,ho,hex,hd,hg,hk,nd,hl,ok,hf⟩:=id hS
 have hsz:=Dz hk
 have hkey:(intKind prog w).is k (.int k tk)=true:=intKind_is _ _ _ _
 unfold setAddHashed setAddHashedIn
 refine wpAny_holding (wpAny_bind (wpAny_setState_of ho hd hf ?_))
 dsimp only
 rw[byScan_of (knd:=intKind prog w) rfl (by rw[hsz];exact Cq hl) hg.elems]
 simp only[↓reduceIte]
 unfold setAddByScan
 refine wpAny_bind ?_
 refine wpAny_bind (wpAny_rule ?_)
 refine wpAny_bind (wpAny_setScan_of (knd:=intKind prog w) hkey ho hd hf hg.elems ?_)
 cases hr:List.findIdx? (fun e=>(intKind prog w).is k e.2) es.toList with
 | some j=>
  dsimp only
  obtain⟨hj,hpj,_⟩:=List.findIdx?_eq_some_iff_getElem.mp hr
  have hmem:k∈ks:=by
   rw[←hk,(hg.is (List.getElem_mem hj)).mp hpj]
   exact List.mem_map_of_mem (List.getElem_mem hj)
  refine wpAny_pure (wpAny_pure ?_)
  have e:s={ s with heap:=s.heap }:=by cases s;rfl
  have:=h s.heap ks (Heap.SameBut.refl a s.heap) hS (fun j=>⟨.inl,fun z=>z.elim id fun z=>z ▸ hmem⟩) (Nat.le_succ _)
  rw[decide_eq_true hmem] at this;rw[e];exact this
 | none=>
  dsimp only
  have hmem:k∉ks:=fun z=>by
   rw[←hk] at z
   obtain⟨e,he,rfl⟩:=List.mem_map.mp z
   have:=List.findIdx?_eq_none_iff.mp hr e he
   rw[(hg.is he).mpr rfl] at this
   cases this
  have hgw:∀(b:Bool) {s₁:Shared} {Q':Unit→Shared→Prop},Q' () s₁→wpAny (model prog w) A (match b with | true=>rule "set.scan.the-table-gave-way" | false=>pure ()) Q' E s₁:=
   fun b s₁ Q' hq=>by cases b<;>first | exact wpAny_pure hq | exact wpAny_rule hq
  have hperm:=layNew_perm t es (hashInt k) (.int k tk)
  have hfits:=layNew_fits t es (hashInt k) (.int k tk)
  have ok1:=ok.layNew es (hashInt k) (.int k tk)
  generalize hL:layNew t es (hashInt k) (.int k tk)=L at hperm hfits ok1
  have hL':layNew t es ((intKind prog w).hash k) (.int k tk)=L:=hL
  show wpAny (model prog w) A _ _ E s
  obtain⟨es1,t1,wasDummy,gave⟩:=L
  simp only[hL]
  dsimp only at hperm hfits ok1 ⊢
  rw[Array.toList_push] at hperm
  have hg1:EGood es1.toList:=fun e he=>by
   rcases List.mem_append.mp (hperm.mem_iff.mp he) with z | z
   ·exact hg e z
   ·rw[List.mem_singleton.mp z]
    exact⟨rfl,tk,rfl⟩
  have hpk:(es1.toList.map A7).Perm (ks++[k]):=by
   have:=hperm.map A7
   rw[List.map_append,hk] at this
   exact this
  have nd1:(es1.toList.map A7).Nodup:=hpk.nodup_iff.mpr (List.nodup_append.mpr ⟨nd,List.nodup_cons.mpr ⟨by simp,List.nodup_nil⟩,fun x hx y hy=>by rw[List.mem_singleton.mp hy];intro z;subst z;exact hmem hx⟩)
  have hl1:es1.size<2000:=by
   have:=hpk.length_eq
   rw[List.length_map,Array.length_toList,List.length_append] at this
   rw[this]
   exact hroom
  refine wpAny_bind (hgw _ ?_)
  have hend:∀h' ks',Heap.SameBut a s.heap h'→SetIs w h' a ks'→ks'.Perm (es1.toList.map A7)→Q true { s with heap:=h' }:=by
   intro h' ks' hsb hS' hp'
   have hq:=hp'.trans hpk
   have:=h h' ks' hsb hS' (fun j=>by rw[hq.mem_iff,List.mem_append,List.mem_singleton]) (by rw[hq.length_eq,List.length_append];exact Nat.le_refl _)
   rw[decide_eq_false hmem] at this
   exact this
  split
  ·refine wpAny_bind ?_
   rw[hashByValue_scannable 8 (x:=.int k tk) rfl]
   refine wpAny_pure ?_
   refine KM ?_ ho hex hd hg1 nd1 hl1 ?_ ?_ ?_
   ·intro b s₁ Q' hq;cases b<;>first | exact wpAny_pure hq | exact wpAny_rule hq
   ·split
    ·exact ok1
    ·exact ok1.plain_off
   ·split
    ·exact hfits
    ·exact SetTable.fits_plain_off hfits
   ·intro h' ks' hsb hS' hp';dsimp only;exact wpAny_pure (hend h' ks' hsb hS' hp')
  ·refine wpAny_bind (wpAny_pure ?_)
   simp only[↓reduceIte]
   refine KM ?_ ho hex hd hg1 nd1 hl1 ok1 hfits ?_
   ·intro b s₁ Q' hq;cases b<;>first | exact wpAny_pure hq | exact wpAny_rule hq
   ·intro h' ks' hsb hS' hp';dsimp only;exact wpAny_pure (hend h' ks' hsb hS' hp')
end
end L2
namespace L2
open PySem PySem.Spec PyProof.Rows
abbrev Bh (w:World):Obj:={ cls:=.type "set",dict:=none,data:=.set #[] 0 (.fresh 0 0 (!Bz w)) }
theorem set0_is {w:World} {h:Heap}:SetIs w (h.push (Bh w)) h.objs.size []:=
 ⟨_,#[],0,_,Heap.get?_push_size _ rfl,⟨rfl,rfl,rfl⟩,rfl,fun e he=>absurd he (by simp),rfl,List.nodup_nil,by decide,TabOk.fresh _ _ rfl,rfl⟩
section
variable {prog:Program} {w:World} {A:Around} {E:Value→Shared→Prop} {s:Shared} {a:Addr} {ks:List Int} {k:Int} {tk:Tok}
theorem SetIs.typeIs (hS:SetIs w s.heap a ks):s.TypeIs (.ref a) "set":=let ⟨o,_,_,_,ho,hc,_⟩:=hS;⟨o,ho,hc.1⟩
theorem SetIs.noDict (hS:SetIs w s.heap a ks):∀b,Value.ref a= .ref b→∃ob,s.heap.get? b=some ob∧ob.dict=none:=
 fun b e=>by injection e with e;subst e;exact let ⟨o,_,_,_,ho,hc,_⟩:=hS;⟨o,ho,hc.2.1⟩
theorem SetIt.typeIs (hS:SetIt w s.heap a ks):s.TypeIs (.ref a) "set":=let ⟨o,_,_,_,ho,hc,_⟩:=hS;⟨o,ho,hc.1⟩
theorem J0 {vs:List Value} (hv:vs=[]∨∃x,vs=[x]) {Q₁:Value→Shared→Prop}
  (h:Q₁ (.ref s.heap.objs.size) { s with heap:=s.heap.push (Bh w) }) :
  codeAny (model prog w) A (.call (.builtin "set.__new__") ⟨.type "set"::vs,[]⟩) (wants Q₁ E) s:=by
 have hn:checkBuiltinCall "set.__new__" ⟨.type "set"::vs,[]⟩=pure ():=by
  rcases hv with rfl | ⟨x,rfl⟩
  ·exact F.newCall_set_0
  ·exact F.newCall_set_1 x
 refine codeAny_of_tree ?_
 show wpAny _ A.in1 (do checkBuiltinCall "set.__new__" ⟨.type "set"::vs,[]⟩;again (.builtin "set.__new__" ⟨.type "set"::vs,[]⟩)) _ _ s
 refine wpAny_bind (wpAny_of_eq hn (wpAny_pure ⟨plainId_quiet F.plain_set_new _,codeAny_builtin F.entry_set_new ?_⟩))
 rw[Around.under_plainId F.plain_set_new _]
 have hsub:=sub_set_self
 obtain⟨hp,g,d,tk,os⟩:=s
 rcases hv with rfl | ⟨x,rfl⟩
 all_goals
  unfold Builtin.«set.__new__» Builtin.Frozenset.newClass
  dsimp only
  wp_walk
  refine wpAny_askSetting (wpAny_pure ?_)
  dsimp only
  simp only[newObj]
  refine wpAny_bind (wpAny_alloc (wpAny_pure ?_))
  exact wpAny_pure h
set_option maxHeartbeats 1000000 in
theorem PN {Q:Value→Shared→Prop} (h:Q (.ref s.heap.objs.size) { s with heap:=s.heap.push (Bh w) }):wpAny (model prog w) A (call (.type "set") []) Q E s:=by
 obtain⟨c,tl,hmro⟩:=F.called_set.mro
 have hmade:=F.called_set.made
 have hsub:=F.called_set.sub
 refine wpAny_call (codeAny_of_tree ?_)
 show wpAny _ _ (callAny (.type "set") _) _ _ _
 refine wpAny_pure ⟨Code.quiet_builtin _ (by decide +kernel),codeAny_builtin F.entry_type_call ?_⟩
 rw[Around.under_plain (weight_type_call_type "set" [] []) rfl]
 have h1:=F.called_set.notType
 have h2:=F.called_set.canCreate
 have hct:=F.typeCall_set_0
 repeat (any_goals (first | assumption | wp_step))
 refine codeAny_mono (J0 (E:=E) (.inl rfl) (Q₁:=fun obj s₁=>obj= .ref s.heap.objs.size∧s₁={ s with heap:=s.heap.push (Bh w) }) ⟨rfl,rfl⟩) fun r s₁ hr=>?_
 cases r with
 | error e=>exact hr
 | ok fl=>
  cases fl with
  | ret obj=>
   obtain⟨rfl,rfl⟩:=hr
   have hS:(s.heap.push (Bh w)).get? s.heap.objs.size=some (Bh w):=Heap.get?_push_size _ rfl
   have hT:Shared.TypeIs { s with heap:=s.heap.push (Bh w) } (.ref s.heap.objs.size) "set":=⟨_,hS,rfl⟩
   have hli:=F.called_set.init.lookup
   have hbi:=F.called_set.init.bind (.ref s.heap.objs.size)
   repeat (any_goals (first | assumption | wp_step))
   refine codeAny_mono (codeAny_call_builtin (R:=wants (fun r s₂=>r= .none∧Q (.ref s.heap.objs.size) s₂) E) F.called_set.init.plain F.entry_set_init (check_set_init hT ?_)) fun r₂ s₂ hr₂=>?_
   ·unfold Builtin.«set.__init__» noKeywords
    wp_walk
    exact⟨rfl,h⟩
   ·cases r₂ with
    | error e=>exact hr₂
    | ok fl₂=>
     cases fl₂ with
     | ret r=>
      obtain⟨rfl,hQ⟩:=hr₂
      repeat (any_goals (first | assumption | wp_step))
     | _=>exact hr₂.elim
  | _=>exact hr.elim
theorem KG {Q:Value→Shared→Prop} (hS:SetIs w s.heap a ks) (hroom:ks.length+1<2000)
  (h:∀h' ks',Heap.SameBut a s.heap h'→SetIs w h' a ks'→(∀j,j∈ks'↔j∈ks∨j=k)→ks'.length≤ks.length+1→Q .none { s with heap:=h',toks:=s.toks+1 }) :
  wpAny (model prog w) A (call (.builtin "set.add") [.ref a,.int k tk]) Q E s:=by
 refine wpAny_call_entry F.slot_set_add hS.typeIs F.entry_set_add ?_ (F.args_set_add_2 _ _)
 unfold Builtin.«set.add» Builtin.Frozenset.oneOther
 simp only[List.isEmpty_nil,bind_assoc]
 unfold Builtin.Frozenset.addrOf setAdd
 refine wpAny_bind (wpAny_pure ?_)
 try dsimp only
 refine wpAny_bind (wpAny_pure ?_)
 try dsimp only
 refine wpAny_bind ?_
 refine wpAny_holding ?_
 refine wpAny_bind ((intKind prog w).pyHash (k:=k) (intKind_is _ _ _ _) ?_)
 refine GU (s:={ s with toks:=s.toks+1 }) hS hroom fun h' ks' hsb hS' hm hl=>?_
 show wpAny _ _ (ret Value.none) _ _ _
 exact wpAny_pure ⟨_,rfl,h h' ks' hsb hS' hm hl⟩
end
end L2
namespace L2
open PySem PySem.Spec PyProof.Rows
theorem slot_setit_next:Slot "set_iterator" "__next__" "set_iterator.__next__":=
 .of (owner:="set_iterator") (n:="__next__") (by rw[typeLookup_type,builtinLookup_eq_fast];kernel_rfl) (by decide +kernel) (by decide +kernel) (by decide +kernel)
  (by first | exact .inl (by decide +kernel) | exact .inr (by decide +kernel)) (by rw[isSubtype_type];kernel_rfl)
theorem CU:entryFor table "set_iterator.__next__"=some Builtin.«set_iterator.__next__»:=entryFor_of_tree (by kernel_rfl)
theorem DF (a:Value):argsOk "set_iterator.__next__" ⟨[a],[]⟩:=by unfold argsOk;kernel_rfl
theorem Hr:entryFor table "set.__iter__"=some Builtin.«frozenset.__iter__»:=entryFor_alias (id':="frozenset.__iter__") (by kernel_rfl) rfl (by decide +kernel) (by kernel_rfl)
theorem DE:Slot "set_iterator" "__iter__" "set_iterator.__iter__":=
 .of (owner:="set_iterator") (n:="__iter__") (by rw[typeLookup_type,builtinLookup_eq_fast];kernel_rfl) (by decide +kernel) (by decide +kernel) (by decide +kernel)
  (by first | exact .inl (by decide +kernel) | exact .inr (by decide +kernel)) (by rw[isSubtype_type];kernel_rfl)
theorem Fu:entryFor table "set_iterator.__iter__"=some Builtin.«dict_keyiterator.__iter__»:=entryFor_alias (id':="dict_keyiterator.__iter__") (by kernel_rfl) rfl (by decide +kernel) (by kernel_rfl)
theorem Gn (a:Value):argsOk "set_iterator.__iter__" ⟨[a],[]⟩:=by unfold argsOk;kernel_rfl
theorem slot_set_len':Slot "set" "__len__" "set.__len__":=
 .of (owner:="set") (n:="__len__") (by rw[typeLookup_type,builtinLookup_eq_fast];kernel_rfl) (by decide +kernel) (by decide +kernel) (by decide +kernel)
  (by first | exact .inl (by decide +kernel) | exact .inr (by decide +kernel)) (by rw[isSubtype_type];kernel_rfl)
end L2
namespace L2
open PySem PySem.Spec PyProof.Rows
inductive NS (w:World) (a:Addr) (es:Array (Int×Value)) (ep:Nat) (t:SetTable) (h:Heap):(Nat→Value)→List Value→Prop where
 | text:Bz w=true→NS w a es ep t h (fun _=>rawInt 0) ((pickOrder (w.params.setOrder a ep) es).toList.map (·.2))
 | led:Bz w=false→(!t.plain && decide (es.size>1))=false→NS w a es ep t h (fun i=>rawInt (((if i=0 then 0 else t.place.getD (i-1) 0+1:Nat)):Int)) (es.toList.map (·.2))
 | drw (T:Addr) (o:Obj) (c:Nat) (ps:List Nat):Bz w=false→h.get? T=some o→o.data= .seq (ps.map fun (i:Nat)=>rawInt i).toArray c→(∀p∈ps,p<es.size)→NS w a es ep t h (fun _=>.ref T) (ps.map fun p=>(es.getD p (0,.none)).2)
def ItAt (h:Heap) (it a:Addr) (first:Value) (i n ep:Nat):Prop:=∃o,h.get? it=some o∧o.cls= .type "set_iterator"∧o.data= .fields #[first,rawInt i,.ref a,rawInt n,rawInt ep]
theorem ItAt.typeIs {s:Shared} {it a:Addr} {first:Value} {i n ep:Nat} (x:ItAt s.heap it a first i n ep):s.TypeIs (.ref it) "set_iterator":=let ⟨o,ho,hc,_⟩:=x;⟨o,ho,hc⟩
section
variable {prog:Program} {w:World} {A:Around} {E:Value→Shared→Prop} {s:Shared} {a it:Addr} {o:Obj} {es:Array (Int×Value)} {ep i:Nat} {t:SetTable} {fst:Nat→Value} {ord:List Value}
theorem Mb {h:Heap} {first f2:Value} {n:Nat} (x:ItAt h it a first i n ep):ItAt ((h.update it (Obj.mapFields (·.setIfInBounds 0 f2))).update it (Obj.mapFields (·.setIfInBounds 1 (rawInt ((i:Int)+1))))) it a f2 (i+1) n ep:=by
 obtain⟨o,ho,hc,hd⟩:=x
 have h1:=Heap.get?_update_self (Obj.mapFields (·.setIfInBounds 0 f2)) ho (Obj.isFreed_of_fields (Obj.data_mapFields hd _))
 have hd1:=Obj.data_mapFields hd (·.setIfInBounds 0 f2)
 refine⟨_,Heap.get?_update_self _ h1 (Obj.isFreed_of_fields (Obj.data_mapFields hd1 _)),(Obj.cls_mapFields ..).trans ((Obj.cls_mapFields ..).trans hc),?_⟩
 rw[Obj.data_mapFields hd1]
 simp
theorem RJ {h:Heap} {first:Value} {n:Nat} (x:ItAt h it a first i n ep):ItAt (h.update it (Obj.mapFields (·.setIfInBounds 1 (rawInt ((i:Int)+1))))) it a first (i+1) n ep:=by
 obtain⟨o,ho,hc,hd⟩:=x
 refine⟨_,Heap.get?_update_self _ ho (Obj.isFreed_of_fields (Obj.data_mapFields hd _)),(Obj.cls_mapFields ..).trans hc,?_⟩
 rw[Obj.data_mapFields hd]
 simp
theorem Kn {Q:Option (Value×Nat)→Shared→Prop} {slot:Nat} (ho:s.heap.get? a=some o) (hd:o.data= .set es ep t) (ok:Gd (Bz w) t) (hf:t.fits es.size=true) (hb:Bz w=false) (hn:(!t.plain && decide (es.size>1))=false)
  (hs:slot=if i=0 then 0 else t.place.getD (i-1) 0+1) (hi:i≤es.size) (q:Q (match es[i]?,t.place[i]? with | some (_,x),some j=>some (x,j+1) | _,_=>none) s):wpAny (model prog w) A (setNext a slot i ep) Q E s:=by
 have hpl:t.place.size=es.size:=by
  unfold SetTable.fits at hf
  exact beq_iff_eq.mp (Bool.and_eq_true_iff.mp hf).1
 have hbel:SetTable.below t.place slot=i:=by
  rw[hs]
  split
  ·rename_i e;rw[e];exact K7 ok.up
  ·rename_i e
   have h1:i-1<t.place.size:=by omega
   have eg:=Array.getElem?_eq_getElem h1
   have ed:t.place.getD (i-1) 0=t.place[i-1]:=by simp[Array.getD,h1]
   rw[ed,K3 ok.up eg]
   omega
 unfold setNext setsByText
 refine wpAny_bind (wpAny_setState_of ho hd hf ?_)
 dsimp only
 refine wpAny_bind (wpAny_bind (wpAny_askSetting (wpAny_pure ?_)))
 show wpAny _ _ (if Bz w=true then _ else _) _ _ _
 rw[hb,if_neg Bool.false_ne_true]
 show wpAny _ _ (if (!t.plain && decide (es.size>1))=true then _ else _) _ _ _
 rw[hn,if_neg Bool.false_ne_true]
 refine wpAny_bind ?_
 show wpAny _ _ (if (!t.led && !es.isEmpty)=true then _ else _) _ _ _
 rw[ok.led,hb,if_neg (by simp)]
 refine wpAny_pure ?_
 rw[hbel]
 exact wpAny_pure q
theorem IG {Q:Option (Value×Nat)→Shared→Prop} {slot:Nat} (ho:s.heap.get? a=some o) (hd:o.data= .set es ep t) (hf:t.fits es.size=true) (hb:Bz w=true)
  (q:Q (((pickOrder (w.params.setOrder a ep) es)[i]?).map fun e=>(e.2,slot)) s):wpAny (model prog w) A (setNext a slot i ep) Q E s:=by
 unfold setNext setsByText
 refine wpAny_bind (wpAny_setState_of ho hd hf ?_)
 dsimp only
 refine wpAny_bind (wpAny_bind (wpAny_askSetting (wpAny_pure ?_)))
 show wpAny _ _ (if Bz w=true then _ else _) _ _ _
 rw[hb,if_pos rfl]
 show wpAny _ _ (if (ep != ep)=true then _ else _) _ _ _
 rw[if_neg (by simp)]
 refine wpAny_bind ?_
 unfold setWalk setsByText
 refine wpAny_bind (wpAny_setState_of ho hd hf ?_)
 dsimp only
 refine wpAny_bind (wpAny_bind (wpAny_askSetting (wpAny_pure ?_)))
 show wpAny _ _ (if Bz w=true then _ else _) _ _ _
 rw[hb,if_pos rfl]
 refine wpAny_bind (wpAny_askSetting ?_)
 exact wpAny_pure (wpAny_pure q)
theorem N0 {Q:Value→Shared→Prop} {p:Nat} {e:Int×Value} (ho:s.heap.get? a=some o) (hd:o.data= .set es ep t) (hf:t.fits es.size=true) (hp:es[p]? = some e) (q:Q e.2 s):wpAny (model prog w) A (setNextDrawn a p ep) Q E s:=by
 unfold setNextDrawn
 refine wpAny_bind (wpAny_setState_of ho hd hf ?_)
 dsimp only
 show wpAny _ _ (if (ep != ep)=true then _ else _) _ _ _
 rw[if_neg (by simp)]
 simp only[hp]
 exact wpAny_pure q
theorem MU {x:Value} {Q:Option Value→Shared→Prop} (hit:ItAt s.heap it a (fst i) i es.size ep) (ho:s.heap.get? a=some o) (hd:o.data= .set es ep t) (ok:Gd (Bz w) t) (hf:t.fits es.size=true) (M:NS w a es ep t s.heap fst ord) (hx:ord[i]? = some x) (hl:ord.length=es.size)
  (hQ:∀h',ItAt h' it a (fst (i+1)) (i+1) es.size ep→Heap.SameBut it s.heap h'→Q (some x) { s with heap:=h' }):wpAny (model prog w) A (pyNext (.ref it)) Q E s:=by
 obtain⟨oi,hoi,hci,hdi⟩:=id hit
 have hix:i<es.size:=by rw[←hl];exact (List.getElem?_eq_some_iff.mp hx).1
 unfold pyNext
 refine wpAny_bind (wpAny_attempt (wpAny_callSpecial?_slot (name:=Str.ofString "__next__") hit.typeIs slot_setit_next
  (wpAny_call_entry slot_setit_next hit.typeIs CU ?_ (DF _))))
 show wpAny _ _ (fieldsOf (.ref it) >>= _) _ _ s
 refine wpAny_bind (wpAny_fieldsOf hoi hdi ?_)
 show wpAny _ _ (setEntries a >>= _) _ _ s
 refine wpAny_bind (wpAny_setEntries_of ho hd hf ?_)
 show wpAny _ _ (if (((es.size:Nat):Int) != ((es.size:Nat):Int))=true then _ else _) _ _ _
 rw[if_neg (by simp)]
 have hd1:=fun f2:Value=>Obj.data_mapFields hdi (·.setIfInBounds 0 f2)
 have ho1:=fun f2:Value=>Heap.get?_update_self (Obj.mapFields (·.setIfInBounds 0 f2)) hoi (Obj.isFreed_of_fields (hd1 f2))
 cases M with
 | text hb=>
  rw[List.getElem?_map] at hx
  obtain⟨e,he,rfl⟩:=Option.map_eq_some_iff.mp hx
  have he':(pickOrder (w.params.setOrder a ep) es)[i]? = some e:=by simpa using he
  refine wpAny_bind (IG (i:=i) (ep:=ep) ho hd hf hb ?_)
  rw[he']
  refine wpAny_bind (wpAny_setField hoi hdi (by simp) ?_)
  refine wpAny_bind (wpAny_setField (ho1 _) (hd1 _) (by simp) (wpAny_pure ⟨e.2,rfl,wpAny_pure (hQ _ (Mb hit) ((Heap.SameBut.update ..).trans (Heap.SameBut.update ..)))⟩))
 | led hb hn=>
  rw[List.getElem?_map] at hx
  obtain⟨e,he,rfl⟩:=Option.map_eq_some_iff.mp hx
  have he':es[i]? = some e:=by simpa using he
  have hpl:t.place.size=es.size:=by
   unfold SetTable.fits at hf
   exact beq_iff_eq.mp (Bool.and_eq_true_iff.mp hf).1
  have hp1:i<t.place.size:=by omega
  have hp:t.place[i]? = some t.place[i]:=Array.getElem?_eq_getElem hp1
  have ed:t.place.getD i 0=t.place[i]:=by simp[Array.getD,hp1]
  refine wpAny_bind (Kn (i:=i) (ep:=ep) ho hd ok hf hb hn rfl (Nat.le_of_lt hix) ?_)
  rw[he',hp]
  refine wpAny_bind (wpAny_setField hoi hdi (by simp) ?_)
  refine wpAny_bind (wpAny_setField (ho1 _) (hd1 _) (by simp) (wpAny_pure ⟨e.2,rfl,wpAny_pure (hQ _ ?_ ((Heap.SameBut.update ..).trans (Heap.SameBut.update ..)))⟩))
  have e2:rawInt (((if i+1=0 then 0 else t.place.getD (i+1-1) 0+1:Nat)):Int)=rawInt ((t.place[i]+1:Nat):Int):=by rw[if_neg (by omega),Nat.add_sub_cancel,ed]
  show ItAt _ it a (rawInt (((if i+1=0 then 0 else t.place.getD (i+1-1) 0+1:Nat)):Int)) (i+1) es.size ep
  rw[e2]
  exact Mb hit
 | drw T oT c ps hb hT hdT hps=>
  rw[List.getElem?_map] at hx
  obtain⟨p,hp,rfl⟩:=Option.map_eq_some_iff.mp hx
  have hpe:p<es.size:=hps p (List.mem_of_getElem? hp)
  have ee:es[p]? = some es[p]:=Array.getElem?_eq_getElem hpe
  have ed:es.getD p (0,.none)=es[p]:=by simp[Array.getD,hpe]
  show wpAny _ _ (seqItems? (.ref T) >>= _) _ _ _
  refine wpAny_bind (wpAny_seqItems hT hdT ?_)
  have hpi:((ps.map fun (i:Nat)=>rawInt i).toArray)[i]? = some (rawInt p):=by simp[hp]
  simp only[Int.toNat_natCast,hpi]
  refine wpAny_bind (N0 (p:=p) ho hd hf ee ?_)
  refine wpAny_bind (wpAny_setField hoi hdi (by simp) (wpAny_pure ⟨_,rfl,wpAny_pure ?_⟩))
  rw[ed] at hQ
  exact hQ _ (RJ hit) (Heap.SameBut.update ..)
theorem O0 {Q:Option Value→Shared→Prop} (hh:A.handled=none) (hit:ItAt s.heap it a (fst es.size) es.size es.size ep) (ho:s.heap.get? a=some o) (hd:o.data= .set es ep t) (ok:Gd (Bz w) t) (hf:t.fits es.size=true) (M:NS w a es ep t s.heap fst ord) (hl:ord.length=es.size)
  (hQ:∀h',Heap.ExtBut it s.heap h'→Q none { s with heap:=h' }):wpAny (model prog w) A (pyNext (.ref it)) Q E s:=by
 obtain⟨oi,hoi,hci,hdi⟩:=id hit
 unfold pyNext
 refine wpAny_bind (wpAny_attempt (wpAny_callSpecial?_slot (name:=Str.ofString "__next__") hit.typeIs slot_setit_next
  (wpAny_call_entry slot_setit_next hit.typeIs CU ?_ (DF _))))
 show wpAny _ _ (fieldsOf (.ref it) >>= _) _ _ s
 refine wpAny_bind (wpAny_fieldsOf hoi hdi ?_)
 show wpAny _ _ (setEntries a >>= _) _ _ s
 refine wpAny_bind (wpAny_setEntries_of ho hd hf ?_)
 show wpAny _ _ (if (((es.size:Nat):Int) != ((es.size:Nat):Int))=true then _ else _) _ _ _
 rw[if_neg (by simp)]
 have hd1:=fun f2:Value=>Obj.data_mapFields hdi (·.setIfInBounds 0 f2)
 have ho1:=fun f2:Value=>Heap.get?_update_self (Obj.mapFields (·.setIfInBounds 0 f2)) hoi (Obj.isFreed_of_fields (hd1 f2))
 cases M with
 | text hb=>
  have he':(pickOrder (w.params.setOrder a ep) es)[es.size]? = none:=by
   rw[List.length_map,Array.length_toList] at hl
   simp[hl]
  refine wpAny_bind (IG (i:=es.size) (ep:=ep) ho hd hf hb ?_)
  rw[he']
  refine wpAny_bind (wpAny_setField hoi hdi (by simp) ?_)
  refine wpAny_bind ?_
  simp only[newExc,newTuple]
  refine wpAny_bind (wpAny_newObj_type ?_ (by size_fits))
  refine wpAny_bind (m:=firstArgMember _ _) (wpAny_of_eq (a:=Value.none) (by first | rfl | (simp only[firstArgMember];rfl)) ?_)
  refine wpAny_newObj_type ?_ (by size_fits)
  simp only[raiseNew]
  refine wpAny_bind (wpAny_handled ?_)
  rw[show A.in1.handled=none from hh]
  refine wpAny_bind (wpAny_pure (wpAny_throw ?_))
  refine wpAny_bind (wpAny_isInstance (T:="StopIteration") (b:=true) ⟨_,Heap.get?_push_size _ rfl,rfl⟩ isSubtype_stop ?_)
  exact wpAny_pure (hQ _ (((Heap.SameBut.update ..).extBut.push _).push _))
 | led hb hn=>
  have he':es[es.size]? = none:=by simp
  refine wpAny_bind (Kn (i:=es.size) (ep:=ep) ho hd ok hf hb hn rfl (Nat.le_refl _) ?_)
  rw[he']
  refine wpAny_bind (wpAny_setField hoi hdi (by simp) ?_)
  refine wpAny_bind ?_
  simp only[newExc,newTuple]
  refine wpAny_bind (wpAny_newObj_type ?_ (by size_fits))
  refine wpAny_bind (m:=firstArgMember _ _) (wpAny_of_eq (a:=Value.none) (by first | rfl | (simp only[firstArgMember];rfl)) ?_)
  refine wpAny_newObj_type ?_ (by size_fits)
  simp only[raiseNew]
  refine wpAny_bind (wpAny_handled ?_)
  rw[show A.in1.handled=none from hh]
  refine wpAny_bind (wpAny_pure (wpAny_throw ?_))
  refine wpAny_bind (wpAny_isInstance (T:="StopIteration") (b:=true) ⟨_,Heap.get?_push_size _ rfl,rfl⟩ isSubtype_stop ?_)
  exact wpAny_pure (hQ _ (((Heap.SameBut.update ..).extBut.push _).push _))
 | drw T oT c ps hb hT hdT hps=>
  rw[List.length_map] at hl
  show wpAny _ _ (seqItems? (.ref T) >>= _) _ _ _
  refine wpAny_bind (wpAny_seqItems hT hdT ?_)
  have hpi:((ps.map fun (i:Nat)=>rawInt i).toArray)[es.size]? = none:=by simp[hl]
  simp only[Int.toNat_natCast,hpi]
  refine wpAny_bind (wpAny_setField hoi hdi (by simp) ?_)
  refine wpAny_bind (wpAny_setField (ho1 _) (hd1 _) (by simp) ?_)
  refine wpAny_bind ?_
  simp only[newExc,newTuple]
  refine wpAny_bind (wpAny_newObj_type ?_ (by size_fits))
  refine wpAny_bind (m:=firstArgMember _ _) (wpAny_of_eq (a:=Value.none) (by first | rfl | (simp only[firstArgMember];rfl)) ?_)
  refine wpAny_newObj_type ?_ (by size_fits)
  simp only[raiseNew]
  refine wpAny_bind (wpAny_handled ?_)
  rw[show A.in1.handled=none from hh]
  refine wpAny_bind (wpAny_pure (wpAny_throw ?_))
  refine wpAny_bind (wpAny_isInstance (T:="StopIteration") (b:=true) ⟨_,Heap.get?_push_size _ rfl,rfl⟩ isSubtype_stop ?_)
  exact wpAny_pure (hQ _ ((((Heap.SameBut.update ..).trans (Heap.SameBut.update ..)).extBut.push _).push _))
end
end L2
namespace L2
open PySem PySem.Spec PyProof.Rows
theorem Dy {α:Type}:∀(l:List α) (i:Nat) (h:i<l.length),(l[i]::l.eraseIdx i).Perm l
 | x::xs,0,_=>List.Perm.refl _
 | x::xs,i+1,h=>by
  have h':i<xs.length:=Nat.lt_of_succ_lt_succ h
  exact (List.Perm.swap x xs[i] (xs.eraseIdx i)).trans (List.Perm.cons x (Dy xs i h'))
theorem Ir {α:Type} (next:Nat→Nat):∀(fuel k:Nat) (left:List α) (out:Array α),fuel=left.length→(pickOrder.go next fuel k left out).toList.Perm (out.toList++left)
 | 0,_,left,out,h=>by
  have e:left=[]:=List.length_eq_zero_iff.mp h.symm
  subst e
  unfold pickOrder.go
  simp
 | fuel+1,k,left,out,h=>by
  unfold pickOrder.go
  have hp:0<left.length:=by omega
  have hi:next k%left.length<left.length:=Nat.mod_lt _ hp
  rw[List.getElem?_eq_getElem hi]
  have hl:fuel=(left.eraseIdx (next k%left.length)).length:=by rw[List.length_eraseIdx,if_pos hi];omega
  refine (Ir next fuel (k+1) _ _ hl).trans ?_
  rw[Array.toList_push,List.append_assoc]
  exact List.Perm.append_left _ (Dy _ _ hi)
theorem DO {α:Type} (next:Nat→Nat) (xs:Array α):(pickOrder next xs).toList.Perm xs.toList:=by
 unfold pickOrder
 have:=Ir next xs.size 0 xs.toList #[] (Array.length_toList).symm
 simpa using this
section
variable {prog:Program} {w:World} {A:Around} {E:Value→Shared→Prop} {s:Shared} {a it T0:Addr} {o oT:Obj} {es:Array (Int×Value)} {ep i:Nat} {t:SetTable} {fst:Nat→Value} {ord:List Value} {ks:List Int}
theorem JJ {M:Model} {src:Source} {n:Nat} {Q:Nat→Shared→Prop} (hn:n≠0) (h:∀i,i<n→Q i { s with drawn:=s.drawn.bump src }):wpAny M A (choose src n) Q E s:=
 fun Γ p _=>⟨hn,h _ (Nat.mod_lt _ (Nat.pos_of_ne_zero hn))⟩
theorem KU {α:Type} {M:Model}:∀(n:Nat) (xs:List α) (s:Shared) (Q:List α→Shared→Prop),xs.length=n→(∀ys d',ys.Perm xs→Q ys { s with drawn:=d' })→wpAny M A (drawOrder n xs) Q E s:=by
 intro n
 induction n with
 | zero=>
  intro xs s Q h q
  have e:xs=[]:=List.length_eq_zero_iff.mp h
  subst e
  exact wpAny_pure (q [] s.drawn (List.Perm.refl _))
 | succ n ih=>
  intro xs s Q h q
  cases xs with
  | nil=>exact absurd h (Nat.succ_ne_zero n).symm
  | cons x xs=>
   unfold drawOrder
   refine wpAny_bind (JJ (by simp) fun i hi=>?_)
   rw[List.getElem?_eq_getElem hi]
   have hl:((x::xs).eraseIdx i).length=n:=by rw[List.length_eraseIdx,if_pos hi,h];rfl
   refine wpAny_bind (ih _ _ _ hl fun ys d' hp=>?_)
   exact wpAny_pure (q _ d' ((List.Perm.cons _ hp).trans (Dy _ _ hi)))
structure T9 (w:World) (s:Shared) (a:Addr) (ks:List Int) (h':Heap) (it T0:Addr) (o oT:Obj) (es:Array (Int×Value)) (ep:Nat) (t:SetTable) (fst:Nat→Value) (ord:List Value):Prop where
 lo:s.heap.objs.size≤it
 kk:∀b o,s.heap.get? b=some o→h'.get? b=some o
 at':ItAt h' it a (fst 0) 0 es.size ep
 ho:h'.get? a=some o
 hd:o.data= .set es ep t
 ok:Gd (Bz w) t
 hf:t.fits es.size=true
 hT:h'.get? T0=some oT
 ne:T0≠it
 md:∀h'',h''.get? T0=some oT→NS w a es ep t h'' fst ord
 pm:ord.Perm (es.toList.map (·.2))
 eg:EGood es.toList
 ek:es.toList.map A7=ks
 tl:T0=a∨s.heap.objs.size≤T0
theorem O4 {Q:Value→Shared→Prop} (hS:SetIt w s.heap a ks) (hQ:∀h' d' it T0 o oT es ep t fst ord,T9 w s a ks h' it T0 o oT es ep t fst ord→Q (.ref it) { s with heap:=h',drawn:=d' }):wpAny (model prog w) A (pyIter (.ref a)) Q E s:=by
 obtain⟨o,es,ep,t,ho,hex,hd,hg,hk,nd,hl,ok,hf⟩:=id hS
 have hna:a<s.heap.objs.size:=Heap.lt_size ho
 refine wpAny_pyIter_slot hS.typeIs PySem.F.slot_set_iter (wpAny_call_entry PySem.F.slot_set_iter hS.typeIs Hr ?_ (PySem.F.args_set_iter_1 _))
 show wpAny _ _ (Builtin.Frozenset.sizeOf a >>= _) _ _ s
 refine wpAny_bind ?_
 unfold Builtin.Frozenset.sizeOf
 refine wpAny_bind (wpAny_setEntries_of ho hd hf (wpAny_pure ?_))
 refine wpAny_bind ?_
 unfold setDrawn setsByText
 refine wpAny_bind (wpAny_setState_of ho hd hf ?_)
 dsimp only
 refine wpAny_bind (wpAny_bind (wpAny_askSetting (wpAny_pure (wpAny_pure ?_))))
 show wpAny _ _ (if (!Bz w && (!t.plain && decide (es.size>1)))=true then _ else _) _ _ _
 by_cases hdr:(!Bz w && (!t.plain && decide (es.size>1)))=true
 ·rw[if_pos hdr]
  have hb:Bz w=false:=by
   cases q:Bz w with
   | false=>rfl
   | true=>rw[q] at hdr;cases hdr
  refine wpAny_bind (KU _ _ _ _ (List.length_range) fun ps d' hp=>?_)
  refine wpAny_bind (wpAny_newTuple ?_ (by rw[List.length_map,hp.length_eq,List.length_range,Dz hk];exact Nat.le_of_lt (Nat.lt_trans hl (by decide))))
  have kk:∀b ob,s.heap.get? b=some ob→(s.heap.push { cls:=.type "tuple",data:=.seq (ps.map fun (i:Nat)=>rawInt i).toArray }).get? b=some ob:=fun b ob e=>Heap.get?_push_of_some _ e
  refine wpAny_bind ?_
  unfold setEpoch
  refine wpAny_bind (wpAny_setState_of (kk _ _ ho) hd hf (wpAny_pure ?_))
  refine wpAny_bind (wpAny_newObj_type (wpAny_pure ⟨_,rfl,"set_iterator",_,⟨_,Heap.get?_push_size _ rfl,rfl⟩,slot_setit_next.lookup,?_⟩))
  refine hQ _ d' _ s.heap.objs.size o _ es ep t (fun _=>.ref s.heap.objs.size) _ ⟨?_,fun b ob e=>Heap.get?_push_of_some _ (kk b ob e),⟨_,Heap.get?_push_size _ rfl,rfl,rfl⟩,Heap.get?_push_of_some _ (kk _ _ ho),hd,ok,hf,Heap.get?_push_of_some _ (Heap.get?_push_size _ rfl),?_,fun h'' e=>.drw _ _ _ ps hb e rfl ?_,?_,hg,hk,.inr (Nat.le_refl _)⟩
  ·rw[Heap.size_push];exact Nat.le_succ _
  ·rw[Heap.size_push];exact Nat.ne_of_lt (Nat.lt_succ_self _)
  ·exact fun p hp'=>List.mem_range.mp (hp.mem_iff.mp hp')
  ·refine (hp.map _).trans ?_
   have e:(List.range es.size).map (fun p=>(es.getD p (0,.none)).2)=es.toList.map (·.2):=by
    refine List.ext_getElem (by simp) fun n h1 h2=>?_
    have hn:n<es.size:=by simpa using h1
    simp[Array.getD,hn]
   rw[e]
 ·rw[if_neg hdr]
  refine wpAny_bind (wpAny_pure ?_)
  refine wpAny_bind ?_
  unfold setEpoch
  refine wpAny_bind (wpAny_setState_of ho hd hf (wpAny_pure ?_))
  refine wpAny_bind (wpAny_newObj_type (wpAny_pure ⟨_,rfl,"set_iterator",_,⟨_,Heap.get?_push_size _ rfl,rfl⟩,slot_setit_next.lookup,?_⟩))
  have kk:∀b ob,s.heap.get? b=some ob→(s.heap.push { cls:=.type "set_iterator",data:=.fields #[rawInt 0,rawInt 0,.ref a,rawInt es.size,rawInt ep] }).get? b=some ob:=fun b ob e=>Heap.get?_push_of_some _ e
  cases hb:Bz w with
  | true=>
   refine hQ _ s.drawn _ a o o es ep t (fun _=>rawInt 0) _ ⟨Nat.le_refl _,kk,⟨_,Heap.get?_push_size _ rfl,rfl,rfl⟩,kk _ _ ho,hd,ok,hf,kk _ _ ho,Nat.ne_of_lt hna,fun h'' e=>.text hb,(DO _ _).map _,hg,hk,.inl rfl⟩
  | false=>
   rw[hb] at hdr
   refine hQ _ s.drawn _ a o o es ep t (fun i=>rawInt (((if i=0 then 0 else t.place.getD (i-1) 0+1:Nat)):Int)) _ ⟨Nat.le_refl _,kk,⟨_,Heap.get?_push_size _ rfl,rfl,rfl⟩,kk _ _ ho,hd,ok,hf,kk _ _ ho,Nat.ne_of_lt hna,fun h'' e=>.led hb (by simpa using hdr),List.Perm.refl _,hg,hk,.inl rfl⟩
theorem PJ (hh:A.handled=none) {ks:List Int} {s0:Shared} {h0:Heap} (I:T9 w s0 a ks h0 it T0 o oT es ep t fst ord):Walks prog w A it [it,a,T0] [it] es.size (fun i v=>ord[i]? = some v) (fun i h=>ItAt h it a (fst i) i es.size ep∧h.get? a=some o∧h.get? T0=some oT):=by
 have hl:ord.length=es.size:=by rw[I.pm.length_eq,List.length_map,Array.length_toList]
 have na:a≠it:=fun e=>by
  obtain⟨oi,h1,_,h3⟩:=I.at'
  subst e
  rw[I.ho] at h1;cases h1
  rw[I.hd] at h3;cases h3
 refine⟨fun b hb=>by simp at hb;simp[hb],fun i h h' st k=>?_,fun i s Q E hi st hQ=>?_,fun s Q E st hQ=>?_,fun i s Q E st hQ=>?_⟩
 ·obtain⟨⟨oi,h1,r⟩,h2,h3⟩:=st
  exact⟨⟨oi,k it (by simp) _ h1,r⟩,k a (by simp) _ h2,k T0 (by simp) _ h3⟩
 ·obtain⟨h1,h2,h3⟩:=st
  have hx:ord[i]? = some ord[i]:=List.getElem?_eq_getElem (by omega)
  refine MU h1 h2 I.hd I.ok I.hf (I.md _ h3) hx hl fun h' it' sb=>?_
  exact hQ _ h' s.toks hx ⟨it',(sb.2 a na).trans h2,(sb.2 T0 I.ne).trans h3⟩ fun b ob hb e=>(sb.2 b (by simpa using hb)).trans e
 ·obtain⟨h1,h2,h3⟩:=st
  refine O0 hh h1 h2 I.hd I.ok I.hf (I.md _ h3) hl fun h' eb=>?_
  exact hQ h' s.toks fun b ob hb e=>eb b ob (by simpa using hb) e
 ·obtain⟨h1,h2,h3⟩:=st
  refine wpAny_pyIter_slot h1.typeIs DE (wpAny_call_entry DE h1.typeIs Fu ?_ (Gn _))
  exact wpAny_pure ⟨_,rfl,"set_iterator",_,h1.typeIs,slot_setit_next.lookup,hQ⟩
end
end L2
namespace L2
open PySem PySem.Spec PyProof.Rows
theorem Ov {es:Array (Int×Value)} {ord:List Value} {ks:List Int} (pm:ord.Perm (es.toList.map (·.2))) (eg:EGood es.toList) (ek:es.toList.map A7=ks):∃ns,IntsAre ord ns∧ns.Perm ks:=by
 let vk:Value→Int:=fun v=>match v with | .int k _=>k | _=>0
 have each:∀v∈ord,∃t,v= .int (vk v) t:=fun v hv=>by
  obtain⟨e,he,rfl⟩:=List.mem_map.mp (pm.mem_iff.mp hv)
  obtain⟨_,t,h2⟩:=eg e he
  exact⟨t,h2⟩
 refine⟨ord.map vk,?_,?_⟩
 ·clear pm
  induction ord with
  | nil=>exact .nil
  | cons v r ih=>
   obtain⟨t,e⟩:=each v List.mem_cons_self
   have:=ih fun x hx=>each x (List.mem_cons_of_mem _ hx)
   rw[List.map_cons]
   generalize vk v=k at e
   subst e
   exact .cons k t this
 ·refine (pm.map vk).trans ?_
  rw[List.map_map,←ek]
  exact List.Perm.refl _
section
variable {prog:Program} {w:World} {A:Around} {E:Value→Shared→Prop} {s:Shared} {a:Addr} {ks:List Int}
theorem Pp {Q:Bool→Shared→Prop} (hS:SetIt w s.heap a ks) (q:Q false s):wpAny (model prog w) A (Builtin.List.listLengthHint (.ref a)) Q E s:=by
 unfold Builtin.List.listLengthHint
 refine wpAny_bind (wpAny_specialOf hS.typeIs slot_set_len'.lookup ?_)
 have hsp:splitId "set.__len__"=some ("set","__len__"):=by decide +kernel
 simp only[hsp]
 refine wpAny_bind (wpAny_isInstance hS.typeIs sub_set_self ?_)
 rw[if_neg (by simp)]
 show wpAny _ _ (typeOf (.ref a) >>= _) _ _ _
 refine wpAny_bind (wpAny_typeOf hS.typeIs ?_)
 exact wpAny_pure q
theorem KI {Q:List Value→Shared→Prop} (hh:A.handled=none) (hS:SetIt w s.heap a ks) (hQ:∀(s':Shared) (acc:List Value) (ns:List Int),s.heap.objs.size≤s'.heap.objs.size→(∀b o,s.heap.get? b=some o→s'.heap.get? b=some o)→s'.gens=s.gens→s'.os=s.os→IntsAre acc ns→ns.Perm ks→Q acc s') :
  wpAny (model prog w) A (collect (.ref a)) Q E s:=by
 obtain⟨o0,es0,ep0,t0,ho0,_,_,_,hk0,_,hl0,_⟩:=id hS
 have hlt:a<s.heap.objs.size:=Heap.lt_size ho0
 unfold collect
 refine wpAny_bind (wpAny_runValue (codeAny_builtin F.entry_proto_collect ?_))
 rw[Around.under_plainId F.plain_proto_collect _]
 show wpAny _ A.in1 (newList [] >>= fun l=>again (.builtin "list.__iadd__" ⟨[l,.ref a],[]⟩)) _ _ s
 refine wpAny_bind (wpAny_newObj_type ?_)
 refine wpAny_pure ⟨plainId_quiet F.plain_list_iadd _,codeAny_builtin F.entry_list_iadd ?_⟩
 rw[Around.under_plainId F.plain_list_iadd _]
 have kk1:∀b ob,s.heap.get? b=some ob→(s.heap.push { cls:=.type "list",data:=.seq ([]:List Value).toArray }).get? b=some ob:=fun b ob e=>Heap.get?_push_of_some _ e
 have hS1:SetIt w ({ s with heap:=s.heap.push { cls:=.type "list",data:=.seq ([]:List Value).toArray } }:Shared).heap a ks:=hS.keep fun ob e=>kk1 _ _ e
 show wpAny _ A.in1 (Builtin.List.listExtendWith (.ref s.heap.objs.size) (.ref a) (.ref s.heap.objs.size)) _ _ _
 unfold Builtin.List.listExtendWith
 refine wpAny_bind (wpAny_typeOf hS1.typeIs ?_)
 have h1:Builtin.List.listSameRef (.ref s.heap.objs.size) (.ref a)=false:=by simp[Builtin.List.listSameRef];exact Nat.ne_of_gt hlt
 have h2:(Value.type "set" == Value.type "list")=false:=by decide
 have h3:(Value.type "set" == Value.type "tuple")=false:=by decide
 simp only[h1,h2,h3,Bool.or_false,Bool.false_eq_true,if_false]
 refine wpAny_bind (O4 hS1 fun h' d' it T0 o oT es ep t fst ord I=>?_)
 have hS2:SetIt w ({ s with heap:=h',drawn:=d' }:Shared).heap a ks:=hS1.keep fun ob e=>I.kk _ _ e
 refine wpAny_bind (wpAny_holding (Pp (s:={ s with heap:=h',drawn:=d' }) hS2 ?_))
 show wpAny _ A.in1 (rule "list.extend.makes-room" >>= fun _=>Builtin.List.listTouch (.ref s.heap.objs.size) >>= fun _=>
  again (.builtin "list.extend.loop" ⟨[.ref s.heap.objs.size,.ref it,.ref s.heap.objs.size],[]⟩)) _ _ _
 refine wpAny_bind (wpAny_rule ?_)
 have hS₁:h'.get? s.heap.objs.size=some { cls:=.type "list",data:=.seq ([]:List Value).toArray }:=I.kk _ _ (Heap.get?_push_size _ rfl)
 refine wpAny_bind ?_
 show wpAny _ A.in1 (updateSeq s.heap.objs.size (·.push .none) >>= fun _=>updateSeq s.heap.objs.size (·.pop)) _ _ _
 refine wpAny_bind (wpAny_updateSeq hS₁ rfl ?_)
 have hS₂:=Heap.get?_update_self (Obj.mapSeq (·.push Value.none)) hS₁ rfl
 refine wpAny_updateSeq hS₂ rfl ?_
 have hS₃:=Heap.get?_update_self (Obj.mapSeq (·.pop)) hS₂ rfl
 have oth:∀b ob,b≠s.heap.objs.size→h'.get? b=some ob→((h'.update s.heap.objs.size (Obj.mapSeq (·.push Value.none))).update s.heap.objs.size (Obj.mapSeq (·.pop))).get? b=some ob:=
  fun b ob hb e=>(Heap.get?_update_other _ _ (Ne.symm hb)).trans ((Heap.get?_update_other _ _ (Ne.symm hb)).trans e)
 have esz:({ s with heap:=s.heap.push { cls:=.type "list",data:=.seq ([]:List Value).toArray } }:Shared).heap.objs.size=s.heap.objs.size+1:=Heap.size_push _ _
 have nit:it≠s.heap.objs.size:=Nat.ne_of_gt (by have:=I.lo;rw[esz] at this;exact this)
 have nT:T0≠s.heap.objs.size:=by
  rcases I.tl with z | z
  ·rw[z];exact Nat.ne_of_lt hlt
  ·exact Nat.ne_of_gt (by rw[esz] at z;exact z)
 have hSf:s.heap.objs.size∉[it,a,T0]:=by
  simp only[List.mem_cons,List.not_mem_nil,or_false,not_or]
  exact⟨Ne.symm nit,Nat.ne_of_gt hlt,Ne.symm nT⟩
 have W:=(PJ (prog:=prog) (A:=A.in1) (by simpa using hh) I).toS
 have hn:es.size≤sizeLine:=by rw[Dz I.ek];exact Nat.le_of_lt (Nat.lt_trans hl0 (by decide))
 obtain⟨oi,hoi,ri⟩:=I.at'
 refine wpAny_pure ⟨plainId_quiet F.plain_extend_loop _,codeAny_extend_loopS W hn _ hSf _ es.size 0 _ _ _ rfl (Nat.zero_le _) ⟨⟨oi,oth _ _ nit hoi,ri⟩,oth _ _ (Nat.ne_of_lt hlt) I.ho,oth _ _ nT I.hT⟩ hS₃ (ItemsOf.nil _) fun s' acc' c' hm hS' hacc=>?_⟩
 show wpAny _ A (load s.heap.objs.size >>= _) _ _ s'
 refine wpAny_bind (wpAny_load hS' ?_)
 have hl:ord.length=es.size:=by rw[I.pm.length_eq,List.length_map,Array.length_toList]
 have eo:acc'.toList=ord:=by
  refine List.ext_getElem (by rw[Array.length_toList,hacc.1,hl]) fun n h1 h2=>?_
  have hn1:n<acc'.size:=by simpa using h1
  have:ord[n]? = some acc'[n]:=hacc.2 n _ (Array.getElem?_eq_getElem hn1)
  rw[List.getElem?_eq_getElem h2] at this
  have:=Option.some.inj this
  simpa using this.symm
 obtain⟨ns,hi,hp⟩:=Ov I.pm I.eg I.ek
 refine wpAny_pure (hQ s' acc'.toList ns (Nat.le_of_lt (Heap.lt_size hS')) (fun b ob e=>?_) hm.gens hm.os (by rw[eo];exact hi) hp)
 have hb:b<s.heap.objs.size:=Heap.lt_size e
 refine hm.heap b ob ?_ (oth b ob (Nat.ne_of_lt hb) (I.kk _ _ (kk1 _ _ e)))
 simp only[List.mem_cons,List.not_mem_nil,or_false,not_or]
 exact⟨Nat.ne_of_lt hb,Nat.ne_of_lt (Nat.lt_trans hb (by have:=I.lo;rw[esz] at this;exact this))⟩
theorem Ls {Q:Value→Shared→Prop} (hh:A.handled=none) (hS:SetIt w s.heap a ks) (h64:ks.length<64)
  (h:∀(s':Shared) (l:Addr) (out:Array Value) (n:Nat) (ns:List Int),(∀b o,s.heap.get? b=some o→s'.heap.get? b=some o)→s'.gens=s.gens→s'.os=s.os→s.heap.objs.size≤l→s'.heap.get? l=some (seqObj "list" out n)→IntsAre out.toList ns→ns.Perm ks→ns.Pairwise (· ≤ ·)→Q (.ref l) s') :
  wpAny (model prog w) A (call (.builtin "sorted") [.ref a]) Q E s:=by
 refine Calls.call_function_entry kind_sorted plain_sorted entry_sorted (args_sorted1 _) ?_
 unfold Builtin.«sorted»
 refine wpAny_bind (m:=checkCount "sorted" 1 1 _) (wpAny_pure ?_)
 refine wpAny_bind (KI (by simpa using hh) hS fun s1 vs ns1 lo kk eg eo hi hp=>?_)
 have hlen:vs.length<64:=by rw[IntsAre.length hi,hp.length_eq];exact h64
 refine wpAny_bind (wpAny_newList ?_ (Nat.le_of_lt (Nat.lt_trans hlen (by decide))))
 have hoL:(s1.heap.push (seqObj "list" vs.toArray 0)).get? s1.heap.objs.size=some (seqObj "list" vs.toArray 0):=Heap.get?_push_size _ rfl
 show wpAny _ _ _ _ _ { s1 with heap:=s1.heap.push (seqObj "list" vs.toArray 0) }
 refine wpAny_bind (wpAny_holding (wpAny_call_entry slot_list_sort ⟨_,hoL,rfl⟩ entry_list_sort (list_sort_tree hoL hi hlen fun out ns' a1 a2 a3=>⟨_,rfl,?_⟩) (args_list_sort _)))
 refine wpAny_pure ⟨_,rfl,?_⟩
 obtain⟨e1,ho1⟩:∃e1,((s1.heap.push (seqObj "list" vs.toArray 0)).update s1.heap.objs.size (Obj.mapSeq fun _=>#[])).get? s1.heap.objs.size=some (seqObj "list" #[] e1):=⟨_,get?_update_seq hoL (fun _=>#[])⟩
 have ho2:((((s1.heap.push (seqObj "list" vs.toArray 0)).update s1.heap.objs.size (Obj.mapSeq fun _=>#[])).push (seqObj "tuple" vs.toArray 0)).push (seqObj "list" #[] 0)).get? s1.heap.objs.size=some (seqObj "list" #[] e1):=Heap.get?_push_of_some _ (Heap.get?_push_of_some _ ho1)
 refine h _ s1.heap.objs.size out _ ns' (fun b ob e=>?_) eg eo lo (get?_update_seq ho2 (fun _=>out)) a1 (a2.trans hp) a3
 have e2:=kk b ob e
 have nb:b≠s1.heap.objs.size:=Nat.ne_of_lt (Heap.lt_size e2)
 exact (Heap.get?_update_other _ _ (Ne.symm nb)).trans (Heap.get?_push_of_some _ (Heap.get?_push_of_some _ ((Heap.get?_update_other _ _ (Ne.symm nb)).trans (Heap.get?_push_of_some _ e2))))
end
end L2
namespace L2
open PySem PySem.Spec PyProof.Rows
abbrev Bn (w:World) (a:Addr) (S:Int→Bool) (n:Nat):HO:=.ext fun h=>∃ks,SetIs w h a ks∧(∀k,S k=true↔k∈ks)∧ks.length≤n
theorem D0 {P:Program} {w:World} {H:Hp} {h:Heap} {a:Addr} {S:Int→Bool} {n:Nat} {ks:List Int} (x:SetIs w h a ks) (m:∀k,S k=true↔k∈ks) (hl:ks.length≤n):ObjOk P w H h a (Bn w a S n):=
 ⟨⟨ks,x,m,hl⟩,let ⟨o,_,_,_,ho,_⟩:=x;⟨o,ho⟩,fun h1 h2 ⟨ks,y,r⟩ k=>⟨ks,y.keep k,r⟩⟩
section
variable {X:Cx}
theorem Inv.setO {pins:List (Addr×Obj)} {σ:St} {H:Hp} {s:Shared} {a:Addr} {S:Int→Bool} {n:Nat} (I:Inv X pins σ H s) (h:H a=some (Bn X.w a S n)):∃ks,SetIs X.w s.heap a ks∧(∀k,S k=true↔k∈ks)∧ks.length≤n:=(I.hok _ _ h).1
theorem N3:BP X (.type "set") (fun xs H Q=>xs=[]∧∀a,H a=none→Q (.ref a) (upd H a (Bn X.w a (fun _=>false) 0))):=by
 intro pins s σ H xs us Q I r h
 obtain⟨rfl,q⟩:=h
 cases r
 refine PN (w:=X.w) ⟨.ref s.heap.objs.size,_,I.laid (t':=s.toks) (o:=Bn X.w s.heap.objs.size (fun _=>false) 0) (fun b ob e=>Heap.get?_push_of_some _ e) (Nat.le_refl _) ?_,rfl,q _ (I.hok.fresh (Nat.le_refl _))⟩
 exact D0 set0_is (fun k=>by simp) (Nat.le_refl _)
abbrev MX (w:World) (a:Addr) (S:Int→Bool) (n:Nat):HO:=.ext fun h=>∃ks,SetIt w h a ks∧(∀k,S k=true↔k∈ks)∧ks.length≤n
theorem Rm {P:Program} {w:World} {H:Hp} {h:Heap} {a:Addr} {S:Int→Bool} {n:Nat} {ks:List Int} (x:SetIt w h a ks) (m:∀k,S k=true↔k∈ks) (hl:ks.length≤n):ObjOk P w H h a (MX w a S n):=
 ⟨⟨ks,x,m,hl⟩,let ⟨o,_,_,_,ho,_⟩:=x;⟨o,ho⟩,fun h1 h2 ⟨ks,y,r⟩ k=>⟨ks,y.keep k,r⟩⟩
theorem Inv.setR {pins:List (Addr×Obj)} {σ:St} {H:Hp} {s:Shared} {a:Addr} {S:Int→Bool} {n:Nat} (I:Inv X pins σ H s) (h:H a=some (MX X.w a S n)):∃ks,SetIt X.w s.heap a ks∧(∀k,S k=true↔k∈ks)∧ks.length≤n:=(I.hok _ _ h).1
theorem DR (hc:X.calm=true) {pins:List (Addr×Obj)} {s:Shared} {σ:St} {H:Hp} {Q:VK} {a:Addr} {ks:List Int} {S:Int→Bool} {n:Nat} (I:Inv X pins σ H s) (hS:SetIt X.w s.heap a ks) (hm:∀k,S k=true↔k∈ks) (hl:ks.length≤n) (hn:n<64)
  (q:∀(l:Addr) (ns:List Int),H l=none→ns.Pairwise (· < ·)→(∀k,k∈ns↔S k=true)→Q (.ref l) (upd H l (.lst (ns.map V.int)))):wpAny (model X.prog X.w) X.A (call (.builtin "sorted") [.ref a]) (EP X pins σ Q) X.xe s:=by
 have ndk:ks.Nodup:=let ⟨_,_,_,_,_,_,_,_,_,nd,_⟩:=hS;nd
 refine Ls (w:=X.w) (I.ok.hd hc) hS (by omega) fun s' l out c ns kk eg eo lo hl' hi hp hs=>?_
 have nd:ns.Nodup:=hp.nodup_iff.mpr ndk
 have lt:ns.Pairwise (· < ·):=(List.Pairwise.and hs nd).imp fun {x y} h=>by have h1:=h.1;have h2:=h.2;omega
 have hnone:H l=none:=I.hok.fresh lo
 have old:∀b u,H b=some u→upd H l (.lst (ns.map V.int)) b=some u:=fun b u e=>by rw[Ax (Am e hnone)];exact e
 have len:(ns.map V.int).length≤sizeLine:=by
  rw[List.length_map,hp.length_eq]
  exact Nat.le_of_lt (Nat.lt_of_le_of_lt hl (Nat.lt_trans hn (by decide)))
 have un:Un (Hm X.stack) [] H (upd H l (.lst (ns.map V.int))) s.heap s'.heap:=
  ⟨fun b o e _ _ _=>kk b o e,fun b o e _ _ _=>⟨o.slots,kk b o e⟩,fun b o e n _=>by rw[Ax (Nat.ne_of_lt (Nat.lt_of_lt_of_le (Heap.lt_size e) lo))];exact n,fun b o e _=>⟨o,kk b o e⟩,fun b xs e=>old b _ e,fun b o u e=>old b _ e,fun b ps e=>⟨#[],by rw[old b _ e];simp⟩⟩
 have hok:HOk X.prog X.w (upd H l (.lst (ns.map V.int))) s'.heap:=fun b u e=>by
  by_cases z:b=l
  ·subst z
   rw[upd_same] at e
   cases e
   exact⟨len,out.toList,c,FA hi,by rw[hl',Array.toArray_toList]⟩
  ·rw[Ax z] at e
   exact (I.hok b u e).stay (fun c v _ e=>kk c v e) (fun c e=>old c _ e) fun c xs e=>old c _ e
 exact⟨.ref l,_,I.call' (ch:=[]) eo un hok (by rw[eg];exact I.bare) (fun b hb=>absurd hb (by simp)),rfl,q l ns hnone lt fun k=>by rw[hp.mem_iff];exact (hm k).symm⟩
theorem EY (hc:X.calm=true):BP X (.builtin "sorted") (fun xs H Q=>∃a S n,xs=[.ref a]∧H a=some (Bn X.w a S n)∧n<64∧∀(l:Addr) (ns:List Int),H l=none→ns.Pairwise (· < ·)→(∀k,k∈ns↔S k=true)→Q (.ref l) (upd H l (.lst (ns.map V.int)))):=by
 intro pins s σ H xs us Q I r h
 obtain⟨a,S,n,rfl,ha,hn,q⟩:=h
 obtain⟨u,rfl,ru⟩:=Dk r
 cases ru
 obtain⟨ks,hS,hm,hl⟩:=I.setO ha
 exact DR hc I hS.it hm hl hn q
theorem JL (hc:X.calm=true):BP X (.builtin "sorted") (fun xs H Q=>∃a S n,xs=[.ref a]∧H a=some (MX X.w a S n)∧n<64∧∀(l:Addr) (ns:List Int),H l=none→ns.Pairwise (· < ·)→(∀k,k∈ns↔S k=true)→Q (.ref l) (upd H l (.lst (ns.map V.int)))):=by
 intro pins s σ H xs us Q I r h
 obtain⟨a,S,n,rfl,ha,hn,q⟩:=h
 obtain⟨u,rfl,ru⟩:=Dk r
 cases ru
 obtain⟨ks,hS,hm,hl⟩:=I.setR ha
 exact DR hc I hS hm hl hn q
variable {o e:Expr} {es:List Expr} {to:TE} {t:TA} {apos cpos:Pos}
def TF (X:Cx) (to:TE) (t:TA):TE:=fun σ H Q=>to σ H fun x H1=>∃a S n,x= .ref a∧H1 a=some (Bn X.w a S n)∧t σ H1 fun xs H2=>∃k S2 n2,xs=[.int k]∧H2 a=some (Bn X.w a S2 n2)∧n2+1<2000∧Q .non (upd H2 a (Bn X.w a (fun j=>S2 j || decide (j=k)) (n2+1)))
theorem QW (ho:PE X o to) (hp:PA X (e::es) t) (hbase:attributeBase o "add" X.env (eval o X.env)=eval o X.env:=by rfl)
  (hfew:((backTo cpos (starEach (e::es) X.env)).all (fun x=>!x.1) && (backToKw cpos (keywordEach [] X.env)).all (fun x=>x.1.isSome)
   && decide ((e::es).length+([]:List Keyword).length+(if ([]:List Keyword).isEmpty then 0 else 1)<30))=true:=by rfl)
  (hline:(apos.endLine == cpos.line)=true:=by rfl) (hs:starEach (e::es) X.env=(false,eval e X.env)::starEach es X.env:=by rfl) (hplain:(backTo cpos (starEach es X.env)).any (·.1)=false:=by rfl) :
  PE X (.Call (.Attribute o "add" apos) (e::es) [] cpos) (TF X to t):=by
 intro pins s σ H Q I h
 refine wpAny_Call_method_late hbase hfew hline rfl (AS (ho pins s σ H _ I h) fun v s1 ⟨x,H1,I1,r1,a,S,n,ex,ha,q1⟩=>?_)
 subst ex
 cases r1
 obtain⟨ks,hS,hm,hl⟩:=I1.setO ha
 refine⟨"set","set.add",PySem.F.plainAttrs_set,PySem.F.slot_set_add,PySem.F.type_set_add,hS.typeIs,fun b eb=>hS.noDict b eb,?_⟩
 have hA:=hp cpos pins s1 σ H1 _ I1 q1
 rw[hs] at hA ⊢
 refine Calls.callWith_builtin (by show (false || (backTo cpos (starEach es X.env)).any (·.1))=false;rw[hplain]<;>rfl) (Calls.evalArgs_plain ?_)
 refine AS hA fun us s2 ⟨vs,H2,I2,r2,k,S2,n2,ek,ha2,hn2,q2⟩=>?_
 subst ek
 obtain⟨u,rfl,ru⟩:=Dk r2
 obtain⟨tk,rfl⟩:=ru
 obtain⟨ks2,hS2,hm2,hl2⟩:=I2.setO ha2
 refine KG (w:=X.w) hS2 (by omega) fun h' ks' hsb hS' hm' hl'=>?_
 have mu:Td (H2 a):=by rw[ha2];exact True.intro
 refine⟨.non,_,I2.write (x:=a) (e:=a) (t':=s2.toks+1) mu (.inl rfl) (fun b ob nb eb=>(hsb.2 b nb).trans eb) (let ⟨o,_,_,_,ho,_⟩:=hS';⟨o,ho⟩) (D0 hS' (fun j=>?_) (by omega)),rfl,q2⟩
 rw[hm' j,Bool.or_eq_true,decide_eq_true_eq,hm2 j]
end
end L2
namespace L2
open PySem PySem.Spec PyProof.Rows
theorem Jk:∀(names:List (Str×NameKind)) (h:Heap) (acc:List (Str×Addr)) (n:Str) (c:Addr),(cellsFrom h.objs.size names acc).lookup n=some c→acc.lookup n=some c∨(h.objs.size≤c∧(pushCells h names).IsCell c none)
 | [],_,_,_,_,e=>.inl e
 | (name,kind)::r,h,acc,n,c,e=>by
  unfold cellsFrom at e
  unfold pushCells
  split at e
  ·rename_i hk
   rw[if_pos hk]
   have e':(cellsFrom (h.push { cls:=.type "cell",data:=.cell none }).objs.size r ((name,h.objs.size)::acc)).lookup n=some c:=by rw[Heap.size_push];exact e
   rcases Jk r _ _ n c e' with z | ⟨z1,z2⟩
   ·rw[List.lookup_cons] at z
    cases hb:n == name with
    | true=>
     rw[hb] at z
     cases z
     exact .inr ⟨Nat.le_refl _,_,pushCells_keeps r _ _ _ (Heap.get?_push_size _ rfl),rfl⟩
    | false=>rw[hb] at z;exact .inl z
   ·rw[Heap.size_push] at z1
    exact .inr ⟨by omega,z2⟩
  ·rename_i hk
   rw[if_neg hk]
   exact Jk r h acc n c e
theorem Lc:∀(names:List (Str×NameKind)) (k:Nat) (acc:List (Str×Addr)),(∀x y c,acc.lookup x=some c→acc.lookup y=some c→x=y)→(∀x c,acc.lookup x=some c→c<k)→∀x y c,(cellsFrom k names acc).lookup x=some c→(cellsFrom k names acc).lookup y=some c→x=y
 | [],_,_,hi,_,x,y,c,e1,e2=>hi x y c e1 e2
 | (name,kind)::r,k,acc,hi,hl,x,y,c,e1,e2=>by
  unfold cellsFrom at e1 e2
  split at e1
  ·rename_i hk
   rw[if_pos hk] at e2
   have look:∀x c,((name,k)::acc).lookup x=some c→(x=name∧c=k)∨acc.lookup x=some c:=fun x c e=>by
    rw[List.lookup_cons] at e
    cases hb:x == name with
    | true=>rw[hb] at e;cases e;exact .inl ⟨beq_iff_eq.mp hb,rfl⟩
    | false=>rw[hb] at e;exact .inr e
   refine Lc r (k+1) _ (fun x y c h1 h2=>?_) (fun x c h=>?_) x y c e1 e2
   ·rcases look x c h1 with⟨a,b⟩|a<;>rcases look y c h2 with⟨a',b'⟩|a'
    ·rw[a,a']
    ·have:=hl y c a';rw[b] at this;exact absurd this (Nat.lt_irrefl _)
    ·have:=hl x c a;rw[b'] at this;exact absurd this (Nat.lt_irrefl _)
    ·exact hi x y c a a'
   ·rcases look x c h with⟨_,b⟩|a
    ·rw[b];exact Nat.lt_succ_self _
    ·exact Nat.lt_succ_of_lt (hl x c a)
  ·rename_i hk
   rw[if_neg hk] at e2
   exact Lc r k acc hi hl x y c e1 e2
theorem Lk:∀(names:List (Str×NameKind)) (k:Nat) (acc:List (Str×Addr)) (x:Str),(names.any fun p=>p.1 == x && p.2 == .cell)=true∨(∃c,acc.lookup x=some c)→∃c,(cellsFrom k names acc).lookup x=some c
 | [],_,_,_,h=>by
  rcases h with z | z
  ·cases z
  ·exact z
 | (name,kind)::r,k,acc,x,h=>by
  unfold cellsFrom
  by_cases hk:(kind == NameKind.cell)=true
  ·rw[if_pos hk]
   refine Lk r (k+1) _ x ?_
   rw[List.lookup_cons]
   cases hb:x == name with
   | true=>exact .inr ⟨_,rfl⟩
   | false=>
    rcases h with z | z
    ·rw[List.any_cons,Bool.or_eq_true] at z
     rcases z with z | z
     ·rw[Bool.and_eq_true] at z
      have:x == name:=by rw[beq_iff_eq];exact (beq_iff_eq.mp z.1).symm
      rw[hb] at this
      cases this
     ·exact .inl z
    ·exact .inr z
  ·rw[if_neg hk]
   refine Lk r k acc x ?_
   rcases h with z | z
   ·rw[List.any_cons,Bool.or_eq_true] at z
    rcases z with z | z
    ·rw[Bool.and_eq_true] at z
     exact absurd z.2 hk
    ·exact .inl z
   ·exact .inr z
theorem Om {M:Model} {A:Around} {E:Value→Shared→Prop} {s:Shared} {scope:Scope} {globals:Addr} {cl:List (Str×Addr)} {qual:Str} {env:Env} {Q:Env→Shared→Prop}
  (h:Q (newEnv scope s.heap.objs.size globals (cellsFrom (s.heap.objs.size+1) scope.names cl) qual none .none (some env) builtinsNs) { s with heap:=pushCells (s.heap.push { cls:=.type "dict",data:=.dict #[] }) scope.names }) :
  wpAny M A (newFunctionEnv scope globals cl [] qual none .none (some env)) Q E s:=by
 simp only[newFunctionEnv,Option.isSome_some,if_true]
 refine wpAny_bind (wpAny_alloc ?_)
 refine wpAny_bind (wpAny_layCells _ (fun name kind cells=>by cases hkc:kind == NameKind.cell<;>simp[hkc]) _ _ _ _ ?_)
 rw[show ({ s with heap:=s.heap.push { cls:=.type "dict",data:=.dict #[] } }:Shared).heap.objs.size=s.heap.objs.size+1 from Heap.size_push ..]
 exact wpAny_bind (wpAny_pure (wpAny_pure h))
def Cx.cmk (X:Cx) (N:List Str) (scope:Scope) (cl:List (Str×Addr)) (c:CC):Cx:=
 { X with N:=N,s₀:=c.s,H₀:=c.H,env:=compEnvC scope (cellsFrom (c.s.heap.objs.size+1) scope.names cl) c.s.heap.objs.size X.env,outer:=X.stack,ex:=c.fp,fn:=fun x=>(scope.names.any fun p=>p.1 == x && p.2 == .cell) && !(cl.any fun p=>p.1 == x),pn:=[] }
section
variable {X:Cx} {N:List Str} {scope:Scope} {cl:List (Str×Addr)} {js:List (Option Nat)} {pins:List (Addr×Obj)} {σ:St} {H:Hp} {s:Shared} {fp:List Addr}
theorem Inv.cmk {h':Heap} (I:Inv X pins σ H s) (hf:∀b∈fp,B3 X pins H b) (hfo:∀b∈fp,b<s.heap.objs.size) (hk:scope.kind= .function)
  (hcl:∀p∈cl,X.env.cells.lookup p.1=some p.2) (hcn:∀x,((relabel scope X.env).names.lookup x=some .cell∨(relabel scope X.env).names.lookup x=some .free)→∃c,(cellsFrom (s.heap.objs.size+1) scope.names cl).lookup x=some c)
  (hsh:FV X N scope js) (hsc:∀(i:Nat) (x:Str) (j:Nat),N[i]? = some x→js[i]? = some (some j)→∀k,(cellsFrom k scope.names cl).lookup x=cl.lookup x) (hl:js.length=N.length)
  (e:h'=pushCells (s.heap.push { cls:=.type "dict",data:=.dict #[] }) scope.names) {t':Nat} :
  Inv (X.cmk N scope cl ⟨s,H,fp⟩) [] (sub js σ) H { s with heap:=h',toks:=t' }:=by
 have hlook:∀x c,cl.lookup x=some c→X.env.cells.lookup x=some c:=fun x c e=>hcl (x,c) (PySem.mem_of_lookup e)
 have hkeep:∀b o,s.heap.get? b=some o→h'.get? b=some o:=fun b o q=>by rw[e];exact pushCells_keeps _ _ b o (Heap.get?_push_of_some _ q)
 have clt:∀x c,cl.lookup x=some c→c<s.heap.objs.size:=fun x c q=>by
  obtain⟨v,o,ho,_⟩:=I.cell x c (hlook x c q)
  exact Heap.lt_size ho
 have hc:∀x c,(cellsFrom (s.heap.objs.size+1) scope.names cl).lookup x=some c→cl.lookup x=some c∨(s.heap.objs.size+1≤c∧h'.IsCell c none):=fun x c q=>by
  have q':(cellsFrom (s.heap.push { cls:=.type "dict",data:=.dict #[] }).objs.size scope.names cl).lookup x=some c:=by rw[Heap.size_push];exact q
  have:=Jk _ _ _ x c q'
  rw[Heap.size_push] at this
  rw[e]
  exact this
 have hL:h'.Ns s.heap.objs.size (fun _=>none):=by
  rw[e]
  exact (Heap.Ns.new s.heap (.type "dict")).keeps (pushCells_keeps _ _)
 refine⟨⟨I.ok.mod,?_,I.ok.glob,I.ok.blt,Nat.le_refl _,?_,fun x hx=>hcn x hx,fun x c hx q=>?_,I.ok.hd,I.ok.frames,.inl rfl,fun b hb=>⟨Nat.ne_of_lt (hfo b hb),fun x c q=>?_⟩,
   I.bs,Nat.le_trans I.ok.bsz I.sz,fun b o q hb=>?_,fun b hb hs=>?_,I.stack,I.stkFree⟩,rfl,I.bare,Un.kept hkeep,⟨_,hL,fun i x v e1 e2 e3=>?_⟩,fun x c q=>?_,I.hok.fresh (Nat.le_refl _),fun x c q=>?_,fun p hp=>?_,I.hok.kept hkeep,?_⟩
 ·show (relabel scope X.env).kind= .function
  exact hk
 ·refine Lc scope.names (s.heap.objs.size+1) cl (fun x y c h1 h2=>I.ok.inj x y c (hlook x c h1) (hlook y c h2)) fun x c q=>Nat.lt_succ_of_lt (clt x c q)
 ·have hx':((scope.names.any fun p=>p.1 == x && p.2 == .cell) && !(cl.any fun p=>p.1 == x))=true:=hx
  rw[Bool.and_eq_true] at hx'
  rcases hc x c q with z | ⟨z,_⟩
  ·have hm:(cl.any fun p=>p.1 == x)=true:=List.any_eq_true.mpr ⟨(x,c),PySem.mem_of_lookup z,by simp⟩
   rw[hm] at hx'
   cases hx'.2
  ·exact Nat.le_trans (Nat.le_succ _) z
 ·rcases hc x c q with z | ⟨z,_⟩
  ·exact (hf b hb).2.2.2.2.1 x c (hlook x c z)
  ·exact Nat.ne_of_gt (Nat.lt_of_lt_of_le (hfo b hb) (Nat.le_trans (Nat.le_succ _) z))
 ·rcases (hf b hb).2.2.2.1 with z | z
  ·exact I.ok.noex b o q z
  ·exact absurd (Nat.lt_of_lt_of_le (Heap.lt_size (I.ok.bs b o q).1) z) (Nat.lt_irrefl _)
 ·rcases List.mem_cons.mp (I.stkSub b hs) with z | z
  ·exact (hf b hb).2.1 z
  ·exact (hf b hb).2.2.1 z
 ·have e2':(sub js σ)[i]? = some (some v):=e2
  unfold sub at e2'
  rw[List.getElem?_map] at e2'
  cases ej:js[i]? with
  | none=>rw[ej] at e2';cases e2'
  | some o=>
   rw[ej] at e2'
   cases o with
   | none=>cases e2'
   | some j=>
    obtain⟨a1,a2,a3⟩:=hsh i x j e1 ej
    have e4:(σ[j]?).join=some v:=Option.some.inj e2'
    have e5:σ[j]? = some (some v):=by
     cases q:σ[j]? with
     | none=>rw[q] at e4;cases e4
     | some o=>
      rw[q] at e4
      have:o=some v:=e4
      rw[this]
    obtain⟨m,hn,hloc⟩:=I.loc
    obtain⟨u,r,l⟩:=hloc j x v a1 e5 (.inr (.inl a2))
    refine⟨u,r,.inr ⟨.inl a3,?_⟩⟩
    obtain⟨c,hc1⟩:=hcn x (.inl a3)
    have hc2:cl.lookup x=some c:=by rw[←hsc i x j e1 ej (s.heap.objs.size+1)];exact hc1
    refine⟨c,hc1,?_⟩
    rcases l with⟨k,_⟩|⟨_,c',hc',hcell⟩
    ·rw[k] at a2;cases a2
    ·have:c'=c:=by
      have:=hlook x c hc2
      rw[hc'] at this
      exact Option.some.inj this
     subst this
     obtain⟨o,ho,hd⟩:=hcell
     exact⟨o,hkeep _ _ ho,hd⟩
 ·rcases hc x c q with z | ⟨_,z⟩
  ·obtain⟨v,o,ho,hd⟩:=I.cell x c (hlook x c z)
   exact⟨v,o,hkeep _ _ ho,hd⟩
  ·exact⟨none,z⟩
 ·rcases hc x c q with z | ⟨z,_⟩
  ·exact I.freeC x c (hlook x c z)
  ·exact I.hok.fresh (Nat.le_trans (Nat.le_succ _) z)
 ·exact absurd (show p∈([]:List (Addr×Obj)) from hp) (by simp)
 ·unfold sub
  rw[List.length_map]
  exact hl
theorem Inv.uncmk {σ':St} {H':Hp} {s':Shared} {h'':Heap} (I:Inv X pins σ H s) (hf:∀b∈fp,B3 X pins H b) (J:Inv (X.cmk N scope cl ⟨s,H,fp⟩) [] σ' H' s') (hsb:Heap.SameBut s.heap.objs.size s'.heap h'') :
  Inv X pins σ H' { s' with heap:=h'' }:=by
 have u:Un (Hm X.stack) fp H H' s.heap s'.heap:=J.base
 have ne:∀b o,s.heap.get? b=some o→b≠s.heap.objs.size:=fun b o e=>Nat.ne_of_lt (Heap.lt_size e)
 have hfree:H' s.heap.objs.size=none:=J.free
 refine I.call' (ch:=fp) (s':={ s' with heap:=h'' }) J.os ⟨fun b o e n hb hx=>(hsb.2 b (ne b o e)).trans (u.keep b o e n hb hx),fun b o e n hb hx=>?_,u.free,fun b o e hx=>?_,u.tups,u.frzs,u.tbls⟩ (fun b ob e=>?_) J.bare fun b hb=>⟨(hf b hb).2.2.2.1,(hf b hb).2.1,(hf b hb).2.2.2.2.1,(hf b hb).2.2.2.2.2⟩
 ·obtain⟨sl,e1⟩:=u.slot b o e n hb hx
  exact⟨sl,(hsb.2 b (ne b o e)).trans e1⟩
 ·obtain⟨o',e1⟩:=u.there b o e hx
  exact⟨o',(hsb.2 b (ne b o e)).trans e1⟩
 ·refine (J.hok b ob e).stay (fun c w' hc q=>(hsb.2 c ?_).trans q) (fun _ q=>q) fun _ _ q=>q
  rintro rfl
  rcases hc with z | z
  ·rw[←z,hfree] at e;cases e
  ·rw[hfree] at z;cases z
end
structure CompK (X:Cx) (N:List Str) (scope:Scope) (cl:List (Str×Addr)) (js:List (Option Nat)):Prop where
 clos:closureFor scope X.env=pure cl
 kind:scope.kind= .function
 loc:(scope.names.all fun x=>x.2 != .local || scope.names.lookup x.1 == some .local)=true
 ccl:∀p∈cl,X.env.cells.lookup p.1=some p.2
 cn:((relabel scope X.env).names.all fun p=>!(p.2 == .cell || p.2 == .free) || (scope.names.any fun q=>q.1 == p.1 && q.2 == .cell) || (cl.lookup p.1).isSome)=true
 sh:((N.zip js).all fun p=>match p.2 with | none=>true | some j=>X.N[j]? == some p.1 && X.env.kindOf p.1 == some .cell && (relabel scope X.env).names.lookup p.1 == some .cell && !(scope.names.any fun q=>q.1 == p.1 && q.2 == .cell))=true
 len:js.length=N.length
theorem Hz:∀(names:List (Str×NameKind)) (k:Nat) (acc:List (Str×Addr)) (x:Str),(names.any fun q=>q.1 == x && q.2 == .cell)=false→(cellsFrom k names acc).lookup x=acc.lookup x
 | [],_,_,_,_=>rfl
 | (name,kind)::r,k,acc,x,h=>by
  rw[List.any_cons,Bool.or_eq_false_iff] at h
  unfold cellsFrom
  by_cases hk:(kind == NameKind.cell)=true
  ·rw[if_pos hk,Hz r (k+1) _ x h.2,List.lookup_cons]
   have:(x == name)=false:=by
    have h1:=h.1
    rw[hk,Bool.and_true] at h1
    have:name≠x:=fun e=>by rw[e] at h1;simp at h1
    exact beq_false_of_ne (Ne.symm this)
   rw[this]
  ·rw[if_neg hk,Hz r k acc x h.2]
section
variable {X:Cx} {N:List Str} {scope:Scope} {cl:List (Str×Addr)} {js:List (Option Nat)}
theorem CompK.names (h:CompK X N scope cl js):∀x∈scope.names,x.2= .local→scope.names.lookup x.1=some .local:=fun x hx e=>by
 have q:=(List.all_eq_true.mp h.loc) x hx
 rw[e] at q
 simpa using q
theorem CompK.hcn (h:CompK X N scope cl js) (k:Nat):∀x,((relabel scope X.env).names.lookup x=some .cell∨(relabel scope X.env).names.lookup x=some .free)→∃c,(cellsFrom k scope.names cl).lookup x=some c:=fun x hx=>by
 refine Lk _ _ _ _ ?_
 rcases hx with e | e
 ·have q:=(List.all_eq_true.mp h.cn) _ (PySem.mem_of_lookup e)
  simp only[Bool.or_eq_true] at q
  rcases q with (q | q) | q
  ·simp at q
  ·exact .inl q
  ·exact .inr (Option.isSome_iff_exists.mp q)
 ·have q:=(List.all_eq_true.mp h.cn) _ (PySem.mem_of_lookup e)
  simp only[Bool.or_eq_true] at q
  rcases q with (q | q) | q
  ·simp at q
  ·exact .inl q
  ·exact .inr (Option.isSome_iff_exists.mp q)
theorem CompK.mem (h:CompK X N scope cl js) {i:Nat} {x:Str} {j:Nat} (e1:N[i]? = some x) (e2:js[i]? = some (some j)):(X.N[j]? = some x∧X.env.kindOf x=some .cell∧(relabel scope X.env).names.lookup x=some .cell)∧(scope.names.any fun q=>q.1 == x && q.2 == .cell)=false:=by
 have hm:(x,some j)∈N.zip js:=by
  have:(N.zip js)[i]? = some (x,some j):=by rw[List.getElem?_zip_eq_some];exact⟨e1,e2⟩
  exact List.mem_of_getElem? this
 have q:=(List.all_eq_true.mp h.sh) _ hm
 simp only[Bool.and_eq_true] at q
 exact⟨⟨eq_of_beq q.1.1.1,eq_of_beq q.1.1.2,eq_of_beq q.1.2⟩,by simpa using q.2⟩
variable {elt tg iter:Expr} {ifs:List Expr} {rest:List Comprehension} {pos:Pos} {wi:TI} {g:CC→TG} {tb:CC→Addr→TS}
theorem MY {WB:CC→Value→Qx} (hxe:X.xe=Eu) (hc:X.calm=true) (hi:PI X tg iter wi) (hs:∀x,foldedSetIterable iter X.env x=pure x) (K:CompK X N scope cl js)
  (ht:∀c it ac,HT (X.cmk N scope cl c) (.ListComp elt (⟨tg,iter,ifs,0⟩::rest) scope pos) 0 it ac tg (WB c ac))
  (hg:∀c,PG (X.cmk N scope cl c) tg (g c)) (hb:∀c ac,PB (X.cmk N scope cl c) (WB c (.ref ac)) (tb c ac)) :
  PE X (.ListComp elt (⟨tg,iter,ifs,0⟩::rest) scope pos) (Hs wi js g tb):=by
 intro pins s σ H Q I h
 rw[eval_ListComp]
 have h0:=hi pins s σ H _ I h
 refine wpAny_comprehension_free (use:=none) (cl:=cl) rfl hs K.clos K.kind K.names (AS h0 fun v s1 h1=>AS h1 fun itv s2 h2=>?_)
 obtain⟨it,fp,tn,J,H2,e,I2,T,st2,f2,hR⟩:=h2
 subst e
 refine wpAny_newObj_type (Om ?_)
 have I3:=I2.lnew (ys:=[]) (its:=[]) (t':=s2.toks) .nil (Nat.zero_le _)
 have fpl:∀b∈fp,b<s2.heap.objs.size:=fun b hb=>by
  obtain⟨o,e,_⟩:=T.obj 0 _ st2 b hb
  exact Heap.lt_size e
 have fpa:∀b∈fp,b≠s2.heap.objs.size:=fun b hb=>Nat.ne_of_lt (fpl b hb)
 have f3:∀b∈fp,B3 X pins (upd H2 s2.heap.objs.size (.lst [])) b:=fun b hb=>⟨by rw[Ax (fpa b hb)];exact (f2 b hb).1,(f2 b hb).2⟩
 have hR':=hR ⟨{ s2 with heap:=s2.heap.push { cls:=.type "list",data:=.seq ([]:List Value).toArray } },upd H2 s2.heap.objs.size (.lst []),fp⟩ s2.heap.objs.size I2.fresh
 have I4:=I3.cmk (N:=N) (cl:=cl) (js:=js) (scope:=scope) (t':=s2.toks) f3 (fun b hb=>by
  show b<(s2.heap.push _).objs.size
  rw[Heap.size_push]
  exact Nat.lt_succ_of_lt (fpl b hb)) K.kind K.ccl (K.hcn _) (fun i x j e1 e2=>(K.mem e1 e2).1) (fun i x j e1 e2 k=>Hz _ _ _ _ (K.mem e1 e2).2) K.len rfl
 have st4:tn 0 (pushCells ((s2.heap.push { cls:=.type "list",data:=.seq ([]:List Value).toArray }).push { cls:=.type "dict",data:=.dict #[] }) scope.names):=T.keep 0 _ _ st2 fun b hb o e=>pushCells_keeps _ _ _ _ (Heap.get?_push_of_some _ (Heap.get?_push_of_some _ e))
 have f4:∀b∈fp,B3 (X.cmk N scope cl ⟨{ s2 with heap:=s2.heap.push { cls:=.type "list",data:=.seq ([]:List Value).toArray } },upd H2 s2.heap.objs.size (.lst []),fp⟩) [] (upd H2 s2.heap.objs.size (.lst [])) b:=fun b hb=>
  ⟨(f3 b hb).1,(I4.ok.exf b hb).1,I4.ok.exfs b hb,.inl hb,(I4.ok.exf b hb).2,fun p hp=>absurd (show p∈([]:List (Addr×Obj)) from hp) (by simp)⟩
 have loop:=codeAny_mono (Ce (X:=X.cmk N scope cl ⟨{ s2 with heap:=s2.heap.push { cls:=.type "list",data:=.seq ([]:List Value).toArray } },upd H2 s2.heap.objs.size (.lst []),fp⟩) (e:=.ListComp elt (⟨tg,iter,ifs,0⟩::rest) scope pos) (d:=0) (acc:=.ref s2.heap.objs.size) (pins:=[]) hxe hc (ht _ _ _) rfl rfl rfl T (hg _) (hb _ _) I4 st4 f4 hR') (R':=compPost (model X.prog X.w) X.A X.xe none (EP X pins σ Q) (.ref s2.heap.objs.size) (s2.heap.push { cls:=.type "list",data:=.seq ([]:List Value).toArray }).objs.size) (fun r s' hq=>by
  obtain⟨rfl,σ',H',J',q⟩:=hq
  obtain⟨m,hn,_⟩:=id J'.loc
  exact⟨m,hn,fun h'' hs''=>⟨.ref s2.heap.objs.size,H',I3.uncmk f3 J' hs'',rfl,q⟩⟩)
 exact BS (X:=X.cmk N scope cl ⟨{ s2 with heap:=s2.heap.push { cls:=.type "list",data:=.seq ([]:List Value).toArray } },upd H2 s2.heap.objs.size (.lst []),fp⟩) rfl rfl rfl (fun _=>rfl) True.intro loop (T.self _ 0 _ _ _ st4 loop)
variable {tg1 iter1:Expr} {ifs1:List Expr} {wi1:CC→TI} {g1:CC→TG} {tc tc1:CC→TT} {te:CC→TE}
theorem NP (h:CompK X N scope cl js) (hi:PI X tg iter wi) (hg:∀c,PG (X.cmk N scope cl c) tg (g c)) (hif:∀c,Nb (X.cmk N scope cl c) ifs (tc c)) (he:∀c,PE (X.cmk N scope cl c) elt (te c))
  (hxe:X.xe=Eu:=by rfl) (hc:X.calm=true:=by rfl) (hs:∀x,foldedSetIterable iter X.env x=pure x:=by intro _;rfl) :
  PE X (.ListComp elt [⟨tg,iter,ifs,0⟩] scope pos) (Hs wi js g fun c ac=>DC (tc c) (BX ac (te c))):=
 MY (WB:=fun c ac=>ED (X.cmk N scope cl c) ifs elt ac) hxe hc hi hs h (fun c it ac=>Ln) hg fun c ac=>Gq hxe (hif c) (he c)
end
end L2
namespace L2
open PySem PySem.Spec PyProof.Rows
theorem ME:∀{xs:List V} {us:List Value},xs.length=us.length→(∀(i:Nat) (x:V) (u:Value),xs[i]? = some x→us[i]? = some u→RelV x u)→Vals xs us
 | [],[],_,_=>.nil
 | [],_::_,h,_=>by cases h
 | _::_,[],h,_=>by cases h
 | x::xs,u::us,h,f=>.cons (f 0 x u rfl rfl) (ME (Nat.succ.inj h) fun i y v hy hv=>f (i+1) y v (by simpa using hy) (by simpa using hv))
theorem Iq {α:Type} (bs:List α) (d:α):(List.range bs.length).map (fun i=>bs.getD i d)=bs:=by
 refine List.ext_getElem (by simp) fun n h1 h2=>?_
 simp[List.getD,h2]
theorem Ni (bs:List Bool):(List.range bs.length).any (fun i=>bs.getD i false)=bs.any id:=by
 have:=Iq bs false
 conv=>rhs;rw[←this]
 rw[List.any_map]
 rfl
theorem N1 (bs:List Bool):(List.range bs.length).all (fun i=>bs.getD i false)=bs.all id:=by
 have:=Iq bs false
 conv=>rhs;rw[←this]
 rw[List.all_map]
 rfl
theorem Kr {prog:Program} {w:World} {A:Around} {bs:List Bool} {its:List Value} (rv:Vals (bs.map V.bl) its):TruthOf prog w A (fun i v=>its.toArray[i]? = some v) (fun i=>bs.getD i false):=by
 intro i v s Q E hv q
 have hv':its[i]? = some v:=by simpa using hv
 have hi:i<bs.length:=by
  have h1:=(List.getElem?_eq_some_iff.mp hv').1
  have:=rv.length
  rw[List.length_map] at this
  omega
 have hx:(bs.map V.bl)[i]? = some (.bl bs[i]):=by rw[List.getElem?_map,List.getElem?_eq_getElem hi];rfl
 obtain⟨u,hu,ru⟩:=rv.get hx
 rw[hv'] at hu
 cases hu
 cases (show v=Value.bool bs[i] from ru)
 refine wpAny_truthy_bool ?_
 have e:bs.getD i false=bs[i]:=by simp[List.getD,hi]
 rw[←e]
 exact q
section
variable {X:Cx}
theorem I8:BP X (.type "range") (fun xs H Q=>∃j:Int,xs=[.int j]∧∀r,H r=none→Q (.ref r) (upd H r (.rng 0 j))):=by
 intro pins s σ H xs us Q I r h
 obtain⟨j,rfl,q⟩:=h
 obtain⟨u,rfl,ru⟩:=Dk r
 obtain⟨t,rfl⟩:=ru
 refine call_range_1 ⟨.ref s.heap.objs.size,_,I.laid (o:=.rng 0 j) (fun b ob e=>Heap.get?_push_of_some _ e) (Nat.le_refl _) ?_,rfl,q _ (I.hok.fresh (Nat.le_refl _))⟩
 exact⟨_,_,_,Heap.get?_push_size _ rfl⟩
def B0 (n:Nat):List Int:=(List.range n).map fun (k:Nat)=>(k:Int)
theorem Hy (hc:X.calm=true):BP X (.type "list") (fun xs H Q=>∃(r:Addr) (n:Nat),xs=[.ref r]∧H r=some (.rng 0 (n:Int))∧n≤1000∧∀l,H l=none→Q (.ref l) (upd H l (.lst ((B0 n).map V.int)))):=by
 intro pins s σ H xs us Q I r h
 obtain⟨rr,n,rfl,hr,hn,q⟩:=h
 obtain⟨u,rfl,ru⟩:=Dk r
 cases ru
 obtain⟨t,u,v,ho⟩:=(show ObjOk X.prog X.w H s.heap rr (.rng 0 (n:Int)) from I.hok rr _ hr)
 have hsz:Builtin.Range.rangeSize 0 (n:Int) 1=n:=by rw[rangeSize_one];split<;>omega
 refine call_list_range (n:=n) (I.ok.hd hc) ho (small_one (by omega) (by omega) (by omega) (by omega)) hsz (by omega) fun h' tk acc c kk hl hi=>?_
 have lo:s.heap.objs.size≤s.heap.objs.size:=Nat.le_refl _
 have hv:Vals ((B0 n).map V.int) acc.toList:=by
  have hal:acc.toList.length=n:=by rw[Array.length_toList,hi.1]
  refine ME (by unfold B0;simp[hal]) fun i x u hx hu=>?_
  have hin:i<n:=by
   have:=(List.getElem?_eq_some_iff.mp hu).1
   omega
  obtain⟨t,e⟩:=hi.2 i u (by simpa using hu)
  have ex:x= .int (i:Int):=by
   unfold B0 at hx
   rw[List.map_map,List.getElem?_map,List.getElem?_range hin] at hx
   exact (Option.some.inj hx).symm
  subst ex
  refine⟨t,?_⟩
  rw[e]
  congr 1
  omega
 refine⟨.ref s.heap.objs.size,_,I.laid (t':=tk) (o:=.lst ((B0 n).map V.int)) kk lo ?_,rfl,q _ (I.hok.fresh lo)⟩
 refine⟨?_,acc.toList,c,hv,by rw[hl,Array.toArray_toList]⟩
 unfold B0
 rw[List.length_map,List.length_map,List.length_range]
 exact Nat.le_trans hn (by decide)
theorem IB (hc:X.calm=true):BP X (.builtin "any") (fun xs H Q=>∃(l:Addr) (bs:List Bool),xs=[.ref l]∧SqL X.K H l (bs.map V.bl)∧Q (.bl (bs.any id)) H):=by
 intro pins s σ H xs us Q I r h
 obtain⟨l,bs,rfl,hq,q⟩:=h
 obtain⟨u,rfl,ru⟩:=Dk r
 cases ru
 obtain⟨its,rv,pl,hz⟩:=I.list hq
 have hlt:l<s.heap.objs.size:=let ⟨o,ho,_⟩:=pl.isList;Heap.lt_size ho
 have hlen:its.length=bs.length:=by rw[←rv.length,List.length_map]
 refine call_any_walk (wpAny_pyIter_list pl.isList ⟨s.heap.objs.size,_,_,_,_,_,fun i=>bs.getD i false,rfl,Walks.list (by have:=I.ok.hd hc;simpa using this) s.heap.objs.size l (Nat.ne_of_lt hlt) its.toArray,⟨⟨_,Heap.get?_push_size _ rfl,rfl,rfl⟩,pl.isList.push _⟩,Kr rv,fun h' tk kk=>?_⟩)
 have e:(List.range its.toArray.size).any (fun i=>bs.getD i false)=bs.any id:=by rw[List.size_toArray,hlen,Ni]
 rw[e]
 exact⟨.bl _,H,I.kept (t':=tk) fun b ob eb=>kk b ob (by simp only[List.mem_singleton];exact Nat.ne_of_lt (Heap.lt_size eb)) (Heap.get?_push_of_some _ eb),rfl,q⟩
theorem Nl (hc:X.calm=true):BP X (.builtin "all") (fun xs H Q=>∃(l:Addr) (bs:List Bool),xs=[.ref l]∧SqL X.K H l (bs.map V.bl)∧Q (.bl (bs.all id)) H):=by
 intro pins s σ H xs us Q I r h
 obtain⟨l,bs,rfl,hq,q⟩:=h
 obtain⟨u,rfl,ru⟩:=Dk r
 cases ru
 obtain⟨its,rv,pl,hz⟩:=I.list hq
 have hlt:l<s.heap.objs.size:=let ⟨o,ho,_⟩:=pl.isList;Heap.lt_size ho
 have hlen:its.length=bs.length:=by rw[←rv.length,List.length_map]
 refine call_all_walk (wpAny_pyIter_list pl.isList ⟨s.heap.objs.size,_,_,_,_,_,fun i=>bs.getD i false,rfl,Walks.list (by have:=I.ok.hd hc;simpa using this) s.heap.objs.size l (Nat.ne_of_lt hlt) its.toArray,⟨⟨_,Heap.get?_push_size _ rfl,rfl,rfl⟩,pl.isList.push _⟩,Kr rv,fun h' tk kk=>?_⟩)
 have e:(List.range its.toArray.size).all (fun i=>bs.getD i false)=bs.all id:=by rw[List.size_toArray,hlen,N1]
 rw[e]
 exact⟨.bl _,H,I.kept (t':=tk) fun b ob eb=>kk b ob (by simp only[List.mem_singleton];exact Nat.ne_of_lt (Heap.lt_size eb)) (Heap.get?_push_of_some _ eb),rfl,q⟩
end
end L2
namespace L2
open PySem PySem.Spec PyProof.Rows
section
variable {prog:Program} {w:World} {A:Around} {R:Result→Shared→Prop} {I:Addr} {fp wr:List Addr} {G:Array GenState→Array GenState→Prop} {n:Nat} {P:Nat→Value→Prop} {St:Nat→Shared→Prop}
theorem Od (W:WalksS prog w A.in1 I fp wr G n P St) (S:Addr) (hSf:S∉fp)
  (val:Nat→Int) (hval:∀i v,P i v→∃t,v= .int (val i) t) (hb:n<1000) :
  ∀(k i:Nat) (s:Shared) (ks:List Int),n-i=k→i≤n→St i s→SetIs w s.heap S ks→(∀j,j∈ks↔∃m,m<i∧val m=j)→ks.length≤i→
   (∀s' ks',Moved (S::wr) G s s'→SetIs w s'.heap S ks'→(∀j,j∈ks'↔∃m,m<n∧val m=j)→ks'.length≤n→R (.ok (.ret .none)) s')→
   codeAny (model prog w) A (.builtin "set.update.loop" ⟨[.ref S,.ref I],[]⟩) R s:=by
 have hSw:S∉wr:=fun h=>hSf (W.sub _ h)
 have hsub:∀b∈wr,b∈S::wr:=fun b hb=>List.mem_cons_of_mem _ hb
 intro k
 induction k with
 | zero=>
  intro i s ks hk hi hst hS hm0 hl0 hR
  have hin:i=n:=by omega
  subst hin
  refine codeAny_builtin F.entry_set_update_loop ?_
  rw[Around.under_plainId F.plain_set_update_loop _]
  show wpAny _ A.in1 (pyNext (.ref I) >>= _) _ _ s
  refine wpAny_bind (W.done s _ _ hst fun s' hm=>?_)
  show wpAny _ A.in1 (ret Value.none) _ _ s'
  exact wpAny_pure (hR s' ks (hm.mono hsub) (hS.keep fun o e=>hm.heap S _ hSw e) hm0 hl0)
 | succ k ih=>
  intro i s ks hk hi hst hS hm0 hl0 hR
  have hlt:i<n:=by omega
  refine codeAny_builtin F.entry_set_update_loop ?_
  rw[Around.under_plainId F.plain_set_update_loop _]
  show wpAny _ A.in1 (pyNext (.ref I) >>= _) _ _ s
  refine wpAny_bind (W.item i s _ _ hlt hst fun v s' hP hst' hm=>?_)
  obtain⟨t,rfl⟩:=hval i v hP
  have hS':SetIs w s'.heap S ks:=hS.keep fun o e=>hm.heap S _ hSw e
  show wpAny _ A.in1 (holding [Value.int (val i) t] (setAdd S (.int (val i) t)) >>= _) _ _ s'
  refine wpAny_bind (wpAny_holding ?_)
  unfold setAdd
  refine wpAny_holding ?_
  refine wpAny_bind ((intKind prog w).pyHash (k:=val i) (intKind_is _ _ _ _) ?_)
  refine GU (s:={ s' with toks:=s'.toks+1 }) hS' (by omega) fun h' ks' hsb hS2 hm2 hl2=>?_
  refine wpAny_pure ⟨plainId_quiet F.plain_set_update_loop _,ih (i+1) _ ks' (by omega) hlt (W.frame _ s' _ _ hst' (Nat.le_succ _) fun b hb o e=>?_) hS2 (fun j=>?_) (by omega) fun s'' ks'' hm'' hS'' hmm hll=>?_⟩
  ·rw[hsb.2 b (fun h:b=S=>hSf (by rw[←h];exact hb))];exact e
  ·rw[hm2 j,hm0 j]
   constructor
   ·rintro (⟨m,h1,h2⟩|h)
    ·exact⟨m,Nat.lt_succ_of_lt h1,h2⟩
    ·exact⟨i,Nat.lt_succ_self _,h.symm⟩
   ·rintro⟨m,h1,h2⟩
    rcases Nat.lt_succ_iff_lt_or_eq.mp h1 with z | z
    ·exact .inl ⟨m,z,h2⟩
    ·subst z;exact .inr h2.symm
  ·refine hR s'' ks'' (Moved.trans W.gtrans ((hm.mono hsub).then_heap (Nat.le_succ _) fun b o hb e=>?_) hm'') hS'' hmm hll
   rw[hsb.2 b (fun h:b=S=>hb (by rw[h];exact List.mem_cons_self))];exact e
end
section
variable {prog:Program} {w:World} {A:Around} {E:Value→Shared→Prop} {s:Shared}
set_option maxHeartbeats 3200000 in
theorem Nu {l:Addr} {items:Array Value} {ns:List Int} {Q:Value→Shared→Prop}
  (hh:A.handled=none) (hl:s.heap.IsList l items) (hi:IntsAre items.toList ns) (hb:items.size<1000)
  (h:∀(h':Heap) (tk:Nat) (ks:List Int),SetIs w h' s.heap.objs.size ks→(∀j,j∈ks↔j∈ns)→ks.length≤ns.length→
   (∀b o,s.heap.get? b=some o→h'.get? b=some o)→Q (.ref s.heap.objs.size) { s with heap:=h',toks:=tk }) :
  wpAny (model prog w) A (call (.type "set") [.ref l]) Q E s:=by
 have hlen:ns.length=items.size:=by rw[←Array.length_toList];exact (IntsAre.length hi).symm
 obtain⟨c,tl,hmro⟩:=F.called_set.mro
 have hmade:=F.called_set.made
 have hsub:=F.called_set.sub
 refine wpAny_call (codeAny_of_tree ?_)
 show wpAny _ _ (callAny (.type "set") _) _ _ _
 refine wpAny_pure ⟨Code.quiet_builtin _ (by decide +kernel),codeAny_builtin F.entry_type_call ?_⟩
 rw[Around.under_plain (weight_type_call_type "set" [.ref l] []) rfl]
 have h1:=F.called_set.notType
 have h2:=F.called_set.canCreate
 have hct:=F.typeCall_set_1 (.ref l)
 repeat (any_goals (first | assumption | wp_step))
 refine codeAny_mono (J0 (E:=E) (.inr ⟨.ref l,rfl⟩) (Q₁:=fun obj s₁=>obj= .ref s.heap.objs.size∧s₁={ s with heap:=s.heap.push (Bh w) }) ⟨rfl,rfl⟩) fun r s₁ hr=>?_
 cases r with
 | error e=>exact hr
 | ok fl=>
  cases fl with
  | ret obj=>
   obtain⟨rfl,rfl⟩:=hr
   have hS:(s.heap.push (Bh w)).get? s.heap.objs.size=some (Bh w):=Heap.get?_push_size _ rfl
   have hT:Shared.TypeIs { s with heap:=s.heap.push (Bh w) } (.ref s.heap.objs.size) "set":=⟨_,hS,rfl⟩
   have hli:=F.called_set.init.lookup
   have hbi:=F.called_set.init.bind (.ref s.heap.objs.size)
   repeat (any_goals (first | assumption | wp_step))
   refine codeAny_mono (codeAny_call_builtin (R:=wants (fun r s₂=>r= .none∧∃h' tk ks,s₂={ s with heap:=h',toks:=tk }∧SetIs w h' s.heap.objs.size ks∧(∀j,j∈ks↔j∈ns)∧ks.length≤ns.length∧
     (∀b o,s.heap.get? b=some o→h'.get? b=some o)) E) F.called_set.init.plain F.entry_set_init (check_set_init_1 hT ?_)) fun r₂ s₂ hr₂=>?_
   ·obtain⟨ol,hol,hcl,nl,hdl⟩:=hl
    obtain⟨ocls,odict,odata,oslots⟩:=ol
    simp only at hcl hdl
    subst hcl;subst hdl
    have hol':(s.heap.push (Bh w)).get? l=some { cls:=.type "list",dict:=odict,data:=.seq items nl,slots:=oslots }:=Heap.get?_push_of_some _ hol
    have hsls:=F.sub_list_set
    have hslf:=F.sub_list_frozenset
    have hne:(Value.type "list" == Value.type "dict")=false:=by decide
    have hl1:(s.heap.push (Bh w)).IsList l items:=⟨_,hol',rfl,nl,rfl⟩
    unfold Builtin.«set.__init__» noKeywords Builtin.Frozenset.updateFrom
    generalize hPI:pyIter=PI
    wp_walk
    subst hPI
    refine wpAny_pyIter_list hl1 ?_
    refine wpAny_bind (wpAny_runValue ?_)
    have hlS:l<s.heap.objs.size:=Heap.lt_size hol
    have hh3:A.in1.in1.in1.handled=none:=by simp[hh]
    have hneI:l≠(s.heap.push (Bh w)).objs.size:=by
     rw[Heap.size_push];exact Nat.ne_of_lt (Nat.lt_succ_of_lt hlS)
    have hSf:s.heap.objs.size∉[(s.heap.push (Bh w)).objs.size,l]:=by
     rw[Heap.size_push];simp only[List.mem_cons,List.mem_singleton,List.not_mem_nil,or_false,not_or]
     exact⟨Nat.ne_of_lt (Nat.lt_succ_self _),Nat.ne_of_gt hlS⟩
    have hval:∀(i:Nat) (v:Value),items[i]? = some v→∃t,v= .int ((fun i=>ns.getD i 0) i) t:=fun i v hv=>
     IntsAre.int_at hi i v (by rw[Array.getElem?_toList];exact hv)
    refine Od ((Walks.list hh3 _ l hneI items).toS) s.heap.objs.size
     hSf (fun i=>ns.getD i 0) hval hb (items.size-0) 0 _ [] (by omega) (Nat.zero_le _)
     ⟨⟨_,Heap.get?_push_size _ rfl,rfl,rfl⟩,(hl1.push _)⟩ ?hS0 (fun j=>by simp) (Nat.le_refl _) ?hR
    case hS0=>exact set0_is.keep fun o e=>Heap.get?_push_of_some _ e
    case hR=>
     intro s' ks hm hS' hmm hll
     obtain⟨h',g',d',tk',os'⟩:=s'
     have eg:g'=s.gens:=hm.gens
     have ed:d'=s.drawn:=hm.drawn
     have eo:os'=s.os:=hm.os
     subst eg;subst ed;subst eo
     show wpAny _ _ _ _ _ _
     refine wpAny_pure ?_
     show wpAny _ _ (ret Value.none) _ _ _
     refine wpAny_pure ⟨rfl,h',tk',ks,rfl,hS',fun j=>?_,by omega,fun b o e=>?_⟩
     ·rw[hmm j,←hlen,List.mem_iff_getElem]
      constructor
      ·rintro⟨m,hm,e⟩
       exact⟨m,hm,by rw[←e,List.getD_eq_getElem?_getD,List.getElem?_eq_getElem hm];rfl⟩
      ·rintro⟨m,hm,e⟩
       exact⟨m,hm,by rw[←e,List.getD_eq_getElem?_getD,List.getElem?_eq_getElem hm];rfl⟩
     ·have hb:=Heap.lt_size e
      have hb1:b≠s.heap.objs.size:=Nat.ne_of_lt hb
      have hb2:b≠(s.heap.push (Bh w)).objs.size:=by
       rw[Heap.size_push];exact Nat.ne_of_lt (Nat.lt_succ_of_lt hb)
      exact hm.heap b o (by simp only[List.mem_cons,List.mem_singleton,List.not_mem_nil,or_false,not_or];exact⟨hb1,hb2⟩) (Heap.get?_push_of_some _ (Heap.get?_push_of_some _ e))
   ·cases r₂ with
    | error e=>exact hr₂
    | ok fl₂=>
     cases fl₂ with
     | ret r=>
      obtain⟨rfl,h',tk,ks,rfl,hS',hm',hl',hk'⟩:=hr₂
      repeat (any_goals (first | assumption | wp_step))
      exact h _ _ _ hS' hm' hl' hk'
     | _=>exact hr₂.elim
  | _=>exact hr.elim
end
end L2
namespace L2
open PySem PySem.Spec PyProof.Rows
section
variable {prog:Program} {w:World} {A:Around} {E:Value→Shared→Prop} {s:Shared} {a:Addr} {ks:List Int} {k:Int} {tk:Tok}
theorem Hh {Q:Option Nat→Shared→Prop} (hS:SetIt w s.heap a ks) (h:∀r:Option Nat,r.isSome=decide (k∈ks)→(∀i,r=some i→ks[i]? = some k)→Q r s) :
  wpAny (model prog w) A (setFind a (.int k tk) (hashInt k)) Q E s:=by
 obtain⟨o,es,ep,t,ho,hex,hd,hg,hk,nd,hl,ok,hf⟩:=hS
 have hsz:=Dz hk
 have hkey:(intKind prog w).is k (.int k tk)=true:=intKind_is _ _ _ _
 unfold setFind setFindIn
 refine wpAny_bind (wpAny_setState_of ho hd hf ?_)
 dsimp only
 rw[byScan_of (knd:=intKind prog w) rfl (by rw[hsz];exact Cq hl) hg.elems]
 simp only[↓reduceIte]
 refine wpAny_bind (wpAny_rule ?_)
 refine wpAny_bind (wpAny_setScan_of (knd:=intKind prog w) hkey ho hd hf hg.elems ?_)
 cases hr:List.findIdx? (fun e=>(intKind prog w).is k e.2) es.toList with
 | none=>
  dsimp only
  have hmem:k∉ks:=fun z=>by
   rw[←hk] at z
   obtain⟨e,he,rfl⟩:=List.mem_map.mp z
   have:=List.findIdx?_eq_none_iff.mp hr e he
   rw[(hg.is he).mpr rfl] at this
   cases this
  exact wpAny_pure (h none (by rw[decide_eq_false hmem];rfl) fun i e=>by cases e)
 | some j=>
  dsimp only
  obtain⟨hj,hpj,_⟩:=List.findIdx?_eq_some_iff_getElem.mp hr
  have e1:A7 es.toList[j]=k:=((hg.is (List.getElem_mem hj)).mp hpj).symm
  have hmem:k∈ks:=by
   rw[←hk,←e1]
   exact List.mem_map_of_mem (List.getElem_mem hj)
  refine wpAny_pure (h (some (0+j)) (by rw[decide_eq_true hmem];rfl) fun i e=>?_)
  have e':j=i:=by injection e with e;omega
  subst e'
  rw[←hk,List.getElem?_map,List.getElem?_eq_getElem hj,←e1]
  rfl
theorem Ik {Q:Bool→Shared→Prop} {l:List Addr} (hl:∀b∈l,∃kb,SetIt w s.heap b kb) (h:Q true s):wpAny (model prog w) A (setsQuiet l) Q E s:=by
 unfold setsQuiet
 refine wpAny_bind ?_
 refine wpAny_forIn_list _ (fun rest r s'=>r.1=none∧s'=s∧∀b∈rest,∃kb,SetIt w s.heap b kb) _ ?_ ?_ _ _ ⟨rfl,rfl,hl⟩
 ·rintro b rest r s' ⟨hr,rfl,hall⟩
  obtain⟨kb,o,es,ep,t,ho,hex,hd,hg,hk,nd,hl,ok,hf⟩:=hall b List.mem_cons_self
  unfold setEntries
  refine wpAny_bind (wpAny_bind (wpAny_setState_of ho hd hf (wpAny_pure ?_)))
  refine wpAny_bind ?_
  refine wpAny_forIn_array' _ (fun rest' r' s''=>r'.1=none∧s''=s'∧EGood rest') _ ?_ ?_ _ _ ⟨rfl,rfl,hg⟩
  ·rintro⟨hh,x⟩ rest' r' s' ⟨hr',rfl,g⟩
   obtain⟨_,t',e⟩:=g _ List.mem_cons_self
   have e':x= .int (A7 (hh,x)) t':=e
   rw[e']
   exact wpAny_pure ⟨rfl,rfl,fun y hy=>g y (List.mem_cons_of_mem _ hy)⟩
  ·rintro⟨r1,r2⟩ s' ⟨hr',rfl,_⟩
   simp only at hr'
   subst hr'
   exact wpAny_pure ⟨rfl,rfl,fun c hc=>hall c (List.mem_cons_of_mem _ hc)⟩
 ·rintro⟨r1,r2⟩ s' ⟨hr,rfl,_⟩
  simp only at hr
  subst hr
  exact wpAny_pure h
theorem KP {o:Obj} {es:Array (Int×Value)} {ep:Nat} {t:SetTable} {Q:Array (Int×Value)→Shared→Prop} (ho:s.heap.get? a=some o) (hd:o.data= .set es ep t) (ok:Gd (Bz w) t) (hf:t.fits es.size=true)
  (hc:(Bz w || (t.led && t.plain) || decide (es.size≤1))=true) (h:∀es':Array (Int×Value),es'.toList.Perm es.toList→Q es' s):wpAny (model prog w) A (setWalk a) Q E s:=by
 unfold setWalk setsByText
 refine wpAny_bind (wpAny_setState_of ho hd hf ?_)
 dsimp only
 refine wpAny_bind (wpAny_bind (wpAny_askSetting (wpAny_pure ?_)))
 show wpAny _ _ (if Bz w=true then _ else _) _ _ _
 cases hb:Bz w with
 | true=>
  rw[if_pos rfl]
  refine wpAny_bind (wpAny_askSetting ?_)
  exact wpAny_pure (h _ (DO _ _))
 | false=>
  rw[if_neg Bool.false_ne_true]
  have hn:(!t.plain && decide (es.size>1))=false:=by
   rw[hb,Bool.false_or] at hc
   cases hp:t.plain with
   | true=>rfl
   | false=>
    rw[hp,Bool.and_false,Bool.false_or] at hc
    have:=of_decide_eq_true hc
    simp
    omega
  show wpAny _ _ (if (!t.plain && decide (es.size>1))=true then _ else _) _ _ _
  rw[hn,if_neg Bool.false_ne_true]
  refine wpAny_bind ?_
  show wpAny _ _ (if (!t.led && decide (es.size>1))=true then _ else _) _ _ _
  rw[ok.led,hb,if_neg (by simp)]
  exact wpAny_pure (wpAny_pure (h es (List.Perm.refl _)))
theorem Iv {f:Addr} {others:List Addr} {kf:List Int} {Q:Array (Int×Value)→Shared→Prop} (hS:SetIt w s.heap a ks) (hF:SetIs w s.heap f kf) (hO:∀b∈others,∃kb,SetIt w s.heap b kb)
  (h:∀(es':Array (Int×Value)) (h':Heap),EGood es'.toList→(es'.toList.map A7).Perm ks→Heap.SameBut f s.heap h'→SetIs w h' f kf→Q es' { s with heap:=h' }):wpAny (model prog w) A (setWalkUnseen a others (some f)) Q E s:=by
 obtain⟨o,es,ep,t,ho,hex,hd,hg,hk,nd,hl,ok,hf⟩:=id hS
 have stay:∀es':Array (Int×Value),es'.toList.Perm es.toList→Q es' s:=fun es' hp=>by
  have:=h es' s.heap (fun e he=>hg e (hp.mem_iff.mp he)) (by rw[←hk];exact hp.map A7) (Heap.SameBut.refl _ _) hF
  have e:s={ s with heap:=s.heap }:=by cases s;rfl
  rw[e];exact this
 unfold setWalkUnseen setsByText
 refine wpAny_bind (wpAny_setState_of ho hd hf ?_)
 dsimp only
 refine wpAny_bind (wpAny_bind (wpAny_askSetting (wpAny_pure ?_)))
 show wpAny _ _ (if (Bz w || (t.led && t.plain) || decide (es.size≤1))=true then _ else _) _ _ _
 split
 ·rename_i hc
  exact KP ho hd ok hf hc stay
 ·rename_i hc
  have hb:Bz w=false:=by
   cases q:Bz w with
   | true=>rw[q] at hc;exact absurd rfl hc
   | false=>rfl
  refine wpAny_bind (Ik (fun b hb=>?_) ?_)
  ·rcases List.mem_cons.mp hb with e | e
   ·subst e;exact⟨_,hS⟩
   ·exact hO b e
  simp only[Bool.not_true,Bool.false_eq_true,if_false]
  refine wpAny_bind (wpAny_rule ?_)
  obtain⟨of,ef,epf,tf,hof,hexf,hdf,hgf,hkf,ndf,hlf,okf,hff⟩:=id hF
  refine wpAny_bind (wpAny_setState_of hof hdf hff ?_)
  dsimp only
  split
  ·refine wpAny_bind (wpAny_storeSet_of hof hdf ?_ ?_)
   rotate_left
   exact (fits_of_scanBound (by rw[Dz hkf];exact Cq hlf))
   have:=(EH (w:=w) (t':={ tf with led:=tf.led && t.led,plain:=tf.plain && t.plain }) hof hexf hdf hgf (by rw[hkf];exact ndf) (by rw[Dz hkf];exact hlf) ⟨okf.dum,by show (tf.led && t.led)=_;rw[okf.led,ok.led,Bool.and_self],okf.up⟩ hff).2
   rw[hkf] at this
   exact wpAny_pure (h es _ hg (by rw[hk]) (Heap.SameBut.update _ _ _) this)
  ·exact wpAny_pure ((stay es (List.Perm.refl _)))
theorem Nw {others:List Addr} {Q:Array (Int×Value)→Shared→Prop} (hS:SetIt w s.heap a ks) (hO:∀b∈others,∃kb,SetIt w s.heap b kb)
  (h:∀(es':Array (Int×Value)),EGood es'.toList→(es'.toList.map A7).Perm ks→Q es' s):wpAny (model prog w) A (setWalkUnseen a others none) Q E s:=by
 obtain⟨o,es,ep,t,ho,hex,hd,hg,hk,nd,hl,ok,hf⟩:=id hS
 have stay:∀es':Array (Int×Value),es'.toList.Perm es.toList→Q es' s:=fun es' hp=>
  h es' (fun e he=>hg e (hp.mem_iff.mp he)) (by rw[←hk];exact hp.map A7)
 unfold setWalkUnseen setsByText
 refine wpAny_bind (wpAny_setState_of ho hd hf ?_)
 dsimp only
 refine wpAny_bind (wpAny_bind (wpAny_askSetting (wpAny_pure ?_)))
 show wpAny _ _ (if (Bz w || (t.led && t.plain) || decide (es.size≤1))=true then _ else _) _ _ _
 split
 ·rename_i hc
  exact KP ho hd ok hf hc stay
 ·refine wpAny_bind (Ik (fun b hb=>?_) ?_)
  ·rcases List.mem_cons.mp hb with e | e
   ·subst e;exact⟨_,hS⟩
   ·exact hO b e
  simp only[Bool.not_true,Bool.false_eq_true,if_false]
  refine wpAny_bind (wpAny_rule ?_)
  exact wpAny_pure (stay es (List.Perm.refl _))
end
end L2
namespace L2
open PySem PySem.Spec PyProof.Rows
namespace F
theorem entry_set_and:entryFor table "set.__and__"=some Builtin.«frozenset.__and__»:=entryFor_alias (id':="frozenset.__and__") (by kernel_rfl) rfl (by decide +kernel) (by kernel_rfl)
theorem entry_set_sub:entryFor table "set.__sub__"=some Builtin.«frozenset.__sub__»:=entryFor_alias (id':="frozenset.__sub__") (by kernel_rfl) rfl (by decide +kernel) (by kernel_rfl)
end F
section
variable {prog:Program} {w:World} {A:Around} {E:Value→Shared→Prop} {s:Shared} {a b r:Addr} {ka kb:List Int} {k:Int} {tk:Tok}
theorem DY {Q:Nat→Shared→Prop} (hS:SetIt w s.heap a ka) (h:Q ka.length s):wpAny (model prog w) A (Builtin.Frozenset.sizeOf a) Q E s:=by
 obtain⟨o,es,ep,t,ho,hex,hd,hg,hk,nd,hl,ok,hf⟩:=hS
 unfold Builtin.Frozenset.sizeOf setEntries
 refine wpAny_bind (wpAny_bind (wpAny_setState_of ho hd hf (wpAny_pure ?_)))
 rw[Dz hk]
 exact wpAny_pure h
theorem Dr {Q:Bool→Shared→Prop} (hS:SetIt w s.heap a ka) (h:Q true s):wpAny (model prog w) A (Builtin.Frozenset.isAnySet (.ref a)) Q E s:=by
 unfold Builtin.Frozenset.isAnySet
 show wpAny _ _ (isInstance (.ref a) (.type "set") >>= _) _ _ _
 refine wpAny_bind (wpAny_isInstance hS.typeIs sub_set_self ?_)
 exact wpAny_pure h
theorem D5 {Q:Value→Shared→Prop} (hS:SetIt w s.heap a ka) (h:Q (.type "set") s):wpAny (model prog w) A (Builtin.Frozenset.baseOf a) Q E s:=by
 unfold Builtin.Frozenset.baseOf
 refine wpAny_bind (wpAny_isInstance hS.typeIs sub_set_self ?_)
 exact wpAny_pure h
theorem Hb {Q:Value→Shared→Prop} (h:Q (.ref s.heap.objs.size) { s with heap:=s.heap.push (Bh w) }):wpAny (model prog w) A (newSet (.type "set")) Q E s:=by
 unfold newSet setsByText
 refine wpAny_bind (wpAny_bind (wpAny_askSetting (wpAny_pure ?_)))
 simp only[newObj]
 refine wpAny_bind (wpAny_alloc (wpAny_pure ?_))
 exact h
theorem EV {Q:Nat→Shared→Prop} {o:Obj} {es:Array (Int×Value)} {ep:Nat} {t:SetTable} (ho:s.heap.get? a=some o) (hd:o.data= .set es ep t) (hf:t.fits es.size=true) (h:Q ep s):wpAny (model prog w) A (setEpoch a) Q E s:=by
 unfold setEpoch
 exact wpAny_bind (wpAny_setState_of ho hd hf (wpAny_pure h))
theorem Du {id:String} {Q:Unit→Shared→Prop} {o:Obj} {es:Array (Int×Value)} {ep:Nat} {t:SetTable} (ho:s.heap.get? a=some o) (hd:o.data= .set es ep t) (hf:t.fits es.size=true) (h:Q () s):wpAny (model prog w) A (Builtin.Frozenset.unchanged id a ep) Q E s:=by
 unfold Builtin.Frozenset.unchanged
 refine wpAny_bind (EV ho hd hf ?_)
 rw[if_neg (by simp)]
 exact wpAny_pure h
theorem IU {body:(Int×Value)→PUnit→Sem (ForInStep PUnit)} {p:Int→Bool} {R:PUnit→Shared→Prop} {es:Array (Int×Value)} {kr:List Int}
  (hbody:∀(k:Int) (tk:Tok) (h1:Heap) (k1:List Int) (Q':ForInStep PUnit→Shared→Prop),Heap.SameBut r s.heap h1→SetIs w h1 r k1→k1.length+1<2000→
   (∀h' k2,Heap.SameBut r h1 h'→SetIs w h' r k2→(∀j,j∈k2↔j∈k1∨(p k=true∧j=k))→k2.length≤k1.length+1→Q' (.yield ⟨⟩) { s with heap:=h' })→
   wpAny (model prog w) A (body (hashInt k,.int k tk) ⟨⟩) Q' E { s with heap:=h1 })
  (hg:EGood es.toList) (hR:SetIs w s.heap r kr) (hn:kr.length+es.size<1999)
  (h:∀h' k2,Heap.SameBut r s.heap h'→SetIs w h' r k2→(∀j,j∈k2↔j∈kr∨(p j=true∧j∈es.toList.map A7))→k2.length≤kr.length+es.size→R ⟨⟩ { s with heap:=h' }) :
  wpAny (model prog w) A (forIn es PUnit.unit body) R E s:=by
 refine wpAny_forIn_array' _ (fun rest _ s'=>∃h1 k1,s'={ s with heap:=h1 }∧Heap.SameBut r s.heap h1∧SetIs w h1 r k1∧EGood rest∧k1.length+rest.length≤kr.length+es.size∧
  (∀j,(j∈k1∨(p j=true∧j∈rest.map A7))↔j∈kr∨(p j=true∧j∈es.toList.map A7))) _ ?_ ?_ _ _ ⟨s.heap,kr,by cases s;rfl,Heap.SameBut.refl _ _,hR,hg,by rw[Array.length_toList];exact Nat.le_refl _,fun j=>Iff.rfl⟩
 ·rintro⟨hh,x⟩ rest u s' ⟨h1,k1,rfl,sb,hS,g,hl,hm⟩
  obtain⟨e1,t',e2⟩:=g _ List.mem_cons_self
  generalize hk:A7 (hh,x)=k at e1 e2
  dsimp only at e1 e2
  subst e1;subst e2
  rw[List.length_cons] at hl
  refine hbody k t' h1 k1 _ sb hS (by omega) fun h' k2 sb2 hS2 hm2 hl2=>?_
  refine⟨h',k2,rfl,sb.trans sb2,hS2,fun y hy=>g y (List.mem_cons_of_mem _ hy),by omega,fun j=>?_⟩
  rw[←hm j,hm2 j,List.map_cons,List.mem_cons]
  constructor
  ·rintro ((z | ⟨z1,z2⟩) | ⟨z1,z2⟩)
   ·exact .inl z
   ·exact .inr ⟨by rw[z2];exact z1,.inl (by rw[hk];exact z2)⟩
   ·exact .inr ⟨z1,.inr z2⟩
  ·rintro (z | ⟨z1,z2 | z2⟩)
   ·exact .inl (.inl z)
   ·exact .inl (.inr ⟨by rw[←hk,←z2];exact z1,by rw[←hk];exact z2⟩)
   ·exact .inr ⟨z1,z2⟩
 ·rintro u s' ⟨h1,k1,rfl,sb,hS,g,hl,hm⟩
  refine h h1 k1 sb hS (fun j=>?_) (by simpa using hl)
  rw[←hm j]
  simp
theorem Ej {h:Heap} {o:Obj} (e:h.get? a=some o):a≠h.objs.size:=Nat.ne_of_lt (Heap.lt_size e)
theorem QX {Q:Value→Shared→Prop} (ha:SetIt w s.heap a ka) (hb:SetIt w s.heap b kb) (hab:a≠b) (hl:ka.length+kb.length<1990)
  (h:∀h' k2,SetIs w h' s.heap.objs.size k2→(∀j,j∈k2↔j∈ka∧j∈kb)→k2.length≤ka.length+kb.length→(∀c o,s.heap.get? c=some o→h'.get? c=some o)→Q (.ref s.heap.objs.size) { s with heap:=h' }) :
  wpAny (model prog w) A (binaryOp .BitAnd (.ref a) (.ref b)) Q E s:=by
 refine wpAny_binaryOp_same ha.typeIs hb.typeIs PySem.F.fills_set_and PySem.F.slot_set_and ?_
 refine wpAny_call_entry PySem.F.slot_set_and ha.typeIs F.entry_set_and ?_ (PySem.F.args_set_and_2 _ _)
 show wpAny _ _ (do
  let (self,other) ←Builtin.Frozenset.slot1 "__and__" ⟨[.ref a,.ref b],[]⟩
  let (l,r):=if false=true then (other,self) else (self,other)
  if !(←Builtin.Frozenset.isAnySet l <&&> Builtin.Frozenset.isAnySet r) then rule s!"frozenset.{"__and__"}.declined";return ←ret .notImplemented
  ret (←Builtin.Frozenset.intersection s!"frozenset.{"__and__"}" (←Builtin.Frozenset.addrOf l) r)) _ _ _
 generalize s!"frozenset.{"__and__"}"=id0
 generalize s!"frozenset.{"__and__"}.declined"=id1
 show wpAny _ _ ((Builtin.Frozenset.isAnySet (.ref a) <&&> Builtin.Frozenset.isAnySet (.ref b)) >>= _) _ _ _
 refine wpAny_bind ?_
 show wpAny _ _ (Builtin.Frozenset.isAnySet (.ref a) >>= _) _ _ _
 refine wpAny_bind (Dr ha ?_)
 show wpAny _ _ (Builtin.Frozenset.isAnySet (.ref b)) _ _ _
 refine Dr hb ?_
 simp only[Bool.not_true,Bool.false_eq_true,if_false]
 show wpAny _ _ (Builtin.Frozenset.intersection id0 a (.ref b) >>= _) _ _ _
 refine wpAny_bind ?_
 unfold Builtin.Frozenset.intersection
 rw[if_neg (by intro z;have:=beq_iff_eq.mp z;injection this with this;exact hab this.symm)]
 refine wpAny_bind (D5 ha (wpAny_bind (Hb ?_)))
 show wpAny _ _ (holding _ _ >>= _) _ _ _
 refine wpAny_bind (wpAny_holding ?_)
 have kk:∀c o,s.heap.get? c=some o→(s.heap.push (Bh w)).get? c=some o:=fun c o e=>Heap.get?_push_of_some _ e
 have ha1:=ha.keep (h':=s.heap.push (Bh w)) fun o e=>kk _ _ e
 have hb1:=hb.keep (h':=s.heap.push (Bh w)) fun o e=>kk _ _ e
 have hr1:SetIs w (s.heap.push (Bh w)) s.heap.objs.size []:=set0_is
 have na:a≠s.heap.objs.size:=let ⟨o,_,_,_,ho,_⟩:=ha;Ej ho
 have nb:b≠s.heap.objs.size:=let ⟨o,_,_,_,ho,_⟩:=hb;Ej ho
 generalize er:s.heap.objs.size=r at *
 refine wpAny_bind (Dr hb1 ?_)
 simp only[if_true]
 show wpAny _ _ (Builtin.Frozenset.sizeOf b >>= _) _ _ _
 refine wpAny_bind (DY hb1 ?_)
 refine wpAny_bind (DY ha1 ?_)
 have hp:∃pa pw kpa kpw,(if kb.length>ka.length then (b,a) else (a,b))=(pa,pw)∧SetIt w (s.heap.push (Bh w)) pa kpa∧SetIt w (s.heap.push (Bh w)) pw kpw∧pa≠r∧pw≠r∧(∀j,j∈kpa∧j∈kpw↔j∈ka∧j∈kb)∧kpw.length≤ka.length+kb.length:=by
  by_cases z:kb.length>ka.length
  ·exact⟨b,a,kb,ka,if_pos z,hb1,ha1,nb,na,fun j=>and_comm,Nat.le_add_right _ _⟩
  ·exact⟨a,b,ka,kb,if_neg z,ha1,hb1,na,nb,fun j=>Iff.rfl,Nat.le_add_left _ _⟩
 obtain⟨pa,pw,kpa,kpw,e,hpa,hpw,npa,npw,hj,hlw⟩:=hp
 rw[e]
 dsimp only
 obtain⟨o,es,ep,t,ho,hex,hd,hg,hk,nd,hlk,ok,hf⟩:=id hpw
 refine wpAny_bind (EV ho hd hf ?_)
 refine wpAny_bind (Iv hpw hr1 (fun c hc=>?_) fun es' h' hg' hp' sb hr'=>?_)
 ·simp only[List.mem_cons,List.not_mem_nil,or_false] at hc
  rcases hc with rfl | rfl
  ·exact⟨_,hpa⟩
  ·exact⟨_,hr1.it⟩
 have hsz:es'.size=kpw.length:=by rw[←hp'.length_eq,List.length_map,Array.length_toList]
 refine wpAny_bind (wpAny_mono (IU (r:=r) (p:=fun j=>decide (j∈kpa)) (R:=fun _ s'=>∃h' k2,s'={ s with heap:=h' }∧Heap.SameBut r (s.heap.push (Bh w)) h'∧SetIs w h' r k2∧(∀j,j∈k2↔j∈ka∧j∈kb)∧k2.length≤ka.length+kb.length) ?_ hg' hr' (by rw[hsz];simp;omega) fun h2 k2 sb2 hS2 hm2 hl2=>⟨h2,k2,rfl,sb.trans sb2,hS2,fun j=>?_,by rw[hsz] at hl2;simp at hl2;omega⟩) ?_ fun _ _ h'=>h')
 ·intro k tk h1 k1 Q' sb1 hS1 hl1 hQ
  have hpa1:SetIt w h1 pa kpa:=hpa.keep fun o e=>by rw[sb1.2 _ npa,sb.2 _ npa];exact e
  refine wpAny_bind ?_
  refine wpAny_holding ?_
  refine wpAny_bind (Hh (s:={ s with heap:=h1 }) hpa1 fun rr hrr _=>?_)
  have fin:∀h' k2,Heap.SameBut r h1 h'→SetIs w h' r k2→(∀j,j∈k2↔j∈k1∨(decide (k∈kpa)=true∧j=k))→k2.length≤k1.length+1→wpAny (model prog w) A.in1 (Builtin.Frozenset.unchanged id0 pw ep >>= fun _=>pure (ForInStep.yield PUnit.unit)) Q' E { s with heap:=h' }:=fun h' k2 sb' hS' hm' hl'=>by
   have ho':h'.get? pw=some o:=by rw[sb'.2 _ npw,sb1.2 _ npw,sb.2 _ npw];exact ho
   exact wpAny_bind (Du (s:={ s with heap:=h' }) ho' hd hf (wpAny_pure (hQ h' k2 sb' hS' hm' hl')))
  by_cases hmem:k∈kpa
  ·rw[hrr,decide_eq_true hmem,if_pos rfl]
   refine wpAny_bind (GU (s:={ s with heap:=h1 }) hS1 hl1 fun h' k2 sb' hS' hm' hl'=>wpAny_pure ?_)
   exact fin h' k2 sb' hS' (fun j=>by rw[hm' j,decide_eq_true hmem];simp) hl'
  ·rw[hrr,decide_eq_false hmem,if_neg Bool.false_ne_true]
   refine wpAny_pure ?_
   exact fin h1 k1 (Heap.SameBut.refl _ _) hS1 (fun j=>by rw[decide_eq_false hmem];simp) (Nat.le_succ _)
 ·rw[hm2 j]
  rw[hp'.mem_iff,decide_eq_true_eq,←hj j]
  simp
 ·rintro u s' ⟨h',k2,rfl,sb',hS',hm',hl'⟩
  refine wpAny_pure ?_
  refine wpAny_pure ?_
  refine wpAny_pure ⟨_,rfl,by simp,?_⟩
  exact h h' k2 hS' hm' hl' fun c o e=>by
   have:c≠r:=by rw[←er];exact Ej e
   rw[sb'.2 _ this];exact kk c o e
end
end L2
namespace L2
open PySem PySem.Spec PyProof.Rows
theorem Kb {f g:Nat→Option Nat}:∀l:List Nat,(∀x∈l,g x=f x)→l.filterMap g=l.filterMap f
 | [],_=>rfl
 | x::l,h=>by
  have ih:=Kb l fun y hy=>h y (List.mem_cons_of_mem _ hy)
  have e:=h x List.mem_cons_self
  cases q:f x with
  | none=>rw[List.filterMap_cons_none (e.trans q),List.filterMap_cons_none q,ih]
  | some v=>rw[List.filterMap_cons_some (e.trans q),List.filterMap_cons_some q,ih]
theorem Pw {f g:Nat→Option Nat} {j k:Nat} (hf:f j=none) (hg:g j=some k) (hne:∀x,x≠j→g x=f x):∀l:List Nat,l.Nodup→j∈l→(l.filterMap g).Perm (k::l.filterMap f)
 | [],_,h=>by cases h
 | x::l,nd,h=>by
  have nd':=List.nodup_cons.mp nd
  by_cases e:x=j
  ·subst e
   have:l.filterMap g=l.filterMap f:=Kb l fun y hy=>hne y fun z=>nd'.1 (z ▸ hy)
   rw[List.filterMap_cons_some hg,List.filterMap_cons_none hf,this]
  ·have hj:j∈l:=by
    rcases List.mem_cons.mp h with z | z
    ·exact absurd z.symm e
    ·exact z
   have ih:=Pw hf hg hne l nd'.2 hj
   have ex:=hne x e
   cases q:f x with
   | none=>rw[List.filterMap_cons_none (ex.trans q),List.filterMap_cons_none q];exact ih
   | some v=>rw[List.filterMap_cons_some (ex.trans q),List.filterMap_cons_some q];exact (ih.cons v).trans (List.Perm.swap _ _ _)
theorem Ox {f:Nat→Option Nat}:∀l:List Nat,(∀x∈l,f x≠none)→(l.filterMap f).length=l.length
 | [],_=>rfl
 | x::l,h=>by
  cases q:f x with
  | none=>exact absurd q (h x List.mem_cons_self)
  | some v=>rw[List.filterMap_cons_some q,List.length_cons,List.length_cons,Ox l fun y hy=>h y (List.mem_cons_of_mem _ hy)]
abbrev N5 (n:Nat) (owner:Array (Option Nat)):List Nat:=(List.range n).filterMap fun j=>owner.getD j none
def Tf (mask:Nat):Nat→Nat×Nat→Nat×Nat
 | 0,x=>x
 | t+1,x=>Tf mask t (SetTable.leap mask x.1 x.2)
theorem IN {mask:Nat} {owner:Array (Option Nat)} {j:Nat}:∀(fuel i p:Nat),SetTable.layClean.free mask owner fuel i p=some j→owner.getD j (some 0)=none
 | 0,_,_,h=>by cases h
 | fuel+1,i,p,h=>by
  unfold SetTable.layClean.free at h
  split at h
  ·rename_i k e
   injection h with h
   subst h
   exact Option.isNone_iff_eq_none.mp (List.find?_some (p:=fun k=>(owner.getD (i+k) (some 0)).isNone) e)
  ·exact IN fuel _ _ h
theorem Ii {mask:Nat} {owner:Array (Option Nat)}:∀(fuel i p t:Nat),t<fuel→owner.getD (Tf mask t (i,p)).1 (some 0)=none→∃j,SetTable.layClean.free mask owner fuel i p=some j
 | 0,_,_,t,h,_=>absurd h (Nat.not_lt_zero _)
 | fuel+1,i,p,t,h,e=>by
  unfold SetTable.layClean.free
  split
  ·exact⟨_,rfl⟩
  ·rename_i q
   cases t with
   | zero=>
    have:=List.find?_eq_none.mp q 0 (List.mem_range.mpr (by unfold SetTable.runEnd;split<;>omega))
    rw[Nat.add_zero] at this
    have e':owner.getD i (some 0)=none:=e
    rw[e'] at this
    exact absurd rfl this
   | succ t=>exact Ii fuel _ _ t (Nat.lt_of_succ_lt_succ h) e
def MA (mask:Nat):Nat→Nat→Nat→Nat
 | 0,_,acc=>acc
 | n+1,i,acc=>MA mask n ((i*5+1)%(mask+1)) (acc ||| 1 <<< i)
theorem KQ {mask j:Nat}:∀(n i acc:Nat),(MA mask n i acc).testBit j=true→acc.testBit j=true∨∃t,t<n∧(Tf mask t (i,0)).1=j
 | 0,_,_,h=>.inl h
 | n+1,i,acc,h=>by
  rcases KQ n _ _ h with z | ⟨t,h1,h2⟩
  ·rw[Nat.testBit_or,Bool.or_eq_true] at z
   rcases z with z | z
   ·exact .inl z
   ·rw[Nat.shiftLeft_eq,Nat.one_mul,Nat.testBit_two_pow] at z
    exact .inr ⟨0,Nat.succ_pos _,of_decide_eq_true z⟩
  ·refine .inr ⟨t+1,Nat.succ_lt_succ h1,?_⟩
   show (Tf mask t (SetTable.leap mask i 0)).1=j
   unfold SetTable.leap
   rw[Nat.zero_div,Nat.add_zero]
   exact h2
def Qv (mask:Nat):Prop:=∀i j,i≤mask→j≤mask→∃t,t<mask+1∧(Tf mask t (i,0)).1=j
theorem Hx {mask:Nat} (h:(List.range (mask+1)).all (fun i=>MA mask (mask+1) i 0 == 2^(mask+1)-1)=true):Qv mask:=fun i j hi hj=>by
 have:=List.all_eq_true.mp h i (List.mem_range.mpr (Nat.lt_succ_of_le hi))
 have e:=beq_iff_eq.mp this
 have:(MA mask (mask+1) i 0).testBit j=true:=by
  rw[e,Nat.testBit_two_pow_sub_one]
  exact decide_eq_true (Nat.lt_succ_of_le hj)
 rcases KQ _ _ _ this with z | z
 ·rw[Nat.zero_testBit] at z;cases z
 ·exact z
theorem UB:Qv 7:=Hx (by decide +kernel)
theorem Tx:Qv 15:=Hx (by decide +kernel)
theorem Tl:Qv 31:=Hx (by decide +kernel)
theorem TW:Qv 63:=Hx (by decide +kernel)
theorem Se:Qv 127:=Hx (by decide +kernel)
theorem getD_none {owner:Array (Option Nat)} {j:Nat}:owner.getD j (some 0)=none→j<owner.size∧owner.getD j none=none:=fun h=>by
 by_cases z:j<owner.size
 ·refine⟨z,?_⟩
  simp[Array.getD,z] at h ⊢
  exact h
 ·simp[Array.getD,z] at h
theorem Qr {mask:Nat} (cov:Qv mask):∀(hs:List Int) (owner:Array (Option Nat)) (k:Nat),owner.size=mask+1→(N5 (mask+1) owner).Perm (List.range k)→k+hs.length≤mask+1→(∀h∈hs,SetTable.bits h<32)→
  ∃owner':Array (Option Nat),hs.foldl (fun (acc:Option (Array (Option Nat)×Nat)) h=>(do
   let (owner,k) ←acc
   let j ←SetTable.layClean.free mask owner (SetTable.turns mask) (SetTable.bits h%(mask+1)) (SetTable.bits h)
   pure (owner.setIfInBounds j (some k),k+1))) (some (owner,k))=some (owner',k+hs.length)∧owner'.size=mask+1∧(N5 (mask+1) owner').Perm (List.range (k+hs.length))
 | [],owner,k,hz,hp,_,_=>⟨owner,rfl,hz,hp⟩
 | h::hs,owner,k,hz,hp,hl,hb=>by
  rw[List.length_cons] at hl
  have hex:∃j,j≤mask∧owner.getD j none=none:=Classical.byContradiction fun z=>by
   have:=Ox (f:=fun j=>owner.getD j none) (List.range (mask+1)) fun x hx e=>z ⟨x,Nat.le_of_lt_succ (List.mem_range.mp hx),e⟩
   have e2:=hp.length_eq
   rw[List.length_range] at this e2
   change (N5 (mask+1) owner).length=_ at this
   omega
  obtain⟨j0,hj0,e0⟩:=hex
  have e0':owner.getD j0 (some 0)=none:=by
   have:j0<owner.size:=by omega
   simp[Array.getD,this] at e0 ⊢
   exact e0
  have hb0:=hb h List.mem_cons_self
  have hd:SetTable.bits h / 32=0:=Nat.div_eq_of_lt hb0
  obtain⟨t,ht,et⟩:=cov ((SetTable.bits h%(mask+1)*5+1)%(mask+1)) j0 (Nat.le_of_lt_succ (Nat.mod_lt _ (Nat.succ_pos _))) hj0
  obtain⟨j,ej⟩:=Ii (mask:=mask) (owner:=owner) (SetTable.turns mask) (SetTable.bits h%(mask+1)) (SetTable.bits h) (t+1) (by unfold SetTable.turns;omega) (by
   show owner.getD (Tf mask t (SetTable.leap mask _ _)).1 (some 0)=none
   unfold SetTable.leap
   rw[hd,Nat.add_zero,et]
   exact e0')
  obtain⟨jl,jn⟩:=getD_none (IN _ _ _ ej)
  have hp':(N5 (mask+1) (owner.setIfInBounds j (some k))).Perm (List.range (k+1)):=by
   refine (Pw (f:=fun j=>owner.getD j none) (g:=fun x=>(owner.setIfInBounds j (some k)).getD x none) (j:=j) (k:=k) jn ?_ (fun x hx=>?_) _ List.nodup_range (List.mem_range.mpr (by omega))).trans ?_
   ·simp[Array.getD,jl]
   ·simp only[Array.getD_eq_getD_getElem?]
    rw[Array.getElem?_setIfInBounds_ne (Ne.symm hx)]
   ·refine (hp.cons k).trans ?_
    rw[List.range_succ (n:=k)]
    exact List.perm_append_comm (l₁:=[k])
  obtain⟨o',h1,h2,h3⟩:=Qr cov hs (owner.setIfInBounds j (some k)) (k+1) (by rw[Array.size_setIfInBounds];exact hz) hp' (by omega) fun y hy=>hb y (List.mem_cons_of_mem _ hy)
  have ek:k+1+hs.length=k+(hs.length+1):=by omega
  refine⟨o',?_,h2,?_⟩
  ·rw[List.foldl_cons]
   show List.foldl _ (SetTable.layClean.free mask owner (SetTable.turns mask) (SetTable.bits h%(mask+1)) (SetTable.bits h) >>= _) hs=_
   rw[ej,List.length_cons,←ek]
   exact h1
  ·rw[List.length_cons,←ek];exact h3
theorem MG {mask:Nat} (cov:Qv mask) (finger moves:Nat) (led plain:Bool) (hs:Array Int) (hl:hs.size≤mask) (hb:∀h∈hs.toList,SetTable.bits h<32) :
  ∃t order,SetTable.laid mask finger moves led plain hs=some (t,order)∧order.toList.Perm (List.range hs.size)∧t.dummies = #[]∧t.led=led∧Up t.place∧t.place.size=hs.size∧t.mask=mask:=by
 have hr:(N5 (mask+1) (Array.replicate (mask+1) none)).Perm (List.range 0):=by
  have:N5 (mask+1) (Array.replicate (mask+1) none)=[]:=by
   refine List.filterMap_eq_nil_iff.mpr fun x hx=>?_
   simp[Array.getD]
  rw[this]
  exact List.Perm.refl _
 obtain⟨owner,h1,h2,h3⟩:=Qr cov hs.toList _ 0 Array.size_replicate hr (by rw[Array.length_toList];omega) hb
 rw[Nat.zero_add,Array.length_toList] at h1 h3
 have e:SetTable.layClean mask hs=some owner:=by
  unfold SetTable.layClean
  rw[←Array.foldl_toList]
  exact congrArg (Option.map (·.1)) h1
 unfold SetTable.laid
 rw[e]
 refine⟨_,_,rfl,?_,rfl,rfl,?_,?_,rfl⟩
 ·show (List.map (fun x:Nat×Nat=>x.2) (List.filterMap (fun j=>Option.map (fun x=>(j,x)) (owner.getD j none)) (List.range (mask+1)))).Perm _
  rw[List.map_filterMap]
  have:(fun j=>Option.map (fun x:Nat×Nat=>x.2) (Option.map (fun x=>(j,x)) (owner.getD j none)))=fun j=>owner.getD j none:=by
   funext j
   cases owner.getD j none<;>rfl
  rw[this]
  exact h3
 ·show (List.map (fun x:Nat×Nat=>x.fst) (List.filterMap (fun j=>Option.map (fun x=>(j,x)) (owner.getD j none)) (List.range (mask+1)))).toArray.toList.Pairwise (· < ·)
  rw[List.toList_toArray]
  rw[List.map_filterMap]
  refine List.Pairwise.filterMap _ (R:=(· < ·)) ?_ List.pairwise_lt_range
  intro a a' hlt b hb b' hb'
  have f:∀{a b:Nat},Option.map (fun x:Nat×Nat=>x.1) (Option.map (fun x=>(a,x)) (owner.getD a none))=some b→b=a:=fun {a b} e=>by
   cases q:owner.getD a none with
   | none=>rw[q] at e;cases e
   | some y=>rw[q] at e;injection e with e;exact e.symm
  rw[f hb,f hb']
  exact hlt
 ·show (List.map (fun x:Nat×Nat=>x.fst) (List.filterMap (fun j=>Option.map (fun x=>(j,x)) (owner.getD j none)) (List.range (mask+1)))).toArray.size=_
  have e3:=h3.length_eq
  rw[List.length_range] at e3
  rw[List.size_toArray,List.length_map,←e3]
  have:∀l:List Nat,(List.filterMap (fun j=>Option.map (fun x=>(j,x)) (owner.getD j none)) l).length=(List.filterMap (fun j=>owner.getD j none) l).length:=fun l=>by
   induction l with
   | nil=>rfl
   | cons x l ih=>cases q:owner.getD x none with
    | none=>rw[List.filterMap_cons_none (by rw[q];rfl),List.filterMap_cons_none (f:=fun j=>owner.getD j none) q];exact ih
    | some v=>rw[List.filterMap_cons_some (by rw[q];rfl),List.filterMap_cons_some (f:=fun j=>owner.getD j none) q,List.length_cons,List.length_cons,ih]
  exact this _
end L2
namespace L2
open PySem PySem.Spec PyProof.Rows
theorem BK {α:Type} (xs:Array α) (p:Nat):(SetTable.eraseAt xs p).toList=xs.toList.eraseIdx p:=by
 simp[SetTable.eraseAt,List.extract_eq_take_drop,List.eraseIdx_eq_take_drop_succ,List.take_of_length_le]
def SetDr (w:World) (h:Heap) (a:Addr) (ks:List Int) (m d:Nat):Prop:=
 ∃o es ep t,h.get? a=some o∧o.ExactSet∧o.data= .set es ep t∧EGood es.toList∧es.toList.map A7=ks∧ks.Nodup∧ks.length<2000∧Gd (Bz w) t∧t.fits es.size=true∧t.mask=m∧t.dummies.size≤d
theorem SetDr.it {w:World} {h:Heap} {a:Addr} {ks:List Int} {m d:Nat} (x:SetDr w h a ks m d):SetIt w h a ks:=by
 obtain⟨o,es,ep,t,h1,h2,h3,h4,h5,h6,h7,h8,h9,_⟩:=x
 exact⟨o,es,ep,t,h1,h2,h3,h4,h5,h6,h7,h8,h9⟩
theorem Gp {h:Heap} {o:Obj} {a:Addr} {es es':Array (Int×Value)} {ep:Nat} {t t':SetTable} (ho:h.get? a=some o) (hd:o.data= .set es ep t) :
  (h.update a (Obj.putSet es' t')).get? a=some { o with data:=.set es' (ep+1) t' }:=by
 have:=Heap.get?_update_self (Obj.putSet es' t') ho (by rw[putSet_of es' t' hd];rfl)
 rw[putSet_of es' t' hd] at this;exact this
theorem Lj {k:Int} (h0:0≤k) (h1:k<32):SetTable.bits (hashInt k)<32:=by
 obtain⟨n,rfl⟩:=Int.eq_ofNat_of_zero_le h0
 have hn:n<32:=by omega
 have:∀n:Fin 32,SetTable.bits (hashInt (n.val:Int))<32:=by decide +kernel
 exact this ⟨n,hn⟩
section
variable {prog:Program} {w:World} {A:Around} {E:Value→Shared→Prop} {s:Shared} {a b r:Addr} {ka kb ks:List Int} {k:Int} {tk:Tok}
theorem KR {Q:Bool→Shared→Prop} {m d:Nat} (hS:SetDr w s.heap a ks m d)
  (h:∀(bb:Bool) h' ks',Heap.SameBut a s.heap h'→SetDr w h' a ks' m (d+1)→(∀j,j∈ks'↔j∈ks∧j≠k)→ks'.length≤ks.length→Q bb { s with heap:=h' }) :
  wpAny (model prog w) A (setDiscardHashed a (.int k tk) (hashInt k)) Q E s:=by
 obtain⟨o,es,ep,t,ho,hex,hd,hg,hk,nd,hl,ok,hf,em,ed⟩:=id hS
 unfold setDiscardHashed
 refine wpAny_bind (Hh hS.it fun rr hrr hat=>?_)
 cases rr with
 | none=>
  have hmem:k∉ks:=by
   intro z
   rw[decide_eq_true z] at hrr
   cases hrr
  have e:s={ s with heap:=s.heap }:=by cases s;rfl
  have:=h false s.heap ks (Heap.SameBut.refl _ _) ⟨o,es,ep,t,ho,hex,hd,hg,hk,nd,hl,ok,hf,em,Nat.le_succ_of_le ed⟩ (fun j=>⟨fun z=>⟨z,fun e=>hmem (e ▸ z)⟩,fun z=>z.1⟩) (Nat.le_refl _)
  rw[e]
  exact wpAny_pure this
 | some i=>
  have hki:=hat i rfl
  obtain⟨hi,eki⟩:=List.getElem?_eq_some_iff.mp hki
  have hsz:=Dz hk
  have hpl:t.place.size=es.size:=by
   unfold SetTable.fits at hf
   exact beq_iff_eq.mp (Bool.and_eq_true_iff.mp hf).1
  have hfl:t.place.size+t.dummies.size≤t.mask:=by
   unfold SetTable.fits at hf
   exact of_decide_eq_true (Bool.and_eq_true_iff.mp hf).2
  have hip:i<t.place.size:=by omega
  have edrop:t.drop i={ t with place:=SetTable.eraseAt t.place i,dummies:=SetTable.insertAt t.dummies (SetTable.below t.dummies t.place[i]) t.place[i] }:=by
   unfold SetTable.drop
   rw[Array.getElem?_eq_getElem hip]
  have hkeys:(SetTable.eraseAt es i).toList.map A7=ks.eraseIdx i:=by
   rw[BK,←hk,List.eraseIdx_eq_take_drop_succ,List.eraseIdx_eq_take_drop_succ,List.map_append,List.map_take,List.map_drop]
  have hpm:=Dy ks i hi
  rw[eki] at hpm
  have nd':=hpm.nodup_iff.mpr nd
  have hlen:(ks.eraseIdx i).length+1=ks.length:=by rw[←hpm.length_eq,List.length_cons]
  have hes:(SetTable.eraseAt es i).size=(ks.eraseIdx i).length:=by rw[←hkeys,List.length_map,Array.length_toList]
  have hps:(SetTable.eraseAt t.place i).size+1=t.place.size:=by
   rw[←Array.length_toList,BK,List.length_eraseIdx,Array.length_toList,if_pos hip];omega
  have hds:(SetTable.insertAt t.dummies (SetTable.below t.dummies t.place[i]) t.place[i]).size=t.dummies.size+1:=by
   rw[←Array.length_toList,(SetTable.insertAt_perm _ _ _).length_eq]
   simp
  dsimp only
  refine wpAny_bind (wpAny_setState_of ho hd hf ?_)
  dsimp only
  refine wpAny_bind (wpAny_storeSet_of ho hd ?_ (fits_of_scanBound (by rw[hes];exact Cq (by omega))))
  refine wpAny_bind (wpAny_point (wpAny_pure ?_))
  refine h true _ (ks.eraseIdx i) (Heap.SameBut.update _ _ _) ⟨_,_,_,_,Gp ho hd,hex,rfl,?_,hkeys,(List.nodup_cons.mp nd').2,by omega,?_,?_,?_,?_⟩ (fun j=>?_) (by omega)
  ·intro e he
   rw[BK] at he
   exact hg e (List.mem_of_mem_eraseIdx he)
  ·rw[edrop]
   refine⟨ok.led,?_⟩
   show (SetTable.eraseAt t.place i).toList.Pairwise (· < ·)
   rw[BK]
   exact List.Pairwise.sublist (List.eraseIdx_sublist _ _) ok.up
  ·rw[edrop]
   unfold SetTable.fits SetTable.fill
   show ((SetTable.eraseAt t.place i).size == _ && decide ((SetTable.eraseAt t.place i).size+(SetTable.insertAt t.dummies _ _).size≤t.mask))=true
   rw[hds,Bool.and_eq_true_iff]
   exact⟨beq_iff_eq.mpr (by omega),decide_eq_true (by omega)⟩
  ·rw[edrop];exact em
  ·rw[edrop]
   show (SetTable.insertAt t.dummies _ _).size≤d+1
   rw[hds];omega
  ·rw[←hpm.mem_iff,List.mem_cons]
   have hn:=(List.nodup_cons.mp nd').1
   constructor
   ·intro z;exact⟨.inr z,fun e=>hn (e ▸ z)⟩
   ·rintro⟨z | z,ne⟩
    ·exact absurd z ne
    ·exact z
theorem Mw {es:Array (Int×Value)} {t:SetTable} {order:Array Nat} (hp:order.toList.Perm (List.range es.size)):(order.filterMap (es[·]?)).toList.Perm es.toList:=by
 rw[Array.toList_filterMap]
 exact (hp.filterMap _).trans (by rw[filterMap_getElem?_range])
end
end L2
namespace L2
open PySem PySem.Spec PyProof.Rows
theorem Ry (n:Nat) (hn:n≤32):∃m,(∀led:Bool,(SetTable.fresh 0 0 led).roomFor n=if m=7 then none else some (2*n))∧(m≠7→SetTable.sizeAbove (2*n)-1=m)∧n≤m∧Qv m∧SetTable.sizeAbove (2*n)≤128:=by
 have key:∀n:Fin 33,(decide (n.val≤4) && decide (n.val*5<21)) || (decide (4<n.val) && decide (21≤n.val*5) && (SetTable.sizeAbove (2*n.val)-1 == 15 || SetTable.sizeAbove (2*n.val)-1 == 31 || SetTable.sizeAbove (2*n.val)-1 == 63 || SetTable.sizeAbove (2*n.val)-1 == 127) && decide (n.val≤SetTable.sizeAbove (2*n.val)-1))=true:=by decide +kernel
 have key2:∀n:Fin 33,SetTable.sizeAbove (2*n.val)≤128:=by decide +kernel
 have hk:=key ⟨n,by omega⟩
 have hk2:=key2 ⟨n,by omega⟩
 dsimp only at hk hk2
 have hfill:∀led:Bool,(SetTable.fresh 0 0 led).roomFor n=if (0+n)*5≥7*3 then some ((0+n)*2) else none:=fun led=>rfl
 by_cases h4:n≤4
 ·refine⟨7,fun led=>?_,fun h=>absurd rfl h,by omega,UB,hk2⟩
  rw[hfill,if_neg (by omega),if_pos rfl]
 ·have hgt:¬decide (n≤4)=true:=by simpa using h4
  simp only[Bool.or_eq_true,Bool.and_eq_true,decide_eq_true_eq,beq_iff_eq] at hk
  rcases hk with⟨z,_⟩|⟨⟨⟨_,h21⟩,hm⟩,hnm⟩
  ·exact absurd z h4
  ·have hf:∀m,m≠7→∀led:Bool,(SetTable.fresh 0 0 led).roomFor n=if m=7 then none else some (2*n):=fun m hm led=>by
    rw[hfill,if_pos (by omega),if_neg hm,Nat.zero_add,Nat.mul_comm]
   rcases hm with ((e | e) | e) | e
   ·exact⟨15,hf 15 (by decide),fun _=>e,by omega,Tx,hk2⟩
   ·exact⟨31,hf 31 (by decide),fun _=>e,by omega,Tl,hk2⟩
   ·exact⟨63,hf 63 (by decide),fun _=>e,by omega,TW,hk2⟩
   ·exact⟨127,hf 127 (by decide),fun _=>e,by omega,Se,hk2⟩
section
variable {prog:Program} {w:World} {A:Around} {E:Value→Shared→Prop} {s:Shared} {a b r:Addr} {ka kb ks:List Int} {k:Int} {tk:Tok}
theorem OV {n m:Nat} {Q:Unit→Shared→Prop} (ho:s.heap.get? r=some (Bh w)) (hr:∀led:Bool,(SetTable.fresh 0 0 led).roomFor n=if m=7 then none else some (2*n)) (hm:m≠7→SetTable.sizeAbove (2*n)-1=m) (cov:Qv m) (h128:SetTable.sizeAbove (2*n)≤128)
  (h:∀h' o' ep t,Heap.SameBut r s.heap h'→h'.get? r=some o'→o'.ExactSet→o'.data= .set #[] ep t→t.fits 0=true→t.mask=m→t.place.size=0→t.dummies = #[]→t.led = !Bz w→Q () { s with heap:=h' }) :
  wpAny (model prog w) A (setRoomFor r n) Q E s:=by
 unfold setRoomFor
 refine wpAny_bind (wpAny_setState_of ho rfl rfl ?_)
 dsimp only
 rw[hr]
 by_cases z:m=7
 ·rw[if_pos z]
  dsimp only
  have e:s={ s with heap:=s.heap }:=by cases s;rfl
  rw[e]
  exact wpAny_pure (h s.heap _ 0 _ (Heap.SameBut.refl _ _) ho ⟨rfl,rfl,rfl⟩ rfl rfl z.symm rfl rfl rfl)
 ·rw[if_neg z]
  dsimp only
  unfold setRelay
  refine wpAny_bind (wpAny_setState_of ho rfl rfl ?_)
  dsimp only
  rw[if_neg (by have:=sizeLine_eq;omega)]
  have hm':=hm z
  obtain⟨t,order,e1,hp,hdm,hld,hup,hps,hmk⟩:=MG cov 0 ((SetTable.fresh 0 0 (!Bz w)).movedTo m) (!Bz w) true #[] (Nat.zero_le _) (fun h hh=>by simp at hh)
  have e2:(SetTable.fresh 0 0 (!Bz w)).relaid (Array.map (·.1) (#[]:Array (Int×Value))) (2*n)=some (t,order):=by
   have em:Array.map (·.1) (#[]:Array (Int×Value)) = #[]:=by simp
   unfold SetTable.relaid
   rw[hm',em]
   exact e1
  have hop:(order.filterMap ((#[]:Array (Int×Value))[·]?)) = #[]:=by
   have:=Mw (t:=t) (es:=#[]) (order:=order) hp
   exact Array.toList_inj.mp (List.perm_nil.mp this)
  have hft:t.fits 0=true:=by
   unfold SetTable.fits SetTable.fill
   rw[hps,hdm]
   rfl
  refine wpAny_bind ?_
  rw[e2]
  show wpAny _ _ (if (order.filterMap ((#[]:Array (Int×Value))[·]?)).size != (#[]:Array (Int×Value)).size then _ else _) _ _ _
  rw[hop,if_neg (by simp)]
  refine wpAny_pure ?_
  dsimp only
  refine wpAny_storeSet_of ho rfl ?_ (by simp)
  exact h _ _ _ _ (Heap.SameBut.update _ _ _) (Gp ho rfl) ⟨rfl,rfl,rfl⟩ rfl hft hmk hps hdm hld
theorem Ll {Q:Unit→Shared→Prop} (ha:SetIt w s.heap a ka) (ho:s.heap.get? r=some (Bh w)) (hne:r≠a) (h32:∀j∈ka,0≤j∧j<32) (hl:ka.length≤32)
  (h:∀h' k2 m,Heap.SameBut r s.heap h'→SetDr w h' r k2 m 0→k2.Perm ka→ka.length≤m→Q () { s with heap:=h' }) :
  wpAny (model prog w) A (setMerge r a) Q E s:=by
 obtain⟨o,es,ep,t,hoa,hex,hd,hg,hk,nd,hlk,ok,hf⟩:=id ha
 have hsz:=Dz hk
 unfold setMerge
 rw[if_neg (by simpa using hne)]
 refine wpAny_bind (wpAny_setState_of hoa hd hf ?_)
 dsimp only
 by_cases hem:es.isEmpty=true
 ·rw[if_pos hem]
  have e0:ka=[]:=List.eq_nil_of_length_eq_zero (by rw[←hsz];exact Array.isEmpty_iff_size_eq_zero.mp hem)
  have e:s={ s with heap:=s.heap }:=by cases s;rfl
  have:=h s.heap [] 7 (Heap.SameBut.refl _ _) ⟨_,#[],0,_,ho,⟨rfl,rfl,rfl⟩,rfl,fun e he=>absurd he (by simp),rfl,List.nodup_nil,by decide,⟨rfl,List.Pairwise.nil⟩,rfl,rfl,Nat.le_refl _⟩ (by rw[e0]) (by rw[e0];decide)
  rw[e]
  exact wpAny_pure this
 ·rw[if_neg hem]
  obtain⟨m,hr,hm,hnm,cov,h128⟩:=Ry es.size (by omega)
  refine wpAny_bind (OV ho hr hm cov h128 fun h1 o1 ep1 t1 sb1 ho1 hex1 hd1 hf1 hm1 hp1 hdm1 hl1=>?_)
  have hoa1:h1.get? a=some o:=by rw[sb1.2 _ (Ne.symm hne)];exact hoa
  refine wpAny_bind (wpAny_setState_of (s:={ s with heap:=h1 }) ho1 hd1 hf1 ?_)
  dsimp only
  have hfill:(t1.fill != 0)=false:=by
   unfold SetTable.fill
   rw[hp1,hdm1]
   rfl
  unfold SetTable.road
  rw[hfill,if_neg Bool.false_ne_true]
  by_cases hc:(t1.mask == t.mask && t.dummies.isEmpty)=true
  ·rw[if_pos hc]
   dsimp only
   obtain⟨c1,c2⟩:=Bool.and_eq_true_iff.mp hc
   refine wpAny_storeSet_of (s:={ s with heap:=h1 }) ho1 hd1 ?_ (fits_of_scanBound (by rw[hsz];exact Cq hlk))
   refine h _ ka m (sb1.trans (Heap.SameBut.update _ _ _)) ⟨_,_,_,_,Gp ho1 hd1,hex1,rfl,hg,hk,nd,hlk,⟨?_,ok.up⟩,hf,?_,?_⟩ (List.Perm.refl _) (by omega)
   ·show (t1.led && t.led)=_
    rw[hl1,ok.led,Bool.and_self]
   ·show t.mask=m
    rw[←hm1]
    exact (beq_iff_eq.mp c1).symm
   ·show t.dummies.size≤0
    rw[Array.isEmpty_iff_size_eq_zero.mp c2]
    exact Nat.le_refl _
  ·rw[if_neg hc]
   dsimp only
   have hsm:(es.map (·.1)).size=es.size:=Array.size_map
   obtain⟨t2,order,e1,hp,hdm,hld,hup,hps,hmk⟩:=MG cov t1.finger t1.moves (t1.led && t.led) (t1.plain && t.plain) (es.map (·.1)) (by rw[hsm];exact hnm) (fun hh hin=>by
    rw[Array.toList_map] at hin
    obtain⟨e,he,rfl⟩:=List.mem_map.mp hin
    rw[(hg e he).1]
    have:=h32 (A7 e) (by rw[←hk];exact List.mem_map_of_mem he)
    exact Lj this.1 this.2)
   rw[hsm] at hp hps
   rw[hm1]
   have hpe:=Mw (t:=t2) (es:=es) hp
   refine wpAny_bind ?_
   rw[e1]
   have hsz2:(order.filterMap (es[·]?)).size=es.size:=by rw[←Array.length_toList,hpe.length_eq,Array.length_toList]
   show wpAny _ _ (if (order.filterMap (es[·]?)).size != es.size then _ else _) _ _ _
   rw[if_neg (by rw[hsz2];simp)]
   refine wpAny_pure ?_
   dsimp only
   have hkp:=hpe.map A7
   rw[hk] at hkp
   refine wpAny_storeSet_of (s:={ s with heap:=h1 }) ho1 hd1 ?_ (fits_of_scanBound (by rw[hsz2,hsz];exact Cq hlk))
   refine h _ _ m (sb1.trans (Heap.SameBut.update _ _ _)) ⟨_,_,_,_,Gp ho1 hd1,hex1,rfl,fun e he=>hg e (hpe.mem_iff.mp he),rfl,hkp.nodup_iff.mpr nd,by rw[hkp.length_eq];exact hlk,⟨by rw[hld,hl1,ok.led,Bool.and_self],hup⟩,?_,hmk,by rw[hdm];exact Nat.le_refl _⟩ hkp (by omega)
   unfold SetTable.fits SetTable.fill
   rw[hps,hdm,hsz2,hmk,Bool.and_eq_true_iff]
   exact⟨beq_self_eq_true _,decide_eq_true (by simpa using hnm)⟩
end
end L2
namespace L2
open PySem PySem.Spec PyProof.Rows
section
variable {prog:Program} {w:World} {A:Around} {E:Value→Shared→Prop} {s:Shared} {a b r:Addr} {ka kb kr ks:List Int} {k:Int} {tk:Tok}
theorem KJ {id0:String} {m:Nat} {Q:Unit→Shared→Prop} (hr:SetDr w s.heap r kr m 0) (hb:SetIt w s.heap b kb) (hne:r≠b) (hlt:kb.length<kr.length / 4) (hm:kr.length≤m)
  (h:∀h' k2,Heap.SameBut r s.heap h'→SetIt w h' r k2→(∀j,j∈k2↔j∈kr∧j∉kb)→k2.length≤kr.length→Q () { s with heap:=h' }) :
  wpAny (model prog w) A (Builtin.Frozenset.differenceUpdate id0 r (.ref b)) Q E s:=by
 unfold Builtin.Frozenset.differenceUpdate
 rw[if_neg (by intro z;have:=beq_iff_eq.mp z;injection this with this;exact hne this.symm)]
 refine wpAny_bind (Dr hb ?_)
 rw[if_pos rfl]
 obtain⟨o,es,ep,t,ho,hex,hd,hg,hk,nd,hlk,ok,hf⟩:=id hb
 show wpAny _ _ (Builtin.Frozenset.sizeOf b >>= _) _ _ _
 refine wpAny_bind (DY hb ?_)
 refine wpAny_bind (DY hr.it ?_)
 rw[if_neg (by omega)]
 refine wpAny_bind (EV ho hd hf ?_)
 refine wpAny_bind (wpAny_holding ?_)
 refine wpAny_bind (Nw hb (fun c hc=>?_) fun es' hg' hp'=>?_)
 ·simp only[List.mem_cons,List.not_mem_nil,or_false] at hc
  subst hc
  exact⟨_,hr.it⟩
 have hsz:es'.size=kb.length:=by rw[←hp'.length_eq,List.length_map,Array.length_toList]
 refine wpAny_bind ?_
 refine wpAny_forIn_array' _ (fun rest _ s'=>∃h1 k1 d,s'={ s with heap:=h1 }∧Heap.SameBut r s.heap h1∧SetDr w h1 r k1 m d∧d+rest.length=kb.length∧EGood rest∧k1.length≤kr.length∧
  (∀j,(j∈k1∧j∉rest.map A7)↔j∈kr∧j∉kb)) _ ?_ ?_ _ _ ⟨s.heap,kr,0,by cases s;rfl,Heap.SameBut.refl _ _,hr,by rw[Array.length_toList,hsz];omega,hg',Nat.le_refl _,fun j=>by rw[hp'.mem_iff]⟩
 ·rintro⟨hh,x⟩ rest u s' ⟨h1,k1,d,rfl,sb,hS,hdl,g,hl,hm⟩
  obtain⟨e1,t',e2⟩:=g _ List.mem_cons_self
  generalize hk:A7 (hh,x)=k at e1 e2
  dsimp only at e1 e2
  subst e1;subst e2
  rw[List.length_cons] at hdl
  refine wpAny_bind (wpAny_holding ?_)
  refine KR (s:={ s with heap:=h1 }) hS fun bb h2 k2 sb2 hS2 hm2 hl2=>?_
  have ho':h2.get? b=some o:=by rw[sb2.2 _ (Ne.symm hne),sb.2 _ (Ne.symm hne)];exact ho
  refine wpAny_bind (Du (s:={ s with heap:=h2 }) ho' hd hf (wpAny_pure ?_))
  refine⟨h2,k2,d+1,rfl,sb.trans sb2,hS2,by omega,fun y hy=>g y (List.mem_cons_of_mem _ hy),Nat.le_trans hl2 hl,fun j=>?_⟩
  rw[←hm j,hm2 j,List.map_cons,List.mem_cons,hk]
  constructor
  ·rintro⟨⟨z1,z2⟩,z3⟩
   exact⟨z1,fun z=>z.elim z2 z3⟩
  ·rintro⟨z1,z2⟩
   exact⟨⟨z1,fun e=>z2 (.inl e)⟩,fun e=>z2 (.inr e)⟩
 ·rintro u s' ⟨h1,k1,d,rfl,sb,hS,hdl,g,hl,hm2⟩
  refine wpAny_pure ?_
  obtain⟨o1,es1,ep1,t1,ho1,hex1,hd1,hg1,hk1,nd1,hlk1,ok1,hf1,em1,ed1⟩:=id hS
  unfold setTidy
  refine wpAny_bind (wpAny_setState_of (s:={ s with heap:=h1 }) ho1 hd1 hf1 ?_)
  dsimp only
  rw[if_neg (by
   unfold SetTable.tooManyDummies
   rw[em1]
   simp only[List.length_nil] at hdl
   have:¬t1.dummies.size>m / 4:=by omega
   simpa using this)]
  exact wpAny_pure (h h1 k1 sb hS.it (fun j=>by rw[←hm2 j];simp) hl)
theorem QO {Q:Value→Shared→Prop} (ha:SetIt w s.heap a ka) (hb:SetIt w s.heap b kb) (hab:a≠b) (h32:∀j∈ka,0≤j∧j<32) (hl:ka.length≤32) (hlb:kb.length≤1000)
  (h:∀h' k2,SetIt w h' s.heap.objs.size k2→(∀j,j∈k2↔j∈ka∧j∉kb)→k2.length≤ka.length→(∀c o,s.heap.get? c=some o→h'.get? c=some o)→Q (.ref s.heap.objs.size) { s with heap:=h' }) :
  wpAny (model prog w) A (binaryOp .Sub (.ref a) (.ref b)) Q E s:=by
 refine wpAny_binaryOp_same ha.typeIs hb.typeIs PySem.F.fills_set_sub PySem.F.slot_set_sub ?_
 refine wpAny_call_entry PySem.F.slot_set_sub ha.typeIs F.entry_set_sub ?_ (PySem.F.args_set_sub_2 _ _)
 show wpAny _ _ (do
  let (self,other) ←Builtin.Frozenset.slot1 "__sub__" ⟨[.ref a,.ref b],[]⟩
  let (l,r):=if false=true then (other,self) else (self,other)
  if !(←Builtin.Frozenset.isAnySet l <&&> Builtin.Frozenset.isAnySet r) then rule s!"frozenset.{"__sub__"}.declined";return ←ret .notImplemented
  ret (←Builtin.Frozenset.difference s!"frozenset.{"__sub__"}" (←Builtin.Frozenset.addrOf l) r)) _ _ _
 generalize s!"frozenset.{"__sub__"}"=id0
 generalize s!"frozenset.{"__sub__"}.declined"=id1
 show wpAny _ _ ((Builtin.Frozenset.isAnySet (.ref a) <&&> Builtin.Frozenset.isAnySet (.ref b)) >>= _) _ _ _
 refine wpAny_bind ?_
 show wpAny _ _ (Builtin.Frozenset.isAnySet (.ref a) >>= _) _ _ _
 refine wpAny_bind (Dr ha ?_)
 show wpAny _ _ (Builtin.Frozenset.isAnySet (.ref b)) _ _ _
 refine Dr hb ?_
 simp only[Bool.not_true,Bool.false_eq_true,if_false]
 show wpAny _ _ (Builtin.Frozenset.difference id0 a (.ref b) >>= _) _ _ _
 refine wpAny_bind ?_
 have kk:∀c o,s.heap.get? c=some o→(s.heap.push (Bh w)).get? c=some o:=fun c o e=>Heap.get?_push_of_some _ e
 have ha1:=ha.keep (h':=s.heap.push (Bh w)) fun o e=>kk _ _ e
 have hb1:=hb.keep (h':=s.heap.push (Bh w)) fun o e=>kk _ _ e
 have hr1:SetIs w (s.heap.push (Bh w)) s.heap.objs.size []:=set0_is
 have hr0:(s.heap.push (Bh w)).get? s.heap.objs.size=some (Bh w):=Heap.get?_push_size _ rfl
 have na:a≠s.heap.objs.size:=let ⟨o,_,_,_,ho,_⟩:=ha;Ej ho
 have nb:b≠s.heap.objs.size:=let ⟨o,_,_,_,ho,_⟩:=hb;Ej ho
 have keep:∀h',Heap.SameBut s.heap.objs.size (s.heap.push (Bh w)) h'→∀c o,s.heap.get? c=some o→h'.get? c=some o:=fun h' sb c o e=>by
  rw[sb.2 _ (Ej e)];exact kk c o e
 unfold Builtin.Frozenset.difference
 refine wpAny_bind (Dr hb ?_)
 simp only[Bool.not_true,Bool.false_eq_true,if_false]
 show wpAny _ _ (Builtin.Frozenset.sizeOf b >>= _) _ _ _
 refine wpAny_bind (DY hb ?_)
 refine wpAny_bind (DY ha ?_)
 by_cases hbig:ka.length / 4>kb.length
 ·rw[if_pos hbig]
  refine wpAny_bind (wpAny_rule ?_)
  unfold Builtin.Frozenset.copyOf
  refine wpAny_bind (wpAny_bind (D5 ha (wpAny_bind (Hb ?_))))
  show wpAny _ _ (setMerge s.heap.objs.size a >>= _) _ _ _
  refine wpAny_bind (Ll (s:={ s with heap:=s.heap.push (Bh w) }) ha1 hr0 (Ne.symm na) h32 hl fun h1 k1 m sb1 hS1 hp1 hm1=>?_)
  refine wpAny_pure ?_
  have hb2:SetIt w h1 b kb:=hb1.keep fun o e=>by rw[sb1.2 _ nb];exact e
  refine wpAny_bind (m:=Builtin.Frozenset.addrOf (Value.ref s.heap.objs.size)) (wpAny_pure ?_)
  refine wpAny_bind (wpAny_holding ?_)
  show wpAny _ _ (Builtin.Frozenset.differenceUpdate id0 s.heap.objs.size (.ref b)) _ _ _
  refine KJ (s:={ s with heap:=h1 }) hS1 hb2 (Ne.symm nb) (by rw[hp1.length_eq];exact hbig) (by rw[hp1.length_eq];exact hm1) fun h2 k2 sb2 hS2 hm2 hl2=>?_
  refine wpAny_pure ?_
  refine wpAny_pure ⟨_,rfl,by simp,?_⟩
  exact h h2 k2 hS2 (fun j=>by rw[hm2 j,hp1.mem_iff]) (by rw[←hp1.length_eq];exact hl2) (keep _ (sb1.trans sb2))
 ·rw[if_neg hbig]
  refine wpAny_bind (D5 ha (wpAny_bind (Hb ?_)))
  show wpAny _ _ (setEpoch a >>= _) _ _ _
  obtain⟨o,es,ep,t,ho,hex,hd,hg,hk,nd,hlk,ok,hf⟩:=id ha1
  refine wpAny_bind (EV (s:={ s with heap:=s.heap.push (Bh w) }) ho hd hf ?_)
  refine wpAny_bind (wpAny_holding ?_)
  simp only[if_true]
  refine wpAny_bind (Iv (s:={ s with heap:=s.heap.push (Bh w) }) ha1 hr1 (fun c hc=>?_) fun es' h' hg' hp' sb hr'=>?_)
  ·simp only[List.mem_cons,List.not_mem_nil,or_false] at hc
   rcases hc with rfl | rfl
   ·exact⟨_,hb1⟩
   ·exact⟨_,hr1.it⟩
  have hsz:es'.size=ka.length:=by rw[←hp'.length_eq,List.length_map,Array.length_toList]
  refine wpAny_bind (wpAny_mono (IU (s:={ s with heap:=h' }) (r:=s.heap.objs.size) (p:=fun j=>decide (j∉kb)) (R:=fun _ s'=>∃h' k2,s'={ s with heap:=h' }∧Heap.SameBut s.heap.objs.size (s.heap.push (Bh w)) h'∧SetIs w h' s.heap.objs.size k2∧(∀j,j∈k2↔j∈ka∧j∉kb)∧k2.length≤ka.length) ?_ hg' hr' (by rw[hsz];simp;omega) fun h2 k2 sb2 hS2 hm2 hl2=>⟨h2,k2,rfl,sb.trans sb2,hS2,fun j=>?_,by rw[hsz] at hl2;simpa using hl2⟩) ?_ fun _ _ h'=>h')
  ·intro k tk h1 k1 Q' sb1 hS1 hl1 hQ
   have hb2:SetIt w h1 b kb:=hb1.keep fun o e=>by rw[sb1.2 _ nb,sb.2 _ nb];exact e
   refine wpAny_bind ?_
   refine wpAny_holding ?_
   refine wpAny_bind (Hh (s:={ s with heap:=h1 }) hb2 fun rr hrr _=>wpAny_bind (wpAny_pure ?_))
   have fin:∀h2 k2,Heap.SameBut s.heap.objs.size h1 h2→SetIs w h2 s.heap.objs.size k2→(∀j,j∈k2↔j∈k1∨(decide (k∉kb)=true∧j=k))→k2.length≤k1.length+1→wpAny (model prog w) A.in1 (Builtin.Frozenset.unchanged id0 a ep >>= fun _=>pure (ForInStep.yield PUnit.unit)) Q' E { s with heap:=h2 }:=fun h2 k2 sb' hS' hm' hl'=>by
    have ho':h2.get? a=some o:=by rw[sb'.2 _ na,sb1.2 _ na,sb.2 _ na];exact ho
    exact wpAny_bind (Du (s:={ s with heap:=h2 }) ho' hd hf (wpAny_pure (hQ h2 k2 sb' hS' hm' hl')))
   by_cases hmem:k∈kb
   ·rw[hrr,decide_eq_true hmem,if_neg (by decide)]
    refine wpAny_pure ?_
    exact fin h1 k1 (Heap.SameBut.refl _ _) hS1 (fun j=>by rw[decide_eq_false (fun z=>z hmem)];simp) (Nat.le_succ _)
   ·rw[hrr,decide_eq_false hmem,if_pos (by decide)]
    refine wpAny_bind (GU (s:={ s with heap:=h1 }) hS1 hl1 fun h2 k2 sb' hS' hm' hl'=>wpAny_pure ?_)
    exact fin h2 k2 sb' hS' (fun j=>by rw[hm' j,decide_eq_true hmem];simp) hl'
  ·rw[hm2 j,hp'.mem_iff,decide_eq_true_eq]
   simp[and_comm]
  ·rintro u s' ⟨h2,k2,rfl,sb',hS',hm',hl'⟩
   refine wpAny_pure ?_
   refine wpAny_pure ?_
   refine wpAny_pure ⟨_,rfl,by simp,?_⟩
   exact h h2 k2 hS'.it hm' hl' (keep _ sb')
end
end L2
namespace L2
open PySem PySem.Spec PyProof.Rows
theorem Fa:∀{us:List Value} {ns:List Int},Vals (ns.map V.int) us→IntsAre us ns
 | _,[],h=>by cases h;exact .nil
 | _,n::ns,h=>by
  cases h with
  | cons r t=>obtain⟨k,rfl⟩:=r;exact .cons n k (Fa t)
theorem Ei:∀{l1 l2:List Int},l1.Nodup→(∀x∈l1,x∈l2)→l1.length≤l2.length
 | [],_,_,_=>Nat.zero_le _
 | x::l1,l2,nd,h=>by
  have nd':=List.nodup_cons.mp nd
  have hx:=h x List.mem_cons_self
  have ih:=Ei (l1:=l1) (l2:=l2.erase x) nd'.2 fun y hy=>(List.mem_erase_of_ne (show y≠x from fun e=>nd'.1 (e ▸ hy))).mpr (h y (List.mem_cons_of_mem _ hy))
  rw[List.length_erase_of_mem hx] at ih
  have:0<l2.length:=List.length_pos_of_mem hx
  rw[List.length_cons]
  omega
theorem SetIs.nd {w:World} {h:Heap} {a:Addr} {ks:List Int} (x:SetIs w h a ks):ks.Nodup:=let ⟨_,_,_,_,_,_,_,_,_,nd,_⟩:=x;nd
section
variable {X:Cx}
theorem D6 (hc:X.calm=true):BP X (.type "set") (fun xs H Q=>∃(l:Addr) (ns:List Int),xs=[.ref l]∧SqL X.K H l (ns.map V.int)∧ns.length<1000∧∀a,H a=none→Q (.ref a) (upd H a (Bn X.w a (fun k=>decide (k∈ns)) ns.length))):=by
 intro pins s σ H xs us Q I r h
 obtain⟨l,ns,rfl,hq,hn,q⟩:=h
 obtain⟨u,rfl,ru⟩:=Dk r
 cases ru
 obtain⟨its,rv,pl,hz⟩:=I.list hq
 have hlen:its.length=ns.length:=by rw[←rv.length,List.length_map]
 refine Nu (w:=X.w) (ns:=ns) (I.ok.hd hc) pl.isList (by rw[List.toList_toArray];exact Fa rv) (by rw[List.size_toArray];omega) fun h' tk ks hS hm hl kk=>?_
 refine⟨.ref s.heap.objs.size,_,I.laid (t':=tk) (o:=Bn X.w s.heap.objs.size (fun k=>decide (k∈ns)) ns.length) kk (Nat.le_refl _) ?_,rfl,q _ (I.hok.fresh (Nat.le_refl _))⟩
 exact D0 hS (fun k=>by rw[decide_eq_true_eq];exact (hm k).symm) hl
theorem Rx:Ep X (binaryOp .BitAnd) (fun x y H Q=>∃(a b:Addr) (S T:Int→Bool) (n m:Nat),x= .ref a∧y= .ref b∧H a=some (Bn X.w a S n)∧H b=some (Bn X.w b T m)∧a≠b∧n+m<1990∧
  ∀r,H r=none→Q (.ref r) (upd H r (Bn X.w r (fun k=>S k && T k) n))):=by
 intro pins s σ H x y v u Q I rx ry h
 obtain⟨a,b,S,T,n,m,rfl,rfl,ha,hb,hne,hnm,q⟩:=h
 cases rx
 cases ry
 obtain⟨ka,hSa,hma,hla⟩:=I.setO ha
 obtain⟨kb,hSb,hmb,hlb⟩:=I.setO hb
 refine QX (w:=X.w) hSa.it hSb.it hne (by omega) fun h' k2 hS hm hl kk=>?_
 refine⟨.ref s.heap.objs.size,_,I.laid (t':=s.toks) (o:=Bn X.w s.heap.objs.size (fun k=>S k && T k) n) kk (Nat.le_refl _) ?_,rfl,q _ (I.hok.fresh (Nat.le_refl _))⟩
 refine D0 hS (fun k=>by rw[Bool.and_eq_true,hma,hmb,hm k]) (Nat.le_trans (Ei hS.nd fun y hy=>((hm y).mp hy).1) hla)
theorem Ra:Ep X (binaryOp .Sub) (fun x y H Q=>∃(a b:Addr) (S T:Int→Bool) (n m:Nat),x= .ref a∧y= .ref b∧H a=some (Bn X.w a S n)∧H b=some (Bn X.w b T m)∧a≠b∧n≤32∧m≤1000∧(∀k,S k=true→0≤k∧k<32)∧
  ∀r,H r=none→Q (.ref r) (upd H r (MX X.w r (fun k=>S k && !T k) n))):=by
 intro pins s σ H x y v u Q I rx ry h
 obtain⟨a,b,S,T,n,m,rfl,rfl,ha,hb,hne,hn,hm',h32,q⟩:=h
 cases rx
 cases ry
 obtain⟨ka,hSa,hma,hla⟩:=I.setO ha
 obtain⟨kb,hSb,hmb,hlb⟩:=I.setO hb
 refine QO (w:=X.w) hSa.it hSb.it hne (fun j hj=>h32 j ((hma j).mpr hj)) (by omega) (by omega) fun h' k2 hS hm hl kk=>?_
 refine⟨.ref s.heap.objs.size,_,I.laid (t':=s.toks) (o:=MX X.w s.heap.objs.size (fun k=>S k && !T k) n) kk (Nat.le_refl _) ?_,rfl,q _ (I.hok.fresh (Nat.le_refl _))⟩
 refine Rm hS (fun k=>?_) (by omega)
 rw[Bool.and_eq_true,hma,hm k,Bool.not_eq_true',←Bool.not_eq_true,hmb]
end
end L2
namespace L2
open PySem PySem.Spec PyProof.Rows
section
variable {X:Cx} {tg:Expr} {acc:Value}
theorem PZ {pins:List (Addr×Obj)} {s:Shared} {σ:St} {H:Hp} {a:Addr} {S:Int→Bool} {n:Nat} {k:Int} {tk:Tok} {E:Value→Shared→Prop} (I:Inv X pins σ H s) (ha:H a=some (Bn X.w a S n)) (hn:n+1<2000) :
  wpAny (model X.prog X.w) X.A (call (.builtin "set.add") [.ref a,.int k tk]) (fun _ s'=>Inv X pins σ (upd H a (Bn X.w a (fun j=>S j || decide (j=k)) (n+1))) s') E s:=by
 obtain⟨ks2,hS2,hm2,hl2⟩:=I.setO ha
 refine KG (w:=X.w) hS2 (by omega) fun h' ks' hsb hS' hm' hl'=>?_
 have mu:Td (H a):=by rw[ha];exact True.intro
 refine I.write (x:=a) (e:=a) (t':=s.toks+1) mu (.inl rfl) (fun b ob nb eb=>(hsb.2 b nb).trans eb) (let ⟨o,_,_,_,ho,_⟩:=hS';⟨o,ho⟩) (D0 hS' (fun j=>?_) (by omega))
 rw[hm' j,Bool.or_eq_true,decide_eq_true_eq,hm2 j]
def Je (X:Cx) (ifs:List Expr) (elt:Expr) (acc:Value):Qx:=fun Qa s=>wpAny (model X.prog X.w) X.A (Gs ifs X.env) (fun ok s1=>if ok=true then wpAny (model X.prog X.w) X.A (eval elt X.env) (fun x s2=>wpAny (model X.prog X.w) X.A (call (.builtin "set.add") [acc,x]) (fun _ s3=>Qa s3) Eu s2) Eu s1 else Qa s1) Eu s
def JB (w:World) (acc:Addr) (te:TE):TS:=fun D σ H=>te σ H fun x H1=>∃k S n,x= .int k∧H1 acc=some (Bn w acc S n)∧n+1<2000∧D.nx σ (upd H1 acc (Bn w acc (fun j=>S j || decide (j=k)) (n+1)))
theorem Pk {ifs:List Expr} {elt:Expr} {ac:Addr} {tc:TT} {te:TE} (hxe:X.xe=Eu) (hi:Nb X ifs tc) (he:PE X elt te):PB X (Je X ifs elt (.ref ac)) (DC tc (JB X.w ac te)) where
 mono:=fun Qa Qb s hq h=>AS h fun ok s1 h1=>by
  cases ok with
  | false=>exact hq _ h1
  | true=>exact AS h1 fun x s2 h2=>AS h2 fun _ s3 h3=>hq _ h3
 run:=fun pins s σ H D I h=>by
  have h1:=hi pins s σ H _ I h
  rw[hxe] at h1
  refine AS h1 fun ok s1 ⟨H1,I1,q1⟩=>?_
  cases ok with
  | false=>exact⟨σ,H1,I1,q1⟩
  | true=>
   have q1':JB X.w ac te D σ H1:=q1
   have h2:=he pins s1 σ H1 _ I1 q1'
   rw[hxe] at h2
   refine AS h2 fun u s2 ⟨x,H2,I2,r2,k,S,n,ex,hl,hz,q2⟩=>?_
   subst ex
   obtain⟨tk,rfl⟩:=r2
   exact AS (PZ (E:=Eu) I2 hl hz) fun _ s3 I3=>⟨σ,_,I3,q2⟩
theorem JP (elt tg0 iter0 tg iter:Expr) (ifs0 ifs:List Expr) (scope:Scope) (pos:Pos) (it acc:Value) (env:Env) :
  compTurn (.SetComp elt [⟨tg0,iter0,ifs0,0⟩,⟨tg,iter,ifs,0⟩] scope pos) 1 it acc env=(do
   standAt iter.pos
   match ←pyNext it with
   | none=>pure (.done .next)
   | some v=>
    letOwnedTupleGo tg it v
    assign tg env v
    let mut ok:=true
    for c in ifs do
     if ok then ok ←isTrue c env (eval c env)
    if ok then
     (do let v ←eval elt env;standAt elt.pos;let _ ←call (.builtin "set.add") [acc,v])
    again (.compLoop (.SetComp elt [⟨tg0,iter0,ifs0,0⟩,⟨tg,iter,ifs,0⟩] scope pos) 1 it acc env)):=by rfl
theorem SO {elt tg0 iter0 iter:Expr} {ifs0 ifs:List Expr} {scope:Scope} {pos:Pos} {itv:Value}:HT X (.SetComp elt [⟨tg0,iter0,ifs0,0⟩,⟨tg,iter,ifs,0⟩] scope pos) 1 itv acc tg (Je X ifs elt acc):=by
 intro s Qd Qa h
 rw[JP]
 refine wpAny_bind (wpAny_standAt (wpAny_bind (AS h fun r s₁ h₁=>?_)))
 cases r with
 | none=>exact wpAny_pure ⟨rfl,h₁⟩
 | some v=>
  refine wpAny_bind (AS h₁ fun _ s2 h2=>wpAny_bind (AS h2 fun _ s3 h3=>wpAny_bind (AS h3 fun ok s4 h4=>?_)))
  cases ok with
  | false=>exact wpAny_pure ⟨rfl,h4⟩
  | true=>exact wpAny_bind (wpAny_bind (AS h4 fun x s₄ h₄=>wpAny_bind (wpAny_standAt (wpAny_bind (AS h₄ fun _ s₅ h₅=>wpAny_pure (wpAny_pure ⟨rfl,h₅⟩))))))
theorem Id (elt tg iter tg1 iter1:Expr) (ifs ifs1:List Expr) (scope:Scope) (pos:Pos) (it acc:Value) (env:Env) :
  compTurn (.SetComp elt [⟨tg,iter,ifs,0⟩,⟨tg1,iter1,ifs1,0⟩] scope pos) 0 it acc env=(do
   standAt iter.pos
   match ←pyNext it with
   | none=>pure (.done .next)
   | some v=>
    letOwnedTupleGo tg it v
    assign tg env v
    let mut ok:=true
    for c in ifs do
     if ok then ok ←isTrue c env (eval c env)
    if ok then
     let x ←eval iter1 env
     standAt iter1.pos
     let x ←foldedSetIterable iter1 env x
     let _ ←runOwn (.compStart (.SetComp elt [⟨tg,iter,ifs,0⟩,⟨tg1,iter1,ifs1,0⟩] scope pos) 1 (←holding [x] (pyIter x)) acc env) env
    again (.compLoop (.SetComp elt [⟨tg,iter,ifs,0⟩,⟨tg1,iter1,ifs1,0⟩] scope pos) 0 it acc env)):=by rfl
theorem RH {elt iter tg1 iter1:Expr} {ifs ifs1:List Expr} {scope:Scope} {pos:Pos} {itv:Value} (hs:∀x,foldedSetIterable iter1 X.env x=pure x) :
  HT X (.SetComp elt [⟨tg,iter,ifs,0⟩,⟨tg1,iter1,ifs1,0⟩] scope pos) 0 itv acc tg (Ja X ifs (.SetComp elt [⟨tg,iter,ifs,0⟩,⟨tg1,iter1,ifs1,0⟩] scope pos) iter1 acc):=by
 intro s Qd Qa h
 rw[Id]
 refine wpAny_bind (wpAny_standAt (wpAny_bind (AS h fun r s₁ h₁=>?_)))
 cases r with
 | none=>exact wpAny_pure ⟨rfl,h₁⟩
 | some v=>
  refine wpAny_bind (AS h₁ fun _ s2 h2=>wpAny_bind (AS h2 fun _ s3 h3=>wpAny_bind (AS h3 fun ok s4 h4=>?_)))
  cases ok with
  | false=>exact wpAny_pure ⟨rfl,h4⟩
  | true=>
   refine wpAny_bind (AS h4 fun x s₄ h₄=>wpAny_bind (wpAny_standAt (wpAny_bind (wpAny_of_eq (hs x) (wpAny_bind (wpAny_holding (AS h₄ fun it s₅ h₅=>?_)))))))
   refine wpAny_bind (wpAny_runOwn (codeAny_mono h₅ fun r s₆ h₆=>?_))
   obtain⟨rfl,h₆⟩:=h₆
   exact wpAny_pure ⟨rfl,h₆⟩
theorem RA {elt iter tg1 iter1:Expr} {ifs ifs1:List Expr} {scope:Scope} {pos:Pos} {ac:Addr} {tc:TT} {wi1:TI} {g1:TG} {tb1:TS} (hxe:X.xe=Eu) (hc:X.calm=true)
  (hi:Nb X ifs tc) (hI:PI X tg1 iter1 wi1) (hg1:PG X tg1 g1) (hb1:PB X (Je X ifs1 elt (.ref ac)) tb1) :
  PB X (Ja X ifs (.SetComp elt [⟨tg,iter,ifs,0⟩,⟨tg1,iter1,ifs1,0⟩] scope pos) iter1 (.ref ac)) (DC tc (Lf wi1 g1 tb1)) where
 mono:=fun Qa Qb s hq h=>AS h fun ok s1 h1=>by
  cases ok with
  | false=>exact hq _ h1
  | true=>exact AS h1 fun x s2 h2=>AS h2 fun it s3 h3=>codeAny_mono h3 fun r s4 h4=>⟨h4.1,hq _ h4.2⟩
 run:=fun pins s σ H D I h=>by
  have h1:=hi pins s σ H _ I h
  rw[hxe] at h1
  refine AS h1 fun ok s1 ⟨H1,I1,q1⟩=>?_
  cases ok with
  | false=>exact⟨σ,H1,I1,q1⟩
  | true=>
   have q1':Lf wi1 g1 tb1 D σ H1:=q1
   have h2:=hI pins s1 σ H1 _ I1 q1'
   rw[hxe] at h2
   refine AS h2 fun u s2 h3=>AS h3 fun itv s3 h4=>?_
   obtain⟨it,fp,tn,J,H3,e,I3,T,st3,f3,hR⟩:=h4
   subst e
   have loop:=Ce (e:=.SetComp elt [⟨tg,iter,ifs,0⟩,⟨tg1,iter1,ifs1,0⟩] scope pos) (d:=1) (D:=D) hxe hc SO rfl rfl rfl T hg1 hb1 I3 st3 f3 hR
   exact BS (X:=X) rfl rfl rfl (fun _=>rfl) True.intro loop (T.self _ 0 s3 _ _ st3 loop)
end
def OE (w:World) (wi:TI) (js:List (Option Nat)) (g:CC→TG) (tb:CC→Addr→TS):TE:=fun σ H Q=>wi σ H fun J H1=>∀(c:CC) (acc:Addr),H1 acc=none→
 Er J (g c) (tb c acc) { nx:=fun _ H'=>Q (.ref acc) H',rt:=fun _ _=>False } (sub js σ) (upd H1 acc (Bn w acc (fun _=>false) 0))
section
variable {X:Cx} {N:List Str} {scope:Scope} {cl:List (Str×Addr)} {js:List (Option Nat)} {elt tg iter:Expr} {ifs:List Expr} {rest:List Comprehension} {pos:Pos} {wi:TI} {g:CC→TG} {tb:CC→Addr→TS}
theorem Nr {WB:CC→Value→Qx} (hxe:X.xe=Eu) (hc:X.calm=true) (hi:PI X tg iter wi) (hs:∀x,foldedSetIterable iter X.env x=pure x) (hclos:closureFor scope X.env=pure cl) (hk:scope.kind= .function)
  (hnames:∀x∈scope.names,x.2= .local→scope.names.lookup x.1=some .local) (hcell:∀x∈scope.names,x.2≠.cell)
  (hcl:∀p∈cl,X.env.cells.lookup p.1=some p.2) (hcn:∀x,((relabel scope X.env).names.lookup x=some .cell∨(relabel scope X.env).names.lookup x=some .free)→∃c,cl.lookup x=some c)
  (hsh:FV X N scope js) (hl:js.length=N.length)
  (ht:∀c it ac,HT (X.cmp N scope cl c) (.SetComp elt (⟨tg,iter,ifs,0⟩::rest) scope pos) 0 it ac tg (WB c ac))
  (hg:∀c,PG (X.cmp N scope cl c) tg (g c)) (hb:∀c ac,PB (X.cmp N scope cl c) (WB c (.ref ac)) (tb c ac)) :
  PE X (.SetComp elt (⟨tg,iter,ifs,0⟩::rest) scope pos) (OE X.w wi js g tb):=by
 intro pins s σ H Q I h
 rw[arm_eval_SetComp]
 have h0:=hi pins s σ H _ I h
 refine wpAny_comprehension_free (use:=none) (cl:=cl) rfl hs hclos hk hnames (AS h0 fun v s1 h1=>AS h1 fun itv s2 h2=>?_)
 obtain⟨it,fp,tn,J,H2,e,I2,T,st2,f2,hR⟩:=h2
 subst e
 refine Hb (wpAny_newFunctionEnv hcell (by intro y hy;simp at hy) (fun h₁ hns₁ hsb₁=>?_) hk)
 dsimp only at hns₁ hsb₁ ⊢
 have I3:=I2.laid (t':=s2.toks) (h':=s2.heap.push (Bh X.w)) (o:=Bn X.w s2.heap.objs.size (fun _=>false) 0) (fun b ob e=>Heap.get?_push_of_some _ e) (Nat.le_refl _) (D0 set0_is (fun k=>by simp) (Nat.le_refl _))
 have fpl:∀b∈fp,b<s2.heap.objs.size:=fun b hb=>by
  obtain⟨o,e,_⟩:=T.obj 0 _ st2 b hb
  exact Heap.lt_size e
 have fpa:∀b∈fp,b≠s2.heap.objs.size:=fun b hb=>Nat.ne_of_lt (fpl b hb)
 have f3:∀b∈fp,B3 X pins (upd H2 s2.heap.objs.size (Bn X.w s2.heap.objs.size (fun _=>false) 0)) b:=fun b hb=>⟨by rw[Ax (fpa b hb)];exact (f2 b hb).1,(f2 b hb).2⟩
 have hR':=hR ⟨{ s2 with heap:=s2.heap.push (Bh X.w) },upd H2 s2.heap.objs.size (Bn X.w s2.heap.objs.size (fun _=>false) 0),fp⟩ s2.heap.objs.size I2.fresh
 have I4:=I3.cmp (N:=N) (cl:=cl) (js:=js) (t':=s2.toks) f3 (fun b hb=>by
  show b<(s2.heap.push _).objs.size
  rw[Heap.size_push]
  exact Nat.lt_succ_of_lt (fpl b hb)) hk hcl hcn hsh hl hns₁ hsb₁
 have st4:tn 0 h₁:=T.keep 0 _ _ st2 fun b hb o e=>(hsb₁.2 b (by
  rw[Heap.size_push]
  exact Nat.ne_of_lt (Nat.lt_succ_of_lt (fpl b hb)))).trans (Heap.get?_push_of_some _ (Heap.get?_push_of_some _ e))
 have f4:∀b∈fp,B3 (X.cmp N scope cl ⟨{ s2 with heap:=s2.heap.push (Bh X.w) },upd H2 s2.heap.objs.size (Bn X.w s2.heap.objs.size (fun _=>false) 0),fp⟩) [] (upd H2 s2.heap.objs.size (Bn X.w s2.heap.objs.size (fun _=>false) 0)) b:=fun b hb=>
  ⟨(f3 b hb).1,(I4.ok.exf b hb).1,I4.ok.exfs b hb,.inl hb,(I4.ok.exf b hb).2,fun p hp=>absurd (show p∈([]:List (Addr×Obj)) from hp) (by simp)⟩
 have loop:=codeAny_mono (Ce (X:=X.cmp N scope cl ⟨{ s2 with heap:=s2.heap.push (Bh X.w) },upd H2 s2.heap.objs.size (Bn X.w s2.heap.objs.size (fun _=>false) 0),fp⟩) (e:=.SetComp elt (⟨tg,iter,ifs,0⟩::rest) scope pos) (d:=0) (acc:=.ref s2.heap.objs.size) (pins:=[]) hxe hc (ht _ _ _) rfl rfl rfl T (hg _) (hb _ _) I4 st4 f4 hR') (R':=compPost (model X.prog X.w) X.A X.xe none (EP X pins σ Q) (.ref s2.heap.objs.size) (s2.heap.push (Bh X.w)).objs.size) (fun r s' hq=>by
  obtain⟨rfl,σ',H',J',q⟩:=hq
  obtain⟨m,hn,_⟩:=id J'.loc
  exact⟨m,hn,fun h'' hs''=>⟨.ref s2.heap.objs.size,H',I3.uncmp f3 J' hs'',rfl,q⟩⟩)
 exact BS (X:=X.cmp N scope cl ⟨{ s2 with heap:=s2.heap.push (Bh X.w) },upd H2 s2.heap.objs.size (Bn X.w s2.heap.objs.size (fun _=>false) 0),fp⟩) rfl rfl rfl (fun _=>rfl) True.intro loop (T.self _ 0 _ _ _ st4 loop)
variable {tg1 iter1:Expr} {ifs1:List Expr} {wi1:CC→TI} {g1:CC→TG} {tc tc1:CC→TT} {te:CC→TE}
theorem NE (h:CompOk X N scope cl js) (hi:PI X tg iter wi) (hg:∀c,PG (X.cmp N scope cl c) tg (g c)) (hif:∀c,Nb (X.cmp N scope cl c) ifs (tc c))
  (hi1:∀c,PI (X.cmp N scope cl c) tg1 iter1 (wi1 c)) (hg1:∀c,PG (X.cmp N scope cl c) tg1 (g1 c)) (hif1:∀c,Nb (X.cmp N scope cl c) ifs1 (tc1 c)) (he:∀c,PE (X.cmp N scope cl c) elt (te c))
  (hs1:∀c x,foldedSetIterable iter1 (X.cmp N scope cl c).env x=pure x:=by intro _ _;rfl)
  (hxe:X.xe=Eu:=by rfl) (hc:X.calm=true:=by rfl) (hs:∀x,foldedSetIterable iter X.env x=pure x:=by intro _;rfl) :
  PE X (.SetComp elt [⟨tg,iter,ifs,0⟩,⟨tg1,iter1,ifs1,0⟩] scope pos) (OE X.w wi js g fun c ac=>DC (tc c) (Lf (wi1 c) (g1 c) (DC (tc1 c) (JB X.w ac (te c))))):=
 Nr (WB:=fun c ac=>Ja (X.cmp N scope cl c) ifs (.SetComp elt [⟨tg,iter,ifs,0⟩,⟨tg1,iter1,ifs1,0⟩] scope pos) iter1 ac) hxe hc hi hs h.clos h.kind h.names h.cell h.ccl h.hcn h.shr h.len (fun c it ac=>RH (hs1 c)) hg
  fun c ac=>RA (X:=X.cmp N scope cl c) hxe hc (hif c) (hi1 c) (hg1 c) (Pk (X:=X.cmp N scope cl c) hxe (hif1 c) (he c))
end
end L2
namespace L2
open PySem PySem.Spec PyProof.Rows
section
variable {X:Cx}
theorem JW (hc:X.calm=true):BP X (.builtin "sorted") (fun xs H Q=>∃a S n,xs=[.ref a]∧H a=some (Bn X.w a S n)∧(∀k,S k=true→0≤k∧k<32)∧∀(l:Addr) (ns:List Int),H l=none→ns.Pairwise (· < ·)→(∀k,k∈ns↔S k=true)→Q (.ref l) (upd H l (.lst (ns.map V.int)))):=by
 intro pins s σ H xs us Q I r h
 obtain⟨a,S,n,rfl,ha,hn,q⟩:=h
 obtain⟨u,rfl,ru⟩:=Dk r
 cases ru
 obtain⟨ks,hS,hm,hl⟩:=I.setO ha
 have h32:ks.length≤32:=by
  have:=Ei (l2:=(List.range 32).map Int.ofNat) hS.nd fun y hy=>by
   obtain⟨h1,h2⟩:=hn y ((hm y).mpr hy)
   obtain⟨m,e⟩:=Int.eq_ofNat_of_zero_le h1
   exact List.mem_map.mpr ⟨m,List.mem_range.mpr (by omega),e.symm⟩
  rw[List.length_map,List.length_range] at this
  exact this
 exact DR (n:=32) hc I hS.it hm h32 (by decide) q
end
end L2
namespace L2
open PySem PySem.Spec PyProof.Rows
def DS (K:PySem.W.Frag) (H:Hp):Nat→V→V→Prop
 | 0,v,u=>v=u∧((∃k,v= .int k)∨(∃b,v= .bl b)∨v= .non)
 | n+1,v,u=>(v=u∧((∃k,v= .int k)∨(∃b,v= .bl b)∨v= .non))∨∃a b xs ys,v= .ref a∧u= .ref b∧xs.length=ys.length∧(∀(i:Nat) x y,xs[i]? = some x→ys[i]? = some y→DS K H n x y)∧((SqL K H a xs∧SqL K H b ys)∨(SqT K H a xs∧SqT K H b ys))
section
variable {X:Cx} {pins:List (Addr×Obj)} {σ:St} {H:Hp} {s:Shared}
theorem ML {A:Around} {v u:V} {v' u':Value} (e:v=u) (h:(∃k,v= .int k)∨(∃b,v= .bl b)∨v= .non) (r1:RelV v v') (r2:RelV u u'):SeqAt.EqAt A s v' u' true:=by
 subst e
 rcases h with⟨k,rfl⟩|⟨b,rfl⟩|rfl
 ·obtain⟨t,rfl⟩:=r1
  obtain⟨t2,rfl⟩:=r2
  intro prog w E Q hq
  exact wpAny_eqBool_int (by rw[beq_self_eq_true];exact hq)
 ·cases r1
  cases r2
  exact SeqAt.EqAt.same _
 ·cases r1
  cases r2
  exact SeqAt.EqAt.same _
theorem Fh (n:Nat):(List.range n).all (fun _=>true)=true:=by simp
theorem RW:∀(n:Nat) {A:Around},A.units+n<cLine→Inv X pins σ H s→(∀(v u:V) (v' u':Value),DS X.K H n v u→RelV v v'→RelV u u'→SeqAt.EqAt A s v' u' true)
 | 0,A,hu,I=>fun v u v' u' h r1 r2=>ML h.1 h.2 r1 r2
 | n+1,A,hu,I=>fun v u v' u' h r1 r2=>by
  rcases h with h | ⟨a,b,xs,ys,rfl,rfl,hl,hx,hk⟩
  ·exact ML h.1 h.2 r1 r2
  cases r1
  cases r2
  by_cases hab:a=b
  ·subst hab
   exact SeqAt.EqAt.same _
  have ih:=RW n (A:=A.in1) (by show A.units+1+n<cLine;omega) I
  rcases hk with⟨h1,h2⟩|⟨h1,h2⟩
  ·obtain⟨its,q1,pl,_⟩:=I.list h1
   obtain⟨its2,q2,pl2,_⟩:=I.list h2
   have l1:=q1.length
   have l2:=q2.length
   have:=SeqAt.RcAt.lists (e:=fun _=>true) (A:=A) pl.isList pl2.isList (by simp;omega) (by omega) (fun j j1 j2=>by
    have j1':j<its.length:=by simpa using j1
    have j2':j<its2.length:=by simpa using j2
    have hx1:xs[j]? = some xs[j]:=List.getElem?_eq_getElem (by omega)
    have hy1:ys[j]? = some ys[j]:=List.getElem?_eq_getElem (by omega)
    obtain⟨u1,e1,ru1⟩:=q1.get hx1
    obtain⟨u2,e2,ru2⟩:=q2.get hy1
    have e1':its.toArray[j]=u1:=by
     have:=List.getElem?_eq_getElem j1'
     rw[this] at e1
     simpa using Option.some.inj e1
    have e2':its2.toArray[j]=u2:=by
     have:=List.getElem?_eq_getElem j2'
     rw[this] at e2
     simpa using Option.some.inj e2
    rw[e1',e2']
    exact ih _ _ _ _ (hx j _ _ hx1 hy1) ru1 ru2)
   rw[Fh] at this
   exact SeqAt.EqAt.of_refs hab this
  ·obtain⟨its,q1,pl,_⟩:=I.tuple h1
   obtain⟨its2,q2,pl2,_⟩:=I.tuple h2
   have l1:=q1.length
   have l2:=q2.length
   have:=SeqAt.RcAt.tuples (e:=fun _=>true) (A:=A) pl pl2 (by omega) (fun j j1 j2=>by
    have j1':j<its.length:=by simpa using j1
    have j2':j<its2.length:=by simpa using j2
    have hx1:xs[j]? = some xs[j]:=List.getElem?_eq_getElem (by omega)
    have hy1:ys[j]? = some ys[j]:=List.getElem?_eq_getElem (by omega)
    obtain⟨u1,e1,ru1⟩:=q1.get hx1
    obtain⟨u2,e2,ru2⟩:=q2.get hy1
    have e1':its.toArray[j]=u1:=by
     have:=List.getElem?_eq_getElem j1'
     rw[this] at e1
     simpa using Option.some.inj e1
    have e2':its2.toArray[j]=u2:=by
     have:=List.getElem?_eq_getElem j2'
     rw[this] at e2
     simpa using Option.some.inj e2
    rw[e1',e2']
    exact ih _ _ _ _ (hx j _ _ hx1 hy1) ru1 ru2)
   rw[Fh,Bool.true_and,show (its.toArray.size == its2.toArray.size)=true by simp;omega] at this
   exact SeqAt.EqAt.of_refs hab this
theorem OT {n:Nat} {A:Around} (hu:A.units+n<cLine) (I:Inv X pins σ H s) {xs ys:List V} {its its2:List Value} (q1:Vals xs its) (q2:Vals ys its2) (hl:xs.length=ys.length) (hx:∀(i:Nat) x y,xs[i]? = some x→ys[i]? = some y→DS X.K H n x y) :
  ∀j (h1:j<its.toArray.size) (h2:j<its2.toArray.size),SeqAt.EqAt A s its.toArray[j] its2.toArray[j] true:=fun j j1 j2=>by
 have l1:=q1.length
 have l2:=q2.length
 have j1':j<its.length:=by simpa using j1
 have j2':j<its2.length:=by simpa using j2
 have hx1:xs[j]? = some xs[j]:=List.getElem?_eq_getElem (by omega)
 have hy1:ys[j]? = some ys[j]:=List.getElem?_eq_getElem (by omega)
 obtain⟨u1,e1,ru1⟩:=q1.get hx1
 obtain⟨u2,e2,ru2⟩:=q2.get hy1
 have e1':its.toArray[j]=u1:=by
  have:=List.getElem?_eq_getElem j1'
  rw[this] at e1
  simpa using Option.some.inj e1
 have e2':its2.toArray[j]=u2:=by
  have:=List.getElem?_eq_getElem j2'
  rw[this] at e2
  simpa using Option.some.inj e2
 rw[e1',e2']
 exact RW n hu I _ _ _ _ (hx j _ _ hx1 hy1) ru1 ru2
def Vd (K:PySem.W.Frag) (r:Bool):R2:=fun x y H Q=>∃a b xs ys,x= .ref a∧y= .ref b∧xs.length=ys.length∧(∀(i:Nat) x y,xs[i]? = some x→ys[i]? = some y→DS K H 3 x y)∧((SqL K H a xs∧SqL K H b ys)∨(SqT K H a xs∧SqT K H b ys))∧Q (.bl r) H
theorem O7 (hu:X.A.units+9<cLine):Ep X (compareOp .NotEq) (Vd X.K false):=by
 intro pins s σ H x y v u Q I rx ry h
 obtain⟨a,b,xs,ys,rfl,rfl,hl,hx,hk,q⟩:=h
 cases rx
 cases ry
 rcases hk with⟨h1,h2⟩|⟨h1,h2⟩
 ·obtain⟨its,q1,pl,_⟩:=I.list h1
  obtain⟨its2,q2,pl2,_⟩:=I.list h2
  have l1:=q1.length
  have l2:=q2.length
  refine SeqAt.RcNeAt.lists (e:=fun _=>true) pl.isList pl2.isList (by simp;omega) (by omega) (OT (A:=X.A.in1) (by show X.A.units+1+3<cLine;omega) I q1 q2 hl hx) _ _ _ _ ?_
  rw[Fh]
  exact⟨.bl false,H,I,rfl,q⟩
 ·obtain⟨its,q1,pl,_⟩:=I.tuple h1
  obtain⟨its2,q2,pl2,_⟩:=I.tuple h2
  have l1:=q1.length
  have l2:=q2.length
  refine SeqAt.RcNeAt.tuples (e:=fun _=>true) pl pl2 (by omega) (OT (A:=X.A.in1) (by show X.A.units+1+3<cLine;omega) I q1 q2 hl hx) _ _ _ _ ?_
  rw[Fh,Bool.true_and,show (its.toArray.size == its2.toArray.size)=true by simp;omega]
  exact⟨.bl false,H,I,rfl,q⟩
theorem Room.units9 {k:Nat} {A:Around} (r:Room k A):A.units+9<cLine:=by have:=r.un;omega
theorem Mx {K:PySem.W.Frag} {row:List Int} {n:Nat}:∀(i:Nat) x y,(row.map V.int)[i]? = some x→(row.map V.int)[i]? = some y→DS K H n x y:=fun i x y hx hy=>by
 rw[hx] at hy
 cases hy
 rw[List.getElem?_map] at hx
 obtain⟨k,_,rfl⟩:=Option.map_eq_some_iff.mp hx
 cases n with
 | zero=>exact⟨rfl,.inl ⟨k,rfl⟩⟩
 | succ n=>exact .inl ⟨rfl,.inl ⟨k,rfl⟩⟩
end
end L2
namespace HT2
open PySem L2 PyProof.Rows
theorem TH {b:Bool} {A B:Prop} (e:b=false) (h:B):if b=true then A else B:=by
 rw[e,if_neg Bool.false_ne_true]
 exact h
theorem Tp {b:Bool} {A B:Prop} (e:b=true) (h:A):if b=true then A else B:=by
 rw[e,if_pos rfl]
 exact h
theorem Bw {K:PySem.W.Frag} {a acc:Addr} {row:List Int} {p:Int→Bool} {tc:TT} {rest:L2.St} {D:Cg} {H:Hp} (hr:SqL K H a (row.map V.int)) (hacc:H acc=none) (hlen:row.length≤900)
  (ht:∀k,k∈row→∀H2,Same H H2→∀R:Bool→Hp→Prop,(∀H3,Same H2 H3→R (p k) H3)→tc (some (.int k)::rest) H2 R)
  (hd:∀v0 H2,Same H H2→H2 acc=some (.lst ((row.filter p).map V.int))→D.nx (v0::rest) H2) (v:Option V) :
  Er (Qw K a) (Dd 0) (DC tc (BX acc (Qh 0))) D (v::rest) (upd H acc (.lst [])):=by
 refine A4 (K:=K) (a:=a) (xs:=row.map V.int) (fun i σ H2=>∃v0,σ=v0::rest∧Same H H2∧H2 acc=some (.lst (((row.take i).filter p).map V.int))) ⟨v,rfl,Af hacc _,upd_same⟩ ?_ ?_ ?_
 ·rintro i σ H2 _ ⟨v0,rfl,s2,_⟩
  exact s2.seq hr
 ·rintro i x σ H2 hx ⟨v0,rfl,s2,ha2⟩
  rw[List.getElem?_map] at hx
  obtain⟨k,hk,rfl⟩:=Option.map_eq_some_iff.mp hx
  have et:row.take (i+1)=row.take i++[k]:=by rw[List.take_add_one,hk];rfl
  refine ht k (List.mem_of_getElem? hk) H2 s2 _ fun H3 s3=>?_
  have ha3:=s3 _ _ ha2
  cases e:p k with
  | false=>
   refine⟨_,rfl,s2.trans s3,?_⟩
   rw[et,List.filter_append,List.filter_cons_of_neg (by rw[e];simp),List.filter_nil,List.append_nil]
   exact ha3
  | true=>
   refine⟨_,rfl,_,ha3,AF ?_,?_⟩
   ·rw[List.length_map]
    refine Nat.le_trans (List.length_filter_le _ _) ?_
    rw[List.length_take]
    omega
   refine⟨_,rfl,AI (s2.trans s3) hacc _,?_⟩
   rw[upd_same,et,List.filter_append,List.filter_cons_of_pos e,List.filter_nil,List.map_append]
   rfl
 ·rintro σ H2 ⟨v0,rfl,s2,ha2⟩
  rw[List.length_map,List.take_length] at ha2
  exact hd v0 H2 s2 ha2
theorem Gh {K:PySem.W.Frag} {a acc:Addr} {xs:List V} {bs:List Bool} {te:TE} {rest:L2.St} {D:Cg} {H:Hp} (hr:SqL K H a xs) (hacc:H acc=none) (hlen:xs.length≤900) (hb:bs.length=xs.length)
  (ht:∀(i:Nat) (x:V) (b:Bool),xs[i]? = some x→bs[i]? = some b→∀H2,Same H H2→∀R:V→Hp→Prop,(∀H3,Same H2 H3→R (.bl b) H3)→te (some x::rest) H2 R)
  (hd:∀v0 H2,Same H H2→H2 acc=some (.lst (bs.map V.bl))→D.nx (v0::rest) H2) (v:Option V) :
  Er (Qw K a) (Dd 0) (DC J7 (BX acc te)) D (v::rest) (upd H acc (.lst [])):=by
 refine A4 (K:=K) (a:=a) (xs:=xs) (fun i σ H2=>∃v0,σ=v0::rest∧Same H H2∧H2 acc=some (.lst ((bs.take i).map V.bl))) ⟨v,rfl,Af hacc _,upd_same⟩ ?_ ?_ ?_
 ·rintro i σ H2 _ ⟨v0,rfl,s2,_⟩
  exact s2.seq hr
 ·rintro i x σ H2 hx ⟨v0,rfl,s2,ha2⟩
  have hi:i<bs.length:=by
   have:=(List.getElem?_eq_some_iff.mp hx).1
   omega
  have hbi:bs[i]? = some bs[i]:=List.getElem?_eq_getElem hi
  have et:bs.take (i+1)=bs.take i++[bs[i]]:=by rw[List.take_add_one,hbi];rfl
  show BX acc te _ _ _
  refine ht i x _ hx hbi H2 s2 _ fun H3 s3=>?_
  refine⟨_,s3 _ _ ha2,AF ?_,?_⟩
  ·rw[List.length_map,List.length_take]
   omega
  refine⟨_,rfl,AI (s2.trans s3) hacc _,?_⟩
  rw[upd_same,et,List.map_append]
  rfl
 ·rintro σ H2 ⟨v0,rfl,s2,ha2⟩
  rw[←hb,List.take_length] at ha2
  exact hd v0 H2 s2 ha2
theorem Lh {K:PySem.W.Frag} {a acc:Addr} {row:List Int} {f:Int→Bool} {te:TE} {rest:L2.St} {D:Cg} {H:Hp} (hr:SqL K H a (row.map V.int)) (hacc:H acc=none) (hlen:row.length≤900)
  (ht:∀k,k∈row→∀H2,Same H H2→∀R:V→Hp→Prop,(∀H3,Same H2 H3→R (.bl (f k)) H3)→te (some (.int k)::rest) H2 R)
  (hd:∀v0 H2,Same H H2→H2 acc=some (.lst ((row.map f).map V.bl))→D.nx (v0::rest) H2) (v:Option V) :
  Er (Qw K a) (Dd 0) (DC J7 (BX acc te)) D (v::rest) (upd H acc (.lst [])):=by
 refine A4 (K:=K) (a:=a) (xs:=row.map V.int) (fun i σ H2=>∃v0,σ=v0::rest∧Same H H2∧H2 acc=some (.lst (((row.take i).map f).map V.bl))) ⟨v,rfl,Af hacc _,upd_same⟩ ?_ ?_ ?_
 ·rintro i σ H2 _ ⟨v0,rfl,s2,_⟩
  exact s2.seq hr
 ·rintro i x σ H2 hx ⟨v0,rfl,s2,ha2⟩
  rw[List.getElem?_map] at hx
  obtain⟨k,hk,rfl⟩:=Option.map_eq_some_iff.mp hx
  have et:row.take (i+1)=row.take i++[k]:=by rw[List.take_add_one,hk];rfl
  show BX acc te _ _ _
  refine ht k (List.mem_of_getElem? hk) H2 s2 _ fun H3 s3=>?_
  refine⟨_,s3 _ _ ha2,AF ?_,?_⟩
  ·rw[List.length_map,List.length_map,List.length_take]
   omega
  refine⟨_,rfl,AI (s2.trans s3) hacc _,?_⟩
  rw[upd_same,et,List.map_append,List.map_append]
  rfl
 ·rintro σ H2 ⟨v0,rfl,s2,ha2⟩
  rw[List.length_map,List.take_length] at ha2
  exact hd v0 H2 s2 ha2
theorem Mm (k:Int) (xs:List Int):N8 (.int k) (xs.map V.int)=decide (k∈xs):=by
 unfold N8
 induction xs with
 | nil=>simp
 | cons x r ih=>
  rw[List.map_cons,List.any_cons,ih]
  have e:OU (.int x) (.int k)=decide (x=k):=by
   show (x == k)=decide (x=k)
   rfl
  rw[e]
  by_cases h:x=k
  ·subst h;simp
  ·have h':¬k=x:=fun z=>h z.symm
   simp[h,h']
theorem IF (xs:List Int):(xs.map V.int).all Es=true:=by
 induction xs with
 | nil=>rfl
 | cons x r ih=>rw[List.map_cons,List.all_cons,ih];rfl
theorem Gy {a b:List Int} (ha:a.Pairwise (· < ·)) (hb:b.Pairwise (· < ·)) (h:∀k,k∈a↔k∈b):a=b:=by
 have na:a.Nodup:=ha.imp fun h=>by omega
 have nb:b.Nodup:=hb.imp fun h=>by omega
 have hp:a.Perm b:=(List.perm_ext_iff_of_nodup na nb).mpr h
 exact PySem.W.ksm_same hp (ha.imp fun h=>by omega) (hb.imp fun h=>by omega)
theorem Le {K:PySem.W.Frag} {k:Int} {r:Addr} {row:List Int} {H:Hp} {Q:VK} (h:SqL K H r (row.map V.int)) (q:Q (.bl (decide (k∈row))) H):Uk K false (.int k) (.ref r) H Q:=
 ⟨r,_,rfl,.inl h,rfl,IF _,by rw[←Mm] at q;exact q⟩
theorem MV {K:PySem.W.Frag} {k:Int} {r:Addr} {row:List Int} {H:Hp} {Q:VK} (h:SqL K H r (row.map V.int)) (q:Q (.bl (!decide (k∈row))) H):Uk K true (.int k) (.ref r) H Q:=
 ⟨r,_,rfl,.inl h,rfl,IF _,by rw[←Mm] at q;exact q⟩
end HT2
namespace L2
open PySem PySem.Spec PyProof.Rows
section
variable {X:Cx} {pins:List (Addr×Obj)} {σ:St} {H:Hp} {s:Shared}
theorem Inv.keptL {h':Heap} {t':Nat} (I:Inv X pins σ H s) (k:∀b u,b≠X.env.locals→s.heap.get? b=some u→h'.get? b=some u) (hm:∀m,s.heap.Ns X.env.locals m→h'.Ns X.env.locals m):Inv X pins σ H { s with heap:=h',toks:=t' }:=by
 have lt:∀b o,X.s₀.heap.get? b=some o→b≠X.env.locals:=fun b o e z=>by
  have h1:=Heap.lt_size e
  have h2:=I.ok.above
  rw[z] at h1
  exact absurd (Nat.lt_of_lt_of_le h1 h2) (Nat.lt_irrefl _)
 have cellk:∀c v,s.heap.IsCell c v→h'.IsCell c v:=fun c v ⟨o,h1,h2⟩=>by
  obtain⟨m,⟨o2,es,ep,h3,h4,_⟩,_⟩:=I.loc
  refine⟨o,k c o (fun z=>?_) h1,h2⟩
  rw[z,h3] at h1
  cases h1
  rw[h4] at h2
  cases h2
 refine⟨I.ok,I.os,I.bare,⟨fun b o h1 h2 h3 h4=>k b o (lt b o h1) (I.base.keep b o h1 h2 h3 h4),fun b o h1 h2 h3 h4=>?_,I.base.free,fun b o h1 h2=>?_,I.base.tups,I.base.frzs,I.base.tbls⟩,?_,fun x c e=>?_,I.free,I.freeC,fun p hp=>?_,fun a o e=>?_,I.len⟩
 ·obtain⟨sl,h5⟩:=I.base.slot b o h1 h2 h3 h4
  exact⟨sl,k b _ (lt b o h1) h5⟩
 ·obtain⟨o',h5⟩:=I.base.there b o h1 h2
  exact⟨o',k b _ (lt b o h1) h5⟩
 ·obtain⟨m,h1,h2⟩:=I.loc
  refine⟨m,hm m h1,fun i x v e1 e2 e3=>?_⟩
  obtain⟨u,r,lk⟩:=h2 i x v e1 e2 e3
  refine⟨u,r,?_⟩
  rcases lk with h | ⟨h,c,h3,h4⟩
  ·exact .inl h
  ·exact .inr ⟨h,c,h3,cellk c _ h4⟩
 ·obtain⟨v,h1⟩:=I.cell x c e
  exact⟨v,cellk c v h1⟩
 ·obtain⟨h1,h2,h3,h4,h5⟩:=I.pin p hp
  exact⟨k _ _ h3 h1,h2,h3,h4,h5⟩
 ·refine (I.hok a o e).stay (fun c v hc q=>k c v (fun z=>?_) q) (fun _ q=>q) fun _ _ q=>q
  have hf:=I.free
  rcases hc with hc | hc
  ·rw[←z,hc,e] at hf
   cases hf
  ·rw[←z,hc] at hf
   cases hf
def TM (ns:List Nat) (i:Nat):Prop:=∀j,j<ns.length→ns.getD i 0≤ns.getD j 0∧(j<i→ns.getD i 0<ns.getD j 0)
def Mv (K:PySem.W.Frag) (x:V) (H:Hp) (Q:VK):Prop:=∃(l:Addr) (xs:List V) (yss:List (List V)),x= .ref l∧SqL K H l xs∧Paired (fun v ys=>∃p,v=V.ref p∧SqL K H p ys) xs yss∧xs≠[]∧∀i v,xs[i]? = some v→TM (yss.map List.length) i→Q v H
theorem Ci {α β:Type} {R:α→β→Prop}:∀{xs:List α} {ys:List β} {i:Nat} {x:α},Paired R xs ys→xs[i]? = some x→∃y,ys[i]? = some y∧R x y
 | _,_,_,_,.nil,e=>by simp at e
 | _,_,0,_,.cons r _,e=>by
  simp at e
  subst e
  exact⟨_,rfl,r⟩
 | _,_,i+1,x,.cons _ q,e=>by
  obtain⟨y,h1,h2⟩:=Ci (i:=i) q (by simpa using e)
  exact⟨y,by simpa using h1,h2⟩
theorem Jw {Q:VK} {l:Addr} {x:V} (hc:X.calm=true) (I:Inv X pins σ H s) (hx:RelV x (.ref l)) (h:Mv X.K x H Q):wpAny (model X.prog X.w) X.A (call (.builtin "min") [.ref l] [("key",.builtin "len")]) (EP X pins σ Q) X.xe s:=by
 obtain⟨l',xs,yss,rfl,hq,hP,hne,q⟩:=h
 cases hx
 obtain⟨its,rv,pl,hz⟩:=I.list hq
 obtain⟨m,hn,hl⟩:=I.loc
 have hL:=X.env.locals
 obtain⟨news,hnews⟩:∃news:List (Addr×Obj),∀p,p∈news↔s.heap.get? p.1=some p.2∧p.1≠X.env.locals∧X.base.get? p.1=none:=by
  refine⟨(List.range s.heap.objs.size).filterMap fun b=>match s.heap.get? b with | some o=>if b≠X.env.locals∧X.base.get? b=none then some (b,o) else none | none=>none,fun p=>?_⟩
  rw[List.mem_filterMap]
  constructor
  ·rintro⟨b,_,h⟩
   cases e:s.heap.get? b with
   | none=>rw[e] at h;cases h
   | some o=>
    rw[e] at h
    dsimp at h
    by_cases c:b≠X.env.locals∧X.base.get? b=none
    ·rw[if_pos c] at h
     cases h
     exact⟨e,c⟩
    ·rw[if_neg c] at h
     cases h
  ·rintro⟨h1,h2⟩
   refine⟨p.1,List.mem_range.mpr (Heap.lt_size h1),?_⟩
   rw[h1]
   dsimp
   rw[if_pos h2]
 have fr:Fr X.base X.env.locals s.heap m:=⟨hn,I.bk,Nat.le_trans I.ok.bsz I.ok.above⟩
 have nw:News X.base X.env.locals s.heap news:=fun p hp=>(hnews p).mp hp
 have keep:∀h,Fr X.base X.env.locals h m→News X.base X.env.locals h news→∀b u,b≠X.env.locals→s.heap.get? b=some u→h.get? b=some u:=fun h f n b u hb e=>by
  cases c:X.base.get? b with
  | some o=>
   have h1:=f.keep b o c
   have h2:=I.bk b o c
   rw[e] at h2
   cases h2
   exact h1
  | none=>exact (n (b,u) ((hnews (b,u)).mpr ⟨e,hb,c⟩)).1
 have isl:∀{p:Addr} {arr:Array Value},s.heap.IsList p arr→∀h,Fr X.base X.env.locals h m→News X.base X.env.locals h news→h.IsList p arr:=fun {p arr} ⟨o,h1,h2,n,h3⟩ h f nn=>by
  refine⟨o,keep h f nn p o (fun z=>?_) h1,h2,n,h3⟩
  obtain⟨o2,es,ep,h4,h5,_⟩:=hn
  rw[z,h4] at h1
  cases h1
  rw[h5] at h3
  cases h3
 have hlen:=rv.length
 have hyl:xs.length=yss.length:=Paired.length hP
 have hn63:=Hu
 refine kmb_min (news:=news) (vs:=its) (fun i=>(((yss.map List.length).getD i 0:Nat):Int)) (I.ok.hd hc) fr nw (isl pl.isList) ?_ ?_ ?_
 ·have:0<xs.length:=List.length_pos_iff.mpr hne
  omega
 ·intro i v hv h tk own f n
  have hi:i<xs.length:=by
   have:=(List.getElem?_eq_some_iff.mp hv).1
   omega
  have hx1:xs[i]? = some xs[i]:=List.getElem?_eq_getElem hi
  obtain⟨u1,e1,ru⟩:=rv.get hx1
  rw[hv] at e1
  cases e1
  obtain⟨ys,hys,p,ep,hp⟩:=Ci hP hx1
  rw[ep] at ru
  cases ru
  obtain⟨its2,rv2,pl2,hz2⟩:=I.list hp
  have n':News X.base X.env.locals h news:=fun p hp=>n p (List.mem_append_left _ hp)
  have l2:=rv2.length
  refine Calls.call_len_list (isl pl2.isList h f n') (by rw[List.size_toArray];omega) ⟨h,tk+1+1,tk+1,rfl,?_,f,n⟩
  rw[List.size_toArray,←l2]
  have:(yss.map List.length).getD i 0=ys.length:=by
   rw[List.getD_eq_getElem?_getD,List.getElem?_map,hys]
   rfl
  rw[this]
 ·intro i v h' tk' hv hmin f n
  have hi:i<xs.length:=by
   have:=(List.getElem?_eq_some_iff.mp hv).1
   omega
  have hx1:xs[i]? = some xs[i]:=List.getElem?_eq_getElem hi
  obtain⟨u1,e1,ru⟩:=rv.get hx1
  rw[hv] at e1
  cases e1
  refine⟨xs[i],H,I.keptL (keep h' f n) (fun m' hm'=>?_),ru,q i _ hx1 fun j hj=>?_⟩
  ·have e:m'=m:=by
    obtain⟨o,es,ep,h1,h2,_,h4⟩:=hm'
    obtain⟨o',es',ep',h1',h2',_,h4'⟩:=hn
    rw[h1] at h1'
    cases h1'
    rw[h2] at h2'
    cases h2'
    funext y
    rw[←h4,←h4']
   rw[e]
   exact f.ns
  ·have:=hmin j (by rw[List.length_map] at hj;omega)
   omega
end
section
variable {X:Cx} {e:Expr} {te:TE} {p p2 pos kpos:Pos}
def Rv (K:PySem.W.Frag) (t:TA):TE:=fun σ H Q=>t σ H fun vs H1=>∃x,vs=[x]∧Mv K x H1 Q
theorem M3 {t:TA} (hc:X.calm=true) (hg:Gl X "min") (hm:X.mg "min"=none) (hg2:Gl X "len") (hm2:X.mg "len"=none) (ha:PA X [e] t) (hv:bootBuiltins "min"=some (.builtin "min")) (hv2:bootBuiltins "len"=some (.builtin "len"))
  (he:backTo pos (starEach [e] X.env)=(false,eval e X.env)::backTo pos (starEach [] X.env):=by rfl) (hpl:((backTo pos (starEach [e] X.env)).any (·.1))=false:=by rfl) :
  PE X (.Call (.Name "min" p) [e] [⟨some "key",.Name "len" p2,kpos⟩] pos) (Rv X.K t):=by
 intro pins s σ H Q I h
 refine wpAny_Call_Name_kw (Cu I hg hm hv ?_ (by decide) (by decide))
 refine callWith_kw (AS (ha pos pins s σ H _ I h) fun us s1 ⟨vs,H1,I1,r,q⟩=>?_) he hpl rfl rfl
 obtain⟨x,rfl,q⟩:=q
 obtain⟨u,rfl,ru⟩:=Dk r
 show wpAny _ _ (evalAll ((do let v ←eval (.Name "len" p2) X.env;standAt pos;pure v)::[])) _ _ s1
 refine wpAny_evalAll_cons (wpAny_bind (Cu I1 hg2 hm2 hv2 (wpAny_bind (wpAny_standAt (wpAny_pure (wpAny_evalAll_nil ?_)))) (by decide) (by decide)))
 have q0:=q
 obtain⟨l,xs,yss,rfl,_⟩:=q0
 cases ru
 exact Jw (x:=.ref l) hc I1 rfl q
end
end L2
namespace HT2
open PySem L2 PyProof.Rows
def Uy (K:PySem.W.Frag) (a:Addr) (xs:List V):Prop:=∃(o:Obj) (its:Array Value) (n:Nat),K.lookup a=some o∧o.cls= .type "tuple"∧o.data= .seq its n∧its.size≤sizeLine∧Vals xs its.toList
def TupAt (K:PySem.W.Frag) (H:Hp) (p:Addr) (xs:List V):Prop:=H p=some (.tup xs)∨Uy K p xs
theorem TupAt.sq {K:PySem.W.Frag} {H:Hp} {p:Addr} {xs:List V} (h:TupAt K H p xs):SqT K H p xs:=h.elim (fun e=>.inl (.inl e)) .inr
theorem TupAt.keep {K:PySem.W.Frag} {H H':Hp} {p:Addr} {xs:List V} (s:TS H H') (h:TupAt K H p xs):TupAt K H' p xs:=h.elim (fun e=>.inl (s _ _ e)) .inr
theorem TupAt.same {K:PySem.W.Frag} {H H':Hp} {p:Addr} {xs:List V} (s:Same H H') (h:TupAt K H p xs):TupAt K H' p xs:=h.keep (TS.same s)
def Tr.AtK (K:PySem.W.Frag) (H:Hp):Tr→V→Prop
 | .lt k,v=>∃p,v= .ref p∧TupAt K H p [.str "let",.int k]
 | .nt t,v=>∃p u,v= .ref p∧TupAt K H p [.str "not",u]∧t.AtK K H u
 | .bn j a b,v=>∃p x y,v= .ref p∧TupAt K H p [.str (jn j),x,y]∧a.AtK K H x∧b.AtK K H y
theorem Tr.AtK.keep {K:PySem.W.Frag} {H H':Hp} (s:TS H H'):∀{t:Tr} {v:V},t.AtK K H v→t.AtK K H' v
 | .lt k,v,h=>by
  obtain⟨p,e,h⟩:=h
  exact⟨p,e,h.keep s⟩
 | .nt t,v,h=>by
  obtain⟨p,u,e,h,q⟩:=h
  exact⟨p,u,e,h.keep s,Tr.AtK.keep s q⟩
 | .bn j a b,v,h=>by
  obtain⟨p,x,y,e,h,q,r⟩:=h
  exact⟨p,x,y,e,h.keep s,Tr.AtK.keep s q,Tr.AtK.keep s r⟩
theorem Tr.AtK.same {K:PySem.W.Frag} {H H':Hp} (s:Same H H') {t:Tr} {v:V} (h:t.AtK K H v):t.AtK K H' v:=h.keep (TS.same s)
theorem Tr.At.toK {K:PySem.W.Frag} {H:Hp}:∀{t:Tr} {v:V},t.At H v→t.AtK K H v
 | .lt k,v,h=>by
  obtain⟨p,e,h⟩:=h
  exact⟨p,e,.inl h⟩
 | .nt t,v,h=>by
  obtain⟨p,u,e,h,q⟩:=h
  exact⟨p,u,e,.inl h,q.toK⟩
 | .bn j a b,v,h=>by
  obtain⟨p,x,y,e,h,q,r⟩:=h
  exact⟨p,x,y,e,.inl h,q.toK,r.toK⟩
theorem Tr.AtK.isRef {K:PySem.W.Frag} {H:Hp} {t:Tr} {v:V} (h:t.AtK K H v):∃p xs,v= .ref p∧TupAt K H p xs:=by
 cases t with
 | lt k=>obtain⟨p,e,h⟩:=h;exact⟨p,_,e,h⟩
 | nt t=>obtain⟨p,u,e,h,_⟩:=h;exact⟨p,_,e,h⟩
 | bn j a b=>obtain⟨p,x,y,e,h,_⟩:=h;exact⟨p,_,e,h⟩
abbrev PileK (K:PySem.W.Frag) (H:Hp):List V→List Tr→Prop:=Paired fun (v:V) (t:Tr)=>t.AtK K H v
theorem PileK.keep {K:PySem.W.Frag} {H H':Hp} (s:TS H H'):∀{xs:List V} {ts:List Tr},PileK K H xs ts→PileK K H' xs ts
 | _,_,.nil=>.nil
 | _,_,.cons r q=>.cons (Tr.AtK.keep s r) (PileK.keep s q)
theorem PileK.len {K:PySem.W.Frag} {H:Hp}:∀{xs:List V} {ts:List Tr},PileK K H xs ts→xs.length=ts.length
 | _,_,.nil=>rfl
 | _,_,.cons _ q=>congrArg (· + 1) (PileK.len q)
theorem PileK.snoc {K:PySem.W.Frag} {H:Hp} {y:V} {t:Tr} (h:t.AtK K H y):∀{xs:List V} {ts:List Tr},PileK K H xs ts→PileK K H (xs++[y]) (ts++[t])
 | _,_,.nil=>.cons h .nil
 | _,_,.cons r q=>.cons r (PileK.snoc h q)
theorem PileK.app {K:PySem.W.Frag} {H:Hp}:∀{xs ys:List V} {ts us:List Tr},PileK K H xs ts→PileK K H ys us→PileK K H (xs++ys) (ts++us)
 | _,_,_,_,.nil,q=>q
 | _,_,_,_,.cons r q,q2=>.cons r (PileK.app q q2)
theorem PileK.rev {K:PySem.W.Frag} {H:Hp}:∀{xs:List V} {ts:List Tr},PileK K H xs ts→PileK K H xs.reverse ts.reverse
 | _,_,.nil=>.nil
 | _,_,.cons r q=>by
  rw[List.reverse_cons,List.reverse_cons]
  exact (PileK.rev q).snoc r
theorem PileK.last {K:PySem.W.Frag} {H:Hp}:∀{xs:List V} {ts:List Tr},PileK K H xs ts→0<ts.length→∃xs' y ts' t,xs=xs'++[y]∧ts=ts'++[t]∧PileK K H xs' ts'∧Tr.AtK K H t y
 | _,_,.nil,h=>absurd h (Nat.lt_irrefl _)
 | _,_,.cons (a:=v) (b:=t) r .nil,_=>⟨[],v,[],t,rfl,rfl,.nil,r⟩
 | _,_,.cons (a:=v) (b:=t) r (.cons r' q'),_=>by
  obtain⟨xs',y,ts',u,e1,e2,q,a⟩:=PileK.last (Paired.cons r' q') (Nat.succ_pos _)
  exact⟨v::xs',y,t::ts',u,by rw[e1];rfl,by rw[e2];rfl,.cons r q,a⟩
theorem PileK.get {K:PySem.W.Frag} {H:Hp}:∀{xs:List V} {ts:List Tr} {i:Nat} {x:V},PileK K H xs ts→xs[i]? = some x→∃t,ts[i]? = some t∧Tr.AtK K H t x
 | _,_,_,_,.nil,e=>by simp at e
 | _,_,0,_,.cons r _,e=>by
  simp at e
  subst e
  exact⟨_,rfl,r⟩
 | _,_,i+1,x,.cons _ q,e=>by
  obtain⟨t,h1,h2⟩:=PileK.get (i:=i) q (by simpa using e)
  exact⟨t,by simpa using h1,h2⟩
theorem PileK.at {K:PySem.W.Frag} {H:Hp} {xs:List V} {ts:List Tr} {i:Nat} {t:Tr} (h:PileK K H xs ts) (e:ts[i]? = some t):∃x,xs[i]? = some x∧Tr.AtK K H t x:=by
 have hl:=h.len
 have hi:i<ts.length:=(List.getElem?_eq_some_iff.mp e).1
 have hx:xs[i]? = some xs[i]:=List.getElem?_eq_getElem (by omega)
 obtain⟨t2,h1,h2⟩:=h.get hx
 rw[e] at h1
 cases h1
 exact⟨_,hx,h2⟩
section
variable {X:Cx} {pins:List (Addr×Obj)} {σ:L2.St} {H:Hp} {s:Shared}
theorem B4 (I:Inv X pins σ H s) {p:Addr} {xs ys:List V} (h1:TupAt X.K H p xs) (h2:TupAt X.K H p ys):xs=ys:=by
 obtain⟨its,r1,pl,_⟩:=I.tuple h1.sq
 obtain⟨its2,r2,pl2,_⟩:=I.tuple h2.sq
 obtain⟨o,e,_,n,d⟩:=pl
 obtain⟨o2,e2,_,n2,d2⟩:=pl2
 rw[e] at e2
 cases e2
 rw[d] at d2
 have ei:its.toArray=its2.toArray:=by cases d2;rfl
 have ei':its=its2:=by simpa using ei
 subst ei'
 exact Vals.inj r1 r2
theorem OX {i j:Nat} (hi:i<4) (hj:j<4) (h:jn i=jn j):i=j:=by
 have d:∀i:Fin 4,∀j:Fin 4,jn i.1=jn j.1→i.1=j.1:=by decide
 exact d ⟨i,hi⟩ ⟨j,hj⟩ h
theorem Gw {j:Nat}:jn j≠"let":=by
 match j with
 | 0=>decide
 | 1=>decide
 | 2=>decide
 | _+3=>show ("same":Str)≠"let";decide
theorem Ha {j:Nat}:jn j≠"not":=by
 match j with
 | 0=>decide
 | 1=>decide
 | 2=>decide
 | _+3=>show ("same":Str)≠"not";decide
theorem Gx (I:Inv X pins σ H s) {m:Nat}:∀{t u:Tr} {v:V},t.ok m→u.ok m→t.AtK X.K H v→u.AtK X.K H v→t=u
 | .lt k,u,v,ht,hu,h1,h2=>by
  obtain⟨p,rfl,h1⟩:=h1
  cases u with
  | lt k2=>
   obtain⟨p2,e,h2⟩:=h2
   cases e
   have:=B4 I h1 h2
   simp only[List.cons.injEq,V.int.injEq,and_true,true_and] at this
   have:k=k2:=by omega
   rw[this]
  | nt t2=>
   obtain⟨p2,x,e,h2,_⟩:=h2
   cases e
   have:=B4 I h1 h2
   simp only[List.cons.injEq,V.str.injEq] at this
   exact absurd this.1 (by decide)
  | bn j a b=>
   obtain⟨p2,x,y,e,h2,_⟩:=h2
   cases e
   have:=B4 I h1 h2
   simp only[List.cons.injEq,V.str.injEq] at this
   exact absurd this.1.symm Gw
 | .nt t,u,v,ht,hu,h1,h2=>by
  obtain⟨p,x1,rfl,h1,a1⟩:=h1
  cases u with
  | lt k2=>
   obtain⟨p2,e,h2⟩:=h2
   cases e
   have:=B4 I h1 h2
   simp only[List.cons.injEq,V.str.injEq] at this
   exact absurd this.1 (by decide)
  | nt t2=>
   obtain⟨p2,x,e,h2,a2⟩:=h2
   cases e
   have:=B4 I h1 h2
   simp only[List.cons.injEq,and_true,true_and] at this
   subst this
   rw[Gx I (t:=t) (u:=t2) ht hu a1 a2]
  | bn j a b=>
   obtain⟨p2,x,y,e,h2,_⟩:=h2
   cases e
   have:=B4 I h1 h2
   simp only[List.cons.injEq,V.str.injEq] at this
   exact absurd this.1.symm Ha
 | .bn j a b,u,v,ht,hu,h1,h2=>by
  obtain⟨p,x1,y1,rfl,h1,a1,b1⟩:=h1
  cases u with
  | lt k2=>
   obtain⟨p2,e,h2⟩:=h2
   cases e
   have:=B4 I h1 h2
   simp only[List.cons.injEq,V.str.injEq] at this
   exact absurd this.1 Gw
  | nt t2=>
   obtain⟨p2,x,e,h2,a2⟩:=h2
   cases e
   have:=B4 I h1 h2
   simp only[List.cons.injEq,V.str.injEq] at this
   exact absurd this.1 Ha
  | bn j2 c d=>
   obtain⟨p2,x,y,e,h2,a2,b2⟩:=h2
   cases e
   have:=B4 I h1 h2
   simp only[List.cons.injEq,V.str.injEq,and_true] at this
   obtain⟨ej,rfl,rfl⟩:=this
   obtain rfl:=OX ht.1 hu.1 ej
   rw[Gx I (t:=a) (u:=c) ht.2.1 hu.2.1 a1 a2,Gx I (t:=b) (u:=d) ht.2.2 hu.2.2 b1 b2]
end
end HT2
namespace HT2
open PySem L2 PyProof.Rows
def Tr.hgt:Tr→Nat
 | .lt _=>0
 | .nt t=>t.hgt+1
 | .bn _ a b=>max a.hgt b.hgt+1
section
variable {X:Cx} {pins:List (Addr×Obj)} {σ:L2.St} {H:Hp} {s:Shared}
theorem B9 (I:Inv X pins σ H s) {p q:Addr} {xs ys:List V} (h1:TupAt X.K H p xs) (h2:TupAt X.K H q ys) {A:Around} (hu:A.units<cLine) (e:Nat→Bool)
  (he:∀(j:Nat) (x y:V) (x' y':Value),xs[j]? = some x→ys[j]? = some y→L2.RelV x x'→L2.RelV y y'→SeqAt.EqAt A.in1 s x' y' (e j)):SeqAt.RcAt A s (.ref p) (.ref q) ((List.range (min xs.length ys.length)).all e && xs.length == ys.length):=by
 obtain⟨its,r1,pl,_⟩:=I.tuple h1.sq
 obtain⟨its2,r2,pl2,_⟩:=I.tuple h2.sq
 have l1:=r1.length
 have l2:=r2.length
 have hh:=SeqAt.RcAt.tuples (e:=e) (A:=A) pl pl2 hu (fun j j1 j2=>by
  have j1':j<its.length:=by simpa using j1
  have j2':j<its2.length:=by simpa using j2
  have hx1:xs[j]? = some xs[j]:=List.getElem?_eq_getElem (by omega)
  have hy1:ys[j]? = some ys[j]:=List.getElem?_eq_getElem (by omega)
  obtain⟨u1,e1,ru1⟩:=r1.get hx1
  obtain⟨u2,e2,ru2⟩:=r2.get hy1
  have e1':its.toArray[j]=u1:=by
   have:=List.getElem?_eq_getElem j1'
   rw[this] at e1
   simpa using Option.some.inj e1
  have e2':its2.toArray[j]=u2:=by
   have:=List.getElem?_eq_getElem j2'
   rw[this] at e2
   simpa using Option.some.inj e2
  rw[e1',e2']
  exact he j _ _ _ _ hx1 hy1 ru1 ru2)
 have ez:its.toArray.size=xs.length:=by simp;omega
 have ez2:its2.toArray.size=ys.length:=by simp;omega
 rw[ez,ez2] at hh
 exact hh
theorem B8 {A:Around} {a b:Str} {x' y':Value} (h1:L2.RelV (.str a) x') (h2:L2.RelV (.str b) y'):SeqAt.EqAt A s x' y' (a == b):=by
 obtain⟨t,rfl⟩:=h1
 obtain⟨t2,rfl⟩:=h2
 exact SeqAt.EqAt.str_str _ _ _ _
theorem EK {a b:Str} (h:a≠b):(a == b)=false:=beq_false_of_ne h
theorem DN (I:Inv X pins σ H s) {m:Nat} {t u:Tr} {v v':V} {x x':Value} {A:Around} (ht:t.ok m) (hu:u.ok m) (h1:t.AtK X.K H v) (h2:u.AtK X.K H v') (r1:L2.RelV v x) (r2:L2.RelV v' x') (h:SeqAt.RcAt A s x x' (decide (t=u))):SeqAt.EqAt A s x x' (decide (t=u)):=by
 obtain⟨p,_,rfl,_⟩:=h1.isRef
 obtain⟨q,_,rfl,_⟩:=h2.isRef
 cases r1
 cases r2
 by_cases hpq:p=q
 ·subst hpq
  rw[decide_eq_true (Gx I ht hu h1 h2)]
  exact SeqAt.EqAt.same _
 ·exact SeqAt.EqAt.of_refs hpq h
theorem Ee (I:Inv X pins σ H s) {m:Nat}:∀(t:Tr) {u:Tr} {v v':V} {x x':Value} {A:Around},t.ok m→u.ok m→t.AtK X.K H v→u.AtK X.K H v'→L2.RelV v x→L2.RelV v' x'→A.units+t.hgt+2<cLine→SeqAt.RcAt A s x x' (decide (t=u))
 | .lt k,u,v,v',x,x',A,ht,hu,h1,h2,r1,r2,hc=>by
  have h1':=h1
  have h2':=h2
  obtain⟨p,rfl,h1⟩:=h1
  cases r1
  have hc1:A.units<cLine:=by omega
  have hc2:A.in1.units<cLine:=by show A.units+1<cLine;omega
  obtain⟨q,_,rfl,_⟩:=h2.isRef
  cases r2
  cases u with
  | lt k2=>
   obtain⟨p2,e,h2⟩:=h2
   cases e
   have hh:=B9 I h1 h2 hc1 (fun j=>if j=0 then true else decide (k=k2)) (fun j x y x' y' hx hy rx ry=>by
    match j,hx,hy with
    | 0,hx,hy=>
     cases hx
     cases hy
     have:=B8 (s:=s) (A:=A.in1) rx ry
     rw[beq_self_eq_true] at this
     exact this
    | 1,hx,hy=>
     cases hx
     cases hy
     obtain⟨t1,rfl⟩:=rx
     obtain⟨t2,rfl⟩:=ry
     have:=SeqAt.EqAt.int_int (A:=A.in1) (s:=s) (k:Int) t1 (k2:Int) t2
     rw[show ((k:Int) == (k2:Int))=decide (k=k2) by rw[Bool.eq_iff_iff,beq_iff_eq,decide_eq_true_eq];omega] at this
     exact this)
   have ev:((List.range (min [V.str "let",V.int k].length [V.str "let",V.int k2].length)).all (fun j=>if j=0 then true else decide (k=k2)) && [V.str "let",V.int k].length == [V.str "let",V.int k2].length)=decide (Tr.lt k=Tr.lt k2):=by
    by_cases z:k=k2
    ·subst z;simp[List.range_succ]
    ·simp[List.range_succ,z]
   rw[←ev]
   exact hh
  | nt t2=>
   obtain⟨p2,x2,e,h2,a2⟩:=h2
   cases e
   have hh:=B9 I h1 h2 hc1 (fun _=>false) (fun j x y x' y' hx hy rx ry=>by
    match j,hx,hy with
    | 0,hx,hy=>
     cases hx
     cases hy
     have:=B8 (s:=s) (A:=A.in1) rx ry
     rw[EK (by decide)] at this
     exact this
    | 1,hx,hy=>
     cases hx
     cases hy
     obtain⟨t1,rfl⟩:=rx
     obtain⟨q,_,rfl,hq⟩:=a2.isRef
     cases ry
     obtain⟨its,_,pl,_⟩:=I.tuple hq.sq
     exact SeqAt.EqAt.int_tuple _ _ pl hc2)
   rw[decide_eq_false (by intro z;cases z)]
   exact hh
  | bn j2 c d=>
   obtain⟨p2,x2,y2,e,h2,a2,b2⟩:=h2
   cases e
   have hh:=B9 I h1 h2 hc1 (fun _=>false) (fun j x y x' y' hx hy rx ry=>by
    match j,hx,hy with
    | 0,hx,hy=>
     cases hx
     cases hy
     have:=B8 (s:=s) (A:=A.in1) rx ry
     rw[EK (fun z=>Gw z.symm)] at this
     exact this
    | 1,hx,hy=>
     cases hx
     cases hy
     obtain⟨t1,rfl⟩:=rx
     obtain⟨q,_,rfl,hq⟩:=a2.isRef
     cases ry
     obtain⟨its,_,pl,_⟩:=I.tuple hq.sq
     exact SeqAt.EqAt.int_tuple _ _ pl hc2)
   rw[decide_eq_false (by intro z;cases z)]
   exact hh
 | .nt t,u,v,v',x,x',A,ht,hu,h1,h2,r1,r2,hc=>by
  have h1':=h1
  have h2':=h2
  obtain⟨p,x1,rfl,h1,a1⟩:=h1
  cases r1
  have hc0:A.units+(t.hgt+1)+2<cLine:=hc
  have hc1:A.units<cLine:=by omega
  have hc2:A.in1.units<cLine:=by show A.units+1<cLine;omega
  obtain⟨q,_,rfl,_⟩:=h2.isRef
  cases r2
  cases u with
  | lt k2=>
   obtain⟨p2,e,h2⟩:=h2
   cases e
   have hh:=B9 I h1 h2 hc1 (fun _=>false) (fun j x y x' y' hx hy rx ry=>by
    match j,hx,hy with
    | 0,hx,hy=>
     cases hx
     cases hy
     have:=B8 (s:=s) (A:=A.in1) rx ry
     rw[EK (by decide)] at this
     exact this
    | 1,hx,hy=>
     cases hx
     cases hy
     obtain⟨t1,rfl⟩:=ry
     obtain⟨q,_,rfl,hq⟩:=a1.isRef
     cases rx
     obtain⟨its,_,pl,_⟩:=I.tuple hq.sq
     exact SeqAt.EqAt.tuple_int _ _ pl hc2)
   rw[decide_eq_false (by intro z;cases z)]
   exact hh
  | nt t2=>
   obtain⟨p2,x2,e,h2,a2⟩:=h2
   cases e
   have hh:=B9 I h1 h2 hc1 (fun j=>if j=0 then true else decide (t=t2)) (fun j x y x' y' hx hy rx ry=>by
    match j,hx,hy with
    | 0,hx,hy=>
     cases hx
     cases hy
     have:=B8 (s:=s) (A:=A.in1) rx ry
     rw[beq_self_eq_true] at this
     exact this
    | 1,hx,hy=>
     cases hx
     cases hy
     exact DN I (t:=t) (u:=t2) ht hu a1 a2 rx ry (Ee I t (u:=t2) ht hu a1 a2 rx ry (by show A.units+1+t.hgt+2<cLine;omega)))
   have ev:((List.range (min [V.str "not",x1].length [V.str "not",x2].length)).all (fun j=>if j=0 then true else decide (t=t2)) && [V.str "not",x1].length == [V.str "not",x2].length)=decide (Tr.nt t=Tr.nt t2):=by
    by_cases z:t=t2
    ·subst z;simp[List.range_succ]
    ·simp[List.range_succ,z]
   rw[←ev]
   exact hh
  | bn j2 c d=>
   obtain⟨p2,x2,y2,e,h2,a2,b2⟩:=h2
   cases e
   have hh:=B9 I h1 h2 hc1 (fun j=>if j=0 then false else decide (t=c)) (fun j x y x' y' hx hy rx ry=>by
    match j,hx,hy with
    | 0,hx,hy=>
     cases hx
     cases hy
     have:=B8 (s:=s) (A:=A.in1) rx ry
     rw[EK (fun z=>Ha z.symm)] at this
     exact this
    | 1,hx,hy=>
     cases hx
     cases hy
     exact DN I (t:=t) (u:=c) ht hu.2.1 a1 a2 rx ry (Ee I t (u:=c) ht hu.2.1 a1 a2 rx ry (by show A.units+1+t.hgt+2<cLine;omega)))
   rw[decide_eq_false (by intro z;cases z)]
   exact hh
 | .bn j a b,u,v,v',x,x',A,ht,hu,h1,h2,r1,r2,hc=>by
  have h1':=h1
  have h2':=h2
  obtain⟨p,x1,y1,rfl,h1,a1,b1⟩:=h1
  cases r1
  have hc0:A.units+(max a.hgt b.hgt+1)+2<cLine:=hc
  have hc1:A.units<cLine:=by omega
  have hc2:A.in1.units<cLine:=by show A.units+1<cLine;omega
  obtain⟨q,_,rfl,_⟩:=h2.isRef
  cases r2
  cases u with
  | lt k2=>
   obtain⟨p2,e,h2⟩:=h2
   cases e
   have hh:=B9 I h1 h2 hc1 (fun _=>false) (fun j x y x' y' hx hy rx ry=>by
    match j,hx,hy with
    | 0,hx,hy=>
     cases hx
     cases hy
     have:=B8 (s:=s) (A:=A.in1) rx ry
     rw[EK Gw] at this
     exact this
    | 1,hx,hy=>
     cases hx
     cases hy
     obtain⟨t1,rfl⟩:=ry
     obtain⟨q,_,rfl,hq⟩:=a1.isRef
     cases rx
     obtain⟨its,_,pl,_⟩:=I.tuple hq.sq
     exact SeqAt.EqAt.tuple_int _ _ pl hc2)
   rw[decide_eq_false (by intro z;cases z)]
   exact hh
  | nt t2=>
   obtain⟨p2,x2,e,h2,a2⟩:=h2
   cases e
   have hh:=B9 I h1 h2 hc1 (fun j=>if j=0 then false else decide (a=t2)) (fun j x y x' y' hx hy rx ry=>by
    match j,hx,hy with
    | 0,hx,hy=>
     cases hx
     cases hy
     have:=B8 (s:=s) (A:=A.in1) rx ry
     rw[EK Ha] at this
     exact this
    | 1,hx,hy=>
     cases hx
     cases hy
     exact DN I (t:=a) (u:=t2) ht.2.1 hu a1 a2 rx ry (Ee I a (u:=t2) ht.2.1 hu a1 a2 rx ry (by show A.units+1+a.hgt+2<cLine;omega)))
   rw[decide_eq_false (by intro z;cases z)]
   exact hh
  | bn j2 c d=>
   obtain⟨p2,x2,y2,e,h2,a2,b2⟩:=h2
   cases e
   have hh:=B9 I h1 h2 hc1 (fun i=>if i=0 then decide (j=j2) else if i=1 then decide (a=c) else decide (b=d)) (fun i x y x' y' hx hy rx ry=>by
    match i,hx,hy with
    | 0,hx,hy=>
     cases hx
     cases hy
     have:=B8 (s:=s) (A:=A.in1) rx ry
     have e:(jn j == jn j2)=decide (j=j2):=by
      by_cases z:j=j2
      ·subst z;simp
      ·rw[decide_eq_false z];exact EK fun q=>z (OX ht.1 hu.1 q)
     rw[e] at this
     exact this
    | 1,hx,hy=>
     cases hx
     cases hy
     exact DN I (t:=a) (u:=c) ht.2.1 hu.2.1 a1 a2 rx ry (Ee I a (u:=c) ht.2.1 hu.2.1 a1 a2 rx ry (by show A.units+1+a.hgt+2<cLine;omega))
    | 2,hx,hy=>
     cases hx
     cases hy
     exact DN I (t:=b) (u:=d) ht.2.2 hu.2.2 b1 b2 rx ry (Ee I b (u:=d) ht.2.2 hu.2.2 b1 b2 rx ry (by show A.units+1+b.hgt+2<cLine;omega)))
   have ev:((List.range (min [V.str (jn j),x1,y1].length [V.str (jn j2),x2,y2].length)).all (fun i=>if i=0 then decide (j=j2) else if i=1 then decide (a=c) else decide (b=d)) && [V.str (jn j),x1,y1].length == [V.str (jn j2),x2,y2].length)=decide (Tr.bn j a b=Tr.bn j2 c d):=by
    rw[Bool.eq_iff_iff]
    simp[List.range_succ]
   rw[←ev]
   exact hh
def Tw (K:PySem.W.Frag):R2:=fun x y H Q=>∃(t u:Tr) (m:Nat),t.ok m∧u.ok m∧t.AtK K H x∧u.AtK K H y∧t.hgt≤100∧Q (.bl (decide (t=u))) H
theorem D1 (hu:X.A.units+150<cLine):Ep X (compareOp .Eq) (Tw X.K):=by
 intro pins s σ H x y v u Q I rx ry h
 obtain⟨t,u',m,ht,hu',h1,h2,hg,q⟩:=h
 exact Ee I t ht hu' h1 h2 rx ry (by omega) _ _ _ _ ⟨.bl _,H,I,rfl,q⟩
inductive UA (K:PySem.W.Frag) (H:Hp):V→Value→Prop where
 | of {x:V} {t:Value} (h:Fi K H x t):UA K H x t
 | tup {p:Addr} {xs:List V} (h:TupAt K H p xs):UA K H (.ref p) (.type "tuple")
theorem E9:BP X (.builtin "isinstance") (fun xs H Q=>∃x T t b,xs=[x,.ty T]∧UA X.K H x t∧PySem.W.kitOne X.K t (.type T)=some b∧Q (.bl b) H):=by
 intro pins s σ H xs us Q I r h
 obtain⟨x,T,t,b,rfl,ty,e,q⟩:=h
 obtain⟨u,w',rfl,rx,ry⟩:=Qm r
 cases ry
 cases ty with
 | of h=>exact Il I rx h e fun tk=>⟨.bl b,H,I.tok _,rfl,q⟩
 | @tup p ys h=>
  cases (show u=Value.ref p from rx)
  obtain⟨its,_,pl,_⟩:=I.tuple h.sq
  obtain⟨o,h1,h2,_⟩:=pl
  exact PySem.W.kia_one PySem.W.kitx_tuple I.kIn ⟨o,h1,h2⟩ e (fun z=>nomatch z) fun tk=>⟨.bl b,H,I.tok _,rfl,q⟩
theorem Ka (K:PySem.W.Frag):PySem.W.kitOne K (.type "int") (.type "tuple")=some false:=by
 with_unfolding_all rfl
theorem _root_.L2.Room.units150 {k:Nat} {A:Around} (r:Room k A):A.units+150<cLine:=by have:=r.un;omega
end
end HT2
namespace L2
open PySem PySem.Spec PyProof.Rows
def S4 (n:Nat):It:=⟨fun i _=>i<n,fun i H x H'=>H'=H∧x= .int (2*(i:Int)),fun i _=>n≤i⟩
theorem PP {n:Nat} {g:TG} {tb:TS} {D:Cg} {σ:St} {H:Hp} (Pv:Nat→St→Hp→Prop) (h0:Pv 0 σ H)
  (hs:∀i σ H,i<n→Pv i σ H→g (.int (2*(i:Int))) σ H fun σ2 H2=>tb { D with nx:=Pv (i+1),ct:=Pv (i+1),bk:=D.nx } σ2 H2) (hd:∀σ H,Pv n σ H→D.nx σ H):Er (S4 n) g tb D σ H:=by
 refine⟨fun i m σ H=>m=n-i∧i≤n∧Pv i σ H,⟨n,by simp,Nat.zero_le _,h0⟩,?_⟩
 rintro i m σ H ⟨rfl,hi,p⟩
 by_cases hlt:i<n
 ·refine .inr ⟨hlt,Pv (i+1),fun σ' H' p'=>⟨n-(i+1),by omega,rfl,hlt,p'⟩,fun x H' y=>?_⟩
  obtain⟨e,e2⟩:=y
  subst e e2
  exact hs i σ _ hlt p
 ·have e:i=n:=by omega
  subst e
  exact .inl ⟨Nat.le_refl _,hd σ H p⟩
theorem Ny {P:Program} {w:World} {K:PySem.W.Frag} {tg:Expr} (it:Addr) (n:Nat):Lr P w K tg (S4 n) [it] it (fun i h=>IsRangeIter h it (0+(i:Nat)*2) ((n:Int)-(i:Nat)) 2) where
 mem:=by simp
 obj:=fun i h st b hb=>by
  have e:b=it:=by simpa using hb
  subst e
  exact⟨_,st,fun v z=>by
   have z':Data.fields _=Data.cell v:=z
   cases z'⟩
 keep:=fun i h h' st k=>k it (by simp) _ st
 item:=by
  intro X hP hw hK hc i pins s σ H E I hf st hg
  subst hP hw hK
  obtain⟨f0,f1,f2,f3,f4,f5⟩:=hf it (by simp)
  have W:=Walks.range (prog:=X.prog) (w:=X.w) (I.ok.hd hc) it 0 2 n
  refine W.item i s _ _ hg st fun v h' tk hv st' kk=>?_
  obtain⟨t,rfl⟩:=hv
  have I1:Inv X pins σ H { s with heap:=h',toks:=tk }:=I.turned (fun b o hb e=>kk b o (by simpa using hb) e) f0 f1 f3 f4 f5
  refine⟨_,rfl,Mh (s:={ s with heap:=h',toks:=tk }) (n:="range_iterator") st' rfl rfl (by decide) ⟨.int (2*(i:Int)),H,I1,⟨t,?_⟩,⟨rfl,rfl⟩,st',fun b hb=>(hf b hb).1⟩⟩
  rw[Int.zero_add,Int.mul_comm]
 done:=by
  intro X hP hw hK hc i pins s σ H E I hf st hg
  subst hP hw hK
  obtain⟨f0,f1,f2,f3,f4,f5⟩:=hf it (by simp)
  exact wpAny_pyNext_range_end (I.ok.hd hc) st (by have:n≤i:=hg;omega) fun h' eb=>⟨rfl,I.turned (t':=s.toks) (fun b o hb e=>eb b o hb e) f0 f1 f3 f4 f5⟩
 self:=fun _ _ _ _ _ st h=>wpAny_pyIter_rangeiter st h
section
variable {X:Cx} {tg:Expr}
def T8 (ta:TA):TI:=fun σ H R=>ta σ H fun vs H1=>∃n:Nat,vs=[.int 0,.int (2*(n:Int)),.int 2]∧n≤1000∧R (S4 n) H1
theorem NC {a b c:Expr} {ta:TA} {p pos:Pos} (hg:Gl X "range") (hm:X.mg "range"=none) (ha:PA X [a,b,c] ta) (hs:starEach [a,b,c] X.env=[(false,eval a X.env),(false,eval b X.env),(false,eval c X.env)]:=by rfl) (hs2:starEach [b,c] X.env=[(false,eval b X.env),(false,eval c X.env)]:=by rfl) :
  PI X tg (.Call (.Name "range" p) [a,b,c] [] pos) (T8 ta):=by
 intro pins s σ H R I h
 refine Call_ (Cu I hg hm boot_range (PyProof.Rows.callWith_type1 (AS (ha pos pins s σ H _ I h) fun us s1 ⟨vs,H1,I1,r1,q1⟩=>?_) (by rw[hs,hs2]) (by rw[hs2];rfl)))
 obtain⟨n,e,hn,q⟩:=q1
 subst e
 cases r1 with
 | cons r rr=>
  cases rr with
  | cons r' rr=>
   cases rr with
   | cons r'' rr=>
    cases rr
    obtain⟨t,rfl⟩:=r
    obtain⟨t',rfl⟩:=r'
    obtain⟨t'',rfl⟩:=r''
    refine call_range_3 (by decide) ?_ (.inl (PyProof.noPylong_small (by decide)))
    have ez:Builtin.Range.rangeSize 0 (2*(n:Int)) 2=(n:Int):=by
     unfold Builtin.Range.rangeSize
     rw[if_pos (by decide)]
     by_cases h0:(0:Int)<2*(n:Int)
     ·rw[if_pos h0];omega
     ·rw[if_neg h0];omega
    have hsm:Builtin.Range.small 0 (2*(n:Int)) 2=true:=by
     unfold Builtin.Range.small
     rw[ez]
     have fit:∀i:Int,-4000≤i→i<4000→Builtin.Range.rangeFitsLong i=true:=fun i h1 h2=>by
      unfold Builtin.Range.rangeFitsLong
      rw[decide_eq_true (by omega),decide_eq_true (by omega)]
      rfl
     rw[if_pos (by decide),fit 0 (by decide) (by decide),fit _ (by omega) (by omega),fit 2 (by decide) (by decide),fit (n:Int) (by omega) (by omega),fit _ (by omega) (by omega)]
     simp
    refine wpAny_pyIter_range (IsRange.new ..) hsm ?_
    have I2:Inv X pins σ H1 { s1 with heap:=s1.heap.push { cls:=.type "range",data:=.fields #[.int 0 t,.int (2*(n:Int)) t',.int 2 t''] },toks:=s1.toks }:=I1.kept fun b o e=>Heap.get?_push_of_some _ e
    refine⟨(s1.heap.push { cls:=.type "range",data:=.fields #[.int 0 t,.int (2*(n:Int)) t',.int 2 t''] }).objs.size,[(s1.heap.push { cls:=.type "range",data:=.fields #[.int 0 t,.int (2*(n:Int)) t',.int 2 t''] }).objs.size],_,_,H1,rfl,
     I2.kept (t':=s1.toks) fun b o e=>Heap.get?_push_of_some _ e,Ny _ n,?_,fun b hb=>?_,q⟩
    ·have e1:(0:Int)+((0:Nat):Int)*2=0:=by simp
     have e2:((n:Nat):Int)-((0:Nat):Int)=Builtin.Range.rangeSize 0 (2*(n:Int)) 2:=by rw[ez];omega
     show IsRangeIter _ _ ((0:Int)+((0:Nat):Int)*2) (((n:Nat):Int)-((0:Nat):Int)) 2
     rw[e1,e2]
     exact Heap.get?_push_size _ rfl
    ·have e:b=(s1.heap.push { cls:=.type "range",data:=.fields #[.int 0 t,.int (2*(n:Int)) t',.int 2 t''] }).objs.size:=by simpa using hb
     subst e
     exact I2.fpOk (Nat.le_refl _) (I2.hok.fresh (Nat.le_refl _))
end
end L2
namespace Toy
open PySem L2 HT2 PyProof.Rows
open PySem.W (clsIn codeIn findIn fnOf isFn keepIn mg_none_of mg_of mroIn nsIn subIn typeIn)
theorem Bx {N P:List Str} {c:Scope} (x:c.kind=.function:=by exact rfl) (y:c.isCoroutine=false:=by exact rfl) (z:c.isGenerator=false:=by exact rfl) (d:N.Nodup:=by decide +kernel) (e:N.take P.length=P:=by exact rfl) (g:∀x∈P,c.names.lookup x=some .local∨c.names.lookup x=some .cell:=by decide +kernel) (h:∀y∈c.names,y.2≠.free:=by decide +kernel):Aq N P c:=⟨x,y,z,d,e,g,h⟩
variable {P:Program} {w:World} {K:PySem.W.Frag} {mg:Str→Option Value} {bz:Heap} {f:Addr} {fd:FuncData}
set_option maxHeartbeats 64000000
def By (i:Nat):Stmt:=PySem.Challenge.pw_holdtalk_k41_catches_walk.main.body.getD i (.Pass ⟨0,0,0,0⟩)
abbrev NV:Stmt:=By 47
abbrev M8:Stmt:=By 57
abbrev Iy:Stmt:=By 52
structure Bl (mg:Str→Option Value):Prop where
 abs:mg "abs"=none
 len:mg "len"=none
 range:mg "range"=none
def OC (K:PySem.W.Frag):Sp:=fun vs H Q _=>∃(a:Addr) (ns:List Int) (k:Int),vs=[.ref a,.int k]∧SqL K H a (ns.map V.int)∧ns.length≤63∧0≤k∧k≤1000∧
 ∀(n:Int) (H':Hp),0≤n→Same H H'→Q (.int n) H'
def LA:Sp:=fun vs H Q _=>∃(n:Int) (most many:Nat),vs=[.int n,.int most,.int many]∧0≤n∧1≤most∧most≤12∧1≤many∧many≤5∧
 ∀(v:V) (t:Tr) (H':Hp),Same H H'→t.At H' v→t.ok many→t.size+1≤2*most→Q v H'
section
theorem scNum:Aq ["_law_script","_law_k","_law_cell","_law_one","_law_two"] ["_law_script","_law_k"] (Ae NV):=Bx
theorem TQ:Aq ["_law_n"] ["_law_n"] (Ae M8):=Bx
def R4:Sp:=fun vs H Q _=>∃(n:Int),vs=[.int n]∧0≤n∧∀(m:Nat) (H':Hp),1≤m→m≤5→Same H H'→Q (.int m) H'
def fews:List Int:=[3,2,3,1,3,2,4,5]
theorem Vg:8≤sizeLine:=by decide
theorem SN {i:Nat} (h:i<8):∃m:Nat,1≤m∧m≤5∧(fews.map V.int)[i]? = some (.int m):=by
 match i,h with
 | 0,_=>exact⟨3,by decide,by decide,rfl⟩
 | 1,_=>exact⟨2,by decide,by decide,rfl⟩
 | 2,_=>exact⟨3,by decide,by decide,rfl⟩
 | 3,_=>exact⟨1,by decide,by decide,rfl⟩
 | 4,_=>exact⟨3,by decide,by decide,rfl⟩
 | 5,_=>exact⟨2,by decide,by decide,rfl⟩
 | 6,_=>exact⟨4,by decide,by decide,rfl⟩
 | 7,_=>exact⟨5,by decide,by decide,rfl⟩
theorem Sy (F:Fun K "_law_few" "_law_few" M8 f fd):FnOk P w K mg bz AG 1 f fd ["_law_n"] R4:=by
 refine F.ok TQ (fun vs H Q E h=>?_) (fun cdv A outer s H vs Q E hr h=>?_)
 ·obtain⟨n,rfl,_⟩:=h
  rfl
 obtain⟨n,rfl,h0,q⟩:=h
 refine⟨_,Ad (Ai (AC AT (AK (Aa Ag (Aa Ag (Aa Ag (Aa Ag (Aa Ag (Aa Ag (Aa Ag (Aa Ag Ab))))))))) (AD A6 (pv 0) Ag) (fun _ _=>rfl))),?_⟩
 have h1:=Int.emod_nonneg n (show (8:Int)≠0 by decide)
 have h2:=Int.emod_lt_of_pos n (show (0:Int)<8 by decide)
 obtain⟨m,m1,m5,hm⟩:=SN (i:=(n%8).toNat) (by omega)
 have hat:Ia (fews.map V.int) (n%8)=some (.int m):=by
  have e:n%8=(((n%8).toNat:Nat):Int):=by omega
  rw[e]
  exact Aj (j:=(n%8).toNat) hm
 refine⟨Vg,fun l hl=>?_⟩
 refine⟨_,rfl,_,_,rfl,rfl,(by show (0:Int)<8;decide),l,fews.map V.int,_,_,rfl,rfl,SqL.of upd_same,hat,?_⟩
 exact q m _ m1 m5 (Af hl _)
end
section
theorem scSent:Aq ["_law_n","_law_most","_law_many","_law_joints","_law_pile","_law_size","_law_turn","_law_digit","_law_right"] ["_law_n","_law_most","_law_many"] (Ae Iy):=Bx
structure PileAt (H1 H2:Hp) (pl:Addr) (xs:List V) (ts:List Tr) (many:Nat):Prop where
 sm:Same H1 H2
 at':H2 pl=some (.lst xs)
 pile:Pile H2 xs ts
 ok:∀t∈ts,t.ok many
theorem PileAt.len {H1 H2:Hp} {pl:Addr} {xs:List V} {ts:List Tr} {many:Nat} (p:PileAt H1 H2 pl xs ts many):xs.length=ts.length:=p.pile.len
theorem PileAt.pop {H1 H2:Hp} {pl:Addr} {xs:List V} {ts:List Tr} {many:Nat} (np:H1 pl=none) (p:PileAt H1 H2 pl xs ts many) (h:0<ts.length) :
  ∃y ts' t,xs[xs.length-1]? = some y∧ts=ts'++[t]∧t.ok many∧t.At (upd H2 pl (.lst xs.dropLast)) y∧PileAt H1 (upd H2 pl (.lst xs.dropLast)) pl xs.dropLast ts' many:=by
 obtain⟨xs',y,ts',t,rfl,rfl,q,a⟩:=p.pile.last h
 refine⟨y,ts',t,En _ _,rfl,p.ok t (by simp),a.keep (TS.lst p.at'),⟨AI p.sm np _,upd_same,?_,fun u hu=>p.ok u (by simp[hu])⟩⟩
 rw[List.dropLast_concat]
 exact q.keep (TS.lst p.at')
theorem PileAt.new {H1 H2:Hp} {pl e:Addr} {xs:List V} {ts:List Tr} {many:Nat} {o:HO} (p:PileAt H1 H2 pl xs ts many) (he:H2 e=none):PileAt H1 (upd H2 e o) pl xs ts many:=
 ⟨p.sm.trans (Af he _),(Af he _) _ _ p.at',p.pile.keep (TS.new he),p.ok⟩
theorem PileAt.put {H1 H2:Hp} {pl c:Addr} {xs:List V} {ts:List Tr} {many:Nat} {t:Tr} {ys:List V} (np:H1 pl=none) (p:PileAt H1 H2 pl xs ts many) (hc:H2 c=none) (ht:t.ok many)
  (ha:t.At (upd (upd H2 c (.tup ys)) pl (.lst (xs++[.ref c]))) (.ref c)):PileAt H1 (upd (upd H2 c (.tup ys)) pl (.lst (xs++[.ref c]))) pl (xs++[.ref c]) (ts++[t]) many:=by
 have k:TS H2 (upd (upd H2 c (.tup ys)) pl (.lst (xs++[.ref c]))):=(TS.new hc).trans (TS.lst (xs:=xs) (by rw[Ax (Am p.at' hc)];exact p.at'))
 refine⟨AI (p.sm.trans (Af hc _)) np _,upd_same,(p.pile.keep k).snoc ha,fun u hu=>?_⟩
 rcases List.mem_append.mp hu with z | z
 ·exact p.ok u z
 ·rw[List.mem_singleton.mp z]
  exact ht
theorem JD {H2:Hp} {pl c:Addr} {xs ys zs:List V} (hp:H2 pl=some (.lst zs)) (hc:H2 c=none):(upd (upd H2 c (.tup ys)) pl (.lst xs)) c=some (.tup ys):=by
 rw[Ax (Am hp hc).symm,upd_same]
theorem DV {H2:Hp} {pl c:Addr} {xs ys zs:List V} (hp:H2 pl=some (.lst zs)) (hc:H2 c=none):TS H2 (upd (upd H2 c (.tup ys)) pl (.lst xs)):=
 (TS.new hc).trans (TS.lst (xs:=zs) (by rw[Ax (Am hp hc)];exact hp))
def Rs (H1:Hp) (jl pl:Addr) (most many:Nat) (size:Int) (i:Nat):L2.St→Hp→Prop:=fun σ H2=>∃(m:Int) (tv dv rv:Option V) (xs:List V) (ts:List Tr),
 σ=[some (.int m),some (.int most),some (.int many),some (.ref jl),some (.ref pl),some (.int size),tv,dv,rv]∧0≤m∧PileAt H1 H2 pl xs ts many∧sz ts≤i∧ts.length≤i∧(0<i→0<ts.length)
theorem ER {H1 H3:Hp} {jl pl c:Addr} {most many i:Nat} {size d m2:Int} {xs:List V} {ts:List Tr} {tv rv:Option V} (np:H1 pl=none) (p:PileAt H1 H3 pl xs ts many) (hc:H3 c=none) (h1:1≤many) (hm:0≤m2) (z1:sz ts≤i) (z2:ts.length≤i) :
  Rs H1 jl pl most many size (i+1) [some (.int m2),some (.int most),some (.int many),some (.ref jl),some (.ref pl),some (.int size),tv,some (.int d),rv] (upd (upd H3 c (.tup [.str "let",.int (d%(many:Int))])) pl (.lst (xs++[.ref c]))):=by
 have e1:=Int.emod_nonneg d (show (many:Int)≠0 by omega)
 have e2:=Int.emod_lt_of_pos d (show (0:Int)<many by omega)
 have e3:d%(many:Int)=(((d%(many:Int)).toNat:Nat):Int):=by omega
 refine⟨m2,_,_,_,_,ts++[.lt (d%(many:Int)).toNat],rfl,hm,p.put (t:=.lt (d%(many:Int)).toNat) np hc (by show (d%(many:Int)).toNat<many;omega) ⟨c,rfl,?_⟩,?_,?_,?_⟩
 ·rw[JD p.at' hc,←e3]
 ·rw[BC];show sz ts+1≤i+1;omega
 ·rw[List.length_append];show ts.length+1≤i+1;omega
 ·intro _;rw[List.length_append];exact Nat.succ_pos _
theorem Ot {H1 H3:Hp} {jl pl c:Addr} {most many i:Nat} {size m2:Int} {xs:List V} {ts:List Tr} {t:Tr} {y:V} {tv dv rv:Option V} (np:H1 pl=none) (p:PileAt H1 H3 pl xs ts many) (hc:H3 c=none) (hm:0≤m2) (ht:t.ok many) (ha:t.At H3 y) (z1:sz (ts++[t])≤i) (z2:(ts++[t]).length≤i) :
  Rs H1 jl pl most many size (i+1) [some (.int m2),some (.int most),some (.int many),some (.ref jl),some (.ref pl),some (.int size),tv,dv,rv] (upd (upd H3 c (.tup [.str "not",y])) pl (.lst (xs++[.ref c]))):=by
 rw[BC] at z1
 rw[List.length_append] at z2
 have z2':ts.length+1≤i:=z2
 refine⟨m2,_,_,_,_,ts++[.nt t],rfl,hm,p.put (t:=.nt t) np hc ht ⟨c,y,rfl,JD p.at' hc,ha.keep (DV p.at' hc)⟩,?_,?_,?_⟩
 ·rw[BC];show sz ts+(t.size+1)≤i+1;omega
 ·rw[List.length_append];show ts.length+1≤i+1;omega
 ·intro _;rw[List.length_append];exact Nat.succ_pos _
theorem Rt {H1 H3:Hp} {jl pl c:Addr} {most many i:Nat} {size m2 j:Int} {xs:List V} {ts:List Tr} {t u:Tr} {y x:V} {tv dv rv:Option V} (np:H1 pl=none) (p:PileAt H1 H3 pl xs ts many) (hc:H3 c=none) (hm:0≤m2) (hj0:0≤j) (hj:j<4) (ht:t.ok many) (hu:u.ok many) (ha:t.At H3 y) (hx:u.At H3 x) (z1:sz (ts++[u]++[t])≤i) (z2:(ts++[u]++[t]).length≤i) :
  Rs H1 jl pl most many size (i+1) [some (.int m2),some (.int most),some (.int many),some (.ref jl),some (.ref pl),some (.int size),tv,dv,rv] (upd (upd H3 c (.tup [.str (jn j.toNat),x,y])) pl (.lst (xs++[.ref c]))):=by
 rw[BC,BC] at z1
 rw[List.length_append,List.length_append] at z2
 have z2':ts.length+1+1≤i:=z2
 refine⟨m2,_,_,_,_,ts++[.bn j.toNat u t],rfl,hm,p.put (t:=.bn j.toNat u t) np hc ⟨by omega,hu,ht⟩ ⟨c,x,y,rfl,JD p.at' hc,hx.keep (DV p.at' hc),ha.keep (DV p.at' hc)⟩,?_,?_,?_⟩
 ·rw[BC];show sz ts+(u.size+t.size+1)≤i+1;omega
 ·rw[List.length_append];show ts.length+1≤i+1;omega
 ·intro _;rw[List.length_append];exact Nat.succ_pos _
theorem U3 {t:Tr} {most:Nat} (h:sz ([]++[t])+([]++[t]:List Tr).length≤2*most):t.size+1≤2*most:=by
 rw[BC] at h
 have h':0+t.size+1≤2*most:=h
 omega
def Sr (H1:Hp) (jl pl:Addr) (most many:Nat) (size:Int) (k:Nat):L2.St→Hp→Prop:=fun σ H2=>∃(m:Int) (tv dv rv:Option V) (xs:List V) (ts:List Tr),
 σ=[some (.int m),some (.int most),some (.int many),some (.ref jl),some (.ref pl),some (.int size),tv,dv,rv]∧0≤m∧PileAt H1 H2 pl xs ts many∧sz ts+ts.length≤2*most∧ts.length=k∧0<k
theorem Sg {H1 H3:Hp} {jl pl c:Addr} {most many k:Nat} {size m2 j:Int} {xs:List V} {ts:List Tr} {t u:Tr} {y x:V} {tv dv rv:Option V} (np:H1 pl=none) (p:PileAt H1 H3 pl xs ts many) (hc:H3 c=none) (hm:0≤m2) (hj0:0≤j) (hj:j<4) (ht:t.ok many) (hu:u.ok many) (ha:t.At H3 y) (hx:u.At H3 x) (z1:sz (ts++[u]++[t])+(ts++[u]++[t]).length≤2*most) (z2:(ts++[u]++[t]).length=k) :
  ∃k',k'<k∧Sr H1 jl pl most many size k' [some (.int m2),some (.int most),some (.int many),some (.ref jl),some (.ref pl),some (.int size),tv,dv,rv] (upd (upd H3 c (.tup [.str (jn j.toNat),x,y])) pl (.lst (xs++[.ref c]))):=by
 rw[BC,BC,List.length_append,List.length_append] at z1
 rw[List.length_append,List.length_append] at z2
 have z2':ts.length+1+1=k:=z2
 have z1':sz ts+u.size+t.size+(ts.length+1+1)≤2*most:=z1
 refine⟨ts.length+1,by omega,m2,_,_,_,_,ts++[.bn j.toNat u t],rfl,hm,p.put (t:=.bn j.toNat u t) np hc ⟨by omega,hu,ht⟩ ⟨c,x,y,rfl,JD p.at' hc,hx.keep (DV p.at' hc),ha.keep (DV p.at' hc)⟩,?_,?_,Nat.succ_pos _⟩
 ·rw[BC,List.length_append];show sz ts+(u.size+t.size+1)+(ts.length+1)≤2*most;omega
 ·rw[List.length_append];rfl
theorem QV (F:Fun K "_law_sentence" "_law_sentence" Iy f fd) (B:Bl mg):FnOk P w K mg bz AG 1 f fd ["_law_n","_law_most","_law_many"] LA:=by
 refine F.ok scSent (fun vs H Q E h=>?_) (fun cdv A outer s H vs Q E hr h=>?_)
 ·obtain⟨n,most,many,rfl,_⟩:=h
  rfl
 obtain⟨n,most,many,rfl,h0,hm1,hm2,hy1,hy2,q⟩:=h
 refine⟨_,Ac (Az (i:=3) scSent.nd rfl (Or.inl rfl) (AK (Aa Aw (Aa Aw (Aa Aw (Aa Aw Ab))))))
  (Ac (Az (i:=4) scSent.nd rfl (Or.inl rfl) (AK Ab))
  (Ac (Az (i:=5) scSent.nd rfl (Or.inl rfl) (AD Ch Ag (AD A6 (pv 0) (pv 1))))
  (Ac (Az (i:=0) scSent.nd rfl (Or.inl rfl) (AD Br (pv 0) (pv 1)))
  (Ac (BR PassesOwn.never rfl (FY (by rfl) B.range (Aa (pv 5) Ab)) (AE (i:=6) scSent.nd rfl (Or.inl rfl))
   (Ac (Az (i:=7) scSent.nd rfl (Or.inl rfl) (AD A6 (pv 0) Ag))
   (Ac (Az (i:=0) scSent.nd rfl (Or.inl rfl) (AD Br (pv 0) Ag))
   (Ad (AB (Jt (Ak AN (pv 7) Ag (Ar _)) (Gz (Ak (Js hr.units0) (pv 4) (AK Ab) (Ar _)))).pt
    (Ad (AU (BO PySem.F.plainAttrs_list PySem.F.slot_list_append PySem.F.type_list_append AZ (pv 4) (Aa (Bb (Aa Aw (Aa (Cj PySem.F.plainAttrs_list PySem.F.slot_list_pop PySem.F.type_list_pop Cw (pv 4)) Ab))) Ab))))
    (Ad (AB (Jt (Ak Et (pv 7) Ag (Ar _)) (Gz (Ak Et (Av Au (by rfl) B.len PySem.boot_len (Aa (pv 4) Ab)) Ag (Ar _)))).pt
     (Ac (Az (i:=8) scSent.nd rfl (Or.inl rfl) (Cj PySem.F.plainAttrs_list PySem.F.slot_list_pop PySem.F.type_list_pop Cw (pv 4)))
     (Ad (AU (BO PySem.F.plainAttrs_list PySem.F.slot_list_append PySem.F.type_list_append AZ (pv 4) (Aa (Bb (Aa (AC AT (pv 3) (AD Ez (pv 7) Ag) (fun _ _=>rfl)) (Aa (Cj PySem.F.plainAttrs_list PySem.F.slot_list_pop PySem.F.type_list_pop Cw (pv 4)) (Aa (pv 8) Ab)))) Ab)))))
     (Ad (AU (BO PySem.F.plainAttrs_list PySem.F.slot_list_append PySem.F.type_list_append AZ (pv 4) (Aa (Bb (Aa Aw (Aa (AD A6 (pv 7) (pv 2)) Ab))) Ab)))))))))))
  (Ac (Ff PassesOwn.never (Ak Et (Av Au (by rfl) B.len PySem.boot_len (Aa (pv 4) Ab)) Ag (Ar _))
   (Ac (Az (i:=8) scSent.nd rfl (Or.inl rfl) (Cj PySem.F.plainAttrs_list PySem.F.slot_list_pop PySem.F.type_list_pop Cw (pv 4)))
   (Ac (AU (BO PySem.F.plainAttrs_list PySem.F.slot_list_append PySem.F.type_list_append AZ (pv 4) (Aa (Bb (Aa (AC AT (pv 3) (AD A6 (pv 0) Ag) (fun _ _=>rfl)) (Aa (Cj PySem.F.plainAttrs_list PySem.F.slot_list_pop PySem.F.type_list_pop Cw (pv 4)) (Aa (pv 8) Ab)))) Ab)))
   (Ad (Az (i:=0) scSent.nd rfl (Or.inl rfl) (AD Br (pv 0) Ag))))))
  (Ad (Ai (AC AT (pv 4) Ag (fun _ _=>rfl))))))))),?_⟩
 refine⟨U6,fun jl hjl=>⟨Jx,fun pl hpl=>?_⟩⟩
 have sJ:Same H (upd H jl (.lst joints)):=Af hjl _
 have nJ:jl≠pl:=Am (upd_same (H:=H) (a:=jl) (o:=.lst joints)) hpl
 refine⟨_,rfl,_,rfl,_,_,rfl,rfl,(by omega),_,_,rfl,rfl,_,rfl,_,rfl,_,_,rfl,rfl,⟨by omega,by omega⟩,?_⟩
 have hsz0:=Int.emod_nonneg n (show (most:Int)≠0 by omega)
 have hsz1:=Int.emod_lt_of_pos n (show (0:Int)<most by omega)
 have hn0:0≤n / (most:Int):=Int.ediv_nonneg h0 (by omega)
 have hs1:1≤1+n%(most:Int):=by omega
 have hs2:1+n%(most:Int)≤most:=by omega
 refine⟨_,rfl,_,rfl,(by omega),(by omega),Cc (n:=(1+n%(most:Int)).toNat) (Rs (upd H jl (.lst joints)) jl pl most many (1+n%(most:Int))) ?_ ?_ ?_⟩
 ·exact⟨_,none,none,none,[],[],rfl,hn0,⟨Af hpl _,upd_same,.nil,fun t ht=>absurd ht (by simp)⟩,Nat.le_refl _,Nat.le_refl _,fun z=>z⟩
 ·rintro i σ H2 hi ⟨m,tv,dv,rv,xs,ts,rfl,hm,p,z1,z2,z3⟩
  have hlen:=p.len
  have hi':i<12:=by omega
  have hm2:0≤m / 10:=by omega
  have hd0:0≤m%10:=by omega
  have hd1:m%10<10:=by omega
  have lt12:∀{k:Nat},k≤12→k<sizeLine:=fun h=>AF (Nat.le_trans h (by decide))
  refine⟨_,rfl,_,_,rfl,rfl,(by show (0:Int)<10;decide),_,rfl,_,_,rfl,rfl,⟨by decide,by decide⟩,?_⟩
  refine⟨_,rfl,rfl,_,rfl,?_⟩
  refine B7 (fun c1=>?_) (fun c1=>?_)
  ·refine⟨_,rfl,Jx,fun e he=>?_⟩
   have p3:PileAt (upd H jl (.lst joints)) (upd H2 e (.lst [])) pl xs ts many:=p.new he
   refine⟨pl,e,xs,rfl,rfl,SqL.of p3.at',SqL.of upd_same,_,rfl,?_⟩
   refine B7 (fun c2=>?_) (fun c2=>?_)
   ·have hpos:0<ts.length:=by
     cases xs with
     | nil=>exact absurd c2 (by decide)
     | cons x r=>rw[←hlen];exact Nat.succ_pos _
    obtain⟨y,ts',t,ey,rfl,okt,ha,p4⟩:=p3.pop hpl hpos
    have hl4:=p4.len
    rw[List.length_append] at z2
    have z2':ts'.length+1≤i:=z2
    refine⟨_,rfl,.inl ⟨rfl,_,SqL.of p3.at'⟩,_,rfl,.inl ⟨rfl,_,SqL.of p3.at'⟩,pl,_,y,rfl,rfl,p3.at',ey,Fl,fun c hc=>⟨pl,_,_,rfl,rfl,(Af hc _) _ _ p4.at',lt12 (by omega),?_⟩⟩
    exact Ot hpl p4 hc hm2 okt ha z1 (by rw[List.length_append];exact z2)
   ·
    refine⟨_,rfl,_,_,rfl,rfl,_,rfl,?_⟩
    refine B7 (fun c3=>?_) (fun c3=>?_)
    ·refine⟨_,rfl,pl,xs,rfl,.inl (SqL.of p3.at'),_,_,rfl,rfl,_,rfl,?_⟩
     refine B7 (fun c4=>?_) (fun c4=>?_)
     ·exfalso
      have:xs=[]:=by
       cases xs with
       | nil=>rfl
       | cons x r=>exact absurd rfl c2
      subst this
      exact absurd c4 (by decide)
     ·refine⟨_,rfl,.inl ⟨rfl,_,SqL.of p3.at'⟩,_,rfl,_,rfl,_,_,rfl,rfl,(by omega),Fl,fun c hc=>⟨pl,_,_,rfl,rfl,(Af hc _) _ _ p3.at',lt12 (by omega),?_⟩⟩
      exact ER hpl p3 hc hy1 hm2 z1 z2
    ·refine A8 ?_
     refine⟨_,rfl,.inl ⟨rfl,_,SqL.of p3.at'⟩,_,rfl,_,rfl,_,_,rfl,rfl,(by omega),Fl,fun c hc=>⟨pl,_,_,rfl,rfl,(Af hc _) _ _ p3.at',lt12 (by omega),?_⟩⟩
     exact ER hpl p3 hc hy1 hm2 z1 z2
  ·refine A8 ?_
   refine⟨_,rfl,_,_,rfl,rfl,_,rfl,?_⟩
   refine B7 (fun c3=>?_) (fun c3=>?_)
   ·have c3':(5:Int)<m%10:=of_decide_eq_true c3
    refine⟨_,rfl,pl,xs,rfl,.inl (SqL.of p.at'),_,_,rfl,rfl,_,rfl,?_⟩
    refine B7 (fun c4=>?_) (fun c4=>?_)
    ·have c4':(1:Int)<(xs.length:Nat):=of_decide_eq_true c4
     obtain⟨y,ts',t,ey,rfl,okt,ha,p4⟩:=p.pop hpl (by omega)
     rw[List.length_append] at hlen
     have hlen':xs.length=ts'.length+1:=hlen
     obtain⟨x,ts2,u,ex,rfl,oku,hax,p5⟩:=p4.pop hpl (by omega)
     have hl5:=p5.len
     rw[List.length_append,List.length_append] at z2
     have z2':ts2.length+1+1≤i:=z2
     refine⟨_,rfl,.inl ⟨rfl,_,SqL.of p.at'⟩,pl,_,y,rfl,rfl,p.at',ey,?_⟩
     refine⟨_,rfl,.inl ⟨rfl,_,SqL.of p4.at'⟩,_,rfl,_,rfl,_,_,rfl,rfl,jl,joints,_,_,rfl,rfl,SqL.of (p4.sm _ _ upd_same),KH (by omega) (by omega),_,rfl,.inl ⟨rfl,_,SqL.of p4.at'⟩,pl,_,x,rfl,rfl,p4.at',ex,_,rfl,M9,fun c hc=>⟨pl,_,_,rfl,rfl,(Af hc _) _ _ p5.at',lt12 (by omega),?_⟩⟩
     exact Rt hpl p5 hc hm2 (by omega) (by omega) okt oku (ha.keep (TS.lst p4.at')) hax z1 (by rw[List.length_append,List.length_append];exact z2)
    ·refine⟨_,rfl,.inl ⟨rfl,_,SqL.of p.at'⟩,_,rfl,_,rfl,_,_,rfl,rfl,(by omega),Fl,fun c hc=>⟨pl,_,_,rfl,rfl,(Af hc _) _ _ p.at',lt12 (by omega),?_⟩⟩
     exact ER hpl p hc hy1 hm2 z1 z2
   ·refine A8 ?_
    refine⟨_,rfl,.inl ⟨rfl,_,SqL.of p.at'⟩,_,rfl,_,rfl,_,_,rfl,rfl,(by omega),Fl,fun c hc=>⟨pl,_,_,rfl,rfl,(Af hc _) _ _ p.at',lt12 (by omega),?_⟩⟩
    exact ER hpl p hc hy1 hm2 z1 z2
 ·rintro σ H2 ⟨m,tv,dv,rv,xs,ts,rfl,hm,p,z1,z2,z3⟩
  have z3':=z3 (by omega)
  refine⟨Sr (upd H jl (.lst joints)) jl pl most many (1+n%(most:Int)),⟨ts.length,m,tv,dv,rv,xs,ts,rfl,hm,p,by omega,rfl,z3'⟩,?_⟩
  rintro k σ H3 ⟨m,tv,dv,rv,xs,ts,rfl,hm,p,z1,z2,z3⟩
  have hlen:=p.len
  have hm2:0≤m / 4:=by omega
  have lt12:∀{k:Nat},k≤24→k<sizeLine:=fun h=>AF (Nat.le_trans h (by decide))
  refine⟨_,rfl,pl,xs,rfl,.inl (SqL.of p.at'),_,_,rfl,rfl,_,rfl,?_⟩
  refine B7 (fun c4=>?_) (fun c4=>?_)
  ·have c4':(1:Int)<(xs.length:Nat):=of_decide_eq_true c4
   refine⟨fun σ' H'=>∃k',k'<k∧Sr (upd H jl (.lst joints)) jl pl most many (1+n%(most:Int)) k' σ' H',fun _ _ h=>h,?_⟩
   obtain⟨y,ts',t,ey,rfl,okt,ha,p4⟩:=p.pop hpl (by omega)
   rw[List.length_append] at hlen
   have hlen':xs.length=ts'.length+1:=hlen
   obtain⟨x,ts2,u,ex,rfl,oku,hax,p5⟩:=p4.pop hpl (by omega)
   have hl5:=p5.len
   have z2':ts2.length+1+1=k:=by
    rw[List.length_append,List.length_append] at z2
    exact z2
   refine⟨_,rfl,.inl ⟨rfl,_,SqL.of p.at'⟩,pl,_,y,rfl,rfl,p.at',ey,?_⟩
   refine⟨_,rfl,.inl ⟨rfl,_,SqL.of p4.at'⟩,_,rfl,_,rfl,_,_,rfl,rfl,(by show (0:Int)<4;decide),jl,joints,_,_,rfl,rfl,SqL.of (p4.sm _ _ upd_same),KH (by omega) (by omega),_,rfl,.inl ⟨rfl,_,SqL.of p4.at'⟩,pl,_,x,rfl,rfl,p4.at',ex,_,rfl,M9,fun c hc=>⟨pl,_,_,rfl,rfl,(Af hc _) _ _ p5.at',lt12 (by omega),?_⟩⟩
   refine⟨_,rfl,_,_,rfl,rfl,⟨by decide,by decide⟩,?_⟩
   exact Sg hpl p5 hc hm2 (by omega) (by omega) okt oku (ha.keep (TS.lst p4.at')) hax z1 z2
  ·have c4':¬(1:Int)<(xs.length:Nat):=of_decide_eq_false (Bool.eq_false_iff.mpr c4)
   obtain⟨xs',y,ts',t,rfl,rfl,q1,a⟩:=p.pile.last (by omega)
   rw[List.length_append] at c4'
   have e0:xs'=[]:=by
    have c5:¬(1:Int)<((xs'.length+1:Nat):Int):=c4'
    exact List.length_eq_zero_iff.mp (by omega)
   subst e0
   cases q1
   refine⟨_,rfl,pl,_,_,y,rfl,rfl,SqL.of p.at',Aj (j:=0) rfl,?_⟩
   exact q y t _ (sJ.trans p.sm) a (p.ok t (by simp)) (U3 z1)
end
theorem KN:joints.all Es=true:=rfl
theorem EQ {j:Nat}:¬(V.str (jn j)=V.str "let"):=by
 match j with
 | 0=>decide
 | 1=>decide
 | 2=>decide
 | _+3=>show ¬(V.str "same"=V.str "let");decide
theorem Jp {j:Nat}:¬(V.str (jn j)=V.str "not"):=by
 match j with
 | 0=>decide
 | 1=>decide
 | 2=>decide
 | _+3=>show ¬(V.str "same"=V.str "not");decide
theorem Bc {c A B:Prop} [Decidable c] (h:c) (a:A):if decide c=true then A else B:=by
 rw[decide_eq_true h,if_pos rfl]
 exact a
theorem A0 {c A B:Prop} [Decidable c] (h:¬c) (b:B):if decide c=true then A else B:=by
 rw[decide_eq_false h,if_neg Bool.false_ne_true]
 exact b
structure AM (K:PySem.W.Frag) (mg:Str→Option Value) (x:Str) (f:Addr) (fd:FuncData) (ps:List Str):Prop where
 m:mg x=some (.ref f)
 k:keepIn K (.ref f)=true
 b:Binds K fd ps []
def EE:Tr→List Tr
 | .lt _=>[]
 | .nt t=>[t]
 | .bn _ a b=>[a,b]
def BW (ts:List Tr):List Tr:=ts.flatMap EE
theorem J1 (a b:List Tr):BW (a++b)=BW a++BW b:=by
 unfold BW
 rw[List.flatMap_append]
theorem Kk (t:Tr):BW [t]=EE t:=by
 unfold BW
 simp
theorem FP {ts:List Tr} {i:Nat} {t:Tr} (h:ts[i]? = some t):BW (ts.take (i+1))=BW (ts.take i)++EE t:=by
 rw[List.take_add_one,h,J1]
 congr 1
 exact Kk t
theorem JQ (a b:List Tr):sz (a++b)=sz a+sz b:=by
 unfold sz
 rw[List.map_append,List.sum_append]
theorem Lb:∀t:Tr,sz (EE t)+1=t.size
 | .lt _=>rfl
 | .nt t=>by
  have:sz [t]=t.size:=by unfold sz;simp
  show sz [t]+1=t.size+1
  rw[this]
 | .bn _ a b=>by
  have:sz [a,b]=a.size+b.size:=by unfold sz;simp
  show sz [a,b]+1=a.size+b.size+1
  rw[this]
theorem JC (t:Tr) (r:List Tr):sz (t::r)=t.size+sz r:=by
 unfold sz
 rw[List.map_cons,List.sum_cons]
theorem L5 (ts:List Tr):sz (BW ts)+ts.length=sz ts:=by
 induction ts with
 | nil=>rfl
 | cons t r ih=>
  have h:=Lb t
  rw[JC]
  show sz (EE t++BW r)+(r.length+1)=_
  rw[JQ]
  omega
theorem Ho (ts:List Tr):ts.length≤sz ts:=by
 induction ts with
 | nil=>exact Nat.le_refl _
 | cons t r ih=>
  have h:=t.size_pos
  rw[JC]
  show r.length+1≤_
  omega
theorem Kt {ts:List Tr} {i j:Nat} {t:Tr} (h:ts[i]? = some t):(BW (ts.take i)++(EE t).take j).length≤sz ts:=by
 have e1:ts=ts.take (i+1)++ts.drop (i+1):=(List.take_append_drop _ _).symm
 have h1:(BW (ts.take (i+1))).length≤(BW ts).length:=by
  have h2:(BW ts).length=(BW (ts.take (i+1))).length+(BW (ts.drop (i+1))).length:=by
   rw[←List.length_append,←J1,List.take_append_drop]
  omega
 have h3:=Ho (BW ts)
 have h4:=L5 ts
 rw[FP h,List.length_append] at h1
 rw[List.length_append,List.length_take]
 omega
theorem Og (z:V) (cs:List V):Ct (z::cs) (some 1) none=cs:=by
 unfold Ct
 have e1:HT.sIx (z::cs).length 0 (some 1)=1:=by
  have:=HT.sIx_nat (z::cs).length 0 1
  show HT.sIx (z::cs).length 0 (some ((1:Nat):Int))=1
  rw[this,List.length_cons]
  omega
 rw[e1,HT.sIx_none]
 show ((z::cs).drop 1).take (cs.length+1-1)=cs
 simp
theorem KB {z:V} {cs:List V}:¬(HT.sIx (z::cs).length 0 (some 1)=0∧HT.sIx (z::cs).length (z::cs).length none=(z::cs).length):=by
 rintro⟨h,_⟩
 have:=HT.sIx_nat (z::cs).length 0 1
 rw[show (some (1:Int))=some ((1:Nat):Int) from rfl,this,List.length_cons] at h
 omega
theorem P6 {c A B:Prop} [Decidable c] (hc:¬c) (h:A):if (!decide c)=true then A else B:=by
 rw[decide_eq_false hc]
 exact Bq h
def BN (k:Nat) (w:Int):Bool:=decide (w / 2^k%2=1)
def jv:Nat→Bool→Bool→Bool
 | 0,a,b=>a && b
 | 1,a,b=>a || b
 | 2,a,b=>!a || b
 | _,a,b=>decide (a=b)
def tv:Tr→Int→Bool
 | .lt k,w=>BN k w
 | .nt t,w=>!tv t w
 | .bn j a b,w=>jv j (tv a w) (tv b w)
def P4:List V:=[.int 1,.int 2,.int 4,.int 8,.int 16]
theorem Pf {k:Nat} (h:k<5):Ia P4 ((k:Nat):Int)=some (.int (2^k)):=by
 refine Aj ?_
 match k,h with
 | 0,_=>rfl
 | 1,_=>rfl
 | 2,_=>rfl
 | 3,_=>rfl
 | 4,_=>rfl
theorem pow_pos (k:Nat):(0:Int)<2^k:=Int.pow_pos (by decide)
theorem Ou {k:Nat} (h:k<5):(2:Int)^k<1073741824:=by
 match k,h with
 | 0,_=>decide
 | 1,_=>decide
 | 2,_=>decide
 | 3,_=>decide
 | 4,_=>decide
theorem Li (k:Nat) (w:Int):decide (V.int (w / 2^k%2)=V.int 1)=BN k w:=by
 unfold BN
 rw[Bool.eq_iff_iff,decide_eq_true_eq,decide_eq_true_eq]
 exact⟨fun h=>by injection h,fun h=>by rw[h]⟩
theorem OA (a b:Bool):decide (V.bl a=V.bl b)=decide (a=b):=by cases a<;>cases b<;>rfl
theorem UQ {j:Nat} (h:V.str (jn j)=V.str "and"):j=0:=by
 match j with
 | 0=>rfl
 | 1=>exact absurd h (by decide)
 | 2=>exact absurd h (by decide)
 | _+3=>exact absurd (show V.str "same"=V.str "and" from h) (by decide)
theorem UC {j:Nat} (h:V.str (jn j)=V.str "or"):j=1:=by
 match j with
 | 0=>exact absurd h (by decide)
 | 1=>rfl
 | 2=>exact absurd h (by decide)
 | _+3=>exact absurd (show V.str "same"=V.str "or" from h) (by decide)
theorem Um {j:Nat} (h:V.str (jn j)=V.str "if"):j=2:=by
 match j with
 | 0=>exact absurd h (by decide)
 | 1=>exact absurd h (by decide)
 | 2=>rfl
 | _+3=>exact absurd (show V.str "same"=V.str "if" from h) (by decide)
theorem Ux {j:Nat} (h0:¬V.str (jn j)=V.str "and") (h1:¬V.str (jn j)=V.str "or") (h2:¬V.str (jn j)=V.str "if") (a b:Bool):jv j a b=decide (a=b):=by
 match j with
 | 0=>exact absurd rfl h0
 | 1=>exact absurd rfl h1
 | 2=>exact absurd rfl h2
 | _+3=>rfl
structure Fc (mg:Str→Option Value):Prop where
 isi:mg "isinstance"=none
 int:mg "int"=none
 bool:mg "bool"=none
 str:mg "str"=none
 tup:mg "tuple"=none
 lst:mg "list"=none
 set:mg "set"=none
 sorted:mg "sorted"=none
 rng:mg "range"=none
 any:mg "any"=none
 all:mg "all"=none
theorem Ba:bootBuiltins "list"=some (.type "list"):=by decide +kernel
theorem DH:bootBuiltins "tuple"=some (.type "tuple"):=by decide +kernel
abbrev AJ (H:Hp) (p:Addr) (row:List Int):Prop:=H p=some (.lst (row.map V.int))
abbrev RowsAt (H:Hp):List V→List (List Int)→Prop:=Paired fun (v:V) (row:List Int)=>∃p,v= .ref p∧AJ H p row
theorem RowsAt.keep {H H':Hp} (s:Same H H'):∀{xs:List V} {rs:List (List Int)},RowsAt H xs rs→RowsAt H' xs rs
 | _,_,.nil=>.nil
 | _,_,.cons ⟨p,e,h⟩ q=>.cons ⟨p,e,s _ _ h⟩ (RowsAt.keep s q)
theorem RowsAt.get {H:Hp}:∀{xs:List V} {rs:List (List Int)} {i:Nat} {x:V},RowsAt H xs rs→xs[i]? = some x→∃row p,rs[i]? = some row∧x= .ref p∧AJ H p row
 | _,_,_,_,.nil,e=>by simp at e
 | _,_,0,_,.cons ⟨p,e1,h⟩ _,e=>by
  simp at e
  subst e
  exact⟨_,p,rfl,e1,h⟩
 | _,_,i+1,x,.cons _ q,e=>by
  obtain⟨row,p,h1,h2⟩:=RowsAt.get (i:=i) q (by simpa using e)
  exact⟨row,p,by simpa using h1,h2⟩
theorem RowsAt.len {H:Hp} {xs:List V} {rs:List (List Int)} (h:RowsAt H xs rs):xs.length=rs.length:=Paired.length h
abbrev C0:Stmt:=By 50
def OL:List V:=[.int 2,.int 4,.int 8,.int 16,.int 32]
theorem RL {m:Nat} (h1:1≤m) (h5:m≤5):Ia OL ((m:Int)-1)=some (.int ((2^m:Nat):Int)):=by
 match m,h1,h5 with
 | 1,_,_=>exact Aj (j:=0) rfl
 | 2,_,_=>exact Aj (j:=1) rfl
 | 3,_,_=>exact Aj (j:=2) rfl
 | 4,_,_=>exact Aj (j:=3) rfl
 | 5,_,_=>exact Aj (j:=4) rfl
theorem HQ {m:Nat} (h:m≤5):2^m≤32:=Nat.pow_le_pow_right (n:=2) (by decide) h
theorem DI (n:Nat):(B0 n).length=n:=by unfold B0;simp
theorem QD (n:Nat):(B0 n).Pairwise (· < ·):=by
 unfold B0
 rw[List.pairwise_map]
 exact List.pairwise_lt_range.imp fun h=>by omega
theorem mem_upto {n:Nat} {k:Int}:k∈B0 n↔0≤k∧k<n:=by
 unfold B0
 rw[List.mem_map]
 constructor
 ·rintro⟨a,ha,rfl⟩
  have:=List.mem_range.mp ha
  omega
 ·rintro⟨h0,h1⟩
  exact⟨k.toNat,List.mem_range.mpr (by omega),by omega⟩
def E2:Sp:=fun vs H Q _=>∃(m:Nat),vs=[.int (m:Int)]∧1≤m∧m≤5∧∀(l:Addr) (H':Hp),Same H H'→H l=none→AJ H' l (B0 (2^m))→Q (.ref l) H'
section
theorem MP:Aq ["_law_many"] ["_law_many"] (Ae C0):=Bx
theorem LU (F:Fun K "_law_worlds" "_law_worlds" C0 f fd) (T:Fc mg):FnOk P w K mg bz AG 1 f fd ["_law_many"] E2:=by
 refine F.ok MP (fun vs H Q E h=>?_) (fun cdv A outer s H vs Q E hr h=>?_)
 ·obtain⟨m,rfl,_⟩:=h
  rfl
 obtain⟨m,rfl,h1,h5,q⟩:=h
 refine⟨_,Ad (Ai (AQ (Hy rfl) (by rfl) T.lst Ba (Aa (AQ I8 (by rfl) T.rng boot_range (Aa (AC AT (AK (Aa Ag (Aa Ag (Aa Ag (Aa Ag (Aa Ag Ab)))))) (AD Ez (pv 0) Ag) (fun _ _=>rfl)) Ab)) Ab))),?_⟩
 refine⟨UM,fun l hl=>?_⟩
 have s1:=Af hl (.lst OL)
 refine⟨_,rfl,_,_,rfl,rfl,l,OL,_,_,rfl,rfl,SqL.of upd_same,RL h1 h5,_,rfl,fun r hr2=>?_⟩
 have s2:=Af hr2 (.rng 0 ((2^m:Nat):Int))
 refine⟨r,2^m,rfl,upd_same,Nat.le_trans (HQ h5) (by decide),fun l2 hl2=>?_⟩
 have s3:=Af hl2 (.lst ((B0 (2^m)).map V.int))
 exact q l2 _ (s1.trans (s2.trans s3)) ((s1.trans s2).free hl2) upd_same
end
abbrev DB:Stmt:=By 53
def EM (n:Nat):Sp:=fun vs H Q _=>∃(v:V) (t:Tr) (w:Int),vs=[v,.int w]∧t.At H v∧t.ok 5∧t.size≤n∧∀(H':Hp),Same H H'→Q (.bl (tv t w)) H'
section
theorem scLtrue:Aq ["_law_sentence_here","_law_world","_law_left_here","_law_right"] ["_law_sentence_here","_law_world"] (Ae DB):=Bx
theorem OO {n:Nat} (F:Fun K "_law_true" "_law_true" DB f fd) (G:FnOk P w K mg bz AG n f fd ["_law_sentence_here","_law_world"] (EM n)) (C:AM K mg "_law_true" f fd ["_law_sentence_here","_law_world"]):FnOk P w K mg bz AG (n+1) f fd ["_law_sentence_here","_law_world"] (EM (n+1)):=by
 refine F.ok scLtrue (fun vs H Q E h=>?_) (fun cdv A outer s H vs Q E hr h=>?_)
 ·obtain⟨v,t,k,rfl,_⟩:=h
  rfl
 obtain⟨v,t,k,rfl,ha,hok,hs,q⟩:=h
 refine⟨_,Ac (AB (Ak AN (AC AH (pv 0) Ag (fun _ _=>rfl)) Aw (Ar _))
   (Ad (Ai (Be AN (AD A6 (AD Br (pv 1) (AC AT (AK (Aa Ag (Aa Ag (Aa Ag (Aa Ag (Aa Ag Ab)))))) (AC AH (pv 0) Ag (fun _ _=>rfl)) (fun _ _=>rfl))) Ag) Ag (Ar _))))
   Al)
  (Ac (AB (Ak AN (AC AH (pv 0) Ag (fun _ _=>rfl)) Aw (Ar _))
   (Ad (Ai (DD (Ah G hr (by rfl) C.m C.k C.b .nil Ao (Aa (AC AH (pv 0) Ag (fun _ _=>rfl)) (Aa (pv 1) Ab))))))
   Al)
  (Ac (Az (i:=2) scLtrue.nd rfl (Or.inl rfl) (Ah G hr (by rfl) C.m C.k C.b .nil Ao (Aa (AC AH (pv 0) Ag (fun _ _=>rfl)) (Aa (pv 1) Ab))))
  (Ac (Az (i:=3) scLtrue.nd rfl (Or.inl rfl) (Ah G hr (by rfl) C.m C.k C.b .nil Ao (Aa (AC AH (pv 0) Ag (fun _ _=>rfl)) (Aa (pv 1) Ab))))
  (Ac (AB (Ak AN (AC AH (pv 0) Ag (fun _ _=>rfl)) Aw (Ar _))
   (Ad (Ai (BE (pv 2) (Bk (pv 3)))))
   Al)
  (Ac (AB (Ak AN (AC AH (pv 0) Ag (fun _ _=>rfl)) Aw (Ar _))
   (Ad (Ai (IH (pv 2) (Bk (pv 3)))))
   Al)
  (Ac (AB (Ak AN (AC AH (pv 0) Ag (fun _ _=>rfl)) Aw (Ar _))
   (Ad (Ai (IH (DD (pv 2)) (Bk (pv 3)))))
   Al)
  (Ad (Ai (Be AN (pv 2) (pv 3) (Ar _)))))))))),?_⟩
 cases t with
 | lt j=>
  obtain⟨p,rfl,hp⟩:=ha
  refine⟨_,rfl,p,_,_,_,rfl,rfl,SqT.of hp,Aj (j:=0) rfl,rfl,_,rfl,?_⟩
  refine Bc rfl ?_
  refine⟨_,rfl,UM,fun l hl=>?_⟩
  have s1:=Af hl (.lst P4)
  refine⟨_,rfl,p,_,_,_,rfl,rfl,SqT.of (s1 _ _ hp),Aj (j:=1) rfl,l,P4,_,_,rfl,rfl,SqL.of upd_same,Pf hok,_,_,rfl,rfl,⟨pow_pos j,Ou hok⟩,_,_,rfl,rfl,(by show (0:Int)<2;decide),rfl,?_⟩
  have:=q _ s1
  rw[show tv (.lt j) k=BN j k from rfl,←Li] at this
  exact this
 | nt t=>
  obtain⟨p,u,rfl,hp,hu⟩:=ha
  have hs':t.size+1≤n+1:=hs
  refine⟨_,rfl,p,_,_,_,rfl,rfl,SqT.of hp,Aj (j:=0) rfl,rfl,_,rfl,?_⟩
  refine A0 (by decide) ?_
  refine⟨_,rfl,p,_,_,_,rfl,rfl,SqT.of hp,Aj (j:=0) rfl,rfl,_,rfl,?_⟩
  refine Bc rfl ?_
  exact⟨_,rfl,p,_,_,_,rfl,rfl,SqT.of hp,Aj (j:=1) rfl,_,rfl,u,t,k,rfl,hu,hok,by omega,fun H' s'=>⟨_,rfl,q H' s'⟩⟩
 | bn j a b=>
  obtain⟨p,x,y,rfl,hp,hx,hy⟩:=ha
  have hs':a.size+b.size+1≤n+1:=hs
  obtain⟨hj,oa,ob⟩:=hok
  refine⟨_,rfl,p,_,_,_,rfl,rfl,SqT.of hp,Aj (j:=0) rfl,rfl,_,rfl,?_⟩
  refine A0 EQ ?_
  refine⟨_,rfl,p,_,_,_,rfl,rfl,SqT.of hp,Aj (j:=0) rfl,rfl,_,rfl,?_⟩
  refine A0 Jp ?_
  refine⟨_,rfl,p,_,_,_,rfl,rfl,SqT.of hp,Aj (j:=1) rfl,_,rfl,x,a,k,rfl,hx,oa,by omega,fun H1 s1=>?_⟩
  refine⟨_,rfl,p,_,_,_,rfl,rfl,SqT.of (s1 _ _ hp),Aj (j:=2) rfl,_,rfl,y,b,k,rfl,hy.keep (TS.same s1),ob,by omega,fun H2 s2=>?_⟩
  have hp2:=s2 _ _ (s1 _ _ hp)
  have q2:=q H2 (s1.trans s2)
  have etv:tv (.bn j a b) k=jv j (tv a k) (tv b k):=rfl
  rw[etv] at q2
  generalize tv a k=va at q2
  generalize tv b k=vb at q2
  refine⟨_,rfl,p,_,_,_,rfl,rfl,SqT.of hp2,Aj (j:=0) rfl,rfl,_,rfl,?_⟩
  by_cases h0:V.str (jn j)=V.str "and"
  ·refine Bc h0 ?_
   obtain rfl:=UQ h0
   cases va with
   | false=>exact⟨_,rfl,_,rfl,A8 q2⟩
   | true=>exact⟨_,rfl,_,rfl,Bq ⟨_,rfl,q2⟩⟩
  refine A0 h0 ?_
  refine⟨_,rfl,p,_,_,_,rfl,rfl,SqT.of hp2,Aj (j:=0) rfl,rfl,_,rfl,?_⟩
  by_cases h1:V.str (jn j)=V.str "or"
  ·refine Bc h1 ?_
   obtain rfl:=UC h1
   cases va with
   | false=>exact⟨_,rfl,_,rfl,A8 ⟨_,rfl,q2⟩⟩
   | true=>exact⟨_,rfl,_,rfl,Bq q2⟩
  refine A0 h1 ?_
  refine⟨_,rfl,p,_,_,_,rfl,rfl,SqT.of hp2,Aj (j:=0) rfl,rfl,_,rfl,?_⟩
  by_cases h2:V.str (jn j)=V.str "if"
  ·refine Bc h2 ?_
   obtain rfl:=Um h2
   cases va with
   | false=>exact⟨_,rfl,_,rfl,_,rfl,Bq q2⟩
   | true=>exact⟨_,rfl,_,rfl,_,rfl,A8 ⟨_,rfl,q2⟩⟩
  refine A0 h2 ?_
  rw[Ux h0 h1 h2] at q2
  refine⟨_,rfl,_,rfl,rfl,?_⟩
  rw[OA]
  exact q2
theorem SQ:FnOk P w K mg bz AG 0 f fd ["_law_sentence_here","_law_world"] (EM 0):=by
 have no:∀vs H Q E,¬EM 0 vs H Q E:=fun vs H Q E h=>by
  obtain⟨v,t,k,_,_,_,h1,_⟩:=h
  have:=t.size_pos
  omega
 exact⟨fun vs H Q E h=>absurd h (no vs H Q E),fun A outer s H args us vs Q E _ _ _ _ h=>absurd h (no vs H Q E)⟩
theorem Ip (F:Fun K "_law_true" "_law_true" DB f fd) (C:AM K mg "_law_true" f fd ["_law_sentence_here","_law_world"]):∀n:Nat,FnOk P w K mg bz AG n f fd ["_law_sentence_here","_law_world"] (EM n)
 | 0=>SQ
 | n+1=>OO F (Ip F C n) C
end
abbrev HR:Stmt:=By 54
def Kl (K:PySem.W.Frag) (b:Bool):Sp:=fun vs H Q _=>∃(v:V) (t:Tr) (r:Addr) (row:List Int),vs=[v,.ref r]∧t.At H v∧t.ok 5∧t.size≤60∧SqL K H r (row.map V.int)∧row.length≤900∧∀(l:Addr) (H':Hp),Same H H'→H l=none→AJ H' l (row.filter fun k=>tv t k == b)→Q (.ref l) H'
section
theorem Ps:Aq ["_law_sentence_here","_law_row"] ["_law_sentence_here","_law_row"] (Ae HR):=Bx
theorem RB {g:Addr} {gd:FuncData} (F:Fun K "_law_ins" "_law_ins" HR f fd) (GT:FnOk P w K mg bz AG 60 g gd ["_law_sentence_here","_law_world"] (EM 60)) (CT:AM K mg "_law_true" g gd ["_law_sentence_here","_law_world"]):FnOk P w K mg bz AG 61 f fd ["_law_sentence_here","_law_row"] (Kl K true):=by
 refine F.ok Ps (fun vs H Q E h=>?_) (fun cdv A outer s H vs Q E hr h=>?_)
 ·obtain⟨v,t,r,row,rfl,_⟩:=h
  rfl
 obtain⟨v,t,r,row,rfl,ha,hok,hs,hS,hl,q⟩:=h
 refine⟨_,Ad (Ai (Bm (N:=["_law_world","_law_sentence_here"]) (js:=[none,some 0]) (cl:=[("_law_sentence_here",s.heap.objs.size+1)]) ⟨rfl,rfl,rfl,(by intro p hp;simp at hp;rcases hp with rfl<;>rfl),rfl,rfl,rfl⟩ (AW (pv 1)) (fun c1=>(AE (i:=0) (show (["_law_world","_law_sentence_here"]:List Str).Nodup by decide +kernel) rfl (Or.inl rfl))) (fun c1=>(BV (A1 (Ah GT hr (by rfl) CT.m CT.k CT.b .nil Ao (Aa (pv 1) (Aa (pv 0) Ab)))))) (fun c1=>(pv 0)))),?_⟩
 refine⟨_,rfl,r,rfl,⟨_,hS⟩,fun cc acc hacc=>Bw (p:=fun k=>tv t k == true) (rest:=[some v]) hS hacc hl (fun k hk H2 s2 R hR=>?_) (fun v0 H2 s2 h2=>q acc H2 s2 hacc h2) none⟩
 refine⟨_,rfl,_,rfl,v,t,k,rfl,ha.keep (TS.same s2),hok,hs,fun H3 s3=>⟨_,rfl,?_⟩⟩
 have:=hR H3 s3
 rw[show (tv t k == true)=tv t k by cases tv t k<;>rfl] at this
 exact this
end
abbrev EI:Stmt:=By 59
section
theorem Me:Aq ["_law_sentence_here","_law_row"] ["_law_sentence_here","_law_row"] (Ae EI):=Bx
theorem OH {g:Addr} {gd:FuncData} (F:Fun K "_law_outs" "_law_outs" EI f fd) (GT:FnOk P w K mg bz AG 60 g gd ["_law_sentence_here","_law_world"] (EM 60)) (CT:AM K mg "_law_true" g gd ["_law_sentence_here","_law_world"]):FnOk P w K mg bz AG 61 f fd ["_law_sentence_here","_law_row"] (Kl K false):=by
 refine F.ok Me (fun vs H Q E h=>?_) (fun cdv A outer s H vs Q E hr h=>?_)
 ·obtain⟨v,t,r,row,rfl,_⟩:=h
  rfl
 obtain⟨v,t,r,row,rfl,ha,hok,hs,hS,hl,q⟩:=h
 refine⟨_,Ad (Ai (Bm (N:=["_law_world","_law_sentence_here"]) (js:=[none,some 0]) (cl:=[("_law_sentence_here",s.heap.objs.size+1)]) ⟨rfl,rfl,rfl,(by intro p hp;simp at hp;rcases hp with rfl<;>rfl),rfl,rfl,rfl⟩ (AW (pv 1)) (fun c1=>(AE (i:=0) (show (["_law_world","_law_sentence_here"]:List Str).Nodup by decide +kernel) rfl (Or.inl rfl))) (fun c1=>(BV (Bs (A1 (Ah GT hr (by rfl) CT.m CT.k CT.b .nil Ao (Aa (pv 1) (Aa (pv 0) Ab))))))) (fun c1=>(pv 0)))),?_⟩
 refine⟨_,rfl,r,rfl,⟨_,hS⟩,fun cc acc hacc=>Bw (p:=fun k=>tv t k == false) (rest:=[some v]) hS hacc hl (fun k hk H2 s2 R hR=>?_) (fun v0 H2 s2 h2=>q acc H2 s2 hacc h2) none⟩
 refine⟨_,rfl,_,rfl,v,t,k,rfl,ha.keep (TS.same s2),hok,hs,fun H3 s3=>⟨_,rfl,?_⟩⟩
 have:=hR H3 s3
 rw[show (tv t k == false) = !tv t k by cases tv t k<;>rfl] at this
 exact this
end
abbrev Fm:Stmt:=By 48
def Pb (K:PySem.W.Frag):Sp:=fun vs H Q _=>∃(n:Int) (r:Addr) (row:List Int),vs=[.int n,.ref r]∧SqL K H r (row.map V.int)∧row.length≤900∧∀(l:Addr) (row':List Int) (H':Hp),Same H H'→H l=none→AJ H' l row'→row'.Sublist row→Q (.ref l) H'
section
theorem scLsome:Aq ["_law_n","_law_row","_law_found","_law_one"] ["_law_n","_law_row"] (Ae Fm):=Bx
theorem PK (F:Fun K "_law_some" "_law_some" Fm f fd):FnOk P w K mg bz AG 1 f fd ["_law_n","_law_row"] (Pb K):=by
 refine F.ok scLsome (fun vs H Q E h=>?_) (fun cdv A outer s H vs Q E hr h=>?_)
 ·obtain⟨n,r,row,rfl,_⟩:=h
  rfl
 obtain⟨n,r,row,rfl,hS,hl,q⟩:=h
 refine⟨_,Ac (Az (i:=2) scLsome.nd rfl (Or.inl rfl) (AK Ab))
  (Ac (BR PassesOwn.never rfl (AW (pv 1)) (AE (i:=3) scLsome.nd rfl (Or.inl rfl))
   (Ac (AB (Ak AN (AD A6 (pv 0) Ag) Ag (Ar _))
    (Ad (AU (BO PySem.F.plainAttrs_list PySem.F.slot_list_append PySem.F.type_list_append AZ (pv 2) (Aa (pv 3) Ab))))
    Al)
   (Ad (Az (i:=0) scLsome.nd rfl (Or.inl rfl) (AD Br (pv 0) Ag)))))
  (Ad (Ai (pv 2)))),?_⟩
 refine⟨Jx,fun l hlf=>?_⟩
 have s1:=Af hlf (.lst [])
 refine⟨_,rfl,r,rfl,⟨_,s1.seq hS⟩,A4 (K:=K) (a:=r) (xs:=row.map V.int) (fun i σ H2=>∃(m:Int) (ov:Option V) (row':List Int),σ=[some (.int m),some (.ref r),some (.ref l),ov]∧Same H H2∧AJ H2 l row'∧row'.Sublist (row.take i)) ⟨_,_,[],rfl,s1,upd_same,List.Sublist.refl _⟩ ?_ ?_ ?_⟩
 ·rintro i σ H2 _ ⟨m,ov,row',rfl,s2,_,_⟩
  exact s2.seq hS
 ·rintro i x σ H2 hx ⟨m,ov,row',rfl,s2,hl2,hsub⟩
  rw[List.getElem?_map] at hx
  obtain⟨k,hk,rfl⟩:=Option.map_eq_some_iff.mp hx
  have et:row.take (i+1)=row.take i++[k]:=by rw[List.take_add_one,hk];rfl
  refine⟨_,rfl,_,_,rfl,rfl,(by show (0:Int)<2;decide),rfl,_,rfl,?_⟩
  refine B7 (fun _=>?_) (fun _=>?_)
  ·refine⟨_,rfl,.inl ⟨rfl,_,SqL.of hl2⟩,_,rfl,l,_,_,rfl,rfl,hl2,AF ?_,?_⟩
   ·rw[List.length_map]
    have:=hsub.length_le
    rw[List.length_take] at this
    omega
   refine⟨_,rfl,_,_,rfl,rfl,⟨by decide,by decide⟩,?_⟩
   refine⟨_,_,row'++[k],rfl,AI s2 hlf _,?_,?_⟩
   ·show _=some (HO.lst ((row'++[k]).map V.int))
    rw[upd_same,List.map_append]
    rfl
   ·rw[et]
    exact hsub.append (List.Sublist.refl _)
  ·refine⟨_,rfl,_,_,rfl,rfl,⟨by decide,by decide⟩,?_⟩
   refine⟨_,_,row',rfl,s2,hl2,?_⟩
   rw[et]
   exact hsub.trans (List.sublist_append_left _ _)
 ·rintro σ H2 ⟨m,ov,row',rfl,s2,hl2,hsub⟩
  rw[List.length_map,List.take_length] at hsub
  exact⟨_,rfl,q l row' H2 s2 hlf hl2 hsub⟩
end
abbrev Ca:Stmt:=By 49
def Cz (K:PySem.W.Frag):Sp:=fun vs H Q _=>∃(n:Int) (r:Addr) (row:List Int),vs=[.int n,.ref r]∧SqL K H r (row.map V.int)∧row.length≤900∧row≠[]∧∀(l:Addr) (row':List Int) (H':Hp),Same H H'→H l=none→AJ H' l row'→row'.Sublist row→row'≠[]→Q (.ref l) H'
theorem Qe {row:List Int} {n:Int} (h:row≠[]):∃k,Ia (row.map V.int) (n%((row.map V.int).length:Int))=some (.int k)∧k∈row:=by
 have hp:0<row.length:=List.length_pos_iff.mpr h
 rw[List.length_map]
 have h1:=Int.emod_nonneg n (show (row.length:Int)≠0 by omega)
 have h2:=Int.emod_lt_of_pos n (show (0:Int)<row.length by omega)
 obtain⟨i,ei⟩:=Int.eq_ofNat_of_zero_le h1
 have hi:i<row.length:=by omega
 rw[ei]
 refine⟨row[i],Aj ?_,List.getElem_mem hi⟩
 rw[List.getElem?_map,List.getElem?_eq_getElem hi]
 rfl
section
theorem scLsomeone:Aq ["_law_n","_law_row","_law_found"] ["_law_n","_law_row"] (Ae Ca):=Bx
theorem J3 {g:Addr} {gd:FuncData} (F:Fun K "_law_some_one" "_law_some_one" Ca f fd) (B:Bl mg) (G:FnOk P w K mg bz AG 1 g gd ["_law_n","_law_row"] (Pb K)) (C:AM K mg "_law_some" g gd ["_law_n","_law_row"]):FnOk P w K mg bz AG 2 f fd ["_law_n","_law_row"] (Cz K):=by
 refine F.ok scLsomeone (fun vs H Q E h=>?_) (fun cdv A outer s H vs Q E hr h=>?_)
 ·obtain⟨n,r,row,rfl,_⟩:=h
  rfl
 obtain⟨n,r,row,rfl,hS,hl,hne,q⟩:=h
 refine⟨_,Ac (Az (i:=2) scLsomeone.nd rfl (Or.inl rfl) (Ah G hr (by rfl) C.m C.k C.b .nil Ao (Aa (pv 0) (Aa (pv 1) Ab))))
  (Ac (AB (Ak (K4 hr.units0) (pv 2) (AK Ab) (Ar _))
   (Ad (Ai (AK (Aa (AC AT (pv 1) (AD A6 (AD Br (pv 0) Ag) (Av Au (by rfl) B.len PySem.boot_len (Aa (pv 1) Ab))) (fun _ _=>rfl)) Ab))))
   Al)
  (Ad (Ai (pv 2)))),?_⟩
 refine⟨_,rfl,_,rfl,n,r,row,rfl,hS,hl,fun l row' H1 s1 hl1 hr1 hsub=>?_⟩
 refine⟨_,rfl,Jx,fun e he=>?_⟩
 have s2:=Af he (.lst [])
 refine⟨l,e,_,rfl,rfl,SqL.of (s2 _ _ hr1),SqL.of upd_same,_,rfl,?_⟩
 have hp:0<row.length:=List.length_pos_iff.mpr hne
 cases hrow:row' with
 | nil=>
  refine Tp rfl ?_
  have hS2:=(s1.trans s2).seq hS
  obtain⟨k,hk,hm⟩:=Qe (n:=n / 64) hne
  refine⟨_,rfl,_,rfl,_,_,rfl,rfl,⟨by decide,by decide⟩,_,rfl,r,_,rfl,.inl hS2,_,_,rfl,rfl,(by show (0:Int)<(((row.map V.int).length:Nat):Int);rw[List.length_map];omega),r,_,_,_,rfl,rfl,hS2,hk,M7,fun d hd=>?_⟩
  have s3:=Af hd (.lst [.int k])
  exact q d [k] _ (s1.trans (s2.trans s3)) ((s1.trans s2).free hd) upd_same (List.singleton_sublist.mpr hm) (by simp)
 | cons k rest=>
  refine TH rfl ?_
  exact⟨_,rfl,q l row' _ (s1.trans s2) hl1 (s2 _ _ hr1) hsub (by rw[hrow];simp)⟩
end
abbrev Fy:Stmt:=By 51
def Pz:Sp:=fun vs H Q _=>∃(n:Int) (m:Nat),vs=[.int n,.int (m:Int)]∧1≤m∧m≤5∧∀(l:Addr) (row:List Int) (H':Hp),Same H H'→H l=none→AJ H' l row→row.Sublist (B0 (2^m))→row≠[]→Q (.ref l) H'
section
theorem QB:Aq ["_law_n","_law_many"] ["_law_n","_law_many"] (Ae Fy):=Bx
theorem Mu {m:Nat}:B0 (2^m)≠[]:=fun h=>by
 have:=DI (2^m)
 rw[h] at this
 have h2:0<2^m:=Nat.pow_pos (by decide)
 have h3:([]:List Int).length=0:=rfl
 omega
theorem Pi {g e:Addr} {gd ed:FuncData} (F:Fun K "_law_room" "_law_room" Fy f fd) (GW:FnOk P w K mg bz AG 1 g gd ["_law_many"] E2) (CW:AM K mg "_law_worlds" g gd ["_law_many"]) (GO:FnOk P w K mg bz AG 2 e ed ["_law_n","_law_row"] (Cz K)) (CO:AM K mg "_law_some_one" e ed ["_law_n","_law_row"]):FnOk P w K mg bz AG 3 f fd ["_law_n","_law_many"] Pz:=by
 refine F.ok QB (fun vs H Q E h=>?_) (fun cdv A outer s H vs Q E hr h=>?_)
 ·obtain⟨n,m,rfl,_⟩:=h
  rfl
 obtain⟨n,m,rfl,h1,h5,q⟩:=h
 have hr1:Room 1 _:=hr.mono (by decide)
 refine⟨_,Ac (AB (Ak AN (AD A6 (pv 0) Ag) Ag (Ar _))
   (Ad (Ai (Ah GW hr1 (by rfl) CW.m CW.k CW.b .nil Ao (Aa (pv 1) Ab))))
   Al)
  (Ad (Ai (Ah GO hr (by rfl) CO.m CO.k CO.b .nil Ao (Aa (AD Br (pv 0) Ag) (Aa (Ah GW hr1 (by rfl) CW.m CW.k CW.b .nil Ao (Aa (pv 1) Ab)) Ab))))),?_⟩
 have h32:=HQ h5
 refine⟨_,rfl,_,_,rfl,rfl,(by show (0:Int)<3;decide),rfl,_,rfl,?_⟩
 refine B7 (fun _=>?_) (fun _=>?_)
 ·exact⟨_,rfl,m,rfl,h1,h5,fun l H' s' hl hr'=>q l _ H' s' hl hr' (List.Sublist.refl _) Mu⟩
 ·refine⟨_,rfl,_,_,rfl,rfl,⟨by decide,by decide⟩,_,rfl,m,rfl,h1,h5,fun l H1 s1 hl hr1=>?_⟩
  exact⟨_,l,_,rfl,SqL.of hr1,by rw[DI];omega,Mu,fun l2 row' H2 s2 hl2 hr2 hsub hne=>q l2 row' H2 (s1.trans s2) (s1.free hl2) hr2 hsub hne⟩
end
abbrev Fo:Stmt:=By 66
def EZ:Sp:=fun vs H Q _=>∃(n:Int),vs=[.int n]∧Q (.bl true) H
section
theorem Rk:Aq ["_law_found"] ["_law_found"] (Ae Fo):=Bx
theorem Pc (F:Fun K "_law_whole" "_law_whole" Fo f fd) (T:Fc mg):FnOk P w K mg bz AG 1 f fd ["_law_found"] EZ:=by
 refine F.ok Rk (fun vs H Q E h=>?_) (fun cdv A outer s H vs Q E hr h=>?_)
 ·obtain⟨n,rfl,_⟩:=h
  rfl
 obtain⟨n,rfl,q⟩:=h
 refine⟨_,Ad (Ai (BE (Av Bo (by rfl) T.isi boot_isinstance (Aa (pv 0) (Aa (BD (v:=.ty "int") (by rfl) T.int boot_int rfl) Ab))) (Bk (DD (Av Bo (by rfl) T.isi boot_isinstance (Aa (pv 0) (Aa (BD (v:=.ty "bool") (by rfl) T.bool boot_bool rfl) Ab))))))),?_⟩
 refine⟨_,rfl,_,_,_,_,rfl,.int _,Bd _ _,_,rfl,?_⟩
 refine Bq ?_
 exact⟨_,rfl,_,_,_,_,rfl,.int _,Jo _,_,rfl,q⟩
end
def AL (b:Bool) (t:Tr) (row:List Int):List Int:=row.filter fun k=>tv t k == b
theorem KA (t:Tr) (row:List Int):(AL true t row).length+(AL false t row).length=row.length:=by
 unfold AL
 induction row with
 | nil=>rfl
 | cons k r ih=>
  cases h:tv t k with
  | true=>simp[h] at ih ⊢;omega
  | false=>simp[h] at ih ⊢;omega
def FL (z:Str) (t:Tr) (row:List Int):Prop:=(z="true"∧AL true t row≠[])∨(z="false"∧AL false t row≠[])∨(z="doubt"∧AL true t row≠[]∧AL false t row≠[])
def As (z:Str) (t:Tr) (row:List Int):List (List Int):=if z="true" then[AL true t row] else if z="false" then[AL false t row] else[AL true t row,AL false t row]
def BM (row:List Int) (sides:List (List Int)):List Int:=row.filter fun k=>sides.any fun s=>decide (k∈s)
def Ay (sides:List (List Int)) (row:List Int):Bool:=sides.all fun s=>s.any fun k=>decide (k∈row)
abbrev FW:Stmt:=By 55
def Pe (K:PySem.W.Frag):Sp:=fun vs H Q _=>∃(n:Int) (r:Addr) (row:List Int) (v:V) (t:Tr),vs=[.int n,.ref r,v]∧t.At H v∧t.ok 5∧t.size≤60∧SqL K H r (row.map V.int)∧row.length≤900∧row≠[]∧∀(z:Str) (H':Hp),Same H H'→FL z t row→Q (.str z) H'
def LY:List V:=[.str "true",.str "false",.str "doubt"]
section
theorem scLkind:Aq ["_law_n","_law_room_here","_law_sentence_here","_law_ins_here"] ["_law_n","_law_room_here","_law_sentence_here"] (Ae FW):=Bx
theorem Qc {g:Addr} {gd:FuncData} (F:Fun K "_law_kind" "_law_kind" FW f fd) (B:Bl mg) (GI:FnOk P w K mg bz AG 61 g gd ["_law_sentence_here","_law_row"] (Kl K true)) (CI:AM K mg "_law_ins" g gd ["_law_sentence_here","_law_row"]):FnOk P w K mg bz AG 62 f fd ["_law_n","_law_room_here","_law_sentence_here"] (Pe K):=by
 refine F.ok scLkind (fun vs H Q E h=>?_) (fun cdv A outer s H vs Q E hr h=>?_)
 ·obtain⟨n,r,row,v,t,rfl,_⟩:=h
  rfl
 obtain⟨n,r,row,v,t,rfl,ha,hok,hs,hS,hl,hne,q⟩:=h
 refine⟨_,Ac (Az (i:=3) scLkind.nd rfl (Or.inl rfl) (Ah GI hr (by rfl) CI.m CI.k CI.b .nil Ao (Aa (pv 2) (Aa (pv 1) Ab))))
  (Ac (AB (Ak (K4 hr.units0) (pv 3) (AK Ab) (Ar _))
   (Ad (Ai Aw))
   Al)
  (Ac (AB (Ak AN (Av Au (by rfl) B.len PySem.boot_len (Aa (pv 3) Ab)) (Av Au (by rfl) B.len PySem.boot_len (Aa (pv 1) Ab)) (Ar _))
   (Ad (Ai Aw))
   Al)
  (Ad (Ai (AC AT (AK (Aa Aw (Aa Aw (Aa Aw Ab)))) (AD A6 (pv 0) Ag) (fun _ _=>rfl)))))),?_⟩
 have hio:=KA t row
 have hp:0<row.length:=List.length_pos_iff.mpr hne
 refine⟨_,rfl,_,rfl,v,t,r,row,rfl,ha,hok,hs,hS,hl,fun l H1 s1 hl1 hr1=>?_⟩
 refine⟨_,rfl,Jx,fun e he=>?_⟩
 have s2:=Af he (.lst [])
 refine⟨l,e,_,rfl,rfl,SqL.of (s2 _ _ hr1),SqL.of upd_same,_,rfl,?_⟩
 change AJ H1 l (AL true t row) at hr1
 by_cases h0:AL true t row=[]
 ·refine Tp (by show ((AL true t row).map V.int).isEmpty=true;rw[h0];rfl) ?_
  refine q _ _ (s1.trans s2) (.inr (.inl ⟨rfl,fun z=>?_⟩))
  rw[h0,z] at hio
  have:([]:List Int).length=0:=rfl
  omega
 refine TH (by show ((AL true t row).map V.int).isEmpty=false;cases hq:AL true t row with | nil=>exact absurd hq h0 | cons _ _=>rfl) ?_
 refine⟨_,rfl,l,_,rfl,.inl (SqL.of (s2 _ _ hr1)),_,rfl,r,_,rfl,.inl ((s1.trans s2).seq hS),rfl,_,rfl,?_⟩
 by_cases h1:AL false t row=[]
 ·have e1:((AL true t row).map V.int).length=(row.map V.int).length:=by
   rw[List.length_map,List.length_map]
   rw[h1] at hio
   have:([]:List Int).length=0:=rfl
   omega
  refine Bc (by rw[e1]) ?_
  exact q _ _ (s1.trans s2) (.inl ⟨rfl,h0⟩)
 ·have e1:¬(V.int (((AL true t row).map V.int).length:Int)=V.int ((row.map V.int).length:Int)):=by
   rw[List.length_map,List.length_map]
   intro z
   injection z with z
   have:=List.length_pos_iff.mpr h1
   omega
  refine A0 e1 ?_
  refine⟨M9,fun c hc=>?_⟩
  have s3:=Af hc (.lst LY)
  have h2:=Int.emod_nonneg n (show (3:Int)≠0 by decide)
  have h3:=Int.emod_lt_of_pos n (show (0:Int)<3 by decide)
  obtain⟨j,ej⟩:=Int.eq_ofNat_of_zero_le h2
  have hj:j<3:=by omega
  refine⟨_,rfl,_,_,rfl,rfl,(by show (0:Int)<3;decide),?_⟩
  have fin:∀z:Str,LY[j]? = some (.str z)→FL z t row→TJ K (.ref c) (.int (n%3)) (upd (upd H1 e (.lst [])) c (.lst LY)) Q:=fun z hz hk=>by
   rw[ej]
   exact⟨c,LY,_,_,rfl,rfl,SqL.of upd_same,Aj hz,q z _ (s1.trans (s2.trans s3)) hk⟩
  match j,hj,fin with
  | 0,_,fin=>exact fin "true" rfl (.inl ⟨rfl,h0⟩)
  | 1,_,fin=>exact fin "false" rfl (.inr (.inl ⟨rfl,h1⟩))
  | 2,_,fin=>exact fin "doubt" rfl (.inr (.inr ⟨rfl,h0,h1⟩))
end
abbrev D4:Stmt:=By 60
def Md (K:PySem.W.Frag):Sp:=fun vs H Q _=>∃(r:Addr) (row:List Int) (z:Str) (v:V) (t:Tr),vs=[.ref r,.str z,v]∧t.At H v∧t.ok 5∧t.size≤60∧SqL K H r (row.map V.int)∧row.length≤900∧∀(l:Addr) (xs:List V) (H':Hp),Same H H'→H l=none→H' l=some (.lst xs)→RowsAt H' xs (As z t row)→Q (.ref l) H'
section
theorem Ob:Aq ["_law_room_here","_law_kind_here","_law_sentence_here"] ["_law_room_here","_law_kind_here","_law_sentence_here"] (Ae D4):=Bx
theorem NU {g e:Addr} {gd ed:FuncData} (F:Fun K "_law_sides" "_law_sides" D4 f fd) (GI:FnOk P w K mg bz AG 61 g gd ["_law_sentence_here","_law_row"] (Kl K true)) (CI:AM K mg "_law_ins" g gd ["_law_sentence_here","_law_row"]) (GO:FnOk P w K mg bz AG 61 e ed ["_law_sentence_here","_law_row"] (Kl K false)) (CO:AM K mg "_law_outs" e ed ["_law_sentence_here","_law_row"]):FnOk P w K mg bz AG 62 f fd ["_law_room_here","_law_kind_here","_law_sentence_here"] (Md K):=by
 refine F.ok Ob (fun vs H Q E h=>?_) (fun cdv A outer s H vs Q E hr h=>?_)
 ·obtain⟨r,row,z,v,t,rfl,_⟩:=h
  rfl
 obtain⟨r,row,z,v,t,rfl,ha,hok,hs,hS,hl,q⟩:=h
 refine⟨_,Ac (AB (Ak AN (pv 1) Aw (Ar _))
   (Ad (Ai (AK (Aa (Ah GI hr (by rfl) CI.m CI.k CI.b .nil Ao (Aa (pv 2) (Aa (pv 0) Ab))) Ab))))
   Al)
  (Ac (AB (Ak AN (pv 1) Aw (Ar _))
   (Ad (Ai (AK (Aa (Ah GO hr (by rfl) CO.m CO.k CO.b .nil Ao (Aa (pv 2) (Aa (pv 0) Ab))) Ab))))
   Al)
  (Ad (Ai (AK (Aa (Ah GI hr (by rfl) CI.m CI.k CI.b .nil Ao (Aa (pv 2) (Aa (pv 0) Ab))) (Aa (Ah GO hr (by rfl) CO.m CO.k CO.b .nil Ao (Aa (pv 2) (Aa (pv 0) Ab))) Ab)))))),?_⟩
 refine⟨_,rfl,rfl,_,rfl,?_⟩
 by_cases h0:z="true"
 ·refine Bc (by rw[h0]) ?_
  refine⟨_,rfl,_,rfl,v,t,r,row,rfl,ha,hok,hs,hS,hl,fun l H1 s1 hl1 hr1=>⟨M7,fun c hc=>?_⟩⟩
  have s2:=Af hc (.lst [.ref l])
  refine q c _ _ (s1.trans s2) (s1.free hc) upd_same ?_
  unfold As
  rw[if_pos h0]
  exact .cons ⟨l,rfl,s2 _ _ hr1⟩ .nil
 refine A0 (fun e=>h0 (by injection e)) ?_
 refine⟨_,rfl,rfl,_,rfl,?_⟩
 by_cases h1:z="false"
 ·refine Bc (by rw[h1]) ?_
  refine⟨_,rfl,_,rfl,v,t,r,row,rfl,ha,hok,hs,hS,hl,fun l H1 s1 hl1 hr1=>⟨M7,fun c hc=>?_⟩⟩
  have s2:=Af hc (.lst [.ref l])
  refine q c _ _ (s1.trans s2) (s1.free hc) upd_same ?_
  unfold As
  rw[if_neg h0,if_pos h1]
  exact .cons ⟨l,rfl,s2 _ _ hr1⟩ .nil
 refine A0 (fun e=>h1 (by injection e)) ?_
 refine⟨_,rfl,_,rfl,v,t,r,row,rfl,ha,hok,hs,hS,hl,fun l H1 s1 hl1 hr1=>?_⟩
 refine⟨_,rfl,_,rfl,v,t,r,row,rfl,ha.keep (TS.same s1),hok,hs,s1.seq hS,hl,fun l2 H2 s2 hl2 hr2=>⟨Fl,fun c hc=>?_⟩⟩
 have s3:=Af hc (.lst [.ref l,.ref l2])
 refine q c _ _ (s1.trans (s2.trans s3)) ((s1.trans s2).free hc) upd_same ?_
 unfold As
 rw[if_neg h0,if_neg h1]
 exact .cons ⟨l,rfl,s3 _ _ (s2 _ _ hr1)⟩ (.cons ⟨l2,rfl,s3 _ _ hr2⟩ .nil)
end
abbrev FT:Stmt:=By 61
def Qs (K:PySem.W.Frag):Sp:=fun vs H Q _=>∃(r sd:Addr) (row:List Int) (xs:List V) (sides:List (List Int)),vs=[.ref r,.ref sd]∧SqL K H r (row.map V.int)∧row.length≤900∧SqL K H sd xs∧RowsAt H xs sides∧sides.length≤900∧∀(l:Addr) (H':Hp),Same H H'→H l=none→AJ H' l (BM row sides)→Q (.ref l) H'
section
theorem Re:Aq ["_law_room_here","_law_sides_here"] ["_law_room_here","_law_sides_here"] (Ae FT):=Bx
theorem O8 (F:Fun K "_law_base" "_law_base" FT f fd) (T:Fc mg):FnOk P w K mg bz AG 1 f fd ["_law_room_here","_law_sides_here"] (Qs K):=by
 refine F.ok Re (fun vs H Q E h=>?_) (fun cdv A outer s H vs Q E hr h=>?_)
 ·obtain⟨r,sd,row,xs,sides,rfl,_⟩:=h
  rfl
 obtain⟨r,sd,row,xs,sides,rfl,hS,hl,hX,hR,hsl,q⟩:=h
 have hlen:=hR.len
 refine⟨_,Ad (Ai (NP (N:=["_law_world","_law_sides_here"]) (js:=[none,some 1]) (cl:=[("_law_sides_here",s.heap.objs.size+1)]) ⟨rfl,rfl,rfl,(by intro p hp;simp at hp;rcases hp with rfl<;>rfl),rfl,rfl,rfl⟩ (AW (pv 0)) (fun c1=>(AE (i:=0) (show (["_law_world","_law_sides_here"]:List Str).Nodup by decide +kernel) rfl (Or.inr rfl))) (fun c1=>(BV (A1 (Av (IB rfl) (by rfl) T.any boot_any (Aa (Bm (N:=["_law_side","_law_world"]) (js:=[none,some 0]) (cl:=[("_law_world",c1.s.heap.objs.size+1+0)]) ⟨rfl,rfl,rfl,(by intro p hp;simp at hp;rcases hp with rfl<;>rfl),rfl,rfl,rfl⟩ (AW (pv 1)) (fun c2=>(AE (i:=0) (show (["_law_side","_law_world"]:List Str).Nodup by decide +kernel) rfl (Or.inl rfl))) (fun c2=>BI) (fun c2=>(Be FH (pv 1) (pv 0) (by with_unfolding_all rfl)))) Ab))))) (fun c1=>(pv 0)))),?_⟩
 refine⟨_,rfl,r,rfl,⟨_,hS⟩,fun c1 acc hacc=>Bw (p:=fun k=>sides.any fun s=>decide (k∈s)) (rest:=[some (.ref sd)]) hS hacc hl (fun k hk H2 s2 R hR2=>?_) (fun v0 H2 s2 h2=>q acc H2 s2 hacc h2) none⟩
 refine⟨_,rfl,sd,rfl,⟨_,s2.seq hX⟩,fun c2 ac2 hac2=>Gh (bs:=sides.map fun s=>decide (k∈s)) (rest:=[some (.int k)]) (s2.seq hX) hac2 (by omega) (by rw[List.length_map];omega) (fun i x b hx hb H3 s3 R3 hR3=>?_) (fun v0 H3 s3 h3=>?_) none⟩
 ·obtain⟨row2,p,hr2,rfl,hp⟩:=hR.get hx
  rw[List.getElem?_map,hr2] at hb
  have eb:decide (k∈row2)=b:=Option.some.inj hb
  refine⟨_,rfl,_,rfl,Le (SqL.of ((s2.trans s3) _ _ hp)) ?_⟩
  rw[eb]
  exact hR3 H3 (Same.refl _)
 ·refine⟨ac2,_,rfl,SqL.of h3,_,rfl,?_⟩
  have e:(sides.map fun s=>decide (k∈s)).any id=sides.any fun s=>decide (k∈s):=by rw[List.any_map];rfl
  rw[e]
  exact hR2 H3 s3
end
abbrev IM:Stmt:=By 71
def PL:Sp:=fun vs H Q _=>∃(z:Str),vs=[.str z,.str z]∧Q (.bl true) H
section
theorem S5:Aq ["_law_found","_law_due"] ["_law_found","_law_due"] (Ae IM):=Bx
theorem Pq (F:Fun K "_law_says" "_law_says" IM f fd) (T:Fc mg):FnOk P w K mg bz AG 1 f fd ["_law_found","_law_due"] PL:=by
 refine F.ok S5 (fun vs H Q E h=>?_) (fun cdv A outer s H vs Q E hr h=>?_)
 ·obtain⟨z,rfl,_⟩:=h
  rfl
 obtain⟨z,rfl,q⟩:=h
 refine⟨_,Ad (Ai (BE (Av Bo (by rfl) T.isi boot_isinstance (Aa (pv 0) (Aa (BD (v:=.ty "str") (by rfl) T.str boot_str rfl) Ab))) (Bk (Be AN (pv 0) (pv 1) (Ar _))))),?_⟩
 refine⟨_,rfl,_,_,_,_,rfl,.str _,Bd _ _,_,rfl,?_⟩
 refine Bq ?_
 refine⟨_,rfl,_,rfl,rfl,?_⟩
 rw[decide_eq_true rfl]
 exact q
end
abbrev HH:Stmt:=By 70
def FC (n:Nat):Sp:=fun vs H Q _=>∃(u v:V) (t:Tr),vs=[u,v]∧t.At H u∧t.At H v∧t.size≤n∧Q (.bl true) H
section
theorem scTree:Aq ["_law_found","_law_due","_law_k"] ["_law_found","_law_due"] (Ae HH):=Bx
theorem Q1 {n:Nat} {g:Addr} {gd:FuncData} (F:Fun K "_law_tree_is" "_law_tree_is" HH f fd) (G:FnOk P w K mg bz AG (n+1) f fd ["_law_found","_law_due"] (FC n)) (C:AM K mg "_law_tree_is" f fd ["_law_found","_law_due"])
  (GW:FnOk P w K mg bz AG 1 g gd ["_law_found"] EZ) (CW:AM K mg "_law_whole" g gd ["_law_found"]) (T:Fc mg) (B:Bl mg):FnOk P w K mg bz AG (n+2) f fd ["_law_found","_law_due"] (FC (n+1)):=by
 refine F.ok scTree (fun vs H Q E h=>?_) (fun cdv A outer s H vs Q E hr h=>?_)
 ·obtain⟨u,v,t,rfl,_⟩:=h
  rfl
 obtain⟨u,v,t,rfl,hu,hv,hs,q⟩:=h
 have hr1:Room 1 _:=hr.mono (Nat.le_add_left 1 n)
 refine⟨_,Ac (AB (De (Bs (A1 (Av Bo (by rfl) T.isi boot_isinstance (Aa (pv 0) (Aa (BD (v:=.ty "tuple") (by rfl) T.tup DH rfl) Ab))))) (Dw (Ak ID (Av Au (by rfl) B.len PySem.boot_len (Aa (pv 0) Ab)) (Av Au (by rfl) B.len PySem.boot_len (Aa (pv 1) Ab)) (Ar _)))).pt (Ad (Ai BA)) Al)
  (Ac (AB (De (Bs (A1 (Av Bo (by rfl) T.isi boot_isinstance (Aa (AC AH (pv 0) Ag (fun _ _=>rfl)) (Aa (BD (v:=.ty "str") (by rfl) T.str boot_str rfl) Ab))))) (Dw (Ak ID (AC AH (pv 0) Ag (fun _ _=>rfl)) (AC AH (pv 1) Ag (fun _ _=>rfl)) (Ar _)))).pt (Ad (Ai BA)) Al)
  (Ac (AB (Ak AN (AC AH (pv 1) Ag (fun _ _=>rfl)) Aw (Ar _)) (Ad (Ai (BE (Ah GW hr1 (by rfl) CW.m CW.k CW.b .nil Ao (Aa (AC AH (pv 0) Ag (fun _ _=>rfl)) Ab)) (Bk (Be AN (AC AH (pv 0) Ag (fun _ _=>rfl)) (AC AH (pv 1) Ag (fun _ _=>rfl)) (Ar _)))))) Al)
  (Ac (BR PassesOwn.never rfl (IY (by rfl) B.range (Aa Ag (Aa (Av Au (by rfl) B.len PySem.boot_len (Aa (pv 1) Ab)) Ab))) (AE (i:=2) scTree.nd rfl (Or.inl rfl))
   (Ad (AB (Bs (A1 (Ah G hr (by rfl) C.m C.k C.b .nil Ao (Aa (AC AH (pv 0) (pv 2) (fun _ _=>rfl)) (Aa (AC AH (pv 1) (pv 2) (fun _ _=>rfl)) Ab))))) (Ad (Ai BA)) Al)))
  (Ad (Ai BA))))),?_⟩
 have two:∃p p' x xs ys,u= .ref p∧v= .ref p'∧H p=some (.tup (.str x::xs))∧H p'=some (.tup (.str x::ys))∧xs.length=ys.length∧ys.length≤2:=by
  cases t with
  | lt k=>
   obtain⟨p,rfl,hp⟩:=hu
   obtain⟨p',rfl,hp'⟩:=hv
   exact⟨p,p',_,_,_,rfl,rfl,hp,hp',rfl,by show 1≤2;decide⟩
  | nt t=>
   obtain⟨p,y,rfl,hp,_⟩:=hu
   obtain⟨p',y',rfl,hp',_⟩:=hv
   exact⟨p,p',_,_,_,rfl,rfl,hp,hp',rfl,by show 1≤2;decide⟩
  | bn j a b=>
   obtain⟨p,y,z,rfl,hp,_⟩:=hu
   obtain⟨p',y',z',rfl,hp',_⟩:=hv
   exact⟨p,p',_,_,_,rfl,rfl,hp,hp',rfl,Nat.le_refl _⟩
 obtain⟨p,p',x,xs,ys,rfl,rfl,hp,hp',hl,hl2⟩:=two
 refine⟨_,rfl,_,_,_,_,rfl,.tup hp,Bd _ _,_,rfl,?_⟩
 refine A8 ?_
 refine⟨_,rfl,p,_,rfl,.inr (SqT.of hp),_,rfl,p',_,rfl,.inr (SqT.of hp'),rfl,_,rfl,?_⟩
 refine Gj (by show V.int ((xs.length+1:Nat):Int)=V.int ((ys.length+1:Nat):Int);rw[hl]) ?_
 refine⟨_,rfl,p,_,_,_,rfl,rfl,SqT.of hp,Aj (j:=0) rfl,_,_,_,_,rfl,.str _,Bd _ _,_,rfl,?_⟩
 refine A8 ?_
 refine⟨_,rfl,p,_,_,_,rfl,rfl,SqT.of hp,Aj (j:=0) rfl,_,rfl,p',_,_,_,rfl,rfl,SqT.of hp',Aj (j:=0) rfl,rfl,_,rfl,?_⟩
 refine Gj rfl ?_
 refine⟨_,rfl,p',_,_,_,rfl,rfl,SqT.of hp',Aj (j:=0) rfl,rfl,_,rfl,?_⟩
 cases t with
 | lt k=>
  obtain⟨_,e,h1⟩:=hu
  cases e
  obtain⟨_,e,h2⟩:=hv
  cases e
  rw[hp] at h1
  rw[hp'] at h2
  injection h1 with h1
  injection h1 with h1
  injection h2 with h2
  injection h2 with h2
  injection h1 with e1 e2
  injection h2 with e3 e4
  subst e2 e4
  refine Bc e1 ?_
  refine⟨_,rfl,p,_,_,_,rfl,rfl,SqT.of hp,Aj (j:=1) rfl,_,rfl,_,rfl,?_⟩
  refine Bq ?_
  refine⟨_,rfl,p,_,_,_,rfl,rfl,SqT.of hp,Aj (j:=1) rfl,_,rfl,p',_,_,_,rfl,rfl,SqT.of hp',Aj (j:=1) rfl,rfl,?_⟩
  have e:decide (V.int (k:Int)=V.int (k:Int))=true:=decide_eq_true rfl
  rw[e]
  exact q
 | nt t=>
  obtain⟨_,y,e,h1,hy⟩:=hu
  cases e
  obtain⟨_,y',e,h2,hy'⟩:=hv
  cases e
  rw[hp] at h1
  rw[hp'] at h2
  injection h1 with h1
  injection h1 with h1
  injection h2 with h2
  injection h2 with h2
  injection h1 with e1 e2
  injection h2 with e3 e4
  subst e2 e4
  have hs':t.size+1≤n+1:=hs
  refine A0 (by rw[e1];decide) ?_
  refine⟨_,rfl,p',_,rfl,.inr (SqT.of hp'),1,_,rfl,⟨by decide,by decide,(show -(2^62)≤((2:Nat):Int) by decide),(show ((2:Nat):Int)<2^62 by decide)⟩,Cc (lo:=1) (n:=1) (fun i σ H2=>∃kv,σ=[some (.ref p),some (.ref p'),kv]∧H2=H) ⟨_,rfl,rfl⟩ ?_ ?_⟩
  ·rintro i σ H2 hi ⟨kv,rfl,rfl⟩
   have e0:i=0:=by omega
   subst e0
   refine⟨_,rfl,_,rfl,p,_,_,_,rfl,rfl,SqT.of hp,Aj (j:=1) rfl,_,rfl,_,rfl,p',_,_,_,rfl,rfl,SqT.of hp',Aj (j:=1) rfl,y,y',t,rfl,hy,hy',by omega,_,rfl,?_⟩
   refine A8 ?_
   exact⟨_,rfl,rfl⟩
  ·rintro σ H2 ⟨kv,rfl,rfl⟩
   exact q
 | bn j a b=>
  obtain⟨_,y,z,e,h1,hy,hz⟩:=hu
  cases e
  obtain⟨_,y',z',e,h2,hy',hz'⟩:=hv
  cases e
  rw[hp] at h1
  rw[hp'] at h2
  injection h1 with h1
  injection h1 with h1
  injection h2 with h2
  injection h2 with h2
  injection h1 with e1 e2
  injection h2 with e3 e4
  subst e2 e4
  have hs':a.size+b.size+1≤n+1:=hs
  have ha0:=a.size_pos
  have hb0:=b.size_pos
  refine A0 (by rw[e1];exact EQ) ?_
  refine⟨_,rfl,p',_,rfl,.inr (SqT.of hp'),1,_,rfl,⟨by decide,by decide,(show -(2^62)≤((3:Nat):Int) by decide),(show ((3:Nat):Int)<2^62 by decide)⟩,Cc (lo:=1) (n:=2) (fun i σ H2=>∃kv,σ=[some (.ref p),some (.ref p'),kv]∧H2=H) ⟨_,rfl,rfl⟩ ?_ ?_⟩
  ·rintro i σ H2 hi ⟨kv,rfl,rfl⟩
   match i,hi with
   | 0,_=>
    refine⟨_,rfl,_,rfl,p,_,_,_,rfl,rfl,SqT.of hp,Aj (j:=1) rfl,_,rfl,_,rfl,p',_,_,_,rfl,rfl,SqT.of hp',Aj (j:=1) rfl,y,y',a,rfl,hy,hy',by omega,_,rfl,?_⟩
    refine A8 ?_
    exact⟨_,rfl,rfl⟩
   | 1,_=>
    refine⟨_,rfl,_,rfl,p,_,_,_,rfl,rfl,SqT.of hp,Aj (j:=2) rfl,_,rfl,_,rfl,p',_,_,_,rfl,rfl,SqT.of hp',Aj (j:=2) rfl,z,z',b,rfl,hz,hz',by omega,_,rfl,?_⟩
    refine A8 ?_
    exact⟨_,rfl,rfl⟩
  ·rintro σ H2 ⟨kv,rfl,rfl⟩
   exact q
theorem TK:FnOk P w K mg bz AG 1 f fd ["_law_found","_law_due"] (FC 0):=by
 have no:∀vs H Q E,¬FC 0 vs H Q E:=fun vs H Q E h=>by
  obtain⟨u,v,t,_,_,_,h1,_⟩:=h
  have:=t.size_pos
  omega
 exact⟨fun vs H Q E h=>absurd h (no vs H Q E),fun A outer s H args us vs Q E _ _ _ _ h=>absurd h (no vs H Q E)⟩
theorem Ku {g:Addr} {gd:FuncData} (F:Fun K "_law_tree_is" "_law_tree_is" HH f fd) (C:AM K mg "_law_tree_is" f fd ["_law_found","_law_due"]) (GW:FnOk P w K mg bz AG 1 g gd ["_law_found"] EZ) (CW:AM K mg "_law_whole" g gd ["_law_found"]) (T:Fc mg) (B:Bl mg) :
  ∀n:Nat,FnOk P w K mg bz AG (n+1) f fd ["_law_found","_law_due"] (FC n)
 | 0=>TK
 | n+1=>Q1 F (Ku F C GW CW T B n) C GW CW T B
end
abbrev Dj:Stmt:=By 69
def HS (K:PySem.W.Frag):Sp:=fun vs H Q _=>∃(sd r:Addr) (row:List Int) (xs:List V) (sides:List (List Int)),vs=[.ref sd,.ref r]∧SqL K H r (row.map V.int)∧row.length≤900∧SqL K H sd xs∧RowsAt H xs sides∧(∀s∈sides,s.length≤900)∧∀(H':Hp),Same H H'→Q (.bl (Ay sides row)) H'
section
theorem scLstands:Aq ["_law_sides_here","_law_row","_law_side"] ["_law_sides_here","_law_row"] (Ae Dj):=Bx
theorem K5 (F:Fun K "_law_stands" "_law_stands" Dj f fd) (T:Fc mg):FnOk P w K mg bz AG 1 f fd ["_law_sides_here","_law_row"] (HS K):=by
 refine F.ok scLstands (fun vs H Q E h=>?_) (fun cdv A outer s H vs Q E hr h=>?_)
 ·obtain⟨sd,r,row,xs,sides,rfl,_⟩:=h
  rfl
 obtain⟨sd,r,row,xs,sides,rfl,hS,hl,hX,hR,hsl,q⟩:=h
 refine⟨_,Ac (BR PassesOwn.never rfl (AW (pv 0)) (AE (i:=2) scLstands.nd rfl (Or.inl rfl))
   (Ad (AB (Bs (A1 (Av (IB rfl) (by rfl) T.any boot_any (Aa (Bm (N:=["_law_world","_law_row"]) (js:=[none,some 1]) (cl:=[("_law_row",s.heap.objs.size+1)]) ⟨rfl,rfl,rfl,(by intro p hp;simp at hp;rcases hp with rfl<;>rfl),rfl,rfl,rfl⟩ (AW (pv 2)) (fun c1=>(AE (i:=0) (show (["_law_world","_law_row"]:List Str).Nodup by decide +kernel) rfl (Or.inl rfl))) (fun c1=>BI) (fun c1=>(Be FH (pv 0) (pv 1) (by with_unfolding_all rfl)))) Ab))))
    (Ad (Ai BA))
    Al)))
  (Ad (Ai BA)),?_⟩
 refine⟨_,rfl,sd,rfl,⟨_,hX⟩,A4 (K:=K) (a:=sd) (xs:=xs) (fun i σ H2=>∃sv,σ=[some (.ref sd),some (.ref r),sv]∧Same H H2∧(sides.take i).all (fun s=>s.any fun k=>decide (k∈row))=true) ⟨_,rfl,Same.refl _,rfl⟩ ?_ ?_ ?_⟩
 ·rintro i σ H2 _ ⟨sv,rfl,s2,_⟩
  exact s2.seq hX
 ·rintro i x σ H2 hx ⟨sv,rfl,s2,hall⟩
  obtain⟨side,p,hr2,rfl,hp⟩:=hR.get hx
  have hp2:=s2 _ _ hp
  have et:sides.take (i+1)=sides.take i++[side]:=by rw[List.take_add_one,hr2];rfl
  refine⟨_,rfl,p,rfl,⟨_,SqL.of hp2⟩,fun c1 acc hacc=>Lh (f:=fun k=>decide (k∈row)) (rest:=[some (.ref r)]) (SqL.of hp2) hacc (hsl side (List.mem_of_getElem? hr2)) (fun k hk H3 s3 R3 hR3=>?_) (fun v0 H3 s3 h3=>?_) none⟩
  ·exact⟨_,rfl,_,rfl,Le ((s2.trans s3).seq hS) (hR3 H3 (Same.refl _))⟩
  ·refine⟨acc,_,rfl,SqL.of h3,_,rfl,?_⟩
   have e:(side.map fun k=>decide (k∈row)).any id=side.any fun k=>decide (k∈row):=by rw[List.any_map];rfl
   rw[e]
   cases hq:side.any fun k=>decide (k∈row) with
   | false=>
    refine Bq ?_
    have ef:Ay sides row=false:=by
     unfold Ay
     rw[←List.take_append_drop (i+1) sides,et,List.all_append,List.all_append,List.all_cons,hq]
     simp
    have:=q H3 (s2.trans s3)
    rw[ef] at this
    exact this
   | true=>
    refine A8 ?_
    refine⟨_,rfl,s2.trans s3,?_⟩
    rw[et,List.all_append,hall,List.all_cons,hq]
    rfl
 ·rintro σ H2 ⟨sv,rfl,s2,hall⟩
  rw[hR.len,List.take_length] at hall
  have:=q H2 s2
  unfold Ay at this
  rw[hall] at this
  exact this
end
abbrev FZ:Stmt:=By 62
section
theorem Rj:Aq ["_law_n","_law_room_here"] ["_law_n","_law_room_here"] (Ae FZ):=Bx
theorem ON {e:Addr} {ed:FuncData} (F:Fun K "_law_seen" "_law_seen" FZ f fd) (T:Fc mg) (B:Bl mg) (GO:FnOk P w K mg bz AG 2 e ed ["_law_n","_law_row"] (Cz K)) (CO:AM K mg "_law_some_one" e ed ["_law_n","_law_row"]):FnOk P w K mg bz AG 3 f fd ["_law_n","_law_room_here"] (Cz K):=by
 refine F.ok Rj (fun vs H Q E h=>?_) (fun cdv A outer s H vs Q E hr h=>?_)
 ·obtain⟨n,r,row,rfl,_⟩:=h
  rfl
 obtain⟨n,r,row,rfl,hS,hl,hne,q⟩:=h
 have hp:0<row.length:=List.length_pos_iff.mpr hne
 refine⟨_,Ac (AB (Ak Iw (AD A6 (pv 0) Ag) Ag (Ar _))
   (Ad (Ai (AK (Aa (AC AT (pv 1) (AD A6 (AD Br (pv 0) Ag) (Av Au (by rfl) B.len PySem.boot_len (Aa (pv 1) Ab))) (fun _ _=>rfl)) Ab))))
   Al)
  (Ac (AB (Ak AN (AD A6 (pv 0) Ag) Ag (Ar _))
   (Ad (Ai (AQ AX (by rfl) T.lst Ba (Aa (pv 1) Ab))))
   Al)
  (Ad (Ai (Ah GO hr (by rfl) CO.m CO.k CO.b .nil Ao (Aa (AD Br (pv 0) Ag) (Aa (pv 1) Ab)))))),?_⟩
 refine⟨_,rfl,_,_,rfl,rfl,(by show (0:Int)<5;decide),_,_,rfl,rfl,_,rfl,?_⟩
 refine B7 (fun _=>?_) (fun _=>?_)
 ·obtain⟨k,hk,hm⟩:=Qe (n:=n / 5) hne
  refine⟨_,rfl,_,rfl,_,_,rfl,rfl,⟨by decide,by decide⟩,_,rfl,r,_,rfl,.inl hS,_,_,rfl,rfl,(by show (0:Int)<(((row.map V.int).length:Nat):Int);rw[List.length_map];omega),r,_,_,_,rfl,rfl,hS,hk,M7,fun d hd=>?_⟩
  exact q d [k] _ (Af hd _) hd upd_same (List.singleton_sublist.mpr hm) (by simp)
 refine⟨_,rfl,_,_,rfl,rfl,(by show (0:Int)<5;decide),rfl,_,rfl,?_⟩
 refine B7 (fun _=>?_) (fun _=>?_)
 ·exact⟨_,rfl,r,_,rfl,.inl hS,fun d hd=>q d row _ (Af hd _) hd upd_same (List.Sublist.refl _) hne⟩
 ·exact⟨_,rfl,_,_,rfl,rfl,⟨by decide,by decide⟩,_,rfl,n / 5,r,row,rfl,hS,hl,hne,q⟩
end
def Bp (seen row:List Int):Str:=if (seen.all fun k=>decide (k∈row))=true then "grant" else if (seen.any fun k=>decide (k∈row))=true then "doubt" else "deny"
def DA (xs row:List Int):List Int:=xs.filter fun k=>decide (k∈row)
def Cn (xs row:List Int):List Int:=xs.filter fun k=>!decide (k∈row)
theorem MF (xs row:List Int):DA xs row=[]↔(xs.any fun k=>decide (k∈row))=false:=by
 unfold DA
 rw[List.filter_eq_nil_iff]
 constructor
 ·intro h
  rw[Bool.eq_false_iff]
  intro z
  obtain⟨k,hk,hk2⟩:=List.any_eq_true.mp z
  exact h k hk hk2
 ·intro h k hk hk2
  have:(xs.any fun k=>decide (k∈row))=true:=List.any_eq_true.mpr ⟨k,hk,hk2⟩
  rw[h] at this
  cases this
theorem Sc (xs row:List Int):(DA xs row).length≤xs.length:=List.length_filter_le _ _
theorem QP (xs row:List Int):(Cn xs row).length≤xs.length:=List.length_filter_le _ _
theorem PR {xs:List Int}:(xs.map V.int).isEmpty=decide (xs=[]):=by cases xs<;>simp
def B6 (sides:List (List Int)) (going seen row:List Int):Str:=
 if Cn going row=[] then "grant" else if DA going row=[] then "deny"
 else if Bp seen row="grant"∧Ay sides (DA going row)=false then "doubt"
 else if Bp seen row="deny"∧Ay sides (Cn going row)=false then "doubt" else Bp seen row
abbrev IV:Stmt:=By 24
section
theorem SG:Aq ["many"] ["many"] (Ae IV):=Bx
theorem QY (F:Fun K "all_worlds" "all_worlds" IV f fd) (T:Fc mg):FnOk P w K mg bz AG 1 f fd ["many"] E2:=by
 refine F.ok SG (fun vs H Q E h=>?_) (fun cdv A outer s H vs Q E hr h=>?_)
 ·obtain⟨m,rfl,_⟩:=h
  rfl
 obtain⟨m,rfl,h1,h5,q⟩:=h
 refine⟨_,Ad (Ai (AQ (Hy rfl) (by rfl) T.lst Ba (Aa (AQ I8 (by rfl) T.rng boot_range (Aa (AD R9 Ag (pv 0)) Ab)) Ab))),?_⟩
 have e:(1:Int)*2^((m:Int)).toNat=((2^m:Nat):Int):=by rw[Int.one_mul,Int.toNat_natCast,Int.natCast_pow];rfl
 refine⟨_,rfl,_,_,rfl,rfl,⟨by omega,by omega,by decide⟩,_,rfl,fun r hr2=>?_⟩
 have s2:=Af hr2 (.rng 0 ((1:Int)*2^((m:Int)).toNat))
 refine⟨r,2^m,rfl,(by rw[upd_same];show some (HO.rng 0 ((1:Int)*2^((m:Int)).toNat))=_;rw[e]),Nat.le_trans (HQ h5) (by decide),fun l2 hl2=>?_⟩
 have s3:=Af hl2 (.lst ((B0 (2^m)).map V.int))
 exact q l2 _ (s2.trans s3) (s2.free hl2) upd_same
end
theorem Nk {K:PySem.W.Frag} {a acc:Addr} {xs vs:List V} {te:TE} {rest:L2.St} {D:Cg} {H:Hp} (hr:SqL K H a xs) (hacc:H acc=none) (hlen:xs.length≤900) (hb:vs.length=xs.length)
  (ht:∀(i:Nat) (x b:V),xs[i]? = some x→vs[i]? = some b→∀H2,Same H H2→∀R:V→Hp→Prop,(∀H3,Same H2 H3→R b H3)→te (some x::rest) H2 R)
  (hd:∀v0 H2,Same H H2→H2 acc=some (.lst vs)→D.nx (v0::rest) H2) (v:Option V) :
  Er (Qw K a) (Dd 0) (DC J7 (BX acc te)) D (v::rest) (upd H acc (.lst [])):=by
 refine A4 (K:=K) (a:=a) (xs:=xs) (fun i σ H2=>∃v0,σ=v0::rest∧Same H H2∧H2 acc=some (.lst (vs.take i))) ⟨v,rfl,Af hacc _,upd_same⟩ ?_ ?_ ?_
 ·rintro i σ H2 _ ⟨v0,rfl,s2,_⟩
  exact s2.seq hr
 ·rintro i x σ H2 hx ⟨v0,rfl,s2,ha2⟩
  have hi:i<vs.length:=by
   have:=(List.getElem?_eq_some_iff.mp hx).1
   omega
  have hbi:vs[i]? = some vs[i]:=List.getElem?_eq_getElem hi
  have et:vs.take (i+1)=vs.take i++[vs[i]]:=by rw[List.take_add_one,hbi];rfl
  show BX acc te _ _ _
  refine ht i x _ hx hbi H2 s2 _ fun H3 s3=>?_
  refine⟨_,s3 _ _ ha2,AF ?_,?_⟩
  ·rw[List.length_take]
   omega
  refine⟨_,rfl,AI (s2.trans s3) hacc _,?_⟩
  rw[upd_same,et]
 ·rintro σ H2 ⟨v0,rfl,s2,ha2⟩
  rw[←hb,List.take_length] at ha2
  exact hd v0 H2 s2 ha2
def alw:Tr:=.bn 1 (.lt 0) (.nt (.lt 0))
def nev:Tr:=.bn 0 (.lt 0) (.nt (.lt 0))
theorem JM (w:Int):tv alw w=true:=by show (BN 0 w || !BN 0 w)=true;cases BN 0 w<;>rfl
theorem Ly (w:Int):tv nev w=false:=by show (BN 0 w && !BN 0 w)=false;cases BN 0 w<;>rfl
def Gf (t u:Tr):Tr:=if u=alw then t else .bn 0 t u
def Bz (k:Nat) (a b:Tr):Tr:=
 if a=b then b else if a=nev then Gf (.lt k) b else if b=nev then Gf (.nt (.lt k)) a else if a=alw then .bn 2 (.lt k) b else if b=alw then .bn 1 (.lt k) a else .bn 0 (.bn 2 (.lt k) b) (.bn 1 (.lt k) a)
theorem Mf (t u:Tr) (w:Int):tv (Gf t u) w=(tv t w && tv u w):=by
 unfold Gf
 by_cases h:u=alw
 ·rw[if_pos h,h,JM,Bool.and_true]
 ·rw[if_neg h];rfl
theorem TL (k:Nat) (a b:Tr) (w:Int):tv (Bz k a b) w=if BN k w=true then tv b w else tv a w:=by
 unfold Bz
 by_cases h0:a=b
 ·rw[if_pos h0,h0];split<;>rfl
 rw[if_neg h0]
 by_cases h1:a=nev
 ·rw[if_pos h1,Mf,h1,Ly]
  show (BN k w && tv b w)=_
  cases BN k w<;>rfl
 rw[if_neg h1]
 by_cases h2:b=nev
 ·rw[if_pos h2,Mf,h2,Ly]
  show (!BN k w && tv a w)=_
  cases BN k w<;>rfl
 rw[if_neg h2]
 by_cases h3:a=alw
 ·rw[if_pos h3,h3,JM]
  show (!BN k w || tv b w)=_
  cases BN k w<;>rfl
 rw[if_neg h3]
 by_cases h4:b=alw
 ·rw[if_pos h4,h4,JM]
  show (BN k w || tv a w)=_
  cases BN k w<;>rfl
 rw[if_neg h4]
 show ((!BN k w || tv b w) && (BN k w || tv a w))=_
 cases BN k w<;>simp
theorem JO {m:Nat} (h:0<m):alw.ok m:=⟨by decide,h,h⟩
theorem LO {m:Nat} (h:0<m):nev.ok m:=⟨by decide,h,h⟩
structure K6 (m d z:Nat) (t:Tr):Prop where
 ok:t.ok m
 hgt:t.hgt≤d
 size:t.size≤z
theorem Kv {m d z k:Nat} {t u:Tr} (hk:k<m) (ht:t= .lt k∨t= .nt (.lt k)) (hu:K6 m d z u):K6 m (d+2) (z+3) (Gf t u):=by
 have e:t.ok m∧t.hgt≤1∧t.size≤2:=by
  rcases ht with rfl | rfl
  ·exact⟨hk,Nat.zero_le _,by show 1≤2;decide⟩
  ·exact⟨hk,by show 0+1≤1;decide,by show 1+1≤2;decide⟩
 obtain⟨e1,e2,e3⟩:=e
 have h2:=hu.hgt
 have h3:=hu.size
 unfold Gf
 split
 ·exact⟨e1,by omega,by omega⟩
 ·exact⟨⟨by decide,e1,hu.ok⟩,by show max t.hgt u.hgt+1≤d+2;omega,by show t.size+u.size+1≤z+3;omega⟩
theorem Sb {m d z k:Nat} {a b:Tr} (hk:k<m) (ha:K6 m d z a) (hb:K6 m d z b):K6 m (d+2) (2*z+5) (Bz k a b):=by
 have a2:=ha.hgt
 have a3:=ha.size
 have b2:=hb.hgt
 have b3:=hb.size
 have wd:∀{t:Tr},K6 m (d+2) (z+3) t→K6 m (d+2) (2*z+5) t:=fun h=>⟨h.ok,h.hgt,by have:=h.size;omega⟩
 unfold Bz
 split
 ·exact⟨hb.ok,by omega,by omega⟩
 ·split
  ·exact wd (Kv hk (.inl rfl) hb)
  ·split
   ·exact wd (Kv hk (.inr rfl) ha)
   ·split
    ·exact⟨⟨by decide,hk,hb.ok⟩,by show max 0 b.hgt+1≤d+2;omega,by show 1+b.size+1≤2*z+5;omega⟩
    ·split
     ·exact⟨⟨by decide,hk,ha.ok⟩,by show max 0 a.hgt+1≤d+2;omega,by show 1+a.size+1≤2*z+5;omega⟩
     ·exact⟨⟨by decide,⟨by decide,hk,hb.ok⟩,⟨by decide,hk,ha.ok⟩⟩,by show max (max 0 b.hgt+1) (max 0 a.hgt+1)+1≤d+2;omega,by show (1+b.size+1)+(1+a.size+1)+1≤2*z+5;omega⟩
def Fj (k:Nat) (ts:List Tr) (n:Nat):List Tr:=(List.range n).map fun i=>Bz k (ts.getD (2*i) nev) (ts.getD (2*i+1) nev)
theorem IC (k:Nat) (ts:List Tr) (n:Nat):(Fj k ts n).length=n:=by unfold Fj;simp
theorem LI (k:Nat) (ts:List Tr) (n:Nat):Fj k ts (n+1)=Fj k ts n++[Bz k (ts.getD (2*n) nev) (ts.getD (2*n+1) nev)]:=by
 unfold Fj
 rw[List.range_succ,List.map_append]
 rfl
def zb:Nat→Nat
 | 0=>4
 | j+1=>2*zb j+5
structure Ui (m j:Nat) (row:List Int) (ts:List Tr):Prop where
 len:ts.length=2^(m-j)
 fit:∀t∈ts,K6 m (2+2*j) (zb j) t
 tru:∀(i:Nat) (t:Tr) (w:Int),ts[i]? = some t→0≤w→tv t w=decide (((i:Int)*2^j+w%2^j)∈row)
def MZ (m:Nat) (row:List Int):List Tr:=(B0 (2^m)).map fun w=>if w∈row then alw else nev
theorem RP {m:Nat} (h:0<m) (row:List Int):Ui m 0 row (MZ m row):=by
 refine⟨by unfold MZ;rw[List.length_map,DI];rfl,fun t ht=>?_,fun i t w hi hw=>?_⟩
 ·unfold MZ at ht
  obtain⟨k,_,rfl⟩:=List.mem_map.mp ht
  split
  ·exact⟨JO h,by decide,by decide⟩
  ·exact⟨LO h,by decide,by decide⟩
 ·unfold MZ at hi
  rw[List.getElem?_map] at hi
  obtain⟨k,hk,rfl⟩:=Option.map_eq_some_iff.mp hi
  have ek:k=(i:Int):=by
   unfold B0 at hk
   rw[List.getElem?_map] at hk
   obtain⟨x,hx,rfl⟩:=Option.map_eq_some_iff.mp hk
   obtain⟨h1,h2⟩:=List.getElem?_eq_some_iff.mp hx
   rw[List.getElem_range] at h2
   omega
  subst ek
  have e:(i:Int)*2^0+w%2^0=(i:Int):=by
   have:(2:Int)^0=1:=rfl
   rw[this];omega
  rw[e]
  by_cases hm:(i:Int)∈row
  ·rw[if_pos hm,JM,decide_eq_true hm]
  ·rw[if_neg hm,Ly,decide_eq_false hm]
theorem Of (w:Int) (j:Nat):w%2^(j+1)=w%2^j+2^j*(w / 2^j%2):=by
 have ha:(0:Int)<2^j:=pow_pos j
 rw[Int.pow_succ]
 generalize (2:Int)^j=a at ha
 have h1:=Int.emod_add_mul_ediv w a
 have h2:=Int.emod_add_mul_ediv (w / a) 2
 have n1:=Int.emod_nonneg w (show a≠0 by omega)
 have n2:=Int.emod_lt_of_pos w ha
 have e:(w%a+a*(w / a%2))+(a*2)*(w / a / 2)=w:=by
  rw[Int.mul_assoc,Int.add_assoc,←Int.mul_add,h2,h1]
 rcases Int.emod_two_eq (w / a) with z | z
 ·rw[z,Int.mul_zero,Int.add_zero] at e ⊢
  rw[←e,Int.add_mul_emod_self_left,e,Int.emod_eq_of_lt n1 (by omega)]
 ·rw[z,Int.mul_one] at e ⊢
  rw[←e,Int.add_mul_emod_self_left,e,Int.emod_eq_of_lt (by omega) (by omega)]
theorem Qk {m j:Nat} {row:List Int} {ts:List Tr} (hj:j<m) (h:Ui m j row ts):Ui m (j+1) row (Fj j ts (2^(m-(j+1)))):=by
 have e2:2^(m-j)=2*2^(m-(j+1)):=by
  rw[show m-j=(m-(j+1))+1 by omega,Nat.pow_succ,Nat.mul_comm]
 have hl:=h.len
 refine⟨IC _ _ _,fun t ht=>?_,fun i t w hi hw=>?_⟩
 ·unfold Fj at ht
  obtain⟨i,hi,rfl⟩:=List.mem_map.mp ht
  have hi':=List.mem_range.mp hi
  have g:∀q,q<ts.length→K6 m (2+2*j) (zb j) (ts.getD q nev):=fun q hq=>by
   rw[List.getD_eq_getElem?_getD,List.getElem?_eq_getElem hq]
   exact h.fit _ (List.getElem_mem hq)
  have:=Sb hj (g (2*i) (by omega)) (g (2*i+1) (by omega))
  exact⟨this.ok,by have:=this.hgt;omega,this.size⟩
 ·unfold Fj at hi
  rw[List.getElem?_map] at hi
  obtain⟨x,hx,rfl⟩:=Option.map_eq_some_iff.mp hi
  obtain⟨h1,h2⟩:=List.getElem?_eq_some_iff.mp hx
  rw[List.getElem_range] at h2
  subst h2
  rw[List.length_range] at h1
  have g:∀q,q<ts.length→ts[q]? = some (ts.getD q nev):=fun q hq=>by
   rw[List.getD_eq_getElem?_getD,List.getElem?_eq_getElem hq]
   rfl
  have t0:=h.tru (2*i) _ w (g (2*i) (by omega)) hw
  have t1:=h.tru (2*i+1) _ w (g (2*i+1) (by omega)) hw
  rw[TL,t0,t1,Of]
  have ep:(2:Int)^(j+1)=2^j*2:=Int.pow_succ 2 j
  unfold BN
  have c2:((2*i:Nat):Int)=2*(i:Int):=by omega
  have c3:((2*i+1:Nat):Int)=2*(i:Int)+1:=by omega
  rw[ep,c2,c3]
  have em:=Int.emod_two_eq (w / 2^j)
  rcases em with em | em
  ·rw[em]
   have ez:(2*(i:Int))*2^j+w%2^j=(i:Int)*(2^j*2)+(w%2^j+2^j*0):=by
    rw[Int.mul_zero,Int.add_zero,Int.mul_comm 2 (i:Int),Int.mul_assoc,Int.mul_comm 2 (2^j)]
   rw[←ez]
   simp
  ·rw[em]
   have ez:(2*(i:Int)+1)*2^j+w%2^j=(i:Int)*(2^j*2)+(w%2^j+2^j*1):=by
    rw[Int.add_mul,Int.one_mul,Int.mul_one,Int.mul_comm 2 (i:Int),Int.mul_assoc,Int.mul_comm 2 (2^j)]
    omega
   rw[←ez]
   simp
abbrev Fv:Stmt:=By 28
abbrev Cf:Stmt:=By 27
abbrev BF:Stmt:=By 26
structure KC (K:PySem.W.Frag) (mg:Str→Option Value) (aA aN:Addr):Prop where
 mA:mg "ALWAYS"=some (.ref aA)
 mN:mg "NEVER"=some (.ref aN)
 tA:∀H,alw.AtK K H (.ref aA)
 tN:∀H,nev.AtK K H (.ref aN)
def Mo (K:PySem.W.Frag):Sp:=fun vs H Q _=>∃(v1 v2:V) (t u:Tr) (m:Nat),vs=[v1,v2]∧0<m∧t.ok m∧u.ok m∧t.AtK K H v1∧u.AtK K H v2∧u.hgt≤100∧∀(v:V) (H':Hp),Same H H'→(Gf t u).AtK K H' v→Q v H'
def HP (K:PySem.W.Frag):Sp:=fun vs H Q _=>∃(k m:Nat) (v1 v2:V) (a b:Tr),vs=[.int (k:Int),v1,v2]∧k<m∧a.ok m∧b.ok m∧a.AtK K H v1∧b.AtK K H v2∧a.hgt≤90∧b.hgt≤90∧∀(v:V) (H':Hp),Same H H'→(Bz k a b).AtK K H' v→Q v H'
def Fk (K:PySem.W.Frag):Sp:=fun vs H Q _=>∃(r:Addr) (row:List Int) (m:Nat),vs=[.ref r,.int (m:Int)]∧SqL K H r (row.map V.int)∧1≤m∧m≤5∧
 ∀(v:V) (t:Tr) (H':Hp),Same H H'→t.AtK K H' v→K6 m 12 283 t→(∀w:Int,0≤w→w<2^m→tv t w=decide (w∈row))→Q v H'
theorem Tz {tb:L2.TS} {D:Cg} {σ:L2.St} {H:Hp} (h:tb D σ H):DC J7 tb D σ H:=by
 show if true=true then tb D σ H else D.nx σ H
 rw[if_pos rfl]
 exact h
section
variable {aA aN:Addr}
theorem RI:Aq ["one","other"] ["one","other"] (Ae Fv):=Bx
theorem Ql (F:Fun K "both" "both" Fv f fd) (C:KC K mg aA aN):FnOk P w K mg bz AG 1 f fd ["one","other"] (Mo K):=by
 refine F.ok RI (fun vs H Q E h=>?_) (fun cdv A outer s H vs Q E hr h=>?_)
 ·obtain⟨v1,v2,t,u,m,rfl,_⟩:=h
  rfl
 obtain⟨v1,v2,t,u,m,rfl,hm,ht,hu,h1,h2,hg,q⟩:=h
 refine⟨_,Ac (AB (Ak (D1 hr.units150) (pv 1) (Dq (v:=.ref aA) (by rfl) C.mA rfl) (Ar _))
   (Ad (Ai (pv 0)))
   Al)
  (Ad (Ai (Bb (Aa Aw (Aa (pv 0) (Aa (pv 1) Ab)))))),?_⟩
 unfold Gf at q
 refine⟨_,rfl,u,alw,m,hu,JO hm,h2,C.tA _,hg,_,rfl,?_⟩
 by_cases h0:u=alw
 ·refine Bc h0 ?_
  simp only[if_pos h0] at q
  exact⟨_,rfl,q _ _ (Same.refl _) h1⟩
 ·refine A0 h0 ?_
  simp only[if_neg h0] at q
  refine⟨_,rfl,_,rfl,M9,fun p hp=>?_⟩
  have s1:=Af hp (.tup [.str "and",v1,v2])
  exact q _ _ s1 ⟨p,v1,v2,rfl,.inl upd_same,h1.same s1,h2.same s1⟩
theorem Ld:Aq ["letter","without","within"] ["letter","without","within"] (Ae Cf):=Bx
theorem J8 {g:Addr} {gd:FuncData} (F:Fun K "by_letter" "by_letter" Cf f fd) (C:KC K mg aA aN) (GB:FnOk P w K mg bz AG 1 g gd ["one","other"] (Mo K)) (CB:AM K mg "both" g gd ["one","other"]):FnOk P w K mg bz AG 2 f fd ["letter","without","within"] (HP K):=by
 refine F.ok Ld (fun vs H Q E h=>?_) (fun cdv A outer s H vs Q E hr h=>?_)
 ·obtain⟨k,m,v1,v2,a,b,rfl,_⟩:=h
  rfl
 obtain⟨k,m,v1,v2,a,b,rfl,hk,ha,hb,h1,h2,g1,g2,q⟩:=h
 have hm:0<m:=by omega
 refine⟨_,Ac (AB (Ak (D1 hr.units150) (pv 1) (pv 2) (Ar _))
   (Ad (Ai (pv 2)))
   Al)
  (Ac (AB (Ak (D1 hr.units150) (pv 1) (Dq (v:=.ref aN) (by rfl) C.mN rfl) (Ar _))
   (Ad (Ai (Ah GB hr (by rfl) CB.m CB.k CB.b .nil Ao (Aa (Bb (Aa Aw (Aa (pv 0) Ab))) (Aa (pv 2) Ab)))))
   Al)
  (Ac (AB (Ak (D1 hr.units150) (pv 2) (Dq (v:=.ref aN) (by rfl) C.mN rfl) (Ar _))
   (Ad (Ai (Ah GB hr (by rfl) CB.m CB.k CB.b .nil Ao (Aa (Bb (Aa Aw (Aa (Bb (Aa Aw (Aa (pv 0) Ab))) Ab))) (Aa (pv 1) Ab)))))
   Al)
  (Ac (AB (Ak (D1 hr.units150) (pv 1) (Dq (v:=.ref aA) (by rfl) C.mA rfl) (Ar _))
   (Ad (Ai (Bb (Aa Aw (Aa (Bb (Aa Aw (Aa (pv 0) Ab))) (Aa (pv 2) Ab))))))
   Al)
  (Ac (AB (Ak (D1 hr.units150) (pv 2) (Dq (v:=.ref aA) (by rfl) C.mA rfl) (Ar _))
   (Ad (Ai (Bb (Aa Aw (Aa (Bb (Aa Aw (Aa (pv 0) Ab))) (Aa (pv 1) Ab))))))
   Al)
  (Ad (Ai (Bb (Aa Aw (Aa (Bb (Aa Aw (Aa (Bb (Aa Aw (Aa (pv 0) Ab))) (Aa (pv 2) Ab)))) (Aa (Bb (Aa Aw (Aa (Bb (Aa Aw (Aa (pv 0) Ab))) (Aa (pv 1) Ab)))) Ab)))))))))),?_⟩
 unfold Bz at q
 refine⟨_,rfl,_,rfl,a,b,m,ha,hb,h1,h2,by omega,_,rfl,?_⟩
 by_cases h0:a=b
 ·refine Bc h0 ?_
  simp only[if_pos h0] at q
  exact⟨_,rfl,q _ _ (Same.refl _) h2⟩
 refine A0 h0 ?_
 simp only[if_neg h0] at q
 refine⟨_,rfl,a,nev,m,ha,LO hm,h1,C.tN _,by omega,_,rfl,?_⟩
 by_cases h3:a=nev
 ·refine Bc h3 ?_
  simp only[if_pos h3] at q
  refine⟨_,rfl,Fl,fun p hp=>?_⟩
  have s1:=Af hp (.tup [.str "let",.int (k:Int)])
  exact⟨_,rfl,_,v2,.lt k,b,m,rfl,hm,hk,hb,⟨p,rfl,.inl upd_same⟩,h2.same s1,by omega,fun v H' s' hv=>q v H' (s1.trans s') hv⟩
 refine A0 h3 ?_
 simp only[if_neg h3] at q
 refine⟨_,rfl,b,nev,m,hb,LO hm,h2,C.tN _,by omega,_,rfl,?_⟩
 by_cases h4:b=nev
 ·refine Bc h4 ?_
  simp only[if_pos h4] at q
  refine⟨_,rfl,Fl,fun p hp=>?_⟩
  have s1:=Af hp (.tup [.str "let",.int (k:Int)])
  refine⟨Fl,fun p2 hp2=>?_⟩
  have s2:=Af hp2 (.tup [.str "not",.ref p])
  have s12:=s1.trans s2
  exact⟨_,rfl,_,v1,.nt (.lt k),a,m,rfl,hm,hk,ha,⟨p2,_,rfl,.inl upd_same,p,rfl,.inl (s2 _ _ upd_same)⟩,h1.same s12,by omega,fun v H' s' hv=>q v H' (s12.trans s') hv⟩
 refine A0 h4 ?_
 simp only[if_neg h4] at q
 refine⟨_,rfl,a,alw,m,ha,JO hm,h1,C.tA _,by omega,_,rfl,?_⟩
 by_cases h5:a=alw
 ·refine Bc h5 ?_
  simp only[if_pos h5] at q
  refine⟨_,rfl,Fl,fun p hp=>?_⟩
  have s1:=Af hp (.tup [.str "let",.int (k:Int)])
  refine⟨_,rfl,M9,fun p2 hp2=>?_⟩
  have s2:=Af hp2 (.tup [.str "if",.ref p,v2])
  have s12:=s1.trans s2
  exact q _ _ s12 ⟨p2,_,_,rfl,.inl upd_same,⟨p,rfl,.inl (s2 _ _ upd_same)⟩,h2.same s12⟩
 refine A0 h5 ?_
 simp only[if_neg h5] at q
 refine⟨_,rfl,b,alw,m,hb,JO hm,h2,C.tA _,by omega,_,rfl,?_⟩
 by_cases h6:b=alw
 ·refine Bc h6 ?_
  simp only[if_pos h6] at q
  refine⟨_,rfl,Fl,fun p hp=>?_⟩
  have s1:=Af hp (.tup [.str "let",.int (k:Int)])
  refine⟨_,rfl,M9,fun p2 hp2=>?_⟩
  have s2:=Af hp2 (.tup [.str "or",.ref p,v1])
  have s12:=s1.trans s2
  exact q _ _ s12 ⟨p2,_,_,rfl,.inl upd_same,⟨p,rfl,.inl (s2 _ _ upd_same)⟩,h1.same s12⟩
 refine A0 h6 ?_
 simp only[if_neg h6] at q
 refine⟨_,rfl,Fl,fun p hp=>?_⟩
 have s1:=Af hp (.tup [.str "let",.int (k:Int)])
 refine⟨_,rfl,M9,fun p2 hp2=>?_⟩
 have s2:=Af hp2 (.tup [.str "if",.ref p,v2])
 refine⟨_,rfl,Fl,fun p3 hp3=>?_⟩
 have s3:=Af hp3 (.tup [.str "let",.int (k:Int)])
 refine⟨_,rfl,M9,fun p4 hp4=>?_⟩
 have s4:=Af hp4 (.tup [.str "or",.ref p3,v1])
 refine⟨M9,fun p5 hp5=>?_⟩
 have s5:=Af hp5 (.tup [.str "and",.ref p2,.ref p4])
 have s25:=s3.trans (s4.trans s5)
 have s45:=s4.trans s5
 have s15:=s1.trans (s2.trans s25)
 exact q _ _ s15 ⟨p5,_,_,rfl,.inl upd_same,⟨p2,_,_,rfl,.inl (s25 _ _ upd_same),⟨p,rfl,.inl (s2.trans s25 _ _ upd_same)⟩,h2.same s15⟩,⟨p4,_,_,rfl,.inl (s5 _ _ upd_same),⟨p3,rfl,.inl (s45 _ _ upd_same)⟩,h1.same s15⟩⟩
theorem scSentenceOf:Aq ["worlds","many","parts","letter"] ["worlds","many"] (Ae BF):=Bx
theorem LF {m d z:Nat} {ts:List Tr} (h:∀t∈ts,K6 m d z t) {i:Nat} {t:Tr} (e:ts[i]? = some t):K6 m d z t:=h t (List.mem_of_getElem? e)
theorem Vc {j:Nat} (h:j≤5):zb j≤283:=by
 match j,h with
 | 0,_=>decide
 | 1,_=>decide
 | 2,_=>decide
 | 3,_=>decide
 | 4,_=>decide
 | 5,_=>decide
theorem Ig {g g2:Addr} {gd gd2:FuncData} (F:Fun K "sentence_of" "sentence_of" BF f fd) (C:KC K mg aA aN) (B:Bl mg) (GA:FnOk P w K mg bz AG 1 g gd ["many"] E2) (CA:AM K mg "all_worlds" g gd ["many"])
  (GB:FnOk P w K mg bz AG 2 g2 gd2 ["letter","without","within"] (HP K)) (CB:AM K mg "by_letter" g2 gd2 ["letter","without","within"]):FnOk P w K mg bz AG 3 f fd ["worlds","many"] (Fk K):=by
 refine F.ok scSentenceOf (fun vs H Q E h=>?_) (fun cdv A outer s H vs Q E hr h=>?_)
 ·obtain⟨r,row,m,rfl,_⟩:=h
  rfl
 obtain⟨r,row,m,rfl,hS,hm1,hm5,q⟩:=h
 have hr1:Room 1 _:=hr.mono (by decide)
 have h32:=HQ hm5
 refine⟨_,Ac (Az (i:=2) scSentenceOf.nd rfl (Or.inr rfl) (Bm (N:=["world","worlds"]) (js:=[none,some 0]) (cl:=[("worlds",s.heap.objs.size+1)]) ⟨rfl,rfl,rfl,(by intro p hp;simp at hp;rcases hp with rfl<;>rfl),rfl,rfl,rfl⟩ (AW (Ah GA hr1 (by rfl) CA.m CA.k CA.b .nil Ao (Aa (pv 1) Ab))) (fun c1=>(AE (i:=0) (show (["world","worlds"]:List Str).Nodup by decide +kernel) rfl (Or.inl rfl))) (fun c1=>BI) (fun c1=>(OZ (Ak FH (pv 0) (pv 1) (by with_unfolding_all rfl)) (Dq (v:=.ref aA) (by rfl) C.mA rfl) (Dq (v:=.ref aN) (by rfl) C.mN rfl)))))
  (Ac (BR PassesOwn.never rfl (FY (by rfl) B.range (Aa (pv 1) Ab)) (AE (i:=3) scSentenceOf.nd rfl (Or.inr rfl))
   (Ad (Az (i:=2) scSentenceOf.nd rfl (Or.inr rfl) (Bm (N:=["at","letter","parts"]) (js:=[none,some 3,some 2]) (cl:=[("parts",s.heap.objs.size+2),("letter",s.heap.objs.size+3)]) ⟨rfl,rfl,rfl,(by intro p hp;simp at hp;rcases hp with rfl | rfl<;>rfl),rfl,rfl,rfl⟩ (NC (by rfl) B.range (Aa Ag (Aa (Av Au (by rfl) B.len PySem.boot_len (Aa (pv 2) Ab)) (Aa Ag Ab)))) (fun c1=>(AE (i:=0) (show (["at","letter","parts"]:List Str).Nodup by decide +kernel) rfl (Or.inl rfl))) (fun c1=>BI) (fun c1=>(Ah GB hr (by rfl) CB.m CB.k CB.b .nil Ao (Aa (pv 1) (Aa (AC AT (pv 2) (pv 0) (fun _ _=>rfl)) (Aa (AC AT (pv 2) (AD Ch (pv 0) Ag) (fun _ _=>rfl)) Ab)))))))))
  (Ad (Ai (AC AT (pv 2) Ag (fun _ _=>rfl))))),?_⟩
 refine⟨_,rfl,m,rfl,hm1,hm5,fun wl H1 s1 hwl0 hwl=>?_⟩
 refine⟨wl,rfl,⟨_,SqL.of hwl⟩,fun c1 acc hacc=>Nk (vs:=(B0 (2^m)).map fun k=>if k∈row then V.ref aA else V.ref aN) (rest:=[some (.ref r)]) (SqL.of hwl) hacc (by rw[List.length_map,DI];omega) (by rw[List.length_map,List.length_map]) (fun i x b hx hb H2 s2 R hR=>?_) (fun v0 H2 s2 h2=>?_) none⟩
 ·rw[List.getElem?_map] at hx hb
  obtain⟨k,hk,rfl⟩:=Option.map_eq_some_iff.mp hx
  rw[hk] at hb
  have hb':(if k∈row then V.ref aA else V.ref aN)=b:=Option.some.inj hb
  refine⟨_,rfl,_,rfl,Le ((s1.trans s2).seq hS) ⟨_,rfl,?_⟩⟩
  by_cases hm:k∈row
  ·refine Bc hm ?_
   rw[if_pos hm] at hb'
   subst hb'
   exact hR H2 (Same.refl _)
  ·refine A0 hm ?_
   rw[if_neg hm] at hb'
   subst hb'
   exact hR H2 (Same.refl _)
 have P0:PileK K H2 ((B0 (2^m)).map fun k=>if k∈row then V.ref aA else V.ref aN) (MZ m row):=by
  unfold MZ
  generalize B0 (2^m)=us
  induction us with
  | nil=>exact .nil
  | cons k us ih=>
   refine .cons ?_ ih
   show Tr.AtK K H2 (if k∈row then alw else nev) (if k∈row then V.ref aA else V.ref aN)
   by_cases hm:k∈row
   ·rw[if_pos hm,if_pos hm];exact C.tA _
   ·rw[if_neg hm,if_neg hm];exact C.tN _
 refine⟨_,rfl,_,rfl,(by omega),(by omega),Cc (fun j σ H3=>∃(pl:Addr) (lv:Option V) (xs:List V) (ts:List Tr),σ=[some (.ref r),some (.int (m:Int)),some (.ref pl),lv]∧Same H H3∧H3 pl=some (.lst xs)∧PileK K H3 xs ts∧Ui m j row ts) ⟨acc,_,_,_,rfl,s1.trans s2,h2,P0,RP (by omega) row⟩ ?_ ?_⟩
 ·rintro j σ H3 hj ⟨pl,lv,xs,ts,rfl,s3,h3,p3,L3⟩
  have hj':j<m:=by
   have:j<((m:Int)).toNat:=hj
   omega
  rw[Int.zero_add]
  have hlen:=p3.len
  have hl3:=L3.len
  have e2:2^(m-j)=2*2^(m-(j+1)):=by
   rw[show m-j=(m-(j+1))+1 by omega,Nat.pow_succ,Nat.mul_comm]
  have hb1:2^(m-(j+1))≤32:=Nat.le_trans (Nat.pow_le_pow_right (by decide) (show m-(j+1)≤5 by omega)) (by decide)
  refine⟨_,rfl,pl,_,rfl,.inl (SqL.of h3),2^(m-(j+1)),?_,by omega,fun c1 ac hac=>PP (n:=2^(m-(j+1))) (fun i σ H4=>∃(v0:Option V) (ys:List V),σ=[v0,some (.int (j:Int)),some (.ref pl)]∧Same H3 H4∧H4 ac=some (.lst ys)∧PileK K H4 ys (Fj j ts i)) ⟨_,[],rfl,Af hac _,upd_same,.nil⟩ ?_ ?_⟩
  ·have:(xs.length:Int)=2*((2^(m-(j+1)):Nat):Int):=by omega
   rw[this]
  ·rintro i σ H4 hi ⟨v0,ys,rfl,s4,h4,p4⟩
   have hp4:=s4 _ _ h3
   have q3:=p3.keep (TS.same s4)
   have i0:2*i<ts.length:=by omega
   have i1:2*i+1<ts.length:=by omega
   have t0:ts[2*i]? = some (ts.getD (2*i) nev):=by rw[List.getD_eq_getElem?_getD,List.getElem?_eq_getElem i0];rfl
   have t1:ts[2*i+1]? = some (ts.getD (2*i+1) nev):=by rw[List.getD_eq_getElem?_getD,List.getElem?_eq_getElem i1];rfl
   obtain⟨x0,hx0,a0⟩:=q3.at t0
   obtain⟨x1,hx1,a1⟩:=q3.at t1
   have f0:=LF L3.fit t0
   have f1:=LF L3.fit t1
   have g0:=f0.hgt
   have g1:=f1.hgt
   show DC J7 (BX ac _) _ _ _
   refine Tz ?_
   refine⟨_,rfl,_,rfl,_,rfl,pl,_,_,_,rfl,rfl,SqL.of hp4,?_,_,rfl,_,rfl,_,_,rfl,rfl,pl,_,_,_,rfl,rfl,SqL.of hp4,?_,j,m,x0,x1,_,_,rfl,hj',f0.ok,f1.ok,a0,a1,by omega,by omega,fun v H5 s5 hv=>?_⟩
   ·exact (show Ia xs ((2*i:Nat):Int)=some x0 from Aj hx0)
   ·exact (show Ia xs ((2*i+1:Nat):Int)=some x1 from Aj hx1)
   ·have h5:=s5 _ _ h4
    have ly:=p4.len
    rw[IC] at ly
    refine⟨_,h5,AF (by omega),?_⟩
    have k5:HT2.TS H5 (upd H5 ac (.lst (ys++[v]))):=TS.lst h5
    refine⟨_,ys++[v],rfl,AI (s4.trans s5) hac _,upd_same,?_⟩
    rw[LI]
    exact ((p4.keep (TS.same s5)).keep k5).snoc (hv.keep k5)
  ·rintro σ H4 ⟨v0,ys,rfl,s4,h4,p4⟩
   exact⟨ac,_,ys,_,rfl,s3.trans s4,h4,p4,Qk hj' L3⟩
 ·rintro σ H3 ⟨pl,lv,xs,ts,rfl,s3,h3,p3,L3⟩
  have em:((m:Int)).toNat=m:=rfl
  rw[em] at L3
  have hl:=L3.len
  rw[Nat.sub_self] at hl
  have h0:ts[0]? = some (ts.getD 0 nev):=by rw[List.getD_eq_getElem?_getD,List.getElem?_eq_getElem (by omega)];rfl
  obtain⟨x0,hx0,a0⟩:=p3.at h0
  have f0:=LF L3.fit h0
  have f1:=f0.hgt
  have f2:=f0.size
  refine⟨_,rfl,pl,_,_,_,rfl,rfl,SqL.of h3,Aj (j:=0) hx0,q x0 _ H3 s3 a0 ⟨f0.ok,by omega,Nat.le_trans f2 (Vc hm5)⟩ fun w hw0 hw1=>?_⟩
  rw[L3.tru 0 _ w h0 hw0]
  have e:((0:Nat):Int)*2^m+w%2^m=w:=by
   rw[Int.emod_eq_of_lt hw0 hw1]
   simp
  rw[e]
end
theorem JR {i:Nat} {v:V} {σ σ' σ0:L2.St} {H:Hp} {N B C:L2.St→Hp→Prop} {R:VK} (e:σ.set i (some v)=σ') (h:N σ' H):({ nx:=fun _ H'=>(fun x H1=>Dd i x σ H1 N) v H',rt:=R,bk:=B,ct:=C }:Cg).nx σ0 H:=by
 subst e
 exact h
theorem HU {t u:L2.TS} {D:Cg} {R:VK} {B C:L2.St→Hp→Prop} {σ:L2.St} {H:Hp} (Mid:L2.St→Hp→Prop) (h2:∀σ' H',Mid σ' H'→u D σ' H') (h1:(∀σ' H',Mid σ' H'→u D σ' H')→t { D with nx:=u D } σ H):({ nx:=R7 t u D,rt:=R,bk:=B,ct:=C }:Cg).nx σ H:=h1 h2
theorem LJ {i:Nat} {v:V} {σ σ':L2.St} {H:Hp} {N:L2.St→Hp→Prop} (e:σ.set i (some v)=σ') (h:N σ' H):Dd i v σ H N:=by
 subst e
 exact h
def Wr (row:List Int):Prop:=row.Pairwise (· < ·)∧∀k∈row,0≤k∧k<32
theorem Wr.sub {a b:List Int} (h:Wr b) (s:a.Sublist b):Wr a:=⟨h.1.sublist s,fun k hk=>h.2 k (s.subset hk)⟩
theorem Mj {m:Nat} (h:m≤5):Wr (B0 (2^m)):=⟨QD _,fun k hk=>by
 have:=mem_upto.mp hk
 have h2:=HQ h
 have:((2^m:Nat):Int)≤32:=by omega
 omega⟩
theorem Wr.len {row:List Int} (h:Wr row):row.length≤32:=by
 have nd:row.Nodup:=h.1.imp fun h=>by omega
 have:=Ei (l2:=B0 32) nd fun k hk=>mem_upto.mpr (h.2 k hk)
 rw[DI] at this
 exact this
theorem Bi {z:Str} {t:Tr} {row s:List Int} (h:s∈As z t row):s.Sublist row:=by
 unfold As at h
 split at h
 ·rw[List.mem_singleton.mp h];exact List.filter_sublist
 ·split at h
  ·rw[List.mem_singleton.mp h];exact List.filter_sublist
  ·simp only[List.mem_cons,List.not_mem_nil,or_false] at h
   rcases h with rfl | rfl
   ·exact List.filter_sublist
   ·exact List.filter_sublist
theorem O2 {z:Str} {t:Tr} {row s:List Int} (k:FL z t row) (h:s∈As z t row):s≠[]:=by
 unfold As at h
 rcases k with⟨rfl,k⟩|⟨rfl,k⟩|⟨rfl,k1,k2⟩
 ·rw[if_pos rfl] at h
  rw[List.mem_singleton.mp h];exact k
 ·rw[if_neg (by decide),if_pos rfl] at h
  rw[List.mem_singleton.mp h];exact k
 ·rw[if_neg (by decide),if_neg (by decide)] at h
  simp only[List.mem_cons,List.not_mem_nil,or_false] at h
  rcases h with rfl | rfl
  ·exact k1
  ·exact k2
theorem DZ {z:Str} {t:Tr} {row:List Int}:(∃a,As z t row=[a])∨∃a b,As z t row=[a,b]:=by
 unfold As
 split
 ·exact .inl ⟨_,rfl⟩
 ·split
  ·exact .inl ⟨_,rfl⟩
  ·exact .inr ⟨_,_,rfl⟩
theorem base_sub {row:List Int} {sides:List (List Int)}:(BM row sides).Sublist row:=List.filter_sublist
theorem RS {K:PySem.W.Frag} {H:Hp} {t:Tr} {v:V} (h:t.AtK K H v):∃p z cs,v= .ref p∧TupAt K H p (z::cs)∧((z= .str "let"∧EE t=[])∨(¬(z= .str "let")∧(∃x,z= .str x)∧PileK K H cs (EE t)∧0<cs.length∧cs.length≤2)):=by
 cases t with
 | lt k=>
  obtain⟨p,e,hp⟩:=h
  exact⟨p,_,_,e,hp,.inl ⟨rfl,rfl⟩⟩
 | nt t=>
  obtain⟨p,u,e,hp,ha⟩:=h
  exact⟨p,_,_,e,hp,.inr ⟨by decide,⟨_,rfl⟩,.cons ha .nil,Nat.succ_pos _,by show 1≤2;decide⟩⟩
 | bn j a b=>
  obtain⟨p,x,y,e,hp,ha,hb⟩:=h
  exact⟨p,_,_,e,hp,.inr ⟨EQ,⟨_,rfl⟩,.cons ha (.cons hb .nil),Nat.succ_pos _,Nat.le_refl _⟩⟩
abbrev Fx:Stmt:=By 14
def Jz (K:PySem.W.Frag):Sp:=fun vs H Q _=>∃(a:Addr) (xs:List V) (ts:List Tr),vs=[.ref a]∧SqL K H a xs∧PileK K H xs ts∧sz ts≤900∧
 ∀(r:Addr) (ys:List V) (H':Hp),Same H H'→H' r=some (.lst ys)→PileK K H' ys (BW ts)→Q (.ref r) H'
section
theorem Q0:Aq ["layer"] ["layer"] (Ae Fx):=Bx
theorem Tg:(["sentence","part"]:List Str).Nodup:=by decide +kernel
theorem Py (F:Fun K "parts_of" "parts_of" Fx f fd):FnOk P w K mg bz AG 1 f fd ["layer"] (Jz K):=by
 refine F.ok Q0 (fun vs H Q E h=>?_) (fun cdv A outer s H vs Q E hr h=>?_)
 ·obtain⟨a,xs,ts,rfl,_⟩:=h
  rfl
 obtain⟨a,xs,ts,rfl,hS,hp,hsz,q⟩:=h
 refine⟨_,Ad (Ai (Oc (N:=["sentence","part"]) (js:=[none,none]) (cl:=[]) ⟨rfl,rfl,rfl,List.forall_mem_nil _,rfl,rfl,rfl⟩ (AW (pv 0)) (fun _=>AE (i:=0) Tg rfl (Or.inl rfl))
  (fun _=>BV (Ak ID (AC AH (pv 0) Ag (fun _ _=>rfl)) Aw (Ar _))) (fun _=>PQ (DQ Pg (pv 0) (E8 Ag) Fd)) (fun _=>AE (i:=1) Tg rfl (Or.inl rfl)) (fun _=>BI) (fun _=>pv 1))),?_⟩
 refine⟨_,rfl,a,rfl,⟨_,hS⟩,fun cc acc hacc=>A4 (K:=K) (a:=a) (xs:=xs) (fun i σ H2=>∃(v0 v1:Option V) (ys:List V),σ=[v0,v1]∧Same H H2∧H2 acc=some (.lst ys)∧PileK K H2 ys (BW (ts.take i))) ?_ ?_ ?_ ?_⟩
 ·exact⟨none,none,[],rfl,Af hacc _,upd_same,.nil⟩
 ·rintro i σ H2 _ ⟨v0,v1,ys,rfl,s2,_,_⟩
  exact s2.seq hS
 ·rintro i x σ H2 hx ⟨v0,v1,ys,rfl,s2,ha2,hp2⟩
  obtain⟨t,ht,hat⟩:=PileK.get hp hx
  have hat2:=hat.keep (TS.same s2)
  obtain⟨p,z,cs,rfl,hpt,hk⟩:=RS hat2
  have zstr:∃y,z= .str y:=by
   rcases hk with⟨e,_⟩|⟨_,e,_⟩
   ·exact⟨_,e⟩
   ·exact e
  obtain⟨y,rfl⟩:=zstr
  refine⟨_,rfl,p,_,_,_,rfl,rfl,hpt.sq,Aj (j:=0) rfl,rfl,_,rfl,?_⟩
  rcases hk with⟨e,ek⟩|⟨ne,_,hcs,_,_⟩
  ·refine Gj e ?_
   refine⟨_,_,ys,rfl,s2,ha2,?_⟩
   rw[FP ht,ek,List.append_nil]
   exact hp2
  ·refine P6 ne ?_
   refine⟨_,rfl,_,rfl,p,_,rfl,hpt.sq,KB,fun c hc=>⟨c,rfl,⟨_,SqT.of upd_same⟩,L7 (K:=K) (a:=c) (xs:=Ct (V.str y::cs) (some 1) none) (fun j σ H3=>∃(v1:Option V) (ys:List V),σ=[some (.ref p),v1]∧Same H H3∧H3 acc=some (.lst ys)∧H3 c=some (.tup (Ct (V.str y::cs) (some 1) none))∧PileK K H3 cs (EE t)∧PileK K H3 ys (BW (ts.take i)++(EE t).take j)) ?_ ?_ ?_ ?_⟩⟩
   ·refine⟨_,ys,rfl,s2.trans (Af hc _),(Af hc _) _ _ ha2,upd_same,hcs.keep (TS.new hc),?_⟩
    rw[List.take_zero,List.append_nil]
    exact hp2.keep (TS.new hc)
   ·rintro j σ H3 _ ⟨v1,ys,rfl,s3,_,hc3,_⟩
    exact SqT.of hc3
   ·rintro j u σ H3 hu ⟨v1,ys,rfl,s3,ha3,hc3,hcs3,hp3⟩
    rw[Og] at hu
    obtain⟨t2,ht2,hat3⟩:=PileK.get hcs3 hu
    have hlen:=hp3.len
    have hb:=Kt (j:=j) ht
    show BX acc (Qh 1) _ _ _
    refine⟨_,rfl,ys,ha3,AF (by omega),?_⟩
    have k3:TS H3 (upd H3 acc (.lst (ys++[u]))):=TS.lst ha3
    refine⟨_,ys++[u],rfl,AI s3 hacc _,upd_same,by rw[Ax (Ev hc3 ha3 (by intro z;cases z))];exact hc3,hcs3.keep k3,?_⟩
    rw[List.take_add_one,ht2,←List.append_assoc]
    exact (hp3.keep k3).snoc (hat3.keep k3)
   ·rintro σ H3 ⟨v1,ys,rfl,s3,ha3,hc3,hcs3,hp3⟩
    refine⟨_,_,ys,rfl,s3,ha3,?_⟩
    rw[Og] at hp3
    have hl:=hcs3.len
    rw[hl,List.take_length] at hp3
    rw[FP ht]
    exact hp3
 ·rintro σ H2 ⟨v0,v1,ys,rfl,s2,ha2,hp2⟩
  rw[hp.len,List.take_length] at hp2
  exact q acc ys H2 s2 ha2 hp2
end
abbrev FN:Stmt:=By 19
def Mz:Sp:=fun vs H Q _=>∃(k:Nat) (w:Int),vs=[.int (k:Int),.int w]∧Q (.bl (BN k w)) H
theorem QJ (k:Nat) (w:Int):decide (V.int (Builtin.bitAnd (w / 2^((k:Int)).toNat) 1)=V.int 1)=BN k w:=by
 rw[bitAnd_m1,Int.toNat_natCast]
 exact Li k w
section
theorem Q6:Aq ["letter","world"] ["letter","world"] (Ae FN):=Bx
theorem Pr (F:Fun K "letter_holds" "letter_holds" FN f fd):FnOk P w K mg bz AG 1 f fd ["letter","world"] Mz:=by
 refine F.ok Q6 (fun vs H Q E h=>?_) (fun cdv A outer s H vs Q E hr h=>?_)
 ·obtain⟨k,w,rfl,_⟩:=h
  rfl
 obtain⟨k,wd,rfl,q⟩:=h
 refine⟨_,Ad (Ai (Be AN (AD S0 (AD SB (pv 1) (pv 0)) Ag) Ag (Ar _))),?_⟩
 refine⟨_,rfl,_,rfl,_,_,rfl,rfl,Int.natCast_nonneg k,_,_,rfl,rfl,rfl,?_⟩
 rw[←QJ] at q
 exact q
end
abbrev El:Stmt:=By 20
abbrev Fn:Stmt:=By 21
abbrev Em:Stmt:=By 22
def JZ:Sp:=fun vs H Q _=>∃(j:Nat) (a b:Bool),vs=[.str (jn j),.bl a,.bl b]∧Q (.bl (jv j a b)) H
def post:Tr→List Tr
 | .lt k=>[.lt k]
 | .nt t=>post t++[.nt t]
 | .bn j a b=>post a++(post b++[.bn j a b])
theorem PY:∀t:Tr,post t=(EE t).flatMap post++[t]
 | .lt k=>rfl
 | .nt t=>by show post t++[.nt t]=(post t++[])++[.nt t];rw[List.append_nil]
 | .bn j a b=>by show post a++(post b++[.bn j a b])=(post a++(post b++[]))++[.bn j a b];rw[List.append_nil,List.append_assoc]
theorem Db:∀t:Tr,(post t).length=t.size
 | .lt k=>rfl
 | .nt t=>by show (post t++[Tr.nt t]).length=t.size+1;rw[List.length_append,Db t];rfl
 | .bn j a b=>by
  show (post a++(post b++[Tr.bn j a b])).length=a.size+b.size+1
  rw[List.length_append,List.length_append,Db a,Db b]
  show a.size+(b.size+1)=_
  omega
def stp (w:Int) (rs:List Bool):Tr→Option (List Bool)
 | .lt k=>some (BN k w::rs)
 | .nt _=>match rs with
  | a::r=>some ((!a)::r)
  | []=>none
 | .bn j _ _=>match rs with
  | b::a::r=>some (jv j a b::r)
  | _=>none
def run (w:Int):List Tr→List Bool→Option (List Bool)
 | [],rs=>some rs
 | u::r,rs=>match stp w rs u with
  | some rs'=>run w r rs'
  | none=>none
theorem Gv (w:Int):∀(a b:List Tr) (rs rs':List Bool),run w a rs=some rs'→run w (a++b) rs=run w b rs'
 | [],b,rs,rs',h=>by cases h;rfl
 | u::r,b,rs,rs',h=>by
  unfold run at h
  show (match stp w rs u with | some rs'=>run w (r++b) rs' | none=>none)=run w b rs'
  cases e:stp w rs u with
  | none=>rw[e] at h;cases h
  | some z=>rw[e] at h;exact Gv w r b z rs' h
theorem ET (w:Int):∀(t:Tr) (rs:List Bool),run w (post t) rs=some (tv t w::rs)
 | .lt k,rs=>rfl
 | .nt t,rs=>by
  show run w (post t++[.nt t]) rs=_
  rw[Gv w _ _ _ _ (ET w t rs)]
  rfl
 | .bn j a b,rs=>by
  show run w (post a++(post b++[.bn j a b])) rs=_
  rw[Gv w _ _ _ _ (ET w a rs),Gv w _ _ _ _ (ET w b _)]
  rfl
def Mn (K:PySem.W.Frag):Sp:=fun vs H Q _=>∃(v:V) (t:Tr),vs=[v]∧t.AtK K H v∧t.size≤800∧∀(l:Addr) (ys:List V) (H':Hp),Same H H'→H l=none→H' l=some (.lst ys)→PileK K H' ys (post t)→Q (.ref l) H'
def KO (K:PySem.W.Frag):Sp:=fun vs H Q _=>∃(l:Addr) (ys:List V) (t:Tr) (w:Int),vs=[.ref l,.int w]∧H l=some (.lst ys)∧PileK K H ys (post t)∧t.ok 5∧t.size≤800∧∀(H':Hp),Same H H'→Q (.bl (tv t w)) H'
section
theorem OF:Aq ["kind","one","other"] ["kind","one","other"] (Ae El):=Bx
theorem Nv (F:Fun K "joined" "joined" El f fd):FnOk P w K mg bz AG 1 f fd ["kind","one","other"] JZ:=by
 refine F.ok OF (fun vs H Q E h=>?_) (fun cdv A outer s H vs Q E hr h=>?_)
 ·obtain⟨j,a,b,rfl,_⟩:=h
  rfl
 obtain⟨j,va,vb,rfl,q2⟩:=h
 refine⟨_,Ac (AB (Ak AN (pv 0) Aw (Ar _))
   (Ad (Ai (BE (pv 1) (Bk (pv 2)))))
   Al)
  (Ac (AB (Ak AN (pv 0) Aw (Ar _))
   (Ad (Ai (IH (pv 1) (Bk (pv 2)))))
   Al)
  (Ac (AB (Ak AN (pv 0) Aw (Ar _))
   (Ad (Ai (IH (DD (pv 1)) (Bk (pv 2)))))
   Al)
  (Ad (Ai (Be AN (pv 1) (pv 2) (Ar _)))))),?_⟩
 refine⟨_,rfl,rfl,_,rfl,?_⟩
 by_cases h0:V.str (jn j)=V.str "and"
 ·refine Bc h0 ?_
  obtain rfl:=UQ h0
  cases va with
  | false=>exact⟨_,rfl,_,rfl,A8 q2⟩
  | true=>exact⟨_,rfl,_,rfl,Bq ⟨_,rfl,q2⟩⟩
 refine A0 h0 ?_
 refine⟨_,rfl,rfl,_,rfl,?_⟩
 by_cases h1:V.str (jn j)=V.str "or"
 ·refine Bc h1 ?_
  obtain rfl:=UC h1
  cases va with
  | false=>exact⟨_,rfl,_,rfl,A8 ⟨_,rfl,q2⟩⟩
  | true=>exact⟨_,rfl,_,rfl,Bq q2⟩
 refine A0 h1 ?_
 refine⟨_,rfl,rfl,_,rfl,?_⟩
 by_cases h2:V.str (jn j)=V.str "if"
 ·refine Bc h2 ?_
  obtain rfl:=Um h2
  cases va with
  | false=>exact⟨_,rfl,_,rfl,_,rfl,Bq q2⟩
  | true=>exact⟨_,rfl,_,rfl,_,rfl,A8 ⟨_,rfl,q2⟩⟩
 refine A0 h2 ?_
 rw[Ux h0 h1 h2] at q2
 refine⟨_,rfl,_,rfl,rfl,?_⟩
 rw[OA]
 exact q2
def U8 (K:PySem.W.Frag) (H:Hp) (v:V) (t:Tr) (sl wl:Addr) (m:Nat):L2.St→Hp→Prop:=fun σ H3=>∃(ys zs:List V) (ss ws:List Tr) (pp:Option V),σ=[some v,some (.ref sl),some (.ref wl),pp]∧Same H H3∧
 H3 sl=some (.lst ys)∧H3 wl=some (.lst zs)∧PileK K H3 ys ss∧PileK K H3 zs ws∧ws.flatMap post++ss.reverse=post t∧m=sz ws
theorem scSteps:Aq ["sentence","steps","waiting","step"] ["sentence"] (Ae Fn):=Bx
theorem Qj {g:Addr} {gd:FuncData} (F:Fun K "steps_of" "steps_of" Fn f fd) (GP:FnOk P w K mg bz AG 1 g gd ["layer"] (Jz K)) (CP:AM K mg "parts_of" g gd ["layer"]):FnOk P w K mg bz AG 2 f fd ["sentence"] (Mn K):=by
 refine F.ok scSteps (fun vs H Q E h=>?_) (fun cdv A outer s H vs Q E hr h=>?_)
 ·obtain⟨v,t,rfl,_⟩:=h
  rfl
 obtain⟨v,t,rfl,ha,hs,q⟩:=h
 refine⟨_,Ac (Az (i:=1) scSteps.nd rfl (Or.inl rfl) (AK Ab))
  (Ac (Az (i:=2) scSteps.nd rfl (Or.inl rfl) (AK (Aa (pv 0) Ab)))
  (Ac (Ff PassesOwn.never (DM (pv 2) (fun _=>rfl))
   (Ac (Az (i:=3) scSteps.nd rfl (Or.inl rfl) (Cj PySem.F.plainAttrs_list PySem.F.slot_list_pop PySem.F.type_list_pop Cw (pv 2)))
   (Ac (AU (BO PySem.F.plainAttrs_list PySem.F.slot_list_append PySem.F.type_list_append AZ (pv 1) (Aa (pv 3) Ab)))
   (Ad (AU (BO PySem.F.plainAttrs_list PySem.F.slot_list_extend PySem.F.type_list_extend Iu (pv 2) (Aa (Ah GP hr (by rfl) CP.m CP.k CP.b .nil Ao (Aa (AK (Aa (pv 3) Ab)) Ab)) Ab)))))))
  (Ac (AU (Cj PySem.F.plainAttrs_list PySem.F.slot_list_reverse PySem.F.type_list_reverse KW (pv 1)))
  (Ad (Ai (pv 1)))))),?_⟩
 refine⟨Jx,fun sl hsl=>?_⟩
 have s1:=Af hsl (.lst [])
 refine⟨_,rfl,M7,fun wl hwl=>?_⟩
 have s2:=Af hwl (.lst [v])
 have nsw:sl≠wl:=Am (upd_same (H:=H) (a:=sl) (o:=.lst [])) hwl
 have hwl0:H wl=none:=s1.free hwl
 have e1:sz [t]=t.size:=by unfold sz;simp
 refine⟨U8 K H v t sl wl,⟨_,[],[v],[],[t],none,rfl,s1.trans s2,s2 _ _ upd_same,upd_same,.nil,.cons (ha.keep ((TS.same s1).trans (TS.same s2))) .nil,by simp,rfl⟩,?_⟩
 rintro m σ H3 ⟨ys,zs,ss,ws,pp,rfl,s3,hs3,hw3,p3,z3,e3,rfl⟩
 have bnd:sz ws+ss.length≤800:=by
  have h1:(ws.flatMap post).length=sz ws:=by
   clear e3 z3
   induction ws with
   | nil=>rfl
   | cons u r ih=>
    show (post u++r.flatMap post).length=_
    rw[List.length_append,Db,ih,JC]
  have h2:=congrArg List.length e3
  rw[List.length_append,List.length_reverse,h1,Db] at h2
  omega
 refine⟨_,rfl,_,.inl ⟨zs,SqL.of hw3,rfl⟩,?_⟩
 refine B7 (fun c=>?_) (fun c=>?_)
 ·refine⟨fun σ' H'=>∃m',m'<sz ws∧U8 K H v t sl wl m' σ' H',fun _ _ h=>h,?_⟩
  have hpos:0<ws.length:=by
   rw[←z3.len]
   cases zs with
   | nil=>exact absurd c (by decide)
   | cons _ _=>exact Nat.succ_pos _
  obtain⟨zs',y,ws',u,rfl,rfl,q3,a3⟩:=z3.last hpos
  have hsw:=BC ws' u
  have hku:=Lb u
  have hwl':=Ho ws'
  have hl1:=p3.len
  have hl2:=q3.len
  refine⟨_,rfl,.inl ⟨rfl,_,SqL.of hw3⟩,wl,_,y,rfl,rfl,hw3,En _ _,?_⟩
  have t4:HT2.TS H3 (upd H3 wl (.lst (zs'++[y]).dropLast)):=TS.lst hw3
  have s4:Same H (upd H3 wl (.lst (zs'++[y]).dropLast)):=AI s3 hwl0 _
  rw[List.dropLast_concat] at t4 s4
  have hs4:(upd H3 wl (.lst zs')) sl=some (.lst ys):=by rw[Ax nsw];exact hs3
  rw[List.dropLast_concat]
  refine⟨_,rfl,.inl ⟨rfl,_,SqL.of hs4⟩,_,rfl,sl,_,_,rfl,rfl,hs4,AF (by omega),?_⟩
  have t5:HT2.TS (upd H3 wl (.lst zs')) (upd (upd H3 wl (.lst zs')) sl (.lst (ys++[y]))):=TS.lst hs4
  have s5:Same H (upd (upd H3 wl (.lst zs')) sl (.lst (ys++[y]))):=AI s4 hsl _
  have hw5:(upd (upd H3 wl (.lst zs')) sl (.lst (ys++[y]))) wl=some (.lst zs'):=by rw[Ax nsw.symm,upd_same]
  have hs5:(upd (upd H3 wl (.lst zs')) sl (.lst (ys++[y]))) sl=some (.lst (ys++[y])):=upd_same
  have a5:=a3.keep (t4.trans t5)
  have p5:=(p3.snoc a3).keep (t4.trans t5)
  have q5:=q3.keep (t4.trans t5)
  revert s5 hw5 hs5 a5 p5 q5
  generalize (upd (upd H3 wl (.lst zs')) sl (.lst (ys++[y])))=H5
  intro s5 hw5 hs5 a5 p5 q5
  refine⟨_,rfl,.inl ⟨rfl,_,SqL.of hw5⟩,_,rfl,M7,fun pl hpl=>?_⟩
  have s6:=Af hpl (.lst [y])
  have e1:sz [u]=u.size:=by unfold sz;simp
  refine⟨pl,[y],[u],rfl,SqL.of upd_same,.cons (a5.keep (TS.same s6)) .nil,by omega,fun r ks H7 s7 hr7 p7=>?_⟩
  have hl3:=p7.len
  rw[Kk] at p7 hl3
  have hlk:=Ho (EE u)
  have hw7:=s7 _ _ (s6 _ _ hw5)
  refine⟨wl,r,zs',ks,rfl,rfl,hw7,hr7,small (by omega),?_⟩
  have t8:HT2.TS H7 (upd H7 wl (.lst (zs'++ks))):=TS.lst hw7
  have k57:=(TS.same s6).trans (TS.same s7)
  refine⟨_,?_,ys++[y],zs'++ks,ss++[u],ws'++EE u,_,rfl,AI (s5.trans (s6.trans s7)) hwl0 _,?_,upd_same,p5.keep (k57.trans t8),(PileK.app (q5.keep k57) p7).keep t8,?_,rfl⟩
  ·rw[JQ];omega
  ·rw[Ax nsw];exact s7 _ _ (s6 _ _ hs5)
  ·rw[←e3,List.flatMap_append,List.flatMap_append,List.reverse_append]
   show ((ws'.flatMap post++(EE u).flatMap post)++([u]++ss.reverse))=(ws'.flatMap post++(post u++[]))++ss.reverse
   rw[List.append_nil,PY u]
   simp only[List.append_assoc]
 ·have e:ws=[]:=by
   cases z3 with
   | nil=>rfl
   | cons h1 h2=>exact absurd rfl c
  subst e
  refine⟨_,rfl,.inl ⟨rfl,_,SqL.of hs3⟩,sl,ys,rfl,rfl,hs3,?_⟩
  refine⟨_,rfl,q sl ys.reverse _ (AI s3 hsl _) hsl upd_same ?_⟩
  have e4:ss.reverse=post t:=e3
  rw[←e4]
  exact (PileK.rev p3).keep (TS.lst hs3)
theorem scTrueBy:Aq ["steps","world","truths","step","other","one"] ["steps","world"] (Ae Em):=Bx
def tl (rs:List Bool):List V:=rs.reverse.map V.bl
theorem D8 (b:Bool) (rs:List Bool):tl (b::rs)=tl rs++[.bl b]:=by unfold tl;simp
theorem K1 (rs:List Bool):(tl rs).length=rs.length:=by unfold tl;simp
theorem NB {g g2:Addr} {gd gd2:FuncData} (F:Fun K "true_by" "true_by" Em f fd) (GH:FnOk P w K mg bz AG 1 g gd ["letter","world"] Mz) (CH:AM K mg "letter_holds" g gd ["letter","world"])
  (GJ:FnOk P w K mg bz AG 1 g2 gd2 ["kind","one","other"] JZ) (CJ:AM K mg "joined" g2 gd2 ["kind","one","other"]):FnOk P w K mg bz AG 2 f fd ["steps","world"] (KO K):=by
 refine F.ok scTrueBy (fun vs H Q E h=>?_) (fun cdv A outer s H vs Q E hr h=>?_)
 ·obtain⟨v,ys,t,wd,rfl,_⟩:=h
  rfl
 obtain⟨l,ys,t,wd,rfl,hl,hp,hok,hsz,q⟩:=h
 have hr1:Room 1 _:=hr
 refine⟨_,Ac (Az (i:=2) scTrueBy.nd rfl (Or.inl rfl) (AK Ab))
  (Ac (BR PassesOwn.never rfl (AW (pv 0)) (AE (i:=3) scTrueBy.nd rfl (Or.inl rfl))
   (Ad (AB (Ak AN (AC AH (pv 3) Ag (fun _ _=>rfl)) Aw (Ar _))
    (Ad (AU (BO PySem.F.plainAttrs_list PySem.F.slot_list_append PySem.F.type_list_append AZ (pv 2) (Aa (Ah GH hr1 (by rfl) CH.m CH.k CH.b .nil Ao (Aa (AC AH (pv 3) Ag (fun _ _=>rfl)) (Aa (pv 1) Ab))) Ab))))
    (Ad (AB (Ak AN (AC AH (pv 3) Ag (fun _ _=>rfl)) Aw (Ar _))
     (Ad (AU (BO PySem.F.plainAttrs_list PySem.F.slot_list_append PySem.F.type_list_append AZ (pv 2) (Aa (DD (Cj PySem.F.plainAttrs_list PySem.F.slot_list_pop PySem.F.type_list_pop Cw (pv 2))) Ab))))
     (Ac (Az (i:=4) scTrueBy.nd rfl (Or.inl rfl) (Cj PySem.F.plainAttrs_list PySem.F.slot_list_pop PySem.F.type_list_pop Cw (pv 2)))
     (Ac (Az (i:=5) scTrueBy.nd rfl (Or.inl rfl) (Cj PySem.F.plainAttrs_list PySem.F.slot_list_pop PySem.F.type_list_pop Cw (pv 2)))
     (Ad (AU (BO PySem.F.plainAttrs_list PySem.F.slot_list_append PySem.F.type_list_append AZ (pv 2) (Aa (Ah GJ hr1 (by rfl) CJ.m CJ.k CJ.b .nil Ao (Aa (AC AH (pv 3) Ag (fun _ _=>rfl)) (Aa (pv 5) (Aa (pv 4) Ab)))) Ab)))))))))))
  (Ad (Ai (AC AT (pv 2) Ag (fun _ _=>rfl))))),?_⟩
 refine⟨Jx,fun tr htr=>?_⟩
 have s1:=Af htr (.lst [])
 have hlen:=hp.len
 have hpl:=Db t
 refine⟨_,rfl,l,rfl,⟨_,SqL.of (s1 _ _ hl)⟩,A4 (K:=K) (a:=l) (xs:=ys) (fun i σ H3=>∃(v0 v1 v2:Option V) (rs:List Bool),σ=[some (.ref l),some (.int wd),some (.ref tr),v0,v1,v2]∧Same H H3∧H3 tr=some (.lst (tl rs))∧rs.length≤i∧run wd ((post t).drop i) rs=some [tv t wd]) ?_ ?_ ?_ ?_⟩
 ·exact⟨_,_,_,[],rfl,s1,upd_same,Nat.le_refl _,ET wd t []⟩
 ·rintro i σ H3 _ ⟨v0,v1,v2,rs,rfl,s3,_⟩
  exact SqL.of (s3 _ _ hl)
 ·rintro i x σ H3 hx ⟨v0,v1,v2,rs,rfl,s3,h3,hlr,hrun⟩
  obtain⟨u,hu,hat⟩:=PileK.get hp hx
  have hat3:=hat.keep (TS.same s3)
  have hi:i<ys.length:=(List.getElem?_eq_some_iff.mp hx).1
  obtain⟨hi2,eu⟩:=List.getElem?_eq_some_iff.mp hu
  rw[List.drop_eq_getElem_cons hi2,eu] at hrun
  unfold run at hrun
  cases u with
  | lt k=>
   obtain⟨p,rfl,hpt⟩:=hat3
   refine⟨_,rfl,p,_,_,_,rfl,rfl,hpt.sq,Aj (j:=0) rfl,rfl,_,rfl,?_⟩
   refine Bc rfl ?_
   refine⟨_,rfl,.inl ⟨rfl,_,SqL.of h3⟩,_,rfl,p,_,_,_,rfl,rfl,hpt.sq,Aj (j:=1) rfl,_,rfl,k,wd,rfl,?_⟩
   refine⟨tr,_,_,rfl,rfl,h3,AF (by rw[K1];omega),?_⟩
   refine⟨_,_,_,BN k wd::rs,rfl,AI s3 htr _,?_,by show rs.length+1≤i+1;omega,hrun⟩
   rw[upd_same,D8]
  | nt u=>
   obtain⟨p,c,rfl,hpt,_⟩:=hat3
   refine⟨_,rfl,p,_,_,_,rfl,rfl,hpt.sq,Aj (j:=0) rfl,rfl,_,rfl,?_⟩
   refine A0 (by decide) ?_
   refine⟨_,rfl,p,_,_,_,rfl,rfl,hpt.sq,Aj (j:=0) rfl,rfl,_,rfl,?_⟩
   refine Bc rfl ?_
   cases rs with
   | nil=>cases hrun
   | cons a r=>
    rw[D8] at h3
    have hlr':r.length+1≤i:=hlr
    refine⟨_,rfl,.inl ⟨rfl,_,SqL.of h3⟩,_,rfl,.inl ⟨rfl,_,SqL.of h3⟩,tr,_,_,rfl,rfl,h3,En _ _,_,rfl,?_⟩
    refine⟨tr,_,_,rfl,rfl,upd_same,?_,?_⟩
    ·rw[List.dropLast_concat];exact AF (by rw[K1];omega)
    refine⟨_,_,_,(!a)::r,rfl,AI (AI s3 htr _) htr _,?_,by show r.length+1≤i+1;omega,hrun⟩
    rw[upd_same,D8,List.dropLast_concat]
  | bn j u1 u2=>
   obtain⟨p,c1,c2,rfl,hpt,_⟩:=hat3
   refine⟨_,rfl,p,_,_,_,rfl,rfl,hpt.sq,Aj (j:=0) rfl,rfl,_,rfl,?_⟩
   refine A0 EQ ?_
   refine⟨_,rfl,p,_,_,_,rfl,rfl,hpt.sq,Aj (j:=0) rfl,rfl,_,rfl,?_⟩
   refine A0 Jp ?_
   match rs,hrun,h3,hlr with
   | [],hrun,_,_=>cases hrun
   | [_],hrun,_,_=>cases hrun
   | b::a::r,hrun,h3,hlr=>
    rw[D8,D8] at h3
    have hlr':r.length+1+1≤i:=hlr
    refine⟨_,rfl,.inl ⟨rfl,_,SqL.of h3⟩,tr,_,_,rfl,rfl,h3,En _ _,?_⟩
    have h4:(upd H3 tr (.lst ((tl r++[V.bl a])++[V.bl b]).dropLast)) tr=some (.lst (tl r++[V.bl a])):=by rw[upd_same,List.dropLast_concat]
    have s4:Same H (upd H3 tr (.lst ((tl r++[V.bl a])++[V.bl b]).dropLast)):=AI s3 htr _
    have p4:TupAt K (upd H3 tr (.lst ((tl r++[V.bl a])++[V.bl b]).dropLast)) p [.str (jn j),c1,c2]:=hpt.keep (TS.lst h3)
    revert h4 s4 p4
    generalize upd H3 tr (.lst ((tl r++[V.bl a])++[V.bl b]).dropLast)=H4
    intro h4 s4 p4
    refine⟨_,rfl,.inl ⟨rfl,_,SqL.of h4⟩,tr,_,_,rfl,rfl,h4,En _ _,?_⟩
    have h5:(upd H4 tr (.lst (tl r++[V.bl a]).dropLast)) tr=some (.lst (tl r)):=by rw[upd_same,List.dropLast_concat]
    have s5:Same H (upd H4 tr (.lst (tl r++[V.bl a]).dropLast)):=AI s4 htr _
    have p5:TupAt K (upd H4 tr (.lst (tl r++[V.bl a]).dropLast)) p [.str (jn j),c1,c2]:=p4.keep (TS.lst h4)
    revert h5 s5 p5
    generalize upd H4 tr (.lst (tl r++[V.bl a]).dropLast)=H5
    intro h5 s5 p5
    refine⟨_,rfl,.inl ⟨rfl,_,SqL.of h5⟩,_,rfl,p,_,_,_,rfl,rfl,p5.sq,Aj (j:=0) rfl,_,rfl,_,rfl,j,a,b,rfl,?_⟩
    refine⟨tr,_,_,rfl,rfl,h5,AF (by rw[K1];omega),?_⟩
    refine⟨_,_,_,jv j a b::r,rfl,AI s5 htr _,?_,by show r.length+1≤i+1;omega,hrun⟩
    rw[upd_same,D8]
 ·rintro σ H3 ⟨v0,v1,v2,rs,rfl,s3,h3,hlr,hrun⟩
  rw[hlen,List.drop_length] at hrun
  cases hrun
  exact⟨_,rfl,tr,_,_,_,rfl,rfl,SqL.of h3,Aj (j:=0) rfl,q _ s3⟩
end
abbrev Cd:Stmt:=By 23
def Co (K:PySem.W.Frag):Sp:=fun vs H Q _=>∃(v:V) (t:Tr) (r:Addr) (row:List Int),vs=[v,.ref r]∧t.AtK K H v∧t.ok 5∧t.size≤800∧SqL K H r (row.map V.int)∧Wr row∧∀(l:Addr) (H':Hp),Same H H'→H l=none→AJ H' l (row.filter fun k=>tv t k == true)→Q (.ref l) H'
def DP (K:PySem.W.Frag):Sp:=fun vs H Q _=>∃(v:V) (t:Tr) (r:Addr) (row:List Int),vs=[v,.ref r]∧t.At H v∧t.ok 5∧t.size≤800∧SqL K H r (row.map V.int)∧Wr row∧∀(l:Addr) (H':Hp),Same H H'→H l=none→AJ H' l (row.filter fun k=>tv t k == true)→Q (.ref l) H'
section
theorem scWorldsOf:Aq ["sentence","room","steps"] ["sentence","room"] (Ae Cd):=Bx
theorem Kf {g g2:Addr} {gd gd2:FuncData} (F:Fun K "worlds_of" "worlds_of" Cd f fd) (GS:FnOk P w K mg bz AG 2 g gd ["sentence"] (Mn K)) (CS:AM K mg "steps_of" g gd ["sentence"])
  (GB:FnOk P w K mg bz AG 2 g2 gd2 ["steps","world"] (KO K)) (CB:AM K mg "true_by" g2 gd2 ["steps","world"]):FnOk P w K mg bz AG 3 f fd ["sentence","room"] (Co K):=by
 refine F.ok scWorldsOf (fun vs H Q E h=>?_) (fun cdv A outer s H vs Q E hr h=>?_)
 ·obtain⟨v,t,r,row,rfl,_⟩:=h
  rfl
 obtain⟨v,t,r,row,rfl,ha,hok,hs,hS,hwr,q⟩:=h
 have hl:=hwr.len
 refine⟨_,Ac (Az (i:=2) scWorldsOf.nd rfl (Or.inr rfl) (Ah GS hr (by rfl) CS.m CS.k CS.b .nil Ao (Aa (pv 0) Ab)))
  (Ad (Ai (Bm (N:=["world","steps"]) (js:=[none,some 2]) (cl:=[("steps",s.heap.objs.size+1)]) ⟨rfl,rfl,rfl,(by intro p hp;simp at hp;rcases hp with rfl<;>rfl),rfl,rfl,rfl⟩ (AW (pv 1)) (fun c1=>(AE (i:=0) (show (["world","steps"]:List Str).Nodup by decide +kernel) rfl (Or.inl rfl))) (fun c1=>(BV (A1 (Ah GB hr (by rfl) CB.m CB.k CB.b .nil Ao (Aa (pv 1) (Aa (pv 0) Ab)))))) (fun c1=>(pv 0))))),?_⟩
 refine⟨_,rfl,v,t,rfl,ha,hs,fun st ys H1 s1 hst0 hst hp=>?_⟩
 refine⟨_,rfl,r,rfl,⟨_,s1.seq hS⟩,fun cc acc hacc=>Bw (p:=fun k=>tv t k == true) (rest:=[some (.ref st)]) (s1.seq hS) hacc (by omega) (fun k hk H2 s2 R hR=>?_) (fun v0 H2 s2 h2=>q acc H2 (s1.trans s2) (s1.free hacc) h2) none⟩
 refine⟨_,rfl,_,rfl,st,ys,t,k,rfl,s2 _ _ hst,hp.keep (TS.same s2),hok,hs,fun H3 s3=>⟨_,rfl,?_⟩⟩
 have:=hR H3 s3
 rw[show (tv t k == true)=tv t k by cases tv t k<;>rfl] at this
 exact this
theorem RZ (G:FnOk P w K mg bz AG 3 f fd ["sentence","room"] (Co K)):FnOk P w K mg bz AG 3 f fd ["sentence","room"] (DP K):=G.imp fun vs H Q E h=>by
 obtain⟨v,t,r,row,e,ha,h⟩:=h
 exact⟨v,t,r,row,e,ha.toK,h⟩
end
abbrev IW:Stmt:=By 8
def JH (K:PySem.W.Frag):Sp:=fun vs H Q _=>∃(a b:Addr) (one other:List Int),vs=[.ref a,.ref b]∧SqL K H a (one.map V.int)∧SqL K H b (other.map V.int)∧one.length<64∧other.length≤900∧
 ∀(l:Addr) (H':Hp) (ns:List Int),Same H H'→H l=none→ns.Pairwise (· < ·)→(∀k,k∈ns↔k∈one∧k∈other)→AJ H' l ns→Q (.ref l) H'
section
theorem Sl:Aq ["one","other"] ["one","other"] (Ae IW):=Bx
theorem RN (F:Fun K "in_both" "in_both" IW f fd) (T:Fc mg):FnOk P w K mg bz AG 1 f fd ["one","other"] (JH K):=by
 refine F.ok Sl (fun vs H Q E h=>?_) (fun cdv A outer s H vs Q E hr h=>?_)
 ·obtain⟨a,b,one,other,rfl,_⟩:=h
  rfl
 obtain⟨a,b,one,other,rfl,ha,hb,hl1,hl2,q⟩:=h
 refine⟨_,Ad (Ai (Av (EY rfl) (by rfl) T.sorted boot_sorted (Aa (AD Rx (AQ (D6 rfl) (by rfl) T.set boot_set (Aa (pv 0) Ab)) (AQ (D6 rfl) (by rfl) T.set boot_set (Aa (pv 1) Ab))) Ab))),?_⟩
 refine⟨_,rfl,a,one,rfl,ha,by omega,fun a1 ha1=>?_⟩
 have s1:=Af ha1 (Bn w a1 (fun k=>decide (k∈one)) one.length)
 refine⟨_,rfl,b,other,rfl,s1.seq hb,by omega,fun b1 hb1=>?_⟩
 have s2:=Af hb1 (Bn w b1 (fun k=>decide (k∈other)) other.length)
 refine⟨a1,b1,_,_,_,_,rfl,rfl,s2 _ _ upd_same,upd_same,fun e=>?_,by omega,fun r hr1=>?_⟩
 ·subst e
  rw[upd_same] at hb1
  cases hb1
 have s3:=Af hr1 (Bn w r (fun k=>decide (k∈one) && decide (k∈other)) one.length)
 refine⟨r,_,_,rfl,upd_same,hl1,fun l ns hl hp hm=>?_⟩
 have s4:=Af hl (.lst (ns.map V.int))
 exact q l _ ns (s1.trans (s2.trans (s3.trans s4))) ((s1.trans (s2.trans s3)).free hl) hp (fun k=>by rw[hm k,Bool.and_eq_true,decide_eq_true_eq,decide_eq_true_eq]) upd_same
end
abbrev FG:Stmt:=By 9
def E3 (K:PySem.W.Frag):Sp:=fun vs H Q _=>∃(a b:Addr) (one other:List Int),vs=[.ref a,.ref b]∧SqL K H a (one.map V.int)∧SqL K H b (other.map V.int)∧one.length≤32∧(∀k∈one,0≤k∧k<32)∧other.length≤900∧
 ∀(l:Addr) (H':Hp) (ns:List Int),Same H H'→H l=none→ns.Pairwise (· < ·)→(∀k,k∈ns↔k∈one∧k∉other)→AJ H' l ns→Q (.ref l) H'
section
theorem Rz:Aq ["one","other"] ["one","other"] (Ae FG):=Bx
theorem Op (F:Fun K "in_first_only" "in_first_only" FG f fd) (T:Fc mg):FnOk P w K mg bz AG 1 f fd ["one","other"] (E3 K):=by
 refine F.ok Rz (fun vs H Q E h=>?_) (fun cdv A outer s H vs Q E hr h=>?_)
 ·obtain⟨a,b,one,other,rfl,_⟩:=h
  rfl
 obtain⟨a,b,one,other,rfl,ha,hb,hl1,h32,hl2,q⟩:=h
 refine⟨_,Ad (Ai (Av (JL rfl) (by rfl) T.sorted boot_sorted (Aa (AD Ra (AQ (D6 rfl) (by rfl) T.set boot_set (Aa (pv 0) Ab)) (AQ (D6 rfl) (by rfl) T.set boot_set (Aa (pv 1) Ab))) Ab))),?_⟩
 refine⟨_,rfl,a,one,rfl,ha,by omega,fun a1 ha1=>?_⟩
 have s1:=Af ha1 (Bn w a1 (fun k=>decide (k∈one)) one.length)
 refine⟨_,rfl,b,other,rfl,s1.seq hb,by omega,fun b1 hb1=>?_⟩
 have s2:=Af hb1 (Bn w b1 (fun k=>decide (k∈other)) other.length)
 refine⟨a1,b1,_,_,_,_,rfl,rfl,s2 _ _ upd_same,upd_same,fun e=>?_,hl1,by omega,fun k hk=>h32 k (of_decide_eq_true hk),fun r hr1=>?_⟩
 ·subst e
  rw[upd_same] at hb1
  cases hb1
 have s3:=Af hr1 (MX w r (fun k=>decide (k∈one) && !decide (k∈other)) one.length)
 refine⟨r,_,_,rfl,upd_same,by omega,fun l ns hl hp hm=>?_⟩
 have s4:=Af hl (.lst (ns.map V.int))
 exact q l _ ns (s1.trans (s2.trans (s3.trans s4))) ((s1.trans (s2.trans s3)).free hl) hp (fun k=>by rw[hm k,Bool.and_eq_true,decide_eq_true_eq,Bool.not_eq_true',decide_eq_false_iff_not]) upd_same
end
abbrev FO:Stmt:=By 12
def EX (K:PySem.W.Frag):Sp:=fun vs H Q _=>∃(a b:Addr) (one other:List Int),vs=[.ref a,.ref b]∧SqL K H a (one.map V.int)∧SqL K H b (other.map V.int)∧one.length<64∧other.length≤900∧
 ∀(H':Hp),Same H H'→Q (.bl (one.any fun k=>decide (k∈other))) H'
section
theorem Ru:Aq ["one","other"] ["one","other"] (Ae FO):=Bx
theorem P9 {g:Addr} {gd:FuncData} (F:Fun K "some_within" "some_within" FO f fd) (B:Bl mg) (GB:FnOk P w K mg bz AG 1 g gd ["one","other"] (JH K)) (CB:AM K mg "in_both" g gd ["one","other"]):FnOk P w K mg bz AG 2 f fd ["one","other"] (EX K):=by
 refine F.ok Ru (fun vs H Q E h=>?_) (fun cdv A outer s H vs Q E hr h=>?_)
 ·obtain⟨a,b,one,other,rfl,_⟩:=h
  rfl
 obtain⟨a,b,one,other,rfl,ha,hb,hl1,hl2,q⟩:=h
 refine⟨_,Ad (Ai (Be Et (Av Au (by rfl) B.len PySem.boot_len (Aa (Ah GB hr (by rfl) CB.m CB.k CB.b .nil Ao (Aa (pv 0) (Aa (pv 1) Ab))) Ab)) Ag (Ar _))),?_⟩
 refine⟨_,rfl,_,rfl,a,b,one,other,rfl,ha,hb,hl1,hl2,fun l H' ns s1 hl hp hm hr1=>?_⟩
 refine⟨l,_,rfl,.inl (SqL.of hr1),_,_,rfl,rfl,?_⟩
 have e:decide ((((ns.map V.int).length:Nat):Int)>0)=one.any fun k=>decide (k∈other):=by
  rw[List.length_map]
  cases h:one.any fun k=>decide (k∈other) with
  | true=>
   obtain⟨k,h1,h2⟩:=List.any_eq_true.mp h
   have:=List.length_pos_of_mem ((hm k).mpr ⟨h1,of_decide_eq_true h2⟩)
   exact decide_eq_true (by omega)
  | false=>
   cases ns with
   | nil=>rfl
   | cons k ns=>
    obtain⟨h1,h2⟩:=(hm k).mp List.mem_cons_self
    rw[List.any_eq_false] at h
    exact absurd (decide_eq_true h2) (h k h1)
 have:=q H' s1
 rw[←e] at this
 exact this
end
abbrev NX:Stmt:=By 10
def EB (rs:List (List Int)):Nat:=(rs.map List.length).sum
def MM (K:PySem.W.Frag):Sp:=fun vs H Q _=>∃(a:Addr) (xs:List V) (rs:List (List Int)),vs=[.ref a]∧SqL K H a xs∧RowsAt H xs rs∧EB rs<64∧
 ∀(l:Addr) (H':Hp) (ns:List Int),Same H H'→H l=none→ns.Pairwise (· < ·)→(∀k,k∈ns↔∃row∈rs,k∈row)→AJ H' l ns→Q (.ref l) H'
theorem SC {tb:TS} {D:Cg} {σ:L2.St} {H:Hp} (h:tb D σ H):DC J7 tb D σ H:=by
 show if true=true then tb D σ H else D.nx σ H
 rw[if_pos rfl]
 exact h
theorem Nd {rs:List (List Int)} {i:Nat} {row:List Int} (h:rs[i]? = some row):EB (rs.take (i+1))=EB (rs.take i)+row.length:=by
 have e:rs.take (i+1)=rs.take i++[row]:=by rw[List.take_add_one,h];rfl
 unfold EB
 rw[e,List.map_append,List.sum_append]
 simp
theorem RO {rs:List (List Int)} {i:Nat}:EB (rs.take i)≤EB rs:=by
 have e:=List.take_append_drop i rs
 have:EB rs=EB (rs.take i)+EB (rs.drop i):=by
  conv=>lhs;rw[←e]
  unfold EB
  rw[List.map_append,List.sum_append]
 omega
section
theorem TN:Aq ["rows"] ["rows"] (Ae NX):=Bx
theorem Sv (F:Fun K "in_any" "in_any" NX f fd) (T:Fc mg):FnOk P w K mg bz AG 1 f fd ["rows"] (MM K):=by
 refine F.ok TN (fun vs H Q E h=>?_) (fun cdv A outer s H vs Q E hr h=>?_)
 ·obtain⟨a,xs,rs,rfl,_⟩:=h
  rfl
 obtain⟨a,xs,rs,rfl,hS,hR,h64,q⟩:=h
 refine⟨_,Ad (Ai (Av (EY rfl) (by rfl) T.sorted boot_sorted (Aa (NE (N:=["row","world"]) (js:=[none,none]) (cl:=[]) ⟨rfl,rfl,rfl,List.forall_mem_nil _,rfl,rfl,rfl⟩ (AW (pv 0)) (fun c1=>(AE (i:=0) (show (["row","world"]:List Str).Nodup by decide +kernel) rfl (Or.inl rfl))) (fun c1=>BI) (fun c1=>(AW (pv 0))) (fun c1=>(AE (i:=1) (show (["row","world"]:List Str).Nodup by decide +kernel) rfl (Or.inl rfl))) (fun c1=>BI) (fun c1=>(pv 1))) Ab))),?_⟩
 refine⟨_,rfl,a,rfl,⟨_,hS⟩,fun cc acc hacc=>A4 (K:=K) (a:=a) (xs:=xs) (fun i σ H2=>∃(v0 v1:Option V) (S:Int→Bool) (n:Nat),σ=[v0,v1]∧Same H H2∧H2 acc=some (Bn w acc S n)∧(∀k,S k=true↔∃row∈rs.take i,k∈row)∧n≤EB (rs.take i)) ?_ ?_ ?_ ?_⟩
 ·exact⟨none,none,_,0,rfl,Af hacc _,upd_same,fun k=>by simp,Nat.zero_le _⟩
 ·rintro i σ H2 _ ⟨v0,v1,S,n,rfl,s2,_⟩
  exact s2.seq hS
 ·rintro i x σ H2 hx ⟨v0,v1,S,n,rfl,s2,ha2,hm2,hn2⟩
  obtain⟨row,p,hrow,rfl,hp⟩:=hR.get hx
  have hlt:=Nd hrow
  have hle:=RO (rs:=rs) (i:=i+1)
  refine SC ?_
  refine⟨_,rfl,p,rfl,⟨_,SqL.of (s2 _ _ hp)⟩,A4 (K:=K) (a:=p) (xs:=row.map V.int) (fun j σ H3=>∃(v1:Option V) (S:Int→Bool) (n:Nat),σ=[some (.ref p),v1]∧Same H H3∧H3 acc=some (Bn w acc S n)∧(∀k,S k=true↔(∃row∈rs.take i,k∈row)∨k∈row.take j)∧n≤EB (rs.take i)+j) ?_ ?_ ?_ ?_⟩
  ·exact⟨_,S,n,rfl,s2,ha2,fun k=>by rw[hm2 k];simp,hn2⟩
  ·rintro j σ H3 _ ⟨v1,S,n,rfl,s3,_⟩
   exact SqL.of (s3 _ _ hp)
  ·rintro j u σ H3 hu ⟨v1,S,n,rfl,s3,ha3,hm3,hn3⟩
   rw[List.getElem?_map] at hu
   obtain⟨k0,hk0,rfl⟩:=Option.map_eq_some_iff.mp hu
   have hj:=(List.getElem?_eq_some_iff.mp hk0).1
   have et:row.take (j+1)=row.take j++[k0]:=by rw[List.take_add_one,hk0];rfl
   show JB w acc (Qh 1) _ _ _
   refine⟨_,rfl,k0,S,n,rfl,ha3,by omega,?_⟩
   refine⟨_,_,n+1,rfl,AI s3 hacc _,upd_same,fun k=>?_,by omega⟩
   rw[Bool.or_eq_true,hm3 k,decide_eq_true_eq,et,List.mem_append,List.mem_singleton,or_assoc]
  ·rintro σ H3 ⟨v1,S,n,rfl,s3,ha3,hm3,hn3⟩
   rw[List.length_map] at hm3 hn3
   rw[List.take_length] at hm3
   refine⟨_,_,S,n,rfl,s3,ha3,fun k=>?_,by omega⟩
   have e:rs.take (i+1)=rs.take i++[row]:=by rw[List.take_add_one,hrow];rfl
   rw[hm3 k,e]
   constructor
   ·rintro (⟨r,h1,h2⟩|h)
    ·exact⟨r,List.mem_append_left _ h1,h2⟩
    ·exact⟨row,List.mem_append_right _ List.mem_cons_self,h⟩
   ·rintro⟨r,h1,h2⟩
    rcases List.mem_append.mp h1 with z | z
    ·exact .inl ⟨r,z,h2⟩
    ·rw[List.mem_singleton.mp z] at h2;exact .inr h2
 ·rintro σ H2 ⟨v0,v1,S,n,rfl,s2,ha2,hm2,hn2⟩
  rw[hR.len,List.take_length] at hm2 hn2
  refine⟨acc,S,n,rfl,ha2,by omega,fun l ns hl hp hm=>?_⟩
  have s4:=Af hl (.lst (ns.map V.int))
  exact q l _ ns (s2.trans s4) (s2.free hl) hp (fun k=>by rw[hm k,hm2 k]) upd_same
end
abbrev Fs:Stmt:=By 11
abbrev FX:Stmt:=By 35
def JU (K:PySem.W.Frag):Sp:=fun vs H Q _=>∃(a b:Addr) (one other:List Int),vs=[.ref a,.ref b]∧SqL K H a (one.map V.int)∧SqL K H b (other.map V.int)∧one.length≤32∧(∀k∈one,0≤k∧k<32)∧other.length≤900∧
 ∀(H':Hp),Same H H'→Q (.bl (one.all fun k=>decide (k∈other))) H'
def Fg (K:PySem.W.Frag):Sp:=fun vs H Q _=>∃(s r:Addr) (seen row:List Int),vs=[.ref s,.ref r]∧SqL K H s (seen.map V.int)∧Wr seen∧seen≠[]∧SqL K H r (row.map V.int)∧Wr row∧∀(H':Hp),Same H H'→Q (.str (Bp seen row)) H'
section
theorem Rf:Aq ["one","other"] ["one","other"] (Ae Fs):=Bx
theorem OK {g:Addr} {gd:FuncData} (F:Fun K "all_within" "all_within" Fs f fd) (B:Bl mg) (GF:FnOk P w K mg bz AG 1 g gd ["one","other"] (E3 K)) (CF:AM K mg "in_first_only" g gd ["one","other"]):FnOk P w K mg bz AG 2 f fd ["one","other"] (JU K):=by
 refine F.ok Rf (fun vs H Q E h=>?_) (fun cdv A outer s H vs Q E hr h=>?_)
 ·obtain⟨a,b,one,other,rfl,_⟩:=h
  rfl
 obtain⟨a,b,one,other,rfl,ha,hb,hl1,h32,hl2,q⟩:=h
 refine⟨_,Ad (Ai (Be AN (Av Au (by rfl) B.len PySem.boot_len (Aa (Ah GF hr (by rfl) CF.m CF.k CF.b .nil Ao (Aa (pv 0) (Aa (pv 1) Ab))) Ab)) Ag (Ar _))),?_⟩
 refine⟨_,rfl,_,rfl,a,b,one,other,rfl,ha,hb,hl1,h32,hl2,fun l H' ns s1 hl hp hm hr1=>?_⟩
 refine⟨l,_,rfl,.inl (SqL.of hr1),rfl,?_⟩
 have e:decide (V.int (((ns.map V.int).length:Nat):Int)=V.int 0)=one.all fun k=>decide (k∈other):=by
  rw[List.length_map]
  cases h:one.all fun k=>decide (k∈other) with
  | true=>
   cases ns with
   | nil=>rfl
   | cons k ns=>
    obtain⟨h1,h2⟩:=(hm k).mp List.mem_cons_self
    exact absurd (of_decide_eq_true (List.all_eq_true.mp h k h1)) h2
  | false=>
   obtain⟨k,h1,h2⟩:=List.all_eq_false.mp h
   have:=List.length_pos_of_mem ((hm k).mpr ⟨h1,fun z=>h2 (decide_eq_true z)⟩)
   exact decide_eq_false fun z=>by
    injection z with z
    omega
 have:=q H' s1
 rw[←e] at this
 exact this
theorem Ri:Aq ["seen","worlds"] ["seen","worlds"] (Ae FX):=Bx
theorem Qp {g g2:Addr} {gd gd2:FuncData} (F:Fun K "plain" "plain" FX f fd) (GA:FnOk P w K mg bz AG 2 g gd ["one","other"] (JU K)) (CA:AM K mg "all_within" g gd ["one","other"])
  (GS:FnOk P w K mg bz AG 2 g2 gd2 ["one","other"] (EX K)) (CS:AM K mg "some_within" g2 gd2 ["one","other"]):FnOk P w K mg bz AG 3 f fd ["seen","worlds"] (Fg K):=by
 refine F.ok Ri (fun vs H Q E h=>?_) (fun cdv A outer s H vs Q E hr h=>?_)
 ·obtain⟨s,r,seen,row,rfl,_⟩:=h
  rfl
 obtain⟨sn,r,seen,row,rfl,hN,wN,hne,hS,wS,q⟩:=h
 have l1:=wN.len
 have l2:=wS.len
 refine⟨_,Ac (AB (A1 (Ah GA hr (by rfl) CA.m CA.k CA.b .nil Ao (Aa (pv 0) (Aa (pv 1) Ab))))
   (Ad (Ai Aw))
   Al)
  (Ac (AB (A1 (Ah GS hr (by rfl) CS.m CS.k CS.b .nil Ao (Aa (pv 0) (Aa (pv 1) Ab))))
   (Ad (Ai Aw))
   Al)
  (Ad (Ai Aw))),?_⟩
 unfold Bp at q
 refine⟨_,rfl,_,rfl,sn,r,seen,row,rfl,hN,hS,l1,wN.2,by omega,fun H1 s1=>⟨_,rfl,?_⟩⟩
 cases h0:seen.all fun k=>decide (k∈row) with
 | true=>
  refine Bq ?_
  have:=q _ s1
  rw[h0,if_pos rfl] at this
  exact this
 | false=>
  refine A8 ?_
  simp only[h0,if_neg Bool.false_ne_true] at q
  refine⟨_,rfl,_,rfl,sn,r,seen,row,rfl,s1.seq hN,s1.seq hS,by omega,by omega,fun H2 s2=>⟨_,rfl,?_⟩⟩
  have q2:=q _ (s1.trans s2)
  cases h1:seen.any fun k=>decide (k∈row) with
  | true=>
   refine Bq ?_
   rw[h1,if_pos rfl] at q2
   exact q2
  | false=>
   refine A8 ?_
   rw[h1,if_neg Bool.false_ne_true] at q2
   exact q2
end
abbrev Ed:Stmt:=By 32
def Sa:Option Nat→V
 | none=>.non
 | some i=>.int i
def DL (sides:List (List Int)) (row:List Int):Option Nat:=sides.findIdx? fun s=>!(s.any fun k=>decide (k∈row))
theorem miss_none {sides:List (List Int)} {row:List Int}:DL sides row=none↔Ay sides row=true:=by
 unfold DL Ay
 rw[List.findIdx?_eq_none_iff,List.all_eq_true]
 exact⟨fun h s hs=>by have:=h s hs;simpa using this,fun h s hs=>by have:=h s hs;simpa using this⟩
theorem OI {sides:List (List Int)} {row:List Int}:decide (Sa (DL sides row)= .non)=Ay sides row:=by
 cases h:DL sides row with
 | none=>
  rw[miss_none.mp h]
  rfl
 | some i=>
  cases h2:Ay sides row with
  | true=>rw[miss_none.mpr h2] at h;cases h
  | false=>rfl
theorem RM {sides:List (List Int)} {row s:List Int} {i:Nat} (hb:∀s∈sides.take i,(s.any fun k=>decide (k∈row))=true) (hi:sides[i]? = some s) (hs:(s.any fun k=>decide (k∈row))=false):DL sides row=some i:=by
 unfold DL
 obtain⟨hlt,rfl⟩:=List.getElem?_eq_some_iff.mp hi
 rw[List.findIdx?_eq_some_iff_getElem]
 refine⟨hlt,by simp[hs],fun j hj=>?_⟩
 have hm:sides[j]∈sides.take i:=List.mem_take_iff_getElem.mpr ⟨j,by omega,rfl⟩
 rw[hb _ hm]
 decide
theorem Ph {sides:List (List Int)} {row:List Int} (hb:∀s∈sides,(s.any fun k=>decide (k∈row))=true):DL sides row=none:=by
 rw[miss_none]
 unfold Ay
 rw[List.all_eq_true]
 exact hb
theorem Nn {α:Type} {xs:List α} {i:Nat} {x y:α} (hx:xs[i]? = some x) (h:y∈xs.take (i+1)):y∈xs.take i∨y=x:=by
 rw[List.take_succ,hx] at h
 rcases List.mem_append.mp h with h | h
 ·exact .inl h
 ·exact .inr (by simpa using h)
def HI (K:PySem.W.Frag):Sp:=fun vs H Q _=>∃(sd r:Addr) (row:List Int) (xs:List V) (sides:List (List Int)),vs=[.ref sd,.ref r]∧SqL K H r (row.map V.int)∧row.length≤900∧H sd=some (.lst xs)∧RowsAt H xs sides∧(∀s∈sides,s.length<64)∧sides.length≤900∧∀(H':Hp),Same H H'→Q (Sa (DL sides row)) H'
section
theorem scMissed:Aq ["sides","worlds","at","side"] ["sides","worlds"] (Ae Ed):=Bx
theorem NO {g:Addr} {gd:FuncData} (F:Fun K "missed_side" "missed_side" Ed f fd) (HE:mg "enumerate"=none) (GS:FnOk P w K mg bz AG 2 g gd ["one","other"] (EX K)) (CS:AM K mg "some_within" g gd ["one","other"]):FnOk P w K mg bz AG 3 f fd ["sides","worlds"] (HI K):=by
 refine F.ok scMissed (fun vs H Q E h=>?_) (fun cdv A outer s H vs Q E hr h=>?_)
 ·obtain⟨sd,r,row,xs,sides,rfl,_⟩:=h
  rfl
 obtain⟨sd,r,row,xs,sides,rfl,hS,hl,hX,hR,hsl,hsn,q⟩:=h
 refine⟨_,Ac (BR PassesOwn.never rfl (OW (by rfl) HE (Aa (pv 0) Ab)) (LT rfl (Ck (AE (i:=2) scMissed.nd rfl (Or.inl rfl)) (Ck (AE (i:=3) scMissed.nd rfl (Or.inl rfl)) Jf)))
   (Ad (AB (Bs (A1 (Ah GS hr (by rfl) CS.m CS.k CS.b .nil Ao (Aa (pv 3) (Aa (pv 1) Ab)))))
    (Ad (Ai (pv 2)))
    Al)))
  (Ad (Ai Ji)),?_⟩
 have hlen:=hR.len
 refine⟨_,rfl,sd,_,rfl,hX,NZ (a:=sd) (xs:=xs) (fun i σ H3=>∃(v0 v1:Option V),σ=[some (.ref sd),some (.ref r),v0,v1]∧Same H H3∧∀s∈sides.take i,(s.any fun k=>decide (k∈row))=true) ?_ ?_ ?_ ?_⟩
 ·exact⟨_,_,rfl,Same.refl _,fun s hs=>by simp at hs⟩
 ·rintro i σ H3 _ ⟨v0,v1,rfl,s3,h3⟩
  exact s3 _ _ hX
 ·rintro i y T2 σ H3 hy hT2 ⟨v0,v1,rfl,s3,h3⟩
  obtain⟨side,p,hr2,rfl,hp⟩:=hR.get hy
  have sT:=Af hT2 (.tup [.int (i:Nat),.ref p])
  have s4:=s3.trans sT
  refine⟨T2,_,rfl,SqT.of upd_same,rfl,_,_,rfl,_,_,rfl,rfl,?_⟩
  refine⟨_,rfl,_,rfl,p,r,side,row,rfl,SqL.of (s4 _ _ hp),s4.seq hS,hsl side (List.mem_of_getElem? hr2),hl,fun H4 s5=>⟨_,rfl,?_⟩⟩
  cases hb:side.any fun k=>decide (k∈row) with
  | true=>
   refine A8 ?_
   refine⟨_,_,rfl,s4.trans s5,fun s hs=>?_⟩
   rcases Nn hr2 hs with h | rfl
   ·exact h3 s h
   ·exact hb
  | false=>
   refine Bq ?_
   have:=q H4 (s4.trans s5)
   rw[RM h3 hr2 hb] at this
   exact⟨_,rfl,this⟩
 ·rintro σ H3 ⟨v0,v1,rfl,s3,h3⟩
  rw[hlen,List.take_length] at h3
  have:=q H3 s3
  rw[Ph h3] at this
  exact this
end
abbrev Ec:Stmt:=By 33
def IJ (K:PySem.W.Frag):Sp:=fun vs H Q _=>∃(sd r:Addr) (row:List Int) (xs:List V) (sides:List (List Int)),vs=[.ref sd,.ref r]∧SqL K H r (row.map V.int)∧row.length≤900∧H sd=some (.lst xs)∧RowsAt H xs sides∧(∀s∈sides,s.length<64)∧sides.length≤900∧∀(H':Hp),Same H H'→Q (.bl (Ay sides row)) H'
section
theorem Qu:Aq ["sides","worlds"] ["sides","worlds"] (Ae Ec):=Bx
theorem M0 {g:Addr} {gd:FuncData} (F:Fun K "stands" "stands" Ec f fd) (GM:FnOk P w K mg bz AG 3 g gd ["sides","worlds"] (HI K)) (CM:AM K mg "missed_side" g gd ["sides","worlds"]):FnOk P w K mg bz AG 4 f fd ["sides","worlds"] (IJ K):=by
 refine F.ok Qu (fun vs H Q E h=>?_) (fun cdv A outer s H vs Q E hr h=>?_)
 ·obtain⟨sd,r,row,xs,sides,rfl,_⟩:=h
  rfl
 obtain⟨sd,r,row,xs,sides,rfl,hS,hl,hX,hR,hsl,hsn,q⟩:=h
 refine⟨_,Ad (Ai (PH (JE (Ah GM hr (by rfl) CM.m CM.k CM.b .nil Ao (Aa (pv 0) (Aa (pv 1) Ab)))))),?_⟩
 refine⟨_,rfl,_,rfl,sd,r,row,xs,sides,rfl,hS,hl,hX,hR,hsl,hsn,fun H1 s1=>?_⟩
 have:=q H1 s1
 rw[←OI] at this
 exact this
end
abbrev Eb:Stmt:=By 37
abbrev Dm:Stmt:=By 38
abbrev D2:Stmt:=By 39
def IR (K:PySem.W.Frag):Sp:=fun vs H Q _=>∃(sd g s r:Addr) (xs:List V) (sides:List (List Int)) (going seen row:List Int),vs=[.ref sd,.ref g,.ref s,.ref r]∧H sd=some (.lst xs)∧RowsAt H xs sides∧(∀s∈sides,Wr s)∧sides.length≤2∧
 SqL K H g (going.map V.int)∧Wr going∧SqL K H s (seen.map V.int)∧Wr seen∧seen≠[]∧SqL K H r (row.map V.int)∧Wr row∧∀(H':Hp),Same H H'→Q (.str (B6 sides going seen row)) H'
def B2 (z:Str) (g r:List Int):List Int:=if z="grant" then DA g r else if z="deny" then Cn g r else g
def Oq (sides:List (List Int)) (going seen row:List Int):Option Nat:=if Bp seen row="doubt" then none else DL sides (B2 (Bp seen row) going row)
def Iz (K:PySem.W.Frag):Sp:=fun vs H Q _=>∃(sd g s r:Addr) (xs:List V) (sides:List (List Int)) (going seen row:List Int),vs=[.ref sd,.ref g,.ref s,.ref r]∧H sd=some (.lst xs)∧RowsAt H xs sides∧(∀s∈sides,Wr s)∧sides.length≤2∧
 SqL K H g (going.map V.int)∧Wr going∧SqL K H s (seen.map V.int)∧Wr seen∧seen≠[]∧SqL K H r (row.map V.int)∧Wr row∧∀(H':Hp),Same H H'→Q (Sa (Oq sides going seen row)) H'
def Jy (K:PySem.W.Frag):Sp:=fun vs H Q _=>∃(z:Str) (g r:Addr) (going row:List Int),vs=[.str z,.ref g,.ref r]∧SqL K H g (going.map V.int)∧Wr going∧SqL K H r (row.map V.int)∧row.length≤900∧
 ∀(l:Addr) (H':Hp),Same H H'→H l=none→AJ H' l (B2 z going row)→Q (.ref l) H'
theorem Sn {g r ns:List Int} (hg:Wr g) (hp:ns.Pairwise (· < ·)) (hm:∀k,k∈ns↔k∈g∧k∈r):ns=DA g r:=
 Gy hp (hg.1.sublist List.filter_sublist) fun k=>by rw[hm k];unfold DA;rw[List.mem_filter,decide_eq_true_eq]
theorem Q2 {g r ns:List Int} (hg:Wr g) (hp:ns.Pairwise (· < ·)) (hm:∀k,k∈ns↔k∈g∧k∉r):ns=Cn g r:=
 Gy hp (hg.1.sublist List.filter_sublist) fun k=>by rw[hm k];unfold Cn;rw[List.mem_filter,Bool.not_eq_true',decide_eq_false_iff_not]
theorem Kd (xs row:List Int):Cn xs row=[]↔(xs.all fun k=>decide (k∈row))=true:=by
 unfold Cn
 rw[List.filter_eq_nil_iff,List.all_eq_true]
 exact⟨fun h k hk=>by have:=h k hk;simpa using this,fun h k hk=>by have:=h k hk;simpa using this⟩
theorem S6 (seen row:List Int):Bp seen row="grant"∨Bp seen row="deny"∨Bp seen row="doubt":=by
 unfold Bp
 split
 ·exact .inl rfl
 ·split
  ·exact .inr (.inr rfl)
  ·exact .inr (.inl rfl)
theorem RK (z:Str) (g r:List Int):(B2 z g r).length≤g.length:=by
 have h1:=Sc g r
 have h2:=QP g r
 unfold B2
 split
 ·omega
 ·split<;>omega
theorem Ht {sides:List (List Int)} {going seen row:List Int} (n0:¬Cn going row=[]) (n1:¬DA going row=[]):B6 sides going seen row=match Oq sides going seen row with | none=>Bp seen row | some _=>"doubt":=by
 unfold B6 Oq B2
 rw[if_neg n0,if_neg n1]
 rcases S6 seen row with e | e | e
 ·rw[e,if_neg (show ¬("grant":Str)="doubt" by decide),if_pos (show ("grant":Str)="grant" from rfl)]
  cases hs:Ay sides (DA going row) with
  | true=>
   rw[miss_none.mpr hs,if_neg (by rintro⟨_,z⟩;cases z),if_neg (by rintro⟨z,_⟩;exact absurd z (by decide))]
  | false=>
   rw[if_pos ⟨rfl,rfl⟩]
   cases hm:DL sides (DA going row) with
   | none=>rw[miss_none.mp hm] at hs;cases hs
   | some i=>rfl
 ·rw[e,if_neg (show ¬("deny":Str)="doubt" by decide),if_neg (show ¬("deny":Str)="grant" by decide),if_pos (show ("deny":Str)="deny" from rfl)]
  cases hs:Ay sides (Cn going row) with
  | true=>
   rw[miss_none.mpr hs,if_neg (by rintro⟨z,_⟩;exact absurd z (by decide)),if_neg (by rintro⟨_,z⟩;cases z)]
  | false=>
   rw[if_neg (by rintro⟨z,_⟩;exact absurd z (by decide)),if_pos ⟨rfl,rfl⟩]
   cases hm:DL sides (Cn going row) with
   | none=>rw[miss_none.mp hm] at hs;cases hs
   | some i=>rfl
 ·rw[e,if_neg (by rintro⟨z,_⟩;exact absurd z (by decide)),if_neg (by rintro⟨z,_⟩;exact absurd z (by decide)),if_pos rfl]
section
theorem Pn:Aq ["word","row","worlds"] ["word","row","worlds"] (Ae Eb):=Bx
theorem MT {g g2:Addr} {gd gd2:FuncData} (F:Fun K "left_by" "left_by" Eb f fd) (T:Fc mg) (GB:FnOk P w K mg bz AG 1 g gd ["one","other"] (JH K)) (CB:AM K mg "in_both" g gd ["one","other"])
  (GF:FnOk P w K mg bz AG 1 g2 gd2 ["one","other"] (E3 K)) (CF:AM K mg "in_first_only" g2 gd2 ["one","other"]):FnOk P w K mg bz AG 2 f fd ["word","row","worlds"] (Jy K):=by
 refine F.ok Pn (fun vs H Q E h=>?_) (fun cdv A outer s H vs Q E hr h=>?_)
 ·obtain⟨z,g,r,going,row,rfl,_⟩:=h
  rfl
 obtain⟨z,gg,r,going,row,rfl,hG,wG,hS,hl,q⟩:=h
 have l1:=wG.len
 refine⟨_,Ac (AB (Ak AN (pv 0) Aw (Ar _))
   (Ad (Ai (Ah GB hr (by rfl) CB.m CB.k CB.b .nil Ao (Aa (pv 1) (Aa (pv 2) Ab)))))
   Al)
  (Ac (AB (Ak AN (pv 0) Aw (Ar _))
   (Ad (Ai (Ah GF hr (by rfl) CF.m CF.k CF.b .nil Ao (Aa (pv 1) (Aa (pv 2) Ab)))))
   Al)
  (Ad (Ai (AQ AX (by rfl) T.lst Ba (Aa (pv 1) Ab))))),?_⟩
 unfold B2 at q
 refine⟨_,rfl,rfl,_,rfl,?_⟩
 by_cases h0:z="grant"
 ·refine Bc (by rw[h0]) ?_
  refine⟨_,rfl,_,rfl,gg,r,going,row,rfl,hG,hS,by omega,by omega,fun l H' ns s1 hl0 hp hm hr1=>?_⟩
  have:=Sn wG hp hm
  subst this
  have q1:=q l H' s1 hl0
  rw[if_pos h0] at q1
  exact q1 hr1
 refine A0 (fun e=>h0 (by injection e)) ?_
 refine⟨_,rfl,rfl,_,rfl,?_⟩
 by_cases h1:z="deny"
 ·refine Bc (by rw[h1]) ?_
  refine⟨_,rfl,_,rfl,gg,r,going,row,rfl,hG,hS,l1,wG.2,by omega,fun l H' ns s1 hl0 hp hm hr1=>?_⟩
  have:=Q2 wG hp hm
  subst this
  have q1:=q l H' s1 hl0
  rw[if_neg h0,if_pos h1] at q1
  exact q1 hr1
 refine A0 (fun e=>h1 (by injection e)) ?_
 refine⟨_,rfl,gg,_,rfl,.inl hG,fun l hl0=>?_⟩
 have q1:=q l _ (Af hl0 (.lst (going.map V.int))) hl0
 rw[if_neg h0,if_neg h1] at q1
 exact q1 upd_same
theorem scBarring:Aq ["sides","going","seen","worlds","word"] ["sides","going","seen","worlds"] (Ae Dm):=Bx
theorem Lg {g3 g4 g5:Addr} {d3 d4 d5:FuncData} (F:Fun K "barring_side" "barring_side" Dm f fd)
  (GP:FnOk P w K mg bz AG 3 g3 d3 ["seen","worlds"] (Fg K)) (CP:AM K mg "plain" g3 d3 ["seen","worlds"])
  (GL:FnOk P w K mg bz AG 2 g4 d4 ["word","row","worlds"] (Jy K)) (CL:AM K mg "left_by" g4 d4 ["word","row","worlds"])
  (GT:FnOk P w K mg bz AG 3 g5 d5 ["sides","worlds"] (HI K)) (CT:AM K mg "missed_side" g5 d5 ["sides","worlds"]):FnOk P w K mg bz AG 4 f fd ["sides","going","seen","worlds"] (Iz K):=by
 refine F.ok scBarring (fun vs H Q E h=>?_) (fun cdv A outer s H vs Q E hr h=>?_)
 ·obtain⟨sd,g,s,r,xs,sides,going,seen,row,rfl,_⟩:=h
  rfl
 obtain⟨sd,gg,sn,r,xs,sides,going,seen,row,rfl,hX,hR,wX,hxl,hG,wG,hN,wN,nne,hS,wS,q⟩:=h
 have hr2:Room 2 _:=hr.mono (by decide)
 have l1:=wG.len
 have l3:=wS.len
 refine⟨_,Ac (Az (i:=4) scBarring.nd rfl (Or.inl rfl) (Ah GP hr (by rfl) CP.m CP.k CP.b .nil Ao (Aa (pv 2) (Aa (pv 3) Ab))))
  (Ac (AB (Ak AN (pv 4) Aw (Ar _))
   (Ad (Ai Ji))
   Al)
  (Ad (Ai (Ah GT hr (by rfl) CT.m CT.k CT.b .nil Ao (Aa (pv 0) (Aa (Ah GL hr2 (by rfl) CL.m CL.k CL.b .nil Ao (Aa (pv 4) (Aa (pv 1) (Aa (pv 3) Ab)))) Ab)))))),?_⟩
 unfold Oq at q
 refine⟨_,rfl,_,rfl,sn,r,seen,row,rfl,hN,wN,nne,hS,wS,fun H3 s3=>?_⟩
 refine⟨_,rfl,rfl,_,rfl,?_⟩
 by_cases e:Bp seen row="doubt"
 ·refine Bc (by rw[e]) ?_
  have q3:=q _ s3
  rw[if_pos e] at q3
  exact q3
 refine A0 (fun z=>e (by injection z)) ?_
 refine⟨_,rfl,_,rfl,_,rfl,_,rfl,Bp seen row,gg,r,going,row,rfl,s3.seq hG,wG,s3.seq hS,by omega,fun l H4 s4 hl0 hl4=>?_⟩
 have s14:=s3.trans s4
 have hll:(B2 (Bp seen row) going row).length≤900:=by
  have:=RK (Bp seen row) going row
  omega
 refine⟨sd,l,_,xs,sides,rfl,SqL.of hl4,hll,s14 _ _ hX,hR.keep s14,fun s hs=>Nat.lt_of_le_of_lt (wX s hs).len (by decide),by omega,fun H5 s5=>?_⟩
 have q5:=q _ (s14.trans s5)
 rw[if_neg e] at q5
 exact q5
theorem OR:Aq ["sides","going","seen","worlds"] ["sides","going","seen","worlds"] (Ae D2):=Bx
theorem Ng {g1 g2 g3 g5:Addr} {d1 d2 d3 d5:FuncData} (F:Fun K "answer" "answer" D2 f fd) (GA:FnOk P w K mg bz AG 2 g1 d1 ["one","other"] (JU K)) (CA:AM K mg "all_within" g1 d1 ["one","other"])
  (GS:FnOk P w K mg bz AG 2 g2 d2 ["one","other"] (EX K)) (CS:AM K mg "some_within" g2 d2 ["one","other"])
  (GP:FnOk P w K mg bz AG 3 g3 d3 ["seen","worlds"] (Fg K)) (CP:AM K mg "plain" g3 d3 ["seen","worlds"])
  (GT:FnOk P w K mg bz AG 4 g5 d5 ["sides","going","seen","worlds"] (Iz K)) (CT:AM K mg "barring_side" g5 d5 ["sides","going","seen","worlds"]):FnOk P w K mg bz AG 5 f fd ["sides","going","seen","worlds"] (IR K):=by
 refine F.ok OR (fun vs H Q E h=>?_) (fun cdv A outer s H vs Q E hr h=>?_)
 ·obtain⟨sd,g,s,r,xs,sides,going,seen,row,rfl,_⟩:=h
  rfl
 obtain⟨sd,gg,sn,r,xs,sides,going,seen,row,rfl,hX,hR,wX,hxl,hG,wG,hN,wN,nne,hS,wS,q⟩:=h
 have hr2:Room 2 _:=hr.mono (by decide)
 have hr3:Room 3 _:=hr.mono (by decide)
 have l1:=wG.len
 have l2:=wN.len
 have l3:=wS.len
 refine⟨_,Ac (AB (A1 (Ah GA hr2 (by rfl) CA.m CA.k CA.b .nil Ao (Aa (pv 1) (Aa (pv 3) Ab))))
   (Ad (Ai Aw))
   Al)
  (Ac (AB (Bs (A1 (Ah GS hr2 (by rfl) CS.m CS.k CS.b .nil Ao (Aa (pv 1) (Aa (pv 3) Ab)))))
   (Ad (Ai Aw))
   Al)
  (Ac (AB (Oo (JE (Ah GT hr (by rfl) CT.m CT.k CT.b .nil Ao (Aa (pv 0) (Aa (pv 1) (Aa (pv 2) (Aa (pv 3) Ab)))))))
   (Ad (Ai (Ah GP hr3 (by rfl) CP.m CP.k CP.b .nil Ao (Aa (pv 2) (Aa (pv 3) Ab)))))
   Al)
  (Ad (Ai Aw)))),?_⟩
 refine⟨_,rfl,_,rfl,gg,r,going,row,rfl,hG,hS,l1,wG.2,by omega,fun H1 s1=>⟨_,rfl,?_⟩⟩
 cases h0:going.all fun k=>decide (k∈row) with
 | true=>
  refine Bq ?_
  have:=q _ s1
  unfold B6 at this
  rw[if_pos ((Kd _ _).mpr h0)] at this
  exact this
 | false=>
  refine A8 ?_
  have n0:¬Cn going row=[]:=fun z=>by rw[(Kd _ _).mp z] at h0;cases h0
  refine⟨_,rfl,_,rfl,gg,r,going,row,rfl,s1.seq hG,s1.seq hS,by omega,by omega,fun H2 s2=>⟨_,rfl,?_⟩⟩
  have s12:=s1.trans s2
  cases h1:going.any fun k=>decide (k∈row) with
  | false=>
   refine Bq ?_
   have:=q _ s12
   unfold B6 at this
   rw[if_neg n0,if_pos ((MF _ _).mpr h1)] at this
   exact this
  | true=>
   refine A8 ?_
   have n1:¬DA going row=[]:=fun z=>by rw[(MF _ _).mp z] at h1;cases h1
   refine⟨_,rfl,_,rfl,_,rfl,_,rfl,sd,gg,sn,r,xs,sides,going,seen,row,rfl,s12 _ _ hX,hR.keep s12,wX,hxl,s12.seq hG,wG,s12.seq hN,wN,nne,s12.seq hS,wS,fun H3 s3=>⟨_,rfl,?_⟩⟩
   have s13:=s12.trans s3
   cases hb:Oq sides going seen row with
   | none=>
    refine Bc rfl ?_
    refine⟨_,rfl,_,rfl,sn,r,seen,row,rfl,s13.seq hN,wN,nne,s13.seq hS,wS,fun H4 s4=>?_⟩
    have q5:=q _ (s13.trans s4)
    rw[Ht n0 n1,hb] at q5
    exact q5
   | some i=>
    refine A0 (fun z=>V.noConfusion z) ?_
    have q5:=q _ s13
    rw[Ht n0 n1,hb] at q5
    exact q5
end
abbrev Ea:Stmt:=By 31
section
theorem OY:Aq ["sides"] ["sides"] (Ae Ea):=Bx
theorem MW {g:Addr} {gd:FuncData} (F:Fun K "base_of" "base_of" Ea f fd) (GA:FnOk P w K mg bz AG 1 g gd ["rows"] (MM K)) (CA:AM K mg "in_any" g gd ["rows"]):FnOk P w K mg bz AG 2 f fd ["sides"] (MM K):=by
 refine F.ok OY (fun vs H Q E h=>?_) (fun cdv A outer s H vs Q E hr h=>?_)
 ·obtain⟨a,xs,rs,rfl,_⟩:=h
  rfl
 obtain⟨a,xs,rs,rfl,hS,hR,h64,q⟩:=h
 refine⟨_,Ad (Ai (Ah GA hr (by rfl) CA.m CA.k CA.b .nil Ao (Aa (pv 0) Ab))),?_⟩
 exact⟨_,rfl,a,xs,rs,rfl,hS,hR,h64,q⟩
end
theorem La {z:Str} {t:Tr} {row:List Int}:EB (As z t row)≤row.length:=by
 have h:=KA t row
 unfold As EB
 split
 ·simp only[List.map_cons,List.map_nil,List.sum_cons,List.sum_nil];omega
 ·split
  ·simp only[List.map_cons,List.map_nil,List.sum_cons,List.sum_nil];omega
  ·simp only[List.map_cons,List.map_nil,List.sum_cons,List.sum_nil];omega
theorem Oa {room ns:List Int} {sides:List (List Int)} (hr:Wr room) (hs:∀s∈sides,s.Sublist room) (hp:ns.Pairwise (· < ·)) (hm:∀k,k∈ns↔∃row∈sides,k∈row):ns=BM room sides:=
 Gy hp (hr.1.sublist List.filter_sublist) fun k=>by
  rw[hm k]
  unfold BM
  rw[List.mem_filter,List.any_eq_true]
  constructor
  ·rintro⟨r,h1,h2⟩
   exact⟨(hs r h1).subset h2,r,h1,decide_eq_true h2⟩
  ·rintro⟨_,r,h1,h2⟩
   exact⟨r,h1,of_decide_eq_true h2⟩
structure Jh (K:PySem.W.Frag) (mg:Str→Option Value) (nm:Str) (C cT:Addr):Prop where
 at_:XAt K C cT
 cls:R6 K C cT none
 m:mg nm=some (.ref C)
 ty:typeIn K (.ref C)=some (.type "type")
 ic:(clsIn K C).isSome=true
 bs:mroIn K C (.type "BaseException")=some true
 slf:mroIn K C (.ref C)=some true
 up:mroIn K C (.ref cT)=some true
 kv:PySem.W.kitOne K (.ref C) (.type "ValueError")=some true
structure UG (K:PySem.W.Frag) (mg:Str→Option Value) (cT:Addr):Prop where
 m:mg "TalkError"=some (.ref cT)
 ty:typeIn K (.ref cT)=some (.type "type")
 ic:(clsIn K cT).isSome=true
 bs:mroIn K cT (.type "BaseException")=some true
 mV:mg "ValueError"=none
 isi:mg "isinstance"=none
structure N7 (K:PySem.W.Frag) (C D:Addr):Prop where
 mro:mroIn K C (.ref D)=some false
 kit:PySem.W.kitOne K (.ref C) (.ref D)=some false
theorem E6 {K:PySem.W.Frag} {C cT N NT:Addr} {nm q nm2 q2:Str} {bs bs2:List Value} {hd2:Bool} {sn sn2:List Str} {sub sub2:List Value} {ab ab2:Bool} {col col2:Option Bool} {dd dd2:Option Addr} {k0 k1 k2 k3 k5:Option Value} {j0 j1 j2 j3 j4 j5:Option Value}
  {oc oc2:Value} {od od2:Option Addr} {es es2:Array DictEntry} {ep ep2:Nat} {sl sl2:Array (Option Value)}
  (lC:K.lookup C=some (excClassObj nm q C N bs (.ref cT::HZ) true sn sub ab col dd k0 k1 k2 k3 k5 "ValueError.__new__")) (lN:K.lookup N=some ⟨oc,od,.dict es ep,sl⟩) (sN:(es.all fun e=>match e.key with | .str _ _=>true | _=>false)=true)
  (iN:nsIn K N "__init__"=some none) (lT:K.lookup cT=some ⟨.type "type",dd2,.cls { name:=nm2,bases:=bs2,mro:=.ref cT::HZ,ns:=NT,qualname:=q2,hasDict:=hd2,slotNames:=sn2,subclasses:=sub2,abstract:=ab2,collection:=col2,hasDel:=false },#[j0,j1,j2,j3,j4,j5]⟩)
  (lNT:K.lookup NT=some ⟨oc2,od2,.dict es2 ep2,sl2⟩) (sNT:(es2.all fun e=>match e.key with | .str _ _=>true | _=>false)=true) (iNT:nsIn K NT "__init__"=some none) (kp:keepIn K (.ref C)=true):R6 K C cT none:=
 ⟨⟨nm,q,N,bs,true,sn,sub,ab,col,dd,k0,k1,k2,k3,k5,lC,Mp lN sN,iN⟩,P3 lT (Mp lNT sNT) iNT,kp⟩
theorem Fun.okX {P:Program} {w:World} {K:PySem.W.Frag} {mg:Str→Option Value} {bz:Heap} {f:Addr} {fd:FuncData} {x qual:Str} {st:Stmt} {N ps:List Str} {k:Nat} {sp:Sp} (F:Fun K x qual st f fd) (S:Aq N ps (Ae st)) (len:∀vs H Q E,sp vs H Q E→vs.length=ps.length)
  (hbody:∀(cdv:Value) (A:Around) (outer:List Env) (s:Shared) (H:Hp) (vs:List V) (Q:VK) (E:XK),Room k (A.deeper (envOfC qual (Ae st) s.heap.objs.size f cdv))→sp vs H Q E→
   ∃t,PSs (Jq (EG P w) P w K mg bz N qual (Ae st) f cdv A outer s H E) (An st) t∧t { nx:=fun _ H'=>Q .non H',rt:=Q } (Fb N vs) H):FnOk P w K mg bz (EG P w) (k+1) f fd ps sp:=by
 obtain⟨oc,od,kV,doc,pm,an,cdv,ct,osl,rfl,lk,hcd⟩:=F.ex
 exact R1 lk hcd S len fun A outer s H vs Q E hr hsp=>hbody cdv A outer s H vs Q E hr hsp
abbrev Da:Stmt:=By 30
def BT (z:Str):Prop:=z="true"∨z="false"∨z="doubt"
instance (z:Str):Decidable (BT z):=by unfold BT;infer_instance
abbrev RowsNew (H H':Hp):List V→List (List Int)→Prop:=Paired fun (v:V) (row:List Int)=>∃p,v= .ref p∧H p=none∧AJ H' p row
theorem RowsNew.at {H H':Hp}:∀{xs:List V} {rs:List (List Int)},RowsNew H H' xs rs→RowsAt H' xs rs
 | _,_,.nil=>.nil
 | _,_,.cons ⟨p,e,_,h⟩ q=>.cons ⟨p,e,h⟩ (RowsNew.at q)
theorem RowsNew.keep {H H' H2:Hp} (s:Same H' H2):∀{xs:List V} {rs:List (List Int)},RowsNew H H' xs rs→RowsNew H H2 xs rs
 | _,_,.nil=>.nil
 | _,_,.cons ⟨p,e,n,h⟩ q=>.cons ⟨p,e,n,s _ _ h⟩ (RowsNew.keep s q)
def Ij (K:PySem.W.Frag) (cB cN:Addr):Sp:=fun vs H Q E=>∃(r:Addr) (z:Str) (v:V) (t:Tr) (row:List Int),vs=[.ref r,.str z,v]∧t.At H v∧t.ok 5∧t.size≤800∧SqL K H r (row.map V.int)∧Wr row∧
 (¬BT z→∀H',Same H H'→E (.ref cB) none H')∧(BT z→[]∈As z t row→∀H',Same H H'→E (.ref cN) none H')∧
 (BT z→[]∉As z t row→∀(l:Addr) (xs:List V) (H':Hp),Same H H'→H l=none→H' l=some (.lst xs)→RowsNew H H' xs (As z t row)→(∀x∈xs,x≠.ref l)→Q (.ref l) H')
def Hq:List V:=[.str "true",.str "false",.str "doubt"]
theorem NA (z:Str):N8 (.str z) Hq=decide (BT z):=by
 unfold N8 Hq BT
 simp only[List.any_cons,List.any_nil,Bool.or_false]
 have e:∀y:Str,OU (.str y) (.str z)=decide (z=y):=fun y=>by
  show (y == z)=decide (z=y)
  by_cases h:z=y
  ·subst h;simp
  ·rw[decide_eq_false h]
   exact beq_false_of_ne fun q=>h q.symm
 rw[e,e,e,Bool.eq_iff_iff]
 simp only[Bool.or_eq_true,decide_eq_true_eq]
 exact decide_eq_true_iff.symm
theorem QZ {t:Tr} {row ns:List Int} (hr:Wr row) (hp:ns.Pairwise (· < ·)) (hm:∀k,k∈ns↔k∈row∧k∉row.filter fun k=>tv t k == true):ns=AL false t row:=
 Gy hp (hr.1.sublist List.filter_sublist) fun k=>by
  rw[hm k]
  unfold AL
  rw[List.mem_filter,List.mem_filter]
  constructor
  ·rintro⟨h1,h2⟩
   refine⟨h1,?_⟩
   cases h:tv t k with
   | false=>rfl
   | true=>exact absurd ⟨h1,by rw[h];rfl⟩ h2
  ·rintro⟨h1,h2⟩
   refine⟨h1,fun h3=>?_⟩
   have e1:=h3.2
   have e2:tv t k=false:=eq_of_beq h2
   rw[e2] at e1
   cases e1
theorem Lz {r:List Int}:(r.map V.int).isEmpty=r.isEmpty:=by cases r<;>rfl
theorem NQ (rs:List (List Int)):(rs.map List.isEmpty).any id=decide ([]∈rs):=by
 induction rs with
 | nil=>rfl
 | cons r rs ih=>
  rw[List.map_cons,List.any_cons,ih]
  cases r with
  | nil=>simp
  | cons a b=>simp
theorem O3 {K:PySem.W.Frag} {H:Hp} {xs:List V} {rs:List (List Int)} (h:RowsAt H xs rs):∀(i:Nat) v b,xs[i]? = some v→(rs.map List.isEmpty)[i]? = some b→∃a zs,v= .ref a∧SqL K H a zs∧b=zs.isEmpty:=fun i v b hv hb=>by
 obtain⟨row,p,hr,rfl,hp⟩:=h.get hv
 rw[List.getElem?_map,hr] at hb
 refine⟨p,_,rfl,SqL.of hp,?_⟩
 rw[Lz]
 exact (Option.some.inj hb).symm
section
variable {cB cN cT:Addr}
theorem scSidesOf:Aq ["room","kind","sentence","inside","outside","sides"] ["room","kind","sentence"] (Ae Da):=Bx
theorem LR {g g2:Addr} {gd gd2:FuncData} (F:Fun K "sides_of" "sides_of" Da f fd) (XB:Jh K mg "BadWord" cB cT) (XN:Jh K mg "NoStanding" cN cT)
  (GW:FnOk P w K mg bz AG 3 g gd ["sentence","room"] (DP K)) (CW:AM K mg "worlds_of" g gd ["sentence","room"])
  (GF:FnOk P w K mg bz AG 1 g2 gd2 ["one","other"] (E3 K)) (CF:AM K mg "in_first_only" g2 gd2 ["one","other"]):FnOk P w K mg bz (EG P w) 4 f fd ["room","kind","sentence"] (Ij K cB cN):=by
 refine Fun.okX F scSidesOf (fun vs H Q E h=>?_) (fun cdv A outer s H vs Q E hr h=>?_)
 ·obtain⟨r,z,v,t,row,rfl,_⟩:=h
  rfl
 obtain⟨r,z,v,t,row,rfl,ha,hok,hsz,hS,hwr,qB,qN,qO⟩:=h
 have hr1:Room 1 _:=hr.mono (by decide)
 have hl:=hwr.len
 refine⟨_,Ac (AB (Ak B5 (pv 1) (Bb (Aa Aw (Aa Aw (Aa Aw Ab)))) (by with_unfolding_all rfl))
   (Ad (Dl (Ex:=E) DK rfl XB.cls XB.at_ XB.ty (by rfl) XB.m (Aa Aw Ab) (hvl:=fun _ _ _ h=>⟨by decide,h⟩)))
   Al)
  (Ac (Az (i:=3) scSidesOf.nd rfl (Or.inl rfl) (Ah GW hr (by rfl) CW.m CW.k CW.b .nil Ao (Aa (pv 2) (Aa (pv 0) Ab))))
  (Ac (Az (i:=4) scSidesOf.nd rfl (Or.inl rfl) (Ah GF hr1 (by rfl) CF.m CF.k CF.b .nil Ao (Aa (pv 0) (Aa (pv 3) Ab))))
  (Ac (AB (Ak AN (pv 1) Aw (Ar _))
   (Ad (Az (i:=5) scSidesOf.nd rfl (Or.inl rfl) (AK (Aa (pv 3) Ab))))
   (Ad (AB (Ak AN (pv 1) Aw (Ar _))
    (Ad (Az (i:=5) scSidesOf.nd rfl (Or.inl rfl) (AK (Aa (pv 4) Ab))))
    (Ad (Az (i:=5) scSidesOf.nd rfl (Or.inl rfl) (AK (Aa (pv 3) (Aa (pv 4) Ab))))))))
  (Ac (AB (Ak (SM hr.units9) (AK Ab) (pv 5) (by with_unfolding_all rfl))
   (Ad (Dl (Ex:=E) DK rfl XN.cls XN.at_ XN.ty (by rfl) XN.m (Aa Aw Ab) (hvl:=fun _ _ _ h=>⟨by decide,h⟩)))
   Al)
  (Ad (Ai (pv 5))))))),?_⟩
 refine⟨_,rfl,M9,fun kt hkt=>?_⟩
 have s1:=Af hkt (.tup Hq)
 refine⟨kt,Hq,rfl,.inr (SqT.of upd_same),rfl,rfl,_,rfl,?_⟩
 show if (!N8 (.str z) Hq)=true then _ else _
 rw[NA]
 by_cases hk:BT z
 rotate_left
 ·refine P6 hk ?_
  exact qB hk _ s1
 refine Gj hk ?_
 have a1:=ha.keep (TS.same s1)
 refine⟨_,rfl,_,rfl,v,t,r,row,rfl,a1,hok,hsz,s1.seq hS,hwr,fun il H2 s2 hil0 hil=>?_⟩
 have t2:=s1.trans s2
 have hfl:(row.filter fun k=>tv t k == true).length≤32:=Nat.le_trans (List.length_filter_le _ _) hl
 refine⟨_,rfl,_,rfl,r,il,row,_,rfl,t2.seq hS,SqL.of hil,hl,hwr.2,by omega,fun ol H3 ns s3 hol0 hp hm hol=>?_⟩
 have en:=QZ hwr hp hm
 subst en
 have t3:=t2.trans s3
 have hil3:AJ H3 il (AL true t row):=s3 _ _ hil
 have nil0:H il=none:=s1.free hil0
 have nol0:H ol=none:=t2.free hol0
 have nio:il≠ol:=Am hil hol0
 have fin:∀(sl:Addr) (xs:List V) (H4:Hp),Same H3 H4→H3 sl=none→H4 sl=some (.lst xs)→RowsNew H H4 xs (As z t row)→(∀x∈xs,x≠.ref sl)→∀(e:Addr),H4 e=none→∀(G:Bool→Hp→Prop),(∀H',E (.ref cN) none H'→G true H')→(∀H',Q (.ref sl) H'→G false H')→
   TV K (.ref e) (.ref sl) (upd H4 e (.lst [])) (fun x H'=>∃k,x=V.bl k∧G k H'):=fun sl xs H4 s4 hsl0 hsl hR hne e he G g1 g2=>by
  have s5:=Af he (.lst [])
  refine⟨e,sl,xs,(As z t row).map List.isEmpty,rfl,rfl,SqL.of upd_same,SqL.of (s5 _ _ hsl),?_,O3 (hR.at.keep s5),_,rfl,?_⟩
  ·rw[List.length_map];exact hR.at.len.symm
  ·rw[NQ]
   by_cases hm0:[]∈As z t row
   ·rw[decide_eq_true hm0]
    exact g1 _ (qN hk hm0 _ (t3.trans (s4.trans s5)))
   ·rw[decide_eq_false hm0]
    refine g2 _ ?_
    exact qO hk hm0 sl xs _ (t3.trans (s4.trans s5)) (t3.free hsl0) (s5 _ _ hsl) (hR.keep s5) hne
 refine⟨_,rfl,rfl,_,rfl,?_⟩
 by_cases h0:z="true"
 ·refine Bc (by rw[h0]) ?_
  refine⟨_,rfl,M7,fun sl hsl=>?_⟩
  have s4:=Af hsl (.lst [.ref il])
  refine⟨Jx,fun e he=>?_⟩
  have eR:As z t row=[AL true t row]:=by unfold As;rw[if_pos h0]
  exact⟨_,rfl,fin sl [.ref il] _ s4 hsl upd_same (by rw[eR];exact .cons ⟨il,rfl,nil0,s4 _ _ hil3⟩ .nil) (fun x hx=>by rw[List.mem_singleton.mp hx];intro q;exact Am hil3 hsl (V.ref.inj q)) e he _ (fun H' h=>Bq h) (fun H' h=>A8 ⟨_,rfl,h⟩)⟩
 refine A0 (fun q=>h0 (by injection q)) ?_
 refine⟨_,rfl,rfl,_,rfl,?_⟩
 by_cases h1:z="false"
 ·refine Bc (by rw[h1]) ?_
  refine⟨_,rfl,M7,fun sl hsl=>?_⟩
  have s4:=Af hsl (.lst [.ref ol])
  refine⟨Jx,fun e he=>?_⟩
  have eR:As z t row=[AL false t row]:=by unfold As;rw[if_neg h0,if_pos h1]
  exact⟨_,rfl,fin sl [.ref ol] _ s4 hsl upd_same (by rw[eR];exact .cons ⟨ol,rfl,nol0,s4 _ _ hol⟩ .nil) (fun x hx=>by rw[List.mem_singleton.mp hx];intro q;exact Am hol hsl (V.ref.inj q)) e he _ (fun H' h=>Bq h) (fun H' h=>A8 ⟨_,rfl,h⟩)⟩
 refine A0 (fun q=>h1 (by injection q)) ?_
 refine⟨_,rfl,_,rfl,Fl,fun sl hsl=>?_⟩
 have s4:=Af hsl (.lst [.ref il,.ref ol])
 refine⟨Jx,fun e he=>?_⟩
 have eR:As z t row=[AL true t row,AL false t row]:=by unfold As;rw[if_neg h0,if_neg h1]
 refine⟨_,rfl,fin sl [.ref il,.ref ol] _ s4 hsl upd_same (by rw[eR];exact .cons ⟨il,rfl,nil0,s4 _ _ hil3⟩ (.cons ⟨ol,rfl,nol0,s4 _ _ hol⟩ .nil)) (fun x hx=>by
  rcases List.mem_cons.mp hx with q | q
  ·rw[q];intro q;exact Am hil3 hsl (V.ref.inj q)
  ·rw[List.mem_singleton.mp q];intro q;exact Am hol hsl (V.ref.inj q)) e he _ (fun H' h=>Bq h) (fun H' h=>A8 ⟨_,rfl,h⟩)⟩
end
abbrev Dg:Stmt:=By 15
def Cm:Tr→List Int
 | .lt k=>[(k:Int)]
 | .nt t=>Cm t
 | .bn _ a b=>Cm a++Cm b
def Cs (ts:List Tr):List Int:=ts.flatMap Cm
def QT:Tr→List Int
 | .lt k=>[(k:Int)]
 | _=>[]
def HM (ts:List Tr):List Int:=ts.flatMap QT
theorem OJ:∀t:Tr,Cm t=QT t++Cs (EE t)
 | .lt _=>rfl
 | .nt t=>by show Cm t=[]++(Cm t++[]);simp
 | .bn _ a b=>by show Cm a++Cm b=[]++(Cm a++(Cm b++[]));simp
theorem M5 (a b:List Tr):Cs (a++b)=Cs a++Cs b:=by unfold Cs;rw[List.flatMap_append]
theorem M6 (ts:List Tr) (k:Int):k∈Cs ts↔k∈HM ts∨k∈Cs (BW ts):=by
 induction ts with
 | nil=>simp[Cs,HM,BW]
 | cons t r ih=>
  have e1:Cs (t::r)=Cm t++Cs r:=rfl
  have e2:HM (t::r)=QT t++HM r:=rfl
  have e3:BW (t::r)=EE t++BW r:=rfl
  rw[e1,e2,e3,M5,OJ]
  simp only[List.mem_append,ih]
  constructor
  ·rintro ((h | h) | (h | h))
   ·exact .inl (.inl h)
   ·exact .inr (.inl h)
   ·exact .inl (.inr h)
   ·exact .inr (.inr h)
  ·rintro ((h | h) | (h | h))
   ·exact .inl (.inl h)
   ·exact .inr (.inl h)
   ·exact .inl (.inr h)
   ·exact .inr (.inr h)
theorem Fw {ts:List Tr} {i:Nat} {t:Tr} (h:ts[i]? = some t):HM (ts.take (i+1))=HM (ts.take i)++QT t:=by
 unfold HM
 rw[List.take_add_one,h,List.flatMap_append]
 simp
theorem Go:∀{t:Tr},t.ok 5→∀k∈Cm t,0≤k∧k<5
 | .lt j,h,k,hk=>by
  have e:k=(j:Int):=by simpa [Cm] using hk
  have:j<5:=h
  omega
 | .nt t,h,k,hk=>Go (t:=t) h k hk
 | .bn _ a b,h,k,hk=>by
  rcases List.mem_append.mp hk with z | z
  ·exact Go h.2.1 k z
  ·exact Go h.2.2 k z
theorem TS.ext {H:Hp} {l:Addr} {o u:HO} (h:H l=some o) (n:∀xs,o≠.tup xs):TS H (upd H l u):=fun p ys e=>by
 rw[Ax (Ev e h fun z=>n ys z.symm)]
 exact e
def IK (K:PySem.W.Frag):Sp:=fun vs H Q _=>∃(v:V) (t:Tr),vs=[v]∧t.AtK K H v∧t.ok 5∧t.size≤800∧∀(l:Addr) (ns:List Int) (H':Hp),Same H H'→H l=none→H' l=some (.lst (ns.map V.int))→ns.Pairwise (· < ·)→(∀k,k∈ns↔k∈Cm t)→Q (.ref l) H'
section
theorem scLetters:Aq ["sentence","found","layer","part"] ["sentence"] (Ae Dg):=Bx
def Vb (K:PySem.W.Frag) (w:World) (H:Hp) (v:V) (t:Tr) (fa:Addr) (m:Nat):L2.St→Hp→Prop:=fun σ H3=>∃(S:Int→Bool) (n:Nat) (r:Addr) (ys:List V) (ts:List Tr) (pp:Option V),σ=[some v,some (.ref fa),some (.ref r),pp]∧Same H H3∧H3 fa=some (Bn w fa S n)∧H3 r=some (.lst ys)∧PileK K H3 ys ts∧n+sz ts≤800∧(∀k,k∈Cm t↔S k=true∨k∈Cs ts)∧sz ts=m
theorem Lw {g:Addr} {gd:FuncData} (F:Fun K "letters" "letters" Dg f fd) (T:Fc mg) (GP:FnOk P w K mg bz AG 1 g gd ["layer"] (Jz K)) (CP:AM K mg "parts_of" g gd ["layer"]):FnOk P w K mg bz AG 2 f fd ["sentence"] (IK K):=by
 refine F.ok scLetters (fun vs H Q E h=>?_) (fun cdv A outer s H vs Q E hr h=>?_)
 ·obtain⟨v,t,rfl,_⟩:=h
  rfl
 obtain⟨v,t,rfl,ha,hok,hs,q⟩:=h
 refine⟨_,Ac (Az (i:=1) scLetters.nd rfl (Or.inl rfl) (LC N3 (by rfl) T.set boot_set))
  (Ac (Az (i:=2) scLetters.nd rfl (Or.inl rfl) (AK (Aa (pv 0) Ab)))
  (Ac (Ff PassesOwn.never (DM (pv 2) (fun _=>rfl))
   (Ac (BR PassesOwn.never rfl (AW (pv 2)) (AE (i:=3) scLetters.nd rfl (Or.inl rfl))
    (Ad (AB (Ak AN (AC AH (pv 3) Ag (fun _ _=>rfl)) Aw (Ar _))
     (Ad (AU (QW (pv 1) (Aa (AC AH (pv 3) Ag (fun _ _=>rfl)) Ab))))
     Al)))
   (Ad (Az (i:=2) scLetters.nd rfl (Or.inl rfl) (Ah GP hr (by rfl) CP.m CP.k CP.b .nil Ao (Aa (pv 2) Ab))))))
  (Ad (Ai (Av (JW rfl) (by rfl) T.sorted boot_sorted (Aa (pv 1) Ab)))))),?_⟩
 refine⟨rfl,fun fa hfa=>?_⟩
 have s1:=Af hfa (Bn w fa (fun _=>false) 0)
 refine⟨_,rfl,M7,fun l hl=>?_⟩
 have s2:=Af hl (.lst [v])
 have e1:sz [t]=t.size:=by unfold sz;simp
 refine⟨Vb K w H v t fa,⟨_,fun _=>false,0,l,[v],[t],none,rfl,s1.trans s2,s2 _ _ upd_same,upd_same,.cons (ha.keep ((TS.same s1).trans (TS.same s2))) .nil,by omega,fun k=>?_,rfl⟩,?_⟩
 ·have:Cs [t]=Cm t:=by unfold Cs;simp
  rw[this]
  simp
 rintro m σ H3 ⟨S,n,r,ys,ts,pp,rfl,s3,hf3,hr3,p3,hn3,hm3,rfl⟩
 refine⟨_,rfl,_,.inl ⟨ys,SqL.of hr3,rfl⟩,?_⟩
 refine B7 (fun c=>?_) (fun c=>?_)
 ·refine⟨fun σ' H'=>∃m',m'<sz ts∧Vb K w H v t fa m' σ' H',fun _ _ h=>h,?_⟩
  have hlen:=p3.len
  have hpos:0<ts.length:=by
   rw[←hlen]
   cases ys with
   | nil=>exact absurd c (by decide)
   | cons _ _=>exact Nat.succ_pos _
  refine⟨_,rfl,r,rfl,⟨_,SqL.of hr3⟩,A4 (K:=K) (a:=r) (xs:=ys) (fun i σ H4=>∃(S2:Int→Bool) (n2:Nat) (pp:Option V),σ=[some v,some (.ref fa),some (.ref r),pp]∧Same H H4∧H4 fa=some (Bn w fa S2 n2)∧H4 r=some (.lst ys)∧PileK K H4 ys ts∧n2≤n+i∧∀k,S2 k=true↔S k=true∨k∈HM (ts.take i)) ?_ ?_ ?_ ?_⟩
  ·exact⟨S,n,pp,rfl,s3,hf3,hr3,p3,Nat.le_refl _,fun k=>by simp[HM]⟩
  ·rintro i σ H4 _ ⟨S2,n2,pp,rfl,s4,_,hr4,_⟩
   exact SqL.of hr4
  ·rintro i x σ H4 hx ⟨S2,n2,pp,rfl,s4,hf4,hr4,p4,hn4,hm4⟩
   obtain⟨t2,ht2,hat⟩:=PileK.get p4 hx
   have hi:i<ys.length:=(List.getElem?_eq_some_iff.mp hx).1
   have hsz:=Ho ts
   cases t2 with
   | lt j=>
    obtain⟨p,rfl,hp⟩:=hat
    refine⟨_,rfl,p,_,_,_,rfl,rfl,hp.sq,Aj (j:=0) rfl,rfl,_,rfl,?_⟩
    refine Bc rfl ?_
    refine⟨_,rfl,fa,S2,n2,rfl,hf4,_,rfl,p,_,_,_,rfl,rfl,hp.sq,Aj (j:=1) rfl,_,S2,n2,rfl,hf4,by omega,?_⟩
    have kk:TS H4 (upd H4 fa (Bn w fa (fun k=>S2 k || decide (k=(j:Int))) (n2+1))):=TS.ext hf4 (fun xs z=>by cases z)
    refine⟨_,n2+1,_,rfl,AI s4 hfa _,upd_same,by rw[Ax (Ev hr4 hf4 (by intro z;cases z))];exact hr4,p4.keep kk,by omega,fun k=>?_⟩
    rw[Bool.or_eq_true,decide_eq_true_eq,hm4 k,Fw ht2,List.mem_append]
    show (_∨_)∨k=(j:Int)↔_∨_∨k∈[(j:Int)]
    rw[List.mem_singleton,or_assoc]
   | nt t3=>
    obtain⟨p,u,rfl,hp,_⟩:=hat
    refine⟨_,rfl,p,_,_,_,rfl,rfl,hp.sq,Aj (j:=0) rfl,rfl,_,rfl,?_⟩
    refine A0 (by decide) ?_
    refine⟨S2,n2,_,rfl,s4,hf4,hr4,p4,by omega,fun k=>?_⟩
    rw[hm4 k,Fw ht2]
    show _↔_∨k∈HM (ts.take i)++[]
    rw[List.append_nil]
   | bn j a b=>
    obtain⟨p,u,u2,rfl,hp,_⟩:=hat
    refine⟨_,rfl,p,_,_,_,rfl,rfl,hp.sq,Aj (j:=0) rfl,rfl,_,rfl,?_⟩
    refine A0 EQ ?_
    refine⟨S2,n2,_,rfl,s4,hf4,hr4,p4,by omega,fun k=>?_⟩
    rw[hm4 k,Fw ht2]
    show _↔_∨k∈HM (ts.take i)++[]
    rw[List.append_nil]
  ·rintro σ H4 ⟨S2,n2,pp,rfl,s4,hf4,hr4,p4,hn4,hm4⟩
   rw[hlen,List.take_length] at hm4
   have hk:=L5 ts
   refine⟨_,rfl,r,ys,ts,rfl,SqL.of hr4,p4,by omega,fun r2 zs H5 s5 hr5 p5=>?_⟩
   refine⟨sz (BW ts),by omega,S2,n2,r2,zs,BW ts,_,rfl,s4.trans s5,s5 _ _ hf4,hr5,p5,by omega,fun k=>?_,rfl⟩
   rw[hm3 k,M6,hm4 k,or_assoc]
 ·have e:ts=[]:=by
   cases p3 with
   | nil=>rfl
   | cons h1 h2=>exact absurd rfl c
  subst e
  refine⟨_,rfl,fa,S,n,rfl,hf3,fun k hk=>?_,fun l2 ns hl2 hp hm=>?_⟩
  ·have:=Go hok k ((hm3 k).mpr (.inl hk))
   omega
  refine q l2 ns _ (s3.trans (Af hl2 _)) (s3.free hl2) upd_same hp fun k=>?_
  rw[hm k,hm3 k]
  simp[Cs]
end
theorem Bg {us:List Value} (h:us.length=1):∃a0:Value,us=[a0]:=by
 cases us with
 | nil=>exact absurd h (by simp)
 | cons a0 us=>
  have h:us.length=0:=Nat.succ.inj h
  cases us with
  | nil=>exact⟨a0,rfl⟩
  | cons _ _=>exact absurd h (by simp)
theorem A3 {us:List Value} (h:us.length=2):∃a0 a1:Value,us=[a0,a1]:=by
 cases us with
 | nil=>exact absurd h (by simp)
 | cons a0 us=>
  have h:us.length=1:=Nat.succ.inj h
  cases us with
  | nil=>exact absurd h (by simp)
  | cons a1 us=>
   have h:us.length=0:=Nat.succ.inj h
   cases us with
   | nil=>exact⟨a0,a1,rfl⟩
   | cons _ _=>exact absurd h (by simp)
theorem BL {us:List Value} (h:us.length=3):∃a0 a1 a2:Value,us=[a0,a1,a2]:=by
 cases us with
 | nil=>exact absurd h (by simp)
 | cons a0 us=>
  have h:us.length=2:=Nat.succ.inj h
  cases us with
  | nil=>exact absurd h (by simp)
  | cons a1 us=>
   have h:us.length=1:=Nat.succ.inj h
   cases us with
   | nil=>exact absurd h (by simp)
   | cons a2 us=>
    have h:us.length=0:=Nat.succ.inj h
    cases us with
    | nil=>exact⟨a0,a1,a2,rfl⟩
    | cons _ _=>exact absurd h (by simp)
theorem K2 {us:List Value} (h:us.length=4):∃a0 a1 a2 a3:Value,us=[a0,a1,a2,a3]:=by
 cases us with
 | nil=>exact absurd h (by simp)
 | cons a0 us=>
  have h:us.length=3:=Nat.succ.inj h
  cases us with
  | nil=>exact absurd h (by simp)
  | cons a1 us=>
   have h:us.length=2:=Nat.succ.inj h
   cases us with
   | nil=>exact absurd h (by simp)
   | cons a2 us=>
    have h:us.length=1:=Nat.succ.inj h
    cases us with
    | nil=>exact absurd h (by simp)
    | cons a3 us=>
     have h:us.length=0:=Nat.succ.inj h
     cases us with
     | nil=>exact⟨a0,a1,a2,a3,rfl⟩
     | cons _ _=>exact absurd h (by simp)
theorem S1 {us:List Value} (h:us.length=5):∃a0 a1 a2 a3 a4:Value,us=[a0,a1,a2,a3,a4]:=by
 cases us with
 | nil=>exact absurd h (by simp)
 | cons a0 us=>
  have h:us.length=4:=Nat.succ.inj h
  cases us with
  | nil=>exact absurd h (by simp)
  | cons a1 us=>
   have h:us.length=3:=Nat.succ.inj h
   cases us with
   | nil=>exact absurd h (by simp)
   | cons a2 us=>
    have h:us.length=2:=Nat.succ.inj h
    cases us with
    | nil=>exact absurd h (by simp)
    | cons a3 us=>
     have h:us.length=1:=Nat.succ.inj h
     cases us with
     | nil=>exact absurd h (by simp)
     | cons a4 us=>
      have h:us.length=0:=Nat.succ.inj h
      cases us with
      | nil=>exact⟨a0,a1,a2,a3,a4,rfl⟩
      | cons _ _=>exact absurd h (by simp)
theorem SH {us:List Value} (h:us.length=6):∃a0 a1 a2 a3 a4 a5:Value,us=[a0,a1,a2,a3,a4,a5]:=by
 cases us with
 | nil=>exact absurd h (by simp)
 | cons a0 us=>
  have h:us.length=5:=Nat.succ.inj h
  cases us with
  | nil=>exact absurd h (by simp)
  | cons a1 us=>
   have h:us.length=4:=Nat.succ.inj h
   cases us with
   | nil=>exact absurd h (by simp)
   | cons a2 us=>
    have h:us.length=3:=Nat.succ.inj h
    cases us with
    | nil=>exact absurd h (by simp)
    | cons a3 us=>
     have h:us.length=2:=Nat.succ.inj h
     cases us with
     | nil=>exact absurd h (by simp)
     | cons a4 us=>
      have h:us.length=1:=Nat.succ.inj h
      cases us with
      | nil=>exact absurd h (by simp)
      | cons a5 us=>
       have h:us.length=0:=Nat.succ.inj h
       cases us with
       | nil=>exact⟨a0,a1,a2,a3,a4,a5,rfl⟩
       | cons _ _=>exact absurd h (by simp)
def Fe (ns:List Int) (k:Int):Int:=if h:(k%(ns.length:Int)).toNat<ns.length then (if ns[(k%(ns.length:Int)).toNat]<0 then -ns[(k%(ns.length:Int)).toNat] else ns[(k%(ns.length:Int)).toNat]) else 0
def RY (c k:Int):Int:=(c*48271+40692*k+11)%2147483647*2147483629+((c*48271+40692*k+11)%2147483647*((c*48271+40692*k+11)%2147483647)+69621*c+17)%2147483629
def Gm (ns:List Int) (k:Int):Int:=if k<(ns.length:Int)∧Fe ns k≥1000000000000 then Fe ns k else RY (Fe ns k) k
def JV (K:PySem.W.Frag):Sp:=fun vs H Q _=>∃(a:Addr) (ns:List Int) (k:Int),vs=[.ref a,.int k]∧SqL K H a (ns.map V.int)∧ns.length≤63∧0≤k∧k≤1000∧∀(H':Hp),0≤Gm ns k→Same H H'→Q (.int (Gm ns k)) H'
theorem SJ {ns:List Int} {k c:Int} (e:Fe ns k=c) (h1:k<(ns.length:Int)) (h2:c≥1000000000000):c=Gm ns k:=by
 unfold Gm
 rw[e,if_pos ⟨h1,h2⟩]
theorem Jb {ns:List Int} {k c:Int} (e:Fe ns k=c) (h:¬(k<(ns.length:Int)∧c≥1000000000000)):RY c k=Gm ns k:=by
 unfold Gm
 rw[e,if_neg h]
section
theorem Qn (G:FnOk P w K mg bz AG 1 f fd ["_law_script","_law_k"] (JV K)):FnOk P w K mg bz AG 1 f fd ["_law_script","_law_k"] (OC K):=G.imp fun vs H Q E h=>by
 obtain⟨a,ns,k,e,h1,h2,h3,h4,q⟩:=h
 exact⟨a,ns,k,e,h1,h2,h3,h4,fun H' h0 s=>q _ H' h0 s⟩
theorem QL (F:Fun K "_law_num" "_law_num" NV f fd) (B:Bl mg):FnOk P w K mg bz AG 1 f fd ["_law_script","_law_k"] (JV K):=by
 refine F.ok scNum (fun vs H Q E h=>?_) (fun cdv A outer s H vs Q E hr h=>?_)
 ·obtain⟨a,ns,k,rfl,_⟩:=h
  rfl
 obtain⟨a,ns,k,rfl,hS,h63,hk0,hk1,q⟩:=h
 refine⟨_,Ac (Az (i:=2) scNum.nd rfl (Or.inl rfl) Ag)
  (Ac (AB (Ak (Js hr.units0) (pv 0) (AK Ab) (Ar _))
   (Ad (Az (i:=2) scNum.nd rfl (Or.inl rfl) (Av PD (by rfl) B.abs boot_abs (Aa (AC AT (pv 0) (AD A6 (pv 1) (Av Au (by rfl) B.len PySem.boot_len (Aa (pv 0) Ab))) (fun _ _=>rfl)) Ab)))) Al)
  (Ac (AB (Jt (Ak Iw (pv 1) (Av Au (by rfl) B.len PySem.boot_len (Aa (pv 0) Ab)) (Ar _)) (Gz (Ak RX (pv 2) (AD SI Ag Ag) (Ar _)))).pt
   (Ad (Ai (pv 2))) Al)
  (Ac (Az (i:=3) scNum.nd rfl (Or.inl rfl) (AD A6 (AD Ch (AD Ch (AD HX (pv 2) Ag) (AD HX Ag (pv 1))) Ag) Ag))
  (Ac (Az (i:=4) scNum.nd rfl (Or.inl rfl) (AD A6 (AD Ch (AD Ch (AD HX (pv 3) (pv 3)) (AD HX Ag (pv 2))) Ag) Ag))
  (Ad (Ai (AD Ch (AD HX (pv 3) Ag) (pv 4)))))))),?_⟩
 refine⟨_,rfl,Jx,fun p hp=>?_⟩
 have sm:Same H (upd H p (.lst [])):=Af hp _
 refine⟨a,p,_,rfl,rfl,sm.seq hS,SqL.of upd_same,_,rfl,?_⟩
 have hl:(ns.map V.int).length=ns.length:=List.length_map _
 have fin:∀c:Int,0≤c→∀b:Int,0≤(c*48271+40692*k+11)%2147483647*2147483629+b%2147483629:=fun c hc b=>by
  have h1:=Int.emod_nonneg (c*48271+40692*k+11) (show (2147483647:Int)≠0 by decide)
  have h2:=Int.emod_nonneg b (show (2147483629:Int)≠0 by decide)
  omega
 have b64:∀b:Int,-(2^64)<b%2147483647∧b%2147483647<2^64:=fun b=>by omega
 refine B7 (fun c0=>?_) (fun c0=>?_)
 ·have ne:ns≠[]:=by
   intro z
   subst z
   exact absurd c0 (by decide)
  have hp':0<ns.length:=List.length_pos_iff.mpr ne
  have hi:(k%(ns.length:Int)).toNat<ns.length:=by
   have h1:=Int.emod_nonneg k (show (ns.length:Int)≠0 by omega)
   have h2:=Int.emod_lt_of_pos k (show (0:Int)<ns.length by omega)
   omega
  have hat:Ia (ns.map V.int) (k%(((ns.map V.int).length:Nat):Int))=some (.int ns[(k%(ns.length:Int)).toNat]):=by
   have e:k%(((ns.map V.int).length:Nat):Int)=(((k%(ns.length:Int)).toNat:Nat):Int):=by
    rw[hl]
    have h1:=Int.emod_nonneg k (show (ns.length:Int)≠0 by omega)
    omega
   rw[e]
   refine Aj ?_
   rw[List.getElem?_map,List.getElem?_eq_getElem hi]
   rfl
  refine⟨_,rfl,_,rfl,_,rfl,a,_,rfl,.inl (sm.seq hS),_,_,rfl,rfl,(by rw[hl];omega),a,_,_,_,rfl,rfl,sm.seq hS,hat,_,rfl,?_⟩
  generalize hc:(if ns[(k%(ns.length:Int)).toNat]<0 then -ns[(k%(ns.length:Int)).toNat] else ns[(k%(ns.length:Int)).toNat])=c
  have hc0:0≤c:=by
   rw[←hc]
   split<;>omega
  have eC:Fe ns k=c:=by
   unfold Fe
   rw[dif_pos hi]
   exact hc
  refine⟨_,rfl,_,rfl,a,_,rfl,.inl (sm.seq hS),_,_,rfl,rfl,_,rfl,?_⟩
  refine B7 (fun c1=>?_) (fun c1=>?_)
  ·refine⟨_,rfl,_,_,rfl,rfl,⟨by decide,by decide,by decide⟩,_,_,rfl,rfl,_,rfl,?_⟩
   refine B7 (fun c2=>?_) (fun c2=>?_)
   ·have e1:=SJ eC (by have z:=of_decide_eq_true c1;rw[hl] at z;exact z) (of_decide_eq_true c2)
    rw[←e1] at q
    exact⟨_,rfl,q _ hc0 sm⟩
   ·refine⟨_,rfl,_,_,rfl,rfl,.inr ⟨by decide,by decide⟩,_,rfl,_,_,rfl,rfl,.inl ⟨by decide,by decide⟩,_,_,rfl,rfl,_,_,rfl,rfl,_,_,rfl,rfl,(by show (0:Int)<2147483647;decide),?_⟩
    refine⟨_,rfl,_,rfl,_,_,rfl,rfl,.inl (b64 _),_,rfl,_,_,rfl,rfl,.inl ⟨by decide,by decide⟩,_,_,rfl,rfl,_,_,rfl,rfl,_,_,rfl,rfl,(by show (0:Int)<2147483629;decide),?_⟩
    have e1:=Jb (k:=k) eC (fun z=>c2 (decide_eq_true z.2))
    rw[←e1] at q
    exact⟨_,rfl,_,_,rfl,rfl,.inl (b64 _),_,rfl,_,_,rfl,rfl,q _ (fin c hc0 _) sm⟩
  ·refine A8 ?_
   refine⟨_,rfl,_,_,rfl,rfl,.inr ⟨by decide,by decide⟩,_,rfl,_,_,rfl,rfl,.inl ⟨by decide,by decide⟩,_,_,rfl,rfl,_,_,rfl,rfl,_,_,rfl,rfl,(by show (0:Int)<2147483647;decide),?_⟩
   refine⟨_,rfl,_,rfl,_,_,rfl,rfl,.inl (b64 _),_,rfl,_,_,rfl,rfl,.inl ⟨by decide,by decide⟩,_,_,rfl,rfl,_,_,rfl,rfl,_,_,rfl,rfl,(by show (0:Int)<2147483629;decide),?_⟩
   have e1:=Jb (k:=k) eC (fun z=>c1 (decide_eq_true (by rw[hl];exact z.1)))
   rw[←e1] at q
   exact⟨_,rfl,_,_,rfl,rfl,.inl (b64 _),_,rfl,_,_,rfl,rfl,q _ (fin c hc0 _) sm⟩
 ·have en:ns=[]:=by
   cases ns with
   | nil=>rfl
   | cons x r=>exact absurd (by rfl) c0
  subst en
  have eC:Fe [] k=0:=by
   unfold Fe
   rw[dif_neg (by simp)]
  refine⟨_,rfl,_,rfl,a,_,rfl,.inl (sm.seq hS),_,_,rfl,rfl,_,rfl,?_⟩
  refine B7 (fun c1=>?_) (fun c1=>?_)
  ·refine⟨_,rfl,_,_,rfl,rfl,⟨by decide,by decide,by decide⟩,_,_,rfl,rfl,_,rfl,?_⟩
   refine B7 (fun c2=>?_) (fun c2=>?_)
   ·exact absurd (of_decide_eq_true c2) (by decide)
   ·refine⟨_,rfl,_,_,rfl,rfl,.inr ⟨by decide,by decide⟩,_,rfl,_,_,rfl,rfl,.inl ⟨by decide,by decide⟩,_,_,rfl,rfl,_,_,rfl,rfl,_,_,rfl,rfl,(by show (0:Int)<2147483647;decide),?_⟩
    refine⟨_,rfl,_,rfl,_,_,rfl,rfl,.inl (b64 _),_,rfl,_,_,rfl,rfl,.inl ⟨by decide,by decide⟩,_,_,rfl,rfl,_,_,rfl,rfl,_,_,rfl,rfl,(by show (0:Int)<2147483629;decide),?_⟩
    have e1:=Jb (k:=k) eC (fun z=>absurd z.2 (by decide))
    rw[←e1] at q
    exact⟨_,rfl,_,_,rfl,rfl,.inl (b64 _),_,rfl,_,_,rfl,rfl,q _ (fin 0 (Int.le_refl _) _) sm⟩
  ·refine A8 ?_
   refine⟨_,rfl,_,_,rfl,rfl,.inr ⟨by decide,by decide⟩,_,rfl,_,_,rfl,rfl,.inl ⟨by decide,by decide⟩,_,_,rfl,rfl,_,_,rfl,rfl,_,_,rfl,rfl,(by show (0:Int)<2147483647;decide),?_⟩
   refine⟨_,rfl,_,rfl,_,_,rfl,rfl,.inl (b64 _),_,rfl,_,_,rfl,rfl,.inl ⟨by decide,by decide⟩,_,_,rfl,rfl,_,_,rfl,rfl,_,_,rfl,rfl,(by show (0:Int)<2147483629;decide),?_⟩
   have e1:=Jb (k:=k) eC (fun z=>absurd z.2 (by decide))
   rw[←e1] at q
   exact⟨_,rfl,_,_,rfl,rfl,.inl (b64 _),_,rfl,_,_,rfl,rfl,q _ (fin 0 (Int.le_refl _) _) sm⟩
end
abbrev Do:Stmt:=By 25
theorem Gu:∀{t:Tr} {m:Nat},t.ok 5→(t.ok m↔∀k∈Cm t,k<(m:Int))
 | .lt j,m,_=>by
  show j<m↔∀k∈[(j:Int)],k<(m:Int)
  simp
 | .nt t,m,h=>Gu (t:=t) h
 | .bn j a b,m,h=>by
  have h1:=Gu (m:=m) h.2.1
  have h2:=Gu (m:=m) h.2.2
  show (j<4∧a.ok m∧b.ok m)↔∀k∈Cm a++Cm b,k<(m:Int)
  rw[h1,h2]
  constructor
  ·rintro⟨_,q1,q2⟩ k hk
   rcases List.mem_append.mp hk with z | z
   ·exact q1 k z
   ·exact q2 k z
  ·intro q
   exact⟨h.1,fun k hk=>q k (List.mem_append_left _ hk),fun k hk=>q k (List.mem_append_right _ hk)⟩
theorem Jc:∀t:Tr,∃k,k∈Cm t
 | .lt j=>⟨(j:Int),by simp[Cm]⟩
 | .nt t=>Jc t
 | .bn _ a b=>by
  obtain⟨k,hk⟩:=Jc a
  exact⟨k,List.mem_append_left _ hk⟩
theorem RT {ns:List Int} {x:Int} (h:(ns++[x]).Pairwise (· < ·)):∀k∈ns++[x],k≤x:=fun k hk=>by
 rcases List.mem_append.mp hk with z | z
 ·exact Int.le_of_lt ((List.pairwise_append.mp h).2.2 k z x (by simp))
 ·rw[List.mem_singleton.mp z]
  exact Int.le_refl _
theorem J5 {α:Type} (xs:List α) (x:α):Ia (xs++[x]) (-1)=some x:=by
 have e:RV (xs++[x]).length (-1)=some xs.length:=by
  unfold RV
  rw[if_neg (by decide),List.length_append]
  show (if _ then _ else _)=_
  rw[if_pos (by show -(((xs.length+1:Nat)):Int)≤-1;omega)]
  congr 1
  show (((xs.length+1:Nat):Int) + -1).toNat=xs.length
  omega
 unfold Ia
 rw[e]
 show (xs++[x])[xs.length]? = some x
 simp
def FD (K:PySem.W.Frag) (cS:Addr):Sp:=fun vs H Q E=>∃(v:V) (t:Tr) (m:Nat),vs=[v,.int m]∧t.AtK K H v∧t.ok 5∧t.size≤800∧(¬t.ok m→∀H',Same H H'→E (.ref cS) none H')∧(t.ok m→∀H',Same H H'→Q .non H')
def Kw (cS:Addr):Sp:=fun vs H Q E=>∃(v:V) (t:Tr) (m:Nat),vs=[v,.int m]∧t.At H v∧t.ok 5∧t.size≤60∧(¬t.ok m→∀H',Same H H'→E (.ref cS) none H')∧(t.ok m→∀H',Same H H'→Q .non H')
section
variable {cS cT:Addr}
theorem Nq:Aq ["sentence","many"] ["sentence","many"] (Ae Do):=Bx
theorem MS {g:Addr} {gd:FuncData} (F:Fun K "refuse_strange" "refuse_strange" Do f fd) (XS:Jh K mg "StrangeLetter" cS cT) (GL:FnOk P w K mg bz AG 2 g gd ["sentence"] (IK K)) (CL:AM K mg "letters" g gd ["sentence"]):FnOk P w K mg bz (EG P w) 3 f fd ["sentence","many"] (FD K cS):=by
 refine Fun.okX F Nq (fun vs H Q E h=>?_) (fun cdv A outer s H vs Q E hr h=>?_)
 ·obtain⟨v,t,m,rfl,_⟩:=h
  rfl
 obtain⟨v,t,m,rfl,ha,hok,hsz,qE,q⟩:=h
 refine⟨_,Ad (AB (Ak RX (AC AT (Ah GL hr (by rfl) CL.m CL.k CL.b .nil Ao (Aa (pv 0) Ab)) (Ko HB Ag) (fun _ _=>rfl)) (pv 1) (Ar _))
   (Ad (Dl (Ex:=E) DK rfl XS.cls XS.at_ XS.ty (by rfl) XS.m (Aa Aw Ab) (hvl:=fun _ _ _ h=>⟨by decide,h⟩)))
   Al),?_⟩
 refine⟨_,rfl,v,t,rfl,ha,hok,hsz,fun l ns H1 s1 hl0 hl hp hm=>?_⟩
 obtain⟨k0,hk0⟩:=Jc t
 have hne:ns≠[]:=List.ne_nil_of_mem ((hm k0).mpr hk0)
 obtain⟨ms,x,rfl⟩:∃ms x,ns=ms++[x]:=⟨ns.dropLast,ns.getLast hne,(List.dropLast_concat_getLast hne).symm⟩
 have hmax:=RT hp
 have hx:x∈Cm t:=(hm x).mp (by simp)
 have hiff:=Gu (m:=m) hok
 have hat:Ia ((ms++[x]).map V.int) (-1)=some (.int x):=by rw[List.map_append];exact J5 _ _
 refine⟨_,rfl,l,_,_,_,rfl,rfl,SqL.of hl,hat,_,rfl,_,_,rfl,rfl,_,rfl,?_⟩
 by_cases c:t.ok m
 ·refine A0 (fun z=>?_) (q c _ s1)
  have:=hiff.mp c x hx
  have z':x≥(m:Int):=z
  omega
 ·refine Bc ?_ (qE c _ s1)
  show x≥(m:Int)
  refine Int.not_lt.mp fun z=>c (hiff.mpr fun k hk=>?_)
  have:=hmax k ((hm k).mpr hk)
  omega
theorem Sd (G:FnOk P w K mg bz (EG P w) 3 f fd ["sentence","many"] (FD K cS)):FnOk P w K mg bz (EG P w) 3 f fd ["sentence","many"] (Kw cS):=G.imp fun vs H Q E h=>by
 obtain⟨v,t,m,e,ha,ok,hs,h⟩:=h
 exact⟨v,t,m,e,ha.toK,ok,Nat.le_trans hs (by decide),h⟩
end
def BH (M:List Addr) (H:Hp):Hp:=fun b=>if b∈M then none else H b
section
variable {M N:List Addr} {H H' H0 H1:Hp} {a b l:Addr} {o:HO}
theorem BU (h:BH M H b=some o):H b=some o∧b∉M:=by
 unfold BH at h
 by_cases c:b∈M
 ·rw[if_pos c] at h;cases h
 ·rw[if_neg c] at h;exact⟨h,c⟩
theorem Bu (h:H b=some o) (n:b∉M):BH M H b=some o:=by unfold BH;rw[if_neg n];exact h
theorem AR:Same (BH M H) H:=fun b o h=>(BU h).1
theorem AO (s:Same H H'):Same (BH M H) (BH M H'):=fun b o h=>Bu (s _ _ (BU h).1) (BU h).2
theorem ES (h:a∈M):BH M (upd H a o)=BH M H:=by
 funext b
 unfold BH
 by_cases c:b∈M
 ·rw[if_pos c,if_pos c]
 ·rw[if_neg c,if_neg c,Ax (fun z=>c (by rw[z];exact h))]
abbrev But (M:List Addr) (H H':Hp):Prop:=Same (BH M H) (BH M H')
theorem But.upd (h:a∈M):But M H (upd H a o):=by
 show Same (BH M H) (BH M (L2.upd H a o))
 rw[ES h]
 exact Same.refl _
theorem But.wide (h:∀x∈M,x∈N) (s:But M H H'):But N H H':=fun b o e=>by
 obtain⟨e1,n⟩:=BU e
 exact Bu (BU (s b o (Bu e1 fun z=>n (h b z)))).1 n
theorem But.same (off:∀m∈M,H0 m=none) (s0:Same H0 H) (s:But M H H'):Same H0 H':=fun b o e=>
 (BU (s b o (Bu (s0 _ _ e) fun z=>by rw[off b z] at e;cases e))).1
theorem But.at (s:But M H H') (h:H b=some o) (n:b∉M):H' b=some o:=(BU (s b o (Bu h n))).1
end
structure Tk where
 dx:Addr
 sp:Addr
 pt:Addr
 gv:Addr
 lf:Addr
 sv:V
 pxs:List V
 ges:List V
 lfs:List V
structure Ta where
 many:Nat
 kind:Str
 rule:Str
 t:Tr
 room:List Int
 ents:List (V×Tr×Str)
 lefts:List (List Int)
 ended:Bool
def Ta.sides (W:Ta):List (List Int):=As W.kind W.t W.room
def Ta.base (W:Ta):List Int:=W.lefts.headD []
def Ta.held (W:Ta):List Int:=W.lefts.getLastD []
def Ta.going (W:Ta):List Int:=if W.rule="elder" then W.held else W.base
def DG (U:Tk) (W:Ta):List (Str×V):=[("many",.int W.many),("kind",.str W.kind),("sentence",U.sv),("rule",.str W.rule),("space",.ref U.sp),("parts",.ref U.pt),("given",.ref U.gv),("left",.ref U.lf),("ended",.bl W.ended)]
abbrev EntsAt (H:Hp):List V→List (V×Tr×Str)→Prop:=Paired fun (v:V) (e:V×Tr×Str)=>∃p,v= .ref p∧H p=some (.tup [e.1,.str e.2.2])∧e.2.1.At H e.1
theorem EntsAt.keep {H H':Hp} (s:Same H H'):∀{xs:List V} {es:List (V×Tr×Str)},EntsAt H xs es→EntsAt H' xs es
 | _,_,.nil=>.nil
 | _,_,.cons ⟨p,e,h,a⟩ q=>.cons ⟨p,e,s _ _ h,a.keep (TS.same s)⟩ (EntsAt.keep s q)
structure TalkAt (M:List Addr) (C:Addr) (H:Hp) (a:Addr) (U:Tk) (W:Ta):Prop where
 ob:H a=some (.ins C U.dx (DG U W))
 gv:H U.gv=some (.lst U.ges)
 lf:H U.lf=some (.lst U.lfs)
 ma:a∈M
 mg:U.gv∈M
 ml:U.lf∈M
 ne:U.gv≠U.lf
 room:AJ (BH M H) U.sp W.room
 tr:W.t.At (BH M H) U.sv
 pt:BH M H U.pt=some (.lst U.pxs)
 sd:RowsAt (BH M H) U.pxs W.sides
 en:EntsAt (BH M H) U.ges W.ents
 lr:RowsAt (BH M H) U.lfs W.lefts
 wr:Wr W.room
 wl:∀l∈W.lefts,l.Sublist W.room
 ln:W.lefts≠[]
 l9:W.lefts.length≤900
 e9:W.ents.length≤900
 tok:W.t.ok W.many
 m5:W.many≤5
 tsz:W.t.size≤23
 kd:BT W.kind
 ns:[]∉W.sides
 rl:W.rule="elder"∨W.rule="newer"
section
variable {M:List Addr} {C:Addr} {H H':Hp} {a:Addr} {U:Tk} {W:Ta}
theorem TalkAt.keep (s:Same H H') (h:TalkAt M C H a U W):TalkAt M C H' a U W:=
 ⟨s _ _ h.ob,s _ _ h.gv,s _ _ h.lf,h.ma,h.mg,h.ml,h.ne,AO s _ _ h.room,h.tr.keep (TS.same (AO s)),AO s _ _ h.pt,h.sd.keep (AO s),h.en.keep (AO s),h.lr.keep (AO s),h.wr,h.wl,h.ln,h.l9,h.e9,h.tok,h.m5,h.tsz,h.kd,h.ns,h.rl⟩
theorem TalkAt.ws (h:TalkAt M C H a U W):∀s∈W.sides,Wr s:=fun s hs=>h.wr.sub (Bi hs)
theorem JF:(DG U W).lookup ("many":Str)=some (.int W.many):=by with_unfolding_all rfl
theorem RD:(DG U W).lookup ("kind":Str)=some (.str W.kind):=by with_unfolding_all rfl
theorem Ki:(DG U W).lookup ("sentence":Str)=some U.sv:=by with_unfolding_all rfl
theorem Jl:(DG U W).lookup ("rule":Str)=some (.str W.rule):=by with_unfolding_all rfl
theorem DJ:(DG U W).lookup ("space":Str)=some (.ref U.sp):=by with_unfolding_all rfl
theorem HA:(DG U W).lookup ("parts":Str)=some (.ref U.pt):=by with_unfolding_all rfl
theorem EU:(DG U W).lookup ("given":Str)=some (.ref U.gv):=by with_unfolding_all rfl
theorem Cr:(DG U W).lookup ("left":Str)=some (.ref U.lf):=by with_unfolding_all rfl
theorem HY:(DG U W).lookup ("ended":Str)=some (.bl W.ended):=by with_unfolding_all rfl
theorem Q3:(DG U W).lookup ("room":Str)=none:=by with_unfolding_all rfl
theorem RE:(DG U W).lookup ("base":Str)=none:=by with_unfolding_all rfl
theorem Jd:(DG U W).lookup ("held":Str)=none:=by with_unfolding_all rfl
theorem Ow:(DG U W).lookup ("going":Str)=none:=by with_unfolding_all rfl
theorem Oh:(DG U W).lookup ("sides":Str)=none:=by with_unfolding_all rfl
theorem HC:(DG U W).lookup ("entries":Str)=none:=by with_unfolding_all rfl
theorem Im:(DG U W).lookup ("caught":Str)=none:=by with_unfolding_all rfl
theorem QH:(DG U W).lookup ("over":Str)=none:=by with_unfolding_all rfl
theorem PX:(DG U W).lookup ("ask":Str)=none:=by with_unfolding_all rfl
theorem Pm:(DG U W).lookup ("say":Str)=none:=by with_unfolding_all rfl
theorem QQ:(DG U W).lookup ("fork":Str)=none:=by with_unfolding_all rfl
end
def TalkN (M:List Addr) (C:Addr) (H:Hp) (a:Addr) (U:Tk) (W:Ta):Prop:=TalkAt M C (upd H U.gv (.lst U.ges)) a U W∧∃gs,H U.gv=some (.lst gs)∧gs.length≤900
section
variable {M:List Addr} {C:Addr} {H H':Hp} {a:Addr} {U:Tk} {W:Ta}
theorem Sj {H:Hp} {a:Addr} {o:HO} (h:H a=some o):upd H a o=H:=by
 funext b
 by_cases c:b=a
 ·rw[c,upd_same,h]
 ·rw[Ax c]
theorem TalkAt.toN (h:TalkAt M C H a U W):TalkN M C H a U W:=⟨by rw[Sj h.gv];exact h,U.ges,h.gv,by rw[Paired.length h.en];exact h.e9⟩
theorem TalkN.keep (s:Same H H') (h:TalkN M C H a U W):TalkN M C H' a U W:=by
 obtain⟨h1,gs,h2,h3⟩:=h
 refine⟨h1.keep fun b o e=>?_,gs,s _ _ h2,h3⟩
 by_cases c:b=U.gv
 ·rw[c] at e ⊢
  rw[upd_same] at e ⊢
  exact e
 ·rw[Ax c] at e ⊢
  exact s _ _ e
theorem TalkN.agv (h:TalkN M C H a U W):a≠U.gv:=Ev h.1.ob h.1.gv (by intro z;cases z)
theorem TalkN.ob (h:TalkN M C H a U W):H a=some (.ins C U.dx (DG U W)):=by
 have:=h.1.ob
 rw[Ax h.agv] at this
 exact this
theorem TalkN.lf (h:TalkN M C H a U W):H U.lf=some (.lst U.lfs):=by
 have:=h.1.lf
 rw[Ax h.1.ne.symm] at this
 exact this
theorem TalkN.ct (h:TalkN M C H a U W):BH M (upd H U.gv (.lst U.ges))=BH M H:=ES h.1.mg
theorem TalkN.room (h:TalkN M C H a U W):AJ (BH M H) U.sp W.room:=by rw[←h.ct];exact h.1.room
theorem TalkN.pt (h:TalkN M C H a U W):BH M H U.pt=some (.lst U.pxs):=by rw[←h.ct];exact h.1.pt
theorem TalkN.sd (h:TalkN M C H a U W):RowsAt (BH M H) U.pxs W.sides:=by rw[←h.ct];exact h.1.sd
theorem TalkN.lr (h:TalkN M C H a U W):RowsAt (BH M H) U.lfs W.lefts:=by rw[←h.ct];exact h.1.lr
end
structure BQ (K:PySem.W.Frag) (C:Addr) (nm:Str) (f:Addr) (fd:FuncData) (ps:List Str):Prop where
 m:QI K C nm f
 b:Binds K fd ps []
structure SU (K:PySem.W.Frag) (mg:Str→Option Value) (C:Addr) (nm:Str) (f:Addr) (fd:FuncData) (ps:List Str):Prop where
 make:Mk K C f
 m:mg nm=some (.ref C)
 b:Binds K fd ps []
structure JX (K:PySem.W.Frag) (C:Addr):Prop where
 cl:Cls K C
 many:NoAttr K C "many"
 kind:NoAttr K C "kind"
 sentence:NoAttr K C "sentence"
 rule:NoAttr K C "rule"
 space:NoAttr K C "space"
 parts:NoAttr K C "parts"
 given:NoAttr K C "given"
 left:NoAttr K C "left"
 ended:NoAttr K C "ended"
theorem Nh {H:Hp} {xs:List V} {rs:List (List Int)} (h:RowsAt H xs rs) (ne:rs≠[]):∃p,Ia xs 0=some (.ref p)∧AJ H p (rs.headD []):=by
 cases h with
 | nil=>exact absurd rfl ne
 | cons r q=>
  obtain⟨p,rfl,hp⟩:=r
  exact⟨p,Aj (j:=0) rfl,hp⟩
theorem IL {H:Hp}:∀{xs:List V} {rs:List (List Int)},RowsAt H xs rs→rs≠[]→∃ys p,xs=ys++[.ref p]∧RowsAt H ys rs.dropLast∧AJ H p (rs.getLastD [])
 | _,_,.nil,ne=>absurd rfl ne
 | [_],[_],.cons ⟨p,rfl,hp⟩ .nil,_=>⟨[],p,rfl,.nil,hp⟩
 | x::_::_,_::_::_,.cons hx (.cons h2 q),_=>by
  obtain⟨ys,p,e,h1,h3⟩:=IL (.cons h2 q) (List.cons_ne_nil _ _)
  exact⟨x::ys,p,by rw[e];rfl,.cons hx h1,h3⟩
theorem E4 {H:Hp} {xs:List V} {rs:List (List Int)} (h:RowsAt H xs rs) (ne:rs≠[]):∃p,Ia xs (-1)=some (.ref p)∧AJ H p (rs.getLastD []):=by
 obtain⟨ys,p,rfl,_,hp⟩:=IL h ne
 exact⟨p,J5 _ _,hp⟩
theorem TalkAt.s9 {M:List Addr} {C:Addr} {H:Hp} {a:Addr} {U:Tk} {W:Ta} (h:TalkAt M C H a U W):W.sides.length≤900:=by
 unfold Ta.sides
 rcases DZ (z:=W.kind) (t:=W.t) (row:=W.room) with⟨x,e⟩|⟨x,y,e⟩<;>rw[e]<;>simp
theorem TalkAt.held_in {M:List Addr} {C:Addr} {H:Hp} {a:Addr} {U:Tk} {W:Ta} (h:TalkAt M C H a U W):W.held∈W.lefts:=by
 unfold Ta.held
 have:=h.ln
 cases e:W.lefts with
 | nil=>exact absurd e this
 | cons x r=>
  rw[List.getLastD_eq_getLast?,List.getLast?_eq_some_getLast (List.cons_ne_nil x r)]
  exact List.getLast_mem _
theorem TalkAt.base_in {M:List Addr} {C:Addr} {H:Hp} {a:Addr} {U:Tk} {W:Ta} (h:TalkAt M C H a U W):W.base∈W.lefts:=by
 unfold Ta.base
 have:=h.ln
 cases e:W.lefts with
 | nil=>exact absurd e this
 | cons x r=>exact List.mem_cons_self
theorem TalkAt.held_wr {M:List Addr} {C:Addr} {H:Hp} {a:Addr} {U:Tk} {W:Ta} (h:TalkAt M C H a U W):Wr W.held:=h.wr.sub (h.wl _ h.held_in)
theorem TalkAt.base_wr {M:List Addr} {C:Addr} {H:Hp} {a:Addr} {U:Tk} {W:Ta} (h:TalkAt M C H a U W):Wr W.base:=h.wr.sub (h.wl _ h.base_in)
theorem TalkAt.going_wr {M:List Addr} {C:Addr} {H:Hp} {a:Addr} {U:Tk} {W:Ta} (h:TalkAt M C H a U W):Wr W.going:=by
 unfold Ta.going
 split
 ·exact h.held_wr
 ·exact h.base_wr
theorem TalkAt.held_len {M:List Addr} {C:Addr} {H:Hp} {a:Addr} {U:Tk} {W:Ta} (h:TalkAt M C H a U W):W.held.length≤32:=h.held_wr.len
theorem E7 {H0 H:Hp} {v:V} {row:List Int} (h:∃p,v= .ref p∧H0 p=none∧AJ H p row):∀{xs:List V} {rs:List (List Int)},RowsNew H0 H xs rs→RowsNew H0 H (xs++[v]) (rs++[row])
 | _,_,.nil=>.cons h .nil
 | _,_,.cons x q=>.cons x (E7 h q)
theorem Gc {H0 H H':Hp} {acc:Addr}:∀{xs:List V} {rs:List (List Int)},RowsNew H0 H xs rs→(∀y∈xs,y≠.ref acc)→(∀p row,p≠acc→AJ H p row→AJ H' p row)→RowsNew H0 H' xs rs
 | _,_,.nil,_,_=>.nil
 | _,_,.cons ⟨p,e,n,h⟩ q,ho,k=>.cons ⟨p,e,n,k p _ (fun z=>ho _ List.mem_cons_self (by rw[e,z])) h⟩ (Gc q (fun y hy=>ho y (List.mem_cons_of_mem _ hy)) k)
theorem Jm {K:PySem.W.Frag} {a acc:Addr} {xs:List V} {rs:List (List Int)} {te:TE} {rest:L2.St} {D:Cg} {H:Hp} (hr:SqL K H a xs) (hR:RowsAt H xs rs) (hacc:H acc=none) (hlen:xs.length≤900)
  (ht:∀(p:Addr) (row:List Int) H2,AJ H2 p row→∀R:V→Hp→Prop,(∀l,H2 l=none→R (.ref l) (upd H2 l (.lst (row.map V.int))))→te (some (.ref p)::rest) H2 R)
  (hd:∀v0 ys H2,Same H H2→H2 acc=some (.lst ys)→RowsNew H H2 ys rs→(∀y∈ys,y≠.ref acc)→D.nx (v0::rest) H2) (v:Option V) :
  Er (Qw K a) (Dd 0) (DC J7 (BX acc te)) D (v::rest) (upd H acc (.lst [])):=by
 refine A4 (K:=K) (a:=a) (xs:=xs) (fun i σ H2=>∃v0 ys,σ=v0::rest∧Same H H2∧H2 acc=some (.lst ys)∧(∀y∈ys,y≠.ref acc)∧RowsNew H H2 ys (rs.take i)) ⟨v,[],rfl,Af hacc _,upd_same,fun y hy=>by simp at hy,.nil⟩ ?_ ?_ ?_
 ·rintro i σ H2 _ ⟨v0,ys,rfl,s2,_⟩
  exact s2.seq hr
 ·rintro i x σ H2 hx ⟨v0,ys,rfl,s2,ha2,ho,hy2⟩
  obtain⟨row,p,hrow,rfl,hp⟩:=hR.get hx
  have et:rs.take (i+1)=rs.take i++[row]:=by rw[List.take_add_one,hrow];rfl
  show BX acc te _ _ _
  refine ht p row H2 (s2 _ _ hp) _ fun l hl=>?_
  have s3:=Af hl (.lst (row.map V.int))
  have nl:l≠acc:=fun e=>by rw[e,ha2] at hl;cases hl
  have hylen:=hy2.at.len
  refine⟨ys,s3 _ _ ha2,AF (by rw[hylen,List.length_take];have:=hR.len;omega),?_⟩
  refine⟨_,ys++[.ref l],rfl,AI (s2.trans s3) hacc _,upd_same,fun y hy=>?_,?_⟩
  ·rcases List.mem_append.mp hy with z | z
   ·exact ho y z
   ·rw[List.mem_singleton.mp z]
    exact fun q=>nl (V.ref.inj q)
  ·rw[et]
   refine E7 ⟨l,rfl,s2.free hl,by show upd _ _ _ l=_;rw[Ax nl];exact upd_same⟩ (Gc hy2 ho fun p' row' n' h'=>?_)
   show upd _ _ _ p'=_
   rw[Ax n']
   exact s3 _ _ h'
 ·rintro σ H2 ⟨v0,ys,rfl,s2,ha2,ho,hy2⟩
  rw[hR.len,List.take_length] at hy2
  exact hd v0 ys H2 s2 ha2 hy2 ho
section
variable {cK:Addr}
abbrev Fp:Stmt:=BB (By 41) 1
def LX (C:Addr):Sp:=fun vs H Q _=>∃(a:Addr) (M:List Addr) (U:Tk) (W:Ta),vs=[.ref a]∧TalkAt M C H a U W∧∀(l:Addr) (H':Hp),Same H H'→H l=none→AJ H' l W.room→Q (.ref l) H'
theorem Q5:Aq ["self"] ["self"] (Ae Fp):=Bx
theorem Pu (F:Fun K "room" "Talk.room" Fp f fd) (TX:JX K cK) (T:Fc mg):FnOk P w K mg bz AG 1 f fd ["self"] (LX cK):=by
 refine F.ok Q5 (fun vs H Q E h=>?_) (fun cdv A outer s H vs Q E hr h=>?_)
 ·obtain⟨a,M,U,W,rfl,_⟩:=h
  rfl
 obtain⟨a,M,U,W,rfl,h,q⟩:=h
 refine⟨_,Ad (Ai (AQ AX (by rfl) T.lst Ba (Aa (AV (pv 0) rfl) Ab))),?_⟩
 exact⟨_,rfl,a,cK,_,_,_,rfl,h.ob,TX.cl,TX.space,DJ,_,_,rfl,.inl (SqL.of (AR _ _ h.room)),fun l hl=>q l _ (Af hl _) hl upd_same⟩
abbrev FR:Stmt:=BB (By 41) 2
def KE (C:Addr):Sp:=fun vs H Q _=>∃(a:Addr) (M:List Addr) (U:Tk) (W:Ta),vs=[.ref a]∧TalkN M C H a U W∧∀(l:Addr) (H':Hp),Same H H'→H l=none→AJ H' l W.base→Q (.ref l) H'
theorem QN:Aq ["self"] ["self"] (Ae FR):=Bx
theorem OD (F:Fun K "base" "Talk.base" FR f fd) (TX:JX K cK) (T:Fc mg):FnOk P w K mg bz AG 1 f fd ["self"] (KE cK):=by
 refine F.ok QN (fun vs H Q E h=>?_) (fun cdv A outer s H vs Q E hr h=>?_)
 ·obtain⟨a,M,U,W,rfl,_⟩:=h
  rfl
 obtain⟨a,M,U,W,rfl,h,q⟩:=h
 refine⟨_,Ad (Ai (AQ AX (by rfl) T.lst Ba (Aa (AC AT (AV (pv 0) rfl) Ag (fun _ _=>rfl)) Ab))),?_⟩
 obtain⟨p,hp1,hp2⟩:=Nh h.lr h.1.ln
 exact⟨_,rfl,a,cK,_,_,_,rfl,h.ob,TX.cl,TX.left,Cr,_,_,_,_,rfl,rfl,SqL.of h.lf,hp1,p,_,rfl,.inl (SqL.of (AR _ _ hp2)),fun l hl=>q l _ (Af hl _) hl upd_same⟩
abbrev FF:Stmt:=BB (By 41) 3
def Hc (C:Addr):Sp:=fun vs H Q _=>∃(a:Addr) (M:List Addr) (U:Tk) (W:Ta),vs=[.ref a]∧TalkN M C H a U W∧∀(l:Addr) (H':Hp),Same H H'→H l=none→AJ H' l W.held→Q (.ref l) H'
def Ju (C:Addr):Sp:=fun vs H Q _=>∃(a:Addr) (M:List Addr) (U:Tk) (W:Ta),vs=[.ref a]∧TalkAt M C H a U W∧∀(l:Addr) (H':Hp),Same H H'→H l=none→AJ H' l W.held→Q (.ref l) H'
theorem RG:Aq ["self"] ["self"] (Ae FF):=Bx
theorem PF (F:Fun K "held" "Talk.held" FF f fd) (TX:JX K cK) (T:Fc mg):FnOk P w K mg bz AG 1 f fd ["self"] (Hc cK):=by
 refine F.ok RG (fun vs H Q E h=>?_) (fun cdv A outer s H vs Q E hr h=>?_)
 ·obtain⟨a,M,U,W,rfl,_⟩:=h
  rfl
 obtain⟨a,M,U,W,rfl,h,q⟩:=h
 refine⟨_,Ad (Ai (AQ AX (by rfl) T.lst Ba (Aa (AC AT (AV (pv 0) rfl) (Ko HB Ag) (fun _ _=>rfl)) Ab))),?_⟩
 obtain⟨p,hp1,hp2⟩:=E4 h.lr h.1.ln
 exact⟨_,rfl,a,cK,_,_,_,rfl,h.ob,TX.cl,TX.left,Cr,_,rfl,_,_,_,_,rfl,rfl,SqL.of h.lf,hp1,p,_,rfl,.inl (SqL.of (AR _ _ hp2)),fun l hl=>q l _ (Af hl _) hl upd_same⟩
theorem MB {k:Nat} (G:FnOk P w K mg bz AG k f fd ["self"] (Hc cK)):FnOk P w K mg bz AG k f fd ["self"] (Ju cK):=G.imp fun vs H Q E h=>by
 obtain⟨a,M,U,W,e,hT,h⟩:=h
 exact⟨a,M,U,W,e,hT.toN,h⟩
abbrev DX:Stmt:=BB (By 41) 4
def IP (C:Addr):Sp:=fun vs H Q _=>∃(a:Addr) (M:List Addr) (U:Tk) (W:Ta),vs=[.ref a]∧TalkN M C H a U W∧∀(l:Addr) (H':Hp),Same H H'→H l=none→AJ H' l W.going→Q (.ref l) H'
theorem OB:Aq ["self"] ["self"] (Ae DX):=Bx
theorem NN {g1 g2:Addr} {d1 d2:FuncData} (F:Fun K "going" "Talk.going" DX f fd) (TX:JX K cK) (GH:FnOk P w K mg bz AG 1 g1 d1 ["self"] (Hc cK)) (CH:BQ K cK "held" g1 d1 ["self"])
  (GB:FnOk P w K mg bz AG 1 g2 d2 ["self"] (KE cK)) (CB:BQ K cK "base" g2 d2 ["self"]):FnOk P w K mg bz AG 2 f fd ["self"] (IP cK):=by
 refine F.ok OB (fun vs H Q E h=>?_) (fun cdv A outer s H vs Q E hr h=>?_)
 ·obtain⟨a,M,U,W,rfl,_⟩:=h
  rfl
 obtain⟨a,M,U,W,rfl,h,q⟩:=h
 refine⟨_,Ac (AB (Ak AN (AV (pv 0) rfl) Aw (Ar _))
   (Ad (Ai (Bj (pv 0) TX.cl CH.m GH hr CH.b .nil Ao)))
   Al)
  (Ad (Ai (Bj (pv 0) TX.cl CB.m GB hr CB.b .nil Ao))),?_⟩
 unfold Ta.going at q
 refine⟨_,rfl,a,cK,_,_,_,rfl,h.ob,TX.cl,TX.rule,Jl,rfl,_,rfl,?_⟩
 by_cases c:W.rule="elder"
 ·refine Bc (by rw[c]) ?_
  rw[if_pos c] at q
  exact⟨_,rfl,a,_,_,rfl,h.ob,Jd,a,M,U,W,rfl,h,q⟩
 ·refine A0 (fun z=>c (by injection z)) ?_
  rw[if_neg c] at q
  exact⟨_,rfl,a,_,_,rfl,h.ob,RE,a,M,U,W,rfl,h,q⟩
abbrev Eo:Stmt:=BB (By 41) 5
def KL (C:Addr):Sp:=fun vs H Q _=>∃(a:Addr) (M:List Addr) (U:Tk) (W:Ta),vs=[.ref a]∧TalkAt M C H a U W∧∀(l:Addr) (xs:List V) (H':Hp),Same H H'→H l=none→H' l=some (.lst xs)→RowsNew H H' xs W.sides→(∀x∈xs,x≠.ref l)→Q (.ref l) H'
theorem OG:Aq ["self"] ["self"] (Ae Eo):=Bx
theorem N2 (F:Fun K "sides" "Talk.sides" Eo f fd) (TX:JX K cK) (T:Fc mg):FnOk P w K mg bz AG 1 f fd ["self"] (KL cK):=by
 refine F.ok OG (fun vs H Q E h=>?_) (fun cdv A outer s H vs Q E hr h=>?_)
 ·obtain⟨a,M,U,W,rfl,_⟩:=h
  rfl
 obtain⟨a,M,U,W,rfl,h,q⟩:=h
 refine⟨_,Ad (Ai (Bm (N:=["side"]) (js:=[none]) (cl:=[]) ⟨rfl,rfl,rfl,List.forall_mem_nil _,rfl,rfl,rfl⟩ (AW (AV (pv 0) rfl)) (fun c1=>(AE (i:=0) (show (["side"]:List Str).Nodup by decide +kernel) rfl (Or.inl rfl))) (fun c1=>BI) (fun c1=>(AQ AX (by rfl) T.lst Ba (Aa (pv 0) Ab))))),?_⟩
 have hlen:=h.sd.len
 have h2:W.sides.length≤2:=by
  unfold Ta.sides
  rcases DZ (z:=W.kind) (t:=W.t) (row:=W.room) with⟨x,e⟩|⟨x,y,e⟩<;>rw[e]<;>simp
 refine⟨_,rfl,a,cK,_,_,_,rfl,h.ob,TX.cl,TX.parts,HA,U.pt,rfl,⟨_,SqL.of (AR _ _ h.pt)⟩,fun cc acc hacc=>Jm (rest:=[]) (SqL.of (AR _ _ h.pt)) (h.sd.keep AR) hacc (by omega) (fun p row H2 hp R hR=>⟨_,rfl,p,_,rfl,.inl (SqL.of hp),fun l hl=>hR l hl⟩) (fun v0 ys H2 s2 h2 hN hne=>q acc ys H2 s2 hacc h2 hN hne) none⟩
abbrev Cb:Stmt:=BB (By 41) 6
def Hw (C:Addr):Sp:=fun vs H Q _=>∃(a:Addr) (M:List Addr) (U:Tk) (W:Ta),vs=[.ref a]∧TalkAt M C H a U W∧∀(l:Addr) (H':Hp),Same H H'→H l=none→H' l=some (.lst U.ges)→Q (.ref l) H'
theorem LB:Aq ["self"] ["self"] (Ae Cb):=Bx
theorem Ke (F:Fun K "entries" "Talk.entries" Cb f fd) (TX:JX K cK) (T:Fc mg):FnOk P w K mg bz AG 1 f fd ["self"] (Hw cK):=by
 refine F.ok LB (fun vs H Q E h=>?_) (fun cdv A outer s H vs Q E hr h=>?_)
 ·obtain⟨a,M,U,W,rfl,_⟩:=h
  rfl
 obtain⟨a,M,U,W,rfl,h,q⟩:=h
 refine⟨_,Ad (Ai (AQ AX (by rfl) T.lst Ba (Aa (AV (pv 0) rfl) Ab))),?_⟩
 exact⟨_,rfl,a,cK,_,_,_,rfl,h.ob,TX.cl,TX.given,EU,_,_,rfl,.inl (SqL.of h.gv),fun l hl=>q l _ (Af hl _) hl upd_same⟩
abbrev Df:Stmt:=BB (By 41) 7
def Ey (C:Addr):Sp:=fun vs H Q _=>∃(a:Addr) (M:List Addr) (U:Tk) (W:Ta),vs=[.ref a]∧TalkN M C H a U W∧∀(H':Hp),Same H H'→Q (.bl (!Ay W.sides W.held)) H'
def IZ (C:Addr):Sp:=fun vs H Q _=>∃(a:Addr) (M:List Addr) (U:Tk) (W:Ta),vs=[.ref a]∧TalkAt M C H a U W∧∀(H':Hp),Same H H'→Q (.bl (!Ay W.sides W.held)) H'
theorem NK:Aq ["self"] ["self"] (Ae Df):=Bx
theorem LD {g:Addr} {gd:FuncData} (F:Fun K "caught" "Talk.caught" Df f fd) (TX:JX K cK) (GS:FnOk P w K mg bz AG 4 g gd ["sides","worlds"] (IJ K)) (CS:AM K mg "stands" g gd ["sides","worlds"]):FnOk P w K mg bz AG 5 f fd ["self"] (Ey cK):=by
 refine F.ok NK (fun vs H Q E h=>?_) (fun cdv A outer s H vs Q E hr h=>?_)
 ·obtain⟨a,M,U,W,rfl,_⟩:=h
  rfl
 obtain⟨a,M,U,W,rfl,h,q⟩:=h
 refine⟨_,Ad (Ai (DD (Ah GS hr (by rfl) CS.m CS.k CS.b .nil Ao (Aa (AV (pv 0) rfl) (Aa (AC AT (AV (pv 0) rfl) (Ko HB Ag) (fun _ _=>rfl)) Ab))))),?_⟩
 obtain⟨p,hp1,hp2⟩:=E4 h.lr h.1.ln
 have hlen:=h.1.held_len
 refine⟨_,rfl,a,cK,_,_,_,rfl,h.ob,TX.cl,TX.parts,HA,_,rfl,a,cK,_,_,_,rfl,h.ob,TX.cl,TX.left,Cr,_,rfl,_,_,_,_,rfl,rfl,SqL.of h.lf,hp1,?_⟩
 exact⟨U.pt,p,W.held,U.pxs,W.sides,rfl,SqL.of (AR _ _ hp2),by omega,AR _ _ h.pt,h.sd.keep AR,fun s hs=>Nat.lt_of_le_of_lt (h.1.ws s hs).len (by decide),h.1.s9,fun H1 s1=>⟨_,rfl,q H1 s1⟩⟩
theorem N6 {k:Nat} (G:FnOk P w K mg bz AG k f fd ["self"] (Ey cK)):FnOk P w K mg bz AG k f fd ["self"] (IZ cK):=G.imp fun vs H Q E h=>by
 obtain⟨a,M,U,W,e,hT,h⟩:=h
 exact⟨a,M,U,W,e,hT.toN,h⟩
abbrev FM:Stmt:=BB (By 41) 8
def J4 (C:Addr):Sp:=fun vs H Q _=>∃(a:Addr) (M:List Addr) (U:Tk) (W:Ta),vs=[.ref a]∧TalkN M C H a U W∧Q (.bl W.ended) H
theorem QR:Aq ["self"] ["self"] (Ae FM):=Bx
theorem P7 (F:Fun K "over" "Talk.over" FM f fd) (TX:JX K cK):FnOk P w K mg bz AG 1 f fd ["self"] (J4 cK):=by
 refine F.ok QR (fun vs H Q E h=>?_) (fun cdv A outer s H vs Q E hr h=>?_)
 ·obtain⟨a,M,U,W,rfl,_⟩:=h
  rfl
 obtain⟨a,M,U,W,rfl,h,q⟩:=h
 refine⟨_,Ad (Ai (AV (pv 0) rfl)),?_⟩
 exact⟨_,rfl,a,cK,_,_,_,rfl,h.ob,TX.cl,TX.ended,HY,q⟩
end
abbrev FS:Stmt:=BB (By 41) 0
def Cv (z:Str):Prop:=z="elder"∨z="newer"
instance (z:Str):Decidable (Cv z):=by unfold Cv;infer_instance
def Mq:List V:=[.str "elder",.str "newer"]
theorem Qt (z:Str):N8 (.str z) Mq=decide (Cv z):=by
 unfold N8 Mq Cv
 simp only[List.any_cons,List.any_nil,Bool.or_false]
 have e:∀y:Str,OU (.str y) (.str z)=decide (z=y):=fun y=>by
  show (y == z)=decide (z=y)
  by_cases h:z=y
  ·subst h;simp
  ·rw[decide_eq_false h]
   exact beq_false_of_ne fun q=>h q.symm
 rw[e,e,Bool.eq_iff_iff]
 simp only[Bool.or_eq_true,decide_eq_true_eq]
 exact decide_eq_true_iff.symm
def Cp (many:Nat) (kind rule:Str) (t:Tr) (room:List Int):Ta:=⟨many,kind,rule,t,room,[],[BM room (As kind t room)],false⟩
def Jj (C cS cB cN:Addr):Sp:=fun vs H Q E=>∃(x dx rm:Addr) (many:Nat) (kind rule:Str) (v:V) (t:Tr) (room:List Int) (M:List Addr),vs=[.ref x,.int many,.ref rm,.str kind,v,.str rule]∧H x=some (.ins C dx [])∧x∉M∧(∀m∈M,H m≠none)∧
 t.At (BH M H) v∧t.ok 5∧t.size≤23∧many≤5∧AJ H rm room∧Wr room∧
 (¬t.ok many→∀H',But [x] H H'→E (.ref cS) none H')∧(t.ok many→¬(Cv rule∧BT kind)→∀H',But [x] H H'→E (.ref cB) none H')∧(t.ok many→Cv rule→BT kind→[]∈As kind t room→∀H',But [x] H H'→E (.ref cN) none H')∧
 (t.ok many→Cv rule→BT kind→[]∉As kind t room→∀(U:Tk) (H':Hp),But [x] H H'→H U.gv=none→H U.lf=none→H U.sp=none→U.sv=v→TalkAt (x::U.gv::U.lf::M) C H' x U (Cp many kind rule t room)→Q .non H')
theorem BJ {H0 H:Hp} {x C dx:Addr} {fs fs':List (Str×V)} {f:Str} {v:V} (e:BG f v fs=fs') (b:But [x] H0 H) :
  But [x] H0 (upd H x (.ins C dx (BG f v fs)))∧upd H x (.ins C dx (BG f v fs)) x=some (.ins C dx fs')∧But [x] H (upd H x (.ins C dx (BG f v fs))):=
 ⟨b.trans (But.upd (by simp)),upd_same.trans (congrArg (fun l=>some (HO.ins C dx l)) e),But.upd (by simp)⟩
theorem Bv {x b:Addr} (h:b≠x):b∉[x]:=by simpa using h
abbrev Cy (H:Hp) (x:Addr):List V→List (List Int)→Prop:=Paired fun (v:V) (row:List Int)=>∃p,v= .ref p∧p≠x∧AJ H p row
theorem DU {H H':Hp} {x:Addr} {o:HO} (hx:H x=some o):∀{xs:List V} {rs:List (List Int)},RowsNew H H' xs rs→Cy H' x xs rs
 | _,_,.nil=>.nil
 | _,_,.cons ⟨p,e,n,h⟩ q=>.cons ⟨p,e,(Am hx n).symm,h⟩ (DU hx q)
theorem DW {H H':Hp} {x:Addr} (b:But [x] H H'):∀{xs:List V} {rs:List (List Int)},Cy H x xs rs→Cy H' x xs rs
 | _,_,.nil=>.nil
 | _,_,.cons ⟨p,e,n,h⟩ q=>.cons ⟨p,e,n,b.at h (Bv n)⟩ (DW b q)
theorem Dt {H H':Hp} {x:Addr} (b:Same H H'):∀{xs:List V} {rs:List (List Int)},Cy H x xs rs→Cy H' x xs rs
 | _,_,.nil=>.nil
 | _,_,.cons ⟨p,e,n,h⟩ q=>.cons ⟨p,e,n,b _ _ h⟩ (Dt b q)
theorem Hv {H H':Hp} {x:Addr} (b:But [x] H H'):∀{xs:List V} {rs:List (List Int)},Cy H x xs rs→RowsAt H' xs rs
 | _,_,.nil=>.nil
 | _,_,.cons ⟨p,e,n,h⟩ q=>.cons ⟨p,e,b.at h (Bv n)⟩ (Hv b q)
theorem Kp {H0 H1 G:Hp} (k:∀p row,H0 p=none→AJ H1 p row→AJ G p row):∀{xs:List V} {rs:List (List Int)},RowsNew H0 H1 xs rs→RowsAt G xs rs
 | _,_,.nil=>.nil
 | _,_,.cons ⟨p,e,n,h⟩ q=>.cons ⟨p,e,k p _ n h⟩ (Kp k q)
section
variable {cK cS cB cN cT:Addr}
theorem Rp:Aq ["self","many","room","kind","sentence","rule"] ["self","many","room","kind","sentence","rule"] (Ae FS):=Bx
theorem O5 {g1 g2 g3:Addr} {d1 d2 d3:FuncData} (F:Fun K "__init__" "Talk.__init__" FS f fd) (TX:JX K cK) (T:Fc mg) (XB:Jh K mg "BadWord" cB cT)
  (GR:FnOk P w K mg bz (EG P w) 3 g1 d1 ["sentence","many"] (Kw cS)) (CR:AM K mg "refuse_strange" g1 d1 ["sentence","many"])
  (GD:FnOk P w K mg bz (EG P w) 4 g2 d2 ["room","kind","sentence"] (Ij K cB cN)) (CD:AM K mg "sides_of" g2 d2 ["room","kind","sentence"])
  (GB:FnOk P w K mg bz AG 2 g3 d3 ["sides"] (MM K)) (CB:AM K mg "base_of" g3 d3 ["sides"]):FnOk P w K mg bz (EG P w) 5 f fd ["self","many","room","kind","sentence","rule"] (Jj cK cS cB cN):=by
 refine Fun.okX F Rp (fun vs H Q E h=>?_) (fun cdv A outer s H vs Q E hr h=>?_)
 ·obtain⟨x,dx,rm,many,kind,rule,v,t,room,M,rfl,_⟩:=h
  rfl
 obtain⟨x,dx,rm,many,kind,rule,v,t,room,M,rfl,hx,nxM,hM,ha,hok,hsz,hm5,hrm,hwr,qS,qB,qN,q⟩:=h
 have hr3:Room 3 _:=hr.mono (by decide)
 have hr2:Room 2 _:=hr.mono (by decide)
 have nrx:rm≠x:=Ev hrm hx (by intro z;cases z)
 have haH:=ha.keep (TS.same AR)
 have kt:∀{H1:Hp},But [x] H H1→TS H H1:=fun b p xs e=>b.at e (Bv (Ev e hx (by intro z;cases z)))
 refine⟨_,Ac (AU (Ah GR hr3 (by rfl) CR.m CR.k CR.b .nil (Cl (E1:=E) fun _ _ _ h=>h) (Aa (pv 4) (Aa (pv 1) Ab))))
  (Ac (AB (Ak B5 (pv 5) (Bb (Aa Aw (Aa Aw Ab))) (by with_unfolding_all rfl))
   (Ad (Dl (Ex:=E) DK rfl XB.cls XB.at_ XB.ty (by rfl) XB.m (Aa Aw Ab) (hvl:=fun _ _ _ h=>⟨by decide,h⟩)))
   Al)
  (Ac (BZ (pv 0) (pv 1) rfl)
  (Ac (BZ (pv 0) (pv 3) rfl)
  (Ac (BZ (pv 0) (pv 4) rfl)
  (Ac (BZ (pv 0) (pv 5) rfl)
  (Ac (BZ (pv 0) (AQ AX (by rfl) T.lst Ba (Aa (pv 2) Ab)) rfl)
  (Ac (BZ (pv 0) (Ah GD hr (by rfl) CD.m CD.k CD.b .nil (Cl (E1:=E) fun _ _ _ h=>h) (Aa (pv 2) (Aa (pv 3) (Aa (pv 4) Ab)))) rfl)
  (Ac (BZ (pv 0) (AK Ab) rfl)
  (Ac (BZ (pv 0) (AK (Aa (Ah GB hr2 (by rfl) CB.m CB.k CB.b .nil Ao (Aa (AV (pv 0) rfl) Ab)) Ab)) rfl)
  (Ad (BZ (pv 0) BA rfl))))))))))),?_⟩
 refine⟨_,rfl,_,rfl,v,t,many,rfl,haH,hok,by omega,fun hn H1 s1=>qS hn H1 (AO s1),fun hmany H1 s1=>?_⟩
 refine⟨_,rfl,Fl,fun rt hrt=>?_⟩
 have s2:=s1.trans (Af hrt (.tup [.str "elder",.str "newer"]))
 refine⟨rt,Mq,rfl,.inr (SqT.of upd_same),rfl,rfl,_,rfl,?_⟩
 show if (!N8 (.str rule) Mq)=true then _ else _
 rw[Qt]
 generalize upd H1 rt _=H2 at *
 by_cases hrl:Cv rule
 rotate_left
 ·exact P6 hrl (qB hmany (fun z=>hrl z.1) _ (AO s2))
 refine Gj hrl ?_
 have b2:But [x] H H2:=AO s2
 have x2:=s2 _ _ hx
 refine⟨_,rfl,_,rfl,x,cK,dx,_,rfl,x2,TX.cl,TX.many,(by decide),?_⟩
 obtain⟨b3,x3,_⟩:=BJ (C:=cK) (dx:=dx) (f:="many") (v:=.int many) (fs:=[]) (fs':=[("many",.int many)]) (by with_unfolding_all rfl) b2
 generalize upd H2 x _=H3 at *
 refine⟨_,rfl,_,rfl,x,cK,dx,_,rfl,x3,TX.cl,TX.kind,(by show 1<1000;decide),?_⟩
 obtain⟨b4,x4,_⟩:=BJ (C:=cK) (dx:=dx) (f:="kind") (v:=.str kind) (fs:=[("many",.int many)]) (fs':=[("many",.int many),("kind",.str kind)]) (by with_unfolding_all rfl) b3
 generalize upd H3 x _=H4 at *
 refine⟨_,rfl,_,rfl,x,cK,dx,_,rfl,x4,TX.cl,TX.sentence,(by show 2<1000;decide),?_⟩
 obtain⟨b5,x5,_⟩:=BJ (C:=cK) (dx:=dx) (f:="sentence") (v:=v) (fs:=[("many",.int many),("kind",.str kind)]) (fs':=[("many",.int many),("kind",.str kind),("sentence",v)]) (by with_unfolding_all rfl) b4
 generalize upd H4 x _=H5 at *
 refine⟨_,rfl,_,rfl,x,cK,dx,_,rfl,x5,TX.cl,TX.rule,(by show 3<1000;decide),?_⟩
 obtain⟨b6,x6,_⟩:=BJ (C:=cK) (dx:=dx) (f:="rule") (v:=.str rule) (fs:=[("many",.int many),("kind",.str kind),("sentence",v)]) (fs':=[("many",.int many),("kind",.str kind),("sentence",v),("rule",.str rule)]) (by with_unfolding_all rfl) b5
 generalize upd H5 x _=H6 at *
 have rm6:=b6.at hrm (Bv nrx)
 refine⟨_,rfl,rm,_,rfl,.inl (SqL.of rm6),fun sp hsp=>?_⟩
 have s7:=Af hsp (.lst (room.map V.int))
 have b7:But [x] H (upd H6 sp (.lst (room.map V.int))):=b6.trans (AO s7)
 have x7:=s7 _ _ x6
 have sp7:AJ (upd H6 sp (.lst (room.map V.int))) sp room:=upd_same
 have nsx:sp≠x:=(Am x6 hsp).symm
 have sp0:H sp=none:=by
  cases e:H sp with
  | none=>rfl
  | some o=>rw[b6.at e (Bv nsx)] at hsp;cases hsp
 generalize upd H6 sp _=H7 at *
 refine⟨_,rfl,x,cK,dx,_,rfl,x7,TX.cl,TX.space,(by show 4<1000;decide),?_⟩
 obtain⟨b8,x8,c8⟩:=BJ (C:=cK) (dx:=dx) (f:="space") (v:=.ref sp) (fs:=[("many",.int many),("kind",.str kind),("sentence",v),("rule",.str rule)]) (fs':=[("many",.int many),("kind",.str kind),("sentence",v),("rule",.str rule),("space",.ref sp)]) (by with_unfolding_all rfl) b7
 generalize upd H7 x _=H8 at *
 have sp8:=c8.at sp7 (Bv nsx)
 have rm8:=b8.at hrm (Bv nrx)
 refine⟨_,rfl,_,rfl,_,rfl,rm,kind,v,t,room,rfl,haH.keep (kt b8),hok,by omega,SqL.of rm8,hwr,fun hk H9 s9=>qB hmany (fun z=>hk z.2) _ (b8.trans (AO s9)),fun hk hem H9 s9=>qN hmany hrl hk hem _ (b8.trans (AO s9)),fun hk hem pt pxs H9 s9 pt0 pt9 hR9 hne9=>?_⟩
 have b9:But [x] H H9:=b8.trans (AO s9)
 have x9:=s9 _ _ x8
 have npx:pt≠x:=(Am x8 pt0).symm
 refine⟨_,rfl,x,cK,dx,_,rfl,x9,TX.cl,TX.parts,(by show 5<1000;decide),?_⟩
 obtain⟨b10,x10,c10⟩:=BJ (C:=cK) (dx:=dx) (f:="parts") (v:=.ref pt) (fs:=[("many",.int many),("kind",.str kind),("sentence",v),("rule",.str rule),("space",.ref sp)]) (fs':=[("many",.int many),("kind",.str kind),("sentence",v),("rule",.str rule),("space",.ref sp),("parts",.ref pt)]) (by with_unfolding_all rfl) b9
 have e10:BH [x] (upd H9 x (.ins cK dx (BG "parts" (.ref pt) [("many",.int many),("kind",.str kind),("sentence",v),("rule",.str rule),("space",.ref sp)])))=BH [x] H9:=ES (by simp)
 generalize upd H9 x _=H10 at *
 have pt10:=c10.at pt9 (Bv npx)
 have sp10:=c10.at (s9 _ _ sp8) (Bv nsx)
 have R10:RowsAt H10 pxs (As kind t room):=Hv c10 (DU x8 hR9)
 refine⟨Jx,fun gv hgv=>?_⟩
 have s11:=Af hgv (.lst [])
 have b11:But [x] H (upd H10 gv (.lst [])):=b10.trans (AO s11)
 have gv11:upd H10 gv (.lst []) gv=some (.lst []):=upd_same
 have x11:=s11 _ _ x10
 have ngx:gv≠x:=(Am x10 hgv).symm
 generalize upd H10 gv _=H11 at *
 refine⟨_,rfl,x,cK,dx,_,rfl,x11,TX.cl,TX.given,(by show 6<1000;decide),?_⟩
 obtain⟨b12,x12,c12⟩:=BJ (C:=cK) (dx:=dx) (f:="given") (v:=.ref gv) (fs:=[("many",.int many),("kind",.str kind),("sentence",v),("rule",.str rule),("space",.ref sp),("parts",.ref pt)]) (fs':=[("many",.int many),("kind",.str kind),("sentence",v),("rule",.str rule),("space",.ref sp),("parts",.ref pt),("given",.ref gv)]) (by with_unfolding_all rfl) b11
 generalize upd H11 x _=H12 at *
 have gv12:=c12.at gv11 (Bv ngx)
 have pt12:=c12.at (s11 _ _ pt10) (Bv npx)
 have sp12:=c12.at (s11 _ _ sp10) (Bv nsx)
 have R12:RowsAt H12 pxs (As kind t room):=Hv c12 (Dt s11 (DW c10 (DU x8 hR9)))
 have hl2:EB (As kind t room)<64:=by
  have:=La (z:=kind) (t:=t) (row:=room)
  have:=hwr.len
  omega
 refine⟨_,rfl,x,cK,dx,_,_,rfl,x12,TX.cl,TX.parts,(by with_unfolding_all rfl),pt,pxs,_,rfl,SqL.of pt12,R12,hl2,fun bl H13 ns s13 hbl0 hp hm hbl=>⟨M7,fun lf hlf=>?_⟩⟩
 have en:=Oa hwr (fun s hs=>Bi hs) hp hm
 subst en
 have s14:=s13.trans (Af hlf (.lst [.ref bl]))
 have bl14:=Af hlf (.lst [.ref bl]) _ _ hbl
 have lf14:upd H13 lf (.lst [.ref bl]) lf=some (.lst [.ref bl]):=upd_same
 have lf12:H12 lf=none:=s13.free hlf
 generalize upd H13 lf _=H14 at *
 have x14:=s14 _ _ x12
 have b14:But [x] H H14:=b12.trans (AO s14)
 have nlx:lf≠x:=(Am x12 lf12).symm
 have nbx:bl≠x:=(Am x12 hbl0).symm
 refine⟨_,rfl,x,cK,dx,_,rfl,x14,TX.cl,TX.left,(by show 7<1000;decide),?_⟩
 obtain⟨b15,x15,c15⟩:=BJ (C:=cK) (dx:=dx) (f:="left") (v:=.ref lf) (fs:=[("many",.int many),("kind",.str kind),("sentence",v),("rule",.str rule),("space",.ref sp),("parts",.ref pt),("given",.ref gv)]) (fs':=[("many",.int many),("kind",.str kind),("sentence",v),("rule",.str rule),("space",.ref sp),("parts",.ref pt),("given",.ref gv),("left",.ref lf)]) (by with_unfolding_all rfl) b14
 generalize upd H14 x _=H15 at *
 refine⟨_,rfl,x,cK,dx,_,rfl,x15,TX.cl,TX.ended,(by show 8<1000;decide),?_⟩
 obtain⟨b16,x16,c16⟩:=BJ (C:=cK) (dx:=dx) (f:="ended") (v:=.bl false) (fs:=[("many",.int many),("kind",.str kind),("sentence",v),("rule",.str rule),("space",.ref sp),("parts",.ref pt),("given",.ref gv),("left",.ref lf)]) (fs':=[("many",.int many),("kind",.str kind),("sentence",v),("rule",.str rule),("space",.ref sp),("parts",.ref pt),("given",.ref gv),("left",.ref lf),("ended",.bl false)]) (by with_unfolding_all rfl) b15
 generalize upd H15 x _=H16 at *
 have c17:But [x] H14 H16:=c15.trans c16
 have gv16:=c17.at (s14 _ _ gv12) (Bv ngx)
 have lf16:=c17.at lf14 (Bv nlx)
 have bl16:=c17.at bl14 (Bv nbx)
 have pt16:=c17.at (s14 _ _ pt12) (Bv npx)
 have sp16:=c17.at (s14 _ _ sp12) (Bv nsx)
 have ngl:gv≠lf:=Am gv12 lf12
 have gv0:H gv=none:=by
  cases e:H gv with
  | none=>rfl
  | some o=>rw[b10.at e (Bv ngx)] at hgv;cases hgv
 have lf0:H lf=none:=by
  cases e:H lf with
  | none=>rfl
  | some o=>rw[b12.at e (Bv nlx)] at lf12;cases lf12
 have pt0':H pt=none:=by
  cases e:H pt with
  | none=>rfl
  | some o=>rw[b8.at e (Bv npx)] at pt0;cases pt0
 have bl0:H bl=none:=by
  cases e:H bl with
  | none=>rfl
  | some o=>rw[b12.at e (Bv nbx)] at hbl0;cases hbl0
 have nM:∀{b:Addr},H b=none→b∉M:=fun e z=>hM _ z e
 have n3:∀{b:Addr},b≠x→b≠gv→b≠lf→H b=none→b∉x::gv::lf::M:=fun e1 e2 e3 e4 z=>by
  rcases List.mem_cons.mp z with q1 | q1
  ·exact e1 q1
  ·rcases List.mem_cons.mp q1 with q2 | q2
   ·exact e2 q2
   ·rcases List.mem_cons.mp q2 with q3 | q3
    ·exact e3 q3
    ·exact nM e4 q3
 have nsg:sp≠gv:=Am sp10 hgv
 have nsl:sp≠lf:=Am sp12 lf12
 have npg:pt≠gv:=Am pt10 hgv
 have npl:pt≠lf:=Am pt12 lf12
 have nbg:bl≠gv:=(Am gv12 hbl0).symm
 have nbl:bl≠lf:=Am hbl hlf
 have hR16:RowsAt (BH (x::gv::lf::M) H16) pxs (As kind t room):=Kp (fun p row h1 h2=>by
  have pne:p≠x:=(Am x8 h1).symm
  have p10:=c10.at h2 (Bv pne)
  have p0:H p=none:=by
   cases e:H p with
   | none=>rfl
   | some o=>rw[b8.at e (Bv pne)] at h1;cases h1
  have p12:=c12.at (s11 _ _ p10) (Bv pne)
  exact Bu (c17.at (s14 _ _ p12) (Bv pne)) (n3 pne (Am p10 hgv) (Am p12 lf12) p0)) hR9
 refine q hmany hrl hk hem ⟨dx,sp,pt,gv,lf,v,pxs,[],[.ref bl]⟩ H16 b16 gv0 lf0 sp0 rfl ⟨x16,gv16,lf16,by simp,by simp,by simp,ngl,Bu sp16 (n3 nsx nsg nsl sp0),?_,Bu pt16 (n3 npx npg npl pt0'),hR16,.nil,.cons ⟨bl,rfl,Bu bl16 (n3 nbx nbg nbl bl0)⟩ .nil,hwr,fun l hl=>?_,List.cons_ne_nil _ _,by show 1≤900;decide,by show 0≤900;decide,hmany,hm5,hsz,hk,hem,hrl⟩
 ·refine ha.keep fun p xs e=>?_
  obtain⟨e1,e2⟩:=BU e
  have pne:p≠x:=Ev e1 hx (by intro z;cases z)
  refine Bu (b16.at e1 (Bv pne)) fun z=>?_
  rcases List.mem_cons.mp z with q1 | q1
  ·exact pne q1
  ·rcases List.mem_cons.mp q1 with q2 | q2
   ·rw[q2,gv0] at e1;cases e1
   ·rcases List.mem_cons.mp q2 with q3 | q3
    ·rw[q3,lf0] at e1;cases e1
    ·exact e2 q3
 ·rw[List.mem_singleton.mp hl]
  exact base_sub
end
theorem Rc {z:Str} {t:Tr} {row:List Int} (h:FL z t row):BT z:=by
 rcases h with⟨rfl,_⟩|⟨rfl,_⟩|⟨rfl,_⟩
 ·exact .inl rfl
 ·exact .inr (.inl rfl)
 ·exact .inr (.inr rfl)
theorem JT {z:Str} {t:Tr} {row:List Int} (h:FL z t row):[]∉As z t row:=fun e=>O2 h e rfl
theorem Kh {z:Str} {t:Tr} {row:List Int} (h:[]∉As z t row):Ay (As z t row) (BM row (As z t row))=true:=by
 unfold Ay
 rw[List.all_eq_true]
 intro s hs
 have hne:s≠[]:=fun e=>h (by rw[←e];exact hs)
 obtain⟨k,hk⟩:=List.exists_mem_of_ne_nil s hne
 refine List.any_eq_true.mpr ⟨k,hk,decide_eq_true ?_⟩
 unfold BM
 exact List.mem_filter.mpr ⟨(Bi hs).subset hk,List.any_eq_true.mpr ⟨s,hs,decide_eq_true hk⟩⟩
theorem IQ {H H':Hp} {x dx C:Addr} (hx:H x=none) (hd:H dx=none) (ne:dx≠x) (b:But [x] (upd (upd H dx (.own x)) x (.ins C dx [])) H'):Same H H':=by
 refine But.same (M:=[x]) (fun m hm=>by rw[List.mem_singleton.mp hm];exact hx) ?_ b
 have s1:=Af hd (.own x)
 exact s1.trans (Af (by rw[Ax ne.symm];exact hx) _)
theorem D3 {H:Hp} {x dx C b:Addr} {o:HO} (h:upd (upd H dx (.own x)) x o b=none):H b=none∧b≠x∧b≠dx:=by
 by_cases e:b=x
 ·rw[e,upd_same] at h;cases h
 ·rw[Ax e] at h
  by_cases e2:b=dx
  ·rw[e2,upd_same] at h;cases h
  ·rw[Ax e2] at h
   exact⟨h,e,e2⟩
theorem HJ {P:Program} {w:World} {X:Cx}:Dv (EG P w) X E0:=fun _ _ _ _ _ _ _ h=>by
 obtain⟨_,_,_,_,_,_,_,_,_,_,_,_,_,_,_,q⟩:=h
 exact q.elim
section
variable {X:Cx}
theorem SL:Ep X (compareOp .Is) (fun x y H Q=>∃a b,x= .bl a∧y= .bl b∧Q (.bl (decide (a=b))) H):=by
 intro pins s σ H x y v u Q I rx ry h
 obtain⟨a,b,rfl,rfl,q⟩:=h
 cases rx
 cases ry
 have e:compareOp .Is (.bool a) (.bool b)=pure (.bool (decide (a=b))):=by cases a<;>cases b<;>rfl
 exact PySem.wpAny_of_eq e (AY I q rfl)
end
def Ie (W:Ta) (seen:List Int) (t:Tr):Str:=if W.ended=true then Bp seen (AL true t W.room) else B6 W.sides W.going seen (AL true t W.room)
theorem TalkAt.two {M:List Addr} {C:Addr} {H:Hp} {a:Addr} {U:Tk} {W:Ta} (h:TalkAt M C H a U W):W.sides.length≤2:=by
 unfold Ta.sides
 rcases DZ (z:=W.kind) (t:=W.t) (row:=W.room) with⟨x,e⟩|⟨x,y,e⟩<;>rw[e]<;>simp
theorem Jr {b:Bool} {t:Tr} {room:List Int} (h:Wr room):Wr (AL b t room):=h.sub List.filter_sublist
abbrev IE:Stmt:=BB (By 41) 9
def Jg (K:PySem.W.Frag) (C cS:Addr):Sp:=fun vs H Q E=>∃(a sn:Addr) (v:V) (M:List Addr) (U:Tk) (W:Ta) (t:Tr) (seen:List Int),vs=[.ref a,v,.ref sn]∧TalkN M C H a U W∧t.AtK K H v∧t.ok 5∧t.size≤800∧SqL K H sn (seen.map V.int)∧Wr seen∧seen≠[]∧
 (¬t.ok W.many→∀H',Same H H'→E (.ref cS) none H')∧(t.ok W.many→∀H',Same H H'→Q (.str (Ie W seen t)) H')
def Ol (K:PySem.W.Frag) (C cS:Addr):Sp:=fun vs H Q E=>∃(a sn:Addr) (v:V) (M:List Addr) (U:Tk) (W:Ta) (t:Tr) (seen:List Int),vs=[.ref a,v,.ref sn]∧TalkAt M C H a U W∧t.At H v∧t.ok 5∧t.size≤60∧SqL K H sn (seen.map V.int)∧Wr seen∧seen≠[]∧
 (¬t.ok W.many→∀H',Same H H'→E (.ref cS) none H')∧(t.ok W.many→∀H',Same H H'→Q (.str (Ie W seen t)) H')
section
variable {cK cS cO cT:Addr}
theorem scTAsk:Aq ["self","sentence","seen","worlds"] ["self","sentence","seen"] (Ae IE):=Bx
theorem RR {g1 g2 g3 g4 m1:Addr} {d1 d2 d3 d4 e1:FuncData} (F:Fun K "ask" "Talk.ask" IE f fd) (TX:JX K cK)
  (GR:FnOk P w K mg bz (EG P w) 3 g1 d1 ["sentence","many"] (FD K cS)) (CR:AM K mg "refuse_strange" g1 d1 ["sentence","many"])
  (GW:FnOk P w K mg bz AG 3 g2 d2 ["sentence","room"] (Co K)) (CW:AM K mg "worlds_of" g2 d2 ["sentence","room"])
  (GP:FnOk P w K mg bz AG 3 g3 d3 ["seen","worlds"] (Fg K)) (CP:AM K mg "plain" g3 d3 ["seen","worlds"])
  (GA:FnOk P w K mg bz AG 5 g4 d4 ["sides","going","seen","worlds"] (IR K)) (CA:AM K mg "answer" g4 d4 ["sides","going","seen","worlds"])
  (G1:FnOk P w K mg bz AG 2 m1 e1 ["self"] (IP cK)) (C1:BQ K cK "going" m1 e1 ["self"]):FnOk P w K mg bz (EG P w) 6 f fd ["self","sentence","seen"] (Jg K cK cS):=by
 refine Fun.okX F scTAsk (fun vs H Q E h=>?_) (fun cdv A outer s H vs Q E hr h=>?_)
 ·obtain⟨a,sn,v,M,U,W,t,seen,rfl,_⟩:=h
  rfl
 obtain⟨a,sn,v,M,U,W,t,seen,rfl,hT,ha,ok5,hsz,hN,wN,nne,qE,q⟩:=h
 have hr3:Room 3 _:=hr.mono (by decide)
 have hr2:Room 2 _:=hr.mono (by decide)
 refine⟨_,Ac (AU (Ah GR hr3 (by rfl) CR.m CR.k CR.b .nil (Cl (E1:=E) fun _ _ _ h=>h) (Aa (pv 1) (Aa (AV (pv 0) rfl) Ab))))
  (Ac (Az (i:=3) scTAsk.nd rfl (Or.inl rfl) (Ah GW hr3 (by rfl) CW.m CW.k CW.b .nil Ao (Aa (pv 1) (Aa (AV (pv 0) rfl) Ab))))
  (Ac (AB (DM (AV (pv 0) rfl) (fun _=>rfl))
   (Ad (Ai (Ah GP hr3 (by rfl) CP.m CP.k CP.b .nil Ao (Aa (pv 2) (Aa (pv 3) Ab)))))
   Al)
  (Ad (Ai (Ah GA hr (by rfl) CA.m CA.k CA.b .nil Ao (Aa (AV (pv 0) rfl) (Aa (Bj (pv 0) TX.cl C1.m G1 hr2 C1.b .nil Ao) (Aa (pv 2) (Aa (pv 3) Ab))))))))),?_⟩
 refine⟨_,rfl,_,rfl,a,cK,_,_,_,rfl,hT.ob,TX.cl,TX.many,JF,v,t,W.many,rfl,ha,ok5,hsz,qE,fun hmany H1 s1=>?_⟩
 have q:=q hmany
 have T1:=hT.keep s1
 refine⟨_,rfl,_,rfl,a,cK,_,_,_,rfl,T1.ob,TX.cl,TX.space,DJ,v,t,U.sp,W.room,rfl,ha.keep (TS.same s1),ok5,by omega,SqL.of (AR _ _ T1.room),hT.1.wr,fun wl H2 s2 hwl0 hwl=>?_⟩
 have T2:=T1.keep s2
 have t2:=s1.trans s2
 have hwl:AJ H2 wl (AL true t W.room):=hwl
 have wwl:Wr (AL true t W.room):=Jr hT.1.wr
 refine⟨_,rfl,a,cK,_,_,_,rfl,T2.ob,TX.cl,TX.ended,HY,_,rfl,?_⟩
 unfold Ie at q
 cases he:W.ended with
 | true=>
  refine Bq ?_
  rw[he,if_pos rfl] at q
  exact⟨_,rfl,_,rfl,sn,wl,seen,_,rfl,t2.seq hN,wN,nne,SqL.of hwl,wwl,fun H3 s3=>q _ (t2.trans s3)⟩
 | false=>
  refine A8 ?_
  rw[he,if_neg Bool.false_ne_true] at q
  refine⟨_,rfl,a,cK,_,_,_,rfl,T2.ob,TX.cl,TX.parts,HA,_,rfl,a,_,_,rfl,T2.ob,Ow,a,M,U,W,rfl,T2,fun gl H3 s3 hgl0 hgl=>?_⟩
  have T3:=T2.keep s3
  have t3:=t2.trans s3
  exact⟨_,rfl,_,rfl,U.pt,gl,sn,wl,U.pxs,W.sides,W.going,seen,_,rfl,AR _ _ T3.pt,T3.sd.keep AR,T3.1.ws,T3.1.two,SqL.of hgl,T3.1.going_wr,t3.seq hN,wN,nne,SqL.of (s3 _ _ hwl),wwl,fun H4 s4=>q _ (t3.trans s4)⟩
theorem SR (G:FnOk P w K mg bz (EG P w) 6 f fd ["self","sentence","seen"] (Jg K cK cS)):FnOk P w K mg bz (EG P w) 6 f fd ["self","sentence","seen"] (Ol K cK cS):=G.imp fun vs H Q E h=>by
 obtain⟨a,sn,v,M,U,W,t,seen,e,hT,ha,ok,hs,h⟩:=h
 exact⟨a,sn,v,M,U,W,t,seen,e,hT.toN,ha.toK,ok,Nat.le_trans hs (by decide),h⟩
end
abbrev Dn:Stmt:=By 42
def EL (C cO:Addr):Sp:=fun vs H Q E=>∃(a:Addr) (M:List Addr) (U:Tk) (W:Ta),vs=[.ref a]∧TalkN M C H a U W∧(W.ended=true→E (.ref cO) none H)∧(W.ended=false→Q .non H)
def FU (C cO:Addr):Sp:=fun vs H Q E=>∃(a:Addr) (M:List Addr) (U:Tk) (W:Ta),vs=[.ref a]∧TalkAt M C H a U W∧(W.ended=true→E (.ref cO) none H)∧(W.ended=false→Q .non H)
section
variable {cK cS cO cT:Addr}
theorem M4:Aq ["talk"] ["talk"] (Ae Dn):=Bx
theorem LS {m1:Addr} {e1:FuncData} (F:Fun K "refuse_over" "refuse_over" Dn f fd) (TX:JX K cK) (XO:Jh K mg "TalkOver" cO cT) (G1:FnOk P w K mg bz AG 1 m1 e1 ["self"] (J4 cK)) (C1:BQ K cK "over" m1 e1 ["self"]):FnOk P w K mg bz (EG P w) 2 f fd ["talk"] (EL cK cO):=by
 refine Fun.okX F M4 (fun vs H Q E h=>?_) (fun cdv A outer s H vs Q E hr h=>?_)
 ·obtain⟨a,M,U,W,rfl,_⟩:=h
  rfl
 obtain⟨a,M,U,W,rfl,hT,qE,q⟩:=h
 refine⟨_,Ad (AB (A1 (Bj (pv 0) TX.cl C1.m G1 hr C1.b .nil Ao))
   (Ad (Dl (Ex:=E) DK rfl XO.cls XO.at_ XO.ty (by rfl) XO.m (Aa Aw Ab) (hvl:=fun _ _ _ h=>⟨by decide,h⟩)))
   Al),?_⟩
 refine⟨_,rfl,a,_,_,rfl,hT.ob,QH,a,M,U,W,rfl,hT,_,rfl,?_⟩
 cases he:W.ended with
 | true=>exact Bq (qE he)
 | false=>exact A8 (q he)
theorem MJ (G:FnOk P w K mg bz (EG P w) 2 f fd ["talk"] (EL cK cO)):FnOk P w K mg bz (EG P w) 2 f fd ["talk"] (FU cK cO):=G.imp fun vs H Q E h=>by
 obtain⟨a,M,U,W,e,hT,h⟩:=h
 exact⟨a,M,U,W,e,hT.toN,h⟩
end
def R5 (W:Ta) (v:V) (t:Tr) (word:Str):Ta:={ W with ents:=W.ents++[(v,t,word)],lefts:=W.lefts++[B2 word W.held (AL true t W.room)] }
theorem EntsAt.snoc {H:Hp} {v:V} {e:V×Tr×Str} (h:∃p,v= .ref p∧H p=some (.tup [e.1,.str e.2.2])∧e.2.1.At H e.1):∀{xs:List V} {es:List (V×Tr×Str)},EntsAt H xs es→EntsAt H (xs++[v]) (es++[e])
 | _,_,.nil=>.cons h .nil
 | _,_,.cons x q=>.cons x (EntsAt.snoc h q)
theorem EntsAt.len {H:Hp} {xs:List V} {es:List (V×Tr×Str)} (h:EntsAt H xs es):xs.length=es.length:=Paired.length h
theorem Ge {H:Hp} {v:V} {row:List Int} (h:∃p,v= .ref p∧AJ H p row):∀{xs:List V} {rs:List (List Int)},RowsAt H xs rs→RowsAt H (xs++[v]) (rs++[row])
 | _,_,.nil=>.cons h .nil
 | _,_,.cons x q=>.cons x (Ge h q)
theorem Km (z:Str) (g r:List Int):(B2 z g r).Sublist g:=by
 unfold B2 DA Cn
 split
 ·exact List.filter_sublist
 ·split
  ·exact List.filter_sublist
  ·exact List.Sublist.refl _
section
variable {M:List Addr} {C:Addr} {H H':Hp} {a:Addr} {U:Tk} {W:Ta}
theorem TalkAt.a_gv (h:TalkAt M C H a U W):a≠U.gv:=Ev h.ob h.gv (by intro z;cases z)
theorem TalkAt.a_lf (h:TalkAt M C H a U W):a≠U.lf:=Ev h.ob h.lf (by intro z;cases z)
theorem TalkAt.gave (h:TalkAt M C H a U W) {p:Addr} {v:V} {t:Tr} {word:Str} (hp:BH M H p=some (.tup [v,.str word])) (ha:t.At (BH M H) v) (hl:W.ents.length<900) :
  TalkAt M C (upd H U.gv (.lst (U.ges++[.ref p]))) a { U with ges:=U.ges++[.ref p] } { W with ents:=W.ents++[(v,t,word)] }:=by
 have e:=ES (H:=H) (o:=.lst (U.ges++[.ref p])) h.mg
 refine⟨by rw[Ax h.a_gv];exact h.ob,upd_same,by rw[Ax h.ne.symm];exact h.lf,h.ma,h.mg,h.ml,h.ne,?_,?_,?_,?_,?_,?_,h.wr,h.wl,h.ln,h.l9,?_,h.tok,h.m5,h.tsz,h.kd,h.ns,h.rl⟩
 ·show AJ (BH M (upd H U.gv _)) _ _;rw[e];exact h.room
 ·show Tr.At (BH M (upd H U.gv _)) _ _;rw[e];exact h.tr
 ·show BH M (upd H U.gv _) _=_;rw[e];exact h.pt
 ·show RowsAt (BH M (upd H U.gv _)) _ _;rw[e];exact h.sd
 ·show EntsAt (BH M (upd H U.gv _)) _ _;rw[e];exact h.en.snoc ⟨p,rfl,hp,ha⟩
 ·show RowsAt (BH M (upd H U.gv _)) _ _;rw[e];exact h.lr
 ·show (W.ents++[(v,t,word)]).length≤900;rw[List.length_append];exact hl
theorem TalkAt.gone (h:TalkAt M C H a U W) {l:Addr} {row:List Int} (hp:AJ (BH M H) l row) (hs:row.Sublist W.room) (hl:W.lefts.length<900) :
  TalkAt M C (upd H U.lf (.lst (U.lfs++[.ref l]))) a { U with lfs:=U.lfs++[.ref l] } { W with lefts:=W.lefts++[row] }:=by
 have e:=ES (H:=H) (o:=.lst (U.lfs++[.ref l])) h.ml
 refine⟨by rw[Ax h.a_lf];exact h.ob,by rw[Ax h.ne];exact h.gv,upd_same,h.ma,h.mg,h.ml,h.ne,?_,?_,?_,?_,?_,?_,h.wr,?_,?_,?_,h.e9,h.tok,h.m5,h.tsz,h.kd,h.ns,h.rl⟩
 ·show AJ (BH M (upd H U.lf _)) _ _;rw[e];exact h.room
 ·show Tr.At (BH M (upd H U.lf _)) _ _;rw[e];exact h.tr
 ·show BH M (upd H U.lf _) _=_;rw[e];exact h.pt
 ·show RowsAt (BH M (upd H U.lf _)) _ _;rw[e];exact h.sd
 ·show EntsAt (BH M (upd H U.lf _)) _ _;rw[e];exact h.en
 ·show RowsAt (BH M (upd H U.lf _)) _ _;rw[e];exact Ge ⟨l,rfl,hp⟩ h.lr
 ·intro x hx
  rcases List.mem_append.mp hx with z | z
  ·exact h.wl x z
  ·rw[List.mem_singleton.mp z];exact hs
 ·show W.lefts++[row]≠[];simp
 ·show (W.lefts++[row]).length≤900;rw[List.length_append];exact hl
end
abbrev HD:Stmt:=BB (By 41) 10
def N9 (K:PySem.W.Frag) (C cS cO:Addr):Sp:=fun vs H Q E=>∃(a sn:Addr) (v:V) (M:List Addr) (U:Tk) (W:Ta) (t:Tr) (seen:List Int),vs=[.ref a,v,.ref sn]∧TalkAt M C H a U W∧(∀m∈M,H m≠none)∧t.At (BH M H) v∧t.ok 5∧t.size≤60∧SqL K H sn (seen.map V.int)∧Wr seen∧seen≠[]∧W.ents.length<900∧W.lefts.length<900∧
 (W.ended=true→∀H',Same H H'→E (.ref cO) none H')∧(W.ended=false→¬t.ok W.many→∀H',Same H H'→E (.ref cS) none H')∧
 (W.ended=false→t.ok W.many→∀(U':Tk) (H':Hp),But [U.gv,U.lf] H H'→U'.gv=U.gv→U'.lf=U.lf→(∀b,H b≠none→H' b≠none)→TalkAt M C H' a U' (R5 W v t (Ie W seen t))→Q (.str (Ie W seen t)) H')
section
variable {cK cS cO cT:Addr}
theorem scTSay:Aq ["self","sentence","seen","word"] ["self","sentence","seen"] (Ae HD):=Bx
theorem Rq {g1 g2 g3 m1:Addr} {d1 d2 d3 e1:FuncData} (F:Fun K "say" "Talk.say" HD f fd) (TX:JX K cK)
  (GO:FnOk P w K mg bz (EG P w) 2 g1 d1 ["talk"] (FU cK cO)) (CO:AM K mg "refuse_over" g1 d1 ["talk"])
  (G1:FnOk P w K mg bz (EG P w) 6 m1 e1 ["self","sentence","seen"] (Ol K cK cS)) (C1:BQ K cK "ask" m1 e1 ["self","sentence","seen"])
  (GL:FnOk P w K mg bz AG 2 g2 d2 ["word","row","worlds"] (Jy K)) (CL:AM K mg "left_by" g2 d2 ["word","row","worlds"])
  (GW:FnOk P w K mg bz AG 3 g3 d3 ["sentence","room"] (DP K)) (CW:AM K mg "worlds_of" g3 d3 ["sentence","room"]):FnOk P w K mg bz (EG P w) 7 f fd ["self","sentence","seen"] (N9 K cK cS cO):=by
 refine Fun.okX F scTSay (fun vs H Q E h=>?_) (fun cdv A outer s H vs Q E hr h=>?_)
 ·obtain⟨a,sn,v,M,U,W,t,seen,rfl,_⟩:=h
  rfl
 obtain⟨a,sn,v,M,U,W,t,seen,rfl,hT,hM,ha,ok5,hsz,hN,wN,nne,le,ll,qO,qS,q⟩:=h
 have hr3:Room 3 _:=hr.mono (by decide)
 have hr2:Room 2 _:=hr.mono (by decide)
 refine⟨_,Ac (AU (Ah GO hr2 (by rfl) CO.m CO.k CO.b .nil (Cl (E1:=E) fun _ _ _ h=>h) (Aa (pv 0) Ab)))
  (Ac (Az (i:=3) scTSay.nd rfl (Or.inl rfl) (Gr (pv 0) TX.cl C1.m G1 hr C1.b .nil (Cl (E1:=E) fun _ _ _ h=>h) (Aa (pv 1) (Aa (pv 2) Ab))))
  (Ac (AU (BO PySem.F.plainAttrs_list PySem.F.slot_list_append PySem.F.type_list_append AZ (AV (pv 0) rfl) (Aa (Bb (Aa (pv 1) (Aa (pv 3) Ab))) Ab)))
  (Ac (AU (BO PySem.F.plainAttrs_list PySem.F.slot_list_append PySem.F.type_list_append AZ (AV (pv 0) rfl) (Aa (Ah GL hr2 (by rfl) CL.m CL.k CL.b .nil Ao (Aa (pv 3) (Aa (AC AT (AV (pv 0) rfl) (Ko HB Ag) (fun _ _=>rfl)) (Aa (Ah GW hr3 (by rfl) CW.m CW.k CW.b .nil Ao (Aa (pv 1) (Aa (AV (pv 0) rfl) Ab))) Ab)))) Ab)))
  (Ad (Ai (pv 3)))))),?_⟩
 refine⟨_,rfl,a,M,U,W,rfl,hT,fun he=>qO he _ (Same.refl _),fun he=>?_⟩
 have haH:=ha.keep (TS.same AR)
 refine⟨_,rfl,a,_,_,rfl,hT.ob,PX,_,rfl,_,rfl,a,sn,v,M,U,W,t,seen,rfl,hT,haH,ok5,hsz,hN,wN,nne,fun hn H' s'=>qS he hn H' s',fun hmany H2 s2=>?_⟩
 have q:=q he hmany
 generalize Ie W seen t=word at *
 have T2:=hT.keep s2
 refine⟨_,rfl,a,cK,_,_,_,rfl,T2.ob,TX.cl,TX.given,EU,.inl ⟨rfl,_,SqL.of T2.gv⟩,_,rfl,_,rfl,Fl,fun p hp=>?_⟩
 have s3:=Af hp (.tup [v,.str word])
 have p3:upd H2 p (.tup [v,.str word]) p=some (.tup [v,.str word]):=upd_same
 have T3:=T2.keep s3
 have p0:H p=none:=s2.free hp
 have pM:p∉M:=fun z=>hM p z p0
 have t3:=s2.trans s3
 generalize upd H2 p _=H3 at *
 have hgl:U.ges.length=W.ents.length:=T3.en.len
 refine⟨U.gv,U.ges,.ref p,rfl,rfl,T3.gv,AF (by omega),?_⟩
 have T4:=T3.gave (Bu p3 pM) (ha.keep (TS.same (AO t3))) le
 have b4:But [U.gv,U.lf] H (upd H3 U.gv (.lst (U.ges++[.ref p]))):=Same.trans (AO t3) (But.upd (by simp))
 have k4:∀b,H3 b≠none→upd H3 U.gv (.lst (U.ges++[.ref p])) b≠none:=fun b hb=>by
  by_cases c:b=U.gv
  ·rw[c,upd_same];exact fun z=>by cases z
  ·rw[Ax c];exact hb
 have ts4:TS H3 (upd H3 U.gv (.lst (U.ges++[.ref p]))):=TS.lst T3.gv
 generalize upd H3 U.gv _=H4 at *
 have lf4:H4 U.lf=some (.lst U.lfs):=T4.lf
 obtain⟨hl,hl1,hl2⟩:=E4 T4.lr T4.ln
 refine⟨_,rfl,a,cK,_,_,_,rfl,T4.ob,TX.cl,TX.left,Cr,.inl ⟨rfl,_,SqL.of lf4⟩,?_⟩
 refine⟨_,rfl,_,rfl,a,cK,_,_,_,rfl,T4.ob,TX.cl,TX.left,Cr,_,rfl,_,_,_,_,rfl,rfl,SqL.of lf4,hl1,?_⟩
 refine⟨_,rfl,_,rfl,a,cK,_,_,_,rfl,T4.ob,TX.cl,TX.space,DJ,v,t,U.sp,W.room,rfl,(haH.keep (TS.same t3)).keep ts4,ok5,by omega,SqL.of (AR _ _ T4.room),hT.wr,fun wl H5 s5 hwl0 hwl=>?_⟩
 have T5:=T4.keep s5
 have hwl:AJ H5 wl (AL true t W.room):=hwl
 have wwl:Wr (AL true t W.room):=Jr hT.wr
 have lwl:=wwl.len
 refine⟨word,hl,wl,W.held,_,rfl,SqL.of (s5 _ _ (AR _ _ hl2)),hT.held_wr,SqL.of hwl,by omega,fun l H6 s6 hl0 hl6=>?_⟩
 have T6:=T5.keep s6
 have hll:U.lfs.length=W.lefts.length:=T6.lr.len
 refine⟨U.lf,U.lfs,.ref l,rfl,rfl,T6.lf,AF (by omega),?_⟩
 have l4:H4 l=none:=s5.free hl0
 have lM:l∉M:=fun z=>by
  have h3:H3 l≠none:=fun z3=>hM l z (t3.free z3)
  exact k4 l h3 l4
 have T7:=T6.gone (Bu hl6 lM) ((Km _ _ _).trans (hT.wl _ hT.held_in)) ll
 have b7:But [U.gv,U.lf] H (upd H6 U.lf (.lst (U.lfs++[.ref l]))):=Same.trans b4 (Same.trans (AO (s5.trans s6)) (But.upd (by simp)))
 have k7:∀b,H b≠none→upd H6 U.lf (.lst (U.lfs++[.ref l])) b≠none:=fun b hb=>by
  by_cases c:b=U.lf
  ·rw[c,upd_same];exact fun z=>by cases z
  ·rw[Ax c]
   have h3:H3 b≠none:=fun z3=>hb (t3.free z3)
   exact fun z6=>k4 b h3 ((s5.trans s6).free z6)
 refine⟨_,rfl,?_⟩
 exact q { U with ges:=U.ges++[.ref p],lfs:=U.lfs++[.ref l] } _ b7 rfl rfl k7 T7
end
def Pd (W:Ta) (t:Tr) (word:Str):Ta:={ W with lefts:=W.lefts++[B2 word W.held (AL true t W.room)] }
def L1 (K:PySem.W.Frag) (C cS cO:Addr):Sp:=fun vs H Q E=>∃(a sn:Addr) (v:V) (M:List Addr) (U:Tk) (W:Ta) (t:Tr) (seen:List Int),vs=[.ref a,v,.ref sn]∧TalkN M C H a U W∧(∀m∈M,H m≠none)∧t.AtK K H v∧t.ok 5∧t.size≤800∧SqL K H sn (seen.map V.int)∧Wr seen∧seen≠[]∧(∀gs,H U.gv=some (.lst gs)→gs.length<900)∧W.lefts.length<900∧W.ended=false∧t.ok W.many∧
 (∀(U':Tk) (H':Hp),But [U.gv,U.lf] H H'→U'.gv=U.gv→U'.lf=U.lf→(∀b,H b≠none→H' b≠none)→(∀gs,H U.gv=some (.lst gs)→∃x,H' U.gv=some (.lst (gs++[x])))→TalkN M C H' a U' (Pd W t (Ie W seen t))→Q (.str (Ie W seen t)) H')
section
variable {cK cS cO cT:Addr}
theorem OP {H:Hp} {a b:Addr} {x y:HO} (h:a≠b):upd (upd H a x) b y=upd (upd H b y) a x:=by
 funext c
 by_cases c1:c=b
 ·rw[c1,upd_same,Ax h.symm,upd_same]
 ·rw[Ax c1]
  by_cases c2:c=a
  ·rw[c2,upd_same,upd_same]
  ·rw[Ax c2,Ax c2,Ax c1]
theorem N4 {H:Hp} {a:Addr} {x y:HO}:upd (upd H a x) a y=upd H a y:=by
 funext c
 by_cases c1:c=a
 ·rw[c1,upd_same,upd_same]
 ·rw[Ax c1,Ax c1,Ax c1]
theorem Oz {g1 g2 g3 m1:Addr} {d1 d2 d3 e1:FuncData} (F:Fun K "say" "Talk.say" HD f fd) (TX:JX K cK)
  (GO:FnOk P w K mg bz (EG P w) 2 g1 d1 ["talk"] (EL cK cO)) (CO:AM K mg "refuse_over" g1 d1 ["talk"])
  (G1:FnOk P w K mg bz (EG P w) 6 m1 e1 ["self","sentence","seen"] (Jg K cK cS)) (C1:BQ K cK "ask" m1 e1 ["self","sentence","seen"])
  (GL:FnOk P w K mg bz AG 2 g2 d2 ["word","row","worlds"] (Jy K)) (CL:AM K mg "left_by" g2 d2 ["word","row","worlds"])
  (GW:FnOk P w K mg bz AG 3 g3 d3 ["sentence","room"] (Co K)) (CW:AM K mg "worlds_of" g3 d3 ["sentence","room"]):FnOk P w K mg bz (EG P w) 7 f fd ["self","sentence","seen"] (L1 K cK cS cO):=by
 refine Fun.okX F scTSay (fun vs H Q E h=>?_) (fun cdv A outer s H vs Q E hr h=>?_)
 ·obtain⟨a,sn,v,M,U,W,t,seen,rfl,_⟩:=h
  rfl
 obtain⟨a,sn,v,M,U,W,t,seen,rfl,hT,hM,haH,ok5,hsz,hN,wN,nne,le,ll,he,hmany,q⟩:=h
 have hr3:Room 3 _:=hr.mono (by decide)
 have hr2:Room 2 _:=hr.mono (by decide)
 refine⟨_,Ac (AU (Ah GO hr2 (by rfl) CO.m CO.k CO.b .nil (Cl (E1:=E) fun _ _ _ h=>h) (Aa (pv 0) Ab)))
  (Ac (Az (i:=3) scTSay.nd rfl (Or.inl rfl) (Gr (pv 0) TX.cl C1.m G1 hr C1.b .nil (Cl (E1:=E) fun _ _ _ h=>h) (Aa (pv 1) (Aa (pv 2) Ab))))
  (Ac (AU (BO PySem.F.plainAttrs_list PySem.F.slot_list_append PySem.F.type_list_append AZ (AV (pv 0) rfl) (Aa (Bb (Aa (pv 1) (Aa (pv 3) Ab))) Ab)))
  (Ac (AU (BO PySem.F.plainAttrs_list PySem.F.slot_list_append PySem.F.type_list_append AZ (AV (pv 0) rfl) (Aa (Ah GL hr2 (by rfl) CL.m CL.k CL.b .nil Ao (Aa (pv 3) (Aa (AC AT (AV (pv 0) rfl) (Ko HB Ag) (fun _ _=>rfl)) (Aa (Ah GW hr3 (by rfl) CW.m CW.k CW.b .nil Ao (Aa (pv 1) (Aa (AV (pv 0) rfl) Ab))) Ab)))) Ab)))
  (Ad (Ai (pv 3)))))),?_⟩
 refine⟨_,rfl,a,M,U,W,rfl,hT,fun h1=>absurd (he.symm.trans h1) (by decide),fun _=>?_⟩
 refine⟨_,rfl,a,_,_,rfl,hT.ob,PX,_,rfl,_,rfl,a,sn,v,M,U,W,t,seen,rfl,hT,haH,ok5,hsz,hN,wN,nne,fun hn=>absurd hmany hn,fun _ H2 s2=>?_⟩
 generalize Ie W seen t=word at *
 have T2:=hT.keep s2
 obtain⟨hT0,gs,hgs,hgl⟩:=hT
 have hT:TalkN M cK H a U W:=⟨hT0,gs,hgs,hgl⟩
 have le:=le gs hgs
 have hgs2:=s2 _ _ hgs
 refine⟨_,rfl,a,cK,_,_,_,rfl,T2.ob,TX.cl,TX.given,EU,.inl ⟨rfl,_,SqL.of hgs2⟩,_,rfl,_,rfl,Fl,fun p hp=>?_⟩
 have s3:=Af hp (.tup [v,.str word])
 have T3:=T2.keep s3
 have t3:=s2.trans s3
 have hgs3:=s3 _ _ hgs2
 generalize upd H2 p _=H3 at *
 refine⟨U.gv,gs,.ref p,rfl,rfl,hgs3,AF (by omega),?_⟩
 have T4:TalkN M cK (upd H3 U.gv (.lst (gs++[.ref p]))) a U W:=⟨by rw[N4];exact T3.1,_,upd_same,by rw[List.length_append];exact le⟩
 have b4:But [U.gv,U.lf] H (upd H3 U.gv (.lst (gs++[.ref p]))):=Same.trans (AO t3) (But.upd (by simp))
 have k4:∀b,H3 b≠none→upd H3 U.gv (.lst (gs++[.ref p])) b≠none:=fun b hb=>by
  by_cases c:b=U.gv
  ·rw[c,upd_same];exact fun z=>by cases z
  ·rw[Ax c];exact hb
 have ts4:TS H3 (upd H3 U.gv (.lst (gs++[.ref p]))):=TS.lst hgs3
 have gv4:upd H3 U.gv (.lst (gs++[.ref p])) U.gv=some (.lst (gs++[.ref p])):=upd_same
 generalize upd H3 U.gv _=H4 at *
 have lf4:H4 U.lf=some (.lst U.lfs):=T4.lf
 obtain⟨hl,hl1,hl2⟩:=E4 T4.lr T4.1.ln
 refine⟨_,rfl,a,cK,_,_,_,rfl,T4.ob,TX.cl,TX.left,Cr,.inl ⟨rfl,_,SqL.of lf4⟩,?_⟩
 refine⟨_,rfl,_,rfl,a,cK,_,_,_,rfl,T4.ob,TX.cl,TX.left,Cr,_,rfl,_,_,_,_,rfl,rfl,SqL.of lf4,hl1,?_⟩
 refine⟨_,rfl,_,rfl,a,cK,_,_,_,rfl,T4.ob,TX.cl,TX.space,DJ,v,t,U.sp,W.room,rfl,(haH.same t3).keep ts4,ok5,by omega,SqL.of (AR _ _ T4.room),hT.1.wr,fun wl H5 s5 hwl0 hwl=>?_⟩
 have T5:=T4.keep s5
 have hwl:AJ H5 wl (AL true t W.room):=hwl
 have wwl:Wr (AL true t W.room):=Jr hT.1.wr
 have lwl:=wwl.len
 refine⟨word,hl,wl,W.held,_,rfl,SqL.of (s5 _ _ (AR _ _ hl2)),hT.1.held_wr,SqL.of hwl,by omega,fun l H6 s6 hl0 hl6=>?_⟩
 have T6:=T5.keep s6
 have hll:U.lfs.length=W.lefts.length:=T6.lr.len
 refine⟨U.lf,U.lfs,.ref l,rfl,rfl,T6.lf,AF (by omega),?_⟩
 have l4:H4 l=none:=s5.free hl0
 have lM:l∉M:=fun z=>by
  have h3:H3 l≠none:=fun z3=>hM l z (t3.free z3)
  exact k4 l h3 l4
 have T7':=T6.1.gone (l:=l) (row:=B2 word W.held (AL true t W.room)) (by rw[T6.ct];exact Bu hl6 lM) ((Km _ _ _).trans (hT.1.wl _ hT.1.held_in)) ll
 have T7:TalkN M cK (upd H6 U.lf (.lst (U.lfs++[.ref l]))) a { U with lfs:=U.lfs++[.ref l] } (Pd W t word):=by
  refine⟨?_,gs++[.ref p],by show upd H6 U.lf _ U.gv=_;rw[Ax hT.1.ne];exact (s5.trans s6) _ _ gv4,by rw[List.length_append];exact le⟩
  show TalkAt M cK (upd (upd H6 U.lf (.lst (U.lfs++[.ref l]))) U.gv (.lst U.ges)) a _ _
  rw[OP hT.1.ne.symm]
  exact T7'
 have b7:But [U.gv,U.lf] H (upd H6 U.lf (.lst (U.lfs++[.ref l]))):=Same.trans b4 (Same.trans (AO (s5.trans s6)) (But.upd (by simp)))
 have k7:∀b,H b≠none→upd H6 U.lf (.lst (U.lfs++[.ref l])) b≠none:=fun b hb=>by
  by_cases c:b=U.lf
  ·rw[c,upd_same];exact fun z=>by cases z
  ·rw[Ax c]
   have h3:H3 b≠none:=fun z3=>hb (t3.free z3)
   exact fun z6=>k4 b h3 ((s5.trans s6).free z6)
 refine⟨_,rfl,?_⟩
 refine q { U with lfs:=U.lfs++[.ref l] } _ b7 rfl rfl k7 (fun gs' hg=>?_) T7
 rw[hgs] at hg
 cases hg
 exact⟨.ref p,by rw[Ax hT.1.ne];exact (s5.trans s6) _ _ gv4⟩
end
section
variable {M N:List Addr} {C:Addr} {H H':Hp} {a:Addr} {U:Tk} {W:Ta}
end
abbrev Ft:Stmt:=BB (By 41) 12
def MO (C:Addr):Sp:=fun vs H Q _=>∃(a:Addr) (M:List Addr) (U:Tk) (W:Ta),vs=[.ref a]∧TalkAt M C H a U W∧(∀m∈M,H m≠none)∧
 ∀(b:Addr) (U':Tk) (H':Hp),Same H H'→H b=none→H U'.gv=none→H U'.lf=none→TalkAt (b::U'.gv::U'.lf::M) C H' b U' W→Q (.ref b) H'
section
variable {cK cS cO cG cT cB cN:Addr}
theorem scTFork:Aq ["self","other"] ["self"] (Ae Ft):=Bx
theorem Os {fI:Addr} {dI:FuncData} (F:Fun K "fork" "Talk.fork" Ft f fd) (TX:JX K cK) (T:Fc mg) (GI:FnOk P w K mg bz (EG P w) 5 fI dI ["self","many","room","kind","sentence","rule"] (Jj cK cS cB cN)) (CI:SU K mg cK "Talk" fI dI ["self","many","room","kind","sentence","rule"]):FnOk P w K mg bz AG 7 f fd ["self"] (MO cK):=by
 refine F.ok scTFork (fun vs H Q E h=>?_) (fun cdv A outer s H vs Q E hr h=>?_)
 ·obtain⟨a,M,U,W,rfl,_⟩:=h
  rfl
 obtain⟨a,M,U,W,rfl,hT,hM,q⟩:=h
 refine⟨_,Ac (Az (i:=1) scTFork.nd rfl (Or.inl rfl) (Mi CI.make GI hr (by rfl) CI.m CI.b .nil HJ (Aa (AV (pv 0) rfl) (Aa (AV (pv 0) rfl) (Aa (AV (pv 0) rfl) (Aa (AV (pv 0) rfl) (Aa (AV (pv 0) rfl) Ab)))))))
  (Ac (BZ (pv 1) (AQ AX (by rfl) T.lst Ba (Aa (AV (pv 0) rfl) Ab)) rfl)
  (Ac (BZ (pv 1) (AQ AX (by rfl) T.lst Ba (Aa (AV (pv 0) rfl) Ab)) rfl)
  (Ac (BZ (pv 1) (AV (pv 0) rfl) rfl)
  (Ad (Ai (pv 1)))))),?_⟩
 refine⟨_,rfl,a,cK,_,_,_,rfl,hT.ob,TX.cl,TX.many,JF,_,rfl,a,cK,_,_,_,rfl,hT.ob,TX.cl,TX.space,DJ,_,rfl,a,cK,_,_,_,rfl,hT.ob,TX.cl,TX.kind,RD,_,rfl,a,cK,_,_,_,rfl,hT.ob,TX.cl,TX.sentence,Ki,_,rfl,a,cK,_,_,_,rfl,hT.ob,TX.cl,TX.rule,Jl,fun x dx hx hdx nex=>?_⟩
 have sM:Same H (upd (upd H dx (.own x)) x (.ins cK dx [])):=(Af hdx _).trans (Af (by rw[Ax nex.symm];exact hx) _)
 have xM:x∉M:=fun z=>hM x z hx
 refine⟨x,dx,U.sp,W.many,W.kind,W.rule,U.sv,W.t,W.room,M,rfl,upd_same,xM,fun m hm z=>hM m hm (sM.free z),hT.tr.keep (TS.same (AO sM)),Tr.ok.mono hT.m5 hT.tok,hT.tsz,hT.m5,sM _ _ (AR _ _ hT.room),hT.wr,fun hn=>absurd hT.tok hn,fun _ hn=>absurd ⟨hT.rl,hT.kd⟩ hn,fun _ _ _ he=>absurd he hT.ns,fun _ _ _ _ V1 H1 b1 gv0 lf0 sp0 esv T1=>⟨rfl,?_⟩⟩
 have s1:Same H H1:=IQ hx hdx nex b1
 obtain⟨gvH,ngx,ngd⟩:=D3 (C:=cK) gv0
 obtain⟨lfH,nlx,nld⟩:=D3 (C:=cK) lf0
 have T0:=hT.keep s1
 refine⟨_,rfl,a,cK,_,_,_,rfl,T0.ob,TX.cl,TX.given,EU,_,_,rfl,.inl (SqL.of T0.gv),fun g2 hg2=>?_⟩
 have s2:=Af hg2 (.lst U.ges)
 have g22:upd H1 g2 (.lst U.ges) g2=some (.lst U.ges):=upd_same
 generalize upd H1 g2 _=H2 at *
 have T2:=T1.keep s2
 have ng2x:g2≠x:=(Am T1.ob hg2).symm
 refine⟨_,rfl,x,cK,_,_,rfl,T2.ob,TX.cl,TX.given,(by show 9<1000;decide),?_⟩
 have e3:BG "given" (.ref g2) (DG V1 (Cp W.many W.kind W.rule W.t W.room))=DG { V1 with gv:=g2 } (Cp W.many W.kind W.rule W.t W.room):=by with_unfolding_all rfl
 have x3:upd H2 x (.ins cK V1.dx (BG "given" (.ref g2) (DG V1 (Cp W.many W.kind W.rule W.t W.room)))) x=some (.ins cK V1.dx (DG { V1 with gv:=g2 } (Cp W.many W.kind W.rule W.t W.room))):=upd_same.trans (congrArg (fun l=>some (HO.ins cK V1.dx l)) e3)
 have b3:But [x] H2 (upd H2 x (.ins cK V1.dx (BG "given" (.ref g2) (DG V1 (Cp W.many W.kind W.rule W.t W.room))))):=But.upd (by simp)
 generalize upd H2 x _=H3 at *
 have nax:a≠x:=fun z=>by
  have h:=hT.ob
  rw[z,hx] at h
  cases h
 have nlfx:U.lf≠x:=fun z=>by
  have h:=hT.lf
  rw[z,hx] at h
  cases h
 have lf3:=b3.at (s2 _ _ T0.lf) (Bv nlfx)
 have ob3:=b3.at (s2 _ _ T0.ob) (Bv nax)
 refine⟨_,rfl,a,cK,_,_,_,rfl,ob3,TX.cl,TX.left,Cr,_,_,rfl,.inl (SqL.of lf3),fun l2 hl2=>?_⟩
 have s4:=Af hl2 (.lst U.lfs)
 have l24:upd H3 l2 (.lst U.lfs) l2=some (.lst U.lfs):=upd_same
 generalize upd H3 l2 _=H4 at *
 have nl2x:l2≠x:=(Am x3 hl2).symm
 refine⟨_,rfl,x,cK,_,_,rfl,s4 _ _ x3,TX.cl,TX.left,(by show 9<1000;decide),?_⟩
 have e5:BG "left" (.ref l2) (DG { V1 with gv:=g2 } (Cp W.many W.kind W.rule W.t W.room))=DG { V1 with gv:=g2,lf:=l2 } (Cp W.many W.kind W.rule W.t W.room):=by with_unfolding_all rfl
 have x5:upd H4 x (.ins cK V1.dx (BG "left" (.ref l2) (DG { V1 with gv:=g2 } (Cp W.many W.kind W.rule W.t W.room)))) x=some (.ins cK V1.dx (DG { V1 with gv:=g2,lf:=l2 } (Cp W.many W.kind W.rule W.t W.room))):=upd_same.trans (congrArg (fun l=>some (HO.ins cK V1.dx l)) e5)
 have b5:But [x] H4 (upd H4 x (.ins cK V1.dx (BG "left" (.ref l2) (DG { V1 with gv:=g2 } (Cp W.many W.kind W.rule W.t W.room))))):=But.upd (by simp)
 generalize upd H4 x _=H5 at *
 have ob5:=b5.at (s4 _ _ ob3) (Bv nax)
 refine⟨_,rfl,a,cK,_,_,_,rfl,ob5,TX.cl,TX.ended,HY,_,rfl,x,cK,_,_,rfl,x5,TX.cl,TX.ended,(by show 9<1000;decide),?_⟩
 have e6:BG "ended" (.bl W.ended) (DG { V1 with gv:=g2,lf:=l2 } (Cp W.many W.kind W.rule W.t W.room))=DG { V1 with gv:=g2,lf:=l2,ges:=U.ges,lfs:=U.lfs } W:=by with_unfolding_all rfl
 have x6:upd H5 x (.ins cK V1.dx (BG "ended" (.bl W.ended) (DG { V1 with gv:=g2,lf:=l2 } (Cp W.many W.kind W.rule W.t W.room)))) x=some (.ins cK V1.dx (DG { V1 with gv:=g2,lf:=l2,ges:=U.ges,lfs:=U.lfs } W)):=upd_same.trans (congrArg (fun l=>some (HO.ins cK V1.dx l)) e6)
 have b6:But [x] H5 (upd H5 x (.ins cK V1.dx (BG "ended" (.bl W.ended) (DG { V1 with gv:=g2,lf:=l2 } (Cp W.many W.kind W.rule W.t W.room))))):=But.upd (by simp)
 generalize upd H5 x _=H6 at *
 have b16:But [x] H1 H6:=Same.trans (AO s2) (Same.trans b3 (Same.trans (AO s4) (Same.trans b5 b6)))
 have off:∀m∈[x],H m=none:=fun m hm=>by rw[List.mem_singleton.mp hm];exact hx
 have s6:Same H H6:=But.same off s1 b16
 have g20:H g2=none:=s1.free hg2
 have l23:H2 l2=none:=by
  cases e:H2 l2 with
  | none=>rfl
  | some o=>rw[b3.at e (Bv nl2x)] at hl2;cases hl2
 have l20:H l2=none:=s1.free (s2.free l23)
 have g26:H6 g2=some (.lst U.ges):=b6.at (b5.at (s4 _ _ (b3.at g22 (Bv ng2x))) (Bv ng2x)) (Bv ng2x)
 have l26:H6 l2=some (.lst U.lfs):=b6.at (b5.at l24 (Bv nl2x)) (Bv nl2x)
 have ngl:g2≠l2:=Am g22 l23
 have k1:Same (BH (x::V1.gv::V1.lf::M) H1) (BH (x::g2::l2::M) H6):=fun p o e=>by
  obtain⟨e1,e2⟩:=BU e
  have n1:p≠x:=fun z=>e2 (by rw[z];simp)
  refine Bu (b16.at e1 (Bv n1)) fun z=>?_
  simp only[List.mem_cons] at z e2
  rcases z with q1 | q1 | q1 | q1
  ·exact n1 q1
  ·rw[q1,hg2] at e1;cases e1
  ·rw[q1] at e1;rw[s2 _ _ e1] at l23;cases l23
  ·exact e2 (.inr (.inr (.inr q1)))
 have k0:Same (BH M H) (BH (x::g2::l2::M) H6):=fun p o e=>by
  obtain⟨e1,e2⟩:=BU e
  refine Bu (s6 _ _ e1) fun z=>?_
  simp only[List.mem_cons] at z
  rcases z with q1 | q1 | q1 | q1
  ·rw[q1,hx] at e1;cases e1
  ·rw[q1,g20] at e1;cases e1
  ·rw[q1,l20] at e1;cases e1
  ·exact e2 q1
 refine⟨_,rfl,?_⟩
 exact q x { V1 with gv:=g2,lf:=l2,ges:=U.ges,lfs:=U.lfs } H6 s6 hx g20 l20 ⟨x6,g26,l26,by simp,by simp,by simp,ngl,k1 _ _ T1.room,T1.tr.keep (TS.same k1),k1 _ _ T1.pt,T1.sd.keep k1,hT.en.keep k0,hT.lr.keep k0,hT.wr,hT.wl,hT.ln,hT.l9,hT.e9,hT.tok,hT.m5,hT.tsz,hT.kd,hT.ns,hT.rl⟩
end
abbrev D7:Stmt:=By 56
def Mc (K:PySem.W.Frag):Sp:=fun vs H Q _=>∃(a:Addr) (ns:List Int) (many:Nat),vs=[.ref a,.int many]∧SqL K H a (ns.map V.int)∧ns.length≤63∧1≤many∧many≤5∧∀(tp rm:Addr) (room:List Int) (z:Str) (v:V) (t:Tr) (H':Hp),Same H H'→H' tp=some (.tup [.ref rm,.str z,v])→H rm=none→AJ H' rm room→room.Sublist (B0 (2^many))→room≠[]→t.At H' v→t.ok many→t.size≤20→FL z t room→Q (.ref tp) H'
section
theorem scLstart:Aq ["_law_script","_law_many","_law_room_here","_law_sentence_here"] ["_law_script","_law_many"] (Ae D7):=Bx
theorem Nt {fN fS fR fK:Addr} {dN dS dR dK:FuncData} (F:Fun K "_law_start" "_law_start" D7 f fd)
  (GN:FnOk P w K mg bz AG 1 fN dN ["_law_script","_law_k"] (OC K)) (CN:AM K mg "_law_num" fN dN ["_law_script","_law_k"])
  (GS:FnOk P w K mg bz AG 1 fS dS ["_law_n","_law_most","_law_many"] LA) (CS:AM K mg "_law_sentence" fS dS ["_law_n","_law_most","_law_many"])
  (GR:FnOk P w K mg bz AG 3 fR dR ["_law_n","_law_many"] Pz) (CR:AM K mg "_law_room" fR dR ["_law_n","_law_many"])
  (GK:FnOk P w K mg bz AG 62 fK dK ["_law_n","_law_room_here","_law_sentence_here"] (Pe K)) (CK:AM K mg "_law_kind" fK dK ["_law_n","_law_room_here","_law_sentence_here"]):FnOk P w K mg bz AG 63 f fd ["_law_script","_law_many"] (Mc K):=by
 refine F.ok scLstart (fun vs H Q E h=>?_) (fun cdv A outer s H vs Q E hr h=>?_)
 ·obtain⟨a,ns,many,rfl,_⟩:=h
  rfl
 obtain⟨a,ns,many,rfl,hS,h63,hm1,hm5,q⟩:=h
 have hr1:Room 1 _:=hr.mono (by decide)
 have hr3:Room 3 _:=hr.mono (by decide)
 refine⟨_,Ac (Az (i:=2) scLstart.nd rfl (Or.inl rfl) (Ah GR hr3 (by rfl) CR.m CR.k CR.b .nil Ao (Aa (Ah GN hr1 (by rfl) CN.m CN.k CN.b .nil Ao (Aa (pv 0) (Aa Ag Ab))) (Aa (pv 1) Ab))))
  (Ac (Az (i:=3) scLstart.nd rfl (Or.inl rfl) (Ah GS hr1 (by rfl) CS.m CS.k CS.b .nil Ao (Aa (Ah GN hr1 (by rfl) CN.m CN.k CN.b .nil Ao (Aa (pv 0) (Aa Ag Ab))) (Aa Ag (Aa (pv 1) Ab)))))
  (Ad (Ai (Bb (Aa (pv 2) (Aa (Ah GK hr (by rfl) CK.m CK.k CK.b .nil Ao (Aa (Ah GN hr1 (by rfl) CN.m CN.k CN.b .nil Ao (Aa (pv 0) (Aa Ag Ab))) (Aa (pv 2) (Aa (pv 3) Ab)))) (Aa (pv 3) Ab))))))),?_⟩
 refine⟨_,rfl,a,ns,1,rfl,hS,h63,by decide,by decide,fun n1 H2 hn1 s2=>?_⟩
 refine⟨_,rfl,n1,many,rfl,hm1,hm5,fun rm room H3 s3 hrm0 hrm hsub hne=>?_⟩
 have t3:=s2.trans s3
 have wroom:Wr room:=(Mj hm5).sub hsub
 have lroom:=wroom.len
 refine⟨_,rfl,a,ns,2,rfl,t3.seq hS,h63,by decide,by decide,fun n2 H4 hn2 s4=>?_⟩
 refine⟨_,rfl,n2,8,many,rfl,hn2,by decide,by decide,hm1,hm5,fun v t H5 s5 ha hok hsz'=>?_⟩
 have hsz:t.size≤60:=by omega
 have ok5:t.ok 5:=Tr.ok.mono hm5 hok
 have t5:=t3.trans (s4.trans s5)
 have hrm5:=s5 _ _ (s4 _ _ hrm)
 refine⟨_,rfl,_,rfl,a,ns,3,rfl,t5.seq hS,h63,by decide,by decide,fun n3 H6 hn3 s6=>?_⟩
 have t6:=t5.trans s6
 have hrm6:=s6 _ _ hrm5
 have ha6:=ha.keep (TS.same s6)
 refine⟨_,rfl,_,rfl,n3,rm,room,v,t,rfl,ha6,ok5,hsz,SqL.of hrm6,by omega,hne,fun z H7 s7 hz=>?_⟩
 refine⟨_,rfl,M9,fun tp htp=>?_⟩
 have s8:=s7.trans (Af htp (.tup [.ref rm,.str z,v]))
 exact q tp rm room z v t _ (t6.trans s8) upd_same (s2.free hrm0) (s8 _ _ hrm6) hsub hne (ha6.keep (TS.same s8)) hok (by omega) hz
end
def BY (seen:List Int) (t:Tr):Str:=if (seen.all fun k=>tv t k)=true then "grant" else if (seen.any fun k=>tv t k)=true then "doubt" else "deny"
def Ks (sides:List (List Int)) (going seen:List Int) (t:Tr):Str:=
 if AL false t going=[] then "grant" else if AL true t going=[] then "deny"
 else if BY seen t="grant"∧Ay sides (AL true t going)=true then "grant"
 else if BY seen t="deny"∧Ay sides (AL false t going)=true then "deny" else "doubt"
def Di (z:Str) (g:List Int) (t:Tr):List Int:=if z="grant" then AL true t g else if z="deny" then AL false t g else g
theorem Dp {t:Tr} {room:List Int} {k:Int} (hk:k∈room):decide (k∈AL true t room)=tv t k:=by
 unfold AL
 rw[Bool.eq_iff_iff,decide_eq_true_eq,List.mem_filter]
 constructor
 ·rintro⟨_,h⟩
  exact eq_of_beq h
 ·intro h
  exact⟨hk,by rw[h];rfl⟩
theorem P2 {t:Tr} {room g:List Int} (h:g.Sublist room):DA g (AL true t room)=AL true t g:=by
 unfold DA
 refine (List.filter_congr fun k hk=>?_)
 rw[Dp (h.subset hk)]
 cases tv t k<;>rfl
theorem L6 {t:Tr} {room g:List Int} (h:g.Sublist room):Cn g (AL true t room)=AL false t g:=by
 unfold Cn
 refine (List.filter_congr fun k hk=>?_)
 rw[Dp (h.subset hk)]
 cases tv t k<;>rfl
theorem NI {t:Tr} {room g:List Int} (h:g.Sublist room):Bp g (AL true t room)=BY g t:=by
 have e1:(g.all fun k=>decide (k∈AL true t room))=g.all fun k=>tv t k:=by
  rw[Bool.eq_iff_iff,List.all_eq_true,List.all_eq_true]
  exact⟨fun q k hk=>by rw[←Dp (h.subset hk)];exact q k hk,fun q k hk=>by rw[Dp (h.subset hk)];exact q k hk⟩
 have e2:(g.any fun k=>decide (k∈AL true t room))=g.any fun k=>tv t k:=by
  rw[Bool.eq_iff_iff,List.any_eq_true,List.any_eq_true]
  exact⟨fun⟨k,hk,q⟩=>⟨k,hk,by rw[←Dp (h.subset hk)];exact q⟩,fun⟨k,hk,q⟩=>⟨k,hk,by rw[Dp (h.subset hk)];exact q⟩⟩
 unfold Bp BY
 rw[e1,e2]
theorem Rw (seen:List Int) (t:Tr):BY seen t="grant"∨BY seen t="deny"∨BY seen t="doubt":=by
 unfold BY
 split
 ·exact .inl rfl
 ·split
  ·exact .inr (.inr rfl)
  ·exact .inr (.inl rfl)
theorem R8 {sides:List (List Int)} {going seen room:List Int} {t:Tr} (hg:going.Sublist room) (hs:seen.Sublist room):B6 sides going seen (AL true t room)=Ks sides going seen t:=by
 unfold B6 Ks
 rw[P2 hg,L6 hg,NI hs]
 by_cases h0:AL false t going=[]
 ·rw[if_pos h0,if_pos h0]
 rw[if_neg h0,if_neg h0]
 by_cases h1:AL true t going=[]
 ·rw[if_pos h1,if_pos h1]
 rw[if_neg h1,if_neg h1]
 have g1:¬("grant":Str)="deny":=by decide
 have g2:¬("deny":Str)="grant":=by decide
 have g3:¬("doubt":Str)="grant":=by decide
 have g4:¬("doubt":Str)="deny":=by decide
 rcases Rw seen t with e | e | e<;>rw[e]<;>cases Ay sides (AL true t going)<;>cases Ay sides (AL false t going)<;>simp[g1,g2,g3,g4]
theorem MI {z:Str} {g room:List Int} {t:Tr} (h:g.Sublist room):B2 z g (AL true t room)=Di z g t:=by
 unfold B2 Di
 rw[P2 h,L6 h]
theorem MQ (z:Str) (g:List Int) (t:Tr):(Di z g t).Sublist g:=by
 unfold Di
 split
 ·exact List.filter_sublist
 ·split
  ·exact List.filter_sublist
  ·exact List.Sublist.refl _
abbrev Fq:Stmt:=By 68
section
theorem QG:Aq ["_law_row","_law_sentence_here","_law_said"] ["_law_row","_law_sentence_here","_law_said"] (Ae Fq):=Bx
end
def PairAt (H:Hp) (x:V) (t:Tr) (z:Str):Prop:=∃p v,x= .ref p∧H p=some (.tup [v,.str z])∧t.At H v
theorem PairAt.keep {H H':Hp} (s:Same H H') {x:V} {t:Tr} {z:Str} (h:PairAt H x t z):PairAt H' x t z:=by
 obtain⟨p,v,e,h1,h2⟩:=h
 exact⟨p,v,e,s _ _ h1,h2.keep (TS.same s)⟩
abbrev PairsAt (H:Hp):List V→List (Tr×Str)→Prop:=Paired fun (x:V) (e:Tr×Str)=>PairAt H x e.1 e.2
theorem PairsAt.keep {H H':Hp} (s:Same H H'):∀{xs:List V} {es:List (Tr×Str)},PairsAt H xs es→PairsAt H' xs es
 | _,_,.nil=>.nil
 | _,_,.cons h q=>.cons (h.keep s) (PairsAt.keep s q)
theorem PairsAt.len {H:Hp} {xs:List V} {es:List (Tr×Str)} (h:PairsAt H xs es):xs.length=es.length:=Paired.length h
theorem PairsAt.get {H:Hp}:∀{xs:List V} {es:List (Tr×Str)} {i:Nat} {e:Tr×Str},PairsAt H xs es→es[i]? = some e→∃x,xs[i]? = some x∧PairAt H x e.1 e.2
 | _,_,0,e,.cons h _,hi=>by cases hi;exact⟨_,rfl,h⟩
 | _,_,i+1,e,.cons _ q,hi=>PairsAt.get (i:=i) q hi
theorem HG {H:Hp}:∀{xs:List V} {es:List (V×Tr×Str)},EntsAt H xs es→PairsAt H xs (es.map fun e=>(e.2.1,e.2.2))
 | _,_,.nil=>.nil
 | _,_,.cons ⟨p,e,h,a⟩ q=>.cons ⟨p,_,e,h,a⟩ (HG q)
abbrev FQ:Stmt:=By 72
abbrev D9:Stmt:=By 73
def L4:Sp:=fun vs H Q _=>∃(x y:V) (t:Tr) (z:Str),vs=[x,y]∧PairAt H x t z∧PairAt H y t z∧t.size≤23∧Q (.bl true) H
def KT (K:PySem.W.Frag):Sp:=fun vs H Q _=>∃(a b:Addr) (xs ys:List V) (es:List (Tr×Str)),vs=[.ref a,.ref b]∧H a=some (.lst xs)∧PairsAt H xs es∧H b=some (.lst ys)∧PairsAt H ys es∧(∀e∈es,e.1.size≤23)∧es.length≤900∧Q (.bl true) H
section
theorem Q4:Aq ["_law_found","_law_due"] ["_law_found","_law_due"] (Ae FQ):=Bx
theorem PU {g g2:Addr} {gd gd2:FuncData} (F:Fun K "_law_pair_is" "_law_pair_is" FQ f fd) (T:Fc mg) (B:Bl mg) (GZ:FnOk P w K mg bz AG 24 g gd ["_law_found","_law_due"] (FC 23)) (CZ:AM K mg "_law_tree_is" g gd ["_law_found","_law_due"])
  (GY:FnOk P w K mg bz AG 1 g2 gd2 ["_law_found","_law_due"] PL) (CY:AM K mg "_law_says" g2 gd2 ["_law_found","_law_due"]):FnOk P w K mg bz AG 25 f fd ["_law_found","_law_due"] L4:=by
 refine F.ok Q4 (fun vs H Q E h=>?_) (fun cdv A outer s H vs Q E hr h=>?_)
 ·obtain⟨x,y,t,z,rfl,_⟩:=h
  rfl
 obtain⟨x,y,t,z,rfl,⟨p,v,rfl,hp,ha⟩,⟨p2,v2,rfl,hp2,ha2⟩,hsz,q⟩:=h
 have hr1:Room 1 _:=hr.mono (by decide)
 refine⟨_,Ac (AB (De (Bs (A1 (Av Bo (by rfl) T.isi boot_isinstance (Aa (pv 0) (Aa (BD (v:=.ty "tuple") (by rfl) T.tup DH rfl) Ab))))) (Dw (Ak ID (Av Au (by rfl) B.len PySem.boot_len (Aa (pv 0) Ab)) Ag (Ar _)))).pt
   (Ad (Ai BA))
   Al)
  (Ad (Ai (BE (Ah GZ hr (by rfl) CZ.m CZ.k CZ.b .nil Ao (Aa (AC AH (pv 0) Ag (fun _ _=>rfl)) (Aa (AC AH (pv 1) Ag (fun _ _=>rfl)) Ab))) (Bk (Ah GY hr1 (by rfl) CY.m CY.k CY.b .nil Ao (Aa (AC AH (pv 0) Ag (fun _ _=>rfl)) (Aa (AC AH (pv 1) Ag (fun _ _=>rfl)) Ab))))))),?_⟩
 refine⟨_,rfl,_,_,_,_,rfl,.tup hp,Bd _ _,_,rfl,?_⟩
 refine A8 ?_
 refine⟨_,rfl,p,_,rfl,.inr (SqT.of hp),rfl,_,rfl,?_⟩
 refine Gj rfl ?_
 refine⟨_,rfl,p,_,_,_,rfl,rfl,SqT.of hp,Aj (j:=0) rfl,_,rfl,p2,_,_,_,rfl,rfl,SqT.of hp2,Aj (j:=0) rfl,v,v2,t,rfl,ha,ha2,hsz,_,rfl,?_⟩
 refine Bq ?_
 exact⟨_,rfl,p,_,_,_,rfl,rfl,SqT.of hp,Aj (j:=1) rfl,_,rfl,p2,_,_,_,rfl,rfl,SqT.of hp2,Aj (j:=1) rfl,z,rfl,q⟩
theorem scLpairs:Aq ["_law_found","_law_due","_law_k"] ["_law_found","_law_due"] (Ae D9):=Bx
theorem MR {g:Addr} {gd:FuncData} (F:Fun K "_law_pairs_are" "_law_pairs_are" D9 f fd) (T:Fc mg) (B:Bl mg) (GI:FnOk P w K mg bz AG 25 g gd ["_law_found","_law_due"] L4) (CI:AM K mg "_law_pair_is" g gd ["_law_found","_law_due"]):FnOk P w K mg bz AG 26 f fd ["_law_found","_law_due"] (KT K):=by
 refine F.ok scLpairs (fun vs H Q E h=>?_) (fun cdv A outer s H vs Q E hr h=>?_)
 ·obtain⟨a,b,xs,ys,es,rfl,_⟩:=h
  rfl
 obtain⟨a,b,xs,ys,es,rfl,ha,hX,hb,hY,hsz,hln,q⟩:=h
 have lx:=hX.len
 have ly:=hY.len
 refine⟨_,Ac (AB (De (Bs (A1 (Av Bo (by rfl) T.isi boot_isinstance (Aa (pv 0) (Aa (BD (v:=.ty "list") (by rfl) T.lst Ba rfl) Ab))))) (Dw (Ak ID (Av Au (by rfl) B.len PySem.boot_len (Aa (pv 0) Ab)) (Av Au (by rfl) B.len PySem.boot_len (Aa (pv 1) Ab)) (Ar _)))).pt
   (Ad (Ai BA))
   Al)
  (Ac (BR PassesOwn.never rfl (FY (by rfl) B.range (Aa (Av Au (by rfl) B.len PySem.boot_len (Aa (pv 1) Ab)) Ab)) (AE (i:=2) scLpairs.nd rfl (Or.inl rfl))
   (Ad (AB (Bs (A1 (Ah GI hr (by rfl) CI.m CI.k CI.b .nil Ao (Aa (AC AT (pv 0) (pv 2) (fun _ _=>rfl)) (Aa (AC AT (pv 1) (pv 2) (fun _ _=>rfl)) Ab)))))
    (Ad (Ai BA))
    Al)))
  (Ad (Ai BA))),?_⟩
 refine⟨_,rfl,_,_,_,_,rfl,.lst ha,Bd _ _,_,rfl,?_⟩
 refine A8 ?_
 refine⟨_,rfl,a,_,rfl,.inl (SqL.of ha),_,rfl,b,_,rfl,.inl (SqL.of hb),rfl,_,rfl,?_⟩
 refine Gj (by rw[lx,ly]) ?_
 refine⟨_,rfl,b,_,rfl,.inl (SqL.of hb),_,rfl,(by show -(2^62)≤((ys.length:Nat):Int);omega),(by show ((ys.length:Nat):Int)<2^62;omega),Cc (fun i σ H2=>∃kv,σ=[some (.ref a),some (.ref b),kv]∧H2=H) ⟨_,rfl,rfl⟩ ?_ ?_⟩
 ·rintro i σ H2 hi ⟨kv,rfl,rfl⟩
  have hi':i<es.length:=by
   have h0:i<((ys.length:Nat):Int).toNat:=hi
   omega
  rw[Int.zero_add]
  obtain⟨x,hx,px⟩:=hX.get (List.getElem?_eq_getElem hi')
  obtain⟨y,hy,py⟩:=hY.get (List.getElem?_eq_getElem hi')
  refine⟨_,rfl,_,rfl,a,_,_,_,rfl,rfl,SqL.of ha,Aj hx,_,rfl,_,rfl,b,_,_,_,rfl,rfl,SqL.of hb,Aj hy,x,y,_,_,rfl,px,py,hsz _ (List.getElem_mem hi'),_,rfl,?_⟩
  exact A8 ⟨_,rfl,rfl⟩
 ·rintro σ H2 ⟨kv,rfl,rfl⟩
  exact q
end
abbrev Ef:Stmt:=By 63
abbrev FreshAt (H:Hp) (many:Nat):List V→List Tr→Prop:=Paired fun (v:V) (t:Tr)=>t.At H v∧t.ok many∧t.size≤20
theorem FreshAt.keep {H H':Hp} {many:Nat} (s:TS H H'):∀{xs:List V} {ts:List Tr},FreshAt H many xs ts→FreshAt H' many xs ts
 | _,_,.nil=>.nil
 | _,_,.cons ⟨h,o,z⟩ q=>.cons ⟨h.keep s,o,z⟩ (FreshAt.keep s q)
theorem FreshAt.get {H:Hp} {many:Nat}:∀{xs:List V} {ts:List Tr} {i:Nat},FreshAt H many xs ts→i<xs.length→∃(v:V) (t:Tr),xs[i]? = some v∧t.At H v∧t.ok many∧t.size≤20
 | _,_,0,.cons h _,_=>⟨_,_,rfl,h⟩
 | _,_,i+1,.cons _ q,hi=>FreshAt.get (i:=i) q (Nat.lt_of_succ_lt_succ hi)
def J9 (K:PySem.W.Frag):Sp:=fun vs H Q _=>∃(n:Int) (fr:Addr) (many:Nat) (xs:List V) (ts:List Tr),vs=[.int n,.ref fr,.int many]∧0≤n∧1≤many∧many≤5∧H fr=some (.lst xs)∧FreshAt H many xs ts∧xs≠[]∧xs.length≤900∧
 ∀(v:V) (t:Tr) (H':Hp),Same H H'→t.At H' v→t.ok many→t.size≤21→(1<n%6→t.size≤20)→Q v H'
section
theorem Pa:Aq ["_law_n","_law_fresh","_law_many"] ["_law_n","_law_fresh","_law_many"] (Ae Ef):=Bx
theorem Nj {g:Addr} {gd:FuncData} (F:Fun K "_law_asked" "_law_asked" Ef f fd) (B:Bl mg) (GS:FnOk P w K mg bz AG 1 g gd ["_law_n","_law_most","_law_many"] LA) (CS:AM K mg "_law_sentence" g gd ["_law_n","_law_most","_law_many"]):FnOk P w K mg bz AG 2 f fd ["_law_n","_law_fresh","_law_many"] (J9 K):=by
 refine F.ok Pa (fun vs H Q E h=>?_) (fun cdv A outer s H vs Q E hr h=>?_)
 ·obtain⟨n,fr,many,xs,ts,rfl,_⟩:=h
  rfl
 obtain⟨n,fr,many,xs,ts,rfl,hn,hm1,hm5,hfr,hF,hne,hl,q⟩:=h
 have hp:0<xs.length:=List.length_pos_iff.mpr hne
 refine⟨_,Ac (AB (Ak AN (AD A6 (pv 0) Ag) Ag (Ar _))
   (Ad (Ai (AC AT (pv 1) (AD A6 (AD Br (pv 0) Ag) (Av Au (by rfl) B.len PySem.boot_len (Aa (pv 1) Ab))) (fun _ _=>rfl))))
   Al)
  (Ac (AB (Ak AN (AD A6 (pv 0) Ag) Ag (Ar _))
   (Ad (Ai (Bb (Aa Aw (Aa (AC AT (pv 1) (AD A6 (AD Br (pv 0) Ag) (Av Au (by rfl) B.len PySem.boot_len (Aa (pv 1) Ab))) (fun _ _=>rfl)) Ab)))))
   Al)
  (Ad (Ai (Ah GS hr (by rfl) CS.m CS.k CS.b .nil Ao (Aa (AD Br (pv 0) Ag) (Aa Ag (Aa (pv 2) Ab))))))),?_⟩
 have e0:=Int.emod_nonneg (n / 6) (show (xs.length:Int)≠0 by omega)
 have e1:=Int.emod_lt_of_pos (n / 6) (show (0:Int)<xs.length by omega)
 obtain⟨v,t,hv,ha,hok,hsz⟩:=FreshAt.get hF (i:=(n / 6%(xs.length:Int)).toNat) (by omega)
 have hat:Ia xs (n / 6%(xs.length:Int))=some v:=by
  have e:n / 6%(xs.length:Int)=(((n / 6%(xs.length:Int)).toNat:Nat):Int):=by omega
  rw[e]
  exact Aj hv
 refine⟨_,rfl,_,_,rfl,rfl,(by show (0:Int)<6;decide),rfl,_,rfl,?_⟩
 refine B7 (fun c=>?_) (fun c=>?_)
 ·have c':n%6=0:=by
   have c2:=of_decide_eq_true c
   injection c2
  refine⟨_,rfl,_,rfl,_,_,rfl,rfl,⟨by decide,by decide⟩,_,rfl,fr,_,rfl,.inl (SqL.of hfr),_,_,rfl,rfl,(by show (0:Int)<((xs.length:Nat):Int);omega),fr,_,_,_,rfl,rfl,SqL.of hfr,hat,?_⟩
  exact q v t H (Same.refl _) ha hok (by omega) (fun z=>by omega)
 refine⟨_,rfl,_,_,rfl,rfl,(by show (0:Int)<6;decide),rfl,_,rfl,?_⟩
 refine B7 (fun c=>?_) (fun c=>?_)
 ·have c':n%6=1:=by
   have c2:=of_decide_eq_true c
   injection c2
  refine⟨_,rfl,_,rfl,_,_,rfl,rfl,⟨by decide,by decide⟩,_,rfl,fr,_,rfl,.inl (SqL.of hfr),_,_,rfl,rfl,(by show (0:Int)<((xs.length:Nat):Int);omega),fr,_,_,_,rfl,rfl,SqL.of hfr,hat,Fl,fun p hp0=>?_⟩
  have s2:=Af hp0 (.tup [.str "not",v])
  exact q (.ref p) (.nt t) _ s2 ⟨p,v,rfl,upd_same,ha.keep (TS.same s2)⟩ hok (by show t.size+1≤21;omega) (fun z=>by omega)
 ·refine⟨_,rfl,_,_,rfl,rfl,⟨by decide,by decide⟩,_,rfl,n / 6,6,many,rfl,by omega,by decide,by decide,hm1,hm5,fun v t H' s' ha' hok' hsz'=>?_⟩
  exact q v t H' s' ha' hok' (by omega) (fun _=>by omega)
end
theorem O9:bootBuiltins "min"=some (.builtin "min"):=by decide +kernel
abbrev Fz:Stmt:=By 64
abbrev FJ:Stmt:=By 65
def MC (K:PySem.W.Frag):Sp:=fun vs H Q _=>∃(a:Addr) (ns:List Int) (st n:Int),vs=[.ref a,.int st,.int n]∧SqL K H a (ns.map V.int)∧ns.length≤63∧0≤st∧st≤100∧∀(m:Int),0≤m→m≤200→Q (.int m) H
abbrev AskedAt (H:Hp) (many:Nat):List V→List Tr→Prop:=Paired fun (v:V) (t:Tr)=>t.At H v∧t.ok many∧t.size≤21
theorem AskedAt.keep {H H':Hp} {many:Nat} (s:TS H H'):∀{xs:List V} {ts:List Tr},AskedAt H many xs ts→AskedAt H' many xs ts
 | _,_,.nil=>.nil
 | _,_,.cons ⟨h,o,z⟩ q=>.cons ⟨h.keep s,o,z⟩ (AskedAt.keep s q)
theorem AskedAt.snoc {H:Hp} {many:Nat} {v:V} {t:Tr} (h:t.At H v∧t.ok many∧t.size≤21):∀{xs:List V} {ts:List Tr},AskedAt H many xs ts→AskedAt H many (xs++[v]) (ts++[t])
 | _,_,.nil=>.cons h .nil
 | _,_,.cons x q=>.cons x (AskedAt.snoc h q)
theorem FreshAt.snoc {H:Hp} {many:Nat} {v:V} {t:Tr} (h:t.At H v∧t.ok many∧t.size≤20):∀{xs:List V} {ts:List Tr},FreshAt H many xs ts→FreshAt H many (xs++[v]) (ts++[t])
 | _,_,.nil=>.cons h .nil
 | _,_,.cons x q=>.cons x (FreshAt.snoc h q)
theorem AskedAt.get {H:Hp} {many:Nat}:∀{xs:List V} {ts:List Tr} {i:Nat} {v:V},AskedAt H many xs ts→xs[i]? = some v→∃t:Tr,t.At H v∧t.ok many∧t.size≤21
 | _,_,0,v,.cons h _,e=>by cases e;exact⟨_,h⟩
 | _,_,i+1,v,.cons _ q,e=>AskedAt.get (i:=i) q e
def Ml (K:PySem.W.Frag):Sp:=fun vs H Q _=>∃(a:Addr) (ns:List Int) (st:Int) (many:Nat) (v:V) (t:Tr),vs=[.ref a,.int st,.int many,v]∧SqL K H a (ns.map V.int)∧ns.length≤63∧0≤st∧st≤100∧1≤many∧many≤5∧t.At H v∧t.ok many∧t.size≤20∧
 ∀(l:Addr) (xs:List V) (ts:List Tr) (H':Hp),Same H H'→H l=none→H' l=some (.lst xs)→AskedAt H' many xs ts→xs.length≤200→Q (.ref l) H'
section
abbrev FI:Stmt:=By 58
def MK (K:PySem.W.Frag):Sp:=fun vs H Q _=>∃(a:Addr) (ns:List Int),vs=[.ref a]∧SqL K H a (ns.map V.int)∧ns.length≤63∧∀(z:Str) (H':Hp),Same H H'→Cv z→Q (.str z) H'
theorem RC:Aq ["_law_script"] ["_law_script"] (Ae FI):=Bx
theorem Oe {g:Addr} {gd:FuncData} (F:Fun K "_law_rule" "_law_rule" FI f fd) (GN:FnOk P w K mg bz AG 1 g gd ["_law_script","_law_k"] (OC K)) (CN:AM K mg "_law_num" g gd ["_law_script","_law_k"]):FnOk P w K mg bz AG 2 f fd ["_law_script"] (MK K):=by
 refine F.ok RC (fun vs H Q E h=>?_) (fun cdv A outer s H vs Q E hr h=>?_)
 ·obtain⟨a,ns,rfl,_⟩:=h
  rfl
 obtain⟨a,ns,rfl,hS,h63,q⟩:=h
 refine⟨_,Ad (Ai (AC AT (AK (Aa Aw (Aa Aw Ab))) (AD A6 (AD Br (Ah GN hr (by rfl) CN.m CN.k CN.b .nil Ao (Aa (pv 0) (Aa Ag Ab))) Ag) Ag) (fun _ _=>rfl))),?_⟩
 refine⟨Fl,fun l hl=>?_⟩
 have s1:=Af hl (.lst [.str "elder",.str "newer"])
 refine⟨_,rfl,a,ns,3,rfl,s1.seq hS,h63,by decide,by decide,fun n H2 hn s2=>?_⟩
 have e0:=Int.emod_nonneg (n / 3) (show (2:Int)≠0 by decide)
 have e1:=Int.emod_lt_of_pos (n / 3) (show (0:Int)<2 by decide)
 have l2:=s2 _ _ (show upd H l (.lst [.str "elder",.str "newer"]) l=_ from upd_same)
 have two:n / 3%2=((0:Nat):Int)∨n / 3%2=((1:Nat):Int):=by omega
 have hat:∃z,Cv z∧Ia [V.str "elder",V.str "newer"] (n / 3%2)=some (.str z):=by
  rcases two with e | e<;>rw[e]
  ·exact⟨_,.inl rfl,Aj (j:=0) rfl⟩
  ·exact⟨_,.inr rfl,Aj (j:=1) rfl⟩
 obtain⟨z,hz,hat⟩:=hat
 exact⟨_,_,rfl,rfl,⟨by decide,by decide⟩,_,_,rfl,rfl,(by show (0:Int)<2;decide),l,_,_,_,rfl,rfl,SqL.of l2,hat,q z _ (s1.trans s2) hz⟩
theorem QA:Aq ["_law_script","_law_start_here","_law_n"] ["_law_script","_law_start_here","_law_n"] (Ae Fz):=Bx
theorem Qo (F:Fun K "_law_last" "_law_last" Fz f fd) (B:Bl mg):FnOk P w K mg bz AG 1 f fd ["_law_script","_law_start_here","_law_n"] (MC K):=by
 refine F.ok QA (fun vs H Q E h=>?_) (fun cdv A outer s H vs Q E hr h=>?_)
 ·obtain⟨a,ns,st,n,rfl,_⟩:=h
  rfl
 obtain⟨a,ns,st,n,rfl,hS,h63,h0,h1,q⟩:=h
 refine⟨_,Ac (AB (Ak Et (Av Au (by rfl) B.len PySem.boot_len (Aa (pv 0) Ab)) (pv 1) (Ar _))
   (Ad (Ai (Av Au (by rfl) B.len PySem.boot_len (Aa (pv 0) Ab))))
   Al)
  (Ad (Ai (AD Ch (pv 1) (AD A6 (pv 2) Ag)))),?_⟩
 have hl:(ns.map V.int).length=ns.length:=List.length_map _
 refine⟨_,rfl,a,_,rfl,.inl hS,_,rfl,_,_,rfl,rfl,_,rfl,?_⟩
 refine B7 (fun c=>?_) (fun c=>?_)
 ·exact⟨_,rfl,a,_,rfl,.inl hS,q _ (by omega) (by rw[hl];omega)⟩
 ·have e0:=Int.emod_nonneg n (show (6:Int)≠0 by decide)
  have e1:=Int.emod_lt_of_pos n (show (0:Int)<6 by decide)
  exact⟨_,rfl,_,rfl,_,_,rfl,rfl,(by show (0:Int)<6;decide),_,_,rfl,rfl,q _ (by omega) (by omega)⟩
theorem scLasks:Aq ["_law_script","_law_start_here","_law_many","_law_first","_law_fresh","_law_found","_law_last_here","_law_k","_law_sentence_here"] ["_law_script","_law_start_here","_law_many","_law_first"] (Ae FJ):=Bx
theorem Qf {g1 g2 g3:Addr} {d1 d2 d3:FuncData} (F:Fun K "_law_asks" "_law_asks" FJ f fd) (B:Bl mg) (HMIN:mg "min"=none) (GN:FnOk P w K mg bz AG 1 g1 d1 ["_law_script","_law_k"] (JV K)) (CN:AM K mg "_law_num" g1 d1 ["_law_script","_law_k"])
  (GL:FnOk P w K mg bz AG 1 g2 d2 ["_law_script","_law_start_here","_law_n"] (MC K)) (CL:AM K mg "_law_last" g2 d2 ["_law_script","_law_start_here","_law_n"]) (GA:FnOk P w K mg bz AG 2 g3 d3 ["_law_n","_law_fresh","_law_many"] (J9 K)) (CA:AM K mg "_law_asked" g3 d3 ["_law_n","_law_fresh","_law_many"]):FnOk P w K mg bz AG 3 f fd ["_law_script","_law_start_here","_law_many","_law_first"] (Ml K):=by
 refine F.ok scLasks (fun vs H Q E h=>?_) (fun cdv A outer s H vs Q E hr h=>?_)
 ·obtain⟨a,ns,st,many,v,t,rfl,_⟩:=h
  rfl
 obtain⟨a,ns,st,many,v,t,rfl,hS,h63,h0,h1,hm1,hm5,ha,hok,hsz,q⟩:=h
 have hr1:Room 1 _:=hr.mono (by decide)
 refine⟨_,Ac (Az (i:=4) scLasks.nd rfl (Or.inl rfl) (AK (Aa (pv 3) Ab)))
  (Ac (Az (i:=5) scLasks.nd rfl (Or.inl rfl) (AK Ab))
  (Ac (Az (i:=6) scLasks.nd rfl (Or.inl rfl) (Ah GL hr1 (by rfl) CL.m CL.k CL.b .nil Ao (Aa (pv 0) (Aa (pv 1) (Aa (AD Br (Ah GN hr1 (by rfl) CN.m CN.k CN.b .nil Ao (Aa (pv 0) (Aa Ag Ab))) Ag) Ab)))))
  (Ac (AB (Ak Et (pv 2) Ag (Ar _))
   (Ad (Az (i:=6) scLasks.nd rfl (Or.inl rfl) (Av (NG rfl) (by rfl) HMIN O9 (Aa (pv 6) (Aa (AD Ch (pv 1) (AC AT (AK (Aa Ag (Aa Ag Ab))) (AD Ez (pv 2) Ag) (fun _ _=>rfl))) Ab)))))
   Al)
  (Ac (BR PassesOwn.never rfl (IY (by rfl) B.range (Aa (pv 1) (Aa (pv 6) Ab))) (AE (i:=7) scLasks.nd rfl (Or.inl rfl))
   (Ac (Az (i:=8) scLasks.nd rfl (Or.inl rfl) (Ah GA hr (by rfl) CA.m CA.k CA.b .nil Ao (Aa (Ah GN hr1 (by rfl) CN.m CN.k CN.b .nil Ao (Aa (pv 0) (Aa (pv 7) Ab))) (Aa (pv 4) (Aa (pv 2) Ab)))))
   (Ac (AB (Ak Et (AD A6 (Ah GN hr1 (by rfl) CN.m CN.k CN.b .nil Ao (Aa (pv 0) (Aa (pv 7) Ab))) Ag) Ag (Ar _))
    (Ad (AU (BO PySem.F.plainAttrs_list PySem.F.slot_list_append PySem.F.type_list_append AZ (pv 4) (Aa (pv 8) Ab))))
    Al)
   (Ad (AU (BO PySem.F.plainAttrs_list PySem.F.slot_list_append PySem.F.type_list_append AZ (pv 5) (Aa (pv 8) Ab)))))))
  (Ad (Ai (pv 5))))))),?_⟩
 refine⟨_,rfl,M7,fun fr hfr=>?_⟩
 have s1:=Af hfr (.lst [v])
 have fr1:upd H fr (.lst [v]) fr=some (.lst [v]):=upd_same
 generalize upd H fr _=H1 at *
 refine⟨Jx,fun fo hfo=>?_⟩
 have s2:=Af hfo (.lst [])
 have fo2:upd H1 fo (.lst []) fo=some (.lst []):=upd_same
 generalize upd H1 fo _=H2 at *
 have nff:fr≠fo:=Am fr1 hfo
 have t2:=s1.trans s2
 have fo0:H fo=none:=s1.free hfo
 refine⟨_,rfl,_,rfl,_,rfl,a,ns,0,rfl,t2.seq hS,h63,by decide,by decide,fun H3 hn0 s3=>?_⟩
 refine⟨_,_,rfl,rfl,⟨by decide,by decide⟩,a,ns,st,_,rfl,(t2.trans s3).seq hS,h63,h0,h1,fun m hm0 hm2=>?_⟩
 have t3:=t2.trans s3
 have fr3:=s3 _ _ (s2 _ _ fr1)
 have fo3:=s3 _ _ fo2
 refine HU (fun σ H4=>∃last:Int,0≤last∧last≤200∧σ=[some (.ref a),some (.int st),some (.int (many:Int)),some v,some (.ref fr),some (.ref fo),some (.int last),none,none]∧Same H3 H4) ?_ ?_
 ·rintro σ H4 ⟨last,hl0,hl2,rfl,s4⟩
  have t4:=t3.trans s4
  refine⟨_,rfl,_,rfl,_,_,rfl,⟨by omega,by omega,by omega,by omega⟩,Cc (lo:=st) (n:=(last-st).toNat) (fun i σ H5=>∃(v0 v1:Option V) (fs xs:List V) (fts ts:List Tr),σ=[some (.ref a),some (.int st),some (.int (many:Int)),some v,some (.ref fr),some (.ref fo),some (.int last),v0,v1]∧Same H H5∧H5 fr=some (.lst fs)∧FreshAt H5 many fs fts∧fs≠[]∧fs.length≤1+i∧H5 fo=some (.lst xs)∧AskedAt H5 many xs ts∧xs.length=i) ?_ ?_ ?_⟩
  ·exact⟨_,_,[v],[],[t],[],rfl,t4,s4 _ _ fr3,.cons ⟨ha.keep (TS.same t4),hok,hsz⟩ .nil,by simp,by simp,s4 _ _ fo3,.nil,rfl⟩
  ·rintro i σ H5 hi ⟨v0,v1,fs,xs,fts,ts,rfl,s5,fr5,F5,ne5,l5,fo5,A5,x5⟩
   have hi':i<200:=by omega
   have hk1:st+(i:Int)≤1000:=by omega
   refine⟨_,rfl,_,rfl,a,ns,_,rfl,s5.seq hS,h63,by omega,hk1,fun H6 hn6 s6=>?_⟩
   refine⟨_,rfl,_,rfl,_,fr,many,fs,fts,rfl,hn6,hm1,hm5,s6 _ _ fr5,F5.keep (TS.same s6),ne5,by omega,fun v2 t2' H7 s7 ha7 hok7 hsz7 hlt7=>?_⟩
   have u7:=s6.trans s7
   refine HU (fun σ H9=>∃(fs:List V) (fts:List Tr),σ=[some (.ref a),some (.int st),some (.int (many:Int)),some v,some (.ref fr),some (.ref fo),some (.int last),some (.int (st+(i:Int))),some v2]∧Same H H9∧H9 fr=some (.lst fs)∧FreshAt H9 many fs fts∧fs≠[]∧fs.length≤1+(i+1)∧H9 fo=some (.lst xs)∧AskedAt H9 many xs ts∧t2'.At H9 v2) ?_ ?_
   ·rintro σ H9 ⟨fs9,fts9,rfl,s9,fr9,F9,ne9,l9,fo9,A9,ha9⟩
    refine⟨_,rfl,.inl ⟨rfl,_,SqL.of fo9⟩,_,rfl,fo,_,_,rfl,rfl,fo9,AF (by omega),?_⟩
    have ts9:TS H9 (upd H9 fo (.lst (xs++[v2]))):=TS.lst fo9
    exact⟨_,_,fs9,xs++[v2],fts9,ts++[t2'],rfl,AI s9 fo0 _,by rw[Ax nff];exact fr9,F9.keep ts9,ne9,l9,upd_same,(A9.keep ts9).snoc ⟨ha9.keep ts9,hok7,hsz7⟩,by rw[List.length_append,x5];rfl⟩
   ·intro next
    refine⟨_,rfl,_,rfl,a,ns,_,rfl,(s5.trans u7).seq hS,h63,by omega,hk1,fun H8 hn8 s8=>?_⟩
    refine⟨_,_,rfl,rfl,(by show (0:Int)<6;decide),_,_,rfl,rfl,_,rfl,?_⟩
    have u8:=u7.trans s8
    have fr8:=u8 _ _ fr5
    have fo8:=u8 _ _ fo5
    refine B7 (fun c=>?_) (fun c=>?_)
    ·have c':1<Gm ns (st+(i:Int))%6:=of_decide_eq_true c
     refine⟨_,rfl,.inl ⟨rfl,_,SqL.of fr8⟩,_,rfl,fr,_,_,rfl,rfl,fr8,AF (by omega),?_⟩
     have ts9:TS H8 (upd H8 fr (.lst (fs++[v2]))):=TS.lst fr8
     refine next _ _ ⟨fs++[v2],fts++[t2'],rfl,AI (s5.trans u8) hfr _,upd_same,FreshAt.snoc ⟨(ha7.keep (TS.same s8)).keep ts9,hok7,hlt7 c'⟩ ((F5.keep (TS.same u8)).keep ts9),by simp,by rw[List.length_append];show fs.length+1≤_;omega,by rw[Ax nff.symm];exact fo8,(A5.keep (TS.same u8)).keep ts9,(ha7.keep (TS.same s8)).keep ts9⟩
    ·exact next _ _ ⟨fs,fts,rfl,s5.trans u8,fr8,F5.keep (TS.same u8),ne5,by omega,fo8,A5.keep (TS.same u8),ha7.keep (TS.same s8)⟩
  ·rintro σ H5 ⟨v0,v1,fs,xs,fts,ts,rfl,s5,fr5,F5,ne5,l5,fo5,A5,x5⟩
   exact⟨_,rfl,q fo xs ts H5 s5 fo0 fo5 A5 (by omega)⟩
 ·intro next
  refine⟨_,rfl,_,_,rfl,rfl,_,rfl,?_⟩
  refine B7 (fun c=>?_) (fun c=>?_)
  ·have c':3<(many:Int):=of_decide_eq_true c
   have two:(many:Int)-4=((0:Nat):Int)∨(many:Int)-4=((1:Nat):Int):=by omega
   have hat:∃y:Int,0≤y∧y≤24∧Ia [V.int 24,V.int 16] ((many:Int)-4)=some (.int y):=by
    rcases two with e | e<;>rw[e]
    ·exact⟨24,by decide,by decide,Aj (j:=0) rfl⟩
    ·exact⟨16,by decide,by decide,Aj (j:=1) rfl⟩
   obtain⟨y,hy0,hy1,hat⟩:=hat
   refine⟨_,rfl,_,rfl,Fl,fun L hL=>⟨_,rfl,_,_,rfl,rfl,L,_,_,_,rfl,rfl,SqL.of upd_same,hat,_,_,rfl,rfl,_,_,rfl,?_⟩⟩
   refine next _ _ ⟨_,?_,?_,rfl,Af hL _⟩
   ·split<;>omega
   ·split<;>omega
  ·exact next _ _ ⟨m,hm0,hm2,rfl,Same.refl _⟩
end
@[reducible]
def tw (many:Nat) (z rule:Str) (t:Tr) (room:List Int) (es:List (V×Tr×Str)) (bas:List Int) (ls:List (List Int)):Ta:=⟨many,z,rule,t,room,es,bas::ls,false⟩
theorem SX {many:Nat} {z rule:Str} {t:Tr} {room:List Int} {es:List (V×Tr×Str)} {bas:List Int} {ls:List (List Int)} {v:V} {u:Tr} {w:Str} :
  R5 (tw many z rule t room es bas ls) v u w=tw many z rule t room (es++[(v,u,w)]) bas (ls++[B2 w (tw many z rule t room es bas ls).held (AL true u room)]):=rfl
theorem Oy {many:Nat} {z rule:Str} {t:Tr} {room:List Int} {es:List (V×Tr×Str)} {bas:List Int} {ls:List (List Int)} {u:Tr} {seen:List Int} (hg:(tw many z rule t room es bas ls).going.Sublist room) (hs:seen.Sublist room) :
  Ie (tw many z rule t room es bas ls) seen u=Ks (As z t room) (tw many z rule t room es bas ls).going seen u:=by
 show (if false=true then _ else B6 (As z t room) (tw many z rule t room es bas ls).going seen (AL true u room))=_
 rw[if_neg Bool.false_ne_true,R8 hg hs]
theorem TalkAt.held_sub {M:List Addr} {C:Addr} {H:Hp} {a:Addr} {U:Tk} {W:Ta} (h:TalkAt M C H a U W):W.held.Sublist W.room:=h.wl _ h.held_in
theorem TalkAt.base_sub {M:List Addr} {C:Addr} {H:Hp} {a:Addr} {U:Tk} {W:Ta} (h:TalkAt M C H a U W):W.base.Sublist W.room:=h.wl _ h.base_in
theorem TalkAt.going_sub {M:List Addr} {C:Addr} {H:Hp} {a:Addr} {U:Tk} {W:Ta} (h:TalkAt M C H a U W):W.going.Sublist W.room:=by
 unfold Ta.going
 split
 ·exact h.held_sub
 ·exact h.base_sub
theorem KY {t:Tr} {H:Hp} {v:V} (h:t.At H v):t.At (BH [] H) v:=h.keep fun p xs e=>Bu e (by simp)
def Full (M:List Addr) (H:Hp):Prop:=∀m∈M,H m≠none
theorem Full.keep {M:List Addr} {H H':Hp} (s:Same H H') (h:Full M H):Full M H':=fun m hm z=>h m hm (s.free z)
theorem Full.no {M:List Addr} {H:Hp} {l:Addr} (h:Full M H) (hl:H l=none):l∉M:=fun z=>h l z hl
theorem Q8 {t:Tr} {g:List Int} (h:AL false t g=[]):AL true t g=g:=by
 unfold AL at h ⊢
 rw[List.filter_eq_self]
 intro k hk
 have:=List.filter_eq_nil_iff.mp h k hk
 cases e:tv t k with
 | true=>rfl
 | false=>exact absurd (by rw[e];rfl) this
theorem PV {t:Tr} {g:List Int} (h:AL true t g=[]):AL false t g=g:=by
 unfold AL at h ⊢
 rw[List.filter_eq_self]
 intro k hk
 have:=List.filter_eq_nil_iff.mp h k hk
 cases e:tv t k with
 | false=>rfl
 | true=>exact absurd (by rw[e];rfl) this
theorem LQ {sides:List (List Int)} {g seen:List Int} {t:Tr} (h:Ay sides g=true):Ay sides (Di (Ks sides g seen t) g t)=true:=by
 have g1:¬("deny":Str)="grant":=by decide
 have g3:¬("doubt":Str)="grant":=by decide
 have g4:¬("doubt":Str)="deny":=by decide
 unfold Ks Di
 by_cases h0:AL false t g=[]
 ·rw[if_pos h0,if_pos rfl,Q8 h0];exact h
 rw[if_neg h0]
 by_cases h1:AL true t g=[]
 ·rw[if_pos h1,if_neg g1,if_pos rfl,PV h1];exact h
 rw[if_neg h1]
 by_cases h2:BY seen t="grant"∧Ay sides (AL true t g)=true
 ·rw[if_pos h2,if_pos rfl];exact h2.2
 rw[if_neg h2]
 by_cases h3:BY seen t="deny"∧Ay sides (AL false t g)=true
 ·rw[if_pos h3,if_neg g1,if_pos rfl];exact h3.2
 rw[if_neg h3,if_neg g3,if_neg g4]
 exact h
theorem EA (l:List (List Int)) (g:List Int):(l++[g]).getLastD []=g:=by simp
theorem mem_ins {b:Bool} {t:Tr} {g:List Int} {k:Int}:k∈AL b t g↔k∈g∧tv t k=b:=by
 unfold AL
 rw[List.mem_filter]
 exact⟨fun h=>⟨h.1,eq_of_beq h.2⟩,fun h=>⟨h.1,by rw[h.2];cases b<;>rfl⟩⟩
theorem Kq {a b:List Int} (ha:a.Pairwise (· < ·)) (hb:b.Pairwise (· < ·)) (h:∀k,k∈a↔k∈b):a=b:=by
 have na:a.Nodup:=ha.imp fun h=>Int.ne_of_lt h
 have nb:b.Nodup:=hb.imp fun h=>Int.ne_of_lt h
 have hp:a.Perm b:=(List.perm_ext_iff_of_nodup na nb).mpr h
 exact hp.eq_of_pairwise (fun x y _ _ h1 h2=>absurd (Int.lt_trans h1 h2) (Int.lt_irrefl _)) ha hb
theorem ND:bootBuiltins "min"=some (.builtin "min"):=by decide +kernel
abbrev Eg:Stmt:=By 45
abbrev CQ:Stmt:=By 44
def Bt (side held seen:List Int):List (List Int):=if (held.any fun k=>decide (k∈seen))=true then[] else if held.length<side.length then[held] else if 1<side.length then[held.take 1,held.drop 1] else[]
def KS (K:PySem.W.Frag):Sp:=fun vs H Q _=>∃(sd hl sn:Addr) (side held seen:List Int),vs=[.ref sd,.ref hl,.ref sn]∧SqL K H sd (side.map V.int)∧AJ H hl held∧SqL K H sn (seen.map V.int)∧held.length<64∧seen.length≤900∧held.length≤side.length∧
 ∀(l:Addr) (xs:List V) (H':Hp),Same H H'→H l=none→H' l=some (.lst xs)→(∀y∈xs,∃p,y= .ref p∧(p=hl∨H p=none))→RowsAt H' xs (Bt side held seen)→Q (.ref l) H'
section
variable {cK cS cO:Addr}
theorem OQ:Aq ["side","held","seen"] ["side","held","seen"] (Ae Eg):=Bx
theorem Ss (row:List Int):Ct (row.map V.int) none (some 1)=(row.take 1).map V.int:=by
 cases row with
 | nil=>rfl
 | cons a r=>
  unfold Ct
  rw[HT.sIx_none]
  have:HT.sIx ((a::r).map V.int).length ((a::r).map V.int).length (some 1)=1:=by
   have:=HT.sIx_nat ((a::r).map V.int).length ((a::r).map V.int).length 1
   show HT.sIx _ _ (some ((1:Nat):Int))=1
   rw[this,List.length_map,List.length_cons]
   omega
  rw[this]
  rfl
theorem SY (row:List Int):Ct (row.map V.int) (some 1) none=(row.drop 1).map V.int:=by
 cases row with
 | nil=>rfl
 | cons a r=>exact Og (.int a) (r.map V.int)
theorem Na {g:Addr} {gd:FuncData} (F:Fun K "catching_parts" "catching_parts" Eg f fd) (B:Bl mg) (GS:FnOk P w K mg bz AG 2 g gd ["one","other"] (EX K)) (CS:AM K mg "some_within" g gd ["one","other"]):FnOk P w K mg bz AG 3 f fd ["side","held","seen"] (KS K):=by
 refine F.ok OQ (fun vs H Q E h=>?_) (fun cdv A outer s H vs Q E hr h=>?_)
 ·obtain⟨sd,hl,sn,side,held,seen,rfl,_⟩:=h
  rfl
 obtain⟨sd,hl,sn,side,held,seen,rfl,hS,hH,hN,lh,ln,hle,q⟩:=h
 refine⟨_,Ac (AB (A1 (Ah GS hr (by rfl) CS.m CS.k CS.b .nil Ao (Aa (pv 1) (Aa (pv 2) Ab))))
   (Ad (Ai (AK Ab)))
   Al)
  (Ac (AB (Ak Iw (Av Au (by rfl) B.len PySem.boot_len (Aa (pv 1) Ab)) (Av Au (by rfl) B.len PySem.boot_len (Aa (pv 0) Ab)) (Ar _))
   (Ad (Ai (AK (Aa (pv 1) Ab))))
   Al)
  (Ac (AB (Ak Et (Av Au (by rfl) B.len PySem.boot_len (Aa (pv 0) Ab)) Ag (Ar _))
   (Ad (Ai (AK (Aa (DQ JG (pv 1) Fd (E8 Ag)) (Aa (DQ JG (pv 1) (E8 Ag) Fd) Ab)))))
   Al)
  (Ad (Ai (AK Ab))))),?_⟩
 unfold Bt at q
 refine⟨_,rfl,_,rfl,hl,sn,held,seen,rfl,SqL.of hH,hN,lh,ln,fun H1 s1=>⟨_,rfl,?_⟩⟩
 cases hb:(held.any fun k=>decide (k∈seen)) with
 | true=>
  rw[hb,if_pos rfl] at q
  refine Bq ?_
  exact⟨Jx,fun l hl'=>q l [] _ (s1.trans (Af hl' _)) (s1.free hl') upd_same (fun y hy=>by simp at hy) .nil⟩
 | false=>
  rw[hb,if_neg Bool.false_ne_true] at q
  refine A8 ?_
  have hH1:=s1 _ _ hH
  refine⟨_,rfl,hl,_,rfl,.inl (SqL.of hH1),_,rfl,sd,_,rfl,.inl (s1.seq hS),_,_,rfl,rfl,_,rfl,?_⟩
  by_cases c:held.length<side.length
  ·rw[if_pos c] at q
   refine Bc (show (((held.map V.int).length:Nat):Int)<(((side.map V.int).length:Nat):Int) by rw[List.length_map,List.length_map];omega) ?_
   refine⟨_,rfl,M7,fun l hl'=>?_⟩
   have s2:=Af hl' (.lst [.ref hl])
   exact q l [.ref hl] _ (s1.trans s2) (s1.free hl') upd_same (fun y hy=>⟨hl,List.mem_singleton.mp hy,.inl rfl⟩) (.cons ⟨hl,rfl,s2 _ _ hH1⟩ .nil)
  rw[if_neg c] at q
  refine A0 (show ¬(((held.map V.int).length:Nat):Int)<(((side.map V.int).length:Nat):Int) by rw[List.length_map,List.length_map];omega) ?_
  refine⟨_,rfl,sd,_,rfl,.inl (s1.seq hS),_,_,rfl,rfl,_,rfl,?_⟩
  by_cases c2:1<side.length
  ·rw[if_pos c2] at q
   refine Bc (show (((side.map V.int).length:Nat):Int)>1 by rw[List.length_map];omega) ?_
   refine⟨_,rfl,_,rfl,hl,_,rfl,SqL.of hH1,fun a1 ha1=>?_⟩
   rw[Ss]
   have s2:=Af ha1 (.lst ((held.take 1).map V.int))
   have a12:AJ (upd H1 a1 (.lst ((held.take 1).map V.int))) a1 (held.take 1):=upd_same
   generalize upd H1 a1 _=H2 at *
   refine⟨_,rfl,_,rfl,hl,_,rfl,SqL.of (s2 _ _ hH1),fun a2 ha2=>?_⟩
   rw[SY]
   have s3:=Af ha2 (.lst ((held.drop 1).map V.int))
   have a23:AJ (upd H2 a2 (.lst ((held.drop 1).map V.int))) a2 (held.drop 1):=upd_same
   generalize upd H2 a2 _=H3 at *
   refine⟨Fl,fun l hl'=>?_⟩
   have s4:=Af hl' (.lst [.ref a1,.ref a2])
   refine q l [.ref a1,.ref a2] _ (s1.trans (s2.trans (s3.trans s4))) ((s1.trans (s2.trans s3)).free hl') upd_same (fun y hy=>?_) (.cons ⟨a1,rfl,(s3.trans s4) _ _ a12⟩ (.cons ⟨a2,rfl,s4 _ _ a23⟩ .nil))
   simp only[List.mem_cons,List.not_mem_nil,or_false] at hy
   rcases hy with rfl | rfl
   ·exact⟨a1,rfl,.inr (s1.free ha1)⟩
   ·exact⟨a2,rfl,.inr ((s1.trans s2).free ha2)⟩
  ·rw[if_neg c2] at q
   refine A0 (show ¬(((side.map V.int).length:Nat):Int)>1 by rw[List.length_map];omega) ?_
   exact⟨Jx,fun l hl'=>q l [] _ (s1.trans (Af hl' _)) (s1.free hl') upd_same (fun y hy=>by simp at hy) .nil⟩
end
def PartAt (H:Hp) (x:Addr) (v:V) (rows:List (List Int)):Prop:=∃p ys,v= .ref p∧p≠x∧H p=some (.lst ys)∧Cy H x ys rows
abbrev PartsAt (H:Hp) (x:Addr):List V→List (List (List Int))→Prop:=Paired fun (v:V) (rows:List (List Int))=>PartAt H x v rows
theorem PartAt.keep {H H':Hp} {x:Addr} {v:V} {rows:List (List Int)} (s:Same H H') (h:PartAt H x v rows):PartAt H' x v rows:=by
 obtain⟨p,ys,h1,h2,h3,h4⟩:=h
 exact⟨p,ys,h1,h2,s _ _ h3,Dt s h4⟩
theorem PartAt.but {H H':Hp} {x:Addr} {v:V} {rows:List (List Int)} (s:But [x] H H') (h:PartAt H x v rows):PartAt H' x v rows:=by
 obtain⟨p,ys,h1,h2,h3,h4⟩:=h
 exact⟨p,ys,h1,h2,s.at h3 (by simpa using h2),DW s h4⟩
theorem PartsAt.keep {H H':Hp} {x:Addr} (s:Same H H'):∀{xs:List V} {ps:List (List (List Int))},PartsAt H x xs ps→PartsAt H' x xs ps
 | _,_,.nil=>.nil
 | _,_,.cons h q=>.cons (h.keep s) (PartsAt.keep s q)
theorem PartsAt.but {H H':Hp} {x:Addr} (s:But [x] H H'):∀{xs:List V} {ps:List (List (List Int))},PartsAt H x xs ps→PartsAt H' x xs ps
 | _,_,.nil=>.nil
 | _,_,.cons h q=>.cons (h.but s) (PartsAt.but s q)
theorem PartsAt.snoc {H:Hp} {x:Addr} {v:V} {p:List (List Int)} (h:PartAt H x v p):∀{xs:List V} {ps:List (List (List Int))},PartsAt H x xs ps→PartsAt H x (xs++[v]) (ps++[p])
 | _,_,.nil=>.cons h .nil
 | _,_,.cons a q=>.cons a (PartsAt.snoc h q)
def Ib (W:Ta) (seen:List Int):List (List (List Int)):=(W.sides.map fun s=>Bt s (DA s W.held) seen).filter fun p=>!p.isEmpty
def Io (K:PySem.W.Frag) (C:Addr):Sp:=fun vs H Q _=>∃(x sn:Addr) (M:List Addr) (U:Tk) (W:Ta) (seen:List Int),vs=[.ref x,.ref sn]∧TalkAt M C H x U W∧W.ended=false∧1≤W.many∧W.many≤5∧AJ H sn seen∧seen.Sublist W.room∧
 (Ay W.sides W.held=false→∀(l:Addr) (H':Hp),Same H H'→H l=none→H' l=some (.lst [])→Q (.ref l) H')∧
 (Ay W.sides W.held=true→(W.rule="elder"∨Ib W seen=[])→∀H',Same H H'→Q .non H')∧
 (Ay W.sides W.held=true→W.rule≠"elder"→∀p∈Ib W seen,(∀p'∈Ib W seen,p.length≤p'.length)→∀(l:Addr) (xs:List V) (ts:List Tr) (H':Hp),Same H H'→H l=none→H' l=some (.lst xs)→PileK K H' xs ts→Paired (fun (part:List Int) (t:Tr)=>K6 W.many 12 283 t∧∀w:Int,0≤w→w<2^W.many→tv t w=decide (w∈Cn W.room part)) p ts→Q (.ref l) H')
theorem EF {H:Hp} {x:Addr}:∀{xs:List V} {rs:List (List Int)},(∀y∈xs,∃p,y= .ref p∧p≠x)→RowsAt H xs rs→Cy H x xs rs
 | _,_,_,.nil=>.nil
 | _,_,h,.cons ⟨p,e,r⟩ q=>by
  obtain⟨p',e',hn⟩:=h _ List.mem_cons_self
  rw[e] at e'
  cases e'
  exact .cons ⟨p,e,hn,r⟩ (EF (fun y hy=>h y (List.mem_cons_of_mem _ hy)) q)
theorem Ew {H:Hp} {x:Addr}:∀{xs:List V} {rs:List (List Int)},Cy H x xs rs→RowsAt H xs rs
 | _,_,.nil=>.nil
 | _,_,.cons ⟨p,e,_,r⟩ q=>.cons ⟨p,e,r⟩ (Ew q)
theorem HK {K:PySem.W.Frag} {H:Hp} {x:Addr}:∀{xs:List V} {ps:List (List (List Int))},PartsAt H x xs ps→∃yss:List (List V),Paired (fun v ys=>∃p,v=V.ref p∧SqL K H p ys) xs yss∧yss.map List.length=ps.map List.length
 | _,_,.nil=>⟨[],.nil,rfl⟩
 | _,_,.cons ⟨p,ys,e1,_,e3,e4⟩ q=>by
  obtain⟨yss,h1,h2⟩:=HK (K:=K) q
  exact⟨ys::yss,.cons ⟨p,e1,SqL.of e3⟩ h1,by rw[List.map_cons,List.map_cons,h2,Paired.length e4]⟩
theorem Gi {α β:Type} {R:α→β→Prop} {a:α} {b:β} (h:R a b):∀{xs:List α} {ys:List β},Paired R xs ys→Paired R (xs++[a]) (ys++[b])
 | _,_,.nil=>.cons h .nil
 | _,_,.cons x q=>.cons x (Gi h q)
section
variable {cK cS cO:Addr}
theorem scCatchBy:Aq ["talk","seen","rows"] ["talk","seen"] (Ae CQ):=Bx
theorem LG {g1 g2 g3 g4 g5 m1 m2 m3 m7:Addr} {d1 d2 d3 d4 d5 e1 e2 e3 e7:FuncData} (F:Fun K "catch_by" "catch_by" CQ f fd) (B:Bl mg) (HMN:mg "min"=none) (TX:JX K cK)
  (GO:FnOk P w K mg bz (EG P w) 2 g1 d1 ["talk"] (FU cK cO)) (CO:AM K mg "refuse_over" g1 d1 ["talk"]) (GC:FnOk P w K mg bz AG 3 g2 d2 ["side","held","seen"] (KS K)) (CC:AM K mg "catching_parts" g2 d2 ["side","held","seen"])
  (GB:FnOk P w K mg bz AG 1 g3 d3 ["one","other"] (JH K)) (CB:AM K mg "in_both" g3 d3 ["one","other"]) (GF:FnOk P w K mg bz AG 1 g4 d4 ["one","other"] (E3 K)) (CF:AM K mg "in_first_only" g4 d4 ["one","other"]) (GS:FnOk P w K mg bz AG 3 g5 d5 ["worlds","many"] (Fk K)) (CS:AM K mg "sentence_of" g5 d5 ["worlds","many"])
  (G1:FnOk P w K mg bz AG 1 m1 e1 ["self"] (LX cK)) (C1:BQ K cK "room" m1 e1 ["self"]) (G2:FnOk P w K mg bz AG 1 m2 e2 ["self"] (KL cK)) (C2:BQ K cK "sides" m2 e2 ["self"]) (G3:FnOk P w K mg bz AG 1 m3 e3 ["self"] (Ju cK)) (C3:BQ K cK "held" m3 e3 ["self"])
  (G7:FnOk P w K mg bz AG 5 m7 e7 ["self"] (IZ cK)) (C7:BQ K cK "caught" m7 e7 ["self"]):FnOk P w K mg bz AG 6 f fd ["talk","seen"] (Io K cK):=by
 refine F.ok scCatchBy (fun vs H Q E h=>?_) (fun cdv A outer s H vs Q E hr h=>?_)
 ·obtain⟨x,sn,M,U,W,seen,rfl,_⟩:=h
  rfl
 obtain⟨x,sn,M,U,W,seen,rfl,hT,hend,hm1,hm5,hN,nsub,qC,qN,qY⟩:=h
 have hr1:Room 1 _:=hr.mono (by decide)
 have hr2:Room 2 _:=hr.mono (by decide)
 have hr3:Room 3 _:=hr.mono (by decide)
 have hr5:Room 5 _:=hr.mono (by decide)
 have wr:=hT.wr
 have lroom:=wr.len
 have lsn:=(wr.sub nsub).len
 have wheld:=hT.held_wr
 have lheld:=wheld.len
 refine⟨_,Ac (AU (Ah GO hr2 (by rfl) CO.m CO.k CO.b .nil HJ (Aa (pv 0) Ab)))
  (Ac (AB (A1 (Bj (pv 0) TX.cl C7.m G7 hr5 C7.b .nil Ao))
   (Ad (Ai (AK Ab)))
   Al)
  (Ac (AB (Ak AN (AV (pv 0) rfl) Aw (Ar _))
   (Ad (Ai Ji))
   Al)
  (Ac (HL (i:=2) scCatchBy.nd rfl (Or.inl rfl) (N:=["side","seen","talk"]) (js:=[none,some 1,some 0]) (cl:=[("talk",s.heap.objs.size+1),("seen",s.heap.objs.size+2)]) ⟨rfl,rfl,rfl,(by intro p hp;simp at hp;rcases hp with rfl | rfl<;>rfl),rfl,rfl,rfl⟩ (AW (Bj (pv 0) TX.cl C2.m G2 hr1 C2.b .nil Ao)) (fun c1=>(AE (i:=0) (show (["side","seen","talk"]:List Str).Nodup by decide +kernel) rfl (Or.inl rfl))) (fun c1=>BI) (fun c1=>(Ah GC hr3 (by rfl) CC.m CC.k CC.b .nil Ao (Aa (pv 0) (Aa (Ah GB hr1 (by rfl) CB.m CB.k CB.b .nil Ao (Aa (pv 0) (Aa (Bj (pv 2) TX.cl C3.m G3 hr1 C3.b .nil Ao) Ab))) (Aa (pv 1) Ab))))))
  (Ac (HL (i:=2) scCatchBy.nd rfl (Or.inl rfl) (N:=["parts"]) (js:=[none]) (cl:=[]) ⟨rfl,rfl,rfl,List.forall_mem_nil _,rfl,rfl,rfl⟩ (AW (pv 2)) (fun c1=>(AE (i:=0) (show (["parts"]:List Str).Nodup by decide +kernel) rfl (Or.inl rfl))) (fun c1=>(BV (DM (pv 0) (fun _=>rfl)))) (fun c1=>(pv 0)))
  (Ac (AB (Bs (DM (pv 2) (fun _=>rfl)))
   (Ad (Ai Ji))
   Al)
  (Ad (Ai (Bm (N:=["part","talk"]) (js:=[none,some 0]) (cl:=[("talk",s.heap.objs.size+1)]) ⟨rfl,rfl,rfl,(by intro p hp;simp at hp;rcases hp with rfl<;>rfl),rfl,rfl,rfl⟩ (AW (M3 rfl (by rfl) HMN (by rfl) B.len (Aa (pv 2) Ab) ND PySem.boot_len)) (fun c1=>(AE (i:=0) (show (["part","talk"]:List Str).Nodup by decide +kernel) rfl (Or.inl rfl))) (fun c1=>BI) (fun c1=>(Ah GS hr3 (by rfl) CS.m CS.k CS.b .nil Ao (Aa (Ah GF hr1 (by rfl) CF.m CF.k CF.b .nil Ao (Aa (Bj (pv 1) TX.cl C1.m G1 hr1 C1.b .nil Ao) (Aa (pv 0) Ab))) (Aa (AV (pv 1) rfl) Ab)))))))))))),?_⟩
 refine⟨_,rfl,x,M,U,W,rfl,hT,fun z=>absurd (hend.symm.trans z) (by decide),fun _=>?_⟩
 refine⟨_,rfl,x,_,_,rfl,hT.ob,Im,x,M,U,W,rfl,hT,fun H1 s1=>⟨_,rfl,?_⟩⟩
 cases hst:Ay W.sides W.held with
 | false=>
  refine Bq ?_
  exact⟨Jx,fun l hl=>qC hst l _ (s1.trans (Af hl _)) (s1.free hl) upd_same⟩
 | true=>
 refine A8 ?_
 have T1:=hT.keep s1
 refine⟨_,rfl,x,cK,_,_,_,rfl,T1.ob,TX.cl,TX.rule,Jl,rfl,_,rfl,?_⟩
 by_cases cE:W.rule="elder"
 ·refine Bc (by rw[cE]) ?_
  exact qN hst (.inl cE) H1 s1
 refine A0 (fun z=>cE (by injection z)) ?_
 refine⟨_,rfl,x,_,_,rfl,T1.ob,Oh,x,M,U,W,rfl,T1,fun sl sxs H2 s2 sl0 hsl hSN _=>?_⟩
 have hSR:RowsAt H2 sxs W.sides:=RowsNew.at hSN
 have t2:=s1.trans s2
 refine⟨sl,rfl,⟨_,SqL.of hsl⟩,fun cc acc hacc=>A4 (K:=K) (a:=sl) (xs:=sxs) (fun i σ Hi=>∃(v0:Option V) (ys:List V),σ=[v0,some (.ref sn),some (.ref x)]∧Same H2 Hi∧Hi acc=some (.lst ys)∧PartsAt Hi acc ys ((W.sides.take i).map fun s=>Bt s (DA s W.held) seen)) ⟨_,[],rfl,Af hacc _,upd_same,.nil⟩ ?_ ?_ ?_⟩
 ·rintro i σ Hi _ ⟨v0,ys,rfl,si,_⟩
  exact SqL.of (si _ _ hsl)
 ·rintro i y σ Hi hy ⟨v0,ys,rfl,si,hacc2,hY⟩
  obtain⟨sd,p,hsd,rfl,hp⟩:=hSR.get hy
  have hsdm:=List.mem_of_getElem? hsd
  have wsd:=wr.sub (Bi hsdm)
  have lsd:=wsd.len
  have hil:i<W.sides.length:=(List.getElem?_eq_some_iff.mp hsd).1
  have h2:=hT.two
  have ylen:=Paired.length hY
  rw[List.length_map,List.length_take] at ylen
  refine LJ rfl ?_
  refine SC ?_
  have ti:=t2.trans si
  have Ti:=hT.keep ti
  refine⟨_,rfl,_,rfl,_,rfl,x,_,_,rfl,Ti.ob,Jd,x,M,U,W,rfl,Ti,fun hd H3 s3 hd0 hhd=>?_⟩
  refine⟨p,hd,sd,W.held,rfl,SqL.of ((si.trans s3) _ _ hp),SqL.of hhd,by omega,by omega,fun bl H4 ns s4 bl0 hup hmem hbl=>?_⟩
  have ens:ns=DA sd W.held:=Kq hup (wsd.1.sublist List.filter_sublist) fun k=>by
   rw[hmem k]
   unfold DA
   rw[List.mem_filter,decide_eq_true_eq]
  subst ens
  have lin:(DA sd W.held).length≤sd.length:=List.length_filter_le _ _
  have s34:=s3.trans s4
  refine⟨_,rfl,p,bl,sn,sd,_,seen,rfl,SqL.of ((si.trans s34) _ _ hp),hbl,SqL.of ((ti.trans s34) _ _ hN),by omega,by omega,lin,fun l xs H5 s5 l0 hl hfr hR=>?_⟩
  have s35:=s34.trans s5
  have hacc5:=s35 _ _ hacc2
  refine⟨ys,hacc5,AF (by omega),?_⟩
  have nacc:∀{b:Addr} {H':Hp},H' b=none→H' acc=some (.lst ys)→b≠acc:=fun {b H'} h1 h2 z=>by
   rw[z,h2] at h1
   cases h1
  have lne:l≠acc:=nacc l0 (s34 _ _ hacc2)
  have bne:bl≠acc:=nacc bl0 (s3 _ _ hacc2)
  have bu:But [acc] H5 (upd H5 acc (.lst (ys++[.ref l]))):=But.upd (by simp)
  refine⟨_,ys++[.ref l],rfl,AI (si.trans s35) hacc _,upd_same,?_⟩
  rw[List.take_add_one,hsd,List.map_append]
  refine PartsAt.snoc ?_ (PartsAt.but bu (PartsAt.keep s35 hY))
  refine PartAt.but bu ⟨l,xs,rfl,lne,hl,EF (fun y hy=>?_) hR⟩
  obtain⟨p',e',hp'⟩:=hfr y hy
  refine⟨p',e',?_⟩
  rcases hp' with rfl | hp'
  ·exact bne
  ·exact nacc hp' (s34 _ _ hacc2)
 rintro σ H6 ⟨v0,ys,rfl,s6,hacc6,hY⟩
 rw[hSR.len,List.take_length] at hY
 refine JR rfl ?_
 have t6:=t2.trans s6
 obtain⟨ps,hps⟩:∃ps,ps=W.sides.map fun s=>Bt s (DA s W.held) seen:=⟨_,rfl⟩
 rw[←hps] at hY
 have hcat:Ib W seen=ps.filter fun p=>!p.isEmpty:=by rw[hps];rfl
 have plen:ps.length≤2:=by rw[hps,List.length_map];exact hT.two
 have ylen:=Paired.length hY
 refine⟨_,rfl,acc,rfl,⟨_,SqL.of hacc6⟩,fun cc2 acc2 hacc2=>A4 (K:=K) (a:=acc) (xs:=ys) (fun i σ Hi=>∃(v0:Option V) (zs:List V),σ=[v0]∧Same H6 Hi∧Hi acc2=some (.lst zs)∧PartsAt Hi acc2 zs ((ps.take i).filter fun p=>!p.isEmpty)∧zs.length≤i) ⟨_,[],rfl,Af hacc2 _,upd_same,.nil,Nat.le_refl _⟩ ?_ ?_ ?_⟩
 ·rintro i σ Hi _ ⟨v0,zs,rfl,si,_⟩
  exact SqL.of (si _ _ hacc6)
 ·rintro i y σ Hi hy ⟨v0,zs,rfl,si,ha2,hZ,zl⟩
  obtain⟨pt,hpt,p,xs,rfl,_,hp,hR⟩:=Ci hY hy
  have hi:i<ys.length:=(List.getElem?_eq_some_iff.mp hy).1
  have nacc:∀{b:Addr} {o:HO},H6 b=some o→b≠acc2:=fun {b o} h1 z=>by
   rw[z,hacc2] at h1
   cases h1
  have hRn:Cy H6 acc2 xs pt:=by
   refine EF (fun y hy=>?_) (Ew hR)
   obtain⟨j,hj⟩:=List.getElem?_of_mem hy
   obtain⟨_,_,p',e',_,hp'⟩:=Ci hR hj
   exact⟨p',e',nacc hp'⟩
  have hxl:=Paired.length hR
  refine LJ rfl ?_
  refine⟨_,rfl,_,.inl ⟨xs,SqL.of (si _ _ hp),rfl⟩,?_⟩
  have et:(ps.take (i+1)).filter (fun p=>!p.isEmpty)=(ps.take i).filter (fun p=>!p.isEmpty)++(if pt=[] then[] else[pt]):=by
   rw[List.take_add_one,hpt,List.filter_append]
   congr 1
   cases pt with
   | nil=>rfl
   | cons _ _=>rfl
  rw[et]
  by_cases c:pt=[]
  ·have cx:xs=[]:=List.eq_nil_of_length_eq_zero (by rw[hxl,c];rfl)
   rw[cx,if_pos c,List.append_nil]
   exact A8 ⟨_,zs,rfl,si,ha2,hZ,by omega⟩
  ·have cx:(!xs.isEmpty)=true:=by
    cases xs with
    | nil=>exact absurd (List.eq_nil_of_length_eq_zero hxl.symm) c
    | cons _ _=>rfl
   rw[cx,if_neg c]
   refine Bq ?_
   refine⟨_,rfl,zs,ha2,AF (by omega),?_⟩
   have bu:But [acc2] Hi (upd Hi acc2 (.lst (zs++[.ref p]))):=But.upd (by simp)
   refine⟨_,zs++[.ref p],rfl,AI si hacc2 _,upd_same,PartsAt.snoc (PartAt.but bu (PartAt.keep si ⟨p,xs,rfl,nacc hp,hp,hRn⟩)) (PartsAt.but bu hZ),by rw[List.length_append];show zs.length+1≤_;omega⟩
 rintro σ H7 ⟨v0,zs,rfl,s7,ha7,hZ,zl⟩
 rw[ylen,List.take_length,←hcat] at hZ
 refine JR rfl ?_
 have t7:=t6.trans s7
 have zlen:=Paired.length hZ
 refine⟨_,rfl,_,.inl ⟨zs,SqL.of ha7,rfl⟩,?_⟩
 by_cases cz:zs=[]
 ·rw[cz]
  refine Bq ?_
  exact qN hst (.inr (List.eq_nil_of_length_eq_zero (by rw[←zlen,cz];rfl))) H7 t7
 have cz':(!zs.isEmpty)=true:=by
  cases zs with
  | nil=>exact absurd rfl cz
  | cons _ _=>rfl
 rw[cz']
 refine A8 ?_
 obtain⟨yss,hyss,hyl⟩:=HK (K:=K) hZ
 refine⟨_,rfl,_,rfl,acc2,zs,yss,rfl,SqL.of ha7,hyss,cz,fun i v hv hmin=>?_⟩
 obtain⟨pt,hpt,p,xs,rfl,_,hp,hR⟩:=Ci hZ hv
 have hptm:=List.mem_of_getElem? hpt
 have hRR:=Ew hR
 have hle:∀p'∈Ib W seen,pt.length≤p'.length:=fun p' hp'=>by
  obtain⟨j,hj⟩:=List.getElem?_of_mem hp'
  have hjl:=(List.getElem?_eq_some_iff.mp hj).1
  have:=(hmin j (by rw[hyl,List.length_map];exact hjl)).1
  rw[hyl,List.getD_eq_getElem?_getD,List.getD_eq_getElem?_getD,List.getElem?_map,List.getElem?_map,hpt,hj] at this
  exact this
 have xl:=hRR.len
 have psub:∀part∈pt,part.length≤32∧True:=fun part hpart=>by
  refine⟨?_,True.intro⟩
  have hp1:pt∈ps:=(List.mem_filter.mp (by rw[←hcat];exact hptm)).1
  rw[hps] at hp1
  obtain⟨sd,hsd,rfl⟩:=List.mem_map.mp hp1
  have l1:(DA sd W.held).length≤32:=Nat.le_trans (List.length_filter_le _ _) (wr.sub (Bi hsd)).len
  unfold Bt at hpart
  split at hpart
  ·cases hpart
  ·split at hpart
   ·rw[List.mem_singleton.mp hpart];exact l1
   ·split at hpart
    ·simp only[List.mem_cons,List.not_mem_nil,or_false] at hpart
     rcases hpart with rfl | rfl
     ·rw[List.length_take];omega
     ·rw[List.length_drop];omega
    ·cases hpart
 have ptl:pt.length≤2:=by
  have hp1:pt∈ps:=(List.mem_filter.mp (by rw[←hcat];exact hptm)).1
  rw[hps] at hp1
  obtain⟨sd,hsd,rfl⟩:=List.mem_map.mp hp1
  unfold Bt
  split
  ·exact Nat.zero_le _
  ·split
   ·show 1≤2;decide
   ·split
    ·exact Nat.le_refl _
    ·exact Nat.zero_le _
 refine⟨p,rfl,⟨_,SqL.of hp⟩,fun cc3 acc3 hacc3=>A4 (K:=K) (a:=p) (xs:=xs) (fun j σ Hj=>∃(v0:Option V) (ws:List V) (ts:List Tr),σ=[v0,some (.ref x)]∧Same H7 Hj∧Hj acc3=some (.lst ws)∧PileK K Hj ws ts∧Paired (fun (part:List Int) (t:Tr)=>K6 W.many 12 283 t∧∀w:Int,0≤w→w<2^W.many→tv t w=decide (w∈Cn W.room part)) (pt.take j) ts∧ws.length≤j) ⟨_,[],[],rfl,Af hacc3 _,upd_same,.nil,.nil,Nat.le_refl _⟩ ?_ ?_ ?_⟩
 ·rintro j σ Hj _ ⟨v0,ws,ts,rfl,sj,_⟩
  exact SqL.of (sj _ _ hp)
 ·rintro j y σ Hj hy ⟨v0,ws,ts,rfl,sj,hacc4,hP,hF,wl⟩
  obtain⟨part,pp,hpart,rfl,hpp⟩:=hRR.get hy
  have hj:j<xs.length:=(List.getElem?_eq_some_iff.mp hy).1
  refine LJ rfl ?_
  refine SC ?_
  have tj:=t7.trans sj
  have Tj:=hT.keep tj
  refine⟨_,rfl,x,_,_,rfl,Tj.ob,Q3,x,M,U,W,rfl,Tj,fun rl H9 s9 rl0 hrl=>?_⟩
  refine⟨_,rfl,rl,pp,W.room,part,rfl,SqL.of hrl,SqL.of ((sj.trans s9) _ _ hpp),lroom,wr.2,by have:=(psub part (List.mem_of_getElem? hpart)).1;omega,fun ol H10 ns s10 ol0 hup hmem hol=>?_⟩
  have ens:ns=Cn W.room part:=Kq hup (wr.1.sublist List.filter_sublist) fun k=>by
   rw[hmem k]
   unfold Cn
   rw[List.mem_filter]
   simp
  subst ens
  have T10:=Tj.keep (s9.trans s10)
  refine⟨_,rfl,x,cK,_,_,_,rfl,T10.ob,TX.cl,TX.many,JF,ol,_,W.many,rfl,SqL.of hol,hm1,hm5,fun fv ft H11 s11 hat hfit htv=>?_⟩
  have sj11:=s9.trans (s10.trans s11)
  have hacc11:=sj11 _ _ hacc4
  refine⟨ws,hacc11,AF (by omega),?_⟩
  have k11:TS H11 (upd H11 acc3 (.lst (ws++[fv]))):=TS.lst hacc11
  refine⟨_,ws++[fv],ts++[ft],rfl,AI (sj.trans sj11) hacc3 _,upd_same,PileK.snoc (hat.keep k11) (PileK.keep ((TS.same sj11).trans k11) hP),?_,by rw[List.length_append];show ws.length+1≤_;omega⟩
  rw[List.take_add_one,hpart]
  exact Gi ⟨hfit,htv⟩ hF
 ·rintro σ Hj ⟨v0,ws,ts,rfl,sj,hacc4,hP,hF,wl⟩
  rw[xl,List.take_length] at hF
  exact qY hst cE pt hptm hle acc3 ws ts Hj (t7.trans sj) (t7.free hacc3) hacc4 hP hF
end
theorem EO {S:List (List Int)} {g:List Int} (h:Ay S g=true) {s:List Int} (hs:s∈S):∃k,k∈s∧k∈g:=by
 unfold Ay at h
 rw[List.all_eq_true] at h
 have:=h s hs
 rw[List.any_eq_true] at this
 obtain⟨k,hk,hd⟩:=this
 exact⟨k,hk,of_decide_eq_true hd⟩
theorem I0 {S:List (List Int)} {g:List Int} (h:∀s∈S,∃k,k∈s∧k∈g):Ay S g=true:=by
 unfold Ay
 rw[List.all_eq_true]
 intro s hs
 rw[List.any_eq_true]
 obtain⟨k,h1,h2⟩:=h s hs
 exact⟨k,h1,decide_eq_true h2⟩
theorem IA {S:List (List Int)} {g s:List Int} (hs:s∈S) (h:∀k∈s,k∉g):Ay S g=false:=by
 cases e:Ay S g with
 | false=>rfl
 | true=>
  obtain⟨k,h1,h2⟩:=EO e hs
  exact absurd h2 (h k h1)
theorem Ga {z:Str} {t:Tr} {room s s':List Int} {k:Int} (hs:s∈As z t room) (hs':s'∈As z t room) (h:k∈s) (h':k∈s'):s=s':=by
 unfold As at hs hs'
 split at hs
 ·rename_i c
  rw[if_pos c] at hs'
  rw[List.mem_singleton.mp hs,List.mem_singleton.mp hs']
 ·rename_i c
  rw[if_neg c] at hs'
  split at hs
  ·rename_i c2
   rw[if_pos c2] at hs'
   rw[List.mem_singleton.mp hs,List.mem_singleton.mp hs']
  ·rename_i c2
   rw[if_neg c2] at hs'
   simp only[List.mem_cons,List.not_mem_nil,or_false] at hs hs'
   rcases hs with rfl | rfl<;>rcases hs' with rfl | rfl
   ·rfl
   ·have h1:=(mem_ins.mp h).2
    rw[(mem_ins.mp h').2] at h1
    cases h1
   ·have h1:=(mem_ins.mp h).2
    rw[(mem_ins.mp h').2] at h1
    cases h1
   ·rfl
theorem Eh {z:Str} {t:Tr} {room s:List Int} {k:Int} (hs:s∈As z t room) (h:k∈s):k∈BM room (As z t room):=by
 unfold BM
 rw[List.mem_filter]
 exact⟨(Bi hs).subset h,List.any_eq_true.mpr ⟨s,hs,decide_eq_true h⟩⟩
theorem EJ {z:Str} {t u:Tr} {room seen part s:List Int} (hs:s∈As z t room) (hns:[]∉As z t room) (hp:∀k∈part,k∈s) (hpne:part≠[]) (hk:∃k,k∈s∧k∉part) (hseen:∀k∈part,k∉seen) (nsub:seen.Sublist room) (hu:∀k∈room,tv u k = !decide (k∈part)) :
  Ks (As z t room) (BM room (As z t room)) seen u="grant":=by
 obtain⟨k0,hk0⟩:=List.exists_mem_of_ne_nil part hpne
 obtain⟨k1,hk1,hk1n⟩:=hk
 have room1:∀{s:List Int},s∈As z t room→∀k∈s,k∈room:=fun h k hk=>(Bi h).subset hk
 have yes:∀k∈room,k∉part→tv u k=true:=fun k h1 h2=>by rw[hu k h1,decide_eq_false h2];rfl
 have c1:AL false u (BM room (As z t room))≠[]:=fun e=>by
  have:k0∈AL false u (BM room (As z t room)):=mem_ins.mpr ⟨Eh hs (hp k0 hk0),by rw[hu k0 (room1 hs k0 (hp k0 hk0)),decide_eq_true hk0];rfl⟩
  rw[e] at this
  cases this
 have c2:AL true u (BM room (As z t room))≠[]:=fun e=>by
  have:k1∈AL true u (BM room (As z t room)):=mem_ins.mpr ⟨Eh hs hk1,yes k1 (room1 hs k1 hk1) hk1n⟩
  rw[e] at this
  cases this
 have c3:BY seen u="grant":=by
  unfold BY
  rw[if_pos (List.all_eq_true.mpr fun k hk=>yes k (nsub.subset hk) fun h=>hseen k h hk)]
 have c4:Ay (As z t room) (AL true u (BM room (As z t room)))=true:=I0 fun s' hs'=>by
  by_cases e:s'=s
  ·exact⟨k1,by rw[e];exact hk1,mem_ins.mpr ⟨Eh hs hk1,yes k1 (room1 hs k1 hk1) hk1n⟩⟩
  ·obtain⟨k,hk⟩:=List.exists_mem_of_ne_nil s' (fun e=>hns (by rw[←e];exact hs'))
   refine⟨k,hk,mem_ins.mpr ⟨Eh hs' hk,yes k (room1 hs' k hk) fun h=>?_⟩⟩
   exact e (Ga hs' hs hk (hp k h))
 unfold Ks
 rw[if_neg c1,if_neg c2,if_pos ⟨c3,c4⟩]
def Ky (S:List (List Int)) (bas seen:List Int):List Int→List Tr→Prop
 | h,[]=>Ay S h=false
 | h,u::us=>Ay S h=true∧Ks S bas seen u="grant"∧Ky S bas seen (AL true u h) us
theorem LN {z:Str} {t:Tr} {room seen h s:List Int} {ts:List Tr} (hs:s∈As z t room) (hns:[]∉As z t room) (nsub:seen.Sublist room) (hsub:∀k∈h,k∈room) (hst:Ay (As z t room) h=true) (hup:s.Pairwise (· < ·))
  (hne:Bt s (DA s h) seen≠[]) (hP:Paired (fun (part:List Int) (u:Tr)=>∀k∈room,tv u k = !decide (k∈part)) (Bt s (DA s h) seen) ts) :
  Ky (As z t room) (BM room (As z t room)) seen h ts:=by
 have room1:∀k∈s,k∈room:=fun k hk=>(Bi hs).subset hk
 have mem:∀k,k∈DA s h↔k∈s∧k∈h:=fun k=>by unfold DA;rw[List.mem_filter,decide_eq_true_eq]
 obtain⟨k0,hk0,hk0h⟩:=EO hst hs
 unfold Bt at hne hP
 by_cases c1:((DA s h).any fun k=>decide (k∈seen))=true
 ·rw[if_pos c1] at hne
  exact absurd rfl hne
 rw[if_neg c1] at hP
 have hseen:∀k,k∈s→k∈h→k∉seen:=fun k h1 h2 h3=>c1 (List.any_eq_true.mpr ⟨k,(mem k).mpr ⟨h1,h2⟩,decide_eq_true h3⟩)
 by_cases c2:(DA s h).length<s.length
 ·rw[if_pos c2] at hP
  cases hP with
  | cons hu q=>
   cases q
   refine⟨hst,EJ hs hns (fun k hk=>((mem k).mp hk).1) (List.ne_nil_of_mem ((mem k0).mpr ⟨hk0,hk0h⟩)) ?_ (fun k hk=>hseen k ((mem k).mp hk).1 ((mem k).mp hk).2) nsub hu,IA hs fun k hk hk2=>?_⟩
   ·refine Classical.byContradiction fun hno=>?_
    have all:∀k∈s,decide (k∈h)=true:=fun k hk=>by
     refine decide_eq_true (Classical.byContradiction fun hn=>hno ⟨k,hk,fun z=>hn ((mem k).mp z).2⟩)
    have e:DA s h=s:=by unfold DA;exact List.filter_eq_self.mpr all
    rw[e] at c2
    omega
   ·obtain⟨a1,a2⟩:=mem_ins.mp hk2
    rw[hu k (room1 k hk),decide_eq_true ((mem k).mpr ⟨hk,a1⟩)] at a2
    cases a2
 rw[if_neg c2] at hP
 rw[if_neg c1,if_neg c2] at hne
 by_cases c3:1<s.length
 ·rw[if_pos c3] at hP
  have e:DA s h=s:=by
   unfold DA at c2 ⊢
   have:=List.length_filter_le (fun k=>decide (k∈h)) s
   have e2:(s.filter fun k=>decide (k∈h)).length=s.length:=by omega
   exact List.filter_eq_self.mpr (List.length_filter_eq_length_iff.mp e2)
  rw[e] at hP
  have inh:∀k∈s,k∈h:=fun k hk=>by rw[←e] at hk;exact ((mem k).mp hk).2
  match s,c3,hP,hup with
  | x::y::r,_,hP,hup=>
   cases hP with
   | cons hu q=>
    cases q with
    | cons hu2 q=>
     cases q
     have hxn:x∉y::r:=fun hx=>by
      have:=(List.pairwise_cons.mp hup).1 x hx
      omega
     have e1:(x::y::r).take 1=[x]:=rfl
     have e2:(x::y::r).drop 1=y::r:=rfl
     rw[e1] at hu
     rw[e2] at hu2
     have ymem:y∈x::y::r:=by simp
     have xmem:x∈x::y::r:=by simp
     have yx:y∉[x]:=fun h=>by
      rw[List.mem_singleton.mp h] at hxn
      exact hxn (by simp)
     refine⟨hst,EJ hs hns (fun k hk=>by rw[List.mem_singleton.mp hk];exact xmem) (by simp) ⟨y,ymem,yx⟩ (fun k hk=>by rw[List.mem_singleton.mp hk];exact hseen x xmem (inh x xmem)) nsub hu,?_,?_,?_⟩
     ·refine I0 fun s' hs'=>?_
      by_cases es:s'=x::y::r
      ·exact⟨y,by rw[es];exact ymem,mem_ins.mpr ⟨inh y ymem,by rw[hu y (room1 y ymem),decide_eq_false yx];rfl⟩⟩
      ·obtain⟨k,h1,h2⟩:=EO hst hs'
       refine⟨k,h1,mem_ins.mpr ⟨h2,?_⟩⟩
       rw[hu k (hsub k h2),decide_eq_false (fun hk=>es (Ga hs' hs h1 (by rw[List.mem_singleton.mp hk];exact xmem)))]
       rfl
     ·exact EJ hs hns (fun k hk=>List.mem_cons_of_mem _ hk) (by simp) ⟨x,xmem,hxn⟩ (fun k hk=>hseen k (List.mem_cons_of_mem _ hk) (inh k (List.mem_cons_of_mem _ hk))) nsub hu2
     ·refine IA hs fun k hk hk2=>?_
      obtain⟨a1,a2⟩:=mem_ins.mp hk2
      rcases List.mem_cons.mp hk with rfl | hk'
      ·have a3:=(mem_ins.mp a1).2
       rw[hu k (room1 k hk),decide_eq_true (List.mem_singleton.mpr rfl)] at a3
       cases a3
      ·rw[hu2 k (room1 k hk),decide_eq_true hk'] at a2
       cases a2
 ·rw[if_neg c3] at hne
  exact absurd rfl hne
theorem NM {s h seen:List Int}:(Bt s h seen).length≤2:=by
 unfold Bt
 split
 ·simp
 ·split
  ·simp
  ·split<;>simp
abbrev EC:Stmt:=By 67
abbrev Ek:Stmt:=By 74
def FE (K:PySem.W.Frag) (n:Nat):Sp:=fun vs H Q _=>∃(v:V) (t:Tr) (m:Nat) (d:Int),vs=[v,.int (m:Int),.int d]∧t.AtK K H v∧t.ok m∧t.hgt<n∧(t.hgt:Int)≤d∧∀(H':Hp),Same H H'→Q (.bl true) H'
def L0 (K:PySem.W.Frag):Sp:=fun vs H Q _=>∃(v:V) (t:Tr),vs=[v]∧t.AtK K H v∧t.size≤900∧∀(H':Hp),Same H H'→Q (.bl true) H'
section
theorem Q7:Aq ["_law_found","_law_many","_law_deep"] ["_law_found","_law_many","_law_deep"] (Ae EC):=Bx
theorem Tq {j:Nat} (h:j<4):N8 (.str (jn j)) joints=true:=by
 match j,h with
 | 0,_=>decide
 | 1,_=>decide
 | 2,_=>decide
 | 3,_=>decide
theorem Pl {n:Nat} {g:Addr} {gd:FuncData} (F:Fun K "_law_good" "_law_good" EC f fd) (T:Fc mg) (B:Bl mg) (GW:FnOk P w K mg bz AG 1 g gd ["_law_found"] EZ) (CW:AM K mg "_law_whole" g gd ["_law_found"]) (G:FnOk P w K mg bz AG (n+1) f fd ["_law_found","_law_many","_law_deep"] (FE K n)) (C:AM K mg "_law_good" f fd ["_law_found","_law_many","_law_deep"]):FnOk P w K mg bz AG (n+2) f fd ["_law_found","_law_many","_law_deep"] (FE K (n+1)):=by
 refine F.ok Q7 (fun vs H Q E h=>?_) (fun cdv A outer s H vs Q E hr h=>?_)
 ·obtain⟨v,t,m,d,rfl,_⟩:=h
  rfl
 obtain⟨v,t,m,d,rfl,ha,hok,hs,hd,q⟩:=h
 have hrW:Room 1 _:=hr.mono (by omega)
 refine⟨_,Ac (AB (De (Ak Iw (pv 2) Ag (Ar _)) (De (Bs (A1 (Av E9 (by rfl) T.isi boot_isinstance (Aa (pv 0) (Aa (BD (v:=.ty "tuple") (by rfl) T.tup DH rfl) Ab))))) (De (Ak Iw (Av Au (by rfl) B.len PySem.boot_len (Aa (pv 0) Ab)) Ag (Ar _)) (Dw (Bs (A1 (Av E9 (by rfl) T.isi boot_isinstance (Aa (AC AH (pv 0) Ag (fun _ _=>rfl)) (Aa (BD (v:=.ty "str") (by rfl) T.str boot_str rfl) Ab))))))))).pt
   (Ad (Ai BA))
   Al)
  (Ac (AB (Ak AN (AC AH (pv 0) Ag (fun _ _=>rfl)) Aw (Ar _))
   (Ad (Ai (BE (Be AN (Av Au (by rfl) B.len PySem.boot_len (Aa (pv 0) Ab)) Ag (Ar _)) (BE (Ah GW hrW (by rfl) CW.m CW.k CW.b .nil Ao (Aa (AC AH (pv 0) Ag (fun _ _=>rfl)) Ab)) (Bk (O1 TB Iw Ag (AC AH (pv 0) Ag (fun _ _=>rfl)) (pv 1)))))))
   Al)
  (Ac (AB (Ak AN (AC AH (pv 0) Ag (fun _ _=>rfl)) Aw (Ar _))
   (Ad (Ai (BE (Be AN (Av Au (by rfl) B.len PySem.boot_len (Aa (pv 0) Ab)) Ag (Ar _)) (Bk (Ah G hr (by rfl) C.m C.k C.b .nil Ao (Aa (AC AH (pv 0) Ag (fun _ _=>rfl)) (Aa (pv 1) (Aa (AD Ez (pv 2) Ag) Ab))))))))
   Al)
  (Ac (AB (De (Ak B5 (AC AH (pv 0) Ag (fun _ _=>rfl)) (AK (Aa Aw (Aa Aw (Aa Aw (Aa Aw Ab))))) (by with_unfolding_all rfl)) (Dw (Ak ID (Av Au (by rfl) B.len PySem.boot_len (Aa (pv 0) Ab)) Ag (Ar _)))).pt
   (Ad (Ai BA))
   Al)
  (Ad (Ai (BE (Ah G hr (by rfl) C.m C.k C.b .nil Ao (Aa (AC AH (pv 0) Ag (fun _ _=>rfl)) (Aa (pv 1) (Aa (AD Ez (pv 2) Ag) Ab)))) (Bk (Ah G hr (by rfl) C.m C.k C.b .nil Ao (Aa (AC AH (pv 0) Ag (fun _ _=>rfl)) (Aa (pv 1) (Aa (AD Ez (pv 2) Ag) Ab))))))))))),?_⟩
 have hd0:¬d<0:=by omega
 cases t with
 | lt k=>
  obtain⟨p,rfl,hp⟩:=ha
  have hk:k<m:=hok
  refine⟨_,rfl,_,_,rfl,rfl,_,rfl,?_⟩
  refine A0 hd0 ?_
  refine⟨_,rfl,_,_,_,_,rfl,.tup hp,Bd _ _,_,rfl,?_⟩
  refine A8 ?_
  refine⟨_,rfl,p,_,rfl,.inr hp.sq,_,_,rfl,rfl,_,rfl,?_⟩
  refine A0 (by show ¬((2:Nat):Int)<2;decide) ?_
  refine⟨_,rfl,p,_,_,_,rfl,rfl,hp.sq,Aj (j:=0) rfl,_,_,_,_,rfl,.of (.str _),Bd _ _,_,rfl,?_⟩
  refine A8 ?_
  refine⟨_,rfl,p,_,_,_,rfl,rfl,hp.sq,Aj (j:=0) rfl,rfl,_,rfl,?_⟩
  refine Bc rfl ?_
  refine⟨_,rfl,p,_,rfl,.inr hp.sq,rfl,_,rfl,Bq ?_⟩
  refine⟨_,rfl,p,_,_,_,rfl,rfl,hp.sq,Aj (j:=1) rfl,_,rfl,_,rfl,Bq ?_⟩
  refine⟨_,rfl,p,_,_,_,rfl,rfl,hp.sq,Aj (j:=1) rfl,_,_,rfl,rfl,_,rfl,?_⟩
  refine Bc (by omega) ?_
  refine⟨_,rfl,_,_,rfl,rfl,?_⟩
  have:=q H (Same.refl _)
  rw[←show decide ((k:Int)<(m:Int))=true from decide_eq_true (by omega)] at this
  exact this
 | nt t=>
  obtain⟨p,u,rfl,hp,hu⟩:=ha
  have hs':t.hgt+1<n+1:=hs
  have hd':((t.hgt+1:Nat):Int)≤d:=hd
  refine⟨_,rfl,_,_,rfl,rfl,_,rfl,?_⟩
  refine A0 hd0 ?_
  refine⟨_,rfl,_,_,_,_,rfl,.tup hp,Bd _ _,_,rfl,?_⟩
  refine A8 ?_
  refine⟨_,rfl,p,_,rfl,.inr hp.sq,_,_,rfl,rfl,_,rfl,?_⟩
  refine A0 (by show ¬((2:Nat):Int)<2;decide) ?_
  refine⟨_,rfl,p,_,_,_,rfl,rfl,hp.sq,Aj (j:=0) rfl,_,_,_,_,rfl,.of (.str _),Bd _ _,_,rfl,?_⟩
  refine A8 ?_
  refine⟨_,rfl,p,_,_,_,rfl,rfl,hp.sq,Aj (j:=0) rfl,rfl,_,rfl,?_⟩
  refine A0 (by decide) ?_
  refine⟨_,rfl,p,_,_,_,rfl,rfl,hp.sq,Aj (j:=0) rfl,rfl,_,rfl,?_⟩
  refine Bc rfl ?_
  refine⟨_,rfl,p,_,rfl,.inr hp.sq,rfl,_,rfl,Bq ?_⟩
  exact⟨_,rfl,p,_,_,_,rfl,rfl,hp.sq,Aj (j:=1) rfl,_,rfl,_,rfl,_,_,rfl,rfl,u,t,m,d-1,rfl,hu,hok,by omega,by omega,fun H' s'=>q H' s'⟩
 | bn j a b=>
  obtain⟨p,x,y,rfl,hp,hx,hy⟩:=ha
  have hs':max a.hgt b.hgt+1<n+1:=hs
  have hd':((max a.hgt b.hgt+1:Nat):Int)≤d:=hd
  obtain⟨hj,oa,ob⟩:=hok
  refine⟨_,rfl,_,_,rfl,rfl,_,rfl,?_⟩
  refine A0 hd0 ?_
  refine⟨_,rfl,_,_,_,_,rfl,.tup hp,Bd _ _,_,rfl,?_⟩
  refine A8 ?_
  refine⟨_,rfl,p,_,rfl,.inr hp.sq,_,_,rfl,rfl,_,rfl,?_⟩
  refine A0 (by show ¬((3:Nat):Int)<2;decide) ?_
  refine⟨_,rfl,p,_,_,_,rfl,rfl,hp.sq,Aj (j:=0) rfl,_,_,_,_,rfl,.of (.str _),Bd _ _,_,rfl,?_⟩
  refine A8 ?_
  refine⟨_,rfl,p,_,_,_,rfl,rfl,hp.sq,Aj (j:=0) rfl,rfl,_,rfl,?_⟩
  refine A0 EQ ?_
  refine⟨_,rfl,p,_,_,_,rfl,rfl,hp.sq,Aj (j:=0) rfl,rfl,_,rfl,?_⟩
  refine A0 Jp ?_
  refine⟨_,rfl,p,_,_,_,rfl,rfl,hp.sq,Aj (j:=0) rfl,U6,fun jl hjl=>?_⟩
  have s1:=Af hjl (.lst joints)
  have hp1:=hp.same s1
  refine⟨jl,joints,rfl,.inl (SqL.of upd_same),rfl,KN,_,rfl,?_⟩
  show if (!N8 (.str (jn j)) joints)=true then _ else _
  rw[Tq hj]
  refine A8 ?_
  refine⟨_,rfl,p,_,rfl,.inr hp1.sq,rfl,_,rfl,?_⟩
  refine Gj rfl ?_
  refine⟨_,rfl,p,_,_,_,rfl,rfl,hp1.sq,Aj (j:=1) rfl,_,rfl,_,rfl,_,_,rfl,rfl,x,a,m,d-1,rfl,hx.same s1,oa,by omega,by omega,fun H2 s2=>?_⟩
  have s12:=s1.trans s2
  refine⟨_,rfl,Bq ?_⟩
  exact⟨_,rfl,p,_,_,_,rfl,rfl,(hp.same s12).sq,Aj (j:=2) rfl,_,rfl,_,rfl,_,_,rfl,rfl,y,b,m,d-1,rfl,hy.same s12,ob,by omega,by omega,fun H3 s3=>q H3 (s12.trans s3)⟩
theorem SV {nms:List Str}:FnOk P w K mg bz AG 1 f fd nms (FE K 0):=by
 have no:∀vs H Q E,¬FE K 0 vs H Q E:=fun vs H Q E h=>by
  obtain⟨v,t,m,d,_,_,_,h1,_⟩:=h
  omega
 exact⟨fun vs H Q E h=>absurd h (no vs H Q E),fun A outer s H args us vs Q E _ _ _ _ h=>absurd h (no vs H Q E)⟩
theorem IS {g:Addr} {gd:FuncData} (F:Fun K "_law_good" "_law_good" EC f fd) (T:Fc mg) (B:Bl mg) (GW:FnOk P w K mg bz AG 1 g gd ["_law_found"] EZ) (CW:AM K mg "_law_whole" g gd ["_law_found"]) (C:AM K mg "_law_good" f fd ["_law_found","_law_many","_law_deep"]):∀n:Nat,FnOk P w K mg bz AG (n+1) f fd ["_law_found","_law_many","_law_deep"] (FE K n)
 | 0=>SV
 | n+1=>Pl F T B GW CW (IS F T B GW CW C n) C
theorem RF {H:Hp} {t:Tr} {v:V} (h:t.AtK K H v):∃p z cs,v= .ref p∧TupAt K H p (z::cs)∧((EE t=[]∧∃k,cs=[.int k])∨(PileK K H cs (EE t)∧cs.length≤2)):=by
 cases t with
 | lt k=>
  obtain⟨p,e,hp⟩:=h
  exact⟨p,_,_,e,hp,.inl ⟨rfl,_,rfl⟩⟩
 | nt t=>
  obtain⟨p,u,e,hp,ha⟩:=h
  exact⟨p,_,_,e,hp,.inr ⟨.cons ha .nil,by show 1≤2;decide⟩⟩
 | bn j a b=>
  obtain⟨p,x,y,e,hp,ha,hb⟩:=h
  exact⟨p,_,_,e,hp,.inr ⟨.cons ha (.cons hb .nil),Nat.le_refl _⟩⟩
theorem scLsmall:Aq ["_law_found","_law_pile","_law_count","_law_one"] ["_law_found"] (Ae Ek):=Bx
def U9 (K:PySem.W.Frag) (H:Hp) (v:V) (z:Nat) (pl:Addr) (n:Nat):L2.St→Hp→Prop:=fun σ H3=>∃(zs:List V) (ws:List Tr) (c:Nat) (ov:Option V),σ=[some v,some (.ref pl),some (.int (c:Int)),ov]∧Same H H3∧H3 pl=some (.lst zs)∧PileK K H3 zs ws∧c+sz ws=z∧n=sz ws
theorem NL (F:Fun K "_law_small" "_law_small" Ek f fd) (T:Fc mg):FnOk P w K mg bz AG 1 f fd ["_law_found"] (L0 K):=by
 refine F.ok scLsmall (fun vs H Q E h=>?_) (fun cdv A outer s H vs Q E hr h=>?_)
 ·obtain⟨v,t,rfl,_⟩:=h
  rfl
 obtain⟨v,t,rfl,ha,hs,q⟩:=h
 refine⟨_,Ac (Az (i:=1) scLsmall.nd rfl (Or.inl rfl) (AK (Aa (pv 0) Ab)))
  (Ac (Az (i:=2) scLsmall.nd rfl (Or.inl rfl) Ag)
  (Ac (Ff PassesOwn.never (Ak (Js hr.units0) (pv 1) (AK Ab) (Ar _))
   (Ac (Az (i:=3) scLsmall.nd rfl (Or.inl rfl) (Cj PySem.F.plainAttrs_list PySem.F.slot_list_pop PySem.F.type_list_pop Cw (pv 1)))
   (Ac (Az (i:=2) scLsmall.nd rfl (Or.inl rfl) (AD Ch (pv 2) Ag))
   (Ac (AB (Ak Et (pv 2) Ag (Ar _))
    (Ad (Ai BA))
    Al)
   (Ad (AB (A1 (Av E9 (by rfl) T.isi boot_isinstance (Aa (pv 3) (Aa (BD (v:=.ty "tuple") (by rfl) T.tup DH rfl) Ab))))
    (Ad (AU (BO PySem.F.plainAttrs_list PySem.F.slot_list_extend PySem.F.type_list_extend Iu (pv 1) (Aa (Bm (N:=["_law_part"]) (js:=[none]) (cl:=[]) ⟨rfl,rfl,rfl,List.forall_mem_nil _,rfl,rfl,rfl⟩ (PQ (DQ Pg (pv 3) (E8 Ag) Fd)) (fun c1=>(AE (i:=0) (show (["_law_part"]:List Str).Nodup by decide +kernel) rfl (Or.inl rfl))) (fun c1=>(BV (A1 (Av E9 (by rfl) T.isi boot_isinstance (Aa (pv 0) (Aa (BD (v:=.ty "tuple") (by rfl) T.tup DH rfl) Ab)))))) (fun c1=>(pv 0))) Ab))))
    Al))))))
  (Ad (Ai BA)))),?_⟩
 refine⟨_,rfl,M7,fun pl hpl=>?_⟩
 have s1:=Af hpl (.lst [v])
 have e1:sz [t]=t.size:=by unfold sz;simp
 refine⟨U9 K H v t.size pl,⟨_,[v],[t],0,none,rfl,s1,upd_same,.cons (ha.same s1) .nil,by omega,rfl⟩,?_⟩
 rintro m σ H3 ⟨zs,ws,c,ov,rfl,s3,h3,p3,hc3,rfl⟩
 refine⟨_,rfl,Jx,fun e he=>?_⟩
 have s4:=Af he (.lst [])
 have h4:=s4 _ _ h3
 have p4:=p3.keep (TS.same s4)
 have t4:=s3.trans s4
 refine⟨pl,e,zs,rfl,rfl,SqL.of h4,SqL.of upd_same,_,rfl,?_⟩
 generalize upd H3 e (.lst [])=H4 at *
 refine B7 (fun cc=>?_) (fun cc=>?_)
 ·refine⟨fun σ' H'=>∃m',m'<sz ws∧U9 K H v t.size pl m' σ' H',fun _ _ h=>h,?_⟩
  have hpos:0<ws.length:=by
   rw[←p4.len]
   cases zs with
   | nil=>exact absurd cc (by decide)
   | cons _ _=>exact Nat.succ_pos _
  obtain⟨zs',y,ws',u,rfl,rfl,q4,a4⟩:=p4.last hpos
  have hsw:=BC ws' u
  have hku:=Lb u
  have lw:=Ho ws'
  have lz:=q4.len
  refine⟨_,rfl,.inl ⟨rfl,_,SqL.of h4⟩,pl,_,y,rfl,rfl,h4,En _ _,?_⟩
  rw[List.dropLast_concat]
  have k5:HT2.TS H4 (upd H4 pl (.lst zs')):=TS.lst h4
  have t5:Same H (upd H4 pl (.lst zs')):=AI t4 hpl _
  have h5:(upd H4 pl (.lst zs')) pl=some (.lst zs'):=upd_same
  have a5:=a4.keep k5
  have q5:=q4.keep k5
  generalize upd H4 pl (.lst zs')=H5 at *
  refine⟨_,rfl,_,_,rfl,rfl,?_⟩
  refine⟨_,rfl,_,_,rfl,rfl,_,rfl,?_⟩
  refine A0 (show ¬(c:Int)+1>2000 by omega) ?_
  obtain⟨p,z,cs,rfl,hp,hk⟩:=RF a5
  refine⟨_,rfl,_,_,_,_,rfl,.tup hp,Bd _ _,_,rfl,?_⟩
  refine Bq ?_
  refine⟨_,rfl,.inl ⟨rfl,_,SqL.of h5⟩,?_⟩
  refine⟨_,rfl,_,rfl,p,_,rfl,hp.sq,KB,fun cu hcu=>?_⟩
  have s6:=Af hcu (.tup (Ct (z::cs) (some 1) none))
  have hcu6:(upd H5 cu (.tup (Ct (z::cs) (some 1) none))) cu=some (.tup (Ct (z::cs) (some 1) none)):=upd_same
  have h6:=s6 _ _ h5
  have q6:=q5.keep (TS.same s6)
  have t6:=t5.trans s6
  have hk6:(EE u=[]∧∃k,cs=[.int k])∨(PileK K (upd H5 cu (.tup (Ct (z::cs) (some 1) none))) cs (EE u)∧cs.length≤2):=hk.imp id (fun h=>⟨h.1.keep (TS.same s6),h.2⟩)
  generalize upd H5 cu (.tup (Ct (z::cs) (some 1) none))=H6 at *
  let ys:Nat→List V:=fun j=>if EE u=[] then[] else cs.take j
  refine⟨cu,rfl,⟨_,SqT.of hcu6⟩,fun c1 ac hac=>L7 (K:=K) (a:=cu) (xs:=Ct (z::cs) (some 1) none) (fun j σ H7=>∃(v0:Option V),σ=[v0]∧Same H6 H7∧H7 ac=some (.lst (ys j))) ⟨_,rfl,Af hac _,?_⟩ ?_ ?_ ?_⟩
  ·show _=some (HO.lst (if EE u=[] then[] else cs.take 0))
   rw[upd_same]
   split<;>rfl
  ·rintro j σ H7 _ ⟨v0,rfl,s7,_⟩
   exact SqT.of (s7 _ _ hcu6)
  ·rintro j x σ H7 hx ⟨v0,rfl,s7,h7⟩
   rw[Og] at hx
   rcases hk6 with⟨ek,k,rfl⟩|⟨pk,hl2⟩
   ·have ex:x= .int k:=by
     match j,hx with
     | 0,hx=>exact (Option.some.inj hx).symm
    subst ex
    refine⟨_,rfl,_,_,_,_,rfl,.of (.int _),Ka _,_,rfl,?_⟩
    refine A8 ?_
    refine⟨_,rfl,s7,?_⟩
    show _=some (HO.lst (if EE u=[] then[] else _))
    rw[if_pos ek]
    have h7':H7 ac=some (.lst (if EE u=[] then[] else _)):=h7
    rw[if_pos ek] at h7'
    exact h7'
   ·obtain⟨t2,ht2,a2⟩:=(pk.keep (TS.same s7)).get hx
    have nk:¬EE u=[]:=fun z=>by rw[z] at ht2;simp at ht2
    obtain⟨p2,xs2,rfl,hp2⟩:=a2.isRef
    have hj:j<cs.length:=(List.getElem?_eq_some_iff.mp hx).1
    refine⟨_,rfl,_,_,_,_,rfl,.tup hp2,Bd _ _,_,rfl,?_⟩
    refine Bq ?_
    have h7':H7 ac=some (.lst (if EE u=[] then[] else cs.take j)):=h7
    rw[if_neg nk] at h7'
    refine⟨_,rfl,_,h7',AF (by rw[List.length_take];omega),?_⟩
    refine⟨_,rfl,AI s7 hac _,?_⟩
    show _=some (HO.lst (if EE u=[] then[] else cs.take (j+1)))
    rw[upd_same,if_neg nk,List.take_add_one,hx]
    rfl
  ·rintro σ H7 ⟨v0,rfl,s7,h7⟩
   rw[Og] at h7
   have e7:H7 ac=some (.lst (if EE u=[] then[] else cs.take cs.length)):=h7
   have pk7:∃ks,H7 ac=some (.lst ks)∧PileK K H7 ks (EE u)∧ks.length≤2:=by
    rcases hk6 with⟨ek,k,rfl⟩|⟨pk,hl2⟩
    ·rw[if_pos ek] at e7
     exact⟨[],e7,by rw[ek];exact .nil,Nat.zero_le _⟩
    ·by_cases ek:EE u=[]
     ·rw[if_pos ek] at e7
      exact⟨[],e7,by rw[ek];exact .nil,Nat.zero_le _⟩
     ·rw[if_neg ek,List.take_length] at e7
      exact⟨cs,e7,pk.keep (TS.same s7),hl2⟩
   obtain⟨ks,hac7,pk,lk⟩:=pk7
   have h7p:=s7 _ _ h6
   refine⟨pl,ac,zs',ks,rfl,rfl,h7p,hac7,small (by omega),?_⟩
   have k8:HT2.TS H7 (upd H7 pl (.lst (zs'++ks))):=TS.lst h7p
   refine⟨_,?_,zs'++ks,ws'++EE u,c+1,_,rfl,AI (t6.trans s7) hpl _,upd_same,((q6.keep (TS.same s7)).app pk).keep k8,?_,rfl⟩
   ·rw[JQ];omega
   ·rw[JQ];omega
 ·have e:ws=[]:=by
   cases p4 with
   | nil=>rfl
   | cons h1 h2=>exact absurd rfl cc
  exact q _ t4
end
def Ds (K:PySem.W.Frag) (n:Nat):Sp:=fun vs H Q _=>∃(v:V) (t:Tr) (w:Int),vs=[v,.int w]∧t.AtK K H v∧t.ok 5∧t.hgt<n∧∀(H':Hp),Same H H'→Q (.bl (tv t w)) H'
section
theorem M1 {n:Nat} (F:Fun K "_law_true" "_law_true" DB f fd) (G:FnOk P w K mg bz AG n f fd ["_law_sentence_here","_law_world"] (Ds K n)) (C:AM K mg "_law_true" f fd ["_law_sentence_here","_law_world"]):FnOk P w K mg bz AG (n+1) f fd ["_law_sentence_here","_law_world"] (Ds K (n+1)):=by
 refine F.ok scLtrue (fun vs H Q E h=>?_) (fun cdv A outer s H vs Q E hr h=>?_)
 ·obtain⟨v,t,k,rfl,_⟩:=h
  rfl
 obtain⟨v,t,k,rfl,ha,hok,hs,q⟩:=h
 refine⟨_,Ac (AB (Ak AN (AC AH (pv 0) Ag (fun _ _=>rfl)) Aw (Ar _))
   (Ad (Ai (Be AN (AD A6 (AD Br (pv 1) (AC AT (AK (Aa Ag (Aa Ag (Aa Ag (Aa Ag (Aa Ag Ab)))))) (AC AH (pv 0) Ag (fun _ _=>rfl)) (fun _ _=>rfl))) Ag) Ag (Ar _))))
   Al)
  (Ac (AB (Ak AN (AC AH (pv 0) Ag (fun _ _=>rfl)) Aw (Ar _))
   (Ad (Ai (DD (Ah G hr (by rfl) C.m C.k C.b .nil Ao (Aa (AC AH (pv 0) Ag (fun _ _=>rfl)) (Aa (pv 1) Ab))))))
   Al)
  (Ac (Az (i:=2) scLtrue.nd rfl (Or.inl rfl) (Ah G hr (by rfl) C.m C.k C.b .nil Ao (Aa (AC AH (pv 0) Ag (fun _ _=>rfl)) (Aa (pv 1) Ab))))
  (Ac (Az (i:=3) scLtrue.nd rfl (Or.inl rfl) (Ah G hr (by rfl) C.m C.k C.b .nil Ao (Aa (AC AH (pv 0) Ag (fun _ _=>rfl)) (Aa (pv 1) Ab))))
  (Ac (AB (Ak AN (AC AH (pv 0) Ag (fun _ _=>rfl)) Aw (Ar _))
   (Ad (Ai (BE (pv 2) (Bk (pv 3)))))
   Al)
  (Ac (AB (Ak AN (AC AH (pv 0) Ag (fun _ _=>rfl)) Aw (Ar _))
   (Ad (Ai (IH (pv 2) (Bk (pv 3)))))
   Al)
  (Ac (AB (Ak AN (AC AH (pv 0) Ag (fun _ _=>rfl)) Aw (Ar _))
   (Ad (Ai (IH (DD (pv 2)) (Bk (pv 3)))))
   Al)
  (Ad (Ai (Be AN (pv 2) (pv 3) (Ar _)))))))))),?_⟩
 cases t with
 | lt j=>
  obtain⟨p,rfl,hp⟩:=ha
  refine⟨_,rfl,p,_,_,_,rfl,rfl,hp.sq,Aj (j:=0) rfl,rfl,_,rfl,?_⟩
  refine Bc rfl ?_
  refine⟨_,rfl,UM,fun l hl=>?_⟩
  have s1:=Af hl (.lst P4)
  refine⟨_,rfl,p,_,_,_,rfl,rfl,(hp.same s1).sq,Aj (j:=1) rfl,l,P4,_,_,rfl,rfl,SqL.of upd_same,Pf hok,_,_,rfl,rfl,⟨pow_pos j,Ou hok⟩,_,_,rfl,rfl,(by show (0:Int)<2;decide),rfl,?_⟩
  have:=q _ s1
  rw[show tv (.lt j) k=BN j k from rfl,←Li] at this
  exact this
 | nt t=>
  obtain⟨p,u,rfl,hp,hu⟩:=ha
  have hs':t.hgt+1<n+1:=hs
  refine⟨_,rfl,p,_,_,_,rfl,rfl,hp.sq,Aj (j:=0) rfl,rfl,_,rfl,?_⟩
  refine A0 (by decide) ?_
  refine⟨_,rfl,p,_,_,_,rfl,rfl,hp.sq,Aj (j:=0) rfl,rfl,_,rfl,?_⟩
  refine Bc rfl ?_
  exact⟨_,rfl,p,_,_,_,rfl,rfl,hp.sq,Aj (j:=1) rfl,_,rfl,u,t,k,rfl,hu,hok,by omega,fun H' s'=>⟨_,rfl,q H' s'⟩⟩
 | bn j a b=>
  obtain⟨p,x,y,rfl,hp,hx,hy⟩:=ha
  have hs':max a.hgt b.hgt+1<n+1:=hs
  obtain⟨hj,oa,ob⟩:=hok
  refine⟨_,rfl,p,_,_,_,rfl,rfl,hp.sq,Aj (j:=0) rfl,rfl,_,rfl,?_⟩
  refine A0 EQ ?_
  refine⟨_,rfl,p,_,_,_,rfl,rfl,hp.sq,Aj (j:=0) rfl,rfl,_,rfl,?_⟩
  refine A0 Jp ?_
  refine⟨_,rfl,p,_,_,_,rfl,rfl,hp.sq,Aj (j:=1) rfl,_,rfl,x,a,k,rfl,hx,oa,by omega,fun H1 s1=>?_⟩
  refine⟨_,rfl,p,_,_,_,rfl,rfl,(hp.same s1).sq,Aj (j:=2) rfl,_,rfl,y,b,k,rfl,hy.keep (TS.same s1),ob,by omega,fun H2 s2=>?_⟩
  have hp2:=(hp.same s1).same s2
  have q2:=q H2 (s1.trans s2)
  have etv:tv (.bn j a b) k=jv j (tv a k) (tv b k):=rfl
  rw[etv] at q2
  generalize tv a k=va at q2
  generalize tv b k=vb at q2
  refine⟨_,rfl,p,_,_,_,rfl,rfl,hp2.sq,Aj (j:=0) rfl,rfl,_,rfl,?_⟩
  by_cases h0:V.str (jn j)=V.str "and"
  ·refine Bc h0 ?_
   obtain rfl:=UQ h0
   cases va with
   | false=>exact⟨_,rfl,_,rfl,A8 q2⟩
   | true=>exact⟨_,rfl,_,rfl,Bq ⟨_,rfl,q2⟩⟩
  refine A0 h0 ?_
  refine⟨_,rfl,p,_,_,_,rfl,rfl,hp2.sq,Aj (j:=0) rfl,rfl,_,rfl,?_⟩
  by_cases h1:V.str (jn j)=V.str "or"
  ·refine Bc h1 ?_
   obtain rfl:=UC h1
   cases va with
   | false=>exact⟨_,rfl,_,rfl,A8 ⟨_,rfl,q2⟩⟩
   | true=>exact⟨_,rfl,_,rfl,Bq q2⟩
  refine A0 h1 ?_
  refine⟨_,rfl,p,_,_,_,rfl,rfl,hp2.sq,Aj (j:=0) rfl,rfl,_,rfl,?_⟩
  by_cases h2:V.str (jn j)=V.str "if"
  ·refine Bc h2 ?_
   obtain rfl:=Um h2
   cases va with
   | false=>exact⟨_,rfl,_,rfl,_,rfl,Bq q2⟩
   | true=>exact⟨_,rfl,_,rfl,_,rfl,A8 ⟨_,rfl,q2⟩⟩
  refine A0 h2 ?_
  rw[Ux h0 h1 h2] at q2
  refine⟨_,rfl,_,rfl,rfl,?_⟩
  rw[OA]
  exact q2
theorem Ro:FnOk P w K mg bz AG 0 f fd ["_law_sentence_here","_law_world"] (Ds K 0):=by
 have no:∀vs H Q E,¬Ds K 0 vs H Q E:=fun vs H Q E h=>by
  obtain⟨v,t,k,_,_,_,h1,_⟩:=h
  omega
 exact⟨fun vs H Q E h=>absurd h (no vs H Q E),fun A outer s H args us vs Q E _ _ _ _ h=>absurd h (no vs H Q E)⟩
theorem EN (F:Fun K "_law_true" "_law_true" DB f fd) (C:AM K mg "_law_true" f fd ["_law_sentence_here","_law_world"]):∀n:Nat,FnOk P w K mg bz AG n f fd ["_law_sentence_here","_law_world"] (Ds K n)
 | 0=>Ro
 | n+1=>M1 F (EN F C n) C
end
def Jn (K:PySem.W.Frag) (b:Bool):Sp:=fun vs H Q _=>∃(v:V) (t:Tr) (r:Addr) (row:List Int),vs=[v,.ref r]∧t.AtK K H v∧t.ok 5∧t.hgt<70∧SqL K H r (row.map V.int)∧row.length≤900∧∀(l:Addr) (H':Hp),Same H H'→H l=none→AJ H' l (row.filter fun k=>tv t k == b)→Q (.ref l) H'
section
theorem Px {g:Addr} {gd:FuncData} (F:Fun K "_law_ins" "_law_ins" HR f fd) (GT:FnOk P w K mg bz AG 70 g gd ["_law_sentence_here","_law_world"] (Ds K 70)) (CT:AM K mg "_law_true" g gd ["_law_sentence_here","_law_world"]):FnOk P w K mg bz AG 71 f fd ["_law_sentence_here","_law_row"] (Jn K true):=by
 refine F.ok Ps (fun vs H Q E h=>?_) (fun cdv A outer s H vs Q E hr h=>?_)
 ·obtain⟨v,t,r,row,rfl,_⟩:=h
  rfl
 obtain⟨v,t,r,row,rfl,ha,hok,hs,hS,hl,q⟩:=h
 refine⟨_,Ad (Ai (Bm (N:=["_law_world","_law_sentence_here"]) (js:=[none,some 0]) (cl:=[("_law_sentence_here",s.heap.objs.size+1)]) ⟨rfl,rfl,rfl,(by intro p hp;simp at hp;rcases hp with rfl<;>rfl),rfl,rfl,rfl⟩ (AW (pv 1)) (fun c1=>(AE (i:=0) (show (["_law_world","_law_sentence_here"]:List Str).Nodup by decide +kernel) rfl (Or.inl rfl))) (fun c1=>(BV (A1 (Ah GT hr (by rfl) CT.m CT.k CT.b .nil Ao (Aa (pv 1) (Aa (pv 0) Ab)))))) (fun c1=>(pv 0)))),?_⟩
 refine⟨_,rfl,r,rfl,⟨_,hS⟩,fun cc acc hacc=>Bw (p:=fun k=>tv t k == true) (rest:=[some v]) hS hacc hl (fun k hk H2 s2 R hR=>?_) (fun v0 H2 s2 h2=>q acc H2 s2 hacc h2) none⟩
 refine⟨_,rfl,_,rfl,v,t,k,rfl,ha.keep (TS.same s2),hok,hs,fun H3 s3=>⟨_,rfl,?_⟩⟩
 have:=hR H3 s3
 rw[show (tv t k == true)=tv t k by cases tv t k<;>rfl] at this
 exact this
theorem No {g:Addr} {gd:FuncData} (F:Fun K "_law_outs" "_law_outs" EI f fd) (GT:FnOk P w K mg bz AG 70 g gd ["_law_sentence_here","_law_world"] (Ds K 70)) (CT:AM K mg "_law_true" g gd ["_law_sentence_here","_law_world"]):FnOk P w K mg bz AG 71 f fd ["_law_sentence_here","_law_row"] (Jn K false):=by
 refine F.ok Me (fun vs H Q E h=>?_) (fun cdv A outer s H vs Q E hr h=>?_)
 ·obtain⟨v,t,r,row,rfl,_⟩:=h
  rfl
 obtain⟨v,t,r,row,rfl,ha,hok,hs,hS,hl,q⟩:=h
 refine⟨_,Ad (Ai (Bm (N:=["_law_world","_law_sentence_here"]) (js:=[none,some 0]) (cl:=[("_law_sentence_here",s.heap.objs.size+1)]) ⟨rfl,rfl,rfl,(by intro p hp;simp at hp;rcases hp with rfl<;>rfl),rfl,rfl,rfl⟩ (AW (pv 1)) (fun c1=>(AE (i:=0) (show (["_law_world","_law_sentence_here"]:List Str).Nodup by decide +kernel) rfl (Or.inl rfl))) (fun c1=>(BV (Bs (A1 (Ah GT hr (by rfl) CT.m CT.k CT.b .nil Ao (Aa (pv 1) (Aa (pv 0) Ab))))))) (fun c1=>(pv 0)))),?_⟩
 refine⟨_,rfl,r,rfl,⟨_,hS⟩,fun cc acc hacc=>Bw (p:=fun k=>tv t k == false) (rest:=[some v]) hS hacc hl (fun k hk H2 s2 R hR=>?_) (fun v0 H2 s2 h2=>q acc H2 s2 hacc h2) none⟩
 refine⟨_,rfl,_,rfl,v,t,k,rfl,ha.keep (TS.same s2),hok,hs,fun H3 s3=>⟨_,rfl,?_⟩⟩
 have:=hR H3 s3
 rw[show (tv t k == false) = !tv t k by cases tv t k<;>rfl] at this
 exact this
def Hf (K:PySem.W.Frag):Sp:=fun vs H Q _=>∃(r:Addr) (z:Str) (v:V) (t:Tr) (row:List Int),vs=[.ref r,v,.str z]∧t.AtK K H v∧t.ok 5∧t.hgt<70∧SqL K H r (row.map V.int)∧row.length≤900∧∀(l:Addr) (H':Hp),Same H H'→H l=none→AJ H' l (Di z row t)→Q (.ref l) H'
theorem NJ {g g2:Addr} {gd gd2:FuncData} (F:Fun K "_law_left" "_law_left" Fq f fd) (T:Fc mg) (GI:FnOk P w K mg bz AG 71 g gd ["_law_sentence_here","_law_row"] (Jn K true)) (CI:AM K mg "_law_ins" g gd ["_law_sentence_here","_law_row"])
  (GO:FnOk P w K mg bz AG 71 g2 gd2 ["_law_sentence_here","_law_row"] (Jn K false)) (CO:AM K mg "_law_outs" g2 gd2 ["_law_sentence_here","_law_row"]):FnOk P w K mg bz AG 72 f fd ["_law_row","_law_sentence_here","_law_said"] (Hf K):=by
 refine F.ok QG (fun vs H Q E h=>?_) (fun cdv A outer s H vs Q E hr h=>?_)
 ·obtain⟨r,z,v,t,row,rfl,_⟩:=h
  rfl
 obtain⟨r,z,v,t,row,rfl,ha,hok,hs,hS,hl,q⟩:=h
 refine⟨_,Ac (AB (Ak AN (pv 2) Aw (Ar _))
   (Ad (Ai (Ah GI hr (by rfl) CI.m CI.k CI.b .nil Ao (Aa (pv 1) (Aa (pv 0) Ab)))))
   Al)
  (Ac (AB (Ak AN (pv 2) Aw (Ar _))
   (Ad (Ai (Ah GO hr (by rfl) CO.m CO.k CO.b .nil Ao (Aa (pv 1) (Aa (pv 0) Ab)))))
   Al)
  (Ad (Ai (AQ AX (by rfl) T.lst Ba (Aa (pv 0) Ab))))),?_⟩
 unfold Di at q
 refine⟨_,rfl,rfl,_,rfl,?_⟩
 by_cases h0:z="grant"
 ·refine Bc (by rw[h0]) ?_
  simp only[if_pos h0] at q
  exact⟨_,rfl,_,rfl,v,t,r,row,rfl,ha,hok,hs,hS,hl,fun l H' s' hl0 hr'=>q l H' s' hl0 hr'⟩
 refine A0 (fun e=>h0 (by injection e)) ?_
 simp only[if_neg h0] at q
 refine⟨_,rfl,rfl,_,rfl,?_⟩
 by_cases h1:z="deny"
 ·refine Bc (by rw[h1]) ?_
  simp only[if_pos h1] at q
  exact⟨_,rfl,_,rfl,v,t,r,row,rfl,ha,hok,hs,hS,hl,fun l H' s' hl0 hr'=>q l H' s' hl0 hr'⟩
 refine A0 (fun e=>h1 (by injection e)) ?_
 simp only[if_neg h1] at q
 exact⟨_,rfl,r,_,rfl,.inl hS,fun l hl0=>q l _ (Af hl0 _) hl0 upd_same⟩
end
theorem On {many:Nat} {z rule:Str} {t:Tr} {room:List Int} {es:List (V×Tr×Str)} {bas:List Int} {ls:List (List Int)}:(tw many z rule t room es bas ls).going=if rule="elder" then (tw many z rule t room es bas ls).held else bas:=rfl
abbrev Dh:Stmt:=By 75
def Ix (K:PySem.W.Frag) (C:Addr):Sp:=fun vs H Q _=>∃(x l sn sd hl:Addr) (N:List Addr) (U:Tk) (many:Nat) (z rule:Str) (t:Tr) (room:List Int) (es:List (V×Tr×Str)) (bas:List Int) (ls:List (List Int)) (seen h0:List Int) (xs sxs:List V) (us:List Tr),
 vs=[.ref x,.ref l,.ref sn,.ref sd,.ref hl]∧TalkAt N C H x U (tw many z rule t room es bas ls)∧Full N H∧es.length≤300∧ls.length≤300∧many≤5∧rule≠"elder"∧AJ H sn seen∧seen.Sublist room∧seen≠[]∧H l=some (.lst xs)∧PileK K H xs us∧(∀u∈us,u.ok many∧u.size≤800∧u.hgt<70)∧us.length≤100∧SqL K H sd sxs∧RowsAt H sxs (As z t room)∧AJ H hl h0∧(tw many z rule t room es bas ls).held=h0∧Ky (As z t room) bas seen h0 us∧∀H',Same H H'→Q (.bl true) H'
section
variable {cK cS cO:Addr}
theorem scLwalked:Aq ["_law_talk","_law_row","_law_seen_here","_law_sides_here","_law_held","_law_twin","_law_asked_here"] ["_law_talk","_law_row","_law_seen_here","_law_sides_here","_law_held"] (Ae Dh):=Bx
theorem Lu {fS fL m5 m7 m9:Addr} {dS dL e5 e7 e9:FuncData} (F:Fun K "_law_walked" "_law_walked" Dh f fd) (B:Bl mg) (TX:JX K cK)
  (GS:FnOk P w K mg bz AG 1 fS dS ["_law_sides_here","_law_row"] (HS K)) (CS:AM K mg "_law_stands" fS dS ["_law_sides_here","_law_row"])
  (GL:FnOk P w K mg bz AG 72 fL dL ["_law_row","_law_sentence_here","_law_said"] (Hf K)) (CL:AM K mg "_law_left" fL dL ["_law_row","_law_sentence_here","_law_said"])
  (G5:FnOk P w K mg bz AG 7 m5 e5 ["self"] (MO cK)) (C5:BQ K cK "fork" m5 e5 ["self"])
  (G7:FnOk P w K mg bz AG 5 m7 e7 ["self"] (Ey cK)) (C7:BQ K cK "caught" m7 e7 ["self"])
  (G9:FnOk P w K mg bz (EG P w) 7 m9 e9 ["self","sentence","seen"] (L1 K cK cS cO)) (C9:BQ K cK "say" m9 e9 ["self","sentence","seen"]):FnOk P w K mg bz AG 73 f fd ["_law_talk","_law_row","_law_seen_here","_law_sides_here","_law_held"] (Ix K cK):=by
 refine F.ok scLwalked (fun vs H Q E h=>?_) (fun cdv A outer s H vs Q E hr h=>?_)
 ·obtain⟨x,l,sn,sd,hl,N,U,many,z,rule,t,room,es,bas,ls,seen,h0,xs,sxs,us,rfl,_⟩:=h
  rfl
 obtain⟨x,l,sn,sd,hl0,N,U,many,z,rule,t,room,es,bas,ls,seen,h0,xs,sxs,us,rfl,hT,hF,les,lls,hm5,hrule,hN,nsub,nne,hl,hP,hus,ul,hSd,hX,hh0,eh0,hW,q⟩:=h
 have hr1:Room 1 _:=hr.mono (by decide)
 have hr5:Room 5 _:=hr.mono (by decide)
 have hr7:Room 7 _:=hr.mono (by decide)
 have hr72:Room 72 _:=hr.mono (by decide)
 have wroom:Wr room:=hT.wr
 have wseen:=wroom.sub nsub
 have lroom:=wroom.len
 have lS:∀s∈As z t room,s.length≤900:=fun s hs=>by have:=(Bi hs).length_le;omega
 have xul:=hP.len
 refine⟨_,Ac (Az (i:=5) scLwalked.nd rfl (Or.inl rfl) (Bj (pv 0) TX.cl C5.m G5 hr7 C5.b .nil Ao))
  (Ac (BR PassesOwn.never rfl (AW (pv 1)) (AE (i:=6) scLwalked.nd rfl (Or.inl rfl))
   (Ac (AB (Bs (A1 (Ah GS hr1 (by rfl) CS.m CS.k CS.b .nil Ao (Aa (pv 3) (Aa (pv 4) Ab)))))
    (Ad (Ai BA))
    Al)
   (Ad (Az (i:=4) scLwalked.nd rfl (Or.inl rfl) (Ah GL hr72 (by rfl) CL.m CL.k CL.b .nil Ao (Aa (pv 4) (Aa (pv 6) (Aa (Gr (pv 5) TX.cl C9.m G9 hr7 C9.b .nil HJ (Aa (pv 6) (Aa (pv 2) Ab))) Ab))))))))
  (Ad (Ai (BE (DD (Ah GS hr1 (by rfl) CS.m CS.k CS.b .nil Ao (Aa (pv 3) (Aa (pv 4) Ab)))) (Bk (Be SL (Bj (pv 5) TX.cl C7.m G7 hr5 C7.b .nil Ao) BA (Ar _))))))),?_⟩
 refine⟨_,rfl,x,_,_,rfl,hT.ob,QQ,x,N,U,_,rfl,hT,hF,fun b Ub H1 s1 hb0 bg0 bl0 Tb=>?_⟩
 generalize hbg:Ub.gv=bg at *
 generalize hbl:Ub.lf=bl at *
 obtain⟨M2,hM2⟩:∃M2,M2=b::bg::bl::N:=⟨_,rfl⟩
 rw[←hM2] at Tb
 have full1:Full M2 H1:=fun m hm=>by
  have g1:=Tb.gv
  have g2:=Tb.lf
  rw[hbg] at g1
  rw[hbl] at g2
  rw[hM2] at hm
  rcases List.mem_cons.mp hm with rfl | hm
  ·rw[Tb.ob];exact fun z=>by cases z
  rcases List.mem_cons.mp hm with rfl | hm
  ·rw[g1];exact fun z=>by cases z
  rcases List.mem_cons.mp hm with rfl | hm
  ·rw[g2];exact fun z=>by cases z
  ·exact hF.keep s1 m hm
 have bgM:bg∈M2:=by rw[hM2];simp
 have blM:bl∈M2:=by rw[hM2];simp
 have gl1:∀gs,H1 bg=some (.lst gs)→gs.length≤300+0:=fun gs hg=>by
  have g1:=Tb.gv
  rw[hbg,hg] at g1
  cases g1
  rw[Paired.length Tb.en]
  exact les
 refine⟨_,rfl,l,rfl,⟨_,SqL.of (s1 _ _ hl)⟩,A4 (K:=K) (a:=l) (xs:=xs) (fun i σ Hj=>∃(vA:Option V) (hl':Addr) (h:List Int) (U':Tk) (ls':List (List Int)),σ=[some (.ref x),some (.ref l),some (.ref sn),some (.ref sd),some (.ref hl'),some (.ref b),vA]∧Same H Hj∧TalkN M2 cK Hj b U' (tw many z rule t room es bas ls')∧U'.gv=bg∧U'.lf=bl∧Full M2 Hj∧(∀gs,Hj bg=some (.lst gs)→gs.length≤300+i)∧ls'.length=ls.length+i∧(tw many z rule t room es bas ls').held=h∧AJ Hj hl' h∧hl'≠bg∧hl'≠bl∧Ky (As z t room) bas seen h (us.drop i))
  ⟨_,hl0,h0,Ub,ls,rfl,s1,Tb.toN,hbg,hbl,full1,gl1,rfl,eh0,s1 _ _ hh0,fun z=>(by
   have e:H hl0=some (.lst (h0.map V.int)):=hh0
   rw[z,bg0] at e
   cases e),fun z=>(by
   have e:H hl0=some (.lst (h0.map V.int)):=hh0
   rw[z,bl0] at e
   cases e),hW⟩ ?_ ?_ ?_⟩
 ·rintro i σ Hj _ ⟨vA,hl',h,U',ls',rfl,sj,_⟩
  exact SqL.of (sj _ _ hl)
 ·rintro i y σ Hj hy ⟨vA,hl',h,U',ls',rfl,sj,Tj,eg',el',fj,gj,lls',hh,hhl,hlg,hll,hWi⟩
  obtain⟨u,hu,hat⟩:=hP.get hy
  have hiu:i<us.length:=(List.getElem?_eq_some_iff.mp hu).1
  obtain⟨hoku,hszu,hhgu⟩:=hus u (List.mem_of_getElem? hu)
  have ed:us.drop i=u::us.drop (i+1):=by
   rw[List.drop_eq_getElem_cons hiu]
   have:=(List.getElem?_eq_some_iff.mp hu).2
   rw[this]
  rw[ed] at hWi
  obtain⟨hst,hdue,hWn⟩:=hWi
  have hsub':h.Sublist room:=by rw[←hh];exact Tj.1.held_sub
  have lh:h.length≤900:=by have:=hsub'.length_le;omega
  refine⟨_,rfl,_,rfl,sd,hl',h,sxs,_,rfl,SqL.of hhl,lh,sj.seq hSd,hX.keep sj,lS,fun H30 s30=>⟨_,rfl,?_⟩⟩
  rw[hst]
  refine A8 ?_
  have sj30:=sj.trans s30
  have T30:TalkN M2 cK H30 b U' (tw many z rule t room es bas ls'):=Tj.keep s30
  have f30:=fj.keep s30
  have hhl30:=s30 _ _ hhl
  have gj30:∀gs,H30 bg=some (.lst gs)→gs.length≤300+i:=fun gs hg=>by
   obtain⟨gs0,hg0,_⟩:=Tj.2
   rw[eg'] at hg0
   have e1:=s30 _ _ hg0
   rw[hg] at e1
   cases e1
   exact gj gs hg0
  have hat30:u.AtK K H30 y:=hat.same sj30
  refine⟨_,rfl,_,rfl,_,rfl,b,_,_,rfl,T30.ob,Pm,_,rfl,_,rfl,b,sn,y,M2,U',_,u,seen,rfl,T30,f30,hat30,Tr.ok.mono hm5 hoku,hszu,SqL.of (sj30 _ _ hN),wseen,nne,fun gs hg=>(by rw[eg'] at hg;have:=gj30 gs hg;omega),by show ls'.length+1<900;omega,rfl,hoku,fun U2 H41 b41 eg2 el2 kk41 gg41 T41=>?_⟩
  have eA:=Oy (many:=many) (z:=z) (rule:=rule) (t:=t) (es:=es) (bas:=bas) (ls:=ls') (u:=u) Tj.1.going_sub nsub
  rw[eA,On,if_neg hrule,hdue] at T41 ⊢
  have T41:TalkN M2 cK H41 b U2 (tw many z rule t room es bas (ls'++[B2 "grant" (tw many z rule t room es bas ls').held (AL true u room)])):=T41
  rw[hh,MI hsub'] at T41
  have ts41:TS H30 H41:=fun p ys e=>b41.at e fun hm=>by
   simp only[List.mem_cons,List.not_mem_nil,or_false] at hm
   rcases hm with rfl | rfl
   ·obtain⟨gs0,hg0,_⟩:=T30.2
    rw[e] at hg0
    cases hg0
   ·rw[T30.lf] at e
    cases e
  have hhl41:AJ H41 hl' h:=b41.at hhl30 (by
   simp only[List.mem_cons,List.not_mem_nil,or_false,eg',el']
   rintro (z | z)
   ·exact hlg z
   ·exact hll z)
  refine⟨hl',"grant",y,u,h,rfl,hat30.keep ts41,Tr.ok.mono hm5 hoku,hhgu,SqL.of hhl41,lh,fun l2 H42 s42 l20 hl2=>?_⟩
  have f41:Full M2 H41:=fun m hm=>kk41 m (f30 m hm)
  have s2842:Same H H42:=(But.same (fun m hm=>by
   simp only[List.mem_cons,List.not_mem_nil,or_false,eg',el'] at hm
   rcases hm with rfl | rfl
   ·exact bg0
   ·exact bl0) sj30 b41).trans s42
  have elf:Di "grant" h u=AL true u h:=by unfold Di;rw[if_pos rfl]
  rw[elf] at hl2 T41
  refine⟨some y,l2,_,U2,_,rfl,s2842,T41.keep s42,eg2.trans eg',el2.trans el',f41.keep s42,fun gs hg=>?_,by rw[List.length_append,lls'];rfl,?_,hl2,fun z=>f41 bg bgM (z ▸ l20),fun z=>f41 bl blM (z ▸ l20),hWn⟩
  ·obtain⟨gs0,hg0,_⟩:=T30.2
   obtain⟨x0,hx0⟩:=gg41 gs0 hg0
   have hx1:=s42 _ _ hx0
   rw[eg'] at hx1 hg0
   rw[hg] at hx1
   cases hx1
   have:=gj30 gs0 hg0
   rw[List.length_append]
   show gs0.length+1≤_
   omega
  ·show (bas::(ls'++[_])).getLastD []=_
   rw[←List.cons_append,EA]
 ·rintro σ Hj ⟨vA,hl',h,U',ls',rfl,sj,Tj,eg',el',fj,gj,lls',hh,hhl,hlg,hll,hWi⟩
  rw[xul,List.drop_length] at hWi
  have hno:Ay (As z t room) h=false:=hWi
  have hsub':h.Sublist room:=by rw[←hh];exact Tj.1.held_sub
  have lh:h.length≤900:=by have:=hsub'.length_le;omega
  refine⟨_,rfl,_,rfl,sd,hl',h,sxs,_,rfl,SqL.of hhl,lh,sj.seq hSd,hX.keep sj,lS,fun H30 s30=>⟨_,rfl,?_⟩⟩
  rw[hno]
  refine⟨_,rfl,Bq ?_⟩
  have T30:TalkN M2 cK H30 b U' (tw many z rule t room es bas ls'):=Tj.keep s30
  refine⟨_,rfl,b,_,_,rfl,T30.ob,Im,b,M2,U',_,rfl,T30,fun H31 s31=>?_⟩
  have e:(!Ay (tw many z rule t room es bas ls').sides (tw many z rule t room es bas ls').held)=true:=by
   show (!Ay (As z t room) (tw many z rule t room es bas ls').held)=true
   rw[hh,hno]
   rfl
  rw[e]
  exact⟨_,_,rfl,rfl,q _ (sj.trans (s30.trans s31))⟩
end
theorem Nx (xs:List V) (m:Nat) (h:m≤xs.length):Ct xs none (some (m:Int))=xs.take m:=by
 unfold Ct
 rw[HT.sIx_none,HT.sIx_nat,Nat.min_eq_left h]
 rfl
theorem EW:∀t:Tr,t.hgt≤t.size
 | .lt _=>Nat.zero_le _
 | .nt t=>Nat.succ_le_succ (EW t)
 | .bn _ a b=>by
  have h1:=EW a
  have h2:=EW b
  show max a.hgt b.hgt+1≤a.size+b.size+1
  omega
theorem PM {i j:Nat} {n:Int} {σ:L2.St} {H:Hp} {N:L2.St→Hp→Prop} (e:n=(j:Int)) (h:Dd i (.int (j:Int)) σ H N):Dd i (.int n) σ H N:=by
 rw[e]
 exact h
def S9 (bas:List Int) (es:List (Tr×Str)):List Int:=es.foldl (fun h e=>Di e.2 h e.1) bas
theorem MH {bas:List Int} {es:List (Tr×Str)} {e:Tr×Str}:S9 bas (es++[e])=Di e.2 (S9 bas es) e.1:=by
 unfold S9
 rw[List.foldl_append]
 rfl
theorem K0:∀(es:List (Tr×Str)) (bas:List Int),(S9 bas es).Sublist bas
 | [],_=>List.Sublist.refl _
 | e::es,bas=>(K0 es (Di e.2 bas e.1)).trans (MQ e.2 bas e.1)
def LeastC (S:List (List Int)) (h seen:List Int) (n:Nat):Prop:=(Ay S h=false∧n=0)∨(Ay S h=true∧∃s,s∈S∧Bt s (DA s h) seen≠[]∧n=(Bt s (DA s h) seen).length∧∀s'∈S,Bt s' (DA s' h) seen≠[]→n≤(Bt s' (DA s' h) seen).length)
theorem LeastC.uniq {S:List (List Int)} {h seen:List Int} {n m:Nat} (a:LeastC S h seen n) (b:LeastC S h seen m):n=m:=by
 rcases a with⟨a1,a2⟩|⟨a1,s,a2,a3,a4,a5⟩<;>rcases b with⟨b1,b2⟩|⟨b1,s',b2,b3,b4,b5⟩
 ·rw[a2,b2]
 ·rw[a1] at b1;cases b1
 ·rw[a1] at b1;cases b1
 ·have h1:=a5 s' b2 b3
  have h2:=b5 s a2 a3
  omega
def Kz (K:PySem.W.Frag) (H H':Hp) (many:Nat) (rule:Str) (S:List (List Int)) (bas seen h:List Int) (fv:V):Prop:=
 (fv= .non∧Ay S h=true∧(rule="elder"∨∀s∈S,Bt s (DA s h) seen=[]))∨
 (rule≠"elder"∧∃(l:Addr) (xs:List V) (us:List Tr),fv= .ref l∧H l=none∧H' l=some (.lst xs)∧PileK K H' xs us∧(∀u∈us,u.ok many∧u.size≤800∧u.hgt≤50)∧us.length≤2∧Ky S bas seen h us∧(us=[]↔Ay S h=false)∧LeastC S h seen us.length)
theorem HF {α β:Type} {R:α→β→Prop}:∀{xs:List α} {ys:List β},Paired R xs ys→∀y∈ys,∃x∈xs,R x y
 | _,_,.nil,_,h=>by cases h
 | _,_,.cons r q,y,h=>by
  rcases List.mem_cons.mp h with rfl | h
  ·exact⟨_,List.mem_cons_self,r⟩
  ·obtain⟨x,hx,hr⟩:=HF q y h
   exact⟨x,List.mem_cons_of_mem _ hx,hr⟩
theorem HN {α β:Type} {R R':α→β→Prop} (f:∀x y,R x y→R' x y):∀{xs:List α} {ys:List β},Paired R xs ys→Paired R' xs ys
 | _,_,.nil=>.nil
 | _,_,.cons r q=>.cons (f _ _ r) (HN f q)
theorem LW {K:PySem.W.Frag} {C x:Addr} {N:List Addr} {U:Tk} {many:Nat} {z rule:Str} {t:Tr} {room:List Int} {es:List (V×Tr×Str)} {bas:List Int} {ls:List (List Int)} {seen h:List Int} {H:Hp}
  (hT:TalkAt N C H x U (tw many z rule t room es bas ls)) (hh:(tw many z rule t room es bas ls).held=h) (nsub:seen.Sublist room) (hns:[]∉As z t room) (hbas:BM room (As z t room)=bas) (hrm:∀k∈room,0≤k∧k<2^many) (wroom:Wr room)
  (hE:rule="elder"→Ay (As z t room) h=true) {Q:V→Hp→Prop} (q:∀(fv:V) (H':Hp),Same H H'→Kz K H H' many rule (As z t room) bas seen h fv→Q fv H') :
  (Ay (tw many z rule t room es bas ls).sides (tw many z rule t room es bas ls).held=false→∀(l:Addr) (H':Hp),Same H H'→H l=none→H' l=some (.lst [])→Q (.ref l) H')∧
  (Ay (tw many z rule t room es bas ls).sides (tw many z rule t room es bas ls).held=true→(rule="elder"∨Ib (tw many z rule t room es bas ls) seen=[])→∀H',Same H H'→Q .non H')∧
  (Ay (tw many z rule t room es bas ls).sides (tw many z rule t room es bas ls).held=true→rule≠"elder"→∀p∈Ib (tw many z rule t room es bas ls) seen,(∀p'∈Ib (tw many z rule t room es bas ls) seen,p.length≤p'.length)→∀(l:Addr) (xs:List V) (ts:List Tr) (H':Hp),Same H H'→H l=none→H' l=some (.lst xs)→PileK K H' xs ts→Paired (fun (part:List Int) (t:Tr)=>K6 many 12 283 t∧∀w:Int,0≤w→w<2^many→tv t w=decide (w∈Cn room part)) p ts→Q (.ref l) H'):=by
 have eS:(tw many z rule t room es bas ls).sides=As z t room:=rfl
 have hsub:h.Sublist room:=by rw[←hh];exact hT.held_sub
 have catm:∀p,p∈Ib (tw many z rule t room es bas ls) seen↔∃s∈As z t room,p=Bt s (DA s h) seen∧p≠[]:=fun p=>by
  unfold Ib
  rw[eS,hh,List.mem_filter,List.mem_map]
  constructor
  ·rintro⟨⟨s,hs,rfl⟩,hne⟩
   refine⟨s,hs,rfl,fun e=>?_⟩
   rw[e] at hne
   cases hne
  ·rintro⟨s,hs,rfl,hne⟩
   refine⟨⟨s,hs,rfl⟩,?_⟩
   cases hq:Bt s (DA s h) seen with
   | nil=>exact absurd hq hne
   | cons _ _=>rfl
 refine⟨fun h1 l H' s' l0 hl=>?_,fun h1 hc H' s'=>?_,fun h1 hE' p hp hmin l xs ts H' s' l0 hl hP hF=>?_⟩
 ·rw[eS,hh] at h1
  refine q _ H' s' (.inr ⟨fun e=>(by rw[hE e] at h1;cases h1),l,[],[],rfl,l0,hl,.nil,fun u hu=>(by simp at hu),Nat.zero_le _,h1,⟨fun _=>h1,fun _=>rfl⟩,.inl ⟨h1,rfl⟩⟩)
 ·rw[eS,hh] at h1
  refine q _ H' s' (.inl ⟨rfl,h1,?_⟩)
  rcases hc with hc | hc
  ·exact .inl hc
  ·refine .inr fun s hs=>Classical.byContradiction fun hne=>?_
   have:=(catm _).mpr ⟨s,hs,rfl,hne⟩
   rw[hc] at this
   cases this
 ·rw[eS,hh] at h1
  obtain⟨s,hs,rfl,hpne⟩:=(catm p).mp hp
  have hl2:ts.length≤2:=by
   rw[←Paired.length hF]
   exact NM
  refine q _ H' s' (.inr ⟨hE',l,xs,ts,rfl,l0,hl,hP,fun u hu=>?_,hl2,?_,⟨fun e=>?_,fun e=>?_⟩,.inr ⟨h1,s,hs,hpne,(Paired.length hF).symm,fun s2 hs2 hne2=>?_⟩⟩)
  ·obtain⟨_,_,hfit,_⟩:=HF hF u hu
   exact⟨hfit.ok,Nat.le_trans hfit.size (by decide),Nat.le_trans hfit.hgt (by decide)⟩
  ·rw[←hbas]
   refine LN hs hns nsub (fun k hk=>hsub.subset hk) h1 ((wroom.sub (Bi hs)).1) hpne (HN (fun part u hr k hk=>?_) hF)
   rw[hr.2 k (hrm k hk).1 (hrm k hk).2]
   show decide (k∈Cn room part)=_
   unfold Cn
   rw[Bool.eq_iff_iff,decide_eq_true_eq,List.mem_filter]
   exact⟨fun h=>h.2,fun h=>⟨hk,h⟩⟩
  ·rw[e] at hF
   have:=Paired.length hF
   exact absurd (List.length_eq_zero_iff.mp this) hpne
  ·rw[h1] at e
   cases e
  ·rw[←Paired.length hF]
   exact hmin _ ((catm _).mpr ⟨s2,hs2,rfl,hne2⟩)
abbrev JN:Stmt:=By 76
def MN (K:PySem.W.Frag):Sp:=fun vs H Q _=>∃(a:Addr) (ns:List Int),vs=[.ref a]∧SqL K H a (ns.map V.int)∧ns.length≤63∧∀H',Q (.bl true) H'
section
variable {cK:Addr}
theorem scLaw:Aq ["_law_script","_law_many","_law_room_here","_law_kind_here","_law_sentence_here","_law_rule_here","_law_sides_here","_law_base_here","_law_outside","_law_seen_here","_law_asks_here","_law_first","_law_talk","_law_asked_here","_law_entries","_law_held","_law_given","_law_handed","_law_found","_law_again"] ["_law_script"] (Ae JN):=Bx
theorem Sw {fN fM fT fV fD fB fE fA fP fL fS fX fO fG fK fI m6 m2 m9 cS cB cN cO:Addr} {dN dM dT dV dD dB dE dA dP dL dS dX dO dG dK dI e6 e2 e9:FuncData} (F:Fun K "law" "law" JN f fd) (B:Bl mg) (T:Fc mg) (TX:JX K cK)
  (GN:FnOk P w K mg bz AG 1 fN dN ["_law_script","_law_k"] (JV K)) (CN:AM K mg "_law_num" fN dN ["_law_script","_law_k"])
  (GM:FnOk P w K mg bz AG 1 fM dM ["_law_n"] R4) (CM:AM K mg "_law_few" fM dM ["_law_n"])
  (GT:FnOk P w K mg bz AG 63 fT dT ["_law_script","_law_many"] (Mc K)) (CT:AM K mg "_law_start" fT dT ["_law_script","_law_many"])
  (GV:FnOk P w K mg bz AG 2 fV dV ["_law_script"] (MK K)) (CV:AM K mg "_law_rule" fV dV ["_law_script"])
  (GD:FnOk P w K mg bz AG 62 fD dD ["_law_room_here","_law_kind_here","_law_sentence_here"] (Md K)) (CD:AM K mg "_law_sides" fD dD ["_law_room_here","_law_kind_here","_law_sentence_here"])
  (GB:FnOk P w K mg bz AG 1 fB dB ["_law_room_here","_law_sides_here"] (Qs K)) (CB:AM K mg "_law_base" fB dB ["_law_room_here","_law_sides_here"])
  (GE:FnOk P w K mg bz AG 3 fE dE ["_law_n","_law_room_here"] (Cz K)) (CE:AM K mg "_law_seen" fE dE ["_law_n","_law_room_here"])
  (GA:FnOk P w K mg bz AG 3 fA dA ["_law_script","_law_start_here","_law_many","_law_first"] (Ml K)) (CA:AM K mg "_law_asks" fA dA ["_law_script","_law_start_here","_law_many","_law_first"])
  (GP:FnOk P w K mg bz AG 6 fP dP ["talk","seen"] (Io K cK)) (CP:AM K mg "catch_by" fP dP ["talk","seen"])
  (GL:FnOk P w K mg bz AG 72 fL dL ["_law_row","_law_sentence_here","_law_said"] (Hf K)) (CL:AM K mg "_law_left" fL dL ["_law_row","_law_sentence_here","_law_said"])
  (GS:FnOk P w K mg bz AG 1 fS dS ["_law_sides_here","_law_row"] (HS K)) (CS:AM K mg "_law_stands" fS dS ["_law_sides_here","_law_row"])
  (GX:FnOk P w K mg bz AG 1 fX dX ["_law_found"] (L0 K)) (CX:AM K mg "_law_small" fX dX ["_law_found"])
  (GO:FnOk P w K mg bz AG 71 fO dO ["_law_found","_law_many","_law_deep"] (FE K 70)) (CO:AM K mg "_law_good" fO dO ["_law_found","_law_many","_law_deep"])
  (GG:FnOk P w K mg bz AG 26 fG dG ["_law_found","_law_due"] (KT K)) (CG:AM K mg "_law_pairs_are" fG dG ["_law_found","_law_due"])
  (GK:FnOk P w K mg bz AG 73 fK dK ["_law_talk","_law_row","_law_seen_here","_law_sides_here","_law_held"] (Ix K cK)) (CK:AM K mg "_law_walked" fK dK ["_law_talk","_law_row","_law_seen_here","_law_sides_here","_law_held"])
  (GI:FnOk P w K mg bz (EG P w) 5 fI dI ["self","many","room","kind","sentence","rule"] (Jj cK cS cB cN)) (CI:SU K mg cK "Talk" fI dI ["self","many","room","kind","sentence","rule"])
  (G6:FnOk P w K mg bz AG 1 m6 e6 ["self"] (Hw cK)) (C6:BQ K cK "entries" m6 e6 ["self"])
  (G2:FnOk P w K mg bz AG 1 m2 e2 ["self"] (Ju cK)) (C2:BQ K cK "held" m2 e2 ["self"])
  (G9:FnOk P w K mg bz (EG P w) 7 m9 e9 ["self","sentence","seen"] (N9 K cK cS cO)) (C9:BQ K cK "say" m9 e9 ["self","sentence","seen"]):FnOk P w K mg bz AG 74 f fd ["_law_script"] (MN K):=by
 refine F.ok scLaw (fun vs H Q E h=>?_) (fun cdv A outer s H vs Q E hr h=>?_)
 ·obtain⟨a,ns,rfl,_⟩:=h
  rfl
 obtain⟨a,ns,rfl,hS,h63,q⟩:=h
 have hr1:Room 1 _:=hr.mono (by decide)
 have hr2:Room 2 _:=hr.mono (by decide)
 have hr3:Room 3 _:=hr.mono (by decide)
 have hr6:Room 6 _:=hr.mono (by decide)
 have hr7:Room 7 _:=hr.mono (by decide)
 have hr62:Room 62 _:=hr.mono (by decide)
 have hr63:Room 63 _:=hr.mono (by decide)
 have hr72:Room 72 _:=hr.mono (by decide)
 have hr26:Room 26 _:=hr.mono (by decide)
 have hr71:Room 71 _:=hr.mono (by decide)
 have hr73:Room 73 _:=hr.mono (by decide)
 refine⟨_,Ac (Az (i:=1) scLaw.nd rfl (Or.inr rfl) (Ah GM hr1 (by rfl) CM.m CM.k CM.b .nil Ao (Aa (Ah GN hr1 (by rfl) CN.m CN.k CN.b .nil Ao (Aa (pv 0) (Aa Ag Ab))) Ab)))
  (Ac (SS (Ah GT hr63 (by rfl) CT.m CT.k CT.b .nil Ao (Aa (pv 0) (Aa (pv 1) Ab))) (LT rfl (Ck (AE (i:=2) scLaw.nd rfl (Or.inl rfl)) (Ck (AE (i:=3) scLaw.nd rfl (Or.inl rfl)) (Ck (AE (i:=4) scLaw.nd rfl (Or.inl rfl)) Jf)))))
  (Ac (Az (i:=5) scLaw.nd rfl (Or.inl rfl) (Ah GV hr2 (by rfl) CV.m CV.k CV.b .nil Ao (Aa (pv 0) Ab)))
  (Ac (Az (i:=6) scLaw.nd rfl (Or.inl rfl) (Ah GD hr62 (by rfl) CD.m CD.k CD.b .nil Ao (Aa (pv 2) (Aa (pv 3) (Aa (pv 4) Ab)))))
  (Ac (Az (i:=7) scLaw.nd rfl (Or.inr rfl) (Ah GB hr1 (by rfl) CB.m CB.k CB.b .nil Ao (Aa (pv 2) (Aa (pv 6) Ab))))
  (Ac (HL (i:=8) scLaw.nd rfl (Or.inl rfl) (N:=["_law_world","_law_base_here"]) (js:=[none,some 7]) (cl:=[("_law_base_here",s.heap.objs.size+2)]) ⟨rfl,rfl,rfl,(by intro p hp;simp at hp;rcases hp with rfl<;>rfl),rfl,rfl,rfl⟩ (AW (pv 2)) (fun c1=>(AE (i:=0) (show (["_law_world","_law_base_here"]:List Str).Nodup by decide +kernel) rfl (Or.inl rfl))) (fun c1=>(BV (Ak B5 (pv 0) (pv 1) (by with_unfolding_all rfl)))) (fun c1=>(pv 0)))
  (Ac (Az (i:=9) scLaw.nd rfl (Or.inl rfl) (Ah GE hr3 (by rfl) CE.m CE.k CE.b .nil Ao (Aa (Ah GN hr1 (by rfl) CN.m CN.k CN.b .nil Ao (Aa (pv 0) (Aa Ag Ab))) (Aa (pv 2) Ab))))
  (Ac (AB (Jt (Ak (Js hr.units0) (pv 8) (AK Ab) (Ar _)) (Gz (Ak AN (AD A6 (Ah GN hr1 (by rfl) CN.m CN.k CN.b .nil Ao (Aa (pv 0) (Aa Ag Ab))) Ag) Ag (Ar _)))).pt
   (Ad (Az (i:=9) scLaw.nd rfl (Or.inl rfl) (Ah GE hr3 (by rfl) CE.m CE.k CE.b .nil Ao (Aa (Ah GN hr1 (by rfl) CN.m CN.k CN.b .nil Ao (Aa (pv 0) (Aa Ag Ab))) (Aa (pv 8) Ab)))))
   Al)
  (Ac (Az (i:=10) scLaw.nd rfl (Or.inl rfl) (Ah GA hr3 (by rfl) CA.m CA.k CA.b .nil Ao (Aa (pv 0) (Aa Ag (Aa (pv 1) (Aa (pv 4) Ab))))))
  (Ac (Az (i:=11) scLaw.nd rfl (Or.inl rfl) (AD A6 (AD A6 (Ah GN hr1 (by rfl) CN.m CN.k CN.b .nil Ao (Aa (pv 0) (Aa Ag Ab))) Ag) (AD Ch (Av Au (by rfl) B.len PySem.boot_len (Aa (pv 10) Ab)) Ag)))
  (Ac (Az (i:=12) scLaw.nd rfl (Or.inl rfl) (Mi CI.make GI hr6 (by rfl) CI.m CI.b .nil HJ (Aa (pv 1) (Aa (pv 2) (Aa (pv 3) (Aa (pv 4) (Aa (pv 5) Ab)))))))
  (Ac (BR PassesOwn.never rfl (AW (DQ JG (pv 10) Fd (E8 (pv 11)))) (AE (i:=13) scLaw.nd rfl (Or.inl rfl))
   (Ad (AU (Gr (pv 12) TX.cl C9.m G9 hr7 C9.b .nil HJ (Aa (pv 13) (Aa (pv 9) Ab))))))
  (Ac (Az (i:=14) scLaw.nd rfl (Or.inl rfl) (Bj (pv 12) TX.cl C6.m G6 hr1 C6.b .nil Ao))
  (Ac (Az (i:=15) scLaw.nd rfl (Or.inl rfl) (pv 7))
  (Ac (BR PassesOwn.never rfl (AW (pv 14)) (LT rfl (Ck (AE (i:=13) scLaw.nd rfl (Or.inl rfl)) (Ck (AE (i:=16) scLaw.nd rfl (Or.inl rfl)) Jf)))
   (Ad (Az (i:=15) scLaw.nd rfl (Or.inl rfl) (Ah GL hr72 (by rfl) CL.m CL.k CL.b .nil Ao (Aa (pv 15) (Aa (pv 13) (Aa (pv 16) Ab)))))))
  (Ac (Az (i:=17) scLaw.nd rfl (Or.inl rfl) (AQ AX (by rfl) T.lst Ba (Aa (pv 9) Ab)))
  (Ac (Az (i:=18) scLaw.nd rfl (Or.inl rfl) (Ah GP hr6 (by rfl) CP.m CP.k CP.b .nil Ao (Aa (pv 12) (Aa (pv 17) Ab))))
  (Ac (AB (De (Ak (O7 hr.units9) (pv 17) (pv 9) (Ar _)) (De (Bs (A1 (Ah GG hr26 (by rfl) CG.m CG.k CG.b .nil Ao (Aa (Bj (pv 12) TX.cl C6.m G6 hr1 C6.b .nil Ao) (Aa (pv 14) Ab))))) (Dw (Ak (O7 hr.units9) (Bj (pv 12) TX.cl C2.m G2 hr1 C2.b .nil Ao) (pv 15) (Ar _))))).pt
   (Ad (Ai BA))
   Al)
  (Ac (AB (De (Ak AN (pv 5) Aw (Ar _)) (Dw (Oo (JE (pv 18))))).pt
   (Ad (Ai (BE (PH (JE (pv 18))) (Bk (Ah GS hr1 (by rfl) CS.m CS.k CS.b .nil Ao (Aa (pv 6) (Aa (pv 15) Ab)))))))
   Al)
  (Ac (AB (De (Bs (A1 (Av Bo (by rfl) T.isi boot_isinstance (Aa (pv 18) (Aa (BD (v:=.ty "list") (by rfl) T.lst Ba rfl) Ab))))) (De (Ak Et (Av Au (by rfl) B.len PySem.boot_len (Aa (pv 18) Ab)) Ag (Ar _)) (Dw (Ak AN (Be (K4 hr.units0) (pv 18) (AK Ab) (Ar _)) (Ah GS hr1 (by rfl) CS.m CS.k CS.b .nil Ao (Aa (pv 6) (Aa (pv 15) Ab))) (Ar _))))).pt
   (Ad (Ai BA))
   Al)
  (Ac (AB (Bs (A1 (Av (Nl rfl) (by rfl) T.all boot_all (Aa (Bm (N:=["_law_asked_here","_law_many"]) (js:=[none,some 1]) (cl:=[("_law_many",s.heap.objs.size+1)]) ⟨rfl,rfl,rfl,(by intro p hp;simp at hp;rcases hp with rfl<;>rfl),rfl,rfl,rfl⟩ (AW (pv 18)) (fun c1=>(AE (i:=0) (show (["_law_asked_here","_law_many"]:List Str).Nodup by decide +kernel) rfl (Or.inl rfl))) (fun c1=>BI) (fun c1=>(BE (Ah GX hr1 (by rfl) CX.m CX.k CX.b .nil Ao (Aa (pv 0) Ab)) (Bk (Ah GO hr71 (by rfl) CO.m CO.k CO.b .nil Ao (Aa (pv 0) (Aa (pv 1) (Aa Ag Ab)))))))) Ab))))
   (Ad (Ai BA))
   Al)
  (Ac (AB (Bs (A1 (Ah GK hr73 (by rfl) CK.m CK.k CK.b .nil Ao (Aa (pv 12) (Aa (pv 18) (Aa (pv 9) (Aa (pv 6) (Aa (pv 15) Ab))))))))
   (Ad (Ai BA))
   Al)
  (Ac (AU (BO PySem.F.plainAttrs_list PySem.F.slot_list_append PySem.F.type_list_append AZ (pv 18) (Aa (Bb (Aa Aw (Aa Ag Ab))) Ab)))
  (Ac (Az (i:=19) scLaw.nd rfl (Or.inl rfl) (Ah GP hr6 (by rfl) CP.m CP.k CP.b .nil Ao (Aa (pv 12) (Aa (pv 9) Ab))))
  (Ad (Ai (BE (Be AN (Av Au (by rfl) B.len PySem.boot_len (Aa (pv 19) Ab)) (AD Ez (Av Au (by rfl) B.len PySem.boot_len (Aa (pv 18) Ab)) Ag) (Ar _)) (Bk (Ah GK hr73 (by rfl) CK.m CK.k CK.b .nil Ao (Aa (pv 12) (Aa (pv 19) (Aa (pv 9) (Aa (pv 6) (Aa (pv 15) Ab))))))))))))))))))))))))))))))))),?_⟩
 refine⟨_,rfl,a,ns,0,rfl,hS,h63,by decide,by decide,fun H1 hn0 s1=>⟨_,rfl,hn0,fun many H2 hm1 hm5 s2=>?_⟩⟩
 have t2:=s1.trans s2
 refine⟨_,rfl,_,rfl,a,ns,many,rfl,t2.seq hS,h63,hm1,hm5,fun tp rm room z v t H3 s3 htp hrm0 hrm hsub hne ha hok hsz' hz=>⟨tp,_,rfl,SqT.of htp,rfl,_,_,rfl,_,_,rfl,_,_,rfl,rfl,?_⟩⟩
 have t3:=t2.trans s3
 have ok5:t.ok 5:=Tr.ok.mono hm5 hok
 have wroom:Wr room:=(Mj hm5).sub hsub
 have lroom:=wroom.len
 have s2l:(As z t room).length≤2:=by
  rcases DZ (z:=z) (t:=t) (row:=room) with⟨_,e⟩|⟨_,_,e⟩<;>rw[e]<;>simp
 have lS:∀s∈As z t room,s.length≤900:=fun s hs=>by have:=(Bi hs).length_le;omega
 have hbst:Ay (As z t room) (BM room (As z t room))=true:=Kh (JT hz)
 refine⟨_,rfl,a,ns,rfl,t3.seq hS,h63,fun rule H4 s4 hrule=>?_⟩
 refine⟨_,rfl,_,rfl,_,rfl,rm,room,z,v,t,rfl,ha.keep (TS.same s4),ok5,by omega,SqL.of (s4 _ _ hrm),by omega,fun sd xs H5 s5 sd0 hsd hX=>?_⟩
 have w35:=s4.trans s5
 refine⟨_,rfl,_,rfl,rm,sd,room,xs,_,rfl,SqL.of (w35 _ _ hrm),by omega,SqL.of hsd,hX,by omega,fun bs H6 s6 bs0 hbs=>?_⟩
 have w36:=w35.trans s6
 generalize hbase:BM room (As z t room)=bas at *
 have bsub:bas.Sublist room:=by rw[←hbase];exact base_sub
 have lbas:bas.length≤900:=by have:=bsub.length_le;omega
 refine⟨_,rfl,rm,rfl,⟨_,SqL.of (w36 _ _ hrm)⟩,fun cc ol hol0=>Bw (p:=fun k=>!decide (k∈bas)) (rest:=[some (.ref bs)]) (SqL.of (w36 _ _ hrm)) hol0 (by omega) (fun k hk H7 s7 R hR7=>?_) (fun v0 H7 s7 hol=>?_) none⟩
 ·exact⟨_,rfl,_,rfl,MV (SqL.of (s7 _ _ hbs)) ⟨_,rfl,hR7 H7 (Same.refl _)⟩⟩
 refine JR rfl ?_
 have w37:=w36.trans s7
 refine⟨_,rfl,a,ns,4,rfl,(t3.trans w37).seq hS,h63,by decide,by decide,fun H8 hn4 s8=>?_⟩
 have w38:=w37.trans s8
 refine⟨_,rfl,_,rm,room,rfl,SqL.of (w38 _ _ hrm),by omega,hne,fun sn1 seen1 H9 s9 sn10 hsn1 nsub1 nne1=>?_⟩
 have w39:=w38.trans s9
 refine HU (fun σ H'=>∃(sn:Addr) (seen:List Int),σ=[some (.ref a),some (.int (many:Int)),some (.ref rm),some (.str z),some v,some (.str rule),some (.ref sd),some (.ref bs),some (.ref ol),some (.ref sn),none,none,none,none,none,none,none,none,none,none]∧Same H9 H'∧AJ H' sn seen∧seen.Sublist room∧seen≠[]) ?_ (fun next=>?_)
 rotate_left
 ·refine⟨_,rfl,Jx,fun e he=>?_⟩
  have se:=Af he (.lst [])
  refine⟨ol,e,_,rfl,rfl,SqL.of ((s8.trans (s9.trans se)) _ _ hol),SqL.of upd_same,_,rfl,?_⟩
  generalize upd H9 e _=He at *
  by_cases ce:room.filter (fun k=>!decide (k∈bas))=[]
  ·rw[ce]
   exact A8 (next _ _ ⟨sn1,seen1,rfl,se,se _ _ hsn1,nsub1,nne1⟩)
  ·have hne':(!((room.filter (fun k=>!decide (k∈bas))).map V.int).isEmpty)=true:=by
    rw[PR,decide_eq_false ce]
    rfl
   rw[hne']
   refine Bq ?_
   have w3e:=w39.trans se
   refine⟨_,rfl,a,ns,5,rfl,(t3.trans w3e).seq hS,h63,by decide,by decide,fun H11 hn5 s11=>?_⟩
   refine⟨_,_,rfl,rfl,(by show (0:Int)<2;decide),rfl,_,rfl,?_⟩
   by_cases c:Gm ns 5%2=1
   ·refine Bc (by show V.int (Gm ns 5%2)=V.int 1;rw[c]) ?_
    refine⟨_,rfl,a,ns,4,rfl,(t3.trans (w3e.trans s11)).seq hS,h63,by decide,by decide,fun H12 _ s12=>?_⟩
    have le':(room.filter (fun k=>!decide (k∈bas))).length≤room.length:=List.length_filter_le _ _
    refine⟨_,rfl,_,ol,room.filter (fun k=>!decide (k∈bas)),rfl,SqL.of ((s8.trans (s9.trans (se.trans (s11.trans s12)))) _ _ hol),by omega,ce,fun sn2 seen2 H13 s13 sn20 hsn2 nsub2 nne2=>?_⟩
    exact next _ _ ⟨sn2,seen2,rfl,se.trans (s11.trans (s12.trans s13)),hsn2,nsub2.trans List.filter_sublist,nne2⟩
   ·refine A0 (fun z=>c (by have z:V.int (Gm ns 5%2)=V.int 1:=z;injection z)) ?_
    exact next _ _ ⟨sn1,seen1,rfl,se.trans s11,(se.trans s11) _ _ hsn1,nsub1,nne1⟩
 rintro σ H13 ⟨sn,seen,rfl,s913,hsn,nsub,nne⟩
 have w313:=w39.trans s913
 have wseen:=wroom.sub nsub
 have lseen:=wseen.len
 refine⟨_,rfl,_,rfl,_,rfl,a,ns,8,many,v,t,rfl,(t3.trans w313).seq hS,h63,by decide,by decide,hm1,hm5,ha.keep (TS.same w313),hok,hsz',fun al axs ats H14 s14 hal0 hal hA hlen=>?_⟩
 have w314:=w313.trans s14
 refine⟨_,rfl,a,ns,6,rfl,(t3.trans w314).seq hS,h63,by decide,by decide,fun H10 hn6 s15=>?_⟩
 have w310:=w314.trans s15
 refine⟨_,_,rfl,rfl,(by show (0:Int)<5;decide),_,rfl,al,_,rfl,.inl (SqL.of (s15 _ _ hal)),_,_,rfl,rfl,_,_,rfl,rfl,(by show (0:Int)<((axs.length:Nat):Int)+1;omega),?_⟩
 have f0:0≤Gm ns 6%5%(((axs.length:Nat):Int)+1):=Int.emod_nonneg _ (by omega)
 have f1:Gm ns 6%5%(((axs.length:Nat):Int)+1)<((axs.length:Nat):Int)+1:=Int.emod_lt_of_pos _ (by omega)
 obtain⟨m,em⟩:=Int.eq_ofNat_of_zero_le f0
 have hm:m≤axs.length:=by omega
 refine PM (i:=11) (j:=m) em ?_
 refine⟨_,rfl,_,rfl,_,rfl,_,rfl,_,rfl,fun x dx hx hdx nex=>?_⟩
 have hrm10:=w310 _ _ hrm
 have ha10:=ha.keep (TS.same w310)
 have sM:Same H10 (upd (upd H10 dx (.own x)) x (.ins cK dx [])):=(Af hdx _).trans (Af (by rw[Ax nex.symm];exact hx) _)
 refine⟨x,dx,rm,many,z,rule,v,t,room,[],rfl,upd_same,by simp,fun m hm=>by simp at hm,KY (ha10.keep (TS.same sM)),ok5,by omega,hm5,sM _ _ hrm10,wroom,fun hn=>absurd hok hn,fun _ hn=>absurd ⟨hrule,Rc hz⟩ hn,fun _ _ _ he=>absurd he (JT hz),fun _ _ _ _ U0 H11 b11 gv0 lf0 sp0 esv hT=>⟨rfl,?_⟩⟩
 have s11:Same H10 H11:=IQ hx hdx nex b11
 obtain⟨gv10,ngx,ngd⟩:=D3 (C:=cK) gv0
 obtain⟨lf10,nlx,nld⟩:=D3 (C:=cK) lf0
 have hT:TalkAt (x::U0.gv::U0.lf::[]) cK H11 x U0 (tw many z rule t room [] bas []):=by rw[←hbase];exact hT
 generalize hgx:U0.gv=gx at *
 generalize hlx:U0.lf=lx at *
 obtain⟨N,hN⟩:∃N,N=x::gx::lx::[]:=⟨_,rfl⟩
 rw[←hN] at hT
 have offN:∀m∈N,H10 m=none:=fun m hm=>by
  rw[hN] at hm
  simp only[List.mem_cons,List.not_mem_nil,or_false] at hm
  rcases hm with rfl | rfl | rfl
  ·exact hx
  ·exact gv10
  ·exact lf10
 have fullN:∀{H':Hp} {U:Tk} {W:Ta},TalkAt N cK H' x U W→U.gv=gx→U.lf=lx→Full N H':=fun h2 h3 h4 m hm e=>by
  have g1:=h2.gv
  have g2:=h2.lf
  rw[h3] at g1
  rw[h4] at g2
  rw[hN] at hm
  simp only[List.mem_cons,List.not_mem_nil,or_false] at hm
  rcases hm with rfl | rfl | rfl
  ·rw[h2.ob] at e;cases e
  ·rw[g1] at e;cases e
  ·rw[g2] at e;cases e
 have gvN:gx∈N:=by rw[hN];simp
 have lfN:lx∈N:=by rw[hN];simp
 have c11:Same H10 (BH N H11):=fun b o e=>Bu (s11 _ _ e) fun z=>by rw[offN b z] at e;cases e
 have hal10:=s15 _ _ hal
 have hsn10:=(s14.trans s15) _ _ hsn
 have hA10:∀(i:Nat) (y:V),axs[i]? = some y→∃u:Tr,u.At H10 y∧u.ok many∧u.size≤21:=fun i y hy=>by
  obtain⟨u,h1,h2,h3⟩:=AskedAt.get hA hy
  exact⟨u,h1.keep (TS.same s15),h2,h3⟩
 refine⟨_,rfl,_,rfl,_,rfl,al,axs,rfl,SqL.of (s11 _ _ hal10),fun sl hsl=>?_⟩
 rw[Nx axs m hm]
 have s12:=Af hsl (.lst (axs.take m))
 have sl12:upd H11 sl (.lst (axs.take m)) sl=some (.lst (axs.take m)):=upd_same
 generalize upd H11 sl _=H12 at *
 have T12:=hT.keep s12
 have c12:Same H10 (BH N H12):=c11.trans (AO s12)
 have slN:sl∉N:=(fullN hT hgx hlx).no hsl
 have sl12c:BH N H12 sl=some (.lst (axs.take m)):=Bu sl12 slN
 refine⟨sl,rfl,⟨_,SqL.of sl12⟩,A4 (K:=K) (a:=sl) (xs:=axs.take m) (fun i σ Hi=>∃(v1:Option V) (U:Tk) (es:List (V×Tr×Str)) (ls:List (List Int)),σ=[some (.ref a),some (.int (many:Int)),some (.ref rm),some (.str z),some v,some (.str rule),some (.ref sd),some (.ref bs),some (.ref ol),some (.ref sn),some (.ref al),some (.int (m:Nat)),some (.ref x),v1,none,none,none,none,none,none]∧Same (BH N H12) (BH N Hi)∧TalkAt N cK Hi x U (tw many z rule t room es bas ls)∧U.gv=gx∧U.lf=lx∧es.length=i∧ls.length=i∧(∀e∈es,e.2.1.ok many∧e.2.1.size≤21)∧(tw many z rule t room es bas ls).held=S9 bas (es.map fun e=>(e.2.1,e.2.2))∧(rule="elder"→Ay (As z t room) (tw many z rule t room es bas ls).held=true))
  ⟨_,U0,[],[],rfl,Same.refl _,T12,hgx,hlx,rfl,rfl,fun e he=>(by simp at he),rfl,fun _=>hbst⟩ ?_ ?_ ?_⟩
 ·rintro i σ Hi _ ⟨v1,U,es,ls,rfl,si,_⟩
  exact SqL.of (AR _ _ (si _ _ sl12c))
 ·rintro i y σ Hi hy ⟨v1,U,es,ls,rfl,si,Ti,eg,el,les,lls,hes,hhi,hst⟩
  have hi:i<m:=by
   have:=(List.getElem?_eq_some_iff.mp hy).1
   rw[List.length_take] at this
   omega
  rw[List.getElem?_take,if_pos hi] at hy
  obtain⟨u,hau,hoku,hszu⟩:=hA10 i y hy
  have oku5:u.ok 5:=Tr.ok.mono hm5 hoku
  have fulli:=fullN Ti eg el
  have si10:=c12.trans si
  refine⟨_,rfl,x,_,_,rfl,Ti.ob,Pm,_,rfl,_,rfl,x,sn,y,N,U,_,u,seen,rfl,Ti,fulli,hau.keep (TS.same si10),oku5,by omega,SqL.of ((si10.trans AR) _ _ hsn10),wseen,nne,by show es.length<900;omega,by show ls.length+1<900;omega,fun z=>absurd z Bool.false_ne_true,fun _ hn=>absurd hoku hn,fun _ _ U2 H13b b13 eg2 el2 kk13 T13=>?_⟩
  have eA:=Oy (many:=many) (z:=z) (rule:=rule) (t:=t) (es:=es) (bas:=bas) (ls:=ls) (u:=u) Ti.going_sub nsub
  rw[eA,SX,MI Ti.held_sub] at T13
  have c13:Same (BH N Hi) (BH N H13b):=But.wide (fun m hm=>by
   simp only[List.mem_cons,List.not_mem_nil,or_false,eg,el] at hm
   rcases hm with rfl | rfl
   ·exact gvN
   ·exact lfN) b13
  refine⟨some y,U2,_,_,rfl,si.trans c13,T13,eg2.trans eg,el2.trans el,by rw[List.length_append,les];rfl,by rw[List.length_append,lls];rfl,fun e he=>?_,?_,fun e=>?_⟩
  ·rcases List.mem_append.mp he with q1 | q1
   ·exact hes e q1
   ·rw[List.mem_singleton.mp q1]
    exact⟨hoku,hszu⟩
  ·show (bas::(ls++[_])).getLastD []=_
   rw[←List.cons_append,EA,List.map_append,List.map_cons,List.map_nil,MH,←hhi]
  ·show Ay _ ((bas::(ls++[_])).getLastD [])=true
   rw[←List.cons_append,EA,On,if_pos e]
   exact LQ (hst e)
 rintro σ Hi ⟨v1,U,es,ls,rfl,si,Ti,eg,el,les,lls,hes,hhi,hst⟩
 have les2:es.length≤200:=by
  rw[les,List.length_take]
  omega
 have lls2:ls.length≤200:=by omega
 have ci:Same H10 (BH N Hi):=c12.trans si
 have wi:Same H10 Hi:=ci.trans AR
 generalize hh0:(tw many z rule t room es bas ls).held=h0 at *
 have h0sub:h0.Sublist room:=by rw[←hh0];exact Ti.held_sub
 have lh0:h0.length≤900:=by have:=h0sub.length_le;omega
 have h0bas:h0.Sublist bas:=by rw[hhi];exact K0 _ _
 obtain⟨S,hSd⟩:∃S,S=As z t room:=⟨_,rfl⟩
 have Hns:=JT hz
 have rm2:∀k∈room,0≤k∧k<2^many:=fun k hk=>by
  have:=mem_upto.mp (hsub.subset hk)
  have e:((2^many:Nat):Int)=(2:Int)^many:=by rw[Int.natCast_pow];rfl
  rw[←e]
  exact this
 refine⟨_,rfl,x,_,_,rfl,Ti.ob,HC,x,N,U,_,rfl,Ti,fun en H16 s16 en0 hen=>?_⟩
 refine⟨_,rfl,?_⟩
 have hE16:PairsAt H16 U.ges (es.map fun e=>(e.2.1,e.2.2)):=PairsAt.keep s16 (HG (Ti.en.keep AR))
 have hEl:=hE16.len
 have hbs10:AJ H10 bs bas:=(s7.trans (s8.trans (s9.trans (s913.trans (s14.trans s15))))) _ _ hbs
 have wi16:=wi.trans s16
 refine⟨_,rfl,en,rfl,⟨_,SqL.of hen⟩,A4 (K:=K) (a:=en) (xs:=U.ges) (fun i σ Hk=>∃(v1 v2:Option V) (l:Addr),σ=[some (.ref a),some (.int (many:Int)),some (.ref rm),some (.str z),some v,some (.str rule),some (.ref sd),some (.ref bs),some (.ref ol),some (.ref sn),some (.ref al),some (.int (m:Nat)),some (.ref x),v1,some (.ref en),some (.ref l),v2,none,none,none]∧Same H16 Hk∧AJ Hk l (S9 bas ((es.map fun e=>(e.2.1,e.2.2)).take i))) ⟨_,_,bs,rfl,Same.refl _,wi16 _ _ hbs10⟩ ?_ ?_ ?_⟩
 ·rintro i σ Hk _ ⟨v1,v2,l,rfl,sk,_⟩
  exact SqL.of (sk _ _ hen)
 ·rintro i y σ Hk hy ⟨v1,v2,l,rfl,sk,hl⟩
  have hi:i<(es.map fun e=>(e.2.1,e.2.2)).length:=by
   have:=(List.getElem?_eq_some_iff.mp hy).1
   omega
  obtain⟨y',hy',hpy⟩:=hE16.get (List.getElem?_eq_getElem hi)
  rw[hy] at hy'
  cases hy'
  obtain⟨p,vv,rfl,hp,hv⟩:=hpy
  obtain⟨e0,he0,ee⟩:=List.mem_map.mp (List.getElem_mem hi)
  have hok0:=hes e0 he0
  have hhg:=EW e0.2.1
  rw[←ee] at hv hp
  refine⟨p,_,rfl,SqT.of (sk _ _ hp),rfl,_,_,rfl,_,_,rfl,rfl,?_⟩
  have lh:=(K0 ((es.map fun e=>(e.2.1,e.2.2)).take i) bas).length_le
  refine⟨_,rfl,_,rfl,_,rfl,l,_,vv,_,_,rfl,(hv.keep (TS.same sk)).toK,Tr.ok.mono hm5 hok0.1,(by show e0.2.1.hgt<70;omega),SqL.of hl,by omega,fun l2 H3 s3 l20 hl2=>?_⟩
  refine⟨_,_,l2,rfl,sk.trans s3,?_⟩
  rw[←List.take_append_getElem hi,MH,←ee]
  exact hl2
 rintro σ H28 ⟨v3,v4,hl0,rfl,s28,hhl0⟩
 rw[hEl,List.take_length,←hhi] at hhl0
 have s1628:=s16.trans s28
 have wi28:=wi16.trans s28
 have T28:=Ti.keep s1628
 have full28:=fullN T28 eg el
 have hen28:=s28 _ _ hen
 have hE28:=PairsAt.keep s28 hE16
 have hsn28:=wi28 _ _ hsn10
 have s510:=s6.trans (s7.trans (s8.trans (s9.trans (s913.trans (s14.trans s15)))))
 have hsd28:=wi28 _ _ (s510 _ _ hsd)
 have hX28:=(hX.keep s510).keep wi28
 refine⟨_,rfl,sn,_,rfl,.inl (SqL.of hsn28),fun hd hhd0=>?_⟩
 have s31:=Af hhd0 (.lst (seen.map V.int))
 have hd31:AJ (upd H28 hd (.lst (seen.map V.int))) hd seen:=upd_same
 show R7 _ _ _ _ (upd H28 hd (.lst (seen.map V.int)))
 generalize upd H28 hd (.lst (seen.map V.int))=H31 at *
 have T31:=T28.keep s31
 obtain⟨cA,cB,cC⟩:=LW (K:=K) T31 hh0 nsub Hns hbase rm2 wroom hst (Q:=fun fv H'=>Same H31 H'∧Kz K H31 H' many rule (As z t room) bas seen h0 fv) fun _ _ s c=>⟨s,c⟩
 refine HU (fun σ H'=>∃(fv:V),σ=[some (.ref a),some (.int (many:Int)),some (.ref rm),some (.str z),some v,some (.str rule),some (.ref sd),some (.ref bs),some (.ref ol),some (.ref sn),some (.ref al),some (.int (m:Nat)),some (.ref x),v3,some (.ref en),some (.ref hl0),v4,some (.ref hd),some fv,none]∧Same H31 H'∧Kz K H31 H' many rule (As z t room) bas seen h0 fv) ?_ (fun next=>?_)
 rotate_left
 ·exact⟨_,rfl,_,rfl,x,hd,N,U,_,seen,rfl,T31,rfl,hm1,hm5,hd31,nsub,fun h1 l H' s' l0 hl=>next _ _ ⟨_,rfl,cA h1 l H' s' l0 hl⟩,fun h1 hc H' s'=>next _ _ ⟨_,rfl,cB h1 hc H' s'⟩,fun h1 hE' p hp hmin l xs ts H' s' l0 hl hP hF=>next _ _ ⟨_,rfl,cC h1 hE' p hp hmin l xs ts H' s' l0 hl hP hF⟩⟩
 rintro σ H32 ⟨fv,rfl,s32,hcat⟩
 have s3132:=s31.trans s32
 have T32:=T28.keep s3132
 have hsn32:=s3132 _ _ hsn28
 refine⟨_,rfl,_,rfl,hd,sn,_,_,rfl,rfl,rfl,Mx,.inl ⟨SqL.of (s32 _ _ hd31),SqL.of hsn32⟩,_,rfl,?_⟩
 refine A8 ?_
 refine⟨_,rfl,x,_,_,rfl,T32.ob,HC,x,N,U,_,rfl,T32,fun e2 H33 s33 e20 he2=>?_⟩
 have s2833:=s3132.trans s33
 have hE33:=PairsAt.keep s2833 hE28
 refine⟨_,rfl,e2,en,_,_,_,rfl,he2,hE33,s2833 _ _ hen28,hE33,fun e he=>by
  obtain⟨e0,h0,rfl⟩:=List.mem_map.mp he
  exact Nat.le_trans (hes e0 h0).2 (by decide),by rw[List.length_map];omega,_,rfl,?_⟩
 refine A8 ?_
 have T33:=T32.keep s33
 refine⟨_,rfl,x,_,_,rfl,T33.ob,Jd,x,N,U,_,rfl,T33,fun h2 H34 s34 h20 hh2=>?_⟩
 rw[hh0] at hh2
 have s2834:=s2833.trans s34
 refine⟨_,rfl,h2,hl0,_,_,rfl,rfl,rfl,Mx,.inl ⟨SqL.of hh2,SqL.of (s2834 _ _ hhl0)⟩,_,rfl,?_⟩
 refine A8 ?_
 have s3234:=s33.trans s34
 rcases hcat with⟨rfl,hst0,hcE⟩|⟨hrE,l,xs',us,rfl,hl31,hl32,hP32,hus,hul,hWk,hemp,hleast⟩
 ·
  have hsd34:=s2834 _ _ hsd28
  have hX34:=hX28.keep s2834
  have hhl34:=s2834 _ _ hhl0
  refine⟨_,rfl,rfl,_,rfl,?_⟩
  by_cases hr0:rule="elder"
  ·refine Bc (by show V.str rule=V.str "elder";rw[hr0]) ?_
   refine Bq ?_
   refine⟨_,rfl,_,rfl,?_⟩
   refine Bc rfl ?_
   refine⟨_,rfl,_,rfl,sd,hl0,h0,xs,_,rfl,SqL.of hhl34,lh0,SqL.of hsd34,hX34,lS,fun H40 s40=>?_⟩
   rw[hst0]
   exact q _
  ·refine A0 (fun z=>hr0 (by have z:V.str rule=V.str "elder":=z;injection z)) ?_
   refine⟨_,rfl,_,rfl,?_⟩
   refine Bc rfl ?_
   refine⟨_,rfl,_,rfl,?_⟩
   refine Bc rfl ?_
   refine⟨_,rfl,_,rfl,sd,hl0,h0,xs,_,rfl,SqL.of hhl34,lh0,SqL.of hsd34,hX34,lS,fun H40 s40=>?_⟩
   rw[hst0]
   exact q _
 have hl34:=s3234 _ _ hl32
 have hP34:=hP32.keep (TS.same s3234)
 have hxl:=hP32.len
 refine⟨_,rfl,rfl,_,rfl,?_⟩
 refine A0 (fun z=>hrE (by have z:V.str rule=V.str "elder":=z;injection z)) ?_
 refine⟨_,rfl,_,rfl,?_⟩
 refine A0 (fun z=>by cases z) ?_
 refine⟨_,rfl,_,_,_,_,rfl,.lst hl34,Bd _ _,_,rfl,?_⟩
 refine A8 ?_
 refine⟨_,rfl,l,_,rfl,.inl (SqL.of hl34),_,_,rfl,rfl,_,rfl,?_⟩
 refine A0 (show ¬((xs'.length:Nat):Int)>2 by omega) ?_
 refine⟨_,rfl,Jx,fun e0 he0=>?_⟩
 have s35:=Af he0 (.lst [])
 have e035:upd H34 e0 (.lst []) e0=some (.lst []):=upd_same
 generalize upd H34 e0 _=H35 at *
 refine⟨l,e0,_,rfl,rfl,SqL.of (s35 _ _ hl34),SqL.of e035,?_⟩
 have s2835:=s2834.trans s35
 refine⟨_,rfl,_,rfl,sd,hl0,h0,xs,_,rfl,SqL.of (s2835 _ _ hhl0),lh0,SqL.of (s2835 _ _ hsd28),hX28.keep s2835,lS,fun H36 s36=>?_⟩
 have hbb:xs'.isEmpty = !Ay (As z t room) h0:=by
  cases hs:Ay (As z t room) h0 with
  | false=>
   have e:=hemp.mpr hs
   rw[e] at hxl
   rw[List.length_eq_zero_iff.mp hxl]
   rfl
  | true=>
   have e:us≠[]:=fun e=>by rw[hemp.mp e] at hs;cases hs
   have e2:0<us.length:=List.length_pos_iff.mpr e
   cases hx':xs' with
   | nil=>rw[hx'] at hxl;exact absurd hxl (by show ¬0=us.length;omega)
   | cons _ _=>rfl
 refine⟨rfl,_,rfl,?_⟩
 refine A0 (fun zz=>by
  have zz:V.bl xs'.isEmpty=V.bl (Ay (As z t room) h0):=zz
  rw[hbb] at zz
  injection zz with zz
  cases hq:Ay (As z t room) h0<;>rw[hq] at zz<;>cases zz) ?_
 have s3436:=s35.trans s36
 have hl36:=s3436 _ _ hl34
 have hP36:=hP34.keep (TS.same s3436)
 refine⟨_,rfl,l,rfl,⟨_,SqL.of hl36⟩,fun c1 acc hacc=>Gh (bs:=xs'.map fun _=>true) (rest:=[some (.int (many:Int))]) (SqL.of hl36) hacc (by omega) (by rw[List.length_map]) (fun i x b hx hb H3 s3 R3 hR3=>?_) (fun v0 H37 s37 h37=>?_) none⟩
 ·obtain⟨u,hu,hau⟩:=PileK.get hP36 hx
  obtain⟨h1,h2,h3⟩:=hus u (List.mem_of_getElem? hu)
  have eb:b=true:=by
   rw[List.getElem?_map] at hb
   obtain⟨_,_,e⟩:=Option.map_eq_some_iff.mp hb
   exact e.symm
  subst eb
  refine⟨_,rfl,x,u,rfl,hau.same s3,by omega,fun H4 s4=>⟨_,rfl,?_⟩⟩
  refine Bq ?_
  exact⟨_,rfl,_,rfl,x,u,many,60,rfl,hau.same (s3.trans s4),h1,by omega,by omega,fun H5 s5=>hR3 H5 (s4.trans s5)⟩
 refine⟨acc,_,rfl,SqL.of h37,_,rfl,?_⟩
 have eall:(xs'.map fun _=>true).all id=true:=by
  rw[List.all_map,List.all_eq_true]
  exact fun _ _=>rfl
 rw[eall]
 refine A8 ?_
 have s3437:=s3436.trans s37
 have s2837:=s2834.trans s3437
 have T37:=T28.keep s2837
 have hus':∀u∈us,u.ok many∧u.size≤800∧u.hgt<70:=fun u hu=>by
  obtain⟨h1,h2,h3⟩:=hus u hu
  exact⟨h1,h2,by omega⟩
 refine⟨_,rfl,_,rfl,_,rfl,_,rfl,_,rfl,x,l,sn,sd,hl0,N,U,many,z,rule,t,room,es,bas,ls,seen,h0,xs',xs,us,rfl,T37,full28.keep s2837,by omega,by omega,hm5,hrE,s2837 _ _ hsn28,nsub,nne,s3437 _ _ hl34,hP34.keep (TS.same s3437),hus',by omega,SqL.of (s2837 _ _ hsd28),hX28.keep s2837,s2837 _ _ hhl0,hh0,hWk,fun H38 s38=>⟨_,rfl,?_⟩⟩
 refine A8 ?_
 have s3438:=s3437.trans s38
 have hl38:=s3438 _ _ hl34
 refine⟨_,rfl,.inl ⟨rfl,_,SqL.of hl38⟩,Fl,fun pt hpt=>?_⟩
 have s39:=Af hpt (.tup [.str "let",.int 0])
 generalize upd H38 pt _=H39 at *
 refine⟨l,_,_,rfl,rfl,s39 _ _ hl38,AF (by omega),?_⟩
 have s3139:Same H31 H39:=s32.trans (s3234.trans (s3438.trans s39))
 have s3141:Same H31 (upd H39 l (.lst (xs'++[.ref pt]))):=fun b o e=>by
  rw[Ax (fun z=>by rw[z,hl31] at e;cases e)]
  exact s3139 _ _ e
 have hl41:upd H39 l (.lst (xs'++[.ref pt])) l=some (.lst (xs'++[.ref pt])):=upd_same
 generalize upd H39 l _=H41 at *
 have s2841:=s31.trans s3141
 have T41:=T28.keep s2841
 obtain⟨dA,dB,dC⟩:=LW (K:=K) T41 hh0 nsub Hns hbase rm2 wroom hst (Q:=fun fv H'=>Same H41 H'∧Kz K H41 H' many rule (As z t room) bas seen h0 fv) fun _ _ s c=>⟨s,c⟩
 refine HU (fun σ H'=>∃(gv:V),σ=[some (.ref a),some (.int (many:Int)),some (.ref rm),some (.str z),some v,some (.str rule),some (.ref sd),some (.ref bs),some (.ref ol),some (.ref sn),some (.ref al),some (.int (m:Nat)),some (.ref x),v3,some (.ref en),some (.ref hl0),v4,some (.ref hd),some (.ref l),some gv]∧Same H41 H'∧Kz K H41 H' many rule (As z t room) bas seen h0 gv) ?_ (fun next=>?_)
 rotate_left
 ·exact⟨_,rfl,_,rfl,x,sn,N,U,_,seen,rfl,T41,rfl,hm1,hm5,s2841 _ _ hsn28,nsub,fun h1 l H' s' l0 hl=>next _ _ ⟨_,rfl,dA h1 l H' s' l0 hl⟩,fun h1 hc H' s'=>next _ _ ⟨_,rfl,dB h1 hc H' s'⟩,fun h1 hE' p hp hmin l xs ts H' s' l0 hl hP hF=>next _ _ ⟨_,rfl,dC h1 hE' p hp hmin l xs ts H' s' l0 hl hP hF⟩⟩
 rintro σ H42 ⟨gv,rfl,s42,hcat2⟩
 rcases hcat2 with⟨rfl,hst2,hcE2⟩|⟨_,l2,xs2,us2,rfl,hl241,hl242,hP42,hus2,hul2,hWk2,hemp2,hleast2⟩
 ·exfalso
  rcases hcE2 with h | h
  ·exact hrE h
  ·rcases hleast with⟨h1,_⟩|⟨_,s0,h1,h2,_⟩
   ·rw[h1] at hst2;cases hst2
   ·exact h2 (h s0 h1)
 have eqn:=hleast.uniq hleast2
 have hxl2:=hP42.len
 have s2842:=s2841.trans s42
 refine⟨_,rfl,l2,_,rfl,.inl (SqL.of hl242),_,rfl,l,_,rfl,.inl (SqL.of (s42 _ _ hl41)),_,_,rfl,rfl,rfl,_,rfl,?_⟩
 refine Bc (by
  show V.int ((xs2.length:Nat):Int)=V.int ((((xs'++[V.ref pt]).length:Nat):Int)-1)
  have e:(xs'++[V.ref pt]).length=xs'.length+1:=by rw[List.length_append];rfl
  rw[e]
  congr 1
  omega) ?_
 have T42:=T28.keep s2842
 have hus2':∀u∈us2,u.ok many∧u.size≤800∧u.hgt<70:=fun u hu=>by
  obtain⟨h1,h2,h3⟩:=hus2 u hu
  exact⟨h1,h2,by omega⟩
 exact⟨_,rfl,_,rfl,_,rfl,_,rfl,_,rfl,x,l2,sn,sd,hl0,N,U,many,z,rule,t,room,es,bas,ls,seen,h0,xs2,xs,us2,rfl,T42,full28.keep s2842,by omega,by omega,hm5,hrE,s2842 _ _ hsn28,nsub,nne,hl242,hP42,hus2',by omega,SqL.of (s2842 _ _ hsd28),hX28.keep s2842,s2842 _ _ hhl0,hh0,hWk2,fun H43 s43=>q _⟩
end
theorem all_mk {l:PySem.W.OpenLaw} {w:World} {K:PySem.W.Frag} {h:Heap} {mg:Str→Option Value} {fa f1 f2 f3 f4 f5 f6 f7 f8 f9 f10 f11 f12 f13 f14 f15 f16 f17 f18 f19 f20 f21 f22 f23 f24 f25 f26 f27 f28 f29 f30 f31 f32 f33 f34 f35 f36 f37 f38 f39 f40 f41 f42 f43 f44 f45 f46 f47 f48 f49 f50 f51 f52 f53 f54 f55 f56 f57 f58 f59 f60 f61 f62 f63 f64 f65 f66 f67 f68 f69 f70:Addr} (X:K.In h) (G:h.Ns mainGlobals mg) (hfa:mg "law"=some (.ref fa))
  {od1 an1 od2 an2 od3 an3 od4 an4 od5 an5 od6 an6 od7 an7 od8 an8 od9 an9 od10 an10 od11 an11 od12 an12 od13 an13 od14 an14 od15 an15 od16 an16 od17 an17 od18 an18 od19 an19 od20 an20 od21 an21 od22 an22 od23 an23 od24 an24 od25 an25 od26 an26 od27 an27 od28 an28 od29 an29 od30 an30 od31 an31 od32 an32 od33 an33 od34 an34 od35 an35 od36 an36 od37 an37 od38 an38 od39 an39 od40 an40 od41 an41 od42 an42 od43 an43 od44 an44 od45 an45 od46 an46 od47 an47 od48 an48 od49 an49 od50 an50 od51 an51 od52 an52 od53 an53 od54 an54 od55 an55 od56 an56 od57 an57 od58 an58 od59 an59 od60 an60 od61 an61 od62 an62 od63 an63 od64 an64 od65 an65 od66 an66 od67 an67 od68 an68 od69 an69 od70 an70:Option Addr} {sl1 sl2 sl3 sl4 sl5 sl6 sl7 sl8 sl9 sl10 sl11 sl12 sl13 sl14 sl15 sl16 sl17 sl18 sl19 sl20 sl21 sl22 sl23 sl24 sl25 sl26 sl27 sl28 sl29 sl30 sl31 sl32 sl33 sl34 sl35 sl36 sl37 sl38 sl39 sl40 sl41 sl42 sl43 sl44 sl45 sl46 sl47 sl48 sl49 sl50 sl51 sl52 sl53 sl54 sl55 sl56 sl57 sl58 sl59 sl60 sl61 sl62 sl63 sl64 sl65 sl66 sl67 sl68 sl69 sl70:Array (Option Value)} {oc1 kV1 dc1 pm1 cd1 ct1 oc2 kV2 dc2 pm2 cd2 ct2 oc3 kV3 dc3 pm3 cd3 ct3 oc4 kV4 dc4 pm4 cd4 ct4 oc5 kV5 dc5 pm5 cd5 ct5 oc6 kV6 dc6 pm6 cd6 ct6 oc7 kV7 dc7 pm7 cd7 ct7 oc8 kV8 dc8 pm8 cd8 ct8 oc9 kV9 dc9 pm9 cd9 ct9 oc10 kV10 dc10 pm10 cd10 ct10 oc11 kV11 dc11 pm11 cd11 ct11 oc12 kV12 dc12 pm12 cd12 ct12 oc13 kV13 dc13 pm13 cd13 ct13 oc14 kV14 dc14 pm14 cd14 ct14 oc15 kV15 dc15 pm15 cd15 ct15 oc16 kV16 dc16 pm16 cd16 ct16 oc17 kV17 dc17 pm17 cd17 ct17 oc18 kV18 dc18 pm18 cd18 ct18 oc19 kV19 dc19 pm19 cd19 ct19 oc20 kV20 dc20 pm20 cd20 ct20 oc21 kV21 dc21 pm21 cd21 ct21 oc22 kV22 dc22 pm22 cd22 ct22 oc23 kV23 dc23 pm23 cd23 ct23 oc24 kV24 dc24 pm24 cd24 ct24 oc25 kV25 dc25 pm25 cd25 ct25 oc26 kV26 dc26 pm26 cd26 ct26 oc27 kV27 dc27 pm27 cd27 ct27 oc28 kV28 dc28 pm28 cd28 ct28 oc29 kV29 dc29 pm29 cd29 ct29 oc30 kV30 dc30 pm30 cd30 ct30 oc31 kV31 dc31 pm31 cd31 ct31 oc32 kV32 dc32 pm32 cd32 ct32 oc33 kV33 dc33 pm33 cd33 ct33 oc34 kV34 dc34 pm34 cd34 ct34 oc35 kV35 dc35 pm35 cd35 ct35 oc36 kV36 dc36 pm36 cd36 ct36 oc37 kV37 dc37 pm37 cd37 ct37 oc38 kV38 dc38 pm38 cd38 ct38 oc39 kV39 dc39 pm39 cd39 ct39 oc40 kV40 dc40 pm40 cd40 ct40 oc41 kV41 dc41 pm41 cd41 ct41 oc42 kV42 dc42 pm42 cd42 ct42 oc43 kV43 dc43 pm43 cd43 ct43 oc44 kV44 dc44 pm44 cd44 ct44 oc45 kV45 dc45 pm45 cd45 ct45 oc46 kV46 dc46 pm46 cd46 ct46 oc47 kV47 dc47 pm47 cd47 ct47 oc48 kV48 dc48 pm48 cd48 ct48 oc49 kV49 dc49 pm49 cd49 ct49 oc50 kV50 dc50 pm50 cd50 ct50 oc51 kV51 dc51 pm51 cd51 ct51 oc52 kV52 dc52 pm52 cd52 ct52 oc53 kV53 dc53 pm53 cd53 ct53 oc54 kV54 dc54 pm54 cd54 ct54 oc55 kV55 dc55 pm55 cd55 ct55 oc56 kV56 dc56 pm56 cd56 ct56 oc57 kV57 dc57 pm57 cd57 ct57 oc58 kV58 dc58 pm58 cd58 ct58 oc59 kV59 dc59 pm59 cd59 ct59 oc60 kV60 dc60 pm60 cd60 ct60 oc61 kV61 dc61 pm61 cd61 ct61 oc62 kV62 dc62 pm62 cd62 ct62 oc63 kV63 dc63 pm63 cd63 ct63 oc64 kV64 dc64 pm64 cd64 ct64 oc65 kV65 dc65 pm65 cd65 ct65 oc66 kV66 dc66 pm66 cd66 ct66 oc67 kV67 dc67 pm67 cd67 ct67 oc68 kV68 dc68 pm68 cd68 ct68 oc69 kV69 dc69 pm69 cd69 ct69 oc70 kV70 dc70 pm70 cd70 ct70:Value} {cT NT:Addr} {xTnm xTq:Str} {xTbs:List Value} {xThd:Bool} {xTsn:List Str} {xTsub:List Value} {xTab:Bool} {xTcol:Option Bool} {xTdd:Option Addr} {xTa xTb xTc xTd xTe xTf:Option Value} {xToc:Value} {xTod:Option Addr} {xTes:Array DictEntry} {xTep:Nat} {xTsl:Array (Option Value)} {XDT:ClassData} {cS NcS:Addr} {xnm0 xq0:Str} {xbs0:List Value} {xsn0:List Str} {xsub0:List Value} {xab0:Bool} {xcol0:Option Bool} {xdd0:Option Addr} {xka0 xkb0 xkc0 xkd0 xkf0:Option Value} {xoc0:Value} {xod0:Option Addr} {xes0:Array DictEntry} {xep0:Nat} {xsl0:Array (Option Value)} {XD0:ClassData} {cB NcB:Addr} {xnm1 xq1:Str} {xbs1:List Value} {xsn1:List Str} {xsub1:List Value} {xab1:Bool} {xcol1:Option Bool} {xdd1:Option Addr} {xka1 xkb1 xkc1 xkd1 xkf1:Option Value} {xoc1:Value} {xod1:Option Addr} {xes1:Array DictEntry} {xep1:Nat} {xsl1:Array (Option Value)} {XD1:ClassData} {cN NcN:Addr} {xnm2 xq2:Str} {xbs2:List Value} {xsn2:List Str} {xsub2:List Value} {xab2:Bool} {xcol2:Option Bool} {xdd2:Option Addr} {xka2 xkb2 xkc2 xkd2 xkf2:Option Value} {xoc2:Value} {xod2:Option Addr} {xes2:Array DictEntry} {xep2:Nat} {xsl2:Array (Option Value)} {XD2:ClassData} {cO NcO:Addr} {xnm3 xq3:Str} {xbs3:List Value} {xsn3:List Str} {xsub3:List Value} {xab3:Bool} {xcol3:Option Bool} {xdd3:Option Addr} {xka3 xkb3 xkc3 xkd3 xkf3:Option Value} {xoc3:Value} {xod3:Option Addr} {xes3:Array DictEntry} {xep3:Nat} {xsl3:Array (Option Value)} {XD3:ClassData} {cK:Addr} {aA kpA kqA krA:Addr} {kdaA kdbA kdcA kddA:Option Addr} {ktaA ktbA ktcA ktdA kteA ktfA:Tok} {knaA knbA kncA kndA:Nat} {ksaA ksbA kscA ksdA:Array (Option Value)} {aN kpN kqN krN:Addr} {kdaN kdbN kdcN kddN:Option Addr} {ktaN ktbN ktcN ktdN kteN ktfN:Tok} {knaN knbN kncN kndN:Nat} {ksaN ksbN kscN ksdN:Array (Option Value)}
  (a1:nsIn K mainGlobals "_law_num"=some (some (.ref f1))) (l1:K.lookup f1=some ⟨oc1,od1,.func (fnOf "_law_num" "_law_num" (Ap NV) (An NV) (Ae NV) .none kV1 dc1 pm1 an1 cd1 ct1),sl1⟩) (c1:codeIn K cd1 "_law_num"=true) (k1:keepIn K (.ref f1)=true)
  (a2:nsIn K mainGlobals "_law_few"=some (some (.ref f2))) (l2:K.lookup f2=some ⟨oc2,od2,.func (fnOf "_law_few" "_law_few" (Ap M8) (An M8) (Ae M8) .none kV2 dc2 pm2 an2 cd2 ct2),sl2⟩) (c2:codeIn K cd2 "_law_few"=true) (k2:keepIn K (.ref f2)=true)
  (a3:nsIn K mainGlobals "_law_sentence"=some (some (.ref f3))) (l3:K.lookup f3=some ⟨oc3,od3,.func (fnOf "_law_sentence" "_law_sentence" (Ap Iy) (An Iy) (Ae Iy) .none kV3 dc3 pm3 an3 cd3 ct3),sl3⟩) (c3:codeIn K cd3 "_law_sentence"=true) (k3:keepIn K (.ref f3)=true)
  (a4:nsIn K mainGlobals "_law_worlds"=some (some (.ref f4))) (l4:K.lookup f4=some ⟨oc4,od4,.func (fnOf "_law_worlds" "_law_worlds" (Ap C0) (An C0) (Ae C0) .none kV4 dc4 pm4 an4 cd4 ct4),sl4⟩) (c4:codeIn K cd4 "_law_worlds"=true) (k4:keepIn K (.ref f4)=true)
  (a5:nsIn K mainGlobals "_law_some"=some (some (.ref f5))) (l5:K.lookup f5=some ⟨oc5,od5,.func (fnOf "_law_some" "_law_some" (Ap Fm) (An Fm) (Ae Fm) .none kV5 dc5 pm5 an5 cd5 ct5),sl5⟩) (c5:codeIn K cd5 "_law_some"=true) (k5:keepIn K (.ref f5)=true)
  (a6:nsIn K mainGlobals "_law_some_one"=some (some (.ref f6))) (l6:K.lookup f6=some ⟨oc6,od6,.func (fnOf "_law_some_one" "_law_some_one" (Ap Ca) (An Ca) (Ae Ca) .none kV6 dc6 pm6 an6 cd6 ct6),sl6⟩) (c6:codeIn K cd6 "_law_some_one"=true) (k6:keepIn K (.ref f6)=true)
  (a7:nsIn K mainGlobals "_law_room"=some (some (.ref f7))) (l7:K.lookup f7=some ⟨oc7,od7,.func (fnOf "_law_room" "_law_room" (Ap Fy) (An Fy) (Ae Fy) .none kV7 dc7 pm7 an7 cd7 ct7),sl7⟩) (c7:codeIn K cd7 "_law_room"=true) (k7:keepIn K (.ref f7)=true)
  (a8:nsIn K mainGlobals "_law_true"=some (some (.ref f8))) (l8:K.lookup f8=some ⟨oc8,od8,.func (fnOf "_law_true" "_law_true" (Ap DB) (An DB) (Ae DB) .none kV8 dc8 pm8 an8 cd8 ct8),sl8⟩) (c8:codeIn K cd8 "_law_true"=true) (k8:keepIn K (.ref f8)=true)
  (a9:nsIn K mainGlobals "_law_ins"=some (some (.ref f9))) (l9:K.lookup f9=some ⟨oc9,od9,.func (fnOf "_law_ins" "_law_ins" (Ap HR) (An HR) (Ae HR) .none kV9 dc9 pm9 an9 cd9 ct9),sl9⟩) (c9:codeIn K cd9 "_law_ins"=true) (k9:keepIn K (.ref f9)=true)
  (a10:nsIn K mainGlobals "_law_kind"=some (some (.ref f10))) (l10:K.lookup f10=some ⟨oc10,od10,.func (fnOf "_law_kind" "_law_kind" (Ap FW) (An FW) (Ae FW) .none kV10 dc10 pm10 an10 cd10 ct10),sl10⟩) (c10:codeIn K cd10 "_law_kind"=true) (k10:keepIn K (.ref f10)=true)
  (a11:nsIn K mainGlobals "_law_start"=some (some (.ref f11))) (l11:K.lookup f11=some ⟨oc11,od11,.func (fnOf "_law_start" "_law_start" (Ap D7) (An D7) (Ae D7) .none kV11 dc11 pm11 an11 cd11 ct11),sl11⟩) (c11:codeIn K cd11 "_law_start"=true) (k11:keepIn K (.ref f11)=true)
  (a12:nsIn K mainGlobals "_law_rule"=some (some (.ref f12))) (l12:K.lookup f12=some ⟨oc12,od12,.func (fnOf "_law_rule" "_law_rule" (Ap FI) (An FI) (Ae FI) .none kV12 dc12 pm12 an12 cd12 ct12),sl12⟩) (c12:codeIn K cd12 "_law_rule"=true) (k12:keepIn K (.ref f12)=true)
  (a13:nsIn K mainGlobals "_law_outs"=some (some (.ref f13))) (l13:K.lookup f13=some ⟨oc13,od13,.func (fnOf "_law_outs" "_law_outs" (Ap EI) (An EI) (Ae EI) .none kV13 dc13 pm13 an13 cd13 ct13),sl13⟩) (c13:codeIn K cd13 "_law_outs"=true) (k13:keepIn K (.ref f13)=true)
  (a14:nsIn K mainGlobals "_law_sides"=some (some (.ref f14))) (l14:K.lookup f14=some ⟨oc14,od14,.func (fnOf "_law_sides" "_law_sides" (Ap D4) (An D4) (Ae D4) .none kV14 dc14 pm14 an14 cd14 ct14),sl14⟩) (c14:codeIn K cd14 "_law_sides"=true) (k14:keepIn K (.ref f14)=true)
  (a15:nsIn K mainGlobals "_law_base"=some (some (.ref f15))) (l15:K.lookup f15=some ⟨oc15,od15,.func (fnOf "_law_base" "_law_base" (Ap FT) (An FT) (Ae FT) .none kV15 dc15 pm15 an15 cd15 ct15),sl15⟩) (c15:codeIn K cd15 "_law_base"=true) (k15:keepIn K (.ref f15)=true)
  (a16:nsIn K mainGlobals "_law_seen"=some (some (.ref f16))) (l16:K.lookup f16=some ⟨oc16,od16,.func (fnOf "_law_seen" "_law_seen" (Ap FZ) (An FZ) (Ae FZ) .none kV16 dc16 pm16 an16 cd16 ct16),sl16⟩) (c16:codeIn K cd16 "_law_seen"=true) (k16:keepIn K (.ref f16)=true)
  (a17:nsIn K mainGlobals "_law_last"=some (some (.ref f17))) (l17:K.lookup f17=some ⟨oc17,od17,.func (fnOf "_law_last" "_law_last" (Ap Fz) (An Fz) (Ae Fz) .none kV17 dc17 pm17 an17 cd17 ct17),sl17⟩) (c17:codeIn K cd17 "_law_last"=true) (k17:keepIn K (.ref f17)=true)
  (a18:nsIn K mainGlobals "_law_asked"=some (some (.ref f18))) (l18:K.lookup f18=some ⟨oc18,od18,.func (fnOf "_law_asked" "_law_asked" (Ap Ef) (An Ef) (Ae Ef) .none kV18 dc18 pm18 an18 cd18 ct18),sl18⟩) (c18:codeIn K cd18 "_law_asked"=true) (k18:keepIn K (.ref f18)=true)
  (a19:nsIn K mainGlobals "_law_asks"=some (some (.ref f19))) (l19:K.lookup f19=some ⟨oc19,od19,.func (fnOf "_law_asks" "_law_asks" (Ap FJ) (An FJ) (Ae FJ) .none kV19 dc19 pm19 an19 cd19 ct19),sl19⟩) (c19:codeIn K cd19 "_law_asks"=true) (k19:keepIn K (.ref f19)=true)
  (a20:findIn K (.ref cK) "over"=some (some (.ref f20))) (i20:isFn K (.ref f20)=true) (l20:K.lookup f20=some ⟨oc20,od20,.func (fnOf "over" "Talk.over" (Ap FM) (An FM) (Ae FM) .none kV20 dc20 pm20 an20 cd20 ct20),sl20⟩) (c20:codeIn K cd20 "Talk.over"=true) (k20:keepIn K (.ref f20)=true)
  (a21:nsIn K mainGlobals "refuse_over"=some (some (.ref f21))) (l21:K.lookup f21=some ⟨oc21,od21,.func (fnOf "refuse_over" "refuse_over" (Ap Dn) (An Dn) (Ae Dn) .none kV21 dc21 pm21 an21 cd21 ct21),sl21⟩) (c21:codeIn K cd21 "refuse_over"=true) (k21:keepIn K (.ref f21)=true)
  (a22:nsIn K mainGlobals "in_both"=some (some (.ref f22))) (l22:K.lookup f22=some ⟨oc22,od22,.func (fnOf "in_both" "in_both" (Ap IW) (An IW) (Ae IW) .none kV22 dc22 pm22 an22 cd22 ct22),sl22⟩) (c22:codeIn K cd22 "in_both"=true) (k22:keepIn K (.ref f22)=true)
  (a23:nsIn K mainGlobals "some_within"=some (some (.ref f23))) (l23:K.lookup f23=some ⟨oc23,od23,.func (fnOf "some_within" "some_within" (Ap FO) (An FO) (Ae FO) .none kV23 dc23 pm23 an23 cd23 ct23),sl23⟩) (c23:codeIn K cd23 "some_within"=true) (k23:keepIn K (.ref f23)=true)
  (a24:nsIn K mainGlobals "catching_parts"=some (some (.ref f24))) (l24:K.lookup f24=some ⟨oc24,od24,.func (fnOf "catching_parts" "catching_parts" (Ap Eg) (An Eg) (Ae Eg) .none kV24 dc24 pm24 an24 cd24 ct24),sl24⟩) (c24:codeIn K cd24 "catching_parts"=true) (k24:keepIn K (.ref f24)=true)
  (a25:nsIn K mainGlobals "in_first_only"=some (some (.ref f25))) (l25:K.lookup f25=some ⟨oc25,od25,.func (fnOf "in_first_only" "in_first_only" (Ap FG) (An FG) (Ae FG) .none kV25 dc25 pm25 an25 cd25 ct25),sl25⟩) (c25:codeIn K cd25 "in_first_only"=true) (k25:keepIn K (.ref f25)=true)
  (a26:nsIn K mainGlobals "all_worlds"=some (some (.ref f26))) (l26:K.lookup f26=some ⟨oc26,od26,.func (fnOf "all_worlds" "all_worlds" (Ap IV) (An IV) (Ae IV) .none kV26 dc26 pm26 an26 cd26 ct26),sl26⟩) (c26:codeIn K cd26 "all_worlds"=true) (k26:keepIn K (.ref f26)=true)
  (a27:nsIn K mainGlobals "both"=some (some (.ref f27))) (l27:K.lookup f27=some ⟨oc27,od27,.func (fnOf "both" "both" (Ap Fv) (An Fv) (Ae Fv) .none kV27 dc27 pm27 an27 cd27 ct27),sl27⟩) (c27:codeIn K cd27 "both"=true) (k27:keepIn K (.ref f27)=true)
  (a28:nsIn K mainGlobals "by_letter"=some (some (.ref f28))) (l28:K.lookup f28=some ⟨oc28,od28,.func (fnOf "by_letter" "by_letter" (Ap Cf) (An Cf) (Ae Cf) .none kV28 dc28 pm28 an28 cd28 ct28),sl28⟩) (c28:codeIn K cd28 "by_letter"=true) (k28:keepIn K (.ref f28)=true)
  (a29:nsIn K mainGlobals "sentence_of"=some (some (.ref f29))) (l29:K.lookup f29=some ⟨oc29,od29,.func (fnOf "sentence_of" "sentence_of" (Ap BF) (An BF) (Ae BF) .none kV29 dc29 pm29 an29 cd29 ct29),sl29⟩) (c29:codeIn K cd29 "sentence_of"=true) (k29:keepIn K (.ref f29)=true)
  (a30:findIn K (.ref cK) "room"=some (some (.ref f30))) (i30:isFn K (.ref f30)=true) (l30:K.lookup f30=some ⟨oc30,od30,.func (fnOf "room" "Talk.room" (Ap Fp) (An Fp) (Ae Fp) .none kV30 dc30 pm30 an30 cd30 ct30),sl30⟩) (c30:codeIn K cd30 "Talk.room"=true) (k30:keepIn K (.ref f30)=true)
  (a31:findIn K (.ref cK) "sides"=some (some (.ref f31))) (i31:isFn K (.ref f31)=true) (l31:K.lookup f31=some ⟨oc31,od31,.func (fnOf "sides" "Talk.sides" (Ap Eo) (An Eo) (Ae Eo) .none kV31 dc31 pm31 an31 cd31 ct31),sl31⟩) (c31:codeIn K cd31 "Talk.sides"=true) (k31:keepIn K (.ref f31)=true)
  (a32:findIn K (.ref cK) "held"=some (some (.ref f32))) (i32:isFn K (.ref f32)=true) (l32:K.lookup f32=some ⟨oc32,od32,.func (fnOf "held" "Talk.held" (Ap FF) (An FF) (Ae FF) .none kV32 dc32 pm32 an32 cd32 ct32),sl32⟩) (c32:codeIn K cd32 "Talk.held"=true) (k32:keepIn K (.ref f32)=true)
  (a33:nsIn K mainGlobals "missed_side"=some (some (.ref f33))) (l33:K.lookup f33=some ⟨oc33,od33,.func (fnOf "missed_side" "missed_side" (Ap Ed) (An Ed) (Ae Ed) .none kV33 dc33 pm33 an33 cd33 ct33),sl33⟩) (c33:codeIn K cd33 "missed_side"=true) (k33:keepIn K (.ref f33)=true)
  (a34:nsIn K mainGlobals "stands"=some (some (.ref f34))) (l34:K.lookup f34=some ⟨oc34,od34,.func (fnOf "stands" "stands" (Ap Ec) (An Ec) (Ae Ec) .none kV34 dc34 pm34 an34 cd34 ct34),sl34⟩) (c34:codeIn K cd34 "stands"=true) (k34:keepIn K (.ref f34)=true)
  (a35:findIn K (.ref cK) "caught"=some (some (.ref f35))) (i35:isFn K (.ref f35)=true) (l35:K.lookup f35=some ⟨oc35,od35,.func (fnOf "caught" "Talk.caught" (Ap Df) (An Df) (Ae Df) .none kV35 dc35 pm35 an35 cd35 ct35),sl35⟩) (c35:codeIn K cd35 "Talk.caught"=true) (k35:keepIn K (.ref f35)=true)
  (a36:nsIn K mainGlobals "catch_by"=some (some (.ref f36))) (l36:K.lookup f36=some ⟨oc36,od36,.func (fnOf "catch_by" "catch_by" (Ap CQ) (An CQ) (Ae CQ) .none kV36 dc36 pm36 an36 cd36 ct36),sl36⟩) (c36:codeIn K cd36 "catch_by"=true) (k36:keepIn K (.ref f36)=true)
  (a37:nsIn K mainGlobals "_law_left"=some (some (.ref f37))) (l37:K.lookup f37=some ⟨oc37,od37,.func (fnOf "_law_left" "_law_left" (Ap Fq) (An Fq) (Ae Fq) .none kV37 dc37 pm37 an37 cd37 ct37),sl37⟩) (c37:codeIn K cd37 "_law_left"=true) (k37:keepIn K (.ref f37)=true)
  (a38:nsIn K mainGlobals "_law_stands"=some (some (.ref f38))) (l38:K.lookup f38=some ⟨oc38,od38,.func (fnOf "_law_stands" "_law_stands" (Ap Dj) (An Dj) (Ae Dj) .none kV38 dc38 pm38 an38 cd38 ct38),sl38⟩) (c38:codeIn K cd38 "_law_stands"=true) (k38:keepIn K (.ref f38)=true)
  (a39:nsIn K mainGlobals "_law_small"=some (some (.ref f39))) (l39:K.lookup f39=some ⟨oc39,od39,.func (fnOf "_law_small" "_law_small" (Ap Ek) (An Ek) (Ae Ek) .none kV39 dc39 pm39 an39 cd39 ct39),sl39⟩) (c39:codeIn K cd39 "_law_small"=true) (k39:keepIn K (.ref f39)=true)
  (a40:nsIn K mainGlobals "_law_whole"=some (some (.ref f40))) (l40:K.lookup f40=some ⟨oc40,od40,.func (fnOf "_law_whole" "_law_whole" (Ap Fo) (An Fo) (Ae Fo) .none kV40 dc40 pm40 an40 cd40 ct40),sl40⟩) (c40:codeIn K cd40 "_law_whole"=true) (k40:keepIn K (.ref f40)=true)
  (a41:nsIn K mainGlobals "_law_good"=some (some (.ref f41))) (l41:K.lookup f41=some ⟨oc41,od41,.func (fnOf "_law_good" "_law_good" (Ap EC) (An EC) (Ae EC) .none kV41 dc41 pm41 an41 cd41 ct41),sl41⟩) (c41:codeIn K cd41 "_law_good"=true) (k41:keepIn K (.ref f41)=true)
  (a42:nsIn K mainGlobals "_law_tree_is"=some (some (.ref f42))) (l42:K.lookup f42=some ⟨oc42,od42,.func (fnOf "_law_tree_is" "_law_tree_is" (Ap HH) (An HH) (Ae HH) .none kV42 dc42 pm42 an42 cd42 ct42),sl42⟩) (c42:codeIn K cd42 "_law_tree_is"=true) (k42:keepIn K (.ref f42)=true)
  (a43:nsIn K mainGlobals "_law_says"=some (some (.ref f43))) (l43:K.lookup f43=some ⟨oc43,od43,.func (fnOf "_law_says" "_law_says" (Ap IM) (An IM) (Ae IM) .none kV43 dc43 pm43 an43 cd43 ct43),sl43⟩) (c43:codeIn K cd43 "_law_says"=true) (k43:keepIn K (.ref f43)=true)
  (a44:nsIn K mainGlobals "_law_pair_is"=some (some (.ref f44))) (l44:K.lookup f44=some ⟨oc44,od44,.func (fnOf "_law_pair_is" "_law_pair_is" (Ap FQ) (An FQ) (Ae FQ) .none kV44 dc44 pm44 an44 cd44 ct44),sl44⟩) (c44:codeIn K cd44 "_law_pair_is"=true) (k44:keepIn K (.ref f44)=true)
  (a45:nsIn K mainGlobals "_law_pairs_are"=some (some (.ref f45))) (l45:K.lookup f45=some ⟨oc45,od45,.func (fnOf "_law_pairs_are" "_law_pairs_are" (Ap D9) (An D9) (Ae D9) .none kV45 dc45 pm45 an45 cd45 ct45),sl45⟩) (c45:codeIn K cd45 "_law_pairs_are"=true) (k45:keepIn K (.ref f45)=true)
  (a46:nsIn K mainGlobals "parts_of"=some (some (.ref f46))) (l46:K.lookup f46=some ⟨oc46,od46,.func (fnOf "parts_of" "parts_of" (Ap Fx) (An Fx) (Ae Fx) .none kV46 dc46 pm46 an46 cd46 ct46),sl46⟩) (c46:codeIn K cd46 "parts_of"=true) (k46:keepIn K (.ref f46)=true)
  (a47:nsIn K mainGlobals "letters"=some (some (.ref f47))) (l47:K.lookup f47=some ⟨oc47,od47,.func (fnOf "letters" "letters" (Ap Dg) (An Dg) (Ae Dg) .none kV47 dc47 pm47 an47 cd47 ct47),sl47⟩) (c47:codeIn K cd47 "letters"=true) (k47:keepIn K (.ref f47)=true)
  (a48:nsIn K mainGlobals "refuse_strange"=some (some (.ref f48))) (l48:K.lookup f48=some ⟨oc48,od48,.func (fnOf "refuse_strange" "refuse_strange" (Ap Do) (An Do) (Ae Do) .none kV48 dc48 pm48 an48 cd48 ct48),sl48⟩) (c48:codeIn K cd48 "refuse_strange"=true) (k48:keepIn K (.ref f48)=true)
  (a49:nsIn K mainGlobals "steps_of"=some (some (.ref f49))) (l49:K.lookup f49=some ⟨oc49,od49,.func (fnOf "steps_of" "steps_of" (Ap Fn) (An Fn) (Ae Fn) .none kV49 dc49 pm49 an49 cd49 ct49),sl49⟩) (c49:codeIn K cd49 "steps_of"=true) (k49:keepIn K (.ref f49)=true)
  (a50:nsIn K mainGlobals "letter_holds"=some (some (.ref f50))) (l50:K.lookup f50=some ⟨oc50,od50,.func (fnOf "letter_holds" "letter_holds" (Ap FN) (An FN) (Ae FN) .none kV50 dc50 pm50 an50 cd50 ct50),sl50⟩) (c50:codeIn K cd50 "letter_holds"=true) (k50:keepIn K (.ref f50)=true)
  (a51:nsIn K mainGlobals "joined"=some (some (.ref f51))) (l51:K.lookup f51=some ⟨oc51,od51,.func (fnOf "joined" "joined" (Ap El) (An El) (Ae El) .none kV51 dc51 pm51 an51 cd51 ct51),sl51⟩) (c51:codeIn K cd51 "joined"=true) (k51:keepIn K (.ref f51)=true)
  (a52:nsIn K mainGlobals "true_by"=some (some (.ref f52))) (l52:K.lookup f52=some ⟨oc52,od52,.func (fnOf "true_by" "true_by" (Ap Em) (An Em) (Ae Em) .none kV52 dc52 pm52 an52 cd52 ct52),sl52⟩) (c52:codeIn K cd52 "true_by"=true) (k52:keepIn K (.ref f52)=true)
  (a53:nsIn K mainGlobals "worlds_of"=some (some (.ref f53))) (l53:K.lookup f53=some ⟨oc53,od53,.func (fnOf "worlds_of" "worlds_of" (Ap Cd) (An Cd) (Ae Cd) .none kV53 dc53 pm53 an53 cd53 ct53),sl53⟩) (c53:codeIn K cd53 "worlds_of"=true) (k53:keepIn K (.ref f53)=true)
  (a54:nsIn K mainGlobals "sides_of"=some (some (.ref f54))) (l54:K.lookup f54=some ⟨oc54,od54,.func (fnOf "sides_of" "sides_of" (Ap Da) (An Da) (Ae Da) .none kV54 dc54 pm54 an54 cd54 ct54),sl54⟩) (c54:codeIn K cd54 "sides_of"=true) (k54:keepIn K (.ref f54)=true)
  (a55:nsIn K mainGlobals "in_any"=some (some (.ref f55))) (l55:K.lookup f55=some ⟨oc55,od55,.func (fnOf "in_any" "in_any" (Ap NX) (An NX) (Ae NX) .none kV55 dc55 pm55 an55 cd55 ct55),sl55⟩) (c55:codeIn K cd55 "in_any"=true) (k55:keepIn K (.ref f55)=true)
  (a56:nsIn K mainGlobals "base_of"=some (some (.ref f56))) (l56:K.lookup f56=some ⟨oc56,od56,.func (fnOf "base_of" "base_of" (Ap Ea) (An Ea) (Ae Ea) .none kV56 dc56 pm56 an56 cd56 ct56),sl56⟩) (c56:codeIn K cd56 "base_of"=true) (k56:keepIn K (.ref f56)=true)
  (a57:findIn K (.ref cK) "__init__"=some (some (.ref f57))) (i57:isFn K (.ref f57)=true) (l57:K.lookup f57=some ⟨oc57,od57,.func (fnOf "__init__" "Talk.__init__" (Ap FS) (An FS) (Ae FS) .none kV57 dc57 pm57 an57 cd57 ct57),sl57⟩) (c57:codeIn K cd57 "Talk.__init__"=true) (k57:keepIn K (.ref f57)=true)
  (a58:findIn K (.ref cK) "fork"=some (some (.ref f58))) (i58:isFn K (.ref f58)=true) (l58:K.lookup f58=some ⟨oc58,od58,.func (fnOf "fork" "Talk.fork" (Ap Ft) (An Ft) (Ae Ft) .none kV58 dc58 pm58 an58 cd58 ct58),sl58⟩) (c58:codeIn K cd58 "Talk.fork"=true) (k58:keepIn K (.ref f58)=true)
  (a59:nsIn K mainGlobals "all_within"=some (some (.ref f59))) (l59:K.lookup f59=some ⟨oc59,od59,.func (fnOf "all_within" "all_within" (Ap Fs) (An Fs) (Ae Fs) .none kV59 dc59 pm59 an59 cd59 ct59),sl59⟩) (c59:codeIn K cd59 "all_within"=true) (k59:keepIn K (.ref f59)=true)
  (a60:nsIn K mainGlobals "plain"=some (some (.ref f60))) (l60:K.lookup f60=some ⟨oc60,od60,.func (fnOf "plain" "plain" (Ap FX) (An FX) (Ae FX) .none kV60 dc60 pm60 an60 cd60 ct60),sl60⟩) (c60:codeIn K cd60 "plain"=true) (k60:keepIn K (.ref f60)=true)
  (a61:nsIn K mainGlobals "left_by"=some (some (.ref f61))) (l61:K.lookup f61=some ⟨oc61,od61,.func (fnOf "left_by" "left_by" (Ap Eb) (An Eb) (Ae Eb) .none kV61 dc61 pm61 an61 cd61 ct61),sl61⟩) (c61:codeIn K cd61 "left_by"=true) (k61:keepIn K (.ref f61)=true)
  (a62:nsIn K mainGlobals "barring_side"=some (some (.ref f62))) (l62:K.lookup f62=some ⟨oc62,od62,.func (fnOf "barring_side" "barring_side" (Ap Dm) (An Dm) (Ae Dm) .none kV62 dc62 pm62 an62 cd62 ct62),sl62⟩) (c62:codeIn K cd62 "barring_side"=true) (k62:keepIn K (.ref f62)=true)
  (a63:nsIn K mainGlobals "answer"=some (some (.ref f63))) (l63:K.lookup f63=some ⟨oc63,od63,.func (fnOf "answer" "answer" (Ap D2) (An D2) (Ae D2) .none kV63 dc63 pm63 an63 cd63 ct63),sl63⟩) (c63:codeIn K cd63 "answer"=true) (k63:keepIn K (.ref f63)=true)
  (a64:findIn K (.ref cK) "base"=some (some (.ref f64))) (i64:isFn K (.ref f64)=true) (l64:K.lookup f64=some ⟨oc64,od64,.func (fnOf "base" "Talk.base" (Ap FR) (An FR) (Ae FR) .none kV64 dc64 pm64 an64 cd64 ct64),sl64⟩) (c64:codeIn K cd64 "Talk.base"=true) (k64:keepIn K (.ref f64)=true)
  (a65:findIn K (.ref cK) "going"=some (some (.ref f65))) (i65:isFn K (.ref f65)=true) (l65:K.lookup f65=some ⟨oc65,od65,.func (fnOf "going" "Talk.going" (Ap DX) (An DX) (Ae DX) .none kV65 dc65 pm65 an65 cd65 ct65),sl65⟩) (c65:codeIn K cd65 "Talk.going"=true) (k65:keepIn K (.ref f65)=true)
  (a66:findIn K (.ref cK) "ask"=some (some (.ref f66))) (i66:isFn K (.ref f66)=true) (l66:K.lookup f66=some ⟨oc66,od66,.func (fnOf "ask" "Talk.ask" (Ap IE) (An IE) (Ae IE) .none kV66 dc66 pm66 an66 cd66 ct66),sl66⟩) (c66:codeIn K cd66 "Talk.ask"=true) (k66:keepIn K (.ref f66)=true)
  (a67:findIn K (.ref cK) "say"=some (some (.ref f67))) (i67:isFn K (.ref f67)=true) (l67:K.lookup f67=some ⟨oc67,od67,.func (fnOf "say" "Talk.say" (Ap HD) (An HD) (Ae HD) .none kV67 dc67 pm67 an67 cd67 ct67),sl67⟩) (c67:codeIn K cd67 "Talk.say"=true) (k67:keepIn K (.ref f67)=true)
  (a68:nsIn K mainGlobals "_law_walked"=some (some (.ref f68))) (l68:K.lookup f68=some ⟨oc68,od68,.func (fnOf "_law_walked" "_law_walked" (Ap Dh) (An Dh) (Ae Dh) .none kV68 dc68 pm68 an68 cd68 ct68),sl68⟩) (c68:codeIn K cd68 "_law_walked"=true) (k68:keepIn K (.ref f68)=true)
  (a69:findIn K (.ref cK) "entries"=some (some (.ref f69))) (i69:isFn K (.ref f69)=true) (l69:K.lookup f69=some ⟨oc69,od69,.func (fnOf "entries" "Talk.entries" (Ap Cb) (An Cb) (Ae Cb) .none kV69 dc69 pm69 an69 cd69 ct69),sl69⟩) (c69:codeIn K cd69 "Talk.entries"=true) (k69:keepIn K (.ref f69)=true)
  (a70:nsIn K mainGlobals "law"=some (some (.ref f70))) (l70:K.lookup f70=some ⟨oc70,od70,.func (fnOf "law" "law" (Ap JN) (An JN) (Ae JN) .none kV70 dc70 pm70 an70 cd70 ct70),sl70⟩) (c70:codeIn K cd70 "law"=true) (k70:keepIn K (.ref f70)=true)
  (yabs:nsIn K mainGlobals "abs"=some none)
  (ylen:nsIn K mainGlobals "len"=some none)
  (yrange:nsIn K mainGlobals "range"=some none)
  (yisinstance:nsIn K mainGlobals "isinstance"=some none)
  (yint:nsIn K mainGlobals "int"=some none)
  (ybool:nsIn K mainGlobals "bool"=some none)
  (ystr:nsIn K mainGlobals "str"=some none)
  (ytuple:nsIn K mainGlobals "tuple"=some none)
  (ylist:nsIn K mainGlobals "list"=some none)
  (yset:nsIn K mainGlobals "set"=some none)
  (ysorted:nsIn K mainGlobals "sorted"=some none)
  (yany:nsIn K mainGlobals "any"=some none)
  (yall:nsIn K mainGlobals "all"=some none)
  (yValueError:nsIn K mainGlobals "ValueError"=some none)
  (yenumerate:nsIn K mainGlobals "enumerate"=some none)
  (ymin:nsIn K mainGlobals "min"=some none)
  (xTn:nsIn K mainGlobals "TalkError"=some (some (.ref cT)))
  (xTl:K.lookup cT=some ⟨.type "type",xTdd,.cls { name:=xTnm,bases:=xTbs,mro:=.ref cT::HZ,ns:=NT,qualname:=xTq,hasDict:=xThd,slotNames:=xTsn,subclasses:=xTsub,abstract:=xTab,collection:=xTcol,hasDel:=false },#[xTa,xTb,xTc,xTd,xTe,xTf]⟩)
  (xTm:K.lookup NT=some ⟨xToc,xTod,.dict xTes xTep,xTsl⟩)
  (nTs:(xTes.all (fun e=>match e.key with | .str _ _=>true | _=>false))=true)
  (xTi:nsIn K NT "__init__"=some none)
  (xTc1:clsIn K cT=some XDT)
  (xTt:typeIn K (.ref cT)=some (.type "type"))
  (xTbse:mroIn K cT (.type "BaseException")=some true)
  (nuV:PySem.W.kitMeta "ValueError"=true)
  (xcg:PySem.W.specialIn K (.builtin "object.__class__") "__get__"=some (some (.builtin "getset_descriptor.__get__")))
  (xct:PySem.W.takesIn K (.builtin "object.__class__")=some true)
  (xn0:nsIn K mainGlobals "StrangeLetter"=some (some (.ref cS)))
  (xl0:K.lookup cS=some (excClassObj xnm0 xq0 cS NcS xbs0 (.ref cT::HZ) true xsn0 xsub0 xab0 xcol0 xdd0 xka0 xkb0 xkc0 xkd0 xkf0 "ValueError.__new__"))
  (xm0:K.lookup NcS=some ⟨xoc0,xod0,.dict xes0 xep0,xsl0⟩)
  (nxs0:(xes0.all (fun e=>match e.key with | .str _ _=>true | _=>false))=true)
  (xi0:nsIn K NcS "__init__"=some none)
  (xkp0:keepIn K (.ref cS)=true)
  (xcd0:clsIn K cS=some XD0)
  (nxm0:XD0.mro= .ref cS::.ref cT::HZ)
  (nxd0:XD0.hasDict=true)
  (xsa0:findIn K (.ref cS) "__setattr__"=some (some (.builtin "object.__setattr__")))
  (xga0:findIn K (.ref cS) "__getattribute__"=some (some (.builtin "BaseException.__getattribute__")))
  (xgn0:findIn K (.ref cS) "__getattr__"=some none)
  (xca0:findIn K (.ref cS) "__class__"=some (some (.builtin "object.__class__")))
  (xt0:typeIn K (.ref cS)=some (.type "type"))
  (xb0:mroIn K cS (.type "BaseException")=some true)
  (xs0:mroIn K cS (.ref cS)=some true)
  (xu0:mroIn K cS (.ref cT)=some true)
  (xv0:subIn K (.ref cS) (.type "ValueError")=some true)
  (xn1:nsIn K mainGlobals "BadWord"=some (some (.ref cB)))
  (xl1:K.lookup cB=some (excClassObj xnm1 xq1 cB NcB xbs1 (.ref cT::HZ) true xsn1 xsub1 xab1 xcol1 xdd1 xka1 xkb1 xkc1 xkd1 xkf1 "ValueError.__new__"))
  (xm1:K.lookup NcB=some ⟨xoc1,xod1,.dict xes1 xep1,xsl1⟩)
  (nxs1:(xes1.all (fun e=>match e.key with | .str _ _=>true | _=>false))=true)
  (xi1:nsIn K NcB "__init__"=some none)
  (xkp1:keepIn K (.ref cB)=true)
  (xcd1:clsIn K cB=some XD1)
  (nxm1:XD1.mro= .ref cB::.ref cT::HZ)
  (nxd1:XD1.hasDict=true)
  (xsa1:findIn K (.ref cB) "__setattr__"=some (some (.builtin "object.__setattr__")))
  (xga1:findIn K (.ref cB) "__getattribute__"=some (some (.builtin "BaseException.__getattribute__")))
  (xgn1:findIn K (.ref cB) "__getattr__"=some none)
  (xca1:findIn K (.ref cB) "__class__"=some (some (.builtin "object.__class__")))
  (xt1:typeIn K (.ref cB)=some (.type "type"))
  (xb1:mroIn K cB (.type "BaseException")=some true)
  (xs1:mroIn K cB (.ref cB)=some true)
  (xu1:mroIn K cB (.ref cT)=some true)
  (xv1:subIn K (.ref cB) (.type "ValueError")=some true)
  (xn2:nsIn K mainGlobals "NoStanding"=some (some (.ref cN)))
  (xl2:K.lookup cN=some (excClassObj xnm2 xq2 cN NcN xbs2 (.ref cT::HZ) true xsn2 xsub2 xab2 xcol2 xdd2 xka2 xkb2 xkc2 xkd2 xkf2 "ValueError.__new__"))
  (xm2:K.lookup NcN=some ⟨xoc2,xod2,.dict xes2 xep2,xsl2⟩)
  (nxs2:(xes2.all (fun e=>match e.key with | .str _ _=>true | _=>false))=true)
  (xi2:nsIn K NcN "__init__"=some none)
  (xkp2:keepIn K (.ref cN)=true)
  (xcd2:clsIn K cN=some XD2)
  (nxm2:XD2.mro= .ref cN::.ref cT::HZ)
  (nxd2:XD2.hasDict=true)
  (xsa2:findIn K (.ref cN) "__setattr__"=some (some (.builtin "object.__setattr__")))
  (xga2:findIn K (.ref cN) "__getattribute__"=some (some (.builtin "BaseException.__getattribute__")))
  (xgn2:findIn K (.ref cN) "__getattr__"=some none)
  (xca2:findIn K (.ref cN) "__class__"=some (some (.builtin "object.__class__")))
  (xt2:typeIn K (.ref cN)=some (.type "type"))
  (xb2:mroIn K cN (.type "BaseException")=some true)
  (xs2:mroIn K cN (.ref cN)=some true)
  (xu2:mroIn K cN (.ref cT)=some true)
  (xv2:subIn K (.ref cN) (.type "ValueError")=some true)
  (xn3:nsIn K mainGlobals "TalkOver"=some (some (.ref cO)))
  (xl3:K.lookup cO=some (excClassObj xnm3 xq3 cO NcO xbs3 (.ref cT::HZ) true xsn3 xsub3 xab3 xcol3 xdd3 xka3 xkb3 xkc3 xkd3 xkf3 "ValueError.__new__"))
  (xm3:K.lookup NcO=some ⟨xoc3,xod3,.dict xes3 xep3,xsl3⟩)
  (nxs3:(xes3.all (fun e=>match e.key with | .str _ _=>true | _=>false))=true)
  (xi3:nsIn K NcO "__init__"=some none)
  (xkp3:keepIn K (.ref cO)=true)
  (xcd3:clsIn K cO=some XD3)
  (nxm3:XD3.mro= .ref cO::.ref cT::HZ)
  (nxd3:XD3.hasDict=true)
  (xsa3:findIn K (.ref cO) "__setattr__"=some (some (.builtin "object.__setattr__")))
  (xga3:findIn K (.ref cO) "__getattribute__"=some (some (.builtin "BaseException.__getattribute__")))
  (xgn3:findIn K (.ref cO) "__getattr__"=some none)
  (xca3:findIn K (.ref cO) "__class__"=some (some (.builtin "object.__class__")))
  (xt3:typeIn K (.ref cO)=some (.type "type"))
  (xb3:mroIn K cO (.type "BaseException")=some true)
  (xs3:mroIn K cO (.ref cO)=some true)
  (xu3:mroIn K cO (.ref cT)=some true)
  (xv3:subIn K (.ref cO) (.type "ValueError")=some true)
  (xp0_1:subIn K (.ref cS) (.ref cB)=some false)
  (nq0_1:(Value.ref cS == Value.ref cB)=false)
  (xr0_1:mroIn K cS (.ref cB)=some false)
  (xp0_2:subIn K (.ref cS) (.ref cN)=some false)
  (nq0_2:(Value.ref cS == Value.ref cN)=false)
  (xr0_2:mroIn K cS (.ref cN)=some false)
  (xp0_3:subIn K (.ref cS) (.ref cO)=some false)
  (nq0_3:(Value.ref cS == Value.ref cO)=false)
  (xr0_3:mroIn K cS (.ref cO)=some false)
  (xp1_0:subIn K (.ref cB) (.ref cS)=some false)
  (nq1_0:(Value.ref cB == Value.ref cS)=false)
  (xr1_0:mroIn K cB (.ref cS)=some false)
  (xp1_2:subIn K (.ref cB) (.ref cN)=some false)
  (nq1_2:(Value.ref cB == Value.ref cN)=false)
  (xr1_2:mroIn K cB (.ref cN)=some false)
  (xp1_3:subIn K (.ref cB) (.ref cO)=some false)
  (nq1_3:(Value.ref cB == Value.ref cO)=false)
  (xr1_3:mroIn K cB (.ref cO)=some false)
  (xp2_0:subIn K (.ref cN) (.ref cS)=some false)
  (nq2_0:(Value.ref cN == Value.ref cS)=false)
  (xr2_0:mroIn K cN (.ref cS)=some false)
  (xp2_1:subIn K (.ref cN) (.ref cB)=some false)
  (nq2_1:(Value.ref cN == Value.ref cB)=false)
  (xr2_1:mroIn K cN (.ref cB)=some false)
  (xp2_3:subIn K (.ref cN) (.ref cO)=some false)
  (nq2_3:(Value.ref cN == Value.ref cO)=false)
  (xr2_3:mroIn K cN (.ref cO)=some false)
  (xp3_0:subIn K (.ref cO) (.ref cS)=some false)
  (nq3_0:(Value.ref cO == Value.ref cS)=false)
  (xr3_0:mroIn K cO (.ref cS)=some false)
  (xp3_1:subIn K (.ref cO) (.ref cB)=some false)
  (nq3_1:(Value.ref cO == Value.ref cB)=false)
  (xr3_1:mroIn K cO (.ref cB)=some false)
  (xp3_2:subIn K (.ref cO) (.ref cN)=some false)
  (nq3_2:(Value.ref cO == Value.ref cN)=false)
  (xr3_2:mroIn K cO (.ref cN)=some false)
  (aCTalk:nsIn K mainGlobals "Talk"=some (some (.ref cK)))
  (pgTalk:PySem.W.plainGet K cK Str.empty=true)
  (hdTalk:PySem.W.hasDictIn K cK=true)
  (poTalk:PySem.W.plainOver K cK=true)
  (saTalk:findIn K (.ref cK) "__setattr__"=some (some (.builtin "object.__setattr__")))
  (mkTalk:PySem.W.makesIn K cK=true)
  (kcTalk:keepIn K (.ref cK)=true)
  (wTalk_many:findIn K (.ref cK) "many"=some none)
  (wTalk_kind:findIn K (.ref cK) "kind"=some none)
  (wTalk_sentence:findIn K (.ref cK) "sentence"=some none)
  (wTalk_rule:findIn K (.ref cK) "rule"=some none)
  (wTalk_space:findIn K (.ref cK) "space"=some none)
  (wTalk_parts:findIn K (.ref cK) "parts"=some none)
  (wTalk_given:findIn K (.ref cK) "given"=some none)
  (wTalk_left:findIn K (.ref cK) "left"=some none)
  (wTalk_ended:findIn K (.ref cK) "ended"=some none)
  (kcA:nsIn K mainGlobals "ALWAYS"=some (some (.ref aA)))
  (kdA:K.lookup aA=some ⟨.type "tuple",kdaA,.seq #[.str "or" ktaA,.ref kpA,.ref kqA] knaA,ksaA⟩)
  (keA:K.lookup kpA=some ⟨.type "tuple",kdbA,.seq #[.str "let" ktbA,.int 0 ktcA] knbA,ksbA⟩)
  (kfA:K.lookup kqA=some ⟨.type "tuple",kdcA,.seq #[.str "not" ktdA,.ref krA] kncA,kscA⟩)
  (kgA:K.lookup krA=some ⟨.type "tuple",kddA,.seq #[.str "let" kteA,.int 0 ktfA] kndA,ksdA⟩)
  (kcN:nsIn K mainGlobals "NEVER"=some (some (.ref aN)))
  (kdN:K.lookup aN=some ⟨.type "tuple",kdaN,.seq #[.str "and" ktaN,.ref kpN,.ref kqN] knaN,ksaN⟩)
  (keN:K.lookup kpN=some ⟨.type "tuple",kdbN,.seq #[.str "let" ktbN,.int 0 ktcN] knbN,ksbN⟩)
  (kfN:K.lookup kqN=some ⟨.type "tuple",kdcN,.seq #[.str "not" ktdN,.ref krN] kncN,kscN⟩)
  (kgN:K.lookup krN=some ⟨.type "tuple",kddN,.seq #[.str "let" kteN,.int 0 ktfN] kndN,ksdN⟩)
  : ∃fd:FuncData,(∀(s:Shared) (v:Value),BindsTo s fd ⟨[v],[]⟩ [("_law_script",v)])∧∀bz:Heap,K.In bz→bz.Ns mainGlobals mg→FnOk l.prog w K mg bz AG 74 fa fd ["_law_script"] (MN K):=by
 have e:=hfa.symm.trans (mg_of X G a70)
 cases e
 have F1:=AA (st:=NV) l1 c1 k1
 have F2:=AA (st:=M8) l2 c2 k2
 have F3:=AA (st:=Iy) l3 c3 k3
 have F4:=AA (st:=C0) l4 c4 k4
 have F5:=AA (st:=Fm) l5 c5 k5
 have F6:=AA (st:=Ca) l6 c6 k6
 have F7:=AA (st:=Fy) l7 c7 k7
 have F8:=AA (st:=DB) l8 c8 k8
 have F9:=AA (st:=HR) l9 c9 k9
 have F10:=AA (st:=FW) l10 c10 k10
 have F11:=AA (st:=D7) l11 c11 k11
 have F12:=AA (st:=FI) l12 c12 k12
 have F13:=AA (st:=EI) l13 c13 k13
 have F14:=AA (st:=D4) l14 c14 k14
 have F15:=AA (st:=FT) l15 c15 k15
 have F16:=AA (st:=FZ) l16 c16 k16
 have F17:=AA (st:=Fz) l17 c17 k17
 have F18:=AA (st:=Ef) l18 c18 k18
 have F19:=AA (st:=FJ) l19 c19 k19
 have F20:=AA (st:=FM) l20 c20 k20
 have F21:=AA (st:=Dn) l21 c21 k21
 have F22:=AA (st:=IW) l22 c22 k22
 have F23:=AA (st:=FO) l23 c23 k23
 have F24:=AA (st:=Eg) l24 c24 k24
 have F25:=AA (st:=FG) l25 c25 k25
 have F26:=AA (st:=IV) l26 c26 k26
 have F27:=AA (st:=Fv) l27 c27 k27
 have F28:=AA (st:=Cf) l28 c28 k28
 have F29:=AA (st:=BF) l29 c29 k29
 have F30:=AA (st:=Fp) l30 c30 k30
 have F31:=AA (st:=Eo) l31 c31 k31
 have F32:=AA (st:=FF) l32 c32 k32
 have F33:=AA (st:=Ed) l33 c33 k33
 have F34:=AA (st:=Ec) l34 c34 k34
 have F35:=AA (st:=Df) l35 c35 k35
 have F36:=AA (st:=CQ) l36 c36 k36
 have F37:=AA (st:=Fq) l37 c37 k37
 have F38:=AA (st:=Dj) l38 c38 k38
 have F39:=AA (st:=Ek) l39 c39 k39
 have F40:=AA (st:=Fo) l40 c40 k40
 have F41:=AA (st:=EC) l41 c41 k41
 have F42:=AA (st:=HH) l42 c42 k42
 have F43:=AA (st:=IM) l43 c43 k43
 have F44:=AA (st:=FQ) l44 c44 k44
 have F45:=AA (st:=D9) l45 c45 k45
 have F46:=AA (st:=Fx) l46 c46 k46
 have F47:=AA (st:=Dg) l47 c47 k47
 have F48:=AA (st:=Do) l48 c48 k48
 have F49:=AA (st:=Fn) l49 c49 k49
 have F50:=AA (st:=FN) l50 c50 k50
 have F51:=AA (st:=El) l51 c51 k51
 have F52:=AA (st:=Em) l52 c52 k52
 have F53:=AA (st:=Cd) l53 c53 k53
 have F54:=AA (st:=Da) l54 c54 k54
 have F55:=AA (st:=NX) l55 c55 k55
 have F56:=AA (st:=Ea) l56 c56 k56
 have F57:=AA (st:=FS) l57 c57 k57
 have F58:=AA (st:=Ft) l58 c58 k58
 have F59:=AA (st:=Fs) l59 c59 k59
 have F60:=AA (st:=FX) l60 c60 k60
 have F61:=AA (st:=Eb) l61 c61 k61
 have F62:=AA (st:=Dm) l62 c62 k62
 have F63:=AA (st:=D2) l63 c63 k63
 have F64:=AA (st:=FR) l64 c64 k64
 have F65:=AA (st:=DX) l65 c65 k65
 have F66:=AA (st:=IE) l66 c66 k66
 have F67:=AA (st:=HD) l67 c67 k67
 have F68:=AA (st:=Dh) l68 c68 k68
 have F69:=AA (st:=Cb) l69 c69 k69
 have FLAW:=AA (st:=JN) l70 c70 k70
 have C1:AM K mg "_law_num" f1 _ ["_law_script","_law_k"]:=⟨mg_of X G a1,k1,F1.binds fun _ _ _ _ _ _ us hl=>(by obtain⟨_,_,rfl⟩:=A3 hl;rfl)⟩
 have C2:AM K mg "_law_few" f2 _ ["_law_n"]:=⟨mg_of X G a2,k2,F2.binds fun _ _ _ _ _ _ us hl=>(by obtain⟨_,rfl⟩:=Bg hl;rfl)⟩
 have C3:AM K mg "_law_sentence" f3 _ ["_law_n","_law_most","_law_many"]:=⟨mg_of X G a3,k3,F3.binds fun _ _ _ _ _ _ us hl=>(by obtain⟨_,_,_,rfl⟩:=BL hl;rfl)⟩
 have C4:AM K mg "_law_worlds" f4 _ ["_law_many"]:=⟨mg_of X G a4,k4,F4.binds fun _ _ _ _ _ _ us hl=>(by obtain⟨_,rfl⟩:=Bg hl;rfl)⟩
 have C5:AM K mg "_law_some" f5 _ ["_law_n","_law_row"]:=⟨mg_of X G a5,k5,F5.binds fun _ _ _ _ _ _ us hl=>(by obtain⟨_,_,rfl⟩:=A3 hl;rfl)⟩
 have C6:AM K mg "_law_some_one" f6 _ ["_law_n","_law_row"]:=⟨mg_of X G a6,k6,F6.binds fun _ _ _ _ _ _ us hl=>(by obtain⟨_,_,rfl⟩:=A3 hl;rfl)⟩
 have C7:AM K mg "_law_room" f7 _ ["_law_n","_law_many"]:=⟨mg_of X G a7,k7,F7.binds fun _ _ _ _ _ _ us hl=>(by obtain⟨_,_,rfl⟩:=A3 hl;rfl)⟩
 have C8:AM K mg "_law_true" f8 _ ["_law_sentence_here","_law_world"]:=⟨mg_of X G a8,k8,F8.binds fun _ _ _ _ _ _ us hl=>(by obtain⟨_,_,rfl⟩:=A3 hl;rfl)⟩
 have C9:AM K mg "_law_ins" f9 _ ["_law_sentence_here","_law_row"]:=⟨mg_of X G a9,k9,F9.binds fun _ _ _ _ _ _ us hl=>(by obtain⟨_,_,rfl⟩:=A3 hl;rfl)⟩
 have C10:AM K mg "_law_kind" f10 _ ["_law_n","_law_room_here","_law_sentence_here"]:=⟨mg_of X G a10,k10,F10.binds fun _ _ _ _ _ _ us hl=>(by obtain⟨_,_,_,rfl⟩:=BL hl;rfl)⟩
 have C11:AM K mg "_law_start" f11 _ ["_law_script","_law_many"]:=⟨mg_of X G a11,k11,F11.binds fun _ _ _ _ _ _ us hl=>(by obtain⟨_,_,rfl⟩:=A3 hl;rfl)⟩
 have C12:AM K mg "_law_rule" f12 _ ["_law_script"]:=⟨mg_of X G a12,k12,F12.binds fun _ _ _ _ _ _ us hl=>(by obtain⟨_,rfl⟩:=Bg hl;rfl)⟩
 have C13:AM K mg "_law_outs" f13 _ ["_law_sentence_here","_law_row"]:=⟨mg_of X G a13,k13,F13.binds fun _ _ _ _ _ _ us hl=>(by obtain⟨_,_,rfl⟩:=A3 hl;rfl)⟩
 have C14:AM K mg "_law_sides" f14 _ ["_law_room_here","_law_kind_here","_law_sentence_here"]:=⟨mg_of X G a14,k14,F14.binds fun _ _ _ _ _ _ us hl=>(by obtain⟨_,_,_,rfl⟩:=BL hl;rfl)⟩
 have C15:AM K mg "_law_base" f15 _ ["_law_room_here","_law_sides_here"]:=⟨mg_of X G a15,k15,F15.binds fun _ _ _ _ _ _ us hl=>(by obtain⟨_,_,rfl⟩:=A3 hl;rfl)⟩
 have C16:AM K mg "_law_seen" f16 _ ["_law_n","_law_room_here"]:=⟨mg_of X G a16,k16,F16.binds fun _ _ _ _ _ _ us hl=>(by obtain⟨_,_,rfl⟩:=A3 hl;rfl)⟩
 have C17:AM K mg "_law_last" f17 _ ["_law_script","_law_start_here","_law_n"]:=⟨mg_of X G a17,k17,F17.binds fun _ _ _ _ _ _ us hl=>(by obtain⟨_,_,_,rfl⟩:=BL hl;rfl)⟩
 have C18:AM K mg "_law_asked" f18 _ ["_law_n","_law_fresh","_law_many"]:=⟨mg_of X G a18,k18,F18.binds fun _ _ _ _ _ _ us hl=>(by obtain⟨_,_,_,rfl⟩:=BL hl;rfl)⟩
 have C19:AM K mg "_law_asks" f19 _ ["_law_script","_law_start_here","_law_many","_law_first"]:=⟨mg_of X G a19,k19,F19.binds fun _ _ _ _ _ _ us hl=>(by obtain⟨_,_,_,_,rfl⟩:=K2 hl;rfl)⟩
 have C20:BQ K cK "over" f20 _ ["self"]:=⟨⟨a20,i20,k20⟩,F20.binds fun _ _ _ _ _ _ us hl=>(by obtain⟨_,rfl⟩:=Bg hl;rfl)⟩
 have C21:AM K mg "refuse_over" f21 _ ["talk"]:=⟨mg_of X G a21,k21,F21.binds fun _ _ _ _ _ _ us hl=>(by obtain⟨_,rfl⟩:=Bg hl;rfl)⟩
 have C22:AM K mg "in_both" f22 _ ["one","other"]:=⟨mg_of X G a22,k22,F22.binds fun _ _ _ _ _ _ us hl=>(by obtain⟨_,_,rfl⟩:=A3 hl;rfl)⟩
 have C23:AM K mg "some_within" f23 _ ["one","other"]:=⟨mg_of X G a23,k23,F23.binds fun _ _ _ _ _ _ us hl=>(by obtain⟨_,_,rfl⟩:=A3 hl;rfl)⟩
 have C24:AM K mg "catching_parts" f24 _ ["side","held","seen"]:=⟨mg_of X G a24,k24,F24.binds fun _ _ _ _ _ _ us hl=>(by obtain⟨_,_,_,rfl⟩:=BL hl;rfl)⟩
 have C25:AM K mg "in_first_only" f25 _ ["one","other"]:=⟨mg_of X G a25,k25,F25.binds fun _ _ _ _ _ _ us hl=>(by obtain⟨_,_,rfl⟩:=A3 hl;rfl)⟩
 have C26:AM K mg "all_worlds" f26 _ ["many"]:=⟨mg_of X G a26,k26,F26.binds fun _ _ _ _ _ _ us hl=>(by obtain⟨_,rfl⟩:=Bg hl;rfl)⟩
 have C27:AM K mg "both" f27 _ ["one","other"]:=⟨mg_of X G a27,k27,F27.binds fun _ _ _ _ _ _ us hl=>(by obtain⟨_,_,rfl⟩:=A3 hl;rfl)⟩
 have C28:AM K mg "by_letter" f28 _ ["letter","without","within"]:=⟨mg_of X G a28,k28,F28.binds fun _ _ _ _ _ _ us hl=>(by obtain⟨_,_,_,rfl⟩:=BL hl;rfl)⟩
 have C29:AM K mg "sentence_of" f29 _ ["worlds","many"]:=⟨mg_of X G a29,k29,F29.binds fun _ _ _ _ _ _ us hl=>(by obtain⟨_,_,rfl⟩:=A3 hl;rfl)⟩
 have C30:BQ K cK "room" f30 _ ["self"]:=⟨⟨a30,i30,k30⟩,F30.binds fun _ _ _ _ _ _ us hl=>(by obtain⟨_,rfl⟩:=Bg hl;rfl)⟩
 have C31:BQ K cK "sides" f31 _ ["self"]:=⟨⟨a31,i31,k31⟩,F31.binds fun _ _ _ _ _ _ us hl=>(by obtain⟨_,rfl⟩:=Bg hl;rfl)⟩
 have C32:BQ K cK "held" f32 _ ["self"]:=⟨⟨a32,i32,k32⟩,F32.binds fun _ _ _ _ _ _ us hl=>(by obtain⟨_,rfl⟩:=Bg hl;rfl)⟩
 have C33:AM K mg "missed_side" f33 _ ["sides","worlds"]:=⟨mg_of X G a33,k33,F33.binds fun _ _ _ _ _ _ us hl=>(by obtain⟨_,_,rfl⟩:=A3 hl;rfl)⟩
 have C34:AM K mg "stands" f34 _ ["sides","worlds"]:=⟨mg_of X G a34,k34,F34.binds fun _ _ _ _ _ _ us hl=>(by obtain⟨_,_,rfl⟩:=A3 hl;rfl)⟩
 have C35:BQ K cK "caught" f35 _ ["self"]:=⟨⟨a35,i35,k35⟩,F35.binds fun _ _ _ _ _ _ us hl=>(by obtain⟨_,rfl⟩:=Bg hl;rfl)⟩
 have C36:AM K mg "catch_by" f36 _ ["talk","seen"]:=⟨mg_of X G a36,k36,F36.binds fun _ _ _ _ _ _ us hl=>(by obtain⟨_,_,rfl⟩:=A3 hl;rfl)⟩
 have C37:AM K mg "_law_left" f37 _ ["_law_row","_law_sentence_here","_law_said"]:=⟨mg_of X G a37,k37,F37.binds fun _ _ _ _ _ _ us hl=>(by obtain⟨_,_,_,rfl⟩:=BL hl;rfl)⟩
 have C38:AM K mg "_law_stands" f38 _ ["_law_sides_here","_law_row"]:=⟨mg_of X G a38,k38,F38.binds fun _ _ _ _ _ _ us hl=>(by obtain⟨_,_,rfl⟩:=A3 hl;rfl)⟩
 have C39:AM K mg "_law_small" f39 _ ["_law_found"]:=⟨mg_of X G a39,k39,F39.binds fun _ _ _ _ _ _ us hl=>(by obtain⟨_,rfl⟩:=Bg hl;rfl)⟩
 have C40:AM K mg "_law_whole" f40 _ ["_law_found"]:=⟨mg_of X G a40,k40,F40.binds fun _ _ _ _ _ _ us hl=>(by obtain⟨_,rfl⟩:=Bg hl;rfl)⟩
 have C41:AM K mg "_law_good" f41 _ ["_law_found","_law_many","_law_deep"]:=⟨mg_of X G a41,k41,F41.binds fun _ _ _ _ _ _ us hl=>(by obtain⟨_,_,_,rfl⟩:=BL hl;rfl)⟩
 have C42:AM K mg "_law_tree_is" f42 _ ["_law_found","_law_due"]:=⟨mg_of X G a42,k42,F42.binds fun _ _ _ _ _ _ us hl=>(by obtain⟨_,_,rfl⟩:=A3 hl;rfl)⟩
 have C43:AM K mg "_law_says" f43 _ ["_law_found","_law_due"]:=⟨mg_of X G a43,k43,F43.binds fun _ _ _ _ _ _ us hl=>(by obtain⟨_,_,rfl⟩:=A3 hl;rfl)⟩
 have C44:AM K mg "_law_pair_is" f44 _ ["_law_found","_law_due"]:=⟨mg_of X G a44,k44,F44.binds fun _ _ _ _ _ _ us hl=>(by obtain⟨_,_,rfl⟩:=A3 hl;rfl)⟩
 have C45:AM K mg "_law_pairs_are" f45 _ ["_law_found","_law_due"]:=⟨mg_of X G a45,k45,F45.binds fun _ _ _ _ _ _ us hl=>(by obtain⟨_,_,rfl⟩:=A3 hl;rfl)⟩
 have C46:AM K mg "parts_of" f46 _ ["layer"]:=⟨mg_of X G a46,k46,F46.binds fun _ _ _ _ _ _ us hl=>(by obtain⟨_,rfl⟩:=Bg hl;rfl)⟩
 have C47:AM K mg "letters" f47 _ ["sentence"]:=⟨mg_of X G a47,k47,F47.binds fun _ _ _ _ _ _ us hl=>(by obtain⟨_,rfl⟩:=Bg hl;rfl)⟩
 have C48:AM K mg "refuse_strange" f48 _ ["sentence","many"]:=⟨mg_of X G a48,k48,F48.binds fun _ _ _ _ _ _ us hl=>(by obtain⟨_,_,rfl⟩:=A3 hl;rfl)⟩
 have C49:AM K mg "steps_of" f49 _ ["sentence"]:=⟨mg_of X G a49,k49,F49.binds fun _ _ _ _ _ _ us hl=>(by obtain⟨_,rfl⟩:=Bg hl;rfl)⟩
 have C50:AM K mg "letter_holds" f50 _ ["letter","world"]:=⟨mg_of X G a50,k50,F50.binds fun _ _ _ _ _ _ us hl=>(by obtain⟨_,_,rfl⟩:=A3 hl;rfl)⟩
 have C51:AM K mg "joined" f51 _ ["kind","one","other"]:=⟨mg_of X G a51,k51,F51.binds fun _ _ _ _ _ _ us hl=>(by obtain⟨_,_,_,rfl⟩:=BL hl;rfl)⟩
 have C52:AM K mg "true_by" f52 _ ["steps","world"]:=⟨mg_of X G a52,k52,F52.binds fun _ _ _ _ _ _ us hl=>(by obtain⟨_,_,rfl⟩:=A3 hl;rfl)⟩
 have C53:AM K mg "worlds_of" f53 _ ["sentence","room"]:=⟨mg_of X G a53,k53,F53.binds fun _ _ _ _ _ _ us hl=>(by obtain⟨_,_,rfl⟩:=A3 hl;rfl)⟩
 have C54:AM K mg "sides_of" f54 _ ["room","kind","sentence"]:=⟨mg_of X G a54,k54,F54.binds fun _ _ _ _ _ _ us hl=>(by obtain⟨_,_,_,rfl⟩:=BL hl;rfl)⟩
 have C55:AM K mg "in_any" f55 _ ["rows"]:=⟨mg_of X G a55,k55,F55.binds fun _ _ _ _ _ _ us hl=>(by obtain⟨_,rfl⟩:=Bg hl;rfl)⟩
 have C56:AM K mg "base_of" f56 _ ["sides"]:=⟨mg_of X G a56,k56,F56.binds fun _ _ _ _ _ _ us hl=>(by obtain⟨_,rfl⟩:=Bg hl;rfl)⟩
 have C57:SU K mg cK "Talk" f57 _ ["self","many","room","kind","sentence","rule"]:=⟨⟨mkTalk,a57,i57,kcTalk⟩,mg_of X G aCTalk,F57.binds fun _ _ _ _ _ _ us hl=>(by obtain⟨_,_,_,_,_,_,rfl⟩:=SH hl;rfl)⟩
 have C58:BQ K cK "fork" f58 _ ["self"]:=⟨⟨a58,i58,k58⟩,F58.binds fun _ _ _ _ _ _ us hl=>(by obtain⟨_,rfl⟩:=Bg hl;rfl)⟩
 have C59:AM K mg "all_within" f59 _ ["one","other"]:=⟨mg_of X G a59,k59,F59.binds fun _ _ _ _ _ _ us hl=>(by obtain⟨_,_,rfl⟩:=A3 hl;rfl)⟩
 have C60:AM K mg "plain" f60 _ ["seen","worlds"]:=⟨mg_of X G a60,k60,F60.binds fun _ _ _ _ _ _ us hl=>(by obtain⟨_,_,rfl⟩:=A3 hl;rfl)⟩
 have C61:AM K mg "left_by" f61 _ ["word","row","worlds"]:=⟨mg_of X G a61,k61,F61.binds fun _ _ _ _ _ _ us hl=>(by obtain⟨_,_,_,rfl⟩:=BL hl;rfl)⟩
 have C62:AM K mg "barring_side" f62 _ ["sides","going","seen","worlds"]:=⟨mg_of X G a62,k62,F62.binds fun _ _ _ _ _ _ us hl=>(by obtain⟨_,_,_,_,rfl⟩:=K2 hl;rfl)⟩
 have C63:AM K mg "answer" f63 _ ["sides","going","seen","worlds"]:=⟨mg_of X G a63,k63,F63.binds fun _ _ _ _ _ _ us hl=>(by obtain⟨_,_,_,_,rfl⟩:=K2 hl;rfl)⟩
 have C64:BQ K cK "base" f64 _ ["self"]:=⟨⟨a64,i64,k64⟩,F64.binds fun _ _ _ _ _ _ us hl=>(by obtain⟨_,rfl⟩:=Bg hl;rfl)⟩
 have C65:BQ K cK "going" f65 _ ["self"]:=⟨⟨a65,i65,k65⟩,F65.binds fun _ _ _ _ _ _ us hl=>(by obtain⟨_,rfl⟩:=Bg hl;rfl)⟩
 have C66:BQ K cK "ask" f66 _ ["self","sentence","seen"]:=⟨⟨a66,i66,k66⟩,F66.binds fun _ _ _ _ _ _ us hl=>(by obtain⟨_,_,_,rfl⟩:=BL hl;rfl)⟩
 have C67:BQ K cK "say" f67 _ ["self","sentence","seen"]:=⟨⟨a67,i67,k67⟩,F67.binds fun _ _ _ _ _ _ us hl=>(by obtain⟨_,_,_,rfl⟩:=BL hl;rfl)⟩
 have C68:AM K mg "_law_walked" f68 _ ["_law_talk","_law_row","_law_seen_here","_law_sides_here","_law_held"]:=⟨mg_of X G a68,k68,F68.binds fun _ _ _ _ _ _ us hl=>(by obtain⟨_,_,_,_,_,rfl⟩:=S1 hl;rfl)⟩
 have C69:BQ K cK "entries" f69 _ ["self"]:=⟨⟨a69,i69,k69⟩,F69.binds fun _ _ _ _ _ _ us hl=>(by obtain⟨_,rfl⟩:=Bg hl;rfl)⟩
 have zabs:=mg_none_of X G yabs
 have zlen:=mg_none_of X G ylen
 have zrange:=mg_none_of X G yrange
 have zisinstance:=mg_none_of X G yisinstance
 have zint:=mg_none_of X G yint
 have zbool:=mg_none_of X G ybool
 have zstr:=mg_none_of X G ystr
 have ztuple:=mg_none_of X G ytuple
 have zlist:=mg_none_of X G ylist
 have zset:=mg_none_of X G yset
 have zsorted:=mg_none_of X G ysorted
 have zany:=mg_none_of X G yany
 have zall:=mg_none_of X G yall
 have zValueError:=mg_none_of X G yValueError
 have zenumerate:=mg_none_of X G yenumerate
 have zmin:=mg_none_of X G ymin
 refine⟨fnOf "law" "law" (Ap JN) (An JN) (Ae JN) .none kV70 dc70 pm70 an70 cd70 ct70,fun s v=>.of_eq rfl,fun bz _ _=>?_⟩
 have B:Bl mg:=⟨zabs,zlen,zrange⟩
 have T:Fc mg:=⟨zisinstance,zint,zbool,zstr,ztuple,zlist,zset,zsorted,zrange,zany,zall⟩
 have XT:UG K mg cT:=⟨mg_of X G xTn,xTt,by rw[xTc1];rfl,xTbse,zValueError,zisinstance⟩
 have X_StrangeLetter:Jh K mg "StrangeLetter" cS cT:=⟨⟨⟨_,xcd0,nxm0,nxd0⟩,xsa0,xga0,xgn0,xca0,xcg,xct⟩,E6 xl0 xm0 nxs0 xi0 xTl xTm nTs xTi xkp0,mg_of X G xn0,xt0,by rw[xcd0];rfl,xb0,xs0,xu0,JS nuV xv0⟩
 have X_BadWord:Jh K mg "BadWord" cB cT:=⟨⟨⟨_,xcd1,nxm1,nxd1⟩,xsa1,xga1,xgn1,xca1,xcg,xct⟩,E6 xl1 xm1 nxs1 xi1 xTl xTm nTs xTi xkp1,mg_of X G xn1,xt1,by rw[xcd1];rfl,xb1,xs1,xu1,JS nuV xv1⟩
 have X_NoStanding:Jh K mg "NoStanding" cN cT:=⟨⟨⟨_,xcd2,nxm2,nxd2⟩,xsa2,xga2,xgn2,xca2,xcg,xct⟩,E6 xl2 xm2 nxs2 xi2 xTl xTm nTs xTi xkp2,mg_of X G xn2,xt2,by rw[xcd2];rfl,xb2,xs2,xu2,JS nuV xv2⟩
 have X_TalkOver:Jh K mg "TalkOver" cO cT:=⟨⟨⟨_,xcd3,nxm3,nxd3⟩,xsa3,xga3,xgn3,xca3,xcg,xct⟩,E6 xl3 xm3 nxs3 xi3 xTl xTm nTs xTi xkp3,mg_of X G xn3,xt3,by rw[xcd3];rfl,xb3,xs3,xu3,JS nuV xv3⟩
 have A_StrangeLetter_BadWord:N7 K cS cB:=⟨xr0_1,B1 nq0_1 (by rw[xcd1];rfl) xt1 xp0_1⟩
 have A_StrangeLetter_NoStanding:N7 K cS cN:=⟨xr0_2,B1 nq0_2 (by rw[xcd2];rfl) xt2 xp0_2⟩
 have A_StrangeLetter_TalkOver:N7 K cS cO:=⟨xr0_3,B1 nq0_3 (by rw[xcd3];rfl) xt3 xp0_3⟩
 have A_BadWord_StrangeLetter:N7 K cB cS:=⟨xr1_0,B1 nq1_0 (by rw[xcd0];rfl) xt0 xp1_0⟩
 have A_BadWord_NoStanding:N7 K cB cN:=⟨xr1_2,B1 nq1_2 (by rw[xcd2];rfl) xt2 xp1_2⟩
 have A_BadWord_TalkOver:N7 K cB cO:=⟨xr1_3,B1 nq1_3 (by rw[xcd3];rfl) xt3 xp1_3⟩
 have A_NoStanding_StrangeLetter:N7 K cN cS:=⟨xr2_0,B1 nq2_0 (by rw[xcd0];rfl) xt0 xp2_0⟩
 have A_NoStanding_BadWord:N7 K cN cB:=⟨xr2_1,B1 nq2_1 (by rw[xcd1];rfl) xt1 xp2_1⟩
 have A_NoStanding_TalkOver:N7 K cN cO:=⟨xr2_3,B1 nq2_3 (by rw[xcd3];rfl) xt3 xp2_3⟩
 have A_TalkOver_StrangeLetter:N7 K cO cS:=⟨xr3_0,B1 nq3_0 (by rw[xcd0];rfl) xt0 xp3_0⟩
 have A_TalkOver_BadWord:N7 K cO cB:=⟨xr3_1,B1 nq3_1 (by rw[xcd1];rfl) xt1 xp3_1⟩
 have A_TalkOver_NoStanding:N7 K cO cN:=⟨xr3_2,B1 nq3_2 (by rw[xcd2];rfl) xt2 xp3_2⟩
 have TX:JX K cK:=⟨⟨pgTalk,hdTalk,poTalk,saTalk⟩,wTalk_many,wTalk_kind,wTalk_sentence,wTalk_rule,wTalk_space,wTalk_parts,wTalk_given,wTalk_left,wTalk_ended⟩
 have KCh:KC K mg aA aN:=⟨mg_of X G kcA,mg_of X G kcN,fun H=>⟨aA,.ref kpA,.ref kqA,rfl,.inr ⟨_,_,_,kdA,rfl,rfl,M9,.cons ⟨_,rfl⟩ (.cons rfl (.cons rfl .nil))⟩,⟨kpA,rfl,.inr ⟨_,_,_,keA,rfl,rfl,Fl,.cons ⟨_,rfl⟩ (.cons ⟨_,rfl⟩ .nil)⟩⟩,⟨kqA,.ref krA,rfl,.inr ⟨_,_,_,kfA,rfl,rfl,Fl,.cons ⟨_,rfl⟩ (.cons rfl .nil)⟩,⟨krA,rfl,.inr ⟨_,_,_,kgA,rfl,rfl,Fl,.cons ⟨_,rfl⟩ (.cons ⟨_,rfl⟩ .nil)⟩⟩⟩⟩,fun H=>⟨aN,.ref kpN,.ref kqN,rfl,.inr ⟨_,_,_,kdN,rfl,rfl,M9,.cons ⟨_,rfl⟩ (.cons rfl (.cons rfl .nil))⟩,⟨kpN,rfl,.inr ⟨_,_,_,keN,rfl,rfl,Fl,.cons ⟨_,rfl⟩ (.cons ⟨_,rfl⟩ .nil)⟩⟩,⟨kqN,.ref krN,rfl,.inr ⟨_,_,_,kfN,rfl,rfl,Fl,.cons ⟨_,rfl⟩ (.cons rfl .nil)⟩,⟨krN,rfl,.inr ⟨_,_,_,kgN,rfl,rfl,Fl,.cons ⟨_,rfl⟩ (.cons ⟨_,rfl⟩ .nil)⟩⟩⟩⟩⟩
 have G1:=QL (P:=l.prog) (w:=w) (mg:=mg) (bz:=bz) F1 B
 have G2:=Sy (P:=l.prog) (w:=w) (mg:=mg) (bz:=bz) F2
 have G3:=QV (P:=l.prog) (w:=w) (mg:=mg) (bz:=bz) F3 B
 have G4:=LU (P:=l.prog) (w:=w) (mg:=mg) (bz:=bz) F4 T
 have G5:=PK (P:=l.prog) (w:=w) (mg:=mg) (bz:=bz) F5
 have G6:=J3 (P:=l.prog) (w:=w) (mg:=mg) (bz:=bz) F6 B G5 C5
 have G7:=Pi (P:=l.prog) (w:=w) (mg:=mg) (bz:=bz) F7 G4 C4 G6 C6
 have G8:=Ip (P:=l.prog) (w:=w) (mg:=mg) (bz:=bz) F8 C8 60
 have G9:=RB (P:=l.prog) (w:=w) (mg:=mg) (bz:=bz) F9 G8 C8
 have G10:=Qc (P:=l.prog) (w:=w) (mg:=mg) (bz:=bz) F10 B G9 C9
 have G11:=Nt (P:=l.prog) (w:=w) (mg:=mg) (bz:=bz) F11 (Qn G1) C1 G3 C3 (G7.mono (by decide)) C7 (G10.mono (by decide)) C10
 have G12:=Oe (P:=l.prog) (w:=w) (mg:=mg) (bz:=bz) F12 (Qn G1) C1
 have G13:=OH (P:=l.prog) (w:=w) (mg:=mg) (bz:=bz) F13 G8 C8
 have G14:=NU (P:=l.prog) (w:=w) (mg:=mg) (bz:=bz) F14 G9 C9 G13 C13
 have G15:=O8 (P:=l.prog) (w:=w) (mg:=mg) (bz:=bz) F15 T
 have G16:=ON (P:=l.prog) (w:=w) (mg:=mg) (bz:=bz) F16 T B G6 C6
 have G17:=Qo (P:=l.prog) (w:=w) (mg:=mg) (bz:=bz) F17 B
 have G18:=Nj (P:=l.prog) (w:=w) (mg:=mg) (bz:=bz) F18 B G3 C3
 have G19:=Qf (P:=l.prog) (w:=w) (mg:=mg) (bz:=bz) F19 B zmin G1 C1 G17 C17 G18 C18
 have G20:=P7 (P:=l.prog) (w:=w) (mg:=mg) (bz:=bz) F20 TX
 have G21:=LS (P:=l.prog) (w:=w) (mg:=mg) (bz:=bz) F21 TX X_TalkOver G20 C20
 have G22:=RN (P:=l.prog) (w:=w) (mg:=mg) (bz:=bz) F22 T
 have G23:=P9 (P:=l.prog) (w:=w) (mg:=mg) (bz:=bz) F23 B G22 C22
 have G24:=Na (P:=l.prog) (w:=w) (mg:=mg) (bz:=bz) F24 B G23 C23
 have G25:=Op (P:=l.prog) (w:=w) (mg:=mg) (bz:=bz) F25 T
 have G26:=QY (P:=l.prog) (w:=w) (mg:=mg) (bz:=bz) F26 T
 have G27:=Ql (P:=l.prog) (w:=w) (mg:=mg) (bz:=bz) F27 KCh
 have G28:=J8 (P:=l.prog) (w:=w) (mg:=mg) (bz:=bz) F28 KCh G27 C27
 have G29:=Ig (P:=l.prog) (w:=w) (mg:=mg) (bz:=bz) F29 KCh B G26 C26 G28 C28
 have G30:=Pu (P:=l.prog) (w:=w) (mg:=mg) (bz:=bz) F30 TX T
 have G31:=N2 (P:=l.prog) (w:=w) (mg:=mg) (bz:=bz) F31 TX T
 have G32:=PF (P:=l.prog) (w:=w) (mg:=mg) (bz:=bz) F32 TX T
 have G33:=NO (P:=l.prog) (w:=w) (mg:=mg) (bz:=bz) F33 zenumerate G23 C23
 have G34:=M0 (P:=l.prog) (w:=w) (mg:=mg) (bz:=bz) F34 G33 C33
 have G35:=LD (P:=l.prog) (w:=w) (mg:=mg) (bz:=bz) F35 TX G34 C34
 have G36:=LG (P:=l.prog) (w:=w) (mg:=mg) (bz:=bz) F36 B zmin TX (MJ G21) C21 G24 C24 G22 C22 G25 C25 G29 C29 G30 C30 G31 C31 (MB G32) C32 (N6 G35) C35
 have G37:=NJ (P:=l.prog) (w:=w) (mg:=mg) (bz:=bz) F37 T (Px (P:=l.prog) (w:=w) (mg:=mg) (bz:=bz) F9 (EN (P:=l.prog) (w:=w) (mg:=mg) (bz:=bz) F8 C8 70) C8) C9 (No (P:=l.prog) (w:=w) (mg:=mg) (bz:=bz) F13 (EN (P:=l.prog) (w:=w) (mg:=mg) (bz:=bz) F8 C8 70) C8) C13
 have G38:=K5 (P:=l.prog) (w:=w) (mg:=mg) (bz:=bz) F38 T
 have G39:=NL (P:=l.prog) (w:=w) (mg:=mg) (bz:=bz) F39 T
 have G40:=Pc (P:=l.prog) (w:=w) (mg:=mg) (bz:=bz) F40 T
 have G41:=IS (P:=l.prog) (w:=w) (mg:=mg) (bz:=bz) F41 T B G40 C40 C41 70
 have G42:=Ku (P:=l.prog) (w:=w) (mg:=mg) (bz:=bz) F42 C42 G40 C40 T B 23
 have G43:=Pq (P:=l.prog) (w:=w) (mg:=mg) (bz:=bz) F43 T
 have G44:=PU (P:=l.prog) (w:=w) (mg:=mg) (bz:=bz) F44 T B (G42.mono (by decide)) C42 G43 C43
 have G45:=MR (P:=l.prog) (w:=w) (mg:=mg) (bz:=bz) F45 T B G44 C44
 have G46:=Py (P:=l.prog) (w:=w) (mg:=mg) (bz:=bz) F46
 have G47:=Lw (P:=l.prog) (w:=w) (mg:=mg) (bz:=bz) F47 T G46 C46
 have G48:=MS (P:=l.prog) (w:=w) (mg:=mg) (bz:=bz) F48 X_StrangeLetter G47 C47
 have G49:=Qj (P:=l.prog) (w:=w) (mg:=mg) (bz:=bz) F49 G46 C46
 have G50:=Pr (P:=l.prog) (w:=w) (mg:=mg) (bz:=bz) F50
 have G51:=Nv (P:=l.prog) (w:=w) (mg:=mg) (bz:=bz) F51
 have G52:=NB (P:=l.prog) (w:=w) (mg:=mg) (bz:=bz) F52 G50 C50 G51 C51
 have G53:=Kf (P:=l.prog) (w:=w) (mg:=mg) (bz:=bz) F53 G49 C49 G52 C52
 have G54:=LR (P:=l.prog) (w:=w) (mg:=mg) (bz:=bz) F54 X_BadWord X_NoStanding (RZ G53) C53 G25 C25
 have G55:=Sv (P:=l.prog) (w:=w) (mg:=mg) (bz:=bz) F55 T
 have G56:=MW (P:=l.prog) (w:=w) (mg:=mg) (bz:=bz) F56 G55 C55
 have G57:=O5 (P:=l.prog) (w:=w) (mg:=mg) (bz:=bz) F57 TX T X_BadWord (Sd G48) C48 G54 C54 G56 C56
 have G58:=Os (P:=l.prog) (w:=w) (mg:=mg) (bz:=bz) F58 TX T G57 C57
 have G59:=OK (P:=l.prog) (w:=w) (mg:=mg) (bz:=bz) F59 B G25 C25
 have G60:=Qp (P:=l.prog) (w:=w) (mg:=mg) (bz:=bz) F60 G59 C59 G23 C23
 have G61:=MT (P:=l.prog) (w:=w) (mg:=mg) (bz:=bz) F61 T G22 C22 G25 C25
 have G62:=Lg (P:=l.prog) (w:=w) (mg:=mg) (bz:=bz) F62 G60 C60 G61 C61 G33 C33
 have G63:=Ng (P:=l.prog) (w:=w) (mg:=mg) (bz:=bz) F63 G59 C59 G23 C23 G60 C60 G62 C62
 have G64:=OD (P:=l.prog) (w:=w) (mg:=mg) (bz:=bz) F64 TX T
 have G65:=NN (P:=l.prog) (w:=w) (mg:=mg) (bz:=bz) F65 TX G32 C32 G64 C64
 have G66:=RR (P:=l.prog) (w:=w) (mg:=mg) (bz:=bz) F66 TX G48 C48 G53 C53 G60 C60 G63 C63 G65 C65
 have G67:=Rq (P:=l.prog) (w:=w) (mg:=mg) (bz:=bz) F67 TX (MJ G21) C21 (SR G66) C66 G61 C61 (RZ G53) C53
 have GN67:=Oz (P:=l.prog) (w:=w) (mg:=mg) (bz:=bz) F67 TX G21 C21 G66 C66 G61 C61 G53 C53
 have G68:=Lu (P:=l.prog) (w:=w) (mg:=mg) (bz:=bz) F68 B TX G38 C38 G37 C37 G58 C58 G35 C35 GN67 C67
 have G69:=Ke (P:=l.prog) (w:=w) (mg:=mg) (bz:=bz) F69 TX T
 exact Sw FLAW B T TX (G1.mono (by decide)) C1 (G2.mono (by decide)) C2 (G11.mono (by decide)) C11 (G12.mono (by decide)) C12 (G14.mono (by decide)) C14 (G15.mono (by decide)) C15 (G16.mono (by decide)) C16 (G19.mono (by decide)) C19 (G36.mono (by decide)) C36 (G37.mono (by decide)) C37 (G38.mono (by decide)) C38 (G39.mono (by decide)) C39 (G41.mono (by decide)) C41 (G45.mono (by decide)) C45 (G68.mono (by decide)) C68 (G57.mono (by decide)) C57 (G69.mono (by decide)) C69 ((MB G32).mono (by decide)) C32 (G67.mono (by decide)) C67
theorem walk {l:PySem.W.OpenLaw} {q:Program} {loose:List Str} {XP:(Str→Option Value)→Heap→Prop} {YP:World→Heap→Prop} {d:DefRec} {K:Params→PySem.W.Frag} (hn:l.most=some 63) (hdf:d.params.defaults=[])
  (hY:∀(w:World) (h:Heap),YP w h→(K w.params).In h)
  (F:∀(w:World) (mg:Str→Option Value) (fa:Addr) (h:Heap),(K w.params).In h→h.Ns mainGlobals mg→mg d.name=some (.ref fa)→
   ∃fd:FuncData,(∀(s:Shared) (u:Value),BindsTo s fd ⟨[u],[]⟩ [("_law_script",u)])∧∀bz:Heap,(K w.params).In bz→bz.Ns mainGlobals mg→FnOk l.prog w (K w.params) mg bz AG 74 fa fd ["_law_script"] (MN (K w.params))) :
  PySem.W.WalkO q loose XP YP l.row.toRowW d [] (fun f vs=>PySem.call f vs):=
 L2.walk_of (n:=63) (k:=74) (x:="_law_script") (CX:=fun _=>AG) (sp:=fun w=>MN (K w.params)) hn (by decide) hdf ⟨rfl,by decide,by decide⟩ hY F (fun _ _ a ns hl _ hS=>⟨a,ns,rfl,hS,hl,fun _=>rfl⟩) fun _ _ _ _ _ z=>z
end Toy
namespace PySem.W.Fast
def tw9330727306029419395:=0
def tw4422466548559927886:=0
def tw15243761468375627806:=0
def tw13152578069648908706:=0
def tw15404653152322540369:=0
def tw4000164490252397193:=0
def tw5420236732918614398:=0
def tw17325490179598256128:=0
def tw318864227196607759:=0
def tw138497120608954281:=0
def tw8939505299446671691:=0
def tw2672986704853818839:=0
def tw2444723941119639216:=0
def tw7092197928983366370:=0
def tw3717816668483505420:=0
def tw16320213300036313772:=0
def tw3571532271649197489:=0
def tw18419392498074018534:=0
def tw15621113542687366504:=0
def tw1648908355300512466:=0
def tw3307807070847871727:=0
def tw4081915842089883803:=0
def tw17580243621275002741:=0
def tw572156303778454086:=0
def tw4264253380239163:=0
def tw7477422190183519521:=0
def tw18228879950248292070:=0
def tw11805230746251322481:=0
def tw12416339425232893285:=0
def tw16249618446372451798:=0
def tw17366058491132787586:=0
def tw2870405407331795521:=0
def tw14802840051311237774:=0
def tw7686348538163203138:=0
def tw4414925013712694324:=0
def tw9388779427503743777:=0
def tw6962180222348300000:=0
def tw12070835824945848001:=0
def tw2688821261708901988:=0
def tw17317769172871644528:=0
def tw7491295557490398169:=0
def tw6304007304052019533:=0
def tw3194211377682997256:=0
def tw16820607468245277405:=0
def tw8404386009365917892:=0
def tw12519562185003088198:=0
def tw11968314887557143773:=0
def tw5058373141111963308:=0
def tw9771248115228547135:=0
def tw9472343621194473867:=0
def tw8507420224088982432:=0
def tw7440142707052307255:=0
def tw7738816659432617158:=0
def tw8099363888833251:=0
def tw6498251609738935176:=0
def tw2427249416296546452:=0
def tw7119930731928806395:=0
def tw15175123474237367666:=0
def tw3362566919867754227:=0
def tw15645363970764902001:=0
def tw15890661894667231987:=0
def tw12000585268691379608:=0
def tw13987671033398692940:=0
def tw15090872961987114364:=0
def tw11935991998982717112:=0
def tw7435776475909594361:=0
def tw3104440076041947156:=0
def tw1482574727909480539:=0
def tw10666280467342746631:=0
def tw17756711407526307872:=0
def tw6840395910169808570:=0
def tw2354830152172040857:=0
def tw868375250233956508:=0
def tw13381569436727357873:=0
def tw14843951923318958076:=0
def tw3249551868204840224:=0
def tw14749403408573486622:=0
def tw12634897694473944254:=0
def tw18219960478499245043:=0
def tw14039409062929841316:=0
def tw3449124371142105710:=0
def tw17255027275886748494:=0
def tw4165940579393876811:=0
def tw6584696539867887220:=0
def tw9152383331405822820:=0
def tw11426563048020941352:=0
def tw11031081003377011902:=0
def tw2519872717040858628:=0
def tw5785000609152500791:=0
def tw14811377804579702607:=0
def tw3150800365434988048:=0
def tw17982314605213725122:=0
def tw6449975347136319906:=0
def tw5655380456360808800:=0
def tw10037711865074970329:=0
def tw7725821150074936357:=0
def tw1219154320618185492:=0
def tw10195448527012239773:=0
def tw5431090106544856987:=0
def tw14915780935462788831:=0
def tw15438145024990282716:=0
def tw14198248083159402580:=0
def tw13861742718536285784:=0
def tw11568267233681895289:=0
def tw2286153550334430623:=0
def tw13087328426815346369:=0
def tw10678706525039513357:=0
def tw6331242017058028789:=0
def tw6985636075647836017:=0
def tw7556176376279712977:=0
def tw6136212966193493708:=0
def tw12371479452605929548:=0
def tw956035370944248664:=0
def tw6440269716075132754:=0
def tw10326049395909206451:=0
def tw15612191754603191203:=0
def tw31367060735282558:=0
def tw14639504853321396859:=0
def tw10301251845374460944:=0
def tw16753201833968078151:=0
def tw4590686414417762696:=0
def tw6084907023878538867:=0
def tw10719601632588738263:=0
def tw9120832883321908397:=0
def tw13765128131985529842:=0
def tw7126304033593368776:=0
def tw18175335627555219966:=0
def tw6460804732824961534:=0
def tw15713482211428411854:=0
def tw1504613549931346704:=0
def tw3550106022933193660:=0
def tw3483623625696155143:=0
def tw17721529266574145110:=0
def tw5187435000094274710:=0
def tw12707348111470055198:=0
def tw8787455550000084323:=0
def tw41018971791660899:=0
def tw15494686489017971233:=0
def tw6252597608843889439:=0
def tw8914884447628338140:=0
def tw13523149616844678001:=0
def tw12974484658665989907:=0
def tw14235454153749588504:=0
def tw12089175374410849064:=0
def tw3717424489711585999:=0
def tw8290474990134421101:=0
def tw2094859378389544718:=0
def tw9848808122221572258:=0
def tw486992420172205471:=0
def tw13289612465845121736:=0
def tw14630264208944248568:=0
def tw6158893486534412177:=0
def tw8667522962933357086:=0
def tw10477104857799678556:=0
def tw12720134318619288923:=0
def tw14814348936646543546:=0
def tw5107784563948295084:=0
def tw11569120661843497325:=0
def tw15207166358420691901:=0
def tw15585863089170392041:=0
def tw12046761190620703513:=0
def tw17324320667729022005:=0
def tw7542428351226892053:=0
def tw18188014106040255412:=0
def tw10996667063353048968:=0
def tw13521966998553484725:=0
def tw7902666022301942264:=0
def tw14021963087269223158:=0
def tw16046539392307752927:=0
def tw12680832954334870613:=0
def tw16090878405702771875:=0
def tw5083502424457268236:=0
def tw17362529607744753914:=0
def tw15678661185120472204:=0
def tw17173907261189953268:=0
def tw13293330288187239208:=0
def tw14287227702826035231:=0
def tw13064139885517551614:=0
def tw16972275575339876479:=0
def tw6475976467121524540:=0
def tw11420623461607279366:=0
def tw3831628671610786983:=0
def tw6571028729714849994:=0
def tw11089996568556184759:=0
def tw1976711222226965613:=0
def tw1699509055499245224:=0
def tw11039075953430158614:=0
def tw10337558070321161996:=0
def tw8485668583500079852:=0
def tw9533042003914227969:=0
def tw18049738590008092311:=0
def tw13640166811153985155:=0
def tw13570128736021394669:=0
def tw5153928979864138501:=0
def tw16250837474687462705:=0
def tw2253805105100609995:=0
def tw5408662919757617093:=0
def tw5487190310327427350:=0
def tw7469537569021450742:=0
def tw13830123232585550410:=0
def tw11721359002268417479:=0
def tw15337306868901706323:=0
def tw5965914342867905200:=0
def tw8916553616527559996:=0
def tw13515606328977891567:=0
def tw11890941234724895491:=0
def tw204887372050498148:=0
def tw8726186402837244001:=0
def tw8749229386213387121:=0
def tw819584494393402354:=0
def tw13454012199722051672:=0
def tw807410576554787348:=0
def tw17346161679638407073:=0
def tw17962901075105530235:=0
def tw1360599223501774654:=0
def tw13373775705274388338:=0
def tw7405459841566816286:=0
def tw9256715330807781767:=0
def tw937504186103216256:=0
def tw11057114753003521420:=0
def tw17867538515718875363:=0
def tw15842318725451062673:=0
def tw7449581840759427568:=0
def tw5265877788199508878:=0
def tw13441074241562568601:=0
def tw15885125103448264219:=0
def tw13839143102049820932:=0
def tw2607298784150321023:=0
end PySem.W.Fast
open PySem PySem.W PyProof.Rows
set_option maxRecDepth 100000 in
set_option maxHeartbeats 0 in
theorem PySem.Challenge.cw_holdtalk_k41_catches_walk_holds : PySem.Challenge.rw_holdtalk_k41_catches_walk.Holds := by
 w_on;o_law;k_head;(case hw=>w_witness2)
 k_fill
 refine Toy.walk (l:=PySem.Challenge.rw_holdtalk_k41_catches_walk) rfl rfl (fun w h Y=>PySem.W.kIn_of Y) ?F
 case F=>
  intro w mg fa h KX G hmg
  refine' Toy.all_mk KX G hmg ?a1 ?l1 ?c1 ?k1 ?a2 ?l2 ?c2 ?k2 ?a3 ?l3 ?c3 ?k3 ?a4 ?l4 ?c4 ?k4 ?a5 ?l5 ?c5 ?k5 ?a6 ?l6 ?c6 ?k6 ?a7 ?l7 ?c7 ?k7 ?a8 ?l8 ?c8 ?k8 ?a9 ?l9 ?c9 ?k9 ?a10 ?l10 ?c10 ?k10 ?a11 ?l11 ?c11 ?k11 ?a12 ?l12 ?c12 ?k12 ?a13 ?l13 ?c13 ?k13 ?a14 ?l14 ?c14 ?k14 ?a15 ?l15 ?c15 ?k15 ?a16 ?l16 ?c16 ?k16 ?a17 ?l17 ?c17 ?k17 ?a18 ?l18 ?c18 ?k18 ?a19 ?l19 ?c19 ?k19 ?a20 ?i20 ?l20 ?c20 ?k20 ?a21 ?l21 ?c21 ?k21 ?a22 ?l22 ?c22 ?k22 ?a23 ?l23 ?c23 ?k23 ?a24 ?l24 ?c24 ?k24 ?a25 ?l25 ?c25 ?k25 ?a26 ?l26 ?c26 ?k26 ?a27 ?l27 ?c27 ?k27 ?a28 ?l28 ?c28 ?k28 ?a29 ?l29 ?c29 ?k29 ?a30 ?i30 ?l30 ?c30 ?k30 ?a31 ?i31 ?l31 ?c31 ?k31 ?a32 ?i32 ?l32 ?c32 ?k32 ?a33 ?l33 ?c33 ?k33 ?a34 ?l34 ?c34 ?k34 ?a35 ?i35 ?l35 ?c35 ?k35 ?a36 ?l36 ?c36 ?k36 ?a37 ?l37 ?c37 ?k37 ?a38 ?l38 ?c38 ?k38 ?a39 ?l39 ?c39 ?k39 ?a40 ?l40 ?c40 ?k40 ?a41 ?l41 ?c41 ?k41 ?a42 ?l42 ?c42 ?k42 ?a43 ?l43 ?c43 ?k43 ?a44 ?l44 ?c44 ?k44 ?a45 ?l45 ?c45 ?k45 ?a46 ?l46 ?c46 ?k46 ?a47 ?l47 ?c47 ?k47 ?a48 ?l48 ?c48 ?k48 ?a49 ?l49 ?c49 ?k49 ?a50 ?l50 ?c50 ?k50 ?a51 ?l51 ?c51 ?k51 ?a52 ?l52 ?c52 ?k52 ?a53 ?l53 ?c53 ?k53 ?a54 ?l54 ?c54 ?k54 ?a55 ?l55 ?c55 ?k55 ?a56 ?l56 ?c56 ?k56 ?a57 ?i57 ?l57 ?c57 ?k57 ?a58 ?i58 ?l58 ?c58 ?k58 ?a59 ?l59 ?c59 ?k59 ?a60 ?l60 ?c60 ?k60 ?a61 ?l61 ?c61 ?k61 ?a62 ?l62 ?c62 ?k62 ?a63 ?l63 ?c63 ?k63 ?a64 ?i64 ?l64 ?c64 ?k64 ?a65 ?i65 ?l65 ?c65 ?k65 ?a66 ?i66 ?l66 ?c66 ?k66 ?a67 ?i67 ?l67 ?c67 ?k67 ?a68 ?l68 ?c68 ?k68 ?a69 ?i69 ?l69 ?c69 ?k69 ?a70 ?l70 ?c70 ?k70 ?yabs ?ylen ?yrange ?yisinstance ?yint ?ybool ?ystr ?ytuple ?ylist ?yset ?ysorted ?yany ?yall ?yValueError ?yenumerate ?ymin ?xTn ?xTl ?xTm ?nTs ?xTi ?xTc1 ?xTt ?xTbse ?nuV ?xcg ?xct ?xn0 ?xl0 ?xm0 ?nxs0 ?xi0 ?xkp0 ?xcd0 ?nxm0 ?nxd0 ?xsa0 ?xga0 ?xgn0 ?xca0 ?xt0 ?xb0 ?xs0 ?xu0 ?xv0 ?xn1 ?xl1 ?xm1 ?nxs1 ?xi1 ?xkp1 ?xcd1 ?nxm1 ?nxd1 ?xsa1 ?xga1 ?xgn1 ?xca1 ?xt1 ?xb1 ?xs1 ?xu1 ?xv1 ?xn2 ?xl2 ?xm2 ?nxs2 ?xi2 ?xkp2 ?xcd2 ?nxm2 ?nxd2 ?xsa2 ?xga2 ?xgn2 ?xca2 ?xt2 ?xb2 ?xs2 ?xu2 ?xv2 ?xn3 ?xl3 ?xm3 ?nxs3 ?xi3 ?xkp3 ?xcd3 ?nxm3 ?nxd3 ?xsa3 ?xga3 ?xgn3 ?xca3 ?xt3 ?xb3 ?xs3 ?xu3 ?xv3 ?xp0_1 ?nq0_1 ?xr0_1 ?xp0_2 ?nq0_2 ?xr0_2 ?xp0_3 ?nq0_3 ?xr0_3 ?xp1_0 ?nq1_0 ?xr1_0 ?xp1_2 ?nq1_2 ?xr1_2 ?xp1_3 ?nq1_3 ?xr1_3 ?xp2_0 ?nq2_0 ?xr2_0 ?xp2_1 ?nq2_1 ?xr2_1 ?xp2_3 ?nq2_3 ?xr2_3 ?xp3_0 ?nq3_0 ?xr3_0 ?xp3_1 ?nq3_1 ?xr3_1 ?xp3_2 ?nq3_2 ?xr3_2 ?aCTalk ?pgTalk ?hdTalk ?poTalk ?saTalk ?mkTalk ?kcTalk ?wTalk_many ?wTalk_kind ?wTalk_sentence ?wTalk_rule ?wTalk_space ?wTalk_parts ?wTalk_given ?wTalk_left ?wTalk_ended ?kcA ?kdA ?keA ?kfA ?kgA ?kcN ?kdN ?keN ?kfN ?kgN
  (case aCTalk=>k_is)
  (case a1=>k_is)
  (case l1=>k_is)
  (case c1=>k_is)
  (case k1=>k_is)
  (case a2=>k_is)
  (case l2=>k_is)
  (case c2=>k_is)
  (case k2=>k_is)
  (case a3=>k_is)
  (case l3=>k_is)
  (case c3=>k_is)
  (case k3=>k_is)
  (case a4=>k_is)
  (case l4=>k_is)
  (case c4=>k_is)
  (case k4=>k_is)
  (case a5=>k_is)
  (case l5=>k_is)
  (case c5=>k_is)
  (case k5=>k_is)
  (case a6=>k_is)
  (case l6=>k_is)
  (case c6=>k_is)
  (case k6=>k_is)
  (case a7=>k_is)
  (case l7=>k_is)
  (case c7=>k_is)
  (case k7=>k_is)
  (case a8=>k_is)
  (case l8=>k_is)
  (case c8=>k_is)
  (case k8=>k_is)
  (case a9=>k_is)
  (case l9=>k_is)
  (case c9=>k_is)
  (case k9=>k_is)
  (case a10=>k_is)
  (case l10=>k_is)
  (case c10=>k_is)
  (case k10=>k_is)
  (case a11=>k_is)
  (case l11=>k_is)
  (case c11=>k_is)
  (case k11=>k_is)
  (case a12=>k_is)
  (case l12=>k_is)
  (case c12=>k_is)
  (case k12=>k_is)
  (case a13=>k_is)
  (case l13=>k_is)
  (case c13=>k_is)
  (case k13=>k_is)
  (case a14=>k_is)
  (case l14=>k_is)
  (case c14=>k_is)
  (case k14=>k_is)
  (case a15=>k_is)
  (case l15=>k_is)
  (case c15=>k_is)
  (case k15=>k_is)
  (case a16=>k_is)
  (case l16=>k_is)
  (case c16=>k_is)
  (case k16=>k_is)
  (case a17=>k_is)
  (case l17=>k_is)
  (case c17=>k_is)
  (case k17=>k_is)
  (case a18=>k_is)
  (case l18=>k_is)
  (case c18=>k_is)
  (case k18=>k_is)
  (case a19=>k_is)
  (case l19=>k_is)
  (case c19=>k_is)
  (case k19=>k_is)
  (case a20=>k_is)
  (case i20=>k_is)
  (case l20=>k_is)
  (case c20=>k_is)
  (case k20=>k_is)
  (case a21=>k_is)
  (case l21=>k_is)
  (case c21=>k_is)
  (case k21=>k_is)
  (case a22=>k_is)
  (case l22=>k_is)
  (case c22=>k_is)
  (case k22=>k_is)
  (case a23=>k_is)
  (case l23=>k_is)
  (case c23=>k_is)
  (case k23=>k_is)
  (case a24=>k_is)
  (case l24=>k_is)
  (case c24=>k_is)
  (case k24=>k_is)
  (case a25=>k_is)
  (case l25=>k_is)
  (case c25=>k_is)
  (case k25=>k_is)
  (case a26=>k_is)
  (case l26=>k_is)
  (case c26=>k_is)
  (case k26=>k_is)
  (case a27=>k_is)
  (case l27=>k_is)
  (case c27=>k_is)
  (case k27=>k_is)
  (case a28=>k_is)
  (case l28=>k_is)
  (case c28=>k_is)
  (case k28=>k_is)
  (case a29=>k_is)
  (case l29=>k_is)
  (case c29=>k_is)
  (case k29=>k_is)
  (case a30=>k_is)
  (case i30=>k_is)
  (case l30=>k_is)
  (case c30=>k_is)
  (case k30=>k_is)
  (case a31=>k_is)
  (case i31=>k_is)
  (case l31=>k_is)
  (case c31=>k_is)
  (case k31=>k_is)
  (case a32=>k_is)
  (case i32=>k_is)
  (case l32=>k_is)
  (case c32=>k_is)
  (case k32=>k_is)
  (case a33=>k_is)
  (case l33=>k_is)
  (case c33=>k_is)
  (case k33=>k_is)
  (case a34=>k_is)
  (case l34=>k_is)
  (case c34=>k_is)
  (case k34=>k_is)
  (case a35=>k_is)
  (case i35=>k_is)
  (case l35=>k_is)
  (case c35=>k_is)
  (case k35=>k_is)
  (case a36=>k_is)
  (case l36=>k_is)
  (case c36=>k_is)
  (case k36=>k_is)
  (case a37=>k_is)
  (case l37=>k_is)
  (case c37=>k_is)
  (case k37=>k_is)
  (case a38=>k_is)
  (case l38=>k_is)
  (case c38=>k_is)
  (case k38=>k_is)
  (case a39=>k_is)
  (case l39=>k_is)
  (case c39=>k_is)
  (case k39=>k_is)
  (case a40=>k_is)
  (case l40=>k_is)
  (case c40=>k_is)
  (case k40=>k_is)
  (case a41=>k_is)
  (case l41=>k_is)
  (case c41=>k_is)
  (case k41=>k_is)
  (case a42=>k_is)
  (case l42=>k_is)
  (case c42=>k_is)
  (case k42=>k_is)
  (case a43=>k_is)
  (case l43=>k_is)
  (case c43=>k_is)
  (case k43=>k_is)
  (case a44=>k_is)
  (case l44=>k_is)
  (case c44=>k_is)
  (case k44=>k_is)
  (case a45=>k_is)
  (case l45=>k_is)
  (case c45=>k_is)
  (case k45=>k_is)
  (case a46=>k_is)
  (case l46=>k_is)
  (case c46=>k_is)
  (case k46=>k_is)
  (case a47=>k_is)
  (case l47=>k_is)
  (case c47=>k_is)
  (case k47=>k_is)
  (case a48=>k_is)
  (case l48=>k_is)
  (case c48=>k_is)
  (case k48=>k_is)
  (case a49=>k_is)
  (case l49=>k_is)
  (case c49=>k_is)
  (case k49=>k_is)
  (case a50=>k_is)
  (case l50=>k_is)
  (case c50=>k_is)
  (case k50=>k_is)
  (case a51=>k_is)
  (case l51=>k_is)
  (case c51=>k_is)
  (case k51=>k_is)
  (case a52=>k_is)
  (case l52=>k_is)
  (case c52=>k_is)
  (case k52=>k_is)
  (case a53=>k_is)
  (case l53=>k_is)
  (case c53=>k_is)
  (case k53=>k_is)
  (case a54=>k_is)
  (case l54=>k_is)
  (case c54=>k_is)
  (case k54=>k_is)
  (case a55=>k_is)
  (case l55=>k_is)
  (case c55=>k_is)
  (case k55=>k_is)
  (case a56=>k_is)
  (case l56=>k_is)
  (case c56=>k_is)
  (case k56=>k_is)
  (case a57=>k_is)
  (case i57=>k_is)
  (case l57=>k_is)
  (case c57=>k_is)
  (case k57=>k_is)
  (case a58=>k_is)
  (case i58=>k_is)
  (case l58=>k_is)
  (case c58=>k_is)
  (case k58=>k_is)
  (case a59=>k_is)
  (case l59=>k_is)
  (case c59=>k_is)
  (case k59=>k_is)
  (case a60=>k_is)
  (case l60=>k_is)
  (case c60=>k_is)
  (case k60=>k_is)
  (case a61=>k_is)
  (case l61=>k_is)
  (case c61=>k_is)
  (case k61=>k_is)
  (case a62=>k_is)
  (case l62=>k_is)
  (case c62=>k_is)
  (case k62=>k_is)
  (case a63=>k_is)
  (case l63=>k_is)
  (case c63=>k_is)
  (case k63=>k_is)
  (case a64=>k_is)
  (case i64=>k_is)
  (case l64=>k_is)
  (case c64=>k_is)
  (case k64=>k_is)
  (case a65=>k_is)
  (case i65=>k_is)
  (case l65=>k_is)
  (case c65=>k_is)
  (case k65=>k_is)
  (case a66=>k_is)
  (case i66=>k_is)
  (case l66=>k_is)
  (case c66=>k_is)
  (case k66=>k_is)
  (case a67=>k_is)
  (case i67=>k_is)
  (case l67=>k_is)
  (case c67=>k_is)
  (case k67=>k_is)
  (case a68=>k_is)
  (case l68=>k_is)
  (case c68=>k_is)
  (case k68=>k_is)
  (case a69=>k_is)
  (case i69=>k_is)
  (case l69=>k_is)
  (case c69=>k_is)
  (case k69=>k_is)
  (case a70=>k_is)
  (case l70=>k_is)
  (case c70=>k_is)
  (case k70=>k_is)
  (case yabs=>k_is)
  (case ylen=>k_is)
  (case yrange=>k_is)
  (case yisinstance=>k_is)
  (case yint=>k_is)
  (case ybool=>k_is)
  (case ystr=>k_is)
  (case ytuple=>k_is)
  (case ylist=>k_is)
  (case yset=>k_is)
  (case ysorted=>k_is)
  (case yany=>k_is)
  (case yall=>k_is)
  (case yValueError=>k_is)
  (case yenumerate=>k_is)
  (case ymin=>k_is)
  (case xTn=>k_is)
  (case xTl=>k_is)
  (case xTm=>k_is)
  (case nTs=>first | k_is | rfl | decide | simp)
  (case xTi=>k_is)
  (case xTc1=>k_is)
  (case xTt=>k_is)
  (case xTbse=>k_is)
  (case nuV=>first | k_is | rfl | decide | simp)
  (case xcg=>k_is)
  (case xct=>k_is)
  (case xn0=>k_is)
  (case xl0=>k_is)
  (case xm0=>k_is)
  (case nxs0=>first | k_is | rfl | decide | simp)
  (case xi0=>k_is)
  (case xkp0=>k_is)
  (case xcd0=>k_is)
  (case nxm0=>first | k_is | rfl | decide | simp)
  (case nxd0=>first | k_is | rfl | decide | simp)
  (case xsa0=>k_is)
  (case xga0=>k_is)
  (case xgn0=>k_is)
  (case xca0=>k_is)
  (case xt0=>k_is)
  (case xb0=>k_is)
  (case xs0=>k_is)
  (case xu0=>k_is)
  (case xv0=>k_is)
  (case xn1=>k_is)
  (case xl1=>k_is)
  (case xm1=>k_is)
  (case nxs1=>first | k_is | rfl | decide | simp)
  (case xi1=>k_is)
  (case xkp1=>k_is)
  (case xcd1=>k_is)
  (case nxm1=>first | k_is | rfl | decide | simp)
  (case nxd1=>first | k_is | rfl | decide | simp)
  (case xsa1=>k_is)
  (case xga1=>k_is)
  (case xgn1=>k_is)
  (case xca1=>k_is)
  (case xt1=>k_is)
  (case xb1=>k_is)
  (case xs1=>k_is)
  (case xu1=>k_is)
  (case xv1=>k_is)
  (case xn2=>k_is)
  (case xl2=>k_is)
  (case xm2=>k_is)
  (case nxs2=>first | k_is | rfl | decide | simp)
  (case xi2=>k_is)
  (case xkp2=>k_is)
  (case xcd2=>k_is)
  (case nxm2=>first | k_is | rfl | decide | simp)
  (case nxd2=>first | k_is | rfl | decide | simp)
  (case xsa2=>k_is)
  (case xga2=>k_is)
  (case xgn2=>k_is)
  (case xca2=>k_is)
  (case xt2=>k_is)
  (case xb2=>k_is)
  (case xs2=>k_is)
  (case xu2=>k_is)
  (case xv2=>k_is)
  (case xn3=>k_is)
  (case xl3=>k_is)
  (case xm3=>k_is)
  (case nxs3=>first | k_is | rfl | decide | simp)
  (case xi3=>k_is)
  (case xkp3=>k_is)
  (case xcd3=>k_is)
  (case nxm3=>first | k_is | rfl | decide | simp)
  (case nxd3=>first | k_is | rfl | decide | simp)
  (case xsa3=>k_is)
  (case xga3=>k_is)
  (case xgn3=>k_is)
  (case xca3=>k_is)
  (case xt3=>k_is)
  (case xb3=>k_is)
  (case xs3=>k_is)
  (case xu3=>k_is)
  (case xv3=>k_is)
  (case xp0_1=>k_is)
  (case nq0_1=>first | k_is | rfl | decide | simp)
  (case xr0_1=>k_is)
  (case xp0_2=>k_is)
  (case nq0_2=>first | k_is | rfl | decide | simp)
  (case xr0_2=>k_is)
  (case xp0_3=>k_is)
  (case nq0_3=>first | k_is | rfl | decide | simp)
  (case xr0_3=>k_is)
  (case xp1_0=>k_is)
  (case nq1_0=>first | k_is | rfl | decide | simp)
  (case xr1_0=>k_is)
  (case xp1_2=>k_is)
  (case nq1_2=>first | k_is | rfl | decide | simp)
  (case xr1_2=>k_is)
  (case xp1_3=>k_is)
  (case nq1_3=>first | k_is | rfl | decide | simp)
  (case xr1_3=>k_is)
  (case xp2_0=>k_is)
  (case nq2_0=>first | k_is | rfl | decide | simp)
  (case xr2_0=>k_is)
  (case xp2_1=>k_is)
  (case nq2_1=>first | k_is | rfl | decide | simp)
  (case xr2_1=>k_is)
  (case xp2_3=>k_is)
  (case nq2_3=>first | k_is | rfl | decide | simp)
  (case xr2_3=>k_is)
  (case xp3_0=>k_is)
  (case nq3_0=>first | k_is | rfl | decide | simp)
  (case xr3_0=>k_is)
  (case xp3_1=>k_is)
  (case nq3_1=>first | k_is | rfl | decide | simp)
  (case xr3_1=>k_is)
  (case xp3_2=>k_is)
  (case nq3_2=>first | k_is | rfl | decide | simp)
  (case xr3_2=>k_is)
  (case pgTalk=>k_is)
  (case hdTalk=>k_is)
  (case poTalk=>k_is)
  (case saTalk=>k_is)
  (case mkTalk=>k_is)
  (case kcTalk=>k_is)
  (case wTalk_many=>k_is)
  (case wTalk_kind=>k_is)
  (case wTalk_sentence=>k_is)
  (case wTalk_rule=>k_is)
  (case wTalk_space=>k_is)
  (case wTalk_parts=>k_is)
  (case wTalk_given=>k_is)
  (case wTalk_left=>k_is)
  (case wTalk_ended=>k_is)
  (case kcA=>k_is)
  (case kdA=>k_is)
  (case keA=>k_is)
  (case kfA=>k_is)
  (case kgA=>k_is)
  (case kcN=>k_is)
  (case kdN=>k_is)
  (case keN=>k_is)
  (case kfN=>k_is)
  (case kgN=>k_is)
