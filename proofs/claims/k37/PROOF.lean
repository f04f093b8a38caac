import PyProof.Rows.All
import Wide.All
import OpenK.AllK
import Wide.FinOn
import Lean
import PyProof.EqAt
import PyProof.EqKinds
import PyProof.TupleCall
import PyProof.NeKinds
import PyProof.EnumMake
import PyProof.EnumStmt
import PyProof.Draws
import PyProof.WalksT
import PyProof.StrWalks
import PyProof.Rows.EnumRows
import PyProof.StrLawsIdx
import PyProof.StrBlockI
import PyProof.StationsW
import PyProof.ExcInit
import PyProof.ExcBaseAll.ValueError
import PyProof.ExcAttrAll.ValueError
import PyProof.Rows.CatchOwn
import PyProof.CompUse
import PyProof.CompFree
import PyProof.SetKind
import PyProof.SetScanFacts
import PyProof.SetRoads
import PyProof.SetNew
import PyProof.Rows.SetFrom
import PyProof.CollectWalk
import PyProof.Rows.SortShell
import PyProof.Cells
import PyProof.ListRange
import PyProof.ConsumeWalk
import PyProof.Tail
import PyProof.Rows.Range3
import PySem.Challenge.RW_holdtalk_k37_ways_walk
set_option Elab.async false
set_option linter.all false
set_option maxRecDepth 100000
namespace L2
open PySem PySem.Spec PyProof.Rows
abbrev Ji:=Sum Int Str
def QX:Ji→Value→Bool
 | .inl k,v=>Value.isInt k v
 | .inr x,v=>Value.isStrOf x v
def Tj (w:World):Ji→Int
 | .inl k=>hashInt k
 | .inr x=>hashStr w x
theorem Bc:∀{k:Ji} {v:Value},QX k v=true→(∃i t,k=Sum.inl i∧v=Value.int i t)∨(∃x t,k=Sum.inr x∧v=Value.str x t)
 | .inl i,v,h=>by
  obtain⟨t,e⟩:=Value.isInt_shape (k:=i) (v:=v) h
  exact .inl ⟨i,t,rfl,e⟩
 | .inr x,v,h=>by
  obtain⟨t,e⟩:=Value.isStrOf_shape (x:=x) (v:=v) h
  exact .inr ⟨x,t,rfl,e⟩
theorem Ru (a b:Int):decide ((Sum.inl a:Ji)=Sum.inl b)=(a == b):=by
 by_cases e:a=b
 ·subst e;simp
 ·have h:¬(Sum.inl a:Ji)=Sum.inl b:=fun q=>e (Sum.inl.inj q)
  rw[decide_eq_false h]
  exact (beq_eq_false_iff_ne.mpr e).symm
theorem Rf (a b:Str):decide ((Sum.inr a:Ji)=Sum.inr b)=decide (a=b):=by
 by_cases e:a=b
 ·subst e;simp
 ·have h:¬(Sum.inr a:Ji)=Sum.inr b:=fun q=>e (Sum.inr.inj q)
  rw[decide_eq_false h,decide_eq_false e]
theorem Rv (a:Int) (b:Str):decide ((Sum.inl a:Ji)=Sum.inr b)=false:=decide_eq_false (fun q=>nomatch q)
theorem Rc (a:Str) (b:Int):decide ((Sum.inr a:Ji)=Sum.inl b)=false:=decide_eq_false (fun q=>nomatch q)
def IR (prog:Program) (w:World):PySem.KeyKind prog w Ji where
 is:=QX
 hash:=Tj w
 inj:=fun v a b ha hb=>by
  rcases Bc ha with⟨i,t,rfl,rfl⟩|⟨x,t,rfl,rfl⟩
  ·rcases Bc hb with⟨j,u,rfl,e⟩|⟨y,u,rfl,e⟩
   ·injection e with e1 _;rw[e1]
   ·exact nomatch e
  ·rcases Bc hb with⟨j,u,rfl,e⟩|⟨y,u,rfl,e⟩
   ·exact nomatch e
   ·injection e with e1 _;rw[e1]
 byValue:=fun k v h=>by
  rcases Bc h with⟨i,t,rfl,rfl⟩|⟨x,t,rfl,rfl⟩<;>rfl
 pyHash:=fun hv h=>by
  rcases Bc hv with⟨i,t,rfl,rfl⟩|⟨x,t,rfl,rfl⟩
  ·exact wpAny_pyHash_int h
  ·exact wpAny_pyHash_str h
 eqBool:=fun hu hv h=>by
  rcases Bc hu with⟨i,t,rfl,rfl⟩|⟨x,t,rfl,rfl⟩
  ·rcases Bc hv with⟨j,u,rfl,rfl⟩|⟨y,u,rfl,rfl⟩
   ·rw[Ru] at h;exact wpAny_eqBool_int h
   ·rw[Rv] at h;exact SeqAt.EqAt.int_str i t y u _ _ _ _ h
  ·rcases Bc hv with⟨j,u,rfl,rfl⟩|⟨y,u,rfl,rfl⟩
   ·rw[Rc] at h;exact SeqAt.EqAt.str_int x t j u _ _ _ _ h
   ·rw[Rf] at h;exact wpAny_eqBool_str h
 «strs»:=fun k x t v h=>by
  rcases Bc h with⟨i,u,rfl,e⟩|⟨y,u,rfl,e⟩
  ·exact nomatch e
  ·injection e with e1 _
   subst e1
   cases v<;>rfl
end L2
namespace L2
open PySem PySem.Spec PyProof.Rows
inductive V where
 | non | bl (b:Bool) | int (i:Int) | str (x:Str) | byt (b:Array UInt8) | flt (b:UInt64) | ref (a:Addr) | ty (n:String)
 deriving DecidableEq
def RelV:V→Value→Prop
 | .non,u=>u=Value.none
 | .bl b,u=>u=Value.bool b
 | .int i,u=>∃t,u=Value.int i t
 | .str x,u=>∃t,u=Value.str x t
 | .byt b,u=>∃t,u=Value.bytes b t
 | .flt b,u=>∃t,u=Value.float b t
 | .ref a,u=>u=Value.ref a
 | .ty n,u=>u=Value.type n
abbrev Vals:List V→List Value→Prop:=Paired RelV
theorem Vals.length {xs:List V} {us:List Value} (r:Vals xs us):xs.length=us.length:=Paired.length r
theorem Vals.get:∀{xs:List V} {us:List Value} {i:Nat} {x:V},Vals xs us→xs[i]? = some x→∃u,us[i]? = some u∧RelV x u
 | _,_,_,_,.nil,e=>by simp at e
 | _,_,0,_,.cons r _,e=>by simp at e;subst e;exact⟨_,rfl,r⟩
 | _,_,i+1,x,.cons _ t,e=>by
  obtain⟨u,h1,h2⟩:=Vals.get (i:=i) (x:=x) t (by simpa using e)
  exact⟨u,by simpa using h1,h2⟩
theorem Vals.append:∀{xs ys:List V} {us ws:List Value},Vals xs us→Vals ys ws→Vals (xs++ys) (us++ws)
 | _,_,_,_,.nil,s=>s
 | _,_,_,_,.cons r t,s=>.cons r (Vals.append t s)
theorem Vals.take:∀{xs:List V} {us:List Value} (n:Nat),Vals xs us→Vals (xs.take n) (us.take n)
 | _,_,0,_=>.nil
 | _,_,_+1,.nil=>.nil
 | _,_,n+1,.cons r t=>.cons r (Vals.take n t)
theorem Vals.drop:∀{xs:List V} {us:List Value} (n:Nat),Vals xs us→Vals (xs.drop n) (us.drop n)
 | _,_,0,r=>r
 | _,_,_+1,.nil=>.nil
 | _,_,n+1,.cons _ t=>Vals.drop n t
def RelO:Option V→Option Value→Prop
 | some v,some u=>RelV v u
 | none,none=>True
 | _,_=>False
def KV {κ:Type}:List (κ×V)→List (κ×Value)→Prop:=Paired fun (p:κ×V) (q:κ×Value)=>p.1=q.1∧RelV p.2 q.2
def kV:Ji→V
 | .inl i=>.int i
 | .inr x=>.str x
inductive HO where
 | lst (xs:List V)
 | tup (xs:List V)
 | dK (kvs:List (Ji×V)) | dT (kvs:List (List Ji×V))
 | set (S:Int→Bool) (n:Nat)
 | ins (C dx:Addr) (fs:List (Str×V))
 | own (x:Addr)
 | xd (fs:List (Str×V))
 | met (f x:Addr)
 | rng (lo hi:Int)
 | frz (o:Obj) (u:HO)
 | tbl (ps:Array Value)
 | ext (φ:Heap→Prop)
abbrev Hp:=Addr→Option HO
def upd (H:Hp) (a:Addr) (o:HO):Hp:=fun b=>if b=a then some o else H b
theorem upd_same {H:Hp} {a:Addr} {o:HO}:upd H a o a=some o:=by unfold upd;rw[if_pos rfl]
theorem Ax {H:Hp} {a b:Addr} {o:HO} (h:b≠a):upd H a o b=H b:=by unfold upd;rw[if_neg h]
theorem Dv {H:Hp} {a b:Addr} {o u:HO} (h:H a=some o) (h':H b=some u) (d:o≠u):a≠b:=by
 intro e;subst e;rw[h] at h';exact d (Option.some.inj h')
theorem Am {H:Hp} {a b:Addr} {o:HO} (h:H a=some o) (h':H b=none):a≠b:=by
 intro e;subst e;rw[h] at h';cases h'
section
variable (P:Program) (w:World)
def ObjOk (H:Hp) (h:Heap) (a:Addr):HO→Prop
 | .lst xs=>xs.length≤sizeLine∧∃(its:List Value) (n:Nat),Vals xs its∧h.get? a=some { cls:=.type "list",data:=.seq its.toArray n }
 | .tup xs=>xs.length≤sizeLine∧∃its:List Value,Vals xs its∧IsTup h a its.toArray
 | .dK kvs=>kvs.length≤sizeLine∧(a == sysModules)=false∧∃vs,KV kvs vs∧h.DictOf (IR P w) a vs
 | .dT kvs=>kvs.length≤sizeLine∧(a == sysModules)=false∧∃xs:List (List Ji×Addr×Value),
   Paired (fun (p:List Ji×V) (q:List Ji×Addr×Value)=>p.1=q.1∧H q.2.1=some (.tup (p.1.map kV))∧RelV p.2 q.2.2) kvs xs∧
   ∃o es ep,h.get? a=some o∧o.ExactDict∧o.data= .dict es ep∧es.toList=xs.map (entryOfKey (tupleKind (IR P w)))∧(xs.map (·.1)).Nodup
 | .set S n=>h.SetOf (intKind P w) a S n
 | .ins C dx fs=>H dx=some (.own a)∧fs.length≤1000∧dx≠a∧h.get? a=some (PySem.W.instObj C dx)∧
   ∃mA,h.Ns1 dx mA∧(∀f,RelO (fs.lookup f) (mA f))∧PySem.Within mA (fs.map (·.1))
 | .own _=>∃o,h.get? a=some o
 | .xd fs=>∃mA,h.Ns1 a mA∧∀f,RelO (fs.lookup f) (mA f)
 | .rng lo hi=>∃t u v,h.get? a=some { cls:=.type "range",data:=.fields #[.int lo t,.int hi u,.int 1 v] }
 | .frz o u=>h.get? a=some o∧ObjOk H h a u
 | .tbl ps=>h.get? a=some { cls:=.none,data:=.fields ps }
 | .met f x=>h.get? a=some (PySem.W.methodObj (.ref f) (.ref x))
 | .ext φ=>φ h∧(∃o,h.get? a=some o)∧∀h1 h2:Heap,φ h1→(∀o,h1.get? a=some o→h2.get? a=some o)→φ h2
def HOk (H:Hp) (h:Heap):Prop:=∀a o,H a=some o→ObjOk P w H h a o
end
section
variable {P:Program} {w:World} {H H':Hp} {h h':Heap} {a:Addr} {o:HO}
theorem ObjOk.lt (x:ObjOk P w H h a o):a<h.objs.size:=by
 cases o with
 | lst xs=>obtain⟨_,_,_,_,e⟩:=x;exact Heap.lt_size e
 | tup xs=>obtain⟨_,_,_,p⟩:=x;exact p.lt
 | dK kvs=>obtain⟨_,_,_,_,o,_,_,e,_⟩:=x;exact Heap.lt_size e
 | dT kvs=>obtain⟨_,_,_,_,o,_,_,e,_⟩:=x;exact Heap.lt_size e
 | set S n=>obtain⟨o,_,_,_,e,_⟩:=x;exact Heap.lt_size e
 | ins C dx fs=>obtain⟨_,_,_,e,_⟩:=x;exact Heap.lt_size e
 | own y=>obtain⟨_,e⟩:=x;exact Heap.lt_size e
 | xd fs=>obtain⟨_,⟨_,_,_,e,_⟩,_⟩:=x;exact Heap.lt_size e
 | rng lo hi=>obtain⟨_,_,_,e⟩:=x;exact Heap.lt_size e
 | frz ob u=>obtain⟨e,_⟩:=x;exact Heap.lt_size e
 | tbl ps=>exact Heap.lt_size (show h.get? a=some _ from x)
 | met f y=>exact Heap.lt_size (show h.get? a=some _ from x)
 | ext φ=>obtain⟨_,⟨_,e⟩,_⟩:=x;exact Heap.lt_size e
theorem Paired.mapP {α β:Type} {F G:α→β→Prop}:∀{l₁:List α} {l₂:List β},Paired F l₁ l₂→(∀a b,F a b→G a b)→Paired G l₁ l₂
 | _,_,.nil,_=>.nil
 | _,_,.cons r t,f=>.cons (f _ _ r) (Paired.mapP t f)
theorem ObjOk.stay (x:ObjOk P w H h a o) (k:∀b u,(b=a∨H b=some (.own a))→h.get? b=some u→h'.get? b=some u)
  (ho:∀b,H b=some (.own a)→H' b=some (.own a)) (ht:∀b xs,H b=some (.tup xs)→H' b=some (.tup xs)):ObjOk P w H' h' a o:=by
 induction o with
 | lst xs=>obtain⟨z,its,n,r,e⟩:=x;exact⟨z,its,n,r,k _ _ (.inl rfl) e⟩
 | tup xs=>obtain⟨z,its,r,ob,e,c⟩:=x;exact⟨z,its,r,ob,k _ _ (.inl rfl) e,c⟩
 | dK kvs=>obtain⟨z,y,vs,r,ob,es,ep,e,c⟩:=x;exact⟨z,y,vs,r,ob,es,ep,k _ _ (.inl rfl) e,c⟩
 | dT kvs=>
  obtain⟨z,y,xs,r,ob,es,ep,e,c⟩:=x
  exact⟨z,y,xs,Paired.mapP r fun p q z=>⟨z.1,ht _ _ z.2.1,z.2.2⟩,ob,es,ep,k _ _ (.inl rfl) e,c⟩
 | set S n=>obtain⟨ob,es,ep,t,e,c⟩:=x;exact⟨ob,es,ep,t,k _ _ (.inl rfl) e,c⟩
 | ins C dx fs=>
  obtain⟨d,z,ne,e,mA,⟨od,es,ep,e2,c⟩,r⟩:=x
  exact⟨ho _ d,z,ne,k _ _ (.inl rfl) e,mA,⟨od,es,ep,k _ _ (.inr d) e2,c⟩,r⟩
 | own y=>obtain⟨ob,e⟩:=x;exact⟨ob,k _ _ (.inl rfl) e⟩
 | xd fs=>obtain⟨mA,⟨od,es,ep,e,c⟩,r⟩:=x;exact⟨mA,⟨od,es,ep,k _ _ (.inl rfl) e,c⟩,r⟩
 | rng lo hi=>obtain⟨t,u,v,e⟩:=x;exact⟨t,u,v,k _ _ (.inl rfl) e⟩
 | frz ob u ih=>obtain⟨e,q⟩:=x;exact⟨k _ _ (.inl rfl) e,ih q⟩
 | tbl ps=>
  have e:h.get? a=some { cls:=.none,data:=.fields ps }:=x
  show h'.get? a=some { cls:=.none,data:=.fields ps }
  exact k a _ (.inl rfl) e
 | met f y=>
  have e:h.get? a=some (PySem.W.methodObj (.ref f) (.ref y)):=x
  show h'.get? a=some (PySem.W.methodObj (.ref f) (.ref y))
  exact k a _ (.inl rfl) e
 | ext φ=>obtain⟨p,⟨o,e⟩,st⟩:=x;exact⟨st _ _ p fun o q=>k _ _ (.inl rfl) q,⟨o,k _ _ (.inl rfl) e⟩,st⟩
theorem HOk.lt (x:HOk P w H h) (e:H a=some o):a<h.objs.size:=(x a o e).lt
theorem HOk.fresh (x:HOk P w H h) (e:h.objs.size≤a):H a=none:=by
 cases q:H a with
 | none=>rfl
 | some u=>exact absurd (Nat.lt_of_lt_of_le (x.lt q) e) (Nat.lt_irrefl _)
theorem HOk.kept (x:HOk P w H h) (k:∀b u,h.get? b=some u→h'.get? b=some u):HOk P w H h':=fun a o e=>
 (x a o e).stay (fun b u _ q=>k b u q) (fun _ q=>q) fun _ _ q=>q
theorem HOk.laid (x:HOk P w H h) (k:∀b u,h.get? b=some u→h'.get? b=some u) (hp:h.objs.size≤a) (new:ObjOk P w (upd H a o) h' a o):HOk P w (upd H a o) h':=fun b u e=>by
 have hn:=x.fresh hp
 by_cases hb:b=a
 ·subst hb;rw[upd_same] at e;cases e;exact new
 ·rw[Ax hb] at e
  exact (x b u e).stay (fun c v _ q=>k c v q) (fun c q=>by rw[Ax (Am q hn)];exact q) fun c xs q=>by rw[Ax (Am q hn)];exact q
end
def Rd (H:Hp) (a:Addr) (u:HO):Prop:=H a=some u∨∃o,H a=some (.frz o u)
theorem Rd.ok {P:Program} {w:World} {H:Hp} {h:Heap} {a:Addr} {u:HO} (r:Rd H a u) (x:HOk P w H h):ObjOk P w H h a u:=by
 rcases r with r | ⟨o,r⟩
 ·exact x a u r
 ·obtain⟨_,q⟩:=x a _ r
  exact q
def R5:Option HO→Prop
 | some (.lst _)=>True
 | some (.dK _)=>True
 | some (.dT _)=>True
 | some (.set _ _)=>True
 | some (.ins _ _ _)=>True
 | some (.ext _)=>True
 | _=>False
section
variable {P:Program} {w:World} {H:Hp} {h h':Heap} {x e:Addr} {o':HO}
theorem HOk.write (ok:HOk P w H h) (mu:R5 (H x)) (he:e=x∨H e=some (.own x)) (k:∀b u,b≠e→h.get? b=some u→h'.get? b=some u) (heo:∃u,h'.get? e=some u)
  (new:ObjOk P w (upd H x o') h' x o'):HOk P w (upd H x o') h':=fun b u q=>by
 have nown:∀c y,H c=some (.own y)→c≠x:=fun c y r z=>by subst z;rw[r] at mu;exact mu
 have ntup:∀c xs,H c=some (.tup xs)→c≠x:=fun c xs r z=>by subst z;rw[r] at mu;exact mu
 by_cases hb:b=x
 ·subst hb;rw[upd_same] at q;cases q;exact new
 ·rw[Ax hb] at q
  by_cases hbe:b=e
  ·have q':H b=some (.own x):=by
    rcases he with z | z
    ·exact absurd (hbe.trans z) hb
    ·rw[hbe];exact z
   rw[q] at q';cases q'
   obtain⟨v,hv⟩:=heo
   exact⟨v,by rw[hbe];exact hv⟩
  ·refine (ok b u q).stay (fun c v hc r=>k c v ?_ r) (fun c r=>by rw[Ax (nown c b r)];exact r) fun c xs r=>by rw[Ax (ntup c xs r)];exact r
   rcases hc with rfl | hc
   ·exact hbe
   ·rintro rfl
    rcases he with z | z
    ·exact nown c b hc z
    ·rw[hc] at z;cases z;exact hb rfl
end
structure Un (fs ex:List Addr) (H H':Hp) (h h':Heap):Prop where
 keep:∀b o,h.get? b=some o→H b=none→b∉fs→b∉ex→h'.get? b=some o
 slot:∀b o,h.get? b=some o→H b=none→b∈fs→b∉ex→∃sl,h'.get? b=some { o with slots:=sl }
 free:∀b o,h.get? b=some o→H b=none→b∉ex→H' b=none
 there:∀b o,h.get? b=some o→b∉ex→∃o',h'.get? b=some o'
 tups:∀b xs,H b=some (.tup xs)→H' b=some (.tup xs)
 frzs:∀b o u,H b=some (.frz o u)→H' b=some (.frz o u)
 tbls:∀b ps,H b=some (.tbl ps)→∃more,H' b=some (.tbl (ps++more))
section
variable {fs fs' ex ex':List Addr} {H H1 H2:Hp} {h h1 h2 h':Heap} {a x e:Addr} {o:HO}
theorem Un.any (u:Un fs ex H H1 h h1) {b:Addr} {ob:Obj} (q:h.get? b=some ob) (n:H b=none) (hx:b∉ex):∃sl,h1.get? b=some { ob with slots:=sl }:=by
 by_cases hb:b∈fs
 ·exact u.slot b ob q n hb hx
 ·exact⟨ob.slots,u.keep b ob q n hb hx⟩
theorem Un.kept (k:∀b u,h.get? b=some u→h'.get? b=some u):Un fs ex H H h h':=
 ⟨fun b ob q _ _ _=>k b ob q,fun b ob q _ _ _=>⟨ob.slots,k b ob q⟩,fun _ _ _ n _=>n,fun b ob q _=>⟨ob,k b ob q⟩,fun _ _ q=>q,fun _ _ _ q=>q,fun _ ps q=>⟨#[],by rw[q];simp⟩⟩
theorem Un.refl:Un fs ex H H h h:=Un.kept fun _ _ q=>q
theorem Un.laid (k:∀b u,h.get? b=some u→h'.get? b=some u) (hp:h.objs.size≤a) (hn:H a=none):Un fs ex H (upd H a o) h h' where
 keep:=fun b u q _ _ _=>k b u q
 slot:=fun b u q _ _ _=>⟨u.slots,k b u q⟩
 free:=fun b u q n _=>by rw[Ax (Nat.ne_of_lt (Nat.lt_of_lt_of_le (Heap.lt_size q) hp))];exact n
 there:=fun b u q _=>⟨u,k b u q⟩
 tups:=fun b xs q=>by rw[Ax (Am q hn)];exact q
 frzs:=fun b u xs q=>by rw[Ax (Am q hn)];exact q
 tbls:=fun b ps q=>⟨#[],by rw[Ax (Am q hn),q];simp⟩
theorem Un.write (mu:R5 (H x)) (he:e=x∨H e=some (.own x)) (k:∀b u,b≠e→h.get? b=some u→h'.get? b=some u) (heo:∃u,h'.get? e=some u):Un fs ex H (upd H x o) h h':=by
 have hx:∀b,H b=none→b≠x:=fun b n z=>by subst z;rw[n] at mu;exact mu
 have hb:∀b,H b=none→b≠e:=fun b n z=>by
  subst z
  rcases he with r | r
  ·exact hx b n r
  ·rw[n] at r;cases r
 have hm:∀b u,H b=some u→¬R5 (some u)→b≠x:=fun b u q nm z=>by subst z;rw[q] at mu;exact nm mu
 refine⟨fun b u q n _ _=>k b u (hb b n) q,fun b u q n _ _=>⟨u.slots,k b u (hb b n) q⟩,fun b u q n _=>by rw[Ax (hx b n)];exact n,fun b u q _=>?_,
  fun b xs q=>by rw[Ax (hm b _ q fun z=>z)];exact q,fun b u xs q=>by rw[Ax (hm b _ q fun z=>z)];exact q,fun b ps q=>⟨#[],by rw[Ax (hm b _ q fun z=>z),q];simp⟩⟩
 by_cases hbe:b=e
 ·subst hbe;exact heo
 ·exact⟨u,k b u hbe q⟩
end
def ST (h:Heap) (H:Hp):List Addr:=(List.range h.objs.size).filter fun a=>(H a).isSome
def IE (h:Heap) (H:Hp):Heap:=PySem.W.hideAll h (ST h H)
theorem MI (h:Heap) (H:Hp):(IE h H).objs.size=h.objs.size:=PySem.W.hideAll_size _ _
theorem NM {h:Heap} {H:Hp} {b:Addr} {o:Obj} (e:h.get? b=some o) (n:H b=none):(IE h H).get? b=some o:=
 PySem.W.hideAll_get _ e fun hm=>by
  have q:(H b).isSome=true:=(List.mem_filter.mp hm).2
  rw[n] at q;simp at q
theorem PU {h:Heap} {H:Hp} {b:Addr} {o:Obj} (e:(IE h H).get? b=some o):h.get? b=some o∧H b=none:=by
 have e':h.get? b=some o:=PySem.W.of_hideAll (ST h H) e
 refine⟨e',?_⟩
 cases q:H b with
 | none=>rfl
 | some x=>
  have hm:b∈ST h H:=List.mem_filter.mpr ⟨List.mem_range.mpr (Heap.lt_size e'),by simp[q]⟩
  have z:(IE h H).get? b=none:=PySem.W.hideAll_none (ST h H) hm
  rw[z] at e;cases e
end L2
namespace L2
open PySem PySem.Spec PyProof.Rows
structure Mod (K:PySem.W.Frag) (mg:Str→Option Value) (base:Heap):Prop where
 kin:K.In base
 glob:base.Ns mainGlobals mg
 blt:∃mb,base.Ns builtinsNs mb∧∀x:Str,x≠"__name__"→mb x=bootBuiltins x
 nolimit:base.NoLimit
structure Cx where
 prog:Program
 w:World
 K:PySem.W.Frag
 mg:Str→Option Value
 base:Heap
 A:Around
 N:List Str
 s₀:Shared
 H₀:Hp
 env:Env
 outer:List Env
 stack:List Env
 ex:List Addr
 fn:Str→Bool
 calm:Bool
 pn:List (Addr×Obj)
 xe:Value→Shared→Prop
def Hw (l:List Env):List Addr:=l.filterMap (·.frame)
abbrev Cx.fs (X:Cx):List Addr:=Hw X.outer
def S7 (sc:Scope) (x:Str):Prop:=sc.names.lookup x=some .local∨sc.names.lookup x=some .cell∨sc.names.lookup x=some .free
def R6 (sc:Scope) (x:Str):Prop:=sc.names.lookup x=some .local∨sc.names.lookup x=some .cell
def SX (env:Env) (h:Heap) (m:Str→Option Value) (x:Str) (u:Value):Prop:=
 (env.kindOf x=some .local∧m x=some u)∨((env.kindOf x=some .cell∨env.kindOf x=some .free)∧∃c,env.cells.lookup x=some c∧h.IsCell c (some u))
structure Cx.Ok (X:Cx):Prop where
 mod:Mod X.K X.mg X.base
 kind:X.env.scope.kind= .function
 glob:X.env.globals=mainGlobals
 blt:X.env.builtins=builtinsNs
 above:X.s₀.heap.objs.size≤X.env.locals
 inj:∀x y c,X.env.cells.lookup x=some c→X.env.cells.lookup y=some c→x=y
 has:∀x,(X.env.kindOf x=some .cell∨X.env.kindOf x=some .free)→∃c,X.env.cells.lookup x=some c
 cab:∀x c,X.fn x=true→X.env.cells.lookup x=some c→X.s₀.heap.objs.size≤c
 hd:X.calm=true→X.A.handled=none
 frames:X.A.frames=some X.stack
 stk:X.stack=X.outer∨(X.stack=X.env::X.outer∧X.env.frame=some X.env.locals)
 exf:∀b∈X.ex,b≠X.env.locals∧∀x c,X.env.cells.lookup x=some c→c≠b
 bs:∀b o,X.base.get? b=some o→X.s₀.heap.get? b=some o∧X.H₀ b=none
 bsz:X.base.objs.size≤X.s₀.heap.objs.size
 noex:∀b o,X.base.get? b=some o→b∉X.ex
 exfs:∀b∈X.ex,b∉X.fs
 funs:X.s₀.heap.FunFrames X.base X.outer
 frf:∀b∈X.fs,X.H₀ b=none
structure Inv (X:Cx) (pins:List (Addr×Obj)) (σ:List (Option V)) (H:Hp) (s:Shared):Prop where
 ok:X.Ok
 os:s.os=X.s₀.os
 bare:AllBare s.gens
 base:Un X.fs X.ex X.H₀ H X.s₀.heap s.heap
 loc:∃m,s.heap.Ns X.env.locals m∧∀(i:Nat) (x:Str) (v:V),X.N[i]? = some x→σ[i]? = some (some v)→S7 X.env.scope x→∃u,RelV v u∧SX X.env s.heap m x u
 cell:∀x c,X.env.cells.lookup x=some c→∃v,s.heap.IsCell c v
 free:H X.env.locals=none
 freeC:∀x c,X.env.cells.lookup x=some c→H c=none
 pin:∀p∈X.pn++pins,s.heap.get? p.1=some p.2∧H p.1=none∧p.1≠X.env.locals∧p.1∉X.fs∧∀v,p.2.data≠.cell v
 hok:HOk X.prog X.w H s.heap
 len:σ.length=X.N.length
section
variable {X:Cx} {pins:List (Addr×Obj)} {σ:List (Option V)} {H H':Hp} {s:Shared} {h':Heap}
theorem Cx.Ok.nofr (ok:X.Ok) {b:Addr} {o:Obj} (e:X.base.get? b=some o):b∉X.fs:=fun hb=>by
 have:=(ok.funs.mem hb).1
 rw[e] at this;cases this
theorem Inv.bs (I:Inv X pins σ H s):∀b o,X.base.get? b=some o→s.heap.get? b=some o∧H b=none:=fun b o e=>
 ⟨I.base.keep b o (I.ok.bs b o e).1 (I.ok.bs b o e).2 (I.ok.nofr e) (I.ok.noex b o e),I.base.free b o (I.ok.bs b o e).1 (I.ok.bs b o e).2 (I.ok.noex b o e)⟩
theorem Inv.bk (I:Inv X pins σ H s):∀b o,X.base.get? b=some o→s.heap.get? b=some o:=fun b o e=>(I.bs b o e).1
theorem Inv.mod (I:Inv X pins σ H s):Mod X.K X.mg X.base:=I.ok.mod
theorem Inv.kIn (I:Inv X pins σ H s):X.K.In s.heap:=I.ok.mod.kin.keeps I.bk
theorem Inv.lt (I:Inv X pins σ H s):X.env.locals<s.heap.objs.size:=let ⟨_,hn,_⟩:=I.loc;hn.lt
theorem Inv.sz (I:Inv X pins σ H s):X.s₀.heap.objs.size≤s.heap.objs.size:=Nat.le_trans I.ok.above (Nat.le_of_lt I.lt)
theorem Inv.nofs (I:Inv X pins σ H s) {a:Addr} (h:s.heap.objs.size≤a):a∉X.fs:=fun hb=>by
 obtain⟨_,o,ho,_⟩:=I.ok.funs.mem hb
 exact absurd (Nat.lt_of_lt_of_le (Heap.lt_size ho) (Nat.le_trans I.sz h)) (Nat.lt_irrefl _)
theorem Inv.cne (I:Inv X pins σ H s):∀x c,X.env.cells.lookup x=some c→c≠X.env.locals:=fun x c e z=>by
 obtain⟨v,o,ho,hd⟩:=I.cell x c e
 obtain⟨m,⟨o',es,ep,ho',hd',_⟩,_⟩:=I.loc
 rw[z,ho'] at ho;cases ho;rw[hd'] at hd;cases hd
theorem Inv.funs (I:Inv X pins σ H s):s.heap.FunFrames X.base X.outer:=by
 have all:∀(l:List Env),(∀b∈Hw l,b∈X.fs)→X.s₀.heap.FunFrames X.base l→s.heap.FunFrames X.base l:=by
  intro l
  induction l with
  | nil=>intro _ _;trivial
  | cons env r ih=>
   intro hs hl
   obtain⟨hk,⟨L,o,hf,hn,ho,hd⟩,hr⟩:=hl
   have hL:L∈X.fs:=hs L (by unfold Hw;rw[List.filterMap_cons,hf];exact List.mem_cons_self)
   obtain⟨sl,e⟩:=I.base.slot L o ho (I.ok.frf L hL) hL fun z=>I.ok.exfs L z hL
   exact⟨hk,⟨L,_,hf,hn,e,hd⟩,ih (fun b hb=>hs b (by unfold Hw;rw[List.filterMap_cons,hf];exact List.mem_cons_of_mem _ hb)) hr⟩
 exact all X.outer (fun _ hb=>hb) I.ok.funs
theorem Inv.stack (I:Inv X pins σ H s):s.heap.FunFrames X.base X.stack:=by
 rcases I.ok.stk with e | ⟨e,hf⟩
 ·rw[e];exact I.funs
 ·rw[e]
  obtain⟨m,hn,_⟩:=I.loc
  refine .cons (by rw[I.ok.kind];decide) hf hn ?_ I.funs
  exact Heap.get?_none_of_le (Nat.le_trans I.ok.bsz I.ok.above)
theorem Inv.stkSub (I:Inv X pins σ H s):∀b∈Hw X.stack,b∈X.env.locals::X.fs:=fun b hb=>by
 rcases I.ok.stk with e | ⟨e,hf⟩
 ·rw[e] at hb;exact List.mem_cons_of_mem _ hb
 ·rw[e] at hb
  unfold Hw at hb
  rw[List.filterMap_cons,hf] at hb
  exact hb
theorem Inv.stkFree (I:Inv X pins σ H s):∀b∈Hw X.stack,H b=none:=fun b hb=>by
 rcases List.mem_cons.mp (I.stkSub b hb) with e | hb
 ·rw[e];exact I.free
 ·obtain⟨_,o,ho,_⟩:=I.ok.funs.mem hb
  exact I.base.free b o ho (I.ok.frf b hb) fun z=>I.ok.exfs b z hb
theorem Inv.step {g':Array GenState} {t':Nat} {d':Drawn} {ch:List Addr} (I:Inv X pins σ H s)
  (hch:∀b∈ch,(b∈X.ex∨X.s₀.heap.objs.size≤b)∧b≠X.env.locals∧(∀x c,X.env.cells.lookup x=some c→c≠b)∧∀p∈X.pn++pins,p.1≠b)
  (keep:∀b o,b≠X.env.locals→b∉X.fs→b∉ch→s.heap.get? b=some o→H b=none→h'.get? b=some o)
  (slot:∀b o,b≠X.env.locals→b∈X.fs→b∉ch→s.heap.get? b=some o→H b=none→∃sl,h'.get? b=some { o with slots:=sl }) (free:∀b o,b∉ch→s.heap.get? b=some o→H b=none→H' b=none)
  (there:∀b o,b∉ch→s.heap.get? b=some o→∃o',h'.get? b=some o')
  (tups:∀b xs,H b=some (.tup xs)→H' b=some (.tup xs)) (frzs:∀b o u,H b=some (.frz o u)→H' b=some (.frz o u)) (tbls:∀b ps,H b=some (.tbl ps)→∃more,H' b=some (.tbl (ps++more)))
  (ns:∀m,s.heap.Ns X.env.locals m→h'.Ns X.env.locals m) (hok:HOk X.prog X.w H' h') (hg:AllBare g') :
  Inv X pins σ H' { s with heap:=h',gens:=g',drawn:=d',toks:=t' }:=by
 have neL:∀b o,X.s₀.heap.get? b=some o→b≠X.env.locals:=fun b o e=>Nat.ne_of_lt (Nat.lt_of_lt_of_le (Heap.lt_size e) I.ok.above)
 have neC:∀b o,X.s₀.heap.get? b=some o→b∉X.ex→b∉ch:=fun b o e hx hb=>by
  rcases (hch b hb).1 with z | z
  ·exact hx z
  ·exact absurd (Nat.lt_of_lt_of_le (Heap.lt_size e) z) (Nat.lt_irrefl _)
 have cellK:∀x c,X.env.cells.lookup x=some c→∀v,s.heap.IsCell c v→h'.IsCell c v:=fun x c e v ⟨o,ho,hd⟩=>by
  have nch:c∉ch:=fun z=>(hch c z).2.2.1 x c e rfl
  by_cases hc:c∈X.fs
  ·obtain⟨sl,q⟩:=slot c o (I.cne x c e) hc nch ho (I.freeC x c e)
   exact⟨_,q,hd⟩
  ·exact⟨o,keep c o (I.cne x c e) hc nch ho (I.freeC x c e),hd⟩
 refine⟨I.ok,I.os,hg,⟨fun b o e n hb hx=>?_,fun b o e n hb hx=>?_,fun b o e n hx=>?_,fun b o e hx=>?_,fun b xs e=>tups b xs (I.base.tups b xs e),fun b o xs e=>frzs b o xs (I.base.frzs b o xs e),fun b ps e=>?_⟩,?_,fun x c e=>?_,?_,fun x c e=>?_,fun p hp=>?_,hok,I.len⟩
 ·exact keep b o (neL b o e) hb (neC b o e hx) (I.base.keep b o e n hb hx) (I.base.free b o e n hx)
 ·obtain⟨sl,e1⟩:=I.base.slot b o e n hb hx
  obtain⟨sl',e2⟩:=slot b _ (neL b o e) hb (neC b o e hx) e1 (I.base.free b o e n hx)
  exact⟨sl',e2⟩
 ·obtain⟨o',e1⟩:=I.base.there b o e hx
  exact free b o' (neC b o e hx) e1 (I.base.free b o e n hx)
 ·obtain⟨o',e1⟩:=I.base.there b o e hx
  exact there b o' (neC b o e hx) e1
 ·obtain⟨m1,e1⟩:=I.base.tbls b ps e
  obtain⟨m2,e2⟩:=tbls b _ e1
  exact⟨m1++m2,by rw[e2,Array.append_assoc]⟩
 ·obtain⟨m,hn,hl⟩:=I.loc
  refine⟨m,ns m hn,fun i x v e1 e2 e3=>?_⟩
  obtain⟨u,r,l⟩:=hl i x v e1 e2 e3
  refine⟨u,r,?_⟩
  rcases l with l | ⟨k,c,e,z⟩
  ·exact .inl l
  ·exact .inr ⟨k,c,e,cellK x c e _ z⟩
 ·obtain⟨v,z⟩:=I.cell x c e
  exact⟨v,cellK x c e v z⟩
 ·obtain⟨m,⟨o,_,_,ho,_⟩,_⟩:=I.loc
  exact free _ o (fun z=>(hch _ z).2.1 rfl) ho I.free
 ·obtain⟨v,o,ho,hd⟩:=I.cell x c e
  exact free c o (fun z=>(hch c z).2.2.1 x c e rfl) ho (I.freeC x c e)
 ·obtain⟨e,n,ne,nf,d⟩:=I.pin p hp
  have nch:p.1∉ch:=fun z=>(hch p.1 z).2.2.2 p hp rfl
  exact⟨keep p.1 p.2 ne nf nch e n,free p.1 p.2 nch e n,ne,nf,d⟩
theorem Inv.un {t':Nat} (I:Inv X pins σ H s) (u:Un X.fs [] H H' s.heap h') (hok:HOk X.prog X.w H' h'):Inv X pins σ H' { s with heap:=h',toks:=t' }:=by
 obtain⟨m,⟨o,es,ep,ho,r⟩,_⟩:=id I.loc
 obtain⟨sl,hL⟩:=u.any ho I.free (by simp)
 exact I.step (g':=s.gens) (d':=s.drawn) (ch:=[]) (fun _ z=>nomatch z) (fun b o _ hb _ e n=>u.keep b o e n hb (by simp)) (fun b o _ hb _ e n=>u.slot b o e n hb (by simp)) (fun b o _ e n=>u.free b o e n (by simp)) (fun b o _ e=>u.there b o e (by simp)) u.tups u.frzs u.tbls (fun m' hm=>by
  obtain⟨o',es',ep',ho',r'⟩:=hm
  rw[ho] at ho';cases ho'
  exact⟨_,es',ep',hL,r'⟩) hok I.bare
theorem Inv.call {g':Array GenState} {t':Nat} {d':Drawn} {ch:List Addr} (I:Inv X pins σ H s) (u:Un (Hw X.stack) ch H H' s.heap h') (hok:HOk X.prog X.w H' h') (hg:AllBare g')
  (hch:∀b∈ch,(b∈X.ex∨X.s₀.heap.objs.size≤b)∧b≠X.env.locals∧(∀x c,X.env.cells.lookup x=some c→c≠b)∧∀p∈X.pn++pins,p.1≠b) :
  Inv X pins σ H' { s with heap:=h',gens:=g',drawn:=d',toks:=t' }:=by
 obtain⟨m,⟨o,es,ep,ho,r⟩,_⟩:=id I.loc
 obtain⟨sl,hL⟩:=u.any ho I.free fun z=>(hch _ z).2.1 rfl
 exact I.step (ch:=ch) hch (fun b o hL hb hc e n=>u.keep b o e n (fun z=>(List.mem_cons.mp (I.stkSub b z)).elim hL hb) hc) (fun b o _ _ hc e n=>u.any e n hc) (fun b o hc e n=>u.free b o e n hc) (fun b o hc e=>u.there b o e hc) u.tups u.frzs u.tbls (fun m' hm=>by
  obtain⟨o',es',ep',ho',r'⟩:=hm
  rw[ho] at ho';cases ho'
  exact⟨_,es',ep',hL,r'⟩) hok hg
theorem Inv.turned {t':Nat} {it:Addr} (I:Inv X pins σ H s) (k:∀b o,b≠it→s.heap.get? b=some o→h'.get? b=some o) (hn:H it=none) (hL:it≠X.env.locals)
  (h1:it∈X.ex∨X.s₀.heap.objs.size≤it) (h2:∀x c,X.env.cells.lookup x=some c→c≠it) (h3:∀p∈X.pn++pins,p.1≠it):Inv X pins σ H { s with heap:=h',toks:=t' }:=by
 have nit:∀b u,H b=some u→b≠it:=fun b u e z=>by rw[z,hn] at e;cases e
 refine I.step (g':=s.gens) (d':=s.drawn) (ch:=[it]) (fun b hb=>?_) (fun b o _ _ hc e _=>k b o (fun z=>hc (by simp[z])) e) (fun b o _ _ hc e _=>⟨o.slots,k b o (fun z=>hc (by simp[z])) e⟩) (fun _ _ _ _ n=>n)
  (fun b o hc e=>⟨o,k b o (fun z=>hc (by simp[z])) e⟩) (fun _ _ e=>e) (fun _ _ _ e=>e) (fun b ps e=>⟨#[],by rw[e];simp⟩) (fun m hm=>?_) (fun b u e=>?_) I.bare
 ·have e:b=it:=by simpa using hb
  subst e
  exact⟨h1,hL,h2,h3⟩
 ·obtain⟨o,es,ep,ho,r⟩:=hm
  exact⟨o,es,ep,k _ o (Ne.symm hL) ho,r⟩
 ·refine (I.hok b u e).stay (fun c v hc q=>k c v ?_ q) (fun _ q=>q) fun _ _ q=>q
  rcases hc with z | z
  ·rw[z];exact nit b u e
  ·exact nit c _ z
theorem Inv.tok (I:Inv X pins σ H s) (t:Nat):Inv X pins σ H { s with toks:=t }:=I.un (h':=s.heap) (t':=t) Un.refl I.hok
theorem Inv.kept {t':Nat} (I:Inv X pins σ H s) (k:∀b u,s.heap.get? b=some u→h'.get? b=some u):Inv X pins σ H { s with heap:=h',toks:=t' }:=I.un (Un.kept k) (I.hok.kept k)
theorem Inv.laid {a:Addr} {o:HO} {t':Nat} (I:Inv X pins σ H s) (k:∀b u,s.heap.get? b=some u→h'.get? b=some u) (hp:s.heap.objs.size≤a) (new:ObjOk X.prog X.w (upd H a o) h' a o) :
  Inv X pins σ (upd H a o) { s with heap:=h',toks:=t' }:=I.un (Un.laid k hp (I.hok.fresh hp)) (I.hok.laid k hp new)
theorem Inv.write {x e:Addr} {o:HO} {t':Nat} (I:Inv X pins σ H s) (mu:R5 (H x)) (he:e=x∨H e=some (.own x)) (k:∀b u,b≠e→s.heap.get? b=some u→h'.get? b=some u) (heo:∃u,h'.get? e=some u)
  (new:ObjOk X.prog X.w (upd H x o) h' x o):Inv X pins σ (upd H x o) { s with heap:=h',toks:=t' }:=I.un (Un.write mu he k heo) (I.hok.write mu he k heo new)
theorem Inv.pins_of {pins':List (Addr×Obj)} (I:Inv X pins σ H s) (h:∀p∈pins',s.heap.get? p.1=some p.2∧H p.1=none∧p.1≠X.env.locals∧p.1∉X.fs∧∀v,p.2.data≠.cell v):Inv X pins' σ H s:=
 ⟨I.ok,I.os,I.bare,I.base,I.loc,I.cell,I.free,I.freeC,fun p hp=>(List.mem_append.mp hp).elim (fun z=>I.pin p (List.mem_append_left _ z)) (h p),I.hok,I.len⟩
theorem JM {N:List Str} (hN:N.Nodup) {i j:Nat} {x:Str} (a:N[i]? = some x) (b:N[j]? = some x):i=j:=by
 obtain⟨h1,e1⟩:=List.getElem?_eq_some_iff.mp a
 obtain⟨h2,e2⟩:=List.getElem?_eq_some_iff.mp b
 exact (List.getElem_inj hN).mp (e1.trans e2.symm)
theorem Im {M:Model} {A:Around} {E:Value→Shared→Prop} {i:Nat} {x:Str} {v:V} {u:Value} {Q:Unit→Shared→Prop} (I:Inv X pins σ H s) (hN:X.N.Nodup) (hi:X.N[i]? = some x) (hx:R6 X.env.scope x) (r:RelV v u)
  (h:∀s',Inv X pins (σ.set i (some v)) H s'→(∃a,Heap.SameBut a s.heap s'.heap∧(a=X.env.locals∨X.env.cells.lookup x=some a))→Q () s') (hf:X.fn x=true∨X.env.scope.names.lookup x=some .local:=by first | exact .inl rfl | exact .inr rfl | assumption):wpAny M A (storeName X.env x u) Q E s:=by
 obtain⟨m,hn,hl⟩:=id I.loc
 have hcls:(X.env.scope.kind == .class || (X.env.scope.kind == .module && X.env.locals != X.env.globals))=false:=by rw[I.ok.kind];rfl
 have hiσ:i<σ.length:=by rw[I.len];exact (List.getElem?_eq_some_iff.mp hi).1
 have cne:=I.cne
 have tracked:∀{a:Addr} {h':Heap},(∃o,s.heap.get? a=some o∧H a=none)→Heap.SameBut a s.heap h'→HOk X.prog X.w H h':=fun {a h'} ha hs b ob e=>by
  obtain⟨_,_,hfree⟩:=ha
  refine (I.hok b ob e).stay (fun c w' hc q=>(hs.2 c ?_).trans q) (fun _ q=>q) fun _ _ q=>q
  rintro rfl
  rcases hc with rfl | hc
  ·rw[hfree] at e;cases e
  ·rw[hfree] at hc;cases hc
 rcases hx with hk | hk
 ·refine wpAny_storeName_local hk hn (fun h' hn' hs=>?_) hcls
  obtain⟨oL,_,_,hoL,_⟩:=id hn
  refine h _ ⟨I.ok,I.os,I.bare,⟨fun b o e n hb hx=>?_,fun b o e n hb hx=>?_,I.base.free,fun b o e hx=>?_,I.base.tups,I.base.frzs,I.base.tbls⟩,⟨_,hn',fun j y v' e1 e2 e3=>?_⟩,fun y c e=>?_,I.free,I.freeC,fun p hp=>?_,tracked ⟨oL,hoL,I.free⟩ hs,by simpa using I.len⟩ ⟨_,hs,.inl rfl⟩
  ·exact (hs.2 b (Nat.ne_of_lt (Nat.lt_of_lt_of_le (Heap.lt_size e) I.ok.above))).trans (I.base.keep b o e n hb hx)
  ·obtain⟨sl,e1⟩:=I.base.slot b o e n hb hx
   exact⟨sl,(hs.2 b (Nat.ne_of_lt (Nat.lt_of_lt_of_le (Heap.lt_size e) I.ok.above))).trans e1⟩
  ·obtain⟨o',e1⟩:=I.base.there b o e hx
   exact⟨o',(hs.2 b (Nat.ne_of_lt (Nat.lt_of_lt_of_le (Heap.lt_size e) I.ok.above))).trans e1⟩
  ·by_cases hj:j=i
   ·subst hj
    rw[hi] at e1;cases e1
    rw[List.getElem?_set_self hiσ] at e2
    cases e2
    exact⟨u,r,.inl ⟨hk,by simp⟩⟩
   ·rw[List.getElem?_set_ne (Ne.symm hj)] at e2
    obtain⟨u',r',q⟩:=hl j y v' e1 e2 e3
    refine⟨u',r',?_⟩
    rcases q with⟨k,e⟩|⟨k,c,e,z⟩
    ·refine .inl ⟨k,?_⟩
     have:y≠x:=fun e=>hj (JM hN e1 (e ▸ hi))
     simp[this,e]
    ·exact .inr ⟨k,c,e,z.sameBut hs (cne y c e)⟩
  ·obtain⟨w',z⟩:=I.cell y c e
   exact⟨w',z.sameBut hs (cne y c e)⟩
  ·obtain⟨e,n,ne,nf,d⟩:=I.pin p hp
   exact⟨(hs.2 p.1 ne).trans e,n,ne,nf,d⟩
 ·have hfn:X.fn x=true:=by
   rcases hf with z | z
   ·exact z
   ·rw[z] at hk;cases hk
  obtain⟨c,hc⟩:=I.ok.has x (.inl hk)
  obtain⟨w',z⟩:=I.cell x c hc
  refine wpAny_storeName_cell I.ok.kind hk hc z (fun h' hc' hs=>?_)
  obtain⟨oc,hoc,hocd⟩:=id z
  refine h { s with heap:=h' } ⟨I.ok,I.os,I.bare,⟨fun b o e n hb hx=>?_,fun b o e n hb hx=>?_,I.base.free,fun b o e hx=>?_,I.base.tups,I.base.frzs,I.base.tbls⟩,⟨m,hn.sameBut hs (Ne.symm (cne x c hc)),fun j y v' e1 e2 e3=>?_⟩,fun y c' e=>?_,I.free,I.freeC,fun p hp=>?_,tracked ⟨oc,hoc,I.freeC x c hc⟩ hs,by simpa using I.len⟩ ⟨c,hs,.inr hc⟩
  ·exact (hs.2 b (Nat.ne_of_lt (Nat.lt_of_lt_of_le (Heap.lt_size e) (I.ok.cab x c hfn hc)))).trans (I.base.keep b o e n hb hx)
  ·obtain⟨sl,e1⟩:=I.base.slot b o e n hb hx
   exact⟨sl,(hs.2 b (Nat.ne_of_lt (Nat.lt_of_lt_of_le (Heap.lt_size e) (I.ok.cab x c hfn hc)))).trans e1⟩
  ·obtain⟨o',e1⟩:=I.base.there b o e hx
   exact⟨o',(hs.2 b (Nat.ne_of_lt (Nat.lt_of_lt_of_le (Heap.lt_size e) (I.ok.cab x c hfn hc)))).trans e1⟩
  ·by_cases hj:j=i
   ·subst hj
    rw[hi] at e1;cases e1
    rw[List.getElem?_set_self hiσ] at e2
    cases e2
    exact⟨u,r,.inr ⟨.inl hk,c,hc,hc'⟩⟩
   ·rw[List.getElem?_set_ne (Ne.symm hj)] at e2
    obtain⟨u',r',q⟩:=hl j y v' e1 e2 e3
    refine⟨u',r',?_⟩
    rcases q with q | ⟨k,c',e,z'⟩
    ·exact .inl q
    ·refine .inr ⟨k,c',e,z'.sameBut hs ?_⟩
     rintro rfl
     exact hj (JM hN e1 (I.ok.inj _ _ _ e hc ▸ hi))
  ·by_cases hcc:c'=c
   ·subst hcc;exact⟨_,hc'⟩
   ·obtain⟨w2,z2⟩:=I.cell y c' e
    exact⟨w2,z2.sameBut hs hcc⟩
  ·obtain⟨e,n,ne,nf,d⟩:=I.pin p hp
   refine⟨(hs.2 p.1 ?_).trans e,n,ne,nf,d⟩
   intro q
   rw[q,hoc] at e
   have q':oc=p.2:=Option.some.inj e
   exact d w' (by rw[←q'];exact hocd)
theorem Jz {M:Model} {A:Around} {E:Value→Shared→Prop} {i:Nat} {x:Str} {v:V} {u:Value} {Q:Unit→Shared→Prop} (I:Inv X pins σ H s) (hN:X.N.Nodup) (hi:X.N[i]? = some x) (hx:R6 X.env.scope x) (r:RelV v u)
  (h:∀s',Inv X pins (σ.set i (some v)) H s'→Q () s') (hf:X.fn x=true∨X.env.scope.names.lookup x=some .local:=by first | exact .inl rfl | exact .inr rfl | assumption):wpAny M A (storeName X.env x u) Q E s:=
 Im I hN hi hx r (fun s' I' _=>h s' I') hf
theorem Inv.call' {s':Shared} {ch:List Addr} (I:Inv X pins σ H s) (ho:s'.os=s.os) (u:Un (Hw X.stack) ch H H' s.heap s'.heap) (hok:HOk X.prog X.w H' s'.heap) (hg:AllBare s'.gens)
  (hch:∀b∈ch,(b∈X.ex∨X.s₀.heap.objs.size≤b)∧b≠X.env.locals∧(∀x c,X.env.cells.lookup x=some c→c≠b)∧∀p∈X.pn++pins,p.1≠b):Inv X pins σ H' s':=by
 obtain⟨h',g',d',t',o'⟩:=s'
 have e:o'=s.os:=ho
 subst e
 exact I.call (g':=g') (t':=t') (d':=d') u hok hg hch
end
abbrev XK:=Value→Option Addr→Hp→Prop
abbrev St:=List (Option V)
abbrev VK:=V→Hp→Prop
abbrev TE:=St→Hp→VK→Prop
abbrev TT:=St→Hp→(Bool→Hp→Prop)→Prop
abbrev TA:=St→Hp→(List V→Hp→Prop)→Prop
structure Ce where
 nx:St→Hp→Prop
 rt:VK
 bk:St→Hp→Prop:=fun _ _=>False
 ct:St→Hp→Prop:=fun _ _=>False
abbrev TS:=Ce→St→Hp→Prop
def EP (X:Cx) (pins:List (Addr×Obj)) (σ:St) (Q:VK) (u:Value) (s':Shared):Prop:=∃v H',Inv X pins σ H' s'∧RelV v u∧Q v H'
def TP (X:Cx) (pins:List (Addr×Obj)) (σ:St) (Q:Bool→Hp→Prop) (b:Bool) (s':Shared):Prop:=∃H',Inv X pins σ H' s'∧Q b H'
def AP (X:Cx) (pins:List (Addr×Obj)) (σ:St) (Q:List V→Hp→Prop) (us:List Value) (s':Shared):Prop:=∃vs H',Inv X pins σ H' s'∧Vals vs us∧Q vs H'
def SP (X:Cx) (pins:List (Addr×Obj)) (D:Ce) (f:Flow) (s':Shared):Prop:=
 match f with
 | .next=>∃σ' H',Inv X pins σ' H' s'∧D.nx σ' H'
 | .brk=>∃σ' H',Inv X pins σ' H' s'∧D.bk σ' H'
 | .cont=>∃σ' H',Inv X pins σ' H' s'∧D.ct σ' H'
 | .ret u=>∃v σ' H',Inv X pins σ' H' s'∧RelV v u∧D.rt v H'
def PE (X:Cx) (e:Expr) (t:TE):Prop:=
 ∀(pins:List (Addr×Obj)) (s:Shared) (σ:St) (H:Hp) (Q:VK),Inv X pins σ H s→t σ H Q→wpAny (model X.prog X.w) X.A (eval e X.env) (EP X pins σ Q) X.xe s
def PT (X:Cx) (e:Expr) (t:TT):Prop:=
 ∀(pins:List (Addr×Obj)) (s:Shared) (σ:St) (H:Hp) (Q:Bool→Hp→Prop),Inv X pins σ H s→t σ H Q→wpAny (model X.prog X.w) X.A (isTrue e X.env (eval e X.env)) (TP X pins σ Q) X.xe s
def PW (X:Cx) (e:Expr) (t:TT):Prop:=
 ∀(whole:Sem Value) (pins:List (Addr×Obj)) (s:Shared) (σ:St) (H:Hp) (Q:Bool→Hp→Prop),Inv X pins σ H s→t σ H Q→wpAny (model X.prog X.w) X.A (isTrue e X.env whole) (TP X pins σ Q) X.xe s
theorem PW.pt {X:Cx} {e:Expr} {t:TT} (h:PW X e t):PT X e t:=h _
def PA (X:Cx) (es:List Expr) (t:TA):Prop:=
 ∀(pos:Pos) (pins:List (Addr×Obj)) (s:Shared) (σ:St) (H:Hp) (Q:List V→Hp→Prop),Inv X pins σ H s→t σ H Q→wpAny (model X.prog X.w) X.A (spliced (backTo pos (starEach es X.env))) (AP X pins σ Q) X.xe s
def PS (X:Cx) (st:Stmt) (t:TS):Prop:=
 ∀(pins:List (Addr×Obj)) (s:Shared) (σ:St) (H:Hp) (D:Ce),Inv X pins σ H s→t D σ H→wpAny (model X.prog X.w) X.A (exec st X.env) (SP X pins D) X.xe s
def PSs (X:Cx) (st:List Stmt) (t:TS):Prop:=
 ∀(pins:List (Addr×Obj)) (s:Shared) (σ:St) (H:Hp) (D:Ce),Inv X pins σ H s→t D σ H→wpAny (model X.prog X.w) X.A (execs st X.env) (SP X pins D) X.xe s
theorem AS {α:Type} {t:Sem α} {Q Q':α→Shared→Prop} {M:Model} {A:Around} {E:Value→Shared→Prop} {s:Shared} (h:wpAny M A t Q E s) (hQ:∀a s,Q a s→Q' a s):wpAny M A t Q' E s:=wpAny_mono h hQ fun _ _ x=>x
end L2
namespace L2
open PySem PySem.Spec PyProof.Rows
section
variable {X:Cx}
def NP (i:Nat):TE:=fun σ H Q=>∃v,σ[i]? = some (some v)∧Q v H
def tC (v:V):TE:=fun _ H Q=>Q v H
theorem Ry {i:Nat} {x:Str} {pos:Pos} (hN:X.N[i]? = some x) (hv:S7 X.env.scope x) (hd:(x == ("__debug__":Str))=false:=by decide) (hcd:(x == ("__classdict__":Str))=false:=by decide):PE X (.Name x pos) (NP i):=by
 intro pins s σ H Q I h
 obtain⟨v,e,h⟩:=h
 obtain⟨m,hn,hl⟩:=I.loc
 obtain⟨u,r,l⟩:=hl i x v hN e hv
 have fin:EP X pins σ Q u s:=⟨v,H,I,r,h⟩
 rcases l with⟨hk,hm⟩|⟨hk,c,hc,hcell⟩
 ·exact wpAny_Name (wpAny_loadName_local I.ok.kind hk hn hm fin) hd
 ·rcases hk with hk | hk
  ·exact wpAny_Name (wpAny_loadName_cell I.ok.kind hk hc hcell fin) hd
  ·exact wpAny_Name (wpAny_loadName_free I.ok.kind hk hc hcell fin hcd) hd
theorem Af {i j pos}:PE X (.Constant (.int i) j pos) (tC (.int i)):=fun _ _ _ H _ I h=>wpAny_Constant_int ⟨.int i,H,I.tok _,⟨_,rfl⟩,h⟩
theorem Bw {b j pos}:PE X (.Constant (.bool b) j pos) (tC (.bl b)):=fun _ _ _ H _ I h=>Constant_bool ⟨.bl b,H,I,rfl,h⟩
theorem IL {j pos}:PE X (.Constant .none j pos) (tC .non):=fun _ _ _ H _ I h=>Constant_none ⟨.non,H,I,rfl,h⟩
theorem An {x j pos}:PE X (.Constant (.str x) j pos) (tC (.str x)):=fun _ _ _ H _ I h=>Calls.Constant_str ⟨.str x,H,I.tok _,⟨_,rfl⟩,h⟩
def Gl (X:Cx) (x:Str):Prop:=X.env.kindOf x=some .globalImplicit
theorem FX {E:Value→Shared→Prop} {pins:List (Addr×Obj)} {s:Shared} {σ:St} {H:Hp} {x:Str} {u:Value} {pos:Pos} {Q:Value→Shared→Prop} (I:Inv X pins σ H s) (hg:Gl X x) (hm:X.mg x=some u) (h:Q u s)
  (hd:(x == ("__debug__":Str))=false:=by decide):wpAny (model X.prog X.w) X.A (eval (.Name x pos) X.env) Q E s:=
 Calls.Name_function_global I.ok.kind hg (Calls.loadGlobal_global (by rw[I.ok.glob];exact I.mod.glob.keeps I.bk) hm h) hd
theorem DF {E:Value→Shared→Prop} {pins:List (Addr×Obj)} {s:Shared} {σ:St} {H:Hp} {x:Str} {u:Value} {pos:Pos} {Q:Value→Shared→Prop} (I:Inv X pins σ H s) (hg:Gl X x) (hm:X.mg x=none) (hv:bootBuiltins x=some u) (h:Q u s)
  (hn:x≠"__name__":=by decide) (hd:(x == ("__debug__":Str))=false:=by decide):wpAny (model X.prog X.w) X.A (eval (.Name x pos) X.env) Q E s:=by
 obtain⟨mb,h1,h2⟩:=I.mod.blt
 exact Calls.Name_function_global I.ok.kind hg (Calls.loadGlobal_builtin (by rw[I.ok.glob];exact I.mod.glob.keeps I.bk) hm (by rw[I.ok.blt];exact h1.keeps I.bk) ((h2 x hn).trans hv) h) hd
theorem Di {x:Str} {v:V} {u:Value} {pos:Pos} (hg:Gl X x) (hm:X.mg x=some u) (r:RelV v u) (hd:(x == ("__debug__":Str))=false:=by decide):PE X (.Name x pos) (tC v):=
 fun _ _ _ H _ I h=>FX I hg hm ⟨v,H,I,r,h⟩ hd
theorem Bm {x:Str} {v:V} {u:Value} {pos:Pos} (hg:Gl X x) (hm:X.mg x=none) (hv:bootBuiltins x=some u) (r:RelV v u) (hn:x≠"__name__":=by decide) (hd:(x == ("__debug__":Str))=false:=by decide):PE X (.Name x pos) (tC v):=
 fun _ _ _ H _ I h=>DF I hg hm hv ⟨v,H,I,r,h⟩ hn hd
variable {a b:Expr} {ta tb:TE} {pos:Pos}
def PC (X:Cx) (op:CmpOp) (a b:Expr) (t:TE):Prop:=
 ∀(pins:List (Addr×Obj)) (s:Shared) (σ:St) (H:Hp) (Q:VK),Inv X pins σ H s→t σ H Q→
  wpAny (model X.prog X.w) X.A (eval a X.env) (fun v s₁=>wpAny (model X.prog X.w) X.A (eval b X.env) (fun u s₂=>wpAny (model X.prog X.w) X.A (compareOp op v u) (EP X pins σ Q) X.xe s₂) X.xe s₁) X.xe s
theorem Nl (b:Expr) {op:CmpOp} (h:op≠.In) (h2:op≠.NotIn):behindInMarks op b=false:=by
 have e1:(op == CmpOp.In)=false:=by cases op<;>first | rfl | exact absurd rfl h
 have e2:(op == CmpOp.NotIn)=false:=by cases op<;>first | rfl | exact absurd rfl h2
 cases b<;>simp[behindInMarks,e1,e2]
def S0 (ta:TE):TE:=fun σ H Q=>ta σ H fun x H1=>Q (.bl (decide (x= .non))) H1
def Ss (ta:TE):TE:=fun σ H Q=>ta σ H fun x H1=>Q (.bl (!decide (x= .non))) H1
theorem RelV.none_iff {x:V} {v:Value} (r:RelV x v):(v == Value.none)=decide (x= .non):=by
 cases x with
 | non=>cases r;rfl
 | bl _=>cases r;rfl
 | int _=>obtain⟨t,rfl⟩:=r;rfl
 | str _=>obtain⟨t,rfl⟩:=r;rfl
 | byt _=>obtain⟨t,rfl⟩:=r;rfl
 | flt _=>obtain⟨t,rfl⟩:=r;rfl
 | ref _=>cases r;rfl
 | ty _=>cases r;rfl
theorem K3 {j pos'} (ha:PE X a ta):PC X .Is a (.Constant .none j pos') (S0 ta):=by
 intro pins s σ H Q I h
 refine AS (ha pins s σ H _ I h) fun v s1 ⟨x,H1,I1,r1,q1⟩=>?_
 exact Constant_none (is_none_gen ⟨.bl _,H1,I1,by rw[r1.none_iff];rfl,q1⟩)
theorem Qm {j pos'} (ha:PE X a ta):PC X .IsNot a (.Constant .none j pos') (Ss ta):=by
 intro pins s σ H Q I h
 refine AS (ha pins s σ H _ I h) fun v s1 ⟨x,H1,I1,r1,q1⟩=>?_
 exact Constant_none (isnot_none_gen ⟨.bl _,H1,I1,by rw[r1.none_iff];rfl,q1⟩)
def tB (t:TE):TT:=fun σ H Q=>t σ H fun x H1=>∃c,x= .bl c∧Q c H1
theorem IK {op:CmpOp} {t:TE} (h:PC X op a b t) (h1:behindInMarks op b=false:=by first | exact Nl _ (by decide) (by decide) | rfl):PT X (.Compare a [op] [b] pos) (tB t):=by
 intro pins s σ H Q I hw
 refine wpAny_isTrue_Compare1 (AS (h pins s σ H _ I hw) fun v s1 h1=>AS h1 fun u s2 h2=>AS h2 fun c s3 ⟨x,H1,I1,r1,q1⟩=>?_) h1
 obtain⟨d,rfl,q⟩:=q1
 cases r1
 exact wpAny_truthy_bool ⟨H1,I1,q⟩
theorem A3 {e:Expr} {t:TE} (h:PE X e t) (he:∀whole,isTrue e X.env whole=(do let v ←whole;standAt e.pos;holding [v] (truthy v)):=by intro _;rfl):PT X e (tB t):=by
 intro pins s σ H Q I hw
 refine isTrue_plain (AS (h pins s σ H _ I hw) fun v s1 ⟨x,H1,I1,r1,q1⟩=>?_) (he _)
 obtain⟨d,rfl,q⟩:=q1
 cases r1
 exact wpAny_truthy_bool ⟨H1,I1,q⟩
variable {tA tB':TT} {rest:List Expr}
def SY (t u:TT):TT:=fun σ H Q=>t σ H fun c H1=>if c=true then u σ H1 Q else Q false H1
def T8 (t u:TT):TT:=fun σ H Q=>t σ H fun c H1=>if c=true then Q true H1 else u σ H1 Q
def Tw (t:TT):TT:=fun σ H Q=>t σ H fun c H1=>Q (!c) H1
theorem Ch (ha:PT X a tA):PW X (.BoolOp .And [a] pos) tA:=by
 intro wh pins s σ H Q I h
 refine isTrue_and (AS (ha pins s σ H Q I h) fun c s1 e=>?_)
 cases c with
 | true=>exact isTrue_and_nil e
 | false=>exact e
theorem BO (ha:PT X a tA):PW X (.BoolOp .Or [a] pos) tA:=by
 intro wh pins s σ H Q I h
 refine isTrue_or (AS (ha pins s σ H Q I h) fun c s1 e=>?_)
 cases c with
 | false=>exact isTrue_or_nil e
 | true=>exact e
theorem DK (ha:PT X a tA) (hb:PW X (.BoolOp .And (b::rest) pos) tB'):PW X (.BoolOp .And (a::b::rest) pos) (SY tA tB'):=by
 intro wh pins s σ H Q I h
 refine isTrue_and (AS (ha pins s σ H _ I h) fun c s1 ⟨H1,I1,q1⟩=>?_)
 cases c with
 | true=>exact hb wh pins s1 σ H1 Q I1 q1
 | false=>exact⟨H1,I1,q1⟩
theorem BK (ha:PT X a tA) (hb:PW X (.BoolOp .Or (b::rest) pos) tB'):PW X (.BoolOp .Or (a::b::rest) pos) (T8 tA tB'):=by
 intro wh pins s σ H Q I h
 refine isTrue_or (AS (ha pins s σ H _ I h) fun c s1 ⟨H1,I1,q1⟩=>?_)
 cases c with
 | true=>exact⟨H1,I1,q1⟩
 | false=>exact hb wh pins s1 σ H1 Q I1 q1
theorem Be (ha:PT X a tA):PT X (.UnaryOp .Not a pos) (Tw tA):=by
 intro pins s σ H Q I h
 exact isTrue_not (ha pins s σ H (fun c H1=>Q (!c) H1) I h)
def Sg (ta tb:TE):TE:=fun σ H Q=>ta σ H fun x H1=>∃c,x= .bl c∧if c=true then tb σ H1 Q else Q (.bl false) H1
def S4 (ta tb:TE):TE:=fun σ H Q=>ta σ H fun x H1=>∃c,x= .bl c∧if c=true then Q (.bl true) H1 else tb σ H1 Q
def Sn (ta:TE):TE:=fun σ H Q=>ta σ H fun x H1=>∃c,x= .bl c∧Q (.bl (!c)) H1
theorem BJ {op} {t:TE} (h:PE X a t):PE X (.BoolOp op [a] pos) t:=fun pins s σ H Q I hw=>BoolOp_one (h pins s σ H Q I hw)
theorem Cd (ha:PE X a ta) (hb:PE X (.BoolOp .And (b::rest) pos) tb):PE X (.BoolOp .And (a::b::rest) pos) (Sg ta tb):=by
 intro pins s σ H Q I h
 refine BoolOp_and (AS (ha pins s σ H _ I h) fun v s1 ⟨x,H1,I1,r1,q1⟩=>?_)
 obtain⟨c,rfl,q1⟩:=q1
 cases r1
 refine wpAny_truthy_bool ?_
 cases c with
 | true=>exact hb pins s1 σ H1 Q I1 q1
 | false=>exact⟨.bl false,H1,I1,rfl,q1⟩
theorem LM (ha:PE X a ta) (hb:PE X (.BoolOp .Or (b::rest) pos) tb):PE X (.BoolOp .Or (a::b::rest) pos) (S4 ta tb):=by
 intro pins s σ H Q I h
 refine BoolOp_or (AS (ha pins s σ H _ I h) fun v s1 ⟨x,H1,I1,r1,q1⟩=>?_)
 obtain⟨c,rfl,q1⟩:=q1
 cases r1
 refine wpAny_truthy_bool ?_
 cases c with
 | false=>exact hb pins s1 σ H1 Q I1 q1
 | true=>exact⟨.bl true,H1,I1,rfl,q1⟩
theorem Gz (ha:PE X a ta):PE X (.UnaryOp .Not a pos) (Sn ta):=by
 intro pins s σ H Q I h
 refine UnaryOp_ (AS (ha pins s σ H _ I h) fun v s1 ⟨x,H1,I1,r1,q1⟩=>?_)
 obtain⟨c,rfl,q1⟩:=q1
 cases r1
 exact not_of (wpAny_truthy_bool ⟨.bl (!c),H1,I1,rfl,q1⟩)
def Uh (t:TT) (ta tb:TE):TE:=fun σ H Q=>t σ H fun c H1=>if c=true then ta σ H1 Q else tb σ H1 Q
theorem Oq {c:Expr} (hc:PT X c tA) (ha:PE X a ta) (hb:PE X b tb):PE X (.IfExp c a b pos) (Uh tA ta tb):=by
 intro pins s σ H Q I h
 refine wpAny_IfExp (AS (hc pins s σ H _ I h) fun d s1 ⟨H1,I1,q1⟩=>?_)
 cases d with
 | true=>exact ha pins s1 σ H1 Q I1 q1
 | false=>exact hb pins s1 σ H1 Q I1 q1
end
end L2
namespace L2
open PySem PySem.Spec PyProof.Rows
def SqL (K:PySem.W.Frag) (H:Hp) (a:Addr) (xs:List V):Prop:=
 Rd H a (.lst xs)∨
  ∃(o:Obj) (its:Array Value) (n:Nat),K.lookup a=some o∧o.cls= .type "list"∧o.dict=none∧o.data= .seq its n∧its.size≤sizeLine∧Vals xs its.toList
def SqT (K:PySem.W.Frag) (H:Hp) (a:Addr) (xs:List V):Prop:=
 Rd H a (.tup xs)∨
  ∃(o:Obj) (its:Array Value) (n:Nat),K.lookup a=some o∧o.cls= .type "tuple"∧o.data= .seq its n∧its.size≤sizeLine∧Vals xs its.toList
def TH:Value→Option V
 | .none=>some .non
 | .bool b=>some (.bl b)
 | .int i _=>some (.int i)
 | .str x _=>some (.str x)
 | .bytes b _=>some (.byt b)
 | .float b _=>some (.flt b)
 | .ref a=>some (.ref a)
 | .type n=>some (.ty n)
 | _=>none
theorem RelV.abs {x:V} {u:Value} (r:RelV x u):TH u=some x:=by
 cases x with
 | non=>cases r;rfl
 | bl _=>cases r;rfl
 | int _=>obtain⟨t,rfl⟩:=r;rfl
 | str _=>obtain⟨t,rfl⟩:=r;rfl
 | byt _=>obtain⟨t,rfl⟩:=r;rfl
 | flt _=>obtain⟨t,rfl⟩:=r;rfl
 | ref _=>cases r;rfl
 | ty _=>cases r;rfl
theorem RelV.inj {x y:V} {u:Value} (r:RelV x u) (q:RelV y u):x=y:=Option.some.inj (r.abs.symm.trans q.abs)
theorem Vals.inj:∀{xs ys:List V} {us:List Value},Vals xs us→Vals ys us→xs=ys
 | _,_,_,.nil,.nil=>rfl
 | _,_,_,.cons r t,.cons r' t'=>by rw[r.inj r',Vals.inj t t']
section
variable {X:Cx} {pins:List (Addr×Obj)} {σ:St} {H:Hp} {s:Shared} {a:Addr} {xs ys:List V}
theorem SqL.of {K:PySem.W.Frag} (h:H a=some (.lst xs)):SqL K H a xs:=.inl (.inl h)
theorem SqT.of {K:PySem.W.Frag} (h:H a=some (.tup xs)):SqT K H a xs:=.inl (.inl h)
theorem Inv.list (I:Inv X pins σ H s) (h:SqL X.K H a xs):∃its:List Value,Vals xs its∧PlainL s.heap a its.toArray∧xs.length≤sizeLine:=by
 rcases h with h | ⟨o,its,n,hk,hc,hd,hs,hz,r⟩
 ·obtain⟨z,its,n,r,e⟩:=h.ok I.hok
  exact⟨its,r,⟨_,n,e,rfl,rfl,rfl⟩,z⟩
 ·refine⟨its.toList,r,⟨o,n,I.kIn a o hk,hc,hd,by simpa using hs⟩,?_⟩
  have e:=r.length
  simp only[Array.length_toList] at e
  omega
theorem Inv.tuple (I:Inv X pins σ H s) (h:SqT X.K H a xs):∃its:List Value,Vals xs its∧IsTup s.heap a its.toArray∧xs.length≤sizeLine:=by
 rcases h with h | ⟨o,its,n,hk,hc,hs,hz,r⟩
 ·obtain⟨z,its,r,p⟩:=h.ok I.hok
  exact⟨its,r,p,z⟩
 ·refine⟨its.toList,r,⟨o,I.kIn a o hk,hc,n,by simpa using hs⟩,?_⟩
  have e:=r.length
  simp only[Array.length_toList] at e
  omega
theorem Inv.list_inj (I:Inv X pins σ H s) (h:SqL X.K H a xs) (h':SqL X.K H a ys):xs=ys:=by
 obtain⟨its,r,⟨o,n,e,_,_,d⟩,_⟩:=I.list h
 obtain⟨its',r',⟨o',n',e',_,_,d'⟩,_⟩:=I.list h'
 rw[e] at e';cases e'
 rw[d] at d'
 injection d' with d1 _
 have:its=its':=by simpa using congrArg Array.toList d1
 subst this
 exact r.inj r'
theorem Inv.tuple_inj (I:Inv X pins σ H s) (h:SqT X.K H a xs) (h':SqT X.K H a ys):xs=ys:=by
 obtain⟨its,r,⟨o,e,_,n,d⟩,_⟩:=I.tuple h
 obtain⟨its',r',⟨o',e',_,n',d'⟩,_⟩:=I.tuple h'
 rw[e] at e';cases e'
 rw[d] at d'
 injection d' with d1 _
 have:its=its':=by simpa using congrArg Array.toList d1
 subst this
 exact r.inj r'
end
abbrev Cx.wish (X:Cx) (E:Value→Shared→Prop):Cx:={ X with xe:=E }
abbrev Cx.nox (X:Cx):Cx:=X.wish fun _ _=>False
theorem Cx.Ok.wish {X:Cx} (ok:X.Ok) (E:Value→Shared→Prop):(X.wish E).Ok:=
 ⟨ok.mod,ok.kind,ok.glob,ok.blt,ok.above,ok.inj,ok.has,ok.cab,ok.hd,ok.frames,ok.stk,ok.exf,ok.bs,ok.bsz,ok.noex,ok.exfs,ok.funs,ok.frf⟩
theorem Cx.Ok.unwish {X:Cx} {E:Value→Shared→Prop} (ok:(X.wish E).Ok):X.Ok:=
 ⟨ok.mod,ok.kind,ok.glob,ok.blt,ok.above,ok.inj,ok.has,ok.cab,ok.hd,ok.frames,ok.stk,ok.exf,ok.bs,ok.bsz,ok.noex,ok.exfs,ok.funs,ok.frf⟩
section
variable {X:Cx} {pins:List (Addr×Obj)} {σ:St} {H:Hp} {s:Shared} {E:Value→Shared→Prop}
theorem Inv.wish (I:Inv X pins σ H s) (E:Value→Shared→Prop):Inv (X.wish E) pins σ H s:=⟨I.ok.wish E,I.os,I.bare,I.base,I.loc,I.cell,I.free,I.freeC,I.pin,I.hok,I.len⟩
theorem Inv.unwish (I:Inv (X.wish E) pins σ H s):Inv X pins σ H s:=⟨I.ok.unwish,I.os,I.bare,I.base,I.loc,I.cell,I.free,I.freeC,I.pin,I.hok,I.len⟩
theorem SP.unwish {D:Ce} {f:Flow} {s':Shared} (h:SP (X.wish E) pins D f s'):SP X pins D f s':=by
 cases f with
 | next=>obtain⟨σ',H',I,q⟩:=h;exact⟨σ',H',I.unwish,q⟩
 | brk=>obtain⟨σ',H',I,q⟩:=h;exact⟨σ',H',I.unwish,q⟩
 | cont=>obtain⟨σ',H',I,q⟩:=h;exact⟨σ',H',I.unwish,q⟩
 | ret u=>obtain⟨v,σ',H',I,r,q⟩:=h;exact⟨v,σ',H',I.unwish,r,q⟩
theorem PSs.nox {st:List Stmt} {t:TS} (h:PSs X.nox st t):PSs X st t:=fun pins s σ H D I hw=>
 wpAny_mono (h pins s σ H D (I.wish _) hw) (fun _ _ q=>q.unwish) fun _ _ z=>False.elim z
end
section
variable {X:Cx} {st:Stmt} {rest:List Stmt} {t u:TS} {e:Expr} {te:TE} {pos:Pos}
def Sv:TS:=fun D σ H=>D.nx σ H
def OT (t u:TS):TS:=fun D σ H=>t { D with nx:=u D } σ H
theorem Al:PSs X [] Sv:=fun _ _ σ H _ I h=>wpAny_execs_nil ⟨σ,H,I,h⟩
theorem Ac (h1:PS X st t) (h2:PSs X rest u):PSs X (st::rest) (OT t u):=by
 intro pins s σ H D I h
 refine wpAny_execs_cons (AS (h1 pins s σ H { D with nx:=u D } I h) fun f s1 q=>?_)
 cases f with
 | next=>
  obtain⟨σ',H',I',q⟩:=q
  exact h2 pins s1 σ' H' D I' q
 | ret v=>exact q
 | brk=>exact q
 | cont=>exact q
theorem Ad (h1:PS X st t):PSs X [st] t:=by
 intro pins s σ H D I h
 refine wpAny_execs_cons (AS (h1 pins s σ H D I h) fun f s1 q=>?_)
 cases f with
 | next=>exact wpAny_execs_nil q
 | ret v=>exact q
 | brk=>exact q
 | cont=>exact q
theorem Inv.quiet {pins:List (Addr×Obj)} {σ:St} {H:Hp} {s:Shared} (I:Inv X pins σ H s):interactive X.env=false:=by simp[interactive,I.ok.kind]
def Si (te:TE):TS:=fun D σ H=>te σ H fun _ H1=>D.nx σ H1
theorem AV (he:PE X e te) (hs:swapsWith e none pos.line X.env=pure false:=by rfl):PS X (.Expr e pos) (Si te):=by
 intro pins s σ H D I h
 exact wpAny_Expr_any (AS (he pins s σ H _ I h) fun v s1 ⟨x,H1,I1,r1,q1⟩=>⟨σ,H1,I1,q1⟩) I.quiet hs
def Th (te:TE):TS:=fun D σ H=>te σ H D.rt
theorem Ai (he:PE X e te):PS X (.Return (some e) pos) (Th te):=by
 intro pins s σ H D I h
 exact wpAny_Return_some (AS (he pins s σ H _ I h) fun v s1 ⟨x,H1,I1,r1,q1⟩=>⟨x,σ,H1,I1,r1,q1⟩)
def TD (c:TT) (t u:TS):TS:=fun D σ H=>c σ H fun b H1=>if b=true then t D σ H1 else u D σ H1
theorem AA {c:Expr} {a b:List Stmt} {tc:TT} (hc:PT X c tc) (ha:PSs X a t) (hb:PSs X b u):PS X (.If c a b pos) (TD tc t u):=by
 intro pins s σ H D I h
 refine wpAny_If (AS (hc pins s σ H _ I h) fun d s1 ⟨H1,I1,q1⟩=>?_)
 cases d with
 | true=>exact ha pins s1 σ H1 D I1 q1
 | false=>exact hb pins s1 σ H1 D I1 q1
end
abbrev TG:=V→St→Hp→(St→Hp→Prop)→Prop
abbrev RL:=List V→St→Hp→(St→Hp→Prop)→Prop
def PG (X:Cx) (target:Expr) (t:TG):Prop:=
 ∀(pins:List (Addr×Obj)) (s:Shared) (σ:St) (H:Hp) (v:V) (u:Value) (Q:St→Hp→Prop),Inv X pins σ H s→RelV v u→t v σ H Q→
  wpAny (model X.prog X.w) X.A (assign target X.env u) (fun _ s'=>∃σ' H',Inv X pins σ' H' s'∧Q σ' H') X.xe s
def SU (X:Cx) (ts:List Expr) (t:RL):Prop:=
 ∀(pins:List (Addr×Obj)) (s:Shared) (σ:St) (H:Hp) (vs:List V) (us:List Value) (Q:St→Hp→Prop),Inv X pins σ H s→Vals vs us→t vs σ H Q→
  wpAny (model X.prog X.w) X.A (assignInOrder ((assignEach ts X.env).map (·.2)) us) (fun _ s'=>∃σ' H',Inv X pins σ' H' s'∧Q σ' H') X.xe s
section
variable {X:Cx} {pos:Pos}
def Dq (i:Nat):TG:=fun v σ H Q=>Q (σ.set i (some v)) H
theorem AO {i:Nat} {x:Str} (hN:X.N.Nodup) (hi:X.N[i]? = some x) (hx:R6 X.env.scope x) (hf:X.fn x=true∨X.env.scope.names.lookup x=some .local:=by first | exact .inl rfl | exact .inr rfl | assumption):PG X (.Name x pos) (Dq i):=by
 intro pins s σ H v u Q I r h
 exact wpAny_assign_Name (Jz I hN hi hx r (fun s' I'=>⟨_,H,I',h⟩) hf)
def Tm:RL:=fun vs σ H Q=>vs=[]∧Q σ H
def SJ (t:TG) (u:RL):RL:=fun vs σ H Q=>∃v r,vs=v::r∧t v σ H fun σ' H'=>u r σ' H' Q
theorem L1:SU X [] Tm:=by
 intro pins s σ H vs us Q I r h
 obtain⟨e,h⟩:=h
 subst e
 cases r
 exact assignInOrder_nil ⟨σ,H,I,h⟩
theorem DE {e:Expr} {es:List Expr} {t:TG} {u:RL} (h1:PG X e t) (h2:SU X es u)
  (hs:(assignEach (e::es) X.env).map (·.2)=assign e X.env::(assignEach es X.env).map (·.2):=by rfl):SU X (e::es) (SJ t u):=by
 intro pins s σ H vs us Q I r h
 obtain⟨v,vr,e1,h⟩:=h
 subst e1
 cases r with
 | cons r rr=>
  rw[hs]
  refine assignInOrder_cons (AS (h1 pins s σ H _ _ _ I r h) fun _ s1 ⟨σ1,H1,I1,q1⟩=>?_)
  exact h2 pins s1 σ1 H1 _ _ Q I1 rr q1
def Tt (K:PySem.W.Frag) (n:Nat) (t:RL):TG:=fun v σ H Q=>∃a xs,v= .ref a∧SqT K H a xs∧xs.length=n∧t xs σ H Q
theorem NQ {es:List Expr} {k:Nat} {t:RL} {n:Nat} (hc:X.calm=true) (h:SU X es t)
  (hn:(assignEach es X.env).length=n:=by rfl) (hst:(assignEach es X.env).findIdx? (·.1)=none:=by rfl):PG X (.Tuple es k pos) (Tt X.K n t):=by
 intro pins s σ H v u Q I r hw
 obtain⟨a,xs,e1,hq,hl,hw⟩:=hw
 subst e1
 cases r
 obtain⟨its,rv,ht,hz⟩:=I.tuple hq
 refine assign_Tuple_tuple (I.ok.hd hc) ht (by simp[hn,←hl,rv.length]) hst fun h' hx=>?_
 have I1:Inv X pins σ H { s with heap:=h' }:=I.kept (t':=s.toks) fun b o e=>hx b o (Nat.ne_of_lt (Heap.lt_size e)) e
 exact h pins _ σ H xs _ Q I1 (by simpa using rv) hw
def Po (te:TE) (g:TG):TS:=fun D σ H=>te σ H fun x H1=>g x σ H1 D.nx
theorem Rk {tg e:Expr} {te:TE} {g:TG} (he:PE X e te) (hg:PG X tg g) (hs:swapsWithSole [tg] e pos.line X.env=pure false:=by rfl) (hw:swappedStores [tg] e X.env=pure none:=by rfl)
  (h1:(assignEach [tg] X.env).map (·.2)=[assign tg X.env]:=by rfl):PS X (.Assign [tg] e pos) (Po te g):=by
 intro pins s σ H D I h
 refine wpAny_Assign_stores (AS (he pins s σ H _ I h) fun v s1 ⟨x,H1,I1,r1,q1⟩=>?_) hs hw
 rw[h1]
 exact AS (hg pins s1 σ H1 x v _ I1 r1 q1) fun _ s2 q=>q
theorem Au {i:Nat} {x:Str} {e:Expr} {te:TE} {pos':Pos} (hN:X.N.Nodup) (hi:X.N[i]? = some x) (hx:R6 X.env.scope x) (he:PE X e te) (hs:swapsWith e (some (.Name x pos')) pos.line X.env=pure false:=by rfl) (hf:X.fn x=true∨X.env.scope.names.lookup x=some .local:=by first | exact .inl rfl | exact .inr rfl | assumption) :
  PS X (.Assign [.Name x pos'] e pos) (Po te (Dq i)):=by
 intro pins s σ H D I h
 refine wpAny_Assign_Name (AS (he pins s σ H _ I h) fun v s1 ⟨y,H1,I1,r1,q1⟩=>?_) hs
 exact Jz I1 hN hi hx r1 (fun s2 I2=>⟨_,H1,I2,q1⟩) hf
end
section
variable {X:Cx} {pos:Pos}
def RR (c:TT) (tb:TS):TS:=fun D σ H=>∃W:Nat→St→Hp→Prop,(∃m,W m σ H)∧∀m σ H,W m σ H→
 c σ H fun b H1=>if b=true then ∃N:St→Hp→Prop,(∀σ' H',N σ' H'→∃m',m'<m∧W m' σ' H')∧tb { D with nx:=N,ct:=N,bk:=D.nx } σ H1 else D.nx σ H1
theorem E2 {c:Expr} {body:List Stmt} {tc:TT} {tb:TS} (hp:PassesOwn (model X.prog X.w) X.A X.env X.xe) (hc:PT X c tc) (hb:PSs X body tb):PS X (.While c body [] pos) (RR tc tb):=by
 intro pins s σ H D I h
 obtain⟨W,⟨m0,w0⟩,turn⟩:=h
 refine wpAny_While (codeAny_whileLoop (fun n s'=>∃σ' H',Inv X pins σ' H' s'∧W n σ' H') ?_ m0 ⟨σ,H,I,w0⟩)
 rintro n s1 ⟨σ1,H1,I1,w1⟩
 refine wpAny_passesOwn hp (AS (hc pins s1 σ1 H1 _ I1 (turn n σ1 H1 w1)) fun b s2 ⟨H2,I2,q2⟩=>?_)
 cases b with
 | true=>
  obtain⟨N,hN,q2⟩:=q2
  rw[if_pos rfl]
  refine wpAny_passesOwn hp (AS (hb pins s2 σ1 H2 _ I2 q2) fun f s3 q3=>?_)
  cases f with
  | next=>
   obtain⟨σ3,H3,I3,n3⟩:=q3
   obtain⟨m',hm,w3⟩:=hN σ3 H3 n3
   exact⟨m',hm,σ3,H3,I3,w3⟩
  | cont=>
   obtain⟨σ3,H3,I3,n3⟩:=q3
   obtain⟨m',hm,w3⟩:=hN σ3 H3 n3
   exact⟨m',hm,σ3,H3,I3,w3⟩
  | brk=>exact q3
  | ret v=>exact q3
 | false=>
  rw[if_neg Bool.false_ne_true]
  exact wpAny_execs_nil ⟨σ1,H2,I2,q2⟩
end
structure It where
 go:Nat→Hp→Prop
 yld:Nat→Hp→V→Hp→Prop
 stop:Nat→Hp→Prop
def De (X:Cx) (pins:List (Addr×Obj)) (H:Hp) (b:Addr):Prop:=
 H b=none∧b≠X.env.locals∧b∉X.fs∧(b∈X.ex∨X.s₀.heap.objs.size≤b)∧(∀x c,X.env.cells.lookup x=some c→c≠b)∧∀p∈X.pn++pins,p.1≠b
theorem Inv.fpOk {X:Cx} {pins:List (Addr×Obj)} {σ:St} {H H':Hp} {s:Shared} {b:Addr} (I:Inv X pins σ H s) (hb:s.heap.objs.size≤b) (hn:H' b=none):De X pins H' b:=by
 refine⟨hn,Nat.ne_of_gt (Nat.lt_of_lt_of_le I.lt hb),I.nofs hb,.inr (Nat.le_trans I.sz hb),fun x c e z=>?_,fun p hp z=>?_⟩
 ·obtain⟨v,q⟩:=I.cell x c e
  exact absurd (Nat.lt_of_lt_of_le q.lt (by rw[z];exact hb)) (Nat.lt_irrefl _)
 ·exact absurd (Nat.lt_of_lt_of_le (Heap.lt_size (I.pin p hp).1) (by rw[z];exact hb)) (Nat.lt_irrefl _)
structure KN (P:Program) (w:World) (K:PySem.W.Frag) (tg:Expr) (J:It) (fp:List Addr) (it:Addr) (tn:Nat→Heap→Prop):Prop where
 mem:it∈fp
 obj:∀i h,tn i h→∀b∈fp,∃o,h.get? b=some o∧∀v,o.data≠.cell v
 keep:∀i h h',tn i h→(∀b∈fp,∀o,h.get? b=some o→h'.get? b=some o)→tn i h'
 item:∀(X:Cx),X.prog=P→X.w=w→X.K=K→X.calm=true→∀(i:Nat) (pins:List (Addr×Obj)) (s:Shared) (σ:St) (H:Hp) (E:Value→Shared→Prop),Inv X pins σ H s→(∀b∈fp,De X pins H b)→tn i s.heap→J.go i H→
  wpAny (model P w) X.A (pyNext (.ref it)) (fun r s1=>∃u,r=some u∧
   wpAny (model P w) X.A (letOwnedTupleGo tg (.ref it) u) (fun _ s2=>∃x H',Inv X pins σ H' s2∧RelV x u∧J.yld i H x H'∧tn (i+1) s2.heap∧∀b∈fp,H' b=none) E s1) E s
 done:∀(X:Cx),X.prog=P→X.w=w→X.K=K→X.calm=true→∀(i:Nat) (pins:List (Addr×Obj)) (s:Shared) (σ:St) (H:Hp) (E:Value→Shared→Prop),Inv X pins σ H s→(∀b∈fp,De X pins H b)→tn i s.heap→J.stop i H→
  wpAny (model P w) X.A (pyNext (.ref it)) (fun r s1=>r=none∧Inv X pins σ H s1) E s
 self:∀(A:Around) (i:Nat) (s:Shared) (Q:Value→Shared→Prop) (E:Value→Shared→Prop),tn i s.heap→Q (.ref it) s→wpAny (model P w) A (pyIter (.ref it)) Q E s
abbrev TI:=St→Hp→(It→Hp→Prop)→Prop
def TW (X:Cx) (pins:List (Addr×Obj)) (σ:St) (tg:Expr) (R:It→Hp→Prop) (itv:Value) (s2:Shared):Prop:=
 ∃(it:Addr) (fp:List Addr) (tn:Nat→Heap→Prop) (J:It) (H':Hp),itv= .ref it∧Inv X pins σ H' s2∧KN X.prog X.w X.K tg J fp it tn∧tn 0 s2.heap∧(∀b∈fp,De X pins H' b)∧R J H'
def PI (X:Cx) (tg iter:Expr) (wi:TI):Prop:=
 ∀(pins:List (Addr×Obj)) (s:Shared) (σ:St) (H:Hp) (R:It→Hp→Prop),Inv X pins σ H s→wi σ H R→
  wpAny (model X.prog X.w) X.A (eval iter X.env) (fun v s1=>wpAny (model X.prog X.w) X.A (pyIter v) (TW X pins σ tg R) X.xe s1) X.xe s
theorem LY {M:Model} {A:Around} {E:Value→Shared→Prop} {s:Shared} {tg:Expr} {it:Addr} {u:Value} {o:Obj} {n:String} {vs:Array Value} {Q:Unit→Shared→Prop} (ho:s.heap.get? it=some o) (hc:o.cls= .type n) (hd:o.data= .fields vs)
    (hn:["enumerate","zip","dict_itemiterator","dict_reverseitemiterator","odict_iterator","itertools.zip_longest","itertools.pairwise"].contains n=false) (hQ:Q () s):wpAny M A (letOwnedTupleGo tg (.ref it) u) Q E s:=by
  unfold letOwnedTupleGo
  cases tg<;>first
    | exact wpAny_pure hQ
    | (cases u<;>first
        | exact wpAny_pure hQ
        | (refine wpAny_bind (wpAny_load ho ?_)
           rw[hc,hd]
           show wpAny M A (if (["enumerate","zip","dict_itemiterator","dict_reverseitemiterator","odict_iterator","itertools.zip_longest","itertools.pairwise"].contains n && vs[0]? == some (rawInt _))=true then _ else _) Q E s
           rw[if_neg (by intro h;rw[hn,Bool.false_and] at h;cases h)]
           exact wpAny_pure hQ))
def P4 (K:PySem.W.Frag) (a:Addr):It:=
 ⟨fun i H=>∃xs x,SqL K H a xs∧xs[i]? = some x,fun i H x H'=>H'=H∧∀xs,SqL K H a xs→xs[i]? = some x,fun i H=>∃xs,SqL K H a xs∧xs.length≤i⟩
def Sc (K:PySem.W.Frag) (a:Addr):It:=
 ⟨fun i H=>∃xs x,SqT K H a xs∧xs[i]? = some x,fun i H x H'=>H'=H∧∀xs,SqT K H a xs→xs[i]? = some x,fun i H=>∃xs,SqT K H a xs∧xs.length≤i⟩
def Q9 (lo:Int) (n:Nat):It:=⟨fun i _=>i<n,fun i H x H'=>H'=H∧x= .int (lo+i),fun i _=>n≤i⟩
theorem Mo {P:Program} {w:World} {K:PySem.W.Frag} {tg:Expr} (a it:Addr):KN P w K tg (P4 K a) [it] it (fun i h=>h.IsListIter it a i) where
 mem:=by simp
 obj:=fun i h st b hb=>by
  have e:b=it:=by simpa using hb
  subst e
  obtain⟨o,e,c,d⟩:=st
  exact⟨o,e,fun v z=>by rw[d] at z;cases z⟩
 keep:=fun i h h' st k=>st.at fun o e=>k it (by simp) o e
 item:=by
  intro X hP hw hK hc i pins s σ H E I hf st hg
  subst hP hw hK
  obtain⟨xs,x,hq,hx⟩:=hg
  obtain⟨its,rv,p,hz⟩:=I.list hq
  obtain⟨u,hu,ru⟩:=rv.get hx
  obtain⟨f0,f1,f2,f3,f4,f5⟩:=hf it (by simp)
  refine wpAny_pyNext_list_item st p.isList (x:=u) (by simpa using hu) fun h' st' sb=>?_
  have I1:Inv X pins σ H { s with heap:=h' }:=I.turned (t':=s.toks) (fun b o hb e=>(sb.2 b hb).trans e) f0 f1 f3 f4 f5
  obtain⟨o,e,c,d⟩:=id st'
  exact⟨u,rfl,LY (s:={ s with heap:=h' }) e c d (by decide) ⟨x,H,I1,ru,⟨rfl,fun ys hy=>by rw[I.list_inj hy hq];exact hx⟩,st',fun b hb=>(hf b hb).1⟩⟩
 done:=by
  intro X hP hw hK hc i pins s σ H E I hf st hg
  subst hP hw hK
  obtain⟨xs,hq,hx⟩:=hg
  obtain⟨its,rv,p,hz⟩:=I.list hq
  obtain⟨f0,f1,f2,f3,f4,f5⟩:=hf it (by simp)
  have hl:=rv.length
  exact wpAny_pyNext_list_end (I.ok.hd hc) st p.isList (by simp;omega) fun h' eb=>⟨rfl,I.turned (t':=s.toks) (fun b o hb e=>eb b o hb e) f0 f1 f3 f4 f5⟩
 self:=fun _ _ _ _ _ st h=>wpAny_pyIter_listiter st h
theorem Kf {P:Program} {w:World} {K:PySem.W.Frag} {tg:Expr} (a it:Addr):KN P w K tg (Sc K a) [it] it (fun i h=>h.IsTupleIter it a i) where
 mem:=by simp
 obj:=fun i h st b hb=>by
  have e:b=it:=by simpa using hb
  subst e
  obtain⟨o,e,c,d⟩:=st
  exact⟨o,e,fun v z=>by rw[d] at z;cases z⟩
 keep:=fun i h h' st k=>st.at fun o e=>k it (by simp) o e
 item:=by
  intro X hP hw hK hc i pins s σ H E I hf st hg
  subst hP hw hK
  obtain⟨xs,x,hq,hx⟩:=hg
  obtain⟨its,rv,p,hz⟩:=I.tuple hq
  obtain⟨u,hu,ru⟩:=rv.get hx
  obtain⟨f0,f1,f2,f3,f4,f5⟩:=hf it (by simp)
  refine wpAny_pyNext_tuple_item st (show s.heap.IsTuple a its.toArray from p) (x:=u) (by simpa using hu) fun h' st' sb=>?_
  have I1:Inv X pins σ H { s with heap:=h' }:=I.turned (t':=s.toks) (fun b o hb e=>(sb.2 b hb).trans e) f0 f1 f3 f4 f5
  obtain⟨o,e,c,d⟩:=id st'
  exact⟨u,rfl,LY (s:={ s with heap:=h' }) e c d (by decide) ⟨x,H,I1,ru,⟨rfl,fun ys hy=>by rw[I.tuple_inj hy hq];exact hx⟩,st',fun b hb=>(hf b hb).1⟩⟩
 done:=by
  intro X hP hw hK hc i pins s σ H E I hf st hg
  subst hP hw hK
  obtain⟨xs,hq,hx⟩:=hg
  obtain⟨its,rv,p,hz⟩:=I.tuple hq
  obtain⟨f0,f1,f2,f3,f4,f5⟩:=hf it (by simp)
  have hl:=rv.length
  exact wpAny_pyNext_tuple_end (I.ok.hd hc) st (show s.heap.IsTuple a its.toArray from p) (by simp;omega) fun h' eb=>⟨rfl,I.turned (t':=s.toks) (fun b o hb e=>eb b o hb e) f0 f1 f3 f4 f5⟩
 self:=fun _ _ _ _ _ st h=>wpAny_pyIter_tupleiter st h
theorem Ki {P:Program} {w:World} {K:PySem.W.Frag} {tg:Expr} (it:Addr) (lo:Int) (n:Nat):KN P w K tg (Q9 lo n) [it] it (fun i h=>IsRangeIter h it (lo+(i:Nat)*1) ((n:Int)-(i:Nat)) 1) where
 mem:=by simp
 obj:=fun i h st b hb=>by
  have e:b=it:=by simpa using hb
  subst e
  exact⟨_,st,fun v z=>by
   have z':Data.fields _=Data.cell v:=z
   cases z'⟩
 keep:=fun i h h' st k=>k it (by simp) _ st
 item:=by
  intro X hP hw hK hc i pins s σ H E I hf st hg
  subst hP hw hK
  obtain⟨f0,f1,f2,f3,f4,f5⟩:=hf it (by simp)
  have W:=Walks.range (prog:=X.prog) (w:=X.w) (I.ok.hd hc) it lo 1 n
  refine W.item i s _ _ hg st fun v h' tk hv st' kk=>?_
  obtain⟨t,rfl⟩:=hv
  have I1:Inv X pins σ H { s with heap:=h',toks:=tk }:=I.turned (fun b o hb e=>kk b o (by simpa using hb) e) f0 f1 f3 f4 f5
  refine⟨_,rfl,LY (s:={ s with heap:=h',toks:=tk }) (n:="range_iterator") st' rfl rfl (by decide) ⟨.int (lo+i),H,I1,⟨t,?_⟩,⟨rfl,rfl⟩,st',fun b hb=>(hf b hb).1⟩⟩
  rw[Int.mul_one]
 done:=by
  intro X hP hw hK hc i pins s σ H E I hf st hg
  subst hP hw hK
  obtain⟨f0,f1,f2,f3,f4,f5⟩:=hf it (by simp)
  exact wpAny_pyNext_range_end (I.ok.hd hc) st (by have:n≤i:=hg;omega) fun h' eb=>⟨rfl,I.turned (t':=s.toks) (fun b o hb e=>eb b o hb e) f0 f1 f3 f4 f5⟩
 self:=fun _ _ _ _ _ st h=>wpAny_pyIter_rangeiter st h
end L2
namespace L2
open PySem PySem.Spec PyProof.Rows
section
variable {X:Cx} {tg:Expr}
def Sm (K:PySem.W.Frag) (tl:TE):TI:=fun σ H R=>tl σ H fun x H1=>∃a,x= .ref a∧(∃xs,SqL K H1 a xs)∧R (P4 K a) H1
def S1 (K:PySem.W.Frag) (tl:TE):TI:=fun σ H R=>tl σ H fun x H1=>∃a,x= .ref a∧(∃xs,SqT K H1 a xs)∧R (Sc K a) H1
theorem Bn {l:Expr} {tl:TE} (hl:PE X l tl):PI X tg l (Sm X.K tl):=by
 intro pins s σ H R I h
 refine AS (hl pins s σ H _ I h) fun v s1 ⟨x,H1,I1,r1,q1⟩=>?_
 obtain⟨a,e,⟨xs,hq⟩,q⟩:=q1
 subst e
 cases r1
 obtain⟨its,rv,p,hz⟩:=I1.list hq
 refine wpAny_pyIter_list p.isList ?_
 refine⟨s1.heap.objs.size,[s1.heap.objs.size],_,_,H1,rfl,I1.kept (t':=s1.toks) fun b o e=>Heap.get?_push_of_some _ e,Mo a _,⟨_,Heap.get?_push_size _ rfl,rfl,rfl⟩,fun b hb=>?_,q⟩
 have e:b=s1.heap.objs.size:=by simpa using hb
 subst e
 exact I1.fpOk (Nat.le_refl _) (I1.hok.fresh (Nat.le_refl _))
theorem Ow {l:Expr} {tl:TE} (hl:PE X l tl):PI X tg l (S1 X.K tl):=by
 intro pins s σ H R I h
 refine AS (hl pins s σ H _ I h) fun v s1 ⟨x,H1,I1,r1,q1⟩=>?_
 obtain⟨a,e,⟨xs,hq⟩,q⟩:=q1
 subst e
 cases r1
 obtain⟨its,rv,p,hz⟩:=I1.tuple hq
 refine wpAny_pyIter_tuple (show s1.heap.IsTuple a its.toArray from p) ?_
 refine⟨s1.heap.objs.size,[s1.heap.objs.size],_,_,H1,rfl,I1.kept (t':=s1.toks) fun b o e=>Heap.get?_push_of_some _ e,Kf a _,⟨_,Heap.get?_push_size _ rfl,rfl,rfl⟩,fun b hb=>?_,q⟩
 have e:b=s1.heap.objs.size:=by simpa using hb
 subst e
 exact I1.fpOk (Nat.le_refl _) (I1.hok.fresh (Nat.le_refl _))
theorem JD {pins:List (Addr×Obj)} {σ:St} {H:Hp} {s:Shared} {R:It→Hp→Prop} {E:Value→Shared→Prop} {lo hi:Int} {t u v:Tok} {tk:Nat} (I:Inv X pins σ H s) (h1 : -(2^62)≤lo) (h2:lo<2^62) (h3 : -(2^62)≤hi) (h4:hi<2^62)
  (q:R (Q9 lo (hi-lo).toNat) H):wpAny (model X.prog X.w) X.A (pyIter (.ref s.heap.objs.size)) (TW X pins σ tg R) E { s with heap:=s.heap.push { cls:=.type "range",data:=.fields #[.int lo t,.int hi u,.int 1 v] },toks:=tk }:=by
 refine wpAny_pyIter_range (IsRange.new ..) (small_one h1 h2 h3 h4) ?_
 have I1:Inv X pins σ H { s with heap:=s.heap.push { cls:=.type "range",data:=.fields #[.int lo t,.int hi u,.int 1 v] },toks:=tk }:=I.kept fun b o e=>Heap.get?_push_of_some _ e
 refine⟨(s.heap.push { cls:=.type "range",data:=.fields #[.int lo t,.int hi u,.int 1 v] }).objs.size,[(s.heap.push { cls:=.type "range",data:=.fields #[.int lo t,.int hi u,.int 1 v] }).objs.size],_,_,H,rfl,
  I1.kept (t':=tk) fun b o e=>Heap.get?_push_of_some _ e,Ki _ lo (hi-lo).toNat,?_,fun b hb=>?_,q⟩
 ·have e1:lo+((0:Nat):Int)*1=lo:=by simp
  have e2:(((hi-lo).toNat:Nat):Int)-((0:Nat):Int)=Builtin.Range.rangeSize lo hi 1:=by rw[rangeSize_one];split<;>omega
  show IsRangeIter _ _ (lo+((0:Nat):Int)*1) ((((hi-lo).toNat:Nat):Int)-((0:Nat):Int)) 1
  rw[e1,e2]
  exact Heap.get?_push_size _ rfl
 ·have e:b=(s.heap.push { cls:=.type "range",data:=.fields #[.int lo t,.int hi u,.int 1 v] }).objs.size:=by simpa using hb
  subst e
  exact I1.fpOk (Nat.le_refl _) (I1.hok.fresh (Nat.le_refl _))
def SC (ta:TA):TI:=fun σ H R=>ta σ H fun vs H1=>∃j:Int,vs=[.int j]∧-(2^62)≤j∧j<2^62∧R (Q9 0 j.toNat) H1
def SG (ta:TA):TI:=fun σ H R=>ta σ H fun vs H1=>∃i j:Int,vs=[.int i,.int j]∧(-(2^62)≤i∧i<2^62∧-(2^62)≤j∧j<2^62)∧R (Q9 i (j-i).toNat) H1
theorem Dd {a:Expr} {ta:TA} {p pos:Pos} (hg:Gl X "range") (hm:X.mg "range"=none) (ha:PA X [a] ta) (hs:starEach [a] X.env=[(false,eval a X.env)]:=by rfl):PI X tg (.Call (.Name "range" p) [a] [] pos) (SC ta):=by
 intro pins s σ H R I h
 refine Call_ (DF I hg hm boot_range (PyProof.Rows.callWith_type1 (AS (ha pos pins s σ H _ I h) fun us s1 ⟨vs,H1,I1,r1,q1⟩=>?_) hs rfl))
 obtain⟨j,e,q1,q2,q⟩:=q1
 subst e
 cases r1 with
 | cons r rr=>
  cases rr
  obtain⟨t,rfl⟩:=r
  exact call_range_1 (JD I1 (by omega) (by omega) q1 q2 (by simpa using q))
theorem Ia {a b:Expr} {ta:TA} {p pos:Pos} (hg:Gl X "range") (hm:X.mg "range"=none) (ha:PA X [a,b] ta) (hs:starEach [a,b] X.env=[(false,eval a X.env),(false,eval b X.env)]:=by rfl) (hs2:starEach [b] X.env=[(false,eval b X.env)]:=by rfl) :
  PI X tg (.Call (.Name "range" p) [a,b] [] pos) (SG ta):=by
 intro pins s σ H R I h
 refine Call_ (DF I hg hm boot_range (PyProof.Rows.callWith_type1 (AS (ha pos pins s σ H _ I h) fun us s1 ⟨vs,H1,I1,r1,q1⟩=>?_) (by rw[hs,hs2]) (by rw[hs2];rfl)))
 obtain⟨i,j,e,⟨q1,q2,q3,q4⟩,q⟩:=q1
 subst e
 cases r1 with
 | cons r rr=>
  cases rr with
  | cons r' rr=>
   cases rr
   obtain⟨t,rfl⟩:=r
   obtain⟨t',rfl⟩:=r'
   exact call_range_2 (JD I1 q1 q2 q3 q4 q)
def Kk (wi:TI) (g:TG) (tb:TS):TS:=fun D σ H=>wi σ H fun J H1=>∃W:Nat→Nat→St→Hp→Prop,(∃m,W 0 m σ H1)∧∀i m σ H,W i m σ H→
 (J.stop i H∧D.nx σ H)∨(J.go i H∧∃N:St→Hp→Prop,(∀σ' H',N σ' H'→∃m',m'<m∧W (i+1) m' σ' H')∧∀x H',J.yld i H x H'→g x σ H' fun σ2 H2=>tb { D with nx:=N,ct:=N,bk:=D.nx } σ2 H2)
def Gq (fp:List Addr) (h:Heap):List (Addr×Obj):=fp.filterMap fun b=>(h.get? b).map fun o=>(b,o)
theorem Dk {fp:List Addr} {h:Heap} {b:Addr} {o:Obj} (hb:b∈fp) (e:h.get? b=some o):(b,o)∈Gq fp h:=List.mem_filterMap.mpr ⟨b,hb,by rw[e];rfl⟩
theorem L6 {fp:List Addr} {h:Heap} {p:Addr×Obj} (hp:p∈Gq fp h):p.1∈fp∧h.get? p.1=some p.2:=by
 obtain⟨b,hb,e⟩:=List.mem_filterMap.mp hp
 cases q:h.get? b with
 | none=>rw[q] at e;cases e
 | some o=>
  rw[q] at e
  have e':(b,o)=p:=Option.some.inj e
  subst e'
  exact⟨hb,q⟩
theorem Inv.pinned {pins:List (Addr×Obj)} {σ:St} {H:Hp} {s:Shared} {fp:List Addr} (I:Inv X pins σ H s) (hf:∀b∈fp,De X pins H b) (ho:∀b∈fp,∃o,s.heap.get? b=some o∧∀v,o.data≠.cell v):Inv X (pins++Gq fp s.heap) σ H s:=
 I.pins_of fun p hp=>(List.mem_append.mp hp).elim (fun z=>I.pin p (List.mem_append_right _ z)) fun z=>by
  obtain⟨hb,e⟩:=L6 z
  obtain⟨f0,f1,f2,_⟩:=hf p.1 hb
  obtain⟨o,e',d⟩:=ho p.1 hb
  rw[e] at e';cases e'
  exact⟨e,f0,f1,f2,d⟩
theorem Inv.unpinned {pins pl:List (Addr×Obj)} {σ:St} {H:Hp} {s:Shared} (I:Inv X (pins++pl) σ H s):Inv X pins σ H s:=I.pins_of fun p hp=>I.pin p (List.mem_append_right _ (List.mem_append_left _ hp))
theorem BQ {iter:Expr} {body:List Stmt} {wi:TI} {g:TG} {tb:TS} {pos:Pos} (hp:PassesOwn (model X.prog X.w) X.A X.env X.xe) (hc:X.calm=true) (hi:PI X tg iter wi) (hg:PG X tg g) (hb:PSs X body tb)
  (hs:∀x,foldedSetIterable iter X.env x=pure x:=by intro _;rfl):PS X (.For tg iter body [] pos) (Kk wi g tb):=by
 intro pins s σ H D I h
 refine wpAny_For (AS (hi pins s σ H _ I h) fun v s1 h1=>AS h1 fun itv s2 h2=>?_) hs
 obtain⟨it,fp,tn,J,H2,e,I2,T,st2,f2,W,⟨m0,w0⟩,turn⟩:=h2
 subst e
 have stat:∀{H':Hp},(∀b∈fp,H' b=none)→∀b∈fp,De X pins H' b:=fun hn b hb=>⟨hn b hb,(f2 b hb).2⟩
 refine codeAny_forLoop_any (fun n s'=>∃i σ' H',Inv X pins σ' H' s'∧tn i s'.heap∧(∀b∈fp,H' b=none)∧W i n σ' H') ?_ m0 ⟨0,σ,H2,I2,st2,fun b hb=>(f2 b hb).1,w0⟩
 rintro n s3 ⟨i,σ3,H3,I3,st3,fr3,w3⟩
 rcases turn i n σ3 H3 w3 with⟨stop,qn⟩|⟨go,N,hN,step⟩
 ·refine wpAny_passesOwn hp (AS (T.done X rfl rfl rfl hc i pins s3 σ3 H3 X.xe I3 (stat fr3) st3 stop) fun r s4 ⟨hr,I4⟩=>?_)
  subst hr
  exact wpAny_execs_nil ⟨σ3,H3,I4,qn⟩
 ·refine wpAny_passesOwn hp (AS (T.item X rfl rfl rfl hc i pins s3 σ3 H3 X.xe I3 (stat fr3) st3 go) fun r s4 ⟨u,hr,h4⟩=>?_)
  subst hr
  refine wpAny_passesOwn hp (AS h4 fun _ s5 ⟨x,H5,I5,r5,y5,st5,fr5⟩=>?_)
  have I5':=I5.pinned (stat fr5) (T.obj _ _ st5)
  refine wpAny_passesOwn hp (AS (hg _ s5 σ3 H5 x u _ I5' r5 (step x H5 y5)) fun _ s6 ⟨σ6,H6,I6,q6⟩=>?_)
  refine wpAny_passesOwn hp (AS (hb _ s6 σ6 H6 _ I6 q6) fun f s7 q7=>?_)
  have again:∀{σ7:St} {H7:Hp},Inv X (pins++Gq fp s5.heap) σ7 H7 s7→N σ7 H7→∃m,m<n∧∃i σ' H',Inv X pins σ' H' s7∧tn i s7.heap∧(∀b∈fp,H' b=none)∧W i m σ' H':=fun {σ7 H7} I7 n7=>by
   obtain⟨m',hm,w7⟩:=hN σ7 H7 n7
   refine⟨m',hm,i+1,σ7,H7,I7.unpinned,T.keep _ _ _ st5 fun b hb o e=>(I7.pin (b,o) (List.mem_append_right _ (List.mem_append_right _ (Dk hb e)))).1,fun b hb=>?_,w7⟩
   obtain⟨o,e,d⟩:=T.obj _ _ st5 b hb
   exact (I7.pin (b,o) (List.mem_append_right _ (List.mem_append_right _ (Dk hb e)))).2.1
  cases f with
  | next=>obtain⟨σ7,H7,I7,n7⟩:=q7;exact again I7 n7
  | cont=>obtain⟨σ7,H7,I7,n7⟩:=q7;exact again I7 n7
  | brk=>obtain⟨σ7,H7,I7,q7⟩:=q7;exact⟨σ7,H7,I7.unpinned,q7⟩
  | ret v=>obtain⟨x7,σ7,H7,I7,r7,q7⟩:=q7;exact⟨x7,σ7,H7,I7.unpinned,r7,q7⟩
end
theorem Bk {K:PySem.W.Frag} {a:Addr} {xs:List V} {g:TG} {tb:TS} {D:Ce} {σ:St} {H:Hp} (Pv:Nat→St→Hp→Prop) (h0:Pv 0 σ H) (hl:∀i σ H,i≤xs.length→Pv i σ H→SqL K H a xs)
  (hs:∀i x σ H,xs[i]? = some x→Pv i σ H→g x σ H fun σ2 H2=>tb { D with nx:=Pv (i+1),ct:=Pv (i+1),bk:=D.nx } σ2 H2) (hd:∀σ H,Pv xs.length σ H→D.nx σ H) :
  ∃W:Nat→Nat→St→Hp→Prop,(∃m,W 0 m σ H)∧∀i m σ H,W i m σ H→
   ((P4 K a).stop i H∧D.nx σ H)∨((P4 K a).go i H∧∃N:St→Hp→Prop,(∀σ' H',N σ' H'→∃m',m'<m∧W (i+1) m' σ' H')∧∀x H',(P4 K a).yld i H x H'→g x σ H' fun σ2 H2=>tb { D with nx:=N,ct:=N,bk:=D.nx } σ2 H2):=by
 refine⟨fun i m σ H=>m=xs.length-i∧i≤xs.length∧Pv i σ H,⟨xs.length,by simp,Nat.zero_le _,h0⟩,?_⟩
 rintro i m σ H ⟨rfl,hi,p⟩
 have q:=hl i σ H hi p
 by_cases hlt:i<xs.length
 ·refine .inr ⟨⟨xs,xs[i],q,by simp[hlt]⟩,Pv (i+1),fun σ' H' p'=>⟨xs.length-(i+1),by omega,rfl,hlt,p'⟩,fun x H' y=>?_⟩
  obtain⟨e,y⟩:=y
  subst e
  exact hs i x σ _ (y xs q) p
 ·have e:i=xs.length:=by omega
  subst e
  exact .inl ⟨⟨xs,q,Nat.le_refl _⟩,hd σ H p⟩
theorem LH {K:PySem.W.Frag} {a:Addr} {xs:List V} {g:TG} {tb:TS} {D:Ce} {σ:St} {H:Hp} (Pv:Nat→St→Hp→Prop) (h0:Pv 0 σ H) (hl:∀i σ H,i≤xs.length→Pv i σ H→SqT K H a xs)
  (hs:∀i x σ H,xs[i]? = some x→Pv i σ H→g x σ H fun σ2 H2=>tb { D with nx:=Pv (i+1),ct:=Pv (i+1),bk:=D.nx } σ2 H2) (hd:∀σ H,Pv xs.length σ H→D.nx σ H) :
  ∃W:Nat→Nat→St→Hp→Prop,(∃m,W 0 m σ H)∧∀i m σ H,W i m σ H→
   ((Sc K a).stop i H∧D.nx σ H)∨((Sc K a).go i H∧∃N:St→Hp→Prop,(∀σ' H',N σ' H'→∃m',m'<m∧W (i+1) m' σ' H')∧∀x H',(Sc K a).yld i H x H'→g x σ H' fun σ2 H2=>tb { D with nx:=N,ct:=N,bk:=D.nx } σ2 H2):=by
 refine⟨fun i m σ H=>m=xs.length-i∧i≤xs.length∧Pv i σ H,⟨xs.length,by simp,Nat.zero_le _,h0⟩,?_⟩
 rintro i m σ H ⟨rfl,hi,p⟩
 have q:=hl i σ H hi p
 by_cases hlt:i<xs.length
 ·refine .inr ⟨⟨xs,xs[i],q,by simp[hlt]⟩,Pv (i+1),fun σ' H' p'=>⟨xs.length-(i+1),by omega,rfl,hlt,p'⟩,fun x H' y=>?_⟩
  obtain⟨e,y⟩:=y
  subst e
  exact hs i x σ _ (y xs q) p
 ·have e:i=xs.length:=by omega
  subst e
  exact .inl ⟨⟨xs,q,Nat.le_refl _⟩,hd σ H p⟩
theorem BC {lo:Int} {n:Nat} {g:TG} {tb:TS} {D:Ce} {σ:St} {H:Hp} (Pv:Nat→St→Hp→Prop) (h0:Pv 0 σ H)
  (hs:∀i σ H,i<n→Pv i σ H→g (.int (lo+i)) σ H fun σ2 H2=>tb { D with nx:=Pv (i+1),ct:=Pv (i+1),bk:=D.nx } σ2 H2) (hd:∀σ H,Pv n σ H→D.nx σ H) :
  ∃W:Nat→Nat→St→Hp→Prop,(∃m,W 0 m σ H)∧∀i m σ H,W i m σ H→
   ((Q9 lo n).stop i H∧D.nx σ H)∨((Q9 lo n).go i H∧∃N:St→Hp→Prop,(∀σ' H',N σ' H'→∃m',m'<m∧W (i+1) m' σ' H')∧∀x H',(Q9 lo n).yld i H x H'→g x σ H' fun σ2 H2=>tb { D with nx:=N,ct:=N,bk:=D.nx } σ2 H2):=by
 refine⟨fun i m σ H=>m=n-i∧i≤n∧Pv i σ H,⟨n,by simp,Nat.zero_le _,h0⟩,?_⟩
 rintro i m σ H ⟨rfl,hi,p⟩
 by_cases hlt:i<n
 ·refine .inr ⟨hlt,Pv (i+1),fun σ' H' p'=>⟨n-(i+1),by omega,rfl,hlt,p'⟩,fun x H' y=>?_⟩
  obtain⟨e,y⟩:=y
  subst e y
  exact hs i σ _ hlt p
 ·have e:i=n:=by omega
  subst e
  exact .inl ⟨Nat.le_refl _,hd σ H p⟩
end L2
namespace L2
open PySem PySem.Spec PyProof.Rows
abbrev R2:=V→V→Hp→VK→Prop
def Eh (X:Cx) (f:Value→Value→Sem Value) (r:R2):Prop:=
 ∀(pins:List (Addr×Obj)) (s:Shared) (σ:St) (H:Hp) (x y:V) (v u:Value) (Q:VK),Inv X pins σ H s→RelV x v→RelV y u→r x y H Q→
  wpAny (model X.prog X.w) X.A (f v u) (EP X pins σ Q) X.xe s
def Tf (X:Cx) (f:Value→Sem Value) (r:V→Hp→VK→Prop):Prop:=
 ∀(pins:List (Addr×Obj)) (s:Shared) (σ:St) (H:Hp) (x:V) (v:Value) (Q:VK),Inv X pins σ H s→RelV x v→r x H Q→
  wpAny (model X.prog X.w) X.A (f v) (EP X pins σ Q) X.xe s
def BT (X:Cx) (f:Value) (r:List V→Hp→VK→Prop):Prop:=
 ∀(pins:List (Addr×Obj)) (s:Shared) (σ:St) (H:Hp) (xs:List V) (us:List Value) (Q:VK),Inv X pins σ H s→Vals xs us→r xs H Q→
  wpAny (model X.prog X.w) X.A (call f us) (EP X pins σ Q) X.xe s
def TB (X:Cx) (r:V→Hp→(Bool→Hp→Prop)→Prop):Prop:=
 ∀(pins:List (Addr×Obj)) (s:Shared) (σ:St) (H:Hp) (x:V) (v:Value) (Q:Bool→Hp→Prop),Inv X pins σ H s→RelV x v→r x H Q→
  wpAny (model X.prog X.w) X.A (truthy v) (TP X pins σ Q) X.xe s
def SR (r:R2) (ta tb:TE):TE:=fun σ H Q=>ta σ H fun x H1=>tb σ H1 fun y H2=>r x y H2 Q
def Ue (r:V→Hp→VK→Prop) (ta:TE):TE:=fun σ H Q=>ta σ H fun x H1=>r x H1 Q
def rI (C:Int→Int→Prop) (g:Int→Int→V):R2:=fun x y H Q=>∃i j,x= .int i∧y= .int j∧C i j∧Q (g i j) H
def PX (g:Int→Int→V):R2:=fun x y H Q=>∃i j,x= .int i∧y= .int j∧Q (g i j) H
def rU (g:Int→V):V→Hp→VK→Prop:=fun x H Q=>∃i,x= .int i∧Q (g i) H
section
variable {X:Cx} {a b c:Expr} {ta tb tc:TE} {pos:Pos}
theorem RE (ha:PE X a ta) (hb:PE X b tb) {pins:List (Addr×Obj)} {s:Shared} {σ:St} {H:Hp} {R:V→V→Hp→Prop} (I:Inv X pins σ H s)
  (h:ta σ H fun x H1=>tb σ H1 fun y H2=>R x y H2) {Q:Value→Shared→Prop} {f:Value→Value→Sem Value}
  (hf:∀v u s2 x y H2,Inv X pins σ H2 s2→RelV x v→RelV y u→R x y H2→wpAny (model X.prog X.w) X.A (f v u) Q X.xe s2) :
  wpAny (model X.prog X.w) X.A (eval a X.env) (fun v s₁=>wpAny (model X.prog X.w) X.A (eval b X.env) (fun u s₂=>wpAny (model X.prog X.w) X.A (f v u) Q X.xe s₂) X.xe s₁) X.xe s:=by
 refine AS (ha pins s σ H _ I h) fun v s1 ⟨x,H1,I1,r1,q1⟩=>?_
 refine AS (hb pins s1 σ H1 _ I1 q1) fun u s2 ⟨y,H2,I2,r2,q2⟩=>?_
 exact hf v u s2 x y H2 I2 r1 r2 q2
theorem Ay {op:Operator} {r:R2} (ho:Eh X (binaryOp op) r) (ha:PE X a ta) (hb:PE X b tb):PE X (.BinOp a op b pos) (SR r ta tb):=by
 intro pins s σ H Q I h
 exact wpAny_BinOp (RE ha hb I h fun v u s2 x y H2 I2 rx ry q=>ho pins s2 σ H2 x y v u Q I2 rx ry q)
theorem JF {op:UnaryOp} {r:V→Hp→VK→Prop} (ho:Tf X (unaryOp op) r) (ha:PE X a ta):PE X (.UnaryOp op a pos) (Ue r ta):=by
 intro pins s σ H Q I h
 exact UnaryOp_ (AS (ha pins s σ H _ I h) fun v s1 ⟨x,H1,I1,r1,q1⟩=>ho pins s1 σ H1 x v Q I1 r1 q1)
theorem RV {f:Value→Value→Sem Value} {C:Int→Int→Prop} {g:Int→Int→Int}
  (rule:∀(i j:Int) (t u:Tok) (s:Shared) (Q:Value→Shared→Prop) (E:Value→Shared→Prop),C i j→Q (.int (g i j) s.toks) { s with toks:=s.toks+1 }→wpAny (model X.prog X.w) X.A (f (.int i t) (.int j u)) Q E s) :
  Eh X f (rI C fun i j=>.int (g i j)):=by
 intro pins s σ H x y v u Q I rx ry h
 obtain⟨i,j,rfl,rfl,hc,q⟩:=h
 obtain⟨t,rfl⟩:=rx
 obtain⟨t',rfl⟩:=ry
 exact rule i j t t' s _ _ hc ⟨.int (g i j),H,I.tok _,⟨_,rfl⟩,q⟩
theorem RA {f:Value→Value→Sem Value} {g:Int→Int→Int}
  (rule:∀(i j:Int) (t u:Tok) (s:Shared) (Q:Value→Shared→Prop) (E:Value→Shared→Prop),Q (.int (g i j) s.toks) { s with toks:=s.toks+1 }→wpAny (model X.prog X.w) X.A (f (.int i t) (.int j u)) Q E s) :
  Eh X f (PX fun i j=>.int (g i j)):=by
 intro pins s σ H x y v u Q I rx ry h
 obtain⟨i,j,rfl,rfl,q⟩:=h
 obtain⟨t,rfl⟩:=rx
 obtain⟨t',rfl⟩:=ry
 exact rule i j t t' s _ _ ⟨.int (g i j),H,I.tok _,⟨_,rfl⟩,q⟩
theorem PK {f:Value→Value→Sem Value} {g:Int→Int→Bool}
  (rule:∀(i j:Int) (t u:Tok) (s:Shared) (Q:Value→Shared→Prop) (E:Value→Shared→Prop),Q (.bool (g i j)) s→wpAny (model X.prog X.w) X.A (f (.int i t) (.int j u)) Q E s) :
  Eh X f (PX fun i j=>.bl (g i j)):=by
 intro pins s σ H x y v u Q I rx ry h
 obtain⟨i,j,rfl,rfl,q⟩:=h
 obtain⟨t,rfl⟩:=rx
 obtain⟨t',rfl⟩:=ry
 exact rule i j t t' s _ _ ⟨.bl (g i j),H,I,rfl,q⟩
def SZ (i j:Int):Prop:=0<j∧j<1073741824
def Sj (i j:Int):Prop:=0≤j∧j≤1000000∧i.natAbs<2^64
def CMul (i j:Int):Prop:=(-(2^64)<i∧i<2^64)∨(-(2^64)<j∧j<2^64)
theorem CMul.ok {i j:Int} (h:CMul i j):IntMulOk i j:=by
 rcases h with⟨h1,h2⟩|⟨h1,h2⟩
 ·exact .of_left (intBits_le_64 h1 h2)
 ·exact .of_right (intBits_le_64 h1 h2)
theorem Kq (k:Nat):(0:Int)≤2^k:=by
 rw[two_pow_cast]
 exact Int.natCast_nonneg _
theorem Bz:Eh X (binaryOp .Add) (PX fun i j=>.int (i+j)):=RA fun _ _ _ _ _ _ _ q=>add_int q
theorem DL:Eh X (binaryOp .Sub) (PX fun i j=>.int (i-j)):=RA fun _ _ _ _ _ _ _ q=>sub_int q
theorem Gx:Eh X (binaryOp .Mult) (rI CMul fun i j=>.int (i*j)):=RV fun _ _ _ _ _ _ _ hc q=>mul_int q hc.ok
theorem AT:Eh X (binaryOp .FloorDiv) (rI SZ fun i j=>.int (i / j)):=RV fun i j _ _ _ _ _ hc q=>by
 have h1:(0:Int)<j:=hc.1
 have h2:j<1073741824:=hc.2
 exact floordiv_int (by omega) (by rw[Int.fdiv_eq_ediv_of_nonneg i (by omega)];exact q) (.inl (PyProof.noPylong_small (by omega)))
theorem AQ:Eh X (binaryOp .Mod) (rI (fun _ j=>0<j) fun i j=>.int (i%j)):=RV fun i j _ _ _ _ _ hc q=>by
 have h1:(0:Int)<j:=hc
 exact mod_int' (by omega) (by rw[Int.fmod_eq_emod_of_nonneg i (by omega)];exact q)
theorem Pa:Eh X (binaryOp .Pow) (rI Sj fun i j=>.int (i^j.toNat)):=RV fun _ _ _ _ _ _ _ hc q=>pow_int_small hc.1 hc.2.1 hc.2.2 q
theorem Ro:Eh X (binaryOp .LShift) (rI Sj fun i j=>.int (i*2^j.toNat)):=RV fun _ _ _ _ _ _ _ hc q=>lshift_int_small hc.1 hc.2.1 hc.2.2 q
theorem Rn:Eh X (binaryOp .RShift) (rI (fun _ j=>0≤j) fun i j=>.int (i / 2^j.toNat)):=RV fun i j _ _ _ _ _ hc q=>
 rshift_int hc (by rw[Int.fdiv_eq_ediv_of_nonneg i (Kq _)];exact q)
theorem RT:Eh X (binaryOp .BitAnd) (PX fun i j=>.int (Builtin.bitAnd i j)):=RA fun _ _ _ _ _ _ _ q=>and_int q
theorem Uf {f:Value→Sem Value} {g:Int→Int}
  (rule:∀(i:Int) (t:Tok) (s:Shared) (Q:Value→Shared→Prop) (E:Value→Shared→Prop),Q (.int (g i) s.toks) { s with toks:=s.toks+1 }→wpAny (model X.prog X.w) X.A (f (.int i t)) Q E s) :
  Tf X f (rU fun i=>.int (g i)):=by
 intro pins s σ H x v Q I rx h
 obtain⟨i,rfl,q⟩:=h
 obtain⟨t,rfl⟩:=rx
 exact rule i t s _ _ ⟨.int (g i),H,I.tok _,⟨_,rfl⟩,q⟩
theorem G0:Tf X (unaryOp .USub) (rU fun i=>.int (-i)):=Uf fun _ _ _ _ _ q=>neg_int q
end
def R8:V→V→Bool
 | .non,.non=>true | .non,.int _=>true | .int _,.non=>true | .non,.bl _=>true | .bl _,.non=>true | .non,.str _=>true | .str _,.non=>true
 | .int _,.int _=>true | .bl _,.bl _=>true | .str _,.str _=>true | .byt _,.byt _=>true
 | .int _,.str _=>true | .str _,.int _=>true | .bl _,.str _=>true | .str _,.bl _=>true
 | _,_=>false
def Ug:R2:=fun x y H Q=>R8 x y=true∧Q (.bl (decide (x=y))) H
def Uj:R2:=fun x y H Q=>R8 x y=true∧Q (.bl (!decide (x=y))) H
theorem Lg {i j:Int}:decide (V.int i=V.int j)=(i == j):=by
 rw[Bool.eq_iff_iff]
 simp
theorem Nx {i j:Bool}:decide (V.bl i=V.bl j)=(i == j):=by
 rw[Bool.eq_iff_iff]
 simp
theorem LB {i j:Str}:decide (V.str i=V.str j)=(i == j):=by
 rw[Bool.eq_iff_iff]
 simp
theorem LR {i j:Array UInt8}:decide (V.byt i=V.byt j)=(i.toList == j.toList):=by
 rw[Bool.eq_iff_iff]
 cases i
 cases j
 simp
section
variable {X:Cx} {a b c:Expr} {ta tb tc:TE} {pos:Pos}
theorem A0 {pins:List (Addr×Obj)} {σ:St} {H:Hp} {s:Shared} {Q:VK} {k k':Bool} (I:Inv X pins σ H s) (q:Q (.bl k) H) (e:k=k'):EP X pins σ Q (.bool k') s:=by
 subst e
 exact⟨.bl k,H,I,rfl,q⟩
theorem AI:Eh X (compareOp .Eq) Ug:=by
 intro pins s σ H x y v u Q I rx ry h
 obtain⟨hs,q⟩:=h
 cases x with
 | non=>
  cases rx
  cases y with
  | non=>cases ry;exact PySem.EqNone.eq_none_none (A0 I q (by simp))
  | bl j=>cases ry;exact PySem.EqNone.eq_none_bool (A0 I q (by simp))
  | int j=>obtain⟨t',rfl⟩:=ry;exact PySem.EqNone.eq_none_int (A0 I q (by simp))
  | str j=>obtain⟨t',rfl⟩:=ry;exact PySem.EqNone.eq_none_str (A0 I q (by simp))
  | _=>exact absurd (show false=true from hs) Bool.false_ne_true
 | bl i=>
  cases rx
  cases y with
  | non=>cases ry;exact PySem.EqNone.eq_bool_none (A0 I q (by simp))
  | bl j=>cases ry;exact eq_bool (A0 I q Nx)
  | str j=>obtain⟨t',rfl⟩:=ry;exact PySem.EqMixed.eq_bool_str (A0 I q (by simp))
  | _=>exact absurd (show false=true from hs) Bool.false_ne_true
 | int i=>
  obtain⟨t,rfl⟩:=rx
  cases y with
  | non=>cases ry;exact PySem.EqNone.eq_int_none (A0 I q (by simp))
  | int j=>obtain⟨t',rfl⟩:=ry;exact eq_int (A0 I q Lg)
  | str j=>obtain⟨t',rfl⟩:=ry;exact PySem.EqMixed.eq_int_str (A0 I q (by simp))
  | _=>exact absurd (show false=true from hs) Bool.false_ne_true
 | str i=>
  obtain⟨t,rfl⟩:=rx
  cases y with
  | non=>cases ry;exact PySem.EqNone.eq_str_none (A0 I q (by simp))
  | bl j=>cases ry;exact PySem.EqMixed.eq_str_bool (A0 I q (by simp))
  | int j=>obtain⟨t',rfl⟩:=ry;exact PySem.EqMixed.eq_str_int (A0 I q (by simp))
  | str j=>obtain⟨t',rfl⟩:=ry;exact eq_str (A0 I q LB)
  | _=>exact absurd (show false=true from hs) Bool.false_ne_true
 | byt i=>
  obtain⟨t,rfl⟩:=rx
  cases y with
  | byt j=>obtain⟨t',rfl⟩:=ry;exact PySem.W.eq_bytes (A0 I q LR)
  | _=>exact absurd (show false=true from hs) Bool.false_ne_true
 | _=>cases y<;>exact absurd (show false=true from hs) Bool.false_ne_true
theorem Hs:Eh X (compareOp .NotEq) Uj:=by
 intro pins s σ H x y v u Q I rx ry h
 obtain⟨hs,q⟩:=h
 cases x with
 | non=>
  cases rx
  cases y with
  | non=>cases ry;exact PySem.EqNone.ne_none_none (A0 I q (by simp))
  | bl j=>cases ry;exact PySem.EqNone.ne_none_bool (A0 I q (by simp))
  | int j=>obtain⟨t',rfl⟩:=ry;exact PySem.EqNone.ne_none_int (A0 I q (by simp))
  | str j=>obtain⟨t',rfl⟩:=ry;exact PySem.EqNone.ne_none_str (A0 I q (by simp))
  | _=>exact absurd (show false=true from hs) Bool.false_ne_true
 | bl i=>
  cases rx
  cases y with
  | non=>cases ry;exact PySem.EqNone.ne_bool_none (A0 I q (by simp))
  | bl j=>cases ry;exact ne_bool (A0 I q (congrArg not Nx))
  | str j=>obtain⟨t',rfl⟩:=ry;exact PySem.EqMixed.ne_bool_str (A0 I q (by simp))
  | _=>exact absurd (show false=true from hs) Bool.false_ne_true
 | int i=>
  obtain⟨t,rfl⟩:=rx
  cases y with
  | non=>cases ry;exact PySem.EqNone.ne_int_none (A0 I q (by simp))
  | int j=>obtain⟨t',rfl⟩:=ry;exact ne_int (A0 I q (congrArg not Lg))
  | str j=>obtain⟨t',rfl⟩:=ry;exact PySem.EqMixed.ne_int_str (A0 I q (by simp))
  | _=>exact absurd (show false=true from hs) Bool.false_ne_true
 | str i=>
  obtain⟨t,rfl⟩:=rx
  cases y with
  | non=>cases ry;exact PySem.EqNone.ne_str_none (A0 I q (by simp))
  | bl j=>cases ry;exact PySem.EqMixed.ne_str_bool (A0 I q (by simp))
  | int j=>obtain⟨t',rfl⟩:=ry;exact PySem.EqMixed.ne_str_int (A0 I q (by simp))
  | str j=>obtain⟨t',rfl⟩:=ry;exact ne_str (A0 I q (congrArg not LB))
  | _=>exact absurd (show false=true from hs) Bool.false_ne_true
 | byt i=>
  obtain⟨t,rfl⟩:=rx
  cases y with
  | byt j=>obtain⟨t',rfl⟩:=ry;exact PySem.W.ne_bytes (A0 I q (congrArg not LR))
  | _=>exact absurd (show false=true from hs) Bool.false_ne_true
 | _=>cases y<;>exact absurd (show false=true from hs) Bool.false_ne_true
theorem FP:Eh X (compareOp .Lt) (PX fun i j=>.bl (decide (i<j))):=PK fun _ _ _ _ _ _ _ q=>lt_int q
theorem SL:Eh X (compareOp .LtE) (PX fun i j=>.bl (decide (i≤j))):=PK fun _ _ _ _ _ _ _ q=>le_int q
theorem EH:Eh X (compareOp .Gt) (PX fun i j=>.bl (decide (j<i))):=PK fun _ _ _ _ _ _ _ q=>gt_int q
theorem Q1:Eh X (compareOp .GtE) (PX fun i j=>.bl (decide (j≤i))):=PK fun _ _ _ _ _ _ _ q=>ge_int q
theorem Ao (b:Expr) {op:CmpOp} (h:op≠.In:=by decide) (h2:op≠.NotIn:=by decide):behindInMarks op b=false:=by
 have e1:(op == CmpOp.In)=false:=by cases op<;>first | rfl | exact absurd rfl h
 have e2:(op == CmpOp.NotIn)=false:=by cases op<;>first | rfl | exact absurd rfl h2
 cases b<;>simp[behindInMarks,e1,e2]
theorem Bs {op:CmpOp} {r:R2} (ho:Eh X (compareOp op) r) (ha:PE X a ta) (hb:PE X b tb) (hm:behindInMarks op b=false):PE X (.Compare a [op] [b] pos) (SR r ta tb):=by
 intro pins s σ H Q I h
 exact wpAny_Compare1 (RE ha hb I h fun v u s2 x y H2 I2 rx ry q=>ho pins s2 σ H2 x y v u Q I2 rx ry q) hm
def Sf (t:TE):TT:=fun σ H Q=>t σ H fun x H'=>∃k,x= .bl k∧Q k H'
theorem Ak {op:CmpOp} {r:R2} (ho:Eh X (compareOp op) r) (ha:PE X a ta) (hb:PE X b tb) (hm:behindInMarks op b=false):PT X (.Compare a [op] [b] pos) (Sf (SR r ta tb)):=by
 intro pins s σ H Q I h
 refine wpAny_isTrue_Compare1 (AS (ha pins s σ H _ I h) fun v s1 ⟨x,H1,I1,r1,q1⟩=>AS (hb pins s1 σ H1 _ I1 q1) fun u s2 ⟨y,H2,I2,r2,q2⟩=>
  AS (ho pins s2 σ H2 x y v u _ I2 r1 r2 q2) fun c s3 ⟨z,H3,I3,r3,k,e,q3⟩=>?_) hm
 subst e
 cases r3
 exact wpAny_truthy_bool ⟨H3,I3,q3⟩
def Rj (r r':R2) (ta tb tc:TE):TE:=fun σ H Q=>ta σ H fun x H1=>tb σ H1 fun y H2=>r x y H2 fun z H3=>∃k,z= .bl k∧
 (if k=true then tc σ H3 fun w' H4=>r' y w' H4 Q else Q (.bl false) H3)
theorem OX {op op':CmpOp} {r r':R2} (ho:Eh X (compareOp op) r) (ho':Eh X (compareOp op') r') (ha:PE X a ta) (hb:PE X b tb) (hc:PE X c tc)
  (hm:lastMarks [op,op'] [b,c]=false:=by with_unfolding_all rfl):PE X (.Compare a [op,op'] [b,c] pos) (Rj r r' ta tb tc):=by
 intro pins s σ H Q I h
 refine Compare_chain (AS (ha pins s σ H _ I h) fun v s1 ⟨x,H1,I1,r1,q1⟩=>chain_link (AS (hb pins s1 σ H1 _ I1 q1) fun u s2 ⟨y,H2,I2,r2,q2⟩=>
  AS (ho pins s2 σ H2 x y v u _ I2 r1 r2 q2) fun d s3 ⟨z,H3,I3,r3,k,e,q3⟩=>?_)) hm
 subst e
 cases r3
 refine wpAny_truthy_bool ?_
 cases k with
 | false=>exact ite_ff ⟨.bl false,H3,I3,rfl,q3⟩
 | true=>exact ite_tt (chain_last (AS (hc pins s3 σ H3 _ I3 q3) fun w' s4 ⟨z',H4,I4,r4,q4⟩=>ho' pins s4 σ H4 y z' u w' Q I4 r2 r4 q4))
def So (K:PySem.W.Frag) (x:V) (H:Hp) (k:Bool):Prop:=
 match x with
 | .non=>k=false
 | .bl b=>k=b
 | .int i=>k=(i != 0)
 | .str y=>y.length≤sizeLine∧k=((y.length:Int) != 0)
 | .byt y=>y.size≤sizeLine∧k=((y.size:Int) != 0)
 | .ref p=>(∃xs,SqL K H p xs∧k = !xs.isEmpty)∨(∃xs,SqT K H p xs∧k = !xs.isEmpty)∨∃kvs,H p=some (.dK kvs)∧k = !kvs.isEmpty
 | _=>False
theorem KT {κ:Type} {kvs:List (κ×V)} {vs:List (κ×Value)} (r:KV kvs vs):(!vs.isEmpty) = !kvs.isEmpty:=by
 cases r<;>rfl
theorem GC {xs:List V} {its:List Value} (r:Vals xs its):(!its.toArray.isEmpty) = !xs.isEmpty:=by
 cases r<;>simp
theorem IY:(sizeLine:Nat)<2^63:=by rw[sizeLine_eq];decide
theorem R4:TB X (fun x H Q=>∃k,So X.K x H k∧Q k H):=by
 intro pins s σ H x v Q I rx h
 obtain⟨k,e,q⟩:=h
 have hl:=IY
 have hs:sizeLine=16777216:=sizeLine_eq
 cases x with
 | non=>
  cases rx
  have e':k=false:=e
  subst e'
  exact truthy_none ⟨H,I,q⟩
 | bl b=>
  cases rx
  have e':k=b:=e
  subst e'
  exact wpAny_truthy_bool ⟨H,I,q⟩
 | int i=>
  obtain⟨t,rfl⟩:=rx
  have e':k=(i != 0):=e
  subst e'
  exact PySem.P.truthy_int ⟨H,I,q⟩
 | str y=>
  obtain⟨t,rfl⟩:=rx
  obtain⟨hy,e'⟩:y.length≤sizeLine∧k=((y.length:Int) != 0):=e
  subst e'
  exact PySem.P.truthy_str (by omega) ⟨H,I.tok _,q⟩
 | byt y=>
  obtain⟨t,rfl⟩:=rx
  obtain⟨hy,e'⟩:y.size≤sizeLine∧k=((y.size:Int) != 0):=e
  subst e'
  exact PySem.W.truthy_bytes (by omega) ⟨H,I.tok _,q⟩
 | ref p=>
  cases rx
  have e':(∃xs,SqL X.K H p xs∧k = !xs.isEmpty)∨(∃xs,SqT X.K H p xs∧k = !xs.isEmpty)∨∃kvs,H p=some (.dK kvs)∧k = !kvs.isEmpty:=e
  rcases e' with⟨xs,hx,e'⟩|⟨xs,hx,e'⟩|⟨kvs,hx,e'⟩
  ·subst e'
   obtain⟨its,r,pl,hz⟩:=I.list hx
   have hlen:=r.length
   exact wpAny_truthy_list pl.isList (by simp only[List.size_toArray];omega) ⟨H,I.tok _,by rw[GC r];exact q⟩
  ·subst e'
   obtain⟨its,r,pl,hz⟩:=I.tuple hx
   have hlen:=r.length
   exact truthy_tuple pl (by simp only[List.size_toArray];omega) ⟨H,I.tok _,by rw[GC r];exact q⟩
  ·subst e'
   obtain⟨hz,hS,vs,r,m⟩:kvs.length≤sizeLine∧(p == sysModules)=false∧∃vs,KV kvs vs∧s.heap.DictOf (IR X.prog X.w) p vs:=I.hok p _ hx
   have hlen:kvs.length=vs.length:=Paired.length r
   exact wpAny_truthy_dict hS m (by omega) ⟨H,I.tok _,by rw[KT r];exact q⟩
 | _=>exact (show False from e).elim
theorem Ev (ha:PE X a ta) (he:∀whole,isTrue a X.env whole=(do let v ←whole;standAt a.pos;holding [v] (truthy v))) :
  PT X a (fun σ H Q=>ta σ H fun x H'=>∃k,So X.K x H' k∧Q k H'):=by
 intro pins s σ H Q I h
 exact isTrue_plain (AS (ha pins s σ H _ I h) fun v s1 ⟨x,H1,I1,r1,q1⟩=>R4 pins s1 σ H1 x v Q I1 r1 q1) (he _)
theorem DG {x:V} {us:List Value} (r:Vals [x] us):∃u,us=[u]∧RelV x u:=by
 cases r with
 | cons r1 r2=>cases r2;exact⟨_,rfl,r1⟩
theorem Oc {x y:V} {us:List Value} (r:Vals [x,y] us):∃u w',us=[u,w']∧RelV x u∧RelV y w':=by
 cases r with
 | cons r1 r2=>
  cases r2 with
  | cons r3 r4=>cases r4;exact⟨_,_,rfl,r1,r3⟩
theorem Pd:BT X (.builtin "abs") (fun xs H Q=>∃i,xs=[.int i]∧Q (.int (if i<0 then -i else i)) H):=by
 intro pins s σ H xs us Q I r h
 obtain⟨i,rfl,q⟩:=h
 obtain⟨u,rfl,t,rfl⟩:=DG r
 exact call_abs_int fun u tk=>⟨.int (if i<0 then -i else i),H,I.tok _,⟨_,rfl⟩,q⟩
theorem L7 (hc:X.calm=true):BT X (.builtin "min") (fun xs H Q=>∃i j,xs=[.int i,.int j]∧Q (.int (if j<i then j else i)) H):=by
 intro pins s σ H xs us Q I r h
 obtain⟨i,j,rfl,q⟩:=h
 obtain⟨u,w',rfl,⟨t,rfl⟩,⟨t',rfl⟩⟩:=Oc r
 refine min_two_ints (I.ok.hd hc) fun h' tk k=>⟨_,H,I.kept k,?_,q⟩
 by_cases hj:j<i
 ·rw[if_pos hj,if_pos hj];exact⟨_,rfl⟩
 ·rw[if_neg hj,if_neg hj];exact⟨_,rfl⟩
end
end L2
namespace L2
open PySem PySem.Spec PyProof.Rows
structure ObjM (h:Heap) (x dx C:Addr) (mA:Str→Option Value):Prop where
 obj:h.get? x=some (PySem.W.instObj C dx)
 ns:h.Ns1 dx mA
 ne:dx≠x
theorem M8 {h:Heap} {dx:Addr} {mA:Str→Option Value} (n:h.Ns1 dx mA):∃od,h.get? dx=some od∧∀name,PySem.W.lookIn name od=some (mA name):=by
 obtain⟨o,es,ep,ho,hd,hk,_,hm⟩:=n
 refine⟨o,ho,fun name=>?_⟩
 have e:=hm name
 unfold nsFind findBy at e
 rw[←Array.find?_toList] at e
 unfold PySem.W.lookIn
 rw[hd]
 dsimp only
 split
 ·rename_i y q
  rw[q] at e
  exact congrArg some e
 ·rename_i q
  rw[q] at e
  have a:es.toList.any (·.refKey)=false:=by
   rw[List.any_eq_false]
   intro y hy
   obtain⟨z,t,hkey⟩:=hk y (Array.mem_toList_iff.mp hy)
   simp[DictEntry.refKey,hkey]
  have a':¬es.toList.any (·.refKey)=true:=by rw[a];exact Bool.false_ne_true
  rw[if_neg a']
  exact congrArg some e
theorem ObjM.look {h:Heap} {x dx C:Addr} {mA:Str→Option Value} (I:ObjM h x dx C mA):∃od,PySem.W.InstAt h x (PySem.W.instObj C dx) C (some od)∧∀name,PySem.W.lookIn name od=some (mA name):=
 let ⟨od,ho,hl⟩:=M8 I.ns
 ⟨od,⟨I.obj,rfl,rfl,ho⟩,hl⟩
section
variable {prog:Program} {w:World} {A:Around} {E:Value→Shared→Prop} {s:Shared} {K:PySem.W.Frag} {x dx C f:Addr} {mA:Str→Option Value} {name:Str} {v:Value}
theorem P6 {expr:Bool} {Q:Value→Shared→Prop} (X:K.In s.heap) (I:ObjM s.heap x dx C mA) (hg:PySem.W.plainGet K C name=true) (hh:PySem.W.hasDictIn K C=true)
  (ha:PySem.W.findIn K (.ref C) name=some none) (hv:mA name=some v) (hv':PySem.W.handedIn v=true) (h:Q v { s with toks:=s.toks+1 }) :
  wpAny (model prog w) A (getAttr (.ref x) name expr) Q E s:=by
 obtain⟨od,J,hl⟩:=I.look
 exact PySem.W.get_value X J (PySem.W.plainGet_of hg).1 (PySem.W.findObj_own hh ha rfl (by rw[hl,hv])) hv' h
theorem NY {pl:Sem Bool} {Q:Value×List Value→Shared→Prop} (X:K.In s.heap) (I:ObjM s.heap x dx C mA) (hg:PySem.W.plainGet K C name=true)
  (hf:PySem.W.findIn K (.ref C) name=some (some (.ref f))) (ht:PySem.W.isFn K (.ref f)=true) (hv:mA name=none) (h:Q (.ref f,[.ref x]) s) :
  wpAny (model prog w) A (getMethod (.ref x) name pl) Q E s:=by
 obtain⟨od,J,hl⟩:=I.look
 exact PySem.W.method_fn X J (PySem.W.plainGet_of hg).1 (PySem.W.plainGet_of hg).2 hf (beq_iff_eq.mp ht) (by show (PySem.W.lookIn name od).map (·.isSome)=some false;rw[hl,hv];rfl) h
theorem QT {ns:List Str} {Q:Unit→Shared→Prop} (X:K.In s.heap) (I:ObjM s.heap x dx C mA)
  (hs:PySem.W.findIn K (.ref C) "__setattr__"=some (some (.builtin "object.__setattr__"))) (hp:PySem.W.plainOver K C=true) (ht:PySem.W.takerIn K C name=some none) (hh:PySem.W.hasDictIn K C=true)
  (hw:PySem.Within mA ns) (hsz:ns.length≤sizeLine)
  (h:∀h',ObjM h' x dx C (fun y=>if y=name then some v else mA y)→Heap.SameBut dx s.heap h'→Q () { s with heap:=h',toks:=s.toks+2 }) :
  wpAny (model prog w) A (setAttr (.ref x) name v) Q E s:=by
 obtain⟨od,J,hl⟩:=I.look
 refine PySem.W.set_plain X J hs (PySem.W.osa_open (s:={ s with toks:=s.toks+1 }) (r:=none) X J hp ht fun b=>?_)
 obtain⟨cd,hc,hd'⟩:=PySem.W.any_some hh
 have hx:s.heap.get? x=some ⟨.ref C,some dx,.plain,#[]⟩:=I.obj
 refine wpAny_bind (wpAny_pure (wpAny_bind (wpAny_bind (wpAny_loadPart hx (wpAny_bind (PySem.W.Looks.here (s:={ s with toks:=s.toks+1 }) (PySem.W.looks_clsIn X hc) ?_))))))
 rw[hd']
 refine wpAny_pure (a:=some dx) (wpAny_bind (wpAny_pure (wpAny_bind ?_)))
 refine wpAny_nsSet1 (s:={ s with toks:=s.toks+1 }) I.ns fun h' hn2 hs2=>?_
 obtain⟨oD,esD,epD,hoD,hdD,hcD⟩:=hn2.count (PySem.Within.cons name v hw)
 refine wpAny_bind (wpAny_lookBehind hoD (by rw[hdD];exact pastItsLine_dict (Nat.le_trans hcD (by rw[List.length_cons];omega))) ?_)
 exact wpAny_pure (h _ ⟨(hs2.2 _ (Ne.symm I.ne)).trans I.obj,hn2,I.ne⟩ hs2)
theorem N0 {R:Result→Shared→Prop} {vs:List Value} {kw:List (Str×Value)} (X:K.In s.heap) (hm:PySem.W.makesIn K C=true)
  (hi:PySem.W.findIn K (.ref C) "__init__"=some (some (.ref f))) (hf:PySem.W.typeIn K (.ref f)=some (.type "function"))
  (h:codeAny (model prog w) (A.under (.builtin "type.__call__" ⟨.ref C::vs,kw⟩)) (.call (.ref f) ⟨.ref (s.heap.objs.size+1)::vs,kw⟩) (PySem.W.InitBack (s.heap.objs.size+1) R)
   { s with heap:=(s.heap.push PySem.W.emptyDict).push (PySem.W.instObj C s.heap.objs.size) }) :
  codeAny (model prog w) A (.call (.ref C) ⟨vs,kw⟩) R s:=by
 obtain⟨hh,g,d,t,os⟩:=s
 exact PySem.W.make_core (PySem.W.makes_of X hm) (PySem.W.looks_findIn X hi) (fun self=>PySem.W.bind_fn X self hf) (.inl rfl) h
end
def BD (f:Str) (v:V):List (Str×V)→List (Str×V)
 | []=>[(f,v)]
 | (g,x)::r=>if g=f then (g,v)::r else (g,x)::BD f v r
theorem FL (f g:Str) (v:V):∀fs:List (Str×V),(BD f v fs).lookup g=if g=f then some v else fs.lookup g
 | []=>by
  show List.lookup g [(f,v)]=_
  by_cases h:g=f
  ·have hb:(g == f)=true:=beq_iff_eq.mpr h
   simp only[List.lookup,hb,if_pos h]
  ·have hb:(g == f)=false:=beq_eq_false_iff_ne.mpr h
   simp only[List.lookup,hb,if_neg h]
 | (k,x)::r=>by
  have ih:=FL f g v r
  rw[show BD f v ((k,x)::r)=(if k=f then (k,v)::r else (k,x)::BD f v r) from rfl]
  by_cases hk:k=f
  ·rw[if_pos hk]
   by_cases h:g=k
   ·have hb:(g == k)=true:=beq_iff_eq.mpr h
    simp only[List.lookup,hb,if_pos (h.trans hk)]
   ·have hb:(g == k)=false:=beq_eq_false_iff_ne.mpr h
    simp only[List.lookup,hb,if_neg (fun e:g=f=>h (e.trans hk.symm))]
  ·rw[if_neg hk]
   by_cases h:g=k
   ·have hb:(g == k)=true:=beq_iff_eq.mpr h
    simp only[List.lookup,hb,if_neg (fun e:g=f=>hk (h.symm.trans e))]
   ·have hb:(g == k)=false:=beq_eq_false_iff_ne.mpr h
    simp only[List.lookup,hb]
    exact ih
theorem FD (f:Str) (v:V):∀fs:List (Str×V),f∈(BD f v fs).map (·.1)∧∀g,g∈fs.map (·.1)→g∈(BD f v fs).map (·.1)
 | []=>⟨by simp[BD],fun g h=>by simp at h⟩
 | (k,x)::r=>by
  obtain⟨i1,i2⟩:=FD f v r
  rw[show BD f v ((k,x)::r)=(if k=f then (k,v)::r else (k,x)::BD f v r) from rfl]
  by_cases hk:k=f
  ·rw[if_pos hk]
   subst hk
   exact⟨by simp,fun g h=>by simpa using h⟩
  ·rw[if_neg hk]
   refine⟨?_,fun g h=>?_⟩
   ·rw[List.map_cons]
    exact List.mem_cons_of_mem _ i1
   ·rw[List.map_cons] at h ⊢
    rcases List.mem_cons.mp h with e | e
    ·exact List.mem_cons.mpr (.inl e)
    ·exact List.mem_cons_of_mem _ (i2 g e)
theorem FO (f:Str) (v:V):∀fs:List (Str×V),(BD f v fs).length≤fs.length+1
 | []=>by simp[BD]
 | (k,x)::r=>by
  have ih:=FO f v r
  rw[show BD f v ((k,x)::r)=(if k=f then (k,v)::r else (k,x)::BD f v r) from rfl]
  by_cases hk:k=f
  ·rw[if_pos hk,List.length_cons,List.length_cons];omega
  ·rw[if_neg hk,List.length_cons,List.length_cons];omega
theorem RelO.some_of {v:V} {o:Option Value} (r:RelO (some v) o):∃u,o=some u∧RelV v u:=by
 cases o with
 | none=>exact (show False from r).elim
 | some u=>exact⟨u,rfl,r⟩
theorem RelO.none_of {o:Option Value} (r:RelO none o):o=none:=by
 cases o with
 | none=>rfl
 | some u=>exact (show False from r).elim
theorem MQ {v:V} {u:Value} (r:RelV v u):PySem.W.handedIn u=true:=by
 cases v with
 | non=>cases (show u=Value.none from r);rfl
 | bl b=>cases (show u=Value.bool b from r);rfl
 | int i=>obtain⟨t,e⟩:=(show ∃t,u=Value.int i t from r);cases e;rfl
 | str x=>obtain⟨t,e⟩:=(show ∃t,u=Value.str x t from r);cases e;rfl
 | byt b=>obtain⟨t,e⟩:=(show ∃t,u=Value.bytes b t from r);cases e;rfl
 | flt b=>obtain⟨t,e⟩:=(show ∃t,u=Value.float b t from r);cases e;rfl
 | ref a=>cases (show u=Value.ref a from r);rfl
 | ty n=>cases (show u=Value.type n from r);rfl
section
variable {P:Program} {w:World} {H H':Hp} {h h':Heap} {a C dx:Addr} {fs fs':List (Str×V)}
theorem F0 (hok:HOk P w H h) (e:H a=some (.ins C dx fs)):∃mA,ObjM h a dx C mA∧(∀f,RelO (fs.lookup f) (mA f))∧PySem.Within mA (fs.map (·.1))∧fs.length≤1000∧H dx=some (.own a):=by
 obtain⟨d,z,ne,ob,mA,n,r,q⟩:=(show ObjOk P w H h a (.ins C dx fs) from hok a _ e)
 exact⟨mA,⟨ob,n,ne⟩,r,q,z,d⟩
end
structure Cls (K:PySem.W.Frag) (C:Addr):Prop where
 pg:PySem.W.plainGet K C Str.empty=true
 hd:PySem.W.hasDictIn K C=true
 po:PySem.W.plainOver K C=true
 sa:PySem.W.findIn K (.ref C) "__setattr__"=some (some (.builtin "object.__setattr__"))
theorem Cls.get {K:PySem.W.Frag} {C:Addr} (c:Cls K C) (f:Str):PySem.W.plainGet K C f=true:=c.pg
def NoAttr (K:PySem.W.Frag) (C:Addr) (f:Str):Prop:=PySem.W.findIn K (.ref C) f=some none
theorem NoAttr.taker {K:PySem.W.Frag} {C:Addr} {f:Str} (n:NoAttr K C f):PySem.W.takerIn K C f=some none:=by
 unfold PySem.W.takerIn
 rw[show PySem.W.findIn K (.ref C) f=some none from n]
 rfl
structure QO (K:PySem.W.Frag) (C:Addr) (m:Str) (f:Addr):Prop where
 at_:PySem.W.findIn K (.ref C) m=some (some (.ref f))
 fn:PySem.W.isFn K (.ref f)=true
 kp:PySem.W.keepIn K (.ref f)=true
section
variable {X:Cx} {pins:List (Addr×Obj)} {σ:St} {H:Hp} {s:Shared} {a C dx:Addr} {fs:List (Str×V)} {f:Str} {v:V} {A:Around} {E:Value→Shared→Prop}
theorem Ko {b:Bool} {Q:Value→Shared→Prop} (I:Inv X pins σ H s) (e:H a=some (.ins C dx fs)) (c:Cls X.K C) (n:NoAttr X.K C f) (l:fs.lookup f=some v)
  (h:∀u s',Inv X pins σ H s'→RelV v u→Q u s'):wpAny (model X.prog X.w) A (getAttr (.ref a) f b) Q E s:=by
 obtain⟨mA,O,r,_,_,_⟩:=F0 I.hok e
 obtain⟨u,hu,ru⟩:=RelO.some_of (v:=v) (o:=mA f) (by rw[←l];exact r f)
 exact P6 I.kIn O (c.get f) c.hd n hu (MQ ru) (h u _ (I.tok _) ru)
theorem Hb {m:Str} {g:Addr} {pl:Sem Bool} {Q:Value×List Value→Shared→Prop} (I:Inv X pins σ H s) (e:H a=some (.ins C dx fs)) (c:Cls X.K C) (k:QO X.K C m g) (l:fs.lookup m=none)
  (h:Q (.ref g,[.ref a]) s):wpAny (model X.prog X.w) A (getMethod (.ref a) m pl) Q E s:=by
 obtain⟨mA,O,r,_,_,_⟩:=F0 I.hok e
 have hn:mA m=none:=RelO.none_of (by rw[←l];exact r m)
 exact NY I.kIn O (c.get m) k.at_ k.fn hn h
theorem KB {y:V} {u:Value} {Q:Unit→Shared→Prop} (I:Inv X pins σ H s) (e:H a=some (.ins C dx fs)) (c:Cls X.K C) (n:NoAttr X.K C f) (hl:fs.length<1000) (ry:RelV y u)
  (h:∀s',Inv X pins σ (upd H a (.ins C dx (BD f y fs))) s'→Q () s'):wpAny (model X.prog X.w) A (setAttr (.ref a) f u) Q E s:=by
 obtain⟨mA,O,r,wi,_,ho⟩:=F0 I.hok e
 have hz:(fs.map (·.1)).length≤sizeLine:=by rw[List.length_map,sizeLine_eq];omega
 refine QT I.kIn O c.sa c.po n.taker c.hd wi hz fun h' O' sb=>h _ ?_
 have hd:∃o,h'.get? dx=some o:=let ⟨o,_,_,e',_⟩:=O'.ns;⟨o,e'⟩
 refine I.write (x:=a) (e:=dx) (by rw[e];exact True.intro) (.inr ho) (fun b q hb z=>(sb.2 b hb).trans z) hd ?_
 refine⟨by rw[Ax O.ne];exact ho,?_,O.ne,O'.obj,_,O'.ns,fun g=>?_,fun g hg=>?_⟩
 ·have:=FO f y fs;omega
 ·show RelO ((BD f y fs).lookup g) (if g=f then some u else mA g)
  rw[FL]
  by_cases q:g=f
  ·rw[if_pos q,if_pos q];exact ry
  ·rw[if_neg q,if_neg q];exact r g
 ·by_cases q:g=f
  ·rw[q];exact (FD f y fs).1
  ·refine (FD f y fs).2 g (wi g fun z=>hg ?_)
   show (if g=f then some u else mA g)=none
   rw[if_neg q];exact z
theorem Inv.made (I:Inv X pins σ H s):Inv X pins σ (upd (upd H s.heap.objs.size (.own (s.heap.objs.size+1))) (s.heap.objs.size+1) (.ins C s.heap.objs.size []))
  { s with heap:=(s.heap.push PySem.W.emptyDict).push (PySem.W.instObj C s.heap.objs.size) }:=by
 have e1:(s.heap.push PySem.W.emptyDict).get? s.heap.objs.size=some PySem.W.emptyDict:=Heap.get?_push_size s.heap rfl
 have e2:((s.heap.push PySem.W.emptyDict).push (PySem.W.instObj C s.heap.objs.size)).get? (s.heap.objs.size+1)=some (PySem.W.instObj C s.heap.objs.size):=by
  have:=Heap.get?_push_size (s.heap.push PySem.W.emptyDict) (o:=PySem.W.instObj C s.heap.objs.size) rfl
  rwa [Heap.size_push] at this
 have e3:(s.heap.push PySem.W.emptyDict).Ns s.heap.objs.size (fun _=>none):=⟨PySem.W.emptyDict,#[],_,e1,rfl,(fun e he=>absurd he (by simp)),fun _=>rfl⟩
 have I1:=I.laid (a:=s.heap.objs.size) (o:=.own (s.heap.objs.size+1)) (h':=s.heap.push PySem.W.emptyDict) (t':=s.toks) (fun b u q=>Heap.get?_push_of_some _ q) (Nat.le_refl _) ⟨_,e1⟩
 refine I1.laid (a:=s.heap.objs.size+1) (o:=.ins C s.heap.objs.size []) (t':=s.toks) (fun b u q=>Heap.get?_push_of_some _ q) (Nat.le_of_eq (Heap.size_push _ _)) ?_
 have ne:s.heap.objs.size≠s.heap.objs.size+1:=Nat.ne_of_lt (Nat.lt_succ_self _)
 refine⟨by rw[Ax ne,upd_same],Nat.zero_le _,ne,e2,fun _=>none,(Heap.Ns1.of_empty e3).at fun o q=>Heap.get?_push_of_some _ q,fun _=>True.intro,fun y hy=>absurd rfl hy⟩
theorem Qh {prog:Program} {w:World} {env:Env} {e:Expr} {f:Str} {pos:Pos} {s:Shared} {Q:Value→Shared→Prop} (hb:attributeBase e f env (eval e env)=eval e env)
  (h:wpAny (model prog w) A (eval e env) (fun o s₁=>wpAny (model prog w) A (getAttr o f true) Q E s₁) E s):wpAny (model prog w) A (eval (.Attribute e f pos) env) Q E s:=
 Attribute_any_ h (by rw[arm_eval_Attribute,hb])
end
def Ty (K:PySem.W.Frag) (ta:TE) (f:Str):TE:=fun σ H Q=>ta σ H fun x H1=>∃a C dx fs v,x= .ref a∧H1 a=some (.ins C dx fs)∧Cls K C∧NoAttr K C f∧fs.lookup f=some v∧Q v H1
def TC (K:PySem.W.Frag) (ta tv:TE) (f:Str):TS:=fun D σ H=>tv σ H fun y H1=>ta σ H1 fun x H2=>∃a C dx fs,x= .ref a∧H2 a=some (.ins C dx fs)∧Cls K C∧NoAttr K C f∧fs.length<1000∧
 D.nx σ (upd H2 a (.ins C dx (BD f y fs)))
section
variable {X:Cx} {o e value:Expr} {f:Str} {pos pos' tpos:Pos} {ta tv:TE}
theorem A1 (he:PE X e ta) (hb:attributeBase e f X.env (eval e X.env)=eval e X.env):PE X (.Attribute e f pos) (Ty X.K ta f):=by
 intro pins s σ H Q I h
 refine Qh hb (AS (he pins s σ H _ I h) fun u s1 ⟨x,H1,I1,rx,a,C,dx,fs,v,ex,ea,c,n,l,q⟩=>?_)
 subst ex
 obtain rfl:u=Value.ref a:=rx
 exact Ko I1 ea c n l fun u' s2 I2 ru=>⟨v,H1,I2,ru,q⟩
theorem BX (ha:PE X o ta) (hv:PE X value tv) (hs:swapsWith value (some (.Attribute o f pos')) pos.line X.env=pure false):PS X (.Assign [.Attribute o f pos'] value pos) (TC X.K ta tv f):=by
 intro pins s σ H D I h
 refine plainObj_wpAny_Assign_Attribute (AS (hv pins s σ H _ I h) fun u s1 ⟨y,H1,I1,ry,q⟩=>AS (ha pins s1 σ H1 _ I1 q) fun ov s2 ⟨x,H2,I2,rx,a,C,dx,fs,ex,ea,c,n,l,q2⟩=>?_) hs
 subst ex
 obtain rfl:ov=Value.ref a:=rx
 exact KB I2 ea c n l ry fun s3 I3=>⟨σ,_,I3,q2⟩
end
section
variable {X:Cx} {pins:List (Addr×Obj)} {σ:St} {H:Hp} {s:Shared} {A:Around} {E:Value→Shared→Prop} {Q:Value→Shared→Prop} {c:Value} {b:Bool}
inductive ES (K:PySem.W.Frag) (H:Hp):V→Value→Prop where
 | non:ES K H .non (.type "NoneType")
 | bl (x:Bool):ES K H (.bl x) (.type "bool")
 | int (i:Int):ES K H (.int i) (.type "int")
 | str (x:Str):ES K H (.str x) (.type "str")
 | flt (x:UInt64):ES K H (.flt x) (.type "float")
 | lst {a:Addr} {xs:List V} (e:H a=some (.lst xs)):ES K H (.ref a) (.type "list")
 | frz {a:Addr} {o:Obj} {xs:List V} (e:H a=some (.frz o (.lst xs))):ES K H (.ref a) (.type "list")
 | tup {a:Addr} {xs:List V} (e:H a=some (.tup xs)):ES K H (.ref a) (.type "tuple")
 | dK {a:Addr} {kvs:List (Ji×V)} (e:H a=some (.dK kvs)):ES K H (.ref a) (.type "dict")
 | dT {a:Addr} {kvs:List (List Ji×V)} (e:H a=some (.dT kvs)):ES K H (.ref a) (.type "dict")
 | ins {a C dx:Addr} {fs:List (Str×V)} (e:H a=some (.ins C dx fs)) (cl:Cls K C) (ha:PySem.W.findIn K (.ref C) "__class__"=some (some (.builtin "object.__class__")))
   (hn:PySem.W.specialIn K (.builtin "object.__class__") "__get__"=some (some (.builtin "getset_descriptor.__get__"))) (htk:PySem.W.takesIn K (.builtin "object.__class__")=some true)
   (hm:PySem.W.mroIn K C (.type "object")=some true):ES K H (.ref a) (.ref C)
theorem HV {x:V} {u t:Value} (I:Inv X pins σ H s) (rx:RelV x u) (ty:ES X.K H x t) (e:PySem.W.kitOne X.K t c=some b) (h:∀tk,Q (.bool b) { s with toks:=tk }) :
  wpAny (model X.prog X.w) A (call (.builtin "isinstance") [u,c]) Q E s:=by
 cases ty with
 | non=>cases (show u=Value.none from rx);exact PySem.W.kia_one PySem.W.kitx_none I.kIn True.intro e (fun z=>nomatch z) h
 | bl y=>cases (show u=Value.bool y from rx);exact PySem.W.kia_one PySem.W.kitx_bool I.kIn True.intro e (fun z=>nomatch z) h
 | int i=>obtain⟨t,q⟩:=(show ∃t,u=Value.int i t from rx);cases q;exact PySem.W.kia_one PySem.W.kitx_int I.kIn True.intro e (fun z=>nomatch z) h
 | str y=>obtain⟨t,q⟩:=(show ∃t,u=Value.str y t from rx);cases q;exact PySem.W.kia_one PySem.W.kitx_str I.kIn True.intro e (fun z=>nomatch z) h
 | flt y=>obtain⟨t,q⟩:=(show ∃t,u=Value.float y t from rx);cases q;exact PySem.W.kia_one PySem.W.kitx_float I.kIn True.intro e (fun z=>nomatch z) h
 | @lst a xs ea=>
  cases (show u=Value.ref a from rx)
  obtain⟨_,_,n,_,h1⟩:=(show ObjOk X.prog X.w H s.heap a (.lst xs) from I.hok a _ ea)
  exact PySem.W.kia_one PySem.W.kitx_list I.kIn ⟨_,h1,rfl⟩ e (fun z=>nomatch z) h
 | @frz a ob xs ea=>
  cases (show u=Value.ref a from rx)
  obtain⟨_,_,_,n,_,h1⟩:=(show ObjOk X.prog X.w H s.heap a (.frz ob (.lst xs)) from I.hok a _ ea)
  exact PySem.W.kia_one PySem.W.kitx_list I.kIn ⟨_,h1,rfl⟩ e (fun z=>nomatch z) h
 | @tup a xs ea=>
  cases (show u=Value.ref a from rx)
  obtain⟨_,_,_,p⟩:=(show ObjOk X.prog X.w H s.heap a (.tup xs) from I.hok a _ ea)
  obtain⟨o,h1,h2,_⟩:=p
  exact PySem.W.kia_one PySem.W.kitx_tuple I.kIn ⟨o,h1,h2⟩ e (fun z=>nomatch z) h
 | @dK a kvs ea=>
  cases (show u=Value.ref a from rx)
  obtain⟨_,_,vs,_,p⟩:=(show ObjOk X.prog X.w H s.heap a (.dK kvs) from I.hok a _ ea)
  obtain⟨o,es,ep,h1,h2,_⟩:=p
  exact PySem.W.kia_one PySem.W.kitx_dict I.kIn ⟨o,h1,h2.1⟩ e (fun z=>nomatch z) h
 | @dT a kvs ea=>
  cases (show u=Value.ref a from rx)
  obtain⟨_,_,xs,_,o,es,ep,h1,h2,_⟩:=(show ObjOk X.prog X.w H s.heap a (.dT kvs) from I.hok a _ ea)
  exact PySem.W.kia_one PySem.W.kitx_dict I.kIn ⟨o,h1,h2.1⟩ e (fun z=>nomatch z) h
 | @ins a C dx fs ea cl ha hn htk hm=>
  cases (show u=Value.ref a from rx)
  obtain⟨mA,O,_⟩:=F0 I.hok ea
  obtain⟨od,J,_⟩:=O.look
  exact PySem.W.kia_one (PySem.W.kitx_own (cl.get _) cl.hd ha hn htk hm) I.kIn J e (fun z=>nomatch z) h
end
end L2
namespace L2
open PySem PySem.Spec PyProof.Rows
structure Room (k:Nat) (A:Around):Prop where
 hd:A.handled=none
 dp:A.depth+3*k+5<recursionLimit
 un:A.units+16*k+200<cLine
theorem Room.mono {j k:Nat} {A:Around} (r:Room k A) (h:j≤k):Room j A:=⟨r.hd,by have:=r.dp;omega,by have:=r.un;omega⟩
theorem Room.deeper {k:Nat} {A:Around} (r:Room (k+1) A) (env:Env):Room k (A.deeper env):=
 ⟨r.hd,by have:=r.dp;show A.depth+1+3*k+5<_;omega,by have:=r.un;show A.units+3+16*k+200<_;omega⟩
theorem KE {A:Around} {C:Addr} {us:List Value} {kw:List (Str×Value)}:(A.under (.builtin "type.__call__" ⟨.ref C::us,kw⟩)).depth=A.depth+1:=by
 first | rfl | simp[Around.under,Code.weight,Code.isCreation,Code.isGuard,Code.isCaller,Code.frames,Code.isFrame,guardIds]
theorem KW {A:Around} {C:Addr} {us:List Value} {kw:List (Str×Value)}:(A.under (.builtin "type.__call__" ⟨.ref C::us,kw⟩)).units=A.units+1:=by
 first | rfl | simp[Around.under,Code.cUnits,Code.frames,Code.isFrame]
theorem Room.make {k:Nat} {A:Around} (r:Room (k+1) A) (C:Addr) (us:List Value) (kw:List (Str×Value)):Room k (A.under (.builtin "type.__call__" ⟨.ref C::us,kw⟩)):=
 ⟨r.hd,by have:=r.dp;rw[KE];omega,by have:=r.un;rw[KW];omega⟩
theorem Room.depth {k:Nat} {A:Around} (r:Room k A):A.depth<recursionLimit:=by have:=r.dp;omega
theorem Room.units0 {k:Nat} {A:Around} (r:Room k A):A.units<cLine:=by have:=r.un;omega
def Rt:TA:=fun _ H Q=>Q [] H
def SD (ta:TE) (tr:TA):TA:=fun σ H Q=>ta σ H fun x H1=>tr σ H1 fun xs H2=>Q (x::xs) H2
section
variable {X:Cx} {e:Expr} {es:List Expr} {te:TE} {t:TA} {pos:Pos}
theorem Ab:PA X [] Rt:=fun _ _ _ _ H Q I h=>Calls.spliced_nil ⟨[],H,I,.nil,h⟩
theorem Aa (ha:PE X e te) (hr:PA X es t) (hs:starEach (e::es) X.env=(false,eval e X.env)::starEach es X.env:=by rfl):PA X (e::es) (SD te t):=by
 intro pos pins s σ H Q I h
 rw[hs]
 show wpAny _ _ (spliced ((false,eval e X.env)::backTo pos (starEach es X.env))) _ _ s
 refine Calls.spliced_cons (AS (ha pins s σ H _ I h) fun u s1 ⟨x,H1,I1,r1,q1⟩=>?_)
 exact AS (hr pos pins s1 σ H1 _ I1 q1) fun us s2 ⟨xs,H2,I2,r2,q2⟩=>⟨x::xs,H2,I2,.cons r1 r2,q2⟩
def S5 (t:TA):TE:=fun σ H Q=>t σ H fun xs H1=>xs.length≤sizeLine∧∀p,H1 p=none→Q (.ref p) (upd H1 p (.tup xs))
def Tg (t:TA):TE:=fun σ H Q=>t σ H fun xs H1=>xs.length≤sizeLine∧∀p,H1 p=none→Q (.ref p) (upd H1 p (.lst xs))
theorem AU {x1} (h:PA X es t):PE X (.Tuple es x1 pos) (S5 t):=by
 intro pins s σ H Q I hq
 refine wpAny_Tuple_spliced (AS (h pos pins s σ H _ I hq) fun us s1 ⟨xs,H1,I1,r,z,q⟩=>⟨by rw[←r.length];exact z,?_⟩)
 have hf:H1 s1.heap.objs.size=none:=I1.hok.fresh (Nat.le_refl _)
 refine⟨.ref s1.heap.objs.size,upd H1 s1.heap.objs.size (.tup xs),I1.laid (t':=s1.toks) (fun b u e=>Heap.get?_push_of_some _ e) (Nat.le_refl _) ?_,rfl,q _ hf⟩
 exact⟨z,us,r,⟨_,Heap.get?_push_size _ rfl,rfl,_,rfl⟩⟩
theorem AJ (h:PA X es t):PE X (.List es pos) (Tg t):=by
 intro pins s σ H Q I hq
 refine wpAny_List_spliced (AS (h pos pins s σ H _ I hq) fun us s1 ⟨xs,H1,I1,r,z,q⟩=>⟨by rw[←r.length];exact z,?_⟩)
 have hf:H1 s1.heap.objs.size=none:=I1.hok.fresh (Nat.le_refl _)
 refine⟨.ref s1.heap.objs.size,upd H1 s1.heap.objs.size (.lst xs),I1.laid (t':=s1.toks) (fun b u e=>Heap.get?_push_of_some _ e) (Nat.le_refl _) ?_,rfl,q _ hf⟩
 exact⟨z,us,0,r,Heap.get?_push_size _ rfl⟩
end
abbrev Sp:=List V→Hp→VK→XK→Prop
abbrev Lf:=List Env→Hp→Shared→XK→Value→Shared→Prop
structure Env0 (P:Program) (w:World) (K:PySem.W.Frag) (mg:Str→Option Value) (base:Heap) (A:Around) (outer:List Env) (s:Shared) (H:Hp):Prop where
 frames:A.frames=some outer
 mod:Mod K mg base
 bs:∀b o,base.get? b=some o→s.heap.get? b=some o∧H b=none
 bsz:base.objs.size≤s.heap.objs.size
 funs:s.heap.FunFrames base outer
 frf:∀b∈Hw outer,H b=none
 hok:HOk P w H s.heap
 bare:AllBare s.gens
def CE (outer:List Env) (P:Program) (w:World) (H:Hp) (s:Shared) (Q:VK) (u:Value) (s':Shared):Prop:=
 ∃v H',s'.os=s.os∧AllBare s'.gens∧Un (Hw outer) [] H H' s.heap s'.heap∧HOk P w H' s'.heap∧RelV v u∧Q v H'
def CR (CX:Lf) (outer:List Env) (P:Program) (w:World) (H:Hp) (s:Shared) (Q:VK) (E:XK) (r:Result) (s':Shared):Prop:=
 match r with
 | .ok (.ret u)=>CE outer P w H s Q u s'
 | .ok _=>False
 | .error e=>CX outer H s E e s'
structure FnOk (P:Program) (w:World) (K:PySem.W.Frag) (mg:Str→Option Value) (base:Heap) (CX:Lf) (k:Nat) (f:Addr) (fd:FuncData) (ps:List Str) (sp:Sp):Prop where
 len:∀vs H Q E,sp vs H Q E→vs.length=ps.length
 run:∀(A:Around) (outer:List Env) (s:Shared) (H:Hp) (args:Args) (us:List Value) (vs:List V) (Q:VK) (E:XK),Room k A→Env0 P w K mg base A outer s H→BindsTo s fd args (ps.zip us)→Vals vs us→sp vs H Q E→
  codeAny (model P w) A (.call (.ref f) args) (CR CX outer P w H s Q E) s
theorem FnOk.mono {P:Program} {w:World} {K:PySem.W.Frag} {mg:Str→Option Value} {base:Heap} {CX:Lf} {j k:Nat} {f:Addr} {fd:FuncData} {ps:List Str} {sp:Sp} (F:FnOk P w K mg base CX j f fd ps sp) (h:j≤k) :
  FnOk P w K mg base CX k f fd ps sp:=⟨F.len,fun A outer s H args us vs Q E hr=>F.run A outer s H args us vs Q E (hr.mono h)⟩
theorem FnOk.imp {P:Program} {w:World} {K:PySem.W.Frag} {mg:Str→Option Value} {base:Heap} {CX:Lf} {k:Nat} {f:Addr} {fd:FuncData} {ps:List Str} {sp sp':Sp} (F:FnOk P w K mg base CX k f fd ps sp)
  (h:∀vs H Q E,sp' vs H Q E→sp vs H Q E):FnOk P w K mg base CX k f fd ps sp':=
 ⟨fun vs H Q E q=>F.len vs H Q E (h _ _ _ _ q),fun A outer s H args us vs Q E hr he hb hv hs=>F.run A outer s H args us vs Q E hr he hb hv (h _ _ _ _ hs)⟩
theorem Env0.make {P:Program} {w:World} {K:PySem.W.Frag} {mg:Str→Option Value} {base:Heap} {A:Around} {outer:List Env} {s:Shared} {H:Hp} (e:Env0 P w K mg base A outer s H) (C:Addr) (us:List Value) (kw:List (Str×Value)) :
  Env0 P w K mg base (A.under (.builtin "type.__call__" ⟨.ref C::us,kw⟩)) outer s H:=⟨by first | exact e.frames | (simpa [Around.under,Code.envs,Code.isFrame,pushEnvs] using e.frames),e.mod,e.bs,e.bsz,e.funs,e.frf,e.hok,e.bare⟩
section
variable {X:Cx} {pins:List (Addr×Obj)} {σ:St} {H:Hp} {s s':Shared}
theorem Inv.env0 (I:Inv X pins σ H s):Env0 X.prog X.w X.K X.mg X.base X.A X.stack s H:=
 ⟨I.ok.frames,I.ok.mod,I.bs,Nat.le_trans I.ok.bsz I.sz,I.stack,I.stkFree,I.hok,I.bare⟩
theorem Inv.after {Q:VK} {u:Value} (I:Inv X pins σ H s) (h:CE X.stack X.prog X.w H s Q u s'):EP X pins σ Q u s':=by
 obtain⟨v,H',os,bare,un,hok,r,q⟩:=h
 obtain⟨hh,g,d,t,os'⟩:=s'
 obtain rfl:os'=s.os:=os
 exact⟨v,H',I.call (h':=hh) (g':=g) (d':=d) (t':=t) (ch:=[]) un hok bare (fun b z=>absurd z (by simp)),r,q⟩
end
def SE (sp:Sp) (dvs:List V) (E:XK) (t:TA):TE:=fun σ H Q=>t σ H fun vs H1=>sp (vs++dvs) H1 Q E
def Q0 (C:Addr) (m:Str) (sp:Sp) (dvs:List V) (E:XK) (ta:TE) (t:TA):TE:=fun σ H Q=>ta σ H fun x H1=>∃a dx fs,x= .ref a∧H1 a=some (.ins C dx fs)∧fs.lookup m=none∧
 t σ H1 fun vs H2=>sp (x::(vs++dvs)) H2 Q E
def SB (C:Addr) (sp:Sp) (dvs:List V) (E:XK) (t:TA):TE:=fun σ H Q=>t σ H fun vs H1=>∀x dx,H1 x=none→H1 dx=none→dx≠x→
 sp (.ref x::(vs++dvs)) (upd (upd H1 dx (.own x)) x (.ins C dx [])) (fun v H2=>v= .non∧Q (.ref x) H2) E
def Binds (K:PySem.W.Frag) (fd:FuncData) (ps:List Str) (ds:List Value):Prop:=
 ∀(s:Shared) (us:List Value),K.In s.heap→(us++ds).length=ps.length→BindsTo s fd ⟨us,[]⟩ (ps.zip (us++ds))
theorem Binds.all {K:PySem.W.Frag} {fd:FuncData} {ps:List Str} (h:∀us:List Value,us.length=ps.length→bindArgs fd ⟨us,[]⟩=pure (ps.zip us)):Binds K fd ps []:=fun s us _ hl=>by
 rw[List.append_nil] at hl ⊢
 exact .of_eq (h us hl)
def Dp (CX:Lf) (X:Cx) (E:XK):Prop:=∀(pins:List (Addr×Obj)) (σ:St) (H:Hp) (s:Shared) (e:Value) (s':Shared),Inv X pins σ H s→CX X.stack H s E e s'→X.xe e s'
section
variable {X:Cx} {CX:Lf} {k:Nat} {f C:Addr} {fd:FuncData} {ps:List Str} {sp:Sp} {dvs:List V} {ds:List Value} {E:XK} {x m:Str} {p pos apos:Pos} {e o:Expr} {es:List Expr} {ta:TE} {t:TA}
theorem K2 {pins:List (Addr×Obj)} {σ:St} {H:Hp} {s:Shared} {Q:VK} {us:List Value} {vs:List V} (F:FnOk X.prog X.w X.K X.mg X.base CX k f fd ps sp) (hr:Room k X.A) (hb:Binds X.K fd ps ds) (hd:Vals dvs ds) (hx:Dp CX X E)
  (I:Inv X pins σ H s) (r:Vals vs us) (h:sp (vs++dvs) H Q E):wpAny (model X.prog X.w) X.A (call (.ref f) us) (EP X pins σ Q) X.xe s:=by
 have r2:Vals (vs++dvs) (us++ds):=r.append hd
 have hl:(us++ds).length=ps.length:=by rw[←r2.length];exact F.len _ _ _ _ h
 refine wpAny_call (codeAny_mono (F.run X.A X.stack s H ⟨us,[]⟩ (us++ds) (vs++dvs) Q E hr I.env0 (hb s us I.kIn hl) r2 h) fun r s' hq=>?_)
 cases r with
 | error e=>exact hx pins σ H s e s' I hq
 | ok fl=>
  cases fl with
  | ret u=>exact I.after hq
  | next=>exact False.elim hq
  | brk=>exact False.elim hq
  | cont=>exact False.elim hq
theorem Ah (F:FnOk X.prog X.w X.K X.mg X.base CX k f fd ps sp) (hr:Room k X.A) (hg:Gl X x) (hm:X.mg x=some (.ref f)) (hk:PySem.W.keepIn X.K (.ref f)=true) (hb:Binds X.K fd ps ds) (hd:Vals dvs ds) (hx:Dp CX X E)
  (ha:PA X (e::es) t) (hdb:(x == ("__debug__":Str))=false:=by decide) (he:starEach (e::es) X.env=(false,eval e X.env)::starEach es X.env:=by rfl) (hpl:(backTo pos (starEach es X.env)).any (·.1)=false:=by rfl) :
  PE X (.Call (.Name x p) (e::es) [] pos) (SE sp dvs E t):=by
 intro pins s σ H Q I h
 refine wpAny_Call_Name_kw (FX I hg hm ?_ hdb)
 refine PySem.W.callWith_K (h₀:=X.base) I.ok.mod.kin hk (AS (ha pos pins s σ H _ I h) fun us s1 ⟨vs,H1,I1,r,q⟩=>⟨I1.kIn,?_⟩) he hpl
 exact K2 F hr hb hd hx I1 r q
theorem Dh {pl:Sem Bool} (he:PE X o ta) (c:Cls X.K C) (hm:QO X.K C m f) (F:FnOk X.prog X.w X.K X.mg X.base CX k f fd ps sp) (hr:Room k X.A) (hb:Binds X.K fd ps ds) (hd:Vals dvs ds) (hx:Dp CX X E) (ha:PA X (e::es) t)
  (hst:starEach (e::es) X.env=(false,eval e X.env)::starEach es X.env:=by rfl) (hpl:(backTo pos (starEach es X.env)).any (·.1)=false:=by rfl)
  (ht:eval (.Call (.Attribute o m apos) (e::es) [] pos) X.env=(do
   let ov ←eval o X.env
   standAt apos.atName
   let (f,first) ←holding [ov] (getMethod ov m pl)
   callWith pos f first (backTo pos (starEach (e::es) X.env)) (backToKw pos (keywordEach [] X.env))):=by rfl) :
  PE X (.Call (.Attribute o m apos) (e::es) [] pos) (Q0 C m sp dvs E ta t):=by
 intro pins s σ H Q I h
 refine PySem.W.methodCall_KW (pl:=pl) (AS (he pins s σ H _ I h) fun u s1 ⟨x,H1,I1,rx,a,dx,fs,ex,ea,l,q⟩=>?_) ht
 subst ex
 obtain rfl:u=Value.ref a:=rx
 refine Hb I1 ea c hm l ?_
 refine PySem.W.callWith_K (first:=[.ref a]) (h₀:=X.base) I.ok.mod.kin hm.kp (AS (ha pos pins s1 σ H1 _ I1 q) fun us s2 ⟨vs,H2,I2,r,q2⟩=>⟨I2.kIn,?_⟩) hst hpl
 exact K2 (us:=.ref a::us) (vs:=.ref a::vs) F hr hb hd hx I2 (.cons rfl r) q2
theorem Bf {pl:Sem Bool} (he:PE X o ta) (c:Cls X.K C) (hm:QO X.K C m f) (F:FnOk X.prog X.w X.K X.mg X.base CX k f fd ps sp) (hr:Room k X.A) (hb:Binds X.K fd ps ds) (hd:Vals dvs ds) (hx:Dp CX X E)
  (ht:eval (.Call (.Attribute o m apos) [] [] pos) X.env=(do
   let ov ←eval o X.env
   standAt apos.atName
   let (f,first) ←holding [ov] (getMethod ov m pl)
   callWith pos f first (backTo pos (starEach [] X.env)) (backToKw pos (keywordEach [] X.env))):=by rfl) :
  PE X (.Call (.Attribute o m apos) [] [] pos) (Q0 C m sp dvs E ta Rt):=by
 intro pins s σ H Q I h
 refine PySem.W.methodCall_KW (pl:=pl) (AS (he pins s σ H _ I h) fun u s1 ⟨x,H1,I1,rx,a,dx,fs,ex,ea,l,q⟩=>?_) ht
 subst ex
 obtain rfl:u=Value.ref a:=rx
 refine Hb I1 ea c hm l ?_
 exact PySem.W.callWith_K0 (first:=[.ref a]) I1.kIn hm.kp (K2 (us:=[.ref a]) (vs:=[.ref a]) F hr hb hd hx I1 (.cons rfl .nil) q)
structure Mk (K:PySem.W.Frag) (C f:Addr):Prop where
 makes:PySem.W.makesIn K C=true
 init:PySem.W.findIn K (.ref C) "__init__"=some (some (.ref f))
 fn:PySem.W.isFn K (.ref f)=true
 kp:PySem.W.keepIn K (.ref C)=true
theorem ON {pins:List (Addr×Obj)} {σ:St} {H:Hp} {s:Shared} {Q:VK} {us:List Value} {vs:List V} (M:Mk X.K C f) (F:FnOk X.prog X.w X.K X.mg X.base CX k f fd ps sp) (hr:Room (k+1) X.A) (hb:Binds X.K fd ps ds) (hd:Vals dvs ds)
  (hx:Dp CX X E) (I:Inv X pins σ H s) (r:Vals vs us)
  (h:∀x dx,H x=none→H dx=none→dx≠x→sp (.ref x::(vs++dvs)) (upd (upd H dx (.own x)) x (.ins C dx [])) (fun v H2=>v= .non∧Q (.ref x) H2) E) :
  wpAny (model X.prog X.w) X.A (call (.ref C) us) (EP X pins σ Q) X.xe s:=by
 have hq:=h (s.heap.objs.size+1) s.heap.objs.size (I.hok.fresh (Nat.le_succ _)) (I.hok.fresh (Nat.le_refl _)) (Nat.ne_of_lt (Nat.lt_succ_self _))
 have I2:=Inv.made (C:=C) I
 have r2:Vals (V.ref (s.heap.objs.size+1)::(vs++dvs)) (Value.ref (s.heap.objs.size+1)::(us++ds)):=.cons rfl (r.append hd)
 have hl:(Value.ref (s.heap.objs.size+1)::us++ds).length=ps.length:=by
  have e:=r2.length
  rw[F.len _ _ _ _ hq] at e
  exact e.symm
 refine wpAny_call (N0 (f:=f) I.kIn M.makes M.init (beq_iff_eq.mp M.fn) (codeAny_mono (F.run _ X.stack _ _ ⟨Value.ref (s.heap.objs.size+1)::us,[]⟩ (Value.ref (s.heap.objs.size+1)::(us++ds)) _ _ E (hr.make C us [])
  (I2.env0.make C us []) (hb _ (Value.ref (s.heap.objs.size+1)::us) I2.kIn hl) r2 hq) fun r s' hq'=>?_))
 cases r with
 | error e=>exact hx pins σ _ _ e s' I2 hq'
 | ok fl=>
  cases fl with
  | ret u=>
   obtain⟨v,H',I3,rv,ev,q3⟩:=I2.after hq'
   subst ev
   exact⟨rv,⟨V.ref (s.heap.objs.size+1),H',I3,rfl,q3⟩⟩
  | next=>exact False.elim hq'
  | brk=>exact False.elim hq'
  | cont=>exact False.elim hq'
theorem LS (M:Mk X.K C f) (F:FnOk X.prog X.w X.K X.mg X.base CX k f fd ps sp) (hr:Room (k+1) X.A) (hg:Gl X x) (hm:X.mg x=some (.ref C)) (hb:Binds X.K fd ps ds) (hd:Vals dvs ds) (hx:Dp CX X E)
  (ha:PA X (e::es) t) (hdb:(x == ("__debug__":Str))=false:=by decide) (he:starEach (e::es) X.env=(false,eval e X.env)::starEach es X.env:=by rfl) (hpl:(backTo pos (starEach es X.env)).any (·.1)=false:=by rfl) :
  PE X (.Call (.Name x p) (e::es) [] pos) (SB C sp dvs E t):=by
 intro pins s σ H Q I h
 refine wpAny_Call_Name_kw (FX I hg hm ?_ hdb)
 refine PySem.W.callWith_K (h₀:=X.base) I.ok.mod.kin M.kp (AS (ha pos pins s σ H _ I h) fun us s1 ⟨vs,H1,I1,r,q⟩=>⟨I1.kIn,?_⟩) he hpl
 exact ON M F hr hb hd hx I1 r q
end
section
variable {X:Cx} {CX:Lf} {k:Nat} {f C:Addr} {fd:FuncData} {ps ks:List Str} {sp:Sp} {E:XK} {x m:Str} {p pos apos kpos:Pos} {e o:Expr} {es:List Expr} {kws:List Keyword} {te ta:TE} {t tk:TA} {nm:Option Str}
variable {g:List Value→List Value→List Value} {gV:List V→List V→List V}
end
structure As (N P:List Str) (sc:Scope):Prop where
 kind:sc.kind= .function
 co:sc.isCoroutine=false
 gen:sc.isGenerator=false
 nd:N.Nodup
 pre:N.take P.length=P
 par:∀x∈P,sc.names.lookup x=some .local∨sc.names.lookup x=some .cell
 nofree:∀y∈sc.names,y.2≠.free
theorem HP {kindOf:Str→Option NameKind} {x:Str}:∀{binds:List (Str×Value)} {m:Str→Option Value},(∀v,(x,v)∉binds)→bindL kindOf binds m x=m x
 | [],_,_=>rfl
 | (n,v)::r,m,h=>by
  unfold bindL
  rw[HP fun w hw=>h w (List.mem_cons_of_mem _ hw)]
  split
  ·have:x≠n:=by rintro rfl;exact h v List.mem_cons_self
   simp[this]
  ·rfl
theorem HN {kindOf:Str→Option NameKind} {x:Str}:∀{binds:List (Str×Value)} {m:Str→Option Value},(∀v,(x,v)∉binds)→bindC kindOf binds m x=m x
 | [],_,_=>rfl
 | (n,v)::r,m,h=>by
  unfold bindC
  rw[HN fun w hw=>h w (List.mem_cons_of_mem _ hw)]
  split
  ·rfl
  ·have:x≠n:=by rintro rfl;exact h v List.mem_cons_self
   simp[this]
theorem Ig {kindOf:Str→Option NameKind} {x:Str} {v:Value}:∀{P:List Str} {vs:List Value} {i:Nat} {m:Str→Option Value},P.Nodup→P[i]? = some x→vs[i]? = some v→kindOf x=some .local→
  bindL kindOf (P.zip vs) m x=some v
 | [],_,_,_,_,h,_,_=>by simp at h
 | _::_,[],_,_,_,_,h,_=>by simp at h
 | p::P,w::vs,0,m,nd,h1,h2,hk=>by
  simp at h1 h2;subst h1;subst h2
  show bindL kindOf ((p,w)::P.zip vs) m p=_
  unfold bindL
  rw[HP fun v hv=>(List.nodup_cons.mp nd).1 (List.of_mem_zip hv).1,if_pos hk]
  simp
 | p::P,w::vs,i+1,m,nd,h1,h2,hk=>by
  show bindL kindOf ((p,w)::P.zip vs) m x=_
  unfold bindL
  exact Ig (i:=i) (List.nodup_cons.mp nd).2 (by simpa using h1) (by simpa using h2) hk
theorem Ip {kindOf:Str→Option NameKind} {x:Str} {v:Value}:∀{P:List Str} {vs:List Value} {i:Nat} {m:Str→Option Value},P.Nodup→P[i]? = some x→vs[i]? = some v→kindOf x≠some .local→
  bindC kindOf (P.zip vs) m x=some v
 | [],_,_,_,_,h,_,_=>by simp at h
 | _::_,[],_,_,_,_,h,_=>by simp at h
 | p::P,w::vs,0,m,nd,h1,h2,hk=>by
  simp at h1 h2;subst h1;subst h2
  show bindC kindOf ((p,w)::P.zip vs) m p=_
  unfold bindC
  rw[HN fun v hv=>(List.nodup_cons.mp nd).1 (List.of_mem_zip hv).1,if_neg hk]
  simp
 | p::P,w::vs,i+1,m,nd,h1,h2,hk=>by
  show bindC kindOf ((p,w)::P.zip vs) m x=_
  unfold bindC
  exact Ip (i:=i) (List.nodup_cons.mp nd).2 (by simpa using h1) (by simpa using h2) hk
def EK (N:List Str) (vs:List V):St:=vs.map some++List.replicate (N.length-vs.length) none
def Jc (CX:Lf) (P:Program) (w:World) (K:PySem.W.Frag) (mg:Str→Option Value) (base:Heap) (N:List Str) (qual:Str) (scope:Scope) (f:Addr) (cd:Value) (A:Around) (outer:List Env) (s:Shared) (H:Hp) (E:XK):Cx where
 prog:=P
 w:=w
 K:=K
 mg:=mg
 base:=base
 A:=A.deeper (envOfC qual scope s.heap.objs.size f cd)
 N:=N
 s₀:=s
 H₀:=H
 env:=envOfC qual scope s.heap.objs.size f cd
 outer:=outer
 stack:=envOfC qual scope s.heap.objs.size f cd::outer
 ex:=[]
 calm:=true
 fn:=fun _=>true
 pn:=[]
 xe:=fun e s'=>wpAny (model P w) (A.deeper (envOfC qual scope s.heap.objs.size f cd)) (leaving (envOfC qual scope s.heap.objs.size f cd) e) (fun _ s''=>CX outer H s E e s'') (fun e' s''=>CX outer H s E e' s'') s'
theorem JW {sc:Scope} {n:Nat} {x:Str} (h:sc.names.lookup x=some .cell):∃c,(cellsFrom n sc.names []).lookup x=some c:=by
 have q:=PySem.W.cellsFrom_some sc.names n [] (.inl h)
 exact Option.isSome_iff_exists.mp q
theorem MT {CX:Lf} {P:Program} {w:World} {K:PySem.W.Frag} {mg:Str→Option Value} {base:Heap} {N ps:List Str} {qual:Str} {scope:Scope} {f:Addr} {cd:Value} {A:Around} {outer:List Env} {s s1:Shared} {H:Hp} {E:XK} {us:List Value} {vs:List V}
  (S:As N ps scope) (hd:A.handled=none) (e0:Env0 P w K mg base A outer s H) (hl:vs.length=ps.length) (r:Vals vs us)
  (x:InCallC s s.heap.objs.size (bindL (envOfC qual scope s.heap.objs.size f cd).kindOf (ps.zip us) fun _=>none) (cellsFrom (s.heap.objs.size+1) scope.names []) (bindC (envOfC qual scope s.heap.objs.size f cd).kindOf (ps.zip us) fun _=>none) s1) :
  Inv (Jc CX P w K mg base N qual scope f cd A outer s H E) [] (EK N vs) H s1:=by
 have hpl:ps.length≤N.length:=by have:=congrArg List.length S.pre;rw[List.length_take] at this;omega
 obtain⟨h1,tk,rfl,hk⟩:=x.done
 have noA:∀b:Addr,b∉(Jc CX P w K mg base N qual scope f cd A outer s H E).ex:=fun b z=>absurd (show b∈([]:List Addr) from z) (by simp)
 refine⟨⟨e0.mod,S.kind,rfl,rfl,Nat.le_refl _,fun y z c h1 h2=>?_,fun y hy=>?_,fun y c _ h=>?_,fun _=>hd,Around.frames_deeper e0.frames,.inr ⟨rfl,rfl⟩,fun b z=>absurd z (noA b),e0.bs,e0.bsz,fun b _ _=>noA b,fun b z=>absurd z (noA b),e0.funs,e0.frf⟩,
  rfl,e0.bare,Un.kept hk,⟨_,x.toInCall.ns,fun i y v h1 h2 h3=>?_⟩,fun y c h=>⟨_,x.cell y c h⟩,e0.hok.fresh (Nat.le_refl _),fun y c h=>?_,fun p hp=>absurd (show p∈([]:List (Addr×Obj)) from hp) (by simp),e0.hok.kept hk,?_⟩
 ·exact name_of_addr x.apart (PySem.mem_of_lookup h1) (PySem.mem_of_lookup h2)
 ·have hy:scope.names.lookup y=some .cell∨scope.names.lookup y=some .free:=hy
  rcases hy with hy | hy
  ·exact JW hy
  ·exact absurd rfl (S.nofree _ (PySem.mem_of_lookup hy))
 ·exact Nat.le_of_lt (x.above y c (PySem.mem_of_lookup h))
 ·have hi:i<vs.length:=by
   unfold EK at h2
   by_cases hi:i<vs.length
   ·exact hi
   ·rw[List.getElem?_append_right (by simpa using hi)] at h2
    rw[List.getElem?_replicate] at h2
    split at h2<;>cases h2
  have ha:vs[i]? = some v:=by
   unfold EK at h2
   rw[List.getElem?_append_left (by simpa using hi),List.getElem?_map] at h2
   cases e:vs[i]? with
   | none=>rw[e] at h2;cases h2
   | some a=>rw[e] at h2;cases h2;rfl
  obtain⟨u,hu,rv⟩:=r.get ha
  have hp:ps[i]? = some y:=by
   rw[←S.pre,List.getElem?_take_of_lt (by omega)];exact h1
  have ndP:ps.Nodup:=by rw[←S.pre];exact S.nd.sublist (List.take_sublist _ _)
  refine⟨u,rv,?_⟩
  rcases S.par y (List.mem_of_getElem? hp) with k | k
  ·exact .inl ⟨k,Ig ndP hp hu k⟩
  ·obtain⟨c,e⟩:=JW (n:=s.heap.objs.size+1) k
   refine .inr ⟨.inl k,c,e,?_⟩
   have q:=x.cell y c e
   rw[Ip ndP hp hu (by show scope.names.lookup y≠_;rw[k];decide)] at q
   exact q
 ·exact e0.hok.fresh (Nat.le_of_lt (x.above y c (PySem.mem_of_lookup h)))
 ·unfold EK
  show _=N.length
  rw[List.length_append,List.length_map,List.length_replicate]
  omega
theorem Q4 {CX:Lf} {P:Program} {w:World} {K:PySem.W.Frag} {mg:Str→Option Value} {base:Heap} {k:Nat} {f:Addr} {name qual:Str} {params:Arguments} {body:List Stmt} {scope:Scope} {dV kV doc pm cdv ct oc:Value} {an od:Option Addr}
  {osl:Array (Option Value)} {N ps:List Str} {sp:Sp} (lk:K.lookup f=some ⟨oc,od,.func (PySem.W.fnOf name qual params body scope dV kV doc pm an cdv ct),osl⟩) (hcd:PySem.W.codeIn K cdv qual=true) (S:As N ps scope)
  (len:∀vs H Q E,sp vs H Q E→vs.length=ps.length)
  (hbody:∀(A:Around) (outer:List Env) (s:Shared) (H:Hp) (vs:List V) (Q:VK) (E:XK),Room k (A.deeper (envOfC qual scope s.heap.objs.size f cdv))→sp vs H Q E→
   ∃t,PSs (Jc CX P w K mg base N qual scope f cdv A outer s H E) body t∧t { nx:=fun _ H'=>Q .non H',rt:=Q } (EK N vs) H) :
  FnOk P w K mg base CX (k+1) f (PySem.W.fnOf name qual params body scope dV kV doc pm an cdv ct) ps sp:=by
 refine⟨len,fun A outer s H args us vs Q E hr e0 hb r hsp=>?_⟩
 have hl:=len _ _ _ _ hsp
 have KX:K.In s.heap:=e0.mod.kin.keeps fun b o e=>(e0.bs b o e).1
 have lim:s.heap.NoLimit:=e0.mod.nolimit.keeps fun b o e=>(e0.bs b o e).1
 have hkind:∀y∈ps.zip us,scope.names.lookup y.1=some .local∨(scope.names.lookup y.1=some .cell∧((cellsFrom (s.heap.objs.size+1) scope.names []).lookup y.1).isSome=true):=fun⟨n,v⟩ hy=>by
  rcases S.par n (List.of_mem_zip hy).1 with q | q
  ·exact .inl q
  ·exact .inr ⟨q,PySem.W.cellsFrom_some _ _ _ (.inl q)⟩
 refine codeAny_call_function hr.depth (KX _ _ lk) rfl S.co S.gen rfl (PySem.W.codeRec_of KX hcd) (hb _ _ _ _ ?_)
 refine wpAny_newFunctionEnv_cells S.kind hkind fun env he s1 x=>?_
 subst he
 refine⟨lim.keeps x.toInCall.keep,codeAny_func ?_⟩
 obtain⟨t,ht,hq⟩:=hbody A outer s H vs Q E (hr.deeper _) hsp
 have I:Inv (Jc CX P w K mg base N qual scope f cdv A outer s H E) [] (EK N vs) H s1:=MT S hr.hd e0 hl r x
 refine wpAny_mono (ht [] s1 (EK N vs) H _ I hq) (fun fl s' hs=>?_) fun e s' hs=>hs
 have fin:∀{σ':St} {H':Hp} {v:V} {u:Value},Inv (Jc CX P w K mg base N qual scope f cdv A outer s H E) [] σ' H' s'→RelV v u→Q v H'→CE outer P w H s Q u s':=
  fun {σ' H' v u} J rv q=>⟨v,H',J.os,J.bare,J.base,J.hok,rv,q⟩
 cases fl with
 | ret u=>
  obtain⟨v,σ',H',J,rv,q⟩:=hs
  exact fin J rv q
 | next=>
  obtain⟨σ',H',J,q⟩:=hs
  exact fin (v:=V.non) (u:=Value.none) J rfl q
 | brk=>
  obtain⟨_,_,_,q⟩:=hs
  exact False.elim q
 | cont=>
  obtain⟨_,_,_,q⟩:=hs
  exact False.elim q
end L2
namespace L2
open PySem PySem.Spec PyProof.Rows
section
variable {X:Cx} {x:Str} {p pos:Pos} {e:Expr} {es:List Expr} {t:TA} {id T:String} {r:List V→Hp→VK→Prop}
def Tp (r:List V→Hp→VK→Prop) (t:TA):TE:=fun σ H Q=>t σ H fun vs H1=>r vs H1 Q
theorem Aw (hc:BT X (.builtin id) r) (hg:Gl X x) (hm:X.mg x=none) (hv:bootBuiltins x=some (.builtin id)) (ha:PA X (e::es) t) (hn:x≠"__name__":=by decide) (hdb:(x == ("__debug__":Str))=false:=by decide)
  (he:starEach (e::es) X.env=(false,eval e X.env)::starEach es X.env:=by rfl) (hpl:(backTo pos (starEach es X.env)).any (·.1)=false:=by rfl):PE X (.Call (.Name x p) (e::es) [] pos) (Tp r t):=by
 intro pins s σ H Q I h
 refine wpAny_Call_Name_kw (DF I hg hm hv ?_ hn hdb)
 exact PyProof.Rows.callWith_builtin1 (AS (ha pos pins s σ H _ I h) fun us s1 ⟨vs,H1,I1,r1,q1⟩=>hc pins s1 σ H1 vs us Q I1 r1 q1) he hpl
theorem AR (hc:BT X (.type T) r) (hg:Gl X x) (hm:X.mg x=none) (hv:bootBuiltins x=some (.type T)) (ha:PA X (e::es) t) (hn:x≠"__name__":=by decide) (hdb:(x == ("__debug__":Str))=false:=by decide)
  (he:starEach (e::es) X.env=(false,eval e X.env)::starEach es X.env:=by rfl) (hpl:(backTo pos (starEach es X.env)).any (·.1)=false:=by rfl):PE X (.Call (.Name x p) (e::es) [] pos) (Tp r t):=by
 intro pins s σ H Q I h
 refine wpAny_Call_Name_kw (DF I hg hm hv ?_ hn hdb)
 exact PyProof.Rows.callWith_type1 (AS (ha pos pins s σ H _ I h) fun us s1 ⟨vs,H1,I1,r1,q1⟩=>hc pins s1 σ H1 vs us Q I1 r1 q1) he hpl
theorem Ke (hc:BT X (.type T) r) (hg:Gl X x) (hm:X.mg x=none) (hv:bootBuiltins x=some (.type T)) (hn:x≠"__name__":=by decide) (hdb:(x == ("__debug__":Str))=false:=by decide) :
  PE X (.Call (.Name x p) [] [] pos) (Tp r Rt):=by
 intro pins s σ H Q I h
 refine wpAny_Call_Name_kw (DF I hg hm hv ?_ hn hdb)
 exact PyProof.Rows.callWith_type0 (hc pins s σ H [] [] Q I .nil h)
end
end L2
namespace HT
open PySem PyProof.Rows
section
open PySem.SeqAt
open PySem.AutoSeq1 (wpAny_loadPart')
open PySem.MeetsSeq PySem.MeetsSeq2 PySem.MeetsSeq3
end
section
variable {prog:Program} {w:World} {A:Around} {E:Value→Shared→Prop} {s:Shared}
def sIx (n d:Nat):Option Int→Nat
 | none=>d
 | some v=>if v<0 then (v+(n:Int)).toNat else min v.toNat n
theorem sIx_none (n d:Nat):sIx n d none=d:=rfl
theorem sIx_nat (n d k:Nat):sIx n d (some (k:Int))=min k n:=by
 show (if (k:Int)<0 then ((k:Int)+(n:Int)).toNat else min (k:Int).toNat n)=min k n
 rw[if_neg (by omega),Int.toNat_natCast]
theorem Rq (n d:Nat) (hd:d≤n) (o:Option Int):sIx n d o≤n:=by
 cases o with
 | none=>exact hd
 | some v=>
  show (if v<0 then (v+(n:Int)).toNat else min v.toNat n)≤n
  by_cases hv:v<0
  ·rw[if_pos hv];omega
  ·rw[if_neg hv];exact Nat.min_le_right _ _
theorem LC (v:Int) (n d:Nat):(if v<0 then max (v+(n:Int)) 0 else min v (n:Int))=((sIx n d (some v):Nat):Int):=by
 show (if v<0 then max (v+(n:Int)) 0 else min v (n:Int))=(((if v<0 then (v+(n:Int)).toNat else min v.toNat n):Nat):Int)
 by_cases hv:v<0
 ·simp only[if_pos hv];omega
 ·simp only[if_neg hv];omega
theorem Kn (lo hi:Option Int) (n:Nat):Builtin.Slice.sliceAdjust lo hi 1 (n:Int)=(((sIx n 0 lo:Nat):Int),((sIx n n hi:Nat):Int)):=by
 have h1:¬((1:Int)<0):=by omega
 unfold Builtin.Slice.sliceAdjust
 simp only[h1,if_false]
 refine Prod.ext ?_ ?_
 ·cases lo with
  | none=>rfl
  | some v=>exact LC v n 0
 ·cases hi with
  | none=>rfl
  | some v=>exact LC v n n
theorem KD (i j:Nat):Builtin.Slice.slicePlaces (i:Int) (j:Int) 1=j-i:=by
 unfold Builtin.Slice.slicePlaces
 have h1:(1:Int)>0:=by omega
 simp only[h1,if_true,Int.ediv_one]
 split<;>omega
theorem Hn {v:Value} {o:Option Int} {Q:Option Int→Shared→Prop} (p:IsPart v o) (h:Q o s):wpAny (model prog w) A (Builtin.Slice.slicePartIndex v) Q E s:=by
 cases p with
 | none=>exact slicePart_none h
 | int i t=>exact slicePart_int h
theorem Fd {sl:Addr} {vl vu:Value} {lo hi:Option Int} {n:Nat} {Q:Int×Int×Nat→Shared→Prop} (hs:s.heap.IsSliceOf sl vl vu .none) (pl:IsPart vl lo) (pu:IsPart vu hi)
  (h:Q (((sIx n 0 lo:Nat):Int),1,sIx n n hi-sIx n 0 lo) s):wpAny (model prog w) A (Builtin.Slice.sliceApplied (.ref sl) (pure (n:Int))) Q E s:=by
 obtain⟨os,hos,hcs,hds⟩:=id hs
 unfold Builtin.Slice.sliceApplied Builtin.Slice.sliceFields
 refine wpAny_bind (wpAny_bind (wpAny_field hos hds (x:=vl) rfl (wpAny_bind (wpAny_field hos hds (x:=vu) rfl (wpAny_bind (wpAny_field hos hds (x:=.none) rfl (wpAny_pure ?_)))))))
 refine wpAny_bind (slicePart_none ?_)
 show wpAny _ _ (if ((1:Int) == 0)=true then _ else _) _ _ s
 rw[if_neg (by decide)]
 refine wpAny_bind (Hn pl (wpAny_bind (Hn pu (wpAny_bind (wpAny_pure ?_)))))
 show wpAny _ _ (match Builtin.Slice.sliceAdjust lo hi 1 (n:Int) with | (lo,hi)=>pure (lo,(1:Int),Builtin.Slice.slicePlaces lo hi 1)) _ _ s
 rw[Kn lo hi n]
 show wpAny _ _ (pure (((sIx n 0 lo:Nat):Int),(1:Int),Builtin.Slice.slicePlaces ((sIx n 0 lo:Nat):Int) ((sIx n n hi:Nat):Int) 1)) _ _ s
 rw[KD]
 exact wpAny_pure h
theorem NL (xs:Array Value) (i k:Nat):((List.range k).filterMap fun (m:Nat)=>xs[((i:Int)+(m:Int)*1).toNat]?).toArray=((xs.toList.drop i).take k).toArray:=by
 have e:(fun (m:Nat)=>xs[((i:Int)+(m:Int)*1).toNat]?)=fun m=>xs[i+m]? :=by
  funext m
  have:((i:Int)+(m:Int)*1).toNat=i+m:=by omega
  rw[this]
 rw[e]
 have:=pick_run xs i k
 rw[List.filterMap_map] at this
 have e2:((fun x=>xs[x]?) ∘ fun x=>i+x)=fun m=>xs[i+m]? :=rfl
 rw[e2] at this
 rw[this]
theorem getItem_tuple_cut {t sl:Addr} {items:Array Value} {vl vu:Value} {lo hi:Option Int} {Q:Value→Shared→Prop} (ht:IsTup s.heap t items) (hs:s.heap.IsSliceOf sl vl vu .none) (pl:IsPart vl lo) (pu:IsPart vu hi)
  (hw:¬(sIx items.size 0 lo=0∧sIx items.size items.size hi=items.size))
  (h:Q (.ref s.heap.objs.size) { s with heap:=s.heap.push { cls:=.type "tuple",data:=.seq ((items.toList.drop (sIx items.size 0 lo)).take (sIx items.size items.size hi-sIx items.size 0 lo)).toArray } })
  (hsz:items.size≤sizeLine):wpAny (model prog w) A (getItem (.ref t) (.ref sl)) Q E s:=by
 have htake:sizeOk (.seq ((items.toList.drop (sIx items.size 0 lo)).take (sIx items.size items.size hi-sIx items.size 0 lo)).toArray):=by
  show ((items.toList.drop (sIx items.size 0 lo)).take (sIx items.size items.size hi-sIx items.size 0 lo)).toArray.size≤sizeLine
  rw[List.size_toArray,List.length_take,List.length_drop,Array.length_toList]
  omega
 have hj:sIx items.size items.size hi≤items.size:=Rq _ _ (Nat.le_refl _) hi
 obtain⟨os,hos,hcs,hds⟩:=id hs
 have hTs:s.TypeIs (.ref sl) "slice":=⟨os,hos,hcs⟩
 unfold getItem
 try with_reducible refine wpAny_holding ?_
 first | refine wpAny_bind (wpAny_pure ?_) | skip
 refine wpAny_bind (wpAny_sequenceKey ht.typeIs (by decide) ?_)
 refine wpAny_bind (wpAny_callSpecial?_slot (name:=Str.ofString "__getitem__") ht.typeIs PyProof.Rows.slot_tuple_getitem
  (wpAny_call_entry PyProof.Rows.slot_tuple_getitem ht.typeIs entry_tuple_getitem ?_ (args_tuple_getitem _ _)))
 show wpAny _ _ (Builtin.Tuple.tupleItemsOf (.ref t) >>= _) _ _ s
 refine wpAny_bind (tupleItemsOf_ ht ?_)
 refine wpAny_bind (wpAny_typeOf hTs ?_)
 rw[if_pos (by decide)]
 refine wpAny_bind (Fd hs pl pu ?_)
 have hno:¬((((sIx items.size 0 lo:Nat):Int) == 0 && (1:Int) == 1 && (sIx items.size items.size hi-sIx items.size 0 lo) == items.size)=true):=by
  intro q
  rw[Bool.and_eq_true,Bool.and_eq_true] at q
  have q1:((sIx items.size 0 lo:Nat):Int)=0:=eq_of_beq q.1.1
  have q2:sIx items.size items.size hi-sIx items.size 0 lo=items.size:=eq_of_beq q.2
  exact hw ⟨by omega,by omega⟩
 show wpAny _ _ (if (((sIx items.size 0 lo:Nat):Int) == 0 && (1:Int) == 1 && (sIx items.size items.size hi-sIx items.size 0 lo) == items.size)=true then _ else _) _ _ s
 rw[if_neg hno,NL]
 first
  | exact wpAny_bind (m:=Builtin.Tuple.tupleExact _) (wpAny_newObj_type (wpAny_pure ⟨_,rfl,wpAny_pure h⟩) htake)
  | exact wpAny_bind (m:=Builtin.Tuple.tupleExact _) (wpAny_newObj_type (wpAny_bind (wpAny_pure (wpAny_pure ⟨_,rfl,wpAny_pure h⟩))) htake)
  | exact wpAny_bind (wpAny_bind (m:=Builtin.Tuple.tupleExact _) (wpAny_newObj_type (wpAny_pure (wpAny_pure ⟨_,rfl,wpAny_pure h⟩)) htake))
  | exact wpAny_bind (wpAny_bind (m:=Builtin.Tuple.tupleExact _) (wpAny_newObj_type (wpAny_pure ⟨_,rfl,wpAny_pure h⟩) htake))
end
end HT
namespace L2
open PySem PySem.Spec PyProof.Rows
abbrev TO:=St→Hp→(Option Int→Hp→Prop)→Prop
def PO (X:Cx) (e:Option Expr) (t:TO):Prop:=
 ∀(pins:List (Addr×Obj)) (s:Shared) (σ:St) (H:Hp) (Q:Option Int→Hp→Prop),Inv X pins σ H s→t σ H Q→
  wpAny (model X.prog X.w) X.A (evalPart e X.env) (fun u s'=>∃o H',Inv X pins σ H' s'∧IsPart u o∧Q o H') X.xe s
def P1:TO:=fun _ H Q=>Q none H
def Sd (t:TE):TO:=fun σ H Q=>t σ H fun x H1=>∃i,x= .int i∧Q (some i) H1
section
variable {X:Cx} {e:Expr} {te:TE} {lo hi:Option Expr} {tl th:TO} {pos p2:Pos}
theorem LO:PO X none P1:=by
 intro pins s σ H Q I h
 rw[evalPart_none]
 exact wpAny_pure ⟨none,H,I,.none,h⟩
theorem LL (h:PE X e te):PO X (some e) (Sd te):=by
 intro pins s σ H Q I hw
 rw[evalPart_some]
 refine AS (h pins s σ H _ I hw) fun u s1 ⟨x,H1,I1,r1,q1⟩=>?_
 obtain⟨i,rfl,q⟩:=q1
 obtain⟨t,rfl⟩:=r1
 exact⟨some i,H1,I1,.int i t,q⟩
def TL (X:Cx) (r:V→Option Int→Option Int→Hp→VK→Prop):Prop:=
 ∀(pins:List (Addr×Obj)) (s:Shared) (σ:St) (H:Hp) (x:V) (v vl vu:Value) (lo hi:Option Int) (sl:Addr) (Q:VK),Inv X pins σ H s→RelV x v→s.heap.IsSliceOf sl vl vu .none→IsPart vl lo→IsPart vu hi→r x lo hi H Q→
  ∃T id,typeLookup (.type T) "__getitem__"=pure (some (.builtin id))∧s.TypeIs v T∧wpAny (model X.prog X.w) X.A (getItem v (.ref sl)) (EP X pins σ Q) X.xe s
def Uc (r:V→Option Int→Option Int→Hp→VK→Prop) (te:TE) (tl th:TO):TE:=fun σ H Q=>te σ H fun x H1=>tl σ H1 fun l H2=>th σ H2 fun u H3=>r x l u H3 Q
theorem Jj {r:V→Option Int→Option Int→Hp→VK→Prop} (hr:TL X r) (he:PE X e te) (hl:PO X lo tl) (hu:PO X hi th):PE X (.Subscript e (.Slice lo hi none p2) pos) (Uc r te tl th):=by
 intro pins s σ H Q I h
 refine Subscript_ (AS (he pins s σ H _ I h) fun v s1 ⟨x,H1,I1,r1,q1⟩=>?_)
 refine wpAny_Slice (AS (hl pins s1 σ H1 _ I1 q1) fun vl s2 ⟨l,H2,I2,pl,q2⟩=>AS (hu pins s2 σ H2 _ I2 q2) fun vu s3 ⟨u,H3,I3,pu,q3⟩=>?_)
 rw[evalPart_none]
 refine wpAny_pure ?_
 have I4:Inv X pins σ H3 { s3 with heap:=s3.heap.push { cls:=.type "slice",data:=.fields #[vl,vu,.none] } }:=I3.kept (t':=s3.toks) fun b ob q=>Heap.get?_push_of_some _ q
 obtain⟨T,id,hT,ht,hg⟩:=hr pins { s3 with heap:=s3.heap.push { cls:=.type "slice",data:=.fields #[vl,vu,.none] } } σ H3 x v vl vu l u s3.heap.objs.size Q I4 r1 (Heap.IsSliceOf.new ..) pl pu q3
 show wpAny (model X.prog X.w) X.A (subscriptTail e (.Slice lo hi none p2) v (.ref s3.heap.objs.size)) (EP X pins σ Q) X.xe { s3 with heap:=s3.heap.push { cls:=.type "slice",data:=.fields #[vl,vu,.none] } }
 exact tail_any (ops:=[.ref s3.heap.objs.size,v]) ht hT hg (by with_unfolding_all rfl)
def Ez (xs:List V) (lo hi:Option Int):List V:=(xs.drop (HT.sIx xs.length 0 lo)).take (HT.sIx xs.length xs.length hi-HT.sIx xs.length 0 lo)
theorem Jq (xs:List V) (lo hi:Option Int):(Ez xs lo hi).length≤xs.length:=by
 unfold Ez
 rw[List.length_take,List.length_drop]
 omega
def To (K:PySem.W.Frag):V→Option Int→Option Int→Hp→VK→Prop:=fun x lo hi H Q=>∃a xs,x= .ref a∧SqT K H a xs∧
 ¬(HT.sIx xs.length 0 lo=0∧HT.sIx xs.length xs.length hi=xs.length)∧∀p,H p=none→Q (.ref p) (upd H p (.tup (Ez xs lo hi)))
theorem Ny:TL X (To X.K):=by
 intro pins s σ H x v vl vu lo hi sl Q I rx hs pl pu h
 obtain⟨a,xs,rfl,hx,hw,q⟩:=h
 cases rx
 obtain⟨its,r,ht,hz⟩:=I.tuple hx
 have hlen:its.toArray.size=xs.length:=by rw[List.size_toArray];exact r.length.symm
 refine⟨"tuple",_,PyProof.Rows.slot_tuple_getitem.lookup,ht.typeIs,?_⟩
 refine HT.getItem_tuple_cut ht hs pl pu (by rw[hlen];exact hw) ?_ (by rw[hlen];exact hz)
 rw[hlen]
 refine⟨.ref s.heap.objs.size,_,I.laid (t':=s.toks) (o:=.tup (Ez xs lo hi)) (fun b ob q=>Heap.get?_push_of_some _ q) (Nat.le_refl _) ?_,rfl,q _ (I.hok.fresh (Nat.le_refl _))⟩
 exact⟨Nat.le_trans (Jq xs lo hi) hz,_,(r.drop (HT.sIx xs.length 0 lo)).take (HT.sIx xs.length xs.length hi-HT.sIx xs.length 0 lo),IsTup.new _ _⟩
end
end L2
namespace L2
open PySem PySem.Spec PyProof.Rows
def QZ (n:Nat) (i:Int):Option Nat:=if 0≤i then (if i<n then some i.toNat else none) else if -(n:Int)≤i then some (i+n).toNat else none
def FV {α:Type} (xs:List α) (i:Int):Option α:=(QZ xs.length i).bind fun j=>xs[j]?
theorem QE {n:Nat} {i:Int} {j:Nat} (h:QZ n i=some j):seqIndex? i n=some j∧j<n∧-(n:Int)≤i∧i<n:=by
 unfold QZ at h
 by_cases h0:0≤i
 ·rw[if_pos h0] at h
  by_cases h1:i<n
  ·rw[if_pos h1] at h
   have e:i.toNat=j:=Option.some.inj h
   exact⟨by rw[seqIndex_of h0 h1,e],by omega,by omega,h1⟩
  ·rw[if_neg h1] at h;cases h
 ·rw[if_neg h0] at h
  by_cases h1 : -(n:Int)≤i
  ·rw[if_pos h1] at h
   have e:(i+n).toNat=j:=Option.some.inj h
   exact⟨by rw[seqIndex_neg (by omega) h1,e],by omega,h1,by omega⟩
  ·rw[if_neg h1] at h;cases h
theorem Lr {α:Type} {xs:List α} {i:Int} {v:α} (h:FV xs i=some v):∃j,seqIndex? i xs.length=some j∧xs[j]? = some v∧j<xs.length∧-(xs.length:Int)≤i∧i<xs.length:=by
 unfold FV at h
 cases e:QZ xs.length i with
 | none=>rw[e] at h;cases h
 | some j=>
  rw[e] at h
  obtain⟨h1,h2,h3,h4⟩:=QE e
  exact⟨j,h1,h,h2,h3,h4⟩
theorem Aj {α:Type} {xs:List α} {j:Nat} {v:α} (h:xs[j]? = some v):FV xs (j:Int)=some v:=by
 have hj:j<xs.length:=(List.getElem?_eq_some_iff.mp h).1
 have e:QZ xs.length (j:Int)=some j:=by
  unfold QZ
  rw[if_pos (by omega),if_pos (by omega)];simp
 unfold FV;rw[e];exact h
def QK (b:Expr):Prop:=∀o i,subscripted b false o i=operate [o,i] (getItem o i)
def Tn (X:Cx) (r:R2):Prop:=
 ∀(value slice:Expr) (pins:List (Addr×Obj)) (s:Shared) (σ:St) (H:Hp) (x y:V) (v u:Value) (Q:VK),Inv X pins σ H s→RelV x v→RelV y u→r x y H Q→
  subscripted slice false v u=operate [v,u] (getItem v u)→wpAny (model X.prog X.w) X.A (subscriptTail value slice v u) (EP X pins σ Q) X.xe s
def TQ (X:Cx) (id:String) (r:V→List V→Hp→VK→Prop):Prop:=
 ∀(pins:List (Addr×Obj)) (s:Shared) (σ:St) (H:Hp) (x:V) (xs:List V) (v:Value) (us:List Value) (Q:VK),Inv X pins σ H s→RelV x v→Vals xs us→r x xs H Q→
  wpAny (model X.prog X.w) X.A (call (.builtin id) (v::us)) (EP X pins σ Q) X.xe s
section
variable {X:Cx} {a b:Expr} {ta tb:TE} {pos:Pos}
theorem AB {r:R2} (hr:Tn X r) (ha:PE X a ta) (hb:PE X b tb) (hs:QK b):PE X (.Subscript a b pos) (SR r ta tb):=by
 intro pins s σ H Q I h
 exact Subscript_ (RE ha hb I h fun v u s2 x y H2 I2 rx ry q=>hr a b pins s2 σ H2 x y v u Q I2 rx ry q (hs _ _))
def Sw (K:PySem.W.Frag):R2:=fun x y H Q=>∃p xs i v,x= .ref p∧y= .int i∧SqL K H p xs∧FV xs i=some v∧Q v H
def Tl (K:PySem.W.Frag):R2:=fun x y H Q=>∃p xs i v,x= .ref p∧y= .int i∧SqT K H p xs∧FV xs i=some v∧Q v H
theorem AM:Tn X (Sw X.K):=by
 intro value slice pins s σ H x y v u Q I rx ry h hs
 obtain⟨p,xs,i,z,rfl,rfl,hq,he,q⟩:=h
 cases rx
 obtain⟨t,rfl⟩:=ry
 obtain⟨its,r,pl,hz⟩:=I.list hq
 obtain⟨j,h1,h2,h3,h4,h5⟩:=Lr he
 obtain⟨w,ew,rw'⟩:=r.get h2
 have hl:=r.length
 have hn:=IY
 have fin:EP X pins σ Q w s:=⟨z,H,I,rw',q⟩
 by_cases h0:0≤i
 ·have hj:i.toNat=j:=by
   rw[seqIndex_of h0 h5] at h1
   exact Option.some.inj h1
  exact item_listR pl.isList h0 (by omega) (by rw[hj];simpa using ew) fin hs
 ·have hj:(i+(its.toArray.size:Int)).toNat=j:=by
   rw[seqIndex_neg (by omega) h4] at h1
   rw[List.size_toArray,←hl]
   exact Option.some.inj h1
  exact subscriptTail_builtinR (x:=w) pl.isList.typeIs slot_list_getitem.lookup
   (wpAny_getItem_list_neg (Q:=fun r s'=>r=w∧EP X pins σ Q r s') pl.isList (by omega) (by rw[List.size_toArray]<;>omega) (by omega) (by rw[hj];simpa using ew) ⟨rfl,fin⟩) hs
theorem AD:Tn X (Tl X.K):=by
 intro value slice pins s σ H x y v u Q I rx ry h hs
 obtain⟨p,xs,i,z,rfl,rfl,hq,he,q⟩:=h
 cases rx
 obtain⟨t,rfl⟩:=ry
 obtain⟨its,r,pl,hz⟩:=I.tuple hq
 obtain⟨j,h1,h2,h3,h4,h5⟩:=Lr he
 obtain⟨w,ew,rw'⟩:=r.get h2
 have hl:=r.length
 have hn:=IY
 have fin:EP X pins σ Q w s:=⟨z,H,I,rw',q⟩
 exact subscriptTail_builtinR (x:=w) pl.typeIs slot_tuple_getitem.lookup
  (getItem_tuple (j:=j) (Q:=fun r s'=>r=w∧EP X pins σ Q r s') pl (by omega) (by omega) (by rw[List.size_toArray,←hl];exact h1) (by simpa using ew) ⟨rfl,fin⟩) hs
def Ej:V→Bool
 | .non=>true
 | .bl _=>true
 | .int _=>true
 | .str _=>true
 | _=>false
def OV:V→V→Bool
 | .non,.non=>true
 | .bl a,.bl b=>a == b
 | .bl a,.int b=>(if a then 1 else 0) == b
 | .int a,.bl b=>a == (if b then 1 else 0)
 | .int a,.int b=>a == b
 | .str a,.str b=>a == b
 | _,_=>false
theorem RQ {A:Around} {s:Shared} {y x:V} {u v:Value} (ry:RelV y u) (rx:RelV x v) (fy:Ej y=true) (fx:Ej x=true):SeqAt.EqAt A s u v (OV y x):=by
 cases y with
 | non=>
  cases ry
  cases x with
  | non=>cases rx;exact SeqAt.EqAt.same _
  | bl b=>cases rx;exact SeqAt.EqAt.none_bool b
  | int b=>obtain⟨t,rfl⟩:=rx;exact SeqAt.EqAt.none_int b t
  | str b=>obtain⟨t,rfl⟩:=rx;exact SeqAt.EqAt.none_str b t
  | _=>exact absurd (show false=true from fx) Bool.false_ne_true
 | bl a=>
  cases ry
  cases x with
  | non=>cases rx;exact SeqAt.EqAt.bool_none a
  | bl b=>cases rx;exact SeqAt.EqAt.bool_bool a b
  | int b=>obtain⟨t,rfl⟩:=rx;exact SeqAt.EqAt.bool_int a b t
  | str b=>obtain⟨t,rfl⟩:=rx;exact SeqAt.EqAt.bool_str a b t
  | _=>exact absurd (show false=true from fx) Bool.false_ne_true
 | int a=>
  obtain⟨t',rfl⟩:=ry
  cases x with
  | non=>cases rx;exact SeqAt.EqAt.int_none a t'
  | bl b=>cases rx;exact SeqAt.EqAt.int_bool a t' b
  | int b=>obtain⟨t,rfl⟩:=rx;exact SeqAt.EqAt.int_int a t' b t
  | str b=>obtain⟨t,rfl⟩:=rx;exact SeqAt.EqAt.int_str a t' b t
  | _=>exact absurd (show false=true from fx) Bool.false_ne_true
 | str a=>
  obtain⟨t',rfl⟩:=ry
  cases x with
  | non=>cases rx;exact SeqAt.EqAt.str_none a t'
  | bl b=>cases rx;exact SeqAt.EqAt.str_bool a t' b
  | int b=>obtain⟨t,rfl⟩:=rx;exact SeqAt.EqAt.str_int a t' b t
  | str b=>obtain⟨t,rfl⟩:=rx;exact SeqAt.EqAt.str_str a t' b t
  | _=>exact absurd (show false=true from fx) Bool.false_ne_true
 | _=>exact absurd (show false=true from fy) Bool.false_ne_true
def Km (x:V) (u:Value):Bool:=match u with
 | .none=>OV .non x
 | .bool b=>OV (.bl b) x
 | .int i _=>OV (.int i) x
 | .str z _=>OV (.str z) x
 | _=>false
theorem Np {x y:V} {u:Value} (r:RelV y u) (f:Ej y=true):Km x u=OV y x:=by
 cases y with
 | non=>cases r;rfl
 | bl b=>cases r;rfl
 | int i=>obtain⟨t,rfl⟩:=r;rfl
 | str z=>obtain⟨t,rfl⟩:=r;rfl
 | _=>exact absurd (show false=true from f) Bool.false_ne_true
theorem ER {x:V}:∀{xs:List V} {us:List Value},Vals xs us→xs.all Ej=true→us.any (Km x)=xs.any fun y=>OV y x
 | _,_,.nil,_=>rfl
 | y::xs,u::us,.cons r t,f=>by
  rw[List.all_cons,Bool.and_eq_true] at f
  rw[List.any_cons,List.any_cons,Np r f.1,ER t f.2]
theorem DB {A:Around} {s:Shared} {x:V} {v:Value} (rx:RelV x v) (fx:Ej x=true):∀{xs:List V} {us:List Value},Vals xs us→xs.all Ej=true→∀u∈us,SeqAt.EqAt A s u v (Km x u)
 | _,_,.nil,_=>fun u hu=>by cases hu
 | y::xs,u::us,.cons r t,f=>fun u' hu=>by
  rw[List.all_cons,Bool.and_eq_true] at f
  rcases List.mem_cons.mp hu with rfl | hu
  ·rw[Np r f.1];exact RQ r rx f.1 fx
  ·exact DB rx fx t f.2 u' hu
def LK (x:V) (xs:List V):Bool:=xs.any fun y=>OV y x
def SV (K:PySem.W.Frag) (neg:Bool):R2:=fun x y H Q=>∃p xs,y= .ref p∧(SqL K H p xs∨SqT K H p xs)∧Ej x=true∧xs.all Ej=true∧Q (.bl (if neg then !LK x xs else LK x xs)) H
theorem Mj:Eh X (compareOp .In) (SV X.K false):=by
 intro pins s σ H x y v u Q I rx ry h
 obtain⟨p,xs,rfl,hq,fx,fs,q⟩:=h
 cases ry
 rcases hq with hq | hq
 ·obtain⟨its,r,pl,hz⟩:=I.list hq
  refine SeqAt.in_listAt (Km x) pl.isList (fun w hw=>DB rx fx r fs w (by simpa using hw)) ⟨.bl _,H,I,rfl,?_⟩
  rw[show its.toArray.any (Km x)=its.any (Km x) by simp,ER r fs]
  exact q
 ·obtain⟨its,r,pl,hz⟩:=I.tuple hq
  refine SeqAt.in_tupleAt (Km x) pl (fun w hw=>DB rx fx r fs w (by simpa using hw)) ⟨.bl _,H,I,rfl,?_⟩
  rw[show its.toArray.any (Km x)=its.any (Km x) by simp,ER r fs]
  exact q
theorem BH:Eh X (compareOp .NotIn) (SV X.K true):=by
 intro pins s σ H x y v u Q I rx ry h
 obtain⟨p,xs,rfl,hq,fx,fs,q⟩:=h
 cases ry
 rcases hq with hq | hq
 ·obtain⟨its,r,pl,hz⟩:=I.list hq
  refine SeqAt.notIn_listAt (Km x) pl.isList (fun w hw=>DB rx fx r fs w (by simpa using hw)) ⟨.bl _,H,I,rfl,?_⟩
  rw[show its.toArray.any (Km x)=its.any (Km x) by simp,ER r fs]
  exact q
 ·obtain⟨its,r,pl,hz⟩:=I.tuple hq
  refine SeqAt.notIn_tupleAt (Km x) pl (fun w hw=>DB rx fx r fs w (by simpa using hw)) ⟨.bl _,H,I,rfl,?_⟩
  rw[show its.toArray.any (Km x)=its.any (Km x) by simp,ER r fs]
  exact q
theorem Av:BT X (.builtin "len") (fun xs H Q=>∃p ys,xs=[.ref p]∧(SqL X.K H p ys∨SqT X.K H p ys)∧Q (.int ys.length) H):=by
 intro pins s σ H xs us Q I r h
 obtain⟨p,ys,rfl,hq,q⟩:=h
 obtain⟨u,rfl,rx⟩:=DG r
 cases rx
 have hn:=IY
 rcases hq with hq | hq
 ·obtain⟨its,r',pl,hz⟩:=I.list hq
  have hlen:=r'.length
  exact Calls.call_len_list pl.isList (by simp only[List.size_toArray]<;>omega) ⟨.int ys.length,H,I.tok _,⟨s.toks+1,by rw[List.size_toArray,hlen]⟩,q⟩
 ·obtain⟨its,r',pl,hz⟩:=I.tuple hq
  have hlen:=r'.length
  exact len_tuple pl (by simp only[List.size_toArray]<;>omega) ⟨.int ys.length,H,I.tok _,⟨s.toks+1,by rw[List.size_toArray,hlen]⟩,q⟩
theorem AW:BT X (.type "list") (fun xs H Q=>∃p ys,xs=[.ref p]∧(SqL X.K H p ys∨SqT X.K H p ys)∧∀l,H l=none→Q (.ref l) (upd H l (.lst ys))):=by
 intro pins s σ H xs us Q I r h
 obtain⟨p,ys,rfl,hq,q⟩:=h
 obtain⟨u,rfl,rx⟩:=DG r
 cases rx
 have fin:∀(its:List Value),Vals ys its→ys.length≤sizeLine→∀(h':Heap) (c':Nat),(∀b o',s.heap.get? b=some o'→h'.get? b=some o')→
   h'.get? s.heap.objs.size=some { cls:=.type "list",dict:=none,data:=.seq its.toArray c',slots:=#[] }→EP X pins σ Q (.ref s.heap.objs.size) { s with heap:=h' }:=fun its r' hz h' c' kp e=>
  ⟨.ref s.heap.objs.size,_,I.laid (t':=s.toks) kp (Nat.le_refl _) (show ObjOk X.prog X.w _ h' _ (.lst ys) from⟨hz,its,c',r',e⟩),rfl,q _ (I.hok.fresh (Nat.le_refl _))⟩
 rcases hq with hq | hq
 ·obtain⟨its,r',pl,hz⟩:=I.list hq
  have hlen:=r'.length
  obtain⟨o,ho,hc,n,hd⟩:=pl.isList
  exact call_list_seq p (.inl rfl) ho hc hd (fun h' c' kp e=>fin its r' hz h' c' kp e) (by simp only[List.size_toArray]<;>omega)
 ·obtain⟨its,r',pl,hz⟩:=I.tuple hq
  have hlen:=r'.length
  obtain⟨o,ho,hc,n,hd⟩:=pl
  exact call_list_seq p (.inr rfl) ho hc hd (fun h' c' kp e=>fin its r' hz h' c' kp e) (by simp only[List.size_toArray]<;>omega)
def S8 (K:PySem.W.Frag) (T:String) (x:V) (H:Hp):Prop:=match x with
 | .str _=>T="str"
 | .int _=>T="int"
 | .ref p=>(T="list"∧∃xs,SqL K H p xs)∨(T="tuple"∧∃o,K.lookup p=some o∧o.cls= .type "tuple"∧o.dict=none)∨
   (T="dict"∧((∃kvs,H p=some (.dK kvs))∨∃kvs,H p=some (.dT kvs)))∨(T="set"∧∃S n,H p=some (.set S n))
 | _=>False
theorem N8 {pins:List (Addr×Obj)} {σ:St} {H:Hp} {s:Shared} {T:String} {x:V} {v:Value} (I:Inv X pins σ H s) (r:RelV x v) (ty:S8 X.K T x H) :
  s.TypeIs v T∧∀a,v= .ref a→∃ob,s.heap.get? a=some ob∧ob.dict=none:=by
 cases x with
 | str z=>
  obtain⟨t,rfl⟩:=r
  cases (show T="str" from ty)
  exact⟨typeIs_str s z t,fun _ e=>nomatch e⟩
 | int i=>
  obtain⟨t,rfl⟩:=r
  cases (show T="int" from ty)
  exact⟨typeIs_int s i t,fun _ e=>nomatch e⟩
 | ref p=>
  cases r
  rcases ty with⟨rfl,xs,hq⟩|⟨rfl,o,hk,hc,hd⟩|⟨rfl,hk⟩|⟨rfl,S,n,hk⟩
  ·obtain⟨its,_,pl,_⟩:=I.list hq
   refine⟨pl.isList.typeIs,fun a e=>?_⟩
   cases e
   obtain⟨o,n,e,c,hd,_⟩:=pl
   exact⟨o,e,hd⟩
  ·refine⟨⟨o,I.kIn p o hk,hc⟩,fun a e=>?_⟩
   cases e
   exact⟨o,I.kIn _ o hk,hd⟩
  ·have z:∃o,s.heap.get? p=some o∧o.ExactDict:=by
    rcases hk with⟨kvs,hk⟩|⟨kvs,hk⟩
    ·obtain⟨_,_,_,_,o,_,_,e,ex,_⟩:=I.hok p _ hk
     exact⟨o,e,ex⟩
    ·obtain⟨_,_,_,_,o,_,_,e,ex,_⟩:=I.hok p _ hk
     exact⟨o,e,ex⟩
   obtain⟨o,e,ex⟩:=z
   refine⟨⟨o,e,ex.1⟩,fun a e2=>?_⟩
   cases e2
   exact⟨o,e,ex.2.1⟩
  ·obtain⟨o,_,_,_,e,ex,_⟩:=I.hok p _ hk
   refine⟨⟨o,e,ex.1⟩,fun a e2=>?_⟩
   cases e2
   exact⟨o,e,ex.2.1⟩
 | _=>exact False.elim ty
def TF (K:PySem.W.Frag) (T:String) (r:V→List V→Hp→VK→Prop) (to:TE):TE:=fun σ H Q=>to σ H fun x H1=>S8 K T x H1∧r x [] H1 Q
def Ua (K:PySem.W.Frag) (T:String) (r:V→List V→Hp→VK→Prop) (to:TE) (t:TA):TE:=fun σ H Q=>to σ H fun x H1=>S8 K T x H1∧t σ H1 fun xs H2=>r x xs H2 Q
variable {o e:Expr} {es:List Expr} {to:TE} {t:TA} {name:Str} {apos cpos:Pos} {T id:String} {r:V→List V→Hp→VK→Prop}
theorem B8 (pa:PlainAttrs T) (slot:Slot T name id) (hty:typeOf (.builtin id)=pure (.type "method_descriptor")) (hm:TQ X id r) (ho:PE X o to)
  (hbase:attributeBase o name X.env (eval o X.env)=eval o X.env:=by rfl) (hline:(apos.endLine == cpos.line)=true:=by rfl):PE X (.Call (.Attribute o name apos) [] [] cpos) (TF X.K T r to):=by
 intro pins s σ H Q I h
 refine wpAny_Call_method0_late hbase hline (AS (ho pins s σ H _ I h) fun v s1 ⟨x,H1,I1,r1,ty,q1⟩=>?_)
 obtain⟨h1,h2⟩:=N8 I1 r1 ty
 exact⟨T,id,pa,slot,hty,h1,h2,Calls.callWith_builtin rfl (PySem.evalArgs_none (hm pins s1 σ H1 x [] v [] Q I1 r1 .nil q1))⟩
theorem BM (pa:PlainAttrs T) (slot:Slot T name id) (hty:typeOf (.builtin id)=pure (.type "method_descriptor")) (hm:TQ X id r) (ho:PE X o to) (ha:PA X (e::es) t)
  (hbase:attributeBase o name X.env (eval o X.env)=eval o X.env:=by rfl)
  (hfew:((backTo cpos (starEach (e::es) X.env)).all (fun x=>!x.1) && (backToKw cpos (keywordEach [] X.env)).all (fun x=>x.1.isSome)
   && decide ((e::es).length+([]:List Keyword).length+(if ([]:List Keyword).isEmpty then 0 else 1)<30))=true:=by rfl)
  (hline:(apos.endLine == cpos.line)=true:=by rfl) (hs:starEach (e::es) X.env=(false,eval e X.env)::starEach es X.env:=by rfl) (hplain:(backTo cpos (starEach es X.env)).any (·.1)=false:=by rfl) :
  PE X (.Call (.Attribute o name apos) (e::es) [] cpos) (Ua X.K T r to t):=by
 intro pins s σ H Q I h
 refine wpAny_Call_method_late hbase hfew hline rfl (AS (ho pins s σ H _ I h) fun v s1 ⟨x,H1,I1,r1,ty,q1⟩=>?_)
 obtain⟨h1,h2⟩:=N8 I1 r1 ty
 refine⟨T,id,pa,slot,hty,h1,h2,?_⟩
 have hA:=ha cpos pins s1 σ H1 _ I1 q1
 rw[hs] at hA ⊢
 refine Calls.callWith_builtin (by show (false || (backTo cpos (starEach es X.env)).any (·.1))=false;rw[hplain]<;>rfl) (Calls.evalArgs_plain ?_)
 exact AS hA fun us s2 ⟨vs,H2,I2,r2,q2⟩=>hm pins s2 σ H2 x vs v us Q I2 r1 r2 q2
end
end L2
namespace L2
open PySem PySem.Spec PyProof.Rows
def SQ (X:Cx) (id:String) (r:V→List V→Hp→VK→Prop):Prop:=
 ∀(pins:List (Addr×Obj)) (s:Shared) (σ:St) (H:Hp) (x:V) (xs:List V) (v:Value) (us:List Value) (Q:VK),Inv X pins σ H s→RelV x v→Vals xs us→r x xs H Q→
  wpAny (model X.prog X.w) X.A (call (.builtin id) (v::us)) (EP X pins σ Q) X.xe s
theorem Vals.one:∀{x:V} {us:List Value},Vals [x] us→∃u,us=[u]∧RelV x u
 | _,_,.cons r .nil=>⟨_,rfl,r⟩
theorem Vals.zero:∀{us:List Value},Vals [] us→us=[]
 | _,.nil=>rfl
theorem Vals.dropLast {xs:List V} {us:List Value} (h:Vals xs us):Vals xs.dropLast us.dropLast:=by
 induction h with
 | nil=>exact .nil
 | cons r t ih=>
  cases t with
  | nil=>exact .nil
  | cons q t'=>exact .cons r ih
theorem Vals.reverse {xs:List V} {us:List Value} (h:Vals xs us):Vals xs.reverse us.reverse:=by
 induction h with
 | nil=>exact .nil
 | cons r t ih=>rw[List.reverse_cons,List.reverse_cons];exact Vals.append ih (.cons r .nil)
theorem KR {α:Type} (l:List α):l.eraseIdx (l.length-1)=l.dropLast:=by
 induction l with
 | nil=>rfl
 | cons a r ih=>
  cases r with
  | nil=>rfl
  | cons b r=>
   have e:(a::b::r).length-1=((b::r).length-1)+1:=by
    have h1:(a::b::r).length=r.length+2:=rfl
    have h2:(b::r).length=r.length+1:=rfl
    omega
   rw[e,List.eraseIdx_cons_succ,ih]
   all_goals rfl
section
variable {X:Cx} {pins:List (Addr×Obj)} {σ:St} {H:Hp} {s:Shared} {l b:Addr} {xs ys zs:List V}
theorem Inv.lset {its its':List Value} {n:Nat} {f:Array Value→Array Value} {t':Nat} (I:Inv X pins σ H s) (hH:H l=some (.lst xs))
  (e:s.heap.get? l=some { cls:=.type "list",data:=.seq its.toArray n }) (hf:f its.toArray=its'.toArray) (hv:Vals ys its') (hz:ys.length≤sizeLine) :
  Inv X pins σ (upd H l (.lst ys)) { s with heap:=s.heap.update l (Obj.mapSeq f),toks:=t' }:=by
 have q:=PySem.IsL.update e f
 rw[hf] at q
 refine I.write (x:=l) (e:=l) (by rw[hH];exact trivial) (.inl rfl) (fun b' u hb hu=>(Heap.get?_update_other s.heap (Obj.mapSeq f) (Ne.symm hb)).trans hu) ⟨_,q⟩ ?_
 exact⟨hz,its',_,hv,q⟩
theorem Inv.lnew {its:List Value} {t':Nat} (I:Inv X pins σ H s) (hv:Vals ys its) (hz:ys.length≤sizeLine) :
  Inv X pins σ (upd H s.heap.objs.size (.lst ys)) { s with heap:=s.heap.push { cls:=.type "list",data:=.seq its.toArray },toks:=t' }:=
 I.laid (fun _ _ q=>Heap.get?_push_of_some _ q) (Nat.le_refl _) ⟨hz,its,0,hv,Heap.get?_push_size _ rfl⟩
theorem Inv.fresh (I:Inv X pins σ H s):H s.heap.objs.size=none:=I.hok.fresh (Nat.le_refl _)
theorem Inv.lstM (I:Inv X pins σ H s) (hH:H l=some (.lst xs)):xs.length≤sizeLine∧∃(its:List Value) (n:Nat),Vals xs its∧xs.length=its.length∧s.heap.get? l=some { cls:=.type "list",data:=.seq its.toArray n }:=by
 obtain⟨z,its,n,r,e⟩:=I.hok l _ hH
 exact⟨z,its,n,r,r.length,e⟩
theorem Nz {n:Nat} (h:n≤sizeLine):Builtin.List.listTooLong n=false:=by
 unfold Builtin.List.listTooLong
 exact decide_eq_false (by omega)
end
section
variable {X:Cx}
def QD:V→List V→Hp→VK→Prop:=fun x vs H Q=>∃l xs y,x= .ref l∧vs=[y]∧H l=some (.lst xs)∧xs.length<sizeLine∧Q .non (upd H l (.lst (xs++[y])))
theorem AZ:SQ X "list.append" QD:=by
 intro pins s σ H x vs v us Q I rx rv h
 obtain⟨l,xs,y,rfl,rfl,hH,hz,q⟩:=h
 cases rx
 obtain⟨u,rfl,ru⟩:=rv.one
 obtain⟨z,its,n,r,hl,e⟩:=I.lstM hH
 refine call_meets F.slot_list_append ⟨_,e,rfl⟩ F.entry_list_append (F.args_list_append_2 _ _) (PySem.list_append l its.toArray n u (by rw[List.size_toArray];omega)) ⟨e,?_⟩
 refine⟨.non,_,I.lset (its':=its++[u]) hH e (by simp) (r.append (.cons ru .nil)) ?_,rfl,q⟩
 rw[List.length_append,List.length_singleton]
 omega
def PM:V→List V→Hp→VK→Prop:=fun x vs H Q=>∃l b xs zs,x= .ref l∧vs=[.ref b]∧H l=some (.lst xs)∧H b=some (.lst zs)∧xs.length+zs.length≤sizeLine∧Q .non (upd H l (.lst (xs++zs)))
theorem HB:SQ X "list.extend" PM:=by
 intro pins s σ H x vs v us Q I rx rv h
 obtain⟨l,b,xs,zs,rfl,rfl,hH,hB,hz,q⟩:=h
 cases rx
 obtain⟨u,rfl,ru⟩:=rv.one
 cases ru
 obtain⟨z,its,n,r,hl,e⟩:=I.lstM hH
 obtain⟨z2,its2,n2,r2,hl2,e2⟩:=I.lstM hB
 have hsz:its.toArray.size+its2.toArray.size≤sizeLine:=by rw[List.size_toArray,List.size_toArray];omega
 have hlong:¬(!its.toArray.isEmpty && Builtin.List.listTooLong (its.toArray.size+its2.toArray.size))=true:=by
  rw[Nz hsz,Bool.and_false]
  exact Bool.false_ne_true
 refine call_meets F.slot_list_extend ⟨_,e,rfl⟩ F.entry_list_extend (F.args_list_extend_2 _ _)
  (AutoSeq1.list_extend_list_list_0 l its.toArray n b its2.toArray n2 hlong (by rw[List.size_toArray];omega) (by omega)) ⟨e,e2,?_⟩
 refine⟨.non,_,I.lset (its':=its++its2) hH e (by simp) (r.append r2) ?_,rfl,q⟩
 rw[List.length_append]
 omega
def S6:V→List V→Hp→VK→Prop:=fun x vs H Q=>∃l xs y,x= .ref l∧vs=[]∧H l=some (.lst xs)∧xs[xs.length-1]? = some y∧Q y (upd H l (.lst xs.dropLast))
theorem Co:SQ X "list.pop" S6:=by
 intro pins s σ H x vs v us Q I rx rv h
 obtain⟨l,xs,y,rfl,rfl,hH,hy,q⟩:=h
 cases rx
 have hus:=rv.zero
 subst hus
 obtain⟨z,its,n,r,hl,e⟩:=I.lstM hH
 obtain⟨u,hu,ru⟩:=r.get hy
 have hy':its.toArray[its.toArray.size-1]? = some u:=by
  show its.toArray[its.length-1]? = some u
  rw[←Array.getElem?_toList,←hl]
  exact hu
 refine call_meets F.slot_list_pop ⟨_,e,rfl⟩ F.entry_list_pop (F.args_list_pop_1 _) (MeetsSeq.list_pop_last l its.toArray n u hy' (by rw[List.size_toArray];omega)) ⟨e,?_⟩
 refine⟨y,_,I.lset (its':=its.dropLast) hH e ?_ r.dropLast ?_,ru,q⟩
 ·show its.toArray.eraseIdxIfInBounds (its.toArray.size-1)=its.dropLast.toArray
  rw[List.size_toArray,List.eraseIdxIfInBounds_toArray,KR]
 ·rw[List.length_dropLast]
  omega
def NI:V→List V→Hp→VK→Prop:=fun x vs H Q=>∃l xs,x= .ref l∧vs=[]∧H l=some (.lst xs)∧Q .non (upd H l (.lst xs.reverse))
theorem Kt:SQ X "list.reverse" NI:=by
 intro pins s σ H x vs v us Q I rx rv h
 obtain⟨l,xs,rfl,rfl,hH,q⟩:=h
 cases rx
 have hus:=rv.zero
 subst hus
 obtain⟨z,its,n,r,hl,e⟩:=I.lstM hH
 refine call_meets F.slot_list_reverse ⟨_,e,rfl⟩ F.entry_list_reverse (F.args_list_reverse_1 _) (AutoSeq1.list_reverse_list_0 l its.toArray n (by rw[List.size_toArray];omega)) ⟨e,?_⟩
 refine⟨.non,_,I.lset (its':=its.reverse) hH e (by simp) r.reverse ?_,rfl,q⟩
 rw[List.length_reverse]
 omega
end
section
variable {prog:Program} {w:World} {A:Around} {E:Value→Shared→Prop} {s:Shared}
end
section
variable {X:Cx}
end
end L2
namespace Att
open PySem PySem.W PySem.Calls PyProof.Rows
theorem FU {P:Params} {h:Heap}:∀(ns:List Int) (vs:List Value),WellAll P h vs (ns.map WData.int)→IntsAre vs ns:=by
 intro ns
 induction ns with
 | nil=>
  intro vs w
  rw[List.map_nil] at w
  cases w
  exact .nil
 | cons n ns ih=>
  intro vs w
  rw[List.map_cons] at w
  cases w with
  | cons a b=>
   cases a
   exact .cons _ _ (ih _ b)
theorem M5 {l:OpenLaw} {n:Nat} (hn:l.most=some n) {P:Params} {h:Heap} {args:List WData} {vals:List Value}
  (hpre:l.row.toRowW.claim.pre args=true) (hwl:WellAll P h vals args) :
  ∃a vs ns,vals=[Value.ref a]∧args=[WData.list (ns.map WData.int)]∧h.get? a=some { cls:=.type "list",data:=.seq vs.toArray }∧IntsAre vs ns∧ns.length≤n:=by
 have hsh:WShape.hasAll [] args [.list .int]=true:=(pre_splitW hpre).1
 have hc:l.pre.holds [] { args:=args }=true:=(pre_splitW hpre).2
 obtain⟨d,r,rfl,h1,h2⟩:=hasAllW_cons hsh
 obtain rfl:=hasAllW_nil h2
 obtain⟨xs,rfl,h3⟩:=hasW_list h1
 obtain⟨ns,rfl⟩:=items_int h3
 have hlen:ns.length≤n:=by
  unfold OpenLaw.pre at hc
  have h4:(WTm.not (.lt (.lit (.int (n:Int))) (.len (.arg 0)))).holds [] { args:=[.list (ns.map .int)] }=true:=by
   have h4:=(holds_andW hc).1
   rw[hn] at h4
   exact h4
  have h5:=condW_of h4 (w_not (w_lt w_lit (w_len_list (w_arg rfl))))
  rw[List.length_map] at h5
  refine Nat.le_of_not_lt fun q=>?_
  have q':(n:Int)<((ns.length:Nat):Int):=by omega
  first
   | (rw[decide_eq_true q'] at h5;exact absurd h5 (by decide))
   | (simp at h5;omega)
 cases hwl with
 | cons w1 w2=>
  cases w2
  cases w1 with
  | list ho hall=>exact⟨_,_,ns,rfl,rfl,ho,FU ns _ hall,hlen⟩
theorem M4 (l:OpenLaw) (args:List WData):l.row.toRowW.claim.post args (.bool true) args=true:=
 postW_of (r:=l.row.toRowW) (X:=(true == true))
  (show WShape.has [] (.bool true) .bool=true by first | rfl | decide | simp[WShape.has,WShape.arms,WShape.armsAll])
  (show (WTm.eq .res (.lit (.bool true))).value [] { args:=args,res:=some (.bool true),after:=args }=some (.bool (true == true)) from w_eq_bool (w_res rfl) w_lit) rfl
theorem attach_call {l:OpenLaw} {n:Nat} {q:Program} {loose:List Str} {XP:(Str→Option Value)→Heap→Prop} {YP:World→Heap→Prop} {d:DefRec}
  (hn:l.most=some n) (hdf:d.params.defaults=[])
  (call:∀(w:World) (s₀ s₁:Shared) (mg mb:Str→Option Value) (fa:Addr) (o:Obj) (pm cd doc:Value) (a:Addr) (vs:List Value) (ns:List Int),
   Ground q loose [] XP w s₀ mg mb s₁.heap→YP w s₁.heap→
   s₁.heap.get? fa=some o→o.data= .func (docDef d.name d.params d.body d.scope pm cd doc)→s₁.heap.CodeRec cd d.name→mg d.name=some (.ref fa)→
   s₁.heap.get? a=some { cls:=.type "list",data:=.seq vs.toArray }→IntsAre vs ns→ns.length≤n→s₁.gens = #[]→
   codeAny (model l.prog w) callerA (.call (.ref fa) ⟨[.ref a],[]⟩) (fun r s'=>r= .ok (.ret (.bool true))∧OldK s₁.heap s'.heap∧s'.os=s₁.os∧AllBare s'.gens) s₁) :
  WalkO q loose XP YP l.row.toRowW d [] (fun f vs=>PySem.call f vs):=by
 intro w s₀ s₁ mg mb G Y fa o pm cd doc dV kV ho hd hcd hD hmg hg args vals as hpre hlay hrd hwl hlo
 obtain rfl:dV= .none:=Dflts.none hD hdf
 obtain rfl:kV= .none:=Dflts.noKw hD
 obtain⟨a,vs,ns,rfl,rfl,hobj,hints,hlen⟩:=M5 hn hpre hwl
 refine enter_call (codeAny_mono (call w s₀ s₁ mg mb fa o pm cd doc a vs ns G Y ho (fd_plain hd) hcd hmg hobj hints hlen hg) fun r s' hq=>?_)
 obtain⟨rfl,h2,h3,h4⟩:=hq
 exact⟨.inl ⟨.bool true,.bool true,[],rfl,fun _=>rfl,.bool true,M4 l _,fun _=>⟨List.Pairwise.nil,fun _ hm=>(nomatch hm)⟩⟩,h2,h3,h4⟩
section
variable {prog:Program} {w:World} {A:Around} {E:Value→Shared→Prop} {s:Shared} {K:Frag}
end
end Att
namespace L2
open PySem PySem.Spec PyProof.Rows
theorem FJ:∀{vs:List Value} {ns:List Int},IntsAre vs ns→Vals (ns.map V.int) vs
 | _,_,.nil=>.nil
 | _,_,.cons n t h=>.cons ⟨t,rfl⟩ (FJ h)
def Rx (H:Hp):Prop:=∀b,H b=none∨∃o xs,H b=some (.frz o (.lst xs))
theorem Oh {P:Program} {w:World} {K:PySem.W.Frag} {mg mb:Str→Option Value} {CX:Lf} {k:Nat} {fa a:Addr} {fd:FuncData} {x:Str} {sp:Sp} {s₁:Shared} {vs:List Value} {ns:List Int}
  (KX:K.In s₁.heap) (hns:s₁.heap.Ns mainGlobals mg) (hb:s₁.heap.Ns builtinsNs mb) (hbb:∀x:Str,x≠"__name__"→mb x=bootBuiltins x) (hlim:s₁.heap.NoLimit) (hg:s₁.gens = #[])
  (ha:s₁.heap.get? a=some { cls:=.type "list",data:=.seq vs.toArray }) (hi:IntsAre vs ns) (hl:ns.length≤sizeLine) (hr:Room k callerA)
  (F:∀base:Heap,K.In base→base.Ns mainGlobals mg→FnOk P w K mg base CX k fa fd [x] sp) (hbind:∀(s:Shared) (u:Value),BindsTo s fd ⟨[u],[]⟩ [(x,u)])
  (hsp:∀H:Hp,Rx H→SqL K H a (ns.map V.int)→sp [.ref a] H (fun v _=>v= .bl true) fun _ _ _=>False)
  (hCX:∀H e s',CX [] H s₁ (fun _ _ _=>False) e s'→False) :
  codeAny (model P w) callerA (.call (.ref fa) ⟨[.ref a],[]⟩) (fun r s'=>r= .ok (.ret (.bool true))∧OldK s₁.heap s'.heap∧s'.os=s₁.os∧AllBare s'.gens) s₁:=by
 have rv:=FJ hi
 have lenV:=hi.length
 have core:∀H:Hp,Rx H→SqL K H a (ns.map V.int)→HOk P w H s₁.heap→(∀b,H b≠none→b=a)→(H a≠none→K.lookup a=none)→
   codeAny (model P w) callerA (.call (.ref fa) ⟨[.ref a],[]⟩) (fun r s'=>r= .ok (.ret (.bool true))∧OldK s₁.heap s'.heap∧s'.os=s₁.os∧AllBare s'.gens) s₁:=by
  intro H hO hS hok hA hK
  have D8:∀{b:Addr} {o:Obj},s₁.heap.get? b=some o→H b=none→(IE s₁.heap H).get? b=some o:=fun e n=>NM e n
  have noA:∀{b:Addr} {o:Obj} {es:Array DictEntry} {ep:Nat},s₁.heap.get? b=some o→o.data= .dict es ep→H b=none:=fun {b o es ep} e d=>by
   cases q:H b with
   | none=>rfl
   | some u=>
    have e':b=a:=hA b (by rw[q];simp)
    subst e'
    rw[ha] at e;cases e
    have d':Data.seq vs.toArray _=Data.dict es ep:=d
    cases d'
  have nsK:∀{b:Addr} {m:Str→Option Value},s₁.heap.Ns b m→(IE s₁.heap H).Ns b m:=fun {b m} ⟨o,es,ep,e,d,r⟩=>⟨o,es,ep,D8 e (noA e d),d,r⟩
  have hKb:K.In (IE s₁.heap H):=fun b o e=>D8 (KX b o e) (by
   cases q:H b with
   | none=>rfl
   | some u=>
    have e':b=a:=hA b (by rw[q];simp)
    subst e'
    rw[hK (by rw[q];simp)] at e;cases e)
  have hM:Mod K mg (IE s₁.heap H):=⟨hKb,nsK hns,⟨mb,nsK hb,hbb⟩,let ⟨mc,h1,h2⟩:=hlim;⟨mc,nsK h1,h2⟩⟩
  have e0:Env0 P w K mg (IE s₁.heap H) callerA [] s₁ H:=⟨rfl,hM,fun b o e=>PU e,Nat.le_of_eq (MI _ _),trivial,fun b hb=>absurd (show b∈([]:List Addr) from hb) (by simp),hok,.of_eq hg⟩
  refine codeAny_mono ((F _ hKb (nsK hns)).run callerA [] s₁ H ⟨[.ref a],[]⟩ [.ref a] [.ref a] _ _ hr e0 (hbind s₁ (.ref a)) (.cons rfl .nil) (hsp H hO hS)) fun r s' h=>?_
  cases r with
  | error e=>exact (hCX H e s' h).elim
  | ok fl=>
   cases fl with
   | next=>exact False.elim h
   | brk=>exact False.elim h
   | cont=>exact False.elim h
   | ret u=>
    obtain⟨v,H',os,bare,un,hok',r',q⟩:=h
    have q':v= .bl true:=q
    subst q'
    obtain rfl:u=Value.bool true:=r'
    refine⟨rfl,OldK.of_keep fun b o e=>?_,os,bare⟩
    cases q:H b with
    | none=>exact un.keep b o e q (by intro z;exact absurd (show b∈([]:List Addr) from z) (by simp)) (by simp)
    | some u=>
     rcases hO b with z | ⟨ob,xs,z⟩
     ·rw[q] at z;cases z
     ·have z2:=un.frzs b ob _ z
      obtain⟨e1,_⟩:=hok b _ z
      obtain⟨e2,_⟩:=hok' b _ z2
      rw[e] at e1;cases e1
      exact e2
 cases hk:K.lookup a with
 | some o=>
  have e:=KX a o hk
  rw[ha] at e
  cases e
  refine core (fun _=>none) (fun _=>.inl rfl) (.inr ⟨_,vs.toArray,_,hk,rfl,rfl,rfl,by rw[List.size_toArray,lenV];exact hl,by simpa using rv⟩) (fun b u z=>by have z':(none:Option HO)=some u:=z;cases z') (fun b z=>absurd rfl z) fun z=>absurd rfl z
 | none=>
  refine core (fun b=>if b=a then some (.frz { cls:=.type "list",data:=.seq vs.toArray } (.lst (ns.map V.int))) else none) (fun b=>?_) (.inl (.inr ⟨{ cls:=.type "list",data:=.seq vs.toArray },if_pos rfl⟩)) (fun b u z=>?_) (fun b z=>?_) fun _=>hk
  ·by_cases hb:b=a
   ·exact .inr ⟨_,_,if_pos hb⟩
   ·exact .inl (if_neg hb)
  ·by_cases hb:b=a
   ·have z':=(if_pos hb).symm.trans z
    cases z'
    subst hb
    exact⟨ha,by rw[List.length_map];exact hl,vs,_,rv,ha⟩
   ·have z':=(if_neg hb).symm.trans z
    cases z'
  ·by_cases hb:b=a
   ·exact hb
   ·exact absurd (if_neg hb) z
end L2
namespace L2
open PySem PySem.Spec PyProof.Rows
theorem walk_of {l:PySem.W.OpenLaw} {n k:Nat} {q:Program} {loose:List Str} {XP:(Str→Option Value)→Heap→Prop} {YP:World→Heap→Prop} {d:DefRec} {K:Params→PySem.W.Frag} {CX:World→Lf} {sp:World→Sp} {x:Str}
  (hn:l.most=some n) (hn2:n≤sizeLine) (hdf:d.params.defaults=[]) (hr:Room k callerA)
  (hY:∀(w:World) (h:Heap),YP w h→(K w.params).In h)
  (F:∀(w:World) (mg:Str→Option Value) (fa:Addr) (h:Heap),(K w.params).In h→h.Ns mainGlobals mg→mg d.name=some (.ref fa)→
   ∃fd:FuncData,(∀(s:Shared) (u:Value),BindsTo s fd ⟨[u],[]⟩ [(x,u)])∧
    ∀base:Heap,(K w.params).In base→base.Ns mainGlobals mg→FnOk l.prog w (K w.params) mg base (CX w) k fa fd [x] (sp w))
  (hsp:∀(w:World) (H:Hp) (a:Addr) (ns:List Int),ns.length≤n→Rx H→SqL (K w.params) H a (ns.map V.int)→sp w [.ref a] H (fun v _=>v= .bl true) fun _ _ _=>False)
  (hCX:∀(w:World) (H:Hp) (s:Shared) (e:Value) (s':Shared),CX w [] H s (fun _ _ _=>False) e s'→False) :
  PySem.W.WalkO q loose XP YP l.row.toRowW d [] (fun f vs=>PySem.call f vs):=by
 refine Att.attach_call hn hdf fun w s₀ s₁ mg mb fa o pm cd doc a vs ns G Y ho hd hcd hmg hobj hints hlen hg=>?_
 have KX:=hY w _ Y
 obtain⟨fd,hb,hF⟩:=F w mg fa _ KX G.T.g hmg
 exact Oh KX G.T.g G.T.b G.T.builtins G.T.nolimit hg hobj hints (Nat.le_trans hlen hn2) hr hF hb (fun H hO hS=>hsp w H a ns hlen hO hS) fun H e s'=>hCX w H s₁ e s'
end L2
namespace L2
open PySem PySem.Spec PyProof.Rows
def BL (s:Stmt) (j:Nat):Stmt:=match s with
 | .ClassDef _ _ _ body _ _ _ _ _ _ _=>body.getD j (.Pass ⟨0,0,0,0⟩)
 | _=>.Pass ⟨0,0,0,0⟩
def Ar (s:Stmt):Arguments:=match s with
 | .FunctionDef _ a _ _ _ _ _ _ _ _=>a
 | _=>{ posonlyargs:=[],args:=[],vararg:=none,kwonlyargs:=[],kw_defaults:=[],kwarg:=none,defaults:=[] }
def Ap (s:Stmt):List Stmt:=match s with
 | .FunctionDef _ _ b _ _ _ _ _ _ _=>b
 | _=>[]
def Ae (s:Stmt):Scope:=match s with
 | .FunctionDef _ _ _ _ _ _ sc _ _ _=>sc
 | _=>{ kind:=.function,names:=[],isGenerator:=false,isCoroutine:=false }
abbrev AE:Lf:=fun _ _ _ _ _ _=>False
abbrev E0:XK:=fun _ _ _=>False
theorem Aq {X:Cx}:Dp AE X E0:=fun _ _ _ _ _ _ _ h=>h.elim
structure Fun (K:PySem.W.Frag) (x qual:Str) (st:Stmt) (f:Addr) (fd:FuncData):Prop where
 ex:∃(oc:Value) (od:Option Addr) (kV doc pm:Value) (an:Option Addr) (cdv ct:Value) (osl:Array (Option Value)),
  fd=PySem.W.fnOf x qual (Ar st) (Ap st) (Ae st) .none kV doc pm an cdv ct∧K.lookup f=some ⟨oc,od,.func fd,osl⟩∧PySem.W.codeIn K cdv qual=true
 kp:PySem.W.keepIn K (.ref f)=true
section
variable {P:Program} {w:World} {K:PySem.W.Frag} {mg:Str→Option Value} {base:Heap}
theorem Fun.ok {x qual:Str} {st:Stmt} {f:Addr} {fd:FuncData} {N ps:List Str} {k:Nat} {sp:Sp} (F:Fun K x qual st f fd) (S:As N ps (Ae st)) (len:∀vs H Q E,sp vs H Q E→vs.length=ps.length)
  (hbody:∀(cdv:Value) (A:Around) (outer:List Env) (s:Shared) (H:Hp) (vs:List V) (Q:VK) (E:XK),Room k (A.deeper (envOfC qual (Ae st) s.heap.objs.size f cdv))→sp vs H Q E→
   ∃t,PSs (Jc AE P w K mg base N qual (Ae st) f cdv A outer s H E).nox (Ap st) t∧t { nx:=fun _ H'=>Q .non H',rt:=Q } (EK N vs) H):FnOk P w K mg base AE (k+1) f fd ps sp:=by
 obtain⟨oc,od,kV,doc,pm,an,cdv,ct,osl,rfl,lk,hcd⟩:=F.ex
 refine Q4 lk hcd S len fun A outer s H vs Q E hr hsp=>?_
 obtain⟨t,h,q⟩:=hbody cdv A outer s H vs Q E hr hsp
 exact⟨t,h.nox,q⟩
theorem Fun.binds {x qual:Str} {st:Stmt} {f:Addr} {fd:FuncData} {ps:List Str} (F:Fun K x qual st f fd)
  (h:∀(kV doc pm:Value) (an:Option Addr) (cdv ct:Value) (us:List Value),us.length=ps.length→bindArgs (PySem.W.fnOf x qual (Ar st) (Ap st) (Ae st) .none kV doc pm an cdv ct) ⟨us,[]⟩=pure (ps.zip us)):Binds K fd ps []:=by
 obtain⟨oc,od,kV,doc,pm,an,cdv,ct,osl,rfl,lk,hcd⟩:=F.ex
 exact .all (h kV doc pm an cdv ct)
theorem Az {x qual:Str} {st:Stmt} {f:Addr} {oc:Value} {od an:Option Addr} {osl:Array (Option Value)} {kV doc pm cdv ct:Value} (l:K.lookup f=some ⟨oc,od,.func (PySem.W.fnOf x qual (Ar st) (Ap st) (Ae st) .none kV doc pm an cdv ct),osl⟩)
  (c:PySem.W.codeIn K cdv qual=true) (k:PySem.W.keepIn K (.ref f)=true):Fun K x qual st f (PySem.W.fnOf x qual (Ar st) (Ap st) (Ae st) .none kV doc pm an cdv ct):=⟨⟨oc,od,kV,doc,pm,an,cdv,ct,osl,rfl,l,c⟩,k⟩
end
theorem AF {n:Nat} (h:n≤1000):n<sizeLine:=Nat.lt_of_le_of_lt h (by decide)
section
variable {X:Cx}
theorem pv (i:Nat) {x:Str} {pos:Pos} (hN:X.N[i]? = some x:=by rfl) (hv:S7 X.env.scope x:=by first | exact Or.inl rfl | exact Or.inr (Or.inl rfl) | exact Or.inr (Or.inr rfl)) (hd:(x == ("__debug__":Str))=false:=by decide)
  (hcd:(x == ("__classdict__":Str))=false:=by decide):PE X (.Name x pos) (NP i):=Ry hN hv hd hcd
end
theorem AX {A B:Prop} (h:B):if false=true then A else B:=by
 rw[if_neg Bool.false_ne_true]
 exact h
theorem Bt {A B:Prop} (h:A):if true=true then A else B:=by
 rw[if_pos rfl]
 exact h
theorem BY {c A B:Prop} [Decidable c] (h1:c→A) (h2:¬c→B):if c then A else B:=by
 by_cases h:c
 ·rw[if_pos h]
  exact h1 h
 ·rw[if_neg h]
  exact h2 h
theorem FS {c A B:Prop} [Decidable c] (hc:c) (h:B):if (!decide c)=true then A else B:=by
 rw[decide_eq_true hc]
 exact AX h
def Same (H H':Hp):Prop:=∀b o,H b=some o→H' b=some o
theorem Same.refl (H:Hp):Same H H:=fun _ _ h=>h
theorem Same.trans {H H1 H2:Hp} (a:Same H H1) (b:Same H1 H2):Same H H2:=fun c o h=>b c o (a c o h)
theorem Same.free {H H':Hp} (e:Same H H') {l:Addr} (h:H' l=Option.none):H l=Option.none:=by
 cases q:H l with
 | none=>rfl
 | some o=>
  rw[e l o q] at h
  cases h
theorem Same.seq {K:PySem.W.Frag} {H H':Hp} {a:Addr} {xs:List V} (e:Same H H') (h:SqL K H a xs):SqL K H' a xs:=by
 rcases h with (h | ⟨o,h⟩) | h
 ·exact .inl (.inl (e _ _ h))
 ·exact .inl (.inr ⟨o,e _ _ h⟩)
 ·exact .inr h
end L2
namespace L2
open PySem PySem.Spec PyProof.Rows
section
variable {X:Cx}
theorem Ba:BT X (.builtin "isinstance") (fun xs H Q=>∃x T t b,xs=[x,.ty T]∧ES X.K H x t∧PySem.W.kitOne X.K t (.type T)=some b∧Q (.bl b) H):=by
 intro pins s σ H xs us Q I r h
 obtain⟨x,T,t,b,rfl,ty,e,q⟩:=h
 obtain⟨u,w',rfl,rx,ry⟩:=Oc r
 cases ry
 exact HV I rx ty e fun tk=>⟨.bl b,H,I.tok _,rfl,q⟩
theorem A4 (K:PySem.W.Frag) (T:String):PySem.W.kitOne K (.type T) (.type T)=some true:=by
 unfold PySem.W.kitOne
 rw[if_pos (beq_self_eq_true _)]
theorem IT (K:PySem.W.Frag):PySem.W.kitOne K (.type "int") (.type "bool")=some false:=by
 with_unfolding_all rfl
def Te (K:PySem.W.Frag):R2:=fun x y H Q=>∃a b xs,x= .ref a∧y= .ref b∧SqL K H a xs∧SqL K H b []∧Q (.bl (!xs.isEmpty)) H
theorem Hk (hu:X.A.units<cLine):Eh X (compareOp .NotEq) (Te X.K):=by
 intro pins s σ H x y v u Q I rx ry h
 obtain⟨a,b,xs,rfl,rfl,ha,hb,q⟩:=h
 cases rx
 cases ry
 obtain⟨its,r,pl,hz⟩:=I.list ha
 obtain⟨its2,r2,pl2,hz2⟩:=I.list hb
 cases r2
 cases r with
 | nil=>exact SeqAt.RcNeAt.lists (e:=fun _=>true) pl.isList pl2.isList rfl hu (fun j h1=>absurd h1 (Nat.not_lt_zero _)) _ _ _ _ ⟨.bl false,H,I,rfl,q⟩
 | cons r1 r2=>exact SeqAt.RcNeAt.lists_lengths pl.isList pl2.isList (by simp) hu _ _ _ _ ⟨.bl true,H,I,rfl,q⟩
def S9 (K:PySem.W.Frag):R2:=fun x y H Q=>∃a b xs,x= .ref a∧y= .ref b∧SqL K H a xs∧SqL K H b []∧Q (.bl xs.isEmpty) H
theorem OS (hu:X.A.units<cLine):Eh X (compareOp .Eq) (S9 X.K):=by
 intro pins s σ H x y v u Q I rx ry h
 obtain⟨a,b,xs,rfl,rfl,ha,hb,q⟩:=h
 cases rx
 cases ry
 obtain⟨its,r,pl,hz⟩:=I.list ha
 obtain⟨its2,r2,pl2,hz2⟩:=I.list hb
 cases r2
 cases r with
 | nil=>exact SeqAt.RcAt.lists (e:=fun _=>true) pl.isList pl2.isList rfl hu (fun j h1=>absurd h1 (Nat.not_lt_zero _)) _ _ _ _ ⟨.bl true,H,I,rfl,q⟩
 | cons r1 r2=>exact SeqAt.RcAt.lists_lengths pl.isList pl2.isList (by simp) hu _ _ _ _ ⟨.bl false,H,I,rfl,q⟩
end
end L2
namespace HT2
open PySem L2
def TS (H H':Hp):Prop:=∀p xs,H p=some (.tup xs)→H' p=some (.tup xs)
theorem TS.trans {H H1 H2:Hp} (a:TS H H1) (b:TS H1 H2):TS H H2:=fun p xs e=>b p xs (a p xs e)
theorem TS.same {H H':Hp} (s:Same H H'):TS H H':=fun p xs e=>s p _ e
theorem TS.lst {H:Hp} {l:Addr} {xs:List V} {o:HO} (h:H l=some (.lst xs)):TS H (upd H l o):=fun p ys e=>by
 rw[Ax (Dv e h (by intro z;cases z))]
 exact e
theorem TS.new {H:Hp} {l:Addr} {o:HO} (h:H l=none):TS H (upd H l o):=fun p ys e=>by
 rw[Ax (Am e h)]
 exact e
theorem Ag {H:Hp} {p:Addr} (h:H p=none) (o:HO):Same H (upd H p o):=fun b u q=>by rw[Ax (Am q h)];exact q
theorem AH {H0 H:Hp} {p:Addr} (s:Same H0 H) (h:H0 p=none) (o:HO):Same H0 (upd H p o):=fun b u q=>by rw[Ax (Am q h)];exact s b u q
inductive Tr where
 | lt (k:Nat)
 | nt (t:Tr)
 | bn (j:Nat) (a b:Tr)
 deriving DecidableEq
def jn:Nat→Str
 | 0=>"and"
 | 1=>"or"
 | 2=>"if"
 | _=>"same"
def Tr.At (H:Hp):Tr→V→Prop
 | .lt k,v=>∃p,v= .ref p∧H p=some (.tup [.str "let",.int k])
 | .nt t,v=>∃p u,v= .ref p∧H p=some (.tup [.str "not",u])∧t.At H u
 | .bn j a b,v=>∃p x y,v= .ref p∧H p=some (.tup [.str (jn j),x,y])∧a.At H x∧b.At H y
def Tr.size:Tr→Nat
 | .lt _=>1
 | .nt t=>t.size+1
 | .bn _ a b=>a.size+b.size+1
def Tr.ok (m:Nat):Tr→Prop
 | .lt k=>k<m
 | .nt t=>t.ok m
 | .bn j a b=>j<4∧a.ok m∧b.ok m
theorem Tr.size_pos:∀t:Tr,0<t.size
 | .lt _=>Nat.one_pos
 | .nt _=>Nat.succ_pos _
 | .bn _ _ _=>Nat.succ_pos _
theorem Tr.At.keep {H H':Hp} (s:TS H H'):∀{t:Tr} {v:V},t.At H v→t.At H' v
 | .lt k,v,h=>by
  obtain⟨p,e,h⟩:=h
  exact⟨p,e,s _ _ h⟩
 | .nt t,v,h=>by
  obtain⟨p,u,e,h,q⟩:=h
  exact⟨p,u,e,s _ _ h,Tr.At.keep s q⟩
 | .bn j a b,v,h=>by
  obtain⟨p,x,y,e,h,q,r⟩:=h
  exact⟨p,x,y,e,s _ _ h,Tr.At.keep s q,Tr.At.keep s r⟩
theorem Tr.ok.mono {m n:Nat} (h:m≤n):∀{t:Tr},t.ok m→t.ok n
 | .lt k,q=>Nat.lt_of_lt_of_le q h
 | .nt t,q=>Tr.ok.mono (t:=t) h q
 | .bn j a b,q=>⟨q.1,Tr.ok.mono (t:=a) h q.2.1,Tr.ok.mono (t:=b) h q.2.2⟩
abbrev Pile (H:Hp):List V→List Tr→Prop:=Paired fun (v:V) (t:Tr)=>t.At H v
theorem Pile.keep {H H':Hp} (s:TS H H'):∀{xs:List V} {ts:List Tr},Pile H xs ts→Pile H' xs ts
 | _,_,.nil=>.nil
 | _,_,.cons r q=>.cons (Tr.At.keep s r) (Pile.keep s q)
theorem Pile.len {H:Hp}:∀{xs:List V} {ts:List Tr},Pile H xs ts→xs.length=ts.length
 | _,_,.nil=>rfl
 | _,_,.cons _ q=>congrArg (· + 1) (Pile.len q)
theorem Pile.snoc {H:Hp} {y:V} {t:Tr} (h:t.At H y):∀{xs:List V} {ts:List Tr},Pile H xs ts→Pile H (xs++[y]) (ts++[t])
 | _,_,.nil=>.cons h .nil
 | _,_,.cons r q=>.cons r (Pile.snoc h q)
theorem Pile.last {H:Hp}:∀{xs:List V} {ts:List Tr},Pile H xs ts→0<ts.length→∃xs' y ts' t,xs=xs'++[y]∧ts=ts'++[t]∧Pile H xs' ts'∧Tr.At H t y
 | _,_,.nil,h=>absurd h (Nat.lt_irrefl _)
 | _,_,.cons (a:=v) (b:=t) r .nil,_=>⟨[],v,[],t,rfl,rfl,.nil,r⟩
 | _,_,.cons (a:=v) (b:=t) r (.cons r' q'),_=>by
  obtain⟨xs',y,ts',u,e1,e2,q,a⟩:=Pile.last (Paired.cons r' q') (Nat.succ_pos _)
  exact⟨v::xs',y,t::ts',u,by rw[e1];rfl,by rw[e2];rfl,.cons r q,a⟩
def sz (ts:List Tr):Nat:=(ts.map Tr.size).sum
theorem Bx (ts:List Tr) (t:Tr):sz (ts++[t])=sz ts+t.size:=by
 unfold sz
 rw[List.map_append,List.sum_append]
 simp
theorem DV (xs:List V) (y:V):(xs++[y])[(xs++[y]).length-1]? = some y:=by
 simp
theorem small {n:Nat} (h:n≤1000):n≤sizeLine:=Nat.le_of_lt (AF h)
theorem DP:2≤sizeLine:=by decide
theorem IO:3≤sizeLine:=by decide
theorem Tz:4≤sizeLine:=by decide
theorem TR:5≤sizeLine:=by decide
theorem Nd:1≤sizeLine:=by decide
theorem Ka:0≤sizeLine:=by decide
def joints:List V:=[.str "and",.str "or",.str "if",.str "same"]
theorem DM {i:Int} (h0:0≤i) (h1:i<4):FV joints i=some (.str (jn i.toNat)):=by
 obtain⟨n,rfl⟩:=Int.eq_ofNat_of_zero_le h0
 have hn:n<4:=by omega
 rw[Int.toNat_natCast]
 refine Aj ?_
 match n,hn with
 | 0,_=>rfl
 | 1,_=>rfl
 | 2,_=>rfl
 | 3,_=>rfl
end HT2
namespace L2
open PySem PySem.Spec PyProof.Rows
abbrev Et:Value→Shared→Prop:=fun _ _=>False
theorem Lp {α:Type} {t:Sem α} {Q:α→Shared→Prop} {M:Model} {A:Around} {E:Value→Shared→Prop} {s:Shared} (h:wpAny M A t Q Et s):wpAny M A t Q E s:=wpAny_mono h (fun _ _ q=>q) fun _ _ z=>False.elim z
def Eu (J:It) (g:TG) (tb:TS) (D:Ce) (σ:St) (H:Hp):Prop:=∃W:Nat→Nat→St→Hp→Prop,(∃m,W 0 m σ H)∧∀i m σ H,W i m σ H→
 (J.stop i H∧D.nx σ H)∨(J.go i H∧∃N:St→Hp→Prop,(∀σ' H',N σ' H'→∃m',m'<m∧W (i+1) m' σ' H')∧∀x H',J.yld i H x H'→g x σ H' fun σ2 H2=>tb { D with nx:=N,ct:=N,bk:=D.nx } σ2 H2)
abbrev Px:=(Shared→Prop)→Shared→Prop
structure PB (X:Cx) (WB:Px) (tb:TS):Prop where
 mono:∀(Qa Qb:Shared→Prop) (s:Shared),(∀s,Qa s→Qb s)→WB Qa s→WB Qb s
 run:∀(pins:List (Addr×Obj)) (s:Shared) (σ:St) (H:Hp) (D:Ce),Inv X pins σ H s→tb D σ H→WB (fun s'=>∃σ' H',Inv X pins σ' H' s'∧D.nx σ' H') s
def HT (X:Cx) (e:Expr) (d:Nat) (it acc:Value) (tg:Expr) (WB:Px):Prop:=∀(s:Shared) (Qd Qa:Shared→Prop),
 wpAny (model X.prog X.w) X.A (pyNext it) (fun r s1=>match r with | none=>Qd s1 | some v=>wpAny (model X.prog X.w) X.A (letOwnedTupleGo tg it v) (fun _ s2=>wpAny (model X.prog X.w) X.A (assign tg X.env v) (fun _ s3=>WB Qa s3) Et s2) Et s1) Et s→
 wpAny (model X.prog X.w) X.A (compTurn e d it acc X.env) (fun fin s'=>match fin with | .done f=>f= .next∧Qd s' | .again c'=>c'= .compLoop e d it acc X.env∧Qa s') Et s
section
variable {X:Cx} {e tg:Expr} {d:Nat} {acc:Value} {it:Addr} {WB:Px} {tb:TS} {g:TG} {J:It} {fp:List Addr} {tn:Nat→Heap→Prop} {D:Ce} {pins:List (Addr×Obj)} {σ:St} {H:Hp} {s:Shared}
theorem Da (hxe:X.xe=Et) (hc:X.calm=true) (ht:HT X e d (.ref it) acc tg WB) (hfr:(Code.compLoop e d (.ref it) acc X.env).isFrame=false) (hun:X.A.under (.compLoop e d (.ref it) acc X.env)=X.A) (hqu:(Code.compLoop e d (.ref it) acc X.env).quiet=true)
  (T:KN X.prog X.w X.K tg J fp it tn) (hg:PG X tg g) (hb:PB X WB tb)
  (I:Inv X pins σ H s) (st:tn 0 s.heap) (f2:∀b∈fp,De X pins H b) (h:Eu J g tb D σ H) :
  codeAny (model X.prog X.w) X.A (.compLoop e d (.ref it) acc X.env) (fun r s'=>r= .ok .next∧∃σ' H',Inv X pins σ' H' s'∧D.nx σ' H') s:=by
 obtain⟨W,⟨m0,w0⟩,turn⟩:=h
 have stat:∀{H':Hp},(∀b∈fp,H' b=none)→∀b∈fp,De X pins H' b:=fun hn b hb=>⟨hn b hb,(f2 b hb).2⟩
 refine codeAny_loop hqu (fun n s'=>∃i σ' H',Inv X pins σ' H' s'∧tn i s'.heap∧(∀b∈fp,H' b=none)∧W i n σ' H') (fun n s3 hI=>?_) m0 ⟨0,σ,H,I,st,fun b hb=>(f2 b hb).1,w0⟩
 obtain⟨i,σ3,H3,I3,st3,fr3,w3⟩:=hI
 have hden:(model X.prog X.w).den (.compLoop e d (.ref it) acc X.env)=(compTurn e d (.ref it) acc X.env).onRaise (fun x=>do noteFrame x X.env;theTreesLotGoes x):=by
  show (if (Code.compLoop e d (.ref it) acc X.env).isFrame=true then _ else _)=_
  rw[hfr]
  rfl
 rw[hun,hden]
 refine wpAny_noted (Lp ?_)
 rcases turn i n σ3 H3 w3 with⟨stop,qn⟩|⟨go,N,hN,step⟩
 ·refine wpAny_mono (ht s3 (fun s'=>∃σ' H',Inv X pins σ' H' s'∧D.nx σ' H') (fun _=>False) (AS (T.done X rfl rfl rfl hc i pins s3 σ3 H3 Et I3 (stat fr3) st3 stop) fun r s4 ⟨hr,I4⟩=>?_)) (fun fin s' q=>?_) fun _ _ z=>z
  ·subst hr
   exact⟨σ3,H3,I4,qn⟩
  ·cases fin with
   | done f=>
    obtain⟨rfl,q⟩:=q
    exact⟨rfl,q⟩
   | again c'=>exact False.elim q.2
 ·refine wpAny_mono (ht s3 (fun _=>False) (fun s'=>∃m,m<n∧∃i σ' H',Inv X pins σ' H' s'∧tn i s'.heap∧(∀b∈fp,H' b=none)∧W i m σ' H') (AS (T.item X rfl rfl rfl hc i pins s3 σ3 H3 Et I3 (stat fr3) st3 go) fun r s4 ⟨u,hr,h4⟩=>?_)) (fun fin s' q=>?_) fun _ _ z=>z
  ·subst hr
   refine AS h4 fun _ s5 ⟨x,H5,I5,r5,y5,st5,fr5⟩=>?_
   have I5':=I5.pinned (stat fr5) (T.obj _ _ st5)
   have hgx:=hg _ s5 σ3 H5 x u _ I5' r5 (step x H5 y5)
   rw[hxe] at hgx
   refine AS hgx fun _ s6 ⟨σ6,H6,I6,q6⟩=>?_
   have again:∀{s7:Shared},(∃σ7 H7,Inv X (pins++Gq fp s5.heap) σ7 H7 s7∧N σ7 H7)→∃m,m<n∧∃i σ' H',Inv X pins σ' H' s7∧tn i s7.heap∧(∀b∈fp,H' b=none)∧W i m σ' H':=fun {s7} ⟨σ7,H7,I7,n7⟩=>by
    obtain⟨m',hm,w7⟩:=hN σ7 H7 n7
    refine⟨m',hm,i+1,σ7,H7,I7.unpinned,T.keep _ _ _ st5 fun b hb o e=>(I7.pin (b,o) (List.mem_append_right _ (List.mem_append_right _ (Dk hb e)))).1,fun b hb=>?_,w7⟩
    obtain⟨o,e,d⟩:=T.obj _ _ st5 b hb
    exact (I7.pin (b,o) (List.mem_append_right _ (List.mem_append_right _ (Dk hb e)))).2.1
   exact hb.mono _ _ s6 (fun s7 q7=>again q7) (hb.run _ s6 σ6 H6 _ I6 q6)
  ·cases fin with
   | done f=>exact False.elim q.2
   | again c'=>exact q
def Gd (ifs:List Expr) (env:Env):Sem Bool:=forIn ifs true fun c r=>if r=true then do let ok ←isTrue c env (eval c env);pure (ForInStep.yield ok) else pure (ForInStep.yield r)
def Nc (X:Cx) (ifs:List Expr) (t:TT):Prop:=
 ∀(pins:List (Addr×Obj)) (s:Shared) (σ:St) (H:Hp) (Q:Bool→Hp→Prop),Inv X pins σ H s→t σ H Q→wpAny (model X.prog X.w) X.A (Gd ifs X.env) (TP X pins σ Q) X.xe s
def KU:TT:=fun _ H Q=>Q true H
theorem Dg:Nc X [] KU:=fun pins s σ H Q I h=>wpAny_tests_nil ⟨H,I,h⟩
theorem EJ {c:Expr} {tc:TT} (h:PT X c tc):Nc X [c] tc:=fun pins s σ H Q I q=>wpAny_tests_one (h pins s σ H Q I q)
def Fl (X:Cx) (ifs:List Expr) (elt:Expr) (acc:Value):Px:=fun Qa s=>wpAny (model X.prog X.w) X.A (Gd ifs X.env) (fun ok s1=>if ok=true then wpAny (model X.prog X.w) X.A (eval elt X.env) (fun x s2=>wpAny (model X.prog X.w) X.A (call (.builtin "list.append") [acc,x]) (fun _ s3=>Qa s3) Et s2) Et s1 else Qa s1) Et s
def Cf (acc:Addr) (te:TE):TS:=fun D σ H=>te σ H fun x H1=>∃xs,H1 acc=some (.lst xs)∧xs.length<sizeLine∧D.nx σ (upd H1 acc (.lst (xs++[x])))
def Dw (tc:TT) (tb:TS):TS:=fun D σ H=>tc σ H fun b H1=>if b=true then tb D σ H1 else D.nx σ H1
theorem IB {ifs:List Expr} {elt:Expr} {ac:Addr} {tc:TT} {te:TE} (hxe:X.xe=Et) (hi:Nc X ifs tc) (he:PE X elt te):PB X (Fl X ifs elt (.ref ac)) (Dw tc (Cf ac te)) where
 mono:=fun Qa Qb s hq h=>AS h fun ok s1 h1=>by
  cases ok with
  | false=>exact hq _ h1
  | true=>exact AS h1 fun x s2 h2=>AS h2 fun _ s3 h3=>hq _ h3
 run:=fun pins s σ H D I h=>by
  have h1:=hi pins s σ H _ I h
  rw[hxe] at h1
  refine AS h1 fun ok s1 ⟨H1,I1,q1⟩=>?_
  cases ok with
  | false=>exact⟨σ,H1,I1,q1⟩
  | true=>
   have q1':Cf ac te D σ H1:=q1
   have h2:=he pins s1 σ H1 _ I1 q1'
   rw[hxe] at h2
   refine AS h2 fun u s2 ⟨x,H2,I2,r2,xs,hl,hz,q2⟩=>?_
   have h3:=AZ (X:=X) pins s2 σ H2 (.ref ac) [x] (.ref ac) [u] (fun _ H'=>D.nx σ H') I2 rfl (.cons r2 .nil) ⟨ac,xs,x,rfl,rfl,hl,hz,q2⟩
   rw[hxe] at h3
   exact AS h3 fun _ s3 ⟨_,H3,I3,_,q3⟩=>⟨σ,H3,I3,q3⟩
theorem Og {elt iter:Expr} {ifs:List Expr} {scope:Scope} {pos:Pos} {itv:Value}:HT X (.ListComp elt [⟨tg,iter,ifs,0⟩] scope pos) 0 itv acc tg (Fl X ifs elt acc):=by
 intro s Qd Qa h
 rw[compTurn_list]
 refine wpAny_bind (wpAny_standAt (wpAny_bind (AS h fun r s₁ h₁=>?_)))
 cases r with
 | none=>exact wpAny_pure ⟨rfl,h₁⟩
 | some v=>
  refine wpAny_bind (AS h₁ fun _ s2 h2=>wpAny_bind (AS h2 fun _ s3 h3=>wpAny_bind (AS h3 fun ok s4 h4=>?_)))
  cases ok with
  | false=>exact wpAny_pure ⟨rfl,h4⟩
  | true=>exact wpAny_bind (wpAny_bind (AS h4 fun x s₄ h₄=>wpAny_bind (AS h₄ fun _ s₅ h₅=>wpAny_pure (wpAny_pure ⟨rfl,h₅⟩))))
theorem JX (elt tg0 iter0 tg iter:Expr) (ifs0 ifs:List Expr) (scope:Scope) (pos:Pos) (it acc:Value) (env:Env) :
  compTurn (.ListComp elt [⟨tg0,iter0,ifs0,0⟩,⟨tg,iter,ifs,0⟩] scope pos) 1 it acc env=(do
   standAt iter.pos
   match ←pyNext it with
   | none=>pure (.done .next)
   | some v=>
    letOwnedTupleGo tg it v
    assign tg env v
    let mut ok:=true
    for c in ifs do
     if ok then ok ←isTrue c env (eval c env)
    if ok then
     (do let _ ←call (.builtin "list.append") [acc,←eval elt env])
    again (.compLoop (.ListComp elt [⟨tg0,iter0,ifs0,0⟩,⟨tg,iter,ifs,0⟩] scope pos) 1 it acc env)):=by rfl
theorem SM {elt tg0 iter0 iter:Expr} {ifs0 ifs:List Expr} {scope:Scope} {pos:Pos} {itv:Value}:HT X (.ListComp elt [⟨tg0,iter0,ifs0,0⟩,⟨tg,iter,ifs,0⟩] scope pos) 1 itv acc tg (Fl X ifs elt acc):=by
 intro s Qd Qa h
 rw[JX]
 refine wpAny_bind (wpAny_standAt (wpAny_bind (AS h fun r s₁ h₁=>?_)))
 cases r with
 | none=>exact wpAny_pure ⟨rfl,h₁⟩
 | some v=>
  refine wpAny_bind (AS h₁ fun _ s2 h2=>wpAny_bind (AS h2 fun _ s3 h3=>wpAny_bind (AS h3 fun ok s4 h4=>?_)))
  cases ok with
  | false=>exact wpAny_pure ⟨rfl,h4⟩
  | true=>exact wpAny_bind (wpAny_bind (AS h4 fun x s₄ h₄=>wpAny_bind (AS h₄ fun _ s₅ h₅=>wpAny_pure (wpAny_pure ⟨rfl,h₅⟩))))
theorem Jf (elt tg iter tg1 iter1:Expr) (ifs ifs1:List Expr) (scope:Scope) (pos:Pos) (it acc:Value) (env:Env) :
  compTurn (.ListComp elt [⟨tg,iter,ifs,0⟩,⟨tg1,iter1,ifs1,0⟩] scope pos) 0 it acc env=(do
   standAt iter.pos
   match ←pyNext it with
   | none=>pure (.done .next)
   | some v=>
    letOwnedTupleGo tg it v
    assign tg env v
    let mut ok:=true
    for c in ifs do
     if ok then ok ←isTrue c env (eval c env)
    if ok then
     let x ←eval iter1 env
     standAt iter1.pos
     let x ←foldedSetIterable iter1 env x
     let _ ←runOwn (.compStart (.ListComp elt [⟨tg,iter,ifs,0⟩,⟨tg1,iter1,ifs1,0⟩] scope pos) 1 (←holding [x] (pyIter x)) acc env) env
    again (.compLoop (.ListComp elt [⟨tg,iter,ifs,0⟩,⟨tg1,iter1,ifs1,0⟩] scope pos) 0 it acc env)):=by rfl
def Ic (X:Cx) (ifs:List Expr) (e iter1:Expr) (acc:Value):Px:=fun Qa s=>wpAny (model X.prog X.w) X.A (Gd ifs X.env) (fun ok s1=>if ok=true then
 wpAny (model X.prog X.w) X.A (eval iter1 X.env) (fun x s2=>wpAny (model X.prog X.w) X.A (pyIter x) (fun it s3=>codeAny (model X.prog X.w) X.A (.compStart e 1 it acc X.env) (fun r s4=>r= .ok .next∧Qa s4) s3) Et s2) Et s1 else Qa s1) Et s
theorem RW {elt iter tg1 iter1:Expr} {ifs ifs1:List Expr} {scope:Scope} {pos:Pos} {itv:Value} (hs:∀x,foldedSetIterable iter1 X.env x=pure x) :
  HT X (.ListComp elt [⟨tg,iter,ifs,0⟩,⟨tg1,iter1,ifs1,0⟩] scope pos) 0 itv acc tg (Ic X ifs (.ListComp elt [⟨tg,iter,ifs,0⟩,⟨tg1,iter1,ifs1,0⟩] scope pos) iter1 acc):=by
 intro s Qd Qa h
 rw[Jf]
 refine wpAny_bind (wpAny_standAt (wpAny_bind (AS h fun r s₁ h₁=>?_)))
 cases r with
 | none=>exact wpAny_pure ⟨rfl,h₁⟩
 | some v=>
  refine wpAny_bind (AS h₁ fun _ s2 h2=>wpAny_bind (AS h2 fun _ s3 h3=>wpAny_bind (AS h3 fun ok s4 h4=>?_)))
  cases ok with
  | false=>exact wpAny_pure ⟨rfl,h4⟩
  | true=>
   refine wpAny_bind (AS h4 fun x s₄ h₄=>wpAny_bind (wpAny_standAt (wpAny_bind (wpAny_of_eq (hs x) (wpAny_bind (wpAny_holding (AS h₄ fun it s₅ h₅=>?_)))))))
   refine wpAny_bind (wpAny_runOwn (codeAny_mono h₅ fun r s₆ h₆=>?_))
   obtain⟨rfl,h₆⟩:=h₆
   exact wpAny_pure ⟨rfl,h₆⟩
theorem Ca {itv:Value} {R:Result→Shared→Prop} (hcl:((clausesOf e)[d]?).elim false (·.is_async != 0)=false) (hfr:(Code.compStart e d itv acc X.env).isFrame=false) (hun:X.A.under (.compStart e d itv acc X.env)=X.A)
  (hqu:∀it',(Code.compLoop e d it' acc X.env).quiet=true) (hposR:True)
  (h0:codeAny (model X.prog X.w) X.A (.compLoop e d itv acc X.env) R s)
  (h:wpAny (model X.prog X.w) X.A (pyIter itv) (fun it' s'=>codeAny (model X.prog X.w) X.A (.compLoop e d it' acc X.env) R s') Et s) :
  codeAny (model X.prog X.w) X.A (.compStart e d itv acc X.env) R s:=by
 refine codeAny_of_tree ?_
 have hden:(model X.prog X.w).den (.compStart e d itv acc X.env)=(compStart e d itv acc X.env).onRaise (fun x=>do noteFrame x X.env;standAt theWindowsPlace):=by
  show (if (Code.compStart e d itv acc X.env).isFrame=true then _ else _)=_
  rw[hfr]
  rfl
 rw[hun,hden]
 refine wpAny_notedAt (Lp ?_)
 unfold compStart
 rw[hcl]
 show wpAny _ _ (ask >>= _) _ _ s
 refine wpAny_bind (wpAny_askSetting (wpAny_ite ?_))
 split
 ·first
   | exact wpAny_bind (wpAny_pure (wpAny_pure (And.intro (hqu _) h0)))
   | exact wpAny_pure (And.intro (hqu _) h0)
 ·refine wpAny_bind (wpAny_rule ?_)
  cases hg:(clausesOf e)[d]? with
  | none=>exact wpAny_bind (AS h fun it' s' h'=>wpAny_pure (And.intro (hqu _) h'))
  | some g'=>exact wpAny_bind (wpAny_standAt (wpAny_bind (AS h fun it' s' h'=>wpAny_pure (And.intro (hqu _) h'))))
theorem Rz {elt iter tg1 iter1:Expr} {ifs ifs1:List Expr} {scope:Scope} {pos:Pos} {ac:Addr} {tc:TT} {wi1:TI} {g1:TG} {tb1:TS} (hxe:X.xe=Et) (hc:X.calm=true)
  (hi:Nc X ifs tc) (hI:PI X tg1 iter1 wi1) (hg1:PG X tg1 g1) (hb1:PB X (Fl X ifs1 elt (.ref ac)) tb1) :
  PB X (Ic X ifs (.ListComp elt [⟨tg,iter,ifs,0⟩,⟨tg1,iter1,ifs1,0⟩] scope pos) iter1 (.ref ac)) (Dw tc (Kk wi1 g1 tb1)) where
 mono:=fun Qa Qb s hq h=>AS h fun ok s1 h1=>by
  cases ok with
  | false=>exact hq _ h1
  | true=>exact AS h1 fun x s2 h2=>AS h2 fun it s3 h3=>codeAny_mono h3 fun r s4 h4=>⟨h4.1,hq _ h4.2⟩
 run:=fun pins s σ H D I h=>by
  have h1:=hi pins s σ H _ I h
  rw[hxe] at h1
  refine AS h1 fun ok s1 ⟨H1,I1,q1⟩=>?_
  cases ok with
  | false=>exact⟨σ,H1,I1,q1⟩
  | true=>
   have q1':Kk wi1 g1 tb1 D σ H1:=q1
   have h2:=hI pins s1 σ H1 _ I1 q1'
   rw[hxe] at h2
   refine AS h2 fun u s2 h3=>AS h3 fun itv s3 h4=>?_
   obtain⟨it,fp,tn,J,H3,e,I3,T,st3,f3,hR⟩:=h4
   subst e
   have loop:=Da (e:=.ListComp elt [⟨tg,iter,ifs,0⟩,⟨tg1,iter1,ifs1,0⟩] scope pos) (d:=1) (D:=D) hxe hc SM rfl rfl rfl T hg1 hb1 I3 st3 f3 hR
   exact Ca (X:=X) rfl rfl rfl (fun _=>rfl) True.intro loop (T.self _ 0 s3 _ _ st3 loop)
end
structure CC where
 s:Shared
 H:Hp
 fp:List Addr
def Cx.cmp (X:Cx) (N:List Str) (scope:Scope) (cl:List (Str×Addr)) (c:CC):Cx:=
 { X with N:=N,s₀:=c.s,H₀:=c.H,env:=compEnvC scope cl c.s.heap.objs.size X.env,outer:=X.stack,ex:=c.fp,fn:=fun _=>false,pn:=[] }
def sub (js:List (Option Nat)) (σ:St):St:=js.map fun o=>o.bind fun j=>(σ[j]?).join
def Go (X:Cx) (N:List Str) (scope:Scope) (js:List (Option Nat)):Prop:=
 ∀(i:Nat) (x:Str) (j:Nat),N[i]? = some x→js[i]? = some (some j)→X.N[j]? = some x∧X.env.kindOf x=some .cell∧(relabel scope X.env).names.lookup x=some .cell
section
variable {X:Cx} {N:List Str} {scope:Scope} {cl:List (Str×Addr)} {js:List (Option Nat)} {pins:List (Addr×Obj)} {σ:St} {H:Hp} {s:Shared} {fp:List Addr}
theorem Inv.cmp {h':Heap} {ob:Obj} (I:Inv X pins σ H s) (hf:∀b∈fp,De X pins H b) (hfo:∀b∈fp,b<s.heap.objs.size) (hk:scope.kind= .function)
  (hcl:∀p∈cl,X.env.cells.lookup p.1=some p.2) (hcn:∀x,((relabel scope X.env).names.lookup x=some .cell∨(relabel scope X.env).names.lookup x=some .free)→∃c,cl.lookup x=some c)
  (hsh:Go X N scope js) (hl:js.length=N.length)
  (hns:h'.Ns s.heap.objs.size (fun _=>none)) (hsb:Heap.SameBut s.heap.objs.size (s.heap.push ob) h') {t':Nat} :
  Inv (X.cmp N scope cl ⟨s,H,fp⟩) [] (sub js σ) H { s with heap:=h',toks:=t' }:=by
 have hlook:∀x c,cl.lookup x=some c→X.env.cells.lookup x=some c:=fun x c e=>hcl (x,c) (PySem.mem_of_lookup e)
 have hkeep:∀b o,s.heap.get? b=some o→h'.get? b=some o:=fun b o e=>(hsb.2 b (Nat.ne_of_lt (Heap.lt_size e))).trans (Heap.get?_push_of_some _ e)
 refine⟨⟨I.ok.mod,?_,I.ok.glob,I.ok.blt,Nat.le_refl _,fun x y c h1 h2=>I.ok.inj x y c (hlook x c h1) (hlook y c h2),fun x hx=>hcn x hx,fun x c h=>?_,I.ok.hd,I.ok.frames,.inl rfl,fun b hb=>⟨Nat.ne_of_lt (hfo b hb),fun x c e=>(hf b hb).2.2.2.2.1 x c (hlook x c e)⟩,
   I.bs,Nat.le_trans I.ok.bsz I.sz,fun b o e hb=>?_,fun b hb hs=>?_,I.stack,I.stkFree⟩,rfl,I.bare,Un.kept hkeep,⟨_,hns,fun i x v e1 e2 e3=>?_⟩,fun x c e=>?_,I.hok.fresh (Nat.le_refl _),fun x c e=>I.freeC x c (hlook x c e),fun p hp=>?_,I.hok.kept hkeep,?_⟩
 ·show (relabel scope X.env).kind= .function
  exact hk
 ·exact absurd (show false=true from h) Bool.false_ne_true
 ·rcases (hf b hb).2.2.2.1 with z | z
  ·exact I.ok.noex b o e z
  ·exact absurd (Nat.lt_of_lt_of_le (Heap.lt_size (I.ok.bs b o e).1) z) (Nat.lt_irrefl _)
 ·rcases List.mem_cons.mp (I.stkSub b hs) with z | z
  ·exact (hf b hb).2.1 z
  ·exact (hf b hb).2.2.1 z
 ·have e2':(sub js σ)[i]? = some (some v):=e2
  unfold sub at e2'
  rw[List.getElem?_map] at e2'
  cases ej:js[i]? with
  | none=>rw[ej] at e2';cases e2'
  | some o=>
   rw[ej] at e2'
   cases o with
   | none=>cases e2'
   | some j=>
    obtain⟨a1,a2,a3⟩:=hsh i x j e1 ej
    have e4:(σ[j]?).join=some v:=Option.some.inj e2'
    have e5:σ[j]? = some (some v):=by
     cases q:σ[j]? with
     | none=>rw[q] at e4;cases e4
     | some o=>
      rw[q] at e4
      have:o=some v:=e4
      rw[this]
    obtain⟨m,hn,hloc⟩:=I.loc
    obtain⟨u,r,l⟩:=hloc j x v a1 e5 (.inr (.inl a2))
    refine⟨u,r,.inr ⟨.inl a3,?_⟩⟩
    obtain⟨c,hc⟩:=hcn x (.inl a3)
    refine⟨c,hc,?_⟩
    rcases l with⟨k,_⟩|⟨_,c',hc',hcell⟩
    ·rw[k] at a2;cases a2
    ·have:c'=c:=by
      have:=hlook x c hc
      rw[hc'] at this
      exact Option.some.inj this
     subst this
     obtain⟨o,ho,hd⟩:=hcell
     exact⟨o,hkeep _ _ ho,hd⟩
 ·obtain⟨v,o,ho,hd⟩:=I.cell x c (hlook x c e)
  exact⟨v,o,hkeep _ _ ho,hd⟩
 ·exact absurd (show p∈([]:List (Addr×Obj)) from hp) (by simp)
 ·unfold sub
  rw[List.length_map]
  exact hl
theorem Inv.uncmp {σ':St} {H':Hp} {s':Shared} {h'':Heap} (I:Inv X pins σ H s) (hf:∀b∈fp,De X pins H b) (J:Inv (X.cmp N scope cl ⟨s,H,fp⟩) [] σ' H' s') (hsb:Heap.SameBut s.heap.objs.size s'.heap h'') :
  Inv X pins σ H' { s' with heap:=h'' }:=by
 have u:Un (Hw X.stack) fp H H' s.heap s'.heap:=J.base
 have ne:∀b o,s.heap.get? b=some o→b≠s.heap.objs.size:=fun b o e=>Nat.ne_of_lt (Heap.lt_size e)
 have hfree:H' s.heap.objs.size=none:=J.free
 refine I.call' (ch:=fp) (s':={ s' with heap:=h'' }) J.os ⟨fun b o e n hb hx=>(hsb.2 b (ne b o e)).trans (u.keep b o e n hb hx),fun b o e n hb hx=>?_,u.free,fun b o e hx=>?_,u.tups,u.frzs,u.tbls⟩ (fun b ob e=>?_) J.bare fun b hb=>⟨(hf b hb).2.2.2.1,(hf b hb).2.1,(hf b hb).2.2.2.2.1,(hf b hb).2.2.2.2.2⟩
 ·obtain⟨sl,e1⟩:=u.slot b o e n hb hx
  exact⟨sl,(hsb.2 b (ne b o e)).trans e1⟩
 ·obtain⟨o',e1⟩:=u.there b o e hx
  exact⟨o',(hsb.2 b (ne b o e)).trans e1⟩
 ·refine (J.hok b ob e).stay (fun c w' hc q=>(hsb.2 c ?_).trans q) (fun _ q=>q) fun _ _ q=>q
  rintro rfl
  rcases hc with z | z
  ·rw[←z,hfree] at e;cases e
  ·rw[hfree] at z;cases z
end
def JR (wi:TI) (js:List (Option Nat)) (g:CC→TG) (tb:CC→Addr→TS):TE:=fun σ H Q=>wi σ H fun J H1=>∀(c:CC) (acc:Addr),H1 acc=none→
 Eu J (g c) (tb c acc) { nx:=fun _ H'=>Q (.ref acc) H',rt:=fun _ _=>False } (sub js σ) (upd H1 acc (.lst []))
section
variable {X:Cx} {N:List Str} {scope:Scope} {cl:List (Str×Addr)} {js:List (Option Nat)} {elt tg iter:Expr} {ifs:List Expr} {rest:List Comprehension} {pos:Pos} {wi:TI} {g:CC→TG} {tb:CC→Addr→TS}
theorem JS {WB:CC→Value→Px} (hxe:X.xe=Et) (hc:X.calm=true) (hi:PI X tg iter wi) (hs:∀x,foldedSetIterable iter X.env x=pure x) (hclos:closureFor scope X.env=pure cl) (hk:scope.kind= .function)
  (hnames:∀x∈scope.names,x.2= .local→scope.names.lookup x.1=some .local) (hcell:∀x∈scope.names,x.2≠.cell)
  (hcl:∀p∈cl,X.env.cells.lookup p.1=some p.2) (hcn:∀x,((relabel scope X.env).names.lookup x=some .cell∨(relabel scope X.env).names.lookup x=some .free)→∃c,cl.lookup x=some c)
  (hsh:Go X N scope js) (hl:js.length=N.length)
  (ht:∀c it ac,HT (X.cmp N scope cl c) (.ListComp elt (⟨tg,iter,ifs,0⟩::rest) scope pos) 0 it ac tg (WB c ac))
  (hg:∀c,PG (X.cmp N scope cl c) tg (g c)) (hb:∀c ac,PB (X.cmp N scope cl c) (WB c (.ref ac)) (tb c ac)) :
  PE X (.ListComp elt (⟨tg,iter,ifs,0⟩::rest) scope pos) (JR wi js g tb):=by
 intro pins s σ H Q I h
 rw[eval_ListComp]
 have h0:=hi pins s σ H _ I h
 refine wpAny_comprehension_free (use:=none) (cl:=cl) rfl hs hclos hk hnames (AS h0 fun v s1 h1=>AS h1 fun itv s2 h2=>?_)
 obtain⟨it,fp,tn,J,H2,e,I2,T,st2,f2,hR⟩:=h2
 subst e
 refine wpAny_newObj_type (wpAny_newFunctionEnv hcell (by intro y hy;simp at hy) (fun h₁ hns₁ hsb₁=>?_) hk)
 dsimp only at hns₁ hsb₁ ⊢
 have I3:=I2.lnew (ys:=[]) (its:=[]) (t':=s2.toks) .nil (Nat.zero_le _)
 have fpl:∀b∈fp,b<s2.heap.objs.size:=fun b hb=>by
  obtain⟨o,e,_⟩:=T.obj 0 _ st2 b hb
  exact Heap.lt_size e
 have fpa:∀b∈fp,b≠s2.heap.objs.size:=fun b hb=>Nat.ne_of_lt (fpl b hb)
 have f3:∀b∈fp,De X pins (upd H2 s2.heap.objs.size (.lst [])) b:=fun b hb=>⟨by rw[Ax (fpa b hb)];exact (f2 b hb).1,(f2 b hb).2⟩
 have hR':=hR ⟨{ s2 with heap:=s2.heap.push { cls:=.type "list",data:=.seq ([]:List Value).toArray } },upd H2 s2.heap.objs.size (.lst []),fp⟩ s2.heap.objs.size I2.fresh
 have I4:=I3.cmp (N:=N) (cl:=cl) (js:=js) (t':=s2.toks) f3 (fun b hb=>by
  show b<(s2.heap.push _).objs.size
  rw[Heap.size_push]
  exact Nat.lt_succ_of_lt (fpl b hb)) hk hcl hcn hsh hl hns₁ hsb₁
 have st4:tn 0 h₁:=T.keep 0 _ _ st2 fun b hb o e=>(hsb₁.2 b (by
  rw[Heap.size_push]
  exact Nat.ne_of_lt (Nat.lt_succ_of_lt (fpl b hb)))).trans (Heap.get?_push_of_some _ (Heap.get?_push_of_some _ e))
 have f4:∀b∈fp,De (X.cmp N scope cl ⟨{ s2 with heap:=s2.heap.push { cls:=.type "list",data:=.seq ([]:List Value).toArray } },upd H2 s2.heap.objs.size (.lst []),fp⟩) [] (upd H2 s2.heap.objs.size (.lst [])) b:=fun b hb=>
  ⟨(f3 b hb).1,(I4.ok.exf b hb).1,I4.ok.exfs b hb,.inl hb,(I4.ok.exf b hb).2,fun p hp=>absurd (show p∈([]:List (Addr×Obj)) from hp) (by simp)⟩
 have loop:=codeAny_mono (Da (X:=X.cmp N scope cl ⟨{ s2 with heap:=s2.heap.push { cls:=.type "list",data:=.seq ([]:List Value).toArray } },upd H2 s2.heap.objs.size (.lst []),fp⟩) (e:=.ListComp elt (⟨tg,iter,ifs,0⟩::rest) scope pos) (d:=0) (acc:=.ref s2.heap.objs.size) (pins:=[]) hxe hc (ht _ _ _) rfl rfl rfl T (hg _) (hb _ _) I4 st4 f4 hR') (R':=compPost (model X.prog X.w) X.A X.xe none (EP X pins σ Q) (.ref s2.heap.objs.size) (s2.heap.push { cls:=.type "list",data:=.seq ([]:List Value).toArray }).objs.size) (fun r s' hq=>by
  obtain⟨rfl,σ',H',J',q⟩:=hq
  obtain⟨m,hn,_⟩:=id J'.loc
  exact⟨m,hn,fun h'' hs''=>⟨.ref s2.heap.objs.size,H',I3.uncmp f3 J' hs'',rfl,q⟩⟩)
 exact Ca (X:=X.cmp N scope cl ⟨{ s2 with heap:=s2.heap.push { cls:=.type "list",data:=.seq ([]:List Value).toArray } },upd H2 s2.heap.objs.size (.lst []),fp⟩) rfl rfl rfl (fun _=>rfl) True.intro loop (T.self _ 0 _ _ _ st4 loop)
end
structure CompOk (X:Cx) (N:List Str) (scope:Scope) (cl:List (Str×Addr)) (js:List (Option Nat)):Prop where
 clos:closureFor scope X.env=pure cl
 kind:scope.kind= .function
 loc:(scope.names.all fun x=>(x.2 != .local || scope.names.lookup x.1 == some .local) && x.2 != .cell)=true
 ccl:∀p∈cl,X.env.cells.lookup p.1=some p.2
 cn:((relabel scope X.env).names.all fun p=>!(p.2 == .cell || p.2 == .free) || (cl.lookup p.1).isSome)=true
 sh:((N.zip js).all fun p=>match p.2 with | none=>true | some j=>X.N[j]? == some p.1 && X.env.kindOf p.1 == some .cell && (relabel scope X.env).names.lookup p.1 == some .cell)=true
 len:js.length=N.length
section
variable {X:Cx} {N:List Str} {scope:Scope} {cl:List (Str×Addr)} {js:List (Option Nat)}
theorem CompOk.names (h:CompOk X N scope cl js):∀x∈scope.names,x.2= .local→scope.names.lookup x.1=some .local:=fun x hx e=>by
 have q:=(List.all_eq_true.mp h.loc) x hx
 rw[Bool.and_eq_true] at q
 rw[e] at q
 simpa using q.1
theorem CompOk.cell (h:CompOk X N scope cl js):∀x∈scope.names,x.2≠.cell:=fun x hx e=>by
 have q:=(List.all_eq_true.mp h.loc) x hx
 rw[Bool.and_eq_true,e] at q
 exact absurd q.2 (by decide)
theorem CompOk.hcn (h:CompOk X N scope cl js):∀x,((relabel scope X.env).names.lookup x=some .cell∨(relabel scope X.env).names.lookup x=some .free)→∃c,cl.lookup x=some c:=fun x hx=>by
 rcases hx with e | e
 ·have q:=(List.all_eq_true.mp h.cn) _ (PySem.mem_of_lookup e)
  exact Option.isSome_iff_exists.mp (by simpa using q)
 ·have q:=(List.all_eq_true.mp h.cn) _ (PySem.mem_of_lookup e)
  exact Option.isSome_iff_exists.mp (by simpa using q)
theorem CompOk.shr (h:CompOk X N scope cl js):Go X N scope js:=fun i x j e1 e2=>by
 have hm:(x,some j)∈N.zip js:=by
  have:(N.zip js)[i]? = some (x,some j):=by rw[List.getElem?_zip_eq_some];exact⟨e1,e2⟩
  exact List.mem_of_getElem? this
 have q:=(List.all_eq_true.mp h.sh) _ hm
 simp only[Bool.and_eq_true] at q
 exact⟨eq_of_beq q.1.1,eq_of_beq q.1.2,eq_of_beq q.2⟩
variable {elt tg iter tg1 iter1:Expr} {ifs ifs1:List Expr} {pos:Pos} {wi:TI} {wi1:CC→TI} {g g1:CC→TG} {tc tc1:CC→TT} {te:CC→TE}
theorem Cc (h:CompOk X N scope cl js) (hi:PI X tg iter wi) (hg:∀c,PG (X.cmp N scope cl c) tg (g c)) (hif:∀c,Nc (X.cmp N scope cl c) ifs (tc c)) (he:∀c,PE (X.cmp N scope cl c) elt (te c))
  (hxe:X.xe=Et:=by rfl) (hc:X.calm=true:=by rfl) (hs:∀x,foldedSetIterable iter X.env x=pure x:=by intro _;rfl) :
  PE X (.ListComp elt [⟨tg,iter,ifs,0⟩] scope pos) (JR wi js g fun c ac=>Dw (tc c) (Cf ac (te c))):=
 JS (WB:=fun c ac=>Fl (X.cmp N scope cl c) ifs elt ac) hxe hc hi hs h.clos h.kind h.names h.cell h.ccl h.hcn h.shr h.len (fun c it ac=>Og) hg fun c ac=>IB hxe (hif c) (he c)
theorem O3 (h:CompOk X N scope cl js) (hi:PI X tg iter wi) (hg:∀c,PG (X.cmp N scope cl c) tg (g c)) (hif:∀c,Nc (X.cmp N scope cl c) ifs (tc c))
  (hi1:∀c,PI (X.cmp N scope cl c) tg1 iter1 (wi1 c)) (hg1:∀c,PG (X.cmp N scope cl c) tg1 (g1 c)) (hif1:∀c,Nc (X.cmp N scope cl c) ifs1 (tc1 c)) (he:∀c,PE (X.cmp N scope cl c) elt (te c))
  (hs1:∀c x,foldedSetIterable iter1 (X.cmp N scope cl c).env x=pure x:=by intro _ _;rfl)
  (hxe:X.xe=Et:=by rfl) (hc:X.calm=true:=by rfl) (hs:∀x,foldedSetIterable iter X.env x=pure x:=by intro _;rfl) :
  PE X (.ListComp elt [⟨tg,iter,ifs,0⟩,⟨tg1,iter1,ifs1,0⟩] scope pos) (JR wi js g fun c ac=>Dw (tc c) (Kk (wi1 c) (g1 c) (Dw (tc1 c) (Cf ac (te c))))):=
 JS (WB:=fun c ac=>Ic (X.cmp N scope cl c) ifs (.ListComp elt [⟨tg,iter,ifs,0⟩,⟨tg1,iter1,ifs1,0⟩] scope pos) iter1 ac) hxe hc hi hs h.clos h.kind h.names h.cell h.ccl h.hcn h.shr h.len (fun c it ac=>RW (hs1 c)) hg
  fun c ac=>Rz hxe hc (hif c) (hi1 c) (hg1 c) (IB hxe (hif1 c) (he c))
end
end L2
namespace L2
open PySem PySem.Spec PyProof.Rows
section
variable {X:Cx} {pins:List (Addr×Obj)} {σ:St} {H:Hp} {s:Shared} {fp:List Addr} {h':Heap}
theorem Inv.turnedL {t':Nat} (I:Inv X pins σ H s) (hf:∀b∈fp,De X pins H b) (k:∀b o,b∉fp→s.heap.get? b=some o→h'.get? b=some o):Inv X pins σ H { s with heap:=h',toks:=t' }:=by
 have nfp:∀b u,H b=some u→b∉fp:=fun b u e z=>by rw[(hf b z).1] at e;cases e
 refine I.call' (ch:=fp) (s':={ s with heap:=h',toks:=t' }) rfl ⟨fun b o e _ _ hx=>k b o hx e,fun b o e _ _ hx=>⟨o.slots,k b o hx e⟩,fun _ _ _ n _=>n,fun b o e hx=>⟨o,k b o hx e⟩,fun _ _ q=>q,fun _ _ _ q=>q,fun _ ps q=>⟨#[],by rw[q];simp⟩⟩ (fun b u e=>?_) I.bare
  fun b hb=>⟨(hf b hb).2.2.2.1,(hf b hb).2.1,(hf b hb).2.2.2.2.1,(hf b hb).2.2.2.2.2⟩
 refine (I.hok b u e).stay (fun c v hc q=>k c v ?_ q) (fun _ q=>q) fun _ _ q=>q
 rcases hc with z | z
 ·rw[z];exact nfp b u e
 ·exact nfp c _ z
theorem Inv.turnedT {t':Nat} {T:Addr} {xs:List V} {its:List Value} (I:Inv X pins σ H s) (hf:∀b∈fp,De X pins H b) (k:∀b o,b∉fp→s.heap.get? b=some o→h'.get? b=some o)
  (hT:s.heap.objs.size≤T) (hz:xs.length≤sizeLine) (rv:Vals xs its) (ht:IsTup h' T its.toArray):Inv X pins σ (upd H T (.tup xs)) { s with heap:=h',toks:=t' }:=by
 have nfp:∀b u,H b=some u→b∉fp:=fun b u e z=>by rw[(hf b z).1] at e;cases e
 have hn:H T=none:=I.hok.fresh hT
 refine I.call' (ch:=fp) (s':={ s with heap:=h',toks:=t' }) rfl ⟨fun b o e _ _ hx=>k b o hx e,fun b o e _ _ hx=>⟨o.slots,k b o hx e⟩,fun b o e n _=>?_,fun b o e hx=>⟨o,k b o hx e⟩,fun b q e=>?_,fun b o u e=>?_,fun b ps e=>⟨#[],?_⟩⟩ (fun b u e=>?_) I.bare
  fun b hb=>⟨(hf b hb).2.2.2.1,(hf b hb).2.1,(hf b hb).2.2.2.2.1,(hf b hb).2.2.2.2.2⟩
 ·rw[Ax (Nat.ne_of_lt (Nat.lt_of_lt_of_le (Heap.lt_size e) hT))];exact n
 ·rw[Ax (Am e hn)];exact e
 ·rw[Ax (Am e hn)];exact e
 ·rw[Ax (Am e hn),e];simp
 ·by_cases hb:b=T
  ·subst hb
   rw[upd_same] at e
   cases e
   exact⟨hz,its,rv,ht⟩
  ·rw[Ax hb] at e
   refine (I.hok b u e).stay (fun c v hc q=>k c v ?_ q) (fun c q=>?_) fun c xs q=>?_
   ·rcases hc with z | z
    ·rw[z];exact nfp b u e
    ·exact nfp c _ z
   ·rw[Ax (Am q hn)];exact q
   ·rw[Ax (Am q hn)];exact q
end
section
variable {X:Cx} {tg:Expr}
end
end L2
namespace L2
open PySem PySem.Spec PyProof.Rows
section
variable {X:Cx}
end
end L2
namespace L2
open PySem PySem.Spec PyProof.Rows
def RC (a:Addr):It:=
 ⟨fun i H=>∃xs x,H a=some (.lst xs)∧xs[i]? = some x,fun i H x H'=>∃T y,H T=none∧(∀xs,H a=some (.lst xs)→xs[i]? = some y)∧x= .ref T∧H'=upd H T (.tup [.int (i:Nat),y]),fun i H=>∃xs,H a=some (.lst xs)∧xs.length=i⟩
theorem MX {a:Addr} {xs:List V} {g:TG} {tb:TS} {D:Ce} {σ:St} {H:Hp} (Pv:Nat→St→Hp→Prop) (h0:Pv 0 σ H) (hl:∀i σ H,i≤xs.length→Pv i σ H→H a=some (.lst xs))
  (hs:∀i y T σ H,xs[i]? = some y→H T=none→Pv i σ H→g (.ref T) σ (upd H T (.tup [.int (i:Nat),y])) fun σ2 H2=>tb { D with nx:=Pv (i+1),ct:=Pv (i+1),bk:=D.nx } σ2 H2) (hd:∀σ H,Pv xs.length σ H→D.nx σ H):Eu (RC a) g tb D σ H:=by
 refine⟨fun i m σ H=>m=xs.length-i∧i≤xs.length∧Pv i σ H,⟨xs.length,by simp,Nat.zero_le _,h0⟩,?_⟩
 rintro i m σ H ⟨rfl,hi,p⟩
 have q:=hl i σ H hi p
 by_cases hlt:i<xs.length
 ·refine .inr ⟨⟨xs,xs[i],q,by simp[hlt]⟩,Pv (i+1),fun σ' H' p'=>⟨xs.length-(i+1),by omega,rfl,hlt,p'⟩,fun x H' y=>?_⟩
  obtain⟨T,y,hT,hy,e1,e2⟩:=y
  subst e1 e2
  exact hs i y T σ _ (hy xs q) hT p
 ·have e:i=xs.length:=by omega
  subst e
  exact .inl ⟨⟨xs,q,rfl⟩,hd σ H p⟩
theorem KA {P:Program} {w:World} {K:PySem.W.Frag} {elts:List Expr} {k:Nat} {tp:Pos} (a e it:Addr) (hei:e≠it) :
  KN P w K (.Tuple elts k tp) (RC a) [e,it] e (fun i h=>(∃old,IsEnum h e it i old)∧h.IsListIter it a i) where
 mem:=by simp
 obj:=fun i h st b hb=>by
  obtain⟨⟨old,he⟩,o,ho,c,d⟩:=st
  rcases List.mem_cons.mp hb with q | q
  ·subst q
   exact⟨_,he,fun v z=>by
    have z':Data.fields _=Data.cell v:=z
    cases z'⟩
  ·have q':b=it:=by simpa using q
   subst q'
   exact⟨o,ho,fun v z=>by rw[d] at z;cases z⟩
 keep:=fun i h h' st k=>by
  obtain⟨⟨old,he⟩,hi⟩:=st
  exact⟨⟨old,k e (by simp) _ he⟩,hi.at fun o e=>k it (by simp) o e⟩
 item:=by
  intro X hP hw hK hc i pins s σ H E I hf st hg
  subst hP hw hK
  obtain⟨xs,x,hq,hx⟩:=hg
  obtain⟨its,rv,p,hz⟩:=I.list (SqL.of hq)
  obtain⟨u,hu,ru⟩:=rv.get hx
  have hlen:=rv.length
  have hi:i<xs.length:=(List.getElem?_eq_some_iff.mp hx).1
  have nai:a≠it:=Am hq (hf it (by simp)).1
  have nae:a≠e:=Am hq (hf e (by simp)).1
  have D:=Draws.list (prog:=X.prog) (w:=X.w) (A:=X.A.in1) (I.ok.hd hc) it a nai its.toArray
  have WT:=WalksT.enumerateD (A:=X.A) D e hei (by simp[hei,nae.symm]) (by simp)
  refine WT.item i s _ _ (by simp;omega) ⟨st.1,st.2,p.isList⟩ fun T vals h1 tk hv hT htup hmid kk=>?_
  obtain⟨t',x2,hx2,rfl⟩:=hv
  have hx2':its[i]? = some x2:=by simpa using hx2
  have ex:x2=u:=by rw[hu] at hx2';exact (Option.some.inj hx2').symm
  subst ex
  have I1:Inv X pins σ (upd H T (.tup [.int (i:Nat),x])) { s with heap:=h1,toks:=tk }:=I.turnedT (its:=[.int i t',x2]) hf kk hT (by show 2≤sizeLine;decide) (.cons ⟨_,rfl⟩ (.cons ru .nil)) htup
  have nT:∀b∈[e,it],b≠T:=fun b hb z=>by
   subst z
   exact WT.apart _ _ _ hmid hb
  have hf1:∀b∈[e,it],De X pins (upd H T (.tup [.int (i:Nat),x])) b:=fun b hb=>⟨by rw[Ax (nT b hb)];exact (hf b hb).1,(hf b hb).2⟩
  refine⟨_,rfl,WT.go elts k tp i T _ _ _ hmid fun h2 st2 kk2=>?_⟩
  refine⟨.ref T,_,I1.turnedL (t':=tk) hf1 kk2,rfl,⟨T,x,I.hok.fresh hT,fun zs hzs=>?_,rfl,rfl⟩,⟨st2.1,st2.2.1⟩,fun b hb=>(hf1 b hb).1⟩
  rw[hq] at hzs
  cases hzs
  exact hx
 done:=by
  intro X hP hw hK hc i pins s σ H E I hf st hg
  subst hP hw hK
  obtain⟨xs,hq,rfl⟩:=hg
  obtain⟨its,rv,p,hz⟩:=I.list (SqL.of hq)
  have hlen:=rv.length
  have nai:a≠it:=Am hq (hf it (by simp)).1
  have nae:a≠e:=Am hq (hf e (by simp)).1
  have D:=Draws.list (prog:=X.prog) (w:=X.w) (A:=X.A.in1) (I.ok.hd hc) it a nai its.toArray
  have WT:=WalksT.enumerateD (A:=X.A) D e hei (by simp[hei,nae.symm]) (by simp)
  refine WT.done s _ _ ?_ fun h' tk kk=>⟨rfl,I.turnedL hf kk⟩
  have e1:its.toArray.size=xs.length:=by simp;omega
  rw[e1]
  exact⟨st.1,st.2,p.isList⟩
 self:=fun A i s Q E st h=>by
  obtain⟨⟨old,he⟩,_⟩:=st
  exact wpAny_pyIter_enum he h
section
variable {X:Cx} {tg:Expr}
def Rh (ta:TA):TI:=fun σ H R=>ta σ H fun vs H1=>∃a xs,vs=[.ref a]∧H1 a=some (.lst xs)∧R (RC a) H1
theorem Of {elts:List Expr} {k:Nat} {tp:Pos} {a:Expr} {ta:TA} {p pos:Pos} (hg:Gl X "enumerate") (hm:X.mg "enumerate"=none) (ha:PA X [a] ta) (hs:starEach [a] X.env=[(false,eval a X.env)]:=by rfl):PI X (.Tuple elts k tp) (.Call (.Name "enumerate" p) [a] [] pos) (Rh ta):=by
 intro pins s σ H R I h
 refine Call_ (DF I hg hm boot_enumerate (PyProof.Rows.callWith_type1 (AS (ha pos pins s σ H _ I h) fun us s1 ⟨vs,H1,I1,r1,q1⟩=>?_) hs rfl))
 obtain⟨l,xs,e,hq,q⟩:=q1
 subst e
 cases r1 with
 | cons r rr=>
  cases rr
  cases r
  obtain⟨its,rv,pl,hz⟩:=I1.list (SqL.of hq)
  refine call_enumerate_list pl.isList fun h' he hit hsz hk=>wpAny_pyIter_enum he ?_
  have I2:Inv X pins σ H1 { s1 with heap:=h' }:=I1.kept (t':=s1.toks) hk
  have fp2:∀b∈[s1.heap.objs.size+1,s1.heap.objs.size],De X pins H1 b:=fun b hb=>by
   have hle:s1.heap.objs.size≤b:=by
    rcases List.mem_cons.mp hb with q | q
    ·omega
    ·have:b=s1.heap.objs.size:=by simpa using q
     omega
   exact I1.fpOk hle (I1.hok.fresh hle)
  exact⟨_,_,_,_,H1,rfl,I2,KA l (s1.heap.objs.size+1) s1.heap.objs.size (Nat.succ_ne_self _),⟨⟨_,he⟩,hit⟩,fp2,q⟩
end
end L2
namespace L2
open PySem PySem.Spec PyProof.Rows
structure Stp (fr ch:List Addr) (h h':Heap):Prop where
 keep:∀b o,b∉fr→b∉ch→h.get? b=some o→h'.get? b=some o
 slot:∀b o,b∉ch→h.get? b=some o→∃sl,h'.get? b=some { o with slots:=sl }
theorem Stp.more {fr ch ch':List Addr} {h h':Heap} (x:Stp fr ch h h') (m:∀b∈ch,b∈ch'):Stp fr ch' h h':=
 ⟨fun b o hb hc=>x.keep b o hb fun z=>hc (m b z),fun b o hc=>x.slot b o fun z=>hc (m b z)⟩
theorem Stp.trans {fr ch:List Addr} {h h1 h2:Heap} (x:Stp fr ch h h1) (y:Stp fr ch h1 h2):Stp fr ch h h2:=
 ⟨fun b o hb hc e=>y.keep b o hb hc (x.keep b o hb hc e),fun b o hc e=>let ⟨_,e1⟩:=x.slot b o hc e;let ⟨sl,e2⟩:=y.slot b _ hc e1;⟨sl,e2⟩⟩
theorem Stp.hok {P:Program} {w:World} {fr ch:List Addr} {h h':Heap} {H:Hp} (x:Stp fr ch h h') (ok:HOk P w H h) (hf:∀b∈fr,H b=none) (hc:∀b∈ch,H b=none):HOk P w H h':=fun b u e=>by
 have nf:∀c v,H c=some v→c∉fr∧c∉ch:=fun c v q=>⟨(fun z=>nomatch (hf c z).symm.trans q),(fun z=>nomatch (hc c z).symm.trans q)⟩
 refine (ok b u e).stay (fun c v hb q=>?_) (fun _ q=>q) fun _ _ q=>q
 rcases hb with z | z
 ·subst z;exact x.keep c v (nf c u e).1 (nf c u e).2 q
 ·exact x.keep c v (nf c _ z).1 (nf c _ z).2 q
def Qq (h:Heap) (e:Addr) (cls:Value) (dx:Option Addr) (T:Addr) (fl:Value):Prop:=
 ∃vs sl oT ts,h.get? e=some ⟨cls,dx,.fields vs,sl⟩∧vs[1]? = some (.ref T)∧T≠e∧h.get? T=some oT∧oT.data= .fields ts∧ts[3]? = some fl
section
variable {M:Model} {A:Around} {E:Value→Shared→Prop} {s:Shared} {base:Heap} {env:Env} {outer:List Env} {L e:Addr} {cls:Value} {dx:Option Addr} {vs:Array Value} {sl:Array (Option Value)} {Q:Unit→Shared→Prop}
theorem Jm {head:Value} {hadNext:Bool} (hfr:A.frames=some (env::outer)) (hl:s.heap.FunFrames base (env::outer)) (hf:env.frame=some L)
  (he:s.heap.get? e=some ⟨cls,dx,.fields vs,sl⟩) (hsz:1<vs.size) (k:∀h' T,s.heap.objs.size≤T→Stp (Hw (env::outer)) [e] s.heap h'→Qq h' e cls dx T (rawInt L)→Q () { s with heap:=h' }) :
  wpAny M A (do let a ←frameOf env;let pl ←entryPlaceOf L hadNext;let b ←EntryCells.newEntry head a .none (rawInt L) .none pl;setField (.ref e) 1 b) Q E s:=by
 have nfr:e∉Hw (env::outer):=fun z=>by
  obtain⟨_,o,ho,nd⟩:=hl.mem z
  rw[he] at ho;cases ho
  exact nd vs rfl
 refine wpAny_bind (wpAny_frameOf_fun hfr hl hf fun h1 so=>wpAny_bind (wpAny_entryPlaceOf fun pl hpl=>?_))
 obtain⟨_,so1,so2⟩:=so
 unfold EntryCells.newEntry newFields
 refine wpAny_bind (wpAny_newObj_type ?_ (hpl.sizeOk5 _ _ _ _ _))
 have e1:h1.get? e=some ⟨cls,dx,.fields vs,sl⟩:=(so1 e nfr).trans he
 have e2:=Heap.get?_push_of_some (h:=h1) { cls:=.type "traceback",dict:=none,data:=.fields ([head,.ref L,.none,rawInt L,.none]++(if pl.isEmpty then List.replicate 6 Value.none else pl)).toArray } e1
 refine wpAny_setField e2 rfl hsz (k _ h1.objs.size (by omega) ?_ ?_)
 ·have other:∀b o,b∉[e]→h1.get? b=some o→∀(ob:Obj) (f:Obj→Obj),((h1.push ob).update e f).get? b=some o:=fun b o hb q ob f=>
   (Heap.get?_update_other _ _ (Ne.symm (List.ne_of_not_mem_cons hb))).trans (Heap.get?_push_of_some _ q)
  refine⟨fun b o hb hc q=>other b o hc ((so1 b hb).trans q) _ _,fun b o hc q=>?_⟩
  obtain⟨sl',z⟩:=so2 b o q
  exact⟨sl',other b _ hc z _ _⟩
 ·have ne:h1.objs.size≠e:=Nat.ne_of_gt (Heap.lt_size e1)
  refine⟨_,sl,_,_,Heap.get?_update_self _ e2 rfl,?_,ne,(Heap.get?_update_other _ _ (Ne.symm ne)).trans (Heap.get?_push_size h1 rfl),rfl,?_⟩
  ·simp[hsz]
  ·rcases hpl with rfl | ⟨_,_,_,_,_,_,_,rfl⟩<;>simp
theorem NG (hfr:A.frames=some (env::outer)) (hl:s.heap.FunFrames base (env::outer)) (hf:env.frame=some L) (he:s.heap.get? e=some ⟨cls,dx,.fields vs,sl⟩) (h1:vs[1]? = some .none)
  (k:∀h' T,s.heap.objs.size≤T→Stp (Hw (env::outer)) [e] s.heap h'→Qq h' e cls dx T (rawInt L)→Q () { s with heap:=h' }):wpAny M A (noteFrame (.ref e) env) Q E s:=by
 unfold noteFrame
 simp only[hf]
 refine wpAny_bind (wpAny_field he rfl h1 ?_)
 rw[if_neg (by decide)]
 exact Jm hfr hl hf he (Array.getElem?_eq_some_iff.mp h1).1 k
theorem LF {T:Addr} {fl fl':Value} (hF:Qq s.heap e cls dx T fl):Stp [] [T] s.heap (s.heap.update T (Obj.mapFields (·.setIfInBounds 3 fl')))∧Qq (s.heap.update T (Obj.mapFields (·.setIfInBounds 3 fl'))) e cls dx T fl':=by
 obtain⟨ws,sl,oT,ts,he,h1,ne,hT,hd,h3⟩:=hF
 have other:∀b o,b∉[T]→s.heap.get? b=some o→(s.heap.update T (Obj.mapFields (·.setIfInBounds 3 fl'))).get? b=some o:=fun b o hb q=>(Heap.get?_update_other _ _ (Ne.symm (List.ne_of_not_mem_cons hb))).trans q
 refine⟨⟨fun b o _ hc q=>other b o hc q,fun b o hc q=>⟨_,other b o hc q⟩⟩,ws,sl,_,_,other e _ (by simpa using Ne.symm ne) he,h1,ne,Heap.get?_update_self _ hT (Obj.isFreed_of_fields (Obj.data_mapFields hd _)),Obj.data_mapFields hd _,?_⟩
 simp[(Array.getElem?_eq_some_iff.mp h3).1]
theorem PF {T:Addr} (hfr:A.frames=some (env::outer)) (hl:s.heap.FunFrames base (env::outer)) (hf:env.frame=some L) (hF:Qq s.heap e cls dx T .none)
  (k:∀h' T',s.heap.objs.size≤T'→Stp (Hw (env::outer)) [e,T] s.heap h'→Qq h' e cls dx T' (rawInt L)→Q () { s with heap:=h' }):wpAny M A (noteFrame (.ref e) env) Q E s:=by
 obtain⟨S,F2⟩:=LF (fl':=.none) hF
 obtain⟨ws,sl,oT,ts,he,h1,ne,hT,hd,h3⟩:=hF
 unfold noteFrame
 simp only[hf]
 refine wpAny_bind (wpAny_field he rfl h1 ?_)
 rw[if_pos (show (Value.ref T != Value.none)=true by simp)]
 refine wpAny_bind (wpAny_field hT hd h3 ?_)
 rw[if_neg (show ¬((Value.none == rawInt L)=true) by simp[rawInt])]
 refine wpAny_bind (wpAny_setField hT hd (Array.getElem?_eq_some_iff.mp h3).1 ?_)
 obtain⟨ws',sl',_,_,he',h1',_⟩:=F2
 refine Jm hfr (hl.of_keeps fun b o q nd=>?_) hf he' (Array.getElem?_eq_some_iff.mp h1').1 fun h' T' hle S' F'=>k h' T' (by simpa using hle) ?_ F'
 ·obtain⟨sl2,z⟩:=S.slot b o (fun z=>by
   have z':b=T:=by simpa using z
   subst z'
   rw[hT] at q;cases q
   exact nd ts hd) q
  exact⟨_,z,rfl⟩
 ·refine Stp.trans (h1:=s.heap.update T (Obj.mapFields (·.setIfInBounds 3 Value.none))) ⟨fun b o _ hc q=>S.keep b o (by simp) (fun z=>hc (List.mem_cons_of_mem _ z)) q,fun b o hc q=>S.slot b o (fun z=>hc (List.mem_cons_of_mem _ z)) q⟩ (S'.more fun b hb=>?_)
  rw[List.mem_singleton.mp hb]
  exact List.mem_cons_self
theorem Sq {T:Addr} {fl:Value} (hF:Qq s.heap e cls dx T fl) (k:∀h',Stp [] [T] s.heap h'→Qq h' e cls dx T .none→Q () { s with heap:=h' }):wpAny M A (setFlight (.ref e) none) Q E s:=by
 obtain⟨S,F2⟩:=LF (fl':=.none) hF
 obtain⟨ws,sl,oT,ts,he,h1,ne,hT,hd,h3⟩:=hF
 unfold setFlight
 refine wpAny_bind (wpAny_field he rfl h1 ?_)
 rw[if_pos (show (Value.ref T != Value.none)=true by simp)]
 exact wpAny_setField hT hd (Array.getElem?_eq_some_iff.mp h3).1 (k _ S F2)
end
end L2
namespace L2
open PySem PySem.Spec PyProof.Rows
def Hl:List Value:=[.type "ValueError",.type "Exception",.type "BaseException",.type "object"]
structure Ri (K:PySem.W.Frag) (C cT:Addr) (ini:Option Addr):Prop where
 cls:∃nm q N bs hdct sn sub ab col dd k0 k1 k2 k3 k5,K.lookup C=some (excClassObj nm q C N bs (.ref cT::Hl) hdct sn sub ab col dd k0 k1 k2 k3 k5 "ValueError.__new__")∧PySem.W.nsOkIn K N=true∧
  PySem.W.nsIn K N "__init__"=some (ini.map Value.ref)
 tail:PySem.W.tailIn K Hl (.ref cT::Hl)=true
 kp:PySem.W.keepIn K (.ref C)=true
theorem L4 {K:PySem.W.Frag} {N:Addr} {oc:Value} {od:Option Addr} {es:Array DictEntry} {ep:Nat} {sl:Array (Option Value)} (l:K.lookup N=some ⟨oc,od,.dict es ep,sl⟩)
  (s:(es.all fun e=>match e.key with | .str _ _=>true | _=>false)=true):PySem.W.nsOkIn K N=true:=by
 unfold PySem.W.nsOkIn
 rw[l]
 exact s
theorem Ox {K:PySem.W.Frag} {cT:Addr} {c0:Value} {d0:Option Addr} {cd:ClassData} {sl:Array (Option Value)} (l:K.lookup cT=some ⟨c0,d0,.cls cd,sl⟩) (o:PySem.W.nsOkIn K cd.ns=true) (n:PySem.W.nsIn K cd.ns "__init__"=some none) :
  PySem.W.tailIn K Hl (.ref cT::Hl)=true:=by
 have t0:PySem.W.tailIn K Hl Hl=true:=by
  unfold PySem.W.tailIn Hl
  simp
 unfold PySem.W.tailIn
 refine Bool.or_eq_true_iff.mpr (.inr ?_)
 simp only[l,o,n,t0]
 rfl
section
variable {prog:Program} {w:World} {A:Around} {E:Value→Shared→Prop} {h:Heap} {g:Array GenState} {d:Drawn} {t:Nat} {os:OsState}
variable {nm q:Str} {C N:Addr} {bs bm:List Value} {hdct:Bool} {sn:List Str} {sub:List Value} {ab:Bool} {col:Option Bool} {dd:Option Addr} {k0 k1 k2 k3 k5:Option Value}
abbrev LN (C t:Addr) (dx:Option Addr):Obj:=⟨.ref C,dx,.fields #[.ref t,.none,.none,.none,.bool false,.none],#[]⟩
end
end L2
namespace L2
open PySem PySem.Spec PyProof.Rows
structure XAt (K:PySem.W.Frag) (C cT:Addr):Prop where
 cd:∃cd,PySem.W.clsIn K C=some cd∧cd.mro= .ref C::.ref cT::Hl∧cd.hasDict=true
 sa:PySem.W.findIn K (.ref C) "__setattr__"=some (some (.builtin "object.__setattr__"))
 ga:PySem.W.findIn K (.ref C) "__getattribute__"=some (some (.builtin "BaseException.__getattribute__"))
 gn:PySem.W.findIn K (.ref C) "__getattr__"=some none
 ca:PySem.W.findIn K (.ref C) "__class__"=some (some (.builtin "object.__class__"))
 cg:PySem.W.specialIn K (.builtin "object.__class__") "__get__"=some (some (.builtin "getset_descriptor.__get__"))
 ct:PySem.W.takesIn K (.builtin "object.__class__")=some true
section
variable {prog:Program} {w:World} {A:Around} {E:Value→Shared→Prop} {s:Shared} {K:PySem.W.Frag} {C cT x t:Addr} {f:Str} {u:Value}
theorem XAt.sub {M:Model} {h:Heap} (a:XAt K C cT) (X:K.In h) (b:Value) {r:Bool} (e:(Value.ref C::.ref cT::Hl).contains b=r):PySem.W.Looks M h (isSubtype (.ref C) b) r:=by
 obtain⟨cd,h1,h2,_⟩:=a.cd
 refine PySem.W.looks_mroIn X ?_
 unfold PySem.W.mroIn
 rw[h1,Option.bind_some,h2,if_neg (by simp),e]
end
end L2
namespace L2
open PySem PySem.Spec PyProof.Rows
open Builtin Builtin.ObjectAttr
section
variable {prog:Program} {w:World} {A:Around} {E:Value→Shared→Prop} {s:Shared} {K:PySem.W.Frag} {C cT x:Addr} {ox:Obj} {od:Option Obj} {name:Str} {tk:Tok} {fill expr:Bool} {v:Value}
end
end L2
namespace L2
open PySem PySem.Spec PyProof.Rows
def Dt (P:Program) (w:World):Lf:=fun outer H s E e s'=>∃(a T:Addr) (cls:Value) (dx:Option Addr) (H':Hp),e= .ref a∧s'.os=s.os∧AllBare s'.gens∧Un (Hw outer) [] H H' s.heap s'.heap∧HOk P w H' s'.heap∧
 Qq s'.heap a cls dx T .none∧H' a=none∧H' T=none∧s.heap.objs.size≤a∧s.heap.objs.size≤T∧E cls dx H'
theorem Un.stp {fs fr ch:List Addr} {H0 H:Hp} {h0 h h':Heap} (u:Un fs [] H0 H h0 h) (S:Stp fr ch h h') (hfr:∀b∈fr,b∈fs∨h0.objs.size≤b) (hch:∀b∈ch,h0.objs.size≤b):Un fs [] H0 H h0 h':=by
 have nc:∀b o,h0.get? b=some o→b∉ch:=fun b o e z=>absurd (Heap.lt_size e) (Nat.not_lt.mpr (hch b z))
 refine⟨fun b o e n hb hx=>S.keep b o (fun z=>?_) (nc b o e) (u.keep b o e n hb hx),fun b o e n hb hx=>?_,u.free,fun b o e hx=>?_,u.tups,u.frzs,u.tbls⟩
 ·rcases hfr b z with q | q
  ·exact hb q
  ·exact absurd (Heap.lt_size e) (Nat.not_lt.mpr q)
 ·obtain⟨sl,e1⟩:=u.slot b o e n hb hx
  obtain⟨sl2,e2⟩:=S.slot b _ (nc b o e) e1
  exact⟨sl2,e2⟩
 ·obtain⟨o1,e1⟩:=u.there b o e hx
  obtain⟨sl2,e2⟩:=S.slot b _ (nc b o e) e1
  exact⟨_,e2⟩
section
variable {P:Program} {w:World} {K:PySem.W.Frag} {mg:Str→Option Value} {base:Heap} {N:List Str} {qual:Str} {scope:Scope} {f:Addr} {cdv:Value} {A:Around} {outer:List Env} {s:Shared} {H:Hp} {E:XK}
def R9 (X:Cx) (E:XK):Prop:=∀(pins:List (Addr×Obj)) (σ:St) (H':Hp) (s':Shared) (a:Addr) (cls:Value) (dx:Option Addr) (vs:Array Value) (sl:Array (Option Value)),Inv X pins σ H' s'→H' a=none→
 s'.heap.get? a=some ⟨cls,dx,.fields vs,sl⟩→vs[1]? = some .none→X.s₀.heap.objs.size≤a→E cls dx H'→X.xe (.ref a) s'
theorem DC:R9 (Jc (Dt P w) P w K mg base N qual scope f cdv A outer s H E) E:=by
 intro pins σ H' s' a cls dx vs sl I ha he h1 hsz q
 have hfr:=I.ok.frames
 have hl:=I.stack
 have lt:s.heap.objs.size≤s'.heap.objs.size:=I.sz
 have fr2:∀b∈Hw (envOfC qual scope s.heap.objs.size f cdv::outer),b∈Hw outer∨s.heap.objs.size≤b:=fun b hb=>by
  rcases List.mem_cons.mp (I.stkSub b hb) with z | z
  ·exact .inr (by rw[z];exact I.ok.above)
  ·exact .inl z
 show wpAny _ _ (leaving _ _) _ _ _
 unfold leaving
 refine wpAny_bind (NG hfr hl rfl he h1 fun h2 T hT S F=>Sq F fun h3 S3 F3=>?_)
 have u2:=Un.stp I.base S fr2 (fun b hb=>by rw[List.mem_singleton.mp hb];exact hsz)
 have u3:=Un.stp u2 S3 (fun b hb=>absurd hb (by simp)) (fun b hb=>by rw[List.mem_singleton.mp hb];exact Nat.le_trans lt hT)
 have hTn:H' T=none:=I.hok.fresh hT
 refine⟨a,T,cls,dx,H',rfl,I.os,I.bare,u3,?_,F3,ha,hTn,hsz,Nat.le_trans lt hT,q⟩
 exact S3.hok (S.hok I.hok I.stkFree fun b hb=>by rw[List.mem_singleton.mp hb];exact ha) (fun b hb=>absurd hb (by simp)) fun b hb=>by rw[List.mem_singleton.mp hb];exact hTn
theorem BF {E1:XK} (le:∀cls dx H',E1 cls dx H'→E cls dx H'):Dp (Dt P w) (Jc (Dt P w) P w K mg base N qual scope f cdv A outer s H E) E1:=by
 intro pins σ H1 s1 e s' I h
 obtain⟨a,T,cls,dx,H',rfl,os,bare,un,hok,F,ha,hT,la,lT,q⟩:=h
 have I2:=I.call' os un hok bare (fun b z=>absurd z (by simp))
 have lt:s.heap.objs.size≤s1.heap.objs.size:=I.sz
 have fr2:∀b∈Hw (envOfC qual scope s.heap.objs.size f cdv::outer),b∈Hw outer∨s.heap.objs.size≤b:=fun b hb=>by
  rcases List.mem_cons.mp (I2.stkSub b hb) with z | z
  ·exact .inr (by rw[z];exact I2.ok.above)
  ·exact .inl z
 show wpAny _ _ (leaving _ _) _ _ _
 unfold leaving
 refine wpAny_bind (PF I2.ok.frames I2.stack rfl F fun h2 T2 hT2 S F2=>Sq F2 fun h3 S3 F3=>?_)
 have l2:s.heap.objs.size≤T2:=Nat.le_trans I2.sz hT2
 have two:∀b∈[a,T],s.heap.objs.size≤b∧H' b=none:=fun b hb=>by
  rcases List.mem_cons.mp hb with z | z
  ·rw[z];exact⟨Nat.le_trans lt la,ha⟩
  ·rw[List.mem_singleton.mp z];exact⟨Nat.le_trans lt lT,hT⟩
 have u2:=Un.stp I2.base S fr2 (fun b hb=>(two b hb).1)
 have u3:=Un.stp u2 S3 (fun b hb=>absurd hb (by simp)) (fun b hb=>by rw[List.mem_singleton.mp hb];exact l2)
 have hTn:H' T2=none:=I2.hok.fresh hT2
 refine⟨a,T2,cls,dx,H',rfl,I2.os,I2.bare,u3,?_,F3,ha,hTn,Nat.le_trans lt la,l2,le _ _ _ q⟩
 exact S3.hok (S.hok I2.hok I2.stkFree fun b hb=>(two b hb).2) (fun b hb=>absurd hb (by simp)) fun b hb=>by rw[List.mem_singleton.mp hb];exact hTn
end
end L2
namespace L2
open PySem PySem.Spec PyProof.Rows
section
variable {X:Cx} {k:Nat} {fI C cT:Addr} {fd:FuncData} {ps:List Str} {sp:Sp} {Ex:XK} {x:Str} {p pos cpos:Pos} {e:Expr} {es:List Expr} {t:TA}
theorem K1 {A:Around} {E:Value→Shared→Prop} {s:Shared} {env:Env} {M:Model} {K:PySem.W.Frag} {xs:Sem Value} {Q:Flow→Shared→Prop} (a:XAt K C cT) (ty:PySem.W.typeIn K (.ref C)=some (.type "type")) (hh:A.handled=none)
  (h:wpAny M A xs (fun v s1=>∃b tp dx,v= .ref b∧K.In s1.heap∧s1.heap.get? b=some (LN C tp dx)∧E (.ref b) s1) E s):wpAny M A (raiseStmt env (some xs) none) Q E s:=by
 unfold raiseStmt
 refine wpAny_bind (wpAny_mono h (fun v s1 h1=>?_) fun _ _ z=>z)
 obtain⟨b,tp,dx,rfl,KX,hb,q⟩:=h1
 have hb1:s1.heap.get? b=some ⟨.ref C,dx,.fields #[.ref tp,.none,.none,.none,.bool false,.none],#[]⟩:=hb
 have T0:PySem.W.Looks M s1.heap (typeOf (.ref b)) (.ref C):=(PySem.W.Looks.ld hb1).andThen .now
 have T1:PySem.W.Looks M s1.heap (isType (.ref b)) false:=by
  unfold isType loadHead
  exact (PySem.W.Looks.ld hb1).andThen .now
 have T2:PySem.W.Looks M s1.heap (isExcClass (.ref b)) false:=by
  unfold isExcClass
  exact T1.andThen .now
 have T3:PySem.W.Looks M s1.heap (isInstance (.ref b) (.type "BaseException")) true:=T0.andThen (a.sub KX _ rfl)
 have T4:PySem.W.Looks M s1.heap (excFromValue (.ref b) "exceptions must derive from BaseException") (.ref b):=by
  unfold excFromValue
  exact T2.andThen (T3.andThen .now)
 have T5:PySem.W.Looks M s1.heap (raisedInstance (.ref b)) (.ref b):=by
  unfold raisedInstance
  exact T0.andThen ((PySem.W.looks_typeIn KX ty).andThen .now)
 refine wpAny_bind (wpAny_pure (wpAny_bind (wpAny_holding (T4.here ?_))))
 refine wpAny_bind (T1.here ?_)
 refine wpAny_bind (T5.here ?_)
 refine wpAny_bind ?_
 unfold setFlight
 refine wpAny_bind (wpAny_field hb1 rfl (x:=.none) rfl ?_)
 rw[if_neg (by decide)]
 exact wpAny_pure (wpAny_raiseNew_none hh q)
end
end L2
namespace L2
open PySem PySem.Spec PyProof.Rows
section
variable {X:Cx} {C cT:Addr} {o value:Expr} {ta tv:TE} {f:Str} {pos pos':Pos}
end
end L2
namespace L2
open PySem PySem.Spec PyProof.Rows
section
variable {X:Cx} {pins:List (Addr×Obj)} {σ:St} {H:Hp} {s:Shared} {a:Addr} {oe:Obj}
end
end L2
namespace L2
open PySem PySem.Spec PyProof.Rows
section
variable {X:Cx} {pins:List (Addr×Obj)} {σ:St} {H:Hp} {s:Shared}
end
section
variable {X:Cx} {C Dc:Addr} {i:Nat} {x n:Str} {np hpos pos:Pos} {body suite:List Stmt} {b0:Stmt} {tb:XK→TS} {th:Addr→Obj→TS}
end
end L2
namespace L2
open PySem PySem.Spec PyProof.Rows
section
variable {X:Cx} {C cT:Addr} {e:Expr} {f:Str} {pos:Pos} {ta:TE}
end
end L2
namespace L2
open PySem PySem.Spec PyProof.Rows
theorem Jg {K:PySem.W.Frag} {C:Addr} {T:String} {b:Bool} (hm:PySem.W.kitMeta T=true) (h:PySem.W.subIn K (.ref C) (.type T)=some b):PySem.W.kitOne K (.ref C) (.type T)=some b:=by
 unfold PySem.W.kitOne
 rw[if_neg (show ¬((Value.ref C == Value.type T)=true) by intro z;cases beq_iff_eq.mp z)]
 show (if PySem.W.kitMeta T=true then _ else _)=_
 rw[if_pos hm,h]
theorem BV {K:PySem.W.Frag} {C D:Addr} {b:Bool} (ne:(Value.ref C == Value.ref D)=false) (hc:(PySem.W.clsIn K D).isSome=true) (ht:PySem.W.typeIn K (.ref D)=some (.type "type")) (h:PySem.W.subIn K (.ref C) (.ref D)=some b):PySem.W.kitOne K (.ref C) (.ref D)=some b:=by
 unfold PySem.W.kitOne
 rw[ne,if_neg Bool.false_ne_true]
 show (if ((PySem.W.clsIn K D).isSome && PySem.W.typeIn K (.ref D) == some (.type "type"))=true then _ else _)=_
 rw[hc,ht,if_pos (by simp),h]
end L2
namespace L2
open PySem PySem.Spec PyProof.Rows
theorem Qp {K:PySem.W.Frag} {h:Heap} {N:Addr} {mg:Str→Option Value} {n:Str} (X:K.In h) (G:h.Ns N mg) (e:PySem.W.nsIn K N n=some none):mg n=none:=by
 obtain⟨o,es,ep,ho,hd,_,hf⟩:=G
 unfold PySem.W.nsIn at e
 split at e
 ·rename_i c d es2 n2 sl q
  have z:=X _ _ q
  rw[ho] at z
  cases z
  cases hd
  split at e
  ·cases e
  ·rename_i he
   rw[←hf]
   unfold nsFind findBy
   rw[←Array.find?_toList,he]
   rfl
 ·cases e
section
variable {prog:Program} {w:World} {A:Around} {E:Value→Shared→Prop} {h:Heap} {g:Array GenState} {d:Drawn} {t:Nat} {os:OsState}
variable {nm q:Str} {C N:Addr} {bs bm:List Value} {hdct:Bool} {sn:List Str} {sub:List Value} {ab:Bool} {col:Option Bool} {dd:Option Addr} {k0 k1 k2 k3 k5:Option Value}
theorem Ky {mN:Str→Option Value} {us:List Value} {Q:Fin→Shared→Prop} {A2:Around} (T:OwnTail h Hl bm)
  (hC:h.get? C=some (excClassObj nm q C N bs bm hdct sn sub ab col dd k0 k1 k2 k3 k5 "ValueError.__new__")) (hn:h.Ns N mN) (hi:mN "__init__"=none) (hu:us.length≤sizeLine)
  (k:∀h',(∀b o,h.get? b=some o→h'.get? b=some o)→h'.get? (h.objs.size+1)=some (LN C (h.objs.size+2) none)→Q (.done (.ret (.ref (h.objs.size+1)))) ⟨h',g,d,t,os⟩) :
  wpAny (model prog w) A2 (Builtin.«type.__call__» ⟨.ref C::us,[]⟩) Q E ⟨h,g,d,t,os⟩:=by
 have VF:=PySem.F.excBase_ValueError
 repeat (first | with_reducible refine wpAny_madeBy_exc hC ?_ | with_reducible refine wpAny_loadPart_at hC ?_ | wp_step)
 refine codeAny_call_builtin_code (Code.quiet_builtin _ VF.quiet) (wpAny_check_new_subT VF T hC (codeAny_exc_new_subT VF T hC ?_ hu))
 show wpAny _ _ _ _ _ _
 have kk:∀b o,h.get? b=some o→((h.push { cls:=.type "tuple",data:=.seq us.toArray }).push { cls:=.ref C,data:=.fields #[.ref h.objs.size,.none,.none,.none,.bool false,.none] }).get? b=some o:=fun b o e=>Heap.get?_push_of_some _ (Heap.get?_push_of_some _ e)
 have hE:((h.push { cls:=.type "tuple",data:=.seq us.toArray }).push { cls:=.ref C,data:=.fields #[.ref h.objs.size,.none,.none,.none,.bool false,.none] }).get? (h.objs.size+1)=some { cls:=.ref C,data:=.fields #[.ref h.objs.size,.none,.none,.none,.bool false,.none] }:=by heap_get
 have hself:(Value.ref C::bm).contains (.ref C)=true:=by simp
 have hC2:=kk _ _ hC
 have T2:=T.keeps kk
 unfold isInstance
 repeat (first | with_reducible refine wpAny_loadPart_at hE ?_ | (with_reducible refine wpAny_isSubtype_exc hC2 ?_;rw[hself]) | wp_step)
 show wpAny _ _ (typeLookup (.ref C) _) _ _ _
 refine wpAny_typeLookup_tail hC2 (hn.keeps kk) T2 VF.mroIs VF.init.lookup ?_
 rw[hi]
 refine wpAny_holding (wpAny_bind (wpAny_of_eq (VF.init.bind _) (wpAny_bind (wpAny_call (codeAny_call_builtin VF.init.plain VF.initEntry (wpAny_check_init_subT VF T2 hC2 hE rfl ?_))))))
 wp_walk
 refine k _ (fun b o hb=>?_) ?_
 ·have lt:=Heap.lt_size hb
  rw[Heap.get?_update_other _ _ (Nat.ne_of_gt (Nat.lt_succ_of_lt lt))]
  exact Heap.get?_push_of_some _ (kk b o hb)
 ·rw[Heap.get?_update_self _ (Heap.get?_push_of_some (h:=_) _ hE) rfl]
  simp only[Heap.size_push]
  rfl
theorem MC {mN:Str→Option Value} {us:List Value} {Q:Value→Shared→Prop} (T:OwnTail h Hl bm)
  (hC:h.get? C=some (excClassObj nm q C N bs bm hdct sn sub ab col dd k0 k1 k2 k3 k5 "ValueError.__new__")) (hn:h.Ns N mN) (hi:mN "__init__"=none) (hu:us.length≤sizeLine)
  (k:∀h',(∀b o,h.get? b=some o→h'.get? b=some o)→h'.get? (h.objs.size+1)=some (LN C (h.objs.size+2) none)→Q (.ref (h.objs.size+1)) ⟨h',g,d,t,os⟩) :
  wpAny (model prog w) A (call (.ref C) us) Q E ⟨h,g,d,t,os⟩:=by
 have z1:=tc_lookup
 have z2:=tc_bind (.ref C)
 have z3:(⟨h,g,d,t,os⟩:Shared).TypeIs (.ref C) "type":=⟨_,hC,rfl⟩
 refine wpAny_call (codeAny_of_tree ?_)
 show wpAny _ _ (callAny (.ref C) ⟨us,[]⟩) _ _ _
 repeat (any_goals (first | assumption | with_reducible refine wpAny_loadPart_at hC ?_ | wp_step))
 exact⟨rfl,codeAny_call_builtin_at (Code.quiet_builtin _ (by decide +kernel)) entry_typeCall (wpAny_check_type_call_sub hC (Ky T hC hn hi hu k))⟩
end
def Qk (C:Addr) (Ex:XK) (t:TA):TS:=fun _ σ H=>t σ H fun _ H1=>Ex (.ref C) none H1
section
variable {X:Cx} {C cT:Addr} {Ex:XK} {x:Str} {p pos cpos:Pos} {e:Expr} {es:List Expr} {t:TA}
theorem Db (hx:R9 X Ex) (hc:X.calm=true) (M:Ri X.K C cT none) (at_:XAt X.K C cT) (ty:PySem.W.typeIn X.K (.ref C)=some (.type "type")) (hg:Gl X x) (hm:X.mg x=some (.ref C)) (ha:PA X (e::es) t) (hlen:(e::es).length≤1000:=by decide) (hdb:(x == ("__debug__":Str))=false:=by decide)
  (he:starEach (e::es) X.env=(false,eval e X.env)::starEach es X.env:=by rfl) (hpl:(backTo cpos (starEach es X.env)).any (·.1)=false:=by rfl)
  (hvl:∀σ H (Q:List V→Hp→Prop),t σ H Q→t σ H (fun vs H1=>vs.length≤1000∧Q vs H1)) :
  PS X (.Raise (some (.Call (.Name x p) (e::es) [] cpos)) none pos) (Qk C Ex t):=by
 intro pins s σ H D I h
 rw[arm_exec_Raise]
 refine wpAny_bind (wpAny_standAt (K1 (K:=X.K) at_ ty (I.ok.hd hc) ?_))
 refine wpAny_bind (AS (Q:=fun v s1=>∃b tp dx,v= .ref b∧X.K.In s1.heap∧s1.heap.get? b=some (LN C tp dx)∧X.xe (.ref b) s1) ?_ fun v s1 q=>wpAny_bind (wpAny_standAt (wpAny_pure q)))
 refine wpAny_Call_Name_kw (FX I hg hm ?_ hdb)
 refine PySem.W.callWith_K (h₀:=X.base) I.ok.mod.kin M.kp (AS (ha cpos pins s σ H _ I (hvl _ _ _ h)) fun us s1 ⟨vs,H1,I1,r,hl,q⟩=>⟨I1.kIn,?_⟩) he hpl
 show wpAny _ _ (call (.ref C) us) _ _ _
 obtain⟨nm,q0,N,bs,hdct,sn,sub,ab,col,dd,k0,k1,k2,k3,k5,lC,oN,iN⟩:=M.cls
 have KX:=I1.kIn
 have nsN:=Heap.Ns.of_isNs (PySem.W.isNs_of_in KX oN)
 have hul:us.length≤sizeLine:=by rw[←r.length];exact Nat.le_of_lt (AF hl)
 obtain⟨hh,g,d,tk,os⟩:=s1
 refine MC (PySem.W.tail_of_in KX M.tail) (KX _ _ lC) nsN (Qp KX nsN iN) hul fun h' kk e'=>?_
 have I2:Inv X pins σ H1 ⟨h',g,d,tk,os⟩:=I1.kept (t':=tk) kk
 refine⟨_,_,none,rfl,I2.kIn,e',?_⟩
 exact hx pins σ H1 _ _ _ none _ _ I2 (I1.hok.fresh (Nat.le_succ _)) e' rfl (Nat.le_trans I1.sz (Nat.le_succ _)) q
end
section
variable {X:Cx} {Dc:Addr} {i:Nat} {x n:Str} {np hpos pos:Pos} {body suite:List Stmt} {b0:Stmt} {tb:XK→TS} {th:Addr→Obj→TS} {hs:List ExceptHandler} {tr:THs}
end
section
variable {X:Cx} {C cT:Addr}
def SK (K:PySem.W.Frag):R2:=fun x y H Q=>∃(e p:Addr) (xs:List V) (bs:List Bool),x= .ref e∧y= .ref p∧SqL K H e []∧SqL K H p xs∧bs.length=xs.length∧(∀(i:Nat) v b,xs[i]? = some v→bs[i]? = some b→∃a zs,v= .ref a∧SqL K H a zs∧b=zs.isEmpty)∧Q (.bl (bs.any id)) H
theorem Rp (hu:X.A.units+9<cLine):Eh X (compareOp .In) (SK X.K):=by
 intro pins s σ H x y v u Q I rx ry h
 obtain⟨e,p,xs,bs,rfl,rfl,he,hp,hl,hx,q⟩:=h
 cases rx
 cases ry
 obtain⟨its,r,pl,hz⟩:=I.list hp
 obtain⟨its0,r0,pl0,hz0⟩:=I.list he
 cases r0
 have lr:=r.length
 have at':∀(i:Nat) (u:Value),its[i]? = some u→∃b,bs[i]? = some b∧SeqAt.EqAt X.A.in1 s u (.ref e) b:=fun i u hi=>by
  have hil:i<its.length:=(List.getElem?_eq_some_iff.mp hi).1
  have hxi:xs[i]? = some xs[i]:=List.getElem?_eq_getElem (by omega)
  have hbi:bs[i]? = some bs[i]:=List.getElem?_eq_getElem (by omega)
  obtain⟨u2,hu2,ru2⟩:=r.get hxi
  rw[hi] at hu2
  cases hu2
  obtain⟨a,zs,ev,hq,eb⟩:=hx i _ _ hxi hbi
  rw[ev] at ru2
  cases ru2
  refine⟨_,hbi,?_⟩
  obtain⟨itz,rz,plz,_⟩:=I.list hq
  rw[eb]
  by_cases hae:a=e
  ·subst hae
   have hz1:itz=[]:=by
    have h1:=plz.isList
    have h2:=pl0.isList
    obtain⟨o1,g1,_,n1,d1⟩:=h1
    obtain⟨o2,g2,_,n2,d2⟩:=h2
    rw[g1] at g2
    cases g2
    rw[d1] at d2
    cases itz with
    | nil=>rfl
    | cons c r=>cases d2
   subst hz1
   cases rz
   exact SeqAt.EqAt.same _
  ·refine SeqAt.EqAt.of_refs hae ?_
   cases rz with
   | nil=>exact SeqAt.RcAt.lists (e:=fun _=>true) plz.isList pl0.isList rfl (by show X.A.units+1<cLine;omega) (fun j h1=>absurd h1 (Nat.not_lt_zero _))
   | cons r1 r2=>exact SeqAt.RcAt.lists_lengths plz.isList pl0.isList (by simp) (by show X.A.units+1<cLine;omega)
 let f:Value→Bool:=fun u=>(List.range its.length).any fun i=>its[i]? == some u && bs[i]? == some true
 have uniq:∀(i j:Nat) (u:Value),its[i]? = some u→its[j]? = some u→bs[i]? = bs[j]? :=fun i j u hi hj=>by
  have hil:i<its.length:=(List.getElem?_eq_some_iff.mp hi).1
  have hjl:j<its.length:=(List.getElem?_eq_some_iff.mp hj).1
  have hxi:xs[i]? = some xs[i]:=List.getElem?_eq_getElem (by omega)
  have hbi:bs[i]? = some bs[i]:=List.getElem?_eq_getElem (by omega)
  have hxj:xs[j]? = some xs[j]:=List.getElem?_eq_getElem (by omega)
  have hbj:bs[j]? = some bs[j]:=List.getElem?_eq_getElem (by omega)
  obtain⟨u2,hu2,ru2⟩:=r.get hxi
  obtain⟨u3,hu3,ru3⟩:=r.get hxj
  rw[hi] at hu2
  cases hu2
  rw[hj] at hu3
  cases hu3
  obtain⟨a,zs,ev,hq,eb⟩:=hx i _ _ hxi hbi
  obtain⟨a2,zs2,ev2,hq2,eb2⟩:=hx j _ _ hxj hbj
  rw[ev] at ru2
  rw[ev2] at ru3
  cases ru2
  have ea:a=a2:=Value.ref.inj (show Value.ref a=Value.ref a2 from ru3)
  subst ea
  rw[hbi,hbj,eb,eb2]
  obtain⟨it1,rz1,p1,_⟩:=I.list hq
  obtain⟨it2,rz2,p2,_⟩:=I.list hq2
  obtain⟨o1,g1,_,n1,d1⟩:=p1.isList
  obtain⟨o2,g2,_,n2,d2⟩:=p2.isList
  rw[g1] at g2
  cases g2
  rw[d1] at d2
  have eit:it1.toArray=it2.toArray:=by cases d2;rfl
  have eit':it1=it2:=by simpa using eit
  have l1:=rz1.length
  have l2:=rz2.length
  rw[eit'] at l1
  cases zs with
  | nil=>cases zs2 with
   | nil=>rfl
   | cons c d=>simp at l1 l2;omega
  | cons c d=>cases zs2 with
   | nil=>simp at l1 l2;omega
   | cons c2 d2=>rfl
 have ff:∀(i:Nat) (u:Value) (b:Bool),its[i]? = some u→bs[i]? = some b→f u=b:=fun i u b hi hb=>by
  have hil:i<its.length:=(List.getElem?_eq_some_iff.mp hi).1
  cases b with
  | true=>exact List.any_eq_true.mpr ⟨i,List.mem_range.mpr hil,by rw[hi,hb];simp⟩
  | false=>
   refine List.any_eq_false.mpr fun j hj z=>?_
   rw[Bool.and_eq_true] at z
   have z1:its[j]? = some u:=eq_of_beq z.1
   have z2:bs[j]? = some true:=eq_of_beq z.2
   have:=uniq i j u hi z1
   rw[hb,z2] at this
   cases this
 refine SeqAt.in_listAt f pl.isList (fun u hu=>?_) ⟨.bl _,H,I,rfl,?_⟩
 ·have hu':u∈its:=by simpa using hu
  obtain⟨i,hi⟩:=List.getElem?_of_mem hu'
  obtain⟨b,hb,eq⟩:=at' i u hi
  rw[ff i u b hi hb]
  first | exact eq | exact eq.of_in1
 ·have ea:its.toArray.any f=bs.any id:=by
   rw[show its.toArray.any f=its.any f by simp,Bool.eq_iff_iff,List.any_eq_true,List.any_eq_true]
   constructor
   ·rintro⟨u,hu,hf⟩
    obtain⟨i,hi⟩:=List.getElem?_of_mem hu
    obtain⟨b,hb,_⟩:=at' i u hi
    rw[ff i u b hi hb] at hf
    exact⟨b,List.mem_of_getElem? hb,hf⟩
   ·rintro⟨b,hb,hf⟩
    obtain⟨i,hi⟩:=List.getElem?_of_mem hb
    have hil:i<bs.length:=(List.getElem?_eq_some_iff.mp hi).1
    have hii:its[i]? = some its[i]:=List.getElem?_eq_getElem (by omega)
    exact⟨its[i],List.mem_of_getElem? hii,by rw[ff i _ b hii hi];exact hf⟩
  rw[ea]
  exact q
end
end L2
namespace L2
open PySem PySem.Spec PyProof.Rows
section
variable {X:Cx} {N:List Str} {scope:Scope} {cl:List (Str×Addr)} {js:List (Option Nat)} {elt tg iter:Expr} {ifs:List Expr} {rest:List Comprehension} {pos spos ypos:Pos} {wi:TI} {g:CC→TG} {tb:CC→Addr→TS} {i:Nat} {y:Str}
theorem Ni {WB:CC→Value→Px} (hxe:X.xe=Et) (hc:X.calm=true) (hi:PI X tg iter wi) (hs:∀x,foldedSetIterable iter X.env x=pure x) (hclos:closureFor scope X.env=pure cl) (hk:scope.kind= .function)
  (hnames:∀x∈scope.names,x.2= .local→scope.names.lookup x.1=some .local) (hcell:∀x∈scope.names,x.2≠.cell)
  (hcl:∀p∈cl,X.env.cells.lookup p.1=some p.2) (hcn:∀x,((relabel scope X.env).names.lookup x=some .cell∨(relabel scope X.env).names.lookup x=some .free)→∃c,cl.lookup x=some c)
  (hsh:Go X N scope js) (hl:js.length=N.length)
  (ht:∀c it ac,HT (X.cmp N scope cl c) (.ListComp elt (⟨tg,iter,ifs,0⟩::rest) scope pos) 0 it ac tg (WB c ac))
  (hg:∀c,PG (X.cmp N scope cl c) tg (g c)) (hb:∀c ac,PB (X.cmp N scope cl c) (WB c (.ref ac)) (tb c ac))
  (hN:X.N.Nodup) (hy:X.N[i]? = some y) (hyl:R6 X.env.scope y) (hsw:swapsWith (.ListComp elt (⟨tg,iter,ifs,0⟩::rest) scope pos) (some (.Name y ypos)) spos.line X.env=pure true)
  (hf:X.fn y=true∨X.env.scope.names.lookup y=some .local) :
  PS X (.Assign [.Name y ypos] (.ListComp elt (⟨tg,iter,ifs,0⟩::rest) scope pos) spos) (Po (JR wi js g tb) (Dq i)):=by
 intro pins s σ H D I h
 rw[exec_Assign_Name_used _ _ _ _ hsw]
 refine wpAny_bind (wpAny_standAt (wpAny_bind ?_))
 rw[arm_evalThenUse_ListComp]
 have h0:=hi pins s σ H _ I h
 refine wpAny_bind (wpAny_mono (wpAny_comprehension_free (use:=some (assign (.Name y ypos) X.env)) (Q:=fun _ s'=>SP X pins D .next s') (cl:=cl) rfl hs hclos hk hnames (AS h0 fun v s1 h1=>AS h1 fun itv s2 h2=>?_)) (fun _ s' hq=>wpAny_pure (wpAny_pure hq)) fun _ _ z=>z)
 obtain⟨it,fp,tn,J,H2,e,I2,T,st2,f2,hR⟩:=h2
 subst e
 refine wpAny_newObj_type (wpAny_newFunctionEnv hcell (by intro y hy;simp at hy) (fun h₁ hns₁ hsb₁=>?_) hk)
 dsimp only at hns₁ hsb₁ ⊢
 have I3:=I2.lnew (ys:=[]) (its:=[]) (t':=s2.toks) .nil (Nat.zero_le _)
 have fpl:∀b∈fp,b<s2.heap.objs.size:=fun b hb=>by
  obtain⟨o,e,_⟩:=T.obj 0 _ st2 b hb
  exact Heap.lt_size e
 have fpa:∀b∈fp,b≠s2.heap.objs.size:=fun b hb=>Nat.ne_of_lt (fpl b hb)
 have f3:∀b∈fp,De X pins (upd H2 s2.heap.objs.size (.lst [])) b:=fun b hb=>⟨by rw[Ax (fpa b hb)];exact (f2 b hb).1,(f2 b hb).2⟩
 have hR':=hR ⟨{ s2 with heap:=s2.heap.push { cls:=.type "list",data:=.seq ([]:List Value).toArray } },upd H2 s2.heap.objs.size (.lst []),fp⟩ s2.heap.objs.size I2.fresh
 have I4:=I3.cmp (N:=N) (cl:=cl) (js:=js) (t':=s2.toks) f3 (fun b hb=>by
  show b<(s2.heap.push _).objs.size
  rw[Heap.size_push]
  exact Nat.lt_succ_of_lt (fpl b hb)) hk hcl hcn hsh hl hns₁ hsb₁
 have st4:tn 0 h₁:=T.keep 0 _ _ st2 fun b hb o e=>(hsb₁.2 b (by
  rw[Heap.size_push]
  exact Nat.ne_of_lt (Nat.lt_succ_of_lt (fpl b hb)))).trans (Heap.get?_push_of_some _ (Heap.get?_push_of_some _ e))
 have f4:∀b∈fp,De (X.cmp N scope cl ⟨{ s2 with heap:=s2.heap.push { cls:=.type "list",data:=.seq ([]:List Value).toArray } },upd H2 s2.heap.objs.size (.lst []),fp⟩) [] (upd H2 s2.heap.objs.size (.lst [])) b:=fun b hb=>
  ⟨(f3 b hb).1,(I4.ok.exf b hb).1,I4.ok.exfs b hb,.inl hb,(I4.ok.exf b hb).2,fun p hp=>absurd (show p∈([]:List (Addr×Obj)) from hp) (by simp)⟩
 have lt3:∀b ob,({ s2 with heap:=s2.heap.push { cls:=.type "list",data:=.seq ([]:List Value).toArray } }:Shared).heap.get? b=some ob→b<(s2.heap.push { cls:=.type "list",data:=.seq ([]:List Value).toArray }).objs.size:=fun b ob e=>Heap.lt_size e
 have loop:=codeAny_mono (Da (X:=X.cmp N scope cl ⟨{ s2 with heap:=s2.heap.push { cls:=.type "list",data:=.seq ([]:List Value).toArray } },upd H2 s2.heap.objs.size (.lst []),fp⟩) (e:=.ListComp elt (⟨tg,iter,ifs,0⟩::rest) scope pos) (d:=0) (acc:=.ref s2.heap.objs.size) (pins:=[]) hxe hc (ht _ _ _) rfl rfl rfl T (hg _) (hb _ _) I4 st4 f4 hR') (R':=compPost (model X.prog X.w) X.A X.xe (some (assign (.Name y ypos) X.env)) (fun _ s'=>SP X pins D .next s') (.ref s2.heap.objs.size) (s2.heap.push { cls:=.type "list",data:=.seq ([]:List Value).toArray }).objs.size) (fun r s' hq=>by
  obtain⟨rfl,σ',H',J',q⟩:=hq
  obtain⟨m,hn,_⟩:=id J'.loc
  have I5:Inv X pins σ H' s':=I3.uncmp f3 J' (Heap.SameBut.refl _ _)
  have nL:(s2.heap.push { cls:=.type "list",data:=.seq ([]:List Value).toArray }).objs.size≠X.env.locals:=Nat.ne_of_gt I3.lt
  have nC:∀x c,X.env.cells.lookup x=some c→c≠(s2.heap.push { cls:=.type "list",data:=.seq ([]:List Value).toArray }).objs.size:=fun x c e=>by
   obtain⟨v,o,ho,_⟩:=I3.cell x c e
   exact Nat.ne_of_lt (lt3 _ _ ho)
  show wpAny _ _ (assign (.Name y ypos) X.env (.ref s2.heap.objs.size)) _ _ _
  refine wpAny_assign_Name (Im I5 hN hy hyl (v:=.ref s2.heap.objs.size) rfl (fun s6 I6 ⟨a,sb,ha⟩=>?_) hf)
  have na:(s2.heap.push { cls:=.type "list",data:=.seq ([]:List Value).toArray }).objs.size≠a:=by
   rcases ha with z | z
   ·rw[z];exact nL
   ·exact Ne.symm (nC _ _ z)
  refine⟨m,hn.sameBut sb na,fun h7 sb7=>?_⟩
  refine⟨_,H',I6.turned (t':=s6.toks) (it:=(s2.heap.push { cls:=.type "list",data:=.seq ([]:List Value).toArray }).objs.size) (fun b ob nb e=>(sb7.2 b nb).trans e) J'.free nL (.inr (Nat.le_trans I3.sz (Nat.le_refl _))) nC (fun p hp=>Nat.ne_of_lt (lt3 _ _ (I3.pin p hp).1)),q⟩)
 exact Ca (X:=X.cmp N scope cl ⟨{ s2 with heap:=s2.heap.push { cls:=.type "list",data:=.seq ([]:List Value).toArray } },upd H2 s2.heap.objs.size (.lst []),fp⟩) rfl rfl rfl (fun _=>rfl) True.intro loop (T.self _ 0 _ _ _ st4 loop)
variable {tg1 iter1:Expr} {ifs1:List Expr} {wi1:CC→TI} {g1:CC→TG} {tc tc1:CC→TT} {te:CC→TE}
theorem O4 (hN:X.N.Nodup) (hy:X.N[i]? = some y) (hyl:R6 X.env.scope y) (h:CompOk X N scope cl js) (hi:PI X tg iter wi) (hg:∀c,PG (X.cmp N scope cl c) tg (g c)) (hif:∀c,Nc (X.cmp N scope cl c) ifs (tc c)) (he:∀c,PE (X.cmp N scope cl c) elt (te c))
  (hxe:X.xe=Et:=by rfl) (hc:X.calm=true:=by rfl) (hs:∀x,foldedSetIterable iter X.env x=pure x:=by intro _;rfl) (hsw:swapsWith (.ListComp elt [⟨tg,iter,ifs,0⟩] scope pos) (some (.Name y ypos)) spos.line X.env=pure true:=by rfl)
  (hf:X.fn y=true∨X.env.scope.names.lookup y=some .local:=by first | exact .inl rfl | exact .inr rfl) :
  PS X (.Assign [.Name y ypos] (.ListComp elt [⟨tg,iter,ifs,0⟩] scope pos) spos) (Po (JR wi js g fun c ac=>Dw (tc c) (Cf ac (te c))) (Dq i)):=
 Ni (WB:=fun c ac=>Fl (X.cmp N scope cl c) ifs elt ac) hxe hc hi hs h.clos h.kind h.names h.cell h.ccl h.hcn h.shr h.len (fun c it ac=>Og) hg (fun c ac=>IB hxe (hif c) (he c)) hN hy hyl hsw hf
end
end L2
namespace L2
open PySem PySem.Spec PyProof.Rows
abbrev Up (xs:Array Nat):Prop:=xs.toList.Pairwise (· < ·)
theorem Up.lt {xs:Array Nat} (u:Up xs) {i j:Nat} {a b:Nat} (h:i<j) (ha:xs[i]? = some a) (hb:xs[j]? = some b):a<b:=by
 have ha':xs.toList[i]? = some a:=by simpa using ha
 have hb':xs.toList[j]? = some b:=by simpa using hb
 obtain⟨h1,e1⟩:=List.getElem?_eq_some_iff.mp ha'
 obtain⟨h2,e2⟩:=List.getElem?_eq_some_iff.mp hb'
 have:=List.pairwise_iff_getElem.mp u i j h1 h2 h
 omega
structure Tq (xs:Array Nat) (j p:Nat):Prop where
 le:p≤xs.size
 lo:∀i a,i<p→xs[i]? = some a→a<j
 hi:∀i a,p≤i→xs[i]? = some a→j≤a
theorem Gn {xs:Array Nat} (u:Up xs) (j:Nat):∀(fuel lo hi:Nat),hi-lo≤fuel→lo≤hi→hi≤xs.size→(∀i a,i<lo→xs[i]? = some a→a<j)→(∀i a,hi≤i→xs[i]? = some a→j≤a)→
  Tq xs j (SetTable.below.go xs j fuel lo hi)
 | 0,lo,hi,h1,h2,h3,h4,h5=>by
  have e:lo=hi:=by omega
  subst e
  exact⟨h3,h4,h5⟩
 | fuel+1,lo,hi,h1,h2,h3,h4,h5=>by
  unfold SetTable.below.go
  by_cases hlt:lo<hi
  ·rw[if_pos hlt]
   have hm:(lo+hi) / 2<xs.size:=by omega
   have eg:xs[(lo+hi) / 2]? = some xs[(lo+hi) / 2]:=Array.getElem?_eq_getElem hm
   have ed:xs.getD ((lo+hi) / 2) j=xs[(lo+hi) / 2]:=by simp[Array.getD,hm]
   show Tq xs j (if xs.getD ((lo+hi) / 2) j<j then _ else _)
   rw[ed]
   split
   ·rename_i hl
    refine Gn u j fuel ((lo+hi) / 2+1) hi (by omega) (by omega) h3 (fun i a hi' ha=>?_) h5
    by_cases e:i=(lo+hi) / 2
    ·subst e;rw[eg] at ha;cases ha;exact hl
    ·exact Nat.lt_trans (u.lt (show i<(lo+hi) / 2 by omega) ha eg) hl
   ·rename_i hl
    refine Gn u j fuel lo ((lo+hi) / 2) (by omega) (by omega) (by omega) h4 (fun i a hi' ha=>?_)
    by_cases e:i=(lo+hi) / 2
    ·subst e;rw[eg] at ha;cases ha;omega
    ·have:=u.lt (show (lo+hi) / 2<i by omega) eg ha
     omega
  ·rw[if_neg hlt]
   have e:lo=hi:=by omega
   subst e
   exact⟨h3,h4,h5⟩
theorem Gy {xs:Array Nat} (u:Up xs) (j:Nat):Tq xs j (SetTable.below xs j):=
 Gn u j xs.size 0 xs.size (by omega) (Nat.zero_le _) (Nat.le_refl _) (fun i a h=>absurd h (Nat.not_lt_zero _)) fun i a h e=>by
  have:=(Array.getElem?_eq_some_iff.mp e).1
  omega
theorem KP {xs:Array Nat} (u:Up xs) {i a:Nat} (h:xs[i]? = some a):SetTable.below xs (a+1)=i+1:=by
 have b:=Gy u (a+1)
 have hi:i<xs.size:=(Array.getElem?_eq_some_iff.mp h).1
 have h1:i<SetTable.below xs (a+1):=by
  rcases Nat.lt_or_ge i (SetTable.below xs (a+1)) with q | q
  ·exact q
  ·have:=b.hi i a q h
   omega
 rcases Nat.lt_or_ge (i+1) (SetTable.below xs (a+1)) with q | q
 ·have hs:i+1<xs.size:=Nat.lt_of_lt_of_le q b.le
  have e2:=Array.getElem?_eq_getElem hs
  have:=b.lo (i+1) _ q e2
  have:=u.lt (Nat.lt_succ_self i) h e2
  omega
 ·omega
theorem KH {xs:Array Nat} (u:Up xs):SetTable.below xs 0=0:=by
 have b:=Gy u 0
 rcases Nat.eq_zero_or_pos (SetTable.below xs 0) with q | q
 ·exact q
 ·have hs:0<xs.size:=Nat.lt_of_lt_of_le q b.le
  have:=b.lo 0 _ q (Array.getElem?_eq_getElem hs)
  omega
theorem MK {xs:Array Nat} (u:Up xs) {j:Nat} (h:xs[SetTable.below xs j]?≠some j):Up (SetTable.insertAt xs (SetTable.below xs j) j):=by
 have b:=Gy u j
 generalize SetTable.below xs j=p at b h
 unfold Up
 rw[SetTable.toList_insertAt]
 have e1:∀x∈xs.toList.take p,x<j:=fun x hx=>by
  obtain⟨i,hi⟩:=List.mem_iff_getElem?.mp hx
  rw[List.getElem?_take] at hi
  split at hi
  ·rename_i hlt
   exact b.lo i x hlt (by simpa using hi)
  ·cases hi
 have e2:∀x∈xs.toList.drop p,j<x:=fun x hx=>by
  obtain⟨i,hi⟩:=List.mem_iff_getElem?.mp hx
  rw[List.getElem?_drop] at hi
  have hi':xs[p+i]? = some x:=by simpa using hi
  have:=b.hi (p+i) x (Nat.le_add_right _ _) hi'
  have ne:x≠j:=fun e=>by
   subst e
   cases i with
   | zero=>exact h hi'
   | succ i=>
    have hp:p<xs.size:=by
     have:=(Array.getElem?_eq_some_iff.mp hi').1
     omega
    have eg:=Array.getElem?_eq_getElem hp
    have h3:=b.hi p _ (Nat.le_refl _) eg
    have h4:=u.lt (show p<p+(i+1) by omega) eg hi'
    omega
  omega
 have u':(xs.toList.take p++xs.toList.drop p).Pairwise (· < ·):=by rw[List.take_append_drop];exact u
 obtain⟨p1,p2,p3⟩:=List.pairwise_append.mp u'
 refine List.pairwise_append.mpr ⟨p1,List.pairwise_cons.mpr ⟨e2,p2⟩,fun x hx y hy=>?_⟩
 rcases List.mem_cons.mp hy with q | q
 ·rw[q];exact e1 x hx
 ·exact Nat.lt_trans (e1 x hx) (e2 y q)
theorem Ph (n:Nat):Up (Array.range n):=by
 unfold Up
 rw[Array.toList_range]
 exact List.pairwise_lt_range
end L2
namespace L2
open PySem PySem.Spec PyProof.Rows
structure TabOk (Bp:Bool) (t:SetTable):Prop where
 dum:t.dummies = #[]
 led:t.led = !Bp
 up:Up t.place
structure FR (Bp:Bool) (t:SetTable):Prop where
 led:t.led = !Bp
 up:Up t.place
theorem TabOk.it {Bp:Bool} {t:SetTable} (h:TabOk Bp t):FR Bp t:=⟨h.led,h.up⟩
theorem TabOk.plain_off {Bp:Bool} {t:SetTable} (h:TabOk Bp t):TabOk Bp { t with plain:=false }:=⟨h.dum,h.led,h.up⟩
theorem TabOk.standIn {Bp:Bool} {t:SetTable} (h:TabOk Bp t) (n:Nat):TabOk Bp (t.standIn n):=⟨rfl,h.led,Ph n⟩
theorem TabOk.orStandIn {Bp:Bool} {t:SetTable} (h:TabOk Bp t) (n:Nat):TabOk Bp (t.orStandIn n):=by
 unfold SetTable.orStandIn
 split
 ·exact h
 ·exact h.standIn n
theorem TabOk.fresh (Bp:Bool) (led:Bool) (e:led = !Bp):TabOk Bp (.fresh 0 0 led):=⟨rfl,e,List.Pairwise.nil⟩
theorem Ly (j:Nat):SetTable.has #[] j=false:=by
 unfold SetTable.has
 simp
theorem Hy (t:SetTable) (p:SetTable.Probe):(t.advance p).dummy=p.dummy:=by
 unfold SetTable.advance
 split
 ·rfl
 ·rfl
theorem J6 {t:SetTable} (hd:t.dummies = #[]) {hashAt:Nat→Int} {h:Int} {j:Nat} {d:Option Nat}:∀(fuel:Nat) (p:SetTable.Probe),p.dummy=none→SetTable.probe.go t hashAt h fuel p=some (.empty j d)→d=none∧t.place[SetTable.below t.place j]?≠some j
 | 0,_,_,e=>by cases e
 | fuel+1,p,hp,e=>by
  unfold SetTable.probe.go at e
  have hs:∀j,t.slot j=if t.place[SetTable.below t.place j]? == some j then .live (SetTable.below t.place j) else .empty:=fun j=>by
   unfold SetTable.slot
   rw[hd,Ly]
   rfl
  rw[hs] at e
  split at e
  ·rename_i hlive
   split at hlive
   ·cases hlive
   ·rename_i hne
    injection e with e
    injection e with e1 e2
    subst e1
    refine⟨by rw[←e2,hp],fun z=>hne (by rw[z];simp)⟩
  ·rename_i hlive
   split at hlive<;>cases hlive
  ·split at e
   ·cases e
   ·exact J6 hd fuel _ (by rw[Hy];exact hp) e
theorem TabOk.layNew {Bp:Bool} {t:SetTable} (ok:TabOk Bp t) (es:Array (Int×Value)) (h:Int) (x:Value):TabOk Bp (layNew t es h x).2.1:=by
 unfold PySem.layNew
 cases ef:t.freeSlot h with
 | none=>exact ok.standIn _
 | some sw=>
  obtain⟨slot,wd⟩:=sw
  show TabOk Bp ((t.put slot).1.orStandIn _)
  refine TabOk.orStandIn ?_ _
  unfold SetTable.freeSlot at ef
  split at ef
  ·rename_i j dummy eq
   have:=J6 ok.dum _ _ rfl eq
   obtain⟨rfl,hne⟩:=this
   injection ef with ef
   injection ef with e1 e2
   have e1':j=slot:=e1
   subst e1'
   unfold SetTable.put
   refine⟨?_,ok.led,MK ok.up hne⟩
   show (if SetTable.has t.dummies j then _ else t.dummies) = #[]
   rw[ok.dum,Ly]
   rfl
  ·cases ef
theorem TabOk.relayAll {Bp:Bool} {t:SetTable} (ok:TabOk Bp t) (es:Array (Int×Value)) (wanted:Nat):TabOk Bp (relayAll t es wanted).2.1:=by
 unfold PySem.relayAll
 cases er:t.relaid (es.map (·.1)) wanted with
 | none=>exact ok.standIn _
 | some to=>
  obtain⟨t',order⟩:=to
  dsimp only
  split
  ·unfold SetTable.relaid SetTable.laid at er
   cases eo:SetTable.layClean (SetTable.sizeAbove wanted-1) (es.map (·.1)) with
   | none=>rw[eo] at er;cases er
   | some owner=>
    rw[eo] at er
    injection er with er
    injection er with e1 e2
    subst e1
    refine⟨rfl,ok.led,?_⟩
    show (List.map (fun x:Nat×Nat=>x.fst) (List.filterMap (fun j=>Option.map (fun x=>(j,x)) (owner.getD j none)) (List.range (SetTable.sizeAbove wanted-1+1)))).toArray.toList.Pairwise (· < ·)
    rw[List.toList_toArray]
    rw[List.map_filterMap]
    refine List.Pairwise.filterMap _ (R:=(· < ·)) ?_ List.pairwise_lt_range
    intro a a' hlt b hb b' hb'
    have f:∀{a b:Nat},Option.map (fun x:Nat×Nat=>x.1) (Option.map (fun x=>(a,x)) (owner.getD a none))=some b→b=a:=fun {a b} e=>by
     cases q:owner.getD a none with
     | none=>rw[q] at e;cases e
     | some y=>rw[q] at e;injection e with e;exact e.symm
    rw[f hb,f hb']
    exact hlt
  ·exact ok.standIn _
end L2
namespace L2
open PySem PySem.Spec PyProof.Rows
def A6 (e:Int×Value):Int:=match e.2 with | .int k _=>k | _=>0
def EGood (l:List (Int×Value)):Prop:=∀e∈l,e.1=hashInt (A6 e)∧∃t,e.2= .int (A6 e) t
abbrev Bp (w:World):Bool:=w.params.followText "set-order"
def SetIs (w:World) (h:Heap) (a:Addr) (ks:List Int):Prop:=
 ∃o es ep t,h.get? a=some o∧o.ExactSet∧o.data= .set es ep t∧EGood es.toList∧es.toList.map A6=ks∧ks.Nodup∧ks.length<2000∧TabOk (Bp w) t∧t.fits es.size=true
theorem SetIs.keep {w:World} {h h':Heap} {a:Addr} {ks:List Int} (x:SetIs w h a ks) (k:∀o,h.get? a=some o→h'.get? a=some o):SetIs w h' a ks:=by
 obtain⟨o,es,ep,t,ho,r⟩:=x
 exact⟨o,es,ep,t,k o ho,r⟩
def SetIt (w:World) (h:Heap) (a:Addr) (ks:List Int):Prop:=
 ∃o es ep t,h.get? a=some o∧o.ExactSet∧o.data= .set es ep t∧EGood es.toList∧es.toList.map A6=ks∧ks.Nodup∧ks.length<2000∧FR (Bp w) t∧t.fits es.size=true
theorem SetIs.it {w:World} {h:Heap} {a:Addr} {ks:List Int} (x:SetIs w h a ks):SetIt w h a ks:=by
 obtain⟨o,es,ep,t,h1,h2,h3,h4,h5,h6,h7,h8,h9⟩:=x
 exact⟨o,es,ep,t,h1,h2,h3,h4,h5,h6,h7,h8.it,h9⟩
theorem SetIt.keep {w:World} {h h':Heap} {a:Addr} {ks:List Int} (x:SetIt w h a ks) (k:∀o,h.get? a=some o→h'.get? a=some o):SetIt w h' a ks:=by
 obtain⟨o,es,ep,t,ho,r⟩:=x
 exact⟨o,es,ep,t,k o ho,r⟩
section
variable {prog:Program} {w:World} {A:Around} {E:Value→Shared→Prop} {s:Shared} {a:Addr} {ks:List Int} {k:Int} {tk:Tok}
theorem EGood.elems {l:List (Int×Value)} (h:EGood l):ElemsOf (intKind prog w) l:=fun e he=>by
 obtain⟨h1,t,h2⟩:=h e he
 refine⟨⟨A6 e,?_,h1⟩,?_⟩
 ·rw[h2];exact intKind_is _ _ _ _
 ·rw[h2];rfl
theorem EGood.is {l:List (Int×Value)} (h:EGood l) {e:Int×Value} (he:e∈l) {j:Int}:(intKind prog w).is j e.2=true↔j=A6 e:=by
 obtain⟨_,t,h2⟩:=h e he
 constructor
 ·intro q
  exact (intKind prog w).inj e.2 j (A6 e) q (by rw[h2];exact intKind_is _ _ _ _)
 ·rintro rfl
  rw[h2]
  exact intKind_is _ _ _ _
theorem Do {es:Array (Int×Value)} (e:es.toList.map A6=ks):es.size=ks.length:=by rw[←e,List.length_map,Array.length_toList]
theorem Ek {h:Heap} {o:Obj} {es es':Array (Int×Value)} {ep:Nat} {t t':SetTable} (ho:h.get? a=some o) (hex:o.ExactSet) (hd:o.data= .set es ep t) (g:EGood es'.toList) (nd:(es'.toList.map A6).Nodup) (hl:es'.size<2000) (ok:TabOk (Bp w) t') (hf:t'.fits es'.size=true) :
  (h.update a (Obj.putSet es' t')).get? a=some { o with data:=.set es' (ep+1) t' }∧SetIs w (h.update a (Obj.putSet es' t')) a (es'.toList.map A6):=by
 have hg:(h.update a (Obj.putSet es' t')).get? a=some { o with data:=.set es' (ep+1) t' }:=by
  have:=Heap.get?_update_self (Obj.putSet es' t') ho (by rw[putSet_of es' t' hd];rfl)
  rw[putSet_of es' t' hd] at this;exact this
 exact⟨hg,_,es',ep+1,t',hg,hex,rfl,g,rfl,nd,by rw[List.length_map,Array.length_toList];exact hl,ok,hf⟩
theorem Cj {n:Nat} (h:n<2000):n<scanBound:=by unfold scanBound;omega
theorem J1 {g:Bool→Sem Unit} (hg:∀(b:Bool) (s₁:Shared) (Q':Unit→Shared→Prop),Q' () s₁→wpAny (model prog w) A (g b) Q' E s₁)
  {o:Obj} {es es1:Array (Int×Value)} {ep:Nat} {t t2:SetTable} (ho:s.heap.get? a=some o) (hex:o.ExactSet) (hd:o.data= .set es ep t) (g1:EGood es1.toList) (nd:(es1.toList.map A6).Nodup) (hl:es1.size<2000) (ok:TabOk (Bp w) t2) (hf:t2.fits es1.size=true) {wasDummy:Bool} {R:Option Bool→Shared→Prop}
  (h:∀h' ks',Heap.SameBut a s.heap h'→SetIs w h' a ks'→ks'.Perm (es1.toList.map A6)→R (some true) { s with heap:=h' }) :
  wpAny (model prog w) A (do
    storeSet a es1 t2
    if (!wasDummy && t2.tooFull)=true then do
      g (relayAll t2 es1 (SetTable.grown es1.size)).2.2
      storeSet a (relayAll t2 es1 (SetTable.grown es1.size)).1 (relayAll t2 es1 (SetTable.grown es1.size)).2.1
      pure (some true)
     else pure (some true)) R E s:=by
 refine wpAny_bind (wpAny_storeSet_of ho hd ?_ (fits_of_scanBound (Cj hl)))
 obtain⟨ho1,hS1⟩:=Ek (w:=w) ho hex hd g1 nd hl ok hf
 have hsb1:=Heap.SameBut.update s.heap a (Obj.putSet es1 t2)
 split
 ·have hp:=relayAll_perm t2 es1 (SetTable.grown es1.size)
  have hfr:=relayAll_fits t2 es1 (SetTable.grown es1.size)
  have okr:=ok.relayAll es1 (SetTable.grown es1.size)
  generalize hRl:relayAll t2 es1 (SetTable.grown es1.size)=Rl at hp hfr okr ⊢
  obtain⟨es2,t3,gave2⟩:=Rl
  dsimp only at hp hfr okr ⊢
  have hsz:es2.size=es1.size:=by rw[←Array.length_toList,hp.length_eq,Array.length_toList]
  have hb2:es2.size<2000:=by rw[hsz];exact hl
  have g2:EGood es2.toList:=fun e he=>g1 e (hp.mem_iff.mp he)
  refine wpAny_bind (hg _ _ _ ?_)
  refine wpAny_bind (wpAny_storeSet_of ho1 rfl ?_ (fits_of_scanBound (Cj hb2)))
  obtain⟨_,hS2⟩:=Ek (w:=w) ho1 hex rfl g2 ((hp.map A6).nodup_iff.mpr nd) hb2 okr hfr
  exact wpAny_pure (h _ _ (hsb1.trans (Heap.SameBut.update _ a _)) hS2 (hp.map A6))
 ·exact wpAny_pure (h _ _ hsb1 hS1 (List.Perm.refl _))
theorem FZ {Q:Bool→Shared→Prop} (hS:SetIs w s.heap a ks) (hroom:ks.length+1<2000)
  (h:∀h' ks',Heap.SameBut a s.heap h'→SetIs w h' a ks'→(∀j,j∈ks'↔j∈ks∨j=k)→ks'.length≤ks.length+1→Q (!decide (k∈ks)) { s with heap:=h' }) :
  wpAny (model prog w) A (setAddHashed a (.int k tk) (hashInt k)) Q E s:=by
 obtain⟨o,es,ep,t,ho,hex,hd,hg,hk,nd,hl,ok,hf⟩:=id hS
 have hsz:=Do hk
 have hkey:(intKind prog w).is k (.int k tk)=true:=intKind_is _ _ _ _
 unfold setAddHashed setAddHashedIn
 refine wpAny_holding (wpAny_bind (wpAny_setState_of ho hd hf ?_))
 dsimp only
 rw[byScan_of (knd:=intKind prog w) rfl (by rw[hsz];exact Cj hl) hg.elems]
 simp only[↓reduceIte]
 unfold setAddByScan
 refine wpAny_bind ?_
 refine wpAny_bind (wpAny_rule ?_)
 refine wpAny_bind (wpAny_setScan_of (knd:=intKind prog w) hkey ho hd hf hg.elems ?_)
 cases hr:List.findIdx? (fun e=>(intKind prog w).is k e.2) es.toList with
 | some j=>
  dsimp only
  obtain⟨hj,hpj,_⟩:=List.findIdx?_eq_some_iff_getElem.mp hr
  have hmem:k∈ks:=by
   rw[←hk,(hg.is (List.getElem_mem hj)).mp hpj]
   exact List.mem_map_of_mem (List.getElem_mem hj)
  refine wpAny_pure (wpAny_pure ?_)
  have e:s={ s with heap:=s.heap }:=by cases s;rfl
  have:=h s.heap ks (Heap.SameBut.refl a s.heap) hS (fun j=>⟨.inl,fun z=>z.elim id fun z=>z ▸ hmem⟩) (Nat.le_succ _)
  rw[decide_eq_true hmem] at this;rw[e];exact this
 | none=>
  dsimp only
  have hmem:k∉ks:=fun z=>by
   rw[←hk] at z
   obtain⟨e,he,rfl⟩:=List.mem_map.mp z
   have:=List.findIdx?_eq_none_iff.mp hr e he
   rw[(hg.is he).mpr rfl] at this
   cases this
  have hgw:∀(b:Bool) {s₁:Shared} {Q':Unit→Shared→Prop},Q' () s₁→wpAny (model prog w) A (match b with | true=>rule "set.scan.the-table-gave-way" | false=>pure ()) Q' E s₁:=
   fun b s₁ Q' hq=>by cases b<;>first | exact wpAny_pure hq | exact wpAny_rule hq
  have hperm:=layNew_perm t es (hashInt k) (.int k tk)
  have hfits:=layNew_fits t es (hashInt k) (.int k tk)
  have ok1:=ok.layNew es (hashInt k) (.int k tk)
  generalize hL:layNew t es (hashInt k) (.int k tk)=L at hperm hfits ok1
  have hL':layNew t es ((intKind prog w).hash k) (.int k tk)=L:=hL
  show wpAny (model prog w) A _ _ E s
  obtain⟨es1,t1,wasDummy,gave⟩:=L
  simp only[hL]
  dsimp only at hperm hfits ok1 ⊢
  rw[Array.toList_push] at hperm
  have hg1:EGood es1.toList:=fun e he=>by
   rcases List.mem_append.mp (hperm.mem_iff.mp he) with z | z
   ·exact hg e z
   ·rw[List.mem_singleton.mp z]
    exact⟨rfl,tk,rfl⟩
  have hpk:(es1.toList.map A6).Perm (ks++[k]):=by
   have:=hperm.map A6
   rw[List.map_append,hk] at this
   exact this
  have nd1:(es1.toList.map A6).Nodup:=hpk.nodup_iff.mpr (List.nodup_append.mpr ⟨nd,List.nodup_cons.mpr ⟨by simp,List.nodup_nil⟩,fun x hx y hy=>by rw[List.mem_singleton.mp hy];intro z;subst z;exact hmem hx⟩)
  have hl1:es1.size<2000:=by
   have:=hpk.length_eq
   rw[List.length_map,Array.length_toList,List.length_append] at this
   rw[this]
   exact hroom
  refine wpAny_bind (hgw _ ?_)
  have hend:∀h' ks',Heap.SameBut a s.heap h'→SetIs w h' a ks'→ks'.Perm (es1.toList.map A6)→Q true { s with heap:=h' }:=by
   intro h' ks' hsb hS' hp'
   have hq:=hp'.trans hpk
   have:=h h' ks' hsb hS' (fun j=>by rw[hq.mem_iff,List.mem_append,List.mem_singleton]) (by rw[hq.length_eq,List.length_append];exact Nat.le_refl _)
   rw[decide_eq_false hmem] at this
   exact this
  split
  ·refine wpAny_bind ?_
   rw[hashByValue_scannable 8 (x:=.int k tk) rfl]
   refine wpAny_pure ?_
   refine J1 ?_ ho hex hd hg1 nd1 hl1 ?_ ?_ ?_
   ·intro b s₁ Q' hq;cases b<;>first | exact wpAny_pure hq | exact wpAny_rule hq
   ·split
    ·exact ok1
    ·exact ok1.plain_off
   ·split
    ·exact hfits
    ·exact SetTable.fits_plain_off hfits
   ·intro h' ks' hsb hS' hp';dsimp only;exact wpAny_pure (hend h' ks' hsb hS' hp')
  ·refine wpAny_bind (wpAny_pure ?_)
   simp only[↓reduceIte]
   refine J1 ?_ ho hex hd hg1 nd1 hl1 ok1 hfits ?_
   ·intro b s₁ Q' hq;cases b<;>first | exact wpAny_pure hq | exact wpAny_rule hq
   ·intro h' ks' hsb hS' hp';dsimp only;exact wpAny_pure (hend h' ks' hsb hS' hp')
end
end L2
namespace L2
open PySem PySem.Spec PyProof.Rows
abbrev Bd (w:World):Obj:={ cls:=.type "set",dict:=none,data:=.set #[] 0 (.fresh 0 0 (!Bp w)) }
theorem set0_is {w:World} {h:Heap}:SetIs w (h.push (Bd w)) h.objs.size []:=
 ⟨_,#[],0,_,Heap.get?_push_size _ rfl,⟨rfl,rfl,rfl⟩,rfl,fun e he=>absurd he (by simp),rfl,List.nodup_nil,by decide,TabOk.fresh _ _ rfl,rfl⟩
section
variable {prog:Program} {w:World} {A:Around} {E:Value→Shared→Prop} {s:Shared} {a:Addr} {ks:List Int} {k:Int} {tk:Tok}
theorem SetIs.typeIs (hS:SetIs w s.heap a ks):s.TypeIs (.ref a) "set":=let ⟨o,_,_,_,ho,hc,_⟩:=hS;⟨o,ho,hc.1⟩
theorem SetIs.noDict (hS:SetIs w s.heap a ks):∀b,Value.ref a= .ref b→∃ob,s.heap.get? b=some ob∧ob.dict=none:=
 fun b e=>by injection e with e;subst e;exact let ⟨o,_,_,_,ho,hc,_⟩:=hS;⟨o,ho,hc.2.1⟩
theorem SetIt.typeIs (hS:SetIt w s.heap a ks):s.TypeIs (.ref a) "set":=let ⟨o,_,_,_,ho,hc,_⟩:=hS;⟨o,ho,hc.1⟩
theorem JP {vs:List Value} (hv:vs=[]∨∃x,vs=[x]) {Q₁:Value→Shared→Prop}
  (h:Q₁ (.ref s.heap.objs.size) { s with heap:=s.heap.push (Bd w) }) :
  codeAny (model prog w) A (.call (.builtin "set.__new__") ⟨.type "set"::vs,[]⟩) (wants Q₁ E) s:=by
 have hn:checkBuiltinCall "set.__new__" ⟨.type "set"::vs,[]⟩=pure ():=by
  rcases hv with rfl | ⟨x,rfl⟩
  ·exact F.newCall_set_0
  ·exact F.newCall_set_1 x
 refine codeAny_of_tree ?_
 show wpAny _ A.in1 (do checkBuiltinCall "set.__new__" ⟨.type "set"::vs,[]⟩;again (.builtin "set.__new__" ⟨.type "set"::vs,[]⟩)) _ _ s
 refine wpAny_bind (wpAny_of_eq hn (wpAny_pure ⟨plainId_quiet F.plain_set_new _,codeAny_builtin F.entry_set_new ?_⟩))
 rw[Around.under_plainId F.plain_set_new _]
 have hsub:=sub_set_self
 obtain⟨hp,g,d,tk,os⟩:=s
 rcases hv with rfl | ⟨x,rfl⟩
 all_goals
  unfold Builtin.«set.__new__» Builtin.Frozenset.newClass
  dsimp only
  wp_walk
  refine wpAny_askSetting (wpAny_pure ?_)
  dsimp only
  simp only[newObj]
  refine wpAny_bind (wpAny_alloc (wpAny_pure ?_))
  exact wpAny_pure h
set_option maxHeartbeats 1000000 in
theorem OL {Q:Value→Shared→Prop} (h:Q (.ref s.heap.objs.size) { s with heap:=s.heap.push (Bd w) }):wpAny (model prog w) A (call (.type "set") []) Q E s:=by
 obtain⟨c,tl,hmro⟩:=F.called_set.mro
 have hmade:=F.called_set.made
 have hsub:=F.called_set.sub
 refine wpAny_call (codeAny_of_tree ?_)
 show wpAny _ _ (callAny (.type "set") _) _ _ _
 refine wpAny_pure ⟨Code.quiet_builtin _ (by decide +kernel),codeAny_builtin F.entry_type_call ?_⟩
 rw[Around.under_plain (weight_type_call_type "set" [] []) rfl]
 have h1:=F.called_set.notType
 have h2:=F.called_set.canCreate
 have hct:=F.typeCall_set_0
 repeat (any_goals (first | assumption | wp_step))
 refine codeAny_mono (JP (E:=E) (.inl rfl) (Q₁:=fun obj s₁=>obj= .ref s.heap.objs.size∧s₁={ s with heap:=s.heap.push (Bd w) }) ⟨rfl,rfl⟩) fun r s₁ hr=>?_
 cases r with
 | error e=>exact hr
 | ok fl=>
  cases fl with
  | ret obj=>
   obtain⟨rfl,rfl⟩:=hr
   have hS:(s.heap.push (Bd w)).get? s.heap.objs.size=some (Bd w):=Heap.get?_push_size _ rfl
   have hT:Shared.TypeIs { s with heap:=s.heap.push (Bd w) } (.ref s.heap.objs.size) "set":=⟨_,hS,rfl⟩
   have hli:=F.called_set.init.lookup
   have hbi:=F.called_set.init.bind (.ref s.heap.objs.size)
   repeat (any_goals (first | assumption | wp_step))
   refine codeAny_mono (codeAny_call_builtin (R:=wants (fun r s₂=>r= .none∧Q (.ref s.heap.objs.size) s₂) E) F.called_set.init.plain F.entry_set_init (check_set_init hT ?_)) fun r₂ s₂ hr₂=>?_
   ·unfold Builtin.«set.__init__» noKeywords
    wp_walk
    exact⟨rfl,h⟩
   ·cases r₂ with
    | error e=>exact hr₂
    | ok fl₂=>
     cases fl₂ with
     | ret r=>
      obtain⟨rfl,hQ⟩:=hr₂
      repeat (any_goals (first | assumption | wp_step))
     | _=>exact hr₂.elim
  | _=>exact hr.elim
theorem J5 {Q:Value→Shared→Prop} (hS:SetIs w s.heap a ks) (hroom:ks.length+1<2000)
  (h:∀h' ks',Heap.SameBut a s.heap h'→SetIs w h' a ks'→(∀j,j∈ks'↔j∈ks∨j=k)→ks'.length≤ks.length+1→Q .none { s with heap:=h',toks:=s.toks+1 }) :
  wpAny (model prog w) A (call (.builtin "set.add") [.ref a,.int k tk]) Q E s:=by
 refine wpAny_call_entry F.slot_set_add hS.typeIs F.entry_set_add ?_ (F.args_set_add_2 _ _)
 unfold Builtin.«set.add» Builtin.Frozenset.oneOther
 simp only[List.isEmpty_nil,bind_assoc]
 unfold Builtin.Frozenset.addrOf setAdd
 refine wpAny_bind (wpAny_pure ?_)
 try dsimp only
 refine wpAny_bind (wpAny_pure ?_)
 try dsimp only
 refine wpAny_bind ?_
 refine wpAny_holding ?_
 refine wpAny_bind ((intKind prog w).pyHash (k:=k) (intKind_is _ _ _ _) ?_)
 refine FZ (s:={ s with toks:=s.toks+1 }) hS hroom fun h' ks' hsb hS' hm hl=>?_
 show wpAny _ _ (ret Value.none) _ _ _
 exact wpAny_pure ⟨_,rfl,h h' ks' hsb hS' hm hl⟩
end
end L2
namespace L2
open PySem PySem.Spec PyProof.Rows
theorem slot_setit_next:Slot "set_iterator" "__next__" "set_iterator.__next__":=
 .of (owner:="set_iterator") (n:="__next__") (by rw[typeLookup_type,builtinLookup_eq_fast];kernel_rfl) (by decide +kernel) (by decide +kernel) (by decide +kernel)
  (by first | exact .inl (by decide +kernel) | exact .inr (by decide +kernel)) (by rw[isSubtype_type];kernel_rfl)
theorem Df:entryFor table "set_iterator.__next__"=some Builtin.«set_iterator.__next__»:=entryFor_of_tree (by kernel_rfl)
theorem Ds (a:Value):argsOk "set_iterator.__next__" ⟨[a],[]⟩:=by unfold argsOk;kernel_rfl
theorem Ht:entryFor table "set.__iter__"=some Builtin.«frozenset.__iter__»:=entryFor_alias (id':="frozenset.__iter__") (by kernel_rfl) rfl (by decide +kernel) (by kernel_rfl)
theorem Dr:Slot "set_iterator" "__iter__" "set_iterator.__iter__":=
 .of (owner:="set_iterator") (n:="__iter__") (by rw[typeLookup_type,builtinLookup_eq_fast];kernel_rfl) (by decide +kernel) (by decide +kernel) (by decide +kernel)
  (by first | exact .inl (by decide +kernel) | exact .inr (by decide +kernel)) (by rw[isSubtype_type];kernel_rfl)
theorem E7:entryFor table "set_iterator.__iter__"=some Builtin.«dict_keyiterator.__iter__»:=entryFor_alias (id':="dict_keyiterator.__iter__") (by kernel_rfl) rfl (by decide +kernel) (by kernel_rfl)
theorem FW (a:Value):argsOk "set_iterator.__iter__" ⟨[a],[]⟩:=by unfold argsOk;kernel_rfl
theorem slot_set_len':Slot "set" "__len__" "set.__len__":=
 .of (owner:="set") (n:="__len__") (by rw[typeLookup_type,builtinLookup_eq_fast];kernel_rfl) (by decide +kernel) (by decide +kernel) (by decide +kernel)
  (by first | exact .inl (by decide +kernel) | exact .inr (by decide +kernel)) (by rw[isSubtype_type];kernel_rfl)
end L2
namespace L2
open PySem PySem.Spec PyProof.Rows
inductive Mh (w:World) (a:Addr) (es:Array (Int×Value)) (ep:Nat) (t:SetTable) (h:Heap):(Nat→Value)→List Value→Prop where
 | text:Bp w=true→Mh w a es ep t h (fun _=>rawInt 0) ((pickOrder (w.params.setOrder a ep) es).toList.map (·.2))
 | led:Bp w=false→(!t.plain && decide (es.size>1))=false→Mh w a es ep t h (fun i=>rawInt (((if i=0 then 0 else t.place.getD (i-1) 0+1:Nat)):Int)) (es.toList.map (·.2))
 | drw (T:Addr) (o:Obj) (c:Nat) (ps:List Nat):Bp w=false→h.get? T=some o→o.data= .seq (ps.map fun (i:Nat)=>rawInt i).toArray c→(∀p∈ps,p<es.size)→Mh w a es ep t h (fun _=>.ref T) (ps.map fun p=>(es.getD p (0,.none)).2)
def ItAt (h:Heap) (it a:Addr) (first:Value) (i n ep:Nat):Prop:=∃o,h.get? it=some o∧o.cls= .type "set_iterator"∧o.data= .fields #[first,rawInt i,.ref a,rawInt n,rawInt ep]
theorem ItAt.typeIs {s:Shared} {it a:Addr} {first:Value} {i n ep:Nat} (x:ItAt s.heap it a first i n ep):s.TypeIs (.ref it) "set_iterator":=let ⟨o,ho,hc,_⟩:=x;⟨o,ho,hc⟩
section
variable {prog:Program} {w:World} {A:Around} {E:Value→Shared→Prop} {s:Shared} {a it:Addr} {o:Obj} {es:Array (Int×Value)} {ep i:Nat} {t:SetTable} {fst:Nat→Value} {ord:List Value}
theorem Ln {h:Heap} {first f2:Value} {n:Nat} (x:ItAt h it a first i n ep):ItAt ((h.update it (Obj.mapFields (·.setIfInBounds 0 f2))).update it (Obj.mapFields (·.setIfInBounds 1 (rawInt ((i:Int)+1))))) it a f2 (i+1) n ep:=by
 obtain⟨o,ho,hc,hd⟩:=x
 have h1:=Heap.get?_update_self (Obj.mapFields (·.setIfInBounds 0 f2)) ho (Obj.isFreed_of_fields (Obj.data_mapFields hd _))
 have hd1:=Obj.data_mapFields hd (·.setIfInBounds 0 f2)
 refine⟨_,Heap.get?_update_self _ h1 (Obj.isFreed_of_fields (Obj.data_mapFields hd1 _)),(Obj.cls_mapFields ..).trans ((Obj.cls_mapFields ..).trans hc),?_⟩
 rw[Obj.data_mapFields hd1]
 simp
theorem Qt {h:Heap} {first:Value} {n:Nat} (x:ItAt h it a first i n ep):ItAt (h.update it (Obj.mapFields (·.setIfInBounds 1 (rawInt ((i:Int)+1))))) it a first (i+1) n ep:=by
 obtain⟨o,ho,hc,hd⟩:=x
 refine⟨_,Heap.get?_update_self _ ho (Obj.isFreed_of_fields (Obj.data_mapFields hd _)),(Obj.cls_mapFields ..).trans hc,?_⟩
 rw[Obj.data_mapFields hd]
 simp
theorem JC {Q:Option (Value×Nat)→Shared→Prop} {slot:Nat} (ho:s.heap.get? a=some o) (hd:o.data= .set es ep t) (ok:FR (Bp w) t) (hf:t.fits es.size=true) (hb:Bp w=false) (hn:(!t.plain && decide (es.size>1))=false)
  (hs:slot=if i=0 then 0 else t.place.getD (i-1) 0+1) (hi:i≤es.size) (q:Q (match es[i]?,t.place[i]? with | some (_,x),some j=>some (x,j+1) | _,_=>none) s):wpAny (model prog w) A (setNext a slot i ep) Q E s:=by
 have hpl:t.place.size=es.size:=by
  unfold SetTable.fits at hf
  exact beq_iff_eq.mp (Bool.and_eq_true_iff.mp hf).1
 have hbel:SetTable.below t.place slot=i:=by
  rw[hs]
  split
  ·rename_i e;rw[e];exact KH ok.up
  ·rename_i e
   have h1:i-1<t.place.size:=by omega
   have eg:=Array.getElem?_eq_getElem h1
   have ed:t.place.getD (i-1) 0=t.place[i-1]:=by simp[Array.getD,h1]
   rw[ed,KP ok.up eg]
   omega
 unfold setNext setsByText
 refine wpAny_bind (wpAny_setState_of ho hd hf ?_)
 dsimp only
 refine wpAny_bind (wpAny_bind (wpAny_askSetting (wpAny_pure ?_)))
 show wpAny _ _ (if Bp w=true then _ else _) _ _ _
 rw[hb,if_neg Bool.false_ne_true]
 show wpAny _ _ (if (!t.plain && decide (es.size>1))=true then _ else _) _ _ _
 rw[hn,if_neg Bool.false_ne_true]
 refine wpAny_bind ?_
 show wpAny _ _ (if (!t.led && !es.isEmpty)=true then _ else _) _ _ _
 rw[ok.led,hb,if_neg (by simp)]
 refine wpAny_pure ?_
 rw[hbel]
 exact wpAny_pure q
theorem HR {Q:Option (Value×Nat)→Shared→Prop} {slot:Nat} (ho:s.heap.get? a=some o) (hd:o.data= .set es ep t) (hf:t.fits es.size=true) (hb:Bp w=true)
  (q:Q (((pickOrder (w.params.setOrder a ep) es)[i]?).map fun e=>(e.2,slot)) s):wpAny (model prog w) A (setNext a slot i ep) Q E s:=by
 unfold setNext setsByText
 refine wpAny_bind (wpAny_setState_of ho hd hf ?_)
 dsimp only
 refine wpAny_bind (wpAny_bind (wpAny_askSetting (wpAny_pure ?_)))
 show wpAny _ _ (if Bp w=true then _ else _) _ _ _
 rw[hb,if_pos rfl]
 show wpAny _ _ (if (ep != ep)=true then _ else _) _ _ _
 rw[if_neg (by simp)]
 refine wpAny_bind ?_
 unfold setWalk setsByText
 refine wpAny_bind (wpAny_setState_of ho hd hf ?_)
 dsimp only
 refine wpAny_bind (wpAny_bind (wpAny_askSetting (wpAny_pure ?_)))
 show wpAny _ _ (if Bp w=true then _ else _) _ _ _
 rw[hb,if_pos rfl]
 refine wpAny_bind (wpAny_askSetting ?_)
 exact wpAny_pure (wpAny_pure q)
theorem Mn {Q:Value→Shared→Prop} {p:Nat} {e:Int×Value} (ho:s.heap.get? a=some o) (hd:o.data= .set es ep t) (hf:t.fits es.size=true) (hp:es[p]? = some e) (q:Q e.2 s):wpAny (model prog w) A (setNextDrawn a p ep) Q E s:=by
 unfold setNextDrawn
 refine wpAny_bind (wpAny_setState_of ho hd hf ?_)
 dsimp only
 show wpAny _ _ (if (ep != ep)=true then _ else _) _ _ _
 rw[if_neg (by simp)]
 simp only[hp]
 exact wpAny_pure q
theorem Mc {x:Value} {Q:Option Value→Shared→Prop} (hit:ItAt s.heap it a (fst i) i es.size ep) (ho:s.heap.get? a=some o) (hd:o.data= .set es ep t) (ok:FR (Bp w) t) (hf:t.fits es.size=true) (M:Mh w a es ep t s.heap fst ord) (hx:ord[i]? = some x) (hl:ord.length=es.size)
  (hQ:∀h',ItAt h' it a (fst (i+1)) (i+1) es.size ep→Heap.SameBut it s.heap h'→Q (some x) { s with heap:=h' }):wpAny (model prog w) A (pyNext (.ref it)) Q E s:=by
 obtain⟨oi,hoi,hci,hdi⟩:=id hit
 have hix:i<es.size:=by rw[←hl];exact (List.getElem?_eq_some_iff.mp hx).1
 unfold pyNext
 refine wpAny_bind (wpAny_attempt (wpAny_callSpecial?_slot (name:=Str.ofString "__next__") hit.typeIs slot_setit_next
  (wpAny_call_entry slot_setit_next hit.typeIs Df ?_ (Ds _))))
 show wpAny _ _ (fieldsOf (.ref it) >>= _) _ _ s
 refine wpAny_bind (wpAny_fieldsOf hoi hdi ?_)
 show wpAny _ _ (setEntries a >>= _) _ _ s
 refine wpAny_bind (wpAny_setEntries_of ho hd hf ?_)
 show wpAny _ _ (if (((es.size:Nat):Int) != ((es.size:Nat):Int))=true then _ else _) _ _ _
 rw[if_neg (by simp)]
 have hd1:=fun f2:Value=>Obj.data_mapFields hdi (·.setIfInBounds 0 f2)
 have ho1:=fun f2:Value=>Heap.get?_update_self (Obj.mapFields (·.setIfInBounds 0 f2)) hoi (Obj.isFreed_of_fields (hd1 f2))
 cases M with
 | text hb=>
  rw[List.getElem?_map] at hx
  obtain⟨e,he,rfl⟩:=Option.map_eq_some_iff.mp hx
  have he':(pickOrder (w.params.setOrder a ep) es)[i]? = some e:=by simpa using he
  refine wpAny_bind (HR (i:=i) (ep:=ep) ho hd hf hb ?_)
  rw[he']
  refine wpAny_bind (wpAny_setField hoi hdi (by simp) ?_)
  refine wpAny_bind (wpAny_setField (ho1 _) (hd1 _) (by simp) (wpAny_pure ⟨e.2,rfl,wpAny_pure (hQ _ (Ln hit) ((Heap.SameBut.update ..).trans (Heap.SameBut.update ..)))⟩))
 | led hb hn=>
  rw[List.getElem?_map] at hx
  obtain⟨e,he,rfl⟩:=Option.map_eq_some_iff.mp hx
  have he':es[i]? = some e:=by simpa using he
  have hpl:t.place.size=es.size:=by
   unfold SetTable.fits at hf
   exact beq_iff_eq.mp (Bool.and_eq_true_iff.mp hf).1
  have hp1:i<t.place.size:=by omega
  have hp:t.place[i]? = some t.place[i]:=Array.getElem?_eq_getElem hp1
  have ed:t.place.getD i 0=t.place[i]:=by simp[Array.getD,hp1]
  refine wpAny_bind (JC (i:=i) (ep:=ep) ho hd ok hf hb hn rfl (Nat.le_of_lt hix) ?_)
  rw[he',hp]
  refine wpAny_bind (wpAny_setField hoi hdi (by simp) ?_)
  refine wpAny_bind (wpAny_setField (ho1 _) (hd1 _) (by simp) (wpAny_pure ⟨e.2,rfl,wpAny_pure (hQ _ ?_ ((Heap.SameBut.update ..).trans (Heap.SameBut.update ..)))⟩))
  have e2:rawInt (((if i+1=0 then 0 else t.place.getD (i+1-1) 0+1:Nat)):Int)=rawInt ((t.place[i]+1:Nat):Int):=by rw[if_neg (by omega),Nat.add_sub_cancel,ed]
  show ItAt _ it a (rawInt (((if i+1=0 then 0 else t.place.getD (i+1-1) 0+1:Nat)):Int)) (i+1) es.size ep
  rw[e2]
  exact Ln hit
 | drw T oT c ps hb hT hdT hps=>
  rw[List.getElem?_map] at hx
  obtain⟨p,hp,rfl⟩:=Option.map_eq_some_iff.mp hx
  have hpe:p<es.size:=hps p (List.mem_of_getElem? hp)
  have ee:es[p]? = some es[p]:=Array.getElem?_eq_getElem hpe
  have ed:es.getD p (0,.none)=es[p]:=by simp[Array.getD,hpe]
  show wpAny _ _ (seqItems? (.ref T) >>= _) _ _ _
  refine wpAny_bind (wpAny_seqItems hT hdT ?_)
  have hpi:((ps.map fun (i:Nat)=>rawInt i).toArray)[i]? = some (rawInt p):=by simp[hp]
  simp only[Int.toNat_natCast,hpi]
  refine wpAny_bind (Mn (p:=p) ho hd hf ee ?_)
  refine wpAny_bind (wpAny_setField hoi hdi (by simp) (wpAny_pure ⟨_,rfl,wpAny_pure ?_⟩))
  rw[ed] at hQ
  exact hQ _ (Qt hit) (Heap.SameBut.update ..)
theorem Oj {Q:Option Value→Shared→Prop} (hh:A.handled=none) (hit:ItAt s.heap it a (fst es.size) es.size es.size ep) (ho:s.heap.get? a=some o) (hd:o.data= .set es ep t) (ok:FR (Bp w) t) (hf:t.fits es.size=true) (M:Mh w a es ep t s.heap fst ord) (hl:ord.length=es.size)
  (hQ:∀h',Heap.ExtBut it s.heap h'→Q none { s with heap:=h' }):wpAny (model prog w) A (pyNext (.ref it)) Q E s:=by
 obtain⟨oi,hoi,hci,hdi⟩:=id hit
 unfold pyNext
 refine wpAny_bind (wpAny_attempt (wpAny_callSpecial?_slot (name:=Str.ofString "__next__") hit.typeIs slot_setit_next
  (wpAny_call_entry slot_setit_next hit.typeIs Df ?_ (Ds _))))
 show wpAny _ _ (fieldsOf (.ref it) >>= _) _ _ s
 refine wpAny_bind (wpAny_fieldsOf hoi hdi ?_)
 show wpAny _ _ (setEntries a >>= _) _ _ s
 refine wpAny_bind (wpAny_setEntries_of ho hd hf ?_)
 show wpAny _ _ (if (((es.size:Nat):Int) != ((es.size:Nat):Int))=true then _ else _) _ _ _
 rw[if_neg (by simp)]
 have hd1:=fun f2:Value=>Obj.data_mapFields hdi (·.setIfInBounds 0 f2)
 have ho1:=fun f2:Value=>Heap.get?_update_self (Obj.mapFields (·.setIfInBounds 0 f2)) hoi (Obj.isFreed_of_fields (hd1 f2))
 cases M with
 | text hb=>
  have he':(pickOrder (w.params.setOrder a ep) es)[es.size]? = none:=by
   rw[List.length_map,Array.length_toList] at hl
   simp[hl]
  refine wpAny_bind (HR (i:=es.size) (ep:=ep) ho hd hf hb ?_)
  rw[he']
  refine wpAny_bind (wpAny_setField hoi hdi (by simp) ?_)
  refine wpAny_bind ?_
  simp only[newExc,newTuple]
  refine wpAny_bind (wpAny_newObj_type ?_ (by size_fits))
  refine wpAny_bind (m:=firstArgMember _ _) (wpAny_of_eq (a:=Value.none) (by first | rfl | (simp only[firstArgMember];rfl)) ?_)
  refine wpAny_newObj_type ?_ (by size_fits)
  simp only[raiseNew]
  refine wpAny_bind (wpAny_handled ?_)
  rw[show A.in1.handled=none from hh]
  refine wpAny_bind (wpAny_pure (wpAny_throw ?_))
  refine wpAny_bind (wpAny_isInstance (T:="StopIteration") (b:=true) ⟨_,Heap.get?_push_size _ rfl,rfl⟩ isSubtype_stop ?_)
  exact wpAny_pure (hQ _ (((Heap.SameBut.update ..).extBut.push _).push _))
 | led hb hn=>
  have he':es[es.size]? = none:=by simp
  refine wpAny_bind (JC (i:=es.size) (ep:=ep) ho hd ok hf hb hn rfl (Nat.le_refl _) ?_)
  rw[he']
  refine wpAny_bind (wpAny_setField hoi hdi (by simp) ?_)
  refine wpAny_bind ?_
  simp only[newExc,newTuple]
  refine wpAny_bind (wpAny_newObj_type ?_ (by size_fits))
  refine wpAny_bind (m:=firstArgMember _ _) (wpAny_of_eq (a:=Value.none) (by first | rfl | (simp only[firstArgMember];rfl)) ?_)
  refine wpAny_newObj_type ?_ (by size_fits)
  simp only[raiseNew]
  refine wpAny_bind (wpAny_handled ?_)
  rw[show A.in1.handled=none from hh]
  refine wpAny_bind (wpAny_pure (wpAny_throw ?_))
  refine wpAny_bind (wpAny_isInstance (T:="StopIteration") (b:=true) ⟨_,Heap.get?_push_size _ rfl,rfl⟩ isSubtype_stop ?_)
  exact wpAny_pure (hQ _ (((Heap.SameBut.update ..).extBut.push _).push _))
 | drw T oT c ps hb hT hdT hps=>
  rw[List.length_map] at hl
  show wpAny _ _ (seqItems? (.ref T) >>= _) _ _ _
  refine wpAny_bind (wpAny_seqItems hT hdT ?_)
  have hpi:((ps.map fun (i:Nat)=>rawInt i).toArray)[es.size]? = none:=by simp[hl]
  simp only[Int.toNat_natCast,hpi]
  refine wpAny_bind (wpAny_setField hoi hdi (by simp) ?_)
  refine wpAny_bind (wpAny_setField (ho1 _) (hd1 _) (by simp) ?_)
  refine wpAny_bind ?_
  simp only[newExc,newTuple]
  refine wpAny_bind (wpAny_newObj_type ?_ (by size_fits))
  refine wpAny_bind (m:=firstArgMember _ _) (wpAny_of_eq (a:=Value.none) (by first | rfl | (simp only[firstArgMember];rfl)) ?_)
  refine wpAny_newObj_type ?_ (by size_fits)
  simp only[raiseNew]
  refine wpAny_bind (wpAny_handled ?_)
  rw[show A.in1.handled=none from hh]
  refine wpAny_bind (wpAny_pure (wpAny_throw ?_))
  refine wpAny_bind (wpAny_isInstance (T:="StopIteration") (b:=true) ⟨_,Heap.get?_push_size _ rfl,rfl⟩ isSubtype_stop ?_)
  exact wpAny_pure (hQ _ ((((Heap.SameBut.update ..).trans (Heap.SameBut.update ..)).extBut.push _).push _))
end
end L2
namespace L2
open PySem PySem.Spec PyProof.Rows
theorem Dm {α:Type}:∀(l:List α) (i:Nat) (h:i<l.length),(l[i]::l.eraseIdx i).Perm l
 | x::xs,0,_=>List.Perm.refl _
 | x::xs,i+1,h=>by
  have h':i<xs.length:=Nat.lt_of_succ_lt_succ h
  exact (List.Perm.swap x xs[i] (xs.eraseIdx i)).trans (List.Perm.cons x (Dm xs i h'))
theorem HY {α:Type} (next:Nat→Nat):∀(fuel k:Nat) (left:List α) (out:Array α),fuel=left.length→(pickOrder.go next fuel k left out).toList.Perm (out.toList++left)
 | 0,_,left,out,h=>by
  have e:left=[]:=List.length_eq_zero_iff.mp h.symm
  subst e
  unfold pickOrder.go
  simp
 | fuel+1,k,left,out,h=>by
  unfold pickOrder.go
  have hp:0<left.length:=by omega
  have hi:next k%left.length<left.length:=Nat.mod_lt _ hp
  rw[List.getElem?_eq_getElem hi]
  have hl:fuel=(left.eraseIdx (next k%left.length)).length:=by rw[List.length_eraseIdx,if_pos hi];omega
  refine (HY next fuel (k+1) _ _ hl).trans ?_
  rw[Array.toList_push,List.append_assoc]
  exact List.Perm.append_left _ (Dm _ _ hi)
theorem DA {α:Type} (next:Nat→Nat) (xs:Array α):(pickOrder next xs).toList.Perm xs.toList:=by
 unfold pickOrder
 have:=HY next xs.size 0 xs.toList #[] (Array.length_toList).symm
 simpa using this
section
variable {prog:Program} {w:World} {A:Around} {E:Value→Shared→Prop} {s:Shared} {a it T0:Addr} {o oT:Obj} {es:Array (Int×Value)} {ep i:Nat} {t:SetTable} {fst:Nat→Value} {ord:List Value} {ks:List Int}
theorem IQ {M:Model} {src:Source} {n:Nat} {Q:Nat→Shared→Prop} (hn:n≠0) (h:∀i,i<n→Q i { s with drawn:=s.drawn.bump src }):wpAny M A (choose src n) Q E s:=
 fun Γ p _=>⟨hn,h _ (Nat.mod_lt _ (Nat.pos_of_ne_zero hn))⟩
theorem K4 {α:Type} {M:Model}:∀(n:Nat) (xs:List α) (s:Shared) (Q:List α→Shared→Prop),xs.length=n→(∀ys d',ys.Perm xs→Q ys { s with drawn:=d' })→wpAny M A (drawOrder n xs) Q E s:=by
 intro n
 induction n with
 | zero=>
  intro xs s Q h q
  have e:xs=[]:=List.length_eq_zero_iff.mp h
  subst e
  exact wpAny_pure (q [] s.drawn (List.Perm.refl _))
 | succ n ih=>
  intro xs s Q h q
  cases xs with
  | nil=>exact absurd h (Nat.succ_ne_zero n).symm
  | cons x xs=>
   unfold drawOrder
   refine wpAny_bind (IQ (by simp) fun i hi=>?_)
   rw[List.getElem?_eq_getElem hi]
   have hl:((x::xs).eraseIdx i).length=n:=by rw[List.length_eraseIdx,if_pos hi,h];rfl
   refine wpAny_bind (ih _ _ _ hl fun ys d' hp=>?_)
   exact wpAny_pure (q _ d' ((List.Perm.cons _ hp).trans (Dm _ _ hi)))
structure Sx (w:World) (s:Shared) (a:Addr) (ks:List Int) (h':Heap) (it T0:Addr) (o oT:Obj) (es:Array (Int×Value)) (ep:Nat) (t:SetTable) (fst:Nat→Value) (ord:List Value):Prop where
 lo:s.heap.objs.size≤it
 kk:∀b o,s.heap.get? b=some o→h'.get? b=some o
 at':ItAt h' it a (fst 0) 0 es.size ep
 ho:h'.get? a=some o
 hd:o.data= .set es ep t
 ok:FR (Bp w) t
 hf:t.fits es.size=true
 hT:h'.get? T0=some oT
 ne:T0≠it
 md:∀h'',h''.get? T0=some oT→Mh w a es ep t h'' fst ord
 pm:ord.Perm (es.toList.map (·.2))
 eg:EGood es.toList
 ek:es.toList.map A6=ks
 tl:T0=a∨s.heap.objs.size≤T0
theorem OO {Q:Value→Shared→Prop} (hS:SetIt w s.heap a ks) (hQ:∀h' d' it T0 o oT es ep t fst ord,Sx w s a ks h' it T0 o oT es ep t fst ord→Q (.ref it) { s with heap:=h',drawn:=d' }):wpAny (model prog w) A (pyIter (.ref a)) Q E s:=by
 obtain⟨o,es,ep,t,ho,hex,hd,hg,hk,nd,hl,ok,hf⟩:=id hS
 have hna:a<s.heap.objs.size:=Heap.lt_size ho
 refine wpAny_pyIter_slot hS.typeIs PySem.F.slot_set_iter (wpAny_call_entry PySem.F.slot_set_iter hS.typeIs Ht ?_ (PySem.F.args_set_iter_1 _))
 show wpAny _ _ (Builtin.Frozenset.sizeOf a >>= _) _ _ s
 refine wpAny_bind ?_
 unfold Builtin.Frozenset.sizeOf
 refine wpAny_bind (wpAny_setEntries_of ho hd hf (wpAny_pure ?_))
 refine wpAny_bind ?_
 unfold setDrawn setsByText
 refine wpAny_bind (wpAny_setState_of ho hd hf ?_)
 dsimp only
 refine wpAny_bind (wpAny_bind (wpAny_askSetting (wpAny_pure (wpAny_pure ?_))))
 show wpAny _ _ (if (!Bp w && (!t.plain && decide (es.size>1)))=true then _ else _) _ _ _
 by_cases hdr:(!Bp w && (!t.plain && decide (es.size>1)))=true
 ·rw[if_pos hdr]
  have hb:Bp w=false:=by
   cases q:Bp w with
   | false=>rfl
   | true=>rw[q] at hdr;cases hdr
  refine wpAny_bind (K4 _ _ _ _ (List.length_range) fun ps d' hp=>?_)
  refine wpAny_bind (wpAny_newTuple ?_ (by rw[List.length_map,hp.length_eq,List.length_range,Do hk];exact Nat.le_of_lt (Nat.lt_trans hl (by decide))))
  have kk:∀b ob,s.heap.get? b=some ob→(s.heap.push { cls:=.type "tuple",data:=.seq (ps.map fun (i:Nat)=>rawInt i).toArray }).get? b=some ob:=fun b ob e=>Heap.get?_push_of_some _ e
  refine wpAny_bind ?_
  unfold setEpoch
  refine wpAny_bind (wpAny_setState_of (kk _ _ ho) hd hf (wpAny_pure ?_))
  refine wpAny_bind (wpAny_newObj_type (wpAny_pure ⟨_,rfl,"set_iterator",_,⟨_,Heap.get?_push_size _ rfl,rfl⟩,slot_setit_next.lookup,?_⟩))
  refine hQ _ d' _ s.heap.objs.size o _ es ep t (fun _=>.ref s.heap.objs.size) _ ⟨?_,fun b ob e=>Heap.get?_push_of_some _ (kk b ob e),⟨_,Heap.get?_push_size _ rfl,rfl,rfl⟩,Heap.get?_push_of_some _ (kk _ _ ho),hd,ok,hf,Heap.get?_push_of_some _ (Heap.get?_push_size _ rfl),?_,fun h'' e=>.drw _ _ _ ps hb e rfl ?_,?_,hg,hk,.inr (Nat.le_refl _)⟩
  ·rw[Heap.size_push];exact Nat.le_succ _
  ·rw[Heap.size_push];exact Nat.ne_of_lt (Nat.lt_succ_self _)
  ·exact fun p hp'=>List.mem_range.mp (hp.mem_iff.mp hp')
  ·refine (hp.map _).trans ?_
   have e:(List.range es.size).map (fun p=>(es.getD p (0,.none)).2)=es.toList.map (·.2):=by
    refine List.ext_getElem (by simp) fun n h1 h2=>?_
    have hn:n<es.size:=by simpa using h1
    simp[Array.getD,hn]
   rw[e]
 ·rw[if_neg hdr]
  refine wpAny_bind (wpAny_pure ?_)
  refine wpAny_bind ?_
  unfold setEpoch
  refine wpAny_bind (wpAny_setState_of ho hd hf (wpAny_pure ?_))
  refine wpAny_bind (wpAny_newObj_type (wpAny_pure ⟨_,rfl,"set_iterator",_,⟨_,Heap.get?_push_size _ rfl,rfl⟩,slot_setit_next.lookup,?_⟩))
  have kk:∀b ob,s.heap.get? b=some ob→(s.heap.push { cls:=.type "set_iterator",data:=.fields #[rawInt 0,rawInt 0,.ref a,rawInt es.size,rawInt ep] }).get? b=some ob:=fun b ob e=>Heap.get?_push_of_some _ e
  cases hb:Bp w with
  | true=>
   refine hQ _ s.drawn _ a o o es ep t (fun _=>rawInt 0) _ ⟨Nat.le_refl _,kk,⟨_,Heap.get?_push_size _ rfl,rfl,rfl⟩,kk _ _ ho,hd,ok,hf,kk _ _ ho,Nat.ne_of_lt hna,fun h'' e=>.text hb,(DA _ _).map _,hg,hk,.inl rfl⟩
  | false=>
   rw[hb] at hdr
   refine hQ _ s.drawn _ a o o es ep t (fun i=>rawInt (((if i=0 then 0 else t.place.getD (i-1) 0+1:Nat)):Int)) _ ⟨Nat.le_refl _,kk,⟨_,Heap.get?_push_size _ rfl,rfl,rfl⟩,kk _ _ ho,hd,ok,hf,kk _ _ ho,Nat.ne_of_lt hna,fun h'' e=>.led hb (by simpa using hdr),List.Perm.refl _,hg,hk,.inl rfl⟩
theorem NS (hh:A.handled=none) {ks:List Int} {s0:Shared} {h0:Heap} (I:Sx w s0 a ks h0 it T0 o oT es ep t fst ord):Walks prog w A it [it,a,T0] [it] es.size (fun i v=>ord[i]? = some v) (fun i h=>ItAt h it a (fst i) i es.size ep∧h.get? a=some o∧h.get? T0=some oT):=by
 have hl:ord.length=es.size:=by rw[I.pm.length_eq,List.length_map,Array.length_toList]
 have na:a≠it:=fun e=>by
  obtain⟨oi,h1,_,h3⟩:=I.at'
  subst e
  rw[I.ho] at h1;cases h1
  rw[I.hd] at h3;cases h3
 refine⟨fun b hb=>by simp at hb;simp[hb],fun i h h' st k=>?_,fun i s Q E hi st hQ=>?_,fun s Q E st hQ=>?_,fun i s Q E st hQ=>?_⟩
 ·obtain⟨⟨oi,h1,r⟩,h2,h3⟩:=st
  exact⟨⟨oi,k it (by simp) _ h1,r⟩,k a (by simp) _ h2,k T0 (by simp) _ h3⟩
 ·obtain⟨h1,h2,h3⟩:=st
  have hx:ord[i]? = some ord[i]:=List.getElem?_eq_getElem (by omega)
  refine Mc h1 h2 I.hd I.ok I.hf (I.md _ h3) hx hl fun h' it' sb=>?_
  exact hQ _ h' s.toks hx ⟨it',(sb.2 a na).trans h2,(sb.2 T0 I.ne).trans h3⟩ fun b ob hb e=>(sb.2 b (by simpa using hb)).trans e
 ·obtain⟨h1,h2,h3⟩:=st
  refine Oj hh h1 h2 I.hd I.ok I.hf (I.md _ h3) hl fun h' eb=>?_
  exact hQ h' s.toks fun b ob hb e=>eb b ob (by simpa using hb) e
 ·obtain⟨h1,h2,h3⟩:=st
  refine wpAny_pyIter_slot h1.typeIs Dr (wpAny_call_entry Dr h1.typeIs E7 ?_ (FW _))
  exact wpAny_pure ⟨_,rfl,"set_iterator",_,h1.typeIs,slot_setit_next.lookup,hQ⟩
end
end L2
namespace L2
open PySem PySem.Spec PyProof.Rows
theorem Ol {es:Array (Int×Value)} {ord:List Value} {ks:List Int} (pm:ord.Perm (es.toList.map (·.2))) (eg:EGood es.toList) (ek:es.toList.map A6=ks):∃ns,IntsAre ord ns∧ns.Perm ks:=by
 let vk:Value→Int:=fun v=>match v with | .int k _=>k | _=>0
 have each:∀v∈ord,∃t,v= .int (vk v) t:=fun v hv=>by
  obtain⟨e,he,rfl⟩:=List.mem_map.mp (pm.mem_iff.mp hv)
  obtain⟨_,t,h2⟩:=eg e he
  exact⟨t,h2⟩
 refine⟨ord.map vk,?_,?_⟩
 ·clear pm
  induction ord with
  | nil=>exact .nil
  | cons v r ih=>
   obtain⟨t,e⟩:=each v List.mem_cons_self
   have:=ih fun x hx=>each x (List.mem_cons_of_mem _ hx)
   rw[List.map_cons]
   generalize vk v=k at e
   subst e
   exact .cons k t this
 ·refine (pm.map vk).trans ?_
  rw[List.map_map,←ek]
  exact List.Perm.refl _
section
variable {prog:Program} {w:World} {A:Around} {E:Value→Shared→Prop} {s:Shared} {a:Addr} {ks:List Int}
theorem Pe {Q:Bool→Shared→Prop} (hS:SetIt w s.heap a ks) (q:Q false s):wpAny (model prog w) A (Builtin.List.listLengthHint (.ref a)) Q E s:=by
 unfold Builtin.List.listLengthHint
 refine wpAny_bind (wpAny_specialOf hS.typeIs slot_set_len'.lookup ?_)
 have hsp:splitId "set.__len__"=some ("set","__len__"):=by decide +kernel
 simp only[hsp]
 refine wpAny_bind (wpAny_isInstance hS.typeIs sub_set_self ?_)
 rw[if_neg (by simp)]
 show wpAny _ _ (typeOf (.ref a) >>= _) _ _ _
 refine wpAny_bind (wpAny_typeOf hS.typeIs ?_)
 exact wpAny_pure q
theorem Jl {Q:List Value→Shared→Prop} (hh:A.handled=none) (hS:SetIt w s.heap a ks) (hQ:∀(s':Shared) (acc:List Value) (ns:List Int),s.heap.objs.size≤s'.heap.objs.size→(∀b o,s.heap.get? b=some o→s'.heap.get? b=some o)→s'.gens=s.gens→s'.os=s.os→IntsAre acc ns→ns.Perm ks→Q acc s') :
  wpAny (model prog w) A (collect (.ref a)) Q E s:=by
 obtain⟨o0,es0,ep0,t0,ho0,_,_,_,hk0,_,hl0,_⟩:=id hS
 have hlt:a<s.heap.objs.size:=Heap.lt_size ho0
 unfold collect
 refine wpAny_bind (wpAny_runValue (codeAny_builtin F.entry_proto_collect ?_))
 rw[Around.under_plainId F.plain_proto_collect _]
 show wpAny _ A.in1 (newList [] >>= fun l=>again (.builtin "list.__iadd__" ⟨[l,.ref a],[]⟩)) _ _ s
 refine wpAny_bind (wpAny_newObj_type ?_)
 refine wpAny_pure ⟨plainId_quiet F.plain_list_iadd _,codeAny_builtin F.entry_list_iadd ?_⟩
 rw[Around.under_plainId F.plain_list_iadd _]
 have kk1:∀b ob,s.heap.get? b=some ob→(s.heap.push { cls:=.type "list",data:=.seq ([]:List Value).toArray }).get? b=some ob:=fun b ob e=>Heap.get?_push_of_some _ e
 have hS1:SetIt w ({ s with heap:=s.heap.push { cls:=.type "list",data:=.seq ([]:List Value).toArray } }:Shared).heap a ks:=hS.keep fun ob e=>kk1 _ _ e
 show wpAny _ A.in1 (Builtin.List.listExtendWith (.ref s.heap.objs.size) (.ref a) (.ref s.heap.objs.size)) _ _ _
 unfold Builtin.List.listExtendWith
 refine wpAny_bind (wpAny_typeOf hS1.typeIs ?_)
 have h1:Builtin.List.listSameRef (.ref s.heap.objs.size) (.ref a)=false:=by simp[Builtin.List.listSameRef];exact Nat.ne_of_gt hlt
 have h2:(Value.type "set" == Value.type "list")=false:=by decide
 have h3:(Value.type "set" == Value.type "tuple")=false:=by decide
 simp only[h1,h2,h3,Bool.or_false,Bool.false_eq_true,if_false]
 refine wpAny_bind (OO hS1 fun h' d' it T0 o oT es ep t fst ord I=>?_)
 have hS2:SetIt w ({ s with heap:=h',drawn:=d' }:Shared).heap a ks:=hS1.keep fun ob e=>I.kk _ _ e
 refine wpAny_bind (wpAny_holding (Pe (s:={ s with heap:=h',drawn:=d' }) hS2 ?_))
 show wpAny _ A.in1 (rule "list.extend.makes-room" >>= fun _=>Builtin.List.listTouch (.ref s.heap.objs.size) >>= fun _=>
  again (.builtin "list.extend.loop" ⟨[.ref s.heap.objs.size,.ref it,.ref s.heap.objs.size],[]⟩)) _ _ _
 refine wpAny_bind (wpAny_rule ?_)
 have hS₁:h'.get? s.heap.objs.size=some { cls:=.type "list",data:=.seq ([]:List Value).toArray }:=I.kk _ _ (Heap.get?_push_size _ rfl)
 refine wpAny_bind ?_
 show wpAny _ A.in1 (updateSeq s.heap.objs.size (·.push .none) >>= fun _=>updateSeq s.heap.objs.size (·.pop)) _ _ _
 refine wpAny_bind (wpAny_updateSeq hS₁ rfl ?_)
 have hS₂:=Heap.get?_update_self (Obj.mapSeq (·.push Value.none)) hS₁ rfl
 refine wpAny_updateSeq hS₂ rfl ?_
 have hS₃:=Heap.get?_update_self (Obj.mapSeq (·.pop)) hS₂ rfl
 have oth:∀b ob,b≠s.heap.objs.size→h'.get? b=some ob→((h'.update s.heap.objs.size (Obj.mapSeq (·.push Value.none))).update s.heap.objs.size (Obj.mapSeq (·.pop))).get? b=some ob:=
  fun b ob hb e=>(Heap.get?_update_other _ _ (Ne.symm hb)).trans ((Heap.get?_update_other _ _ (Ne.symm hb)).trans e)
 have esz:({ s with heap:=s.heap.push { cls:=.type "list",data:=.seq ([]:List Value).toArray } }:Shared).heap.objs.size=s.heap.objs.size+1:=Heap.size_push _ _
 have nit:it≠s.heap.objs.size:=Nat.ne_of_gt (by have:=I.lo;rw[esz] at this;exact this)
 have nT:T0≠s.heap.objs.size:=by
  rcases I.tl with z | z
  ·rw[z];exact Nat.ne_of_lt hlt
  ·exact Nat.ne_of_gt (by rw[esz] at z;exact z)
 have hSf:s.heap.objs.size∉[it,a,T0]:=by
  simp only[List.mem_cons,List.not_mem_nil,or_false,not_or]
  exact⟨Ne.symm nit,Nat.ne_of_gt hlt,Ne.symm nT⟩
 have W:=(NS (prog:=prog) (A:=A.in1) (by simpa using hh) I).toS
 have hn:es.size≤sizeLine:=by rw[Do I.ek];exact Nat.le_of_lt (Nat.lt_trans hl0 (by decide))
 obtain⟨oi,hoi,ri⟩:=I.at'
 refine wpAny_pure ⟨plainId_quiet F.plain_extend_loop _,codeAny_extend_loopS W hn _ hSf _ es.size 0 _ _ _ rfl (Nat.zero_le _) ⟨⟨oi,oth _ _ nit hoi,ri⟩,oth _ _ (Nat.ne_of_lt hlt) I.ho,oth _ _ nT I.hT⟩ hS₃ (ItemsOf.nil _) fun s' acc' c' hm hS' hacc=>?_⟩
 show wpAny _ A (load s.heap.objs.size >>= _) _ _ s'
 refine wpAny_bind (wpAny_load hS' ?_)
 have hl:ord.length=es.size:=by rw[I.pm.length_eq,List.length_map,Array.length_toList]
 have eo:acc'.toList=ord:=by
  refine List.ext_getElem (by rw[Array.length_toList,hacc.1,hl]) fun n h1 h2=>?_
  have hn1:n<acc'.size:=by simpa using h1
  have:ord[n]? = some acc'[n]:=hacc.2 n _ (Array.getElem?_eq_getElem hn1)
  rw[List.getElem?_eq_getElem h2] at this
  have:=Option.some.inj this
  simpa using this.symm
 obtain⟨ns,hi,hp⟩:=Ol I.pm I.eg I.ek
 refine wpAny_pure (hQ s' acc'.toList ns (Nat.le_of_lt (Heap.lt_size hS')) (fun b ob e=>?_) hm.gens hm.os (by rw[eo];exact hi) hp)
 have hb:b<s.heap.objs.size:=Heap.lt_size e
 refine hm.heap b ob ?_ (oth b ob (Nat.ne_of_lt hb) (I.kk _ _ (kk1 _ _ e)))
 simp only[List.mem_cons,List.not_mem_nil,or_false,not_or]
 exact⟨Nat.ne_of_lt hb,Nat.ne_of_lt (Nat.lt_trans hb (by have:=I.lo;rw[esz] at this;exact this))⟩
theorem Kb {Q:Value→Shared→Prop} (hh:A.handled=none) (hS:SetIt w s.heap a ks) (h64:ks.length<64)
  (h:∀(s':Shared) (l:Addr) (out:Array Value) (n:Nat) (ns:List Int),(∀b o,s.heap.get? b=some o→s'.heap.get? b=some o)→s'.gens=s.gens→s'.os=s.os→s.heap.objs.size≤l→s'.heap.get? l=some (seqObj "list" out n)→IntsAre out.toList ns→ns.Perm ks→ns.Pairwise (· ≤ ·)→Q (.ref l) s') :
  wpAny (model prog w) A (call (.builtin "sorted") [.ref a]) Q E s:=by
 refine Calls.call_function_entry kind_sorted plain_sorted entry_sorted (args_sorted1 _) ?_
 unfold Builtin.«sorted»
 refine wpAny_bind (m:=checkCount "sorted" 1 1 _) (wpAny_pure ?_)
 refine wpAny_bind (Jl (by simpa using hh) hS fun s1 vs ns1 lo kk eg eo hi hp=>?_)
 have hlen:vs.length<64:=by rw[IntsAre.length hi,hp.length_eq];exact h64
 refine wpAny_bind (wpAny_newList ?_ (Nat.le_of_lt (Nat.lt_trans hlen (by decide))))
 have hoL:(s1.heap.push (seqObj "list" vs.toArray 0)).get? s1.heap.objs.size=some (seqObj "list" vs.toArray 0):=Heap.get?_push_size _ rfl
 show wpAny _ _ _ _ _ { s1 with heap:=s1.heap.push (seqObj "list" vs.toArray 0) }
 refine wpAny_bind (wpAny_holding (wpAny_call_entry slot_list_sort ⟨_,hoL,rfl⟩ entry_list_sort (list_sort_tree hoL hi hlen fun out ns' a1 a2 a3=>⟨_,rfl,?_⟩) (args_list_sort _)))
 refine wpAny_pure ⟨_,rfl,?_⟩
 obtain⟨e1,ho1⟩:∃e1,((s1.heap.push (seqObj "list" vs.toArray 0)).update s1.heap.objs.size (Obj.mapSeq fun _=>#[])).get? s1.heap.objs.size=some (seqObj "list" #[] e1):=⟨_,get?_update_seq hoL (fun _=>#[])⟩
 have ho2:((((s1.heap.push (seqObj "list" vs.toArray 0)).update s1.heap.objs.size (Obj.mapSeq fun _=>#[])).push (seqObj "tuple" vs.toArray 0)).push (seqObj "list" #[] 0)).get? s1.heap.objs.size=some (seqObj "list" #[] e1):=Heap.get?_push_of_some _ (Heap.get?_push_of_some _ ho1)
 refine h _ s1.heap.objs.size out _ ns' (fun b ob e=>?_) eg eo lo (get?_update_seq ho2 (fun _=>out)) a1 (a2.trans hp) a3
 have e2:=kk b ob e
 have nb:b≠s1.heap.objs.size:=Nat.ne_of_lt (Heap.lt_size e2)
 exact (Heap.get?_update_other _ _ (Ne.symm nb)).trans (Heap.get?_push_of_some _ (Heap.get?_push_of_some _ ((Heap.get?_update_other _ _ (Ne.symm nb)).trans (Heap.get?_push_of_some _ e2))))
end
end L2
namespace L2
open PySem PySem.Spec PyProof.Rows
abbrev Bh (w:World) (a:Addr) (S:Int→Bool) (n:Nat):HO:=.ext fun h=>∃ks,SetIs w h a ks∧(∀k,S k=true↔k∈ks)∧ks.length≤n
theorem DU {P:Program} {w:World} {H:Hp} {h:Heap} {a:Addr} {S:Int→Bool} {n:Nat} {ks:List Int} (x:SetIs w h a ks) (m:∀k,S k=true↔k∈ks) (hl:ks.length≤n):ObjOk P w H h a (Bh w a S n):=
 ⟨⟨ks,x,m,hl⟩,let ⟨o,_,_,_,ho,_⟩:=x;⟨o,ho⟩,fun h1 h2 ⟨ks,y,r⟩ k=>⟨ks,y.keep k,r⟩⟩
section
variable {X:Cx}
theorem Inv.setO {pins:List (Addr×Obj)} {σ:St} {H:Hp} {s:Shared} {a:Addr} {S:Int→Bool} {n:Nat} (I:Inv X pins σ H s) (h:H a=some (Bh X.w a S n)):∃ks,SetIs X.w s.heap a ks∧(∀k,S k=true↔k∈ks)∧ks.length≤n:=(I.hok _ _ h).1
theorem M7:BT X (.type "set") (fun xs H Q=>xs=[]∧∀a,H a=none→Q (.ref a) (upd H a (Bh X.w a (fun _=>false) 0))):=by
 intro pins s σ H xs us Q I r h
 obtain⟨rfl,q⟩:=h
 cases r
 refine OL (w:=X.w) ⟨.ref s.heap.objs.size,_,I.laid (t':=s.toks) (o:=Bh X.w s.heap.objs.size (fun _=>false) 0) (fun b ob e=>Heap.get?_push_of_some _ e) (Nat.le_refl _) ?_,rfl,q _ (I.hok.fresh (Nat.le_refl _))⟩
 exact DU set0_is (fun k=>by simp) (Nat.le_refl _)
abbrev MD (w:World) (a:Addr) (S:Int→Bool) (n:Nat):HO:=.ext fun h=>∃ks,SetIt w h a ks∧(∀k,S k=true↔k∈ks)∧ks.length≤n
theorem QL {P:Program} {w:World} {H:Hp} {h:Heap} {a:Addr} {S:Int→Bool} {n:Nat} {ks:List Int} (x:SetIt w h a ks) (m:∀k,S k=true↔k∈ks) (hl:ks.length≤n):ObjOk P w H h a (MD w a S n):=
 ⟨⟨ks,x,m,hl⟩,let ⟨o,_,_,_,ho,_⟩:=x;⟨o,ho⟩,fun h1 h2 ⟨ks,y,r⟩ k=>⟨ks,y.keep k,r⟩⟩
theorem Inv.setR {pins:List (Addr×Obj)} {σ:St} {H:Hp} {s:Shared} {a:Addr} {S:Int→Bool} {n:Nat} (I:Inv X pins σ H s) (h:H a=some (MD X.w a S n)):∃ks,SetIt X.w s.heap a ks∧(∀k,S k=true↔k∈ks)∧ks.length≤n:=(I.hok _ _ h).1
theorem DI (hc:X.calm=true) {pins:List (Addr×Obj)} {s:Shared} {σ:St} {H:Hp} {Q:VK} {a:Addr} {ks:List Int} {S:Int→Bool} {n:Nat} (I:Inv X pins σ H s) (hS:SetIt X.w s.heap a ks) (hm:∀k,S k=true↔k∈ks) (hl:ks.length≤n) (hn:n<64)
  (q:∀(l:Addr) (ns:List Int),H l=none→ns.Pairwise (· < ·)→(∀k,k∈ns↔S k=true)→Q (.ref l) (upd H l (.lst (ns.map V.int)))):wpAny (model X.prog X.w) X.A (call (.builtin "sorted") [.ref a]) (EP X pins σ Q) X.xe s:=by
 have ndk:ks.Nodup:=let ⟨_,_,_,_,_,_,_,_,_,nd,_⟩:=hS;nd
 refine Kb (w:=X.w) (I.ok.hd hc) hS (by omega) fun s' l out c ns kk eg eo lo hl' hi hp hs=>?_
 have nd:ns.Nodup:=hp.nodup_iff.mpr ndk
 have lt:ns.Pairwise (· < ·):=(List.Pairwise.and hs nd).imp fun {x y} h=>by have h1:=h.1;have h2:=h.2;omega
 have hnone:H l=none:=I.hok.fresh lo
 have old:∀b u,H b=some u→upd H l (.lst (ns.map V.int)) b=some u:=fun b u e=>by rw[Ax (Am e hnone)];exact e
 have len:(ns.map V.int).length≤sizeLine:=by
  rw[List.length_map,hp.length_eq]
  exact Nat.le_of_lt (Nat.lt_of_le_of_lt hl (Nat.lt_trans hn (by decide)))
 have un:Un (Hw X.stack) [] H (upd H l (.lst (ns.map V.int))) s.heap s'.heap:=
  ⟨fun b o e _ _ _=>kk b o e,fun b o e _ _ _=>⟨o.slots,kk b o e⟩,fun b o e n _=>by rw[Ax (Nat.ne_of_lt (Nat.lt_of_lt_of_le (Heap.lt_size e) lo))];exact n,fun b o e _=>⟨o,kk b o e⟩,fun b xs e=>old b _ e,fun b o u e=>old b _ e,fun b ps e=>⟨#[],by rw[old b _ e];simp⟩⟩
 have hok:HOk X.prog X.w (upd H l (.lst (ns.map V.int))) s'.heap:=fun b u e=>by
  by_cases z:b=l
  ·subst z
   rw[upd_same] at e
   cases e
   exact⟨len,out.toList,c,FJ hi,by rw[hl',Array.toArray_toList]⟩
  ·rw[Ax z] at e
   exact (I.hok b u e).stay (fun c v _ e=>kk c v e) (fun c e=>old c _ e) fun c xs e=>old c _ e
 exact⟨.ref l,_,I.call' (ch:=[]) eo un hok (by rw[eg];exact I.bare) (fun b hb=>absurd hb (by simp)),rfl,q l ns hnone lt fun k=>by rw[hp.mem_iff];exact (hm k).symm⟩
theorem EV (hc:X.calm=true):BT X (.builtin "sorted") (fun xs H Q=>∃a S n,xs=[.ref a]∧H a=some (Bh X.w a S n)∧n<64∧∀(l:Addr) (ns:List Int),H l=none→ns.Pairwise (· < ·)→(∀k,k∈ns↔S k=true)→Q (.ref l) (upd H l (.lst (ns.map V.int)))):=by
 intro pins s σ H xs us Q I r h
 obtain⟨a,S,n,rfl,ha,hn,q⟩:=h
 obtain⟨u,rfl,ru⟩:=DG r
 cases ru
 obtain⟨ks,hS,hm,hl⟩:=I.setO ha
 exact DI hc I hS.it hm hl hn q
theorem Ja (hc:X.calm=true):BT X (.builtin "sorted") (fun xs H Q=>∃a S n,xs=[.ref a]∧H a=some (MD X.w a S n)∧n<64∧∀(l:Addr) (ns:List Int),H l=none→ns.Pairwise (· < ·)→(∀k,k∈ns↔S k=true)→Q (.ref l) (upd H l (.lst (ns.map V.int)))):=by
 intro pins s σ H xs us Q I r h
 obtain⟨a,S,n,rfl,ha,hn,q⟩:=h
 obtain⟨u,rfl,ru⟩:=DG r
 cases ru
 obtain⟨ks,hS,hm,hl⟩:=I.setR ha
 exact DI hc I hS hm hl hn q
variable {o e:Expr} {es:List Expr} {to:TE} {t:TA} {apos cpos:Pos}
def Sb (X:Cx) (to:TE) (t:TA):TE:=fun σ H Q=>to σ H fun x H1=>∃a S n,x= .ref a∧H1 a=some (Bh X.w a S n)∧t σ H1 fun xs H2=>∃k S2 n2,xs=[.int k]∧H2 a=some (Bh X.w a S2 n2)∧n2+1<2000∧Q .non (upd H2 a (Bh X.w a (fun j=>S2 j || decide (j=k)) (n2+1)))
theorem PR (ho:PE X o to) (hp:PA X (e::es) t) (hbase:attributeBase o "add" X.env (eval o X.env)=eval o X.env:=by rfl)
  (hfew:((backTo cpos (starEach (e::es) X.env)).all (fun x=>!x.1) && (backToKw cpos (keywordEach [] X.env)).all (fun x=>x.1.isSome)
   && decide ((e::es).length+([]:List Keyword).length+(if ([]:List Keyword).isEmpty then 0 else 1)<30))=true:=by rfl)
  (hline:(apos.endLine == cpos.line)=true:=by rfl) (hs:starEach (e::es) X.env=(false,eval e X.env)::starEach es X.env:=by rfl) (hplain:(backTo cpos (starEach es X.env)).any (·.1)=false:=by rfl) :
  PE X (.Call (.Attribute o "add" apos) (e::es) [] cpos) (Sb X to t):=by
 intro pins s σ H Q I h
 refine wpAny_Call_method_late hbase hfew hline rfl (AS (ho pins s σ H _ I h) fun v s1 ⟨x,H1,I1,r1,a,S,n,ex,ha,q1⟩=>?_)
 subst ex
 cases r1
 obtain⟨ks,hS,hm,hl⟩:=I1.setO ha
 refine⟨"set","set.add",PySem.F.plainAttrs_set,PySem.F.slot_set_add,PySem.F.type_set_add,hS.typeIs,fun b eb=>hS.noDict b eb,?_⟩
 have hA:=hp cpos pins s1 σ H1 _ I1 q1
 rw[hs] at hA ⊢
 refine Calls.callWith_builtin (by show (false || (backTo cpos (starEach es X.env)).any (·.1))=false;rw[hplain]<;>rfl) (Calls.evalArgs_plain ?_)
 refine AS hA fun us s2 ⟨vs,H2,I2,r2,k,S2,n2,ek,ha2,hn2,q2⟩=>?_
 subst ek
 obtain⟨u,rfl,ru⟩:=DG r2
 obtain⟨tk,rfl⟩:=ru
 obtain⟨ks2,hS2,hm2,hl2⟩:=I2.setO ha2
 refine J5 (w:=X.w) hS2 (by omega) fun h' ks' hsb hS' hm' hl'=>?_
 have mu:R5 (H2 a):=by rw[ha2];exact True.intro
 refine⟨.non,_,I2.write (x:=a) (e:=a) (t':=s2.toks+1) mu (.inl rfl) (fun b ob nb eb=>(hsb.2 b nb).trans eb) (let ⟨o,_,_,_,ho,_⟩:=hS';⟨o,ho⟩) (DU hS' (fun j=>?_) (by omega)),rfl,q2⟩
 rw[hm' j,Bool.or_eq_true,decide_eq_true_eq,hm2 j]
end
end L2
namespace L2
open PySem PySem.Spec PyProof.Rows
section
variable {X:Cx} {N:List Str} {scope:Scope} {cl:List (Str×Addr)} {js:List (Option Nat)} {pins:List (Addr×Obj)} {σ:St} {H:Hp} {s:Shared} {fp:List Addr}
end
section
variable {X:Cx} {N:List Str} {scope:Scope} {cl:List (Str×Addr)} {js:List (Option Nat)}
variable {elt tg iter:Expr} {ifs:List Expr} {rest:List Comprehension} {pos:Pos} {wi:TI} {g:CC→TG} {tb:CC→Addr→TS}
variable {tg1 iter1:Expr} {ifs1:List Expr} {wi1:CC→TI} {g1:CC→TG} {tc tc1:CC→TT} {te:CC→TE}
end
end L2
namespace L2
open PySem PySem.Spec PyProof.Rows
theorem LU:∀{xs:List V} {us:List Value},xs.length=us.length→(∀(i:Nat) (x:V) (u:Value),xs[i]? = some x→us[i]? = some u→RelV x u)→Vals xs us
 | [],[],_,_=>.nil
 | [],_::_,h,_=>by cases h
 | _::_,[],h,_=>by cases h
 | x::xs,u::us,h,f=>.cons (f 0 x u rfl rfl) (LU (Nat.succ.inj h) fun i y v hy hv=>f (i+1) y v (by simpa using hy) (by simpa using hv))
theorem Ms {α:Type} (bs:List α) (d:α):(List.range bs.length).map (fun i=>bs.getD i d)=bs:=by
 refine List.ext_getElem (by simp) fun n h1 h2=>?_
 simp[List.getD,h2]
theorem ML (bs:List Bool):(List.range bs.length).all (fun i=>bs.getD i false)=bs.all id:=by
 have:=Ms bs false
 conv=>rhs;rw[←this]
 rw[List.all_map]
 rfl
theorem NE {prog:Program} {w:World} {A:Around} {bs:List Bool} {its:List Value} (rv:Vals (bs.map V.bl) its):TruthOf prog w A (fun i v=>its.toArray[i]? = some v) (fun i=>bs.getD i false):=by
 intro i v s Q E hv q
 have hv':its[i]? = some v:=by simpa using hv
 have hi:i<bs.length:=by
  have h1:=(List.getElem?_eq_some_iff.mp hv').1
  have:=rv.length
  rw[List.length_map] at this
  omega
 have hx:(bs.map V.bl)[i]? = some (.bl bs[i]):=by rw[List.getElem?_map,List.getElem?_eq_getElem hi];rfl
 obtain⟨u,hu,ru⟩:=rv.get hx
 rw[hv'] at hu
 cases hu
 cases (show v=Value.bool bs[i] from ru)
 refine wpAny_truthy_bool ?_
 have e:bs.getD i false=bs[i]:=by simp[List.getD,hi]
 rw[←e]
 exact q
section
variable {X:Cx}
theorem Id:BT X (.type "range") (fun xs H Q=>∃j:Int,xs=[.int j]∧∀r,H r=none→Q (.ref r) (upd H r (.rng 0 j))):=by
 intro pins s σ H xs us Q I r h
 obtain⟨j,rfl,q⟩:=h
 obtain⟨u,rfl,ru⟩:=DG r
 obtain⟨t,rfl⟩:=ru
 refine call_range_1 ⟨.ref s.heap.objs.size,_,I.laid (o:=.rng 0 j) (fun b ob e=>Heap.get?_push_of_some _ e) (Nat.le_refl _) ?_,rfl,q _ (I.hok.fresh (Nat.le_refl _))⟩
 exact⟨_,_,_,Heap.get?_push_size _ rfl⟩
def BW (n:Nat):List Int:=(List.range n).map fun (k:Nat)=>(k:Int)
theorem Gp (hc:X.calm=true):BT X (.type "list") (fun xs H Q=>∃(r:Addr) (n:Nat),xs=[.ref r]∧H r=some (.rng 0 (n:Int))∧n≤1000∧∀l,H l=none→Q (.ref l) (upd H l (.lst ((BW n).map V.int)))):=by
 intro pins s σ H xs us Q I r h
 obtain⟨rr,n,rfl,hr,hn,q⟩:=h
 obtain⟨u,rfl,ru⟩:=DG r
 cases ru
 obtain⟨t,u,v,ho⟩:=(show ObjOk X.prog X.w H s.heap rr (.rng 0 (n:Int)) from I.hok rr _ hr)
 have hsz:Builtin.Range.rangeSize 0 (n:Int) 1=n:=by rw[rangeSize_one];split<;>omega
 refine call_list_range (n:=n) (I.ok.hd hc) ho (small_one (by omega) (by omega) (by omega) (by omega)) hsz (by omega) fun h' tk acc c kk hl hi=>?_
 have lo:s.heap.objs.size≤s.heap.objs.size:=Nat.le_refl _
 have hv:Vals ((BW n).map V.int) acc.toList:=by
  have hal:acc.toList.length=n:=by rw[Array.length_toList,hi.1]
  refine LU (by unfold BW;simp[hal]) fun i x u hx hu=>?_
  have hin:i<n:=by
   have:=(List.getElem?_eq_some_iff.mp hu).1
   omega
  obtain⟨t,e⟩:=hi.2 i u (by simpa using hu)
  have ex:x= .int (i:Int):=by
   unfold BW at hx
   rw[List.map_map,List.getElem?_map,List.getElem?_range hin] at hx
   exact (Option.some.inj hx).symm
  subst ex
  refine⟨t,?_⟩
  rw[e]
  congr 1
  omega
 refine⟨.ref s.heap.objs.size,_,I.laid (t':=tk) (o:=.lst ((BW n).map V.int)) kk lo ?_,rfl,q _ (I.hok.fresh lo)⟩
 refine⟨?_,acc.toList,c,hv,by rw[hl,Array.toArray_toList]⟩
 unfold BW
 rw[List.length_map,List.length_map,List.length_range]
 exact Nat.le_trans hn (by decide)
theorem MM (hc:X.calm=true):BT X (.builtin "all") (fun xs H Q=>∃(l:Addr) (bs:List Bool),xs=[.ref l]∧SqL X.K H l (bs.map V.bl)∧Q (.bl (bs.all id)) H):=by
 intro pins s σ H xs us Q I r h
 obtain⟨l,bs,rfl,hq,q⟩:=h
 obtain⟨u,rfl,ru⟩:=DG r
 cases ru
 obtain⟨its,rv,pl,hz⟩:=I.list hq
 have hlt:l<s.heap.objs.size:=let ⟨o,ho,_⟩:=pl.isList;Heap.lt_size ho
 have hlen:its.length=bs.length:=by rw[←rv.length,List.length_map]
 refine call_all_walk (wpAny_pyIter_list pl.isList ⟨s.heap.objs.size,_,_,_,_,_,fun i=>bs.getD i false,rfl,Walks.list (by have:=I.ok.hd hc;simpa using this) s.heap.objs.size l (Nat.ne_of_lt hlt) its.toArray,⟨⟨_,Heap.get?_push_size _ rfl,rfl,rfl⟩,pl.isList.push _⟩,NE rv,fun h' tk kk=>?_⟩)
 have e:(List.range its.toArray.size).all (fun i=>bs.getD i false)=bs.all id:=by rw[List.size_toArray,hlen,ML]
 rw[e]
 exact⟨.bl _,H,I.kept (t':=tk) fun b ob eb=>kk b ob (by simp only[List.mem_singleton];exact Nat.ne_of_lt (Heap.lt_size eb)) (Heap.get?_push_of_some _ eb),rfl,q⟩
end
end L2
namespace L2
open PySem PySem.Spec PyProof.Rows
section
variable {prog:Program} {w:World} {A:Around} {R:Result→Shared→Prop} {I:Addr} {fp wr:List Addr} {G:Array GenState→Array GenState→Prop} {n:Nat} {P:Nat→Value→Prop} {St:Nat→Shared→Prop}
theorem Od (W:WalksS prog w A.in1 I fp wr G n P St) (S:Addr) (hSf:S∉fp)
  (val:Nat→Int) (hval:∀i v,P i v→∃t,v= .int (val i) t) (hb:n<1000) :
  ∀(k i:Nat) (s:Shared) (ks:List Int),n-i=k→i≤n→St i s→SetIs w s.heap S ks→(∀j,j∈ks↔∃m,m<i∧val m=j)→ks.length≤i→
   (∀s' ks',Moved (S::wr) G s s'→SetIs w s'.heap S ks'→(∀j,j∈ks'↔∃m,m<n∧val m=j)→ks'.length≤n→R (.ok (.ret .none)) s')→
   codeAny (model prog w) A (.builtin "set.update.loop" ⟨[.ref S,.ref I],[]⟩) R s:=by
 have hSw:S∉wr:=fun h=>hSf (W.sub _ h)
 have hsub:∀b∈wr,b∈S::wr:=fun b hb=>List.mem_cons_of_mem _ hb
 intro k
 induction k with
 | zero=>
  intro i s ks hk hi hst hS hm0 hl0 hR
  have hin:i=n:=by omega
  subst hin
  refine codeAny_builtin F.entry_set_update_loop ?_
  rw[Around.under_plainId F.plain_set_update_loop _]
  show wpAny _ A.in1 (pyNext (.ref I) >>= _) _ _ s
  refine wpAny_bind (W.done s _ _ hst fun s' hm=>?_)
  show wpAny _ A.in1 (ret Value.none) _ _ s'
  exact wpAny_pure (hR s' ks (hm.mono hsub) (hS.keep fun o e=>hm.heap S _ hSw e) hm0 hl0)
 | succ k ih=>
  intro i s ks hk hi hst hS hm0 hl0 hR
  have hlt:i<n:=by omega
  refine codeAny_builtin F.entry_set_update_loop ?_
  rw[Around.under_plainId F.plain_set_update_loop _]
  show wpAny _ A.in1 (pyNext (.ref I) >>= _) _ _ s
  refine wpAny_bind (W.item i s _ _ hlt hst fun v s' hP hst' hm=>?_)
  obtain⟨t,rfl⟩:=hval i v hP
  have hS':SetIs w s'.heap S ks:=hS.keep fun o e=>hm.heap S _ hSw e
  show wpAny _ A.in1 (holding [Value.int (val i) t] (setAdd S (.int (val i) t)) >>= _) _ _ s'
  refine wpAny_bind (wpAny_holding ?_)
  unfold setAdd
  refine wpAny_holding ?_
  refine wpAny_bind ((intKind prog w).pyHash (k:=val i) (intKind_is _ _ _ _) ?_)
  refine FZ (s:={ s' with toks:=s'.toks+1 }) hS' (by omega) fun h' ks' hsb hS2 hm2 hl2=>?_
  refine wpAny_pure ⟨plainId_quiet F.plain_set_update_loop _,ih (i+1) _ ks' (by omega) hlt (W.frame _ s' _ _ hst' (Nat.le_succ _) fun b hb o e=>?_) hS2 (fun j=>?_) (by omega) fun s'' ks'' hm'' hS'' hmm hll=>?_⟩
  ·rw[hsb.2 b (fun h:b=S=>hSf (by rw[←h];exact hb))];exact e
  ·rw[hm2 j,hm0 j]
   constructor
   ·rintro (⟨m,h1,h2⟩|h)
    ·exact⟨m,Nat.lt_succ_of_lt h1,h2⟩
    ·exact⟨i,Nat.lt_succ_self _,h.symm⟩
   ·rintro⟨m,h1,h2⟩
    rcases Nat.lt_succ_iff_lt_or_eq.mp h1 with z | z
    ·exact .inl ⟨m,z,h2⟩
    ·subst z;exact .inr h2.symm
  ·refine hR s'' ks'' (Moved.trans W.gtrans ((hm.mono hsub).then_heap (Nat.le_succ _) fun b o hb e=>?_) hm'') hS'' hmm hll
   rw[hsb.2 b (fun h:b=S=>hb (by rw[h];exact List.mem_cons_self))];exact e
end
section
variable {prog:Program} {w:World} {A:Around} {E:Value→Shared→Prop} {s:Shared}
set_option maxHeartbeats 3200000 in
theorem MV {l:Addr} {items:Array Value} {ns:List Int} {Q:Value→Shared→Prop}
  (hh:A.handled=none) (hl:s.heap.IsList l items) (hi:IntsAre items.toList ns) (hb:items.size<1000)
  (h:∀(h':Heap) (tk:Nat) (ks:List Int),SetIs w h' s.heap.objs.size ks→(∀j,j∈ks↔j∈ns)→ks.length≤ns.length→
   (∀b o,s.heap.get? b=some o→h'.get? b=some o)→Q (.ref s.heap.objs.size) { s with heap:=h',toks:=tk }) :
  wpAny (model prog w) A (call (.type "set") [.ref l]) Q E s:=by
 have hlen:ns.length=items.size:=by rw[←Array.length_toList];exact (IntsAre.length hi).symm
 obtain⟨c,tl,hmro⟩:=F.called_set.mro
 have hmade:=F.called_set.made
 have hsub:=F.called_set.sub
 refine wpAny_call (codeAny_of_tree ?_)
 show wpAny _ _ (callAny (.type "set") _) _ _ _
 refine wpAny_pure ⟨Code.quiet_builtin _ (by decide +kernel),codeAny_builtin F.entry_type_call ?_⟩
 rw[Around.under_plain (weight_type_call_type "set" [.ref l] []) rfl]
 have h1:=F.called_set.notType
 have h2:=F.called_set.canCreate
 have hct:=F.typeCall_set_1 (.ref l)
 repeat (any_goals (first | assumption | wp_step))
 refine codeAny_mono (JP (E:=E) (.inr ⟨.ref l,rfl⟩) (Q₁:=fun obj s₁=>obj= .ref s.heap.objs.size∧s₁={ s with heap:=s.heap.push (Bd w) }) ⟨rfl,rfl⟩) fun r s₁ hr=>?_
 cases r with
 | error e=>exact hr
 | ok fl=>
  cases fl with
  | ret obj=>
   obtain⟨rfl,rfl⟩:=hr
   have hS:(s.heap.push (Bd w)).get? s.heap.objs.size=some (Bd w):=Heap.get?_push_size _ rfl
   have hT:Shared.TypeIs { s with heap:=s.heap.push (Bd w) } (.ref s.heap.objs.size) "set":=⟨_,hS,rfl⟩
   have hli:=F.called_set.init.lookup
   have hbi:=F.called_set.init.bind (.ref s.heap.objs.size)
   repeat (any_goals (first | assumption | wp_step))
   refine codeAny_mono (codeAny_call_builtin (R:=wants (fun r s₂=>r= .none∧∃h' tk ks,s₂={ s with heap:=h',toks:=tk }∧SetIs w h' s.heap.objs.size ks∧(∀j,j∈ks↔j∈ns)∧ks.length≤ns.length∧
     (∀b o,s.heap.get? b=some o→h'.get? b=some o)) E) F.called_set.init.plain F.entry_set_init (check_set_init_1 hT ?_)) fun r₂ s₂ hr₂=>?_
   ·obtain⟨ol,hol,hcl,nl,hdl⟩:=hl
    obtain⟨ocls,odict,odata,oslots⟩:=ol
    simp only at hcl hdl
    subst hcl;subst hdl
    have hol':(s.heap.push (Bd w)).get? l=some { cls:=.type "list",dict:=odict,data:=.seq items nl,slots:=oslots }:=Heap.get?_push_of_some _ hol
    have hsls:=F.sub_list_set
    have hslf:=F.sub_list_frozenset
    have hne:(Value.type "list" == Value.type "dict")=false:=by decide
    have hl1:(s.heap.push (Bd w)).IsList l items:=⟨_,hol',rfl,nl,rfl⟩
    unfold Builtin.«set.__init__» noKeywords Builtin.Frozenset.updateFrom
    generalize hPI:pyIter=PI
    wp_walk
    subst hPI
    refine wpAny_pyIter_list hl1 ?_
    refine wpAny_bind (wpAny_runValue ?_)
    have hlS:l<s.heap.objs.size:=Heap.lt_size hol
    have hh3:A.in1.in1.in1.handled=none:=by simp[hh]
    have hneI:l≠(s.heap.push (Bd w)).objs.size:=by
     rw[Heap.size_push];exact Nat.ne_of_lt (Nat.lt_succ_of_lt hlS)
    have hSf:s.heap.objs.size∉[(s.heap.push (Bd w)).objs.size,l]:=by
     rw[Heap.size_push];simp only[List.mem_cons,List.mem_singleton,List.not_mem_nil,or_false,not_or]
     exact⟨Nat.ne_of_lt (Nat.lt_succ_self _),Nat.ne_of_gt hlS⟩
    have hval:∀(i:Nat) (v:Value),items[i]? = some v→∃t,v= .int ((fun i=>ns.getD i 0) i) t:=fun i v hv=>
     IntsAre.int_at hi i v (by rw[Array.getElem?_toList];exact hv)
    refine Od ((Walks.list hh3 _ l hneI items).toS) s.heap.objs.size
     hSf (fun i=>ns.getD i 0) hval hb (items.size-0) 0 _ [] (by omega) (Nat.zero_le _)
     ⟨⟨_,Heap.get?_push_size _ rfl,rfl,rfl⟩,(hl1.push _)⟩ ?hS0 (fun j=>by simp) (Nat.le_refl _) ?hR
    case hS0=>exact set0_is.keep fun o e=>Heap.get?_push_of_some _ e
    case hR=>
     intro s' ks hm hS' hmm hll
     obtain⟨h',g',d',tk',os'⟩:=s'
     have eg:g'=s.gens:=hm.gens
     have ed:d'=s.drawn:=hm.drawn
     have eo:os'=s.os:=hm.os
     subst eg;subst ed;subst eo
     show wpAny _ _ _ _ _ _
     refine wpAny_pure ?_
     show wpAny _ _ (ret Value.none) _ _ _
     refine wpAny_pure ⟨rfl,h',tk',ks,rfl,hS',fun j=>?_,by omega,fun b o e=>?_⟩
     ·rw[hmm j,←hlen,List.mem_iff_getElem]
      constructor
      ·rintro⟨m,hm,e⟩
       exact⟨m,hm,by rw[←e,List.getD_eq_getElem?_getD,List.getElem?_eq_getElem hm];rfl⟩
      ·rintro⟨m,hm,e⟩
       exact⟨m,hm,by rw[←e,List.getD_eq_getElem?_getD,List.getElem?_eq_getElem hm];rfl⟩
     ·have hb:=Heap.lt_size e
      have hb1:b≠s.heap.objs.size:=Nat.ne_of_lt hb
      have hb2:b≠(s.heap.push (Bd w)).objs.size:=by
       rw[Heap.size_push];exact Nat.ne_of_lt (Nat.lt_succ_of_lt hb)
      exact hm.heap b o (by simp only[List.mem_cons,List.mem_singleton,List.not_mem_nil,or_false,not_or];exact⟨hb1,hb2⟩) (Heap.get?_push_of_some _ (Heap.get?_push_of_some _ e))
   ·cases r₂ with
    | error e=>exact hr₂
    | ok fl₂=>
     cases fl₂ with
     | ret r=>
      obtain⟨rfl,h',tk,ks,rfl,hS',hm',hl',hk'⟩:=hr₂
      repeat (any_goals (first | assumption | wp_step))
      exact h _ _ _ hS' hm' hl' hk'
     | _=>exact hr₂.elim
  | _=>exact hr.elim
end
end L2
namespace L2
open PySem PySem.Spec PyProof.Rows
section
variable {prog:Program} {w:World} {A:Around} {E:Value→Shared→Prop} {s:Shared} {a:Addr} {ks:List Int} {k:Int} {tk:Tok}
theorem Hr {Q:Option Nat→Shared→Prop} (hS:SetIt w s.heap a ks) (h:∀r:Option Nat,r.isSome=decide (k∈ks)→(∀i,r=some i→ks[i]? = some k)→Q r s) :
  wpAny (model prog w) A (setFind a (.int k tk) (hashInt k)) Q E s:=by
 obtain⟨o,es,ep,t,ho,hex,hd,hg,hk,nd,hl,ok,hf⟩:=hS
 have hsz:=Do hk
 have hkey:(intKind prog w).is k (.int k tk)=true:=intKind_is _ _ _ _
 unfold setFind setFindIn
 refine wpAny_bind (wpAny_setState_of ho hd hf ?_)
 dsimp only
 rw[byScan_of (knd:=intKind prog w) rfl (by rw[hsz];exact Cj hl) hg.elems]
 simp only[↓reduceIte]
 refine wpAny_bind (wpAny_rule ?_)
 refine wpAny_bind (wpAny_setScan_of (knd:=intKind prog w) hkey ho hd hf hg.elems ?_)
 cases hr:List.findIdx? (fun e=>(intKind prog w).is k e.2) es.toList with
 | none=>
  dsimp only
  have hmem:k∉ks:=fun z=>by
   rw[←hk] at z
   obtain⟨e,he,rfl⟩:=List.mem_map.mp z
   have:=List.findIdx?_eq_none_iff.mp hr e he
   rw[(hg.is he).mpr rfl] at this
   cases this
  exact wpAny_pure (h none (by rw[decide_eq_false hmem];rfl) fun i e=>by cases e)
 | some j=>
  dsimp only
  obtain⟨hj,hpj,_⟩:=List.findIdx?_eq_some_iff_getElem.mp hr
  have e1:A6 es.toList[j]=k:=((hg.is (List.getElem_mem hj)).mp hpj).symm
  have hmem:k∈ks:=by
   rw[←hk,←e1]
   exact List.mem_map_of_mem (List.getElem_mem hj)
  refine wpAny_pure (h (some (0+j)) (by rw[decide_eq_true hmem];rfl) fun i e=>?_)
  have e':j=i:=by injection e with e;omega
  subst e'
  rw[←hk,List.getElem?_map,List.getElem?_eq_getElem hj,←e1]
  rfl
theorem HK {Q:Bool→Shared→Prop} {l:List Addr} (hl:∀b∈l,∃kb,SetIt w s.heap b kb) (h:Q true s):wpAny (model prog w) A (setsQuiet l) Q E s:=by
 unfold setsQuiet
 refine wpAny_bind ?_
 refine wpAny_forIn_list _ (fun rest r s'=>r.1=none∧s'=s∧∀b∈rest,∃kb,SetIt w s.heap b kb) _ ?_ ?_ _ _ ⟨rfl,rfl,hl⟩
 ·rintro b rest r s' ⟨hr,rfl,hall⟩
  obtain⟨kb,o,es,ep,t,ho,hex,hd,hg,hk,nd,hl,ok,hf⟩:=hall b List.mem_cons_self
  unfold setEntries
  refine wpAny_bind (wpAny_bind (wpAny_setState_of ho hd hf (wpAny_pure ?_)))
  refine wpAny_bind ?_
  refine wpAny_forIn_array' _ (fun rest' r' s''=>r'.1=none∧s''=s'∧EGood rest') _ ?_ ?_ _ _ ⟨rfl,rfl,hg⟩
  ·rintro⟨hh,x⟩ rest' r' s' ⟨hr',rfl,g⟩
   obtain⟨_,t',e⟩:=g _ List.mem_cons_self
   have e':x= .int (A6 (hh,x)) t':=e
   rw[e']
   exact wpAny_pure ⟨rfl,rfl,fun y hy=>g y (List.mem_cons_of_mem _ hy)⟩
  ·rintro⟨r1,r2⟩ s' ⟨hr',rfl,_⟩
   simp only at hr'
   subst hr'
   exact wpAny_pure ⟨rfl,rfl,fun c hc=>hall c (List.mem_cons_of_mem _ hc)⟩
 ·rintro⟨r1,r2⟩ s' ⟨hr,rfl,_⟩
  simp only at hr
  subst hr
  exact wpAny_pure h
theorem J0 {o:Obj} {es:Array (Int×Value)} {ep:Nat} {t:SetTable} {Q:Array (Int×Value)→Shared→Prop} (ho:s.heap.get? a=some o) (hd:o.data= .set es ep t) (ok:FR (Bp w) t) (hf:t.fits es.size=true)
  (hc:(Bp w || (t.led && t.plain) || decide (es.size≤1))=true) (h:∀es':Array (Int×Value),es'.toList.Perm es.toList→Q es' s):wpAny (model prog w) A (setWalk a) Q E s:=by
 unfold setWalk setsByText
 refine wpAny_bind (wpAny_setState_of ho hd hf ?_)
 dsimp only
 refine wpAny_bind (wpAny_bind (wpAny_askSetting (wpAny_pure ?_)))
 show wpAny _ _ (if Bp w=true then _ else _) _ _ _
 cases hb:Bp w with
 | true=>
  rw[if_pos rfl]
  refine wpAny_bind (wpAny_askSetting ?_)
  exact wpAny_pure (h _ (DA _ _))
 | false=>
  rw[if_neg Bool.false_ne_true]
  have hn:(!t.plain && decide (es.size>1))=false:=by
   rw[hb,Bool.false_or] at hc
   cases hp:t.plain with
   | true=>rfl
   | false=>
    rw[hp,Bool.and_false,Bool.false_or] at hc
    have:=of_decide_eq_true hc
    simp
    omega
  show wpAny _ _ (if (!t.plain && decide (es.size>1))=true then _ else _) _ _ _
  rw[hn,if_neg Bool.false_ne_true]
  refine wpAny_bind ?_
  show wpAny _ _ (if (!t.led && decide (es.size>1))=true then _ else _) _ _ _
  rw[ok.led,hb,if_neg (by simp)]
  exact wpAny_pure (wpAny_pure (h es (List.Perm.refl _)))
theorem HJ {f:Addr} {others:List Addr} {kf:List Int} {Q:Array (Int×Value)→Shared→Prop} (hS:SetIt w s.heap a ks) (hF:SetIs w s.heap f kf) (hO:∀b∈others,∃kb,SetIt w s.heap b kb)
  (h:∀(es':Array (Int×Value)) (h':Heap),EGood es'.toList→(es'.toList.map A6).Perm ks→Heap.SameBut f s.heap h'→SetIs w h' f kf→Q es' { s with heap:=h' }):wpAny (model prog w) A (setWalkUnseen a others (some f)) Q E s:=by
 obtain⟨o,es,ep,t,ho,hex,hd,hg,hk,nd,hl,ok,hf⟩:=id hS
 have stay:∀es':Array (Int×Value),es'.toList.Perm es.toList→Q es' s:=fun es' hp=>by
  have:=h es' s.heap (fun e he=>hg e (hp.mem_iff.mp he)) (by rw[←hk];exact hp.map A6) (Heap.SameBut.refl _ _) hF
  have e:s={ s with heap:=s.heap }:=by cases s;rfl
  rw[e];exact this
 unfold setWalkUnseen setsByText
 refine wpAny_bind (wpAny_setState_of ho hd hf ?_)
 dsimp only
 refine wpAny_bind (wpAny_bind (wpAny_askSetting (wpAny_pure ?_)))
 show wpAny _ _ (if (Bp w || (t.led && t.plain) || decide (es.size≤1))=true then _ else _) _ _ _
 split
 ·rename_i hc
  exact J0 ho hd ok hf hc stay
 ·rename_i hc
  have hb:Bp w=false:=by
   cases q:Bp w with
   | true=>rw[q] at hc;exact absurd rfl hc
   | false=>rfl
  refine wpAny_bind (HK (fun b hb=>?_) ?_)
  ·rcases List.mem_cons.mp hb with e | e
   ·subst e;exact⟨_,hS⟩
   ·exact hO b e
  simp only[Bool.not_true,Bool.false_eq_true,if_false]
  refine wpAny_bind (wpAny_rule ?_)
  obtain⟨of,ef,epf,tf,hof,hexf,hdf,hgf,hkf,ndf,hlf,okf,hff⟩:=id hF
  refine wpAny_bind (wpAny_setState_of hof hdf hff ?_)
  dsimp only
  split
  ·refine wpAny_bind (wpAny_storeSet_of hof hdf ?_ ?_)
   rotate_left
   exact (fits_of_scanBound (by rw[Do hkf];exact Cj hlf))
   have:=(Ek (w:=w) (t':={ tf with led:=tf.led && t.led,plain:=tf.plain && t.plain }) hof hexf hdf hgf (by rw[hkf];exact ndf) (by rw[Do hkf];exact hlf) ⟨okf.dum,by show (tf.led && t.led)=_;rw[okf.led,ok.led,Bool.and_self],okf.up⟩ hff).2
   rw[hkf] at this
   exact wpAny_pure (h es _ hg (by rw[hk]) (Heap.SameBut.update _ _ _) this)
  ·exact wpAny_pure ((stay es (List.Perm.refl _)))
theorem M0 {others:List Addr} {Q:Array (Int×Value)→Shared→Prop} (hS:SetIt w s.heap a ks) (hO:∀b∈others,∃kb,SetIt w s.heap b kb)
  (h:∀(es':Array (Int×Value)),EGood es'.toList→(es'.toList.map A6).Perm ks→Q es' s):wpAny (model prog w) A (setWalkUnseen a others none) Q E s:=by
 obtain⟨o,es,ep,t,ho,hex,hd,hg,hk,nd,hl,ok,hf⟩:=id hS
 have stay:∀es':Array (Int×Value),es'.toList.Perm es.toList→Q es' s:=fun es' hp=>
  h es' (fun e he=>hg e (hp.mem_iff.mp he)) (by rw[←hk];exact hp.map A6)
 unfold setWalkUnseen setsByText
 refine wpAny_bind (wpAny_setState_of ho hd hf ?_)
 dsimp only
 refine wpAny_bind (wpAny_bind (wpAny_askSetting (wpAny_pure ?_)))
 show wpAny _ _ (if (Bp w || (t.led && t.plain) || decide (es.size≤1))=true then _ else _) _ _ _
 split
 ·rename_i hc
  exact J0 ho hd ok hf hc stay
 ·refine wpAny_bind (HK (fun b hb=>?_) ?_)
  ·rcases List.mem_cons.mp hb with e | e
   ·subst e;exact⟨_,hS⟩
   ·exact hO b e
  simp only[Bool.not_true,Bool.false_eq_true,if_false]
  refine wpAny_bind (wpAny_rule ?_)
  exact wpAny_pure (stay es (List.Perm.refl _))
end
end L2
namespace L2
open PySem PySem.Spec PyProof.Rows
namespace F
theorem entry_set_and:entryFor table "set.__and__"=some Builtin.«frozenset.__and__»:=entryFor_alias (id':="frozenset.__and__") (by kernel_rfl) rfl (by decide +kernel) (by kernel_rfl)
theorem entry_set_sub:entryFor table "set.__sub__"=some Builtin.«frozenset.__sub__»:=entryFor_alias (id':="frozenset.__sub__") (by kernel_rfl) rfl (by decide +kernel) (by kernel_rfl)
end F
section
variable {prog:Program} {w:World} {A:Around} {E:Value→Shared→Prop} {s:Shared} {a b r:Addr} {ka kb:List Int} {k:Int} {tk:Tok}
theorem D0 {Q:Nat→Shared→Prop} (hS:SetIt w s.heap a ka) (h:Q ka.length s):wpAny (model prog w) A (Builtin.Frozenset.sizeOf a) Q E s:=by
 obtain⟨o,es,ep,t,ho,hex,hd,hg,hk,nd,hl,ok,hf⟩:=hS
 unfold Builtin.Frozenset.sizeOf setEntries
 refine wpAny_bind (wpAny_bind (wpAny_setState_of ho hd hf (wpAny_pure ?_)))
 rw[Do hk]
 exact wpAny_pure h
theorem Dl {Q:Bool→Shared→Prop} (hS:SetIt w s.heap a ka) (h:Q true s):wpAny (model prog w) A (Builtin.Frozenset.isAnySet (.ref a)) Q E s:=by
 unfold Builtin.Frozenset.isAnySet
 show wpAny _ _ (isInstance (.ref a) (.type "set") >>= _) _ _ _
 refine wpAny_bind (wpAny_isInstance hS.typeIs sub_set_self ?_)
 exact wpAny_pure h
theorem D8 {Q:Value→Shared→Prop} (hS:SetIt w s.heap a ka) (h:Q (.type "set") s):wpAny (model prog w) A (Builtin.Frozenset.baseOf a) Q E s:=by
 unfold Builtin.Frozenset.baseOf
 refine wpAny_bind (wpAny_isInstance hS.typeIs sub_set_self ?_)
 exact wpAny_pure h
theorem Gc {Q:Value→Shared→Prop} (h:Q (.ref s.heap.objs.size) { s with heap:=s.heap.push (Bd w) }):wpAny (model prog w) A (newSet (.type "set")) Q E s:=by
 unfold newSet setsByText
 refine wpAny_bind (wpAny_bind (wpAny_askSetting (wpAny_pure ?_)))
 simp only[newObj]
 refine wpAny_bind (wpAny_alloc (wpAny_pure ?_))
 exact h
theorem EN {Q:Nat→Shared→Prop} {o:Obj} {es:Array (Int×Value)} {ep:Nat} {t:SetTable} (ho:s.heap.get? a=some o) (hd:o.data= .set es ep t) (hf:t.fits es.size=true) (h:Q ep s):wpAny (model prog w) A (setEpoch a) Q E s:=by
 unfold setEpoch
 exact wpAny_bind (wpAny_setState_of ho hd hf (wpAny_pure h))
theorem Dj {id:String} {Q:Unit→Shared→Prop} {o:Obj} {es:Array (Int×Value)} {ep:Nat} {t:SetTable} (ho:s.heap.get? a=some o) (hd:o.data= .set es ep t) (hf:t.fits es.size=true) (h:Q () s):wpAny (model prog w) A (Builtin.Frozenset.unchanged id a ep) Q E s:=by
 unfold Builtin.Frozenset.unchanged
 refine wpAny_bind (EN ho hd hf ?_)
 rw[if_neg (by simp)]
 exact wpAny_pure h
theorem HF {body:(Int×Value)→PUnit→Sem (ForInStep PUnit)} {p:Int→Bool} {R:PUnit→Shared→Prop} {es:Array (Int×Value)} {kr:List Int}
  (hbody:∀(k:Int) (tk:Tok) (h1:Heap) (k1:List Int) (Q':ForInStep PUnit→Shared→Prop),Heap.SameBut r s.heap h1→SetIs w h1 r k1→k1.length+1<2000→
   (∀h' k2,Heap.SameBut r h1 h'→SetIs w h' r k2→(∀j,j∈k2↔j∈k1∨(p k=true∧j=k))→k2.length≤k1.length+1→Q' (.yield ⟨⟩) { s with heap:=h' })→
   wpAny (model prog w) A (body (hashInt k,.int k tk) ⟨⟩) Q' E { s with heap:=h1 })
  (hg:EGood es.toList) (hR:SetIs w s.heap r kr) (hn:kr.length+es.size<1999)
  (h:∀h' k2,Heap.SameBut r s.heap h'→SetIs w h' r k2→(∀j,j∈k2↔j∈kr∨(p j=true∧j∈es.toList.map A6))→k2.length≤kr.length+es.size→R ⟨⟩ { s with heap:=h' }) :
  wpAny (model prog w) A (forIn es PUnit.unit body) R E s:=by
 refine wpAny_forIn_array' _ (fun rest _ s'=>∃h1 k1,s'={ s with heap:=h1 }∧Heap.SameBut r s.heap h1∧SetIs w h1 r k1∧EGood rest∧k1.length+rest.length≤kr.length+es.size∧
  (∀j,(j∈k1∨(p j=true∧j∈rest.map A6))↔j∈kr∨(p j=true∧j∈es.toList.map A6))) _ ?_ ?_ _ _ ⟨s.heap,kr,by cases s;rfl,Heap.SameBut.refl _ _,hR,hg,by rw[Array.length_toList];exact Nat.le_refl _,fun j=>Iff.rfl⟩
 ·rintro⟨hh,x⟩ rest u s' ⟨h1,k1,rfl,sb,hS,g,hl,hm⟩
  obtain⟨e1,t',e2⟩:=g _ List.mem_cons_self
  generalize hk:A6 (hh,x)=k at e1 e2
  dsimp only at e1 e2
  subst e1;subst e2
  rw[List.length_cons] at hl
  refine hbody k t' h1 k1 _ sb hS (by omega) fun h' k2 sb2 hS2 hm2 hl2=>?_
  refine⟨h',k2,rfl,sb.trans sb2,hS2,fun y hy=>g y (List.mem_cons_of_mem _ hy),by omega,fun j=>?_⟩
  rw[←hm j,hm2 j,List.map_cons,List.mem_cons]
  constructor
  ·rintro ((z | ⟨z1,z2⟩) | ⟨z1,z2⟩)
   ·exact .inl z
   ·exact .inr ⟨by rw[z2];exact z1,.inl (by rw[hk];exact z2)⟩
   ·exact .inr ⟨z1,.inr z2⟩
  ·rintro (z | ⟨z1,z2 | z2⟩)
   ·exact .inl (.inl z)
   ·exact .inl (.inr ⟨by rw[←hk,←z2];exact z1,by rw[←hk];exact z2⟩)
   ·exact .inr ⟨z1,z2⟩
 ·rintro u s' ⟨h1,k1,rfl,sb,hS,g,hl,hm⟩
  refine h h1 k1 sb hS (fun j=>?_) (by simpa using hl)
  rw[←hm j]
  simp
theorem DQ {h:Heap} {o:Obj} (e:h.get? a=some o):a≠h.objs.size:=Nat.ne_of_lt (Heap.lt_size e)
theorem PH {Q:Value→Shared→Prop} (ha:SetIt w s.heap a ka) (hb:SetIt w s.heap b kb) (hab:a≠b) (hl:ka.length+kb.length<1990)
  (h:∀h' k2,SetIs w h' s.heap.objs.size k2→(∀j,j∈k2↔j∈ka∧j∈kb)→k2.length≤ka.length+kb.length→(∀c o,s.heap.get? c=some o→h'.get? c=some o)→Q (.ref s.heap.objs.size) { s with heap:=h' }) :
  wpAny (model prog w) A (binaryOp .BitAnd (.ref a) (.ref b)) Q E s:=by
 refine wpAny_binaryOp_same ha.typeIs hb.typeIs PySem.F.fills_set_and PySem.F.slot_set_and ?_
 refine wpAny_call_entry PySem.F.slot_set_and ha.typeIs F.entry_set_and ?_ (PySem.F.args_set_and_2 _ _)
 show wpAny _ _ (do
  let (self,other) ←Builtin.Frozenset.slot1 "__and__" ⟨[.ref a,.ref b],[]⟩
  let (l,r):=if false=true then (other,self) else (self,other)
  if !(←Builtin.Frozenset.isAnySet l <&&> Builtin.Frozenset.isAnySet r) then rule s!"frozenset.{"__and__"}.declined";return ←ret .notImplemented
  ret (←Builtin.Frozenset.intersection s!"frozenset.{"__and__"}" (←Builtin.Frozenset.addrOf l) r)) _ _ _
 generalize s!"frozenset.{"__and__"}"=id0
 generalize s!"frozenset.{"__and__"}.declined"=id1
 show wpAny _ _ ((Builtin.Frozenset.isAnySet (.ref a) <&&> Builtin.Frozenset.isAnySet (.ref b)) >>= _) _ _ _
 refine wpAny_bind ?_
 show wpAny _ _ (Builtin.Frozenset.isAnySet (.ref a) >>= _) _ _ _
 refine wpAny_bind (Dl ha ?_)
 show wpAny _ _ (Builtin.Frozenset.isAnySet (.ref b)) _ _ _
 refine Dl hb ?_
 simp only[Bool.not_true,Bool.false_eq_true,if_false]
 show wpAny _ _ (Builtin.Frozenset.intersection id0 a (.ref b) >>= _) _ _ _
 refine wpAny_bind ?_
 unfold Builtin.Frozenset.intersection
 rw[if_neg (by intro z;have:=beq_iff_eq.mp z;injection this with this;exact hab this.symm)]
 refine wpAny_bind (D8 ha (wpAny_bind (Gc ?_)))
 show wpAny _ _ (holding _ _ >>= _) _ _ _
 refine wpAny_bind (wpAny_holding ?_)
 have kk:∀c o,s.heap.get? c=some o→(s.heap.push (Bd w)).get? c=some o:=fun c o e=>Heap.get?_push_of_some _ e
 have ha1:=ha.keep (h':=s.heap.push (Bd w)) fun o e=>kk _ _ e
 have hb1:=hb.keep (h':=s.heap.push (Bd w)) fun o e=>kk _ _ e
 have hr1:SetIs w (s.heap.push (Bd w)) s.heap.objs.size []:=set0_is
 have na:a≠s.heap.objs.size:=let ⟨o,_,_,_,ho,_⟩:=ha;DQ ho
 have nb:b≠s.heap.objs.size:=let ⟨o,_,_,_,ho,_⟩:=hb;DQ ho
 generalize er:s.heap.objs.size=r at *
 refine wpAny_bind (Dl hb1 ?_)
 simp only[if_true]
 show wpAny _ _ (Builtin.Frozenset.sizeOf b >>= _) _ _ _
 refine wpAny_bind (D0 hb1 ?_)
 refine wpAny_bind (D0 ha1 ?_)
 have hp:∃pa pw kpa kpw,(if kb.length>ka.length then (b,a) else (a,b))=(pa,pw)∧SetIt w (s.heap.push (Bd w)) pa kpa∧SetIt w (s.heap.push (Bd w)) pw kpw∧pa≠r∧pw≠r∧(∀j,j∈kpa∧j∈kpw↔j∈ka∧j∈kb)∧kpw.length≤ka.length+kb.length:=by
  by_cases z:kb.length>ka.length
  ·exact⟨b,a,kb,ka,if_pos z,hb1,ha1,nb,na,fun j=>and_comm,Nat.le_add_right _ _⟩
  ·exact⟨a,b,ka,kb,if_neg z,ha1,hb1,na,nb,fun j=>Iff.rfl,Nat.le_add_left _ _⟩
 obtain⟨pa,pw,kpa,kpw,e,hpa,hpw,npa,npw,hj,hlw⟩:=hp
 rw[e]
 dsimp only
 obtain⟨o,es,ep,t,ho,hex,hd,hg,hk,nd,hlk,ok,hf⟩:=id hpw
 refine wpAny_bind (EN ho hd hf ?_)
 refine wpAny_bind (HJ hpw hr1 (fun c hc=>?_) fun es' h' hg' hp' sb hr'=>?_)
 ·simp only[List.mem_cons,List.not_mem_nil,or_false] at hc
  rcases hc with rfl | rfl
  ·exact⟨_,hpa⟩
  ·exact⟨_,hr1.it⟩
 have hsz:es'.size=kpw.length:=by rw[←hp'.length_eq,List.length_map,Array.length_toList]
 refine wpAny_bind (wpAny_mono (HF (r:=r) (p:=fun j=>decide (j∈kpa)) (R:=fun _ s'=>∃h' k2,s'={ s with heap:=h' }∧Heap.SameBut r (s.heap.push (Bd w)) h'∧SetIs w h' r k2∧(∀j,j∈k2↔j∈ka∧j∈kb)∧k2.length≤ka.length+kb.length) ?_ hg' hr' (by rw[hsz];simp;omega) fun h2 k2 sb2 hS2 hm2 hl2=>⟨h2,k2,rfl,sb.trans sb2,hS2,fun j=>?_,by rw[hsz] at hl2;simp at hl2;omega⟩) ?_ fun _ _ h'=>h')
 ·intro k tk h1 k1 Q' sb1 hS1 hl1 hQ
  have hpa1:SetIt w h1 pa kpa:=hpa.keep fun o e=>by rw[sb1.2 _ npa,sb.2 _ npa];exact e
  refine wpAny_bind ?_
  refine wpAny_holding ?_
  refine wpAny_bind (Hr (s:={ s with heap:=h1 }) hpa1 fun rr hrr _=>?_)
  have fin:∀h' k2,Heap.SameBut r h1 h'→SetIs w h' r k2→(∀j,j∈k2↔j∈k1∨(decide (k∈kpa)=true∧j=k))→k2.length≤k1.length+1→wpAny (model prog w) A.in1 (Builtin.Frozenset.unchanged id0 pw ep >>= fun _=>pure (ForInStep.yield PUnit.unit)) Q' E { s with heap:=h' }:=fun h' k2 sb' hS' hm' hl'=>by
   have ho':h'.get? pw=some o:=by rw[sb'.2 _ npw,sb1.2 _ npw,sb.2 _ npw];exact ho
   exact wpAny_bind (Dj (s:={ s with heap:=h' }) ho' hd hf (wpAny_pure (hQ h' k2 sb' hS' hm' hl')))
  by_cases hmem:k∈kpa
  ·rw[hrr,decide_eq_true hmem,if_pos rfl]
   refine wpAny_bind (FZ (s:={ s with heap:=h1 }) hS1 hl1 fun h' k2 sb' hS' hm' hl'=>wpAny_pure ?_)
   exact fin h' k2 sb' hS' (fun j=>by rw[hm' j,decide_eq_true hmem];simp) hl'
  ·rw[hrr,decide_eq_false hmem,if_neg Bool.false_ne_true]
   refine wpAny_pure ?_
   exact fin h1 k1 (Heap.SameBut.refl _ _) hS1 (fun j=>by rw[decide_eq_false hmem];simp) (Nat.le_succ _)
 ·rw[hm2 j]
  rw[hp'.mem_iff,decide_eq_true_eq,←hj j]
  simp
 ·rintro u s' ⟨h',k2,rfl,sb',hS',hm',hl'⟩
  refine wpAny_pure ?_
  refine wpAny_pure ?_
  refine wpAny_pure ⟨_,rfl,by simp,?_⟩
  exact h h' k2 hS' hm' hl' fun c o e=>by
   have:c≠r:=by rw[←er];exact DQ e
   rw[sb'.2 _ this];exact kk c o e
end
end L2
namespace L2
open PySem PySem.Spec PyProof.Rows
theorem JO {f g:Nat→Option Nat}:∀l:List Nat,(∀x∈l,g x=f x)→l.filterMap g=l.filterMap f
 | [],_=>rfl
 | x::l,h=>by
  have ih:=JO l fun y hy=>h y (List.mem_cons_of_mem _ hy)
  have e:=h x List.mem_cons_self
  cases q:f x with
  | none=>rw[List.filterMap_cons_none (e.trans q),List.filterMap_cons_none q,ih]
  | some v=>rw[List.filterMap_cons_some (e.trans q),List.filterMap_cons_some q,ih]
theorem Pi {f g:Nat→Option Nat} {j k:Nat} (hf:f j=none) (hg:g j=some k) (hne:∀x,x≠j→g x=f x):∀l:List Nat,l.Nodup→j∈l→(l.filterMap g).Perm (k::l.filterMap f)
 | [],_,h=>by cases h
 | x::l,nd,h=>by
  have nd':=List.nodup_cons.mp nd
  by_cases e:x=j
  ·subst e
   have:l.filterMap g=l.filterMap f:=JO l fun y hy=>hne y fun z=>nd'.1 (z ▸ hy)
   rw[List.filterMap_cons_some hg,List.filterMap_cons_none hf,this]
  ·have hj:j∈l:=by
    rcases List.mem_cons.mp h with z | z
    ·exact absurd z.symm e
    ·exact z
   have ih:=Pi hf hg hne l nd'.2 hj
   have ex:=hne x e
   cases q:f x with
   | none=>rw[List.filterMap_cons_none (ex.trans q),List.filterMap_cons_none q];exact ih
   | some v=>rw[List.filterMap_cons_some (ex.trans q),List.filterMap_cons_some q];exact (ih.cons v).trans (List.Perm.swap _ _ _)
theorem OZ {f:Nat→Option Nat}:∀l:List Nat,(∀x∈l,f x≠none)→(l.filterMap f).length=l.length
 | [],_=>rfl
 | x::l,h=>by
  cases q:f x with
  | none=>exact absurd q (h x List.mem_cons_self)
  | some v=>rw[List.filterMap_cons_some q,List.length_cons,List.length_cons,OZ l fun y hy=>h y (List.mem_cons_of_mem _ hy)]
abbrev MP (n:Nat) (owner:Array (Option Nat)):List Nat:=(List.range n).filterMap fun j=>owner.getD j none
def R7 (mask:Nat):Nat→Nat×Nat→Nat×Nat
 | 0,x=>x
 | t+1,x=>R7 mask t (SetTable.leap mask x.1 x.2)
theorem HG {mask:Nat} {owner:Array (Option Nat)} {j:Nat}:∀(fuel i p:Nat),SetTable.layClean.free mask owner fuel i p=some j→owner.getD j (some 0)=none
 | 0,_,_,h=>by cases h
 | fuel+1,i,p,h=>by
  unfold SetTable.layClean.free at h
  split at h
  ·rename_i k e
   injection h with h
   subst h
   exact Option.isNone_iff_eq_none.mp (List.find?_some (p:=fun k=>(owner.getD (i+k) (some 0)).isNone) e)
  ·exact HG fuel _ _ h
theorem HZ {mask:Nat} {owner:Array (Option Nat)}:∀(fuel i p t:Nat),t<fuel→owner.getD (R7 mask t (i,p)).1 (some 0)=none→∃j,SetTable.layClean.free mask owner fuel i p=some j
 | 0,_,_,t,h,_=>absurd h (Nat.not_lt_zero _)
 | fuel+1,i,p,t,h,e=>by
  unfold SetTable.layClean.free
  split
  ·exact⟨_,rfl⟩
  ·rename_i q
   cases t with
   | zero=>
    have:=List.find?_eq_none.mp q 0 (List.mem_range.mpr (by unfold SetTable.runEnd;split<;>omega))
    rw[Nat.add_zero] at this
    have e':owner.getD i (some 0)=none:=e
    rw[e'] at this
    exact absurd rfl this
   | succ t=>exact HZ fuel _ _ t (Nat.lt_of_succ_lt_succ h) e
def Lv (mask:Nat):Nat→Nat→Nat→Nat
 | 0,_,acc=>acc
 | n+1,i,acc=>Lv mask n ((i*5+1)%(mask+1)) (acc ||| 1 <<< i)
theorem JU {mask j:Nat}:∀(n i acc:Nat),(Lv mask n i acc).testBit j=true→acc.testBit j=true∨∃t,t<n∧(R7 mask t (i,0)).1=j
 | 0,_,_,h=>.inl h
 | n+1,i,acc,h=>by
  rcases JU n _ _ h with z | ⟨t,h1,h2⟩
  ·rw[Nat.testBit_or,Bool.or_eq_true] at z
   rcases z with z | z
   ·exact .inl z
   ·rw[Nat.shiftLeft_eq,Nat.one_mul,Nat.testBit_two_pow] at z
    exact .inr ⟨0,Nat.succ_pos _,of_decide_eq_true z⟩
  ·refine .inr ⟨t+1,Nat.succ_lt_succ h1,?_⟩
   show (R7 mask t (SetTable.leap mask i 0)).1=j
   unfold SetTable.leap
   rw[Nat.zero_div,Nat.add_zero]
   exact h2
def Pk (mask:Nat):Prop:=∀i j,i≤mask→j≤mask→∃t,t<mask+1∧(R7 mask t (i,0)).1=j
theorem Ho {mask:Nat} (h:(List.range (mask+1)).all (fun i=>Lv mask (mask+1) i 0 == 2^(mask+1)-1)=true):Pk mask:=fun i j hi hj=>by
 have:=List.all_eq_true.mp h i (List.mem_range.mpr (Nat.lt_succ_of_le hi))
 have e:=beq_iff_eq.mp this
 have:(Lv mask (mask+1) i 0).testBit j=true:=by
  rw[e,Nat.testBit_two_pow_sub_one]
  exact decide_eq_true (Nat.lt_succ_of_le hj)
 rcases JU _ _ _ this with z | z
 ·rw[Nat.zero_testBit] at z;cases z
 ·exact z
theorem Tv:Pk 7:=Ho (by decide +kernel)
theorem SI:Pk 15:=Ho (by decide +kernel)
theorem SF:Pk 31:=Ho (by decide +kernel)
theorem Su:Pk 63:=Ho (by decide +kernel)
theorem Rb:Pk 127:=Ho (by decide +kernel)
theorem MS {owner:Array (Option Nat)} {j:Nat}:owner.getD j (some 0)=none→j<owner.size∧owner.getD j none=none:=fun h=>by
 by_cases z:j<owner.size
 ·refine⟨z,?_⟩
  simp[Array.getD,z] at h ⊢
  exact h
 ·simp[Array.getD,z] at h
theorem Pc {mask:Nat} (cov:Pk mask):∀(hs:List Int) (owner:Array (Option Nat)) (k:Nat),owner.size=mask+1→(MP (mask+1) owner).Perm (List.range k)→k+hs.length≤mask+1→(∀h∈hs,SetTable.bits h<32)→
  ∃owner':Array (Option Nat),hs.foldl (fun (acc:Option (Array (Option Nat)×Nat)) h=>(do
   let (owner,k) ←acc
   let j ←SetTable.layClean.free mask owner (SetTable.turns mask) (SetTable.bits h%(mask+1)) (SetTable.bits h)
   pure (owner.setIfInBounds j (some k),k+1))) (some (owner,k))=some (owner',k+hs.length)∧owner'.size=mask+1∧(MP (mask+1) owner').Perm (List.range (k+hs.length))
 | [],owner,k,hz,hp,_,_=>⟨owner,rfl,hz,hp⟩
 | h::hs,owner,k,hz,hp,hl,hb=>by
  rw[List.length_cons] at hl
  have hex:∃j,j≤mask∧owner.getD j none=none:=Classical.byContradiction fun z=>by
   have:=OZ (f:=fun j=>owner.getD j none) (List.range (mask+1)) fun x hx e=>z ⟨x,Nat.le_of_lt_succ (List.mem_range.mp hx),e⟩
   have e2:=hp.length_eq
   rw[List.length_range] at this e2
   change (MP (mask+1) owner).length=_ at this
   omega
  obtain⟨j0,hj0,e0⟩:=hex
  have e0':owner.getD j0 (some 0)=none:=by
   have:j0<owner.size:=by omega
   simp[Array.getD,this] at e0 ⊢
   exact e0
  have hb0:=hb h List.mem_cons_self
  have hd:SetTable.bits h / 32=0:=Nat.div_eq_of_lt hb0
  obtain⟨t,ht,et⟩:=cov ((SetTable.bits h%(mask+1)*5+1)%(mask+1)) j0 (Nat.le_of_lt_succ (Nat.mod_lt _ (Nat.succ_pos _))) hj0
  obtain⟨j,ej⟩:=HZ (mask:=mask) (owner:=owner) (SetTable.turns mask) (SetTable.bits h%(mask+1)) (SetTable.bits h) (t+1) (by unfold SetTable.turns;omega) (by
   show owner.getD (R7 mask t (SetTable.leap mask _ _)).1 (some 0)=none
   unfold SetTable.leap
   rw[hd,Nat.add_zero,et]
   exact e0')
  obtain⟨jl,jn⟩:=MS (HG _ _ _ ej)
  have hp':(MP (mask+1) (owner.setIfInBounds j (some k))).Perm (List.range (k+1)):=by
   refine (Pi (f:=fun j=>owner.getD j none) (g:=fun x=>(owner.setIfInBounds j (some k)).getD x none) (j:=j) (k:=k) jn ?_ (fun x hx=>?_) _ List.nodup_range (List.mem_range.mpr (by omega))).trans ?_
   ·simp[Array.getD,jl]
   ·simp only[Array.getD_eq_getD_getElem?]
    rw[Array.getElem?_setIfInBounds_ne (Ne.symm hx)]
   ·refine (hp.cons k).trans ?_
    rw[List.range_succ (n:=k)]
    exact List.perm_append_comm (l₁:=[k])
  obtain⟨o',h1,h2,h3⟩:=Pc cov hs (owner.setIfInBounds j (some k)) (k+1) (by rw[Array.size_setIfInBounds];exact hz) hp' (by omega) fun y hy=>hb y (List.mem_cons_of_mem _ hy)
  have ek:k+1+hs.length=k+(hs.length+1):=by omega
  refine⟨o',?_,h2,?_⟩
  ·rw[List.foldl_cons]
   show List.foldl _ (SetTable.layClean.free mask owner (SetTable.turns mask) (SetTable.bits h%(mask+1)) (SetTable.bits h) >>= _) hs=_
   rw[ej,List.length_cons,←ek]
   exact h1
  ·rw[List.length_cons,←ek];exact h3
theorem Lk {mask:Nat} (cov:Pk mask) (finger moves:Nat) (led plain:Bool) (hs:Array Int) (hl:hs.size≤mask) (hb:∀h∈hs.toList,SetTable.bits h<32) :
  ∃t order,SetTable.laid mask finger moves led plain hs=some (t,order)∧order.toList.Perm (List.range hs.size)∧t.dummies = #[]∧t.led=led∧Up t.place∧t.place.size=hs.size∧t.mask=mask:=by
 have hr:(MP (mask+1) (Array.replicate (mask+1) none)).Perm (List.range 0):=by
  have:MP (mask+1) (Array.replicate (mask+1) none)=[]:=by
   refine List.filterMap_eq_nil_iff.mpr fun x hx=>?_
   simp[Array.getD]
  rw[this]
  exact List.Perm.refl _
 obtain⟨owner,h1,h2,h3⟩:=Pc cov hs.toList _ 0 Array.size_replicate hr (by rw[Array.length_toList];omega) hb
 rw[Nat.zero_add,Array.length_toList] at h1 h3
 have e:SetTable.layClean mask hs=some owner:=by
  unfold SetTable.layClean
  rw[←Array.foldl_toList]
  exact congrArg (Option.map (·.1)) h1
 unfold SetTable.laid
 rw[e]
 refine⟨_,_,rfl,?_,rfl,rfl,?_,?_,rfl⟩
 ·show (List.map (fun x:Nat×Nat=>x.2) (List.filterMap (fun j=>Option.map (fun x=>(j,x)) (owner.getD j none)) (List.range (mask+1)))).Perm _
  rw[List.map_filterMap]
  have:(fun j=>Option.map (fun x:Nat×Nat=>x.2) (Option.map (fun x=>(j,x)) (owner.getD j none)))=fun j=>owner.getD j none:=by
   funext j
   cases owner.getD j none<;>rfl
  rw[this]
  exact h3
 ·show (List.map (fun x:Nat×Nat=>x.fst) (List.filterMap (fun j=>Option.map (fun x=>(j,x)) (owner.getD j none)) (List.range (mask+1)))).toArray.toList.Pairwise (· < ·)
  rw[List.toList_toArray]
  rw[List.map_filterMap]
  refine List.Pairwise.filterMap _ (R:=(· < ·)) ?_ List.pairwise_lt_range
  intro a a' hlt b hb b' hb'
  have f:∀{a b:Nat},Option.map (fun x:Nat×Nat=>x.1) (Option.map (fun x=>(a,x)) (owner.getD a none))=some b→b=a:=fun {a b} e=>by
   cases q:owner.getD a none with
   | none=>rw[q] at e;cases e
   | some y=>rw[q] at e;injection e with e;exact e.symm
  rw[f hb,f hb']
  exact hlt
 ·show (List.map (fun x:Nat×Nat=>x.fst) (List.filterMap (fun j=>Option.map (fun x=>(j,x)) (owner.getD j none)) (List.range (mask+1)))).toArray.size=_
  have e3:=h3.length_eq
  rw[List.length_range] at e3
  rw[List.size_toArray,List.length_map,←e3]
  have:∀l:List Nat,(List.filterMap (fun j=>Option.map (fun x=>(j,x)) (owner.getD j none)) l).length=(List.filterMap (fun j=>owner.getD j none) l).length:=fun l=>by
   induction l with
   | nil=>rfl
   | cons x l ih=>cases q:owner.getD x none with
    | none=>rw[List.filterMap_cons_none (by rw[q];rfl),List.filterMap_cons_none (f:=fun j=>owner.getD j none) q];exact ih
    | some v=>rw[List.filterMap_cons_some (by rw[q];rfl),List.filterMap_cons_some (f:=fun j=>owner.getD j none) q,List.length_cons,List.length_cons,ih]
  exact this _
end L2
namespace L2
open PySem PySem.Spec PyProof.Rows
theorem BE {α:Type} (xs:Array α) (p:Nat):(SetTable.eraseAt xs p).toList=xs.toList.eraseIdx p:=by
 simp[SetTable.eraseAt,List.extract_eq_take_drop,List.eraseIdx_eq_take_drop_succ,List.take_of_length_le]
def SetDr (w:World) (h:Heap) (a:Addr) (ks:List Int) (m d:Nat):Prop:=
 ∃o es ep t,h.get? a=some o∧o.ExactSet∧o.data= .set es ep t∧EGood es.toList∧es.toList.map A6=ks∧ks.Nodup∧ks.length<2000∧FR (Bp w) t∧t.fits es.size=true∧t.mask=m∧t.dummies.size≤d
theorem SetDr.it {w:World} {h:Heap} {a:Addr} {ks:List Int} {m d:Nat} (x:SetDr w h a ks m d):SetIt w h a ks:=by
 obtain⟨o,es,ep,t,h1,h2,h3,h4,h5,h6,h7,h8,h9,_⟩:=x
 exact⟨o,es,ep,t,h1,h2,h3,h4,h5,h6,h7,h8,h9⟩
theorem Gj {h:Heap} {o:Obj} {a:Addr} {es es':Array (Int×Value)} {ep:Nat} {t t':SetTable} (ho:h.get? a=some o) (hd:o.data= .set es ep t) :
  (h.update a (Obj.putSet es' t')).get? a=some { o with data:=.set es' (ep+1) t' }:=by
 have:=Heap.get?_update_self (Obj.putSet es' t') ho (by rw[putSet_of es' t' hd];rfl)
 rw[putSet_of es' t' hd] at this;exact this
theorem KQ {k:Int} (h0:0≤k) (h1:k<32):SetTable.bits (hashInt k)<32:=by
 obtain⟨n,rfl⟩:=Int.eq_ofNat_of_zero_le h0
 have hn:n<32:=by omega
 have:∀n:Fin 32,SetTable.bits (hashInt (n.val:Int))<32:=by decide +kernel
 exact this ⟨n,hn⟩
section
variable {prog:Program} {w:World} {A:Around} {E:Value→Shared→Prop} {s:Shared} {a b r:Addr} {ka kb ks:List Int} {k:Int} {tk:Tok}
theorem JH {Q:Bool→Shared→Prop} {m d:Nat} (hS:SetDr w s.heap a ks m d)
  (h:∀(bb:Bool) h' ks',Heap.SameBut a s.heap h'→SetDr w h' a ks' m (d+1)→(∀j,j∈ks'↔j∈ks∧j≠k)→ks'.length≤ks.length→Q bb { s with heap:=h' }) :
  wpAny (model prog w) A (setDiscardHashed a (.int k tk) (hashInt k)) Q E s:=by
 obtain⟨o,es,ep,t,ho,hex,hd,hg,hk,nd,hl,ok,hf,em,ed⟩:=id hS
 unfold setDiscardHashed
 refine wpAny_bind (Hr hS.it fun rr hrr hat=>?_)
 cases rr with
 | none=>
  have hmem:k∉ks:=by
   intro z
   rw[decide_eq_true z] at hrr
   cases hrr
  have e:s={ s with heap:=s.heap }:=by cases s;rfl
  have:=h false s.heap ks (Heap.SameBut.refl _ _) ⟨o,es,ep,t,ho,hex,hd,hg,hk,nd,hl,ok,hf,em,Nat.le_succ_of_le ed⟩ (fun j=>⟨fun z=>⟨z,fun e=>hmem (e ▸ z)⟩,fun z=>z.1⟩) (Nat.le_refl _)
  rw[e]
  exact wpAny_pure this
 | some i=>
  have hki:=hat i rfl
  obtain⟨hi,eki⟩:=List.getElem?_eq_some_iff.mp hki
  have hsz:=Do hk
  have hpl:t.place.size=es.size:=by
   unfold SetTable.fits at hf
   exact beq_iff_eq.mp (Bool.and_eq_true_iff.mp hf).1
  have hfl:t.place.size+t.dummies.size≤t.mask:=by
   unfold SetTable.fits at hf
   exact of_decide_eq_true (Bool.and_eq_true_iff.mp hf).2
  have hip:i<t.place.size:=by omega
  have edrop:t.drop i={ t with place:=SetTable.eraseAt t.place i,dummies:=SetTable.insertAt t.dummies (SetTable.below t.dummies t.place[i]) t.place[i] }:=by
   unfold SetTable.drop
   rw[Array.getElem?_eq_getElem hip]
  have hkeys:(SetTable.eraseAt es i).toList.map A6=ks.eraseIdx i:=by
   rw[BE,←hk,List.eraseIdx_eq_take_drop_succ,List.eraseIdx_eq_take_drop_succ,List.map_append,List.map_take,List.map_drop]
  have hpm:=Dm ks i hi
  rw[eki] at hpm
  have nd':=hpm.nodup_iff.mpr nd
  have hlen:(ks.eraseIdx i).length+1=ks.length:=by rw[←hpm.length_eq,List.length_cons]
  have hes:(SetTable.eraseAt es i).size=(ks.eraseIdx i).length:=by rw[←hkeys,List.length_map,Array.length_toList]
  have hps:(SetTable.eraseAt t.place i).size+1=t.place.size:=by
   rw[←Array.length_toList,BE,List.length_eraseIdx,Array.length_toList,if_pos hip];omega
  have hds:(SetTable.insertAt t.dummies (SetTable.below t.dummies t.place[i]) t.place[i]).size=t.dummies.size+1:=by
   rw[←Array.length_toList,(SetTable.insertAt_perm _ _ _).length_eq]
   simp
  dsimp only
  refine wpAny_bind (wpAny_setState_of ho hd hf ?_)
  dsimp only
  refine wpAny_bind (wpAny_storeSet_of ho hd ?_ (fits_of_scanBound (by rw[hes];exact Cj (by omega))))
  refine wpAny_bind (wpAny_point (wpAny_pure ?_))
  refine h true _ (ks.eraseIdx i) (Heap.SameBut.update _ _ _) ⟨_,_,_,_,Gj ho hd,hex,rfl,?_,hkeys,(List.nodup_cons.mp nd').2,by omega,?_,?_,?_,?_⟩ (fun j=>?_) (by omega)
  ·intro e he
   rw[BE] at he
   exact hg e (List.mem_of_mem_eraseIdx he)
  ·rw[edrop]
   refine⟨ok.led,?_⟩
   show (SetTable.eraseAt t.place i).toList.Pairwise (· < ·)
   rw[BE]
   exact List.Pairwise.sublist (List.eraseIdx_sublist _ _) ok.up
  ·rw[edrop]
   unfold SetTable.fits SetTable.fill
   show ((SetTable.eraseAt t.place i).size == _ && decide ((SetTable.eraseAt t.place i).size+(SetTable.insertAt t.dummies _ _).size≤t.mask))=true
   rw[hds,Bool.and_eq_true_iff]
   exact⟨beq_iff_eq.mpr (by omega),decide_eq_true (by omega)⟩
  ·rw[edrop];exact em
  ·rw[edrop]
   show (SetTable.insertAt t.dummies _ _).size≤d+1
   rw[hds];omega
  ·rw[←hpm.mem_iff,List.mem_cons]
   have hn:=(List.nodup_cons.mp nd').1
   constructor
   ·intro z;exact⟨.inr z,fun e=>hn (e ▸ z)⟩
   ·rintro⟨z | z,ne⟩
    ·exact absurd z ne
    ·exact z
theorem Lu {es:Array (Int×Value)} {t:SetTable} {order:Array Nat} (hp:order.toList.Perm (List.range es.size)):(order.filterMap (es[·]?)).toList.Perm es.toList:=by
 rw[Array.toList_filterMap]
 exact (hp.filterMap _).trans (by rw[filterMap_getElem?_range])
end
end L2
namespace L2
open PySem PySem.Spec PyProof.Rows
theorem Py (n:Nat) (hn:n≤32):∃m,(∀led:Bool,(SetTable.fresh 0 0 led).roomFor n=if m=7 then none else some (2*n))∧(m≠7→SetTable.sizeAbove (2*n)-1=m)∧n≤m∧Pk m∧SetTable.sizeAbove (2*n)≤128:=by
 have key:∀n:Fin 33,(decide (n.val≤4) && decide (n.val*5<21)) || (decide (4<n.val) && decide (21≤n.val*5) && (SetTable.sizeAbove (2*n.val)-1 == 15 || SetTable.sizeAbove (2*n.val)-1 == 31 || SetTable.sizeAbove (2*n.val)-1 == 63 || SetTable.sizeAbove (2*n.val)-1 == 127) && decide (n.val≤SetTable.sizeAbove (2*n.val)-1))=true:=by decide +kernel
 have key2:∀n:Fin 33,SetTable.sizeAbove (2*n.val)≤128:=by decide +kernel
 have hk:=key ⟨n,by omega⟩
 have hk2:=key2 ⟨n,by omega⟩
 dsimp only at hk hk2
 have hfill:∀led:Bool,(SetTable.fresh 0 0 led).roomFor n=if (0+n)*5≥7*3 then some ((0+n)*2) else none:=fun led=>rfl
 by_cases h4:n≤4
 ·refine⟨7,fun led=>?_,fun h=>absurd rfl h,by omega,Tv,hk2⟩
  rw[hfill,if_neg (by omega),if_pos rfl]
 ·have hgt:¬decide (n≤4)=true:=by simpa using h4
  simp only[Bool.or_eq_true,Bool.and_eq_true,decide_eq_true_eq,beq_iff_eq] at hk
  rcases hk with⟨z,_⟩|⟨⟨⟨_,h21⟩,hm⟩,hnm⟩
  ·exact absurd z h4
  ·have hf:∀m,m≠7→∀led:Bool,(SetTable.fresh 0 0 led).roomFor n=if m=7 then none else some (2*n):=fun m hm led=>by
    rw[hfill,if_pos (by omega),if_neg hm,Nat.zero_add,Nat.mul_comm]
   rcases hm with ((e | e) | e) | e
   ·exact⟨15,hf 15 (by decide),fun _=>e,by omega,SI,hk2⟩
   ·exact⟨31,hf 31 (by decide),fun _=>e,by omega,SF,hk2⟩
   ·exact⟨63,hf 63 (by decide),fun _=>e,by omega,Su,hk2⟩
   ·exact⟨127,hf 127 (by decide),fun _=>e,by omega,Rb,hk2⟩
section
variable {prog:Program} {w:World} {A:Around} {E:Value→Shared→Prop} {s:Shared} {a b r:Addr} {ka kb ks:List Int} {k:Int} {tk:Tok}
theorem Pb {n m:Nat} {Q:Unit→Shared→Prop} (ho:s.heap.get? r=some (Bd w)) (hr:∀led:Bool,(SetTable.fresh 0 0 led).roomFor n=if m=7 then none else some (2*n)) (hm:m≠7→SetTable.sizeAbove (2*n)-1=m) (cov:Pk m) (h128:SetTable.sizeAbove (2*n)≤128)
  (h:∀h' o' ep t,Heap.SameBut r s.heap h'→h'.get? r=some o'→o'.ExactSet→o'.data= .set #[] ep t→t.fits 0=true→t.mask=m→t.place.size=0→t.dummies = #[]→t.led = !Bp w→Q () { s with heap:=h' }) :
  wpAny (model prog w) A (setRoomFor r n) Q E s:=by
 unfold setRoomFor
 refine wpAny_bind (wpAny_setState_of ho rfl rfl ?_)
 dsimp only
 rw[hr]
 by_cases z:m=7
 ·rw[if_pos z]
  dsimp only
  have e:s={ s with heap:=s.heap }:=by cases s;rfl
  rw[e]
  exact wpAny_pure (h s.heap _ 0 _ (Heap.SameBut.refl _ _) ho ⟨rfl,rfl,rfl⟩ rfl rfl z.symm rfl rfl rfl)
 ·rw[if_neg z]
  dsimp only
  unfold setRelay
  refine wpAny_bind (wpAny_setState_of ho rfl rfl ?_)
  dsimp only
  rw[if_neg (by have:=sizeLine_eq;omega)]
  have hm':=hm z
  obtain⟨t,order,e1,hp,hdm,hld,hup,hps,hmk⟩:=Lk cov 0 ((SetTable.fresh 0 0 (!Bp w)).movedTo m) (!Bp w) true #[] (Nat.zero_le _) (fun h hh=>by simp at hh)
  have e2:(SetTable.fresh 0 0 (!Bp w)).relaid (Array.map (·.1) (#[]:Array (Int×Value))) (2*n)=some (t,order):=by
   have em:Array.map (·.1) (#[]:Array (Int×Value)) = #[]:=by simp
   unfold SetTable.relaid
   rw[hm',em]
   exact e1
  have hop:(order.filterMap ((#[]:Array (Int×Value))[·]?)) = #[]:=by
   have:=Lu (t:=t) (es:=#[]) (order:=order) hp
   exact Array.toList_inj.mp (List.perm_nil.mp this)
  have hft:t.fits 0=true:=by
   unfold SetTable.fits SetTable.fill
   rw[hps,hdm]
   rfl
  refine wpAny_bind ?_
  rw[e2]
  show wpAny _ _ (if (order.filterMap ((#[]:Array (Int×Value))[·]?)).size != (#[]:Array (Int×Value)).size then _ else _) _ _ _
  rw[hop,if_neg (by simp)]
  refine wpAny_pure ?_
  dsimp only
  refine wpAny_storeSet_of ho rfl ?_ (by simp)
  exact h _ _ _ _ (Heap.SameBut.update _ _ _) (Gj ho rfl) ⟨rfl,rfl,rfl⟩ rfl hft hmk hps hdm hld
theorem KI {Q:Unit→Shared→Prop} (ha:SetIt w s.heap a ka) (ho:s.heap.get? r=some (Bd w)) (hne:r≠a) (h32:∀j∈ka,0≤j∧j<32) (hl:ka.length≤32)
  (h:∀h' k2 m,Heap.SameBut r s.heap h'→SetDr w h' r k2 m 0→k2.Perm ka→ka.length≤m→Q () { s with heap:=h' }) :
  wpAny (model prog w) A (setMerge r a) Q E s:=by
 obtain⟨o,es,ep,t,hoa,hex,hd,hg,hk,nd,hlk,ok,hf⟩:=id ha
 have hsz:=Do hk
 unfold setMerge
 rw[if_neg (by simpa using hne)]
 refine wpAny_bind (wpAny_setState_of hoa hd hf ?_)
 dsimp only
 by_cases hem:es.isEmpty=true
 ·rw[if_pos hem]
  have e0:ka=[]:=List.eq_nil_of_length_eq_zero (by rw[←hsz];exact Array.isEmpty_iff_size_eq_zero.mp hem)
  have e:s={ s with heap:=s.heap }:=by cases s;rfl
  have:=h s.heap [] 7 (Heap.SameBut.refl _ _) ⟨_,#[],0,_,ho,⟨rfl,rfl,rfl⟩,rfl,fun e he=>absurd he (by simp),rfl,List.nodup_nil,by decide,⟨rfl,List.Pairwise.nil⟩,rfl,rfl,Nat.le_refl _⟩ (by rw[e0]) (by rw[e0];decide)
  rw[e]
  exact wpAny_pure this
 ·rw[if_neg hem]
  obtain⟨m,hr,hm,hnm,cov,h128⟩:=Py es.size (by omega)
  refine wpAny_bind (Pb ho hr hm cov h128 fun h1 o1 ep1 t1 sb1 ho1 hex1 hd1 hf1 hm1 hp1 hdm1 hl1=>?_)
  have hoa1:h1.get? a=some o:=by rw[sb1.2 _ (Ne.symm hne)];exact hoa
  refine wpAny_bind (wpAny_setState_of (s:={ s with heap:=h1 }) ho1 hd1 hf1 ?_)
  dsimp only
  have hfill:(t1.fill != 0)=false:=by
   unfold SetTable.fill
   rw[hp1,hdm1]
   rfl
  unfold SetTable.road
  rw[hfill,if_neg Bool.false_ne_true]
  by_cases hc:(t1.mask == t.mask && t.dummies.isEmpty)=true
  ·rw[if_pos hc]
   dsimp only
   obtain⟨c1,c2⟩:=Bool.and_eq_true_iff.mp hc
   refine wpAny_storeSet_of (s:={ s with heap:=h1 }) ho1 hd1 ?_ (fits_of_scanBound (by rw[hsz];exact Cj hlk))
   refine h _ ka m (sb1.trans (Heap.SameBut.update _ _ _)) ⟨_,_,_,_,Gj ho1 hd1,hex1,rfl,hg,hk,nd,hlk,⟨?_,ok.up⟩,hf,?_,?_⟩ (List.Perm.refl _) (by omega)
   ·show (t1.led && t.led)=_
    rw[hl1,ok.led,Bool.and_self]
   ·show t.mask=m
    rw[←hm1]
    exact (beq_iff_eq.mp c1).symm
   ·show t.dummies.size≤0
    rw[Array.isEmpty_iff_size_eq_zero.mp c2]
    exact Nat.le_refl _
  ·rw[if_neg hc]
   dsimp only
   have hsm:(es.map (·.1)).size=es.size:=Array.size_map
   obtain⟨t2,order,e1,hp,hdm,hld,hup,hps,hmk⟩:=Lk cov t1.finger t1.moves (t1.led && t.led) (t1.plain && t.plain) (es.map (·.1)) (by rw[hsm];exact hnm) (fun hh hin=>by
    rw[Array.toList_map] at hin
    obtain⟨e,he,rfl⟩:=List.mem_map.mp hin
    rw[(hg e he).1]
    have:=h32 (A6 e) (by rw[←hk];exact List.mem_map_of_mem he)
    exact KQ this.1 this.2)
   rw[hsm] at hp hps
   rw[hm1]
   have hpe:=Lu (t:=t2) (es:=es) hp
   refine wpAny_bind ?_
   rw[e1]
   have hsz2:(order.filterMap (es[·]?)).size=es.size:=by rw[←Array.length_toList,hpe.length_eq,Array.length_toList]
   show wpAny _ _ (if (order.filterMap (es[·]?)).size != es.size then _ else _) _ _ _
   rw[if_neg (by rw[hsz2];simp)]
   refine wpAny_pure ?_
   dsimp only
   have hkp:=hpe.map A6
   rw[hk] at hkp
   refine wpAny_storeSet_of (s:={ s with heap:=h1 }) ho1 hd1 ?_ (fits_of_scanBound (by rw[hsz2,hsz];exact Cj hlk))
   refine h _ _ m (sb1.trans (Heap.SameBut.update _ _ _)) ⟨_,_,_,_,Gj ho1 hd1,hex1,rfl,fun e he=>hg e (hpe.mem_iff.mp he),rfl,hkp.nodup_iff.mpr nd,by rw[hkp.length_eq];exact hlk,⟨by rw[hld,hl1,ok.led,Bool.and_self],hup⟩,?_,hmk,by rw[hdm];exact Nat.le_refl _⟩ hkp (by omega)
   unfold SetTable.fits SetTable.fill
   rw[hps,hdm,hsz2,hmk,Bool.and_eq_true_iff]
   exact⟨beq_self_eq_true _,decide_eq_true (by simpa using hnm)⟩
end
end L2
namespace L2
open PySem PySem.Spec PyProof.Rows
section
variable {prog:Program} {w:World} {A:Around} {E:Value→Shared→Prop} {s:Shared} {a b r:Addr} {ka kb kr ks:List Int} {k:Int} {tk:Tok}
theorem JZ {id0:String} {m:Nat} {Q:Unit→Shared→Prop} (hr:SetDr w s.heap r kr m 0) (hb:SetIt w s.heap b kb) (hne:r≠b) (hlt:kb.length<kr.length / 4) (hm:kr.length≤m)
  (h:∀h' k2,Heap.SameBut r s.heap h'→SetIt w h' r k2→(∀j,j∈k2↔j∈kr∧j∉kb)→k2.length≤kr.length→Q () { s with heap:=h' }) :
  wpAny (model prog w) A (Builtin.Frozenset.differenceUpdate id0 r (.ref b)) Q E s:=by
 unfold Builtin.Frozenset.differenceUpdate
 rw[if_neg (by intro z;have:=beq_iff_eq.mp z;injection this with this;exact hne this.symm)]
 refine wpAny_bind (Dl hb ?_)
 rw[if_pos rfl]
 obtain⟨o,es,ep,t,ho,hex,hd,hg,hk,nd,hlk,ok,hf⟩:=id hb
 show wpAny _ _ (Builtin.Frozenset.sizeOf b >>= _) _ _ _
 refine wpAny_bind (D0 hb ?_)
 refine wpAny_bind (D0 hr.it ?_)
 rw[if_neg (by omega)]
 refine wpAny_bind (EN ho hd hf ?_)
 refine wpAny_bind (wpAny_holding ?_)
 refine wpAny_bind (M0 hb (fun c hc=>?_) fun es' hg' hp'=>?_)
 ·simp only[List.mem_cons,List.not_mem_nil,or_false] at hc
  subst hc
  exact⟨_,hr.it⟩
 have hsz:es'.size=kb.length:=by rw[←hp'.length_eq,List.length_map,Array.length_toList]
 refine wpAny_bind ?_
 refine wpAny_forIn_array' _ (fun rest _ s'=>∃h1 k1 d,s'={ s with heap:=h1 }∧Heap.SameBut r s.heap h1∧SetDr w h1 r k1 m d∧d+rest.length=kb.length∧EGood rest∧k1.length≤kr.length∧
  (∀j,(j∈k1∧j∉rest.map A6)↔j∈kr∧j∉kb)) _ ?_ ?_ _ _ ⟨s.heap,kr,0,by cases s;rfl,Heap.SameBut.refl _ _,hr,by rw[Array.length_toList,hsz];omega,hg',Nat.le_refl _,fun j=>by rw[hp'.mem_iff]⟩
 ·rintro⟨hh,x⟩ rest u s' ⟨h1,k1,d,rfl,sb,hS,hdl,g,hl,hm⟩
  obtain⟨e1,t',e2⟩:=g _ List.mem_cons_self
  generalize hk:A6 (hh,x)=k at e1 e2
  dsimp only at e1 e2
  subst e1;subst e2
  rw[List.length_cons] at hdl
  refine wpAny_bind (wpAny_holding ?_)
  refine JH (s:={ s with heap:=h1 }) hS fun bb h2 k2 sb2 hS2 hm2 hl2=>?_
  have ho':h2.get? b=some o:=by rw[sb2.2 _ (Ne.symm hne),sb.2 _ (Ne.symm hne)];exact ho
  refine wpAny_bind (Dj (s:={ s with heap:=h2 }) ho' hd hf (wpAny_pure ?_))
  refine⟨h2,k2,d+1,rfl,sb.trans sb2,hS2,by omega,fun y hy=>g y (List.mem_cons_of_mem _ hy),Nat.le_trans hl2 hl,fun j=>?_⟩
  rw[←hm j,hm2 j,List.map_cons,List.mem_cons,hk]
  constructor
  ·rintro⟨⟨z1,z2⟩,z3⟩
   exact⟨z1,fun z=>z.elim z2 z3⟩
  ·rintro⟨z1,z2⟩
   exact⟨⟨z1,fun e=>z2 (.inl e)⟩,fun e=>z2 (.inr e)⟩
 ·rintro u s' ⟨h1,k1,d,rfl,sb,hS,hdl,g,hl,hm2⟩
  refine wpAny_pure ?_
  obtain⟨o1,es1,ep1,t1,ho1,hex1,hd1,hg1,hk1,nd1,hlk1,ok1,hf1,em1,ed1⟩:=id hS
  unfold setTidy
  refine wpAny_bind (wpAny_setState_of (s:={ s with heap:=h1 }) ho1 hd1 hf1 ?_)
  dsimp only
  rw[if_neg (by
   unfold SetTable.tooManyDummies
   rw[em1]
   simp only[List.length_nil] at hdl
   have:¬t1.dummies.size>m / 4:=by omega
   simpa using this)]
  exact wpAny_pure (h h1 k1 sb hS.it (fun j=>by rw[←hm2 j];simp) hl)
theorem Qc {Q:Value→Shared→Prop} (ha:SetIt w s.heap a ka) (hb:SetIt w s.heap b kb) (hab:a≠b) (h32:∀j∈ka,0≤j∧j<32) (hl:ka.length≤32) (hlb:kb.length≤1000)
  (h:∀h' k2,SetIt w h' s.heap.objs.size k2→(∀j,j∈k2↔j∈ka∧j∉kb)→k2.length≤ka.length→(∀c o,s.heap.get? c=some o→h'.get? c=some o)→Q (.ref s.heap.objs.size) { s with heap:=h' }) :
  wpAny (model prog w) A (binaryOp .Sub (.ref a) (.ref b)) Q E s:=by
 refine wpAny_binaryOp_same ha.typeIs hb.typeIs PySem.F.fills_set_sub PySem.F.slot_set_sub ?_
 refine wpAny_call_entry PySem.F.slot_set_sub ha.typeIs F.entry_set_sub ?_ (PySem.F.args_set_sub_2 _ _)
 show wpAny _ _ (do
  let (self,other) ←Builtin.Frozenset.slot1 "__sub__" ⟨[.ref a,.ref b],[]⟩
  let (l,r):=if false=true then (other,self) else (self,other)
  if !(←Builtin.Frozenset.isAnySet l <&&> Builtin.Frozenset.isAnySet r) then rule s!"frozenset.{"__sub__"}.declined";return ←ret .notImplemented
  ret (←Builtin.Frozenset.difference s!"frozenset.{"__sub__"}" (←Builtin.Frozenset.addrOf l) r)) _ _ _
 generalize s!"frozenset.{"__sub__"}"=id0
 generalize s!"frozenset.{"__sub__"}.declined"=id1
 show wpAny _ _ ((Builtin.Frozenset.isAnySet (.ref a) <&&> Builtin.Frozenset.isAnySet (.ref b)) >>= _) _ _ _
 refine wpAny_bind ?_
 show wpAny _ _ (Builtin.Frozenset.isAnySet (.ref a) >>= _) _ _ _
 refine wpAny_bind (Dl ha ?_)
 show wpAny _ _ (Builtin.Frozenset.isAnySet (.ref b)) _ _ _
 refine Dl hb ?_
 simp only[Bool.not_true,Bool.false_eq_true,if_false]
 show wpAny _ _ (Builtin.Frozenset.difference id0 a (.ref b) >>= _) _ _ _
 refine wpAny_bind ?_
 have kk:∀c o,s.heap.get? c=some o→(s.heap.push (Bd w)).get? c=some o:=fun c o e=>Heap.get?_push_of_some _ e
 have ha1:=ha.keep (h':=s.heap.push (Bd w)) fun o e=>kk _ _ e
 have hb1:=hb.keep (h':=s.heap.push (Bd w)) fun o e=>kk _ _ e
 have hr1:SetIs w (s.heap.push (Bd w)) s.heap.objs.size []:=set0_is
 have hr0:(s.heap.push (Bd w)).get? s.heap.objs.size=some (Bd w):=Heap.get?_push_size _ rfl
 have na:a≠s.heap.objs.size:=let ⟨o,_,_,_,ho,_⟩:=ha;DQ ho
 have nb:b≠s.heap.objs.size:=let ⟨o,_,_,_,ho,_⟩:=hb;DQ ho
 have keep:∀h',Heap.SameBut s.heap.objs.size (s.heap.push (Bd w)) h'→∀c o,s.heap.get? c=some o→h'.get? c=some o:=fun h' sb c o e=>by
  rw[sb.2 _ (DQ e)];exact kk c o e
 unfold Builtin.Frozenset.difference
 refine wpAny_bind (Dl hb ?_)
 simp only[Bool.not_true,Bool.false_eq_true,if_false]
 show wpAny _ _ (Builtin.Frozenset.sizeOf b >>= _) _ _ _
 refine wpAny_bind (D0 hb ?_)
 refine wpAny_bind (D0 ha ?_)
 by_cases hbig:ka.length / 4>kb.length
 ·rw[if_pos hbig]
  refine wpAny_bind (wpAny_rule ?_)
  unfold Builtin.Frozenset.copyOf
  refine wpAny_bind (wpAny_bind (D8 ha (wpAny_bind (Gc ?_))))
  show wpAny _ _ (setMerge s.heap.objs.size a >>= _) _ _ _
  refine wpAny_bind (KI (s:={ s with heap:=s.heap.push (Bd w) }) ha1 hr0 (Ne.symm na) h32 hl fun h1 k1 m sb1 hS1 hp1 hm1=>?_)
  refine wpAny_pure ?_
  have hb2:SetIt w h1 b kb:=hb1.keep fun o e=>by rw[sb1.2 _ nb];exact e
  refine wpAny_bind (m:=Builtin.Frozenset.addrOf (Value.ref s.heap.objs.size)) (wpAny_pure ?_)
  refine wpAny_bind (wpAny_holding ?_)
  show wpAny _ _ (Builtin.Frozenset.differenceUpdate id0 s.heap.objs.size (.ref b)) _ _ _
  refine JZ (s:={ s with heap:=h1 }) hS1 hb2 (Ne.symm nb) (by rw[hp1.length_eq];exact hbig) (by rw[hp1.length_eq];exact hm1) fun h2 k2 sb2 hS2 hm2 hl2=>?_
  refine wpAny_pure ?_
  refine wpAny_pure ⟨_,rfl,by simp,?_⟩
  exact h h2 k2 hS2 (fun j=>by rw[hm2 j,hp1.mem_iff]) (by rw[←hp1.length_eq];exact hl2) (keep _ (sb1.trans sb2))
 ·rw[if_neg hbig]
  refine wpAny_bind (D8 ha (wpAny_bind (Gc ?_)))
  show wpAny _ _ (setEpoch a >>= _) _ _ _
  obtain⟨o,es,ep,t,ho,hex,hd,hg,hk,nd,hlk,ok,hf⟩:=id ha1
  refine wpAny_bind (EN (s:={ s with heap:=s.heap.push (Bd w) }) ho hd hf ?_)
  refine wpAny_bind (wpAny_holding ?_)
  simp only[if_true]
  refine wpAny_bind (HJ (s:={ s with heap:=s.heap.push (Bd w) }) ha1 hr1 (fun c hc=>?_) fun es' h' hg' hp' sb hr'=>?_)
  ·simp only[List.mem_cons,List.not_mem_nil,or_false] at hc
   rcases hc with rfl | rfl
   ·exact⟨_,hb1⟩
   ·exact⟨_,hr1.it⟩
  have hsz:es'.size=ka.length:=by rw[←hp'.length_eq,List.length_map,Array.length_toList]
  refine wpAny_bind (wpAny_mono (HF (s:={ s with heap:=h' }) (r:=s.heap.objs.size) (p:=fun j=>decide (j∉kb)) (R:=fun _ s'=>∃h' k2,s'={ s with heap:=h' }∧Heap.SameBut s.heap.objs.size (s.heap.push (Bd w)) h'∧SetIs w h' s.heap.objs.size k2∧(∀j,j∈k2↔j∈ka∧j∉kb)∧k2.length≤ka.length) ?_ hg' hr' (by rw[hsz];simp;omega) fun h2 k2 sb2 hS2 hm2 hl2=>⟨h2,k2,rfl,sb.trans sb2,hS2,fun j=>?_,by rw[hsz] at hl2;simpa using hl2⟩) ?_ fun _ _ h'=>h')
  ·intro k tk h1 k1 Q' sb1 hS1 hl1 hQ
   have hb2:SetIt w h1 b kb:=hb1.keep fun o e=>by rw[sb1.2 _ nb,sb.2 _ nb];exact e
   refine wpAny_bind ?_
   refine wpAny_holding ?_
   refine wpAny_bind (Hr (s:={ s with heap:=h1 }) hb2 fun rr hrr _=>wpAny_bind (wpAny_pure ?_))
   have fin:∀h2 k2,Heap.SameBut s.heap.objs.size h1 h2→SetIs w h2 s.heap.objs.size k2→(∀j,j∈k2↔j∈k1∨(decide (k∉kb)=true∧j=k))→k2.length≤k1.length+1→wpAny (model prog w) A.in1 (Builtin.Frozenset.unchanged id0 a ep >>= fun _=>pure (ForInStep.yield PUnit.unit)) Q' E { s with heap:=h2 }:=fun h2 k2 sb' hS' hm' hl'=>by
    have ho':h2.get? a=some o:=by rw[sb'.2 _ na,sb1.2 _ na,sb.2 _ na];exact ho
    exact wpAny_bind (Dj (s:={ s with heap:=h2 }) ho' hd hf (wpAny_pure (hQ h2 k2 sb' hS' hm' hl')))
   by_cases hmem:k∈kb
   ·rw[hrr,decide_eq_true hmem,if_neg (by decide)]
    refine wpAny_pure ?_
    exact fin h1 k1 (Heap.SameBut.refl _ _) hS1 (fun j=>by rw[decide_eq_false (fun z=>z hmem)];simp) (Nat.le_succ _)
   ·rw[hrr,decide_eq_false hmem,if_pos (by decide)]
    refine wpAny_bind (FZ (s:={ s with heap:=h1 }) hS1 hl1 fun h2 k2 sb' hS' hm' hl'=>wpAny_pure ?_)
    exact fin h2 k2 sb' hS' (fun j=>by rw[hm' j,decide_eq_true hmem];simp) hl'
  ·rw[hm2 j,hp'.mem_iff,decide_eq_true_eq]
   simp[and_comm]
  ·rintro u s' ⟨h2,k2,rfl,sb',hS',hm',hl'⟩
   refine wpAny_pure ?_
   refine wpAny_pure ?_
   refine wpAny_pure ⟨_,rfl,by simp,?_⟩
   exact h h2 k2 hS'.it hm' hl' (keep _ sb')
end
end L2
namespace L2
open PySem PySem.Spec PyProof.Rows
theorem EG:∀{us:List Value} {ns:List Int},Vals (ns.map V.int) us→IntsAre us ns
 | _,[],h=>by cases h;exact .nil
 | _,n::ns,h=>by
  cases h with
  | cons r t=>obtain⟨k,rfl⟩:=r;exact .cons n k (EG t)
theorem D9:∀{l1 l2:List Int},l1.Nodup→(∀x∈l1,x∈l2)→l1.length≤l2.length
 | [],_,_,_=>Nat.zero_le _
 | x::l1,l2,nd,h=>by
  have nd':=List.nodup_cons.mp nd
  have hx:=h x List.mem_cons_self
  have ih:=D9 (l1:=l1) (l2:=l2.erase x) nd'.2 fun y hy=>(List.mem_erase_of_ne (show y≠x from fun e=>nd'.1 (e ▸ hy))).mpr (h y (List.mem_cons_of_mem _ hy))
  rw[List.length_erase_of_mem hx] at ih
  have:0<l2.length:=List.length_pos_of_mem hx
  rw[List.length_cons]
  omega
theorem SetIs.nd {w:World} {h:Heap} {a:Addr} {ks:List Int} (x:SetIs w h a ks):ks.Nodup:=let ⟨_,_,_,_,_,_,_,_,_,nd,_⟩:=x;nd
section
variable {X:Cx}
theorem Eb (hc:X.calm=true):BT X (.type "set") (fun xs H Q=>∃(l:Addr) (ns:List Int),xs=[.ref l]∧SqL X.K H l (ns.map V.int)∧ns.length<1000∧∀a,H a=none→Q (.ref a) (upd H a (Bh X.w a (fun k=>decide (k∈ns)) ns.length))):=by
 intro pins s σ H xs us Q I r h
 obtain⟨l,ns,rfl,hq,hn,q⟩:=h
 obtain⟨u,rfl,ru⟩:=DG r
 cases ru
 obtain⟨its,rv,pl,hz⟩:=I.list hq
 have hlen:its.length=ns.length:=by rw[←rv.length,List.length_map]
 refine MV (w:=X.w) (ns:=ns) (I.ok.hd hc) pl.isList (by rw[List.toList_toArray];exact EG rv) (by rw[List.size_toArray];omega) fun h' tk ks hS hm hl kk=>?_
 refine⟨.ref s.heap.objs.size,_,I.laid (t':=tk) (o:=Bh X.w s.heap.objs.size (fun k=>decide (k∈ns)) ns.length) kk (Nat.le_refl _) ?_,rfl,q _ (I.hok.fresh (Nat.le_refl _))⟩
 exact DU hS (fun k=>by rw[decide_eq_true_eq];exact (hm k).symm) hl
theorem P7:Eh X (binaryOp .BitAnd) (fun x y H Q=>∃(a b:Addr) (S T:Int→Bool) (n m:Nat),x= .ref a∧y= .ref b∧H a=some (Bh X.w a S n)∧H b=some (Bh X.w b T m)∧a≠b∧n+m<1990∧
  ∀r,H r=none→Q (.ref r) (upd H r (Bh X.w r (fun k=>S k && T k) n))):=by
 intro pins s σ H x y v u Q I rx ry h
 obtain⟨a,b,S,T,n,m,rfl,rfl,ha,hb,hne,hnm,q⟩:=h
 cases rx
 cases ry
 obtain⟨ka,hSa,hma,hla⟩:=I.setO ha
 obtain⟨kb,hSb,hmb,hlb⟩:=I.setO hb
 refine PH (w:=X.w) hSa.it hSb.it hne (by omega) fun h' k2 hS hm hl kk=>?_
 refine⟨.ref s.heap.objs.size,_,I.laid (t':=s.toks) (o:=Bh X.w s.heap.objs.size (fun k=>S k && T k) n) kk (Nat.le_refl _) ?_,rfl,q _ (I.hok.fresh (Nat.le_refl _))⟩
 refine DU hS (fun k=>by rw[Bool.and_eq_true,hma,hmb,hm k]) (Nat.le_trans (D9 hS.nd fun y hy=>((hm y).mp hy).1) hla)
theorem Qx:Eh X (binaryOp .Sub) (fun x y H Q=>∃(a b:Addr) (S T:Int→Bool) (n m:Nat),x= .ref a∧y= .ref b∧H a=some (Bh X.w a S n)∧H b=some (Bh X.w b T m)∧a≠b∧n≤32∧m≤1000∧(∀k,S k=true→0≤k∧k<32)∧
  ∀r,H r=none→Q (.ref r) (upd H r (MD X.w r (fun k=>S k && !T k) n))):=by
 intro pins s σ H x y v u Q I rx ry h
 obtain⟨a,b,S,T,n,m,rfl,rfl,ha,hb,hne,hn,hm',h32,q⟩:=h
 cases rx
 cases ry
 obtain⟨ka,hSa,hma,hla⟩:=I.setO ha
 obtain⟨kb,hSb,hmb,hlb⟩:=I.setO hb
 refine Qc (w:=X.w) hSa.it hSb.it hne (fun j hj=>h32 j ((hma j).mpr hj)) (by omega) (by omega) fun h' k2 hS hm hl kk=>?_
 refine⟨.ref s.heap.objs.size,_,I.laid (t':=s.toks) (o:=MD X.w s.heap.objs.size (fun k=>S k && !T k) n) kk (Nat.le_refl _) ?_,rfl,q _ (I.hok.fresh (Nat.le_refl _))⟩
 refine QL hS (fun k=>?_) (by omega)
 rw[Bool.and_eq_true,hma,hm k,Bool.not_eq_true',←Bool.not_eq_true,hmb]
end
end L2
namespace L2
open PySem PySem.Spec PyProof.Rows
section
variable {X:Cx} {tg:Expr} {acc:Value}
theorem O2 {pins:List (Addr×Obj)} {s:Shared} {σ:St} {H:Hp} {a:Addr} {S:Int→Bool} {n:Nat} {k:Int} {tk:Tok} {E:Value→Shared→Prop} (I:Inv X pins σ H s) (ha:H a=some (Bh X.w a S n)) (hn:n+1<2000) :
  wpAny (model X.prog X.w) X.A (call (.builtin "set.add") [.ref a,.int k tk]) (fun _ s'=>Inv X pins σ (upd H a (Bh X.w a (fun j=>S j || decide (j=k)) (n+1))) s') E s:=by
 obtain⟨ks2,hS2,hm2,hl2⟩:=I.setO ha
 refine J5 (w:=X.w) hS2 (by omega) fun h' ks' hsb hS' hm' hl'=>?_
 have mu:R5 (H a):=by rw[ha];exact True.intro
 refine I.write (x:=a) (e:=a) (t':=s.toks+1) mu (.inl rfl) (fun b ob nb eb=>(hsb.2 b nb).trans eb) (let ⟨o,_,_,_,ho,_⟩:=hS';⟨o,ho⟩) (DU hS' (fun j=>?_) (by omega))
 rw[hm' j,Bool.or_eq_true,decide_eq_true_eq,hm2 j]
def IG (X:Cx) (ifs:List Expr) (elt:Expr) (acc:Value):Px:=fun Qa s=>wpAny (model X.prog X.w) X.A (Gd ifs X.env) (fun ok s1=>if ok=true then wpAny (model X.prog X.w) X.A (eval elt X.env) (fun x s2=>wpAny (model X.prog X.w) X.A (call (.builtin "set.add") [acc,x]) (fun _ s3=>Qa s3) Et s2) Et s1 else Qa s1) Et s
def IF (w:World) (acc:Addr) (te:TE):TS:=fun D σ H=>te σ H fun x H1=>∃k S n,x= .int k∧H1 acc=some (Bh w acc S n)∧n+1<2000∧D.nx σ (upd H1 acc (Bh w acc (fun j=>S j || decide (j=k)) (n+1)))
theorem NZ {ifs:List Expr} {elt:Expr} {ac:Addr} {tc:TT} {te:TE} (hxe:X.xe=Et) (hi:Nc X ifs tc) (he:PE X elt te):PB X (IG X ifs elt (.ref ac)) (Dw tc (IF X.w ac te)) where
 mono:=fun Qa Qb s hq h=>AS h fun ok s1 h1=>by
  cases ok with
  | false=>exact hq _ h1
  | true=>exact AS h1 fun x s2 h2=>AS h2 fun _ s3 h3=>hq _ h3
 run:=fun pins s σ H D I h=>by
  have h1:=hi pins s σ H _ I h
  rw[hxe] at h1
  refine AS h1 fun ok s1 ⟨H1,I1,q1⟩=>?_
  cases ok with
  | false=>exact⟨σ,H1,I1,q1⟩
  | true=>
   have q1':IF X.w ac te D σ H1:=q1
   have h2:=he pins s1 σ H1 _ I1 q1'
   rw[hxe] at h2
   refine AS h2 fun u s2 ⟨x,H2,I2,r2,k,S,n,ex,hl,hz,q2⟩=>?_
   subst ex
   obtain⟨tk,rfl⟩:=r2
   exact AS (O2 (E:=Et) I2 hl hz) fun _ s3 I3=>⟨σ,_,I3,q2⟩
theorem I9 (elt tg0 iter0 tg iter:Expr) (ifs0 ifs:List Expr) (scope:Scope) (pos:Pos) (it acc:Value) (env:Env) :
  compTurn (.SetComp elt [⟨tg0,iter0,ifs0,0⟩,⟨tg,iter,ifs,0⟩] scope pos) 1 it acc env=(do
   standAt iter.pos
   match ←pyNext it with
   | none=>pure (.done .next)
   | some v=>
    letOwnedTupleGo tg it v
    assign tg env v
    let mut ok:=true
    for c in ifs do
     if ok then ok ←isTrue c env (eval c env)
    if ok then
     (do let v ←eval elt env;standAt elt.pos;let _ ←call (.builtin "set.add") [acc,v])
    again (.compLoop (.SetComp elt [⟨tg0,iter0,ifs0,0⟩,⟨tg,iter,ifs,0⟩] scope pos) 1 it acc env)):=by rfl
theorem RY {elt tg0 iter0 iter:Expr} {ifs0 ifs:List Expr} {scope:Scope} {pos:Pos} {itv:Value}:HT X (.SetComp elt [⟨tg0,iter0,ifs0,0⟩,⟨tg,iter,ifs,0⟩] scope pos) 1 itv acc tg (IG X ifs elt acc):=by
 intro s Qd Qa h
 rw[I9]
 refine wpAny_bind (wpAny_standAt (wpAny_bind (AS h fun r s₁ h₁=>?_)))
 cases r with
 | none=>exact wpAny_pure ⟨rfl,h₁⟩
 | some v=>
  refine wpAny_bind (AS h₁ fun _ s2 h2=>wpAny_bind (AS h2 fun _ s3 h3=>wpAny_bind (AS h3 fun ok s4 h4=>?_)))
  cases ok with
  | false=>exact wpAny_pure ⟨rfl,h4⟩
  | true=>exact wpAny_bind (wpAny_bind (AS h4 fun x s₄ h₄=>wpAny_bind (wpAny_standAt (wpAny_bind (AS h₄ fun _ s₅ h₅=>wpAny_pure (wpAny_pure ⟨rfl,h₅⟩))))))
theorem Hx (elt tg iter tg1 iter1:Expr) (ifs ifs1:List Expr) (scope:Scope) (pos:Pos) (it acc:Value) (env:Env) :
  compTurn (.SetComp elt [⟨tg,iter,ifs,0⟩,⟨tg1,iter1,ifs1,0⟩] scope pos) 0 it acc env=(do
   standAt iter.pos
   match ←pyNext it with
   | none=>pure (.done .next)
   | some v=>
    letOwnedTupleGo tg it v
    assign tg env v
    let mut ok:=true
    for c in ifs do
     if ok then ok ←isTrue c env (eval c env)
    if ok then
     let x ←eval iter1 env
     standAt iter1.pos
     let x ←foldedSetIterable iter1 env x
     let _ ←runOwn (.compStart (.SetComp elt [⟨tg,iter,ifs,0⟩,⟨tg1,iter1,ifs1,0⟩] scope pos) 1 (←holding [x] (pyIter x)) acc env) env
    again (.compLoop (.SetComp elt [⟨tg,iter,ifs,0⟩,⟨tg1,iter1,ifs1,0⟩] scope pos) 0 it acc env)):=by rfl
theorem QP {elt iter tg1 iter1:Expr} {ifs ifs1:List Expr} {scope:Scope} {pos:Pos} {itv:Value} (hs:∀x,foldedSetIterable iter1 X.env x=pure x) :
  HT X (.SetComp elt [⟨tg,iter,ifs,0⟩,⟨tg1,iter1,ifs1,0⟩] scope pos) 0 itv acc tg (Ic X ifs (.SetComp elt [⟨tg,iter,ifs,0⟩,⟨tg1,iter1,ifs1,0⟩] scope pos) iter1 acc):=by
 intro s Qd Qa h
 rw[Hx]
 refine wpAny_bind (wpAny_standAt (wpAny_bind (AS h fun r s₁ h₁=>?_)))
 cases r with
 | none=>exact wpAny_pure ⟨rfl,h₁⟩
 | some v=>
  refine wpAny_bind (AS h₁ fun _ s2 h2=>wpAny_bind (AS h2 fun _ s3 h3=>wpAny_bind (AS h3 fun ok s4 h4=>?_)))
  cases ok with
  | false=>exact wpAny_pure ⟨rfl,h4⟩
  | true=>
   refine wpAny_bind (AS h4 fun x s₄ h₄=>wpAny_bind (wpAny_standAt (wpAny_bind (wpAny_of_eq (hs x) (wpAny_bind (wpAny_holding (AS h₄ fun it s₅ h₅=>?_)))))))
   refine wpAny_bind (wpAny_runOwn (codeAny_mono h₅ fun r s₆ h₆=>?_))
   obtain⟨rfl,h₆⟩:=h₆
   exact wpAny_pure ⟨rfl,h₆⟩
theorem P3 {elt iter tg1 iter1:Expr} {ifs ifs1:List Expr} {scope:Scope} {pos:Pos} {ac:Addr} {tc:TT} {wi1:TI} {g1:TG} {tb1:TS} (hxe:X.xe=Et) (hc:X.calm=true)
  (hi:Nc X ifs tc) (hI:PI X tg1 iter1 wi1) (hg1:PG X tg1 g1) (hb1:PB X (IG X ifs1 elt (.ref ac)) tb1) :
  PB X (Ic X ifs (.SetComp elt [⟨tg,iter,ifs,0⟩,⟨tg1,iter1,ifs1,0⟩] scope pos) iter1 (.ref ac)) (Dw tc (Kk wi1 g1 tb1)) where
 mono:=fun Qa Qb s hq h=>AS h fun ok s1 h1=>by
  cases ok with
  | false=>exact hq _ h1
  | true=>exact AS h1 fun x s2 h2=>AS h2 fun it s3 h3=>codeAny_mono h3 fun r s4 h4=>⟨h4.1,hq _ h4.2⟩
 run:=fun pins s σ H D I h=>by
  have h1:=hi pins s σ H _ I h
  rw[hxe] at h1
  refine AS h1 fun ok s1 ⟨H1,I1,q1⟩=>?_
  cases ok with
  | false=>exact⟨σ,H1,I1,q1⟩
  | true=>
   have q1':Kk wi1 g1 tb1 D σ H1:=q1
   have h2:=hI pins s1 σ H1 _ I1 q1'
   rw[hxe] at h2
   refine AS h2 fun u s2 h3=>AS h3 fun itv s3 h4=>?_
   obtain⟨it,fp,tn,J,H3,e,I3,T,st3,f3,hR⟩:=h4
   subst e
   have loop:=Da (e:=.SetComp elt [⟨tg,iter,ifs,0⟩,⟨tg1,iter1,ifs1,0⟩] scope pos) (d:=1) (D:=D) hxe hc RY rfl rfl rfl T hg1 hb1 I3 st3 f3 hR
   exact Ca (X:=X) rfl rfl rfl (fun _=>rfl) True.intro loop (T.self _ 0 s3 _ _ st3 loop)
end
def Om (w:World) (wi:TI) (js:List (Option Nat)) (g:CC→TG) (tb:CC→Addr→TS):TE:=fun σ H Q=>wi σ H fun J H1=>∀(c:CC) (acc:Addr),H1 acc=none→
 Eu J (g c) (tb c acc) { nx:=fun _ H'=>Q (.ref acc) H',rt:=fun _ _=>False } (sub js σ) (upd H1 acc (Bh w acc (fun _=>false) 0))
section
variable {X:Cx} {N:List Str} {scope:Scope} {cl:List (Str×Addr)} {js:List (Option Nat)} {elt tg iter:Expr} {ifs:List Expr} {rest:List Comprehension} {pos:Pos} {wi:TI} {g:CC→TG} {tb:CC→Addr→TS}
theorem Mb {WB:CC→Value→Px} (hxe:X.xe=Et) (hc:X.calm=true) (hi:PI X tg iter wi) (hs:∀x,foldedSetIterable iter X.env x=pure x) (hclos:closureFor scope X.env=pure cl) (hk:scope.kind= .function)
  (hnames:∀x∈scope.names,x.2= .local→scope.names.lookup x.1=some .local) (hcell:∀x∈scope.names,x.2≠.cell)
  (hcl:∀p∈cl,X.env.cells.lookup p.1=some p.2) (hcn:∀x,((relabel scope X.env).names.lookup x=some .cell∨(relabel scope X.env).names.lookup x=some .free)→∃c,cl.lookup x=some c)
  (hsh:Go X N scope js) (hl:js.length=N.length)
  (ht:∀c it ac,HT (X.cmp N scope cl c) (.SetComp elt (⟨tg,iter,ifs,0⟩::rest) scope pos) 0 it ac tg (WB c ac))
  (hg:∀c,PG (X.cmp N scope cl c) tg (g c)) (hb:∀c ac,PB (X.cmp N scope cl c) (WB c (.ref ac)) (tb c ac)) :
  PE X (.SetComp elt (⟨tg,iter,ifs,0⟩::rest) scope pos) (Om X.w wi js g tb):=by
 intro pins s σ H Q I h
 rw[arm_eval_SetComp]
 have h0:=hi pins s σ H _ I h
 refine wpAny_comprehension_free (use:=none) (cl:=cl) rfl hs hclos hk hnames (AS h0 fun v s1 h1=>AS h1 fun itv s2 h2=>?_)
 obtain⟨it,fp,tn,J,H2,e,I2,T,st2,f2,hR⟩:=h2
 subst e
 refine Gc (wpAny_newFunctionEnv hcell (by intro y hy;simp at hy) (fun h₁ hns₁ hsb₁=>?_) hk)
 dsimp only at hns₁ hsb₁ ⊢
 have I3:=I2.laid (t':=s2.toks) (h':=s2.heap.push (Bd X.w)) (o:=Bh X.w s2.heap.objs.size (fun _=>false) 0) (fun b ob e=>Heap.get?_push_of_some _ e) (Nat.le_refl _) (DU set0_is (fun k=>by simp) (Nat.le_refl _))
 have fpl:∀b∈fp,b<s2.heap.objs.size:=fun b hb=>by
  obtain⟨o,e,_⟩:=T.obj 0 _ st2 b hb
  exact Heap.lt_size e
 have fpa:∀b∈fp,b≠s2.heap.objs.size:=fun b hb=>Nat.ne_of_lt (fpl b hb)
 have f3:∀b∈fp,De X pins (upd H2 s2.heap.objs.size (Bh X.w s2.heap.objs.size (fun _=>false) 0)) b:=fun b hb=>⟨by rw[Ax (fpa b hb)];exact (f2 b hb).1,(f2 b hb).2⟩
 have hR':=hR ⟨{ s2 with heap:=s2.heap.push (Bd X.w) },upd H2 s2.heap.objs.size (Bh X.w s2.heap.objs.size (fun _=>false) 0),fp⟩ s2.heap.objs.size I2.fresh
 have I4:=I3.cmp (N:=N) (cl:=cl) (js:=js) (t':=s2.toks) f3 (fun b hb=>by
  show b<(s2.heap.push _).objs.size
  rw[Heap.size_push]
  exact Nat.lt_succ_of_lt (fpl b hb)) hk hcl hcn hsh hl hns₁ hsb₁
 have st4:tn 0 h₁:=T.keep 0 _ _ st2 fun b hb o e=>(hsb₁.2 b (by
  rw[Heap.size_push]
  exact Nat.ne_of_lt (Nat.lt_succ_of_lt (fpl b hb)))).trans (Heap.get?_push_of_some _ (Heap.get?_push_of_some _ e))
 have f4:∀b∈fp,De (X.cmp N scope cl ⟨{ s2 with heap:=s2.heap.push (Bd X.w) },upd H2 s2.heap.objs.size (Bh X.w s2.heap.objs.size (fun _=>false) 0),fp⟩) [] (upd H2 s2.heap.objs.size (Bh X.w s2.heap.objs.size (fun _=>false) 0)) b:=fun b hb=>
  ⟨(f3 b hb).1,(I4.ok.exf b hb).1,I4.ok.exfs b hb,.inl hb,(I4.ok.exf b hb).2,fun p hp=>absurd (show p∈([]:List (Addr×Obj)) from hp) (by simp)⟩
 have loop:=codeAny_mono (Da (X:=X.cmp N scope cl ⟨{ s2 with heap:=s2.heap.push (Bd X.w) },upd H2 s2.heap.objs.size (Bh X.w s2.heap.objs.size (fun _=>false) 0),fp⟩) (e:=.SetComp elt (⟨tg,iter,ifs,0⟩::rest) scope pos) (d:=0) (acc:=.ref s2.heap.objs.size) (pins:=[]) hxe hc (ht _ _ _) rfl rfl rfl T (hg _) (hb _ _) I4 st4 f4 hR') (R':=compPost (model X.prog X.w) X.A X.xe none (EP X pins σ Q) (.ref s2.heap.objs.size) (s2.heap.push (Bd X.w)).objs.size) (fun r s' hq=>by
  obtain⟨rfl,σ',H',J',q⟩:=hq
  obtain⟨m,hn,_⟩:=id J'.loc
  exact⟨m,hn,fun h'' hs''=>⟨.ref s2.heap.objs.size,H',I3.uncmp f3 J' hs'',rfl,q⟩⟩)
 exact Ca (X:=X.cmp N scope cl ⟨{ s2 with heap:=s2.heap.push (Bd X.w) },upd H2 s2.heap.objs.size (Bh X.w s2.heap.objs.size (fun _=>false) 0),fp⟩) rfl rfl rfl (fun _=>rfl) True.intro loop (T.self _ 0 _ _ _ st4 loop)
variable {tg1 iter1:Expr} {ifs1:List Expr} {wi1:CC→TI} {g1:CC→TG} {tc tc1:CC→TT} {te:CC→TE}
theorem MJ (h:CompOk X N scope cl js) (hi:PI X tg iter wi) (hg:∀c,PG (X.cmp N scope cl c) tg (g c)) (hif:∀c,Nc (X.cmp N scope cl c) ifs (tc c))
  (hi1:∀c,PI (X.cmp N scope cl c) tg1 iter1 (wi1 c)) (hg1:∀c,PG (X.cmp N scope cl c) tg1 (g1 c)) (hif1:∀c,Nc (X.cmp N scope cl c) ifs1 (tc1 c)) (he:∀c,PE (X.cmp N scope cl c) elt (te c))
  (hs1:∀c x,foldedSetIterable iter1 (X.cmp N scope cl c).env x=pure x:=by intro _ _;rfl)
  (hxe:X.xe=Et:=by rfl) (hc:X.calm=true:=by rfl) (hs:∀x,foldedSetIterable iter X.env x=pure x:=by intro _;rfl) :
  PE X (.SetComp elt [⟨tg,iter,ifs,0⟩,⟨tg1,iter1,ifs1,0⟩] scope pos) (Om X.w wi js g fun c ac=>Dw (tc c) (Kk (wi1 c) (g1 c) (Dw (tc1 c) (IF X.w ac (te c))))):=
 Mb (WB:=fun c ac=>Ic (X.cmp N scope cl c) ifs (.SetComp elt [⟨tg,iter,ifs,0⟩,⟨tg1,iter1,ifs1,0⟩] scope pos) iter1 ac) hxe hc hi hs h.clos h.kind h.names h.cell h.ccl h.hcn h.shr h.len (fun c it ac=>QP (hs1 c)) hg
  fun c ac=>P3 (X:=X.cmp N scope cl c) hxe hc (hif c) (hi1 c) (hg1 c) (NZ (X:=X.cmp N scope cl c) hxe (hif1 c) (he c))
end
end L2
namespace L2
open PySem PySem.Spec PyProof.Rows
section
variable {X:Cx}
theorem IH (hc:X.calm=true):BT X (.builtin "sorted") (fun xs H Q=>∃a S n,xs=[.ref a]∧H a=some (Bh X.w a S n)∧(∀k,S k=true→0≤k∧k<32)∧∀(l:Addr) (ns:List Int),H l=none→ns.Pairwise (· < ·)→(∀k,k∈ns↔S k=true)→Q (.ref l) (upd H l (.lst (ns.map V.int)))):=by
 intro pins s σ H xs us Q I r h
 obtain⟨a,S,n,rfl,ha,hn,q⟩:=h
 obtain⟨u,rfl,ru⟩:=DG r
 cases ru
 obtain⟨ks,hS,hm,hl⟩:=I.setO ha
 have h32:ks.length≤32:=by
  have:=D9 (l2:=(List.range 32).map Int.ofNat) hS.nd fun y hy=>by
   obtain⟨h1,h2⟩:=hn y ((hm y).mpr hy)
   obtain⟨m,e⟩:=Int.eq_ofNat_of_zero_le h1
   exact List.mem_map.mpr ⟨m,List.mem_range.mpr (by omega),e.symm⟩
  rw[List.length_map,List.length_range] at this
  exact this
 exact DI (n:=32) hc I hS.it hm h32 (by decide) q
end
end L2
namespace L2
open PySem PySem.Spec PyProof.Rows
def DS (K:PySem.W.Frag) (H:Hp):Nat→V→V→Prop
 | 0,v,u=>v=u∧((∃k,v= .int k)∨(∃b,v= .bl b)∨v= .non)
 | n+1,v,u=>(v=u∧((∃k,v= .int k)∨(∃b,v= .bl b)∨v= .non))∨∃a b xs ys,v= .ref a∧u= .ref b∧xs.length=ys.length∧(∀(i:Nat) x y,xs[i]? = some x→ys[i]? = some y→DS K H n x y)∧((SqL K H a xs∧SqL K H b ys)∨(SqT K H a xs∧SqT K H b ys))
section
variable {X:Cx} {pins:List (Addr×Obj)} {σ:St} {H:Hp} {s:Shared}
theorem L5 {A:Around} {v u:V} {v' u':Value} (e:v=u) (h:(∃k,v= .int k)∨(∃b,v= .bl b)∨v= .non) (r1:RelV v v') (r2:RelV u u'):SeqAt.EqAt A s v' u' true:=by
 subst e
 rcases h with⟨k,rfl⟩|⟨b,rfl⟩|rfl
 ·obtain⟨t,rfl⟩:=r1
  obtain⟨t2,rfl⟩:=r2
  intro prog w E Q hq
  exact wpAny_eqBool_int (by rw[beq_self_eq_true];exact hq)
 ·cases r1
  cases r2
  exact SeqAt.EqAt.same _
 ·cases r1
  cases r2
  exact SeqAt.EqAt.same _
theorem Cz (n:Nat):(List.range n).all (fun _=>true)=true:=by simp
theorem Q2:∀(n:Nat) {A:Around},A.units+n<cLine→Inv X pins σ H s→(∀(v u:V) (v' u':Value),DS X.K H n v u→RelV v v'→RelV u u'→SeqAt.EqAt A s v' u' true)
 | 0,A,hu,I=>fun v u v' u' h r1 r2=>L5 h.1 h.2 r1 r2
 | n+1,A,hu,I=>fun v u v' u' h r1 r2=>by
  rcases h with h | ⟨a,b,xs,ys,rfl,rfl,hl,hx,hk⟩
  ·exact L5 h.1 h.2 r1 r2
  cases r1
  cases r2
  by_cases hab:a=b
  ·subst hab
   exact SeqAt.EqAt.same _
  have ih:=Q2 n (A:=A.in1) (by show A.units+1+n<cLine;omega) I
  rcases hk with⟨h1,h2⟩|⟨h1,h2⟩
  ·obtain⟨its,q1,pl,_⟩:=I.list h1
   obtain⟨its2,q2,pl2,_⟩:=I.list h2
   have l1:=q1.length
   have l2:=q2.length
   have:=SeqAt.RcAt.lists (e:=fun _=>true) (A:=A) pl.isList pl2.isList (by simp;omega) (by omega) (fun j j1 j2=>by
    have j1':j<its.length:=by simpa using j1
    have j2':j<its2.length:=by simpa using j2
    have hx1:xs[j]? = some xs[j]:=List.getElem?_eq_getElem (by omega)
    have hy1:ys[j]? = some ys[j]:=List.getElem?_eq_getElem (by omega)
    obtain⟨u1,e1,ru1⟩:=q1.get hx1
    obtain⟨u2,e2,ru2⟩:=q2.get hy1
    have e1':its.toArray[j]=u1:=by
     have:=List.getElem?_eq_getElem j1'
     rw[this] at e1
     simpa using Option.some.inj e1
    have e2':its2.toArray[j]=u2:=by
     have:=List.getElem?_eq_getElem j2'
     rw[this] at e2
     simpa using Option.some.inj e2
    rw[e1',e2']
    exact ih _ _ _ _ (hx j _ _ hx1 hy1) ru1 ru2)
   rw[Cz] at this
   exact SeqAt.EqAt.of_refs hab this
  ·obtain⟨its,q1,pl,_⟩:=I.tuple h1
   obtain⟨its2,q2,pl2,_⟩:=I.tuple h2
   have l1:=q1.length
   have l2:=q2.length
   have:=SeqAt.RcAt.tuples (e:=fun _=>true) (A:=A) pl pl2 (by omega) (fun j j1 j2=>by
    have j1':j<its.length:=by simpa using j1
    have j2':j<its2.length:=by simpa using j2
    have hx1:xs[j]? = some xs[j]:=List.getElem?_eq_getElem (by omega)
    have hy1:ys[j]? = some ys[j]:=List.getElem?_eq_getElem (by omega)
    obtain⟨u1,e1,ru1⟩:=q1.get hx1
    obtain⟨u2,e2,ru2⟩:=q2.get hy1
    have e1':its.toArray[j]=u1:=by
     have:=List.getElem?_eq_getElem j1'
     rw[this] at e1
     simpa using Option.some.inj e1
    have e2':its2.toArray[j]=u2:=by
     have:=List.getElem?_eq_getElem j2'
     rw[this] at e2
     simpa using Option.some.inj e2
    rw[e1',e2']
    exact ih _ _ _ _ (hx j _ _ hx1 hy1) ru1 ru2)
   rw[Cz,Bool.true_and,show (its.toArray.size == its2.toArray.size)=true by simp;omega] at this
   exact SeqAt.EqAt.of_refs hab this
theorem OD {n:Nat} {A:Around} (hu:A.units+n<cLine) (I:Inv X pins σ H s) {xs ys:List V} {its its2:List Value} (q1:Vals xs its) (q2:Vals ys its2) (hl:xs.length=ys.length) (hx:∀(i:Nat) x y,xs[i]? = some x→ys[i]? = some y→DS X.K H n x y) :
  ∀j (h1:j<its.toArray.size) (h2:j<its2.toArray.size),SeqAt.EqAt A s its.toArray[j] its2.toArray[j] true:=fun j j1 j2=>by
 have l1:=q1.length
 have l2:=q2.length
 have j1':j<its.length:=by simpa using j1
 have j2':j<its2.length:=by simpa using j2
 have hx1:xs[j]? = some xs[j]:=List.getElem?_eq_getElem (by omega)
 have hy1:ys[j]? = some ys[j]:=List.getElem?_eq_getElem (by omega)
 obtain⟨u1,e1,ru1⟩:=q1.get hx1
 obtain⟨u2,e2,ru2⟩:=q2.get hy1
 have e1':its.toArray[j]=u1:=by
  have:=List.getElem?_eq_getElem j1'
  rw[this] at e1
  simpa using Option.some.inj e1
 have e2':its2.toArray[j]=u2:=by
  have:=List.getElem?_eq_getElem j2'
  rw[this] at e2
  simpa using Option.some.inj e2
 rw[e1',e2']
 exact Q2 n hu I _ _ _ _ (hx j _ _ hx1 hy1) ru1 ru2
def Ud (K:PySem.W.Frag) (r:Bool):R2:=fun x y H Q=>∃a b xs ys,x= .ref a∧y= .ref b∧xs.length=ys.length∧(∀(i:Nat) x y,xs[i]? = some x→ys[i]? = some y→DS K H 3 x y)∧((SqL K H a xs∧SqL K H b ys)∨(SqT K H a xs∧SqT K H b ys))∧Q (.bl r) H
theorem NU (hu:X.A.units+9<cLine):Eh X (compareOp .NotEq) (Ud X.K false):=by
 intro pins s σ H x y v u Q I rx ry h
 obtain⟨a,b,xs,ys,rfl,rfl,hl,hx,hk,q⟩:=h
 cases rx
 cases ry
 rcases hk with⟨h1,h2⟩|⟨h1,h2⟩
 ·obtain⟨its,q1,pl,_⟩:=I.list h1
  obtain⟨its2,q2,pl2,_⟩:=I.list h2
  have l1:=q1.length
  have l2:=q2.length
  refine SeqAt.RcNeAt.lists (e:=fun _=>true) pl.isList pl2.isList (by simp;omega) (by omega) (OD (A:=X.A.in1) (by show X.A.units+1+3<cLine;omega) I q1 q2 hl hx) _ _ _ _ ?_
  rw[Cz]
  exact⟨.bl false,H,I,rfl,q⟩
 ·obtain⟨its,q1,pl,_⟩:=I.tuple h1
  obtain⟨its2,q2,pl2,_⟩:=I.tuple h2
  have l1:=q1.length
  have l2:=q2.length
  refine SeqAt.RcNeAt.tuples (e:=fun _=>true) pl pl2 (by omega) (OD (A:=X.A.in1) (by show X.A.units+1+3<cLine;omega) I q1 q2 hl hx) _ _ _ _ ?_
  rw[Cz,Bool.true_and,show (its.toArray.size == its2.toArray.size)=true by simp;omega]
  exact⟨.bl false,H,I,rfl,q⟩
theorem Room.units9 {k:Nat} {A:Around} (r:Room k A):A.units+9<cLine:=by have:=r.un;omega
theorem LA {K:PySem.W.Frag} {row:List Int} {n:Nat}:∀(i:Nat) x y,(row.map V.int)[i]? = some x→(row.map V.int)[i]? = some y→DS K H n x y:=fun i x y hx hy=>by
 rw[hx] at hy
 cases hy
 rw[List.getElem?_map] at hx
 obtain⟨k,_,rfl⟩:=Option.map_eq_some_iff.mp hx
 cases n with
 | zero=>exact⟨rfl,.inl ⟨k,rfl⟩⟩
 | succ n=>exact .inl ⟨rfl,.inl ⟨k,rfl⟩⟩
end
end L2
namespace HT2
open PySem L2 PyProof.Rows
theorem Sy {b:Bool} {A B:Prop} (e:b=false) (h:B):if b=true then A else B:=by
 rw[e,if_neg Bool.false_ne_true]
 exact h
theorem Sl {b:Bool} {A B:Prop} (e:b=true) (h:A):if b=true then A else B:=by
 rw[e,if_pos rfl]
 exact h
theorem Dy {K:PySem.W.Frag} {a acc:Addr} {row:List Int} {p:Int→Bool} {tc:TT} {rest:L2.St} {D:Ce} {H:Hp} (hr:SqL K H a (row.map V.int)) (hacc:H acc=none) (hlen:row.length≤900)
  (ht:∀k,k∈row→∀H2,Same H H2→∀R:Bool→Hp→Prop,(∀H3,Same H2 H3→R (p k) H3)→tc (some (.int k)::rest) H2 R)
  (hd:∀v0 H2,Same H H2→H2 acc=some (.lst ((row.filter p).map V.int))→D.nx (v0::rest) H2) (v:Option V) :
  Eu (P4 K a) (Dq 0) (Dw tc (Cf acc (NP 0))) D (v::rest) (upd H acc (.lst [])):=by
 refine Bk (K:=K) (a:=a) (xs:=row.map V.int) (fun i σ H2=>∃v0,σ=v0::rest∧Same H H2∧H2 acc=some (.lst (((row.take i).filter p).map V.int))) ⟨v,rfl,Ag hacc _,upd_same⟩ ?_ ?_ ?_
 ·rintro i σ H2 _ ⟨v0,rfl,s2,_⟩
  exact s2.seq hr
 ·rintro i x σ H2 hx ⟨v0,rfl,s2,ha2⟩
  rw[List.getElem?_map] at hx
  obtain⟨k,hk,rfl⟩:=Option.map_eq_some_iff.mp hx
  have et:row.take (i+1)=row.take i++[k]:=by rw[List.take_add_one,hk];rfl
  refine ht k (List.mem_of_getElem? hk) H2 s2 _ fun H3 s3=>?_
  have ha3:=s3 _ _ ha2
  cases e:p k with
  | false=>
   refine⟨_,rfl,s2.trans s3,?_⟩
   rw[et,List.filter_append,List.filter_cons_of_neg (by rw[e];simp),List.filter_nil,List.append_nil]
   exact ha3
  | true=>
   refine⟨_,rfl,_,ha3,AF ?_,?_⟩
   ·rw[List.length_map]
    refine Nat.le_trans (List.length_filter_le _ _) ?_
    rw[List.length_take]
    omega
   refine⟨_,rfl,AH (s2.trans s3) hacc _,?_⟩
   rw[upd_same,et,List.filter_append,List.filter_cons_of_pos e,List.filter_nil,List.map_append]
   rfl
 ·rintro σ H2 ⟨v0,rfl,s2,ha2⟩
  rw[List.length_map,List.take_length] at ha2
  exact hd v0 H2 s2 ha2
theorem JK {K:PySem.W.Frag} {a acc:Addr} {xs:List V} {bs:List Bool} {te:TE} {rest:L2.St} {D:Ce} {H:Hp} (hr:SqL K H a xs) (hacc:H acc=none) (hlen:xs.length≤900) (hb:bs.length=xs.length)
  (ht:∀(i:Nat) (x:V) (b:Bool),xs[i]? = some x→bs[i]? = some b→∀H2,Same H H2→∀R:V→Hp→Prop,(∀H3,Same H2 H3→R (.bl b) H3)→te (some x::rest) H2 R)
  (hd:∀v0 H2,Same H H2→H2 acc=some (.lst (bs.map V.bl))→D.nx (v0::rest) H2) (v:Option V) :
  Eu (P4 K a) (Dq 0) (Dw KU (Cf acc te)) D (v::rest) (upd H acc (.lst [])):=by
 refine Bk (K:=K) (a:=a) (xs:=xs) (fun i σ H2=>∃v0,σ=v0::rest∧Same H H2∧H2 acc=some (.lst ((bs.take i).map V.bl))) ⟨v,rfl,Ag hacc _,upd_same⟩ ?_ ?_ ?_
 ·rintro i σ H2 _ ⟨v0,rfl,s2,_⟩
  exact s2.seq hr
 ·rintro i x σ H2 hx ⟨v0,rfl,s2,ha2⟩
  have hi:i<bs.length:=by
   have:=(List.getElem?_eq_some_iff.mp hx).1
   omega
  have hbi:bs[i]? = some bs[i]:=List.getElem?_eq_getElem hi
  have et:bs.take (i+1)=bs.take i++[bs[i]]:=by rw[List.take_add_one,hbi];rfl
  show Cf acc te _ _ _
  refine ht i x _ hx hbi H2 s2 _ fun H3 s3=>?_
  refine⟨_,s3 _ _ ha2,AF ?_,?_⟩
  ·rw[List.length_map,List.length_take]
   omega
  refine⟨_,rfl,AH (s2.trans s3) hacc _,?_⟩
  rw[upd_same,et,List.map_append]
  rfl
 ·rintro σ H2 ⟨v0,rfl,s2,ha2⟩
  rw[←hb,List.take_length] at ha2
  exact hd v0 H2 s2 ha2
theorem LW (k:Int) (xs:List Int):LK (.int k) (xs.map V.int)=decide (k∈xs):=by
 unfold LK
 induction xs with
 | nil=>simp
 | cons x r ih=>
  rw[List.map_cons,List.any_cons,ih]
  have e:OV (.int x) (.int k)=decide (x=k):=by
   show (x == k)=decide (x=k)
   rfl
  rw[e]
  by_cases h:x=k
  ·subst h;simp
  ·have h':¬k=x:=fun z=>h z.symm
   simp[h,h']
theorem HI (xs:List Int):(xs.map V.int).all Ej=true:=by
 induction xs with
 | nil=>rfl
 | cons x r ih=>rw[List.map_cons,List.all_cons,ih];rfl
theorem Gh {a b:List Int} (ha:a.Pairwise (· < ·)) (hb:b.Pairwise (· < ·)) (h:∀k,k∈a↔k∈b):a=b:=by
 have na:a.Nodup:=ha.imp fun h=>by omega
 have nb:b.Nodup:=hb.imp fun h=>by omega
 have hp:a.Perm b:=(List.perm_ext_iff_of_nodup na nb).mpr h
 exact PySem.W.ksm_same hp (ha.imp fun h=>by omega) (hb.imp fun h=>by omega)
theorem RI {K:PySem.W.Frag} {k:Int} {r:Addr} {row:List Int} {H:Hp} {Q:VK} (h:SqL K H r (row.map V.int)) (q:Q (.bl (decide (k∈row))) H):SV K false (.int k) (.ref r) H Q:=
 ⟨r,_,rfl,.inl h,rfl,HI _,by rw[←LW] at q;exact q⟩
theorem MG {K:PySem.W.Frag} {k:Int} {r:Addr} {row:List Int} {H:Hp} {Q:VK} (h:SqL K H r (row.map V.int)) (q:Q (.bl (!decide (k∈row))) H):SV K true (.int k) (.ref r) H Q:=
 ⟨r,_,rfl,.inl h,rfl,HI _,by rw[←LW] at q;exact q⟩
end HT2
namespace HT2
open PySem L2 PyProof.Rows
def SW (K:PySem.W.Frag) (a:Addr) (xs:List V):Prop:=∃(o:Obj) (its:Array Value) (n:Nat),K.lookup a=some o∧o.cls= .type "tuple"∧o.data= .seq its n∧its.size≤sizeLine∧Vals xs its.toList
def TupAt (K:PySem.W.Frag) (H:Hp) (p:Addr) (xs:List V):Prop:=H p=some (.tup xs)∨SW K p xs
theorem TupAt.sq {K:PySem.W.Frag} {H:Hp} {p:Addr} {xs:List V} (h:TupAt K H p xs):SqT K H p xs:=h.elim (fun e=>.inl (.inl e)) .inr
theorem TupAt.keep {K:PySem.W.Frag} {H H':Hp} {p:Addr} {xs:List V} (s:TS H H') (h:TupAt K H p xs):TupAt K H' p xs:=h.elim (fun e=>.inl (s _ _ e)) .inr
theorem TupAt.same {K:PySem.W.Frag} {H H':Hp} {p:Addr} {xs:List V} (s:Same H H') (h:TupAt K H p xs):TupAt K H' p xs:=h.keep (TS.same s)
def Tr.AtK (K:PySem.W.Frag) (H:Hp):Tr→V→Prop
 | .lt k,v=>∃p,v= .ref p∧TupAt K H p [.str "let",.int k]
 | .nt t,v=>∃p u,v= .ref p∧TupAt K H p [.str "not",u]∧t.AtK K H u
 | .bn j a b,v=>∃p x y,v= .ref p∧TupAt K H p [.str (jn j),x,y]∧a.AtK K H x∧b.AtK K H y
theorem Tr.AtK.keep {K:PySem.W.Frag} {H H':Hp} (s:TS H H'):∀{t:Tr} {v:V},t.AtK K H v→t.AtK K H' v
 | .lt k,v,h=>by
  obtain⟨p,e,h⟩:=h
  exact⟨p,e,h.keep s⟩
 | .nt t,v,h=>by
  obtain⟨p,u,e,h,q⟩:=h
  exact⟨p,u,e,h.keep s,Tr.AtK.keep s q⟩
 | .bn j a b,v,h=>by
  obtain⟨p,x,y,e,h,q,r⟩:=h
  exact⟨p,x,y,e,h.keep s,Tr.AtK.keep s q,Tr.AtK.keep s r⟩
theorem Tr.AtK.same {K:PySem.W.Frag} {H H':Hp} (s:Same H H') {t:Tr} {v:V} (h:t.AtK K H v):t.AtK K H' v:=h.keep (TS.same s)
theorem Tr.At.toK {K:PySem.W.Frag} {H:Hp}:∀{t:Tr} {v:V},t.At H v→t.AtK K H v
 | .lt k,v,h=>by
  obtain⟨p,e,h⟩:=h
  exact⟨p,e,.inl h⟩
 | .nt t,v,h=>by
  obtain⟨p,u,e,h,q⟩:=h
  exact⟨p,u,e,.inl h,q.toK⟩
 | .bn j a b,v,h=>by
  obtain⟨p,x,y,e,h,q,r⟩:=h
  exact⟨p,x,y,e,.inl h,q.toK,r.toK⟩
theorem Tr.AtK.isRef {K:PySem.W.Frag} {H:Hp} {t:Tr} {v:V} (h:t.AtK K H v):∃p xs,v= .ref p∧TupAt K H p xs:=by
 cases t with
 | lt k=>obtain⟨p,e,h⟩:=h;exact⟨p,_,e,h⟩
 | nt t=>obtain⟨p,u,e,h,_⟩:=h;exact⟨p,_,e,h⟩
 | bn j a b=>obtain⟨p,x,y,e,h,_⟩:=h;exact⟨p,_,e,h⟩
abbrev PileK (K:PySem.W.Frag) (H:Hp):List V→List Tr→Prop:=Paired fun (v:V) (t:Tr)=>t.AtK K H v
theorem PileK.keep {K:PySem.W.Frag} {H H':Hp} (s:TS H H'):∀{xs:List V} {ts:List Tr},PileK K H xs ts→PileK K H' xs ts
 | _,_,.nil=>.nil
 | _,_,.cons r q=>.cons (Tr.AtK.keep s r) (PileK.keep s q)
theorem PileK.len {K:PySem.W.Frag} {H:Hp}:∀{xs:List V} {ts:List Tr},PileK K H xs ts→xs.length=ts.length
 | _,_,.nil=>rfl
 | _,_,.cons _ q=>congrArg (· + 1) (PileK.len q)
theorem PileK.snoc {K:PySem.W.Frag} {H:Hp} {y:V} {t:Tr} (h:t.AtK K H y):∀{xs:List V} {ts:List Tr},PileK K H xs ts→PileK K H (xs++[y]) (ts++[t])
 | _,_,.nil=>.cons h .nil
 | _,_,.cons r q=>.cons r (PileK.snoc h q)
theorem PileK.app {K:PySem.W.Frag} {H:Hp}:∀{xs ys:List V} {ts us:List Tr},PileK K H xs ts→PileK K H ys us→PileK K H (xs++ys) (ts++us)
 | _,_,_,_,.nil,q=>q
 | _,_,_,_,.cons r q,q2=>.cons r (PileK.app q q2)
theorem PileK.rev {K:PySem.W.Frag} {H:Hp}:∀{xs:List V} {ts:List Tr},PileK K H xs ts→PileK K H xs.reverse ts.reverse
 | _,_,.nil=>.nil
 | _,_,.cons r q=>by
  rw[List.reverse_cons,List.reverse_cons]
  exact (PileK.rev q).snoc r
theorem PileK.last {K:PySem.W.Frag} {H:Hp}:∀{xs:List V} {ts:List Tr},PileK K H xs ts→0<ts.length→∃xs' y ts' t,xs=xs'++[y]∧ts=ts'++[t]∧PileK K H xs' ts'∧Tr.AtK K H t y
 | _,_,.nil,h=>absurd h (Nat.lt_irrefl _)
 | _,_,.cons (a:=v) (b:=t) r .nil,_=>⟨[],v,[],t,rfl,rfl,.nil,r⟩
 | _,_,.cons (a:=v) (b:=t) r (.cons r' q'),_=>by
  obtain⟨xs',y,ts',u,e1,e2,q,a⟩:=PileK.last (Paired.cons r' q') (Nat.succ_pos _)
  exact⟨v::xs',y,t::ts',u,by rw[e1];rfl,by rw[e2];rfl,.cons r q,a⟩
theorem PileK.get {K:PySem.W.Frag} {H:Hp}:∀{xs:List V} {ts:List Tr} {i:Nat} {x:V},PileK K H xs ts→xs[i]? = some x→∃t,ts[i]? = some t∧Tr.AtK K H t x
 | _,_,_,_,.nil,e=>by simp at e
 | _,_,0,_,.cons r _,e=>by
  simp at e
  subst e
  exact⟨_,rfl,r⟩
 | _,_,i+1,x,.cons _ q,e=>by
  obtain⟨t,h1,h2⟩:=PileK.get (i:=i) q (by simpa using e)
  exact⟨t,by simpa using h1,h2⟩
theorem PileK.at {K:PySem.W.Frag} {H:Hp} {xs:List V} {ts:List Tr} {i:Nat} {t:Tr} (h:PileK K H xs ts) (e:ts[i]? = some t):∃x,xs[i]? = some x∧Tr.AtK K H t x:=by
 have hl:=h.len
 have hi:i<ts.length:=(List.getElem?_eq_some_iff.mp e).1
 have hx:xs[i]? = some xs[i]:=List.getElem?_eq_getElem (by omega)
 obtain⟨t2,h1,h2⟩:=h.get hx
 rw[e] at h1
 cases h1
 exact⟨_,hx,h2⟩
section
variable {X:Cx} {pins:List (Addr×Obj)} {σ:L2.St} {H:Hp} {s:Shared}
theorem B1 (I:Inv X pins σ H s) {p:Addr} {xs ys:List V} (h1:TupAt X.K H p xs) (h2:TupAt X.K H p ys):xs=ys:=by
 obtain⟨its,r1,pl,_⟩:=I.tuple h1.sq
 obtain⟨its2,r2,pl2,_⟩:=I.tuple h2.sq
 obtain⟨o,e,_,n,d⟩:=pl
 obtain⟨o2,e2,_,n2,d2⟩:=pl2
 rw[e] at e2
 cases e2
 rw[d] at d2
 have ei:its.toArray=its2.toArray:=by cases d2;rfl
 have ei':its=its2:=by simpa using ei
 subst ei'
 exact Vals.inj r1 r2
theorem Op {i j:Nat} (hi:i<4) (hj:j<4) (h:jn i=jn j):i=j:=by
 have d:∀i:Fin 4,∀j:Fin 4,jn i.1=jn j.1→i.1=j.1:=by decide
 exact d ⟨i,hi⟩ ⟨j,hj⟩ h
theorem Gi {j:Nat}:jn j≠"let":=by
 match j with
 | 0=>decide
 | 1=>decide
 | 2=>decide
 | _+3=>show ("same":Str)≠"let";decide
theorem Gb {j:Nat}:jn j≠"not":=by
 match j with
 | 0=>decide
 | 1=>decide
 | 2=>decide
 | _+3=>show ("same":Str)≠"not";decide
theorem FY (I:Inv X pins σ H s) {m:Nat}:∀{t u:Tr} {v:V},t.ok m→u.ok m→t.AtK X.K H v→u.AtK X.K H v→t=u
 | .lt k,u,v,ht,hu,h1,h2=>by
  obtain⟨p,rfl,h1⟩:=h1
  cases u with
  | lt k2=>
   obtain⟨p2,e,h2⟩:=h2
   cases e
   have:=B1 I h1 h2
   simp only[List.cons.injEq,V.int.injEq,and_true,true_and] at this
   have:k=k2:=by omega
   rw[this]
  | nt t2=>
   obtain⟨p2,x,e,h2,_⟩:=h2
   cases e
   have:=B1 I h1 h2
   simp only[List.cons.injEq,V.str.injEq] at this
   exact absurd this.1 (by decide)
  | bn j a b=>
   obtain⟨p2,x,y,e,h2,_⟩:=h2
   cases e
   have:=B1 I h1 h2
   simp only[List.cons.injEq,V.str.injEq] at this
   exact absurd this.1.symm Gi
 | .nt t,u,v,ht,hu,h1,h2=>by
  obtain⟨p,x1,rfl,h1,a1⟩:=h1
  cases u with
  | lt k2=>
   obtain⟨p2,e,h2⟩:=h2
   cases e
   have:=B1 I h1 h2
   simp only[List.cons.injEq,V.str.injEq] at this
   exact absurd this.1 (by decide)
  | nt t2=>
   obtain⟨p2,x,e,h2,a2⟩:=h2
   cases e
   have:=B1 I h1 h2
   simp only[List.cons.injEq,and_true,true_and] at this
   subst this
   rw[FY I (t:=t) (u:=t2) ht hu a1 a2]
  | bn j a b=>
   obtain⟨p2,x,y,e,h2,_⟩:=h2
   cases e
   have:=B1 I h1 h2
   simp only[List.cons.injEq,V.str.injEq] at this
   exact absurd this.1.symm Gb
 | .bn j a b,u,v,ht,hu,h1,h2=>by
  obtain⟨p,x1,y1,rfl,h1,a1,b1⟩:=h1
  cases u with
  | lt k2=>
   obtain⟨p2,e,h2⟩:=h2
   cases e
   have:=B1 I h1 h2
   simp only[List.cons.injEq,V.str.injEq] at this
   exact absurd this.1 Gi
  | nt t2=>
   obtain⟨p2,x,e,h2,a2⟩:=h2
   cases e
   have:=B1 I h1 h2
   simp only[List.cons.injEq,V.str.injEq] at this
   exact absurd this.1 Gb
  | bn j2 c d=>
   obtain⟨p2,x,y,e,h2,a2,b2⟩:=h2
   cases e
   have:=B1 I h1 h2
   simp only[List.cons.injEq,V.str.injEq,and_true] at this
   obtain⟨ej,rfl,rfl⟩:=this
   obtain rfl:=Op ht.1 hu.1 ej
   rw[FY I (t:=a) (u:=c) ht.2.1 hu.2.1 a1 a2,FY I (t:=b) (u:=d) ht.2.2 hu.2.2 b1 b2]
end
end HT2
namespace HT2
open PySem L2 PyProof.Rows
def Tr.hgt:Tr→Nat
 | .lt _=>0
 | .nt t=>t.hgt+1
 | .bn _ a b=>max a.hgt b.hgt+1
section
variable {X:Cx} {pins:List (Addr×Obj)} {σ:L2.St} {H:Hp} {s:Shared}
theorem B0 (I:Inv X pins σ H s) {p q:Addr} {xs ys:List V} (h1:TupAt X.K H p xs) (h2:TupAt X.K H q ys) {A:Around} (hu:A.units<cLine) (e:Nat→Bool)
  (he:∀(j:Nat) (x y:V) (x' y':Value),xs[j]? = some x→ys[j]? = some y→L2.RelV x x'→L2.RelV y y'→SeqAt.EqAt A.in1 s x' y' (e j)):SeqAt.RcAt A s (.ref p) (.ref q) ((List.range (min xs.length ys.length)).all e && xs.length == ys.length):=by
 obtain⟨its,r1,pl,_⟩:=I.tuple h1.sq
 obtain⟨its2,r2,pl2,_⟩:=I.tuple h2.sq
 have l1:=r1.length
 have l2:=r2.length
 have hh:=SeqAt.RcAt.tuples (e:=e) (A:=A) pl pl2 hu (fun j j1 j2=>by
  have j1':j<its.length:=by simpa using j1
  have j2':j<its2.length:=by simpa using j2
  have hx1:xs[j]? = some xs[j]:=List.getElem?_eq_getElem (by omega)
  have hy1:ys[j]? = some ys[j]:=List.getElem?_eq_getElem (by omega)
  obtain⟨u1,e1,ru1⟩:=r1.get hx1
  obtain⟨u2,e2,ru2⟩:=r2.get hy1
  have e1':its.toArray[j]=u1:=by
   have:=List.getElem?_eq_getElem j1'
   rw[this] at e1
   simpa using Option.some.inj e1
  have e2':its2.toArray[j]=u2:=by
   have:=List.getElem?_eq_getElem j2'
   rw[this] at e2
   simpa using Option.some.inj e2
  rw[e1',e2']
  exact he j _ _ _ _ hx1 hy1 ru1 ru2)
 have ez:its.toArray.size=xs.length:=by simp;omega
 have ez2:its2.toArray.size=ys.length:=by simp;omega
 rw[ez,ez2] at hh
 exact hh
theorem B2 {A:Around} {a b:Str} {x' y':Value} (h1:L2.RelV (.str a) x') (h2:L2.RelV (.str b) y'):SeqAt.EqAt A s x' y' (a == b):=by
 obtain⟨t,rfl⟩:=h1
 obtain⟨t2,rfl⟩:=h2
 exact SeqAt.EqAt.str_str _ _ _ _
theorem Es {a b:Str} (h:a≠b):(a == b)=false:=beq_false_of_ne h
theorem Dx (I:Inv X pins σ H s) {m:Nat} {t u:Tr} {v v':V} {x x':Value} {A:Around} (ht:t.ok m) (hu:u.ok m) (h1:t.AtK X.K H v) (h2:u.AtK X.K H v') (r1:L2.RelV v x) (r2:L2.RelV v' x') (h:SeqAt.RcAt A s x x' (decide (t=u))):SeqAt.EqAt A s x x' (decide (t=u)):=by
 obtain⟨p,_,rfl,_⟩:=h1.isRef
 obtain⟨q,_,rfl,_⟩:=h2.isRef
 cases r1
 cases r2
 by_cases hpq:p=q
 ·subst hpq
  rw[decide_eq_true (FY I ht hu h1 h2)]
  exact SeqAt.EqAt.same _
 ·exact SeqAt.EqAt.of_refs hpq h
theorem DW (I:Inv X pins σ H s) {m:Nat}:∀(t:Tr) {u:Tr} {v v':V} {x x':Value} {A:Around},t.ok m→u.ok m→t.AtK X.K H v→u.AtK X.K H v'→L2.RelV v x→L2.RelV v' x'→A.units+t.hgt+2<cLine→SeqAt.RcAt A s x x' (decide (t=u))
 | .lt k,u,v,v',x,x',A,ht,hu,h1,h2,r1,r2,hc=>by
  have h1':=h1
  have h2':=h2
  obtain⟨p,rfl,h1⟩:=h1
  cases r1
  have hc1:A.units<cLine:=by omega
  have hc2:A.in1.units<cLine:=by show A.units+1<cLine;omega
  obtain⟨q,_,rfl,_⟩:=h2.isRef
  cases r2
  cases u with
  | lt k2=>
   obtain⟨p2,e,h2⟩:=h2
   cases e
   have hh:=B0 I h1 h2 hc1 (fun j=>if j=0 then true else decide (k=k2)) (fun j x y x' y' hx hy rx ry=>by
    match j,hx,hy with
    | 0,hx,hy=>
     cases hx
     cases hy
     have:=B2 (s:=s) (A:=A.in1) rx ry
     rw[beq_self_eq_true] at this
     exact this
    | 1,hx,hy=>
     cases hx
     cases hy
     obtain⟨t1,rfl⟩:=rx
     obtain⟨t2,rfl⟩:=ry
     have:=SeqAt.EqAt.int_int (A:=A.in1) (s:=s) (k:Int) t1 (k2:Int) t2
     rw[show ((k:Int) == (k2:Int))=decide (k=k2) by rw[Bool.eq_iff_iff,beq_iff_eq,decide_eq_true_eq];omega] at this
     exact this)
   have ev:((List.range (min [V.str "let",V.int k].length [V.str "let",V.int k2].length)).all (fun j=>if j=0 then true else decide (k=k2)) && [V.str "let",V.int k].length == [V.str "let",V.int k2].length)=decide (Tr.lt k=Tr.lt k2):=by
    by_cases z:k=k2
    ·subst z;simp[List.range_succ]
    ·simp[List.range_succ,z]
   rw[←ev]
   exact hh
  | nt t2=>
   obtain⟨p2,x2,e,h2,a2⟩:=h2
   cases e
   have hh:=B0 I h1 h2 hc1 (fun _=>false) (fun j x y x' y' hx hy rx ry=>by
    match j,hx,hy with
    | 0,hx,hy=>
     cases hx
     cases hy
     have:=B2 (s:=s) (A:=A.in1) rx ry
     rw[Es (by decide)] at this
     exact this
    | 1,hx,hy=>
     cases hx
     cases hy
     obtain⟨t1,rfl⟩:=rx
     obtain⟨q,_,rfl,hq⟩:=a2.isRef
     cases ry
     obtain⟨its,_,pl,_⟩:=I.tuple hq.sq
     exact SeqAt.EqAt.int_tuple _ _ pl hc2)
   rw[decide_eq_false (by intro z;cases z)]
   exact hh
  | bn j2 c d=>
   obtain⟨p2,x2,y2,e,h2,a2,b2⟩:=h2
   cases e
   have hh:=B0 I h1 h2 hc1 (fun _=>false) (fun j x y x' y' hx hy rx ry=>by
    match j,hx,hy with
    | 0,hx,hy=>
     cases hx
     cases hy
     have:=B2 (s:=s) (A:=A.in1) rx ry
     rw[Es (fun z=>Gi z.symm)] at this
     exact this
    | 1,hx,hy=>
     cases hx
     cases hy
     obtain⟨t1,rfl⟩:=rx
     obtain⟨q,_,rfl,hq⟩:=a2.isRef
     cases ry
     obtain⟨its,_,pl,_⟩:=I.tuple hq.sq
     exact SeqAt.EqAt.int_tuple _ _ pl hc2)
   rw[decide_eq_false (by intro z;cases z)]
   exact hh
 | .nt t,u,v,v',x,x',A,ht,hu,h1,h2,r1,r2,hc=>by
  have h1':=h1
  have h2':=h2
  obtain⟨p,x1,rfl,h1,a1⟩:=h1
  cases r1
  have hc0:A.units+(t.hgt+1)+2<cLine:=hc
  have hc1:A.units<cLine:=by omega
  have hc2:A.in1.units<cLine:=by show A.units+1<cLine;omega
  obtain⟨q,_,rfl,_⟩:=h2.isRef
  cases r2
  cases u with
  | lt k2=>
   obtain⟨p2,e,h2⟩:=h2
   cases e
   have hh:=B0 I h1 h2 hc1 (fun _=>false) (fun j x y x' y' hx hy rx ry=>by
    match j,hx,hy with
    | 0,hx,hy=>
     cases hx
     cases hy
     have:=B2 (s:=s) (A:=A.in1) rx ry
     rw[Es (by decide)] at this
     exact this
    | 1,hx,hy=>
     cases hx
     cases hy
     obtain⟨t1,rfl⟩:=ry
     obtain⟨q,_,rfl,hq⟩:=a1.isRef
     cases rx
     obtain⟨its,_,pl,_⟩:=I.tuple hq.sq
     exact SeqAt.EqAt.tuple_int _ _ pl hc2)
   rw[decide_eq_false (by intro z;cases z)]
   exact hh
  | nt t2=>
   obtain⟨p2,x2,e,h2,a2⟩:=h2
   cases e
   have hh:=B0 I h1 h2 hc1 (fun j=>if j=0 then true else decide (t=t2)) (fun j x y x' y' hx hy rx ry=>by
    match j,hx,hy with
    | 0,hx,hy=>
     cases hx
     cases hy
     have:=B2 (s:=s) (A:=A.in1) rx ry
     rw[beq_self_eq_true] at this
     exact this
    | 1,hx,hy=>
     cases hx
     cases hy
     exact Dx I (t:=t) (u:=t2) ht hu a1 a2 rx ry (DW I t (u:=t2) ht hu a1 a2 rx ry (by show A.units+1+t.hgt+2<cLine;omega)))
   have ev:((List.range (min [V.str "not",x1].length [V.str "not",x2].length)).all (fun j=>if j=0 then true else decide (t=t2)) && [V.str "not",x1].length == [V.str "not",x2].length)=decide (Tr.nt t=Tr.nt t2):=by
    by_cases z:t=t2
    ·subst z;simp[List.range_succ]
    ·simp[List.range_succ,z]
   rw[←ev]
   exact hh
  | bn j2 c d=>
   obtain⟨p2,x2,y2,e,h2,a2,b2⟩:=h2
   cases e
   have hh:=B0 I h1 h2 hc1 (fun j=>if j=0 then false else decide (t=c)) (fun j x y x' y' hx hy rx ry=>by
    match j,hx,hy with
    | 0,hx,hy=>
     cases hx
     cases hy
     have:=B2 (s:=s) (A:=A.in1) rx ry
     rw[Es (fun z=>Gb z.symm)] at this
     exact this
    | 1,hx,hy=>
     cases hx
     cases hy
     exact Dx I (t:=t) (u:=c) ht hu.2.1 a1 a2 rx ry (DW I t (u:=c) ht hu.2.1 a1 a2 rx ry (by show A.units+1+t.hgt+2<cLine;omega)))
   rw[decide_eq_false (by intro z;cases z)]
   exact hh
 | .bn j a b,u,v,v',x,x',A,ht,hu,h1,h2,r1,r2,hc=>by
  have h1':=h1
  have h2':=h2
  obtain⟨p,x1,y1,rfl,h1,a1,b1⟩:=h1
  cases r1
  have hc0:A.units+(max a.hgt b.hgt+1)+2<cLine:=hc
  have hc1:A.units<cLine:=by omega
  have hc2:A.in1.units<cLine:=by show A.units+1<cLine;omega
  obtain⟨q,_,rfl,_⟩:=h2.isRef
  cases r2
  cases u with
  | lt k2=>
   obtain⟨p2,e,h2⟩:=h2
   cases e
   have hh:=B0 I h1 h2 hc1 (fun _=>false) (fun j x y x' y' hx hy rx ry=>by
    match j,hx,hy with
    | 0,hx,hy=>
     cases hx
     cases hy
     have:=B2 (s:=s) (A:=A.in1) rx ry
     rw[Es Gi] at this
     exact this
    | 1,hx,hy=>
     cases hx
     cases hy
     obtain⟨t1,rfl⟩:=ry
     obtain⟨q,_,rfl,hq⟩:=a1.isRef
     cases rx
     obtain⟨its,_,pl,_⟩:=I.tuple hq.sq
     exact SeqAt.EqAt.tuple_int _ _ pl hc2)
   rw[decide_eq_false (by intro z;cases z)]
   exact hh
  | nt t2=>
   obtain⟨p2,x2,e,h2,a2⟩:=h2
   cases e
   have hh:=B0 I h1 h2 hc1 (fun j=>if j=0 then false else decide (a=t2)) (fun j x y x' y' hx hy rx ry=>by
    match j,hx,hy with
    | 0,hx,hy=>
     cases hx
     cases hy
     have:=B2 (s:=s) (A:=A.in1) rx ry
     rw[Es Gb] at this
     exact this
    | 1,hx,hy=>
     cases hx
     cases hy
     exact Dx I (t:=a) (u:=t2) ht.2.1 hu a1 a2 rx ry (DW I a (u:=t2) ht.2.1 hu a1 a2 rx ry (by show A.units+1+a.hgt+2<cLine;omega)))
   rw[decide_eq_false (by intro z;cases z)]
   exact hh
  | bn j2 c d=>
   obtain⟨p2,x2,y2,e,h2,a2,b2⟩:=h2
   cases e
   have hh:=B0 I h1 h2 hc1 (fun i=>if i=0 then decide (j=j2) else if i=1 then decide (a=c) else decide (b=d)) (fun i x y x' y' hx hy rx ry=>by
    match i,hx,hy with
    | 0,hx,hy=>
     cases hx
     cases hy
     have:=B2 (s:=s) (A:=A.in1) rx ry
     have e:(jn j == jn j2)=decide (j=j2):=by
      by_cases z:j=j2
      ·subst z;simp
      ·rw[decide_eq_false z];exact Es fun q=>z (Op ht.1 hu.1 q)
     rw[e] at this
     exact this
    | 1,hx,hy=>
     cases hx
     cases hy
     exact Dx I (t:=a) (u:=c) ht.2.1 hu.2.1 a1 a2 rx ry (DW I a (u:=c) ht.2.1 hu.2.1 a1 a2 rx ry (by show A.units+1+a.hgt+2<cLine;omega))
    | 2,hx,hy=>
     cases hx
     cases hy
     exact Dx I (t:=b) (u:=d) ht.2.2 hu.2.2 b1 b2 rx ry (DW I b (u:=d) ht.2.2 hu.2.2 b1 b2 rx ry (by show A.units+1+b.hgt+2<cLine;omega)))
   have ev:((List.range (min [V.str (jn j),x1,y1].length [V.str (jn j2),x2,y2].length)).all (fun i=>if i=0 then decide (j=j2) else if i=1 then decide (a=c) else decide (b=d)) && [V.str (jn j),x1,y1].length == [V.str (jn j2),x2,y2].length)=decide (Tr.bn j a b=Tr.bn j2 c d):=by
    rw[Bool.eq_iff_iff]
    simp[List.range_succ]
   rw[←ev]
   exact hh
def SH (K:PySem.W.Frag):R2:=fun x y H Q=>∃(t u:Tr) (m:Nat),t.ok m∧u.ok m∧t.AtK K H x∧u.AtK K H y∧t.hgt≤100∧Q (.bl (decide (t=u))) H
theorem D5 (hu:X.A.units+150<cLine):Eh X (compareOp .Eq) (SH X.K):=by
 intro pins s σ H x y v u Q I rx ry h
 obtain⟨t,u',m,ht,hu',h1,h2,hg,q⟩:=h
 exact DW I t ht hu' h1 h2 rx ry (by omega) _ _ _ _ ⟨.bl _,H,I,rfl,q⟩
inductive Ts (K:PySem.W.Frag) (H:Hp):V→Value→Prop where
 | of {x:V} {t:Value} (h:ES K H x t):Ts K H x t
 | tup {p:Addr} {xs:List V} (h:TupAt K H p xs):Ts K H (.ref p) (.type "tuple")
theorem EZ:BT X (.builtin "isinstance") (fun xs H Q=>∃x T t b,xs=[x,.ty T]∧Ts X.K H x t∧PySem.W.kitOne X.K t (.type T)=some b∧Q (.bl b) H):=by
 intro pins s σ H xs us Q I r h
 obtain⟨x,T,t,b,rfl,ty,e,q⟩:=h
 obtain⟨u,w',rfl,rx,ry⟩:=Oc r
 cases ry
 cases ty with
 | of h=>exact HV I rx h e fun tk=>⟨.bl b,H,I.tok _,rfl,q⟩
 | @tup p ys h=>
  cases (show u=Value.ref p from rx)
  obtain⟨its,_,pl,_⟩:=I.tuple h.sq
  obtain⟨o,h1,h2,_⟩:=pl
  exact PySem.W.kia_one PySem.W.kitx_tuple I.kIn ⟨o,h1,h2⟩ e (fun z=>nomatch z) fun tk=>⟨.bl b,H,I.tok _,rfl,q⟩
theorem JB (K:PySem.W.Frag):PySem.W.kitOne K (.type "int") (.type "tuple")=some false:=by
 with_unfolding_all rfl
theorem _root_.L2.Room.units150 {k:Nat} {A:Around} (r:Room k A):A.units+150<cLine:=by have:=r.un;omega
end
end HT2
namespace L2
open PySem PySem.Spec PyProof.Rows
def Q7 (n:Nat):It:=⟨fun i _=>i<n,fun i H x H'=>H'=H∧x= .int (2*(i:Int)),fun i _=>n≤i⟩
theorem OH {n:Nat} {g:TG} {tb:TS} {D:Ce} {σ:St} {H:Hp} (Pv:Nat→St→Hp→Prop) (h0:Pv 0 σ H)
  (hs:∀i σ H,i<n→Pv i σ H→g (.int (2*(i:Int))) σ H fun σ2 H2=>tb { D with nx:=Pv (i+1),ct:=Pv (i+1),bk:=D.nx } σ2 H2) (hd:∀σ H,Pv n σ H→D.nx σ H):Eu (Q7 n) g tb D σ H:=by
 refine⟨fun i m σ H=>m=n-i∧i≤n∧Pv i σ H,⟨n,by simp,Nat.zero_le _,h0⟩,?_⟩
 rintro i m σ H ⟨rfl,hi,p⟩
 by_cases hlt:i<n
 ·refine .inr ⟨hlt,Pv (i+1),fun σ' H' p'=>⟨n-(i+1),by omega,rfl,hlt,p'⟩,fun x H' y=>?_⟩
  obtain⟨e,e2⟩:=y
  subst e e2
  exact hs i σ _ hlt p
 ·have e:i=n:=by omega
  subst e
  exact .inl ⟨Nat.le_refl _,hd σ H p⟩
theorem M1 {P:Program} {w:World} {K:PySem.W.Frag} {tg:Expr} (it:Addr) (n:Nat):KN P w K tg (Q7 n) [it] it (fun i h=>IsRangeIter h it (0+(i:Nat)*2) ((n:Int)-(i:Nat)) 2) where
 mem:=by simp
 obj:=fun i h st b hb=>by
  have e:b=it:=by simpa using hb
  subst e
  exact⟨_,st,fun v z=>by
   have z':Data.fields _=Data.cell v:=z
   cases z'⟩
 keep:=fun i h h' st k=>k it (by simp) _ st
 item:=by
  intro X hP hw hK hc i pins s σ H E I hf st hg
  subst hP hw hK
  obtain⟨f0,f1,f2,f3,f4,f5⟩:=hf it (by simp)
  have W:=Walks.range (prog:=X.prog) (w:=X.w) (I.ok.hd hc) it 0 2 n
  refine W.item i s _ _ hg st fun v h' tk hv st' kk=>?_
  obtain⟨t,rfl⟩:=hv
  have I1:Inv X pins σ H { s with heap:=h',toks:=tk }:=I.turned (fun b o hb e=>kk b o (by simpa using hb) e) f0 f1 f3 f4 f5
  refine⟨_,rfl,LY (s:={ s with heap:=h',toks:=tk }) (n:="range_iterator") st' rfl rfl (by decide) ⟨.int (2*(i:Int)),H,I1,⟨t,?_⟩,⟨rfl,rfl⟩,st',fun b hb=>(hf b hb).1⟩⟩
  rw[Int.zero_add,Int.mul_comm]
 done:=by
  intro X hP hw hK hc i pins s σ H E I hf st hg
  subst hP hw hK
  obtain⟨f0,f1,f2,f3,f4,f5⟩:=hf it (by simp)
  exact wpAny_pyNext_range_end (I.ok.hd hc) st (by have:n≤i:=hg;omega) fun h' eb=>⟨rfl,I.turned (t':=s.toks) (fun b o hb e=>eb b o hb e) f0 f1 f3 f4 f5⟩
 self:=fun _ _ _ _ _ st h=>wpAny_pyIter_rangeiter st h
section
variable {X:Cx} {tg:Expr}
def SN (ta:TA):TI:=fun σ H R=>ta σ H fun vs H1=>∃n:Nat,vs=[.int 0,.int (2*(n:Int)),.int 2]∧n≤1000∧R (Q7 n) H1
theorem MN {a b c:Expr} {ta:TA} {p pos:Pos} (hg:Gl X "range") (hm:X.mg "range"=none) (ha:PA X [a,b,c] ta) (hs:starEach [a,b,c] X.env=[(false,eval a X.env),(false,eval b X.env),(false,eval c X.env)]:=by rfl) (hs2:starEach [b,c] X.env=[(false,eval b X.env),(false,eval c X.env)]:=by rfl) :
  PI X tg (.Call (.Name "range" p) [a,b,c] [] pos) (SN ta):=by
 intro pins s σ H R I h
 refine Call_ (DF I hg hm boot_range (PyProof.Rows.callWith_type1 (AS (ha pos pins s σ H _ I h) fun us s1 ⟨vs,H1,I1,r1,q1⟩=>?_) (by rw[hs,hs2]) (by rw[hs2];rfl)))
 obtain⟨n,e,hn,q⟩:=q1
 subst e
 cases r1 with
 | cons r rr=>
  cases rr with
  | cons r' rr=>
   cases rr with
   | cons r'' rr=>
    cases rr
    obtain⟨t,rfl⟩:=r
    obtain⟨t',rfl⟩:=r'
    obtain⟨t'',rfl⟩:=r''
    refine call_range_3 (by decide) ?_ (.inl (PyProof.noPylong_small (by decide)))
    have ez:Builtin.Range.rangeSize 0 (2*(n:Int)) 2=(n:Int):=by
     unfold Builtin.Range.rangeSize
     rw[if_pos (by decide)]
     by_cases h0:(0:Int)<2*(n:Int)
     ·rw[if_pos h0];omega
     ·rw[if_neg h0];omega
    have hsm:Builtin.Range.small 0 (2*(n:Int)) 2=true:=by
     unfold Builtin.Range.small
     rw[ez]
     have fit:∀i:Int,-4000≤i→i<4000→Builtin.Range.rangeFitsLong i=true:=fun i h1 h2=>by
      unfold Builtin.Range.rangeFitsLong
      rw[decide_eq_true (by omega),decide_eq_true (by omega)]
      rfl
     rw[if_pos (by decide),fit 0 (by decide) (by decide),fit _ (by omega) (by omega),fit 2 (by decide) (by decide),fit (n:Int) (by omega) (by omega),fit _ (by omega) (by omega)]
     simp
    refine wpAny_pyIter_range (IsRange.new ..) hsm ?_
    have I2:Inv X pins σ H1 { s1 with heap:=s1.heap.push { cls:=.type "range",data:=.fields #[.int 0 t,.int (2*(n:Int)) t',.int 2 t''] },toks:=s1.toks }:=I1.kept fun b o e=>Heap.get?_push_of_some _ e
    refine⟨(s1.heap.push { cls:=.type "range",data:=.fields #[.int 0 t,.int (2*(n:Int)) t',.int 2 t''] }).objs.size,[(s1.heap.push { cls:=.type "range",data:=.fields #[.int 0 t,.int (2*(n:Int)) t',.int 2 t''] }).objs.size],_,_,H1,rfl,
     I2.kept (t':=s1.toks) fun b o e=>Heap.get?_push_of_some _ e,M1 _ n,?_,fun b hb=>?_,q⟩
    ·have e1:(0:Int)+((0:Nat):Int)*2=0:=by simp
     have e2:((n:Nat):Int)-((0:Nat):Int)=Builtin.Range.rangeSize 0 (2*(n:Int)) 2:=by rw[ez];omega
     show IsRangeIter _ _ ((0:Int)+((0:Nat):Int)*2) (((n:Nat):Int)-((0:Nat):Int)) 2
     rw[e1,e2]
     exact Heap.get?_push_size _ rfl
    ·have e:b=(s1.heap.push { cls:=.type "range",data:=.fields #[.int 0 t,.int (2*(n:Int)) t',.int 2 t''] }).objs.size:=by simpa using hb
     subst e
     exact I2.fpOk (Nat.le_refl _) (I2.hok.fresh (Nat.le_refl _))
end
end L2
namespace Toy
open PySem L2 HT2 PyProof.Rows
def Bu (i:Nat):Stmt:=PySem.Challenge.pw_holdtalk_k37_ways_walk.main.body.getD i (.Pass ⟨0,0,0,0⟩)
abbrev MB:Stmt:=Bu 45
abbrev MH:Stmt:=Bu 55
abbrev HC:Stmt:=Bu 50
structure Bl (mg:Str→Option Value):Prop where
 abs:mg "abs"=none
 len:mg "len"=none
 range:mg "range"=none
def LJ (K:PySem.W.Frag):Sp:=fun vs H Q _=>∃(a:Addr) (ns:List Int) (k:Int),vs=[.ref a,.int k]∧SqL K H a (ns.map V.int)∧ns.length≤63∧0≤k∧k≤1000∧
 ∀(n:Int) (H':Hp),0≤n→Same H H'→Q (.int n) H'
def Jd:Sp:=fun vs H Q _=>∃(n:Int) (most many:Nat),vs=[.int n,.int most,.int many]∧0≤n∧1≤most∧most≤12∧1≤many∧many≤5∧
 ∀(v:V) (t:Tr) (H':Hp),Same H H'→t.At H' v→t.ok many→t.size+1≤2*most→Q v H'
section
variable {P:Program} {w:World} {K:PySem.W.Frag} {mg:Str→Option Value} {base:Heap} {f:Addr} {fd:FuncData}
theorem scNum:As ["_law_script","_law_k","_law_cell","_law_one","_law_two"] ["_law_script","_law_k"] (Ae MB):=⟨rfl,rfl,rfl,by decide +kernel,rfl,by decide +kernel,by decide +kernel⟩
theorem Sr:As ["_law_n"] ["_law_n"] (Ae MH):=⟨rfl,rfl,rfl,by decide +kernel,rfl,by decide +kernel,by decide +kernel⟩
def Q3:Sp:=fun vs H Q _=>∃(n:Int),vs=[.int n]∧0≤n∧∀(m:Nat) (H':Hp),1≤m→m≤5→Same H H'→Q (.int m) H'
def fews:List Int:=[3,2,3,1,3,2,4,5]
theorem TZ:8≤sizeLine:=by decide
theorem R0 {i:Nat} (h:i<8):∃m:Nat,1≤m∧m≤5∧(fews.map V.int)[i]? = some (.int m):=by
 match i,h with
 | 0,_=>exact⟨3,by decide,by decide,rfl⟩
 | 1,_=>exact⟨2,by decide,by decide,rfl⟩
 | 2,_=>exact⟨3,by decide,by decide,rfl⟩
 | 3,_=>exact⟨1,by decide,by decide,rfl⟩
 | 4,_=>exact⟨3,by decide,by decide,rfl⟩
 | 5,_=>exact⟨2,by decide,by decide,rfl⟩
 | 6,_=>exact⟨4,by decide,by decide,rfl⟩
 | 7,_=>exact⟨5,by decide,by decide,rfl⟩
set_option maxHeartbeats 4000000 in
theorem RZ (F:Fun K "_law_few" "_law_few" MH f fd):FnOk P w K mg base AE 1 f fd ["_law_n"] Q3:=by
 refine F.ok Sr (fun vs H Q E h=>?_) (fun cdv A outer s H vs Q E hr h=>?_)
 ·obtain⟨n,rfl,_⟩:=h
  rfl
 obtain⟨n,rfl,h0,q⟩:=h
 refine⟨_,Ad (Ai (AB AM (AJ (Aa Af (Aa Af (Aa Af (Aa Af (Aa Af (Aa Af (Aa Af (Aa Af Ab))))))))) (Ay AQ (pv 0) Af) (fun _ _=>rfl))),?_⟩
 have h1:=Int.emod_nonneg n (show (8:Int)≠0 by decide)
 have h2:=Int.emod_lt_of_pos n (show (0:Int)<8 by decide)
 obtain⟨m,m1,m5,hm⟩:=R0 (i:=(n%8).toNat) (by omega)
 have hat:FV (fews.map V.int) (n%8)=some (.int m):=by
  have e:n%8=(((n%8).toNat:Nat):Int):=by omega
  rw[e]
  exact Aj (j:=(n%8).toNat) hm
 refine⟨TZ,fun l hl=>?_⟩
 refine⟨_,rfl,_,_,rfl,rfl,(by show (0:Int)<8;decide),l,fews.map V.int,_,_,rfl,rfl,SqL.of upd_same,hat,?_⟩
 exact q m _ m1 m5 (Ag hl _)
end
section
variable {P:Program} {w:World} {K:PySem.W.Frag} {mg:Str→Option Value} {base:Heap} {f:Addr} {fd:FuncData}
theorem scSent:As ["_law_n","_law_most","_law_many","_law_joints","_law_pile","_law_size","_law_turn","_law_digit","_law_right"] ["_law_n","_law_most","_law_many"] (Ae HC):=⟨rfl,rfl,rfl,by decide +kernel,rfl,by decide +kernel,by decide +kernel⟩
structure PileAt (H1 H2:Hp) (pl:Addr) (xs:List V) (ts:List Tr) (many:Nat):Prop where
 sm:Same H1 H2
 at':H2 pl=some (.lst xs)
 pile:Pile H2 xs ts
 ok:∀t∈ts,t.ok many
theorem PileAt.len {H1 H2:Hp} {pl:Addr} {xs:List V} {ts:List Tr} {many:Nat} (p:PileAt H1 H2 pl xs ts many):xs.length=ts.length:=p.pile.len
theorem PileAt.pop {H1 H2:Hp} {pl:Addr} {xs:List V} {ts:List Tr} {many:Nat} (np:H1 pl=none) (p:PileAt H1 H2 pl xs ts many) (h:0<ts.length) :
  ∃y ts' t,xs[xs.length-1]? = some y∧ts=ts'++[t]∧t.ok many∧t.At (upd H2 pl (.lst xs.dropLast)) y∧PileAt H1 (upd H2 pl (.lst xs.dropLast)) pl xs.dropLast ts' many:=by
 obtain⟨xs',y,ts',t,rfl,rfl,q,a⟩:=p.pile.last h
 refine⟨y,ts',t,DV _ _,rfl,p.ok t (by simp),a.keep (TS.lst p.at'),⟨AH p.sm np _,upd_same,?_,fun u hu=>p.ok u (by simp[hu])⟩⟩
 rw[List.dropLast_concat]
 exact q.keep (TS.lst p.at')
theorem PileAt.new {H1 H2:Hp} {pl e:Addr} {xs:List V} {ts:List Tr} {many:Nat} {o:HO} (p:PileAt H1 H2 pl xs ts many) (he:H2 e=none):PileAt H1 (upd H2 e o) pl xs ts many:=
 ⟨p.sm.trans (Ag he _),(Ag he _) _ _ p.at',p.pile.keep (TS.new he),p.ok⟩
theorem PileAt.put {H1 H2:Hp} {pl c:Addr} {xs:List V} {ts:List Tr} {many:Nat} {t:Tr} {ys:List V} (np:H1 pl=none) (p:PileAt H1 H2 pl xs ts many) (hc:H2 c=none) (ht:t.ok many)
  (ha:t.At (upd (upd H2 c (.tup ys)) pl (.lst (xs++[.ref c]))) (.ref c)):PileAt H1 (upd (upd H2 c (.tup ys)) pl (.lst (xs++[.ref c]))) pl (xs++[.ref c]) (ts++[t]) many:=by
 have k:TS H2 (upd (upd H2 c (.tup ys)) pl (.lst (xs++[.ref c]))):=(TS.new hc).trans (TS.lst (xs:=xs) (by rw[Ax (Am p.at' hc)];exact p.at'))
 refine⟨AH (p.sm.trans (Ag hc _)) np _,upd_same,(p.pile.keep k).snoc ha,fun u hu=>?_⟩
 rcases List.mem_append.mp hu with z | z
 ·exact p.ok u z
 ·rw[List.mem_singleton.mp z]
  exact ht
theorem II {H2:Hp} {pl c:Addr} {xs ys zs:List V} (hp:H2 pl=some (.lst zs)) (hc:H2 c=none):(upd (upd H2 c (.tup ys)) pl (.lst xs)) c=some (.tup ys):=by
 rw[Ax (Am hp hc).symm,upd_same]
theorem DD {H2:Hp} {pl c:Addr} {xs ys zs:List V} (hp:H2 pl=some (.lst zs)) (hc:H2 c=none):TS H2 (upd (upd H2 c (.tup ys)) pl (.lst xs)):=
 (TS.new hc).trans (TS.lst (xs:=zs) (by rw[Ax (Am hp hc)];exact hp))
def PJ (H1:Hp) (jl pl:Addr) (most many:Nat) (size:Int) (i:Nat):L2.St→Hp→Prop:=fun σ H2=>∃(m:Int) (tv dv rv:Option V) (xs:List V) (ts:List Tr),
 σ=[some (.int m),some (.int most),some (.int many),some (.ref jl),some (.ref pl),some (.int size),tv,dv,rv]∧0≤m∧PileAt H1 H2 pl xs ts many∧sz ts≤i∧ts.length≤i∧(0<i→0<ts.length)
theorem EF {H1 H3:Hp} {jl pl c:Addr} {most many i:Nat} {size d m2:Int} {xs:List V} {ts:List Tr} {tv rv:Option V} (np:H1 pl=none) (p:PileAt H1 H3 pl xs ts many) (hc:H3 c=none) (h1:1≤many) (hm:0≤m2) (z1:sz ts≤i) (z2:ts.length≤i) :
  PJ H1 jl pl most many size (i+1) [some (.int m2),some (.int most),some (.int many),some (.ref jl),some (.ref pl),some (.int size),tv,some (.int d),rv] (upd (upd H3 c (.tup [.str "let",.int (d%(many:Int))])) pl (.lst (xs++[.ref c]))):=by
 have e1:=Int.emod_nonneg d (show (many:Int)≠0 by omega)
 have e2:=Int.emod_lt_of_pos d (show (0:Int)<many by omega)
 have e3:d%(many:Int)=(((d%(many:Int)).toNat:Nat):Int):=by omega
 refine⟨m2,_,_,_,_,ts++[.lt (d%(many:Int)).toNat],rfl,hm,p.put (t:=.lt (d%(many:Int)).toNat) np hc (by show (d%(many:Int)).toNat<many;omega) ⟨c,rfl,?_⟩,?_,?_,?_⟩
 ·rw[II p.at' hc,←e3]
 ·rw[Bx];show sz ts+1≤i+1;omega
 ·rw[List.length_append];show ts.length+1≤i+1;omega
 ·intro _;rw[List.length_append];exact Nat.succ_pos _
theorem NN {H1 H3:Hp} {jl pl c:Addr} {most many i:Nat} {size m2:Int} {xs:List V} {ts:List Tr} {t:Tr} {y:V} {tv dv rv:Option V} (np:H1 pl=none) (p:PileAt H1 H3 pl xs ts many) (hc:H3 c=none) (hm:0≤m2) (ht:t.ok many) (ha:t.At H3 y) (z1:sz (ts++[t])≤i) (z2:(ts++[t]).length≤i) :
  PJ H1 jl pl most many size (i+1) [some (.int m2),some (.int most),some (.int many),some (.ref jl),some (.ref pl),some (.int size),tv,dv,rv] (upd (upd H3 c (.tup [.str "not",y])) pl (.lst (xs++[.ref c]))):=by
 rw[Bx] at z1
 rw[List.length_append] at z2
 have z2':ts.length+1≤i:=z2
 refine⟨m2,_,_,_,_,ts++[.nt t],rfl,hm,p.put (t:=.nt t) np hc ht ⟨c,y,rfl,II p.at' hc,ha.keep (DD p.at' hc)⟩,?_,?_,?_⟩
 ·rw[Bx];show sz ts+(t.size+1)≤i+1;omega
 ·rw[List.length_append];show ts.length+1≤i+1;omega
 ·intro _;rw[List.length_append];exact Nat.succ_pos _
theorem Pp {H1 H3:Hp} {jl pl c:Addr} {most many i:Nat} {size m2 j:Int} {xs:List V} {ts:List Tr} {t u:Tr} {y x:V} {tv dv rv:Option V} (np:H1 pl=none) (p:PileAt H1 H3 pl xs ts many) (hc:H3 c=none) (hm:0≤m2) (hj0:0≤j) (hj:j<4) (ht:t.ok many) (hu:u.ok many) (ha:t.At H3 y) (hx:u.At H3 x) (z1:sz (ts++[u]++[t])≤i) (z2:(ts++[u]++[t]).length≤i) :
  PJ H1 jl pl most many size (i+1) [some (.int m2),some (.int most),some (.int many),some (.ref jl),some (.ref pl),some (.int size),tv,dv,rv] (upd (upd H3 c (.tup [.str (jn j.toNat),x,y])) pl (.lst (xs++[.ref c]))):=by
 rw[Bx,Bx] at z1
 rw[List.length_append,List.length_append] at z2
 have z2':ts.length+1+1≤i:=z2
 refine⟨m2,_,_,_,_,ts++[.bn j.toNat u t],rfl,hm,p.put (t:=.bn j.toNat u t) np hc ⟨by omega,hu,ht⟩ ⟨c,x,y,rfl,II p.at' hc,hx.keep (DD p.at' hc),ha.keep (DD p.at' hc)⟩,?_,?_,?_⟩
 ·rw[Bx];show sz ts+(u.size+t.size+1)≤i+1;omega
 ·rw[List.length_append];show ts.length+1≤i+1;omega
 ·intro _;rw[List.length_append];exact Nat.succ_pos _
theorem Td {t:Tr} {most:Nat} (h:sz ([]++[t])+([]++[t]:List Tr).length≤2*most):t.size+1≤2*most:=by
 rw[Bx] at h
 have h':0+t.size+1≤2*most:=h
 omega
def RM (H1:Hp) (jl pl:Addr) (most many:Nat) (size:Int) (k:Nat):L2.St→Hp→Prop:=fun σ H2=>∃(m:Int) (tv dv rv:Option V) (xs:List V) (ts:List Tr),
 σ=[some (.int m),some (.int most),some (.int many),some (.ref jl),some (.ref pl),some (.int size),tv,dv,rv]∧0≤m∧PileAt H1 H2 pl xs ts many∧sz ts+ts.length≤2*most∧ts.length=k∧0<k
theorem Q6 {H1 H3:Hp} {jl pl c:Addr} {most many k:Nat} {size m2 j:Int} {xs:List V} {ts:List Tr} {t u:Tr} {y x:V} {tv dv rv:Option V} (np:H1 pl=none) (p:PileAt H1 H3 pl xs ts many) (hc:H3 c=none) (hm:0≤m2) (hj0:0≤j) (hj:j<4) (ht:t.ok many) (hu:u.ok many) (ha:t.At H3 y) (hx:u.At H3 x) (z1:sz (ts++[u]++[t])+(ts++[u]++[t]).length≤2*most) (z2:(ts++[u]++[t]).length=k) :
  ∃k',k'<k∧RM H1 jl pl most many size k' [some (.int m2),some (.int most),some (.int many),some (.ref jl),some (.ref pl),some (.int size),tv,dv,rv] (upd (upd H3 c (.tup [.str (jn j.toNat),x,y])) pl (.lst (xs++[.ref c]))):=by
 rw[Bx,Bx,List.length_append,List.length_append] at z1
 rw[List.length_append,List.length_append] at z2
 have z2':ts.length+1+1=k:=z2
 have z1':sz ts+u.size+t.size+(ts.length+1+1)≤2*most:=z1
 refine⟨ts.length+1,by omega,m2,_,_,_,_,ts++[.bn j.toNat u t],rfl,hm,p.put (t:=.bn j.toNat u t) np hc ⟨by omega,hu,ht⟩ ⟨c,x,y,rfl,II p.at' hc,hx.keep (DD p.at' hc),ha.keep (DD p.at' hc)⟩,?_,?_,Nat.succ_pos _⟩
 ·rw[Bx,List.length_append];show sz ts+(u.size+t.size+1)+(ts.length+1)≤2*most;omega
 ·rw[List.length_append];rfl
theorem PV (F:Fun K "_law_sentence" "_law_sentence" HC f fd) (B:Bl mg):FnOk P w K mg base AE 1 f fd ["_law_n","_law_most","_law_many"] Jd:=by
 refine F.ok scSent (fun vs H Q E h=>?_) (fun cdv A outer s H vs Q E hr h=>?_)
 ·obtain⟨n,most,many,rfl,_⟩:=h
  rfl
 obtain⟨n,most,many,rfl,h0,hm1,hm2,hy1,hy2,q⟩:=h
 refine⟨_,Ac (Au (i:=3) scSent.nd rfl (Or.inl rfl) (AJ (Aa An (Aa An (Aa An (Aa An Ab))))))
  (Ac (Au (i:=4) scSent.nd rfl (Or.inl rfl) (AJ Ab))
  (Ac (Au (i:=5) scSent.nd rfl (Or.inl rfl) (Ay Bz Af (Ay AQ (pv 0) (pv 1))))
  (Ac (Au (i:=0) scSent.nd rfl (Or.inl rfl) (Ay AT (pv 0) (pv 1)))
  (Ac (BQ PassesOwn.never rfl (Dd (by rfl) B.range (Aa (pv 5) Ab)) (AO (i:=6) scSent.nd rfl (Or.inl rfl))
   (Ac (Au (i:=7) scSent.nd rfl (Or.inl rfl) (Ay AQ (pv 0) Af))
   (Ac (Au (i:=0) scSent.nd rfl (Or.inl rfl) (Ay AT (pv 0) Af))
   (Ad (AA (DK (Ak AI (pv 7) Af (Ao _)) (Ch (Ak (Hk hr.units0) (pv 4) (AJ Ab) (Ao _)))).pt
    (Ad (AV (BM PySem.F.plainAttrs_list PySem.F.slot_list_append PySem.F.type_list_append AZ (pv 4) (Aa (AU (Aa An (Aa (B8 PySem.F.plainAttrs_list PySem.F.slot_list_pop PySem.F.type_list_pop Co (pv 4)) Ab))) Ab))))
    (Ad (AA (DK (Ak EH (pv 7) Af (Ao _)) (Ch (Ak EH (Aw Av (by rfl) B.len PySem.boot_len (Aa (pv 4) Ab)) Af (Ao _)))).pt
     (Ac (Au (i:=8) scSent.nd rfl (Or.inl rfl) (B8 PySem.F.plainAttrs_list PySem.F.slot_list_pop PySem.F.type_list_pop Co (pv 4)))
     (Ad (AV (BM PySem.F.plainAttrs_list PySem.F.slot_list_append PySem.F.type_list_append AZ (pv 4) (Aa (AU (Aa (AB AM (pv 3) (Ay DL (pv 7) Af) (fun _ _=>rfl)) (Aa (B8 PySem.F.plainAttrs_list PySem.F.slot_list_pop PySem.F.type_list_pop Co (pv 4)) (Aa (pv 8) Ab)))) Ab)))))
     (Ad (AV (BM PySem.F.plainAttrs_list PySem.F.slot_list_append PySem.F.type_list_append AZ (pv 4) (Aa (AU (Aa An (Aa (Ay AQ (pv 7) (pv 2)) Ab))) Ab)))))))))))
  (Ac (E2 PassesOwn.never (Ak EH (Aw Av (by rfl) B.len PySem.boot_len (Aa (pv 4) Ab)) Af (Ao _))
   (Ac (Au (i:=8) scSent.nd rfl (Or.inl rfl) (B8 PySem.F.plainAttrs_list PySem.F.slot_list_pop PySem.F.type_list_pop Co (pv 4)))
   (Ac (AV (BM PySem.F.plainAttrs_list PySem.F.slot_list_append PySem.F.type_list_append AZ (pv 4) (Aa (AU (Aa (AB AM (pv 3) (Ay AQ (pv 0) Af) (fun _ _=>rfl)) (Aa (B8 PySem.F.plainAttrs_list PySem.F.slot_list_pop PySem.F.type_list_pop Co (pv 4)) (Aa (pv 8) Ab)))) Ab)))
   (Ad (Au (i:=0) scSent.nd rfl (Or.inl rfl) (Ay AT (pv 0) Af))))))
  (Ad (Ai (AB AM (pv 4) Af (fun _ _=>rfl))))))))),?_⟩
 refine⟨Tz,fun jl hjl=>⟨Ka,fun pl hpl=>?_⟩⟩
 have sJ:Same H (upd H jl (.lst joints)):=Ag hjl _
 have nJ:jl≠pl:=Am (upd_same (H:=H) (a:=jl) (o:=.lst joints)) hpl
 refine⟨_,rfl,_,rfl,_,_,rfl,rfl,(by omega),_,_,rfl,rfl,_,rfl,_,rfl,_,_,rfl,rfl,⟨by omega,by omega⟩,?_⟩
 have hsz0:=Int.emod_nonneg n (show (most:Int)≠0 by omega)
 have hsz1:=Int.emod_lt_of_pos n (show (0:Int)<most by omega)
 have hn0:0≤n / (most:Int):=Int.ediv_nonneg h0 (by omega)
 have hs1:1≤1+n%(most:Int):=by omega
 have hs2:1+n%(most:Int)≤most:=by omega
 refine⟨_,rfl,_,rfl,(by omega),(by omega),BC (n:=(1+n%(most:Int)).toNat) (PJ (upd H jl (.lst joints)) jl pl most many (1+n%(most:Int))) ?_ ?_ ?_⟩
 ·exact⟨_,none,none,none,[],[],rfl,hn0,⟨Ag hpl _,upd_same,.nil,fun t ht=>absurd ht (by simp)⟩,Nat.le_refl _,Nat.le_refl _,fun z=>z⟩
 ·rintro i σ H2 hi ⟨m,tv,dv,rv,xs,ts,rfl,hm,p,z1,z2,z3⟩
  have hlen:=p.len
  have hi':i<12:=by omega
  have hm2:0≤m / 10:=by omega
  have hd0:0≤m%10:=by omega
  have hd1:m%10<10:=by omega
  have lt12:∀{k:Nat},k≤12→k<sizeLine:=fun h=>AF (Nat.le_trans h (by decide))
  refine⟨_,rfl,_,_,rfl,rfl,(by show (0:Int)<10;decide),_,rfl,_,_,rfl,rfl,⟨by decide,by decide⟩,?_⟩
  refine⟨_,rfl,rfl,_,rfl,?_⟩
  refine BY (fun c1=>?_) (fun c1=>?_)
  ·refine⟨_,rfl,Ka,fun e he=>?_⟩
   have p3:PileAt (upd H jl (.lst joints)) (upd H2 e (.lst [])) pl xs ts many:=p.new he
   refine⟨pl,e,xs,rfl,rfl,SqL.of p3.at',SqL.of upd_same,_,rfl,?_⟩
   refine BY (fun c2=>?_) (fun c2=>?_)
   ·have hpos:0<ts.length:=by
     cases xs with
     | nil=>exact absurd c2 (by decide)
     | cons x r=>rw[←hlen];exact Nat.succ_pos _
    obtain⟨y,ts',t,ey,rfl,okt,ha,p4⟩:=p3.pop hpl hpos
    have hl4:=p4.len
    rw[List.length_append] at z2
    have z2':ts'.length+1≤i:=z2
    refine⟨_,rfl,.inl ⟨rfl,_,SqL.of p3.at'⟩,_,rfl,.inl ⟨rfl,_,SqL.of p3.at'⟩,pl,_,y,rfl,rfl,p3.at',ey,DP,fun c hc=>⟨pl,_,_,rfl,rfl,(Ag hc _) _ _ p4.at',lt12 (by omega),?_⟩⟩
    exact NN hpl p4 hc hm2 okt ha z1 (by rw[List.length_append];exact z2)
   ·
    refine⟨_,rfl,_,_,rfl,rfl,_,rfl,?_⟩
    refine BY (fun c3=>?_) (fun c3=>?_)
    ·refine⟨_,rfl,pl,xs,rfl,.inl (SqL.of p3.at'),_,_,rfl,rfl,_,rfl,?_⟩
     refine BY (fun c4=>?_) (fun c4=>?_)
     ·exfalso
      have:xs=[]:=by
       cases xs with
       | nil=>rfl
       | cons x r=>exact absurd rfl c2
      subst this
      exact absurd c4 (by decide)
     ·refine⟨_,rfl,.inl ⟨rfl,_,SqL.of p3.at'⟩,_,rfl,_,rfl,_,_,rfl,rfl,(by omega),DP,fun c hc=>⟨pl,_,_,rfl,rfl,(Ag hc _) _ _ p3.at',lt12 (by omega),?_⟩⟩
      exact EF hpl p3 hc hy1 hm2 z1 z2
    ·refine AX ?_
     refine⟨_,rfl,.inl ⟨rfl,_,SqL.of p3.at'⟩,_,rfl,_,rfl,_,_,rfl,rfl,(by omega),DP,fun c hc=>⟨pl,_,_,rfl,rfl,(Ag hc _) _ _ p3.at',lt12 (by omega),?_⟩⟩
     exact EF hpl p3 hc hy1 hm2 z1 z2
  ·refine AX ?_
   refine⟨_,rfl,_,_,rfl,rfl,_,rfl,?_⟩
   refine BY (fun c3=>?_) (fun c3=>?_)
   ·have c3':(5:Int)<m%10:=of_decide_eq_true c3
    refine⟨_,rfl,pl,xs,rfl,.inl (SqL.of p.at'),_,_,rfl,rfl,_,rfl,?_⟩
    refine BY (fun c4=>?_) (fun c4=>?_)
    ·have c4':(1:Int)<(xs.length:Nat):=of_decide_eq_true c4
     obtain⟨y,ts',t,ey,rfl,okt,ha,p4⟩:=p.pop hpl (by omega)
     rw[List.length_append] at hlen
     have hlen':xs.length=ts'.length+1:=hlen
     obtain⟨x,ts2,u,ex,rfl,oku,hax,p5⟩:=p4.pop hpl (by omega)
     have hl5:=p5.len
     rw[List.length_append,List.length_append] at z2
     have z2':ts2.length+1+1≤i:=z2
     refine⟨_,rfl,.inl ⟨rfl,_,SqL.of p.at'⟩,pl,_,y,rfl,rfl,p.at',ey,?_⟩
     refine⟨_,rfl,.inl ⟨rfl,_,SqL.of p4.at'⟩,_,rfl,_,rfl,_,_,rfl,rfl,jl,joints,_,_,rfl,rfl,SqL.of (p4.sm _ _ upd_same),DM (by omega) (by omega),_,rfl,.inl ⟨rfl,_,SqL.of p4.at'⟩,pl,_,x,rfl,rfl,p4.at',ex,_,rfl,IO,fun c hc=>⟨pl,_,_,rfl,rfl,(Ag hc _) _ _ p5.at',lt12 (by omega),?_⟩⟩
     exact Pp hpl p5 hc hm2 (by omega) (by omega) okt oku (ha.keep (TS.lst p4.at')) hax z1 (by rw[List.length_append,List.length_append];exact z2)
    ·refine⟨_,rfl,.inl ⟨rfl,_,SqL.of p.at'⟩,_,rfl,_,rfl,_,_,rfl,rfl,(by omega),DP,fun c hc=>⟨pl,_,_,rfl,rfl,(Ag hc _) _ _ p.at',lt12 (by omega),?_⟩⟩
     exact EF hpl p hc hy1 hm2 z1 z2
   ·refine AX ?_
    refine⟨_,rfl,.inl ⟨rfl,_,SqL.of p.at'⟩,_,rfl,_,rfl,_,_,rfl,rfl,(by omega),DP,fun c hc=>⟨pl,_,_,rfl,rfl,(Ag hc _) _ _ p.at',lt12 (by omega),?_⟩⟩
    exact EF hpl p hc hy1 hm2 z1 z2
 ·rintro σ H2 ⟨m,tv,dv,rv,xs,ts,rfl,hm,p,z1,z2,z3⟩
  have z3':=z3 (by omega)
  refine⟨RM (upd H jl (.lst joints)) jl pl most many (1+n%(most:Int)),⟨ts.length,m,tv,dv,rv,xs,ts,rfl,hm,p,by omega,rfl,z3'⟩,?_⟩
  rintro k σ H3 ⟨m,tv,dv,rv,xs,ts,rfl,hm,p,z1,z2,z3⟩
  have hlen:=p.len
  have hm2:0≤m / 4:=by omega
  have lt12:∀{k:Nat},k≤24→k<sizeLine:=fun h=>AF (Nat.le_trans h (by decide))
  refine⟨_,rfl,pl,xs,rfl,.inl (SqL.of p.at'),_,_,rfl,rfl,_,rfl,?_⟩
  refine BY (fun c4=>?_) (fun c4=>?_)
  ·have c4':(1:Int)<(xs.length:Nat):=of_decide_eq_true c4
   refine⟨fun σ' H'=>∃k',k'<k∧RM (upd H jl (.lst joints)) jl pl most many (1+n%(most:Int)) k' σ' H',fun _ _ h=>h,?_⟩
   obtain⟨y,ts',t,ey,rfl,okt,ha,p4⟩:=p.pop hpl (by omega)
   rw[List.length_append] at hlen
   have hlen':xs.length=ts'.length+1:=hlen
   obtain⟨x,ts2,u,ex,rfl,oku,hax,p5⟩:=p4.pop hpl (by omega)
   have hl5:=p5.len
   have z2':ts2.length+1+1=k:=by
    rw[List.length_append,List.length_append] at z2
    exact z2
   refine⟨_,rfl,.inl ⟨rfl,_,SqL.of p.at'⟩,pl,_,y,rfl,rfl,p.at',ey,?_⟩
   refine⟨_,rfl,.inl ⟨rfl,_,SqL.of p4.at'⟩,_,rfl,_,rfl,_,_,rfl,rfl,(by show (0:Int)<4;decide),jl,joints,_,_,rfl,rfl,SqL.of (p4.sm _ _ upd_same),DM (by omega) (by omega),_,rfl,.inl ⟨rfl,_,SqL.of p4.at'⟩,pl,_,x,rfl,rfl,p4.at',ex,_,rfl,IO,fun c hc=>⟨pl,_,_,rfl,rfl,(Ag hc _) _ _ p5.at',lt12 (by omega),?_⟩⟩
   refine⟨_,rfl,_,_,rfl,rfl,⟨by decide,by decide⟩,?_⟩
   exact Q6 hpl p5 hc hm2 (by omega) (by omega) okt oku (ha.keep (TS.lst p4.at')) hax z1 z2
  ·have c4':¬(1:Int)<(xs.length:Nat):=of_decide_eq_false (Bool.eq_false_iff.mpr c4)
   obtain⟨xs',y,ts',t,rfl,rfl,q1,a⟩:=p.pile.last (by omega)
   rw[List.length_append] at c4'
   have e0:xs'=[]:=by
    have c5:¬(1:Int)<((xs'.length+1:Nat):Int):=c4'
    exact List.length_eq_zero_iff.mp (by omega)
   subst e0
   cases q1
   refine⟨_,rfl,pl,_,_,y,rfl,rfl,SqL.of p.at',Aj (j:=0) rfl,?_⟩
   exact q y t _ (sJ.trans p.sm) a (p.ok t (by simp)) (Td z1)
end
theorem Jy:joints.all Ej=true:=rfl
theorem Fr {j:Nat}:¬(V.str (jn j)=V.str "let"):=by
 match j with
 | 0=>decide
 | 1=>decide
 | 2=>decide
 | _+3=>show ¬(V.str "same"=V.str "let");decide
theorem Kv {j:Nat}:¬(V.str (jn j)=V.str "not"):=by
 match j with
 | 0=>decide
 | 1=>decide
 | 2=>decide
 | _+3=>show ¬(V.str "same"=V.str "not");decide
theorem Bb {c A B:Prop} [Decidable c] (h:c) (a:A):if decide c=true then A else B:=by
 rw[decide_eq_true h,if_pos rfl]
 exact a
theorem AY {c A B:Prop} [Decidable c] (h:¬c) (b:B):if decide c=true then A else B:=by
 rw[decide_eq_false h,if_neg Bool.false_ne_true]
 exact b
structure AN (K:PySem.W.Frag) (mg:Str→Option Value) (x:Str) (f:Addr) (fd:FuncData) (ps:List Str):Prop where
 m:mg x=some (.ref f)
 k:PySem.W.keepIn K (.ref f)=true
 b:Binds K fd ps []
def En:Tr→List Tr
 | .lt _=>[]
 | .nt t=>[t]
 | .bn _ a b=>[a,b]
def BU (ts:List Tr):List Tr:=ts.flatMap En
theorem JT (a b:List Tr):BU (a++b)=BU a++BU b:=by
 unfold BU
 rw[List.flatMap_append]
theorem Ju (t:Tr):BU [t]=En t:=by
 unfold BU
 simp
theorem Fm {ts:List Tr} {i:Nat} {t:Tr} (h:ts[i]? = some t):BU (ts.take (i+1))=BU (ts.take i)++En t:=by
 rw[List.take_add_one,h,JT]
 congr 1
 exact Ju t
theorem IV (a b:List Tr):sz (a++b)=sz a+sz b:=by
 unfold sz
 rw[List.map_append,List.sum_append]
theorem KF:∀t:Tr,sz (En t)+1=t.size
 | .lt _=>rfl
 | .nt t=>by
  have:sz [t]=t.size:=by unfold sz;simp
  show sz [t]+1=t.size+1
  rw[this]
 | .bn _ a b=>by
  have:sz [a,b]=a.size+b.size:=by unfold sz;simp
  show sz [a,b]+1=a.size+b.size+1
  rw[this]
theorem Iy (t:Tr) (r:List Tr):sz (t::r)=t.size+sz r:=by
 unfold sz
 rw[List.map_cons,List.sum_cons]
theorem LT (ts:List Tr):sz (BU ts)+ts.length=sz ts:=by
 induction ts with
 | nil=>rfl
 | cons t r ih=>
  have h:=KF t
  rw[Iy]
  show sz (En t++BU r)+(r.length+1)=_
  rw[IV]
  omega
theorem Gr (ts:List Tr):ts.length≤sz ts:=by
 induction ts with
 | nil=>exact Nat.le_refl _
 | cons t r ih=>
  have h:=t.size_pos
  rw[Iy]
  show r.length+1≤_
  omega
theorem J4 {ts:List Tr} {i j:Nat} {t:Tr} (h:ts[i]? = some t):(BU (ts.take i)++(En t).take j).length≤sz ts:=by
 have e1:ts=ts.take (i+1)++ts.drop (i+1):=(List.take_append_drop _ _).symm
 have h1:(BU (ts.take (i+1))).length≤(BU ts).length:=by
  have h2:(BU ts).length=(BU (ts.take (i+1))).length+(BU (ts.drop (i+1))).length:=by
   rw[←List.length_append,←JT,List.take_append_drop]
  omega
 have h3:=Gr (BU ts)
 have h4:=LT ts
 rw[Fm h,List.length_append] at h1
 rw[List.length_append,List.length_take]
 omega
theorem Pr (z:V) (cs:List V):Ez (z::cs) (some 1) none=cs:=by
 unfold Ez
 have e1:HT.sIx (z::cs).length 0 (some 1)=1:=by
  have:=HT.sIx_nat (z::cs).length 0 1
  show HT.sIx (z::cs).length 0 (some ((1:Nat):Int))=1
  rw[this,List.length_cons]
  omega
 rw[e1,HT.sIx_none]
 show ((z::cs).drop 1).take (cs.length+1-1)=cs
 simp
theorem J2 {z:V} {cs:List V}:¬(HT.sIx (z::cs).length 0 (some 1)=0∧HT.sIx (z::cs).length (z::cs).length none=(z::cs).length):=by
 rintro⟨h,_⟩
 have:=HT.sIx_nat (z::cs).length 0 1
 rw[show (some (1:Int))=some ((1:Nat):Int) from rfl,this,List.length_cons] at h
 omega
theorem Ov {c A B:Prop} [Decidable c] (hc:¬c) (h:A):if (!decide c)=true then A else B:=by
 rw[decide_eq_false hc]
 exact Bt h
def BR (k:Nat) (w:Int):Bool:=decide (w / 2^k%2=1)
def jv:Nat→Bool→Bool→Bool
 | 0,a,b=>a && b
 | 1,a,b=>a || b
 | 2,a,b=>!a || b
 | _,a,b=>decide (a=b)
def tv:Tr→Int→Bool
 | .lt k,w=>BR k w
 | .nt t,w=>!tv t w
 | .bn j a b,w=>jv j (tv a w) (tv b w)
def RP:List V:=[.int 1,.int 2,.int 4,.int 8,.int 16]
theorem RF {k:Nat} (h:k<5):FV RP ((k:Nat):Int)=some (.int (2^k)):=by
 refine Aj ?_
 match k,h with
 | 0,_=>rfl
 | 1,_=>rfl
 | 2,_=>rfl
 | 3,_=>rfl
 | 4,_=>rfl
theorem pow_pos (k:Nat):(0:Int)<2^k:=Int.pow_pos (by decide)
theorem Rg {k:Nat} (h:k<5):(2:Int)^k<1073741824:=by
 match k,h with
 | 0,_=>decide
 | 1,_=>decide
 | 2,_=>decide
 | 3,_=>decide
 | 4,_=>decide
theorem On (k:Nat) (w:Int):decide (V.int (w / 2^k%2)=V.int 1)=BR k w:=by
 unfold BR
 rw[Bool.eq_iff_iff,decide_eq_true_eq,decide_eq_true_eq]
 exact⟨fun h=>by injection h,fun h=>by rw[h]⟩
theorem QW (a b:Bool):decide (V.bl a=V.bl b)=decide (a=b):=by cases a<;>cases b<;>rfl
theorem TN {j:Nat} (h:V.str (jn j)=V.str "and"):j=0:=by
 match j with
 | 0=>rfl
 | 1=>exact absurd h (by decide)
 | 2=>exact absurd h (by decide)
 | _+3=>exact absurd (show V.str "same"=V.str "and" from h) (by decide)
theorem TM {j:Nat} (h:V.str (jn j)=V.str "or"):j=1:=by
 match j with
 | 0=>exact absurd h (by decide)
 | 1=>rfl
 | 2=>exact absurd h (by decide)
 | _+3=>exact absurd (show V.str "same"=V.str "or" from h) (by decide)
theorem TU {j:Nat} (h:V.str (jn j)=V.str "if"):j=2:=by
 match j with
 | 0=>exact absurd h (by decide)
 | 1=>exact absurd h (by decide)
 | 2=>rfl
 | _+3=>exact absurd (show V.str "same"=V.str "if" from h) (by decide)
theorem TV {j:Nat} (h0:¬V.str (jn j)=V.str "and") (h1:¬V.str (jn j)=V.str "or") (h2:¬V.str (jn j)=V.str "if") (a b:Bool):jv j a b=decide (a=b):=by
 match j with
 | 0=>exact absurd rfl h0
 | 1=>exact absurd rfl h1
 | 2=>exact absurd rfl h2
 | _+3=>rfl
structure Fq (mg:Str→Option Value):Prop where
 isi:mg "isinstance"=none
 int:mg "int"=none
 bool:mg "bool"=none
 str:mg "str"=none
 tup:mg "tuple"=none
 lst:mg "list"=none
 set:mg "set"=none
 sorted:mg "sorted"=none
 rng:mg "range"=none
 any:mg "any"=none
 all:mg "all"=none
theorem A8:bootBuiltins "list"=some (.type "list"):=by decide +kernel
theorem B9:bootBuiltins "tuple"=some (.type "tuple"):=by decide +kernel
abbrev AG (H:Hp) (p:Addr) (row:List Int):Prop:=H p=some (.lst (row.map V.int))
abbrev RowsAt (H:Hp):List V→List (List Int)→Prop:=Paired fun (v:V) (row:List Int)=>∃p,v= .ref p∧AG H p row
theorem RowsAt.keep {H H':Hp} (s:Same H H'):∀{xs:List V} {rs:List (List Int)},RowsAt H xs rs→RowsAt H' xs rs
 | _,_,.nil=>.nil
 | _,_,.cons ⟨p,e,h⟩ q=>.cons ⟨p,e,s _ _ h⟩ (RowsAt.keep s q)
theorem RowsAt.get {H:Hp}:∀{xs:List V} {rs:List (List Int)} {i:Nat} {x:V},RowsAt H xs rs→xs[i]? = some x→∃row p,rs[i]? = some row∧x= .ref p∧AG H p row
 | _,_,_,_,.nil,e=>by simp at e
 | _,_,0,_,.cons ⟨p,e1,h⟩ _,e=>by
  simp at e
  subst e
  exact⟨_,p,rfl,e1,h⟩
 | _,_,i+1,x,.cons _ q,e=>by
  obtain⟨row,p,h1,h2⟩:=RowsAt.get (i:=i) q (by simpa using e)
  exact⟨row,p,by simpa using h1,h2⟩
theorem RowsAt.len {H:Hp} {xs:List V} {rs:List (List Int)} (h:RowsAt H xs rs):xs.length=rs.length:=Paired.length h
abbrev Cq:Stmt:=Bu 48
def O1:List V:=[.int 2,.int 4,.int 8,.int 16,.int 32]
theorem PQ {m:Nat} (h1:1≤m) (h5:m≤5):FV O1 ((m:Int)-1)=some (.int ((2^m:Nat):Int)):=by
 match m,h1,h5 with
 | 1,_,_=>exact Aj (j:=0) rfl
 | 2,_,_=>exact Aj (j:=1) rfl
 | 3,_,_=>exact Aj (j:=2) rfl
 | 4,_,_=>exact Aj (j:=3) rfl
 | 5,_,_=>exact Aj (j:=4) rfl
theorem He {m:Nat} (h:m≤5):2^m≤32:=Nat.pow_le_pow_right (n:=2) (by decide) h
theorem DO (n:Nat):(BW n).length=n:=by unfold BW;simp
theorem Pt (n:Nat):(BW n).Pairwise (· < ·):=by
 unfold BW
 rw[List.pairwise_map]
 exact List.pairwise_lt_range.imp fun h=>by omega
theorem mem_upto {n:Nat} {k:Int}:k∈BW n↔0≤k∧k<n:=by
 unfold BW
 rw[List.mem_map]
 constructor
 ·rintro⟨a,ha,rfl⟩
  have:=List.mem_range.mp ha
  omega
 ·rintro⟨h0,h1⟩
  exact⟨k.toNat,List.mem_range.mpr (by omega),by omega⟩
def EM:Sp:=fun vs H Q _=>∃(m:Nat),vs=[.int (m:Int)]∧1≤m∧m≤5∧∀(l:Addr) (H':Hp),Same H H'→H l=none→AG H' l (BW (2^m))→Q (.ref l) H'
section
variable {P:Program} {w:World} {K:PySem.W.Frag} {mg:Str→Option Value} {base:Heap} {f:Addr} {fd:FuncData}
theorem Mv:As ["_law_many"] ["_law_many"] (Ae Cq):=⟨rfl,rfl,rfl,by decide +kernel,rfl,by decide +kernel,by decide +kernel⟩
theorem Ku (F:Fun K "_law_worlds" "_law_worlds" Cq f fd) (T:Fq mg):FnOk P w K mg base AE 1 f fd ["_law_many"] EM:=by
 refine F.ok Mv (fun vs H Q E h=>?_) (fun cdv A outer s H vs Q E hr h=>?_)
 ·obtain⟨m,rfl,_⟩:=h
  rfl
 obtain⟨m,rfl,h1,h5,q⟩:=h
 refine⟨_,Ad (Ai (AR (Gp rfl) (by rfl) T.lst A8 (Aa (AR Id (by rfl) T.rng boot_range (Aa (AB AM (AJ (Aa Af (Aa Af (Aa Af (Aa Af (Aa Af Ab)))))) (Ay DL (pv 0) Af) (fun _ _=>rfl)) Ab)) Ab))),?_⟩
 refine⟨TR,fun l hl=>?_⟩
 have s1:=Ag hl (.lst O1)
 refine⟨_,rfl,_,_,rfl,rfl,l,O1,_,_,rfl,rfl,SqL.of upd_same,PQ h1 h5,_,rfl,fun r hr2=>?_⟩
 have s2:=Ag hr2 (.rng 0 ((2^m:Nat):Int))
 refine⟨r,2^m,rfl,upd_same,Nat.le_trans (He h5) (by decide),fun l2 hl2=>?_⟩
 have s3:=Ag hl2 (.lst ((BW (2^m)).map V.int))
 exact q l2 _ (s1.trans (s2.trans s3)) ((s1.trans s2).free hl2) upd_same
end
abbrev Er:Stmt:=Bu 51
def E8 (n:Nat):Sp:=fun vs H Q _=>∃(v:V) (t:Tr) (w:Int),vs=[v,.int w]∧t.At H v∧t.ok 5∧t.size≤n∧∀(H':Hp),Same H H'→Q (.bl (tv t w)) H'
section
variable {P:Program} {w:World} {K:PySem.W.Frag} {mg:Str→Option Value} {base:Heap} {f:Addr} {fd:FuncData}
theorem scLtrue:As ["_law_sentence_here","_law_world","_law_left","_law_right"] ["_law_sentence_here","_law_world"] (Ae Er):=⟨rfl,rfl,rfl,by decide +kernel,rfl,by decide +kernel,by decide +kernel⟩
set_option maxHeartbeats 4000000 in
theorem O8 {n:Nat} (F:Fun K "_law_true" "_law_true" Er f fd) (G:FnOk P w K mg base AE n f fd ["_law_sentence_here","_law_world"] (E8 n)) (C:AN K mg "_law_true" f fd ["_law_sentence_here","_law_world"]):FnOk P w K mg base AE (n+1) f fd ["_law_sentence_here","_law_world"] (E8 (n+1)):=by
 refine F.ok scLtrue (fun vs H Q E h=>?_) (fun cdv A outer s H vs Q E hr h=>?_)
 ·obtain⟨v,t,k,rfl,_⟩:=h
  rfl
 obtain⟨v,t,k,rfl,ha,hok,hs,q⟩:=h
 refine⟨_,Ac (AA (Ak AI (AB AD (pv 0) Af (fun _ _=>rfl)) An (Ao _))
   (Ad (Ai (Bs AI (Ay AQ (Ay AT (pv 1) (AB AM (AJ (Aa Af (Aa Af (Aa Af (Aa Af (Aa Af Ab)))))) (AB AD (pv 0) Af (fun _ _=>rfl)) (fun _ _=>rfl))) Af) Af (Ao _))))
   Al)
  (Ac (AA (Ak AI (AB AD (pv 0) Af (fun _ _=>rfl)) An (Ao _))
   (Ad (Ai (Gz (Ah G hr (by rfl) C.m C.k C.b .nil Aq (Aa (AB AD (pv 0) Af (fun _ _=>rfl)) (Aa (pv 1) Ab))))))
   Al)
  (Ac (Au (i:=2) scLtrue.nd rfl (Or.inl rfl) (Ah G hr (by rfl) C.m C.k C.b .nil Aq (Aa (AB AD (pv 0) Af (fun _ _=>rfl)) (Aa (pv 1) Ab))))
  (Ac (Au (i:=3) scLtrue.nd rfl (Or.inl rfl) (Ah G hr (by rfl) C.m C.k C.b .nil Aq (Aa (AB AD (pv 0) Af (fun _ _=>rfl)) (Aa (pv 1) Ab))))
  (Ac (AA (Ak AI (AB AD (pv 0) Af (fun _ _=>rfl)) An (Ao _))
   (Ad (Ai (Cd (pv 2) (BJ (pv 3)))))
   Al)
  (Ac (AA (Ak AI (AB AD (pv 0) Af (fun _ _=>rfl)) An (Ao _))
   (Ad (Ai (LM (pv 2) (BJ (pv 3)))))
   Al)
  (Ac (AA (Ak AI (AB AD (pv 0) Af (fun _ _=>rfl)) An (Ao _))
   (Ad (Ai (LM (Gz (pv 2)) (BJ (pv 3)))))
   Al)
  (Ad (Ai (Bs AI (pv 2) (pv 3) (Ao _)))))))))),?_⟩
 cases t with
 | lt j=>
  obtain⟨p,rfl,hp⟩:=ha
  refine⟨_,rfl,p,_,_,_,rfl,rfl,SqT.of hp,Aj (j:=0) rfl,rfl,_,rfl,?_⟩
  refine Bb rfl ?_
  refine⟨_,rfl,TR,fun l hl=>?_⟩
  have s1:=Ag hl (.lst RP)
  refine⟨_,rfl,p,_,_,_,rfl,rfl,SqT.of (s1 _ _ hp),Aj (j:=1) rfl,l,RP,_,_,rfl,rfl,SqL.of upd_same,RF hok,_,_,rfl,rfl,⟨pow_pos j,Rg hok⟩,_,_,rfl,rfl,(by show (0:Int)<2;decide),rfl,?_⟩
  have:=q _ s1
  rw[show tv (.lt j) k=BR j k from rfl,←On] at this
  exact this
 | nt t=>
  obtain⟨p,u,rfl,hp,hu⟩:=ha
  have hs':t.size+1≤n+1:=hs
  refine⟨_,rfl,p,_,_,_,rfl,rfl,SqT.of hp,Aj (j:=0) rfl,rfl,_,rfl,?_⟩
  refine AY (by decide) ?_
  refine⟨_,rfl,p,_,_,_,rfl,rfl,SqT.of hp,Aj (j:=0) rfl,rfl,_,rfl,?_⟩
  refine Bb rfl ?_
  exact⟨_,rfl,p,_,_,_,rfl,rfl,SqT.of hp,Aj (j:=1) rfl,_,rfl,u,t,k,rfl,hu,hok,by omega,fun H' s'=>⟨_,rfl,q H' s'⟩⟩
 | bn j a b=>
  obtain⟨p,x,y,rfl,hp,hx,hy⟩:=ha
  have hs':a.size+b.size+1≤n+1:=hs
  obtain⟨hj,oa,ob⟩:=hok
  refine⟨_,rfl,p,_,_,_,rfl,rfl,SqT.of hp,Aj (j:=0) rfl,rfl,_,rfl,?_⟩
  refine AY Fr ?_
  refine⟨_,rfl,p,_,_,_,rfl,rfl,SqT.of hp,Aj (j:=0) rfl,rfl,_,rfl,?_⟩
  refine AY Kv ?_
  refine⟨_,rfl,p,_,_,_,rfl,rfl,SqT.of hp,Aj (j:=1) rfl,_,rfl,x,a,k,rfl,hx,oa,by omega,fun H1 s1=>?_⟩
  refine⟨_,rfl,p,_,_,_,rfl,rfl,SqT.of (s1 _ _ hp),Aj (j:=2) rfl,_,rfl,y,b,k,rfl,hy.keep (TS.same s1),ob,by omega,fun H2 s2=>?_⟩
  have hp2:=s2 _ _ (s1 _ _ hp)
  have q2:=q H2 (s1.trans s2)
  have etv:tv (.bn j a b) k=jv j (tv a k) (tv b k):=rfl
  rw[etv] at q2
  generalize tv a k=va at q2
  generalize tv b k=vb at q2
  refine⟨_,rfl,p,_,_,_,rfl,rfl,SqT.of hp2,Aj (j:=0) rfl,rfl,_,rfl,?_⟩
  by_cases h0:V.str (jn j)=V.str "and"
  ·refine Bb h0 ?_
   obtain rfl:=TN h0
   cases va with
   | false=>exact⟨_,rfl,_,rfl,AX q2⟩
   | true=>exact⟨_,rfl,_,rfl,Bt ⟨_,rfl,q2⟩⟩
  refine AY h0 ?_
  refine⟨_,rfl,p,_,_,_,rfl,rfl,SqT.of hp2,Aj (j:=0) rfl,rfl,_,rfl,?_⟩
  by_cases h1:V.str (jn j)=V.str "or"
  ·refine Bb h1 ?_
   obtain rfl:=TM h1
   cases va with
   | false=>exact⟨_,rfl,_,rfl,AX ⟨_,rfl,q2⟩⟩
   | true=>exact⟨_,rfl,_,rfl,Bt q2⟩
  refine AY h1 ?_
  refine⟨_,rfl,p,_,_,_,rfl,rfl,SqT.of hp2,Aj (j:=0) rfl,rfl,_,rfl,?_⟩
  by_cases h2:V.str (jn j)=V.str "if"
  ·refine Bb h2 ?_
   obtain rfl:=TU h2
   cases va with
   | false=>exact⟨_,rfl,_,rfl,_,rfl,Bt q2⟩
   | true=>exact⟨_,rfl,_,rfl,_,rfl,AX ⟨_,rfl,q2⟩⟩
  refine AY h2 ?_
  rw[TV h0 h1 h2] at q2
  refine⟨_,rfl,_,rfl,rfl,?_⟩
  rw[QW]
  exact q2
theorem RD:FnOk P w K mg base AE 0 f fd ["_law_sentence_here","_law_world"] (E8 0):=by
 have no:∀vs H Q E,¬E8 0 vs H Q E:=fun vs H Q E h=>by
  obtain⟨v,t,k,_,_,_,h1,_⟩:=h
  have:=t.size_pos
  omega
 exact⟨fun vs H Q E h=>absurd h (no vs H Q E),fun A outer s H args us vs Q E _ _ _ _ h=>absurd h (no vs H Q E)⟩
theorem Il (F:Fun K "_law_true" "_law_true" Er f fd) (C:AN K mg "_law_true" f fd ["_law_sentence_here","_law_world"]):∀n:Nat,FnOk P w K mg base AE n f fd ["_law_sentence_here","_law_world"] (E8 n)
 | 0=>RD
 | n+1=>O8 F (Il F C n) C
end
abbrev Ij:Stmt:=Bu 52
def QY (K:PySem.W.Frag) (b:Bool):Sp:=fun vs H Q _=>∃(v:V) (t:Tr) (r:Addr) (row:List Int),vs=[v,.ref r]∧t.At H v∧t.ok 5∧t.size≤23∧SqL K H r (row.map V.int)∧row.length≤900∧∀(l:Addr) (H':Hp),Same H H'→H l=none→AG H' l (row.filter fun k=>tv t k == b)→Q (.ref l) H'
section
variable {P:Program} {w:World} {K:PySem.W.Frag} {mg:Str→Option Value} {base:Heap} {f:Addr} {fd:FuncData}
theorem RX:As ["_law_sentence_here","_law_row"] ["_law_sentence_here","_law_row"] (Ae Ij):=⟨rfl,rfl,rfl,by decide +kernel,rfl,by decide +kernel,by decide +kernel⟩
theorem Qi {g:Addr} {gd:FuncData} (F:Fun K "_law_ins" "_law_ins" Ij f fd) (GT:FnOk P w K mg base AE 23 g gd ["_law_sentence_here","_law_world"] (E8 23)) (CT:AN K mg "_law_true" g gd ["_law_sentence_here","_law_world"]):FnOk P w K mg base AE 24 f fd ["_law_sentence_here","_law_row"] (QY K true):=by
 refine F.ok RX (fun vs H Q E h=>?_) (fun cdv A outer s H vs Q E hr h=>?_)
 ·obtain⟨v,t,r,row,rfl,_⟩:=h
  rfl
 obtain⟨v,t,r,row,rfl,ha,hok,hs,hS,hl,q⟩:=h
 refine⟨_,Ad (Ai (Cc (N:=["_law_world","_law_sentence_here"]) (js:=[none,some 0]) (cl:=[("_law_sentence_here",s.heap.objs.size+1)]) ⟨rfl,rfl,rfl,(by intro p hp;simp at hp;rcases hp with rfl<;>rfl),rfl,rfl,rfl⟩ (Bn (pv 1)) (fun c1=>(AO (i:=0) (show (["_law_world","_law_sentence_here"]:List Str).Nodup by decide +kernel) rfl (Or.inl rfl))) (fun c1=>(EJ (A3 (Ah GT hr (by rfl) CT.m CT.k CT.b .nil Aq (Aa (pv 1) (Aa (pv 0) Ab)))))) (fun c1=>(pv 0)))),?_⟩
 refine⟨_,rfl,r,rfl,⟨_,hS⟩,fun cc acc hacc=>Dy (p:=fun k=>tv t k == true) (rest:=[some v]) hS hacc hl (fun k hk H2 s2 R hR=>?_) (fun v0 H2 s2 h2=>q acc H2 s2 hacc h2) none⟩
 refine⟨_,rfl,_,rfl,v,t,k,rfl,ha.keep (TS.same s2),hok,hs,fun H3 s3=>⟨_,rfl,?_⟩⟩
 have:=hR H3 s3
 rw[show (tv t k == true)=tv t k by cases tv t k<;>rfl] at this
 exact this
end
abbrev FB:Stmt:=Bu 46
def NO (K:PySem.W.Frag):Sp:=fun vs H Q _=>∃(n:Int) (r:Addr) (row:List Int),vs=[.int n,.ref r]∧SqL K H r (row.map V.int)∧row.length≤900∧∀(l:Addr) (row':List Int) (H':Hp),Same H H'→H l=none→AG H' l row'→row'.Sublist row→Q (.ref l) H'
section
variable {P:Program} {w:World} {K:PySem.W.Frag} {mg:Str→Option Value} {base:Heap} {f:Addr} {fd:FuncData}
theorem scLsome:As ["_law_n","_law_row","_law_found","_law_one"] ["_law_n","_law_row"] (Ae FB):=⟨rfl,rfl,rfl,by decide +kernel,rfl,by decide +kernel,by decide +kernel⟩
theorem OM (F:Fun K "_law_some" "_law_some" FB f fd):FnOk P w K mg base AE 1 f fd ["_law_n","_law_row"] (NO K):=by
 refine F.ok scLsome (fun vs H Q E h=>?_) (fun cdv A outer s H vs Q E hr h=>?_)
 ·obtain⟨n,r,row,rfl,_⟩:=h
  rfl
 obtain⟨n,r,row,rfl,hS,hl,q⟩:=h
 refine⟨_,Ac (Au (i:=2) scLsome.nd rfl (Or.inl rfl) (AJ Ab))
  (Ac (BQ PassesOwn.never rfl (Bn (pv 1)) (AO (i:=3) scLsome.nd rfl (Or.inl rfl))
   (Ac (AA (Ak AI (Ay AQ (pv 0) Af) Af (Ao _))
    (Ad (AV (BM PySem.F.plainAttrs_list PySem.F.slot_list_append PySem.F.type_list_append AZ (pv 2) (Aa (pv 3) Ab))))
    Al)
   (Ad (Au (i:=0) scLsome.nd rfl (Or.inl rfl) (Ay AT (pv 0) Af)))))
  (Ad (Ai (pv 2)))),?_⟩
 refine⟨Ka,fun l hlf=>?_⟩
 have s1:=Ag hlf (.lst [])
 refine⟨_,rfl,r,rfl,⟨_,s1.seq hS⟩,Bk (K:=K) (a:=r) (xs:=row.map V.int) (fun i σ H2=>∃(m:Int) (ov:Option V) (row':List Int),σ=[some (.int m),some (.ref r),some (.ref l),ov]∧Same H H2∧AG H2 l row'∧row'.Sublist (row.take i)) ⟨_,_,[],rfl,s1,upd_same,List.Sublist.refl _⟩ ?_ ?_ ?_⟩
 ·rintro i σ H2 _ ⟨m,ov,row',rfl,s2,_,_⟩
  exact s2.seq hS
 ·rintro i x σ H2 hx ⟨m,ov,row',rfl,s2,hl2,hsub⟩
  rw[List.getElem?_map] at hx
  obtain⟨k,hk,rfl⟩:=Option.map_eq_some_iff.mp hx
  have et:row.take (i+1)=row.take i++[k]:=by rw[List.take_add_one,hk];rfl
  refine⟨_,rfl,_,_,rfl,rfl,(by show (0:Int)<2;decide),rfl,_,rfl,?_⟩
  refine BY (fun _=>?_) (fun _=>?_)
  ·refine⟨_,rfl,.inl ⟨rfl,_,SqL.of hl2⟩,_,rfl,l,_,_,rfl,rfl,hl2,AF ?_,?_⟩
   ·rw[List.length_map]
    have:=hsub.length_le
    rw[List.length_take] at this
    omega
   refine⟨_,rfl,_,_,rfl,rfl,⟨by decide,by decide⟩,?_⟩
   refine⟨_,_,row'++[k],rfl,AH s2 hlf _,?_,?_⟩
   ·show _=some (HO.lst ((row'++[k]).map V.int))
    rw[upd_same,List.map_append]
    rfl
   ·rw[et]
    exact hsub.append (List.Sublist.refl _)
  ·refine⟨_,rfl,_,_,rfl,rfl,⟨by decide,by decide⟩,?_⟩
   refine⟨_,_,row',rfl,s2,hl2,?_⟩
   rw[et]
   exact hsub.trans (List.sublist_append_left _ _)
 ·rintro σ H2 ⟨m,ov,row',rfl,s2,hl2,hsub⟩
  rw[List.length_map,List.take_length] at hsub
  exact⟨_,rfl,q l row' H2 s2 hlf hl2 hsub⟩
end
abbrev B3:Stmt:=Bu 47
def B7 (K:PySem.W.Frag):Sp:=fun vs H Q _=>∃(n:Int) (r:Addr) (row:List Int),vs=[.int n,.ref r]∧SqL K H r (row.map V.int)∧row.length≤900∧row≠[]∧∀(l:Addr) (row':List Int) (H':Hp),Same H H'→H l=none→AG H' l row'→row'.Sublist row→row'≠[]→Q (.ref l) H'
theorem OP {row:List Int} {n:Int} (h:row≠[]):∃k,FV (row.map V.int) (n%((row.map V.int).length:Int))=some (.int k)∧k∈row:=by
 have hp:0<row.length:=List.length_pos_iff.mpr h
 rw[List.length_map]
 have h1:=Int.emod_nonneg n (show (row.length:Int)≠0 by omega)
 have h2:=Int.emod_lt_of_pos n (show (0:Int)<row.length by omega)
 obtain⟨i,ei⟩:=Int.eq_ofNat_of_zero_le h1
 have hi:i<row.length:=by omega
 rw[ei]
 refine⟨row[i],Aj ?_,List.getElem_mem hi⟩
 rw[List.getElem?_map,List.getElem?_eq_getElem hi]
 rfl
section
variable {P:Program} {w:World} {K:PySem.W.Frag} {mg:Str→Option Value} {base:Heap} {f:Addr} {fd:FuncData}
theorem scLsomeone:As ["_law_n","_law_row","_law_found"] ["_law_n","_law_row"] (Ae B3):=⟨rfl,rfl,rfl,by decide +kernel,rfl,by decide +kernel,by decide +kernel⟩
theorem JQ {g:Addr} {gd:FuncData} (F:Fun K "_law_some_one" "_law_some_one" B3 f fd) (B:Bl mg) (G:FnOk P w K mg base AE 1 g gd ["_law_n","_law_row"] (NO K)) (C:AN K mg "_law_some" g gd ["_law_n","_law_row"]):FnOk P w K mg base AE 2 f fd ["_law_n","_law_row"] (B7 K):=by
 refine F.ok scLsomeone (fun vs H Q E h=>?_) (fun cdv A outer s H vs Q E hr h=>?_)
 ·obtain⟨n,r,row,rfl,_⟩:=h
  rfl
 obtain⟨n,r,row,rfl,hS,hl,hne,q⟩:=h
 refine⟨_,Ac (Au (i:=2) scLsomeone.nd rfl (Or.inl rfl) (Ah G hr (by rfl) C.m C.k C.b .nil Aq (Aa (pv 0) (Aa (pv 1) Ab))))
  (Ac (AA (Ak (OS hr.units0) (pv 2) (AJ Ab) (Ao _))
   (Ad (Ai (AJ (Aa (AB AM (pv 1) (Ay AQ (Ay AT (pv 0) Af) (Aw Av (by rfl) B.len PySem.boot_len (Aa (pv 1) Ab))) (fun _ _=>rfl)) Ab))))
   Al)
  (Ad (Ai (pv 2)))),?_⟩
 refine⟨_,rfl,_,rfl,n,r,row,rfl,hS,hl,fun l row' H1 s1 hl1 hr1 hsub=>?_⟩
 refine⟨_,rfl,Ka,fun e he=>?_⟩
 have s2:=Ag he (.lst [])
 refine⟨l,e,_,rfl,rfl,SqL.of (s2 _ _ hr1),SqL.of upd_same,_,rfl,?_⟩
 have hp:0<row.length:=List.length_pos_iff.mpr hne
 cases hrow:row' with
 | nil=>
  refine Sl rfl ?_
  have hS2:=(s1.trans s2).seq hS
  obtain⟨k,hk,hm⟩:=OP (n:=n / 64) hne
  refine⟨_,rfl,_,rfl,_,_,rfl,rfl,⟨by decide,by decide⟩,_,rfl,r,_,rfl,.inl hS2,_,_,rfl,rfl,(by show (0:Int)<(((row.map V.int).length:Nat):Int);rw[List.length_map];omega),r,_,_,_,rfl,rfl,hS2,hk,Nd,fun d hd=>?_⟩
  have s3:=Ag hd (.lst [.int k])
  exact q d [k] _ (s1.trans (s2.trans s3)) ((s1.trans s2).free hd) upd_same (List.singleton_sublist.mpr hm) (by simp)
 | cons k rest=>
  refine Sy rfl ?_
  exact⟨_,rfl,q l row' _ (s1.trans s2) hl1 (s2 _ _ hr1) hsub (by rw[hrow];simp)⟩
end
abbrev Fn:Stmt:=Bu 49
def N2:Sp:=fun vs H Q _=>∃(n:Int) (m:Nat),vs=[.int n,.int (m:Int)]∧1≤m∧m≤5∧∀(l:Addr) (row:List Int) (H':Hp),Same H H'→H l=none→AG H' l row→row.Sublist (BW (2^m))→row≠[]→Q (.ref l) H'
section
variable {P:Program} {w:World} {K:PySem.W.Frag} {mg:Str→Option Value} {base:Heap} {f:Addr} {fd:FuncData}
theorem Qz:As ["_law_n","_law_many"] ["_law_n","_law_many"] (Ae Fn):=⟨rfl,rfl,rfl,by decide +kernel,rfl,by decide +kernel,by decide +kernel⟩
theorem Le {m:Nat}:BW (2^m)≠[]:=fun h=>by
 have:=DO (2^m)
 rw[h] at this
 have h2:0<2^m:=Nat.pow_pos (by decide)
 have h3:([]:List Int).length=0:=rfl
 omega
theorem N6 {g e:Addr} {gd ed:FuncData} (F:Fun K "_law_room" "_law_room" Fn f fd) (GW:FnOk P w K mg base AE 1 g gd ["_law_many"] EM) (CW:AN K mg "_law_worlds" g gd ["_law_many"]) (GO:FnOk P w K mg base AE 2 e ed ["_law_n","_law_row"] (B7 K)) (CO:AN K mg "_law_some_one" e ed ["_law_n","_law_row"]):FnOk P w K mg base AE 3 f fd ["_law_n","_law_many"] N2:=by
 refine F.ok Qz (fun vs H Q E h=>?_) (fun cdv A outer s H vs Q E hr h=>?_)
 ·obtain⟨n,m,rfl,_⟩:=h
  rfl
 obtain⟨n,m,rfl,h1,h5,q⟩:=h
 have hr1:Room 1 _:=hr.mono (by decide)
 refine⟨_,Ac (AA (Ak AI (Ay AQ (pv 0) Af) Af (Ao _))
   (Ad (Ai (Ah GW hr1 (by rfl) CW.m CW.k CW.b .nil Aq (Aa (pv 1) Ab))))
   Al)
  (Ad (Ai (Ah GO hr (by rfl) CO.m CO.k CO.b .nil Aq (Aa (Ay AT (pv 0) Af) (Aa (Ah GW hr1 (by rfl) CW.m CW.k CW.b .nil Aq (Aa (pv 1) Ab)) Ab))))),?_⟩
 have h32:=He h5
 refine⟨_,rfl,_,_,rfl,rfl,(by show (0:Int)<3;decide),rfl,_,rfl,?_⟩
 refine BY (fun _=>?_) (fun _=>?_)
 ·exact⟨_,rfl,m,rfl,h1,h5,fun l H' s' hl hr'=>q l _ H' s' hl hr' (List.Sublist.refl _) Le⟩
 ·refine⟨_,rfl,_,_,rfl,rfl,⟨by decide,by decide⟩,_,rfl,m,rfl,h1,h5,fun l H1 s1 hl hr1=>?_⟩
  exact⟨_,l,_,rfl,SqL.of hr1,by rw[DO];omega,Le,fun l2 row' H2 s2 hl2 hr2 hsub hne=>q l2 row' H2 (s1.trans s2) (s1.free hl2) hr2 hsub hne⟩
end
abbrev Fk:Stmt:=Bu 64
def Ew:Sp:=fun vs H Q _=>∃(n:Int),vs=[.int n]∧Q (.bl true) H
section
variable {P:Program} {w:World} {K:PySem.W.Frag} {mg:Str→Option Value} {base:Heap} {f:Addr} {fd:FuncData}
theorem QN:As ["_law_found"] ["_law_found"] (Ae Fk):=⟨rfl,rfl,rfl,by decide +kernel,rfl,by decide +kernel,by decide +kernel⟩
theorem Oo (F:Fun K "_law_whole" "_law_whole" Fk f fd) (T:Fq mg):FnOk P w K mg base AE 1 f fd ["_law_found"] Ew:=by
 refine F.ok QN (fun vs H Q E h=>?_) (fun cdv A outer s H vs Q E hr h=>?_)
 ·obtain⟨n,rfl,_⟩:=h
  rfl
 obtain⟨n,rfl,q⟩:=h
 refine⟨_,Ad (Ai (Cd (Aw Ba (by rfl) T.isi boot_isinstance (Aa (pv 0) (Aa (Bm (v:=.ty "int") (by rfl) T.int boot_int rfl) Ab))) (BJ (Gz (Aw Ba (by rfl) T.isi boot_isinstance (Aa (pv 0) (Aa (Bm (v:=.ty "bool") (by rfl) T.bool boot_bool rfl) Ab))))))),?_⟩
 refine⟨_,rfl,_,_,_,_,rfl,.int _,A4 _ _,_,rfl,?_⟩
 refine Bt ?_
 exact⟨_,rfl,_,_,_,_,rfl,.int _,IT _,_,rfl,q⟩
end
def AC (b:Bool) (t:Tr) (row:List Int):List Int:=row.filter fun k=>tv t k == b
theorem JJ (t:Tr) (row:List Int):(AC true t row).length+(AC false t row).length=row.length:=by
 unfold AC
 induction row with
 | nil=>rfl
 | cons k r ih=>
  cases h:tv t k with
  | true=>simp[h] at ih ⊢;omega
  | false=>simp[h] at ih ⊢;omega
def FC (z:Str) (t:Tr) (row:List Int):Prop:=(z="true"∧AC true t row≠[])∨(z="false"∧AC false t row≠[])∨(z="doubt"∧AC true t row≠[]∧AC false t row≠[])
def AK (z:Str) (t:Tr) (row:List Int):List (List Int):=if z="true" then[AC true t row] else if z="false" then[AC false t row] else[AC true t row,AC false t row]
def Jn (row:List Int) (sides:List (List Int)):List Int:=row.filter fun k=>sides.any fun s=>decide (k∈s)
def Br (sides:List (List Int)) (row:List Int):Bool:=sides.all fun s=>s.any fun k=>decide (k∈row)
abbrev Fz:Stmt:=Bu 53
def O9 (K:PySem.W.Frag):Sp:=fun vs H Q _=>∃(n:Int) (r:Addr) (row:List Int) (v:V) (t:Tr),vs=[.int n,.ref r,v]∧t.At H v∧t.ok 5∧t.size≤23∧SqL K H r (row.map V.int)∧row.length≤900∧row≠[]∧∀(z:Str) (H':Hp),Same H H'→FC z t row→Q (.str z) H'
def Lh:List V:=[.str "true",.str "false",.str "doubt"]
section
variable {P:Program} {w:World} {K:PySem.W.Frag} {mg:Str→Option Value} {base:Heap} {f:Addr} {fd:FuncData}
theorem scLkind:As ["_law_n","_law_room_here","_law_sentence_here","_law_ins_here"] ["_law_n","_law_room_here","_law_sentence_here"] (Ae Fz):=⟨rfl,rfl,rfl,by decide +kernel,rfl,by decide +kernel,by decide +kernel⟩
theorem Nt {g:Addr} {gd:FuncData} (F:Fun K "_law_kind" "_law_kind" Fz f fd) (B:Bl mg) (GI:FnOk P w K mg base AE 24 g gd ["_law_sentence_here","_law_row"] (QY K true)) (CI:AN K mg "_law_ins" g gd ["_law_sentence_here","_law_row"]):FnOk P w K mg base AE 25 f fd ["_law_n","_law_room_here","_law_sentence_here"] (O9 K):=by
 refine F.ok scLkind (fun vs H Q E h=>?_) (fun cdv A outer s H vs Q E hr h=>?_)
 ·obtain⟨n,r,row,v,t,rfl,_⟩:=h
  rfl
 obtain⟨n,r,row,v,t,rfl,ha,hok,hs,hS,hl,hne,q⟩:=h
 refine⟨_,Ac (Au (i:=3) scLkind.nd rfl (Or.inl rfl) (Ah GI hr (by rfl) CI.m CI.k CI.b .nil Aq (Aa (pv 2) (Aa (pv 1) Ab))))
  (Ac (AA (Ak (OS hr.units0) (pv 3) (AJ Ab) (Ao _))
   (Ad (Ai An))
   Al)
  (Ac (AA (Ak AI (Aw Av (by rfl) B.len PySem.boot_len (Aa (pv 3) Ab)) (Aw Av (by rfl) B.len PySem.boot_len (Aa (pv 1) Ab)) (Ao _))
   (Ad (Ai An))
   Al)
  (Ad (Ai (AB AM (AJ (Aa An (Aa An (Aa An Ab)))) (Ay AQ (pv 0) Af) (fun _ _=>rfl)))))),?_⟩
 have hio:=JJ t row
 have hp:0<row.length:=List.length_pos_iff.mpr hne
 refine⟨_,rfl,_,rfl,v,t,r,row,rfl,ha,hok,hs,hS,hl,fun l H1 s1 hl1 hr1=>?_⟩
 refine⟨_,rfl,Ka,fun e he=>?_⟩
 have s2:=Ag he (.lst [])
 refine⟨l,e,_,rfl,rfl,SqL.of (s2 _ _ hr1),SqL.of upd_same,_,rfl,?_⟩
 change AG H1 l (AC true t row) at hr1
 by_cases h0:AC true t row=[]
 ·refine Sl (by show ((AC true t row).map V.int).isEmpty=true;rw[h0];rfl) ?_
  refine q _ _ (s1.trans s2) (.inr (.inl ⟨rfl,fun z=>?_⟩))
  rw[h0,z] at hio
  have:([]:List Int).length=0:=rfl
  omega
 refine Sy (by show ((AC true t row).map V.int).isEmpty=false;cases hq:AC true t row with | nil=>exact absurd hq h0 | cons _ _=>rfl) ?_
 refine⟨_,rfl,l,_,rfl,.inl (SqL.of (s2 _ _ hr1)),_,rfl,r,_,rfl,.inl ((s1.trans s2).seq hS),rfl,_,rfl,?_⟩
 by_cases h1:AC false t row=[]
 ·have e1:((AC true t row).map V.int).length=(row.map V.int).length:=by
   rw[List.length_map,List.length_map]
   rw[h1] at hio
   have:([]:List Int).length=0:=rfl
   omega
  refine Bb (by rw[e1]) ?_
  exact q _ _ (s1.trans s2) (.inl ⟨rfl,h0⟩)
 ·have e1:¬(V.int (((AC true t row).map V.int).length:Int)=V.int ((row.map V.int).length:Int)):=by
   rw[List.length_map,List.length_map]
   intro z
   injection z with z
   have:=List.length_pos_iff.mpr h1
   omega
  refine AY e1 ?_
  refine⟨IO,fun c hc=>?_⟩
  have s3:=Ag hc (.lst Lh)
  have h2:=Int.emod_nonneg n (show (3:Int)≠0 by decide)
  have h3:=Int.emod_lt_of_pos n (show (0:Int)<3 by decide)
  obtain⟨j,ej⟩:=Int.eq_ofNat_of_zero_le h2
  have hj:j<3:=by omega
  refine⟨_,rfl,_,_,rfl,rfl,(by show (0:Int)<3;decide),?_⟩
  have fin:∀z:Str,Lh[j]? = some (.str z)→FC z t row→Sw K (.ref c) (.int (n%3)) (upd (upd H1 e (.lst [])) c (.lst Lh)) Q:=fun z hz hk=>by
   rw[ej]
   exact⟨c,Lh,_,_,rfl,rfl,SqL.of upd_same,Aj hz,q z _ (s1.trans (s2.trans s3)) hk⟩
  match j,hj,fin with
  | 0,_,fin=>exact fin "true" rfl (.inl ⟨rfl,h0⟩)
  | 1,_,fin=>exact fin "false" rfl (.inr (.inl ⟨rfl,h1⟩))
  | 2,_,fin=>exact fin "doubt" rfl (.inr (.inr ⟨rfl,h0,h1⟩))
end
abbrev HD:Stmt:=Bu 66
def Je:Sp:=fun vs H Q _=>∃(z:Str),vs=[.str z,.str z]∧Q (.bl true) H
section
variable {P:Program} {w:World} {K:PySem.W.Frag} {mg:Str→Option Value} {base:Heap} {f:Addr} {fd:FuncData}
theorem Ra:As ["_law_found","_law_due"] ["_law_found","_law_due"] (Ae HD):=⟨rfl,rfl,rfl,by decide +kernel,rfl,by decide +kernel,by decide +kernel⟩
theorem NX (F:Fun K "_law_says" "_law_says" HD f fd) (T:Fq mg):FnOk P w K mg base AE 1 f fd ["_law_found","_law_due"] Je:=by
 refine F.ok Ra (fun vs H Q E h=>?_) (fun cdv A outer s H vs Q E hr h=>?_)
 ·obtain⟨z,rfl,_⟩:=h
  rfl
 obtain⟨z,rfl,q⟩:=h
 refine⟨_,Ad (Ai (Cd (Aw Ba (by rfl) T.isi boot_isinstance (Aa (pv 0) (Aa (Bm (v:=.ty "str") (by rfl) T.str boot_str rfl) Ab))) (BJ (Bs AI (pv 0) (pv 1) (Ao _))))),?_⟩
 refine⟨_,rfl,_,_,_,_,rfl,.str _,A4 _ _,_,rfl,?_⟩
 refine Bt ?_
 refine⟨_,rfl,_,rfl,rfl,?_⟩
 rw[decide_eq_true rfl]
 exact q
end
abbrev Ha:Stmt:=Bu 69
def Eo (n:Nat):Sp:=fun vs H Q _=>∃(u v:V) (t:Tr),vs=[u,v]∧t.At H u∧t.At H v∧t.size≤n∧Q (.bl true) H
section
variable {P:Program} {w:World} {K:PySem.W.Frag} {mg:Str→Option Value} {base:Heap} {f:Addr} {fd:FuncData}
theorem scTree:As ["_law_found","_law_due","_law_k"] ["_law_found","_law_due"] (Ae Ha):=⟨rfl,rfl,rfl,by decide +kernel,rfl,by decide +kernel,by decide +kernel⟩
set_option maxHeartbeats 4000000 in
theorem P9 {n:Nat} {g:Addr} {gd:FuncData} (F:Fun K "_law_tree_is" "_law_tree_is" Ha f fd) (G:FnOk P w K mg base AE (n+1) f fd ["_law_found","_law_due"] (Eo n)) (C:AN K mg "_law_tree_is" f fd ["_law_found","_law_due"])
  (GW:FnOk P w K mg base AE 1 g gd ["_law_found"] Ew) (CW:AN K mg "_law_whole" g gd ["_law_found"]) (T:Fq mg) (B:Bl mg):FnOk P w K mg base AE (n+2) f fd ["_law_found","_law_due"] (Eo (n+1)):=by
 refine F.ok scTree (fun vs H Q E h=>?_) (fun cdv A outer s H vs Q E hr h=>?_)
 ·obtain⟨u,v,t,rfl,_⟩:=h
  rfl
 obtain⟨u,v,t,rfl,hu,hv,hs,q⟩:=h
 have hr1:Room 1 _:=hr.mono (Nat.le_add_left 1 n)
 refine⟨_,Ac (AA (BK (Be (A3 (Aw Ba (by rfl) T.isi boot_isinstance (Aa (pv 0) (Aa (Bm (v:=.ty "tuple") (by rfl) T.tup B9 rfl) Ab))))) (BO (Ak Hs (Aw Av (by rfl) B.len PySem.boot_len (Aa (pv 0) Ab)) (Aw Av (by rfl) B.len PySem.boot_len (Aa (pv 1) Ab)) (Ao _)))).pt (Ad (Ai Bw)) Al)
  (Ac (AA (BK (Be (A3 (Aw Ba (by rfl) T.isi boot_isinstance (Aa (AB AD (pv 0) Af (fun _ _=>rfl)) (Aa (Bm (v:=.ty "str") (by rfl) T.str boot_str rfl) Ab))))) (BO (Ak Hs (AB AD (pv 0) Af (fun _ _=>rfl)) (AB AD (pv 1) Af (fun _ _=>rfl)) (Ao _)))).pt (Ad (Ai Bw)) Al)
  (Ac (AA (Ak AI (AB AD (pv 1) Af (fun _ _=>rfl)) An (Ao _)) (Ad (Ai (Cd (Ah GW hr1 (by rfl) CW.m CW.k CW.b .nil Aq (Aa (AB AD (pv 0) Af (fun _ _=>rfl)) Ab)) (BJ (Bs AI (AB AD (pv 0) Af (fun _ _=>rfl)) (AB AD (pv 1) Af (fun _ _=>rfl)) (Ao _)))))) Al)
  (Ac (BQ PassesOwn.never rfl (Ia (by rfl) B.range (Aa Af (Aa (Aw Av (by rfl) B.len PySem.boot_len (Aa (pv 1) Ab)) Ab))) (AO (i:=2) scTree.nd rfl (Or.inl rfl))
   (Ad (AA (Be (A3 (Ah G hr (by rfl) C.m C.k C.b .nil Aq (Aa (AB AD (pv 0) (pv 2) (fun _ _=>rfl)) (Aa (AB AD (pv 1) (pv 2) (fun _ _=>rfl)) Ab))))) (Ad (Ai Bw)) Al)))
  (Ad (Ai Bw))))),?_⟩
 have two:∃p p' x xs ys,u= .ref p∧v= .ref p'∧H p=some (.tup (.str x::xs))∧H p'=some (.tup (.str x::ys))∧xs.length=ys.length∧ys.length≤2:=by
  cases t with
  | lt k=>
   obtain⟨p,rfl,hp⟩:=hu
   obtain⟨p',rfl,hp'⟩:=hv
   exact⟨p,p',_,_,_,rfl,rfl,hp,hp',rfl,by show 1≤2;decide⟩
  | nt t=>
   obtain⟨p,y,rfl,hp,_⟩:=hu
   obtain⟨p',y',rfl,hp',_⟩:=hv
   exact⟨p,p',_,_,_,rfl,rfl,hp,hp',rfl,by show 1≤2;decide⟩
  | bn j a b=>
   obtain⟨p,y,z,rfl,hp,_⟩:=hu
   obtain⟨p',y',z',rfl,hp',_⟩:=hv
   exact⟨p,p',_,_,_,rfl,rfl,hp,hp',rfl,Nat.le_refl _⟩
 obtain⟨p,p',x,xs,ys,rfl,rfl,hp,hp',hl,hl2⟩:=two
 refine⟨_,rfl,_,_,_,_,rfl,.tup hp,A4 _ _,_,rfl,?_⟩
 refine AX ?_
 refine⟨_,rfl,p,_,rfl,.inr (SqT.of hp),_,rfl,p',_,rfl,.inr (SqT.of hp'),rfl,_,rfl,?_⟩
 refine FS (by show V.int ((xs.length+1:Nat):Int)=V.int ((ys.length+1:Nat):Int);rw[hl]) ?_
 refine⟨_,rfl,p,_,_,_,rfl,rfl,SqT.of hp,Aj (j:=0) rfl,_,_,_,_,rfl,.str _,A4 _ _,_,rfl,?_⟩
 refine AX ?_
 refine⟨_,rfl,p,_,_,_,rfl,rfl,SqT.of hp,Aj (j:=0) rfl,_,rfl,p',_,_,_,rfl,rfl,SqT.of hp',Aj (j:=0) rfl,rfl,_,rfl,?_⟩
 refine FS rfl ?_
 refine⟨_,rfl,p',_,_,_,rfl,rfl,SqT.of hp',Aj (j:=0) rfl,rfl,_,rfl,?_⟩
 cases t with
 | lt k=>
  obtain⟨_,e,h1⟩:=hu
  cases e
  obtain⟨_,e,h2⟩:=hv
  cases e
  rw[hp] at h1
  rw[hp'] at h2
  injection h1 with h1
  injection h1 with h1
  injection h2 with h2
  injection h2 with h2
  injection h1 with e1 e2
  injection h2 with e3 e4
  subst e2 e4
  refine Bb e1 ?_
  refine⟨_,rfl,p,_,_,_,rfl,rfl,SqT.of hp,Aj (j:=1) rfl,_,rfl,_,rfl,?_⟩
  refine Bt ?_
  refine⟨_,rfl,p,_,_,_,rfl,rfl,SqT.of hp,Aj (j:=1) rfl,_,rfl,p',_,_,_,rfl,rfl,SqT.of hp',Aj (j:=1) rfl,rfl,?_⟩
  have e:decide (V.int (k:Int)=V.int (k:Int))=true:=decide_eq_true rfl
  rw[e]
  exact q
 | nt t=>
  obtain⟨_,y,e,h1,hy⟩:=hu
  cases e
  obtain⟨_,y',e,h2,hy'⟩:=hv
  cases e
  rw[hp] at h1
  rw[hp'] at h2
  injection h1 with h1
  injection h1 with h1
  injection h2 with h2
  injection h2 with h2
  injection h1 with e1 e2
  injection h2 with e3 e4
  subst e2 e4
  have hs':t.size+1≤n+1:=hs
  refine AY (by rw[e1];decide) ?_
  refine⟨_,rfl,p',_,rfl,.inr (SqT.of hp'),1,_,rfl,⟨by decide,by decide,(show -(2^62)≤((2:Nat):Int) by decide),(show ((2:Nat):Int)<2^62 by decide)⟩,BC (lo:=1) (n:=1) (fun i σ H2=>∃kv,σ=[some (.ref p),some (.ref p'),kv]∧H2=H) ⟨_,rfl,rfl⟩ ?_ ?_⟩
  ·rintro i σ H2 hi ⟨kv,rfl,rfl⟩
   have e0:i=0:=by omega
   subst e0
   refine⟨_,rfl,_,rfl,p,_,_,_,rfl,rfl,SqT.of hp,Aj (j:=1) rfl,_,rfl,_,rfl,p',_,_,_,rfl,rfl,SqT.of hp',Aj (j:=1) rfl,y,y',t,rfl,hy,hy',by omega,_,rfl,?_⟩
   refine AX ?_
   exact⟨_,rfl,rfl⟩
  ·rintro σ H2 ⟨kv,rfl,rfl⟩
   exact q
 | bn j a b=>
  obtain⟨_,y,z,e,h1,hy,hz⟩:=hu
  cases e
  obtain⟨_,y',z',e,h2,hy',hz'⟩:=hv
  cases e
  rw[hp] at h1
  rw[hp'] at h2
  injection h1 with h1
  injection h1 with h1
  injection h2 with h2
  injection h2 with h2
  injection h1 with e1 e2
  injection h2 with e3 e4
  subst e2 e4
  have hs':a.size+b.size+1≤n+1:=hs
  have ha0:=a.size_pos
  have hb0:=b.size_pos
  refine AY (by rw[e1];exact Fr) ?_
  refine⟨_,rfl,p',_,rfl,.inr (SqT.of hp'),1,_,rfl,⟨by decide,by decide,(show -(2^62)≤((3:Nat):Int) by decide),(show ((3:Nat):Int)<2^62 by decide)⟩,BC (lo:=1) (n:=2) (fun i σ H2=>∃kv,σ=[some (.ref p),some (.ref p'),kv]∧H2=H) ⟨_,rfl,rfl⟩ ?_ ?_⟩
  ·rintro i σ H2 hi ⟨kv,rfl,rfl⟩
   match i,hi with
   | 0,_=>
    refine⟨_,rfl,_,rfl,p,_,_,_,rfl,rfl,SqT.of hp,Aj (j:=1) rfl,_,rfl,_,rfl,p',_,_,_,rfl,rfl,SqT.of hp',Aj (j:=1) rfl,y,y',a,rfl,hy,hy',by omega,_,rfl,?_⟩
    refine AX ?_
    exact⟨_,rfl,rfl⟩
   | 1,_=>
    refine⟨_,rfl,_,rfl,p,_,_,_,rfl,rfl,SqT.of hp,Aj (j:=2) rfl,_,rfl,_,rfl,p',_,_,_,rfl,rfl,SqT.of hp',Aj (j:=2) rfl,z,z',b,rfl,hz,hz',by omega,_,rfl,?_⟩
    refine AX ?_
    exact⟨_,rfl,rfl⟩
  ·rintro σ H2 ⟨kv,rfl,rfl⟩
   exact q
theorem Sh:FnOk P w K mg base AE 1 f fd ["_law_found","_law_due"] (Eo 0):=by
 have no:∀vs H Q E,¬Eo 0 vs H Q E:=fun vs H Q E h=>by
  obtain⟨u,v,t,_,_,_,h1,_⟩:=h
  have:=t.size_pos
  omega
 exact⟨fun vs H Q E h=>absurd h (no vs H Q E),fun A outer s H args us vs Q E _ _ _ _ h=>absurd h (no vs H Q E)⟩
theorem Hc {g:Addr} {gd:FuncData} (F:Fun K "_law_tree_is" "_law_tree_is" Ha f fd) (C:AN K mg "_law_tree_is" f fd ["_law_found","_law_due"]) (GW:FnOk P w K mg base AE 1 g gd ["_law_found"] Ew) (CW:AN K mg "_law_whole" g gd ["_law_found"]) (T:Fq mg) (B:Bl mg) :
  ∀n:Nat,FnOk P w K mg base AE (n+1) f fd ["_law_found","_law_due"] (Eo n)
 | 0=>Sh
 | n+1=>P9 F (Hc F C GW CW T B n) C GW CW T B
end
abbrev FH:Stmt:=Bu 60
section
variable {P:Program} {w:World} {K:PySem.W.Frag} {mg:Str→Option Value} {base:Heap} {f:Addr} {fd:FuncData}
theorem PY:As ["_law_n","_law_room_here"] ["_law_n","_law_room_here"] (Ae FH):=⟨rfl,rfl,rfl,by decide +kernel,rfl,by decide +kernel,by decide +kernel⟩
theorem N1 {e:Addr} {ed:FuncData} (F:Fun K "_law_seen" "_law_seen" FH f fd) (T:Fq mg) (B:Bl mg) (GO:FnOk P w K mg base AE 2 e ed ["_law_n","_law_row"] (B7 K)) (CO:AN K mg "_law_some_one" e ed ["_law_n","_law_row"]):FnOk P w K mg base AE 3 f fd ["_law_n","_law_room_here"] (B7 K):=by
 refine F.ok PY (fun vs H Q E h=>?_) (fun cdv A outer s H vs Q E hr h=>?_)
 ·obtain⟨n,r,row,rfl,_⟩:=h
  rfl
 obtain⟨n,r,row,rfl,hS,hl,hne,q⟩:=h
 have hp:0<row.length:=List.length_pos_iff.mpr hne
 refine⟨_,Ac (AA (Ak FP (Ay AQ (pv 0) Af) Af (Ao _))
   (Ad (Ai (AJ (Aa (AB AM (pv 1) (Ay AQ (Ay AT (pv 0) Af) (Aw Av (by rfl) B.len PySem.boot_len (Aa (pv 1) Ab))) (fun _ _=>rfl)) Ab))))
   Al)
  (Ac (AA (Ak AI (Ay AQ (pv 0) Af) Af (Ao _))
   (Ad (Ai (AR AW (by rfl) T.lst A8 (Aa (pv 1) Ab))))
   Al)
  (Ad (Ai (Ah GO hr (by rfl) CO.m CO.k CO.b .nil Aq (Aa (Ay AT (pv 0) Af) (Aa (pv 1) Ab)))))),?_⟩
 refine⟨_,rfl,_,_,rfl,rfl,(by show (0:Int)<5;decide),_,_,rfl,rfl,_,rfl,?_⟩
 refine BY (fun _=>?_) (fun _=>?_)
 ·obtain⟨k,hk,hm⟩:=OP (n:=n / 5) hne
  refine⟨_,rfl,_,rfl,_,_,rfl,rfl,⟨by decide,by decide⟩,_,rfl,r,_,rfl,.inl hS,_,_,rfl,rfl,(by show (0:Int)<(((row.map V.int).length:Nat):Int);rw[List.length_map];omega),r,_,_,_,rfl,rfl,hS,hk,Nd,fun d hd=>?_⟩
  exact q d [k] _ (Ag hd _) hd upd_same (List.singleton_sublist.mpr hm) (by simp)
 refine⟨_,rfl,_,_,rfl,rfl,(by show (0:Int)<5;decide),rfl,_,rfl,?_⟩
 refine BY (fun _=>?_) (fun _=>?_)
 ·exact⟨_,rfl,r,_,rfl,.inl hS,fun d hd=>q d row _ (Ag hd _) hd upd_same (List.Sublist.refl _) hne⟩
 ·exact⟨_,rfl,_,_,rfl,rfl,⟨by decide,by decide⟩,_,rfl,n / 5,r,row,rfl,hS,hl,hne,q⟩
end
def Bj (seen row:List Int):Str:=if (seen.all fun k=>decide (k∈row))=true then "grant" else if (seen.any fun k=>decide (k∈row))=true then "doubt" else "deny"
def Ir (xs row:List Int):List Int:=xs.filter fun k=>decide (k∈row)
def Ei (xs row:List Int):List Int:=xs.filter fun k=>!decide (k∈row)
theorem LQ (xs row:List Int):Ir xs row=[]↔(xs.any fun k=>decide (k∈row))=false:=by
 unfold Ir
 rw[List.filter_eq_nil_iff]
 constructor
 ·intro h
  rw[Bool.eq_false_iff]
  intro z
  obtain⟨k,hk,hk2⟩:=List.any_eq_true.mp z
  exact h k hk hk2
 ·intro h k hk hk2
  have:(xs.any fun k=>decide (k∈row))=true:=List.any_eq_true.mpr ⟨k,hk,hk2⟩
  rw[h] at this
  cases this
theorem RG (xs row:List Int):(Ir xs row).length≤xs.length:=List.length_filter_le _ _
theorem Pu (xs row:List Int):(Ei xs row).length≤xs.length:=List.length_filter_le _ _
theorem OE {xs:List Int}:(xs.map V.int).isEmpty=decide (xs=[]):=by cases xs<;>simp
def By (sides:List (List Int)) (going seen row:List Int):Str:=
 if Ei going row=[] then "grant" else if Ir going row=[] then "deny"
 else if Bj seen row="grant"∧Br sides (Ir going row)=false then "doubt"
 else if Bj seen row="deny"∧Br sides (Ei going row)=false then "doubt" else Bj seen row
abbrev HQ:Stmt:=Bu 24
section
variable {P:Program} {w:World} {K:PySem.W.Frag} {mg:Str→Option Value} {base:Heap} {f:Addr} {fd:FuncData}
theorem RJ:As ["many"] ["many"] (Ae HQ):=⟨rfl,rfl,rfl,by decide +kernel,rfl,by decide +kernel,by decide +kernel⟩
theorem Ps (F:Fun K "all_worlds" "all_worlds" HQ f fd) (T:Fq mg):FnOk P w K mg base AE 1 f fd ["many"] EM:=by
 refine F.ok RJ (fun vs H Q E h=>?_) (fun cdv A outer s H vs Q E hr h=>?_)
 ·obtain⟨m,rfl,_⟩:=h
  rfl
 obtain⟨m,rfl,h1,h5,q⟩:=h
 refine⟨_,Ad (Ai (AR (Gp rfl) (by rfl) T.lst A8 (Aa (AR Id (by rfl) T.rng boot_range (Aa (Ay Ro Af (pv 0)) Ab)) Ab))),?_⟩
 have e:(1:Int)*2^((m:Int)).toNat=((2^m:Nat):Int):=by rw[Int.one_mul,Int.toNat_natCast,Int.natCast_pow];rfl
 refine⟨_,rfl,_,_,rfl,rfl,⟨by omega,by omega,by decide⟩,_,rfl,fun r hr2=>?_⟩
 have s2:=Ag hr2 (.rng 0 ((1:Int)*2^((m:Int)).toNat))
 refine⟨r,2^m,rfl,(by rw[upd_same];show some (HO.rng 0 ((1:Int)*2^((m:Int)).toNat))=_;rw[e]),Nat.le_trans (He h5) (by decide),fun l2 hl2=>?_⟩
 have s3:=Ag hl2 (.lst ((BW (2^m)).map V.int))
 exact q l2 _ (s2.trans s3) (s2.free hl2) upd_same
end
theorem Mq {K:PySem.W.Frag} {a acc:Addr} {xs vs:List V} {te:TE} {rest:L2.St} {D:Ce} {H:Hp} (hr:SqL K H a xs) (hacc:H acc=none) (hlen:xs.length≤900) (hb:vs.length=xs.length)
  (ht:∀(i:Nat) (x b:V),xs[i]? = some x→vs[i]? = some b→∀H2,Same H H2→∀R:V→Hp→Prop,(∀H3,Same H2 H3→R b H3)→te (some x::rest) H2 R)
  (hd:∀v0 H2,Same H H2→H2 acc=some (.lst vs)→D.nx (v0::rest) H2) (v:Option V) :
  Eu (P4 K a) (Dq 0) (Dw KU (Cf acc te)) D (v::rest) (upd H acc (.lst [])):=by
 refine Bk (K:=K) (a:=a) (xs:=xs) (fun i σ H2=>∃v0,σ=v0::rest∧Same H H2∧H2 acc=some (.lst (vs.take i))) ⟨v,rfl,Ag hacc _,upd_same⟩ ?_ ?_ ?_
 ·rintro i σ H2 _ ⟨v0,rfl,s2,_⟩
  exact s2.seq hr
 ·rintro i x σ H2 hx ⟨v0,rfl,s2,ha2⟩
  have hi:i<vs.length:=by
   have:=(List.getElem?_eq_some_iff.mp hx).1
   omega
  have hbi:vs[i]? = some vs[i]:=List.getElem?_eq_getElem hi
  have et:vs.take (i+1)=vs.take i++[vs[i]]:=by rw[List.take_add_one,hbi];rfl
  show Cf acc te _ _ _
  refine ht i x _ hx hbi H2 s2 _ fun H3 s3=>?_
  refine⟨_,s3 _ _ ha2,AF ?_,?_⟩
  ·rw[List.length_take]
   omega
  refine⟨_,rfl,AH (s2.trans s3) hacc _,?_⟩
  rw[upd_same,et]
 ·rintro σ H2 ⟨v0,rfl,s2,ha2⟩
  rw[←hb,List.take_length] at ha2
  exact hd v0 H2 s2 ha2
def alw:Tr:=.bn 1 (.lt 0) (.nt (.lt 0))
def nev:Tr:=.bn 0 (.lt 0) (.nt (.lt 0))
theorem IZ (w:Int):tv alw w=true:=by show (BR 0 w || !BR 0 w)=true;cases BR 0 w<;>rfl
theorem Kz (w:Int):tv nev w=false:=by show (BR 0 w && !BR 0 w)=false;cases BR 0 w<;>rfl
def FK (t u:Tr):Tr:=if u=alw then t else .bn 0 t u
def Bp (k:Nat) (a b:Tr):Tr:=
 if a=b then b else if a=nev then FK (.lt k) b else if b=nev then FK (.nt (.lt k)) a else if a=alw then .bn 2 (.lt k) b else if b=alw then .bn 1 (.lt k) a else .bn 0 (.bn 2 (.lt k) b) (.bn 1 (.lt k) a)
theorem K9 (t u:Tr) (w:Int):tv (FK t u) w=(tv t w && tv u w):=by
 unfold FK
 by_cases h:u=alw
 ·rw[if_pos h,h,IZ,Bool.and_true]
 ·rw[if_neg h];rfl
theorem SO (k:Nat) (a b:Tr) (w:Int):tv (Bp k a b) w=if BR k w=true then tv b w else tv a w:=by
 unfold Bp
 by_cases h0:a=b
 ·rw[if_pos h0,h0];split<;>rfl
 rw[if_neg h0]
 by_cases h1:a=nev
 ·rw[if_pos h1,K9,h1,Kz]
  show (BR k w && tv b w)=_
  cases BR k w<;>rfl
 rw[if_neg h1]
 by_cases h2:b=nev
 ·rw[if_pos h2,K9,h2,Kz]
  show (!BR k w && tv a w)=_
  cases BR k w<;>rfl
 rw[if_neg h2]
 by_cases h3:a=alw
 ·rw[if_pos h3,h3,IZ]
  show (!BR k w || tv b w)=_
  cases BR k w<;>rfl
 rw[if_neg h3]
 by_cases h4:b=alw
 ·rw[if_pos h4,h4,IZ]
  show (BR k w || tv a w)=_
  cases BR k w<;>rfl
 rw[if_neg h4]
 show ((!BR k w || tv b w) && (BR k w || tv a w))=_
 cases BR k w<;>simp
theorem IC {m:Nat} (h:0<m):alw.ok m:=⟨by decide,h,h⟩
theorem Kj {m:Nat} (h:0<m):nev.ok m:=⟨by decide,h,h⟩
structure La (m d z:Nat) (t:Tr):Prop where
 ok:t.ok m
 hgt:t.hgt≤d
 size:t.size≤z
theorem Jo {m d z k:Nat} {t u:Tr} (hk:k<m) (ht:t= .lt k∨t= .nt (.lt k)) (hu:La m d z u):La m (d+2) (z+3) (FK t u):=by
 have e:t.ok m∧t.hgt≤1∧t.size≤2:=by
  rcases ht with rfl | rfl
  ·exact⟨hk,Nat.zero_le _,by show 1≤2;decide⟩
  ·exact⟨hk,by show 0+1≤1;decide,by show 1+1≤2;decide⟩
 obtain⟨e1,e2,e3⟩:=e
 have h2:=hu.hgt
 have h3:=hu.size
 unfold FK
 split
 ·exact⟨e1,by omega,by omega⟩
 ·exact⟨⟨by decide,e1,hu.ok⟩,by show max t.hgt u.hgt+1≤d+2;omega,by show t.size+u.size+1≤z+3;omega⟩
theorem RN {m d z k:Nat} {a b:Tr} (hk:k<m) (ha:La m d z a) (hb:La m d z b):La m (d+2) (2*z+5) (Bp k a b):=by
 have a2:=ha.hgt
 have a3:=ha.size
 have b2:=hb.hgt
 have b3:=hb.size
 have wd:∀{t:Tr},La m (d+2) (z+3) t→La m (d+2) (2*z+5) t:=fun h=>⟨h.ok,h.hgt,by have:=h.size;omega⟩
 unfold Bp
 split
 ·exact⟨hb.ok,by omega,by omega⟩
 ·split
  ·exact wd (Jo hk (.inl rfl) hb)
  ·split
   ·exact wd (Jo hk (.inr rfl) ha)
   ·split
    ·exact⟨⟨by decide,hk,hb.ok⟩,by show max 0 b.hgt+1≤d+2;omega,by show 1+b.size+1≤2*z+5;omega⟩
    ·split
     ·exact⟨⟨by decide,hk,ha.ok⟩,by show max 0 a.hgt+1≤d+2;omega,by show 1+a.size+1≤2*z+5;omega⟩
     ·exact⟨⟨by decide,⟨by decide,hk,hb.ok⟩,⟨by decide,hk,ha.ok⟩⟩,by show max (max 0 b.hgt+1) (max 0 a.hgt+1)+1≤d+2;omega,by show (1+b.size+1)+(1+a.size+1)+1≤2*z+5;omega⟩
def EB (k:Nat) (ts:List Tr) (n:Nat):List Tr:=(List.range n).map fun i=>Bp k (ts.getD (2*i) nev) (ts.getD (2*i+1) nev)
theorem Ib (k:Nat) (ts:List Tr) (n:Nat):(EB k ts n).length=n:=by unfold EB;simp
theorem Kx (k:Nat) (ts:List Tr) (n:Nat):EB k ts (n+1)=EB k ts n++[Bp k (ts.getD (2*n) nev) (ts.getD (2*n+1) nev)]:=by
 unfold EB
 rw[List.range_succ,List.map_append]
 rfl
def zb:Nat→Nat
 | 0=>4
 | j+1=>2*zb j+5
structure SS (m j:Nat) (row:List Int) (ts:List Tr):Prop where
 len:ts.length=2^(m-j)
 fit:∀t∈ts,La m (2+2*j) (zb j) t
 tru:∀(i:Nat) (t:Tr) (w:Int),ts[i]? = some t→0≤w→tv t w=decide (((i:Int)*2^j+w%2^j)∈row)
def L8 (m:Nat) (row:List Int):List Tr:=(BW (2^m)).map fun w=>if w∈row then alw else nev
theorem Ql {m:Nat} (h:0<m) (row:List Int):SS m 0 row (L8 m row):=by
 refine⟨by unfold L8;rw[List.length_map,DO];rfl,fun t ht=>?_,fun i t w hi hw=>?_⟩
 ·unfold L8 at ht
  obtain⟨k,_,rfl⟩:=List.mem_map.mp ht
  split
  ·exact⟨IC h,by decide,by decide⟩
  ·exact⟨Kj h,by decide,by decide⟩
 ·unfold L8 at hi
  rw[List.getElem?_map] at hi
  obtain⟨k,hk,rfl⟩:=Option.map_eq_some_iff.mp hi
  have ek:k=(i:Int):=by
   unfold BW at hk
   rw[List.getElem?_map] at hk
   obtain⟨x,hx,rfl⟩:=Option.map_eq_some_iff.mp hk
   obtain⟨h1,h2⟩:=List.getElem?_eq_some_iff.mp hx
   rw[List.getElem_range] at h2
   omega
  subst ek
  have e:(i:Int)*2^0+w%2^0=(i:Int):=by
   have:(2:Int)^0=1:=rfl
   rw[this];omega
  rw[e]
  by_cases hm:(i:Int)∈row
  ·rw[if_pos hm,IZ,decide_eq_true hm]
  ·rw[if_neg hm,Kz,decide_eq_false hm]
theorem Ng (w:Int) (j:Nat):w%2^(j+1)=w%2^j+2^j*(w / 2^j%2):=by
 have ha:(0:Int)<2^j:=pow_pos j
 rw[Int.pow_succ]
 generalize (2:Int)^j=a at ha
 have h1:=Int.emod_add_mul_ediv w a
 have h2:=Int.emod_add_mul_ediv (w / a) 2
 have n1:=Int.emod_nonneg w (show a≠0 by omega)
 have n2:=Int.emod_lt_of_pos w ha
 have e:(w%a+a*(w / a%2))+(a*2)*(w / a / 2)=w:=by
  rw[Int.mul_assoc,Int.add_assoc,←Int.mul_add,h2,h1]
 rcases Int.emod_two_eq (w / a) with z | z
 ·rw[z,Int.mul_zero,Int.add_zero] at e ⊢
  rw[←e,Int.add_mul_emod_self_left,e,Int.emod_eq_of_lt n1 (by omega)]
 ·rw[z,Int.mul_one] at e ⊢
  rw[←e,Int.add_mul_emod_self_left,e,Int.emod_eq_of_lt (by omega) (by omega)]
theorem NK {m j:Nat} {row:List Int} {ts:List Tr} (hj:j<m) (h:SS m j row ts):SS m (j+1) row (EB j ts (2^(m-(j+1)))):=by
 have e2:2^(m-j)=2*2^(m-(j+1)):=by
  rw[show m-j=(m-(j+1))+1 by omega,Nat.pow_succ,Nat.mul_comm]
 have hl:=h.len
 refine⟨Ib _ _ _,fun t ht=>?_,fun i t w hi hw=>?_⟩
 ·unfold EB at ht
  obtain⟨i,hi,rfl⟩:=List.mem_map.mp ht
  have hi':=List.mem_range.mp hi
  have g:∀q,q<ts.length→La m (2+2*j) (zb j) (ts.getD q nev):=fun q hq=>by
   rw[List.getD_eq_getElem?_getD,List.getElem?_eq_getElem hq]
   exact h.fit _ (List.getElem_mem hq)
  have:=RN hj (g (2*i) (by omega)) (g (2*i+1) (by omega))
  exact⟨this.ok,by have:=this.hgt;omega,this.size⟩
 ·unfold EB at hi
  rw[List.getElem?_map] at hi
  obtain⟨x,hx,rfl⟩:=Option.map_eq_some_iff.mp hi
  obtain⟨h1,h2⟩:=List.getElem?_eq_some_iff.mp hx
  rw[List.getElem_range] at h2
  subst h2
  rw[List.length_range] at h1
  have g:∀q,q<ts.length→ts[q]? = some (ts.getD q nev):=fun q hq=>by
   rw[List.getD_eq_getElem?_getD,List.getElem?_eq_getElem hq]
   rfl
  have t0:=h.tru (2*i) _ w (g (2*i) (by omega)) hw
  have t1:=h.tru (2*i+1) _ w (g (2*i+1) (by omega)) hw
  rw[SO,t0,t1,Ng]
  have ep:(2:Int)^(j+1)=2^j*2:=Int.pow_succ 2 j
  unfold BR
  have c2:((2*i:Nat):Int)=2*(i:Int):=by omega
  have c3:((2*i+1:Nat):Int)=2*(i:Int)+1:=by omega
  rw[ep,c2,c3]
  have em:=Int.emod_two_eq (w / 2^j)
  rcases em with em | em
  ·rw[em]
   have ez:(2*(i:Int))*2^j+w%2^j=(i:Int)*(2^j*2)+(w%2^j+2^j*0):=by
    rw[Int.mul_zero,Int.add_zero,Int.mul_comm 2 (i:Int),Int.mul_assoc,Int.mul_comm 2 (2^j)]
   rw[←ez]
   simp
  ·rw[em]
   have ez:(2*(i:Int)+1)*2^j+w%2^j=(i:Int)*(2^j*2)+(w%2^j+2^j*1):=by
    rw[Int.add_mul,Int.one_mul,Int.mul_one,Int.mul_comm 2 (i:Int),Int.mul_assoc,Int.mul_comm 2 (2^j)]
    omega
   rw[←ez]
   simp
abbrev Fw:Stmt:=Bu 28
abbrev B6:Stmt:=Bu 27
abbrev BB:Stmt:=Bu 26
structure KC (K:PySem.W.Frag) (mg:Str→Option Value) (aA aN:Addr):Prop where
 mA:mg "ALWAYS"=some (.ref aA)
 mN:mg "NEVER"=some (.ref aN)
 tA:∀H,alw.AtK K H (.ref aA)
 tN:∀H,nev.AtK K H (.ref aN)
def LD (K:PySem.W.Frag):Sp:=fun vs H Q _=>∃(v1 v2:V) (t u:Tr) (m:Nat),vs=[v1,v2]∧0<m∧t.ok m∧u.ok m∧t.AtK K H v1∧u.AtK K H v2∧u.hgt≤100∧∀(v:V) (H':Hp),Same H H'→(FK t u).AtK K H' v→Q v H'
def Hd (K:PySem.W.Frag):Sp:=fun vs H Q _=>∃(k m:Nat) (v1 v2:V) (a b:Tr),vs=[.int (k:Int),v1,v2]∧k<m∧a.ok m∧b.ok m∧a.AtK K H v1∧b.AtK K H v2∧a.hgt≤90∧b.hgt≤90∧∀(v:V) (H':Hp),Same H H'→(Bp k a b).AtK K H' v→Q v H'
def EI (K:PySem.W.Frag):Sp:=fun vs H Q _=>∃(r:Addr) (row:List Int) (m:Nat),vs=[.ref r,.int (m:Int)]∧SqL K H r (row.map V.int)∧1≤m∧m≤5∧
 ∀(v:V) (t:Tr) (H':Hp),Same H H'→t.AtK K H' v→La m 12 283 t→(∀w:Int,0≤w→w<2^m→tv t w=decide (w∈row))→Q v H'
theorem Sa {tb:L2.TS} {D:Ce} {σ:L2.St} {H:Hp} (h:tb D σ H):Dw KU tb D σ H:=by
 show if true=true then tb D σ H else D.nx σ H
 rw[if_pos rfl]
 exact h
section
variable {P:Program} {w:World} {K:PySem.W.Frag} {mg:Str→Option Value} {base:Heap} {f:Addr} {fd:FuncData} {aA aN:Addr}
theorem QF:As ["one","other"] ["one","other"] (Ae Fw):=⟨rfl,rfl,rfl,by decide +kernel,rfl,by decide +kernel,by decide +kernel⟩
theorem Os (F:Fun K "both" "both" Fw f fd) (C:KC K mg aA aN):FnOk P w K mg base AE 1 f fd ["one","other"] (LD K):=by
 refine F.ok QF (fun vs H Q E h=>?_) (fun cdv A outer s H vs Q E hr h=>?_)
 ·obtain⟨v1,v2,t,u,m,rfl,_⟩:=h
  rfl
 obtain⟨v1,v2,t,u,m,rfl,hm,ht,hu,h1,h2,hg,q⟩:=h
 refine⟨_,Ac (AA (Ak (D5 hr.units150) (pv 1) (Di (v:=.ref aA) (by rfl) C.mA rfl) (Ao _))
   (Ad (Ai (pv 0)))
   Al)
  (Ad (Ai (AU (Aa An (Aa (pv 0) (Aa (pv 1) Ab)))))),?_⟩
 unfold FK at q
 refine⟨_,rfl,u,alw,m,hu,IC hm,h2,C.tA _,hg,_,rfl,?_⟩
 by_cases h0:u=alw
 ·refine Bb h0 ?_
  simp only[if_pos h0] at q
  exact⟨_,rfl,q _ _ (Same.refl _) h1⟩
 ·refine AY h0 ?_
  simp only[if_neg h0] at q
  refine⟨_,rfl,_,rfl,IO,fun p hp=>?_⟩
  have s1:=Ag hp (.tup [.str "and",v1,v2])
  exact q _ _ s1 ⟨p,v1,v2,rfl,.inl upd_same,h1.same s1,h2.same s1⟩
theorem KJ:As ["letter","without","within"] ["letter","without","within"] (Ae B6):=⟨rfl,rfl,rfl,by decide +kernel,rfl,by decide +kernel,by decide +kernel⟩
set_option maxHeartbeats 4000000 in
theorem Jx {g:Addr} {gd:FuncData} (F:Fun K "by_letter" "by_letter" B6 f fd) (C:KC K mg aA aN) (GB:FnOk P w K mg base AE 1 g gd ["one","other"] (LD K)) (CB:AN K mg "both" g gd ["one","other"]):FnOk P w K mg base AE 2 f fd ["letter","without","within"] (Hd K):=by
 refine F.ok KJ (fun vs H Q E h=>?_) (fun cdv A outer s H vs Q E hr h=>?_)
 ·obtain⟨k,m,v1,v2,a,b,rfl,_⟩:=h
  rfl
 obtain⟨k,m,v1,v2,a,b,rfl,hk,ha,hb,h1,h2,g1,g2,q⟩:=h
 have hm:0<m:=by omega
 refine⟨_,Ac (AA (Ak (D5 hr.units150) (pv 1) (pv 2) (Ao _))
   (Ad (Ai (pv 2)))
   Al)
  (Ac (AA (Ak (D5 hr.units150) (pv 1) (Di (v:=.ref aN) (by rfl) C.mN rfl) (Ao _))
   (Ad (Ai (Ah GB hr (by rfl) CB.m CB.k CB.b .nil Aq (Aa (AU (Aa An (Aa (pv 0) Ab))) (Aa (pv 2) Ab)))))
   Al)
  (Ac (AA (Ak (D5 hr.units150) (pv 2) (Di (v:=.ref aN) (by rfl) C.mN rfl) (Ao _))
   (Ad (Ai (Ah GB hr (by rfl) CB.m CB.k CB.b .nil Aq (Aa (AU (Aa An (Aa (AU (Aa An (Aa (pv 0) Ab))) Ab))) (Aa (pv 1) Ab)))))
   Al)
  (Ac (AA (Ak (D5 hr.units150) (pv 1) (Di (v:=.ref aA) (by rfl) C.mA rfl) (Ao _))
   (Ad (Ai (AU (Aa An (Aa (AU (Aa An (Aa (pv 0) Ab))) (Aa (pv 2) Ab))))))
   Al)
  (Ac (AA (Ak (D5 hr.units150) (pv 2) (Di (v:=.ref aA) (by rfl) C.mA rfl) (Ao _))
   (Ad (Ai (AU (Aa An (Aa (AU (Aa An (Aa (pv 0) Ab))) (Aa (pv 1) Ab))))))
   Al)
  (Ad (Ai (AU (Aa An (Aa (AU (Aa An (Aa (AU (Aa An (Aa (pv 0) Ab))) (Aa (pv 2) Ab)))) (Aa (AU (Aa An (Aa (AU (Aa An (Aa (pv 0) Ab))) (Aa (pv 1) Ab)))) Ab)))))))))),?_⟩
 unfold Bp at q
 refine⟨_,rfl,_,rfl,a,b,m,ha,hb,h1,h2,by omega,_,rfl,?_⟩
 by_cases h0:a=b
 ·refine Bb h0 ?_
  simp only[if_pos h0] at q
  exact⟨_,rfl,q _ _ (Same.refl _) h2⟩
 refine AY h0 ?_
 simp only[if_neg h0] at q
 refine⟨_,rfl,a,nev,m,ha,Kj hm,h1,C.tN _,by omega,_,rfl,?_⟩
 by_cases h3:a=nev
 ·refine Bb h3 ?_
  simp only[if_pos h3] at q
  refine⟨_,rfl,DP,fun p hp=>?_⟩
  have s1:=Ag hp (.tup [.str "let",.int (k:Int)])
  exact⟨_,rfl,_,v2,.lt k,b,m,rfl,hm,hk,hb,⟨p,rfl,.inl upd_same⟩,h2.same s1,by omega,fun v H' s' hv=>q v H' (s1.trans s') hv⟩
 refine AY h3 ?_
 simp only[if_neg h3] at q
 refine⟨_,rfl,b,nev,m,hb,Kj hm,h2,C.tN _,by omega,_,rfl,?_⟩
 by_cases h4:b=nev
 ·refine Bb h4 ?_
  simp only[if_pos h4] at q
  refine⟨_,rfl,DP,fun p hp=>?_⟩
  have s1:=Ag hp (.tup [.str "let",.int (k:Int)])
  refine⟨DP,fun p2 hp2=>?_⟩
  have s2:=Ag hp2 (.tup [.str "not",.ref p])
  have s12:=s1.trans s2
  exact⟨_,rfl,_,v1,.nt (.lt k),a,m,rfl,hm,hk,ha,⟨p2,_,rfl,.inl upd_same,p,rfl,.inl (s2 _ _ upd_same)⟩,h1.same s12,by omega,fun v H' s' hv=>q v H' (s12.trans s') hv⟩
 refine AY h4 ?_
 simp only[if_neg h4] at q
 refine⟨_,rfl,a,alw,m,ha,IC hm,h1,C.tA _,by omega,_,rfl,?_⟩
 by_cases h5:a=alw
 ·refine Bb h5 ?_
  simp only[if_pos h5] at q
  refine⟨_,rfl,DP,fun p hp=>?_⟩
  have s1:=Ag hp (.tup [.str "let",.int (k:Int)])
  refine⟨_,rfl,IO,fun p2 hp2=>?_⟩
  have s2:=Ag hp2 (.tup [.str "if",.ref p,v2])
  have s12:=s1.trans s2
  exact q _ _ s12 ⟨p2,_,_,rfl,.inl upd_same,⟨p,rfl,.inl (s2 _ _ upd_same)⟩,h2.same s12⟩
 refine AY h5 ?_
 simp only[if_neg h5] at q
 refine⟨_,rfl,b,alw,m,hb,IC hm,h2,C.tA _,by omega,_,rfl,?_⟩
 by_cases h6:b=alw
 ·refine Bb h6 ?_
  simp only[if_pos h6] at q
  refine⟨_,rfl,DP,fun p hp=>?_⟩
  have s1:=Ag hp (.tup [.str "let",.int (k:Int)])
  refine⟨_,rfl,IO,fun p2 hp2=>?_⟩
  have s2:=Ag hp2 (.tup [.str "or",.ref p,v1])
  have s12:=s1.trans s2
  exact q _ _ s12 ⟨p2,_,_,rfl,.inl upd_same,⟨p,rfl,.inl (s2 _ _ upd_same)⟩,h1.same s12⟩
 refine AY h6 ?_
 simp only[if_neg h6] at q
 refine⟨_,rfl,DP,fun p hp=>?_⟩
 have s1:=Ag hp (.tup [.str "let",.int (k:Int)])
 refine⟨_,rfl,IO,fun p2 hp2=>?_⟩
 have s2:=Ag hp2 (.tup [.str "if",.ref p,v2])
 refine⟨_,rfl,DP,fun p3 hp3=>?_⟩
 have s3:=Ag hp3 (.tup [.str "let",.int (k:Int)])
 refine⟨_,rfl,IO,fun p4 hp4=>?_⟩
 have s4:=Ag hp4 (.tup [.str "or",.ref p3,v1])
 refine⟨IO,fun p5 hp5=>?_⟩
 have s5:=Ag hp5 (.tup [.str "and",.ref p2,.ref p4])
 have s25:=s3.trans (s4.trans s5)
 have s45:=s4.trans s5
 have s15:=s1.trans (s2.trans s25)
 exact q _ _ s15 ⟨p5,_,_,rfl,.inl upd_same,⟨p2,_,_,rfl,.inl (s25 _ _ upd_same),⟨p,rfl,.inl (s2.trans s25 _ _ upd_same)⟩,h2.same s15⟩,⟨p4,_,_,rfl,.inl (s5 _ _ upd_same),⟨p3,rfl,.inl (s45 _ _ upd_same)⟩,h1.same s15⟩⟩
theorem scSentenceOf:As ["worlds","many","parts","letter"] ["worlds","many"] (Ae BB):=⟨rfl,rfl,rfl,by decide +kernel,rfl,by decide +kernel,by decide +kernel⟩
theorem Kh {m d z:Nat} {ts:List Tr} (h:∀t∈ts,La m d z t) {i:Nat} {t:Tr} (e:ts[i]? = some t):La m d z t:=h t (List.mem_of_getElem? e)
theorem Ui {j:Nat} (h:j≤5):zb j≤283:=by
 match j,h with
 | 0,_=>decide
 | 1,_=>decide
 | 2,_=>decide
 | 3,_=>decide
 | 4,_=>decide
 | 5,_=>decide
set_option maxHeartbeats 4000000 in
theorem Hz {g g2:Addr} {gd gd2:FuncData} (F:Fun K "sentence_of" "sentence_of" BB f fd) (C:KC K mg aA aN) (B:Bl mg) (GA:FnOk P w K mg base AE 1 g gd ["many"] EM) (CA:AN K mg "all_worlds" g gd ["many"])
  (GB:FnOk P w K mg base AE 2 g2 gd2 ["letter","without","within"] (Hd K)) (CB:AN K mg "by_letter" g2 gd2 ["letter","without","within"]):FnOk P w K mg base AE 3 f fd ["worlds","many"] (EI K):=by
 refine F.ok scSentenceOf (fun vs H Q E h=>?_) (fun cdv A outer s H vs Q E hr h=>?_)
 ·obtain⟨r,row,m,rfl,_⟩:=h
  rfl
 obtain⟨r,row,m,rfl,hS,hm1,hm5,q⟩:=h
 have hr1:Room 1 _:=hr.mono (by decide)
 have h32:=He hm5
 refine⟨_,Ac (Au (i:=2) scSentenceOf.nd rfl (Or.inr rfl) (Cc (N:=["world","worlds"]) (js:=[none,some 0]) (cl:=[("worlds",s.heap.objs.size+1)]) ⟨rfl,rfl,rfl,(by intro p hp;simp at hp;rcases hp with rfl<;>rfl),rfl,rfl,rfl⟩ (Bn (Ah GA hr1 (by rfl) CA.m CA.k CA.b .nil Aq (Aa (pv 1) Ab))) (fun c1=>(AO (i:=0) (show (["world","worlds"]:List Str).Nodup by decide +kernel) rfl (Or.inl rfl))) (fun c1=>Dg) (fun c1=>(Oq (Ak Mj (pv 0) (pv 1) (by with_unfolding_all rfl)) (Di (v:=.ref aA) (by rfl) C.mA rfl) (Di (v:=.ref aN) (by rfl) C.mN rfl)))))
  (Ac (BQ PassesOwn.never rfl (Dd (by rfl) B.range (Aa (pv 1) Ab)) (AO (i:=3) scSentenceOf.nd rfl (Or.inr rfl))
   (Ad (Au (i:=2) scSentenceOf.nd rfl (Or.inr rfl) (Cc (N:=["at","letter","parts"]) (js:=[none,some 3,some 2]) (cl:=[("parts",s.heap.objs.size+2),("letter",s.heap.objs.size+3)]) ⟨rfl,rfl,rfl,(by intro p hp;simp at hp;rcases hp with rfl | rfl<;>rfl),rfl,rfl,rfl⟩ (MN (by rfl) B.range (Aa Af (Aa (Aw Av (by rfl) B.len PySem.boot_len (Aa (pv 2) Ab)) (Aa Af Ab)))) (fun c1=>(AO (i:=0) (show (["at","letter","parts"]:List Str).Nodup by decide +kernel) rfl (Or.inl rfl))) (fun c1=>Dg) (fun c1=>(Ah GB hr (by rfl) CB.m CB.k CB.b .nil Aq (Aa (pv 1) (Aa (AB AM (pv 2) (pv 0) (fun _ _=>rfl)) (Aa (AB AM (pv 2) (Ay Bz (pv 0) Af) (fun _ _=>rfl)) Ab)))))))))
  (Ad (Ai (AB AM (pv 2) Af (fun _ _=>rfl))))),?_⟩
 refine⟨_,rfl,m,rfl,hm1,hm5,fun wl H1 s1 hwl0 hwl=>?_⟩
 refine⟨wl,rfl,⟨_,SqL.of hwl⟩,fun c1 acc hacc=>Mq (vs:=(BW (2^m)).map fun k=>if k∈row then V.ref aA else V.ref aN) (rest:=[some (.ref r)]) (SqL.of hwl) hacc (by rw[List.length_map,DO];omega) (by rw[List.length_map,List.length_map]) (fun i x b hx hb H2 s2 R hR=>?_) (fun v0 H2 s2 h2=>?_) none⟩
 ·rw[List.getElem?_map] at hx hb
  obtain⟨k,hk,rfl⟩:=Option.map_eq_some_iff.mp hx
  rw[hk] at hb
  have hb':(if k∈row then V.ref aA else V.ref aN)=b:=Option.some.inj hb
  refine⟨_,rfl,_,rfl,RI ((s1.trans s2).seq hS) ⟨_,rfl,?_⟩⟩
  by_cases hm:k∈row
  ·refine Bb hm ?_
   rw[if_pos hm] at hb'
   subst hb'
   exact hR H2 (Same.refl _)
  ·refine AY hm ?_
   rw[if_neg hm] at hb'
   subst hb'
   exact hR H2 (Same.refl _)
 have P0:PileK K H2 ((BW (2^m)).map fun k=>if k∈row then V.ref aA else V.ref aN) (L8 m row):=by
  unfold L8
  generalize BW (2^m)=us
  induction us with
  | nil=>exact .nil
  | cons k us ih=>
   refine .cons ?_ ih
   show Tr.AtK K H2 (if k∈row then alw else nev) (if k∈row then V.ref aA else V.ref aN)
   by_cases hm:k∈row
   ·rw[if_pos hm,if_pos hm];exact C.tA _
   ·rw[if_neg hm,if_neg hm];exact C.tN _
 refine⟨_,rfl,_,rfl,(by omega),(by omega),BC (fun j σ H3=>∃(pl:Addr) (lv:Option V) (xs:List V) (ts:List Tr),σ=[some (.ref r),some (.int (m:Int)),some (.ref pl),lv]∧Same H H3∧H3 pl=some (.lst xs)∧PileK K H3 xs ts∧SS m j row ts) ⟨acc,_,_,_,rfl,s1.trans s2,h2,P0,Ql (by omega) row⟩ ?_ ?_⟩
 ·rintro j σ H3 hj ⟨pl,lv,xs,ts,rfl,s3,h3,p3,L3⟩
  have hj':j<m:=by
   have:j<((m:Int)).toNat:=hj
   omega
  rw[Int.zero_add]
  have hlen:=p3.len
  have hl3:=L3.len
  have e2:2^(m-j)=2*2^(m-(j+1)):=by
   rw[show m-j=(m-(j+1))+1 by omega,Nat.pow_succ,Nat.mul_comm]
  have hb1:2^(m-(j+1))≤32:=Nat.le_trans (Nat.pow_le_pow_right (by decide) (show m-(j+1)≤5 by omega)) (by decide)
  refine⟨_,rfl,pl,_,rfl,.inl (SqL.of h3),2^(m-(j+1)),?_,by omega,fun c1 ac hac=>OH (n:=2^(m-(j+1))) (fun i σ H4=>∃(v0:Option V) (ys:List V),σ=[v0,some (.int (j:Int)),some (.ref pl)]∧Same H3 H4∧H4 ac=some (.lst ys)∧PileK K H4 ys (EB j ts i)) ⟨_,[],rfl,Ag hac _,upd_same,.nil⟩ ?_ ?_⟩
  ·have:(xs.length:Int)=2*((2^(m-(j+1)):Nat):Int):=by omega
   rw[this]
  ·rintro i σ H4 hi ⟨v0,ys,rfl,s4,h4,p4⟩
   have hp4:=s4 _ _ h3
   have q3:=p3.keep (TS.same s4)
   have i0:2*i<ts.length:=by omega
   have i1:2*i+1<ts.length:=by omega
   have t0:ts[2*i]? = some (ts.getD (2*i) nev):=by rw[List.getD_eq_getElem?_getD,List.getElem?_eq_getElem i0];rfl
   have t1:ts[2*i+1]? = some (ts.getD (2*i+1) nev):=by rw[List.getD_eq_getElem?_getD,List.getElem?_eq_getElem i1];rfl
   obtain⟨x0,hx0,a0⟩:=q3.at t0
   obtain⟨x1,hx1,a1⟩:=q3.at t1
   have f0:=Kh L3.fit t0
   have f1:=Kh L3.fit t1
   have g0:=f0.hgt
   have g1:=f1.hgt
   show Dw KU (Cf ac _) _ _ _
   refine Sa ?_
   refine⟨_,rfl,_,rfl,_,rfl,pl,_,_,_,rfl,rfl,SqL.of hp4,?_,_,rfl,_,rfl,_,_,rfl,rfl,pl,_,_,_,rfl,rfl,SqL.of hp4,?_,j,m,x0,x1,_,_,rfl,hj',f0.ok,f1.ok,a0,a1,by omega,by omega,fun v H5 s5 hv=>?_⟩
   ·exact (show FV xs ((2*i:Nat):Int)=some x0 from Aj hx0)
   ·exact (show FV xs ((2*i+1:Nat):Int)=some x1 from Aj hx1)
   ·have h5:=s5 _ _ h4
    have ly:=p4.len
    rw[Ib] at ly
    refine⟨_,h5,AF (by omega),?_⟩
    have k5:HT2.TS H5 (upd H5 ac (.lst (ys++[v]))):=TS.lst h5
    refine⟨_,ys++[v],rfl,AH (s4.trans s5) hac _,upd_same,?_⟩
    rw[Kx]
    exact ((p4.keep (TS.same s5)).keep k5).snoc (hv.keep k5)
  ·rintro σ H4 ⟨v0,ys,rfl,s4,h4,p4⟩
   exact⟨ac,_,ys,_,rfl,s3.trans s4,h4,p4,NK hj' L3⟩
 ·rintro σ H3 ⟨pl,lv,xs,ts,rfl,s3,h3,p3,L3⟩
  have em:((m:Int)).toNat=m:=rfl
  rw[em] at L3
  have hl:=L3.len
  rw[Nat.sub_self] at hl
  have h0:ts[0]? = some (ts.getD 0 nev):=by rw[List.getD_eq_getElem?_getD,List.getElem?_eq_getElem (by omega)];rfl
  obtain⟨x0,hx0,a0⟩:=p3.at h0
  have f0:=Kh L3.fit h0
  have f1:=f0.hgt
  have f2:=f0.size
  refine⟨_,rfl,pl,_,_,_,rfl,rfl,SqL.of h3,Aj (j:=0) hx0,q x0 _ H3 s3 a0 ⟨f0.ok,by omega,Nat.le_trans f2 (Ui hm5)⟩ fun w hw0 hw1=>?_⟩
  rw[L3.tru 0 _ w h0 hw0]
  have e:((0:Nat):Int)*2^m+w%2^m=w:=by
   rw[Int.emod_eq_of_lt hw0 hw1]
   simp
  rw[e]
end
theorem Qy {i:Nat} {v:V} {σ σ' σ0:L2.St} {H:Hp} {N B C:L2.St→Hp→Prop} {R:VK} (e:σ.set i (some v)=σ') (h:N σ' H):({ nx:=fun _ H'=>(fun x H1=>Dq i x σ H1 N) v H',rt:=R,bk:=B,ct:=C }:Ce).nx σ0 H:=by
 subst e
 exact h
theorem Ix {t u:L2.TS} {D:Ce} {R:VK} {B C:L2.St→Hp→Prop} {σ:L2.St} {H:Hp} (Mid:L2.St→Hp→Prop) (h2:∀σ' H',Mid σ' H'→u D σ' H') (h1:(∀σ' H',Mid σ' H'→u D σ' H')→t { D with nx:=u D } σ H):({ nx:=OT t u D,rt:=R,bk:=B,ct:=C }:Ce).nx σ H:=h1 h2
theorem Rw {i:Nat} {v:V} {σ σ':L2.St} {H:Hp} {N:L2.St→Hp→Prop} (e:σ.set i (some v)=σ') (h:N σ' H):Dq i v σ H N:=by
 subst e
 exact h
theorem Ld {t u:L2.TS} {D:Ce} {σ:L2.St} {H:Hp} (Mid:L2.St→Hp→Prop) (h2:∀σ' H',Mid σ' H'→u D σ' H') (h1:(∀σ' H',Mid σ' H'→u D σ' H')→t { D with nx:=u D } σ H):OT t u D σ H:=h1 h2
def Wr (row:List Int):Prop:=row.Pairwise (· < ·)∧∀k∈row,0≤k∧k<32
theorem Wr.sub {a b:List Int} (h:Wr b) (s:a.Sublist b):Wr a:=⟨h.1.sublist s,fun k hk=>h.2 k (s.subset hk)⟩
theorem Lb {m:Nat} (h:m≤5):Wr (BW (2^m)):=⟨Pt _,fun k hk=>by
 have:=mem_upto.mp hk
 have h2:=He h
 have:((2^m:Nat):Int)≤32:=by omega
 omega⟩
theorem Wr.len {row:List Int} (h:Wr row):row.length≤32:=by
 have nd:row.Nodup:=h.1.imp fun h=>by omega
 have:=D9 (l2:=BW 32) nd fun k hk=>mem_upto.mpr (h.2 k hk)
 rw[DO] at this
 exact this
theorem FE {z:Str} {t:Tr} {row s:List Int} (h:s∈AK z t row):s.Sublist row:=by
 unfold AK at h
 split at h
 ·rw[List.mem_singleton.mp h];exact List.filter_sublist
 ·split at h
  ·rw[List.mem_singleton.mp h];exact List.filter_sublist
  ·simp only[List.mem_cons,List.not_mem_nil,or_false] at h
   rcases h with rfl | rfl
   ·exact List.filter_sublist
   ·exact List.filter_sublist
theorem OG {z:Str} {t:Tr} {row s:List Int} (k:FC z t row) (h:s∈AK z t row):s≠[]:=by
 unfold AK at h
 rcases k with⟨rfl,k⟩|⟨rfl,k⟩|⟨rfl,k1,k2⟩
 ·rw[if_pos rfl] at h
  rw[List.mem_singleton.mp h];exact k
 ·rw[if_neg (by decide),if_pos rfl] at h
  rw[List.mem_singleton.mp h];exact k
 ·rw[if_neg (by decide),if_neg (by decide)] at h
  simp only[List.mem_cons,List.not_mem_nil,or_false] at h
  rcases h with rfl | rfl
  ·exact k1
  ·exact k2
theorem Ec {z:Str} {t:Tr} {row:List Int}:(∃a,AK z t row=[a])∨∃a b,AK z t row=[a,b]:=by
 unfold AK
 split
 ·exact .inl ⟨_,rfl⟩
 ·split
  ·exact .inl ⟨_,rfl⟩
  ·exact .inr ⟨_,_,rfl⟩
theorem base_sub {row:List Int} {sides:List (List Int)}:(Jn row sides).Sublist row:=List.filter_sublist
theorem QB {K:PySem.W.Frag} {H:Hp} {t:Tr} {v:V} (h:t.AtK K H v):∃p z cs,v= .ref p∧TupAt K H p (z::cs)∧((z= .str "let"∧En t=[])∨(¬(z= .str "let")∧(∃x,z= .str x)∧PileK K H cs (En t)∧0<cs.length∧cs.length≤2)):=by
 cases t with
 | lt k=>
  obtain⟨p,e,hp⟩:=h
  exact⟨p,_,_,e,hp,.inl ⟨rfl,rfl⟩⟩
 | nt t=>
  obtain⟨p,u,e,hp,ha⟩:=h
  exact⟨p,_,_,e,hp,.inr ⟨by decide,⟨_,rfl⟩,.cons ha .nil,Nat.succ_pos _,by show 1≤2;decide⟩⟩
 | bn j a b=>
  obtain⟨p,x,y,e,hp,ha,hb⟩:=h
  exact⟨p,_,_,e,hp,.inr ⟨Fr,⟨_,rfl⟩,.cons ha (.cons hb .nil),Nat.succ_pos _,Nat.le_refl _⟩⟩
abbrev Fj:Stmt:=Bu 14
def Iw (K:PySem.W.Frag):Sp:=fun vs H Q _=>∃(a:Addr) (xs:List V) (ts:List Tr),vs=[.ref a]∧SqL K H a xs∧PileK K H xs ts∧sz ts≤900∧
 ∀(r:Addr) (ys:List V) (H':Hp),Same H H'→H' r=some (.lst ys)→PileK K H' ys (BU ts)→Q (.ref r) H'
section
variable {P:Program} {w:World} {K:PySem.W.Frag} {mg:Str→Option Value} {base:Heap} {f:Addr} {fd:FuncData}
theorem Qs:As ["layer"] ["layer"] (Ae Fj):=⟨rfl,rfl,rfl,by decide +kernel,rfl,by decide +kernel,by decide +kernel⟩
theorem Sz:(["sentence","part"]:List Str).Nodup:=by decide +kernel
set_option maxHeartbeats 4000000 in
theorem OB (F:Fun K "parts_of" "parts_of" Fj f fd):FnOk P w K mg base AE 1 f fd ["layer"] (Iw K):=by
 refine F.ok Qs (fun vs H Q E h=>?_) (fun cdv A outer s H vs Q E hr h=>?_)
 ·obtain⟨a,xs,ts,rfl,_⟩:=h
  rfl
 obtain⟨a,xs,ts,rfl,hS,hp,hsz,q⟩:=h
 refine⟨_,Ad (Ai (O3 (N:=["sentence","part"]) (js:=[none,none]) (cl:=[]) ⟨rfl,rfl,rfl,List.forall_mem_nil _,rfl,rfl,rfl⟩ (Bn (pv 0)) (fun _=>AO (i:=0) Sz rfl (Or.inl rfl))
  (fun _=>EJ (Ak Hs (AB AD (pv 0) Af (fun _ _=>rfl)) An (Ao _))) (fun _=>Ow (Jj Ny (pv 0) (LL Af) LO)) (fun _=>AO (i:=1) Sz rfl (Or.inl rfl)) (fun _=>Dg) (fun _=>pv 1))),?_⟩
 refine⟨_,rfl,a,rfl,⟨_,hS⟩,fun cc acc hacc=>Bk (K:=K) (a:=a) (xs:=xs) (fun i σ H2=>∃(v0 v1:Option V) (ys:List V),σ=[v0,v1]∧Same H H2∧H2 acc=some (.lst ys)∧PileK K H2 ys (BU (ts.take i))) ?_ ?_ ?_ ?_⟩
 ·exact⟨none,none,[],rfl,Ag hacc _,upd_same,.nil⟩
 ·rintro i σ H2 _ ⟨v0,v1,ys,rfl,s2,_,_⟩
  exact s2.seq hS
 ·rintro i x σ H2 hx ⟨v0,v1,ys,rfl,s2,ha2,hp2⟩
  obtain⟨t,ht,hat⟩:=PileK.get hp hx
  have hat2:=hat.keep (TS.same s2)
  obtain⟨p,z,cs,rfl,hpt,hk⟩:=QB hat2
  have zstr:∃y,z= .str y:=by
   rcases hk with⟨e,_⟩|⟨_,e,_⟩
   ·exact⟨_,e⟩
   ·exact e
  obtain⟨y,rfl⟩:=zstr
  refine⟨_,rfl,p,_,_,_,rfl,rfl,hpt.sq,Aj (j:=0) rfl,rfl,_,rfl,?_⟩
  rcases hk with⟨e,ek⟩|⟨ne,_,hcs,_,_⟩
  ·refine FS e ?_
   refine⟨_,_,ys,rfl,s2,ha2,?_⟩
   rw[Fm ht,ek,List.append_nil]
   exact hp2
  ·refine Ov ne ?_
   refine⟨_,rfl,_,rfl,p,_,rfl,hpt.sq,J2,fun c hc=>⟨c,rfl,⟨_,SqT.of upd_same⟩,LH (K:=K) (a:=c) (xs:=Ez (V.str y::cs) (some 1) none) (fun j σ H3=>∃(v1:Option V) (ys:List V),σ=[some (.ref p),v1]∧Same H H3∧H3 acc=some (.lst ys)∧H3 c=some (.tup (Ez (V.str y::cs) (some 1) none))∧PileK K H3 cs (En t)∧PileK K H3 ys (BU (ts.take i)++(En t).take j)) ?_ ?_ ?_ ?_⟩⟩
   ·refine⟨_,ys,rfl,s2.trans (Ag hc _),(Ag hc _) _ _ ha2,upd_same,hcs.keep (TS.new hc),?_⟩
    rw[List.take_zero,List.append_nil]
    exact hp2.keep (TS.new hc)
   ·rintro j σ H3 _ ⟨v1,ys,rfl,s3,_,hc3,_⟩
    exact SqT.of hc3
   ·rintro j u σ H3 hu ⟨v1,ys,rfl,s3,ha3,hc3,hcs3,hp3⟩
    rw[Pr] at hu
    obtain⟨t2,ht2,hat3⟩:=PileK.get hcs3 hu
    have hlen:=hp3.len
    have hb:=J4 (j:=j) ht
    show Cf acc (NP 1) _ _ _
    refine⟨_,rfl,ys,ha3,AF (by omega),?_⟩
    have k3:TS H3 (upd H3 acc (.lst (ys++[u]))):=TS.lst ha3
    refine⟨_,ys++[u],rfl,AH s3 hacc _,upd_same,by rw[Ax (Dv hc3 ha3 (by intro z;cases z))];exact hc3,hcs3.keep k3,?_⟩
    rw[List.take_add_one,ht2,←List.append_assoc]
    exact (hp3.keep k3).snoc (hat3.keep k3)
   ·rintro σ H3 ⟨v1,ys,rfl,s3,ha3,hc3,hcs3,hp3⟩
    refine⟨_,_,ys,rfl,s3,ha3,?_⟩
    rw[Pr] at hp3
    have hl:=hcs3.len
    rw[hl,List.take_length] at hp3
    rw[Fm ht]
    exact hp3
 ·rintro σ H2 ⟨v0,v1,ys,rfl,s2,ha2,hp2⟩
  rw[hp.len,List.take_length] at hp2
  exact q acc ys H2 s2 ha2 hp2
end
abbrev FF:Stmt:=Bu 19
def LG:Sp:=fun vs H Q _=>∃(k:Nat) (w:Int),vs=[.int (k:Int),.int w]∧Q (.bl (BR k w)) H
theorem QC (k:Nat) (w:Int):decide (V.int (Builtin.bitAnd (w / 2^((k:Int)).toNat) 1)=V.int 1)=BR k w:=by
 rw[bitAnd_m1,Int.toNat_natCast]
 exact On k w
section
variable {P:Program} {w:World} {K:PySem.W.Frag} {mg:Str→Option Value} {base:Heap} {f:Addr} {fd:FuncData}
theorem Pw:As ["letter","world"] ["letter","world"] (Ae FF):=⟨rfl,rfl,rfl,by decide +kernel,rfl,by decide +kernel,by decide +kernel⟩
theorem OU (F:Fun K "letter_holds" "letter_holds" FF f fd):FnOk P w K mg base AE 1 f fd ["letter","world"] LG:=by
 refine F.ok Pw (fun vs H Q E h=>?_) (fun cdv A outer s H vs Q E hr h=>?_)
 ·obtain⟨k,w,rfl,_⟩:=h
  rfl
 obtain⟨k,wd,rfl,q⟩:=h
 refine⟨_,Ad (Ai (Bs AI (Ay RT (Ay Rn (pv 1) (pv 0)) Af) Af (Ao _))),?_⟩
 refine⟨_,rfl,_,rfl,_,_,rfl,rfl,Int.natCast_nonneg k,_,_,rfl,rfl,rfl,?_⟩
 rw[←QC] at q
 exact q
end
abbrev Eg:Stmt:=Bu 20
abbrev Fo:Stmt:=Bu 21
abbrev Ee:Stmt:=Bu 22
def JE:Sp:=fun vs H Q _=>∃(j:Nat) (a b:Bool),vs=[.str (jn j),.bl a,.bl b]∧Q (.bl (jv j a b)) H
def post:Tr→List Tr
 | .lt k=>[.lt k]
 | .nt t=>post t++[.nt t]
 | .bn j a b=>post a++(post b++[.bn j a b])
theorem OW:∀t:Tr,post t=(En t).flatMap post++[t]
 | .lt k=>rfl
 | .nt t=>by show post t++[.nt t]=(post t++[])++[.nt t];rw[List.append_nil]
 | .bn j a b=>by show post a++(post b++[.bn j a b])=(post a++(post b++[]))++[.bn j a b];rw[List.append_nil,List.append_assoc]
theorem Cu:∀t:Tr,(post t).length=t.size
 | .lt k=>rfl
 | .nt t=>by show (post t++[Tr.nt t]).length=t.size+1;rw[List.length_append,Cu t];rfl
 | .bn j a b=>by
  show (post a++(post b++[Tr.bn j a b])).length=a.size+b.size+1
  rw[List.length_append,List.length_append,Cu a,Cu b]
  show a.size+(b.size+1)=_
  omega
def stp (w:Int) (rs:List Bool):Tr→Option (List Bool)
 | .lt k=>some (BR k w::rs)
 | .nt _=>match rs with
  | a::r=>some ((!a)::r)
  | []=>none
 | .bn j _ _=>match rs with
  | b::a::r=>some (jv j a b::r)
  | _=>none
def run (w:Int):List Tr→List Bool→Option (List Bool)
 | [],rs=>some rs
 | u::r,rs=>match stp w rs u with
  | some rs'=>run w r rs'
  | none=>none
theorem Gg (w:Int):∀(a b:List Tr) (rs rs':List Bool),run w a rs=some rs'→run w (a++b) rs=run w b rs'
 | [],b,rs,rs',h=>by cases h;rfl
 | u::r,b,rs,rs',h=>by
  unfold run at h
  show (match stp w rs u with | some rs'=>run w (r++b) rs' | none=>none)=run w b rs'
  cases e:stp w rs u with
  | none=>rw[e] at h;cases h
  | some z=>rw[e] at h;exact Gg w r b z rs' h
theorem ED (w:Int):∀(t:Tr) (rs:List Bool),run w (post t) rs=some (tv t w::rs)
 | .lt k,rs=>rfl
 | .nt t,rs=>by
  show run w (post t++[.nt t]) rs=_
  rw[Gg w _ _ _ _ (ED w t rs)]
  rfl
 | .bn j a b,rs=>by
  show run w (post a++(post b++[.bn j a b])) rs=_
  rw[Gg w _ _ _ _ (ED w a rs),Gg w _ _ _ _ (ED w b _)]
  rfl
def Ll (K:PySem.W.Frag):Sp:=fun vs H Q _=>∃(v:V) (t:Tr),vs=[v]∧t.AtK K H v∧t.size≤800∧∀(l:Addr) (ys:List V) (H':Hp),Same H H'→H l=none→H' l=some (.lst ys)→PileK K H' ys (post t)→Q (.ref l) H'
def Jw (K:PySem.W.Frag):Sp:=fun vs H Q _=>∃(l:Addr) (ys:List V) (t:Tr) (w:Int),vs=[.ref l,.int w]∧H l=some (.lst ys)∧PileK K H ys (post t)∧t.ok 5∧t.size≤800∧∀(H':Hp),Same H H'→Q (.bl (tv t w)) H'
section
variable {P:Program} {w:World} {K:PySem.W.Frag} {mg:Str→Option Value} {base:Heap} {f:Addr} {fd:FuncData}
theorem N3:As ["kind","one","other"] ["kind","one","other"] (Ae Eg):=⟨rfl,rfl,rfl,by decide +kernel,rfl,by decide +kernel,by decide +kernel⟩
theorem My (F:Fun K "joined" "joined" Eg f fd):FnOk P w K mg base AE 1 f fd ["kind","one","other"] JE:=by
 refine F.ok N3 (fun vs H Q E h=>?_) (fun cdv A outer s H vs Q E hr h=>?_)
 ·obtain⟨j,a,b,rfl,_⟩:=h
  rfl
 obtain⟨j,va,vb,rfl,q2⟩:=h
 refine⟨_,Ac (AA (Ak AI (pv 0) An (Ao _))
   (Ad (Ai (Cd (pv 1) (BJ (pv 2)))))
   Al)
  (Ac (AA (Ak AI (pv 0) An (Ao _))
   (Ad (Ai (LM (pv 1) (BJ (pv 2)))))
   Al)
  (Ac (AA (Ak AI (pv 0) An (Ao _))
   (Ad (Ai (LM (Gz (pv 1)) (BJ (pv 2)))))
   Al)
  (Ad (Ai (Bs AI (pv 1) (pv 2) (Ao _)))))),?_⟩
 refine⟨_,rfl,rfl,_,rfl,?_⟩
 by_cases h0:V.str (jn j)=V.str "and"
 ·refine Bb h0 ?_
  obtain rfl:=TN h0
  cases va with
  | false=>exact⟨_,rfl,_,rfl,AX q2⟩
  | true=>exact⟨_,rfl,_,rfl,Bt ⟨_,rfl,q2⟩⟩
 refine AY h0 ?_
 refine⟨_,rfl,rfl,_,rfl,?_⟩
 by_cases h1:V.str (jn j)=V.str "or"
 ·refine Bb h1 ?_
  obtain rfl:=TM h1
  cases va with
  | false=>exact⟨_,rfl,_,rfl,AX ⟨_,rfl,q2⟩⟩
  | true=>exact⟨_,rfl,_,rfl,Bt q2⟩
 refine AY h1 ?_
 refine⟨_,rfl,rfl,_,rfl,?_⟩
 by_cases h2:V.str (jn j)=V.str "if"
 ·refine Bb h2 ?_
  obtain rfl:=TU h2
  cases va with
  | false=>exact⟨_,rfl,_,rfl,_,rfl,Bt q2⟩
  | true=>exact⟨_,rfl,_,rfl,_,rfl,AX ⟨_,rfl,q2⟩⟩
 refine AY h2 ?_
 rw[TV h0 h1 h2] at q2
 refine⟨_,rfl,_,rfl,rfl,?_⟩
 rw[QW]
 exact q2
def TY (K:PySem.W.Frag) (H:Hp) (v:V) (t:Tr) (sl wl:Addr) (m:Nat):L2.St→Hp→Prop:=fun σ H3=>∃(ys zs:List V) (ss ws:List Tr) (pp:Option V),σ=[some v,some (.ref sl),some (.ref wl),pp]∧Same H H3∧
 H3 sl=some (.lst ys)∧H3 wl=some (.lst zs)∧PileK K H3 ys ss∧PileK K H3 zs ws∧ws.flatMap post++ss.reverse=post t∧m=sz ws
theorem scSteps:As ["sentence","steps","waiting","step"] ["sentence"] (Ae Fo):=⟨rfl,rfl,rfl,by decide +kernel,rfl,by decide +kernel,by decide +kernel⟩
set_option maxHeartbeats 4000000 in
theorem Nr {g:Addr} {gd:FuncData} (F:Fun K "steps_of" "steps_of" Fo f fd) (GP:FnOk P w K mg base AE 1 g gd ["layer"] (Iw K)) (CP:AN K mg "parts_of" g gd ["layer"]):FnOk P w K mg base AE 2 f fd ["sentence"] (Ll K):=by
 refine F.ok scSteps (fun vs H Q E h=>?_) (fun cdv A outer s H vs Q E hr h=>?_)
 ·obtain⟨v,t,rfl,_⟩:=h
  rfl
 obtain⟨v,t,rfl,ha,hs,q⟩:=h
 refine⟨_,Ac (Au (i:=1) scSteps.nd rfl (Or.inl rfl) (AJ Ab))
  (Ac (Au (i:=2) scSteps.nd rfl (Or.inl rfl) (AJ (Aa (pv 0) Ab)))
  (Ac (E2 PassesOwn.never (Ev (pv 2) (fun _=>rfl))
   (Ac (Au (i:=3) scSteps.nd rfl (Or.inl rfl) (B8 PySem.F.plainAttrs_list PySem.F.slot_list_pop PySem.F.type_list_pop Co (pv 2)))
   (Ac (AV (BM PySem.F.plainAttrs_list PySem.F.slot_list_append PySem.F.type_list_append AZ (pv 1) (Aa (pv 3) Ab)))
   (Ad (AV (BM PySem.F.plainAttrs_list PySem.F.slot_list_extend PySem.F.type_list_extend HB (pv 2) (Aa (Ah GP hr (by rfl) CP.m CP.k CP.b .nil Aq (Aa (AJ (Aa (pv 3) Ab)) Ab)) Ab)))))))
  (Ac (AV (B8 PySem.F.plainAttrs_list PySem.F.slot_list_reverse PySem.F.type_list_reverse Kt (pv 1)))
  (Ad (Ai (pv 1)))))),?_⟩
 refine⟨Ka,fun sl hsl=>?_⟩
 have s1:=Ag hsl (.lst [])
 refine⟨_,rfl,Nd,fun wl hwl=>?_⟩
 have s2:=Ag hwl (.lst [v])
 have nsw:sl≠wl:=Am (upd_same (H:=H) (a:=sl) (o:=.lst [])) hwl
 have hwl0:H wl=none:=s1.free hwl
 have e1:sz [t]=t.size:=by unfold sz;simp
 refine⟨TY K H v t sl wl,⟨_,[],[v],[],[t],none,rfl,s1.trans s2,s2 _ _ upd_same,upd_same,.nil,.cons (ha.keep ((TS.same s1).trans (TS.same s2))) .nil,by simp,rfl⟩,?_⟩
 rintro m σ H3 ⟨ys,zs,ss,ws,pp,rfl,s3,hs3,hw3,p3,z3,e3,rfl⟩
 have bnd:sz ws+ss.length≤800:=by
  have h1:(ws.flatMap post).length=sz ws:=by
   clear e3 z3
   induction ws with
   | nil=>rfl
   | cons u r ih=>
    show (post u++r.flatMap post).length=_
    rw[List.length_append,Cu,ih,Iy]
  have h2:=congrArg List.length e3
  rw[List.length_append,List.length_reverse,h1,Cu] at h2
  omega
 refine⟨_,rfl,_,.inl ⟨zs,SqL.of hw3,rfl⟩,?_⟩
 refine BY (fun c=>?_) (fun c=>?_)
 ·refine⟨fun σ' H'=>∃m',m'<sz ws∧TY K H v t sl wl m' σ' H',fun _ _ h=>h,?_⟩
  have hpos:0<ws.length:=by
   rw[←z3.len]
   cases zs with
   | nil=>exact absurd c (by decide)
   | cons _ _=>exact Nat.succ_pos _
  obtain⟨zs',y,ws',u,rfl,rfl,q3,a3⟩:=z3.last hpos
  have hsw:=Bx ws' u
  have hku:=KF u
  have hwl':=Gr ws'
  have hl1:=p3.len
  have hl2:=q3.len
  refine⟨_,rfl,.inl ⟨rfl,_,SqL.of hw3⟩,wl,_,y,rfl,rfl,hw3,DV _ _,?_⟩
  have t4:HT2.TS H3 (upd H3 wl (.lst (zs'++[y]).dropLast)):=TS.lst hw3
  have s4:Same H (upd H3 wl (.lst (zs'++[y]).dropLast)):=AH s3 hwl0 _
  rw[List.dropLast_concat] at t4 s4
  have hs4:(upd H3 wl (.lst zs')) sl=some (.lst ys):=by rw[Ax nsw];exact hs3
  rw[List.dropLast_concat]
  refine⟨_,rfl,.inl ⟨rfl,_,SqL.of hs4⟩,_,rfl,sl,_,_,rfl,rfl,hs4,AF (by omega),?_⟩
  have t5:HT2.TS (upd H3 wl (.lst zs')) (upd (upd H3 wl (.lst zs')) sl (.lst (ys++[y]))):=TS.lst hs4
  have s5:Same H (upd (upd H3 wl (.lst zs')) sl (.lst (ys++[y]))):=AH s4 hsl _
  have hw5:(upd (upd H3 wl (.lst zs')) sl (.lst (ys++[y]))) wl=some (.lst zs'):=by rw[Ax nsw.symm,upd_same]
  have hs5:(upd (upd H3 wl (.lst zs')) sl (.lst (ys++[y]))) sl=some (.lst (ys++[y])):=upd_same
  have a5:=a3.keep (t4.trans t5)
  have p5:=(p3.snoc a3).keep (t4.trans t5)
  have q5:=q3.keep (t4.trans t5)
  revert s5 hw5 hs5 a5 p5 q5
  generalize (upd (upd H3 wl (.lst zs')) sl (.lst (ys++[y])))=H5
  intro s5 hw5 hs5 a5 p5 q5
  refine⟨_,rfl,.inl ⟨rfl,_,SqL.of hw5⟩,_,rfl,Nd,fun pl hpl=>?_⟩
  have s6:=Ag hpl (.lst [y])
  have e1:sz [u]=u.size:=by unfold sz;simp
  refine⟨pl,[y],[u],rfl,SqL.of upd_same,.cons (a5.keep (TS.same s6)) .nil,by omega,fun r ks H7 s7 hr7 p7=>?_⟩
  have hl3:=p7.len
  rw[Ju] at p7 hl3
  have hlk:=Gr (En u)
  have hw7:=s7 _ _ (s6 _ _ hw5)
  refine⟨wl,r,zs',ks,rfl,rfl,hw7,hr7,small (by omega),?_⟩
  have t8:HT2.TS H7 (upd H7 wl (.lst (zs'++ks))):=TS.lst hw7
  have k57:=(TS.same s6).trans (TS.same s7)
  refine⟨_,?_,ys++[y],zs'++ks,ss++[u],ws'++En u,_,rfl,AH (s5.trans (s6.trans s7)) hwl0 _,?_,upd_same,p5.keep (k57.trans t8),(PileK.app (q5.keep k57) p7).keep t8,?_,rfl⟩
  ·rw[IV];omega
  ·rw[Ax nsw];exact s7 _ _ (s6 _ _ hs5)
  ·rw[←e3,List.flatMap_append,List.flatMap_append,List.reverse_append]
   show ((ws'.flatMap post++(En u).flatMap post)++([u]++ss.reverse))=(ws'.flatMap post++(post u++[]))++ss.reverse
   rw[List.append_nil,OW u]
   simp only[List.append_assoc]
 ·have e:ws=[]:=by
   cases z3 with
   | nil=>rfl
   | cons h1 h2=>exact absurd rfl c
  subst e
  refine⟨_,rfl,.inl ⟨rfl,_,SqL.of hs3⟩,sl,ys,rfl,rfl,hs3,?_⟩
  refine⟨_,rfl,q sl ys.reverse _ (AH s3 hsl _) hsl upd_same ?_⟩
  have e4:ss.reverse=post t:=e3
  rw[←e4]
  exact (PileK.rev p3).keep (TS.lst hs3)
theorem scTrueBy:As ["steps","world","truths","step","other","one"] ["steps","world"] (Ae Ee):=⟨rfl,rfl,rfl,by decide +kernel,rfl,by decide +kernel,by decide +kernel⟩
def tl (rs:List Bool):List V:=rs.reverse.map V.bl
theorem D7 (b:Bool) (rs:List Bool):tl (b::rs)=tl rs++[.bl b]:=by unfold tl;simp
theorem KL (rs:List Bool):(tl rs).length=rs.length:=by unfold tl;simp
set_option maxHeartbeats 4000000 in
theorem Ml {g g2:Addr} {gd gd2:FuncData} (F:Fun K "true_by" "true_by" Ee f fd) (GH:FnOk P w K mg base AE 1 g gd ["letter","world"] LG) (CH:AN K mg "letter_holds" g gd ["letter","world"])
  (GJ:FnOk P w K mg base AE 1 g2 gd2 ["kind","one","other"] JE) (CJ:AN K mg "joined" g2 gd2 ["kind","one","other"]):FnOk P w K mg base AE 2 f fd ["steps","world"] (Jw K):=by
 refine F.ok scTrueBy (fun vs H Q E h=>?_) (fun cdv A outer s H vs Q E hr h=>?_)
 ·obtain⟨v,ys,t,wd,rfl,_⟩:=h
  rfl
 obtain⟨l,ys,t,wd,rfl,hl,hp,hok,hsz,q⟩:=h
 have hr1:Room 1 _:=hr
 refine⟨_,Ac (Au (i:=2) scTrueBy.nd rfl (Or.inl rfl) (AJ Ab))
  (Ac (BQ PassesOwn.never rfl (Bn (pv 0)) (AO (i:=3) scTrueBy.nd rfl (Or.inl rfl))
   (Ad (AA (Ak AI (AB AD (pv 3) Af (fun _ _=>rfl)) An (Ao _))
    (Ad (AV (BM PySem.F.plainAttrs_list PySem.F.slot_list_append PySem.F.type_list_append AZ (pv 2) (Aa (Ah GH hr1 (by rfl) CH.m CH.k CH.b .nil Aq (Aa (AB AD (pv 3) Af (fun _ _=>rfl)) (Aa (pv 1) Ab))) Ab))))
    (Ad (AA (Ak AI (AB AD (pv 3) Af (fun _ _=>rfl)) An (Ao _))
     (Ad (AV (BM PySem.F.plainAttrs_list PySem.F.slot_list_append PySem.F.type_list_append AZ (pv 2) (Aa (Gz (B8 PySem.F.plainAttrs_list PySem.F.slot_list_pop PySem.F.type_list_pop Co (pv 2))) Ab))))
     (Ac (Au (i:=4) scTrueBy.nd rfl (Or.inl rfl) (B8 PySem.F.plainAttrs_list PySem.F.slot_list_pop PySem.F.type_list_pop Co (pv 2)))
     (Ac (Au (i:=5) scTrueBy.nd rfl (Or.inl rfl) (B8 PySem.F.plainAttrs_list PySem.F.slot_list_pop PySem.F.type_list_pop Co (pv 2)))
     (Ad (AV (BM PySem.F.plainAttrs_list PySem.F.slot_list_append PySem.F.type_list_append AZ (pv 2) (Aa (Ah GJ hr1 (by rfl) CJ.m CJ.k CJ.b .nil Aq (Aa (AB AD (pv 3) Af (fun _ _=>rfl)) (Aa (pv 5) (Aa (pv 4) Ab)))) Ab)))))))))))
  (Ad (Ai (AB AM (pv 2) Af (fun _ _=>rfl))))),?_⟩
 refine⟨Ka,fun tr htr=>?_⟩
 have s1:=Ag htr (.lst [])
 have hlen:=hp.len
 have hpl:=Cu t
 refine⟨_,rfl,l,rfl,⟨_,SqL.of (s1 _ _ hl)⟩,Bk (K:=K) (a:=l) (xs:=ys) (fun i σ H3=>∃(v0 v1 v2:Option V) (rs:List Bool),σ=[some (.ref l),some (.int wd),some (.ref tr),v0,v1,v2]∧Same H H3∧H3 tr=some (.lst (tl rs))∧rs.length≤i∧run wd ((post t).drop i) rs=some [tv t wd]) ?_ ?_ ?_ ?_⟩
 ·exact⟨_,_,_,[],rfl,s1,upd_same,Nat.le_refl _,ED wd t []⟩
 ·rintro i σ H3 _ ⟨v0,v1,v2,rs,rfl,s3,_⟩
  exact SqL.of (s3 _ _ hl)
 ·rintro i x σ H3 hx ⟨v0,v1,v2,rs,rfl,s3,h3,hlr,hrun⟩
  obtain⟨u,hu,hat⟩:=PileK.get hp hx
  have hat3:=hat.keep (TS.same s3)
  have hi:i<ys.length:=(List.getElem?_eq_some_iff.mp hx).1
  obtain⟨hi2,eu⟩:=List.getElem?_eq_some_iff.mp hu
  rw[List.drop_eq_getElem_cons hi2,eu] at hrun
  unfold run at hrun
  cases u with
  | lt k=>
   obtain⟨p,rfl,hpt⟩:=hat3
   refine⟨_,rfl,p,_,_,_,rfl,rfl,hpt.sq,Aj (j:=0) rfl,rfl,_,rfl,?_⟩
   refine Bb rfl ?_
   refine⟨_,rfl,.inl ⟨rfl,_,SqL.of h3⟩,_,rfl,p,_,_,_,rfl,rfl,hpt.sq,Aj (j:=1) rfl,_,rfl,k,wd,rfl,?_⟩
   refine⟨tr,_,_,rfl,rfl,h3,AF (by rw[KL];omega),?_⟩
   refine⟨_,_,_,BR k wd::rs,rfl,AH s3 htr _,?_,by show rs.length+1≤i+1;omega,hrun⟩
   rw[upd_same,D7]
  | nt u=>
   obtain⟨p,c,rfl,hpt,_⟩:=hat3
   refine⟨_,rfl,p,_,_,_,rfl,rfl,hpt.sq,Aj (j:=0) rfl,rfl,_,rfl,?_⟩
   refine AY (by decide) ?_
   refine⟨_,rfl,p,_,_,_,rfl,rfl,hpt.sq,Aj (j:=0) rfl,rfl,_,rfl,?_⟩
   refine Bb rfl ?_
   cases rs with
   | nil=>cases hrun
   | cons a r=>
    rw[D7] at h3
    have hlr':r.length+1≤i:=hlr
    refine⟨_,rfl,.inl ⟨rfl,_,SqL.of h3⟩,_,rfl,.inl ⟨rfl,_,SqL.of h3⟩,tr,_,_,rfl,rfl,h3,DV _ _,_,rfl,?_⟩
    refine⟨tr,_,_,rfl,rfl,upd_same,?_,?_⟩
    ·rw[List.dropLast_concat];exact AF (by rw[KL];omega)
    refine⟨_,_,_,(!a)::r,rfl,AH (AH s3 htr _) htr _,?_,by show r.length+1≤i+1;omega,hrun⟩
    rw[upd_same,D7,List.dropLast_concat]
  | bn j u1 u2=>
   obtain⟨p,c1,c2,rfl,hpt,_⟩:=hat3
   refine⟨_,rfl,p,_,_,_,rfl,rfl,hpt.sq,Aj (j:=0) rfl,rfl,_,rfl,?_⟩
   refine AY Fr ?_
   refine⟨_,rfl,p,_,_,_,rfl,rfl,hpt.sq,Aj (j:=0) rfl,rfl,_,rfl,?_⟩
   refine AY Kv ?_
   match rs,hrun,h3,hlr with
   | [],hrun,_,_=>cases hrun
   | [_],hrun,_,_=>cases hrun
   | b::a::r,hrun,h3,hlr=>
    rw[D7,D7] at h3
    have hlr':r.length+1+1≤i:=hlr
    refine⟨_,rfl,.inl ⟨rfl,_,SqL.of h3⟩,tr,_,_,rfl,rfl,h3,DV _ _,?_⟩
    have h4:(upd H3 tr (.lst ((tl r++[V.bl a])++[V.bl b]).dropLast)) tr=some (.lst (tl r++[V.bl a])):=by rw[upd_same,List.dropLast_concat]
    have s4:Same H (upd H3 tr (.lst ((tl r++[V.bl a])++[V.bl b]).dropLast)):=AH s3 htr _
    have p4:TupAt K (upd H3 tr (.lst ((tl r++[V.bl a])++[V.bl b]).dropLast)) p [.str (jn j),c1,c2]:=hpt.keep (TS.lst h3)
    revert h4 s4 p4
    generalize upd H3 tr (.lst ((tl r++[V.bl a])++[V.bl b]).dropLast)=H4
    intro h4 s4 p4
    refine⟨_,rfl,.inl ⟨rfl,_,SqL.of h4⟩,tr,_,_,rfl,rfl,h4,DV _ _,?_⟩
    have h5:(upd H4 tr (.lst (tl r++[V.bl a]).dropLast)) tr=some (.lst (tl r)):=by rw[upd_same,List.dropLast_concat]
    have s5:Same H (upd H4 tr (.lst (tl r++[V.bl a]).dropLast)):=AH s4 htr _
    have p5:TupAt K (upd H4 tr (.lst (tl r++[V.bl a]).dropLast)) p [.str (jn j),c1,c2]:=p4.keep (TS.lst h4)
    revert h5 s5 p5
    generalize upd H4 tr (.lst (tl r++[V.bl a]).dropLast)=H5
    intro h5 s5 p5
    refine⟨_,rfl,.inl ⟨rfl,_,SqL.of h5⟩,_,rfl,p,_,_,_,rfl,rfl,p5.sq,Aj (j:=0) rfl,_,rfl,_,rfl,j,a,b,rfl,?_⟩
    refine⟨tr,_,_,rfl,rfl,h5,AF (by rw[KL];omega),?_⟩
    refine⟨_,_,_,jv j a b::r,rfl,AH s5 htr _,?_,by show r.length+1≤i+1;omega,hrun⟩
    rw[upd_same,D7]
 ·rintro σ H3 ⟨v0,v1,v2,rs,rfl,s3,h3,hlr,hrun⟩
  rw[hlen,List.drop_length] at hrun
  cases hrun
  exact⟨_,rfl,tr,_,_,_,rfl,rfl,SqL.of h3,Aj (j:=0) rfl,q _ s3⟩
end
abbrev B5:Stmt:=Bu 23
def Ci (K:PySem.W.Frag):Sp:=fun vs H Q _=>∃(v:V) (t:Tr) (r:Addr) (row:List Int),vs=[v,.ref r]∧t.AtK K H v∧t.ok 5∧t.size≤800∧SqL K H r (row.map V.int)∧Wr row∧∀(l:Addr) (H':Hp),Same H H'→H l=none→AG H' l (row.filter fun k=>tv t k == true)→Q (.ref l) H'
def Cl (K:PySem.W.Frag):Sp:=fun vs H Q _=>∃(v:V) (t:Tr) (r:Addr) (row:List Int),vs=[v,.ref r]∧t.At H v∧t.ok 5∧t.size≤800∧SqL K H r (row.map V.int)∧Wr row∧∀(l:Addr) (H':Hp),Same H H'→H l=none→AG H' l (row.filter fun k=>tv t k == true)→Q (.ref l) H'
section
variable {P:Program} {w:World} {K:PySem.W.Frag} {mg:Str→Option Value} {base:Heap} {f:Addr} {fd:FuncData}
theorem scWorldsOf:As ["sentence","room","steps"] ["sentence","room"] (Ae B5):=⟨rfl,rfl,rfl,by decide +kernel,rfl,by decide +kernel,by decide +kernel⟩
theorem Jk {g g2:Addr} {gd gd2:FuncData} (F:Fun K "worlds_of" "worlds_of" B5 f fd) (GS:FnOk P w K mg base AE 2 g gd ["sentence"] (Ll K)) (CS:AN K mg "steps_of" g gd ["sentence"])
  (GB:FnOk P w K mg base AE 2 g2 gd2 ["steps","world"] (Jw K)) (CB:AN K mg "true_by" g2 gd2 ["steps","world"]):FnOk P w K mg base AE 3 f fd ["sentence","room"] (Ci K):=by
 refine F.ok scWorldsOf (fun vs H Q E h=>?_) (fun cdv A outer s H vs Q E hr h=>?_)
 ·obtain⟨v,t,r,row,rfl,_⟩:=h
  rfl
 obtain⟨v,t,r,row,rfl,ha,hok,hs,hS,hwr,q⟩:=h
 have hl:=hwr.len
 refine⟨_,Ac (Au (i:=2) scWorldsOf.nd rfl (Or.inr rfl) (Ah GS hr (by rfl) CS.m CS.k CS.b .nil Aq (Aa (pv 0) Ab)))
  (Ad (Ai (Cc (N:=["world","steps"]) (js:=[none,some 2]) (cl:=[("steps",s.heap.objs.size+1)]) ⟨rfl,rfl,rfl,(by intro p hp;simp at hp;rcases hp with rfl<;>rfl),rfl,rfl,rfl⟩ (Bn (pv 1)) (fun c1=>(AO (i:=0) (show (["world","steps"]:List Str).Nodup by decide +kernel) rfl (Or.inl rfl))) (fun c1=>(EJ (A3 (Ah GB hr (by rfl) CB.m CB.k CB.b .nil Aq (Aa (pv 1) (Aa (pv 0) Ab)))))) (fun c1=>(pv 0))))),?_⟩
 refine⟨_,rfl,v,t,rfl,ha,hs,fun st ys H1 s1 hst0 hst hp=>?_⟩
 refine⟨_,rfl,r,rfl,⟨_,s1.seq hS⟩,fun cc acc hacc=>Dy (p:=fun k=>tv t k == true) (rest:=[some (.ref st)]) (s1.seq hS) hacc (by omega) (fun k hk H2 s2 R hR=>?_) (fun v0 H2 s2 h2=>q acc H2 (s1.trans s2) (s1.free hacc) h2) none⟩
 refine⟨_,rfl,_,rfl,st,ys,t,k,rfl,s2 _ _ hst,hp.keep (TS.same s2),hok,hs,fun H3 s3=>⟨_,rfl,?_⟩⟩
 have:=hR H3 s3
 rw[show (tv t k == true)=tv t k by cases tv t k<;>rfl] at this
 exact this
theorem N5 (G:FnOk P w K mg base AE 3 f fd ["sentence","room"] (Ci K)):FnOk P w K mg base AE 3 f fd ["sentence","room"] (Cl K):=G.imp fun vs H Q E h=>by
 obtain⟨v,t,r,row,e,ha,h⟩:=h
 exact⟨v,t,r,row,e,ha.toK,h⟩
end
abbrev HU:Stmt:=Bu 8
def IS (K:PySem.W.Frag):Sp:=fun vs H Q _=>∃(a b:Addr) (one other:List Int),vs=[.ref a,.ref b]∧SqL K H a (one.map V.int)∧SqL K H b (other.map V.int)∧one.length<64∧other.length≤900∧
 ∀(l:Addr) (H':Hp) (ns:List Int),Same H H'→H l=none→ns.Pairwise (· < ·)→(∀k,k∈ns↔k∈one∧k∈other)→AG H' l ns→Q (.ref l) H'
section
variable {P:Program} {w:World} {K:PySem.W.Frag} {mg:Str→Option Value} {base:Heap} {f:Addr} {fd:FuncData}
theorem RS:As ["one","other"] ["one","other"] (Ae HU):=⟨rfl,rfl,rfl,by decide +kernel,rfl,by decide +kernel,by decide +kernel⟩
theorem Qv (F:Fun K "in_both" "in_both" HU f fd) (T:Fq mg):FnOk P w K mg base AE 1 f fd ["one","other"] (IS K):=by
 refine F.ok RS (fun vs H Q E h=>?_) (fun cdv A outer s H vs Q E hr h=>?_)
 ·obtain⟨a,b,one,other,rfl,_⟩:=h
  rfl
 obtain⟨a,b,one,other,rfl,ha,hb,hl1,hl2,q⟩:=h
 refine⟨_,Ad (Ai (Aw (EV rfl) (by rfl) T.sorted boot_sorted (Aa (Ay P7 (AR (Eb rfl) (by rfl) T.set boot_set (Aa (pv 0) Ab)) (AR (Eb rfl) (by rfl) T.set boot_set (Aa (pv 1) Ab))) Ab))),?_⟩
 refine⟨_,rfl,a,one,rfl,ha,by omega,fun a1 ha1=>?_⟩
 have s1:=Ag ha1 (Bh w a1 (fun k=>decide (k∈one)) one.length)
 refine⟨_,rfl,b,other,rfl,s1.seq hb,by omega,fun b1 hb1=>?_⟩
 have s2:=Ag hb1 (Bh w b1 (fun k=>decide (k∈other)) other.length)
 refine⟨a1,b1,_,_,_,_,rfl,rfl,s2 _ _ upd_same,upd_same,fun e=>?_,by omega,fun r hr1=>?_⟩
 ·subst e
  rw[upd_same] at hb1
  cases hb1
 have s3:=Ag hr1 (Bh w r (fun k=>decide (k∈one) && decide (k∈other)) one.length)
 refine⟨r,_,_,rfl,upd_same,hl1,fun l ns hl hp hm=>?_⟩
 have s4:=Ag hl (.lst (ns.map V.int))
 exact q l _ ns (s1.trans (s2.trans (s3.trans s4))) ((s1.trans (s2.trans s3)).free hl) hp (fun k=>by rw[hm k,Bool.and_eq_true,decide_eq_true_eq,decide_eq_true_eq]) upd_same
end
abbrev Fu:Stmt:=Bu 9
def EQ (K:PySem.W.Frag):Sp:=fun vs H Q _=>∃(a b:Addr) (one other:List Int),vs=[.ref a,.ref b]∧SqL K H a (one.map V.int)∧SqL K H b (other.map V.int)∧one.length≤32∧(∀k∈one,0≤k∧k<32)∧other.length≤900∧
 ∀(l:Addr) (H':Hp) (ns:List Int),Same H H'→H l=none→ns.Pairwise (· < ·)→(∀k,k∈ns↔k∈one∧k∉other)→AG H' l ns→Q (.ref l) H'
section
variable {P:Program} {w:World} {K:PySem.W.Frag} {mg:Str→Option Value} {base:Heap} {f:Addr} {fd:FuncData}
theorem Pm:As ["one","other"] ["one","other"] (Ae Fu):=⟨rfl,rfl,rfl,by decide +kernel,rfl,by decide +kernel,by decide +kernel⟩
theorem OJ (F:Fun K "in_first_only" "in_first_only" Fu f fd) (T:Fq mg):FnOk P w K mg base AE 1 f fd ["one","other"] (EQ K):=by
 refine F.ok Pm (fun vs H Q E h=>?_) (fun cdv A outer s H vs Q E hr h=>?_)
 ·obtain⟨a,b,one,other,rfl,_⟩:=h
  rfl
 obtain⟨a,b,one,other,rfl,ha,hb,hl1,h32,hl2,q⟩:=h
 refine⟨_,Ad (Ai (Aw (Ja rfl) (by rfl) T.sorted boot_sorted (Aa (Ay Qx (AR (Eb rfl) (by rfl) T.set boot_set (Aa (pv 0) Ab)) (AR (Eb rfl) (by rfl) T.set boot_set (Aa (pv 1) Ab))) Ab))),?_⟩
 refine⟨_,rfl,a,one,rfl,ha,by omega,fun a1 ha1=>?_⟩
 have s1:=Ag ha1 (Bh w a1 (fun k=>decide (k∈one)) one.length)
 refine⟨_,rfl,b,other,rfl,s1.seq hb,by omega,fun b1 hb1=>?_⟩
 have s2:=Ag hb1 (Bh w b1 (fun k=>decide (k∈other)) other.length)
 refine⟨a1,b1,_,_,_,_,rfl,rfl,s2 _ _ upd_same,upd_same,fun e=>?_,hl1,by omega,fun k hk=>h32 k (of_decide_eq_true hk),fun r hr1=>?_⟩
 ·subst e
  rw[upd_same] at hb1
  cases hb1
 have s3:=Ag hr1 (MD w r (fun k=>decide (k∈one) && !decide (k∈other)) one.length)
 refine⟨r,_,_,rfl,upd_same,by omega,fun l ns hl hp hm=>?_⟩
 have s4:=Ag hl (.lst (ns.map V.int))
 exact q l _ ns (s1.trans (s2.trans (s3.trans s4))) ((s1.trans (s2.trans s3)).free hl) hp (fun k=>by rw[hm k,Bool.and_eq_true,decide_eq_true_eq,Bool.not_eq_true',decide_eq_false_iff_not]) upd_same
end
abbrev Fh:Stmt:=Bu 12
def Gf (K:PySem.W.Frag):Sp:=fun vs H Q _=>∃(a b:Addr) (one other:List Int),vs=[.ref a,.ref b]∧SqL K H a (one.map V.int)∧SqL K H b (other.map V.int)∧one.length<64∧other.length≤900∧
 ∀(H':Hp),Same H H'→Q (.bl (one.any fun k=>decide (k∈other))) H'
section
variable {P:Program} {w:World} {K:PySem.W.Frag} {mg:Str→Option Value} {base:Heap} {f:Addr} {fd:FuncData}
theorem Qn:As ["one","other"] ["one","other"] (Ae Fh):=⟨rfl,rfl,rfl,by decide +kernel,rfl,by decide +kernel,by decide +kernel⟩
theorem OF {g:Addr} {gd:FuncData} (F:Fun K "some_within" "some_within" Fh f fd) (B:Bl mg) (GB:FnOk P w K mg base AE 1 g gd ["one","other"] (IS K)) (CB:AN K mg "in_both" g gd ["one","other"]):FnOk P w K mg base AE 2 f fd ["one","other"] (Gf K):=by
 refine F.ok Qn (fun vs H Q E h=>?_) (fun cdv A outer s H vs Q E hr h=>?_)
 ·obtain⟨a,b,one,other,rfl,_⟩:=h
  rfl
 obtain⟨a,b,one,other,rfl,ha,hb,hl1,hl2,q⟩:=h
 refine⟨_,Ad (Ai (Bs EH (Aw Av (by rfl) B.len PySem.boot_len (Aa (Ah GB hr (by rfl) CB.m CB.k CB.b .nil Aq (Aa (pv 0) (Aa (pv 1) Ab))) Ab)) Af (Ao _))),?_⟩
 refine⟨_,rfl,_,rfl,a,b,one,other,rfl,ha,hb,hl1,hl2,fun l H' ns s1 hl hp hm hr1=>?_⟩
 refine⟨l,_,rfl,.inl (SqL.of hr1),_,_,rfl,rfl,?_⟩
 have e:decide ((((ns.map V.int).length:Nat):Int)>0)=one.any fun k=>decide (k∈other):=by
  rw[List.length_map]
  cases h:one.any fun k=>decide (k∈other) with
  | true=>
   obtain⟨k,h1,h2⟩:=List.any_eq_true.mp h
   have:=List.length_pos_of_mem ((hm k).mpr ⟨h1,of_decide_eq_true h2⟩)
   exact decide_eq_true (by omega)
  | false=>
   cases ns with
   | nil=>rfl
   | cons k ns=>
    obtain⟨h1,h2⟩:=(hm k).mp List.mem_cons_self
    rw[List.any_eq_false] at h
    exact absurd (decide_eq_true h2) (h k h1)
 have:=q H' s1
 rw[←e] at this
 exact this
end
abbrev Mf:Stmt:=Bu 10
def El (rs:List (List Int)):Nat:=(rs.map List.length).sum
def Jv (K:PySem.W.Frag):Sp:=fun vs H Q _=>∃(a:Addr) (xs:List V) (rs:List (List Int)),vs=[.ref a]∧SqL K H a xs∧RowsAt H xs rs∧El rs<64∧
 ∀(l:Addr) (H':Hp) (ns:List Int),Same H H'→H l=none→ns.Pairwise (· < ·)→(∀k,k∈ns↔∃row∈rs,k∈row)→AG H' l ns→Q (.ref l) H'
theorem Tc {tb:TS} {D:Ce} {σ:L2.St} {H:Hp} (h:tb D σ H):Dw KU tb D σ H:=by
 show if true=true then tb D σ H else D.nx σ H
 rw[if_pos rfl]
 exact h
theorem M9 {rs:List (List Int)} {i:Nat} {row:List Int} (h:rs[i]? = some row):El (rs.take (i+1))=El (rs.take i)+row.length:=by
 have e:rs.take (i+1)=rs.take i++[row]:=by rw[List.take_add_one,h];rfl
 unfold El
 rw[e,List.map_append,List.sum_append]
 simp
theorem Qe {rs:List (List Int)} {i:Nat}:El (rs.take i)≤El rs:=by
 have e:=List.take_append_drop i rs
 have:El rs=El (rs.take i)+El (rs.drop i):=by
  conv=>lhs;rw[←e]
  unfold El
  rw[List.map_append,List.sum_append]
 omega
section
variable {P:Program} {w:World} {K:PySem.W.Frag} {mg:Str→Option Value} {base:Heap} {f:Addr} {fd:FuncData}
theorem Sk:As ["rows"] ["rows"] (Ae Mf):=⟨rfl,rfl,rfl,by decide +kernel,rfl,by decide +kernel,by decide +kernel⟩
set_option maxHeartbeats 4000000 in
theorem Q8 (F:Fun K "in_any" "in_any" Mf f fd) (T:Fq mg):FnOk P w K mg base AE 1 f fd ["rows"] (Jv K):=by
 refine F.ok Sk (fun vs H Q E h=>?_) (fun cdv A outer s H vs Q E hr h=>?_)
 ·obtain⟨a,xs,rs,rfl,_⟩:=h
  rfl
 obtain⟨a,xs,rs,rfl,hS,hR,h64,q⟩:=h
 refine⟨_,Ad (Ai (Aw (EV rfl) (by rfl) T.sorted boot_sorted (Aa (MJ (N:=["row","world"]) (js:=[none,none]) (cl:=[]) ⟨rfl,rfl,rfl,List.forall_mem_nil _,rfl,rfl,rfl⟩ (Bn (pv 0)) (fun c1=>(AO (i:=0) (show (["row","world"]:List Str).Nodup by decide +kernel) rfl (Or.inl rfl))) (fun c1=>Dg) (fun c1=>(Bn (pv 0))) (fun c1=>(AO (i:=1) (show (["row","world"]:List Str).Nodup by decide +kernel) rfl (Or.inl rfl))) (fun c1=>Dg) (fun c1=>(pv 1))) Ab))),?_⟩
 refine⟨_,rfl,a,rfl,⟨_,hS⟩,fun cc acc hacc=>Bk (K:=K) (a:=a) (xs:=xs) (fun i σ H2=>∃(v0 v1:Option V) (S:Int→Bool) (n:Nat),σ=[v0,v1]∧Same H H2∧H2 acc=some (Bh w acc S n)∧(∀k,S k=true↔∃row∈rs.take i,k∈row)∧n≤El (rs.take i)) ?_ ?_ ?_ ?_⟩
 ·exact⟨none,none,_,0,rfl,Ag hacc _,upd_same,fun k=>by simp,Nat.zero_le _⟩
 ·rintro i σ H2 _ ⟨v0,v1,S,n,rfl,s2,_⟩
  exact s2.seq hS
 ·rintro i x σ H2 hx ⟨v0,v1,S,n,rfl,s2,ha2,hm2,hn2⟩
  obtain⟨row,p,hrow,rfl,hp⟩:=hR.get hx
  have hlt:=M9 hrow
  have hle:=Qe (rs:=rs) (i:=i+1)
  refine Tc ?_
  refine⟨_,rfl,p,rfl,⟨_,SqL.of (s2 _ _ hp)⟩,Bk (K:=K) (a:=p) (xs:=row.map V.int) (fun j σ H3=>∃(v1:Option V) (S:Int→Bool) (n:Nat),σ=[some (.ref p),v1]∧Same H H3∧H3 acc=some (Bh w acc S n)∧(∀k,S k=true↔(∃row∈rs.take i,k∈row)∨k∈row.take j)∧n≤El (rs.take i)+j) ?_ ?_ ?_ ?_⟩
  ·exact⟨_,S,n,rfl,s2,ha2,fun k=>by rw[hm2 k];simp,hn2⟩
  ·rintro j σ H3 _ ⟨v1,S,n,rfl,s3,_⟩
   exact SqL.of (s3 _ _ hp)
  ·rintro j u σ H3 hu ⟨v1,S,n,rfl,s3,ha3,hm3,hn3⟩
   rw[List.getElem?_map] at hu
   obtain⟨k0,hk0,rfl⟩:=Option.map_eq_some_iff.mp hu
   have hj:=(List.getElem?_eq_some_iff.mp hk0).1
   have et:row.take (j+1)=row.take j++[k0]:=by rw[List.take_add_one,hk0];rfl
   show IF w acc (NP 1) _ _ _
   refine⟨_,rfl,k0,S,n,rfl,ha3,by omega,?_⟩
   refine⟨_,_,n+1,rfl,AH s3 hacc _,upd_same,fun k=>?_,by omega⟩
   rw[Bool.or_eq_true,hm3 k,decide_eq_true_eq,et,List.mem_append,List.mem_singleton,or_assoc]
  ·rintro σ H3 ⟨v1,S,n,rfl,s3,ha3,hm3,hn3⟩
   rw[List.length_map] at hm3 hn3
   rw[List.take_length] at hm3
   refine⟨_,_,S,n,rfl,s3,ha3,fun k=>?_,by omega⟩
   have e:rs.take (i+1)=rs.take i++[row]:=by rw[List.take_add_one,hrow];rfl
   rw[hm3 k,e]
   constructor
   ·rintro (⟨r,h1,h2⟩|h)
    ·exact⟨r,List.mem_append_left _ h1,h2⟩
    ·exact⟨row,List.mem_append_right _ List.mem_cons_self,h⟩
   ·rintro⟨r,h1,h2⟩
    rcases List.mem_append.mp h1 with z | z
    ·exact .inl ⟨r,z,h2⟩
    ·rw[List.mem_singleton.mp z] at h2;exact .inr h2
 ·rintro σ H2 ⟨v0,v1,S,n,rfl,s2,ha2,hm2,hn2⟩
  rw[hR.len,List.take_length] at hm2 hn2
  refine⟨acc,S,n,rfl,ha2,by omega,fun l ns hl hp hm=>?_⟩
  have s4:=Ag hl (.lst (ns.map V.int))
  exact q l _ ns (s2.trans s4) (s2.free hl) hp (fun k=>by rw[hm k,hm2 k]) upd_same
end
abbrev Fg:Stmt:=Bu 11
abbrev E6:Stmt:=Bu 34
def IJ (K:PySem.W.Frag):Sp:=fun vs H Q _=>∃(a b:Addr) (one other:List Int),vs=[.ref a,.ref b]∧SqL K H a (one.map V.int)∧SqL K H b (other.map V.int)∧one.length≤32∧(∀k∈one,0≤k∧k<32)∧other.length≤900∧
 ∀(H':Hp),Same H H'→Q (.bl (one.all fun k=>decide (k∈other))) H'
def EU (K:PySem.W.Frag):Sp:=fun vs H Q _=>∃(s r:Addr) (seen row:List Int),vs=[.ref s,.ref r]∧SqL K H s (seen.map V.int)∧Wr seen∧seen≠[]∧SqL K H r (row.map V.int)∧Wr row∧∀(H':Hp),Same H H'→Q (.str (Bj seen row)) H'
section
variable {P:Program} {w:World} {K:PySem.W.Frag} {mg:Str→Option Value} {base:Heap} {f:Addr} {fd:FuncData}
theorem Qj:As ["one","other"] ["one","other"] (Ae Fg):=⟨rfl,rfl,rfl,by decide +kernel,rfl,by decide +kernel,by decide +kernel⟩
theorem Pg {g:Addr} {gd:FuncData} (F:Fun K "all_within" "all_within" Fg f fd) (B:Bl mg) (GF:FnOk P w K mg base AE 1 g gd ["one","other"] (EQ K)) (CF:AN K mg "in_first_only" g gd ["one","other"]):FnOk P w K mg base AE 2 f fd ["one","other"] (IJ K):=by
 refine F.ok Qj (fun vs H Q E h=>?_) (fun cdv A outer s H vs Q E hr h=>?_)
 ·obtain⟨a,b,one,other,rfl,_⟩:=h
  rfl
 obtain⟨a,b,one,other,rfl,ha,hb,hl1,h32,hl2,q⟩:=h
 refine⟨_,Ad (Ai (Bs AI (Aw Av (by rfl) B.len PySem.boot_len (Aa (Ah GF hr (by rfl) CF.m CF.k CF.b .nil Aq (Aa (pv 0) (Aa (pv 1) Ab))) Ab)) Af (Ao _))),?_⟩
 refine⟨_,rfl,_,rfl,a,b,one,other,rfl,ha,hb,hl1,h32,hl2,fun l H' ns s1 hl hp hm hr1=>?_⟩
 refine⟨l,_,rfl,.inl (SqL.of hr1),rfl,?_⟩
 have e:decide (V.int (((ns.map V.int).length:Nat):Int)=V.int 0)=one.all fun k=>decide (k∈other):=by
  rw[List.length_map]
  cases h:one.all fun k=>decide (k∈other) with
  | true=>
   cases ns with
   | nil=>rfl
   | cons k ns=>
    obtain⟨h1,h2⟩:=(hm k).mp List.mem_cons_self
    exact absurd (of_decide_eq_true (List.all_eq_true.mp h k h1)) h2
  | false=>
   obtain⟨k,h1,h2⟩:=List.all_eq_false.mp h
   have:=List.length_pos_of_mem ((hm k).mpr ⟨h1,fun z=>h2 (decide_eq_true z)⟩)
   exact decide_eq_false fun z=>by
    injection z with z
    omega
 have:=q H' s1
 rw[←e] at this
 exact this
theorem QI:As ["seen","worlds"] ["seen","worlds"] (Ae E6):=⟨rfl,rfl,rfl,by decide +kernel,rfl,by decide +kernel,by decide +kernel⟩
theorem Oa {g g2:Addr} {gd gd2:FuncData} (F:Fun K "plain" "plain" E6 f fd) (GA:FnOk P w K mg base AE 2 g gd ["one","other"] (IJ K)) (CA:AN K mg "all_within" g gd ["one","other"])
  (GS:FnOk P w K mg base AE 2 g2 gd2 ["one","other"] (Gf K)) (CS:AN K mg "some_within" g2 gd2 ["one","other"]):FnOk P w K mg base AE 3 f fd ["seen","worlds"] (EU K):=by
 refine F.ok QI (fun vs H Q E h=>?_) (fun cdv A outer s H vs Q E hr h=>?_)
 ·obtain⟨s,r,seen,row,rfl,_⟩:=h
  rfl
 obtain⟨sn,r,seen,row,rfl,hN,wN,hne,hS,wS,q⟩:=h
 have l1:=wN.len
 have l2:=wS.len
 refine⟨_,Ac (AA (A3 (Ah GA hr (by rfl) CA.m CA.k CA.b .nil Aq (Aa (pv 0) (Aa (pv 1) Ab))))
   (Ad (Ai An))
   Al)
  (Ac (AA (A3 (Ah GS hr (by rfl) CS.m CS.k CS.b .nil Aq (Aa (pv 0) (Aa (pv 1) Ab))))
   (Ad (Ai An))
   Al)
  (Ad (Ai An))),?_⟩
 unfold Bj at q
 refine⟨_,rfl,_,rfl,sn,r,seen,row,rfl,hN,hS,l1,wN.2,by omega,fun H1 s1=>⟨_,rfl,?_⟩⟩
 cases h0:seen.all fun k=>decide (k∈row) with
 | true=>
  refine Bt ?_
  have:=q _ s1
  rw[h0,if_pos rfl] at this
  exact this
 | false=>
  refine AX ?_
  simp only[h0,if_neg Bool.false_ne_true] at q
  refine⟨_,rfl,_,rfl,sn,r,seen,row,rfl,s1.seq hN,s1.seq hS,by omega,by omega,fun H2 s2=>⟨_,rfl,?_⟩⟩
  have q2:=q _ (s1.trans s2)
  cases h1:seen.any fun k=>decide (k∈row) with
  | true=>
   refine Bt ?_
   rw[h1,if_pos rfl] at q2
   exact q2
  | false=>
   refine AX ?_
   rw[h1,if_neg Bool.false_ne_true] at q2
   exact q2
end
abbrev D3:Stmt:=Bu 32
def Se:Option Nat→V
 | none=>.non
 | some i=>.int i
def BZ (sides:List (List Int)) (row:List Int):Option Nat:=sides.findIdx? fun s=>!(s.any fun k=>decide (k∈row))
theorem miss_none {sides:List (List Int)} {row:List Int}:BZ sides row=none↔Br sides row=true:=by
 unfold BZ Br
 rw[List.findIdx?_eq_none_iff,List.all_eq_true]
 exact⟨fun h s hs=>by have:=h s hs;simpa using this,fun h s hs=>by have:=h s hs;simpa using this⟩
theorem Pz {sides:List (List Int)} {row s:List Int} {i:Nat} (hb:∀s∈sides.take i,(s.any fun k=>decide (k∈row))=true) (hi:sides[i]? = some s) (hs:(s.any fun k=>decide (k∈row))=false):BZ sides row=some i:=by
 unfold BZ
 obtain⟨hlt,rfl⟩:=List.getElem?_eq_some_iff.mp hi
 rw[List.findIdx?_eq_some_iff_getElem]
 refine⟨hlt,by simp[hs],fun j hj=>?_⟩
 have hm:sides[j]∈sides.take i:=List.mem_take_iff_getElem.mpr ⟨j,by omega,rfl⟩
 rw[hb _ hm]
 decide
theorem NV {sides:List (List Int)} {row:List Int} (hb:∀s∈sides,(s.any fun k=>decide (k∈row))=true):BZ sides row=none:=by
 rw[miss_none]
 unfold Br
 rw[List.all_eq_true]
 exact hb
theorem Mr {α:Type} {xs:List α} {i:Nat} {x y:α} (hx:xs[i]? = some x) (h:y∈xs.take (i+1)):y∈xs.take i∨y=x:=by
 rw[List.take_succ,hx] at h
 rcases List.mem_append.mp h with h | h
 ·exact .inl h
 ·exact .inr (by simpa using h)
def GQ (K:PySem.W.Frag):Sp:=fun vs H Q _=>∃(sd r:Addr) (row:List Int) (xs:List V) (sides:List (List Int)),vs=[.ref sd,.ref r]∧SqL K H r (row.map V.int)∧row.length≤900∧H sd=some (.lst xs)∧RowsAt H xs sides∧(∀s∈sides,s.length<64)∧sides.length≤900∧∀(H':Hp),Same H H'→Q (Se (BZ sides row)) H'
section
variable {P:Program} {w:World} {K:PySem.W.Frag} {mg:Str→Option Value} {base:Heap} {f:Addr} {fd:FuncData}
theorem scMissed:As ["sides","worlds","at","side"] ["sides","worlds"] (Ae D3):=⟨rfl,rfl,rfl,by decide +kernel,rfl,by decide +kernel,by decide +kernel⟩
theorem Mz {g:Addr} {gd:FuncData} (F:Fun K "missed_side" "missed_side" D3 f fd) (HE:mg "enumerate"=none) (GS:FnOk P w K mg base AE 2 g gd ["one","other"] (Gf K)) (CS:AN K mg "some_within" g gd ["one","other"]):FnOk P w K mg base AE 3 f fd ["sides","worlds"] (GQ K):=by
 refine F.ok scMissed (fun vs H Q E h=>?_) (fun cdv A outer s H vs Q E hr h=>?_)
 ·obtain⟨sd,r,row,xs,sides,rfl,_⟩:=h
  rfl
 obtain⟨sd,r,row,xs,sides,rfl,hS,hl,hX,hR,hsl,hsn,q⟩:=h
 refine⟨_,Ac (BQ PassesOwn.never rfl (Of (by rfl) HE (Aa (pv 0) Ab)) (NQ rfl (DE (AO (i:=2) scMissed.nd rfl (Or.inl rfl)) (DE (AO (i:=3) scMissed.nd rfl (Or.inl rfl)) L1)))
   (Ad (AA (Be (A3 (Ah GS hr (by rfl) CS.m CS.k CS.b .nil Aq (Aa (pv 3) (Aa (pv 1) Ab)))))
    (Ad (Ai (pv 2)))
    Al)))
  (Ad (Ai IL)),?_⟩
 have hlen:=hR.len
 refine⟨_,rfl,sd,_,rfl,hX,MX (a:=sd) (xs:=xs) (fun i σ H3=>∃(v0 v1:Option V),σ=[some (.ref sd),some (.ref r),v0,v1]∧Same H H3∧∀s∈sides.take i,(s.any fun k=>decide (k∈row))=true) ?_ ?_ ?_ ?_⟩
 ·exact⟨_,_,rfl,Same.refl _,fun s hs=>by simp at hs⟩
 ·rintro i σ H3 _ ⟨v0,v1,rfl,s3,h3⟩
  exact s3 _ _ hX
 ·rintro i y T2 σ H3 hy hT2 ⟨v0,v1,rfl,s3,h3⟩
  obtain⟨side,p,hr2,rfl,hp⟩:=hR.get hy
  have sT:=Ag hT2 (.tup [.int (i:Nat),.ref p])
  have s4:=s3.trans sT
  refine⟨T2,_,rfl,SqT.of upd_same,rfl,_,_,rfl,_,_,rfl,rfl,?_⟩
  refine⟨_,rfl,_,rfl,p,r,side,row,rfl,SqL.of (s4 _ _ hp),s4.seq hS,hsl side (List.mem_of_getElem? hr2),hl,fun H4 s5=>⟨_,rfl,?_⟩⟩
  cases hb:side.any fun k=>decide (k∈row) with
  | true=>
   refine AX ?_
   refine⟨_,_,rfl,s4.trans s5,fun s hs=>?_⟩
   rcases Mr hr2 hs with h | rfl
   ·exact h3 s h
   ·exact hb
  | false=>
   refine Bt ?_
   have:=q H4 (s4.trans s5)
   rw[Pz h3 hr2 hb] at this
   exact⟨_,rfl,this⟩
 ·rintro σ H3 ⟨v0,v1,rfl,s3,h3⟩
  rw[hlen,List.take_length] at h3
  have:=q H3 s3
  rw[NV h3] at this
  exact this
end
abbrev Ea:Stmt:=Bu 36
abbrev Cy:Stmt:=Bu 37
abbrev Ef:Stmt:=Bu 38
def HW (K:PySem.W.Frag):Sp:=fun vs H Q _=>∃(sd g s r:Addr) (xs:List V) (sides:List (List Int)) (going seen row:List Int),vs=[.ref sd,.ref g,.ref s,.ref r]∧H sd=some (.lst xs)∧RowsAt H xs sides∧(∀s∈sides,Wr s)∧sides.length≤2∧
 SqL K H g (going.map V.int)∧Wr going∧SqL K H s (seen.map V.int)∧Wr seen∧seen≠[]∧SqL K H r (row.map V.int)∧Wr row∧∀(H':Hp),Same H H'→Q (.str (By sides going seen row)) H'
def Bv (z:Str) (g r:List Int):List Int:=if z="grant" then Ir g r else if z="deny" then Ei g r else g
def NC (sides:List (List Int)) (going seen row:List Int):Option Nat:=if Bj seen row="doubt" then none else BZ sides (Bv (Bj seen row) going row)
def HX (K:PySem.W.Frag):Sp:=fun vs H Q _=>∃(sd g s r:Addr) (xs:List V) (sides:List (List Int)) (going seen row:List Int),vs=[.ref sd,.ref g,.ref s,.ref r]∧H sd=some (.lst xs)∧RowsAt H xs sides∧(∀s∈sides,Wr s)∧sides.length≤2∧
 SqL K H g (going.map V.int)∧Wr going∧SqL K H s (seen.map V.int)∧Wr seen∧seen≠[]∧SqL K H r (row.map V.int)∧Wr row∧∀(H':Hp),Same H H'→Q (Se (NC sides going seen row)) H'
def I0 (K:PySem.W.Frag):Sp:=fun vs H Q _=>∃(z:Str) (g r:Addr) (going row:List Int),vs=[.str z,.ref g,.ref r]∧SqL K H g (going.map V.int)∧Wr going∧SqL K H r (row.map V.int)∧row.length≤900∧
 ∀(l:Addr) (H':Hp),Same H H'→H l=none→AG H' l (Bv z going row)→Q (.ref l) H'
theorem KY {g r ns:List Int} (hg:Wr g) (hp:ns.Pairwise (· < ·)) (hm:∀k,k∈ns↔k∈g∧k∈r):ns=Ir g r:=
 Gh hp (hg.1.sublist List.filter_sublist) fun k=>by rw[hm k];unfold Ir;rw[List.mem_filter,decide_eq_true_eq]
theorem K7 {g r ns:List Int} (hg:Wr g) (hp:ns.Pairwise (· < ·)) (hm:∀k,k∈ns↔k∈g∧k∉r):ns=Ei g r:=
 Gh hp (hg.1.sublist List.filter_sublist) fun k=>by rw[hm k];unfold Ei;rw[List.mem_filter,Bool.not_eq_true',decide_eq_false_iff_not]
theorem JY (xs row:List Int):Ei xs row=[]↔(xs.all fun k=>decide (k∈row))=true:=by
 unfold Ei
 rw[List.filter_eq_nil_iff,List.all_eq_true]
 exact⟨fun h k hk=>by have:=h k hk;simpa using this,fun h k hk=>by have:=h k hk;simpa using this⟩
theorem Rm (seen row:List Int):Bj seen row="grant"∨Bj seen row="deny"∨Bj seen row="doubt":=by
 unfold Bj
 split
 ·exact .inl rfl
 ·split
  ·exact .inr (.inr rfl)
  ·exact .inr (.inl rfl)
theorem Qg (z:Str) (g r:List Int):(Bv z g r).length≤g.length:=by
 have h1:=RG g r
 have h2:=Pu g r
 unfold Bv
 split
 ·omega
 ·split<;>omega
theorem Hj {sides:List (List Int)} {going seen row:List Int} (n0:¬Ei going row=[]) (n1:¬Ir going row=[]):By sides going seen row=match NC sides going seen row with | none=>Bj seen row | some _=>"doubt":=by
 unfold By NC Bv
 rw[if_neg n0,if_neg n1]
 rcases Rm seen row with e | e | e
 ·rw[e,if_neg (show ¬("grant":Str)="doubt" by decide),if_pos (show ("grant":Str)="grant" from rfl)]
  cases hs:Br sides (Ir going row) with
  | true=>
   rw[miss_none.mpr hs,if_neg (by rintro⟨_,z⟩;cases z),if_neg (by rintro⟨z,_⟩;exact absurd z (by decide))]
  | false=>
   rw[if_pos ⟨rfl,rfl⟩]
   cases hm:BZ sides (Ir going row) with
   | none=>rw[miss_none.mp hm] at hs;cases hs
   | some i=>rfl
 ·rw[e,if_neg (show ¬("deny":Str)="doubt" by decide),if_neg (show ¬("deny":Str)="grant" by decide),if_pos (show ("deny":Str)="deny" from rfl)]
  cases hs:Br sides (Ei going row) with
  | true=>
   rw[miss_none.mpr hs,if_neg (by rintro⟨z,_⟩;exact absurd z (by decide)),if_neg (by rintro⟨_,z⟩;cases z)]
  | false=>
   rw[if_neg (by rintro⟨z,_⟩;exact absurd z (by decide)),if_pos ⟨rfl,rfl⟩]
   cases hm:BZ sides (Ei going row) with
   | none=>rw[miss_none.mp hm] at hs;cases hs
   | some i=>rfl
 ·rw[e,if_neg (by rintro⟨z,_⟩;exact absurd z (by decide)),if_neg (by rintro⟨z,_⟩;exact absurd z (by decide)),if_pos rfl]
section
variable {P:Program} {w:World} {K:PySem.W.Frag} {mg:Str→Option Value} {base:Heap} {f:Addr} {fd:FuncData}
theorem NH:As ["word","row","worlds"] ["word","row","worlds"] (Ae Ea):=⟨rfl,rfl,rfl,by decide +kernel,rfl,by decide +kernel,by decide +kernel⟩
theorem MW {g g2:Addr} {gd gd2:FuncData} (F:Fun K "left_by" "left_by" Ea f fd) (T:Fq mg) (GB:FnOk P w K mg base AE 1 g gd ["one","other"] (IS K)) (CB:AN K mg "in_both" g gd ["one","other"])
  (GF:FnOk P w K mg base AE 1 g2 gd2 ["one","other"] (EQ K)) (CF:AN K mg "in_first_only" g2 gd2 ["one","other"]):FnOk P w K mg base AE 2 f fd ["word","row","worlds"] (I0 K):=by
 refine F.ok NH (fun vs H Q E h=>?_) (fun cdv A outer s H vs Q E hr h=>?_)
 ·obtain⟨z,g,r,going,row,rfl,_⟩:=h
  rfl
 obtain⟨z,gg,r,going,row,rfl,hG,wG,hS,hl,q⟩:=h
 have l1:=wG.len
 refine⟨_,Ac (AA (Ak AI (pv 0) An (Ao _))
   (Ad (Ai (Ah GB hr (by rfl) CB.m CB.k CB.b .nil Aq (Aa (pv 1) (Aa (pv 2) Ab)))))
   Al)
  (Ac (AA (Ak AI (pv 0) An (Ao _))
   (Ad (Ai (Ah GF hr (by rfl) CF.m CF.k CF.b .nil Aq (Aa (pv 1) (Aa (pv 2) Ab)))))
   Al)
  (Ad (Ai (AR AW (by rfl) T.lst A8 (Aa (pv 1) Ab))))),?_⟩
 unfold Bv at q
 refine⟨_,rfl,rfl,_,rfl,?_⟩
 by_cases h0:z="grant"
 ·refine Bb (by rw[h0]) ?_
  refine⟨_,rfl,_,rfl,gg,r,going,row,rfl,hG,hS,by omega,by omega,fun l H' ns s1 hl0 hp hm hr1=>?_⟩
  have:=KY wG hp hm
  subst this
  have q1:=q l H' s1 hl0
  rw[if_pos h0] at q1
  exact q1 hr1
 refine AY (fun e=>h0 (by injection e)) ?_
 refine⟨_,rfl,rfl,_,rfl,?_⟩
 by_cases h1:z="deny"
 ·refine Bb (by rw[h1]) ?_
  refine⟨_,rfl,_,rfl,gg,r,going,row,rfl,hG,hS,l1,wG.2,by omega,fun l H' ns s1 hl0 hp hm hr1=>?_⟩
  have:=K7 wG hp hm
  subst this
  have q1:=q l H' s1 hl0
  rw[if_neg h0,if_pos h1] at q1
  exact q1 hr1
 refine AY (fun e=>h1 (by injection e)) ?_
 refine⟨_,rfl,gg,_,rfl,.inl hG,fun l hl0=>?_⟩
 have q1:=q l _ (Ag hl0 (.lst (going.map V.int))) hl0
 rw[if_neg h0,if_neg h1] at q1
 exact q1 upd_same
theorem scBarring:As ["sides","going","seen","worlds","word"] ["sides","going","seen","worlds"] (Ae Cy):=⟨rfl,rfl,rfl,by decide +kernel,rfl,by decide +kernel,by decide +kernel⟩
theorem Kl {g3 g4 g5:Addr} {d3 d4 d5:FuncData} (F:Fun K "barring_side" "barring_side" Cy f fd)
  (GP:FnOk P w K mg base AE 3 g3 d3 ["seen","worlds"] (EU K)) (CP:AN K mg "plain" g3 d3 ["seen","worlds"])
  (GL:FnOk P w K mg base AE 2 g4 d4 ["word","row","worlds"] (I0 K)) (CL:AN K mg "left_by" g4 d4 ["word","row","worlds"])
  (GT:FnOk P w K mg base AE 3 g5 d5 ["sides","worlds"] (GQ K)) (CT:AN K mg "missed_side" g5 d5 ["sides","worlds"]):FnOk P w K mg base AE 4 f fd ["sides","going","seen","worlds"] (HX K):=by
 refine F.ok scBarring (fun vs H Q E h=>?_) (fun cdv A outer s H vs Q E hr h=>?_)
 ·obtain⟨sd,g,s,r,xs,sides,going,seen,row,rfl,_⟩:=h
  rfl
 obtain⟨sd,gg,sn,r,xs,sides,going,seen,row,rfl,hX,hR,wX,hxl,hG,wG,hN,wN,nne,hS,wS,q⟩:=h
 have hr2:Room 2 _:=hr.mono (by decide)
 have l1:=wG.len
 have l3:=wS.len
 refine⟨_,Ac (Au (i:=4) scBarring.nd rfl (Or.inl rfl) (Ah GP hr (by rfl) CP.m CP.k CP.b .nil Aq (Aa (pv 2) (Aa (pv 3) Ab))))
  (Ac (AA (Ak AI (pv 4) An (Ao _))
   (Ad (Ai IL))
   Al)
  (Ad (Ai (Ah GT hr (by rfl) CT.m CT.k CT.b .nil Aq (Aa (pv 0) (Aa (Ah GL hr2 (by rfl) CL.m CL.k CL.b .nil Aq (Aa (pv 4) (Aa (pv 1) (Aa (pv 3) Ab)))) Ab)))))),?_⟩
 unfold NC at q
 refine⟨_,rfl,_,rfl,sn,r,seen,row,rfl,hN,wN,nne,hS,wS,fun H3 s3=>?_⟩
 refine⟨_,rfl,rfl,_,rfl,?_⟩
 by_cases e:Bj seen row="doubt"
 ·refine Bb (by rw[e]) ?_
  have q3:=q _ s3
  rw[if_pos e] at q3
  exact q3
 refine AY (fun z=>e (by injection z)) ?_
 refine⟨_,rfl,_,rfl,_,rfl,_,rfl,Bj seen row,gg,r,going,row,rfl,s3.seq hG,wG,s3.seq hS,by omega,fun l H4 s4 hl0 hl4=>?_⟩
 have s14:=s3.trans s4
 have hll:(Bv (Bj seen row) going row).length≤900:=by
  have:=Qg (Bj seen row) going row
  omega
 refine⟨sd,l,_,xs,sides,rfl,SqL.of hl4,hll,s14 _ _ hX,hR.keep s14,fun s hs=>Nat.lt_of_le_of_lt (wX s hs).len (by decide),by omega,fun H5 s5=>?_⟩
 have q5:=q _ (s14.trans s5)
 rw[if_neg e] at q5
 exact q5
theorem Nn:As ["sides","going","seen","worlds"] ["sides","going","seen","worlds"] (Ae Ef):=⟨rfl,rfl,rfl,by decide +kernel,rfl,by decide +kernel,by decide +kernel⟩
set_option maxHeartbeats 4000000 in
theorem MU {g1 g2 g3 g5:Addr} {d1 d2 d3 d5:FuncData} (F:Fun K "answer" "answer" Ef f fd) (GA:FnOk P w K mg base AE 2 g1 d1 ["one","other"] (IJ K)) (CA:AN K mg "all_within" g1 d1 ["one","other"])
  (GS:FnOk P w K mg base AE 2 g2 d2 ["one","other"] (Gf K)) (CS:AN K mg "some_within" g2 d2 ["one","other"])
  (GP:FnOk P w K mg base AE 3 g3 d3 ["seen","worlds"] (EU K)) (CP:AN K mg "plain" g3 d3 ["seen","worlds"])
  (GT:FnOk P w K mg base AE 4 g5 d5 ["sides","going","seen","worlds"] (HX K)) (CT:AN K mg "barring_side" g5 d5 ["sides","going","seen","worlds"]):FnOk P w K mg base AE 5 f fd ["sides","going","seen","worlds"] (HW K):=by
 refine F.ok Nn (fun vs H Q E h=>?_) (fun cdv A outer s H vs Q E hr h=>?_)
 ·obtain⟨sd,g,s,r,xs,sides,going,seen,row,rfl,_⟩:=h
  rfl
 obtain⟨sd,gg,sn,r,xs,sides,going,seen,row,rfl,hX,hR,wX,hxl,hG,wG,hN,wN,nne,hS,wS,q⟩:=h
 have hr2:Room 2 _:=hr.mono (by decide)
 have hr3:Room 3 _:=hr.mono (by decide)
 have l1:=wG.len
 have l2:=wN.len
 have l3:=wS.len
 refine⟨_,Ac (AA (A3 (Ah GA hr2 (by rfl) CA.m CA.k CA.b .nil Aq (Aa (pv 1) (Aa (pv 3) Ab))))
   (Ad (Ai An))
   Al)
  (Ac (AA (Be (A3 (Ah GS hr2 (by rfl) CS.m CS.k CS.b .nil Aq (Aa (pv 1) (Aa (pv 3) Ab)))))
   (Ad (Ai An))
   Al)
  (Ac (AA (IK (K3 (Ah GT hr (by rfl) CT.m CT.k CT.b .nil Aq (Aa (pv 0) (Aa (pv 1) (Aa (pv 2) (Aa (pv 3) Ab)))))))
   (Ad (Ai (Ah GP hr3 (by rfl) CP.m CP.k CP.b .nil Aq (Aa (pv 2) (Aa (pv 3) Ab)))))
   Al)
  (Ad (Ai An)))),?_⟩
 refine⟨_,rfl,_,rfl,gg,r,going,row,rfl,hG,hS,l1,wG.2,by omega,fun H1 s1=>⟨_,rfl,?_⟩⟩
 cases h0:going.all fun k=>decide (k∈row) with
 | true=>
  refine Bt ?_
  have:=q _ s1
  unfold By at this
  rw[if_pos ((JY _ _).mpr h0)] at this
  exact this
 | false=>
  refine AX ?_
  have n0:¬Ei going row=[]:=fun z=>by rw[(JY _ _).mp z] at h0;cases h0
  refine⟨_,rfl,_,rfl,gg,r,going,row,rfl,s1.seq hG,s1.seq hS,by omega,by omega,fun H2 s2=>⟨_,rfl,?_⟩⟩
  have s12:=s1.trans s2
  cases h1:going.any fun k=>decide (k∈row) with
  | false=>
   refine Bt ?_
   have:=q _ s12
   unfold By at this
   rw[if_neg n0,if_pos ((LQ _ _).mpr h1)] at this
   exact this
  | true=>
   refine AX ?_
   have n1:¬Ir going row=[]:=fun z=>by rw[(LQ _ _).mp z] at h1;cases h1
   refine⟨_,rfl,_,rfl,_,rfl,_,rfl,sd,gg,sn,r,xs,sides,going,seen,row,rfl,s12 _ _ hX,hR.keep s12,wX,hxl,s12.seq hG,wG,s12.seq hN,wN,nne,s12.seq hS,wS,fun H3 s3=>⟨_,rfl,?_⟩⟩
   have s13:=s12.trans s3
   cases hb:NC sides going seen row with
   | none=>
    refine Bb rfl ?_
    refine⟨_,rfl,_,rfl,sn,r,seen,row,rfl,s13.seq hN,wN,nne,s13.seq hS,wS,fun H4 s4=>?_⟩
    have q5:=q _ (s13.trans s4)
    rw[Hj n0 n1,hb] at q5
    exact q5
   | some i=>
    refine AY (fun z=>V.noConfusion z) ?_
    have q5:=q _ s13
    rw[Hj n0 n1,hb] at q5
    exact q5
end
abbrev DX:Stmt:=Bu 31
section
variable {P:Program} {w:World} {K:PySem.W.Frag} {mg:Str→Option Value} {base:Heap} {f:Addr} {fd:FuncData}
theorem No:As ["sides"] ["sides"] (Ae DX):=⟨rfl,rfl,rfl,by decide +kernel,rfl,by decide +kernel,by decide +kernel⟩
theorem Md {g:Addr} {gd:FuncData} (F:Fun K "base_of" "base_of" DX f fd) (GA:FnOk P w K mg base AE 1 g gd ["rows"] (Jv K)) (CA:AN K mg "in_any" g gd ["rows"]):FnOk P w K mg base AE 2 f fd ["sides"] (Jv K):=by
 refine F.ok No (fun vs H Q E h=>?_) (fun cdv A outer s H vs Q E hr h=>?_)
 ·obtain⟨a,xs,rs,rfl,_⟩:=h
  rfl
 obtain⟨a,xs,rs,rfl,hS,hR,h64,q⟩:=h
 refine⟨_,Ad (Ai (Ah GA hr (by rfl) CA.m CA.k CA.b .nil Aq (Aa (pv 0) Ab))),?_⟩
 exact⟨_,rfl,a,xs,rs,rfl,hS,hR,h64,q⟩
end
theorem Ks {z:Str} {t:Tr} {row:List Int}:El (AK z t row)≤row.length:=by
 have h:=JJ t row
 unfold AK El
 split
 ·simp only[List.map_cons,List.map_nil,List.sum_cons,List.sum_nil];omega
 ·split
  ·simp only[List.map_cons,List.map_nil,List.sum_cons,List.sum_nil];omega
  ·simp only[List.map_cons,List.map_nil,List.sum_cons,List.sum_nil];omega
theorem N7 {room ns:List Int} {sides:List (List Int)} (hr:Wr room) (hs:∀s∈sides,s.Sublist room) (hp:ns.Pairwise (· < ·)) (hm:∀k,k∈ns↔∃row∈sides,k∈row):ns=Jn room sides:=
 Gh hp (hr.1.sublist List.filter_sublist) fun k=>by
  rw[hm k]
  unfold Jn
  rw[List.mem_filter,List.any_eq_true]
  constructor
  ·rintro⟨r,h1,h2⟩
   exact⟨(hs r h1).subset h2,r,h1,decide_eq_true h2⟩
  ·rintro⟨_,r,h1,h2⟩
   exact⟨r,h1,of_decide_eq_true h2⟩
structure ID (K:PySem.W.Frag) (mg:Str→Option Value) (nm:Str) (C cT:Addr):Prop where
 at_:XAt K C cT
 cls:Ri K C cT none
 m:mg nm=some (.ref C)
 ty:PySem.W.typeIn K (.ref C)=some (.type "type")
 ic:(PySem.W.clsIn K C).isSome=true
 bs:PySem.W.mroIn K C (.type "BaseException")=some true
 slf:PySem.W.mroIn K C (.ref C)=some true
 up:PySem.W.mroIn K C (.ref cT)=some true
 kv:PySem.W.kitOne K (.ref C) (.type "ValueError")=some true
structure Tu (K:PySem.W.Frag) (mg:Str→Option Value) (cT:Addr):Prop where
 m:mg "TalkError"=some (.ref cT)
 ty:PySem.W.typeIn K (.ref cT)=some (.type "type")
 ic:(PySem.W.clsIn K cT).isSome=true
 bs:PySem.W.mroIn K cT (.type "BaseException")=some true
 mV:mg "ValueError"=none
 isi:mg "isinstance"=none
structure Nb (K:PySem.W.Frag) (C D:Addr):Prop where
 mro:PySem.W.mroIn K C (.ref D)=some false
 kit:PySem.W.kitOne K (.ref C) (.ref D)=some false
theorem Ey {K:PySem.W.Frag} {C cT N NT:Addr} {nm q nm2 q2:Str} {bs bs2:List Value} {hd2:Bool} {sn sn2:List Str} {sub sub2:List Value} {ab ab2:Bool} {col col2:Option Bool} {dd dd2:Option Addr} {k0 k1 k2 k3 k5:Option Value} {j0 j1 j2 j3 j4 j5:Option Value}
  {oc oc2:Value} {od od2:Option Addr} {es es2:Array DictEntry} {ep ep2:Nat} {sl sl2:Array (Option Value)}
  (lC:K.lookup C=some (excClassObj nm q C N bs (.ref cT::Hl) true sn sub ab col dd k0 k1 k2 k3 k5 "ValueError.__new__")) (lN:K.lookup N=some ⟨oc,od,.dict es ep,sl⟩) (sN:(es.all fun e=>match e.key with | .str _ _=>true | _=>false)=true)
  (iN:PySem.W.nsIn K N "__init__"=some none) (lT:K.lookup cT=some ⟨.type "type",dd2,.cls { name:=nm2,bases:=bs2,mro:=.ref cT::Hl,ns:=NT,qualname:=q2,hasDict:=hd2,slotNames:=sn2,subclasses:=sub2,abstract:=ab2,collection:=col2,hasDel:=false },#[j0,j1,j2,j3,j4,j5]⟩)
  (lNT:K.lookup NT=some ⟨oc2,od2,.dict es2 ep2,sl2⟩) (sNT:(es2.all fun e=>match e.key with | .str _ _=>true | _=>false)=true) (iNT:PySem.W.nsIn K NT "__init__"=some none) (kp:PySem.W.keepIn K (.ref C)=true):Ri K C cT none:=
 ⟨⟨nm,q,N,bs,true,sn,sub,ab,col,dd,k0,k1,k2,k3,k5,lC,L4 lN sN,iN⟩,Ox lT (L4 lNT sNT) iNT,kp⟩
theorem Fun.okX {P:Program} {w:World} {K:PySem.W.Frag} {mg:Str→Option Value} {base:Heap} {f:Addr} {fd:FuncData} {x qual:Str} {st:Stmt} {N ps:List Str} {k:Nat} {sp:Sp} (F:Fun K x qual st f fd) (S:As N ps (Ae st)) (len:∀vs H Q E,sp vs H Q E→vs.length=ps.length)
  (hbody:∀(cdv:Value) (A:Around) (outer:List Env) (s:Shared) (H:Hp) (vs:List V) (Q:VK) (E:XK),Room k (A.deeper (envOfC qual (Ae st) s.heap.objs.size f cdv))→sp vs H Q E→
   ∃t,PSs (Jc (Dt P w) P w K mg base N qual (Ae st) f cdv A outer s H E) (Ap st) t∧t { nx:=fun _ H'=>Q .non H',rt:=Q } (EK N vs) H):FnOk P w K mg base (Dt P w) (k+1) f fd ps sp:=by
 obtain⟨oc,od,kV,doc,pm,an,cdv,ct,osl,rfl,lk,hcd⟩:=F.ex
 exact Q4 lk hcd S len fun A outer s H vs Q E hr hsp=>hbody cdv A outer s H vs Q E hr hsp
abbrev Cv:Stmt:=Bu 30
def BP (z:Str):Prop:=z="true"∨z="false"∨z="doubt"
instance (z:Str):Decidable (BP z):=by unfold BP;infer_instance
abbrev RowsNew (H H':Hp):List V→List (List Int)→Prop:=Paired fun (v:V) (row:List Int)=>∃p,v= .ref p∧H p=none∧AG H' p row
theorem RowsNew.at {H H':Hp}:∀{xs:List V} {rs:List (List Int)},RowsNew H H' xs rs→RowsAt H' xs rs
 | _,_,.nil=>.nil
 | _,_,.cons ⟨p,e,_,h⟩ q=>.cons ⟨p,e,h⟩ (RowsNew.at q)
theorem RowsNew.keep {H H' H2:Hp} (s:Same H' H2):∀{xs:List V} {rs:List (List Int)},RowsNew H H' xs rs→RowsNew H H2 xs rs
 | _,_,.nil=>.nil
 | _,_,.cons ⟨p,e,n,h⟩ q=>.cons ⟨p,e,n,s _ _ h⟩ (RowsNew.keep s q)
def Iq (K:PySem.W.Frag) (cB cN:Addr):Sp:=fun vs H Q E=>∃(r:Addr) (z:Str) (v:V) (t:Tr) (row:List Int),vs=[.ref r,.str z,v]∧t.At H v∧t.ok 5∧t.size≤800∧SqL K H r (row.map V.int)∧Wr row∧
 (¬BP z→∀H',Same H H'→E (.ref cB) none H')∧(BP z→[]∈AK z t row→∀H',Same H H'→E (.ref cN) none H')∧
 (BP z→[]∉AK z t row→∀(l:Addr) (xs:List V) (H':Hp),Same H H'→H l=none→H' l=some (.lst xs)→RowsNew H H' xs (AK z t row)→(∀x∈xs,x≠.ref l)→Q (.ref l) H')
def Gk:List V:=[.str "true",.str "false",.str "doubt"]
theorem Mw (z:Str):LK (.str z) Gk=decide (BP z):=by
 unfold LK Gk BP
 simp only[List.any_cons,List.any_nil,Bool.or_false]
 have e:∀y:Str,OV (.str y) (.str z)=decide (z=y):=fun y=>by
  show (y == z)=decide (z=y)
  by_cases h:z=y
  ·subst h;simp
  ·rw[decide_eq_false h]
   exact beq_false_of_ne fun q=>h q.symm
 rw[e,e,e,Bool.eq_iff_iff]
 simp only[Bool.or_eq_true,decide_eq_true_eq]
 exact decide_eq_true_iff.symm
theorem QG {t:Tr} {row ns:List Int} (hr:Wr row) (hp:ns.Pairwise (· < ·)) (hm:∀k,k∈ns↔k∈row∧k∉row.filter fun k=>tv t k == true):ns=AC false t row:=
 Gh hp (hr.1.sublist List.filter_sublist) fun k=>by
  rw[hm k]
  unfold AC
  rw[List.mem_filter,List.mem_filter]
  constructor
  ·rintro⟨h1,h2⟩
   refine⟨h1,?_⟩
   cases h:tv t k with
   | false=>rfl
   | true=>exact absurd ⟨h1,by rw[h];rfl⟩ h2
  ·rintro⟨h1,h2⟩
   refine⟨h1,fun h3=>?_⟩
   have e1:=h3.2
   have e2:tv t k=false:=eq_of_beq h2
   rw[e2] at e1
   cases e1
theorem K5 {r:List Int}:(r.map V.int).isEmpty=r.isEmpty:=by cases r<;>rfl
theorem Mp (rs:List (List Int)):(rs.map List.isEmpty).any id=decide ([]∈rs):=by
 induction rs with
 | nil=>rfl
 | cons r rs ih=>
  rw[List.map_cons,List.any_cons,ih]
  cases r with
  | nil=>simp
  | cons a b=>simp
theorem O5 {K:PySem.W.Frag} {H:Hp} {xs:List V} {rs:List (List Int)} (h:RowsAt H xs rs):∀(i:Nat) v b,xs[i]? = some v→(rs.map List.isEmpty)[i]? = some b→∃a zs,v= .ref a∧SqL K H a zs∧b=zs.isEmpty:=fun i v b hv hb=>by
 obtain⟨row,p,hr,rfl,hp⟩:=h.get hv
 rw[List.getElem?_map,hr] at hb
 refine⟨p,_,rfl,SqL.of hp,?_⟩
 rw[K5]
 exact (Option.some.inj hb).symm
section
variable {P:Program} {w:World} {K:PySem.W.Frag} {mg:Str→Option Value} {base:Heap} {f:Addr} {fd:FuncData} {cB cN cT:Addr}
theorem scSidesOf:As ["room","kind","sentence","inside","outside","sides"] ["room","kind","sentence"] (Ae Cv):=⟨rfl,rfl,rfl,by decide +kernel,rfl,by decide +kernel,by decide +kernel⟩
set_option maxHeartbeats 4000000 in
theorem Kg {g g2:Addr} {gd gd2:FuncData} (F:Fun K "sides_of" "sides_of" Cv f fd) (XB:ID K mg "BadWord" cB cT) (XN:ID K mg "NoStanding" cN cT)
  (GW:FnOk P w K mg base AE 3 g gd ["sentence","room"] (Cl K)) (CW:AN K mg "worlds_of" g gd ["sentence","room"])
  (GF:FnOk P w K mg base AE 1 g2 gd2 ["one","other"] (EQ K)) (CF:AN K mg "in_first_only" g2 gd2 ["one","other"]):FnOk P w K mg base (Dt P w) 4 f fd ["room","kind","sentence"] (Iq K cB cN):=by
 refine Fun.okX F scSidesOf (fun vs H Q E h=>?_) (fun cdv A outer s H vs Q E hr h=>?_)
 ·obtain⟨r,z,v,t,row,rfl,_⟩:=h
  rfl
 obtain⟨r,z,v,t,row,rfl,ha,hok,hsz,hS,hwr,qB,qN,qO⟩:=h
 have hr1:Room 1 _:=hr.mono (by decide)
 have hl:=hwr.len
 refine⟨_,Ac (AA (Ak BH (pv 1) (AU (Aa An (Aa An (Aa An Ab)))) (by with_unfolding_all rfl))
   (Ad (Db (Ex:=E) DC rfl XB.cls XB.at_ XB.ty (by rfl) XB.m (Aa An Ab) (hvl:=fun _ _ _ h=>⟨by decide,h⟩)))
   Al)
  (Ac (Au (i:=3) scSidesOf.nd rfl (Or.inl rfl) (Ah GW hr (by rfl) CW.m CW.k CW.b .nil Aq (Aa (pv 2) (Aa (pv 0) Ab))))
  (Ac (Au (i:=4) scSidesOf.nd rfl (Or.inl rfl) (Ah GF hr1 (by rfl) CF.m CF.k CF.b .nil Aq (Aa (pv 0) (Aa (pv 3) Ab))))
  (Ac (AA (Ak AI (pv 1) An (Ao _))
   (Ad (Au (i:=5) scSidesOf.nd rfl (Or.inl rfl) (AJ (Aa (pv 3) Ab))))
   (Ad (AA (Ak AI (pv 1) An (Ao _))
    (Ad (Au (i:=5) scSidesOf.nd rfl (Or.inl rfl) (AJ (Aa (pv 4) Ab))))
    (Ad (Au (i:=5) scSidesOf.nd rfl (Or.inl rfl) (AJ (Aa (pv 3) (Aa (pv 4) Ab))))))))
  (Ac (AA (Ak (Rp hr.units9) (AJ Ab) (pv 5) (by with_unfolding_all rfl))
   (Ad (Db (Ex:=E) DC rfl XN.cls XN.at_ XN.ty (by rfl) XN.m (Aa An Ab) (hvl:=fun _ _ _ h=>⟨by decide,h⟩)))
   Al)
  (Ad (Ai (pv 5))))))),?_⟩
 refine⟨_,rfl,IO,fun kt hkt=>?_⟩
 have s1:=Ag hkt (.tup Gk)
 refine⟨kt,Gk,rfl,.inr (SqT.of upd_same),rfl,rfl,_,rfl,?_⟩
 show if (!LK (.str z) Gk)=true then _ else _
 rw[Mw]
 by_cases hk:BP z
 rotate_left
 ·refine Ov hk ?_
  exact qB hk _ s1
 refine FS hk ?_
 have a1:=ha.keep (TS.same s1)
 refine⟨_,rfl,_,rfl,v,t,r,row,rfl,a1,hok,hsz,s1.seq hS,hwr,fun il H2 s2 hil0 hil=>?_⟩
 have t2:=s1.trans s2
 have hfl:(row.filter fun k=>tv t k == true).length≤32:=Nat.le_trans (List.length_filter_le _ _) hl
 refine⟨_,rfl,_,rfl,r,il,row,_,rfl,t2.seq hS,SqL.of hil,hl,hwr.2,by omega,fun ol H3 ns s3 hol0 hp hm hol=>?_⟩
 have en:=QG hwr hp hm
 subst en
 have t3:=t2.trans s3
 have hil3:AG H3 il (AC true t row):=s3 _ _ hil
 have nil0:H il=none:=s1.free hil0
 have nol0:H ol=none:=t2.free hol0
 have nio:il≠ol:=Am hil hol0
 have fin:∀(sl:Addr) (xs:List V) (H4:Hp),Same H3 H4→H3 sl=none→H4 sl=some (.lst xs)→RowsNew H H4 xs (AK z t row)→(∀x∈xs,x≠.ref sl)→∀(e:Addr),H4 e=none→∀(G:Bool→Hp→Prop),(∀H',E (.ref cN) none H'→G true H')→(∀H',Q (.ref sl) H'→G false H')→
   SK K (.ref e) (.ref sl) (upd H4 e (.lst [])) (fun x H'=>∃k,x=V.bl k∧G k H'):=fun sl xs H4 s4 hsl0 hsl hR hne e he G g1 g2=>by
  have s5:=Ag he (.lst [])
  refine⟨e,sl,xs,(AK z t row).map List.isEmpty,rfl,rfl,SqL.of upd_same,SqL.of (s5 _ _ hsl),?_,O5 (hR.at.keep s5),_,rfl,?_⟩
  ·rw[List.length_map];exact hR.at.len.symm
  ·rw[Mp]
   by_cases hm0:[]∈AK z t row
   ·rw[decide_eq_true hm0]
    exact g1 _ (qN hk hm0 _ (t3.trans (s4.trans s5)))
   ·rw[decide_eq_false hm0]
    refine g2 _ ?_
    exact qO hk hm0 sl xs _ (t3.trans (s4.trans s5)) (t3.free hsl0) (s5 _ _ hsl) (hR.keep s5) hne
 refine⟨_,rfl,rfl,_,rfl,?_⟩
 by_cases h0:z="true"
 ·refine Bb (by rw[h0]) ?_
  refine⟨_,rfl,Nd,fun sl hsl=>?_⟩
  have s4:=Ag hsl (.lst [.ref il])
  refine⟨Ka,fun e he=>?_⟩
  have eR:AK z t row=[AC true t row]:=by unfold AK;rw[if_pos h0]
  exact⟨_,rfl,fin sl [.ref il] _ s4 hsl upd_same (by rw[eR];exact .cons ⟨il,rfl,nil0,s4 _ _ hil3⟩ .nil) (fun x hx=>by rw[List.mem_singleton.mp hx];intro q;exact Am hil3 hsl (V.ref.inj q)) e he _ (fun H' h=>Bt h) (fun H' h=>AX ⟨_,rfl,h⟩)⟩
 refine AY (fun q=>h0 (by injection q)) ?_
 refine⟨_,rfl,rfl,_,rfl,?_⟩
 by_cases h1:z="false"
 ·refine Bb (by rw[h1]) ?_
  refine⟨_,rfl,Nd,fun sl hsl=>?_⟩
  have s4:=Ag hsl (.lst [.ref ol])
  refine⟨Ka,fun e he=>?_⟩
  have eR:AK z t row=[AC false t row]:=by unfold AK;rw[if_neg h0,if_pos h1]
  exact⟨_,rfl,fin sl [.ref ol] _ s4 hsl upd_same (by rw[eR];exact .cons ⟨ol,rfl,nol0,s4 _ _ hol⟩ .nil) (fun x hx=>by rw[List.mem_singleton.mp hx];intro q;exact Am hol hsl (V.ref.inj q)) e he _ (fun H' h=>Bt h) (fun H' h=>AX ⟨_,rfl,h⟩)⟩
 refine AY (fun q=>h1 (by injection q)) ?_
 refine⟨_,rfl,_,rfl,DP,fun sl hsl=>?_⟩
 have s4:=Ag hsl (.lst [.ref il,.ref ol])
 refine⟨Ka,fun e he=>?_⟩
 have eR:AK z t row=[AC true t row,AC false t row]:=by unfold AK;rw[if_neg h0,if_neg h1]
 refine⟨_,rfl,fin sl [.ref il,.ref ol] _ s4 hsl upd_same (by rw[eR];exact .cons ⟨il,rfl,nil0,s4 _ _ hil3⟩ (.cons ⟨ol,rfl,nol0,s4 _ _ hol⟩ .nil)) (fun x hx=>by
  rcases List.mem_cons.mp hx with q | q
  ·rw[q];intro q;exact Am hil3 hsl (V.ref.inj q)
  ·rw[List.mem_singleton.mp q];intro q;exact Am hol hsl (V.ref.inj q)) e he _ (fun H' h=>Bt h) (fun H' h=>AX ⟨_,rfl,h⟩)⟩
end
abbrev Cr:Stmt:=Bu 15
def Cb:Tr→List Int
 | .lt k=>[(k:Int)]
 | .nt t=>Cb t
 | .bn _ a b=>Cb a++Cb b
def Cg (ts:List Tr):List Int:=ts.flatMap Cb
def PP:Tr→List Int
 | .lt k=>[(k:Int)]
 | _=>[]
def GU (ts:List Tr):List Int:=ts.flatMap PP
theorem Nu:∀t:Tr,Cb t=PP t++Cg (En t)
 | .lt _=>rfl
 | .nt t=>by show Cb t=[]++(Cb t++[]);simp
 | .bn _ a b=>by show Cb a++Cb b=[]++(Cb a++(Cb b++[]));simp
theorem MR (a b:List Tr):Cg (a++b)=Cg a++Cg b:=by unfold Cg;rw[List.flatMap_append]
theorem Mg (ts:List Tr) (k:Int):k∈Cg ts↔k∈GU ts∨k∈Cg (BU ts):=by
 induction ts with
 | nil=>simp[Cg,GU,BU]
 | cons t r ih=>
  have e1:Cg (t::r)=Cb t++Cg r:=rfl
  have e2:GU (t::r)=PP t++GU r:=rfl
  have e3:BU (t::r)=En t++BU r:=rfl
  rw[e1,e2,e3,MR,Nu]
  simp only[List.mem_append,ih]
  constructor
  ·rintro ((h | h) | (h | h))
   ·exact .inl (.inl h)
   ·exact .inr (.inl h)
   ·exact .inl (.inr h)
   ·exact .inr (.inr h)
  ·rintro ((h | h) | (h | h))
   ·exact .inl (.inl h)
   ·exact .inr (.inl h)
   ·exact .inl (.inr h)
   ·exact .inr (.inr h)
theorem Ff {ts:List Tr} {i:Nat} {t:Tr} (h:ts[i]? = some t):GU (ts.take (i+1))=GU (ts.take i)++PP t:=by
 unfold GU
 rw[List.take_add_one,h,List.flatMap_append]
 simp
theorem Ga:∀{t:Tr},t.ok 5→∀k∈Cb t,0≤k∧k<5
 | .lt j,h,k,hk=>by
  have e:k=(j:Int):=by simpa [Cb] using hk
  have:j<5:=h
  omega
 | .nt t,h,k,hk=>Ga (t:=t) h k hk
 | .bn _ a b,h,k,hk=>by
  rcases List.mem_append.mp hk with z | z
  ·exact Ga h.2.1 k z
  ·exact Ga h.2.2 k z
theorem TS.ext {H:Hp} {l:Addr} {o u:HO} (h:H l=some o) (n:∀xs,o≠.tup xs):TS H (upd H l u):=fun p ys e=>by
 rw[Ax (Dv e h fun z=>n ys z.symm)]
 exact e
def Io (K:PySem.W.Frag):Sp:=fun vs H Q _=>∃(v:V) (t:Tr),vs=[v]∧t.AtK K H v∧t.ok 5∧t.size≤800∧∀(l:Addr) (ns:List Int) (H':Hp),Same H H'→H l=none→H' l=some (.lst (ns.map V.int))→ns.Pairwise (· < ·)→(∀k,k∈ns↔k∈Cb t)→Q (.ref l) H'
section
variable {P:Program} {w:World} {K:PySem.W.Frag} {mg:Str→Option Value} {base:Heap} {f:Addr} {fd:FuncData}
theorem scLetters:As ["sentence","found","layer","part"] ["sentence"] (Ae Cr):=⟨rfl,rfl,rfl,by decide +kernel,rfl,by decide +kernel,by decide +kernel⟩
def TK (K:PySem.W.Frag) (w:World) (H:Hp) (v:V) (t:Tr) (fa:Addr) (m:Nat):L2.St→Hp→Prop:=fun σ H3=>∃(S:Int→Bool) (n:Nat) (r:Addr) (ys:List V) (ts:List Tr) (pp:Option V),σ=[some v,some (.ref fa),some (.ref r),pp]∧Same H H3∧H3 fa=some (Bh w fa S n)∧H3 r=some (.lst ys)∧PileK K H3 ys ts∧n+sz ts≤800∧(∀k,k∈Cb t↔S k=true∨k∈Cg ts)∧sz ts=m
set_option maxHeartbeats 4000000 in
theorem KM {g:Addr} {gd:FuncData} (F:Fun K "letters" "letters" Cr f fd) (T:Fq mg) (GP:FnOk P w K mg base AE 1 g gd ["layer"] (Iw K)) (CP:AN K mg "parts_of" g gd ["layer"]):FnOk P w K mg base AE 2 f fd ["sentence"] (Io K):=by
 refine F.ok scLetters (fun vs H Q E h=>?_) (fun cdv A outer s H vs Q E hr h=>?_)
 ·obtain⟨v,t,rfl,_⟩:=h
  rfl
 obtain⟨v,t,rfl,ha,hok,hs,q⟩:=h
 refine⟨_,Ac (Au (i:=1) scLetters.nd rfl (Or.inl rfl) (Ke M7 (by rfl) T.set boot_set))
  (Ac (Au (i:=2) scLetters.nd rfl (Or.inl rfl) (AJ (Aa (pv 0) Ab)))
  (Ac (E2 PassesOwn.never (Ev (pv 2) (fun _=>rfl))
   (Ac (BQ PassesOwn.never rfl (Bn (pv 2)) (AO (i:=3) scLetters.nd rfl (Or.inl rfl))
    (Ad (AA (Ak AI (AB AD (pv 3) Af (fun _ _=>rfl)) An (Ao _))
     (Ad (AV (PR (pv 1) (Aa (AB AD (pv 3) Af (fun _ _=>rfl)) Ab))))
     Al)))
   (Ad (Au (i:=2) scLetters.nd rfl (Or.inl rfl) (Ah GP hr (by rfl) CP.m CP.k CP.b .nil Aq (Aa (pv 2) Ab))))))
  (Ad (Ai (Aw (IH rfl) (by rfl) T.sorted boot_sorted (Aa (pv 1) Ab)))))),?_⟩
 refine⟨rfl,fun fa hfa=>?_⟩
 have s1:=Ag hfa (Bh w fa (fun _=>false) 0)
 refine⟨_,rfl,Nd,fun l hl=>?_⟩
 have s2:=Ag hl (.lst [v])
 have e1:sz [t]=t.size:=by unfold sz;simp
 refine⟨TK K w H v t fa,⟨_,fun _=>false,0,l,[v],[t],none,rfl,s1.trans s2,s2 _ _ upd_same,upd_same,.cons (ha.keep ((TS.same s1).trans (TS.same s2))) .nil,by omega,fun k=>?_,rfl⟩,?_⟩
 ·have:Cg [t]=Cb t:=by unfold Cg;simp
  rw[this]
  simp
 rintro m σ H3 ⟨S,n,r,ys,ts,pp,rfl,s3,hf3,hr3,p3,hn3,hm3,rfl⟩
 refine⟨_,rfl,_,.inl ⟨ys,SqL.of hr3,rfl⟩,?_⟩
 refine BY (fun c=>?_) (fun c=>?_)
 ·refine⟨fun σ' H'=>∃m',m'<sz ts∧TK K w H v t fa m' σ' H',fun _ _ h=>h,?_⟩
  have hlen:=p3.len
  have hpos:0<ts.length:=by
   rw[←hlen]
   cases ys with
   | nil=>exact absurd c (by decide)
   | cons _ _=>exact Nat.succ_pos _
  refine⟨_,rfl,r,rfl,⟨_,SqL.of hr3⟩,Bk (K:=K) (a:=r) (xs:=ys) (fun i σ H4=>∃(S2:Int→Bool) (n2:Nat) (pp:Option V),σ=[some v,some (.ref fa),some (.ref r),pp]∧Same H H4∧H4 fa=some (Bh w fa S2 n2)∧H4 r=some (.lst ys)∧PileK K H4 ys ts∧n2≤n+i∧∀k,S2 k=true↔S k=true∨k∈GU (ts.take i)) ?_ ?_ ?_ ?_⟩
  ·exact⟨S,n,pp,rfl,s3,hf3,hr3,p3,Nat.le_refl _,fun k=>by simp[GU]⟩
  ·rintro i σ H4 _ ⟨S2,n2,pp,rfl,s4,_,hr4,_⟩
   exact SqL.of hr4
  ·rintro i x σ H4 hx ⟨S2,n2,pp,rfl,s4,hf4,hr4,p4,hn4,hm4⟩
   obtain⟨t2,ht2,hat⟩:=PileK.get p4 hx
   have hi:i<ys.length:=(List.getElem?_eq_some_iff.mp hx).1
   have hsz:=Gr ts
   cases t2 with
   | lt j=>
    obtain⟨p,rfl,hp⟩:=hat
    refine⟨_,rfl,p,_,_,_,rfl,rfl,hp.sq,Aj (j:=0) rfl,rfl,_,rfl,?_⟩
    refine Bb rfl ?_
    refine⟨_,rfl,fa,S2,n2,rfl,hf4,_,rfl,p,_,_,_,rfl,rfl,hp.sq,Aj (j:=1) rfl,_,S2,n2,rfl,hf4,by omega,?_⟩
    have kk:TS H4 (upd H4 fa (Bh w fa (fun k=>S2 k || decide (k=(j:Int))) (n2+1))):=TS.ext hf4 (fun xs z=>by cases z)
    refine⟨_,n2+1,_,rfl,AH s4 hfa _,upd_same,by rw[Ax (Dv hr4 hf4 (by intro z;cases z))];exact hr4,p4.keep kk,by omega,fun k=>?_⟩
    rw[Bool.or_eq_true,decide_eq_true_eq,hm4 k,Ff ht2,List.mem_append]
    show (_∨_)∨k=(j:Int)↔_∨_∨k∈[(j:Int)]
    rw[List.mem_singleton,or_assoc]
   | nt t3=>
    obtain⟨p,u,rfl,hp,_⟩:=hat
    refine⟨_,rfl,p,_,_,_,rfl,rfl,hp.sq,Aj (j:=0) rfl,rfl,_,rfl,?_⟩
    refine AY (by decide) ?_
    refine⟨S2,n2,_,rfl,s4,hf4,hr4,p4,by omega,fun k=>?_⟩
    rw[hm4 k,Ff ht2]
    show _↔_∨k∈GU (ts.take i)++[]
    rw[List.append_nil]
   | bn j a b=>
    obtain⟨p,u,u2,rfl,hp,_⟩:=hat
    refine⟨_,rfl,p,_,_,_,rfl,rfl,hp.sq,Aj (j:=0) rfl,rfl,_,rfl,?_⟩
    refine AY Fr ?_
    refine⟨S2,n2,_,rfl,s4,hf4,hr4,p4,by omega,fun k=>?_⟩
    rw[hm4 k,Ff ht2]
    show _↔_∨k∈GU (ts.take i)++[]
    rw[List.append_nil]
  ·rintro σ H4 ⟨S2,n2,pp,rfl,s4,hf4,hr4,p4,hn4,hm4⟩
   rw[hlen,List.take_length] at hm4
   have hk:=LT ts
   refine⟨_,rfl,r,ys,ts,rfl,SqL.of hr4,p4,by omega,fun r2 zs H5 s5 hr5 p5=>?_⟩
   refine⟨sz (BU ts),by omega,S2,n2,r2,zs,BU ts,_,rfl,s4.trans s5,s5 _ _ hf4,hr5,p5,by omega,fun k=>?_,rfl⟩
   rw[hm3 k,Mg,hm4 k,or_assoc]
 ·have e:ts=[]:=by
   cases p3 with
   | nil=>rfl
   | cons h1 h2=>exact absurd rfl c
  subst e
  refine⟨_,rfl,fa,S,n,rfl,hf3,fun k hk=>?_,fun l2 ns hl2 hp hm=>?_⟩
  ·have:=Ga hok k ((hm3 k).mpr (.inl hk))
   omega
  refine q l2 ns _ (s3.trans (Ag hl2 _)) (s3.free hl2) upd_same hp fun k=>?_
  rw[hm k,hm3 k]
  simp[Cg]
end
theorem Bg {us:List Value} (h:us.length=1):∃a0:Value,us=[a0]:=by
 cases us with
 | nil=>exact absurd h (by simp)
 | cons a0 us=>
  have h:us.length=0:=Nat.succ.inj h
  cases us with
  | nil=>exact⟨a0,rfl⟩
  | cons _ _=>exact absurd h (by simp)
theorem A7 {us:List Value} (h:us.length=2):∃a0 a1:Value,us=[a0,a1]:=by
 cases us with
 | nil=>exact absurd h (by simp)
 | cons a0 us=>
  have h:us.length=1:=Nat.succ.inj h
  cases us with
  | nil=>exact absurd h (by simp)
  | cons a1 us=>
   have h:us.length=0:=Nat.succ.inj h
   cases us with
   | nil=>exact⟨a0,a1,rfl⟩
   | cons _ _=>exact absurd h (by simp)
theorem BG {us:List Value} (h:us.length=3):∃a0 a1 a2:Value,us=[a0,a1,a2]:=by
 cases us with
 | nil=>exact absurd h (by simp)
 | cons a0 us=>
  have h:us.length=2:=Nat.succ.inj h
  cases us with
  | nil=>exact absurd h (by simp)
  | cons a1 us=>
   have h:us.length=1:=Nat.succ.inj h
   cases us with
   | nil=>exact absurd h (by simp)
   | cons a2 us=>
    have h:us.length=0:=Nat.succ.inj h
    cases us with
    | nil=>exact⟨a0,a1,a2,rfl⟩
    | cons _ _=>exact absurd h (by simp)
theorem Gm {us:List Value} (h:us.length=4):∃a0 a1 a2 a3:Value,us=[a0,a1,a2,a3]:=by
 cases us with
 | nil=>exact absurd h (by simp)
 | cons a0 us=>
  have h:us.length=3:=Nat.succ.inj h
  cases us with
  | nil=>exact absurd h (by simp)
  | cons a1 us=>
   have h:us.length=2:=Nat.succ.inj h
   cases us with
   | nil=>exact absurd h (by simp)
   | cons a2 us=>
    have h:us.length=1:=Nat.succ.inj h
    cases us with
    | nil=>exact absurd h (by simp)
    | cons a3 us=>
     have h:us.length=0:=Nat.succ.inj h
     cases us with
     | nil=>exact⟨a0,a1,a2,a3,rfl⟩
     | cons _ _=>exact absurd h (by simp)
theorem Re {us:List Value} (h:us.length=5):∃a0 a1 a2 a3 a4:Value,us=[a0,a1,a2,a3,a4]:=by
 cases us with
 | nil=>exact absurd h (by simp)
 | cons a0 us=>
  have h:us.length=4:=Nat.succ.inj h
  cases us with
  | nil=>exact absurd h (by simp)
  | cons a1 us=>
   have h:us.length=3:=Nat.succ.inj h
   cases us with
   | nil=>exact absurd h (by simp)
   | cons a2 us=>
    have h:us.length=2:=Nat.succ.inj h
    cases us with
    | nil=>exact absurd h (by simp)
    | cons a3 us=>
     have h:us.length=1:=Nat.succ.inj h
     cases us with
     | nil=>exact absurd h (by simp)
     | cons a4 us=>
      have h:us.length=0:=Nat.succ.inj h
      cases us with
      | nil=>exact⟨a0,a1,a2,a3,a4,rfl⟩
      | cons _ _=>exact absurd h (by simp)
theorem RO {us:List Value} (h:us.length=6):∃a0 a1 a2 a3 a4 a5:Value,us=[a0,a1,a2,a3,a4,a5]:=by
 cases us with
 | nil=>exact absurd h (by simp)
 | cons a0 us=>
  have h:us.length=5:=Nat.succ.inj h
  cases us with
  | nil=>exact absurd h (by simp)
  | cons a1 us=>
   have h:us.length=4:=Nat.succ.inj h
   cases us with
   | nil=>exact absurd h (by simp)
   | cons a2 us=>
    have h:us.length=3:=Nat.succ.inj h
    cases us with
    | nil=>exact absurd h (by simp)
    | cons a3 us=>
     have h:us.length=2:=Nat.succ.inj h
     cases us with
     | nil=>exact absurd h (by simp)
     | cons a4 us=>
      have h:us.length=1:=Nat.succ.inj h
      cases us with
      | nil=>exact absurd h (by simp)
      | cons a5 us=>
       have h:us.length=0:=Nat.succ.inj h
       cases us with
       | nil=>exact⟨a0,a1,a2,a3,a4,a5,rfl⟩
       | cons _ _=>exact absurd h (by simp)
def EA (ns:List Int) (k:Int):Int:=if h:(k%(ns.length:Int)).toNat<ns.length then (if ns[(k%(ns.length:Int)).toNat]<0 then -ns[(k%(ns.length:Int)).toNat] else ns[(k%(ns.length:Int)).toNat]) else 0
def Q5 (c k:Int):Int:=(c*48271+40692*k+11)%2147483647*2147483629+((c*48271+40692*k+11)%2147483647*((c*48271+40692*k+11)%2147483647)+69621*c+17)%2147483629
def Fx (ns:List Int) (k:Int):Int:=if k<(ns.length:Int)∧EA ns k≥1000000000000 then EA ns k else Q5 (EA ns k) k
def IX (K:PySem.W.Frag):Sp:=fun vs H Q _=>∃(a:Addr) (ns:List Int) (k:Int),vs=[.ref a,.int k]∧SqL K H a (ns.map V.int)∧ns.length≤63∧0≤k∧k≤1000∧∀(H':Hp),0≤Fx ns k→Same H H'→Q (.int (Fx ns k)) H'
theorem RK {ns:List Int} {k c:Int} (e:EA ns k=c) (h1:k<(ns.length:Int)) (h2:c≥1000000000000):c=Fx ns k:=by
 unfold Fx
 rw[e,if_pos ⟨h1,h2⟩]
theorem Iv {ns:List Int} {k c:Int} (e:EA ns k=c) (h:¬(k<(ns.length:Int)∧c≥1000000000000)):Q5 c k=Fx ns k:=by
 unfold Fx
 rw[e,if_neg h]
section
variable {P:Program} {w:World} {K:PySem.W.Frag} {mg:Str→Option Value} {base:Heap} {f:Addr} {fd:FuncData}
theorem KO (G:FnOk P w K mg base AE 1 f fd ["_law_script","_law_k"] (IX K)):FnOk P w K mg base AE 1 f fd ["_law_script","_law_k"] (LJ K):=G.imp fun vs H Q E h=>by
 obtain⟨a,ns,k,e,h1,h2,h3,h4,q⟩:=h
 exact⟨a,ns,k,e,h1,h2,h3,h4,fun H' h0 s=>q _ H' h0 s⟩
theorem Pn (F:Fun K "_law_num" "_law_num" MB f fd) (B:Bl mg):FnOk P w K mg base AE 1 f fd ["_law_script","_law_k"] (IX K):=by
 refine F.ok scNum (fun vs H Q E h=>?_) (fun cdv A outer s H vs Q E hr h=>?_)
 ·obtain⟨a,ns,k,rfl,_⟩:=h
  rfl
 obtain⟨a,ns,k,rfl,hS,h63,hk0,hk1,q⟩:=h
 refine⟨_,Ac (Au (i:=2) scNum.nd rfl (Or.inl rfl) Af)
  (Ac (AA (Ak (Hk hr.units0) (pv 0) (AJ Ab) (Ao _))
   (Ad (Au (i:=2) scNum.nd rfl (Or.inl rfl) (Aw Pd (by rfl) B.abs boot_abs (Aa (AB AM (pv 0) (Ay AQ (pv 1) (Aw Av (by rfl) B.len PySem.boot_len (Aa (pv 0) Ab))) (fun _ _=>rfl)) Ab)))) Al)
  (Ac (AA (DK (Ak FP (pv 1) (Aw Av (by rfl) B.len PySem.boot_len (Aa (pv 0) Ab)) (Ao _)) (Ch (Ak Q1 (pv 2) (Ay Pa Af Af) (Ao _)))).pt
   (Ad (Ai (pv 2))) Al)
  (Ac (Au (i:=3) scNum.nd rfl (Or.inl rfl) (Ay AQ (Ay Bz (Ay Bz (Ay Gx (pv 2) Af) (Ay Gx Af (pv 1))) Af) Af))
  (Ac (Au (i:=4) scNum.nd rfl (Or.inl rfl) (Ay AQ (Ay Bz (Ay Bz (Ay Gx (pv 3) (pv 3)) (Ay Gx Af (pv 2))) Af) Af))
  (Ad (Ai (Ay Bz (Ay Gx (pv 3) Af) (pv 4)))))))),?_⟩
 refine⟨_,rfl,Ka,fun p hp=>?_⟩
 have sm:Same H (upd H p (.lst [])):=Ag hp _
 refine⟨a,p,_,rfl,rfl,sm.seq hS,SqL.of upd_same,_,rfl,?_⟩
 have hl:(ns.map V.int).length=ns.length:=List.length_map _
 have fin:∀c:Int,0≤c→∀b:Int,0≤(c*48271+40692*k+11)%2147483647*2147483629+b%2147483629:=fun c hc b=>by
  have h1:=Int.emod_nonneg (c*48271+40692*k+11) (show (2147483647:Int)≠0 by decide)
  have h2:=Int.emod_nonneg b (show (2147483629:Int)≠0 by decide)
  omega
 have b64:∀b:Int,-(2^64)<b%2147483647∧b%2147483647<2^64:=fun b=>by omega
 refine BY (fun c0=>?_) (fun c0=>?_)
 ·have ne:ns≠[]:=by
   intro z
   subst z
   exact absurd c0 (by decide)
  have hp':0<ns.length:=List.length_pos_iff.mpr ne
  have hi:(k%(ns.length:Int)).toNat<ns.length:=by
   have h1:=Int.emod_nonneg k (show (ns.length:Int)≠0 by omega)
   have h2:=Int.emod_lt_of_pos k (show (0:Int)<ns.length by omega)
   omega
  have hat:FV (ns.map V.int) (k%(((ns.map V.int).length:Nat):Int))=some (.int ns[(k%(ns.length:Int)).toNat]):=by
   have e:k%(((ns.map V.int).length:Nat):Int)=(((k%(ns.length:Int)).toNat:Nat):Int):=by
    rw[hl]
    have h1:=Int.emod_nonneg k (show (ns.length:Int)≠0 by omega)
    omega
   rw[e]
   refine Aj ?_
   rw[List.getElem?_map,List.getElem?_eq_getElem hi]
   rfl
  refine⟨_,rfl,_,rfl,_,rfl,a,_,rfl,.inl (sm.seq hS),_,_,rfl,rfl,(by rw[hl];omega),a,_,_,_,rfl,rfl,sm.seq hS,hat,_,rfl,?_⟩
  generalize hc:(if ns[(k%(ns.length:Int)).toNat]<0 then -ns[(k%(ns.length:Int)).toNat] else ns[(k%(ns.length:Int)).toNat])=c
  have hc0:0≤c:=by
   rw[←hc]
   split<;>omega
  have eC:EA ns k=c:=by
   unfold EA
   rw[dif_pos hi]
   exact hc
  refine⟨_,rfl,_,rfl,a,_,rfl,.inl (sm.seq hS),_,_,rfl,rfl,_,rfl,?_⟩
  refine BY (fun c1=>?_) (fun c1=>?_)
  ·refine⟨_,rfl,_,_,rfl,rfl,⟨by decide,by decide,by decide⟩,_,_,rfl,rfl,_,rfl,?_⟩
   refine BY (fun c2=>?_) (fun c2=>?_)
   ·have e1:=RK eC (by have z:=of_decide_eq_true c1;rw[hl] at z;exact z) (of_decide_eq_true c2)
    rw[←e1] at q
    exact⟨_,rfl,q _ hc0 sm⟩
   ·refine⟨_,rfl,_,_,rfl,rfl,.inr ⟨by decide,by decide⟩,_,rfl,_,_,rfl,rfl,.inl ⟨by decide,by decide⟩,_,_,rfl,rfl,_,_,rfl,rfl,_,_,rfl,rfl,(by show (0:Int)<2147483647;decide),?_⟩
    refine⟨_,rfl,_,rfl,_,_,rfl,rfl,.inl (b64 _),_,rfl,_,_,rfl,rfl,.inl ⟨by decide,by decide⟩,_,_,rfl,rfl,_,_,rfl,rfl,_,_,rfl,rfl,(by show (0:Int)<2147483629;decide),?_⟩
    have e1:=Iv (k:=k) eC (fun z=>c2 (decide_eq_true z.2))
    rw[←e1] at q
    exact⟨_,rfl,_,_,rfl,rfl,.inl (b64 _),_,rfl,_,_,rfl,rfl,q _ (fin c hc0 _) sm⟩
  ·refine AX ?_
   refine⟨_,rfl,_,_,rfl,rfl,.inr ⟨by decide,by decide⟩,_,rfl,_,_,rfl,rfl,.inl ⟨by decide,by decide⟩,_,_,rfl,rfl,_,_,rfl,rfl,_,_,rfl,rfl,(by show (0:Int)<2147483647;decide),?_⟩
   refine⟨_,rfl,_,rfl,_,_,rfl,rfl,.inl (b64 _),_,rfl,_,_,rfl,rfl,.inl ⟨by decide,by decide⟩,_,_,rfl,rfl,_,_,rfl,rfl,_,_,rfl,rfl,(by show (0:Int)<2147483629;decide),?_⟩
   have e1:=Iv (k:=k) eC (fun z=>c1 (decide_eq_true (by rw[hl];exact z.1)))
   rw[←e1] at q
   exact⟨_,rfl,_,_,rfl,rfl,.inl (b64 _),_,rfl,_,_,rfl,rfl,q _ (fin c hc0 _) sm⟩
 ·have en:ns=[]:=by
   cases ns with
   | nil=>rfl
   | cons x r=>exact absurd (by rfl) c0
  subst en
  have eC:EA [] k=0:=by
   unfold EA
   rw[dif_neg (by simp)]
  refine⟨_,rfl,_,rfl,a,_,rfl,.inl (sm.seq hS),_,_,rfl,rfl,_,rfl,?_⟩
  refine BY (fun c1=>?_) (fun c1=>?_)
  ·refine⟨_,rfl,_,_,rfl,rfl,⟨by decide,by decide,by decide⟩,_,_,rfl,rfl,_,rfl,?_⟩
   refine BY (fun c2=>?_) (fun c2=>?_)
   ·exact absurd (of_decide_eq_true c2) (by decide)
   ·refine⟨_,rfl,_,_,rfl,rfl,.inr ⟨by decide,by decide⟩,_,rfl,_,_,rfl,rfl,.inl ⟨by decide,by decide⟩,_,_,rfl,rfl,_,_,rfl,rfl,_,_,rfl,rfl,(by show (0:Int)<2147483647;decide),?_⟩
    refine⟨_,rfl,_,rfl,_,_,rfl,rfl,.inl (b64 _),_,rfl,_,_,rfl,rfl,.inl ⟨by decide,by decide⟩,_,_,rfl,rfl,_,_,rfl,rfl,_,_,rfl,rfl,(by show (0:Int)<2147483629;decide),?_⟩
    have e1:=Iv (k:=k) eC (fun z=>absurd z.2 (by decide))
    rw[←e1] at q
    exact⟨_,rfl,_,_,rfl,rfl,.inl (b64 _),_,rfl,_,_,rfl,rfl,q _ (fin 0 (Int.le_refl _) _) sm⟩
  ·refine AX ?_
   refine⟨_,rfl,_,_,rfl,rfl,.inr ⟨by decide,by decide⟩,_,rfl,_,_,rfl,rfl,.inl ⟨by decide,by decide⟩,_,_,rfl,rfl,_,_,rfl,rfl,_,_,rfl,rfl,(by show (0:Int)<2147483647;decide),?_⟩
   refine⟨_,rfl,_,rfl,_,_,rfl,rfl,.inl (b64 _),_,rfl,_,_,rfl,rfl,.inl ⟨by decide,by decide⟩,_,_,rfl,rfl,_,_,rfl,rfl,_,_,rfl,rfl,(by show (0:Int)<2147483629;decide),?_⟩
   have e1:=Iv (k:=k) eC (fun z=>absurd z.2 (by decide))
   rw[←e1] at q
   exact⟨_,rfl,_,_,rfl,rfl,.inl (b64 _),_,rfl,_,_,rfl,rfl,q _ (fin 0 (Int.le_refl _) _) sm⟩
end
abbrev CU:Stmt:=Bu 25
theorem Ge:∀{t:Tr} {m:Nat},t.ok 5→(t.ok m↔∀k∈Cb t,k<(m:Int))
 | .lt j,m,_=>by
  show j<m↔∀k∈[(j:Int)],k<(m:Int)
  simp
 | .nt t,m,h=>Ge (t:=t) h
 | .bn j a b,m,h=>by
  have h1:=Ge (m:=m) h.2.1
  have h2:=Ge (m:=m) h.2.2
  show (j<4∧a.ok m∧b.ok m)↔∀k∈Cb a++Cb b,k<(m:Int)
  rw[h1,h2]
  constructor
  ·rintro⟨_,q1,q2⟩ k hk
   rcases List.mem_append.mp hk with z | z
   ·exact q1 k z
   ·exact q2 k z
  ·intro q
   exact⟨h.1,fun k hk=>q k (List.mem_append_left _ hk),fun k hk=>q k (List.mem_append_right _ hk)⟩
theorem IN:∀t:Tr,∃k,k∈Cb t
 | .lt j=>⟨(j:Int),by simp[Cb]⟩
 | .nt t=>IN t
 | .bn _ a b=>by
  obtain⟨k,hk⟩:=IN a
  exact⟨k,List.mem_append_left _ hk⟩
theorem Qu {ns:List Int} {x:Int} (h:(ns++[x]).Pairwise (· < ·)):∀k∈ns++[x],k≤x:=fun k hk=>by
 rcases List.mem_append.mp hk with z | z
 ·exact Int.le_of_lt ((List.pairwise_append.mp h).2.2 k z x (by simp))
 ·rw[List.mem_singleton.mp z]
  exact Int.le_refl _
theorem EX {α:Type} (xs:List α) (x:α):FV (xs++[x]) (-1)=some x:=by
 have e:QZ (xs++[x]).length (-1)=some xs.length:=by
  unfold QZ
  rw[if_neg (by decide),List.length_append]
  show (if _ then _ else _)=_
  rw[if_pos (by show -(((xs.length+1:Nat)):Int)≤-1;omega)]
  congr 1
  show (((xs.length+1:Nat):Int) + -1).toNat=xs.length
  omega
 unfold FV
 rw[e]
 show (xs++[x])[xs.length]? = some x
 simp
def Fs (K:PySem.W.Frag) (cS:Addr):Sp:=fun vs H Q E=>∃(v:V) (t:Tr) (m:Nat),vs=[v,.int m]∧t.AtK K H v∧t.ok 5∧t.size≤800∧(¬t.ok m→∀H',Same H H'→E (.ref cS) none H')∧(t.ok m→∀H',Same H H'→Q .non H')
def JN (cS:Addr):Sp:=fun vs H Q E=>∃(v:V) (t:Tr) (m:Nat),vs=[v,.int m]∧t.At H v∧t.ok 5∧t.size≤60∧(¬t.ok m→∀H',Same H H'→E (.ref cS) none H')∧(t.ok m→∀H',Same H H'→Q .non H')
section
variable {P:Program} {w:World} {K:PySem.W.Frag} {mg:Str→Option Value} {base:Heap} {f:Addr} {fd:FuncData} {cS cT:Addr}
theorem MY:As ["sentence","many"] ["sentence","many"] (Ae CU):=⟨rfl,rfl,rfl,by decide +kernel,rfl,by decide +kernel,by decide +kernel⟩
set_option maxHeartbeats 4000000 in
theorem Mm {g:Addr} {gd:FuncData} (F:Fun K "refuse_strange" "refuse_strange" CU f fd) (XS:ID K mg "StrangeLetter" cS cT) (GL:FnOk P w K mg base AE 2 g gd ["sentence"] (Io K)) (CL:AN K mg "letters" g gd ["sentence"]):FnOk P w K mg base (Dt P w) 3 f fd ["sentence","many"] (Fs K cS):=by
 refine Fun.okX F MY (fun vs H Q E h=>?_) (fun cdv A outer s H vs Q E hr h=>?_)
 ·obtain⟨v,t,m,rfl,_⟩:=h
  rfl
 obtain⟨v,t,m,rfl,ha,hok,hsz,qE,q⟩:=h
 refine⟨_,Ad (AA (Ak Q1 (AB AM (Ah GL hr (by rfl) CL.m CL.k CL.b .nil Aq (Aa (pv 0) Ab)) (JF G0 Af) (fun _ _=>rfl)) (pv 1) (Ao _))
   (Ad (Db (Ex:=E) DC rfl XS.cls XS.at_ XS.ty (by rfl) XS.m (Aa An Ab) (hvl:=fun _ _ _ h=>⟨by decide,h⟩)))
   Al),?_⟩
 refine⟨_,rfl,v,t,rfl,ha,hok,hsz,fun l ns H1 s1 hl0 hl hp hm=>?_⟩
 obtain⟨k0,hk0⟩:=IN t
 have hne:ns≠[]:=List.ne_nil_of_mem ((hm k0).mpr hk0)
 obtain⟨ms,x,rfl⟩:∃ms x,ns=ms++[x]:=⟨ns.dropLast,ns.getLast hne,(List.dropLast_concat_getLast hne).symm⟩
 have hmax:=Qu hp
 have hx:x∈Cb t:=(hm x).mp (by simp)
 have hiff:=Ge (m:=m) hok
 have hat:FV ((ms++[x]).map V.int) (-1)=some (.int x):=by rw[List.map_append];exact EX _ _
 refine⟨_,rfl,l,_,_,_,rfl,rfl,SqL.of hl,hat,_,rfl,_,_,rfl,rfl,_,rfl,?_⟩
 by_cases c:t.ok m
 ·refine AY (fun z=>?_) (q c _ s1)
  have:=hiff.mp c x hx
  have z':x≥(m:Int):=z
  omega
 ·refine Bb ?_ (qE c _ s1)
  show x≥(m:Int)
  refine Int.not_lt.mp fun z=>c (hiff.mpr fun k hk=>?_)
  have:=hmax k ((hm k).mpr hk)
  omega
theorem RH (G:FnOk P w K mg base (Dt P w) 3 f fd ["sentence","many"] (Fs K cS)):FnOk P w K mg base (Dt P w) 3 f fd ["sentence","many"] (JN cS):=G.imp fun vs H Q E h=>by
 obtain⟨v,t,m,e,ha,ok,hs,h⟩:=h
 exact⟨v,t,m,e,ha.toK,ok,Nat.le_trans hs (by decide),h⟩
end
def Bq (M:List Addr) (H:Hp):Hp:=fun b=>if b∈M then none else H b
section
variable {M N:List Addr} {H H' H0 H1:Hp} {a b l:Addr} {o:HO}
theorem BS (h:Bq M H b=some o):H b=some o∧b∉M:=by
 unfold Bq at h
 by_cases c:b∈M
 ·rw[if_pos c] at h;cases h
 ·rw[if_neg c] at h;exact⟨h,c⟩
theorem Bi (h:H b=some o) (n:b∉M):Bq M H b=some o:=by unfold Bq;rw[if_neg n];exact h
theorem cut_same:Same (Bq M H) H:=fun b o h=>(BS h).1
theorem AL (s:Same H H'):Same (Bq M H) (Bq M H'):=fun b o h=>Bi (s _ _ (BS h).1) (BS h).2
theorem EO (h:a∈M):Bq M (upd H a o)=Bq M H:=by
 funext b
 unfold Bq
 by_cases c:b∈M
 ·rw[if_pos c,if_pos c]
 ·rw[if_neg c,if_neg c,Ax (fun z=>c (by rw[z];exact h))]
abbrev But (M:List Addr) (H H':Hp):Prop:=Same (Bq M H) (Bq M H')
theorem But.upd (h:a∈M):But M H (upd H a o):=by
 show Same (Bq M H) (Bq M (L2.upd H a o))
 rw[EO h]
 exact Same.refl _
theorem But.wide (h:∀x∈M,x∈N) (s:But M H H'):But N H H':=fun b o e=>by
 obtain⟨e1,n⟩:=BS e
 exact Bi (BS (s b o (Bi e1 fun z=>n (h b z)))).1 n
theorem But.same (off:∀m∈M,H0 m=none) (s0:Same H0 H) (s:But M H H'):Same H0 H':=fun b o e=>
 (BS (s b o (Bi (s0 _ _ e) fun z=>by rw[off b z] at e;cases e))).1
theorem But.at (s:But M H H') (h:H b=some o) (n:b∉M):H' b=some o:=(BS (s b o (Bi h n))).1
end
structure Tk where
 dx:Addr
 sp:Addr
 pt:Addr
 gv:Addr
 lf:Addr
 sv:V
 pxs:List V
 ges:List V
 lfs:List V
structure Ta where
 many:Nat
 kind:Str
 rule:Str
 t:Tr
 room:List Int
 ents:List (V×Tr×Str)
 lefts:List (List Int)
 ended:Bool
def Ta.sides (W:Ta):List (List Int):=AK W.kind W.t W.room
def Ta.base (W:Ta):List Int:=W.lefts.headD []
def Ta.held (W:Ta):List Int:=W.lefts.getLastD []
def Ta.going (W:Ta):List Int:=if W.rule="elder" then W.held else W.base
def Du (U:Tk) (W:Ta):List (Str×V):=[("many",.int W.many),("kind",.str W.kind),("sentence",U.sv),("rule",.str W.rule),("space",.ref U.sp),("parts",.ref U.pt),("given",.ref U.gv),("left",.ref U.lf),("ended",.bl W.ended)]
abbrev EntsAt (H:Hp):List V→List (V×Tr×Str)→Prop:=Paired fun (v:V) (e:V×Tr×Str)=>∃p,v= .ref p∧H p=some (.tup [e.1,.str e.2.2])∧e.2.1.At H e.1
theorem EntsAt.keep {H H':Hp} (s:Same H H'):∀{xs:List V} {es:List (V×Tr×Str)},EntsAt H xs es→EntsAt H' xs es
 | _,_,.nil=>.nil
 | _,_,.cons ⟨p,e,h,a⟩ q=>.cons ⟨p,e,s _ _ h,a.keep (TS.same s)⟩ (EntsAt.keep s q)
structure TalkAt (M:List Addr) (C:Addr) (H:Hp) (a:Addr) (U:Tk) (W:Ta):Prop where
 ob:H a=some (.ins C U.dx (Du U W))
 gv:H U.gv=some (.lst U.ges)
 lf:H U.lf=some (.lst U.lfs)
 ma:a∈M
 mg:U.gv∈M
 ml:U.lf∈M
 ne:U.gv≠U.lf
 room:AG (Bq M H) U.sp W.room
 tr:W.t.At (Bq M H) U.sv
 pt:Bq M H U.pt=some (.lst U.pxs)
 sd:RowsAt (Bq M H) U.pxs W.sides
 en:EntsAt (Bq M H) U.ges W.ents
 lr:RowsAt (Bq M H) U.lfs W.lefts
 wr:Wr W.room
 wl:∀l∈W.lefts,l.Sublist W.room
 ln:W.lefts≠[]
 l9:W.lefts.length≤900
 e9:W.ents.length≤900
 tok:W.t.ok W.many
 m5:W.many≤5
 tsz:W.t.size≤23
 kd:BP W.kind
 ns:[]∉W.sides
 rl:W.rule="elder"∨W.rule="newer"
section
variable {M:List Addr} {C:Addr} {H H':Hp} {a:Addr} {U:Tk} {W:Ta}
theorem TalkAt.keep (s:Same H H') (h:TalkAt M C H a U W):TalkAt M C H' a U W:=
 ⟨s _ _ h.ob,s _ _ h.gv,s _ _ h.lf,h.ma,h.mg,h.ml,h.ne,AL s _ _ h.room,h.tr.keep (TS.same (AL s)),AL s _ _ h.pt,h.sd.keep (AL s),h.en.keep (AL s),h.lr.keep (AL s),h.wr,h.wl,h.ln,h.l9,h.e9,h.tok,h.m5,h.tsz,h.kd,h.ns,h.rl⟩
theorem TalkAt.ws (h:TalkAt M C H a U W):∀s∈W.sides,Wr s:=fun s hs=>h.wr.sub (FE hs)
theorem Iu:(Du U W).lookup ("many":Str)=some (.int W.many):=by with_unfolding_all rfl
theorem QS:(Du U W).lookup ("kind":Str)=some (.str W.kind):=by with_unfolding_all rfl
theorem JA:(Du U W).lookup ("sentence":Str)=some U.sv:=by with_unfolding_all rfl
theorem IW:(Du U W).lookup ("rule":Str)=some (.str W.rule):=by with_unfolding_all rfl
theorem DH:(Du U W).lookup ("space":Str)=some (.ref U.sp):=by with_unfolding_all rfl
theorem Jt:(Du U W).lookup ("parts":Str)=some (.ref U.pt):=by with_unfolding_all rfl
theorem EE:(Du U W).lookup ("given":Str)=some (.ref U.gv):=by with_unfolding_all rfl
theorem Dn:(Du U W).lookup ("left":Str)=some (.ref U.lf):=by with_unfolding_all rfl
theorem Gs:(Du U W).lookup ("ended":Str)=some (.bl W.ended):=by with_unfolding_all rfl
theorem QH:(Du U W).lookup ("room":Str)=none:=by with_unfolding_all rfl
theorem QM:(Du U W).lookup ("base":Str)=none:=by with_unfolding_all rfl
theorem EL:(Du U W).lookup ("held":Str)=none:=by with_unfolding_all rfl
theorem Oi:(Du U W).lookup ("going":Str)=none:=by with_unfolding_all rfl
theorem NR:(Du U W).lookup ("sides":Str)=none:=by with_unfolding_all rfl
theorem Gv:(Du U W).lookup ("entries":Str)=none:=by with_unfolding_all rfl
theorem PZ:(Du U W).lookup ("over":Str)=none:=by with_unfolding_all rfl
theorem Hm:(Du U W).lookup ("ask":Str)=none:=by with_unfolding_all rfl
theorem Nv:(Du U W).lookup ("say":Str)=none:=by with_unfolding_all rfl
theorem PD:(Du U W).lookup ("fork":Str)=none:=by with_unfolding_all rfl
end
def TalkN (M:List Addr) (C:Addr) (H:Hp) (a:Addr) (U:Tk) (W:Ta):Prop:=TalkAt M C (upd H U.gv (.lst U.ges)) a U W∧∃gs,H U.gv=some (.lst gs)∧gs.length≤900
section
variable {M:List Addr} {C:Addr} {H H':Hp} {a:Addr} {U:Tk} {W:Ta}
theorem RU {H:Hp} {a:Addr} {o:HO} (h:H a=some o):upd H a o=H:=by
 funext b
 by_cases c:b=a
 ·rw[c,upd_same,h]
 ·rw[Ax c]
theorem TalkAt.toN (h:TalkAt M C H a U W):TalkN M C H a U W:=⟨by rw[RU h.gv];exact h,U.ges,h.gv,by rw[Paired.length h.en];exact h.e9⟩
theorem TalkN.keep (s:Same H H') (h:TalkN M C H a U W):TalkN M C H' a U W:=by
 obtain⟨h1,gs,h2,h3⟩:=h
 refine⟨h1.keep fun b o e=>?_,gs,s _ _ h2,h3⟩
 by_cases c:b=U.gv
 ·rw[c] at e ⊢
  rw[upd_same] at e ⊢
  exact e
 ·rw[Ax c] at e ⊢
  exact s _ _ e
theorem TalkN.agv (h:TalkN M C H a U W):a≠U.gv:=Dv h.1.ob h.1.gv (by intro z;cases z)
theorem TalkN.ob (h:TalkN M C H a U W):H a=some (.ins C U.dx (Du U W)):=by
 have:=h.1.ob
 rw[Ax h.agv] at this
 exact this
theorem TalkN.lf (h:TalkN M C H a U W):H U.lf=some (.lst U.lfs):=by
 have:=h.1.lf
 rw[Ax h.1.ne.symm] at this
 exact this
theorem TalkN.ct (h:TalkN M C H a U W):Bq M (upd H U.gv (.lst U.ges))=Bq M H:=EO h.1.mg
theorem TalkN.room (h:TalkN M C H a U W):AG (Bq M H) U.sp W.room:=by rw[←h.ct];exact h.1.room
theorem TalkN.pt (h:TalkN M C H a U W):Bq M H U.pt=some (.lst U.pxs):=by rw[←h.ct];exact h.1.pt
theorem TalkN.sd (h:TalkN M C H a U W):RowsAt (Bq M H) U.pxs W.sides:=by rw[←h.ct];exact h.1.sd
theorem TalkN.lr (h:TalkN M C H a U W):RowsAt (Bq M H) U.lfs W.lefts:=by rw[←h.ct];exact h.1.lr
end
structure BN (K:PySem.W.Frag) (C:Addr) (nm:Str) (f:Addr) (fd:FuncData) (ps:List Str):Prop where
 m:QO K C nm f
 b:Binds K fd ps []
structure Rr (K:PySem.W.Frag) (mg:Str→Option Value) (C:Addr) (nm:Str) (f:Addr) (fd:FuncData) (ps:List Str):Prop where
 make:Mk K C f
 m:mg nm=some (.ref C)
 b:Binds K fd ps []
structure Jh (K:PySem.W.Frag) (C:Addr):Prop where
 cl:Cls K C
 many:NoAttr K C "many"
 kind:NoAttr K C "kind"
 sentence:NoAttr K C "sentence"
 rule:NoAttr K C "rule"
 space:NoAttr K C "space"
 parts:NoAttr K C "parts"
 given:NoAttr K C "given"
 left:NoAttr K C "left"
 ended:NoAttr K C "ended"
theorem M3 {H:Hp} {xs:List V} {rs:List (List Int)} (h:RowsAt H xs rs) (ne:rs≠[]):∃p,FV xs 0=some (.ref p)∧AG H p (rs.headD []):=by
 cases h with
 | nil=>exact absurd rfl ne
 | cons r q=>
  obtain⟨p,rfl,hp⟩:=r
  exact⟨p,Aj (j:=0) rfl,hp⟩
theorem HS {H:Hp}:∀{xs:List V} {rs:List (List Int)},RowsAt H xs rs→rs≠[]→∃ys p,xs=ys++[.ref p]∧RowsAt H ys rs.dropLast∧AG H p (rs.getLastD [])
 | _,_,.nil,ne=>absurd rfl ne
 | [_],[_],.cons ⟨p,rfl,hp⟩ .nil,_=>⟨[],p,rfl,.nil,hp⟩
 | x::_::_,_::_::_,.cons hx (.cons h2 q),_=>by
  obtain⟨ys,p,e,h1,h3⟩:=HS (.cons h2 q) (List.cons_ne_nil _ _)
  exact⟨x::ys,p,by rw[e];rfl,.cons hx h1,h3⟩
theorem Hf {H:Hp} {xs:List V} {rs:List (List Int)} (h:RowsAt H xs rs) (ne:rs≠[]):∃p,FV xs (-1)=some (.ref p)∧AG H p (rs.getLastD []):=by
 obtain⟨ys,p,rfl,_,hp⟩:=HS h ne
 exact⟨p,EX _ _,hp⟩
theorem TalkAt.s9 {M:List Addr} {C:Addr} {H:Hp} {a:Addr} {U:Tk} {W:Ta} (h:TalkAt M C H a U W):W.sides.length≤900:=by
 unfold Ta.sides
 rcases Ec (z:=W.kind) (t:=W.t) (row:=W.room) with⟨x,e⟩|⟨x,y,e⟩<;>rw[e]<;>simp
theorem TalkAt.held_in {M:List Addr} {C:Addr} {H:Hp} {a:Addr} {U:Tk} {W:Ta} (h:TalkAt M C H a U W):W.held∈W.lefts:=by
 unfold Ta.held
 have:=h.ln
 cases e:W.lefts with
 | nil=>exact absurd e this
 | cons x r=>
  rw[List.getLastD_eq_getLast?,List.getLast?_eq_some_getLast (List.cons_ne_nil x r)]
  exact List.getLast_mem _
theorem TalkAt.base_in {M:List Addr} {C:Addr} {H:Hp} {a:Addr} {U:Tk} {W:Ta} (h:TalkAt M C H a U W):W.base∈W.lefts:=by
 unfold Ta.base
 have:=h.ln
 cases e:W.lefts with
 | nil=>exact absurd e this
 | cons x r=>exact List.mem_cons_self
theorem TalkAt.held_wr {M:List Addr} {C:Addr} {H:Hp} {a:Addr} {U:Tk} {W:Ta} (h:TalkAt M C H a U W):Wr W.held:=h.wr.sub (h.wl _ h.held_in)
theorem TalkAt.base_wr {M:List Addr} {C:Addr} {H:Hp} {a:Addr} {U:Tk} {W:Ta} (h:TalkAt M C H a U W):Wr W.base:=h.wr.sub (h.wl _ h.base_in)
theorem TalkAt.going_wr {M:List Addr} {C:Addr} {H:Hp} {a:Addr} {U:Tk} {W:Ta} (h:TalkAt M C H a U W):Wr W.going:=by
 unfold Ta.going
 split
 ·exact h.held_wr
 ·exact h.base_wr
theorem ET {H0 H:Hp} {v:V} {row:List Int} (h:∃p,v= .ref p∧H0 p=none∧AG H p row):∀{xs:List V} {rs:List (List Int)},RowsNew H0 H xs rs→RowsNew H0 H (xs++[v]) (rs++[row])
 | _,_,.nil=>.cons h .nil
 | _,_,.cons x q=>.cons x (ET h q)
theorem FT {H0 H H':Hp} {acc:Addr}:∀{xs:List V} {rs:List (List Int)},RowsNew H0 H xs rs→(∀y∈xs,y≠.ref acc)→(∀p row,p≠acc→AG H p row→AG H' p row)→RowsNew H0 H' xs rs
 | _,_,.nil,_,_=>.nil
 | _,_,.cons ⟨p,e,n,h⟩ q,ho,k=>.cons ⟨p,e,n,k p _ (fun z=>ho _ List.mem_cons_self (by rw[e,z])) h⟩ (FT q (fun y hy=>ho y (List.mem_cons_of_mem _ hy)) k)
theorem IM {K:PySem.W.Frag} {a acc:Addr} {xs:List V} {rs:List (List Int)} {te:TE} {rest:L2.St} {D:Ce} {H:Hp} (hr:SqL K H a xs) (hR:RowsAt H xs rs) (hacc:H acc=none) (hlen:xs.length≤900)
  (ht:∀(p:Addr) (row:List Int) H2,AG H2 p row→∀R:V→Hp→Prop,(∀l,H2 l=none→R (.ref l) (upd H2 l (.lst (row.map V.int))))→te (some (.ref p)::rest) H2 R)
  (hd:∀v0 ys H2,Same H H2→H2 acc=some (.lst ys)→RowsNew H H2 ys rs→(∀y∈ys,y≠.ref acc)→D.nx (v0::rest) H2) (v:Option V) :
  Eu (P4 K a) (Dq 0) (Dw KU (Cf acc te)) D (v::rest) (upd H acc (.lst [])):=by
 refine Bk (K:=K) (a:=a) (xs:=xs) (fun i σ H2=>∃v0 ys,σ=v0::rest∧Same H H2∧H2 acc=some (.lst ys)∧(∀y∈ys,y≠.ref acc)∧RowsNew H H2 ys (rs.take i)) ⟨v,[],rfl,Ag hacc _,upd_same,fun y hy=>by simp at hy,.nil⟩ ?_ ?_ ?_
 ·rintro i σ H2 _ ⟨v0,ys,rfl,s2,_⟩
  exact s2.seq hr
 ·rintro i x σ H2 hx ⟨v0,ys,rfl,s2,ha2,ho,hy2⟩
  obtain⟨row,p,hrow,rfl,hp⟩:=hR.get hx
  have et:rs.take (i+1)=rs.take i++[row]:=by rw[List.take_add_one,hrow];rfl
  show Cf acc te _ _ _
  refine ht p row H2 (s2 _ _ hp) _ fun l hl=>?_
  have s3:=Ag hl (.lst (row.map V.int))
  have nl:l≠acc:=fun e=>by rw[e,ha2] at hl;cases hl
  have hylen:=hy2.at.len
  refine⟨ys,s3 _ _ ha2,AF (by rw[hylen,List.length_take];have:=hR.len;omega),?_⟩
  refine⟨_,ys++[.ref l],rfl,AH (s2.trans s3) hacc _,upd_same,fun y hy=>?_,?_⟩
  ·rcases List.mem_append.mp hy with z | z
   ·exact ho y z
   ·rw[List.mem_singleton.mp z]
    exact fun q=>nl (V.ref.inj q)
  ·rw[et]
   refine ET ⟨l,rfl,s2.free hl,by show upd _ _ _ l=_;rw[Ax nl];exact upd_same⟩ (FT hy2 ho fun p' row' n' h'=>?_)
   show upd _ _ _ p'=_
   rw[Ax n']
   exact s3 _ _ h'
 ·rintro σ H2 ⟨v0,ys,rfl,s2,ha2,ho,hy2⟩
  rw[hR.len,List.take_length] at hy2
  exact hd v0 ys H2 s2 ha2 hy2 ho
section
variable {P:Program} {w:World} {K:PySem.W.Frag} {mg:Str→Option Value} {base:Heap} {f:Addr} {fd:FuncData} {cK:Addr}
abbrev FA:Stmt:=BL (Bu 40) 1
def Lo (C:Addr):Sp:=fun vs H Q _=>∃(a:Addr) (M:List Addr) (U:Tk) (W:Ta),vs=[.ref a]∧TalkAt M C H a U W∧∀(l:Addr) (H':Hp),Same H H'→H l=none→AG H' l W.room→Q (.ref l) H'
theorem QJ:As ["self"] ["self"] (Ae FA):=⟨rfl,rfl,rfl,by decide +kernel,rfl,by decide +kernel,by decide +kernel⟩
theorem Ot (F:Fun K "room" "Talk.room" FA f fd) (TX:Jh K cK) (T:Fq mg):FnOk P w K mg base AE 1 f fd ["self"] (Lo cK):=by
 refine F.ok QJ (fun vs H Q E h=>?_) (fun cdv A outer s H vs Q E hr h=>?_)
 ·obtain⟨a,M,U,W,rfl,_⟩:=h
  rfl
 obtain⟨a,M,U,W,rfl,h,q⟩:=h
 refine⟨_,Ad (Ai (AR AW (by rfl) T.lst A8 (Aa (A1 (pv 0) rfl) Ab))),?_⟩
 exact⟨_,rfl,a,cK,_,_,_,rfl,h.ob,TX.cl,TX.space,DH,_,_,rfl,.inl (SqL.of (cut_same _ _ h.room)),fun l hl=>q l _ (Ag hl _) hl upd_same⟩
abbrev E5:Stmt:=BL (Bu 40) 2
def JG (C:Addr):Sp:=fun vs H Q _=>∃(a:Addr) (M:List Addr) (U:Tk) (W:Ta),vs=[.ref a]∧TalkN M C H a U W∧∀(l:Addr) (H':Hp),Same H H'→H l=none→AG H' l W.base→Q (.ref l) H'
theorem P2:As ["self"] ["self"] (Ae E5):=⟨rfl,rfl,rfl,by decide +kernel,rfl,by decide +kernel,by decide +kernel⟩
theorem O7 (F:Fun K "base" "Talk.base" E5 f fd) (TX:Jh K cK) (T:Fq mg):FnOk P w K mg base AE 1 f fd ["self"] (JG cK):=by
 refine F.ok P2 (fun vs H Q E h=>?_) (fun cdv A outer s H vs Q E hr h=>?_)
 ·obtain⟨a,M,U,W,rfl,_⟩:=h
  rfl
 obtain⟨a,M,U,W,rfl,h,q⟩:=h
 refine⟨_,Ad (Ai (AR AW (by rfl) T.lst A8 (Aa (AB AM (A1 (pv 0) rfl) Af (fun _ _=>rfl)) Ab))),?_⟩
 obtain⟨p,hp1,hp2⟩:=M3 h.lr h.1.ln
 exact⟨_,rfl,a,cK,_,_,_,rfl,h.ob,TX.cl,TX.left,Dn,_,_,_,_,rfl,rfl,SqL.of h.lf,hp1,p,_,rfl,.inl (SqL.of (cut_same _ _ hp2)),fun l hl=>q l _ (Ag hl _) hl upd_same⟩
abbrev E4:Stmt:=BL (Bu 40) 3
def Hu (C:Addr):Sp:=fun vs H Q _=>∃(a:Addr) (M:List Addr) (U:Tk) (W:Ta),vs=[.ref a]∧TalkN M C H a U W∧∀(l:Addr) (H':Hp),Same H H'→H l=none→AG H' l W.held→Q (.ref l) H'
def IA (C:Addr):Sp:=fun vs H Q _=>∃(a:Addr) (M:List Addr) (U:Tk) (W:Ta),vs=[.ref a]∧TalkAt M C H a U W∧∀(l:Addr) (H':Hp),Same H H'→H l=none→AG H' l W.held→Q (.ref l) H'
theorem Pl:As ["self"] ["self"] (Ae E4):=⟨rfl,rfl,rfl,by decide +kernel,rfl,by decide +kernel,by decide +kernel⟩
theorem OK (F:Fun K "held" "Talk.held" E4 f fd) (TX:Jh K cK) (T:Fq mg):FnOk P w K mg base AE 1 f fd ["self"] (Hu cK):=by
 refine F.ok Pl (fun vs H Q E h=>?_) (fun cdv A outer s H vs Q E hr h=>?_)
 ·obtain⟨a,M,U,W,rfl,_⟩:=h
  rfl
 obtain⟨a,M,U,W,rfl,h,q⟩:=h
 refine⟨_,Ad (Ai (AR AW (by rfl) T.lst A8 (Aa (AB AM (A1 (pv 0) rfl) (JF G0 Af) (fun _ _=>rfl)) Ab))),?_⟩
 obtain⟨p,hp1,hp2⟩:=Hf h.lr h.1.ln
 exact⟨_,rfl,a,cK,_,_,_,rfl,h.ob,TX.cl,TX.left,Dn,_,rfl,_,_,_,_,rfl,rfl,SqL.of h.lf,hp1,p,_,rfl,.inl (SqL.of (cut_same _ _ hp2)),fun l hl=>q l _ (Ag hl _) hl upd_same⟩
theorem Li {k:Nat} (G:FnOk P w K mg base AE k f fd ["self"] (Hu cK)):FnOk P w K mg base AE k f fd ["self"] (IA cK):=G.imp fun vs H Q E h=>by
 obtain⟨a,M,U,W,e,hT,h⟩:=h
 exact⟨a,M,U,W,e,hT.toN,h⟩
abbrev D2:Stmt:=BL (Bu 40) 4
def Ik (C:Addr):Sp:=fun vs H Q _=>∃(a:Addr) (M:List Addr) (U:Tk) (W:Ta),vs=[.ref a]∧TalkN M C H a U W∧∀(l:Addr) (H':Hp),Same H H'→H l=none→AG H' l W.going→Q (.ref l) H'
theorem O0:As ["self"] ["self"] (Ae D2):=⟨rfl,rfl,rfl,by decide +kernel,rfl,by decide +kernel,by decide +kernel⟩
theorem MF {g1 g2:Addr} {d1 d2:FuncData} (F:Fun K "going" "Talk.going" D2 f fd) (TX:Jh K cK) (GH:FnOk P w K mg base AE 1 g1 d1 ["self"] (Hu cK)) (CH:BN K cK "held" g1 d1 ["self"])
  (GB:FnOk P w K mg base AE 1 g2 d2 ["self"] (JG cK)) (CB:BN K cK "base" g2 d2 ["self"]):FnOk P w K mg base AE 2 f fd ["self"] (Ik cK):=by
 refine F.ok O0 (fun vs H Q E h=>?_) (fun cdv A outer s H vs Q E hr h=>?_)
 ·obtain⟨a,M,U,W,rfl,_⟩:=h
  rfl
 obtain⟨a,M,U,W,rfl,h,q⟩:=h
 refine⟨_,Ac (AA (Ak AI (A1 (pv 0) rfl) An (Ao _))
   (Ad (Ai (Bf (pv 0) TX.cl CH.m GH hr CH.b .nil Aq)))
   Al)
  (Ad (Ai (Bf (pv 0) TX.cl CB.m GB hr CB.b .nil Aq))),?_⟩
 unfold Ta.going at q
 refine⟨_,rfl,a,cK,_,_,_,rfl,h.ob,TX.cl,TX.rule,IW,rfl,_,rfl,?_⟩
 by_cases c:W.rule="elder"
 ·refine Bb (by rw[c]) ?_
  rw[if_pos c] at q
  exact⟨_,rfl,a,_,_,rfl,h.ob,EL,a,M,U,W,rfl,h,q⟩
 ·refine AY (fun z=>c (by injection z)) ?_
  rw[if_neg c] at q
  exact⟨_,rfl,a,_,_,rfl,h.ob,QM,a,M,U,W,rfl,h,q⟩
abbrev DT:Stmt:=BL (Bu 40) 5
def JI (C:Addr):Sp:=fun vs H Q _=>∃(a:Addr) (M:List Addr) (U:Tk) (W:Ta),vs=[.ref a]∧TalkAt M C H a U W∧∀(l:Addr) (xs:List V) (H':Hp),Same H H'→H l=none→H' l=some (.lst xs)→RowsNew H H' xs W.sides→(∀x∈xs,x≠.ref l)→Q (.ref l) H'
theorem NF:As ["self"] ["self"] (Ae DT):=⟨rfl,rfl,rfl,by decide +kernel,rfl,by decide +kernel,by decide +kernel⟩
theorem MA (F:Fun K "sides" "Talk.sides" DT f fd) (TX:Jh K cK) (T:Fq mg):FnOk P w K mg base AE 1 f fd ["self"] (JI cK):=by
 refine F.ok NF (fun vs H Q E h=>?_) (fun cdv A outer s H vs Q E hr h=>?_)
 ·obtain⟨a,M,U,W,rfl,_⟩:=h
  rfl
 obtain⟨a,M,U,W,rfl,h,q⟩:=h
 refine⟨_,Ad (Ai (Cc (N:=["side"]) (js:=[none]) (cl:=[]) ⟨rfl,rfl,rfl,List.forall_mem_nil _,rfl,rfl,rfl⟩ (Bn (A1 (pv 0) rfl)) (fun c1=>(AO (i:=0) (show (["side"]:List Str).Nodup by decide +kernel) rfl (Or.inl rfl))) (fun c1=>Dg) (fun c1=>(AR AW (by rfl) T.lst A8 (Aa (pv 0) Ab))))),?_⟩
 have hlen:=h.sd.len
 have h2:W.sides.length≤2:=by
  unfold Ta.sides
  rcases Ec (z:=W.kind) (t:=W.t) (row:=W.room) with⟨x,e⟩|⟨x,y,e⟩<;>rw[e]<;>simp
 refine⟨_,rfl,a,cK,_,_,_,rfl,h.ob,TX.cl,TX.parts,Jt,U.pt,rfl,⟨_,SqL.of (cut_same _ _ h.pt)⟩,fun cc acc hacc=>IM (rest:=[]) (SqL.of (cut_same _ _ h.pt)) (h.sd.keep cut_same) hacc (by omega) (fun p row H2 hp R hR=>⟨_,rfl,p,_,rfl,.inl (SqL.of hp),fun l hl=>hR l hl⟩) (fun v0 ys H2 s2 h2 hN hne=>q acc ys H2 s2 hacc h2 hN hne) none⟩
abbrev B4:Stmt:=BL (Bu 40) 6
def Hq (C:Addr):Sp:=fun vs H Q _=>∃(a:Addr) (M:List Addr) (U:Tk) (W:Ta),vs=[.ref a]∧TalkAt M C H a U W∧∀(l:Addr) (H':Hp),Same H H'→H l=none→H' l=some (.lst U.ges)→Q (.ref l) H'
theorem KS:As ["self"] ["self"] (Ae B4):=⟨rfl,rfl,rfl,by decide +kernel,rfl,by decide +kernel,by decide +kernel⟩
theorem J8 (F:Fun K "entries" "Talk.entries" B4 f fd) (TX:Jh K cK) (T:Fq mg):FnOk P w K mg base AE 1 f fd ["self"] (Hq cK):=by
 refine F.ok KS (fun vs H Q E h=>?_) (fun cdv A outer s H vs Q E hr h=>?_)
 ·obtain⟨a,M,U,W,rfl,_⟩:=h
  rfl
 obtain⟨a,M,U,W,rfl,h,q⟩:=h
 refine⟨_,Ad (Ai (AR AW (by rfl) T.lst A8 (Aa (A1 (pv 0) rfl) Ab))),?_⟩
 exact⟨_,rfl,a,cK,_,_,_,rfl,h.ob,TX.cl,TX.given,EE,_,_,rfl,.inl (SqL.of h.gv),fun l hl=>q l _ (Ag hl _) hl upd_same⟩
abbrev Fa:Stmt:=BL (Bu 40) 8
def J3 (C:Addr):Sp:=fun vs H Q _=>∃(a:Addr) (M:List Addr) (U:Tk) (W:Ta),vs=[.ref a]∧TalkN M C H a U W∧Q (.bl W.ended) H
theorem Qr:As ["self"] ["self"] (Ae Fa):=⟨rfl,rfl,rfl,by decide +kernel,rfl,by decide +kernel,by decide +kernel⟩
theorem Ou (F:Fun K "over" "Talk.over" Fa f fd) (TX:Jh K cK):FnOk P w K mg base AE 1 f fd ["self"] (J3 cK):=by
 refine F.ok Qr (fun vs H Q E h=>?_) (fun cdv A outer s H vs Q E hr h=>?_)
 ·obtain⟨a,M,U,W,rfl,_⟩:=h
  rfl
 obtain⟨a,M,U,W,rfl,h,q⟩:=h
 refine⟨_,Ad (Ai (A1 (pv 0) rfl)),?_⟩
 exact⟨_,rfl,a,cK,_,_,_,rfl,h.ob,TX.cl,TX.ended,Gs,q⟩
end
abbrev Fb:Stmt:=BL (Bu 40) 0
def Cp (z:Str):Prop:=z="elder"∨z="newer"
instance (z:Str):Decidable (Cp z):=by unfold Cp;infer_instance
def Ls:List V:=[.str "elder",.str "newer"]
theorem NJ (z:Str):LK (.str z) Ls=decide (Cp z):=by
 unfold LK Ls Cp
 simp only[List.any_cons,List.any_nil,Bool.or_false]
 have e:∀y:Str,OV (.str y) (.str z)=decide (z=y):=fun y=>by
  show (y == z)=decide (z=y)
  by_cases h:z=y
  ·subst h;simp
  ·rw[decide_eq_false h]
   exact beq_false_of_ne fun q=>h q.symm
 rw[e,e,Bool.eq_iff_iff]
 simp only[Bool.or_eq_true,decide_eq_true_eq]
 exact decide_eq_true_iff.symm
def Ck (many:Nat) (kind rule:Str) (t:Tr) (room:List Int):Ta:=⟨many,kind,rule,t,room,[],[Jn room (AK kind t room)],false⟩
def Jb (C cS cB cN:Addr):Sp:=fun vs H Q E=>∃(x dx rm:Addr) (many:Nat) (kind rule:Str) (v:V) (t:Tr) (room:List Int) (M:List Addr),vs=[.ref x,.int many,.ref rm,.str kind,v,.str rule]∧H x=some (.ins C dx [])∧x∉M∧(∀m∈M,H m≠none)∧
 t.At (Bq M H) v∧t.ok 5∧t.size≤23∧many≤5∧AG H rm room∧Wr room∧
 (¬t.ok many→∀H',But [x] H H'→E (.ref cS) none H')∧(t.ok many→¬(Cp rule∧BP kind)→∀H',But [x] H H'→E (.ref cB) none H')∧(t.ok many→Cp rule→BP kind→[]∈AK kind t room→∀H',But [x] H H'→E (.ref cN) none H')∧
 (t.ok many→Cp rule→BP kind→[]∉AK kind t room→∀(U:Tk) (H':Hp),But [x] H H'→H U.gv=none→H U.lf=none→H U.sp=none→U.sv=v→TalkAt (x::U.gv::U.lf::M) C H' x U (Ck many kind rule t room)→Q .non H')
theorem BI {H0 H:Hp} {x C dx:Addr} {fs fs':List (Str×V)} {f:Str} {v:V} (e:BD f v fs=fs') (b:But [x] H0 H) :
  But [x] H0 (upd H x (.ins C dx (BD f v fs)))∧upd H x (.ins C dx (BD f v fs)) x=some (.ins C dx fs')∧But [x] H (upd H x (.ins C dx (BD f v fs))):=
 ⟨b.trans (But.upd (by simp)),upd_same.trans (congrArg (fun l=>some (HO.ins C dx l)) e),But.upd (by simp)⟩
theorem Bo {x b:Addr} (h:b≠x):b∉[x]:=by simpa using h
abbrev Fy (H:Hp) (x:Addr):List V→List (List Int)→Prop:=Paired fun (v:V) (row:List Int)=>∃p,v= .ref p∧p≠x∧AG H p row
theorem Dz {H H':Hp} {x:Addr} {o:HO} (hx:H x=some o):∀{xs:List V} {rs:List (List Int)},RowsNew H H' xs rs→Fy H' x xs rs
 | _,_,.nil=>.nil
 | _,_,.cons ⟨p,e,n,h⟩ q=>.cons ⟨p,e,(Am hx n).symm,h⟩ (Dz hx q)
theorem FN {H H':Hp} {x:Addr} (b:But [x] H H'):∀{xs:List V} {rs:List (List Int)},Fy H x xs rs→Fy H' x xs rs
 | _,_,.nil=>.nil
 | _,_,.cons ⟨p,e,n,h⟩ q=>.cons ⟨p,e,n,b.at h (Bo n)⟩ (FN b q)
theorem EW {H H':Hp} {x:Addr} (b:Same H H'):∀{xs:List V} {rs:List (List Int)},Fy H x xs rs→Fy H' x xs rs
 | _,_,.nil=>.nil
 | _,_,.cons ⟨p,e,n,h⟩ q=>.cons ⟨p,e,n,b _ _ h⟩ (EW b q)
theorem Hh {H H':Hp} {x:Addr} (b:But [x] H H'):∀{xs:List V} {rs:List (List Int)},Fy H x xs rs→RowsAt H' xs rs
 | _,_,.nil=>.nil
 | _,_,.cons ⟨p,e,n,h⟩ q=>.cons ⟨p,e,b.at h (Bo n)⟩ (Hh b q)
theorem J7 {H0 H1 G:Hp} (k:∀p row,H0 p=none→AG H1 p row→AG G p row):∀{xs:List V} {rs:List (List Int)},RowsNew H0 H1 xs rs→RowsAt G xs rs
 | _,_,.nil=>.nil
 | _,_,.cons ⟨p,e,n,h⟩ q=>.cons ⟨p,e,k p _ n h⟩ (J7 k q)
section
variable {P:Program} {w:World} {K:PySem.W.Frag} {mg:Str→Option Value} {base:Heap} {f:Addr} {fd:FuncData} {cK cS cB cN cT:Addr}
theorem QA:As ["self","many","room","kind","sentence","rule"] ["self","many","room","kind","sentence","rule"] (Ae Fb):=⟨rfl,rfl,rfl,by decide +kernel,rfl,by decide +kernel,by decide +kernel⟩
set_option maxHeartbeats 4000000 in
theorem Nf {g1 g2 g3:Addr} {d1 d2 d3:FuncData} (F:Fun K "__init__" "Talk.__init__" Fb f fd) (TX:Jh K cK) (T:Fq mg) (XB:ID K mg "BadWord" cB cT)
  (GR:FnOk P w K mg base (Dt P w) 3 g1 d1 ["sentence","many"] (JN cS)) (CR:AN K mg "refuse_strange" g1 d1 ["sentence","many"])
  (GD:FnOk P w K mg base (Dt P w) 4 g2 d2 ["room","kind","sentence"] (Iq K cB cN)) (CD:AN K mg "sides_of" g2 d2 ["room","kind","sentence"])
  (GB:FnOk P w K mg base AE 2 g3 d3 ["sides"] (Jv K)) (CB:AN K mg "base_of" g3 d3 ["sides"]):FnOk P w K mg base (Dt P w) 5 f fd ["self","many","room","kind","sentence","rule"] (Jb cK cS cB cN):=by
 refine Fun.okX F QA (fun vs H Q E h=>?_) (fun cdv A outer s H vs Q E hr h=>?_)
 ·obtain⟨x,dx,rm,many,kind,rule,v,t,room,M,rfl,_⟩:=h
  rfl
 obtain⟨x,dx,rm,many,kind,rule,v,t,room,M,rfl,hx,nxM,hM,ha,hok,hsz,hm5,hrm,hwr,qS,qB,qN,q⟩:=h
 have hr3:Room 3 _:=hr.mono (by decide)
 have hr2:Room 2 _:=hr.mono (by decide)
 have nrx:rm≠x:=Dv hrm hx (by intro z;cases z)
 have haH:=ha.keep (TS.same cut_same)
 have kt:∀{H1:Hp},But [x] H H1→TS H H1:=fun b p xs e=>b.at e (Bo (Dv e hx (by intro z;cases z)))
 refine⟨_,Ac (AV (Ah GR hr3 (by rfl) CR.m CR.k CR.b .nil (BF (E1:=E) fun _ _ _ h=>h) (Aa (pv 4) (Aa (pv 1) Ab))))
  (Ac (AA (Ak BH (pv 5) (AU (Aa An (Aa An Ab))) (by with_unfolding_all rfl))
   (Ad (Db (Ex:=E) DC rfl XB.cls XB.at_ XB.ty (by rfl) XB.m (Aa An Ab) (hvl:=fun _ _ _ h=>⟨by decide,h⟩)))
   Al)
  (Ac (BX (pv 0) (pv 1) rfl)
  (Ac (BX (pv 0) (pv 3) rfl)
  (Ac (BX (pv 0) (pv 4) rfl)
  (Ac (BX (pv 0) (pv 5) rfl)
  (Ac (BX (pv 0) (AR AW (by rfl) T.lst A8 (Aa (pv 2) Ab)) rfl)
  (Ac (BX (pv 0) (Ah GD hr (by rfl) CD.m CD.k CD.b .nil (BF (E1:=E) fun _ _ _ h=>h) (Aa (pv 2) (Aa (pv 3) (Aa (pv 4) Ab)))) rfl)
  (Ac (BX (pv 0) (AJ Ab) rfl)
  (Ac (BX (pv 0) (AJ (Aa (Ah GB hr2 (by rfl) CB.m CB.k CB.b .nil Aq (Aa (A1 (pv 0) rfl) Ab)) Ab)) rfl)
  (Ad (BX (pv 0) Bw rfl))))))))))),?_⟩
 refine⟨_,rfl,_,rfl,v,t,many,rfl,haH,hok,by omega,fun hn H1 s1=>qS hn H1 (AL s1),fun hmany H1 s1=>?_⟩
 refine⟨_,rfl,DP,fun rt hrt=>?_⟩
 have s2:=s1.trans (Ag hrt (.tup [.str "elder",.str "newer"]))
 refine⟨rt,Ls,rfl,.inr (SqT.of upd_same),rfl,rfl,_,rfl,?_⟩
 show if (!LK (.str rule) Ls)=true then _ else _
 rw[NJ]
 generalize upd H1 rt _=H2 at *
 by_cases hrl:Cp rule
 rotate_left
 ·exact Ov hrl (qB hmany (fun z=>hrl z.1) _ (AL s2))
 refine FS hrl ?_
 have b2:But [x] H H2:=AL s2
 have x2:=s2 _ _ hx
 refine⟨_,rfl,_,rfl,x,cK,dx,_,rfl,x2,TX.cl,TX.many,(by decide),?_⟩
 obtain⟨b3,x3,_⟩:=BI (C:=cK) (dx:=dx) (f:="many") (v:=.int many) (fs:=[]) (fs':=[("many",.int many)]) (by with_unfolding_all rfl) b2
 generalize upd H2 x _=H3 at *
 refine⟨_,rfl,_,rfl,x,cK,dx,_,rfl,x3,TX.cl,TX.kind,(by show 1<1000;decide),?_⟩
 obtain⟨b4,x4,_⟩:=BI (C:=cK) (dx:=dx) (f:="kind") (v:=.str kind) (fs:=[("many",.int many)]) (fs':=[("many",.int many),("kind",.str kind)]) (by with_unfolding_all rfl) b3
 generalize upd H3 x _=H4 at *
 refine⟨_,rfl,_,rfl,x,cK,dx,_,rfl,x4,TX.cl,TX.sentence,(by show 2<1000;decide),?_⟩
 obtain⟨b5,x5,_⟩:=BI (C:=cK) (dx:=dx) (f:="sentence") (v:=v) (fs:=[("many",.int many),("kind",.str kind)]) (fs':=[("many",.int many),("kind",.str kind),("sentence",v)]) (by with_unfolding_all rfl) b4
 generalize upd H4 x _=H5 at *
 refine⟨_,rfl,_,rfl,x,cK,dx,_,rfl,x5,TX.cl,TX.rule,(by show 3<1000;decide),?_⟩
 obtain⟨b6,x6,_⟩:=BI (C:=cK) (dx:=dx) (f:="rule") (v:=.str rule) (fs:=[("many",.int many),("kind",.str kind),("sentence",v)]) (fs':=[("many",.int many),("kind",.str kind),("sentence",v),("rule",.str rule)]) (by with_unfolding_all rfl) b5
 generalize upd H5 x _=H6 at *
 have rm6:=b6.at hrm (Bo nrx)
 refine⟨_,rfl,rm,_,rfl,.inl (SqL.of rm6),fun sp hsp=>?_⟩
 have s7:=Ag hsp (.lst (room.map V.int))
 have b7:But [x] H (upd H6 sp (.lst (room.map V.int))):=b6.trans (AL s7)
 have x7:=s7 _ _ x6
 have sp7:AG (upd H6 sp (.lst (room.map V.int))) sp room:=upd_same
 have nsx:sp≠x:=(Am x6 hsp).symm
 have sp0:H sp=none:=by
  cases e:H sp with
  | none=>rfl
  | some o=>rw[b6.at e (Bo nsx)] at hsp;cases hsp
 generalize upd H6 sp _=H7 at *
 refine⟨_,rfl,x,cK,dx,_,rfl,x7,TX.cl,TX.space,(by show 4<1000;decide),?_⟩
 obtain⟨b8,x8,c8⟩:=BI (C:=cK) (dx:=dx) (f:="space") (v:=.ref sp) (fs:=[("many",.int many),("kind",.str kind),("sentence",v),("rule",.str rule)]) (fs':=[("many",.int many),("kind",.str kind),("sentence",v),("rule",.str rule),("space",.ref sp)]) (by with_unfolding_all rfl) b7
 generalize upd H7 x _=H8 at *
 have sp8:=c8.at sp7 (Bo nsx)
 have rm8:=b8.at hrm (Bo nrx)
 refine⟨_,rfl,_,rfl,_,rfl,rm,kind,v,t,room,rfl,haH.keep (kt b8),hok,by omega,SqL.of rm8,hwr,fun hk H9 s9=>qB hmany (fun z=>hk z.2) _ (b8.trans (AL s9)),fun hk hem H9 s9=>qN hmany hrl hk hem _ (b8.trans (AL s9)),fun hk hem pt pxs H9 s9 pt0 pt9 hR9 hne9=>?_⟩
 have b9:But [x] H H9:=b8.trans (AL s9)
 have x9:=s9 _ _ x8
 have npx:pt≠x:=(Am x8 pt0).symm
 refine⟨_,rfl,x,cK,dx,_,rfl,x9,TX.cl,TX.parts,(by show 5<1000;decide),?_⟩
 obtain⟨b10,x10,c10⟩:=BI (C:=cK) (dx:=dx) (f:="parts") (v:=.ref pt) (fs:=[("many",.int many),("kind",.str kind),("sentence",v),("rule",.str rule),("space",.ref sp)]) (fs':=[("many",.int many),("kind",.str kind),("sentence",v),("rule",.str rule),("space",.ref sp),("parts",.ref pt)]) (by with_unfolding_all rfl) b9
 have e10:Bq [x] (upd H9 x (.ins cK dx (BD "parts" (.ref pt) [("many",.int many),("kind",.str kind),("sentence",v),("rule",.str rule),("space",.ref sp)])))=Bq [x] H9:=EO (by simp)
 generalize upd H9 x _=H10 at *
 have pt10:=c10.at pt9 (Bo npx)
 have sp10:=c10.at (s9 _ _ sp8) (Bo nsx)
 have R10:RowsAt H10 pxs (AK kind t room):=Hh c10 (Dz x8 hR9)
 refine⟨Ka,fun gv hgv=>?_⟩
 have s11:=Ag hgv (.lst [])
 have b11:But [x] H (upd H10 gv (.lst [])):=b10.trans (AL s11)
 have gv11:upd H10 gv (.lst []) gv=some (.lst []):=upd_same
 have x11:=s11 _ _ x10
 have ngx:gv≠x:=(Am x10 hgv).symm
 generalize upd H10 gv _=H11 at *
 refine⟨_,rfl,x,cK,dx,_,rfl,x11,TX.cl,TX.given,(by show 6<1000;decide),?_⟩
 obtain⟨b12,x12,c12⟩:=BI (C:=cK) (dx:=dx) (f:="given") (v:=.ref gv) (fs:=[("many",.int many),("kind",.str kind),("sentence",v),("rule",.str rule),("space",.ref sp),("parts",.ref pt)]) (fs':=[("many",.int many),("kind",.str kind),("sentence",v),("rule",.str rule),("space",.ref sp),("parts",.ref pt),("given",.ref gv)]) (by with_unfolding_all rfl) b11
 generalize upd H11 x _=H12 at *
 have gv12:=c12.at gv11 (Bo ngx)
 have pt12:=c12.at (s11 _ _ pt10) (Bo npx)
 have sp12:=c12.at (s11 _ _ sp10) (Bo nsx)
 have R12:RowsAt H12 pxs (AK kind t room):=Hh c12 (EW s11 (FN c10 (Dz x8 hR9)))
 have hl2:El (AK kind t room)<64:=by
  have:=Ks (z:=kind) (t:=t) (row:=room)
  have:=hwr.len
  omega
 refine⟨_,rfl,x,cK,dx,_,_,rfl,x12,TX.cl,TX.parts,(by with_unfolding_all rfl),pt,pxs,_,rfl,SqL.of pt12,R12,hl2,fun bl H13 ns s13 hbl0 hp hm hbl=>⟨Nd,fun lf hlf=>?_⟩⟩
 have en:=N7 hwr (fun s hs=>FE hs) hp hm
 subst en
 have s14:=s13.trans (Ag hlf (.lst [.ref bl]))
 have bl14:=Ag hlf (.lst [.ref bl]) _ _ hbl
 have lf14:upd H13 lf (.lst [.ref bl]) lf=some (.lst [.ref bl]):=upd_same
 have lf12:H12 lf=none:=s13.free hlf
 generalize upd H13 lf _=H14 at *
 have x14:=s14 _ _ x12
 have b14:But [x] H H14:=b12.trans (AL s14)
 have nlx:lf≠x:=(Am x12 lf12).symm
 have nbx:bl≠x:=(Am x12 hbl0).symm
 refine⟨_,rfl,x,cK,dx,_,rfl,x14,TX.cl,TX.left,(by show 7<1000;decide),?_⟩
 obtain⟨b15,x15,c15⟩:=BI (C:=cK) (dx:=dx) (f:="left") (v:=.ref lf) (fs:=[("many",.int many),("kind",.str kind),("sentence",v),("rule",.str rule),("space",.ref sp),("parts",.ref pt),("given",.ref gv)]) (fs':=[("many",.int many),("kind",.str kind),("sentence",v),("rule",.str rule),("space",.ref sp),("parts",.ref pt),("given",.ref gv),("left",.ref lf)]) (by with_unfolding_all rfl) b14
 generalize upd H14 x _=H15 at *
 refine⟨_,rfl,x,cK,dx,_,rfl,x15,TX.cl,TX.ended,(by show 8<1000;decide),?_⟩
 obtain⟨b16,x16,c16⟩:=BI (C:=cK) (dx:=dx) (f:="ended") (v:=.bl false) (fs:=[("many",.int many),("kind",.str kind),("sentence",v),("rule",.str rule),("space",.ref sp),("parts",.ref pt),("given",.ref gv),("left",.ref lf)]) (fs':=[("many",.int many),("kind",.str kind),("sentence",v),("rule",.str rule),("space",.ref sp),("parts",.ref pt),("given",.ref gv),("left",.ref lf),("ended",.bl false)]) (by with_unfolding_all rfl) b15
 generalize upd H15 x _=H16 at *
 have c17:But [x] H14 H16:=c15.trans c16
 have gv16:=c17.at (s14 _ _ gv12) (Bo ngx)
 have lf16:=c17.at lf14 (Bo nlx)
 have bl16:=c17.at bl14 (Bo nbx)
 have pt16:=c17.at (s14 _ _ pt12) (Bo npx)
 have sp16:=c17.at (s14 _ _ sp12) (Bo nsx)
 have ngl:gv≠lf:=Am gv12 lf12
 have gv0:H gv=none:=by
  cases e:H gv with
  | none=>rfl
  | some o=>rw[b10.at e (Bo ngx)] at hgv;cases hgv
 have lf0:H lf=none:=by
  cases e:H lf with
  | none=>rfl
  | some o=>rw[b12.at e (Bo nlx)] at lf12;cases lf12
 have pt0':H pt=none:=by
  cases e:H pt with
  | none=>rfl
  | some o=>rw[b8.at e (Bo npx)] at pt0;cases pt0
 have bl0:H bl=none:=by
  cases e:H bl with
  | none=>rfl
  | some o=>rw[b12.at e (Bo nbx)] at hbl0;cases hbl0
 have nM:∀{b:Addr},H b=none→b∉M:=fun e z=>hM _ z e
 have n3:∀{b:Addr},b≠x→b≠gv→b≠lf→H b=none→b∉x::gv::lf::M:=fun e1 e2 e3 e4 z=>by
  rcases List.mem_cons.mp z with q1 | q1
  ·exact e1 q1
  ·rcases List.mem_cons.mp q1 with q2 | q2
   ·exact e2 q2
   ·rcases List.mem_cons.mp q2 with q3 | q3
    ·exact e3 q3
    ·exact nM e4 q3
 have nsg:sp≠gv:=Am sp10 hgv
 have nsl:sp≠lf:=Am sp12 lf12
 have npg:pt≠gv:=Am pt10 hgv
 have npl:pt≠lf:=Am pt12 lf12
 have nbg:bl≠gv:=(Am gv12 hbl0).symm
 have nbl:bl≠lf:=Am hbl hlf
 have hR16:RowsAt (Bq (x::gv::lf::M) H16) pxs (AK kind t room):=J7 (fun p row h1 h2=>by
  have pne:p≠x:=(Am x8 h1).symm
  have p10:=c10.at h2 (Bo pne)
  have p0:H p=none:=by
   cases e:H p with
   | none=>rfl
   | some o=>rw[b8.at e (Bo pne)] at h1;cases h1
  have p12:=c12.at (s11 _ _ p10) (Bo pne)
  exact Bi (c17.at (s14 _ _ p12) (Bo pne)) (n3 pne (Am p10 hgv) (Am p12 lf12) p0)) hR9
 refine q hmany hrl hk hem ⟨dx,sp,pt,gv,lf,v,pxs,[],[.ref bl]⟩ H16 b16 gv0 lf0 sp0 rfl ⟨x16,gv16,lf16,by simp,by simp,by simp,ngl,Bi sp16 (n3 nsx nsg nsl sp0),?_,Bi pt16 (n3 npx npg npl pt0'),hR16,.nil,.cons ⟨bl,rfl,Bi bl16 (n3 nbx nbg nbl bl0)⟩ .nil,hwr,fun l hl=>?_,List.cons_ne_nil _ _,by show 1≤900;decide,by show 0≤900;decide,hmany,hm5,hsz,hk,hem,hrl⟩
 ·refine ha.keep fun p xs e=>?_
  obtain⟨e1,e2⟩:=BS e
  have pne:p≠x:=Dv e1 hx (by intro z;cases z)
  refine Bi (b16.at e1 (Bo pne)) fun z=>?_
  rcases List.mem_cons.mp z with q1 | q1
  ·exact pne q1
  ·rcases List.mem_cons.mp q1 with q2 | q2
   ·rw[q2,gv0] at e1;cases e1
   ·rcases List.mem_cons.mp q2 with q3 | q3
    ·rw[q3,lf0] at e1;cases e1
    ·exact e2 q3
 ·rw[List.mem_singleton.mp hl]
  exact base_sub
end
theorem Qf {z:Str} {t:Tr} {row:List Int} (h:FC z t row):BP z:=by
 rcases h with⟨rfl,_⟩|⟨rfl,_⟩|⟨rfl,_⟩
 ·exact .inl rfl
 ·exact .inr (.inl rfl)
 ·exact .inr (.inr rfl)
theorem PL {z:Str} {t:Tr} {row:List Int} (h:FC z t row):[]∉AK z t row:=fun e=>OG h e rfl
theorem HL {H H':Hp} {x dx C:Addr} (hx:H x=none) (hd:H dx=none) (ne:dx≠x) (b:But [x] (upd (upd H dx (.own x)) x (.ins C dx [])) H'):Same H H':=by
 refine But.same (M:=[x]) (fun m hm=>by rw[List.mem_singleton.mp hm];exact hx) ?_ b
 have s1:=Ag hd (.own x)
 exact s1.trans (Ag (by rw[Ax ne.symm];exact hx) _)
theorem D6 {H:Hp} {x dx C b:Addr} {o:HO} (h:upd (upd H dx (.own x)) x o b=none):H b=none∧b≠x∧b≠dx:=by
 by_cases e:b=x
 ·rw[e,upd_same] at h;cases h
 ·rw[Ax e] at h
  by_cases e2:b=dx
  ·rw[e2,upd_same] at h;cases h
  ·rw[Ax e2] at h
   exact⟨h,e,e2⟩
theorem DN {P:Program} {w:World} {X:Cx}:Dp (Dt P w) X E0:=fun _ _ _ _ _ _ _ h=>by
 obtain⟨_,_,_,_,_,_,_,_,_,_,_,_,_,_,_,q⟩:=h
 exact q.elim
section
variable {X:Cx}
end
def BA (W:Ta) (seen:List Int) (t:Tr):Str:=if W.ended=true then Bj seen (AC true t W.room) else By W.sides W.going seen (AC true t W.room)
theorem TalkAt.two {M:List Addr} {C:Addr} {H:Hp} {a:Addr} {U:Tk} {W:Ta} (h:TalkAt M C H a U W):W.sides.length≤2:=by
 unfold Ta.sides
 rcases Ec (z:=W.kind) (t:=W.t) (row:=W.room) with⟨x,e⟩|⟨x,y,e⟩<;>rw[e]<;>simp
theorem EY {b:Bool} {t:Tr} {room:List Int} (h:Wr room):Wr (AC b t room):=h.sub List.filter_sublist
abbrev Ih:Stmt:=BL (Bu 40) 9
def IU (K:PySem.W.Frag) (C cS:Addr):Sp:=fun vs H Q E=>∃(a sn:Addr) (v:V) (M:List Addr) (U:Tk) (W:Ta) (t:Tr) (seen:List Int),vs=[.ref a,v,.ref sn]∧TalkN M C H a U W∧t.AtK K H v∧t.ok 5∧t.size≤800∧SqL K H sn (seen.map V.int)∧Wr seen∧seen≠[]∧
 (¬t.ok W.many→∀H',Same H H'→E (.ref cS) none H')∧(t.ok W.many→∀H',Same H H'→Q (.str (BA W seen t)) H')
def Hg (K:PySem.W.Frag) (C cS:Addr):Sp:=fun vs H Q E=>∃(a sn:Addr) (v:V) (M:List Addr) (U:Tk) (W:Ta) (t:Tr) (seen:List Int),vs=[.ref a,v,.ref sn]∧TalkAt M C H a U W∧t.At H v∧t.ok 5∧t.size≤60∧SqL K H sn (seen.map V.int)∧Wr seen∧seen≠[]∧
 (¬t.ok W.many→∀H',Same H H'→E (.ref cS) none H')∧(t.ok W.many→∀H',Same H H'→Q (.str (BA W seen t)) H')
section
variable {P:Program} {w:World} {K:PySem.W.Frag} {mg:Str→Option Value} {base:Heap} {f:Addr} {fd:FuncData} {cK cS cO cT:Addr}
theorem scTAsk:As ["self","sentence","seen","worlds"] ["self","sentence","seen"] (Ae Ih):=⟨rfl,rfl,rfl,by decide +kernel,rfl,by decide +kernel,by decide +kernel⟩
set_option maxHeartbeats 4000000 in
theorem Qw {g1 g2 g3 g4 m1:Addr} {d1 d2 d3 d4 e1:FuncData} (F:Fun K "ask" "Talk.ask" Ih f fd) (TX:Jh K cK)
  (GR:FnOk P w K mg base (Dt P w) 3 g1 d1 ["sentence","many"] (Fs K cS)) (CR:AN K mg "refuse_strange" g1 d1 ["sentence","many"])
  (GW:FnOk P w K mg base AE 3 g2 d2 ["sentence","room"] (Ci K)) (CW:AN K mg "worlds_of" g2 d2 ["sentence","room"])
  (GP:FnOk P w K mg base AE 3 g3 d3 ["seen","worlds"] (EU K)) (CP:AN K mg "plain" g3 d3 ["seen","worlds"])
  (GA:FnOk P w K mg base AE 5 g4 d4 ["sides","going","seen","worlds"] (HW K)) (CA:AN K mg "answer" g4 d4 ["sides","going","seen","worlds"])
  (G1:FnOk P w K mg base AE 2 m1 e1 ["self"] (Ik cK)) (C1:BN K cK "going" m1 e1 ["self"]):FnOk P w K mg base (Dt P w) 6 f fd ["self","sentence","seen"] (IU K cK cS):=by
 refine Fun.okX F scTAsk (fun vs H Q E h=>?_) (fun cdv A outer s H vs Q E hr h=>?_)
 ·obtain⟨a,sn,v,M,U,W,t,seen,rfl,_⟩:=h
  rfl
 obtain⟨a,sn,v,M,U,W,t,seen,rfl,hT,ha,ok5,hsz,hN,wN,nne,qE,q⟩:=h
 have hr3:Room 3 _:=hr.mono (by decide)
 have hr2:Room 2 _:=hr.mono (by decide)
 refine⟨_,Ac (AV (Ah GR hr3 (by rfl) CR.m CR.k CR.b .nil (BF (E1:=E) fun _ _ _ h=>h) (Aa (pv 1) (Aa (A1 (pv 0) rfl) Ab))))
  (Ac (Au (i:=3) scTAsk.nd rfl (Or.inl rfl) (Ah GW hr3 (by rfl) CW.m CW.k CW.b .nil Aq (Aa (pv 1) (Aa (A1 (pv 0) rfl) Ab))))
  (Ac (AA (Ev (A1 (pv 0) rfl) (fun _=>rfl))
   (Ad (Ai (Ah GP hr3 (by rfl) CP.m CP.k CP.b .nil Aq (Aa (pv 2) (Aa (pv 3) Ab)))))
   Al)
  (Ad (Ai (Ah GA hr (by rfl) CA.m CA.k CA.b .nil Aq (Aa (A1 (pv 0) rfl) (Aa (Bf (pv 0) TX.cl C1.m G1 hr2 C1.b .nil Aq) (Aa (pv 2) (Aa (pv 3) Ab))))))))),?_⟩
 refine⟨_,rfl,_,rfl,a,cK,_,_,_,rfl,hT.ob,TX.cl,TX.many,Iu,v,t,W.many,rfl,ha,ok5,hsz,qE,fun hmany H1 s1=>?_⟩
 have q:=q hmany
 have T1:=hT.keep s1
 refine⟨_,rfl,_,rfl,a,cK,_,_,_,rfl,T1.ob,TX.cl,TX.space,DH,v,t,U.sp,W.room,rfl,ha.keep (TS.same s1),ok5,by omega,SqL.of (cut_same _ _ T1.room),hT.1.wr,fun wl H2 s2 hwl0 hwl=>?_⟩
 have T2:=T1.keep s2
 have t2:=s1.trans s2
 have hwl:AG H2 wl (AC true t W.room):=hwl
 have wwl:Wr (AC true t W.room):=EY hT.1.wr
 refine⟨_,rfl,a,cK,_,_,_,rfl,T2.ob,TX.cl,TX.ended,Gs,_,rfl,?_⟩
 unfold BA at q
 cases he:W.ended with
 | true=>
  refine Bt ?_
  rw[he,if_pos rfl] at q
  exact⟨_,rfl,_,rfl,sn,wl,seen,_,rfl,t2.seq hN,wN,nne,SqL.of hwl,wwl,fun H3 s3=>q _ (t2.trans s3)⟩
 | false=>
  refine AX ?_
  rw[he,if_neg Bool.false_ne_true] at q
  refine⟨_,rfl,a,cK,_,_,_,rfl,T2.ob,TX.cl,TX.parts,Jt,_,rfl,a,_,_,rfl,T2.ob,Oi,a,M,U,W,rfl,T2,fun gl H3 s3 hgl0 hgl=>?_⟩
  have T3:=T2.keep s3
  have t3:=t2.trans s3
  exact⟨_,rfl,_,rfl,U.pt,gl,sn,wl,U.pxs,W.sides,W.going,seen,_,rfl,cut_same _ _ T3.pt,T3.sd.keep cut_same,T3.1.ws,T3.1.two,SqL.of hgl,T3.1.going_wr,t3.seq hN,wN,nne,SqL.of (s3 _ _ hwl),wwl,fun H4 s4=>q _ (t3.trans s4)⟩
theorem I8 (G:FnOk P w K mg base (Dt P w) 6 f fd ["self","sentence","seen"] (IU K cK cS)):FnOk P w K mg base (Dt P w) 6 f fd ["self","sentence","seen"] (Hg K cK cS):=G.imp fun vs H Q E h=>by
 obtain⟨a,sn,v,M,U,W,t,seen,e,hT,ha,ok,hs,h⟩:=h
 exact⟨a,sn,v,M,U,W,t,seen,e,hT.toN,ha.toK,ok,Nat.le_trans hs (by decide),h⟩
end
abbrev C0:Stmt:=Bu 41
def Em (C cO:Addr):Sp:=fun vs H Q E=>∃(a:Addr) (M:List Addr) (U:Tk) (W:Ta),vs=[.ref a]∧TalkN M C H a U W∧(W.ended=true→E (.ref cO) none H)∧(W.ended=false→Q .non H)
def FI (C cO:Addr):Sp:=fun vs H Q E=>∃(a:Addr) (M:List Addr) (U:Tk) (W:Ta),vs=[.ref a]∧TalkAt M C H a U W∧(W.ended=true→E (.ref cO) none H)∧(W.ended=false→Q .non H)
section
variable {P:Program} {w:World} {K:PySem.W.Frag} {mg:Str→Option Value} {base:Heap} {f:Addr} {fd:FuncData} {cK cS cO cT:Addr}
theorem L9:As ["talk"] ["talk"] (Ae C0):=⟨rfl,rfl,rfl,by decide +kernel,rfl,by decide +kernel,by decide +kernel⟩
theorem Kp {m1:Addr} {e1:FuncData} (F:Fun K "refuse_over" "refuse_over" C0 f fd) (TX:Jh K cK) (XO:ID K mg "TalkOver" cO cT) (G1:FnOk P w K mg base AE 1 m1 e1 ["self"] (J3 cK)) (C1:BN K cK "over" m1 e1 ["self"]):FnOk P w K mg base (Dt P w) 2 f fd ["talk"] (Em cK cO):=by
 refine Fun.okX F L9 (fun vs H Q E h=>?_) (fun cdv A outer s H vs Q E hr h=>?_)
 ·obtain⟨a,M,U,W,rfl,_⟩:=h
  rfl
 obtain⟨a,M,U,W,rfl,hT,qE,q⟩:=h
 refine⟨_,Ad (AA (A3 (Bf (pv 0) TX.cl C1.m G1 hr C1.b .nil Aq))
   (Ad (Db (Ex:=E) DC rfl XO.cls XO.at_ XO.ty (by rfl) XO.m (Aa An Ab) (hvl:=fun _ _ _ h=>⟨by decide,h⟩)))
   Al),?_⟩
 refine⟨_,rfl,a,_,_,rfl,hT.ob,PZ,a,M,U,W,rfl,hT,_,rfl,?_⟩
 cases he:W.ended with
 | true=>exact Bt (qE he)
 | false=>exact AX (q he)
theorem Lc (G:FnOk P w K mg base (Dt P w) 2 f fd ["talk"] (Em cK cO)):FnOk P w K mg base (Dt P w) 2 f fd ["talk"] (FI cK cO):=G.imp fun vs H Q E h=>by
 obtain⟨a,M,U,W,e,hT,h⟩:=h
 exact⟨a,M,U,W,e,hT.toN,h⟩
end
def OR (W:Ta) (v:V) (t:Tr) (word:Str):Ta:={ W with ents:=W.ents++[(v,t,word)],lefts:=W.lefts++[Bv word W.held (AC true t W.room)] }
theorem EntsAt.snoc {H:Hp} {v:V} {e:V×Tr×Str} (h:∃p,v= .ref p∧H p=some (.tup [e.1,.str e.2.2])∧e.2.1.At H e.1):∀{xs:List V} {es:List (V×Tr×Str)},EntsAt H xs es→EntsAt H (xs++[v]) (es++[e])
 | _,_,.nil=>.cons h .nil
 | _,_,.cons x q=>.cons x (EntsAt.snoc h q)
theorem EntsAt.len {H:Hp} {xs:List V} {es:List (V×Tr×Str)} (h:EntsAt H xs es):xs.length=es.length:=Paired.length h
theorem FQ {H:Hp} {v:V} {row:List Int} (h:∃p,v= .ref p∧AG H p row):∀{xs:List V} {rs:List (List Int)},RowsAt H xs rs→RowsAt H (xs++[v]) (rs++[row])
 | _,_,.nil=>.cons h .nil
 | _,_,.cons x q=>.cons x (FQ h q)
theorem Js (z:Str) (g r:List Int):(Bv z g r).Sublist g:=by
 unfold Bv Ir Ei
 split
 ·exact List.filter_sublist
 ·split
  ·exact List.filter_sublist
  ·exact List.Sublist.refl _
section
variable {M:List Addr} {C:Addr} {H H':Hp} {a:Addr} {U:Tk} {W:Ta}
theorem TalkAt.a_gv (h:TalkAt M C H a U W):a≠U.gv:=Dv h.ob h.gv (by intro z;cases z)
theorem TalkAt.a_lf (h:TalkAt M C H a U W):a≠U.lf:=Dv h.ob h.lf (by intro z;cases z)
theorem TalkAt.gave (h:TalkAt M C H a U W) {p:Addr} {v:V} {t:Tr} {word:Str} (hp:Bq M H p=some (.tup [v,.str word])) (ha:t.At (Bq M H) v) (hl:W.ents.length<900) :
  TalkAt M C (upd H U.gv (.lst (U.ges++[.ref p]))) a { U with ges:=U.ges++[.ref p] } { W with ents:=W.ents++[(v,t,word)] }:=by
 have e:=EO (H:=H) (o:=.lst (U.ges++[.ref p])) h.mg
 refine⟨by rw[Ax h.a_gv];exact h.ob,upd_same,by rw[Ax h.ne.symm];exact h.lf,h.ma,h.mg,h.ml,h.ne,?_,?_,?_,?_,?_,?_,h.wr,h.wl,h.ln,h.l9,?_,h.tok,h.m5,h.tsz,h.kd,h.ns,h.rl⟩
 ·show AG (Bq M (upd H U.gv _)) _ _;rw[e];exact h.room
 ·show Tr.At (Bq M (upd H U.gv _)) _ _;rw[e];exact h.tr
 ·show Bq M (upd H U.gv _) _=_;rw[e];exact h.pt
 ·show RowsAt (Bq M (upd H U.gv _)) _ _;rw[e];exact h.sd
 ·show EntsAt (Bq M (upd H U.gv _)) _ _;rw[e];exact h.en.snoc ⟨p,rfl,hp,ha⟩
 ·show RowsAt (Bq M (upd H U.gv _)) _ _;rw[e];exact h.lr
 ·show (W.ents++[(v,t,word)]).length≤900;rw[List.length_append];exact hl
theorem TalkAt.gone (h:TalkAt M C H a U W) {l:Addr} {row:List Int} (hp:AG (Bq M H) l row) (hs:row.Sublist W.room) (hl:W.lefts.length<900) :
  TalkAt M C (upd H U.lf (.lst (U.lfs++[.ref l]))) a { U with lfs:=U.lfs++[.ref l] } { W with lefts:=W.lefts++[row] }:=by
 have e:=EO (H:=H) (o:=.lst (U.lfs++[.ref l])) h.ml
 refine⟨by rw[Ax h.a_lf];exact h.ob,by rw[Ax h.ne];exact h.gv,upd_same,h.ma,h.mg,h.ml,h.ne,?_,?_,?_,?_,?_,?_,h.wr,?_,?_,?_,h.e9,h.tok,h.m5,h.tsz,h.kd,h.ns,h.rl⟩
 ·show AG (Bq M (upd H U.lf _)) _ _;rw[e];exact h.room
 ·show Tr.At (Bq M (upd H U.lf _)) _ _;rw[e];exact h.tr
 ·show Bq M (upd H U.lf _) _=_;rw[e];exact h.pt
 ·show RowsAt (Bq M (upd H U.lf _)) _ _;rw[e];exact h.sd
 ·show EntsAt (Bq M (upd H U.lf _)) _ _;rw[e];exact h.en
 ·show RowsAt (Bq M (upd H U.lf _)) _ _;rw[e];exact FQ ⟨l,rfl,hp⟩ h.lr
 ·intro x hx
  rcases List.mem_append.mp hx with z | z
  ·exact h.wl x z
  ·rw[List.mem_singleton.mp z];exact hs
 ·show W.lefts++[row]≠[];simp
 ·show (W.lefts++[row]).length≤900;rw[List.length_append];exact hl
end
abbrev Gw:Stmt:=BL (Bu 40) 10
def O6 (K:PySem.W.Frag) (C cS cO:Addr):Sp:=fun vs H Q E=>∃(a sn:Addr) (v:V) (M:List Addr) (U:Tk) (W:Ta) (t:Tr) (seen:List Int),vs=[.ref a,v,.ref sn]∧TalkAt M C H a U W∧(∀m∈M,H m≠none)∧t.At (Bq M H) v∧t.ok 5∧t.size≤60∧SqL K H sn (seen.map V.int)∧Wr seen∧seen≠[]∧W.ents.length<900∧W.lefts.length<900∧
 (W.ended=true→∀H',Same H H'→E (.ref cO) none H')∧(W.ended=false→¬t.ok W.many→∀H',Same H H'→E (.ref cS) none H')∧
 (W.ended=false→t.ok W.many→∀(U':Tk) (H':Hp),But [U.gv,U.lf] H H'→U'.gv=U.gv→U'.lf=U.lf→(∀b,H b≠none→H' b≠none)→TalkAt M C H' a U' (OR W v t (BA W seen t))→Q (.str (BA W seen t)) H')
section
variable {P:Program} {w:World} {K:PySem.W.Frag} {mg:Str→Option Value} {base:Heap} {f:Addr} {fd:FuncData} {cK cS cO cT:Addr}
theorem scTSay:As ["self","sentence","seen","word"] ["self","sentence","seen"] (Ae Gw):=⟨rfl,rfl,rfl,by decide +kernel,rfl,by decide +kernel,by decide +kernel⟩
set_option maxHeartbeats 8000000 in
theorem Qo {g1 g2 g3 m1:Addr} {d1 d2 d3 e1:FuncData} (F:Fun K "say" "Talk.say" Gw f fd) (TX:Jh K cK)
  (GO:FnOk P w K mg base (Dt P w) 2 g1 d1 ["talk"] (FI cK cO)) (CO:AN K mg "refuse_over" g1 d1 ["talk"])
  (G1:FnOk P w K mg base (Dt P w) 6 m1 e1 ["self","sentence","seen"] (Hg K cK cS)) (C1:BN K cK "ask" m1 e1 ["self","sentence","seen"])
  (GL:FnOk P w K mg base AE 2 g2 d2 ["word","row","worlds"] (I0 K)) (CL:AN K mg "left_by" g2 d2 ["word","row","worlds"])
  (GW:FnOk P w K mg base AE 3 g3 d3 ["sentence","room"] (Cl K)) (CW:AN K mg "worlds_of" g3 d3 ["sentence","room"]):FnOk P w K mg base (Dt P w) 7 f fd ["self","sentence","seen"] (O6 K cK cS cO):=by
 refine Fun.okX F scTSay (fun vs H Q E h=>?_) (fun cdv A outer s H vs Q E hr h=>?_)
 ·obtain⟨a,sn,v,M,U,W,t,seen,rfl,_⟩:=h
  rfl
 obtain⟨a,sn,v,M,U,W,t,seen,rfl,hT,hM,ha,ok5,hsz,hN,wN,nne,le,ll,qO,qS,q⟩:=h
 have hr3:Room 3 _:=hr.mono (by decide)
 have hr2:Room 2 _:=hr.mono (by decide)
 refine⟨_,Ac (AV (Ah GO hr2 (by rfl) CO.m CO.k CO.b .nil (BF (E1:=E) fun _ _ _ h=>h) (Aa (pv 0) Ab)))
  (Ac (Au (i:=3) scTSay.nd rfl (Or.inl rfl) (Dh (pv 0) TX.cl C1.m G1 hr C1.b .nil (BF (E1:=E) fun _ _ _ h=>h) (Aa (pv 1) (Aa (pv 2) Ab))))
  (Ac (AV (BM PySem.F.plainAttrs_list PySem.F.slot_list_append PySem.F.type_list_append AZ (A1 (pv 0) rfl) (Aa (AU (Aa (pv 1) (Aa (pv 3) Ab))) Ab)))
  (Ac (AV (BM PySem.F.plainAttrs_list PySem.F.slot_list_append PySem.F.type_list_append AZ (A1 (pv 0) rfl) (Aa (Ah GL hr2 (by rfl) CL.m CL.k CL.b .nil Aq (Aa (pv 3) (Aa (AB AM (A1 (pv 0) rfl) (JF G0 Af) (fun _ _=>rfl)) (Aa (Ah GW hr3 (by rfl) CW.m CW.k CW.b .nil Aq (Aa (pv 1) (Aa (A1 (pv 0) rfl) Ab))) Ab)))) Ab)))
  (Ad (Ai (pv 3)))))),?_⟩
 refine⟨_,rfl,a,M,U,W,rfl,hT,fun he=>qO he _ (Same.refl _),fun he=>?_⟩
 have haH:=ha.keep (TS.same cut_same)
 refine⟨_,rfl,a,_,_,rfl,hT.ob,Hm,_,rfl,_,rfl,a,sn,v,M,U,W,t,seen,rfl,hT,haH,ok5,hsz,hN,wN,nne,fun hn H' s'=>qS he hn H' s',fun hmany H2 s2=>?_⟩
 have q:=q he hmany
 generalize BA W seen t=word at *
 have T2:=hT.keep s2
 refine⟨_,rfl,a,cK,_,_,_,rfl,T2.ob,TX.cl,TX.given,EE,.inl ⟨rfl,_,SqL.of T2.gv⟩,_,rfl,_,rfl,DP,fun p hp=>?_⟩
 have s3:=Ag hp (.tup [v,.str word])
 have p3:upd H2 p (.tup [v,.str word]) p=some (.tup [v,.str word]):=upd_same
 have T3:=T2.keep s3
 have p0:H p=none:=s2.free hp
 have pM:p∉M:=fun z=>hM p z p0
 have t3:=s2.trans s3
 generalize upd H2 p _=H3 at *
 have hgl:U.ges.length=W.ents.length:=T3.en.len
 refine⟨U.gv,U.ges,.ref p,rfl,rfl,T3.gv,AF (by omega),?_⟩
 have T4:=T3.gave (Bi p3 pM) (ha.keep (TS.same (AL t3))) le
 have b4:But [U.gv,U.lf] H (upd H3 U.gv (.lst (U.ges++[.ref p]))):=Same.trans (AL t3) (But.upd (by simp))
 have k4:∀b,H3 b≠none→upd H3 U.gv (.lst (U.ges++[.ref p])) b≠none:=fun b hb=>by
  by_cases c:b=U.gv
  ·rw[c,upd_same];exact fun z=>by cases z
  ·rw[Ax c];exact hb
 have ts4:TS H3 (upd H3 U.gv (.lst (U.ges++[.ref p]))):=TS.lst T3.gv
 generalize upd H3 U.gv _=H4 at *
 have lf4:H4 U.lf=some (.lst U.lfs):=T4.lf
 obtain⟨hl,hl1,hl2⟩:=Hf T4.lr T4.ln
 refine⟨_,rfl,a,cK,_,_,_,rfl,T4.ob,TX.cl,TX.left,Dn,.inl ⟨rfl,_,SqL.of lf4⟩,?_⟩
 refine⟨_,rfl,_,rfl,a,cK,_,_,_,rfl,T4.ob,TX.cl,TX.left,Dn,_,rfl,_,_,_,_,rfl,rfl,SqL.of lf4,hl1,?_⟩
 refine⟨_,rfl,_,rfl,a,cK,_,_,_,rfl,T4.ob,TX.cl,TX.space,DH,v,t,U.sp,W.room,rfl,(haH.keep (TS.same t3)).keep ts4,ok5,by omega,SqL.of (cut_same _ _ T4.room),hT.wr,fun wl H5 s5 hwl0 hwl=>?_⟩
 have T5:=T4.keep s5
 have hwl:AG H5 wl (AC true t W.room):=hwl
 have wwl:Wr (AC true t W.room):=EY hT.wr
 have lwl:=wwl.len
 refine⟨word,hl,wl,W.held,_,rfl,SqL.of (s5 _ _ (cut_same _ _ hl2)),hT.held_wr,SqL.of hwl,by omega,fun l H6 s6 hl0 hl6=>?_⟩
 have T6:=T5.keep s6
 have hll:U.lfs.length=W.lefts.length:=T6.lr.len
 refine⟨U.lf,U.lfs,.ref l,rfl,rfl,T6.lf,AF (by omega),?_⟩
 have l4:H4 l=none:=s5.free hl0
 have lM:l∉M:=fun z=>by
  have h3:H3 l≠none:=fun z3=>hM l z (t3.free z3)
  exact k4 l h3 l4
 have T7:=T6.gone (Bi hl6 lM) ((Js _ _ _).trans (hT.wl _ hT.held_in)) ll
 have b7:But [U.gv,U.lf] H (upd H6 U.lf (.lst (U.lfs++[.ref l]))):=Same.trans b4 (Same.trans (AL (s5.trans s6)) (But.upd (by simp)))
 have k7:∀b,H b≠none→upd H6 U.lf (.lst (U.lfs++[.ref l])) b≠none:=fun b hb=>by
  by_cases c:b=U.lf
  ·rw[c,upd_same];exact fun z=>by cases z
  ·rw[Ax c]
   have h3:H3 b≠none:=fun z3=>hb (t3.free z3)
   exact fun z6=>k4 b h3 ((s5.trans s6).free z6)
 refine⟨_,rfl,?_⟩
 exact q { U with ges:=U.ges++[.ref p],lfs:=U.lfs++[.ref l] } _ b7 rfl rfl k7 T7
end
def Pf (W:Ta) (t:Tr) (word:Str):Ta:={ W with lefts:=W.lefts++[Bv word W.held (AC true t W.room)] }
def K8 (K:PySem.W.Frag) (C cS cO:Addr):Sp:=fun vs H Q E=>∃(a sn:Addr) (v:V) (M:List Addr) (U:Tk) (W:Ta) (t:Tr) (seen:List Int),vs=[.ref a,v,.ref sn]∧TalkN M C H a U W∧(∀m∈M,H m≠none)∧t.AtK K H v∧t.ok 5∧t.size≤800∧SqL K H sn (seen.map V.int)∧Wr seen∧seen≠[]∧(∀gs,H U.gv=some (.lst gs)→gs.length<900)∧W.lefts.length<900∧W.ended=false∧t.ok W.many∧
 (∀(U':Tk) (H':Hp),But [U.gv,U.lf] H H'→U'.gv=U.gv→U'.lf=U.lf→(∀b,H b≠none→H' b≠none)→(∀gs,H U.gv=some (.lst gs)→∃x,H' U.gv=some (.lst (gs++[x])))→TalkN M C H' a U' (Pf W t (BA W seen t))→Q (.str (BA W seen t)) H')
section
variable {P:Program} {w:World} {K:PySem.W.Frag} {mg:Str→Option Value} {base:Heap} {f:Addr} {fd:FuncData} {cK cS cO cT:Addr}
theorem OQ {H:Hp} {a b:Addr} {x y:HO} (h:a≠b):upd (upd H a x) b y=upd (upd H b y) a x:=by
 funext c
 by_cases c1:c=b
 ·rw[c1,upd_same,Ax h.symm,upd_same]
 ·rw[Ax c1]
  by_cases c2:c=a
  ·rw[c2,upd_same,upd_same]
  ·rw[Ax c2,Ax c2,Ax c1]
theorem MO {H:Hp} {a:Addr} {x y:HO}:upd (upd H a x) a y=upd H a y:=by
 funext c
 by_cases c1:c=a
 ·rw[c1,upd_same,upd_same]
 ·rw[Ax c1,Ax c1,Ax c1]
set_option maxHeartbeats 8000000 in
theorem Pj {g1 g2 g3 m1:Addr} {d1 d2 d3 e1:FuncData} (F:Fun K "say" "Talk.say" Gw f fd) (TX:Jh K cK)
  (GO:FnOk P w K mg base (Dt P w) 2 g1 d1 ["talk"] (Em cK cO)) (CO:AN K mg "refuse_over" g1 d1 ["talk"])
  (G1:FnOk P w K mg base (Dt P w) 6 m1 e1 ["self","sentence","seen"] (IU K cK cS)) (C1:BN K cK "ask" m1 e1 ["self","sentence","seen"])
  (GL:FnOk P w K mg base AE 2 g2 d2 ["word","row","worlds"] (I0 K)) (CL:AN K mg "left_by" g2 d2 ["word","row","worlds"])
  (GW:FnOk P w K mg base AE 3 g3 d3 ["sentence","room"] (Ci K)) (CW:AN K mg "worlds_of" g3 d3 ["sentence","room"]):FnOk P w K mg base (Dt P w) 7 f fd ["self","sentence","seen"] (K8 K cK cS cO):=by
 refine Fun.okX F scTSay (fun vs H Q E h=>?_) (fun cdv A outer s H vs Q E hr h=>?_)
 ·obtain⟨a,sn,v,M,U,W,t,seen,rfl,_⟩:=h
  rfl
 obtain⟨a,sn,v,M,U,W,t,seen,rfl,hT,hM,haH,ok5,hsz,hN,wN,nne,le,ll,he,hmany,q⟩:=h
 have hr3:Room 3 _:=hr.mono (by decide)
 have hr2:Room 2 _:=hr.mono (by decide)
 refine⟨_,Ac (AV (Ah GO hr2 (by rfl) CO.m CO.k CO.b .nil (BF (E1:=E) fun _ _ _ h=>h) (Aa (pv 0) Ab)))
  (Ac (Au (i:=3) scTSay.nd rfl (Or.inl rfl) (Dh (pv 0) TX.cl C1.m G1 hr C1.b .nil (BF (E1:=E) fun _ _ _ h=>h) (Aa (pv 1) (Aa (pv 2) Ab))))
  (Ac (AV (BM PySem.F.plainAttrs_list PySem.F.slot_list_append PySem.F.type_list_append AZ (A1 (pv 0) rfl) (Aa (AU (Aa (pv 1) (Aa (pv 3) Ab))) Ab)))
  (Ac (AV (BM PySem.F.plainAttrs_list PySem.F.slot_list_append PySem.F.type_list_append AZ (A1 (pv 0) rfl) (Aa (Ah GL hr2 (by rfl) CL.m CL.k CL.b .nil Aq (Aa (pv 3) (Aa (AB AM (A1 (pv 0) rfl) (JF G0 Af) (fun _ _=>rfl)) (Aa (Ah GW hr3 (by rfl) CW.m CW.k CW.b .nil Aq (Aa (pv 1) (Aa (A1 (pv 0) rfl) Ab))) Ab)))) Ab)))
  (Ad (Ai (pv 3)))))),?_⟩
 refine⟨_,rfl,a,M,U,W,rfl,hT,fun h1=>absurd (he.symm.trans h1) (by decide),fun _=>?_⟩
 refine⟨_,rfl,a,_,_,rfl,hT.ob,Hm,_,rfl,_,rfl,a,sn,v,M,U,W,t,seen,rfl,hT,haH,ok5,hsz,hN,wN,nne,fun hn=>absurd hmany hn,fun _ H2 s2=>?_⟩
 generalize BA W seen t=word at *
 have T2:=hT.keep s2
 obtain⟨hT0,gs,hgs,hgl⟩:=hT
 have hT:TalkN M cK H a U W:=⟨hT0,gs,hgs,hgl⟩
 have le:=le gs hgs
 have hgs2:=s2 _ _ hgs
 refine⟨_,rfl,a,cK,_,_,_,rfl,T2.ob,TX.cl,TX.given,EE,.inl ⟨rfl,_,SqL.of hgs2⟩,_,rfl,_,rfl,DP,fun p hp=>?_⟩
 have s3:=Ag hp (.tup [v,.str word])
 have T3:=T2.keep s3
 have t3:=s2.trans s3
 have hgs3:=s3 _ _ hgs2
 generalize upd H2 p _=H3 at *
 refine⟨U.gv,gs,.ref p,rfl,rfl,hgs3,AF (by omega),?_⟩
 have T4:TalkN M cK (upd H3 U.gv (.lst (gs++[.ref p]))) a U W:=⟨by rw[MO];exact T3.1,_,upd_same,by rw[List.length_append];exact le⟩
 have b4:But [U.gv,U.lf] H (upd H3 U.gv (.lst (gs++[.ref p]))):=Same.trans (AL t3) (But.upd (by simp))
 have k4:∀b,H3 b≠none→upd H3 U.gv (.lst (gs++[.ref p])) b≠none:=fun b hb=>by
  by_cases c:b=U.gv
  ·rw[c,upd_same];exact fun z=>by cases z
  ·rw[Ax c];exact hb
 have ts4:TS H3 (upd H3 U.gv (.lst (gs++[.ref p]))):=TS.lst hgs3
 have gv4:upd H3 U.gv (.lst (gs++[.ref p])) U.gv=some (.lst (gs++[.ref p])):=upd_same
 generalize upd H3 U.gv _=H4 at *
 have lf4:H4 U.lf=some (.lst U.lfs):=T4.lf
 obtain⟨hl,hl1,hl2⟩:=Hf T4.lr T4.1.ln
 refine⟨_,rfl,a,cK,_,_,_,rfl,T4.ob,TX.cl,TX.left,Dn,.inl ⟨rfl,_,SqL.of lf4⟩,?_⟩
 refine⟨_,rfl,_,rfl,a,cK,_,_,_,rfl,T4.ob,TX.cl,TX.left,Dn,_,rfl,_,_,_,_,rfl,rfl,SqL.of lf4,hl1,?_⟩
 refine⟨_,rfl,_,rfl,a,cK,_,_,_,rfl,T4.ob,TX.cl,TX.space,DH,v,t,U.sp,W.room,rfl,(haH.same t3).keep ts4,ok5,by omega,SqL.of (cut_same _ _ T4.room),hT.1.wr,fun wl H5 s5 hwl0 hwl=>?_⟩
 have T5:=T4.keep s5
 have hwl:AG H5 wl (AC true t W.room):=hwl
 have wwl:Wr (AC true t W.room):=EY hT.1.wr
 have lwl:=wwl.len
 refine⟨word,hl,wl,W.held,_,rfl,SqL.of (s5 _ _ (cut_same _ _ hl2)),hT.1.held_wr,SqL.of hwl,by omega,fun l H6 s6 hl0 hl6=>?_⟩
 have T6:=T5.keep s6
 have hll:U.lfs.length=W.lefts.length:=T6.lr.len
 refine⟨U.lf,U.lfs,.ref l,rfl,rfl,T6.lf,AF (by omega),?_⟩
 have l4:H4 l=none:=s5.free hl0
 have lM:l∉M:=fun z=>by
  have h3:H3 l≠none:=fun z3=>hM l z (t3.free z3)
  exact k4 l h3 l4
 have T7':=T6.1.gone (l:=l) (row:=Bv word W.held (AC true t W.room)) (by rw[T6.ct];exact Bi hl6 lM) ((Js _ _ _).trans (hT.1.wl _ hT.1.held_in)) ll
 have T7:TalkN M cK (upd H6 U.lf (.lst (U.lfs++[.ref l]))) a { U with lfs:=U.lfs++[.ref l] } (Pf W t word):=by
  refine⟨?_,gs++[.ref p],by show upd H6 U.lf _ U.gv=_;rw[Ax hT.1.ne];exact (s5.trans s6) _ _ gv4,by rw[List.length_append];exact le⟩
  show TalkAt M cK (upd (upd H6 U.lf (.lst (U.lfs++[.ref l]))) U.gv (.lst U.ges)) a _ _
  rw[OQ hT.1.ne.symm]
  exact T7'
 have b7:But [U.gv,U.lf] H (upd H6 U.lf (.lst (U.lfs++[.ref l]))):=Same.trans b4 (Same.trans (AL (s5.trans s6)) (But.upd (by simp)))
 have k7:∀b,H b≠none→upd H6 U.lf (.lst (U.lfs++[.ref l])) b≠none:=fun b hb=>by
  by_cases c:b=U.lf
  ·rw[c,upd_same];exact fun z=>by cases z
  ·rw[Ax c]
   have h3:H3 b≠none:=fun z3=>hb (t3.free z3)
   exact fun z6=>k4 b h3 ((s5.trans s6).free z6)
 refine⟨_,rfl,?_⟩
 refine q { U with lfs:=U.lfs++[.ref l] } _ b7 rfl rfl k7 (fun gs' hg=>?_) T7
 rw[hgs] at hg
 cases hg
 exact⟨.ref p,by rw[Ax hT.1.ne];exact (s5.trans s6) _ _ gv4⟩
end
section
variable {M N:List Addr} {C:Addr} {H H':Hp} {a:Addr} {U:Tk} {W:Ta}
end
abbrev Fv:Stmt:=BL (Bu 40) 12
def LX (C:Addr):Sp:=fun vs H Q _=>∃(a:Addr) (M:List Addr) (U:Tk) (W:Ta),vs=[.ref a]∧TalkAt M C H a U W∧(∀m∈M,H m≠none)∧
 ∀(b:Addr) (U':Tk) (H':Hp),Same H H'→H b=none→H U'.gv=none→H U'.lf=none→TalkAt (b::U'.gv::U'.lf::M) C H' b U' W→Q (.ref b) H'
section
variable {P:Program} {w:World} {K:PySem.W.Frag} {mg:Str→Option Value} {base:Heap} {f:Addr} {fd:FuncData} {cK cS cO cG cT cB cN:Addr}
theorem scTFork:As ["self","other"] ["self"] (Ae Fv):=⟨rfl,rfl,rfl,by decide +kernel,rfl,by decide +kernel,by decide +kernel⟩
set_option maxHeartbeats 8000000 in
theorem NB {fI:Addr} {dI:FuncData} (F:Fun K "fork" "Talk.fork" Fv f fd) (TX:Jh K cK) (T:Fq mg) (GI:FnOk P w K mg base (Dt P w) 5 fI dI ["self","many","room","kind","sentence","rule"] (Jb cK cS cB cN)) (CI:Rr K mg cK "Talk" fI dI ["self","many","room","kind","sentence","rule"]):FnOk P w K mg base AE 7 f fd ["self"] (LX cK):=by
 refine F.ok scTFork (fun vs H Q E h=>?_) (fun cdv A outer s H vs Q E hr h=>?_)
 ·obtain⟨a,M,U,W,rfl,_⟩:=h
  rfl
 obtain⟨a,M,U,W,rfl,hT,hM,q⟩:=h
 refine⟨_,Ac (Au (i:=1) scTFork.nd rfl (Or.inl rfl) (LS CI.make GI hr (by rfl) CI.m CI.b .nil DN (Aa (A1 (pv 0) rfl) (Aa (A1 (pv 0) rfl) (Aa (A1 (pv 0) rfl) (Aa (A1 (pv 0) rfl) (Aa (A1 (pv 0) rfl) Ab)))))))
  (Ac (BX (pv 1) (AR AW (by rfl) T.lst A8 (Aa (A1 (pv 0) rfl) Ab)) rfl)
  (Ac (BX (pv 1) (AR AW (by rfl) T.lst A8 (Aa (A1 (pv 0) rfl) Ab)) rfl)
  (Ac (BX (pv 1) (A1 (pv 0) rfl) rfl)
  (Ad (Ai (pv 1)))))),?_⟩
 refine⟨_,rfl,a,cK,_,_,_,rfl,hT.ob,TX.cl,TX.many,Iu,_,rfl,a,cK,_,_,_,rfl,hT.ob,TX.cl,TX.space,DH,_,rfl,a,cK,_,_,_,rfl,hT.ob,TX.cl,TX.kind,QS,_,rfl,a,cK,_,_,_,rfl,hT.ob,TX.cl,TX.sentence,JA,_,rfl,a,cK,_,_,_,rfl,hT.ob,TX.cl,TX.rule,IW,fun x dx hx hdx nex=>?_⟩
 have sM:Same H (upd (upd H dx (.own x)) x (.ins cK dx [])):=(Ag hdx _).trans (Ag (by rw[Ax nex.symm];exact hx) _)
 have xM:x∉M:=fun z=>hM x z hx
 refine⟨x,dx,U.sp,W.many,W.kind,W.rule,U.sv,W.t,W.room,M,rfl,upd_same,xM,fun m hm z=>hM m hm (sM.free z),hT.tr.keep (TS.same (AL sM)),Tr.ok.mono hT.m5 hT.tok,hT.tsz,hT.m5,sM _ _ (cut_same _ _ hT.room),hT.wr,fun hn=>absurd hT.tok hn,fun _ hn=>absurd ⟨hT.rl,hT.kd⟩ hn,fun _ _ _ he=>absurd he hT.ns,fun _ _ _ _ V1 H1 b1 gv0 lf0 sp0 esv T1=>⟨rfl,?_⟩⟩
 have s1:Same H H1:=HL hx hdx nex b1
 obtain⟨gvH,ngx,ngd⟩:=D6 (C:=cK) gv0
 obtain⟨lfH,nlx,nld⟩:=D6 (C:=cK) lf0
 have T0:=hT.keep s1
 refine⟨_,rfl,a,cK,_,_,_,rfl,T0.ob,TX.cl,TX.given,EE,_,_,rfl,.inl (SqL.of T0.gv),fun g2 hg2=>?_⟩
 have s2:=Ag hg2 (.lst U.ges)
 have g22:upd H1 g2 (.lst U.ges) g2=some (.lst U.ges):=upd_same
 generalize upd H1 g2 _=H2 at *
 have T2:=T1.keep s2
 have ng2x:g2≠x:=(Am T1.ob hg2).symm
 refine⟨_,rfl,x,cK,_,_,rfl,T2.ob,TX.cl,TX.given,(by show 9<1000;decide),?_⟩
 have e3:BD "given" (.ref g2) (Du V1 (Ck W.many W.kind W.rule W.t W.room))=Du { V1 with gv:=g2 } (Ck W.many W.kind W.rule W.t W.room):=by with_unfolding_all rfl
 have x3:upd H2 x (.ins cK V1.dx (BD "given" (.ref g2) (Du V1 (Ck W.many W.kind W.rule W.t W.room)))) x=some (.ins cK V1.dx (Du { V1 with gv:=g2 } (Ck W.many W.kind W.rule W.t W.room))):=upd_same.trans (congrArg (fun l=>some (HO.ins cK V1.dx l)) e3)
 have b3:But [x] H2 (upd H2 x (.ins cK V1.dx (BD "given" (.ref g2) (Du V1 (Ck W.many W.kind W.rule W.t W.room))))):=But.upd (by simp)
 generalize upd H2 x _=H3 at *
 have nax:a≠x:=fun z=>by
  have h:=hT.ob
  rw[z,hx] at h
  cases h
 have nlfx:U.lf≠x:=fun z=>by
  have h:=hT.lf
  rw[z,hx] at h
  cases h
 have lf3:=b3.at (s2 _ _ T0.lf) (Bo nlfx)
 have ob3:=b3.at (s2 _ _ T0.ob) (Bo nax)
 refine⟨_,rfl,a,cK,_,_,_,rfl,ob3,TX.cl,TX.left,Dn,_,_,rfl,.inl (SqL.of lf3),fun l2 hl2=>?_⟩
 have s4:=Ag hl2 (.lst U.lfs)
 have l24:upd H3 l2 (.lst U.lfs) l2=some (.lst U.lfs):=upd_same
 generalize upd H3 l2 _=H4 at *
 have nl2x:l2≠x:=(Am x3 hl2).symm
 refine⟨_,rfl,x,cK,_,_,rfl,s4 _ _ x3,TX.cl,TX.left,(by show 9<1000;decide),?_⟩
 have e5:BD "left" (.ref l2) (Du { V1 with gv:=g2 } (Ck W.many W.kind W.rule W.t W.room))=Du { V1 with gv:=g2,lf:=l2 } (Ck W.many W.kind W.rule W.t W.room):=by with_unfolding_all rfl
 have x5:upd H4 x (.ins cK V1.dx (BD "left" (.ref l2) (Du { V1 with gv:=g2 } (Ck W.many W.kind W.rule W.t W.room)))) x=some (.ins cK V1.dx (Du { V1 with gv:=g2,lf:=l2 } (Ck W.many W.kind W.rule W.t W.room))):=upd_same.trans (congrArg (fun l=>some (HO.ins cK V1.dx l)) e5)
 have b5:But [x] H4 (upd H4 x (.ins cK V1.dx (BD "left" (.ref l2) (Du { V1 with gv:=g2 } (Ck W.many W.kind W.rule W.t W.room))))):=But.upd (by simp)
 generalize upd H4 x _=H5 at *
 have ob5:=b5.at (s4 _ _ ob3) (Bo nax)
 refine⟨_,rfl,a,cK,_,_,_,rfl,ob5,TX.cl,TX.ended,Gs,_,rfl,x,cK,_,_,rfl,x5,TX.cl,TX.ended,(by show 9<1000;decide),?_⟩
 have e6:BD "ended" (.bl W.ended) (Du { V1 with gv:=g2,lf:=l2 } (Ck W.many W.kind W.rule W.t W.room))=Du { V1 with gv:=g2,lf:=l2,ges:=U.ges,lfs:=U.lfs } W:=by with_unfolding_all rfl
 have x6:upd H5 x (.ins cK V1.dx (BD "ended" (.bl W.ended) (Du { V1 with gv:=g2,lf:=l2 } (Ck W.many W.kind W.rule W.t W.room)))) x=some (.ins cK V1.dx (Du { V1 with gv:=g2,lf:=l2,ges:=U.ges,lfs:=U.lfs } W)):=upd_same.trans (congrArg (fun l=>some (HO.ins cK V1.dx l)) e6)
 have b6:But [x] H5 (upd H5 x (.ins cK V1.dx (BD "ended" (.bl W.ended) (Du { V1 with gv:=g2,lf:=l2 } (Ck W.many W.kind W.rule W.t W.room))))):=But.upd (by simp)
 generalize upd H5 x _=H6 at *
 have b16:But [x] H1 H6:=Same.trans (AL s2) (Same.trans b3 (Same.trans (AL s4) (Same.trans b5 b6)))
 have off:∀m∈[x],H m=none:=fun m hm=>by rw[List.mem_singleton.mp hm];exact hx
 have s6:Same H H6:=But.same off s1 b16
 have g20:H g2=none:=s1.free hg2
 have l23:H2 l2=none:=by
  cases e:H2 l2 with
  | none=>rfl
  | some o=>rw[b3.at e (Bo nl2x)] at hl2;cases hl2
 have l20:H l2=none:=s1.free (s2.free l23)
 have g26:H6 g2=some (.lst U.ges):=b6.at (b5.at (s4 _ _ (b3.at g22 (Bo ng2x))) (Bo ng2x)) (Bo ng2x)
 have l26:H6 l2=some (.lst U.lfs):=b6.at (b5.at l24 (Bo nl2x)) (Bo nl2x)
 have ngl:g2≠l2:=Am g22 l23
 have k1:Same (Bq (x::V1.gv::V1.lf::M) H1) (Bq (x::g2::l2::M) H6):=fun p o e=>by
  obtain⟨e1,e2⟩:=BS e
  have n1:p≠x:=fun z=>e2 (by rw[z];simp)
  refine Bi (b16.at e1 (Bo n1)) fun z=>?_
  simp only[List.mem_cons] at z e2
  rcases z with q1 | q1 | q1 | q1
  ·exact n1 q1
  ·rw[q1,hg2] at e1;cases e1
  ·rw[q1] at e1;rw[s2 _ _ e1] at l23;cases l23
  ·exact e2 (.inr (.inr (.inr q1)))
 have k0:Same (Bq M H) (Bq (x::g2::l2::M) H6):=fun p o e=>by
  obtain⟨e1,e2⟩:=BS e
  refine Bi (s6 _ _ e1) fun z=>?_
  simp only[List.mem_cons] at z
  rcases z with q1 | q1 | q1 | q1
  ·rw[q1,hx] at e1;cases e1
  ·rw[q1,g20] at e1;cases e1
  ·rw[q1,l20] at e1;cases e1
  ·exact e2 q1
 refine⟨_,rfl,?_⟩
 exact q x { V1 with gv:=g2,lf:=l2,ges:=U.ges,lfs:=U.lfs } H6 s6 hx g20 l20 ⟨x6,g26,l26,by simp,by simp,by simp,ngl,k1 _ _ T1.room,T1.tr.keep (TS.same k1),k1 _ _ T1.pt,T1.sd.keep k1,hT.en.keep k0,hT.lr.keep k0,hT.wr,hT.wl,hT.ln,hT.l9,hT.e9,hT.tok,hT.m5,hT.tsz,hT.kd,hT.ns,hT.rl⟩
end
abbrev D1:Stmt:=Bu 54
def Lj (K:PySem.W.Frag):Sp:=fun vs H Q _=>∃(a:Addr) (ns:List Int) (many:Nat),vs=[.ref a,.int many]∧SqL K H a (ns.map V.int)∧ns.length≤63∧1≤many∧many≤5∧∀(tp rm:Addr) (room:List Int) (z:Str) (v:V) (t:Tr) (H':Hp),Same H H'→H' tp=some (.tup [.ref rm,.str z,v])→H rm=none→AG H' rm room→room.Sublist (BW (2^many))→room≠[]→t.At H' v→t.ok many→t.size≤20→FC z t room→Q (.ref tp) H'
section
variable {P:Program} {w:World} {K:PySem.W.Frag} {mg:Str→Option Value} {base:Heap} {f:Addr} {fd:FuncData}
theorem scLstart:As ["_law_script","_law_many","_law_room_here","_law_sentence_here"] ["_law_script","_law_many"] (Ae D1):=⟨rfl,rfl,rfl,by decide +kernel,rfl,by decide +kernel,by decide +kernel⟩
set_option maxHeartbeats 4000000 in
theorem Mu {fN fS fR fK:Addr} {dN dS dR dK:FuncData} (F:Fun K "_law_start" "_law_start" D1 f fd)
  (GN:FnOk P w K mg base AE 1 fN dN ["_law_script","_law_k"] (LJ K)) (CN:AN K mg "_law_num" fN dN ["_law_script","_law_k"])
  (GS:FnOk P w K mg base AE 1 fS dS ["_law_n","_law_most","_law_many"] Jd) (CS:AN K mg "_law_sentence" fS dS ["_law_n","_law_most","_law_many"])
  (GR:FnOk P w K mg base AE 3 fR dR ["_law_n","_law_many"] N2) (CR:AN K mg "_law_room" fR dR ["_law_n","_law_many"])
  (GK:FnOk P w K mg base AE 25 fK dK ["_law_n","_law_room_here","_law_sentence_here"] (O9 K)) (CK:AN K mg "_law_kind" fK dK ["_law_n","_law_room_here","_law_sentence_here"]):FnOk P w K mg base AE 26 f fd ["_law_script","_law_many"] (Lj K):=by
 refine F.ok scLstart (fun vs H Q E h=>?_) (fun cdv A outer s H vs Q E hr h=>?_)
 ·obtain⟨a,ns,many,rfl,_⟩:=h
  rfl
 obtain⟨a,ns,many,rfl,hS,h63,hm1,hm5,q⟩:=h
 have hr1:Room 1 _:=hr.mono (by decide)
 have hr3:Room 3 _:=hr.mono (by decide)
 refine⟨_,Ac (Au (i:=2) scLstart.nd rfl (Or.inl rfl) (Ah GR hr3 (by rfl) CR.m CR.k CR.b .nil Aq (Aa (Ah GN hr1 (by rfl) CN.m CN.k CN.b .nil Aq (Aa (pv 0) (Aa Af Ab))) (Aa (pv 1) Ab))))
  (Ac (Au (i:=3) scLstart.nd rfl (Or.inl rfl) (Ah GS hr1 (by rfl) CS.m CS.k CS.b .nil Aq (Aa (Ah GN hr1 (by rfl) CN.m CN.k CN.b .nil Aq (Aa (pv 0) (Aa Af Ab))) (Aa Af (Aa (pv 1) Ab)))))
  (Ad (Ai (AU (Aa (pv 2) (Aa (Ah GK hr (by rfl) CK.m CK.k CK.b .nil Aq (Aa (Ah GN hr1 (by rfl) CN.m CN.k CN.b .nil Aq (Aa (pv 0) (Aa Af Ab))) (Aa (pv 2) (Aa (pv 3) Ab)))) (Aa (pv 3) Ab))))))),?_⟩
 refine⟨_,rfl,a,ns,1,rfl,hS,h63,by decide,by decide,fun n1 H2 hn1 s2=>?_⟩
 refine⟨_,rfl,n1,many,rfl,hm1,hm5,fun rm room H3 s3 hrm0 hrm hsub hne=>?_⟩
 have t3:=s2.trans s3
 have wroom:Wr room:=(Lb hm5).sub hsub
 have lroom:=wroom.len
 refine⟨_,rfl,a,ns,2,rfl,t3.seq hS,h63,by decide,by decide,fun n2 H4 hn2 s4=>?_⟩
 refine⟨_,rfl,n2,8,many,rfl,hn2,by decide,by decide,hm1,hm5,fun v t H5 s5 ha hok hsz'=>?_⟩
 have hsz:t.size≤23:=by omega
 have ok5:t.ok 5:=Tr.ok.mono hm5 hok
 have t5:=t3.trans (s4.trans s5)
 have hrm5:=s5 _ _ (s4 _ _ hrm)
 refine⟨_,rfl,_,rfl,a,ns,3,rfl,t5.seq hS,h63,by decide,by decide,fun n3 H6 hn3 s6=>?_⟩
 have t6:=t5.trans s6
 have hrm6:=s6 _ _ hrm5
 have ha6:=ha.keep (TS.same s6)
 refine⟨_,rfl,_,rfl,n3,rm,room,v,t,rfl,ha6,ok5,hsz,SqL.of hrm6,by omega,hne,fun z H7 s7 hz=>?_⟩
 refine⟨_,rfl,IO,fun tp htp=>?_⟩
 have s8:=s7.trans (Ag htp (.tup [.ref rm,.str z,v]))
 exact q tp rm room z v t _ (t6.trans s8) upd_same (s2.free hrm0) (s8 _ _ hrm6) hsub hne (ha6.keep (TS.same s8)) hok (by omega) hz
end
def Cn (seen:List Int) (t:Tr):Str:=if (seen.all fun k=>tv t k)=true then "grant" else if (seen.any fun k=>tv t k)=true then "doubt" else "deny"
def OA (sides:List (List Int)) (going seen:List Int) (t:Tr):Str:=
 if AC false t going=[] then "grant" else if AC true t going=[] then "deny"
 else if Cn seen t="grant"∧Br sides (AC true t going)=true then "grant"
 else if Cn seen t="deny"∧Br sides (AC false t going)=true then "deny" else "doubt"
def Jr (z:Str) (g:List Int) (t:Tr):List Int:=if z="grant" then AC true t g else if z="deny" then AC false t g else g
theorem Cs {t:Tr} {room:List Int} {k:Int} (hk:k∈room):decide (k∈AC true t room)=tv t k:=by
 unfold AC
 rw[Bool.eq_iff_iff,decide_eq_true_eq,List.mem_filter]
 constructor
 ·rintro⟨_,h⟩
  exact eq_of_beq h
 ·intro h
  exact⟨hk,by rw[h];rfl⟩
theorem Kc {t:Tr} {room g:List Int} (h:g.Sublist room):Ir g (AC true t room)=AC true t g:=by
 unfold Ir
 refine (List.filter_congr fun k hk=>?_)
 rw[Cs (h.subset hk)]
 cases tv t k<;>rfl
theorem Iz {t:Tr} {room g:List Int} (h:g.Sublist room):Ei g (AC true t room)=AC false t g:=by
 unfold Ei
 refine (List.filter_congr fun k hk=>?_)
 rw[Cs (h.subset hk)]
 cases tv t k<;>rfl
theorem Mt {t:Tr} {room g:List Int} (h:g.Sublist room):Bj g (AC true t room)=Cn g t:=by
 have e1:(g.all fun k=>decide (k∈AC true t room))=g.all fun k=>tv t k:=by
  rw[Bool.eq_iff_iff,List.all_eq_true,List.all_eq_true]
  exact⟨fun q k hk=>by rw[←Cs (h.subset hk)];exact q k hk,fun q k hk=>by rw[Cs (h.subset hk)];exact q k hk⟩
 have e2:(g.any fun k=>decide (k∈AC true t room))=g.any fun k=>tv t k:=by
  rw[Bool.eq_iff_iff,List.any_eq_true,List.any_eq_true]
  exact⟨fun⟨k,hk,q⟩=>⟨k,hk,by rw[←Cs (h.subset hk)];exact q⟩,fun⟨k,hk,q⟩=>⟨k,hk,by rw[Cs (h.subset hk)];exact q⟩⟩
 unfold Bj Cn
 rw[e1,e2]
theorem QQ (seen:List Int) (t:Tr):Cn seen t="grant"∨Cn seen t="deny"∨Cn seen t="doubt":=by
 unfold Cn
 split
 ·exact .inl rfl
 ·split
  ·exact .inr (.inr rfl)
  ·exact .inr (.inl rfl)
theorem R1 {sides:List (List Int)} {going seen room:List Int} {t:Tr} (hg:going.Sublist room) (hs:seen.Sublist room):By sides going seen (AC true t room)=OA sides going seen t:=by
 unfold By OA
 rw[Kc hg,Iz hg,Mt hs]
 by_cases h0:AC false t going=[]
 ·rw[if_pos h0,if_pos h0]
 rw[if_neg h0,if_neg h0]
 by_cases h1:AC true t going=[]
 ·rw[if_pos h1,if_pos h1]
 rw[if_neg h1,if_neg h1]
 have g1:¬("grant":Str)="deny":=by decide
 have g2:¬("deny":Str)="grant":=by decide
 have g3:¬("doubt":Str)="grant":=by decide
 have g4:¬("doubt":Str)="deny":=by decide
 rcases QQ seen t with e | e | e<;>rw[e]<;>cases Br sides (AC true t going)<;>cases Br sides (AC false t going)<;>simp[g1,g2,g3,g4]
theorem LV {z:Str} {g room:List Int} {t:Tr} (h:g.Sublist room):Bv z g (AC true t room)=Jr z g t:=by
 unfold Bv Jr
 rw[Kc h,Iz h]
def PairAt (H:Hp) (x:V) (t:Tr) (z:Str):Prop:=∃p v,x= .ref p∧H p=some (.tup [v,.str z])∧t.At H v
theorem PairAt.keep {H H':Hp} (s:Same H H') {x:V} {t:Tr} {z:Str} (h:PairAt H x t z):PairAt H' x t z:=by
 obtain⟨p,v,e,h1,h2⟩:=h
 exact⟨p,v,e,s _ _ h1,h2.keep (TS.same s)⟩
abbrev PairsAt (H:Hp):List V→List (Tr×Str)→Prop:=Paired fun (x:V) (e:Tr×Str)=>PairAt H x e.1 e.2
theorem PairsAt.keep {H H':Hp} (s:Same H H'):∀{xs:List V} {es:List (Tr×Str)},PairsAt H xs es→PairsAt H' xs es
 | _,_,.nil=>.nil
 | _,_,.cons h q=>.cons (h.keep s) (PairsAt.keep s q)
theorem PairsAt.len {H:Hp} {xs:List V} {es:List (Tr×Str)} (h:PairsAt H xs es):xs.length=es.length:=Paired.length h
theorem PairsAt.get {H:Hp}:∀{xs:List V} {es:List (Tr×Str)} {i:Nat} {e:Tr×Str},PairsAt H xs es→es[i]? = some e→∃x,xs[i]? = some x∧PairAt H x e.1 e.2
 | _,_,0,e,.cons h _,hi=>by cases hi;exact⟨_,rfl,h⟩
 | _,_,i+1,e,.cons _ q,hi=>PairsAt.get (i:=i) q hi
theorem Hv {H:Hp}:∀{xs:List V} {es:List (V×Tr×Str)},EntsAt H xs es→PairsAt H xs (es.map fun e=>(e.2.1,e.2.2))
 | _,_,.nil=>.nil
 | _,_,.cons ⟨p,e,h,a⟩ q=>.cons ⟨p,_,e,h,a⟩ (Hv q)
abbrev E9:Stmt:=Bu 70
abbrev DR:Stmt:=Bu 71
def LE:Sp:=fun vs H Q _=>∃(x y:V) (t:Tr) (z:Str),vs=[x,y]∧PairAt H x t z∧PairAt H y t z∧t.size≤23∧Q (.bl true) H
def J9 (K:PySem.W.Frag):Sp:=fun vs H Q _=>∃(a b:Addr) (xs ys:List V) (es:List (Tr×Str)),vs=[.ref a,.ref b]∧H a=some (.lst xs)∧PairsAt H xs es∧H b=some (.lst ys)∧PairsAt H ys es∧(∀e∈es,e.1.size≤23)∧es.length≤900∧Q (.bl true) H
section
variable {P:Program} {w:World} {K:PySem.W.Frag} {mg:Str→Option Value} {base:Heap} {f:Addr} {fd:FuncData}
theorem P8:As ["_law_found","_law_due"] ["_law_found","_law_due"] (Ae E9):=⟨rfl,rfl,rfl,by decide +kernel,rfl,by decide +kernel,by decide +kernel⟩
theorem Ob {g g2:Addr} {gd gd2:FuncData} (F:Fun K "_law_pair_is" "_law_pair_is" E9 f fd) (T:Fq mg) (B:Bl mg) (GZ:FnOk P w K mg base AE 24 g gd ["_law_found","_law_due"] (Eo 23)) (CZ:AN K mg "_law_tree_is" g gd ["_law_found","_law_due"])
  (GY:FnOk P w K mg base AE 1 g2 gd2 ["_law_found","_law_due"] Je) (CY:AN K mg "_law_says" g2 gd2 ["_law_found","_law_due"]):FnOk P w K mg base AE 25 f fd ["_law_found","_law_due"] LE:=by
 refine F.ok P8 (fun vs H Q E h=>?_) (fun cdv A outer s H vs Q E hr h=>?_)
 ·obtain⟨x,y,t,z,rfl,_⟩:=h
  rfl
 obtain⟨x,y,t,z,rfl,⟨p,v,rfl,hp,ha⟩,⟨p2,v2,rfl,hp2,ha2⟩,hsz,q⟩:=h
 have hr1:Room 1 _:=hr.mono (by decide)
 refine⟨_,Ac (AA (BK (Be (A3 (Aw Ba (by rfl) T.isi boot_isinstance (Aa (pv 0) (Aa (Bm (v:=.ty "tuple") (by rfl) T.tup B9 rfl) Ab))))) (BO (Ak Hs (Aw Av (by rfl) B.len PySem.boot_len (Aa (pv 0) Ab)) Af (Ao _)))).pt
   (Ad (Ai Bw))
   Al)
  (Ad (Ai (Cd (Ah GZ hr (by rfl) CZ.m CZ.k CZ.b .nil Aq (Aa (AB AD (pv 0) Af (fun _ _=>rfl)) (Aa (AB AD (pv 1) Af (fun _ _=>rfl)) Ab))) (BJ (Ah GY hr1 (by rfl) CY.m CY.k CY.b .nil Aq (Aa (AB AD (pv 0) Af (fun _ _=>rfl)) (Aa (AB AD (pv 1) Af (fun _ _=>rfl)) Ab))))))),?_⟩
 refine⟨_,rfl,_,_,_,_,rfl,.tup hp,A4 _ _,_,rfl,?_⟩
 refine AX ?_
 refine⟨_,rfl,p,_,rfl,.inr (SqT.of hp),rfl,_,rfl,?_⟩
 refine FS rfl ?_
 refine⟨_,rfl,p,_,_,_,rfl,rfl,SqT.of hp,Aj (j:=0) rfl,_,rfl,p2,_,_,_,rfl,rfl,SqT.of hp2,Aj (j:=0) rfl,v,v2,t,rfl,ha,ha2,hsz,_,rfl,?_⟩
 refine Bt ?_
 exact⟨_,rfl,p,_,_,_,rfl,rfl,SqT.of hp,Aj (j:=1) rfl,_,rfl,p2,_,_,_,rfl,rfl,SqT.of hp2,Aj (j:=1) rfl,z,rfl,q⟩
theorem scLpairs:As ["_law_found","_law_due","_law_k"] ["_law_found","_law_due"] (Ae DR):=⟨rfl,rfl,rfl,by decide +kernel,rfl,by decide +kernel,by decide +kernel⟩
theorem Mi {g:Addr} {gd:FuncData} (F:Fun K "_law_pairs_are" "_law_pairs_are" DR f fd) (T:Fq mg) (B:Bl mg) (GI:FnOk P w K mg base AE 25 g gd ["_law_found","_law_due"] LE) (CI:AN K mg "_law_pair_is" g gd ["_law_found","_law_due"]):FnOk P w K mg base AE 26 f fd ["_law_found","_law_due"] (J9 K):=by
 refine F.ok scLpairs (fun vs H Q E h=>?_) (fun cdv A outer s H vs Q E hr h=>?_)
 ·obtain⟨a,b,xs,ys,es,rfl,_⟩:=h
  rfl
 obtain⟨a,b,xs,ys,es,rfl,ha,hX,hb,hY,hsz,hln,q⟩:=h
 have lx:=hX.len
 have ly:=hY.len
 refine⟨_,Ac (AA (BK (Be (A3 (Aw Ba (by rfl) T.isi boot_isinstance (Aa (pv 0) (Aa (Bm (v:=.ty "list") (by rfl) T.lst A8 rfl) Ab))))) (BO (Ak Hs (Aw Av (by rfl) B.len PySem.boot_len (Aa (pv 0) Ab)) (Aw Av (by rfl) B.len PySem.boot_len (Aa (pv 1) Ab)) (Ao _)))).pt
   (Ad (Ai Bw))
   Al)
  (Ac (BQ PassesOwn.never rfl (Dd (by rfl) B.range (Aa (Aw Av (by rfl) B.len PySem.boot_len (Aa (pv 1) Ab)) Ab)) (AO (i:=2) scLpairs.nd rfl (Or.inl rfl))
   (Ad (AA (Be (A3 (Ah GI hr (by rfl) CI.m CI.k CI.b .nil Aq (Aa (AB AM (pv 0) (pv 2) (fun _ _=>rfl)) (Aa (AB AM (pv 1) (pv 2) (fun _ _=>rfl)) Ab)))))
    (Ad (Ai Bw))
    Al)))
  (Ad (Ai Bw))),?_⟩
 refine⟨_,rfl,_,_,_,_,rfl,.lst ha,A4 _ _,_,rfl,?_⟩
 refine AX ?_
 refine⟨_,rfl,a,_,rfl,.inl (SqL.of ha),_,rfl,b,_,rfl,.inl (SqL.of hb),rfl,_,rfl,?_⟩
 refine FS (by rw[lx,ly]) ?_
 refine⟨_,rfl,b,_,rfl,.inl (SqL.of hb),_,rfl,(by show -(2^62)≤((ys.length:Nat):Int);omega),(by show ((ys.length:Nat):Int)<2^62;omega),BC (fun i σ H2=>∃kv,σ=[some (.ref a),some (.ref b),kv]∧H2=H) ⟨_,rfl,rfl⟩ ?_ ?_⟩
 ·rintro i σ H2 hi ⟨kv,rfl,rfl⟩
  have hi':i<es.length:=by
   have h0:i<((ys.length:Nat):Int).toNat:=hi
   omega
  rw[Int.zero_add]
  obtain⟨x,hx,px⟩:=hX.get (List.getElem?_eq_getElem hi')
  obtain⟨y,hy,py⟩:=hY.get (List.getElem?_eq_getElem hi')
  refine⟨_,rfl,_,rfl,a,_,_,_,rfl,rfl,SqL.of ha,Aj hx,_,rfl,_,rfl,b,_,_,_,rfl,rfl,SqL.of hb,Aj hy,x,y,_,_,rfl,px,py,hsz _ (List.getElem_mem hi'),_,rfl,?_⟩
  exact AX ⟨_,rfl,rfl⟩
 ·rintro σ H2 ⟨kv,rfl,rfl⟩
  exact q
end
abbrev DY:Stmt:=Bu 57
abbrev FreshAt (H:Hp) (many:Nat):List V→List Tr→Prop:=Paired fun (v:V) (t:Tr)=>t.At H v∧t.ok many∧t.size≤20
theorem FreshAt.keep {H H':Hp} {many:Nat} (s:TS H H'):∀{xs:List V} {ts:List Tr},FreshAt H many xs ts→FreshAt H' many xs ts
 | _,_,.nil=>.nil
 | _,_,.cons ⟨h,o,z⟩ q=>.cons ⟨h.keep s,o,z⟩ (FreshAt.keep s q)
theorem FreshAt.get {H:Hp} {many:Nat}:∀{xs:List V} {ts:List Tr} {i:Nat},FreshAt H many xs ts→i<xs.length→∃(v:V) (t:Tr),xs[i]? = some v∧t.At H v∧t.ok many∧t.size≤20
 | _,_,0,.cons h _,_=>⟨_,_,rfl,h⟩
 | _,_,i+1,.cons _ q,hi=>FreshAt.get (i:=i) q (Nat.lt_of_succ_lt_succ hi)
def Gu (K:PySem.W.Frag):Sp:=fun vs H Q _=>∃(n:Int) (fr:Addr) (many:Nat) (xs:List V) (ts:List Tr),vs=[.int n,.ref fr,.int many]∧0≤n∧1≤many∧many≤5∧H fr=some (.lst xs)∧FreshAt H many xs ts∧xs≠[]∧xs.length≤900∧
 ∀(v:V) (t:Tr) (H':Hp),Same H H'→t.At H' v→t.ok many→t.size≤21→(1<n%6→t.size≤20)→Q v H'
section
variable {P:Program} {w:World} {K:PySem.W.Frag} {mg:Str→Option Value} {base:Heap} {f:Addr} {fd:FuncData}
theorem Oe:As ["_law_n","_law_fresh","_law_many"] ["_law_n","_law_fresh","_law_many"] (Ae DY):=⟨rfl,rfl,rfl,by decide +kernel,rfl,by decide +kernel,by decide +kernel⟩
set_option maxHeartbeats 4000000 in
theorem Mx {g:Addr} {gd:FuncData} (F:Fun K "_law_asked" "_law_asked" DY f fd) (B:Bl mg) (GS:FnOk P w K mg base AE 1 g gd ["_law_n","_law_most","_law_many"] Jd) (CS:AN K mg "_law_sentence" g gd ["_law_n","_law_most","_law_many"]):FnOk P w K mg base AE 2 f fd ["_law_n","_law_fresh","_law_many"] (Gu K):=by
 refine F.ok Oe (fun vs H Q E h=>?_) (fun cdv A outer s H vs Q E hr h=>?_)
 ·obtain⟨n,fr,many,xs,ts,rfl,_⟩:=h
  rfl
 obtain⟨n,fr,many,xs,ts,rfl,hn,hm1,hm5,hfr,hF,hne,hl,q⟩:=h
 have hp:0<xs.length:=List.length_pos_iff.mpr hne
 refine⟨_,Ac (AA (Ak AI (Ay AQ (pv 0) Af) Af (Ao _))
   (Ad (Ai (AB AM (pv 1) (Ay AQ (Ay AT (pv 0) Af) (Aw Av (by rfl) B.len PySem.boot_len (Aa (pv 1) Ab))) (fun _ _=>rfl))))
   Al)
  (Ac (AA (Ak AI (Ay AQ (pv 0) Af) Af (Ao _))
   (Ad (Ai (AU (Aa An (Aa (AB AM (pv 1) (Ay AQ (Ay AT (pv 0) Af) (Aw Av (by rfl) B.len PySem.boot_len (Aa (pv 1) Ab))) (fun _ _=>rfl)) Ab)))))
   Al)
  (Ad (Ai (Ah GS hr (by rfl) CS.m CS.k CS.b .nil Aq (Aa (Ay AT (pv 0) Af) (Aa Af (Aa (pv 2) Ab))))))),?_⟩
 have e0:=Int.emod_nonneg (n / 6) (show (xs.length:Int)≠0 by omega)
 have e1:=Int.emod_lt_of_pos (n / 6) (show (0:Int)<xs.length by omega)
 obtain⟨v,t,hv,ha,hok,hsz⟩:=FreshAt.get hF (i:=(n / 6%(xs.length:Int)).toNat) (by omega)
 have hat:FV xs (n / 6%(xs.length:Int))=some v:=by
  have e:n / 6%(xs.length:Int)=(((n / 6%(xs.length:Int)).toNat:Nat):Int):=by omega
  rw[e]
  exact Aj hv
 refine⟨_,rfl,_,_,rfl,rfl,(by show (0:Int)<6;decide),rfl,_,rfl,?_⟩
 refine BY (fun c=>?_) (fun c=>?_)
 ·have c':n%6=0:=by
   have c2:=of_decide_eq_true c
   injection c2
  refine⟨_,rfl,_,rfl,_,_,rfl,rfl,⟨by decide,by decide⟩,_,rfl,fr,_,rfl,.inl (SqL.of hfr),_,_,rfl,rfl,(by show (0:Int)<((xs.length:Nat):Int);omega),fr,_,_,_,rfl,rfl,SqL.of hfr,hat,?_⟩
  exact q v t H (Same.refl _) ha hok (by omega) (fun z=>by omega)
 refine⟨_,rfl,_,_,rfl,rfl,(by show (0:Int)<6;decide),rfl,_,rfl,?_⟩
 refine BY (fun c=>?_) (fun c=>?_)
 ·have c':n%6=1:=by
   have c2:=of_decide_eq_true c
   injection c2
  refine⟨_,rfl,_,rfl,_,_,rfl,rfl,⟨by decide,by decide⟩,_,rfl,fr,_,rfl,.inl (SqL.of hfr),_,_,rfl,rfl,(by show (0:Int)<((xs.length:Nat):Int);omega),fr,_,_,_,rfl,rfl,SqL.of hfr,hat,DP,fun p hp0=>?_⟩
  have s2:=Ag hp0 (.tup [.str "not",v])
  exact q (.ref p) (.nt t) _ s2 ⟨p,v,rfl,upd_same,ha.keep (TS.same s2)⟩ hok (by show t.size+1≤21;omega) (fun z=>by omega)
 ·refine⟨_,rfl,_,_,rfl,rfl,⟨by decide,by decide⟩,_,rfl,n / 6,6,many,rfl,by omega,by decide,by decide,hm1,hm5,fun v t H' s' ha' hok' hsz'=>?_⟩
  exact q v t H' s' ha' hok' (by omega) (fun _=>by omega)
end
theorem Nj:bootBuiltins "min"=some (.builtin "min"):=by decide +kernel
theorem OY {X:Cx}:Eh X (binaryOp .FloorDiv) (rI (fun _ j=>0<j∧j.natAbs.log2<9000) fun i j=>.int (i / j)):=RV fun i j _ _ _ _ _ hc q=>by
 have h1:(0:Int)<j:=hc.1
 exact floordiv_int (by omega) (by rw[Int.fdiv_eq_ediv_of_nonneg i (by omega)];exact q) (.inl (PyProof.noPylong_of_log2 hc.2))
abbrev CQ:Stmt:=Bu 61
abbrev Fe:Stmt:=Bu 58
abbrev Ft:Stmt:=Bu 59
def HM (K:PySem.W.Frag):Sp:=fun vs H Q _=>∃(a rm:Addr) (ns room:List Int) (k:Int),vs=[.ref a,.int k,.ref rm]∧SqL K H a (ns.map V.int)∧ns.length≤63∧0≤k∧k≤1000∧SqL K H rm (room.map V.int)∧room.length≤900∧room≠[]∧∀(l:Addr) (seen:List Int) (H':Hp),Same H H'→H l=none→AG H' l seen→seen.Sublist room→seen≠[]→Q (.ref l) H'
def LI (K:PySem.W.Frag):Sp:=fun vs H Q _=>∃(a:Addr) (ns:List Int) (st n:Int),vs=[.ref a,.int st,.int n]∧SqL K H a (ns.map V.int)∧ns.length≤63∧0≤st∧st≤100∧∀(m:Int),0≤m→m≤200→Q (.int m) H
abbrev AskedAt (H:Hp) (many:Nat):List V→List Tr→Prop:=Paired fun (v:V) (t:Tr)=>t.At H v∧t.ok many∧t.size≤21
theorem AskedAt.keep {H H':Hp} {many:Nat} (s:TS H H'):∀{xs:List V} {ts:List Tr},AskedAt H many xs ts→AskedAt H' many xs ts
 | _,_,.nil=>.nil
 | _,_,.cons ⟨h,o,z⟩ q=>.cons ⟨h.keep s,o,z⟩ (AskedAt.keep s q)
theorem AskedAt.snoc {H:Hp} {many:Nat} {v:V} {t:Tr} (h:t.At H v∧t.ok many∧t.size≤21):∀{xs:List V} {ts:List Tr},AskedAt H many xs ts→AskedAt H many (xs++[v]) (ts++[t])
 | _,_,.nil=>.cons h .nil
 | _,_,.cons x q=>.cons x (AskedAt.snoc h q)
theorem FreshAt.snoc {H:Hp} {many:Nat} {v:V} {t:Tr} (h:t.At H v∧t.ok many∧t.size≤20):∀{xs:List V} {ts:List Tr},FreshAt H many xs ts→FreshAt H many (xs++[v]) (ts++[t])
 | _,_,.nil=>.cons h .nil
 | _,_,.cons x q=>.cons x (FreshAt.snoc h q)
theorem AskedAt.get {H:Hp} {many:Nat}:∀{xs:List V} {ts:List Tr} {i:Nat} {v:V},AskedAt H many xs ts→xs[i]? = some v→∃t:Tr,t.At H v∧t.ok many∧t.size≤21
 | _,_,0,v,.cons h _,e=>by cases e;exact⟨_,h⟩
 | _,_,i+1,v,.cons _ q,e=>AskedAt.get (i:=i) q e
def Lz (K:PySem.W.Frag):Sp:=fun vs H Q _=>∃(a:Addr) (ns:List Int) (st:Int) (many:Nat) (v:V) (t:Tr),vs=[.ref a,.int st,.int many,v]∧SqL K H a (ns.map V.int)∧ns.length≤63∧0≤st∧st≤100∧1≤many∧many≤5∧t.At H v∧t.ok many∧t.size≤20∧
 ∀(l:Addr) (xs:List V) (ts:List Tr) (H':Hp),Same H H'→H l=none→H' l=some (.lst xs)→AskedAt H' many xs ts→xs.length≤200→Q (.ref l) H'
section
variable {P:Program} {w:World} {K:PySem.W.Frag} {mg:Str→Option Value} {base:Heap} {f:Addr} {fd:FuncData}
abbrev E3:Stmt:=Bu 56
def Lq (K:PySem.W.Frag):Sp:=fun vs H Q _=>∃(a:Addr) (ns:List Int),vs=[.ref a]∧SqL K H a (ns.map V.int)∧ns.length≤63∧∀(z:Str) (H':Hp),Same H H'→Cp z→Q (.str z) H'
theorem PN:As ["_law_script"] ["_law_script"] (Ae E3):=⟨rfl,rfl,rfl,by decide +kernel,rfl,by decide +kernel,by decide +kernel⟩
theorem NW {g:Addr} {gd:FuncData} (F:Fun K "_law_rule" "_law_rule" E3 f fd) (GN:FnOk P w K mg base AE 1 g gd ["_law_script","_law_k"] (LJ K)) (CN:AN K mg "_law_num" g gd ["_law_script","_law_k"]):FnOk P w K mg base AE 2 f fd ["_law_script"] (Lq K):=by
 refine F.ok PN (fun vs H Q E h=>?_) (fun cdv A outer s H vs Q E hr h=>?_)
 ·obtain⟨a,ns,rfl,_⟩:=h
  rfl
 obtain⟨a,ns,rfl,hS,h63,q⟩:=h
 refine⟨_,Ad (Ai (AB AM (AJ (Aa An (Aa An Ab))) (Ay AQ (Ay AT (Ah GN hr (by rfl) CN.m CN.k CN.b .nil Aq (Aa (pv 0) (Aa Af Ab))) Af) Af) (fun _ _=>rfl))),?_⟩
 refine⟨DP,fun l hl=>?_⟩
 have s1:=Ag hl (.lst [.str "elder",.str "newer"])
 refine⟨_,rfl,a,ns,3,rfl,s1.seq hS,h63,by decide,by decide,fun n H2 hn s2=>?_⟩
 have e0:=Int.emod_nonneg (n / 3) (show (2:Int)≠0 by decide)
 have e1:=Int.emod_lt_of_pos (n / 3) (show (0:Int)<2 by decide)
 have l2:=s2 _ _ (show upd H l (.lst [.str "elder",.str "newer"]) l=_ from upd_same)
 have two:n / 3%2=((0:Nat):Int)∨n / 3%2=((1:Nat):Int):=by omega
 have hat:∃z,Cp z∧FV [V.str "elder",V.str "newer"] (n / 3%2)=some (.str z):=by
  rcases two with e | e<;>rw[e]
  ·exact⟨_,.inl rfl,Aj (j:=0) rfl⟩
  ·exact⟨_,.inr rfl,Aj (j:=1) rfl⟩
 obtain⟨z,hz,hat⟩:=hat
 exact⟨_,_,rfl,rfl,⟨by decide,by decide⟩,_,_,rfl,rfl,(by show (0:Int)<2;decide),l,_,_,_,rfl,rfl,SqL.of l2,hat,q z _ (s1.trans s2) hz⟩
theorem scLseenat:As ["_law_script","_law_k","_law_room_here","_law_n"] ["_law_script","_law_k","_law_room_here"] (Ae CQ):=⟨rfl,rfl,rfl,by decide +kernel,rfl,by decide +kernel,by decide +kernel⟩
theorem Kd {g g2:Addr} {gd gd2:FuncData} (F:Fun K "_law_seen_at" "_law_seen_at" CQ f fd) (GN:FnOk P w K mg base AE 1 g gd ["_law_script","_law_k"] (LJ K)) (CN:AN K mg "_law_num" g gd ["_law_script","_law_k"])
  (GS:FnOk P w K mg base AE 3 g2 gd2 ["_law_n","_law_room_here"] (B7 K)) (CS:AN K mg "_law_seen" g2 gd2 ["_law_n","_law_room_here"]):FnOk P w K mg base AE 4 f fd ["_law_script","_law_k","_law_room_here"] (HM K):=by
 refine F.ok scLseenat (fun vs H Q E h=>?_) (fun cdv A outer s H vs Q E hr h=>?_)
 ·obtain⟨a,rm,ns,room,k,rfl,_⟩:=h
  rfl
 obtain⟨a,rm,ns,room,k,rfl,hS,h63,hk0,hk1,hR,hl,hne,q⟩:=h
 have hr1:Room 1 _:=hr.mono (by decide)
 refine⟨_,Ac (Au (i:=3) scLseenat.nd rfl (Or.inl rfl) (Ah GN hr1 (by rfl) CN.m CN.k CN.b .nil Aq (Aa (pv 0) (Aa Af Ab))))
  (Ac (AA (Ak AI (Ay AQ (pv 3) Af) Af (Ao _))
   (Ad (Ai (Ah GS hr (by rfl) CS.m CS.k CS.b .nil Aq (Aa (Ay AT (pv 3) Af) (Aa (pv 2) Ab)))))
   Al)
  (Ad (Ai (Ah GS hr (by rfl) CS.m CS.k CS.b .nil Aq (Aa (Ay OY (Ah GN hr1 (by rfl) CN.m CN.k CN.b .nil Aq (Aa (pv 0) (Aa (pv 1) Ab))) (Ay Pa Af Af)) (Aa (pv 2) Ab)))))),?_⟩
 refine⟨_,rfl,a,ns,4,rfl,hS,h63,by decide,by decide,fun n H2 hn s2=>?_⟩
 refine⟨_,rfl,_,_,rfl,rfl,(by show (0:Int)<2;decide),rfl,_,rfl,?_⟩
 refine BY (fun c=>?_) (fun c=>?_)
 ·refine⟨_,rfl,_,_,rfl,rfl,⟨by decide,by decide⟩,_,rfl,n / 2,rm,room,rfl,s2.seq hR,hl,hne,fun l seen H3 s3 hl0 hl3 hsub hn3=>?_⟩
  exact q l seen _ (s2.trans s3) (s2.free hl0) hl3 hsub hn3
 ·refine⟨_,rfl,_,rfl,a,ns,k,rfl,s2.seq hS,h63,hk0,hk1,fun n2 H3 hn2 s3=>?_⟩
  refine⟨_,_,rfl,rfl,⟨by decide,by decide,by decide⟩,_,_,rfl,rfl,⟨by decide,by decide +kernel⟩,_,rfl,_,rm,room,rfl,(s2.trans s3).seq hR,hl,hne,fun l seen H4 s4 hl0 hl4 hsub hn4=>?_⟩
  exact q l seen _ (s2.trans (s3.trans s4)) ((s2.trans s3).free hl0) hl4 hsub hn4
theorem P5:As ["_law_script","_law_start_here","_law_n"] ["_law_script","_law_start_here","_law_n"] (Ae Fe):=⟨rfl,rfl,rfl,by decide +kernel,rfl,by decide +kernel,by decide +kernel⟩
theorem ND (F:Fun K "_law_last" "_law_last" Fe f fd) (B:Bl mg):FnOk P w K mg base AE 1 f fd ["_law_script","_law_start_here","_law_n"] (LI K):=by
 refine F.ok P5 (fun vs H Q E h=>?_) (fun cdv A outer s H vs Q E hr h=>?_)
 ·obtain⟨a,ns,st,n,rfl,_⟩:=h
  rfl
 obtain⟨a,ns,st,n,rfl,hS,h63,h0,h1,q⟩:=h
 refine⟨_,Ac (AA (Ak EH (Aw Av (by rfl) B.len PySem.boot_len (Aa (pv 0) Ab)) (pv 1) (Ao _))
   (Ad (Ai (Aw Av (by rfl) B.len PySem.boot_len (Aa (pv 0) Ab))))
   Al)
  (Ad (Ai (Ay Bz (pv 1) (Ay AQ (pv 2) Af)))),?_⟩
 have hl:(ns.map V.int).length=ns.length:=List.length_map _
 refine⟨_,rfl,a,_,rfl,.inl hS,_,rfl,_,_,rfl,rfl,_,rfl,?_⟩
 refine BY (fun c=>?_) (fun c=>?_)
 ·exact⟨_,rfl,a,_,rfl,.inl hS,q _ (by omega) (by rw[hl];omega)⟩
 ·have e0:=Int.emod_nonneg n (show (6:Int)≠0 by decide)
  have e1:=Int.emod_lt_of_pos n (show (0:Int)<6 by decide)
  exact⟨_,rfl,_,rfl,_,_,rfl,rfl,(by show (0:Int)<6;decide),_,_,rfl,rfl,q _ (by omega) (by omega)⟩
theorem scLasks:As ["_law_script","_law_start_here","_law_many","_law_first","_law_fresh","_law_found","_law_last_here","_law_k","_law_sentence_here"] ["_law_script","_law_start_here","_law_many","_law_first"] (Ae Ft):=⟨rfl,rfl,rfl,by decide +kernel,rfl,by decide +kernel,by decide +kernel⟩
set_option maxHeartbeats 8000000 in
theorem Nk {g1 g2 g3:Addr} {d1 d2 d3:FuncData} (F:Fun K "_law_asks" "_law_asks" Ft f fd) (B:Bl mg) (HMIN:mg "min"=none) (GN:FnOk P w K mg base AE 1 g1 d1 ["_law_script","_law_k"] (IX K)) (CN:AN K mg "_law_num" g1 d1 ["_law_script","_law_k"])
  (GL:FnOk P w K mg base AE 1 g2 d2 ["_law_script","_law_start_here","_law_n"] (LI K)) (CL:AN K mg "_law_last" g2 d2 ["_law_script","_law_start_here","_law_n"]) (GA:FnOk P w K mg base AE 2 g3 d3 ["_law_n","_law_fresh","_law_many"] (Gu K)) (CA:AN K mg "_law_asked" g3 d3 ["_law_n","_law_fresh","_law_many"]):FnOk P w K mg base AE 3 f fd ["_law_script","_law_start_here","_law_many","_law_first"] (Lz K):=by
 refine F.ok scLasks (fun vs H Q E h=>?_) (fun cdv A outer s H vs Q E hr h=>?_)
 ·obtain⟨a,ns,st,many,v,t,rfl,_⟩:=h
  rfl
 obtain⟨a,ns,st,many,v,t,rfl,hS,h63,h0,h1,hm1,hm5,ha,hok,hsz,q⟩:=h
 have hr1:Room 1 _:=hr.mono (by decide)
 refine⟨_,Ac (Au (i:=4) scLasks.nd rfl (Or.inl rfl) (AJ (Aa (pv 3) Ab)))
  (Ac (Au (i:=5) scLasks.nd rfl (Or.inl rfl) (AJ Ab))
  (Ac (Au (i:=6) scLasks.nd rfl (Or.inl rfl) (Ah GL hr1 (by rfl) CL.m CL.k CL.b .nil Aq (Aa (pv 0) (Aa (pv 1) (Aa (Ay AT (Ah GN hr1 (by rfl) CN.m CN.k CN.b .nil Aq (Aa (pv 0) (Aa Af Ab))) Af) Ab)))))
  (Ac (AA (Ak EH (pv 2) Af (Ao _))
   (Ad (Au (i:=6) scLasks.nd rfl (Or.inl rfl) (Aw (L7 rfl) (by rfl) HMIN Nj (Aa (pv 6) (Aa (Ay Bz (pv 1) (AB AM (AJ (Aa Af (Aa Af Ab))) (Ay DL (pv 2) Af) (fun _ _=>rfl))) Ab)))))
   Al)
  (Ac (BQ PassesOwn.never rfl (Ia (by rfl) B.range (Aa (pv 1) (Aa (pv 6) Ab))) (AO (i:=7) scLasks.nd rfl (Or.inl rfl))
   (Ac (Au (i:=8) scLasks.nd rfl (Or.inl rfl) (Ah GA hr (by rfl) CA.m CA.k CA.b .nil Aq (Aa (Ah GN hr1 (by rfl) CN.m CN.k CN.b .nil Aq (Aa (pv 0) (Aa (pv 7) Ab))) (Aa (pv 4) (Aa (pv 2) Ab)))))
   (Ac (AA (Ak EH (Ay AQ (Ah GN hr1 (by rfl) CN.m CN.k CN.b .nil Aq (Aa (pv 0) (Aa (pv 7) Ab))) Af) Af (Ao _))
    (Ad (AV (BM PySem.F.plainAttrs_list PySem.F.slot_list_append PySem.F.type_list_append AZ (pv 4) (Aa (pv 8) Ab))))
    Al)
   (Ad (AV (BM PySem.F.plainAttrs_list PySem.F.slot_list_append PySem.F.type_list_append AZ (pv 5) (Aa (pv 8) Ab)))))))
  (Ad (Ai (pv 5))))))),?_⟩
 refine⟨_,rfl,Nd,fun fr hfr=>?_⟩
 have s1:=Ag hfr (.lst [v])
 have fr1:upd H fr (.lst [v]) fr=some (.lst [v]):=upd_same
 generalize upd H fr _=H1 at *
 refine⟨Ka,fun fo hfo=>?_⟩
 have s2:=Ag hfo (.lst [])
 have fo2:upd H1 fo (.lst []) fo=some (.lst []):=upd_same
 generalize upd H1 fo _=H2 at *
 have nff:fr≠fo:=Am fr1 hfo
 have t2:=s1.trans s2
 have fo0:H fo=none:=s1.free hfo
 refine⟨_,rfl,_,rfl,_,rfl,a,ns,0,rfl,t2.seq hS,h63,by decide,by decide,fun H3 hn0 s3=>?_⟩
 refine⟨_,_,rfl,rfl,⟨by decide,by decide⟩,a,ns,st,_,rfl,(t2.trans s3).seq hS,h63,h0,h1,fun m hm0 hm2=>?_⟩
 have t3:=t2.trans s3
 have fr3:=s3 _ _ (s2 _ _ fr1)
 have fo3:=s3 _ _ fo2
 refine Ix (fun σ H4=>∃last:Int,0≤last∧last≤200∧σ=[some (.ref a),some (.int st),some (.int (many:Int)),some v,some (.ref fr),some (.ref fo),some (.int last),none,none]∧Same H3 H4) ?_ ?_
 ·rintro σ H4 ⟨last,hl0,hl2,rfl,s4⟩
  have t4:=t3.trans s4
  refine⟨_,rfl,_,rfl,_,_,rfl,⟨by omega,by omega,by omega,by omega⟩,BC (lo:=st) (n:=(last-st).toNat) (fun i σ H5=>∃(v0 v1:Option V) (fs xs:List V) (fts ts:List Tr),σ=[some (.ref a),some (.int st),some (.int (many:Int)),some v,some (.ref fr),some (.ref fo),some (.int last),v0,v1]∧Same H H5∧H5 fr=some (.lst fs)∧FreshAt H5 many fs fts∧fs≠[]∧fs.length≤1+i∧H5 fo=some (.lst xs)∧AskedAt H5 many xs ts∧xs.length=i) ?_ ?_ ?_⟩
  ·exact⟨_,_,[v],[],[t],[],rfl,t4,s4 _ _ fr3,.cons ⟨ha.keep (TS.same t4),hok,hsz⟩ .nil,by simp,by simp,s4 _ _ fo3,.nil,rfl⟩
  ·rintro i σ H5 hi ⟨v0,v1,fs,xs,fts,ts,rfl,s5,fr5,F5,ne5,l5,fo5,A5,x5⟩
   have hi':i<200:=by omega
   have hk1:st+(i:Int)≤1000:=by omega
   refine⟨_,rfl,_,rfl,a,ns,_,rfl,s5.seq hS,h63,by omega,hk1,fun H6 hn6 s6=>?_⟩
   refine⟨_,rfl,_,rfl,_,fr,many,fs,fts,rfl,hn6,hm1,hm5,s6 _ _ fr5,F5.keep (TS.same s6),ne5,by omega,fun v2 t2' H7 s7 ha7 hok7 hsz7 hlt7=>?_⟩
   have u7:=s6.trans s7
   refine Ix (fun σ H9=>∃(fs:List V) (fts:List Tr),σ=[some (.ref a),some (.int st),some (.int (many:Int)),some v,some (.ref fr),some (.ref fo),some (.int last),some (.int (st+(i:Int))),some v2]∧Same H H9∧H9 fr=some (.lst fs)∧FreshAt H9 many fs fts∧fs≠[]∧fs.length≤1+(i+1)∧H9 fo=some (.lst xs)∧AskedAt H9 many xs ts∧t2'.At H9 v2) ?_ ?_
   ·rintro σ H9 ⟨fs9,fts9,rfl,s9,fr9,F9,ne9,l9,fo9,A9,ha9⟩
    refine⟨_,rfl,.inl ⟨rfl,_,SqL.of fo9⟩,_,rfl,fo,_,_,rfl,rfl,fo9,AF (by omega),?_⟩
    have ts9:TS H9 (upd H9 fo (.lst (xs++[v2]))):=TS.lst fo9
    exact⟨_,_,fs9,xs++[v2],fts9,ts++[t2'],rfl,AH s9 fo0 _,by rw[Ax nff];exact fr9,F9.keep ts9,ne9,l9,upd_same,(A9.keep ts9).snoc ⟨ha9.keep ts9,hok7,hsz7⟩,by rw[List.length_append,x5];rfl⟩
   ·intro next
    refine⟨_,rfl,_,rfl,a,ns,_,rfl,(s5.trans u7).seq hS,h63,by omega,hk1,fun H8 hn8 s8=>?_⟩
    refine⟨_,_,rfl,rfl,(by show (0:Int)<6;decide),_,_,rfl,rfl,_,rfl,?_⟩
    have u8:=u7.trans s8
    have fr8:=u8 _ _ fr5
    have fo8:=u8 _ _ fo5
    refine BY (fun c=>?_) (fun c=>?_)
    ·have c':1<Fx ns (st+(i:Int))%6:=of_decide_eq_true c
     refine⟨_,rfl,.inl ⟨rfl,_,SqL.of fr8⟩,_,rfl,fr,_,_,rfl,rfl,fr8,AF (by omega),?_⟩
     have ts9:TS H8 (upd H8 fr (.lst (fs++[v2]))):=TS.lst fr8
     refine next _ _ ⟨fs++[v2],fts++[t2'],rfl,AH (s5.trans u8) hfr _,upd_same,FreshAt.snoc ⟨(ha7.keep (TS.same s8)).keep ts9,hok7,hlt7 c'⟩ ((F5.keep (TS.same u8)).keep ts9),by simp,by rw[List.length_append];show fs.length+1≤_;omega,by rw[Ax nff.symm];exact fo8,(A5.keep (TS.same u8)).keep ts9,(ha7.keep (TS.same s8)).keep ts9⟩
    ·exact next _ _ ⟨fs,fts,rfl,s5.trans u8,fr8,F5.keep (TS.same u8),ne5,by omega,fo8,A5.keep (TS.same u8),ha7.keep (TS.same s8)⟩
  ·rintro σ H5 ⟨v0,v1,fs,xs,fts,ts,rfl,s5,fr5,F5,ne5,l5,fo5,A5,x5⟩
   exact⟨_,rfl,q fo xs ts H5 s5 fo0 fo5 A5 (by omega)⟩
 ·intro next
  refine⟨_,rfl,_,_,rfl,rfl,_,rfl,?_⟩
  refine BY (fun c=>?_) (fun c=>?_)
  ·have c':3<(many:Int):=of_decide_eq_true c
   have two:(many:Int)-4=((0:Nat):Int)∨(many:Int)-4=((1:Nat):Int):=by omega
   have hat:∃y:Int,0≤y∧y≤24∧FV [V.int 24,V.int 16] ((many:Int)-4)=some (.int y):=by
    rcases two with e | e<;>rw[e]
    ·exact⟨24,by decide,by decide,Aj (j:=0) rfl⟩
    ·exact⟨16,by decide,by decide,Aj (j:=1) rfl⟩
   obtain⟨y,hy0,hy1,hat⟩:=hat
   refine⟨_,rfl,_,rfl,DP,fun L hL=>⟨_,rfl,_,_,rfl,rfl,L,_,_,_,rfl,rfl,SqL.of upd_same,hat,_,_,rfl,rfl,_,_,rfl,?_⟩⟩
   refine next _ _ ⟨_,?_,?_,rfl,Ag hL _⟩
   ·split<;>omega
   ·split<;>omega
  ·exact next _ _ ⟨m,hm0,hm2,rfl,Same.refl _⟩
end
@[reducible] def tw (many:Nat) (z rule:Str) (t:Tr) (room:List Int) (es:List (V×Tr×Str)) (bas:List Int) (ls:List (List Int)):Ta:=⟨many,z,rule,t,room,es,bas::ls,false⟩
theorem N9 {many:Nat} {z rule:Str} {t:Tr} {room:List Int} {es:List (V×Tr×Str)} {bas:List Int} {ls:List (List Int)} {v:V} {u:Tr} {w:Str} :
  OR (tw many z rule t room es bas ls) v u w=tw many z rule t room (es++[(v,u,w)]) bas (ls++[Bv w (tw many z rule t room es bas ls).held (AC true u room)]):=rfl
theorem N4 {many:Nat} {z rule:Str} {t:Tr} {room:List Int} {es:List (V×Tr×Str)} {bas:List Int} {ls:List (List Int)} {u:Tr} {seen:List Int} (hg:(tw many z rule t room es bas ls).going.Sublist room) (hs:seen.Sublist room) :
  BA (tw many z rule t room es bas ls) seen u=OA (AK z t room) (tw many z rule t room es bas ls).going seen u:=by
 show (if false=true then _ else By (AK z t room) (tw many z rule t room es bas ls).going seen (AC true u room))=_
 rw[if_neg Bool.false_ne_true,R1 hg hs]
theorem K0 (W:Ta) (v:V) (t:Tr) (z:Str):(OR W v t z).held=Bv z W.held (AC true t W.room):=by
 show (W.lefts++[Bv z W.held (AC true t W.room)]).getLastD []=_
 simp
theorem TalkAt.held_sub {M:List Addr} {C:Addr} {H:Hp} {a:Addr} {U:Tk} {W:Ta} (h:TalkAt M C H a U W):W.held.Sublist W.room:=h.wl _ h.held_in
theorem TalkAt.base_sub {M:List Addr} {C:Addr} {H:Hp} {a:Addr} {U:Tk} {W:Ta} (h:TalkAt M C H a U W):W.base.Sublist W.room:=h.wl _ h.base_in
theorem TalkAt.going_sub {M:List Addr} {C:Addr} {H:Hp} {a:Addr} {U:Tk} {W:Ta} (h:TalkAt M C H a U W):W.going.Sublist W.room:=by
 unfold Ta.going
 split
 ·exact h.held_sub
 ·exact h.base_sub
theorem KK {t:Tr} {H:Hp} {v:V} (h:t.At H v):t.At (Bq [] H) v:=h.keep fun p xs e=>Bi e (by simp)
def Full (M:List Addr) (H:Hp):Prop:=∀m∈M,H m≠none
theorem Full.keep {M:List Addr} {H H':Hp} (s:Same H H') (h:Full M H):Full M H':=fun m hm z=>h m hm (s.free z)
theorem Full.no {M:List Addr} {H:Hp} {l:Addr} (h:Full M H) (hl:H l=none):l∉M:=fun z=>h l z hl
theorem KZ (l:List (List Int)) (g:List Int):(l++[g]).getLastD []=g:=by simp
theorem mem_ins {b:Bool} {t:Tr} {g:List Int} {k:Int}:k∈AC b t g↔k∈g∧tv t k=b:=by
 unfold AC
 rw[List.mem_filter]
 exact⟨fun h=>⟨h.1,eq_of_beq h.2⟩,fun h=>⟨h.1,by rw[h.2];cases b<;>rfl⟩⟩
theorem Cm {many:Nat} {z rule:Str} {t:Tr} {room:List Int} {es:List (V×Tr×Str)} {bas:List Int} {ls:List (List Int)} (c:rule="elder"):(tw many z rule t room es bas ls).going=(tw many z rule t room es bas ls).held:=by
 unfold Ta.going
 rw[if_pos (show (tw many z rule t room es bas ls).rule="elder" from c)]
def HA (g:List Int) (es:List (Tr×Str)):List Int:=es.foldl (fun g e=>Jr e.2 g e.1) g
theorem ME (g:List Int) (es:List (Tr×Str)) (e:Tr×Str):HA g (es++[e])=Jr e.2 (HA g es) e.1:=by
 unfold HA
 rw[List.foldl_append]
 rfl
abbrev Ct:Stmt:=Bu 62
def Ii (K:PySem.W.Frag) (C:Addr):Sp:=fun vs H Q _=>∃(x a rm:Addr) (many:Nat) (z rule:Str) (v:V) (t:Tr) (room bas ns:List Int) (N:List Addr) (U:Tk),vs=[.ref x,.ref a,.int many,.ref rm,v]∧N=x::U.gv::U.lf::[]∧TalkAt N C H x U (tw many z rule t room [] bas [])∧SqL K (Bq N H) a (ns.map V.int)∧ns.length≤63∧1≤many∧many≤5∧AG (Bq N H) rm room∧room≠[]∧t.At (Bq N H) v∧t.ok many∧t.size≤20∧
 ∀(U':Tk) (es:List (V×Tr×Str)) (ls:List (List Int)) (H':Hp),Same (Bq N H) (Bq N H')→TalkAt N C H' x U' (tw many z rule t room es bas ls)→U'.gv=U.gv→U'.lf=U.lf→ls.length=es.length→es.length≤200→(∀e∈es,e.2.1.ok many∧e.2.1.size≤21)→(∀m,m≤es.length→(tw many z rule t room [] bas (ls.take m)).held=HA bas ((es.take m).map fun e=>(e.2.1,e.2.2)))→Q (.ref x) H'
theorem K6 {K:PySem.W.Frag} {N:List Addr} {H:Hp} {a:Addr} {xs:List V} (h:SqL K (Bq N H) a xs):SqL K H a xs:=cut_same.seq h
theorem D4 {x:Addr} {U:Tk} {N:List Addr} {C:Addr} {H:Hp} {U':Tk} {W:Ta} (hN:N=x::U.gv::U.lf::[]) (hT:TalkAt N C H x U' W) (eg:U'.gv=U.gv) (el:U'.lf=U.lf):∀m∈N,∃o,H m=some o∧∀ys,o≠.tup ys:=fun m hm=>by
 have g1:=hT.gv
 have g2:=hT.lf
 rw[eg] at g1
 rw[el] at g2
 rw[hN] at hm
 simp only[List.mem_cons,List.not_mem_nil,or_false] at hm
 rcases hm with rfl | rfl | rfl
 ·exact⟨_,hT.ob,fun ys z=>by cases z⟩
 ·exact⟨_,g1,fun ys z=>by cases z⟩
 ·exact⟨_,g2,fun ys z=>by cases z⟩
theorem L0 {N:List Addr} {H:Hp} (h:∀m∈N,∃o,H m=some o∧∀ys,o≠.tup ys):Full N H:=fun m hm z=>by
 obtain⟨o,e1,_⟩:=h m hm
 rw[z] at e1
 cases e1
theorem Oz {N:List Addr} {H:Hp} (h:∀m∈N,∃o,H m=some o∧∀ys,o≠.tup ys):TS H (Bq N H):=fun p ys e=>Bi e fun hm=>by
 obtain⟨o,e1,e2⟩:=h p hm
 rw[e] at e1
 cases e1
 exact e2 _ rfl
section
variable {P:Program} {w:World} {K:PySem.W.Frag} {mg:Str→Option Value} {base:Heap} {f:Addr} {fd:FuncData} {cK cS cO:Addr}
theorem scLdriven:As ["_law_talk","_law_script","_law_many","_law_room_here","_law_first","_law_place","_law_asked_here"] ["_law_talk","_law_script","_law_many","_law_room_here","_law_first"] (Ae Ct):=⟨rfl,rfl,rfl,by decide +kernel,rfl,by decide +kernel,by decide +kernel⟩
set_option maxHeartbeats 8000000 in
theorem KG {fA fS m9:Addr} {dA dS e9:FuncData} (F:Fun K "_law_driven" "_law_driven" Ct f fd) (TX:Jh K cK) (GA:FnOk P w K mg base AE 3 fA dA ["_law_script","_law_start_here","_law_many","_law_first"] (Lz K)) (CA:AN K mg "_law_asks" fA dA ["_law_script","_law_start_here","_law_many","_law_first"])
  (GS:FnOk P w K mg base AE 4 fS dS ["_law_script","_law_k","_law_room_here"] (HM K)) (CS:AN K mg "_law_seen_at" fS dS ["_law_script","_law_k","_law_room_here"])
  (G9:FnOk P w K mg base (Dt P w) 7 m9 e9 ["self","sentence","seen"] (O6 K cK cS cO)) (C9:BN K cK "say" m9 e9 ["self","sentence","seen"]):FnOk P w K mg base AE 8 f fd ["_law_talk","_law_script","_law_many","_law_room_here","_law_first"] (Ii K cK):=by
 refine F.ok scLdriven (fun vs H Q E h=>?_) (fun cdv A outer s H vs Q E hr h=>?_)
 ·obtain⟨x,a,rm,many,z,rule,v,t,room,bas,ns,N,U,rfl,_⟩:=h
  rfl
 obtain⟨x,a,rm,many,z,rule,v,t,room,bas,ns,N,U0,rfl,hN,T0,hS,h63,hm1,hm5,hrm,hne,ha,hok,hsz',q⟩:=h
 have hr3:Room 3 _:=hr.mono (by decide)
 have hr4:Room 4 _:=hr.mono (by decide)
 have hr7:Room 7 _:=hr.mono (by decide)
 have wroom:Wr room:=T0.wr
 have lroom:=wroom.len
 refine⟨_,Ac (Au (i:=5) scLdriven.nd rfl (Or.inl rfl) Af)
  (Ac (BQ PassesOwn.never rfl (Bn (Ah GA hr3 (by rfl) CA.m CA.k CA.b .nil Aq (Aa (pv 1) (Aa Af (Aa (pv 2) (Aa (pv 4) Ab)))))) (AO (i:=6) scLdriven.nd rfl (Or.inl rfl))
   (Ac (AV (Dh (pv 0) TX.cl C9.m G9 hr7 C9.b .nil DN (Aa (pv 6) (Aa (Ah GS hr4 (by rfl) CS.m CS.k CS.b .nil Aq (Aa (pv 1) (Aa (pv 5) (Aa (pv 3) Ab)))) Ab))))
   (Ad (Au (i:=5) scLdriven.nd rfl (Or.inl rfl) (Ay Bz (pv 5) Af)))))
  (Ad (Ai (pv 0)))),?_⟩
 refine⟨_,rfl,_,rfl,_,rfl,a,ns,8,many,v,t,rfl,(K6 hS),h63,by decide,by decide,hm1,hm5,ha.keep (TS.same cut_same),hok,hsz',fun al axs ats H1 s1 hal0 hal hA hlen=>?_⟩
 have T1:=T0.keep s1
 have f0:=D4 hN T0 rfl rfl
 have alN:al∉N:=(L0 f0).no hal0
 have al1:Bq N H1 al=some (.lst axs):=Bi hal alN
 have hA1:AskedAt (Bq N H1) many axs ats:=AskedAt.keep (Oz (D4 hN T1 rfl rfl)) hA
 have c1:Same (Bq N H) (Bq N H1):=AL s1
 have gvN:U0.gv∈N:=by rw[hN];simp
 have lfN:U0.lf∈N:=by rw[hN];simp
 refine⟨al,rfl,⟨_,SqL.of hal⟩,Bk (K:=K) (a:=al) (xs:=axs) (fun i σ H9=>∃(v1:Option V) (U:Tk) (es:List (V×Tr×Str)) (ls:List (List Int)),σ=[some (.ref x),some (.ref a),some (.int (many:Int)),some (.ref rm),some v,some (.int (8+(i:Nat))),v1]∧
   Same (Bq N H1) (Bq N H9)∧TalkAt N cK H9 x U (tw many z rule t room es bas ls)∧U.gv=U0.gv∧U.lf=U0.lf∧es.length=i∧ls.length=i∧(∀e∈es,e.2.1.ok many∧e.2.1.size≤21)∧(∀m,m≤es.length→(tw many z rule t room [] bas (ls.take m)).held=HA bas ((es.take m).map fun e=>(e.2.1,e.2.2))))
  ⟨_,U0,[],[],rfl,Same.refl _,T1,rfl,rfl,rfl,rfl,fun e he=>by simp at he,fun m hm=>by rw[Nat.le_zero.mp hm];rfl⟩ ?_ ?_ ?_⟩
 ·rintro i σ H9 _ ⟨v1,U,es,ls,rfl,s9,_⟩
  exact SqL.of (cut_same _ _ (s9 _ _ al1))
 ·rintro i y σ H9 hy ⟨v1,U,es,ls,rfl,s9,T9,eg,el,les,lls,hes,hhd⟩
  have hi:i<axs.length:=(List.getElem?_eq_some_iff.mp hy).1
  have full9:=L0 (D4 hN T9 eg el)
  obtain⟨u,hau,hoku,hszu⟩:=AskedAt.get (AskedAt.keep (TS.same s9) hA1) hy
  have oku5:u.ok 5:=Tr.ok.mono hm5 hoku
  have c9:=c1.trans s9
  refine⟨_,rfl,x,_,_,rfl,T9.ob,Nv,_,rfl,_,rfl,_,rfl,_,rfl,a,rm,ns,room,_,rfl,(K6 (c9.seq hS)),h63,by omega,by omega,SqL.of (cut_same _ _ (c9 _ _ hrm)),by omega,hne,fun sn seen H10 s10 hsn0 hsn nsub nne=>?_⟩
  have c10:Same (Bq N H9) (Bq N H10):=AL s10
  refine⟨x,sn,y,N,U,_,u,seen,rfl,T9.keep s10,full9.keep s10,hau.keep (TS.same c10),oku5,by omega,SqL.of hsn,wroom.sub nsub,nne,by show es.length<900;omega,by show ls.length+1<900;omega,fun z=>absurd z Bool.false_ne_true,fun _ hn=>absurd hoku hn,fun _ _ U2 H13 b13 eg2 el2 kk13 T13=>?_⟩
  rw[N9] at T13
  have c13:Same (Bq N H10) (Bq N H13):=But.wide (fun m hm=>by
   simp only[List.mem_cons,List.not_mem_nil,or_false,eg,el] at hm
   rcases hm with rfl | rfl
   ·exact gvN
   ·exact lfN) b13
  refine⟨_,rfl,_,_,rfl,rfl,?_⟩
  refine⟨some y,U2,_,_,?_,s9.trans (c10.trans c13),T13,eg2.trans eg,el2.trans el,by rw[List.length_append,les];rfl,by rw[List.length_append,lls];rfl,fun e he=>?_,?_⟩
  ·show[some (V.ref x),some (.ref a),some (.int (many:Int)),some (.ref rm),some v,some (.int (8+(i:Nat)+1)),some y]=_
   rw[Int.add_assoc]
   rfl
  ·rcases List.mem_append.mp he with q1 | q1
   ·exact hes e q1
   ·rw[List.mem_singleton.mp q1]
    exact⟨hoku,hszu⟩
  ·intro m hm
   rw[List.length_append] at hm
   have hm':m≤es.length+1:=hm
   by_cases c:m≤es.length
   ·rw[List.take_append_of_le_length c,List.take_append_of_le_length (by omega)]
    exact hhd m c
   ·have em:m=es.length+1:=by omega
    rw[List.take_of_length_le (by rw[List.length_append];show ls.length+1≤m;omega),List.take_of_length_le (by rw[List.length_append];show es.length+1≤m;omega)]
    have e1:=K0 (tw many z rule t room es bas ls) y u (BA (tw many z rule t room es bas ls) seen u)
    rw[N9] at e1
    have e0:=hhd es.length (Nat.le_refl _)
    rw[List.take_length,List.take_of_length_le (by omega)] at e0
    rw[List.map_append]
    show (tw many z rule t room (es++[(y,u,BA (tw many z rule t room es bas ls) seen u)]) bas (ls++[Bv (BA (tw many z rule t room es bas ls) seen u) (tw many z rule t room es bas ls).held (AC true u room)])).held=HA bas (es.map (fun e=>(e.2.1,e.2.2))++[(u,BA (tw many z rule t room es bas ls) seen u)])
    rw[e1,ME,←e0]
    exact LV T9.held_sub
 ·rintro σ H9 ⟨v1,U,es,ls,rfl,s9,T9,eg,el,les,lls,hes,hhd⟩
  exact⟨_,rfl,q U es ls H9 (c1.trans s9) T9 eg el (by omega) (by omega) hes hhd⟩
end
abbrev Fp:Stmt:=Bu 63
def Lm (K:PySem.W.Frag):Sp:=fun vs H Q _=>∃(n:Int) (v:V) (t:Tr) (en:Addr) (ps:List V) (es:List (Tr×Str)) (many:Nat),vs=[.int n,v,.ref en,.int many]∧0≤n∧t.At H v∧t.ok many∧t.size≤20∧SqL K H en ps∧PairsAt H ps es∧(∀e∈es,e.1.ok many∧e.1.size≤21)∧1≤many∧many≤5∧
 ∀(v':V) (t':Tr) (H':Hp),Same H H'→t'.At H' v'→t'.ok many→t'.size≤60→Q v' H'
section
variable {P:Program} {w:World} {K:PySem.W.Frag} {mg:Str→Option Value} {base:Heap} {f:Addr} {fd:FuncData}
theorem Pq:As ["_law_n","_law_sentence_here","_law_entries","_law_many"] ["_law_n","_law_sentence_here","_law_entries","_law_many"] (Ae Fp):=⟨rfl,rfl,rfl,by decide +kernel,rfl,by decide +kernel,by decide +kernel⟩
set_option maxHeartbeats 8000000 in
theorem Nh {fS fA:Addr} {dS dA:FuncData} (F:Fun K "_law_goal" "_law_goal" Fp f fd) (B:Bl mg) (GS:FnOk P w K mg base AE 1 fS dS ["_law_n","_law_most","_law_many"] Jd) (CS:AN K mg "_law_sentence" fS dS ["_law_n","_law_most","_law_many"]) (GA:FnOk P w K mg base AE 2 fA dA ["_law_n","_law_fresh","_law_many"] (Gu K)) (CA:AN K mg "_law_asked" fA dA ["_law_n","_law_fresh","_law_many"]):FnOk P w K mg base AE 3 f fd ["_law_n","_law_sentence_here","_law_entries","_law_many"] (Lm K):=by
 refine F.ok Pq (fun vs H Q E h=>?_) (fun cdv A outer s H vs Q E hr h=>?_)
 ·obtain⟨n,v,t,en,ps,es,many,rfl,_⟩:=h
  rfl
 obtain⟨n,v,t,en,ps,es,many,rfl,hn,ha,hok,hsz,hP,hE,hes,hm1,hm5,q⟩:=h
 have hr1:Room 1 _:=hr.mono (by decide)
 have hr2:Room 2 _:=hr.mono (by decide)
 have hpl:=hE.len
 have n5:0≤n / 5:=Int.ediv_nonneg hn (by decide)
 refine⟨_,Ac (AA (DK (Ak AI (Ay AQ (pv 0) Af) Af (Ao _)) (Ch (Ak (Hk hr.units0) (pv 2) (AJ Ab) (Ao _)))).pt
   (Ad (Ai (AB AD (AB AM (pv 2) (Ay AQ (Ay AT (pv 0) Af) (Aw Av (by rfl) B.len PySem.boot_len (Aa (pv 2) Ab))) (fun _ _=>rfl)) Af (fun _ _=>rfl))))
   Al)
  (Ac (AA (Ak AI (Ay AQ (pv 0) Af) Af (Ao _))
   (Ad (Ai (AU (Aa An (Aa (pv 1) (Aa (Ah GS hr1 (by rfl) CS.m CS.k CS.b .nil Aq (Aa (Ay AT (pv 0) Af) (Aa Af (Aa (pv 3) Ab)))) Ab))))))
   Al)
  (Ad (Ai (Ah GA hr2 (by rfl) CA.m CA.k CA.b .nil Aq (Aa (Ay AT (pv 0) Af) (Aa (AJ (Aa (pv 1) Ab)) (Aa (pv 3) Ab))))))),?_⟩
 refine Ld (fun σ H'=>σ=[some (.int n),some v,some (.ref en),some (.int (many:Int))]∧Same H H') ?_ (fun next=>?_)
 rotate_left
 ·refine⟨_,rfl,_,_,rfl,rfl,(by show (0:Int)<5;decide),rfl,_,rfl,?_⟩
  by_cases c:n%5=0
  ·refine Bb (by show V.int (n%5)=V.int 0;rw[c]) ?_
   refine⟨_,rfl,Ka,fun e he=>?_⟩
   have s1:=Ag he (.lst [])
   refine⟨en,e,_,rfl,rfl,s1.seq hP,SqL.of upd_same,_,rfl,?_⟩
   by_cases ce:ps=[]
   ·rw[ce]
    exact AX (next _ _ ⟨rfl,s1⟩)
   ·have hne:(!ps.isEmpty)=true:=by cases ps with
     | nil=>exact absurd rfl ce
     | cons _ _=>rfl
    rw[hne]
    refine Bt ?_
    have hp:0<ps.length:=List.length_pos_iff.mpr ce
    have m0:=Int.emod_nonneg (n / 5) (show (ps.length:Int)≠0 by omega)
    have m1:=Int.emod_lt_of_pos (n / 5) (show (0:Int)<ps.length by omega)
    obtain⟨j,ej⟩:=Int.eq_ofNat_of_zero_le m0
    have hj:j<es.length:=by omega
    obtain⟨x,hx,p,v',rfl,hp',ha'⟩:=hE.get (List.getElem?_eq_getElem hj)
    refine⟨_,rfl,_,rfl,_,_,rfl,rfl,⟨by decide,by decide⟩,_,rfl,en,_,rfl,.inl (s1.seq hP),_,_,rfl,rfl,(by show (0:Int)<((ps.length:Nat):Int);omega),en,_,_,_,rfl,rfl,s1.seq hP,(by show FV ps (n / 5%((ps.length:Nat):Int))=_;rw[ej];exact Aj hx),p,_,_,_,rfl,rfl,SqT.of (s1 _ _ hp'),Aj (j:=0) rfl,?_⟩
    obtain⟨h1,h2⟩:=hes _ (List.getElem_mem hj)
    exact q v' _ _ s1 (ha'.keep (TS.same s1)) h1 (by omega)
  ·refine AY (fun z=>c (by have z:V.int (n%5)=V.int 0:=z;injection z)) ?_
   exact AX (next _ _ ⟨rfl,Same.refl _⟩)
 rintro σ H1 ⟨rfl,s1⟩
 refine⟨_,rfl,_,_,rfl,rfl,(by show (0:Int)<5;decide),rfl,_,rfl,?_⟩
 by_cases c:n%5=1
 ·refine Bb (by show V.int (n%5)=V.int 1;rw[c]) ?_
  refine⟨_,rfl,_,rfl,_,_,rfl,rfl,⟨by decide,by decide⟩,_,rfl,n / 5,6,many,rfl,n5,by decide,by decide,hm1,hm5,fun v' t' H2 s2 ha' hok' hsz'=>?_⟩
  refine⟨IO,fun p hp=>?_⟩
  have s3:=Ag hp (.tup [.str "or",v,v'])
  have t3:=s1.trans (s2.trans s3)
  exact q (.ref p) (.bn 1 t t') _ t3 ⟨p,v,v',rfl,upd_same,ha.keep (TS.same t3),ha'.keep (TS.same s3)⟩ ⟨by decide,hok,hok'⟩ (by show t.size+t'.size+1≤60;omega)
 ·refine AY (fun z=>c (by have z:V.int (n%5)=V.int 1:=z;injection z)) ?_
  refine⟨_,rfl,_,_,rfl,rfl,⟨by decide,by decide⟩,_,rfl,Nd,fun fr hfr=>?_⟩
  have s2:=Ag hfr (.lst [v])
  exact⟨_,rfl,n / 5,fr,many,[v],[t],rfl,n5,hm1,hm5,upd_same,.cons ⟨ha.keep (TS.same (s1.trans s2)),hok,hsz⟩ .nil,by simp,by show 1≤900;decide,fun v' t' H' s' ha' hok' hsz' _=>q v' t' H' (s1.trans (s2.trans s')) ha' hok' (by omega)⟩
end
abbrev FG:Stmt:=Bu 43
def EC (W:Ta) (seen:List Int) (t:Tr):List Int:=AC false t (Ir W.held seen)
def FM (K:PySem.W.Frag) (H0 H:Hp) (W:Ta) (seen:List Int) (v:V) (t:Tr) (ws:List V):Prop:=
 (BA W seen t="grant"→∃l,ws=[.str "row",.ref l]∧H l=some (.lst [v])∧H0 l=none)∧
 (BA W seen t≠"grant"→W.rule="newer"→ws=[.str "never",.str "fixed",.str (BA W seen t)])∧
 (BA W seen t≠"grant"→W.rule≠"newer"→∀i,BZ W.sides (AC true t W.held)=some i→ws=[.str "never",.str "side",.int (i:Nat)])∧
 (BA W seen t≠"grant"→W.rule≠"newer"→BZ W.sides (AC true t W.held)=none→∀k r,EC W seen t=k::r→ws=[.str "never",.str "kept",.int k])∧
 (BA W seen t≠"grant"→W.rule≠"newer"→BZ W.sides (AC true t W.held)=none→EC W seen t=[]→∃l v' t',ws=[.str "row",.ref l]∧H l=some (.lst [v',v])∧t'.AtK K H v'∧La W.many 12 283 t'∧(∀w:Int,0≤w→w<2^W.many→(tv t' w=true↔w∈AC true t W.room∨w∈seen))∧H0 l=none)
theorem Kr {sides:List (List Int)} {going seen row:List Int} (h:By sides going seen row≠"grant"):Ei going row≠[]:=fun e=>h (by
 unfold By
 rw[if_pos e])
def Lw (K:PySem.W.Frag) (C cO cS:Addr):Sp:=fun vs H Q E=>∃(a sn:Addr) (v:V) (M:List Addr) (U:Tk) (W:Ta) (t:Tr) (seen:List Int),vs=[.ref a,v,.ref sn]∧TalkAt M C H a U W∧W.ended=false∧1≤W.many∧W.many≤5∧t.At H v∧t.ok 5∧t.ok W.many∧t.size≤60∧AG H sn seen∧seen.Sublist W.room∧seen≠[]∧
 ∀(p:Addr) (ws:List V) (H':Hp),Same H H'→H' p=some (.tup ws)→FM K H H' W seen v t ws→Q (.ref p) H'
section
variable {P:Program} {w:World} {K:PySem.W.Frag} {mg:Str→Option Value} {base:Heap} {f:Addr} {fd:FuncData} {cK cS cO:Addr}
theorem scWayTo:As ["talk","goal","seen","due","inside","side","kept"] ["talk","goal","seen"] (Ae FG):=⟨rfl,rfl,rfl,by decide +kernel,rfl,by decide +kernel,by decide +kernel⟩
set_option maxHeartbeats 16000000 in
theorem Nm {g1 g2 g3 g4 g5 g6 g7 m1 m2 m3 m8:Addr} {d1 d2 d3 d4 d5 d6 d7 e1 e2 e3 e8:FuncData} (F:Fun K "way_to" "way_to" FG f fd) (TX:Jh K cK) (GO:FnOk P w K mg base (Dt P w) 2 g1 d1 ["talk"] (FI cK cO)) (CO:AN K mg "refuse_over" g1 d1 ["talk"])
  (GW:FnOk P w K mg base AE 3 g2 d2 ["sentence","room"] (Cl K)) (CW:AN K mg "worlds_of" g2 d2 ["sentence","room"]) (GM:FnOk P w K mg base AE 3 g3 d3 ["sides","worlds"] (GQ K)) (CM:AN K mg "missed_side" g3 d3 ["sides","worlds"]) (GB:FnOk P w K mg base AE 1 g4 d4 ["one","other"] (IS K)) (CB:AN K mg "in_both" g4 d4 ["one","other"]) (GF:FnOk P w K mg base AE 1 g5 d5 ["one","other"] (EQ K)) (CF:AN K mg "in_first_only" g5 d5 ["one","other"])
  (GY:FnOk P w K mg base AE 1 g6 d6 ["rows"] (Jv K)) (CY:AN K mg "in_any" g6 d6 ["rows"]) (GS:FnOk P w K mg base AE 3 g7 d7 ["worlds","many"] (EI K)) (CS:AN K mg "sentence_of" g7 d7 ["worlds","many"])
  (G1:FnOk P w K mg base AE 1 m1 e1 ["self"] (Lo cK)) (C1:BN K cK "room" m1 e1 ["self"]) (G2:FnOk P w K mg base AE 1 m2 e2 ["self"] (JI cK)) (C2:BN K cK "sides" m2 e2 ["self"]) (G3:FnOk P w K mg base AE 1 m3 e3 ["self"] (IA cK)) (C3:BN K cK "held" m3 e3 ["self"])
  (G8:FnOk P w K mg base (Dt P w) 6 m8 e8 ["self","sentence","seen"] (Hg K cK cS)) (C8:BN K cK "ask" m8 e8 ["self","sentence","seen"]):FnOk P w K mg base (Dt P w) 7 f fd ["talk","goal","seen"] (Lw K cK cO cS):=by
 refine Fun.okX F scWayTo (fun vs H Q E h=>?_) (fun cdv A outer s H vs Q E hr h=>?_)
 ·obtain⟨a,sn,v,M,U,W,t,seen,rfl,_⟩:=h
  rfl
 obtain⟨a,sn,v,M,U,W,t,seen,rfl,hT,hend,h1m,hm5,ha,ok5,okm,hsz,hN,nsub,nne,q⟩:=h
 have hr1:Room 1 _:=hr.mono (by decide)
 have hr2:Room 2 _:=hr.mono (by decide)
 have hr3:Room 3 _:=hr.mono (by decide)
 have hr6:Room 6 _:=hr.mono (by decide)
 have wr:=hT.wr
 have lroom:=wr.len
 have wN:=wr.sub nsub
 have ln:=wN.len
 refine⟨_,Ac (AV (Ah GO hr2 (by rfl) CO.m CO.k CO.b .nil (BF (E1:=E) fun _ _ _ h=>h) (Aa (pv 0) Ab)))
  (Ac (Au (i:=3) scWayTo.nd rfl (Or.inl rfl) (Dh (pv 0) TX.cl C8.m G8 hr6 C8.b .nil (BF (E1:=E) fun _ _ _ h=>h) (Aa (pv 1) (Aa (pv 2) Ab))))
  (Ac (AA (Ak AI (pv 3) An (Ao _))
   (Ad (Ai (AU (Aa An (Aa (AJ (Aa (pv 1) Ab)) Ab)))))
   Al)
  (Ac (AA (Ak AI (A1 (pv 0) rfl) An (Ao _))
   (Ad (Ai (AU (Aa An (Aa An (Aa (pv 3) Ab))))))
   Al)
  (Ac (Au (i:=4) scWayTo.nd rfl (Or.inl rfl) (Ah GW hr3 (by rfl) CW.m CW.k CW.b .nil Aq (Aa (pv 1) (Aa (Bf (pv 0) TX.cl C1.m G1 hr1 C1.b .nil Aq) Ab))))
  (Ac (Au (i:=5) scWayTo.nd rfl (Or.inl rfl) (Ah GM hr3 (by rfl) CM.m CM.k CM.b .nil Aq (Aa (Bf (pv 0) TX.cl C2.m G2 hr1 C2.b .nil Aq) (Aa (Ah GB hr1 (by rfl) CB.m CB.k CB.b .nil Aq (Aa (Bf (pv 0) TX.cl C3.m G3 hr1 C3.b .nil Aq) (Aa (pv 4) Ab))) Ab))))
  (Ac (AA (IK (Qm (pv 5)))
   (Ad (Ai (AU (Aa An (Aa An (Aa (pv 5) Ab))))))
   Al)
  (Ac (Au (i:=6) scWayTo.nd rfl (Or.inl rfl) (Ah GF hr1 (by rfl) CF.m CF.k CF.b .nil Aq (Aa (Ah GB hr1 (by rfl) CB.m CB.k CB.b .nil Aq (Aa (Bf (pv 0) TX.cl C3.m G3 hr1 C3.b .nil Aq) (Aa (pv 2) Ab))) (Aa (pv 4) Ab))))
  (Ac (AA (Ev (pv 6) (fun _=>rfl))
   (Ad (Ai (AU (Aa An (Aa An (Aa (AB AM (pv 6) Af (fun _ _=>rfl)) Ab))))))
   Al)
  (Ad (Ai (AU (Aa An (Aa (AJ (Aa (Ah GS hr3 (by rfl) CS.m CS.k CS.b .nil Aq (Aa (Ah GY hr1 (by rfl) CY.m CY.k CY.b .nil Aq (Aa (AJ (Aa (pv 4) (Aa (pv 2) Ab))) Ab)) (Aa (A1 (pv 0) rfl) Ab))) (Aa (pv 1) Ab))) Ab))))))))))))),?_⟩
 refine⟨_,rfl,a,M,U,W,rfl,hT,fun z=>absurd z (by rw[hend];decide),fun _=>?_⟩
 refine⟨_,rfl,a,_,_,rfl,hT.ob,Hm,_,rfl,_,rfl,a,sn,v,M,U,W,t,seen,rfl,hT,ha,ok5,hsz,SqL.of hN,wN,nne,fun hn=>absurd okm hn,fun _ H1 s1=>?_⟩
 generalize hdue:BA W seen t=due at *
 refine⟨_,rfl,rfl,_,rfl,?_⟩
 by_cases c:due="grant"
 ·refine Bb (by rw[c]) ?_
  refine⟨_,rfl,Nd,fun l hl=>?_⟩
  have s2:=Ag hl (.lst [v])
  refine⟨DP,fun p hp=>?_⟩
  have s3:=Ag hp (.tup [.str "row",.ref l])
  refine q p _ _ (s1.trans (s2.trans s3)) upd_same ?_
  unfold FM
  rw[hdue]
  exact⟨fun _=>⟨l,rfl,s3 _ _ upd_same,s1.free hl⟩,fun h=>absurd c h,fun h=>absurd c h,fun h=>absurd c h,fun h=>absurd c h⟩
 refine AY (fun z=>c (by injection z)) ?_
 have T1:=hT.keep s1
 refine⟨_,rfl,a,cK,_,_,_,rfl,T1.ob,TX.cl,TX.rule,IW,rfl,_,rfl,?_⟩
 by_cases c2:W.rule="newer"
 ·refine Bb (by rw[c2]) ?_
  refine⟨_,rfl,IO,fun p hp=>?_⟩
  refine q p _ _ (s1.trans (Ag hp _)) upd_same ?_
  unfold FM
  rw[hdue]
  exact⟨fun h=>absurd h c,fun _ _=>rfl,fun _ h=>absurd c2 h,fun _ h=>absurd c2 h,fun _ h=>absurd c2 h⟩
 refine AY (fun z=>c2 (by injection z)) ?_
 refine⟨_,rfl,_,rfl,a,_,_,rfl,T1.ob,QH,a,M,U,W,rfl,T1,fun rm H2 s2 rm0 hrm=>?_⟩
 have t2:=s1.trans s2
 refine⟨v,t,rm,W.room,rfl,ha.keep (TS.same t2),ok5,by omega,SqL.of hrm,wr,fun il H3 s3 il0 hil=>?_⟩
 have hil:AG H3 il (AC true t W.room):=hil
 have wil:Wr (AC true t W.room):=EY wr
 have lil:=wil.len
 have t3:=t2.trans s3
 have T3:=hT.keep t3
 refine⟨_,rfl,a,_,_,rfl,T3.ob,NR,a,M,U,W,rfl,T3,fun sl xs4 H4 s4 sl0 hsl rn4 _=>?_⟩
 have T4:=T3.keep s4
 have hsub:=hT.held_sub
 have wh:=wr.sub hsub
 have lh:=wh.len
 refine⟨_,rfl,a,_,_,rfl,T4.ob,EL,a,M,U,W,rfl,T4,fun hl H5 s5 hl0 hhl=>?_⟩
 refine⟨_,rfl,hl,il,W.held,_,rfl,SqL.of hhl,SqL.of ((s4.trans s5) _ _ hil),by omega,by omega,fun gi H6 ns s6 gi0 hup hmem hgi=>?_⟩
 have ens:ns=AC true t W.held:=(KY wh hup hmem).trans (Kc hsub)
 rw[ens] at hgi
 have sw:∀s∈W.sides,s.length<64:=fun s hs=>by
  have:=(wr.sub (FE hs)).len
  omega
 have lgi:=(EY (b:=true) (t:=t) wh).len
 refine⟨sl,gi,_,xs4,W.sides,rfl,SqL.of hgi,by omega,(s5.trans s6) _ _ hsl,(rn4.at).keep (s5.trans s6),sw,hT.s9,fun H7 s7=>?_⟩
 have s37:=s4.trans (s5.trans (s6.trans s7))
 have t7:=t3.trans s37
 refine⟨_,rfl,_,rfl,?_⟩
 cases hm:BZ W.sides (AC true t W.held) with
 | some i=>
  refine Bt ?_
  refine⟨_,rfl,IO,fun p hp=>?_⟩
  refine q p _ _ (t7.trans (Ag hp _)) upd_same ?_
  unfold FM
  rw[hdue]
  exact⟨fun h=>absurd h c,fun _ h=>absurd h c2,fun _ _ i' h=>(by rw[hm] at h;cases h;rfl),fun _ _ h=>(by rw[hm] at h;cases h),fun _ _ h=>(by rw[hm] at h;cases h)⟩
 | none=>
  refine AX ?_
  have T7:=hT.keep t7
  refine⟨_,rfl,a,_,_,rfl,T7.ob,EL,a,M,U,W,rfl,T7,fun h2 H8 s8 h20 hh2=>?_⟩
  have t8:=t7.trans s8
  refine⟨_,rfl,h2,sn,W.held,seen,rfl,SqL.of hh2,SqL.of (t8 _ _ hN),by omega,by omega,fun g2 H9 ns2 s9 g20 hup2 hmem2 hg2=>?_⟩
  have ens2:ns2=Ir W.held seen:=KY wh hup2 hmem2
  rw[ens2] at hg2
  have isub:(Ir W.held seen).Sublist W.room:=(List.filter_sublist (l:=W.held)).trans hsub
  have wi:=wr.sub isub
  have s39:=s37.trans (s8.trans s9)
  refine⟨_,rfl,g2,il,_,_,rfl,SqL.of hg2,SqL.of (s39 _ _ hil),wi.len,wi.2,by omega,fun kl H10 ns3 s10 kl0 hup3 hmem3 hkl=>?_⟩
  have ens3:ns3=EC W seen t:=(K7 wi hup3 hmem3).trans (Iz isub)
  rw[ens3] at hkl
  have t10:=t8.trans (s9.trans s10)
  refine⟨_,rfl,_,.inl ⟨_,SqL.of hkl,rfl⟩,?_⟩
  cases hk:EC W seen t with
  | cons k r=>
   rw[hk] at hkl
   refine Bt ?_
   refine⟨_,rfl,kl,_,_,_,rfl,rfl,SqL.of hkl,Aj (j:=0) rfl,IO,fun p hp=>?_⟩
   refine q p _ _ (t10.trans (Ag hp _)) upd_same ?_
   unfold FM
   rw[hdue]
   exact⟨fun h=>absurd h c,fun _ h=>absurd h c2,fun _ _ i' h=>(by rw[hm] at h;cases h),fun _ _ _ k' r' h=>(by rw[hk] at h;cases h;rfl),fun _ _ _ h=>(by rw[hk] at h;cases h)⟩
  | nil=>
   refine AX ?_
   have gout:=Kr (show By W.sides W.going seen (AC true t W.room)≠"grant" from fun e=>c (by rw[←hdue];unfold BA;rw[if_neg (by rw[hend];decide)];exact e))
   obtain⟨k0,hk0⟩:=List.exists_mem_of_ne_nil _ gout
   obtain⟨hk1,hk2⟩:=List.mem_filter.mp hk0
   have hk2:k0∉AC true t W.room:=by simpa using hk2
   have lil2:(AC true t W.room).length<W.room.length:=by
    rcases Nat.lt_or_ge (AC true t W.room).length W.room.length with h | h
    ·exact h
    ·have e:=(List.filter_sublist (p:=fun k=>tv t k == true) (l:=W.room)).eq_of_length_le h
     exact absurd (show k0∈AC true t W.room by unfold AC;rw[e];exact hT.going_sub.subset hk1) hk2
   refine⟨_,rfl,_,rfl,DP,fun rl hrl=>?_⟩
   have s11:=Ag hrl (.lst [.ref il,.ref sn])
   have rl11:upd H10 rl (.lst [.ref il,.ref sn]) rl=some (.lst [.ref il,.ref sn]):=upd_same
   generalize upd H10 rl _=H11 at *
   have t11:=t10.trans s11
   have hil11:AG H11 il (AC true t W.room):=(s39.trans (s10.trans s11)) _ _ hil
   refine⟨rl,_,[AC true t W.room,seen],rfl,SqL.of rl11,.cons ⟨il,rfl,hil11⟩ (.cons ⟨sn,rfl,t11 _ _ hN⟩ .nil),?_,fun ul H12 us s12 ul0 uup umem hul=>?_⟩
   ·show (AC true t W.room).length+(seen.length+0)<64
    omega
   have t12:=t11.trans s12
   have T12:=hT.keep t12
   refine⟨_,rfl,a,cK,_,_,_,rfl,T12.ob,TX.cl,TX.many,Iu,ul,us,W.many,rfl,SqL.of hul,h1m,hm5,fun v' t' H13 s13 ha' hfit htv=>?_⟩
   refine⟨_,rfl,DP,fun l hl=>?_⟩
   have s14:=Ag hl (.lst [v',v])
   have l14:upd H13 l (.lst [v',v]) l=some (.lst [v',v]):=upd_same
   generalize upd H13 l _=H14 at *
   refine⟨DP,fun p hp=>?_⟩
   have s15:=Ag hp (.tup [.str "row",.ref l])
   refine q p _ _ (t12.trans (s13.trans (s14.trans s15))) upd_same ?_
   unfold FM
   rw[hdue]
   refine⟨fun h=>absurd h c,fun _ h=>absurd h c2,fun _ _ i' h=>(by rw[hm] at h;cases h),fun _ _ _ k' r' h=>(by rw[hk] at h;cases h),fun _ _ _ _=>⟨l,v',t',rfl,s15 _ _ l14,ha'.same (s14.trans s15),hfit,fun w h0 h1=>?_,(t12.trans s13).free hl⟩⟩
   rw[htv w h0 h1,decide_eq_true_eq,umem]
   simp only[List.mem_cons,List.not_mem_nil,or_false,exists_eq_or_imp,exists_eq_left]
end
abbrev Ep:Stmt:=Bu 65
abbrev Ed:Stmt:=Bu 67
def Fc (K:PySem.W.Frag) (n:Nat):Sp:=fun vs H Q _=>∃(v:V) (t:Tr) (m:Nat) (d:Int),vs=[v,.int (m:Int),.int d]∧t.AtK K H v∧t.ok m∧t.hgt<n∧(t.hgt:Int)≤d∧∀(H':Hp),Same H H'→Q (.bl true) H'
def LZ (K:PySem.W.Frag):Sp:=fun vs H Q _=>∃(v:V) (t:Tr),vs=[v]∧t.AtK K H v∧t.size≤900∧∀(H':Hp),Same H H'→Q (.bl true) H'
section
variable {P:Program} {w:World} {K:PySem.W.Frag} {mg:Str→Option Value} {base:Heap} {f:Addr} {fd:FuncData}
theorem QR:As ["_law_found","_law_many","_law_deep"] ["_law_found","_law_many","_law_deep"] (Ae Ep):=⟨rfl,rfl,rfl,by decide +kernel,rfl,by decide +kernel,by decide +kernel⟩
theorem SA {j:Nat} (h:j<4):LK (.str (jn j)) joints=true:=by
 match j,h with
 | 0,_=>decide
 | 1,_=>decide
 | 2,_=>decide
 | 3,_=>decide
set_option maxHeartbeats 8000000 in
theorem Nw {n:Nat} {g:Addr} {gd:FuncData} (F:Fun K "_law_good" "_law_good" Ep f fd) (T:Fq mg) (B:Bl mg) (GW:FnOk P w K mg base AE 1 g gd ["_law_found"] Ew) (CW:AN K mg "_law_whole" g gd ["_law_found"]) (G:FnOk P w K mg base AE (n+1) f fd ["_law_found","_law_many","_law_deep"] (Fc K n)) (C:AN K mg "_law_good" f fd ["_law_found","_law_many","_law_deep"]):FnOk P w K mg base AE (n+2) f fd ["_law_found","_law_many","_law_deep"] (Fc K (n+1)):=by
 refine F.ok QR (fun vs H Q E h=>?_) (fun cdv A outer s H vs Q E hr h=>?_)
 ·obtain⟨v,t,m,d,rfl,_⟩:=h
  rfl
 obtain⟨v,t,m,d,rfl,ha,hok,hs,hd,q⟩:=h
 have hrW:Room 1 _:=hr.mono (by omega)
 refine⟨_,Ac (AA (BK (Ak FP (pv 2) Af (Ao _)) (BK (Be (A3 (Aw EZ (by rfl) T.isi boot_isinstance (Aa (pv 0) (Aa (Bm (v:=.ty "tuple") (by rfl) T.tup B9 rfl) Ab))))) (BK (Ak FP (Aw Av (by rfl) B.len PySem.boot_len (Aa (pv 0) Ab)) Af (Ao _)) (BO (Be (A3 (Aw EZ (by rfl) T.isi boot_isinstance (Aa (AB AD (pv 0) Af (fun _ _=>rfl)) (Aa (Bm (v:=.ty "str") (by rfl) T.str boot_str rfl) Ab))))))))).pt
   (Ad (Ai Bw))
   Al)
  (Ac (AA (Ak AI (AB AD (pv 0) Af (fun _ _=>rfl)) An (Ao _))
   (Ad (Ai (Cd (Bs AI (Aw Av (by rfl) B.len PySem.boot_len (Aa (pv 0) Ab)) Af (Ao _)) (Cd (Ah GW hrW (by rfl) CW.m CW.k CW.b .nil Aq (Aa (AB AD (pv 0) Af (fun _ _=>rfl)) Ab)) (BJ (OX SL FP Af (AB AD (pv 0) Af (fun _ _=>rfl)) (pv 1)))))))
   Al)
  (Ac (AA (Ak AI (AB AD (pv 0) Af (fun _ _=>rfl)) An (Ao _))
   (Ad (Ai (Cd (Bs AI (Aw Av (by rfl) B.len PySem.boot_len (Aa (pv 0) Ab)) Af (Ao _)) (BJ (Ah G hr (by rfl) C.m C.k C.b .nil Aq (Aa (AB AD (pv 0) Af (fun _ _=>rfl)) (Aa (pv 1) (Aa (Ay DL (pv 2) Af) Ab))))))))
   Al)
  (Ac (AA (BK (Ak BH (AB AD (pv 0) Af (fun _ _=>rfl)) (AJ (Aa An (Aa An (Aa An (Aa An Ab))))) (by with_unfolding_all rfl)) (BO (Ak Hs (Aw Av (by rfl) B.len PySem.boot_len (Aa (pv 0) Ab)) Af (Ao _)))).pt
   (Ad (Ai Bw))
   Al)
  (Ad (Ai (Cd (Ah G hr (by rfl) C.m C.k C.b .nil Aq (Aa (AB AD (pv 0) Af (fun _ _=>rfl)) (Aa (pv 1) (Aa (Ay DL (pv 2) Af) Ab)))) (BJ (Ah G hr (by rfl) C.m C.k C.b .nil Aq (Aa (AB AD (pv 0) Af (fun _ _=>rfl)) (Aa (pv 1) (Aa (Ay DL (pv 2) Af) Ab))))))))))),?_⟩
 have hd0:¬d<0:=by omega
 cases t with
 | lt k=>
  obtain⟨p,rfl,hp⟩:=ha
  have hk:k<m:=hok
  refine⟨_,rfl,_,_,rfl,rfl,_,rfl,?_⟩
  refine AY hd0 ?_
  refine⟨_,rfl,_,_,_,_,rfl,.tup hp,A4 _ _,_,rfl,?_⟩
  refine AX ?_
  refine⟨_,rfl,p,_,rfl,.inr hp.sq,_,_,rfl,rfl,_,rfl,?_⟩
  refine AY (by show ¬((2:Nat):Int)<2;decide) ?_
  refine⟨_,rfl,p,_,_,_,rfl,rfl,hp.sq,Aj (j:=0) rfl,_,_,_,_,rfl,.of (.str _),A4 _ _,_,rfl,?_⟩
  refine AX ?_
  refine⟨_,rfl,p,_,_,_,rfl,rfl,hp.sq,Aj (j:=0) rfl,rfl,_,rfl,?_⟩
  refine Bb rfl ?_
  refine⟨_,rfl,p,_,rfl,.inr hp.sq,rfl,_,rfl,Bt ?_⟩
  refine⟨_,rfl,p,_,_,_,rfl,rfl,hp.sq,Aj (j:=1) rfl,_,rfl,_,rfl,Bt ?_⟩
  refine⟨_,rfl,p,_,_,_,rfl,rfl,hp.sq,Aj (j:=1) rfl,_,_,rfl,rfl,_,rfl,?_⟩
  refine Bb (by omega) ?_
  refine⟨_,rfl,_,_,rfl,rfl,?_⟩
  have:=q H (Same.refl _)
  rw[←show decide ((k:Int)<(m:Int))=true from decide_eq_true (by omega)] at this
  exact this
 | nt t=>
  obtain⟨p,u,rfl,hp,hu⟩:=ha
  have hs':t.hgt+1<n+1:=hs
  have hd':((t.hgt+1:Nat):Int)≤d:=hd
  refine⟨_,rfl,_,_,rfl,rfl,_,rfl,?_⟩
  refine AY hd0 ?_
  refine⟨_,rfl,_,_,_,_,rfl,.tup hp,A4 _ _,_,rfl,?_⟩
  refine AX ?_
  refine⟨_,rfl,p,_,rfl,.inr hp.sq,_,_,rfl,rfl,_,rfl,?_⟩
  refine AY (by show ¬((2:Nat):Int)<2;decide) ?_
  refine⟨_,rfl,p,_,_,_,rfl,rfl,hp.sq,Aj (j:=0) rfl,_,_,_,_,rfl,.of (.str _),A4 _ _,_,rfl,?_⟩
  refine AX ?_
  refine⟨_,rfl,p,_,_,_,rfl,rfl,hp.sq,Aj (j:=0) rfl,rfl,_,rfl,?_⟩
  refine AY (by decide) ?_
  refine⟨_,rfl,p,_,_,_,rfl,rfl,hp.sq,Aj (j:=0) rfl,rfl,_,rfl,?_⟩
  refine Bb rfl ?_
  refine⟨_,rfl,p,_,rfl,.inr hp.sq,rfl,_,rfl,Bt ?_⟩
  exact⟨_,rfl,p,_,_,_,rfl,rfl,hp.sq,Aj (j:=1) rfl,_,rfl,_,rfl,_,_,rfl,rfl,u,t,m,d-1,rfl,hu,hok,by omega,by omega,fun H' s'=>q H' s'⟩
 | bn j a b=>
  obtain⟨p,x,y,rfl,hp,hx,hy⟩:=ha
  have hs':max a.hgt b.hgt+1<n+1:=hs
  have hd':((max a.hgt b.hgt+1:Nat):Int)≤d:=hd
  obtain⟨hj,oa,ob⟩:=hok
  refine⟨_,rfl,_,_,rfl,rfl,_,rfl,?_⟩
  refine AY hd0 ?_
  refine⟨_,rfl,_,_,_,_,rfl,.tup hp,A4 _ _,_,rfl,?_⟩
  refine AX ?_
  refine⟨_,rfl,p,_,rfl,.inr hp.sq,_,_,rfl,rfl,_,rfl,?_⟩
  refine AY (by show ¬((3:Nat):Int)<2;decide) ?_
  refine⟨_,rfl,p,_,_,_,rfl,rfl,hp.sq,Aj (j:=0) rfl,_,_,_,_,rfl,.of (.str _),A4 _ _,_,rfl,?_⟩
  refine AX ?_
  refine⟨_,rfl,p,_,_,_,rfl,rfl,hp.sq,Aj (j:=0) rfl,rfl,_,rfl,?_⟩
  refine AY Fr ?_
  refine⟨_,rfl,p,_,_,_,rfl,rfl,hp.sq,Aj (j:=0) rfl,rfl,_,rfl,?_⟩
  refine AY Kv ?_
  refine⟨_,rfl,p,_,_,_,rfl,rfl,hp.sq,Aj (j:=0) rfl,Tz,fun jl hjl=>?_⟩
  have s1:=Ag hjl (.lst joints)
  have hp1:=hp.same s1
  refine⟨jl,joints,rfl,.inl (SqL.of upd_same),rfl,Jy,_,rfl,?_⟩
  show if (!LK (.str (jn j)) joints)=true then _ else _
  rw[SA hj]
  refine AX ?_
  refine⟨_,rfl,p,_,rfl,.inr hp1.sq,rfl,_,rfl,?_⟩
  refine FS rfl ?_
  refine⟨_,rfl,p,_,_,_,rfl,rfl,hp1.sq,Aj (j:=1) rfl,_,rfl,_,rfl,_,_,rfl,rfl,x,a,m,d-1,rfl,hx.same s1,oa,by omega,by omega,fun H2 s2=>?_⟩
  have s12:=s1.trans s2
  refine⟨_,rfl,Bt ?_⟩
  exact⟨_,rfl,p,_,_,_,rfl,rfl,(hp.same s12).sq,Aj (j:=2) rfl,_,rfl,_,rfl,_,_,rfl,rfl,y,b,m,d-1,rfl,hy.same s12,ob,by omega,by omega,fun H3 s3=>q H3 (s12.trans s3)⟩
theorem Rs {nms:List Str}:FnOk P w K mg base AE 1 f fd nms (Fc K 0):=by
 have no:∀vs H Q E,¬Fc K 0 vs H Q E:=fun vs H Q E h=>by
  obtain⟨v,t,m,d,_,_,_,h1,_⟩:=h
  omega
 exact⟨fun vs H Q E h=>absurd h (no vs H Q E),fun A outer s H args us vs Q E _ _ _ _ h=>absurd h (no vs H Q E)⟩
theorem HH {g:Addr} {gd:FuncData} (F:Fun K "_law_good" "_law_good" Ep f fd) (T:Fq mg) (B:Bl mg) (GW:FnOk P w K mg base AE 1 g gd ["_law_found"] Ew) (CW:AN K mg "_law_whole" g gd ["_law_found"]) (C:AN K mg "_law_good" f fd ["_law_found","_law_many","_law_deep"]):∀n:Nat,FnOk P w K mg base AE (n+1) f fd ["_law_found","_law_many","_law_deep"] (Fc K n)
 | 0=>Rs
 | n+1=>Nw F T B GW CW (HH F T B GW CW C n) C
theorem QU {H:Hp} {t:Tr} {v:V} (h:t.AtK K H v):∃p z cs,v= .ref p∧TupAt K H p (z::cs)∧((En t=[]∧∃k,cs=[.int k])∨(PileK K H cs (En t)∧cs.length≤2)):=by
 cases t with
 | lt k=>
  obtain⟨p,e,hp⟩:=h
  exact⟨p,_,_,e,hp,.inl ⟨rfl,_,rfl⟩⟩
 | nt t=>
  obtain⟨p,u,e,hp,ha⟩:=h
  exact⟨p,_,_,e,hp,.inr ⟨.cons ha .nil,by show 1≤2;decide⟩⟩
 | bn j a b=>
  obtain⟨p,x,y,e,hp,ha,hb⟩:=h
  exact⟨p,_,_,e,hp,.inr ⟨.cons ha (.cons hb .nil),Nat.le_refl _⟩⟩
theorem scLsmall:As ["_law_found","_law_pile","_law_count","_law_one"] ["_law_found"] (Ae Ed):=⟨rfl,rfl,rfl,by decide +kernel,rfl,by decide +kernel,by decide +kernel⟩
def TJ (K:PySem.W.Frag) (H:Hp) (v:V) (z:Nat) (pl:Addr) (n:Nat):L2.St→Hp→Prop:=fun σ H3=>∃(zs:List V) (ws:List Tr) (c:Nat) (ov:Option V),σ=[some v,some (.ref pl),some (.int (c:Int)),ov]∧Same H H3∧H3 pl=some (.lst zs)∧PileK K H3 zs ws∧c+sz ws=z∧n=sz ws
set_option maxHeartbeats 8000000 in
theorem Me (F:Fun K "_law_small" "_law_small" Ed f fd) (T:Fq mg):FnOk P w K mg base AE 1 f fd ["_law_found"] (LZ K):=by
 refine F.ok scLsmall (fun vs H Q E h=>?_) (fun cdv A outer s H vs Q E hr h=>?_)
 ·obtain⟨v,t,rfl,_⟩:=h
  rfl
 obtain⟨v,t,rfl,ha,hs,q⟩:=h
 refine⟨_,Ac (Au (i:=1) scLsmall.nd rfl (Or.inl rfl) (AJ (Aa (pv 0) Ab)))
  (Ac (Au (i:=2) scLsmall.nd rfl (Or.inl rfl) Af)
  (Ac (E2 PassesOwn.never (Ak (Hk hr.units0) (pv 1) (AJ Ab) (Ao _))
   (Ac (Au (i:=3) scLsmall.nd rfl (Or.inl rfl) (B8 PySem.F.plainAttrs_list PySem.F.slot_list_pop PySem.F.type_list_pop Co (pv 1)))
   (Ac (Au (i:=2) scLsmall.nd rfl (Or.inl rfl) (Ay Bz (pv 2) Af))
   (Ac (AA (Ak EH (pv 2) Af (Ao _))
    (Ad (Ai Bw))
    Al)
   (Ad (AA (A3 (Aw EZ (by rfl) T.isi boot_isinstance (Aa (pv 3) (Aa (Bm (v:=.ty "tuple") (by rfl) T.tup B9 rfl) Ab))))
    (Ad (AV (BM PySem.F.plainAttrs_list PySem.F.slot_list_extend PySem.F.type_list_extend HB (pv 1) (Aa (Cc (N:=["_law_part"]) (js:=[none]) (cl:=[]) ⟨rfl,rfl,rfl,List.forall_mem_nil _,rfl,rfl,rfl⟩ (Ow (Jj Ny (pv 3) (LL Af) LO)) (fun c1=>(AO (i:=0) (show (["_law_part"]:List Str).Nodup by decide +kernel) rfl (Or.inl rfl))) (fun c1=>(EJ (A3 (Aw EZ (by rfl) T.isi boot_isinstance (Aa (pv 0) (Aa (Bm (v:=.ty "tuple") (by rfl) T.tup B9 rfl) Ab)))))) (fun c1=>(pv 0))) Ab))))
    Al))))))
  (Ad (Ai Bw)))),?_⟩
 refine⟨_,rfl,Nd,fun pl hpl=>?_⟩
 have s1:=Ag hpl (.lst [v])
 have e1:sz [t]=t.size:=by unfold sz;simp
 refine⟨TJ K H v t.size pl,⟨_,[v],[t],0,none,rfl,s1,upd_same,.cons (ha.same s1) .nil,by omega,rfl⟩,?_⟩
 rintro m σ H3 ⟨zs,ws,c,ov,rfl,s3,h3,p3,hc3,rfl⟩
 refine⟨_,rfl,Ka,fun e he=>?_⟩
 have s4:=Ag he (.lst [])
 have h4:=s4 _ _ h3
 have p4:=p3.keep (TS.same s4)
 have t4:=s3.trans s4
 refine⟨pl,e,zs,rfl,rfl,SqL.of h4,SqL.of upd_same,_,rfl,?_⟩
 generalize upd H3 e (.lst [])=H4 at *
 refine BY (fun cc=>?_) (fun cc=>?_)
 ·refine⟨fun σ' H'=>∃m',m'<sz ws∧TJ K H v t.size pl m' σ' H',fun _ _ h=>h,?_⟩
  have hpos:0<ws.length:=by
   rw[←p4.len]
   cases zs with
   | nil=>exact absurd cc (by decide)
   | cons _ _=>exact Nat.succ_pos _
  obtain⟨zs',y,ws',u,rfl,rfl,q4,a4⟩:=p4.last hpos
  have hsw:=Bx ws' u
  have hku:=KF u
  have lw:=Gr ws'
  have lz:=q4.len
  refine⟨_,rfl,.inl ⟨rfl,_,SqL.of h4⟩,pl,_,y,rfl,rfl,h4,DV _ _,?_⟩
  rw[List.dropLast_concat]
  have k5:HT2.TS H4 (upd H4 pl (.lst zs')):=TS.lst h4
  have t5:Same H (upd H4 pl (.lst zs')):=AH t4 hpl _
  have h5:(upd H4 pl (.lst zs')) pl=some (.lst zs'):=upd_same
  have a5:=a4.keep k5
  have q5:=q4.keep k5
  generalize upd H4 pl (.lst zs')=H5 at *
  refine⟨_,rfl,_,_,rfl,rfl,?_⟩
  refine⟨_,rfl,_,_,rfl,rfl,_,rfl,?_⟩
  refine AY (show ¬(c:Int)+1>2000 by omega) ?_
  obtain⟨p,z,cs,rfl,hp,hk⟩:=QU a5
  refine⟨_,rfl,_,_,_,_,rfl,.tup hp,A4 _ _,_,rfl,?_⟩
  refine Bt ?_
  refine⟨_,rfl,.inl ⟨rfl,_,SqL.of h5⟩,?_⟩
  refine⟨_,rfl,_,rfl,p,_,rfl,hp.sq,J2,fun cu hcu=>?_⟩
  have s6:=Ag hcu (.tup (Ez (z::cs) (some 1) none))
  have hcu6:(upd H5 cu (.tup (Ez (z::cs) (some 1) none))) cu=some (.tup (Ez (z::cs) (some 1) none)):=upd_same
  have h6:=s6 _ _ h5
  have q6:=q5.keep (TS.same s6)
  have t6:=t5.trans s6
  have hk6:(En u=[]∧∃k,cs=[.int k])∨(PileK K (upd H5 cu (.tup (Ez (z::cs) (some 1) none))) cs (En u)∧cs.length≤2):=hk.imp id (fun h=>⟨h.1.keep (TS.same s6),h.2⟩)
  generalize upd H5 cu (.tup (Ez (z::cs) (some 1) none))=H6 at *
  let ys:Nat→List V:=fun j=>if En u=[] then[] else cs.take j
  refine⟨cu,rfl,⟨_,SqT.of hcu6⟩,fun c1 ac hac=>LH (K:=K) (a:=cu) (xs:=Ez (z::cs) (some 1) none) (fun j σ H7=>∃(v0:Option V),σ=[v0]∧Same H6 H7∧H7 ac=some (.lst (ys j))) ⟨_,rfl,Ag hac _,?_⟩ ?_ ?_ ?_⟩
  ·show _=some (HO.lst (if En u=[] then[] else cs.take 0))
   rw[upd_same]
   split<;>rfl
  ·rintro j σ H7 _ ⟨v0,rfl,s7,_⟩
   exact SqT.of (s7 _ _ hcu6)
  ·rintro j x σ H7 hx ⟨v0,rfl,s7,h7⟩
   rw[Pr] at hx
   rcases hk6 with⟨ek,k,rfl⟩|⟨pk,hl2⟩
   ·have ex:x= .int k:=by
     match j,hx with
     | 0,hx=>exact (Option.some.inj hx).symm
    subst ex
    refine⟨_,rfl,_,_,_,_,rfl,.of (.int _),JB _,_,rfl,?_⟩
    refine AX ?_
    refine⟨_,rfl,s7,?_⟩
    show _=some (HO.lst (if En u=[] then[] else _))
    rw[if_pos ek]
    have h7':H7 ac=some (.lst (if En u=[] then[] else _)):=h7
    rw[if_pos ek] at h7'
    exact h7'
   ·obtain⟨t2,ht2,a2⟩:=(pk.keep (TS.same s7)).get hx
    have nk:¬En u=[]:=fun z=>by rw[z] at ht2;simp at ht2
    obtain⟨p2,xs2,rfl,hp2⟩:=a2.isRef
    have hj:j<cs.length:=(List.getElem?_eq_some_iff.mp hx).1
    refine⟨_,rfl,_,_,_,_,rfl,.tup hp2,A4 _ _,_,rfl,?_⟩
    refine Bt ?_
    have h7':H7 ac=some (.lst (if En u=[] then[] else cs.take j)):=h7
    rw[if_neg nk] at h7'
    refine⟨_,rfl,_,h7',AF (by rw[List.length_take];omega),?_⟩
    refine⟨_,rfl,AH s7 hac _,?_⟩
    show _=some (HO.lst (if En u=[] then[] else cs.take (j+1)))
    rw[upd_same,if_neg nk,List.take_add_one,hx]
    rfl
  ·rintro σ H7 ⟨v0,rfl,s7,h7⟩
   rw[Pr] at h7
   have e7:H7 ac=some (.lst (if En u=[] then[] else cs.take cs.length)):=h7
   have pk7:∃ks,H7 ac=some (.lst ks)∧PileK K H7 ks (En u)∧ks.length≤2:=by
    rcases hk6 with⟨ek,k,rfl⟩|⟨pk,hl2⟩
    ·rw[if_pos ek] at e7
     exact⟨[],e7,by rw[ek];exact .nil,Nat.zero_le _⟩
    ·by_cases ek:En u=[]
     ·rw[if_pos ek] at e7
      exact⟨[],e7,by rw[ek];exact .nil,Nat.zero_le _⟩
     ·rw[if_neg ek,List.take_length] at e7
      exact⟨cs,e7,pk.keep (TS.same s7),hl2⟩
   obtain⟨ks,hac7,pk,lk⟩:=pk7
   have h7p:=s7 _ _ h6
   refine⟨pl,ac,zs',ks,rfl,rfl,h7p,hac7,small (by omega),?_⟩
   have k8:HT2.TS H7 (upd H7 pl (.lst (zs'++ks))):=TS.lst h7p
   refine⟨_,?_,zs'++ks,ws'++En u,c+1,_,rfl,AH (t6.trans s7) hpl _,upd_same,((q6.keep (TS.same s7)).app pk).keep k8,?_,rfl⟩
   ·rw[IV];omega
   ·rw[IV];omega
 ·have e:ws=[]:=by
   cases p4 with
   | nil=>rfl
   | cons h1 h2=>exact absurd rfl cc
  exact q _ t4
end
abbrev DZ:Stmt:=Bu 68
def JV (K:PySem.W.Frag):Sp:=fun vs H Q _=>∃(p:Addr) (many:Nat) (ws:List V),vs=[.ref p,.int many]∧H p=some (.tup ws)∧
 (((∃x y z,ws=[x,y,z])∧∀H',Same H H'→Q .non H')∨(∃l xs ts,ws=[.str "row",.ref l]∧H l=some (.lst xs)∧xs.length≤900∧PileK K H xs ts∧(∀t∈ts,t.ok many∧t.hgt≤60∧t.size≤900)∧∀H',Same H H'→Q (.ref l) H'))
theorem Cz {α:Type} (f:α→Bool):∀{l:List α},(∀x∈l,f x=true)→l.all f=true:=fun h=>List.all_eq_true.mpr h
section
variable {P:Program} {w:World} {K:PySem.W.Frag} {mg:Str→Option Value} {base:Heap} {f:Addr} {fd:FuncData}
theorem Oy:As ["_law_found","_law_many"] ["_law_found","_law_many"] (Ae DZ):=⟨rfl,rfl,rfl,by decide +kernel,rfl,by decide +kernel,by decide +kernel⟩
set_option maxHeartbeats 4000000 in
theorem Na {g1 g2 g3:Addr} {d1 d2 d3:FuncData} (F:Fun K "_law_row_of" "_law_row_of" DZ f fd) (T:Fq mg) (B:Bl mg) (GY:FnOk P w K mg base AE 1 g1 d1 ["_law_found","_law_due"] Je) (CY:AN K mg "_law_says" g1 d1 ["_law_found","_law_due"]) (GL:FnOk P w K mg base AE 1 g2 d2 ["_law_found"] (LZ K)) (CL:AN K mg "_law_small" g2 d2 ["_law_found"])
  (GG:FnOk P w K mg base AE 71 g3 d3 ["_law_found","_law_many","_law_deep"] (Fc K 70)) (CG:AN K mg "_law_good" g3 d3 ["_law_found","_law_many","_law_deep"]):FnOk P w K mg base AE 72 f fd ["_law_found","_law_many"] (JV K):=by
 refine F.ok Oy (fun vs H Q E h=>?_) (fun cdv A outer s H vs Q E hr h=>?_)
 ·obtain⟨p,many,ws,rfl,_⟩:=h
  rfl
 obtain⟨p,many,ws,rfl,hp,h⟩:=h
 have hr1:Room 1 _:=hr.mono (by decide)
 have hr71:Room 71 _:=hr.mono (by decide)
 refine⟨_,Ac (AA (BK (Be (A3 (Aw Ba (by rfl) T.isi boot_isinstance (Aa (pv 0) (Aa (Bm (v:=.ty "tuple") (by rfl) T.tup B9 rfl) Ab))))) (BK (Ak Hs (Aw Av (by rfl) B.len PySem.boot_len (Aa (pv 0) Ab)) Af (Ao _)) (BO (Be (A3 (Ah GY hr1 (by rfl) CY.m CY.k CY.b .nil Aq (Aa (AB AD (pv 0) Af (fun _ _=>rfl)) (Aa An Ab)))))))).pt
   (Ad (Ai IL))
   Al)
  (Ac (AA (PW.pt (BK (Be (A3 (Aw Ba (by rfl) T.isi boot_isinstance (Aa (AB AD (pv 0) Af (fun _ _=>rfl)) (Aa (Bm (v:=.ty "list") (by rfl) T.lst A8 rfl) Ab))))) (BO (Be (A3 (Aw (MM rfl) (by rfl) T.all boot_all (Aa (Cc (N:=["_law_one","_law_many"]) (js:=[none,some 1]) (cl:=[("_law_many",s.heap.objs.size+1)]) ⟨rfl,rfl,rfl,(by intro p hp;simp at hp;rcases hp with rfl<;>rfl),rfl,rfl,rfl⟩ (Bn (AB AD (pv 0) Af (fun _ _=>rfl))) (fun c1=>(AO (i:=0) (show (["_law_one","_law_many"]:List Str).Nodup by decide +kernel) rfl (Or.inl rfl))) (fun c1=>Dg) (fun c1=>(Cd (Ah GL hr1 (by rfl) CL.m CL.k CL.b .nil Aq (Aa (pv 0) Ab)) (BJ (Ah GG hr71 (by rfl) CG.m CG.k CG.b .nil Aq (Aa (pv 0) (Aa (pv 1) (Aa Af Ab)))))))) Ab)))))))
   (Ad (Ai IL))
   Al)
  (Ad (Ai (AB AD (pv 0) Af (fun _ _=>rfl))))),?_⟩
 refine⟨_,rfl,_,_,_,_,rfl,.tup hp,A4 _ _,_,rfl,?_⟩
 refine AX ?_
 rcases h with⟨⟨x,y,z,rfl⟩,q⟩|⟨l,xs,ts,rfl,hl,hx9,hP,hok,q⟩
 ·refine⟨_,rfl,p,_,rfl,.inr (SqT.of hp),rfl,_,rfl,?_⟩
  refine Bt ?_
  exact q _ (Same.refl _)
 ·refine⟨_,rfl,p,_,rfl,.inr (SqT.of hp),rfl,_,rfl,?_⟩
  refine AX ?_
  refine⟨_,rfl,p,_,_,_,rfl,rfl,SqT.of hp,Aj (j:=0) rfl,_,rfl,_,rfl,?_⟩
  refine AX ?_
  refine⟨_,rfl,p,_,_,_,rfl,rfl,SqT.of hp,Aj (j:=1) rfl,_,_,_,_,rfl,.lst hl,A4 _ _,_,rfl,?_⟩
  refine AX ?_
  refine⟨_,rfl,p,_,_,_,rfl,rfl,SqT.of hp,Aj (j:=1) rfl,l,rfl,⟨_,SqL.of hl⟩,fun c1 acc hacc=>JK (bs:=xs.map fun _=>true) (rest:=[some (.int (many:Int))]) (SqL.of hl) hacc hx9 (by rw[List.length_map]) (fun i x b hx hb H3 s3 R3 hR3=>?_) (fun v0 H3 s3 h3=>?_) none⟩
  ·obtain⟨t,ht,ha⟩:=PileK.get hP hx
   obtain⟨h1,h2,h3⟩:=hok t (List.mem_of_getElem? ht)
   have eb:b=true:=by
    rw[List.getElem?_map] at hb
    obtain⟨_,_,e⟩:=Option.map_eq_some_iff.mp hb
    exact e.symm
   subst eb
   refine⟨_,rfl,x,t,rfl,ha.same s3,h3,fun H4 s4=>⟨_,rfl,?_⟩⟩
   refine Bt ?_
   exact⟨_,rfl,_,rfl,x,t,many,60,rfl,ha.same (s3.trans s4),h1,by omega,by omega,fun H5 s5=>hR3 H5 (s4.trans s5)⟩
  ·refine⟨acc,_,rfl,SqL.of h3,_,rfl,?_⟩
   have e:(xs.map fun _=>true).all id=true:=by
    rw[List.all_map]
    exact Cz _ fun _ _=>rfl
   rw[e]
   refine AX ?_
   refine⟨_,rfl,p,_,_,_,rfl,rfl,SqT.of (s3 _ _ hp),Aj (j:=1) rfl,q _ s3⟩
end
abbrev Fi:Stmt:=Bu 72
def LP:Sp:=fun vs H Q _=>∃(m:Int) (many:Nat),vs=[.int m,.int 29,.int many]∧0≤m∧1≤many∧many≤5∧∀(v:V) (t:Tr) (H':Hp),Same H H'→t.At H' v→t.ok many→t.size≤60→Q v H'
section
variable {P:Program} {w:World} {K:PySem.W.Frag} {mg:Str→Option Value} {base:Heap} {f:Addr} {fd:FuncData}
theorem scLlong:As ["_law_m","_law_most","_law_many","_law_joints","_law_sentence_here","_law_turns","_law_k","_law_way","_law_letter"] ["_law_m","_law_most","_law_many"] (Ae Fi):=⟨rfl,rfl,rfl,by decide +kernel,rfl,by decide +kernel,by decide +kernel⟩
theorem DM {j:Int} (h0:0≤j) (h4:j<4):FV joints j=some (.str (jn j.toNat)):=by
 obtain⟨n,rfl⟩:=Int.eq_ofNat_of_zero_le h0
 have:n<4:=by omega
 match n,this with
 | 0,_=>rfl
 | 1,_=>rfl
 | 2,_=>rfl
 | 3,_=>rfl
theorem NA {i j:Nat} {n:Int} {σ:L2.St} {H:Hp} {N:L2.St→Hp→Prop} (e:n=(j:Int)) (h:Dq i (.int (j:Int)) σ H N):Dq i (.int n) σ H N:=by
 rw[e]
 exact h
set_option maxHeartbeats 8000000 in
theorem OC (F:Fun K "_law_long" "_law_long" Fi f fd) (B:Bl mg):FnOk P w K mg base AE 1 f fd ["_law_m","_law_most","_law_many"] LP:=by
 refine F.ok scLlong (fun vs H Q E h=>?_) (fun cdv A outer s H vs Q E hr h=>?_)
 ·obtain⟨m,many,rfl,_⟩:=h
  rfl
 obtain⟨m,many,rfl,hm0,h1,h5,q⟩:=h
 refine⟨_,Ac (Au (i:=3) scLlong.nd rfl (Or.inl rfl) (AJ (Aa An (Aa An (Aa An (Aa An Ab))))))
  (Ac (Au (i:=4) scLlong.nd rfl (Or.inl rfl) (AU (Aa An (Aa (Ay AQ (pv 0) (pv 2)) Ab))))
  (Ac (Au (i:=0) scLlong.nd rfl (Or.inl rfl) (Ay AT (pv 0) (pv 2)))
  (Ac (Au (i:=5) scLlong.nd rfl (Or.inl rfl) (Ay AQ (pv 0) (Ay Bz (pv 1) Af)))
  (Ac (Au (i:=0) scLlong.nd rfl (Or.inl rfl) (Ay AT (pv 0) (Ay Bz (pv 1) Af)))
  (Ac (BQ PassesOwn.never rfl (Dd (by rfl) B.range (Aa (pv 5) Ab)) (AO (i:=6) scLlong.nd rfl (Or.inl rfl))
   (Ac (Au (i:=7) scLlong.nd rfl (Or.inl rfl) (Ay AQ (Ay Bz (Ay AQ (pv 0) Af) (pv 6)) Af))
   (Ac (Au (i:=8) scLlong.nd rfl (Or.inl rfl) (AU (Aa An (Aa (Ay AQ (Ay AT (pv 0) Af) (pv 2)) Ab))))
   (Ac (Au (i:=0) scLlong.nd rfl (Or.inl rfl) (Ay AT (Ay AT (pv 0) Af) (pv 2)))
   (Ad (AA (Ak AI (pv 7) Af (Ao _))
    (Ad (Au (i:=4) scLlong.nd rfl (Or.inl rfl) (AU (Aa An (Aa (pv 4) Ab)))))
    (Ad (AA (Ak FP (pv 7) Af (Ao _))
     (Ad (Au (i:=4) scLlong.nd rfl (Or.inl rfl) (AU (Aa (AB AM (pv 3) (Ay DL (pv 7) Af) (fun _ _=>rfl)) (Aa (pv 4) (Aa (pv 8) Ab))))))
     (Ad (Au (i:=4) scLlong.nd rfl (Or.inl rfl) (AU (Aa (AB AM (pv 3) (Ay DL (pv 7) Af) (fun _ _=>rfl)) (Aa (pv 8) (Aa (pv 4) Ab))))))))))))))
  (Ad (Ai (pv 4)))))))),?_⟩
 refine⟨Tz,fun jl hjl=>?_⟩
 have s1:=Ag hjl (.lst joints)
 have hj1:upd H jl (.lst joints) jl=some (.lst joints):=upd_same
 show OT _ _ _ _ (upd H jl (.lst joints))
 generalize upd H jl (.lst joints)=H1 at *
 have letm:∀(n:Int),0≤n→∃k:Nat,n%(many:Int)=(k:Int)∧k<many:=fun n hn=>by
  have e0:=Int.emod_nonneg n (show (many:Int)≠0 by omega)
  have e1:=Int.emod_lt_of_pos n (show (0:Int)<many by omega)
  obtain⟨k,e⟩:=Int.eq_ofNat_of_zero_le e0
  exact⟨k,e,by omega⟩
 refine⟨_,rfl,_,rfl,_,_,rfl,rfl,(by omega),DP,fun p hp=>?_⟩
 have s2:=Ag hp (.tup [.str "let",.int (m%(many:Int))])
 obtain⟨k0,ek0,hk0⟩:=letm m hm0
 have a2:(Tr.lt k0).At (upd H1 p (.tup [.str "let",.int (m%(many:Int))])) (.ref p):=⟨p,rfl,by rw[upd_same,ek0]⟩
 have t2:=s1.trans s2
 have hj2:=s2 _ _ hj1
 have d1:0≤m / (many:Int):=Int.ediv_nonneg hm0 (by omega)
 refine⟨_,rfl,_,rfl,_,_,rfl,rfl,⟨by omega,by omega⟩,?_⟩
 refine⟨_,rfl,_,rfl,_,_,rfl,rfl,_,_,rfl,rfl,(by show (0:Int)<29+1;decide),?_⟩
 have c0:0≤m / (many:Int)%(29+1):=Int.emod_nonneg _ (by decide)
 have c1:m / (many:Int)%(29+1)<29+1:=Int.emod_lt_of_pos _ (by decide)
 have d2:0≤m / (many:Int) / (29+1):=Int.ediv_nonneg d1 (by decide)
 obtain⟨tn,etn⟩:=Int.eq_ofNat_of_zero_le c0
 rw[etn] at c1
 refine NA (i:=5) (j:=tn) etn ?_
 refine⟨_,rfl,_,rfl,_,_,rfl,rfl,_,_,rfl,rfl,⟨by decide,by decide⟩,?_⟩
 refine⟨_,rfl,_,rfl,(by omega),(by omega),BC (n:=tn) (fun i σ Hi=>∃(mi:Int) (v:V) (t:Tr) (v1 v2 v3:Option V),σ=[some (.int mi),some (.int 29),some (.int (many:Int)),some (.ref jl),some v,some (.int (tn:Int)),v1,v2,v3]∧0≤mi∧Same (upd H1 p (.tup [.str "let",.int (m%(many:Int))])) Hi∧t.At Hi v∧t.ok many∧t.size≤1+2*i) ⟨_,_,_,_,_,_,rfl,d2,Same.refl _,a2,hk0,Nat.le_refl _⟩ ?_ ?_⟩
 ·rintro i σ Hi hi ⟨mi,v,t,v1,v2,v3,rfl,hmi,si,hat,hok,hsz⟩
  rw[Int.zero_add]
  have w0:0≤(mi%9+(i:Int))%9:=Int.emod_nonneg _ (by decide)
  have w1:(mi%9+(i:Int))%9<9:=Int.emod_lt_of_pos _ (by decide)
  have e9:0≤mi / 9:=Int.ediv_nonneg hmi (by decide)
  refine⟨_,rfl,_,_,rfl,rfl,(by show (0:Int)<9;decide),_,rfl,_,_,rfl,rfl,_,_,rfl,rfl,(by show (0:Int)<9;decide),?_⟩
  refine⟨_,rfl,_,_,rfl,rfl,⟨by decide,by decide⟩,_,rfl,_,_,rfl,rfl,(by omega),DP,fun p hp=>?_⟩
  obtain⟨k1,ek1,hk1⟩:=letm (mi / 9) e9
  have s3:=Ag hp (.tup [.str "let",.int (mi / 9%(many:Int))])
  have a3:(Tr.lt k1).At (upd Hi p (.tup [.str "let",.int (mi / 9%(many:Int))])) (.ref p):=⟨p,rfl,by rw[upd_same,ek1]⟩
  have hj3:=(si.trans s3) _ _ hj2
  have hat3:=hat.keep (TS.same s3)
  refine⟨_,rfl,_,_,rfl,rfl,⟨by decide,by decide⟩,_,rfl,_,_,rfl,rfl,⟨by omega,by omega⟩,?_⟩
  have e99:0≤mi / 9 / (many:Int):=Int.ediv_nonneg e9 (by omega)
  obtain⟨way,hway⟩:∃way,(mi%9+(i:Int))%9=way:=⟨_,rfl⟩
  rw[hway] at w0 w1
  refine⟨_,rfl,rfl,_,rfl,?_⟩
  by_cases c:way=0
  ·refine Bb (by show V.int ((mi%9+(i:Int))%9)=V.int 0;rw[hway,c]) ?_
   refine⟨_,rfl,DP,fun p2 hp2=>?_⟩
   have s4:=Ag hp2 (.tup [.str "not",v])
   exact⟨_,.ref p2,.nt t,_,_,_,rfl,e99,si.trans (s3.trans s4),⟨p2,v,rfl,upd_same,hat3.keep (TS.same s4)⟩,hok,by show t.size+1≤_;omega⟩
  refine AY (fun z=>c (by have z:V.int ((mi%9+(i:Int))%9)=V.int 0:=z;rw[←hway];injection z)) ?_
  refine⟨_,rfl,_,_,rfl,rfl,_,rfl,?_⟩
  by_cases c5:way<5
  ·refine Bb (show (mi%9+(i:Int))%9<5 by rw[hway];exact c5) ?_
   refine⟨_,rfl,_,rfl,_,_,rfl,rfl,jl,joints,_,_,rfl,rfl,SqL.of hj3,DM (by omega) (by omega),_,rfl,_,rfl,IO,fun p2 hp2=>?_⟩
   have s4:=Ag hp2 (.tup [.str (jn ((mi%9+(i:Int))%9-1).toNat),v,.ref p])
   exact⟨_,.ref p2,.bn ((mi%9+(i:Int))%9-1).toNat t (.lt k1),_,_,_,rfl,e99,si.trans (s3.trans s4),⟨p2,v,.ref p,rfl,upd_same,hat3.keep (TS.same s4),a3.keep (TS.same s4)⟩,⟨by omega,hok,hk1⟩,by show t.size+1+1≤_;omega⟩
  ·refine AY (show ¬(mi%9+(i:Int))%9<5 by rw[hway];exact c5) ?_
   refine⟨_,rfl,_,rfl,_,_,rfl,rfl,jl,joints,_,_,rfl,rfl,SqL.of hj3,DM (by omega) (by omega),_,rfl,_,rfl,IO,fun p2 hp2=>?_⟩
   have s4:=Ag hp2 (.tup [.str (jn ((mi%9+(i:Int))%9-5).toNat),.ref p,v])
   exact⟨_,.ref p2,.bn ((mi%9+(i:Int))%9-5).toNat (.lt k1) t,_,_,_,rfl,e99,si.trans (s3.trans s4),⟨p2,.ref p,v,rfl,upd_same,a3.keep (TS.same s4),hat3.keep (TS.same s4)⟩,⟨by omega,hk1,hok⟩,by show 1+t.size+1≤_;omega⟩
 ·rintro σ Hi ⟨mi,v,t,v1,v2,v3,rfl,hmi,si,hat,hok,hsz⟩
  exact⟨_,rfl,q v t Hi (t2.trans si) hat hok (by omega)⟩
end
theorem MZ {u t:Tr} {b:Bool} {g:List Int} (h:∀k∈g,tv t k=tv u k):AC b t g=AC b u g:=by
 unfold AC
 exact List.filter_congr fun k hk=>by rw[h k hk]
theorem QV {u:Tr} {g:List Int}:AC false u (AC true u g)=[]:=by
 cases e:AC false u (AC true u g) with
 | nil=>rfl
 | cons k r=>
  have hk:k∈AC false u (AC true u g):=by rw[e];exact List.mem_cons_self
  obtain⟨h1,h2⟩:=mem_ins.mp hk
  rw[(mem_ins.mp h1).2] at h2
  cases h2
theorem Jp {z:Str} {t:Tr} {room g:List Int} (h:Br (AK z t room) g=true):g≠[]:=fun e=>by
 rw[e] at h
 unfold Br at h
 rw[List.all_eq_true] at h
 have hs:∃s,s∈AK z t room:=by
  rcases Ec (z:=z) (t:=t) (row:=room) with⟨x,e⟩|⟨x,y,e⟩<;>rw[e]<;>exact⟨_,List.mem_cons_self⟩
 obtain⟨s,hs⟩:=hs
 obtain⟨k,_,hk⟩:=List.any_eq_true.mp (h s hs)
 simp at hk
theorem M6 {many:Nat} {z rule:Str} {t u t':Tr} {room bas seen:List Int} {es:List (V×Tr×Str)} {ls:List (List Int)}
  (hg:(tw many z rule t room es bas ls).held.Sublist room) (hs:seen.Sublist room) (hrm:∀k∈room,0≤k∧k<2^many) (he:rule="elder")
  (hm:BZ (AK z t room) (AC true u (tw many z rule t room es bas ls).held)=none) (hk:EC (tw many z rule t room es bas ls) seen u=[])
  (hw:∀w:Int,0≤w→w<2^many→(tv t' w=true↔w∈AC true u room∨w∈seen)) :
  BA (tw many z rule t room es bas ls) seen t'="grant"∧Bv "grant" (tw many z rule t room es bas ls).held (AC true t' room)=AC true u (tw many z rule t room es bas ls).held:=by
 have hst:=miss_none.mp hm
 have same:∀k∈(tw many z rule t room es bas ls).held,tv t' k=tv u k:=fun k hk1=>by
  have hk2:=hg.subset hk1
  obtain⟨h1,h2⟩:=hrm k hk2
  have:=hw k h1 h2
  rw[mem_ins] at this
  cases e:tv u k with
  | true=>exact this.mpr (.inl ⟨hk2,e⟩)
  | false=>
   cases e':tv t' k with
   | false=>rfl
   | true=>
    rcases this.mp e' with⟨_,h⟩|h
    ·rw[e] at h;cases h
    ·have:k∈EC (tw many z rule t room es bas ls) seen u:=by
      unfold EC Ir
      rw[mem_ins,List.mem_filter,decide_eq_true_eq]
      exact⟨⟨hk1,h⟩,e⟩
     rw[hk] at this
     cases this
 have hins:AC true t' (tw many z rule t room es bas ls).held=AC true u (tw many z rule t room es bas ls).held:=MZ same
 constructor
 ·rw[N4 (by rw[Cm he];exact hg) hs,Cm he]
  unfold OA
  by_cases c0:AC false t' (tw many z rule t room es bas ls).held=[]
  ·rw[if_pos c0]
  rw[if_neg c0,hins,if_neg (Jp hst)]
  have hp:Cn seen t'="grant":=by
   unfold Cn
   rw[if_pos]
   rw[List.all_eq_true]
   intro k hk1
   obtain⟨h1,h2⟩:=hrm k (hs.subset hk1)
   exact (hw k h1 h2).mpr (.inr hk1)
  rw[if_pos ⟨hp,hst⟩]
 ·rw[LV hg]
  unfold Jr
  rw[if_pos rfl,hins]
theorem Nq {many:Nat} {z rule:Str} {t u:Tr} {room bas seen g:List Int} {es:List (V×Tr×Str)} {ls:List (List Int)} (hg:g.Sublist room) (hs:seen.Sublist room) (he:rule="elder") :
  BA (tw many z rule t room es bas (ls++[AC true u g])) seen u="grant":=by
 have eh:(tw many z rule t room es bas (ls++[AC true u g])).held=AC true u g:=by
  show (bas::(ls++[_])).getLastD []=_
  rw[←List.cons_append,KZ]
 rw[N4 (by rw[Cm he,eh];exact (List.filter_sublist).trans hg) hs,Cm he,eh]
 unfold OA
 rw[if_pos QV]
abbrev Cw:Stmt:=Bu 73
def RowTold (K:PySem.W.Frag) (H:Hp) (many:Nat) (z rule:Str) (t:Tr) (room:List Int) (es:List (V×Tr×Str)) (bas:List Int) (ls:List (List Int)) (seen:List Int) (v:V) (u:Tr) (xs:List V):Prop:=
 (xs=[v]∧BA (tw many z rule t room es bas ls) seen u="grant")∨
 (BA (tw many z rule t room es bas ls) seen u≠"grant"∧rule="elder"∧∃v' t',xs=[v',v]∧t'.AtK K H v'∧La many 12 283 t'∧BZ (AK z t room) (AC true u (tw many z rule t room es bas ls).held)=none∧EC (tw many z rule t room es bas ls) seen u=[]∧∀w:Int,0≤w→w<2^many→(tv t' w=true↔w∈AC true u room∨w∈seen))
theorem RowTold.keep {K:PySem.W.Frag} {H H':Hp} {many:Nat} {z rule:Str} {t:Tr} {room:List Int} {es:List (V×Tr×Str)} {bas:List Int} {ls:List (List Int)} {seen:List Int} {v:V} {u:Tr} {xs:List V} (s:Same H H') (h:RowTold K H many z rule t room es bas ls seen v u xs):RowTold K H' many z rule t room es bas ls seen v u xs:=by
 rcases h with h | ⟨h1,h2,v',t',h3,h4,h5⟩
 ·exact .inl h
 ·exact .inr ⟨h1,h2,v',t',h3,h4.same s,h5⟩
theorem OI {K:PySem.W.Frag} {H0 H:Hp} {many:Nat} {z rule:Str} {t u:Tr} {room bas seen:List Int} {es:List (V×Tr×Str)} {ls:List (List Int)} {v:V} {ws:List V} (hrule:rule="elder"∨rule="newer") (w:FM K H0 H (tw many z rule t room es bas ls) seen v u ws) :
  (BA (tw many z rule t room es bas ls) seen u≠"grant"∧∃y x,ws=[.str "never",y,x])∨∃l xs,ws=[.str "row",.ref l]∧H l=some (.lst xs)∧H0 l=none∧RowTold K H many z rule t room es bas ls seen v u xs:=by
 obtain⟨w1,w2,w3,w4,w5⟩:=w
 by_cases c:BA (tw many z rule t room es bas ls) seen u="grant"
 ·obtain⟨l,e1,e2,e3⟩:=w1 c
  exact .inr ⟨l,_,e1,e2,e3,.inl ⟨rfl,c⟩⟩
 by_cases c2:rule="newer"
 ·exact .inl ⟨c,_,_,w2 c c2⟩
 have ce:rule="elder":=hrule.resolve_right c2
 cases hm:BZ (AK z t room) (AC true u (tw many z rule t room es bas ls).held) with
 | some i=>exact .inl ⟨c,_,_,w3 c c2 i hm⟩
 | none=>
  cases hk:EC (tw many z rule t room es bas ls) seen u with
  | cons k r=>exact .inl ⟨c,_,_,w4 c c2 hm k r hk⟩
  | nil=>
   obtain⟨l,v',t',e1,e2,e3,e4,e5,e6⟩:=w5 c c2 hm hk
   exact .inr ⟨l,_,e1,e2,e6,.inr ⟨c,ce,v',t',rfl,e3,e4,hm,hk,e5⟩⟩
theorem Ma {K:PySem.W.Frag} {H0 H H1:Hp} {many:Nat} {z rule:Str} {t u:Tr} {room bas seen:List Int} {es:List (V×Tr×Str)} {ls:List (List Int)} {v:V} {ws xs:List V} (h:RowTold K H1 many z rule t room es bas ls seen v u xs) (w:FM K H0 H (tw many z rule t room es bas ls) seen v u ws) :
  ∃l xs,ws=[.str "row",.ref l]∧H l=some (.lst xs)∧RowTold K H many z rule t room es bas ls seen v u xs:=by
 obtain⟨w1,w2,w3,w4,w5⟩:=w
 rcases h with⟨_,c⟩|⟨c,he,_,_,_,_,_,hm,hk,_⟩
 ·obtain⟨l,e1,e2,_⟩:=w1 c
  exact⟨l,_,e1,e2,.inl ⟨rfl,c⟩⟩
 ·obtain⟨l,v',t',e1,e2,e3,e4,e5,_⟩:=w5 c (fun e=>absurd (he.symm.trans e) (by decide)) hm hk
  exact⟨l,_,e1,e2,.inr ⟨c,he,v',t',rfl,e3,e4,hm,hk,e5⟩⟩
theorem DJ:∀t:Tr,t.hgt≤t.size
 | .lt _=>Nat.zero_le _
 | .nt t=>Nat.succ_le_succ (DJ t)
 | .bn _ a b=>by
  have h1:=DJ a
  have h2:=DJ b
  show max a.hgt b.hgt+1≤a.size+b.size+1
  omega
theorem JL {K:PySem.W.Frag} {H:Hp} {many:Nat} {z rule:Str} {t u:Tr} {room bas seen:List Int} {es:List (V×Tr×Str)} {ls:List (List Int)} {v:V} {xs:List V} (h:RowTold K H many z rule t room es bas ls seen v u xs) (ha:u.At H v) (hok:u.ok many) (hsz:u.size≤60) :
  ∃ts,PileK K H xs ts∧(∀t∈ts,t.ok many∧t.hgt≤60∧t.size≤900)∧xs.length≤2:=by
 rcases h with⟨rfl,_⟩|⟨_,_,v',t',rfl,e,hfit,_⟩
 ·refine⟨[u],.cons ha.toK .nil,fun t ht=>?_,by show 1≤2;decide⟩
  rw[List.mem_singleton.mp ht]
  exact⟨hok,Nat.le_trans (DJ u) hsz,by omega⟩
 ·refine⟨[t',u],.cons e (.cons ha.toK .nil),fun t ht=>?_,Nat.le_refl _⟩
  simp only[List.mem_cons,List.not_mem_nil,or_false] at ht
  rcases ht with rfl | rfl
  ·exact⟨hfit.ok,Nat.le_trans hfit.hgt (by decide),Nat.le_trans hfit.size (by decide)⟩
  ·exact⟨hok,Nat.le_trans (DJ _) hsz,by omega⟩
def Ie (K:PySem.W.Frag) (C:Addr):Sp:=fun vs H Q _=>∃(x l sn:Addr) (v:V) (N:List Addr) (U:Tk) (many:Nat) (z rule:Str) (t:Tr) (room:List Int) (es:List (V×Tr×Str)) (bas:List Int) (ls:List (List Int)) (u:Tr) (seen:List Int) (xs:List V),
 vs=[.ref x,.ref l,v,.ref sn]∧TalkAt N C H x U (tw many z rule t room es bas ls)∧Full N H∧es.length≤300∧ls.length≤300∧(∀k∈room,0≤k∧k<2^many)∧many≤5∧u.At H v∧u.ok many∧u.size≤60∧AG H sn seen∧seen.Sublist room∧seen≠[]∧H l=some (.lst xs)∧RowTold K H many z rule t room es bas ls seen v u xs∧∀H',Same H H'→Q (.bl true) H'
section
variable {P:Program} {w:World} {K:PySem.W.Frag} {mg:Str→Option Value} {base:Heap} {f:Addr} {fd:FuncData} {cK cS cO:Addr}
theorem scLwalked:As ["_law_talk","_law_row","_law_goal_here","_law_seen_here","_law_twin","_law_given","_law_asked_here"] ["_law_talk","_law_row","_law_goal_here","_law_seen_here"] (Ae Cw):=⟨rfl,rfl,rfl,by decide +kernel,rfl,by decide +kernel,by decide +kernel⟩
set_option maxHeartbeats 16000000 in
theorem Kw {fZ fY m5 m8 m9:Addr} {dZ dY e5 e8 e9:FuncData} (F:Fun K "_law_walked" "_law_walked" Cw f fd) (B:Bl mg) (TX:Jh K cK)
  (GZ:FnOk P w K mg base AE 61 fZ dZ ["_law_found","_law_due"] (Eo 60)) (CZ:AN K mg "_law_tree_is" fZ dZ ["_law_found","_law_due"])
  (GY:FnOk P w K mg base AE 1 fY dY ["_law_found","_law_due"] Je) (CY:AN K mg "_law_says" fY dY ["_law_found","_law_due"])
  (G5:FnOk P w K mg base AE 7 m5 e5 ["self"] (LX cK)) (C5:BN K cK "fork" m5 e5 ["self"])
  (G8:FnOk P w K mg base (Dt P w) 6 m8 e8 ["self","sentence","seen"] (Hg K cK cS)) (C8:BN K cK "ask" m8 e8 ["self","sentence","seen"])
  (G9:FnOk P w K mg base (Dt P w) 7 m9 e9 ["self","sentence","seen"] (K8 K cK cS cO)) (C9:BN K cK "say" m9 e9 ["self","sentence","seen"]):FnOk P w K mg base AE 62 f fd ["_law_talk","_law_row","_law_goal_here","_law_seen_here"] (Ie K cK):=by
 refine F.ok scLwalked (fun vs H Q E h=>?_) (fun cdv A outer s H vs Q E hr h=>?_)
 ·obtain⟨x,l,sn,v,N,U,many,z,rule,t,room,es,bas,ls,u,seen,xs,rfl,_⟩:=h
  rfl
 obtain⟨x,l,sn,v,N,U,many,z,rule,t,room,es,bas,ls,u,seen,xs,rfl,hT,hF,les,lls,hrm,hm5,ha,hok,hsz,hN,nsub,nne,hl,hrow,q⟩:=h
 have hr1:Room 1 _:=hr.mono (by decide)
 have hr6:Room 6 _:=hr.mono (by decide)
 have hr7:Room 7 _:=hr.mono (by decide)
 have hr61:Room 61 _:=hr.mono (by decide)
 have ok5:u.ok 5:=Tr.ok.mono hm5 hok
 have wseen:=hT.wr.sub nsub
 have hsub:(tw many z rule t room es bas ls).held.Sublist room:=hT.held_sub
 have xlen:xs.length=1∨xs.length=2:=by
  rcases hrow with⟨e,_⟩|⟨_,_,v',t',e,_⟩
  ·exact .inl (by rw[e];rfl)
  ·exact .inr (by rw[e];rfl)
 have xlast:FV xs (-1)=some v:=by
  rcases hrow with⟨e,_⟩|⟨_,_,v',t',e,_⟩
  ·rw[e];exact EX [] v
  ·rw[e];exact EX [v'] v
 refine⟨_,Ac (AA (BK (Ak FP (Aw Av (by rfl) B.len PySem.boot_len (Aa (pv 1) Ab)) Af (Ao _)) (BK (Ak EH (Aw Av (by rfl) B.len PySem.boot_len (Aa (pv 1) Ab)) Af (Ao _)) (BO (Be (A3 (Ah GZ hr61 (by rfl) CZ.m CZ.k CZ.b .nil Aq (Aa (AB AM (pv 1) (JF G0 Af) (fun _ _=>rfl)) (Aa (pv 2) Ab)))))))).pt
   (Ad (Ai Bw))
   Al)
  (Ac (Au (i:=4) scLwalked.nd rfl (Or.inl rfl) (Bf (pv 0) TX.cl C5.m G5 hr7 C5.b .nil Aq))
  (Ac (Au (i:=5) scLwalked.nd rfl (Or.inl rfl) An)
  (Ac (BQ PassesOwn.never rfl (Bn (pv 1)) (AO (i:=6) scLwalked.nd rfl (Or.inl rfl))
   (Ad (Au (i:=5) scLwalked.nd rfl (Or.inl rfl) (Dh (pv 4) TX.cl C9.m G9 hr7 C9.b .nil DN (Aa (pv 6) (Aa (pv 3) Ab))))))
  (Ac (AA (Be (A3 (Ah GY hr1 (by rfl) CY.m CY.k CY.b .nil Aq (Aa (pv 5) (Aa An Ab)))))
   (Ad (Ai Bw))
   Al)
  (Ad (Ai (Bs AI (Bs AI (Aw Av (by rfl) B.len PySem.boot_len (Aa (pv 1) Ab)) Af (Ao _)) (Bs AI (Dh (pv 0) TX.cl C8.m G8 hr6 C8.b .nil DN (Aa (pv 2) (Aa (pv 3) Ab))) An (Ao _)) (Ao _)))))))),?_⟩
 refine⟨_,rfl,l,_,rfl,.inl (SqL.of hl),_,_,rfl,rfl,_,rfl,?_⟩
 refine AY (show ¬((xs.length:Nat):Int)<1 by omega) ?_
 refine⟨_,rfl,l,_,rfl,.inl (SqL.of hl),_,_,rfl,rfl,_,rfl,?_⟩
 refine AY (show ¬((xs.length:Nat):Int)>2 by omega) ?_
 refine⟨_,rfl,_,rfl,l,_,_,_,rfl,rfl,SqL.of hl,xlast,_,rfl,v,v,u,rfl,ha,ha,hsz,_,rfl,?_⟩
 refine AX ?_
 refine⟨_,rfl,x,_,_,rfl,hT.ob,PD,x,N,U,_,rfl,hT,hF,fun b Ub H1 s1 hb0 bg0 bl0 Tb=>?_⟩
 generalize hbg:Ub.gv=bg at *
 generalize hbl:Ub.lf=bl at *
 obtain⟨M2,hM2⟩:∃M2,M2=b::bg::bl::N:=⟨_,rfl⟩
 rw[←hM2] at Tb
 have full1:Full M2 H1:=fun m hm=>by
  have g1:=Tb.gv
  have g2:=Tb.lf
  rw[hbg] at g1
  rw[hbl] at g2
  rw[hM2] at hm
  rcases List.mem_cons.mp hm with rfl | hm
  ·rw[Tb.ob];exact fun z=>by cases z
  rcases List.mem_cons.mp hm with rfl | hm
  ·rw[g1];exact fun z=>by cases z
  rcases List.mem_cons.mp hm with rfl | hm
  ·rw[g2];exact fun z=>by cases z
  ·exact hF.keep s1 m hm
 have gl1:∀gs,H1 bg=some (.lst gs)→gs.length≤300:=fun gs hg=>by
  have g1:=Tb.gv
  rw[hbg,hg] at g1
  cases g1
  rw[Paired.length Tb.en]
  exact les
 refine⟨_,rfl,l,rfl,⟨_,SqL.of (s1 _ _ hl)⟩,Bk (K:=K) (a:=l) (xs:=xs) (fun i σ Hi=>∃(vg:Option V) (g:Str) (U':Tk) (ls':List (List Int)),σ=[some (.ref x),some (.ref l),some v,some (.ref sn),some (.ref b),some (.str g),vg]∧Same H Hi∧TalkN M2 cK Hi b U' (tw many z rule t room es bas ls')∧U'.gv=bg∧U'.lf=bl∧Full M2 Hi∧(∀gs,Hi bg=some (.lst gs)→gs.length≤300+i)∧ls'.length=ls.length+i∧(i=0→ls'=ls)∧(i=1→i<xs.length→ls'=ls++[AC true u (tw many z rule t room es bas ls).held])∧(i=xs.length→g="grant"))
  ⟨_,_,Ub,ls,rfl,s1,Tb.toN,hbg,hbl,full1,gl1,rfl,fun _=>rfl,fun h=>absurd h (by decide),fun h=>absurd h (by omega)⟩ ?_ ?_ ?_⟩
 ·rintro i σ Hi _ ⟨vg,g,U',ls',rfl,si,_⟩
  exact SqL.of (si _ _ hl)
 ·rintro i y σ Hi hy ⟨vg,g,U',ls',rfl,si,Ti,eg,el,fi,gi,lli,h0,h1,h2⟩
  have hi:i<xs.length:=(List.getElem?_eq_some_iff.mp hy).1
  have step:∃t0:Tr,t0.AtK K Hi y∧t0.ok many∧t0.size≤800∧BA (tw many z rule t room es bas ls') seen t0="grant"∧(i+1=1→i+1<xs.length→ls'++[Bv "grant" (tw many z rule t room es bas ls').held (AC true t0 room)]=ls++[AC true u (tw many z rule t room es bas ls).held]):=by
   rcases hrow with⟨e,hgr⟩|⟨_,he,v',t',e,hat,hfit,hm,hk,hw⟩
   ·subst e
    have i0:i=0:=by have:i<1:=hi;omega
    subst i0
    have ey:v=y:=by simpa using hy
    subst ey
    rw[h0 rfl]
    exact⟨u,(ha.keep (TS.same si)).toK,hok,by omega,hgr,fun _ h=>absurd h (by show ¬1<1;decide)⟩
   ·subst e
    obtain⟨f1,f2⟩:=M6 hsub nsub hrm he hm hk hw
    have i2:i=0∨i=1:=by have:i<2:=hi;omega
    rcases i2 with rfl | rfl
    ·have ey:v'=y:=by simpa using hy
     subst ey
     rw[h0 rfl]
     exact⟨t',hat.same si,hfit.ok,Nat.le_trans hfit.size (by decide),f1,fun _ _=>by rw[f2]⟩
    ·have ey:v=y:=by simpa using hy
     subst ey
     rw[h1 rfl (by show 1<2;decide)]
     exact⟨u,(ha.keep (TS.same si)).toK,hok,by omega,Nq hsub nsub he,fun h=>absurd h (by decide)⟩
  obtain⟨t0,hat0,hok0,hsz0,hgr0,hls0⟩:=step
  refine⟨_,rfl,b,_,_,rfl,Ti.ob,Nv,_,rfl,_,rfl,b,sn,y,M2,U',_,t0,seen,rfl,Ti,fi,hat0,Tr.ok.mono hm5 hok0,hsz0,SqL.of (si _ _ hN),wseen,nne,fun gs hg=>by rw[eg] at hg;have:=gi gs hg;omega,by show ls'.length+1<900;omega,rfl,hok0,fun U2 H2 b2 eg2 el2 kk2 gg2 T2=>?_⟩
  rw[hgr0] at T2 ⊢
  have s2:Same H H2:=But.same (fun m hm=>by
   simp only[List.mem_cons,List.not_mem_nil,or_false,eg,el] at hm
   rcases hm with rfl | rfl
   ·exact bg0
   ·exact bl0) si b2
  refine⟨some y,"grant",U2,ls'++[Bv "grant" (tw many z rule t room es bas ls').held (AC true t0 room)],rfl,s2,T2,eg2.trans eg,el2.trans el,fun m hm=>kk2 m (fi m hm),fun gs hg=>?_,by rw[List.length_append,lli];rfl,fun h=>absurd h (by omega),fun h h'=>hls0 h h',fun _=>rfl⟩
  obtain⟨gs0,hg0,_⟩:=Ti.2
  obtain⟨x0,hx0⟩:=gg2 gs0 hg0
  rw[eg] at hx0 hg0
  rw[hg] at hx0
  cases hx0
  have:=gi gs0 hg0
  rw[List.length_append]
  show gs0.length+1≤_
  omega
 ·rintro σ Hi ⟨vg,g,U',ls',rfl,si,Ti,eg,el,fi,gi,lli,h0,h1,h2⟩
  rw[h2 rfl]
  refine⟨_,rfl,_,rfl,_,rfl,?_⟩
  refine AX ?_
  have Tx:=hT.keep si
  refine⟨_,rfl,l,_,rfl,.inl (SqL.of (si _ _ hl)),rfl,_,rfl,x,_,_,rfl,Tx.ob,Hm,_,rfl,_,rfl,x,sn,v,N,U,_,u,seen,rfl,Tx,ha.keep (TS.same si),ok5,hsz,SqL.of (si _ _ hN),wseen,nne,fun hn=>absurd hok hn,fun _ H2 s2=>?_⟩
  refine⟨rfl,rfl,?_⟩
  have e:decide (V.bl (decide (V.int ((xs.length:Nat):Int)=V.int 1))=V.bl (decide (V.str (BA (tw many z rule t room es bas ls) seen u)=V.str "grant")))=true:=by
   rcases hrow with⟨e,hgr⟩|⟨hn,_,v',t',e,_⟩
   ·rw[e,hgr];rfl
   ·rw[e,decide_eq_false (show ¬V.str (BA (tw many z rule t room es bas ls) seen u)=V.str "grant" from fun z=>hn (by injection z))];rfl
  rw[e]
  exact q H2 (si.trans s2)
end
abbrev IP:Stmt:=Bu 74
def Lx (K:PySem.W.Frag):Sp:=fun vs H Q _=>∃(a:Addr) (ns:List Int),vs=[.ref a]∧SqL K H a (ns.map V.int)∧ns.length≤63∧∀H',Q (.bl true) H'
section
variable {P:Program} {w:World} {K:PySem.W.Frag} {mg:Str→Option Value} {base:Heap} {f:Addr} {fd:FuncData} {cK:Addr}
theorem scLaw:As ["_law_script","_law_many","_law_room_here","_law_kind_here","_law_sentence_here","_law_talk","_law_entries","_law_held","_law_seen_here","_law_outside","_law_k","_law_goal_here","_law_handed","_law_found","_law_row","_law_again"] ["_law_script"] (Ae IP):=⟨rfl,rfl,rfl,by decide +kernel,rfl,by decide +kernel,by decide +kernel⟩
set_option maxHeartbeats 64000000 in
theorem RB {fN fM fT fV fR fG fE fK fW fX fL fP fI m6 m2 m8 cS cB cN cO:Addr} {dN dM dT dV dR dG dE dK dW dX dL dP dI e6 e2 e8:FuncData} (F:Fun K "law" "law" IP f fd) (B:Bl mg) (T:Fq mg) (TX:Jh K cK)
  (GN:FnOk P w K mg base AE 1 fN dN ["_law_script","_law_k"] (IX K)) (CN:AN K mg "_law_num" fN dN ["_law_script","_law_k"])
  (GM:FnOk P w K mg base AE 1 fM dM ["_law_n"] Q3) (CM:AN K mg "_law_few" fM dM ["_law_n"])
  (GT:FnOk P w K mg base AE 26 fT dT ["_law_script","_law_many"] (Lj K)) (CT:AN K mg "_law_start" fT dT ["_law_script","_law_many"])
  (GV:FnOk P w K mg base AE 8 fV dV ["_law_talk","_law_script","_law_many","_law_room_here","_law_first"] (Ii K cK)) (CV:AN K mg "_law_driven" fV dV ["_law_talk","_law_script","_law_many","_law_room_here","_law_first"])
  (GR:FnOk P w K mg base AE 2 fR dR ["_law_script"] (Lq K)) (CR:AN K mg "_law_rule" fR dR ["_law_script"])
  (GG:FnOk P w K mg base AE 3 fG dG ["_law_n","_law_sentence_here","_law_entries","_law_many"] (Lm K)) (CG:AN K mg "_law_goal" fG dG ["_law_n","_law_sentence_here","_law_entries","_law_many"])
  (GE:FnOk P w K mg base AE 3 fE dE ["_law_n","_law_room_here"] (B7 K)) (CE:AN K mg "_law_seen" fE dE ["_law_n","_law_room_here"])
  (GK:FnOk P w K mg base AE 26 fK dK ["_law_found","_law_due"] (J9 K)) (CK:AN K mg "_law_pairs_are" fK dK ["_law_found","_law_due"])
  (GW:FnOk P w K mg base AE 72 fW dW ["_law_found","_law_many"] (JV K)) (CW:AN K mg "_law_row_of" fW dW ["_law_found","_law_many"])
  (GX:FnOk P w K mg base AE 62 fX dX ["_law_talk","_law_row","_law_goal_here","_law_seen_here"] (Ie K cK)) (CX:AN K mg "_law_walked" fX dX ["_law_talk","_law_row","_law_goal_here","_law_seen_here"])
  (GL:FnOk P w K mg base AE 1 fL dL ["_law_m","_law_most","_law_many"] LP) (CL:AN K mg "_law_long" fL dL ["_law_m","_law_most","_law_many"])
  (GP:FnOk P w K mg base (Dt P w) 7 fP dP ["talk","goal","seen"] (Lw K cK cO cS)) (CP:AN K mg "way_to" fP dP ["talk","goal","seen"])
  (GI:FnOk P w K mg base (Dt P w) 5 fI dI ["self","many","room","kind","sentence","rule"] (Jb cK cS cB cN)) (CI:Rr K mg cK "Talk" fI dI ["self","many","room","kind","sentence","rule"])
  (G6:FnOk P w K mg base AE 1 m6 e6 ["self"] (Hq cK)) (C6:BN K cK "entries" m6 e6 ["self"])
  (G2:FnOk P w K mg base AE 1 m2 e2 ["self"] (IA cK)) (C2:BN K cK "held" m2 e2 ["self"])
  (G8:FnOk P w K mg base (Dt P w) 6 m8 e8 ["self","sentence","seen"] (Hg K cK cS)) (C8:BN K cK "ask" m8 e8 ["self","sentence","seen"]):FnOk P w K mg base AE 73 f fd ["_law_script"] (Lx K):=by
 refine F.ok scLaw (fun vs H Q E h=>?_) (fun cdv A outer s H vs Q E hr h=>?_)
 ·obtain⟨a,ns,rfl,_⟩:=h
  rfl
 obtain⟨a,ns,rfl,hS,h63,q⟩:=h
 have hr1:Room 1 _:=hr.mono (by decide)
 have hr2:Room 2 _:=hr.mono (by decide)
 have hr3:Room 3 _:=hr.mono (by decide)
 have hr6:Room 6 _:=hr.mono (by decide)
 have hr7:Room 7 _:=hr.mono (by decide)
 have hr8:Room 8 _:=hr.mono (by decide)
 have hr26:Room 26 _:=hr.mono (by decide)
 have hr62:Room 62 _:=hr.mono (by decide)
 have hr72:Room 72 _:=hr.mono (by decide)
 refine⟨_,Ac (Au (i:=1) scLaw.nd rfl (Or.inl rfl) (Ah GM hr1 (by rfl) CM.m CM.k CM.b .nil Aq (Aa (Ah GN hr1 (by rfl) CN.m CN.k CN.b .nil Aq (Aa (pv 0) (Aa Af Ab))) Ab)))
  (Ac (Rk (Ah GT hr26 (by rfl) CT.m CT.k CT.b .nil Aq (Aa (pv 0) (Aa (pv 1) Ab))) (NQ rfl (DE (AO (i:=2) scLaw.nd rfl (Or.inl rfl)) (DE (AO (i:=3) scLaw.nd rfl (Or.inl rfl)) (DE (AO (i:=4) scLaw.nd rfl (Or.inl rfl)) L1)))))
  (Ac (Au (i:=5) scLaw.nd rfl (Or.inl rfl) (Ah GV hr8 (by rfl) CV.m CV.k CV.b .nil Aq (Aa (LS CI.make GI hr6 (by rfl) CI.m CI.b .nil DN (Aa (pv 1) (Aa (pv 2) (Aa (pv 3) (Aa (pv 4) (Aa (Ah GR hr2 (by rfl) CR.m CR.k CR.b .nil Aq (Aa (pv 0) Ab)) Ab)))))) (Aa (pv 0) (Aa (pv 1) (Aa (pv 2) (Aa (pv 4) Ab)))))))
  (Ac (Au (i:=6) scLaw.nd rfl (Or.inl rfl) (Bf (pv 5) TX.cl C6.m G6 hr1 C6.b .nil Aq))
  (Ac (Au (i:=7) scLaw.nd rfl (Or.inr rfl) (Bf (pv 5) TX.cl C2.m G2 hr1 C2.b .nil Aq))
  (Ac (Au (i:=8) scLaw.nd rfl (Or.inl rfl) (Ah GE hr3 (by rfl) CE.m CE.k CE.b .nil Aq (Aa (Ah GN hr1 (by rfl) CN.m CN.k CN.b .nil Aq (Aa (pv 0) (Aa Af Ab))) (Aa (pv 2) Ab))))
  (Ac (O4 (i:=9) scLaw.nd rfl (Or.inl rfl) (N:=["_law_world","_law_held"]) (js:=[none,some 7]) (cl:=[("_law_held",s.heap.objs.size+1)]) ⟨rfl,rfl,rfl,(by intro p hp;simp at hp;rcases hp with rfl<;>rfl),rfl,rfl,rfl⟩ (Bn (pv 2)) (fun c1=>(AO (i:=0) (show (["_law_world","_law_held"]:List Str).Nodup by decide +kernel) rfl (Or.inl rfl))) (fun c1=>(EJ (Ak BH (pv 0) (pv 1) (by with_unfolding_all rfl)))) (fun c1=>(pv 0)))
  (Ac (AA (DK (Ak (Hk hr.units0) (pv 9) (AJ Ab) (Ao _)) (Ch (Ak AI (Ay AQ (Ay AT (Ah GN hr1 (by rfl) CN.m CN.k CN.b .nil Aq (Aa (pv 0) (Aa Af Ab))) Af) Af) Af (Ao _)))).pt
   (Ad (Au (i:=8) scLaw.nd rfl (Or.inl rfl) (pv 9)))
   Al)
  (Ac (BQ PassesOwn.never rfl (Dd (by rfl) B.range (Aa Af Ab)) (AO (i:=10) scLaw.nd rfl (Or.inl rfl))
   (Ac (AA (Ak AI (pv 10) Af (Ao _))
    (Ad (Au (i:=8) scLaw.nd rfl (Or.inl rfl) (Ah GE hr3 (by rfl) CE.m CE.k CE.b .nil Aq (Aa (Ay AT (Ah GN hr1 (by rfl) CN.m CN.k CN.b .nil Aq (Aa (pv 0) (Aa Af Ab))) Af) (Aa (pv 2) Ab)))))
    Al)
   (Ac (Au (i:=11) scLaw.nd rfl (Or.inl rfl) (Ah GG hr3 (by rfl) CG.m CG.k CG.b .nil Aq (Aa (Ah GN hr1 (by rfl) CN.m CN.k CN.b .nil Aq (Aa (pv 0) (Aa (Ay Bz Af (Ay AQ (pv 10) Af)) Ab))) (Aa (pv 4) (Aa (pv 6) (Aa (pv 1) Ab))))))
   (Ac (AA (DK (Ak AI (Ay AQ (pv 10) Af) Af (Ao _)) (Ch (Ak AI (Ay AQ (Ay AT (Ah GN hr1 (by rfl) CN.m CN.k CN.b .nil Aq (Aa (pv 0) (Aa Af Ab))) Af) Af) Af (Ao _)))).pt
    (Ad (Au (i:=11) scLaw.nd rfl (Or.inl rfl) (Ah GL hr1 (by rfl) CL.m CL.k CL.b .nil Aq (Aa (Ay AT (Ah GN hr1 (by rfl) CN.m CN.k CN.b .nil Aq (Aa (pv 0) (Aa Af Ab))) Af) (Aa Af (Aa (pv 1) Ab))))))
    Al)
   (Ac (Au (i:=12) scLaw.nd rfl (Or.inl rfl) (AR AW (by rfl) T.lst A8 (Aa (pv 8) Ab)))
   (Ac (Au (i:=13) scLaw.nd rfl (Or.inl rfl) (Ah GP hr7 (by rfl) CP.m CP.k CP.b .nil DN (Aa (pv 5) (Aa (pv 11) (Aa (pv 12) Ab)))))
   (Ac (AA (BK (Ak (NU hr.units9) (pv 12) (pv 8) (Ao _)) (BK (Be (A3 (Ah GK hr26 (by rfl) CK.m CK.k CK.b .nil Aq (Aa (Bf (pv 5) TX.cl C6.m G6 hr1 C6.b .nil Aq) (Aa (pv 6) Ab))))) (BO (Ak (NU hr.units9) (Bf (pv 5) TX.cl C2.m G2 hr1 C2.b .nil Aq) (pv 7) (Ao _))))).pt
    (Ad (Ai Bw))
    Al)
   (Ac (AA (BK (Be (A3 (Aw Ba (by rfl) T.isi boot_isinstance (Aa (pv 13) (Aa (Bm (v:=.ty "tuple") (by rfl) T.tup B9 rfl) Ab))))) (BK (Ak FP (Aw Av (by rfl) B.len PySem.boot_len (Aa (pv 13) Ab)) Af (Ao _)) (BO (Ak BH (AB AD (pv 13) Af (fun _ _=>rfl)) (AJ (Aa An (Aa An Ab))) (by with_unfolding_all rfl))))).pt
    (Ad (Ai Bw))
    Al)
   (Ac (Au (i:=14) scLaw.nd rfl (Or.inl rfl) (Ah GW hr72 (by rfl) CW.m CW.k CW.b .nil Aq (Aa (pv 13) (Aa (pv 1) Ab))))
   (Ac (AA (DK (Ak AI (AB AD (pv 13) Af (fun _ _=>rfl)) An (Ao _)) (Ch (BK (IK (K3 (pv 14))) (BO (Be (A3 (Ah GX hr62 (by rfl) CX.m CX.k CX.b .nil Aq (Aa (pv 5) (Aa (AR AW (by rfl) T.lst A8 (Aa (pv 14) Ab)) (Aa (pv 11) (Aa (pv 8) Ab))))))))).pt)).pt
    (Ad (Ai Bw))
    Al)
   (Ac (AA (Ak AI (AB AD (pv 13) Af (fun _ _=>rfl)) An (Ao _))
    (Ac (AV (BM PySem.F.plainAttrs_list PySem.F.slot_list_append PySem.F.type_list_append AZ (AB AD (pv 13) Af (fun _ _=>rfl)) (Aa (pv 11) Ab)))
    (Ac (Au (i:=15) scLaw.nd rfl (Or.inl rfl) (Ah GW hr72 (by rfl) CW.m CW.k CW.b .nil Aq (Aa (Ah GP hr7 (by rfl) CP.m CP.k CP.b .nil DN (Aa (pv 5) (Aa (pv 11) (Aa (pv 8) Ab)))) (Aa (pv 1) Ab))))
    (Ad (AA (BK (IK (K3 (pv 15))) (BO (Be (A3 (Ah GX hr62 (by rfl) CX.m CX.k CX.b .nil Aq (Aa (pv 5) (Aa (pv 15) (Aa (pv 11) (Aa (pv 8) Ab))))))))).pt
     (Ad (Ai Bw))
     Al))))
    Al)
   (Ad (AA (DK (Ak AI (AB AD (pv 13) Af (fun _ _=>rfl)) An (Ao _)) (Ch (Ak AI (Dh (pv 5) TX.cl C8.m G8 hr6 C8.b .nil DN (Aa (pv 11) (Aa (pv 8) Ab))) An (Ao _)))).pt
    (Ad (Ai Bw))
    Al)))))))))))))
  (Ad (Ai Bw)))))))))),?_⟩
 refine⟨_,rfl,a,ns,0,rfl,hS,h63,by decide,by decide,fun H1 hn0 s1=>⟨_,rfl,hn0,fun many H2 hm1 hm5 s2=>?_⟩⟩
 have t2:=s1.trans s2
 refine⟨_,rfl,_,rfl,a,ns,many,rfl,t2.seq hS,h63,hm1,hm5,fun tp rm room z v t H3 s3 htp hrm0 hrm hsub hne ha hok hsz' hz=>⟨tp,_,rfl,SqT.of htp,rfl,_,_,rfl,_,_,rfl,_,_,rfl,rfl,?_⟩⟩
 have t3:=t2.trans s3
 have ok5:t.ok 5:=Tr.ok.mono hm5 hok
 have wroom:Wr room:=(Lb hm5).sub hsub
 have lroom:=wroom.len
 refine⟨_,rfl,_,rfl,_,rfl,_,rfl,_,rfl,a,ns,rfl,t3.seq hS,h63,fun rule H5 s5 hrule=>fun x dx hx hdx nex=>?_⟩
 have t5:=t3.trans s5
 have hrm5:=s5 _ _ hrm
 have ha5:=ha.keep (TS.same s5)
 have sM:Same H5 (upd (upd H5 dx (.own x)) x (.ins cK dx [])):=(Ag hdx _).trans (Ag (by rw[Ax nex.symm];exact hx) _)
 refine⟨x,dx,rm,many,z,rule,v,t,room,[],rfl,upd_same,by simp,fun m hm=>by simp at hm,KK (ha5.keep (TS.same sM)),ok5,by omega,hm5,sM _ _ hrm5,wroom,fun hn=>absurd hok hn,fun _ hn=>absurd ⟨hrule,Qf hz⟩ hn,fun _ _ _ he=>absurd he (PL hz),fun _ _ _ _ U0 H6 b6 gv0 lf0 sp0 esv hT=>⟨rfl,?_⟩⟩
 have s6:Same H5 H6:=HL hx hdx nex b6
 obtain⟨gv5,ngx,ngd⟩:=D6 (C:=cK) gv0
 obtain⟨lf5,nlx,nld⟩:=D6 (C:=cK) lf0
 generalize hbase:Jn room (AK z t room)=bas at *
 have bsub:bas.Sublist room:=by rw[←hbase];exact base_sub
 have hT:TalkAt (x::U0.gv::U0.lf::[]) cK H6 x U0 (tw many z rule t room [] bas []):=by rw[←hbase];exact hT
 obtain⟨N,hN⟩:∃N,N=x::U0.gv::U0.lf::[]:=⟨_,rfl⟩
 rw[←hN] at hT
 have offN:∀m∈N,H5 m=none:=fun m hm=>by
  rw[hN] at hm
  simp only[List.mem_cons,List.not_mem_nil,or_false] at hm
  rcases hm with rfl | rfl | rfl
  ·exact hx
  ·exact gv5
  ·exact lf5
 have s56:Same H5 (Bq N H6):=fun b o e=>Bi (s6 _ _ e) fun z=>by rw[offN b z] at e;cases e
 refine⟨_,rfl,_,rfl,_,rfl,_,rfl,x,a,rm,many,z,rule,v,t,room,bas,ns,N,U0,rfl,hN,hT,(t5.trans s56).seq hS,h63,hm1,hm5,s56 _ _ hrm5,hne,ha5.keep (TS.same s56),hok,hsz',fun U es ls H9 c9 T9 eg el lls hl200 hes hheld=>?_⟩
 have s59:Same H5 H9:=(s56.trans c9).trans cut_same
 have t9:=t5.trans s59
 have hrm9:=s59 _ _ hrm5
 have ha9:=ha5.keep (TS.same s59)
 have hE9:PairsAt H9 U.ges (es.map fun e=>(e.2.1,e.2.2)):=PairsAt.keep (Same.refl _) (Hv (T9.en.keep cut_same))
 have full9:Full N H9:=fun m hm e=>by
  obtain⟨o,e1,_⟩:=D4 hN T9 eg el m hm
  rw[e] at e1
  cases e1
 have rm2:∀k∈room,0≤k∧k<2^many:=fun k hk=>by
  have:=mem_upto.mp (hsub.subset hk)
  have e:((2^many:Nat):Int)=(2:Int)^many:=by rw[Int.natCast_pow];rfl
  rw[←e]
  exact this
 refine⟨_,rfl,x,_,_,rfl,T9.ob,Gv,x,N,U,_,rfl,T9,fun en H10 s10 en0 hen=>?_⟩
 have T10:=T9.keep s10
 refine⟨_,rfl,x,_,_,rfl,T10.ob,EL,x,N,U,_,rfl,T10,fun hl H11 s11 hl0 hhl=>?_⟩
 have s911:=s10.trans s11
 generalize hhe:(tw many z rule t room es bas ls).held=held at *
 have hhsub:held.Sublist room:=by rw[←hhe];exact T9.held_sub
 have lh:=(wroom.sub hhsub).len
 have hen11:=s11 _ _ hen
 have hE11:=PairsAt.keep s911 hE9
 refine⟨_,rfl,a,ns,7,rfl,(t9.trans s911).seq hS,h63,by decide,by decide,fun H16 hn7 s16=>?_⟩
 have s916:=s911.trans s16
 refine⟨_,rfl,_,rm,room,rfl,SqL.of (s916 _ _ hrm9),by omega,hne,fun sn seen H17 s17 sn0 hsn nsub nne=>?_⟩
 have s917:=s916.trans s17
 refine⟨_,rfl,rm,rfl,⟨_,SqL.of (s917 _ _ hrm9)⟩,fun cc ol hol0=>Dy (p:=fun k=>!decide (k∈held)) (rest:=[some (.ref hl)]) (SqL.of (s917 _ _ hrm9)) hol0 (by omega) (fun k hk H18 s18 R hR18=>?_) (fun v0 H18 s18 hol=>?_) none⟩
 ·refine⟨_,rfl,_,rfl,MG (SqL.of ((s16.trans (s17.trans s18)) _ _ hhl)) ⟨_,rfl,hR18 H18 (Same.refl _)⟩⟩
 refine Qy rfl ?_
 have s918:=s917.trans s18
 refine Ix (fun σ H'=>∃(sn:Addr) (seen:List Int) (ov:Option V),σ=[some (.ref a),some (.int (many:Int)),some (.ref rm),some (.str z),some v,some (.ref x),some (.ref en),some (.ref hl),some (.ref sn),ov,none,none,none,none,none,none]∧Same H11 H'∧AG H' sn seen∧seen.Sublist room∧seen≠[]) ?_ (fun next=>?_)
 rotate_left
 ·refine⟨_,rfl,Ka,fun e he=>?_⟩
  have se:=Ag he (.lst [])
  refine⟨ol,e,_,rfl,rfl,SqL.of (se _ _ hol),SqL.of upd_same,_,rfl,?_⟩
  have hkeep:∀{H'},Same H17 H'→AG H' sn seen:=fun h=>h _ _ hsn
  by_cases ce:room.filter (fun k=>!decide (k∈held))=[]
  ·rw[ce]
   exact AX (next _ _ ⟨sn,seen,_,rfl,s16.trans (s17.trans (s18.trans se)),hkeep (s18.trans se),nsub,nne⟩)
  ·have hne':(!((room.filter (fun k=>!decide (k∈held))).map V.int).isEmpty)=true:=by
    rw[OE,decide_eq_false ce]
    rfl
   rw[hne']
   refine Bt ?_
   refine⟨_,rfl,a,ns,4,rfl,(t9.trans (s918.trans se)).seq hS,h63,by decide,by decide,fun H19 hn4 s19=>?_⟩
   have s1519:=s16.trans (s17.trans (s18.trans (se.trans s19)))
   refine⟨_,_,rfl,rfl,⟨by decide,by decide⟩,_,_,rfl,rfl,(by show (0:Int)<3;decide),rfl,_,rfl,?_⟩
   by_cases c3:Fx ns 4 / 2%3=1
   ·refine Bb (by show V.int (Fx ns 4 / 2%3)=V.int 1;rw[c3]) ?_
    exact⟨_,rfl,next _ _ ⟨ol,_,_,rfl,s1519,(se.trans s19) _ _ hol,List.filter_sublist,ce⟩⟩
   ·refine AY (fun z=>c3 (by have z:V.int (Fx ns 4 / 2%3)=V.int 1:=z;injection z)) ?_
    exact next _ _ ⟨sn,seen,_,rfl,s1519,hkeep (s18.trans (se.trans s19)),nsub,nne⟩
 clear hsn nsub nne sn0 s918 s917 s17 s18 hol hol0
 rintro σ H20 ⟨sn2,seen2,ov,rfl,s20,hsn2,nsub2,nne2⟩
 have s920:=s911.trans s20
 refine⟨4,rfl,by decide,by decide,BC (fun i σ Hi=>∃(sn:Addr) (seen:List Int) (v1 v2 v3 v4 v5 v6:Option V),σ=[some (.ref a),some (.int (many:Int)),some (.ref rm),some (.str z),some v,some (.ref x),some (.ref en),some (.ref hl),some (.ref sn),ov,v1,v2,v3,v4,v5,v6]∧Same H20 Hi∧AG Hi sn seen∧seen.Sublist room∧seen≠[]) ⟨_,_,_,_,_,_,_,_,rfl,Same.refl _,hsn2,nsub2,nne2⟩ ?_ ?_⟩
 ·rintro i σ Hi hi ⟨sn0,seen0,v1,v2,v3,v4,v5,v6,rfl,si,hsn0,nsub0,nne0⟩
  have hi4:i<4:=hi
  rw[Int.zero_add]
  refine Rw rfl ?_
  refine Ld (fun σ H'=>∃(sn:Addr) (seen:List Int),σ=[some (.ref a),some (.int (many:Int)),some (.ref rm),some (.str z),some v,some (.ref x),some (.ref en),some (.ref hl),some (.ref sn),ov,some (.int (i:Nat)),v2,v3,v4,v5,v6]∧Same H20 H'∧AG H' sn seen∧seen.Sublist room∧seen≠[]) ?_ (fun next=>?_)
  rotate_left
  ·refine⟨_,rfl,rfl,_,rfl,?_⟩
   by_cases c2:i=2
   ·refine Bb (by show V.int ((i:Nat):Int)=V.int 2;rw[c2];rfl) ?_
    have s9i:=s920.trans si
    refine⟨_,rfl,a,ns,7,rfl,(t9.trans s9i).seq hS,h63,by decide,by decide,fun H21 hn7b s21=>?_⟩
    refine⟨_,_,rfl,rfl,⟨by decide,by decide⟩,_,rfl,_,rm,room,rfl,SqL.of ((s9i.trans s21) _ _ hrm9),by omega,hne,fun sn seen H22 s22 sn0' hsn nsub nne=>?_⟩
    exact next _ _ ⟨sn,seen,rfl,si.trans (s21.trans s22),hsn,nsub,nne⟩
   ·refine AY (fun z=>c2 (by have z:V.int ((i:Nat):Int)=V.int 2:=z;injection z with z;omega)) ?_
    exact next _ _ ⟨sn0,seen0,rfl,si,hsn0,nsub0,nne0⟩
  clear hsn0 nsub0 nne0 si
  rintro σ H22 ⟨sn,seen,rfl,s22,hsn,nsub,nne⟩
  have wseen:=wroom.sub nsub
  have lseen:=wseen.len
  have s922:=s920.trans s22
  have hen22:=(s20.trans s22) _ _ hen11
  have hE22:=PairsAt.keep (s20.trans s22) hE11
  refine⟨_,rfl,_,rfl,_,_,rfl,rfl,(by show (0:Int)<2;decide),_,_,rfl,rfl,a,ns,_,rfl,(t9.trans s922).seq hS,h63,by omega,by omega,fun H23 hn s23=>?_⟩
  refine⟨_,rfl,_,rfl,_,rfl,_,v,t,en,_,_,many,rfl,hn,ha9.keep (TS.same (s922.trans s23)),hok,hsz',SqL.of (s23 _ _ hen22),PairsAt.keep s23 hE22,fun e he=>?_,hm1,hm5,fun v0 u0 H24 s24 hau0 hoku0 hszu0=>?_⟩
  ·obtain⟨e0,h0,rfl⟩:=List.mem_map.mp he
   exact hes e0 h0
  have s2224:=s23.trans s24
  refine Ix (fun σ H'=>∃(v':V) (u:Tr),σ=[some (.ref a),some (.int (many:Int)),some (.ref rm),some (.str z),some v,some (.ref x),some (.ref en),some (.ref hl),some (.ref sn),ov,some (.int (i:Nat)),some v',v3,v4,v5,v6]∧Same H22 H'∧u.At H' v'∧u.ok many∧u.size≤60) ?_ (fun next=>?_)
  rotate_left
  ·refine⟨_,rfl,_,_,rfl,rfl,(by show (0:Int)<2;decide),rfl,_,rfl,?_⟩
   by_cases c:((i:Nat):Int)%2=1
   ·refine Bb (by show V.int (((i:Nat):Int)%2)=V.int 1;rw[c]) ?_
    refine⟨_,rfl,a,ns,6,rfl,(t9.trans (s922.trans s2224)).seq hS,h63,by decide,by decide,fun H25 hn6 s25=>?_⟩
    refine⟨_,_,rfl,rfl,⟨by decide,by decide⟩,_,_,rfl,rfl,(by show (0:Int)<3;decide),rfl,_,rfl,?_⟩
    by_cases c3:Fx ns 6 / 7%3=1
    ·refine Bb (by show V.int (Fx ns 6 / 7%3)=V.int 1;rw[c3]) ?_
     refine⟨_,rfl,a,ns,6,rfl,(t9.trans (s922.trans (s2224.trans s25))).seq hS,h63,by decide,by decide,fun H26 hn6b s26=>?_⟩
     refine⟨_,_,rfl,rfl,⟨by decide,by decide⟩,_,rfl,_,many,rfl,Int.ediv_nonneg hn6b (by decide),hm1,hm5,fun v' u H27 s27 hau hoku hszu=>?_⟩
     exact next _ _ ⟨v',u,rfl,s2224.trans (s25.trans (s26.trans s27)),hau,hoku,hszu⟩
    ·refine AY (fun z=>c3 (by have z:V.int (Fx ns 6 / 7%3)=V.int 1:=z;injection z)) ?_
     exact next _ _ ⟨v0,u0,rfl,s2224.trans s25,hau0.keep (TS.same s25),hoku0,hszu0⟩
   ·refine AY (fun z=>c (by have z:V.int (((i:Nat):Int)%2)=V.int 1:=z;injection z)) ?_
    exact AX (next _ _ ⟨v0,u0,rfl,s2224,hau0,hoku0,hszu0⟩)
  clear hau0 hoku0 hszu0 s2224 s23 s24
  rintro σ H30 ⟨v',u,rfl,s30,hau,hoku,hszu⟩
  have oku5:u.ok 5:=Tr.ok.mono hm5 hoku
  have hsn30:=s30 _ _ hsn
  refine⟨_,rfl,sn,_,rfl,.inl (SqL.of hsn30),fun hd hhd0=>?_⟩
  have s31:=Ag hhd0 (.lst (seen.map V.int))
  have hd31:AG (upd H30 hd (.lst (seen.map V.int))) hd seen:=upd_same
  show OT _ _ _ _ (upd H30 hd (.lst (seen.map V.int)))
  generalize upd H30 hd (.lst (seen.map V.int))=H31 at *
  have s2231:=s30.trans s31
  have s931:=s922.trans s2231
  have hau31:=hau.keep (TS.same s31)
  have T31:=T9.keep s931
  refine⟨_,rfl,_,rfl,_,rfl,x,hd,v',N,U,_,u,seen,rfl,T31,rfl,hm1,hm5,hau31,oku5,hoku,hszu,hd31,nsub,nne,fun p ws H32 s32 hp hway=>?_⟩
  have s2232:=s2231.trans s32
  have s932:=s922.trans s2232
  have T32:=T9.keep s932
  have hsn32:=(s31.trans s32) _ _ hsn30
  refine⟨_,rfl,_,rfl,hd,sn,_,_,rfl,rfl,rfl,LA,.inl ⟨SqL.of (s32 _ _ hd31),SqL.of hsn32⟩,_,rfl,?_⟩
  refine AX ?_
  refine⟨_,rfl,x,_,_,rfl,T32.ob,Gv,x,N,U,_,rfl,T32,fun e2 H33 s33 e20 he2=>?_⟩
  have hE33:=PairsAt.keep (s932.trans s33) hE9
  refine⟨_,rfl,e2,en,_,_,_,rfl,he2,hE33,(s2232.trans s33) _ _ hen22,PairsAt.keep (s2232.trans s33) hE22,fun e he=>by
   obtain⟨e0,h0,rfl⟩:=List.mem_map.mp he
   exact Nat.le_trans (hes e0 h0).2 (by decide),by rw[List.length_map];omega,_,rfl,?_⟩
  refine AX ?_
  have T33:=T32.keep s33
  refine⟨_,rfl,x,_,_,rfl,T33.ob,EL,x,N,U,_,rfl,T33,fun h2 H34 s34 h20 hh2=>?_⟩
  rw[hhe] at hh2
  have hhl34:=(s20.trans (s22.trans (s2232.trans (s33.trans s34)))) _ _ hhl
  refine⟨_,rfl,h2,hl,_,_,rfl,rfl,rfl,LA,.inl ⟨SqL.of hh2,SqL.of hhl34⟩,_,rfl,?_⟩
  refine AX ?_
  have s3234:=s33.trans s34
  have s934:=s932.trans s3234
  have T34:=T9.keep s934
  have hp34:=s3234 _ _ hp
  have hau34:=hau31.keep (TS.same (s32.trans s3234))
  have hsn34:=s3234 _ _ hsn32
  have s2234:=s2232.trans s3234
  have told:=OI hrule hway
  rcases told with⟨hng,y,z',rfl⟩|⟨l,xs,rfl,hl32,hl31,hrow⟩
  ·refine⟨_,rfl,_,_,_,_,rfl,.tup hp34,A4 _ _,_,rfl,?_⟩
   refine AX ?_
   refine⟨_,rfl,p,_,rfl,.inr (SqT.of hp34),_,_,rfl,rfl,_,rfl,?_⟩
   refine AY (by show ¬((3:Nat):Int)<2;decide) ?_
   refine⟨_,rfl,p,_,_,_,rfl,rfl,SqT.of hp34,Aj (j:=0) rfl,DP,fun rl hrl=>?_⟩
   have s35:=Ag hrl (.lst [.str "row",.str "never"])
   refine⟨rl,_,rfl,.inl (SqL.of upd_same),rfl,rfl,_,rfl,?_⟩
   generalize upd H34 rl _=H35 at *
   show if (!LK (.str "never") [.str "row",.str "never"])=true then _ else _
   refine AX ?_
   have hp35:=s35 _ _ hp34
   refine⟨_,rfl,_,rfl,p,many,_,rfl,hp35,.inl ⟨⟨_,y,z',rfl⟩,fun H36 s36=>?_⟩⟩
   have hp36:=s36 _ _ hp35
   have s3436:=s35.trans s36
   refine⟨_,rfl,p,_,_,_,rfl,rfl,SqT.of hp36,Aj (j:=0) rfl,rfl,_,rfl,?_⟩
   refine AY (by decide) ?_
   refine AX ?_
   refine⟨_,rfl,p,_,_,_,rfl,rfl,SqT.of hp36,Aj (j:=0) rfl,rfl,_,rfl,?_⟩
   refine AY (by decide) ?_
   refine⟨_,rfl,p,_,_,_,rfl,rfl,SqT.of hp36,Aj (j:=0) rfl,rfl,_,rfl,?_⟩
   refine Bb rfl ?_
   have T36:=T34.keep s3436
   refine⟨_,rfl,x,_,_,rfl,T36.ob,Hm,_,rfl,_,rfl,x,sn,v',N,U,_,u,seen,rfl,T36,hau34.keep (TS.same s3436),oku5,hszu,SqL.of (s3436 _ _ hsn34),wseen,nne,fun hn=>absurd hoku hn,fun _ H37 s37=>?_⟩
   refine⟨rfl,_,rfl,?_⟩
   refine AY (fun z=>hng (by have z:V.str _=V.str "grant":=z;injection z)) ?_
   have s2037:=s22.trans (s2234.trans (s3436.trans s37))
   exact⟨sn,seen,_,_,_,_,_,_,rfl,s2037,(s3436.trans s37) _ _ hsn34,nsub,nne⟩
  ·refine⟨_,rfl,_,_,_,_,rfl,.tup hp34,A4 _ _,_,rfl,?_⟩
   refine AX ?_
   refine⟨_,rfl,p,_,rfl,.inr (SqT.of hp34),_,_,rfl,rfl,_,rfl,?_⟩
   refine AY (by show ¬((2:Nat):Int)<2;decide) ?_
   refine⟨_,rfl,p,_,_,_,rfl,rfl,SqT.of hp34,Aj (j:=0) rfl,DP,fun rl hrl=>?_⟩
   have s35:=Ag hrl (.lst [.str "row",.str "never"])
   refine⟨rl,_,rfl,.inl (SqL.of upd_same),rfl,rfl,_,rfl,?_⟩
   generalize upd H34 rl _=H35 at *
   show if (!LK (.str "row") [.str "row",.str "never"])=true then _ else _
   refine AX ?_
   have hp35:=s35 _ _ hp34
   have s3235:=s3234.trans s35
   obtain⟨ts,hts,htok,hxl⟩:=JL (hrow.keep s3235) (hau31.keep (TS.same (s32.trans s3235))) hoku hszu
   refine⟨_,rfl,_,rfl,p,many,_,rfl,hp35,.inr ⟨l,xs,ts,rfl,s3235 _ _ hl32,by omega,hts,htok,fun H36 s36=>?_⟩⟩
   have s3236:=s3235.trans s36
   have s3136:=s32.trans s3236
   have hp36:=s36 _ _ hp35
   have hl36:=s3236 _ _ hl32
   refine⟨_,rfl,p,_,_,_,rfl,rfl,SqT.of hp36,Aj (j:=0) rfl,rfl,_,rfl,?_⟩
   refine Bb rfl ?_
   refine⟨_,rfl,_,rfl,?_⟩
   refine AY (fun z=>by cases z) ?_
   refine⟨_,rfl,_,rfl,l,_,rfl,.inl (SqL.of hl36),fun cl hcl=>?_⟩
   have s37:=Ag hcl (.lst xs)
   have cl37:upd H36 cl (.lst xs) cl=some (.lst xs):=upd_same
   generalize upd H36 cl _=H37 at *
   have s3137:=s3136.trans s37
   have s3237:=s3236.trans s37
   refine⟨_,rfl,_,rfl,x,cl,sn,v',N,U,many,z,rule,t,room,es,bas,ls,u,seen,xs,rfl,T31.keep s3137,full9.keep (s931.trans s3137),by omega,by omega,rm2,hm5,hau31.keep (TS.same s3137),hoku,hszu,(s31.trans s3137) _ _ hsn30,nsub,nne,cl37,hrow.keep s3237,fun H38 s38=>⟨_,rfl,?_⟩⟩
   refine AX ?_
   have s3138:=s3137.trans s38
   have hp38:=(s37.trans s38) _ _ hp36
   have hl38:=(s37.trans s38) _ _ hl36
   refine⟨_,rfl,p,_,_,_,rfl,rfl,SqT.of hp38,Aj (j:=0) rfl,rfl,_,rfl,?_⟩
   refine Bb rfl ?_
   refine⟨_,rfl,p,_,_,_,rfl,rfl,SqT.of hp38,Aj (j:=1) rfl,.inl ⟨rfl,_,SqL.of hl38⟩,_,rfl,l,_,_,rfl,rfl,hl38,AF (by omega),?_⟩
   have s3139:=AH s3138 hl31 (.lst (xs++[v']))
   have hp39:upd H38 l (.lst (xs++[v'])) p=some (.tup [.str "row",.ref l]):=by
    rw[Ax (Dv hp38 hl38 (by intro z;cases z))]
    exact hp38
   generalize upd H38 l _=H39 at *
   refine⟨_,rfl,_,rfl,_,rfl,x,sn,v',N,U,_,u,seen,rfl,T31.keep s3139,rfl,hm1,hm5,hau31.keep (TS.same s3139),oku5,hoku,hszu,(s31.trans s3139) _ _ hsn30,nsub,nne,fun p2 ws2 H40 s40 hp2 hway2=>?_⟩
   obtain⟨l2,xs2,rfl,hl2,hrow2⟩:=Ma hrow hway2
   have s3140:=s3139.trans s40
   obtain⟨ts2,hts2,htok2,hxl2⟩:=JL hrow2 (hau31.keep (TS.same s3140)) hoku hszu
   refine⟨_,rfl,p2,many,_,rfl,hp2,.inr ⟨l2,xs2,ts2,rfl,hl2,by omega,hts2,htok2,fun H41 s41=>?_⟩⟩
   have s3141:=s3140.trans s41
   refine⟨_,rfl,_,rfl,?_⟩
   refine AY (fun z=>by cases z) ?_
   refine⟨_,rfl,_,rfl,_,rfl,_,rfl,x,l2,sn,v',N,U,many,z,rule,t,room,es,bas,ls,u,seen,xs2,rfl,T31.keep s3141,full9.keep (s931.trans s3141),by omega,by omega,rm2,hm5,hau31.keep (TS.same s3141),hoku,hszu,(s31.trans s3141) _ _ hsn30,nsub,nne,s41 _ _ hl2,hrow2.keep s41,fun H42 s42=>⟨_,rfl,?_⟩⟩
   refine AX ?_
   have s3142:=s3141.trans s42
   have hp42:=(s40.trans (s41.trans s42)) _ _ hp39
   refine⟨_,rfl,p,_,_,_,rfl,rfl,SqT.of hp42,Aj (j:=0) rfl,rfl,_,rfl,?_⟩
   refine AY (by decide) ?_
   refine AX ?_
   exact⟨sn,seen,_,_,_,_,_,_,rfl,s22.trans (s2231.trans s3142),(s31.trans s3142) _ _ hsn30,nsub,nne⟩
 ·rintro σ Hi ⟨sn,seen,v1,v2,v3,v4,v5,v6,rfl,_⟩
  exact q _
end
set_option maxHeartbeats 8000000 in
theorem all_mk {l:PySem.W.OpenLaw} {w:World} {K:PySem.W.Frag} {h:Heap} {mg:Str→Option Value} {fa f1 f2 f3 f4 f5 f6 f7 f8 f9 f10 f11 f12 f13 f14 f15 f16 f17 f18 f19 f20 f21 f22 f23 f24 f25 f26 f27 f28 f29 f30 f31 f32 f33 f34 f35 f36 f37 f38 f39 f40 f41 f42 f43 f44 f45 f46 f47 f48 f49 f50 f51 f52 f53 f54 f55 f56 f57 f58 f59 f60 f61 f62 f63 f64 f65 f66 f67:Addr} (X:K.In h) (G:h.Ns mainGlobals mg) (hfa:mg "law"=some (.ref fa))
  {od1 an1 od2 an2 od3 an3 od4 an4 od5 an5 od6 an6 od7 an7 od8 an8 od9 an9 od10 an10 od11 an11 od12 an12 od13 an13 od14 an14 od15 an15 od16 an16 od17 an17 od18 an18 od19 an19 od20 an20 od21 an21 od22 an22 od23 an23 od24 an24 od25 an25 od26 an26 od27 an27 od28 an28 od29 an29 od30 an30 od31 an31 od32 an32 od33 an33 od34 an34 od35 an35 od36 an36 od37 an37 od38 an38 od39 an39 od40 an40 od41 an41 od42 an42 od43 an43 od44 an44 od45 an45 od46 an46 od47 an47 od48 an48 od49 an49 od50 an50 od51 an51 od52 an52 od53 an53 od54 an54 od55 an55 od56 an56 od57 an57 od58 an58 od59 an59 od60 an60 od61 an61 od62 an62 od63 an63 od64 an64 od65 an65 od66 an66 od67 an67:Option Addr} {sl1 sl2 sl3 sl4 sl5 sl6 sl7 sl8 sl9 sl10 sl11 sl12 sl13 sl14 sl15 sl16 sl17 sl18 sl19 sl20 sl21 sl22 sl23 sl24 sl25 sl26 sl27 sl28 sl29 sl30 sl31 sl32 sl33 sl34 sl35 sl36 sl37 sl38 sl39 sl40 sl41 sl42 sl43 sl44 sl45 sl46 sl47 sl48 sl49 sl50 sl51 sl52 sl53 sl54 sl55 sl56 sl57 sl58 sl59 sl60 sl61 sl62 sl63 sl64 sl65 sl66 sl67:Array (Option Value)} {oc1 kV1 dc1 pm1 cd1 ct1 oc2 kV2 dc2 pm2 cd2 ct2 oc3 kV3 dc3 pm3 cd3 ct3 oc4 kV4 dc4 pm4 cd4 ct4 oc5 kV5 dc5 pm5 cd5 ct5 oc6 kV6 dc6 pm6 cd6 ct6 oc7 kV7 dc7 pm7 cd7 ct7 oc8 kV8 dc8 pm8 cd8 ct8 oc9 kV9 dc9 pm9 cd9 ct9 oc10 kV10 dc10 pm10 cd10 ct10 oc11 kV11 dc11 pm11 cd11 ct11 oc12 kV12 dc12 pm12 cd12 ct12 oc13 kV13 dc13 pm13 cd13 ct13 oc14 kV14 dc14 pm14 cd14 ct14 oc15 kV15 dc15 pm15 cd15 ct15 oc16 kV16 dc16 pm16 cd16 ct16 oc17 kV17 dc17 pm17 cd17 ct17 oc18 kV18 dc18 pm18 cd18 ct18 oc19 kV19 dc19 pm19 cd19 ct19 oc20 kV20 dc20 pm20 cd20 ct20 oc21 kV21 dc21 pm21 cd21 ct21 oc22 kV22 dc22 pm22 cd22 ct22 oc23 kV23 dc23 pm23 cd23 ct23 oc24 kV24 dc24 pm24 cd24 ct24 oc25 kV25 dc25 pm25 cd25 ct25 oc26 kV26 dc26 pm26 cd26 ct26 oc27 kV27 dc27 pm27 cd27 ct27 oc28 kV28 dc28 pm28 cd28 ct28 oc29 kV29 dc29 pm29 cd29 ct29 oc30 kV30 dc30 pm30 cd30 ct30 oc31 kV31 dc31 pm31 cd31 ct31 oc32 kV32 dc32 pm32 cd32 ct32 oc33 kV33 dc33 pm33 cd33 ct33 oc34 kV34 dc34 pm34 cd34 ct34 oc35 kV35 dc35 pm35 cd35 ct35 oc36 kV36 dc36 pm36 cd36 ct36 oc37 kV37 dc37 pm37 cd37 ct37 oc38 kV38 dc38 pm38 cd38 ct38 oc39 kV39 dc39 pm39 cd39 ct39 oc40 kV40 dc40 pm40 cd40 ct40 oc41 kV41 dc41 pm41 cd41 ct41 oc42 kV42 dc42 pm42 cd42 ct42 oc43 kV43 dc43 pm43 cd43 ct43 oc44 kV44 dc44 pm44 cd44 ct44 oc45 kV45 dc45 pm45 cd45 ct45 oc46 kV46 dc46 pm46 cd46 ct46 oc47 kV47 dc47 pm47 cd47 ct47 oc48 kV48 dc48 pm48 cd48 ct48 oc49 kV49 dc49 pm49 cd49 ct49 oc50 kV50 dc50 pm50 cd50 ct50 oc51 kV51 dc51 pm51 cd51 ct51 oc52 kV52 dc52 pm52 cd52 ct52 oc53 kV53 dc53 pm53 cd53 ct53 oc54 kV54 dc54 pm54 cd54 ct54 oc55 kV55 dc55 pm55 cd55 ct55 oc56 kV56 dc56 pm56 cd56 ct56 oc57 kV57 dc57 pm57 cd57 ct57 oc58 kV58 dc58 pm58 cd58 ct58 oc59 kV59 dc59 pm59 cd59 ct59 oc60 kV60 dc60 pm60 cd60 ct60 oc61 kV61 dc61 pm61 cd61 ct61 oc62 kV62 dc62 pm62 cd62 ct62 oc63 kV63 dc63 pm63 cd63 ct63 oc64 kV64 dc64 pm64 cd64 ct64 oc65 kV65 dc65 pm65 cd65 ct65 oc66 kV66 dc66 pm66 cd66 ct66 oc67 kV67 dc67 pm67 cd67 ct67:Value} {cT NT:Addr} {xTnm xTq:Str} {xTbs:List Value} {xThd:Bool} {xTsn:List Str} {xTsub:List Value} {xTab:Bool} {xTcol:Option Bool} {xTdd:Option Addr} {xTa xTb xTc xTd xTe xTf:Option Value} {xToc:Value} {xTod:Option Addr} {xTes:Array DictEntry} {xTep:Nat} {xTsl:Array (Option Value)} {XDT:ClassData} {cS NcS:Addr} {xnm0 xq0:Str} {xbs0:List Value} {xsn0:List Str} {xsub0:List Value} {xab0:Bool} {xcol0:Option Bool} {xdd0:Option Addr} {xka0 xkb0 xkc0 xkd0 xkf0:Option Value} {xoc0:Value} {xod0:Option Addr} {xes0:Array DictEntry} {xep0:Nat} {xsl0:Array (Option Value)} {XD0:ClassData} {cB NcB:Addr} {xnm1 xq1:Str} {xbs1:List Value} {xsn1:List Str} {xsub1:List Value} {xab1:Bool} {xcol1:Option Bool} {xdd1:Option Addr} {xka1 xkb1 xkc1 xkd1 xkf1:Option Value} {xoc1:Value} {xod1:Option Addr} {xes1:Array DictEntry} {xep1:Nat} {xsl1:Array (Option Value)} {XD1:ClassData} {cN NcN:Addr} {xnm2 xq2:Str} {xbs2:List Value} {xsn2:List Str} {xsub2:List Value} {xab2:Bool} {xcol2:Option Bool} {xdd2:Option Addr} {xka2 xkb2 xkc2 xkd2 xkf2:Option Value} {xoc2:Value} {xod2:Option Addr} {xes2:Array DictEntry} {xep2:Nat} {xsl2:Array (Option Value)} {XD2:ClassData} {cO NcO:Addr} {xnm3 xq3:Str} {xbs3:List Value} {xsn3:List Str} {xsub3:List Value} {xab3:Bool} {xcol3:Option Bool} {xdd3:Option Addr} {xka3 xkb3 xkc3 xkd3 xkf3:Option Value} {xoc3:Value} {xod3:Option Addr} {xes3:Array DictEntry} {xep3:Nat} {xsl3:Array (Option Value)} {XD3:ClassData} {cK:Addr} {aA kpA kqA krA:Addr} {kdaA kdbA kdcA kddA:Option Addr} {ktaA ktbA ktcA ktdA kteA ktfA:Tok} {knaA knbA kncA kndA:Nat} {ksaA ksbA kscA ksdA:Array (Option Value)} {aN kpN kqN krN:Addr} {kdaN kdbN kdcN kddN:Option Addr} {ktaN ktbN ktcN ktdN kteN ktfN:Tok} {knaN knbN kncN kndN:Nat} {ksaN ksbN kscN ksdN:Array (Option Value)}
  (a1:PySem.W.nsIn K mainGlobals "_law_num"=some (some (.ref f1))) (l1:K.lookup f1=some ⟨oc1,od1,.func (PySem.W.fnOf "_law_num" "_law_num" (Ar MB) (Ap MB) (Ae MB) .none kV1 dc1 pm1 an1 cd1 ct1),sl1⟩) (c1:PySem.W.codeIn K cd1 "_law_num"=true) (k1:PySem.W.keepIn K (.ref f1)=true)
  (a2:PySem.W.nsIn K mainGlobals "_law_few"=some (some (.ref f2))) (l2:K.lookup f2=some ⟨oc2,od2,.func (PySem.W.fnOf "_law_few" "_law_few" (Ar MH) (Ap MH) (Ae MH) .none kV2 dc2 pm2 an2 cd2 ct2),sl2⟩) (c2:PySem.W.codeIn K cd2 "_law_few"=true) (k2:PySem.W.keepIn K (.ref f2)=true)
  (a3:PySem.W.nsIn K mainGlobals "_law_sentence"=some (some (.ref f3))) (l3:K.lookup f3=some ⟨oc3,od3,.func (PySem.W.fnOf "_law_sentence" "_law_sentence" (Ar HC) (Ap HC) (Ae HC) .none kV3 dc3 pm3 an3 cd3 ct3),sl3⟩) (c3:PySem.W.codeIn K cd3 "_law_sentence"=true) (k3:PySem.W.keepIn K (.ref f3)=true)
  (a4:PySem.W.nsIn K mainGlobals "_law_worlds"=some (some (.ref f4))) (l4:K.lookup f4=some ⟨oc4,od4,.func (PySem.W.fnOf "_law_worlds" "_law_worlds" (Ar Cq) (Ap Cq) (Ae Cq) .none kV4 dc4 pm4 an4 cd4 ct4),sl4⟩) (c4:PySem.W.codeIn K cd4 "_law_worlds"=true) (k4:PySem.W.keepIn K (.ref f4)=true)
  (a5:PySem.W.nsIn K mainGlobals "_law_some"=some (some (.ref f5))) (l5:K.lookup f5=some ⟨oc5,od5,.func (PySem.W.fnOf "_law_some" "_law_some" (Ar FB) (Ap FB) (Ae FB) .none kV5 dc5 pm5 an5 cd5 ct5),sl5⟩) (c5:PySem.W.codeIn K cd5 "_law_some"=true) (k5:PySem.W.keepIn K (.ref f5)=true)
  (a6:PySem.W.nsIn K mainGlobals "_law_some_one"=some (some (.ref f6))) (l6:K.lookup f6=some ⟨oc6,od6,.func (PySem.W.fnOf "_law_some_one" "_law_some_one" (Ar B3) (Ap B3) (Ae B3) .none kV6 dc6 pm6 an6 cd6 ct6),sl6⟩) (c6:PySem.W.codeIn K cd6 "_law_some_one"=true) (k6:PySem.W.keepIn K (.ref f6)=true)
  (a7:PySem.W.nsIn K mainGlobals "_law_room"=some (some (.ref f7))) (l7:K.lookup f7=some ⟨oc7,od7,.func (PySem.W.fnOf "_law_room" "_law_room" (Ar Fn) (Ap Fn) (Ae Fn) .none kV7 dc7 pm7 an7 cd7 ct7),sl7⟩) (c7:PySem.W.codeIn K cd7 "_law_room"=true) (k7:PySem.W.keepIn K (.ref f7)=true)
  (a8:PySem.W.nsIn K mainGlobals "_law_true"=some (some (.ref f8))) (l8:K.lookup f8=some ⟨oc8,od8,.func (PySem.W.fnOf "_law_true" "_law_true" (Ar Er) (Ap Er) (Ae Er) .none kV8 dc8 pm8 an8 cd8 ct8),sl8⟩) (c8:PySem.W.codeIn K cd8 "_law_true"=true) (k8:PySem.W.keepIn K (.ref f8)=true)
  (a9:PySem.W.nsIn K mainGlobals "_law_ins"=some (some (.ref f9))) (l9:K.lookup f9=some ⟨oc9,od9,.func (PySem.W.fnOf "_law_ins" "_law_ins" (Ar Ij) (Ap Ij) (Ae Ij) .none kV9 dc9 pm9 an9 cd9 ct9),sl9⟩) (c9:PySem.W.codeIn K cd9 "_law_ins"=true) (k9:PySem.W.keepIn K (.ref f9)=true)
  (a10:PySem.W.nsIn K mainGlobals "_law_kind"=some (some (.ref f10))) (l10:K.lookup f10=some ⟨oc10,od10,.func (PySem.W.fnOf "_law_kind" "_law_kind" (Ar Fz) (Ap Fz) (Ae Fz) .none kV10 dc10 pm10 an10 cd10 ct10),sl10⟩) (c10:PySem.W.codeIn K cd10 "_law_kind"=true) (k10:PySem.W.keepIn K (.ref f10)=true)
  (a11:PySem.W.nsIn K mainGlobals "_law_start"=some (some (.ref f11))) (l11:K.lookup f11=some ⟨oc11,od11,.func (PySem.W.fnOf "_law_start" "_law_start" (Ar D1) (Ap D1) (Ae D1) .none kV11 dc11 pm11 an11 cd11 ct11),sl11⟩) (c11:PySem.W.codeIn K cd11 "_law_start"=true) (k11:PySem.W.keepIn K (.ref f11)=true)
  (a12:PySem.W.nsIn K mainGlobals "_law_last"=some (some (.ref f12))) (l12:K.lookup f12=some ⟨oc12,od12,.func (PySem.W.fnOf "_law_last" "_law_last" (Ar Fe) (Ap Fe) (Ae Fe) .none kV12 dc12 pm12 an12 cd12 ct12),sl12⟩) (c12:PySem.W.codeIn K cd12 "_law_last"=true) (k12:PySem.W.keepIn K (.ref f12)=true)
  (a13:PySem.W.nsIn K mainGlobals "_law_asked"=some (some (.ref f13))) (l13:K.lookup f13=some ⟨oc13,od13,.func (PySem.W.fnOf "_law_asked" "_law_asked" (Ar DY) (Ap DY) (Ae DY) .none kV13 dc13 pm13 an13 cd13 ct13),sl13⟩) (c13:PySem.W.codeIn K cd13 "_law_asked"=true) (k13:PySem.W.keepIn K (.ref f13)=true)
  (a14:PySem.W.nsIn K mainGlobals "_law_asks"=some (some (.ref f14))) (l14:K.lookup f14=some ⟨oc14,od14,.func (PySem.W.fnOf "_law_asks" "_law_asks" (Ar Ft) (Ap Ft) (Ae Ft) .none kV14 dc14 pm14 an14 cd14 ct14),sl14⟩) (c14:PySem.W.codeIn K cd14 "_law_asks"=true) (k14:PySem.W.keepIn K (.ref f14)=true)
  (a15:PySem.W.nsIn K mainGlobals "_law_seen"=some (some (.ref f15))) (l15:K.lookup f15=some ⟨oc15,od15,.func (PySem.W.fnOf "_law_seen" "_law_seen" (Ar FH) (Ap FH) (Ae FH) .none kV15 dc15 pm15 an15 cd15 ct15),sl15⟩) (c15:PySem.W.codeIn K cd15 "_law_seen"=true) (k15:PySem.W.keepIn K (.ref f15)=true)
  (a16:PySem.W.nsIn K mainGlobals "_law_seen_at"=some (some (.ref f16))) (l16:K.lookup f16=some ⟨oc16,od16,.func (PySem.W.fnOf "_law_seen_at" "_law_seen_at" (Ar CQ) (Ap CQ) (Ae CQ) .none kV16 dc16 pm16 an16 cd16 ct16),sl16⟩) (c16:PySem.W.codeIn K cd16 "_law_seen_at"=true) (k16:PySem.W.keepIn K (.ref f16)=true)
  (a17:PySem.W.findIn K (.ref cK) "over"=some (some (.ref f17))) (i17:PySem.W.isFn K (.ref f17)=true) (l17:K.lookup f17=some ⟨oc17,od17,.func (PySem.W.fnOf "over" "Talk.over" (Ar Fa) (Ap Fa) (Ae Fa) .none kV17 dc17 pm17 an17 cd17 ct17),sl17⟩) (c17:PySem.W.codeIn K cd17 "Talk.over"=true) (k17:PySem.W.keepIn K (.ref f17)=true)
  (a18:PySem.W.nsIn K mainGlobals "refuse_over"=some (some (.ref f18))) (l18:K.lookup f18=some ⟨oc18,od18,.func (PySem.W.fnOf "refuse_over" "refuse_over" (Ar C0) (Ap C0) (Ae C0) .none kV18 dc18 pm18 an18 cd18 ct18),sl18⟩) (c18:PySem.W.codeIn K cd18 "refuse_over"=true) (k18:PySem.W.keepIn K (.ref f18)=true)
  (a19:PySem.W.nsIn K mainGlobals "parts_of"=some (some (.ref f19))) (l19:K.lookup f19=some ⟨oc19,od19,.func (PySem.W.fnOf "parts_of" "parts_of" (Ar Fj) (Ap Fj) (Ae Fj) .none kV19 dc19 pm19 an19 cd19 ct19),sl19⟩) (c19:PySem.W.codeIn K cd19 "parts_of"=true) (k19:PySem.W.keepIn K (.ref f19)=true)
  (a20:PySem.W.nsIn K mainGlobals "letters"=some (some (.ref f20))) (l20:K.lookup f20=some ⟨oc20,od20,.func (PySem.W.fnOf "letters" "letters" (Ar Cr) (Ap Cr) (Ae Cr) .none kV20 dc20 pm20 an20 cd20 ct20),sl20⟩) (c20:PySem.W.codeIn K cd20 "letters"=true) (k20:PySem.W.keepIn K (.ref f20)=true)
  (a21:PySem.W.nsIn K mainGlobals "refuse_strange"=some (some (.ref f21))) (l21:K.lookup f21=some ⟨oc21,od21,.func (PySem.W.fnOf "refuse_strange" "refuse_strange" (Ar CU) (Ap CU) (Ae CU) .none kV21 dc21 pm21 an21 cd21 ct21),sl21⟩) (c21:PySem.W.codeIn K cd21 "refuse_strange"=true) (k21:PySem.W.keepIn K (.ref f21)=true)
  (a22:PySem.W.nsIn K mainGlobals "steps_of"=some (some (.ref f22))) (l22:K.lookup f22=some ⟨oc22,od22,.func (PySem.W.fnOf "steps_of" "steps_of" (Ar Fo) (Ap Fo) (Ae Fo) .none kV22 dc22 pm22 an22 cd22 ct22),sl22⟩) (c22:PySem.W.codeIn K cd22 "steps_of"=true) (k22:PySem.W.keepIn K (.ref f22)=true)
  (a23:PySem.W.nsIn K mainGlobals "letter_holds"=some (some (.ref f23))) (l23:K.lookup f23=some ⟨oc23,od23,.func (PySem.W.fnOf "letter_holds" "letter_holds" (Ar FF) (Ap FF) (Ae FF) .none kV23 dc23 pm23 an23 cd23 ct23),sl23⟩) (c23:PySem.W.codeIn K cd23 "letter_holds"=true) (k23:PySem.W.keepIn K (.ref f23)=true)
  (a24:PySem.W.nsIn K mainGlobals "joined"=some (some (.ref f24))) (l24:K.lookup f24=some ⟨oc24,od24,.func (PySem.W.fnOf "joined" "joined" (Ar Eg) (Ap Eg) (Ae Eg) .none kV24 dc24 pm24 an24 cd24 ct24),sl24⟩) (c24:PySem.W.codeIn K cd24 "joined"=true) (k24:PySem.W.keepIn K (.ref f24)=true)
  (a25:PySem.W.nsIn K mainGlobals "true_by"=some (some (.ref f25))) (l25:K.lookup f25=some ⟨oc25,od25,.func (PySem.W.fnOf "true_by" "true_by" (Ar Ee) (Ap Ee) (Ae Ee) .none kV25 dc25 pm25 an25 cd25 ct25),sl25⟩) (c25:PySem.W.codeIn K cd25 "true_by"=true) (k25:PySem.W.keepIn K (.ref f25)=true)
  (a26:PySem.W.nsIn K mainGlobals "worlds_of"=some (some (.ref f26))) (l26:K.lookup f26=some ⟨oc26,od26,.func (PySem.W.fnOf "worlds_of" "worlds_of" (Ar B5) (Ap B5) (Ae B5) .none kV26 dc26 pm26 an26 cd26 ct26),sl26⟩) (c26:PySem.W.codeIn K cd26 "worlds_of"=true) (k26:PySem.W.keepIn K (.ref f26)=true)
  (a27:PySem.W.nsIn K mainGlobals "in_first_only"=some (some (.ref f27))) (l27:K.lookup f27=some ⟨oc27,od27,.func (PySem.W.fnOf "in_first_only" "in_first_only" (Ar Fu) (Ap Fu) (Ae Fu) .none kV27 dc27 pm27 an27 cd27 ct27),sl27⟩) (c27:PySem.W.codeIn K cd27 "in_first_only"=true) (k27:PySem.W.keepIn K (.ref f27)=true)
  (a28:PySem.W.nsIn K mainGlobals "all_within"=some (some (.ref f28))) (l28:K.lookup f28=some ⟨oc28,od28,.func (PySem.W.fnOf "all_within" "all_within" (Ar Fg) (Ap Fg) (Ae Fg) .none kV28 dc28 pm28 an28 cd28 ct28),sl28⟩) (c28:PySem.W.codeIn K cd28 "all_within"=true) (k28:PySem.W.keepIn K (.ref f28)=true)
  (a29:PySem.W.nsIn K mainGlobals "in_both"=some (some (.ref f29))) (l29:K.lookup f29=some ⟨oc29,od29,.func (PySem.W.fnOf "in_both" "in_both" (Ar HU) (Ap HU) (Ae HU) .none kV29 dc29 pm29 an29 cd29 ct29),sl29⟩) (c29:PySem.W.codeIn K cd29 "in_both"=true) (k29:PySem.W.keepIn K (.ref f29)=true)
  (a30:PySem.W.nsIn K mainGlobals "some_within"=some (some (.ref f30))) (l30:K.lookup f30=some ⟨oc30,od30,.func (PySem.W.fnOf "some_within" "some_within" (Ar Fh) (Ap Fh) (Ae Fh) .none kV30 dc30 pm30 an30 cd30 ct30),sl30⟩) (c30:PySem.W.codeIn K cd30 "some_within"=true) (k30:PySem.W.keepIn K (.ref f30)=true)
  (a31:PySem.W.nsIn K mainGlobals "plain"=some (some (.ref f31))) (l31:K.lookup f31=some ⟨oc31,od31,.func (PySem.W.fnOf "plain" "plain" (Ar E6) (Ap E6) (Ae E6) .none kV31 dc31 pm31 an31 cd31 ct31),sl31⟩) (c31:PySem.W.codeIn K cd31 "plain"=true) (k31:PySem.W.keepIn K (.ref f31)=true)
  (a32:PySem.W.nsIn K mainGlobals "left_by"=some (some (.ref f32))) (l32:K.lookup f32=some ⟨oc32,od32,.func (PySem.W.fnOf "left_by" "left_by" (Ar Ea) (Ap Ea) (Ae Ea) .none kV32 dc32 pm32 an32 cd32 ct32),sl32⟩) (c32:PySem.W.codeIn K cd32 "left_by"=true) (k32:PySem.W.keepIn K (.ref f32)=true)
  (a33:PySem.W.nsIn K mainGlobals "missed_side"=some (some (.ref f33))) (l33:K.lookup f33=some ⟨oc33,od33,.func (PySem.W.fnOf "missed_side" "missed_side" (Ar D3) (Ap D3) (Ae D3) .none kV33 dc33 pm33 an33 cd33 ct33),sl33⟩) (c33:PySem.W.codeIn K cd33 "missed_side"=true) (k33:PySem.W.keepIn K (.ref f33)=true)
  (a34:PySem.W.nsIn K mainGlobals "barring_side"=some (some (.ref f34))) (l34:K.lookup f34=some ⟨oc34,od34,.func (PySem.W.fnOf "barring_side" "barring_side" (Ar Cy) (Ap Cy) (Ae Cy) .none kV34 dc34 pm34 an34 cd34 ct34),sl34⟩) (c34:PySem.W.codeIn K cd34 "barring_side"=true) (k34:PySem.W.keepIn K (.ref f34)=true)
  (a35:PySem.W.nsIn K mainGlobals "answer"=some (some (.ref f35))) (l35:K.lookup f35=some ⟨oc35,od35,.func (PySem.W.fnOf "answer" "answer" (Ar Ef) (Ap Ef) (Ae Ef) .none kV35 dc35 pm35 an35 cd35 ct35),sl35⟩) (c35:PySem.W.codeIn K cd35 "answer"=true) (k35:PySem.W.keepIn K (.ref f35)=true)
  (a36:PySem.W.findIn K (.ref cK) "held"=some (some (.ref f36))) (i36:PySem.W.isFn K (.ref f36)=true) (l36:K.lookup f36=some ⟨oc36,od36,.func (PySem.W.fnOf "held" "Talk.held" (Ar E4) (Ap E4) (Ae E4) .none kV36 dc36 pm36 an36 cd36 ct36),sl36⟩) (c36:PySem.W.codeIn K cd36 "Talk.held"=true) (k36:PySem.W.keepIn K (.ref f36)=true)
  (a37:PySem.W.findIn K (.ref cK) "base"=some (some (.ref f37))) (i37:PySem.W.isFn K (.ref f37)=true) (l37:K.lookup f37=some ⟨oc37,od37,.func (PySem.W.fnOf "base" "Talk.base" (Ar E5) (Ap E5) (Ae E5) .none kV37 dc37 pm37 an37 cd37 ct37),sl37⟩) (c37:PySem.W.codeIn K cd37 "Talk.base"=true) (k37:PySem.W.keepIn K (.ref f37)=true)
  (a38:PySem.W.findIn K (.ref cK) "going"=some (some (.ref f38))) (i38:PySem.W.isFn K (.ref f38)=true) (l38:K.lookup f38=some ⟨oc38,od38,.func (PySem.W.fnOf "going" "Talk.going" (Ar D2) (Ap D2) (Ae D2) .none kV38 dc38 pm38 an38 cd38 ct38),sl38⟩) (c38:PySem.W.codeIn K cd38 "Talk.going"=true) (k38:PySem.W.keepIn K (.ref f38)=true)
  (a39:PySem.W.findIn K (.ref cK) "ask"=some (some (.ref f39))) (i39:PySem.W.isFn K (.ref f39)=true) (l39:K.lookup f39=some ⟨oc39,od39,.func (PySem.W.fnOf "ask" "Talk.ask" (Ar Ih) (Ap Ih) (Ae Ih) .none kV39 dc39 pm39 an39 cd39 ct39),sl39⟩) (c39:PySem.W.codeIn K cd39 "Talk.ask"=true) (k39:PySem.W.keepIn K (.ref f39)=true)
  (a40:PySem.W.findIn K (.ref cK) "say"=some (some (.ref f40))) (i40:PySem.W.isFn K (.ref f40)=true) (l40:K.lookup f40=some ⟨oc40,od40,.func (PySem.W.fnOf "say" "Talk.say" (Ar Gw) (Ap Gw) (Ae Gw) .none kV40 dc40 pm40 an40 cd40 ct40),sl40⟩) (c40:PySem.W.codeIn K cd40 "Talk.say"=true) (k40:PySem.W.keepIn K (.ref f40)=true)
  (a41:PySem.W.nsIn K mainGlobals "_law_driven"=some (some (.ref f41))) (l41:K.lookup f41=some ⟨oc41,od41,.func (PySem.W.fnOf "_law_driven" "_law_driven" (Ar Ct) (Ap Ct) (Ae Ct) .none kV41 dc41 pm41 an41 cd41 ct41),sl41⟩) (c41:PySem.W.codeIn K cd41 "_law_driven"=true) (k41:PySem.W.keepIn K (.ref f41)=true)
  (a42:PySem.W.nsIn K mainGlobals "_law_rule"=some (some (.ref f42))) (l42:K.lookup f42=some ⟨oc42,od42,.func (PySem.W.fnOf "_law_rule" "_law_rule" (Ar E3) (Ap E3) (Ae E3) .none kV42 dc42 pm42 an42 cd42 ct42),sl42⟩) (c42:PySem.W.codeIn K cd42 "_law_rule"=true) (k42:PySem.W.keepIn K (.ref f42)=true)
  (a43:PySem.W.nsIn K mainGlobals "_law_goal"=some (some (.ref f43))) (l43:K.lookup f43=some ⟨oc43,od43,.func (PySem.W.fnOf "_law_goal" "_law_goal" (Ar Fp) (Ap Fp) (Ae Fp) .none kV43 dc43 pm43 an43 cd43 ct43),sl43⟩) (c43:PySem.W.codeIn K cd43 "_law_goal"=true) (k43:PySem.W.keepIn K (.ref f43)=true)
  (a44:PySem.W.nsIn K mainGlobals "_law_whole"=some (some (.ref f44))) (l44:K.lookup f44=some ⟨oc44,od44,.func (PySem.W.fnOf "_law_whole" "_law_whole" (Ar Fk) (Ap Fk) (Ae Fk) .none kV44 dc44 pm44 an44 cd44 ct44),sl44⟩) (c44:PySem.W.codeIn K cd44 "_law_whole"=true) (k44:PySem.W.keepIn K (.ref f44)=true)
  (a45:PySem.W.nsIn K mainGlobals "_law_tree_is"=some (some (.ref f45))) (l45:K.lookup f45=some ⟨oc45,od45,.func (PySem.W.fnOf "_law_tree_is" "_law_tree_is" (Ar Ha) (Ap Ha) (Ae Ha) .none kV45 dc45 pm45 an45 cd45 ct45),sl45⟩) (c45:PySem.W.codeIn K cd45 "_law_tree_is"=true) (k45:PySem.W.keepIn K (.ref f45)=true)
  (a46:PySem.W.nsIn K mainGlobals "_law_says"=some (some (.ref f46))) (l46:K.lookup f46=some ⟨oc46,od46,.func (PySem.W.fnOf "_law_says" "_law_says" (Ar HD) (Ap HD) (Ae HD) .none kV46 dc46 pm46 an46 cd46 ct46),sl46⟩) (c46:PySem.W.codeIn K cd46 "_law_says"=true) (k46:PySem.W.keepIn K (.ref f46)=true)
  (a47:PySem.W.nsIn K mainGlobals "_law_pair_is"=some (some (.ref f47))) (l47:K.lookup f47=some ⟨oc47,od47,.func (PySem.W.fnOf "_law_pair_is" "_law_pair_is" (Ar E9) (Ap E9) (Ae E9) .none kV47 dc47 pm47 an47 cd47 ct47),sl47⟩) (c47:PySem.W.codeIn K cd47 "_law_pair_is"=true) (k47:PySem.W.keepIn K (.ref f47)=true)
  (a48:PySem.W.nsIn K mainGlobals "_law_pairs_are"=some (some (.ref f48))) (l48:K.lookup f48=some ⟨oc48,od48,.func (PySem.W.fnOf "_law_pairs_are" "_law_pairs_are" (Ar DR) (Ap DR) (Ae DR) .none kV48 dc48 pm48 an48 cd48 ct48),sl48⟩) (c48:PySem.W.codeIn K cd48 "_law_pairs_are"=true) (k48:PySem.W.keepIn K (.ref f48)=true)
  (a49:PySem.W.nsIn K mainGlobals "_law_small"=some (some (.ref f49))) (l49:K.lookup f49=some ⟨oc49,od49,.func (PySem.W.fnOf "_law_small" "_law_small" (Ar Ed) (Ap Ed) (Ae Ed) .none kV49 dc49 pm49 an49 cd49 ct49),sl49⟩) (c49:PySem.W.codeIn K cd49 "_law_small"=true) (k49:PySem.W.keepIn K (.ref f49)=true)
  (a50:PySem.W.nsIn K mainGlobals "_law_good"=some (some (.ref f50))) (l50:K.lookup f50=some ⟨oc50,od50,.func (PySem.W.fnOf "_law_good" "_law_good" (Ar Ep) (Ap Ep) (Ae Ep) .none kV50 dc50 pm50 an50 cd50 ct50),sl50⟩) (c50:PySem.W.codeIn K cd50 "_law_good"=true) (k50:PySem.W.keepIn K (.ref f50)=true)
  (a51:PySem.W.nsIn K mainGlobals "_law_row_of"=some (some (.ref f51))) (l51:K.lookup f51=some ⟨oc51,od51,.func (PySem.W.fnOf "_law_row_of" "_law_row_of" (Ar DZ) (Ap DZ) (Ae DZ) .none kV51 dc51 pm51 an51 cd51 ct51),sl51⟩) (c51:PySem.W.codeIn K cd51 "_law_row_of"=true) (k51:PySem.W.keepIn K (.ref f51)=true)
  (a52:PySem.W.nsIn K mainGlobals "sides_of"=some (some (.ref f52))) (l52:K.lookup f52=some ⟨oc52,od52,.func (PySem.W.fnOf "sides_of" "sides_of" (Ar Cv) (Ap Cv) (Ae Cv) .none kV52 dc52 pm52 an52 cd52 ct52),sl52⟩) (c52:PySem.W.codeIn K cd52 "sides_of"=true) (k52:PySem.W.keepIn K (.ref f52)=true)
  (a53:PySem.W.nsIn K mainGlobals "in_any"=some (some (.ref f53))) (l53:K.lookup f53=some ⟨oc53,od53,.func (PySem.W.fnOf "in_any" "in_any" (Ar Mf) (Ap Mf) (Ae Mf) .none kV53 dc53 pm53 an53 cd53 ct53),sl53⟩) (c53:PySem.W.codeIn K cd53 "in_any"=true) (k53:PySem.W.keepIn K (.ref f53)=true)
  (a54:PySem.W.nsIn K mainGlobals "base_of"=some (some (.ref f54))) (l54:K.lookup f54=some ⟨oc54,od54,.func (PySem.W.fnOf "base_of" "base_of" (Ar DX) (Ap DX) (Ae DX) .none kV54 dc54 pm54 an54 cd54 ct54),sl54⟩) (c54:PySem.W.codeIn K cd54 "base_of"=true) (k54:PySem.W.keepIn K (.ref f54)=true)
  (a55:PySem.W.findIn K (.ref cK) "__init__"=some (some (.ref f55))) (i55:PySem.W.isFn K (.ref f55)=true) (l55:K.lookup f55=some ⟨oc55,od55,.func (PySem.W.fnOf "__init__" "Talk.__init__" (Ar Fb) (Ap Fb) (Ae Fb) .none kV55 dc55 pm55 an55 cd55 ct55),sl55⟩) (c55:PySem.W.codeIn K cd55 "Talk.__init__"=true) (k55:PySem.W.keepIn K (.ref f55)=true)
  (a56:PySem.W.findIn K (.ref cK) "fork"=some (some (.ref f56))) (i56:PySem.W.isFn K (.ref f56)=true) (l56:K.lookup f56=some ⟨oc56,od56,.func (PySem.W.fnOf "fork" "Talk.fork" (Ar Fv) (Ap Fv) (Ae Fv) .none kV56 dc56 pm56 an56 cd56 ct56),sl56⟩) (c56:PySem.W.codeIn K cd56 "Talk.fork"=true) (k56:PySem.W.keepIn K (.ref f56)=true)
  (a57:PySem.W.nsIn K mainGlobals "_law_walked"=some (some (.ref f57))) (l57:K.lookup f57=some ⟨oc57,od57,.func (PySem.W.fnOf "_law_walked" "_law_walked" (Ar Cw) (Ap Cw) (Ae Cw) .none kV57 dc57 pm57 an57 cd57 ct57),sl57⟩) (c57:PySem.W.codeIn K cd57 "_law_walked"=true) (k57:PySem.W.keepIn K (.ref f57)=true)
  (a58:PySem.W.nsIn K mainGlobals "_law_long"=some (some (.ref f58))) (l58:K.lookup f58=some ⟨oc58,od58,.func (PySem.W.fnOf "_law_long" "_law_long" (Ar Fi) (Ap Fi) (Ae Fi) .none kV58 dc58 pm58 an58 cd58 ct58),sl58⟩) (c58:PySem.W.codeIn K cd58 "_law_long"=true) (k58:PySem.W.keepIn K (.ref f58)=true)
  (a59:PySem.W.nsIn K mainGlobals "all_worlds"=some (some (.ref f59))) (l59:K.lookup f59=some ⟨oc59,od59,.func (PySem.W.fnOf "all_worlds" "all_worlds" (Ar HQ) (Ap HQ) (Ae HQ) .none kV59 dc59 pm59 an59 cd59 ct59),sl59⟩) (c59:PySem.W.codeIn K cd59 "all_worlds"=true) (k59:PySem.W.keepIn K (.ref f59)=true)
  (a60:PySem.W.nsIn K mainGlobals "both"=some (some (.ref f60))) (l60:K.lookup f60=some ⟨oc60,od60,.func (PySem.W.fnOf "both" "both" (Ar Fw) (Ap Fw) (Ae Fw) .none kV60 dc60 pm60 an60 cd60 ct60),sl60⟩) (c60:PySem.W.codeIn K cd60 "both"=true) (k60:PySem.W.keepIn K (.ref f60)=true)
  (a61:PySem.W.nsIn K mainGlobals "by_letter"=some (some (.ref f61))) (l61:K.lookup f61=some ⟨oc61,od61,.func (PySem.W.fnOf "by_letter" "by_letter" (Ar B6) (Ap B6) (Ae B6) .none kV61 dc61 pm61 an61 cd61 ct61),sl61⟩) (c61:PySem.W.codeIn K cd61 "by_letter"=true) (k61:PySem.W.keepIn K (.ref f61)=true)
  (a62:PySem.W.nsIn K mainGlobals "sentence_of"=some (some (.ref f62))) (l62:K.lookup f62=some ⟨oc62,od62,.func (PySem.W.fnOf "sentence_of" "sentence_of" (Ar BB) (Ap BB) (Ae BB) .none kV62 dc62 pm62 an62 cd62 ct62),sl62⟩) (c62:PySem.W.codeIn K cd62 "sentence_of"=true) (k62:PySem.W.keepIn K (.ref f62)=true)
  (a63:PySem.W.findIn K (.ref cK) "room"=some (some (.ref f63))) (i63:PySem.W.isFn K (.ref f63)=true) (l63:K.lookup f63=some ⟨oc63,od63,.func (PySem.W.fnOf "room" "Talk.room" (Ar FA) (Ap FA) (Ae FA) .none kV63 dc63 pm63 an63 cd63 ct63),sl63⟩) (c63:PySem.W.codeIn K cd63 "Talk.room"=true) (k63:PySem.W.keepIn K (.ref f63)=true)
  (a64:PySem.W.findIn K (.ref cK) "sides"=some (some (.ref f64))) (i64:PySem.W.isFn K (.ref f64)=true) (l64:K.lookup f64=some ⟨oc64,od64,.func (PySem.W.fnOf "sides" "Talk.sides" (Ar DT) (Ap DT) (Ae DT) .none kV64 dc64 pm64 an64 cd64 ct64),sl64⟩) (c64:PySem.W.codeIn K cd64 "Talk.sides"=true) (k64:PySem.W.keepIn K (.ref f64)=true)
  (a65:PySem.W.nsIn K mainGlobals "way_to"=some (some (.ref f65))) (l65:K.lookup f65=some ⟨oc65,od65,.func (PySem.W.fnOf "way_to" "way_to" (Ar FG) (Ap FG) (Ae FG) .none kV65 dc65 pm65 an65 cd65 ct65),sl65⟩) (c65:PySem.W.codeIn K cd65 "way_to"=true) (k65:PySem.W.keepIn K (.ref f65)=true)
  (a66:PySem.W.findIn K (.ref cK) "entries"=some (some (.ref f66))) (i66:PySem.W.isFn K (.ref f66)=true) (l66:K.lookup f66=some ⟨oc66,od66,.func (PySem.W.fnOf "entries" "Talk.entries" (Ar B4) (Ap B4) (Ae B4) .none kV66 dc66 pm66 an66 cd66 ct66),sl66⟩) (c66:PySem.W.codeIn K cd66 "Talk.entries"=true) (k66:PySem.W.keepIn K (.ref f66)=true)
  (a67:PySem.W.nsIn K mainGlobals "law"=some (some (.ref f67))) (l67:K.lookup f67=some ⟨oc67,od67,.func (PySem.W.fnOf "law" "law" (Ar IP) (Ap IP) (Ae IP) .none kV67 dc67 pm67 an67 cd67 ct67),sl67⟩) (c67:PySem.W.codeIn K cd67 "law"=true) (k67:PySem.W.keepIn K (.ref f67)=true)
  (yabs:PySem.W.nsIn K mainGlobals "abs"=some none)
  (ylen:PySem.W.nsIn K mainGlobals "len"=some none)
  (yrange:PySem.W.nsIn K mainGlobals "range"=some none)
  (yisinstance:PySem.W.nsIn K mainGlobals "isinstance"=some none)
  (yint:PySem.W.nsIn K mainGlobals "int"=some none)
  (ybool:PySem.W.nsIn K mainGlobals "bool"=some none)
  (ystr:PySem.W.nsIn K mainGlobals "str"=some none)
  (ytuple:PySem.W.nsIn K mainGlobals "tuple"=some none)
  (ylist:PySem.W.nsIn K mainGlobals "list"=some none)
  (yset:PySem.W.nsIn K mainGlobals "set"=some none)
  (ysorted:PySem.W.nsIn K mainGlobals "sorted"=some none)
  (yany:PySem.W.nsIn K mainGlobals "any"=some none)
  (yall:PySem.W.nsIn K mainGlobals "all"=some none)
  (yValueError:PySem.W.nsIn K mainGlobals "ValueError"=some none)
  (yenumerate:PySem.W.nsIn K mainGlobals "enumerate"=some none)
  (ymin:PySem.W.nsIn K mainGlobals "min"=some none)
  (xTn:PySem.W.nsIn K mainGlobals "TalkError"=some (some (.ref cT)))
  (xTl:K.lookup cT=some ⟨.type "type",xTdd,.cls { name:=xTnm,bases:=xTbs,mro:=.ref cT::Hl,ns:=NT,qualname:=xTq,hasDict:=xThd,slotNames:=xTsn,subclasses:=xTsub,abstract:=xTab,collection:=xTcol,hasDel:=false },#[xTa,xTb,xTc,xTd,xTe,xTf]⟩)
  (xTm:K.lookup NT=some ⟨xToc,xTod,.dict xTes xTep,xTsl⟩)
  (nTs:(xTes.all (fun e=>match e.key with | .str _ _=>true | _=>false))=true)
  (xTi:PySem.W.nsIn K NT "__init__"=some none)
  (xTc1:PySem.W.clsIn K cT=some XDT)
  (xTt:PySem.W.typeIn K (.ref cT)=some (.type "type"))
  (xTbse:PySem.W.mroIn K cT (.type "BaseException")=some true)
  (nuV:PySem.W.kitMeta "ValueError"=true)
  (xcg:PySem.W.specialIn K (.builtin "object.__class__") "__get__"=some (some (.builtin "getset_descriptor.__get__")))
  (xct:PySem.W.takesIn K (.builtin "object.__class__")=some true)
  (xn0:PySem.W.nsIn K mainGlobals "StrangeLetter"=some (some (.ref cS)))
  (xl0:K.lookup cS=some (excClassObj xnm0 xq0 cS NcS xbs0 (.ref cT::Hl) true xsn0 xsub0 xab0 xcol0 xdd0 xka0 xkb0 xkc0 xkd0 xkf0 "ValueError.__new__"))
  (xm0:K.lookup NcS=some ⟨xoc0,xod0,.dict xes0 xep0,xsl0⟩)
  (nxs0:(xes0.all (fun e=>match e.key with | .str _ _=>true | _=>false))=true)
  (xi0:PySem.W.nsIn K NcS "__init__"=some none)
  (xkp0:PySem.W.keepIn K (.ref cS)=true)
  (xcd0:PySem.W.clsIn K cS=some XD0)
  (nxm0:XD0.mro= .ref cS::.ref cT::Hl)
  (nxd0:XD0.hasDict=true)
  (xsa0:PySem.W.findIn K (.ref cS) "__setattr__"=some (some (.builtin "object.__setattr__")))
  (xga0:PySem.W.findIn K (.ref cS) "__getattribute__"=some (some (.builtin "BaseException.__getattribute__")))
  (xgn0:PySem.W.findIn K (.ref cS) "__getattr__"=some none)
  (xca0:PySem.W.findIn K (.ref cS) "__class__"=some (some (.builtin "object.__class__")))
  (xt0:PySem.W.typeIn K (.ref cS)=some (.type "type"))
  (xb0:PySem.W.mroIn K cS (.type "BaseException")=some true)
  (xs0:PySem.W.mroIn K cS (.ref cS)=some true)
  (xu0:PySem.W.mroIn K cS (.ref cT)=some true)
  (xv0:PySem.W.subIn K (.ref cS) (.type "ValueError")=some true)
  (xn1:PySem.W.nsIn K mainGlobals "BadWord"=some (some (.ref cB)))
  (xl1:K.lookup cB=some (excClassObj xnm1 xq1 cB NcB xbs1 (.ref cT::Hl) true xsn1 xsub1 xab1 xcol1 xdd1 xka1 xkb1 xkc1 xkd1 xkf1 "ValueError.__new__"))
  (xm1:K.lookup NcB=some ⟨xoc1,xod1,.dict xes1 xep1,xsl1⟩)
  (nxs1:(xes1.all (fun e=>match e.key with | .str _ _=>true | _=>false))=true)
  (xi1:PySem.W.nsIn K NcB "__init__"=some none)
  (xkp1:PySem.W.keepIn K (.ref cB)=true)
  (xcd1:PySem.W.clsIn K cB=some XD1)
  (nxm1:XD1.mro= .ref cB::.ref cT::Hl)
  (nxd1:XD1.hasDict=true)
  (xsa1:PySem.W.findIn K (.ref cB) "__setattr__"=some (some (.builtin "object.__setattr__")))
  (xga1:PySem.W.findIn K (.ref cB) "__getattribute__"=some (some (.builtin "BaseException.__getattribute__")))
  (xgn1:PySem.W.findIn K (.ref cB) "__getattr__"=some none)
  (xca1:PySem.W.findIn K (.ref cB) "__class__"=some (some (.builtin "object.__class__")))
  (xt1:PySem.W.typeIn K (.ref cB)=some (.type "type"))
  (xb1:PySem.W.mroIn K cB (.type "BaseException")=some true)
  (xs1:PySem.W.mroIn K cB (.ref cB)=some true)
  (xu1:PySem.W.mroIn K cB (.ref cT)=some true)
  (xv1:PySem.W.subIn K (.ref cB) (.type "ValueError")=some true)
  (xn2:PySem.W.nsIn K mainGlobals "NoStanding"=some (some (.ref cN)))
  (xl2:K.lookup cN=some (excClassObj xnm2 xq2 cN NcN xbs2 (.ref cT::Hl) true xsn2 xsub2 xab2 xcol2 xdd2 xka2 xkb2 xkc2 xkd2 xkf2 "ValueError.__new__"))
  (xm2:K.lookup NcN=some ⟨xoc2,xod2,.dict xes2 xep2,xsl2⟩)
  (nxs2:(xes2.all (fun e=>match e.key with | .str _ _=>true | _=>false))=true)
  (xi2:PySem.W.nsIn K NcN "__init__"=some none)
  (xkp2:PySem.W.keepIn K (.ref cN)=true)
  (xcd2:PySem.W.clsIn K cN=some XD2)
  (nxm2:XD2.mro= .ref cN::.ref cT::Hl)
  (nxd2:XD2.hasDict=true)
  (xsa2:PySem.W.findIn K (.ref cN) "__setattr__"=some (some (.builtin "object.__setattr__")))
  (xga2:PySem.W.findIn K (.ref cN) "__getattribute__"=some (some (.builtin "BaseException.__getattribute__")))
  (xgn2:PySem.W.findIn K (.ref cN) "__getattr__"=some none)
  (xca2:PySem.W.findIn K (.ref cN) "__class__"=some (some (.builtin "object.__class__")))
  (xt2:PySem.W.typeIn K (.ref cN)=some (.type "type"))
  (xb2:PySem.W.mroIn K cN (.type "BaseException")=some true)
  (xs2:PySem.W.mroIn K cN (.ref cN)=some true)
  (xu2:PySem.W.mroIn K cN (.ref cT)=some true)
  (xv2:PySem.W.subIn K (.ref cN) (.type "ValueError")=some true)
  (xn3:PySem.W.nsIn K mainGlobals "TalkOver"=some (some (.ref cO)))
  (xl3:K.lookup cO=some (excClassObj xnm3 xq3 cO NcO xbs3 (.ref cT::Hl) true xsn3 xsub3 xab3 xcol3 xdd3 xka3 xkb3 xkc3 xkd3 xkf3 "ValueError.__new__"))
  (xm3:K.lookup NcO=some ⟨xoc3,xod3,.dict xes3 xep3,xsl3⟩)
  (nxs3:(xes3.all (fun e=>match e.key with | .str _ _=>true | _=>false))=true)
  (xi3:PySem.W.nsIn K NcO "__init__"=some none)
  (xkp3:PySem.W.keepIn K (.ref cO)=true)
  (xcd3:PySem.W.clsIn K cO=some XD3)
  (nxm3:XD3.mro= .ref cO::.ref cT::Hl)
  (nxd3:XD3.hasDict=true)
  (xsa3:PySem.W.findIn K (.ref cO) "__setattr__"=some (some (.builtin "object.__setattr__")))
  (xga3:PySem.W.findIn K (.ref cO) "__getattribute__"=some (some (.builtin "BaseException.__getattribute__")))
  (xgn3:PySem.W.findIn K (.ref cO) "__getattr__"=some none)
  (xca3:PySem.W.findIn K (.ref cO) "__class__"=some (some (.builtin "object.__class__")))
  (xt3:PySem.W.typeIn K (.ref cO)=some (.type "type"))
  (xb3:PySem.W.mroIn K cO (.type "BaseException")=some true)
  (xs3:PySem.W.mroIn K cO (.ref cO)=some true)
  (xu3:PySem.W.mroIn K cO (.ref cT)=some true)
  (xv3:PySem.W.subIn K (.ref cO) (.type "ValueError")=some true)
  (xp0_1:PySem.W.subIn K (.ref cS) (.ref cB)=some false)
  (nq0_1:(Value.ref cS == Value.ref cB)=false)
  (xr0_1:PySem.W.mroIn K cS (.ref cB)=some false)
  (xp0_2:PySem.W.subIn K (.ref cS) (.ref cN)=some false)
  (nq0_2:(Value.ref cS == Value.ref cN)=false)
  (xr0_2:PySem.W.mroIn K cS (.ref cN)=some false)
  (xp0_3:PySem.W.subIn K (.ref cS) (.ref cO)=some false)
  (nq0_3:(Value.ref cS == Value.ref cO)=false)
  (xr0_3:PySem.W.mroIn K cS (.ref cO)=some false)
  (xp1_0:PySem.W.subIn K (.ref cB) (.ref cS)=some false)
  (nq1_0:(Value.ref cB == Value.ref cS)=false)
  (xr1_0:PySem.W.mroIn K cB (.ref cS)=some false)
  (xp1_2:PySem.W.subIn K (.ref cB) (.ref cN)=some false)
  (nq1_2:(Value.ref cB == Value.ref cN)=false)
  (xr1_2:PySem.W.mroIn K cB (.ref cN)=some false)
  (xp1_3:PySem.W.subIn K (.ref cB) (.ref cO)=some false)
  (nq1_3:(Value.ref cB == Value.ref cO)=false)
  (xr1_3:PySem.W.mroIn K cB (.ref cO)=some false)
  (xp2_0:PySem.W.subIn K (.ref cN) (.ref cS)=some false)
  (nq2_0:(Value.ref cN == Value.ref cS)=false)
  (xr2_0:PySem.W.mroIn K cN (.ref cS)=some false)
  (xp2_1:PySem.W.subIn K (.ref cN) (.ref cB)=some false)
  (nq2_1:(Value.ref cN == Value.ref cB)=false)
  (xr2_1:PySem.W.mroIn K cN (.ref cB)=some false)
  (xp2_3:PySem.W.subIn K (.ref cN) (.ref cO)=some false)
  (nq2_3:(Value.ref cN == Value.ref cO)=false)
  (xr2_3:PySem.W.mroIn K cN (.ref cO)=some false)
  (xp3_0:PySem.W.subIn K (.ref cO) (.ref cS)=some false)
  (nq3_0:(Value.ref cO == Value.ref cS)=false)
  (xr3_0:PySem.W.mroIn K cO (.ref cS)=some false)
  (xp3_1:PySem.W.subIn K (.ref cO) (.ref cB)=some false)
  (nq3_1:(Value.ref cO == Value.ref cB)=false)
  (xr3_1:PySem.W.mroIn K cO (.ref cB)=some false)
  (xp3_2:PySem.W.subIn K (.ref cO) (.ref cN)=some false)
  (nq3_2:(Value.ref cO == Value.ref cN)=false)
  (xr3_2:PySem.W.mroIn K cO (.ref cN)=some false)
  (aCTalk:PySem.W.nsIn K mainGlobals "Talk"=some (some (.ref cK)))
  (pgTalk:PySem.W.plainGet K cK Str.empty=true)
  (hdTalk:PySem.W.hasDictIn K cK=true)
  (poTalk:PySem.W.plainOver K cK=true)
  (saTalk:PySem.W.findIn K (.ref cK) "__setattr__"=some (some (.builtin "object.__setattr__")))
  (mkTalk:PySem.W.makesIn K cK=true)
  (kcTalk:PySem.W.keepIn K (.ref cK)=true)
  (wTalk_many:PySem.W.findIn K (.ref cK) "many"=some none)
  (wTalk_kind:PySem.W.findIn K (.ref cK) "kind"=some none)
  (wTalk_sentence:PySem.W.findIn K (.ref cK) "sentence"=some none)
  (wTalk_rule:PySem.W.findIn K (.ref cK) "rule"=some none)
  (wTalk_space:PySem.W.findIn K (.ref cK) "space"=some none)
  (wTalk_parts:PySem.W.findIn K (.ref cK) "parts"=some none)
  (wTalk_given:PySem.W.findIn K (.ref cK) "given"=some none)
  (wTalk_left:PySem.W.findIn K (.ref cK) "left"=some none)
  (wTalk_ended:PySem.W.findIn K (.ref cK) "ended"=some none)
  (kcA:PySem.W.nsIn K mainGlobals "ALWAYS"=some (some (.ref aA)))
  (kdA:K.lookup aA=some ⟨.type "tuple",kdaA,.seq #[.str "or" ktaA,.ref kpA,.ref kqA] knaA,ksaA⟩)
  (keA:K.lookup kpA=some ⟨.type "tuple",kdbA,.seq #[.str "let" ktbA,.int 0 ktcA] knbA,ksbA⟩)
  (kfA:K.lookup kqA=some ⟨.type "tuple",kdcA,.seq #[.str "not" ktdA,.ref krA] kncA,kscA⟩)
  (kgA:K.lookup krA=some ⟨.type "tuple",kddA,.seq #[.str "let" kteA,.int 0 ktfA] kndA,ksdA⟩)
  (kcN:PySem.W.nsIn K mainGlobals "NEVER"=some (some (.ref aN)))
  (kdN:K.lookup aN=some ⟨.type "tuple",kdaN,.seq #[.str "and" ktaN,.ref kpN,.ref kqN] knaN,ksaN⟩)
  (keN:K.lookup kpN=some ⟨.type "tuple",kdbN,.seq #[.str "let" ktbN,.int 0 ktcN] knbN,ksbN⟩)
  (kfN:K.lookup kqN=some ⟨.type "tuple",kdcN,.seq #[.str "not" ktdN,.ref krN] kncN,kscN⟩)
  (kgN:K.lookup krN=some ⟨.type "tuple",kddN,.seq #[.str "let" kteN,.int 0 ktfN] kndN,ksdN⟩)
  : ∃fd:FuncData,(∀(s:Shared) (v:Value),BindsTo s fd ⟨[v],[]⟩ [("_law_script",v)])∧∀base:Heap,K.In base→base.Ns mainGlobals mg→FnOk l.prog w K mg base AE 73 fa fd ["_law_script"] (Lx K):=by
 have e:=hfa.symm.trans (PySem.W.mg_of X G a67)
 cases e
 have F1:=Az (st:=MB) l1 c1 k1
 have F2:=Az (st:=MH) l2 c2 k2
 have F3:=Az (st:=HC) l3 c3 k3
 have F4:=Az (st:=Cq) l4 c4 k4
 have F5:=Az (st:=FB) l5 c5 k5
 have F6:=Az (st:=B3) l6 c6 k6
 have F7:=Az (st:=Fn) l7 c7 k7
 have F8:=Az (st:=Er) l8 c8 k8
 have F9:=Az (st:=Ij) l9 c9 k9
 have F10:=Az (st:=Fz) l10 c10 k10
 have F11:=Az (st:=D1) l11 c11 k11
 have F12:=Az (st:=Fe) l12 c12 k12
 have F13:=Az (st:=DY) l13 c13 k13
 have F14:=Az (st:=Ft) l14 c14 k14
 have F15:=Az (st:=FH) l15 c15 k15
 have F16:=Az (st:=CQ) l16 c16 k16
 have F17:=Az (st:=Fa) l17 c17 k17
 have F18:=Az (st:=C0) l18 c18 k18
 have F19:=Az (st:=Fj) l19 c19 k19
 have F20:=Az (st:=Cr) l20 c20 k20
 have F21:=Az (st:=CU) l21 c21 k21
 have F22:=Az (st:=Fo) l22 c22 k22
 have F23:=Az (st:=FF) l23 c23 k23
 have F24:=Az (st:=Eg) l24 c24 k24
 have F25:=Az (st:=Ee) l25 c25 k25
 have F26:=Az (st:=B5) l26 c26 k26
 have F27:=Az (st:=Fu) l27 c27 k27
 have F28:=Az (st:=Fg) l28 c28 k28
 have F29:=Az (st:=HU) l29 c29 k29
 have F30:=Az (st:=Fh) l30 c30 k30
 have F31:=Az (st:=E6) l31 c31 k31
 have F32:=Az (st:=Ea) l32 c32 k32
 have F33:=Az (st:=D3) l33 c33 k33
 have F34:=Az (st:=Cy) l34 c34 k34
 have F35:=Az (st:=Ef) l35 c35 k35
 have F36:=Az (st:=E4) l36 c36 k36
 have F37:=Az (st:=E5) l37 c37 k37
 have F38:=Az (st:=D2) l38 c38 k38
 have F39:=Az (st:=Ih) l39 c39 k39
 have F40:=Az (st:=Gw) l40 c40 k40
 have F41:=Az (st:=Ct) l41 c41 k41
 have F42:=Az (st:=E3) l42 c42 k42
 have F43:=Az (st:=Fp) l43 c43 k43
 have F44:=Az (st:=Fk) l44 c44 k44
 have F45:=Az (st:=Ha) l45 c45 k45
 have F46:=Az (st:=HD) l46 c46 k46
 have F47:=Az (st:=E9) l47 c47 k47
 have F48:=Az (st:=DR) l48 c48 k48
 have F49:=Az (st:=Ed) l49 c49 k49
 have F50:=Az (st:=Ep) l50 c50 k50
 have F51:=Az (st:=DZ) l51 c51 k51
 have F52:=Az (st:=Cv) l52 c52 k52
 have F53:=Az (st:=Mf) l53 c53 k53
 have F54:=Az (st:=DX) l54 c54 k54
 have F55:=Az (st:=Fb) l55 c55 k55
 have F56:=Az (st:=Fv) l56 c56 k56
 have F57:=Az (st:=Cw) l57 c57 k57
 have F58:=Az (st:=Fi) l58 c58 k58
 have F59:=Az (st:=HQ) l59 c59 k59
 have F60:=Az (st:=Fw) l60 c60 k60
 have F61:=Az (st:=B6) l61 c61 k61
 have F62:=Az (st:=BB) l62 c62 k62
 have F63:=Az (st:=FA) l63 c63 k63
 have F64:=Az (st:=DT) l64 c64 k64
 have F65:=Az (st:=FG) l65 c65 k65
 have F66:=Az (st:=B4) l66 c66 k66
 have FLAW:=Az (st:=IP) l67 c67 k67
 have C1:AN K mg "_law_num" f1 _ ["_law_script","_law_k"]:=⟨PySem.W.mg_of X G a1,k1,F1.binds (ps:=["_law_script","_law_k"]) fun _ _ _ _ _ _ us hl=>(by obtain⟨_,_,rfl⟩:=A7 hl;rfl)⟩
 have C2:AN K mg "_law_few" f2 _ ["_law_n"]:=⟨PySem.W.mg_of X G a2,k2,F2.binds (ps:=["_law_n"]) fun _ _ _ _ _ _ us hl=>(by obtain⟨_,rfl⟩:=Bg hl;rfl)⟩
 have C3:AN K mg "_law_sentence" f3 _ ["_law_n","_law_most","_law_many"]:=⟨PySem.W.mg_of X G a3,k3,F3.binds (ps:=["_law_n","_law_most","_law_many"]) fun _ _ _ _ _ _ us hl=>(by obtain⟨_,_,_,rfl⟩:=BG hl;rfl)⟩
 have C4:AN K mg "_law_worlds" f4 _ ["_law_many"]:=⟨PySem.W.mg_of X G a4,k4,F4.binds (ps:=["_law_many"]) fun _ _ _ _ _ _ us hl=>(by obtain⟨_,rfl⟩:=Bg hl;rfl)⟩
 have C5:AN K mg "_law_some" f5 _ ["_law_n","_law_row"]:=⟨PySem.W.mg_of X G a5,k5,F5.binds (ps:=["_law_n","_law_row"]) fun _ _ _ _ _ _ us hl=>(by obtain⟨_,_,rfl⟩:=A7 hl;rfl)⟩
 have C6:AN K mg "_law_some_one" f6 _ ["_law_n","_law_row"]:=⟨PySem.W.mg_of X G a6,k6,F6.binds (ps:=["_law_n","_law_row"]) fun _ _ _ _ _ _ us hl=>(by obtain⟨_,_,rfl⟩:=A7 hl;rfl)⟩
 have C7:AN K mg "_law_room" f7 _ ["_law_n","_law_many"]:=⟨PySem.W.mg_of X G a7,k7,F7.binds (ps:=["_law_n","_law_many"]) fun _ _ _ _ _ _ us hl=>(by obtain⟨_,_,rfl⟩:=A7 hl;rfl)⟩
 have C8:AN K mg "_law_true" f8 _ ["_law_sentence_here","_law_world"]:=⟨PySem.W.mg_of X G a8,k8,F8.binds (ps:=["_law_sentence_here","_law_world"]) fun _ _ _ _ _ _ us hl=>(by obtain⟨_,_,rfl⟩:=A7 hl;rfl)⟩
 have C9:AN K mg "_law_ins" f9 _ ["_law_sentence_here","_law_row"]:=⟨PySem.W.mg_of X G a9,k9,F9.binds (ps:=["_law_sentence_here","_law_row"]) fun _ _ _ _ _ _ us hl=>(by obtain⟨_,_,rfl⟩:=A7 hl;rfl)⟩
 have C10:AN K mg "_law_kind" f10 _ ["_law_n","_law_room_here","_law_sentence_here"]:=⟨PySem.W.mg_of X G a10,k10,F10.binds (ps:=["_law_n","_law_room_here","_law_sentence_here"]) fun _ _ _ _ _ _ us hl=>(by obtain⟨_,_,_,rfl⟩:=BG hl;rfl)⟩
 have C11:AN K mg "_law_start" f11 _ ["_law_script","_law_many"]:=⟨PySem.W.mg_of X G a11,k11,F11.binds (ps:=["_law_script","_law_many"]) fun _ _ _ _ _ _ us hl=>(by obtain⟨_,_,rfl⟩:=A7 hl;rfl)⟩
 have C12:AN K mg "_law_last" f12 _ ["_law_script","_law_start_here","_law_n"]:=⟨PySem.W.mg_of X G a12,k12,F12.binds (ps:=["_law_script","_law_start_here","_law_n"]) fun _ _ _ _ _ _ us hl=>(by obtain⟨_,_,_,rfl⟩:=BG hl;rfl)⟩
 have C13:AN K mg "_law_asked" f13 _ ["_law_n","_law_fresh","_law_many"]:=⟨PySem.W.mg_of X G a13,k13,F13.binds (ps:=["_law_n","_law_fresh","_law_many"]) fun _ _ _ _ _ _ us hl=>(by obtain⟨_,_,_,rfl⟩:=BG hl;rfl)⟩
 have C14:AN K mg "_law_asks" f14 _ ["_law_script","_law_start_here","_law_many","_law_first"]:=⟨PySem.W.mg_of X G a14,k14,F14.binds (ps:=["_law_script","_law_start_here","_law_many","_law_first"]) fun _ _ _ _ _ _ us hl=>(by obtain⟨_,_,_,_,rfl⟩:=Gm hl;rfl)⟩
 have C15:AN K mg "_law_seen" f15 _ ["_law_n","_law_room_here"]:=⟨PySem.W.mg_of X G a15,k15,F15.binds (ps:=["_law_n","_law_room_here"]) fun _ _ _ _ _ _ us hl=>(by obtain⟨_,_,rfl⟩:=A7 hl;rfl)⟩
 have C16:AN K mg "_law_seen_at" f16 _ ["_law_script","_law_k","_law_room_here"]:=⟨PySem.W.mg_of X G a16,k16,F16.binds (ps:=["_law_script","_law_k","_law_room_here"]) fun _ _ _ _ _ _ us hl=>(by obtain⟨_,_,_,rfl⟩:=BG hl;rfl)⟩
 have C17:BN K cK "over" f17 _ ["self"]:=⟨⟨a17,i17,k17⟩,F17.binds (ps:=["self"]) fun _ _ _ _ _ _ us hl=>(by obtain⟨_,rfl⟩:=Bg hl;rfl)⟩
 have C18:AN K mg "refuse_over" f18 _ ["talk"]:=⟨PySem.W.mg_of X G a18,k18,F18.binds (ps:=["talk"]) fun _ _ _ _ _ _ us hl=>(by obtain⟨_,rfl⟩:=Bg hl;rfl)⟩
 have C19:AN K mg "parts_of" f19 _ ["layer"]:=⟨PySem.W.mg_of X G a19,k19,F19.binds (ps:=["layer"]) fun _ _ _ _ _ _ us hl=>(by obtain⟨_,rfl⟩:=Bg hl;rfl)⟩
 have C20:AN K mg "letters" f20 _ ["sentence"]:=⟨PySem.W.mg_of X G a20,k20,F20.binds (ps:=["sentence"]) fun _ _ _ _ _ _ us hl=>(by obtain⟨_,rfl⟩:=Bg hl;rfl)⟩
 have C21:AN K mg "refuse_strange" f21 _ ["sentence","many"]:=⟨PySem.W.mg_of X G a21,k21,F21.binds (ps:=["sentence","many"]) fun _ _ _ _ _ _ us hl=>(by obtain⟨_,_,rfl⟩:=A7 hl;rfl)⟩
 have C22:AN K mg "steps_of" f22 _ ["sentence"]:=⟨PySem.W.mg_of X G a22,k22,F22.binds (ps:=["sentence"]) fun _ _ _ _ _ _ us hl=>(by obtain⟨_,rfl⟩:=Bg hl;rfl)⟩
 have C23:AN K mg "letter_holds" f23 _ ["letter","world"]:=⟨PySem.W.mg_of X G a23,k23,F23.binds (ps:=["letter","world"]) fun _ _ _ _ _ _ us hl=>(by obtain⟨_,_,rfl⟩:=A7 hl;rfl)⟩
 have C24:AN K mg "joined" f24 _ ["kind","one","other"]:=⟨PySem.W.mg_of X G a24,k24,F24.binds (ps:=["kind","one","other"]) fun _ _ _ _ _ _ us hl=>(by obtain⟨_,_,_,rfl⟩:=BG hl;rfl)⟩
 have C25:AN K mg "true_by" f25 _ ["steps","world"]:=⟨PySem.W.mg_of X G a25,k25,F25.binds (ps:=["steps","world"]) fun _ _ _ _ _ _ us hl=>(by obtain⟨_,_,rfl⟩:=A7 hl;rfl)⟩
 have C26:AN K mg "worlds_of" f26 _ ["sentence","room"]:=⟨PySem.W.mg_of X G a26,k26,F26.binds (ps:=["sentence","room"]) fun _ _ _ _ _ _ us hl=>(by obtain⟨_,_,rfl⟩:=A7 hl;rfl)⟩
 have C27:AN K mg "in_first_only" f27 _ ["one","other"]:=⟨PySem.W.mg_of X G a27,k27,F27.binds (ps:=["one","other"]) fun _ _ _ _ _ _ us hl=>(by obtain⟨_,_,rfl⟩:=A7 hl;rfl)⟩
 have C28:AN K mg "all_within" f28 _ ["one","other"]:=⟨PySem.W.mg_of X G a28,k28,F28.binds (ps:=["one","other"]) fun _ _ _ _ _ _ us hl=>(by obtain⟨_,_,rfl⟩:=A7 hl;rfl)⟩
 have C29:AN K mg "in_both" f29 _ ["one","other"]:=⟨PySem.W.mg_of X G a29,k29,F29.binds (ps:=["one","other"]) fun _ _ _ _ _ _ us hl=>(by obtain⟨_,_,rfl⟩:=A7 hl;rfl)⟩
 have C30:AN K mg "some_within" f30 _ ["one","other"]:=⟨PySem.W.mg_of X G a30,k30,F30.binds (ps:=["one","other"]) fun _ _ _ _ _ _ us hl=>(by obtain⟨_,_,rfl⟩:=A7 hl;rfl)⟩
 have C31:AN K mg "plain" f31 _ ["seen","worlds"]:=⟨PySem.W.mg_of X G a31,k31,F31.binds (ps:=["seen","worlds"]) fun _ _ _ _ _ _ us hl=>(by obtain⟨_,_,rfl⟩:=A7 hl;rfl)⟩
 have C32:AN K mg "left_by" f32 _ ["word","row","worlds"]:=⟨PySem.W.mg_of X G a32,k32,F32.binds (ps:=["word","row","worlds"]) fun _ _ _ _ _ _ us hl=>(by obtain⟨_,_,_,rfl⟩:=BG hl;rfl)⟩
 have C33:AN K mg "missed_side" f33 _ ["sides","worlds"]:=⟨PySem.W.mg_of X G a33,k33,F33.binds (ps:=["sides","worlds"]) fun _ _ _ _ _ _ us hl=>(by obtain⟨_,_,rfl⟩:=A7 hl;rfl)⟩
 have C34:AN K mg "barring_side" f34 _ ["sides","going","seen","worlds"]:=⟨PySem.W.mg_of X G a34,k34,F34.binds (ps:=["sides","going","seen","worlds"]) fun _ _ _ _ _ _ us hl=>(by obtain⟨_,_,_,_,rfl⟩:=Gm hl;rfl)⟩
 have C35:AN K mg "answer" f35 _ ["sides","going","seen","worlds"]:=⟨PySem.W.mg_of X G a35,k35,F35.binds (ps:=["sides","going","seen","worlds"]) fun _ _ _ _ _ _ us hl=>(by obtain⟨_,_,_,_,rfl⟩:=Gm hl;rfl)⟩
 have C36:BN K cK "held" f36 _ ["self"]:=⟨⟨a36,i36,k36⟩,F36.binds (ps:=["self"]) fun _ _ _ _ _ _ us hl=>(by obtain⟨_,rfl⟩:=Bg hl;rfl)⟩
 have C37:BN K cK "base" f37 _ ["self"]:=⟨⟨a37,i37,k37⟩,F37.binds (ps:=["self"]) fun _ _ _ _ _ _ us hl=>(by obtain⟨_,rfl⟩:=Bg hl;rfl)⟩
 have C38:BN K cK "going" f38 _ ["self"]:=⟨⟨a38,i38,k38⟩,F38.binds (ps:=["self"]) fun _ _ _ _ _ _ us hl=>(by obtain⟨_,rfl⟩:=Bg hl;rfl)⟩
 have C39:BN K cK "ask" f39 _ ["self","sentence","seen"]:=⟨⟨a39,i39,k39⟩,F39.binds (ps:=["self","sentence","seen"]) fun _ _ _ _ _ _ us hl=>(by obtain⟨_,_,_,rfl⟩:=BG hl;rfl)⟩
 have C40:BN K cK "say" f40 _ ["self","sentence","seen"]:=⟨⟨a40,i40,k40⟩,F40.binds (ps:=["self","sentence","seen"]) fun _ _ _ _ _ _ us hl=>(by obtain⟨_,_,_,rfl⟩:=BG hl;rfl)⟩
 have C41:AN K mg "_law_driven" f41 _ ["_law_talk","_law_script","_law_many","_law_room_here","_law_first"]:=⟨PySem.W.mg_of X G a41,k41,F41.binds (ps:=["_law_talk","_law_script","_law_many","_law_room_here","_law_first"]) fun _ _ _ _ _ _ us hl=>(by obtain⟨_,_,_,_,_,rfl⟩:=Re hl;rfl)⟩
 have C42:AN K mg "_law_rule" f42 _ ["_law_script"]:=⟨PySem.W.mg_of X G a42,k42,F42.binds (ps:=["_law_script"]) fun _ _ _ _ _ _ us hl=>(by obtain⟨_,rfl⟩:=Bg hl;rfl)⟩
 have C43:AN K mg "_law_goal" f43 _ ["_law_n","_law_sentence_here","_law_entries","_law_many"]:=⟨PySem.W.mg_of X G a43,k43,F43.binds (ps:=["_law_n","_law_sentence_here","_law_entries","_law_many"]) fun _ _ _ _ _ _ us hl=>(by obtain⟨_,_,_,_,rfl⟩:=Gm hl;rfl)⟩
 have C44:AN K mg "_law_whole" f44 _ ["_law_found"]:=⟨PySem.W.mg_of X G a44,k44,F44.binds (ps:=["_law_found"]) fun _ _ _ _ _ _ us hl=>(by obtain⟨_,rfl⟩:=Bg hl;rfl)⟩
 have C45:AN K mg "_law_tree_is" f45 _ ["_law_found","_law_due"]:=⟨PySem.W.mg_of X G a45,k45,F45.binds (ps:=["_law_found","_law_due"]) fun _ _ _ _ _ _ us hl=>(by obtain⟨_,_,rfl⟩:=A7 hl;rfl)⟩
 have C46:AN K mg "_law_says" f46 _ ["_law_found","_law_due"]:=⟨PySem.W.mg_of X G a46,k46,F46.binds (ps:=["_law_found","_law_due"]) fun _ _ _ _ _ _ us hl=>(by obtain⟨_,_,rfl⟩:=A7 hl;rfl)⟩
 have C47:AN K mg "_law_pair_is" f47 _ ["_law_found","_law_due"]:=⟨PySem.W.mg_of X G a47,k47,F47.binds (ps:=["_law_found","_law_due"]) fun _ _ _ _ _ _ us hl=>(by obtain⟨_,_,rfl⟩:=A7 hl;rfl)⟩
 have C48:AN K mg "_law_pairs_are" f48 _ ["_law_found","_law_due"]:=⟨PySem.W.mg_of X G a48,k48,F48.binds (ps:=["_law_found","_law_due"]) fun _ _ _ _ _ _ us hl=>(by obtain⟨_,_,rfl⟩:=A7 hl;rfl)⟩
 have C49:AN K mg "_law_small" f49 _ ["_law_found"]:=⟨PySem.W.mg_of X G a49,k49,F49.binds (ps:=["_law_found"]) fun _ _ _ _ _ _ us hl=>(by obtain⟨_,rfl⟩:=Bg hl;rfl)⟩
 have C50:AN K mg "_law_good" f50 _ ["_law_found","_law_many","_law_deep"]:=⟨PySem.W.mg_of X G a50,k50,F50.binds (ps:=["_law_found","_law_many","_law_deep"]) fun _ _ _ _ _ _ us hl=>(by obtain⟨_,_,_,rfl⟩:=BG hl;rfl)⟩
 have C51:AN K mg "_law_row_of" f51 _ ["_law_found","_law_many"]:=⟨PySem.W.mg_of X G a51,k51,F51.binds (ps:=["_law_found","_law_many"]) fun _ _ _ _ _ _ us hl=>(by obtain⟨_,_,rfl⟩:=A7 hl;rfl)⟩
 have C52:AN K mg "sides_of" f52 _ ["room","kind","sentence"]:=⟨PySem.W.mg_of X G a52,k52,F52.binds (ps:=["room","kind","sentence"]) fun _ _ _ _ _ _ us hl=>(by obtain⟨_,_,_,rfl⟩:=BG hl;rfl)⟩
 have C53:AN K mg "in_any" f53 _ ["rows"]:=⟨PySem.W.mg_of X G a53,k53,F53.binds (ps:=["rows"]) fun _ _ _ _ _ _ us hl=>(by obtain⟨_,rfl⟩:=Bg hl;rfl)⟩
 have C54:AN K mg "base_of" f54 _ ["sides"]:=⟨PySem.W.mg_of X G a54,k54,F54.binds (ps:=["sides"]) fun _ _ _ _ _ _ us hl=>(by obtain⟨_,rfl⟩:=Bg hl;rfl)⟩
 have C55:Rr K mg cK "Talk" f55 _ ["self","many","room","kind","sentence","rule"]:=⟨⟨mkTalk,a55,i55,kcTalk⟩,PySem.W.mg_of X G aCTalk,F55.binds (ps:=["self","many","room","kind","sentence","rule"]) fun _ _ _ _ _ _ us hl=>(by obtain⟨_,_,_,_,_,_,rfl⟩:=RO hl;rfl)⟩
 have C56:BN K cK "fork" f56 _ ["self"]:=⟨⟨a56,i56,k56⟩,F56.binds (ps:=["self"]) fun _ _ _ _ _ _ us hl=>(by obtain⟨_,rfl⟩:=Bg hl;rfl)⟩
 have C57:AN K mg "_law_walked" f57 _ ["_law_talk","_law_row","_law_goal_here","_law_seen_here"]:=⟨PySem.W.mg_of X G a57,k57,F57.binds (ps:=["_law_talk","_law_row","_law_goal_here","_law_seen_here"]) fun _ _ _ _ _ _ us hl=>(by obtain⟨_,_,_,_,rfl⟩:=Gm hl;rfl)⟩
 have C58:AN K mg "_law_long" f58 _ ["_law_m","_law_most","_law_many"]:=⟨PySem.W.mg_of X G a58,k58,F58.binds (ps:=["_law_m","_law_most","_law_many"]) fun _ _ _ _ _ _ us hl=>(by obtain⟨_,_,_,rfl⟩:=BG hl;rfl)⟩
 have C59:AN K mg "all_worlds" f59 _ ["many"]:=⟨PySem.W.mg_of X G a59,k59,F59.binds (ps:=["many"]) fun _ _ _ _ _ _ us hl=>(by obtain⟨_,rfl⟩:=Bg hl;rfl)⟩
 have C60:AN K mg "both" f60 _ ["one","other"]:=⟨PySem.W.mg_of X G a60,k60,F60.binds (ps:=["one","other"]) fun _ _ _ _ _ _ us hl=>(by obtain⟨_,_,rfl⟩:=A7 hl;rfl)⟩
 have C61:AN K mg "by_letter" f61 _ ["letter","without","within"]:=⟨PySem.W.mg_of X G a61,k61,F61.binds (ps:=["letter","without","within"]) fun _ _ _ _ _ _ us hl=>(by obtain⟨_,_,_,rfl⟩:=BG hl;rfl)⟩
 have C62:AN K mg "sentence_of" f62 _ ["worlds","many"]:=⟨PySem.W.mg_of X G a62,k62,F62.binds (ps:=["worlds","many"]) fun _ _ _ _ _ _ us hl=>(by obtain⟨_,_,rfl⟩:=A7 hl;rfl)⟩
 have C63:BN K cK "room" f63 _ ["self"]:=⟨⟨a63,i63,k63⟩,F63.binds (ps:=["self"]) fun _ _ _ _ _ _ us hl=>(by obtain⟨_,rfl⟩:=Bg hl;rfl)⟩
 have C64:BN K cK "sides" f64 _ ["self"]:=⟨⟨a64,i64,k64⟩,F64.binds (ps:=["self"]) fun _ _ _ _ _ _ us hl=>(by obtain⟨_,rfl⟩:=Bg hl;rfl)⟩
 have C65:AN K mg "way_to" f65 _ ["talk","goal","seen"]:=⟨PySem.W.mg_of X G a65,k65,F65.binds (ps:=["talk","goal","seen"]) fun _ _ _ _ _ _ us hl=>(by obtain⟨_,_,_,rfl⟩:=BG hl;rfl)⟩
 have C66:BN K cK "entries" f66 _ ["self"]:=⟨⟨a66,i66,k66⟩,F66.binds (ps:=["self"]) fun _ _ _ _ _ _ us hl=>(by obtain⟨_,rfl⟩:=Bg hl;rfl)⟩
 have zabs:=PySem.W.mg_none_of X G yabs
 have zlen:=PySem.W.mg_none_of X G ylen
 have zrange:=PySem.W.mg_none_of X G yrange
 have zisinstance:=PySem.W.mg_none_of X G yisinstance
 have zint:=PySem.W.mg_none_of X G yint
 have zbool:=PySem.W.mg_none_of X G ybool
 have zstr:=PySem.W.mg_none_of X G ystr
 have ztuple:=PySem.W.mg_none_of X G ytuple
 have zlist:=PySem.W.mg_none_of X G ylist
 have zset:=PySem.W.mg_none_of X G yset
 have zsorted:=PySem.W.mg_none_of X G ysorted
 have zany:=PySem.W.mg_none_of X G yany
 have zall:=PySem.W.mg_none_of X G yall
 have zValueError:=PySem.W.mg_none_of X G yValueError
 have zenumerate:=PySem.W.mg_none_of X G yenumerate
 have zmin:=PySem.W.mg_none_of X G ymin
 refine⟨PySem.W.fnOf "law" "law" (Ar IP) (Ap IP) (Ae IP) .none kV67 dc67 pm67 an67 cd67 ct67,fun s v=>.of_eq rfl,fun base _ _=>?_⟩
 have B:Bl mg:=⟨zabs,zlen,zrange⟩
 have T:Fq mg:=⟨zisinstance,zint,zbool,zstr,ztuple,zlist,zset,zsorted,zrange,zany,zall⟩
 have XT:Tu K mg cT:=⟨PySem.W.mg_of X G xTn,xTt,by rw[xTc1];rfl,xTbse,zValueError,zisinstance⟩
 have X_StrangeLetter:ID K mg "StrangeLetter" cS cT:=⟨⟨⟨_,xcd0,nxm0,nxd0⟩,xsa0,xga0,xgn0,xca0,xcg,xct⟩,Ey xl0 xm0 nxs0 xi0 xTl xTm nTs xTi xkp0,PySem.W.mg_of X G xn0,xt0,by rw[xcd0];rfl,xb0,xs0,xu0,Jg nuV xv0⟩
 have X_BadWord:ID K mg "BadWord" cB cT:=⟨⟨⟨_,xcd1,nxm1,nxd1⟩,xsa1,xga1,xgn1,xca1,xcg,xct⟩,Ey xl1 xm1 nxs1 xi1 xTl xTm nTs xTi xkp1,PySem.W.mg_of X G xn1,xt1,by rw[xcd1];rfl,xb1,xs1,xu1,Jg nuV xv1⟩
 have X_NoStanding:ID K mg "NoStanding" cN cT:=⟨⟨⟨_,xcd2,nxm2,nxd2⟩,xsa2,xga2,xgn2,xca2,xcg,xct⟩,Ey xl2 xm2 nxs2 xi2 xTl xTm nTs xTi xkp2,PySem.W.mg_of X G xn2,xt2,by rw[xcd2];rfl,xb2,xs2,xu2,Jg nuV xv2⟩
 have X_TalkOver:ID K mg "TalkOver" cO cT:=⟨⟨⟨_,xcd3,nxm3,nxd3⟩,xsa3,xga3,xgn3,xca3,xcg,xct⟩,Ey xl3 xm3 nxs3 xi3 xTl xTm nTs xTi xkp3,PySem.W.mg_of X G xn3,xt3,by rw[xcd3];rfl,xb3,xs3,xu3,Jg nuV xv3⟩
 have A_StrangeLetter_BadWord:Nb K cS cB:=⟨xr0_1,BV nq0_1 (by rw[xcd1];rfl) xt1 xp0_1⟩
 have A_StrangeLetter_NoStanding:Nb K cS cN:=⟨xr0_2,BV nq0_2 (by rw[xcd2];rfl) xt2 xp0_2⟩
 have A_StrangeLetter_TalkOver:Nb K cS cO:=⟨xr0_3,BV nq0_3 (by rw[xcd3];rfl) xt3 xp0_3⟩
 have A_BadWord_StrangeLetter:Nb K cB cS:=⟨xr1_0,BV nq1_0 (by rw[xcd0];rfl) xt0 xp1_0⟩
 have A_BadWord_NoStanding:Nb K cB cN:=⟨xr1_2,BV nq1_2 (by rw[xcd2];rfl) xt2 xp1_2⟩
 have A_BadWord_TalkOver:Nb K cB cO:=⟨xr1_3,BV nq1_3 (by rw[xcd3];rfl) xt3 xp1_3⟩
 have A_NoStanding_StrangeLetter:Nb K cN cS:=⟨xr2_0,BV nq2_0 (by rw[xcd0];rfl) xt0 xp2_0⟩
 have A_NoStanding_BadWord:Nb K cN cB:=⟨xr2_1,BV nq2_1 (by rw[xcd1];rfl) xt1 xp2_1⟩
 have A_NoStanding_TalkOver:Nb K cN cO:=⟨xr2_3,BV nq2_3 (by rw[xcd3];rfl) xt3 xp2_3⟩
 have A_TalkOver_StrangeLetter:Nb K cO cS:=⟨xr3_0,BV nq3_0 (by rw[xcd0];rfl) xt0 xp3_0⟩
 have A_TalkOver_BadWord:Nb K cO cB:=⟨xr3_1,BV nq3_1 (by rw[xcd1];rfl) xt1 xp3_1⟩
 have A_TalkOver_NoStanding:Nb K cO cN:=⟨xr3_2,BV nq3_2 (by rw[xcd2];rfl) xt2 xp3_2⟩
 have TX:Jh K cK:=⟨⟨pgTalk,hdTalk,poTalk,saTalk⟩,wTalk_many,wTalk_kind,wTalk_sentence,wTalk_rule,wTalk_space,wTalk_parts,wTalk_given,wTalk_left,wTalk_ended⟩
 have KCh:KC K mg aA aN:=⟨PySem.W.mg_of X G kcA,PySem.W.mg_of X G kcN,fun H=>⟨aA,.ref kpA,.ref kqA,rfl,.inr ⟨_,_,_,kdA,rfl,rfl,IO,.cons ⟨_,rfl⟩ (.cons rfl (.cons rfl .nil))⟩,⟨kpA,rfl,.inr ⟨_,_,_,keA,rfl,rfl,DP,.cons ⟨_,rfl⟩ (.cons ⟨_,rfl⟩ .nil)⟩⟩,⟨kqA,.ref krA,rfl,.inr ⟨_,_,_,kfA,rfl,rfl,DP,.cons ⟨_,rfl⟩ (.cons rfl .nil)⟩,⟨krA,rfl,.inr ⟨_,_,_,kgA,rfl,rfl,DP,.cons ⟨_,rfl⟩ (.cons ⟨_,rfl⟩ .nil)⟩⟩⟩⟩,fun H=>⟨aN,.ref kpN,.ref kqN,rfl,.inr ⟨_,_,_,kdN,rfl,rfl,IO,.cons ⟨_,rfl⟩ (.cons rfl (.cons rfl .nil))⟩,⟨kpN,rfl,.inr ⟨_,_,_,keN,rfl,rfl,DP,.cons ⟨_,rfl⟩ (.cons ⟨_,rfl⟩ .nil)⟩⟩,⟨kqN,.ref krN,rfl,.inr ⟨_,_,_,kfN,rfl,rfl,DP,.cons ⟨_,rfl⟩ (.cons rfl .nil)⟩,⟨krN,rfl,.inr ⟨_,_,_,kgN,rfl,rfl,DP,.cons ⟨_,rfl⟩ (.cons ⟨_,rfl⟩ .nil)⟩⟩⟩⟩⟩
 have G1:=Pn (P:=l.prog) (w:=w) (mg:=mg) (base:=base) F1 B
 have G2:=RZ (P:=l.prog) (w:=w) (mg:=mg) (base:=base) F2
 have G3:=PV (P:=l.prog) (w:=w) (mg:=mg) (base:=base) F3 B
 have G4:=Ku (P:=l.prog) (w:=w) (mg:=mg) (base:=base) F4 T
 have G5:=OM (P:=l.prog) (w:=w) (mg:=mg) (base:=base) F5
 have G6:=JQ (P:=l.prog) (w:=w) (mg:=mg) (base:=base) F6 B G5 C5
 have G7:=N6 (P:=l.prog) (w:=w) (mg:=mg) (base:=base) F7 G4 C4 G6 C6
 have G8:=Il (P:=l.prog) (w:=w) (mg:=mg) (base:=base) F8 C8 23
 have G9:=Qi (P:=l.prog) (w:=w) (mg:=mg) (base:=base) F9 G8 C8
 have G10:=Nt (P:=l.prog) (w:=w) (mg:=mg) (base:=base) F10 B G9 C9
 have G11:=Mu (P:=l.prog) (w:=w) (mg:=mg) (base:=base) F11 (KO G1) C1 G3 C3 (G7.mono (by decide)) C7 (G10.mono (by decide)) C10
 have G12:=ND (P:=l.prog) (w:=w) (mg:=mg) (base:=base) F12 B
 have G13:=Mx (P:=l.prog) (w:=w) (mg:=mg) (base:=base) F13 B G3 C3
 have G14:=Nk (P:=l.prog) (w:=w) (mg:=mg) (base:=base) F14 B zmin G1 C1 G12 C12 G13 C13
 have G15:=N1 (P:=l.prog) (w:=w) (mg:=mg) (base:=base) F15 T B G6 C6
 have G16:=Kd (P:=l.prog) (w:=w) (mg:=mg) (base:=base) F16 (KO G1) C1 G15 C15
 have G17:=Ou (P:=l.prog) (w:=w) (mg:=mg) (base:=base) F17 TX
 have G18:=Kp (P:=l.prog) (w:=w) (mg:=mg) (base:=base) F18 TX X_TalkOver G17 C17
 have G19:=OB (P:=l.prog) (w:=w) (mg:=mg) (base:=base) F19
 have G20:=KM (P:=l.prog) (w:=w) (mg:=mg) (base:=base) F20 T G19 C19
 have G21:=Mm (P:=l.prog) (w:=w) (mg:=mg) (base:=base) F21 X_StrangeLetter G20 C20
 have G22:=Nr (P:=l.prog) (w:=w) (mg:=mg) (base:=base) F22 G19 C19
 have G23:=OU (P:=l.prog) (w:=w) (mg:=mg) (base:=base) F23
 have G24:=My (P:=l.prog) (w:=w) (mg:=mg) (base:=base) F24
 have G25:=Ml (P:=l.prog) (w:=w) (mg:=mg) (base:=base) F25 G23 C23 G24 C24
 have G26:=Jk (P:=l.prog) (w:=w) (mg:=mg) (base:=base) F26 G22 C22 G25 C25
 have G27:=OJ (P:=l.prog) (w:=w) (mg:=mg) (base:=base) F27 T
 have G28:=Pg (P:=l.prog) (w:=w) (mg:=mg) (base:=base) F28 B G27 C27
 have G29:=Qv (P:=l.prog) (w:=w) (mg:=mg) (base:=base) F29 T
 have G30:=OF (P:=l.prog) (w:=w) (mg:=mg) (base:=base) F30 B G29 C29
 have G31:=Oa (P:=l.prog) (w:=w) (mg:=mg) (base:=base) F31 G28 C28 G30 C30
 have G32:=MW (P:=l.prog) (w:=w) (mg:=mg) (base:=base) F32 T G29 C29 G27 C27
 have G33:=Mz (P:=l.prog) (w:=w) (mg:=mg) (base:=base) F33 zenumerate G30 C30
 have G34:=Kl (P:=l.prog) (w:=w) (mg:=mg) (base:=base) F34 G31 C31 G32 C32 G33 C33
 have G35:=MU (P:=l.prog) (w:=w) (mg:=mg) (base:=base) F35 G28 C28 G30 C30 G31 C31 G34 C34
 have G36:=OK (P:=l.prog) (w:=w) (mg:=mg) (base:=base) F36 TX T
 have G37:=O7 (P:=l.prog) (w:=w) (mg:=mg) (base:=base) F37 TX T
 have G38:=MF (P:=l.prog) (w:=w) (mg:=mg) (base:=base) F38 TX G36 C36 G37 C37
 have G39:=Qw (P:=l.prog) (w:=w) (mg:=mg) (base:=base) F39 TX G21 C21 G26 C26 G31 C31 G35 C35 G38 C38
 have G40:=Qo (P:=l.prog) (w:=w) (mg:=mg) (base:=base) F40 TX (Lc G18) C18 (I8 G39) C39 G32 C32 (N5 G26) C26
 have G41:=KG (P:=l.prog) (w:=w) (mg:=mg) (base:=base) F41 TX G14 C14 G16 C16 G40 C40
 have G42:=NW (P:=l.prog) (w:=w) (mg:=mg) (base:=base) F42 (KO G1) C1
 have G43:=Nh (P:=l.prog) (w:=w) (mg:=mg) (base:=base) F43 B G3 C3 G13 C13
 have G44:=Oo (P:=l.prog) (w:=w) (mg:=mg) (base:=base) F44 T
 have G45:=Hc (P:=l.prog) (w:=w) (mg:=mg) (base:=base) F45 C45 G44 C44 T B 60
 have G46:=NX (P:=l.prog) (w:=w) (mg:=mg) (base:=base) F46 T
 have G47:=Ob (P:=l.prog) (w:=w) (mg:=mg) (base:=base) F47 T B (Hc (P:=l.prog) (w:=w) (mg:=mg) (base:=base) F45 C45 G44 C44 T B 23) C45 G46 C46
 have G48:=Mi (P:=l.prog) (w:=w) (mg:=mg) (base:=base) F48 T B G47 C47
 have G49:=Me (P:=l.prog) (w:=w) (mg:=mg) (base:=base) F49 T
 have G50:=HH (P:=l.prog) (w:=w) (mg:=mg) (base:=base) F50 T B G44 C44 C50 70
 have G51:=Na (P:=l.prog) (w:=w) (mg:=mg) (base:=base) F51 T B G46 C46 G49 C49 G50 C50
 have G52:=Kg (P:=l.prog) (w:=w) (mg:=mg) (base:=base) F52 X_BadWord X_NoStanding (N5 G26) C26 G27 C27
 have G53:=Q8 (P:=l.prog) (w:=w) (mg:=mg) (base:=base) F53 T
 have G54:=Md (P:=l.prog) (w:=w) (mg:=mg) (base:=base) F54 G53 C53
 have G55:=Nf (P:=l.prog) (w:=w) (mg:=mg) (base:=base) F55 TX T X_BadWord (RH G21) C21 G52 C52 G54 C54
 have G56:=NB (P:=l.prog) (w:=w) (mg:=mg) (base:=base) F56 TX T G55 C55
 have GN40:=Pj (P:=l.prog) (w:=w) (mg:=mg) (base:=base) F40 TX G18 C18 G39 C39 G32 C32 G26 C26
 have G57:=Kw (P:=l.prog) (w:=w) (mg:=mg) (base:=base) F57 B TX G45 C45 G46 C46 G56 C56 (I8 G39) C39 GN40 C40
 have G58:=OC (P:=l.prog) (w:=w) (mg:=mg) (base:=base) F58 B
 have G59:=Ps (P:=l.prog) (w:=w) (mg:=mg) (base:=base) F59 T
 have G60:=Os (P:=l.prog) (w:=w) (mg:=mg) (base:=base) F60 KCh
 have G61:=Jx (P:=l.prog) (w:=w) (mg:=mg) (base:=base) F61 KCh G60 C60
 have G62:=Hz (P:=l.prog) (w:=w) (mg:=mg) (base:=base) F62 KCh B G59 C59 G61 C61
 have G63:=Ot (P:=l.prog) (w:=w) (mg:=mg) (base:=base) F63 TX T
 have G64:=MA (P:=l.prog) (w:=w) (mg:=mg) (base:=base) F64 TX T
 have G65:=Nm (P:=l.prog) (w:=w) (mg:=mg) (base:=base) F65 TX (Lc G18) C18 (N5 G26) C26 G33 C33 G29 C29 G27 C27 G53 C53 G62 C62 G63 C63 G64 C64 (Li G36) C36 (I8 G39) C39
 have G66:=J8 (P:=l.prog) (w:=w) (mg:=mg) (base:=base) F66 TX T
 exact RB FLAW B T TX (G1.mono (by decide)) C1 (G2.mono (by decide)) C2 (G11.mono (by decide)) C11 (G41.mono (by decide)) C41 (G42.mono (by decide)) C42 (G43.mono (by decide)) C43 (G15.mono (by decide)) C15 (G48.mono (by decide)) C48 (G51.mono (by decide)) C51 (G57.mono (by decide)) C57 (G58.mono (by decide)) C58 (G65.mono (by decide)) C65 (G55.mono (by decide)) C55 (G66.mono (by decide)) C66 ((Li G36).mono (by decide)) C36 ((I8 G39).mono (by decide)) C39
theorem walk {l:PySem.W.OpenLaw} {q:Program} {loose:List Str} {XP:(Str→Option Value)→Heap→Prop} {YP:World→Heap→Prop} {d:DefRec} {K:Params→PySem.W.Frag} (hn:l.most=some 63) (hdf:d.params.defaults=[])
  (hY:∀(w:World) (h:Heap),YP w h→(K w.params).In h)
  (F:∀(w:World) (mg:Str→Option Value) (fa:Addr) (h:Heap),(K w.params).In h→h.Ns mainGlobals mg→mg d.name=some (.ref fa)→
   ∃fd:FuncData,(∀(s:Shared) (u:Value),BindsTo s fd ⟨[u],[]⟩ [("_law_script",u)])∧∀base:Heap,(K w.params).In base→base.Ns mainGlobals mg→FnOk l.prog w (K w.params) mg base AE 73 fa fd ["_law_script"] (Lx (K w.params))) :
  PySem.W.WalkO q loose XP YP l.row.toRowW d [] (fun f vs=>PySem.call f vs):=
 L2.walk_of (n:=63) (k:=73) (x:="_law_script") (CX:=fun _=>AE) (sp:=fun w=>Lx (K w.params)) hn (by decide) hdf ⟨rfl,by decide,by decide⟩ hY F (fun _ _ a ns hl _ hS=>⟨a,ns,rfl,hS,hl,fun _=>rfl⟩) fun _ _ _ _ _ z=>z
end Toy
namespace PySem.W.Fast
def tw11614124545651355059:=0
def tw6050458548134545706:=0
def tw14397450936130937597:=0
def tw1461172708535625070:=0
def tw14349193895475898431:=0
def tw2258809721256522376:=0
def tw17678439169978019464:=0
def tw12078587888977921009:=0
def tw8505963704438282283:=0
def tw5507772323558248604:=0
def tw3599873560091019103:=0
def tw14369936812587157742:=0
def tw17524685128985427303:=0
def tw5651537606727061411:=0
def tw218259882151694150:=0
def tw16446206539246555056:=0
def tw8880867461914296577:=0
def tw16419068918068787435:=0
def tw5110732106076437385:=0
def tw13402258205664958231:=0
def tw12974994762359978201:=0
def tw9473986311686111693:=0
def tw3064109416638039207:=0
def tw6906955426778663530:=0
def tw17218277244735340132:=0
def tw11225753511655471218:=0
def tw14750918755347605398:=0
def tw526591754190806061:=0
def tw13055778846436927196:=0
def tw9745050583281907148:=0
def tw4141234879670450237:=0
def tw4069904107215300548:=0
def tw7955584957447044943:=0
def tw7133799865897273810:=0
def tw3183161913340512050:=0
def tw16088872294292148675:=0
def tw8299774191385090259:=0
def tw8936202422256942508:=0
def tw8715199431169540330:=0
def tw3699032326867225193:=0
def tw17501665785047174284:=0
def tw11856922763312906900:=0
def tw16721176590808888726:=0
def tw8974320621488015085:=0
def tw11505901657198352219:=0
def tw16777120828901612144:=0
def tw15695727707580320895:=0
def tw7458216277544429762:=0
def tw14071595829560201073:=0
def tw8781515585412312817:=0
def tw12250173275968131747:=0
def tw14057779260166373348:=0
def tw8176333806146663509:=0
def tw6638862466348736887:=0
def tw15186469426054217245:=0
def tw10593758238609223853:=0
def tw6777008384312394245:=0
def tw18100985939392562408:=0
def tw14452007703060188308:=0
def tw7881283456935538548:=0
def tw13041119084243200554:=0
def tw18073767970679367169:=0
def tw5185354253366988201:=0
def tw7302858741241708702:=0
def tw16385631509550051017:=0
def tw18276745892188320410:=0
def tw3909245973559092079:=0
def tw6310591945570570298:=0
def tw554007510981865108:=0
def tw10650177565374421132:=0
def tw18185541537722776535:=0
def tw4542821129261102412:=0
def tw906918202872974186:=0
def tw6158104469644363773:=0
def tw13845943217993676697:=0
def tw7904546869533136586:=0
def tw12825977428677411563:=0
def tw12835893804947908685:=0
def tw242336654997798515:=0
def tw6560669137032768954:=0
def tw7864917998001626136:=0
def tw6483205360750506007:=0
def tw2976959078830655531:=0
def tw2314717675212533118:=0
def tw12988185091628172100:=0
def tw14088403141718674363:=0
def tw15108115866647165551:=0
def tw14973423493118564762:=0
def tw7857966485061933884:=0
def tw1842843658752197823:=0
def tw625313418210568035:=0
def tw8216403652620874015:=0
def tw2104210950773671949:=0
def tw166685548813182202:=0
def tw14953117678139349240:=0
def tw8234780384287614136:=0
def tw84163076748779904:=0
def tw15348491320730098920:=0
def tw10298016654353707258:=0
def tw597369407635948269:=0
def tw4256836667134924691:=0
def tw823353417599986577:=0
def tw43156012619560134:=0
def tw12868760100436421377:=0
def tw1361388420342111453:=0
def tw15631553288660335180:=0
def tw485246011270039008:=0
def tw421078766662492188:=0
def tw10870579695683620855:=0
def tw3163021455186822498:=0
def tw10558943325961504299:=0
def tw10985418963367146175:=0
def tw15245409463408368864:=0
def tw11769392498430257077:=0
def tw15195640614310851081:=0
def tw6905072021170092059:=0
def tw15388590350781700368:=0
def tw4914360376526680679:=0
def tw13824075727075983180:=0
def tw1741473643579970998:=0
def tw3629521170451385410:=0
def tw15989333696099011146:=0
def tw13059671601298271096:=0
def tw17859376725379584354:=0
def tw14685189770690843556:=0
def tw7317750994800643124:=0
def tw12960264335150877929:=0
def tw15391362558967433987:=0
def tw11111367176580026636:=0
def tw10880055669376042892:=0
def tw6071342088661423672:=0
def tw12134254416075110172:=0
def tw14249832906735928189:=0
def tw7997746450341062348:=0
def tw8074524252212523053:=0
def tw12320378985021114956:=0
def tw11072154671968516671:=0
def tw865225088213304212:=0
def tw14364586148542036195:=0
def tw15823851660469837423:=0
def tw9950048621046458984:=0
def tw4085933483904953778:=0
def tw7847390140689990376:=0
def tw10160497664393368473:=0
def tw4369925715553227250:=0
def tw5894891580896509144:=0
def tw11186827902871520136:=0
def tw2406426656692628540:=0
def tw7391808564319994016:=0
def tw14902912266974463656:=0
def tw3362835292692766056:=0
def tw16423870778749357151:=0
def tw13646175498561150954:=0
def tw15393534339948159734:=0
def tw12893912404246722942:=0
def tw16434256249319085846:=0
def tw5930760511195551712:=0
def tw12702806821683436525:=0
def tw9233222823668614995:=0
def tw8017909293949875657:=0
def tw10796528440481072092:=0
def tw3564214575721848313:=0
def tw2855624168383053749:=0
def tw14669018801268554653:=0
def tw15552920317817745306:=0
def tw13020620765543197883:=0
def tw440214285248211776:=0
def tw1533086533941013420:=0
def tw18414472318334009836:=0
def tw1418736361011854918:=0
def tw15797419793362940281:=0
def tw17880652307986797366:=0
def tw3119961250425113218:=0
def tw16591256584153341709:=0
def tw5998056401250410262:=0
def tw5519015830504477492:=0
def tw11456544428538520816:=0
def tw2500109014808274123:=0
def tw596900108150533792:=0
def tw6102837213964977372:=0
def tw17891493202030930469:=0
def tw16329802007182209409:=0
def tw17124181602837862703:=0
def tw18217099330889887642:=0
def tw1791415399395917376:=0
def tw12743113063590181868:=0
def tw10468581661789258799:=0
def tw11656139587091224698:=0
def tw7052744040652849402:=0
def tw13253769048345308112:=0
def tw7260666939154361973:=0
def tw8984927742102105588:=0
def tw13891745216565569388:=0
def tw230616129403971047:=0
def tw15618040629706713810:=0
def tw16659252969616536470:=0
def tw1440580065711224643:=0
def tw4390650202080625282:=0
def tw14758268001403019835:=0
def tw4450130120415051524:=0
def tw4276775151537445720:=0
def tw8584197404704144216:=0
def tw2797913390128207878:=0
def tw10373110771868559599:=0
def tw12157792830544508544:=0
def tw15583160118345104991:=0
def tw5133067980142052926:=0
def tw9354536728790402557:=0
def tw4620008138485965892:=0
def tw3633899303839861065:=0
def tw14280298907376451023:=0
def tw5877481024831600045:=0
def tw3521598289009755253:=0
def tw6749550594461012119:=0
def tw5388674374908706680:=0
def tw11791809704335236940:=0
def tw11903090790561393108:=0
def tw2825675375236356142:=0
def tw15521737431135299528:=0
def tw13166259423231972728:=0
def tw7386840422095329754:=0
def tw9877397084818385446:=0
def tw4734052706960051421:=0
def tw17220291190931204877:=0
def tw14040363048645101761:=0
def tw2141383199889481975:=0
def tw8043468877066701911:=0
end PySem.W.Fast
open PySem PySem.W PyProof.Rows
set_option maxRecDepth 100000 in
set_option maxHeartbeats 0 in
theorem PySem.Challenge.cw_holdtalk_k37_ways_walk_holds : PySem.Challenge.rw_holdtalk_k37_ways_walk.Holds := by
 w_on;o_law;k_head;(case hw=>w_witness2)
 k_fill
 refine Toy.walk (l:=PySem.Challenge.rw_holdtalk_k37_ways_walk) rfl rfl (fun w h Y=>PySem.W.kIn_of Y) ?F
 case F=>
  intro w mg fa h KX G hmg
  refine' Toy.all_mk KX G hmg ?a1 ?l1 ?c1 ?k1 ?a2 ?l2 ?c2 ?k2 ?a3 ?l3 ?c3 ?k3 ?a4 ?l4 ?c4 ?k4 ?a5 ?l5 ?c5 ?k5 ?a6 ?l6 ?c6 ?k6 ?a7 ?l7 ?c7 ?k7 ?a8 ?l8 ?c8 ?k8 ?a9 ?l9 ?c9 ?k9 ?a10 ?l10 ?c10 ?k10 ?a11 ?l11 ?c11 ?k11 ?a12 ?l12 ?c12 ?k12 ?a13 ?l13 ?c13 ?k13 ?a14 ?l14 ?c14 ?k14 ?a15 ?l15 ?c15 ?k15 ?a16 ?l16 ?c16 ?k16 ?a17 ?i17 ?l17 ?c17 ?k17 ?a18 ?l18 ?c18 ?k18 ?a19 ?l19 ?c19 ?k19 ?a20 ?l20 ?c20 ?k20 ?a21 ?l21 ?c21 ?k21 ?a22 ?l22 ?c22 ?k22 ?a23 ?l23 ?c23 ?k23 ?a24 ?l24 ?c24 ?k24 ?a25 ?l25 ?c25 ?k25 ?a26 ?l26 ?c26 ?k26 ?a27 ?l27 ?c27 ?k27 ?a28 ?l28 ?c28 ?k28 ?a29 ?l29 ?c29 ?k29 ?a30 ?l30 ?c30 ?k30 ?a31 ?l31 ?c31 ?k31 ?a32 ?l32 ?c32 ?k32 ?a33 ?l33 ?c33 ?k33 ?a34 ?l34 ?c34 ?k34 ?a35 ?l35 ?c35 ?k35 ?a36 ?i36 ?l36 ?c36 ?k36 ?a37 ?i37 ?l37 ?c37 ?k37 ?a38 ?i38 ?l38 ?c38 ?k38 ?a39 ?i39 ?l39 ?c39 ?k39 ?a40 ?i40 ?l40 ?c40 ?k40 ?a41 ?l41 ?c41 ?k41 ?a42 ?l42 ?c42 ?k42 ?a43 ?l43 ?c43 ?k43 ?a44 ?l44 ?c44 ?k44 ?a45 ?l45 ?c45 ?k45 ?a46 ?l46 ?c46 ?k46 ?a47 ?l47 ?c47 ?k47 ?a48 ?l48 ?c48 ?k48 ?a49 ?l49 ?c49 ?k49 ?a50 ?l50 ?c50 ?k50 ?a51 ?l51 ?c51 ?k51 ?a52 ?l52 ?c52 ?k52 ?a53 ?l53 ?c53 ?k53 ?a54 ?l54 ?c54 ?k54 ?a55 ?i55 ?l55 ?c55 ?k55 ?a56 ?i56 ?l56 ?c56 ?k56 ?a57 ?l57 ?c57 ?k57 ?a58 ?l58 ?c58 ?k58 ?a59 ?l59 ?c59 ?k59 ?a60 ?l60 ?c60 ?k60 ?a61 ?l61 ?c61 ?k61 ?a62 ?l62 ?c62 ?k62 ?a63 ?i63 ?l63 ?c63 ?k63 ?a64 ?i64 ?l64 ?c64 ?k64 ?a65 ?l65 ?c65 ?k65 ?a66 ?i66 ?l66 ?c66 ?k66 ?a67 ?l67 ?c67 ?k67 ?yabs ?ylen ?yrange ?yisinstance ?yint ?ybool ?ystr ?ytuple ?ylist ?yset ?ysorted ?yany ?yall ?yValueError ?yenumerate ?ymin ?xTn ?xTl ?xTm ?nTs ?xTi ?xTc1 ?xTt ?xTbse ?nuV ?xcg ?xct ?xn0 ?xl0 ?xm0 ?nxs0 ?xi0 ?xkp0 ?xcd0 ?nxm0 ?nxd0 ?xsa0 ?xga0 ?xgn0 ?xca0 ?xt0 ?xb0 ?xs0 ?xu0 ?xv0 ?xn1 ?xl1 ?xm1 ?nxs1 ?xi1 ?xkp1 ?xcd1 ?nxm1 ?nxd1 ?xsa1 ?xga1 ?xgn1 ?xca1 ?xt1 ?xb1 ?xs1 ?xu1 ?xv1 ?xn2 ?xl2 ?xm2 ?nxs2 ?xi2 ?xkp2 ?xcd2 ?nxm2 ?nxd2 ?xsa2 ?xga2 ?xgn2 ?xca2 ?xt2 ?xb2 ?xs2 ?xu2 ?xv2 ?xn3 ?xl3 ?xm3 ?nxs3 ?xi3 ?xkp3 ?xcd3 ?nxm3 ?nxd3 ?xsa3 ?xga3 ?xgn3 ?xca3 ?xt3 ?xb3 ?xs3 ?xu3 ?xv3 ?xp0_1 ?nq0_1 ?xr0_1 ?xp0_2 ?nq0_2 ?xr0_2 ?xp0_3 ?nq0_3 ?xr0_3 ?xp1_0 ?nq1_0 ?xr1_0 ?xp1_2 ?nq1_2 ?xr1_2 ?xp1_3 ?nq1_3 ?xr1_3 ?xp2_0 ?nq2_0 ?xr2_0 ?xp2_1 ?nq2_1 ?xr2_1 ?xp2_3 ?nq2_3 ?xr2_3 ?xp3_0 ?nq3_0 ?xr3_0 ?xp3_1 ?nq3_1 ?xr3_1 ?xp3_2 ?nq3_2 ?xr3_2 ?aCTalk ?pgTalk ?hdTalk ?poTalk ?saTalk ?mkTalk ?kcTalk ?wTalk_many ?wTalk_kind ?wTalk_sentence ?wTalk_rule ?wTalk_space ?wTalk_parts ?wTalk_given ?wTalk_left ?wTalk_ended ?kcA ?kdA ?keA ?kfA ?kgA ?kcN ?kdN ?keN ?kfN ?kgN
  (case aCTalk=>k_is)
  (case a1=>k_is)
  (case l1=>k_is)
  (case c1=>k_is)
  (case k1=>k_is)
  (case a2=>k_is)
  (case l2=>k_is)
  (case c2=>k_is)
  (case k2=>k_is)
  (case a3=>k_is)
  (case l3=>k_is)
  (case c3=>k_is)
  (case k3=>k_is)
  (case a4=>k_is)
  (case l4=>k_is)
  (case c4=>k_is)
  (case k4=>k_is)
  (case a5=>k_is)
  (case l5=>k_is)
  (case c5=>k_is)
  (case k5=>k_is)
  (case a6=>k_is)
  (case l6=>k_is)
  (case c6=>k_is)
  (case k6=>k_is)
  (case a7=>k_is)
  (case l7=>k_is)
  (case c7=>k_is)
  (case k7=>k_is)
  (case a8=>k_is)
  (case l8=>k_is)
  (case c8=>k_is)
  (case k8=>k_is)
  (case a9=>k_is)
  (case l9=>k_is)
  (case c9=>k_is)
  (case k9=>k_is)
  (case a10=>k_is)
  (case l10=>k_is)
  (case c10=>k_is)
  (case k10=>k_is)
  (case a11=>k_is)
  (case l11=>k_is)
  (case c11=>k_is)
  (case k11=>k_is)
  (case a12=>k_is)
  (case l12=>k_is)
  (case c12=>k_is)
  (case k12=>k_is)
  (case a13=>k_is)
  (case l13=>k_is)
  (case c13=>k_is)
  (case k13=>k_is)
  (case a14=>k_is)
  (case l14=>k_is)
  (case c14=>k_is)
  (case k14=>k_is)
  (case a15=>k_is)
  (case l15=>k_is)
  (case c15=>k_is)
  (case k15=>k_is)
  (case a16=>k_is)
  (case l16=>k_is)
  (case c16=>k_is)
  (case k16=>k_is)
  (case a17=>k_is)
  (case i17=>k_is)
  (case l17=>k_is)
  (case c17=>k_is)
  (case k17=>k_is)
  (case a18=>k_is)
  (case l18=>k_is)
  (case c18=>k_is)
  (case k18=>k_is)
  (case a19=>k_is)
  (case l19=>k_is)
  (case c19=>k_is)
  (case k19=>k_is)
  (case a20=>k_is)
  (case l20=>k_is)
  (case c20=>k_is)
  (case k20=>k_is)
  (case a21=>k_is)
  (case l21=>k_is)
  (case c21=>k_is)
  (case k21=>k_is)
  (case a22=>k_is)
  (case l22=>k_is)
  (case c22=>k_is)
  (case k22=>k_is)
  (case a23=>k_is)
  (case l23=>k_is)
  (case c23=>k_is)
  (case k23=>k_is)
  (case a24=>k_is)
  (case l24=>k_is)
  (case c24=>k_is)
  (case k24=>k_is)
  (case a25=>k_is)
  (case l25=>k_is)
  (case c25=>k_is)
  (case k25=>k_is)
  (case a26=>k_is)
  (case l26=>k_is)
  (case c26=>k_is)
  (case k26=>k_is)
  (case a27=>k_is)
  (case l27=>k_is)
  (case c27=>k_is)
  (case k27=>k_is)
  (case a28=>k_is)
  (case l28=>k_is)
  (case c28=>k_is)
  (case k28=>k_is)
  (case a29=>k_is)
  (case l29=>k_is)
  (case c29=>k_is)
  (case k29=>k_is)
  (case a30=>k_is)
  (case l30=>k_is)
  (case c30=>k_is)
  (case k30=>k_is)
  (case a31=>k_is)
  (case l31=>k_is)
  (case c31=>k_is)
  (case k31=>k_is)
  (case a32=>k_is)
  (case l32=>k_is)
  (case c32=>k_is)
  (case k32=>k_is)
  (case a33=>k_is)
  (case l33=>k_is)
  (case c33=>k_is)
  (case k33=>k_is)
  (case a34=>k_is)
  (case l34=>k_is)
  (case c34=>k_is)
  (case k34=>k_is)
  (case a35=>k_is)
  (case l35=>k_is)
  (case c35=>k_is)
  (case k35=>k_is)
  (case a36=>k_is)
  (case i36=>k_is)
  (case l36=>k_is)
  (case c36=>k_is)
  (case k36=>k_is)
  (case a37=>k_is)
  (case i37=>k_is)
  (case l37=>k_is)
  (case c37=>k_is)
  (case k37=>k_is)
  (case a38=>k_is)
  (case i38=>k_is)
  (case l38=>k_is)
  (case c38=>k_is)
  (case k38=>k_is)
  (case a39=>k_is)
  (case i39=>k_is)
  (case l39=>k_is)
  (case c39=>k_is)
  (case k39=>k_is)
  (case a40=>k_is)
  (case i40=>k_is)
  (case l40=>k_is)
  (case c40=>k_is)
  (case k40=>k_is)
  (case a41=>k_is)
  (case l41=>k_is)
  (case c41=>k_is)
  (case k41=>k_is)
  (case a42=>k_is)
  (case l42=>k_is)
  (case c42=>k_is)
  (case k42=>k_is)
  (case a43=>k_is)
  (case l43=>k_is)
  (case c43=>k_is)
  (case k43=>k_is)
  (case a44=>k_is)
  (case l44=>k_is)
  (case c44=>k_is)
  (case k44=>k_is)
  (case a45=>k_is)
  (case l45=>k_is)
  (case c45=>k_is)
  (case k45=>k_is)
  (case a46=>k_is)
  (case l46=>k_is)
  (case c46=>k_is)
  (case k46=>k_is)
  (case a47=>k_is)
  (case l47=>k_is)
  (case c47=>k_is)
  (case k47=>k_is)
  (case a48=>k_is)
  (case l48=>k_is)
  (case c48=>k_is)
  (case k48=>k_is)
  (case a49=>k_is)
  (case l49=>k_is)
  (case c49=>k_is)
  (case k49=>k_is)
  (case a50=>k_is)
  (case l50=>k_is)
  (case c50=>k_is)
  (case k50=>k_is)
  (case a51=>k_is)
  (case l51=>k_is)
  (case c51=>k_is)
  (case k51=>k_is)
  (case a52=>k_is)
  (case l52=>k_is)
  (case c52=>k_is)
  (case k52=>k_is)
  (case a53=>k_is)
  (case l53=>k_is)
  (case c53=>k_is)
  (case k53=>k_is)
  (case a54=>k_is)
  (case l54=>k_is)
  (case c54=>k_is)
  (case k54=>k_is)
  (case a55=>k_is)
  (case i55=>k_is)
  (case l55=>k_is)
  (case c55=>k_is)
  (case k55=>k_is)
  (case a56=>k_is)
  (case i56=>k_is)
  (case l56=>k_is)
  (case c56=>k_is)
  (case k56=>k_is)
  (case a57=>k_is)
  (case l57=>k_is)
  (case c57=>k_is)
  (case k57=>k_is)
  (case a58=>k_is)
  (case l58=>k_is)
  (case c58=>k_is)
  (case k58=>k_is)
  (case a59=>k_is)
  (case l59=>k_is)
  (case c59=>k_is)
  (case k59=>k_is)
  (case a60=>k_is)
  (case l60=>k_is)
  (case c60=>k_is)
  (case k60=>k_is)
  (case a61=>k_is)
  (case l61=>k_is)
  (case c61=>k_is)
  (case k61=>k_is)
  (case a62=>k_is)
  (case l62=>k_is)
  (case c62=>k_is)
  (case k62=>k_is)
  (case a63=>k_is)
  (case i63=>k_is)
  (case l63=>k_is)
  (case c63=>k_is)
  (case k63=>k_is)
  (case a64=>k_is)
  (case i64=>k_is)
  (case l64=>k_is)
  (case c64=>k_is)
  (case k64=>k_is)
  (case a65=>k_is)
  (case l65=>k_is)
  (case c65=>k_is)
  (case k65=>k_is)
  (case a66=>k_is)
  (case i66=>k_is)
  (case l66=>k_is)
  (case c66=>k_is)
  (case k66=>k_is)
  (case a67=>k_is)
  (case l67=>k_is)
  (case c67=>k_is)
  (case k67=>k_is)
  (case yabs=>k_is)
  (case ylen=>k_is)
  (case yrange=>k_is)
  (case yisinstance=>k_is)
  (case yint=>k_is)
  (case ybool=>k_is)
  (case ystr=>k_is)
  (case ytuple=>k_is)
  (case ylist=>k_is)
  (case yset=>k_is)
  (case ysorted=>k_is)
  (case yany=>k_is)
  (case yall=>k_is)
  (case yValueError=>k_is)
  (case yenumerate=>k_is)
  (case ymin=>k_is)
  (case xTn=>k_is)
  (case xTl=>k_is)
  (case xTm=>k_is)
  (case nTs=>first | k_is | rfl | decide | simp)
  (case xTi=>k_is)
  (case xTc1=>k_is)
  (case xTt=>k_is)
  (case xTbse=>k_is)
  (case nuV=>first | k_is | rfl | decide | simp)
  (case xcg=>k_is)
  (case xct=>k_is)
  (case xn0=>k_is)
  (case xl0=>k_is)
  (case xm0=>k_is)
  (case nxs0=>first | k_is | rfl | decide | simp)
  (case xi0=>k_is)
  (case xkp0=>k_is)
  (case xcd0=>k_is)
  (case nxm0=>first | k_is | rfl | decide | simp)
  (case nxd0=>first | k_is | rfl | decide | simp)
  (case xsa0=>k_is)
  (case xga0=>k_is)
  (case xgn0=>k_is)
  (case xca0=>k_is)
  (case xt0=>k_is)
  (case xb0=>k_is)
  (case xs0=>k_is)
  (case xu0=>k_is)
  (case xv0=>k_is)
  (case xn1=>k_is)
  (case xl1=>k_is)
  (case xm1=>k_is)
  (case nxs1=>first | k_is | rfl | decide | simp)
  (case xi1=>k_is)
  (case xkp1=>k_is)
  (case xcd1=>k_is)
  (case nxm1=>first | k_is | rfl | decide | simp)
  (case nxd1=>first | k_is | rfl | decide | simp)
  (case xsa1=>k_is)
  (case xga1=>k_is)
  (case xgn1=>k_is)
  (case xca1=>k_is)
  (case xt1=>k_is)
  (case xb1=>k_is)
  (case xs1=>k_is)
  (case xu1=>k_is)
  (case xv1=>k_is)
  (case xn2=>k_is)
  (case xl2=>k_is)
  (case xm2=>k_is)
  (case nxs2=>first | k_is | rfl | decide | simp)
  (case xi2=>k_is)
  (case xkp2=>k_is)
  (case xcd2=>k_is)
  (case nxm2=>first | k_is | rfl | decide | simp)
  (case nxd2=>first | k_is | rfl | decide | simp)
  (case xsa2=>k_is)
  (case xga2=>k_is)
  (case xgn2=>k_is)
  (case xca2=>k_is)
  (case xt2=>k_is)
  (case xb2=>k_is)
  (case xs2=>k_is)
  (case xu2=>k_is)
  (case xv2=>k_is)
  (case xn3=>k_is)
  (case xl3=>k_is)
  (case xm3=>k_is)
  (case nxs3=>first | k_is | rfl | decide | simp)
  (case xi3=>k_is)
  (case xkp3=>k_is)
  (case xcd3=>k_is)
  (case nxm3=>first | k_is | rfl | decide | simp)
  (case nxd3=>first | k_is | rfl | decide | simp)
  (case xsa3=>k_is)
  (case xga3=>k_is)
  (case xgn3=>k_is)
  (case xca3=>k_is)
  (case xt3=>k_is)
  (case xb3=>k_is)
  (case xs3=>k_is)
  (case xu3=>k_is)
  (case xv3=>k_is)
  (case xp0_1=>k_is)
  (case nq0_1=>first | k_is | rfl | decide | simp)
  (case xr0_1=>k_is)
  (case xp0_2=>k_is)
  (case nq0_2=>first | k_is | rfl | decide | simp)
  (case xr0_2=>k_is)
  (case xp0_3=>k_is)
  (case nq0_3=>first | k_is | rfl | decide | simp)
  (case xr0_3=>k_is)
  (case xp1_0=>k_is)
  (case nq1_0=>first | k_is | rfl | decide | simp)
  (case xr1_0=>k_is)
  (case xp1_2=>k_is)
  (case nq1_2=>first | k_is | rfl | decide | simp)
  (case xr1_2=>k_is)
  (case xp1_3=>k_is)
  (case nq1_3=>first | k_is | rfl | decide | simp)
  (case xr1_3=>k_is)
  (case xp2_0=>k_is)
  (case nq2_0=>first | k_is | rfl | decide | simp)
  (case xr2_0=>k_is)
  (case xp2_1=>k_is)
  (case nq2_1=>first | k_is | rfl | decide | simp)
  (case xr2_1=>k_is)
  (case xp2_3=>k_is)
  (case nq2_3=>first | k_is | rfl | decide | simp)
  (case xr2_3=>k_is)
  (case xp3_0=>k_is)
  (case nq3_0=>first | k_is | rfl | decide | simp)
  (case xr3_0=>k_is)
  (case xp3_1=>k_is)
  (case nq3_1=>first | k_is | rfl | decide | simp)
  (case xr3_1=>k_is)
  (case xp3_2=>k_is)
  (case nq3_2=>first | k_is | rfl | decide | simp)
  (case xr3_2=>k_is)
  (case pgTalk=>k_is)
  (case hdTalk=>k_is)
  (case poTalk=>k_is)
  (case saTalk=>k_is)
  (case mkTalk=>k_is)
  (case kcTalk=>k_is)
  (case wTalk_many=>k_is)
  (case wTalk_kind=>k_is)
  (case wTalk_sentence=>k_is)
  (case wTalk_rule=>k_is)
  (case wTalk_space=>k_is)
  (case wTalk_parts=>k_is)
  (case wTalk_given=>k_is)
  (case wTalk_left=>k_is)
  (case wTalk_ended=>k_is)
  (case kcA=>k_is)
  (case kdA=>k_is)
  (case keA=>k_is)
  (case kfA=>k_is)
  (case kgA=>k_is)
  (case kcN=>k_is)
  (case kdN=>k_is)
  (case keN=>k_is)
  (case kfN=>k_is)
  (case kgN=>k_is)
