import PyProof.Rows.All
import Wide.All
import OpenK.AllK
import Wide.FinOn
import Lean
import PyProof.EqAt
import PyProof.EqKinds
import PyProof.TupleCall
import PyProof.NeKinds
import PyProof.EnumMake
import PyProof.EnumStmt
import PyProof.Draws
import PyProof.WalksT
import PyProof.StrWalks
import PyProof.Rows.EnumRows
import PyProof.StrLawsIdx
import PyProof.StrBlockI
import PyProof.StationsW
import PyProof.ExcInit
import PyProof.ExcBaseAll.ValueError
import PyProof.ExcAttrAll.ValueError
import PyProof.Rows.CatchOwn
import PyProof.CompUse
import PyProof.CompFree
import PyProof.SetKind
import PyProof.SetScanFacts
import PyProof.SetRoads
import PyProof.SetNew
import PyProof.Rows.SetFrom
import PyProof.CollectWalk
import PyProof.Rows.SortShell
import PyProof.Cells
import PyProof.ListRange
import PyProof.ConsumeWalk
import PyProof.Tail
import PySem.Challenge.RW_holdtalk_k36_whole_who_it_may_have_been
set_option Elab.async false
set_option linter.all false
set_option maxRecDepth 100000
namespace L2
open PySem PySem.Spec PyProof.Rows
abbrev Id:=Sum Int Str
def O2:Id→Value→Bool
 | .inl k,v=>Value.isInt k v
 | .inr x,v=>Value.isStrOf x v
def RM (w:World):Id→Int
 | .inl k=>hashInt k
 | .inr x=>hashStr w x
theorem A7:∀{k:Id} {v:Value},O2 k v=true→(∃i t,k=Sum.inl i∧v=Value.int i t)∨(∃x t,k=Sum.inr x∧v=Value.str x t)
 | .inl i,v,h=>by
  obtain⟨t,e⟩:=Value.isInt_shape (k:=i) (v:=v) h
  exact .inl ⟨i,t,rfl,e⟩
 | .inr x,v,h=>by
  obtain⟨t,e⟩:=Value.isStrOf_shape (x:=x) (v:=v) h
  exact .inr ⟨x,t,rfl,e⟩
theorem Pb (a b:Int):decide ((Sum.inl a:Id)=Sum.inl b)=(a == b):=by
 by_cases e:a=b
 ·subst e;simp
 ·have h:¬(Sum.inl a:Id)=Sum.inl b:=fun q=>e (Sum.inl.inj q)
  rw[decide_eq_false h]
  exact (beq_eq_false_iff_ne.mpr e).symm
theorem Pd (a b:Str):decide ((Sum.inr a:Id)=Sum.inr b)=decide (a=b):=by
 by_cases e:a=b
 ·subst e;simp
 ·have h:¬(Sum.inr a:Id)=Sum.inr b:=fun q=>e (Sum.inr.inj q)
  rw[decide_eq_false h,decide_eq_false e]
theorem PZ (a:Int) (b:Str):decide ((Sum.inl a:Id)=Sum.inr b)=false:=decide_eq_false (fun q=>nomatch q)
theorem P4 (a:Str) (b:Int):decide ((Sum.inr a:Id)=Sum.inl b)=false:=decide_eq_false (fun q=>nomatch q)
def Hy (prog:Program) (w:World):PySem.KeyKind prog w Id where
 is:=O2
 hash:=RM w
 inj:=fun v a b ha hb=>by
  rcases A7 ha with⟨i,t,rfl,rfl⟩|⟨x,t,rfl,rfl⟩
  ·rcases A7 hb with⟨j,u,rfl,e⟩|⟨y,u,rfl,e⟩
   ·injection e with e1 _;rw[e1]
   ·exact nomatch e
  ·rcases A7 hb with⟨j,u,rfl,e⟩|⟨y,u,rfl,e⟩
   ·exact nomatch e
   ·injection e with e1 _;rw[e1]
 byValue:=fun k v h=>by
  rcases A7 h with⟨i,t,rfl,rfl⟩|⟨x,t,rfl,rfl⟩<;>rfl
 pyHash:=fun hv h=>by
  rcases A7 hv with⟨i,t,rfl,rfl⟩|⟨x,t,rfl,rfl⟩
  ·exact wpAny_pyHash_int h
  ·exact wpAny_pyHash_str h
 eqBool:=fun hu hv h=>by
  rcases A7 hu with⟨i,t,rfl,rfl⟩|⟨x,t,rfl,rfl⟩
  ·rcases A7 hv with⟨j,u,rfl,rfl⟩|⟨y,u,rfl,rfl⟩
   ·rw[Pb] at h;exact wpAny_eqBool_int h
   ·rw[PZ] at h;exact SeqAt.EqAt.int_str i t y u _ _ _ _ h
  ·rcases A7 hv with⟨j,u,rfl,rfl⟩|⟨y,u,rfl,rfl⟩
   ·rw[P4] at h;exact SeqAt.EqAt.str_int x t j u _ _ _ _ h
   ·rw[Pd] at h;exact wpAny_eqBool_str h
 «strs»:=fun k x t v h=>by
  rcases A7 h with⟨i,u,rfl,e⟩|⟨y,u,rfl,e⟩
  ·exact nomatch e
  ·injection e with e1 _
   subst e1
   cases v<;>rfl
end L2
namespace L2
open PySem PySem.Spec PyProof.Rows
inductive V where
 | non | bl (b:Bool) | int (i:Int) | str (x:Str) | byt (b:Array UInt8) | flt (b:UInt64) | ref (a:Addr) | ty (n:String)
 deriving DecidableEq
def RelV:V→Value→Prop
 | .non,u=>u=Value.none
 | .bl b,u=>u=Value.bool b
 | .int i,u=>∃t,u=Value.int i t
 | .str x,u=>∃t,u=Value.str x t
 | .byt b,u=>∃t,u=Value.bytes b t
 | .flt b,u=>∃t,u=Value.float b t
 | .ref a,u=>u=Value.ref a
 | .ty n,u=>u=Value.type n
abbrev Vals:List V→List Value→Prop:=Paired RelV
theorem Vals.length {xs:List V} {us:List Value} (r:Vals xs us):xs.length=us.length:=Paired.length r
theorem Vals.get:∀{xs:List V} {us:List Value} {i:Nat} {x:V},Vals xs us→xs[i]? = some x→∃u,us[i]? = some u∧RelV x u
 | _,_,_,_,.nil,e=>by simp at e
 | _,_,0,_,.cons r _,e=>by simp at e;subst e;exact⟨_,rfl,r⟩
 | _,_,i+1,x,.cons _ t,e=>by
  obtain⟨u,h1,h2⟩:=Vals.get (i:=i) (x:=x) t (by simpa using e)
  exact⟨u,by simpa using h1,h2⟩
theorem Vals.set {x:V} {u:Value} (r:RelV x u):∀{xs:List V} {us:List Value} (i:Nat),Vals xs us→Vals (xs.set i x) (us.set i u)
 | _,_,_,.nil=>.nil
 | _,_,0,.cons _ t=>.cons r t
 | _,_,i+1,.cons q t=>.cons q (Vals.set r i t)
theorem Vals.append:∀{xs ys:List V} {us ws:List Value},Vals xs us→Vals ys ws→Vals (xs++ys) (us++ws)
 | _,_,_,_,.nil,s=>s
 | _,_,_,_,.cons r t,s=>.cons r (Vals.append t s)
theorem Vals.take:∀{xs:List V} {us:List Value} (n:Nat),Vals xs us→Vals (xs.take n) (us.take n)
 | _,_,0,_=>.nil
 | _,_,_+1,.nil=>.nil
 | _,_,n+1,.cons r t=>.cons r (Vals.take n t)
theorem Vals.drop:∀{xs:List V} {us:List Value} (n:Nat),Vals xs us→Vals (xs.drop n) (us.drop n)
 | _,_,0,r=>r
 | _,_,_+1,.nil=>.nil
 | _,_,n+1,.cons _ t=>Vals.drop n t
def Po:Option V→Option Value→Prop
 | some v,some u=>RelV v u
 | none,none=>True
 | _,_=>False
def KV {κ:Type}:List (κ×V)→List (κ×Value)→Prop:=Paired fun (p:κ×V) (q:κ×Value)=>p.1=q.1∧RelV p.2 q.2
def kV:Id→V
 | .inl i=>.int i
 | .inr x=>.str x
inductive HO where
 | lst (xs:List V)
 | tup (xs:List V)
 | dK (kvs:List (Id×V)) | dT (kvs:List (List Id×V))
 | set (S:Int→Bool) (n:Nat)
 | ins (C dx:Addr) (fs:List (Str×V))
 | own (x:Addr)
 | xd (fs:List (Str×V))
 | met (f x:Addr)
 | rng (lo hi:Int)
 | frz (o:Obj) (u:HO)
 | tbl (ps:Array Value)
 | ext (φ:Heap→Prop)
abbrev Hp:=Addr→Option HO
def AA (H:Hp) (a:Addr) (o:HO):Hp:=fun b=>if b=a then some o else H b
theorem Ac {H:Hp} {a:Addr} {o:HO}:AA H a o a=some o:=by unfold AA;rw[if_pos rfl]
theorem Az {H:Hp} {a b:Addr} {o:HO} (h:b≠a):AA H a o b=H b:=by unfold AA;rw[if_neg h]
theorem DT {H:Hp} {a b:Addr} {o u:HO} (h:H a=some o) (h':H b=some u) (d:o≠u):a≠b:=by
 intro e;subst e;rw[h] at h';exact d (Option.some.inj h')
theorem Ay {H:Hp} {a b:Addr} {o:HO} (h:H a=some o) (h':H b=none):a≠b:=by
 intro e;subst e;rw[h] at h';cases h'
section
variable (P:Program) (w:World)
def ObjOk (H:Hp) (h:Heap) (a:Addr):HO→Prop
 | .lst xs=>xs.length≤sizeLine∧∃(its:List Value) (n:Nat),Vals xs its∧h.get? a=some { cls:=.type "list",data:=.seq its.toArray n }
 | .tup xs=>xs.length≤sizeLine∧∃its:List Value,Vals xs its∧IsTup h a its.toArray
 | .dK kvs=>kvs.length≤sizeLine∧(a == sysModules)=false∧∃vs,KV kvs vs∧h.DictOf (Hy P w) a vs
 | .dT kvs=>kvs.length≤sizeLine∧(a == sysModules)=false∧∃xs:List (List Id×Addr×Value),
   Paired (fun (p:List Id×V) (q:List Id×Addr×Value)=>p.1=q.1∧H q.2.1=some (.tup (p.1.map kV))∧RelV p.2 q.2.2) kvs xs∧
   ∃o es ep,h.get? a=some o∧o.ExactDict∧o.data= .dict es ep∧es.toList=xs.map (entryOfKey (tupleKind (Hy P w)))∧(xs.map (·.1)).Nodup
 | .set S n=>h.SetOf (intKind P w) a S n
 | .ins C dx fs=>H dx=some (.own a)∧fs.length≤1000∧dx≠a∧h.get? a=some (PySem.W.instObj C dx)∧
   ∃mA,h.Ns1 dx mA∧(∀f,Po (fs.lookup f) (mA f))∧PySem.Within mA (fs.map (·.1))
 | .own _=>∃o,h.get? a=some o
 | .xd fs=>∃mA,h.Ns1 a mA∧∀f,Po (fs.lookup f) (mA f)
 | .rng lo hi=>∃t u v,h.get? a=some { cls:=.type "range",data:=.fields #[.int lo t,.int hi u,.int 1 v] }
 | .frz o u=>h.get? a=some o∧ObjOk H h a u
 | .tbl ps=>h.get? a=some { cls:=.none,data:=.fields ps }
 | .met f x=>h.get? a=some (PySem.W.methodObj (.ref f) (.ref x))
 | .ext φ=>φ h∧(∃o,h.get? a=some o)∧∀h1 h2:Heap,φ h1→(∀o,h1.get? a=some o→h2.get? a=some o)→φ h2
def HOk (H:Hp) (h:Heap):Prop:=∀a o,H a=some o→ObjOk P w H h a o
end
section
variable {P:Program} {w:World} {H H':Hp} {h h':Heap} {a:Addr} {o:HO}
theorem ObjOk.lt (x:ObjOk P w H h a o):a<h.objs.size:=by
 cases o with
 | lst xs=>obtain⟨_,_,_,_,e⟩:=x;exact Heap.lt_size e
 | tup xs=>obtain⟨_,_,_,p⟩:=x;exact p.lt
 | dK kvs=>obtain⟨_,_,_,_,o,_,_,e,_⟩:=x;exact Heap.lt_size e
 | dT kvs=>obtain⟨_,_,_,_,o,_,_,e,_⟩:=x;exact Heap.lt_size e
 | set S n=>obtain⟨o,_,_,_,e,_⟩:=x;exact Heap.lt_size e
 | ins C dx fs=>obtain⟨_,_,_,e,_⟩:=x;exact Heap.lt_size e
 | own y=>obtain⟨_,e⟩:=x;exact Heap.lt_size e
 | xd fs=>obtain⟨_,⟨_,_,_,e,_⟩,_⟩:=x;exact Heap.lt_size e
 | rng lo hi=>obtain⟨_,_,_,e⟩:=x;exact Heap.lt_size e
 | frz ob u=>obtain⟨e,_⟩:=x;exact Heap.lt_size e
 | tbl ps=>exact Heap.lt_size (show h.get? a=some _ from x)
 | met f y=>exact Heap.lt_size (show h.get? a=some _ from x)
 | ext φ=>obtain⟨_,⟨_,e⟩,_⟩:=x;exact Heap.lt_size e
theorem Paired.mapP {α β:Type} {F G:α→β→Prop}:∀{l₁:List α} {l₂:List β},Paired F l₁ l₂→(∀a b,F a b→G a b)→Paired G l₁ l₂
 | _,_,.nil,_=>.nil
 | _,_,.cons r t,f=>.cons (f _ _ r) (Paired.mapP t f)
theorem ObjOk.stay (x:ObjOk P w H h a o) (k:∀b u,(b=a∨H b=some (.own a))→h.get? b=some u→h'.get? b=some u)
  (ho:∀b,H b=some (.own a)→H' b=some (.own a)) (ht:∀b xs,H b=some (.tup xs)→H' b=some (.tup xs)):ObjOk P w H' h' a o:=by
 induction o with
 | lst xs=>obtain⟨z,its,n,r,e⟩:=x;exact⟨z,its,n,r,k _ _ (.inl rfl) e⟩
 | tup xs=>obtain⟨z,its,r,ob,e,c⟩:=x;exact⟨z,its,r,ob,k _ _ (.inl rfl) e,c⟩
 | dK kvs=>obtain⟨z,y,vs,r,ob,es,ep,e,c⟩:=x;exact⟨z,y,vs,r,ob,es,ep,k _ _ (.inl rfl) e,c⟩
 | dT kvs=>
  obtain⟨z,y,xs,r,ob,es,ep,e,c⟩:=x
  exact⟨z,y,xs,Paired.mapP r fun p q z=>⟨z.1,ht _ _ z.2.1,z.2.2⟩,ob,es,ep,k _ _ (.inl rfl) e,c⟩
 | set S n=>obtain⟨ob,es,ep,t,e,c⟩:=x;exact⟨ob,es,ep,t,k _ _ (.inl rfl) e,c⟩
 | ins C dx fs=>
  obtain⟨d,z,ne,e,mA,⟨od,es,ep,e2,c⟩,r⟩:=x
  exact⟨ho _ d,z,ne,k _ _ (.inl rfl) e,mA,⟨od,es,ep,k _ _ (.inr d) e2,c⟩,r⟩
 | own y=>obtain⟨ob,e⟩:=x;exact⟨ob,k _ _ (.inl rfl) e⟩
 | xd fs=>obtain⟨mA,⟨od,es,ep,e,c⟩,r⟩:=x;exact⟨mA,⟨od,es,ep,k _ _ (.inl rfl) e,c⟩,r⟩
 | rng lo hi=>obtain⟨t,u,v,e⟩:=x;exact⟨t,u,v,k _ _ (.inl rfl) e⟩
 | frz ob u ih=>obtain⟨e,q⟩:=x;exact⟨k _ _ (.inl rfl) e,ih q⟩
 | tbl ps=>
  have e:h.get? a=some { cls:=.none,data:=.fields ps }:=x
  show h'.get? a=some { cls:=.none,data:=.fields ps }
  exact k a _ (.inl rfl) e
 | met f y=>
  have e:h.get? a=some (PySem.W.methodObj (.ref f) (.ref y)):=x
  show h'.get? a=some (PySem.W.methodObj (.ref f) (.ref y))
  exact k a _ (.inl rfl) e
 | ext φ=>obtain⟨p,⟨o,e⟩,st⟩:=x;exact⟨st _ _ p fun o q=>k _ _ (.inl rfl) q,⟨o,k _ _ (.inl rfl) e⟩,st⟩
theorem HOk.lt (x:HOk P w H h) (e:H a=some o):a<h.objs.size:=(x a o e).lt
theorem HOk.fresh (x:HOk P w H h) (e:h.objs.size≤a):H a=none:=by
 cases q:H a with
 | none=>rfl
 | some u=>exact absurd (Nat.lt_of_lt_of_le (x.lt q) e) (Nat.lt_irrefl _)
theorem HOk.kept (x:HOk P w H h) (k:∀b u,h.get? b=some u→h'.get? b=some u):HOk P w H h':=fun a o e=>
 (x a o e).stay (fun b u _ q=>k b u q) (fun _ q=>q) fun _ _ q=>q
theorem HOk.laid (x:HOk P w H h) (k:∀b u,h.get? b=some u→h'.get? b=some u) (hp:h.objs.size≤a) (new:ObjOk P w (AA H a o) h' a o):HOk P w (AA H a o) h':=fun b u e=>by
 have hn:=x.fresh hp
 by_cases hb:b=a
 ·subst hb;rw[Ac] at e;cases e;exact new
 ·rw[Az hb] at e
  exact (x b u e).stay (fun c v _ q=>k c v q) (fun c q=>by rw[Az (Ay q hn)];exact q) fun c xs q=>by rw[Az (Ay q hn)];exact q
end
def Rd (H:Hp) (a:Addr) (u:HO):Prop:=H a=some u∨∃o,H a=some (.frz o u)
theorem Rd.ok {P:Program} {w:World} {H:Hp} {h:Heap} {a:Addr} {u:HO} (r:Rd H a u) (x:HOk P w H h):ObjOk P w H h a u:=by
 rcases r with r | ⟨o,r⟩
 ·exact x a u r
 ·obtain⟨_,q⟩:=x a _ r
  exact q
def Qi:Option HO→Prop
 | some (.lst _)=>True
 | some (.dK _)=>True
 | some (.dT _)=>True
 | some (.set _ _)=>True
 | some (.ins _ _ _)=>True
 | some (.ext _)=>True
 | _=>False
section
variable {P:Program} {w:World} {H:Hp} {h h':Heap} {x e:Addr} {o':HO}
theorem HOk.write (ok:HOk P w H h) (mu:Qi (H x)) (he:e=x∨H e=some (.own x)) (k:∀b u,b≠e→h.get? b=some u→h'.get? b=some u) (heo:∃u,h'.get? e=some u)
  (new:ObjOk P w (AA H x o') h' x o'):HOk P w (AA H x o') h':=fun b u q=>by
 have nown:∀c y,H c=some (.own y)→c≠x:=fun c y r z=>by subst z;rw[r] at mu;exact mu
 have ntup:∀c xs,H c=some (.tup xs)→c≠x:=fun c xs r z=>by subst z;rw[r] at mu;exact mu
 by_cases hb:b=x
 ·subst hb;rw[Ac] at q;cases q;exact new
 ·rw[Az hb] at q
  by_cases hbe:b=e
  ·have q':H b=some (.own x):=by
    rcases he with z | z
    ·exact absurd (hbe.trans z) hb
    ·rw[hbe];exact z
   rw[q] at q';cases q'
   obtain⟨v,hv⟩:=heo
   exact⟨v,by rw[hbe];exact hv⟩
  ·refine (ok b u q).stay (fun c v hc r=>k c v ?_ r) (fun c r=>by rw[Az (nown c b r)];exact r) fun c xs r=>by rw[Az (ntup c xs r)];exact r
   rcases hc with rfl | hc
   ·exact hbe
   ·rintro rfl
    rcases he with z | z
    ·exact nown c b hc z
    ·rw[hc] at z;cases z;exact hb rfl
end
structure Un (fs ex:List Addr) (H H':Hp) (h h':Heap):Prop where
 keep:∀b o,h.get? b=some o→H b=none→b∉fs→b∉ex→h'.get? b=some o
 slot:∀b o,h.get? b=some o→H b=none→b∈fs→b∉ex→∃sl,h'.get? b=some { o with slots:=sl }
 free:∀b o,h.get? b=some o→H b=none→b∉ex→H' b=none
 there:∀b o,h.get? b=some o→b∉ex→∃o',h'.get? b=some o'
 tups:∀b xs,H b=some (.tup xs)→H' b=some (.tup xs)
 frzs:∀b o u,H b=some (.frz o u)→H' b=some (.frz o u)
 tbls:∀b ps,H b=some (.tbl ps)→∃more,H' b=some (.tbl (ps++more))
section
variable {fs fs' ex ex':List Addr} {H H1 H2:Hp} {h h1 h2 h':Heap} {a x e:Addr} {o:HO}
theorem Un.any (u:Un fs ex H H1 h h1) {b:Addr} {ob:Obj} (q:h.get? b=some ob) (n:H b=none) (hx:b∉ex):∃sl,h1.get? b=some { ob with slots:=sl }:=by
 by_cases hb:b∈fs
 ·exact u.slot b ob q n hb hx
 ·exact⟨ob.slots,u.keep b ob q n hb hx⟩
theorem Un.kept (k:∀b u,h.get? b=some u→h'.get? b=some u):Un fs ex H H h h':=
 ⟨fun b ob q _ _ _=>k b ob q,fun b ob q _ _ _=>⟨ob.slots,k b ob q⟩,fun _ _ _ n _=>n,fun b ob q _=>⟨ob,k b ob q⟩,fun _ _ q=>q,fun _ _ _ q=>q,fun _ ps q=>⟨#[],by rw[q];simp⟩⟩
theorem Un.refl:Un fs ex H H h h:=Un.kept fun _ _ q=>q
theorem Un.laid (k:∀b u,h.get? b=some u→h'.get? b=some u) (hp:h.objs.size≤a) (hn:H a=none):Un fs ex H (AA H a o) h h' where
 keep:=fun b u q _ _ _=>k b u q
 slot:=fun b u q _ _ _=>⟨u.slots,k b u q⟩
 free:=fun b u q n _=>by rw[Az (Nat.ne_of_lt (Nat.lt_of_lt_of_le (Heap.lt_size q) hp))];exact n
 there:=fun b u q _=>⟨u,k b u q⟩
 tups:=fun b xs q=>by rw[Az (Ay q hn)];exact q
 frzs:=fun b u xs q=>by rw[Az (Ay q hn)];exact q
 tbls:=fun b ps q=>⟨#[],by rw[Az (Ay q hn),q];simp⟩
theorem Un.write (mu:Qi (H x)) (he:e=x∨H e=some (.own x)) (k:∀b u,b≠e→h.get? b=some u→h'.get? b=some u) (heo:∃u,h'.get? e=some u):Un fs ex H (AA H x o) h h':=by
 have hx:∀b,H b=none→b≠x:=fun b n z=>by subst z;rw[n] at mu;exact mu
 have hb:∀b,H b=none→b≠e:=fun b n z=>by
  subst z
  rcases he with r | r
  ·exact hx b n r
  ·rw[n] at r;cases r
 have hm:∀b u,H b=some u→¬Qi (some u)→b≠x:=fun b u q nm z=>by subst z;rw[q] at mu;exact nm mu
 refine⟨fun b u q n _ _=>k b u (hb b n) q,fun b u q n _ _=>⟨u.slots,k b u (hb b n) q⟩,fun b u q n _=>by rw[Az (hx b n)];exact n,fun b u q _=>?_,
  fun b xs q=>by rw[Az (hm b _ q fun z=>z)];exact q,fun b u xs q=>by rw[Az (hm b _ q fun z=>z)];exact q,fun b ps q=>⟨#[],by rw[Az (hm b _ q fun z=>z),q];simp⟩⟩
 by_cases hbe:b=e
 ·subst hbe;exact heo
 ·exact⟨u,k b u hbe q⟩
end
def Q3 (h:Heap) (H:Hp):List Addr:=(List.range h.objs.size).filter fun a=>(H a).isSome
def HY (h:Heap) (H:Hp):Heap:=PySem.W.hideAll h (Q3 h H)
theorem Lq (h:Heap) (H:Hp):(HY h H).objs.size=h.objs.size:=PySem.W.hideAll_size _ _
theorem NM {h:Heap} {H:Hp} {b:Addr} {o:Obj} (e:h.get? b=some o) (n:H b=none):(HY h H).get? b=some o:=
 PySem.W.hideAll_get _ e fun hm=>by
  have q:(H b).isSome=true:=(List.mem_filter.mp hm).2
  rw[n] at q;simp at q
theorem On {h:Heap} {H:Hp} {b:Addr} {o:Obj} (e:(HY h H).get? b=some o):h.get? b=some o∧H b=none:=by
 have e':h.get? b=some o:=PySem.W.of_hideAll (Q3 h H) e
 refine⟨e',?_⟩
 cases q:H b with
 | none=>rfl
 | some x=>
  have hm:b∈Q3 h H:=List.mem_filter.mpr ⟨List.mem_range.mpr (Heap.lt_size e'),by simp[q]⟩
  have z:(HY h H).get? b=none:=PySem.W.hideAll_none (Q3 h H) hm
  rw[z] at e;cases e
end L2
namespace L2
open PySem PySem.Spec PyProof.Rows
structure Mod (K:PySem.W.Frag) (mg:Str→Option Value) (base:Heap):Prop where
 kin:K.In base
 glob:base.Ns mainGlobals mg
 blt:∃mb,base.Ns builtinsNs mb∧∀x:Str,x≠"__name__"→mb x=bootBuiltins x
 nolimit:base.NoLimit
structure Cx where
 prog:Program
 w:World
 K:PySem.W.Frag
 mg:Str→Option Value
 base:Heap
 A:Around
 N:List Str
 s₀:Shared
 H₀:Hp
 env:Env
 outer:List Env
 stack:List Env
 ex:List Addr
 fn:Str→Bool
 calm:Bool
 pn:List (Addr×Obj)
 xe:Value→Shared→Prop
def Fz (l:List Env):List Addr:=l.filterMap (·.frame)
abbrev Cx.fs (X:Cx):List Addr:=Fz X.outer
def Rz (sc:Scope) (x:Str):Prop:=sc.names.lookup x=some .local∨sc.names.lookup x=some .cell∨sc.names.lookup x=some .free
def O5 (sc:Scope) (x:Str):Prop:=sc.names.lookup x=some .local∨sc.names.lookup x=some .cell
def RH (env:Env) (h:Heap) (m:Str→Option Value) (x:Str) (u:Value):Prop:=
 (env.kindOf x=some .local∧m x=some u)∨((env.kindOf x=some .cell∨env.kindOf x=some .free)∧∃c,env.cells.lookup x=some c∧h.IsCell c (some u))
structure Cx.Ok (X:Cx):Prop where
 mod:Mod X.K X.mg X.base
 kind:X.env.scope.kind= .function
 glob:X.env.globals=mainGlobals
 blt:X.env.builtins=builtinsNs
 above:X.s₀.heap.objs.size≤X.env.locals
 inj:∀x y c,X.env.cells.lookup x=some c→X.env.cells.lookup y=some c→x=y
 has:∀x,(X.env.kindOf x=some .cell∨X.env.kindOf x=some .free)→∃c,X.env.cells.lookup x=some c
 cab:∀x c,X.fn x=true→X.env.cells.lookup x=some c→X.s₀.heap.objs.size≤c
 hd:X.calm=true→X.A.handled=none
 frames:X.A.frames=some X.stack
 stk:X.stack=X.outer∨(X.stack=X.env::X.outer∧X.env.frame=some X.env.locals)
 exf:∀b∈X.ex,b≠X.env.locals∧∀x c,X.env.cells.lookup x=some c→c≠b
 bs:∀b o,X.base.get? b=some o→X.s₀.heap.get? b=some o∧X.H₀ b=none
 bsz:X.base.objs.size≤X.s₀.heap.objs.size
 noex:∀b o,X.base.get? b=some o→b∉X.ex
 exfs:∀b∈X.ex,b∉X.fs
 funs:X.s₀.heap.FunFrames X.base X.outer
 frf:∀b∈X.fs,X.H₀ b=none
structure Inv (X:Cx) (pins:List (Addr×Obj)) (σ:List (Option V)) (H:Hp) (s:Shared):Prop where
 ok:X.Ok
 os:s.os=X.s₀.os
 bare:AllBare s.gens
 base:Un X.fs X.ex X.H₀ H X.s₀.heap s.heap
 loc:∃m,s.heap.Ns X.env.locals m∧∀(i:Nat) (x:Str) (v:V),X.N[i]? = some x→σ[i]? = some (some v)→Rz X.env.scope x→∃u,RelV v u∧RH X.env s.heap m x u
 cell:∀x c,X.env.cells.lookup x=some c→∃v,s.heap.IsCell c v
 free:H X.env.locals=none
 freeC:∀x c,X.env.cells.lookup x=some c→H c=none
 pin:∀p∈X.pn++pins,s.heap.get? p.1=some p.2∧H p.1=none∧p.1≠X.env.locals∧p.1∉X.fs∧∀v,p.2.data≠.cell v
 hok:HOk X.prog X.w H s.heap
 len:σ.length=X.N.length
section
variable {X:Cx} {pins:List (Addr×Obj)} {σ:List (Option V)} {H H':Hp} {s:Shared} {h':Heap}
theorem Cx.Ok.nofr (ok:X.Ok) {b:Addr} {o:Obj} (e:X.base.get? b=some o):b∉X.fs:=fun hb=>by
 have:=(ok.funs.mem hb).1
 rw[e] at this;cases this
theorem Inv.bs (I:Inv X pins σ H s):∀b o,X.base.get? b=some o→s.heap.get? b=some o∧H b=none:=fun b o e=>
 ⟨I.base.keep b o (I.ok.bs b o e).1 (I.ok.bs b o e).2 (I.ok.nofr e) (I.ok.noex b o e),I.base.free b o (I.ok.bs b o e).1 (I.ok.bs b o e).2 (I.ok.noex b o e)⟩
theorem Inv.bk (I:Inv X pins σ H s):∀b o,X.base.get? b=some o→s.heap.get? b=some o:=fun b o e=>(I.bs b o e).1
theorem Inv.mod (I:Inv X pins σ H s):Mod X.K X.mg X.base:=I.ok.mod
theorem Inv.kIn (I:Inv X pins σ H s):X.K.In s.heap:=I.ok.mod.kin.keeps I.bk
theorem Inv.lt (I:Inv X pins σ H s):X.env.locals<s.heap.objs.size:=let ⟨_,hn,_⟩:=I.loc;hn.lt
theorem Inv.sz (I:Inv X pins σ H s):X.s₀.heap.objs.size≤s.heap.objs.size:=Nat.le_trans I.ok.above (Nat.le_of_lt I.lt)
theorem Inv.nofs (I:Inv X pins σ H s) {a:Addr} (h:s.heap.objs.size≤a):a∉X.fs:=fun hb=>by
 obtain⟨_,o,ho,_⟩:=I.ok.funs.mem hb
 exact absurd (Nat.lt_of_lt_of_le (Heap.lt_size ho) (Nat.le_trans I.sz h)) (Nat.lt_irrefl _)
theorem Inv.cne (I:Inv X pins σ H s):∀x c,X.env.cells.lookup x=some c→c≠X.env.locals:=fun x c e z=>by
 obtain⟨v,o,ho,hd⟩:=I.cell x c e
 obtain⟨m,⟨o',es,ep,ho',hd',_⟩,_⟩:=I.loc
 rw[z,ho'] at ho;cases ho;rw[hd'] at hd;cases hd
theorem Inv.funs (I:Inv X pins σ H s):s.heap.FunFrames X.base X.outer:=by
 have all:∀(l:List Env),(∀b∈Fz l,b∈X.fs)→X.s₀.heap.FunFrames X.base l→s.heap.FunFrames X.base l:=by
  intro l
  induction l with
  | nil=>intro _ _;trivial
  | cons env r ih=>
   intro hs hl
   obtain⟨hk,⟨L,o,hf,hn,ho,hd⟩,hr⟩:=hl
   have hL:L∈X.fs:=hs L (by unfold Fz;rw[List.filterMap_cons,hf];exact List.mem_cons_self)
   obtain⟨sl,e⟩:=I.base.slot L o ho (I.ok.frf L hL) hL fun z=>I.ok.exfs L z hL
   exact⟨hk,⟨L,_,hf,hn,e,hd⟩,ih (fun b hb=>hs b (by unfold Fz;rw[List.filterMap_cons,hf];exact List.mem_cons_of_mem _ hb)) hr⟩
 exact all X.outer (fun _ hb=>hb) I.ok.funs
theorem Inv.stack (I:Inv X pins σ H s):s.heap.FunFrames X.base X.stack:=by
 rcases I.ok.stk with e | ⟨e,hf⟩
 ·rw[e];exact I.funs
 ·rw[e]
  obtain⟨m,hn,_⟩:=I.loc
  refine .cons (by rw[I.ok.kind];decide) hf hn ?_ I.funs
  exact Heap.get?_none_of_le (Nat.le_trans I.ok.bsz I.ok.above)
theorem Inv.stkSub (I:Inv X pins σ H s):∀b∈Fz X.stack,b∈X.env.locals::X.fs:=fun b hb=>by
 rcases I.ok.stk with e | ⟨e,hf⟩
 ·rw[e] at hb;exact List.mem_cons_of_mem _ hb
 ·rw[e] at hb
  unfold Fz at hb
  rw[List.filterMap_cons,hf] at hb
  exact hb
theorem Inv.stkFree (I:Inv X pins σ H s):∀b∈Fz X.stack,H b=none:=fun b hb=>by
 rcases List.mem_cons.mp (I.stkSub b hb) with e | hb
 ·rw[e];exact I.free
 ·obtain⟨_,o,ho,_⟩:=I.ok.funs.mem hb
  exact I.base.free b o ho (I.ok.frf b hb) fun z=>I.ok.exfs b z hb
theorem Inv.step {g':Array GenState} {t':Nat} {d':Drawn} {ch:List Addr} (I:Inv X pins σ H s)
  (hch:∀b∈ch,(b∈X.ex∨X.s₀.heap.objs.size≤b)∧b≠X.env.locals∧(∀x c,X.env.cells.lookup x=some c→c≠b)∧∀p∈X.pn++pins,p.1≠b)
  (keep:∀b o,b≠X.env.locals→b∉X.fs→b∉ch→s.heap.get? b=some o→H b=none→h'.get? b=some o)
  (slot:∀b o,b≠X.env.locals→b∈X.fs→b∉ch→s.heap.get? b=some o→H b=none→∃sl,h'.get? b=some { o with slots:=sl }) (free:∀b o,b∉ch→s.heap.get? b=some o→H b=none→H' b=none)
  (there:∀b o,b∉ch→s.heap.get? b=some o→∃o',h'.get? b=some o')
  (tups:∀b xs,H b=some (.tup xs)→H' b=some (.tup xs)) (frzs:∀b o u,H b=some (.frz o u)→H' b=some (.frz o u)) (tbls:∀b ps,H b=some (.tbl ps)→∃more,H' b=some (.tbl (ps++more)))
  (ns:∀m,s.heap.Ns X.env.locals m→h'.Ns X.env.locals m) (hok:HOk X.prog X.w H' h') (hg:AllBare g') :
  Inv X pins σ H' { s with heap:=h',gens:=g',drawn:=d',toks:=t' }:=by
 have neL:∀b o,X.s₀.heap.get? b=some o→b≠X.env.locals:=fun b o e=>Nat.ne_of_lt (Nat.lt_of_lt_of_le (Heap.lt_size e) I.ok.above)
 have neC:∀b o,X.s₀.heap.get? b=some o→b∉X.ex→b∉ch:=fun b o e hx hb=>by
  rcases (hch b hb).1 with z | z
  ·exact hx z
  ·exact absurd (Nat.lt_of_lt_of_le (Heap.lt_size e) z) (Nat.lt_irrefl _)
 have cellK:∀x c,X.env.cells.lookup x=some c→∀v,s.heap.IsCell c v→h'.IsCell c v:=fun x c e v ⟨o,ho,hd⟩=>by
  have nch:c∉ch:=fun z=>(hch c z).2.2.1 x c e rfl
  by_cases hc:c∈X.fs
  ·obtain⟨sl,q⟩:=slot c o (I.cne x c e) hc nch ho (I.freeC x c e)
   exact⟨_,q,hd⟩
  ·exact⟨o,keep c o (I.cne x c e) hc nch ho (I.freeC x c e),hd⟩
 refine⟨I.ok,I.os,hg,⟨fun b o e n hb hx=>?_,fun b o e n hb hx=>?_,fun b o e n hx=>?_,fun b o e hx=>?_,fun b xs e=>tups b xs (I.base.tups b xs e),fun b o xs e=>frzs b o xs (I.base.frzs b o xs e),fun b ps e=>?_⟩,?_,fun x c e=>?_,?_,fun x c e=>?_,fun p hp=>?_,hok,I.len⟩
 ·exact keep b o (neL b o e) hb (neC b o e hx) (I.base.keep b o e n hb hx) (I.base.free b o e n hx)
 ·obtain⟨sl,e1⟩:=I.base.slot b o e n hb hx
  obtain⟨sl',e2⟩:=slot b _ (neL b o e) hb (neC b o e hx) e1 (I.base.free b o e n hx)
  exact⟨sl',e2⟩
 ·obtain⟨o',e1⟩:=I.base.there b o e hx
  exact free b o' (neC b o e hx) e1 (I.base.free b o e n hx)
 ·obtain⟨o',e1⟩:=I.base.there b o e hx
  exact there b o' (neC b o e hx) e1
 ·obtain⟨m1,e1⟩:=I.base.tbls b ps e
  obtain⟨m2,e2⟩:=tbls b _ e1
  exact⟨m1++m2,by rw[e2,Array.append_assoc]⟩
 ·obtain⟨m,hn,hl⟩:=I.loc
  refine⟨m,ns m hn,fun i x v e1 e2 e3=>?_⟩
  obtain⟨u,r,l⟩:=hl i x v e1 e2 e3
  refine⟨u,r,?_⟩
  rcases l with l | ⟨k,c,e,z⟩
  ·exact .inl l
  ·exact .inr ⟨k,c,e,cellK x c e _ z⟩
 ·obtain⟨v,z⟩:=I.cell x c e
  exact⟨v,cellK x c e v z⟩
 ·obtain⟨m,⟨o,_,_,ho,_⟩,_⟩:=I.loc
  exact free _ o (fun z=>(hch _ z).2.1 rfl) ho I.free
 ·obtain⟨v,o,ho,hd⟩:=I.cell x c e
  exact free c o (fun z=>(hch c z).2.2.1 x c e rfl) ho (I.freeC x c e)
 ·obtain⟨e,n,ne,nf,d⟩:=I.pin p hp
  have nch:p.1∉ch:=fun z=>(hch p.1 z).2.2.2 p hp rfl
  exact⟨keep p.1 p.2 ne nf nch e n,free p.1 p.2 nch e n,ne,nf,d⟩
theorem Inv.un {t':Nat} (I:Inv X pins σ H s) (u:Un X.fs [] H H' s.heap h') (hok:HOk X.prog X.w H' h'):Inv X pins σ H' { s with heap:=h',toks:=t' }:=by
 obtain⟨m,⟨o,es,ep,ho,r⟩,_⟩:=id I.loc
 obtain⟨sl,hL⟩:=u.any ho I.free (by simp)
 exact I.step (g':=s.gens) (d':=s.drawn) (ch:=[]) (fun _ z=>nomatch z) (fun b o _ hb _ e n=>u.keep b o e n hb (by simp)) (fun b o _ hb _ e n=>u.slot b o e n hb (by simp)) (fun b o _ e n=>u.free b o e n (by simp)) (fun b o _ e=>u.there b o e (by simp)) u.tups u.frzs u.tbls (fun m' hm=>by
  obtain⟨o',es',ep',ho',r'⟩:=hm
  rw[ho] at ho';cases ho'
  exact⟨_,es',ep',hL,r'⟩) hok I.bare
theorem Inv.call {g':Array GenState} {t':Nat} {d':Drawn} {ch:List Addr} (I:Inv X pins σ H s) (u:Un (Fz X.stack) ch H H' s.heap h') (hok:HOk X.prog X.w H' h') (hg:AllBare g')
  (hch:∀b∈ch,(b∈X.ex∨X.s₀.heap.objs.size≤b)∧b≠X.env.locals∧(∀x c,X.env.cells.lookup x=some c→c≠b)∧∀p∈X.pn++pins,p.1≠b) :
  Inv X pins σ H' { s with heap:=h',gens:=g',drawn:=d',toks:=t' }:=by
 obtain⟨m,⟨o,es,ep,ho,r⟩,_⟩:=id I.loc
 obtain⟨sl,hL⟩:=u.any ho I.free fun z=>(hch _ z).2.1 rfl
 exact I.step (ch:=ch) hch (fun b o hL hb hc e n=>u.keep b o e n (fun z=>(List.mem_cons.mp (I.stkSub b z)).elim hL hb) hc) (fun b o _ _ hc e n=>u.any e n hc) (fun b o hc e n=>u.free b o e n hc) (fun b o hc e=>u.there b o e hc) u.tups u.frzs u.tbls (fun m' hm=>by
  obtain⟨o',es',ep',ho',r'⟩:=hm
  rw[ho] at ho';cases ho'
  exact⟨_,es',ep',hL,r'⟩) hok hg
theorem Inv.turned {t':Nat} {it:Addr} (I:Inv X pins σ H s) (k:∀b o,b≠it→s.heap.get? b=some o→h'.get? b=some o) (hn:H it=none) (hL:it≠X.env.locals)
  (h1:it∈X.ex∨X.s₀.heap.objs.size≤it) (h2:∀x c,X.env.cells.lookup x=some c→c≠it) (h3:∀p∈X.pn++pins,p.1≠it):Inv X pins σ H { s with heap:=h',toks:=t' }:=by
 have nit:∀b u,H b=some u→b≠it:=fun b u e z=>by rw[z,hn] at e;cases e
 refine I.step (g':=s.gens) (d':=s.drawn) (ch:=[it]) (fun b hb=>?_) (fun b o _ _ hc e _=>k b o (fun z=>hc (by simp[z])) e) (fun b o _ _ hc e _=>⟨o.slots,k b o (fun z=>hc (by simp[z])) e⟩) (fun _ _ _ _ n=>n)
  (fun b o hc e=>⟨o,k b o (fun z=>hc (by simp[z])) e⟩) (fun _ _ e=>e) (fun _ _ _ e=>e) (fun b ps e=>⟨#[],by rw[e];simp⟩) (fun m hm=>?_) (fun b u e=>?_) I.bare
 ·have e:b=it:=by simpa using hb
  subst e
  exact⟨h1,hL,h2,h3⟩
 ·obtain⟨o,es,ep,ho,r⟩:=hm
  exact⟨o,es,ep,k _ o (Ne.symm hL) ho,r⟩
 ·refine (I.hok b u e).stay (fun c v hc q=>k c v ?_ q) (fun _ q=>q) fun _ _ q=>q
  rcases hc with z | z
  ·rw[z];exact nit b u e
  ·exact nit c _ z
theorem Inv.tok (I:Inv X pins σ H s) (t:Nat):Inv X pins σ H { s with toks:=t }:=I.un (h':=s.heap) (t':=t) Un.refl I.hok
theorem Inv.kept {t':Nat} (I:Inv X pins σ H s) (k:∀b u,s.heap.get? b=some u→h'.get? b=some u):Inv X pins σ H { s with heap:=h',toks:=t' }:=I.un (Un.kept k) (I.hok.kept k)
theorem Inv.laid {a:Addr} {o:HO} {t':Nat} (I:Inv X pins σ H s) (k:∀b u,s.heap.get? b=some u→h'.get? b=some u) (hp:s.heap.objs.size≤a) (new:ObjOk X.prog X.w (AA H a o) h' a o) :
  Inv X pins σ (AA H a o) { s with heap:=h',toks:=t' }:=I.un (Un.laid k hp (I.hok.fresh hp)) (I.hok.laid k hp new)
theorem Inv.write {x e:Addr} {o:HO} {t':Nat} (I:Inv X pins σ H s) (mu:Qi (H x)) (he:e=x∨H e=some (.own x)) (k:∀b u,b≠e→s.heap.get? b=some u→h'.get? b=some u) (heo:∃u,h'.get? e=some u)
  (new:ObjOk X.prog X.w (AA H x o) h' x o):Inv X pins σ (AA H x o) { s with heap:=h',toks:=t' }:=I.un (Un.write mu he k heo) (I.hok.write mu he k heo new)
theorem Inv.pins_of {pins':List (Addr×Obj)} (I:Inv X pins σ H s) (h:∀p∈pins',s.heap.get? p.1=some p.2∧H p.1=none∧p.1≠X.env.locals∧p.1∉X.fs∧∀v,p.2.data≠.cell v):Inv X pins' σ H s:=
 ⟨I.ok,I.os,I.bare,I.base,I.loc,I.cell,I.free,I.freeC,fun p hp=>(List.mem_append.mp hp).elim (fun z=>I.pin p (List.mem_append_left _ z)) (h p),I.hok,I.len⟩
theorem IJ {N:List Str} (hN:N.Nodup) {i j:Nat} {x:Str} (a:N[i]? = some x) (b:N[j]? = some x):i=j:=by
 obtain⟨h1,e1⟩:=List.getElem?_eq_some_iff.mp a
 obtain⟨h2,e2⟩:=List.getElem?_eq_some_iff.mp b
 exact (List.getElem_inj hN).mp (e1.trans e2.symm)
theorem Gf {M:Model} {A:Around} {E:Value→Shared→Prop} {i:Nat} {x:Str} {v:V} {u:Value} {Q:Unit→Shared→Prop} (I:Inv X pins σ H s) (hN:X.N.Nodup) (hi:X.N[i]? = some x) (hx:O5 X.env.scope x) (r:RelV v u)
  (h:∀s',Inv X pins (σ.set i (some v)) H s'→(∃a,Heap.SameBut a s.heap s'.heap∧(a=X.env.locals∨X.env.cells.lookup x=some a))→Q () s') (hf:X.fn x=true∨X.env.scope.names.lookup x=some .local:=by first | exact .inl rfl | exact .inr rfl | assumption):wpAny M A (storeName X.env x u) Q E s:=by
 obtain⟨m,hn,hl⟩:=id I.loc
 have hcls:(X.env.scope.kind == .class || (X.env.scope.kind == .module && X.env.locals != X.env.globals))=false:=by rw[I.ok.kind];rfl
 have hiσ:i<σ.length:=by rw[I.len];exact (List.getElem?_eq_some_iff.mp hi).1
 have cne:=I.cne
 have tracked:∀{a:Addr} {h':Heap},(∃o,s.heap.get? a=some o∧H a=none)→Heap.SameBut a s.heap h'→HOk X.prog X.w H h':=fun {a h'} ha hs b ob e=>by
  obtain⟨_,_,hfree⟩:=ha
  refine (I.hok b ob e).stay (fun c w' hc q=>(hs.2 c ?_).trans q) (fun _ q=>q) fun _ _ q=>q
  rintro rfl
  rcases hc with rfl | hc
  ·rw[hfree] at e;cases e
  ·rw[hfree] at hc;cases hc
 rcases hx with hk | hk
 ·refine wpAny_storeName_local hk hn (fun h' hn' hs=>?_) hcls
  obtain⟨oL,_,_,hoL,_⟩:=id hn
  refine h _ ⟨I.ok,I.os,I.bare,⟨fun b o e n hb hx=>?_,fun b o e n hb hx=>?_,I.base.free,fun b o e hx=>?_,I.base.tups,I.base.frzs,I.base.tbls⟩,⟨_,hn',fun j y v' e1 e2 e3=>?_⟩,fun y c e=>?_,I.free,I.freeC,fun p hp=>?_,tracked ⟨oL,hoL,I.free⟩ hs,by simpa using I.len⟩ ⟨_,hs,.inl rfl⟩
  ·exact (hs.2 b (Nat.ne_of_lt (Nat.lt_of_lt_of_le (Heap.lt_size e) I.ok.above))).trans (I.base.keep b o e n hb hx)
  ·obtain⟨sl,e1⟩:=I.base.slot b o e n hb hx
   exact⟨sl,(hs.2 b (Nat.ne_of_lt (Nat.lt_of_lt_of_le (Heap.lt_size e) I.ok.above))).trans e1⟩
  ·obtain⟨o',e1⟩:=I.base.there b o e hx
   exact⟨o',(hs.2 b (Nat.ne_of_lt (Nat.lt_of_lt_of_le (Heap.lt_size e) I.ok.above))).trans e1⟩
  ·by_cases hj:j=i
   ·subst hj
    rw[hi] at e1;cases e1
    rw[List.getElem?_set_self hiσ] at e2
    cases e2
    exact⟨u,r,.inl ⟨hk,by simp⟩⟩
   ·rw[List.getElem?_set_ne (Ne.symm hj)] at e2
    obtain⟨u',r',q⟩:=hl j y v' e1 e2 e3
    refine⟨u',r',?_⟩
    rcases q with⟨k,e⟩|⟨k,c,e,z⟩
    ·refine .inl ⟨k,?_⟩
     have:y≠x:=fun e=>hj (IJ hN e1 (e ▸ hi))
     simp[this,e]
    ·exact .inr ⟨k,c,e,z.sameBut hs (cne y c e)⟩
  ·obtain⟨w',z⟩:=I.cell y c e
   exact⟨w',z.sameBut hs (cne y c e)⟩
  ·obtain⟨e,n,ne,nf,d⟩:=I.pin p hp
   exact⟨(hs.2 p.1 ne).trans e,n,ne,nf,d⟩
 ·have hfn:X.fn x=true:=by
   rcases hf with z | z
   ·exact z
   ·rw[z] at hk;cases hk
  obtain⟨c,hc⟩:=I.ok.has x (.inl hk)
  obtain⟨w',z⟩:=I.cell x c hc
  refine wpAny_storeName_cell I.ok.kind hk hc z (fun h' hc' hs=>?_)
  obtain⟨oc,hoc,hocd⟩:=id z
  refine h { s with heap:=h' } ⟨I.ok,I.os,I.bare,⟨fun b o e n hb hx=>?_,fun b o e n hb hx=>?_,I.base.free,fun b o e hx=>?_,I.base.tups,I.base.frzs,I.base.tbls⟩,⟨m,hn.sameBut hs (Ne.symm (cne x c hc)),fun j y v' e1 e2 e3=>?_⟩,fun y c' e=>?_,I.free,I.freeC,fun p hp=>?_,tracked ⟨oc,hoc,I.freeC x c hc⟩ hs,by simpa using I.len⟩ ⟨c,hs,.inr hc⟩
  ·exact (hs.2 b (Nat.ne_of_lt (Nat.lt_of_lt_of_le (Heap.lt_size e) (I.ok.cab x c hfn hc)))).trans (I.base.keep b o e n hb hx)
  ·obtain⟨sl,e1⟩:=I.base.slot b o e n hb hx
   exact⟨sl,(hs.2 b (Nat.ne_of_lt (Nat.lt_of_lt_of_le (Heap.lt_size e) (I.ok.cab x c hfn hc)))).trans e1⟩
  ·obtain⟨o',e1⟩:=I.base.there b o e hx
   exact⟨o',(hs.2 b (Nat.ne_of_lt (Nat.lt_of_lt_of_le (Heap.lt_size e) (I.ok.cab x c hfn hc)))).trans e1⟩
  ·by_cases hj:j=i
   ·subst hj
    rw[hi] at e1;cases e1
    rw[List.getElem?_set_self hiσ] at e2
    cases e2
    exact⟨u,r,.inr ⟨.inl hk,c,hc,hc'⟩⟩
   ·rw[List.getElem?_set_ne (Ne.symm hj)] at e2
    obtain⟨u',r',q⟩:=hl j y v' e1 e2 e3
    refine⟨u',r',?_⟩
    rcases q with q | ⟨k,c',e,z'⟩
    ·exact .inl q
    ·refine .inr ⟨k,c',e,z'.sameBut hs ?_⟩
     rintro rfl
     exact hj (IJ hN e1 (I.ok.inj _ _ _ e hc ▸ hi))
  ·by_cases hcc:c'=c
   ·subst hcc;exact⟨_,hc'⟩
   ·obtain⟨w2,z2⟩:=I.cell y c' e
    exact⟨w2,z2.sameBut hs hcc⟩
  ·obtain⟨e,n,ne,nf,d⟩:=I.pin p hp
   refine⟨(hs.2 p.1 ?_).trans e,n,ne,nf,d⟩
   intro q
   rw[q,hoc] at e
   have q':oc=p.2:=Option.some.inj e
   exact d w' (by rw[←q'];exact hocd)
theorem Iz {M:Model} {A:Around} {E:Value→Shared→Prop} {i:Nat} {x:Str} {v:V} {u:Value} {Q:Unit→Shared→Prop} (I:Inv X pins σ H s) (hN:X.N.Nodup) (hi:X.N[i]? = some x) (hx:O5 X.env.scope x) (r:RelV v u)
  (h:∀s',Inv X pins (σ.set i (some v)) H s'→Q () s') (hf:X.fn x=true∨X.env.scope.names.lookup x=some .local:=by first | exact .inl rfl | exact .inr rfl | assumption):wpAny M A (storeName X.env x u) Q E s:=
 Gf I hN hi hx r (fun s' I' _=>h s' I') hf
theorem Inv.call' {s':Shared} {ch:List Addr} (I:Inv X pins σ H s) (ho:s'.os=s.os) (u:Un (Fz X.stack) ch H H' s.heap s'.heap) (hok:HOk X.prog X.w H' s'.heap) (hg:AllBare s'.gens)
  (hch:∀b∈ch,(b∈X.ex∨X.s₀.heap.objs.size≤b)∧b≠X.env.locals∧(∀x c,X.env.cells.lookup x=some c→c≠b)∧∀p∈X.pn++pins,p.1≠b):Inv X pins σ H' s':=by
 obtain⟨h',g',d',t',o'⟩:=s'
 have e:o'=s.os:=ho
 subst e
 exact I.call (g':=g') (t':=t') (d':=d') u hok hg hch
end
abbrev XK:=Value→Option Addr→Hp→Prop
abbrev St:=List (Option V)
abbrev VK:=V→Hp→Prop
abbrev TE:=St→Hp→VK→Prop
abbrev TT:=St→Hp→(Bool→Hp→Prop)→Prop
abbrev TA:=St→Hp→(List V→Hp→Prop)→Prop
structure BV where
 nx:St→Hp→Prop
 rt:VK
 bk:St→Hp→Prop:=fun _ _=>False
 ct:St→Hp→Prop:=fun _ _=>False
abbrev TS:=BV→St→Hp→Prop
def EP (X:Cx) (pins:List (Addr×Obj)) (σ:St) (Q:VK) (u:Value) (s':Shared):Prop:=∃v H',Inv X pins σ H' s'∧RelV v u∧Q v H'
def TP (X:Cx) (pins:List (Addr×Obj)) (σ:St) (Q:Bool→Hp→Prop) (b:Bool) (s':Shared):Prop:=∃H',Inv X pins σ H' s'∧Q b H'
def AP (X:Cx) (pins:List (Addr×Obj)) (σ:St) (Q:List V→Hp→Prop) (us:List Value) (s':Shared):Prop:=∃vs H',Inv X pins σ H' s'∧Vals vs us∧Q vs H'
def SP (X:Cx) (pins:List (Addr×Obj)) (D:BV) (f:Flow) (s':Shared):Prop:=
 match f with
 | .next=>∃σ' H',Inv X pins σ' H' s'∧D.nx σ' H'
 | .brk=>∃σ' H',Inv X pins σ' H' s'∧D.bk σ' H'
 | .cont=>∃σ' H',Inv X pins σ' H' s'∧D.ct σ' H'
 | .ret u=>∃v σ' H',Inv X pins σ' H' s'∧RelV v u∧D.rt v H'
def PE (X:Cx) (e:Expr) (t:TE):Prop:=
 ∀(pins:List (Addr×Obj)) (s:Shared) (σ:St) (H:Hp) (Q:VK),Inv X pins σ H s→t σ H Q→wpAny (model X.prog X.w) X.A (eval e X.env) (EP X pins σ Q) X.xe s
def PT (X:Cx) (e:Expr) (t:TT):Prop:=
 ∀(pins:List (Addr×Obj)) (s:Shared) (σ:St) (H:Hp) (Q:Bool→Hp→Prop),Inv X pins σ H s→t σ H Q→wpAny (model X.prog X.w) X.A (isTrue e X.env (eval e X.env)) (TP X pins σ Q) X.xe s
def PW (X:Cx) (e:Expr) (t:TT):Prop:=
 ∀(whole:Sem Value) (pins:List (Addr×Obj)) (s:Shared) (σ:St) (H:Hp) (Q:Bool→Hp→Prop),Inv X pins σ H s→t σ H Q→wpAny (model X.prog X.w) X.A (isTrue e X.env whole) (TP X pins σ Q) X.xe s
theorem PW.pt {X:Cx} {e:Expr} {t:TT} (h:PW X e t):PT X e t:=h _
def PA (X:Cx) (es:List Expr) (t:TA):Prop:=
 ∀(pos:Pos) (pins:List (Addr×Obj)) (s:Shared) (σ:St) (H:Hp) (Q:List V→Hp→Prop),Inv X pins σ H s→t σ H Q→wpAny (model X.prog X.w) X.A (spliced (backTo pos (starEach es X.env))) (AP X pins σ Q) X.xe s
def PS (X:Cx) (st:Stmt) (t:TS):Prop:=
 ∀(pins:List (Addr×Obj)) (s:Shared) (σ:St) (H:Hp) (D:BV),Inv X pins σ H s→t D σ H→wpAny (model X.prog X.w) X.A (exec st X.env) (SP X pins D) X.xe s
def PSs (X:Cx) (st:List Stmt) (t:TS):Prop:=
 ∀(pins:List (Addr×Obj)) (s:Shared) (σ:St) (H:Hp) (D:BV),Inv X pins σ H s→t D σ H→wpAny (model X.prog X.w) X.A (execs st X.env) (SP X pins D) X.xe s
theorem AM {α:Type} {t:Sem α} {Q Q':α→Shared→Prop} {M:Model} {A:Around} {E:Value→Shared→Prop} {s:Shared} (h:wpAny M A t Q E s) (hQ:∀a s,Q a s→Q' a s):wpAny M A t Q' E s:=wpAny_mono h hQ fun _ _ x=>x
end L2
namespace L2
open PySem PySem.Spec PyProof.Rows
section
variable {X:Cx}
def Mf (i:Nat):TE:=fun σ H Q=>∃v,σ[i]? = some (some v)∧Q v H
def tC (v:V):TE:=fun _ H Q=>Q v H
theorem PY {i:Nat} {x:Str} {pos:Pos} (hN:X.N[i]? = some x) (hv:Rz X.env.scope x) (hd:(x == ("__debug__":Str))=false:=by decide) (hcd:(x == ("__classdict__":Str))=false:=by decide):PE X (.Name x pos) (Mf i):=by
 intro pins s σ H Q I h
 obtain⟨v,e,h⟩:=h
 obtain⟨m,hn,hl⟩:=I.loc
 obtain⟨u,r,l⟩:=hl i x v hN e hv
 have fin:EP X pins σ Q u s:=⟨v,H,I,r,h⟩
 rcases l with⟨hk,hm⟩|⟨hk,c,hc,hcell⟩
 ·exact wpAny_Name (wpAny_loadName_local I.ok.kind hk hn hm fin) hd
 ·rcases hk with hk | hk
  ·exact wpAny_Name (wpAny_loadName_cell I.ok.kind hk hc hcell fin) hd
  ·exact wpAny_Name (wpAny_loadName_free I.ok.kind hk hc hcell fin hcd) hd
theorem Ah {i j pos}:PE X (.Constant (.int i) j pos) (tC (.int i)):=fun _ _ _ H _ I h=>wpAny_Constant_int ⟨.int i,H,I.tok _,⟨_,rfl⟩,h⟩
theorem Bq {b j pos}:PE X (.Constant (.bool b) j pos) (tC (.bl b)):=fun _ _ _ H _ I h=>Constant_bool ⟨.bl b,H,I,rfl,h⟩
theorem HQ {j pos}:PE X (.Constant .none j pos) (tC .non):=fun _ _ _ H _ I h=>Constant_none ⟨.non,H,I,rfl,h⟩
theorem Ar {x j pos}:PE X (.Constant (.str x) j pos) (tC (.str x)):=fun _ _ _ H _ I h=>Calls.Constant_str ⟨.str x,H,I.tok _,⟨_,rfl⟩,h⟩
def Gl (X:Cx) (x:Str):Prop:=X.env.kindOf x=some .globalImplicit
theorem KN {E:Value→Shared→Prop} {pins:List (Addr×Obj)} {s:Shared} {σ:St} {H:Hp} {x:Str} {u:Value} {pos:Pos} {Q:Value→Shared→Prop} (I:Inv X pins σ H s) (hg:Gl X x) (hm:X.mg x=some u) (h:Q u s)
  (hd:(x == ("__debug__":Str))=false:=by decide):wpAny (model X.prog X.w) X.A (eval (.Name x pos) X.env) Q E s:=
 Calls.Name_function_global I.ok.kind hg (Calls.loadGlobal_global (by rw[I.ok.glob];exact I.mod.glob.keeps I.bk) hm h) hd
theorem DU {E:Value→Shared→Prop} {pins:List (Addr×Obj)} {s:Shared} {σ:St} {H:Hp} {x:Str} {u:Value} {pos:Pos} {Q:Value→Shared→Prop} (I:Inv X pins σ H s) (hg:Gl X x) (hm:X.mg x=none) (hv:bootBuiltins x=some u) (h:Q u s)
  (hn:x≠"__name__":=by decide) (hd:(x == ("__debug__":Str))=false:=by decide):wpAny (model X.prog X.w) X.A (eval (.Name x pos) X.env) Q E s:=by
 obtain⟨mb,h1,h2⟩:=I.mod.blt
 exact Calls.Name_function_global I.ok.kind hg (Calls.loadGlobal_builtin (by rw[I.ok.glob];exact I.mod.glob.keeps I.bk) hm (by rw[I.ok.blt];exact h1.keeps I.bk) ((h2 x hn).trans hv) h) hd
theorem Eg {x:Str} {v:V} {u:Value} {pos:Pos} (hg:Gl X x) (hm:X.mg x=none) (hv:bootBuiltins x=some u) (r:RelV v u) (hn:x≠"__name__":=by decide) (hd:(x == ("__debug__":Str))=false:=by decide):PE X (.Name x pos) (tC v):=
 fun _ _ _ H _ I h=>DU I hg hm hv ⟨v,H,I,r,h⟩ hn hd
variable {a b:Expr} {ta tb:TE} {pos:Pos}
def PC (X:Cx) (op:CmpOp) (a b:Expr) (t:TE):Prop:=
 ∀(pins:List (Addr×Obj)) (s:Shared) (σ:St) (H:Hp) (Q:VK),Inv X pins σ H s→t σ H Q→
  wpAny (model X.prog X.w) X.A (eval a X.env) (fun v s₁=>wpAny (model X.prog X.w) X.A (eval b X.env) (fun u s₂=>wpAny (model X.prog X.w) X.A (compareOp op v u) (EP X pins σ Q) X.xe s₂) X.xe s₁) X.xe s
theorem Jr (b:Expr) {op:CmpOp} (h:op≠.In) (h2:op≠.NotIn):behindInMarks op b=false:=by
 have e1:(op == CmpOp.In)=false:=by cases op<;>first | rfl | exact absurd rfl h
 have e2:(op == CmpOp.NotIn)=false:=by cases op<;>first | rfl | exact absurd rfl h2
 cases b<;>simp[behindInMarks,e1,e2]
def RB (ta:TE):TE:=fun σ H Q=>ta σ H fun x H1=>Q (.bl (decide (x= .non))) H1
def Qz (ta:TE):TE:=fun σ H Q=>ta σ H fun x H1=>Q (.bl (!decide (x= .non))) H1
theorem RelV.none_iff {x:V} {v:Value} (r:RelV x v):(v == Value.none)=decide (x= .non):=by
 cases x with
 | non=>cases r;rfl
 | bl _=>cases r;rfl
 | int _=>obtain⟨t,rfl⟩:=r;rfl
 | str _=>obtain⟨t,rfl⟩:=r;rfl
 | byt _=>obtain⟨t,rfl⟩:=r;rfl
 | flt _=>obtain⟨t,rfl⟩:=r;rfl
 | ref _=>cases r;rfl
 | ty _=>cases r;rfl
theorem HK {j pos'} (ha:PE X a ta):PC X .Is a (.Constant .none j pos') (RB ta):=by
 intro pins s σ H Q I h
 refine AM (ha pins s σ H _ I h) fun v s1 ⟨x,H1,I1,r1,q1⟩=>?_
 exact Constant_none (is_none_gen ⟨.bl _,H1,I1,by rw[r1.none_iff];rfl,q1⟩)
theorem Ko {j pos'} (ha:PE X a ta):PC X .IsNot a (.Constant .none j pos') (Qz ta):=by
 intro pins s σ H Q I h
 refine AM (ha pins s σ H _ I h) fun v s1 ⟨x,H1,I1,r1,q1⟩=>?_
 exact Constant_none (isnot_none_gen ⟨.bl _,H1,I1,by rw[r1.none_iff];rfl,q1⟩)
def tB (t:TE):TT:=fun σ H Q=>t σ H fun x H1=>∃c,x= .bl c∧Q c H1
theorem L9 {op:CmpOp} {t:TE} (h:PC X op a b t) (h1:behindInMarks op b=false:=by first | exact Jr _ (by decide) (by decide) | rfl):PE X (.Compare a [op] [b] pos) t:=fun pins s σ H Q I hw=>wpAny_Compare1 (h pins s σ H Q I hw) h1
theorem HH {op:CmpOp} {t:TE} (h:PC X op a b t) (h1:behindInMarks op b=false:=by first | exact Jr _ (by decide) (by decide) | rfl):PT X (.Compare a [op] [b] pos) (tB t):=by
 intro pins s σ H Q I hw
 refine wpAny_isTrue_Compare1 (AM (h pins s σ H _ I hw) fun v s1 h1=>AM h1 fun u s2 h2=>AM h2 fun c s3 ⟨x,H1,I1,r1,q1⟩=>?_) h1
 obtain⟨d,rfl,q⟩:=q1
 cases r1
 exact wpAny_truthy_bool ⟨H1,I1,q⟩
theorem A1 {e:Expr} {t:TE} (h:PE X e t) (he:∀whole,isTrue e X.env whole=(do let v ←whole;standAt e.pos;holding [v] (truthy v)):=by intro _;rfl):PT X e (tB t):=by
 intro pins s σ H Q I hw
 refine isTrue_plain (AM (h pins s σ H _ I hw) fun v s1 ⟨x,H1,I1,r1,q1⟩=>?_) (he _)
 obtain⟨d,rfl,q⟩:=q1
 cases r1
 exact wpAny_truthy_bool ⟨H1,I1,q⟩
variable {tA tB':TT} {rest:List Expr}
def Rx (t u:TT):TT:=fun σ H Q=>t σ H fun c H1=>if c=true then u σ H1 Q else Q false H1
def R0 (t u:TT):TT:=fun σ H Q=>t σ H fun c H1=>if c=true then Q true H1 else u σ H1 Q
def Rc (t:TT):TT:=fun σ H Q=>t σ H fun c H1=>Q (!c) H1
theorem BN (ha:PT X a tA):PW X (.BoolOp .And [a] pos) tA:=by
 intro wh pins s σ H Q I h
 refine isTrue_and (AM (ha pins s σ H Q I h) fun c s1 e=>?_)
 cases c with
 | true=>exact isTrue_and_nil e
 | false=>exact e
theorem FD (ha:PT X a tA):PW X (.BoolOp .Or [a] pos) tA:=by
 intro wh pins s σ H Q I h
 refine isTrue_or (AM (ha pins s σ H Q I h) fun c s1 e=>?_)
 cases c with
 | false=>exact isTrue_or_nil e
 | true=>exact e
theorem Cz (ha:PT X a tA) (hb:PW X (.BoolOp .And (b::rest) pos) tB'):PW X (.BoolOp .And (a::b::rest) pos) (Rx tA tB'):=by
 intro wh pins s σ H Q I h
 refine isTrue_and (AM (ha pins s σ H _ I h) fun c s1 ⟨H1,I1,q1⟩=>?_)
 cases c with
 | true=>exact hb wh pins s1 σ H1 Q I1 q1
 | false=>exact⟨H1,I1,q1⟩
theorem GX (ha:PT X a tA) (hb:PW X (.BoolOp .Or (b::rest) pos) tB'):PW X (.BoolOp .Or (a::b::rest) pos) (R0 tA tB'):=by
 intro wh pins s σ H Q I h
 refine isTrue_or (AM (ha pins s σ H _ I h) fun c s1 ⟨H1,I1,q1⟩=>?_)
 cases c with
 | true=>exact⟨H1,I1,q1⟩
 | false=>exact hb wh pins s1 σ H1 Q I1 q1
theorem BJ (ha:PT X a tA):PT X (.UnaryOp .Not a pos) (Rc tA):=by
 intro pins s σ H Q I h
 exact isTrue_not (ha pins s σ H (fun c H1=>Q (!c) H1) I h)
def QW (ta tb:TE):TE:=fun σ H Q=>ta σ H fun x H1=>∃c,x= .bl c∧if c=true then tb σ H1 Q else Q (.bl false) H1
def Ro (ta tb:TE):TE:=fun σ H Q=>ta σ H fun x H1=>∃c,x= .bl c∧if c=true then Q (.bl true) H1 else tb σ H1 Q
def QG (ta:TE):TE:=fun σ H Q=>ta σ H fun x H1=>∃c,x= .bl c∧Q (.bl (!c)) H1
theorem Cm {op} {t:TE} (h:PE X a t):PE X (.BoolOp op [a] pos) t:=fun pins s σ H Q I hw=>BoolOp_one (h pins s σ H Q I hw)
theorem Kb (ha:PE X a ta) (hb:PE X (.BoolOp .And (b::rest) pos) tb):PE X (.BoolOp .And (a::b::rest) pos) (QW ta tb):=by
 intro pins s σ H Q I h
 refine BoolOp_and (AM (ha pins s σ H _ I h) fun v s1 ⟨x,H1,I1,r1,q1⟩=>?_)
 obtain⟨c,rfl,q1⟩:=q1
 cases r1
 refine wpAny_truthy_bool ?_
 cases c with
 | true=>exact hb pins s1 σ H1 Q I1 q1
 | false=>exact⟨.bl false,H1,I1,rfl,q1⟩
theorem Gw (ha:PE X a ta) (hb:PE X (.BoolOp .Or (b::rest) pos) tb):PE X (.BoolOp .Or (a::b::rest) pos) (Ro ta tb):=by
 intro pins s σ H Q I h
 refine BoolOp_or (AM (ha pins s σ H _ I h) fun v s1 ⟨x,H1,I1,r1,q1⟩=>?_)
 obtain⟨c,rfl,q1⟩:=q1
 cases r1
 refine wpAny_truthy_bool ?_
 cases c with
 | false=>exact hb pins s1 σ H1 Q I1 q1
 | true=>exact⟨.bl true,H1,I1,rfl,q1⟩
theorem Hx (ha:PE X a ta):PE X (.UnaryOp .Not a pos) (QG ta):=by
 intro pins s σ H Q I h
 refine UnaryOp_ (AM (ha pins s σ H _ I h) fun v s1 ⟨x,H1,I1,r1,q1⟩=>?_)
 obtain⟨c,rfl,q1⟩:=q1
 cases r1
 exact not_of (wpAny_truthy_bool ⟨.bl (!c),H1,I1,rfl,q1⟩)
def RW (t:TT) (ta tb:TE):TE:=fun σ H Q=>t σ H fun c H1=>if c=true then ta σ H1 Q else tb σ H1 Q
theorem IP {c:Expr} (hc:PT X c tA) (ha:PE X a ta) (hb:PE X b tb):PE X (.IfExp c a b pos) (RW tA ta tb):=by
 intro pins s σ H Q I h
 refine wpAny_IfExp (AM (hc pins s σ H _ I h) fun d s1 ⟨H1,I1,q1⟩=>?_)
 cases d with
 | true=>exact ha pins s1 σ H1 Q I1 q1
 | false=>exact hb pins s1 σ H1 Q I1 q1
end
end L2
namespace L2
open PySem PySem.Spec PyProof.Rows
def SqL (K:PySem.W.Frag) (H:Hp) (a:Addr) (xs:List V):Prop:=
 Rd H a (.lst xs)∨
  ∃(o:Obj) (its:Array Value) (n:Nat),K.lookup a=some o∧o.cls= .type "list"∧o.dict=none∧o.data= .seq its n∧its.size≤sizeLine∧Vals xs its.toList
def SqT (K:PySem.W.Frag) (H:Hp) (a:Addr) (xs:List V):Prop:=
 Rd H a (.tup xs)∨
  ∃(o:Obj) (its:Array Value) (n:Nat),K.lookup a=some o∧o.cls= .type "tuple"∧o.data= .seq its n∧its.size≤sizeLine∧Vals xs its.toList
def RL:Value→Option V
 | .none=>some .non
 | .bool b=>some (.bl b)
 | .int i _=>some (.int i)
 | .str x _=>some (.str x)
 | .bytes b _=>some (.byt b)
 | .float b _=>some (.flt b)
 | .ref a=>some (.ref a)
 | .type n=>some (.ty n)
 | _=>none
theorem RelV.abs {x:V} {u:Value} (r:RelV x u):RL u=some x:=by
 cases x with
 | non=>cases r;rfl
 | bl _=>cases r;rfl
 | int _=>obtain⟨t,rfl⟩:=r;rfl
 | str _=>obtain⟨t,rfl⟩:=r;rfl
 | byt _=>obtain⟨t,rfl⟩:=r;rfl
 | flt _=>obtain⟨t,rfl⟩:=r;rfl
 | ref _=>cases r;rfl
 | ty _=>cases r;rfl
theorem RelV.inj {x y:V} {u:Value} (r:RelV x u) (q:RelV y u):x=y:=Option.some.inj (r.abs.symm.trans q.abs)
theorem Vals.inj:∀{xs ys:List V} {us:List Value},Vals xs us→Vals ys us→xs=ys
 | _,_,_,.nil,.nil=>rfl
 | _,_,_,.cons r t,.cons r' t'=>by rw[r.inj r',Vals.inj t t']
section
variable {X:Cx} {pins:List (Addr×Obj)} {σ:St} {H:Hp} {s:Shared} {a:Addr} {xs ys:List V}
theorem SqL.of {K:PySem.W.Frag} (h:H a=some (.lst xs)):SqL K H a xs:=.inl (.inl h)
theorem SqT.of {K:PySem.W.Frag} (h:H a=some (.tup xs)):SqT K H a xs:=.inl (.inl h)
theorem Inv.list (I:Inv X pins σ H s) (h:SqL X.K H a xs):∃its:List Value,Vals xs its∧PlainL s.heap a its.toArray∧xs.length≤sizeLine:=by
 rcases h with h | ⟨o,its,n,hk,hc,hd,hs,hz,r⟩
 ·obtain⟨z,its,n,r,e⟩:=h.ok I.hok
  exact⟨its,r,⟨_,n,e,rfl,rfl,rfl⟩,z⟩
 ·refine⟨its.toList,r,⟨o,n,I.kIn a o hk,hc,hd,by simpa using hs⟩,?_⟩
  have e:=r.length
  simp only[Array.length_toList] at e
  omega
theorem Inv.tuple (I:Inv X pins σ H s) (h:SqT X.K H a xs):∃its:List Value,Vals xs its∧IsTup s.heap a its.toArray∧xs.length≤sizeLine:=by
 rcases h with h | ⟨o,its,n,hk,hc,hs,hz,r⟩
 ·obtain⟨z,its,r,p⟩:=h.ok I.hok
  exact⟨its,r,p,z⟩
 ·refine⟨its.toList,r,⟨o,I.kIn a o hk,hc,n,by simpa using hs⟩,?_⟩
  have e:=r.length
  simp only[Array.length_toList] at e
  omega
theorem Inv.list_inj (I:Inv X pins σ H s) (h:SqL X.K H a xs) (h':SqL X.K H a ys):xs=ys:=by
 obtain⟨its,r,⟨o,n,e,_,_,d⟩,_⟩:=I.list h
 obtain⟨its',r',⟨o',n',e',_,_,d'⟩,_⟩:=I.list h'
 rw[e] at e';cases e'
 rw[d] at d'
 injection d' with d1 _
 have:its=its':=by simpa using congrArg Array.toList d1
 subst this
 exact r.inj r'
theorem Inv.tuple_inj (I:Inv X pins σ H s) (h:SqT X.K H a xs) (h':SqT X.K H a ys):xs=ys:=by
 obtain⟨its,r,⟨o,e,_,n,d⟩,_⟩:=I.tuple h
 obtain⟨its',r',⟨o',e',_,n',d'⟩,_⟩:=I.tuple h'
 rw[e] at e';cases e'
 rw[d] at d'
 injection d' with d1 _
 have:its=its':=by simpa using congrArg Array.toList d1
 subst this
 exact r.inj r'
end
abbrev Cx.wish (X:Cx) (E:Value→Shared→Prop):Cx:={ X with xe:=E }
abbrev Cx.nox (X:Cx):Cx:=X.wish fun _ _=>False
theorem Cx.Ok.wish {X:Cx} (ok:X.Ok) (E:Value→Shared→Prop):(X.wish E).Ok:=
 ⟨ok.mod,ok.kind,ok.glob,ok.blt,ok.above,ok.inj,ok.has,ok.cab,ok.hd,ok.frames,ok.stk,ok.exf,ok.bs,ok.bsz,ok.noex,ok.exfs,ok.funs,ok.frf⟩
theorem Cx.Ok.unwish {X:Cx} {E:Value→Shared→Prop} (ok:(X.wish E).Ok):X.Ok:=
 ⟨ok.mod,ok.kind,ok.glob,ok.blt,ok.above,ok.inj,ok.has,ok.cab,ok.hd,ok.frames,ok.stk,ok.exf,ok.bs,ok.bsz,ok.noex,ok.exfs,ok.funs,ok.frf⟩
section
variable {X:Cx} {pins:List (Addr×Obj)} {σ:St} {H:Hp} {s:Shared} {E:Value→Shared→Prop}
theorem Inv.wish (I:Inv X pins σ H s) (E:Value→Shared→Prop):Inv (X.wish E) pins σ H s:=⟨I.ok.wish E,I.os,I.bare,I.base,I.loc,I.cell,I.free,I.freeC,I.pin,I.hok,I.len⟩
theorem Inv.unwish (I:Inv (X.wish E) pins σ H s):Inv X pins σ H s:=⟨I.ok.unwish,I.os,I.bare,I.base,I.loc,I.cell,I.free,I.freeC,I.pin,I.hok,I.len⟩
theorem SP.unwish {D:BV} {f:Flow} {s':Shared} (h:SP (X.wish E) pins D f s'):SP X pins D f s':=by
 cases f with
 | next=>obtain⟨σ',H',I,q⟩:=h;exact⟨σ',H',I.unwish,q⟩
 | brk=>obtain⟨σ',H',I,q⟩:=h;exact⟨σ',H',I.unwish,q⟩
 | cont=>obtain⟨σ',H',I,q⟩:=h;exact⟨σ',H',I.unwish,q⟩
 | ret u=>obtain⟨v,σ',H',I,r,q⟩:=h;exact⟨v,σ',H',I.unwish,r,q⟩
theorem PSs.nox {st:List Stmt} {t:TS} (h:PSs X.nox st t):PSs X st t:=fun pins s σ H D I hw=>
 wpAny_mono (h pins s σ H D (I.wish _) hw) (fun _ _ q=>q.unwish) fun _ _ z=>False.elim z
end
section
variable {X:Cx} {st:Stmt} {rest:List Stmt} {t u:TS} {e:Expr} {te:TE} {pos:Pos}
def QS:TS:=fun D σ H=>D.nx σ H
def Nw (t u:TS):TS:=fun D σ H=>t { D with nx:=u D } σ H
theorem An:PSs X [] QS:=fun _ _ σ H _ I h=>wpAny_execs_nil ⟨σ,H,I,h⟩
theorem Ad (h1:PS X st t) (h2:PSs X rest u):PSs X (st::rest) (Nw t u):=by
 intro pins s σ H D I h
 refine wpAny_execs_cons (AM (h1 pins s σ H { D with nx:=u D } I h) fun f s1 q=>?_)
 cases f with
 | next=>
  obtain⟨σ',H',I',q⟩:=q
  exact h2 pins s1 σ' H' D I' q
 | ret v=>exact q
 | brk=>exact q
 | cont=>exact q
theorem Ae (h1:PS X st t):PSs X [st] t:=by
 intro pins s σ H D I h
 refine wpAny_execs_cons (AM (h1 pins s σ H D I h) fun f s1 q=>?_)
 cases f with
 | next=>exact wpAny_execs_nil q
 | ret v=>exact q
 | brk=>exact q
 | cont=>exact q
def QX:TS:=fun D σ H=>D.ct σ H
theorem Ja:PS X (.Continue pos) QX:=fun _ _ σ H _ I h=>wpAny_Continue ⟨σ,H,I,h⟩
theorem Inv.quiet {pins:List (Addr×Obj)} {σ:St} {H:Hp} {s:Shared} (I:Inv X pins σ H s):interactive X.env=false:=by simp[interactive,I.ok.kind]
def QO (te:TE):TS:=fun D σ H=>te σ H fun _ H1=>D.nx σ H1
theorem AU (he:PE X e te) (hs:swapsWith e none pos.line X.env=pure false:=by rfl):PS X (.Expr e pos) (QO te):=by
 intro pins s σ H D I h
 exact wpAny_Expr_any (AM (he pins s σ H _ I h) fun v s1 ⟨x,H1,I1,r1,q1⟩=>⟨σ,H1,I1,q1⟩) I.quiet hs
def Rn (te:TE):TS:=fun D σ H=>te σ H D.rt
theorem Aj (he:PE X e te):PS X (.Return (some e) pos) (Rn te):=by
 intro pins s σ H D I h
 exact wpAny_Return_some (AM (he pins s σ H _ I h) fun v s1 ⟨x,H1,I1,r1,q1⟩=>⟨x,σ,H1,I1,r1,q1⟩)
def Ru (c:TT) (t u:TS):TS:=fun D σ H=>c σ H fun b H1=>if b=true then t D σ H1 else u D σ H1
theorem AE {c:Expr} {a b:List Stmt} {tc:TT} (hc:PT X c tc) (ha:PSs X a t) (hb:PSs X b u):PS X (.If c a b pos) (Ru tc t u):=by
 intro pins s σ H D I h
 refine wpAny_If (AM (hc pins s σ H _ I h) fun d s1 ⟨H1,I1,q1⟩=>?_)
 cases d with
 | true=>exact ha pins s1 σ H1 D I1 q1
 | false=>exact hb pins s1 σ H1 D I1 q1
end
abbrev TG:=V→St→Hp→(St→Hp→Prop)→Prop
abbrev Ph:=List V→St→Hp→(St→Hp→Prop)→Prop
def PG (X:Cx) (target:Expr) (t:TG):Prop:=
 ∀(pins:List (Addr×Obj)) (s:Shared) (σ:St) (H:Hp) (v:V) (u:Value) (Q:St→Hp→Prop),Inv X pins σ H s→RelV v u→t v σ H Q→
  wpAny (model X.prog X.w) X.A (assign target X.env u) (fun _ s'=>∃σ' H',Inv X pins σ' H' s'∧Q σ' H') X.xe s
def Q4 (X:Cx) (ts:List Expr) (t:Ph):Prop:=
 ∀(pins:List (Addr×Obj)) (s:Shared) (σ:St) (H:Hp) (vs:List V) (us:List Value) (Q:St→Hp→Prop),Inv X pins σ H s→Vals vs us→t vs σ H Q→
  wpAny (model X.prog X.w) X.A (assignInOrder ((assignEach ts X.env).map (·.2)) us) (fun _ s'=>∃σ' H',Inv X pins σ' H' s'∧Q σ' H') X.xe s
abbrev Pc:=V→V→V→Hp→(Hp→Prop)→Prop
def Qx (X:Cx) (t:Pc):Prop:=
 ∀(pins:List (Addr×Obj)) (s:Shared) (σ:St) (H:Hp) (o i v:V) (ov iv u:Value) (Q:Hp→Prop),Inv X pins σ H s→RelV o ov→RelV i iv→RelV v u→t o i v H Q→
  wpAny (model X.prog X.w) X.A (setItem ov iv u) (fun _ s'=>∃H',Inv X pins σ H' s'∧Q H') X.xe s
section
variable {X:Cx} {pos:Pos}
def Ck (i:Nat):TG:=fun v σ H Q=>Q (σ.set i (some v)) H
theorem Ax {i:Nat} {x:Str} (hN:X.N.Nodup) (hi:X.N[i]? = some x) (hx:O5 X.env.scope x) (hf:X.fn x=true∨X.env.scope.names.lookup x=some .local:=by first | exact .inl rfl | exact .inr rfl | assumption):PG X (.Name x pos) (Ck i):=by
 intro pins s σ H v u Q I r h
 exact wpAny_assign_Name (Iz I hN hi hx r (fun s' I'=>⟨_,H,I',h⟩) hf)
def Rt:Ph:=fun vs σ H Q=>vs=[]∧Q σ H
def Q1 (t:TG) (u:Ph):Ph:=fun vs σ H Q=>∃v r,vs=v::r∧t v σ H fun σ' H'=>u r σ' H' Q
theorem DH:Q4 X [] Rt:=by
 intro pins s σ H vs us Q I r h
 obtain⟨e,h⟩:=h
 subst e
 cases r
 exact assignInOrder_nil ⟨σ,H,I,h⟩
theorem Bc {e:Expr} {es:List Expr} {t:TG} {u:Ph} (h1:PG X e t) (h2:Q4 X es u)
  (hs:(assignEach (e::es) X.env).map (·.2)=assign e X.env::(assignEach es X.env).map (·.2):=by rfl):Q4 X (e::es) (Q1 t u):=by
 intro pins s σ H vs us Q I r h
 obtain⟨v,vr,e1,h⟩:=h
 subst e1
 cases r with
 | cons r rr=>
  rw[hs]
  refine assignInOrder_cons (AM (h1 pins s σ H _ _ _ I r h) fun _ s1 ⟨σ1,H1,I1,q1⟩=>?_)
  exact h2 pins s1 σ1 H1 _ _ Q I1 rr q1
def Rq (K:PySem.W.Frag) (n:Nat) (t:Ph):TG:=fun v σ H Q=>∃a xs,v= .ref a∧SqT K H a xs∧xs.length=n∧t xs σ H Q
theorem Er {es:List Expr} {k:Nat} {t:Ph} {n:Nat} (hc:X.calm=true) (h:Q4 X es t)
  (hn:(assignEach es X.env).length=n:=by rfl) (hst:(assignEach es X.env).findIdx? (·.1)=none:=by rfl):PG X (.Tuple es k pos) (Rq X.K n t):=by
 intro pins s σ H v u Q I r hw
 obtain⟨a,xs,e1,hq,hl,hw⟩:=hw
 subst e1
 cases r
 obtain⟨its,rv,ht,hz⟩:=I.tuple hq
 refine assign_Tuple_tuple (I.ok.hd hc) ht (by simp[hn,←hl,rv.length]) hst fun h' hx=>?_
 have I1:Inv X pins σ H { s with heap:=h' }:=I.kept (t':=s.toks) fun b o e=>hx b o (Nat.ne_of_lt (Heap.lt_size e)) e
 exact h pins _ σ H xs _ Q I1 (by simpa using rv) hw
def Rg (to ti:TE) (t:Pc):TG:=fun v σ H Q=>to σ H fun o H1=>ti σ H1 fun i H2=>t o i v H2 fun H3=>Q σ H3
theorem PJ {o i:Expr} {to ti:TE} {t:Pc} (ho:PE X o to) (hi:PE X i ti) (hs:Qx X t)
  (ha:∀v,assign (.Subscript o i pos) X.env v=(do
   let ov ←holding [v] (eval o X.env)
   let iv ←holding [v,ov] (eval i X.env)
   standAt pos
   holding [v,ov,iv] (setItem ov iv v)
   release [v,ov,iv] []):=by intro _;rfl):PG X (.Subscript o i pos) (Rg to ti t):=by
 intro pins s σ H v u Q I r h
 rw[ha]
 refine wpAny_bind (wpAny_holding (AM (ho pins s σ H _ I h) fun ov s1 ⟨x,H1,I1,r1,q1⟩=>?_))
 refine wpAny_bind (wpAny_holding (AM (hi pins s1 σ H1 _ I1 q1) fun iv s2 ⟨y,H2,I2,r2,q2⟩=>?_))
 refine wpAny_bind (wpAny_standAt (wpAny_bind (wpAny_holding (AM (hs pins s2 σ H2 x y v ov iv u _ I2 r1 r2 r q2) fun _ s3 ⟨H3,I3,q3⟩=>?_))))
 exact wpAny_release ⟨σ,H3,I3,q3⟩
def K6 (te:TE) (g:TG):TS:=fun D σ H=>te σ H fun x H1=>g x σ H1 D.nx
theorem MU {tg e:Expr} {te:TE} {g:TG} (he:PE X e te) (hg:PG X tg g) (hs:swapsWithSole [tg] e pos.line X.env=pure false:=by rfl) (hw:swappedStores [tg] e X.env=pure none:=by rfl)
  (h1:(assignEach [tg] X.env).map (·.2)=[assign tg X.env]:=by rfl):PS X (.Assign [tg] e pos) (K6 te g):=by
 intro pins s σ H D I h
 refine wpAny_Assign_stores (AM (he pins s σ H _ I h) fun v s1 ⟨x,H1,I1,r1,q1⟩=>?_) hs hw
 rw[h1]
 exact AM (hg pins s1 σ H1 x v _ I1 r1 q1) fun _ s2 q=>q
theorem Ak {i:Nat} {x:Str} {e:Expr} {te:TE} {pos':Pos} (hN:X.N.Nodup) (hi:X.N[i]? = some x) (hx:O5 X.env.scope x) (he:PE X e te) (hs:swapsWith e (some (.Name x pos')) pos.line X.env=pure false:=by rfl) (hf:X.fn x=true∨X.env.scope.names.lookup x=some .local:=by first | exact .inl rfl | exact .inr rfl | assumption) :
  PS X (.Assign [.Name x pos'] e pos) (K6 te (Ck i)):=by
 intro pins s σ H D I h
 refine wpAny_Assign_Name (AM (he pins s σ H _ I h) fun v s1 ⟨y,H1,I1,r1,q1⟩=>?_) hs
 exact Iz I1 hN hi hx r1 (fun s2 I2=>⟨_,H1,I2,q1⟩) hf
end
section
variable {X:Cx} {pos:Pos}
def PN (c:TT) (tb:TS):TS:=fun D σ H=>∃W:Nat→St→Hp→Prop,(∃m,W m σ H)∧∀m σ H,W m σ H→
 c σ H fun b H1=>if b=true then ∃N:St→Hp→Prop,(∀σ' H',N σ' H'→∃m',m'<m∧W m' σ' H')∧tb { D with nx:=N,ct:=N,bk:=D.nx } σ H1 else D.nx σ H1
theorem FK {c:Expr} {body:List Stmt} {tc:TT} {tb:TS} (hp:PassesOwn (model X.prog X.w) X.A X.env X.xe) (hc:PT X c tc) (hb:PSs X body tb):PS X (.While c body [] pos) (PN tc tb):=by
 intro pins s σ H D I h
 obtain⟨W,⟨m0,w0⟩,turn⟩:=h
 refine wpAny_While (codeAny_whileLoop (fun n s'=>∃σ' H',Inv X pins σ' H' s'∧W n σ' H') ?_ m0 ⟨σ,H,I,w0⟩)
 rintro n s1 ⟨σ1,H1,I1,w1⟩
 refine wpAny_passesOwn hp (AM (hc pins s1 σ1 H1 _ I1 (turn n σ1 H1 w1)) fun b s2 ⟨H2,I2,q2⟩=>?_)
 cases b with
 | true=>
  obtain⟨N,hN,q2⟩:=q2
  rw[if_pos rfl]
  refine wpAny_passesOwn hp (AM (hb pins s2 σ1 H2 _ I2 q2) fun f s3 q3=>?_)
  cases f with
  | next=>
   obtain⟨σ3,H3,I3,n3⟩:=q3
   obtain⟨m',hm,w3⟩:=hN σ3 H3 n3
   exact⟨m',hm,σ3,H3,I3,w3⟩
  | cont=>
   obtain⟨σ3,H3,I3,n3⟩:=q3
   obtain⟨m',hm,w3⟩:=hN σ3 H3 n3
   exact⟨m',hm,σ3,H3,I3,w3⟩
  | brk=>exact q3
  | ret v=>exact q3
 | false=>
  rw[if_neg Bool.false_ne_true]
  exact wpAny_execs_nil ⟨σ1,H2,I2,q2⟩
end
structure It where
 go:Nat→Hp→Prop
 yld:Nat→Hp→V→Hp→Prop
 stop:Nat→Hp→Prop
def BM (X:Cx) (pins:List (Addr×Obj)) (H:Hp) (b:Addr):Prop:=
 H b=none∧b≠X.env.locals∧b∉X.fs∧(b∈X.ex∨X.s₀.heap.objs.size≤b)∧(∀x c,X.env.cells.lookup x=some c→c≠b)∧∀p∈X.pn++pins,p.1≠b
theorem Inv.fpOk {X:Cx} {pins:List (Addr×Obj)} {σ:St} {H H':Hp} {s:Shared} {b:Addr} (I:Inv X pins σ H s) (hb:s.heap.objs.size≤b) (hn:H' b=none):BM X pins H' b:=by
 refine⟨hn,Nat.ne_of_gt (Nat.lt_of_lt_of_le I.lt hb),I.nofs hb,.inr (Nat.le_trans I.sz hb),fun x c e z=>?_,fun p hp z=>?_⟩
 ·obtain⟨v,q⟩:=I.cell x c e
  exact absurd (Nat.lt_of_lt_of_le q.lt (by rw[z];exact hb)) (Nat.lt_irrefl _)
 ·exact absurd (Nat.lt_of_lt_of_le (Heap.lt_size (I.pin p hp).1) (by rw[z];exact hb)) (Nat.lt_irrefl _)
structure Lw (P:Program) (w:World) (K:PySem.W.Frag) (tg:Expr) (J:It) (fp:List Addr) (it:Addr) (tn:Nat→Heap→Prop):Prop where
 mem:it∈fp
 obj:∀i h,tn i h→∀b∈fp,∃o,h.get? b=some o∧∀v,o.data≠.cell v
 keep:∀i h h',tn i h→(∀b∈fp,∀o,h.get? b=some o→h'.get? b=some o)→tn i h'
 item:∀(X:Cx),X.prog=P→X.w=w→X.K=K→X.calm=true→∀(i:Nat) (pins:List (Addr×Obj)) (s:Shared) (σ:St) (H:Hp) (E:Value→Shared→Prop),Inv X pins σ H s→(∀b∈fp,BM X pins H b)→tn i s.heap→J.go i H→
  wpAny (model P w) X.A (pyNext (.ref it)) (fun r s1=>∃u,r=some u∧
   wpAny (model P w) X.A (letOwnedTupleGo tg (.ref it) u) (fun _ s2=>∃x H',Inv X pins σ H' s2∧RelV x u∧J.yld i H x H'∧tn (i+1) s2.heap∧∀b∈fp,H' b=none) E s1) E s
 done:∀(X:Cx),X.prog=P→X.w=w→X.K=K→X.calm=true→∀(i:Nat) (pins:List (Addr×Obj)) (s:Shared) (σ:St) (H:Hp) (E:Value→Shared→Prop),Inv X pins σ H s→(∀b∈fp,BM X pins H b)→tn i s.heap→J.stop i H→
  wpAny (model P w) X.A (pyNext (.ref it)) (fun r s1=>r=none∧Inv X pins σ H s1) E s
 self:∀(A:Around) (i:Nat) (s:Shared) (Q:Value→Shared→Prop) (E:Value→Shared→Prop),tn i s.heap→Q (.ref it) s→wpAny (model P w) A (pyIter (.ref it)) Q E s
abbrev TI:=St→Hp→(It→Hp→Prop)→Prop
def RQ (X:Cx) (pins:List (Addr×Obj)) (σ:St) (tg:Expr) (R:It→Hp→Prop) (itv:Value) (s2:Shared):Prop:=
 ∃(it:Addr) (fp:List Addr) (tn:Nat→Heap→Prop) (J:It) (H':Hp),itv= .ref it∧Inv X pins σ H' s2∧Lw X.prog X.w X.K tg J fp it tn∧tn 0 s2.heap∧(∀b∈fp,BM X pins H' b)∧R J H'
def PI (X:Cx) (tg iter:Expr) (wi:TI):Prop:=
 ∀(pins:List (Addr×Obj)) (s:Shared) (σ:St) (H:Hp) (R:It→Hp→Prop),Inv X pins σ H s→wi σ H R→
  wpAny (model X.prog X.w) X.A (eval iter X.env) (fun v s1=>wpAny (model X.prog X.w) X.A (pyIter v) (RQ X pins σ tg R) X.xe s1) X.xe s
theorem Mt {M:Model} {A:Around} {E:Value→Shared→Prop} {s:Shared} {tg:Expr} {it:Addr} {u:Value} {o:Obj} {n:String} {vs:Array Value} {Q:Unit→Shared→Prop} (ho:s.heap.get? it=some o) (hc:o.cls= .type n) (hd:o.data= .fields vs)
    (hn:["enumerate","zip","dict_itemiterator","dict_reverseitemiterator","odict_iterator","itertools.zip_longest","itertools.pairwise"].contains n=false) (hQ:Q () s):wpAny M A (letOwnedTupleGo tg (.ref it) u) Q E s:=by
  unfold letOwnedTupleGo
  cases tg<;>first
    | exact wpAny_pure hQ
    | (cases u<;>first
        | exact wpAny_pure hQ
        | (refine wpAny_bind (wpAny_load ho ?_)
           rw[hc,hd]
           show wpAny M A (if (["enumerate","zip","dict_itemiterator","dict_reverseitemiterator","odict_iterator","itertools.zip_longest","itertools.pairwise"].contains n && vs[0]? == some (rawInt _))=true then _ else _) Q E s
           rw[if_neg (by intro h;rw[hn,Bool.false_and] at h;cases h)]
           exact wpAny_pure hQ))
def O8 (K:PySem.W.Frag) (a:Addr):It:=
 ⟨fun i H=>∃xs x,SqL K H a xs∧xs[i]? = some x,fun i H x H'=>H'=H∧∀xs,SqL K H a xs→xs[i]? = some x,fun i H=>∃xs,SqL K H a xs∧xs.length≤i⟩
def Qs (K:PySem.W.Frag) (a:Addr):It:=
 ⟨fun i H=>∃xs x,SqT K H a xs∧xs[i]? = some x,fun i H x H'=>H'=H∧∀xs,SqT K H a xs→xs[i]? = some x,fun i H=>∃xs,SqT K H a xs∧xs.length≤i⟩
def Pi (lo:Int) (n:Nat):It:=⟨fun i _=>i<n,fun i H x H'=>H'=H∧x= .int (lo+i),fun i _=>n≤i⟩
theorem Lr {P:Program} {w:World} {K:PySem.W.Frag} {tg:Expr} (a it:Addr):Lw P w K tg (O8 K a) [it] it (fun i h=>h.IsListIter it a i) where
 mem:=by simp
 obj:=fun i h st b hb=>by
  have e:b=it:=by simpa using hb
  subst e
  obtain⟨o,e,c,d⟩:=st
  exact⟨o,e,fun v z=>by rw[d] at z;cases z⟩
 keep:=fun i h h' st k=>st.at fun o e=>k it (by simp) o e
 item:=by
  intro X hP hw hK hc i pins s σ H E I hf st hg
  subst hP hw hK
  obtain⟨xs,x,hq,hx⟩:=hg
  obtain⟨its,rv,p,hz⟩:=I.list hq
  obtain⟨u,hu,ru⟩:=rv.get hx
  obtain⟨f0,f1,f2,f3,f4,f5⟩:=hf it (by simp)
  refine wpAny_pyNext_list_item st p.isList (x:=u) (by simpa using hu) fun h' st' sb=>?_
  have I1:Inv X pins σ H { s with heap:=h' }:=I.turned (t':=s.toks) (fun b o hb e=>(sb.2 b hb).trans e) f0 f1 f3 f4 f5
  obtain⟨o,e,c,d⟩:=id st'
  exact⟨u,rfl,Mt (s:={ s with heap:=h' }) e c d (by decide) ⟨x,H,I1,ru,⟨rfl,fun ys hy=>by rw[I.list_inj hy hq];exact hx⟩,st',fun b hb=>(hf b hb).1⟩⟩
 done:=by
  intro X hP hw hK hc i pins s σ H E I hf st hg
  subst hP hw hK
  obtain⟨xs,hq,hx⟩:=hg
  obtain⟨its,rv,p,hz⟩:=I.list hq
  obtain⟨f0,f1,f2,f3,f4,f5⟩:=hf it (by simp)
  have hl:=rv.length
  exact wpAny_pyNext_list_end (I.ok.hd hc) st p.isList (by simp;omega) fun h' eb=>⟨rfl,I.turned (t':=s.toks) (fun b o hb e=>eb b o hb e) f0 f1 f3 f4 f5⟩
 self:=fun _ _ _ _ _ st h=>wpAny_pyIter_listiter st h
theorem Jv {P:Program} {w:World} {K:PySem.W.Frag} {tg:Expr} (a it:Addr):Lw P w K tg (Qs K a) [it] it (fun i h=>h.IsTupleIter it a i) where
 mem:=by simp
 obj:=fun i h st b hb=>by
  have e:b=it:=by simpa using hb
  subst e
  obtain⟨o,e,c,d⟩:=st
  exact⟨o,e,fun v z=>by rw[d] at z;cases z⟩
 keep:=fun i h h' st k=>st.at fun o e=>k it (by simp) o e
 item:=by
  intro X hP hw hK hc i pins s σ H E I hf st hg
  subst hP hw hK
  obtain⟨xs,x,hq,hx⟩:=hg
  obtain⟨its,rv,p,hz⟩:=I.tuple hq
  obtain⟨u,hu,ru⟩:=rv.get hx
  obtain⟨f0,f1,f2,f3,f4,f5⟩:=hf it (by simp)
  refine wpAny_pyNext_tuple_item st (show s.heap.IsTuple a its.toArray from p) (x:=u) (by simpa using hu) fun h' st' sb=>?_
  have I1:Inv X pins σ H { s with heap:=h' }:=I.turned (t':=s.toks) (fun b o hb e=>(sb.2 b hb).trans e) f0 f1 f3 f4 f5
  obtain⟨o,e,c,d⟩:=id st'
  exact⟨u,rfl,Mt (s:={ s with heap:=h' }) e c d (by decide) ⟨x,H,I1,ru,⟨rfl,fun ys hy=>by rw[I.tuple_inj hy hq];exact hx⟩,st',fun b hb=>(hf b hb).1⟩⟩
 done:=by
  intro X hP hw hK hc i pins s σ H E I hf st hg
  subst hP hw hK
  obtain⟨xs,hq,hx⟩:=hg
  obtain⟨its,rv,p,hz⟩:=I.tuple hq
  obtain⟨f0,f1,f2,f3,f4,f5⟩:=hf it (by simp)
  have hl:=rv.length
  exact wpAny_pyNext_tuple_end (I.ok.hd hc) st (show s.heap.IsTuple a its.toArray from p) (by simp;omega) fun h' eb=>⟨rfl,I.turned (t':=s.toks) (fun b o hb e=>eb b o hb e) f0 f1 f3 f4 f5⟩
 self:=fun _ _ _ _ _ st h=>wpAny_pyIter_tupleiter st h
theorem Ju {P:Program} {w:World} {K:PySem.W.Frag} {tg:Expr} (it:Addr) (lo:Int) (n:Nat):Lw P w K tg (Pi lo n) [it] it (fun i h=>IsRangeIter h it (lo+(i:Nat)*1) ((n:Int)-(i:Nat)) 1) where
 mem:=by simp
 obj:=fun i h st b hb=>by
  have e:b=it:=by simpa using hb
  subst e
  exact⟨_,st,fun v z=>by
   have z':Data.fields _=Data.cell v:=z
   cases z'⟩
 keep:=fun i h h' st k=>k it (by simp) _ st
 item:=by
  intro X hP hw hK hc i pins s σ H E I hf st hg
  subst hP hw hK
  obtain⟨f0,f1,f2,f3,f4,f5⟩:=hf it (by simp)
  have W:=Walks.range (prog:=X.prog) (w:=X.w) (I.ok.hd hc) it lo 1 n
  refine W.item i s _ _ hg st fun v h' tk hv st' kk=>?_
  obtain⟨t,rfl⟩:=hv
  have I1:Inv X pins σ H { s with heap:=h',toks:=tk }:=I.turned (fun b o hb e=>kk b o (by simpa using hb) e) f0 f1 f3 f4 f5
  refine⟨_,rfl,Mt (s:={ s with heap:=h',toks:=tk }) (n:="range_iterator") st' rfl rfl (by decide) ⟨.int (lo+i),H,I1,⟨t,?_⟩,⟨rfl,rfl⟩,st',fun b hb=>(hf b hb).1⟩⟩
  rw[Int.mul_one]
 done:=by
  intro X hP hw hK hc i pins s σ H E I hf st hg
  subst hP hw hK
  obtain⟨f0,f1,f2,f3,f4,f5⟩:=hf it (by simp)
  exact wpAny_pyNext_range_end (I.ok.hd hc) st (by have:n≤i:=hg;omega) fun h' eb=>⟨rfl,I.turned (t':=s.toks) (fun b o hb e=>eb b o hb e) f0 f1 f3 f4 f5⟩
 self:=fun _ _ _ _ _ st h=>wpAny_pyIter_rangeiter st h
end L2
namespace L2
open PySem PySem.Spec PyProof.Rows
section
variable {X:Cx} {tg:Expr}
def QJ (K:PySem.W.Frag) (tl:TE):TI:=fun σ H R=>tl σ H fun x H1=>∃a,x= .ref a∧(∃xs,SqL K H1 a xs)∧R (O8 K a) H1
def RJ (K:PySem.W.Frag) (tl:TE):TI:=fun σ H R=>tl σ H fun x H1=>∃a,x= .ref a∧(∃xs,SqT K H1 a xs)∧R (Qs K a) H1
theorem AK {l:Expr} {tl:TE} (hl:PE X l tl):PI X tg l (QJ X.K tl):=by
 intro pins s σ H R I h
 refine AM (hl pins s σ H _ I h) fun v s1 ⟨x,H1,I1,r1,q1⟩=>?_
 obtain⟨a,e,⟨xs,hq⟩,q⟩:=q1
 subst e
 cases r1
 obtain⟨its,rv,p,hz⟩:=I1.list hq
 refine wpAny_pyIter_list p.isList ?_
 refine⟨s1.heap.objs.size,[s1.heap.objs.size],_,_,H1,rfl,I1.kept (t':=s1.toks) fun b o e=>Heap.get?_push_of_some _ e,Lr a _,⟨_,Heap.get?_push_size _ rfl,rfl,rfl⟩,fun b hb=>?_,q⟩
 have e:b=s1.heap.objs.size:=by simpa using hb
 subst e
 exact I1.fpOk (Nat.le_refl _) (I1.hok.fresh (Nat.le_refl _))
theorem JJ {l:Expr} {tl:TE} (hl:PE X l tl):PI X tg l (RJ X.K tl):=by
 intro pins s σ H R I h
 refine AM (hl pins s σ H _ I h) fun v s1 ⟨x,H1,I1,r1,q1⟩=>?_
 obtain⟨a,e,⟨xs,hq⟩,q⟩:=q1
 subst e
 cases r1
 obtain⟨its,rv,p,hz⟩:=I1.tuple hq
 refine wpAny_pyIter_tuple (show s1.heap.IsTuple a its.toArray from p) ?_
 refine⟨s1.heap.objs.size,[s1.heap.objs.size],_,_,H1,rfl,I1.kept (t':=s1.toks) fun b o e=>Heap.get?_push_of_some _ e,Jv a _,⟨_,Heap.get?_push_size _ rfl,rfl,rfl⟩,fun b hb=>?_,q⟩
 have e:b=s1.heap.objs.size:=by simpa using hb
 subst e
 exact I1.fpOk (Nat.le_refl _) (I1.hok.fresh (Nat.le_refl _))
theorem IY {pins:List (Addr×Obj)} {σ:St} {H:Hp} {s:Shared} {R:It→Hp→Prop} {E:Value→Shared→Prop} {lo hi:Int} {t u v:Tok} {tk:Nat} (I:Inv X pins σ H s) (h1 : -(2^62)≤lo) (h2:lo<2^62) (h3 : -(2^62)≤hi) (h4:hi<2^62)
  (q:R (Pi lo (hi-lo).toNat) H):wpAny (model X.prog X.w) X.A (pyIter (.ref s.heap.objs.size)) (RQ X pins σ tg R) E { s with heap:=s.heap.push { cls:=.type "range",data:=.fields #[.int lo t,.int hi u,.int 1 v] },toks:=tk }:=by
 refine wpAny_pyIter_range (IsRange.new ..) (small_one h1 h2 h3 h4) ?_
 have I1:Inv X pins σ H { s with heap:=s.heap.push { cls:=.type "range",data:=.fields #[.int lo t,.int hi u,.int 1 v] },toks:=tk }:=I.kept fun b o e=>Heap.get?_push_of_some _ e
 refine⟨(s.heap.push { cls:=.type "range",data:=.fields #[.int lo t,.int hi u,.int 1 v] }).objs.size,[(s.heap.push { cls:=.type "range",data:=.fields #[.int lo t,.int hi u,.int 1 v] }).objs.size],_,_,H,rfl,
  I1.kept (t':=tk) fun b o e=>Heap.get?_push_of_some _ e,Ju _ lo (hi-lo).toNat,?_,fun b hb=>?_,q⟩
 ·have e1:lo+((0:Nat):Int)*1=lo:=by simp
  have e2:(((hi-lo).toNat:Nat):Int)-((0:Nat):Int)=Builtin.Range.rangeSize lo hi 1:=by rw[rangeSize_one];split<;>omega
  show IsRangeIter _ _ (lo+((0:Nat):Int)*1) ((((hi-lo).toNat:Nat):Int)-((0:Nat):Int)) 1
  rw[e1,e2]
  exact Heap.get?_push_size _ rfl
 ·have e:b=(s.heap.push { cls:=.type "range",data:=.fields #[.int lo t,.int hi u,.int 1 v] }).objs.size:=by simpa using hb
  subst e
  exact I1.fpOk (Nat.le_refl _) (I1.hok.fresh (Nat.le_refl _))
def QE (ta:TA):TI:=fun σ H R=>ta σ H fun vs H1=>∃j:Int,vs=[.int j]∧-(2^62)≤j∧j<2^62∧R (Pi 0 j.toNat) H1
def Qq (ta:TA):TI:=fun σ H R=>ta σ H fun vs H1=>∃i j:Int,vs=[.int i,.int j]∧(-(2^62)≤i∧i<2^62∧-(2^62)≤j∧j<2^62)∧R (Pi i (j-i).toNat) H1
theorem Bt {a:Expr} {ta:TA} {p pos:Pos} (hg:Gl X "range") (hm:X.mg "range"=none) (ha:PA X [a] ta) (hs:starEach [a] X.env=[(false,eval a X.env)]:=by rfl):PI X tg (.Call (.Name "range" p) [a] [] pos) (QE ta):=by
 intro pins s σ H R I h
 refine Call_ (DU I hg hm boot_range (PyProof.Rows.callWith_type1 (AM (ha pos pins s σ H _ I h) fun us s1 ⟨vs,H1,I1,r1,q1⟩=>?_) hs rfl))
 obtain⟨j,e,q1,q2,q⟩:=q1
 subst e
 cases r1 with
 | cons r rr=>
  cases rr
  obtain⟨t,rfl⟩:=r
  exact call_range_1 (IY I1 (by omega) (by omega) q1 q2 (by simpa using q))
theorem LJ {a b:Expr} {ta:TA} {p pos:Pos} (hg:Gl X "range") (hm:X.mg "range"=none) (ha:PA X [a,b] ta) (hs:starEach [a,b] X.env=[(false,eval a X.env),(false,eval b X.env)]:=by rfl) (hs2:starEach [b] X.env=[(false,eval b X.env)]:=by rfl) :
  PI X tg (.Call (.Name "range" p) [a,b] [] pos) (Qq ta):=by
 intro pins s σ H R I h
 refine Call_ (DU I hg hm boot_range (PyProof.Rows.callWith_type1 (AM (ha pos pins s σ H _ I h) fun us s1 ⟨vs,H1,I1,r1,q1⟩=>?_) (by rw[hs,hs2]) (by rw[hs2];rfl)))
 obtain⟨i,j,e,⟨q1,q2,q3,q4⟩,q⟩:=q1
 subst e
 cases r1 with
 | cons r rr=>
  cases rr with
  | cons r' rr=>
   cases rr
   obtain⟨t,rfl⟩:=r
   obtain⟨t',rfl⟩:=r'
   exact call_range_2 (IY I1 q1 q2 q3 q4 q)
def Jb (wi:TI) (g:TG) (tb:TS):TS:=fun D σ H=>wi σ H fun J H1=>∃W:Nat→Nat→St→Hp→Prop,(∃m,W 0 m σ H1)∧∀i m σ H,W i m σ H→
 (J.stop i H∧D.nx σ H)∨(J.go i H∧∃N:St→Hp→Prop,(∀σ' H',N σ' H'→∃m',m'<m∧W (i+1) m' σ' H')∧∀x H',J.yld i H x H'→g x σ H' fun σ2 H2=>tb { D with nx:=N,ct:=N,bk:=D.nx } σ2 H2)
def Ft (fp:List Addr) (h:Heap):List (Addr×Obj):=fp.filterMap fun b=>(h.get? b).map fun o=>(b,o)
theorem Cw {fp:List Addr} {h:Heap} {b:Addr} {o:Obj} (hb:b∈fp) (e:h.get? b=some o):(b,o)∈Ft fp h:=List.mem_filterMap.mpr ⟨b,hb,by rw[e];rfl⟩
theorem L0 {fp:List Addr} {h:Heap} {p:Addr×Obj} (hp:p∈Ft fp h):p.1∈fp∧h.get? p.1=some p.2:=by
 obtain⟨b,hb,e⟩:=List.mem_filterMap.mp hp
 cases q:h.get? b with
 | none=>rw[q] at e;cases e
 | some o=>
  rw[q] at e
  have e':(b,o)=p:=Option.some.inj e
  subst e'
  exact⟨hb,q⟩
theorem Inv.pinned {pins:List (Addr×Obj)} {σ:St} {H:Hp} {s:Shared} {fp:List Addr} (I:Inv X pins σ H s) (hf:∀b∈fp,BM X pins H b) (ho:∀b∈fp,∃o,s.heap.get? b=some o∧∀v,o.data≠.cell v):Inv X (pins++Ft fp s.heap) σ H s:=
 I.pins_of fun p hp=>(List.mem_append.mp hp).elim (fun z=>I.pin p (List.mem_append_right _ z)) fun z=>by
  obtain⟨hb,e⟩:=L0 z
  obtain⟨f0,f1,f2,_⟩:=hf p.1 hb
  obtain⟨o,e',d⟩:=ho p.1 hb
  rw[e] at e';cases e'
  exact⟨e,f0,f1,f2,d⟩
theorem Inv.unpinned {pins pl:List (Addr×Obj)} {σ:St} {H:Hp} {s:Shared} (I:Inv X (pins++pl) σ H s):Inv X pins σ H s:=I.pins_of fun p hp=>I.pin p (List.mem_append_right _ (List.mem_append_left _ hp))
theorem Ba {iter:Expr} {body:List Stmt} {wi:TI} {g:TG} {tb:TS} {pos:Pos} (hp:PassesOwn (model X.prog X.w) X.A X.env X.xe) (hc:X.calm=true) (hi:PI X tg iter wi) (hg:PG X tg g) (hb:PSs X body tb)
  (hs:∀x,foldedSetIterable iter X.env x=pure x:=by intro _;rfl):PS X (.For tg iter body [] pos) (Jb wi g tb):=by
 intro pins s σ H D I h
 refine wpAny_For (AM (hi pins s σ H _ I h) fun v s1 h1=>AM h1 fun itv s2 h2=>?_) hs
 obtain⟨it,fp,tn,J,H2,e,I2,T,st2,f2,W,⟨m0,w0⟩,turn⟩:=h2
 subst e
 have stat:∀{H':Hp},(∀b∈fp,H' b=none)→∀b∈fp,BM X pins H' b:=fun hn b hb=>⟨hn b hb,(f2 b hb).2⟩
 refine codeAny_forLoop_any (fun n s'=>∃i σ' H',Inv X pins σ' H' s'∧tn i s'.heap∧(∀b∈fp,H' b=none)∧W i n σ' H') ?_ m0 ⟨0,σ,H2,I2,st2,fun b hb=>(f2 b hb).1,w0⟩
 rintro n s3 ⟨i,σ3,H3,I3,st3,fr3,w3⟩
 rcases turn i n σ3 H3 w3 with⟨stop,qn⟩|⟨go,N,hN,step⟩
 ·refine wpAny_passesOwn hp (AM (T.done X rfl rfl rfl hc i pins s3 σ3 H3 X.xe I3 (stat fr3) st3 stop) fun r s4 ⟨hr,I4⟩=>?_)
  subst hr
  exact wpAny_execs_nil ⟨σ3,H3,I4,qn⟩
 ·refine wpAny_passesOwn hp (AM (T.item X rfl rfl rfl hc i pins s3 σ3 H3 X.xe I3 (stat fr3) st3 go) fun r s4 ⟨u,hr,h4⟩=>?_)
  subst hr
  refine wpAny_passesOwn hp (AM h4 fun _ s5 ⟨x,H5,I5,r5,y5,st5,fr5⟩=>?_)
  have I5':=I5.pinned (stat fr5) (T.obj _ _ st5)
  refine wpAny_passesOwn hp (AM (hg _ s5 σ3 H5 x u _ I5' r5 (step x H5 y5)) fun _ s6 ⟨σ6,H6,I6,q6⟩=>?_)
  refine wpAny_passesOwn hp (AM (hb _ s6 σ6 H6 _ I6 q6) fun f s7 q7=>?_)
  have again:∀{σ7:St} {H7:Hp},Inv X (pins++Ft fp s5.heap) σ7 H7 s7→N σ7 H7→∃m,m<n∧∃i σ' H',Inv X pins σ' H' s7∧tn i s7.heap∧(∀b∈fp,H' b=none)∧W i m σ' H':=fun {σ7 H7} I7 n7=>by
   obtain⟨m',hm,w7⟩:=hN σ7 H7 n7
   refine⟨m',hm,i+1,σ7,H7,I7.unpinned,T.keep _ _ _ st5 fun b hb o e=>(I7.pin (b,o) (List.mem_append_right _ (List.mem_append_right _ (Cw hb e)))).1,fun b hb=>?_,w7⟩
   obtain⟨o,e,d⟩:=T.obj _ _ st5 b hb
   exact (I7.pin (b,o) (List.mem_append_right _ (List.mem_append_right _ (Cw hb e)))).2.1
  cases f with
  | next=>obtain⟨σ7,H7,I7,n7⟩:=q7;exact again I7 n7
  | cont=>obtain⟨σ7,H7,I7,n7⟩:=q7;exact again I7 n7
  | brk=>obtain⟨σ7,H7,I7,q7⟩:=q7;exact⟨σ7,H7,I7.unpinned,q7⟩
  | ret v=>obtain⟨x7,σ7,H7,I7,r7,q7⟩:=q7;exact⟨x7,σ7,H7,I7.unpinned,r7,q7⟩
end
theorem AQ {K:PySem.W.Frag} {a:Addr} {xs:List V} {g:TG} {tb:TS} {D:BV} {σ:St} {H:Hp} (Pv:Nat→St→Hp→Prop) (h0:Pv 0 σ H) (hl:∀i σ H,i≤xs.length→Pv i σ H→SqL K H a xs)
  (hs:∀i x σ H,xs[i]? = some x→Pv i σ H→g x σ H fun σ2 H2=>tb { D with nx:=Pv (i+1),ct:=Pv (i+1),bk:=D.nx } σ2 H2) (hd:∀σ H,Pv xs.length σ H→D.nx σ H) :
  ∃W:Nat→Nat→St→Hp→Prop,(∃m,W 0 m σ H)∧∀i m σ H,W i m σ H→
   ((O8 K a).stop i H∧D.nx σ H)∨((O8 K a).go i H∧∃N:St→Hp→Prop,(∀σ' H',N σ' H'→∃m',m'<m∧W (i+1) m' σ' H')∧∀x H',(O8 K a).yld i H x H'→g x σ H' fun σ2 H2=>tb { D with nx:=N,ct:=N,bk:=D.nx } σ2 H2):=by
 refine⟨fun i m σ H=>m=xs.length-i∧i≤xs.length∧Pv i σ H,⟨xs.length,by simp,Nat.zero_le _,h0⟩,?_⟩
 rintro i m σ H ⟨rfl,hi,p⟩
 have q:=hl i σ H hi p
 by_cases hlt:i<xs.length
 ·refine .inr ⟨⟨xs,xs[i],q,by simp[hlt]⟩,Pv (i+1),fun σ' H' p'=>⟨xs.length-(i+1),by omega,rfl,hlt,p'⟩,fun x H' y=>?_⟩
  obtain⟨e,y⟩:=y
  subst e
  exact hs i x σ _ (y xs q) p
 ·have e:i=xs.length:=by omega
  subst e
  exact .inl ⟨⟨xs,q,Nat.le_refl _⟩,hd σ H p⟩
theorem HS {K:PySem.W.Frag} {a:Addr} {xs:List V} {g:TG} {tb:TS} {D:BV} {σ:St} {H:Hp} (Pv:Nat→St→Hp→Prop) (h0:Pv 0 σ H) (hl:∀i σ H,i≤xs.length→Pv i σ H→SqT K H a xs)
  (hs:∀i x σ H,xs[i]? = some x→Pv i σ H→g x σ H fun σ2 H2=>tb { D with nx:=Pv (i+1),ct:=Pv (i+1),bk:=D.nx } σ2 H2) (hd:∀σ H,Pv xs.length σ H→D.nx σ H) :
  ∃W:Nat→Nat→St→Hp→Prop,(∃m,W 0 m σ H)∧∀i m σ H,W i m σ H→
   ((Qs K a).stop i H∧D.nx σ H)∨((Qs K a).go i H∧∃N:St→Hp→Prop,(∀σ' H',N σ' H'→∃m',m'<m∧W (i+1) m' σ' H')∧∀x H',(Qs K a).yld i H x H'→g x σ H' fun σ2 H2=>tb { D with nx:=N,ct:=N,bk:=D.nx } σ2 H2):=by
 refine⟨fun i m σ H=>m=xs.length-i∧i≤xs.length∧Pv i σ H,⟨xs.length,by simp,Nat.zero_le _,h0⟩,?_⟩
 rintro i m σ H ⟨rfl,hi,p⟩
 have q:=hl i σ H hi p
 by_cases hlt:i<xs.length
 ·refine .inr ⟨⟨xs,xs[i],q,by simp[hlt]⟩,Pv (i+1),fun σ' H' p'=>⟨xs.length-(i+1),by omega,rfl,hlt,p'⟩,fun x H' y=>?_⟩
  obtain⟨e,y⟩:=y
  subst e
  exact hs i x σ _ (y xs q) p
 ·have e:i=xs.length:=by omega
  subst e
  exact .inl ⟨⟨xs,q,Nat.le_refl _⟩,hd σ H p⟩
theorem Bo {lo:Int} {n:Nat} {g:TG} {tb:TS} {D:BV} {σ:St} {H:Hp} (Pv:Nat→St→Hp→Prop) (h0:Pv 0 σ H)
  (hs:∀i σ H,i<n→Pv i σ H→g (.int (lo+i)) σ H fun σ2 H2=>tb { D with nx:=Pv (i+1),ct:=Pv (i+1),bk:=D.nx } σ2 H2) (hd:∀σ H,Pv n σ H→D.nx σ H) :
  ∃W:Nat→Nat→St→Hp→Prop,(∃m,W 0 m σ H)∧∀i m σ H,W i m σ H→
   ((Pi lo n).stop i H∧D.nx σ H)∨((Pi lo n).go i H∧∃N:St→Hp→Prop,(∀σ' H',N σ' H'→∃m',m'<m∧W (i+1) m' σ' H')∧∀x H',(Pi lo n).yld i H x H'→g x σ H' fun σ2 H2=>tb { D with nx:=N,ct:=N,bk:=D.nx } σ2 H2):=by
 refine⟨fun i m σ H=>m=n-i∧i≤n∧Pv i σ H,⟨n,by simp,Nat.zero_le _,h0⟩,?_⟩
 rintro i m σ H ⟨rfl,hi,p⟩
 by_cases hlt:i<n
 ·refine .inr ⟨hlt,Pv (i+1),fun σ' H' p'=>⟨n-(i+1),by omega,rfl,hlt,p'⟩,fun x H' y=>?_⟩
  obtain⟨e,y⟩:=y
  subst e y
  exact hs i σ _ hlt p
 ·have e:i=n:=by omega
  subst e
  exact .inl ⟨Nat.le_refl _,hd σ H p⟩
end L2
namespace L2
open PySem PySem.Spec PyProof.Rows
abbrev R2:=V→V→Hp→VK→Prop
def D0 (X:Cx) (f:Value→Value→Sem Value) (r:R2):Prop:=
 ∀(pins:List (Addr×Obj)) (s:Shared) (σ:St) (H:Hp) (x y:V) (v u:Value) (Q:VK),Inv X pins σ H s→RelV x v→RelV y u→r x y H Q→
  wpAny (model X.prog X.w) X.A (f v u) (EP X pins σ Q) X.xe s
def Rr (X:Cx) (f:Value→Sem Value) (r:V→Hp→VK→Prop):Prop:=
 ∀(pins:List (Addr×Obj)) (s:Shared) (σ:St) (H:Hp) (x:V) (v:Value) (Q:VK),Inv X pins σ H s→RelV x v→r x H Q→
  wpAny (model X.prog X.w) X.A (f v) (EP X pins σ Q) X.xe s
def BK (X:Cx) (f:Value) (r:List V→Hp→VK→Prop):Prop:=
 ∀(pins:List (Addr×Obj)) (s:Shared) (σ:St) (H:Hp) (xs:List V) (us:List Value) (Q:VK),Inv X pins σ H s→Vals xs us→r xs H Q→
  wpAny (model X.prog X.w) X.A (call f us) (EP X pins σ Q) X.xe s
def RC (X:Cx) (r:V→Hp→(Bool→Hp→Prop)→Prop):Prop:=
 ∀(pins:List (Addr×Obj)) (s:Shared) (σ:St) (H:Hp) (x:V) (v:Value) (Q:Bool→Hp→Prop),Inv X pins σ H s→RelV x v→r x H Q→
  wpAny (model X.prog X.w) X.A (truthy v) (TP X pins σ Q) X.xe s
def QB (r:R2) (ta tb:TE):TE:=fun σ H Q=>ta σ H fun x H1=>tb σ H1 fun y H2=>r x y H2 Q
def R6 (r:V→Hp→VK→Prop) (ta:TE):TE:=fun σ H Q=>ta σ H fun x H1=>r x H1 Q
def rI (C:Int→Int→Prop) (g:Int→Int→V):R2:=fun x y H Q=>∃i j,x= .int i∧y= .int j∧C i j∧Q (g i j) H
def O0 (g:Int→Int→V):R2:=fun x y H Q=>∃i j,x= .int i∧y= .int j∧Q (g i j) H
def rU (g:Int→V):V→Hp→VK→Prop:=fun x H Q=>∃i,x= .int i∧Q (g i) H
section
variable {X:Cx} {a b c:Expr} {ta tb tc:TE} {pos:Pos}
theorem PL (ha:PE X a ta) (hb:PE X b tb) {pins:List (Addr×Obj)} {s:Shared} {σ:St} {H:Hp} {R:V→V→Hp→Prop} (I:Inv X pins σ H s)
  (h:ta σ H fun x H1=>tb σ H1 fun y H2=>R x y H2) {Q:Value→Shared→Prop} {f:Value→Value→Sem Value}
  (hf:∀v u s2 x y H2,Inv X pins σ H2 s2→RelV x v→RelV y u→R x y H2→wpAny (model X.prog X.w) X.A (f v u) Q X.xe s2) :
  wpAny (model X.prog X.w) X.A (eval a X.env) (fun v s₁=>wpAny (model X.prog X.w) X.A (eval b X.env) (fun u s₂=>wpAny (model X.prog X.w) X.A (f v u) Q X.xe s₂) X.xe s₁) X.xe s:=by
 refine AM (ha pins s σ H _ I h) fun v s1 ⟨x,H1,I1,r1,q1⟩=>?_
 refine AM (hb pins s1 σ H1 _ I1 q1) fun u s2 ⟨y,H2,I2,r2,q2⟩=>?_
 exact hf v u s2 x y H2 I2 r1 r2 q2
theorem AC {op:Operator} {r:R2} (ho:D0 X (binaryOp op) r) (ha:PE X a ta) (hb:PE X b tb):PE X (.BinOp a op b pos) (QB r ta tb):=by
 intro pins s σ H Q I h
 exact wpAny_BinOp (PL ha hb I h fun v u s2 x y H2 I2 rx ry q=>ho pins s2 σ H2 x y v u Q I2 rx ry q)
theorem QV {op:UnaryOp} {r:V→Hp→VK→Prop} (ho:Rr X (unaryOp op) r) (ha:PE X a ta):PE X (.UnaryOp op a pos) (R6 r ta):=by
 intro pins s σ H Q I h
 exact UnaryOp_ (AM (ha pins s σ H _ I h) fun v s1 ⟨x,H1,I1,r1,q1⟩=>ho pins s1 σ H1 x v Q I1 r1 q1)
theorem Qw {f:Value→Value→Sem Value} {C:Int→Int→Prop} {g:Int→Int→Int}
  (rule:∀(i j:Int) (t u:Tok) (s:Shared) (Q:Value→Shared→Prop) (E:Value→Shared→Prop),C i j→Q (.int (g i j) s.toks) { s with toks:=s.toks+1 }→wpAny (model X.prog X.w) X.A (f (.int i t) (.int j u)) Q E s) :
  D0 X f (rI C fun i j=>.int (g i j)):=by
 intro pins s σ H x y v u Q I rx ry h
 obtain⟨i,j,rfl,rfl,hc,q⟩:=h
 obtain⟨t,rfl⟩:=rx
 obtain⟨t',rfl⟩:=ry
 exact rule i j t t' s _ _ hc ⟨.int (g i j),H,I.tok _,⟨_,rfl⟩,q⟩
theorem Px {f:Value→Value→Sem Value} {g:Int→Int→Int}
  (rule:∀(i j:Int) (t u:Tok) (s:Shared) (Q:Value→Shared→Prop) (E:Value→Shared→Prop),Q (.int (g i j) s.toks) { s with toks:=s.toks+1 }→wpAny (model X.prog X.w) X.A (f (.int i t) (.int j u)) Q E s) :
  D0 X f (O0 fun i j=>.int (g i j)):=by
 intro pins s σ H x y v u Q I rx ry h
 obtain⟨i,j,rfl,rfl,q⟩:=h
 obtain⟨t,rfl⟩:=rx
 obtain⟨t',rfl⟩:=ry
 exact rule i j t t' s _ _ ⟨.int (g i j),H,I.tok _,⟨_,rfl⟩,q⟩
theorem Pz {f:Value→Value→Sem Value} {g:Int→Int→Bool}
  (rule:∀(i j:Int) (t u:Tok) (s:Shared) (Q:Value→Shared→Prop) (E:Value→Shared→Prop),Q (.bool (g i j)) s→wpAny (model X.prog X.w) X.A (f (.int i t) (.int j u)) Q E s) :
  D0 X f (O0 fun i j=>.bl (g i j)):=by
 intro pins s σ H x y v u Q I rx ry h
 obtain⟨i,j,rfl,rfl,q⟩:=h
 obtain⟨t,rfl⟩:=rx
 obtain⟨t',rfl⟩:=ry
 exact rule i j t t' s _ _ ⟨.bl (g i j),H,I,rfl,q⟩
def Rf (i j:Int):Prop:=0<j∧j<1073741824
def RI (i j:Int):Prop:=0≤j∧j≤1000000∧i.natAbs<2^64
def CMul (i j:Int):Prop:=(-(2^64)<i∧i<2^64)∨(-(2^64)<j∧j<2^64)
theorem CMul.ok {i j:Int} (h:CMul i j):IntMulOk i j:=by
 rcases h with⟨h1,h2⟩|⟨h1,h2⟩
 ·exact .of_left (intBits_le_64 h1 h2)
 ·exact .of_right (intBits_le_64 h1 h2)
theorem Kc (k:Nat):(0:Int)≤2^k:=by
 rw[two_pow_cast]
 exact Int.natCast_nonneg _
theorem B1:D0 X (binaryOp .Add) (O0 fun i j=>.int (i+j)):=Px fun _ _ _ _ _ _ _ q=>add_int q
theorem Fl:D0 X (binaryOp .Sub) (O0 fun i j=>.int (i-j)):=Px fun _ _ _ _ _ _ _ q=>sub_int q
theorem FM:D0 X (binaryOp .Mult) (rI CMul fun i j=>.int (i*j)):=Qw fun _ _ _ _ _ _ _ hc q=>mul_int q hc.ok
theorem Bb:D0 X (binaryOp .FloorDiv) (rI Rf fun i j=>.int (i / j)):=Qw fun i j _ _ _ _ _ hc q=>by
 have h1:(0:Int)<j:=hc.1
 have h2:j<1073741824:=hc.2
 exact floordiv_int (by omega) (by rw[Int.fdiv_eq_ediv_of_nonneg i (by omega)];exact q) (.inl (PyProof.noPylong_small (by omega)))
theorem AZ:D0 X (binaryOp .Mod) (rI (fun _ j=>0<j) fun i j=>.int (i%j)):=Qw fun i j _ _ _ _ _ hc q=>by
 have h1:(0:Int)<j:=hc
 exact mod_int' (by omega) (by rw[Int.fmod_eq_emod_of_nonneg i (by omega)];exact q)
theorem Pu:D0 X (binaryOp .Pow) (rI RI fun i j=>.int (i^j.toNat)):=Qw fun _ _ _ _ _ _ _ hc q=>pow_int_small hc.1 hc.2.1 hc.2.2 q
theorem Pg:D0 X (binaryOp .RShift) (rI (fun _ j=>0≤j) fun i j=>.int (i / 2^j.toNat)):=Qw fun i j _ _ _ _ _ hc q=>
 rshift_int hc (by rw[Int.fdiv_eq_ediv_of_nonneg i (Kc _)];exact q)
theorem Qe:D0 X (binaryOp .BitAnd) (O0 fun i j=>.int (Builtin.bitAnd i j)):=Px fun _ _ _ _ _ _ _ q=>and_int q
theorem RV {f:Value→Sem Value} {g:Int→Int}
  (rule:∀(i:Int) (t:Tok) (s:Shared) (Q:Value→Shared→Prop) (E:Value→Shared→Prop),Q (.int (g i) s.toks) { s with toks:=s.toks+1 }→wpAny (model X.prog X.w) X.A (f (.int i t)) Q E s) :
  Rr X f (rU fun i=>.int (g i)):=by
 intro pins s σ H x v Q I rx h
 obtain⟨i,rfl,q⟩:=h
 obtain⟨t,rfl⟩:=rx
 exact rule i t s _ _ ⟨.int (g i),H,I.tok _,⟨_,rfl⟩,q⟩
theorem P8:Rr X (unaryOp .USub) (rU fun i=>.int (-i)):=RV fun _ _ _ _ _ q=>neg_int q
end
def Qr:V→V→Bool
 | .non,.non=>true | .non,.int _=>true | .int _,.non=>true | .non,.bl _=>true | .bl _,.non=>true | .non,.str _=>true | .str _,.non=>true
 | .int _,.int _=>true | .bl _,.bl _=>true | .str _,.str _=>true | .byt _,.byt _=>true
 | .int _,.str _=>true | .str _,.int _=>true | .bl _,.str _=>true | .str _,.bl _=>true
 | _,_=>false
def RY:R2:=fun x y H Q=>Qr x y=true∧Q (.bl (decide (x=y))) H
def R1:R2:=fun x y H Q=>Qr x y=true∧Q (.bl (!decide (x=y))) H
theorem KC {i j:Int}:decide (V.int i=V.int j)=(i == j):=by
 rw[Bool.eq_iff_iff]
 simp
theorem Np {i j:Bool}:decide (V.bl i=V.bl j)=(i == j):=by
 rw[Bool.eq_iff_iff]
 simp
theorem KT {i j:Str}:decide (V.str i=V.str j)=(i == j):=by
 rw[Bool.eq_iff_iff]
 simp
theorem KQ {i j:Array UInt8}:decide (V.byt i=V.byt j)=(i.toList == j.toList):=by
 rw[Bool.eq_iff_iff]
 cases i
 cases j
 simp
section
variable {X:Cx} {a b c:Expr} {ta tb tc:TE} {pos:Pos}
theorem AR {pins:List (Addr×Obj)} {σ:St} {H:Hp} {s:Shared} {Q:VK} {k k':Bool} (I:Inv X pins σ H s) (q:Q (.bl k) H) (e:k=k'):EP X pins σ Q (.bool k') s:=by
 subst e
 exact⟨.bl k,H,I,rfl,q⟩
theorem AS:D0 X (compareOp .Eq) RY:=by
 intro pins s σ H x y v u Q I rx ry h
 obtain⟨hs,q⟩:=h
 cases x with
 | non=>
  cases rx
  cases y with
  | non=>cases ry;exact PySem.EqNone.eq_none_none (AR I q (by simp))
  | bl j=>cases ry;exact PySem.EqNone.eq_none_bool (AR I q (by simp))
  | int j=>obtain⟨t',rfl⟩:=ry;exact PySem.EqNone.eq_none_int (AR I q (by simp))
  | str j=>obtain⟨t',rfl⟩:=ry;exact PySem.EqNone.eq_none_str (AR I q (by simp))
  | _=>exact absurd (show false=true from hs) Bool.false_ne_true
 | bl i=>
  cases rx
  cases y with
  | non=>cases ry;exact PySem.EqNone.eq_bool_none (AR I q (by simp))
  | bl j=>cases ry;exact eq_bool (AR I q Np)
  | str j=>obtain⟨t',rfl⟩:=ry;exact PySem.EqMixed.eq_bool_str (AR I q (by simp))
  | _=>exact absurd (show false=true from hs) Bool.false_ne_true
 | int i=>
  obtain⟨t,rfl⟩:=rx
  cases y with
  | non=>cases ry;exact PySem.EqNone.eq_int_none (AR I q (by simp))
  | int j=>obtain⟨t',rfl⟩:=ry;exact eq_int (AR I q KC)
  | str j=>obtain⟨t',rfl⟩:=ry;exact PySem.EqMixed.eq_int_str (AR I q (by simp))
  | _=>exact absurd (show false=true from hs) Bool.false_ne_true
 | str i=>
  obtain⟨t,rfl⟩:=rx
  cases y with
  | non=>cases ry;exact PySem.EqNone.eq_str_none (AR I q (by simp))
  | bl j=>cases ry;exact PySem.EqMixed.eq_str_bool (AR I q (by simp))
  | int j=>obtain⟨t',rfl⟩:=ry;exact PySem.EqMixed.eq_str_int (AR I q (by simp))
  | str j=>obtain⟨t',rfl⟩:=ry;exact eq_str (AR I q KT)
  | _=>exact absurd (show false=true from hs) Bool.false_ne_true
 | byt i=>
  obtain⟨t,rfl⟩:=rx
  cases y with
  | byt j=>obtain⟨t',rfl⟩:=ry;exact PySem.W.eq_bytes (AR I q KQ)
  | _=>exact absurd (show false=true from hs) Bool.false_ne_true
 | _=>cases y<;>exact absurd (show false=true from hs) Bool.false_ne_true
theorem Gz:D0 X (compareOp .NotEq) R1:=by
 intro pins s σ H x y v u Q I rx ry h
 obtain⟨hs,q⟩:=h
 cases x with
 | non=>
  cases rx
  cases y with
  | non=>cases ry;exact PySem.EqNone.ne_none_none (AR I q (by simp))
  | bl j=>cases ry;exact PySem.EqNone.ne_none_bool (AR I q (by simp))
  | int j=>obtain⟨t',rfl⟩:=ry;exact PySem.EqNone.ne_none_int (AR I q (by simp))
  | str j=>obtain⟨t',rfl⟩:=ry;exact PySem.EqNone.ne_none_str (AR I q (by simp))
  | _=>exact absurd (show false=true from hs) Bool.false_ne_true
 | bl i=>
  cases rx
  cases y with
  | non=>cases ry;exact PySem.EqNone.ne_bool_none (AR I q (by simp))
  | bl j=>cases ry;exact ne_bool (AR I q (congrArg not Np))
  | str j=>obtain⟨t',rfl⟩:=ry;exact PySem.EqMixed.ne_bool_str (AR I q (by simp))
  | _=>exact absurd (show false=true from hs) Bool.false_ne_true
 | int i=>
  obtain⟨t,rfl⟩:=rx
  cases y with
  | non=>cases ry;exact PySem.EqNone.ne_int_none (AR I q (by simp))
  | int j=>obtain⟨t',rfl⟩:=ry;exact ne_int (AR I q (congrArg not KC))
  | str j=>obtain⟨t',rfl⟩:=ry;exact PySem.EqMixed.ne_int_str (AR I q (by simp))
  | _=>exact absurd (show false=true from hs) Bool.false_ne_true
 | str i=>
  obtain⟨t,rfl⟩:=rx
  cases y with
  | non=>cases ry;exact PySem.EqNone.ne_str_none (AR I q (by simp))
  | bl j=>cases ry;exact PySem.EqMixed.ne_str_bool (AR I q (by simp))
  | int j=>obtain⟨t',rfl⟩:=ry;exact PySem.EqMixed.ne_str_int (AR I q (by simp))
  | str j=>obtain⟨t',rfl⟩:=ry;exact ne_str (AR I q (congrArg not KT))
  | _=>exact absurd (show false=true from hs) Bool.false_ne_true
 | byt i=>
  obtain⟨t,rfl⟩:=rx
  cases y with
  | byt j=>obtain⟨t',rfl⟩:=ry;exact PySem.W.ne_bytes (AR I q (congrArg not KQ))
  | _=>exact absurd (show false=true from hs) Bool.false_ne_true
 | _=>cases y<;>exact absurd (show false=true from hs) Bool.false_ne_true
theorem QZ:D0 X (compareOp .Lt) (O0 fun i j=>.bl (decide (i<j))):=Pz fun _ _ _ _ _ _ _ q=>lt_int q
theorem EW:D0 X (compareOp .Gt) (O0 fun i j=>.bl (decide (j<i))):=Pz fun _ _ _ _ _ _ _ q=>gt_int q
theorem O3:D0 X (compareOp .GtE) (O0 fun i j=>.bl (decide (j≤i))):=Pz fun _ _ _ _ _ _ _ q=>ge_int q
theorem As (b:Expr) {op:CmpOp} (h:op≠.In:=by decide) (h2:op≠.NotIn:=by decide):behindInMarks op b=false:=by
 have e1:(op == CmpOp.In)=false:=by cases op<;>first | rfl | exact absurd rfl h
 have e2:(op == CmpOp.NotIn)=false:=by cases op<;>first | rfl | exact absurd rfl h2
 cases b<;>simp[behindInMarks,e1,e2]
theorem Br {op:CmpOp} {r:R2} (ho:D0 X (compareOp op) r) (ha:PE X a ta) (hb:PE X b tb) (hm:behindInMarks op b=false):PE X (.Compare a [op] [b] pos) (QB r ta tb):=by
 intro pins s σ H Q I h
 exact wpAny_Compare1 (PL ha hb I h fun v u s2 x y H2 I2 rx ry q=>ho pins s2 σ H2 x y v u Q I2 rx ry q) hm
def Qm (t:TE):TT:=fun σ H Q=>t σ H fun x H'=>∃k,x= .bl k∧Q k H'
theorem Am {op:CmpOp} {r:R2} (ho:D0 X (compareOp op) r) (ha:PE X a ta) (hb:PE X b tb) (hm:behindInMarks op b=false):PT X (.Compare a [op] [b] pos) (Qm (QB r ta tb)):=by
 intro pins s σ H Q I h
 refine wpAny_isTrue_Compare1 (AM (ha pins s σ H _ I h) fun v s1 ⟨x,H1,I1,r1,q1⟩=>AM (hb pins s1 σ H1 _ I1 q1) fun u s2 ⟨y,H2,I2,r2,q2⟩=>
  AM (ho pins s2 σ H2 x y v u _ I2 r1 r2 q2) fun c s3 ⟨z,H3,I3,r3,k,e,q3⟩=>?_) hm
 subst e
 cases r3
 exact wpAny_truthy_bool ⟨H3,I3,q3⟩
def QU (K:PySem.W.Frag) (x:V) (H:Hp) (k:Bool):Prop:=
 match x with
 | .non=>k=false
 | .bl b=>k=b
 | .int i=>k=(i != 0)
 | .str y=>y.length≤sizeLine∧k=((y.length:Int) != 0)
 | .byt y=>y.size≤sizeLine∧k=((y.size:Int) != 0)
 | .ref p=>(∃xs,SqL K H p xs∧k = !xs.isEmpty)∨(∃xs,SqT K H p xs∧k = !xs.isEmpty)∨∃kvs,H p=some (.dK kvs)∧k = !kvs.isEmpty
 | _=>False
theorem JI {κ:Type} {kvs:List (κ×V)} {vs:List (κ×Value)} (r:KV kvs vs):(!vs.isEmpty) = !kvs.isEmpty:=by
 cases r<;>rfl
theorem Fp {xs:List V} {its:List Value} (r:Vals xs its):(!its.toArray.isEmpty) = !xs.isEmpty:=by
 cases r<;>simp
theorem FA:(sizeLine:Nat)<2^63:=by rw[sizeLine_eq];decide
theorem PK:RC X (fun x H Q=>∃k,QU X.K x H k∧Q k H):=by
 intro pins s σ H x v Q I rx h
 obtain⟨k,e,q⟩:=h
 have hl:=FA
 have hs:sizeLine=16777216:=sizeLine_eq
 cases x with
 | non=>
  cases rx
  have e':k=false:=e
  subst e'
  exact truthy_none ⟨H,I,q⟩
 | bl b=>
  cases rx
  have e':k=b:=e
  subst e'
  exact wpAny_truthy_bool ⟨H,I,q⟩
 | int i=>
  obtain⟨t,rfl⟩:=rx
  have e':k=(i != 0):=e
  subst e'
  exact PySem.P.truthy_int ⟨H,I,q⟩
 | str y=>
  obtain⟨t,rfl⟩:=rx
  obtain⟨hy,e'⟩:y.length≤sizeLine∧k=((y.length:Int) != 0):=e
  subst e'
  exact PySem.P.truthy_str (by omega) ⟨H,I.tok _,q⟩
 | byt y=>
  obtain⟨t,rfl⟩:=rx
  obtain⟨hy,e'⟩:y.size≤sizeLine∧k=((y.size:Int) != 0):=e
  subst e'
  exact PySem.W.truthy_bytes (by omega) ⟨H,I.tok _,q⟩
 | ref p=>
  cases rx
  have e':(∃xs,SqL X.K H p xs∧k = !xs.isEmpty)∨(∃xs,SqT X.K H p xs∧k = !xs.isEmpty)∨∃kvs,H p=some (.dK kvs)∧k = !kvs.isEmpty:=e
  rcases e' with⟨xs,hx,e'⟩|⟨xs,hx,e'⟩|⟨kvs,hx,e'⟩
  ·subst e'
   obtain⟨its,r,pl,hz⟩:=I.list hx
   have hlen:=r.length
   exact wpAny_truthy_list pl.isList (by simp only[List.size_toArray];omega) ⟨H,I.tok _,by rw[Fp r];exact q⟩
  ·subst e'
   obtain⟨its,r,pl,hz⟩:=I.tuple hx
   have hlen:=r.length
   exact truthy_tuple pl (by simp only[List.size_toArray];omega) ⟨H,I.tok _,by rw[Fp r];exact q⟩
  ·subst e'
   obtain⟨hz,hS,vs,r,m⟩:kvs.length≤sizeLine∧(p == sysModules)=false∧∃vs,KV kvs vs∧s.heap.DictOf (Hy X.prog X.w) p vs:=I.hok p _ hx
   have hlen:kvs.length=vs.length:=Paired.length r
   exact wpAny_truthy_dict hS m (by omega) ⟨H,I.tok _,by rw[JI r];exact q⟩
 | _=>exact (show False from e).elim
theorem FN (ha:PE X a ta) (he:∀whole,isTrue a X.env whole=(do let v ←whole;standAt a.pos;holding [v] (truthy v))) :
  PT X a (fun σ H Q=>ta σ H fun x H'=>∃k,QU X.K x H' k∧Q k H'):=by
 intro pins s σ H Q I h
 exact isTrue_plain (AM (ha pins s σ H _ I h) fun v s1 ⟨x,H1,I1,r1,q1⟩=>PK pins s1 σ H1 x v Q I1 r1 q1) (he _)
theorem Dd {x:V} {us:List Value} (r:Vals [x] us):∃u,us=[u]∧RelV x u:=by
 cases r with
 | cons r1 r2=>cases r2;exact⟨_,rfl,r1⟩
theorem O1 {x y:V} {us:List Value} (r:Vals [x,y] us):∃u w',us=[u,w']∧RelV x u∧RelV y w':=by
 cases r with
 | cons r1 r2=>
  cases r2 with
  | cons r3 r4=>cases r4;exact⟨_,_,rfl,r1,r3⟩
theorem MB:BK X (.builtin "abs") (fun xs H Q=>∃i,xs=[.int i]∧Q (.int (if i<0 then -i else i)) H):=by
 intro pins s σ H xs us Q I r h
 obtain⟨i,rfl,q⟩:=h
 obtain⟨u,rfl,t,rfl⟩:=Dd r
 exact call_abs_int fun u tk=>⟨.int (if i<0 then -i else i),H,I.tok _,⟨_,rfl⟩,q⟩
theorem GY (hc:X.calm=true):BK X (.builtin "min") (fun xs H Q=>∃i j,xs=[.int i,.int j]∧Q (.int (if j<i then j else i)) H):=by
 intro pins s σ H xs us Q I r h
 obtain⟨i,j,rfl,q⟩:=h
 obtain⟨u,w',rfl,⟨t,rfl⟩,⟨t',rfl⟩⟩:=O1 r
 refine min_two_ints (I.ok.hd hc) fun h' tk k=>⟨_,H,I.kept k,?_,q⟩
 by_cases hj:j<i
 ·rw[if_pos hj,if_pos hj];exact⟨_,rfl⟩
 ·rw[if_neg hj,if_neg hj];exact⟨_,rfl⟩
end
end L2
namespace L2
open PySem PySem.Spec PyProof.Rows
structure ObjM (h:Heap) (x dx C:Addr) (mA:Str→Option Value):Prop where
 obj:h.get? x=some (PySem.W.instObj C dx)
 ns:h.Ns1 dx mA
 ne:dx≠x
theorem LZ {h:Heap} {dx:Addr} {mA:Str→Option Value} (n:h.Ns1 dx mA):∃od,h.get? dx=some od∧∀name,PySem.W.lookIn name od=some (mA name):=by
 obtain⟨o,es,ep,ho,hd,hk,_,hm⟩:=n
 refine⟨o,ho,fun name=>?_⟩
 have e:=hm name
 unfold nsFind findBy at e
 rw[←Array.find?_toList] at e
 unfold PySem.W.lookIn
 rw[hd]
 dsimp only
 split
 ·rename_i y q
  rw[q] at e
  exact congrArg some e
 ·rename_i q
  rw[q] at e
  have a:es.toList.any (·.refKey)=false:=by
   rw[List.any_eq_false]
   intro y hy
   obtain⟨z,t,hkey⟩:=hk y (Array.mem_toList_iff.mp hy)
   simp[DictEntry.refKey,hkey]
  have a':¬es.toList.any (·.refKey)=true:=by rw[a];exact Bool.false_ne_true
  rw[if_neg a']
  exact congrArg some e
theorem ObjM.look {h:Heap} {x dx C:Addr} {mA:Str→Option Value} (I:ObjM h x dx C mA):∃od,PySem.W.InstAt h x (PySem.W.instObj C dx) C (some od)∧∀name,PySem.W.lookIn name od=some (mA name):=
 let ⟨od,ho,hl⟩:=LZ I.ns
 ⟨od,⟨I.obj,rfl,rfl,ho⟩,hl⟩
section
variable {prog:Program} {w:World} {A:Around} {E:Value→Shared→Prop} {s:Shared} {K:PySem.W.Frag} {x dx C f:Addr} {mA:Str→Option Value} {name:Str} {v:Value}
end
section
variable {P:Program} {w:World} {H H':Hp} {h h':Heap} {a C dx:Addr} {fs fs':List (Str×V)}
theorem N8 (hok:HOk P w H h) (e:H a=some (.ins C dx fs)):∃mA,ObjM h a dx C mA∧(∀f,Po (fs.lookup f) (mA f))∧PySem.Within mA (fs.map (·.1))∧fs.length≤1000∧H dx=some (.own a):=by
 obtain⟨d,z,ne,ob,mA,n,r,q⟩:=(show ObjOk P w H h a (.ins C dx fs) from hok a _ e)
 exact⟨mA,⟨ob,n,ne⟩,r,q,z,d⟩
end
structure Cls (K:PySem.W.Frag) (C:Addr):Prop where
 pg:PySem.W.plainGet K C Str.empty=true
 hd:PySem.W.hasDictIn K C=true
 po:PySem.W.plainOver K C=true
 sa:PySem.W.findIn K (.ref C) "__setattr__"=some (some (.builtin "object.__setattr__"))
theorem Cls.get {K:PySem.W.Frag} {C:Addr} (c:Cls K C) (f:Str):PySem.W.plainGet K C f=true:=c.pg
section
variable {X:Cx} {pins:List (Addr×Obj)} {σ:St} {H:Hp} {s:Shared} {a C dx:Addr} {fs:List (Str×V)} {f:Str} {v:V} {A:Around} {E:Value→Shared→Prop}
end
section
variable {X:Cx} {o e value:Expr} {f:Str} {pos pos' tpos:Pos} {ta tv:TE}
end
section
variable {X:Cx} {pins:List (Addr×Obj)} {σ:St} {H:Hp} {s:Shared} {A:Around} {E:Value→Shared→Prop} {Q:Value→Shared→Prop} {c:Value} {b:Bool}
inductive EF (K:PySem.W.Frag) (H:Hp):V→Value→Prop where
 | non:EF K H .non (.type "NoneType")
 | bl (x:Bool):EF K H (.bl x) (.type "bool")
 | int (i:Int):EF K H (.int i) (.type "int")
 | str (x:Str):EF K H (.str x) (.type "str")
 | flt (x:UInt64):EF K H (.flt x) (.type "float")
 | lst {a:Addr} {xs:List V} (e:H a=some (.lst xs)):EF K H (.ref a) (.type "list")
 | frz {a:Addr} {o:Obj} {xs:List V} (e:H a=some (.frz o (.lst xs))):EF K H (.ref a) (.type "list")
 | tup {a:Addr} {xs:List V} (e:H a=some (.tup xs)):EF K H (.ref a) (.type "tuple")
 | dK {a:Addr} {kvs:List (Id×V)} (e:H a=some (.dK kvs)):EF K H (.ref a) (.type "dict")
 | dT {a:Addr} {kvs:List (List Id×V)} (e:H a=some (.dT kvs)):EF K H (.ref a) (.type "dict")
 | ins {a C dx:Addr} {fs:List (Str×V)} (e:H a=some (.ins C dx fs)) (cl:Cls K C) (ha:PySem.W.findIn K (.ref C) "__class__"=some (some (.builtin "object.__class__")))
   (hn:PySem.W.specialIn K (.builtin "object.__class__") "__get__"=some (some (.builtin "getset_descriptor.__get__"))) (htk:PySem.W.takesIn K (.builtin "object.__class__")=some true)
   (hm:PySem.W.mroIn K C (.type "object")=some true):EF K H (.ref a) (.ref C)
theorem Lh {x:V} {u t:Value} (I:Inv X pins σ H s) (rx:RelV x u) (ty:EF X.K H x t) (e:PySem.W.kitOne X.K t c=some b) (h:∀tk,Q (.bool b) { s with toks:=tk }) :
  wpAny (model X.prog X.w) A (call (.builtin "isinstance") [u,c]) Q E s:=by
 cases ty with
 | non=>cases (show u=Value.none from rx);exact PySem.W.kia_one PySem.W.kitx_none I.kIn True.intro e (fun z=>nomatch z) h
 | bl y=>cases (show u=Value.bool y from rx);exact PySem.W.kia_one PySem.W.kitx_bool I.kIn True.intro e (fun z=>nomatch z) h
 | int i=>obtain⟨t,q⟩:=(show ∃t,u=Value.int i t from rx);cases q;exact PySem.W.kia_one PySem.W.kitx_int I.kIn True.intro e (fun z=>nomatch z) h
 | str y=>obtain⟨t,q⟩:=(show ∃t,u=Value.str y t from rx);cases q;exact PySem.W.kia_one PySem.W.kitx_str I.kIn True.intro e (fun z=>nomatch z) h
 | flt y=>obtain⟨t,q⟩:=(show ∃t,u=Value.float y t from rx);cases q;exact PySem.W.kia_one PySem.W.kitx_float I.kIn True.intro e (fun z=>nomatch z) h
 | @lst a xs ea=>
  cases (show u=Value.ref a from rx)
  obtain⟨_,_,n,_,h1⟩:=(show ObjOk X.prog X.w H s.heap a (.lst xs) from I.hok a _ ea)
  exact PySem.W.kia_one PySem.W.kitx_list I.kIn ⟨_,h1,rfl⟩ e (fun z=>nomatch z) h
 | @frz a ob xs ea=>
  cases (show u=Value.ref a from rx)
  obtain⟨_,_,_,n,_,h1⟩:=(show ObjOk X.prog X.w H s.heap a (.frz ob (.lst xs)) from I.hok a _ ea)
  exact PySem.W.kia_one PySem.W.kitx_list I.kIn ⟨_,h1,rfl⟩ e (fun z=>nomatch z) h
 | @tup a xs ea=>
  cases (show u=Value.ref a from rx)
  obtain⟨_,_,_,p⟩:=(show ObjOk X.prog X.w H s.heap a (.tup xs) from I.hok a _ ea)
  obtain⟨o,h1,h2,_⟩:=p
  exact PySem.W.kia_one PySem.W.kitx_tuple I.kIn ⟨o,h1,h2⟩ e (fun z=>nomatch z) h
 | @dK a kvs ea=>
  cases (show u=Value.ref a from rx)
  obtain⟨_,_,vs,_,p⟩:=(show ObjOk X.prog X.w H s.heap a (.dK kvs) from I.hok a _ ea)
  obtain⟨o,es,ep,h1,h2,_⟩:=p
  exact PySem.W.kia_one PySem.W.kitx_dict I.kIn ⟨o,h1,h2.1⟩ e (fun z=>nomatch z) h
 | @dT a kvs ea=>
  cases (show u=Value.ref a from rx)
  obtain⟨_,_,xs,_,o,es,ep,h1,h2,_⟩:=(show ObjOk X.prog X.w H s.heap a (.dT kvs) from I.hok a _ ea)
  exact PySem.W.kia_one PySem.W.kitx_dict I.kIn ⟨o,h1,h2.1⟩ e (fun z=>nomatch z) h
 | @ins a C dx fs ea cl ha hn htk hm=>
  cases (show u=Value.ref a from rx)
  obtain⟨mA,O,_⟩:=N8 I.hok ea
  obtain⟨od,J,_⟩:=O.look
  exact PySem.W.kia_one (PySem.W.kitx_own (cl.get _) cl.hd ha hn htk hm) I.kIn J e (fun z=>nomatch z) h
end
end L2
namespace L2
open PySem PySem.Spec PyProof.Rows
structure Room (k:Nat) (A:Around):Prop where
 hd:A.handled=none
 dp:A.depth+3*k+5<recursionLimit
 un:A.units+16*k+200<cLine
theorem Room.mono {j k:Nat} {A:Around} (r:Room k A) (h:j≤k):Room j A:=⟨r.hd,by have:=r.dp;omega,by have:=r.un;omega⟩
theorem Room.deeper {k:Nat} {A:Around} (r:Room (k+1) A) (env:Env):Room k (A.deeper env):=
 ⟨r.hd,by have:=r.dp;show A.depth+1+3*k+5<_;omega,by have:=r.un;show A.units+3+16*k+200<_;omega⟩
theorem Room.depth {k:Nat} {A:Around} (r:Room k A):A.depth<recursionLimit:=by have:=r.dp;omega
theorem Room.units0 {k:Nat} {A:Around} (r:Room k A):A.units<cLine:=by have:=r.un;omega
def QY:TA:=fun _ H Q=>Q [] H
def QD (ta:TE) (tr:TA):TA:=fun σ H Q=>ta σ H fun x H1=>tr σ H1 fun xs H2=>Q (x::xs) H2
section
variable {X:Cx} {e:Expr} {es:List Expr} {te:TE} {t:TA} {pos:Pos}
theorem Ab:PA X [] QY:=fun _ _ _ _ H Q I h=>Calls.spliced_nil ⟨[],H,I,.nil,h⟩
theorem Aa (ha:PE X e te) (hr:PA X es t) (hs:starEach (e::es) X.env=(false,eval e X.env)::starEach es X.env:=by rfl):PA X (e::es) (QD te t):=by
 intro pos pins s σ H Q I h
 rw[hs]
 show wpAny _ _ (spliced ((false,eval e X.env)::backTo pos (starEach es X.env))) _ _ s
 refine Calls.spliced_cons (AM (ha pins s σ H _ I h) fun u s1 ⟨x,H1,I1,r1,q1⟩=>?_)
 exact AM (hr pos pins s1 σ H1 _ I1 q1) fun us s2 ⟨xs,H2,I2,r2,q2⟩=>⟨x::xs,H2,I2,.cons r1 r2,q2⟩
def Rj (t:TA):TE:=fun σ H Q=>t σ H fun xs H1=>xs.length≤sizeLine∧∀p,H1 p=none→Q (.ref p) (AA H1 p (.tup xs))
def Qy (t:TA):TE:=fun σ H Q=>t σ H fun xs H1=>xs.length≤sizeLine∧∀p,H1 p=none→Q (.ref p) (AA H1 p (.lst xs))
theorem Bs {x1} (h:PA X es t):PE X (.Tuple es x1 pos) (Rj t):=by
 intro pins s σ H Q I hq
 refine wpAny_Tuple_spliced (AM (h pos pins s σ H _ I hq) fun us s1 ⟨xs,H1,I1,r,z,q⟩=>⟨by rw[←r.length];exact z,?_⟩)
 have hf:H1 s1.heap.objs.size=none:=I1.hok.fresh (Nat.le_refl _)
 refine⟨.ref s1.heap.objs.size,AA H1 s1.heap.objs.size (.tup xs),I1.laid (t':=s1.toks) (fun b u e=>Heap.get?_push_of_some _ e) (Nat.le_refl _) ?_,rfl,q _ hf⟩
 exact⟨z,us,r,⟨_,Heap.get?_push_size _ rfl,rfl,_,rfl⟩⟩
theorem AF (h:PA X es t):PE X (.List es pos) (Qy t):=by
 intro pins s σ H Q I hq
 refine wpAny_List_spliced (AM (h pos pins s σ H _ I hq) fun us s1 ⟨xs,H1,I1,r,z,q⟩=>⟨by rw[←r.length];exact z,?_⟩)
 have hf:H1 s1.heap.objs.size=none:=I1.hok.fresh (Nat.le_refl _)
 refine⟨.ref s1.heap.objs.size,AA H1 s1.heap.objs.size (.lst xs),I1.laid (t':=s1.toks) (fun b u e=>Heap.get?_push_of_some _ e) (Nat.le_refl _) ?_,rfl,q _ hf⟩
 exact⟨z,us,0,r,Heap.get?_push_size _ rfl⟩
end
abbrev Sp:=List V→Hp→VK→XK→Prop
abbrev K0:=List Env→Hp→Shared→XK→Value→Shared→Prop
structure OJ (P:Program) (w:World) (K:PySem.W.Frag) (mg:Str→Option Value) (base:Heap) (A:Around) (outer:List Env) (s:Shared) (H:Hp):Prop where
 frames:A.frames=some outer
 mod:Mod K mg base
 bs:∀b o,base.get? b=some o→s.heap.get? b=some o∧H b=none
 bsz:base.objs.size≤s.heap.objs.size
 funs:s.heap.FunFrames base outer
 frf:∀b∈Fz outer,H b=none
 hok:HOk P w H s.heap
 bare:AllBare s.gens
def CE (outer:List Env) (P:Program) (w:World) (H:Hp) (s:Shared) (Q:VK) (u:Value) (s':Shared):Prop:=
 ∃v H',s'.os=s.os∧AllBare s'.gens∧Un (Fz outer) [] H H' s.heap s'.heap∧HOk P w H' s'.heap∧RelV v u∧Q v H'
def CR (CX:K0) (outer:List Env) (P:Program) (w:World) (H:Hp) (s:Shared) (Q:VK) (E:XK) (r:Result) (s':Shared):Prop:=
 match r with
 | .ok (.ret u)=>CE outer P w H s Q u s'
 | .ok _=>False
 | .error e=>CX outer H s E e s'
structure FnOk (P:Program) (w:World) (K:PySem.W.Frag) (mg:Str→Option Value) (base:Heap) (CX:K0) (k:Nat) (f:Addr) (fd:FuncData) (ps:List Str) (sp:Sp):Prop where
 len:∀vs H Q E,sp vs H Q E→vs.length=ps.length
 run:∀(A:Around) (outer:List Env) (s:Shared) (H:Hp) (args:Args) (us:List Value) (vs:List V) (Q:VK) (E:XK),Room k A→OJ P w K mg base A outer s H→BindsTo s fd args (ps.zip us)→Vals vs us→sp vs H Q E→
  codeAny (model P w) A (.call (.ref f) args) (CR CX outer P w H s Q E) s
theorem FnOk.mono {P:Program} {w:World} {K:PySem.W.Frag} {mg:Str→Option Value} {base:Heap} {CX:K0} {j k:Nat} {f:Addr} {fd:FuncData} {ps:List Str} {sp:Sp} (F:FnOk P w K mg base CX j f fd ps sp) (h:j≤k) :
  FnOk P w K mg base CX k f fd ps sp:=⟨F.len,fun A outer s H args us vs Q E hr=>F.run A outer s H args us vs Q E (hr.mono h)⟩
theorem FnOk.imp {P:Program} {w:World} {K:PySem.W.Frag} {mg:Str→Option Value} {base:Heap} {CX:K0} {k:Nat} {f:Addr} {fd:FuncData} {ps:List Str} {sp sp':Sp} (F:FnOk P w K mg base CX k f fd ps sp)
  (h:∀vs H Q E,sp' vs H Q E→sp vs H Q E):FnOk P w K mg base CX k f fd ps sp':=
 ⟨fun vs H Q E q=>F.len vs H Q E (h _ _ _ _ q),fun A outer s H args us vs Q E hr he hb hv hs=>F.run A outer s H args us vs Q E hr he hb hv (h _ _ _ _ hs)⟩
section
variable {X:Cx} {pins:List (Addr×Obj)} {σ:St} {H:Hp} {s s':Shared}
theorem Inv.env0 (I:Inv X pins σ H s):OJ X.prog X.w X.K X.mg X.base X.A X.stack s H:=
 ⟨I.ok.frames,I.ok.mod,I.bs,Nat.le_trans I.ok.bsz I.sz,I.stack,I.stkFree,I.hok,I.bare⟩
theorem Inv.after {Q:VK} {u:Value} (I:Inv X pins σ H s) (h:CE X.stack X.prog X.w H s Q u s'):EP X pins σ Q u s':=by
 obtain⟨v,H',os,bare,un,hok,r,q⟩:=h
 obtain⟨hh,g,d,t,os'⟩:=s'
 obtain rfl:os'=s.os:=os
 exact⟨v,H',I.call (h':=hh) (g':=g) (d':=d) (t':=t) (ch:=[]) un hok bare (fun b z=>absurd z (by simp)),r,q⟩
end
def QQ (sp:Sp) (dvs:List V) (E:XK) (t:TA):TE:=fun σ H Q=>t σ H fun vs H1=>sp (vs++dvs) H1 Q E
def Binds (K:PySem.W.Frag) (fd:FuncData) (ps:List Str) (ds:List Value):Prop:=
 ∀(s:Shared) (us:List Value),K.In s.heap→(us++ds).length=ps.length→BindsTo s fd ⟨us,[]⟩ (ps.zip (us++ds))
theorem Binds.all {K:PySem.W.Frag} {fd:FuncData} {ps:List Str} (h:∀us:List Value,us.length=ps.length→bindArgs fd ⟨us,[]⟩=pure (ps.zip us)):Binds K fd ps []:=fun s us _ hl=>by
 rw[List.append_nil] at hl ⊢
 exact .of_eq (h us hl)
def Fr (CX:K0) (X:Cx) (E:XK):Prop:=∀(pins:List (Addr×Obj)) (σ:St) (H:Hp) (s:Shared) (e:Value) (s':Shared),Inv X pins σ H s→CX X.stack H s E e s'→X.xe e s'
section
variable {X:Cx} {CX:K0} {k:Nat} {f C:Addr} {fd:FuncData} {ps:List Str} {sp:Sp} {dvs:List V} {ds:List Value} {E:XK} {x m:Str} {p pos apos:Pos} {e o:Expr} {es:List Expr} {ta:TE} {t:TA}
theorem PP {pins:List (Addr×Obj)} {σ:St} {H:Hp} {s:Shared} {Q:VK} {us:List Value} {vs:List V} (F:FnOk X.prog X.w X.K X.mg X.base CX k f fd ps sp) (hr:Room k X.A) (hb:Binds X.K fd ps ds) (hd:Vals dvs ds) (hx:Fr CX X E)
  (I:Inv X pins σ H s) (r:Vals vs us) (h:sp (vs++dvs) H Q E):wpAny (model X.prog X.w) X.A (call (.ref f) us) (EP X pins σ Q) X.xe s:=by
 have r2:Vals (vs++dvs) (us++ds):=r.append hd
 have hl:(us++ds).length=ps.length:=by rw[←r2.length];exact F.len _ _ _ _ h
 refine wpAny_call (codeAny_mono (F.run X.A X.stack s H ⟨us,[]⟩ (us++ds) (vs++dvs) Q E hr I.env0 (hb s us I.kIn hl) r2 h) fun r s' hq=>?_)
 cases r with
 | error e=>exact hx pins σ H s e s' I hq
 | ok fl=>
  cases fl with
  | ret u=>exact I.after hq
  | next=>exact False.elim hq
  | brk=>exact False.elim hq
  | cont=>exact False.elim hq
theorem Ai (F:FnOk X.prog X.w X.K X.mg X.base CX k f fd ps sp) (hr:Room k X.A) (hg:Gl X x) (hm:X.mg x=some (.ref f)) (hk:PySem.W.keepIn X.K (.ref f)=true) (hb:Binds X.K fd ps ds) (hd:Vals dvs ds) (hx:Fr CX X E)
  (ha:PA X (e::es) t) (hdb:(x == ("__debug__":Str))=false:=by decide) (he:starEach (e::es) X.env=(false,eval e X.env)::starEach es X.env:=by rfl) (hpl:(backTo pos (starEach es X.env)).any (·.1)=false:=by rfl) :
  PE X (.Call (.Name x p) (e::es) [] pos) (QQ sp dvs E t):=by
 intro pins s σ H Q I h
 refine wpAny_Call_Name_kw (KN I hg hm ?_ hdb)
 refine PySem.W.callWith_K (h₀:=X.base) I.ok.mod.kin hk (AM (ha pos pins s σ H _ I h) fun us s1 ⟨vs,H1,I1,r,q⟩=>⟨I1.kIn,?_⟩) he hpl
 exact PP F hr hb hd hx I1 r q
end
section
variable {X:Cx} {CX:K0} {k:Nat} {f C:Addr} {fd:FuncData} {ps ks:List Str} {sp:Sp} {E:XK} {x m:Str} {p pos apos kpos:Pos} {e o:Expr} {es:List Expr} {kws:List Keyword} {te ta:TE} {t tk:TA} {nm:Option Str}
variable {g:List Value→List Value→List Value} {gV:List V→List V→List V}
end
structure Ap (N P:List Str) (sc:Scope):Prop where
 kind:sc.kind= .function
 co:sc.isCoroutine=false
 gen:sc.isGenerator=false
 nd:N.Nodup
 pre:N.take P.length=P
 par:∀x∈P,sc.names.lookup x=some .local∨sc.names.lookup x=some .cell
 nofree:∀y∈sc.names,y.2≠.free
theorem Gx {kindOf:Str→Option NameKind} {x:Str}:∀{binds:List (Str×Value)} {m:Str→Option Value},(∀v,(x,v)∉binds)→bindL kindOf binds m x=m x
 | [],_,_=>rfl
 | (n,v)::r,m,h=>by
  unfold bindL
  rw[Gx fun w hw=>h w (List.mem_cons_of_mem _ hw)]
  split
  ·have:x≠n:=by rintro rfl;exact h v List.mem_cons_self
   simp[this]
  ·rfl
theorem Go {kindOf:Str→Option NameKind} {x:Str}:∀{binds:List (Str×Value)} {m:Str→Option Value},(∀v,(x,v)∉binds)→bindC kindOf binds m x=m x
 | [],_,_=>rfl
 | (n,v)::r,m,h=>by
  unfold bindC
  rw[Go fun w hw=>h w (List.mem_cons_of_mem _ hw)]
  split
  ·rfl
  ·have:x≠n:=by rintro rfl;exact h v List.mem_cons_self
   simp[this]
theorem Hd {kindOf:Str→Option NameKind} {x:Str} {v:Value}:∀{P:List Str} {vs:List Value} {i:Nat} {m:Str→Option Value},P.Nodup→P[i]? = some x→vs[i]? = some v→kindOf x=some .local→
  bindL kindOf (P.zip vs) m x=some v
 | [],_,_,_,_,h,_,_=>by simp at h
 | _::_,[],_,_,_,_,h,_=>by simp at h
 | p::P,w::vs,0,m,nd,h1,h2,hk=>by
  simp at h1 h2;subst h1;subst h2
  show bindL kindOf ((p,w)::P.zip vs) m p=_
  unfold bindL
  rw[Gx fun v hv=>(List.nodup_cons.mp nd).1 (List.of_mem_zip hv).1,if_pos hk]
  simp
 | p::P,w::vs,i+1,m,nd,h1,h2,hk=>by
  show bindL kindOf ((p,w)::P.zip vs) m x=_
  unfold bindL
  exact Hd (i:=i) (List.nodup_cons.mp nd).2 (by simpa using h1) (by simpa using h2) hk
theorem GZ {kindOf:Str→Option NameKind} {x:Str} {v:Value}:∀{P:List Str} {vs:List Value} {i:Nat} {m:Str→Option Value},P.Nodup→P[i]? = some x→vs[i]? = some v→kindOf x≠some .local→
  bindC kindOf (P.zip vs) m x=some v
 | [],_,_,_,_,h,_,_=>by simp at h
 | _::_,[],_,_,_,_,h,_=>by simp at h
 | p::P,w::vs,0,m,nd,h1,h2,hk=>by
  simp at h1 h2;subst h1;subst h2
  show bindC kindOf ((p,w)::P.zip vs) m p=_
  unfold bindC
  rw[Go fun v hv=>(List.nodup_cons.mp nd).1 (List.of_mem_zip hv).1,if_neg hk]
  simp
 | p::P,w::vs,i+1,m,nd,h1,h2,hk=>by
  show bindC kindOf ((p,w)::P.zip vs) m x=_
  unfold bindC
  exact GZ (i:=i) (List.nodup_cons.mp nd).2 (by simpa using h1) (by simpa using h2) hk
def D9 (N:List Str) (vs:List V):St:=vs.map some++List.replicate (N.length-vs.length) none
def Hs (CX:K0) (P:Program) (w:World) (K:PySem.W.Frag) (mg:Str→Option Value) (base:Heap) (N:List Str) (qual:Str) (scope:Scope) (f:Addr) (cd:Value) (A:Around) (outer:List Env) (s:Shared) (H:Hp) (E:XK):Cx where
 prog:=P
 w:=w
 K:=K
 mg:=mg
 base:=base
 A:=A.deeper (envOfC qual scope s.heap.objs.size f cd)
 N:=N
 s₀:=s
 H₀:=H
 env:=envOfC qual scope s.heap.objs.size f cd
 outer:=outer
 stack:=envOfC qual scope s.heap.objs.size f cd::outer
 ex:=[]
 calm:=true
 fn:=fun _=>true
 pn:=[]
 xe:=fun e s'=>wpAny (model P w) (A.deeper (envOfC qual scope s.heap.objs.size f cd)) (leaving (envOfC qual scope s.heap.objs.size f cd) e) (fun _ s''=>CX outer H s E e s'') (fun e' s''=>CX outer H s E e' s'') s'
theorem Ie {sc:Scope} {n:Nat} {x:Str} (h:sc.names.lookup x=some .cell):∃c,(cellsFrom n sc.names []).lookup x=some c:=by
 have q:=PySem.W.cellsFrom_some sc.names n [] (.inl h)
 exact Option.isSome_iff_exists.mp q
theorem Lf {CX:K0} {P:Program} {w:World} {K:PySem.W.Frag} {mg:Str→Option Value} {base:Heap} {N ps:List Str} {qual:Str} {scope:Scope} {f:Addr} {cd:Value} {A:Around} {outer:List Env} {s s1:Shared} {H:Hp} {E:XK} {us:List Value} {vs:List V}
  (S:Ap N ps scope) (hd:A.handled=none) (e0:OJ P w K mg base A outer s H) (hl:vs.length=ps.length) (r:Vals vs us)
  (x:InCallC s s.heap.objs.size (bindL (envOfC qual scope s.heap.objs.size f cd).kindOf (ps.zip us) fun _=>none) (cellsFrom (s.heap.objs.size+1) scope.names []) (bindC (envOfC qual scope s.heap.objs.size f cd).kindOf (ps.zip us) fun _=>none) s1) :
  Inv (Hs CX P w K mg base N qual scope f cd A outer s H E) [] (D9 N vs) H s1:=by
 have hpl:ps.length≤N.length:=by have:=congrArg List.length S.pre;rw[List.length_take] at this;omega
 obtain⟨h1,tk,rfl,hk⟩:=x.done
 have noA:∀b:Addr,b∉(Hs CX P w K mg base N qual scope f cd A outer s H E).ex:=fun b z=>absurd (show b∈([]:List Addr) from z) (by simp)
 refine⟨⟨e0.mod,S.kind,rfl,rfl,Nat.le_refl _,fun y z c h1 h2=>?_,fun y hy=>?_,fun y c _ h=>?_,fun _=>hd,Around.frames_deeper e0.frames,.inr ⟨rfl,rfl⟩,fun b z=>absurd z (noA b),e0.bs,e0.bsz,fun b _ _=>noA b,fun b z=>absurd z (noA b),e0.funs,e0.frf⟩,
  rfl,e0.bare,Un.kept hk,⟨_,x.toInCall.ns,fun i y v h1 h2 h3=>?_⟩,fun y c h=>⟨_,x.cell y c h⟩,e0.hok.fresh (Nat.le_refl _),fun y c h=>?_,fun p hp=>absurd (show p∈([]:List (Addr×Obj)) from hp) (by simp),e0.hok.kept hk,?_⟩
 ·exact name_of_addr x.apart (PySem.mem_of_lookup h1) (PySem.mem_of_lookup h2)
 ·have hy:scope.names.lookup y=some .cell∨scope.names.lookup y=some .free:=hy
  rcases hy with hy | hy
  ·exact Ie hy
  ·exact absurd rfl (S.nofree _ (PySem.mem_of_lookup hy))
 ·exact Nat.le_of_lt (x.above y c (PySem.mem_of_lookup h))
 ·have hi:i<vs.length:=by
   unfold D9 at h2
   by_cases hi:i<vs.length
   ·exact hi
   ·rw[List.getElem?_append_right (by simpa using hi)] at h2
    rw[List.getElem?_replicate] at h2
    split at h2<;>cases h2
  have ha:vs[i]? = some v:=by
   unfold D9 at h2
   rw[List.getElem?_append_left (by simpa using hi),List.getElem?_map] at h2
   cases e:vs[i]? with
   | none=>rw[e] at h2;cases h2
   | some a=>rw[e] at h2;cases h2;rfl
  obtain⟨u,hu,rv⟩:=r.get ha
  have hp:ps[i]? = some y:=by
   rw[←S.pre,List.getElem?_take_of_lt (by omega)];exact h1
  have ndP:ps.Nodup:=by rw[←S.pre];exact S.nd.sublist (List.take_sublist _ _)
  refine⟨u,rv,?_⟩
  rcases S.par y (List.mem_of_getElem? hp) with k | k
  ·exact .inl ⟨k,Hd ndP hp hu k⟩
  ·obtain⟨c,e⟩:=Ie (n:=s.heap.objs.size+1) k
   refine .inr ⟨.inl k,c,e,?_⟩
   have q:=x.cell y c e
   rw[GZ ndP hp hu (by show scope.names.lookup y≠_;rw[k];decide)] at q
   exact q
 ·exact e0.hok.fresh (Nat.le_of_lt (x.above y c (PySem.mem_of_lookup h)))
 ·unfold D9
  show _=N.length
  rw[List.length_append,List.length_map,List.length_replicate]
  omega
theorem O9 {CX:K0} {P:Program} {w:World} {K:PySem.W.Frag} {mg:Str→Option Value} {base:Heap} {k:Nat} {f:Addr} {name qual:Str} {params:Arguments} {body:List Stmt} {scope:Scope} {dV kV doc pm cdv ct oc:Value} {an od:Option Addr}
  {osl:Array (Option Value)} {N ps:List Str} {sp:Sp} (lk:K.lookup f=some ⟨oc,od,.func (PySem.W.fnOf name qual params body scope dV kV doc pm an cdv ct),osl⟩) (hcd:PySem.W.codeIn K cdv qual=true) (S:Ap N ps scope)
  (len:∀vs H Q E,sp vs H Q E→vs.length=ps.length)
  (hbody:∀(A:Around) (outer:List Env) (s:Shared) (H:Hp) (vs:List V) (Q:VK) (E:XK),Room k (A.deeper (envOfC qual scope s.heap.objs.size f cdv))→sp vs H Q E→
   ∃t,PSs (Hs CX P w K mg base N qual scope f cdv A outer s H E) body t∧t { nx:=fun _ H'=>Q .non H',rt:=Q } (D9 N vs) H) :
  FnOk P w K mg base CX (k+1) f (PySem.W.fnOf name qual params body scope dV kV doc pm an cdv ct) ps sp:=by
 refine⟨len,fun A outer s H args us vs Q E hr e0 hb r hsp=>?_⟩
 have hl:=len _ _ _ _ hsp
 have KX:K.In s.heap:=e0.mod.kin.keeps fun b o e=>(e0.bs b o e).1
 have lim:s.heap.NoLimit:=e0.mod.nolimit.keeps fun b o e=>(e0.bs b o e).1
 have hkind:∀y∈ps.zip us,scope.names.lookup y.1=some .local∨(scope.names.lookup y.1=some .cell∧((cellsFrom (s.heap.objs.size+1) scope.names []).lookup y.1).isSome=true):=fun⟨n,v⟩ hy=>by
  rcases S.par n (List.of_mem_zip hy).1 with q | q
  ·exact .inl q
  ·exact .inr ⟨q,PySem.W.cellsFrom_some _ _ _ (.inl q)⟩
 refine codeAny_call_function hr.depth (KX _ _ lk) rfl S.co S.gen rfl (PySem.W.codeRec_of KX hcd) (hb _ _ _ _ ?_)
 refine wpAny_newFunctionEnv_cells S.kind hkind fun env he s1 x=>?_
 subst he
 refine⟨lim.keeps x.toInCall.keep,codeAny_func ?_⟩
 obtain⟨t,ht,hq⟩:=hbody A outer s H vs Q E (hr.deeper _) hsp
 have I:Inv (Hs CX P w K mg base N qual scope f cdv A outer s H E) [] (D9 N vs) H s1:=Lf S hr.hd e0 hl r x
 refine wpAny_mono (ht [] s1 (D9 N vs) H _ I hq) (fun fl s' hs=>?_) fun e s' hs=>hs
 have fin:∀{σ':St} {H':Hp} {v:V} {u:Value},Inv (Hs CX P w K mg base N qual scope f cdv A outer s H E) [] σ' H' s'→RelV v u→Q v H'→CE outer P w H s Q u s':=
  fun {σ' H' v u} J rv q=>⟨v,H',J.os,J.bare,J.base,J.hok,rv,q⟩
 cases fl with
 | ret u=>
  obtain⟨v,σ',H',J,rv,q⟩:=hs
  exact fin J rv q
 | next=>
  obtain⟨σ',H',J,q⟩:=hs
  exact fin (v:=V.non) (u:=Value.none) J rfl q
 | brk=>
  obtain⟨_,_,_,q⟩:=hs
  exact False.elim q
 | cont=>
  obtain⟨_,_,_,q⟩:=hs
  exact False.elim q
end L2
namespace L2
open PySem PySem.Spec PyProof.Rows
section
variable {X:Cx} {x:Str} {p pos:Pos} {e:Expr} {es:List Expr} {t:TA} {id T:String} {r:List V→Hp→VK→Prop}
def RG (r:List V→Hp→VK→Prop) (t:TA):TE:=fun σ H Q=>t σ H fun vs H1=>r vs H1 Q
theorem Av (hc:BK X (.builtin id) r) (hg:Gl X x) (hm:X.mg x=none) (hv:bootBuiltins x=some (.builtin id)) (ha:PA X (e::es) t) (hn:x≠"__name__":=by decide) (hdb:(x == ("__debug__":Str))=false:=by decide)
  (he:starEach (e::es) X.env=(false,eval e X.env)::starEach es X.env:=by rfl) (hpl:(backTo pos (starEach es X.env)).any (·.1)=false:=by rfl):PE X (.Call (.Name x p) (e::es) [] pos) (RG r t):=by
 intro pins s σ H Q I h
 refine wpAny_Call_Name_kw (DU I hg hm hv ?_ hn hdb)
 exact PyProof.Rows.callWith_builtin1 (AM (ha pos pins s σ H _ I h) fun us s1 ⟨vs,H1,I1,r1,q1⟩=>hc pins s1 σ H1 vs us Q I1 r1 q1) he hpl
theorem Bi (hc:BK X (.type T) r) (hg:Gl X x) (hm:X.mg x=none) (hv:bootBuiltins x=some (.type T)) (ha:PA X (e::es) t) (hn:x≠"__name__":=by decide) (hdb:(x == ("__debug__":Str))=false:=by decide)
  (he:starEach (e::es) X.env=(false,eval e X.env)::starEach es X.env:=by rfl) (hpl:(backTo pos (starEach es X.env)).any (·.1)=false:=by rfl):PE X (.Call (.Name x p) (e::es) [] pos) (RG r t):=by
 intro pins s σ H Q I h
 refine wpAny_Call_Name_kw (DU I hg hm hv ?_ hn hdb)
 exact PyProof.Rows.callWith_type1 (AM (ha pos pins s σ H _ I h) fun us s1 ⟨vs,H1,I1,r1,q1⟩=>hc pins s1 σ H1 vs us Q I1 r1 q1) he hpl
theorem J9 (hc:BK X (.type T) r) (hg:Gl X x) (hm:X.mg x=none) (hv:bootBuiltins x=some (.type T)) (hn:x≠"__name__":=by decide) (hdb:(x == ("__debug__":Str))=false:=by decide) :
  PE X (.Call (.Name x p) [] [] pos) (RG r QY):=by
 intro pins s σ H Q I h
 refine wpAny_Call_Name_kw (DU I hg hm hv ?_ hn hdb)
 exact PyProof.Rows.callWith_type0 (hc pins s σ H [] [] Q I .nil h)
end
end L2
namespace HT
open PySem PyProof.Rows
section
open PySem.SeqAt
open PySem.AutoSeq1 (wpAny_loadPart')
open PySem.MeetsSeq PySem.MeetsSeq2 PySem.MeetsSeq3
end
section
variable {prog:Program} {w:World} {A:Around} {E:Value→Shared→Prop} {s:Shared}
def sIx (n d:Nat):Option Int→Nat
 | none=>d
 | some v=>if v<0 then (v+(n:Int)).toNat else min v.toNat n
theorem sIx_none (n d:Nat):sIx n d none=d:=rfl
theorem sIx_nat (n d k:Nat):sIx n d (some (k:Int))=min k n:=by
 show (if (k:Int)<0 then ((k:Int)+(n:Int)).toNat else min (k:Int).toNat n)=min k n
 rw[if_neg (by omega),Int.toNat_natCast]
theorem Pj (n d:Nat) (hd:d≤n) (o:Option Int):sIx n d o≤n:=by
 cases o with
 | none=>exact hd
 | some v=>
  show (if v<0 then (v+(n:Int)).toNat else min v.toNat n)≤n
  by_cases hv:v<0
  ·rw[if_pos hv];omega
  ·rw[if_neg hv];exact Nat.min_le_right _ _
theorem Kt (v:Int) (n d:Nat):(if v<0 then max (v+(n:Int)) 0 else min v (n:Int))=((sIx n d (some v):Nat):Int):=by
 show (if v<0 then max (v+(n:Int)) 0 else min v (n:Int))=(((if v<0 then (v+(n:Int)).toNat else min v.toNat n):Nat):Int)
 by_cases hv:v<0
 ·simp only[if_pos hv];omega
 ·simp only[if_neg hv];omega
theorem J8 (lo hi:Option Int) (n:Nat):Builtin.Slice.sliceAdjust lo hi 1 (n:Int)=(((sIx n 0 lo:Nat):Int),((sIx n n hi:Nat):Int)):=by
 have h1:¬((1:Int)<0):=by omega
 unfold Builtin.Slice.sliceAdjust
 simp only[h1,if_false]
 refine Prod.ext ?_ ?_
 ·cases lo with
  | none=>rfl
  | some v=>exact Kt v n 0
 ·cases hi with
  | none=>rfl
  | some v=>exact Kt v n n
theorem JL (i j:Nat):Builtin.Slice.slicePlaces (i:Int) (j:Int) 1=j-i:=by
 unfold Builtin.Slice.slicePlaces
 have h1:(1:Int)>0:=by omega
 simp only[h1,if_true,Int.ediv_one]
 split<;>omega
theorem FH {v:Value} {o:Option Int} {Q:Option Int→Shared→Prop} (p:IsPart v o) (h:Q o s):wpAny (model prog w) A (Builtin.Slice.slicePartIndex v) Q E s:=by
 cases p with
 | none=>exact slicePart_none h
 | int i t=>exact slicePart_int h
theorem Ew {sl:Addr} {vl vu:Value} {lo hi:Option Int} {n:Nat} {Q:Int×Int×Nat→Shared→Prop} (hs:s.heap.IsSliceOf sl vl vu .none) (pl:IsPart vl lo) (pu:IsPart vu hi)
  (h:Q (((sIx n 0 lo:Nat):Int),1,sIx n n hi-sIx n 0 lo) s):wpAny (model prog w) A (Builtin.Slice.sliceApplied (.ref sl) (pure (n:Int))) Q E s:=by
 obtain⟨os,hos,hcs,hds⟩:=id hs
 unfold Builtin.Slice.sliceApplied Builtin.Slice.sliceFields
 refine wpAny_bind (wpAny_bind (wpAny_field hos hds (x:=vl) rfl (wpAny_bind (wpAny_field hos hds (x:=vu) rfl (wpAny_bind (wpAny_field hos hds (x:=.none) rfl (wpAny_pure ?_)))))))
 refine wpAny_bind (slicePart_none ?_)
 show wpAny _ _ (if ((1:Int) == 0)=true then _ else _) _ _ s
 rw[if_neg (by decide)]
 refine wpAny_bind (FH pl (wpAny_bind (FH pu (wpAny_bind (wpAny_pure ?_)))))
 show wpAny _ _ (match Builtin.Slice.sliceAdjust lo hi 1 (n:Int) with | (lo,hi)=>pure (lo,(1:Int),Builtin.Slice.slicePlaces lo hi 1)) _ _ s
 rw[J8 lo hi n]
 show wpAny _ _ (pure (((sIx n 0 lo:Nat):Int),(1:Int),Builtin.Slice.slicePlaces ((sIx n 0 lo:Nat):Int) ((sIx n n hi:Nat):Int) 1)) _ _ s
 rw[JL]
 exact wpAny_pure h
theorem NN (xs:Array Value) (i k:Nat):((List.range k).filterMap fun (m:Nat)=>xs[((i:Int)+(m:Int)*1).toNat]?).toArray=((xs.toList.drop i).take k).toArray:=by
 have e:(fun (m:Nat)=>xs[((i:Int)+(m:Int)*1).toNat]?)=fun m=>xs[i+m]? :=by
  funext m
  have:((i:Int)+(m:Int)*1).toNat=i+m:=by omega
  rw[this]
 rw[e]
 have:=pick_run xs i k
 rw[List.filterMap_map] at this
 have e2:((fun x=>xs[x]?) ∘ fun x=>i+x)=fun m=>xs[i+m]? :=rfl
 rw[e2] at this
 rw[this]
theorem getItem_tuple_cut {t sl:Addr} {items:Array Value} {vl vu:Value} {lo hi:Option Int} {Q:Value→Shared→Prop} (ht:IsTup s.heap t items) (hs:s.heap.IsSliceOf sl vl vu .none) (pl:IsPart vl lo) (pu:IsPart vu hi)
  (hw:¬(sIx items.size 0 lo=0∧sIx items.size items.size hi=items.size))
  (h:Q (.ref s.heap.objs.size) { s with heap:=s.heap.push { cls:=.type "tuple",data:=.seq ((items.toList.drop (sIx items.size 0 lo)).take (sIx items.size items.size hi-sIx items.size 0 lo)).toArray } })
  (hsz:items.size≤sizeLine):wpAny (model prog w) A (getItem (.ref t) (.ref sl)) Q E s:=by
 have htake:sizeOk (.seq ((items.toList.drop (sIx items.size 0 lo)).take (sIx items.size items.size hi-sIx items.size 0 lo)).toArray):=by
  show ((items.toList.drop (sIx items.size 0 lo)).take (sIx items.size items.size hi-sIx items.size 0 lo)).toArray.size≤sizeLine
  rw[List.size_toArray,List.length_take,List.length_drop,Array.length_toList]
  omega
 have hj:sIx items.size items.size hi≤items.size:=Pj _ _ (Nat.le_refl _) hi
 obtain⟨os,hos,hcs,hds⟩:=id hs
 have hTs:s.TypeIs (.ref sl) "slice":=⟨os,hos,hcs⟩
 unfold getItem
 try with_reducible refine wpAny_holding ?_
 first | refine wpAny_bind (wpAny_pure ?_) | skip
 refine wpAny_bind (wpAny_sequenceKey ht.typeIs (by decide) ?_)
 refine wpAny_bind (wpAny_callSpecial?_slot (name:=Str.ofString "__getitem__") ht.typeIs PyProof.Rows.slot_tuple_getitem
  (wpAny_call_entry PyProof.Rows.slot_tuple_getitem ht.typeIs entry_tuple_getitem ?_ (args_tuple_getitem _ _)))
 show wpAny _ _ (Builtin.Tuple.tupleItemsOf (.ref t) >>= _) _ _ s
 refine wpAny_bind (tupleItemsOf_ ht ?_)
 refine wpAny_bind (wpAny_typeOf hTs ?_)
 rw[if_pos (by decide)]
 refine wpAny_bind (Ew hs pl pu ?_)
 have hno:¬((((sIx items.size 0 lo:Nat):Int) == 0 && (1:Int) == 1 && (sIx items.size items.size hi-sIx items.size 0 lo) == items.size)=true):=by
  intro q
  rw[Bool.and_eq_true,Bool.and_eq_true] at q
  have q1:((sIx items.size 0 lo:Nat):Int)=0:=eq_of_beq q.1.1
  have q2:sIx items.size items.size hi-sIx items.size 0 lo=items.size:=eq_of_beq q.2
  exact hw ⟨by omega,by omega⟩
 show wpAny _ _ (if (((sIx items.size 0 lo:Nat):Int) == 0 && (1:Int) == 1 && (sIx items.size items.size hi-sIx items.size 0 lo) == items.size)=true then _ else _) _ _ s
 rw[if_neg hno,NN]
 first
  | exact wpAny_bind (m:=Builtin.Tuple.tupleExact _) (wpAny_newObj_type (wpAny_pure ⟨_,rfl,wpAny_pure h⟩) htake)
  | exact wpAny_bind (m:=Builtin.Tuple.tupleExact _) (wpAny_newObj_type (wpAny_bind (wpAny_pure (wpAny_pure ⟨_,rfl,wpAny_pure h⟩))) htake)
  | exact wpAny_bind (wpAny_bind (m:=Builtin.Tuple.tupleExact _) (wpAny_newObj_type (wpAny_pure (wpAny_pure ⟨_,rfl,wpAny_pure h⟩)) htake))
  | exact wpAny_bind (wpAny_bind (m:=Builtin.Tuple.tupleExact _) (wpAny_newObj_type (wpAny_pure ⟨_,rfl,wpAny_pure h⟩) htake))
end
end HT
namespace L2
open PySem PySem.Spec PyProof.Rows
abbrev TO:=St→Hp→(Option Int→Hp→Prop)→Prop
def PO (X:Cx) (e:Option Expr) (t:TO):Prop:=
 ∀(pins:List (Addr×Obj)) (s:Shared) (σ:St) (H:Hp) (Q:Option Int→Hp→Prop),Inv X pins σ H s→t σ H Q→
  wpAny (model X.prog X.w) X.A (evalPart e X.env) (fun u s'=>∃o H',Inv X pins σ H' s'∧IsPart u o∧Q o H') X.xe s
def OY:TO:=fun _ H Q=>Q none H
def QF (t:TE):TO:=fun σ H Q=>t σ H fun x H1=>∃i,x= .int i∧Q (some i) H1
section
variable {X:Cx} {e:Expr} {te:TE} {lo hi:Option Expr} {tl th:TO} {pos p2:Pos}
theorem Fj:PO X none OY:=by
 intro pins s σ H Q I h
 rw[evalPart_none]
 exact wpAny_pure ⟨none,H,I,.none,h⟩
theorem Fc (h:PE X e te):PO X (some e) (QF te):=by
 intro pins s σ H Q I hw
 rw[evalPart_some]
 refine AM (h pins s σ H _ I hw) fun u s1 ⟨x,H1,I1,r1,q1⟩=>?_
 obtain⟨i,rfl,q⟩:=q1
 obtain⟨t,rfl⟩:=r1
 exact⟨some i,H1,I1,.int i t,q⟩
def RE (X:Cx) (r:V→Option Int→Option Int→Hp→VK→Prop):Prop:=
 ∀(pins:List (Addr×Obj)) (s:Shared) (σ:St) (H:Hp) (x:V) (v vl vu:Value) (lo hi:Option Int) (sl:Addr) (Q:VK),Inv X pins σ H s→RelV x v→s.heap.IsSliceOf sl vl vu .none→IsPart vl lo→IsPart vu hi→r x lo hi H Q→
  ∃T id,typeLookup (.type T) "__getitem__"=pure (some (.builtin id))∧s.TypeIs v T∧wpAny (model X.prog X.w) X.A (getItem v (.ref sl)) (EP X pins σ Q) X.xe s
def R5 (r:V→Option Int→Option Int→Hp→VK→Prop) (te:TE) (tl th:TO):TE:=fun σ H Q=>te σ H fun x H1=>tl σ H1 fun l H2=>th σ H2 fun u H3=>r x l u H3 Q
theorem D1 {r:V→Option Int→Option Int→Hp→VK→Prop} (hr:RE X r) (he:PE X e te) (hl:PO X lo tl) (hu:PO X hi th):PE X (.Subscript e (.Slice lo hi none p2) pos) (R5 r te tl th):=by
 intro pins s σ H Q I h
 refine Subscript_ (AM (he pins s σ H _ I h) fun v s1 ⟨x,H1,I1,r1,q1⟩=>?_)
 refine wpAny_Slice (AM (hl pins s1 σ H1 _ I1 q1) fun vl s2 ⟨l,H2,I2,pl,q2⟩=>AM (hu pins s2 σ H2 _ I2 q2) fun vu s3 ⟨u,H3,I3,pu,q3⟩=>?_)
 rw[evalPart_none]
 refine wpAny_pure ?_
 have I4:Inv X pins σ H3 { s3 with heap:=s3.heap.push { cls:=.type "slice",data:=.fields #[vl,vu,.none] } }:=I3.kept (t':=s3.toks) fun b ob q=>Heap.get?_push_of_some _ q
 obtain⟨T,id,hT,ht,hg⟩:=hr pins { s3 with heap:=s3.heap.push { cls:=.type "slice",data:=.fields #[vl,vu,.none] } } σ H3 x v vl vu l u s3.heap.objs.size Q I4 r1 (Heap.IsSliceOf.new ..) pl pu q3
 show wpAny (model X.prog X.w) X.A (subscriptTail e (.Slice lo hi none p2) v (.ref s3.heap.objs.size)) (EP X pins σ Q) X.xe { s3 with heap:=s3.heap.push { cls:=.type "slice",data:=.fields #[vl,vu,.none] } }
 exact tail_any (ops:=[.ref s3.heap.objs.size,v]) ht hT hg (by with_unfolding_all rfl)
def Ed (xs:List V) (lo hi:Option Int):List V:=(xs.drop (HT.sIx xs.length 0 lo)).take (HT.sIx xs.length xs.length hi-HT.sIx xs.length 0 lo)
theorem E2 (xs:List V) (lo hi:Option Int):(Ed xs lo hi).length≤xs.length:=by
 unfold Ed
 rw[List.length_take,List.length_drop]
 omega
def Q9 (K:PySem.W.Frag):V→Option Int→Option Int→Hp→VK→Prop:=fun x lo hi H Q=>∃a xs,x= .ref a∧SqT K H a xs∧
 ¬(HT.sIx xs.length 0 lo=0∧HT.sIx xs.length xs.length hi=xs.length)∧∀p,H p=none→Q (.ref p) (AA H p (.tup (Ed xs lo hi)))
theorem PM:RE X (Q9 X.K):=by
 intro pins s σ H x v vl vu lo hi sl Q I rx hs pl pu h
 obtain⟨a,xs,rfl,hx,hw,q⟩:=h
 cases rx
 obtain⟨its,r,ht,hz⟩:=I.tuple hx
 have hlen:its.toArray.size=xs.length:=by rw[List.size_toArray];exact r.length.symm
 refine⟨"tuple",_,PyProof.Rows.slot_tuple_getitem.lookup,ht.typeIs,?_⟩
 refine HT.getItem_tuple_cut ht hs pl pu (by rw[hlen];exact hw) ?_ (by rw[hlen];exact hz)
 rw[hlen]
 refine⟨.ref s.heap.objs.size,_,I.laid (t':=s.toks) (o:=.tup (Ed xs lo hi)) (fun b ob q=>Heap.get?_push_of_some _ q) (Nat.le_refl _) ?_,rfl,q _ (I.hok.fresh (Nat.le_refl _))⟩
 exact⟨Nat.le_trans (E2 xs lo hi) hz,_,(r.drop (HT.sIx xs.length 0 lo)).take (HT.sIx xs.length xs.length hi-HT.sIx xs.length 0 lo),IsTup.new _ _⟩
end
end L2
namespace L2
open PySem PySem.Spec PyProof.Rows
def MO (n:Nat) (i:Int):Option Nat:=if 0≤i then (if i<n then some i.toNat else none) else if -(n:Int)≤i then some (i+n).toNat else none
def Fs {α:Type} (xs:List α) (i:Int):Option α:=(MO xs.length i).bind fun j=>xs[j]?
theorem Kv {n:Nat} {i:Int} {j:Nat} (h:MO n i=some j):seqIndex? i n=some j∧j<n∧-(n:Int)≤i∧i<n:=by
 unfold MO at h
 by_cases h0:0≤i
 ·rw[if_pos h0] at h
  by_cases h1:i<n
  ·rw[if_pos h1] at h
   have e:i.toNat=j:=Option.some.inj h
   exact⟨by rw[seqIndex_of h0 h1,e],by omega,by omega,h1⟩
  ·rw[if_neg h1] at h;cases h
 ·rw[if_neg h0] at h
  by_cases h1 : -(n:Int)≤i
  ·rw[if_pos h1] at h
   have e:(i+n).toNat=j:=Option.some.inj h
   exact⟨by rw[seqIndex_neg (by omega) h1,e],by omega,h1,by omega⟩
  ·rw[if_neg h1] at h;cases h
theorem KG {α:Type} {xs:List α} {i:Int} {v:α} (h:Fs xs i=some v):∃j,seqIndex? i xs.length=some j∧xs[j]? = some v∧j<xs.length∧-(xs.length:Int)≤i∧i<xs.length:=by
 unfold Fs at h
 cases e:MO xs.length i with
 | none=>rw[e] at h;cases h
 | some j=>
  rw[e] at h
  obtain⟨h1,h2,h3,h4⟩:=Kv e
  exact⟨j,h1,h,h2,h3,h4⟩
theorem Aq {α:Type} {xs:List α} {j:Nat} {v:α} (h:xs[j]? = some v):Fs xs (j:Int)=some v:=by
 have hj:j<xs.length:=(List.getElem?_eq_some_iff.mp h).1
 have e:MO xs.length (j:Int)=some j:=by
  unfold MO
  rw[if_pos (by omega),if_pos (by omega)];simp
 unfold Fs;rw[e];exact h
def Kk (b:Expr):Prop:=∀o i,subscripted b false o i=operate [o,i] (getItem o i)
def RK (X:Cx) (r:R2):Prop:=
 ∀(value slice:Expr) (pins:List (Addr×Obj)) (s:Shared) (σ:St) (H:Hp) (x y:V) (v u:Value) (Q:VK),Inv X pins σ H s→RelV x v→RelV y u→r x y H Q→
  subscripted slice false v u=operate [v,u] (getItem v u)→wpAny (model X.prog X.w) X.A (subscriptTail value slice v u) (EP X pins σ Q) X.xe s
def RS (X:Cx) (id:String) (r:V→List V→Hp→VK→Prop):Prop:=
 ∀(pins:List (Addr×Obj)) (s:Shared) (σ:St) (H:Hp) (x:V) (xs:List V) (v:Value) (us:List Value) (Q:VK),Inv X pins σ H s→RelV x v→Vals xs us→r x xs H Q→
  wpAny (model X.prog X.w) X.A (call (.builtin id) (v::us)) (EP X pins σ Q) X.xe s
section
variable {X:Cx} {a b:Expr} {ta tb:TE} {pos:Pos}
theorem AH {r:R2} (hr:RK X r) (ha:PE X a ta) (hb:PE X b tb) (hs:Kk b):PE X (.Subscript a b pos) (QB r ta tb):=by
 intro pins s σ H Q I h
 exact Subscript_ (PL ha hb I h fun v u s2 x y H2 I2 rx ry q=>hr a b pins s2 σ H2 x y v u Q I2 rx ry q (hs _ _))
def PV (K:PySem.W.Frag):R2:=fun x y H Q=>∃p xs i v,x= .ref p∧y= .int i∧SqL K H p xs∧Fs xs i=some v∧Q v H
def Ry (K:PySem.W.Frag):R2:=fun x y H Q=>∃p xs i v,x= .ref p∧y= .int i∧SqT K H p xs∧Fs xs i=some v∧Q v H
theorem AG:RK X (PV X.K):=by
 intro value slice pins s σ H x y v u Q I rx ry h hs
 obtain⟨p,xs,i,z,rfl,rfl,hq,he,q⟩:=h
 cases rx
 obtain⟨t,rfl⟩:=ry
 obtain⟨its,r,pl,hz⟩:=I.list hq
 obtain⟨j,h1,h2,h3,h4,h5⟩:=KG he
 obtain⟨w,ew,rw'⟩:=r.get h2
 have hl:=r.length
 have hn:=FA
 have fin:EP X pins σ Q w s:=⟨z,H,I,rw',q⟩
 by_cases h0:0≤i
 ·have hj:i.toNat=j:=by
   rw[seqIndex_of h0 h5] at h1
   exact Option.some.inj h1
  exact item_listR pl.isList h0 (by omega) (by rw[hj];simpa using ew) fin hs
 ·have hj:(i+(its.toArray.size:Int)).toNat=j:=by
   rw[seqIndex_neg (by omega) h4] at h1
   rw[List.size_toArray,←hl]
   exact Option.some.inj h1
  exact subscriptTail_builtinR (x:=w) pl.isList.typeIs slot_list_getitem.lookup
   (wpAny_getItem_list_neg (Q:=fun r s'=>r=w∧EP X pins σ Q r s') pl.isList (by omega) (by rw[List.size_toArray]<;>omega) (by omega) (by rw[hj];simpa using ew) ⟨rfl,fin⟩) hs
theorem A4:RK X (Ry X.K):=by
 intro value slice pins s σ H x y v u Q I rx ry h hs
 obtain⟨p,xs,i,z,rfl,rfl,hq,he,q⟩:=h
 cases rx
 obtain⟨t,rfl⟩:=ry
 obtain⟨its,r,pl,hz⟩:=I.tuple hq
 obtain⟨j,h1,h2,h3,h4,h5⟩:=KG he
 obtain⟨w,ew,rw'⟩:=r.get h2
 have hl:=r.length
 have hn:=FA
 have fin:EP X pins σ Q w s:=⟨z,H,I,rw',q⟩
 exact subscriptTail_builtinR (x:=w) pl.typeIs slot_tuple_getitem.lookup
  (getItem_tuple (j:=j) (Q:=fun r s'=>r=w∧EP X pins σ Q r s') pl (by omega) (by omega) (by rw[List.size_toArray,←hl];exact h1) (by simpa using ew) ⟨rfl,fin⟩) hs
theorem J0 (its:List Value) (n j:Nat) (u:Value):Obj.mapSeq (·.setIfInBounds j u) { cls:=.type "list",data:=.seq its.toArray n }={ cls:=.type "list",data:=.seq (its.set j u).toArray n }:=by
 simp[Obj.mapSeq]
theorem Inv.lst {pins:List (Addr×Obj)} {σ:St} {H:Hp} {s:Shared} {p:Addr} {xs:List V} (I:Inv X pins σ H s) (h:H p=some (.lst xs)) :
  ∃(its:List Value) (n:Nat),Vals xs its∧s.heap.get? p=some { cls:=.type "list",data:=.seq its.toArray n }∧xs.length≤sizeLine:=by
 obtain⟨z,its,n,r,e⟩:=I.hok p _ h
 exact⟨its,n,r,e,z⟩
theorem Inv.lstUpd {pins:List (Addr×Obj)} {σ:St} {H:Hp} {s:Shared} {p:Addr} {xs ys:List V} {its its':List Value} {n n':Nat} {f:Obj→Obj} (I:Inv X pins σ H s) (h:H p=some (.lst xs))
  (ho:s.heap.get? p=some { cls:=.type "list",data:=.seq its.toArray n }) (hf:f { cls:=.type "list",data:=.seq its.toArray n }={ cls:=.type "list",data:=.seq its'.toArray n' }) (r:Vals ys its') (hz:ys.length≤sizeLine) (t:Nat) :
  Inv X pins σ (AA H p (.lst ys)) { s with heap:=s.heap.update p f,toks:=t }:=by
 have e:(s.heap.update p f).get? p=some { cls:=.type "list",data:=.seq its'.toArray n' }:=by
  rw[Heap.get?_update_self f ho (by rw[hf]<;>rfl),hf]
 refine I.write (x:=p) (e:=p) (by rw[h];trivial) (.inl rfl) (fun b u hb q=>(Heap.get?_update_other _ _ (Ne.symm hb)).trans q) ⟨_,e⟩ ?_
 exact⟨hz,its',n',r,e⟩
def Qv:V→V→V→Hp→(Hp→Prop)→Prop:=fun o i v H Q=>∃p xs k j,o= .ref p∧i= .int k∧H p=some (.lst xs)∧MO xs.length k=some j∧Q (AA H p (.lst (xs.set j v)))
theorem Ma:Qx X Qv:=by
 intro pins s σ H o i v ov iv u Q I ro ri rv h
 obtain⟨p,xs,k,j,rfl,rfl,hp,hj,q⟩:=h
 cases ro
 obtain⟨t,rfl⟩:=ri
 obtain⟨its,n,r,ho,hz⟩:=I.lst hp
 obtain⟨h1,h2,h3,h4⟩:=Kv hj
 have hl:=r.length
 have hn:=FA
 have I':Inv X pins σ (AA H p (.lst (xs.set j v))) { s with heap:=s.heap.update p (Obj.mapSeq (·.setIfInBounds j u)) }:=
  I.lstUpd hp ho (J0 its n j u) (r.set rv j) (by rw[List.length_set];exact hz) s.toks
 by_cases h0:0≤k
 ·have hk:k.toNat=j:=by
   rw[seqIndex_of h0 h4] at h1
   exact Option.some.inj h1
  exact PySem.W.ki_setAt ho h0 (by omega) (by rw[List.size_toArray,←hl];exact h4) (by rw[hk];exact⟨_,I',q⟩)
 ·have hk:(k+(its.toArray.size:Int)).toNat=j:=by
   rw[seqIndex_neg (by omega) h3] at h1
   rw[List.size_toArray,←hl]
   exact Option.some.inj h1
  exact PySem.W.ki_setBack ho (by omega) (by rw[List.size_toArray,←hl];exact h3) (by omega) (by rw[hk];exact⟨_,I',q⟩)
theorem HP (lo hi:Option Int) (n:Nat):(sliceBounds lo hi none n).1=((HT.sIx n 0 lo:Nat):Int)∧(sliceBounds lo hi none n).2.1=((HT.sIx n n hi:Nat):Int)∧(sliceBounds lo hi none n).2.2=1:=by
 refine⟨?_,?_,rfl⟩
 ·cases lo with
  | none=>simp[sliceBounds,HT.sIx]
  | some i=>
   simp only[sliceBounds,HT.sIx,Option.getD_none,show (1:Int)>0 by decide,if_true]
   by_cases h:i<0
   ·simp only[h,if_true]<;>omega
   ·simp only[h,if_false]<;>omega
 ·cases hi with
  | none=>simp[sliceBounds,HT.sIx]
  | some i=>
   simp only[sliceBounds,HT.sIx,Option.getD_none,show (1:Int)>0 by decide,if_true]
   by_cases h:i<0
   ·simp only[h,if_true]<;>omega
   ·simp only[h,if_false]<;>omega
theorem FY (its:List Value) (lo hi:Option Int):slicePick its.toArray lo hi none=((its.drop (HT.sIx its.length 0 lo)).take (HT.sIx its.length its.length hi-HT.sIx its.length 0 lo)).toArray:=by
 obtain⟨h1,h2,h3⟩:=HP lo hi its.toArray.size
 unfold slicePick
 rw[h1,h2,h3]
 simp only[sliceRange_one,pick_run,List.size_toArray]<;>rfl
def Rb (K:PySem.W.Frag):V→Option Int→Option Int→Hp→VK→Prop:=fun x lo hi H Q=>∃a xs,x= .ref a∧SqL K H a xs∧∀p,H p=none→Q (.ref p) (AA H p (.lst (Ed xs lo hi)))
theorem Hq:RE X (Rb X.K):=by
 intro pins s σ H x v vl vu lo hi sl Q I rx hs pl pu h
 obtain⟨a,xs,rfl,hx,q⟩:=h
 cases rx
 obtain⟨its,r,ht,hz⟩:=I.list hx
 have hlen:=r.length
 refine⟨"list",_,slot_list_getitem.lookup,ht.isList.typeIs,?_⟩
 refine wpAny_getItem_list_slice ht.isList hs pl pu .none (by simp) ?_ (by rw[List.size_toArray]<;>omega)
 rw[FY,←hlen]
 refine⟨.ref s.heap.objs.size,_,I.laid (t':=s.toks) (o:=.lst (Ed xs lo hi)) (fun b ob q=>Heap.get?_push_of_some _ q) (Nat.le_refl _) ?_,rfl,q _ (I.hok.fresh (Nat.le_refl _))⟩
 exact⟨Nat.le_trans (E2 xs lo hi) hz,_,0,(r.drop (HT.sIx xs.length 0 lo)).take (HT.sIx xs.length xs.length hi-HT.sIx xs.length 0 lo),Heap.get?_push_size _ rfl⟩
def Ec:V→Bool
 | .non=>true
 | .bl _=>true
 | .int _=>true
 | .str _=>true
 | _=>false
def NQ:V→V→Bool
 | .non,.non=>true
 | .bl a,.bl b=>a == b
 | .bl a,.int b=>(if a then 1 else 0) == b
 | .int a,.bl b=>a == (if b then 1 else 0)
 | .int a,.int b=>a == b
 | .str a,.str b=>a == b
 | _,_=>false
theorem Qc {A:Around} {s:Shared} {y x:V} {u v:Value} (ry:RelV y u) (rx:RelV x v) (fy:Ec y=true) (fx:Ec x=true):SeqAt.EqAt A s u v (NQ y x):=by
 cases y with
 | non=>
  cases ry
  cases x with
  | non=>cases rx;exact SeqAt.EqAt.same _
  | bl b=>cases rx;exact SeqAt.EqAt.none_bool b
  | int b=>obtain⟨t,rfl⟩:=rx;exact SeqAt.EqAt.none_int b t
  | str b=>obtain⟨t,rfl⟩:=rx;exact SeqAt.EqAt.none_str b t
  | _=>exact absurd (show false=true from fx) Bool.false_ne_true
 | bl a=>
  cases ry
  cases x with
  | non=>cases rx;exact SeqAt.EqAt.bool_none a
  | bl b=>cases rx;exact SeqAt.EqAt.bool_bool a b
  | int b=>obtain⟨t,rfl⟩:=rx;exact SeqAt.EqAt.bool_int a b t
  | str b=>obtain⟨t,rfl⟩:=rx;exact SeqAt.EqAt.bool_str a b t
  | _=>exact absurd (show false=true from fx) Bool.false_ne_true
 | int a=>
  obtain⟨t',rfl⟩:=ry
  cases x with
  | non=>cases rx;exact SeqAt.EqAt.int_none a t'
  | bl b=>cases rx;exact SeqAt.EqAt.int_bool a t' b
  | int b=>obtain⟨t,rfl⟩:=rx;exact SeqAt.EqAt.int_int a t' b t
  | str b=>obtain⟨t,rfl⟩:=rx;exact SeqAt.EqAt.int_str a t' b t
  | _=>exact absurd (show false=true from fx) Bool.false_ne_true
 | str a=>
  obtain⟨t',rfl⟩:=ry
  cases x with
  | non=>cases rx;exact SeqAt.EqAt.str_none a t'
  | bl b=>cases rx;exact SeqAt.EqAt.str_bool a t' b
  | int b=>obtain⟨t,rfl⟩:=rx;exact SeqAt.EqAt.str_int a t' b t
  | str b=>obtain⟨t,rfl⟩:=rx;exact SeqAt.EqAt.str_str a t' b t
  | _=>exact absurd (show false=true from fx) Bool.false_ne_true
 | _=>exact absurd (show false=true from fy) Bool.false_ne_true
def JA (x:V) (u:Value):Bool:=match u with
 | .none=>NQ .non x
 | .bool b=>NQ (.bl b) x
 | .int i _=>NQ (.int i) x
 | .str z _=>NQ (.str z) x
 | _=>false
theorem MQ {x y:V} {u:Value} (r:RelV y u) (f:Ec y=true):JA x u=NQ y x:=by
 cases y with
 | non=>cases r;rfl
 | bl b=>cases r;rfl
 | int i=>obtain⟨t,rfl⟩:=r;rfl
 | str z=>obtain⟨t,rfl⟩:=r;rfl
 | _=>exact absurd (show false=true from f) Bool.false_ne_true
theorem El {x:V}:∀{xs:List V} {us:List Value},Vals xs us→xs.all Ec=true→us.any (JA x)=xs.any fun y=>NQ y x
 | _,_,.nil,_=>rfl
 | y::xs,u::us,.cons r t,f=>by
  rw[List.all_cons,Bool.and_eq_true] at f
  rw[List.any_cons,List.any_cons,MQ r f.1,El t f.2]
theorem Dk {A:Around} {s:Shared} {x:V} {v:Value} (rx:RelV x v) (fx:Ec x=true):∀{xs:List V} {us:List Value},Vals xs us→xs.all Ec=true→∀u∈us,SeqAt.EqAt A s u v (JA x u)
 | _,_,.nil,_=>fun u hu=>by cases hu
 | y::xs,u::us,.cons r t,f=>fun u' hu=>by
  rw[List.all_cons,Bool.and_eq_true] at f
  rcases List.mem_cons.mp hu with rfl | hu
  ·rw[MQ r f.1];exact Qc r rx f.1 fx
  ·exact Dk rx fx t f.2 u' hu
def O7 (x:V) (xs:List V):Bool:=xs.any fun y=>NQ y x
def Re (K:PySem.W.Frag) (neg:Bool):R2:=fun x y H Q=>∃p xs,y= .ref p∧(SqL K H p xs∨SqT K H p xs)∧Ec x=true∧xs.all Ec=true∧Q (.bl (if neg then !O7 x xs else O7 x xs)) H
theorem Gr:D0 X (compareOp .In) (Re X.K false):=by
 intro pins s σ H x y v u Q I rx ry h
 obtain⟨p,xs,rfl,hq,fx,fs,q⟩:=h
 cases ry
 rcases hq with hq | hq
 ·obtain⟨its,r,pl,hz⟩:=I.list hq
  refine SeqAt.in_listAt (JA x) pl.isList (fun w hw=>Dk rx fx r fs w (by simpa using hw)) ⟨.bl _,H,I,rfl,?_⟩
  rw[show its.toArray.any (JA x)=its.any (JA x) by simp,El r fs]
  exact q
 ·obtain⟨its,r,pl,hz⟩:=I.tuple hq
  refine SeqAt.in_tupleAt (JA x) pl (fun w hw=>Dk rx fx r fs w (by simpa using hw)) ⟨.bl _,H,I,rfl,?_⟩
  rw[show its.toArray.any (JA x)=its.any (JA x) by simp,El r fs]
  exact q
theorem Ee:D0 X (compareOp .NotIn) (Re X.K true):=by
 intro pins s σ H x y v u Q I rx ry h
 obtain⟨p,xs,rfl,hq,fx,fs,q⟩:=h
 cases ry
 rcases hq with hq | hq
 ·obtain⟨its,r,pl,hz⟩:=I.list hq
  refine SeqAt.notIn_listAt (JA x) pl.isList (fun w hw=>Dk rx fx r fs w (by simpa using hw)) ⟨.bl _,H,I,rfl,?_⟩
  rw[show its.toArray.any (JA x)=its.any (JA x) by simp,El r fs]
  exact q
 ·obtain⟨its,r,pl,hz⟩:=I.tuple hq
  refine SeqAt.notIn_tupleAt (JA x) pl (fun w hw=>Dk rx fx r fs w (by simpa using hw)) ⟨.bl _,H,I,rfl,?_⟩
  rw[show its.toArray.any (JA x)=its.any (JA x) by simp,El r fs]
  exact q
theorem Aw:BK X (.builtin "len") (fun xs H Q=>∃p ys,xs=[.ref p]∧(SqL X.K H p ys∨SqT X.K H p ys)∧Q (.int ys.length) H):=by
 intro pins s σ H xs us Q I r h
 obtain⟨p,ys,rfl,hq,q⟩:=h
 obtain⟨u,rfl,rx⟩:=Dd r
 cases rx
 have hn:=FA
 rcases hq with hq | hq
 ·obtain⟨its,r',pl,hz⟩:=I.list hq
  have hlen:=r'.length
  exact Calls.call_len_list pl.isList (by simp only[List.size_toArray]<;>omega) ⟨.int ys.length,H,I.tok _,⟨s.toks+1,by rw[List.size_toArray,hlen]⟩,q⟩
 ·obtain⟨its,r',pl,hz⟩:=I.tuple hq
  have hlen:=r'.length
  exact len_tuple pl (by simp only[List.size_toArray]<;>omega) ⟨.int ys.length,H,I.tok _,⟨s.toks+1,by rw[List.size_toArray,hlen]⟩,q⟩
theorem BL:BK X (.type "list") (fun xs H Q=>∃p ys,xs=[.ref p]∧(SqL X.K H p ys∨SqT X.K H p ys)∧∀l,H l=none→Q (.ref l) (AA H l (.lst ys))):=by
 intro pins s σ H xs us Q I r h
 obtain⟨p,ys,rfl,hq,q⟩:=h
 obtain⟨u,rfl,rx⟩:=Dd r
 cases rx
 have fin:∀(its:List Value),Vals ys its→ys.length≤sizeLine→∀(h':Heap) (c':Nat),(∀b o',s.heap.get? b=some o'→h'.get? b=some o')→
   h'.get? s.heap.objs.size=some { cls:=.type "list",dict:=none,data:=.seq its.toArray c',slots:=#[] }→EP X pins σ Q (.ref s.heap.objs.size) { s with heap:=h' }:=fun its r' hz h' c' kp e=>
  ⟨.ref s.heap.objs.size,_,I.laid (t':=s.toks) kp (Nat.le_refl _) (show ObjOk X.prog X.w _ h' _ (.lst ys) from⟨hz,its,c',r',e⟩),rfl,q _ (I.hok.fresh (Nat.le_refl _))⟩
 rcases hq with hq | hq
 ·obtain⟨its,r',pl,hz⟩:=I.list hq
  have hlen:=r'.length
  obtain⟨o,ho,hc,n,hd⟩:=pl.isList
  exact call_list_seq p (.inl rfl) ho hc hd (fun h' c' kp e=>fin its r' hz h' c' kp e) (by simp only[List.size_toArray]<;>omega)
 ·obtain⟨its,r',pl,hz⟩:=I.tuple hq
  have hlen:=r'.length
  obtain⟨o,ho,hc,n,hd⟩:=pl
  exact call_list_seq p (.inr rfl) ho hc hd (fun h' c' kp e=>fin its r' hz h' c' kp e) (by simp only[List.size_toArray]<;>omega)
def RF (K:PySem.W.Frag) (T:String) (x:V) (H:Hp):Prop:=match x with
 | .str _=>T="str"
 | .int _=>T="int"
 | .ref p=>(T="list"∧∃xs,SqL K H p xs)∨(T="tuple"∧∃o,K.lookup p=some o∧o.cls= .type "tuple"∧o.dict=none)∨
   (T="dict"∧((∃kvs,H p=some (.dK kvs))∨∃kvs,H p=some (.dT kvs)))∨(T="set"∧∃S n,H p=some (.set S n))
 | _=>False
theorem NE {pins:List (Addr×Obj)} {σ:St} {H:Hp} {s:Shared} {T:String} {x:V} {v:Value} (I:Inv X pins σ H s) (r:RelV x v) (ty:RF X.K T x H) :
  s.TypeIs v T∧∀a,v= .ref a→∃ob,s.heap.get? a=some ob∧ob.dict=none:=by
 cases x with
 | str z=>
  obtain⟨t,rfl⟩:=r
  cases (show T="str" from ty)
  exact⟨typeIs_str s z t,fun _ e=>nomatch e⟩
 | int i=>
  obtain⟨t,rfl⟩:=r
  cases (show T="int" from ty)
  exact⟨typeIs_int s i t,fun _ e=>nomatch e⟩
 | ref p=>
  cases r
  rcases ty with⟨rfl,xs,hq⟩|⟨rfl,o,hk,hc,hd⟩|⟨rfl,hk⟩|⟨rfl,S,n,hk⟩
  ·obtain⟨its,_,pl,_⟩:=I.list hq
   refine⟨pl.isList.typeIs,fun a e=>?_⟩
   cases e
   obtain⟨o,n,e,c,hd,_⟩:=pl
   exact⟨o,e,hd⟩
  ·refine⟨⟨o,I.kIn p o hk,hc⟩,fun a e=>?_⟩
   cases e
   exact⟨o,I.kIn _ o hk,hd⟩
  ·have z:∃o,s.heap.get? p=some o∧o.ExactDict:=by
    rcases hk with⟨kvs,hk⟩|⟨kvs,hk⟩
    ·obtain⟨_,_,_,_,o,_,_,e,ex,_⟩:=I.hok p _ hk
     exact⟨o,e,ex⟩
    ·obtain⟨_,_,_,_,o,_,_,e,ex,_⟩:=I.hok p _ hk
     exact⟨o,e,ex⟩
   obtain⟨o,e,ex⟩:=z
   refine⟨⟨o,e,ex.1⟩,fun a e2=>?_⟩
   cases e2
   exact⟨o,e,ex.2.1⟩
  ·obtain⟨o,_,_,_,e,ex,_⟩:=I.hok p _ hk
   refine⟨⟨o,e,ex.1⟩,fun a e2=>?_⟩
   cases e2
   exact⟨o,e,ex.2.1⟩
 | _=>exact False.elim ty
def Rh (K:PySem.W.Frag) (T:String) (r:V→List V→Hp→VK→Prop) (to:TE):TE:=fun σ H Q=>to σ H fun x H1=>RF K T x H1∧r x [] H1 Q
def RZ (K:PySem.W.Frag) (T:String) (r:V→List V→Hp→VK→Prop) (to:TE) (t:TA):TE:=fun σ H Q=>to σ H fun x H1=>RF K T x H1∧t σ H1 fun xs H2=>r x xs H2 Q
variable {o e:Expr} {es:List Expr} {to:TE} {t:TA} {name:Str} {apos cpos:Pos} {T id:String} {r:V→List V→Hp→VK→Prop}
theorem B3 (pa:PlainAttrs T) (slot:Slot T name id) (hty:typeOf (.builtin id)=pure (.type "method_descriptor")) (hm:RS X id r) (ho:PE X o to)
  (hbase:attributeBase o name X.env (eval o X.env)=eval o X.env:=by rfl) (hline:(apos.endLine == cpos.line)=true:=by rfl):PE X (.Call (.Attribute o name apos) [] [] cpos) (Rh X.K T r to):=by
 intro pins s σ H Q I h
 refine wpAny_Call_method0_late hbase hline (AM (ho pins s σ H _ I h) fun v s1 ⟨x,H1,I1,r1,ty,q1⟩=>?_)
 obtain⟨h1,h2⟩:=NE I1 r1 ty
 exact⟨T,id,pa,slot,hty,h1,h2,Calls.callWith_builtin rfl (PySem.evalArgs_none (hm pins s1 σ H1 x [] v [] Q I1 r1 .nil q1))⟩
theorem Bz (pa:PlainAttrs T) (slot:Slot T name id) (hty:typeOf (.builtin id)=pure (.type "method_descriptor")) (hm:RS X id r) (ho:PE X o to) (ha:PA X (e::es) t)
  (hbase:attributeBase o name X.env (eval o X.env)=eval o X.env:=by rfl)
  (hfew:((backTo cpos (starEach (e::es) X.env)).all (fun x=>!x.1) && (backToKw cpos (keywordEach [] X.env)).all (fun x=>x.1.isSome)
   && decide ((e::es).length+([]:List Keyword).length+(if ([]:List Keyword).isEmpty then 0 else 1)<30))=true:=by rfl)
  (hline:(apos.endLine == cpos.line)=true:=by rfl) (hs:starEach (e::es) X.env=(false,eval e X.env)::starEach es X.env:=by rfl) (hplain:(backTo cpos (starEach es X.env)).any (·.1)=false:=by rfl) :
  PE X (.Call (.Attribute o name apos) (e::es) [] cpos) (RZ X.K T r to t):=by
 intro pins s σ H Q I h
 refine wpAny_Call_method_late hbase hfew hline rfl (AM (ho pins s σ H _ I h) fun v s1 ⟨x,H1,I1,r1,ty,q1⟩=>?_)
 obtain⟨h1,h2⟩:=NE I1 r1 ty
 refine⟨T,id,pa,slot,hty,h1,h2,?_⟩
 have hA:=ha cpos pins s1 σ H1 _ I1 q1
 rw[hs] at hA ⊢
 refine Calls.callWith_builtin (by show (false || (backTo cpos (starEach es X.env)).any (·.1))=false;rw[hplain]<;>rfl) (Calls.evalArgs_plain ?_)
 exact AM hA fun us s2 ⟨vs,H2,I2,r2,q2⟩=>hm pins s2 σ H2 x vs v us Q I2 r1 r2 q2
end
end L2
namespace L2
open PySem PySem.Spec PyProof.Rows
def Q5 (X:Cx) (id:String) (r:V→List V→Hp→VK→Prop):Prop:=
 ∀(pins:List (Addr×Obj)) (s:Shared) (σ:St) (H:Hp) (x:V) (xs:List V) (v:Value) (us:List Value) (Q:VK),Inv X pins σ H s→RelV x v→Vals xs us→r x xs H Q→
  wpAny (model X.prog X.w) X.A (call (.builtin id) (v::us)) (EP X pins σ Q) X.xe s
theorem Vals.one:∀{x:V} {us:List Value},Vals [x] us→∃u,us=[u]∧RelV x u
 | _,_,.cons r .nil=>⟨_,rfl,r⟩
theorem Vals.zero:∀{us:List Value},Vals [] us→us=[]
 | _,.nil=>rfl
theorem Vals.dropLast {xs:List V} {us:List Value} (h:Vals xs us):Vals xs.dropLast us.dropLast:=by
 induction h with
 | nil=>exact .nil
 | cons r t ih=>
  cases t with
  | nil=>exact .nil
  | cons q t'=>exact .cons r ih
theorem Vals.reverse {xs:List V} {us:List Value} (h:Vals xs us):Vals xs.reverse us.reverse:=by
 induction h with
 | nil=>exact .nil
 | cons r t ih=>rw[List.reverse_cons,List.reverse_cons];exact Vals.append ih (.cons r .nil)
theorem JD {α:Type} (l:List α):l.eraseIdx (l.length-1)=l.dropLast:=by
 induction l with
 | nil=>rfl
 | cons a r ih=>
  cases r with
  | nil=>rfl
  | cons b r=>
   have e:(a::b::r).length-1=((b::r).length-1)+1:=by
    have h1:(a::b::r).length=r.length+2:=rfl
    have h2:(b::r).length=r.length+1:=rfl
    omega
   rw[e,List.eraseIdx_cons_succ,ih]
   all_goals rfl
section
variable {X:Cx} {pins:List (Addr×Obj)} {σ:St} {H:Hp} {s:Shared} {l b:Addr} {xs ys zs:List V}
theorem Inv.lset {its its':List Value} {n:Nat} {f:Array Value→Array Value} {t':Nat} (I:Inv X pins σ H s) (hH:H l=some (.lst xs))
  (e:s.heap.get? l=some { cls:=.type "list",data:=.seq its.toArray n }) (hf:f its.toArray=its'.toArray) (hv:Vals ys its') (hz:ys.length≤sizeLine) :
  Inv X pins σ (AA H l (.lst ys)) { s with heap:=s.heap.update l (Obj.mapSeq f),toks:=t' }:=by
 have q:=PySem.IsL.update e f
 rw[hf] at q
 refine I.write (x:=l) (e:=l) (by rw[hH];exact trivial) (.inl rfl) (fun b' u hb hu=>(Heap.get?_update_other s.heap (Obj.mapSeq f) (Ne.symm hb)).trans hu) ⟨_,q⟩ ?_
 exact⟨hz,its',_,hv,q⟩
theorem Inv.lnew {its:List Value} {t':Nat} (I:Inv X pins σ H s) (hv:Vals ys its) (hz:ys.length≤sizeLine) :
  Inv X pins σ (AA H s.heap.objs.size (.lst ys)) { s with heap:=s.heap.push { cls:=.type "list",data:=.seq its.toArray },toks:=t' }:=
 I.laid (fun _ _ q=>Heap.get?_push_of_some _ q) (Nat.le_refl _) ⟨hz,its,0,hv,Heap.get?_push_size _ rfl⟩
theorem Inv.fresh (I:Inv X pins σ H s):H s.heap.objs.size=none:=I.hok.fresh (Nat.le_refl _)
theorem Inv.lstM (I:Inv X pins σ H s) (hH:H l=some (.lst xs)):xs.length≤sizeLine∧∃(its:List Value) (n:Nat),Vals xs its∧xs.length=its.length∧s.heap.get? l=some { cls:=.type "list",data:=.seq its.toArray n }:=by
 obtain⟨z,its,n,r,e⟩:=I.hok l _ hH
 exact⟨z,its,n,r,r.length,e⟩
theorem NC {n:Nat} (h:n≤sizeLine):Builtin.List.listTooLong n=false:=by
 unfold Builtin.List.listTooLong
 exact decide_eq_false (by omega)
end
section
variable {X:Cx}
def OO:V→List V→Hp→VK→Prop:=fun x vs H Q=>∃l xs y,x= .ref l∧vs=[y]∧H l=some (.lst xs)∧xs.length<sizeLine∧Q .non (AA H l (.lst (xs++[y])))
theorem AN:Q5 X "list.append" OO:=by
 intro pins s σ H x vs v us Q I rx rv h
 obtain⟨l,xs,y,rfl,rfl,hH,hz,q⟩:=h
 cases rx
 obtain⟨u,rfl,ru⟩:=rv.one
 obtain⟨z,its,n,r,hl,e⟩:=I.lstM hH
 refine call_meets F.slot_list_append ⟨_,e,rfl⟩ F.entry_list_append (F.args_list_append_2 _ _) (PySem.list_append l its.toArray n u (by rw[List.size_toArray];omega)) ⟨e,?_⟩
 refine⟨.non,_,I.lset (its':=its++[u]) hH e (by simp) (r.append (.cons ru .nil)) ?_,rfl,q⟩
 rw[List.length_append,List.length_singleton]
 omega
def Oo:V→List V→Hp→VK→Prop:=fun x vs H Q=>∃l b xs zs,x= .ref l∧vs=[.ref b]∧H l=some (.lst xs)∧H b=some (.lst zs)∧xs.length+zs.length≤sizeLine∧Q .non (AA H l (.lst (xs++zs)))
theorem LD:Q5 X "list.extend" Oo:=by
 intro pins s σ H x vs v us Q I rx rv h
 obtain⟨l,b,xs,zs,rfl,rfl,hH,hB,hz,q⟩:=h
 cases rx
 obtain⟨u,rfl,ru⟩:=rv.one
 cases ru
 obtain⟨z,its,n,r,hl,e⟩:=I.lstM hH
 obtain⟨z2,its2,n2,r2,hl2,e2⟩:=I.lstM hB
 have hsz:its.toArray.size+its2.toArray.size≤sizeLine:=by rw[List.size_toArray,List.size_toArray];omega
 have hlong:¬(!its.toArray.isEmpty && Builtin.List.listTooLong (its.toArray.size+its2.toArray.size))=true:=by
  rw[NC hsz,Bool.and_false]
  exact Bool.false_ne_true
 refine call_meets F.slot_list_extend ⟨_,e,rfl⟩ F.entry_list_extend (F.args_list_extend_2 _ _)
  (AutoSeq1.list_extend_list_list_0 l its.toArray n b its2.toArray n2 hlong (by rw[List.size_toArray];omega) (by omega)) ⟨e,e2,?_⟩
 refine⟨.non,_,I.lset (its':=its++its2) hH e (by simp) (r.append r2) ?_,rfl,q⟩
 rw[List.length_append]
 omega
def Rp:V→List V→Hp→VK→Prop:=fun x vs H Q=>∃l xs y,x= .ref l∧vs=[]∧H l=some (.lst xs)∧xs[xs.length-1]? = some y∧Q y (AA H l (.lst xs.dropLast))
theorem Cr:Q5 X "list.pop" Rp:=by
 intro pins s σ H x vs v us Q I rx rv h
 obtain⟨l,xs,y,rfl,rfl,hH,hy,q⟩:=h
 cases rx
 have hus:=rv.zero
 subst hus
 obtain⟨z,its,n,r,hl,e⟩:=I.lstM hH
 obtain⟨u,hu,ru⟩:=r.get hy
 have hy':its.toArray[its.toArray.size-1]? = some u:=by
  show its.toArray[its.length-1]? = some u
  rw[←Array.getElem?_toList,←hl]
  exact hu
 refine call_meets F.slot_list_pop ⟨_,e,rfl⟩ F.entry_list_pop (F.args_list_pop_1 _) (MeetsSeq.list_pop_last l its.toArray n u hy' (by rw[List.size_toArray];omega)) ⟨e,?_⟩
 refine⟨y,_,I.lset (its':=its.dropLast) hH e ?_ r.dropLast ?_,ru,q⟩
 ·show its.toArray.eraseIdxIfInBounds (its.toArray.size-1)=its.dropLast.toArray
  rw[List.size_toArray,List.eraseIdxIfInBounds_toArray,JD]
 ·rw[List.length_dropLast]
  omega
def Nt:V→List V→Hp→VK→Prop:=fun x vs H Q=>∃l xs,x= .ref l∧vs=[]∧H l=some (.lst xs)∧Q .non (AA H l (.lst xs.reverse))
theorem Jx:Q5 X "list.reverse" Nt:=by
 intro pins s σ H x vs v us Q I rx rv h
 obtain⟨l,xs,rfl,rfl,hH,q⟩:=h
 cases rx
 have hus:=rv.zero
 subst hus
 obtain⟨z,its,n,r,hl,e⟩:=I.lstM hH
 refine call_meets F.slot_list_reverse ⟨_,e,rfl⟩ F.entry_list_reverse (F.args_list_reverse_1 _) (AutoSeq1.list_reverse_list_0 l its.toArray n (by rw[List.size_toArray];omega)) ⟨e,?_⟩
 refine⟨.non,_,I.lset (its':=its.reverse) hH e (by simp) r.reverse ?_,rfl,q⟩
 rw[List.length_reverse]
 omega
def RA:R2:=fun x y H Q=>∃l b xs zs,x= .ref l∧y= .ref b∧H l=some (.lst xs)∧H b=some (.lst zs)∧xs.length+zs.length≤sizeLine∧∀p,H p=none→Q (.ref p) (AA H p (.lst (xs++zs)))
theorem JR:D0 X (binaryOp .Add) RA:=by
 intro pins s σ H x y v u Q I rx ry h
 obtain⟨l,b,xs,zs,rfl,rfl,hH,hB,hz,q⟩:=h
 cases rx
 cases ry
 obtain⟨z,its,n,r,hl,e⟩:=I.lstM hH
 obtain⟨z2,its2,n2,r2,hl2,e2⟩:=I.lstM hB
 refine PySem.P.add_list e e2 ?_ (by rw[List.size_toArray,List.size_toArray];omega)
 have ea:its.toArray++its2.toArray=(its++its2).toArray:=by simp
 rw[ea]
 exact⟨.ref _,_,I.lnew (t':=s.toks) (r.append r2) (by rw[List.length_append];omega),rfl,q _ I.fresh⟩
end
section
variable {prog:Program} {w:World} {A:Around} {E:Value→Shared→Prop} {s:Shared}
end
section
variable {X:Cx}
end
end L2
namespace Att
open PySem PySem.W PySem.Calls PyProof.Rows
theorem E4 {P:Params} {h:Heap}:∀(ns:List Int) (vs:List Value),WellAll P h vs (ns.map WData.int)→IntsAre vs ns:=by
 intro ns
 induction ns with
 | nil=>
  intro vs w
  rw[List.map_nil] at w
  cases w
  exact .nil
 | cons n ns ih=>
  intro vs w
  rw[List.map_cons] at w
  cases w with
  | cons a b=>
   cases a
   exact .cons _ _ (ih _ b)
theorem Lj {l:OpenLaw} {n:Nat} (hn:l.most=some n) {P:Params} {h:Heap} {args:List WData} {vals:List Value}
  (hpre:l.row.toRowW.claim.pre args=true) (hwl:WellAll P h vals args) :
  ∃a vs ns,vals=[Value.ref a]∧args=[WData.list (ns.map WData.int)]∧h.get? a=some { cls:=.type "list",data:=.seq vs.toArray }∧IntsAre vs ns∧ns.length≤n:=by
 have hsh:WShape.hasAll [] args [.list .int]=true:=(pre_splitW hpre).1
 have hc:l.pre.holds [] { args:=args }=true:=(pre_splitW hpre).2
 obtain⟨d,r,rfl,h1,h2⟩:=hasAllW_cons hsh
 obtain rfl:=hasAllW_nil h2
 obtain⟨xs,rfl,h3⟩:=hasW_list h1
 obtain⟨ns,rfl⟩:=items_int h3
 have hlen:ns.length≤n:=by
  unfold OpenLaw.pre at hc
  have h4:(WTm.not (.lt (.lit (.int (n:Int))) (.len (.arg 0)))).holds [] { args:=[.list (ns.map .int)] }=true:=by
   have h4:=(holds_andW hc).1
   rw[hn] at h4
   exact h4
  have h5:=condW_of h4 (w_not (w_lt w_lit (w_len_list (w_arg rfl))))
  rw[List.length_map] at h5
  refine Nat.le_of_not_lt fun q=>?_
  have q':(n:Int)<((ns.length:Nat):Int):=by omega
  first
   | (rw[decide_eq_true q'] at h5;exact absurd h5 (by decide))
   | (simp at h5;omega)
 cases hwl with
 | cons w1 w2=>
  cases w2
  cases w1 with
  | list ho hall=>exact⟨_,_,ns,rfl,rfl,ho,E4 ns _ hall,hlen⟩
theorem LB (l:OpenLaw) (args:List WData):l.row.toRowW.claim.post args (.bool true) args=true:=
 postW_of (r:=l.row.toRowW) (X:=(true == true))
  (show WShape.has [] (.bool true) .bool=true by first | rfl | decide | simp[WShape.has,WShape.arms,WShape.armsAll])
  (show (WTm.eq .res (.lit (.bool true))).value [] { args:=args,res:=some (.bool true),after:=args }=some (.bool (true == true)) from w_eq_bool (w_res rfl) w_lit) rfl
theorem attach_call {l:OpenLaw} {n:Nat} {q:Program} {loose:List Str} {XP:(Str→Option Value)→Heap→Prop} {YP:World→Heap→Prop} {d:DefRec}
  (hn:l.most=some n) (hdf:d.params.defaults=[])
  (call:∀(w:World) (s₀ s₁:Shared) (mg mb:Str→Option Value) (fa:Addr) (o:Obj) (pm cd doc:Value) (a:Addr) (vs:List Value) (ns:List Int),
   Ground q loose [] XP w s₀ mg mb s₁.heap→YP w s₁.heap→
   s₁.heap.get? fa=some o→o.data= .func (docDef d.name d.params d.body d.scope pm cd doc)→s₁.heap.CodeRec cd d.name→mg d.name=some (.ref fa)→
   s₁.heap.get? a=some { cls:=.type "list",data:=.seq vs.toArray }→IntsAre vs ns→ns.length≤n→s₁.gens = #[]→
   codeAny (model l.prog w) callerA (.call (.ref fa) ⟨[.ref a],[]⟩) (fun r s'=>r= .ok (.ret (.bool true))∧OldK s₁.heap s'.heap∧s'.os=s₁.os∧AllBare s'.gens) s₁) :
  WalkO q loose XP YP l.row.toRowW d [] (fun f vs=>PySem.call f vs):=by
 intro w s₀ s₁ mg mb G Y fa o pm cd doc dV kV ho hd hcd hD hmg hg args vals as hpre hlay hrd hwl hlo
 obtain rfl:dV= .none:=Dflts.none hD hdf
 obtain rfl:kV= .none:=Dflts.noKw hD
 obtain⟨a,vs,ns,rfl,rfl,hobj,hints,hlen⟩:=Lj hn hpre hwl
 refine enter_call (codeAny_mono (call w s₀ s₁ mg mb fa o pm cd doc a vs ns G Y ho (fd_plain hd) hcd hmg hobj hints hlen hg) fun r s' hq=>?_)
 obtain⟨rfl,h2,h3,h4⟩:=hq
 exact⟨.inl ⟨.bool true,.bool true,[],rfl,fun _=>rfl,.bool true,LB l _,fun _=>⟨List.Pairwise.nil,fun _ hm=>(nomatch hm)⟩⟩,h2,h3,h4⟩
section
variable {prog:Program} {w:World} {A:Around} {E:Value→Shared→Prop} {s:Shared} {K:Frag}
end
end Att
namespace L2
open PySem PySem.Spec PyProof.Rows
theorem Ep:∀{vs:List Value} {ns:List Int},IntsAre vs ns→Vals (ns.map V.int) vs
 | _,_,.nil=>.nil
 | _,_,.cons n t h=>.cons ⟨t,rfl⟩ (Ep h)
def Pf (H:Hp):Prop:=∀b,H b=none∨∃o xs,H b=some (.frz o (.lst xs))
theorem Ms {P:Program} {w:World} {K:PySem.W.Frag} {mg mb:Str→Option Value} {CX:K0} {k:Nat} {fa a:Addr} {fd:FuncData} {x:Str} {sp:Sp} {s₁:Shared} {vs:List Value} {ns:List Int}
  (KX:K.In s₁.heap) (hns:s₁.heap.Ns mainGlobals mg) (hb:s₁.heap.Ns builtinsNs mb) (hbb:∀x:Str,x≠"__name__"→mb x=bootBuiltins x) (hlim:s₁.heap.NoLimit) (hg:s₁.gens = #[])
  (ha:s₁.heap.get? a=some { cls:=.type "list",data:=.seq vs.toArray }) (hi:IntsAre vs ns) (hl:ns.length≤sizeLine) (hr:Room k callerA)
  (F:∀base:Heap,K.In base→base.Ns mainGlobals mg→FnOk P w K mg base CX k fa fd [x] sp) (hbind:∀(s:Shared) (u:Value),BindsTo s fd ⟨[u],[]⟩ [(x,u)])
  (hsp:∀H:Hp,Pf H→SqL K H a (ns.map V.int)→sp [.ref a] H (fun v _=>v= .bl true) fun _ _ _=>False)
  (hCX:∀H e s',CX [] H s₁ (fun _ _ _=>False) e s'→False) :
  codeAny (model P w) callerA (.call (.ref fa) ⟨[.ref a],[]⟩) (fun r s'=>r= .ok (.ret (.bool true))∧OldK s₁.heap s'.heap∧s'.os=s₁.os∧AllBare s'.gens) s₁:=by
 have rv:=Ep hi
 have lenV:=hi.length
 have core:∀H:Hp,Pf H→SqL K H a (ns.map V.int)→HOk P w H s₁.heap→(∀b,H b≠none→b=a)→(H a≠none→K.lookup a=none)→
   codeAny (model P w) callerA (.call (.ref fa) ⟨[.ref a],[]⟩) (fun r s'=>r= .ok (.ret (.bool true))∧OldK s₁.heap s'.heap∧s'.os=s₁.os∧AllBare s'.gens) s₁:=by
  intro H hO hS hok hA hK
  have Ds:∀{b:Addr} {o:Obj},s₁.heap.get? b=some o→H b=none→(HY s₁.heap H).get? b=some o:=fun e n=>NM e n
  have noA:∀{b:Addr} {o:Obj} {es:Array DictEntry} {ep:Nat},s₁.heap.get? b=some o→o.data= .dict es ep→H b=none:=fun {b o es ep} e d=>by
   cases q:H b with
   | none=>rfl
   | some u=>
    have e':b=a:=hA b (by rw[q];simp)
    subst e'
    rw[ha] at e;cases e
    have d':Data.seq vs.toArray _=Data.dict es ep:=d
    cases d'
  have nsK:∀{b:Addr} {m:Str→Option Value},s₁.heap.Ns b m→(HY s₁.heap H).Ns b m:=fun {b m} ⟨o,es,ep,e,d,r⟩=>⟨o,es,ep,Ds e (noA e d),d,r⟩
  have hKb:K.In (HY s₁.heap H):=fun b o e=>Ds (KX b o e) (by
   cases q:H b with
   | none=>rfl
   | some u=>
    have e':b=a:=hA b (by rw[q];simp)
    subst e'
    rw[hK (by rw[q];simp)] at e;cases e)
  have hM:Mod K mg (HY s₁.heap H):=⟨hKb,nsK hns,⟨mb,nsK hb,hbb⟩,let ⟨mc,h1,h2⟩:=hlim;⟨mc,nsK h1,h2⟩⟩
  have e0:OJ P w K mg (HY s₁.heap H) callerA [] s₁ H:=⟨rfl,hM,fun b o e=>On e,Nat.le_of_eq (Lq _ _),trivial,fun b hb=>absurd (show b∈([]:List Addr) from hb) (by simp),hok,.of_eq hg⟩
  refine codeAny_mono ((F _ hKb (nsK hns)).run callerA [] s₁ H ⟨[.ref a],[]⟩ [.ref a] [.ref a] _ _ hr e0 (hbind s₁ (.ref a)) (.cons rfl .nil) (hsp H hO hS)) fun r s' h=>?_
  cases r with
  | error e=>exact (hCX H e s' h).elim
  | ok fl=>
   cases fl with
   | next=>exact False.elim h
   | brk=>exact False.elim h
   | cont=>exact False.elim h
   | ret u=>
    obtain⟨v,H',os,bare,un,hok',r',q⟩:=h
    have q':v= .bl true:=q
    subst q'
    obtain rfl:u=Value.bool true:=r'
    refine⟨rfl,OldK.of_keep fun b o e=>?_,os,bare⟩
    cases q:H b with
    | none=>exact un.keep b o e q (by intro z;exact absurd (show b∈([]:List Addr) from z) (by simp)) (by simp)
    | some u=>
     rcases hO b with z | ⟨ob,xs,z⟩
     ·rw[q] at z;cases z
     ·have z2:=un.frzs b ob _ z
      obtain⟨e1,_⟩:=hok b _ z
      obtain⟨e2,_⟩:=hok' b _ z2
      rw[e] at e1;cases e1
      exact e2
 cases hk:K.lookup a with
 | some o=>
  have e:=KX a o hk
  rw[ha] at e
  cases e
  refine core (fun _=>none) (fun _=>.inl rfl) (.inr ⟨_,vs.toArray,_,hk,rfl,rfl,rfl,by rw[List.size_toArray,lenV];exact hl,by simpa using rv⟩) (fun b u z=>by have z':(none:Option HO)=some u:=z;cases z') (fun b z=>absurd rfl z) fun z=>absurd rfl z
 | none=>
  refine core (fun b=>if b=a then some (.frz { cls:=.type "list",data:=.seq vs.toArray } (.lst (ns.map V.int))) else none) (fun b=>?_) (.inl (.inr ⟨{ cls:=.type "list",data:=.seq vs.toArray },if_pos rfl⟩)) (fun b u z=>?_) (fun b z=>?_) fun _=>hk
  ·by_cases hb:b=a
   ·exact .inr ⟨_,_,if_pos hb⟩
   ·exact .inl (if_neg hb)
  ·by_cases hb:b=a
   ·have z':=(if_pos hb).symm.trans z
    cases z'
    subst hb
    exact⟨ha,by rw[List.length_map];exact hl,vs,_,rv,ha⟩
   ·have z':=(if_neg hb).symm.trans z
    cases z'
  ·by_cases hb:b=a
   ·exact hb
   ·exact absurd (if_neg hb) z
end L2
namespace L2
open PySem PySem.Spec PyProof.Rows
theorem walk_of {l:PySem.W.OpenLaw} {n k:Nat} {q:Program} {loose:List Str} {XP:(Str→Option Value)→Heap→Prop} {YP:World→Heap→Prop} {d:DefRec} {K:Params→PySem.W.Frag} {CX:World→K0} {sp:World→Sp} {x:Str}
  (hn:l.most=some n) (hn2:n≤sizeLine) (hdf:d.params.defaults=[]) (hr:Room k callerA)
  (hY:∀(w:World) (h:Heap),YP w h→(K w.params).In h)
  (F:∀(w:World) (mg:Str→Option Value) (fa:Addr) (h:Heap),(K w.params).In h→h.Ns mainGlobals mg→mg d.name=some (.ref fa)→
   ∃fd:FuncData,(∀(s:Shared) (u:Value),BindsTo s fd ⟨[u],[]⟩ [(x,u)])∧
    ∀base:Heap,(K w.params).In base→base.Ns mainGlobals mg→FnOk l.prog w (K w.params) mg base (CX w) k fa fd [x] (sp w))
  (hsp:∀(w:World) (H:Hp) (a:Addr) (ns:List Int),ns.length≤n→Pf H→SqL (K w.params) H a (ns.map V.int)→sp w [.ref a] H (fun v _=>v= .bl true) fun _ _ _=>False)
  (hCX:∀(w:World) (H:Hp) (s:Shared) (e:Value) (s':Shared),CX w [] H s (fun _ _ _=>False) e s'→False) :
  PySem.W.WalkO q loose XP YP l.row.toRowW d [] (fun f vs=>PySem.call f vs):=by
 refine Att.attach_call hn hdf fun w s₀ s₁ mg mb fa o pm cd doc a vs ns G Y ho hd hcd hmg hobj hints hlen hg=>?_
 have KX:=hY w _ Y
 obtain⟨fd,hb,hF⟩:=F w mg fa _ KX G.T.g hmg
 exact Ms KX G.T.g G.T.b G.T.builtins G.T.nolimit hg hobj hints (Nat.le_trans hlen hn2) hr hF hb (fun H hO hS=>hsp w H a ns hlen hO hS) fun H e s'=>hCX w H s₁ e s'
end L2
namespace L2
open PySem PySem.Spec PyProof.Rows
def Ao (s:Stmt):Arguments:=match s with
 | .FunctionDef _ a _ _ _ _ _ _ _ _=>a
 | _=>{ posonlyargs:=[],args:=[],vararg:=none,kwonlyargs:=[],kw_defaults:=[],kwarg:=none,defaults:=[] }
def Al (s:Stmt):List Stmt:=match s with
 | .FunctionDef _ _ b _ _ _ _ _ _ _=>b
 | _=>[]
def Af (s:Stmt):Scope:=match s with
 | .FunctionDef _ _ _ _ _ _ sc _ _ _=>sc
 | _=>{ kind:=.function,names:=[],isGenerator:=false,isCoroutine:=false }
abbrev AO:K0:=fun _ _ _ _ _ _=>False
abbrev E0:XK:=fun _ _ _=>False
theorem Au {X:Cx}:Fr AO X E0:=fun _ _ _ _ _ _ _ h=>h.elim
structure Fun (K:PySem.W.Frag) (x qual:Str) (st:Stmt) (f:Addr) (fd:FuncData):Prop where
 ex:∃(oc:Value) (od:Option Addr) (kV doc pm:Value) (an:Option Addr) (cdv ct:Value) (osl:Array (Option Value)),
  fd=PySem.W.fnOf x qual (Ao st) (Al st) (Af st) .none kV doc pm an cdv ct∧K.lookup f=some ⟨oc,od,.func fd,osl⟩∧PySem.W.codeIn K cdv qual=true
 kp:PySem.W.keepIn K (.ref f)=true
section
variable {P:Program} {w:World} {K:PySem.W.Frag} {mg:Str→Option Value} {base:Heap}
theorem Fun.ok {x qual:Str} {st:Stmt} {f:Addr} {fd:FuncData} {N ps:List Str} {k:Nat} {sp:Sp} (F:Fun K x qual st f fd) (S:Ap N ps (Af st)) (len:∀vs H Q E,sp vs H Q E→vs.length=ps.length)
  (hbody:∀(cdv:Value) (A:Around) (outer:List Env) (s:Shared) (H:Hp) (vs:List V) (Q:VK) (E:XK),Room k (A.deeper (envOfC qual (Af st) s.heap.objs.size f cdv))→sp vs H Q E→
   ∃t,PSs (Hs AO P w K mg base N qual (Af st) f cdv A outer s H E).nox (Al st) t∧t { nx:=fun _ H'=>Q .non H',rt:=Q } (D9 N vs) H):FnOk P w K mg base AO (k+1) f fd ps sp:=by
 obtain⟨oc,od,kV,doc,pm,an,cdv,ct,osl,rfl,lk,hcd⟩:=F.ex
 refine O9 lk hcd S len fun A outer s H vs Q E hr hsp=>?_
 obtain⟨t,h,q⟩:=hbody cdv A outer s H vs Q E hr hsp
 exact⟨t,h.nox,q⟩
theorem Fun.binds {x qual:Str} {st:Stmt} {f:Addr} {fd:FuncData} {ps:List Str} (F:Fun K x qual st f fd)
  (h:∀(kV doc pm:Value) (an:Option Addr) (cdv ct:Value) (us:List Value),us.length=ps.length→bindArgs (PySem.W.fnOf x qual (Ao st) (Al st) (Af st) .none kV doc pm an cdv ct) ⟨us,[]⟩=pure (ps.zip us)):Binds K fd ps []:=by
 obtain⟨oc,od,kV,doc,pm,an,cdv,ct,osl,rfl,lk,hcd⟩:=F.ex
 exact .all (h kV doc pm an cdv ct)
theorem AB {x qual:Str} {st:Stmt} {f:Addr} {oc:Value} {od an:Option Addr} {osl:Array (Option Value)} {kV doc pm cdv ct:Value} (l:K.lookup f=some ⟨oc,od,.func (PySem.W.fnOf x qual (Ao st) (Al st) (Af st) .none kV doc pm an cdv ct),osl⟩)
  (c:PySem.W.codeIn K cdv qual=true) (k:PySem.W.keepIn K (.ref f)=true):Fun K x qual st f (PySem.W.fnOf x qual (Ao st) (Al st) (Af st) .none kV doc pm an cdv ct):=⟨⟨oc,od,kV,doc,pm,an,cdv,ct,osl,rfl,l,c⟩,k⟩
end
theorem AJ {n:Nat} (h:n≤1000):n<sizeLine:=Nat.lt_of_le_of_lt h (by decide)
section
variable {X:Cx}
theorem pv (i:Nat) {x:Str} {pos:Pos} (hN:X.N[i]? = some x:=by rfl) (hv:Rz X.env.scope x:=by first | exact Or.inl rfl | exact Or.inr (Or.inl rfl) | exact Or.inr (Or.inr rfl)) (hd:(x == ("__debug__":Str))=false:=by decide)
  (hcd:(x == ("__classdict__":Str))=false:=by decide):PE X (.Name x pos) (Mf i):=PY hN hv hd hcd
end
theorem A0 {A B:Prop} (h:B):if false=true then A else B:=by
 rw[if_neg Bool.false_ne_true]
 exact h
theorem Bx {A B:Prop} (h:A):if true=true then A else B:=by
 rw[if_pos rfl]
 exact h
theorem B2 {c A B:Prop} [Decidable c] (h1:c→A) (h2:¬c→B):if c then A else B:=by
 by_cases h:c
 ·rw[if_pos h]
  exact h1 h
 ·rw[if_neg h]
  exact h2 h
theorem Ek {c A B:Prop} [Decidable c] (hc:c) (h:B):if (!decide c)=true then A else B:=by
 rw[decide_eq_true hc]
 exact A0 h
def Same (H H':Hp):Prop:=∀b o,H b=some o→H' b=some o
theorem Same.refl (H:Hp):Same H H:=fun _ _ h=>h
theorem Same.trans {H H1 H2:Hp} (a:Same H H1) (b:Same H1 H2):Same H H2:=fun c o h=>b c o (a c o h)
theorem Same.free {H H':Hp} (e:Same H H') {l:Addr} (h:H' l=Option.none):H l=Option.none:=by
 cases q:H l with
 | none=>rfl
 | some o=>
  rw[e l o q] at h
  cases h
theorem Same.seq {K:PySem.W.Frag} {H H':Hp} {a:Addr} {xs:List V} (e:Same H H') (h:SqL K H a xs):SqL K H' a xs:=by
 rcases h with (h | ⟨o,h⟩) | h
 ·exact .inl (.inl (e _ _ h))
 ·exact .inl (.inr ⟨o,e _ _ h⟩)
 ·exact .inr h
end L2
namespace L2
open PySem PySem.Spec PyProof.Rows
section
variable {X:Cx}
theorem BG:BK X (.builtin "isinstance") (fun xs H Q=>∃x T t b,xs=[x,.ty T]∧EF X.K H x t∧PySem.W.kitOne X.K t (.type T)=some b∧Q (.bl b) H):=by
 intro pins s σ H xs us Q I r h
 obtain⟨x,T,t,b,rfl,ty,e,q⟩:=h
 obtain⟨u,w',rfl,rx,ry⟩:=O1 r
 cases ry
 exact Lh I rx ty e fun tk=>⟨.bl b,H,I.tok _,rfl,q⟩
theorem Di (K:PySem.W.Frag) (T:String):PySem.W.kitOne K (.type T) (.type T)=some true:=by
 unfold PySem.W.kitOne
 rw[if_pos (beq_self_eq_true _)]
def Q6 (K:PySem.W.Frag):R2:=fun x y H Q=>∃a b xs,x= .ref a∧y= .ref b∧SqL K H a xs∧SqL K H b []∧Q (.bl (!xs.isEmpty)) H
theorem J6 (hu:X.A.units<cLine):D0 X (compareOp .NotEq) (Q6 X.K):=by
 intro pins s σ H x y v u Q I rx ry h
 obtain⟨a,b,xs,rfl,rfl,ha,hb,q⟩:=h
 cases rx
 cases ry
 obtain⟨its,r,pl,hz⟩:=I.list ha
 obtain⟨its2,r2,pl2,hz2⟩:=I.list hb
 cases r2
 cases r with
 | nil=>exact SeqAt.RcNeAt.lists (e:=fun _=>true) pl.isList pl2.isList rfl hu (fun j h1=>absurd h1 (Nat.not_lt_zero _)) _ _ _ _ ⟨.bl false,H,I,rfl,q⟩
 | cons r1 r2=>exact SeqAt.RcNeAt.lists_lengths pl.isList pl2.isList (by simp) hu _ _ _ _ ⟨.bl true,H,I,rfl,q⟩
def Rv (K:PySem.W.Frag):R2:=fun x y H Q=>∃a b xs,x= .ref a∧y= .ref b∧SqL K H a xs∧SqL K H b []∧Q (.bl xs.isEmpty) H
theorem ER (hu:X.A.units<cLine):D0 X (compareOp .Eq) (Rv X.K):=by
 intro pins s σ H x y v u Q I rx ry h
 obtain⟨a,b,xs,rfl,rfl,ha,hb,q⟩:=h
 cases rx
 cases ry
 obtain⟨its,r,pl,hz⟩:=I.list ha
 obtain⟨its2,r2,pl2,hz2⟩:=I.list hb
 cases r2
 cases r with
 | nil=>exact SeqAt.RcAt.lists (e:=fun _=>true) pl.isList pl2.isList rfl hu (fun j h1=>absurd h1 (Nat.not_lt_zero _)) _ _ _ _ ⟨.bl true,H,I,rfl,q⟩
 | cons r1 r2=>exact SeqAt.RcAt.lists_lengths pl.isList pl2.isList (by simp) hu _ _ _ _ ⟨.bl false,H,I,rfl,q⟩
end
end L2
namespace HT2
open PySem L2
def TS (H H':Hp):Prop:=∀p xs,H p=some (.tup xs)→H' p=some (.tup xs)
theorem TS.trans {H H1 H2:Hp} (a:TS H H1) (b:TS H1 H2):TS H H2:=fun p xs e=>b p xs (a p xs e)
theorem TS.same {H H':Hp} (s:Same H H'):TS H H':=fun p xs e=>s p _ e
theorem TS.lst {H:Hp} {l:Addr} {xs:List V} {o:HO} (h:H l=some (.lst xs)):TS H (AA H l o):=fun p ys e=>by
 rw[Az (DT e h (by intro z;cases z))]
 exact e
theorem TS.new {H:Hp} {l:Addr} {o:HO} (h:H l=none):TS H (AA H l o):=fun p ys e=>by
 rw[Az (Ay e h)]
 exact e
theorem Ag {H:Hp} {p:Addr} (h:H p=none) (o:HO):Same H (AA H p o):=fun b u q=>by rw[Az (Ay q h)];exact q
theorem AD {H0 H:Hp} {p:Addr} (s:Same H0 H) (h:H0 p=none) (o:HO):Same H0 (AA H p o):=fun b u q=>by rw[Az (Ay q h)];exact s b u q
inductive Tr where
 | lt (k:Nat)
 | nt (t:Tr)
 | bn (j:Nat) (a b:Tr)
 deriving DecidableEq
def jn:Nat→Str
 | 0=>"and"
 | 1=>"or"
 | 2=>"if"
 | _=>"same"
def Tr.At (H:Hp):Tr→V→Prop
 | .lt k,v=>∃p,v= .ref p∧H p=some (.tup [.str "let",.int k])
 | .nt t,v=>∃p u,v= .ref p∧H p=some (.tup [.str "not",u])∧t.At H u
 | .bn j a b,v=>∃p x y,v= .ref p∧H p=some (.tup [.str (jn j),x,y])∧a.At H x∧b.At H y
def Tr.size:Tr→Nat
 | .lt _=>1
 | .nt t=>t.size+1
 | .bn _ a b=>a.size+b.size+1
def Tr.ok (m:Nat):Tr→Prop
 | .lt k=>k<m
 | .nt t=>t.ok m
 | .bn j a b=>j<4∧a.ok m∧b.ok m
theorem Tr.size_pos:∀t:Tr,0<t.size
 | .lt _=>Nat.one_pos
 | .nt _=>Nat.succ_pos _
 | .bn _ _ _=>Nat.succ_pos _
theorem Tr.At.keep {H H':Hp} (s:TS H H'):∀{t:Tr} {v:V},t.At H v→t.At H' v
 | .lt k,v,h=>by
  obtain⟨p,e,h⟩:=h
  exact⟨p,e,s _ _ h⟩
 | .nt t,v,h=>by
  obtain⟨p,u,e,h,q⟩:=h
  exact⟨p,u,e,s _ _ h,Tr.At.keep s q⟩
 | .bn j a b,v,h=>by
  obtain⟨p,x,y,e,h,q,r⟩:=h
  exact⟨p,x,y,e,s _ _ h,Tr.At.keep s q,Tr.At.keep s r⟩
theorem Tr.ok.mono {m n:Nat} (h:m≤n):∀{t:Tr},t.ok m→t.ok n
 | .lt k,q=>Nat.lt_of_lt_of_le q h
 | .nt t,q=>Tr.ok.mono (t:=t) h q
 | .bn j a b,q=>⟨q.1,Tr.ok.mono (t:=a) h q.2.1,Tr.ok.mono (t:=b) h q.2.2⟩
abbrev Pile (H:Hp):List V→List Tr→Prop:=Paired fun (v:V) (t:Tr)=>t.At H v
theorem Pile.keep {H H':Hp} (s:TS H H'):∀{xs:List V} {ts:List Tr},Pile H xs ts→Pile H' xs ts
 | _,_,.nil=>.nil
 | _,_,.cons r q=>.cons (Tr.At.keep s r) (Pile.keep s q)
theorem Pile.len {H:Hp}:∀{xs:List V} {ts:List Tr},Pile H xs ts→xs.length=ts.length
 | _,_,.nil=>rfl
 | _,_,.cons _ q=>congrArg (· + 1) (Pile.len q)
theorem Pile.snoc {H:Hp} {y:V} {t:Tr} (h:t.At H y):∀{xs:List V} {ts:List Tr},Pile H xs ts→Pile H (xs++[y]) (ts++[t])
 | _,_,.nil=>.cons h .nil
 | _,_,.cons r q=>.cons r (Pile.snoc h q)
theorem Pile.last {H:Hp}:∀{xs:List V} {ts:List Tr},Pile H xs ts→0<ts.length→∃xs' y ts' t,xs=xs'++[y]∧ts=ts'++[t]∧Pile H xs' ts'∧Tr.At H t y
 | _,_,.nil,h=>absurd h (Nat.lt_irrefl _)
 | _,_,.cons (a:=v) (b:=t) r .nil,_=>⟨[],v,[],t,rfl,rfl,.nil,r⟩
 | _,_,.cons (a:=v) (b:=t) r (.cons r' q'),_=>by
  obtain⟨xs',y,ts',u,e1,e2,q,a⟩:=Pile.last (Paired.cons r' q') (Nat.succ_pos _)
  exact⟨v::xs',y,t::ts',u,by rw[e1];rfl,by rw[e2];rfl,.cons r q,a⟩
def sz (ts:List Tr):Nat:=(ts.map Tr.size).sum
theorem By (ts:List Tr) (t:Tr):sz (ts++[t])=sz ts+t.size:=by
 unfold sz
 rw[List.map_append,List.sum_append]
 simp
theorem Eh (xs:List V) (y:V):(xs++[y])[(xs++[y]).length-1]? = some y:=by
 simp
theorem Qp {n:Nat} (h:n≤1000):n≤sizeLine:=Nat.le_of_lt (AJ h)
theorem Jd:2≤sizeLine:=by decide
theorem N6:3≤sizeLine:=by decide
theorem RX:4≤sizeLine:=by decide
theorem Q8:5≤sizeLine:=by decide
theorem LE:1≤sizeLine:=by decide
theorem Fi:0≤sizeLine:=by decide
def CQ:List V:=[.str "and",.str "or",.str "if",.str "same"]
theorem Je {i:Int} (h0:0≤i) (h1:i<4):Fs CQ i=some (.str (jn i.toNat)):=by
 obtain⟨n,rfl⟩:=Int.eq_ofNat_of_zero_le h0
 have hn:n<4:=by omega
 rw[Int.toNat_natCast]
 refine Aq ?_
 match n,hn with
 | 0,_=>rfl
 | 1,_=>rfl
 | 2,_=>rfl
 | 3,_=>rfl
end HT2
namespace L2
open PySem PySem.Spec PyProof.Rows
abbrev DQ:Value→Shared→Prop:=fun _ _=>False
theorem KF {α:Type} {t:Sem α} {Q:α→Shared→Prop} {M:Model} {A:Around} {E:Value→Shared→Prop} {s:Shared} (h:wpAny M A t Q DQ s):wpAny M A t Q E s:=wpAny_mono h (fun _ _ q=>q) fun _ _ z=>False.elim z
def FI (J:It) (g:TG) (tb:TS) (D:BV) (σ:St) (H:Hp):Prop:=∃W:Nat→Nat→St→Hp→Prop,(∃m,W 0 m σ H)∧∀i m σ H,W i m σ H→
 (J.stop i H∧D.nx σ H)∨(J.go i H∧∃N:St→Hp→Prop,(∀σ' H',N σ' H'→∃m',m'<m∧W (i+1) m' σ' H')∧∀x H',J.yld i H x H'→g x σ H' fun σ2 H2=>tb { D with nx:=N,ct:=N,bk:=D.nx } σ2 H2)
abbrev NS:=(Shared→Prop)→Shared→Prop
structure PB (X:Cx) (WB:NS) (tb:TS):Prop where
 mono:∀(Qa Qb:Shared→Prop) (s:Shared),(∀s,Qa s→Qb s)→WB Qa s→WB Qb s
 run:∀(pins:List (Addr×Obj)) (s:Shared) (σ:St) (H:Hp) (D:BV),Inv X pins σ H s→tb D σ H→WB (fun s'=>∃σ' H',Inv X pins σ' H' s'∧D.nx σ' H') s
def HT (X:Cx) (e:Expr) (d:Nat) (it acc:Value) (tg:Expr) (WB:NS):Prop:=∀(s:Shared) (Qd Qa:Shared→Prop),
 wpAny (model X.prog X.w) X.A (pyNext it) (fun r s1=>match r with | none=>Qd s1 | some v=>wpAny (model X.prog X.w) X.A (letOwnedTupleGo tg it v) (fun _ s2=>wpAny (model X.prog X.w) X.A (assign tg X.env v) (fun _ s3=>WB Qa s3) DQ s2) DQ s1) DQ s→
 wpAny (model X.prog X.w) X.A (compTurn e d it acc X.env) (fun fin s'=>match fin with | .done f=>f= .next∧Qd s' | .again c'=>c'= .compLoop e d it acc X.env∧Qa s') DQ s
section
variable {X:Cx} {e tg:Expr} {d:Nat} {acc:Value} {it:Addr} {WB:NS} {tb:TS} {g:TG} {J:It} {fp:List Addr} {tn:Nat→Heap→Prop} {D:BV} {pins:List (Addr×Obj)} {σ:St} {H:Hp} {s:Shared}
theorem BR (hxe:X.xe=DQ) (hc:X.calm=true) (ht:HT X e d (.ref it) acc tg WB) (hfr:(Code.compLoop e d (.ref it) acc X.env).isFrame=false) (hun:X.A.under (.compLoop e d (.ref it) acc X.env)=X.A) (hqu:(Code.compLoop e d (.ref it) acc X.env).quiet=true)
  (T:Lw X.prog X.w X.K tg J fp it tn) (hg:PG X tg g) (hb:PB X WB tb)
  (I:Inv X pins σ H s) (st:tn 0 s.heap) (f2:∀b∈fp,BM X pins H b) (h:FI J g tb D σ H) :
  codeAny (model X.prog X.w) X.A (.compLoop e d (.ref it) acc X.env) (fun r s'=>r= .ok .next∧∃σ' H',Inv X pins σ' H' s'∧D.nx σ' H') s:=by
 obtain⟨W,⟨m0,w0⟩,turn⟩:=h
 have stat:∀{H':Hp},(∀b∈fp,H' b=none)→∀b∈fp,BM X pins H' b:=fun hn b hb=>⟨hn b hb,(f2 b hb).2⟩
 refine codeAny_loop hqu (fun n s'=>∃i σ' H',Inv X pins σ' H' s'∧tn i s'.heap∧(∀b∈fp,H' b=none)∧W i n σ' H') (fun n s3 hI=>?_) m0 ⟨0,σ,H,I,st,fun b hb=>(f2 b hb).1,w0⟩
 obtain⟨i,σ3,H3,I3,st3,fr3,w3⟩:=hI
 have hden:(model X.prog X.w).den (.compLoop e d (.ref it) acc X.env)=(compTurn e d (.ref it) acc X.env).onRaise (fun x=>do noteFrame x X.env;theTreesLotGoes x):=by
  show (if (Code.compLoop e d (.ref it) acc X.env).isFrame=true then _ else _)=_
  rw[hfr]
  rfl
 rw[hun,hden]
 refine wpAny_noted (KF ?_)
 rcases turn i n σ3 H3 w3 with⟨stop,qn⟩|⟨go,N,hN,step⟩
 ·refine wpAny_mono (ht s3 (fun s'=>∃σ' H',Inv X pins σ' H' s'∧D.nx σ' H') (fun _=>False) (AM (T.done X rfl rfl rfl hc i pins s3 σ3 H3 DQ I3 (stat fr3) st3 stop) fun r s4 ⟨hr,I4⟩=>?_)) (fun fin s' q=>?_) fun _ _ z=>z
  ·subst hr
   exact⟨σ3,H3,I4,qn⟩
  ·cases fin with
   | done f=>
    obtain⟨rfl,q⟩:=q
    exact⟨rfl,q⟩
   | again c'=>exact False.elim q.2
 ·refine wpAny_mono (ht s3 (fun _=>False) (fun s'=>∃m,m<n∧∃i σ' H',Inv X pins σ' H' s'∧tn i s'.heap∧(∀b∈fp,H' b=none)∧W i m σ' H') (AM (T.item X rfl rfl rfl hc i pins s3 σ3 H3 DQ I3 (stat fr3) st3 go) fun r s4 ⟨u,hr,h4⟩=>?_)) (fun fin s' q=>?_) fun _ _ z=>z
  ·subst hr
   refine AM h4 fun _ s5 ⟨x,H5,I5,r5,y5,st5,fr5⟩=>?_
   have I5':=I5.pinned (stat fr5) (T.obj _ _ st5)
   have hgx:=hg _ s5 σ3 H5 x u _ I5' r5 (step x H5 y5)
   rw[hxe] at hgx
   refine AM hgx fun _ s6 ⟨σ6,H6,I6,q6⟩=>?_
   have again:∀{s7:Shared},(∃σ7 H7,Inv X (pins++Ft fp s5.heap) σ7 H7 s7∧N σ7 H7)→∃m,m<n∧∃i σ' H',Inv X pins σ' H' s7∧tn i s7.heap∧(∀b∈fp,H' b=none)∧W i m σ' H':=fun {s7} ⟨σ7,H7,I7,n7⟩=>by
    obtain⟨m',hm,w7⟩:=hN σ7 H7 n7
    refine⟨m',hm,i+1,σ7,H7,I7.unpinned,T.keep _ _ _ st5 fun b hb o e=>(I7.pin (b,o) (List.mem_append_right _ (List.mem_append_right _ (Cw hb e)))).1,fun b hb=>?_,w7⟩
    obtain⟨o,e,d⟩:=T.obj _ _ st5 b hb
    exact (I7.pin (b,o) (List.mem_append_right _ (List.mem_append_right _ (Cw hb e)))).2.1
   exact hb.mono _ _ s6 (fun s7 q7=>again q7) (hb.run _ s6 σ6 H6 _ I6 q6)
  ·cases fin with
   | done f=>exact False.elim q.2
   | again c'=>exact q
def Fb (ifs:List Expr) (env:Env):Sem Bool:=forIn ifs true fun c r=>if r=true then do let ok ←isTrue c env (eval c env);pure (ForInStep.yield ok) else pure (ForInStep.yield r)
def JN (X:Cx) (ifs:List Expr) (t:TT):Prop:=
 ∀(pins:List (Addr×Obj)) (s:Shared) (σ:St) (H:Hp) (Q:Bool→Hp→Prop),Inv X pins σ H s→t σ H Q→wpAny (model X.prog X.w) X.A (Fb ifs X.env) (TP X pins σ Q) X.xe s
def K9:TT:=fun _ H Q=>Q true H
theorem Bm:JN X [] K9:=fun pins s σ H Q I h=>wpAny_tests_nil ⟨H,I,h⟩
theorem Dt {c:Expr} {tc:TT} (h:PT X c tc):JN X [c] tc:=fun pins s σ H Q I q=>wpAny_tests_one (h pins s σ H Q I q)
def DY (X:Cx) (ifs:List Expr) (elt:Expr) (acc:Value):NS:=fun Qa s=>wpAny (model X.prog X.w) X.A (Fb ifs X.env) (fun ok s1=>if ok=true then wpAny (model X.prog X.w) X.A (eval elt X.env) (fun x s2=>wpAny (model X.prog X.w) X.A (call (.builtin "list.append") [acc,x]) (fun _ s3=>Qa s3) DQ s2) DQ s1 else Qa s1) DQ s
def BZ (acc:Addr) (te:TE):TS:=fun D σ H=>te σ H fun x H1=>∃xs,H1 acc=some (.lst xs)∧xs.length<sizeLine∧D.nx σ (AA H1 acc (.lst (xs++[x])))
def Cs (tc:TT) (tb:TS):TS:=fun D σ H=>tc σ H fun b H1=>if b=true then tb D σ H1 else D.nx σ H1
theorem D2 {ifs:List Expr} {elt:Expr} {ac:Addr} {tc:TT} {te:TE} (hxe:X.xe=DQ) (hi:JN X ifs tc) (he:PE X elt te):PB X (DY X ifs elt (.ref ac)) (Cs tc (BZ ac te)) where
 mono:=fun Qa Qb s hq h=>AM h fun ok s1 h1=>by
  cases ok with
  | false=>exact hq _ h1
  | true=>exact AM h1 fun x s2 h2=>AM h2 fun _ s3 h3=>hq _ h3
 run:=fun pins s σ H D I h=>by
  have h1:=hi pins s σ H _ I h
  rw[hxe] at h1
  refine AM h1 fun ok s1 ⟨H1,I1,q1⟩=>?_
  cases ok with
  | false=>exact⟨σ,H1,I1,q1⟩
  | true=>
   have q1':BZ ac te D σ H1:=q1
   have h2:=he pins s1 σ H1 _ I1 q1'
   rw[hxe] at h2
   refine AM h2 fun u s2 ⟨x,H2,I2,r2,xs,hl,hz,q2⟩=>?_
   have h3:=AN (X:=X) pins s2 σ H2 (.ref ac) [x] (.ref ac) [u] (fun _ H'=>D.nx σ H') I2 rfl (.cons r2 .nil) ⟨ac,xs,x,rfl,rfl,hl,hz,q2⟩
   rw[hxe] at h3
   exact AM h3 fun _ s3 ⟨_,H3,I3,_,q3⟩=>⟨σ,H3,I3,q3⟩
theorem JF {elt iter:Expr} {ifs:List Expr} {scope:Scope} {pos:Pos} {itv:Value}:HT X (.ListComp elt [⟨tg,iter,ifs,0⟩] scope pos) 0 itv acc tg (DY X ifs elt acc):=by
 intro s Qd Qa h
 rw[compTurn_list]
 refine wpAny_bind (wpAny_standAt (wpAny_bind (AM h fun r s₁ h₁=>?_)))
 cases r with
 | none=>exact wpAny_pure ⟨rfl,h₁⟩
 | some v=>
  refine wpAny_bind (AM h₁ fun _ s2 h2=>wpAny_bind (AM h2 fun _ s3 h3=>wpAny_bind (AM h3 fun ok s4 h4=>?_)))
  cases ok with
  | false=>exact wpAny_pure ⟨rfl,h4⟩
  | true=>exact wpAny_bind (wpAny_bind (AM h4 fun x s₄ h₄=>wpAny_bind (AM h₄ fun _ s₅ h₅=>wpAny_pure (wpAny_pure ⟨rfl,h₅⟩))))
theorem Iv (elt tg0 iter0 tg iter:Expr) (ifs0 ifs:List Expr) (scope:Scope) (pos:Pos) (it acc:Value) (env:Env) :
  compTurn (.ListComp elt [⟨tg0,iter0,ifs0,0⟩,⟨tg,iter,ifs,0⟩] scope pos) 1 it acc env=(do
   standAt iter.pos
   match ←pyNext it with
   | none=>pure (.done .next)
   | some v=>
    letOwnedTupleGo tg it v
    assign tg env v
    let mut ok:=true
    for c in ifs do
     if ok then ok ←isTrue c env (eval c env)
    if ok then
     (do let _ ←call (.builtin "list.append") [acc,←eval elt env])
    again (.compLoop (.ListComp elt [⟨tg0,iter0,ifs0,0⟩,⟨tg,iter,ifs,0⟩] scope pos) 1 it acc env)):=by rfl
theorem Qo {elt tg0 iter0 iter:Expr} {ifs0 ifs:List Expr} {scope:Scope} {pos:Pos} {itv:Value}:HT X (.ListComp elt [⟨tg0,iter0,ifs0,0⟩,⟨tg,iter,ifs,0⟩] scope pos) 1 itv acc tg (DY X ifs elt acc):=by
 intro s Qd Qa h
 rw[Iv]
 refine wpAny_bind (wpAny_standAt (wpAny_bind (AM h fun r s₁ h₁=>?_)))
 cases r with
 | none=>exact wpAny_pure ⟨rfl,h₁⟩
 | some v=>
  refine wpAny_bind (AM h₁ fun _ s2 h2=>wpAny_bind (AM h2 fun _ s3 h3=>wpAny_bind (AM h3 fun ok s4 h4=>?_)))
  cases ok with
  | false=>exact wpAny_pure ⟨rfl,h4⟩
  | true=>exact wpAny_bind (wpAny_bind (AM h4 fun x s₄ h₄=>wpAny_bind (AM h₄ fun _ s₅ h₅=>wpAny_pure (wpAny_pure ⟨rfl,h₅⟩))))
theorem HW (elt tg iter tg1 iter1:Expr) (ifs ifs1:List Expr) (scope:Scope) (pos:Pos) (it acc:Value) (env:Env) :
  compTurn (.ListComp elt [⟨tg,iter,ifs,0⟩,⟨tg1,iter1,ifs1,0⟩] scope pos) 0 it acc env=(do
   standAt iter.pos
   match ←pyNext it with
   | none=>pure (.done .next)
   | some v=>
    letOwnedTupleGo tg it v
    assign tg env v
    let mut ok:=true
    for c in ifs do
     if ok then ok ←isTrue c env (eval c env)
    if ok then
     let x ←eval iter1 env
     standAt iter1.pos
     let x ←foldedSetIterable iter1 env x
     let _ ←runOwn (.compStart (.ListComp elt [⟨tg,iter,ifs,0⟩,⟨tg1,iter1,ifs1,0⟩] scope pos) 1 (←holding [x] (pyIter x)) acc env) env
    again (.compLoop (.ListComp elt [⟨tg,iter,ifs,0⟩,⟨tg1,iter1,ifs1,0⟩] scope pos) 0 it acc env)):=by rfl
def Fn (X:Cx) (ifs:List Expr) (e iter1:Expr) (acc:Value):NS:=fun Qa s=>wpAny (model X.prog X.w) X.A (Fb ifs X.env) (fun ok s1=>if ok=true then
 wpAny (model X.prog X.w) X.A (eval iter1 X.env) (fun x s2=>wpAny (model X.prog X.w) X.A (pyIter x) (fun it s3=>codeAny (model X.prog X.w) X.A (.compStart e 1 it acc X.env) (fun r s4=>r= .ok .next∧Qa s4) s3) DQ s2) DQ s1 else Qa s1) DQ s
theorem Nj {elt iter tg1 iter1:Expr} {ifs ifs1:List Expr} {scope:Scope} {pos:Pos} {itv:Value} (hs:∀x,foldedSetIterable iter1 X.env x=pure x) :
  HT X (.ListComp elt [⟨tg,iter,ifs,0⟩,⟨tg1,iter1,ifs1,0⟩] scope pos) 0 itv acc tg (Fn X ifs (.ListComp elt [⟨tg,iter,ifs,0⟩,⟨tg1,iter1,ifs1,0⟩] scope pos) iter1 acc):=by
 intro s Qd Qa h
 rw[HW]
 refine wpAny_bind (wpAny_standAt (wpAny_bind (AM h fun r s₁ h₁=>?_)))
 cases r with
 | none=>exact wpAny_pure ⟨rfl,h₁⟩
 | some v=>
  refine wpAny_bind (AM h₁ fun _ s2 h2=>wpAny_bind (AM h2 fun _ s3 h3=>wpAny_bind (AM h3 fun ok s4 h4=>?_)))
  cases ok with
  | false=>exact wpAny_pure ⟨rfl,h4⟩
  | true=>
   refine wpAny_bind (AM h4 fun x s₄ h₄=>wpAny_bind (wpAny_standAt (wpAny_bind (wpAny_of_eq (hs x) (wpAny_bind (wpAny_holding (AM h₄ fun it s₅ h₅=>?_)))))))
   refine wpAny_bind (wpAny_runOwn (codeAny_mono h₅ fun r s₆ h₆=>?_))
   obtain⟨rfl,h₆⟩:=h₆
   exact wpAny_pure ⟨rfl,h₆⟩
theorem BA {itv:Value} {R:Result→Shared→Prop} (hcl:((clausesOf e)[d]?).elim false (·.is_async != 0)=false) (hfr:(Code.compStart e d itv acc X.env).isFrame=false) (hun:X.A.under (.compStart e d itv acc X.env)=X.A)
  (hqu:∀it',(Code.compLoop e d it' acc X.env).quiet=true) (hposR:True)
  (h0:codeAny (model X.prog X.w) X.A (.compLoop e d itv acc X.env) R s)
  (h:wpAny (model X.prog X.w) X.A (pyIter itv) (fun it' s'=>codeAny (model X.prog X.w) X.A (.compLoop e d it' acc X.env) R s') DQ s) :
  codeAny (model X.prog X.w) X.A (.compStart e d itv acc X.env) R s:=by
 refine codeAny_of_tree ?_
 have hden:(model X.prog X.w).den (.compStart e d itv acc X.env)=(compStart e d itv acc X.env).onRaise (fun x=>do noteFrame x X.env;standAt theWindowsPlace):=by
  show (if (Code.compStart e d itv acc X.env).isFrame=true then _ else _)=_
  rw[hfr]
  rfl
 rw[hun,hden]
 refine wpAny_notedAt (KF ?_)
 unfold compStart
 rw[hcl]
 show wpAny _ _ (ask >>= _) _ _ s
 refine wpAny_bind (wpAny_askSetting (wpAny_ite ?_))
 split
 ·first
   | exact wpAny_bind (wpAny_pure (wpAny_pure (And.intro (hqu _) h0)))
   | exact wpAny_pure (And.intro (hqu _) h0)
 ·refine wpAny_bind (wpAny_rule ?_)
  cases hg:(clausesOf e)[d]? with
  | none=>exact wpAny_bind (AM h fun it' s' h'=>wpAny_pure (And.intro (hqu _) h'))
  | some g'=>exact wpAny_bind (wpAny_standAt (wpAny_bind (AM h fun it' s' h'=>wpAny_pure (And.intro (hqu _) h'))))
theorem Mb {elt iter tg1 iter1:Expr} {ifs ifs1:List Expr} {scope:Scope} {pos:Pos} {ac:Addr} {tc:TT} {wi1:TI} {g1:TG} {tb1:TS} (hxe:X.xe=DQ) (hc:X.calm=true)
  (hi:JN X ifs tc) (hI:PI X tg1 iter1 wi1) (hg1:PG X tg1 g1) (hb1:PB X (DY X ifs1 elt (.ref ac)) tb1) :
  PB X (Fn X ifs (.ListComp elt [⟨tg,iter,ifs,0⟩,⟨tg1,iter1,ifs1,0⟩] scope pos) iter1 (.ref ac)) (Cs tc (Jb wi1 g1 tb1)) where
 mono:=fun Qa Qb s hq h=>AM h fun ok s1 h1=>by
  cases ok with
  | false=>exact hq _ h1
  | true=>exact AM h1 fun x s2 h2=>AM h2 fun it s3 h3=>codeAny_mono h3 fun r s4 h4=>⟨h4.1,hq _ h4.2⟩
 run:=fun pins s σ H D I h=>by
  have h1:=hi pins s σ H _ I h
  rw[hxe] at h1
  refine AM h1 fun ok s1 ⟨H1,I1,q1⟩=>?_
  cases ok with
  | false=>exact⟨σ,H1,I1,q1⟩
  | true=>
   have q1':Jb wi1 g1 tb1 D σ H1:=q1
   have h2:=hI pins s1 σ H1 _ I1 q1'
   rw[hxe] at h2
   refine AM h2 fun u s2 h3=>AM h3 fun itv s3 h4=>?_
   obtain⟨it,fp,tn,J,H3,e,I3,T,st3,f3,hR⟩:=h4
   subst e
   have loop:=BR (e:=.ListComp elt [⟨tg,iter,ifs,0⟩,⟨tg1,iter1,ifs1,0⟩] scope pos) (d:=1) (D:=D) hxe hc Qo rfl rfl rfl T hg1 hb1 I3 st3 f3 hR
   exact BA (X:=X) rfl rfl rfl (fun _=>rfl) True.intro loop (T.self _ 0 s3 _ _ st3 loop)
end
structure CC where
 s:Shared
 H:Hp
 fp:List Addr
def Cx.cmp (X:Cx) (N:List Str) (scope:Scope) (cl:List (Str×Addr)) (c:CC):Cx:=
 { X with N:=N,s₀:=c.s,H₀:=c.H,env:=compEnvC scope cl c.s.heap.objs.size X.env,outer:=X.stack,ex:=c.fp,fn:=fun _=>false,pn:=[] }
def sub (js:List (Option Nat)) (σ:St):St:=js.map fun o=>o.bind fun j=>(σ[j]?).join
def Es (X:Cx) (N:List Str) (scope:Scope) (js:List (Option Nat)):Prop:=
 ∀(i:Nat) (x:Str) (j:Nat),N[i]? = some x→js[i]? = some (some j)→X.N[j]? = some x∧X.env.kindOf x=some .cell∧(relabel scope X.env).names.lookup x=some .cell
section
variable {X:Cx} {N:List Str} {scope:Scope} {cl:List (Str×Addr)} {js:List (Option Nat)} {pins:List (Addr×Obj)} {σ:St} {H:Hp} {s:Shared} {fp:List Addr}
theorem Inv.cmp {h':Heap} {ob:Obj} (I:Inv X pins σ H s) (hf:∀b∈fp,BM X pins H b) (hfo:∀b∈fp,b<s.heap.objs.size) (hk:scope.kind= .function)
  (hcl:∀p∈cl,X.env.cells.lookup p.1=some p.2) (hcn:∀x,((relabel scope X.env).names.lookup x=some .cell∨(relabel scope X.env).names.lookup x=some .free)→∃c,cl.lookup x=some c)
  (hsh:Es X N scope js) (hl:js.length=N.length)
  (hns:h'.Ns s.heap.objs.size (fun _=>none)) (hsb:Heap.SameBut s.heap.objs.size (s.heap.push ob) h') {t':Nat} :
  Inv (X.cmp N scope cl ⟨s,H,fp⟩) [] (sub js σ) H { s with heap:=h',toks:=t' }:=by
 have hlook:∀x c,cl.lookup x=some c→X.env.cells.lookup x=some c:=fun x c e=>hcl (x,c) (PySem.mem_of_lookup e)
 have hkeep:∀b o,s.heap.get? b=some o→h'.get? b=some o:=fun b o e=>(hsb.2 b (Nat.ne_of_lt (Heap.lt_size e))).trans (Heap.get?_push_of_some _ e)
 refine⟨⟨I.ok.mod,?_,I.ok.glob,I.ok.blt,Nat.le_refl _,fun x y c h1 h2=>I.ok.inj x y c (hlook x c h1) (hlook y c h2),fun x hx=>hcn x hx,fun x c h=>?_,I.ok.hd,I.ok.frames,.inl rfl,fun b hb=>⟨Nat.ne_of_lt (hfo b hb),fun x c e=>(hf b hb).2.2.2.2.1 x c (hlook x c e)⟩,
   I.bs,Nat.le_trans I.ok.bsz I.sz,fun b o e hb=>?_,fun b hb hs=>?_,I.stack,I.stkFree⟩,rfl,I.bare,Un.kept hkeep,⟨_,hns,fun i x v e1 e2 e3=>?_⟩,fun x c e=>?_,I.hok.fresh (Nat.le_refl _),fun x c e=>I.freeC x c (hlook x c e),fun p hp=>?_,I.hok.kept hkeep,?_⟩
 ·show (relabel scope X.env).kind= .function
  exact hk
 ·exact absurd (show false=true from h) Bool.false_ne_true
 ·rcases (hf b hb).2.2.2.1 with z | z
  ·exact I.ok.noex b o e z
  ·exact absurd (Nat.lt_of_lt_of_le (Heap.lt_size (I.ok.bs b o e).1) z) (Nat.lt_irrefl _)
 ·rcases List.mem_cons.mp (I.stkSub b hs) with z | z
  ·exact (hf b hb).2.1 z
  ·exact (hf b hb).2.2.1 z
 ·have e2':(sub js σ)[i]? = some (some v):=e2
  unfold sub at e2'
  rw[List.getElem?_map] at e2'
  cases ej:js[i]? with
  | none=>rw[ej] at e2';cases e2'
  | some o=>
   rw[ej] at e2'
   cases o with
   | none=>cases e2'
   | some j=>
    obtain⟨a1,a2,a3⟩:=hsh i x j e1 ej
    have e4:(σ[j]?).join=some v:=Option.some.inj e2'
    have e5:σ[j]? = some (some v):=by
     cases q:σ[j]? with
     | none=>rw[q] at e4;cases e4
     | some o=>
      rw[q] at e4
      have:o=some v:=e4
      rw[this]
    obtain⟨m,hn,hloc⟩:=I.loc
    obtain⟨u,r,l⟩:=hloc j x v a1 e5 (.inr (.inl a2))
    refine⟨u,r,.inr ⟨.inl a3,?_⟩⟩
    obtain⟨c,hc⟩:=hcn x (.inl a3)
    refine⟨c,hc,?_⟩
    rcases l with⟨k,_⟩|⟨_,c',hc',hcell⟩
    ·rw[k] at a2;cases a2
    ·have:c'=c:=by
      have:=hlook x c hc
      rw[hc'] at this
      exact Option.some.inj this
     subst this
     obtain⟨o,ho,hd⟩:=hcell
     exact⟨o,hkeep _ _ ho,hd⟩
 ·obtain⟨v,o,ho,hd⟩:=I.cell x c (hlook x c e)
  exact⟨v,o,hkeep _ _ ho,hd⟩
 ·exact absurd (show p∈([]:List (Addr×Obj)) from hp) (by simp)
 ·unfold sub
  rw[List.length_map]
  exact hl
theorem Inv.uncmp {σ':St} {H':Hp} {s':Shared} {h'':Heap} (I:Inv X pins σ H s) (hf:∀b∈fp,BM X pins H b) (J:Inv (X.cmp N scope cl ⟨s,H,fp⟩) [] σ' H' s') (hsb:Heap.SameBut s.heap.objs.size s'.heap h'') :
  Inv X pins σ H' { s' with heap:=h'' }:=by
 have u:Un (Fz X.stack) fp H H' s.heap s'.heap:=J.base
 have ne:∀b o,s.heap.get? b=some o→b≠s.heap.objs.size:=fun b o e=>Nat.ne_of_lt (Heap.lt_size e)
 have hfree:H' s.heap.objs.size=none:=J.free
 refine I.call' (ch:=fp) (s':={ s' with heap:=h'' }) J.os ⟨fun b o e n hb hx=>(hsb.2 b (ne b o e)).trans (u.keep b o e n hb hx),fun b o e n hb hx=>?_,u.free,fun b o e hx=>?_,u.tups,u.frzs,u.tbls⟩ (fun b ob e=>?_) J.bare fun b hb=>⟨(hf b hb).2.2.2.1,(hf b hb).2.1,(hf b hb).2.2.2.2.1,(hf b hb).2.2.2.2.2⟩
 ·obtain⟨sl,e1⟩:=u.slot b o e n hb hx
  exact⟨sl,(hsb.2 b (ne b o e)).trans e1⟩
 ·obtain⟨o',e1⟩:=u.there b o e hx
  exact⟨o',(hsb.2 b (ne b o e)).trans e1⟩
 ·refine (J.hok b ob e).stay (fun c w' hc q=>(hsb.2 c ?_).trans q) (fun _ q=>q) fun _ _ q=>q
  rintro rfl
  rcases hc with z | z
  ·rw[←z,hfree] at e;cases e
  ·rw[hfree] at z;cases z
end
def EX (wi:TI) (js:List (Option Nat)) (g:CC→TG) (tb:CC→Addr→TS):TE:=fun σ H Q=>wi σ H fun J H1=>∀(c:CC) (acc:Addr),H1 acc=none→
 FI J (g c) (tb c acc) { nx:=fun _ H'=>Q (.ref acc) H',rt:=fun _ _=>False } (sub js σ) (AA H1 acc (.lst []))
section
variable {X:Cx} {N:List Str} {scope:Scope} {cl:List (Str×Addr)} {js:List (Option Nat)} {elt tg iter:Expr} {ifs:List Expr} {rest:List Comprehension} {pos:Pos} {wi:TI} {g:CC→TG} {tb:CC→Addr→TS}
theorem Jm {WB:CC→Value→NS} (hxe:X.xe=DQ) (hc:X.calm=true) (hi:PI X tg iter wi) (hs:∀x,foldedSetIterable iter X.env x=pure x) (hclos:closureFor scope X.env=pure cl) (hk:scope.kind= .function)
  (hnames:∀x∈scope.names,x.2= .local→scope.names.lookup x.1=some .local) (hcell:∀x∈scope.names,x.2≠.cell)
  (hcl:∀p∈cl,X.env.cells.lookup p.1=some p.2) (hcn:∀x,((relabel scope X.env).names.lookup x=some .cell∨(relabel scope X.env).names.lookup x=some .free)→∃c,cl.lookup x=some c)
  (hsh:Es X N scope js) (hl:js.length=N.length)
  (ht:∀c it ac,HT (X.cmp N scope cl c) (.ListComp elt (⟨tg,iter,ifs,0⟩::rest) scope pos) 0 it ac tg (WB c ac))
  (hg:∀c,PG (X.cmp N scope cl c) tg (g c)) (hb:∀c ac,PB (X.cmp N scope cl c) (WB c (.ref ac)) (tb c ac)) :
  PE X (.ListComp elt (⟨tg,iter,ifs,0⟩::rest) scope pos) (EX wi js g tb):=by
 intro pins s σ H Q I h
 rw[eval_ListComp]
 have h0:=hi pins s σ H _ I h
 refine wpAny_comprehension_free (use:=none) (cl:=cl) rfl hs hclos hk hnames (AM h0 fun v s1 h1=>AM h1 fun itv s2 h2=>?_)
 obtain⟨it,fp,tn,J,H2,e,I2,T,st2,f2,hR⟩:=h2
 subst e
 refine wpAny_newObj_type (wpAny_newFunctionEnv hcell (by intro y hy;simp at hy) (fun h₁ hns₁ hsb₁=>?_) hk)
 dsimp only at hns₁ hsb₁ ⊢
 have I3:=I2.lnew (ys:=[]) (its:=[]) (t':=s2.toks) .nil (Nat.zero_le _)
 have fpl:∀b∈fp,b<s2.heap.objs.size:=fun b hb=>by
  obtain⟨o,e,_⟩:=T.obj 0 _ st2 b hb
  exact Heap.lt_size e
 have fpa:∀b∈fp,b≠s2.heap.objs.size:=fun b hb=>Nat.ne_of_lt (fpl b hb)
 have f3:∀b∈fp,BM X pins (AA H2 s2.heap.objs.size (.lst [])) b:=fun b hb=>⟨by rw[Az (fpa b hb)];exact (f2 b hb).1,(f2 b hb).2⟩
 have hR':=hR ⟨{ s2 with heap:=s2.heap.push { cls:=.type "list",data:=.seq ([]:List Value).toArray } },AA H2 s2.heap.objs.size (.lst []),fp⟩ s2.heap.objs.size I2.fresh
 have I4:=I3.cmp (N:=N) (cl:=cl) (js:=js) (t':=s2.toks) f3 (fun b hb=>by
  show b<(s2.heap.push _).objs.size
  rw[Heap.size_push]
  exact Nat.lt_succ_of_lt (fpl b hb)) hk hcl hcn hsh hl hns₁ hsb₁
 have st4:tn 0 h₁:=T.keep 0 _ _ st2 fun b hb o e=>(hsb₁.2 b (by
  rw[Heap.size_push]
  exact Nat.ne_of_lt (Nat.lt_succ_of_lt (fpl b hb)))).trans (Heap.get?_push_of_some _ (Heap.get?_push_of_some _ e))
 have f4:∀b∈fp,BM (X.cmp N scope cl ⟨{ s2 with heap:=s2.heap.push { cls:=.type "list",data:=.seq ([]:List Value).toArray } },AA H2 s2.heap.objs.size (.lst []),fp⟩) [] (AA H2 s2.heap.objs.size (.lst [])) b:=fun b hb=>
  ⟨(f3 b hb).1,(I4.ok.exf b hb).1,I4.ok.exfs b hb,.inl hb,(I4.ok.exf b hb).2,fun p hp=>absurd (show p∈([]:List (Addr×Obj)) from hp) (by simp)⟩
 have loop:=codeAny_mono (BR (X:=X.cmp N scope cl ⟨{ s2 with heap:=s2.heap.push { cls:=.type "list",data:=.seq ([]:List Value).toArray } },AA H2 s2.heap.objs.size (.lst []),fp⟩) (e:=.ListComp elt (⟨tg,iter,ifs,0⟩::rest) scope pos) (d:=0) (acc:=.ref s2.heap.objs.size) (pins:=[]) hxe hc (ht _ _ _) rfl rfl rfl T (hg _) (hb _ _) I4 st4 f4 hR') (R':=compPost (model X.prog X.w) X.A X.xe none (EP X pins σ Q) (.ref s2.heap.objs.size) (s2.heap.push { cls:=.type "list",data:=.seq ([]:List Value).toArray }).objs.size) (fun r s' hq=>by
  obtain⟨rfl,σ',H',J',q⟩:=hq
  obtain⟨m,hn,_⟩:=id J'.loc
  exact⟨m,hn,fun h'' hs''=>⟨.ref s2.heap.objs.size,H',I3.uncmp f3 J' hs'',rfl,q⟩⟩)
 exact BA (X:=X.cmp N scope cl ⟨{ s2 with heap:=s2.heap.push { cls:=.type "list",data:=.seq ([]:List Value).toArray } },AA H2 s2.heap.objs.size (.lst []),fp⟩) rfl rfl rfl (fun _=>rfl) True.intro loop (T.self _ 0 _ _ _ st4 loop)
end
structure CompOk (X:Cx) (N:List Str) (scope:Scope) (cl:List (Str×Addr)) (js:List (Option Nat)):Prop where
 clos:closureFor scope X.env=pure cl
 kind:scope.kind= .function
 loc:(scope.names.all fun x=>(x.2 != .local || scope.names.lookup x.1 == some .local) && x.2 != .cell)=true
 ccl:∀p∈cl,X.env.cells.lookup p.1=some p.2
 cn:((relabel scope X.env).names.all fun p=>!(p.2 == .cell || p.2 == .free) || (cl.lookup p.1).isSome)=true
 sh:((N.zip js).all fun p=>match p.2 with | none=>true | some j=>X.N[j]? == some p.1 && X.env.kindOf p.1 == some .cell && (relabel scope X.env).names.lookup p.1 == some .cell)=true
 len:js.length=N.length
section
variable {X:Cx} {N:List Str} {scope:Scope} {cl:List (Str×Addr)} {js:List (Option Nat)}
theorem CompOk.names (h:CompOk X N scope cl js):∀x∈scope.names,x.2= .local→scope.names.lookup x.1=some .local:=fun x hx e=>by
 have q:=(List.all_eq_true.mp h.loc) x hx
 rw[Bool.and_eq_true] at q
 rw[e] at q
 simpa using q.1
theorem CompOk.cell (h:CompOk X N scope cl js):∀x∈scope.names,x.2≠.cell:=fun x hx e=>by
 have q:=(List.all_eq_true.mp h.loc) x hx
 rw[Bool.and_eq_true,e] at q
 exact absurd q.2 (by decide)
theorem CompOk.hcn (h:CompOk X N scope cl js):∀x,((relabel scope X.env).names.lookup x=some .cell∨(relabel scope X.env).names.lookup x=some .free)→∃c,cl.lookup x=some c:=fun x hx=>by
 rcases hx with e | e
 ·have q:=(List.all_eq_true.mp h.cn) _ (PySem.mem_of_lookup e)
  exact Option.isSome_iff_exists.mp (by simpa using q)
 ·have q:=(List.all_eq_true.mp h.cn) _ (PySem.mem_of_lookup e)
  exact Option.isSome_iff_exists.mp (by simpa using q)
theorem CompOk.shr (h:CompOk X N scope cl js):Es X N scope js:=fun i x j e1 e2=>by
 have hm:(x,some j)∈N.zip js:=by
  have:(N.zip js)[i]? = some (x,some j):=by rw[List.getElem?_zip_eq_some];exact⟨e1,e2⟩
  exact List.mem_of_getElem? this
 have q:=(List.all_eq_true.mp h.sh) _ hm
 simp only[Bool.and_eq_true] at q
 exact⟨eq_of_beq q.1.1,eq_of_beq q.1.2,eq_of_beq q.2⟩
variable {elt tg iter tg1 iter1:Expr} {ifs ifs1:List Expr} {pos:Pos} {wi:TI} {wi1:CC→TI} {g g1:CC→TG} {tc tc1:CC→TT} {te:CC→TE}
theorem Bf (h:CompOk X N scope cl js) (hi:PI X tg iter wi) (hg:∀c,PG (X.cmp N scope cl c) tg (g c)) (hif:∀c,JN (X.cmp N scope cl c) ifs (tc c)) (he:∀c,PE (X.cmp N scope cl c) elt (te c))
  (hxe:X.xe=DQ:=by rfl) (hc:X.calm=true:=by rfl) (hs:∀x,foldedSetIterable iter X.env x=pure x:=by intro _;rfl) :
  PE X (.ListComp elt [⟨tg,iter,ifs,0⟩] scope pos) (EX wi js g fun c ac=>Cs (tc c) (BZ ac (te c))):=
 Jm (WB:=fun c ac=>DY (X.cmp N scope cl c) ifs elt ac) hxe hc hi hs h.clos h.kind h.names h.cell h.ccl h.hcn h.shr h.len (fun c it ac=>JF) hg fun c ac=>D2 hxe (hif c) (he c)
theorem Nq (h:CompOk X N scope cl js) (hi:PI X tg iter wi) (hg:∀c,PG (X.cmp N scope cl c) tg (g c)) (hif:∀c,JN (X.cmp N scope cl c) ifs (tc c))
  (hi1:∀c,PI (X.cmp N scope cl c) tg1 iter1 (wi1 c)) (hg1:∀c,PG (X.cmp N scope cl c) tg1 (g1 c)) (hif1:∀c,JN (X.cmp N scope cl c) ifs1 (tc1 c)) (he:∀c,PE (X.cmp N scope cl c) elt (te c))
  (hs1:∀c x,foldedSetIterable iter1 (X.cmp N scope cl c).env x=pure x:=by intro _ _;rfl)
  (hxe:X.xe=DQ:=by rfl) (hc:X.calm=true:=by rfl) (hs:∀x,foldedSetIterable iter X.env x=pure x:=by intro _;rfl) :
  PE X (.ListComp elt [⟨tg,iter,ifs,0⟩,⟨tg1,iter1,ifs1,0⟩] scope pos) (EX wi js g fun c ac=>Cs (tc c) (Jb (wi1 c) (g1 c) (Cs (tc1 c) (BZ ac (te c))))):=
 Jm (WB:=fun c ac=>Fn (X.cmp N scope cl c) ifs (.ListComp elt [⟨tg,iter,ifs,0⟩,⟨tg1,iter1,ifs1,0⟩] scope pos) iter1 ac) hxe hc hi hs h.clos h.kind h.names h.cell h.ccl h.hcn h.shr h.len (fun c it ac=>Nj (hs1 c)) hg
  fun c ac=>Mb hxe hc (hif c) (hi1 c) (hg1 c) (D2 hxe (hif1 c) (he c))
end
end L2
namespace L2
open PySem PySem.Spec PyProof.Rows
section
variable {X:Cx} {pins:List (Addr×Obj)} {σ:St} {H:Hp} {s:Shared} {fp:List Addr} {h':Heap}
theorem Inv.turnedL {t':Nat} (I:Inv X pins σ H s) (hf:∀b∈fp,BM X pins H b) (k:∀b o,b∉fp→s.heap.get? b=some o→h'.get? b=some o):Inv X pins σ H { s with heap:=h',toks:=t' }:=by
 have nfp:∀b u,H b=some u→b∉fp:=fun b u e z=>by rw[(hf b z).1] at e;cases e
 refine I.call' (ch:=fp) (s':={ s with heap:=h',toks:=t' }) rfl ⟨fun b o e _ _ hx=>k b o hx e,fun b o e _ _ hx=>⟨o.slots,k b o hx e⟩,fun _ _ _ n _=>n,fun b o e hx=>⟨o,k b o hx e⟩,fun _ _ q=>q,fun _ _ _ q=>q,fun _ ps q=>⟨#[],by rw[q];simp⟩⟩ (fun b u e=>?_) I.bare
  fun b hb=>⟨(hf b hb).2.2.2.1,(hf b hb).2.1,(hf b hb).2.2.2.2.1,(hf b hb).2.2.2.2.2⟩
 refine (I.hok b u e).stay (fun c v hc q=>k c v ?_ q) (fun _ q=>q) fun _ _ q=>q
 rcases hc with z | z
 ·rw[z];exact nfp b u e
 ·exact nfp c _ z
theorem Inv.turnedT {t':Nat} {T:Addr} {xs:List V} {its:List Value} (I:Inv X pins σ H s) (hf:∀b∈fp,BM X pins H b) (k:∀b o,b∉fp→s.heap.get? b=some o→h'.get? b=some o)
  (hT:s.heap.objs.size≤T) (hz:xs.length≤sizeLine) (rv:Vals xs its) (ht:IsTup h' T its.toArray):Inv X pins σ (AA H T (.tup xs)) { s with heap:=h',toks:=t' }:=by
 have nfp:∀b u,H b=some u→b∉fp:=fun b u e z=>by rw[(hf b z).1] at e;cases e
 have hn:H T=none:=I.hok.fresh hT
 refine I.call' (ch:=fp) (s':={ s with heap:=h',toks:=t' }) rfl ⟨fun b o e _ _ hx=>k b o hx e,fun b o e _ _ hx=>⟨o.slots,k b o hx e⟩,fun b o e n _=>?_,fun b o e hx=>⟨o,k b o hx e⟩,fun b q e=>?_,fun b o u e=>?_,fun b ps e=>⟨#[],?_⟩⟩ (fun b u e=>?_) I.bare
  fun b hb=>⟨(hf b hb).2.2.2.1,(hf b hb).2.1,(hf b hb).2.2.2.2.1,(hf b hb).2.2.2.2.2⟩
 ·rw[Az (Nat.ne_of_lt (Nat.lt_of_lt_of_le (Heap.lt_size e) hT))];exact n
 ·rw[Az (Ay e hn)];exact e
 ·rw[Az (Ay e hn)];exact e
 ·rw[Az (Ay e hn),e];simp
 ·by_cases hb:b=T
  ·subst hb
   rw[Ac] at e
   cases e
   exact⟨hz,its,rv,ht⟩
  ·rw[Az hb] at e
   refine (I.hok b u e).stay (fun c v hc q=>k c v ?_ q) (fun c q=>?_) fun c xs q=>?_
   ·rcases hc with z | z
    ·rw[z];exact nfp b u e
    ·exact nfp c _ z
   ·rw[Az (Ay q hn)];exact q
   ·rw[Az (Ay q hn)];exact q
end
section
variable {X:Cx} {tg:Expr}
end
end L2
namespace L2
open PySem PySem.Spec PyProof.Rows
section
variable {X:Cx}
end
end L2
namespace L2
open PySem PySem.Spec PyProof.Rows
def Pe (a:Addr):It:=
 ⟨fun i H=>∃xs x,H a=some (.lst xs)∧xs[i]? = some x,fun i H x H'=>∃T y,H T=none∧(∀xs,H a=some (.lst xs)→xs[i]? = some y)∧x= .ref T∧H'=AA H T (.tup [.int (i:Nat),y]),fun i H=>∃xs,H a=some (.lst xs)∧xs.length=i⟩
theorem Ga {a:Addr} {xs:List V} {g:TG} {tb:TS} {D:BV} {σ:St} {H:Hp} (Pv:Nat→St→Hp→Prop) (h0:Pv 0 σ H) (hl:∀i σ H,i≤xs.length→Pv i σ H→H a=some (.lst xs))
  (hs:∀i y T σ H,xs[i]? = some y→H T=none→Pv i σ H→g (.ref T) σ (AA H T (.tup [.int (i:Nat),y])) fun σ2 H2=>tb { D with nx:=Pv (i+1),ct:=Pv (i+1),bk:=D.nx } σ2 H2) (hd:∀σ H,Pv xs.length σ H→D.nx σ H):FI (Pe a) g tb D σ H:=by
 refine⟨fun i m σ H=>m=xs.length-i∧i≤xs.length∧Pv i σ H,⟨xs.length,by simp,Nat.zero_le _,h0⟩,?_⟩
 rintro i m σ H ⟨rfl,hi,p⟩
 have q:=hl i σ H hi p
 by_cases hlt:i<xs.length
 ·refine .inr ⟨⟨xs,xs[i],q,by simp[hlt]⟩,Pv (i+1),fun σ' H' p'=>⟨xs.length-(i+1),by omega,rfl,hlt,p'⟩,fun x H' y=>?_⟩
  obtain⟨T,y,hT,hy,e1,e2⟩:=y
  subst e1 e2
  exact hs i y T σ _ (hy xs q) hT p
 ·have e:i=xs.length:=by omega
  subst e
  exact .inl ⟨⟨xs,q,rfl⟩,hd σ H p⟩
theorem JW {P:Program} {w:World} {K:PySem.W.Frag} {elts:List Expr} {k:Nat} {tp:Pos} (a e it:Addr) (hei:e≠it) :
  Lw P w K (.Tuple elts k tp) (Pe a) [e,it] e (fun i h=>(∃old,IsEnum h e it i old)∧h.IsListIter it a i) where
 mem:=by simp
 obj:=fun i h st b hb=>by
  obtain⟨⟨old,he⟩,o,ho,c,d⟩:=st
  rcases List.mem_cons.mp hb with q | q
  ·subst q
   exact⟨_,he,fun v z=>by
    have z':Data.fields _=Data.cell v:=z
    cases z'⟩
  ·have q':b=it:=by simpa using q
   subst q'
   exact⟨o,ho,fun v z=>by rw[d] at z;cases z⟩
 keep:=fun i h h' st k=>by
  obtain⟨⟨old,he⟩,hi⟩:=st
  exact⟨⟨old,k e (by simp) _ he⟩,hi.at fun o e=>k it (by simp) o e⟩
 item:=by
  intro X hP hw hK hc i pins s σ H E I hf st hg
  subst hP hw hK
  obtain⟨xs,x,hq,hx⟩:=hg
  obtain⟨its,rv,p,hz⟩:=I.list (SqL.of hq)
  obtain⟨u,hu,ru⟩:=rv.get hx
  have hlen:=rv.length
  have hi:i<xs.length:=(List.getElem?_eq_some_iff.mp hx).1
  have nai:a≠it:=Ay hq (hf it (by simp)).1
  have nae:a≠e:=Ay hq (hf e (by simp)).1
  have D:=Draws.list (prog:=X.prog) (w:=X.w) (A:=X.A.in1) (I.ok.hd hc) it a nai its.toArray
  have WT:=WalksT.enumerateD (A:=X.A) D e hei (by simp[hei,nae.symm]) (by simp)
  refine WT.item i s _ _ (by simp;omega) ⟨st.1,st.2,p.isList⟩ fun T vals h1 tk hv hT htup hmid kk=>?_
  obtain⟨t',x2,hx2,rfl⟩:=hv
  have hx2':its[i]? = some x2:=by simpa using hx2
  have ex:x2=u:=by rw[hu] at hx2';exact (Option.some.inj hx2').symm
  subst ex
  have I1:Inv X pins σ (AA H T (.tup [.int (i:Nat),x])) { s with heap:=h1,toks:=tk }:=I.turnedT (its:=[.int i t',x2]) hf kk hT (by show 2≤sizeLine;decide) (.cons ⟨_,rfl⟩ (.cons ru .nil)) htup
  have nT:∀b∈[e,it],b≠T:=fun b hb z=>by
   subst z
   exact WT.apart _ _ _ hmid hb
  have hf1:∀b∈[e,it],BM X pins (AA H T (.tup [.int (i:Nat),x])) b:=fun b hb=>⟨by rw[Az (nT b hb)];exact (hf b hb).1,(hf b hb).2⟩
  refine⟨_,rfl,WT.go elts k tp i T _ _ _ hmid fun h2 st2 kk2=>?_⟩
  refine⟨.ref T,_,I1.turnedL (t':=tk) hf1 kk2,rfl,⟨T,x,I.hok.fresh hT,fun zs hzs=>?_,rfl,rfl⟩,⟨st2.1,st2.2.1⟩,fun b hb=>(hf1 b hb).1⟩
  rw[hq] at hzs
  cases hzs
  exact hx
 done:=by
  intro X hP hw hK hc i pins s σ H E I hf st hg
  subst hP hw hK
  obtain⟨xs,hq,rfl⟩:=hg
  obtain⟨its,rv,p,hz⟩:=I.list (SqL.of hq)
  have hlen:=rv.length
  have nai:a≠it:=Ay hq (hf it (by simp)).1
  have nae:a≠e:=Ay hq (hf e (by simp)).1
  have D:=Draws.list (prog:=X.prog) (w:=X.w) (A:=X.A.in1) (I.ok.hd hc) it a nai its.toArray
  have WT:=WalksT.enumerateD (A:=X.A) D e hei (by simp[hei,nae.symm]) (by simp)
  refine WT.done s _ _ ?_ fun h' tk kk=>⟨rfl,I.turnedL hf kk⟩
  have e1:its.toArray.size=xs.length:=by simp;omega
  rw[e1]
  exact⟨st.1,st.2,p.isList⟩
 self:=fun A i s Q E st h=>by
  obtain⟨⟨old,he⟩,_⟩:=st
  exact wpAny_pyIter_enum he h
section
variable {X:Cx} {tg:Expr}
def PH (ta:TA):TI:=fun σ H R=>ta σ H fun vs H1=>∃a xs,vs=[.ref a]∧H1 a=some (.lst xs)∧R (Pe a) H1
theorem IR {elts:List Expr} {k:Nat} {tp:Pos} {a:Expr} {ta:TA} {p pos:Pos} (hg:Gl X "enumerate") (hm:X.mg "enumerate"=none) (ha:PA X [a] ta) (hs:starEach [a] X.env=[(false,eval a X.env)]:=by rfl):PI X (.Tuple elts k tp) (.Call (.Name "enumerate" p) [a] [] pos) (PH ta):=by
 intro pins s σ H R I h
 refine Call_ (DU I hg hm boot_enumerate (PyProof.Rows.callWith_type1 (AM (ha pos pins s σ H _ I h) fun us s1 ⟨vs,H1,I1,r1,q1⟩=>?_) hs rfl))
 obtain⟨l,xs,e,hq,q⟩:=q1
 subst e
 cases r1 with
 | cons r rr=>
  cases rr
  cases r
  obtain⟨its,rv,pl,hz⟩:=I1.list (SqL.of hq)
  refine call_enumerate_list pl.isList fun h' he hit hsz hk=>wpAny_pyIter_enum he ?_
  have I2:Inv X pins σ H1 { s1 with heap:=h' }:=I1.kept (t':=s1.toks) hk
  have fp2:∀b∈[s1.heap.objs.size+1,s1.heap.objs.size],BM X pins H1 b:=fun b hb=>by
   have hle:s1.heap.objs.size≤b:=by
    rcases List.mem_cons.mp hb with q | q
    ·omega
    ·have:b=s1.heap.objs.size:=by simpa using q
     omega
   exact I1.fpOk hle (I1.hok.fresh hle)
  exact⟨_,_,_,_,H1,rfl,I2,JW l (s1.heap.objs.size+1) s1.heap.objs.size (Nat.succ_ne_self _),⟨⟨_,he⟩,hit⟩,fp2,q⟩
end
end L2
namespace L2
open PySem PySem.Spec PyProof.Rows
structure Stp (fr ch:List Addr) (h h':Heap):Prop where
 keep:∀b o,b∉fr→b∉ch→h.get? b=some o→h'.get? b=some o
 slot:∀b o,b∉ch→h.get? b=some o→∃sl,h'.get? b=some { o with slots:=sl }
theorem Stp.more {fr ch ch':List Addr} {h h':Heap} (x:Stp fr ch h h') (m:∀b∈ch,b∈ch'):Stp fr ch' h h':=
 ⟨fun b o hb hc=>x.keep b o hb fun z=>hc (m b z),fun b o hc=>x.slot b o fun z=>hc (m b z)⟩
theorem Stp.trans {fr ch:List Addr} {h h1 h2:Heap} (x:Stp fr ch h h1) (y:Stp fr ch h1 h2):Stp fr ch h h2:=
 ⟨fun b o hb hc e=>y.keep b o hb hc (x.keep b o hb hc e),fun b o hc e=>let ⟨_,e1⟩:=x.slot b o hc e;let ⟨sl,e2⟩:=y.slot b _ hc e1;⟨sl,e2⟩⟩
theorem Stp.hok {P:Program} {w:World} {fr ch:List Addr} {h h':Heap} {H:Hp} (x:Stp fr ch h h') (ok:HOk P w H h) (hf:∀b∈fr,H b=none) (hc:∀b∈ch,H b=none):HOk P w H h':=fun b u e=>by
 have nf:∀c v,H c=some v→c∉fr∧c∉ch:=fun c v q=>⟨(fun z=>nomatch (hf c z).symm.trans q),(fun z=>nomatch (hc c z).symm.trans q)⟩
 refine (ok b u e).stay (fun c v hb q=>?_) (fun _ q=>q) fun _ _ q=>q
 rcases hb with z | z
 ·subst z;exact x.keep c v (nf c u e).1 (nf c u e).2 q
 ·exact x.keep c v (nf c _ z).1 (nf c _ z).2 q
def OM (h:Heap) (e:Addr) (cls:Value) (dx:Option Addr) (T:Addr) (fl:Value):Prop:=
 ∃vs sl oT ts,h.get? e=some ⟨cls,dx,.fields vs,sl⟩∧vs[1]? = some (.ref T)∧T≠e∧h.get? T=some oT∧oT.data= .fields ts∧ts[3]? = some fl∧vs[2]? = some .none
section
variable {M:Model} {A:Around} {E:Value→Shared→Prop} {s:Shared} {base:Heap} {env:Env} {outer:List Env} {L e:Addr} {cls:Value} {dx:Option Addr} {vs:Array Value} {sl:Array (Option Value)} {Q:Unit→Shared→Prop}
theorem Ii {head:Value} {hadNext:Bool} (hfr:A.frames=some (env::outer)) (hl:s.heap.FunFrames base (env::outer)) (hf:env.frame=some L)
  (he:s.heap.get? e=some ⟨cls,dx,.fields vs,sl⟩) (hsz:1<vs.size) (hv2:vs[2]? = some .none) (k:∀h' T,s.heap.objs.size≤T→Stp (Fz (env::outer)) [e] s.heap h'→OM h' e cls dx T (rawInt L)→Q () { s with heap:=h' }) :
  wpAny M A (do let a ←frameOf env;let pl ←entryPlaceOf L hadNext;let b ←EntryCells.newEntry head a .none (rawInt L) .none pl;setField (.ref e) 1 b) Q E s:=by
 have nfr:e∉Fz (env::outer):=fun z=>by
  obtain⟨_,o,ho,nd⟩:=hl.mem z
  rw[he] at ho;cases ho
  exact nd vs rfl
 refine wpAny_bind (wpAny_frameOf_fun hfr hl hf fun h1 so=>wpAny_bind (wpAny_entryPlaceOf fun pl hpl=>?_))
 obtain⟨_,so1,so2⟩:=so
 unfold EntryCells.newEntry newFields
 refine wpAny_bind (wpAny_newObj_type ?_ (hpl.sizeOk5 _ _ _ _ _))
 have e1:h1.get? e=some ⟨cls,dx,.fields vs,sl⟩:=(so1 e nfr).trans he
 have e2:=Heap.get?_push_of_some (h:=h1) { cls:=.type "traceback",dict:=none,data:=.fields ([head,.ref L,.none,rawInt L,.none]++(if pl.isEmpty then List.replicate 6 Value.none else pl)).toArray } e1
 refine wpAny_setField e2 rfl hsz (k _ h1.objs.size (by omega) ?_ ?_)
 ·have other:∀b o,b∉[e]→h1.get? b=some o→∀(ob:Obj) (f:Obj→Obj),((h1.push ob).update e f).get? b=some o:=fun b o hb q ob f=>
   (Heap.get?_update_other _ _ (Ne.symm (List.ne_of_not_mem_cons hb))).trans (Heap.get?_push_of_some _ q)
  refine⟨fun b o hb hc q=>other b o hc ((so1 b hb).trans q) _ _,fun b o hc q=>?_⟩
  obtain⟨sl',z⟩:=so2 b o q
  exact⟨sl',other b _ hc z _ _⟩
 ·have ne:h1.objs.size≠e:=Nat.ne_of_gt (Heap.lt_size e1)
  refine⟨_,sl,_,_,Heap.get?_update_self _ e2 rfl,?_,ne,(Heap.get?_update_other _ _ (Ne.symm ne)).trans (Heap.get?_push_size h1 rfl),rfl,?_,?_⟩
  ·simp[hsz]
  ·rcases hpl with rfl | ⟨_,_,_,_,_,_,_,rfl⟩<;>simp
  ·rw[Array.getElem?_setIfInBounds_ne (by decide)];exact hv2
theorem Nb (hfr:A.frames=some (env::outer)) (hl:s.heap.FunFrames base (env::outer)) (hf:env.frame=some L) (he:s.heap.get? e=some ⟨cls,dx,.fields vs,sl⟩) (h1:vs[1]? = some .none) (hv2:vs[2]? = some .none)
  (k:∀h' T,s.heap.objs.size≤T→Stp (Fz (env::outer)) [e] s.heap h'→OM h' e cls dx T (rawInt L)→Q () { s with heap:=h' }):wpAny M A (noteFrame (.ref e) env) Q E s:=by
 unfold noteFrame
 simp only[hf]
 refine wpAny_bind (wpAny_field he rfl h1 ?_)
 rw[if_neg (by decide)]
 exact Ii hfr hl hf he (Array.getElem?_eq_some_iff.mp h1).1 hv2 k
theorem K2 {T:Addr} {fl fl':Value} (hF:OM s.heap e cls dx T fl):Stp [] [T] s.heap (s.heap.update T (Obj.mapFields (·.setIfInBounds 3 fl')))∧OM (s.heap.update T (Obj.mapFields (·.setIfInBounds 3 fl'))) e cls dx T fl':=by
 obtain⟨ws,sl,oT,ts,he,h1,ne,hT,hd,h3,hv2⟩:=hF
 have other:∀b o,b∉[T]→s.heap.get? b=some o→(s.heap.update T (Obj.mapFields (·.setIfInBounds 3 fl'))).get? b=some o:=fun b o hb q=>(Heap.get?_update_other _ _ (Ne.symm (List.ne_of_not_mem_cons hb))).trans q
 refine⟨⟨fun b o _ hc q=>other b o hc q,fun b o hc q=>⟨_,other b o hc q⟩⟩,ws,sl,_,_,other e _ (by simpa using Ne.symm ne) he,h1,ne,Heap.get?_update_self _ hT (Obj.isFreed_of_fields (Obj.data_mapFields hd _)),Obj.data_mapFields hd _,?_,hv2⟩
 simp[(Array.getElem?_eq_some_iff.mp h3).1]
theorem NV {T:Addr} (hfr:A.frames=some (env::outer)) (hl:s.heap.FunFrames base (env::outer)) (hf:env.frame=some L) (hF:OM s.heap e cls dx T .none)
  (k:∀h' T',s.heap.objs.size≤T'→Stp (Fz (env::outer)) [e,T] s.heap h'→OM h' e cls dx T' (rawInt L)→Q () { s with heap:=h' }):wpAny M A (noteFrame (.ref e) env) Q E s:=by
 obtain⟨S,F2⟩:=K2 (fl':=.none) hF
 obtain⟨ws,sl,oT,ts,he,h1,ne,hT,hd,h3,hv2⟩:=hF
 unfold noteFrame
 simp only[hf]
 refine wpAny_bind (wpAny_field he rfl h1 ?_)
 rw[if_pos (show (Value.ref T != Value.none)=true by simp)]
 refine wpAny_bind (wpAny_field hT hd h3 ?_)
 rw[if_neg (show ¬((Value.none == rawInt L)=true) by simp[rawInt])]
 refine wpAny_bind (wpAny_setField hT hd (Array.getElem?_eq_some_iff.mp h3).1 ?_)
 obtain⟨ws',sl',_,_,he',h1',_,_,_,_,hv2'⟩:=F2
 refine Ii hfr (hl.of_keeps fun b o q nd=>?_) hf he' (Array.getElem?_eq_some_iff.mp h1').1 hv2' fun h' T' hle S' F'=>k h' T' (by simpa using hle) ?_ F'
 ·obtain⟨sl2,z⟩:=S.slot b o (fun z=>by
   have z':b=T:=by simpa using z
   subst z'
   rw[hT] at q;cases q
   exact nd ts hd) q
  exact⟨_,z,rfl⟩
 ·refine Stp.trans (h1:=s.heap.update T (Obj.mapFields (·.setIfInBounds 3 Value.none))) ⟨fun b o _ hc q=>S.keep b o (by simp) (fun z=>hc (List.mem_cons_of_mem _ z)) q,fun b o hc q=>S.slot b o (fun z=>hc (List.mem_cons_of_mem _ z)) q⟩ (S'.more fun b hb=>?_)
  rw[List.mem_singleton.mp hb]
  exact List.mem_cons_self
theorem Qt {T:Addr} {fl:Value} (hF:OM s.heap e cls dx T fl) (k:∀h',Stp [] [T] s.heap h'→OM h' e cls dx T .none→Q () { s with heap:=h' }):wpAny M A (setFlight (.ref e) none) Q E s:=by
 obtain⟨S,F2⟩:=K2 (fl':=.none) hF
 obtain⟨ws,sl,oT,ts,he,h1,ne,hT,hd,h3,hv2⟩:=hF
 unfold setFlight
 refine wpAny_bind (wpAny_field he rfl h1 ?_)
 rw[if_pos (show (Value.ref T != Value.none)=true by simp)]
 exact wpAny_setField hT hd (Array.getElem?_eq_some_iff.mp h3).1 (k _ S F2)
end
end L2
namespace L2
open PySem PySem.Spec PyProof.Rows
def FW:List Value:=[.type "ValueError",.type "Exception",.type "BaseException",.type "object"]
structure PU (K:PySem.W.Frag) (C cT:Addr) (ini:Option Addr):Prop where
 cls:∃nm q N bs hdct sn sub ab col dd k0 k1 k2 k3 k5,K.lookup C=some (excClassObj nm q C N bs (.ref cT::FW) hdct sn sub ab col dd k0 k1 k2 k3 k5 "ValueError.__new__")∧PySem.W.nsOkIn K N=true∧
  PySem.W.nsIn K N "__init__"=some (ini.map Value.ref)
 tail:PySem.W.tailIn K FW (.ref cT::FW)=true
 kp:PySem.W.keepIn K (.ref C)=true
theorem KZ {K:PySem.W.Frag} {N:Addr} {oc:Value} {od:Option Addr} {es:Array DictEntry} {ep:Nat} {sl:Array (Option Value)} (l:K.lookup N=some ⟨oc,od,.dict es ep,sl⟩)
  (s:(es.all fun e=>match e.key with | .str _ _=>true | _=>false)=true):PySem.W.nsOkIn K N=true:=by
 unfold PySem.W.nsOkIn
 rw[l]
 exact s
theorem ML {K:PySem.W.Frag} {cT:Addr} {c0:Value} {d0:Option Addr} {cd:ClassData} {sl:Array (Option Value)} (l:K.lookup cT=some ⟨c0,d0,.cls cd,sl⟩) (o:PySem.W.nsOkIn K cd.ns=true) (n:PySem.W.nsIn K cd.ns "__init__"=some none) :
  PySem.W.tailIn K FW (.ref cT::FW)=true:=by
 have t0:PySem.W.tailIn K FW FW=true:=by
  unfold PySem.W.tailIn FW
  simp
 unfold PySem.W.tailIn
 refine Bool.or_eq_true_iff.mpr (.inr ?_)
 simp only[l,o,n,t0]
 rfl
section
variable {prog:Program} {w:World} {A:Around} {E:Value→Shared→Prop} {h:Heap} {g:Array GenState} {d:Drawn} {t:Nat} {os:OsState}
variable {nm q:Str} {C N:Addr} {bs bm:List Value} {hdct:Bool} {sn:List Str} {sub:List Value} {ab:Bool} {col:Option Bool} {dd:Option Addr} {k0 k1 k2 k3 k5:Option Value}
abbrev KE (C t:Addr) (dx:Option Addr):Obj:=⟨.ref C,dx,.fields #[.ref t,.none,.none,.none,.bool false,.none],#[]⟩
end
end L2
namespace L2
open PySem PySem.Spec PyProof.Rows
structure XAt (K:PySem.W.Frag) (C cT:Addr):Prop where
 cd:∃cd,PySem.W.clsIn K C=some cd∧cd.mro= .ref C::.ref cT::FW∧cd.hasDict=true
 sa:PySem.W.findIn K (.ref C) "__setattr__"=some (some (.builtin "object.__setattr__"))
 ga:PySem.W.findIn K (.ref C) "__getattribute__"=some (some (.builtin "BaseException.__getattribute__"))
 gn:PySem.W.findIn K (.ref C) "__getattr__"=some none
 ca:PySem.W.findIn K (.ref C) "__class__"=some (some (.builtin "object.__class__"))
 cg:PySem.W.specialIn K (.builtin "object.__class__") "__get__"=some (some (.builtin "getset_descriptor.__get__"))
 ct:PySem.W.takesIn K (.builtin "object.__class__")=some true
section
variable {prog:Program} {w:World} {A:Around} {E:Value→Shared→Prop} {s:Shared} {K:PySem.W.Frag} {C cT x t:Addr} {f:Str} {u:Value}
theorem XAt.sub {M:Model} {h:Heap} (a:XAt K C cT) (X:K.In h) (b:Value) {r:Bool} (e:(Value.ref C::.ref cT::FW).contains b=r):PySem.W.Looks M h (isSubtype (.ref C) b) r:=by
 obtain⟨cd,h1,h2,_⟩:=a.cd
 refine PySem.W.looks_mroIn X ?_
 unfold PySem.W.mroIn
 rw[h1,Option.bind_some,h2,if_neg (by simp),e]
end
end L2
namespace L2
open PySem PySem.Spec PyProof.Rows
open Builtin Builtin.ObjectAttr
section
variable {prog:Program} {w:World} {A:Around} {E:Value→Shared→Prop} {s:Shared} {K:PySem.W.Frag} {C cT x:Addr} {ox:Obj} {od:Option Obj} {name:Str} {tk:Tok} {fill expr:Bool} {v:Value}
end
end L2
namespace L2
open PySem PySem.Spec PyProof.Rows
def Jl (P:Program) (w:World):K0:=fun outer H s E e s'=>∃(a T:Addr) (cls:Value) (dx:Option Addr) (H':Hp),e= .ref a∧s'.os=s.os∧AllBare s'.gens∧Un (Fz outer) [] H H' s.heap s'.heap∧HOk P w H' s'.heap∧
 OM s'.heap a cls dx T .none∧H' a=none∧H' T=none∧s.heap.objs.size≤a∧s.heap.objs.size≤T∧E cls dx H'
theorem Un.stp {fs fr ch:List Addr} {H0 H:Hp} {h0 h h':Heap} (u:Un fs [] H0 H h0 h) (S:Stp fr ch h h') (hfr:∀b∈fr,b∈fs∨h0.objs.size≤b) (hch:∀b∈ch,h0.objs.size≤b):Un fs [] H0 H h0 h':=by
 have nc:∀b o,h0.get? b=some o→b∉ch:=fun b o e z=>absurd (Heap.lt_size e) (Nat.not_lt.mpr (hch b z))
 refine⟨fun b o e n hb hx=>S.keep b o (fun z=>?_) (nc b o e) (u.keep b o e n hb hx),fun b o e n hb hx=>?_,u.free,fun b o e hx=>?_,u.tups,u.frzs,u.tbls⟩
 ·rcases hfr b z with q | q
  ·exact hb q
  ·exact absurd (Heap.lt_size e) (Nat.not_lt.mpr q)
 ·obtain⟨sl,e1⟩:=u.slot b o e n hb hx
  obtain⟨sl2,e2⟩:=S.slot b _ (nc b o e) e1
  exact⟨sl2,e2⟩
 ·obtain⟨o1,e1⟩:=u.there b o e hx
  obtain⟨sl2,e2⟩:=S.slot b _ (nc b o e) e1
  exact⟨_,e2⟩
section
variable {P:Program} {w:World} {K:PySem.W.Frag} {mg:Str→Option Value} {base:Heap} {N:List Str} {qual:Str} {scope:Scope} {f:Addr} {cdv:Value} {A:Around} {outer:List Env} {s:Shared} {H:Hp} {E:XK}
def QM (X:Cx) (E:XK):Prop:=∀(pins:List (Addr×Obj)) (σ:St) (H':Hp) (s':Shared) (a:Addr) (cls:Value) (dx:Option Addr) (vs:Array Value) (sl:Array (Option Value)),Inv X pins σ H' s'→H' a=none→
 s'.heap.get? a=some ⟨cls,dx,.fields vs,sl⟩→(vs[1]? = some .none∧vs[2]? = some .none)→X.s₀.heap.objs.size≤a→E cls dx H'→X.xe (.ref a) s'
theorem D3:QM (Hs (Jl P w) P w K mg base N qual scope f cdv A outer s H E) E:=by
 intro pins σ H' s' a cls dx vs sl I ha he h1 hsz q
 have hfr:=I.ok.frames
 have hl:=I.stack
 have lt:s.heap.objs.size≤s'.heap.objs.size:=I.sz
 have fr2:∀b∈Fz (envOfC qual scope s.heap.objs.size f cdv::outer),b∈Fz outer∨s.heap.objs.size≤b:=fun b hb=>by
  rcases List.mem_cons.mp (I.stkSub b hb) with z | z
  ·exact .inr (by rw[z];exact I.ok.above)
  ·exact .inl z
 show wpAny _ _ (leaving _ _) _ _ _
 unfold leaving
 refine wpAny_bind (Nb hfr hl rfl he h1.1 h1.2 fun h2 T hT S F=>Qt F fun h3 S3 F3=>?_)
 have u2:=Un.stp I.base S fr2 (fun b hb=>by rw[List.mem_singleton.mp hb];exact hsz)
 have u3:=Un.stp u2 S3 (fun b hb=>absurd hb (by simp)) (fun b hb=>by rw[List.mem_singleton.mp hb];exact Nat.le_trans lt hT)
 have hTn:H' T=none:=I.hok.fresh hT
 refine⟨a,T,cls,dx,H',rfl,I.os,I.bare,u3,?_,F3,ha,hTn,hsz,Nat.le_trans lt hT,q⟩
 exact S3.hok (S.hok I.hok I.stkFree fun b hb=>by rw[List.mem_singleton.mp hb];exact ha) (fun b hb=>absurd hb (by simp)) fun b hb=>by rw[List.mem_singleton.mp hb];exact hTn
theorem Dp {E1:XK} (le:∀cls dx H',E1 cls dx H'→E cls dx H'):Fr (Jl P w) (Hs (Jl P w) P w K mg base N qual scope f cdv A outer s H E) E1:=by
 intro pins σ H1 s1 e s' I h
 obtain⟨a,T,cls,dx,H',rfl,os,bare,un,hok,F,ha,hT,la,lT,q⟩:=h
 have I2:=I.call' os un hok bare (fun b z=>absurd z (by simp))
 have lt:s.heap.objs.size≤s1.heap.objs.size:=I.sz
 have fr2:∀b∈Fz (envOfC qual scope s.heap.objs.size f cdv::outer),b∈Fz outer∨s.heap.objs.size≤b:=fun b hb=>by
  rcases List.mem_cons.mp (I2.stkSub b hb) with z | z
  ·exact .inr (by rw[z];exact I2.ok.above)
  ·exact .inl z
 show wpAny _ _ (leaving _ _) _ _ _
 unfold leaving
 refine wpAny_bind (NV I2.ok.frames I2.stack rfl F fun h2 T2 hT2 S F2=>Qt F2 fun h3 S3 F3=>?_)
 have l2:s.heap.objs.size≤T2:=Nat.le_trans I2.sz hT2
 have two:∀b∈[a,T],s.heap.objs.size≤b∧H' b=none:=fun b hb=>by
  rcases List.mem_cons.mp hb with z | z
  ·rw[z];exact⟨Nat.le_trans lt la,ha⟩
  ·rw[List.mem_singleton.mp z];exact⟨Nat.le_trans lt lT,hT⟩
 have u2:=Un.stp I2.base S fr2 (fun b hb=>(two b hb).1)
 have u3:=Un.stp u2 S3 (fun b hb=>absurd hb (by simp)) (fun b hb=>by rw[List.mem_singleton.mp hb];exact l2)
 have hTn:H' T2=none:=I2.hok.fresh hT2
 refine⟨a,T2,cls,dx,H',rfl,I2.os,I2.bare,u3,?_,F3,ha,hTn,Nat.le_trans lt la,l2,le _ _ _ q⟩
 exact S3.hok (S.hok I2.hok I2.stkFree fun b hb=>(two b hb).2) (fun b hb=>absurd hb (by simp)) fun b hb=>by rw[List.mem_singleton.mp hb];exact hTn
end
end L2
namespace L2
open PySem PySem.Spec PyProof.Rows
section
variable {X:Cx} {k:Nat} {fI C cT:Addr} {fd:FuncData} {ps:List Str} {sp:Sp} {Ex:XK} {x:Str} {p pos cpos:Pos} {e:Expr} {es:List Expr} {t:TA}
theorem JX {A:Around} {E:Value→Shared→Prop} {s:Shared} {env:Env} {M:Model} {K:PySem.W.Frag} {xs:Sem Value} {Q:Flow→Shared→Prop} (a:XAt K C cT) (ty:PySem.W.typeIn K (.ref C)=some (.type "type")) (hh:A.handled=none)
  (h:wpAny M A xs (fun v s1=>∃b tp dx,v= .ref b∧K.In s1.heap∧s1.heap.get? b=some (KE C tp dx)∧E (.ref b) s1) E s):wpAny M A (raiseStmt env (some xs) none) Q E s:=by
 unfold raiseStmt
 refine wpAny_bind (wpAny_mono h (fun v s1 h1=>?_) fun _ _ z=>z)
 obtain⟨b,tp,dx,rfl,KX,hb,q⟩:=h1
 have hb1:s1.heap.get? b=some ⟨.ref C,dx,.fields #[.ref tp,.none,.none,.none,.bool false,.none],#[]⟩:=hb
 have T0:PySem.W.Looks M s1.heap (typeOf (.ref b)) (.ref C):=(PySem.W.Looks.ld hb1).andThen .now
 have T1:PySem.W.Looks M s1.heap (isType (.ref b)) false:=by
  unfold isType loadHead
  exact (PySem.W.Looks.ld hb1).andThen .now
 have T2:PySem.W.Looks M s1.heap (isExcClass (.ref b)) false:=by
  unfold isExcClass
  exact T1.andThen .now
 have T3:PySem.W.Looks M s1.heap (isInstance (.ref b) (.type "BaseException")) true:=T0.andThen (a.sub KX _ rfl)
 have T4:PySem.W.Looks M s1.heap (excFromValue (.ref b) "exceptions must derive from BaseException") (.ref b):=by
  unfold excFromValue
  exact T2.andThen (T3.andThen .now)
 have T5:PySem.W.Looks M s1.heap (raisedInstance (.ref b)) (.ref b):=by
  unfold raisedInstance
  exact T0.andThen ((PySem.W.looks_typeIn KX ty).andThen .now)
 refine wpAny_bind (wpAny_pure (wpAny_bind (wpAny_holding (T4.here ?_))))
 refine wpAny_bind (T1.here ?_)
 refine wpAny_bind (T5.here ?_)
 refine wpAny_bind ?_
 unfold setFlight
 refine wpAny_bind (wpAny_field hb1 rfl (x:=.none) rfl ?_)
 rw[if_neg (by decide)]
 exact wpAny_pure (wpAny_raiseNew_none hh q)
end
end L2
namespace L2
open PySem PySem.Spec PyProof.Rows
section
variable {X:Cx} {C cT:Addr} {o value:Expr} {ta tv:TE} {f:Str} {pos pos':Pos}
end
end L2
namespace L2
open PySem PySem.Spec PyProof.Rows
section
variable {X:Cx} {pins:List (Addr×Obj)} {σ:St} {H:Hp} {s:Shared} {a:Addr} {oe:Obj}
end
end L2
namespace L2
open PySem PySem.Spec PyProof.Rows
section
variable {X:Cx} {pins:List (Addr×Obj)} {σ:St} {H:Hp} {s:Shared}
end
section
variable {X:Cx} {C Dc:Addr} {i:Nat} {x n:Str} {np hpos pos:Pos} {body suite:List Stmt} {b0:Stmt} {tb:XK→TS} {th:Addr→Obj→TS}
end
end L2
namespace L2
open PySem PySem.Spec PyProof.Rows
section
variable {X:Cx} {C cT:Addr} {e:Expr} {f:Str} {pos:Pos} {ta:TE}
end
end L2
namespace L2
open PySem PySem.Spec PyProof.Rows
theorem JT {K:PySem.W.Frag} {C:Addr} {T:String} {b:Bool} (hm:PySem.W.kitMeta T=true) (h:PySem.W.subIn K (.ref C) (.type T)=some b):PySem.W.kitOne K (.ref C) (.type T)=some b:=by
 unfold PySem.W.kitOne
 rw[if_neg (show ¬((Value.ref C == Value.type T)=true) by intro z;cases beq_iff_eq.mp z)]
 show (if PySem.W.kitMeta T=true then _ else _)=_
 rw[if_pos hm,h]
theorem EB {K:PySem.W.Frag} {C D:Addr} {b:Bool} (ne:(Value.ref C == Value.ref D)=false) (hc:(PySem.W.clsIn K D).isSome=true) (ht:PySem.W.typeIn K (.ref D)=some (.type "type")) (h:PySem.W.subIn K (.ref C) (.ref D)=some b):PySem.W.kitOne K (.ref C) (.ref D)=some b:=by
 unfold PySem.W.kitOne
 rw[ne,if_neg Bool.false_ne_true]
 show (if ((PySem.W.clsIn K D).isSome && PySem.W.typeIn K (.ref D) == some (.type "type"))=true then _ else _)=_
 rw[hc,ht,if_pos (by simp),h]
end L2
namespace L2
open PySem PySem.Spec PyProof.Rows
theorem NZ {K:PySem.W.Frag} {h:Heap} {N:Addr} {mg:Str→Option Value} {n:Str} (X:K.In h) (G:h.Ns N mg) (e:PySem.W.nsIn K N n=some none):mg n=none:=by
 obtain⟨o,es,ep,ho,hd,_,hf⟩:=G
 unfold PySem.W.nsIn at e
 split at e
 ·rename_i c d es2 n2 sl q
  have z:=X _ _ q
  rw[ho] at z
  cases z
  cases hd
  split at e
  ·cases e
  ·rename_i he
   rw[←hf]
   unfold nsFind findBy
   rw[←Array.find?_toList,he]
   rfl
 ·cases e
section
variable {prog:Program} {w:World} {A:Around} {E:Value→Shared→Prop} {h:Heap} {g:Array GenState} {d:Drawn} {t:Nat} {os:OsState}
variable {nm q:Str} {C N:Addr} {bs bm:List Value} {hdct:Bool} {sn:List Str} {sub:List Value} {ab:Bool} {col:Option Bool} {dd:Option Addr} {k0 k1 k2 k3 k5:Option Value}
theorem Kg {mN:Str→Option Value} {us:List Value} {Q:Fin→Shared→Prop} {A2:Around} (T:OwnTail h FW bm)
  (hC:h.get? C=some (excClassObj nm q C N bs bm hdct sn sub ab col dd k0 k1 k2 k3 k5 "ValueError.__new__")) (hn:h.Ns N mN) (hi:mN "__init__"=none) (hu:us.length≤sizeLine)
  (k:∀h',(∀b o,h.get? b=some o→h'.get? b=some o)→h'.get? (h.objs.size+1)=some (KE C (h.objs.size+2) none)→Q (.done (.ret (.ref (h.objs.size+1)))) ⟨h',g,d,t,os⟩) :
  wpAny (model prog w) A2 (Builtin.«type.__call__» ⟨.ref C::us,[]⟩) Q E ⟨h,g,d,t,os⟩:=by
 have VF:=PySem.F.excBase_ValueError
 repeat (first | with_reducible refine wpAny_madeBy_exc hC ?_ | with_reducible refine wpAny_loadPart_at hC ?_ | wp_step)
 refine codeAny_call_builtin_code (Code.quiet_builtin _ VF.quiet) (wpAny_check_new_subT VF T hC (codeAny_exc_new_subT VF T hC ?_ hu))
 show wpAny _ _ _ _ _ _
 have kk:∀b o,h.get? b=some o→((h.push { cls:=.type "tuple",data:=.seq us.toArray }).push { cls:=.ref C,data:=.fields #[.ref h.objs.size,.none,.none,.none,.bool false,.none] }).get? b=some o:=fun b o e=>Heap.get?_push_of_some _ (Heap.get?_push_of_some _ e)
 have hE:((h.push { cls:=.type "tuple",data:=.seq us.toArray }).push { cls:=.ref C,data:=.fields #[.ref h.objs.size,.none,.none,.none,.bool false,.none] }).get? (h.objs.size+1)=some { cls:=.ref C,data:=.fields #[.ref h.objs.size,.none,.none,.none,.bool false,.none] }:=by heap_get
 have hself:(Value.ref C::bm).contains (.ref C)=true:=by simp
 have hC2:=kk _ _ hC
 have T2:=T.keeps kk
 unfold isInstance
 repeat (first | with_reducible refine wpAny_loadPart_at hE ?_ | (with_reducible refine wpAny_isSubtype_exc hC2 ?_;rw[hself]) | wp_step)
 show wpAny _ _ (typeLookup (.ref C) _) _ _ _
 refine wpAny_typeLookup_tail hC2 (hn.keeps kk) T2 VF.mroIs VF.init.lookup ?_
 rw[hi]
 refine wpAny_holding (wpAny_bind (wpAny_of_eq (VF.init.bind _) (wpAny_bind (wpAny_call (codeAny_call_builtin VF.init.plain VF.initEntry (wpAny_check_init_subT VF T2 hC2 hE rfl ?_))))))
 wp_walk
 refine k _ (fun b o hb=>?_) ?_
 ·have lt:=Heap.lt_size hb
  rw[Heap.get?_update_other _ _ (Nat.ne_of_gt (Nat.lt_succ_of_lt lt))]
  exact Heap.get?_push_of_some _ (kk b o hb)
 ·rw[Heap.get?_update_self _ (Heap.get?_push_of_some (h:=_) _ hE) rfl]
  simp only[Heap.size_push]
  rfl
theorem Ly {mN:Str→Option Value} {us:List Value} {Q:Value→Shared→Prop} (T:OwnTail h FW bm)
  (hC:h.get? C=some (excClassObj nm q C N bs bm hdct sn sub ab col dd k0 k1 k2 k3 k5 "ValueError.__new__")) (hn:h.Ns N mN) (hi:mN "__init__"=none) (hu:us.length≤sizeLine)
  (k:∀h',(∀b o,h.get? b=some o→h'.get? b=some o)→h'.get? (h.objs.size+1)=some (KE C (h.objs.size+2) none)→Q (.ref (h.objs.size+1)) ⟨h',g,d,t,os⟩) :
  wpAny (model prog w) A (call (.ref C) us) Q E ⟨h,g,d,t,os⟩:=by
 have z1:=tc_lookup
 have z2:=tc_bind (.ref C)
 have z3:(⟨h,g,d,t,os⟩:Shared).TypeIs (.ref C) "type":=⟨_,hC,rfl⟩
 refine wpAny_call (codeAny_of_tree ?_)
 show wpAny _ _ (callAny (.ref C) ⟨us,[]⟩) _ _ _
 repeat (any_goals (first | assumption | with_reducible refine wpAny_loadPart_at hC ?_ | wp_step))
 exact⟨rfl,codeAny_call_builtin_at (Code.quiet_builtin _ (by decide +kernel)) entry_typeCall (wpAny_check_type_call_sub hC (Kg T hC hn hi hu k))⟩
end
def Og (C:Addr) (Ex:XK) (t:TA):TS:=fun _ σ H=>t σ H fun _ H1=>Ex (.ref C) none H1
section
variable {X:Cx} {C cT:Addr} {Ex:XK} {x:Str} {p pos cpos:Pos} {e:Expr} {es:List Expr} {t:TA}
theorem Dw (hx:QM X Ex) (hc:X.calm=true) (M:PU X.K C cT none) (at_:XAt X.K C cT) (ty:PySem.W.typeIn X.K (.ref C)=some (.type "type")) (hg:Gl X x) (hm:X.mg x=some (.ref C)) (ha:PA X (e::es) t) (hlen:(e::es).length≤1000:=by decide) (hdb:(x == ("__debug__":Str))=false:=by decide)
  (he:starEach (e::es) X.env=(false,eval e X.env)::starEach es X.env:=by rfl) (hpl:(backTo cpos (starEach es X.env)).any (·.1)=false:=by rfl)
  (hvl:∀σ H (Q:List V→Hp→Prop),t σ H Q→t σ H (fun vs H1=>vs.length≤1000∧Q vs H1)) :
  PS X (.Raise (some (.Call (.Name x p) (e::es) [] cpos)) none pos) (Og C Ex t):=by
 intro pins s σ H D I h
 rw[arm_exec_Raise]
 refine wpAny_bind (wpAny_standAt (JX (K:=X.K) at_ ty (I.ok.hd hc) ?_))
 refine wpAny_bind (AM (Q:=fun v s1=>∃b tp dx,v= .ref b∧X.K.In s1.heap∧s1.heap.get? b=some (KE C tp dx)∧X.xe (.ref b) s1) ?_ fun v s1 q=>wpAny_bind (wpAny_standAt (wpAny_pure q)))
 refine wpAny_Call_Name_kw (KN I hg hm ?_ hdb)
 refine PySem.W.callWith_K (h₀:=X.base) I.ok.mod.kin M.kp (AM (ha cpos pins s σ H _ I (hvl _ _ _ h)) fun us s1 ⟨vs,H1,I1,r,hl,q⟩=>⟨I1.kIn,?_⟩) he hpl
 show wpAny _ _ (call (.ref C) us) _ _ _
 obtain⟨nm,q0,N,bs,hdct,sn,sub,ab,col,dd,k0,k1,k2,k3,k5,lC,oN,iN⟩:=M.cls
 have KX:=I1.kIn
 have nsN:=Heap.Ns.of_isNs (PySem.W.isNs_of_in KX oN)
 have hul:us.length≤sizeLine:=by rw[←r.length];exact Nat.le_of_lt (AJ hl)
 obtain⟨hh,g,d,tk,os⟩:=s1
 refine Ly (PySem.W.tail_of_in KX M.tail) (KX _ _ lC) nsN (NZ KX nsN iN) hul fun h' kk e'=>?_
 have I2:Inv X pins σ H1 ⟨h',g,d,tk,os⟩:=I1.kept (t':=tk) kk
 refine⟨_,_,none,rfl,I2.kIn,e',?_⟩
 exact hx pins σ H1 _ _ _ none _ _ I2 (I1.hok.fresh (Nat.le_succ _)) e' ⟨rfl,rfl⟩ (Nat.le_trans I1.sz (Nat.le_succ _)) q
end
section
variable {X:Cx} {Dc:Addr} {i:Nat} {x n:Str} {np hpos pos:Pos} {body suite:List Stmt} {b0:Stmt} {tb:XK→TS} {th:Addr→Obj→TS} {hs:List ExceptHandler} {tr:THs}
end
section
variable {X:Cx} {C cT:Addr}
def QP (K:PySem.W.Frag):R2:=fun x y H Q=>∃(e p:Addr) (xs:List V) (bs:List Bool),x= .ref e∧y= .ref p∧SqL K H e []∧SqL K H p xs∧bs.length=xs.length∧(∀(i:Nat) v b,xs[i]? = some v→bs[i]? = some b→∃a zs,v= .ref a∧SqL K H a zs∧b=zs.isEmpty)∧Q (.bl (bs.any id)) H
theorem Ps (hu:X.A.units+9<cLine):D0 X (compareOp .In) (QP X.K):=by
 intro pins s σ H x y v u Q I rx ry h
 obtain⟨e,p,xs,bs,rfl,rfl,he,hp,hl,hx,q⟩:=h
 cases rx
 cases ry
 obtain⟨its,r,pl,hz⟩:=I.list hp
 obtain⟨its0,r0,pl0,hz0⟩:=I.list he
 cases r0
 have lr:=r.length
 have at':∀(i:Nat) (u:Value),its[i]? = some u→∃b,bs[i]? = some b∧SeqAt.EqAt X.A.in1 s u (.ref e) b:=fun i u hi=>by
  have hil:i<its.length:=(List.getElem?_eq_some_iff.mp hi).1
  have hxi:xs[i]? = some xs[i]:=List.getElem?_eq_getElem (by omega)
  have hbi:bs[i]? = some bs[i]:=List.getElem?_eq_getElem (by omega)
  obtain⟨u2,hu2,ru2⟩:=r.get hxi
  rw[hi] at hu2
  cases hu2
  obtain⟨a,zs,ev,hq,eb⟩:=hx i _ _ hxi hbi
  rw[ev] at ru2
  cases ru2
  refine⟨_,hbi,?_⟩
  obtain⟨itz,rz,plz,_⟩:=I.list hq
  rw[eb]
  by_cases hae:a=e
  ·subst hae
   have hz1:itz=[]:=by
    have h1:=plz.isList
    have h2:=pl0.isList
    obtain⟨o1,g1,_,n1,d1⟩:=h1
    obtain⟨o2,g2,_,n2,d2⟩:=h2
    rw[g1] at g2
    cases g2
    rw[d1] at d2
    cases itz with
    | nil=>rfl
    | cons c r=>cases d2
   subst hz1
   cases rz
   exact SeqAt.EqAt.same _
  ·refine SeqAt.EqAt.of_refs hae ?_
   cases rz with
   | nil=>exact SeqAt.RcAt.lists (e:=fun _=>true) plz.isList pl0.isList rfl (by show X.A.units+1<cLine;omega) (fun j h1=>absurd h1 (Nat.not_lt_zero _))
   | cons r1 r2=>exact SeqAt.RcAt.lists_lengths plz.isList pl0.isList (by simp) (by show X.A.units+1<cLine;omega)
 let f:Value→Bool:=fun u=>(List.range its.length).any fun i=>its[i]? == some u && bs[i]? == some true
 have uniq:∀(i j:Nat) (u:Value),its[i]? = some u→its[j]? = some u→bs[i]? = bs[j]? :=fun i j u hi hj=>by
  have hil:i<its.length:=(List.getElem?_eq_some_iff.mp hi).1
  have hjl:j<its.length:=(List.getElem?_eq_some_iff.mp hj).1
  have hxi:xs[i]? = some xs[i]:=List.getElem?_eq_getElem (by omega)
  have hbi:bs[i]? = some bs[i]:=List.getElem?_eq_getElem (by omega)
  have hxj:xs[j]? = some xs[j]:=List.getElem?_eq_getElem (by omega)
  have hbj:bs[j]? = some bs[j]:=List.getElem?_eq_getElem (by omega)
  obtain⟨u2,hu2,ru2⟩:=r.get hxi
  obtain⟨u3,hu3,ru3⟩:=r.get hxj
  rw[hi] at hu2
  cases hu2
  rw[hj] at hu3
  cases hu3
  obtain⟨a,zs,ev,hq,eb⟩:=hx i _ _ hxi hbi
  obtain⟨a2,zs2,ev2,hq2,eb2⟩:=hx j _ _ hxj hbj
  rw[ev] at ru2
  rw[ev2] at ru3
  cases ru2
  have ea:a=a2:=Value.ref.inj (show Value.ref a=Value.ref a2 from ru3)
  subst ea
  rw[hbi,hbj,eb,eb2]
  obtain⟨it1,rz1,p1,_⟩:=I.list hq
  obtain⟨it2,rz2,p2,_⟩:=I.list hq2
  obtain⟨o1,g1,_,n1,d1⟩:=p1.isList
  obtain⟨o2,g2,_,n2,d2⟩:=p2.isList
  rw[g1] at g2
  cases g2
  rw[d1] at d2
  have eit:it1.toArray=it2.toArray:=by cases d2;rfl
  have eit':it1=it2:=by simpa using eit
  have l1:=rz1.length
  have l2:=rz2.length
  rw[eit'] at l1
  cases zs with
  | nil=>cases zs2 with
   | nil=>rfl
   | cons c d=>simp at l1 l2;omega
  | cons c d=>cases zs2 with
   | nil=>simp at l1 l2;omega
   | cons c2 d2=>rfl
 have ff:∀(i:Nat) (u:Value) (b:Bool),its[i]? = some u→bs[i]? = some b→f u=b:=fun i u b hi hb=>by
  have hil:i<its.length:=(List.getElem?_eq_some_iff.mp hi).1
  cases b with
  | true=>exact List.any_eq_true.mpr ⟨i,List.mem_range.mpr hil,by rw[hi,hb];simp⟩
  | false=>
   refine List.any_eq_false.mpr fun j hj z=>?_
   rw[Bool.and_eq_true] at z
   have z1:its[j]? = some u:=eq_of_beq z.1
   have z2:bs[j]? = some true:=eq_of_beq z.2
   have:=uniq i j u hi z1
   rw[hb,z2] at this
   cases this
 refine SeqAt.in_listAt f pl.isList (fun u hu=>?_) ⟨.bl _,H,I,rfl,?_⟩
 ·have hu':u∈its:=by simpa using hu
  obtain⟨i,hi⟩:=List.getElem?_of_mem hu'
  obtain⟨b,hb,eq⟩:=at' i u hi
  rw[ff i u b hi hb]
  first | exact eq | exact eq.of_in1
 ·have ea:its.toArray.any f=bs.any id:=by
   rw[show its.toArray.any f=its.any f by simp,Bool.eq_iff_iff,List.any_eq_true,List.any_eq_true]
   constructor
   ·rintro⟨u,hu,hf⟩
    obtain⟨i,hi⟩:=List.getElem?_of_mem hu
    obtain⟨b,hb,_⟩:=at' i u hi
    rw[ff i u b hi hb] at hf
    exact⟨b,List.mem_of_getElem? hb,hf⟩
   ·rintro⟨b,hb,hf⟩
    obtain⟨i,hi⟩:=List.getElem?_of_mem hb
    have hil:i<bs.length:=(List.getElem?_eq_some_iff.mp hi).1
    have hii:its[i]? = some its[i]:=List.getElem?_eq_getElem (by omega)
    exact⟨its[i],List.mem_of_getElem? hii,by rw[ff i _ b hii hi];exact hf⟩
  rw[ea]
  exact q
end
end L2
namespace L2
open PySem PySem.Spec PyProof.Rows
section
variable {X:Cx} {N:List Str} {scope:Scope} {cl:List (Str×Addr)} {js:List (Option Nat)} {elt tg iter:Expr} {ifs:List Expr} {rest:List Comprehension} {pos spos ypos:Pos} {wi:TI} {g:CC→TG} {tb:CC→Addr→TS} {i:Nat} {y:Str}
theorem IW {WB:CC→Value→NS} (hxe:X.xe=DQ) (hc:X.calm=true) (hi:PI X tg iter wi) (hs:∀x,foldedSetIterable iter X.env x=pure x) (hclos:closureFor scope X.env=pure cl) (hk:scope.kind= .function)
  (hnames:∀x∈scope.names,x.2= .local→scope.names.lookup x.1=some .local) (hcell:∀x∈scope.names,x.2≠.cell)
  (hcl:∀p∈cl,X.env.cells.lookup p.1=some p.2) (hcn:∀x,((relabel scope X.env).names.lookup x=some .cell∨(relabel scope X.env).names.lookup x=some .free)→∃c,cl.lookup x=some c)
  (hsh:Es X N scope js) (hl:js.length=N.length)
  (ht:∀c it ac,HT (X.cmp N scope cl c) (.ListComp elt (⟨tg,iter,ifs,0⟩::rest) scope pos) 0 it ac tg (WB c ac))
  (hg:∀c,PG (X.cmp N scope cl c) tg (g c)) (hb:∀c ac,PB (X.cmp N scope cl c) (WB c (.ref ac)) (tb c ac))
  (hN:X.N.Nodup) (hy:X.N[i]? = some y) (hyl:O5 X.env.scope y) (hsw:swapsWith (.ListComp elt (⟨tg,iter,ifs,0⟩::rest) scope pos) (some (.Name y ypos)) spos.line X.env=pure true)
  (hf:X.fn y=true∨X.env.scope.names.lookup y=some .local) :
  PS X (.Assign [.Name y ypos] (.ListComp elt (⟨tg,iter,ifs,0⟩::rest) scope pos) spos) (K6 (EX wi js g tb) (Ck i)):=by
 intro pins s σ H D I h
 rw[exec_Assign_Name_used _ _ _ _ hsw]
 refine wpAny_bind (wpAny_standAt (wpAny_bind ?_))
 rw[arm_evalThenUse_ListComp]
 have h0:=hi pins s σ H _ I h
 refine wpAny_bind (wpAny_mono (wpAny_comprehension_free (use:=some (assign (.Name y ypos) X.env)) (Q:=fun _ s'=>SP X pins D .next s') (cl:=cl) rfl hs hclos hk hnames (AM h0 fun v s1 h1=>AM h1 fun itv s2 h2=>?_)) (fun _ s' hq=>wpAny_pure (wpAny_pure hq)) fun _ _ z=>z)
 obtain⟨it,fp,tn,J,H2,e,I2,T,st2,f2,hR⟩:=h2
 subst e
 refine wpAny_newObj_type (wpAny_newFunctionEnv hcell (by intro y hy;simp at hy) (fun h₁ hns₁ hsb₁=>?_) hk)
 dsimp only at hns₁ hsb₁ ⊢
 have I3:=I2.lnew (ys:=[]) (its:=[]) (t':=s2.toks) .nil (Nat.zero_le _)
 have fpl:∀b∈fp,b<s2.heap.objs.size:=fun b hb=>by
  obtain⟨o,e,_⟩:=T.obj 0 _ st2 b hb
  exact Heap.lt_size e
 have fpa:∀b∈fp,b≠s2.heap.objs.size:=fun b hb=>Nat.ne_of_lt (fpl b hb)
 have f3:∀b∈fp,BM X pins (AA H2 s2.heap.objs.size (.lst [])) b:=fun b hb=>⟨by rw[Az (fpa b hb)];exact (f2 b hb).1,(f2 b hb).2⟩
 have hR':=hR ⟨{ s2 with heap:=s2.heap.push { cls:=.type "list",data:=.seq ([]:List Value).toArray } },AA H2 s2.heap.objs.size (.lst []),fp⟩ s2.heap.objs.size I2.fresh
 have I4:=I3.cmp (N:=N) (cl:=cl) (js:=js) (t':=s2.toks) f3 (fun b hb=>by
  show b<(s2.heap.push _).objs.size
  rw[Heap.size_push]
  exact Nat.lt_succ_of_lt (fpl b hb)) hk hcl hcn hsh hl hns₁ hsb₁
 have st4:tn 0 h₁:=T.keep 0 _ _ st2 fun b hb o e=>(hsb₁.2 b (by
  rw[Heap.size_push]
  exact Nat.ne_of_lt (Nat.lt_succ_of_lt (fpl b hb)))).trans (Heap.get?_push_of_some _ (Heap.get?_push_of_some _ e))
 have f4:∀b∈fp,BM (X.cmp N scope cl ⟨{ s2 with heap:=s2.heap.push { cls:=.type "list",data:=.seq ([]:List Value).toArray } },AA H2 s2.heap.objs.size (.lst []),fp⟩) [] (AA H2 s2.heap.objs.size (.lst [])) b:=fun b hb=>
  ⟨(f3 b hb).1,(I4.ok.exf b hb).1,I4.ok.exfs b hb,.inl hb,(I4.ok.exf b hb).2,fun p hp=>absurd (show p∈([]:List (Addr×Obj)) from hp) (by simp)⟩
 have lt3:∀b ob,({ s2 with heap:=s2.heap.push { cls:=.type "list",data:=.seq ([]:List Value).toArray } }:Shared).heap.get? b=some ob→b<(s2.heap.push { cls:=.type "list",data:=.seq ([]:List Value).toArray }).objs.size:=fun b ob e=>Heap.lt_size e
 have loop:=codeAny_mono (BR (X:=X.cmp N scope cl ⟨{ s2 with heap:=s2.heap.push { cls:=.type "list",data:=.seq ([]:List Value).toArray } },AA H2 s2.heap.objs.size (.lst []),fp⟩) (e:=.ListComp elt (⟨tg,iter,ifs,0⟩::rest) scope pos) (d:=0) (acc:=.ref s2.heap.objs.size) (pins:=[]) hxe hc (ht _ _ _) rfl rfl rfl T (hg _) (hb _ _) I4 st4 f4 hR') (R':=compPost (model X.prog X.w) X.A X.xe (some (assign (.Name y ypos) X.env)) (fun _ s'=>SP X pins D .next s') (.ref s2.heap.objs.size) (s2.heap.push { cls:=.type "list",data:=.seq ([]:List Value).toArray }).objs.size) (fun r s' hq=>by
  obtain⟨rfl,σ',H',J',q⟩:=hq
  obtain⟨m,hn,_⟩:=id J'.loc
  have I5:Inv X pins σ H' s':=I3.uncmp f3 J' (Heap.SameBut.refl _ _)
  have nL:(s2.heap.push { cls:=.type "list",data:=.seq ([]:List Value).toArray }).objs.size≠X.env.locals:=Nat.ne_of_gt I3.lt
  have nC:∀x c,X.env.cells.lookup x=some c→c≠(s2.heap.push { cls:=.type "list",data:=.seq ([]:List Value).toArray }).objs.size:=fun x c e=>by
   obtain⟨v,o,ho,_⟩:=I3.cell x c e
   exact Nat.ne_of_lt (lt3 _ _ ho)
  show wpAny _ _ (assign (.Name y ypos) X.env (.ref s2.heap.objs.size)) _ _ _
  refine wpAny_assign_Name (Gf I5 hN hy hyl (v:=.ref s2.heap.objs.size) rfl (fun s6 I6 ⟨a,sb,ha⟩=>?_) hf)
  have na:(s2.heap.push { cls:=.type "list",data:=.seq ([]:List Value).toArray }).objs.size≠a:=by
   rcases ha with z | z
   ·rw[z];exact nL
   ·exact Ne.symm (nC _ _ z)
  refine⟨m,hn.sameBut sb na,fun h7 sb7=>?_⟩
  refine⟨_,H',I6.turned (t':=s6.toks) (it:=(s2.heap.push { cls:=.type "list",data:=.seq ([]:List Value).toArray }).objs.size) (fun b ob nb e=>(sb7.2 b nb).trans e) J'.free nL (.inr (Nat.le_trans I3.sz (Nat.le_refl _))) nC (fun p hp=>Nat.ne_of_lt (lt3 _ _ (I3.pin p hp).1)),q⟩)
 exact BA (X:=X.cmp N scope cl ⟨{ s2 with heap:=s2.heap.push { cls:=.type "list",data:=.seq ([]:List Value).toArray } },AA H2 s2.heap.objs.size (.lst []),fp⟩) rfl rfl rfl (fun _=>rfl) True.intro loop (T.self _ 0 _ _ _ st4 loop)
variable {tg1 iter1:Expr} {ifs1:List Expr} {wi1:CC→TI} {g1:CC→TG} {tc tc1:CC→TT} {te:CC→TE}
theorem MJ (hN:X.N.Nodup) (hy:X.N[i]? = some y) (hyl:O5 X.env.scope y) (h:CompOk X N scope cl js) (hi:PI X tg iter wi) (hg:∀c,PG (X.cmp N scope cl c) tg (g c)) (hif:∀c,JN (X.cmp N scope cl c) ifs (tc c)) (he:∀c,PE (X.cmp N scope cl c) elt (te c))
  (hxe:X.xe=DQ:=by rfl) (hc:X.calm=true:=by rfl) (hs:∀x,foldedSetIterable iter X.env x=pure x:=by intro _;rfl) (hsw:swapsWith (.ListComp elt [⟨tg,iter,ifs,0⟩] scope pos) (some (.Name y ypos)) spos.line X.env=pure true:=by rfl)
  (hf:X.fn y=true∨X.env.scope.names.lookup y=some .local:=by first | exact .inl rfl | exact .inr rfl) :
  PS X (.Assign [.Name y ypos] (.ListComp elt [⟨tg,iter,ifs,0⟩] scope pos) spos) (K6 (EX wi js g fun c ac=>Cs (tc c) (BZ ac (te c))) (Ck i)):=
 IW (WB:=fun c ac=>DY (X.cmp N scope cl c) ifs elt ac) hxe hc hi hs h.clos h.kind h.names h.cell h.ccl h.hcn h.shr h.len (fun c it ac=>JF) hg (fun c ac=>D2 hxe (hif c) (he c)) hN hy hyl hsw hf
theorem Ny (hN:X.N.Nodup) (hy:X.N[i]? = some y) (hyl:O5 X.env.scope y) (h:CompOk X N scope cl js) (hi:PI X tg iter wi) (hg:∀c,PG (X.cmp N scope cl c) tg (g c)) (hif:∀c,JN (X.cmp N scope cl c) ifs (tc c))
  (hi1:∀c,PI (X.cmp N scope cl c) tg1 iter1 (wi1 c)) (hg1:∀c,PG (X.cmp N scope cl c) tg1 (g1 c)) (hif1:∀c,JN (X.cmp N scope cl c) ifs1 (tc1 c)) (he:∀c,PE (X.cmp N scope cl c) elt (te c))
  (hs1:∀c x,foldedSetIterable iter1 (X.cmp N scope cl c).env x=pure x:=by intro _ _;rfl)
  (hxe:X.xe=DQ:=by rfl) (hc:X.calm=true:=by rfl) (hs:∀x,foldedSetIterable iter X.env x=pure x:=by intro _;rfl) (hsw:swapsWith (.ListComp elt [⟨tg,iter,ifs,0⟩,⟨tg1,iter1,ifs1,0⟩] scope pos) (some (.Name y ypos)) spos.line X.env=pure true:=by rfl)
  (hf:X.fn y=true∨X.env.scope.names.lookup y=some .local:=by first | exact .inl rfl | exact .inr rfl) :
  PS X (.Assign [.Name y ypos] (.ListComp elt [⟨tg,iter,ifs,0⟩,⟨tg1,iter1,ifs1,0⟩] scope pos) spos) (K6 (EX wi js g fun c ac=>Cs (tc c) (Jb (wi1 c) (g1 c) (Cs (tc1 c) (BZ ac (te c))))) (Ck i)):=
 IW (WB:=fun c ac=>Fn (X.cmp N scope cl c) ifs (.ListComp elt [⟨tg,iter,ifs,0⟩,⟨tg1,iter1,ifs1,0⟩] scope pos) iter1 ac) hxe hc hi hs h.clos h.kind h.names h.cell h.ccl h.hcn h.shr h.len (fun c it ac=>Nj (hs1 c)) hg
  (fun c ac=>Mb hxe hc (hif c) (hi1 c) (hg1 c) (D2 hxe (hif1 c) (he c))) hN hy hyl hsw hf
end
end L2
namespace L2
open PySem PySem.Spec PyProof.Rows
abbrev Up (xs:Array Nat):Prop:=xs.toList.Pairwise (· < ·)
theorem Up.lt {xs:Array Nat} (u:Up xs) {i j:Nat} {a b:Nat} (h:i<j) (ha:xs[i]? = some a) (hb:xs[j]? = some b):a<b:=by
 have ha':xs.toList[i]? = some a:=by simpa using ha
 have hb':xs.toList[j]? = some b:=by simpa using hb
 obtain⟨h1,e1⟩:=List.getElem?_eq_some_iff.mp ha'
 obtain⟨h2,e2⟩:=List.getElem?_eq_some_iff.mp hb'
 have:=List.pairwise_iff_getElem.mp u i j h1 h2 h
 omega
structure RD (xs:Array Nat) (j p:Nat):Prop where
 le:p≤xs.size
 lo:∀i a,i<p→xs[i]? = some a→a<j
 hi:∀i a,p≤i→xs[i]? = some a→j≤a
theorem Fv {xs:Array Nat} (u:Up xs) (j:Nat):∀(fuel lo hi:Nat),hi-lo≤fuel→lo≤hi→hi≤xs.size→(∀i a,i<lo→xs[i]? = some a→a<j)→(∀i a,hi≤i→xs[i]? = some a→j≤a)→
  RD xs j (SetTable.below.go xs j fuel lo hi)
 | 0,lo,hi,h1,h2,h3,h4,h5=>by
  have e:lo=hi:=by omega
  subst e
  exact⟨h3,h4,h5⟩
 | fuel+1,lo,hi,h1,h2,h3,h4,h5=>by
  unfold SetTable.below.go
  by_cases hlt:lo<hi
  ·rw[if_pos hlt]
   have hm:(lo+hi) / 2<xs.size:=by omega
   have eg:xs[(lo+hi) / 2]? = some xs[(lo+hi) / 2]:=Array.getElem?_eq_getElem hm
   have ed:xs.getD ((lo+hi) / 2) j=xs[(lo+hi) / 2]:=by simp[Array.getD,hm]
   show RD xs j (if xs.getD ((lo+hi) / 2) j<j then _ else _)
   rw[ed]
   split
   ·rename_i hl
    refine Fv u j fuel ((lo+hi) / 2+1) hi (by omega) (by omega) h3 (fun i a hi' ha=>?_) h5
    by_cases e:i=(lo+hi) / 2
    ·subst e;rw[eg] at ha;cases ha;exact hl
    ·exact Nat.lt_trans (u.lt (show i<(lo+hi) / 2 by omega) ha eg) hl
   ·rename_i hl
    refine Fv u j fuel lo ((lo+hi) / 2) (by omega) (by omega) (by omega) h4 (fun i a hi' ha=>?_)
    by_cases e:i=(lo+hi) / 2
    ·subst e;rw[eg] at ha;cases ha;omega
    ·have:=u.lt (show (lo+hi) / 2<i by omega) eg ha
     omega
  ·rw[if_neg hlt]
   have e:lo=hi:=by omega
   subst e
   exact⟨h3,h4,h5⟩
theorem FP {xs:Array Nat} (u:Up xs) (j:Nat):RD xs j (SetTable.below xs j):=
 Fv u j xs.size 0 xs.size (by omega) (Nat.zero_le _) (Nat.le_refl _) (fun i a h=>absurd h (Nat.not_lt_zero _)) fun i a h e=>by
  have:=(Array.getElem?_eq_some_iff.mp e).1
  omega
theorem Ka {xs:Array Nat} (u:Up xs) {i a:Nat} (h:xs[i]? = some a):SetTable.below xs (a+1)=i+1:=by
 have b:=FP u (a+1)
 have hi:i<xs.size:=(Array.getElem?_eq_some_iff.mp h).1
 have h1:i<SetTable.below xs (a+1):=by
  rcases Nat.lt_or_ge i (SetTable.below xs (a+1)) with q | q
  ·exact q
  ·have:=b.hi i a q h
   omega
 rcases Nat.lt_or_ge (i+1) (SetTable.below xs (a+1)) with q | q
 ·have hs:i+1<xs.size:=Nat.lt_of_lt_of_le q b.le
  have e2:=Array.getElem?_eq_getElem hs
  have:=b.lo (i+1) _ q e2
  have:=u.lt (Nat.lt_succ_self i) h e2
  omega
 ·omega
theorem J4 {xs:Array Nat} (u:Up xs):SetTable.below xs 0=0:=by
 have b:=FP u 0
 rcases Nat.eq_zero_or_pos (SetTable.below xs 0) with q | q
 ·exact q
 ·have hs:0<xs.size:=Nat.lt_of_lt_of_le q b.le
  have:=b.lo 0 _ q (Array.getElem?_eq_getElem hs)
  omega
theorem L6 {xs:Array Nat} (u:Up xs) {j:Nat} (h:xs[SetTable.below xs j]?≠some j):Up (SetTable.insertAt xs (SetTable.below xs j) j):=by
 have b:=FP u j
 generalize SetTable.below xs j=p at b h
 unfold Up
 rw[SetTable.toList_insertAt]
 have e1:∀x∈xs.toList.take p,x<j:=fun x hx=>by
  obtain⟨i,hi⟩:=List.mem_iff_getElem?.mp hx
  rw[List.getElem?_take] at hi
  split at hi
  ·rename_i hlt
   exact b.lo i x hlt (by simpa using hi)
  ·cases hi
 have e2:∀x∈xs.toList.drop p,j<x:=fun x hx=>by
  obtain⟨i,hi⟩:=List.mem_iff_getElem?.mp hx
  rw[List.getElem?_drop] at hi
  have hi':xs[p+i]? = some x:=by simpa using hi
  have:=b.hi (p+i) x (Nat.le_add_right _ _) hi'
  have ne:x≠j:=fun e=>by
   subst e
   cases i with
   | zero=>exact h hi'
   | succ i=>
    have hp:p<xs.size:=by
     have:=(Array.getElem?_eq_some_iff.mp hi').1
     omega
    have eg:=Array.getElem?_eq_getElem hp
    have h3:=b.hi p _ (Nat.le_refl _) eg
    have h4:=u.lt (show p<p+(i+1) by omega) eg hi'
    omega
  omega
 have u':(xs.toList.take p++xs.toList.drop p).Pairwise (· < ·):=by rw[List.take_append_drop];exact u
 obtain⟨p1,p2,p3⟩:=List.pairwise_append.mp u'
 refine List.pairwise_append.mpr ⟨p1,List.pairwise_cons.mpr ⟨e2,p2⟩,fun x hx y hy=>?_⟩
 rcases List.mem_cons.mp hy with q | q
 ·rw[q];exact e1 x hx
 ·exact Nat.lt_trans (e1 x hx) (e2 y q)
theorem MD (n:Nat):Up (Array.range n):=by
 unfold Up
 rw[Array.toList_range]
 exact List.pairwise_lt_range
end L2
namespace L2
open PySem PySem.Spec PyProof.Rows
structure TabOk (Bv:Bool) (t:SetTable):Prop where
 dum:t.dummies = #[]
 led:t.led = !Bv
 up:Up t.place
structure EZ (Bv:Bool) (t:SetTable):Prop where
 led:t.led = !Bv
 up:Up t.place
theorem TabOk.it {Bv:Bool} {t:SetTable} (h:TabOk Bv t):EZ Bv t:=⟨h.led,h.up⟩
theorem TabOk.plain_off {Bv:Bool} {t:SetTable} (h:TabOk Bv t):TabOk Bv { t with plain:=false }:=⟨h.dum,h.led,h.up⟩
theorem TabOk.standIn {Bv:Bool} {t:SetTable} (h:TabOk Bv t) (n:Nat):TabOk Bv (t.standIn n):=⟨rfl,h.led,MD n⟩
theorem TabOk.orStandIn {Bv:Bool} {t:SetTable} (h:TabOk Bv t) (n:Nat):TabOk Bv (t.orStandIn n):=by
 unfold SetTable.orStandIn
 split
 ·exact h
 ·exact h.standIn n
theorem TabOk.fresh (Bv:Bool) (led:Bool) (e:led = !Bv):TabOk Bv (.fresh 0 0 led):=⟨rfl,e,List.Pairwise.nil⟩
theorem KR (j:Nat):SetTable.has #[] j=false:=by
 unfold SetTable.has
 simp
theorem FV (t:SetTable) (p:SetTable.Probe):(t.advance p).dummy=p.dummy:=by
 unfold SetTable.advance
 split
 ·rfl
 ·rfl
theorem IE {t:SetTable} (hd:t.dummies = #[]) {hashAt:Nat→Int} {h:Int} {j:Nat} {d:Option Nat}:∀(fuel:Nat) (p:SetTable.Probe),p.dummy=none→SetTable.probe.go t hashAt h fuel p=some (.empty j d)→d=none∧t.place[SetTable.below t.place j]?≠some j
 | 0,_,_,e=>by cases e
 | fuel+1,p,hp,e=>by
  unfold SetTable.probe.go at e
  have hs:∀j,t.slot j=if t.place[SetTable.below t.place j]? == some j then .live (SetTable.below t.place j) else .empty:=fun j=>by
   unfold SetTable.slot
   rw[hd,KR]
   rfl
  rw[hs] at e
  split at e
  ·rename_i hlive
   split at hlive
   ·cases hlive
   ·rename_i hne
    injection e with e
    injection e with e1 e2
    subst e1
    refine⟨by rw[←e2,hp],fun z=>hne (by rw[z];simp)⟩
  ·rename_i hlive
   split at hlive<;>cases hlive
  ·split at e
   ·cases e
   ·exact IE hd fuel _ (by rw[FV];exact hp) e
theorem TabOk.layNew {Bv:Bool} {t:SetTable} (ok:TabOk Bv t) (es:Array (Int×Value)) (h:Int) (x:Value):TabOk Bv (layNew t es h x).2.1:=by
 unfold PySem.layNew
 cases ef:t.freeSlot h with
 | none=>exact ok.standIn _
 | some sw=>
  obtain⟨slot,wd⟩:=sw
  show TabOk Bv ((t.put slot).1.orStandIn _)
  refine TabOk.orStandIn ?_ _
  unfold SetTable.freeSlot at ef
  split at ef
  ·rename_i j dummy eq
   have:=IE ok.dum _ _ rfl eq
   obtain⟨rfl,hne⟩:=this
   injection ef with ef
   injection ef with e1 e2
   have e1':j=slot:=e1
   subst e1'
   unfold SetTable.put
   refine⟨?_,ok.led,L6 ok.up hne⟩
   show (if SetTable.has t.dummies j then _ else t.dummies) = #[]
   rw[ok.dum,KR]
   rfl
  ·cases ef
theorem TabOk.relayAll {Bv:Bool} {t:SetTable} (ok:TabOk Bv t) (es:Array (Int×Value)) (wanted:Nat):TabOk Bv (relayAll t es wanted).2.1:=by
 unfold PySem.relayAll
 cases er:t.relaid (es.map (·.1)) wanted with
 | none=>exact ok.standIn _
 | some to=>
  obtain⟨t',order⟩:=to
  dsimp only
  split
  ·unfold SetTable.relaid SetTable.laid at er
   cases eo:SetTable.layClean (SetTable.sizeAbove wanted-1) (es.map (·.1)) with
   | none=>rw[eo] at er;cases er
   | some owner=>
    rw[eo] at er
    injection er with er
    injection er with e1 e2
    subst e1
    refine⟨rfl,ok.led,?_⟩
    show (List.map (fun x:Nat×Nat=>x.fst) (List.filterMap (fun j=>Option.map (fun x=>(j,x)) (owner.getD j none)) (List.range (SetTable.sizeAbove wanted-1+1)))).toArray.toList.Pairwise (· < ·)
    rw[List.toList_toArray]
    rw[List.map_filterMap]
    refine List.Pairwise.filterMap _ (R:=(· < ·)) ?_ List.pairwise_lt_range
    intro a a' hlt b hb b' hb'
    have f:∀{a b:Nat},Option.map (fun x:Nat×Nat=>x.1) (Option.map (fun x=>(a,x)) (owner.getD a none))=some b→b=a:=fun {a b} e=>by
     cases q:owner.getD a none with
     | none=>rw[q] at e;cases e
     | some y=>rw[q] at e;injection e with e;exact e.symm
    rw[f hb,f hb']
    exact hlt
  ·exact ok.standIn _
end L2
namespace L2
open PySem PySem.Spec PyProof.Rows
def AX (e:Int×Value):Int:=match e.2 with | .int k _=>k | _=>0
def EGood (l:List (Int×Value)):Prop:=∀e∈l,e.1=hashInt (AX e)∧∃t,e.2= .int (AX e) t
abbrev Bv (w:World):Bool:=w.params.followText "set-order"
def SetIs (w:World) (h:Heap) (a:Addr) (ks:List Int):Prop:=
 ∃o es ep t,h.get? a=some o∧o.ExactSet∧o.data= .set es ep t∧EGood es.toList∧es.toList.map AX=ks∧ks.Nodup∧ks.length<2000∧TabOk (Bv w) t∧t.fits es.size=true
theorem SetIs.keep {w:World} {h h':Heap} {a:Addr} {ks:List Int} (x:SetIs w h a ks) (k:∀o,h.get? a=some o→h'.get? a=some o):SetIs w h' a ks:=by
 obtain⟨o,es,ep,t,ho,r⟩:=x
 exact⟨o,es,ep,t,k o ho,r⟩
def SetIt (w:World) (h:Heap) (a:Addr) (ks:List Int):Prop:=
 ∃o es ep t,h.get? a=some o∧o.ExactSet∧o.data= .set es ep t∧EGood es.toList∧es.toList.map AX=ks∧ks.Nodup∧ks.length<2000∧EZ (Bv w) t∧t.fits es.size=true
theorem SetIs.it {w:World} {h:Heap} {a:Addr} {ks:List Int} (x:SetIs w h a ks):SetIt w h a ks:=by
 obtain⟨o,es,ep,t,h1,h2,h3,h4,h5,h6,h7,h8,h9⟩:=x
 exact⟨o,es,ep,t,h1,h2,h3,h4,h5,h6,h7,h8.it,h9⟩
theorem SetIt.keep {w:World} {h h':Heap} {a:Addr} {ks:List Int} (x:SetIt w h a ks) (k:∀o,h.get? a=some o→h'.get? a=some o):SetIt w h' a ks:=by
 obtain⟨o,es,ep,t,ho,r⟩:=x
 exact⟨o,es,ep,t,k o ho,r⟩
section
variable {prog:Program} {w:World} {A:Around} {E:Value→Shared→Prop} {s:Shared} {a:Addr} {ks:List Int} {k:Int} {tk:Tok}
theorem EGood.elems {l:List (Int×Value)} (h:EGood l):ElemsOf (intKind prog w) l:=fun e he=>by
 obtain⟨h1,t,h2⟩:=h e he
 refine⟨⟨AX e,?_,h1⟩,?_⟩
 ·rw[h2];exact intKind_is _ _ _ _
 ·rw[h2];rfl
theorem EGood.is {l:List (Int×Value)} (h:EGood l) {e:Int×Value} (he:e∈l) {j:Int}:(intKind prog w).is j e.2=true↔j=AX e:=by
 obtain⟨_,t,h2⟩:=h e he
 constructor
 ·intro q
  exact (intKind prog w).inj e.2 j (AX e) q (by rw[h2];exact intKind_is _ _ _ _)
 ·rintro rfl
  rw[h2]
  exact intKind_is _ _ _ _
theorem Cl {es:Array (Int×Value)} (e:es.toList.map AX=ks):es.size=ks.length:=by rw[←e,List.length_map,Array.length_toList]
theorem DZ {h:Heap} {o:Obj} {es es':Array (Int×Value)} {ep:Nat} {t t':SetTable} (ho:h.get? a=some o) (hex:o.ExactSet) (hd:o.data= .set es ep t) (g:EGood es'.toList) (nd:(es'.toList.map AX).Nodup) (hl:es'.size<2000) (ok:TabOk (Bv w) t') (hf:t'.fits es'.size=true) :
  (h.update a (Obj.putSet es' t')).get? a=some { o with data:=.set es' (ep+1) t' }∧SetIs w (h.update a (Obj.putSet es' t')) a (es'.toList.map AX):=by
 have hg:(h.update a (Obj.putSet es' t')).get? a=some { o with data:=.set es' (ep+1) t' }:=by
  have:=Heap.get?_update_self (Obj.putSet es' t') ho (by rw[putSet_of es' t' hd];rfl)
  rw[putSet_of es' t' hd] at this;exact this
 exact⟨hg,_,es',ep+1,t',hg,hex,rfl,g,rfl,nd,by rw[List.length_map,Array.length_toList];exact hl,ok,hf⟩
theorem BX {n:Nat} (h:n<2000):n<scanBound:=by unfold scanBound;omega
theorem Iy {g:Bool→Sem Unit} (hg:∀(b:Bool) (s₁:Shared) (Q':Unit→Shared→Prop),Q' () s₁→wpAny (model prog w) A (g b) Q' E s₁)
  {o:Obj} {es es1:Array (Int×Value)} {ep:Nat} {t t2:SetTable} (ho:s.heap.get? a=some o) (hex:o.ExactSet) (hd:o.data= .set es ep t) (g1:EGood es1.toList) (nd:(es1.toList.map AX).Nodup) (hl:es1.size<2000) (ok:TabOk (Bv w) t2) (hf:t2.fits es1.size=true) {wasDummy:Bool} {R:Option Bool→Shared→Prop}
  (h:∀h' ks',Heap.SameBut a s.heap h'→SetIs w h' a ks'→ks'.Perm (es1.toList.map AX)→R (some true) { s with heap:=h' }) :
  wpAny (model prog w) A (do
    storeSet a es1 t2
    if (!wasDummy && t2.tooFull)=true then do
      g (relayAll t2 es1 (SetTable.grown es1.size)).2.2
      storeSet a (relayAll t2 es1 (SetTable.grown es1.size)).1 (relayAll t2 es1 (SetTable.grown es1.size)).2.1
      pure (some true)
     else pure (some true)) R E s:=by
 refine wpAny_bind (wpAny_storeSet_of ho hd ?_ (fits_of_scanBound (BX hl)))
 obtain⟨ho1,hS1⟩:=DZ (w:=w) ho hex hd g1 nd hl ok hf
 have hsb1:=Heap.SameBut.update s.heap a (Obj.putSet es1 t2)
 split
 ·have hp:=relayAll_perm t2 es1 (SetTable.grown es1.size)
  have hfr:=relayAll_fits t2 es1 (SetTable.grown es1.size)
  have okr:=ok.relayAll es1 (SetTable.grown es1.size)
  generalize hRl:relayAll t2 es1 (SetTable.grown es1.size)=Rl at hp hfr okr ⊢
  obtain⟨es2,t3,gave2⟩:=Rl
  dsimp only at hp hfr okr ⊢
  have hsz:es2.size=es1.size:=by rw[←Array.length_toList,hp.length_eq,Array.length_toList]
  have hb2:es2.size<2000:=by rw[hsz];exact hl
  have g2:EGood es2.toList:=fun e he=>g1 e (hp.mem_iff.mp he)
  refine wpAny_bind (hg _ _ _ ?_)
  refine wpAny_bind (wpAny_storeSet_of ho1 rfl ?_ (fits_of_scanBound (BX hb2)))
  obtain⟨_,hS2⟩:=DZ (w:=w) ho1 hex rfl g2 ((hp.map AX).nodup_iff.mpr nd) hb2 okr hfr
  exact wpAny_pure (h _ _ (hsb1.trans (Heap.SameBut.update _ a _)) hS2 (hp.map AX))
 ·exact wpAny_pure (h _ _ hsb1 hS1 (List.Perm.refl _))
theorem Fh {Q:Bool→Shared→Prop} (hS:SetIs w s.heap a ks) (hroom:ks.length+1<2000)
  (h:∀h' ks',Heap.SameBut a s.heap h'→SetIs w h' a ks'→(∀j,j∈ks'↔j∈ks∨j=k)→ks'.length≤ks.length+1→Q (!decide (k∈ks)) { s with heap:=h' }) :
  wpAny (model prog w) A (setAddHashed a (.int k tk) (hashInt k)) Q E s:=by
 obtain⟨o,es,ep,t,ho,hex,hd,hg,hk,nd,hl,ok,hf⟩:=id hS
 have hsz:=Cl hk
 have hkey:(intKind prog w).is k (.int k tk)=true:=intKind_is _ _ _ _
 unfold setAddHashed setAddHashedIn
 refine wpAny_holding (wpAny_bind (wpAny_setState_of ho hd hf ?_))
 dsimp only
 rw[byScan_of (knd:=intKind prog w) rfl (by rw[hsz];exact BX hl) hg.elems]
 simp only[↓reduceIte]
 unfold setAddByScan
 refine wpAny_bind ?_
 refine wpAny_bind (wpAny_rule ?_)
 refine wpAny_bind (wpAny_setScan_of (knd:=intKind prog w) hkey ho hd hf hg.elems ?_)
 cases hr:List.findIdx? (fun e=>(intKind prog w).is k e.2) es.toList with
 | some j=>
  dsimp only
  obtain⟨hj,hpj,_⟩:=List.findIdx?_eq_some_iff_getElem.mp hr
  have hmem:k∈ks:=by
   rw[←hk,(hg.is (List.getElem_mem hj)).mp hpj]
   exact List.mem_map_of_mem (List.getElem_mem hj)
  refine wpAny_pure (wpAny_pure ?_)
  have e:s={ s with heap:=s.heap }:=by cases s;rfl
  have:=h s.heap ks (Heap.SameBut.refl a s.heap) hS (fun j=>⟨.inl,fun z=>z.elim id fun z=>z ▸ hmem⟩) (Nat.le_succ _)
  rw[decide_eq_true hmem] at this;rw[e];exact this
 | none=>
  dsimp only
  have hmem:k∉ks:=fun z=>by
   rw[←hk] at z
   obtain⟨e,he,rfl⟩:=List.mem_map.mp z
   have:=List.findIdx?_eq_none_iff.mp hr e he
   rw[(hg.is he).mpr rfl] at this
   cases this
  have hgw:∀(b:Bool) {s₁:Shared} {Q':Unit→Shared→Prop},Q' () s₁→wpAny (model prog w) A (match b with | true=>rule "set.scan.the-table-gave-way" | false=>pure ()) Q' E s₁:=
   fun b s₁ Q' hq=>by cases b<;>first | exact wpAny_pure hq | exact wpAny_rule hq
  have hperm:=layNew_perm t es (hashInt k) (.int k tk)
  have hfits:=layNew_fits t es (hashInt k) (.int k tk)
  have ok1:=ok.layNew es (hashInt k) (.int k tk)
  generalize hL:layNew t es (hashInt k) (.int k tk)=L at hperm hfits ok1
  have hL':layNew t es ((intKind prog w).hash k) (.int k tk)=L:=hL
  show wpAny (model prog w) A _ _ E s
  obtain⟨es1,t1,wasDummy,gave⟩:=L
  simp only[hL]
  dsimp only at hperm hfits ok1 ⊢
  rw[Array.toList_push] at hperm
  have hg1:EGood es1.toList:=fun e he=>by
   rcases List.mem_append.mp (hperm.mem_iff.mp he) with z | z
   ·exact hg e z
   ·rw[List.mem_singleton.mp z]
    exact⟨rfl,tk,rfl⟩
  have hpk:(es1.toList.map AX).Perm (ks++[k]):=by
   have:=hperm.map AX
   rw[List.map_append,hk] at this
   exact this
  have nd1:(es1.toList.map AX).Nodup:=hpk.nodup_iff.mpr (List.nodup_append.mpr ⟨nd,List.nodup_cons.mpr ⟨by simp,List.nodup_nil⟩,fun x hx y hy=>by rw[List.mem_singleton.mp hy];intro z;subst z;exact hmem hx⟩)
  have hl1:es1.size<2000:=by
   have:=hpk.length_eq
   rw[List.length_map,Array.length_toList,List.length_append] at this
   rw[this]
   exact hroom
  refine wpAny_bind (hgw _ ?_)
  have hend:∀h' ks',Heap.SameBut a s.heap h'→SetIs w h' a ks'→ks'.Perm (es1.toList.map AX)→Q true { s with heap:=h' }:=by
   intro h' ks' hsb hS' hp'
   have hq:=hp'.trans hpk
   have:=h h' ks' hsb hS' (fun j=>by rw[hq.mem_iff,List.mem_append,List.mem_singleton]) (by rw[hq.length_eq,List.length_append];exact Nat.le_refl _)
   rw[decide_eq_false hmem] at this
   exact this
  split
  ·refine wpAny_bind ?_
   rw[hashByValue_scannable 8 (x:=.int k tk) rfl]
   refine wpAny_pure ?_
   refine Iy ?_ ho hex hd hg1 nd1 hl1 ?_ ?_ ?_
   ·intro b s₁ Q' hq;cases b<;>first | exact wpAny_pure hq | exact wpAny_rule hq
   ·split
    ·exact ok1
    ·exact ok1.plain_off
   ·split
    ·exact hfits
    ·exact SetTable.fits_plain_off hfits
   ·intro h' ks' hsb hS' hp';dsimp only;exact wpAny_pure (hend h' ks' hsb hS' hp')
  ·refine wpAny_bind (wpAny_pure ?_)
   simp only[↓reduceIte]
   refine Iy ?_ ho hex hd hg1 nd1 hl1 ok1 hfits ?_
   ·intro b s₁ Q' hq;cases b<;>first | exact wpAny_pure hq | exact wpAny_rule hq
   ·intro h' ks' hsb hS' hp';dsimp only;exact wpAny_pure (hend h' ks' hsb hS' hp')
end
end L2
namespace L2
open PySem PySem.Spec PyProof.Rows
abbrev A8 (w:World):Obj:={ cls:=.type "set",dict:=none,data:=.set #[] 0 (.fresh 0 0 (!Bv w)) }
theorem set0_is {w:World} {h:Heap}:SetIs w (h.push (A8 w)) h.objs.size []:=
 ⟨_,#[],0,_,Heap.get?_push_size _ rfl,⟨rfl,rfl,rfl⟩,rfl,fun e he=>absurd he (by simp),rfl,List.nodup_nil,by decide,TabOk.fresh _ _ rfl,rfl⟩
section
variable {prog:Program} {w:World} {A:Around} {E:Value→Shared→Prop} {s:Shared} {a:Addr} {ks:List Int} {k:Int} {tk:Tok}
theorem SetIs.typeIs (hS:SetIs w s.heap a ks):s.TypeIs (.ref a) "set":=let ⟨o,_,_,_,ho,hc,_⟩:=hS;⟨o,ho,hc.1⟩
theorem SetIs.noDict (hS:SetIs w s.heap a ks):∀b,Value.ref a= .ref b→∃ob,s.heap.get? b=some ob∧ob.dict=none:=
 fun b e=>by injection e with e;subst e;exact let ⟨o,_,_,_,ho,hc,_⟩:=hS;⟨o,ho,hc.2.1⟩
theorem SetIt.typeIs (hS:SetIt w s.heap a ks):s.TypeIs (.ref a) "set":=let ⟨o,_,_,_,ho,hc,_⟩:=hS;⟨o,ho,hc.1⟩
theorem Ik {vs:List Value} (hv:vs=[]∨∃x,vs=[x]) {Q₁:Value→Shared→Prop}
  (h:Q₁ (.ref s.heap.objs.size) { s with heap:=s.heap.push (A8 w) }) :
  codeAny (model prog w) A (.call (.builtin "set.__new__") ⟨.type "set"::vs,[]⟩) (wants Q₁ E) s:=by
 have hn:checkBuiltinCall "set.__new__" ⟨.type "set"::vs,[]⟩=pure ():=by
  rcases hv with rfl | ⟨x,rfl⟩
  ·exact F.newCall_set_0
  ·exact F.newCall_set_1 x
 refine codeAny_of_tree ?_
 show wpAny _ A.in1 (do checkBuiltinCall "set.__new__" ⟨.type "set"::vs,[]⟩;again (.builtin "set.__new__" ⟨.type "set"::vs,[]⟩)) _ _ s
 refine wpAny_bind (wpAny_of_eq hn (wpAny_pure ⟨plainId_quiet F.plain_set_new _,codeAny_builtin F.entry_set_new ?_⟩))
 rw[Around.under_plainId F.plain_set_new _]
 have hsub:=sub_set_self
 obtain⟨hp,g,d,tk,os⟩:=s
 rcases hv with rfl | ⟨x,rfl⟩
 all_goals
  unfold Builtin.«set.__new__» Builtin.Frozenset.newClass
  dsimp only
  wp_walk
  refine wpAny_askSetting (wpAny_pure ?_)
  dsimp only
  simp only[newObj]
  refine wpAny_bind (wpAny_alloc (wpAny_pure ?_))
  exact wpAny_pure h
set_option maxHeartbeats 1000000 in
theorem Mv {Q:Value→Shared→Prop} (h:Q (.ref s.heap.objs.size) { s with heap:=s.heap.push (A8 w) }):wpAny (model prog w) A (call (.type "set") []) Q E s:=by
 obtain⟨c,tl,hmro⟩:=F.called_set.mro
 have hmade:=F.called_set.made
 have hsub:=F.called_set.sub
 refine wpAny_call (codeAny_of_tree ?_)
 show wpAny _ _ (callAny (.type "set") _) _ _ _
 refine wpAny_pure ⟨Code.quiet_builtin _ (by decide +kernel),codeAny_builtin F.entry_type_call ?_⟩
 rw[Around.under_plain (weight_type_call_type "set" [] []) rfl]
 have h1:=F.called_set.notType
 have h2:=F.called_set.canCreate
 have hct:=F.typeCall_set_0
 repeat (any_goals (first | assumption | wp_step))
 refine codeAny_mono (Ik (E:=E) (.inl rfl) (Q₁:=fun obj s₁=>obj= .ref s.heap.objs.size∧s₁={ s with heap:=s.heap.push (A8 w) }) ⟨rfl,rfl⟩) fun r s₁ hr=>?_
 cases r with
 | error e=>exact hr
 | ok fl=>
  cases fl with
  | ret obj=>
   obtain⟨rfl,rfl⟩:=hr
   have hS:(s.heap.push (A8 w)).get? s.heap.objs.size=some (A8 w):=Heap.get?_push_size _ rfl
   have hT:Shared.TypeIs { s with heap:=s.heap.push (A8 w) } (.ref s.heap.objs.size) "set":=⟨_,hS,rfl⟩
   have hli:=F.called_set.init.lookup
   have hbi:=F.called_set.init.bind (.ref s.heap.objs.size)
   repeat (any_goals (first | assumption | wp_step))
   refine codeAny_mono (codeAny_call_builtin (R:=wants (fun r s₂=>r= .none∧Q (.ref s.heap.objs.size) s₂) E) F.called_set.init.plain F.entry_set_init (check_set_init hT ?_)) fun r₂ s₂ hr₂=>?_
   ·unfold Builtin.«set.__init__» noKeywords
    wp_walk
    exact⟨rfl,h⟩
   ·cases r₂ with
    | error e=>exact hr₂
    | ok fl₂=>
     cases fl₂ with
     | ret r=>
      obtain⟨rfl,hQ⟩:=hr₂
      repeat (any_goals (first | assumption | wp_step))
     | _=>exact hr₂.elim
  | _=>exact hr.elim
theorem Jf {Q:Value→Shared→Prop} (hS:SetIs w s.heap a ks) (hroom:ks.length+1<2000)
  (h:∀h' ks',Heap.SameBut a s.heap h'→SetIs w h' a ks'→(∀j,j∈ks'↔j∈ks∨j=k)→ks'.length≤ks.length+1→Q .none { s with heap:=h',toks:=s.toks+1 }) :
  wpAny (model prog w) A (call (.builtin "set.add") [.ref a,.int k tk]) Q E s:=by
 refine wpAny_call_entry F.slot_set_add hS.typeIs F.entry_set_add ?_ (F.args_set_add_2 _ _)
 unfold Builtin.«set.add» Builtin.Frozenset.oneOther
 simp only[List.isEmpty_nil,bind_assoc]
 unfold Builtin.Frozenset.addrOf setAdd
 refine wpAny_bind (wpAny_pure ?_)
 try dsimp only
 refine wpAny_bind (wpAny_pure ?_)
 try dsimp only
 refine wpAny_bind ?_
 refine wpAny_holding ?_
 refine wpAny_bind ((intKind prog w).pyHash (k:=k) (intKind_is _ _ _ _) ?_)
 refine Fh (s:={ s with toks:=s.toks+1 }) hS hroom fun h' ks' hsb hS' hm hl=>?_
 show wpAny _ _ (ret Value.none) _ _ _
 exact wpAny_pure ⟨_,rfl,h h' ks' hsb hS' hm hl⟩
end
end L2
namespace L2
open PySem PySem.Spec PyProof.Rows
theorem slot_setit_next:Slot "set_iterator" "__next__" "set_iterator.__next__":=
 .of (owner:="set_iterator") (n:="__next__") (by rw[typeLookup_type,builtinLookup_eq_fast];kernel_rfl) (by decide +kernel) (by decide +kernel) (by decide +kernel)
  (by first | exact .inl (by decide +kernel) | exact .inr (by decide +kernel)) (by rw[isSubtype_type];kernel_rfl)
theorem B5:entryFor table "set_iterator.__next__"=some Builtin.«set_iterator.__next__»:=entryFor_of_tree (by kernel_rfl)
theorem C0 (a:Value):argsOk "set_iterator.__next__" ⟨[a],[]⟩:=by unfold argsOk;kernel_rfl
theorem Fx:entryFor table "set.__iter__"=some Builtin.«frozenset.__iter__»:=entryFor_alias (id':="frozenset.__iter__") (by kernel_rfl) rfl (by decide +kernel) (by kernel_rfl)
theorem Da:Slot "set_iterator" "__iter__" "set_iterator.__iter__":=
 .of (owner:="set_iterator") (n:="__iter__") (by rw[typeLookup_type,builtinLookup_eq_fast];kernel_rfl) (by decide +kernel) (by decide +kernel) (by decide +kernel)
  (by first | exact .inl (by decide +kernel) | exact .inr (by decide +kernel)) (by rw[isSubtype_type];kernel_rfl)
theorem EN:entryFor table "set_iterator.__iter__"=some Builtin.«dict_keyiterator.__iter__»:=entryFor_alias (id':="dict_keyiterator.__iter__") (by kernel_rfl) rfl (by decide +kernel) (by kernel_rfl)
theorem E3 (a:Value):argsOk "set_iterator.__iter__" ⟨[a],[]⟩:=by unfold argsOk;kernel_rfl
theorem slot_set_len':Slot "set" "__len__" "set.__len__":=
 .of (owner:="set") (n:="__len__") (by rw[typeLookup_type,builtinLookup_eq_fast];kernel_rfl) (by decide +kernel) (by decide +kernel) (by decide +kernel)
  (by first | exact .inl (by decide +kernel) | exact .inr (by decide +kernel)) (by rw[isSubtype_type];kernel_rfl)
end L2
namespace L2
open PySem PySem.Spec PyProof.Rows
inductive Ln (w:World) (a:Addr) (es:Array (Int×Value)) (ep:Nat) (t:SetTable) (h:Heap):(Nat→Value)→List Value→Prop where
 | text:Bv w=true→Ln w a es ep t h (fun _=>rawInt 0) ((pickOrder (w.params.setOrder a ep) es).toList.map (·.2))
 | led:Bv w=false→(!t.plain && decide (es.size>1))=false→Ln w a es ep t h (fun i=>rawInt (((if i=0 then 0 else t.place.getD (i-1) 0+1:Nat)):Int)) (es.toList.map (·.2))
 | drw (T:Addr) (o:Obj) (c:Nat) (ps:List Nat):Bv w=false→h.get? T=some o→o.data= .seq (ps.map fun (i:Nat)=>rawInt i).toArray c→(∀p∈ps,p<es.size)→Ln w a es ep t h (fun _=>.ref T) (ps.map fun p=>(es.getD p (0,.none)).2)
def ItAt (h:Heap) (it a:Addr) (first:Value) (i n ep:Nat):Prop:=∃o,h.get? it=some o∧o.cls= .type "set_iterator"∧o.data= .fields #[first,rawInt i,.ref a,rawInt n,rawInt ep]
theorem ItAt.typeIs {s:Shared} {it a:Addr} {first:Value} {i n ep:Nat} (x:ItAt s.heap it a first i n ep):s.TypeIs (.ref it) "set_iterator":=let ⟨o,ho,hc,_⟩:=x;⟨o,ho,hc⟩
section
variable {prog:Program} {w:World} {A:Around} {E:Value→Shared→Prop} {s:Shared} {a it:Addr} {o:Obj} {es:Array (Int×Value)} {ep i:Nat} {t:SetTable} {fst:Nat→Value} {ord:List Value}
theorem Ky {h:Heap} {first f2:Value} {n:Nat} (x:ItAt h it a first i n ep):ItAt ((h.update it (Obj.mapFields (·.setIfInBounds 0 f2))).update it (Obj.mapFields (·.setIfInBounds 1 (rawInt ((i:Int)+1))))) it a f2 (i+1) n ep:=by
 obtain⟨o,ho,hc,hd⟩:=x
 have h1:=Heap.get?_update_self (Obj.mapFields (·.setIfInBounds 0 f2)) ho (Obj.isFreed_of_fields (Obj.data_mapFields hd _))
 have hd1:=Obj.data_mapFields hd (·.setIfInBounds 0 f2)
 refine⟨_,Heap.get?_update_self _ h1 (Obj.isFreed_of_fields (Obj.data_mapFields hd1 _)),(Obj.cls_mapFields ..).trans ((Obj.cls_mapFields ..).trans hc),?_⟩
 rw[Obj.data_mapFields hd1]
 simp
theorem Ol {h:Heap} {first:Value} {n:Nat} (x:ItAt h it a first i n ep):ItAt (h.update it (Obj.mapFields (·.setIfInBounds 1 (rawInt ((i:Int)+1))))) it a first (i+1) n ep:=by
 obtain⟨o,ho,hc,hd⟩:=x
 refine⟨_,Heap.get?_update_self _ ho (Obj.isFreed_of_fields (Obj.data_mapFields hd _)),(Obj.cls_mapFields ..).trans hc,?_⟩
 rw[Obj.data_mapFields hd]
 simp
theorem IQ {Q:Option (Value×Nat)→Shared→Prop} {slot:Nat} (ho:s.heap.get? a=some o) (hd:o.data= .set es ep t) (ok:EZ (Bv w) t) (hf:t.fits es.size=true) (hb:Bv w=false) (hn:(!t.plain && decide (es.size>1))=false)
  (hs:slot=if i=0 then 0 else t.place.getD (i-1) 0+1) (hi:i≤es.size) (q:Q (match es[i]?,t.place[i]? with | some (_,x),some j=>some (x,j+1) | _,_=>none) s):wpAny (model prog w) A (setNext a slot i ep) Q E s:=by
 have hpl:t.place.size=es.size:=by
  unfold SetTable.fits at hf
  exact beq_iff_eq.mp (Bool.and_eq_true_iff.mp hf).1
 have hbel:SetTable.below t.place slot=i:=by
  rw[hs]
  split
  ·rename_i e;rw[e];exact J4 ok.up
  ·rename_i e
   have h1:i-1<t.place.size:=by omega
   have eg:=Array.getElem?_eq_getElem h1
   have ed:t.place.getD (i-1) 0=t.place[i-1]:=by simp[Array.getD,h1]
   rw[ed,Ka ok.up eg]
   omega
 unfold setNext setsByText
 refine wpAny_bind (wpAny_setState_of ho hd hf ?_)
 dsimp only
 refine wpAny_bind (wpAny_bind (wpAny_askSetting (wpAny_pure ?_)))
 show wpAny _ _ (if Bv w=true then _ else _) _ _ _
 rw[hb,if_neg Bool.false_ne_true]
 show wpAny _ _ (if (!t.plain && decide (es.size>1))=true then _ else _) _ _ _
 rw[hn,if_neg Bool.false_ne_true]
 refine wpAny_bind ?_
 show wpAny _ _ (if (!t.led && !es.isEmpty)=true then _ else _) _ _ _
 rw[ok.led,hb,if_neg (by simp)]
 refine wpAny_pure ?_
 rw[hbel]
 exact wpAny_pure q
theorem FZ {Q:Option (Value×Nat)→Shared→Prop} {slot:Nat} (ho:s.heap.get? a=some o) (hd:o.data= .set es ep t) (hf:t.fits es.size=true) (hb:Bv w=true)
  (q:Q (((pickOrder (w.params.setOrder a ep) es)[i]?).map fun e=>(e.2,slot)) s):wpAny (model prog w) A (setNext a slot i ep) Q E s:=by
 unfold setNext setsByText
 refine wpAny_bind (wpAny_setState_of ho hd hf ?_)
 dsimp only
 refine wpAny_bind (wpAny_bind (wpAny_askSetting (wpAny_pure ?_)))
 show wpAny _ _ (if Bv w=true then _ else _) _ _ _
 rw[hb,if_pos rfl]
 show wpAny _ _ (if (ep != ep)=true then _ else _) _ _ _
 rw[if_neg (by simp)]
 refine wpAny_bind ?_
 unfold setWalk setsByText
 refine wpAny_bind (wpAny_setState_of ho hd hf ?_)
 dsimp only
 refine wpAny_bind (wpAny_bind (wpAny_askSetting (wpAny_pure ?_)))
 show wpAny _ _ (if Bv w=true then _ else _) _ _ _
 rw[hb,if_pos rfl]
 refine wpAny_bind (wpAny_askSetting ?_)
 exact wpAny_pure (wpAny_pure q)
theorem L4 {Q:Value→Shared→Prop} {p:Nat} {e:Int×Value} (ho:s.heap.get? a=some o) (hd:o.data= .set es ep t) (hf:t.fits es.size=true) (hp:es[p]? = some e) (q:Q e.2 s):wpAny (model prog w) A (setNextDrawn a p ep) Q E s:=by
 unfold setNextDrawn
 refine wpAny_bind (wpAny_setState_of ho hd hf ?_)
 dsimp only
 show wpAny _ _ (if (ep != ep)=true then _ else _) _ _ _
 rw[if_neg (by simp)]
 simp only[hp]
 exact wpAny_pure q
theorem LI {x:Value} {Q:Option Value→Shared→Prop} (hit:ItAt s.heap it a (fst i) i es.size ep) (ho:s.heap.get? a=some o) (hd:o.data= .set es ep t) (ok:EZ (Bv w) t) (hf:t.fits es.size=true) (M:Ln w a es ep t s.heap fst ord) (hx:ord[i]? = some x) (hl:ord.length=es.size)
  (hQ:∀h',ItAt h' it a (fst (i+1)) (i+1) es.size ep→Heap.SameBut it s.heap h'→Q (some x) { s with heap:=h' }):wpAny (model prog w) A (pyNext (.ref it)) Q E s:=by
 obtain⟨oi,hoi,hci,hdi⟩:=id hit
 have hix:i<es.size:=by rw[←hl];exact (List.getElem?_eq_some_iff.mp hx).1
 unfold pyNext
 refine wpAny_bind (wpAny_attempt (wpAny_callSpecial?_slot (name:=Str.ofString "__next__") hit.typeIs slot_setit_next
  (wpAny_call_entry slot_setit_next hit.typeIs B5 ?_ (C0 _))))
 show wpAny _ _ (fieldsOf (.ref it) >>= _) _ _ s
 refine wpAny_bind (wpAny_fieldsOf hoi hdi ?_)
 show wpAny _ _ (setEntries a >>= _) _ _ s
 refine wpAny_bind (wpAny_setEntries_of ho hd hf ?_)
 show wpAny _ _ (if (((es.size:Nat):Int) != ((es.size:Nat):Int))=true then _ else _) _ _ _
 rw[if_neg (by simp)]
 have hd1:=fun f2:Value=>Obj.data_mapFields hdi (·.setIfInBounds 0 f2)
 have ho1:=fun f2:Value=>Heap.get?_update_self (Obj.mapFields (·.setIfInBounds 0 f2)) hoi (Obj.isFreed_of_fields (hd1 f2))
 cases M with
 | text hb=>
  rw[List.getElem?_map] at hx
  obtain⟨e,he,rfl⟩:=Option.map_eq_some_iff.mp hx
  have he':(pickOrder (w.params.setOrder a ep) es)[i]? = some e:=by simpa using he
  refine wpAny_bind (FZ (i:=i) (ep:=ep) ho hd hf hb ?_)
  rw[he']
  refine wpAny_bind (wpAny_setField hoi hdi (by simp) ?_)
  refine wpAny_bind (wpAny_setField (ho1 _) (hd1 _) (by simp) (wpAny_pure ⟨e.2,rfl,wpAny_pure (hQ _ (Ky hit) ((Heap.SameBut.update ..).trans (Heap.SameBut.update ..)))⟩))
 | led hb hn=>
  rw[List.getElem?_map] at hx
  obtain⟨e,he,rfl⟩:=Option.map_eq_some_iff.mp hx
  have he':es[i]? = some e:=by simpa using he
  have hpl:t.place.size=es.size:=by
   unfold SetTable.fits at hf
   exact beq_iff_eq.mp (Bool.and_eq_true_iff.mp hf).1
  have hp1:i<t.place.size:=by omega
  have hp:t.place[i]? = some t.place[i]:=Array.getElem?_eq_getElem hp1
  have ed:t.place.getD i 0=t.place[i]:=by simp[Array.getD,hp1]
  refine wpAny_bind (IQ (i:=i) (ep:=ep) ho hd ok hf hb hn rfl (Nat.le_of_lt hix) ?_)
  rw[he',hp]
  refine wpAny_bind (wpAny_setField hoi hdi (by simp) ?_)
  refine wpAny_bind (wpAny_setField (ho1 _) (hd1 _) (by simp) (wpAny_pure ⟨e.2,rfl,wpAny_pure (hQ _ ?_ ((Heap.SameBut.update ..).trans (Heap.SameBut.update ..)))⟩))
  have e2:rawInt (((if i+1=0 then 0 else t.place.getD (i+1-1) 0+1:Nat)):Int)=rawInt ((t.place[i]+1:Nat):Int):=by rw[if_neg (by omega),Nat.add_sub_cancel,ed]
  show ItAt _ it a (rawInt (((if i+1=0 then 0 else t.place.getD (i+1-1) 0+1:Nat)):Int)) (i+1) es.size ep
  rw[e2]
  exact Ky hit
 | drw T oT c ps hb hT hdT hps=>
  rw[List.getElem?_map] at hx
  obtain⟨p,hp,rfl⟩:=Option.map_eq_some_iff.mp hx
  have hpe:p<es.size:=hps p (List.mem_of_getElem? hp)
  have ee:es[p]? = some es[p]:=Array.getElem?_eq_getElem hpe
  have ed:es.getD p (0,.none)=es[p]:=by simp[Array.getD,hpe]
  show wpAny _ _ (seqItems? (.ref T) >>= _) _ _ _
  refine wpAny_bind (wpAny_seqItems hT hdT ?_)
  have hpi:((ps.map fun (i:Nat)=>rawInt i).toArray)[i]? = some (rawInt p):=by simp[hp]
  simp only[Int.toNat_natCast,hpi]
  refine wpAny_bind (L4 (p:=p) ho hd hf ee ?_)
  refine wpAny_bind (wpAny_setField hoi hdi (by simp) (wpAny_pure ⟨_,rfl,wpAny_pure ?_⟩))
  rw[ed] at hQ
  exact hQ _ (Ol hit) (Heap.SameBut.update ..)
theorem Nc {Q:Option Value→Shared→Prop} (hh:A.handled=none) (hit:ItAt s.heap it a (fst es.size) es.size es.size ep) (ho:s.heap.get? a=some o) (hd:o.data= .set es ep t) (ok:EZ (Bv w) t) (hf:t.fits es.size=true) (M:Ln w a es ep t s.heap fst ord) (hl:ord.length=es.size)
  (hQ:∀h',Heap.ExtBut it s.heap h'→Q none { s with heap:=h' }):wpAny (model prog w) A (pyNext (.ref it)) Q E s:=by
 obtain⟨oi,hoi,hci,hdi⟩:=id hit
 unfold pyNext
 refine wpAny_bind (wpAny_attempt (wpAny_callSpecial?_slot (name:=Str.ofString "__next__") hit.typeIs slot_setit_next
  (wpAny_call_entry slot_setit_next hit.typeIs B5 ?_ (C0 _))))
 show wpAny _ _ (fieldsOf (.ref it) >>= _) _ _ s
 refine wpAny_bind (wpAny_fieldsOf hoi hdi ?_)
 show wpAny _ _ (setEntries a >>= _) _ _ s
 refine wpAny_bind (wpAny_setEntries_of ho hd hf ?_)
 show wpAny _ _ (if (((es.size:Nat):Int) != ((es.size:Nat):Int))=true then _ else _) _ _ _
 rw[if_neg (by simp)]
 have hd1:=fun f2:Value=>Obj.data_mapFields hdi (·.setIfInBounds 0 f2)
 have ho1:=fun f2:Value=>Heap.get?_update_self (Obj.mapFields (·.setIfInBounds 0 f2)) hoi (Obj.isFreed_of_fields (hd1 f2))
 cases M with
 | text hb=>
  have he':(pickOrder (w.params.setOrder a ep) es)[es.size]? = none:=by
   rw[List.length_map,Array.length_toList] at hl
   simp[hl]
  refine wpAny_bind (FZ (i:=es.size) (ep:=ep) ho hd hf hb ?_)
  rw[he']
  refine wpAny_bind (wpAny_setField hoi hdi (by simp) ?_)
  refine wpAny_bind ?_
  simp only[newExc,newTuple]
  refine wpAny_bind (wpAny_newObj_type ?_ (by size_fits))
  refine wpAny_bind (m:=firstArgMember _ _) (wpAny_of_eq (a:=Value.none) (by first | rfl | (simp only[firstArgMember];rfl)) ?_)
  refine wpAny_newObj_type ?_ (by size_fits)
  simp only[raiseNew]
  refine wpAny_bind (wpAny_handled ?_)
  rw[show A.in1.handled=none from hh]
  refine wpAny_bind (wpAny_pure (wpAny_throw ?_))
  refine wpAny_bind (wpAny_isInstance (T:="StopIteration") (b:=true) ⟨_,Heap.get?_push_size _ rfl,rfl⟩ isSubtype_stop ?_)
  exact wpAny_pure (hQ _ (((Heap.SameBut.update ..).extBut.push _).push _))
 | led hb hn=>
  have he':es[es.size]? = none:=by simp
  refine wpAny_bind (IQ (i:=es.size) (ep:=ep) ho hd ok hf hb hn rfl (Nat.le_refl _) ?_)
  rw[he']
  refine wpAny_bind (wpAny_setField hoi hdi (by simp) ?_)
  refine wpAny_bind ?_
  simp only[newExc,newTuple]
  refine wpAny_bind (wpAny_newObj_type ?_ (by size_fits))
  refine wpAny_bind (m:=firstArgMember _ _) (wpAny_of_eq (a:=Value.none) (by first | rfl | (simp only[firstArgMember];rfl)) ?_)
  refine wpAny_newObj_type ?_ (by size_fits)
  simp only[raiseNew]
  refine wpAny_bind (wpAny_handled ?_)
  rw[show A.in1.handled=none from hh]
  refine wpAny_bind (wpAny_pure (wpAny_throw ?_))
  refine wpAny_bind (wpAny_isInstance (T:="StopIteration") (b:=true) ⟨_,Heap.get?_push_size _ rfl,rfl⟩ isSubtype_stop ?_)
  exact wpAny_pure (hQ _ (((Heap.SameBut.update ..).extBut.push _).push _))
 | drw T oT c ps hb hT hdT hps=>
  rw[List.length_map] at hl
  show wpAny _ _ (seqItems? (.ref T) >>= _) _ _ _
  refine wpAny_bind (wpAny_seqItems hT hdT ?_)
  have hpi:((ps.map fun (i:Nat)=>rawInt i).toArray)[es.size]? = none:=by simp[hl]
  simp only[Int.toNat_natCast,hpi]
  refine wpAny_bind (wpAny_setField hoi hdi (by simp) ?_)
  refine wpAny_bind (wpAny_setField (ho1 _) (hd1 _) (by simp) ?_)
  refine wpAny_bind ?_
  simp only[newExc,newTuple]
  refine wpAny_bind (wpAny_newObj_type ?_ (by size_fits))
  refine wpAny_bind (m:=firstArgMember _ _) (wpAny_of_eq (a:=Value.none) (by first | rfl | (simp only[firstArgMember];rfl)) ?_)
  refine wpAny_newObj_type ?_ (by size_fits)
  simp only[raiseNew]
  refine wpAny_bind (wpAny_handled ?_)
  rw[show A.in1.handled=none from hh]
  refine wpAny_bind (wpAny_pure (wpAny_throw ?_))
  refine wpAny_bind (wpAny_isInstance (T:="StopIteration") (b:=true) ⟨_,Heap.get?_push_size _ rfl,rfl⟩ isSubtype_stop ?_)
  exact wpAny_pure (hQ _ ((((Heap.SameBut.update ..).trans (Heap.SameBut.update ..)).extBut.push _).push _))
end
end L2
namespace L2
open PySem PySem.Spec PyProof.Rows
theorem CZ {α:Type}:∀(l:List α) (i:Nat) (h:i<l.length),(l[i]::l.eraseIdx i).Perm l
 | x::xs,0,_=>List.Perm.refl _
 | x::xs,i+1,h=>by
  have h':i<xs.length:=Nat.lt_of_succ_lt_succ h
  exact (List.Perm.swap x xs[i] (xs.eraseIdx i)).trans (List.Perm.cons x (CZ xs i h'))
theorem Gh {α:Type} (next:Nat→Nat):∀(fuel k:Nat) (left:List α) (out:Array α),fuel=left.length→(pickOrder.go next fuel k left out).toList.Perm (out.toList++left)
 | 0,_,left,out,h=>by
  have e:left=[]:=List.length_eq_zero_iff.mp h.symm
  subst e
  unfold pickOrder.go
  simp
 | fuel+1,k,left,out,h=>by
  unfold pickOrder.go
  have hp:0<left.length:=by omega
  have hi:next k%left.length<left.length:=Nat.mod_lt _ hp
  rw[List.getElem?_eq_getElem hi]
  have hl:fuel=(left.eraseIdx (next k%left.length)).length:=by rw[List.length_eraseIdx,if_pos hi];omega
  refine (Gh next fuel (k+1) _ _ hl).trans ?_
  rw[Array.toList_push,List.append_assoc]
  exact List.Perm.append_left _ (CZ _ _ hi)
theorem Dh {α:Type} (next:Nat→Nat) (xs:Array α):(pickOrder next xs).toList.Perm xs.toList:=by
 unfold pickOrder
 have:=Gh next xs.size 0 xs.toList #[] (Array.length_toList).symm
 simpa using this
section
variable {prog:Program} {w:World} {A:Around} {E:Value→Shared→Prop} {s:Shared} {a it T0:Addr} {o oT:Obj} {es:Array (Int×Value)} {ep i:Nat} {t:SetTable} {fst:Nat→Value} {ord:List Value} {ks:List Int}
theorem HU {M:Model} {src:Source} {n:Nat} {Q:Nat→Shared→Prop} (hn:n≠0) (h:∀i,i<n→Q i { s with drawn:=s.drawn.bump src }):wpAny M A (choose src n) Q E s:=
 fun Γ p _=>⟨hn,h _ (Nat.mod_lt _ (Nat.pos_of_ne_zero hn))⟩
theorem J2 {α:Type} {M:Model}:∀(n:Nat) (xs:List α) (s:Shared) (Q:List α→Shared→Prop),xs.length=n→(∀ys d',ys.Perm xs→Q ys { s with drawn:=d' })→wpAny M A (drawOrder n xs) Q E s:=by
 intro n
 induction n with
 | zero=>
  intro xs s Q h q
  have e:xs=[]:=List.length_eq_zero_iff.mp h
  subst e
  exact wpAny_pure (q [] s.drawn (List.Perm.refl _))
 | succ n ih=>
  intro xs s Q h q
  cases xs with
  | nil=>exact absurd h (Nat.succ_ne_zero n).symm
  | cons x xs=>
   unfold drawOrder
   refine wpAny_bind (HU (by simp) fun i hi=>?_)
   rw[List.getElem?_eq_getElem hi]
   have hl:((x::xs).eraseIdx i).length=n:=by rw[List.length_eraseIdx,if_pos hi,h];rfl
   refine wpAny_bind (ih _ _ _ hl fun ys d' hp=>?_)
   exact wpAny_pure (q _ d' ((List.Perm.cons _ hp).trans (CZ _ _ hi)))
structure Qu (w:World) (s:Shared) (a:Addr) (ks:List Int) (h':Heap) (it T0:Addr) (o oT:Obj) (es:Array (Int×Value)) (ep:Nat) (t:SetTable) (fst:Nat→Value) (ord:List Value):Prop where
 lo:s.heap.objs.size≤it
 kk:∀b o,s.heap.get? b=some o→h'.get? b=some o
 at':ItAt h' it a (fst 0) 0 es.size ep
 ho:h'.get? a=some o
 hd:o.data= .set es ep t
 ok:EZ (Bv w) t
 hf:t.fits es.size=true
 hT:h'.get? T0=some oT
 ne:T0≠it
 md:∀h'',h''.get? T0=some oT→Ln w a es ep t h'' fst ord
 pm:ord.Perm (es.toList.map (·.2))
 eg:EGood es.toList
 ek:es.toList.map AX=ks
 tl:T0=a∨s.heap.objs.size≤T0
theorem M1 {Q:Value→Shared→Prop} (hS:SetIt w s.heap a ks) (hQ:∀h' d' it T0 o oT es ep t fst ord,Qu w s a ks h' it T0 o oT es ep t fst ord→Q (.ref it) { s with heap:=h',drawn:=d' }):wpAny (model prog w) A (pyIter (.ref a)) Q E s:=by
 obtain⟨o,es,ep,t,ho,hex,hd,hg,hk,nd,hl,ok,hf⟩:=id hS
 have hna:a<s.heap.objs.size:=Heap.lt_size ho
 refine wpAny_pyIter_slot hS.typeIs PySem.F.slot_set_iter (wpAny_call_entry PySem.F.slot_set_iter hS.typeIs Fx ?_ (PySem.F.args_set_iter_1 _))
 show wpAny _ _ (Builtin.Frozenset.sizeOf a >>= _) _ _ s
 refine wpAny_bind ?_
 unfold Builtin.Frozenset.sizeOf
 refine wpAny_bind (wpAny_setEntries_of ho hd hf (wpAny_pure ?_))
 refine wpAny_bind ?_
 unfold setDrawn setsByText
 refine wpAny_bind (wpAny_setState_of ho hd hf ?_)
 dsimp only
 refine wpAny_bind (wpAny_bind (wpAny_askSetting (wpAny_pure (wpAny_pure ?_))))
 show wpAny _ _ (if (!Bv w && (!t.plain && decide (es.size>1)))=true then _ else _) _ _ _
 by_cases hdr:(!Bv w && (!t.plain && decide (es.size>1)))=true
 ·rw[if_pos hdr]
  have hb:Bv w=false:=by
   cases q:Bv w with
   | false=>rfl
   | true=>rw[q] at hdr;cases hdr
  refine wpAny_bind (J2 _ _ _ _ (List.length_range) fun ps d' hp=>?_)
  refine wpAny_bind (wpAny_newTuple ?_ (by rw[List.length_map,hp.length_eq,List.length_range,Cl hk];exact Nat.le_of_lt (Nat.lt_trans hl (by decide))))
  have kk:∀b ob,s.heap.get? b=some ob→(s.heap.push { cls:=.type "tuple",data:=.seq (ps.map fun (i:Nat)=>rawInt i).toArray }).get? b=some ob:=fun b ob e=>Heap.get?_push_of_some _ e
  refine wpAny_bind ?_
  unfold setEpoch
  refine wpAny_bind (wpAny_setState_of (kk _ _ ho) hd hf (wpAny_pure ?_))
  refine wpAny_bind (wpAny_newObj_type (wpAny_pure ⟨_,rfl,"set_iterator",_,⟨_,Heap.get?_push_size _ rfl,rfl⟩,slot_setit_next.lookup,?_⟩))
  refine hQ _ d' _ s.heap.objs.size o _ es ep t (fun _=>.ref s.heap.objs.size) _ ⟨?_,fun b ob e=>Heap.get?_push_of_some _ (kk b ob e),⟨_,Heap.get?_push_size _ rfl,rfl,rfl⟩,Heap.get?_push_of_some _ (kk _ _ ho),hd,ok,hf,Heap.get?_push_of_some _ (Heap.get?_push_size _ rfl),?_,fun h'' e=>.drw _ _ _ ps hb e rfl ?_,?_,hg,hk,.inr (Nat.le_refl _)⟩
  ·rw[Heap.size_push];exact Nat.le_succ _
  ·rw[Heap.size_push];exact Nat.ne_of_lt (Nat.lt_succ_self _)
  ·exact fun p hp'=>List.mem_range.mp (hp.mem_iff.mp hp')
  ·refine (hp.map _).trans ?_
   have e:(List.range es.size).map (fun p=>(es.getD p (0,.none)).2)=es.toList.map (·.2):=by
    refine List.ext_getElem (by simp) fun n h1 h2=>?_
    have hn:n<es.size:=by simpa using h1
    simp[Array.getD,hn]
   rw[e]
 ·rw[if_neg hdr]
  refine wpAny_bind (wpAny_pure ?_)
  refine wpAny_bind ?_
  unfold setEpoch
  refine wpAny_bind (wpAny_setState_of ho hd hf (wpAny_pure ?_))
  refine wpAny_bind (wpAny_newObj_type (wpAny_pure ⟨_,rfl,"set_iterator",_,⟨_,Heap.get?_push_size _ rfl,rfl⟩,slot_setit_next.lookup,?_⟩))
  have kk:∀b ob,s.heap.get? b=some ob→(s.heap.push { cls:=.type "set_iterator",data:=.fields #[rawInt 0,rawInt 0,.ref a,rawInt es.size,rawInt ep] }).get? b=some ob:=fun b ob e=>Heap.get?_push_of_some _ e
  cases hb:Bv w with
  | true=>
   refine hQ _ s.drawn _ a o o es ep t (fun _=>rawInt 0) _ ⟨Nat.le_refl _,kk,⟨_,Heap.get?_push_size _ rfl,rfl,rfl⟩,kk _ _ ho,hd,ok,hf,kk _ _ ho,Nat.ne_of_lt hna,fun h'' e=>.text hb,(Dh _ _).map _,hg,hk,.inl rfl⟩
  | false=>
   rw[hb] at hdr
   refine hQ _ s.drawn _ a o o es ep t (fun i=>rawInt (((if i=0 then 0 else t.place.getD (i-1) 0+1:Nat)):Int)) _ ⟨Nat.le_refl _,kk,⟨_,Heap.get?_push_size _ rfl,rfl,rfl⟩,kk _ _ ho,hd,ok,hf,kk _ _ ho,Nat.ne_of_lt hna,fun h'' e=>.led hb (by simpa using hdr),List.Perm.refl _,hg,hk,.inl rfl⟩
theorem Mj (hh:A.handled=none) {ks:List Int} {s0:Shared} {h0:Heap} (I:Qu w s0 a ks h0 it T0 o oT es ep t fst ord):Walks prog w A it [it,a,T0] [it] es.size (fun i v=>ord[i]? = some v) (fun i h=>ItAt h it a (fst i) i es.size ep∧h.get? a=some o∧h.get? T0=some oT):=by
 have hl:ord.length=es.size:=by rw[I.pm.length_eq,List.length_map,Array.length_toList]
 have na:a≠it:=fun e=>by
  obtain⟨oi,h1,_,h3⟩:=I.at'
  subst e
  rw[I.ho] at h1;cases h1
  rw[I.hd] at h3;cases h3
 refine⟨fun b hb=>by simp at hb;simp[hb],fun i h h' st k=>?_,fun i s Q E hi st hQ=>?_,fun s Q E st hQ=>?_,fun i s Q E st hQ=>?_⟩
 ·obtain⟨⟨oi,h1,r⟩,h2,h3⟩:=st
  exact⟨⟨oi,k it (by simp) _ h1,r⟩,k a (by simp) _ h2,k T0 (by simp) _ h3⟩
 ·obtain⟨h1,h2,h3⟩:=st
  have hx:ord[i]? = some ord[i]:=List.getElem?_eq_getElem (by omega)
  refine LI h1 h2 I.hd I.ok I.hf (I.md _ h3) hx hl fun h' it' sb=>?_
  exact hQ _ h' s.toks hx ⟨it',(sb.2 a na).trans h2,(sb.2 T0 I.ne).trans h3⟩ fun b ob hb e=>(sb.2 b (by simpa using hb)).trans e
 ·obtain⟨h1,h2,h3⟩:=st
  refine Nc hh h1 h2 I.hd I.ok I.hf (I.md _ h3) hl fun h' eb=>?_
  exact hQ h' s.toks fun b ob hb e=>eb b ob (by simpa using hb) e
 ·obtain⟨h1,h2,h3⟩:=st
  refine wpAny_pyIter_slot h1.typeIs Da (wpAny_call_entry Da h1.typeIs EN ?_ (E3 _))
  exact wpAny_pure ⟨_,rfl,"set_iterator",_,h1.typeIs,slot_setit_next.lookup,hQ⟩
end
end L2
namespace L2
open PySem PySem.Spec PyProof.Rows
theorem MS {es:Array (Int×Value)} {ord:List Value} {ks:List Int} (pm:ord.Perm (es.toList.map (·.2))) (eg:EGood es.toList) (ek:es.toList.map AX=ks):∃ns,IntsAre ord ns∧ns.Perm ks:=by
 let vk:Value→Int:=fun v=>match v with | .int k _=>k | _=>0
 have each:∀v∈ord,∃t,v= .int (vk v) t:=fun v hv=>by
  obtain⟨e,he,rfl⟩:=List.mem_map.mp (pm.mem_iff.mp hv)
  obtain⟨_,t,h2⟩:=eg e he
  exact⟨t,h2⟩
 refine⟨ord.map vk,?_,?_⟩
 ·clear pm
  induction ord with
  | nil=>exact .nil
  | cons v r ih=>
   obtain⟨t,e⟩:=each v List.mem_cons_self
   have:=ih fun x hx=>each x (List.mem_cons_of_mem _ hx)
   rw[List.map_cons]
   generalize vk v=k at e
   subst e
   exact .cons k t this
 ·refine (pm.map vk).trans ?_
  rw[List.map_map,←ek]
  exact List.Perm.refl _
section
variable {prog:Program} {w:World} {A:Around} {E:Value→Shared→Prop} {s:Shared} {a:Addr} {ks:List Int}
theorem MV {Q:Bool→Shared→Prop} (hS:SetIt w s.heap a ks) (q:Q false s):wpAny (model prog w) A (Builtin.List.listLengthHint (.ref a)) Q E s:=by
 unfold Builtin.List.listLengthHint
 refine wpAny_bind (wpAny_specialOf hS.typeIs slot_set_len'.lookup ?_)
 have hsp:splitId "set.__len__"=some ("set","__len__"):=by decide +kernel
 simp only[hsp]
 refine wpAny_bind (wpAny_isInstance hS.typeIs sub_set_self ?_)
 rw[if_neg (by simp)]
 show wpAny _ _ (typeOf (.ref a) >>= _) _ _ _
 refine wpAny_bind (wpAny_typeOf hS.typeIs ?_)
 exact wpAny_pure q
theorem Ir {Q:List Value→Shared→Prop} (hh:A.handled=none) (hS:SetIt w s.heap a ks) (hQ:∀(s':Shared) (acc:List Value) (ns:List Int),s.heap.objs.size≤s'.heap.objs.size→(∀b o,s.heap.get? b=some o→s'.heap.get? b=some o)→s'.gens=s.gens→s'.os=s.os→IntsAre acc ns→ns.Perm ks→Q acc s') :
  wpAny (model prog w) A (collect (.ref a)) Q E s:=by
 obtain⟨o0,es0,ep0,t0,ho0,_,_,_,hk0,_,hl0,_⟩:=id hS
 have hlt:a<s.heap.objs.size:=Heap.lt_size ho0
 unfold collect
 refine wpAny_bind (wpAny_runValue (codeAny_builtin F.entry_proto_collect ?_))
 rw[Around.under_plainId F.plain_proto_collect _]
 show wpAny _ A.in1 (newList [] >>= fun l=>again (.builtin "list.__iadd__" ⟨[l,.ref a],[]⟩)) _ _ s
 refine wpAny_bind (wpAny_newObj_type ?_)
 refine wpAny_pure ⟨plainId_quiet F.plain_list_iadd _,codeAny_builtin F.entry_list_iadd ?_⟩
 rw[Around.under_plainId F.plain_list_iadd _]
 have kk1:∀b ob,s.heap.get? b=some ob→(s.heap.push { cls:=.type "list",data:=.seq ([]:List Value).toArray }).get? b=some ob:=fun b ob e=>Heap.get?_push_of_some _ e
 have hS1:SetIt w ({ s with heap:=s.heap.push { cls:=.type "list",data:=.seq ([]:List Value).toArray } }:Shared).heap a ks:=hS.keep fun ob e=>kk1 _ _ e
 show wpAny _ A.in1 (Builtin.List.listExtendWith (.ref s.heap.objs.size) (.ref a) (.ref s.heap.objs.size)) _ _ _
 unfold Builtin.List.listExtendWith
 refine wpAny_bind (wpAny_typeOf hS1.typeIs ?_)
 have h1:Builtin.List.listSameRef (.ref s.heap.objs.size) (.ref a)=false:=by simp[Builtin.List.listSameRef];exact Nat.ne_of_gt hlt
 have h2:(Value.type "set" == Value.type "list")=false:=by decide
 have h3:(Value.type "set" == Value.type "tuple")=false:=by decide
 simp only[h1,h2,h3,Bool.or_false,Bool.false_eq_true,if_false]
 refine wpAny_bind (M1 hS1 fun h' d' it T0 o oT es ep t fst ord I=>?_)
 have hS2:SetIt w ({ s with heap:=h',drawn:=d' }:Shared).heap a ks:=hS1.keep fun ob e=>I.kk _ _ e
 refine wpAny_bind (wpAny_holding (MV (s:={ s with heap:=h',drawn:=d' }) hS2 ?_))
 show wpAny _ A.in1 (rule "list.extend.makes-room" >>= fun _=>Builtin.List.listTouch (.ref s.heap.objs.size) >>= fun _=>
  again (.builtin "list.extend.loop" ⟨[.ref s.heap.objs.size,.ref it,.ref s.heap.objs.size],[]⟩)) _ _ _
 refine wpAny_bind (wpAny_rule ?_)
 have hS₁:h'.get? s.heap.objs.size=some { cls:=.type "list",data:=.seq ([]:List Value).toArray }:=I.kk _ _ (Heap.get?_push_size _ rfl)
 refine wpAny_bind ?_
 show wpAny _ A.in1 (updateSeq s.heap.objs.size (·.push .none) >>= fun _=>updateSeq s.heap.objs.size (·.pop)) _ _ _
 refine wpAny_bind (wpAny_updateSeq hS₁ rfl ?_)
 have hS₂:=Heap.get?_update_self (Obj.mapSeq (·.push Value.none)) hS₁ rfl
 refine wpAny_updateSeq hS₂ rfl ?_
 have hS₃:=Heap.get?_update_self (Obj.mapSeq (·.pop)) hS₂ rfl
 have oth:∀b ob,b≠s.heap.objs.size→h'.get? b=some ob→((h'.update s.heap.objs.size (Obj.mapSeq (·.push Value.none))).update s.heap.objs.size (Obj.mapSeq (·.pop))).get? b=some ob:=
  fun b ob hb e=>(Heap.get?_update_other _ _ (Ne.symm hb)).trans ((Heap.get?_update_other _ _ (Ne.symm hb)).trans e)
 have esz:({ s with heap:=s.heap.push { cls:=.type "list",data:=.seq ([]:List Value).toArray } }:Shared).heap.objs.size=s.heap.objs.size+1:=Heap.size_push _ _
 have nit:it≠s.heap.objs.size:=Nat.ne_of_gt (by have:=I.lo;rw[esz] at this;exact this)
 have nT:T0≠s.heap.objs.size:=by
  rcases I.tl with z | z
  ·rw[z];exact Nat.ne_of_lt hlt
  ·exact Nat.ne_of_gt (by rw[esz] at z;exact z)
 have hSf:s.heap.objs.size∉[it,a,T0]:=by
  simp only[List.mem_cons,List.not_mem_nil,or_false,not_or]
  exact⟨Ne.symm nit,Nat.ne_of_gt hlt,Ne.symm nT⟩
 have W:=(Mj (prog:=prog) (A:=A.in1) (by simpa using hh) I).toS
 have hn:es.size≤sizeLine:=by rw[Cl I.ek];exact Nat.le_of_lt (Nat.lt_trans hl0 (by decide))
 obtain⟨oi,hoi,ri⟩:=I.at'
 refine wpAny_pure ⟨plainId_quiet F.plain_extend_loop _,codeAny_extend_loopS W hn _ hSf _ es.size 0 _ _ _ rfl (Nat.zero_le _) ⟨⟨oi,oth _ _ nit hoi,ri⟩,oth _ _ (Nat.ne_of_lt hlt) I.ho,oth _ _ nT I.hT⟩ hS₃ (ItemsOf.nil _) fun s' acc' c' hm hS' hacc=>?_⟩
 show wpAny _ A (load s.heap.objs.size >>= _) _ _ s'
 refine wpAny_bind (wpAny_load hS' ?_)
 have hl:ord.length=es.size:=by rw[I.pm.length_eq,List.length_map,Array.length_toList]
 have eo:acc'.toList=ord:=by
  refine List.ext_getElem (by rw[Array.length_toList,hacc.1,hl]) fun n h1 h2=>?_
  have hn1:n<acc'.size:=by simpa using h1
  have:ord[n]? = some acc'[n]:=hacc.2 n _ (Array.getElem?_eq_getElem hn1)
  rw[List.getElem?_eq_getElem h2] at this
  have:=Option.some.inj this
  simpa using this.symm
 obtain⟨ns,hi,hp⟩:=MS I.pm I.eg I.ek
 refine wpAny_pure (hQ s' acc'.toList ns (Nat.le_of_lt (Heap.lt_size hS')) (fun b ob e=>?_) hm.gens hm.os (by rw[eo];exact hi) hp)
 have hb:b<s.heap.objs.size:=Heap.lt_size e
 refine hm.heap b ob ?_ (oth b ob (Nat.ne_of_lt hb) (I.kk _ _ (kk1 _ _ e)))
 simp only[List.mem_cons,List.not_mem_nil,or_false,not_or]
 exact⟨Nat.ne_of_lt hb,Nat.ne_of_lt (Nat.lt_trans hb (by have:=I.lo;rw[esz] at this;exact this))⟩
theorem Jz {Q:Value→Shared→Prop} (hh:A.handled=none) (hS:SetIt w s.heap a ks) (h64:ks.length<64)
  (h:∀(s':Shared) (l:Addr) (out:Array Value) (n:Nat) (ns:List Int),(∀b o,s.heap.get? b=some o→s'.heap.get? b=some o)→s'.gens=s.gens→s'.os=s.os→s.heap.objs.size≤l→s'.heap.get? l=some (seqObj "list" out n)→IntsAre out.toList ns→ns.Perm ks→ns.Pairwise (· ≤ ·)→Q (.ref l) s') :
  wpAny (model prog w) A (call (.builtin "sorted") [.ref a]) Q E s:=by
 refine Calls.call_function_entry kind_sorted plain_sorted entry_sorted (args_sorted1 _) ?_
 unfold Builtin.«sorted»
 refine wpAny_bind (m:=checkCount "sorted" 1 1 _) (wpAny_pure ?_)
 refine wpAny_bind (Ir (by simpa using hh) hS fun s1 vs ns1 lo kk eg eo hi hp=>?_)
 have hlen:vs.length<64:=by rw[IntsAre.length hi,hp.length_eq];exact h64
 refine wpAny_bind (wpAny_newList ?_ (Nat.le_of_lt (Nat.lt_trans hlen (by decide))))
 have hoL:(s1.heap.push (seqObj "list" vs.toArray 0)).get? s1.heap.objs.size=some (seqObj "list" vs.toArray 0):=Heap.get?_push_size _ rfl
 show wpAny _ _ _ _ _ { s1 with heap:=s1.heap.push (seqObj "list" vs.toArray 0) }
 refine wpAny_bind (wpAny_holding (wpAny_call_entry slot_list_sort ⟨_,hoL,rfl⟩ entry_list_sort (list_sort_tree hoL hi hlen fun out ns' a1 a2 a3=>⟨_,rfl,?_⟩) (args_list_sort _)))
 refine wpAny_pure ⟨_,rfl,?_⟩
 obtain⟨e1,ho1⟩:∃e1,((s1.heap.push (seqObj "list" vs.toArray 0)).update s1.heap.objs.size (Obj.mapSeq fun _=>#[])).get? s1.heap.objs.size=some (seqObj "list" #[] e1):=⟨_,get?_update_seq hoL (fun _=>#[])⟩
 have ho2:((((s1.heap.push (seqObj "list" vs.toArray 0)).update s1.heap.objs.size (Obj.mapSeq fun _=>#[])).push (seqObj "tuple" vs.toArray 0)).push (seqObj "list" #[] 0)).get? s1.heap.objs.size=some (seqObj "list" #[] e1):=Heap.get?_push_of_some _ (Heap.get?_push_of_some _ ho1)
 refine h _ s1.heap.objs.size out _ ns' (fun b ob e=>?_) eg eo lo (get?_update_seq ho2 (fun _=>out)) a1 (a2.trans hp) a3
 have e2:=kk b ob e
 have nb:b≠s1.heap.objs.size:=Nat.ne_of_lt (Heap.lt_size e2)
 exact (Heap.get?_update_other _ _ (Ne.symm nb)).trans (Heap.get?_push_of_some _ (Heap.get?_push_of_some _ ((Heap.get?_update_other _ _ (Ne.symm nb)).trans (Heap.get?_push_of_some _ e2))))
end
end L2
namespace L2
open PySem PySem.Spec PyProof.Rows
abbrev Be (w:World) (a:Addr) (S:Int→Bool) (n:Nat):HO:=.ext fun h=>∃ks,SetIs w h a ks∧(∀k,S k=true↔k∈ks)∧ks.length≤n
theorem DG {P:Program} {w:World} {H:Hp} {h:Heap} {a:Addr} {S:Int→Bool} {n:Nat} {ks:List Int} (x:SetIs w h a ks) (m:∀k,S k=true↔k∈ks) (hl:ks.length≤n):ObjOk P w H h a (Be w a S n):=
 ⟨⟨ks,x,m,hl⟩,let ⟨o,_,_,_,ho,_⟩:=x;⟨o,ho⟩,fun h1 h2 ⟨ks,y,r⟩ k=>⟨ks,y.keep k,r⟩⟩
section
variable {X:Cx}
theorem Inv.setO {pins:List (Addr×Obj)} {σ:St} {H:Hp} {s:Shared} {a:Addr} {S:Int→Bool} {n:Nat} (I:Inv X pins σ H s) (h:H a=some (Be X.w a S n)):∃ks,SetIs X.w s.heap a ks∧(∀k,S k=true↔k∈ks)∧ks.length≤n:=(I.hok _ _ h).1
theorem LU:BK X (.type "set") (fun xs H Q=>xs=[]∧∀a,H a=none→Q (.ref a) (AA H a (Be X.w a (fun _=>false) 0))):=by
 intro pins s σ H xs us Q I r h
 obtain⟨rfl,q⟩:=h
 cases r
 refine Mv (w:=X.w) ⟨.ref s.heap.objs.size,_,I.laid (t':=s.toks) (o:=Be X.w s.heap.objs.size (fun _=>false) 0) (fun b ob e=>Heap.get?_push_of_some _ e) (Nat.le_refl _) ?_,rfl,q _ (I.hok.fresh (Nat.le_refl _))⟩
 exact DG set0_is (fun k=>by simp) (Nat.le_refl _)
abbrev LM (w:World) (a:Addr) (S:Int→Bool) (n:Nat):HO:=.ext fun h=>∃ks,SetIt w h a ks∧(∀k,S k=true↔k∈ks)∧ks.length≤n
theorem NW {P:Program} {w:World} {H:Hp} {h:Heap} {a:Addr} {S:Int→Bool} {n:Nat} {ks:List Int} (x:SetIt w h a ks) (m:∀k,S k=true↔k∈ks) (hl:ks.length≤n):ObjOk P w H h a (LM w a S n):=
 ⟨⟨ks,x,m,hl⟩,let ⟨o,_,_,_,ho,_⟩:=x;⟨o,ho⟩,fun h1 h2 ⟨ks,y,r⟩ k=>⟨ks,y.keep k,r⟩⟩
theorem Inv.setR {pins:List (Addr×Obj)} {σ:St} {H:Hp} {s:Shared} {a:Addr} {S:Int→Bool} {n:Nat} (I:Inv X pins σ H s) (h:H a=some (LM X.w a S n)):∃ks,SetIt X.w s.heap a ks∧(∀k,S k=true↔k∈ks)∧ks.length≤n:=(I.hok _ _ h).1
theorem EY (hc:X.calm=true) {pins:List (Addr×Obj)} {s:Shared} {σ:St} {H:Hp} {Q:VK} {a:Addr} {ks:List Int} {S:Int→Bool} {n:Nat} (I:Inv X pins σ H s) (hS:SetIt X.w s.heap a ks) (hm:∀k,S k=true↔k∈ks) (hl:ks.length≤n) (hn:n<64)
  (q:∀(l:Addr) (ns:List Int),H l=none→ns.Pairwise (· < ·)→(∀k,k∈ns↔S k=true)→Q (.ref l) (AA H l (.lst (ns.map V.int)))):wpAny (model X.prog X.w) X.A (call (.builtin "sorted") [.ref a]) (EP X pins σ Q) X.xe s:=by
 have ndk:ks.Nodup:=let ⟨_,_,_,_,_,_,_,_,_,nd,_⟩:=hS;nd
 refine Jz (w:=X.w) (I.ok.hd hc) hS (by omega) fun s' l out c ns kk eg eo lo hl' hi hp hs=>?_
 have nd:ns.Nodup:=hp.nodup_iff.mpr ndk
 have lt:ns.Pairwise (· < ·):=(List.Pairwise.and hs nd).imp fun {x y} h=>by have h1:=h.1;have h2:=h.2;omega
 have hnone:H l=none:=I.hok.fresh lo
 have old:∀b u,H b=some u→AA H l (.lst (ns.map V.int)) b=some u:=fun b u e=>by rw[Az (Ay e hnone)];exact e
 have len:(ns.map V.int).length≤sizeLine:=by
  rw[List.length_map,hp.length_eq]
  exact Nat.le_of_lt (Nat.lt_of_le_of_lt hl (Nat.lt_trans hn (by decide)))
 have un:Un (Fz X.stack) [] H (AA H l (.lst (ns.map V.int))) s.heap s'.heap:=
  ⟨fun b o e _ _ _=>kk b o e,fun b o e _ _ _=>⟨o.slots,kk b o e⟩,fun b o e n _=>by rw[Az (Nat.ne_of_lt (Nat.lt_of_lt_of_le (Heap.lt_size e) lo))];exact n,fun b o e _=>⟨o,kk b o e⟩,fun b xs e=>old b _ e,fun b o u e=>old b _ e,fun b ps e=>⟨#[],by rw[old b _ e];simp⟩⟩
 have hok:HOk X.prog X.w (AA H l (.lst (ns.map V.int))) s'.heap:=fun b u e=>by
  by_cases z:b=l
  ·subst z
   rw[Ac] at e
   cases e
   exact⟨len,out.toList,c,Ep hi,by rw[hl',Array.toArray_toList]⟩
  ·rw[Az z] at e
   exact (I.hok b u e).stay (fun c v _ e=>kk c v e) (fun c e=>old c _ e) fun c xs e=>old c _ e
 exact⟨.ref l,_,I.call' (ch:=[]) eo un hok (by rw[eg];exact I.bare) (fun b hb=>absurd hb (by simp)),rfl,q l ns hnone lt fun k=>by rw[hp.mem_iff];exact (hm k).symm⟩
theorem Co (hc:X.calm=true):BK X (.builtin "sorted") (fun xs H Q=>∃a S n,xs=[.ref a]∧H a=some (Be X.w a S n)∧n<64∧∀(l:Addr) (ns:List Int),H l=none→ns.Pairwise (· < ·)→(∀k,k∈ns↔S k=true)→Q (.ref l) (AA H l (.lst (ns.map V.int)))):=by
 intro pins s σ H xs us Q I r h
 obtain⟨a,S,n,rfl,ha,hn,q⟩:=h
 obtain⟨u,rfl,ru⟩:=Dd r
 cases ru
 obtain⟨ks,hS,hm,hl⟩:=I.setO ha
 exact EY hc I hS.it hm hl hn q
theorem Hr (hc:X.calm=true):BK X (.builtin "sorted") (fun xs H Q=>∃a S n,xs=[.ref a]∧H a=some (LM X.w a S n)∧n<64∧∀(l:Addr) (ns:List Int),H l=none→ns.Pairwise (· < ·)→(∀k,k∈ns↔S k=true)→Q (.ref l) (AA H l (.lst (ns.map V.int)))):=by
 intro pins s σ H xs us Q I r h
 obtain⟨a,S,n,rfl,ha,hn,q⟩:=h
 obtain⟨u,rfl,ru⟩:=Dd r
 cases ru
 obtain⟨ks,hS,hm,hl⟩:=I.setR ha
 exact EY hc I hS hm hl hn q
variable {o e:Expr} {es:List Expr} {to:TE} {t:TA} {apos cpos:Pos}
def QK (X:Cx) (to:TE) (t:TA):TE:=fun σ H Q=>to σ H fun x H1=>∃a S n,x= .ref a∧H1 a=some (Be X.w a S n)∧t σ H1 fun xs H2=>∃k S2 n2,xs=[.int k]∧H2 a=some (Be X.w a S2 n2)∧n2+1<2000∧Q .non (AA H2 a (Be X.w a (fun j=>S2 j || decide (j=k)) (n2+1)))
theorem OI (ho:PE X o to) (hp:PA X (e::es) t) (hbase:attributeBase o "add" X.env (eval o X.env)=eval o X.env:=by rfl)
  (hfew:((backTo cpos (starEach (e::es) X.env)).all (fun x=>!x.1) && (backToKw cpos (keywordEach [] X.env)).all (fun x=>x.1.isSome)
   && decide ((e::es).length+([]:List Keyword).length+(if ([]:List Keyword).isEmpty then 0 else 1)<30))=true:=by rfl)
  (hline:(apos.endLine == cpos.line)=true:=by rfl) (hs:starEach (e::es) X.env=(false,eval e X.env)::starEach es X.env:=by rfl) (hplain:(backTo cpos (starEach es X.env)).any (·.1)=false:=by rfl) :
  PE X (.Call (.Attribute o "add" apos) (e::es) [] cpos) (QK X to t):=by
 intro pins s σ H Q I h
 refine wpAny_Call_method_late hbase hfew hline rfl (AM (ho pins s σ H _ I h) fun v s1 ⟨x,H1,I1,r1,a,S,n,ex,ha,q1⟩=>?_)
 subst ex
 cases r1
 obtain⟨ks,hS,hm,hl⟩:=I1.setO ha
 refine⟨"set","set.add",PySem.F.plainAttrs_set,PySem.F.slot_set_add,PySem.F.type_set_add,hS.typeIs,fun b eb=>hS.noDict b eb,?_⟩
 have hA:=hp cpos pins s1 σ H1 _ I1 q1
 rw[hs] at hA ⊢
 refine Calls.callWith_builtin (by show (false || (backTo cpos (starEach es X.env)).any (·.1))=false;rw[hplain]<;>rfl) (Calls.evalArgs_plain ?_)
 refine AM hA fun us s2 ⟨vs,H2,I2,r2,k,S2,n2,ek,ha2,hn2,q2⟩=>?_
 subst ek
 obtain⟨u,rfl,ru⟩:=Dd r2
 obtain⟨tk,rfl⟩:=ru
 obtain⟨ks2,hS2,hm2,hl2⟩:=I2.setO ha2
 refine Jf (w:=X.w) hS2 (by omega) fun h' ks' hsb hS' hm' hl'=>?_
 have mu:Qi (H2 a):=by rw[ha2];exact True.intro
 refine⟨.non,_,I2.write (x:=a) (e:=a) (t':=s2.toks+1) mu (.inl rfl) (fun b ob nb eb=>(hsb.2 b nb).trans eb) (let ⟨o,_,_,_,ho,_⟩:=hS';⟨o,ho⟩) (DG hS' (fun j=>?_) (by omega)),rfl,q2⟩
 rw[hm' j,Bool.or_eq_true,decide_eq_true_eq,hm2 j]
end
end L2
namespace L2
open PySem PySem.Spec PyProof.Rows
theorem Ia:∀(names:List (Str×NameKind)) (h:Heap) (acc:List (Str×Addr)) (n:Str) (c:Addr),(cellsFrom h.objs.size names acc).lookup n=some c→acc.lookup n=some c∨(h.objs.size≤c∧(pushCells h names).IsCell c none)
 | [],_,_,_,_,e=>.inl e
 | (name,kind)::r,h,acc,n,c,e=>by
  unfold cellsFrom at e
  unfold pushCells
  split at e
  ·rename_i hk
   rw[if_pos hk]
   have e':(cellsFrom (h.push { cls:=.type "cell",data:=.cell none }).objs.size r ((name,h.objs.size)::acc)).lookup n=some c:=by rw[Heap.size_push];exact e
   rcases Ia r _ _ n c e' with z | ⟨z1,z2⟩
   ·rw[List.lookup_cons] at z
    cases hb:n == name with
    | true=>
     rw[hb] at z
     cases z
     exact .inr ⟨Nat.le_refl _,_,pushCells_keeps r _ _ _ (Heap.get?_push_size _ rfl),rfl⟩
    | false=>rw[hb] at z;exact .inl z
   ·rw[Heap.size_push] at z1
    exact .inr ⟨by omega,z2⟩
  ·rename_i hk
   rw[if_neg hk]
   exact Ia r h acc n c e
theorem JG:∀(names:List (Str×NameKind)) (k:Nat) (acc:List (Str×Addr)),(∀x y c,acc.lookup x=some c→acc.lookup y=some c→x=y)→(∀x c,acc.lookup x=some c→c<k)→∀x y c,(cellsFrom k names acc).lookup x=some c→(cellsFrom k names acc).lookup y=some c→x=y
 | [],_,_,hi,_,x,y,c,e1,e2=>hi x y c e1 e2
 | (name,kind)::r,k,acc,hi,hl,x,y,c,e1,e2=>by
  unfold cellsFrom at e1 e2
  split at e1
  ·rename_i hk
   rw[if_pos hk] at e2
   have look:∀x c,((name,k)::acc).lookup x=some c→(x=name∧c=k)∨acc.lookup x=some c:=fun x c e=>by
    rw[List.lookup_cons] at e
    cases hb:x == name with
    | true=>rw[hb] at e;cases e;exact .inl ⟨beq_iff_eq.mp hb,rfl⟩
    | false=>rw[hb] at e;exact .inr e
   refine JG r (k+1) _ (fun x y c h1 h2=>?_) (fun x c h=>?_) x y c e1 e2
   ·rcases look x c h1 with⟨a,b⟩|a<;>rcases look y c h2 with⟨a',b'⟩|a'
    ·rw[a,a']
    ·have:=hl y c a';rw[b] at this;exact absurd this (Nat.lt_irrefl _)
    ·have:=hl x c a;rw[b'] at this;exact absurd this (Nat.lt_irrefl _)
    ·exact hi x y c a a'
   ·rcases look x c h with⟨_,b⟩|a
    ·rw[b];exact Nat.lt_succ_self _
    ·exact Nat.lt_succ_of_lt (hl x c a)
  ·rename_i hk
   rw[if_neg hk] at e2
   exact JG r k acc hi hl x y c e1 e2
theorem JK:∀(names:List (Str×NameKind)) (k:Nat) (acc:List (Str×Addr)) (x:Str),(names.any fun p=>p.1 == x && p.2 == .cell)=true∨(∃c,acc.lookup x=some c)→∃c,(cellsFrom k names acc).lookup x=some c
 | [],_,_,_,h=>by
  rcases h with z | z
  ·cases z
  ·exact z
 | (name,kind)::r,k,acc,x,h=>by
  unfold cellsFrom
  by_cases hk:(kind == NameKind.cell)=true
  ·rw[if_pos hk]
   refine JK r (k+1) _ x ?_
   rw[List.lookup_cons]
   cases hb:x == name with
   | true=>exact .inr ⟨_,rfl⟩
   | false=>
    rcases h with z | z
    ·rw[List.any_cons,Bool.or_eq_true] at z
     rcases z with z | z
     ·rw[Bool.and_eq_true] at z
      have:x == name:=by rw[beq_iff_eq];exact (beq_iff_eq.mp z.1).symm
      rw[hb] at this
      cases this
     ·exact .inl z
    ·exact .inr z
  ·rw[if_neg hk]
   refine JK r k acc x ?_
   rcases h with z | z
   ·rw[List.any_cons,Bool.or_eq_true] at z
    rcases z with z | z
    ·rw[Bool.and_eq_true] at z
     exact absurd z.2 hk
    ·exact .inl z
   ·exact .inr z
theorem MT {M:Model} {A:Around} {E:Value→Shared→Prop} {s:Shared} {scope:Scope} {globals:Addr} {cl:List (Str×Addr)} {qual:Str} {env:Env} {Q:Env→Shared→Prop}
  (h:Q (newEnv scope s.heap.objs.size globals (cellsFrom (s.heap.objs.size+1) scope.names cl) qual none .none (some env) builtinsNs) { s with heap:=pushCells (s.heap.push { cls:=.type "dict",data:=.dict #[] }) scope.names }) :
  wpAny M A (newFunctionEnv scope globals cl [] qual none .none (some env)) Q E s:=by
 simp only[newFunctionEnv,Option.isSome_some,if_true]
 refine wpAny_bind (wpAny_alloc ?_)
 refine wpAny_bind (wpAny_layCells _ (fun name kind cells=>by cases hkc:kind == NameKind.cell<;>simp[hkc]) _ _ _ _ ?_)
 rw[show ({ s with heap:=s.heap.push { cls:=.type "dict",data:=.dict #[] } }:Shared).heap.objs.size=s.heap.objs.size+1 from Heap.size_push ..]
 exact wpAny_bind (wpAny_pure (wpAny_pure h))
def Cx.cmk (X:Cx) (N:List Str) (scope:Scope) (cl:List (Str×Addr)) (c:CC):Cx:=
 { X with N:=N,s₀:=c.s,H₀:=c.H,env:=compEnvC scope (cellsFrom (c.s.heap.objs.size+1) scope.names cl) c.s.heap.objs.size X.env,outer:=X.stack,ex:=c.fp,fn:=fun x=>(scope.names.any fun p=>p.1 == x && p.2 == .cell) && !(cl.any fun p=>p.1 == x),pn:=[] }
section
variable {X:Cx} {N:List Str} {scope:Scope} {cl:List (Str×Addr)} {js:List (Option Nat)} {pins:List (Addr×Obj)} {σ:St} {H:Hp} {s:Shared} {fp:List Addr}
theorem Inv.cmk {h':Heap} (I:Inv X pins σ H s) (hf:∀b∈fp,BM X pins H b) (hfo:∀b∈fp,b<s.heap.objs.size) (hk:scope.kind= .function)
  (hcl:∀p∈cl,X.env.cells.lookup p.1=some p.2) (hcn:∀x,((relabel scope X.env).names.lookup x=some .cell∨(relabel scope X.env).names.lookup x=some .free)→∃c,(cellsFrom (s.heap.objs.size+1) scope.names cl).lookup x=some c)
  (hsh:Es X N scope js) (hsc:∀(i:Nat) (x:Str) (j:Nat),N[i]? = some x→js[i]? = some (some j)→∀k,(cellsFrom k scope.names cl).lookup x=cl.lookup x) (hl:js.length=N.length)
  (e:h'=pushCells (s.heap.push { cls:=.type "dict",data:=.dict #[] }) scope.names) {t':Nat} :
  Inv (X.cmk N scope cl ⟨s,H,fp⟩) [] (sub js σ) H { s with heap:=h',toks:=t' }:=by
 have hlook:∀x c,cl.lookup x=some c→X.env.cells.lookup x=some c:=fun x c e=>hcl (x,c) (PySem.mem_of_lookup e)
 have hkeep:∀b o,s.heap.get? b=some o→h'.get? b=some o:=fun b o q=>by rw[e];exact pushCells_keeps _ _ b o (Heap.get?_push_of_some _ q)
 have clt:∀x c,cl.lookup x=some c→c<s.heap.objs.size:=fun x c q=>by
  obtain⟨v,o,ho,_⟩:=I.cell x c (hlook x c q)
  exact Heap.lt_size ho
 have hc:∀x c,(cellsFrom (s.heap.objs.size+1) scope.names cl).lookup x=some c→cl.lookup x=some c∨(s.heap.objs.size+1≤c∧h'.IsCell c none):=fun x c q=>by
  have q':(cellsFrom (s.heap.push { cls:=.type "dict",data:=.dict #[] }).objs.size scope.names cl).lookup x=some c:=by rw[Heap.size_push];exact q
  have:=Ia _ _ _ x c q'
  rw[Heap.size_push] at this
  rw[e]
  exact this
 have hL:h'.Ns s.heap.objs.size (fun _=>none):=by
  rw[e]
  exact (Heap.Ns.new s.heap (.type "dict")).keeps (pushCells_keeps _ _)
 refine⟨⟨I.ok.mod,?_,I.ok.glob,I.ok.blt,Nat.le_refl _,?_,fun x hx=>hcn x hx,fun x c hx q=>?_,I.ok.hd,I.ok.frames,.inl rfl,fun b hb=>⟨Nat.ne_of_lt (hfo b hb),fun x c q=>?_⟩,
   I.bs,Nat.le_trans I.ok.bsz I.sz,fun b o q hb=>?_,fun b hb hs=>?_,I.stack,I.stkFree⟩,rfl,I.bare,Un.kept hkeep,⟨_,hL,fun i x v e1 e2 e3=>?_⟩,fun x c q=>?_,I.hok.fresh (Nat.le_refl _),fun x c q=>?_,fun p hp=>?_,I.hok.kept hkeep,?_⟩
 ·show (relabel scope X.env).kind= .function
  exact hk
 ·refine JG scope.names (s.heap.objs.size+1) cl (fun x y c h1 h2=>I.ok.inj x y c (hlook x c h1) (hlook y c h2)) fun x c q=>Nat.lt_succ_of_lt (clt x c q)
 ·have hx':((scope.names.any fun p=>p.1 == x && p.2 == .cell) && !(cl.any fun p=>p.1 == x))=true:=hx
  rw[Bool.and_eq_true] at hx'
  rcases hc x c q with z | ⟨z,_⟩
  ·have hm:(cl.any fun p=>p.1 == x)=true:=List.any_eq_true.mpr ⟨(x,c),PySem.mem_of_lookup z,by simp⟩
   rw[hm] at hx'
   cases hx'.2
  ·exact Nat.le_trans (Nat.le_succ _) z
 ·rcases hc x c q with z | ⟨z,_⟩
  ·exact (hf b hb).2.2.2.2.1 x c (hlook x c z)
  ·exact Nat.ne_of_gt (Nat.lt_of_lt_of_le (hfo b hb) (Nat.le_trans (Nat.le_succ _) z))
 ·rcases (hf b hb).2.2.2.1 with z | z
  ·exact I.ok.noex b o q z
  ·exact absurd (Nat.lt_of_lt_of_le (Heap.lt_size (I.ok.bs b o q).1) z) (Nat.lt_irrefl _)
 ·rcases List.mem_cons.mp (I.stkSub b hs) with z | z
  ·exact (hf b hb).2.1 z
  ·exact (hf b hb).2.2.1 z
 ·have e2':(sub js σ)[i]? = some (some v):=e2
  unfold sub at e2'
  rw[List.getElem?_map] at e2'
  cases ej:js[i]? with
  | none=>rw[ej] at e2';cases e2'
  | some o=>
   rw[ej] at e2'
   cases o with
   | none=>cases e2'
   | some j=>
    obtain⟨a1,a2,a3⟩:=hsh i x j e1 ej
    have e4:(σ[j]?).join=some v:=Option.some.inj e2'
    have e5:σ[j]? = some (some v):=by
     cases q:σ[j]? with
     | none=>rw[q] at e4;cases e4
     | some o=>
      rw[q] at e4
      have:o=some v:=e4
      rw[this]
    obtain⟨m,hn,hloc⟩:=I.loc
    obtain⟨u,r,l⟩:=hloc j x v a1 e5 (.inr (.inl a2))
    refine⟨u,r,.inr ⟨.inl a3,?_⟩⟩
    obtain⟨c,hc1⟩:=hcn x (.inl a3)
    have hc2:cl.lookup x=some c:=by rw[←hsc i x j e1 ej (s.heap.objs.size+1)];exact hc1
    refine⟨c,hc1,?_⟩
    rcases l with⟨k,_⟩|⟨_,c',hc',hcell⟩
    ·rw[k] at a2;cases a2
    ·have:c'=c:=by
      have:=hlook x c hc2
      rw[hc'] at this
      exact Option.some.inj this
     subst this
     obtain⟨o,ho,hd⟩:=hcell
     exact⟨o,hkeep _ _ ho,hd⟩
 ·rcases hc x c q with z | ⟨_,z⟩
  ·obtain⟨v,o,ho,hd⟩:=I.cell x c (hlook x c z)
   exact⟨v,o,hkeep _ _ ho,hd⟩
  ·exact⟨none,z⟩
 ·rcases hc x c q with z | ⟨z,_⟩
  ·exact I.freeC x c (hlook x c z)
  ·exact I.hok.fresh (Nat.le_trans (Nat.le_succ _) z)
 ·exact absurd (show p∈([]:List (Addr×Obj)) from hp) (by simp)
 ·unfold sub
  rw[List.length_map]
  exact hl
theorem Inv.uncmk {σ':St} {H':Hp} {s':Shared} {h'':Heap} (I:Inv X pins σ H s) (hf:∀b∈fp,BM X pins H b) (J:Inv (X.cmk N scope cl ⟨s,H,fp⟩) [] σ' H' s') (hsb:Heap.SameBut s.heap.objs.size s'.heap h'') :
  Inv X pins σ H' { s' with heap:=h'' }:=by
 have u:Un (Fz X.stack) fp H H' s.heap s'.heap:=J.base
 have ne:∀b o,s.heap.get? b=some o→b≠s.heap.objs.size:=fun b o e=>Nat.ne_of_lt (Heap.lt_size e)
 have hfree:H' s.heap.objs.size=none:=J.free
 refine I.call' (ch:=fp) (s':={ s' with heap:=h'' }) J.os ⟨fun b o e n hb hx=>(hsb.2 b (ne b o e)).trans (u.keep b o e n hb hx),fun b o e n hb hx=>?_,u.free,fun b o e hx=>?_,u.tups,u.frzs,u.tbls⟩ (fun b ob e=>?_) J.bare fun b hb=>⟨(hf b hb).2.2.2.1,(hf b hb).2.1,(hf b hb).2.2.2.2.1,(hf b hb).2.2.2.2.2⟩
 ·obtain⟨sl,e1⟩:=u.slot b o e n hb hx
  exact⟨sl,(hsb.2 b (ne b o e)).trans e1⟩
 ·obtain⟨o',e1⟩:=u.there b o e hx
  exact⟨o',(hsb.2 b (ne b o e)).trans e1⟩
 ·refine (J.hok b ob e).stay (fun c w' hc q=>(hsb.2 c ?_).trans q) (fun _ q=>q) fun _ _ q=>q
  rintro rfl
  rcases hc with z | z
  ·rw[←z,hfree] at e;cases e
  ·rw[hfree] at z;cases z
end
structure CompK (X:Cx) (N:List Str) (scope:Scope) (cl:List (Str×Addr)) (js:List (Option Nat)):Prop where
 clos:closureFor scope X.env=pure cl
 kind:scope.kind= .function
 loc:(scope.names.all fun x=>x.2 != .local || scope.names.lookup x.1 == some .local)=true
 ccl:∀p∈cl,X.env.cells.lookup p.1=some p.2
 cn:((relabel scope X.env).names.all fun p=>!(p.2 == .cell || p.2 == .free) || (scope.names.any fun q=>q.1 == p.1 && q.2 == .cell) || (cl.lookup p.1).isSome)=true
 sh:((N.zip js).all fun p=>match p.2 with | none=>true | some j=>X.N[j]? == some p.1 && X.env.kindOf p.1 == some .cell && (relabel scope X.env).names.lookup p.1 == some .cell && !(scope.names.any fun q=>q.1 == p.1 && q.2 == .cell))=true
 len:js.length=N.length
theorem FJ:∀(names:List (Str×NameKind)) (k:Nat) (acc:List (Str×Addr)) (x:Str),(names.any fun q=>q.1 == x && q.2 == .cell)=false→(cellsFrom k names acc).lookup x=acc.lookup x
 | [],_,_,_,_=>rfl
 | (name,kind)::r,k,acc,x,h=>by
  rw[List.any_cons,Bool.or_eq_false_iff] at h
  unfold cellsFrom
  by_cases hk:(kind == NameKind.cell)=true
  ·rw[if_pos hk,FJ r (k+1) _ x h.2,List.lookup_cons]
   have:(x == name)=false:=by
    have h1:=h.1
    rw[hk,Bool.and_true] at h1
    have:name≠x:=fun e=>by rw[e] at h1;simp at h1
    exact beq_false_of_ne (Ne.symm this)
   rw[this]
  ·rw[if_neg hk,FJ r k acc x h.2]
section
variable {X:Cx} {N:List Str} {scope:Scope} {cl:List (Str×Addr)} {js:List (Option Nat)}
theorem CompK.names (h:CompK X N scope cl js):∀x∈scope.names,x.2= .local→scope.names.lookup x.1=some .local:=fun x hx e=>by
 have q:=(List.all_eq_true.mp h.loc) x hx
 rw[e] at q
 simpa using q
theorem CompK.hcn (h:CompK X N scope cl js) (k:Nat):∀x,((relabel scope X.env).names.lookup x=some .cell∨(relabel scope X.env).names.lookup x=some .free)→∃c,(cellsFrom k scope.names cl).lookup x=some c:=fun x hx=>by
 refine JK _ _ _ _ ?_
 rcases hx with e | e
 ·have q:=(List.all_eq_true.mp h.cn) _ (PySem.mem_of_lookup e)
  simp only[Bool.or_eq_true] at q
  rcases q with (q | q) | q
  ·simp at q
  ·exact .inl q
  ·exact .inr (Option.isSome_iff_exists.mp q)
 ·have q:=(List.all_eq_true.mp h.cn) _ (PySem.mem_of_lookup e)
  simp only[Bool.or_eq_true] at q
  rcases q with (q | q) | q
  ·simp at q
  ·exact .inl q
  ·exact .inr (Option.isSome_iff_exists.mp q)
theorem CompK.mem (h:CompK X N scope cl js) {i:Nat} {x:Str} {j:Nat} (e1:N[i]? = some x) (e2:js[i]? = some (some j)):(X.N[j]? = some x∧X.env.kindOf x=some .cell∧(relabel scope X.env).names.lookup x=some .cell)∧(scope.names.any fun q=>q.1 == x && q.2 == .cell)=false:=by
 have hm:(x,some j)∈N.zip js:=by
  have:(N.zip js)[i]? = some (x,some j):=by rw[List.getElem?_zip_eq_some];exact⟨e1,e2⟩
  exact List.mem_of_getElem? this
 have q:=(List.all_eq_true.mp h.sh) _ hm
 simp only[Bool.and_eq_true] at q
 exact⟨⟨eq_of_beq q.1.1.1,eq_of_beq q.1.1.2,eq_of_beq q.1.2⟩,by simpa using q.2⟩
variable {elt tg iter:Expr} {ifs:List Expr} {rest:List Comprehension} {pos:Pos} {wi:TI} {g:CC→TG} {tb:CC→Addr→TS}
theorem LQ {WB:CC→Value→NS} (hxe:X.xe=DQ) (hc:X.calm=true) (hi:PI X tg iter wi) (hs:∀x,foldedSetIterable iter X.env x=pure x) (K:CompK X N scope cl js)
  (ht:∀c it ac,HT (X.cmk N scope cl c) (.ListComp elt (⟨tg,iter,ifs,0⟩::rest) scope pos) 0 it ac tg (WB c ac))
  (hg:∀c,PG (X.cmk N scope cl c) tg (g c)) (hb:∀c ac,PB (X.cmk N scope cl c) (WB c (.ref ac)) (tb c ac)) :
  PE X (.ListComp elt (⟨tg,iter,ifs,0⟩::rest) scope pos) (EX wi js g tb):=by
 intro pins s σ H Q I h
 rw[eval_ListComp]
 have h0:=hi pins s σ H _ I h
 refine wpAny_comprehension_free (use:=none) (cl:=cl) rfl hs K.clos K.kind K.names (AM h0 fun v s1 h1=>AM h1 fun itv s2 h2=>?_)
 obtain⟨it,fp,tn,J,H2,e,I2,T,st2,f2,hR⟩:=h2
 subst e
 refine wpAny_newObj_type (MT ?_)
 have I3:=I2.lnew (ys:=[]) (its:=[]) (t':=s2.toks) .nil (Nat.zero_le _)
 have fpl:∀b∈fp,b<s2.heap.objs.size:=fun b hb=>by
  obtain⟨o,e,_⟩:=T.obj 0 _ st2 b hb
  exact Heap.lt_size e
 have fpa:∀b∈fp,b≠s2.heap.objs.size:=fun b hb=>Nat.ne_of_lt (fpl b hb)
 have f3:∀b∈fp,BM X pins (AA H2 s2.heap.objs.size (.lst [])) b:=fun b hb=>⟨by rw[Az (fpa b hb)];exact (f2 b hb).1,(f2 b hb).2⟩
 have hR':=hR ⟨{ s2 with heap:=s2.heap.push { cls:=.type "list",data:=.seq ([]:List Value).toArray } },AA H2 s2.heap.objs.size (.lst []),fp⟩ s2.heap.objs.size I2.fresh
 have I4:=I3.cmk (N:=N) (cl:=cl) (js:=js) (scope:=scope) (t':=s2.toks) f3 (fun b hb=>by
  show b<(s2.heap.push _).objs.size
  rw[Heap.size_push]
  exact Nat.lt_succ_of_lt (fpl b hb)) K.kind K.ccl (K.hcn _) (fun i x j e1 e2=>(K.mem e1 e2).1) (fun i x j e1 e2 k=>FJ _ _ _ _ (K.mem e1 e2).2) K.len rfl
 have st4:tn 0 (pushCells ((s2.heap.push { cls:=.type "list",data:=.seq ([]:List Value).toArray }).push { cls:=.type "dict",data:=.dict #[] }) scope.names):=T.keep 0 _ _ st2 fun b hb o e=>pushCells_keeps _ _ _ _ (Heap.get?_push_of_some _ (Heap.get?_push_of_some _ e))
 have f4:∀b∈fp,BM (X.cmk N scope cl ⟨{ s2 with heap:=s2.heap.push { cls:=.type "list",data:=.seq ([]:List Value).toArray } },AA H2 s2.heap.objs.size (.lst []),fp⟩) [] (AA H2 s2.heap.objs.size (.lst [])) b:=fun b hb=>
  ⟨(f3 b hb).1,(I4.ok.exf b hb).1,I4.ok.exfs b hb,.inl hb,(I4.ok.exf b hb).2,fun p hp=>absurd (show p∈([]:List (Addr×Obj)) from hp) (by simp)⟩
 have loop:=codeAny_mono (BR (X:=X.cmk N scope cl ⟨{ s2 with heap:=s2.heap.push { cls:=.type "list",data:=.seq ([]:List Value).toArray } },AA H2 s2.heap.objs.size (.lst []),fp⟩) (e:=.ListComp elt (⟨tg,iter,ifs,0⟩::rest) scope pos) (d:=0) (acc:=.ref s2.heap.objs.size) (pins:=[]) hxe hc (ht _ _ _) rfl rfl rfl T (hg _) (hb _ _) I4 st4 f4 hR') (R':=compPost (model X.prog X.w) X.A X.xe none (EP X pins σ Q) (.ref s2.heap.objs.size) (s2.heap.push { cls:=.type "list",data:=.seq ([]:List Value).toArray }).objs.size) (fun r s' hq=>by
  obtain⟨rfl,σ',H',J',q⟩:=hq
  obtain⟨m,hn,_⟩:=id J'.loc
  exact⟨m,hn,fun h'' hs''=>⟨.ref s2.heap.objs.size,H',I3.uncmk f3 J' hs'',rfl,q⟩⟩)
 exact BA (X:=X.cmk N scope cl ⟨{ s2 with heap:=s2.heap.push { cls:=.type "list",data:=.seq ([]:List Value).toArray } },AA H2 s2.heap.objs.size (.lst []),fp⟩) rfl rfl rfl (fun _=>rfl) True.intro loop (T.self _ 0 _ _ _ st4 loop)
variable {tg1 iter1:Expr} {ifs1:List Expr} {wi1:CC→TI} {g1:CC→TG} {tc tc1:CC→TT} {te:CC→TE}
theorem Lu (h:CompK X N scope cl js) (hi:PI X tg iter wi) (hg:∀c,PG (X.cmk N scope cl c) tg (g c)) (hif:∀c,JN (X.cmk N scope cl c) ifs (tc c)) (he:∀c,PE (X.cmk N scope cl c) elt (te c))
  (hxe:X.xe=DQ:=by rfl) (hc:X.calm=true:=by rfl) (hs:∀x,foldedSetIterable iter X.env x=pure x:=by intro _;rfl) :
  PE X (.ListComp elt [⟨tg,iter,ifs,0⟩] scope pos) (EX wi js g fun c ac=>Cs (tc c) (BZ ac (te c))):=
 LQ (WB:=fun c ac=>DY (X.cmk N scope cl c) ifs elt ac) hxe hc hi hs h (fun c it ac=>JF) hg fun c ac=>D2 hxe (hif c) (he c)
end
end L2
namespace L2
open PySem PySem.Spec PyProof.Rows
theorem Kr:∀{xs:List V} {us:List Value},xs.length=us.length→(∀(i:Nat) (x:V) (u:Value),xs[i]? = some x→us[i]? = some u→RelV x u)→Vals xs us
 | [],[],_,_=>.nil
 | [],_::_,h,_=>by cases h
 | _::_,[],h,_=>by cases h
 | x::xs,u::us,h,f=>.cons (f 0 x u rfl rfl) (Kr (Nat.succ.inj h) fun i y v hy hv=>f (i+1) y v (by simpa using hy) (by simpa using hv))
theorem Hg {α:Type} (bs:List α) (d:α):(List.range bs.length).map (fun i=>bs.getD i d)=bs:=by
 refine List.ext_getElem (by simp) fun n h1 h2=>?_
 simp[List.getD,h2]
theorem LG (bs:List Bool):(List.range bs.length).any (fun i=>bs.getD i false)=bs.any id:=by
 have:=Hg bs false
 conv=>rhs;rw[←this]
 rw[List.any_map]
 rfl
theorem LR (bs:List Bool):(List.range bs.length).all (fun i=>bs.getD i false)=bs.all id:=by
 have:=Hg bs false
 conv=>rhs;rw[←this]
 rw[List.all_map]
 rfl
theorem Jk {prog:Program} {w:World} {A:Around} {bs:List Bool} {its:List Value} (rv:Vals (bs.map V.bl) its):TruthOf prog w A (fun i v=>its.toArray[i]? = some v) (fun i=>bs.getD i false):=by
 intro i v s Q E hv q
 have hv':its[i]? = some v:=by simpa using hv
 have hi:i<bs.length:=by
  have h1:=(List.getElem?_eq_some_iff.mp hv').1
  have:=rv.length
  rw[List.length_map] at this
  omega
 have hx:(bs.map V.bl)[i]? = some (.bl bs[i]):=by rw[List.getElem?_map,List.getElem?_eq_getElem hi];rfl
 obtain⟨u,hu,ru⟩:=rv.get hx
 rw[hv'] at hu
 cases hu
 cases (show v=Value.bool bs[i] from ru)
 refine wpAny_truthy_bool ?_
 have e:bs.getD i false=bs[i]:=by simp[List.getD,hi]
 rw[←e]
 exact q
section
variable {X:Cx}
theorem Lp:BK X (.type "range") (fun xs H Q=>∃j:Int,xs=[.int j]∧∀r,H r=none→Q (.ref r) (AA H r (.rng 0 j))):=by
 intro pins s σ H xs us Q I r h
 obtain⟨j,rfl,q⟩:=h
 obtain⟨u,rfl,ru⟩:=Dd r
 obtain⟨t,rfl⟩:=ru
 refine call_range_1 ⟨.ref s.heap.objs.size,_,I.laid (o:=.rng 0 j) (fun b ob e=>Heap.get?_push_of_some _ e) (Nat.le_refl _) ?_,rfl,q _ (I.hok.fresh (Nat.le_refl _))⟩
 exact⟨_,_,_,Heap.get?_push_size _ rfl⟩
def Cq (n:Nat):List Int:=(List.range n).map fun (k:Nat)=>(k:Int)
theorem Kd (hc:X.calm=true):BK X (.type "list") (fun xs H Q=>∃(r:Addr) (n:Nat),xs=[.ref r]∧H r=some (.rng 0 (n:Int))∧n≤1000∧∀l,H l=none→Q (.ref l) (AA H l (.lst ((Cq n).map V.int)))):=by
 intro pins s σ H xs us Q I r h
 obtain⟨rr,n,rfl,hr,hn,q⟩:=h
 obtain⟨u,rfl,ru⟩:=Dd r
 cases ru
 obtain⟨t,u,v,ho⟩:=(show ObjOk X.prog X.w H s.heap rr (.rng 0 (n:Int)) from I.hok rr _ hr)
 have hsz:Builtin.Range.rangeSize 0 (n:Int) 1=n:=by rw[rangeSize_one];split<;>omega
 refine call_list_range (n:=n) (I.ok.hd hc) ho (small_one (by omega) (by omega) (by omega) (by omega)) hsz (by omega) fun h' tk acc c kk hl hi=>?_
 have lo:s.heap.objs.size≤s.heap.objs.size:=Nat.le_refl _
 have hv:Vals ((Cq n).map V.int) acc.toList:=by
  have hal:acc.toList.length=n:=by rw[Array.length_toList,hi.1]
  refine Kr (by unfold Cq;simp[hal]) fun i x u hx hu=>?_
  have hin:i<n:=by
   have:=(List.getElem?_eq_some_iff.mp hu).1
   omega
  obtain⟨t,e⟩:=hi.2 i u (by simpa using hu)
  have ex:x= .int (i:Int):=by
   unfold Cq at hx
   rw[List.map_map,List.getElem?_map,List.getElem?_range hin] at hx
   exact (Option.some.inj hx).symm
  subst ex
  refine⟨t,?_⟩
  rw[e]
  congr 1
  omega
 refine⟨.ref s.heap.objs.size,_,I.laid (t':=tk) (o:=.lst ((Cq n).map V.int)) kk lo ?_,rfl,q _ (I.hok.fresh lo)⟩
 refine⟨?_,acc.toList,c,hv,by rw[hl,Array.toArray_toList]⟩
 unfold Cq
 rw[List.length_map,List.length_map,List.length_range]
 exact Nat.le_trans hn (by decide)
theorem Ev (hc:X.calm=true):BK X (.builtin "any") (fun xs H Q=>∃(l:Addr) (bs:List Bool),xs=[.ref l]∧SqL X.K H l (bs.map V.bl)∧Q (.bl (bs.any id)) H):=by
 intro pins s σ H xs us Q I r h
 obtain⟨l,bs,rfl,hq,q⟩:=h
 obtain⟨u,rfl,ru⟩:=Dd r
 cases ru
 obtain⟨its,rv,pl,hz⟩:=I.list hq
 have hlt:l<s.heap.objs.size:=let ⟨o,ho,_⟩:=pl.isList;Heap.lt_size ho
 have hlen:its.length=bs.length:=by rw[←rv.length,List.length_map]
 refine call_any_walk (wpAny_pyIter_list pl.isList ⟨s.heap.objs.size,_,_,_,_,_,fun i=>bs.getD i false,rfl,Walks.list (by have:=I.ok.hd hc;simpa using this) s.heap.objs.size l (Nat.ne_of_lt hlt) its.toArray,⟨⟨_,Heap.get?_push_size _ rfl,rfl,rfl⟩,pl.isList.push _⟩,Jk rv,fun h' tk kk=>?_⟩)
 have e:(List.range its.toArray.size).any (fun i=>bs.getD i false)=bs.any id:=by rw[List.size_toArray,hlen,LG]
 rw[e]
 exact⟨.bl _,H,I.kept (t':=tk) fun b ob eb=>kk b ob (by simp only[List.mem_singleton];exact Nat.ne_of_lt (Heap.lt_size eb)) (Heap.get?_push_of_some _ eb),rfl,q⟩
theorem Et (hc:X.calm=true):BK X (.builtin "all") (fun xs H Q=>∃(l:Addr) (bs:List Bool),xs=[.ref l]∧SqL X.K H l (bs.map V.bl)∧Q (.bl (bs.all id)) H):=by
 intro pins s σ H xs us Q I r h
 obtain⟨l,bs,rfl,hq,q⟩:=h
 obtain⟨u,rfl,ru⟩:=Dd r
 cases ru
 obtain⟨its,rv,pl,hz⟩:=I.list hq
 have hlt:l<s.heap.objs.size:=let ⟨o,ho,_⟩:=pl.isList;Heap.lt_size ho
 have hlen:its.length=bs.length:=by rw[←rv.length,List.length_map]
 refine call_all_walk (wpAny_pyIter_list pl.isList ⟨s.heap.objs.size,_,_,_,_,_,fun i=>bs.getD i false,rfl,Walks.list (by have:=I.ok.hd hc;simpa using this) s.heap.objs.size l (Nat.ne_of_lt hlt) its.toArray,⟨⟨_,Heap.get?_push_size _ rfl,rfl,rfl⟩,pl.isList.push _⟩,Jk rv,fun h' tk kk=>?_⟩)
 have e:(List.range its.toArray.size).all (fun i=>bs.getD i false)=bs.all id:=by rw[List.size_toArray,hlen,LR]
 rw[e]
 exact⟨.bl _,H,I.kept (t':=tk) fun b ob eb=>kk b ob (by simp only[List.mem_singleton];exact Nat.ne_of_lt (Heap.lt_size eb)) (Heap.get?_push_of_some _ eb),rfl,q⟩
end
end L2
namespace L2
open PySem PySem.Spec PyProof.Rows
section
variable {prog:Program} {w:World} {A:Around} {R:Result→Shared→Prop} {I:Addr} {fp wr:List Addr} {G:Array GenState→Array GenState→Prop} {n:Nat} {P:Nat→Value→Prop} {St:Nat→Shared→Prop}
theorem Nk (W:WalksS prog w A.in1 I fp wr G n P St) (S:Addr) (hSf:S∉fp)
  (val:Nat→Int) (hval:∀i v,P i v→∃t,v= .int (val i) t) (hb:n<1000) :
  ∀(k i:Nat) (s:Shared) (ks:List Int),n-i=k→i≤n→St i s→SetIs w s.heap S ks→(∀j,j∈ks↔∃m,m<i∧val m=j)→ks.length≤i→
   (∀s' ks',Moved (S::wr) G s s'→SetIs w s'.heap S ks'→(∀j,j∈ks'↔∃m,m<n∧val m=j)→ks'.length≤n→R (.ok (.ret .none)) s')→
   codeAny (model prog w) A (.builtin "set.update.loop" ⟨[.ref S,.ref I],[]⟩) R s:=by
 have hSw:S∉wr:=fun h=>hSf (W.sub _ h)
 have hsub:∀b∈wr,b∈S::wr:=fun b hb=>List.mem_cons_of_mem _ hb
 intro k
 induction k with
 | zero=>
  intro i s ks hk hi hst hS hm0 hl0 hR
  have hin:i=n:=by omega
  subst hin
  refine codeAny_builtin F.entry_set_update_loop ?_
  rw[Around.under_plainId F.plain_set_update_loop _]
  show wpAny _ A.in1 (pyNext (.ref I) >>= _) _ _ s
  refine wpAny_bind (W.done s _ _ hst fun s' hm=>?_)
  show wpAny _ A.in1 (ret Value.none) _ _ s'
  exact wpAny_pure (hR s' ks (hm.mono hsub) (hS.keep fun o e=>hm.heap S _ hSw e) hm0 hl0)
 | succ k ih=>
  intro i s ks hk hi hst hS hm0 hl0 hR
  have hlt:i<n:=by omega
  refine codeAny_builtin F.entry_set_update_loop ?_
  rw[Around.under_plainId F.plain_set_update_loop _]
  show wpAny _ A.in1 (pyNext (.ref I) >>= _) _ _ s
  refine wpAny_bind (W.item i s _ _ hlt hst fun v s' hP hst' hm=>?_)
  obtain⟨t,rfl⟩:=hval i v hP
  have hS':SetIs w s'.heap S ks:=hS.keep fun o e=>hm.heap S _ hSw e
  show wpAny _ A.in1 (holding [Value.int (val i) t] (setAdd S (.int (val i) t)) >>= _) _ _ s'
  refine wpAny_bind (wpAny_holding ?_)
  unfold setAdd
  refine wpAny_holding ?_
  refine wpAny_bind ((intKind prog w).pyHash (k:=val i) (intKind_is _ _ _ _) ?_)
  refine Fh (s:={ s' with toks:=s'.toks+1 }) hS' (by omega) fun h' ks' hsb hS2 hm2 hl2=>?_
  refine wpAny_pure ⟨plainId_quiet F.plain_set_update_loop _,ih (i+1) _ ks' (by omega) hlt (W.frame _ s' _ _ hst' (Nat.le_succ _) fun b hb o e=>?_) hS2 (fun j=>?_) (by omega) fun s'' ks'' hm'' hS'' hmm hll=>?_⟩
  ·rw[hsb.2 b (fun h:b=S=>hSf (by rw[←h];exact hb))];exact e
  ·rw[hm2 j,hm0 j]
   constructor
   ·rintro (⟨m,h1,h2⟩|h)
    ·exact⟨m,Nat.lt_succ_of_lt h1,h2⟩
    ·exact⟨i,Nat.lt_succ_self _,h.symm⟩
   ·rintro⟨m,h1,h2⟩
    rcases Nat.lt_succ_iff_lt_or_eq.mp h1 with z | z
    ·exact .inl ⟨m,z,h2⟩
    ·subst z;exact .inr h2.symm
  ·refine hR s'' ks'' (Moved.trans W.gtrans ((hm.mono hsub).then_heap (Nat.le_succ _) fun b o hb e=>?_) hm'') hS'' hmm hll
   rw[hsb.2 b (fun h:b=S=>hb (by rw[h];exact List.mem_cons_self))];exact e
end
section
variable {prog:Program} {w:World} {A:Around} {E:Value→Shared→Prop} {s:Shared}
set_option maxHeartbeats 3200000 in
theorem LN {l:Addr} {items:Array Value} {ns:List Int} {Q:Value→Shared→Prop}
  (hh:A.handled=none) (hl:s.heap.IsList l items) (hi:IntsAre items.toList ns) (hb:items.size<1000)
  (h:∀(h':Heap) (tk:Nat) (ks:List Int),SetIs w h' s.heap.objs.size ks→(∀j,j∈ks↔j∈ns)→ks.length≤ns.length→
   (∀b o,s.heap.get? b=some o→h'.get? b=some o)→Q (.ref s.heap.objs.size) { s with heap:=h',toks:=tk }) :
  wpAny (model prog w) A (call (.type "set") [.ref l]) Q E s:=by
 have hlen:ns.length=items.size:=by rw[←Array.length_toList];exact (IntsAre.length hi).symm
 obtain⟨c,tl,hmro⟩:=F.called_set.mro
 have hmade:=F.called_set.made
 have hsub:=F.called_set.sub
 refine wpAny_call (codeAny_of_tree ?_)
 show wpAny _ _ (callAny (.type "set") _) _ _ _
 refine wpAny_pure ⟨Code.quiet_builtin _ (by decide +kernel),codeAny_builtin F.entry_type_call ?_⟩
 rw[Around.under_plain (weight_type_call_type "set" [.ref l] []) rfl]
 have h1:=F.called_set.notType
 have h2:=F.called_set.canCreate
 have hct:=F.typeCall_set_1 (.ref l)
 repeat (any_goals (first | assumption | wp_step))
 refine codeAny_mono (Ik (E:=E) (.inr ⟨.ref l,rfl⟩) (Q₁:=fun obj s₁=>obj= .ref s.heap.objs.size∧s₁={ s with heap:=s.heap.push (A8 w) }) ⟨rfl,rfl⟩) fun r s₁ hr=>?_
 cases r with
 | error e=>exact hr
 | ok fl=>
  cases fl with
  | ret obj=>
   obtain⟨rfl,rfl⟩:=hr
   have hS:(s.heap.push (A8 w)).get? s.heap.objs.size=some (A8 w):=Heap.get?_push_size _ rfl
   have hT:Shared.TypeIs { s with heap:=s.heap.push (A8 w) } (.ref s.heap.objs.size) "set":=⟨_,hS,rfl⟩
   have hli:=F.called_set.init.lookup
   have hbi:=F.called_set.init.bind (.ref s.heap.objs.size)
   repeat (any_goals (first | assumption | wp_step))
   refine codeAny_mono (codeAny_call_builtin (R:=wants (fun r s₂=>r= .none∧∃h' tk ks,s₂={ s with heap:=h',toks:=tk }∧SetIs w h' s.heap.objs.size ks∧(∀j,j∈ks↔j∈ns)∧ks.length≤ns.length∧
     (∀b o,s.heap.get? b=some o→h'.get? b=some o)) E) F.called_set.init.plain F.entry_set_init (check_set_init_1 hT ?_)) fun r₂ s₂ hr₂=>?_
   ·obtain⟨ol,hol,hcl,nl,hdl⟩:=hl
    obtain⟨ocls,odict,odata,oslots⟩:=ol
    simp only at hcl hdl
    subst hcl;subst hdl
    have hol':(s.heap.push (A8 w)).get? l=some { cls:=.type "list",dict:=odict,data:=.seq items nl,slots:=oslots }:=Heap.get?_push_of_some _ hol
    have hsls:=F.sub_list_set
    have hslf:=F.sub_list_frozenset
    have hne:(Value.type "list" == Value.type "dict")=false:=by decide
    have hl1:(s.heap.push (A8 w)).IsList l items:=⟨_,hol',rfl,nl,rfl⟩
    unfold Builtin.«set.__init__» noKeywords Builtin.Frozenset.updateFrom
    generalize hPI:pyIter=PI
    wp_walk
    subst hPI
    refine wpAny_pyIter_list hl1 ?_
    refine wpAny_bind (wpAny_runValue ?_)
    have hlS:l<s.heap.objs.size:=Heap.lt_size hol
    have hh3:A.in1.in1.in1.handled=none:=by simp[hh]
    have hneI:l≠(s.heap.push (A8 w)).objs.size:=by
     rw[Heap.size_push];exact Nat.ne_of_lt (Nat.lt_succ_of_lt hlS)
    have hSf:s.heap.objs.size∉[(s.heap.push (A8 w)).objs.size,l]:=by
     rw[Heap.size_push];simp only[List.mem_cons,List.mem_singleton,List.not_mem_nil,or_false,not_or]
     exact⟨Nat.ne_of_lt (Nat.lt_succ_self _),Nat.ne_of_gt hlS⟩
    have hval:∀(i:Nat) (v:Value),items[i]? = some v→∃t,v= .int ((fun i=>ns.getD i 0) i) t:=fun i v hv=>
     IntsAre.int_at hi i v (by rw[Array.getElem?_toList];exact hv)
    refine Nk ((Walks.list hh3 _ l hneI items).toS) s.heap.objs.size
     hSf (fun i=>ns.getD i 0) hval hb (items.size-0) 0 _ [] (by omega) (Nat.zero_le _)
     ⟨⟨_,Heap.get?_push_size _ rfl,rfl,rfl⟩,(hl1.push _)⟩ ?hS0 (fun j=>by simp) (Nat.le_refl _) ?hR
    case hS0=>exact set0_is.keep fun o e=>Heap.get?_push_of_some _ e
    case hR=>
     intro s' ks hm hS' hmm hll
     obtain⟨h',g',d',tk',os'⟩:=s'
     have eg:g'=s.gens:=hm.gens
     have ed:d'=s.drawn:=hm.drawn
     have eo:os'=s.os:=hm.os
     subst eg;subst ed;subst eo
     show wpAny _ _ _ _ _ _
     refine wpAny_pure ?_
     show wpAny _ _ (ret Value.none) _ _ _
     refine wpAny_pure ⟨rfl,h',tk',ks,rfl,hS',fun j=>?_,by omega,fun b o e=>?_⟩
     ·rw[hmm j,←hlen,List.mem_iff_getElem]
      constructor
      ·rintro⟨m,hm,e⟩
       exact⟨m,hm,by rw[←e,List.getD_eq_getElem?_getD,List.getElem?_eq_getElem hm];rfl⟩
      ·rintro⟨m,hm,e⟩
       exact⟨m,hm,by rw[←e,List.getD_eq_getElem?_getD,List.getElem?_eq_getElem hm];rfl⟩
     ·have hb:=Heap.lt_size e
      have hb1:b≠s.heap.objs.size:=Nat.ne_of_lt hb
      have hb2:b≠(s.heap.push (A8 w)).objs.size:=by
       rw[Heap.size_push];exact Nat.ne_of_lt (Nat.lt_succ_of_lt hb)
      exact hm.heap b o (by simp only[List.mem_cons,List.mem_singleton,List.not_mem_nil,or_false,not_or];exact⟨hb1,hb2⟩) (Heap.get?_push_of_some _ (Heap.get?_push_of_some _ e))
   ·cases r₂ with
    | error e=>exact hr₂
    | ok fl₂=>
     cases fl₂ with
     | ret r=>
      obtain⟨rfl,h',tk,ks,rfl,hS',hm',hl',hk'⟩:=hr₂
      repeat (any_goals (first | assumption | wp_step))
      exact h _ _ _ hS' hm' hl' hk'
     | _=>exact hr₂.elim
  | _=>exact hr.elim
end
end L2
namespace L2
open PySem PySem.Spec PyProof.Rows
section
variable {prog:Program} {w:World} {A:Around} {E:Value→Shared→Prop} {s:Shared} {a:Addr} {ks:List Int} {k:Int} {tk:Tok}
theorem FC {Q:Option Nat→Shared→Prop} (hS:SetIt w s.heap a ks) (h:∀r:Option Nat,r.isSome=decide (k∈ks)→(∀i,r=some i→ks[i]? = some k)→Q r s) :
  wpAny (model prog w) A (setFind a (.int k tk) (hashInt k)) Q E s:=by
 obtain⟨o,es,ep,t,ho,hex,hd,hg,hk,nd,hl,ok,hf⟩:=hS
 have hsz:=Cl hk
 have hkey:(intKind prog w).is k (.int k tk)=true:=intKind_is _ _ _ _
 unfold setFind setFindIn
 refine wpAny_bind (wpAny_setState_of ho hd hf ?_)
 dsimp only
 rw[byScan_of (knd:=intKind prog w) rfl (by rw[hsz];exact BX hl) hg.elems]
 simp only[↓reduceIte]
 refine wpAny_bind (wpAny_rule ?_)
 refine wpAny_bind (wpAny_setScan_of (knd:=intKind prog w) hkey ho hd hf hg.elems ?_)
 cases hr:List.findIdx? (fun e=>(intKind prog w).is k e.2) es.toList with
 | none=>
  dsimp only
  have hmem:k∉ks:=fun z=>by
   rw[←hk] at z
   obtain⟨e,he,rfl⟩:=List.mem_map.mp z
   have:=List.findIdx?_eq_none_iff.mp hr e he
   rw[(hg.is he).mpr rfl] at this
   cases this
  exact wpAny_pure (h none (by rw[decide_eq_false hmem];rfl) fun i e=>by cases e)
 | some j=>
  dsimp only
  obtain⟨hj,hpj,_⟩:=List.findIdx?_eq_some_iff_getElem.mp hr
  have e1:AX es.toList[j]=k:=((hg.is (List.getElem_mem hj)).mp hpj).symm
  have hmem:k∈ks:=by
   rw[←hk,←e1]
   exact List.mem_map_of_mem (List.getElem_mem hj)
  refine wpAny_pure (h (some (0+j)) (by rw[decide_eq_true hmem];rfl) fun i e=>?_)
  have e':j=i:=by injection e with e;omega
  subst e'
  rw[←hk,List.getElem?_map,List.getElem?_eq_getElem hj,←e1]
  rfl
theorem Ge {Q:Bool→Shared→Prop} {l:List Addr} (hl:∀b∈l,∃kb,SetIt w s.heap b kb) (h:Q true s):wpAny (model prog w) A (setsQuiet l) Q E s:=by
 unfold setsQuiet
 refine wpAny_bind ?_
 refine wpAny_forIn_list _ (fun rest r s'=>r.1=none∧s'=s∧∀b∈rest,∃kb,SetIt w s.heap b kb) _ ?_ ?_ _ _ ⟨rfl,rfl,hl⟩
 ·rintro b rest r s' ⟨hr,rfl,hall⟩
  obtain⟨kb,o,es,ep,t,ho,hex,hd,hg,hk,nd,hl,ok,hf⟩:=hall b List.mem_cons_self
  unfold setEntries
  refine wpAny_bind (wpAny_bind (wpAny_setState_of ho hd hf (wpAny_pure ?_)))
  refine wpAny_bind ?_
  refine wpAny_forIn_array' _ (fun rest' r' s''=>r'.1=none∧s''=s'∧EGood rest') _ ?_ ?_ _ _ ⟨rfl,rfl,hg⟩
  ·rintro⟨hh,x⟩ rest' r' s' ⟨hr',rfl,g⟩
   obtain⟨_,t',e⟩:=g _ List.mem_cons_self
   have e':x= .int (AX (hh,x)) t':=e
   rw[e']
   exact wpAny_pure ⟨rfl,rfl,fun y hy=>g y (List.mem_cons_of_mem _ hy)⟩
  ·rintro⟨r1,r2⟩ s' ⟨hr',rfl,_⟩
   simp only at hr'
   subst hr'
   exact wpAny_pure ⟨rfl,rfl,fun c hc=>hall c (List.mem_cons_of_mem _ hc)⟩
 ·rintro⟨r1,r2⟩ s' ⟨hr,rfl,_⟩
  simp only at hr
  subst hr
  exact wpAny_pure h
theorem IF {o:Obj} {es:Array (Int×Value)} {ep:Nat} {t:SetTable} {Q:Array (Int×Value)→Shared→Prop} (ho:s.heap.get? a=some o) (hd:o.data= .set es ep t) (ok:EZ (Bv w) t) (hf:t.fits es.size=true)
  (hc:(Bv w || (t.led && t.plain) || decide (es.size≤1))=true) (h:∀es':Array (Int×Value),es'.toList.Perm es.toList→Q es' s):wpAny (model prog w) A (setWalk a) Q E s:=by
 unfold setWalk setsByText
 refine wpAny_bind (wpAny_setState_of ho hd hf ?_)
 dsimp only
 refine wpAny_bind (wpAny_bind (wpAny_askSetting (wpAny_pure ?_)))
 show wpAny _ _ (if Bv w=true then _ else _) _ _ _
 cases hb:Bv w with
 | true=>
  rw[if_pos rfl]
  refine wpAny_bind (wpAny_askSetting ?_)
  exact wpAny_pure (h _ (Dh _ _))
 | false=>
  rw[if_neg Bool.false_ne_true]
  have hn:(!t.plain && decide (es.size>1))=false:=by
   rw[hb,Bool.false_or] at hc
   cases hp:t.plain with
   | true=>rfl
   | false=>
    rw[hp,Bool.and_false,Bool.false_or] at hc
    have:=of_decide_eq_true hc
    simp
    omega
  show wpAny _ _ (if (!t.plain && decide (es.size>1))=true then _ else _) _ _ _
  rw[hn,if_neg Bool.false_ne_true]
  refine wpAny_bind ?_
  show wpAny _ _ (if (!t.led && decide (es.size>1))=true then _ else _) _ _ _
  rw[ok.led,hb,if_neg (by simp)]
  exact wpAny_pure (wpAny_pure (h es (List.Perm.refl _)))
theorem Gu {f:Addr} {others:List Addr} {kf:List Int} {Q:Array (Int×Value)→Shared→Prop} (hS:SetIt w s.heap a ks) (hF:SetIs w s.heap f kf) (hO:∀b∈others,∃kb,SetIt w s.heap b kb)
  (h:∀(es':Array (Int×Value)) (h':Heap),EGood es'.toList→(es'.toList.map AX).Perm ks→Heap.SameBut f s.heap h'→SetIs w h' f kf→Q es' { s with heap:=h' }):wpAny (model prog w) A (setWalkUnseen a others (some f)) Q E s:=by
 obtain⟨o,es,ep,t,ho,hex,hd,hg,hk,nd,hl,ok,hf⟩:=id hS
 have stay:∀es':Array (Int×Value),es'.toList.Perm es.toList→Q es' s:=fun es' hp=>by
  have:=h es' s.heap (fun e he=>hg e (hp.mem_iff.mp he)) (by rw[←hk];exact hp.map AX) (Heap.SameBut.refl _ _) hF
  have e:s={ s with heap:=s.heap }:=by cases s;rfl
  rw[e];exact this
 unfold setWalkUnseen setsByText
 refine wpAny_bind (wpAny_setState_of ho hd hf ?_)
 dsimp only
 refine wpAny_bind (wpAny_bind (wpAny_askSetting (wpAny_pure ?_)))
 show wpAny _ _ (if (Bv w || (t.led && t.plain) || decide (es.size≤1))=true then _ else _) _ _ _
 split
 ·rename_i hc
  exact IF ho hd ok hf hc stay
 ·rename_i hc
  have hb:Bv w=false:=by
   cases q:Bv w with
   | true=>rw[q] at hc;exact absurd rfl hc
   | false=>rfl
  refine wpAny_bind (Ge (fun b hb=>?_) ?_)
  ·rcases List.mem_cons.mp hb with e | e
   ·subst e;exact⟨_,hS⟩
   ·exact hO b e
  simp only[Bool.not_true,Bool.false_eq_true,if_false]
  refine wpAny_bind (wpAny_rule ?_)
  obtain⟨of,ef,epf,tf,hof,hexf,hdf,hgf,hkf,ndf,hlf,okf,hff⟩:=id hF
  refine wpAny_bind (wpAny_setState_of hof hdf hff ?_)
  dsimp only
  split
  ·refine wpAny_bind (wpAny_storeSet_of hof hdf ?_ ?_)
   rotate_left
   exact (fits_of_scanBound (by rw[Cl hkf];exact BX hlf))
   have:=(DZ (w:=w) (t':={ tf with led:=tf.led && t.led,plain:=tf.plain && t.plain }) hof hexf hdf hgf (by rw[hkf];exact ndf) (by rw[Cl hkf];exact hlf) ⟨okf.dum,by show (tf.led && t.led)=_;rw[okf.led,ok.led,Bool.and_self],okf.up⟩ hff).2
   rw[hkf] at this
   exact wpAny_pure (h es _ hg (by rw[hk]) (Heap.SameBut.update _ _ _) this)
  ·exact wpAny_pure ((stay es (List.Perm.refl _)))
theorem Li {others:List Addr} {Q:Array (Int×Value)→Shared→Prop} (hS:SetIt w s.heap a ks) (hO:∀b∈others,∃kb,SetIt w s.heap b kb)
  (h:∀(es':Array (Int×Value)),EGood es'.toList→(es'.toList.map AX).Perm ks→Q es' s):wpAny (model prog w) A (setWalkUnseen a others none) Q E s:=by
 obtain⟨o,es,ep,t,ho,hex,hd,hg,hk,nd,hl,ok,hf⟩:=id hS
 have stay:∀es':Array (Int×Value),es'.toList.Perm es.toList→Q es' s:=fun es' hp=>
  h es' (fun e he=>hg e (hp.mem_iff.mp he)) (by rw[←hk];exact hp.map AX)
 unfold setWalkUnseen setsByText
 refine wpAny_bind (wpAny_setState_of ho hd hf ?_)
 dsimp only
 refine wpAny_bind (wpAny_bind (wpAny_askSetting (wpAny_pure ?_)))
 show wpAny _ _ (if (Bv w || (t.led && t.plain) || decide (es.size≤1))=true then _ else _) _ _ _
 split
 ·rename_i hc
  exact IF ho hd ok hf hc stay
 ·refine wpAny_bind (Ge (fun b hb=>?_) ?_)
  ·rcases List.mem_cons.mp hb with e | e
   ·subst e;exact⟨_,hS⟩
   ·exact hO b e
  simp only[Bool.not_true,Bool.false_eq_true,if_false]
  refine wpAny_bind (wpAny_rule ?_)
  exact wpAny_pure (stay es (List.Perm.refl _))
end
end L2
namespace L2
open PySem PySem.Spec PyProof.Rows
namespace F
theorem entry_set_and:entryFor table "set.__and__"=some Builtin.«frozenset.__and__»:=entryFor_alias (id':="frozenset.__and__") (by kernel_rfl) rfl (by decide +kernel) (by kernel_rfl)
theorem entry_set_sub:entryFor table "set.__sub__"=some Builtin.«frozenset.__sub__»:=entryFor_alias (id':="frozenset.__sub__") (by kernel_rfl) rfl (by decide +kernel) (by kernel_rfl)
end F
section
variable {prog:Program} {w:World} {A:Around} {E:Value→Shared→Prop} {s:Shared} {a b r:Addr} {ka kb:List Int} {k:Int} {tk:Tok}
theorem DB {Q:Nat→Shared→Prop} (hS:SetIt w s.heap a ka) (h:Q ka.length s):wpAny (model prog w) A (Builtin.Frozenset.sizeOf a) Q E s:=by
 obtain⟨o,es,ep,t,ho,hex,hd,hg,hk,nd,hl,ok,hf⟩:=hS
 unfold Builtin.Frozenset.sizeOf setEntries
 refine wpAny_bind (wpAny_bind (wpAny_setState_of ho hd hf (wpAny_pure ?_)))
 rw[Cl hk]
 exact wpAny_pure h
theorem Cu {Q:Bool→Shared→Prop} (hS:SetIt w s.heap a ka) (h:Q true s):wpAny (model prog w) A (Builtin.Frozenset.isAnySet (.ref a)) Q E s:=by
 unfold Builtin.Frozenset.isAnySet
 show wpAny _ _ (isInstance (.ref a) (.type "set") >>= _) _ _ _
 refine wpAny_bind (wpAny_isInstance hS.typeIs sub_set_self ?_)
 exact wpAny_pure h
theorem Ds {Q:Value→Shared→Prop} (hS:SetIt w s.heap a ka) (h:Q (.type "set") s):wpAny (model prog w) A (Builtin.Frozenset.baseOf a) Q E s:=by
 unfold Builtin.Frozenset.baseOf
 refine wpAny_bind (wpAny_isInstance hS.typeIs sub_set_self ?_)
 exact wpAny_pure h
theorem Ff {Q:Value→Shared→Prop} (h:Q (.ref s.heap.objs.size) { s with heap:=s.heap.push (A8 w) }):wpAny (model prog w) A (newSet (.type "set")) Q E s:=by
 unfold newSet setsByText
 refine wpAny_bind (wpAny_bind (wpAny_askSetting (wpAny_pure ?_)))
 simp only[newObj]
 refine wpAny_bind (wpAny_alloc (wpAny_pure ?_))
 exact h
theorem D6 {Q:Nat→Shared→Prop} {o:Obj} {es:Array (Int×Value)} {ep:Nat} {t:SetTable} (ho:s.heap.get? a=some o) (hd:o.data= .set es ep t) (hf:t.fits es.size=true) (h:Q ep s):wpAny (model prog w) A (setEpoch a) Q E s:=by
 unfold setEpoch
 exact wpAny_bind (wpAny_setState_of ho hd hf (wpAny_pure h))
theorem Cv {id:String} {Q:Unit→Shared→Prop} {o:Obj} {es:Array (Int×Value)} {ep:Nat} {t:SetTable} (ho:s.heap.get? a=some o) (hd:o.data= .set es ep t) (hf:t.fits es.size=true) (h:Q () s):wpAny (model prog w) A (Builtin.Frozenset.unchanged id a ep) Q E s:=by
 unfold Builtin.Frozenset.unchanged
 refine wpAny_bind (D6 ho hd hf ?_)
 rw[if_neg (by simp)]
 exact wpAny_pure h
theorem Gk {body:(Int×Value)→PUnit→Sem (ForInStep PUnit)} {p:Int→Bool} {R:PUnit→Shared→Prop} {es:Array (Int×Value)} {kr:List Int}
  (hbody:∀(k:Int) (tk:Tok) (h1:Heap) (k1:List Int) (Q':ForInStep PUnit→Shared→Prop),Heap.SameBut r s.heap h1→SetIs w h1 r k1→k1.length+1<2000→
   (∀h' k2,Heap.SameBut r h1 h'→SetIs w h' r k2→(∀j,j∈k2↔j∈k1∨(p k=true∧j=k))→k2.length≤k1.length+1→Q' (.yield ⟨⟩) { s with heap:=h' })→
   wpAny (model prog w) A (body (hashInt k,.int k tk) ⟨⟩) Q' E { s with heap:=h1 })
  (hg:EGood es.toList) (hR:SetIs w s.heap r kr) (hn:kr.length+es.size<1999)
  (h:∀h' k2,Heap.SameBut r s.heap h'→SetIs w h' r k2→(∀j,j∈k2↔j∈kr∨(p j=true∧j∈es.toList.map AX))→k2.length≤kr.length+es.size→R ⟨⟩ { s with heap:=h' }) :
  wpAny (model prog w) A (forIn es PUnit.unit body) R E s:=by
 refine wpAny_forIn_array' _ (fun rest _ s'=>∃h1 k1,s'={ s with heap:=h1 }∧Heap.SameBut r s.heap h1∧SetIs w h1 r k1∧EGood rest∧k1.length+rest.length≤kr.length+es.size∧
  (∀j,(j∈k1∨(p j=true∧j∈rest.map AX))↔j∈kr∨(p j=true∧j∈es.toList.map AX))) _ ?_ ?_ _ _ ⟨s.heap,kr,by cases s;rfl,Heap.SameBut.refl _ _,hR,hg,by rw[Array.length_toList];exact Nat.le_refl _,fun j=>Iff.rfl⟩
 ·rintro⟨hh,x⟩ rest u s' ⟨h1,k1,rfl,sb,hS,g,hl,hm⟩
  obtain⟨e1,t',e2⟩:=g _ List.mem_cons_self
  generalize hk:AX (hh,x)=k at e1 e2
  dsimp only at e1 e2
  subst e1;subst e2
  rw[List.length_cons] at hl
  refine hbody k t' h1 k1 _ sb hS (by omega) fun h' k2 sb2 hS2 hm2 hl2=>?_
  refine⟨h',k2,rfl,sb.trans sb2,hS2,fun y hy=>g y (List.mem_cons_of_mem _ hy),by omega,fun j=>?_⟩
  rw[←hm j,hm2 j,List.map_cons,List.mem_cons]
  constructor
  ·rintro ((z | ⟨z1,z2⟩) | ⟨z1,z2⟩)
   ·exact .inl z
   ·exact .inr ⟨by rw[z2];exact z1,.inl (by rw[hk];exact z2)⟩
   ·exact .inr ⟨z1,.inr z2⟩
  ·rintro (z | ⟨z1,z2 | z2⟩)
   ·exact .inl (.inl z)
   ·exact .inl (.inr ⟨by rw[←hk,←z2];exact z1,by rw[←hk];exact z2⟩)
   ·exact .inr ⟨z1,z2⟩
 ·rintro u s' ⟨h1,k1,rfl,sb,hS,g,hl,hm⟩
  refine h h1 k1 sb hS (fun j=>?_) (by simpa using hl)
  rw[←hm j]
  simp
theorem DA {h:Heap} {o:Obj} (e:h.get? a=some o):a≠h.objs.size:=Nat.ne_of_lt (Heap.lt_size e)
theorem Os {Q:Value→Shared→Prop} (ha:SetIt w s.heap a ka) (hb:SetIt w s.heap b kb) (hab:a≠b) (hl:ka.length+kb.length<1990)
  (h:∀h' k2,SetIs w h' s.heap.objs.size k2→(∀j,j∈k2↔j∈ka∧j∈kb)→k2.length≤ka.length+kb.length→(∀c o,s.heap.get? c=some o→h'.get? c=some o)→Q (.ref s.heap.objs.size) { s with heap:=h' }) :
  wpAny (model prog w) A (binaryOp .BitAnd (.ref a) (.ref b)) Q E s:=by
 refine wpAny_binaryOp_same ha.typeIs hb.typeIs PySem.F.fills_set_and PySem.F.slot_set_and ?_
 refine wpAny_call_entry PySem.F.slot_set_and ha.typeIs F.entry_set_and ?_ (PySem.F.args_set_and_2 _ _)
 show wpAny _ _ (do
  let (self,other) ←Builtin.Frozenset.slot1 "__and__" ⟨[.ref a,.ref b],[]⟩
  let (l,r):=if false=true then (other,self) else (self,other)
  if !(←Builtin.Frozenset.isAnySet l <&&> Builtin.Frozenset.isAnySet r) then rule s!"frozenset.{"__and__"}.declined";return ←ret .notImplemented
  ret (←Builtin.Frozenset.intersection s!"frozenset.{"__and__"}" (←Builtin.Frozenset.addrOf l) r)) _ _ _
 generalize s!"frozenset.{"__and__"}"=id0
 generalize s!"frozenset.{"__and__"}.declined"=id1
 show wpAny _ _ ((Builtin.Frozenset.isAnySet (.ref a) <&&> Builtin.Frozenset.isAnySet (.ref b)) >>= _) _ _ _
 refine wpAny_bind ?_
 show wpAny _ _ (Builtin.Frozenset.isAnySet (.ref a) >>= _) _ _ _
 refine wpAny_bind (Cu ha ?_)
 show wpAny _ _ (Builtin.Frozenset.isAnySet (.ref b)) _ _ _
 refine Cu hb ?_
 simp only[Bool.not_true,Bool.false_eq_true,if_false]
 show wpAny _ _ (Builtin.Frozenset.intersection id0 a (.ref b) >>= _) _ _ _
 refine wpAny_bind ?_
 unfold Builtin.Frozenset.intersection
 rw[if_neg (by intro z;have:=beq_iff_eq.mp z;injection this with this;exact hab this.symm)]
 refine wpAny_bind (Ds ha (wpAny_bind (Ff ?_)))
 show wpAny _ _ (holding _ _ >>= _) _ _ _
 refine wpAny_bind (wpAny_holding ?_)
 have kk:∀c o,s.heap.get? c=some o→(s.heap.push (A8 w)).get? c=some o:=fun c o e=>Heap.get?_push_of_some _ e
 have ha1:=ha.keep (h':=s.heap.push (A8 w)) fun o e=>kk _ _ e
 have hb1:=hb.keep (h':=s.heap.push (A8 w)) fun o e=>kk _ _ e
 have hr1:SetIs w (s.heap.push (A8 w)) s.heap.objs.size []:=set0_is
 have na:a≠s.heap.objs.size:=let ⟨o,_,_,_,ho,_⟩:=ha;DA ho
 have nb:b≠s.heap.objs.size:=let ⟨o,_,_,_,ho,_⟩:=hb;DA ho
 generalize er:s.heap.objs.size=r at *
 refine wpAny_bind (Cu hb1 ?_)
 simp only[if_true]
 show wpAny _ _ (Builtin.Frozenset.sizeOf b >>= _) _ _ _
 refine wpAny_bind (DB hb1 ?_)
 refine wpAny_bind (DB ha1 ?_)
 have hp:∃pa pw kpa kpw,(if kb.length>ka.length then (b,a) else (a,b))=(pa,pw)∧SetIt w (s.heap.push (A8 w)) pa kpa∧SetIt w (s.heap.push (A8 w)) pw kpw∧pa≠r∧pw≠r∧(∀j,j∈kpa∧j∈kpw↔j∈ka∧j∈kb)∧kpw.length≤ka.length+kb.length:=by
  by_cases z:kb.length>ka.length
  ·exact⟨b,a,kb,ka,if_pos z,hb1,ha1,nb,na,fun j=>and_comm,Nat.le_add_right _ _⟩
  ·exact⟨a,b,ka,kb,if_neg z,ha1,hb1,na,nb,fun j=>Iff.rfl,Nat.le_add_left _ _⟩
 obtain⟨pa,pw,kpa,kpw,e,hpa,hpw,npa,npw,hj,hlw⟩:=hp
 rw[e]
 dsimp only
 obtain⟨o,es,ep,t,ho,hex,hd,hg,hk,nd,hlk,ok,hf⟩:=id hpw
 refine wpAny_bind (D6 ho hd hf ?_)
 refine wpAny_bind (Gu hpw hr1 (fun c hc=>?_) fun es' h' hg' hp' sb hr'=>?_)
 ·simp only[List.mem_cons,List.not_mem_nil,or_false] at hc
  rcases hc with rfl | rfl
  ·exact⟨_,hpa⟩
  ·exact⟨_,hr1.it⟩
 have hsz:es'.size=kpw.length:=by rw[←hp'.length_eq,List.length_map,Array.length_toList]
 refine wpAny_bind (wpAny_mono (Gk (r:=r) (p:=fun j=>decide (j∈kpa)) (R:=fun _ s'=>∃h' k2,s'={ s with heap:=h' }∧Heap.SameBut r (s.heap.push (A8 w)) h'∧SetIs w h' r k2∧(∀j,j∈k2↔j∈ka∧j∈kb)∧k2.length≤ka.length+kb.length) ?_ hg' hr' (by rw[hsz];simp;omega) fun h2 k2 sb2 hS2 hm2 hl2=>⟨h2,k2,rfl,sb.trans sb2,hS2,fun j=>?_,by rw[hsz] at hl2;simp at hl2;omega⟩) ?_ fun _ _ h'=>h')
 ·intro k tk h1 k1 Q' sb1 hS1 hl1 hQ
  have hpa1:SetIt w h1 pa kpa:=hpa.keep fun o e=>by rw[sb1.2 _ npa,sb.2 _ npa];exact e
  refine wpAny_bind ?_
  refine wpAny_holding ?_
  refine wpAny_bind (FC (s:={ s with heap:=h1 }) hpa1 fun rr hrr _=>?_)
  have fin:∀h' k2,Heap.SameBut r h1 h'→SetIs w h' r k2→(∀j,j∈k2↔j∈k1∨(decide (k∈kpa)=true∧j=k))→k2.length≤k1.length+1→wpAny (model prog w) A.in1 (Builtin.Frozenset.unchanged id0 pw ep >>= fun _=>pure (ForInStep.yield PUnit.unit)) Q' E { s with heap:=h' }:=fun h' k2 sb' hS' hm' hl'=>by
   have ho':h'.get? pw=some o:=by rw[sb'.2 _ npw,sb1.2 _ npw,sb.2 _ npw];exact ho
   exact wpAny_bind (Cv (s:={ s with heap:=h' }) ho' hd hf (wpAny_pure (hQ h' k2 sb' hS' hm' hl')))
  by_cases hmem:k∈kpa
  ·rw[hrr,decide_eq_true hmem,if_pos rfl]
   refine wpAny_bind (Fh (s:={ s with heap:=h1 }) hS1 hl1 fun h' k2 sb' hS' hm' hl'=>wpAny_pure ?_)
   exact fin h' k2 sb' hS' (fun j=>by rw[hm' j,decide_eq_true hmem];simp) hl'
  ·rw[hrr,decide_eq_false hmem,if_neg Bool.false_ne_true]
   refine wpAny_pure ?_
   exact fin h1 k1 (Heap.SameBut.refl _ _) hS1 (fun j=>by rw[decide_eq_false hmem];simp) (Nat.le_succ _)
 ·rw[hm2 j]
  rw[hp'.mem_iff,decide_eq_true_eq,←hj j]
  simp
 ·rintro u s' ⟨h',k2,rfl,sb',hS',hm',hl'⟩
  refine wpAny_pure ?_
  refine wpAny_pure ?_
  refine wpAny_pure ⟨_,rfl,by simp,?_⟩
  exact h h' k2 hS' hm' hl' fun c o e=>by
   have:c≠r:=by rw[←er];exact DA e
   rw[sb'.2 _ this];exact kk c o e
end
end L2
namespace L2
open PySem PySem.Spec PyProof.Rows
theorem IK {f g:Nat→Option Nat}:∀l:List Nat,(∀x∈l,g x=f x)→l.filterMap g=l.filterMap f
 | [],_=>rfl
 | x::l,h=>by
  have ih:=IK l fun y hy=>h y (List.mem_cons_of_mem _ hy)
  have e:=h x List.mem_cons_self
  cases q:f x with
  | none=>rw[List.filterMap_cons_none (e.trans q),List.filterMap_cons_none q,ih]
  | some v=>rw[List.filterMap_cons_some (e.trans q),List.filterMap_cons_some q,ih]
theorem M3 {f g:Nat→Option Nat} {j k:Nat} (hf:f j=none) (hg:g j=some k) (hne:∀x,x≠j→g x=f x):∀l:List Nat,l.Nodup→j∈l→(l.filterMap g).Perm (k::l.filterMap f)
 | [],_,h=>by cases h
 | x::l,nd,h=>by
  have nd':=List.nodup_cons.mp nd
  by_cases e:x=j
  ·subst e
   have:l.filterMap g=l.filterMap f:=IK l fun y hy=>hne y fun z=>nd'.1 (z ▸ hy)
   rw[List.filterMap_cons_some hg,List.filterMap_cons_none hf,this]
  ·have hj:j∈l:=by
    rcases List.mem_cons.mp h with z | z
    ·exact absurd z.symm e
    ·exact z
   have ih:=M3 hf hg hne l nd'.2 hj
   have ex:=hne x e
   cases q:f x with
   | none=>rw[List.filterMap_cons_none (ex.trans q),List.filterMap_cons_none q];exact ih
   | some v=>rw[List.filterMap_cons_some (ex.trans q),List.filterMap_cons_some q];exact (ih.cons v).trans (List.Perm.swap _ _ _)
theorem MK {f:Nat→Option Nat}:∀l:List Nat,(∀x∈l,f x≠none)→(l.filterMap f).length=l.length
 | [],_=>rfl
 | x::l,h=>by
  cases q:f x with
  | none=>exact absurd q (h x List.mem_cons_self)
  | some v=>rw[List.filterMap_cons_some q,List.length_cons,List.length_cons,MK l fun y hy=>h y (List.mem_cons_of_mem _ hy)]
abbrev K8 (n:Nat) (owner:Array (Option Nat)):List Nat:=(List.range n).filterMap fun j=>owner.getD j none
def Qh (mask:Nat):Nat→Nat×Nat→Nat×Nat
 | 0,x=>x
 | t+1,x=>Qh mask t (SetTable.leap mask x.1 x.2)
theorem Gj {mask:Nat} {owner:Array (Option Nat)} {j:Nat}:∀(fuel i p:Nat),SetTable.layClean.free mask owner fuel i p=some j→owner.getD j (some 0)=none
 | 0,_,_,h=>by cases h
 | fuel+1,i,p,h=>by
  unfold SetTable.layClean.free at h
  split at h
  ·rename_i k e
   injection h with h
   subst h
   exact Option.isNone_iff_eq_none.mp (List.find?_some (p:=fun k=>(owner.getD (i+k) (some 0)).isNone) e)
  ·exact Gj fuel _ _ h
theorem Hn {mask:Nat} {owner:Array (Option Nat)}:∀(fuel i p t:Nat),t<fuel→owner.getD (Qh mask t (i,p)).1 (some 0)=none→∃j,SetTable.layClean.free mask owner fuel i p=some j
 | 0,_,_,t,h,_=>absurd h (Nat.not_lt_zero _)
 | fuel+1,i,p,t,h,e=>by
  unfold SetTable.layClean.free
  split
  ·exact⟨_,rfl⟩
  ·rename_i q
   cases t with
   | zero=>
    have:=List.find?_eq_none.mp q 0 (List.mem_range.mpr (by unfold SetTable.runEnd;split<;>omega))
    rw[Nat.add_zero] at this
    have e':owner.getD i (some 0)=none:=e
    rw[e'] at this
    exact absurd rfl this
   | succ t=>exact Hn fuel _ _ t (Nat.lt_of_succ_lt_succ h) e
def Kl (mask:Nat):Nat→Nat→Nat→Nat
 | 0,_,acc=>acc
 | n+1,i,acc=>Kl mask n ((i*5+1)%(mask+1)) (acc ||| 1 <<< i)
theorem Im {mask j:Nat}:∀(n i acc:Nat),(Kl mask n i acc).testBit j=true→acc.testBit j=true∨∃t,t<n∧(Qh mask t (i,0)).1=j
 | 0,_,_,h=>.inl h
 | n+1,i,acc,h=>by
  rcases Im n _ _ h with z | ⟨t,h1,h2⟩
  ·rw[Nat.testBit_or,Bool.or_eq_true] at z
   rcases z with z | z
   ·exact .inl z
   ·rw[Nat.shiftLeft_eq,Nat.one_mul,Nat.testBit_two_pow] at z
    exact .inr ⟨0,Nat.succ_pos _,of_decide_eq_true z⟩
  ·refine .inr ⟨t+1,Nat.succ_lt_succ h1,?_⟩
   show (Qh mask t (SetTable.leap mask i 0)).1=j
   unfold SetTable.leap
   rw[Nat.zero_div,Nat.add_zero]
   exact h2
def NR (mask:Nat):Prop:=∀i j,i≤mask→j≤mask→∃t,t<mask+1∧(Qh mask t (i,0)).1=j
theorem FO {mask:Nat} (h:(List.range (mask+1)).all (fun i=>Kl mask (mask+1) i 0 == 2^(mask+1)-1)=true):NR mask:=fun i j hi hj=>by
 have:=List.all_eq_true.mp h i (List.mem_range.mpr (Nat.lt_succ_of_le hi))
 have e:=beq_iff_eq.mp this
 have:(Kl mask (mask+1) i 0).testBit j=true:=by
  rw[e,Nat.testBit_two_pow_sub_one]
  exact decide_eq_true (Nat.lt_succ_of_le hj)
 rcases Im _ _ _ this with z | z
 ·rw[Nat.zero_testBit] at z;cases z
 ·exact z
theorem Q7:NR 7:=FO (by decide +kernel)
theorem QC:NR 15:=FO (by decide +kernel)
theorem QH:NR 31:=FO (by decide +kernel)
theorem Qn:NR 63:=FO (by decide +kernel)
theorem Qg:NR 127:=FO (by decide +kernel)
theorem getD_none {owner:Array (Option Nat)} {j:Nat}:owner.getD j (some 0)=none→j<owner.size∧owner.getD j none=none:=fun h=>by
 by_cases z:j<owner.size
 ·refine⟨z,?_⟩
  simp[Array.getD,z] at h ⊢
  exact h
 ·simp[Array.getD,z] at h
theorem Mq {mask:Nat} (cov:NR mask):∀(hs:List Int) (owner:Array (Option Nat)) (k:Nat),owner.size=mask+1→(K8 (mask+1) owner).Perm (List.range k)→k+hs.length≤mask+1→(∀h∈hs,SetTable.bits h<32)→
  ∃owner':Array (Option Nat),hs.foldl (fun (acc:Option (Array (Option Nat)×Nat)) h=>(do
   let (owner,k) ←acc
   let j ←SetTable.layClean.free mask owner (SetTable.turns mask) (SetTable.bits h%(mask+1)) (SetTable.bits h)
   pure (owner.setIfInBounds j (some k),k+1))) (some (owner,k))=some (owner',k+hs.length)∧owner'.size=mask+1∧(K8 (mask+1) owner').Perm (List.range (k+hs.length))
 | [],owner,k,hz,hp,_,_=>⟨owner,rfl,hz,hp⟩
 | h::hs,owner,k,hz,hp,hl,hb=>by
  rw[List.length_cons] at hl
  have hex:∃j,j≤mask∧owner.getD j none=none:=Classical.byContradiction fun z=>by
   have:=MK (f:=fun j=>owner.getD j none) (List.range (mask+1)) fun x hx e=>z ⟨x,Nat.le_of_lt_succ (List.mem_range.mp hx),e⟩
   have e2:=hp.length_eq
   rw[List.length_range] at this e2
   change (K8 (mask+1) owner).length=_ at this
   omega
  obtain⟨j0,hj0,e0⟩:=hex
  have e0':owner.getD j0 (some 0)=none:=by
   have:j0<owner.size:=by omega
   simp[Array.getD,this] at e0 ⊢
   exact e0
  have hb0:=hb h List.mem_cons_self
  have hd:SetTable.bits h / 32=0:=Nat.div_eq_of_lt hb0
  obtain⟨t,ht,et⟩:=cov ((SetTable.bits h%(mask+1)*5+1)%(mask+1)) j0 (Nat.le_of_lt_succ (Nat.mod_lt _ (Nat.succ_pos _))) hj0
  obtain⟨j,ej⟩:=Hn (mask:=mask) (owner:=owner) (SetTable.turns mask) (SetTable.bits h%(mask+1)) (SetTable.bits h) (t+1) (by unfold SetTable.turns;omega) (by
   show owner.getD (Qh mask t (SetTable.leap mask _ _)).1 (some 0)=none
   unfold SetTable.leap
   rw[hd,Nat.add_zero,et]
   exact e0')
  obtain⟨jl,jn⟩:=getD_none (Gj _ _ _ ej)
  have hp':(K8 (mask+1) (owner.setIfInBounds j (some k))).Perm (List.range (k+1)):=by
   refine (M3 (f:=fun j=>owner.getD j none) (g:=fun x=>(owner.setIfInBounds j (some k)).getD x none) (j:=j) (k:=k) jn ?_ (fun x hx=>?_) _ List.nodup_range (List.mem_range.mpr (by omega))).trans ?_
   ·simp[Array.getD,jl]
   ·simp only[Array.getD_eq_getD_getElem?]
    rw[Array.getElem?_setIfInBounds_ne (Ne.symm hx)]
   ·refine (hp.cons k).trans ?_
    rw[List.range_succ (n:=k)]
    exact List.perm_append_comm (l₁:=[k])
  obtain⟨o',h1,h2,h3⟩:=Mq cov hs (owner.setIfInBounds j (some k)) (k+1) (by rw[Array.size_setIfInBounds];exact hz) hp' (by omega) fun y hy=>hb y (List.mem_cons_of_mem _ hy)
  have ek:k+1+hs.length=k+(hs.length+1):=by omega
  refine⟨o',?_,h2,?_⟩
  ·rw[List.foldl_cons]
   show List.foldl _ (SetTable.layClean.free mask owner (SetTable.turns mask) (SetTable.bits h%(mask+1)) (SetTable.bits h) >>= _) hs=_
   rw[ej,List.length_cons,←ek]
   exact h1
  ·rw[List.length_cons,←ek];exact h3
theorem Ki {mask:Nat} (cov:NR mask) (finger moves:Nat) (led plain:Bool) (hs:Array Int) (hl:hs.size≤mask) (hb:∀h∈hs.toList,SetTable.bits h<32) :
  ∃t order,SetTable.laid mask finger moves led plain hs=some (t,order)∧order.toList.Perm (List.range hs.size)∧t.dummies = #[]∧t.led=led∧Up t.place∧t.place.size=hs.size∧t.mask=mask:=by
 have hr:(K8 (mask+1) (Array.replicate (mask+1) none)).Perm (List.range 0):=by
  have:K8 (mask+1) (Array.replicate (mask+1) none)=[]:=by
   refine List.filterMap_eq_nil_iff.mpr fun x hx=>?_
   simp[Array.getD]
  rw[this]
  exact List.Perm.refl _
 obtain⟨owner,h1,h2,h3⟩:=Mq cov hs.toList _ 0 Array.size_replicate hr (by rw[Array.length_toList];omega) hb
 rw[Nat.zero_add,Array.length_toList] at h1 h3
 have e:SetTable.layClean mask hs=some owner:=by
  unfold SetTable.layClean
  rw[←Array.foldl_toList]
  exact congrArg (Option.map (·.1)) h1
 unfold SetTable.laid
 rw[e]
 refine⟨_,_,rfl,?_,rfl,rfl,?_,?_,rfl⟩
 ·show (List.map (fun x:Nat×Nat=>x.2) (List.filterMap (fun j=>Option.map (fun x=>(j,x)) (owner.getD j none)) (List.range (mask+1)))).Perm _
  rw[List.map_filterMap]
  have:(fun j=>Option.map (fun x:Nat×Nat=>x.2) (Option.map (fun x=>(j,x)) (owner.getD j none)))=fun j=>owner.getD j none:=by
   funext j
   cases owner.getD j none<;>rfl
  rw[this]
  exact h3
 ·show (List.map (fun x:Nat×Nat=>x.fst) (List.filterMap (fun j=>Option.map (fun x=>(j,x)) (owner.getD j none)) (List.range (mask+1)))).toArray.toList.Pairwise (· < ·)
  rw[List.toList_toArray]
  rw[List.map_filterMap]
  refine List.Pairwise.filterMap _ (R:=(· < ·)) ?_ List.pairwise_lt_range
  intro a a' hlt b hb b' hb'
  have f:∀{a b:Nat},Option.map (fun x:Nat×Nat=>x.1) (Option.map (fun x=>(a,x)) (owner.getD a none))=some b→b=a:=fun {a b} e=>by
   cases q:owner.getD a none with
   | none=>rw[q] at e;cases e
   | some y=>rw[q] at e;injection e with e;exact e.symm
  rw[f hb,f hb']
  exact hlt
 ·show (List.map (fun x:Nat×Nat=>x.fst) (List.filterMap (fun j=>Option.map (fun x=>(j,x)) (owner.getD j none)) (List.range (mask+1)))).toArray.size=_
  have e3:=h3.length_eq
  rw[List.length_range] at e3
  rw[List.size_toArray,List.length_map,←e3]
  have:∀l:List Nat,(List.filterMap (fun j=>Option.map (fun x=>(j,x)) (owner.getD j none)) l).length=(List.filterMap (fun j=>owner.getD j none) l).length:=fun l=>by
   induction l with
   | nil=>rfl
   | cons x l ih=>cases q:owner.getD x none with
    | none=>rw[List.filterMap_cons_none (by rw[q];rfl),List.filterMap_cons_none (f:=fun j=>owner.getD j none) q];exact ih
    | some v=>rw[List.filterMap_cons_some (by rw[q];rfl),List.filterMap_cons_some (f:=fun j=>owner.getD j none) q,List.length_cons,List.length_cons,ih]
  exact this _
end L2
namespace L2
open PySem PySem.Spec PyProof.Rows
theorem Bw {α:Type} (xs:Array α) (p:Nat):(SetTable.eraseAt xs p).toList=xs.toList.eraseIdx p:=by
 simp[SetTable.eraseAt,List.extract_eq_take_drop,List.eraseIdx_eq_take_drop_succ,List.take_of_length_le]
def SetDr (w:World) (h:Heap) (a:Addr) (ks:List Int) (m d:Nat):Prop:=
 ∃o es ep t,h.get? a=some o∧o.ExactSet∧o.data= .set es ep t∧EGood es.toList∧es.toList.map AX=ks∧ks.Nodup∧ks.length<2000∧EZ (Bv w) t∧t.fits es.size=true∧t.mask=m∧t.dummies.size≤d
theorem SetDr.it {w:World} {h:Heap} {a:Addr} {ks:List Int} {m d:Nat} (x:SetDr w h a ks m d):SetIt w h a ks:=by
 obtain⟨o,es,ep,t,h1,h2,h3,h4,h5,h6,h7,h8,h9,_⟩:=x
 exact⟨o,es,ep,t,h1,h2,h3,h4,h5,h6,h7,h8,h9⟩
theorem E7 {h:Heap} {o:Obj} {a:Addr} {es es':Array (Int×Value)} {ep:Nat} {t t':SetTable} (ho:h.get? a=some o) (hd:o.data= .set es ep t) :
  (h.update a (Obj.putSet es' t')).get? a=some { o with data:=.set es' (ep+1) t' }:=by
 have:=Heap.get?_update_self (Obj.putSet es' t') ho (by rw[putSet_of es' t' hd];rfl)
 rw[putSet_of es' t' hd] at this;exact this
theorem Jw {k:Int} (h0:0≤k) (h1:k<32):SetTable.bits (hashInt k)<32:=by
 obtain⟨n,rfl⟩:=Int.eq_ofNat_of_zero_le h0
 have hn:n<32:=by omega
 have:∀n:Fin 32,SetTable.bits (hashInt (n.val:Int))<32:=by decide +kernel
 exact this ⟨n,hn⟩
section
variable {prog:Program} {w:World} {A:Around} {E:Value→Shared→Prop} {s:Shared} {a b r:Addr} {ka kb ks:List Int} {k:Int} {tk:Tok}
theorem I0 {Q:Bool→Shared→Prop} {m d:Nat} (hS:SetDr w s.heap a ks m d)
  (h:∀(bb:Bool) h' ks',Heap.SameBut a s.heap h'→SetDr w h' a ks' m (d+1)→(∀j,j∈ks'↔j∈ks∧j≠k)→ks'.length≤ks.length→Q bb { s with heap:=h' }) :
  wpAny (model prog w) A (setDiscardHashed a (.int k tk) (hashInt k)) Q E s:=by
 obtain⟨o,es,ep,t,ho,hex,hd,hg,hk,nd,hl,ok,hf,em,ed⟩:=id hS
 unfold setDiscardHashed
 refine wpAny_bind (FC hS.it fun rr hrr hat=>?_)
 cases rr with
 | none=>
  have hmem:k∉ks:=by
   intro z
   rw[decide_eq_true z] at hrr
   cases hrr
  have e:s={ s with heap:=s.heap }:=by cases s;rfl
  have:=h false s.heap ks (Heap.SameBut.refl _ _) ⟨o,es,ep,t,ho,hex,hd,hg,hk,nd,hl,ok,hf,em,Nat.le_succ_of_le ed⟩ (fun j=>⟨fun z=>⟨z,fun e=>hmem (e ▸ z)⟩,fun z=>z.1⟩) (Nat.le_refl _)
  rw[e]
  exact wpAny_pure this
 | some i=>
  have hki:=hat i rfl
  obtain⟨hi,eki⟩:=List.getElem?_eq_some_iff.mp hki
  have hsz:=Cl hk
  have hpl:t.place.size=es.size:=by
   unfold SetTable.fits at hf
   exact beq_iff_eq.mp (Bool.and_eq_true_iff.mp hf).1
  have hfl:t.place.size+t.dummies.size≤t.mask:=by
   unfold SetTable.fits at hf
   exact of_decide_eq_true (Bool.and_eq_true_iff.mp hf).2
  have hip:i<t.place.size:=by omega
  have edrop:t.drop i={ t with place:=SetTable.eraseAt t.place i,dummies:=SetTable.insertAt t.dummies (SetTable.below t.dummies t.place[i]) t.place[i] }:=by
   unfold SetTable.drop
   rw[Array.getElem?_eq_getElem hip]
  have hkeys:(SetTable.eraseAt es i).toList.map AX=ks.eraseIdx i:=by
   rw[Bw,←hk,List.eraseIdx_eq_take_drop_succ,List.eraseIdx_eq_take_drop_succ,List.map_append,List.map_take,List.map_drop]
  have hpm:=CZ ks i hi
  rw[eki] at hpm
  have nd':=hpm.nodup_iff.mpr nd
  have hlen:(ks.eraseIdx i).length+1=ks.length:=by rw[←hpm.length_eq,List.length_cons]
  have hes:(SetTable.eraseAt es i).size=(ks.eraseIdx i).length:=by rw[←hkeys,List.length_map,Array.length_toList]
  have hps:(SetTable.eraseAt t.place i).size+1=t.place.size:=by
   rw[←Array.length_toList,Bw,List.length_eraseIdx,Array.length_toList,if_pos hip];omega
  have hds:(SetTable.insertAt t.dummies (SetTable.below t.dummies t.place[i]) t.place[i]).size=t.dummies.size+1:=by
   rw[←Array.length_toList,(SetTable.insertAt_perm _ _ _).length_eq]
   simp
  dsimp only
  refine wpAny_bind (wpAny_setState_of ho hd hf ?_)
  dsimp only
  refine wpAny_bind (wpAny_storeSet_of ho hd ?_ (fits_of_scanBound (by rw[hes];exact BX (by omega))))
  refine wpAny_bind (wpAny_point (wpAny_pure ?_))
  refine h true _ (ks.eraseIdx i) (Heap.SameBut.update _ _ _) ⟨_,_,_,_,E7 ho hd,hex,rfl,?_,hkeys,(List.nodup_cons.mp nd').2,by omega,?_,?_,?_,?_⟩ (fun j=>?_) (by omega)
  ·intro e he
   rw[Bw] at he
   exact hg e (List.mem_of_mem_eraseIdx he)
  ·rw[edrop]
   refine⟨ok.led,?_⟩
   show (SetTable.eraseAt t.place i).toList.Pairwise (· < ·)
   rw[Bw]
   exact List.Pairwise.sublist (List.eraseIdx_sublist _ _) ok.up
  ·rw[edrop]
   unfold SetTable.fits SetTable.fill
   show ((SetTable.eraseAt t.place i).size == _ && decide ((SetTable.eraseAt t.place i).size+(SetTable.insertAt t.dummies _ _).size≤t.mask))=true
   rw[hds,Bool.and_eq_true_iff]
   exact⟨beq_iff_eq.mpr (by omega),decide_eq_true (by omega)⟩
  ·rw[edrop];exact em
  ·rw[edrop]
   show (SetTable.insertAt t.dummies _ _).size≤d+1
   rw[hds];omega
  ·rw[←hpm.mem_iff,List.mem_cons]
   have hn:=(List.nodup_cons.mp nd').1
   constructor
   ·intro z;exact⟨.inr z,fun e=>hn (e ▸ z)⟩
   ·rintro⟨z | z,ne⟩
    ·exact absurd z ne
    ·exact z
theorem KS {es:Array (Int×Value)} {t:SetTable} {order:Array Nat} (hp:order.toList.Perm (List.range es.size)):(order.filterMap (es[·]?)).toList.Perm es.toList:=by
 rw[Array.toList_filterMap]
 exact (hp.filterMap _).trans (by rw[filterMap_getElem?_range])
end
end L2
namespace L2
open PySem PySem.Spec PyProof.Rows
theorem Ox (n:Nat) (hn:n≤32):∃m,(∀led:Bool,(SetTable.fresh 0 0 led).roomFor n=if m=7 then none else some (2*n))∧(m≠7→SetTable.sizeAbove (2*n)-1=m)∧n≤m∧NR m∧SetTable.sizeAbove (2*n)≤128:=by
 have key:∀n:Fin 33,(decide (n.val≤4) && decide (n.val*5<21)) || (decide (4<n.val) && decide (21≤n.val*5) && (SetTable.sizeAbove (2*n.val)-1 == 15 || SetTable.sizeAbove (2*n.val)-1 == 31 || SetTable.sizeAbove (2*n.val)-1 == 63 || SetTable.sizeAbove (2*n.val)-1 == 127) && decide (n.val≤SetTable.sizeAbove (2*n.val)-1))=true:=by decide +kernel
 have key2:∀n:Fin 33,SetTable.sizeAbove (2*n.val)≤128:=by decide +kernel
 have hk:=key ⟨n,by omega⟩
 have hk2:=key2 ⟨n,by omega⟩
 dsimp only at hk hk2
 have hfill:∀led:Bool,(SetTable.fresh 0 0 led).roomFor n=if (0+n)*5≥7*3 then some ((0+n)*2) else none:=fun led=>rfl
 by_cases h4:n≤4
 ·refine⟨7,fun led=>?_,fun h=>absurd rfl h,by omega,Q7,hk2⟩
  rw[hfill,if_neg (by omega),if_pos rfl]
 ·have hgt:¬decide (n≤4)=true:=by simpa using h4
  simp only[Bool.or_eq_true,Bool.and_eq_true,decide_eq_true_eq,beq_iff_eq] at hk
  rcases hk with⟨z,_⟩|⟨⟨⟨_,h21⟩,hm⟩,hnm⟩
  ·exact absurd z h4
  ·have hf:∀m,m≠7→∀led:Bool,(SetTable.fresh 0 0 led).roomFor n=if m=7 then none else some (2*n):=fun m hm led=>by
    rw[hfill,if_pos (by omega),if_neg hm,Nat.zero_add,Nat.mul_comm]
   rcases hm with ((e | e) | e) | e
   ·exact⟨15,hf 15 (by decide),fun _=>e,by omega,QC,hk2⟩
   ·exact⟨31,hf 31 (by decide),fun _=>e,by omega,QH,hk2⟩
   ·exact⟨63,hf 63 (by decide),fun _=>e,by omega,Qn,hk2⟩
   ·exact⟨127,hf 127 (by decide),fun _=>e,by omega,Qg,hk2⟩
section
variable {prog:Program} {w:World} {A:Around} {E:Value→Shared→Prop} {s:Shared} {a b r:Addr} {ka kb ks:List Int} {k:Int} {tk:Tok}
theorem Mh {n m:Nat} {Q:Unit→Shared→Prop} (ho:s.heap.get? r=some (A8 w)) (hr:∀led:Bool,(SetTable.fresh 0 0 led).roomFor n=if m=7 then none else some (2*n)) (hm:m≠7→SetTable.sizeAbove (2*n)-1=m) (cov:NR m) (h128:SetTable.sizeAbove (2*n)≤128)
  (h:∀h' o' ep t,Heap.SameBut r s.heap h'→h'.get? r=some o'→o'.ExactSet→o'.data= .set #[] ep t→t.fits 0=true→t.mask=m→t.place.size=0→t.dummies = #[]→t.led = !Bv w→Q () { s with heap:=h' }) :
  wpAny (model prog w) A (setRoomFor r n) Q E s:=by
 unfold setRoomFor
 refine wpAny_bind (wpAny_setState_of ho rfl rfl ?_)
 dsimp only
 rw[hr]
 by_cases z:m=7
 ·rw[if_pos z]
  dsimp only
  have e:s={ s with heap:=s.heap }:=by cases s;rfl
  rw[e]
  exact wpAny_pure (h s.heap _ 0 _ (Heap.SameBut.refl _ _) ho ⟨rfl,rfl,rfl⟩ rfl rfl z.symm rfl rfl rfl)
 ·rw[if_neg z]
  dsimp only
  unfold setRelay
  refine wpAny_bind (wpAny_setState_of ho rfl rfl ?_)
  dsimp only
  rw[if_neg (by have:=sizeLine_eq;omega)]
  have hm':=hm z
  obtain⟨t,order,e1,hp,hdm,hld,hup,hps,hmk⟩:=Ki cov 0 ((SetTable.fresh 0 0 (!Bv w)).movedTo m) (!Bv w) true #[] (Nat.zero_le _) (fun h hh=>by simp at hh)
  have e2:(SetTable.fresh 0 0 (!Bv w)).relaid (Array.map (·.1) (#[]:Array (Int×Value))) (2*n)=some (t,order):=by
   have em:Array.map (·.1) (#[]:Array (Int×Value)) = #[]:=by simp
   unfold SetTable.relaid
   rw[hm',em]
   exact e1
  have hop:(order.filterMap ((#[]:Array (Int×Value))[·]?)) = #[]:=by
   have:=KS (t:=t) (es:=#[]) (order:=order) hp
   exact Array.toList_inj.mp (List.perm_nil.mp this)
  have hft:t.fits 0=true:=by
   unfold SetTable.fits SetTable.fill
   rw[hps,hdm]
   rfl
  refine wpAny_bind ?_
  rw[e2]
  show wpAny _ _ (if (order.filterMap ((#[]:Array (Int×Value))[·]?)).size != (#[]:Array (Int×Value)).size then _ else _) _ _ _
  rw[hop,if_neg (by simp)]
  refine wpAny_pure ?_
  dsimp only
  refine wpAny_storeSet_of ho rfl ?_ (by simp)
  exact h _ _ _ _ (Heap.SameBut.update _ _ _) (E7 ho rfl) ⟨rfl,rfl,rfl⟩ rfl hft hmk hps hdm hld
theorem Ke {Q:Unit→Shared→Prop} (ha:SetIt w s.heap a ka) (ho:s.heap.get? r=some (A8 w)) (hne:r≠a) (h32:∀j∈ka,0≤j∧j<32) (hl:ka.length≤32)
  (h:∀h' k2 m,Heap.SameBut r s.heap h'→SetDr w h' r k2 m 0→k2.Perm ka→ka.length≤m→Q () { s with heap:=h' }) :
  wpAny (model prog w) A (setMerge r a) Q E s:=by
 obtain⟨o,es,ep,t,hoa,hex,hd,hg,hk,nd,hlk,ok,hf⟩:=id ha
 have hsz:=Cl hk
 unfold setMerge
 rw[if_neg (by simpa using hne)]
 refine wpAny_bind (wpAny_setState_of hoa hd hf ?_)
 dsimp only
 by_cases hem:es.isEmpty=true
 ·rw[if_pos hem]
  have e0:ka=[]:=List.eq_nil_of_length_eq_zero (by rw[←hsz];exact Array.isEmpty_iff_size_eq_zero.mp hem)
  have e:s={ s with heap:=s.heap }:=by cases s;rfl
  have:=h s.heap [] 7 (Heap.SameBut.refl _ _) ⟨_,#[],0,_,ho,⟨rfl,rfl,rfl⟩,rfl,fun e he=>absurd he (by simp),rfl,List.nodup_nil,by decide,⟨rfl,List.Pairwise.nil⟩,rfl,rfl,Nat.le_refl _⟩ (by rw[e0]) (by rw[e0];decide)
  rw[e]
  exact wpAny_pure this
 ·rw[if_neg hem]
  obtain⟨m,hr,hm,hnm,cov,h128⟩:=Ox es.size (by omega)
  refine wpAny_bind (Mh ho hr hm cov h128 fun h1 o1 ep1 t1 sb1 ho1 hex1 hd1 hf1 hm1 hp1 hdm1 hl1=>?_)
  have hoa1:h1.get? a=some o:=by rw[sb1.2 _ (Ne.symm hne)];exact hoa
  refine wpAny_bind (wpAny_setState_of (s:={ s with heap:=h1 }) ho1 hd1 hf1 ?_)
  dsimp only
  have hfill:(t1.fill != 0)=false:=by
   unfold SetTable.fill
   rw[hp1,hdm1]
   rfl
  unfold SetTable.road
  rw[hfill,if_neg Bool.false_ne_true]
  by_cases hc:(t1.mask == t.mask && t.dummies.isEmpty)=true
  ·rw[if_pos hc]
   dsimp only
   obtain⟨c1,c2⟩:=Bool.and_eq_true_iff.mp hc
   refine wpAny_storeSet_of (s:={ s with heap:=h1 }) ho1 hd1 ?_ (fits_of_scanBound (by rw[hsz];exact BX hlk))
   refine h _ ka m (sb1.trans (Heap.SameBut.update _ _ _)) ⟨_,_,_,_,E7 ho1 hd1,hex1,rfl,hg,hk,nd,hlk,⟨?_,ok.up⟩,hf,?_,?_⟩ (List.Perm.refl _) (by omega)
   ·show (t1.led && t.led)=_
    rw[hl1,ok.led,Bool.and_self]
   ·show t.mask=m
    rw[←hm1]
    exact (beq_iff_eq.mp c1).symm
   ·show t.dummies.size≤0
    rw[Array.isEmpty_iff_size_eq_zero.mp c2]
    exact Nat.le_refl _
  ·rw[if_neg hc]
   dsimp only
   have hsm:(es.map (·.1)).size=es.size:=Array.size_map
   obtain⟨t2,order,e1,hp,hdm,hld,hup,hps,hmk⟩:=Ki cov t1.finger t1.moves (t1.led && t.led) (t1.plain && t.plain) (es.map (·.1)) (by rw[hsm];exact hnm) (fun hh hin=>by
    rw[Array.toList_map] at hin
    obtain⟨e,he,rfl⟩:=List.mem_map.mp hin
    rw[(hg e he).1]
    have:=h32 (AX e) (by rw[←hk];exact List.mem_map_of_mem he)
    exact Jw this.1 this.2)
   rw[hsm] at hp hps
   rw[hm1]
   have hpe:=KS (t:=t2) (es:=es) hp
   refine wpAny_bind ?_
   rw[e1]
   have hsz2:(order.filterMap (es[·]?)).size=es.size:=by rw[←Array.length_toList,hpe.length_eq,Array.length_toList]
   show wpAny _ _ (if (order.filterMap (es[·]?)).size != es.size then _ else _) _ _ _
   rw[if_neg (by rw[hsz2];simp)]
   refine wpAny_pure ?_
   dsimp only
   have hkp:=hpe.map AX
   rw[hk] at hkp
   refine wpAny_storeSet_of (s:={ s with heap:=h1 }) ho1 hd1 ?_ (fits_of_scanBound (by rw[hsz2,hsz];exact BX hlk))
   refine h _ _ m (sb1.trans (Heap.SameBut.update _ _ _)) ⟨_,_,_,_,E7 ho1 hd1,hex1,rfl,fun e he=>hg e (hpe.mem_iff.mp he),rfl,hkp.nodup_iff.mpr nd,by rw[hkp.length_eq];exact hlk,⟨by rw[hld,hl1,ok.led,Bool.and_self],hup⟩,?_,hmk,by rw[hdm];exact Nat.le_refl _⟩ hkp (by omega)
   unfold SetTable.fits SetTable.fill
   rw[hps,hdm,hsz2,hmk,Bool.and_eq_true_iff]
   exact⟨beq_self_eq_true _,decide_eq_true (by simpa using hnm)⟩
end
end L2
namespace L2
open PySem PySem.Spec PyProof.Rows
section
variable {prog:Program} {w:World} {A:Around} {E:Value→Shared→Prop} {s:Shared} {a b r:Addr} {ka kb kr ks:List Int} {k:Int} {tk:Tok}
theorem Ip {id0:String} {m:Nat} {Q:Unit→Shared→Prop} (hr:SetDr w s.heap r kr m 0) (hb:SetIt w s.heap b kb) (hne:r≠b) (hlt:kb.length<kr.length / 4) (hm:kr.length≤m)
  (h:∀h' k2,Heap.SameBut r s.heap h'→SetIt w h' r k2→(∀j,j∈k2↔j∈kr∧j∉kb)→k2.length≤kr.length→Q () { s with heap:=h' }) :
  wpAny (model prog w) A (Builtin.Frozenset.differenceUpdate id0 r (.ref b)) Q E s:=by
 unfold Builtin.Frozenset.differenceUpdate
 rw[if_neg (by intro z;have:=beq_iff_eq.mp z;injection this with this;exact hne this.symm)]
 refine wpAny_bind (Cu hb ?_)
 rw[if_pos rfl]
 obtain⟨o,es,ep,t,ho,hex,hd,hg,hk,nd,hlk,ok,hf⟩:=id hb
 show wpAny _ _ (Builtin.Frozenset.sizeOf b >>= _) _ _ _
 refine wpAny_bind (DB hb ?_)
 refine wpAny_bind (DB hr.it ?_)
 rw[if_neg (by omega)]
 refine wpAny_bind (D6 ho hd hf ?_)
 refine wpAny_bind (wpAny_holding ?_)
 refine wpAny_bind (Li hb (fun c hc=>?_) fun es' hg' hp'=>?_)
 ·simp only[List.mem_cons,List.not_mem_nil,or_false] at hc
  subst hc
  exact⟨_,hr.it⟩
 have hsz:es'.size=kb.length:=by rw[←hp'.length_eq,List.length_map,Array.length_toList]
 refine wpAny_bind ?_
 refine wpAny_forIn_array' _ (fun rest _ s'=>∃h1 k1 d,s'={ s with heap:=h1 }∧Heap.SameBut r s.heap h1∧SetDr w h1 r k1 m d∧d+rest.length=kb.length∧EGood rest∧k1.length≤kr.length∧
  (∀j,(j∈k1∧j∉rest.map AX)↔j∈kr∧j∉kb)) _ ?_ ?_ _ _ ⟨s.heap,kr,0,by cases s;rfl,Heap.SameBut.refl _ _,hr,by rw[Array.length_toList,hsz];omega,hg',Nat.le_refl _,fun j=>by rw[hp'.mem_iff]⟩
 ·rintro⟨hh,x⟩ rest u s' ⟨h1,k1,d,rfl,sb,hS,hdl,g,hl,hm⟩
  obtain⟨e1,t',e2⟩:=g _ List.mem_cons_self
  generalize hk:AX (hh,x)=k at e1 e2
  dsimp only at e1 e2
  subst e1;subst e2
  rw[List.length_cons] at hdl
  refine wpAny_bind (wpAny_holding ?_)
  refine I0 (s:={ s with heap:=h1 }) hS fun bb h2 k2 sb2 hS2 hm2 hl2=>?_
  have ho':h2.get? b=some o:=by rw[sb2.2 _ (Ne.symm hne),sb.2 _ (Ne.symm hne)];exact ho
  refine wpAny_bind (Cv (s:={ s with heap:=h2 }) ho' hd hf (wpAny_pure ?_))
  refine⟨h2,k2,d+1,rfl,sb.trans sb2,hS2,by omega,fun y hy=>g y (List.mem_cons_of_mem _ hy),Nat.le_trans hl2 hl,fun j=>?_⟩
  rw[←hm j,hm2 j,List.map_cons,List.mem_cons,hk]
  constructor
  ·rintro⟨⟨z1,z2⟩,z3⟩
   exact⟨z1,fun z=>z.elim z2 z3⟩
  ·rintro⟨z1,z2⟩
   exact⟨⟨z1,fun e=>z2 (.inl e)⟩,fun e=>z2 (.inr e)⟩
 ·rintro u s' ⟨h1,k1,d,rfl,sb,hS,hdl,g,hl,hm2⟩
  refine wpAny_pure ?_
  obtain⟨o1,es1,ep1,t1,ho1,hex1,hd1,hg1,hk1,nd1,hlk1,ok1,hf1,em1,ed1⟩:=id hS
  unfold setTidy
  refine wpAny_bind (wpAny_setState_of (s:={ s with heap:=h1 }) ho1 hd1 hf1 ?_)
  dsimp only
  rw[if_neg (by
   unfold SetTable.tooManyDummies
   rw[em1]
   simp only[List.length_nil] at hdl
   have:¬t1.dummies.size>m / 4:=by omega
   simpa using this)]
  exact wpAny_pure (h h1 k1 sb hS.it (fun j=>by rw[←hm2 j];simp) hl)
theorem NX {Q:Value→Shared→Prop} (ha:SetIt w s.heap a ka) (hb:SetIt w s.heap b kb) (hab:a≠b) (h32:∀j∈ka,0≤j∧j<32) (hl:ka.length≤32) (hlb:kb.length≤1000)
  (h:∀h' k2,SetIt w h' s.heap.objs.size k2→(∀j,j∈k2↔j∈ka∧j∉kb)→k2.length≤ka.length→(∀c o,s.heap.get? c=some o→h'.get? c=some o)→Q (.ref s.heap.objs.size) { s with heap:=h' }) :
  wpAny (model prog w) A (binaryOp .Sub (.ref a) (.ref b)) Q E s:=by
 refine wpAny_binaryOp_same ha.typeIs hb.typeIs PySem.F.fills_set_sub PySem.F.slot_set_sub ?_
 refine wpAny_call_entry PySem.F.slot_set_sub ha.typeIs F.entry_set_sub ?_ (PySem.F.args_set_sub_2 _ _)
 show wpAny _ _ (do
  let (self,other) ←Builtin.Frozenset.slot1 "__sub__" ⟨[.ref a,.ref b],[]⟩
  let (l,r):=if false=true then (other,self) else (self,other)
  if !(←Builtin.Frozenset.isAnySet l <&&> Builtin.Frozenset.isAnySet r) then rule s!"frozenset.{"__sub__"}.declined";return ←ret .notImplemented
  ret (←Builtin.Frozenset.difference s!"frozenset.{"__sub__"}" (←Builtin.Frozenset.addrOf l) r)) _ _ _
 generalize s!"frozenset.{"__sub__"}"=id0
 generalize s!"frozenset.{"__sub__"}.declined"=id1
 show wpAny _ _ ((Builtin.Frozenset.isAnySet (.ref a) <&&> Builtin.Frozenset.isAnySet (.ref b)) >>= _) _ _ _
 refine wpAny_bind ?_
 show wpAny _ _ (Builtin.Frozenset.isAnySet (.ref a) >>= _) _ _ _
 refine wpAny_bind (Cu ha ?_)
 show wpAny _ _ (Builtin.Frozenset.isAnySet (.ref b)) _ _ _
 refine Cu hb ?_
 simp only[Bool.not_true,Bool.false_eq_true,if_false]
 show wpAny _ _ (Builtin.Frozenset.difference id0 a (.ref b) >>= _) _ _ _
 refine wpAny_bind ?_
 have kk:∀c o,s.heap.get? c=some o→(s.heap.push (A8 w)).get? c=some o:=fun c o e=>Heap.get?_push_of_some _ e
 have ha1:=ha.keep (h':=s.heap.push (A8 w)) fun o e=>kk _ _ e
 have hb1:=hb.keep (h':=s.heap.push (A8 w)) fun o e=>kk _ _ e
 have hr1:SetIs w (s.heap.push (A8 w)) s.heap.objs.size []:=set0_is
 have hr0:(s.heap.push (A8 w)).get? s.heap.objs.size=some (A8 w):=Heap.get?_push_size _ rfl
 have na:a≠s.heap.objs.size:=let ⟨o,_,_,_,ho,_⟩:=ha;DA ho
 have nb:b≠s.heap.objs.size:=let ⟨o,_,_,_,ho,_⟩:=hb;DA ho
 have keep:∀h',Heap.SameBut s.heap.objs.size (s.heap.push (A8 w)) h'→∀c o,s.heap.get? c=some o→h'.get? c=some o:=fun h' sb c o e=>by
  rw[sb.2 _ (DA e)];exact kk c o e
 unfold Builtin.Frozenset.difference
 refine wpAny_bind (Cu hb ?_)
 simp only[Bool.not_true,Bool.false_eq_true,if_false]
 show wpAny _ _ (Builtin.Frozenset.sizeOf b >>= _) _ _ _
 refine wpAny_bind (DB hb ?_)
 refine wpAny_bind (DB ha ?_)
 by_cases hbig:ka.length / 4>kb.length
 ·rw[if_pos hbig]
  refine wpAny_bind (wpAny_rule ?_)
  unfold Builtin.Frozenset.copyOf
  refine wpAny_bind (wpAny_bind (Ds ha (wpAny_bind (Ff ?_))))
  show wpAny _ _ (setMerge s.heap.objs.size a >>= _) _ _ _
  refine wpAny_bind (Ke (s:={ s with heap:=s.heap.push (A8 w) }) ha1 hr0 (Ne.symm na) h32 hl fun h1 k1 m sb1 hS1 hp1 hm1=>?_)
  refine wpAny_pure ?_
  have hb2:SetIt w h1 b kb:=hb1.keep fun o e=>by rw[sb1.2 _ nb];exact e
  refine wpAny_bind (m:=Builtin.Frozenset.addrOf (Value.ref s.heap.objs.size)) (wpAny_pure ?_)
  refine wpAny_bind (wpAny_holding ?_)
  show wpAny _ _ (Builtin.Frozenset.differenceUpdate id0 s.heap.objs.size (.ref b)) _ _ _
  refine Ip (s:={ s with heap:=h1 }) hS1 hb2 (Ne.symm nb) (by rw[hp1.length_eq];exact hbig) (by rw[hp1.length_eq];exact hm1) fun h2 k2 sb2 hS2 hm2 hl2=>?_
  refine wpAny_pure ?_
  refine wpAny_pure ⟨_,rfl,by simp,?_⟩
  exact h h2 k2 hS2 (fun j=>by rw[hm2 j,hp1.mem_iff]) (by rw[←hp1.length_eq];exact hl2) (keep _ (sb1.trans sb2))
 ·rw[if_neg hbig]
  refine wpAny_bind (Ds ha (wpAny_bind (Ff ?_)))
  show wpAny _ _ (setEpoch a >>= _) _ _ _
  obtain⟨o,es,ep,t,ho,hex,hd,hg,hk,nd,hlk,ok,hf⟩:=id ha1
  refine wpAny_bind (D6 (s:={ s with heap:=s.heap.push (A8 w) }) ho hd hf ?_)
  refine wpAny_bind (wpAny_holding ?_)
  simp only[if_true]
  refine wpAny_bind (Gu (s:={ s with heap:=s.heap.push (A8 w) }) ha1 hr1 (fun c hc=>?_) fun es' h' hg' hp' sb hr'=>?_)
  ·simp only[List.mem_cons,List.not_mem_nil,or_false] at hc
   rcases hc with rfl | rfl
   ·exact⟨_,hb1⟩
   ·exact⟨_,hr1.it⟩
  have hsz:es'.size=ka.length:=by rw[←hp'.length_eq,List.length_map,Array.length_toList]
  refine wpAny_bind (wpAny_mono (Gk (s:={ s with heap:=h' }) (r:=s.heap.objs.size) (p:=fun j=>decide (j∉kb)) (R:=fun _ s'=>∃h' k2,s'={ s with heap:=h' }∧Heap.SameBut s.heap.objs.size (s.heap.push (A8 w)) h'∧SetIs w h' s.heap.objs.size k2∧(∀j,j∈k2↔j∈ka∧j∉kb)∧k2.length≤ka.length) ?_ hg' hr' (by rw[hsz];simp;omega) fun h2 k2 sb2 hS2 hm2 hl2=>⟨h2,k2,rfl,sb.trans sb2,hS2,fun j=>?_,by rw[hsz] at hl2;simpa using hl2⟩) ?_ fun _ _ h'=>h')
  ·intro k tk h1 k1 Q' sb1 hS1 hl1 hQ
   have hb2:SetIt w h1 b kb:=hb1.keep fun o e=>by rw[sb1.2 _ nb,sb.2 _ nb];exact e
   refine wpAny_bind ?_
   refine wpAny_holding ?_
   refine wpAny_bind (FC (s:={ s with heap:=h1 }) hb2 fun rr hrr _=>wpAny_bind (wpAny_pure ?_))
   have fin:∀h2 k2,Heap.SameBut s.heap.objs.size h1 h2→SetIs w h2 s.heap.objs.size k2→(∀j,j∈k2↔j∈k1∨(decide (k∉kb)=true∧j=k))→k2.length≤k1.length+1→wpAny (model prog w) A.in1 (Builtin.Frozenset.unchanged id0 a ep >>= fun _=>pure (ForInStep.yield PUnit.unit)) Q' E { s with heap:=h2 }:=fun h2 k2 sb' hS' hm' hl'=>by
    have ho':h2.get? a=some o:=by rw[sb'.2 _ na,sb1.2 _ na,sb.2 _ na];exact ho
    exact wpAny_bind (Cv (s:={ s with heap:=h2 }) ho' hd hf (wpAny_pure (hQ h2 k2 sb' hS' hm' hl')))
   by_cases hmem:k∈kb
   ·rw[hrr,decide_eq_true hmem,if_neg (by decide)]
    refine wpAny_pure ?_
    exact fin h1 k1 (Heap.SameBut.refl _ _) hS1 (fun j=>by rw[decide_eq_false (fun z=>z hmem)];simp) (Nat.le_succ _)
   ·rw[hrr,decide_eq_false hmem,if_pos (by decide)]
    refine wpAny_bind (Fh (s:={ s with heap:=h1 }) hS1 hl1 fun h2 k2 sb' hS' hm' hl'=>wpAny_pure ?_)
    exact fin h2 k2 sb' hS' (fun j=>by rw[hm' j,decide_eq_true hmem];simp) hl'
  ·rw[hm2 j,hp'.mem_iff,decide_eq_true_eq]
   simp[and_comm]
  ·rintro u s' ⟨h2,k2,rfl,sb',hS',hm',hl'⟩
   refine wpAny_pure ?_
   refine wpAny_pure ?_
   refine wpAny_pure ⟨_,rfl,by simp,?_⟩
   exact h h2 k2 hS'.it hm' hl' (keep _ sb')
end
end L2
namespace L2
open PySem PySem.Spec PyProof.Rows
theorem D7:∀{us:List Value} {ns:List Int},Vals (ns.map V.int) us→IntsAre us ns
 | _,[],h=>by cases h;exact .nil
 | _,n::ns,h=>by
  cases h with
  | cons r t=>obtain⟨k,rfl⟩:=r;exact .cons n k (D7 t)
theorem EG:∀{l1 l2:List Int},l1.Nodup→(∀x∈l1,x∈l2)→l1.length≤l2.length
 | [],_,_,_=>Nat.zero_le _
 | x::l1,l2,nd,h=>by
  have nd':=List.nodup_cons.mp nd
  have hx:=h x List.mem_cons_self
  have ih:=EG (l1:=l1) (l2:=l2.erase x) nd'.2 fun y hy=>(List.mem_erase_of_ne (show y≠x from fun e=>nd'.1 (e ▸ hy))).mpr (h y (List.mem_cons_of_mem _ hy))
  rw[List.length_erase_of_mem hx] at ih
  have:0<l2.length:=List.length_pos_of_mem hx
  rw[List.length_cons]
  omega
theorem SetIs.nd {w:World} {h:Heap} {a:Addr} {ks:List Int} (x:SetIs w h a ks):ks.Nodup:=let ⟨_,_,_,_,_,_,_,_,_,nd,_⟩:=x;nd
section
variable {X:Cx}
theorem Dv (hc:X.calm=true):BK X (.type "set") (fun xs H Q=>∃(l:Addr) (ns:List Int),xs=[.ref l]∧SqL X.K H l (ns.map V.int)∧ns.length<1000∧∀a,H a=none→Q (.ref a) (AA H a (Be X.w a (fun k=>decide (k∈ns)) ns.length))):=by
 intro pins s σ H xs us Q I r h
 obtain⟨l,ns,rfl,hq,hn,q⟩:=h
 obtain⟨u,rfl,ru⟩:=Dd r
 cases ru
 obtain⟨its,rv,pl,hz⟩:=I.list hq
 have hlen:its.length=ns.length:=by rw[←rv.length,List.length_map]
 refine LN (w:=X.w) (ns:=ns) (I.ok.hd hc) pl.isList (by rw[List.toList_toArray];exact D7 rv) (by rw[List.size_toArray];omega) fun h' tk ks hS hm hl kk=>?_
 refine⟨.ref s.heap.objs.size,_,I.laid (t':=tk) (o:=Be X.w s.heap.objs.size (fun k=>decide (k∈ns)) ns.length) kk (Nat.le_refl _) ?_,rfl,q _ (I.hok.fresh (Nat.le_refl _))⟩
 exact DG hS (fun k=>by rw[decide_eq_true_eq];exact (hm k).symm) hl
theorem ON:D0 X (binaryOp .BitAnd) (fun x y H Q=>∃(a b:Addr) (S T:Int→Bool) (n m:Nat),x= .ref a∧y= .ref b∧H a=some (Be X.w a S n)∧H b=some (Be X.w b T m)∧a≠b∧n+m<1990∧
  ∀r,H r=none→Q (.ref r) (AA H r (Be X.w r (fun k=>S k && T k) n))):=by
 intro pins s σ H x y v u Q I rx ry h
 obtain⟨a,b,S,T,n,m,rfl,rfl,ha,hb,hne,hnm,q⟩:=h
 cases rx
 cases ry
 obtain⟨ka,hSa,hma,hla⟩:=I.setO ha
 obtain⟨kb,hSb,hmb,hlb⟩:=I.setO hb
 refine Os (w:=X.w) hSa.it hSb.it hne (by omega) fun h' k2 hS hm hl kk=>?_
 refine⟨.ref s.heap.objs.size,_,I.laid (t':=s.toks) (o:=Be X.w s.heap.objs.size (fun k=>S k && T k) n) kk (Nat.le_refl _) ?_,rfl,q _ (I.hok.fresh (Nat.le_refl _))⟩
 refine DG hS (fun k=>by rw[Bool.and_eq_true,hma,hmb,hm k]) (Nat.le_trans (EG hS.nd fun y hy=>((hm y).mp hy).1) hla)
theorem OH:D0 X (binaryOp .Sub) (fun x y H Q=>∃(a b:Addr) (S T:Int→Bool) (n m:Nat),x= .ref a∧y= .ref b∧H a=some (Be X.w a S n)∧H b=some (Be X.w b T m)∧a≠b∧n≤32∧m≤1000∧(∀k,S k=true→0≤k∧k<32)∧
  ∀r,H r=none→Q (.ref r) (AA H r (LM X.w r (fun k=>S k && !T k) n))):=by
 intro pins s σ H x y v u Q I rx ry h
 obtain⟨a,b,S,T,n,m,rfl,rfl,ha,hb,hne,hn,hm',h32,q⟩:=h
 cases rx
 cases ry
 obtain⟨ka,hSa,hma,hla⟩:=I.setO ha
 obtain⟨kb,hSb,hmb,hlb⟩:=I.setO hb
 refine NX (w:=X.w) hSa.it hSb.it hne (fun j hj=>h32 j ((hma j).mpr hj)) (by omega) (by omega) fun h' k2 hS hm hl kk=>?_
 refine⟨.ref s.heap.objs.size,_,I.laid (t':=s.toks) (o:=LM X.w s.heap.objs.size (fun k=>S k && !T k) n) kk (Nat.le_refl _) ?_,rfl,q _ (I.hok.fresh (Nat.le_refl _))⟩
 refine NW hS (fun k=>?_) (by omega)
 rw[Bool.and_eq_true,hma,hm k,Bool.not_eq_true',←Bool.not_eq_true,hmb]
end
end L2
namespace L2
open PySem PySem.Spec PyProof.Rows
section
variable {X:Cx} {tg:Expr} {acc:Value}
theorem Mc {pins:List (Addr×Obj)} {s:Shared} {σ:St} {H:Hp} {a:Addr} {S:Int→Bool} {n:Nat} {k:Int} {tk:Tok} {E:Value→Shared→Prop} (I:Inv X pins σ H s) (ha:H a=some (Be X.w a S n)) (hn:n+1<2000) :
  wpAny (model X.prog X.w) X.A (call (.builtin "set.add") [.ref a,.int k tk]) (fun _ s'=>Inv X pins σ (AA H a (Be X.w a (fun j=>S j || decide (j=k)) (n+1))) s') E s:=by
 obtain⟨ks2,hS2,hm2,hl2⟩:=I.setO ha
 refine Jf (w:=X.w) hS2 (by omega) fun h' ks' hsb hS' hm' hl'=>?_
 have mu:Qi (H a):=by rw[ha];exact True.intro
 refine I.write (x:=a) (e:=a) (t':=s.toks+1) mu (.inl rfl) (fun b ob nb eb=>(hsb.2 b nb).trans eb) (let ⟨o,_,_,_,ho,_⟩:=hS';⟨o,ho⟩) (DG hS' (fun j=>?_) (by omega))
 rw[hm' j,Bool.or_eq_true,decide_eq_true_eq,hm2 j]
def HA (X:Cx) (ifs:List Expr) (elt:Expr) (acc:Value):NS:=fun Qa s=>wpAny (model X.prog X.w) X.A (Fb ifs X.env) (fun ok s1=>if ok=true then wpAny (model X.prog X.w) X.A (eval elt X.env) (fun x s2=>wpAny (model X.prog X.w) X.A (call (.builtin "set.add") [acc,x]) (fun _ s3=>Qa s3) DQ s2) DQ s1 else Qa s1) DQ s
def Hw (w:World) (acc:Addr) (te:TE):TS:=fun D σ H=>te σ H fun x H1=>∃k S n,x= .int k∧H1 acc=some (Be w acc S n)∧n+1<2000∧D.nx σ (AA H1 acc (Be w acc (fun j=>S j || decide (j=k)) (n+1)))
theorem M4 {ifs:List Expr} {elt:Expr} {ac:Addr} {tc:TT} {te:TE} (hxe:X.xe=DQ) (hi:JN X ifs tc) (he:PE X elt te):PB X (HA X ifs elt (.ref ac)) (Cs tc (Hw X.w ac te)) where
 mono:=fun Qa Qb s hq h=>AM h fun ok s1 h1=>by
  cases ok with
  | false=>exact hq _ h1
  | true=>exact AM h1 fun x s2 h2=>AM h2 fun _ s3 h3=>hq _ h3
 run:=fun pins s σ H D I h=>by
  have h1:=hi pins s σ H _ I h
  rw[hxe] at h1
  refine AM h1 fun ok s1 ⟨H1,I1,q1⟩=>?_
  cases ok with
  | false=>exact⟨σ,H1,I1,q1⟩
  | true=>
   have q1':Hw X.w ac te D σ H1:=q1
   have h2:=he pins s1 σ H1 _ I1 q1'
   rw[hxe] at h2
   refine AM h2 fun u s2 ⟨x,H2,I2,r2,k,S,n,ex,hl,hz,q2⟩=>?_
   subst ex
   obtain⟨tk,rfl⟩:=r2
   exact AM (Mc (E:=DQ) I2 hl hz) fun _ s3 I3=>⟨σ,_,I3,q2⟩
theorem HX (elt tg0 iter0 tg iter:Expr) (ifs0 ifs:List Expr) (scope:Scope) (pos:Pos) (it acc:Value) (env:Env) :
  compTurn (.SetComp elt [⟨tg0,iter0,ifs0,0⟩,⟨tg,iter,ifs,0⟩] scope pos) 1 it acc env=(do
   standAt iter.pos
   match ←pyNext it with
   | none=>pure (.done .next)
   | some v=>
    letOwnedTupleGo tg it v
    assign tg env v
    let mut ok:=true
    for c in ifs do
     if ok then ok ←isTrue c env (eval c env)
    if ok then
     (do let v ←eval elt env;standAt elt.pos;let _ ←call (.builtin "set.add") [acc,v])
    again (.compLoop (.SetComp elt [⟨tg0,iter0,ifs0,0⟩,⟨tg,iter,ifs,0⟩] scope pos) 1 it acc env)):=by rfl
theorem Pp {elt tg0 iter0 iter:Expr} {ifs0 ifs:List Expr} {scope:Scope} {pos:Pos} {itv:Value}:HT X (.SetComp elt [⟨tg0,iter0,ifs0,0⟩,⟨tg,iter,ifs,0⟩] scope pos) 1 itv acc tg (HA X ifs elt acc):=by
 intro s Qd Qa h
 rw[HX]
 refine wpAny_bind (wpAny_standAt (wpAny_bind (AM h fun r s₁ h₁=>?_)))
 cases r with
 | none=>exact wpAny_pure ⟨rfl,h₁⟩
 | some v=>
  refine wpAny_bind (AM h₁ fun _ s2 h2=>wpAny_bind (AM h2 fun _ s3 h3=>wpAny_bind (AM h3 fun ok s4 h4=>?_)))
  cases ok with
  | false=>exact wpAny_pure ⟨rfl,h4⟩
  | true=>exact wpAny_bind (wpAny_bind (AM h4 fun x s₄ h₄=>wpAny_bind (wpAny_standAt (wpAny_bind (AM h₄ fun _ s₅ h₅=>wpAny_pure (wpAny_pure ⟨rfl,h₅⟩))))))
theorem FX (elt tg iter tg1 iter1:Expr) (ifs ifs1:List Expr) (scope:Scope) (pos:Pos) (it acc:Value) (env:Env) :
  compTurn (.SetComp elt [⟨tg,iter,ifs,0⟩,⟨tg1,iter1,ifs1,0⟩] scope pos) 0 it acc env=(do
   standAt iter.pos
   match ←pyNext it with
   | none=>pure (.done .next)
   | some v=>
    letOwnedTupleGo tg it v
    assign tg env v
    let mut ok:=true
    for c in ifs do
     if ok then ok ←isTrue c env (eval c env)
    if ok then
     let x ←eval iter1 env
     standAt iter1.pos
     let x ←foldedSetIterable iter1 env x
     let _ ←runOwn (.compStart (.SetComp elt [⟨tg,iter,ifs,0⟩,⟨tg1,iter1,ifs1,0⟩] scope pos) 1 (←holding [x] (pyIter x)) acc env) env
    again (.compLoop (.SetComp elt [⟨tg,iter,ifs,0⟩,⟨tg1,iter1,ifs1,0⟩] scope pos) 0 it acc env)):=by rfl
theorem OQ {elt iter tg1 iter1:Expr} {ifs ifs1:List Expr} {scope:Scope} {pos:Pos} {itv:Value} (hs:∀x,foldedSetIterable iter1 X.env x=pure x) :
  HT X (.SetComp elt [⟨tg,iter,ifs,0⟩,⟨tg1,iter1,ifs1,0⟩] scope pos) 0 itv acc tg (Fn X ifs (.SetComp elt [⟨tg,iter,ifs,0⟩,⟨tg1,iter1,ifs1,0⟩] scope pos) iter1 acc):=by
 intro s Qd Qa h
 rw[FX]
 refine wpAny_bind (wpAny_standAt (wpAny_bind (AM h fun r s₁ h₁=>?_)))
 cases r with
 | none=>exact wpAny_pure ⟨rfl,h₁⟩
 | some v=>
  refine wpAny_bind (AM h₁ fun _ s2 h2=>wpAny_bind (AM h2 fun _ s3 h3=>wpAny_bind (AM h3 fun ok s4 h4=>?_)))
  cases ok with
  | false=>exact wpAny_pure ⟨rfl,h4⟩
  | true=>
   refine wpAny_bind (AM h4 fun x s₄ h₄=>wpAny_bind (wpAny_standAt (wpAny_bind (wpAny_of_eq (hs x) (wpAny_bind (wpAny_holding (AM h₄ fun it s₅ h₅=>?_)))))))
   refine wpAny_bind (wpAny_runOwn (codeAny_mono h₅ fun r s₆ h₆=>?_))
   obtain⟨rfl,h₆⟩:=h₆
   exact wpAny_pure ⟨rfl,h₆⟩
theorem Om {elt iter tg1 iter1:Expr} {ifs ifs1:List Expr} {scope:Scope} {pos:Pos} {ac:Addr} {tc:TT} {wi1:TI} {g1:TG} {tb1:TS} (hxe:X.xe=DQ) (hc:X.calm=true)
  (hi:JN X ifs tc) (hI:PI X tg1 iter1 wi1) (hg1:PG X tg1 g1) (hb1:PB X (HA X ifs1 elt (.ref ac)) tb1) :
  PB X (Fn X ifs (.SetComp elt [⟨tg,iter,ifs,0⟩,⟨tg1,iter1,ifs1,0⟩] scope pos) iter1 (.ref ac)) (Cs tc (Jb wi1 g1 tb1)) where
 mono:=fun Qa Qb s hq h=>AM h fun ok s1 h1=>by
  cases ok with
  | false=>exact hq _ h1
  | true=>exact AM h1 fun x s2 h2=>AM h2 fun it s3 h3=>codeAny_mono h3 fun r s4 h4=>⟨h4.1,hq _ h4.2⟩
 run:=fun pins s σ H D I h=>by
  have h1:=hi pins s σ H _ I h
  rw[hxe] at h1
  refine AM h1 fun ok s1 ⟨H1,I1,q1⟩=>?_
  cases ok with
  | false=>exact⟨σ,H1,I1,q1⟩
  | true=>
   have q1':Jb wi1 g1 tb1 D σ H1:=q1
   have h2:=hI pins s1 σ H1 _ I1 q1'
   rw[hxe] at h2
   refine AM h2 fun u s2 h3=>AM h3 fun itv s3 h4=>?_
   obtain⟨it,fp,tn,J,H3,e,I3,T,st3,f3,hR⟩:=h4
   subst e
   have loop:=BR (e:=.SetComp elt [⟨tg,iter,ifs,0⟩,⟨tg1,iter1,ifs1,0⟩] scope pos) (d:=1) (D:=D) hxe hc Pp rfl rfl rfl T hg1 hb1 I3 st3 f3 hR
   exact BA (X:=X) rfl rfl rfl (fun _=>rfl) True.intro loop (T.self _ 0 s3 _ _ st3 loop)
end
def L7 (w:World) (wi:TI) (js:List (Option Nat)) (g:CC→TG) (tb:CC→Addr→TS):TE:=fun σ H Q=>wi σ H fun J H1=>∀(c:CC) (acc:Addr),H1 acc=none→
 FI J (g c) (tb c acc) { nx:=fun _ H'=>Q (.ref acc) H',rt:=fun _ _=>False } (sub js σ) (AA H1 acc (Be w acc (fun _=>false) 0))
section
variable {X:Cx} {N:List Str} {scope:Scope} {cl:List (Str×Addr)} {js:List (Option Nat)} {elt tg iter:Expr} {ifs:List Expr} {rest:List Comprehension} {pos:Pos} {wi:TI} {g:CC→TG} {tb:CC→Addr→TS}
theorem La {WB:CC→Value→NS} (hxe:X.xe=DQ) (hc:X.calm=true) (hi:PI X tg iter wi) (hs:∀x,foldedSetIterable iter X.env x=pure x) (hclos:closureFor scope X.env=pure cl) (hk:scope.kind= .function)
  (hnames:∀x∈scope.names,x.2= .local→scope.names.lookup x.1=some .local) (hcell:∀x∈scope.names,x.2≠.cell)
  (hcl:∀p∈cl,X.env.cells.lookup p.1=some p.2) (hcn:∀x,((relabel scope X.env).names.lookup x=some .cell∨(relabel scope X.env).names.lookup x=some .free)→∃c,cl.lookup x=some c)
  (hsh:Es X N scope js) (hl:js.length=N.length)
  (ht:∀c it ac,HT (X.cmp N scope cl c) (.SetComp elt (⟨tg,iter,ifs,0⟩::rest) scope pos) 0 it ac tg (WB c ac))
  (hg:∀c,PG (X.cmp N scope cl c) tg (g c)) (hb:∀c ac,PB (X.cmp N scope cl c) (WB c (.ref ac)) (tb c ac)) :
  PE X (.SetComp elt (⟨tg,iter,ifs,0⟩::rest) scope pos) (L7 X.w wi js g tb):=by
 intro pins s σ H Q I h
 rw[arm_eval_SetComp]
 have h0:=hi pins s σ H _ I h
 refine wpAny_comprehension_free (use:=none) (cl:=cl) rfl hs hclos hk hnames (AM h0 fun v s1 h1=>AM h1 fun itv s2 h2=>?_)
 obtain⟨it,fp,tn,J,H2,e,I2,T,st2,f2,hR⟩:=h2
 subst e
 refine Ff (wpAny_newFunctionEnv hcell (by intro y hy;simp at hy) (fun h₁ hns₁ hsb₁=>?_) hk)
 dsimp only at hns₁ hsb₁ ⊢
 have I3:=I2.laid (t':=s2.toks) (h':=s2.heap.push (A8 X.w)) (o:=Be X.w s2.heap.objs.size (fun _=>false) 0) (fun b ob e=>Heap.get?_push_of_some _ e) (Nat.le_refl _) (DG set0_is (fun k=>by simp) (Nat.le_refl _))
 have fpl:∀b∈fp,b<s2.heap.objs.size:=fun b hb=>by
  obtain⟨o,e,_⟩:=T.obj 0 _ st2 b hb
  exact Heap.lt_size e
 have fpa:∀b∈fp,b≠s2.heap.objs.size:=fun b hb=>Nat.ne_of_lt (fpl b hb)
 have f3:∀b∈fp,BM X pins (AA H2 s2.heap.objs.size (Be X.w s2.heap.objs.size (fun _=>false) 0)) b:=fun b hb=>⟨by rw[Az (fpa b hb)];exact (f2 b hb).1,(f2 b hb).2⟩
 have hR':=hR ⟨{ s2 with heap:=s2.heap.push (A8 X.w) },AA H2 s2.heap.objs.size (Be X.w s2.heap.objs.size (fun _=>false) 0),fp⟩ s2.heap.objs.size I2.fresh
 have I4:=I3.cmp (N:=N) (cl:=cl) (js:=js) (t':=s2.toks) f3 (fun b hb=>by
  show b<(s2.heap.push _).objs.size
  rw[Heap.size_push]
  exact Nat.lt_succ_of_lt (fpl b hb)) hk hcl hcn hsh hl hns₁ hsb₁
 have st4:tn 0 h₁:=T.keep 0 _ _ st2 fun b hb o e=>(hsb₁.2 b (by
  rw[Heap.size_push]
  exact Nat.ne_of_lt (Nat.lt_succ_of_lt (fpl b hb)))).trans (Heap.get?_push_of_some _ (Heap.get?_push_of_some _ e))
 have f4:∀b∈fp,BM (X.cmp N scope cl ⟨{ s2 with heap:=s2.heap.push (A8 X.w) },AA H2 s2.heap.objs.size (Be X.w s2.heap.objs.size (fun _=>false) 0),fp⟩) [] (AA H2 s2.heap.objs.size (Be X.w s2.heap.objs.size (fun _=>false) 0)) b:=fun b hb=>
  ⟨(f3 b hb).1,(I4.ok.exf b hb).1,I4.ok.exfs b hb,.inl hb,(I4.ok.exf b hb).2,fun p hp=>absurd (show p∈([]:List (Addr×Obj)) from hp) (by simp)⟩
 have loop:=codeAny_mono (BR (X:=X.cmp N scope cl ⟨{ s2 with heap:=s2.heap.push (A8 X.w) },AA H2 s2.heap.objs.size (Be X.w s2.heap.objs.size (fun _=>false) 0),fp⟩) (e:=.SetComp elt (⟨tg,iter,ifs,0⟩::rest) scope pos) (d:=0) (acc:=.ref s2.heap.objs.size) (pins:=[]) hxe hc (ht _ _ _) rfl rfl rfl T (hg _) (hb _ _) I4 st4 f4 hR') (R':=compPost (model X.prog X.w) X.A X.xe none (EP X pins σ Q) (.ref s2.heap.objs.size) (s2.heap.push (A8 X.w)).objs.size) (fun r s' hq=>by
  obtain⟨rfl,σ',H',J',q⟩:=hq
  obtain⟨m,hn,_⟩:=id J'.loc
  exact⟨m,hn,fun h'' hs''=>⟨.ref s2.heap.objs.size,H',I3.uncmp f3 J' hs'',rfl,q⟩⟩)
 exact BA (X:=X.cmp N scope cl ⟨{ s2 with heap:=s2.heap.push (A8 X.w) },AA H2 s2.heap.objs.size (Be X.w s2.heap.objs.size (fun _=>false) 0),fp⟩) rfl rfl rfl (fun _=>rfl) True.intro loop (T.self _ 0 _ _ _ st4 loop)
variable {tg1 iter1:Expr} {ifs1:List Expr} {wi1:CC→TI} {g1:CC→TG} {tc tc1:CC→TT} {te:CC→TE}
theorem Ls (h:CompOk X N scope cl js) (hi:PI X tg iter wi) (hg:∀c,PG (X.cmp N scope cl c) tg (g c)) (hif:∀c,JN (X.cmp N scope cl c) ifs (tc c))
  (hi1:∀c,PI (X.cmp N scope cl c) tg1 iter1 (wi1 c)) (hg1:∀c,PG (X.cmp N scope cl c) tg1 (g1 c)) (hif1:∀c,JN (X.cmp N scope cl c) ifs1 (tc1 c)) (he:∀c,PE (X.cmp N scope cl c) elt (te c))
  (hs1:∀c x,foldedSetIterable iter1 (X.cmp N scope cl c).env x=pure x:=by intro _ _;rfl)
  (hxe:X.xe=DQ:=by rfl) (hc:X.calm=true:=by rfl) (hs:∀x,foldedSetIterable iter X.env x=pure x:=by intro _;rfl) :
  PE X (.SetComp elt [⟨tg,iter,ifs,0⟩,⟨tg1,iter1,ifs1,0⟩] scope pos) (L7 X.w wi js g fun c ac=>Cs (tc c) (Jb (wi1 c) (g1 c) (Cs (tc1 c) (Hw X.w ac (te c))))):=
 La (WB:=fun c ac=>Fn (X.cmp N scope cl c) ifs (.SetComp elt [⟨tg,iter,ifs,0⟩,⟨tg1,iter1,ifs1,0⟩] scope pos) iter1 ac) hxe hc hi hs h.clos h.kind h.names h.cell h.ccl h.hcn h.shr h.len (fun c it ac=>OQ (hs1 c)) hg
  fun c ac=>Om (X:=X.cmp N scope cl c) hxe hc (hif c) (hi1 c) (hg1 c) (M4 (X:=X.cmp N scope cl c) hxe (hif1 c) (he c))
end
end L2
namespace L2
open PySem PySem.Spec PyProof.Rows
section
variable {X:Cx}
end
end L2
namespace L2
open PySem PySem.Spec PyProof.Rows
def DS (K:PySem.W.Frag) (H:Hp):Nat→V→V→Prop
 | 0,v,u=>v=u∧((∃k,v= .int k)∨(∃b,v= .bl b)∨v= .non)
 | n+1,v,u=>(v=u∧((∃k,v= .int k)∨(∃b,v= .bl b)∨v= .non))∨∃a b xs ys,v= .ref a∧u= .ref b∧xs.length=ys.length∧(∀(i:Nat) x y,xs[i]? = some x→ys[i]? = some y→DS K H n x y)∧((SqL K H a xs∧SqL K H b ys)∨(SqT K H a xs∧SqT K H b ys))
section
variable {X:Cx} {pins:List (Addr×Obj)} {σ:St} {H:Hp} {s:Shared}
theorem Kh {A:Around} {v u:V} {v' u':Value} (e:v=u) (h:(∃k,v= .int k)∨(∃b,v= .bl b)∨v= .non) (r1:RelV v v') (r2:RelV u u'):SeqAt.EqAt A s v' u' true:=by
 subst e
 rcases h with⟨k,rfl⟩|⟨b,rfl⟩|rfl
 ·obtain⟨t,rfl⟩:=r1
  obtain⟨t2,rfl⟩:=r2
  intro prog w E Q hq
  exact wpAny_eqBool_int (by rw[beq_self_eq_true];exact hq)
 ·cases r1
  cases r2
  exact SeqAt.EqAt.same _
 ·cases r1
  cases r2
  exact SeqAt.EqAt.same _
theorem Dl (n:Nat):(List.range n).all (fun _=>true)=true:=by simp
theorem O4:∀(n:Nat) {A:Around},A.units+n<cLine→Inv X pins σ H s→(∀(v u:V) (v' u':Value),DS X.K H n v u→RelV v v'→RelV u u'→SeqAt.EqAt A s v' u' true)
 | 0,A,hu,I=>fun v u v' u' h r1 r2=>Kh h.1 h.2 r1 r2
 | n+1,A,hu,I=>fun v u v' u' h r1 r2=>by
  rcases h with h | ⟨a,b,xs,ys,rfl,rfl,hl,hx,hk⟩
  ·exact Kh h.1 h.2 r1 r2
  cases r1
  cases r2
  by_cases hab:a=b
  ·subst hab
   exact SeqAt.EqAt.same _
  have ih:=O4 n (A:=A.in1) (by show A.units+1+n<cLine;omega) I
  rcases hk with⟨h1,h2⟩|⟨h1,h2⟩
  ·obtain⟨its,q1,pl,_⟩:=I.list h1
   obtain⟨its2,q2,pl2,_⟩:=I.list h2
   have l1:=q1.length
   have l2:=q2.length
   have:=SeqAt.RcAt.lists (e:=fun _=>true) (A:=A) pl.isList pl2.isList (by simp;omega) (by omega) (fun j j1 j2=>by
    have j1':j<its.length:=by simpa using j1
    have j2':j<its2.length:=by simpa using j2
    have hx1:xs[j]? = some xs[j]:=List.getElem?_eq_getElem (by omega)
    have hy1:ys[j]? = some ys[j]:=List.getElem?_eq_getElem (by omega)
    obtain⟨u1,e1,ru1⟩:=q1.get hx1
    obtain⟨u2,e2,ru2⟩:=q2.get hy1
    have e1':its.toArray[j]=u1:=by
     have:=List.getElem?_eq_getElem j1'
     rw[this] at e1
     simpa using Option.some.inj e1
    have e2':its2.toArray[j]=u2:=by
     have:=List.getElem?_eq_getElem j2'
     rw[this] at e2
     simpa using Option.some.inj e2
    rw[e1',e2']
    exact ih _ _ _ _ (hx j _ _ hx1 hy1) ru1 ru2)
   rw[Dl] at this
   exact SeqAt.EqAt.of_refs hab this
  ·obtain⟨its,q1,pl,_⟩:=I.tuple h1
   obtain⟨its2,q2,pl2,_⟩:=I.tuple h2
   have l1:=q1.length
   have l2:=q2.length
   have:=SeqAt.RcAt.tuples (e:=fun _=>true) (A:=A) pl pl2 (by omega) (fun j j1 j2=>by
    have j1':j<its.length:=by simpa using j1
    have j2':j<its2.length:=by simpa using j2
    have hx1:xs[j]? = some xs[j]:=List.getElem?_eq_getElem (by omega)
    have hy1:ys[j]? = some ys[j]:=List.getElem?_eq_getElem (by omega)
    obtain⟨u1,e1,ru1⟩:=q1.get hx1
    obtain⟨u2,e2,ru2⟩:=q2.get hy1
    have e1':its.toArray[j]=u1:=by
     have:=List.getElem?_eq_getElem j1'
     rw[this] at e1
     simpa using Option.some.inj e1
    have e2':its2.toArray[j]=u2:=by
     have:=List.getElem?_eq_getElem j2'
     rw[this] at e2
     simpa using Option.some.inj e2
    rw[e1',e2']
    exact ih _ _ _ _ (hx j _ _ hx1 hy1) ru1 ru2)
   rw[Dl,Bool.true_and,show (its.toArray.size == its2.toArray.size)=true by simp;omega] at this
   exact SeqAt.EqAt.of_refs hab this
theorem Mi {n:Nat} {A:Around} (hu:A.units+n<cLine) (I:Inv X pins σ H s) {xs ys:List V} {its its2:List Value} (q1:Vals xs its) (q2:Vals ys its2) (hl:xs.length=ys.length) (hx:∀(i:Nat) x y,xs[i]? = some x→ys[i]? = some y→DS X.K H n x y) :
  ∀j (h1:j<its.toArray.size) (h2:j<its2.toArray.size),SeqAt.EqAt A s its.toArray[j] its2.toArray[j] true:=fun j j1 j2=>by
 have l1:=q1.length
 have l2:=q2.length
 have j1':j<its.length:=by simpa using j1
 have j2':j<its2.length:=by simpa using j2
 have hx1:xs[j]? = some xs[j]:=List.getElem?_eq_getElem (by omega)
 have hy1:ys[j]? = some ys[j]:=List.getElem?_eq_getElem (by omega)
 obtain⟨u1,e1,ru1⟩:=q1.get hx1
 obtain⟨u2,e2,ru2⟩:=q2.get hy1
 have e1':its.toArray[j]=u1:=by
  have:=List.getElem?_eq_getElem j1'
  rw[this] at e1
  simpa using Option.some.inj e1
 have e2':its2.toArray[j]=u2:=by
  have:=List.getElem?_eq_getElem j2'
  rw[this] at e2
  simpa using Option.some.inj e2
 rw[e1',e2']
 exact O4 n hu I _ _ _ _ (hx j _ _ hx1 hy1) ru1 ru2
def R4 (K:PySem.W.Frag) (r:Bool):R2:=fun x y H Q=>∃a b xs ys,x= .ref a∧y= .ref b∧xs.length=ys.length∧(∀(i:Nat) x y,xs[i]? = some x→ys[i]? = some y→DS K H 3 x y)∧((SqL K H a xs∧SqL K H b ys)∨(SqT K H a xs∧SqT K H b ys))∧Q (.bl r) H
theorem Pl (hu:X.A.units+9<cLine):D0 X (compareOp .NotEq) (R4 X.K false):=by
 intro pins s σ H x y v u Q I rx ry h
 obtain⟨a,b,xs,ys,rfl,rfl,hl,hx,hk,q⟩:=h
 cases rx
 cases ry
 rcases hk with⟨h1,h2⟩|⟨h1,h2⟩
 ·obtain⟨its,q1,pl,_⟩:=I.list h1
  obtain⟨its2,q2,pl2,_⟩:=I.list h2
  have l1:=q1.length
  have l2:=q2.length
  refine SeqAt.RcNeAt.lists (e:=fun _=>true) pl.isList pl2.isList (by simp;omega) (by omega) (Mi (A:=X.A.in1) (by show X.A.units+1+3<cLine;omega) I q1 q2 hl hx) _ _ _ _ ?_
  rw[Dl]
  exact⟨.bl false,H,I,rfl,q⟩
 ·obtain⟨its,q1,pl,_⟩:=I.tuple h1
  obtain⟨its2,q2,pl2,_⟩:=I.tuple h2
  have l1:=q1.length
  have l2:=q2.length
  refine SeqAt.RcNeAt.tuples (e:=fun _=>true) pl pl2 (by omega) (Mi (A:=X.A.in1) (by show X.A.units+1+3<cLine;omega) I q1 q2 hl hx) _ _ _ _ ?_
  rw[Dl,Bool.true_and,show (its.toArray.size == its2.toArray.size)=true by simp;omega]
  exact⟨.bl false,H,I,rfl,q⟩
theorem Room.units9 {k:Nat} {A:Around} (r:Room k A):A.units+9<cLine:=by have:=r.un;omega
theorem Ou {K:PySem.W.Frag} {row:List Int} {n:Nat}:∀(i:Nat) x y,(row.map V.int)[i]? = some x→(row.map V.int)[i]? = some y→DS K H n x y:=fun i x y hx hy=>by
 rw[hx] at hy
 cases hy
 rw[List.getElem?_map] at hx
 obtain⟨k,_,rfl⟩:=Option.map_eq_some_iff.mp hx
 cases n with
 | zero=>exact⟨rfl,.inl ⟨k,rfl⟩⟩
 | succ n=>exact .inl ⟨rfl,.inl ⟨k,rfl⟩⟩
end
end L2
namespace HT2
open PySem L2 PyProof.Rows
theorem QI {b:Bool} {A B:Prop} (e:b=false) (h:B):if b=true then A else B:=by
 rw[e,if_neg Bool.false_ne_true]
 exact h
theorem QR {b:Bool} {A B:Prop} (e:b=true) (h:A):if b=true then A else B:=by
 rw[e,if_pos rfl]
 exact h
theorem BE {K:PySem.W.Frag} {a acc:Addr} {row:List Int} {p:Int→Bool} {tc:TT} {rest:L2.St} {D:BV} {H:Hp} (hr:SqL K H a (row.map V.int)) (hacc:H acc=none) (hlen:row.length≤900)
  (ht:∀k,k∈row→∀H2,Same H H2→∀R:Bool→Hp→Prop,(∀H3,Same H2 H3→R (p k) H3)→tc (some (.int k)::rest) H2 R)
  (hd:∀v0 H2,Same H H2→H2 acc=some (.lst ((row.filter p).map V.int))→D.nx (v0::rest) H2) (v:Option V) :
  FI (O8 K a) (Ck 0) (Cs tc (BZ acc (Mf 0))) D (v::rest) (AA H acc (.lst [])):=by
 refine AQ (K:=K) (a:=a) (xs:=row.map V.int) (fun i σ H2=>∃v0,σ=v0::rest∧Same H H2∧H2 acc=some (.lst (((row.take i).filter p).map V.int))) ⟨v,rfl,Ag hacc _,Ac⟩ ?_ ?_ ?_
 ·rintro i σ H2 _ ⟨v0,rfl,s2,_⟩
  exact s2.seq hr
 ·rintro i x σ H2 hx ⟨v0,rfl,s2,ha2⟩
  rw[List.getElem?_map] at hx
  obtain⟨k,hk,rfl⟩:=Option.map_eq_some_iff.mp hx
  have et:row.take (i+1)=row.take i++[k]:=by rw[List.take_add_one,hk];rfl
  refine ht k (List.mem_of_getElem? hk) H2 s2 _ fun H3 s3=>?_
  have ha3:=s3 _ _ ha2
  cases e:p k with
  | false=>
   refine⟨_,rfl,s2.trans s3,?_⟩
   rw[et,List.filter_append,List.filter_cons_of_neg (by rw[e];simp),List.filter_nil,List.append_nil]
   exact ha3
  | true=>
   refine⟨_,rfl,_,ha3,AJ ?_,?_⟩
   ·rw[List.length_map]
    refine Nat.le_trans (List.length_filter_le _ _) ?_
    rw[List.length_take]
    omega
   refine⟨_,rfl,AD (s2.trans s3) hacc _,?_⟩
   rw[Ac,et,List.filter_append,List.filter_cons_of_pos e,List.filter_nil,List.map_append]
   rfl
 ·rintro σ H2 ⟨v0,rfl,s2,ha2⟩
  rw[List.length_map,List.take_length] at ha2
  exact hd v0 H2 s2 ha2
theorem IO {K:PySem.W.Frag} {a acc:Addr} {xs:List V} {bs:List Bool} {te:TE} {rest:L2.St} {D:BV} {H:Hp} (hr:SqL K H a xs) (hacc:H acc=none) (hlen:xs.length≤900) (hb:bs.length=xs.length)
  (ht:∀(i:Nat) (x:V) (b:Bool),xs[i]? = some x→bs[i]? = some b→∀H2,Same H H2→∀R:V→Hp→Prop,(∀H3,Same H2 H3→R (.bl b) H3)→te (some x::rest) H2 R)
  (hd:∀v0 H2,Same H H2→H2 acc=some (.lst (bs.map V.bl))→D.nx (v0::rest) H2) (v:Option V) :
  FI (O8 K a) (Ck 0) (Cs K9 (BZ acc te)) D (v::rest) (AA H acc (.lst [])):=by
 refine AQ (K:=K) (a:=a) (xs:=xs) (fun i σ H2=>∃v0,σ=v0::rest∧Same H H2∧H2 acc=some (.lst ((bs.take i).map V.bl))) ⟨v,rfl,Ag hacc _,Ac⟩ ?_ ?_ ?_
 ·rintro i σ H2 _ ⟨v0,rfl,s2,_⟩
  exact s2.seq hr
 ·rintro i x σ H2 hx ⟨v0,rfl,s2,ha2⟩
  have hi:i<bs.length:=by
   have:=(List.getElem?_eq_some_iff.mp hx).1
   omega
  have hbi:bs[i]? = some bs[i]:=List.getElem?_eq_getElem hi
  have et:bs.take (i+1)=bs.take i++[bs[i]]:=by rw[List.take_add_one,hbi];rfl
  show BZ acc te _ _ _
  refine ht i x _ hx hbi H2 s2 _ fun H3 s3=>?_
  refine⟨_,s3 _ _ ha2,AJ ?_,?_⟩
  ·rw[List.length_map,List.length_take]
   omega
  refine⟨_,rfl,AD (s2.trans s3) hacc _,?_⟩
  rw[Ac,et,List.map_append]
  rfl
 ·rintro σ H2 ⟨v0,rfl,s2,ha2⟩
  rw[←hb,List.take_length] at ha2
  exact hd v0 H2 s2 ha2
theorem DV {K:PySem.W.Frag} {a acc:Addr} {row:List Int} {f:Int→Bool} {te:TE} {rest:L2.St} {D:BV} {H:Hp} (hr:SqL K H a (row.map V.int)) (hacc:H acc=none) (hlen:row.length≤900)
  (ht:∀k,k∈row→∀H2,Same H H2→∀R:V→Hp→Prop,(∀H3,Same H2 H3→R (.bl (f k)) H3)→te (some (.int k)::rest) H2 R)
  (hd:∀v0 H2,Same H H2→H2 acc=some (.lst ((row.map f).map V.bl))→D.nx (v0::rest) H2) (v:Option V) :
  FI (O8 K a) (Ck 0) (Cs K9 (BZ acc te)) D (v::rest) (AA H acc (.lst [])):=by
 refine AQ (K:=K) (a:=a) (xs:=row.map V.int) (fun i σ H2=>∃v0,σ=v0::rest∧Same H H2∧H2 acc=some (.lst (((row.take i).map f).map V.bl))) ⟨v,rfl,Ag hacc _,Ac⟩ ?_ ?_ ?_
 ·rintro i σ H2 _ ⟨v0,rfl,s2,_⟩
  exact s2.seq hr
 ·rintro i x σ H2 hx ⟨v0,rfl,s2,ha2⟩
  rw[List.getElem?_map] at hx
  obtain⟨k,hk,rfl⟩:=Option.map_eq_some_iff.mp hx
  have et:row.take (i+1)=row.take i++[k]:=by rw[List.take_add_one,hk];rfl
  show BZ acc te _ _ _
  refine ht k (List.mem_of_getElem? hk) H2 s2 _ fun H3 s3=>?_
  refine⟨_,s3 _ _ ha2,AJ ?_,?_⟩
  ·rw[List.length_map,List.length_map,List.length_take]
   omega
  refine⟨_,rfl,AD (s2.trans s3) hacc _,?_⟩
  rw[Ac,et,List.map_append,List.map_append]
  rfl
 ·rintro σ H2 ⟨v0,rfl,s2,ha2⟩
  rw[List.length_map,List.take_length] at ha2
  exact hd v0 H2 s2 ha2
theorem Ob (k:Int) (xs:List Int):O7 (.int k) (xs.map V.int)=decide (k∈xs):=by
 unfold O7
 induction xs with
 | nil=>simp
 | cons x r ih=>
  rw[List.map_cons,List.any_cons,ih]
  have e:NQ (.int x) (.int k)=decide (x=k):=by
   show (x == k)=decide (x=k)
   rfl
  rw[e]
  by_cases h:x=k
  ·subst h;simp
  ·have h':¬k=x:=fun z=>h z.symm
   simp[h,h']
theorem L5 (xs:List Int):(xs.map V.int).all Ec=true:=by
 induction xs with
 | nil=>rfl
 | cons x r ih=>rw[List.map_cons,List.all_cons,ih];rfl
theorem Fe {a b:List Int} (ha:a.Pairwise (· < ·)) (hb:b.Pairwise (· < ·)) (h:∀k,k∈a↔k∈b):a=b:=by
 have na:a.Nodup:=ha.imp fun h=>by omega
 have nb:b.Nodup:=hb.imp fun h=>by omega
 have hp:a.Perm b:=(List.perm_ext_iff_of_nodup na nb).mpr h
 exact PySem.W.ksm_same hp (ha.imp fun h=>by omega) (hb.imp fun h=>by omega)
theorem My {K:PySem.W.Frag} {k:Int} {r:Addr} {row:List Int} {H:Hp} {Q:VK} (h:SqL K H r (row.map V.int)) (q:Q (.bl (decide (k∈row))) H):Re K false (.int k) (.ref r) H Q:=
 ⟨r,_,rfl,.inl h,rfl,L5 _,by rw[←Ob] at q;exact q⟩
end HT2
namespace L2
open PySem PySem.Spec PyProof.Rows
section
variable {X:Cx} {N:List Str} {scope:Scope} {cl:List (Str×Addr)} {js:List (Option Nat)} {elt tg iter:Expr} {ifs:List Expr} {rest:List Comprehension} {pos spos ypos:Pos} {wi:TI} {g:CC→TG} {tb:CC→Addr→TS} {i:Nat} {y:Str}
end
end L2
namespace Toy
open PySem L2 HT2 PyProof.Rows
open PySem.W (clsIn codeIn findIn fnOf keepIn mg_none_of mg_of mroIn nsIn subIn typeIn)
theorem BC {N P:List Str} {c:Scope} (x:c.kind=.function:=by exact rfl) (y:c.isCoroutine=false:=by exact rfl) (z:c.isGenerator=false:=by exact rfl) (d:N.Nodup:=by decide +kernel) (e:N.take P.length=P:=by exact rfl) (g:∀x∈P,c.names.lookup x=some .local∨c.names.lookup x=some .cell:=by decide +kernel) (h:∀y∈c.names,y.2≠.free:=by decide +kernel):Ap N P c:=⟨x,y,z,d,e,g,h⟩
variable {P:Program} {w:World} {K:PySem.W.Frag} {mg:Str→Option Value} {bz:Heap} {f:Addr} {fd:FuncData}
set_option maxHeartbeats 64000000
def BD (i:Nat):Stmt:=PySem.Challenge.pw_holdtalk_k36_whole_who_it_may_have_been.main.body.getD i (.Pass ⟨0,0,0,0⟩)
abbrev Lv:Stmt:=BD 41
abbrev Gc:Stmt:=BD 46
structure Bl (mg:Str→Option Value):Prop where
 abs:mg "abs"=none
 len:mg "len"=none
 range:mg "range"=none
def Nu (K:PySem.W.Frag):Sp:=fun vs H Q _=>∃(a:Addr) (ns:List Int) (k:Int),vs=[.ref a,.int k]∧SqL K H a (ns.map V.int)∧ns.length≤63∧0≤k∧k≤1000∧
 ∀(n:Int) (H':Hp),0≤n→Same H H'→Q (.int n) H'
def J7:Sp:=fun vs H Q _=>∃(n:Int) (most many:Nat),vs=[.int n,.int most,.int many]∧0≤n∧1≤most∧most≤12∧1≤many∧many≤5∧
 ∀(v:V) (t:Tr) (H':Hp),Same H H'→t.At H' v→t.ok many→t.size+1≤2*most→Q v H'
section
theorem scNum:Ap ["_law_script","_law_k","_law_cell","_law_one","_law_two"] ["_law_script","_law_k"] (Af Lv):=BC
end
section
theorem scSent:Ap ["_law_n","_law_most","_law_many","_law_joints","_law_pile","_law_size","_law_turn","_law_digit","_law_right"] ["_law_n","_law_most","_law_many"] (Af Gc):=BC
structure PileAt (H1 H2:Hp) (pl:Addr) (xs:List V) (ts:List Tr) (many:Nat):Prop where
 sm:Same H1 H2
 at':H2 pl=some (.lst xs)
 pile:Pile H2 xs ts
 ok:∀t∈ts,t.ok many
theorem PileAt.len {H1 H2:Hp} {pl:Addr} {xs:List V} {ts:List Tr} {many:Nat} (p:PileAt H1 H2 pl xs ts many):xs.length=ts.length:=p.pile.len
theorem PileAt.pop {H1 H2:Hp} {pl:Addr} {xs:List V} {ts:List Tr} {many:Nat} (np:H1 pl=none) (p:PileAt H1 H2 pl xs ts many) (h:0<ts.length) :
  ∃y ts' t,xs[xs.length-1]? = some y∧ts=ts'++[t]∧t.ok many∧t.At (AA H2 pl (.lst xs.dropLast)) y∧PileAt H1 (AA H2 pl (.lst xs.dropLast)) pl xs.dropLast ts' many:=by
 obtain⟨xs',y,ts',t,rfl,rfl,q,a⟩:=p.pile.last h
 refine⟨y,ts',t,Eh _ _,rfl,p.ok t (by simp),a.keep (TS.lst p.at'),⟨AD p.sm np _,Ac,?_,fun u hu=>p.ok u (by simp[hu])⟩⟩
 rw[List.dropLast_concat]
 exact q.keep (TS.lst p.at')
theorem PileAt.new {H1 H2:Hp} {pl e:Addr} {xs:List V} {ts:List Tr} {many:Nat} {o:HO} (p:PileAt H1 H2 pl xs ts many) (he:H2 e=none):PileAt H1 (AA H2 e o) pl xs ts many:=
 ⟨p.sm.trans (Ag he _),(Ag he _) _ _ p.at',p.pile.keep (TS.new he),p.ok⟩
theorem PileAt.put {H1 H2:Hp} {pl c:Addr} {xs:List V} {ts:List Tr} {many:Nat} {t:Tr} {ys:List V} (np:H1 pl=none) (p:PileAt H1 H2 pl xs ts many) (hc:H2 c=none) (ht:t.ok many)
  (ha:t.At (AA (AA H2 c (.tup ys)) pl (.lst (xs++[.ref c]))) (.ref c)):PileAt H1 (AA (AA H2 c (.tup ys)) pl (.lst (xs++[.ref c]))) pl (xs++[.ref c]) (ts++[t]) many:=by
 have k:TS H2 (AA (AA H2 c (.tup ys)) pl (.lst (xs++[.ref c]))):=(TS.new hc).trans (TS.lst (xs:=xs) (by rw[Az (Ay p.at' hc)];exact p.at'))
 refine⟨AD (p.sm.trans (Ag hc _)) np _,Ac,(p.pile.keep k).snoc ha,fun u hu=>?_⟩
 rcases List.mem_append.mp hu with z | z
 ·exact p.ok u z
 ·rw[List.mem_singleton.mp z]
  exact ht
theorem Ib {H2:Hp} {pl c:Addr} {xs ys zs:List V} (hp:H2 pl=some (.lst zs)) (hc:H2 c=none):(AA (AA H2 c (.tup ys)) pl (.lst xs)) c=some (.tup ys):=by
 rw[Az (Ay hp hc).symm,Ac]
theorem Dg {H2:Hp} {pl c:Addr} {xs ys zs:List V} (hp:H2 pl=some (.lst zs)) (hc:H2 c=none):TS H2 (AA (AA H2 c (.tup ys)) pl (.lst xs)):=
 (TS.new hc).trans (TS.lst (xs:=zs) (by rw[Az (Ay hp hc)];exact hp))
def Oc (H1:Hp) (jl pl:Addr) (most many:Nat) (size:Int) (i:Nat):L2.St→Hp→Prop:=fun σ H2=>∃(m:Int) (tv dv rv:Option V) (xs:List V) (ts:List Tr),
 σ=[some (.int m),some (.int most),some (.int many),some (.ref jl),some (.ref pl),some (.int size),tv,dv,rv]∧0≤m∧PileAt H1 H2 pl xs ts many∧sz ts≤i∧ts.length≤i∧(0<i→0<ts.length)
theorem D5 {H1 H3:Hp} {jl pl c:Addr} {most many i:Nat} {size d m2:Int} {xs:List V} {ts:List Tr} {tv rv:Option V} (np:H1 pl=none) (p:PileAt H1 H3 pl xs ts many) (hc:H3 c=none) (h1:1≤many) (hm:0≤m2) (z1:sz ts≤i) (z2:ts.length≤i) :
  Oc H1 jl pl most many size (i+1) [some (.int m2),some (.int most),some (.int many),some (.ref jl),some (.ref pl),some (.int size),tv,some (.int d),rv] (AA (AA H3 c (.tup [.str "let",.int (d%(many:Int))])) pl (.lst (xs++[.ref c]))):=by
 have e1:=Int.emod_nonneg d (show (many:Int)≠0 by omega)
 have e2:=Int.emod_lt_of_pos d (show (0:Int)<many by omega)
 have e3:d%(many:Int)=(((d%(many:Int)).toNat:Nat):Int):=by omega
 refine⟨m2,_,_,_,_,ts++[.lt (d%(many:Int)).toNat],rfl,hm,p.put (t:=.lt (d%(many:Int)).toNat) np hc (by show (d%(many:Int)).toNat<many;omega) ⟨c,rfl,?_⟩,?_,?_,?_⟩
 ·rw[Ib p.at' hc,←e3]
 ·rw[By];show sz ts+1≤i+1;omega
 ·rw[List.length_append];show ts.length+1≤i+1;omega
 ·intro _;rw[List.length_append];exact Nat.succ_pos _
theorem MC {H1 H3:Hp} {jl pl c:Addr} {most many i:Nat} {size m2:Int} {xs:List V} {ts:List Tr} {t:Tr} {y:V} {tv dv rv:Option V} (np:H1 pl=none) (p:PileAt H1 H3 pl xs ts many) (hc:H3 c=none) (hm:0≤m2) (ht:t.ok many) (ha:t.At H3 y) (z1:sz (ts++[t])≤i) (z2:(ts++[t]).length≤i) :
  Oc H1 jl pl most many size (i+1) [some (.int m2),some (.int most),some (.int many),some (.ref jl),some (.ref pl),some (.int size),tv,dv,rv] (AA (AA H3 c (.tup [.str "not",y])) pl (.lst (xs++[.ref c]))):=by
 rw[By] at z1
 rw[List.length_append] at z2
 have z2':ts.length+1≤i:=z2
 refine⟨m2,_,_,_,_,ts++[.nt t],rfl,hm,p.put (t:=.nt t) np hc ht ⟨c,y,rfl,Ib p.at' hc,ha.keep (Dg p.at' hc)⟩,?_,?_,?_⟩
 ·rw[By];show sz ts+(t.size+1)≤i+1;omega
 ·rw[List.length_append];show ts.length+1≤i+1;omega
 ·intro _;rw[List.length_append];exact Nat.succ_pos _
theorem NU {H1 H3:Hp} {jl pl c:Addr} {most many i:Nat} {size m2 j:Int} {xs:List V} {ts:List Tr} {t u:Tr} {y x:V} {tv dv rv:Option V} (np:H1 pl=none) (p:PileAt H1 H3 pl xs ts many) (hc:H3 c=none) (hm:0≤m2) (hj0:0≤j) (hj:j<4) (ht:t.ok many) (hu:u.ok many) (ha:t.At H3 y) (hx:u.At H3 x) (z1:sz (ts++[u]++[t])≤i) (z2:(ts++[u]++[t]).length≤i) :
  Oc H1 jl pl most many size (i+1) [some (.int m2),some (.int most),some (.int many),some (.ref jl),some (.ref pl),some (.int size),tv,dv,rv] (AA (AA H3 c (.tup [.str (jn j.toNat),x,y])) pl (.lst (xs++[.ref c]))):=by
 rw[By,By] at z1
 rw[List.length_append,List.length_append] at z2
 have z2':ts.length+1+1≤i:=z2
 refine⟨m2,_,_,_,_,ts++[.bn j.toNat u t],rfl,hm,p.put (t:=.bn j.toNat u t) np hc ⟨by omega,hu,ht⟩ ⟨c,x,y,rfl,Ib p.at' hc,hx.keep (Dg p.at' hc),ha.keep (Dg p.at' hc)⟩,?_,?_,?_⟩
 ·rw[By];show sz ts+(u.size+t.size+1)≤i+1;omega
 ·rw[List.length_append];show ts.length+1≤i+1;omega
 ·intro _;rw[List.length_append];exact Nat.succ_pos _
theorem Rw {t:Tr} {most:Nat} (h:sz ([]++[t])+([]++[t]:List Tr).length≤2*most):t.size+1≤2*most:=by
 rw[By] at h
 have h':0+t.size+1≤2*most:=h
 omega
def P7 (H1:Hp) (jl pl:Addr) (most many:Nat) (size:Int) (k:Nat):L2.St→Hp→Prop:=fun σ H2=>∃(m:Int) (tv dv rv:Option V) (xs:List V) (ts:List Tr),
 σ=[some (.int m),some (.int most),some (.int many),some (.ref jl),some (.ref pl),some (.int size),tv,dv,rv]∧0≤m∧PileAt H1 H2 pl xs ts many∧sz ts+ts.length≤2*most∧ts.length=k∧0<k
theorem PR {H1 H3:Hp} {jl pl c:Addr} {most many k:Nat} {size m2 j:Int} {xs:List V} {ts:List Tr} {t u:Tr} {y x:V} {tv dv rv:Option V} (np:H1 pl=none) (p:PileAt H1 H3 pl xs ts many) (hc:H3 c=none) (hm:0≤m2) (hj0:0≤j) (hj:j<4) (ht:t.ok many) (hu:u.ok many) (ha:t.At H3 y) (hx:u.At H3 x) (z1:sz (ts++[u]++[t])+(ts++[u]++[t]).length≤2*most) (z2:(ts++[u]++[t]).length=k) :
  ∃k',k'<k∧P7 H1 jl pl most many size k' [some (.int m2),some (.int most),some (.int many),some (.ref jl),some (.ref pl),some (.int size),tv,dv,rv] (AA (AA H3 c (.tup [.str (jn j.toNat),x,y])) pl (.lst (xs++[.ref c]))):=by
 rw[By,By,List.length_append,List.length_append] at z1
 rw[List.length_append,List.length_append] at z2
 have z2':ts.length+1+1=k:=z2
 have z1':sz ts+u.size+t.size+(ts.length+1+1)≤2*most:=z1
 refine⟨ts.length+1,by omega,m2,_,_,_,_,ts++[.bn j.toNat u t],rfl,hm,p.put (t:=.bn j.toNat u t) np hc ⟨by omega,hu,ht⟩ ⟨c,x,y,rfl,Ib p.at' hc,hx.keep (Dg p.at' hc),ha.keep (Dg p.at' hc)⟩,?_,?_,Nat.succ_pos _⟩
 ·rw[By,List.length_append];show sz ts+(u.size+t.size+1)+(ts.length+1)≤2*most;omega
 ·rw[List.length_append];rfl
theorem Ov (F:Fun K "_law_sentence" "_law_sentence" Gc f fd) (B:Bl mg):FnOk P w K mg bz AO 1 f fd ["_law_n","_law_most","_law_many"] J7:=by
 refine F.ok scSent (fun vs H Q E h=>?_) (fun cdv A outer s H vs Q E hr h=>?_)
 ·obtain⟨n,most,many,rfl,_⟩:=h
  rfl
 obtain⟨n,most,many,rfl,h0,hm1,hm2,hy1,hy2,q⟩:=h
 refine⟨_,Ad (Ak (i:=3) scSent.nd rfl (Or.inl rfl) (AF (Aa Ar (Aa Ar (Aa Ar (Aa Ar Ab))))))
  (Ad (Ak (i:=4) scSent.nd rfl (Or.inl rfl) (AF Ab))
  (Ad (Ak (i:=5) scSent.nd rfl (Or.inl rfl) (AC B1 Ah (AC AZ (pv 0) (pv 1))))
  (Ad (Ak (i:=0) scSent.nd rfl (Or.inl rfl) (AC Bb (pv 0) (pv 1)))
  (Ad (Ba PassesOwn.never rfl (Bt (by rfl) B.range (Aa (pv 5) Ab)) (Ax (i:=6) scSent.nd rfl (Or.inl rfl))
   (Ad (Ak (i:=7) scSent.nd rfl (Or.inl rfl) (AC AZ (pv 0) Ah))
   (Ad (Ak (i:=0) scSent.nd rfl (Or.inl rfl) (AC Bb (pv 0) Ah))
   (Ae (AE (Cz (Am AS (pv 7) Ah (As _)) (BN (Am (J6 hr.units0) (pv 4) (AF Ab) (As _)))).pt
    (Ae (AU (Bz PySem.F.plainAttrs_list PySem.F.slot_list_append PySem.F.type_list_append AN (pv 4) (Aa (Bs (Aa Ar (Aa (B3 PySem.F.plainAttrs_list PySem.F.slot_list_pop PySem.F.type_list_pop Cr (pv 4)) Ab))) Ab))))
    (Ae (AE (Cz (Am EW (pv 7) Ah (As _)) (BN (Am EW (Av Aw (by rfl) B.len PySem.boot_len (Aa (pv 4) Ab)) Ah (As _)))).pt
     (Ad (Ak (i:=8) scSent.nd rfl (Or.inl rfl) (B3 PySem.F.plainAttrs_list PySem.F.slot_list_pop PySem.F.type_list_pop Cr (pv 4)))
     (Ae (AU (Bz PySem.F.plainAttrs_list PySem.F.slot_list_append PySem.F.type_list_append AN (pv 4) (Aa (Bs (Aa (AH AG (pv 3) (AC Fl (pv 7) Ah) (fun _ _=>rfl)) (Aa (B3 PySem.F.plainAttrs_list PySem.F.slot_list_pop PySem.F.type_list_pop Cr (pv 4)) (Aa (pv 8) Ab)))) Ab)))))
     (Ae (AU (Bz PySem.F.plainAttrs_list PySem.F.slot_list_append PySem.F.type_list_append AN (pv 4) (Aa (Bs (Aa Ar (Aa (AC AZ (pv 7) (pv 2)) Ab))) Ab)))))))))))
  (Ad (FK PassesOwn.never (Am EW (Av Aw (by rfl) B.len PySem.boot_len (Aa (pv 4) Ab)) Ah (As _))
   (Ad (Ak (i:=8) scSent.nd rfl (Or.inl rfl) (B3 PySem.F.plainAttrs_list PySem.F.slot_list_pop PySem.F.type_list_pop Cr (pv 4)))
   (Ad (AU (Bz PySem.F.plainAttrs_list PySem.F.slot_list_append PySem.F.type_list_append AN (pv 4) (Aa (Bs (Aa (AH AG (pv 3) (AC AZ (pv 0) Ah) (fun _ _=>rfl)) (Aa (B3 PySem.F.plainAttrs_list PySem.F.slot_list_pop PySem.F.type_list_pop Cr (pv 4)) (Aa (pv 8) Ab)))) Ab)))
   (Ae (Ak (i:=0) scSent.nd rfl (Or.inl rfl) (AC Bb (pv 0) Ah))))))
  (Ae (Aj (AH AG (pv 4) Ah (fun _ _=>rfl))))))))),?_⟩
 refine⟨RX,fun jl hjl=>⟨Fi,fun pl hpl=>?_⟩⟩
 have sJ:Same H (AA H jl (.lst CQ)):=Ag hjl _
 have nJ:jl≠pl:=Ay (Ac (H:=H) (a:=jl) (o:=.lst CQ)) hpl
 refine⟨_,rfl,_,rfl,_,_,rfl,rfl,(by omega),_,_,rfl,rfl,_,rfl,_,rfl,_,_,rfl,rfl,⟨by omega,by omega⟩,?_⟩
 have hsz0:=Int.emod_nonneg n (show (most:Int)≠0 by omega)
 have hsz1:=Int.emod_lt_of_pos n (show (0:Int)<most by omega)
 have hn0:0≤n / (most:Int):=Int.ediv_nonneg h0 (by omega)
 have hs1:1≤1+n%(most:Int):=by omega
 have hs2:1+n%(most:Int)≤most:=by omega
 refine⟨_,rfl,_,rfl,(by omega),(by omega),Bo (n:=(1+n%(most:Int)).toNat) (Oc (AA H jl (.lst CQ)) jl pl most many (1+n%(most:Int))) ?_ ?_ ?_⟩
 ·exact⟨_,none,none,none,[],[],rfl,hn0,⟨Ag hpl _,Ac,.nil,fun t ht=>absurd ht (by simp)⟩,Nat.le_refl _,Nat.le_refl _,fun z=>z⟩
 ·rintro i σ H2 hi ⟨m,tv,dv,rv,xs,ts,rfl,hm,p,z1,z2,z3⟩
  have hlen:=p.len
  have hi':i<12:=by omega
  have hm2:0≤m / 10:=by omega
  have hd0:0≤m%10:=by omega
  have hd1:m%10<10:=by omega
  have lt12:∀{k:Nat},k≤12→k<sizeLine:=fun h=>AJ (Nat.le_trans h (by decide))
  refine⟨_,rfl,_,_,rfl,rfl,(by show (0:Int)<10;decide),_,rfl,_,_,rfl,rfl,⟨by decide,by decide⟩,?_⟩
  refine⟨_,rfl,rfl,_,rfl,?_⟩
  refine B2 (fun c1=>?_) (fun c1=>?_)
  ·refine⟨_,rfl,Fi,fun e he=>?_⟩
   have p3:PileAt (AA H jl (.lst CQ)) (AA H2 e (.lst [])) pl xs ts many:=p.new he
   refine⟨pl,e,xs,rfl,rfl,SqL.of p3.at',SqL.of Ac,_,rfl,?_⟩
   refine B2 (fun c2=>?_) (fun c2=>?_)
   ·have hpos:0<ts.length:=by
     cases xs with
     | nil=>exact absurd c2 (by decide)
     | cons x r=>rw[←hlen];exact Nat.succ_pos _
    obtain⟨y,ts',t,ey,rfl,okt,ha,p4⟩:=p3.pop hpl hpos
    have hl4:=p4.len
    rw[List.length_append] at z2
    have z2':ts'.length+1≤i:=z2
    refine⟨_,rfl,.inl ⟨rfl,_,SqL.of p3.at'⟩,_,rfl,.inl ⟨rfl,_,SqL.of p3.at'⟩,pl,_,y,rfl,rfl,p3.at',ey,Jd,fun c hc=>⟨pl,_,_,rfl,rfl,(Ag hc _) _ _ p4.at',lt12 (by omega),?_⟩⟩
    exact MC hpl p4 hc hm2 okt ha z1 (by rw[List.length_append];exact z2)
   ·
    refine⟨_,rfl,_,_,rfl,rfl,_,rfl,?_⟩
    refine B2 (fun c3=>?_) (fun c3=>?_)
    ·refine⟨_,rfl,pl,xs,rfl,.inl (SqL.of p3.at'),_,_,rfl,rfl,_,rfl,?_⟩
     refine B2 (fun c4=>?_) (fun c4=>?_)
     ·exfalso
      have:xs=[]:=by
       cases xs with
       | nil=>rfl
       | cons x r=>exact absurd rfl c2
      subst this
      exact absurd c4 (by decide)
     ·refine⟨_,rfl,.inl ⟨rfl,_,SqL.of p3.at'⟩,_,rfl,_,rfl,_,_,rfl,rfl,(by omega),Jd,fun c hc=>⟨pl,_,_,rfl,rfl,(Ag hc _) _ _ p3.at',lt12 (by omega),?_⟩⟩
      exact D5 hpl p3 hc hy1 hm2 z1 z2
    ·refine A0 ?_
     refine⟨_,rfl,.inl ⟨rfl,_,SqL.of p3.at'⟩,_,rfl,_,rfl,_,_,rfl,rfl,(by omega),Jd,fun c hc=>⟨pl,_,_,rfl,rfl,(Ag hc _) _ _ p3.at',lt12 (by omega),?_⟩⟩
     exact D5 hpl p3 hc hy1 hm2 z1 z2
  ·refine A0 ?_
   refine⟨_,rfl,_,_,rfl,rfl,_,rfl,?_⟩
   refine B2 (fun c3=>?_) (fun c3=>?_)
   ·have c3':(5:Int)<m%10:=of_decide_eq_true c3
    refine⟨_,rfl,pl,xs,rfl,.inl (SqL.of p.at'),_,_,rfl,rfl,_,rfl,?_⟩
    refine B2 (fun c4=>?_) (fun c4=>?_)
    ·have c4':(1:Int)<(xs.length:Nat):=of_decide_eq_true c4
     obtain⟨y,ts',t,ey,rfl,okt,ha,p4⟩:=p.pop hpl (by omega)
     rw[List.length_append] at hlen
     have hlen':xs.length=ts'.length+1:=hlen
     obtain⟨x,ts2,u,ex,rfl,oku,hax,p5⟩:=p4.pop hpl (by omega)
     have hl5:=p5.len
     rw[List.length_append,List.length_append] at z2
     have z2':ts2.length+1+1≤i:=z2
     refine⟨_,rfl,.inl ⟨rfl,_,SqL.of p.at'⟩,pl,_,y,rfl,rfl,p.at',ey,?_⟩
     refine⟨_,rfl,.inl ⟨rfl,_,SqL.of p4.at'⟩,_,rfl,_,rfl,_,_,rfl,rfl,jl,CQ,_,_,rfl,rfl,SqL.of (p4.sm _ _ Ac),Je (by omega) (by omega),_,rfl,.inl ⟨rfl,_,SqL.of p4.at'⟩,pl,_,x,rfl,rfl,p4.at',ex,_,rfl,N6,fun c hc=>⟨pl,_,_,rfl,rfl,(Ag hc _) _ _ p5.at',lt12 (by omega),?_⟩⟩
     exact NU hpl p5 hc hm2 (by omega) (by omega) okt oku (ha.keep (TS.lst p4.at')) hax z1 (by rw[List.length_append,List.length_append];exact z2)
    ·refine⟨_,rfl,.inl ⟨rfl,_,SqL.of p.at'⟩,_,rfl,_,rfl,_,_,rfl,rfl,(by omega),Jd,fun c hc=>⟨pl,_,_,rfl,rfl,(Ag hc _) _ _ p.at',lt12 (by omega),?_⟩⟩
     exact D5 hpl p hc hy1 hm2 z1 z2
   ·refine A0 ?_
    refine⟨_,rfl,.inl ⟨rfl,_,SqL.of p.at'⟩,_,rfl,_,rfl,_,_,rfl,rfl,(by omega),Jd,fun c hc=>⟨pl,_,_,rfl,rfl,(Ag hc _) _ _ p.at',lt12 (by omega),?_⟩⟩
    exact D5 hpl p hc hy1 hm2 z1 z2
 ·rintro σ H2 ⟨m,tv,dv,rv,xs,ts,rfl,hm,p,z1,z2,z3⟩
  have z3':=z3 (by omega)
  refine⟨P7 (AA H jl (.lst CQ)) jl pl most many (1+n%(most:Int)),⟨ts.length,m,tv,dv,rv,xs,ts,rfl,hm,p,by omega,rfl,z3'⟩,?_⟩
  rintro k σ H3 ⟨m,tv,dv,rv,xs,ts,rfl,hm,p,z1,z2,z3⟩
  have hlen:=p.len
  have hm2:0≤m / 4:=by omega
  have lt12:∀{k:Nat},k≤24→k<sizeLine:=fun h=>AJ (Nat.le_trans h (by decide))
  refine⟨_,rfl,pl,xs,rfl,.inl (SqL.of p.at'),_,_,rfl,rfl,_,rfl,?_⟩
  refine B2 (fun c4=>?_) (fun c4=>?_)
  ·have c4':(1:Int)<(xs.length:Nat):=of_decide_eq_true c4
   refine⟨fun σ' H'=>∃k',k'<k∧P7 (AA H jl (.lst CQ)) jl pl most many (1+n%(most:Int)) k' σ' H',fun _ _ h=>h,?_⟩
   obtain⟨y,ts',t,ey,rfl,okt,ha,p4⟩:=p.pop hpl (by omega)
   rw[List.length_append] at hlen
   have hlen':xs.length=ts'.length+1:=hlen
   obtain⟨x,ts2,u,ex,rfl,oku,hax,p5⟩:=p4.pop hpl (by omega)
   have hl5:=p5.len
   have z2':ts2.length+1+1=k:=by
    rw[List.length_append,List.length_append] at z2
    exact z2
   refine⟨_,rfl,.inl ⟨rfl,_,SqL.of p.at'⟩,pl,_,y,rfl,rfl,p.at',ey,?_⟩
   refine⟨_,rfl,.inl ⟨rfl,_,SqL.of p4.at'⟩,_,rfl,_,rfl,_,_,rfl,rfl,(by show (0:Int)<4;decide),jl,CQ,_,_,rfl,rfl,SqL.of (p4.sm _ _ Ac),Je (by omega) (by omega),_,rfl,.inl ⟨rfl,_,SqL.of p4.at'⟩,pl,_,x,rfl,rfl,p4.at',ex,_,rfl,N6,fun c hc=>⟨pl,_,_,rfl,rfl,(Ag hc _) _ _ p5.at',lt12 (by omega),?_⟩⟩
   refine⟨_,rfl,_,_,rfl,rfl,⟨by decide,by decide⟩,?_⟩
   exact PR hpl p5 hc hm2 (by omega) (by omega) okt oku (ha.keep (TS.lst p4.at')) hax z1 z2
  ·have c4':¬(1:Int)<(xs.length:Nat):=of_decide_eq_false (Bool.eq_false_iff.mpr c4)
   obtain⟨xs',y,ts',t,rfl,rfl,q1,a⟩:=p.pile.last (by omega)
   rw[List.length_append] at c4'
   have e0:xs'=[]:=by
    have c5:¬(1:Int)<((xs'.length+1:Nat):Int):=c4'
    exact List.length_eq_zero_iff.mp (by omega)
   subst e0
   cases q1
   refine⟨_,rfl,pl,_,_,y,rfl,rfl,SqL.of p.at',Aq (j:=0) rfl,?_⟩
   exact q y t _ (sJ.trans p.sm) a (p.ok t (by simp)) (Rw z1)
end
theorem Ic {j:Nat}:¬(V.str (jn j)=V.str "let"):=by
 match j with
 | 0=>decide
 | 1=>decide
 | 2=>decide
 | _+3=>show ¬(V.str "same"=V.str "let");decide
theorem Ml {j:Nat}:¬(V.str (jn j)=V.str "not"):=by
 match j with
 | 0=>decide
 | 1=>decide
 | 2=>decide
 | _+3=>show ¬(V.str "same"=V.str "not");decide
theorem Bp {c A B:Prop} [Decidable c] (h:c) (a:A):if decide c=true then A else B:=by
 rw[decide_eq_true h,if_pos rfl]
 exact a
theorem Bk {c A B:Prop} [Decidable c] (h:¬c) (b:B):if decide c=true then A else B:=by
 rw[decide_eq_false h,if_neg Bool.false_ne_true]
 exact b
structure AL (K:PySem.W.Frag) (mg:Str→Option Value) (x:Str) (f:Addr) (fd:FuncData) (ps:List Str):Prop where
 m:mg x=some (.ref f)
 k:keepIn K (.ref f)=true
 b:Binds K fd ps []
def Js:Tr→List Tr
 | .lt _=>[]
 | .nt t=>[t]
 | .bn _ a b=>[a,b]
def BF (ts:List Tr):List Tr:=ts.flatMap Js
theorem Iq (a b:List Tr):BF (a++b)=BF a++BF b:=by
 unfold BF
 rw[List.flatMap_append]
theorem I8 (t:Tr):BF [t]=Js t:=by
 unfold BF
 simp
theorem ES {ts:List Tr} {i:Nat} {t:Tr} (h:ts[i]? = some t):BF (ts.take (i+1))=BF (ts.take i)++Js t:=by
 rw[List.take_add_one,h,Iq]
 congr 1
 exact I8 t
theorem Ng (a b:List Tr):sz (a++b)=sz a+sz b:=by
 unfold sz
 rw[List.map_append,List.sum_append]
theorem Mx:∀t:Tr,sz (Js t)+1=t.size
 | .lt _=>rfl
 | .nt t=>by
  have:sz [t]=t.size:=by unfold sz;simp
  show sz [t]+1=t.size+1
  rw[this]
 | .bn _ a b=>by
  have:sz [a,b]=a.size+b.size:=by unfold sz;simp
  show sz [a,b]+1=a.size+b.size+1
  rw[this]
theorem Hv (t:Tr) (r:List Tr):sz (t::r)=t.size+sz r:=by
 unfold sz
 rw[List.map_cons,List.sum_cons]
theorem Kz (ts:List Tr):sz (BF ts)+ts.length=sz ts:=by
 induction ts with
 | nil=>rfl
 | cons t r ih=>
  have h:=Mx t
  rw[Hv]
  show sz (Js t++BF r)+(r.length+1)=_
  rw[Ng]
  omega
theorem HJ (ts:List Tr):ts.length≤sz ts:=by
 induction ts with
 | nil=>exact Nat.le_refl _
 | cons t r ih=>
  have h:=t.size_pos
  rw[Hv]
  show r.length+1≤_
  omega
theorem I9 {ts:List Tr} {i j:Nat} {t:Tr} (h:ts[i]? = some t):(BF (ts.take i)++(Js t).take j).length≤sz ts:=by
 have e1:ts=ts.take (i+1)++ts.drop (i+1):=(List.take_append_drop _ _).symm
 have h1:(BF (ts.take (i+1))).length≤(BF ts).length:=by
  have h2:(BF ts).length=(BF (ts.take (i+1))).length+(BF (ts.drop (i+1))).length:=by
   rw[←List.length_append,←Iq,List.take_append_drop]
  omega
 have h3:=HJ (BF ts)
 have h4:=Kz ts
 rw[ES h,List.length_append] at h1
 rw[List.length_append,List.length_take]
 omega
theorem B6 {H:Hp}:∀{xs:List V} {ts:List Tr} {i:Nat} {x:V},Pile H xs ts→xs[i]? = some x→∃t,ts[i]? = some t∧Tr.At H t x
 | _,_,_,_,.nil,e=>by simp at e
 | _,_,0,_,.cons r _,e=>by
  simp at e
  subst e
  exact⟨_,rfl,r⟩
 | _,_,i+1,x,.cons _ q,e=>by
  obtain⟨t,h1,h2⟩:=B6 (i:=i) q (by simpa using e)
  exact⟨t,by simpa using h1,h2⟩
theorem PF {H:Hp} {t:Tr} {v:V} (h:t.At H v):∃p z cs,v= .ref p∧H p=some (.tup (z::cs))∧((z= .str "let"∧Js t=[])∨(¬(z= .str "let")∧(∃x,z= .str x)∧Pile H cs (Js t)∧0<cs.length∧cs.length≤2)):=by
 cases t with
 | lt k=>
  obtain⟨p,e,hp⟩:=h
  exact⟨p,_,_,e,hp,.inl ⟨rfl,rfl⟩⟩
 | nt t=>
  obtain⟨p,u,e,hp,ha⟩:=h
  exact⟨p,_,_,e,hp,.inr ⟨by decide,⟨_,rfl⟩,.cons ha .nil,Nat.succ_pos _,by show 1≤2;decide⟩⟩
 | bn j a b=>
  obtain⟨p,x,y,e,hp,ha,hb⟩:=h
  exact⟨p,_,_,e,hp,.inr ⟨Ic,⟨_,rfl⟩,.cons ha (.cons hb .nil),Nat.succ_pos _,Nat.le_refl _⟩⟩
theorem Q0 (z:V) (cs:List V):Ed (z::cs) (some 1) none=cs:=by
 unfold Ed
 have e1:HT.sIx (z::cs).length 0 (some 1)=1:=by
  have:=HT.sIx_nat (z::cs).length 0 1
  show HT.sIx (z::cs).length 0 (some ((1:Nat):Int))=1
  rw[this,List.length_cons]
  omega
 rw[e1,HT.sIx_none]
 show ((z::cs).drop 1).take (cs.length+1-1)=cs
 simp
theorem Nh {z:V} {cs:List V}:¬(HT.sIx (z::cs).length 0 (some 1)=0∧HT.sIx (z::cs).length (z::cs).length none=(z::cs).length):=by
 rintro⟨h,_⟩
 have:=HT.sIx_nat (z::cs).length 0 1
 rw[show (some (1:Int))=some ((1:Nat):Int) from rfl,this,List.length_cons] at h
 omega
theorem KL {c A B:Prop} [Decidable c] (hc:¬c) (h:A):if (!decide c)=true then A else B:=by
 rw[decide_eq_false hc]
 exact Bx h
def De (k:Nat) (w:Int):Bool:=decide (w / 2^k%2=1)
def jv:Nat→Bool→Bool→Bool
 | 0,a,b=>a && b
 | 1,a,b=>a || b
 | 2,a,b=>!a || b
 | _,a,b=>decide (a=b)
def tv:Tr→Int→Bool
 | .lt k,w=>De k w
 | .nt t,w=>!tv t w
 | .bn j a b,w=>jv j (tv a w) (tv b w)
def NK:List V:=[.int 1,.int 2,.int 4,.int 8,.int 16]
theorem Ni {k:Nat} (h:k<5):Fs NK ((k:Nat):Int)=some (.int (2^k)):=by
 refine Aq ?_
 match k,h with
 | 0,_=>rfl
 | 1,_=>rfl
 | 2,_=>rfl
 | 3,_=>rfl
 | 4,_=>rfl
theorem pow_pos (k:Nat):(0:Int)<2^k:=Int.pow_pos (by decide)
theorem NO {k:Nat} (h:k<5):(2:Int)^k<1073741824:=by
 match k,h with
 | 0,_=>decide
 | 1,_=>decide
 | 2,_=>decide
 | 3,_=>decide
 | 4,_=>decide
theorem JC (k:Nat) (w:Int):decide (V.int (w / 2^k%2)=V.int 1)=De k w:=by
 unfold De
 rw[Bool.eq_iff_iff,decide_eq_true_eq,decide_eq_true_eq]
 exact⟨fun h=>by injection h,fun h=>by rw[h]⟩
theorem KY (a b:Bool):decide (V.bl a=V.bl b)=decide (a=b):=by cases a<;>cases b<;>rfl
theorem RN {j:Nat} (h:V.str (jn j)=V.str "and"):j=0:=by
 match j with
 | 0=>rfl
 | 1=>exact absurd h (by decide)
 | 2=>exact absurd h (by decide)
 | _+3=>exact absurd (show V.str "same"=V.str "and" from h) (by decide)
theorem RR {j:Nat} (h:V.str (jn j)=V.str "or"):j=1:=by
 match j with
 | 0=>exact absurd h (by decide)
 | 1=>rfl
 | 2=>exact absurd h (by decide)
 | _+3=>exact absurd (show V.str "same"=V.str "or" from h) (by decide)
theorem RT {j:Nat} (h:V.str (jn j)=V.str "if"):j=2:=by
 match j with
 | 0=>exact absurd h (by decide)
 | 1=>exact absurd h (by decide)
 | 2=>rfl
 | _+3=>exact absurd (show V.str "same"=V.str "if" from h) (by decide)
theorem RU {j:Nat} (h0:¬V.str (jn j)=V.str "and") (h1:¬V.str (jn j)=V.str "or") (h2:¬V.str (jn j)=V.str "if") (a b:Bool):jv j a b=decide (a=b):=by
 match j with
 | 0=>exact absurd rfl h0
 | 1=>exact absurd rfl h1
 | 2=>exact absurd rfl h2
 | _+3=>rfl
structure ID (mg:Str→Option Value):Prop where
 isi:mg "isinstance"=none
 int:mg "int"=none
 bool:mg "bool"=none
 str:mg "str"=none
 tup:mg "tuple"=none
 lst:mg "list"=none
 set:mg "set"=none
 sorted:mg "sorted"=none
 rng:mg "range"=none
 any:mg "any"=none
 all:mg "all"=none
theorem BT:bootBuiltins "list"=some (.type "list"):=by decide +kernel
theorem M2:bootBuiltins "tuple"=some (.type "tuple"):=by decide +kernel
abbrev AW (H:Hp) (p:Addr) (row:List Int):Prop:=H p=some (.lst (row.map V.int))
abbrev RowsAt (H:Hp):List V→List (List Int)→Prop:=Paired fun (v:V) (row:List Int)=>∃p,v= .ref p∧AW H p row
theorem RowsAt.keep {H H':Hp} (s:Same H H'):∀{xs:List V} {rs:List (List Int)},RowsAt H xs rs→RowsAt H' xs rs
 | _,_,.nil=>.nil
 | _,_,.cons ⟨p,e,h⟩ q=>.cons ⟨p,e,s _ _ h⟩ (RowsAt.keep s q)
theorem RowsAt.get {H:Hp}:∀{xs:List V} {rs:List (List Int)} {i:Nat} {x:V},RowsAt H xs rs→xs[i]? = some x→∃row p,rs[i]? = some row∧x= .ref p∧AW H p row
 | _,_,_,_,.nil,e=>by simp at e
 | _,_,0,_,.cons ⟨p,e1,h⟩ _,e=>by
  simp at e
  subst e
  exact⟨_,p,rfl,e1,h⟩
 | _,_,i+1,x,.cons _ q,e=>by
  obtain⟨row,p,h1,h2⟩:=RowsAt.get (i:=i) q (by simpa using e)
  exact⟨row,p,by simpa using h1,h2⟩
theorem RowsAt.len {H:Hp} {xs:List V} {rs:List (List Int)} (h:RowsAt H xs rs):xs.length=rs.length:=Paired.length h
abbrev Cg:Stmt:=BD 44
def MR:List V:=[.int 2,.int 4,.int 8,.int 16,.int 32]
theorem Ot {m:Nat} (h1:1≤m) (h5:m≤5):Fs MR ((m:Int)-1)=some (.int ((2^m:Nat):Int)):=by
 match m,h1,h5 with
 | 1,_,_=>exact Aq (j:=0) rfl
 | 2,_,_=>exact Aq (j:=1) rfl
 | 3,_,_=>exact Aq (j:=2) rfl
 | 4,_,_=>exact Aq (j:=3) rfl
 | 5,_,_=>exact Aq (j:=4) rfl
theorem JO {m:Nat} (h:m≤5):2^m≤32:=Nat.pow_le_pow_right (n:=2) (by decide) h
theorem FS (n:Nat):(Cq n).length=n:=by unfold Cq;simp
theorem N5 (n:Nat):(Cq n).Pairwise (· < ·):=by
 unfold Cq
 rw[List.pairwise_map]
 exact List.pairwise_lt_range.imp fun h=>by omega
theorem mem_upto {n:Nat} {k:Int}:k∈Cq n↔0≤k∧k<n:=by
 unfold Cq
 rw[List.mem_map]
 constructor
 ·rintro⟨a,ha,rfl⟩
  have:=List.mem_range.mp ha
  omega
 ·rintro⟨h0,h1⟩
  exact⟨k.toNat,List.mem_range.mpr (by omega),by omega⟩
def Iw:Sp:=fun vs H Q _=>∃(m:Nat),vs=[.int (m:Int)]∧1≤m∧m≤5∧∀(l:Addr) (H':Hp),Same H H'→H l=none→AW H' l (Cq (2^m))→Q (.ref l) H'
section
theorem K3:Ap ["_law_many"] ["_law_many"] (Af Cg):=BC
theorem J3 (F:Fun K "_law_worlds" "_law_worlds" Cg f fd) (T:ID mg):FnOk P w K mg bz AO 1 f fd ["_law_many"] Iw:=by
 refine F.ok K3 (fun vs H Q E h=>?_) (fun cdv A outer s H vs Q E hr h=>?_)
 ·obtain⟨m,rfl,_⟩:=h
  rfl
 obtain⟨m,rfl,h1,h5,q⟩:=h
 refine⟨_,Ae (Aj (Bi (Kd rfl) (by rfl) T.lst BT (Aa (Bi Lp (by rfl) T.rng boot_range (Aa (AH AG (AF (Aa Ah (Aa Ah (Aa Ah (Aa Ah (Aa Ah Ab)))))) (AC Fl (pv 0) Ah) (fun _ _=>rfl)) Ab)) Ab))),?_⟩
 refine⟨Q8,fun l hl=>?_⟩
 have s1:=Ag hl (.lst MR)
 refine⟨_,rfl,_,_,rfl,rfl,l,MR,_,_,rfl,rfl,SqL.of Ac,Ot h1 h5,_,rfl,fun r hr2=>?_⟩
 have s2:=Ag hr2 (.rng 0 ((2^m:Nat):Int))
 refine⟨r,2^m,rfl,Ac,Nat.le_trans (JO h5) (by decide),fun l2 hl2=>?_⟩
 have s3:=Ag hl2 (.lst ((Cq (2^m)).map V.int))
 exact q l2 _ (s1.trans (s2.trans s3)) ((s1.trans s2).free hl2) Ac
end
abbrev DW:Stmt:=BD 47
def Do (n:Nat):Sp:=fun vs H Q _=>∃(v:V) (t:Tr) (w:Int),vs=[v,.int w]∧t.At H v∧t.ok 5∧t.size≤n∧∀(H':Hp),Same H H'→Q (.bl (tv t w)) H'
section
theorem scLtrue:Ap ["_law_sentence_here","_law_world","_law_left_here","_law_right"] ["_law_sentence_here","_law_world"] (Af DW):=BC
theorem Md {n:Nat} (F:Fun K "_law_true" "_law_true" DW f fd) (G:FnOk P w K mg bz AO n f fd ["_law_sentence_here","_law_world"] (Do n)) (C:AL K mg "_law_true" f fd ["_law_sentence_here","_law_world"]):FnOk P w K mg bz AO (n+1) f fd ["_law_sentence_here","_law_world"] (Do (n+1)):=by
 refine F.ok scLtrue (fun vs H Q E h=>?_) (fun cdv A outer s H vs Q E hr h=>?_)
 ·obtain⟨v,t,k,rfl,_⟩:=h
  rfl
 obtain⟨v,t,k,rfl,ha,hok,hs,q⟩:=h
 refine⟨_,Ad (AE (Am AS (AH A4 (pv 0) Ah (fun _ _=>rfl)) Ar (As _))
   (Ae (Aj (Br AS (AC AZ (AC Bb (pv 1) (AH AG (AF (Aa Ah (Aa Ah (Aa Ah (Aa Ah (Aa Ah Ab)))))) (AH A4 (pv 0) Ah (fun _ _=>rfl)) (fun _ _=>rfl))) Ah) Ah (As _))))
   An)
  (Ad (AE (Am AS (AH A4 (pv 0) Ah (fun _ _=>rfl)) Ar (As _))
   (Ae (Aj (Hx (Ai G hr (by rfl) C.m C.k C.b .nil Au (Aa (AH A4 (pv 0) Ah (fun _ _=>rfl)) (Aa (pv 1) Ab))))))
   An)
  (Ad (Ak (i:=2) scLtrue.nd rfl (Or.inl rfl) (Ai G hr (by rfl) C.m C.k C.b .nil Au (Aa (AH A4 (pv 0) Ah (fun _ _=>rfl)) (Aa (pv 1) Ab))))
  (Ad (Ak (i:=3) scLtrue.nd rfl (Or.inl rfl) (Ai G hr (by rfl) C.m C.k C.b .nil Au (Aa (AH A4 (pv 0) Ah (fun _ _=>rfl)) (Aa (pv 1) Ab))))
  (Ad (AE (Am AS (AH A4 (pv 0) Ah (fun _ _=>rfl)) Ar (As _))
   (Ae (Aj (Kb (pv 2) (Cm (pv 3)))))
   An)
  (Ad (AE (Am AS (AH A4 (pv 0) Ah (fun _ _=>rfl)) Ar (As _))
   (Ae (Aj (Gw (pv 2) (Cm (pv 3)))))
   An)
  (Ad (AE (Am AS (AH A4 (pv 0) Ah (fun _ _=>rfl)) Ar (As _))
   (Ae (Aj (Gw (Hx (pv 2)) (Cm (pv 3)))))
   An)
  (Ae (Aj (Br AS (pv 2) (pv 3) (As _)))))))))),?_⟩
 cases t with
 | lt j=>
  obtain⟨p,rfl,hp⟩:=ha
  refine⟨_,rfl,p,_,_,_,rfl,rfl,SqT.of hp,Aq (j:=0) rfl,rfl,_,rfl,?_⟩
  refine Bp rfl ?_
  refine⟨_,rfl,Q8,fun l hl=>?_⟩
  have s1:=Ag hl (.lst NK)
  refine⟨_,rfl,p,_,_,_,rfl,rfl,SqT.of (s1 _ _ hp),Aq (j:=1) rfl,l,NK,_,_,rfl,rfl,SqL.of Ac,Ni hok,_,_,rfl,rfl,⟨pow_pos j,NO hok⟩,_,_,rfl,rfl,(by show (0:Int)<2;decide),rfl,?_⟩
  have:=q _ s1
  rw[show tv (.lt j) k=De j k from rfl,←JC] at this
  exact this
 | nt t=>
  obtain⟨p,u,rfl,hp,hu⟩:=ha
  have hs':t.size+1≤n+1:=hs
  refine⟨_,rfl,p,_,_,_,rfl,rfl,SqT.of hp,Aq (j:=0) rfl,rfl,_,rfl,?_⟩
  refine Bk (by decide) ?_
  refine⟨_,rfl,p,_,_,_,rfl,rfl,SqT.of hp,Aq (j:=0) rfl,rfl,_,rfl,?_⟩
  refine Bp rfl ?_
  exact⟨_,rfl,p,_,_,_,rfl,rfl,SqT.of hp,Aq (j:=1) rfl,_,rfl,u,t,k,rfl,hu,hok,by omega,fun H' s'=>⟨_,rfl,q H' s'⟩⟩
 | bn j a b=>
  obtain⟨p,x,y,rfl,hp,hx,hy⟩:=ha
  have hs':a.size+b.size+1≤n+1:=hs
  obtain⟨hj,oa,ob⟩:=hok
  refine⟨_,rfl,p,_,_,_,rfl,rfl,SqT.of hp,Aq (j:=0) rfl,rfl,_,rfl,?_⟩
  refine Bk Ic ?_
  refine⟨_,rfl,p,_,_,_,rfl,rfl,SqT.of hp,Aq (j:=0) rfl,rfl,_,rfl,?_⟩
  refine Bk Ml ?_
  refine⟨_,rfl,p,_,_,_,rfl,rfl,SqT.of hp,Aq (j:=1) rfl,_,rfl,x,a,k,rfl,hx,oa,by omega,fun H1 s1=>?_⟩
  refine⟨_,rfl,p,_,_,_,rfl,rfl,SqT.of (s1 _ _ hp),Aq (j:=2) rfl,_,rfl,y,b,k,rfl,hy.keep (TS.same s1),ob,by omega,fun H2 s2=>?_⟩
  have hp2:=s2 _ _ (s1 _ _ hp)
  have q2:=q H2 (s1.trans s2)
  have etv:tv (.bn j a b) k=jv j (tv a k) (tv b k):=rfl
  rw[etv] at q2
  generalize tv a k=va at q2
  generalize tv b k=vb at q2
  refine⟨_,rfl,p,_,_,_,rfl,rfl,SqT.of hp2,Aq (j:=0) rfl,rfl,_,rfl,?_⟩
  by_cases h0:V.str (jn j)=V.str "and"
  ·refine Bp h0 ?_
   obtain rfl:=RN h0
   cases va with
   | false=>exact⟨_,rfl,_,rfl,A0 q2⟩
   | true=>exact⟨_,rfl,_,rfl,Bx ⟨_,rfl,q2⟩⟩
  refine Bk h0 ?_
  refine⟨_,rfl,p,_,_,_,rfl,rfl,SqT.of hp2,Aq (j:=0) rfl,rfl,_,rfl,?_⟩
  by_cases h1:V.str (jn j)=V.str "or"
  ·refine Bp h1 ?_
   obtain rfl:=RR h1
   cases va with
   | false=>exact⟨_,rfl,_,rfl,A0 ⟨_,rfl,q2⟩⟩
   | true=>exact⟨_,rfl,_,rfl,Bx q2⟩
  refine Bk h1 ?_
  refine⟨_,rfl,p,_,_,_,rfl,rfl,SqT.of hp2,Aq (j:=0) rfl,rfl,_,rfl,?_⟩
  by_cases h2:V.str (jn j)=V.str "if"
  ·refine Bp h2 ?_
   obtain rfl:=RT h2
   cases va with
   | false=>exact⟨_,rfl,_,rfl,_,rfl,Bx q2⟩
   | true=>exact⟨_,rfl,_,rfl,_,rfl,A0 ⟨_,rfl,q2⟩⟩
  refine Bk h2 ?_
  rw[RU h0 h1 h2] at q2
  refine⟨_,rfl,_,rfl,rfl,?_⟩
  rw[KY]
  exact q2
theorem P6:FnOk P w K mg bz AO 0 f fd ["_law_sentence_here","_law_world"] (Do 0):=by
 have no:∀vs H Q E,¬Do 0 vs H Q E:=fun vs H Q E h=>by
  obtain⟨v,t,k,_,_,_,h1,_⟩:=h
  have:=t.size_pos
  omega
 exact⟨fun vs H Q E h=>absurd h (no vs H Q E),fun A outer s H args us vs Q E _ _ _ _ h=>absurd h (no vs H Q E)⟩
theorem GQ (F:Fun K "_law_true" "_law_true" DW f fd) (C:AL K mg "_law_true" f fd ["_law_sentence_here","_law_world"]):∀n:Nat,FnOk P w K mg bz AO n f fd ["_law_sentence_here","_law_world"] (Do n)
 | 0=>P6
 | n+1=>Md F (GQ F C n) C
end
abbrev Gb:Stmt:=BD 48
def Ej (K:PySem.W.Frag) (b:Bool):Sp:=fun vs H Q _=>∃(v:V) (t:Tr) (r:Addr) (row:List Int),vs=[v,.ref r]∧t.At H v∧t.ok 5∧t.size≤23∧SqL K H r (row.map V.int)∧row.length≤900∧∀(l:Addr) (H':Hp),Same H H'→H l=none→AW H' l (row.filter fun k=>tv t k == b)→Q (.ref l) H'
section
theorem Pn:Ap ["_law_sentence_here","_law_row"] ["_law_sentence_here","_law_row"] (Af Gb):=BC
theorem OV {g:Addr} {gd:FuncData} (F:Fun K "_law_ins" "_law_ins" Gb f fd) (GT:FnOk P w K mg bz AO 23 g gd ["_law_sentence_here","_law_world"] (Do 23)) (CT:AL K mg "_law_true" g gd ["_law_sentence_here","_law_world"]):FnOk P w K mg bz AO 24 f fd ["_law_sentence_here","_law_row"] (Ej K true):=by
 refine F.ok Pn (fun vs H Q E h=>?_) (fun cdv A outer s H vs Q E hr h=>?_)
 ·obtain⟨v,t,r,row,rfl,_⟩:=h
  rfl
 obtain⟨v,t,r,row,rfl,ha,hok,hs,hS,hl,q⟩:=h
 refine⟨_,Ae (Aj (Bf (N:=["_law_world","_law_sentence_here"]) (js:=[none,some 0]) (cl:=[("_law_sentence_here",s.heap.objs.size+1)]) ⟨rfl,rfl,rfl,(by intro p hp;simp at hp;rcases hp with rfl<;>rfl),rfl,rfl,rfl⟩ (AK (pv 1)) (fun c1=>(Ax (i:=0) (show (["_law_world","_law_sentence_here"]:List Str).Nodup by decide +kernel) rfl (Or.inl rfl))) (fun c1=>(Dt (A1 (Ai GT hr (by rfl) CT.m CT.k CT.b .nil Au (Aa (pv 1) (Aa (pv 0) Ab)))))) (fun c1=>(pv 0)))),?_⟩
 refine⟨_,rfl,r,rfl,⟨_,hS⟩,fun cc acc hacc=>BE (p:=fun k=>tv t k == true) (rest:=[some v]) hS hacc hl (fun k hk H2 s2 R hR=>?_) (fun v0 H2 s2 h2=>q acc H2 s2 hacc h2) none⟩
 refine⟨_,rfl,_,rfl,v,t,k,rfl,ha.keep (TS.same s2),hok,hs,fun H3 s3=>⟨_,rfl,?_⟩⟩
 have:=hR H3 s3
 rw[show (tv t k == true)=tv t k by cases tv t k<;>rfl] at this
 exact this
end
abbrev EK:Stmt:=BD 51
section
theorem OG:Ap ["_law_sentence_here","_law_row"] ["_law_sentence_here","_law_row"] (Af EK):=BC
theorem Nf {g:Addr} {gd:FuncData} (F:Fun K "_law_outs" "_law_outs" EK f fd) (GT:FnOk P w K mg bz AO 23 g gd ["_law_sentence_here","_law_world"] (Do 23)) (CT:AL K mg "_law_true" g gd ["_law_sentence_here","_law_world"]):FnOk P w K mg bz AO 24 f fd ["_law_sentence_here","_law_row"] (Ej K false):=by
 refine F.ok OG (fun vs H Q E h=>?_) (fun cdv A outer s H vs Q E hr h=>?_)
 ·obtain⟨v,t,r,row,rfl,_⟩:=h
  rfl
 obtain⟨v,t,r,row,rfl,ha,hok,hs,hS,hl,q⟩:=h
 refine⟨_,Ae (Aj (Bf (N:=["_law_world","_law_sentence_here"]) (js:=[none,some 0]) (cl:=[("_law_sentence_here",s.heap.objs.size+1)]) ⟨rfl,rfl,rfl,(by intro p hp;simp at hp;rcases hp with rfl<;>rfl),rfl,rfl,rfl⟩ (AK (pv 1)) (fun c1=>(Ax (i:=0) (show (["_law_world","_law_sentence_here"]:List Str).Nodup by decide +kernel) rfl (Or.inl rfl))) (fun c1=>(Dt (BJ (A1 (Ai GT hr (by rfl) CT.m CT.k CT.b .nil Au (Aa (pv 1) (Aa (pv 0) Ab))))))) (fun c1=>(pv 0)))),?_⟩
 refine⟨_,rfl,r,rfl,⟨_,hS⟩,fun cc acc hacc=>BE (p:=fun k=>tv t k == false) (rest:=[some v]) hS hacc hl (fun k hk H2 s2 R hR=>?_) (fun v0 H2 s2 h2=>q acc H2 s2 hacc h2) none⟩
 refine⟨_,rfl,_,rfl,v,t,k,rfl,ha.keep (TS.same s2),hok,hs,fun H3 s3=>⟨_,rfl,?_⟩⟩
 have:=hR H3 s3
 rw[show (tv t k == false) = !tv t k by cases tv t k<;>rfl] at this
 exact this
end
abbrev ED:Stmt:=BD 42
def Mm (K:PySem.W.Frag):Sp:=fun vs H Q _=>∃(n:Int) (r:Addr) (row:List Int),vs=[.int n,.ref r]∧SqL K H r (row.map V.int)∧row.length≤900∧∀(l:Addr) (row':List Int) (H':Hp),Same H H'→H l=none→AW H' l row'→row'.Sublist row→Q (.ref l) H'
section
theorem scLsome:Ap ["_law_n","_law_row","_law_found","_law_one"] ["_law_n","_law_row"] (Af ED):=BC
theorem NJ (F:Fun K "_law_some" "_law_some" ED f fd):FnOk P w K mg bz AO 1 f fd ["_law_n","_law_row"] (Mm K):=by
 refine F.ok scLsome (fun vs H Q E h=>?_) (fun cdv A outer s H vs Q E hr h=>?_)
 ·obtain⟨n,r,row,rfl,_⟩:=h
  rfl
 obtain⟨n,r,row,rfl,hS,hl,q⟩:=h
 refine⟨_,Ad (Ak (i:=2) scLsome.nd rfl (Or.inl rfl) (AF Ab))
  (Ad (Ba PassesOwn.never rfl (AK (pv 1)) (Ax (i:=3) scLsome.nd rfl (Or.inl rfl))
   (Ad (AE (Am AS (AC AZ (pv 0) Ah) Ah (As _))
    (Ae (AU (Bz PySem.F.plainAttrs_list PySem.F.slot_list_append PySem.F.type_list_append AN (pv 2) (Aa (pv 3) Ab))))
    An)
   (Ae (Ak (i:=0) scLsome.nd rfl (Or.inl rfl) (AC Bb (pv 0) Ah)))))
  (Ae (Aj (pv 2)))),?_⟩
 refine⟨Fi,fun l hlf=>?_⟩
 have s1:=Ag hlf (.lst [])
 refine⟨_,rfl,r,rfl,⟨_,s1.seq hS⟩,AQ (K:=K) (a:=r) (xs:=row.map V.int) (fun i σ H2=>∃(m:Int) (ov:Option V) (row':List Int),σ=[some (.int m),some (.ref r),some (.ref l),ov]∧Same H H2∧AW H2 l row'∧row'.Sublist (row.take i)) ⟨_,_,[],rfl,s1,Ac,List.Sublist.refl _⟩ ?_ ?_ ?_⟩
 ·rintro i σ H2 _ ⟨m,ov,row',rfl,s2,_,_⟩
  exact s2.seq hS
 ·rintro i x σ H2 hx ⟨m,ov,row',rfl,s2,hl2,hsub⟩
  rw[List.getElem?_map] at hx
  obtain⟨k,hk,rfl⟩:=Option.map_eq_some_iff.mp hx
  have et:row.take (i+1)=row.take i++[k]:=by rw[List.take_add_one,hk];rfl
  refine⟨_,rfl,_,_,rfl,rfl,(by show (0:Int)<2;decide),rfl,_,rfl,?_⟩
  refine B2 (fun _=>?_) (fun _=>?_)
  ·refine⟨_,rfl,.inl ⟨rfl,_,SqL.of hl2⟩,_,rfl,l,_,_,rfl,rfl,hl2,AJ ?_,?_⟩
   ·rw[List.length_map]
    have:=hsub.length_le
    rw[List.length_take] at this
    omega
   refine⟨_,rfl,_,_,rfl,rfl,⟨by decide,by decide⟩,?_⟩
   refine⟨_,_,row'++[k],rfl,AD s2 hlf _,?_,?_⟩
   ·show _=some (HO.lst ((row'++[k]).map V.int))
    rw[Ac,List.map_append]
    rfl
   ·rw[et]
    exact hsub.append (List.Sublist.refl _)
  ·refine⟨_,rfl,_,_,rfl,rfl,⟨by decide,by decide⟩,?_⟩
   refine⟨_,_,row',rfl,s2,hl2,?_⟩
   rw[et]
   exact hsub.trans (List.sublist_append_left _ _)
 ·rintro σ H2 ⟨m,ov,row',rfl,s2,hl2,hsub⟩
  rw[List.length_map,List.take_length] at hsub
  exact⟨_,rfl,q l row' H2 s2 hlf hl2 hsub⟩
end
abbrev BQ:Stmt:=BD 43
def Gp (K:PySem.W.Frag):Sp:=fun vs H Q _=>∃(n:Int) (r:Addr) (row:List Int),vs=[.int n,.ref r]∧SqL K H r (row.map V.int)∧row.length≤900∧row≠[]∧∀(l:Addr) (row':List Int) (H':Hp),Same H H'→H l=none→AW H' l row'→row'.Sublist row→row'≠[]→Q (.ref l) H'
theorem Pa {row:List Int} {n:Int} (h:row≠[]):∃k,Fs (row.map V.int) (n%((row.map V.int).length:Int))=some (.int k)∧k∈row:=by
 have hp:0<row.length:=List.length_pos_iff.mpr h
 rw[List.length_map]
 have h1:=Int.emod_nonneg n (show (row.length:Int)≠0 by omega)
 have h2:=Int.emod_lt_of_pos n (show (0:Int)<row.length by omega)
 obtain⟨i,ei⟩:=Int.eq_ofNat_of_zero_le h1
 have hi:i<row.length:=by omega
 rw[ei]
 refine⟨row[i],Aq ?_,List.getElem_mem hi⟩
 rw[List.getElem?_map,List.getElem?_eq_getElem hi]
 rfl
section
theorem scLsomeone:Ap ["_law_n","_law_row","_law_found"] ["_law_n","_law_row"] (Af BQ):=BC
theorem Jj {g:Addr} {gd:FuncData} (F:Fun K "_law_some_one" "_law_some_one" BQ f fd) (B:Bl mg) (G:FnOk P w K mg bz AO 1 g gd ["_law_n","_law_row"] (Mm K)) (C:AL K mg "_law_some" g gd ["_law_n","_law_row"]):FnOk P w K mg bz AO 2 f fd ["_law_n","_law_row"] (Gp K):=by
 refine F.ok scLsomeone (fun vs H Q E h=>?_) (fun cdv A outer s H vs Q E hr h=>?_)
 ·obtain⟨n,r,row,rfl,_⟩:=h
  rfl
 obtain⟨n,r,row,rfl,hS,hl,hne,q⟩:=h
 refine⟨_,Ad (Ak (i:=2) scLsomeone.nd rfl (Or.inl rfl) (Ai G hr (by rfl) C.m C.k C.b .nil Au (Aa (pv 0) (Aa (pv 1) Ab))))
  (Ad (AE (Am (ER hr.units0) (pv 2) (AF Ab) (As _))
   (Ae (Aj (AF (Aa (AH AG (pv 1) (AC AZ (AC Bb (pv 0) Ah) (Av Aw (by rfl) B.len PySem.boot_len (Aa (pv 1) Ab))) (fun _ _=>rfl)) Ab))))
   An)
  (Ae (Aj (pv 2)))),?_⟩
 refine⟨_,rfl,_,rfl,n,r,row,rfl,hS,hl,fun l row' H1 s1 hl1 hr1 hsub=>?_⟩
 refine⟨_,rfl,Fi,fun e he=>?_⟩
 have s2:=Ag he (.lst [])
 refine⟨l,e,_,rfl,rfl,SqL.of (s2 _ _ hr1),SqL.of Ac,_,rfl,?_⟩
 have hp:0<row.length:=List.length_pos_iff.mpr hne
 cases hrow:row' with
 | nil=>
  refine QR rfl ?_
  have hS2:=(s1.trans s2).seq hS
  obtain⟨k,hk,hm⟩:=Pa (n:=n / 64) hne
  refine⟨_,rfl,_,rfl,_,_,rfl,rfl,⟨by decide,by decide⟩,_,rfl,r,_,rfl,.inl hS2,_,_,rfl,rfl,(by show (0:Int)<(((row.map V.int).length:Nat):Int);rw[List.length_map];omega),r,_,_,_,rfl,rfl,hS2,hk,LE,fun d hd=>?_⟩
  have s3:=Ag hd (.lst [.int k])
  exact q d [k] _ (s1.trans (s2.trans s3)) ((s1.trans s2).free hd) Ac (List.singleton_sublist.mpr hm) (by simp)
 | cons k rest=>
  refine QI rfl ?_
  exact⟨_,rfl,q l row' _ (s1.trans s2) hl1 (s2 _ _ hr1) hsub (by rw[hrow];simp)⟩
end
abbrev EV:Stmt:=BD 45
def L8:Sp:=fun vs H Q _=>∃(n:Int) (m:Nat),vs=[.int n,.int (m:Int)]∧1≤m∧m≤5∧∀(l:Addr) (row:List Int) (H':Hp),Same H H'→H l=none→AW H' l row→row.Sublist (Cq (2^m))→row≠[]→Q (.ref l) H'
section
theorem OS:Ap ["_law_n","_law_many"] ["_law_n","_law_many"] (Af EV):=BC
theorem KK {m:Nat}:Cq (2^m)≠[]:=fun h=>by
 have:=FS (2^m)
 rw[h] at this
 have h2:0<2^m:=Nat.pow_pos (by decide)
 have h3:([]:List Int).length=0:=rfl
 omega
theorem Mz {g e:Addr} {gd ed:FuncData} (F:Fun K "_law_room" "_law_room" EV f fd) (GW:FnOk P w K mg bz AO 1 g gd ["_law_many"] Iw) (CW:AL K mg "_law_worlds" g gd ["_law_many"]) (GO:FnOk P w K mg bz AO 2 e ed ["_law_n","_law_row"] (Gp K)) (CO:AL K mg "_law_some_one" e ed ["_law_n","_law_row"]):FnOk P w K mg bz AO 3 f fd ["_law_n","_law_many"] L8:=by
 refine F.ok OS (fun vs H Q E h=>?_) (fun cdv A outer s H vs Q E hr h=>?_)
 ·obtain⟨n,m,rfl,_⟩:=h
  rfl
 obtain⟨n,m,rfl,h1,h5,q⟩:=h
 have hr1:Room 1 _:=hr.mono (by decide)
 refine⟨_,Ad (AE (Am AS (AC AZ (pv 0) Ah) Ah (As _))
   (Ae (Aj (Ai GW hr1 (by rfl) CW.m CW.k CW.b .nil Au (Aa (pv 1) Ab))))
   An)
  (Ae (Aj (Ai GO hr (by rfl) CO.m CO.k CO.b .nil Au (Aa (AC Bb (pv 0) Ah) (Aa (Ai GW hr1 (by rfl) CW.m CW.k CW.b .nil Au (Aa (pv 1) Ab)) Ab))))),?_⟩
 have h32:=JO h5
 refine⟨_,rfl,_,_,rfl,rfl,(by show (0:Int)<3;decide),rfl,_,rfl,?_⟩
 refine B2 (fun _=>?_) (fun _=>?_)
 ·exact⟨_,rfl,m,rfl,h1,h5,fun l H' s' hl hr'=>q l _ H' s' hl hr' (List.Sublist.refl _) KK⟩
 ·refine⟨_,rfl,_,_,rfl,rfl,⟨by decide,by decide⟩,_,rfl,m,rfl,h1,h5,fun l H1 s1 hl hr1=>?_⟩
  exact⟨_,l,_,rfl,SqL.of hr1,by rw[FS];omega,KK,fun l2 row' H2 s2 hl2 hr2 hsub hne=>q l2 row' H2 (s1.trans s2) (s1.free hl2) hr2 hsub hne⟩
end
def AT (b:Bool) (t:Tr) (row:List Int):List Int:=row.filter fun k=>tv t k == b
theorem IM (t:Tr) (row:List Int):(AT true t row).length+(AT false t row).length=row.length:=by
 unfold AT
 induction row with
 | nil=>rfl
 | cons k r ih=>
  cases h:tv t k with
  | true=>simp[h] at ih ⊢;omega
  | false=>simp[h] at ih ⊢;omega
def Fw (z:Str) (t:Tr) (row:List Int):Prop:=(z="true"∧AT true t row≠[])∨(z="false"∧AT false t row≠[])∨(z="doubt"∧AT true t row≠[]∧AT false t row≠[])
def AI (z:Str) (t:Tr) (row:List Int):List (List Int):=if z="true" then[AT true t row] else if z="false" then[AT false t row] else[AT true t row,AT false t row]
def Bg (row:List Int) (sides:List (List Int)):List Int:=row.filter fun k=>sides.any fun s=>decide (k∈s)
def A6 (sides:List (List Int)) (row:List Int):Bool:=sides.all fun s=>s.any fun k=>decide (k∈row)
abbrev EH:Stmt:=BD 49
def Nl (K:PySem.W.Frag):Sp:=fun vs H Q _=>∃(n:Int) (r:Addr) (row:List Int) (v:V) (t:Tr),vs=[.int n,.ref r,v]∧t.At H v∧t.ok 5∧t.size≤23∧SqL K H r (row.map V.int)∧row.length≤900∧row≠[]∧∀(z:Str) (H':Hp),Same H H'→Fw z t row→Q (.str z) H'
def K1:List V:=[.str "true",.str "false",.str "doubt"]
section
theorem scLkind:Ap ["_law_n","_law_room_here","_law_sentence_here","_law_ins_here"] ["_law_n","_law_room_here","_law_sentence_here"] (Af EH):=BC
theorem MN {g:Addr} {gd:FuncData} (F:Fun K "_law_kind" "_law_kind" EH f fd) (B:Bl mg) (GI:FnOk P w K mg bz AO 24 g gd ["_law_sentence_here","_law_row"] (Ej K true)) (CI:AL K mg "_law_ins" g gd ["_law_sentence_here","_law_row"]):FnOk P w K mg bz AO 25 f fd ["_law_n","_law_room_here","_law_sentence_here"] (Nl K):=by
 refine F.ok scLkind (fun vs H Q E h=>?_) (fun cdv A outer s H vs Q E hr h=>?_)
 ·obtain⟨n,r,row,v,t,rfl,_⟩:=h
  rfl
 obtain⟨n,r,row,v,t,rfl,ha,hok,hs,hS,hl,hne,q⟩:=h
 refine⟨_,Ad (Ak (i:=3) scLkind.nd rfl (Or.inl rfl) (Ai GI hr (by rfl) CI.m CI.k CI.b .nil Au (Aa (pv 2) (Aa (pv 1) Ab))))
  (Ad (AE (Am (ER hr.units0) (pv 3) (AF Ab) (As _))
   (Ae (Aj Ar))
   An)
  (Ad (AE (Am AS (Av Aw (by rfl) B.len PySem.boot_len (Aa (pv 3) Ab)) (Av Aw (by rfl) B.len PySem.boot_len (Aa (pv 1) Ab)) (As _))
   (Ae (Aj Ar))
   An)
  (Ae (Aj (AH AG (AF (Aa Ar (Aa Ar (Aa Ar Ab)))) (AC AZ (pv 0) Ah) (fun _ _=>rfl)))))),?_⟩
 have hio:=IM t row
 have hp:0<row.length:=List.length_pos_iff.mpr hne
 refine⟨_,rfl,_,rfl,v,t,r,row,rfl,ha,hok,hs,hS,hl,fun l H1 s1 hl1 hr1=>?_⟩
 refine⟨_,rfl,Fi,fun e he=>?_⟩
 have s2:=Ag he (.lst [])
 refine⟨l,e,_,rfl,rfl,SqL.of (s2 _ _ hr1),SqL.of Ac,_,rfl,?_⟩
 change AW H1 l (AT true t row) at hr1
 by_cases h0:AT true t row=[]
 ·refine QR (by show ((AT true t row).map V.int).isEmpty=true;rw[h0];rfl) ?_
  refine q _ _ (s1.trans s2) (.inr (.inl ⟨rfl,fun z=>?_⟩))
  rw[h0,z] at hio
  have:([]:List Int).length=0:=rfl
  omega
 refine QI (by show ((AT true t row).map V.int).isEmpty=false;cases hq:AT true t row with | nil=>exact absurd hq h0 | cons _ _=>rfl) ?_
 refine⟨_,rfl,l,_,rfl,.inl (SqL.of (s2 _ _ hr1)),_,rfl,r,_,rfl,.inl ((s1.trans s2).seq hS),rfl,_,rfl,?_⟩
 by_cases h1:AT false t row=[]
 ·have e1:((AT true t row).map V.int).length=(row.map V.int).length:=by
   rw[List.length_map,List.length_map]
   rw[h1] at hio
   have:([]:List Int).length=0:=rfl
   omega
  refine Bp (by rw[e1]) ?_
  exact q _ _ (s1.trans s2) (.inl ⟨rfl,h0⟩)
 ·have e1:¬(V.int (((AT true t row).map V.int).length:Int)=V.int ((row.map V.int).length:Int)):=by
   rw[List.length_map,List.length_map]
   intro z
   injection z with z
   have:=List.length_pos_iff.mpr h1
   omega
  refine Bk e1 ?_
  refine⟨N6,fun c hc=>?_⟩
  have s3:=Ag hc (.lst K1)
  have h2:=Int.emod_nonneg n (show (3:Int)≠0 by decide)
  have h3:=Int.emod_lt_of_pos n (show (0:Int)<3 by decide)
  obtain⟨j,ej⟩:=Int.eq_ofNat_of_zero_le h2
  have hj:j<3:=by omega
  refine⟨_,rfl,_,_,rfl,rfl,(by show (0:Int)<3;decide),?_⟩
  have fin:∀z:Str,K1[j]? = some (.str z)→Fw z t row→PV K (.ref c) (.int (n%3)) (AA (AA H1 e (.lst [])) c (.lst K1)) Q:=fun z hz hk=>by
   rw[ej]
   exact⟨c,K1,_,_,rfl,rfl,SqL.of Ac,Aq hz,q z _ (s1.trans (s2.trans s3)) hk⟩
  match j,hj,fin with
  | 0,_,fin=>exact fin "true" rfl (.inl ⟨rfl,h0⟩)
  | 1,_,fin=>exact fin "false" rfl (.inr (.inl ⟨rfl,h1⟩))
  | 2,_,fin=>exact fin "doubt" rfl (.inr (.inr ⟨rfl,h0,h1⟩))
end
abbrev DC:Stmt:=BD 52
def KJ (K:PySem.W.Frag):Sp:=fun vs H Q _=>∃(r:Addr) (row:List Int) (z:Str) (v:V) (t:Tr),vs=[.ref r,.str z,v]∧t.At H v∧t.ok 5∧t.size≤23∧SqL K H r (row.map V.int)∧row.length≤900∧∀(l:Addr) (xs:List V) (H':Hp),Same H H'→H l=none→H' l=some (.lst xs)→RowsAt H' xs (AI z t row)→Q (.ref l) H'
section
theorem NL:Ap ["_law_room_here","_law_kind_here","_law_sentence_here"] ["_law_room_here","_law_kind_here","_law_sentence_here"] (Af DC):=BC
theorem LH {g e:Addr} {gd ed:FuncData} (F:Fun K "_law_sides" "_law_sides" DC f fd) (GI:FnOk P w K mg bz AO 24 g gd ["_law_sentence_here","_law_row"] (Ej K true)) (CI:AL K mg "_law_ins" g gd ["_law_sentence_here","_law_row"]) (GO:FnOk P w K mg bz AO 24 e ed ["_law_sentence_here","_law_row"] (Ej K false)) (CO:AL K mg "_law_outs" e ed ["_law_sentence_here","_law_row"]):FnOk P w K mg bz AO 25 f fd ["_law_room_here","_law_kind_here","_law_sentence_here"] (KJ K):=by
 refine F.ok NL (fun vs H Q E h=>?_) (fun cdv A outer s H vs Q E hr h=>?_)
 ·obtain⟨r,row,z,v,t,rfl,_⟩:=h
  rfl
 obtain⟨r,row,z,v,t,rfl,ha,hok,hs,hS,hl,q⟩:=h
 refine⟨_,Ad (AE (Am AS (pv 1) Ar (As _))
   (Ae (Aj (AF (Aa (Ai GI hr (by rfl) CI.m CI.k CI.b .nil Au (Aa (pv 2) (Aa (pv 0) Ab))) Ab))))
   An)
  (Ad (AE (Am AS (pv 1) Ar (As _))
   (Ae (Aj (AF (Aa (Ai GO hr (by rfl) CO.m CO.k CO.b .nil Au (Aa (pv 2) (Aa (pv 0) Ab))) Ab))))
   An)
  (Ae (Aj (AF (Aa (Ai GI hr (by rfl) CI.m CI.k CI.b .nil Au (Aa (pv 2) (Aa (pv 0) Ab))) (Aa (Ai GO hr (by rfl) CO.m CO.k CO.b .nil Au (Aa (pv 2) (Aa (pv 0) Ab))) Ab)))))),?_⟩
 refine⟨_,rfl,rfl,_,rfl,?_⟩
 by_cases h0:z="true"
 ·refine Bp (by rw[h0]) ?_
  refine⟨_,rfl,_,rfl,v,t,r,row,rfl,ha,hok,hs,hS,hl,fun l H1 s1 hl1 hr1=>⟨LE,fun c hc=>?_⟩⟩
  have s2:=Ag hc (.lst [.ref l])
  refine q c _ _ (s1.trans s2) (s1.free hc) Ac ?_
  unfold AI
  rw[if_pos h0]
  exact .cons ⟨l,rfl,s2 _ _ hr1⟩ .nil
 refine Bk (fun e=>h0 (by injection e)) ?_
 refine⟨_,rfl,rfl,_,rfl,?_⟩
 by_cases h1:z="false"
 ·refine Bp (by rw[h1]) ?_
  refine⟨_,rfl,_,rfl,v,t,r,row,rfl,ha,hok,hs,hS,hl,fun l H1 s1 hl1 hr1=>⟨LE,fun c hc=>?_⟩⟩
  have s2:=Ag hc (.lst [.ref l])
  refine q c _ _ (s1.trans s2) (s1.free hc) Ac ?_
  unfold AI
  rw[if_neg h0,if_pos h1]
  exact .cons ⟨l,rfl,s2 _ _ hr1⟩ .nil
 refine Bk (fun e=>h1 (by injection e)) ?_
 refine⟨_,rfl,_,rfl,v,t,r,row,rfl,ha,hok,hs,hS,hl,fun l H1 s1 hl1 hr1=>?_⟩
 refine⟨_,rfl,_,rfl,v,t,r,row,rfl,ha.keep (TS.same s1),hok,hs,s1.seq hS,hl,fun l2 H2 s2 hl2 hr2=>⟨Jd,fun c hc=>?_⟩⟩
 have s3:=Ag hc (.lst [.ref l,.ref l2])
 refine q c _ _ (s1.trans (s2.trans s3)) ((s1.trans s2).free hc) Ac ?_
 unfold AI
 rw[if_neg h0,if_neg h1]
 exact .cons ⟨l,rfl,s3 _ _ (s2 _ _ hr1)⟩ (.cons ⟨l2,rfl,s3 _ _ hr2⟩ .nil)
end
abbrev Ez:Stmt:=BD 53
def NH (K:PySem.W.Frag):Sp:=fun vs H Q _=>∃(r sd:Addr) (row:List Int) (xs:List V) (sides:List (List Int)),vs=[.ref r,.ref sd]∧SqL K H r (row.map V.int)∧row.length≤900∧SqL K H sd xs∧RowsAt H xs sides∧sides.length≤900∧∀(l:Addr) (H':Hp),Same H H'→H l=none→AW H' l (Bg row sides)→Q (.ref l) H'
section
theorem OR:Ap ["_law_room_here","_law_sides_here"] ["_law_room_here","_law_sides_here"] (Af Ez):=BC
theorem Mp (F:Fun K "_law_base" "_law_base" Ez f fd) (T:ID mg):FnOk P w K mg bz AO 1 f fd ["_law_room_here","_law_sides_here"] (NH K):=by
 refine F.ok OR (fun vs H Q E h=>?_) (fun cdv A outer s H vs Q E hr h=>?_)
 ·obtain⟨r,sd,row,xs,sides,rfl,_⟩:=h
  rfl
 obtain⟨r,sd,row,xs,sides,rfl,hS,hl,hX,hR,hsl,q⟩:=h
 have hlen:=hR.len
 refine⟨_,Ae (Aj (Lu (N:=["_law_world","_law_sides_here"]) (js:=[none,some 1]) (cl:=[("_law_sides_here",s.heap.objs.size+1)]) ⟨rfl,rfl,rfl,(by intro p hp;simp at hp;rcases hp with rfl<;>rfl),rfl,rfl,rfl⟩ (AK (pv 0)) (fun c1=>(Ax (i:=0) (show (["_law_world","_law_sides_here"]:List Str).Nodup by decide +kernel) rfl (Or.inr rfl))) (fun c1=>(Dt (A1 (Av (Ev rfl) (by rfl) T.any boot_any (Aa (Bf (N:=["_law_side","_law_world"]) (js:=[none,some 0]) (cl:=[("_law_world",c1.s.heap.objs.size+1+0)]) ⟨rfl,rfl,rfl,(by intro p hp;simp at hp;rcases hp with rfl<;>rfl),rfl,rfl,rfl⟩ (AK (pv 1)) (fun c2=>(Ax (i:=0) (show (["_law_side","_law_world"]:List Str).Nodup by decide +kernel) rfl (Or.inl rfl))) (fun c2=>Bm) (fun c2=>(Br Gr (pv 1) (pv 0) (by with_unfolding_all rfl)))) Ab))))) (fun c1=>(pv 0)))),?_⟩
 refine⟨_,rfl,r,rfl,⟨_,hS⟩,fun c1 acc hacc=>BE (p:=fun k=>sides.any fun s=>decide (k∈s)) (rest:=[some (.ref sd)]) hS hacc hl (fun k hk H2 s2 R hR2=>?_) (fun v0 H2 s2 h2=>q acc H2 s2 hacc h2) none⟩
 refine⟨_,rfl,sd,rfl,⟨_,s2.seq hX⟩,fun c2 ac2 hac2=>IO (bs:=sides.map fun s=>decide (k∈s)) (rest:=[some (.int k)]) (s2.seq hX) hac2 (by omega) (by rw[List.length_map];omega) (fun i x b hx hb H3 s3 R3 hR3=>?_) (fun v0 H3 s3 h3=>?_) none⟩
 ·obtain⟨row2,p,hr2,rfl,hp⟩:=hR.get hx
  rw[List.getElem?_map,hr2] at hb
  have eb:decide (k∈row2)=b:=Option.some.inj hb
  refine⟨_,rfl,_,rfl,My (SqL.of ((s2.trans s3) _ _ hp)) ?_⟩
  rw[eb]
  exact hR3 H3 (Same.refl _)
 ·refine⟨ac2,_,rfl,SqL.of h3,_,rfl,?_⟩
  have e:(sides.map fun s=>decide (k∈s)).any id=sides.any fun s=>decide (k∈s):=by rw[List.any_map];rfl
  rw[e]
  exact hR2 H3 s3
end
abbrev Gn:Stmt:=BD 62
def MM:Sp:=fun vs H Q _=>∃(z:Str),vs=[.str z,.str z]∧Q (.bl true) H
section
theorem P1:Ap ["_law_found","_law_due_here"] ["_law_found","_law_due_here"] (Af Gn):=BC
theorem ME (F:Fun K "_law_says" "_law_says" Gn f fd) (T:ID mg):FnOk P w K mg bz AO 1 f fd ["_law_found","_law_due_here"] MM:=by
 refine F.ok P1 (fun vs H Q E h=>?_) (fun cdv A outer s H vs Q E hr h=>?_)
 ·obtain⟨z,rfl,_⟩:=h
  rfl
 obtain⟨z,rfl,q⟩:=h
 refine⟨_,Ae (Aj (Kb (Av BG (by rfl) T.isi boot_isinstance (Aa (pv 0) (Aa (Eg (v:=.ty "str") (by rfl) T.str boot_str rfl) Ab))) (Cm (Br AS (pv 0) (pv 1) (As _))))),?_⟩
 refine⟨_,rfl,_,_,_,_,rfl,.str _,Di _ _,_,rfl,?_⟩
 refine Bx ?_
 refine⟨_,rfl,_,rfl,rfl,?_⟩
 rw[decide_eq_true rfl]
 exact q
end
abbrev Ce:Stmt:=BD 55
def Jh (K:PySem.W.Frag):Sp:=fun vs H Q _=>∃(sd r:Addr) (row:List Int) (xs:List V) (sides:List (List Int)),vs=[.ref sd,.ref r]∧SqL K H r (row.map V.int)∧row.length≤900∧SqL K H sd xs∧RowsAt H xs sides∧(∀s∈sides,s.length≤900)∧∀(H':Hp),Same H H'→Q (.bl (A6 sides row)) H'
section
theorem scLstands:Ap ["_law_sides_here","_law_row","_law_side"] ["_law_sides_here","_law_row"] (Af Ce):=BC
theorem JS (F:Fun K "_law_stands" "_law_stands" Ce f fd) (T:ID mg):FnOk P w K mg bz AO 1 f fd ["_law_sides_here","_law_row"] (Jh K):=by
 refine F.ok scLstands (fun vs H Q E h=>?_) (fun cdv A outer s H vs Q E hr h=>?_)
 ·obtain⟨sd,r,row,xs,sides,rfl,_⟩:=h
  rfl
 obtain⟨sd,r,row,xs,sides,rfl,hS,hl,hX,hR,hsl,q⟩:=h
 refine⟨_,Ad (Ba PassesOwn.never rfl (AK (pv 0)) (Ax (i:=2) scLstands.nd rfl (Or.inl rfl))
   (Ae (AE (BJ (A1 (Av (Ev rfl) (by rfl) T.any boot_any (Aa (Bf (N:=["_law_world","_law_row"]) (js:=[none,some 1]) (cl:=[("_law_row",s.heap.objs.size+1)]) ⟨rfl,rfl,rfl,(by intro p hp;simp at hp;rcases hp with rfl<;>rfl),rfl,rfl,rfl⟩ (AK (pv 2)) (fun c1=>(Ax (i:=0) (show (["_law_world","_law_row"]:List Str).Nodup by decide +kernel) rfl (Or.inl rfl))) (fun c1=>Bm) (fun c1=>(Br Gr (pv 0) (pv 1) (by with_unfolding_all rfl)))) Ab))))
    (Ae (Aj Bq))
    An)))
  (Ae (Aj Bq)),?_⟩
 refine⟨_,rfl,sd,rfl,⟨_,hX⟩,AQ (K:=K) (a:=sd) (xs:=xs) (fun i σ H2=>∃sv,σ=[some (.ref sd),some (.ref r),sv]∧Same H H2∧(sides.take i).all (fun s=>s.any fun k=>decide (k∈row))=true) ⟨_,rfl,Same.refl _,rfl⟩ ?_ ?_ ?_⟩
 ·rintro i σ H2 _ ⟨sv,rfl,s2,_⟩
  exact s2.seq hX
 ·rintro i x σ H2 hx ⟨sv,rfl,s2,hall⟩
  obtain⟨side,p,hr2,rfl,hp⟩:=hR.get hx
  have hp2:=s2 _ _ hp
  have et:sides.take (i+1)=sides.take i++[side]:=by rw[List.take_add_one,hr2];rfl
  refine⟨_,rfl,p,rfl,⟨_,SqL.of hp2⟩,fun c1 acc hacc=>DV (f:=fun k=>decide (k∈row)) (rest:=[some (.ref r)]) (SqL.of hp2) hacc (hsl side (List.mem_of_getElem? hr2)) (fun k hk H3 s3 R3 hR3=>?_) (fun v0 H3 s3 h3=>?_) none⟩
  ·exact⟨_,rfl,_,rfl,My ((s2.trans s3).seq hS) (hR3 H3 (Same.refl _))⟩
  ·refine⟨acc,_,rfl,SqL.of h3,_,rfl,?_⟩
   have e:(side.map fun k=>decide (k∈row)).any id=side.any fun k=>decide (k∈row):=by rw[List.any_map];rfl
   rw[e]
   cases hq:side.any fun k=>decide (k∈row) with
   | false=>
    refine Bx ?_
    have ef:A6 sides row=false:=by
     unfold A6
     rw[←List.take_append_drop (i+1) sides,et,List.all_append,List.all_append,List.all_cons,hq]
     simp
    have:=q H3 (s2.trans s3)
    rw[ef] at this
    exact this
   | true=>
    refine A0 ?_
    refine⟨_,rfl,s2.trans s3,?_⟩
    rw[et,List.all_append,hall,List.all_cons,hq]
    rfl
 ·rintro σ H2 ⟨sv,rfl,s2,hall⟩
  rw[hR.len,List.take_length] at hall
  have:=q H2 s2
  unfold A6 at this
  rw[hall] at this
  exact this
end
def Bj (seen row:List Int):Str:=if (seen.all fun k=>decide (k∈row))=true then "grant" else if (seen.any fun k=>decide (k∈row))=true then "doubt" else "deny"
def Kx (xs row:List Int):List Int:=xs.filter fun k=>decide (k∈row)
def Ef (xs row:List Int):List Int:=xs.filter fun k=>!decide (k∈row)
theorem KO (xs row:List Int):Kx xs row=[]↔(xs.any fun k=>decide (k∈row))=false:=by
 unfold Kx
 rw[List.filter_eq_nil_iff]
 constructor
 ·intro h
  rw[Bool.eq_false_iff]
  intro z
  obtain⟨k,hk,hk2⟩:=List.any_eq_true.mp z
  exact h k hk hk2
 ·intro h k hk hk2
  have:(xs.any fun k=>decide (k∈row))=true:=List.any_eq_true.mpr ⟨k,hk,hk2⟩
  rw[h] at this
  cases this
theorem P5 (xs row:List Int):(Kx xs row).length≤xs.length:=List.length_filter_le _ _
theorem Od (xs row:List Int):(Ef xs row).length≤xs.length:=List.length_filter_le _ _
theorem IT {xs:List Int}:(xs.map V.int).isEmpty=decide (xs=[]):=by cases xs<;>simp
def Cp (sides:List (List Int)) (going seen row:List Int):Str:=
 if Ef going row=[] then "grant" else if Kx going row=[] then "deny"
 else if Bj seen row="grant"∧A6 sides (Kx going row)=false then "doubt"
 else if Bj seen row="deny"∧A6 sides (Ef going row)=false then "doubt" else Bj seen row
theorem N9 {i:Nat} {v:V} {σ σ' σ0:L2.St} {H:Hp} {N B C:L2.St→Hp→Prop} {R:VK} (e:σ.set i (some v)=σ') (h:N σ' H):({ nx:=fun _ H'=>(fun x H1=>Ck i x σ H1 N) v H',rt:=R,bk:=B,ct:=C }:BV).nx σ0 H:=by
 subst e
 exact h
theorem HL {t u:L2.TS} {D:BV} {R:VK} {B C:L2.St→Hp→Prop} {σ:L2.St} {H:Hp} (Mid:L2.St→Hp→Prop) (h2:∀σ' H',Mid σ' H'→u D σ' H') (h1:(∀σ' H',Mid σ' H'→u D σ' H')→t { D with nx:=u D } σ H):({ nx:=Nw t u D,rt:=R,bk:=B,ct:=C }:BV).nx σ H:=h1 h2
theorem MY {i:Nat} {v:V} {σ σ':L2.St} {H:Hp} {N:L2.St→Hp→Prop} (e:σ.set i (some v)=σ') (h:N σ' H):Ck i v σ H N:=by
 subst e
 exact h
theorem KD {t u:L2.TS} {D:BV} {σ:L2.St} {H:Hp} (Mid:L2.St→Hp→Prop) (h2:∀σ' H',Mid σ' H'→u D σ' H') (h1:(∀σ' H',Mid σ' H'→u D σ' H')→t { D with nx:=u D } σ H):Nw t u D σ H:=h1 h2
def Wr (row:List Int):Prop:=row.Pairwise (· < ·)∧∀k∈row,0≤k∧k<32
theorem Wr.sub {a b:List Int} (h:Wr b) (s:a.Sublist b):Wr a:=⟨h.1.sublist s,fun k hk=>h.2 k (s.subset hk)⟩
theorem Kq {m:Nat} (h:m≤5):Wr (Cq (2^m)):=⟨N5 _,fun k hk=>by
 have:=mem_upto.mp hk
 have h2:=JO h
 have:((2^m:Nat):Int)≤32:=by omega
 omega⟩
theorem Wr.len {row:List Int} (h:Wr row):row.length≤32:=by
 have nd:row.Nodup:=h.1.imp fun h=>by omega
 have:=EG (l2:=Cq 32) nd fun k hk=>mem_upto.mpr (h.2 k hk)
 rw[FS] at this
 exact this
theorem Gm {z:Str} {t:Tr} {row s:List Int} (h:s∈AI z t row):s.Sublist row:=by
 unfold AI at h
 split at h
 ·rw[List.mem_singleton.mp h];exact List.filter_sublist
 ·split at h
  ·rw[List.mem_singleton.mp h];exact List.filter_sublist
  ·simp only[List.mem_cons,List.not_mem_nil,or_false] at h
   rcases h with rfl | rfl
   ·exact List.filter_sublist
   ·exact List.filter_sublist
theorem Na {z:Str} {t:Tr} {row s:List Int} (k:Fw z t row) (h:s∈AI z t row):s≠[]:=by
 unfold AI at h
 rcases k with⟨rfl,k⟩|⟨rfl,k⟩|⟨rfl,k1,k2⟩
 ·rw[if_pos rfl] at h
  rw[List.mem_singleton.mp h];exact k
 ·rw[if_neg (by decide),if_pos rfl] at h
  rw[List.mem_singleton.mp h];exact k
 ·rw[if_neg (by decide),if_neg (by decide)] at h
  simp only[List.mem_cons,List.not_mem_nil,or_false] at h
  rcases h with rfl | rfl
  ·exact k1
  ·exact k2
theorem F0 {z:Str} {t:Tr} {row:List Int}:(∃a,AI z t row=[a])∨∃a b,AI z t row=[a,b]:=by
 unfold AI
 split
 ·exact .inl ⟨_,rfl⟩
 ·split
  ·exact .inl ⟨_,rfl⟩
  ·exact .inr ⟨_,_,rfl⟩
theorem IS {row:List Int} {sides:List (List Int)}:(Bg row sides).Sublist row:=List.filter_sublist
abbrev EU:Stmt:=BD 12
def HZ (K:PySem.W.Frag):Sp:=fun vs H Q _=>∃(a:Addr) (xs:List V) (ts:List Tr),vs=[.ref a]∧SqL K H a xs∧Pile H xs ts∧sz ts≤900∧
 ∀(r:Addr) (ys:List V) (H':Hp),Same H H'→H' r=some (.lst ys)→Pile H' ys (BF ts)→Q (.ref r) H'
section
theorem OL:Ap ["layer"] ["layer"] (Af EU):=BC
theorem Ql:(["sentence","part"]:List Str).Nodup:=by decide +kernel
theorem Mw (F:Fun K "parts_of" "parts_of" EU f fd):FnOk P w K mg bz AO 1 f fd ["layer"] (HZ K):=by
 refine F.ok OL (fun vs H Q E h=>?_) (fun cdv A outer s H vs Q E hr h=>?_)
 ·obtain⟨a,xs,ts,rfl,_⟩:=h
  rfl
 obtain⟨a,xs,ts,rfl,hS,hp,hsz,q⟩:=h
 refine⟨_,Ae (Aj (Nq (N:=["sentence","part"]) (js:=[none,none]) (cl:=[]) ⟨rfl,rfl,rfl,List.forall_mem_nil _,rfl,rfl,rfl⟩ (AK (pv 0)) (fun _=>Ax (i:=0) Ql rfl (Or.inl rfl))
  (fun _=>Dt (Am Gz (AH A4 (pv 0) Ah (fun _ _=>rfl)) Ar (As _))) (fun _=>JJ (D1 PM (pv 0) (Fc Ah) Fj)) (fun _=>Ax (i:=1) Ql rfl (Or.inl rfl)) (fun _=>Bm) (fun _=>pv 1))),?_⟩
 refine⟨_,rfl,a,rfl,⟨_,hS⟩,fun cc acc hacc=>AQ (K:=K) (a:=a) (xs:=xs) (fun i σ H2=>∃(v0 v1:Option V) (ys:List V),σ=[v0,v1]∧Same H H2∧H2 acc=some (.lst ys)∧Pile H2 ys (BF (ts.take i))) ?_ ?_ ?_ ?_⟩
 ·exact⟨none,none,[],rfl,Ag hacc _,Ac,.nil⟩
 ·rintro i σ H2 _ ⟨v0,v1,ys,rfl,s2,_,_⟩
  exact s2.seq hS
 ·rintro i x σ H2 hx ⟨v0,v1,ys,rfl,s2,ha2,hp2⟩
  obtain⟨t,ht,hat⟩:=B6 hp hx
  have hat2:=hat.keep (TS.same s2)
  obtain⟨p,z,cs,rfl,hpt,hk⟩:=PF hat2
  have zstr:∃y,z= .str y:=by
   rcases hk with⟨e,_⟩|⟨_,e,_⟩
   ·exact⟨_,e⟩
   ·exact e
  obtain⟨y,rfl⟩:=zstr
  refine⟨_,rfl,p,_,_,_,rfl,rfl,SqT.of hpt,Aq (j:=0) rfl,rfl,_,rfl,?_⟩
  rcases hk with⟨e,ek⟩|⟨ne,_,hcs,_,_⟩
  ·refine Ek e ?_
   refine⟨_,_,ys,rfl,s2,ha2,?_⟩
   rw[ES ht,ek,List.append_nil]
   exact hp2
  ·refine KL ne ?_
   refine⟨_,rfl,_,rfl,p,_,rfl,SqT.of hpt,Nh,fun c hc=>⟨c,rfl,⟨_,SqT.of Ac⟩,HS (K:=K) (a:=c) (xs:=Ed (V.str y::cs) (some 1) none) (fun j σ H3=>∃(v1:Option V) (ys:List V),σ=[some (.ref p),v1]∧Same H H3∧H3 acc=some (.lst ys)∧H3 c=some (.tup (Ed (V.str y::cs) (some 1) none))∧Pile H3 cs (Js t)∧Pile H3 ys (BF (ts.take i)++(Js t).take j)) ?_ ?_ ?_ ?_⟩⟩
   ·refine⟨_,ys,rfl,s2.trans (Ag hc _),(Ag hc _) _ _ ha2,Ac,hcs.keep (TS.new hc),?_⟩
    rw[List.take_zero,List.append_nil]
    exact hp2.keep (TS.new hc)
   ·rintro j σ H3 _ ⟨v1,ys,rfl,s3,_,hc3,_⟩
    exact SqT.of hc3
   ·rintro j u σ H3 hu ⟨v1,ys,rfl,s3,ha3,hc3,hcs3,hp3⟩
    rw[Q0] at hu
    obtain⟨t2,ht2,hat3⟩:=B6 hcs3 hu
    have hlen:=hp3.len
    have hb:=I9 (j:=j) ht
    show BZ acc (Mf 1) _ _ _
    refine⟨_,rfl,ys,ha3,AJ (by omega),?_⟩
    have k3:TS H3 (AA H3 acc (.lst (ys++[u]))):=TS.lst ha3
    refine⟨_,ys++[u],rfl,AD s3 hacc _,Ac,by rw[Az (DT hc3 ha3 (by intro z;cases z))];exact hc3,hcs3.keep k3,?_⟩
    rw[List.take_add_one,ht2,←List.append_assoc]
    exact (hp3.keep k3).snoc (hat3.keep k3)
   ·rintro σ H3 ⟨v1,ys,rfl,s3,ha3,hc3,hcs3,hp3⟩
    refine⟨_,_,ys,rfl,s3,ha3,?_⟩
    rw[Q0] at hp3
    have hl:=hcs3.len
    rw[hl,List.take_length] at hp3
    rw[ES ht]
    exact hp3
 ·rintro σ H2 ⟨v0,v1,ys,rfl,s2,ha2,hp2⟩
  rw[hp.len,List.take_length] at hp2
  exact q acc ys H2 s2 ha2 hp2
end
abbrev EC:Stmt:=BD 15
def HB:Sp:=fun vs H Q _=>∃(k:Nat) (w:Int),vs=[.int (k:Int),.int w]∧Q (.bl (De k w)) H
theorem OX (k:Nat) (w:Int):decide (V.int (Builtin.bitAnd (w / 2^((k:Int)).toNat) 1)=V.int 1)=De k w:=by
 rw[bitAnd_m1,Int.toNat_natCast]
 exact JC k w
section
theorem OW:Ap ["letter","world"] ["letter","world"] (Af EC):=BC
theorem Mg (F:Fun K "letter_holds" "letter_holds" EC f fd):FnOk P w K mg bz AO 1 f fd ["letter","world"] HB:=by
 refine F.ok OW (fun vs H Q E h=>?_) (fun cdv A outer s H vs Q E hr h=>?_)
 ·obtain⟨k,w,rfl,_⟩:=h
  rfl
 obtain⟨k,wd,rfl,q⟩:=h
 refine⟨_,Ae (Aj (Br AS (AC Qe (AC Pg (pv 1) (pv 0)) Ah) Ah (As _))),?_⟩
 refine⟨_,rfl,_,rfl,_,_,rfl,rfl,Int.natCast_nonneg k,_,_,rfl,rfl,rfl,?_⟩
 rw[←OX] at q
 exact q
end
abbrev DD:Stmt:=BD 16
abbrev EM:Stmt:=BD 17
abbrev DN:Stmt:=BD 18
def Ij:Sp:=fun vs H Q _=>∃(j:Nat) (a b:Bool),vs=[.str (jn j),.bl a,.bl b]∧Q (.bl (jv j a b)) H
def post:Tr→List Tr
 | .lt k=>[.lt k]
 | .nt t=>post t++[.nt t]
 | .bn j a b=>post a++(post b++[.bn j a b])
theorem Me:∀t:Tr,post t=(Js t).flatMap post++[t]
 | .lt k=>rfl
 | .nt t=>by show post t++[.nt t]=(post t++[])++[.nt t];rw[List.append_nil]
 | .bn j a b=>by show post a++(post b++[.bn j a b])=(post a++(post b++[]))++[.bn j a b];rw[List.append_nil,List.append_assoc]
theorem Ca:∀t:Tr,(post t).length=t.size
 | .lt k=>rfl
 | .nt t=>by show (post t++[Tr.nt t]).length=t.size+1;rw[List.length_append,Ca t];rfl
 | .bn j a b=>by
  show (post a++(post b++[Tr.bn j a b])).length=a.size+b.size+1
  rw[List.length_append,List.length_append,Ca a,Ca b]
  show a.size+(b.size+1)=_
  omega
def stp (w:Int) (rs:List Bool):Tr→Option (List Bool)
 | .lt k=>some (De k w::rs)
 | .nt _=>match rs with
  | a::r=>some ((!a)::r)
  | []=>none
 | .bn j _ _=>match rs with
  | b::a::r=>some (jv j a b::r)
  | _=>none
def run (w:Int):List Tr→List Bool→Option (List Bool)
 | [],rs=>some rs
 | u::r,rs=>match stp w rs u with
  | some rs'=>run w r rs'
  | none=>none
theorem E8 (w:Int):∀(a b:List Tr) (rs rs':List Bool),run w a rs=some rs'→run w (a++b) rs=run w b rs'
 | [],b,rs,rs',h=>by cases h;rfl
 | u::r,b,rs,rs',h=>by
  unfold run at h
  show (match stp w rs u with | some rs'=>run w (r++b) rs' | none=>none)=run w b rs'
  cases e:stp w rs u with
  | none=>rw[e] at h;cases h
  | some z=>rw[e] at h;exact E8 w r b z rs' h
theorem D8 (w:Int):∀(t:Tr) (rs:List Bool),run w (post t) rs=some (tv t w::rs)
 | .lt k,rs=>rfl
 | .nt t,rs=>by
  show run w (post t++[.nt t]) rs=_
  rw[E8 w _ _ _ _ (D8 w t rs)]
  rfl
 | .bn j a b,rs=>by
  show run w (post a++(post b++[.bn j a b])) rs=_
  rw[E8 w _ _ _ _ (D8 w a rs),E8 w _ _ _ _ (D8 w b _)]
  rfl
def Kn:Sp:=fun vs H Q _=>∃(v:V) (t:Tr),vs=[v]∧t.At H v∧t.size≤800∧∀(l:Addr) (ys:List V) (H':Hp),Same H H'→H l=none→H' l=some (.lst ys)→Pile H' ys (post t)→Q (.ref l) H'
def Io:Sp:=fun vs H Q _=>∃(l:Addr) (ys:List V) (t:Tr) (w:Int),vs=[.ref l,.int w]∧H l=some (.lst ys)∧Pile H ys (post t)∧t.ok 5∧t.size≤800∧∀(H':Hp),Same H H'→Q (.bl (tv t w)) H'
section
theorem ND:Ap ["kind","one","other"] ["kind","one","other"] (Af DD):=BC
theorem K7 (F:Fun K "joined" "joined" DD f fd):FnOk P w K mg bz AO 1 f fd ["kind","one","other"] Ij:=by
 refine F.ok ND (fun vs H Q E h=>?_) (fun cdv A outer s H vs Q E hr h=>?_)
 ·obtain⟨j,a,b,rfl,_⟩:=h
  rfl
 obtain⟨j,va,vb,rfl,q2⟩:=h
 refine⟨_,Ad (AE (Am AS (pv 0) Ar (As _))
   (Ae (Aj (Kb (pv 1) (Cm (pv 2)))))
   An)
  (Ad (AE (Am AS (pv 0) Ar (As _))
   (Ae (Aj (Gw (pv 1) (Cm (pv 2)))))
   An)
  (Ad (AE (Am AS (pv 0) Ar (As _))
   (Ae (Aj (Gw (Hx (pv 1)) (Cm (pv 2)))))
   An)
  (Ae (Aj (Br AS (pv 1) (pv 2) (As _)))))),?_⟩
 refine⟨_,rfl,rfl,_,rfl,?_⟩
 by_cases h0:V.str (jn j)=V.str "and"
 ·refine Bp h0 ?_
  obtain rfl:=RN h0
  cases va with
  | false=>exact⟨_,rfl,_,rfl,A0 q2⟩
  | true=>exact⟨_,rfl,_,rfl,Bx ⟨_,rfl,q2⟩⟩
 refine Bk h0 ?_
 refine⟨_,rfl,rfl,_,rfl,?_⟩
 by_cases h1:V.str (jn j)=V.str "or"
 ·refine Bp h1 ?_
  obtain rfl:=RR h1
  cases va with
  | false=>exact⟨_,rfl,_,rfl,A0 ⟨_,rfl,q2⟩⟩
  | true=>exact⟨_,rfl,_,rfl,Bx q2⟩
 refine Bk h1 ?_
 refine⟨_,rfl,rfl,_,rfl,?_⟩
 by_cases h2:V.str (jn j)=V.str "if"
 ·refine Bp h2 ?_
  obtain rfl:=RT h2
  cases va with
  | false=>exact⟨_,rfl,_,rfl,_,rfl,Bx q2⟩
  | true=>exact⟨_,rfl,_,rfl,_,rfl,A0 ⟨_,rfl,q2⟩⟩
 refine Bk h2 ?_
 rw[RU h0 h1 h2] at q2
 refine⟨_,rfl,_,rfl,rfl,?_⟩
 rw[KY]
 exact q2
def RO (H:Hp) (v:V) (t:Tr) (sl wl:Addr) (m:Nat):L2.St→Hp→Prop:=fun σ H3=>∃(ys zs:List V) (ss ws:List Tr) (pp:Option V),σ=[some v,some (.ref sl),some (.ref wl),pp]∧Same H H3∧
 H3 sl=some (.lst ys)∧H3 wl=some (.lst zs)∧Pile H3 ys ss∧Pile H3 zs ws∧ws.flatMap post++ss.reverse=post t∧m=sz ws
theorem scSteps:Ap ["sentence","steps","waiting","step"] ["sentence"] (Af EM):=BC
theorem Ih {H:Hp}:∀{xs:List V} {ts:List Tr},Pile H xs ts→Pile H xs.reverse ts.reverse
 | _,_,.nil=>.nil
 | _,_,.cons r q=>by
  rw[List.reverse_cons,List.reverse_cons]
  exact (Ih q).snoc r
theorem IN {H:Hp}:∀{xs ys:List V} {ts us:List Tr},Pile H xs ts→Pile H ys us→Pile H (xs++ys) (ts++us)
 | _,_,_,_,.nil,q=>q
 | _,_,_,_,.cons r q,q2=>.cons r (IN q q2)
theorem MG {g:Addr} {gd:FuncData} (F:Fun K "steps_of" "steps_of" EM f fd) (GP:FnOk P w K mg bz AO 1 g gd ["layer"] (HZ K)) (CP:AL K mg "parts_of" g gd ["layer"]):FnOk P w K mg bz AO 2 f fd ["sentence"] Kn:=by
 refine F.ok scSteps (fun vs H Q E h=>?_) (fun cdv A outer s H vs Q E hr h=>?_)
 ·obtain⟨v,t,rfl,_⟩:=h
  rfl
 obtain⟨v,t,rfl,ha,hs,q⟩:=h
 refine⟨_,Ad (Ak (i:=1) scSteps.nd rfl (Or.inl rfl) (AF Ab))
  (Ad (Ak (i:=2) scSteps.nd rfl (Or.inl rfl) (AF (Aa (pv 0) Ab)))
  (Ad (FK PassesOwn.never (FN (pv 2) (fun _=>rfl))
   (Ad (Ak (i:=3) scSteps.nd rfl (Or.inl rfl) (B3 PySem.F.plainAttrs_list PySem.F.slot_list_pop PySem.F.type_list_pop Cr (pv 2)))
   (Ad (AU (Bz PySem.F.plainAttrs_list PySem.F.slot_list_append PySem.F.type_list_append AN (pv 1) (Aa (pv 3) Ab)))
   (Ae (AU (Bz PySem.F.plainAttrs_list PySem.F.slot_list_extend PySem.F.type_list_extend LD (pv 2) (Aa (Ai GP hr (by rfl) CP.m CP.k CP.b .nil Au (Aa (AF (Aa (pv 3) Ab)) Ab)) Ab)))))))
  (Ad (AU (B3 PySem.F.plainAttrs_list PySem.F.slot_list_reverse PySem.F.type_list_reverse Jx (pv 1)))
  (Ae (Aj (pv 1)))))),?_⟩
 refine⟨Fi,fun sl hsl=>?_⟩
 have s1:=Ag hsl (.lst [])
 refine⟨_,rfl,LE,fun wl hwl=>?_⟩
 have s2:=Ag hwl (.lst [v])
 have nsw:sl≠wl:=Ay (Ac (H:=H) (a:=sl) (o:=.lst [])) hwl
 have hwl0:H wl=none:=s1.free hwl
 have e1:sz [t]=t.size:=by unfold sz;simp
 refine⟨RO H v t sl wl,⟨_,[],[v],[],[t],none,rfl,s1.trans s2,s2 _ _ Ac,Ac,.nil,.cons (ha.keep ((TS.same s1).trans (TS.same s2))) .nil,by simp,rfl⟩,?_⟩
 rintro m σ H3 ⟨ys,zs,ss,ws,pp,rfl,s3,hs3,hw3,p3,z3,e3,rfl⟩
 have bnd:sz ws+ss.length≤800:=by
  have h1:(ws.flatMap post).length=sz ws:=by
   clear e3 z3
   induction ws with
   | nil=>rfl
   | cons u r ih=>
    show (post u++r.flatMap post).length=_
    rw[List.length_append,Ca,ih,Hv]
  have h2:=congrArg List.length e3
  rw[List.length_append,List.length_reverse,h1,Ca] at h2
  omega
 refine⟨_,rfl,_,.inl ⟨zs,SqL.of hw3,rfl⟩,?_⟩
 refine B2 (fun c=>?_) (fun c=>?_)
 ·refine⟨fun σ' H'=>∃m',m'<sz ws∧RO H v t sl wl m' σ' H',fun _ _ h=>h,?_⟩
  have hpos:0<ws.length:=by
   rw[←z3.len]
   cases zs with
   | nil=>exact absurd c (by decide)
   | cons _ _=>exact Nat.succ_pos _
  obtain⟨zs',y,ws',u,rfl,rfl,q3,a3⟩:=z3.last hpos
  have hsw:=By ws' u
  have hku:=Mx u
  have hwl':=HJ ws'
  have hl1:=p3.len
  have hl2:=q3.len
  refine⟨_,rfl,.inl ⟨rfl,_,SqL.of hw3⟩,wl,_,y,rfl,rfl,hw3,Eh _ _,?_⟩
  have t4:HT2.TS H3 (AA H3 wl (.lst (zs'++[y]).dropLast)):=TS.lst hw3
  have s4:Same H (AA H3 wl (.lst (zs'++[y]).dropLast)):=AD s3 hwl0 _
  rw[List.dropLast_concat] at t4 s4
  have hs4:(AA H3 wl (.lst zs')) sl=some (.lst ys):=by rw[Az nsw];exact hs3
  rw[List.dropLast_concat]
  refine⟨_,rfl,.inl ⟨rfl,_,SqL.of hs4⟩,_,rfl,sl,_,_,rfl,rfl,hs4,AJ (by omega),?_⟩
  have t5:HT2.TS (AA H3 wl (.lst zs')) (AA (AA H3 wl (.lst zs')) sl (.lst (ys++[y]))):=TS.lst hs4
  have s5:Same H (AA (AA H3 wl (.lst zs')) sl (.lst (ys++[y]))):=AD s4 hsl _
  have hw5:(AA (AA H3 wl (.lst zs')) sl (.lst (ys++[y]))) wl=some (.lst zs'):=by rw[Az nsw.symm,Ac]
  have hs5:(AA (AA H3 wl (.lst zs')) sl (.lst (ys++[y]))) sl=some (.lst (ys++[y])):=Ac
  have a5:=a3.keep (t4.trans t5)
  have p5:=(p3.snoc a3).keep (t4.trans t5)
  have q5:=q3.keep (t4.trans t5)
  revert s5 hw5 hs5 a5 p5 q5
  generalize (AA (AA H3 wl (.lst zs')) sl (.lst (ys++[y])))=H5
  intro s5 hw5 hs5 a5 p5 q5
  refine⟨_,rfl,.inl ⟨rfl,_,SqL.of hw5⟩,_,rfl,LE,fun pl hpl=>?_⟩
  have s6:=Ag hpl (.lst [y])
  have e1:sz [u]=u.size:=by unfold sz;simp
  refine⟨pl,[y],[u],rfl,SqL.of Ac,.cons (a5.keep (TS.same s6)) .nil,by omega,fun r ks H7 s7 hr7 p7=>?_⟩
  have hl3:=p7.len
  rw[I8] at p7 hl3
  have hlk:=HJ (Js u)
  have hw7:=s7 _ _ (s6 _ _ hw5)
  refine⟨wl,r,zs',ks,rfl,rfl,hw7,hr7,Qp (by omega),?_⟩
  have t8:HT2.TS H7 (AA H7 wl (.lst (zs'++ks))):=TS.lst hw7
  have k57:=(TS.same s6).trans (TS.same s7)
  refine⟨_,?_,ys++[y],zs'++ks,ss++[u],ws'++Js u,_,rfl,AD (s5.trans (s6.trans s7)) hwl0 _,?_,Ac,p5.keep (k57.trans t8),(IN (q5.keep k57) p7).keep t8,?_,rfl⟩
  ·rw[Ng];omega
  ·rw[Az nsw];exact s7 _ _ (s6 _ _ hs5)
  ·rw[←e3,List.flatMap_append,List.flatMap_append,List.reverse_append]
   show ((ws'.flatMap post++(Js u).flatMap post)++([u]++ss.reverse))=(ws'.flatMap post++(post u++[]))++ss.reverse
   rw[List.append_nil,Me u]
   simp only[List.append_assoc]
 ·have e:ws=[]:=by
   cases z3 with
   | nil=>rfl
   | cons h1 h2=>exact absurd rfl c
  subst e
  refine⟨_,rfl,.inl ⟨rfl,_,SqL.of hs3⟩,sl,ys,rfl,rfl,hs3,?_⟩
  refine⟨_,rfl,q sl ys.reverse _ (AD s3 hsl _) hsl Ac ?_⟩
  have e4:ss.reverse=post t:=e3
  rw[←e4]
  exact (Ih p3).keep (TS.lst hs3)
theorem scTrueBy:Ap ["steps","world","truths","step","other","one"] ["steps","world"] (Af DN):=BC
def tl (rs:List Bool):List V:=rs.reverse.map V.bl
theorem Dr (b:Bool) (rs:List Bool):tl (b::rs)=tl rs++[.bl b]:=by unfold tl;simp
theorem J5 (rs:List Bool):(tl rs).length=rs.length:=by unfold tl;simp
theorem LA {g g2:Addr} {gd gd2:FuncData} (F:Fun K "true_by" "true_by" DN f fd) (GH:FnOk P w K mg bz AO 1 g gd ["letter","world"] HB) (CH:AL K mg "letter_holds" g gd ["letter","world"])
  (GJ:FnOk P w K mg bz AO 1 g2 gd2 ["kind","one","other"] Ij) (CJ:AL K mg "joined" g2 gd2 ["kind","one","other"]):FnOk P w K mg bz AO 2 f fd ["steps","world"] Io:=by
 refine F.ok scTrueBy (fun vs H Q E h=>?_) (fun cdv A outer s H vs Q E hr h=>?_)
 ·obtain⟨v,ys,t,wd,rfl,_⟩:=h
  rfl
 obtain⟨l,ys,t,wd,rfl,hl,hp,hok,hsz,q⟩:=h
 have hr1:Room 1 _:=hr
 refine⟨_,Ad (Ak (i:=2) scTrueBy.nd rfl (Or.inl rfl) (AF Ab))
  (Ad (Ba PassesOwn.never rfl (AK (pv 0)) (Ax (i:=3) scTrueBy.nd rfl (Or.inl rfl))
   (Ae (AE (Am AS (AH A4 (pv 3) Ah (fun _ _=>rfl)) Ar (As _))
    (Ae (AU (Bz PySem.F.plainAttrs_list PySem.F.slot_list_append PySem.F.type_list_append AN (pv 2) (Aa (Ai GH hr1 (by rfl) CH.m CH.k CH.b .nil Au (Aa (AH A4 (pv 3) Ah (fun _ _=>rfl)) (Aa (pv 1) Ab))) Ab))))
    (Ae (AE (Am AS (AH A4 (pv 3) Ah (fun _ _=>rfl)) Ar (As _))
     (Ae (AU (Bz PySem.F.plainAttrs_list PySem.F.slot_list_append PySem.F.type_list_append AN (pv 2) (Aa (Hx (B3 PySem.F.plainAttrs_list PySem.F.slot_list_pop PySem.F.type_list_pop Cr (pv 2))) Ab))))
     (Ad (Ak (i:=4) scTrueBy.nd rfl (Or.inl rfl) (B3 PySem.F.plainAttrs_list PySem.F.slot_list_pop PySem.F.type_list_pop Cr (pv 2)))
     (Ad (Ak (i:=5) scTrueBy.nd rfl (Or.inl rfl) (B3 PySem.F.plainAttrs_list PySem.F.slot_list_pop PySem.F.type_list_pop Cr (pv 2)))
     (Ae (AU (Bz PySem.F.plainAttrs_list PySem.F.slot_list_append PySem.F.type_list_append AN (pv 2) (Aa (Ai GJ hr1 (by rfl) CJ.m CJ.k CJ.b .nil Au (Aa (AH A4 (pv 3) Ah (fun _ _=>rfl)) (Aa (pv 5) (Aa (pv 4) Ab)))) Ab)))))))))))
  (Ae (Aj (AH AG (pv 2) Ah (fun _ _=>rfl))))),?_⟩
 refine⟨Fi,fun tr htr=>?_⟩
 have s1:=Ag htr (.lst [])
 have hlen:=hp.len
 have hpl:=Ca t
 refine⟨_,rfl,l,rfl,⟨_,SqL.of (s1 _ _ hl)⟩,AQ (K:=K) (a:=l) (xs:=ys) (fun i σ H3=>∃(v0 v1 v2:Option V) (rs:List Bool),σ=[some (.ref l),some (.int wd),some (.ref tr),v0,v1,v2]∧Same H H3∧H3 tr=some (.lst (tl rs))∧rs.length≤i∧run wd ((post t).drop i) rs=some [tv t wd]) ?_ ?_ ?_ ?_⟩
 ·exact⟨_,_,_,[],rfl,s1,Ac,Nat.le_refl _,D8 wd t []⟩
 ·rintro i σ H3 _ ⟨v0,v1,v2,rs,rfl,s3,_⟩
  exact SqL.of (s3 _ _ hl)
 ·rintro i x σ H3 hx ⟨v0,v1,v2,rs,rfl,s3,h3,hlr,hrun⟩
  obtain⟨u,hu,hat⟩:=B6 hp hx
  have hat3:=hat.keep (TS.same s3)
  have hi:i<ys.length:=(List.getElem?_eq_some_iff.mp hx).1
  obtain⟨hi2,eu⟩:=List.getElem?_eq_some_iff.mp hu
  rw[List.drop_eq_getElem_cons hi2,eu] at hrun
  unfold run at hrun
  cases u with
  | lt k=>
   obtain⟨p,rfl,hpt⟩:=hat3
   refine⟨_,rfl,p,_,_,_,rfl,rfl,SqT.of hpt,Aq (j:=0) rfl,rfl,_,rfl,?_⟩
   refine Bp rfl ?_
   refine⟨_,rfl,.inl ⟨rfl,_,SqL.of h3⟩,_,rfl,p,_,_,_,rfl,rfl,SqT.of hpt,Aq (j:=1) rfl,_,rfl,k,wd,rfl,?_⟩
   refine⟨tr,_,_,rfl,rfl,h3,AJ (by rw[J5];omega),?_⟩
   refine⟨_,_,_,De k wd::rs,rfl,AD s3 htr _,?_,by show rs.length+1≤i+1;omega,hrun⟩
   rw[Ac,Dr]
  | nt u=>
   obtain⟨p,c,rfl,hpt,_⟩:=hat3
   refine⟨_,rfl,p,_,_,_,rfl,rfl,SqT.of hpt,Aq (j:=0) rfl,rfl,_,rfl,?_⟩
   refine Bk (by decide) ?_
   refine⟨_,rfl,p,_,_,_,rfl,rfl,SqT.of hpt,Aq (j:=0) rfl,rfl,_,rfl,?_⟩
   refine Bp rfl ?_
   cases rs with
   | nil=>cases hrun
   | cons a r=>
    rw[Dr] at h3
    have hlr':r.length+1≤i:=hlr
    refine⟨_,rfl,.inl ⟨rfl,_,SqL.of h3⟩,_,rfl,.inl ⟨rfl,_,SqL.of h3⟩,tr,_,_,rfl,rfl,h3,Eh _ _,_,rfl,?_⟩
    refine⟨tr,_,_,rfl,rfl,Ac,?_,?_⟩
    ·rw[List.dropLast_concat];exact AJ (by rw[J5];omega)
    refine⟨_,_,_,(!a)::r,rfl,AD (AD s3 htr _) htr _,?_,by show r.length+1≤i+1;omega,hrun⟩
    rw[Ac,Dr,List.dropLast_concat]
  | bn j u1 u2=>
   obtain⟨p,c1,c2,rfl,hpt,_⟩:=hat3
   refine⟨_,rfl,p,_,_,_,rfl,rfl,SqT.of hpt,Aq (j:=0) rfl,rfl,_,rfl,?_⟩
   refine Bk Ic ?_
   refine⟨_,rfl,p,_,_,_,rfl,rfl,SqT.of hpt,Aq (j:=0) rfl,rfl,_,rfl,?_⟩
   refine Bk Ml ?_
   match rs,hrun,h3,hlr with
   | [],hrun,_,_=>cases hrun
   | [_],hrun,_,_=>cases hrun
   | b::a::r,hrun,h3,hlr=>
    rw[Dr,Dr] at h3
    have hlr':r.length+1+1≤i:=hlr
    refine⟨_,rfl,.inl ⟨rfl,_,SqL.of h3⟩,tr,_,_,rfl,rfl,h3,Eh _ _,?_⟩
    have h4:(AA H3 tr (.lst ((tl r++[V.bl a])++[V.bl b]).dropLast)) tr=some (.lst (tl r++[V.bl a])):=by rw[Ac,List.dropLast_concat]
    have s4:Same H (AA H3 tr (.lst ((tl r++[V.bl a])++[V.bl b]).dropLast)):=AD s3 htr _
    have p4:(AA H3 tr (.lst ((tl r++[V.bl a])++[V.bl b]).dropLast)) p=some (.tup [.str (jn j),c1,c2]):=by rw[Az (DT hpt h3 (by intro z;cases z))];exact hpt
    revert h4 s4 p4
    generalize AA H3 tr (.lst ((tl r++[V.bl a])++[V.bl b]).dropLast)=H4
    intro h4 s4 p4
    refine⟨_,rfl,.inl ⟨rfl,_,SqL.of h4⟩,tr,_,_,rfl,rfl,h4,Eh _ _,?_⟩
    have h5:(AA H4 tr (.lst (tl r++[V.bl a]).dropLast)) tr=some (.lst (tl r)):=by rw[Ac,List.dropLast_concat]
    have s5:Same H (AA H4 tr (.lst (tl r++[V.bl a]).dropLast)):=AD s4 htr _
    have p5:(AA H4 tr (.lst (tl r++[V.bl a]).dropLast)) p=some (.tup [.str (jn j),c1,c2]):=by rw[Az (DT p4 h4 (by intro z;cases z))];exact p4
    revert h5 s5 p5
    generalize AA H4 tr (.lst (tl r++[V.bl a]).dropLast)=H5
    intro h5 s5 p5
    refine⟨_,rfl,.inl ⟨rfl,_,SqL.of h5⟩,_,rfl,p,_,_,_,rfl,rfl,SqT.of p5,Aq (j:=0) rfl,_,rfl,_,rfl,j,a,b,rfl,?_⟩
    refine⟨tr,_,_,rfl,rfl,h5,AJ (by rw[J5];omega),?_⟩
    refine⟨_,_,_,jv j a b::r,rfl,AD s5 htr _,?_,by show r.length+1≤i+1;omega,hrun⟩
    rw[Ac,Dr]
 ·rintro σ H3 ⟨v0,v1,v2,rs,rfl,s3,h3,hlr,hrun⟩
  rw[hlen,List.drop_length] at hrun
  cases hrun
  exact⟨_,rfl,tr,_,_,_,rfl,rfl,SqL.of h3,Aq (j:=0) rfl,q _ s3⟩
end
abbrev BS:Stmt:=BD 19
def Df (K:PySem.W.Frag):Sp:=fun vs H Q _=>∃(v:V) (t:Tr) (r:Addr) (row:List Int),vs=[v,.ref r]∧t.At H v∧t.ok 5∧t.size≤800∧SqL K H r (row.map V.int)∧Wr row∧∀(l:Addr) (H':Hp),Same H H'→H l=none→AW H' l (row.filter fun k=>tv t k == true)→Q (.ref l) H'
section
theorem scWorldsOf:Ap ["sentence","room","steps"] ["sentence","room"] (Af BS):=BC
theorem IZ {g g2:Addr} {gd gd2:FuncData} (F:Fun K "worlds_of" "worlds_of" BS f fd) (GS:FnOk P w K mg bz AO 2 g gd ["sentence"] Kn) (CS:AL K mg "steps_of" g gd ["sentence"])
  (GB:FnOk P w K mg bz AO 2 g2 gd2 ["steps","world"] Io) (CB:AL K mg "true_by" g2 gd2 ["steps","world"]):FnOk P w K mg bz AO 3 f fd ["sentence","room"] (Df K):=by
 refine F.ok scWorldsOf (fun vs H Q E h=>?_) (fun cdv A outer s H vs Q E hr h=>?_)
 ·obtain⟨v,t,r,row,rfl,_⟩:=h
  rfl
 obtain⟨v,t,r,row,rfl,ha,hok,hs,hS,hwr,q⟩:=h
 have hl:=hwr.len
 refine⟨_,Ad (Ak (i:=2) scWorldsOf.nd rfl (Or.inr rfl) (Ai GS hr (by rfl) CS.m CS.k CS.b .nil Au (Aa (pv 0) Ab)))
  (Ae (Aj (Bf (N:=["world","steps"]) (js:=[none,some 2]) (cl:=[("steps",s.heap.objs.size+1)]) ⟨rfl,rfl,rfl,(by intro p hp;simp at hp;rcases hp with rfl<;>rfl),rfl,rfl,rfl⟩ (AK (pv 1)) (fun c1=>(Ax (i:=0) (show (["world","steps"]:List Str).Nodup by decide +kernel) rfl (Or.inl rfl))) (fun c1=>(Dt (A1 (Ai GB hr (by rfl) CB.m CB.k CB.b .nil Au (Aa (pv 1) (Aa (pv 0) Ab)))))) (fun c1=>(pv 0))))),?_⟩
 refine⟨_,rfl,v,t,rfl,ha,hs,fun st ys H1 s1 hst0 hst hp=>?_⟩
 refine⟨_,rfl,r,rfl,⟨_,s1.seq hS⟩,fun cc acc hacc=>BE (p:=fun k=>tv t k == true) (rest:=[some (.ref st)]) (s1.seq hS) hacc (by omega) (fun k hk H2 s2 R hR=>?_) (fun v0 H2 s2 h2=>q acc H2 (s1.trans s2) (s1.free hacc) h2) none⟩
 refine⟨_,rfl,_,rfl,st,ys,t,k,rfl,s2 _ _ hst,hp.keep (TS.same s2),hok,hs,fun H3 s3=>⟨_,rfl,?_⟩⟩
 have:=hR H3 s3
 rw[show (tv t k == true)=tv t k by cases tv t k<;>rfl] at this
 exact this
end
abbrev G0:Stmt:=BD 6
def JY (K:PySem.W.Frag):Sp:=fun vs H Q _=>∃(a b:Addr) (one other:List Int),vs=[.ref a,.ref b]∧SqL K H a (one.map V.int)∧SqL K H b (other.map V.int)∧one.length<64∧other.length≤900∧
 ∀(l:Addr) (H':Hp) (ns:List Int),Same H H'→H l=none→ns.Pairwise (· < ·)→(∀k,k∈ns↔k∈one∧k∈other)→AW H' l ns→Q (.ref l) H'
section
theorem PX:Ap ["one","other"] ["one","other"] (Af G0):=BC
theorem Op (F:Fun K "in_both" "in_both" G0 f fd) (T:ID mg):FnOk P w K mg bz AO 1 f fd ["one","other"] (JY K):=by
 refine F.ok PX (fun vs H Q E h=>?_) (fun cdv A outer s H vs Q E hr h=>?_)
 ·obtain⟨a,b,one,other,rfl,_⟩:=h
  rfl
 obtain⟨a,b,one,other,rfl,ha,hb,hl1,hl2,q⟩:=h
 refine⟨_,Ae (Aj (Av (Co rfl) (by rfl) T.sorted boot_sorted (Aa (AC ON (Bi (Dv rfl) (by rfl) T.set boot_set (Aa (pv 0) Ab)) (Bi (Dv rfl) (by rfl) T.set boot_set (Aa (pv 1) Ab))) Ab))),?_⟩
 refine⟨_,rfl,a,one,rfl,ha,by omega,fun a1 ha1=>?_⟩
 have s1:=Ag ha1 (Be w a1 (fun k=>decide (k∈one)) one.length)
 refine⟨_,rfl,b,other,rfl,s1.seq hb,by omega,fun b1 hb1=>?_⟩
 have s2:=Ag hb1 (Be w b1 (fun k=>decide (k∈other)) other.length)
 refine⟨a1,b1,_,_,_,_,rfl,rfl,s2 _ _ Ac,Ac,fun e=>?_,by omega,fun r hr1=>?_⟩
 ·subst e
  rw[Ac] at hb1
  cases hb1
 have s3:=Ag hr1 (Be w r (fun k=>decide (k∈one) && decide (k∈other)) one.length)
 refine⟨r,_,_,rfl,Ac,hl1,fun l ns hl hp hm=>?_⟩
 have s4:=Ag hl (.lst (ns.map V.int))
 exact q l _ ns (s1.trans (s2.trans (s3.trans s4))) ((s1.trans (s2.trans s3)).free hl) hp (fun k=>by rw[hm k,Bool.and_eq_true,decide_eq_true_eq,decide_eq_true_eq]) Ac
end
abbrev EQ:Stmt:=BD 7
def E5 (K:PySem.W.Frag):Sp:=fun vs H Q _=>∃(a b:Addr) (one other:List Int),vs=[.ref a,.ref b]∧SqL K H a (one.map V.int)∧SqL K H b (other.map V.int)∧one.length≤32∧(∀k∈one,0≤k∧k<32)∧other.length≤900∧
 ∀(l:Addr) (H':Hp) (ns:List Int),Same H H'→H l=none→ns.Pairwise (· < ·)→(∀k,k∈ns↔k∈one∧k∉other)→AW H' l ns→Q (.ref l) H'
section
theorem Oz:Ap ["one","other"] ["one","other"] (Af EQ):=BC
theorem Nn (F:Fun K "in_first_only" "in_first_only" EQ f fd) (T:ID mg):FnOk P w K mg bz AO 1 f fd ["one","other"] (E5 K):=by
 refine F.ok Oz (fun vs H Q E h=>?_) (fun cdv A outer s H vs Q E hr h=>?_)
 ·obtain⟨a,b,one,other,rfl,_⟩:=h
  rfl
 obtain⟨a,b,one,other,rfl,ha,hb,hl1,h32,hl2,q⟩:=h
 refine⟨_,Ae (Aj (Av (Hr rfl) (by rfl) T.sorted boot_sorted (Aa (AC OH (Bi (Dv rfl) (by rfl) T.set boot_set (Aa (pv 0) Ab)) (Bi (Dv rfl) (by rfl) T.set boot_set (Aa (pv 1) Ab))) Ab))),?_⟩
 refine⟨_,rfl,a,one,rfl,ha,by omega,fun a1 ha1=>?_⟩
 have s1:=Ag ha1 (Be w a1 (fun k=>decide (k∈one)) one.length)
 refine⟨_,rfl,b,other,rfl,s1.seq hb,by omega,fun b1 hb1=>?_⟩
 have s2:=Ag hb1 (Be w b1 (fun k=>decide (k∈other)) other.length)
 refine⟨a1,b1,_,_,_,_,rfl,rfl,s2 _ _ Ac,Ac,fun e=>?_,hl1,by omega,fun k hk=>h32 k (of_decide_eq_true hk),fun r hr1=>?_⟩
 ·subst e
  rw[Ac] at hb1
  cases hb1
 have s3:=Ag hr1 (LM w r (fun k=>decide (k∈one) && !decide (k∈other)) one.length)
 refine⟨r,_,_,rfl,Ac,by omega,fun l ns hl hp hm=>?_⟩
 have s4:=Ag hl (.lst (ns.map V.int))
 exact q l _ ns (s1.trans (s2.trans (s3.trans s4))) ((s1.trans (s2.trans s3)).free hl) hp (fun k=>by rw[hm k,Bool.and_eq_true,decide_eq_true_eq,Bool.not_eq_true',decide_eq_false_iff_not]) Ac
end
abbrev EJ:Stmt:=BD 10
def Fd (K:PySem.W.Frag):Sp:=fun vs H Q _=>∃(a b:Addr) (one other:List Int),vs=[.ref a,.ref b]∧SqL K H a (one.map V.int)∧SqL K H b (other.map V.int)∧one.length<64∧other.length≤900∧
 ∀(H':Hp),Same H H'→Q (.bl (one.any fun k=>decide (k∈other))) H'
section
theorem OB:Ap ["one","other"] ["one","other"] (Af EJ):=BC
theorem MZ {g:Addr} {gd:FuncData} (F:Fun K "some_within" "some_within" EJ f fd) (B:Bl mg) (GB:FnOk P w K mg bz AO 1 g gd ["one","other"] (JY K)) (CB:AL K mg "in_both" g gd ["one","other"]):FnOk P w K mg bz AO 2 f fd ["one","other"] (Fd K):=by
 refine F.ok OB (fun vs H Q E h=>?_) (fun cdv A outer s H vs Q E hr h=>?_)
 ·obtain⟨a,b,one,other,rfl,_⟩:=h
  rfl
 obtain⟨a,b,one,other,rfl,ha,hb,hl1,hl2,q⟩:=h
 refine⟨_,Ae (Aj (Br EW (Av Aw (by rfl) B.len PySem.boot_len (Aa (Ai GB hr (by rfl) CB.m CB.k CB.b .nil Au (Aa (pv 0) (Aa (pv 1) Ab))) Ab)) Ah (As _))),?_⟩
 refine⟨_,rfl,_,rfl,a,b,one,other,rfl,ha,hb,hl1,hl2,fun l H' ns s1 hl hp hm hr1=>?_⟩
 refine⟨l,_,rfl,.inl (SqL.of hr1),_,_,rfl,rfl,?_⟩
 have e:decide ((((ns.map V.int).length:Nat):Int)>0)=one.any fun k=>decide (k∈other):=by
  rw[List.length_map]
  cases h:one.any fun k=>decide (k∈other) with
  | true=>
   obtain⟨k,h1,h2⟩:=List.any_eq_true.mp h
   have:=List.length_pos_of_mem ((hm k).mpr ⟨h1,of_decide_eq_true h2⟩)
   exact decide_eq_true (by omega)
  | false=>
   cases ns with
   | nil=>rfl
   | cons k ns=>
    obtain⟨h1,h2⟩:=(hm k).mp List.mem_cons_self
    rw[List.any_eq_false] at h
    exact absurd (decide_eq_true h2) (h k h1)
 have:=q H' s1
 rw[←e] at this
 exact this
end
abbrev L3:Stmt:=BD 8
def DP (rs:List (List Int)):Nat:=(rs.map List.length).sum
def Kp (K:PySem.W.Frag):Sp:=fun vs H Q _=>∃(a:Addr) (xs:List V) (rs:List (List Int)),vs=[.ref a]∧SqL K H a xs∧RowsAt H xs rs∧DP rs<64∧
 ∀(l:Addr) (H':Hp) (ns:List Int),Same H H'→H l=none→ns.Pairwise (· < ·)→(∀k,k∈ns↔∃row∈rs,k∈row)→AW H' l ns→Q (.ref l) H'
theorem Rm {tb:TS} {D:BV} {σ:L2.St} {H:Hp} (h:tb D σ H):Cs K9 tb D σ H:=by
 show if true=true then tb D σ H else D.nx σ H
 rw[if_pos rfl]
 exact h
theorem Le {rs:List (List Int)} {i:Nat} {row:List Int} (h:rs[i]? = some row):DP (rs.take (i+1))=DP (rs.take i)+row.length:=by
 have e:rs.take (i+1)=rs.take i++[row]:=by rw[List.take_add_one,h];rfl
 unfold DP
 rw[e,List.map_append,List.sum_append]
 simp
theorem OD {rs:List (List Int)} {i:Nat}:DP (rs.take i)≤DP rs:=by
 have e:=List.take_append_drop i rs
 have:DP rs=DP (rs.take i)+DP (rs.drop i):=by
  conv=>lhs;rw[←e]
  unfold DP
  rw[List.map_append,List.sum_append]
 omega
section
theorem QL:Ap ["rows"] ["rows"] (Af L3):=BC
theorem PD (F:Fun K "in_any" "in_any" L3 f fd) (T:ID mg):FnOk P w K mg bz AO 1 f fd ["rows"] (Kp K):=by
 refine F.ok QL (fun vs H Q E h=>?_) (fun cdv A outer s H vs Q E hr h=>?_)
 ·obtain⟨a,xs,rs,rfl,_⟩:=h
  rfl
 obtain⟨a,xs,rs,rfl,hS,hR,h64,q⟩:=h
 refine⟨_,Ae (Aj (Av (Co rfl) (by rfl) T.sorted boot_sorted (Aa (Ls (N:=["row","world"]) (js:=[none,none]) (cl:=[]) ⟨rfl,rfl,rfl,List.forall_mem_nil _,rfl,rfl,rfl⟩ (AK (pv 0)) (fun c1=>(Ax (i:=0) (show (["row","world"]:List Str).Nodup by decide +kernel) rfl (Or.inl rfl))) (fun c1=>Bm) (fun c1=>(AK (pv 0))) (fun c1=>(Ax (i:=1) (show (["row","world"]:List Str).Nodup by decide +kernel) rfl (Or.inl rfl))) (fun c1=>Bm) (fun c1=>(pv 1))) Ab))),?_⟩
 refine⟨_,rfl,a,rfl,⟨_,hS⟩,fun cc acc hacc=>AQ (K:=K) (a:=a) (xs:=xs) (fun i σ H2=>∃(v0 v1:Option V) (S:Int→Bool) (n:Nat),σ=[v0,v1]∧Same H H2∧H2 acc=some (Be w acc S n)∧(∀k,S k=true↔∃row∈rs.take i,k∈row)∧n≤DP (rs.take i)) ?_ ?_ ?_ ?_⟩
 ·exact⟨none,none,_,0,rfl,Ag hacc _,Ac,fun k=>by simp,Nat.zero_le _⟩
 ·rintro i σ H2 _ ⟨v0,v1,S,n,rfl,s2,_⟩
  exact s2.seq hS
 ·rintro i x σ H2 hx ⟨v0,v1,S,n,rfl,s2,ha2,hm2,hn2⟩
  obtain⟨row,p,hrow,rfl,hp⟩:=hR.get hx
  have hlt:=Le hrow
  have hle:=OD (rs:=rs) (i:=i+1)
  refine Rm ?_
  refine⟨_,rfl,p,rfl,⟨_,SqL.of (s2 _ _ hp)⟩,AQ (K:=K) (a:=p) (xs:=row.map V.int) (fun j σ H3=>∃(v1:Option V) (S:Int→Bool) (n:Nat),σ=[some (.ref p),v1]∧Same H H3∧H3 acc=some (Be w acc S n)∧(∀k,S k=true↔(∃row∈rs.take i,k∈row)∨k∈row.take j)∧n≤DP (rs.take i)+j) ?_ ?_ ?_ ?_⟩
  ·exact⟨_,S,n,rfl,s2,ha2,fun k=>by rw[hm2 k];simp,hn2⟩
  ·rintro j σ H3 _ ⟨v1,S,n,rfl,s3,_⟩
   exact SqL.of (s3 _ _ hp)
  ·rintro j u σ H3 hu ⟨v1,S,n,rfl,s3,ha3,hm3,hn3⟩
   rw[List.getElem?_map] at hu
   obtain⟨k0,hk0,rfl⟩:=Option.map_eq_some_iff.mp hu
   have hj:=(List.getElem?_eq_some_iff.mp hk0).1
   have et:row.take (j+1)=row.take j++[k0]:=by rw[List.take_add_one,hk0];rfl
   show Hw w acc (Mf 1) _ _ _
   refine⟨_,rfl,k0,S,n,rfl,ha3,by omega,?_⟩
   refine⟨_,_,n+1,rfl,AD s3 hacc _,Ac,fun k=>?_,by omega⟩
   rw[Bool.or_eq_true,hm3 k,decide_eq_true_eq,et,List.mem_append,List.mem_singleton,or_assoc]
  ·rintro σ H3 ⟨v1,S,n,rfl,s3,ha3,hm3,hn3⟩
   rw[List.length_map] at hm3 hn3
   rw[List.take_length] at hm3
   refine⟨_,_,S,n,rfl,s3,ha3,fun k=>?_,by omega⟩
   have e:rs.take (i+1)=rs.take i++[row]:=by rw[List.take_add_one,hrow];rfl
   rw[hm3 k,e]
   constructor
   ·rintro (⟨r,h1,h2⟩|h)
    ·exact⟨r,List.mem_append_left _ h1,h2⟩
    ·exact⟨row,List.mem_append_right _ List.mem_cons_self,h⟩
   ·rintro⟨r,h1,h2⟩
    rcases List.mem_append.mp h1 with z | z
    ·exact .inl ⟨r,z,h2⟩
    ·rw[List.mem_singleton.mp z] at h2;exact .inr h2
 ·rintro σ H2 ⟨v0,v1,S,n,rfl,s2,ha2,hm2,hn2⟩
  rw[hR.len,List.take_length] at hm2 hn2
  refine⟨acc,S,n,rfl,ha2,by omega,fun l ns hl hp hm=>?_⟩
  have s4:=Ag hl (.lst (ns.map V.int))
  exact q l _ ns (s2.trans s4) (s2.free hl) hp (fun k=>by rw[hm k,hm2 k]) Ac
end
abbrev Eo:Stmt:=BD 9
abbrev En:Stmt:=BD 28
def Ht (K:PySem.W.Frag):Sp:=fun vs H Q _=>∃(a b:Addr) (one other:List Int),vs=[.ref a,.ref b]∧SqL K H a (one.map V.int)∧SqL K H b (other.map V.int)∧one.length≤32∧(∀k∈one,0≤k∧k<32)∧other.length≤900∧
 ∀(H':Hp),Same H H'→Q (.bl (one.all fun k=>decide (k∈other))) H'
def FQ (K:PySem.W.Frag):Sp:=fun vs H Q _=>∃(s r:Addr) (seen row:List Int),vs=[.ref s,.ref r]∧SqL K H s (seen.map V.int)∧Wr seen∧seen≠[]∧SqL K H r (row.map V.int)∧Wr row∧∀(H':Hp),Same H H'→Q (.str (Bj seen row)) H'
section
theorem OT:Ap ["one","other"] ["one","other"] (Af Eo):=BC
theorem NP {g:Addr} {gd:FuncData} (F:Fun K "all_within" "all_within" Eo f fd) (B:Bl mg) (GF:FnOk P w K mg bz AO 1 g gd ["one","other"] (E5 K)) (CF:AL K mg "in_first_only" g gd ["one","other"]):FnOk P w K mg bz AO 2 f fd ["one","other"] (Ht K):=by
 refine F.ok OT (fun vs H Q E h=>?_) (fun cdv A outer s H vs Q E hr h=>?_)
 ·obtain⟨a,b,one,other,rfl,_⟩:=h
  rfl
 obtain⟨a,b,one,other,rfl,ha,hb,hl1,h32,hl2,q⟩:=h
 refine⟨_,Ae (Aj (Br AS (Av Aw (by rfl) B.len PySem.boot_len (Aa (Ai GF hr (by rfl) CF.m CF.k CF.b .nil Au (Aa (pv 0) (Aa (pv 1) Ab))) Ab)) Ah (As _))),?_⟩
 refine⟨_,rfl,_,rfl,a,b,one,other,rfl,ha,hb,hl1,h32,hl2,fun l H' ns s1 hl hp hm hr1=>?_⟩
 refine⟨l,_,rfl,.inl (SqL.of hr1),rfl,?_⟩
 have e:decide (V.int (((ns.map V.int).length:Nat):Int)=V.int 0)=one.all fun k=>decide (k∈other):=by
  rw[List.length_map]
  cases h:one.all fun k=>decide (k∈other) with
  | true=>
   cases ns with
   | nil=>rfl
   | cons k ns=>
    obtain⟨h1,h2⟩:=(hm k).mp List.mem_cons_self
    exact absurd (of_decide_eq_true (List.all_eq_true.mp h k h1)) h2
  | false=>
   obtain⟨k,h1,h2⟩:=List.all_eq_false.mp h
   have:=List.length_pos_of_mem ((hm k).mpr ⟨h1,fun z=>h2 (decide_eq_true z)⟩)
   exact decide_eq_false fun z=>by
    injection z with z
    omega
 have:=q H' s1
 rw[←e] at this
 exact this
theorem N0:Ap ["seen","worlds"] ["seen","worlds"] (Af En):=BC
theorem M7 {g g2:Addr} {gd gd2:FuncData} (F:Fun K "plain" "plain" En f fd) (GA:FnOk P w K mg bz AO 2 g gd ["one","other"] (Ht K)) (CA:AL K mg "all_within" g gd ["one","other"])
  (GS:FnOk P w K mg bz AO 2 g2 gd2 ["one","other"] (Fd K)) (CS:AL K mg "some_within" g2 gd2 ["one","other"]):FnOk P w K mg bz AO 3 f fd ["seen","worlds"] (FQ K):=by
 refine F.ok N0 (fun vs H Q E h=>?_) (fun cdv A outer s H vs Q E hr h=>?_)
 ·obtain⟨s,r,seen,row,rfl,_⟩:=h
  rfl
 obtain⟨sn,r,seen,row,rfl,hN,wN,hne,hS,wS,q⟩:=h
 have l1:=wN.len
 have l2:=wS.len
 refine⟨_,Ad (AE (A1 (Ai GA hr (by rfl) CA.m CA.k CA.b .nil Au (Aa (pv 0) (Aa (pv 1) Ab))))
   (Ae (Aj Ar))
   An)
  (Ad (AE (A1 (Ai GS hr (by rfl) CS.m CS.k CS.b .nil Au (Aa (pv 0) (Aa (pv 1) Ab))))
   (Ae (Aj Ar))
   An)
  (Ae (Aj Ar))),?_⟩
 unfold Bj at q
 refine⟨_,rfl,_,rfl,sn,r,seen,row,rfl,hN,hS,l1,wN.2,by omega,fun H1 s1=>⟨_,rfl,?_⟩⟩
 cases h0:seen.all fun k=>decide (k∈row) with
 | true=>
  refine Bx ?_
  have:=q _ s1
  rw[h0,if_pos rfl] at this
  exact this
 | false=>
  refine A0 ?_
  simp only[h0,if_neg Bool.false_ne_true] at q
  refine⟨_,rfl,_,rfl,sn,r,seen,row,rfl,s1.seq hN,s1.seq hS,by omega,by omega,fun H2 s2=>⟨_,rfl,?_⟩⟩
  have q2:=q _ (s1.trans s2)
  cases h1:seen.any fun k=>decide (k∈row) with
  | true=>
   refine Bx ?_
   rw[h1,if_pos rfl] at q2
   exact q2
  | false=>
   refine A0 ?_
   rw[h1,if_neg Bool.false_ne_true] at q2
   exact q2
end
abbrev DJ:Stmt:=BD 24
def Q2:Option Nat→V
 | none=>.non
 | some i=>.int i
def Eb (sides:List (List Int)) (row:List Int):Option Nat:=sides.findIdx? fun s=>!(s.any fun k=>decide (k∈row))
theorem miss_none {sides:List (List Int)} {row:List Int}:Eb sides row=none↔A6 sides row=true:=by
 unfold Eb A6
 rw[List.findIdx?_eq_none_iff,List.all_eq_true]
 exact⟨fun h s hs=>by have:=h s hs;simpa using this,fun h s hs=>by have:=h s hs;simpa using this⟩
theorem N3 {sides:List (List Int)} {row s:List Int} {i:Nat} (hb:∀s∈sides.take i,(s.any fun k=>decide (k∈row))=true) (hi:sides[i]? = some s) (hs:(s.any fun k=>decide (k∈row))=false):Eb sides row=some i:=by
 unfold Eb
 obtain⟨hlt,rfl⟩:=List.getElem?_eq_some_iff.mp hi
 rw[List.findIdx?_eq_some_iff_getElem]
 refine⟨hlt,by simp[hs],fun j hj=>?_⟩
 have hm:sides[j]∈sides.take i:=List.mem_take_iff_getElem.mpr ⟨j,by omega,rfl⟩
 rw[hb _ hm]
 decide
theorem M5 {sides:List (List Int)} {row:List Int} (hb:∀s∈sides,(s.any fun k=>decide (k∈row))=true):Eb sides row=none:=by
 rw[miss_none]
 unfold A6
 rw[List.all_eq_true]
 exact hb
theorem LK {α:Type} {xs:List α} {i:Nat} {x y:α} (hx:xs[i]? = some x) (h:y∈xs.take (i+1)):y∈xs.take i∨y=x:=by
 rw[List.take_succ,hx] at h
 rcases List.mem_append.mp h with h | h
 ·exact .inl h
 ·exact .inr (by simpa using h)
def Ig (K:PySem.W.Frag):Sp:=fun vs H Q _=>∃(sd r:Addr) (row:List Int) (xs:List V) (sides:List (List Int)),vs=[.ref sd,.ref r]∧SqL K H r (row.map V.int)∧row.length≤900∧H sd=some (.lst xs)∧RowsAt H xs sides∧(∀s∈sides,s.length<64)∧sides.length≤900∧∀(H':Hp),Same H H'→Q (Q2 (Eb sides row)) H'
section
theorem scMissed:Ap ["sides","worlds","at","side"] ["sides","worlds"] (Af DJ):=BC
theorem LL {g:Addr} {gd:FuncData} (F:Fun K "missed_side" "missed_side" DJ f fd) (HE:mg "enumerate"=none) (GS:FnOk P w K mg bz AO 2 g gd ["one","other"] (Fd K)) (CS:AL K mg "some_within" g gd ["one","other"]):FnOk P w K mg bz AO 3 f fd ["sides","worlds"] (Ig K):=by
 refine F.ok scMissed (fun vs H Q E h=>?_) (fun cdv A outer s H vs Q E hr h=>?_)
 ·obtain⟨sd,r,row,xs,sides,rfl,_⟩:=h
  rfl
 obtain⟨sd,r,row,xs,sides,rfl,hS,hl,hX,hR,hsl,hsn,q⟩:=h
 refine⟨_,Ad (Ba PassesOwn.never rfl (IR (by rfl) HE (Aa (pv 0) Ab)) (Er rfl (Bc (Ax (i:=2) scMissed.nd rfl (Or.inl rfl)) (Bc (Ax (i:=3) scMissed.nd rfl (Or.inl rfl)) DH)))
   (Ae (AE (BJ (A1 (Ai GS hr (by rfl) CS.m CS.k CS.b .nil Au (Aa (pv 3) (Aa (pv 1) Ab)))))
    (Ae (Aj (pv 2)))
    An)))
  (Ae (Aj HQ)),?_⟩
 have hlen:=hR.len
 refine⟨_,rfl,sd,_,rfl,hX,Ga (a:=sd) (xs:=xs) (fun i σ H3=>∃(v0 v1:Option V),σ=[some (.ref sd),some (.ref r),v0,v1]∧Same H H3∧∀s∈sides.take i,(s.any fun k=>decide (k∈row))=true) ?_ ?_ ?_ ?_⟩
 ·exact⟨_,_,rfl,Same.refl _,fun s hs=>by simp at hs⟩
 ·rintro i σ H3 _ ⟨v0,v1,rfl,s3,h3⟩
  exact s3 _ _ hX
 ·rintro i y T2 σ H3 hy hT2 ⟨v0,v1,rfl,s3,h3⟩
  obtain⟨side,p,hr2,rfl,hp⟩:=hR.get hy
  have sT:=Ag hT2 (.tup [.int (i:Nat),.ref p])
  have s4:=s3.trans sT
  refine⟨T2,_,rfl,SqT.of Ac,rfl,_,_,rfl,_,_,rfl,rfl,?_⟩
  refine⟨_,rfl,_,rfl,p,r,side,row,rfl,SqL.of (s4 _ _ hp),s4.seq hS,hsl side (List.mem_of_getElem? hr2),hl,fun H4 s5=>⟨_,rfl,?_⟩⟩
  cases hb:side.any fun k=>decide (k∈row) with
  | true=>
   refine A0 ?_
   refine⟨_,_,rfl,s4.trans s5,fun s hs=>?_⟩
   rcases LK hr2 hs with h | rfl
   ·exact h3 s h
   ·exact hb
  | false=>
   refine Bx ?_
   have:=q H4 (s4.trans s5)
   rw[N3 h3 hr2 hb] at this
   exact⟨_,rfl,this⟩
 ·rintro σ H3 ⟨v0,v1,rfl,s3,h3⟩
  rw[hlen,List.take_length] at h3
  have:=q H3 s3
  rw[M5 h3] at this
  exact this
end
abbrev Dy:Stmt:=BD 30
abbrev B7:Stmt:=BD 31
abbrev Dq:Stmt:=BD 32
def Ha (K:PySem.W.Frag):Sp:=fun vs H Q _=>∃(sd g s r:Addr) (xs:List V) (sides:List (List Int)) (going seen row:List Int),vs=[.ref sd,.ref g,.ref s,.ref r]∧H sd=some (.lst xs)∧RowsAt H xs sides∧(∀s∈sides,Wr s)∧sides.length≤2∧
 SqL K H g (going.map V.int)∧Wr going∧SqL K H s (seen.map V.int)∧Wr seen∧seen≠[]∧SqL K H r (row.map V.int)∧Wr row∧∀(H':Hp),Same H H'→Q (.str (Cp sides going seen row)) H'
def Ea (z:Str) (g r:List Int):List Int:=if z="grant" then Kx g r else if z="deny" then Ef g r else g
def MH (sides:List (List Int)) (going seen row:List Int):Option Nat:=if Bj seen row="doubt" then none else Eb sides (Ea (Bj seen row) going row)
def Hf (K:PySem.W.Frag):Sp:=fun vs H Q _=>∃(sd g s r:Addr) (xs:List V) (sides:List (List Int)) (going seen row:List Int),vs=[.ref sd,.ref g,.ref s,.ref r]∧H sd=some (.lst xs)∧RowsAt H xs sides∧(∀s∈sides,Wr s)∧sides.length≤2∧
 SqL K H g (going.map V.int)∧Wr going∧SqL K H s (seen.map V.int)∧Wr seen∧seen≠[]∧SqL K H r (row.map V.int)∧Wr row∧∀(H':Hp),Same H H'→Q (Q2 (MH sides going seen row)) H'
def JE (K:PySem.W.Frag):Sp:=fun vs H Q _=>∃(z:Str) (g r:Addr) (going row:List Int),vs=[.str z,.ref g,.ref r]∧SqL K H g (going.map V.int)∧Wr going∧SqL K H r (row.map V.int)∧row.length≤900∧
 ∀(l:Addr) (H':Hp),Same H H'→H l=none→AW H' l (Ea z going row)→Q (.ref l) H'
theorem Pk {g r ns:List Int} (hg:Wr g) (hp:ns.Pairwise (· < ·)) (hm:∀k,k∈ns↔k∈g∧k∈r):ns=Kx g r:=
 Fe hp (hg.1.sublist List.filter_sublist) fun k=>by rw[hm k];unfold Kx;rw[List.mem_filter,decide_eq_true_eq]
theorem OP {g r ns:List Int} (hg:Wr g) (hp:ns.Pairwise (· < ·)) (hm:∀k,k∈ns↔k∈g∧k∉r):ns=Ef g r:=
 Fe hp (hg.1.sublist List.filter_sublist) fun k=>by rw[hm k];unfold Ef;rw[List.mem_filter,Bool.not_eq_true',decide_eq_false_iff_not]
theorem IB (xs row:List Int):Ef xs row=[]↔(xs.all fun k=>decide (k∈row))=true:=by
 unfold Ef
 rw[List.filter_eq_nil_iff,List.all_eq_true]
 exact⟨fun h k hk=>by have:=h k hk;simpa using this,fun h k hk=>by have:=h k hk;simpa using this⟩
theorem Qf (seen row:List Int):Bj seen row="grant"∨Bj seen row="deny"∨Bj seen row="doubt":=by
 unfold Bj
 split
 ·exact .inl rfl
 ·split
  ·exact .inr (.inr rfl)
  ·exact .inr (.inl rfl)
theorem Oh (z:Str) (g r:List Int):(Ea z g r).length≤g.length:=by
 have h1:=P5 g r
 have h2:=Od g r
 unfold Ea
 split
 ·omega
 ·split<;>omega
theorem Fo {sides:List (List Int)} {going seen row:List Int} (n0:¬Ef going row=[]) (n1:¬Kx going row=[]):Cp sides going seen row=match MH sides going seen row with | none=>Bj seen row | some _=>"doubt":=by
 unfold Cp MH Ea
 rw[if_neg n0,if_neg n1]
 rcases Qf seen row with e | e | e
 ·rw[e,if_neg (show ¬("grant":Str)="doubt" by decide),if_pos (show ("grant":Str)="grant" from rfl)]
  cases hs:A6 sides (Kx going row) with
  | true=>
   rw[miss_none.mpr hs,if_neg (by rintro⟨_,z⟩;cases z),if_neg (by rintro⟨z,_⟩;exact absurd z (by decide))]
  | false=>
   rw[if_pos ⟨rfl,rfl⟩]
   cases hm:Eb sides (Kx going row) with
   | none=>rw[miss_none.mp hm] at hs;cases hs
   | some i=>rfl
 ·rw[e,if_neg (show ¬("deny":Str)="doubt" by decide),if_neg (show ¬("deny":Str)="grant" by decide),if_pos (show ("deny":Str)="deny" from rfl)]
  cases hs:A6 sides (Ef going row) with
  | true=>
   rw[miss_none.mpr hs,if_neg (by rintro⟨z,_⟩;exact absurd z (by decide)),if_neg (by rintro⟨_,z⟩;cases z)]
  | false=>
   rw[if_neg (by rintro⟨z,_⟩;exact absurd z (by decide)),if_pos ⟨rfl,rfl⟩]
   cases hm:Eb sides (Ef going row) with
   | none=>rw[miss_none.mp hm] at hs;cases hs
   | some i=>rfl
 ·rw[e,if_neg (by rintro⟨z,_⟩;exact absurd z (by decide)),if_neg (by rintro⟨z,_⟩;exact absurd z (by decide)),if_pos rfl]
section
theorem NI:Ap ["word","row","worlds"] ["word","row","worlds"] (Af Dy):=BC
theorem LV {g g2:Addr} {gd gd2:FuncData} (F:Fun K "left_by" "left_by" Dy f fd) (T:ID mg) (GB:FnOk P w K mg bz AO 1 g gd ["one","other"] (JY K)) (CB:AL K mg "in_both" g gd ["one","other"])
  (GF:FnOk P w K mg bz AO 1 g2 gd2 ["one","other"] (E5 K)) (CF:AL K mg "in_first_only" g2 gd2 ["one","other"]):FnOk P w K mg bz AO 2 f fd ["word","row","worlds"] (JE K):=by
 refine F.ok NI (fun vs H Q E h=>?_) (fun cdv A outer s H vs Q E hr h=>?_)
 ·obtain⟨z,g,r,going,row,rfl,_⟩:=h
  rfl
 obtain⟨z,gg,r,going,row,rfl,hG,wG,hS,hl,q⟩:=h
 have l1:=wG.len
 refine⟨_,Ad (AE (Am AS (pv 0) Ar (As _))
   (Ae (Aj (Ai GB hr (by rfl) CB.m CB.k CB.b .nil Au (Aa (pv 1) (Aa (pv 2) Ab)))))
   An)
  (Ad (AE (Am AS (pv 0) Ar (As _))
   (Ae (Aj (Ai GF hr (by rfl) CF.m CF.k CF.b .nil Au (Aa (pv 1) (Aa (pv 2) Ab)))))
   An)
  (Ae (Aj (Bi BL (by rfl) T.lst BT (Aa (pv 1) Ab))))),?_⟩
 unfold Ea at q
 refine⟨_,rfl,rfl,_,rfl,?_⟩
 by_cases h0:z="grant"
 ·refine Bp (by rw[h0]) ?_
  refine⟨_,rfl,_,rfl,gg,r,going,row,rfl,hG,hS,by omega,by omega,fun l H' ns s1 hl0 hp hm hr1=>?_⟩
  have:=Pk wG hp hm
  subst this
  have q1:=q l H' s1 hl0
  rw[if_pos h0] at q1
  exact q1 hr1
 refine Bk (fun e=>h0 (by injection e)) ?_
 refine⟨_,rfl,rfl,_,rfl,?_⟩
 by_cases h1:z="deny"
 ·refine Bp (by rw[h1]) ?_
  refine⟨_,rfl,_,rfl,gg,r,going,row,rfl,hG,hS,l1,wG.2,by omega,fun l H' ns s1 hl0 hp hm hr1=>?_⟩
  have:=OP wG hp hm
  subst this
  have q1:=q l H' s1 hl0
  rw[if_neg h0,if_pos h1] at q1
  exact q1 hr1
 refine Bk (fun e=>h1 (by injection e)) ?_
 refine⟨_,rfl,gg,_,rfl,.inl hG,fun l hl0=>?_⟩
 have q1:=q l _ (Ag hl0 (.lst (going.map V.int))) hl0
 rw[if_neg h0,if_neg h1] at q1
 exact q1 Ac
theorem scBarring:Ap ["sides","going","seen","worlds","word"] ["sides","going","seen","worlds"] (Af B7):=BC
theorem JU {g3 g4 g5:Addr} {d3 d4 d5:FuncData} (F:Fun K "barring_side" "barring_side" B7 f fd)
  (GP:FnOk P w K mg bz AO 3 g3 d3 ["seen","worlds"] (FQ K)) (CP:AL K mg "plain" g3 d3 ["seen","worlds"])
  (GL:FnOk P w K mg bz AO 2 g4 d4 ["word","row","worlds"] (JE K)) (CL:AL K mg "left_by" g4 d4 ["word","row","worlds"])
  (GT:FnOk P w K mg bz AO 3 g5 d5 ["sides","worlds"] (Ig K)) (CT:AL K mg "missed_side" g5 d5 ["sides","worlds"]):FnOk P w K mg bz AO 4 f fd ["sides","going","seen","worlds"] (Hf K):=by
 refine F.ok scBarring (fun vs H Q E h=>?_) (fun cdv A outer s H vs Q E hr h=>?_)
 ·obtain⟨sd,g,s,r,xs,sides,going,seen,row,rfl,_⟩:=h
  rfl
 obtain⟨sd,gg,sn,r,xs,sides,going,seen,row,rfl,hX,hR,wX,hxl,hG,wG,hN,wN,nne,hS,wS,q⟩:=h
 have hr2:Room 2 _:=hr.mono (by decide)
 have l1:=wG.len
 have l3:=wS.len
 refine⟨_,Ad (Ak (i:=4) scBarring.nd rfl (Or.inl rfl) (Ai GP hr (by rfl) CP.m CP.k CP.b .nil Au (Aa (pv 2) (Aa (pv 3) Ab))))
  (Ad (AE (Am AS (pv 4) Ar (As _))
   (Ae (Aj HQ))
   An)
  (Ae (Aj (Ai GT hr (by rfl) CT.m CT.k CT.b .nil Au (Aa (pv 0) (Aa (Ai GL hr2 (by rfl) CL.m CL.k CL.b .nil Au (Aa (pv 4) (Aa (pv 1) (Aa (pv 3) Ab)))) Ab)))))),?_⟩
 unfold MH at q
 refine⟨_,rfl,_,rfl,sn,r,seen,row,rfl,hN,wN,nne,hS,wS,fun H3 s3=>?_⟩
 refine⟨_,rfl,rfl,_,rfl,?_⟩
 by_cases e:Bj seen row="doubt"
 ·refine Bp (by rw[e]) ?_
  have q3:=q _ s3
  rw[if_pos e] at q3
  exact q3
 refine Bk (fun z=>e (by injection z)) ?_
 refine⟨_,rfl,_,rfl,_,rfl,_,rfl,Bj seen row,gg,r,going,row,rfl,s3.seq hG,wG,s3.seq hS,by omega,fun l H4 s4 hl0 hl4=>?_⟩
 have s14:=s3.trans s4
 have hll:(Ea (Bj seen row) going row).length≤900:=by
  have:=Oh (Bj seen row) going row
  omega
 refine⟨sd,l,_,xs,sides,rfl,SqL.of hl4,hll,s14 _ _ hX,hR.keep s14,fun s hs=>Nat.lt_of_le_of_lt (wX s hs).len (by decide),by omega,fun H5 s5=>?_⟩
 have q5:=q _ (s14.trans s5)
 rw[if_neg e] at q5
 exact q5
theorem NA:Ap ["sides","going","seen","worlds"] ["sides","going","seen","worlds"] (Af Dq):=BC
theorem Ll {g1 g2 g3 g5:Addr} {d1 d2 d3 d5:FuncData} (F:Fun K "answer" "answer" Dq f fd) (GA:FnOk P w K mg bz AO 2 g1 d1 ["one","other"] (Ht K)) (CA:AL K mg "all_within" g1 d1 ["one","other"])
  (GS:FnOk P w K mg bz AO 2 g2 d2 ["one","other"] (Fd K)) (CS:AL K mg "some_within" g2 d2 ["one","other"])
  (GP:FnOk P w K mg bz AO 3 g3 d3 ["seen","worlds"] (FQ K)) (CP:AL K mg "plain" g3 d3 ["seen","worlds"])
  (GT:FnOk P w K mg bz AO 4 g5 d5 ["sides","going","seen","worlds"] (Hf K)) (CT:AL K mg "barring_side" g5 d5 ["sides","going","seen","worlds"]):FnOk P w K mg bz AO 5 f fd ["sides","going","seen","worlds"] (Ha K):=by
 refine F.ok NA (fun vs H Q E h=>?_) (fun cdv A outer s H vs Q E hr h=>?_)
 ·obtain⟨sd,g,s,r,xs,sides,going,seen,row,rfl,_⟩:=h
  rfl
 obtain⟨sd,gg,sn,r,xs,sides,going,seen,row,rfl,hX,hR,wX,hxl,hG,wG,hN,wN,nne,hS,wS,q⟩:=h
 have hr2:Room 2 _:=hr.mono (by decide)
 have hr3:Room 3 _:=hr.mono (by decide)
 have l1:=wG.len
 have l2:=wN.len
 have l3:=wS.len
 refine⟨_,Ad (AE (A1 (Ai GA hr2 (by rfl) CA.m CA.k CA.b .nil Au (Aa (pv 1) (Aa (pv 3) Ab))))
   (Ae (Aj Ar))
   An)
  (Ad (AE (BJ (A1 (Ai GS hr2 (by rfl) CS.m CS.k CS.b .nil Au (Aa (pv 1) (Aa (pv 3) Ab)))))
   (Ae (Aj Ar))
   An)
  (Ad (AE (HH (HK (Ai GT hr (by rfl) CT.m CT.k CT.b .nil Au (Aa (pv 0) (Aa (pv 1) (Aa (pv 2) (Aa (pv 3) Ab)))))))
   (Ae (Aj (Ai GP hr3 (by rfl) CP.m CP.k CP.b .nil Au (Aa (pv 2) (Aa (pv 3) Ab)))))
   An)
  (Ae (Aj Ar)))),?_⟩
 refine⟨_,rfl,_,rfl,gg,r,going,row,rfl,hG,hS,l1,wG.2,by omega,fun H1 s1=>⟨_,rfl,?_⟩⟩
 cases h0:going.all fun k=>decide (k∈row) with
 | true=>
  refine Bx ?_
  have:=q _ s1
  unfold Cp at this
  rw[if_pos ((IB _ _).mpr h0)] at this
  exact this
 | false=>
  refine A0 ?_
  have n0:¬Ef going row=[]:=fun z=>by rw[(IB _ _).mp z] at h0;cases h0
  refine⟨_,rfl,_,rfl,gg,r,going,row,rfl,s1.seq hG,s1.seq hS,by omega,by omega,fun H2 s2=>⟨_,rfl,?_⟩⟩
  have s12:=s1.trans s2
  cases h1:going.any fun k=>decide (k∈row) with
  | false=>
   refine Bx ?_
   have:=q _ s12
   unfold Cp at this
   rw[if_neg n0,if_pos ((KO _ _).mpr h1)] at this
   exact this
  | true=>
   refine A0 ?_
   have n1:¬Kx going row=[]:=fun z=>by rw[(KO _ _).mp z] at h1;cases h1
   refine⟨_,rfl,_,rfl,_,rfl,_,rfl,sd,gg,sn,r,xs,sides,going,seen,row,rfl,s12 _ _ hX,hR.keep s12,wX,hxl,s12.seq hG,wG,s12.seq hN,wN,nne,s12.seq hS,wS,fun H3 s3=>⟨_,rfl,?_⟩⟩
   have s13:=s12.trans s3
   cases hb:MH sides going seen row with
   | none=>
    refine Bp rfl ?_
    refine⟨_,rfl,_,rfl,sn,r,seen,row,rfl,s13.seq hN,wN,nne,s13.seq hS,wS,fun H4 s4=>?_⟩
    have q5:=q _ (s13.trans s4)
    rw[Fo n0 n1,hb] at q5
    exact q5
   | some i=>
    refine Bk (fun z=>V.noConfusion z) ?_
    have q5:=q _ s13
    rw[Fo n0 n1,hb] at q5
    exact q5
end
def Bn:Option Bool→V
 | none=>.non
 | some b=>.bl b
def Kj (w:Int) (i:Nat):Option Bool→Bool
 | none=>true
 | some b=>decide (b=De i w)
def Db (marks:List (Option Bool)) (w:Int):Bool:=(marks.mapIdx (Kj w)).all id
theorem Jc {marks:List (Option Bool)} {i:Nat} {m:Option Bool} (w:Int) (h:marks[i]? = some m):(marks.take (i+1)).mapIdx (Kj w)=(marks.take i).mapIdx (Kj w)++[Kj w i m]:=by
 have hi:=(List.getElem?_eq_some_iff.mp h).1
 have e:marks.take (i+1)=marks.take i++[m]:=by rw[List.take_add_one,h];rfl
 rw[e,List.mapIdx_concat,List.length_take,Nat.min_eq_left (by omega)]
abbrev DL:Stmt:=BD 26
abbrev DK:Stmt:=BD 27
def Il:Sp:=fun vs H Q _=>∃(wd:Int) (m:Addr) (marks:List (Option Bool)),vs=[.int wd,.ref m]∧H m=some (.lst (marks.map Bn))∧marks.length≤5∧∀(H':Hp),Same H H'→Q (.bl (Db marks wd)) H'
def Ji (K:PySem.W.Frag):Sp:=fun vs H Q _=>∃(r m:Addr) (row:List Int) (marks:List (Option Bool)),vs=[.ref r,.ref m]∧SqL K H r (row.map V.int)∧row.length≤900∧H m=some (.lst (marks.map Bn))∧marks.length≤5∧
 ∀(l:Addr) (H':Hp),Same H H'→H l=none→AW H' l (row.filter (Db marks))→Q (.ref l) H'
theorem II {tb:L2.TS} {D:BV} {σ:L2.St} {H:Hp} (h:tb D σ H):Cs K9 tb D σ H:=by
 show if true=true then tb D σ H else D.nx σ H
 rw[if_pos rfl]
 exact h
section
theorem Nr:Ap ["world","marks"] ["world","marks"] (Af DL):=BC
theorem Lm {g:Addr} {gd:FuncData} (F:Fun K "agrees" "agrees" DL f fd) (T:ID mg) (HE:mg "enumerate"=none) (GH:FnOk P w K mg bz AO 1 g gd ["letter","world"] HB) (CH:AL K mg "letter_holds" g gd ["letter","world"]):FnOk P w K mg bz AO 2 f fd ["world","marks"] Il:=by
 refine F.ok Nr (fun vs H Q E h=>?_) (fun cdv A outer s H vs Q E hr h=>?_)
 ·obtain⟨wd,m,marks,rfl,_⟩:=h
  rfl
 obtain⟨wd,m,marks,rfl,hm,hl,q⟩:=h
 refine⟨_,Ae (Aj (Av (Et rfl) (by rfl) T.all boot_all (Aa (Bf (N:=["letter","mark","world"]) (js:=[none,none,some 0]) (cl:=[("world",s.heap.objs.size+1)]) ⟨rfl,rfl,rfl,(by intro p hp;simp at hp;rcases hp with rfl<;>rfl),rfl,rfl,rfl⟩ (IR (by rfl) HE (Aa (pv 1) Ab)) (fun c1=>(Er rfl (Bc (Ax (i:=0) (show (["letter","mark","world"]:List Str).Nodup by decide +kernel) rfl (Or.inl rfl)) (Bc (Ax (i:=1) (show (["letter","mark","world"]:List Str).Nodup by decide +kernel) rfl (Or.inl rfl)) DH)))) (fun c1=>Bm) (fun c1=>(Gw (L9 (HK (pv 1))) (Cm (Br AS (pv 1) (Ai GH hr (by rfl) CH.m CH.k CH.b .nil Au (Aa (pv 0) (Aa (pv 2) Ab))) (As _)))))) Ab))),?_⟩
 refine⟨_,rfl,m,_,rfl,hm,fun cc acc hacc=>Ga (a:=m) (xs:=marks.map Bn) (fun i σ H3=>∃(v0 v1:Option V),σ=[v0,v1,some (.int wd)]∧Same H H3∧H3 acc=some (.lst (((marks.take i).mapIdx (Kj wd)).map V.bl))) ?_ ?_ ?_ ?_⟩
 ·exact⟨_,_,rfl,Ag hacc _,Ac⟩
 ·rintro i σ H3 _ ⟨v0,v1,rfl,s3,h3⟩
  exact s3 _ _ hm
 ·rintro i y T2 σ H3 hy hT2 ⟨v0,v1,rfl,s3,h3⟩
  rw[List.getElem?_map] at hy
  obtain⟨mk,hk,rfl⟩:=Option.map_eq_some_iff.mp hy
  have hi:=(List.getElem?_eq_some_iff.mp hk).1
  have sT:=Ag hT2 (.tup [.int (i:Nat),Bn mk])
  have h4:=sT _ _ h3
  have s4:=s3.trans sT
  refine⟨T2,_,rfl,SqT.of Ac,rfl,_,_,rfl,_,_,rfl,rfl,?_⟩
  show Cs K9 (BZ acc _) _ _ _
  refine II ?_
  have fin:∀H5,Same (AA H3 T2 (.tup [.int (i:Nat),Bn mk])) H5→∃xs,H5 acc=some (.lst xs)∧xs.length<sizeLine∧(fun σ H3=>∃(v0 v1:Option V),σ=[v0,v1,some (.int wd)]∧Same H H3∧H3 acc=some (.lst (((marks.take (i+1)).mapIdx (Kj wd)).map V.bl))) [some (.int (i:Nat)),some (Bn mk),some (.int wd)] (AA H5 acc (.lst (xs++[.bl (Kj wd i mk)]))):=fun H5 s5=>by
   refine⟨_,s5 _ _ h4,AJ ?_,_,_,rfl,AD (s4.trans s5) hacc _,?_⟩
   ·rw[List.length_map,List.length_mapIdx,List.length_take];omega
   ·rw[Ac,Jc wd hk,List.map_append];rfl
  cases mk with
  | none=>
   refine⟨_,rfl,_,rfl,Bx ?_⟩
   exact fin _ (Same.refl _)
  | some b=>
   refine⟨_,rfl,_,rfl,A0 ?_⟩
   refine⟨_,rfl,_,rfl,_,rfl,i,wd,rfl,rfl,?_⟩
   have e:decide (Bn (some b)=V.bl (De i wd))=Kj wd i (some b):=KY b (De i wd)
   rw[e]
   exact fin _ (Same.refl _)
 ·rintro σ H3 ⟨v0,v1,rfl,s3,h3⟩
  rw[List.length_map,List.take_length] at h3
  exact⟨acc,_,rfl,SqL.of h3,q _ s3⟩
theorem MP:Ap ["room","marks"] ["room","marks"] (Af DK):=BC
theorem LF {g:Addr} {gd:FuncData} (F:Fun K "seen_by" "seen_by" DK f fd) (GA:FnOk P w K mg bz AO 2 g gd ["world","marks"] Il) (CA:AL K mg "agrees" g gd ["world","marks"]):FnOk P w K mg bz AO 3 f fd ["room","marks"] (Ji K):=by
 refine F.ok MP (fun vs H Q E h=>?_) (fun cdv A outer s H vs Q E hr h=>?_)
 ·obtain⟨r,m,row,marks,rfl,_⟩:=h
  rfl
 obtain⟨r,m,row,marks,rfl,hS,hl,hm,hml,q⟩:=h
 refine⟨_,Ae (Aj (Bf (N:=["world","marks"]) (js:=[none,some 1]) (cl:=[("marks",s.heap.objs.size+1)]) ⟨rfl,rfl,rfl,(by intro p hp;simp at hp;rcases hp with rfl<;>rfl),rfl,rfl,rfl⟩ (AK (pv 0)) (fun c1=>(Ax (i:=0) (show (["world","marks"]:List Str).Nodup by decide +kernel) rfl (Or.inl rfl))) (fun c1=>(Dt (A1 (Ai GA hr (by rfl) CA.m CA.k CA.b .nil Au (Aa (pv 0) (Aa (pv 1) Ab)))))) (fun c1=>(pv 0)))),?_⟩
 refine⟨_,rfl,r,rfl,⟨_,hS⟩,fun cc acc hacc=>BE (p:=Db marks) (rest:=[some (.ref m)]) hS hacc hl (fun k hk H2 s2 R hR=>?_) (fun v0 H2 s2 h2=>q acc H2 s2 hacc h2) none⟩
 exact⟨_,rfl,_,rfl,k,m,marks,rfl,s2 _ _ hm,hml,fun H3 s3=>⟨_,rfl,hR H3 s3⟩⟩
end
abbrev Dx:Stmt:=BD 23
section
theorem Mk:Ap ["sides"] ["sides"] (Af Dx):=BC
theorem Lb {g:Addr} {gd:FuncData} (F:Fun K "base_of" "base_of" Dx f fd) (GA:FnOk P w K mg bz AO 1 g gd ["rows"] (Kp K)) (CA:AL K mg "in_any" g gd ["rows"]):FnOk P w K mg bz AO 2 f fd ["sides"] (Kp K):=by
 refine F.ok Mk (fun vs H Q E h=>?_) (fun cdv A outer s H vs Q E hr h=>?_)
 ·obtain⟨a,xs,rs,rfl,_⟩:=h
  rfl
 obtain⟨a,xs,rs,rfl,hS,hR,h64,q⟩:=h
 refine⟨_,Ae (Aj (Ai GA hr (by rfl) CA.m CA.k CA.b .nil Au (Aa (pv 0) Ab))),?_⟩
 exact⟨_,rfl,a,xs,rs,rfl,hS,hR,h64,q⟩
end
theorem JB {z:Str} {t:Tr} {row:List Int}:DP (AI z t row)≤row.length:=by
 have h:=IM t row
 unfold AI DP
 split
 ·simp only[List.map_cons,List.map_nil,List.sum_cons,List.sum_nil];omega
 ·split
  ·simp only[List.map_cons,List.map_nil,List.sum_cons,List.sum_nil];omega
  ·simp only[List.map_cons,List.map_nil,List.sum_cons,List.sum_nil];omega
theorem NF {room ns:List Int} {sides:List (List Int)} (hr:Wr room) (hs:∀s∈sides,s.Sublist room) (hp:ns.Pairwise (· < ·)) (hm:∀k,k∈ns↔∃row∈sides,k∈row):ns=Bg room sides:=
 Fe hp (hr.1.sublist List.filter_sublist) fun k=>by
  rw[hm k]
  unfold Bg
  rw[List.mem_filter,List.any_eq_true]
  constructor
  ·rintro⟨r,h1,h2⟩
   exact⟨(hs r h1).subset h2,r,h1,decide_eq_true h2⟩
  ·rintro⟨_,r,h1,h2⟩
   exact⟨r,h1,of_decide_eq_true h2⟩
structure JH (K:PySem.W.Frag) (mg:Str→Option Value) (nm:Str) (C cT:Addr):Prop where
 at_:XAt K C cT
 cls:PU K C cT none
 m:mg nm=some (.ref C)
 ty:typeIn K (.ref C)=some (.type "type")
 ic:(clsIn K C).isSome=true
 bs:mroIn K C (.type "BaseException")=some true
 slf:mroIn K C (.ref C)=some true
 up:mroIn K C (.ref cT)=some true
 kv:PySem.W.kitOne K (.ref C) (.type "ValueError")=some true
structure Ra (K:PySem.W.Frag) (mg:Str→Option Value) (cT:Addr):Prop where
 m:mg "TalkError"=some (.ref cT)
 ty:typeIn K (.ref cT)=some (.type "type")
 ic:(clsIn K cT).isSome=true
 bs:mroIn K cT (.type "BaseException")=some true
 mV:mg "ValueError"=none
 isi:mg "isinstance"=none
structure Qj (K:PySem.W.Frag) (C D:Addr):Prop where
 mro:mroIn K C (.ref D)=some false
 kit:PySem.W.kitOne K (.ref C) (.ref D)=some false
theorem Fq {K:PySem.W.Frag} {C cT N NT:Addr} {nm q nm2 q2:Str} {bs bs2:List Value} {hd2:Bool} {sn sn2:List Str} {sub sub2:List Value} {ab ab2:Bool} {col col2:Option Bool} {dd dd2:Option Addr} {k0 k1 k2 k3 k5:Option Value} {j0 j1 j2 j3 j4 j5:Option Value}
  {oc oc2:Value} {od od2:Option Addr} {es es2:Array DictEntry} {ep ep2:Nat} {sl sl2:Array (Option Value)}
  (lC:K.lookup C=some (excClassObj nm q C N bs (.ref cT::FW) true sn sub ab col dd k0 k1 k2 k3 k5 "ValueError.__new__")) (lN:K.lookup N=some ⟨oc,od,.dict es ep,sl⟩) (sN:(es.all fun e=>match e.key with | .str _ _=>true | _=>false)=true)
  (iN:nsIn K N "__init__"=some none) (lT:K.lookup cT=some ⟨.type "type",dd2,.cls { name:=nm2,bases:=bs2,mro:=.ref cT::FW,ns:=NT,qualname:=q2,hasDict:=hd2,slotNames:=sn2,subclasses:=sub2,abstract:=ab2,collection:=col2,hasDel:=false },#[j0,j1,j2,j3,j4,j5]⟩)
  (lNT:K.lookup NT=some ⟨oc2,od2,.dict es2 ep2,sl2⟩) (sNT:(es2.all fun e=>match e.key with | .str _ _=>true | _=>false)=true) (iNT:nsIn K NT "__init__"=some none) (kp:keepIn K (.ref C)=true):PU K C cT none:=
 ⟨⟨nm,q,N,bs,true,sn,sub,ab,col,dd,k0,k1,k2,k3,k5,lC,KZ lN sN,iN⟩,ML lT (KZ lNT sNT) iNT,kp⟩
theorem Fun.okX {P:Program} {w:World} {K:PySem.W.Frag} {mg:Str→Option Value} {bz:Heap} {f:Addr} {fd:FuncData} {x qual:Str} {st:Stmt} {N ps:List Str} {k:Nat} {sp:Sp} (F:Fun K x qual st f fd) (S:Ap N ps (Af st)) (len:∀vs H Q E,sp vs H Q E→vs.length=ps.length)
  (hbody:∀(cdv:Value) (A:Around) (outer:List Env) (s:Shared) (H:Hp) (vs:List V) (Q:VK) (E:XK),Room k (A.deeper (envOfC qual (Af st) s.heap.objs.size f cdv))→sp vs H Q E→
   ∃t,PSs (Hs (Jl P w) P w K mg bz N qual (Af st) f cdv A outer s H E) (Al st) t∧t { nx:=fun _ H'=>Q .non H',rt:=Q } (D9 N vs) H):FnOk P w K mg bz (Jl P w) (k+1) f fd ps sp:=by
 obtain⟨oc,od,kV,doc,pm,an,cdv,ct,osl,rfl,lk,hcd⟩:=F.ex
 exact O9 lk hcd S len fun A outer s H vs Q E hr hsp=>hbody cdv A outer s H vs Q E hr hsp
abbrev B4:Stmt:=BD 22
def BI (z:Str):Prop:=z="true"∨z="false"∨z="doubt"
instance (z:Str):Decidable (BI z):=by unfold BI;infer_instance
abbrev RowsNew (H H':Hp):List V→List (List Int)→Prop:=Paired fun (v:V) (row:List Int)=>∃p,v= .ref p∧H p=none∧AW H' p row
theorem RowsNew.at {H H':Hp}:∀{xs:List V} {rs:List (List Int)},RowsNew H H' xs rs→RowsAt H' xs rs
 | _,_,.nil=>.nil
 | _,_,.cons ⟨p,e,_,h⟩ q=>.cons ⟨p,e,h⟩ (RowsNew.at q)
theorem RowsNew.keep {H H' H2:Hp} (s:Same H' H2):∀{xs:List V} {rs:List (List Int)},RowsNew H H' xs rs→RowsNew H H2 xs rs
 | _,_,.nil=>.nil
 | _,_,.cons ⟨p,e,n,h⟩ q=>.cons ⟨p,e,n,s _ _ h⟩ (RowsNew.keep s q)
def Hh (K:PySem.W.Frag) (cB cN:Addr):Sp:=fun vs H Q E=>∃(r:Addr) (z:Str) (v:V) (t:Tr) (row:List Int),vs=[.ref r,.str z,v]∧t.At H v∧t.ok 5∧t.size≤800∧SqL K H r (row.map V.int)∧Wr row∧
 (¬BI z→∀H',Same H H'→E (.ref cB) none H')∧(BI z→[]∈AI z t row→∀H',Same H H'→E (.ref cN) none H')∧
 (BI z→[]∉AI z t row→∀(l:Addr) (xs:List V) (H':Hp),Same H H'→H l=none→H' l=some (.lst xs)→RowsNew H H' xs (AI z t row)→(∀x∈xs,x≠.ref l)→Q (.ref l) H')
def Fm:List V:=[.str "true",.str "false",.str "doubt"]
theorem LX (z:Str):O7 (.str z) Fm=decide (BI z):=by
 unfold O7 Fm BI
 simp only[List.any_cons,List.any_nil,Bool.or_false]
 have e:∀y:Str,NQ (.str y) (.str z)=decide (z=y):=fun y=>by
  show (y == z)=decide (z=y)
  by_cases h:z=y
  ·subst h;simp
  ·rw[decide_eq_false h]
   exact beq_false_of_ne fun q=>h q.symm
 rw[e,e,e,Bool.eq_iff_iff]
 simp only[Bool.or_eq_true,decide_eq_true_eq]
 exact decide_eq_true_iff.symm
theorem Oa {t:Tr} {row ns:List Int} (hr:Wr row) (hp:ns.Pairwise (· < ·)) (hm:∀k,k∈ns↔k∈row∧k∉row.filter fun k=>tv t k == true):ns=AT false t row:=
 Fe hp (hr.1.sublist List.filter_sublist) fun k=>by
  rw[hm k]
  unfold AT
  rw[List.mem_filter,List.mem_filter]
  constructor
  ·rintro⟨h1,h2⟩
   refine⟨h1,?_⟩
   cases h:tv t k with
   | false=>rfl
   | true=>exact absurd ⟨h1,by rw[h];rfl⟩ h2
  ·rintro⟨h1,h2⟩
   refine⟨h1,fun h3=>?_⟩
   have e1:=h3.2
   have e2:tv t k=false:=eq_of_beq h2
   rw[e2] at e1
   cases e1
theorem Jy {r:List Int}:(r.map V.int).isEmpty=r.isEmpty:=by cases r<;>rfl
theorem LW (rs:List (List Int)):(rs.map List.isEmpty).any id=decide ([]∈rs):=by
 induction rs with
 | nil=>rfl
 | cons r rs ih=>
  rw[List.map_cons,List.any_cons,ih]
  cases r with
  | nil=>simp
  | cons a b=>simp
theorem MW {K:PySem.W.Frag} {H:Hp} {xs:List V} {rs:List (List Int)} (h:RowsAt H xs rs):∀(i:Nat) v b,xs[i]? = some v→(rs.map List.isEmpty)[i]? = some b→∃a zs,v= .ref a∧SqL K H a zs∧b=zs.isEmpty:=fun i v b hv hb=>by
 obtain⟨row,p,hr,rfl,hp⟩:=h.get hv
 rw[List.getElem?_map,hr] at hb
 refine⟨p,_,rfl,SqL.of hp,?_⟩
 rw[Jy]
 exact (Option.some.inj hb).symm
section
variable {cB cN cT:Addr}
theorem scSidesOf:Ap ["room","kind","sentence","inside","outside","sides"] ["room","kind","sentence"] (Af B4):=BC
theorem JP {g g2:Addr} {gd gd2:FuncData} (F:Fun K "sides_of" "sides_of" B4 f fd) (XB:JH K mg "BadWord" cB cT) (XN:JH K mg "NoStanding" cN cT)
  (GW:FnOk P w K mg bz AO 3 g gd ["sentence","room"] (Df K)) (CW:AL K mg "worlds_of" g gd ["sentence","room"])
  (GF:FnOk P w K mg bz AO 1 g2 gd2 ["one","other"] (E5 K)) (CF:AL K mg "in_first_only" g2 gd2 ["one","other"]):FnOk P w K mg bz (Jl P w) 4 f fd ["room","kind","sentence"] (Hh K cB cN):=by
 refine Fun.okX F scSidesOf (fun vs H Q E h=>?_) (fun cdv A outer s H vs Q E hr h=>?_)
 ·obtain⟨r,z,v,t,row,rfl,_⟩:=h
  rfl
 obtain⟨r,z,v,t,row,rfl,ha,hok,hsz,hS,hwr,qB,qN,qO⟩:=h
 have hr1:Room 1 _:=hr.mono (by decide)
 have hl:=hwr.len
 refine⟨_,Ad (AE (Am Ee (pv 1) (Bs (Aa Ar (Aa Ar (Aa Ar Ab)))) (by with_unfolding_all rfl))
   (Ae (Dw (Ex:=E) D3 rfl XB.cls XB.at_ XB.ty (by rfl) XB.m (Aa Ar Ab) (hvl:=fun _ _ _ h=>⟨by decide,h⟩)))
   An)
  (Ad (Ak (i:=3) scSidesOf.nd rfl (Or.inl rfl) (Ai GW hr (by rfl) CW.m CW.k CW.b .nil Au (Aa (pv 2) (Aa (pv 0) Ab))))
  (Ad (Ak (i:=4) scSidesOf.nd rfl (Or.inl rfl) (Ai GF hr1 (by rfl) CF.m CF.k CF.b .nil Au (Aa (pv 0) (Aa (pv 3) Ab))))
  (Ad (AE (Am AS (pv 1) Ar (As _))
   (Ae (Ak (i:=5) scSidesOf.nd rfl (Or.inl rfl) (AF (Aa (pv 3) Ab))))
   (Ae (AE (Am AS (pv 1) Ar (As _))
    (Ae (Ak (i:=5) scSidesOf.nd rfl (Or.inl rfl) (AF (Aa (pv 4) Ab))))
    (Ae (Ak (i:=5) scSidesOf.nd rfl (Or.inl rfl) (AF (Aa (pv 3) (Aa (pv 4) Ab))))))))
  (Ad (AE (Am (Ps hr.units9) (AF Ab) (pv 5) (by with_unfolding_all rfl))
   (Ae (Dw (Ex:=E) D3 rfl XN.cls XN.at_ XN.ty (by rfl) XN.m (Aa Ar Ab) (hvl:=fun _ _ _ h=>⟨by decide,h⟩)))
   An)
  (Ae (Aj (pv 5))))))),?_⟩
 refine⟨_,rfl,N6,fun kt hkt=>?_⟩
 have s1:=Ag hkt (.tup Fm)
 refine⟨kt,Fm,rfl,.inr (SqT.of Ac),rfl,rfl,_,rfl,?_⟩
 show if (!O7 (.str z) Fm)=true then _ else _
 rw[LX]
 by_cases hk:BI z
 rotate_left
 ·refine KL hk ?_
  exact qB hk _ s1
 refine Ek hk ?_
 have a1:=ha.keep (TS.same s1)
 refine⟨_,rfl,_,rfl,v,t,r,row,rfl,a1,hok,hsz,s1.seq hS,hwr,fun il H2 s2 hil0 hil=>?_⟩
 have t2:=s1.trans s2
 have hfl:(row.filter fun k=>tv t k == true).length≤32:=Nat.le_trans (List.length_filter_le _ _) hl
 refine⟨_,rfl,_,rfl,r,il,row,_,rfl,t2.seq hS,SqL.of hil,hl,hwr.2,by omega,fun ol H3 ns s3 hol0 hp hm hol=>?_⟩
 have en:=Oa hwr hp hm
 subst en
 have t3:=t2.trans s3
 have hil3:AW H3 il (AT true t row):=s3 _ _ hil
 have nil0:H il=none:=s1.free hil0
 have nol0:H ol=none:=t2.free hol0
 have nio:il≠ol:=Ay hil hol0
 have fin:∀(sl:Addr) (xs:List V) (H4:Hp),Same H3 H4→H3 sl=none→H4 sl=some (.lst xs)→RowsNew H H4 xs (AI z t row)→(∀x∈xs,x≠.ref sl)→∀(e:Addr),H4 e=none→∀(G:Bool→Hp→Prop),(∀H',E (.ref cN) none H'→G true H')→(∀H',Q (.ref sl) H'→G false H')→
   QP K (.ref e) (.ref sl) (AA H4 e (.lst [])) (fun x H'=>∃k,x=V.bl k∧G k H'):=fun sl xs H4 s4 hsl0 hsl hR hne e he G g1 g2=>by
  have s5:=Ag he (.lst [])
  refine⟨e,sl,xs,(AI z t row).map List.isEmpty,rfl,rfl,SqL.of Ac,SqL.of (s5 _ _ hsl),?_,MW (hR.at.keep s5),_,rfl,?_⟩
  ·rw[List.length_map];exact hR.at.len.symm
  ·rw[LW]
   by_cases hm0:[]∈AI z t row
   ·rw[decide_eq_true hm0]
    exact g1 _ (qN hk hm0 _ (t3.trans (s4.trans s5)))
   ·rw[decide_eq_false hm0]
    refine g2 _ ?_
    exact qO hk hm0 sl xs _ (t3.trans (s4.trans s5)) (t3.free hsl0) (s5 _ _ hsl) (hR.keep s5) hne
 refine⟨_,rfl,rfl,_,rfl,?_⟩
 by_cases h0:z="true"
 ·refine Bp (by rw[h0]) ?_
  refine⟨_,rfl,LE,fun sl hsl=>?_⟩
  have s4:=Ag hsl (.lst [.ref il])
  refine⟨Fi,fun e he=>?_⟩
  have eR:AI z t row=[AT true t row]:=by unfold AI;rw[if_pos h0]
  exact⟨_,rfl,fin sl [.ref il] _ s4 hsl Ac (by rw[eR];exact .cons ⟨il,rfl,nil0,s4 _ _ hil3⟩ .nil) (fun x hx=>by rw[List.mem_singleton.mp hx];intro q;exact Ay hil3 hsl (V.ref.inj q)) e he _ (fun H' h=>Bx h) (fun H' h=>A0 ⟨_,rfl,h⟩)⟩
 refine Bk (fun q=>h0 (by injection q)) ?_
 refine⟨_,rfl,rfl,_,rfl,?_⟩
 by_cases h1:z="false"
 ·refine Bp (by rw[h1]) ?_
  refine⟨_,rfl,LE,fun sl hsl=>?_⟩
  have s4:=Ag hsl (.lst [.ref ol])
  refine⟨Fi,fun e he=>?_⟩
  have eR:AI z t row=[AT false t row]:=by unfold AI;rw[if_neg h0,if_pos h1]
  exact⟨_,rfl,fin sl [.ref ol] _ s4 hsl Ac (by rw[eR];exact .cons ⟨ol,rfl,nol0,s4 _ _ hol⟩ .nil) (fun x hx=>by rw[List.mem_singleton.mp hx];intro q;exact Ay hol hsl (V.ref.inj q)) e he _ (fun H' h=>Bx h) (fun H' h=>A0 ⟨_,rfl,h⟩)⟩
 refine Bk (fun q=>h1 (by injection q)) ?_
 refine⟨_,rfl,_,rfl,Jd,fun sl hsl=>?_⟩
 have s4:=Ag hsl (.lst [.ref il,.ref ol])
 refine⟨Fi,fun e he=>?_⟩
 have eR:AI z t row=[AT true t row,AT false t row]:=by unfold AI;rw[if_neg h0,if_neg h1]
 refine⟨_,rfl,fin sl [.ref il,.ref ol] _ s4 hsl Ac (by rw[eR];exact .cons ⟨il,rfl,nil0,s4 _ _ hil3⟩ (.cons ⟨ol,rfl,nol0,s4 _ _ hol⟩ .nil)) (fun x hx=>by
  rcases List.mem_cons.mp hx with q | q
  ·rw[q];intro q;exact Ay hil3 hsl (V.ref.inj q)
  ·rw[List.mem_singleton.mp q];intro q;exact Ay hol hsl (V.ref.inj q)) e he _ (fun H' h=>Bx h) (fun H' h=>A0 ⟨_,rfl,h⟩)⟩
end
abbrev B9:Stmt:=BD 13
def B0:Tr→List Int
 | .lt k=>[(k:Int)]
 | .nt t=>B0 t
 | .bn _ a b=>B0 a++B0 b
def BY (ts:List Tr):List Int:=ts.flatMap B0
def Oe:Tr→List Int
 | .lt k=>[(k:Int)]
 | _=>[]
def FE (ts:List Tr):List Int:=ts.flatMap Oe
theorem NG:∀t:Tr,B0 t=Oe t++BY (Js t)
 | .lt _=>rfl
 | .nt t=>by show B0 t=[]++(B0 t++[]);simp
 | .bn _ a b=>by show B0 a++B0 b=[]++(B0 a++(B0 b++[]));simp
theorem Lz (a b:List Tr):BY (a++b)=BY a++BY b:=by unfold BY;rw[List.flatMap_append]
theorem Lk (ts:List Tr) (k:Int):k∈BY ts↔k∈FE ts∨k∈BY (BF ts):=by
 induction ts with
 | nil=>simp[BY,FE,BF]
 | cons t r ih=>
  have e1:BY (t::r)=B0 t++BY r:=rfl
  have e2:FE (t::r)=Oe t++FE r:=rfl
  have e3:BF (t::r)=Js t++BF r:=rfl
  rw[e1,e2,e3,Lz,NG]
  simp only[List.mem_append,ih]
  constructor
  ·rintro ((h | h) | (h | h))
   ·exact .inl (.inl h)
   ·exact .inr (.inl h)
   ·exact .inl (.inr h)
   ·exact .inr (.inr h)
  ·rintro ((h | h) | (h | h))
   ·exact .inl (.inl h)
   ·exact .inr (.inl h)
   ·exact .inl (.inr h)
   ·exact .inr (.inr h)
theorem ET {ts:List Tr} {i:Nat} {t:Tr} (h:ts[i]? = some t):FE (ts.take (i+1))=FE (ts.take i)++Oe t:=by
 unfold FE
 rw[List.take_add_one,h,List.flatMap_append]
 simp
theorem TS.ext {H:Hp} {l:Addr} {o u:HO} (h:H l=some o) (n:∀xs,o≠.tup xs):TS H (AA H l u):=fun p ys e=>by
 rw[Az (DT e h fun z=>n ys z.symm)]
 exact e
def Hm:Sp:=fun vs H Q _=>∃(v:V) (t:Tr),vs=[v]∧t.At H v∧t.size≤60∧∀(l:Addr) (ns:List Int) (H':Hp),Same H H'→H l=none→H' l=some (.lst (ns.map V.int))→ns.Pairwise (· < ·)→(∀k,k∈ns↔k∈B0 t)→Q (.ref l) H'
section
theorem scLetters:Ap ["sentence","found","layer","part"] ["sentence"] (Af B9):=BC
def RP (w:World) (H:Hp) (v:V) (t:Tr) (fa:Addr) (m:Nat):L2.St→Hp→Prop:=fun σ H3=>∃(S:Int→Bool) (n:Nat) (r:Addr) (ys:List V) (ts:List Tr) (pp:Option V),σ=[some v,some (.ref fa),some (.ref r),pp]∧Same H H3∧H3 fa=some (Be w fa S n)∧H3 r=some (.lst ys)∧Pile H3 ys ts∧n+sz ts≤60∧(∀k,k∈B0 t↔S k=true∨k∈BY ts)∧sz ts=m
theorem JV {g:Addr} {gd:FuncData} (F:Fun K "letters" "letters" B9 f fd) (T:ID mg) (GP:FnOk P w K mg bz AO 1 g gd ["layer"] (HZ K)) (CP:AL K mg "parts_of" g gd ["layer"]):FnOk P w K mg bz AO 2 f fd ["sentence"] Hm:=by
 refine F.ok scLetters (fun vs H Q E h=>?_) (fun cdv A outer s H vs Q E hr h=>?_)
 ·obtain⟨v,t,rfl,_⟩:=h
  rfl
 obtain⟨v,t,rfl,ha,hs,q⟩:=h
 refine⟨_,Ad (Ak (i:=1) scLetters.nd rfl (Or.inl rfl) (J9 LU (by rfl) T.set boot_set))
  (Ad (Ak (i:=2) scLetters.nd rfl (Or.inl rfl) (AF (Aa (pv 0) Ab)))
  (Ad (FK PassesOwn.never (FN (pv 2) (fun _=>rfl))
   (Ad (Ba PassesOwn.never rfl (AK (pv 2)) (Ax (i:=3) scLetters.nd rfl (Or.inl rfl))
    (Ae (AE (Am AS (AH A4 (pv 3) Ah (fun _ _=>rfl)) Ar (As _))
     (Ae (AU (OI (pv 1) (Aa (AH A4 (pv 3) Ah (fun _ _=>rfl)) Ab))))
     An)))
   (Ae (Ak (i:=2) scLetters.nd rfl (Or.inl rfl) (Ai GP hr (by rfl) CP.m CP.k CP.b .nil Au (Aa (pv 2) Ab))))))
  (Ae (Aj (Av (Co rfl) (by rfl) T.sorted boot_sorted (Aa (pv 1) Ab)))))),?_⟩
 refine⟨rfl,fun fa hfa=>?_⟩
 have s1:=Ag hfa (Be w fa (fun _=>false) 0)
 refine⟨_,rfl,LE,fun l hl=>?_⟩
 have s2:=Ag hl (.lst [v])
 have e1:sz [t]=t.size:=by unfold sz;simp
 refine⟨RP w H v t fa,⟨_,fun _=>false,0,l,[v],[t],none,rfl,s1.trans s2,s2 _ _ Ac,Ac,.cons (ha.keep ((TS.same s1).trans (TS.same s2))) .nil,by omega,fun k=>?_,rfl⟩,?_⟩
 ·have:BY [t]=B0 t:=by unfold BY;simp
  rw[this]
  simp
 rintro m σ H3 ⟨S,n,r,ys,ts,pp,rfl,s3,hf3,hr3,p3,hn3,hm3,rfl⟩
 refine⟨_,rfl,_,.inl ⟨ys,SqL.of hr3,rfl⟩,?_⟩
 refine B2 (fun c=>?_) (fun c=>?_)
 ·refine⟨fun σ' H'=>∃m',m'<sz ts∧RP w H v t fa m' σ' H',fun _ _ h=>h,?_⟩
  have hlen:=p3.len
  have hpos:0<ts.length:=by
   rw[←hlen]
   cases ys with
   | nil=>exact absurd c (by decide)
   | cons _ _=>exact Nat.succ_pos _
  refine⟨_,rfl,r,rfl,⟨_,SqL.of hr3⟩,AQ (K:=K) (a:=r) (xs:=ys) (fun i σ H4=>∃(S2:Int→Bool) (n2:Nat) (pp:Option V),σ=[some v,some (.ref fa),some (.ref r),pp]∧Same H H4∧H4 fa=some (Be w fa S2 n2)∧H4 r=some (.lst ys)∧Pile H4 ys ts∧n2≤n+i∧∀k,S2 k=true↔S k=true∨k∈FE (ts.take i)) ?_ ?_ ?_ ?_⟩
  ·exact⟨S,n,pp,rfl,s3,hf3,hr3,p3,Nat.le_refl _,fun k=>by simp[FE]⟩
  ·rintro i σ H4 _ ⟨S2,n2,pp,rfl,s4,_,hr4,_⟩
   exact SqL.of hr4
  ·rintro i x σ H4 hx ⟨S2,n2,pp,rfl,s4,hf4,hr4,p4,hn4,hm4⟩
   obtain⟨t2,ht2,hat⟩:=B6 p4 hx
   have hi:i<ys.length:=(List.getElem?_eq_some_iff.mp hx).1
   have hsz:=HJ ts
   cases t2 with
   | lt j=>
    obtain⟨p,rfl,hp⟩:=hat
    refine⟨_,rfl,p,_,_,_,rfl,rfl,SqT.of hp,Aq (j:=0) rfl,rfl,_,rfl,?_⟩
    refine Bp rfl ?_
    refine⟨_,rfl,fa,S2,n2,rfl,hf4,_,rfl,p,_,_,_,rfl,rfl,SqT.of hp,Aq (j:=1) rfl,_,S2,n2,rfl,hf4,by omega,?_⟩
    have kk:TS H4 (AA H4 fa (Be w fa (fun k=>S2 k || decide (k=(j:Int))) (n2+1))):=TS.ext hf4 (fun xs z=>by cases z)
    refine⟨_,n2+1,_,rfl,AD s4 hfa _,Ac,by rw[Az (DT hr4 hf4 (by intro z;cases z))];exact hr4,p4.keep kk,by omega,fun k=>?_⟩
    rw[Bool.or_eq_true,decide_eq_true_eq,hm4 k,ET ht2,List.mem_append]
    show (_∨_)∨k=(j:Int)↔_∨_∨k∈[(j:Int)]
    rw[List.mem_singleton,or_assoc]
   | nt t3=>
    obtain⟨p,u,rfl,hp,_⟩:=hat
    refine⟨_,rfl,p,_,_,_,rfl,rfl,SqT.of hp,Aq (j:=0) rfl,rfl,_,rfl,?_⟩
    refine Bk (by decide) ?_
    refine⟨S2,n2,_,rfl,s4,hf4,hr4,p4,by omega,fun k=>?_⟩
    rw[hm4 k,ET ht2]
    show _↔_∨k∈FE (ts.take i)++[]
    rw[List.append_nil]
   | bn j a b=>
    obtain⟨p,u,u2,rfl,hp,_⟩:=hat
    refine⟨_,rfl,p,_,_,_,rfl,rfl,SqT.of hp,Aq (j:=0) rfl,rfl,_,rfl,?_⟩
    refine Bk Ic ?_
    refine⟨S2,n2,_,rfl,s4,hf4,hr4,p4,by omega,fun k=>?_⟩
    rw[hm4 k,ET ht2]
    show _↔_∨k∈FE (ts.take i)++[]
    rw[List.append_nil]
  ·rintro σ H4 ⟨S2,n2,pp,rfl,s4,hf4,hr4,p4,hn4,hm4⟩
   rw[hlen,List.take_length] at hm4
   have hk:=Kz ts
   refine⟨_,rfl,r,ys,ts,rfl,SqL.of hr4,p4,by omega,fun r2 zs H5 s5 hr5 p5=>?_⟩
   refine⟨sz (BF ts),by omega,S2,n2,r2,zs,BF ts,_,rfl,s4.trans s5,s5 _ _ hf4,hr5,p5,by omega,fun k=>?_,rfl⟩
   rw[hm3 k,Lk,hm4 k,or_assoc]
 ·have e:ts=[]:=by
   cases p3 with
   | nil=>rfl
   | cons h1 h2=>exact absurd rfl c
  subst e
  refine⟨_,rfl,fa,S,n,rfl,hf3,by omega,fun l2 ns hl2 hp hm=>?_⟩
  refine q l2 ns _ (s3.trans (Ag hl2 _)) (s3.free hl2) Ac hp fun k=>?_
  rw[hm k,hm3 k]
  simp[BY]
end
theorem Ct {us:List Value} (h:us.length=1):∃a0:Value,us=[a0]:=by
 cases us with
 | nil=>exact absurd h (by simp)
 | cons a0 us=>
  have h:us.length=0:=Nat.succ.inj h
  cases us with
  | nil=>exact⟨a0,rfl⟩
  | cons _ _=>exact absurd h (by simp)
theorem AV {us:List Value} (h:us.length=2):∃a0 a1:Value,us=[a0,a1]:=by
 cases us with
 | nil=>exact absurd h (by simp)
 | cons a0 us=>
  have h:us.length=1:=Nat.succ.inj h
  cases us with
  | nil=>exact absurd h (by simp)
  | cons a1 us=>
   have h:us.length=0:=Nat.succ.inj h
   cases us with
   | nil=>exact⟨a0,a1,rfl⟩
   | cons _ _=>exact absurd h (by simp)
theorem Cy {us:List Value} (h:us.length=3):∃a0 a1 a2:Value,us=[a0,a1,a2]:=by
 cases us with
 | nil=>exact absurd h (by simp)
 | cons a0 us=>
  have h:us.length=2:=Nat.succ.inj h
  cases us with
  | nil=>exact absurd h (by simp)
  | cons a1 us=>
   have h:us.length=1:=Nat.succ.inj h
   cases us with
   | nil=>exact absurd h (by simp)
   | cons a2 us=>
    have h:us.length=0:=Nat.succ.inj h
    cases us with
    | nil=>exact⟨a0,a1,a2,rfl⟩
    | cons _ _=>exact absurd h (by simp)
theorem Fy {us:List Value} (h:us.length=4):∃a0 a1 a2 a3:Value,us=[a0,a1,a2,a3]:=by
 cases us with
 | nil=>exact absurd h (by simp)
 | cons a0 us=>
  have h:us.length=3:=Nat.succ.inj h
  cases us with
  | nil=>exact absurd h (by simp)
  | cons a1 us=>
   have h:us.length=2:=Nat.succ.inj h
   cases us with
   | nil=>exact absurd h (by simp)
   | cons a2 us=>
    have h:us.length=1:=Nat.succ.inj h
    cases us with
    | nil=>exact absurd h (by simp)
    | cons a3 us=>
     have h:us.length=0:=Nat.succ.inj h
     cases us with
     | nil=>exact⟨a0,a1,a2,a3,rfl⟩
     | cons _ _=>exact absurd h (by simp)
theorem Nz {us:List Value} (h:us.length=5):∃a0 a1 a2 a3 a4:Value,us=[a0,a1,a2,a3,a4]:=by
 cases us with
 | nil=>exact absurd h (by simp)
 | cons a0 us=>
  have h:us.length=4:=Nat.succ.inj h
  cases us with
  | nil=>exact absurd h (by simp)
  | cons a1 us=>
   have h:us.length=3:=Nat.succ.inj h
   cases us with
   | nil=>exact absurd h (by simp)
   | cons a2 us=>
    have h:us.length=2:=Nat.succ.inj h
    cases us with
    | nil=>exact absurd h (by simp)
    | cons a3 us=>
     have h:us.length=1:=Nat.succ.inj h
     cases us with
     | nil=>exact absurd h (by simp)
     | cons a4 us=>
      have h:us.length=0:=Nat.succ.inj h
      cases us with
      | nil=>exact⟨a0,a1,a2,a3,a4,rfl⟩
      | cons _ _=>exact absurd h (by simp)
theorem P9 {us:List Value} (h:us.length=6):∃a0 a1 a2 a3 a4 a5:Value,us=[a0,a1,a2,a3,a4,a5]:=by
 cases us with
 | nil=>exact absurd h (by simp)
 | cons a0 us=>
  have h:us.length=5:=Nat.succ.inj h
  cases us with
  | nil=>exact absurd h (by simp)
  | cons a1 us=>
   have h:us.length=4:=Nat.succ.inj h
   cases us with
   | nil=>exact absurd h (by simp)
   | cons a2 us=>
    have h:us.length=3:=Nat.succ.inj h
    cases us with
    | nil=>exact absurd h (by simp)
    | cons a3 us=>
     have h:us.length=2:=Nat.succ.inj h
     cases us with
     | nil=>exact absurd h (by simp)
     | cons a4 us=>
      have h:us.length=1:=Nat.succ.inj h
      cases us with
      | nil=>exact absurd h (by simp)
      | cons a5 us=>
       have h:us.length=0:=Nat.succ.inj h
       cases us with
       | nil=>exact⟨a0,a1,a2,a3,a4,a5,rfl⟩
       | cons _ _=>exact absurd h (by simp)
def D4 (ns:List Int) (k:Int):Int:=if h:(k%(ns.length:Int)).toNat<ns.length then (if ns[(k%(ns.length:Int)).toNat]<0 then -ns[(k%(ns.length:Int)).toNat] else ns[(k%(ns.length:Int)).toNat]) else 0
def O6 (c k:Int):Int:=(c*48271+40692*k+11)%2147483647*2147483629+((c*48271+40692*k+11)%2147483647*((c*48271+40692*k+11)%2147483647)+69621*c+17)%2147483629
def JZ (ns:List Int) (k:Int):Int:=if k<(ns.length:Int)∧D4 ns k≥1000000000000 then D4 ns k else O6 (D4 ns k) k
def HV (K:PySem.W.Frag):Sp:=fun vs H Q _=>∃(a:Addr) (ns:List Int) (k:Int),vs=[.ref a,.int k]∧SqL K H a (ns.map V.int)∧ns.length≤63∧0≤k∧k≤1000∧∀(H':Hp),0≤JZ ns k→Same H H'→Q (.int (JZ ns k)) H'
theorem Py {ns:List Int} {k c:Int} (e:D4 ns k=c) (h1:k<(ns.length:Int)) (h2:c≥1000000000000):c=JZ ns k:=by
 unfold JZ
 rw[e,if_pos ⟨h1,h2⟩]
theorem HG {ns:List Int} {k c:Int} (e:D4 ns k=c) (h:¬(k<(ns.length:Int)∧c≥1000000000000)):O6 c k=JZ ns k:=by
 unfold JZ
 rw[e,if_neg h]
section
theorem Jt (G:FnOk P w K mg bz AO 1 f fd ["_law_script","_law_k"] (HV K)):FnOk P w K mg bz AO 1 f fd ["_law_script","_law_k"] (Nu K):=G.imp fun vs H Q E h=>by
 obtain⟨a,ns,k,e,h1,h2,h3,h4,q⟩:=h
 exact⟨a,ns,k,e,h1,h2,h3,h4,fun H' h0 s=>q _ H' h0 s⟩
theorem OK (F:Fun K "_law_num" "_law_num" Lv f fd) (B:Bl mg):FnOk P w K mg bz AO 1 f fd ["_law_script","_law_k"] (HV K):=by
 refine F.ok scNum (fun vs H Q E h=>?_) (fun cdv A outer s H vs Q E hr h=>?_)
 ·obtain⟨a,ns,k,rfl,_⟩:=h
  rfl
 obtain⟨a,ns,k,rfl,hS,h63,hk0,hk1,q⟩:=h
 refine⟨_,Ad (Ak (i:=2) scNum.nd rfl (Or.inl rfl) Ah)
  (Ad (AE (Am (J6 hr.units0) (pv 0) (AF Ab) (As _))
   (Ae (Ak (i:=2) scNum.nd rfl (Or.inl rfl) (Av MB (by rfl) B.abs boot_abs (Aa (AH AG (pv 0) (AC AZ (pv 1) (Av Aw (by rfl) B.len PySem.boot_len (Aa (pv 0) Ab))) (fun _ _=>rfl)) Ab)))) An)
  (Ad (AE (Cz (Am QZ (pv 1) (Av Aw (by rfl) B.len PySem.boot_len (Aa (pv 0) Ab)) (As _)) (BN (Am O3 (pv 2) (AC Pu Ah Ah) (As _)))).pt
   (Ae (Aj (pv 2))) An)
  (Ad (Ak (i:=3) scNum.nd rfl (Or.inl rfl) (AC AZ (AC B1 (AC B1 (AC FM (pv 2) Ah) (AC FM Ah (pv 1))) Ah) Ah))
  (Ad (Ak (i:=4) scNum.nd rfl (Or.inl rfl) (AC AZ (AC B1 (AC B1 (AC FM (pv 3) (pv 3)) (AC FM Ah (pv 2))) Ah) Ah))
  (Ae (Aj (AC B1 (AC FM (pv 3) Ah) (pv 4)))))))),?_⟩
 refine⟨_,rfl,Fi,fun p hp=>?_⟩
 have sm:Same H (AA H p (.lst [])):=Ag hp _
 refine⟨a,p,_,rfl,rfl,sm.seq hS,SqL.of Ac,_,rfl,?_⟩
 have hl:(ns.map V.int).length=ns.length:=List.length_map _
 have fin:∀c:Int,0≤c→∀b:Int,0≤(c*48271+40692*k+11)%2147483647*2147483629+b%2147483629:=fun c hc b=>by
  have h1:=Int.emod_nonneg (c*48271+40692*k+11) (show (2147483647:Int)≠0 by decide)
  have h2:=Int.emod_nonneg b (show (2147483629:Int)≠0 by decide)
  omega
 have b64:∀b:Int,-(2^64)<b%2147483647∧b%2147483647<2^64:=fun b=>by omega
 refine B2 (fun c0=>?_) (fun c0=>?_)
 ·have ne:ns≠[]:=by
   intro z
   subst z
   exact absurd c0 (by decide)
  have hp':0<ns.length:=List.length_pos_iff.mpr ne
  have hi:(k%(ns.length:Int)).toNat<ns.length:=by
   have h1:=Int.emod_nonneg k (show (ns.length:Int)≠0 by omega)
   have h2:=Int.emod_lt_of_pos k (show (0:Int)<ns.length by omega)
   omega
  have hat:Fs (ns.map V.int) (k%(((ns.map V.int).length:Nat):Int))=some (.int ns[(k%(ns.length:Int)).toNat]):=by
   have e:k%(((ns.map V.int).length:Nat):Int)=(((k%(ns.length:Int)).toNat:Nat):Int):=by
    rw[hl]
    have h1:=Int.emod_nonneg k (show (ns.length:Int)≠0 by omega)
    omega
   rw[e]
   refine Aq ?_
   rw[List.getElem?_map,List.getElem?_eq_getElem hi]
   rfl
  refine⟨_,rfl,_,rfl,_,rfl,a,_,rfl,.inl (sm.seq hS),_,_,rfl,rfl,(by rw[hl];omega),a,_,_,_,rfl,rfl,sm.seq hS,hat,_,rfl,?_⟩
  generalize hc:(if ns[(k%(ns.length:Int)).toNat]<0 then -ns[(k%(ns.length:Int)).toNat] else ns[(k%(ns.length:Int)).toNat])=c
  have hc0:0≤c:=by
   rw[←hc]
   split<;>omega
  have eC:D4 ns k=c:=by
   unfold D4
   rw[dif_pos hi]
   exact hc
  refine⟨_,rfl,_,rfl,a,_,rfl,.inl (sm.seq hS),_,_,rfl,rfl,_,rfl,?_⟩
  refine B2 (fun c1=>?_) (fun c1=>?_)
  ·refine⟨_,rfl,_,_,rfl,rfl,⟨by decide,by decide,by decide⟩,_,_,rfl,rfl,_,rfl,?_⟩
   refine B2 (fun c2=>?_) (fun c2=>?_)
   ·have e1:=Py eC (by have z:=of_decide_eq_true c1;rw[hl] at z;exact z) (of_decide_eq_true c2)
    rw[←e1] at q
    exact⟨_,rfl,q _ hc0 sm⟩
   ·refine⟨_,rfl,_,_,rfl,rfl,.inr ⟨by decide,by decide⟩,_,rfl,_,_,rfl,rfl,.inl ⟨by decide,by decide⟩,_,_,rfl,rfl,_,_,rfl,rfl,_,_,rfl,rfl,(by show (0:Int)<2147483647;decide),?_⟩
    refine⟨_,rfl,_,rfl,_,_,rfl,rfl,.inl (b64 _),_,rfl,_,_,rfl,rfl,.inl ⟨by decide,by decide⟩,_,_,rfl,rfl,_,_,rfl,rfl,_,_,rfl,rfl,(by show (0:Int)<2147483629;decide),?_⟩
    have e1:=HG (k:=k) eC (fun z=>c2 (decide_eq_true z.2))
    rw[←e1] at q
    exact⟨_,rfl,_,_,rfl,rfl,.inl (b64 _),_,rfl,_,_,rfl,rfl,q _ (fin c hc0 _) sm⟩
  ·refine A0 ?_
   refine⟨_,rfl,_,_,rfl,rfl,.inr ⟨by decide,by decide⟩,_,rfl,_,_,rfl,rfl,.inl ⟨by decide,by decide⟩,_,_,rfl,rfl,_,_,rfl,rfl,_,_,rfl,rfl,(by show (0:Int)<2147483647;decide),?_⟩
   refine⟨_,rfl,_,rfl,_,_,rfl,rfl,.inl (b64 _),_,rfl,_,_,rfl,rfl,.inl ⟨by decide,by decide⟩,_,_,rfl,rfl,_,_,rfl,rfl,_,_,rfl,rfl,(by show (0:Int)<2147483629;decide),?_⟩
   have e1:=HG (k:=k) eC (fun z=>c1 (decide_eq_true (by rw[hl];exact z.1)))
   rw[←e1] at q
   exact⟨_,rfl,_,_,rfl,rfl,.inl (b64 _),_,rfl,_,_,rfl,rfl,q _ (fin c hc0 _) sm⟩
 ·have en:ns=[]:=by
   cases ns with
   | nil=>rfl
   | cons x r=>exact absurd (by rfl) c0
  subst en
  have eC:D4 [] k=0:=by
   unfold D4
   rw[dif_neg (by simp)]
  refine⟨_,rfl,_,rfl,a,_,rfl,.inl (sm.seq hS),_,_,rfl,rfl,_,rfl,?_⟩
  refine B2 (fun c1=>?_) (fun c1=>?_)
  ·refine⟨_,rfl,_,_,rfl,rfl,⟨by decide,by decide,by decide⟩,_,_,rfl,rfl,_,rfl,?_⟩
   refine B2 (fun c2=>?_) (fun c2=>?_)
   ·exact absurd (of_decide_eq_true c2) (by decide)
   ·refine⟨_,rfl,_,_,rfl,rfl,.inr ⟨by decide,by decide⟩,_,rfl,_,_,rfl,rfl,.inl ⟨by decide,by decide⟩,_,_,rfl,rfl,_,_,rfl,rfl,_,_,rfl,rfl,(by show (0:Int)<2147483647;decide),?_⟩
    refine⟨_,rfl,_,rfl,_,_,rfl,rfl,.inl (b64 _),_,rfl,_,_,rfl,rfl,.inl ⟨by decide,by decide⟩,_,_,rfl,rfl,_,_,rfl,rfl,_,_,rfl,rfl,(by show (0:Int)<2147483629;decide),?_⟩
    have e1:=HG (k:=k) eC (fun z=>absurd z.2 (by decide))
    rw[←e1] at q
    exact⟨_,rfl,_,_,rfl,rfl,.inl (b64 _),_,rfl,_,_,rfl,rfl,q _ (fin 0 (Int.le_refl _) _) sm⟩
  ·refine A0 ?_
   refine⟨_,rfl,_,_,rfl,rfl,.inr ⟨by decide,by decide⟩,_,rfl,_,_,rfl,rfl,.inl ⟨by decide,by decide⟩,_,_,rfl,rfl,_,_,rfl,rfl,_,_,rfl,rfl,(by show (0:Int)<2147483647;decide),?_⟩
   refine⟨_,rfl,_,rfl,_,_,rfl,rfl,.inl (b64 _),_,rfl,_,_,rfl,rfl,.inl ⟨by decide,by decide⟩,_,_,rfl,rfl,_,_,rfl,rfl,_,_,rfl,rfl,(by show (0:Int)<2147483629;decide),?_⟩
   have e1:=HG (k:=k) eC (fun z=>absurd z.2 (by decide))
   rw[←e1] at q
   exact⟨_,rfl,_,_,rfl,rfl,.inl (b64 _),_,rfl,_,_,rfl,rfl,q _ (fin 0 (Int.le_refl _) _) sm⟩
end
abbrev B8:Stmt:=BD 20
theorem Fg:∀{t:Tr} {m:Nat},t.ok 5→(t.ok m↔∀k∈B0 t,k<(m:Int))
 | .lt j,m,_=>by
  show j<m↔∀k∈[(j:Int)],k<(m:Int)
  simp
 | .nt t,m,h=>Fg (t:=t) h
 | .bn j a b,m,h=>by
  have h1:=Fg (m:=m) h.2.1
  have h2:=Fg (m:=m) h.2.2
  show (j<4∧a.ok m∧b.ok m)↔∀k∈B0 a++B0 b,k<(m:Int)
  rw[h1,h2]
  constructor
  ·rintro⟨_,q1,q2⟩ k hk
   rcases List.mem_append.mp hk with z | z
   ·exact q1 k z
   ·exact q2 k z
  ·intro q
   exact⟨h.1,fun k hk=>q k (List.mem_append_left _ hk),fun k hk=>q k (List.mem_append_right _ hk)⟩
theorem Hu:∀t:Tr,∃k,k∈B0 t
 | .lt j=>⟨(j:Int),by simp[B0]⟩
 | .nt t=>Hu t
 | .bn _ a b=>by
  obtain⟨k,hk⟩:=Hu a
  exact⟨k,List.mem_append_left _ hk⟩
theorem N4 {ns:List Int} {x:Int} (h:(ns++[x]).Pairwise (· < ·)):∀k∈ns++[x],k≤x:=fun k hk=>by
 rcases List.mem_append.mp hk with z | z
 ·exact Int.le_of_lt ((List.pairwise_append.mp h).2.2 k z x (by simp))
 ·rw[List.mem_singleton.mp z]
  exact Int.le_refl _
theorem MA {α:Type} (xs:List α) (x:α):Fs (xs++[x]) (-1)=some x:=by
 have e:MO (xs++[x]).length (-1)=some xs.length:=by
  unfold MO
  rw[if_neg (by decide),List.length_append]
  show (if _ then _ else _)=_
  rw[if_pos (by show -(((xs.length+1:Nat)):Int)≤-1;omega)]
  congr 1
  show (((xs.length+1:Nat):Int) + -1).toNat=xs.length
  omega
 unfold Fs
 rw[e]
 show (xs++[x])[xs.length]? = some x
 simp
def FB (cS:Addr):Sp:=fun vs H Q E=>∃(v:V) (t:Tr) (m:Nat),vs=[v,.int m]∧t.At H v∧t.ok 5∧t.size≤60∧(¬t.ok m→∀H',Same H H'→E (.ref cS) none H')∧(t.ok m→∀H',Same H H'→Q .non H')
section
variable {cS cT:Addr}
theorem LS:Ap ["sentence","many"] ["sentence","many"] (Af B8):=BC
theorem Lx {g:Addr} {gd:FuncData} (F:Fun K "refuse_strange" "refuse_strange" B8 f fd) (XS:JH K mg "StrangeLetter" cS cT) (GL:FnOk P w K mg bz AO 2 g gd ["sentence"] Hm) (CL:AL K mg "letters" g gd ["sentence"]):FnOk P w K mg bz (Jl P w) 3 f fd ["sentence","many"] (FB cS):=by
 refine Fun.okX F LS (fun vs H Q E h=>?_) (fun cdv A outer s H vs Q E hr h=>?_)
 ·obtain⟨v,t,m,rfl,_⟩:=h
  rfl
 obtain⟨v,t,m,rfl,ha,hok,hsz,qE,q⟩:=h
 refine⟨_,Ae (AE (Am O3 (AH AG (Ai GL hr (by rfl) CL.m CL.k CL.b .nil Au (Aa (pv 0) Ab)) (QV P8 Ah) (fun _ _=>rfl)) (pv 1) (As _))
   (Ae (Dw (Ex:=E) D3 rfl XS.cls XS.at_ XS.ty (by rfl) XS.m (Aa Ar Ab) (hvl:=fun _ _ _ h=>⟨by decide,h⟩)))
   An),?_⟩
 refine⟨_,rfl,v,t,rfl,ha,hsz,fun l ns H1 s1 hl0 hl hp hm=>?_⟩
 obtain⟨k0,hk0⟩:=Hu t
 have hne:ns≠[]:=List.ne_nil_of_mem ((hm k0).mpr hk0)
 obtain⟨ms,x,rfl⟩:∃ms x,ns=ms++[x]:=⟨ns.dropLast,ns.getLast hne,(List.dropLast_concat_getLast hne).symm⟩
 have hmax:=N4 hp
 have hx:x∈B0 t:=(hm x).mp (by simp)
 have hiff:=Fg (m:=m) hok
 have hat:Fs ((ms++[x]).map V.int) (-1)=some (.int x):=by rw[List.map_append];exact MA _ _
 refine⟨_,rfl,l,_,_,_,rfl,rfl,SqL.of hl,hat,_,rfl,_,_,rfl,rfl,_,rfl,?_⟩
 by_cases c:t.ok m
 ·refine Bk (fun z=>?_) (q c _ s1)
  have:=hiff.mp c x hx
  have z':x≥(m:Int):=z
  omega
 ·refine Bp ?_ (qE c _ s1)
  show x≥(m:Int)
  refine Int.not_lt.mp fun z=>c (hiff.mpr fun k hk=>?_)
  have:=hmax k ((hm k).mpr hk)
  omega
end
def HI (M:List Addr) (H:Hp):Hp:=fun b=>if b∈M then none else H b
section
variable {M N:List Addr} {H H' H0 H1:Hp} {a b l:Addr} {o:HO}
theorem HM (h:HI M H b=some o):H b=some o∧b∉M:=by
 unfold HI at h
 by_cases c:b∈M
 ·rw[if_pos c] at h;cases h
 ·rw[if_neg c] at h;exact⟨h,c⟩
theorem Eu (h:H b=some o) (n:b∉M):HI M H b=some o:=by unfold HI;rw[if_neg n];exact h
theorem FL:Same (HI M H) H:=fun b o h=>(HM h).1
theorem Dn (s:Same H H'):Same (HI M H) (HI M H'):=fun b o h=>Eu (s _ _ (HM h).1) (HM h).2
theorem Hz (h:a∈M):HI M (AA H a o)=HI M H:=by
 funext b
 unfold HI
 by_cases c:b∈M
 ·rw[if_pos c,if_pos c]
 ·rw[if_neg c,if_neg c,Az (fun z=>c (by rw[z];exact h))]
end
section
variable {M:List Addr} {C:Addr} {H H':Hp} {a:Addr} {U:Tk} {W:Ta}
end
theorem No {P:Program} {w:World} {X:Cx}:Fr (Jl P w) X E0:=fun _ _ _ _ _ _ _ h=>by
 obtain⟨_,_,_,_,_,_,_,_,_,_,_,_,_,_,_,q⟩:=h
 exact q.elim
def HR (z:Str):Prop:=z="elder"∨z="newer"
instance (z:Str):Decidable (HR z):=by unfold HR;infer_instance
abbrev DM:Stmt:=BD 50
def KH (K:PySem.W.Frag):Sp:=fun vs H Q _=>∃(a:Addr) (ns:List Int) (many:Nat),vs=[.ref a,.int many]∧SqL K H a (ns.map V.int)∧ns.length≤63∧1≤many∧many≤5∧∀(tp rm:Addr) (room:List Int) (z:Str) (v:V) (t:Tr) (H':Hp),Same H H'→H' tp=some (.tup [.ref rm,.str z,v])→H rm=none→AW H' rm room→room.Sublist (Cq (2^many))→room≠[]→t.At H' v→t.ok many→t.size≤20→Fw z t room→Q (.ref tp) H'
section
theorem scLstart:Ap ["_law_script","_law_many","_law_room_here","_law_sentence_here"] ["_law_script","_law_many"] (Af DM):=BC
theorem LP {fN fS fR fK:Addr} {dN dS dR dK:FuncData} (F:Fun K "_law_start" "_law_start" DM f fd)
  (GN:FnOk P w K mg bz AO 1 fN dN ["_law_script","_law_k"] (Nu K)) (CN:AL K mg "_law_num" fN dN ["_law_script","_law_k"])
  (GS:FnOk P w K mg bz AO 1 fS dS ["_law_n","_law_most","_law_many"] J7) (CS:AL K mg "_law_sentence" fS dS ["_law_n","_law_most","_law_many"])
  (GR:FnOk P w K mg bz AO 3 fR dR ["_law_n","_law_many"] L8) (CR:AL K mg "_law_room" fR dR ["_law_n","_law_many"])
  (GK:FnOk P w K mg bz AO 25 fK dK ["_law_n","_law_room_here","_law_sentence_here"] (Nl K)) (CK:AL K mg "_law_kind" fK dK ["_law_n","_law_room_here","_law_sentence_here"]):FnOk P w K mg bz AO 26 f fd ["_law_script","_law_many"] (KH K):=by
 refine F.ok scLstart (fun vs H Q E h=>?_) (fun cdv A outer s H vs Q E hr h=>?_)
 ·obtain⟨a,ns,many,rfl,_⟩:=h
  rfl
 obtain⟨a,ns,many,rfl,hS,h63,hm1,hm5,q⟩:=h
 have hr1:Room 1 _:=hr.mono (by decide)
 have hr3:Room 3 _:=hr.mono (by decide)
 refine⟨_,Ad (Ak (i:=2) scLstart.nd rfl (Or.inl rfl) (Ai GR hr3 (by rfl) CR.m CR.k CR.b .nil Au (Aa (Ai GN hr1 (by rfl) CN.m CN.k CN.b .nil Au (Aa (pv 0) (Aa Ah Ab))) (Aa (pv 1) Ab))))
  (Ad (Ak (i:=3) scLstart.nd rfl (Or.inl rfl) (Ai GS hr1 (by rfl) CS.m CS.k CS.b .nil Au (Aa (Ai GN hr1 (by rfl) CN.m CN.k CN.b .nil Au (Aa (pv 0) (Aa Ah Ab))) (Aa Ah (Aa (pv 1) Ab)))))
  (Ae (Aj (Bs (Aa (pv 2) (Aa (Ai GK hr (by rfl) CK.m CK.k CK.b .nil Au (Aa (Ai GN hr1 (by rfl) CN.m CN.k CN.b .nil Au (Aa (pv 0) (Aa Ah Ab))) (Aa (pv 2) (Aa (pv 3) Ab)))) (Aa (pv 3) Ab))))))),?_⟩
 refine⟨_,rfl,a,ns,1,rfl,hS,h63,by decide,by decide,fun n1 H2 hn1 s2=>?_⟩
 refine⟨_,rfl,n1,many,rfl,hm1,hm5,fun rm room H3 s3 hrm0 hrm hsub hne=>?_⟩
 have t3:=s2.trans s3
 have wroom:Wr room:=(Kq hm5).sub hsub
 have lroom:=wroom.len
 refine⟨_,rfl,a,ns,2,rfl,t3.seq hS,h63,by decide,by decide,fun n2 H4 hn2 s4=>?_⟩
 refine⟨_,rfl,n2,8,many,rfl,hn2,by decide,by decide,hm1,hm5,fun v t H5 s5 ha hok hsz'=>?_⟩
 have hsz:t.size≤23:=by omega
 have ok5:t.ok 5:=Tr.ok.mono hm5 hok
 have t5:=t3.trans (s4.trans s5)
 have hrm5:=s5 _ _ (s4 _ _ hrm)
 refine⟨_,rfl,_,rfl,a,ns,3,rfl,t5.seq hS,h63,by decide,by decide,fun n3 H6 hn3 s6=>?_⟩
 have t6:=t5.trans s6
 have hrm6:=s6 _ _ hrm5
 have ha6:=ha.keep (TS.same s6)
 refine⟨_,rfl,_,rfl,n3,rm,room,v,t,rfl,ha6,ok5,hsz,SqL.of hrm6,by omega,hne,fun z H7 s7 hz=>?_⟩
 refine⟨_,rfl,N6,fun tp htp=>?_⟩
 have s8:=s7.trans (Ag htp (.tup [.ref rm,.str z,v]))
 exact q tp rm room z v t _ (t6.trans s8) Ac (s2.free hrm0) (s8 _ _ hrm6) hsub hne (ha6.keep (TS.same s8)) hok (by omega) hz
end
def BH (seen:List Int) (t:Tr):Str:=if (seen.all fun k=>tv t k)=true then "grant" else if (seen.any fun k=>tv t k)=true then "doubt" else "deny"
def FU (sides:List (List Int)) (going seen:List Int) (t:Tr):Str:=
 if AT false t going=[] then "grant" else if AT true t going=[] then "deny"
 else if BH seen t="grant"∧A6 sides (AT true t going)=true then "grant"
 else if BH seen t="deny"∧A6 sides (AT false t going)=true then "deny" else "doubt"
def DR (z:Str) (g:List Int) (t:Tr):List Int:=if z="grant" then AT true t g else if z="deny" then AT false t g else g
theorem Cd {t:Tr} {room:List Int} {k:Int} (hk:k∈room):decide (k∈AT true t room)=tv t k:=by
 unfold AT
 rw[Bool.eq_iff_iff,decide_eq_true_eq,List.mem_filter]
 constructor
 ·rintro⟨_,h⟩
  exact eq_of_beq h
 ·intro h
  exact⟨hk,by rw[h];rfl⟩
theorem Mo {t:Tr} {room g:List Int} (h:g.Sublist room):Kx g (AT true t room)=AT true t g:=by
 unfold Kx
 refine (List.filter_congr fun k hk=>?_)
 rw[Cd (h.subset hk)]
 cases tv t k<;>rfl
theorem Kw {t:Tr} {room g:List Int} (h:g.Sublist room):Ef g (AT true t room)=AT false t g:=by
 unfold Ef
 refine (List.filter_congr fun k hk=>?_)
 rw[Cd (h.subset hk)]
 cases tv t k<;>rfl
theorem L1 {t:Tr} {room g:List Int} (h:g.Sublist room):Bj g (AT true t room)=BH g t:=by
 have e1:(g.all fun k=>decide (k∈AT true t room))=g.all fun k=>tv t k:=by
  rw[Bool.eq_iff_iff,List.all_eq_true,List.all_eq_true]
  exact⟨fun q k hk=>by rw[←Cd (h.subset hk)];exact q k hk,fun q k hk=>by rw[Cd (h.subset hk)];exact q k hk⟩
 have e2:(g.any fun k=>decide (k∈AT true t room))=g.any fun k=>tv t k:=by
  rw[Bool.eq_iff_iff,List.any_eq_true,List.any_eq_true]
  exact⟨fun⟨k,hk,q⟩=>⟨k,hk,by rw[←Cd (h.subset hk)];exact q⟩,fun⟨k,hk,q⟩=>⟨k,hk,by rw[Cd (h.subset hk)];exact q⟩⟩
 unfold Bj BH
 rw[e1,e2]
theorem N2 (seen:List Int) (t:Tr):BH seen t="grant"∨BH seen t="deny"∨BH seen t="doubt":=by
 unfold BH
 split
 ·exact .inl rfl
 ·split
  ·exact .inr (.inr rfl)
  ·exact .inr (.inl rfl)
theorem P2 {sides:List (List Int)} {going seen room:List Int} {t:Tr} (hg:going.Sublist room) (hs:seen.Sublist room):Cp sides going seen (AT true t room)=FU sides going seen t:=by
 unfold Cp FU
 rw[Mo hg,Kw hg,L1 hs]
 by_cases h0:AT false t going=[]
 ·rw[if_pos h0,if_pos h0]
 rw[if_neg h0,if_neg h0]
 by_cases h1:AT true t going=[]
 ·rw[if_pos h1,if_pos h1]
 rw[if_neg h1,if_neg h1]
 have g1:¬("grant":Str)="deny":=by decide
 have g2:¬("deny":Str)="grant":=by decide
 have g3:¬("doubt":Str)="grant":=by decide
 have g4:¬("doubt":Str)="deny":=by decide
 rcases N2 seen t with e | e | e<;>rw[e]<;>cases A6 sides (AT true t going)<;>cases A6 sides (AT false t going)<;>simp[g1,g2,g3,g4]
theorem OU {z:Str} {g room:List Int} {t:Tr} (h:g.Sublist room):Ea z g (AT true t room)=DR z g t:=by
 unfold Ea DR
 rw[Mo h,Kw h]
theorem Gv (z:Str) (g:List Int) (t:Tr):(DR z g t).Sublist g:=by
 unfold DR
 split
 ·exact List.filter_sublist
 ·split
  ·exact List.filter_sublist
  ·exact List.Sublist.refl _
abbrev DI:Stmt:=BD 54
def IA (K:PySem.W.Frag):Sp:=fun vs H Q _=>∃(s:Addr) (v:V) (t:Tr) (seen:List Int),vs=[.ref s,v]∧t.At H v∧t.ok 5∧t.size≤23∧SqL K H s (seen.map V.int)∧seen.length≤900∧∀(H':Hp),Same H H'→Q (.str (BH seen t)) H'
section
theorem MX:Ap ["_law_seen","_law_sentence_here"] ["_law_seen","_law_sentence_here"] (Af DI):=BC
theorem Lo {g:Addr} {gd:FuncData} (F:Fun K "_law_plain" "_law_plain" DI f fd) (T:ID mg) (GT:FnOk P w K mg bz AO 23 g gd ["_law_sentence_here","_law_world"] (Do 23)) (CT:AL K mg "_law_true" g gd ["_law_sentence_here","_law_world"]):FnOk P w K mg bz AO 24 f fd ["_law_seen","_law_sentence_here"] (IA K):=by
 refine F.ok MX (fun vs H Q E h=>?_) (fun cdv A outer s H vs Q E hr h=>?_)
 ·obtain⟨s,v,t,seen,rfl,_⟩:=h
  rfl
 obtain⟨sn,v,t,seen,rfl,ha,hok,hs,hN,hl,q⟩:=h
 refine⟨_,Ad (AE (A1 (Av (Et rfl) (by rfl) T.all boot_all (Aa (Bf (N:=["_law_world","_law_sentence_here"]) (js:=[none,some 1]) (cl:=[("_law_sentence_here",s.heap.objs.size+1)]) ⟨rfl,rfl,rfl,(by intro p hp;simp at hp;rcases hp with rfl<;>rfl),rfl,rfl,rfl⟩ (AK (pv 0)) (fun c1=>(Ax (i:=0) (show (["_law_world","_law_sentence_here"]:List Str).Nodup by decide +kernel) rfl (Or.inl rfl))) (fun c1=>Bm) (fun c1=>(Ai GT hr (by rfl) CT.m CT.k CT.b .nil Au (Aa (pv 1) (Aa (pv 0) Ab))))) Ab)))
   (Ae (Aj Ar))
   An)
  (Ad (AE (A1 (Av (Ev rfl) (by rfl) T.any boot_any (Aa (Bf (N:=["_law_world","_law_sentence_here"]) (js:=[none,some 1]) (cl:=[("_law_sentence_here",s.heap.objs.size+1)]) ⟨rfl,rfl,rfl,(by intro p hp;simp at hp;rcases hp with rfl<;>rfl),rfl,rfl,rfl⟩ (AK (pv 0)) (fun c1=>(Ax (i:=0) (show (["_law_world","_law_sentence_here"]:List Str).Nodup by decide +kernel) rfl (Or.inl rfl))) (fun c1=>Bm) (fun c1=>(Ai GT hr (by rfl) CT.m CT.k CT.b .nil Au (Aa (pv 1) (Aa (pv 0) Ab))))) Ab)))
   (Ae (Aj Ar))
   An)
  (Ae (Aj Ar))),?_⟩
 refine⟨_,rfl,sn,rfl,⟨_,hN⟩,fun c1 acc hacc=>DV (f:=fun k=>tv t k) (rest:=[some v]) hN hacc hl (fun k hk H3 s3 R3 hR3=>?_) (fun v0 H3 s3 h3=>?_) none⟩
 ·exact⟨_,rfl,_,rfl,v,t,k,rfl,ha.keep (TS.same s3),hok,hs,fun H4 s4=>hR3 H4 s4⟩
 refine⟨acc,_,rfl,SqL.of h3,_,rfl,?_⟩
 have e1:(seen.map fun k=>tv t k).all id=seen.all fun k=>tv t k:=by rw[List.all_map];rfl
 have e2:(seen.map fun k=>tv t k).any id=seen.any fun k=>tv t k:=by rw[List.any_map];rfl
 rw[e1]
 unfold BH at q
 cases h0:seen.all fun k=>tv t k with
 | true=>
  refine Bx ?_
  rw[h0,if_pos rfl] at q
  exact q _ s3
 | false=>
  refine A0 ?_
  rw[h0,if_neg Bool.false_ne_true] at q
  refine⟨_,rfl,sn,rfl,⟨_,s3.seq hN⟩,fun c1 ac2 hac2=>DV (f:=fun k=>tv t k) (rest:=[some v]) (s3.seq hN) hac2 hl (fun k hk H4 s4 R3 hR3=>?_) (fun v0 H4 s4 h4=>?_) none⟩
  ·exact⟨_,rfl,_,rfl,v,t,k,rfl,(ha.keep (TS.same s3)).keep (TS.same s4),hok,hs,fun H5 s5=>hR3 H5 s5⟩
  refine⟨ac2,_,rfl,SqL.of h4,_,rfl,?_⟩
  rw[e2]
  cases h1:seen.any fun k=>tv t k with
  | true=>
   refine Bx ?_
   rw[h1,if_pos rfl] at q
   exact q _ (s3.trans s4)
  | false=>
   refine A0 ?_
   rw[h1,if_neg Bool.false_ne_true] at q
   exact q _ (s3.trans s4)
end
abbrev EI:Stmt:=BD 57
def KB (K:PySem.W.Frag):Sp:=fun vs H Q _=>∃(r:Addr) (z:Str) (v:V) (t:Tr) (row:List Int),vs=[.ref r,v,.str z]∧t.At H v∧t.ok 5∧t.size≤23∧SqL K H r (row.map V.int)∧row.length≤900∧∀(l:Addr) (H':Hp),Same H H'→H l=none→AW H' l (DR z row t)→Q (.ref l) H'
section
theorem NY:Ap ["_law_row","_law_sentence_here","_law_said"] ["_law_row","_law_sentence_here","_law_said"] (Af EI):=BC
theorem Nx {g g2:Addr} {gd gd2:FuncData} (F:Fun K "_law_left" "_law_left" EI f fd) (T:ID mg) (GI:FnOk P w K mg bz AO 24 g gd ["_law_sentence_here","_law_row"] (Ej K true)) (CI:AL K mg "_law_ins" g gd ["_law_sentence_here","_law_row"])
  (GO:FnOk P w K mg bz AO 24 g2 gd2 ["_law_sentence_here","_law_row"] (Ej K false)) (CO:AL K mg "_law_outs" g2 gd2 ["_law_sentence_here","_law_row"]):FnOk P w K mg bz AO 25 f fd ["_law_row","_law_sentence_here","_law_said"] (KB K):=by
 refine F.ok NY (fun vs H Q E h=>?_) (fun cdv A outer s H vs Q E hr h=>?_)
 ·obtain⟨r,z,v,t,row,rfl,_⟩:=h
  rfl
 obtain⟨r,z,v,t,row,rfl,ha,hok,hs,hS,hl,q⟩:=h
 refine⟨_,Ad (AE (Am AS (pv 2) Ar (As _))
   (Ae (Aj (Ai GI hr (by rfl) CI.m CI.k CI.b .nil Au (Aa (pv 1) (Aa (pv 0) Ab)))))
   An)
  (Ad (AE (Am AS (pv 2) Ar (As _))
   (Ae (Aj (Ai GO hr (by rfl) CO.m CO.k CO.b .nil Au (Aa (pv 1) (Aa (pv 0) Ab)))))
   An)
  (Ae (Aj (Bi BL (by rfl) T.lst BT (Aa (pv 0) Ab))))),?_⟩
 unfold DR at q
 refine⟨_,rfl,rfl,_,rfl,?_⟩
 by_cases h0:z="grant"
 ·refine Bp (by rw[h0]) ?_
  simp only[if_pos h0] at q
  exact⟨_,rfl,_,rfl,v,t,r,row,rfl,ha,hok,hs,hS,hl,fun l H' s' hl0 hr'=>q l H' s' hl0 hr'⟩
 refine Bk (fun e=>h0 (by injection e)) ?_
 simp only[if_neg h0] at q
 refine⟨_,rfl,rfl,_,rfl,?_⟩
 by_cases h1:z="deny"
 ·refine Bp (by rw[h1]) ?_
  simp only[if_pos h1] at q
  exact⟨_,rfl,_,rfl,v,t,r,row,rfl,ha,hok,hs,hS,hl,fun l H' s' hl0 hr'=>q l H' s' hl0 hr'⟩
 refine Bk (fun e=>h1 (by injection e)) ?_
 simp only[if_neg h1] at q
 exact⟨_,rfl,r,_,rfl,.inl hS,fun l hl0=>q l _ (Ag hl0 _) hl0 Ac⟩
end
abbrev Hl:Stmt:=BD 56
def Nm (K:PySem.W.Frag):Sp:=fun vs H Q _=>∃(sd g s:Addr) (v:V) (t:Tr) (xs:List V) (sides:List (List Int)) (going seen:List Int),vs=[.ref sd,.ref g,.ref s,v]∧t.At H v∧t.ok 5∧t.size≤23∧SqL K H sd xs∧RowsAt H xs sides∧(∀s∈sides,s.length≤900)∧SqL K H g (going.map V.int)∧going.length≤900∧SqL K H s (seen.map V.int)∧seen.length≤900∧∀(H':Hp),Same H H'→Q (.str (FU sides going seen t)) H'
section
theorem scLdue:Ap ["_law_sides_here","_law_going","_law_seen","_law_sentence_here","_law_ins_here","_law_outs_here","_law_wish"] ["_law_sides_here","_law_going","_law_seen","_law_sentence_here"] (Af Hl):=BC
theorem Ow {g1 g2 g3 g4:Addr} {d1 d2 d3 d4:FuncData} (F:Fun K "_law_due" "_law_due" Hl f fd) (GI:FnOk P w K mg bz AO 24 g1 d1 ["_law_sentence_here","_law_row"] (Ej K true)) (CI:AL K mg "_law_ins" g1 d1 ["_law_sentence_here","_law_row"])
  (GO:FnOk P w K mg bz AO 24 g2 d2 ["_law_sentence_here","_law_row"] (Ej K false)) (CO:AL K mg "_law_outs" g2 d2 ["_law_sentence_here","_law_row"])
  (GP:FnOk P w K mg bz AO 24 g3 d3 ["_law_seen","_law_sentence_here"] (IA K)) (CP:AL K mg "_law_plain" g3 d3 ["_law_seen","_law_sentence_here"])
  (GS:FnOk P w K mg bz AO 1 g4 d4 ["_law_sides_here","_law_row"] (Jh K)) (CS:AL K mg "_law_stands" g4 d4 ["_law_sides_here","_law_row"]):FnOk P w K mg bz AO 25 f fd ["_law_sides_here","_law_going","_law_seen","_law_sentence_here"] (Nm K):=by
 refine F.ok scLdue (fun vs H Q E h=>?_) (fun cdv A outer s H vs Q E hr h=>?_)
 ·obtain⟨sd,g,s,v,t,xs,sides,going,seen,rfl,_⟩:=h
  rfl
 obtain⟨sd,gg,sn,v,t,xs,sides,going,seen,rfl,ha,hok,hs,hX,hR,hsl,hG,hgl,hN,hnl,q⟩:=h
 have hr1:Room 1 _:=hr.mono (by decide)
 refine⟨_,Ad (Ak (i:=4) scLdue.nd rfl (Or.inl rfl) (Ai GI hr (by rfl) CI.m CI.k CI.b .nil Au (Aa (pv 3) (Aa (pv 1) Ab))))
  (Ad (Ak (i:=5) scLdue.nd rfl (Or.inl rfl) (Ai GO hr (by rfl) CO.m CO.k CO.b .nil Au (Aa (pv 3) (Aa (pv 1) Ab))))
  (Ad (AE (Am (ER hr.units0) (pv 5) (AF Ab) (As _))
   (Ae (Aj Ar))
   An)
  (Ad (AE (Am (ER hr.units0) (pv 4) (AF Ab) (As _))
   (Ae (Aj Ar))
   An)
  (Ad (Ak (i:=6) scLdue.nd rfl (Or.inl rfl) (Ai GP hr (by rfl) CP.m CP.k CP.b .nil Au (Aa (pv 2) (Aa (pv 3) Ab))))
  (Ad (AE (Cz (Am AS (pv 6) Ar (As _)) (BN (A1 (Ai GS hr1 (by rfl) CS.m CS.k CS.b .nil Au (Aa (pv 0) (Aa (pv 4) Ab)))))).pt
   (Ae (Aj Ar))
   An)
  (Ad (AE (Cz (Am AS (pv 6) Ar (As _)) (BN (A1 (Ai GS hr1 (by rfl) CS.m CS.k CS.b .nil Au (Aa (pv 0) (Aa (pv 5) Ab)))))).pt
   (Ae (Aj Ar))
   An)
  (Ae (Aj Ar)))))))),?_⟩
 refine⟨_,rfl,_,rfl,v,t,gg,going,rfl,ha,hok,hs,hG,hgl,fun il H2 s2 hil0 hil=>?_⟩
 refine⟨_,rfl,_,rfl,v,t,gg,going,rfl,ha.keep (TS.same s2),hok,hs,s2.seq hG,hgl,fun ol H3 s3 hol0 hol=>?_⟩
 change AW H2 il (AT true t going) at hil
 change AW H3 ol (AT false t going) at hol
 have s13:=s2.trans s3
 have ili:(AT true t going).length≤900:=Nat.le_trans (List.length_filter_le _ _) hgl
 have oli:(AT false t going).length≤900:=Nat.le_trans (List.length_filter_le _ _) hgl
 refine⟨_,rfl,Fi,fun e1 he1=>?_⟩
 have s4:=Ag he1 (.lst [])
 refine⟨ol,e1,_,rfl,rfl,SqL.of (s4 _ _ hol),SqL.of Ac,_,rfl,?_⟩
 rw[IT]
 unfold FU at q
 by_cases h0:AT false t going=[]
 ·refine Bp h0 ?_
  have:=q _ (s13.trans s4)
  rw[if_pos h0] at this
  exact this
 refine Bk h0 ?_
 simp only[if_neg h0] at q
 refine⟨_,rfl,Fi,fun e2 he2=>?_⟩
 have s5:=Ag he2 (.lst [])
 have hi5:=s5 _ _ (s4 _ _ (s3 _ _ hil))
 refine⟨il,e2,_,rfl,rfl,SqL.of hi5,SqL.of Ac,_,rfl,?_⟩
 rw[IT]
 by_cases h1:AT true t going=[]
 ·refine Bp h1 ?_
  have:=q _ (s13.trans (s4.trans s5))
  rw[if_pos h1] at this
  exact this
 refine Bk h1 ?_
 simp only[if_neg h1] at q
 have s15:=s13.trans (s4.trans s5)
 refine⟨_,rfl,_,rfl,sn,v,t,seen,rfl,ha.keep (TS.same s15),hok,hs,s15.seq hN,hnl,fun H6 s6=>?_⟩
 have s16:=s15.trans s6
 refine⟨_,rfl,rfl,_,rfl,?_⟩
 by_cases hg:BH seen t="grant"
 ·refine Bp (by rw[hg]) ?_
  refine⟨_,rfl,_,rfl,sd,il,_,xs,sides,rfl,SqL.of (s6 _ _ hi5),ili,s16.seq hX,hR.keep s16,hsl,fun H7 s7=>⟨_,rfl,?_⟩⟩
  cases hst:A6 sides (AT true t going) with
  | true=>
   refine Bx ?_
   have:=q _ (s16.trans s7)
   rw[if_pos ⟨hg,hst⟩] at this
   exact this
  | false=>
   refine A0 ?_
   have q7:=q _ (s16.trans s7)
   rw[if_neg (by rw[hst];rintro⟨_,z⟩;cases z),if_neg (by rw[hg];rintro⟨z,_⟩;exact absurd z (by decide))] at q7
   refine⟨_,rfl,rfl,_,rfl,?_⟩
   refine Bk (by rw[hg];decide) ?_
   exact A0 q7
 ·refine Bk (fun z=>hg (by injection z)) ?_
  refine A0 ?_
  refine⟨_,rfl,rfl,_,rfl,?_⟩
  by_cases hd:BH seen t="deny"
  ·refine Bp (by rw[hd]) ?_
   refine⟨_,rfl,_,rfl,sd,ol,_,xs,sides,rfl,SqL.of (s6 _ _ (s5 _ _ (s4 _ _ hol))),oli,s16.seq hX,hR.keep s16,hsl,fun H7 s7=>⟨_,rfl,?_⟩⟩
   have q7:=q _ (s16.trans s7)
   rw[if_neg (fun z=>hg z.1)] at q7
   cases hst:A6 sides (AT false t going) with
   | true=>
    refine Bx ?_
    rw[if_pos ⟨hd,hst⟩] at q7
    exact q7
   | false=>
    refine A0 ?_
    rw[if_neg (by rw[hst];rintro⟨_,z⟩;cases z)] at q7
    exact q7
  ·refine Bk (fun z=>hd (by injection z)) ?_
   refine A0 ?_
   have q7:=q _ s16
   rw[if_neg (fun z=>hg z.1),if_neg (fun z=>hd z.1)] at q7
   exact q7
end
def PairAt (H:Hp) (x:V) (t:Tr) (z:Str):Prop:=∃p v,x= .ref p∧H p=some (.tup [v,.str z])∧t.At H v
theorem PairAt.keep {H H':Hp} (s:Same H H') {x:V} {t:Tr} {z:Str} (h:PairAt H x t z):PairAt H' x t z:=by
 obtain⟨p,v,e,h1,h2⟩:=h
 exact⟨p,v,e,s _ _ h1,h2.keep (TS.same s)⟩
abbrev PairsAt (H:Hp):List V→List (Tr×Str)→Prop:=Paired fun (x:V) (e:Tr×Str)=>PairAt H x e.1 e.2
theorem PairsAt.keep {H H':Hp} (s:Same H H'):∀{xs:List V} {es:List (Tr×Str)},PairsAt H xs es→PairsAt H' xs es
 | _,_,.nil=>.nil
 | _,_,.cons h q=>.cons (h.keep s) (PairsAt.keep s q)
theorem PairsAt.len {H:Hp} {xs:List V} {es:List (Tr×Str)} (h:PairsAt H xs es):xs.length=es.length:=Paired.length h
theorem PairsAt.get {H:Hp}:∀{xs:List V} {es:List (Tr×Str)} {i:Nat} {e:Tr×Str},PairsAt H xs es→es[i]? = some e→∃x,xs[i]? = some x∧PairAt H x e.1 e.2
 | _,_,0,e,.cons h _,hi=>by cases hi;exact⟨_,rfl,h⟩
 | _,_,i+1,e,.cons _ q,hi=>PairsAt.get (i:=i) q hi
abbrev Dz:Stmt:=BD 59
abbrev FreshAt (H:Hp) (many:Nat):List V→List Tr→Prop:=Paired fun (v:V) (t:Tr)=>t.At H v∧t.ok many∧t.size≤20
theorem FreshAt.keep {H H':Hp} {many:Nat} (s:TS H H'):∀{xs:List V} {ts:List Tr},FreshAt H many xs ts→FreshAt H' many xs ts
 | _,_,.nil=>.nil
 | _,_,.cons ⟨h,o,z⟩ q=>.cons ⟨h.keep s,o,z⟩ (FreshAt.keep s q)
theorem FreshAt.get {H:Hp} {many:Nat}:∀{xs:List V} {ts:List Tr} {i:Nat},FreshAt H many xs ts→i<xs.length→∃(v:V) (t:Tr),xs[i]? = some v∧t.At H v∧t.ok many∧t.size≤20
 | _,_,0,.cons h _,_=>⟨_,_,rfl,h⟩
 | _,_,i+1,.cons _ q,hi=>FreshAt.get (i:=i) q (Nat.lt_of_succ_lt_succ hi)
def IU (K:PySem.W.Frag):Sp:=fun vs H Q _=>∃(n:Int) (fr:Addr) (many:Nat) (xs:List V) (ts:List Tr),vs=[.int n,.ref fr,.int many]∧0≤n∧1≤many∧many≤5∧H fr=some (.lst xs)∧FreshAt H many xs ts∧xs≠[]∧xs.length≤900∧
 ∀(v:V) (t:Tr) (H':Hp),Same H H'→t.At H' v→t.ok many→t.size≤21→(1<n%6→t.size≤20)→Q v H'
section
theorem M0:Ap ["_law_n","_law_fresh","_law_many"] ["_law_n","_law_fresh","_law_many"] (Af Dz):=BC
theorem Lg {g:Addr} {gd:FuncData} (F:Fun K "_law_asked" "_law_asked" Dz f fd) (B:Bl mg) (GS:FnOk P w K mg bz AO 1 g gd ["_law_n","_law_most","_law_many"] J7) (CS:AL K mg "_law_sentence" g gd ["_law_n","_law_most","_law_many"]):FnOk P w K mg bz AO 2 f fd ["_law_n","_law_fresh","_law_many"] (IU K):=by
 refine F.ok M0 (fun vs H Q E h=>?_) (fun cdv A outer s H vs Q E hr h=>?_)
 ·obtain⟨n,fr,many,xs,ts,rfl,_⟩:=h
  rfl
 obtain⟨n,fr,many,xs,ts,rfl,hn,hm1,hm5,hfr,hF,hne,hl,q⟩:=h
 have hp:0<xs.length:=List.length_pos_iff.mpr hne
 refine⟨_,Ad (AE (Am AS (AC AZ (pv 0) Ah) Ah (As _))
   (Ae (Aj (AH AG (pv 1) (AC AZ (AC Bb (pv 0) Ah) (Av Aw (by rfl) B.len PySem.boot_len (Aa (pv 1) Ab))) (fun _ _=>rfl))))
   An)
  (Ad (AE (Am AS (AC AZ (pv 0) Ah) Ah (As _))
   (Ae (Aj (Bs (Aa Ar (Aa (AH AG (pv 1) (AC AZ (AC Bb (pv 0) Ah) (Av Aw (by rfl) B.len PySem.boot_len (Aa (pv 1) Ab))) (fun _ _=>rfl)) Ab)))))
   An)
  (Ae (Aj (Ai GS hr (by rfl) CS.m CS.k CS.b .nil Au (Aa (AC Bb (pv 0) Ah) (Aa Ah (Aa (pv 2) Ab))))))),?_⟩
 have e0:=Int.emod_nonneg (n / 6) (show (xs.length:Int)≠0 by omega)
 have e1:=Int.emod_lt_of_pos (n / 6) (show (0:Int)<xs.length by omega)
 obtain⟨v,t,hv,ha,hok,hsz⟩:=FreshAt.get hF (i:=(n / 6%(xs.length:Int)).toNat) (by omega)
 have hat:Fs xs (n / 6%(xs.length:Int))=some v:=by
  have e:n / 6%(xs.length:Int)=(((n / 6%(xs.length:Int)).toNat:Nat):Int):=by omega
  rw[e]
  exact Aq hv
 refine⟨_,rfl,_,_,rfl,rfl,(by show (0:Int)<6;decide),rfl,_,rfl,?_⟩
 refine B2 (fun c=>?_) (fun c=>?_)
 ·have c':n%6=0:=by
   have c2:=of_decide_eq_true c
   injection c2
  refine⟨_,rfl,_,rfl,_,_,rfl,rfl,⟨by decide,by decide⟩,_,rfl,fr,_,rfl,.inl (SqL.of hfr),_,_,rfl,rfl,(by show (0:Int)<((xs.length:Nat):Int);omega),fr,_,_,_,rfl,rfl,SqL.of hfr,hat,?_⟩
  exact q v t H (Same.refl _) ha hok (by omega) (fun z=>by omega)
 refine⟨_,rfl,_,_,rfl,rfl,(by show (0:Int)<6;decide),rfl,_,rfl,?_⟩
 refine B2 (fun c=>?_) (fun c=>?_)
 ·have c':n%6=1:=by
   have c2:=of_decide_eq_true c
   injection c2
  refine⟨_,rfl,_,rfl,_,_,rfl,rfl,⟨by decide,by decide⟩,_,rfl,fr,_,rfl,.inl (SqL.of hfr),_,_,rfl,rfl,(by show (0:Int)<((xs.length:Nat):Int);omega),fr,_,_,_,rfl,rfl,SqL.of hfr,hat,Jd,fun p hp0=>?_⟩
  have s2:=Ag hp0 (.tup [.str "not",v])
  exact q (.ref p) (.nt t) _ s2 ⟨p,v,rfl,Ac,ha.keep (TS.same s2)⟩ hok (by show t.size+1≤21;omega) (fun z=>by omega)
 ·refine⟨_,rfl,_,_,rfl,rfl,⟨by decide,by decide⟩,_,rfl,n / 6,6,many,rfl,by omega,by decide,by decide,hm1,hm5,fun v t H' s' ha' hok' hsz'=>?_⟩
  exact q v t H' s' ha' hok' (by omega) (fun _=>by omega)
end
theorem Ix:bootBuiltins "min"=some (.builtin "min"):=by decide +kernel
abbrev Ey:Stmt:=BD 60
abbrev EA:Stmt:=BD 61
def KM (K:PySem.W.Frag):Sp:=fun vs H Q _=>∃(a:Addr) (ns:List Int) (st n:Int),vs=[.ref a,.int st,.int n]∧SqL K H a (ns.map V.int)∧ns.length≤63∧0≤st∧st≤100∧∀(m:Int),0≤m→m≤200→Q (.int m) H
abbrev AskedAt (H:Hp) (many:Nat):List V→List Tr→Prop:=Paired fun (v:V) (t:Tr)=>t.At H v∧t.ok many∧t.size≤21
theorem AskedAt.keep {H H':Hp} {many:Nat} (s:TS H H'):∀{xs:List V} {ts:List Tr},AskedAt H many xs ts→AskedAt H' many xs ts
 | _,_,.nil=>.nil
 | _,_,.cons ⟨h,o,z⟩ q=>.cons ⟨h.keep s,o,z⟩ (AskedAt.keep s q)
theorem AskedAt.snoc {H:Hp} {many:Nat} {v:V} {t:Tr} (h:t.At H v∧t.ok many∧t.size≤21):∀{xs:List V} {ts:List Tr},AskedAt H many xs ts→AskedAt H many (xs++[v]) (ts++[t])
 | _,_,.nil=>.cons h .nil
 | _,_,.cons x q=>.cons x (AskedAt.snoc h q)
theorem FreshAt.snoc {H:Hp} {many:Nat} {v:V} {t:Tr} (h:t.At H v∧t.ok many∧t.size≤20):∀{xs:List V} {ts:List Tr},FreshAt H many xs ts→FreshAt H many (xs++[v]) (ts++[t])
 | _,_,.nil=>.cons h .nil
 | _,_,.cons x q=>.cons x (FreshAt.snoc h q)
def Km (K:PySem.W.Frag):Sp:=fun vs H Q _=>∃(a:Addr) (ns:List Int) (st:Int) (many:Nat) (v:V) (t:Tr),vs=[.ref a,.int st,.int many,v]∧SqL K H a (ns.map V.int)∧ns.length≤63∧0≤st∧st≤100∧1≤many∧many≤5∧t.At H v∧t.ok many∧t.size≤20∧
 ∀(l:Addr) (xs:List V) (ts:List Tr) (H':Hp),Same H H'→H l=none→H' l=some (.lst xs)→AskedAt H' many xs ts→xs.length≤200→Q (.ref l) H'
section
abbrev EE:Stmt:=BD 63
def KP (K:PySem.W.Frag):Sp:=fun vs H Q _=>∃(a:Addr) (ns:List Int),vs=[.ref a]∧SqL K H a (ns.map V.int)∧ns.length≤63∧∀(z:Str) (H':Hp),Same H H'→HR z→Q (.str z) H'
theorem Of:Ap ["_law_script"] ["_law_script"] (Af EE):=BC
theorem Nv {g:Addr} {gd:FuncData} (F:Fun K "_law_rule" "_law_rule" EE f fd) (GN:FnOk P w K mg bz AO 1 g gd ["_law_script","_law_k"] (Nu K)) (CN:AL K mg "_law_num" g gd ["_law_script","_law_k"]):FnOk P w K mg bz AO 2 f fd ["_law_script"] (KP K):=by
 refine F.ok Of (fun vs H Q E h=>?_) (fun cdv A outer s H vs Q E hr h=>?_)
 ·obtain⟨a,ns,rfl,_⟩:=h
  rfl
 obtain⟨a,ns,rfl,hS,h63,q⟩:=h
 refine⟨_,Ae (Aj (AH AG (AF (Aa Ar (Aa Ar Ab))) (AC AZ (AC Bb (Ai GN hr (by rfl) CN.m CN.k CN.b .nil Au (Aa (pv 0) (Aa Ah Ab))) Ah) Ah) (fun _ _=>rfl))),?_⟩
 refine⟨Jd,fun l hl=>?_⟩
 have s1:=Ag hl (.lst [.str "elder",.str "newer"])
 refine⟨_,rfl,a,ns,3,rfl,s1.seq hS,h63,by decide,by decide,fun n H2 hn s2=>?_⟩
 have e0:=Int.emod_nonneg (n / 3) (show (2:Int)≠0 by decide)
 have e1:=Int.emod_lt_of_pos (n / 3) (show (0:Int)<2 by decide)
 have l2:=s2 _ _ (show AA H l (.lst [.str "elder",.str "newer"]) l=_ from Ac)
 have two:n / 3%2=((0:Nat):Int)∨n / 3%2=((1:Nat):Int):=by omega
 have hat:∃z,HR z∧Fs [V.str "elder",V.str "newer"] (n / 3%2)=some (.str z):=by
  rcases two with e | e<;>rw[e]
  ·exact⟨_,.inl rfl,Aq (j:=0) rfl⟩
  ·exact⟨_,.inr rfl,Aq (j:=1) rfl⟩
 obtain⟨z,hz,hat⟩:=hat
 exact⟨_,_,rfl,rfl,⟨by decide,by decide⟩,_,_,rfl,rfl,(by show (0:Int)<2;decide),l,_,_,_,rfl,rfl,SqL.of l2,hat,q z _ (s1.trans s2) hz⟩
theorem OF:Ap ["_law_script","_law_start_here","_law_n"] ["_law_script","_law_start_here","_law_n"] (Af Ey):=BC
theorem M6 (F:Fun K "_law_last" "_law_last" Ey f fd) (B:Bl mg):FnOk P w K mg bz AO 1 f fd ["_law_script","_law_start_here","_law_n"] (KM K):=by
 refine F.ok OF (fun vs H Q E h=>?_) (fun cdv A outer s H vs Q E hr h=>?_)
 ·obtain⟨a,ns,st,n,rfl,_⟩:=h
  rfl
 obtain⟨a,ns,st,n,rfl,hS,h63,h0,h1,q⟩:=h
 refine⟨_,Ad (AE (Am EW (Av Aw (by rfl) B.len PySem.boot_len (Aa (pv 0) Ab)) (pv 1) (As _))
   (Ae (Aj (Av Aw (by rfl) B.len PySem.boot_len (Aa (pv 0) Ab))))
   An)
  (Ae (Aj (AC B1 (pv 1) (AC AZ (pv 2) Ah)))),?_⟩
 have hl:(ns.map V.int).length=ns.length:=List.length_map _
 refine⟨_,rfl,a,_,rfl,.inl hS,_,rfl,_,_,rfl,rfl,_,rfl,?_⟩
 refine B2 (fun c=>?_) (fun c=>?_)
 ·exact⟨_,rfl,a,_,rfl,.inl hS,q _ (by omega) (by rw[hl];omega)⟩
 ·have e0:=Int.emod_nonneg n (show (6:Int)≠0 by decide)
  have e1:=Int.emod_lt_of_pos n (show (0:Int)<6 by decide)
  exact⟨_,rfl,_,rfl,_,_,rfl,rfl,(by show (0:Int)<6;decide),_,_,rfl,rfl,q _ (by omega) (by omega)⟩
theorem scLasks:Ap ["_law_script","_law_start_here","_law_many","_law_first","_law_fresh","_law_found","_law_last_here","_law_k","_law_sentence_here"] ["_law_script","_law_start_here","_law_many","_law_first"] (Af EA):=BC
theorem Nd {g1 g2 g3:Addr} {d1 d2 d3:FuncData} (F:Fun K "_law_asks" "_law_asks" EA f fd) (B:Bl mg) (HMIN:mg "min"=none) (GN:FnOk P w K mg bz AO 1 g1 d1 ["_law_script","_law_k"] (HV K)) (CN:AL K mg "_law_num" g1 d1 ["_law_script","_law_k"])
  (GL:FnOk P w K mg bz AO 1 g2 d2 ["_law_script","_law_start_here","_law_n"] (KM K)) (CL:AL K mg "_law_last" g2 d2 ["_law_script","_law_start_here","_law_n"]) (GA:FnOk P w K mg bz AO 2 g3 d3 ["_law_n","_law_fresh","_law_many"] (IU K)) (CA:AL K mg "_law_asked" g3 d3 ["_law_n","_law_fresh","_law_many"]):FnOk P w K mg bz AO 3 f fd ["_law_script","_law_start_here","_law_many","_law_first"] (Km K):=by
 refine F.ok scLasks (fun vs H Q E h=>?_) (fun cdv A outer s H vs Q E hr h=>?_)
 ·obtain⟨a,ns,st,many,v,t,rfl,_⟩:=h
  rfl
 obtain⟨a,ns,st,many,v,t,rfl,hS,h63,h0,h1,hm1,hm5,ha,hok,hsz,q⟩:=h
 have hr1:Room 1 _:=hr.mono (by decide)
 refine⟨_,Ad (Ak (i:=4) scLasks.nd rfl (Or.inl rfl) (AF (Aa (pv 3) Ab)))
  (Ad (Ak (i:=5) scLasks.nd rfl (Or.inl rfl) (AF Ab))
  (Ad (Ak (i:=6) scLasks.nd rfl (Or.inl rfl) (Ai GL hr1 (by rfl) CL.m CL.k CL.b .nil Au (Aa (pv 0) (Aa (pv 1) (Aa (AC Bb (Ai GN hr1 (by rfl) CN.m CN.k CN.b .nil Au (Aa (pv 0) (Aa Ah Ab))) Ah) Ab)))))
  (Ad (AE (Am EW (pv 2) Ah (As _))
   (Ae (Ak (i:=6) scLasks.nd rfl (Or.inl rfl) (Av (GY rfl) (by rfl) HMIN Ix (Aa (pv 6) (Aa (AC B1 (pv 1) (AH AG (AF (Aa Ah (Aa Ah Ab))) (AC Fl (pv 2) Ah) (fun _ _=>rfl))) Ab)))))
   An)
  (Ad (Ba PassesOwn.never rfl (LJ (by rfl) B.range (Aa (pv 1) (Aa (pv 6) Ab))) (Ax (i:=7) scLasks.nd rfl (Or.inl rfl))
   (Ad (Ak (i:=8) scLasks.nd rfl (Or.inl rfl) (Ai GA hr (by rfl) CA.m CA.k CA.b .nil Au (Aa (Ai GN hr1 (by rfl) CN.m CN.k CN.b .nil Au (Aa (pv 0) (Aa (pv 7) Ab))) (Aa (pv 4) (Aa (pv 2) Ab)))))
   (Ad (AE (Am EW (AC AZ (Ai GN hr1 (by rfl) CN.m CN.k CN.b .nil Au (Aa (pv 0) (Aa (pv 7) Ab))) Ah) Ah (As _))
    (Ae (AU (Bz PySem.F.plainAttrs_list PySem.F.slot_list_append PySem.F.type_list_append AN (pv 4) (Aa (pv 8) Ab))))
    An)
   (Ae (AU (Bz PySem.F.plainAttrs_list PySem.F.slot_list_append PySem.F.type_list_append AN (pv 5) (Aa (pv 8) Ab)))))))
  (Ae (Aj (pv 5))))))),?_⟩
 refine⟨_,rfl,LE,fun fr hfr=>?_⟩
 have s1:=Ag hfr (.lst [v])
 have fr1:AA H fr (.lst [v]) fr=some (.lst [v]):=Ac
 generalize AA H fr _=H1 at *
 refine⟨Fi,fun fo hfo=>?_⟩
 have s2:=Ag hfo (.lst [])
 have fo2:AA H1 fo (.lst []) fo=some (.lst []):=Ac
 generalize AA H1 fo _=H2 at *
 have nff:fr≠fo:=Ay fr1 hfo
 have t2:=s1.trans s2
 have fo0:H fo=none:=s1.free hfo
 refine⟨_,rfl,_,rfl,_,rfl,a,ns,0,rfl,t2.seq hS,h63,by decide,by decide,fun H3 hn0 s3=>?_⟩
 refine⟨_,_,rfl,rfl,⟨by decide,by decide⟩,a,ns,st,_,rfl,(t2.trans s3).seq hS,h63,h0,h1,fun m hm0 hm2=>?_⟩
 have t3:=t2.trans s3
 have fr3:=s3 _ _ (s2 _ _ fr1)
 have fo3:=s3 _ _ fo2
 refine HL (fun σ H4=>∃last:Int,0≤last∧last≤200∧σ=[some (.ref a),some (.int st),some (.int (many:Int)),some v,some (.ref fr),some (.ref fo),some (.int last),none,none]∧Same H3 H4) ?_ ?_
 ·rintro σ H4 ⟨last,hl0,hl2,rfl,s4⟩
  have t4:=t3.trans s4
  refine⟨_,rfl,_,rfl,_,_,rfl,⟨by omega,by omega,by omega,by omega⟩,Bo (lo:=st) (n:=(last-st).toNat) (fun i σ H5=>∃(v0 v1:Option V) (fs xs:List V) (fts ts:List Tr),σ=[some (.ref a),some (.int st),some (.int (many:Int)),some v,some (.ref fr),some (.ref fo),some (.int last),v0,v1]∧Same H H5∧H5 fr=some (.lst fs)∧FreshAt H5 many fs fts∧fs≠[]∧fs.length≤1+i∧H5 fo=some (.lst xs)∧AskedAt H5 many xs ts∧xs.length=i) ?_ ?_ ?_⟩
  ·exact⟨_,_,[v],[],[t],[],rfl,t4,s4 _ _ fr3,.cons ⟨ha.keep (TS.same t4),hok,hsz⟩ .nil,by simp,by simp,s4 _ _ fo3,.nil,rfl⟩
  ·rintro i σ H5 hi ⟨v0,v1,fs,xs,fts,ts,rfl,s5,fr5,F5,ne5,l5,fo5,A5,x5⟩
   have hi':i<200:=by omega
   have hk1:st+(i:Int)≤1000:=by omega
   refine⟨_,rfl,_,rfl,a,ns,_,rfl,s5.seq hS,h63,by omega,hk1,fun H6 hn6 s6=>?_⟩
   refine⟨_,rfl,_,rfl,_,fr,many,fs,fts,rfl,hn6,hm1,hm5,s6 _ _ fr5,F5.keep (TS.same s6),ne5,by omega,fun v2 t2' H7 s7 ha7 hok7 hsz7 hlt7=>?_⟩
   have u7:=s6.trans s7
   refine HL (fun σ H9=>∃(fs:List V) (fts:List Tr),σ=[some (.ref a),some (.int st),some (.int (many:Int)),some v,some (.ref fr),some (.ref fo),some (.int last),some (.int (st+(i:Int))),some v2]∧Same H H9∧H9 fr=some (.lst fs)∧FreshAt H9 many fs fts∧fs≠[]∧fs.length≤1+(i+1)∧H9 fo=some (.lst xs)∧AskedAt H9 many xs ts∧t2'.At H9 v2) ?_ ?_
   ·rintro σ H9 ⟨fs9,fts9,rfl,s9,fr9,F9,ne9,l9,fo9,A9,ha9⟩
    refine⟨_,rfl,.inl ⟨rfl,_,SqL.of fo9⟩,_,rfl,fo,_,_,rfl,rfl,fo9,AJ (by omega),?_⟩
    have ts9:TS H9 (AA H9 fo (.lst (xs++[v2]))):=TS.lst fo9
    exact⟨_,_,fs9,xs++[v2],fts9,ts++[t2'],rfl,AD s9 fo0 _,by rw[Az nff];exact fr9,F9.keep ts9,ne9,l9,Ac,(A9.keep ts9).snoc ⟨ha9.keep ts9,hok7,hsz7⟩,by rw[List.length_append,x5];rfl⟩
   ·intro next
    refine⟨_,rfl,_,rfl,a,ns,_,rfl,(s5.trans u7).seq hS,h63,by omega,hk1,fun H8 hn8 s8=>?_⟩
    refine⟨_,_,rfl,rfl,(by show (0:Int)<6;decide),_,_,rfl,rfl,_,rfl,?_⟩
    have u8:=u7.trans s8
    have fr8:=u8 _ _ fr5
    have fo8:=u8 _ _ fo5
    refine B2 (fun c=>?_) (fun c=>?_)
    ·have c':1<JZ ns (st+(i:Int))%6:=of_decide_eq_true c
     refine⟨_,rfl,.inl ⟨rfl,_,SqL.of fr8⟩,_,rfl,fr,_,_,rfl,rfl,fr8,AJ (by omega),?_⟩
     have ts9:TS H8 (AA H8 fr (.lst (fs++[v2]))):=TS.lst fr8
     refine next _ _ ⟨fs++[v2],fts++[t2'],rfl,AD (s5.trans u8) hfr _,Ac,FreshAt.snoc ⟨(ha7.keep (TS.same s8)).keep ts9,hok7,hlt7 c'⟩ ((F5.keep (TS.same u8)).keep ts9),by simp,by rw[List.length_append];show fs.length+1≤_;omega,by rw[Az nff.symm];exact fo8,(A5.keep (TS.same u8)).keep ts9,(ha7.keep (TS.same s8)).keep ts9⟩
    ·exact next _ _ ⟨fs,fts,rfl,s5.trans u8,fr8,F5.keep (TS.same u8),ne5,by omega,fo8,A5.keep (TS.same u8),ha7.keep (TS.same s8)⟩
  ·rintro σ H5 ⟨v0,v1,fs,xs,fts,ts,rfl,s5,fr5,F5,ne5,l5,fo5,A5,x5⟩
   exact⟨_,rfl,q fo xs ts H5 s5 fo0 fo5 A5 (by omega)⟩
 ·intro next
  refine⟨_,rfl,_,_,rfl,rfl,_,rfl,?_⟩
  refine B2 (fun c=>?_) (fun c=>?_)
  ·have c':3<(many:Int):=of_decide_eq_true c
   have two:(many:Int)-4=((0:Nat):Int)∨(many:Int)-4=((1:Nat):Int):=by omega
   have hat:∃y:Int,0≤y∧y≤24∧Fs [V.int 24,V.int 16] ((many:Int)-4)=some (.int y):=by
    rcases two with e | e<;>rw[e]
    ·exact⟨24,by decide,by decide,Aq (j:=0) rfl⟩
    ·exact⟨16,by decide,by decide,Aq (j:=1) rfl⟩
   obtain⟨y,hy0,hy1,hat⟩:=hat
   refine⟨_,rfl,_,rfl,Jd,fun L hL=>⟨_,rfl,_,_,rfl,rfl,L,_,_,_,rfl,rfl,SqL.of Ac,hat,_,_,rfl,rfl,_,_,rfl,?_⟩⟩
   refine next _ _ ⟨_,?_,?_,rfl,Ag hL _⟩
   ·split<;>omega
   ·split<;>omega
  ·exact next _ _ ⟨m,hm0,hm2,rfl,Same.refl _⟩
end
def LC (w:Str):Prop:=w="grant"∨w="deny"∨w="doubt"
theorem NB (sides:List (List Int)) (g seen:List Int) (t:Tr):LC (FU sides g seen t):=by
 unfold FU
 split
 ·exact .inl rfl
 ·split
  ·exact .inr (.inl rfl)
  ·split
   ·exact .inl rfl
   ·split
    ·exact .inr (.inl rfl)
    ·exact .inr (.inr rfl)
def BW (g:List Int) (es:List (Tr×Str)):List Int:=es.foldl (fun g e=>DR e.2 g e.1) g
theorem K4 (g:List Int) (es:List (Tr×Str)) (e:Tr×Str):BW g (es++[e])=DR e.2 (BW g es) e.1:=by
 unfold BW
 rw[List.foldl_append]
 rfl
theorem Hb:∀(es:List (Tr×Str)) (g:List Int),(BW g es).Sublist g
 | [],g=>List.Sublist.refl _
 | e::es,g=>(Hb es (DR e.2 g e.1)).trans (Gv _ _ _)
section
variable {X:Cx}
def Ri (K:PySem.W.Frag):R2:=fun x y H Q=>∃a b xs,x= .ref a∧y= .ref b∧SqL K H a xs∧SqL K H b xs∧(∀v∈xs,∃p,v=V.ref p)∧Q (.bl false) H
theorem PQ (hu:X.A.units+9<cLine):D0 X (compareOp .NotEq) (Ri X.K):=by
 intro pins s σ H x y v u Q I rx ry h
 obtain⟨a,b,xs,rfl,rfl,h1,h2,hr,q⟩:=h
 cases rx
 cases ry
 obtain⟨its,q1,pl,_⟩:=I.list h1
 obtain⟨its2,q2,pl2,_⟩:=I.list h2
 have l1:=q1.length
 have l2:=q2.length
 refine SeqAt.RcNeAt.lists (e:=fun _=>true) pl.isList pl2.isList (by simp;omega) (by omega) (fun j j1 j2=>?_) _ _ _ _ ?_
 ·have j1':j<its.length:=by simpa using j1
  have j2':j<its2.length:=by simpa using j2
  have hx1:xs[j]? = some xs[j]:=List.getElem?_eq_getElem (by omega)
  obtain⟨p,hp⟩:=hr xs[j] (List.getElem_mem (by omega))
  obtain⟨u1,e1,ru1⟩:=q1.get hx1
  obtain⟨u2,e2,ru2⟩:=q2.get hx1
  rw[hp] at ru1 ru2
  cases ru1
  cases ru2
  have e1':its.toArray[j]=Value.ref p:=by
   have:=List.getElem?_eq_getElem j1'
   rw[this] at e1
   simpa using Option.some.inj e1
  have e2':its2.toArray[j]=Value.ref p:=by
   have:=List.getElem?_eq_getElem j2'
   rw[this] at e2
   simpa using Option.some.inj e2
  rw[e1',e2']
  exact SeqAt.EqAt.same _
 ·rw[Dl]
  exact⟨.bl false,H,I,rfl,q⟩
end
theorem P3 {H:Hp} {a:Addr} {xs ys:List V} (h:H a=some (.lst xs)):TS H (AA H a (.lst ys)):=fun p zs e=>by
 by_cases c:p=a
 ·rw[c,h] at e;cases e
 ·rw[Az c];exact e
theorem Fk {H:Hp}:∀{xs:List V} {es:List (Tr×Str)},PairsAt H xs es→∀v∈xs,∃p,v=V.ref p
 | _,_,.nil,v,h=>by cases h
 | _,_,.cons ⟨p,_,e,_⟩ q,v,h=>by
  rcases List.mem_cons.mp h with rfl | h
  ·exact⟨p,e⟩
  ·exact Fk q v h
def HF (rule:Str) (bas h:List Int):List Int:=if rule="elder" then h else bas
structure Jp where
 S:List (List Int)
 rule:Str
 bas:List Int
 seen:List Int
def Jp.due (j:Jp) (h:List Int) (u:Tr):Str:=FU j.S (HF j.rule j.bas h) j.seen u
def Jp.nxt (j:Jp) (h:List Int) (u:Tr):List Int:=DR (j.due h u) h u
def Jp.hld (j:Jp) (h:List Int) (us:List Tr):List Int:=us.foldl j.nxt h
def Jp.ans (j:Jp):List Int→List Tr→List (Tr×Str)
 | _,[]=>[]
 | h,u::us=>(u,j.due h u)::j.ans (j.nxt h u) us
theorem Jp.hld_snoc (j:Jp) (h:List Int) (us:List Tr) (u:Tr):j.hld h (us++[u])=j.nxt (j.hld h us) u:=by
 unfold Jp.hld
 rw[List.foldl_append]
 rfl
theorem Jp.ans_len (j:Jp):∀(us:List Tr) (h:List Int),(j.ans h us).length=us.length
 | [],_=>rfl
 | u::us,h=>by show (j.ans (j.nxt h u) us).length+1=us.length+1;rw[j.ans_len us]
theorem Jp.ans_snoc (j:Jp):∀(us:List Tr) (h:List Int) (u:Tr),j.ans h (us++[u])=j.ans h us++[(u,j.due (j.hld h us) u)]
 | [],h,u=>rfl
 | v::us,h,u=>by
  show (v,j.due h v)::j.ans (j.nxt h v) (us++[u])=_
  rw[j.ans_snoc us]
  rfl
theorem Jp.ans_get (j:Jp):∀(us:List Tr) (h:List Int) (i:Nat) (u:Tr),us[i]? = some u→(j.ans h us)[i]? = some (u,j.due (j.hld h (us.take i)) u)
 | [],_,_,_,e=>by simp at e
 | v::us,h,0,u,e=>by
  simp at e
  subst e
  rfl
 | v::us,h,i+1,u,e=>by
  show (j.ans (j.nxt h v) us)[i]? = _
  rw[j.ans_get us _ i u (by simpa using e)]
  rfl
theorem Jp.held (j:Jp):∀(us:List Tr) (h:List Int),BW h (j.ans h us)=j.hld h us
 | [],_=>rfl
 | u::us,h=>j.held us (j.nxt h u)
theorem Jp.sub (j:Jp):∀(us:List Tr) (h:List Int),(j.hld h us).Sublist h
 | [],h=>List.Sublist.refl _
 | u::us,h=>(j.sub us (j.nxt h u)).trans (Gv _ _ _)
theorem Jp.word (j:Jp):∀(us:List Tr) (h:List Int),∀e∈j.ans h us,LC e.2∧e.1∈us
 | [],_,e,he=>by cases he
 | u::us,h,e,he=>by
  rcases List.mem_cons.mp he with rfl | he
  ·exact⟨NB _ _ _ _,List.mem_cons_self⟩
  ·obtain⟨h1,h2⟩:=j.word us _ e he
   exact⟨h1,List.mem_cons_of_mem _ h2⟩
abbrev BO:Stmt:=BD 58
abbrev FT (H:Hp) (x:V) (e:V×Str):Prop:=∃p,x= .ref p∧H p=some (.tup [e.1,.str e.2])
theorem BB {H H':Hp} (s:TS H H'):∀{xs:List V} {es:List (V×Str)},Paired (FT H) xs es→Paired (FT H') xs es
 | _,_,.nil=>.nil
 | _,_,.cons ⟨p,e,h⟩ q=>.cons ⟨p,e,s _ _ h⟩ (BB s q)
theorem IG {α β:Type} {R:α→β→Prop} {a:α} {b:β} (h:R a b):∀{xs:List α} {ys:List β},Paired R xs ys→Paired R (xs++[a]) (ys++[b])
 | _,_,.nil=>.cons h .nil
 | _,_,.cons r q=>.cons r (IG h q)
theorem KA {α β:Type} {a:α} {b:β}:∀{xs:List α} {ys:List β},xs.length=ys.length→(xs++[a]).zip (ys++[b])=xs.zip ys++[(a,b)]
 | [],[],_=>rfl
 | x::xs,y::ys,h=>by
  show (x,y)::(xs++[a]).zip (ys++[b])=_
  rw[KA (by simpa using h)]
  rfl
theorem IH {H:Hp}:∀{axs ps:List V} {us:List Tr} {ws:List Str},Pile H axs us→Paired (FT H) ps (axs.zip ws)→axs.length=ws.length→PairsAt H ps (us.zip ws)
 | _,_,_,[],.nil,.nil,_=>.nil
 | _,_,_,w::ws,.cons h q,.cons ⟨p,e,h1⟩ r,hl=>.cons ⟨p,_,e,h1,h⟩ (IH q r (by simpa using hl))
theorem Jp.zip (j:Jp):∀(us:List Tr) (h:List Int),us.zip ((j.ans h us).map Prod.snd)=j.ans h us
 | [],_=>rfl
 | u::us,h=>by
  show (u,_)::us.zip ((j.ans _ us).map Prod.snd)=_
  rw[j.zip us]
  rfl
def FG (K:PySem.W.Frag):Sp:=fun vs H Q _=>∃(al sd hl bs sn:Addr) (rule:Str) (axs xs:List V) (us:List Tr) (S:List (List Int)) (h bas seen:List Int),vs=[.ref al,.ref sd,.ref hl,.ref bs,.str rule,.ref sn]∧SqL K H al axs∧Pile H axs us∧(∀u∈us,u.ok 5∧u.size≤23)∧us.length≤300∧SqL K H sd xs∧RowsAt H xs S∧(∀s∈S,s.length≤900)∧AW H hl h∧h.length≤900∧AW H bs bas∧bas.length≤900∧AW H sn seen∧seen.length≤900∧
 ∀(l:Addr) (ps:List V) (H':Hp),Same H H'→H l=none→H' l=some (.lst ps)→Paired (FT H') ps (axs.zip ((Jp.ans ⟨S,rule,bas,seen⟩ h us).map Prod.snd))→Q (.ref l) H'
section
variable {cK cS cO:Addr}
theorem scLanswers:Ap ["_law_asks_here","_law_sides_here","_law_held","_law_base_here","_law_rule_here","_law_seen","_law_row","_law_asked_here","_law_due_here"] ["_law_asks_here","_law_sides_here","_law_held","_law_base_here","_law_rule_here","_law_seen"] (Af BO):=BC
theorem Jn {g1 g2:Addr} {d1 d2:FuncData} (F:Fun K "_law_answers" "_law_answers" BO f fd) (GU:FnOk P w K mg bz AO 25 g1 d1 ["_law_sides_here","_law_going","_law_seen","_law_sentence_here"] (Nm K)) (CU:AL K mg "_law_due" g1 d1 ["_law_sides_here","_law_going","_law_seen","_law_sentence_here"]) (GL:FnOk P w K mg bz AO 25 g2 d2 ["_law_row","_law_sentence_here","_law_said"] (KB K)) (CL:AL K mg "_law_left" g2 d2 ["_law_row","_law_sentence_here","_law_said"]):FnOk P w K mg bz AO 26 f fd ["_law_asks_here","_law_sides_here","_law_held","_law_base_here","_law_rule_here","_law_seen"] (FG K):=by
 refine F.ok scLanswers (fun vs H Q E h=>?_) (fun cdv A outer s H vs Q E hr h=>?_)
 ·obtain⟨al,sd,hl,bs,sn,rule,axs,xs,us,S,h,bas,seen,rfl,_⟩:=h
  rfl
 obtain⟨al,sd,hl,bs,sn,rule,axs,xs,us,S,h0,bas,seen,rfl,hA,hP,hok,hul,hX,hR,hsl,hH,lh,hB,lb,hN,ln,q⟩:=h
 have hr25:Room 25 _:=hr.mono (by decide)
 have hpl:=hP.len
 obtain⟨j,hj⟩:∃j:Jp,j=⟨S,rule,bas,seen⟩:=⟨_,rfl⟩
 rw[←hj] at q
 refine⟨_,Ad (Ak (i:=6) scLanswers.nd rfl (Or.inl rfl) (AF Ab))
  (Ad (Ba PassesOwn.never rfl (AK (pv 0)) (Ax (i:=7) scLanswers.nd rfl (Or.inl rfl))
   (Ad (Ak (i:=8) scLanswers.nd rfl (Or.inl rfl) (Ai GU hr25 (by rfl) CU.m CU.k CU.b .nil Au (Aa (pv 1) (Aa (IP (Am AS (pv 4) Ar (As _)) (pv 2) (pv 3)) (Aa (pv 5) (Aa (pv 7) Ab))))))
   (Ad (Ak (i:=2) scLanswers.nd rfl (Or.inl rfl) (Ai GL hr25 (by rfl) CL.m CL.k CL.b .nil Au (Aa (pv 2) (Aa (pv 7) (Aa (pv 8) Ab)))))
   (Ae (AU (Bz PySem.F.plainAttrs_list PySem.F.slot_list_append PySem.F.type_list_append AN (pv 6) (Aa (Bs (Aa (pv 7) (Aa (pv 8) Ab))) Ab)))))))
  (Ae (Aj (pv 6)))),?_⟩
 refine⟨Fi,fun rl hrl=>?_⟩
 have s1:=Ag hrl (.lst [])
 have rl1:AA H rl (.lst []) rl=some (.lst []):=Ac
 refine⟨_,rfl,al,rfl,⟨_,s1.seq hA⟩,AQ (K:=K) (a:=al) (xs:=axs) (fun i σ Hi=>∃(v1 v2:Option V) (hi:Addr) (ps:List V),σ=[some (.ref al),some (.ref sd),some (.ref hi),some (.ref bs),some (.str rule),some (.ref sn),some (.ref rl),v1,v2]∧Same H Hi∧Hi rl=some (.lst ps)∧Paired (FT Hi) ps ((axs.take i).zip ((j.ans h0 (us.take i)).map Prod.snd))∧hi≠rl∧AW Hi hi (j.hld h0 (us.take i))) ⟨_,_,hl,[],rfl,s1,rl1,.nil,(fun z=>by
  have hH':H hl=some (.lst (h0.map V.int)):=hH
  rw[z,hrl] at hH'
  cases hH'),s1 _ _ hH⟩ ?_ ?_ ?_⟩
 ·rintro i σ Hi _ ⟨v1,v2,hi,ps,rfl,si,_⟩
  exact si.seq hA
 ·rintro i y σ Hi hy ⟨v1,v2,hi,ps,rfl,si,hrli,hPs,hne,hhi⟩
  obtain⟨u,hu,hat⟩:=B6 hP hy
  obtain⟨ok5,hsz⟩:=hok u (List.mem_of_getElem? hu)
  have hiu:i<us.length:=(List.getElem?_eq_some_iff.mp hu).1
  have hsub:=(j.sub (us.take i) h0).length_le
  have plen:=Paired.length hPs
  have zl:(axs.take i).length=((j.ans h0 (us.take i)).map Prod.snd).length:=by rw[List.length_map,j.ans_len,List.length_take,List.length_take,hpl]
  rw[List.length_zip,←zl,Nat.min_self,List.length_take] at plen
  refine MY rfl ?_
  refine KD (fun σ H'=>σ=[some (.ref al),some (.ref sd),some (.ref hi),some (.ref bs),some (.str rule),some (.ref sn),some (.ref rl),some y,some (.str (j.due (j.hld h0 (us.take i)) u))]∧Same Hi H') ?_ (fun next=>?_)
  rotate_left
  ·refine⟨_,rfl,_,rfl,rfl,_,rfl,?_⟩
   have hati:=hat.keep (TS.same si)
   by_cases c:rule="elder"
   ·refine Bp (by show V.str rule=V.str "elder";rw[c]) ?_
    refine⟨_,rfl,_,rfl,_,rfl,sd,hi,sn,y,u,xs,S,_,seen,rfl,hati,ok5,hsz,si.seq hX,hR.keep si,hsl,SqL.of hhi,by omega,SqL.of (si _ _ hN),ln,fun H2 s2=>?_⟩
    have e:j.due (j.hld h0 (us.take i)) u=FU S (j.hld h0 (us.take i)) seen u:=by
     unfold Jp.due HF
     rw[hj,if_pos c]
    rw[e] at next
    exact next _ _ ⟨rfl,s2⟩
   ·refine Bk (fun z=>c (by have z:V.str rule=V.str "elder":=z;injection z)) ?_
    refine⟨_,rfl,_,rfl,_,rfl,sd,bs,sn,y,u,xs,S,_,seen,rfl,hati,ok5,hsz,si.seq hX,hR.keep si,hsl,SqL.of (si _ _ hB),lb,SqL.of (si _ _ hN),ln,fun H2 s2=>?_⟩
    have e:j.due (j.hld h0 (us.take i)) u=FU S bas seen u:=by
     unfold Jp.due HF
     rw[hj,if_neg c]
    rw[e] at next
    exact next _ _ ⟨rfl,s2⟩
  rintro σ H2 ⟨rfl,s2⟩
  have hat2:=hat.keep (TS.same (si.trans s2))
  refine⟨_,rfl,_,rfl,_,rfl,hi,_,y,u,_,rfl,hat2,ok5,hsz,SqL.of (s2 _ _ hhi),by omega,fun l2 H3 s3 l20 hl2=>?_⟩
  have hrl3:=(s2.trans s3) _ _ hrli
  refine⟨_,rfl,.inl ⟨rfl,_,SqL.of hrl3⟩,_,rfl,_,rfl,Jd,fun p hp=>?_⟩
  have s4:=Ag hp (.tup [y,.str (j.due (j.hld h0 (us.take i)) u)])
  have p4:AA H3 p (.tup [y,.str (j.due (j.hld h0 (us.take i)) u)]) p=some (.tup [y,.str (j.due (j.hld h0 (us.take i)) u)]):=Ac
  generalize AA H3 p _=H4 at *
  have hrl4:=s4 _ _ hrl3
  refine⟨rl,_,_,rfl,rfl,hrl4,AJ (by omega),?_⟩
  have k4:TS H4 (AA H4 rl (.lst (ps++[.ref p]))):=P3 hrl4
  have s24:=s2.trans (s3.trans s4)
  have l2n:l2≠rl:=fun z=>by rw[z,s2 _ _ hrli] at l20;cases l20
  refine⟨_,_,l2,ps++[.ref p],rfl,AD (si.trans s24) hrl _,Ac,?_,l2n,?_⟩
  ·rw[List.take_add_one,List.take_add_one,hu,hy]
   show Paired _ _ ((axs.take i++[y]).zip ((j.ans h0 (us.take i++[u])).map Prod.snd))
   rw[j.ans_snoc,List.map_append]
   show Paired _ _ ((axs.take i++[y]).zip ((j.ans h0 (us.take i)).map Prod.snd++[j.due (j.hld h0 (us.take i)) u]))
   rw[KA zl]
   exact IG ⟨p,rfl,k4 _ _ p4⟩ (BB k4 (BB (TS.same s24) hPs))
  ·rw[List.take_add_one,hu]
   show AA H4 rl _ l2=some (.lst ((j.hld h0 (us.take i++[u])).map V.int))
   rw[Az l2n,j.hld_snoc]
   exact s4 _ _ hl2
 ·rintro σ Hi ⟨v1,v2,hi,ps,rfl,si,hrli,hPs,hne,hhi⟩
  rw[List.take_length,hpl,List.take_length] at hPs
  exact⟨_,rfl,q rl ps Hi si hrl hrli hPs⟩
end
abbrev DO:Stmt:=BD 34
abbrev Cc:Stmt:=BD 35
def KU (m:Nat) (es:List (Tr×Str)):Prop:=∀e∈es,e.1.ok m∧e.1.ok 5∧e.1.size≤60∧LC e.2
def IX (K:PySem.W.Frag):Sp:=fun vs H Q _=>∃(rw:Addr) (ps:List V) (es:List (Tr×Str)) (m:Nat),vs=[.ref rw,.int m]∧SqL K H rw ps∧PairsAt H ps es∧KU m es∧∀(H':Hp),Same H H'→Q .non H'
def GE (K:PySem.W.Frag):Sp:=fun vs H Q _=>∃(rm rw:Addr) (room:List Int) (ps:List V) (es:List (Tr×Str)) (m:Nat) (z:Str) (v:V) (t:Tr),vs=[.int m,.ref rm,.str z,v,.ref rw]∧SqL K H rm (room.map V.int)∧Wr room∧t.At H v∧t.ok m∧t.ok 5∧t.size≤60∧BI z∧[]∉AI z t room∧SqL K H rw ps∧PairsAt H ps es∧KU m es∧
 ∀(l:Addr) (xs:List V) (H':Hp),Same H H'→H l=none→H' l=some (.lst xs)→RowsAt H' xs (AI z t room)→Q (.ref l) H'
section
variable {cS cB cN cT:Addr}
theorem scRefRow:Ap ["row","many","sentence","word"] ["row","many"] (Af DO):=BC
theorem Lc {g1:Addr} {d1:FuncData} (F:Fun K "refuse_row" "refuse_row" DO f fd) (XB:JH K mg "BadWord" cB cT) (GR:FnOk P w K mg bz (Jl P w) 3 g1 d1 ["sentence","many"] (FB cS)) (CR:AL K mg "refuse_strange" g1 d1 ["sentence","many"]):FnOk P w K mg bz (Jl P w) 4 f fd ["row","many"] (IX K):=by
 refine Fun.okX F scRefRow (fun vs H Q E h=>?_) (fun cdv A outer s H vs Q E hr h=>?_)
 ·obtain⟨rw,ps,es,m,rfl,_⟩:=h
  rfl
 obtain⟨rw,ps,es,m,rfl,hP,hE,hok,q⟩:=h
 have hr3:Room 3 _:=hr.mono (by decide)
 have hpl:=hE.len
 refine⟨_,Ae (Ba PassesOwn.leaving rfl (AK (pv 0)) (Er rfl (Bc (Ax (i:=2) scRefRow.nd rfl (Or.inl rfl)) (Bc (Ax (i:=3) scRefRow.nd rfl (Or.inl rfl)) DH)))
   (Ad (AU (Ai GR hr3 (by rfl) CR.m CR.k CR.b .nil (Dp (E1:=E) fun _ _ _ h=>h) (Aa (pv 2) (Aa (pv 1) Ab))))
   (Ae (AE (Am Ee (pv 3) (Bs (Aa Ar (Aa Ar (Aa Ar Ab)))) (by with_unfolding_all rfl))
    (Ae (Dw (Ex:=E) D3 rfl XB.cls XB.at_ XB.ty (by rfl) XB.m (Aa Ar Ab) (hvl:=fun _ _ _ h=>⟨by decide,h⟩)))
    An)))),?_⟩
 refine⟨_,rfl,rw,rfl,⟨_,hP⟩,AQ (K:=K) (a:=rw) (xs:=ps) (fun i σ H2=>∃v0 v1,σ=[some (.ref rw),some (.int (m:Int)),v0,v1]∧Same H H2) ⟨_,_,rfl,Same.refl _⟩ ?_ ?_ ?_⟩
 ·rintro i σ H2 _ ⟨v0,v1,rfl,s2⟩
  exact s2.seq hP
 ·rintro i x σ H2 hx ⟨v0,v1,rfl,s2⟩
  have hi:i<es.length:=by
   have:=(List.getElem?_eq_some_iff.mp hx).1
   omega
  obtain⟨x',hx',hpx⟩:=hE.get (List.getElem?_eq_getElem hi)
  rw[hx] at hx'
  cases hx'
  obtain⟨p,v,rfl,hp,hv⟩:=hpx
  obtain⟨o1,o2,o3,o4⟩:=hok _ (List.getElem_mem hi)
  generalize es[i].2=wd at *
  refine⟨p,_,rfl,SqT.of (s2 _ _ hp),rfl,_,_,rfl,_,_,rfl,rfl,?_⟩
  refine⟨_,rfl,_,rfl,v,_,m,rfl,hv.keep (TS.same s2),o2,o3,fun hn=>absurd o1 hn,fun _ H3 s3=>?_⟩
  refine⟨_,rfl,N6,fun tl htl=>?_⟩
  have s4:=Ag htl (.tup [.str "grant",.str "deny",.str "doubt"])
  have hin:O7 (.str wd) [.str "grant",.str "deny",.str "doubt"]=true:=by
   rcases o4 with e | e | e<;>rw[e]<;>rfl
  refine⟨tl,_,rfl,.inr (SqT.of Ac),rfl,rfl,_,rfl,?_⟩
  rw[hin]
  exact A0 ⟨_,_,rfl,s2.trans (s3.trans s4)⟩
 ·rintro σ H2 ⟨v0,v1,rfl,s2⟩
  exact q _ s2
theorem scChecked:Ap ["many","room","kind","sentence","row","sides"] ["many","room","kind","sentence","row"] (Af Cc):=BC
theorem J1 {g1 g2 g3:Addr} {d1 d2 d3:FuncData} (F:Fun K "checked_sides" "checked_sides" Cc f fd) (GR:FnOk P w K mg bz (Jl P w) 3 g1 d1 ["sentence","many"] (FB cS)) (CR:AL K mg "refuse_strange" g1 d1 ["sentence","many"]) (GD:FnOk P w K mg bz (Jl P w) 4 g2 d2 ["room","kind","sentence"] (Hh K cB cN)) (CD:AL K mg "sides_of" g2 d2 ["room","kind","sentence"])
  (GW:FnOk P w K mg bz (Jl P w) 4 g3 d3 ["row","many"] (IX K)) (CW:AL K mg "refuse_row" g3 d3 ["row","many"]):FnOk P w K mg bz (Jl P w) 5 f fd ["many","room","kind","sentence","row"] (GE K):=by
 refine Fun.okX F scChecked (fun vs H Q E h=>?_) (fun cdv A outer s H vs Q E hr h=>?_)
 ·obtain⟨rm,rw,room,ps,es,m,z,v,t,rfl,_⟩:=h
  rfl
 obtain⟨rm,rw,room,ps,es,m,z,v,t,rfl,hR,wr,ha,okm,ok5,hsz,hk,hns,hP,hE,hok,q⟩:=h
 have hr3:Room 3 _:=hr.mono (by decide)
 have hr4:Room 4 _:=hr.mono (by decide)
 refine⟨_,Ad (AU (Ai GR hr3 (by rfl) CR.m CR.k CR.b .nil (Dp (E1:=E) fun _ _ _ h=>h) (Aa (pv 3) (Aa (pv 0) Ab))))
  (Ad (Ak (i:=5) scChecked.nd rfl (Or.inl rfl) (Ai GD hr4 (by rfl) CD.m CD.k CD.b .nil (Dp (E1:=E) fun _ _ _ h=>h) (Aa (pv 1) (Aa (pv 2) (Aa (pv 3) Ab)))))
  (Ad (AU (Ai GW hr4 (by rfl) CW.m CW.k CW.b .nil (Dp (E1:=E) fun _ _ _ h=>h) (Aa (pv 4) (Aa (pv 0) Ab))))
  (Ae (Aj (pv 5))))),?_⟩
 refine⟨_,rfl,_,rfl,v,t,m,rfl,ha,ok5,hsz,fun hn=>absurd okm hn,fun _ H1 s1=>?_⟩
 refine⟨_,rfl,_,rfl,_,rfl,rm,z,v,t,room,rfl,ha.keep (TS.same s1),ok5,by omega,s1.seq hR,wr,fun hn=>absurd hk hn,fun _ he=>absurd he hns,fun _ _ l xs H2 s2 hl0 hl hRN _=>?_⟩
 have t2:=s1.trans s2
 refine⟨_,rfl,_,rfl,rw,ps,es,m,rfl,t2.seq hP,PairsAt.keep t2 hE,hok,fun H3 s3=>?_⟩
 exact⟨_,rfl,q l xs H3 (t2.trans s3) (s1.free hl0) (s3 _ _ hl) ((hRN.at).keep s3)⟩
end
abbrev BP:Stmt:=BD 38
abbrev DF:Stmt:=BD 39
abbrev Cb:Stmt:=BD 37
def Cf (ms:List (Option Bool)):List (List (Option Bool)):=[ms++[none],ms++[some false],ms++[some true]]
def A3:Nat→List (List (Option Bool))
 | 0=>[[]]
 | n+1=>(A3 n).flatMap Cf
theorem HN:∀(l:List (List (Option Bool))),(l.flatMap Cf).length=3*l.length
 | []=>rfl
 | x::l=>by
  rw[List.flatMap_cons,List.length_append,HN l]
  show 3+3*l.length=3*(l.length+1)
  omega
theorem Ci:∀n,n≤5→(A3 n).length≤243:=by decide
theorem Bu:∀(n:Nat),∀ms∈A3 n,ms.length=n
 | 0,ms,h=>by rw[List.mem_singleton.mp h];rfl
 | n+1,ms,h=>by
  obtain⟨m0,h0,h1⟩:=List.mem_flatMap.mp h
  have:=Bu n m0 h0
  simp only[Cf,List.mem_cons,List.not_mem_nil,or_false] at h1
  rcases h1 with rfl | rfl | rfl<;>rw[List.length_append,this]<;>rfl
abbrev Bd (H:Hp) (p:Addr) (ms:List (Option Bool)):Prop:=H p=some (.lst (ms.map Bn))
structure MksAt (H0 H:Hp) (ps:List Addr) (mss:List (List (Option Bool))):Prop where
 at_:Paired (Bd H) ps mss
 fr:∀p∈ps,H0 p=none
 nd:ps.Nodup
theorem Bh {H H':Hp} (s:Same H H'):∀{ps:List Addr} {mss:List (List (Option Bool))},Paired (Bd H) ps mss→Paired (Bd H') ps mss
 | _,_,.nil=>.nil
 | _,_,.cons h q=>.cons (s _ _ h) (Bh s q)
theorem Em {H:Hp}:∀{ps:List Addr} {mss:List (List (Option Bool))},Paired (Bd H) ps mss→∀p∈ps,∃ms:List (Option Bool),H p=some (.lst (ms.map Bn))
 | _,_,.cons h q,p,hp=>by
  rcases List.mem_cons.mp hp with rfl | hp
  ·exact⟨_,h⟩
  ·exact Em q p hp
theorem Cn {α β:Type} {R:α→β→Prop} {a:α} {b:β} (h:R a b):∀{xs:List α} {ys:List β},Paired R xs ys→Paired R (xs++[a]) (ys++[b])
 | _,_,.nil=>.cons h .nil
 | _,_,.cons r q=>.cons r (Cn h q)
theorem Dm {α β:Type} {R:α→β→Prop}:∀{xs:List α} {ys:List β} {i:Nat} {x:α} {y:β},Paired R xs ys→xs[i]? = some x→ys[i]? = some y→R x y
 | _,_,_,_,_,.nil,h,_=>by simp at h
 | _,_,0,_,_,.cons r _,h1,h2=>by
  simp at h1 h2
  subst h1 h2
  exact r
 | _,_,i+1,_,_,.cons _ q,h1,h2=>Dm (i:=i) q (by simpa using h1) (by simpa using h2)
theorem MksAt.keep {H0 H H':Hp} {ps:List Addr} {mss:List (List (Option Bool))} (s:Same H H') (h:MksAt H0 H ps mss):MksAt H0 H' ps mss:=⟨Bh s h.at_,h.fr,h.nd⟩
theorem MksAt.snoc {H0 H H':Hp} {ps:List Addr} {mss:List (List (Option Bool))} {p:Addr} {ms:List (Option Bool)} (s0:Same H0 H) (s:Same H H') (h:MksAt H0 H ps mss) (hp:H p=none) (hp':H' p=some (.lst (ms.map Bn))):MksAt H0 H' (ps++[p]) (mss++[ms]):=by
 have hnp:p∉ps:=fun z=>by
  obtain⟨ms,e⟩:=Em h.at_ p z
  rw[hp] at e
  cases e
 refine⟨Cn (R:=Bd H') hp' (Bh s h.at_),fun q hq=>?_,?_⟩
 ·rcases List.mem_append.mp hq with hq | hq
  ·exact h.fr q hq
  ·rw[List.mem_singleton.mp hq]
   cases e:H0 p with
   | none=>rfl
   | some o=>rw[s0 _ _ e] at hp;cases hp
 ·exact List.nodup_append.mpr ⟨h.nd,List.nodup_cons.mpr ⟨(fun e=>by cases e),List.nodup_nil⟩,fun b hb c hc e=>hnp (by rw[←List.mem_singleton.mp hc,←e];exact hb)⟩
theorem Ei {H:Hp} {a:Addr} {o:HO}:∀{ps:List Addr} {mss:List (List (Option Bool))},a∉ps→Paired (Bd H) ps mss→Paired (Bd (AA H a o)) ps mss
 | _,_,_,.nil=>.nil
 | _,_,hn,.cons h q=>.cons (by
   show AA H a o _=_
   rw[Az fun e=>hn (by rw[e];exact List.mem_cons_self)]
   exact h) (Ei (fun z=>hn (List.mem_cons_of_mem _ z)) q)
theorem MksAt.put {H0 H:Hp} {a:Addr} {o:HO} {ps:List Addr} {mss:List (List (Option Bool))} (hn:a∉ps) (h:MksAt H0 H ps mss):MksAt H0 (AA H a o) ps mss:=⟨Ei hn h.at_,h.fr,h.nd⟩
theorem MksAt.get {H0 H:Hp} {ps:List Addr} {mss:List (List (Option Bool))} {i:Nat} {v:V} (h:MksAt H0 H ps mss) (hv:(ps.map V.ref)[i]? = some v):∃p ms,v= .ref p∧p∈ps∧ps[i]? = some p∧mss[i]? = some ms∧H p=some (.lst (ms.map Bn)):=by
 rw[List.getElem?_map] at hv
 cases e:ps[i]? with
 | none=>rw[e] at hv;cases hv
 | some p=>
  rw[e] at hv
  have hi:=(List.getElem?_eq_some_iff.mp e).1
  have hl:i<mss.length:=by have:=Paired.length h.at_;omega
  refine⟨p,mss[i],(Option.some.inj hv).symm,List.mem_of_getElem? e,rfl,List.getElem?_eq_getElem hl,?_⟩
  exact Dm (R:=Bd H) h.at_ e (List.getElem?_eq_getElem hl)
theorem MksAt.len {H0 H:Hp} {ps:List Addr} {mss:List (List (Option Bool))} (h:MksAt H0 H ps mss):ps.length=mss.length:=Paired.length h.at_
def mark3:List (Option Bool):=[none,some false,some true]
def FF:Sp:=fun vs H Q _=>∃m:Nat,vs=[.int (m:Int)]∧m≤5∧∀(l:Addr) (ps:List Addr) (H':Hp),Same H H'→H l=none→H' l=some (.lst (ps.map V.ref))→MksAt H H' ps (A3 m)→l∉ps→Q (.ref l) H'
theorem Gg {l:List (List (Option Bool))} {i:Nat} {ms:List (Option Bool)} (h:l[i]? = some ms):(l.take (i+1)).flatMap Cf=(l.take i).flatMap Cf++Cf ms:=by
 rw[List.take_add_one,h,List.flatMap_append]
 rfl
section
variable {cS cB cN cT:Addr}
theorem scAllMarks:Ap ["many","rows","letter"] ["many"] (Af BP):=BC
theorem scAllDue:Ap ["rule","sides","seen","answers","base","held","worlds","word","going"] ["rule","sides","seen","answers"] (Af DF):=BC
theorem scGuesses:Ap ["many","room","kind","sentence","row","sides","answers","told","rule","marks","seen"] ["many","room","kind","sentence","row"] (Af Cb):=BC
theorem IV (F:Fun K "all_marks" "all_marks" BP f fd) (B:Bl mg):FnOk P w K mg bz AO 1 f fd ["many"] FF:=by
 refine F.ok scAllMarks (fun vs H Q E h=>?_) (fun cdv A outer s H vs Q E hr h=>?_)
 ·obtain⟨m,rfl,_⟩:=h
  rfl
 obtain⟨m,rfl,hm5,q⟩:=h
 refine⟨_,Ad (Ak (i:=1) scAllMarks.nd rfl (Or.inl rfl) (AF (Aa (AF Ab) Ab)))
  (Ad (Ba PassesOwn.never rfl (Bt (by rfl) B.range (Aa (pv 0) Ab)) (Ax (i:=2) scAllMarks.nd rfl (Or.inl rfl))
   (Ae (Ny (i:=1) scAllMarks.nd rfl (Or.inl rfl) (N:=["marks","mark"]) (js:=[none,none]) (cl:=[]) ⟨rfl,rfl,rfl,List.forall_mem_nil _,rfl,rfl,rfl⟩ (AK (pv 1)) (fun c1=>(Ax (i:=0) (show (["marks","mark"]:List Str).Nodup by decide +kernel) rfl (Or.inl rfl))) (fun c1=>Bm) (fun c1=>(JJ (Bs (Aa HQ (Aa Bq (Aa Bq Ab)))))) (fun c1=>(Ax (i:=1) (show (["marks","mark"]:List Str).Nodup by decide +kernel) rfl (Or.inl rfl))) (fun c1=>Bm) (fun c1=>(AC JR (pv 0) (AF (Aa (pv 1) Ab)))))))
  (Ae (Aj (pv 1)))),?_⟩
 refine⟨Fi,fun r0 hr0=>⟨LE,fun l0 hl0=>?_⟩⟩
 have s0:=Ag hr0 (.lst [])
 have e0:AA H r0 (.lst []) r0=some (.lst []):=Ac
 generalize AA H r0 _=H0 at *
 have s1:=Ag hl0 (.lst [.ref r0])
 have e1:AA H0 l0 (.lst [.ref r0]) l0=some (.lst [.ref r0]):=Ac
 have er:=s1 _ _ e0
 generalize AA H0 l0 _=H1 at *
 have nl0:H l0=none:=s0.free hl0
 refine⟨_,rfl,_,rfl,(by omega),(by omega),Bo (fun i σ Hi=>∃(l:Addr) (ps:List Addr) (v2:Option V),σ=[some (.int (m:Int)),some (.ref l),v2]∧Same H Hi∧H l=none∧Hi l=some (.lst (ps.map V.ref))∧MksAt H Hi ps (A3 i)∧l∉ps) ⟨l0,[r0],none,rfl,s0.trans s1,nl0,e1,⟨.cons er .nil,fun p hp=>by rw[List.mem_singleton.mp hp];exact hr0,List.nodup_cons.mpr ⟨(fun e=>by cases e),List.nodup_nil⟩⟩,fun z=>by rw[List.mem_singleton.mp z,e0] at hl0;cases hl0⟩ ?_ ?_⟩
 ·rintro i σ Hi hi ⟨l,ps,v2,rfl,si,nl,hl,hM,hnl⟩
  have hi5:i<5:=by
   have h0:i<((m:Int)).toNat:=hi
   omega
  have hle:=Ci i (by omega)
  have hpl:=hM.len
  refine⟨_,rfl,l,rfl,⟨_,SqL.of hl⟩,fun cc acc hacc=>AQ (K:=K) (a:=l) (xs:=ps.map V.ref) (fun a σ H2=>∃(v0 v1:Option V) (qs:List Addr),σ=[v0,v1]∧Same Hi H2∧H2 acc=some (.lst (qs.map V.ref))∧MksAt H H2 qs (((A3 i).take a).flatMap Cf)∧acc∉qs) ⟨_,_,[],rfl,Ag hacc _,Ac,⟨.nil,(fun p hp=>nomatch hp),List.nodup_nil⟩,fun z=>nomatch z⟩ ?_ ?_ ?_⟩
  ·rintro a σ H2 _ ⟨v0,v1,qs,rfl,s2,_⟩
   exact SqL.of (s2 _ _ hl)
  ·rintro a x σ H2 hx ⟨v0,v1,qs,rfl,s2,ha,hQ,hna⟩
   obtain⟨p,ms,rfl,hp,hpi,hms,hpe⟩:=hM.get hx
   have hpe2:=s2 _ _ hpe
   have hml:=Bu i ms (List.mem_of_getElem? hms)
   refine II ⟨N6,fun tp htp=>⟨tp,rfl,⟨_,SqT.of Ac⟩,HS (K:=K) (a:=tp) (xs:=mark3.map Bn) (fun b σ H3=>∃(v1:Option V) (qs:List Addr),σ=[some (.ref p),v1]∧Same Hi H3∧H3 tp=some (.tup (mark3.map Bn))∧H3 acc=some (.lst (qs.map V.ref))∧MksAt H H3 qs (((A3 i).take a).flatMap Cf++(Cf ms).take b)∧acc∉qs) ?_ ?_ ?_ ?_⟩⟩
   ·refine⟨_,qs,rfl,s2.trans (Ag htp _),Ac,(Ag htp _) _ _ ha,?_,hna⟩
    rw[List.take_zero,List.append_nil]
    exact hQ.keep (Ag htp _)
   ·rintro b σ H3 _ ⟨v1,qs,rfl,s3,ht,_⟩
    exact SqT.of ht
   ·rintro b x σ H3 hb ⟨v1,qs,rfl,s3,ht,ha3,hQ3,hna3⟩
    have hb3:b<3:=(List.getElem?_eq_some_iff.mp hb).1
    obtain⟨mk,rfl,hmk⟩:∃mk,x=Bn mk∧(Cf ms)[b]? = some (ms++[mk]):=by
     rcases (show b=0∨b=1∨b=2 by omega) with rfl | rfl | rfl
     ·exact⟨none,(Option.some.inj hb).symm,rfl⟩
     ·exact⟨some false,(Option.some.inj hb).symm,rfl⟩
     ·exact⟨some true,(Option.some.inj hb).symm,rfl⟩
    have hp3:=s3 _ _ hpe
    refine II ⟨_,rfl,_,rfl,LE,fun f1 hf1=>?_⟩
    have u1:=Ag hf1 (.lst [Bn mk])
    have g1:AA H3 f1 (.lst [Bn mk]) f1=some (.lst [Bn mk]):=Ac
    generalize AA H3 f1 _=H4 at *
    refine⟨p,f1,_,_,rfl,rfl,u1 _ _ hp3,g1,?_,fun f2 hf2=>?_⟩
    ·rw[List.length_map,hml]
     exact Nat.le_trans (show i+1≤10 by omega) (by decide)
    have u2:=Ag hf2 (.lst (ms.map Bn++[Bn mk]))
    have g2:AA H4 f2 (.lst (ms.map Bn++[Bn mk])) f2=some (.lst ((ms++[mk]).map Bn)):=by rw[Ac,List.map_append];rfl
    have hQ5:=MksAt.snoc (si.trans (s3.trans u1)) u2 (hQ3.keep u1) hf2 g2
    have hnf:acc≠f2:=Ay (u1 _ _ ha3) hf2
    generalize AA H4 f2 _=H5 at *
    have ha5:=u2 _ _ (u1 _ _ ha3)
    have ht5:=u2 _ _ (u1 _ _ ht)
    refine⟨_,ha5,?_,?_⟩
    ·have h1:=hQ3.len
     have h2:((A3 i).take a).length≤243:=by rw[List.length_take];omega
     rw[List.length_append,HN] at h1
     have h3:(Cf ms).length=3:=rfl
     have h4:((Cf ms).take b).length≤3:=by rw[List.length_take,h3];omega
     rw[List.length_map]
     exact Nat.lt_of_le_of_lt (show qs.length≤732 by omega) (by decide)
    ·refine⟨_,qs++[f2],rfl,AD (s3.trans (u1.trans u2)) hacc _,by rw[Az (DT ht5 ha5 (by intro z;cases z))];exact ht5,by rw[Ac,List.map_append];rfl,?_,?_⟩
     ·rw[List.take_add_one,hmk,←List.append_assoc]
      refine MksAt.put (fun z=>?_) hQ5
      rcases List.mem_append.mp z with z | z
      ·exact hna3 z
      ·exact hnf (List.mem_singleton.mp z)
     ·intro z
      rcases List.mem_append.mp z with z | z
      ·exact hna3 z
      ·exact hnf (List.mem_singleton.mp z)
   ·rintro σ H3 ⟨v1,qs,rfl,s3,ht,ha3,hQ3,hna3⟩
    refine⟨_,_,qs,rfl,s3,ha3,?_,hna3⟩
    rw[Gg hms]
    have e:(Cf ms).take (mark3.map Bn).length=Cf ms:=rfl
    rw[e] at hQ3
    exact hQ3
  ·rintro σ H2 ⟨v0,v1,qs,rfl,s2,ha,hQ,hna⟩
   refine⟨acc,qs,_,rfl,si.trans s2,si.free hacc,ha,?_,hna⟩
   rw[List.length_map,hpl,List.take_length] at hQ
   exact hQ
 ·rintro σ Hi ⟨l,ps,v2,rfl,si,nl,hl,hM,hnl⟩
  exact⟨_,rfl,q l ps Hi si nl hl (by simpa using hM) hnl⟩
end
abbrev AnAt (H:Hp) (room:List Int):List V→List (Tr×Str)→Prop:=Paired fun (v:V) (e:Tr×Str)=>∃p l,v= .ref p∧H p=some (.tup [.ref l,.str e.2])∧AW H l (AT true e.1 room)
theorem AnAt.keep {H H':Hp} {room:List Int} (s:Same H H'):∀{xs:List V} {es:List (Tr×Str)},AnAt H room xs es→AnAt H' room xs es
 | _,_,.nil=>.nil
 | _,_,.cons ⟨p,l,e,h1,h2⟩ q=>.cons ⟨p,l,e,s _ _ h1,s _ _ h2⟩ (AnAt.keep s q)
def Jo (j:Jp) (es:List (Tr×Str)):Bool:=decide (j.ans j.bas (es.map Prod.fst)=es)
theorem Mr {j:Jp} {es:List (Tr×Str)} {i:Nat} {e:Tr×Str} (h:j.ans j.bas ((es.take i).map Prod.fst)=es.take i) (he:es[i]? = some e):(j.due (BW j.bas (es.take i)) e.1=e.2→j.ans j.bas ((es.take (i+1)).map Prod.fst)=es.take (i+1))∧(j.due (BW j.bas (es.take i)) e.1≠e.2→Jo j es=false):=by
 have hh:j.hld j.bas ((es.take i).map Prod.fst)=BW j.bas (es.take i):=by rw[←j.held,h]
 constructor
 ·intro c
  rw[List.take_add_one,he]
  show j.ans j.bas ((es.take i++[e]).map Prod.fst)=es.take i++[e]
  rw[List.map_append]
  show j.ans j.bas ((es.take i).map Prod.fst++[e.1])=_
  rw[j.ans_snoc,h,hh,c]
 ·intro c
  unfold Jo
  refine decide_eq_false fun z=>c ?_
  have hu:(es.map Prod.fst)[i]? = some e.1:=by rw[List.getElem?_map,he];rfl
  have h1:=j.ans_get (es.map Prod.fst) j.bas i e.1 hu
  rw[z,he] at h1
  have h2:=Option.some.inj h1
  rw[List.map_take] at hh
  rw[hh] at h2
  exact (congrArg Prod.snd h2).symm
def IC (K:PySem.W.Frag):Sp:=fun vs H Q _=>∃(sd sn an:Addr) (rule:Str) (xs ys:List V) (S:List (List Int)) (room seen:List Int) (es:List (Tr×Str)),vs=[.str rule,.ref sd,.ref sn,.ref an]∧H sd=some (.lst xs)∧RowsAt H xs S∧(∀s∈S,s.Sublist room)∧S.length≤2∧DP S<64∧Wr room∧AW H sn seen∧seen.Sublist room∧seen≠[]∧H an=some (.lst ys)∧AnAt H room ys es∧∀H',Same H H'→Q (.bl (Jo ⟨S,rule,Bg room S,seen⟩ es)) H'
section
variable {cS cB cN cT:Addr}
theorem LO {g1 g2 g3:Addr} {d1 d2 d3:FuncData} (F:Fun K "all_due" "all_due" DF f fd) (GB:FnOk P w K mg bz AO 2 g1 d1 ["sides"] (Kp K)) (CB:AL K mg "base_of" g1 d1 ["sides"])
  (GA:FnOk P w K mg bz AO 5 g2 d2 ["sides","going","seen","worlds"] (Ha K)) (CA:AL K mg "answer" g2 d2 ["sides","going","seen","worlds"]) (GL:FnOk P w K mg bz AO 2 g3 d3 ["word","row","worlds"] (JE K)) (CL:AL K mg "left_by" g3 d3 ["word","row","worlds"]):FnOk P w K mg bz AO 6 f fd ["rule","sides","seen","answers"] (IC K):=by
 refine F.ok scAllDue (fun vs H Q E h=>?_) (fun cdv A outer s H vs Q E hr h=>?_)
 ·obtain⟨sd,sn,an,rule,xs,ys,S,room,seen,es,rfl,_⟩:=h
  rfl
 obtain⟨sd,sn,an,rule,xs,ys,S,room,seen,es,rfl,hsd,hS,hsub,hS2,hlS,wr,hsn,hss,hsne,han,hA,q⟩:=h
 have hr2:Room 2 _:=hr.mono (by decide)
 have hpl:=Paired.length hA
 refine⟨_,Ad (Ak (i:=4) scAllDue.nd rfl (Or.inl rfl) (Ai GB hr2 (by rfl) CB.m CB.k CB.b .nil Au (Aa (pv 1) Ab)))
  (Ad (Ak (i:=5) scAllDue.nd rfl (Or.inl rfl) (pv 4))
  (Ad (Ba PassesOwn.never rfl (AK (pv 3)) (Er rfl (Bc (Ax (i:=6) scAllDue.nd rfl (Or.inl rfl)) (Bc (Ax (i:=7) scAllDue.nd rfl (Or.inl rfl)) DH)))
   (Ad (Ak (i:=8) scAllDue.nd rfl (Or.inl rfl) (IP (Am AS (pv 0) Ar (As _)) (pv 5) (pv 4)))
   (Ad (AE (Am Gz (Ai GA hr (by rfl) CA.m CA.k CA.b .nil Au (Aa (pv 1) (Aa (pv 8) (Aa (pv 2) (Aa (pv 6) Ab))))) (pv 7) (As _))
    (Ae (Aj Bq))
    An)
   (Ae (Ak (i:=5) scAllDue.nd rfl (Or.inl rfl) (Ai GL hr2 (by rfl) CL.m CL.k CL.b .nil Au (Aa (pv 7) (Aa (pv 5) (Aa (pv 6) Ab)))))))))
  (Ae (Aj Bq)))),?_⟩
 refine⟨_,rfl,sd,xs,S,rfl,SqL.of hsd,hS,hlS,fun bl H2 ns s2 bl0 hup hmem hbl=>?_⟩
 have en:=NF wr hsub hup hmem
 rw[en] at hbl
 have bsub:(Bg room S).Sublist room:=IS
 generalize hbase:Bg room S=bas at *
 refine⟨_,rfl,?_⟩
 refine⟨_,rfl,an,rfl,⟨_,SqL.of (s2 _ _ han)⟩,AQ (K:=K) (a:=an) (xs:=ys) (fun i σ H3=>∃(v6 v7 v8:Option V) (hl:Addr),σ=[some (.str rule),some (.ref sd),some (.ref sn),some (.ref an),some (.ref bl),some (.ref hl),v6,v7,v8]∧Same H2 H3∧AW H3 hl (BW bas (es.take i))∧Jp.ans ⟨S,rule,bas,seen⟩ bas ((es.take i).map Prod.fst)=es.take i) ?_ ?_ ?_ ?_⟩
 ·exact⟨_,_,_,bl,rfl,Same.refl _,hbl,rfl⟩
 ·rintro i σ H3 _ ⟨v6,v7,v8,hl,rfl,s3,_⟩
  exact SqL.of (s3 _ _ (s2 _ _ han))
 ·rintro i x σ H3 hx ⟨v6,v7,v8,hl,rfl,s3,hhl,hans⟩
  have hi:i<es.length:=by
   have:=(List.getElem?_eq_some_iff.mp hx).1
   omega
  have he:es[i]? = some es[i]:=List.getElem?_eq_getElem hi
  generalize es[i]=e at *
  have t3:=s2.trans s3
  obtain⟨p,wl,rfl,hp,hwl⟩:=Dm hA hx he
  have hp3:=t3 _ _ hp
  have hwl3:=t3 _ _ hwl
  have hsubH:(BW bas (es.take i)).Sublist room:=(Hb _ _).trans bsub
  refine⟨p,_,rfl,SqT.of hp3,rfl,_,_,rfl,_,_,rfl,rfl,?_⟩
  refine KD (fun σ H'=>∃gl,σ=[some (.str rule),some (.ref sd),some (.ref sn),some (.ref an),some (.ref bl),some (.ref hl),some (.ref wl),some (.str e.2),some (.ref gl)]∧H'=H3∧AW H3 gl (HF rule bas (BW bas (es.take i)))) ?_ fun go=>?_
  ·rintro σ H' ⟨gl,rfl,rfl,hgl⟩
   have gsub:(HF rule bas (BW bas (es.take i))).Sublist room:=by
    unfold HF
    split
    ·exact hsubH
    ·exact bsub
   obtain⟨stY,stN⟩:=Mr (j:=⟨S,rule,bas,seen⟩) hans he
   refine⟨_,rfl,_,rfl,_,rfl,_,rfl,sd,gl,sn,wl,xs,S,_,seen,_,rfl,t3 _ _ hsd,hS.keep t3,(fun s hs=>wr.sub (hsub s hs)),hS2,SqL.of hgl,wr.sub gsub,SqL.of (t3 _ _ hsn),wr.sub hss,hsne,SqL.of hwl3,wr.sub List.filter_sublist,fun H4 s4=>?_⟩
   have wl9:(AT true e.1 room).length≤900:=by
    have:=(wr.sub (show (AT true e.1 room).Sublist room from List.filter_sublist)).len
    omega
   rw[P2 gsub hss]
   have t4:=t3.trans s4
   refine⟨_,rfl,rfl,_,rfl,?_⟩
   by_cases c:FU S (HF rule bas (BW bas (es.take i))) seen e.1=e.2
   ·rw[c]
    refine Ek rfl ?_
    refine⟨_,rfl,_,rfl,_,rfl,e.2,hl,wl,_,_,rfl,SqL.of (s4 _ _ hhl),wr.sub hsubH,SqL.of (s4 _ _ hwl3),wl9,fun l H5 s5 l0 hl5=>?_⟩
    rw[OU hsubH] at hl5
    refine⟨_,_,_,l,rfl,s3.trans (s4.trans s5),?_,stY c⟩
    rw[List.take_add_one,he]
    show AW H5 l (BW bas (es.take i++[e]))
    rw[K4]
    exact hl5
   ·refine KL (fun z=>c (by injection z)) ?_
    have:=q H4 t4
    rw[stN c] at this
    exact this
  ·refine⟨_,rfl,rfl,_,rfl,?_⟩
   by_cases c:rule="elder"
   ·refine Bp (by rw[c]) ⟨_,rfl,go _ _ ⟨hl,rfl,rfl,?_⟩⟩
    unfold HF
    rw[if_pos c]
    exact hhl
   ·refine Bk (fun z=>c (by injection z)) ⟨_,rfl,go _ _ ⟨bl,rfl,rfl,?_⟩⟩
    unfold HF
    rw[if_neg c]
    exact s3 _ _ hbl
 ·rintro σ H3 ⟨v6,v7,v8,hl,rfl,s3,hhl,hans⟩
  rw[hpl,List.take_length] at hans
  have:=q H3 (s2.trans s3)
  unfold Jo at this
  rw[decide_eq_true hans] at this
  exact this
end
def DX (S:List (List Int)) (room:List Int) (es:List (Tr×Str)) (rule:Str) (ms:List (Option Bool)):Bool:=!(room.filter (Db ms)).isEmpty && Jo ⟨S,rule,Bg room S,room.filter (Db ms)⟩ es
def fits (S:List (List Int)) (room:List Int) (es:List (Tr×Str)) (rule:Str) (l:List (List (Option Bool))):List (Str×List (Option Bool)):=(l.filter (DX S room es rule)).map fun ms=>(rule,ms)
def CY (S:List (List Int)) (room:List Int) (es:List (Tr×Str)) (m:Nat):List (Str×List (Option Bool)):=fits S room es "elder" (A3 m)++fits S room es "newer" (A3 m)
theorem DE {S:List (List Int)} {room:List Int} {es:List (Tr×Str)} {rule:Str} {l:List (List (Option Bool))} {i:Nat} {ms:List (Option Bool)} (h:l[i]? = some ms):fits S room es rule (l.take (i+1))=fits S room es rule (l.take i)++(if DX S room es rule ms then[(rule,ms)] else[]):=by
 unfold fits
 rw[List.take_add_one,h,List.filter_append,List.map_append]
 congr 1
 rw[Option.toList_some,List.filter_cons]
 split<;>rfl
structure ToldAt (H0 H:Hp) (xs:List V) (gs:List (Str×List (Option Bool))) (ps:List Addr):Prop where
 at_:Paired (fun (v:V) (g:Str×Addr)=>∃q,v= .ref q∧H q=some (.tup [.str g.1,.ref g.2])) xs ((gs.map Prod.fst).zip ps)
 mks:MksAt H0 H ps (gs.map Prod.snd)
theorem BU {H H':Hp} (s:TS H H'):∀{xs:List V} {gs:List (Str×Addr)},Paired (fun (v:V) (g:Str×Addr)=>∃q,v= .ref q∧H q=some (.tup [.str g.1,.ref g.2])) xs gs→Paired (fun (v:V) (g:Str×Addr)=>∃q,v= .ref q∧H' q=some (.tup [.str g.1,.ref g.2])) xs gs
 | _,_,.nil=>.nil
 | _,_,.cons ⟨q,e,h⟩ r=>.cons ⟨q,e,s _ _ h⟩ (BU s r)
theorem ToldAt.keep {H0 H H':Hp} {xs:List V} {gs:List (Str×List (Option Bool))} {ps:List Addr} (s:Same H H') (h:ToldAt H0 H xs gs ps):ToldAt H0 H' xs gs ps:=⟨BU (TS.same s) h.at_,h.mks.keep s⟩
theorem IL {α β:Type} {a:α} {b:β}:∀{xs:List α} {ys:List β},xs.length=ys.length→(xs++[a]).zip (ys++[b])=xs.zip ys++[(a,b)]
 | [],[],_=>rfl
 | x::xs,y::ys,h=>by
  show (x,y)::(xs++[a]).zip (ys++[b])=_
  rw[IL (by simpa using h)]
  rfl
theorem ToldAt.len {H0 H:Hp} {xs:List V} {gs:List (Str×List (Option Bool))} {ps:List Addr} (h:ToldAt H0 H xs gs ps):xs.length=gs.length∧ps.length=gs.length:=by
 have h1:=Paired.length h.at_
 have h2:=Paired.length h.mks.at_
 rw[List.length_zip,List.length_map] at h1
 rw[List.length_map] at h2
 omega
theorem Pw {X:Cx} {st:Stmt} {t:L2.TS} (h:PS X.nox st t):PS X st t:=fun pins s σ H D I hw=>
 wpAny_mono (h pins s σ H D (I.wish _) hw) (fun _ _ q=>q.unwish) fun _ _ z=>False.elim z
theorem AnAt.snoc {H:Hp} {room:List Int} {v:V} {e:Tr×Str} (h:∃p l,v= .ref p∧H p=some (.tup [.ref l,.str e.2])∧AW H l (AT true e.1 room)):∀{xs:List V} {es:List (Tr×Str)},AnAt H room xs es→AnAt H room (xs++[v]) (es++[e]):=fun q=>Cn h q
theorem ToldAt.put {H0 H:Hp} {a:Addr} {ys zs:List V} {xs:List V} {gs:List (Str×List (Option Bool))} {ps:List Addr} (ha:H a=some (.lst ys)) (hn:a∉ps) (h:ToldAt H0 H xs gs ps):ToldAt H0 (AA H a (.lst zs)) xs gs ps:=⟨BU (TS.lst ha) h.at_,h.mks.put hn⟩
theorem ToldAt.snoc {H0 H:Hp} {xs:List V} {gs:List (Str×List (Option Bool))} {ps:List Addr} {q p:Addr} {rule:Str} {ms:List (Option Bool)} (h:ToldAt H0 H xs gs ps) (hq:H q=some (.tup [.str rule,.ref p])) (hp:H p=some (.lst (ms.map Bn))) (h0:H0 p=none) (hn:p∉ps):ToldAt H0 H (xs++[.ref q]) (gs++[(rule,ms)]) (ps++[p]):=by
 refine⟨?_,?_,fun a ha=>?_,?_⟩
 ·rw[List.map_append]
  show Paired _ _ ((gs.map Prod.fst++[rule]).zip (ps++[p]))
  rw[IL (by rw[List.length_map];exact h.len.2.symm)]
  exact Cn ⟨q,rfl,hq⟩ h.at_
 ·rw[List.map_append]
  exact Cn (R:=Bd H) hp h.mks.at_
 ·rcases List.mem_append.mp ha with ha | ha
  ·exact h.mks.fr a ha
  ·rw[List.mem_singleton.mp ha];exact h0
 ·exact List.nodup_append.mpr ⟨h.mks.nd,List.nodup_cons.mpr ⟨(fun e=>by cases e),List.nodup_nil⟩,fun b hb c hc e=>hn (by rw[←List.mem_singleton.mp hc,←e];exact hb)⟩
def rules2:List Str:=["elder","newer"]
theorem Dj (S:List (List Int)) (room:List Int) (es:List (Tr×Str)) (rule:Str) (l:List (List (Option Bool))):(fits S room es rule l).length≤l.length:=by
 unfold fits
 rw[List.length_map]
 exact List.length_filter_le _ _
theorem Gq {S:List (List Int)} {room:List Int} {es:List (Tr×Str)} {m r:Nat} (hm:m≤5) (hr:r<2):((rules2.take r).flatMap fun rule=>fits S room es rule (A3 m)).length≤243:=by
 have h:=Ci m hm
 rcases (show r=0∨r=1 by omega) with rfl | rfl
 ·exact Nat.zero_le _
 ·show (fits S room es "elder" (A3 m)++[]).length≤243
  rw[List.append_nil]
  exact Nat.le_trans (Dj ..) h
theorem Oj {l:List Addr} {a:Nat} {p:Addr} (h:l.Nodup) (hp:l[a]? = some p):p∉l.take a:=fun z=>by
 obtain⟨j,hj⟩:=List.getElem?_of_mem z
 have hja:j<a:=by
  have:=(List.getElem?_eq_some_iff.mp hj).1
  rw[List.length_take] at this
  omega
 rw[List.getElem?_take_of_lt hja] at hj
 have:=(List.getElem?_inj (List.getElem?_eq_some_iff.mp hj).1 h).mp (hj.trans hp.symm)
 omega
theorem ToldAt.nil {H0 H:Hp}:ToldAt H0 H [] [] []:=⟨.nil,.nil,(fun p hp=>nomatch hp),List.nodup_nil⟩
def He (K:PySem.W.Frag):Sp:=fun vs H Q _=>∃(rm rw:Addr) (room:List Int) (ps:List V) (es:List (Tr×Str)) (m:Nat) (z:Str) (v:V) (t:Tr),vs=[.int m,.ref rm,.str z,v,.ref rw]∧AW H rm room∧Wr room∧t.At H v∧t.ok m∧t.ok 5∧t.size≤60∧BI z∧[]∉AI z t room∧H rw=some (.lst ps)∧PairsAt H ps es∧KU m es∧es.length≤300∧m≤5∧
 ∀(l:Addr) (xs:List V) (pts:List Addr) (H':Hp),Same H H'→H l=none→H' l=some (.lst xs)→ToldAt H H' xs (CY (AI z t room) room es m) pts→l∉pts→Q (.ref l) H'
section
variable {cS cB cN cT:Addr}
theorem Kf {g1 g2 g3 g4 g5:Addr} {d1 d2 d3 d4 d5:FuncData} (F:Fun K "guesses" "guesses" Cb f fd) (GC:FnOk P w K mg bz (Jl P w) 5 g1 d1 ["many","room","kind","sentence","row"] (GE K)) (CC:AL K mg "checked_sides" g1 d1 ["many","room","kind","sentence","row"])
  (GW:FnOk P w K mg bz AO 3 g2 d2 ["sentence","room"] (Df K)) (CW:AL K mg "worlds_of" g2 d2 ["sentence","room"]) (GM:FnOk P w K mg bz AO 1 g3 d3 ["many"] FF) (CM:AL K mg "all_marks" g3 d3 ["many"])
  (GS:FnOk P w K mg bz AO 3 g4 d4 ["room","marks"] (Ji K)) (CS:AL K mg "seen_by" g4 d4 ["room","marks"]) (GD:FnOk P w K mg bz AO 6 g5 d5 ["rule","sides","seen","answers"] (IC K)) (CD:AL K mg "all_due" g5 d5 ["rule","sides","seen","answers"]):FnOk P w K mg bz (Jl P w) 7 f fd ["many","room","kind","sentence","row"] (He K):=by
 refine Fun.okX F scGuesses (fun vs H Q E h=>?_) (fun cdv A outer s H vs Q E hr h=>?_)
 ·obtain⟨rm,rw,room,ps,es,m,z,v,t,rfl,_⟩:=h
  rfl
 obtain⟨rm,rw,room,ps,es,m,z,v,t,rfl,hrm,wr,ha,okm,ok5,hsz,hk,hns,hrw,hE,hok,hlen,hm5,q⟩:=h
 have hr1:Room 1 _:=hr.mono (by decide)
 have hr3:Room 3 _:=hr.mono (by decide)
 have hr5:Room 5 _:=hr.mono (by decide)
 have hpl:=hE.len
 refine⟨_,Ad (Ak (i:=5) scGuesses.nd rfl (Or.inl rfl) (Ai GC hr5 (by rfl) CC.m CC.k CC.b .nil (Dp (E1:=E) fun _ _ _ h=>h) (Aa (pv 0) (Aa (pv 1) (Aa (pv 2) (Aa (pv 3) (Aa (pv 4) Ab)))))))
  (Ad (Pw (MJ (i:=6) scGuesses.nd rfl (Or.inl rfl) (N:=["said","word","room"]) (js:=[none,none,some 1]) (cl:=[("room",s.heap.objs.size+1)]) ⟨rfl,rfl,rfl,(by intro p hp;simp at hp;rcases hp with rfl<;>rfl),rfl,rfl,rfl⟩ (AK (pv 4)) (fun c1=>(Er rfl (Bc (Ax (i:=0) (show (["said","word","room"]:List Str).Nodup by decide +kernel) rfl (Or.inl rfl)) (Bc (Ax (i:=1) (show (["said","word","room"]:List Str).Nodup by decide +kernel) rfl (Or.inl rfl)) DH)))) (fun c1=>Bm) (fun c1=>(Bs (Aa (Ai GW hr3 (by rfl) CW.m CW.k CW.b .nil Au (Aa (pv 0) (Aa (pv 2) Ab))) (Aa (pv 1) Ab))))))
  (Ad (Ak (i:=7) scGuesses.nd rfl (Or.inl rfl) (AF Ab))
  (Ad (Ba PassesOwn.leaving rfl (JJ (Bs (Aa Ar (Aa Ar Ab)))) (Ax (i:=8) scGuesses.nd rfl (Or.inl rfl))
   (Ae (Ba PassesOwn.leaving rfl (AK (Ai GM hr1 (by rfl) CM.m CM.k CM.b .nil Au (Aa (pv 0) Ab))) (Ax (i:=9) scGuesses.nd rfl (Or.inl rfl))
    (Ad (Ak (i:=10) scGuesses.nd rfl (Or.inl rfl) (Ai GS hr3 (by rfl) CS.m CS.k CS.b .nil Au (Aa (pv 1) (Aa (pv 9) Ab))))
    (Ae (AE (Cz (FN (pv 10) (fun _=>rfl)) (BN (A1 (Ai GD hr (by rfl) CD.m CD.k CD.b .nil Au (Aa (pv 8) (Aa (pv 5) (Aa (pv 10) (Aa (pv 6) Ab)))))))).pt
     (Ae (AU (Bz PySem.F.plainAttrs_list PySem.F.slot_list_append PySem.F.type_list_append AN (pv 7) (Aa (Bs (Aa (pv 8) (Aa (pv 9) Ab))) Ab))))
     An))))))
  (Ae (Aj (pv 7)))))),?_⟩
 refine⟨_,rfl,_,rfl,_,rfl,_,rfl,_,rfl,rm,rw,room,ps,es,m,z,v,t,rfl,SqL.of hrm,wr,ha,okm,ok5,hsz,hk,hns,SqL.of hrw,hE,hok,fun sd xs H1 s1 sd0 hsd hS=>?_⟩
 have okE:∀e∈es,e.1.ok 5∧e.1.size≤60:=fun e he=>⟨(hok e he).2.1,(hok e he).2.2.1⟩
 refine⟨_,rfl,rw,rfl,⟨_,SqL.of (s1 _ _ hrw)⟩,fun cc acc hacc=>AQ (K:=K) (a:=rw) (xs:=ps) (fun i σ H2=>∃(v0 v1:Option V) (ys:List V),σ=[v0,v1,some (.ref rm)]∧Same H1 H2∧H2 acc=some (.lst ys)∧AnAt (HI [acc] H2) room ys (es.take i)) ⟨_,_,[],rfl,Ag hacc _,Ac,.nil⟩ ?_ ?_ ?_⟩
 ·rintro i σ H2 _ ⟨v0,v1,ys,rfl,s2,_⟩
  exact SqL.of (s2 _ _ (s1 _ _ hrw))
 ·rintro i x σ H2 hx ⟨v0,v1,ys,rfl,s2,ha2,hA2⟩
  have hi:i<es.length:=by
   have:=(List.getElem?_eq_some_iff.mp hx).1
   omega
  have he:es[i]? = some es[i]:=List.getElem?_eq_getElem hi
  have hem:es[i]∈es:=List.getElem_mem hi
  generalize es[i]=e at *
  obtain⟨x',hx',p,u,ex,hp,hu⟩:=hE.get he
  rw[hx] at hx'
  cases hx'
  subst ex
  have t2:=s1.trans s2
  refine⟨p,_,rfl,SqT.of (t2 _ _ hp),rfl,_,_,rfl,_,_,rfl,rfl,?_⟩
  refine II ⟨_,rfl,_,rfl,u,e.1,rm,room,rfl,hu.keep (TS.same t2),(okE e hem).1,(by have:=(okE e hem).2;omega),SqL.of (t2 _ _ hrm),wr,fun wl H3 s3 wl0 hwl=>⟨_,rfl,Jd,fun tp htp=>?_⟩⟩
  have u4:=Ag htp (.tup [.ref wl,.str e.2])
  have g4:AA H3 tp (.tup [.ref wl,.str e.2]) tp=some (.tup [.ref wl,.str e.2]):=Ac
  have ntp:tp≠acc:=fun z=>by rw[z,s3 _ _ ha2] at htp;cases htp
  have nwl:wl≠acc:=fun z=>by rw[z,ha2] at wl0;cases wl0
  generalize AA H3 tp _=H4 at *
  have ha4:=u4 _ _ (s3 _ _ ha2)
  have hyl:=Paired.length hA2
  refine⟨ys,ha4,?_,_,_,ys++[.ref tp],rfl,AD (s2.trans (s3.trans u4)) hacc _,Ac,?_⟩
  ·rw[List.length_take] at hyl
   exact Nat.lt_of_le_of_lt (show ys.length≤300 by omega) (by decide)
  ·rw[Hz (List.mem_singleton.mpr rfl),List.take_add_one,he]
   exact AnAt.snoc ⟨tp,wl,rfl,Eu g4 fun z=>ntp (List.mem_singleton.mp z),Eu (u4 _ _ hwl) fun z=>nwl (List.mem_singleton.mp z)⟩ (AnAt.keep (Dn (s3.trans u4)) hA2)
 rintro σ H2 ⟨v0,v1,ys,rfl,s2,ha2,hA2⟩
 rw[hpl,List.take_length] at hA2
 have hA2:=AnAt.keep FL hA2
 have t2:=s1.trans s2
 have hS2:=hS.keep s2
 have hsd2:=s2 _ _ hsd
 have sl2:(AI z t room).length≤2:=by
  rcases F0 (z:=z) (t:=t) (row:=room) with⟨_,e⟩|⟨_,_,e⟩<;>rw[e]<;>simp
 have lS:DP (AI z t room)<64:=by
  have h1:=JB (z:=z) (t:=t) (row:=room)
  have h2:=wr.len
  omega
 have ssub:∀s∈AI z t room,s.Sublist room:=fun s hs=>Gm hs
 generalize hSS:AI z t room=S at *
 refine⟨Fi,fun tl htl=>?_⟩
 have u3:=Ag htl (.lst [])
 have g3:AA H2 tl (.lst []) tl=some (.lst []):=Ac
 have ntl:H tl=none:=t2.free htl
 generalize AA H2 tl _=H3 at *
 refine⟨Jd,fun tr htr=>⟨tr,rfl,⟨_,SqT.of Ac⟩,HS (K:=K) (a:=tr) (xs:=[.str "elder",.str "newer"]) (fun r σ H4=>∃(v8 v9 v10:Option V) (xs:List V) (pts:List Addr),σ=[some (.int (m:Int)),some (.ref rm),some (.str z),some v,some (.ref rw),some (.ref sd),some (.ref acc),some (.ref tl),v8,v9,v10]∧Same H2 H4∧H4 tr=some (.tup [.str "elder",.str "newer"])∧H4 tl=some (.lst xs)∧ToldAt H H4 xs ((rules2.take r).flatMap fun rule=>fits S room es rule (A3 m)) pts∧tl∉pts) ?_ ?_ ?_ ?_⟩⟩
 ·exact⟨_,_,_,[],[],rfl,u3.trans (Ag htr _),Ac,(Ag htr _) _ _ g3,ToldAt.nil,fun z=>nomatch z⟩
 ·rintro r σ H4 _ ⟨v8,v9,v10,xs,pts,rfl,s4,ht4,_⟩
  exact SqT.of ht4
 ·rintro r x σ H4 hx ⟨v8,v9,v10,xs,pts,rfl,s4,ht4,hl4,hT4,hn4⟩
  have hx2:=hx
  obtain⟨rule,rfl,hrl⟩:∃rule:Str,x= .str rule∧rules2[r]? = some rule:=by
   have hr2:r<2:=(List.getElem?_eq_some_iff.mp hx).1
   rcases (show r=0∨r=1 by omega) with rfl | rfl
   ·exact⟨"elder",(Option.some.inj hx).symm,rfl⟩
   ·exact⟨"newer",(Option.some.inj hx).symm,rfl⟩
  refine⟨_,rfl,m,rfl,hm5,fun ml mps H5 s5 ml0 hml hM hnl=>⟨ml,rfl,⟨_,SqL.of hml⟩,AQ (K:=K) (a:=ml) (xs:=mps.map V.ref) (fun a σ H6=>∃(v9 v10:Option V) (xs:List V) (pts cur:List Addr),σ=[some (.int (m:Int)),some (.ref rm),some (.str z),some v,some (.ref rw),some (.ref sd),some (.ref acc),some (.ref tl),some (.str rule),v9,v10]∧Same H2 H6∧H6 tr=some (.tup [.str "elder",.str "newer"])∧H6 ml=some (.lst (mps.map V.ref))∧Paired (Bd H6) mps (A3 m)∧H6 tl=some (.lst xs)∧ToldAt H H6 xs (((rules2.take r).flatMap fun rule=>fits S room es rule (A3 m))++fits S room es rule ((A3 m).take a)) (pts++cur)∧tl∉pts++cur∧(∀q∈pts,H4 q≠none)∧∀q∈cur,q∈mps.take a) ?_ ?_ ?_ ?_⟩⟩
  ·refine⟨_,_,xs,pts,[],rfl,s4.trans s5,s5 _ _ ht4,hml,hM.at_,s5 _ _ hl4,?_,?_,fun p hp e=>?_,fun p hp=>nomatch hp⟩
   ·rw[List.append_nil,List.take_zero]
    show ToldAt H H5 xs (_++[]) pts
    rw[List.append_nil]
    exact hT4.keep s5
   ·rw[List.append_nil];exact hn4
   ·obtain⟨ms,e2⟩:=Em hT4.mks.at_ p hp
    rw[e] at e2
    cases e2
  ·rintro a σ H6 _ ⟨v9,v10,xs,pts,cur,rfl,s6,ht6,hml6,_⟩
   exact SqL.of hml6
  ·rintro a x σ H6 hx ⟨v9,v10,xs,pts,cur,rfl,s6,ht6,hml6,hM6,hl6,hT6,hn6,hpt,hcur⟩
   obtain⟨p,ms,rfl,hp,hpi,hms,hpe⟩:=(MksAt.mk hM6 hM.fr hM.nd:MksAt H4 H6 mps (A3 m)).get hx
   have hml5:=Bu m ms (List.mem_of_getElem? hms)
   have t6:=t2.trans s6
   have lr9:room.length≤900:=by have:=wr.len;omega
   refine⟨_,rfl,_,rfl,rm,p,room,ms,rfl,SqL.of (t6 _ _ hrm),lr9,hpe,by omega,fun sl H7 s7 sl0 hsl=>?_⟩
   have skip:DX S room es rule ms=false→∀H8,Same H6 H8→∃(v9 v10:Option V) (xs:List V) (pts cur:List Addr),[some (V.int (m:Int)),some (.ref rm),some (.str z),some v,some (.ref rw),some (.ref sd),some (.ref acc),some (.ref tl),some (.str rule),some (.ref p),some (.ref sl)]=[some (.int (m:Int)),some (.ref rm),some (.str z),some v,some (.ref rw),some (.ref sd),some (.ref acc),some (.ref tl),some (.str rule),v9,v10]∧Same H2 H8∧H8 tr=some (.tup [.str "elder",.str "newer"])∧H8 ml=some (.lst (mps.map V.ref))∧Paired (Bd H8) mps (A3 m)∧H8 tl=some (.lst xs)∧ToldAt H H8 xs (((rules2.take r).flatMap fun rule=>fits S room es rule (A3 m))++fits S room es rule ((A3 m).take (a+1))) (pts++cur)∧tl∉pts++cur∧(∀q∈pts,H4 q≠none)∧∀q∈cur,q∈mps.take (a+1):=fun hf H8 s8=>by
    refine⟨_,_,xs,pts,cur,rfl,s6.trans s8,s8 _ _ ht6,s8 _ _ hml6,Bh s8 hM6,s8 _ _ hl6,?_,hn6,hpt,fun q hq=>?_⟩
    ·rw[DE hms,hf]
     show ToldAt H H8 xs (_++(_++[])) _
     rw[List.append_nil]
     exact hT6.keep s8
    ·rw[List.take_add_one,hpi]
     exact List.mem_append_left _ (hcur q hq)
   refine⟨_,rfl,!((room.filter (Db ms)).map V.int).isEmpty,.inl ⟨_,SqL.of hsl,rfl⟩,?_⟩
   by_cases c:room.filter (Db ms)=[]
   ·have hf:DX S room es rule ms=false:=by unfold DX;rw[c];rfl
    rw[c]
    exact A0 (A0 (skip hf _ s7))
   ·have hne:(!((room.filter (Db ms)).map V.int).isEmpty)=true:=by
     cases h:room.filter (Db ms) with
     | nil=>exact absurd h c
     | cons _ _=>rfl
    have hne2:(!(room.filter (Db ms)).isEmpty)=true:=by
     cases h:room.filter (Db ms) with
     | nil=>exact absurd h c
     | cons _ _=>rfl
    rw[hne]
    have u7:=s6.trans s7
    refine Bx ⟨_,rfl,_,rfl,_,rfl,_,rfl,sd,sl,acc,rule,_,ys,S,room,room.filter (Db ms),es,rfl,u7 _ _ hsd2,hS2.keep u7,ssub,sl2,lS,wr,hsl,List.filter_sublist,c,u7 _ _ ha2,AnAt.keep u7 hA2,fun H8 s8=>⟨_,rfl,?_⟩⟩
    cases hd:Jo ⟨S,rule,Bg room S,room.filter (Db ms)⟩ es with
    | false=>
     have hf:DX S room es rule ms=false:=by unfold DX;rw[hd,Bool.and_false]
     exact A0 (skip hf _ (s7.trans s8))
    | true=>
     have hf:DX S room es rule ms=true:=by unfold DX;rw[hd,hne2];rfl
     have u8:=s7.trans s8
     have hl8:=u8 _ _ hl6
     refine Bx ⟨_,rfl,.inl ⟨rfl,_,SqL.of hl8⟩,_,rfl,_,rfl,Jd,fun tq htq=>?_⟩
     have u9:=Ag htq (.tup [.str rule,.ref p])
     have g9:AA H8 tq (.tup [.str rule,.ref p]) tq=some (.tup [.str rule,.ref p]):=Ac
     generalize AA H8 tq _=H9 at *
     have u:=u8.trans u9
     have hl9:=u9 _ _ hl8
     have hp4:H4 p=none:=hM.fr p hp
     have tl4:tl≠p:=fun e=>by rw[←e,hl4] at hp4;cases hp4
     have tlm:tl∉mps:=fun e=>by
      have:=hM.fr tl e
      rw[hl4] at this
      cases this
     have nml:ml≠tl:=fun e=>by rw[e,hl4] at ml0;cases ml0
     have hnp:p∉pts++cur:=fun e=>by
      rcases List.mem_append.mp e with e | e
      ·exact hpt p e hp4
      ·exact Oj hM.nd hpi (hcur p e)
     have hT9:=(hT6.keep u).snoc g9 (u _ _ hpe) ((t2.trans s4).free hp4) hnp
     have hn9:tl∉(pts++cur)++[p]:=fun e=>by
      rcases List.mem_append.mp e with e | e
      ·exact hn6 e
      ·exact tl4 (List.mem_singleton.mp e)
     refine⟨tl,xs,_,rfl,rfl,hl9,?_,_,_,xs++[.ref tq],pts,cur++[p],rfl,AD (s6.trans u) htl _,by rw[Az (DT (u _ _ ht6) hl9 (by intro z;cases z))];exact u _ _ ht6,by rw[Az nml];exact u _ _ hml6,Ei tlm (Bh u hM6),Ac,?_,?_,hpt,fun q hq=>?_⟩
     ·have h1:=hT6.len.1
      have hr2:r<2:=(List.getElem?_eq_some_iff.mp hx2).1
      have h2:=Gq (S:=S) (room:=room) (es:=es) hm5 hr2
      have h3:=Dj S room es rule ((A3 m).take a)
      have h4:=Ci m hm5
      rw[List.length_append] at h1
      rw[List.length_take] at h3
      exact Nat.lt_of_le_of_lt (show xs.length≤486 by omega) (by decide)
     ·rw[DE hms,hf,←List.append_assoc,←List.append_assoc]
      exact hT9.put hl9 hn9
     ·rw[←List.append_assoc];exact hn9
     ·rw[List.take_add_one,hpi]
      rcases List.mem_append.mp hq with hq | hq
      ·exact List.mem_append_left _ (hcur q hq)
      ·exact List.mem_append_right _ (by rw[List.mem_singleton.mp hq];exact List.mem_cons_self)
  ·rintro σ H6 ⟨v9,v10,xs,pts,cur,rfl,s6,ht6,hml6,hM6,hl6,hT6,hn6,hpt,hcur⟩
   refine⟨_,_,_,xs,pts++cur,rfl,s6,ht6,hl6,?_,hn6⟩
   rw[List.take_add_one,hrl,List.flatMap_append]
   have e:(A3 m).take (mps.map V.ref).length=A3 m:=by
    rw[List.length_map,hM.len,List.take_length]
   rw[e] at hT6
   show ToldAt H H6 xs (_++(fits S room es rule (A3 m)++[])) _
   rw[List.append_nil]
   exact hT6
 ·rintro σ H4 ⟨v8,v9,v10,xs,pts,rfl,s4,ht4,hl4,hT4,hn4⟩
  refine⟨_,rfl,q tl xs pts H4 (t2.trans s4) ntl hl4 ?_ hn4⟩
  have e:CY S room es m=(rules2.take 2).flatMap fun rule=>fits S room es rule (A3 m):=by
   show _=fits S room es "elder" (A3 m)++(fits S room es "newer" (A3 m)++[])
   rw[List.append_nil]
   rfl
  rw[e]
  exact hT4
end
theorem EO {its:List Value} {j:Nat} {u:Value} (j1:j<its.toArray.size) (e:its[j]? = some u):its.toArray[j]=u:=by
 have j1':j<its.length:=by simpa using j1
 have:=List.getElem?_eq_getElem j1'
 rw[this] at e
 simpa using Option.some.inj e
section
variable {X:Cx} {pins:List (Addr×Obj)} {σ:L2.St} {H:Hp} {s:Shared}
theorem Pr {A:Around} (hu:A.units+9<cLine) (I:Inv X pins σ H s) {a b q:Addr} {z y:Str} (h1:H a=some (.tup [.ref q,.str z])) (h2:H b=some (.tup [.ref q,.str y])):SeqAt.EqAt A s (.ref a) (.ref b) (z == y):=by
 by_cases hab:a=b
 ·subst hab
  rw[h1] at h2
  have h3:=Option.some.inj h2
  injection h3 with h3
  have e:z=y:=by simpa using h3
  rw[e,beq_self_eq_true]
  exact SeqAt.EqAt.same _
 obtain⟨its,q1,pl,_⟩:=I.tuple (SqT.of h1)
 obtain⟨its2,q2,pl2,_⟩:=I.tuple (SqT.of h2)
 have l1:2=its.length:=q1.length
 have l2:2=its2.length:=q2.length
 have:=SeqAt.RcAt.tuples (e:=fun j=>if j=0 then true else z == y) (A:=A) pl pl2 (by omega) (fun j j1 j2=>by
  have j1':j<its.length:=by simpa using j1
  rcases (show j=0∨j=1 by omega) with rfl | rfl
  ·obtain⟨u1,e1,ru1⟩:=q1.get (i:=0) (x:=.ref q) rfl
   obtain⟨u2,e2,ru2⟩:=q2.get (i:=0) (x:=.ref q) rfl
   rw[EO j1 e1,EO j2 e2]
   cases ru1
   cases ru2
   exact SeqAt.EqAt.same _
  ·obtain⟨u1,e1,ru1⟩:=q1.get (i:=1) (x:=.str z) rfl
   obtain⟨u2,e2,ru2⟩:=q2.get (i:=1) (x:=.str y) rfl
   rw[EO j1 e1,EO j2 e2]
   obtain⟨t1,rfl⟩:=ru1
   obtain⟨t2,rfl⟩:=ru2
   exact SeqAt.EqAt.str_str (A:=A.in1) (s:=s) z t1 y t2)
 rw[show its.toArray.size=2 by simp;omega,show its2.toArray.size=2 by simp;omega] at this
 have e:((List.range (min 2 2)).all (fun j=>if j=0 then true else z == y) && (2 == 2))=(z == y):=by
  cases z == y<;>decide
 rw[e] at this
 exact SeqAt.EqAt.of_refs hab this
theorem M9 {as bs:List Str} (h:as.length=bs.length):((List.range as.length).all fun j=>as.getD j "" == bs.getD j "")=decide (as=bs):=by
 rw[Bool.eq_iff_iff,List.all_eq_true,decide_eq_true_iff]
 constructor
 ·intro hh
  refine List.ext_getElem h fun j h1 h2=>?_
  have:=hh j (List.mem_range.mpr h1)
  rw[List.getD_eq_getElem?_getD,List.getD_eq_getElem?_getD,List.getElem?_eq_getElem h1,List.getElem?_eq_getElem h2] at this
  exact eq_of_beq this
 ·rintro rfl j _
  exact beq_self_eq_true _
def Rs (K:PySem.W.Frag):R2:=fun x y H Q=>∃(a b:Addr) (xs ys vs:List V) (as bs:List Str),x= .ref a∧y= .ref b∧SqL K H a xs∧SqL K H b ys∧(∀v∈vs,∃q,v= .ref q)∧Paired (FT H) xs (vs.zip as)∧Paired (FT H) ys (vs.zip bs)∧as.length=vs.length∧bs.length=vs.length∧Q (.bl (decide (as=bs))) H
theorem Pm (hu:X.A.units+19<cLine):D0 X (compareOp .Eq) (Rs X.K):=by
 intro pins s σ H x y v u Q I rx ry h
 obtain⟨a,b,xs,ys,vs,as,bs,rfl,rfl,h1,h2,hv,e1,e2,la,lb,q⟩:=h
 cases rx
 cases ry
 obtain⟨its,q1,pl,_⟩:=I.list h1
 obtain⟨its2,q2,pl2,_⟩:=I.list h2
 have l1:=q1.length
 have l2:=q2.length
 have l3:=Paired.length e1
 have l4:=Paired.length e2
 rw[List.length_zip,la,Nat.min_self] at l3
 rw[List.length_zip,lb,Nat.min_self] at l4
 have R:=SeqAt.RcAt.lists (A:=X.A) (e:=fun j=>as.getD j "" == bs.getD j "") pl.isList pl2.isList (by simp;omega) (by omega) (fun j j1 j2=>by
  have j1':j<its.length:=by simpa using j1
  have hx1:xs[j]? = some xs[j]:=List.getElem?_eq_getElem (by omega)
  have hy1:ys[j]? = some ys[j]:=List.getElem?_eq_getElem (by omega)
  obtain⟨u1,f1,ru1⟩:=q1.get hx1
  obtain⟨u2,f2,ru2⟩:=q2.get hy1
  rw[EO j1 f1,EO j2 f2]
  have hjv:j<vs.length:=by omega
  obtain⟨q0,eq0⟩:=hv vs[j] (List.getElem_mem hjv)
  have ha1:as[j]? = some as[j]:=List.getElem?_eq_getElem (by omega)
  have hb1:bs[j]? = some bs[j]:=List.getElem?_eq_getElem (by omega)
  have z1:(vs.zip as)[j]? = some (vs[j],as[j]):=by rw[List.getElem?_zip_eq_some];exact⟨List.getElem?_eq_getElem hjv,ha1⟩
  have z2:(vs.zip bs)[j]? = some (vs[j],bs[j]):=by rw[List.getElem?_zip_eq_some];exact⟨List.getElem?_eq_getElem hjv,hb1⟩
  obtain⟨p1,ep1,hp1⟩:=Dm e1 hx1 z1
  obtain⟨p2,ep2,hp2⟩:=Dm e2 hy1 z2
  rw[eq0] at hp1 hp2
  rw[ep1] at ru1
  rw[ep2] at ru2
  cases ru1
  cases ru2
  rw[List.getD_eq_getElem?_getD,List.getD_eq_getElem?_getD,ha1,hb1]
  exact Pr (by show X.A.units+1+9<cLine;omega) I hp1 hp2)
 rw[show its.toArray.size=as.length by simp;omega,M9 (by omega)] at R
 refine R _ _ _ _ ?_
 exact⟨.bl _,H,I,rfl,q⟩
end
abbrev Ch:Stmt:=BD 65
def Gi (K:PySem.W.Frag):Sp:=fun vs H Q _=>∃(r mk:Addr) (room:List Int) (marks:List (Option Bool)),vs=[.ref r,.ref mk]∧SqL K H r (room.map V.int)∧room.length≤32∧H mk=some (.lst (marks.map Bn))∧marks.length≤5∧∀(l:Addr) (H':Hp),Same H H'→H l=none→AW H' l (room.filter (Db marks))→Q (.ref l) H'
section
theorem scLseenby:Ap ["_law_room_here","_law_marks","_law_found","_law_world","_law_bits"] ["_law_room_here","_law_marks"] (Af Ch):=BC
theorem JM (F:Fun K "_law_agreeing" "_law_agreeing" Ch f fd) (T:ID mg) (B:Bl mg):FnOk P w K mg bz AO 1 f fd ["_law_room_here","_law_marks"] (Gi K):=by
 refine F.ok scLseenby (fun vs H Q E h=>?_) (fun cdv A outer s H vs Q E hr h=>?_)
 ·obtain⟨r,mk,room,marks,rfl,_⟩:=h
  rfl
 obtain⟨r,mk,room,marks,rfl,hR,hl,hM,hml,q⟩:=h
 refine⟨_,Ad (Ak (i:=2) scLseenby.nd rfl (Or.inl rfl) (AF Ab))
  (Ad (Ba PassesOwn.never rfl (AK (pv 0)) (Ax (i:=3) scLseenby.nd rfl (Or.inr rfl))
   (Ad (Ak (i:=4) scLseenby.nd rfl (Or.inr rfl) (Bf (N:=["_law_k","_law_world"]) (js:=[none,some 3]) (cl:=[("_law_world",s.heap.objs.size+2)]) ⟨rfl,rfl,rfl,(by intro p hp;simp at hp;rcases hp with rfl<;>rfl),rfl,rfl,rfl⟩ (Bt (by rfl) B.range (Aa (Av Aw (by rfl) B.len PySem.boot_len (Aa (pv 1) Ab)) Ab)) (fun c1=>(Ax (i:=0) (show (["_law_k","_law_world"]:List Str).Nodup by decide +kernel) rfl (Or.inl rfl))) (fun c1=>Bm) (fun c1=>(Br AS (AC AZ (AC Bb (pv 1) (AH AG (AF (Aa Ah (Aa Ah (Aa Ah (Aa Ah (Aa Ah Ab)))))) (pv 0) (fun _ _=>rfl))) Ah) Ah (As _)))))
   (Ae (AE (A1 (Av (Et rfl) (by rfl) T.all boot_all (Aa (Bf (N:=["_law_k","_law_bits","_law_marks"]) (js:=[none,some 4,some 1]) (cl:=[("_law_marks",s.heap.objs.size+1),("_law_bits",s.heap.objs.size+3)]) ⟨rfl,rfl,rfl,(by intro p hp;simp at hp;rcases hp with rfl | rfl<;>rfl),rfl,rfl,rfl⟩ (Bt (by rfl) B.range (Aa (Av Aw (by rfl) B.len PySem.boot_len (Aa (pv 1) Ab)) Ab)) (fun c1=>(Ax (i:=0) (show (["_law_k","_law_bits","_law_marks"]:List Str).Nodup by decide +kernel) rfl (Or.inl rfl))) (fun c1=>Bm) (fun c1=>(Gw (L9 (HK (AH AG (pv 2) (pv 0) (fun _ _=>rfl)))) (Cm (Br AS (AH AG (pv 2) (pv 0) (fun _ _=>rfl)) (AH AG (pv 1) (pv 0) (fun _ _=>rfl)) (As _)))))) Ab)))
    (Ae (AU (Bz PySem.F.plainAttrs_list PySem.F.slot_list_append PySem.F.type_list_append AN (pv 2) (Aa (pv 3) Ab))))
    An))))
  (Ae (Aj (pv 2)))),?_⟩
 refine⟨Fi,fun fl hfl=>?_⟩
 have s1:=Ag hfl (.lst [])
 refine⟨_,rfl,r,rfl,⟨_,s1.seq hR⟩,AQ (K:=K) (a:=r) (xs:=room.map V.int) (fun i σ Hi=>∃(v1 v2:Option V),σ=[some (.ref r),some (.ref mk),some (.ref fl),v1,v2]∧Same H Hi∧AW Hi fl ((room.take i).filter (Db marks))) ⟨_,_,rfl,s1,Ac⟩ ?_ ?_ ?_⟩
 ·rintro i σ Hi _ ⟨v1,v2,rfl,si,_⟩
  exact si.seq hR
 ·rintro i y σ Hi hy ⟨v1,v2,rfl,si,hfi⟩
  rw[List.getElem?_map] at hy
  obtain⟨wd,hwd,rfl⟩:=Option.map_eq_some_iff.mp hy
  have hMi:=si _ _ hM
  have hwi:i<room.length:=(List.getElem?_eq_some_iff.mp hwd).1
  refine⟨_,rfl,mk,_,rfl,.inl (SqL.of hMi),_,rfl,(by rw[List.length_map];omega),(by rw[List.length_map];omega),fun cc bl hbl=>Bo (n:=((((marks.map Bn).length:Nat):Int)).toNat) (fun j σ Hj=>∃(v0:Option V),σ=[v0,some (.int wd)]∧Same Hi Hj∧Hj bl=some (.lst ((List.range j).map fun k=>V.bl (De k wd)))) ?_ ?_ ?_⟩
  ·exact⟨_,rfl,Ag hbl _,Ac⟩
  ·rintro j σ Hj hj ⟨v0,rfl,sj,hbj⟩
   rw[Int.zero_add]
   have hj5:j<marks.length:=by
    have h0:j<(((marks.map Bn).length:Nat):Int).toNat:=hj
    rw[List.length_map] at h0
    omega
   refine⟨_,rfl,Q8,fun pl hpl=>?_⟩
   have s3:=Ag hpl (.lst NK)
   refine⟨_,rfl,pl,NK,_,_,rfl,rfl,SqL.of Ac,Ni (by omega),_,_,rfl,rfl,⟨pow_pos j,NO (by omega)⟩,_,_,rfl,rfl,(by show (0:Int)<2;decide),rfl,?_⟩
   refine⟨_,s3 _ _ hbj,AJ (by rw[List.length_map,List.length_range];omega),?_⟩
   refine⟨_,rfl,AD (sj.trans s3) hbl _,?_⟩
   rw[Ac,JC,List.range_succ,List.map_append]
   rfl
  rintro σ Hj ⟨v0,rfl,sj,hbj⟩
  have hbj:Hj bl=some (.lst ((List.range marks.length).map fun k=>V.bl (De k wd))):=by
   have e:((((marks.map Bn).length:Nat):Int)).toNat=marks.length:=by rw[List.length_map];omega
   rw[e] at hbj
   exact hbj
  refine N9 rfl ?_
  have hMj:=sj _ _ hMi
  refine⟨_,rfl,mk,_,rfl,.inl (SqL.of hMj),_,rfl,(by rw[List.length_map];omega),(by rw[List.length_map];omega),fun c2 al hal=>Bo (n:=((((marks.map Bn).length:Nat):Int)).toNat) (fun j σ Hk=>∃(v0:Option V),σ=[v0,some (.ref bl),some (.ref mk)]∧Same Hj Hk∧Hk al=some (.lst (((marks.take j).mapIdx (Kj wd)).map V.bl))) ?_ ?_ ?_⟩
  ·exact⟨_,rfl,Ag hal _,Ac⟩
  ·rintro j σ Hk hj ⟨v0,rfl,sk,hak⟩
   rw[Int.zero_add]
   have hj5:j<marks.length:=by
    have h0:j<(((marks.map Bn).length:Nat):Int).toNat:=hj
    rw[List.length_map] at h0
    omega
   have hmi:marks[j]? = some marks[j]:=List.getElem?_eq_getElem hj5
   generalize marks[j]=mm at hmi
   have hat:Fs (marks.map Bn) (j:Int)=some (Bn mm):=Aq (by rw[List.getElem?_map,hmi];rfl)
   have hbt:Fs ((List.range marks.length).map fun k=>V.bl (De k wd)) (j:Int)=some (V.bl (De j wd)):=Aq (by rw[List.getElem?_map,List.getElem?_range hj5];rfl)
   have fin:∀H5,Same Hk H5→∃xs,H5 al=some (.lst xs)∧xs.length<sizeLine∧(fun σ Hk=>∃(v0:Option V),σ=[v0,some (.ref bl),some (.ref mk)]∧Same Hj Hk∧Hk al=some (.lst (((marks.take (j+1)).mapIdx (Kj wd)).map V.bl))) [some (.int (j:Nat)),some (.ref bl),some (.ref mk)] (AA H5 al (.lst (xs++[V.bl (Kj wd j mm)]))):=fun H5 s5=>by
    refine⟨_,s5 _ _ hak,AJ ?_,_,rfl,AD (sk.trans s5) hal _,?_⟩
    ·rw[List.length_map,List.length_mapIdx,List.length_take];omega
    ·rw[Ac,Jc wd hmi,List.map_append];rfl
   cases mm with
   | none=>
    refine⟨_,rfl,_,rfl,mk,_,_,_,rfl,rfl,SqL.of (sk _ _ hMj),hat,_,rfl,Bx ?_⟩
    exact fin _ (Same.refl _)
   | some b=>
    refine⟨_,rfl,_,rfl,mk,_,_,_,rfl,rfl,SqL.of (sk _ _ hMj),hat,_,rfl,A0 ?_⟩
    refine⟨_,rfl,_,rfl,mk,_,_,_,rfl,rfl,SqL.of (sk _ _ hMj),hat,_,rfl,_,rfl,bl,_,_,_,rfl,rfl,SqL.of (sk _ _ hbj),hbt,rfl,?_⟩
    have e:decide (Bn (some b)=V.bl (De j wd))=Kj wd j (some b):=KY b (De j wd)
    rw[e]
    exact fin _ (Same.refl _)
  rintro σ Hk ⟨v0,rfl,sk,hak⟩
  have hak:Hk al=some (.lst ((marks.mapIdx (Kj wd)).map V.bl)):=by
   have e:((((marks.map Bn).length:Nat):Int)).toNat=marks.length:=by rw[List.length_map];omega
   rw[e,List.take_length] at hak
   exact hak
  have sik:=sj.trans sk
  refine⟨al,_,rfl,SqL.of hak,_,rfl,?_⟩
  have et:room.take (i+1)=room.take i++[wd]:=by rw[List.take_add_one,hwd];rfl
  have hfk:=sik _ _ hfi
  cases hb:(marks.mapIdx (Kj wd)).all id with
  | true=>
   refine Bx ?_
   have hfk':Hk fl=some (.lst (((room.take i).filter (Db marks)).map V.int)):=hfk
   have ll:((room.take i).filter (Db marks)).length≤(room.take i).length:=List.length_filter_le _ _
   refine⟨_,rfl,.inl ⟨rfl,_,SqL.of hfk'⟩,_,rfl,fl,_,_,rfl,rfl,hfk',AJ (by rw[List.length_map];rw[List.length_take] at ll;omega),?_⟩
   refine⟨_,_,rfl,AD (si.trans sik) hfl _,?_⟩
   have ea:Db marks wd=true:=hb
   show AA Hk fl _ fl=_
   rw[Ac,et,List.filter_append,List.filter_cons_of_pos ea,List.filter_nil,List.map_append]
   rfl
  | false=>
   refine A0 ?_
   have ea:¬Db marks wd=true:=by
    have:Db marks wd=false:=hb
    rw[this]
    decide
   refine⟨_,_,rfl,si.trans sik,?_⟩
   rw[et,List.filter_append,List.filter_cons_of_neg ea,List.filter_nil,List.append_nil]
   exact hfk
 ·rintro σ Hi ⟨v1,v2,rfl,si,hfi⟩
  rw[List.length_map,List.take_length] at hfi
  exact⟨_,rfl,q fl Hi si hfl hfi⟩
end
abbrev EL:Stmt:=BD 64
abbrev Cj:Stmt:=BD 66
abbrev Du:Stmt:=BD 67
def Ks:Sp:=fun vs H Q _=>∃m:Nat,vs=[.int (m:Int)]∧m≤5∧∀(l:Addr) (ps:List Addr) (H':Hp),Same H H'→H l=none→H' l=some (.lst (ps.map V.ref))→Paired (Bd H') ps (A3 m)→Q (.ref l) H'
theorem E9 {H:Hp} {ps:List Addr} {mss:List (List (Option Bool))} {i:Nat} {v:V} (h:Paired (Bd H) ps mss) (hv:(ps.map V.ref)[i]? = some v):∃p ms,v= .ref p∧p∈ps∧ps[i]? = some p∧mss[i]? = some ms∧H p=some (.lst (ms.map Bn)):=by
 rw[List.getElem?_map] at hv
 cases e:ps[i]? with
 | none=>rw[e] at hv;cases hv
 | some p=>
  rw[e] at hv
  have hi:=(List.getElem?_eq_some_iff.mp e).1
  have hl:i<mss.length:=by have:=Paired.length h;omega
  exact⟨p,mss[i],(Option.some.inj hv).symm,List.mem_of_getElem? e,rfl,List.getElem?_eq_getElem hl,Dm (R:=Bd H) h e (List.getElem?_eq_getElem hl)⟩
theorem Mn {α β:Type} {R:α→β→Prop}:∀{xs xs':List α} {ys ys':List β},Paired R xs ys→Paired R xs' ys'→Paired R (xs++xs') (ys++ys')
 | _,_,_,_,.nil,q=>q
 | _,_,_,_,.cons r p,q=>.cons r (Mn p q)
section
theorem scLallm:Ap ["_law_many","_law_rows","_law_turn","_law_longer","_law_marks"] ["_law_many"] (Af EL):=BC
theorem scLmksare:Ap ["_law_found","_law_due_here","_law_k"] ["_law_found","_law_due_here"] (Af Cj):=BC
theorem scLlists:Ap ["_law_found","_law_due_here","_law_k","_law_one"] ["_law_found","_law_due_here"] (Af Du):=BC
theorem Mu (F:Fun K "_law_all_marks" "_law_all_marks" EL f fd) (B:Bl mg):FnOk P w K mg bz AO 1 f fd ["_law_many"] Ks:=by
 refine F.ok scLallm (fun vs H Q E h=>?_) (fun cdv A outer s H vs Q E hr h=>?_)
 ·obtain⟨m,rfl,_⟩:=h
  rfl
 obtain⟨m,rfl,hm5,q⟩:=h
 refine⟨_,Ad (Ak (i:=1) scLallm.nd rfl (Or.inl rfl) (AF (Aa (AF Ab) Ab)))
  (Ad (Ba PassesOwn.never rfl (Bt (by rfl) B.range (Aa (pv 0) Ab)) (Ax (i:=2) scLallm.nd rfl (Or.inl rfl))
   (Ad (Ak (i:=3) scLallm.nd rfl (Or.inl rfl) (AF Ab))
   (Ad (Ba PassesOwn.never rfl (AK (pv 1)) (Ax (i:=4) scLallm.nd rfl (Or.inr rfl))
    (Ae (Ak (i:=3) scLallm.nd rfl (Or.inl rfl) (AC JR (pv 3) (Bf (N:=["_law_mark","_law_marks"]) (js:=[none,some 4]) (cl:=[("_law_marks",s.heap.objs.size+1)]) ⟨rfl,rfl,rfl,(by intro p hp;simp at hp;rcases hp with rfl<;>rfl),rfl,rfl,rfl⟩ (AK (AF (Aa HQ (Aa Bq (Aa Bq Ab))))) (fun c1=>(Ax (i:=0) (show (["_law_mark","_law_marks"]:List Str).Nodup by decide +kernel) rfl (Or.inl rfl))) (fun c1=>Bm) (fun c1=>(AC JR (pv 1) (AF (Aa (pv 0) Ab)))))))))
   (Ae (Ak (i:=1) scLallm.nd rfl (Or.inl rfl) (pv 3))))))
  (Ae (Aj (pv 1)))),?_⟩
 refine⟨Fi,fun r0 hr0=>⟨LE,fun l0 hl0=>?_⟩⟩
 have s0:=Ag hr0 (.lst [])
 have e0:AA H r0 (.lst []) r0=some (.lst []):=Ac
 generalize AA H r0 _=H0 at *
 have s1:=Ag hl0 (.lst [.ref r0])
 have e1:AA H0 l0 (.lst [.ref r0]) l0=some (.lst [.ref r0]):=Ac
 have er:=s1 _ _ e0
 generalize AA H0 l0 _=H1 at *
 have nl0:H l0=none:=s0.free hl0
 refine⟨_,rfl,_,rfl,(by omega),(by omega),Bo (fun i σ Hi=>∃(l:Addr) (ps:List Addr) (v2 v3 v4:Option V),σ=[some (.int (m:Int)),some (.ref l),v2,v3,v4]∧Same H Hi∧H l=none∧Hi l=some (.lst (ps.map V.ref))∧Paired (Bd Hi) ps (A3 i)) ⟨l0,[r0],none,none,none,rfl,s0.trans s1,nl0,e1,.cons er .nil⟩ ?_ ?_⟩
 ·rintro i σ Hi hi ⟨l,ps,v2,v3,v4,rfl,si,nl,hl,hM⟩
  have hi5:i<5:=by
   have h0:i<((m:Int)).toNat:=hi
   omega
  have hle:=Ci i (by omega)
  have hpl:=Paired.length hM
  refine⟨Fi,fun g0 hg0=>?_⟩
  have u0:=Ag hg0 (.lst [])
  have e00:AA Hi g0 (.lst []) g0=some (.lst []):=Ac
  have ng0:H g0=none:=si.free hg0
  generalize AA Hi g0 _=Hj at *
  refine⟨_,rfl,l,rfl,⟨_,SqL.of (u0 _ _ hl)⟩,AQ (K:=K) (a:=l) (xs:=ps.map V.ref) (fun a σ H3=>∃(g:Addr) (qs:List Addr) (v4:Option V),σ=[some (.int (m:Int)),some (.ref l),some (.int (0+(i:Int))),some (.ref g),v4]∧Same Hi H3∧H g=none∧H3 g=some (.lst (qs.map V.ref))∧Paired (Bd H3) qs (((A3 i).take a).flatMap Cf)) ⟨g0,[],_,rfl,u0,ng0,e00,.nil⟩ ?_ ?_ ?_⟩
  ·rintro a σ H3 _ ⟨g,qs,v4,rfl,s3,_⟩
   exact SqL.of (s3 _ _ hl)
  ·rintro a x σ H3 hx ⟨g,qs,v4,rfl,s3,ng,hg,hQ⟩
   obtain⟨p,ms,rfl,hp,hpi,hms,hpe⟩:=E9 hM hx
   have hml:=Bu i ms (List.mem_of_getElem? hms)
   refine⟨_,rfl,N6,fun cl hcl=>?_⟩
   have uc:=Ag hcl (.lst (mark3.map Bn))
   have gc:AA H3 cl (.lst (mark3.map Bn)) cl=some (.lst (mark3.map Bn)):=Ac
   show ∃a,_∧_
   rw[show ([V.non,.bl false,.bl true]:List V)=mark3.map Bn from rfl]
   generalize AA H3 cl (.lst (mark3.map Bn))=Hc at *
   refine⟨cl,rfl,⟨_,SqL.of gc⟩,fun cc acc hacc=>AQ (K:=K) (a:=cl) (xs:=mark3.map Bn) (fun b σ H4=>∃(v0:Option V) (cs:List Addr),σ=[v0,some (.ref p)]∧Same Hc H4∧H4 acc=some (.lst (cs.map V.ref))∧Paired (Bd (HI [acc] H4)) cs ((Cf ms).take b)) ⟨_,[],rfl,Ag hacc _,Ac,.nil⟩ ?_ ?_ ?_⟩
   ·rintro b σ H4 _ ⟨v0,cs,rfl,s4,_⟩
    exact SqL.of (s4 _ _ gc)
   ·rintro b x σ H4 hb ⟨v0,cs,rfl,s4,ha4,hC⟩
    have hb3:b<3:=(List.getElem?_eq_some_iff.mp hb).1
    obtain⟨mk,rfl,hmk⟩:∃mk,x=Bn mk∧(Cf ms)[b]? = some (ms++[mk]):=by
     rcases (show b=0∨b=1∨b=2 by omega) with rfl | rfl | rfl
     ·exact⟨none,(Option.some.inj hb).symm,rfl⟩
     ·exact⟨some false,(Option.some.inj hb).symm,rfl⟩
     ·exact⟨some true,(Option.some.inj hb).symm,rfl⟩
    have hp4:=s4 _ _ (uc _ _ (s3 _ _ hpe))
    refine II ⟨_,rfl,_,rfl,LE,fun f1 hf1=>?_⟩
    have u1:=Ag hf1 (.lst [Bn mk])
    have g1:AA H4 f1 (.lst [Bn mk]) f1=some (.lst [Bn mk]):=Ac
    generalize AA H4 f1 _=H5 at *
    refine⟨p,f1,_,_,rfl,rfl,u1 _ _ hp4,g1,?_,fun f2 hf2=>?_⟩
    ·rw[List.length_map,hml]
     exact Nat.le_trans (show i+1≤10 by omega) (by decide)
    have u2:=Ag hf2 (.lst (ms.map Bn++[Bn mk]))
    have g2:AA H5 f2 (.lst (ms.map Bn++[Bn mk])) f2=some (.lst ((ms++[mk]).map Bn)):=by rw[Ac,List.map_append];rfl
    have hnf:f2≠acc:=fun e=>by rw[e,u1 _ _ ha4] at hf2;cases hf2
    generalize AA H5 f2 _=H6 at *
    have hcl:=Paired.length hC
    refine⟨_,u2 _ _ (u1 _ _ ha4),?_,_,cs++[f2],rfl,AD (s4.trans (u1.trans u2)) hacc _,by rw[Ac,List.map_append];rfl,?_⟩
    ·have h3:(Cf ms).length=3:=rfl
     rw[List.length_take,h3] at hcl
     rw[List.length_map]
     exact Nat.lt_of_le_of_lt (show cs.length≤3 by omega) (by decide)
    ·rw[Hz (List.mem_singleton.mpr rfl),List.take_add_one,hmk]
     exact Cn (R:=Bd (HI [acc] H6)) (Eu g2 fun z=>hnf (List.mem_singleton.mp z)) (Bh (Dn (u1.trans u2)) hC)
   ·rintro σ H4 ⟨v0,cs,rfl,s4,ha4,hC⟩
    have u4:=uc.trans s4
    have hC4:Paired (Bd H4) cs (Cf ms):=Bh FL hC
    have hql:=Paired.length hQ
    have hcl:=Paired.length hC4
    rw[HN] at hql
    have h2:((A3 i).take a).length≤243:=by rw[List.length_take];omega
    have h3:(Cf ms).length=3:=rfl
    refine⟨g,acc,_,_,rfl,rfl,u4 _ _ hg,ha4,?_,fun g2 hg2=>?_⟩
    ·rw[List.length_map,List.length_map]
     exact Nat.le_trans (show qs.length+cs.length≤732 by omega) (by decide)
    have u5:=Ag hg2 (.lst (qs.map V.ref++cs.map V.ref))
    have t5:=s3.trans (u4.trans u5)
    refine⟨g2,qs++cs,_,rfl,t5,(si.trans (s3.trans u4)).free hg2,by rw[Ac,List.map_append],?_⟩
    rw[Gg hms]
    exact Mn (Bh (u4.trans u5) hQ) (Bh u5 hC4)
  ·rintro σ H3 ⟨g,qs,v4,rfl,s3,ng,hg,hQ⟩
   refine⟨_,rfl,g,qs,_,_,_,rfl,si.trans s3,ng,hg,?_⟩
   rw[List.length_map,hpl,List.take_length] at hQ
   exact hQ
 ·rintro σ Hi ⟨l,ps,v2,v3,v4,rfl,si,nl,hl,hM⟩
  exact⟨_,rfl,q l ps Hi si nl hl (by simpa using hM)⟩
end
abbrev GsAt (H:Hp):List V→List (Str×List (Option Bool))→Prop:=Paired fun (v:V) (g:Str×List (Option Bool))=>∃q p,v= .ref q∧H q=some (.tup [.str g.1,.ref p])∧H p=some (.lst (g.2.map Bn))
theorem GsAt.keep {H H':Hp} (s:Same H H'):∀{xs:List V} {gs:List (Str×List (Option Bool))},GsAt H xs gs→GsAt H' xs gs
 | _,_,.nil=>.nil
 | _,_,.cons ⟨q,p,e,h1,h2⟩ r=>.cons ⟨q,p,e,s _ _ h1,s _ _ h2⟩ (GsAt.keep s r)
def Ho:Sp:=fun vs H Q _=>∃(a b:Addr) (ms:List (Option Bool)),vs=[.ref a,.ref b]∧H a=some (.lst (ms.map Bn))∧H b=some (.lst (ms.map Bn))∧ms.length≤5∧Q (.bl true) H
def Jg:Sp:=fun vs H Q _=>∃(a b:Addr) (xs ys:List V) (gs:List (Str×List (Option Bool))),vs=[.ref a,.ref b]∧H a=some (.lst xs)∧H b=some (.lst ys)∧GsAt H xs gs∧GsAt H ys gs∧gs.length≤900∧(∀g∈gs,g.2.length≤5)∧Q (.bl true) H
section
theorem JQ (F:Fun K "_law_marks_are" "_law_marks_are" Cj f fd) (T:ID mg) (B:Bl mg):FnOk P w K mg bz AO 1 f fd ["_law_found","_law_due_here"] Ho:=by
 refine F.ok scLmksare (fun vs H Q E h=>?_) (fun cdv A outer s H vs Q E hr h=>?_)
 ·obtain⟨a,b,ms,rfl,_⟩:=h
  rfl
 obtain⟨a,b,ms,rfl,ha,hb,hl5,q⟩:=h
 refine⟨_,Ad (AE (GX (BJ (A1 (Av BG (by rfl) T.isi boot_isinstance (Aa (pv 0) (Aa (Eg (v:=.ty "list") (by rfl) T.lst BT rfl) Ab))))) (FD (Am Gz (Av Aw (by rfl) B.len PySem.boot_len (Aa (pv 0) Ab)) (Av Aw (by rfl) B.len PySem.boot_len (Aa (pv 1) Ab)) (As _)))).pt
   (Ae (Aj Bq))
   An)
  (Ad (Ba PassesOwn.never rfl (Bt (by rfl) B.range (Aa (Av Aw (by rfl) B.len PySem.boot_len (Aa (pv 1) Ab)) Ab)) (Ax (i:=2) scLmksare.nd rfl (Or.inl rfl))
   (Ad (AE (Cz (HH (HK (AH AG (pv 1) (pv 2) (fun _ _=>rfl)))) (BN (HH (Ko (AH AG (pv 0) (pv 2) (fun _ _=>rfl)))))).pt
    (Ae (Aj Bq))
    An)
   (Ae (AE (Cz (HH (Ko (AH AG (pv 1) (pv 2) (fun _ _=>rfl)))) (BN (GX (BJ (A1 (Av BG (by rfl) T.isi boot_isinstance (Aa (AH AG (pv 0) (pv 2) (fun _ _=>rfl)) (Aa (Eg (v:=.ty "bool") (by rfl) T.bool boot_bool rfl) Ab))))) (FD (Am Gz (AH AG (pv 0) (pv 2) (fun _ _=>rfl)) (AH AG (pv 1) (pv 2) (fun _ _=>rfl)) (As _)))).pt)).pt
    (Ae (Aj Bq))
    An))))
  (Ae (Aj Bq))),?_⟩
 have hlen:(ms.map Bn).length=ms.length:=List.length_map _
 refine⟨_,rfl,_,_,_,_,rfl,.lst ha,Di _ _,_,rfl,?_⟩
 refine A0 ?_
 refine⟨_,rfl,a,_,rfl,.inl (SqL.of ha),_,rfl,b,_,rfl,.inl (SqL.of hb),rfl,_,rfl,?_⟩
 refine Ek rfl ?_
 refine⟨_,rfl,b,_,rfl,.inl (SqL.of hb),_,rfl,(by show -(2^62)≤(((ms.map Bn).length:Nat):Int);omega),(by show (((ms.map Bn).length:Nat):Int)<2^62;omega),Bo (fun i σ H2=>∃kv,σ=[some (.ref a),some (.ref b),kv]∧H2=H) ⟨_,rfl,rfl⟩ ?_ ?_⟩
 ·rintro i σ H2 hi ⟨kv,rfl,rfl⟩
  have hi':i<ms.length:=by
   have h0:i<(((ms.map Bn).length:Nat):Int).toNat:=hi
   omega
  rw[Int.zero_add]
  obtain⟨mk,hat⟩:∃mk,Fs (ms.map Bn) (i:Int)=some (Bn mk):=⟨ms[i],Aq (by rw[List.getElem?_map,List.getElem?_eq_getElem hi'];rfl)⟩
  cases mk with
  | none=>
   refine⟨_,rfl,_,rfl,b,_,_,_,rfl,rfl,SqL.of hb,hat,_,rfl,Bp rfl ⟨_,rfl,_,rfl,a,_,_,_,rfl,rfl,SqL.of ha,hat,_,rfl,Ek rfl ?_⟩⟩
   refine⟨_,rfl,_,rfl,b,_,_,_,rfl,rfl,SqL.of hb,hat,_,rfl,Ek rfl (A0 ⟨_,rfl,rfl⟩)⟩
  | some c=>
   refine⟨_,rfl,_,rfl,b,_,_,_,rfl,rfl,SqL.of hb,hat,_,rfl,Bk (by intro z;cases z) (A0 ?_)⟩
   refine⟨_,rfl,_,rfl,b,_,_,_,rfl,rfl,SqL.of hb,hat,_,rfl,KL (by intro z;cases z) ⟨_,rfl,_,rfl,a,_,_,_,rfl,rfl,SqL.of ha,hat,_,_,_,_,rfl,.bl _,Di _ _,_,rfl,A0 ⟨_,rfl,_,rfl,a,_,_,_,rfl,rfl,SqL.of ha,hat,_,rfl,_,rfl,b,_,_,_,rfl,rfl,SqL.of hb,hat,?_,_,rfl,Ek rfl ⟨_,rfl,rfl⟩⟩⟩⟩
   rfl
 ·rintro σ H2 ⟨kv,rfl,rfl⟩
  exact q
theorem LT {g1 g2:Addr} {d1 d2:FuncData} (F:Fun K "_law_lists_are" "_law_lists_are" Du f fd) (T:ID mg) (B:Bl mg) (GS:FnOk P w K mg bz AO 1 g1 d1 ["_law_found","_law_due_here"] MM) (CS:AL K mg "_law_says" g1 d1 ["_law_found","_law_due_here"]) (GM:FnOk P w K mg bz AO 1 g2 d2 ["_law_found","_law_due_here"] Ho) (CM:AL K mg "_law_marks_are" g2 d2 ["_law_found","_law_due_here"]):FnOk P w K mg bz AO 2 f fd ["_law_found","_law_due_here"] Jg:=by
 refine F.ok scLlists (fun vs H Q E h=>?_) (fun cdv A outer s H vs Q E hr h=>?_)
 ·obtain⟨a,b,xs,ys,gs,rfl,_⟩:=h
  rfl
 obtain⟨a,b,xs,ys,gs,rfl,ha,hb,hX,hY,hl,hg5,q⟩:=h
 refine⟨_,Ad (AE (GX (BJ (A1 (Av BG (by rfl) T.isi boot_isinstance (Aa (pv 0) (Aa (Eg (v:=.ty "list") (by rfl) T.lst BT rfl) Ab))))) (FD (Am Gz (Av Aw (by rfl) B.len PySem.boot_len (Aa (pv 0) Ab)) (Av Aw (by rfl) B.len PySem.boot_len (Aa (pv 1) Ab)) (As _)))).pt
   (Ae (Aj Bq))
   An)
  (Ad (Ba PassesOwn.never rfl (Bt (by rfl) B.range (Aa (Av Aw (by rfl) B.len PySem.boot_len (Aa (pv 1) Ab)) Ab)) (Ax (i:=2) scLlists.nd rfl (Or.inl rfl))
   (Ad (Ak (i:=3) scLlists.nd rfl (Or.inl rfl) (AH AG (pv 0) (pv 2) (fun _ _=>rfl)))
   (Ad (AE (GX (BJ (A1 (Av BG (by rfl) T.isi boot_isinstance (Aa (pv 3) (Aa (Eg (v:=.ty "tuple") (by rfl) T.tup M2 rfl) Ab))))) (FD (Am Gz (Av Aw (by rfl) B.len PySem.boot_len (Aa (pv 3) Ab)) Ah (As _)))).pt
    (Ae (Aj Bq))
    An)
   (Ad (AE (BJ (A1 (Ai GS hr (by rfl) CS.m CS.k CS.b .nil Au (Aa (AH A4 (pv 3) Ah (fun _ _=>rfl)) (Aa (AH A4 (AH AG (pv 1) (pv 2) (fun _ _=>rfl)) Ah (fun _ _=>rfl)) Ab)))))
    (Ae (Aj Bq))
    An)
   (Ae (AE (BJ (A1 (Ai GM hr (by rfl) CM.m CM.k CM.b .nil Au (Aa (AH A4 (AH AG (pv 0) (pv 2) (fun _ _=>rfl)) Ah (fun _ _=>rfl)) (Aa (AH A4 (AH AG (pv 1) (pv 2) (fun _ _=>rfl)) Ah (fun _ _=>rfl)) Ab)))))
    (Ae (Aj Bq))
    An))))))
  (Ae (Aj Bq))),?_⟩
 have lx:=Paired.length hX
 have ly:=Paired.length hY
 refine⟨_,rfl,_,_,_,_,rfl,.lst ha,Di _ _,_,rfl,?_⟩
 refine A0 ?_
 refine⟨_,rfl,a,_,rfl,.inl (SqL.of ha),_,rfl,b,_,rfl,.inl (SqL.of hb),rfl,_,rfl,?_⟩
 refine Ek (by rw[lx,ly]) ?_
 refine⟨_,rfl,b,_,rfl,.inl (SqL.of hb),_,rfl,(by show -(2^62)≤((ys.length:Nat):Int);omega),(by show ((ys.length:Nat):Int)<2^62;omega),Bo (fun i σ H2=>∃kv ov,σ=[some (.ref a),some (.ref b),kv,ov]∧H2=H) ⟨_,_,rfl,rfl⟩ ?_ ?_⟩
 ·rintro i σ H2 hi ⟨kv,ov,rfl,rfl⟩
  have hi':i<gs.length:=by
   have h0:i<((ys.length:Nat):Int).toNat:=hi
   omega
  rw[Int.zero_add]
  have hx:xs[i]? = some xs[i]:=List.getElem?_eq_getElem (by omega)
  have hy:ys[i]? = some ys[i]:=List.getElem?_eq_getElem (by omega)
  have hg:gs[i]? = some gs[i]:=List.getElem?_eq_getElem hi'
  have hg5':=hg5 _ (List.getElem_mem hi')
  obtain⟨q1,p1,ex,h1,h2⟩:=Dm hX hx hg
  obtain⟨q2,p2,ey,h3,h4⟩:=Dm hY hy hg
  rw[ex] at hx
  rw[ey] at hy
  refine⟨_,rfl,_,rfl,a,_,_,_,rfl,rfl,SqL.of ha,Aq hx,?_⟩
  refine⟨_,rfl,_,_,_,_,rfl,.tup h1,Di _ _,_,rfl,A0 ?_⟩
  refine⟨_,rfl,q1,_,rfl,.inr (SqT.of h1),rfl,_,rfl,Ek rfl ?_⟩
  refine⟨_,rfl,q1,_,_,_,rfl,rfl,SqT.of h1,Aq (j:=0) rfl,_,rfl,_,rfl,b,_,_,_,rfl,rfl,SqL.of hb,Aq hy,q2,_,_,_,rfl,rfl,SqT.of h3,Aq (j:=0) rfl,gs[i].1,rfl,_,rfl,A0 ?_⟩
  exact⟨_,rfl,_,rfl,a,_,_,_,rfl,rfl,SqL.of ha,Aq hx,q1,_,_,_,rfl,rfl,SqT.of h1,Aq (j:=1) rfl,_,rfl,_,rfl,b,_,_,_,rfl,rfl,SqL.of hb,Aq hy,q2,_,_,_,rfl,rfl,SqT.of h3,Aq (j:=1) rfl,p1,p2,gs[i].2,rfl,h2,h4,hg5',_,rfl,A0 ⟨_,_,rfl,rfl⟩⟩
 ·rintro σ H2 ⟨kv,ov,rfl,rfl⟩
  exact q
end
def FR:List Expr→Option (List Int)
 | []=>some []
 | .Constant (.int i) _ _::es=>(FR es).map (i :: ·)
 | _=>none
def tK (vs:List V):TA:=fun _ H Q=>Q vs H
theorem E6 {X:Cx}:∀{es:List Expr} {ns:List Int},FR es=some ns→PA X es (tK (ns.map V.int))
 | [],ns,h=>by
  cases h
  exact Ab
 | e::es,ns,h=>by
  unfold FR at h
  split at h
  ·rename_i heq;cases heq
  ·rename_i i j p es' heq
   cases heq
   cases e2:FR es with
   | none=>rw[e2] at h;cases h
   | some ms=>
    rw[e2] at h
    cases h
    exact Aa Ah (E6 e2)
  ·cases h
structure Qk (X:Cx) (sts:List Stmt) (t:L2.TS):Prop where
 h:PSs X sts t
theorem AY {X:Cx} {st:Stmt} {rest:List Stmt} {t u:L2.TS} (h1:PS X st t) (h2:Qk X rest u):Qk X (st::rest) (Nw t u):=⟨Ad h1 h2.h⟩
theorem P0 {X:Cx} {st:Stmt} {t:L2.TS} (h1:PS X st t):Qk X [st] t:=⟨Ae h1⟩
theorem QA {X:Cx} {sts:List Stmt} {D:BV} {σ:L2.St} {H:Hp} (h:∃t,Qk X sts t∧t D σ H):∃t,PSs X sts t∧t D σ H:=by
 obtain⟨t,h1,h2⟩:=h
 exact⟨t,h1.h,h2⟩
theorem N1 {X:Cx} {i:Nat} {x:Str} {es:List Expr} {ns:List Int} {e:Expr} {tb:L2.TE} {rest:List Stmt} {u:L2.TS} {pos pos' p1 p2:Pos} (hN:X.N.Nodup) (hi:X.N[i]? = some x) (hx:O5 X.env.scope x) (hes:FR es=some ns) (he:PE X e tb) (hp:Kk e) (hs:swapsWith (.Subscript (.List es p1) e p2) (some (.Name x pos')) pos.line X.env=pure false) (hf:X.fn x=true∨X.env.scope.names.lookup x=some .local) (h2:Qk X rest u) :
  Qk X (.Assign [.Name x pos'] (.Subscript (.List es p1) e p2) pos::rest) (Nw (K6 (QB (PV X.K) (Qy (tK (ns.map V.int))) tb) (Ck i)) u):=
 ⟨Ad (Ak hN hi hx (AH AG (AF (E6 hes)) he hp) hs hf) h2.h⟩
theorem Fu {H:Hp} {many:Nat}:∀{xs:List V} {ts:List Tr},AskedAt H many xs ts→Pile H xs ts∧∀u∈ts,u.ok many∧u.size≤21
 | _,_,.nil=>⟨.nil,fun u hu=>by cases hu⟩
 | _,_,.cons ⟨h,o,z⟩ q=>by
  obtain⟨p,r⟩:=Fu q
  refine⟨.cons h p,fun u hu=>?_⟩
  rcases List.mem_cons.mp hu with rfl | hu
  ·exact⟨o,z⟩
  ·exact r u hu
theorem Gd {H:Hp}:∀{xs:List V} {ts:List Tr} (m:Nat),Pile H xs ts→Pile H (xs.take m) (ts.take m)
 | _,_,0,_=>by rw[List.take_zero,List.take_zero];exact .nil
 | _,_,_+1,.nil=>.nil
 | _,_,m+1,.cons h q=>.cons h (Gd m q)
theorem Ld (xs:List V) (m:Nat):Ed xs none (some (m:Int))=xs.take m:=by
 unfold Ed
 rw[HT.sIx_none,HT.sIx_nat]
 show (xs.drop 0).take (min m xs.length-0)=_
 rw[List.drop_zero,Nat.sub_zero]
 rcases Nat.le_total m xs.length with h | h
 ·rw[Nat.min_eq_left h]
 ·rw[Nat.min_eq_right h,List.take_length,List.take_of_length_le h]
theorem Gs (xs:List V) (m:Nat):Ed xs (some (m:Int)) none=xs.drop m:=by
 unfold Ed
 rw[HT.sIx_none,HT.sIx_nat]
 show (xs.drop (min m xs.length)).take (xs.length-min m xs.length)=_
 rw[←List.length_drop,List.take_length]
 rcases Nat.le_total m xs.length with h | h
 ·rw[Nat.min_eq_left h]
 ·rw[Nat.min_eq_right h,List.drop_length,List.drop_eq_nil_of_le h]
theorem OZ {j:Jp} {us:List Tr} {ws:List Str} (h:ws.length=us.length):Jo j (us.zip ws)=decide ((j.ans j.bas us).map Prod.snd=ws):=by
 unfold Jo
 rw[List.map_fst_zip (by omega)]
 refine decide_eq_decide.mpr ⟨fun e=>?_,fun e=>?_⟩
 ·rw[e,List.map_snd_zip (by omega)]
 ·rw[←Jp.zip j us j.bas,e]
theorem Jq {H:Hp} {p1:Addr} {v:V} {w1:Str} (hp:H p1=some (.tup [v,.str w1])):∀{axs ps:List V} {ws:List Str} {i:Nat},Paired (FT H) ps (axs.zip ws)→axs.length=ws.length→axs[i]? = some v→Paired (FT H) (ps.set i (.ref p1)) (axs.zip (ws.set i w1))
 | [],_,_,_,_,_,hv=>by cases hv
 | x::axs,_,[],_,_,hl,_=>by cases hl
 | x::axs,_,y::ws,i,.cons h q,hl,hv=>by
  cases i with
  | zero=>
   cases hv
   exact .cons ⟨p1,rfl,hp⟩ q
  | succ i=>exact .cons h (Jq hp q (by simpa using hl) hv)
theorem Ku {H:Hp}:∀{gs:List (Str×List (Option Bool))} {xs:List V} {ps:List Addr},Paired (fun (v:V) (g:Str×Addr)=>∃q,v= .ref q∧H q=some (.tup [.str g.1,.ref g.2])) xs ((gs.map Prod.fst).zip ps)→Paired (Bd H) ps (gs.map Prod.snd)→GsAt H xs gs
 | [],_,_,h,_=>by
  cases h
  exact .nil
 | g::gs,_,_,h,m=>by
  cases m with
  | cons a m=>
   cases h with
   | cons b h=>
    obtain⟨q,e,hq⟩:=b
    exact .cons ⟨q,_,e,hq,a⟩ (Ku h m)
theorem Fa {α β:Type} {R:α→β→Prop}:∀(n:Nat) {xs:List α} {ys:List β},Paired R xs ys→Paired R (xs.drop n) (ys.drop n)
 | 0,_,_,h=>h
 | _+1,_,_,.nil=>.nil
 | n+1,_,_,.cons _ q=>Fa n q
theorem OA {H:Hp} {gs:List (Str×List (Option Bool))} {xs:List V} {ps:List Addr} {n:Nat} (h:Paired (fun (v:V) (g:Str×Addr)=>∃q,v= .ref q∧H q=some (.tup [.str g.1,.ref g.2])) xs ((gs.map Prod.fst).zip ps)) (m:Paired (Bd H) (ps.drop n) ((gs.map Prod.snd).drop n)):GsAt H (xs.drop n) (gs.drop n):=by
 have h1:=Fa n h
 refine Ku (ps:=ps.drop n) ?_ ?_
 ·rw[List.map_drop]
  have e:((gs.map Prod.fst).zip ps).drop n=((gs.map Prod.fst).drop n).zip (ps.drop n):=List.drop_zipWith
  rw[←e]
  exact h1
 ·rw[List.map_drop]
  exact m
theorem Oq {l:List Addr} {a:Nat} {p:Addr} (h:l.Nodup) (hp:l[a]? = some p):p∉l.drop (a+1):=fun z=>by
 obtain⟨j,hj⟩:=List.getElem?_of_mem z
 rw[List.getElem?_drop] at hj
 have:=(List.getElem?_inj (List.getElem?_eq_some_iff.mp hj).1 h).mp (hj.trans hp.symm)
 omega
theorem MF {S:List (List Int)} {room:List Int} {es:List (Tr×Str)} {m:Nat}:∀g∈CY S room es m,g.2.length=m:=fun g hg=>by
 unfold CY fits at hg
 rcases List.mem_append.mp hg with h | h <;>
 ·obtain⟨ms,h1,rfl⟩:=List.mem_map.mp h
  exact Bu m ms (List.mem_filter.mp h1).1
theorem LY {S:List (List Int)} {room:List Int} {es:List (Tr×Str)} {m:Nat} (h:m≤5):(CY S room es m).length≤486:=by
 unfold CY
 rw[List.length_append]
 have h1:=Dj S room es "elder" (A3 m)
 have h2:=Dj S room es "newer" (A3 m)
 have h3:=Ci m h
 omega
theorem K5 (S:List (List Int)) (room:List Int) (es:List (Tr×Str)) (m:Nat):CY S room es m=(rules2.take 2).flatMap fun rule=>fits S room es rule (A3 m):=by
 show _=fits S room es "elder" (A3 m)++(fits S room es "newer" (A3 m)++[])
 rw[List.append_nil]
 rfl
theorem Oi {H:Hp} {xs:List V} {gs:List (Str×List (Option Bool))} {q p:Addr} {rule:Str} {ms:List (Option Bool)} (h:GsAt H xs gs) (hq:H q=some (.tup [.str rule,.ref p])) (hp:H p=some (.lst (ms.map Bn))):GsAt H (xs++[.ref q]) (gs++[(rule,ms)]):=Cn ⟨q,p,rfl,hq,hp⟩ h
theorem M8:∀m:Nat,m≤5→(A3 m).length=3^m:=by decide
theorem Gy {H:Hp}:∀{xs:List V} {ts:List Tr},Pile H xs ts→∀v∈xs,∃p,v=V.ref p
 | _,_,.nil,v,h=>by cases h
 | _,_,.cons (b:=t) r q,v,h=>by
  rcases List.mem_cons.mp h with rfl | h
  ·cases t with
   | lt _=>obtain⟨p,e,_⟩:=r;exact⟨p,e⟩
   | nt _=>obtain⟨p,_,e,_⟩:=r;exact⟨p,e⟩
   | bn _ _ _=>obtain⟨p,_,_,e,_⟩:=r;exact⟨p,e⟩
  ·exact Gy q v h
theorem QN {H:Hp} {a p:Addr} {xs:List V} {ms:List (Option Bool)} (ha:H a=some (.lst xs)) (hx:∀v∈xs,∃q,v=V.ref q) (hp:H p=some (.lst (ms.map Bn))) (hm:0<ms.length):a≠p:=fun e=>by
 rw[e,hp] at ha
 have e2:ms.map Bn=xs:=by injection ha with z;injection z
 match ms,hm,e2 with
 | m0::ms,_,e2=>
  obtain⟨q,hq⟩:=hx (Bn m0) (by rw[←e2];exact List.mem_cons_self)
  rcases m0 with _ | b<;>cases hq
theorem KI {H:Hp}:∀{xs:List V} {gs:List (Str×List (Option Bool))},GsAt H xs gs→∀v∈xs,∃q,v=V.ref q
 | _,_,.nil=>fun v hv=>nomatch hv
 | _,_,.cons ⟨q,_,e,_⟩ r=>fun v hv=>by
  rcases List.mem_cons.mp hv with rfl | hv
  ·exact⟨q,e⟩
  ·exact KI r v hv
theorem N7 {k:Nat} {A:Around} (r:Room k A):A.units+19<cLine:=by have:=r.un;omega
theorem QT:∀j,j<16→∃m,m<6∧1≤m∧([1,2,3,2,1,2,3,4,1,2,3,2,1,2,3,5]:List Nat)[j]? = some m:=by decide
theorem HC {l:List Nat} {j m:Nat} (h:l[j]? = some m) {ns:List Int} (e:ns=l.map Int.ofNat) {i:Int} (hi:i=(j:Int)):Fs (ns.map V.int) i=some (.int (m:Int)):=by
 rw[hi,e]
 refine Aq ?_
 rw[List.getElem?_map,List.getElem?_map,h]
 rfl
theorem Pt (n:Int) (h:0≤n):∃m:Nat,1≤m∧m≤5∧Fs (([1,2,3,2,1,2,3,4,1,2,3,2,1,2,3,5]:List Int).map V.int) (n%16)=some (.int (m:Int)):=by
 obtain⟨j,hj⟩:=Int.eq_ofNat_of_zero_le (Int.emod_nonneg n (show (16:Int)≠0 by decide))
 have hj16:j<16:=by
  have:=Int.emod_lt_of_pos n (show (0:Int)<16 by decide)
  omega
 obtain⟨m,h1,h2,h3⟩:=QT j hj16
 exact⟨m,h2,by omega,HC h3 rfl hj⟩
theorem Rk:∀m,m<6→1≤m→∃c,([40,20,6,3,1]:List Nat)[m-1]? = some c∧c≤40∧([3,9,27,81,243]:List Nat)[m-1]? = some (3^m):=by decide
theorem Iu {m:Nat} (h:1≤m):(m:Int)-1=((m-1:Nat):Int):=by omega
theorem OC {z:Str} {t:Tr} {row:List Int} (h:Fw z t row):BI z:=by
 rcases h with⟨rfl,_⟩|⟨rfl,_⟩|⟨rfl,_⟩
 ·exact .inl rfl
 ·exact .inr (.inl rfl)
 ·exact .inr (.inr rfl)
theorem Oy {n j:Nat} (h:j<n):MO n (j:Int)=some j:=by
 unfold MO
 rw[if_pos (by omega)]
 simp
 omega
theorem OE (n:Int) (h:0≤n):∃w1:Str,LC w1∧Fs [V.str "grant",.str "deny",.str "doubt"] (n%3)=some (.str w1):=by
 have e:n%3=0∨n%3=1∨n%3=2:=by omega
 rcases e with e | e | e<;>rw[e]
 ·exact⟨"grant",.inl rfl,rfl⟩
 ·exact⟨"deny",.inr (.inl rfl),rfl⟩
 ·exact⟨"doubt",.inr (.inr rfl),rfl⟩
theorem MI {i j:Nat} {n:Int} {σ:L2.St} {H:Hp} {N:L2.St→Hp→Prop} (e:n=(j:Int)) (h:Ck i (.int (j:Int)) σ H N):Ck i (.int n) σ H N:=by
 rw[e]
 exact h
abbrev HD:Stmt:=BD 68
def KW (K:PySem.W.Frag):Sp:=fun vs H Q _=>∃(a:Addr) (ns:List Int),vs=[.ref a]∧SqL K H a (ns.map V.int)∧ns.length≤63∧∀H',Q (.bl true) H'
section
theorem scLaw:Ap ["_law_script","_law_many","_law_room_here","_law_kind_here","_law_sentence_here","_law_sides_here","_law_base_here","_law_asks_here","_law_n","_law_known","_law_seen","_law_row","_law_at","_law_due_here","_law_rule_here","_law_marks","_law_one","_law_handed","_law_worlds_here","_law_found","_law_k","_law_again"] ["_law_script"] (Af HD):=BC
theorem Pq {fN fT fV fD fA fB fW fM fG fU fL:Addr} {dN dT dV dD dA dB dW dM dG dU dL:FuncData} (F:Fun K "law" "law" HD f fd) (B:Bl mg) (T:ID mg) (HMIN:mg "min"=none)
  (GN0:FnOk P w K mg bz AO 1 fN dN ["_law_script","_law_k"] (HV K)) (CN:AL K mg "_law_num" fN dN ["_law_script","_law_k"])
  (GT:FnOk P w K mg bz AO 26 fT dT ["_law_script","_law_many"] (KH K)) (CT:AL K mg "_law_start" fT dT ["_law_script","_law_many"])
  (GV:FnOk P w K mg bz AO 2 fV dV ["_law_script"] (KP K)) (CV:AL K mg "_law_rule" fV dV ["_law_script"])
  (GD:FnOk P w K mg bz AO 25 fD dD ["_law_room_here","_law_kind_here","_law_sentence_here"] (KJ K)) (CD:AL K mg "_law_sides" fD dD ["_law_room_here","_law_kind_here","_law_sentence_here"])
  (GA:FnOk P w K mg bz AO 3 fA dA ["_law_script","_law_start_here","_law_many","_law_first"] (Km K)) (CA:AL K mg "_law_asks" fA dA ["_law_script","_law_start_here","_law_many","_law_first"])
  (GB:FnOk P w K mg bz AO 1 fB dB ["_law_room_here","_law_sides_here"] (NH K)) (CB:AL K mg "_law_base" fB dB ["_law_room_here","_law_sides_here"])
  (GW:FnOk P w K mg bz AO 26 fW dW ["_law_asks_here","_law_sides_here","_law_held","_law_base_here","_law_rule_here","_law_seen"] (FG K)) (CW:AL K mg "_law_answers" fW dW ["_law_asks_here","_law_sides_here","_law_held","_law_base_here","_law_rule_here","_law_seen"])
  (GM:FnOk P w K mg bz AO 1 fM dM ["_law_many"] Ks) (CM:AL K mg "_law_all_marks" fM dM ["_law_many"])
  (GG:FnOk P w K mg bz AO 1 fG dG ["_law_room_here","_law_marks"] (Gi K)) (CG:AL K mg "_law_agreeing" fG dG ["_law_room_here","_law_marks"])
  (GU:FnOk P w K mg bz (Jl P w) 7 fU dU ["many","room","kind","sentence","row"] (He K)) (CU:AL K mg "guesses" fU dU ["many","room","kind","sentence","row"])
  (GL:FnOk P w K mg bz AO 2 fL dL ["_law_found","_law_due_here"] Jg) (CL:AL K mg "_law_lists_are" fL dL ["_law_found","_law_due_here"]):FnOk P w K mg bz AO 27 f fd ["_law_script"] (KW K):=by
 have GN:=Jt GN0
 refine F.ok scLaw (fun vs H Q E h=>?_) (fun cdv A outer s H vs Q E hr h=>?_)
 ·obtain⟨a,ns,rfl,_⟩:=h
  rfl
 obtain⟨a,ns,rfl,hS,h63,q⟩:=h
 have hr1:Room 1 _:=hr.mono (by decide)
 have hr2:Room 2 _:=hr.mono (by decide)
 have hr3:Room 3 _:=hr.mono (by decide)
 have hr7:Room 7 _:=hr.mono (by decide)
 have hr25:Room 25 _:=hr.mono (by decide)
 have hr26:Room 26 _:=hr.mono (by decide)
 refine QA ⟨_,N1 (i:=1) scLaw.nd rfl (Or.inl rfl) rfl (AC AZ (Ai GN hr1 (by rfl) CN.m CN.k CN.b .nil Au (Aa (pv 0) (Aa Ah Ab))) Ah) (fun _ _=>rfl) rfl (Or.inl rfl)
  (AY (MU (Ai GT hr26 (by rfl) CT.m CT.k CT.b .nil Au (Aa (pv 0) (Aa (pv 1) Ab))) (Er rfl (Bc (Ax (i:=2) scLaw.nd rfl (Or.inl rfl)) (Bc (Ax (i:=3) scLaw.nd rfl (Or.inl rfl)) (Bc (Ax (i:=4) scLaw.nd rfl (Or.inl rfl)) DH)))))
  (AY (Ak (i:=5) scLaw.nd rfl (Or.inl rfl) (Ai GD hr25 (by rfl) CD.m CD.k CD.b .nil Au (Aa (pv 2) (Aa (pv 3) (Aa (pv 4) Ab)))))
  (AY (Ak (i:=6) scLaw.nd rfl (Or.inl rfl) (Ai GB hr1 (by rfl) CB.m CB.k CB.b .nil Au (Aa (pv 2) (Aa (pv 5) Ab))))
  (AY (Ak (i:=7) scLaw.nd rfl (Or.inl rfl) (Ai GA hr3 (by rfl) CA.m CA.k CA.b .nil Au (Aa (pv 0) (Aa Ah (Aa (pv 1) (Aa (pv 4) Ab))))))
  (AY (Ak (i:=7) scLaw.nd rfl (Or.inl rfl) (D1 Hq (pv 7) Fj (Fc (AH AG (AF (E6 rfl)) (AC Fl (pv 1) Ah) (fun _ _=>rfl)))))
  (AY (Ak (i:=8) scLaw.nd rfl (Or.inl rfl) (Ai GN hr1 (by rfl) CN.m CN.k CN.b .nil Au (Aa (pv 0) (Aa Ah Ab))))
  (AY (Ak (i:=9) scLaw.nd rfl (Or.inl rfl) (AH AG (Ai GM hr1 (by rfl) CM.m CM.k CM.b .nil Au (Aa (pv 1) Ab)) (AC AZ (AC AZ (pv 8) Ah) (AH AG (AF (E6 rfl)) (AC Fl (pv 1) Ah) (fun _ _=>rfl))) (fun _ _=>rfl)))
  (AY (Ak (i:=10) scLaw.nd rfl (Or.inl rfl) (Ai GG hr1 (by rfl) CG.m CG.k CG.b .nil Au (Aa (pv 2) (Aa (pv 9) Ab))))
  (AY (AE (Am (ER hr.units0) (pv 10) (AF Ab) (As _))
   (Ae (Ak (i:=10) scLaw.nd rfl (Or.inl rfl) (pv 2)))
   An)
  (AY (Ak (i:=11) scLaw.nd rfl (Or.inl rfl) (Ai GW hr26 (by rfl) CW.m CW.k CW.b .nil Au (Aa (pv 7) (Aa (pv 5) (Aa (pv 6) (Aa (pv 6) (Aa (Ai GV hr2 (by rfl) CV.m CV.k CV.b .nil Au (Aa (pv 0) Ab)) (Aa (pv 10) Ab))))))))
  (AY (AE (Cz (Am AS (AC AZ (AC Bb (pv 8) Ah) Ah) Ah (As _)) (BN (Am (J6 hr.units0) (pv 11) (AF Ab) (As _)))).pt
   (Ad (Ak (i:=12) scLaw.nd rfl (Or.inl rfl) (AC AZ (AC Bb (pv 8) Ah) (Av Aw (by rfl) B.len PySem.boot_len (Aa (pv 11) Ab))))
   (Ae (MU (Bs (Aa (AH A4 (AH AG (pv 11) (pv 12) (fun _ _=>rfl)) Ah (fun _ _=>rfl)) (Aa (AH AG (AF (Aa Ar (Aa Ar (Aa Ar Ab)))) (AC AZ (AC Bb (pv 8) Ah) Ah) (fun _ _=>rfl)) Ab))) (PJ (pv 11) (pv 12) Ma))))
   An)
  (AY (Ak (i:=13) scLaw.nd rfl (Or.inl rfl) (AF Ab))
  (AY (Ba PassesOwn.never rfl (AK (AF (Aa Ar (Aa Ar Ab)))) (Ax (i:=14) scLaw.nd rfl (Or.inl rfl))
   (Ae (Ba PassesOwn.never rfl (AK (Ai GM hr1 (by rfl) CM.m CM.k CM.b .nil Au (Aa (pv 1) Ab))) (Ax (i:=15) scLaw.nd rfl (Or.inl rfl))
    (Ad (Ak (i:=16) scLaw.nd rfl (Or.inl rfl) (Ai GG hr1 (by rfl) CG.m CG.k CG.b .nil Au (Aa (pv 2) (Aa (pv 15) Ab))))
    (Ad (AE (Am (ER hr.units0) (pv 16) (AF Ab) (As _))
     (Ae Ja)
     An)
    (Ae (AE (Am (Pm (N7 hr)) (Ai GW hr26 (by rfl) CW.m CW.k CW.b .nil Au (Aa (pv 7) (Aa (pv 5) (Aa (pv 6) (Aa (pv 6) (Aa (pv 14) (Aa (pv 16) Ab))))))) (pv 11) (As _))
     (Ae (AU (Bz PySem.F.plainAttrs_list PySem.F.slot_list_append PySem.F.type_list_append AN (pv 13) (Aa (Bs (Aa (pv 14) (Aa (pv 15) Ab))) Ab))))
     An)))))))
  (AY (Ak (i:=17) scLaw.nd rfl (Or.inl rfl) (Bi BL (by rfl) T.lst BT (Aa (pv 11) Ab)))
  (AY (Ak (i:=18) scLaw.nd rfl (Or.inl rfl) (Bi BL (by rfl) T.lst BT (Aa (pv 2) Ab)))
  (AY (Ak (i:=19) scLaw.nd rfl (Or.inl rfl) (Ai GU hr7 (by rfl) CU.m CU.k CU.b .nil No (Aa (pv 1) (Aa (pv 18) (Aa (pv 3) (Aa (pv 4) (Aa (pv 17) Ab)))))))
  (AY (AE (GX (Am (PQ hr.units9) (pv 17) (pv 11) (As _)) (GX (Am (Pl hr.units9) (pv 18) (pv 2) (As _)) (FD (BJ (A1 (Ai GL hr2 (by rfl) CL.m CL.k CL.b .nil Au (Aa (pv 19) (Aa (pv 13) Ab)))))))).pt
   (Ae (Aj Bq))
   An)
  (AY (Ba PassesOwn.never rfl (Bt (by rfl) B.range (Aa (Av (GY rfl) (by rfl) HMIN Ix (Aa Ah (Aa (Av Aw (by rfl) B.len PySem.boot_len (Aa (pv 13) Ab)) Ab))) Ab)) (Ax (i:=20) scLaw.nd rfl (Or.inl rfl))
   (Ad (AU (Bz PySem.F.plainAttrs_list PySem.F.slot_list_append PySem.F.type_list_append AN (AH A4 (AH AG (pv 19) (pv 20) (fun _ _=>rfl)) Ah (fun _ _=>rfl)) (Aa Bq Ab)))
   (Ae (AE (BJ (A1 (Ai GL hr2 (by rfl) CL.m CL.k CL.b .nil Au (Aa (D1 Hq (pv 19) (Fc (AC B1 (pv 20) Ah)) Fj) (Aa (D1 Hq (pv 13) (Fc (AC B1 (pv 20) Ah)) Fj) Ab)))))
    (Ae (Aj Bq))
    An))))
  (AY (AU (Bz PySem.F.plainAttrs_list PySem.F.slot_list_append PySem.F.type_list_append AN (pv 19) (Aa Ah Ab)))
  (AY (AE (Am EW (pv 1) Ah (As _))
   (Ae (Aj Bq))
   An)
  (AY (Ak (i:=21) scLaw.nd rfl (Or.inl rfl) (Ai GU hr7 (by rfl) CU.m CU.k CU.b .nil No (Aa (pv 1) (Aa (pv 2) (Aa (pv 3) (Aa (pv 4) (Aa (pv 17) Ab)))))))
  (P0 (Aj (Ai GL hr2 (by rfl) CL.m CL.k CL.b .nil Au (Aa (pv 21) (Aa (pv 13) Ab)))))))))))))))))))))))))),?_⟩
 refine⟨(by show 16≤sizeLine;decide),fun la hla=>?_⟩
 have s1:=Ag hla (.lst (([1,2,3,2,1,2,3,4,1,2,3,2,1,2,3,5]:List Int).map V.int))
 have la1:AA H la (.lst (([1,2,3,2,1,2,3,4,1,2,3,2,1,2,3,5]:List Int).map V.int)) la=some (.lst (([1,2,3,2,1,2,3,4,1,2,3,2,1,2,3,5]:List Int).map V.int)):=Ac
 generalize AA H la _=H1 at *
 refine⟨_,rfl,a,ns,0,rfl,s1.seq hS,h63,by decide,by decide,fun n0 H2 hn0 s2=>?_⟩
 obtain⟨many,hm1,hm5,hpk⟩:=Pt n0 hn0
 refine⟨_,_,rfl,rfl,(by show (0:Int)<16;decide),la,_,_,_,rfl,rfl,SqL.of (s2 _ _ la1),hpk,?_⟩
 have t2:=s1.trans s2
 refine⟨_,rfl,_,rfl,a,ns,many,rfl,t2.seq hS,h63,hm1,hm5,fun tp rm room z v t H3 s3 htp hrm0 hrm hsub hne ha hok hsz' hz=>⟨tp,_,rfl,SqT.of htp,rfl,_,_,rfl,_,_,rfl,_,_,rfl,rfl,?_⟩⟩
 have t3:=t2.trans s3
 have ok5:t.ok 5:=Tr.ok.mono hm5 hok
 have wroom:Wr room:=(Kq hm5).sub hsub
 have lroom:=wroom.len
 have lS:∀s∈AI z t room,s.length≤900:=fun s hs=>by have:=(Gm hs).length_le;omega
 have nS:[]∉AI z t room:=fun hs=>Na hz hs rfl
 have kz:BI z:=OC hz
 have sl2:(AI z t room).length≤900:=by
  rcases F0 (z:=z) (t:=t) (row:=room) with⟨_,e⟩|⟨_,_,e⟩<;>rw[e]<;>simp
 refine⟨_,rfl,_,rfl,_,rfl,rm,room,z,v,t,rfl,ha,ok5,by omega,SqL.of hrm,by omega,fun sd xs H4 s4 sd0 hsd hX=>?_⟩
 refine⟨_,rfl,_,rfl,rm,sd,room,xs,AI z t room,rfl,SqL.of (s4 _ _ hrm),by omega,SqL.of hsd,hX,sl2,fun bs H5 s5 bs0 hbs=>?_⟩
 have w5:=s4.trans s5
 have bsub:(Bg room (AI z t room)).Sublist room:=IS
 have lbas:=bsub.length_le
 refine⟨_,rfl,_,rfl,_,rfl,a,ns,8,many,v,t,rfl,(t3.trans w5).seq hS,h63,by decide,by decide,hm1,hm5,ha.keep (TS.same w5),hok,hsz',fun al axs0 ats0 H6 s6 hal0 hal hA0 hlen=>?_⟩
 have w6:=w5.trans s6
 obtain⟨c,hc1,hc40,hc3⟩:=Rk many (by omega) hm1
 refine⟨_,rfl,(by show 5≤sizeLine;decide),fun lb hlb=>?_⟩
 have s7:=Ag hlb (.lst (([40,20,6,3,1]:List Int).map V.int))
 have lb7:AA H6 lb (.lst (([40,20,6,3,1]:List Int).map V.int)) lb=some (.lst (([40,20,6,3,1]:List Int).map V.int)):=Ac
 generalize AA H6 lb _=H7 at *
 refine⟨_,rfl,_,_,rfl,rfl,lb,_,_,_,rfl,rfl,SqL.of lb7,HC hc1 rfl (Iu hm1),(c:Int),rfl,al,axs0,rfl,SqL.of (s7 _ _ hal),fun sl hsl=>?_⟩
 rw[Ld axs0 c]
 have s8:=Ag hsl (.lst (axs0.take c))
 have sl8:AA H7 sl (.lst (axs0.take c)) sl=some (.lst (axs0.take c)):=Ac
 generalize AA H7 sl _=H8 at *
 obtain⟨hP0,hus0⟩:=Fu hA0
 have hP8:Pile H8 (axs0.take c) (ats0.take c):=Gd c (hP0.keep (TS.same (s7.trans s8)))
 have hus:∀u∈ats0.take c,u.ok many∧u.size≤21:=fun u hu=>hus0 u (List.mem_of_mem_take hu)
 have hln:(axs0.take c).length≤200:=by rw[List.length_take];omega
 generalize axs0.take c=axs at *
 generalize ats0.take c=us at *
 have w8:=w6.trans (s7.trans s8)
 have hpl:=hP8.len
 refine⟨_,rfl,a,ns,4,rfl,(t3.trans w8).seq hS,h63,by decide,by decide,fun n H9 hn s9=>?_⟩
 have w9:=w8.trans s9
 refine⟨_,rfl,many,rfl,hm5,fun ml mps H10 s10 ml0 hml hM=>?_⟩
 have w10:=w9.trans s10
 refine⟨_,rfl,_,_,rfl,rfl,(by show (0:Int)<243;decide),(by show 5≤sizeLine;decide),fun lc hlc=>?_⟩
 have s11:=Ag hlc (.lst (([3,9,27,81,243]:List Int).map V.int))
 have lc11:AA H10 lc (.lst (([3,9,27,81,243]:List Int).map V.int)) lc=some (.lst (([3,9,27,81,243]:List Int).map V.int)):=Ac
 generalize AA H10 lc _=H11 at *
 have w11:=w10.trans s11
 have p3:0<3^many:=Nat.pow_pos (by decide)
 obtain⟨j,hj⟩:=Int.eq_ofNat_of_zero_le (Int.emod_nonneg (n%243) (show ((3^many:Nat):Int)≠0 by omega))
 have hj3:j<3^many:=by
  have:=Int.emod_lt_of_pos (n%243) (show (0:Int)<((3^many:Nat):Int) by omega)
  omega
 have lmp:mps.length=3^many:=by rw[Paired.length hM,M8 many hm5]
 have hpj:(mps.map V.ref)[j]? = some (.ref (mps[j]'(by omega))):=by rw[List.getElem?_map,List.getElem?_eq_getElem (by omega)];rfl
 obtain⟨kp,ms,ekp,_,_,hms,hkp⟩:=E9 hM hpj
 rw[ekp] at hpj
 have hm5':=Bu many ms (List.mem_of_getElem? hms)
 refine⟨_,rfl,_,_,rfl,rfl,lc,_,_,_,rfl,rfl,SqL.of lc11,HC hc3 rfl (Iu hm1),_,_,rfl,rfl,(by omega),ml,_,_,_,rfl,rfl,SqL.of (s11 _ _ hml),(by rw[hj];exact Aq hpj),?_⟩
 refine⟨_,rfl,_,rfl,rm,kp,room,ms,rfl,SqL.of (w11 _ _ hrm),by omega,s11 _ _ hkp,by omega,fun sn0 H12 s12 sn00 hsn0=>?_⟩
 have w12:=w11.trans s12
 refine HL (fun σ H'=>∃(sn:Addr) (seen:List Int),σ=[some (.ref a),some (.int (many:Int)),some (.ref rm),some (.str z),some v,some (.ref sd),some (.ref bs),some (.ref sl),some (.int n),some (.ref kp),some (.ref sn),none,none,none,none,none,none,none,none,none,none,none]∧Same H12 H'∧AW H' sn seen∧seen.Sublist room∧seen≠[]) ?_ (fun next=>?_)
 ·rintro σ H13 ⟨sn,seen,rfl,s13,hsn,nsub,nne⟩
  have w13:=w12.trans s13
  have lseen:=nsub.length_le
  refine⟨_,rfl,_,rfl,_,rfl,_,rfl,_,rfl,a,ns,rfl,(t3.trans w13).seq hS,h63,fun rule H14 s14 hrule=>?_⟩
  have w14:=w13.trans s14
  have hP14:Pile H14 axs us:=hP8.keep (TS.same (s9.trans (s10.trans (s11.trans (s12.trans (s13.trans s14))))))
  have sl14:=(s9.trans (s10.trans (s11.trans (s12.trans (s13.trans s14))))) _ _ sl8
  have hus23:∀u∈us,u.ok 5∧u.size≤23:=fun u hu=>⟨Tr.ok.mono hm5 (hus u hu).1,by have:=(hus u hu).2;omega⟩
  have v5:=s6.trans (s7.trans (s8.trans (s9.trans (s10.trans (s11.trans (s12.trans (s13.trans s14)))))))
  have hsd14:=(s5.trans v5) _ _ hsd
  have hX14:=hX.keep (s5.trans v5)
  have hbs14:AW H14 bs (Bg room (AI z t room)):=v5 _ _ hbs
  have hrm14:=w14 _ _ hrm
  generalize hSS:AI z t room=S at *
  refine⟨_,rfl,sl,sd,bs,bs,sn,rule,axs,xs,us,S,Bg room S,Bg room S,seen,rfl,SqL.of sl14,hP14,hus23,(by omega),SqL.of hsd14,hX14,lS,hbs14,by omega,hbs14,by omega,s14 _ _ hsn,by omega,fun ro ps0 H15 s15 ro0 hro0 hps0=>?_⟩
  refine HL (fun σ H'=>∃(v12:Option V) (ps:List V) (ws:List Str),σ=[some (.ref a),some (.int (many:Int)),some (.ref rm),some (.str z),some v,some (.ref sd),some (.ref bs),some (.ref sl),some (.int n),some (.ref kp),some (.ref sn),some (.ref ro),v12,none,none,none,none,none,none,none,none,none]∧Same H14 H'∧H' ro=some (.lst ps)∧Paired (FT H') ps (axs.zip ws)∧ws.length=us.length∧∀w1∈ws,LC w1) ?_ (fun next2=>?_)
  ·rintro σ H16 ⟨v12,ps,ws,rfl,s16,hro,hps,lws,hws⟩
   have w16:=w14.trans s16
   have lps:ps.length=us.length:=by
    have:=Paired.length hps
    rw[List.length_zip] at this
    omega
   have hP16:=hP14.keep (TS.same s16)
   have hE16:PairsAt H16 ps (us.zip ws):=IH hP16 hps (by omega)
   have lz:(us.zip ws).length=us.length:=by rw[List.length_zip];omega
   have hfit:∀(ru:Str) (mr:List (Option Bool)),DX S room (us.zip ws) ru mr=(!(room.filter (Db mr)).isEmpty && decide ((Jp.ans ⟨S,ru,Bg room S,room.filter (Db mr)⟩ (Bg room S) us).map Prod.snd=ws)):=fun ru mr=>by
    unfold DX
    rw[OZ lws]
   have hrok:KU many (us.zip ws):=fun e he=>by
    obtain⟨h1,h2⟩:=List.of_mem_zip (a:=e.1) (b:=e.2) he
    exact⟨(hus _ h1).1,(hus23 _ h1).1,by have:=(hus _ h1).2;omega,hws _ h2⟩
   generalize hes:us.zip ws=es at *
   have refA:=Gy hP16
   have refP:∀v0∈ps,∃p,v0=V.ref p:=Fk hE16
   refine⟨Fi,fun dl hdl=>?_⟩
   have s17:=Ag hdl (.lst [])
   have dl17:AA H16 dl (.lst []) dl=some (.lst []):=Ac
   generalize AA H16 dl _=H17 at *
   refine⟨Jd,fun rl hrl=>⟨rl,rfl,⟨_,SqL.of Ac⟩,AQ (K:=K) (a:=rl) (xs:=[.str "elder",.str "newer"]) (fun r σ H4=>∃(v14 v15 v16:Option V) (ys:List V),σ=[some (.ref a),some (.int (many:Int)),some (.ref rm),some (.str z),some v,some (.ref sd),some (.ref bs),some (.ref sl),some (.int n),some (.ref kp),some (.ref sn),some (.ref ro),v12,some (.ref dl),v14,v15,v16,none,none,none,none,none]∧Same H16 H4∧H4 rl=some (.lst [.str "elder",.str "newer"])∧H4 dl=some (.lst ys)∧GsAt (HI [dl] H4) ys ((rules2.take r).flatMap fun ru=>fits S room es ru (A3 many))) ?_ ?_ ?_ ?_⟩⟩
   ·exact⟨_,_,_,[],rfl,s17.trans (Ag hrl _),Ac,(Ag hrl _) _ _ dl17,.nil⟩
   ·rintro r σ H4 _ ⟨v14,v15,v16,ys,rfl,s4',hr4,_⟩
    exact SqL.of hr4
   ·rintro r x σ H20 hx ⟨v14,v15,v16,ys,rfl,s20,hr20,hd20,hG20⟩
    have hx2:=hx
    obtain⟨ru,rfl,hru⟩:∃ru:Str,x= .str ru∧rules2[r]? = some ru:=by
     have hr2:r<2:=(List.getElem?_eq_some_iff.mp hx).1
     rcases (show r=0∨r=1 by omega) with rfl | rfl
     ·exact⟨"elder",(Option.some.inj hx).symm,rfl⟩
     ·exact⟨"newer",(Option.some.inj hx).symm,rfl⟩
    refine⟨_,rfl,many,rfl,hm5,fun mm mps2 H21 s21 mm0 hmm hM2=>⟨mm,rfl,⟨_,SqL.of hmm⟩,AQ (K:=K) (a:=mm) (xs:=mps2.map V.ref) (fun b σ H6=>∃(v15 v16:Option V) (ys:List V),σ=[some (.ref a),some (.int (many:Int)),some (.ref rm),some (.str z),some v,some (.ref sd),some (.ref bs),some (.ref sl),some (.int n),some (.ref kp),some (.ref sn),some (.ref ro),v12,some (.ref dl),some (.str ru),v15,v16,none,none,none,none,none]∧Same H16 H6∧H6 rl=some (.lst [.str "elder",.str "newer"])∧H6 mm=some (.lst (mps2.map V.ref))∧Paired (Bd H6) mps2 (A3 many)∧H6 dl=some (.lst ys)∧GsAt (HI [dl] H6) ys (((rules2.take r).flatMap fun ru=>fits S room es ru (A3 many))++fits S room es ru ((A3 many).take b))) ?_ ?_ ?_ ?_⟩⟩
    ·refine⟨_,_,ys,rfl,s20.trans s21,s21 _ _ hr20,hmm,hM2,s21 _ _ hd20,?_⟩
     rw[List.take_zero]
     show GsAt (HI [dl] H21) ys (_++[])
     rw[List.append_nil]
     exact GsAt.keep (Dn s21) hG20
    ·rintro b σ H6 _ ⟨v15,v16,ys,rfl,_,_,hm6,_⟩
     exact SqL.of hm6
    ·rintro b x σ H22 hx ⟨v15,v16,ys,rfl,s22,hr22,hm22,hM22,hd22,hG22⟩
     obtain⟨p,mr,rfl,hp,hpi,hmr,hpe⟩:=E9 hM22 hx
     have hmr5:=Bu many mr (List.mem_of_getElem? hmr)
     have u22:=w16.trans s22
     refine⟨_,rfl,_,rfl,rm,p,room,mr,rfl,SqL.of (u22 _ _ hrm),by omega,hpe,by omega,fun ol H23 s23 ol0 hol=>?_⟩
     have skip:DX S room es ru mr=false→∀H8,Same H22 H8→∃(v15 v16:Option V) (ys:List V),[some (V.ref a),some (.int (many:Int)),some (.ref rm),some (.str z),some v,some (.ref sd),some (.ref bs),some (.ref sl),some (.int n),some (.ref kp),some (.ref sn),some (.ref ro),v12,some (.ref dl),some (.str ru),some (.ref p),some (.ref ol),none,none,none,none,none]=[some (.ref a),some (.int (many:Int)),some (.ref rm),some (.str z),some v,some (.ref sd),some (.ref bs),some (.ref sl),some (.int n),some (.ref kp),some (.ref sn),some (.ref ro),v12,some (.ref dl),some (.str ru),v15,v16,none,none,none,none,none]∧Same H16 H8∧H8 rl=some (.lst [.str "elder",.str "newer"])∧H8 mm=some (.lst (mps2.map V.ref))∧Paired (Bd H8) mps2 (A3 many)∧H8 dl=some (.lst ys)∧GsAt (HI [dl] H8) ys (((rules2.take r).flatMap fun ru=>fits S room es ru (A3 many))++fits S room es ru ((A3 many).take (b+1))):=fun hf H8 s8'=>by
      refine⟨_,_,ys,rfl,s22.trans s8',s8' _ _ hr22,s8' _ _ hm22,Bh s8' hM22,s8' _ _ hd22,?_⟩
      rw[DE hmr,hf]
      show GsAt (HI [dl] H8) ys (_++(_++[]))
      rw[List.append_nil]
      exact GsAt.keep (Dn s8') hG22
     refine⟨_,rfl,Fi,fun e2 he2=>?_⟩
     have s24:=Ag he2 (.lst [])
     have e224:AA H23 e2 (.lst []) e2=some (.lst []):=Ac
     generalize AA H23 e2 _=H24 at *
     refine⟨ol,e2,_,rfl,rfl,SqL.of (s24 _ _ hol),SqL.of e224,_,rfl,?_⟩
     have v24:=s23.trans s24
     have hfit':=hfit ru mr
     have lone:(room.filter (Db mr)).length≤900:=by
      have:=(List.filter_sublist (p:=Db mr) (l:=room)).length_le
      omega
     by_cases cE:room.filter (Db mr)=[]
     ·have hf:DX S room es ru mr=false:=by rw[hfit',cE];rfl
      rw[cE]
      exact Bx (skip hf _ v24)
     ·have hE:((room.filter (Db mr)).map V.int).isEmpty=false:=by
       cases h:room.filter (Db mr) with
       | nil=>exact absurd h cE
       | cons _ _=>rfl
      have hE2:(room.filter (Db mr)).isEmpty=false:=by
       cases h:room.filter (Db mr) with
       | nil=>exact absurd h cE
       | cons _ _=>rfl
      rw[hE]
      refine A0 ?_
      have u24:=s22.trans v24
      have x24:=s16.trans u24
      refine⟨_,rfl,_,rfl,_,rfl,_,rfl,_,rfl,_,rfl,sl,sd,bs,bs,ol,ru,axs,xs,us,S,Bg room S,Bg room S,room.filter (Db mr),rfl,SqL.of (x24 _ _ sl14),hP14.keep (TS.same x24),hus23,(by omega),SqL.of (x24 _ _ hsd14),hX14.keep x24,lS,x24 _ _ hbs14,by omega,x24 _ _ hbs14,by omega,s24 _ _ hol,lone,fun al2 ps2 H25 s25 al20 hal2 hps2=>?_⟩
      have v25:=v24.trans s25
      have u25:=s22.trans v25
      refine⟨_,rfl,al2,ro,ps2,ps,axs,_,ws,rfl,rfl,SqL.of hal2,SqL.of (u25 _ _ hro),refA,hps2,BB (TS.same u25) hps,(by rw[List.length_map,Jp.ans_len];omega),(by omega),_,rfl,?_⟩
      by_cases cw:(Jp.ans ⟨S,ru,Bg room S,room.filter (Db mr)⟩ (Bg room S) us).map Prod.snd=ws
      ·have hf:DX S room es ru mr=true:=by rw[hfit',hE2,decide_eq_true cw];rfl
       refine Bp cw ?_
       have hd25:=v25 _ _ hd22
       refine⟨_,rfl,.inl ⟨rfl,_,SqL.of hd25⟩,_,rfl,_,rfl,Jd,fun tq htq=>?_⟩
       have s26:=Ag htq (.tup [.str ru,.ref p])
       have g26:AA H25 tq (.tup [.str ru,.ref p]) tq=some (.tup [.str ru,.ref p]):=Ac
       generalize AA H25 tq _=H26 at *
       have v26:=v25.trans s26
       have hd26:=s26 _ _ hd25
       have rys:=KI hG22
       have npd:∀p2∈mps2,dl≠p2:=fun p2 h2=>by
        obtain⟨i2,hi2⟩:=List.getElem?_of_mem h2
        obtain⟨p3,m3,e3,_,_,h4,h5⟩:=E9 hM22 (i:=i2) (v:=.ref p2) (by rw[List.getElem?_map,hi2];rfl)
        cases e3
        exact QN hd22 rys h5 (by rw[Bu many m3 (List.mem_of_getElem? h4)];omega)
       have ntq:tq≠dl:=(DT hd26 g26 (by intro z;cases z)).symm
       refine⟨dl,ys,_,rfl,rfl,hd26,?_,_,_,ys++[.ref tq],rfl,AD (s22.trans v26) hdl _,?_,?_,Ei (fun h=>npd dl h rfl) (Bh v26 hM22),Ac,?_⟩
       ·have h1:=Paired.length hG22
        have hr2:r<2:=(List.getElem?_eq_some_iff.mp hx2).1
        have h2:=Gq (S:=S) (room:=room) (es:=es) hm5 hr2
        have h3:=Dj S room es ru ((A3 many).take b)
        have h4:=Ci many hm5
        rw[List.length_append] at h1
        rw[List.length_take] at h3
        exact Nat.lt_of_le_of_lt (show ys.length≤486 by omega) (by decide)
       ·rw[Az ?_]
        ·exact v26 _ _ hr22
        ·intro e
         have h9:=v26 _ _ hr22
         rw[e,hd26] at h9
         have h8:ys=[.str "elder",.str "newer"]:=by injection h9 with z;injection z
         obtain⟨q0,hq0⟩:=rys (.str "elder") (by rw[h8];exact List.mem_cons_self)
         cases hq0
       ·rw[Az ?_]
        ·exact v26 _ _ hm22
        ·intro e
         rw[e,hd20] at mm0
         cases mm0
       ·rw[Hz (List.mem_singleton.mpr rfl),DE hmr,hf,←List.append_assoc]
        exact Oi (GsAt.keep (Dn v26) hG22) (Eu g26 fun z=>ntq (List.mem_singleton.mp z)) (Eu (v26 _ _ hpe) fun z=>npd p hp (List.mem_singleton.mp z).symm)
      ·have hf:DX S room es ru mr=false:=by rw[hfit',decide_eq_false cw,Bool.and_false]
       refine Bk cw ?_
       exact skip hf _ v25
    ·rintro σ H22 ⟨v15,v16,ys,rfl,s22,hr22,hm22,hM22,hd22,hG22⟩
     refine⟨_,_,_,ys,rfl,s22,hr22,hd22,?_⟩
     rw[List.take_add_one,hru,List.flatMap_append]
     have e:(A3 many).take (mps2.map V.ref).length=A3 many:=by
      rw[List.length_map,Paired.length hM2,List.take_length]
     rw[e] at hG22
     show GsAt (HI [dl] H22) ys (_++(fits S room es ru (A3 many)++[]))
     rw[List.append_nil]
     exact hG22
   ·rintro σ H20 ⟨v14,v15,v16,ys,rfl,s20,_,hd20,hG20⟩
    have hG20:=GsAt.keep FL hG20
    rw[show ([V.str "elder",V.str "newer"]:List V).length=2 from rfl,←K5] at hG20
    have hg5:∀g∈CY S room es many,g.2.length≤5:=fun g hg=>by rw[MF g hg];exact hm5
    have hg9:=LY (S:=S) (room:=room) (es:=es) hm5
    have w20:=w16.trans s20
    have hro20:=s20 _ _ hro
    refine⟨_,rfl,ro,ps,rfl,.inl (SqL.of hro20),fun hd hhd=>?_⟩
    have s21:=Ag hhd (.lst ps)
    have hd21:AA H20 hd (.lst ps) hd=some (.lst ps):=Ac
    generalize AA H20 hd _=H21 at *
    refine⟨_,rfl,rm,_,rfl,.inl (SqL.of ((w20.trans s21) _ _ hrm)),fun wl hwl=>?_⟩
    have s22:=Ag hwl (.lst (room.map V.int))
    have wl22:AA H21 wl (.lst (room.map V.int)) wl=some (.lst (room.map V.int)):=Ac
    generalize AA H21 wl _=H22 at *
    have v22:=s21.trans s22
    have u22:=s20.trans v22
    have w22:=w16.trans u22
    have nS':[]∉AI z t room:=by rw[hSS];exact nS
    refine⟨_,rfl,_,rfl,_,rfl,_,rfl,_,rfl,wl,hd,room,ps,es,many,z,v,t,rfl,wl22,wroom,ha.keep (TS.same w22),hok,ok5,by omega,kz,nS',s22 _ _ hd21,PairsAt.keep u22 hE16,hrok,by omega,hm5,fun fl fxs pts H23 s23 fl0 hfl hTo hnf=>?_⟩
    rw[hSS] at hTo
    generalize hgs:CY S room es many=gs at *
    have gsF:=Ku hTo.at_ hTo.mks.at_
    have v23:=v22.trans s23
    have d23:=v23 _ _ hd20
    have g22:=GsAt.keep v22 hG20
    have lx:=hTo.len.1
    have lp:=hTo.len.2
    have ly:=Paired.length hG20
    refine⟨_,rfl,_,rfl,hd,ro,ps,rfl,rfl,SqL.of ((s22.trans s23) _ _ hd21),SqL.of (v23 _ _ hro20),refP,_,rfl,A0 ?_⟩
    refine⟨_,rfl,_,rfl,wl,rm,_,_,rfl,rfl,rfl,Ou,.inl ⟨SqL.of (s23 _ _ wl22),SqL.of ((w22.trans s23) _ _ hrm)⟩,_,rfl,A0 ?_⟩
    refine⟨_,rfl,_,rfl,fl,dl,fxs,ys,gs,rfl,hfl,d23,gsF,GsAt.keep s23 g22,by omega,hg5,_,rfl,A0 ?_⟩
    refine⟨_,rfl,dl,_,rfl,.inl (SqL.of d23),_,_,rfl,_,rfl,(by show -(2^62)≤(if ((ys.length:Nat):Int)<3 then ((ys.length:Nat):Int) else 3);split<;>omega),(by show (if ((ys.length:Nat):Int)<3 then ((ys.length:Nat):Int) else 3)<2^62;split<;>omega),Bo (fun k σ H6=>∃(v20:Option V),σ=[some (.ref a),some (.int (many:Int)),some (.ref rm),some (.str z),some v,some (.ref sd),some (.ref bs),some (.ref sl),some (.int n),some (.ref kp),some (.ref sn),some (.ref ro),v12,some (.ref dl),v14,v15,v16,some (.ref hd),some (.ref wl),some (.ref fl),v20,none]∧Same H22 H6∧H6 fl=some (.lst fxs)∧Paired (fun (v:V) (g:Str×Addr)=>∃q,v= .ref q∧H6 q=some (.tup [.str g.1,.ref g.2])) fxs ((gs.map Prod.fst).zip pts)∧Paired (Bd H6) (pts.drop k) ((gs.map Prod.snd).drop k)) ⟨_,rfl,s23,hfl,hTo.at_,hTo.mks.at_⟩ ?_ ?_⟩
    ·rintro k σ H6 hk ⟨v20,rfl,s6',hfl6,hA6,hM6⟩
     have hk':k<gs.length:=by
      have h0:k<(if ((ys.length:Nat):Int)<3 then ((ys.length:Nat):Int) else 3).toNat:=hk
      split at h0<;>omega
     rw[Int.zero_add]
     have hx:fxs[k]? = some fxs[k]:=List.getElem?_eq_getElem (by omega)
     have hpk':pts[k]? = some (pts[k]'(by omega)):=List.getElem?_eq_getElem (by omega)
     have hgk:(gs.map Prod.fst)[k]? = some ((gs.map Prod.fst)[k]'(by rw[List.length_map];exact hk')):=List.getElem?_eq_getElem _
     generalize pts[k]'(by omega)=p at *
     generalize (gs.map Prod.fst)[k]'(by rw[List.length_map];exact hk')=g1 at *
     obtain⟨q1,e1,hq1⟩:=Dm (y:=(g1,p)) hA6 hx (List.getElem?_zip_eq_some.mpr ⟨hgk,hpk'⟩)
     rw[e1] at hx
     have hpm:p∈pts:=List.mem_of_getElem? hpk'
     obtain⟨mr,hmr⟩:=Em hM6 p (by
      refine List.mem_of_getElem? (i:=0) ?_
      rw[List.getElem?_drop]
      exact hpk')
     have lmr:(mr.map Bn).length<sizeLine:=by
      obtain⟨i0,hi0⟩:=List.getElem?_of_mem hpm
      have h0:(pts.drop k)[0]? = some p:=by rw[List.getElem?_drop];exact hpk'
      have h1:0<((gs.map Prod.snd).drop k).length:=by rw[List.length_drop,List.length_map];omega
      have h2:Bd H6 p _:=Dm hM6 h0 (List.getElem?_eq_getElem h1)
      have h3:=hg5
      have h4:((gs.map Prod.snd).drop k)[0]∈gs.map Prod.snd:=List.mem_of_mem_drop (List.getElem_mem h1)
      obtain⟨g,hg,eg⟩:=List.mem_map.mp h4
      have h5:=hg5 g hg
      rw[eg] at h5
      have h6:(mr.map Bn).length=(((gs.map Prod.snd).drop k)[0].map Bn).length:=by
       have h7:H6 p=_:=h2
       rw[hmr] at h7
       injection h7 with h7
       injection h7 with h7
       rw[h7]
      rw[h6,List.length_map]
      exact Nat.lt_of_le_of_lt h5 (by decide)
     refine⟨_,rfl,_,rfl,fl,_,_,_,rfl,rfl,SqL.of hfl6,Aq hx,q1,_,_,_,rfl,rfl,SqT.of hq1,Aq (j:=1) rfl,.inl ⟨rfl,_,SqL.of hmr⟩,p,_,_,rfl,rfl,hmr,lmr,?_⟩
     have nfp:fl≠p:=fun e=>hnf (by rw[e];exact hpm)
     have s7':Same H22 (AA H6 p (.lst (mr.map Bn++[.bl true]))):=AD s6' (hTo.mks.fr p hpm) _
     have hfl7:AA H6 p (.lst (mr.map Bn++[.bl true])) fl=some (.lst fxs):=by rw[Az nfp];exact hfl6
     have hA7:=BU (TS.lst (o:=.lst (mr.map Bn++[.bl true])) hmr) hA6
     have hM7:Paired (Bd (AA H6 p (.lst (mr.map Bn++[.bl true])))) (pts.drop (k+1)) ((gs.map Prod.snd).drop (k+1)):=by
      refine Ei (Oq hTo.mks.nd hpk') ?_
      have:=Fa 1 hM6
      rw[List.drop_drop,List.drop_drop] at this
      exact this
     generalize AA H6 p (.lst (mr.map Bn++[.bl true]))=H7 at *
     refine⟨_,rfl,_,rfl,_,_,rfl,rfl,((k+1:Nat):Int),rfl,fl,_,rfl,SqL.of hfl7,fun c1 hc1=>?_⟩
     rw[Gs]
     have s8':=Ag hc1 (.lst (fxs.drop (k+1)))
     have c18:AA H7 c1 (.lst (fxs.drop (k+1))) c1=some (.lst (fxs.drop (k+1))):=Ac
     generalize AA H7 c1 _=H8' at *
     have d8:=(s7'.trans s8') _ _ (v22 _ _ hd20)
     refine⟨_,rfl,_,rfl,_,_,rfl,rfl,((k+1:Nat):Int),rfl,dl,_,rfl,SqL.of d8,fun c2 hc2=>?_⟩
     rw[Gs]
     have s9':=Ag hc2 (.lst (ys.drop (k+1)))
     have c29:AA H8' c2 (.lst (ys.drop (k+1))) c2=some (.lst (ys.drop (k+1))):=Ac
     generalize AA H8' c2 _=H9' at *
     have u9:=s8'.trans s9'
     refine⟨c1,c2,fxs.drop (k+1),ys.drop (k+1),gs.drop (k+1),rfl,s9' _ _ c18,c29,GsAt.keep u9 (OA hA7 hM7),Fa (k+1) (GsAt.keep (s7'.trans u9) g22),by rw[List.length_drop];omega,fun g hg=>hg5 g (List.mem_of_mem_drop hg),_,rfl,A0 ?_⟩
     exact⟨_,rfl,s7'.trans u9,u9 _ _ hfl7,BU (TS.same u9) hA7,Bh u9 hM7⟩
    ·rintro σ H24 ⟨v20,rfl,s24,hfl24,_,_⟩
     refine⟨_,rfl,.inl ⟨rfl,_,SqL.of hfl24⟩,fl,fxs,_,rfl,rfl,hfl24,Nat.lt_of_le_of_lt (show fxs.length≤486 by omega) (by decide),?_⟩
     have s25:Same H22 (AA H24 fl (.lst (fxs++[.int 0]))):=AD s24 fl0 _
     generalize AA H24 fl (.lst (fxs++[.int 0]))=H25 at *
     refine⟨_,rfl,_,_,rfl,rfl,_,rfl,?_⟩
     by_cases c3:(3:Int)<(many:Int)
     ·exact Bp c3 (q _)
     ·refine Bk c3 ?_
      have w25:=w22.trans s25
      refine⟨_,rfl,_,rfl,_,rfl,_,rfl,_,rfl,rm,hd,room,ps,es,many,z,v,t,rfl,w25 _ _ hrm,wroom,ha.keep (TS.same w25),hok,ok5,by omega,kz,nS',(s22.trans s25) _ _ hd21,PairsAt.keep (u22.trans s25) hE16,hrok,by omega,hm5,fun fl2 fxs2 pts2 H26 s26 fl20 hfl2 hTo2 hnf2=>?_⟩
      rw[hSS,hgs] at hTo2
      exact⟨_,rfl,_,rfl,fl2,dl,fxs2,ys,gs,rfl,hfl2,(s25.trans s26) _ _ (v22 _ _ hd20),Ku hTo2.at_ hTo2.mks.at_,GsAt.keep (s25.trans s26) g22,by omega,hg5,q _⟩
  ·have lw0:((Jp.ans ⟨S,rule,Bg room S,seen⟩ (Bg room S) us).map Prod.snd).length=us.length:=by rw[List.length_map,Jp.ans_len]
   have hw0:∀w1∈(Jp.ans ⟨S,rule,Bg room S,seen⟩ (Bg room S) us).map Prod.snd,LC w1:=fun w1 h1=>by
    obtain⟨e,he,rfl⟩:=List.mem_map.mp h1
    exact (Jp.word _ us _ e he).1
   generalize (Jp.ans ⟨S,rule,Bg room S,seen⟩ (Bg room S) us).map Prod.snd=ws0 at *
   have lps:ps0.length=us.length:=by
    have:=Paired.length hps0
    rw[List.length_zip] at this
    omega
   refine⟨_,rfl,_,_,rfl,rfl,⟨by decide,by decide⟩,_,_,rfl,rfl,(by show (0:Int)<3;decide),rfl,_,rfl,?_⟩
   by_cases c1:n / 243%3=1
   ·refine Bp (by show V.int _=V.int 1;rw[c1]) ?_
    refine⟨_,rfl,Fi,fun e1 he1=>?_⟩
    have s16:=Ag he1 (.lst [])
    have e116:AA H15 e1 (.lst []) e1=some (.lst []):=Ac
    generalize AA H15 e1 _=H16 at *
    have u16:=s15.trans s16
    refine⟨ro,e1,_,rfl,rfl,SqL.of (s16 _ _ hro0),SqL.of e116,_,rfl,?_⟩
    cases ps0 with
    | nil=>
     refine A0 ?_
     exact next2 _ _ ⟨_,[],ws0,rfl,u16,s16 _ _ hro0,BB (TS.same s16) hps0,lw0,hw0⟩
    | cons p00 ps00=>
     generalize hpe:p00::ps00=ps0 at *
     have pos:0<ps0.length:=by rw[←hpe];exact Nat.zero_lt_succ _
     have hE:(!ps0.isEmpty)=true:=by rw[←hpe];rfl
     rw[hE]
     refine Bx ?_
     refine⟨_,rfl,_,_,rfl,rfl,⟨by decide,by decide⟩,_,rfl,ro,_,rfl,.inl (SqL.of (s16 _ _ hro0)),_,_,rfl,rfl,(by show (0:Int)<((ps0.length:Nat):Int);omega),?_⟩
     obtain⟨i,hi⟩:=Int.eq_ofNat_of_zero_le (Int.emod_nonneg (n / 729) (show ((ps0.length:Nat):Int)≠0 by omega))
     have hil:i<ps0.length:=by
      have:=Int.emod_lt_of_pos (n / 729) (show (0:Int)<((ps0.length:Nat):Int) by omega)
      omega
     have hy:ps0[i]? = some ps0[i]:=List.getElem?_eq_getElem hil
     have hva:axs[i]? = some (axs[i]'(by omega)):=List.getElem?_eq_getElem (by omega)
     have hwi:ws0[i]? = some (ws0[i]'(by omega)):=List.getElem?_eq_getElem (by omega)
     generalize axs[i]'(by omega)=va at *
     generalize ws0[i]'(by omega)=wi at *
     have hz2:(axs.zip ws0)[i]? = some (va,wi):=by
      rw[List.getElem?_zip_eq_some]
      exact⟨hva,hwi⟩
     obtain⟨p,ep,hp⟩:=Dm hps0 hy hz2
     rw[ep] at hy
     obtain⟨w1,hW1,hix⟩:=OE (n / 65536) (by omega)
     refine MI (i:=12) (j:=i) hi ?_
     refine MY rfl ?_
     refine⟨_,rfl,_,rfl,ro,_,_,_,rfl,rfl,SqL.of (s16 _ _ hro0),Aq hy,p,_,_,_,rfl,rfl,SqT.of (s16 _ _ hp),Aq (j:=0) rfl,N6,fun lw hlw=>?_⟩
     have s17:=Ag hlw (.lst [.str "grant",.str "deny",.str "doubt"])
     have lw17:AA H16 lw (.lst [.str "grant",.str "deny",.str "doubt"]) lw=some (.lst [.str "grant",.str "deny",.str "doubt"]):=Ac
     generalize AA H16 lw _=H17 at *
     refine⟨_,rfl,_,_,rfl,rfl,⟨by decide,by decide⟩,_,_,rfl,rfl,(by show (0:Int)<3;decide),lw,_,_,_,rfl,rfl,SqL.of lw17,hix,Jd,fun p1 hp1=>?_⟩
     have s18:=Ag hp1 (.tup [va,.str w1])
     have p118:AA H17 p1 (.tup [va,.str w1]) p1=some (.tup [va,.str w1]):=Ac
     generalize AA H17 p1 _=H18 at *
     have u18:=s16.trans (s17.trans s18)
     have hro18:=u18 _ _ hro0
     refine⟨_,rfl,_,rfl,ro,ps0,_,i,rfl,rfl,hro18,Oy hil,?_⟩
     refine next2 _ _ ⟨_,ps0.set i (.ref p1),ws0.set i w1,rfl,AD (s15.trans u18) ro0 _,Ac,?_,?_,?_⟩
     ·refine Jq (v:=va) (by rw[Az (DT p118 hro18 (by intro z;cases z))];exact p118) ?_ (by omega) hva
      exact BB (TS.lst hro18) (BB (TS.same u18) hps0)
     ·rw[List.length_set];exact lw0
     ·intro w2 h2
      rcases List.mem_or_eq_of_mem_set h2 with h2 | rfl
      ·exact hw0 _ h2
      ·exact hW1
   ·refine Bk (by show ¬V.int _=V.int 1;intro e;injection e with e;exact c1 e) ?_
    refine A0 ?_
    exact next2 _ _ ⟨_,ps0,ws0,rfl,s15,hro0,hps0,lw0,hw0⟩
 ·have hle:(room.filter (Db ms)).Sublist room:=List.filter_sublist
  refine⟨_,rfl,Fi,fun e0 he0=>?_⟩
  have s13:=Ag he0 (.lst [])
  have e013:AA H12 e0 (.lst []) e0=some (.lst []):=Ac
  generalize AA H12 e0 _=H13 at *
  refine⟨sn0,e0,_,rfl,rfl,SqL.of (s13 _ _ hsn0),SqL.of e013,_,rfl,?_⟩
  by_cases cE:room.filter (Db ms)=[]
  ·rw[cE]
   refine Bx ⟨_,rfl,?_⟩
   exact next _ _ ⟨rm,room,rfl,s13,(w12.trans s13) _ _ hrm,List.Sublist.refl _,hne⟩
  ·have hE:((room.filter (Db ms)).map V.int).isEmpty=false:=by
    cases h:room.filter (Db ms) with
    | nil=>exact absurd h cE
    | cons _ _=>rfl
   rw[hE]
   refine A0 ?_
   exact next _ _ ⟨sn0,_,rfl,s13,s13 _ _ hsn0,hle,cE⟩
end
theorem all_mk {l:PySem.W.OpenLaw} {w:World} {K:PySem.W.Frag} {h:Heap} {mg:Str→Option Value} {fa f1 f2 f3 f4 f5 f6 f7 f8 f9 f10 f11 f12 f13 f14 f15 f16 f17 f18 f19 f20 f21 f22 f23 f24 f25 f26 f27 f28 f29 f30 f31 f32 f33 f34 f35 f36 f37 f38 f39 f40 f41 f42 f43 f44 f45 f46 f47 f48 f49 f50 f51 f52 f53 f54 f55:Addr} (X:K.In h) (G:h.Ns mainGlobals mg) (hfa:mg "law"=some (.ref fa))
  {od1 an1 od2 an2 od3 an3 od4 an4 od5 an5 od6 an6 od7 an7 od8 an8 od9 an9 od10 an10 od11 an11 od12 an12 od13 an13 od14 an14 od15 an15 od16 an16 od17 an17 od18 an18 od19 an19 od20 an20 od21 an21 od22 an22 od23 an23 od24 an24 od25 an25 od26 an26 od27 an27 od28 an28 od29 an29 od30 an30 od31 an31 od32 an32 od33 an33 od34 an34 od35 an35 od36 an36 od37 an37 od38 an38 od39 an39 od40 an40 od41 an41 od42 an42 od43 an43 od44 an44 od45 an45 od46 an46 od47 an47 od48 an48 od49 an49 od50 an50 od51 an51 od52 an52 od53 an53 od54 an54 od55 an55:Option Addr} {sl1 sl2 sl3 sl4 sl5 sl6 sl7 sl8 sl9 sl10 sl11 sl12 sl13 sl14 sl15 sl16 sl17 sl18 sl19 sl20 sl21 sl22 sl23 sl24 sl25 sl26 sl27 sl28 sl29 sl30 sl31 sl32 sl33 sl34 sl35 sl36 sl37 sl38 sl39 sl40 sl41 sl42 sl43 sl44 sl45 sl46 sl47 sl48 sl49 sl50 sl51 sl52 sl53 sl54 sl55:Array (Option Value)} {oc1 kV1 dc1 pm1 cd1 ct1 oc2 kV2 dc2 pm2 cd2 ct2 oc3 kV3 dc3 pm3 cd3 ct3 oc4 kV4 dc4 pm4 cd4 ct4 oc5 kV5 dc5 pm5 cd5 ct5 oc6 kV6 dc6 pm6 cd6 ct6 oc7 kV7 dc7 pm7 cd7 ct7 oc8 kV8 dc8 pm8 cd8 ct8 oc9 kV9 dc9 pm9 cd9 ct9 oc10 kV10 dc10 pm10 cd10 ct10 oc11 kV11 dc11 pm11 cd11 ct11 oc12 kV12 dc12 pm12 cd12 ct12 oc13 kV13 dc13 pm13 cd13 ct13 oc14 kV14 dc14 pm14 cd14 ct14 oc15 kV15 dc15 pm15 cd15 ct15 oc16 kV16 dc16 pm16 cd16 ct16 oc17 kV17 dc17 pm17 cd17 ct17 oc18 kV18 dc18 pm18 cd18 ct18 oc19 kV19 dc19 pm19 cd19 ct19 oc20 kV20 dc20 pm20 cd20 ct20 oc21 kV21 dc21 pm21 cd21 ct21 oc22 kV22 dc22 pm22 cd22 ct22 oc23 kV23 dc23 pm23 cd23 ct23 oc24 kV24 dc24 pm24 cd24 ct24 oc25 kV25 dc25 pm25 cd25 ct25 oc26 kV26 dc26 pm26 cd26 ct26 oc27 kV27 dc27 pm27 cd27 ct27 oc28 kV28 dc28 pm28 cd28 ct28 oc29 kV29 dc29 pm29 cd29 ct29 oc30 kV30 dc30 pm30 cd30 ct30 oc31 kV31 dc31 pm31 cd31 ct31 oc32 kV32 dc32 pm32 cd32 ct32 oc33 kV33 dc33 pm33 cd33 ct33 oc34 kV34 dc34 pm34 cd34 ct34 oc35 kV35 dc35 pm35 cd35 ct35 oc36 kV36 dc36 pm36 cd36 ct36 oc37 kV37 dc37 pm37 cd37 ct37 oc38 kV38 dc38 pm38 cd38 ct38 oc39 kV39 dc39 pm39 cd39 ct39 oc40 kV40 dc40 pm40 cd40 ct40 oc41 kV41 dc41 pm41 cd41 ct41 oc42 kV42 dc42 pm42 cd42 ct42 oc43 kV43 dc43 pm43 cd43 ct43 oc44 kV44 dc44 pm44 cd44 ct44 oc45 kV45 dc45 pm45 cd45 ct45 oc46 kV46 dc46 pm46 cd46 ct46 oc47 kV47 dc47 pm47 cd47 ct47 oc48 kV48 dc48 pm48 cd48 ct48 oc49 kV49 dc49 pm49 cd49 ct49 oc50 kV50 dc50 pm50 cd50 ct50 oc51 kV51 dc51 pm51 cd51 ct51 oc52 kV52 dc52 pm52 cd52 ct52 oc53 kV53 dc53 pm53 cd53 ct53 oc54 kV54 dc54 pm54 cd54 ct54 oc55 kV55 dc55 pm55 cd55 ct55:Value} {cT NT:Addr} {xTnm xTq:Str} {xTbs:List Value} {xThd:Bool} {xTsn:List Str} {xTsub:List Value} {xTab:Bool} {xTcol:Option Bool} {xTdd:Option Addr} {xTa xTb xTc xTd xTe xTf:Option Value} {xToc:Value} {xTod:Option Addr} {xTes:Array DictEntry} {xTep:Nat} {xTsl:Array (Option Value)} {XDT:ClassData} {cS NcS:Addr} {xnm0 xq0:Str} {xbs0:List Value} {xsn0:List Str} {xsub0:List Value} {xab0:Bool} {xcol0:Option Bool} {xdd0:Option Addr} {xka0 xkb0 xkc0 xkd0 xkf0:Option Value} {xoc0:Value} {xod0:Option Addr} {xes0:Array DictEntry} {xep0:Nat} {xsl0:Array (Option Value)} {XD0:ClassData} {cB NcB:Addr} {xnm1 xq1:Str} {xbs1:List Value} {xsn1:List Str} {xsub1:List Value} {xab1:Bool} {xcol1:Option Bool} {xdd1:Option Addr} {xka1 xkb1 xkc1 xkd1 xkf1:Option Value} {xoc1:Value} {xod1:Option Addr} {xes1:Array DictEntry} {xep1:Nat} {xsl1:Array (Option Value)} {XD1:ClassData} {cN NcN:Addr} {xnm2 xq2:Str} {xbs2:List Value} {xsn2:List Str} {xsub2:List Value} {xab2:Bool} {xcol2:Option Bool} {xdd2:Option Addr} {xka2 xkb2 xkc2 xkd2 xkf2:Option Value} {xoc2:Value} {xod2:Option Addr} {xes2:Array DictEntry} {xep2:Nat} {xsl2:Array (Option Value)} {XD2:ClassData}
  (a1:nsIn K mainGlobals "_law_num"=some (some (.ref f1))) (l1:K.lookup f1=some ⟨oc1,od1,.func (fnOf "_law_num" "_law_num" (Ao Lv) (Al Lv) (Af Lv) .none kV1 dc1 pm1 an1 cd1 ct1),sl1⟩) (c1:codeIn K cd1 "_law_num"=true) (k1:keepIn K (.ref f1)=true)
  (a2:nsIn K mainGlobals "_law_sentence"=some (some (.ref f2))) (l2:K.lookup f2=some ⟨oc2,od2,.func (fnOf "_law_sentence" "_law_sentence" (Ao Gc) (Al Gc) (Af Gc) .none kV2 dc2 pm2 an2 cd2 ct2),sl2⟩) (c2:codeIn K cd2 "_law_sentence"=true) (k2:keepIn K (.ref f2)=true)
  (a3:nsIn K mainGlobals "_law_worlds"=some (some (.ref f3))) (l3:K.lookup f3=some ⟨oc3,od3,.func (fnOf "_law_worlds" "_law_worlds" (Ao Cg) (Al Cg) (Af Cg) .none kV3 dc3 pm3 an3 cd3 ct3),sl3⟩) (c3:codeIn K cd3 "_law_worlds"=true) (k3:keepIn K (.ref f3)=true)
  (a4:nsIn K mainGlobals "_law_some"=some (some (.ref f4))) (l4:K.lookup f4=some ⟨oc4,od4,.func (fnOf "_law_some" "_law_some" (Ao ED) (Al ED) (Af ED) .none kV4 dc4 pm4 an4 cd4 ct4),sl4⟩) (c4:codeIn K cd4 "_law_some"=true) (k4:keepIn K (.ref f4)=true)
  (a5:nsIn K mainGlobals "_law_some_one"=some (some (.ref f5))) (l5:K.lookup f5=some ⟨oc5,od5,.func (fnOf "_law_some_one" "_law_some_one" (Ao BQ) (Al BQ) (Af BQ) .none kV5 dc5 pm5 an5 cd5 ct5),sl5⟩) (c5:codeIn K cd5 "_law_some_one"=true) (k5:keepIn K (.ref f5)=true)
  (a6:nsIn K mainGlobals "_law_room"=some (some (.ref f6))) (l6:K.lookup f6=some ⟨oc6,od6,.func (fnOf "_law_room" "_law_room" (Ao EV) (Al EV) (Af EV) .none kV6 dc6 pm6 an6 cd6 ct6),sl6⟩) (c6:codeIn K cd6 "_law_room"=true) (k6:keepIn K (.ref f6)=true)
  (a7:nsIn K mainGlobals "_law_true"=some (some (.ref f7))) (l7:K.lookup f7=some ⟨oc7,od7,.func (fnOf "_law_true" "_law_true" (Ao DW) (Al DW) (Af DW) .none kV7 dc7 pm7 an7 cd7 ct7),sl7⟩) (c7:codeIn K cd7 "_law_true"=true) (k7:keepIn K (.ref f7)=true)
  (a8:nsIn K mainGlobals "_law_ins"=some (some (.ref f8))) (l8:K.lookup f8=some ⟨oc8,od8,.func (fnOf "_law_ins" "_law_ins" (Ao Gb) (Al Gb) (Af Gb) .none kV8 dc8 pm8 an8 cd8 ct8),sl8⟩) (c8:codeIn K cd8 "_law_ins"=true) (k8:keepIn K (.ref f8)=true)
  (a9:nsIn K mainGlobals "_law_kind"=some (some (.ref f9))) (l9:K.lookup f9=some ⟨oc9,od9,.func (fnOf "_law_kind" "_law_kind" (Ao EH) (Al EH) (Af EH) .none kV9 dc9 pm9 an9 cd9 ct9),sl9⟩) (c9:codeIn K cd9 "_law_kind"=true) (k9:keepIn K (.ref f9)=true)
  (a10:nsIn K mainGlobals "_law_start"=some (some (.ref f10))) (l10:K.lookup f10=some ⟨oc10,od10,.func (fnOf "_law_start" "_law_start" (Ao DM) (Al DM) (Af DM) .none kV10 dc10 pm10 an10 cd10 ct10),sl10⟩) (c10:codeIn K cd10 "_law_start"=true) (k10:keepIn K (.ref f10)=true)
  (a11:nsIn K mainGlobals "_law_rule"=some (some (.ref f11))) (l11:K.lookup f11=some ⟨oc11,od11,.func (fnOf "_law_rule" "_law_rule" (Ao EE) (Al EE) (Af EE) .none kV11 dc11 pm11 an11 cd11 ct11),sl11⟩) (c11:codeIn K cd11 "_law_rule"=true) (k11:keepIn K (.ref f11)=true)
  (a12:nsIn K mainGlobals "_law_outs"=some (some (.ref f12))) (l12:K.lookup f12=some ⟨oc12,od12,.func (fnOf "_law_outs" "_law_outs" (Ao EK) (Al EK) (Af EK) .none kV12 dc12 pm12 an12 cd12 ct12),sl12⟩) (c12:codeIn K cd12 "_law_outs"=true) (k12:keepIn K (.ref f12)=true)
  (a13:nsIn K mainGlobals "_law_sides"=some (some (.ref f13))) (l13:K.lookup f13=some ⟨oc13,od13,.func (fnOf "_law_sides" "_law_sides" (Ao DC) (Al DC) (Af DC) .none kV13 dc13 pm13 an13 cd13 ct13),sl13⟩) (c13:codeIn K cd13 "_law_sides"=true) (k13:keepIn K (.ref f13)=true)
  (a14:nsIn K mainGlobals "_law_last"=some (some (.ref f14))) (l14:K.lookup f14=some ⟨oc14,od14,.func (fnOf "_law_last" "_law_last" (Ao Ey) (Al Ey) (Af Ey) .none kV14 dc14 pm14 an14 cd14 ct14),sl14⟩) (c14:codeIn K cd14 "_law_last"=true) (k14:keepIn K (.ref f14)=true)
  (a15:nsIn K mainGlobals "_law_asked"=some (some (.ref f15))) (l15:K.lookup f15=some ⟨oc15,od15,.func (fnOf "_law_asked" "_law_asked" (Ao Dz) (Al Dz) (Af Dz) .none kV15 dc15 pm15 an15 cd15 ct15),sl15⟩) (c15:codeIn K cd15 "_law_asked"=true) (k15:keepIn K (.ref f15)=true)
  (a16:nsIn K mainGlobals "_law_asks"=some (some (.ref f16))) (l16:K.lookup f16=some ⟨oc16,od16,.func (fnOf "_law_asks" "_law_asks" (Ao EA) (Al EA) (Af EA) .none kV16 dc16 pm16 an16 cd16 ct16),sl16⟩) (c16:codeIn K cd16 "_law_asks"=true) (k16:keepIn K (.ref f16)=true)
  (a17:nsIn K mainGlobals "_law_base"=some (some (.ref f17))) (l17:K.lookup f17=some ⟨oc17,od17,.func (fnOf "_law_base" "_law_base" (Ao Ez) (Al Ez) (Af Ez) .none kV17 dc17 pm17 an17 cd17 ct17),sl17⟩) (c17:codeIn K cd17 "_law_base"=true) (k17:keepIn K (.ref f17)=true)
  (a18:nsIn K mainGlobals "_law_plain"=some (some (.ref f18))) (l18:K.lookup f18=some ⟨oc18,od18,.func (fnOf "_law_plain" "_law_plain" (Ao DI) (Al DI) (Af DI) .none kV18 dc18 pm18 an18 cd18 ct18),sl18⟩) (c18:codeIn K cd18 "_law_plain"=true) (k18:keepIn K (.ref f18)=true)
  (a19:nsIn K mainGlobals "_law_stands"=some (some (.ref f19))) (l19:K.lookup f19=some ⟨oc19,od19,.func (fnOf "_law_stands" "_law_stands" (Ao Ce) (Al Ce) (Af Ce) .none kV19 dc19 pm19 an19 cd19 ct19),sl19⟩) (c19:codeIn K cd19 "_law_stands"=true) (k19:keepIn K (.ref f19)=true)
  (a20:nsIn K mainGlobals "_law_due"=some (some (.ref f20))) (l20:K.lookup f20=some ⟨oc20,od20,.func (fnOf "_law_due" "_law_due" (Ao Hl) (Al Hl) (Af Hl) .none kV20 dc20 pm20 an20 cd20 ct20),sl20⟩) (c20:codeIn K cd20 "_law_due"=true) (k20:keepIn K (.ref f20)=true)
  (a21:nsIn K mainGlobals "_law_left"=some (some (.ref f21))) (l21:K.lookup f21=some ⟨oc21,od21,.func (fnOf "_law_left" "_law_left" (Ao EI) (Al EI) (Af EI) .none kV21 dc21 pm21 an21 cd21 ct21),sl21⟩) (c21:codeIn K cd21 "_law_left"=true) (k21:keepIn K (.ref f21)=true)
  (a22:nsIn K mainGlobals "_law_answers"=some (some (.ref f22))) (l22:K.lookup f22=some ⟨oc22,od22,.func (fnOf "_law_answers" "_law_answers" (Ao BO) (Al BO) (Af BO) .none kV22 dc22 pm22 an22 cd22 ct22),sl22⟩) (c22:codeIn K cd22 "_law_answers"=true) (k22:keepIn K (.ref f22)=true)
  (a23:nsIn K mainGlobals "_law_all_marks"=some (some (.ref f23))) (l23:K.lookup f23=some ⟨oc23,od23,.func (fnOf "_law_all_marks" "_law_all_marks" (Ao EL) (Al EL) (Af EL) .none kV23 dc23 pm23 an23 cd23 ct23),sl23⟩) (c23:codeIn K cd23 "_law_all_marks"=true) (k23:keepIn K (.ref f23)=true)
  (a24:nsIn K mainGlobals "_law_agreeing"=some (some (.ref f24))) (l24:K.lookup f24=some ⟨oc24,od24,.func (fnOf "_law_agreeing" "_law_agreeing" (Ao Ch) (Al Ch) (Af Ch) .none kV24 dc24 pm24 an24 cd24 ct24),sl24⟩) (c24:codeIn K cd24 "_law_agreeing"=true) (k24:keepIn K (.ref f24)=true)
  (a25:nsIn K mainGlobals "parts_of"=some (some (.ref f25))) (l25:K.lookup f25=some ⟨oc25,od25,.func (fnOf "parts_of" "parts_of" (Ao EU) (Al EU) (Af EU) .none kV25 dc25 pm25 an25 cd25 ct25),sl25⟩) (c25:codeIn K cd25 "parts_of"=true) (k25:keepIn K (.ref f25)=true)
  (a26:nsIn K mainGlobals "letters"=some (some (.ref f26))) (l26:K.lookup f26=some ⟨oc26,od26,.func (fnOf "letters" "letters" (Ao B9) (Al B9) (Af B9) .none kV26 dc26 pm26 an26 cd26 ct26),sl26⟩) (c26:codeIn K cd26 "letters"=true) (k26:keepIn K (.ref f26)=true)
  (a27:nsIn K mainGlobals "refuse_strange"=some (some (.ref f27))) (l27:K.lookup f27=some ⟨oc27,od27,.func (fnOf "refuse_strange" "refuse_strange" (Ao B8) (Al B8) (Af B8) .none kV27 dc27 pm27 an27 cd27 ct27),sl27⟩) (c27:codeIn K cd27 "refuse_strange"=true) (k27:keepIn K (.ref f27)=true)
  (a28:nsIn K mainGlobals "steps_of"=some (some (.ref f28))) (l28:K.lookup f28=some ⟨oc28,od28,.func (fnOf "steps_of" "steps_of" (Ao EM) (Al EM) (Af EM) .none kV28 dc28 pm28 an28 cd28 ct28),sl28⟩) (c28:codeIn K cd28 "steps_of"=true) (k28:keepIn K (.ref f28)=true)
  (a29:nsIn K mainGlobals "letter_holds"=some (some (.ref f29))) (l29:K.lookup f29=some ⟨oc29,od29,.func (fnOf "letter_holds" "letter_holds" (Ao EC) (Al EC) (Af EC) .none kV29 dc29 pm29 an29 cd29 ct29),sl29⟩) (c29:codeIn K cd29 "letter_holds"=true) (k29:keepIn K (.ref f29)=true)
  (a30:nsIn K mainGlobals "joined"=some (some (.ref f30))) (l30:K.lookup f30=some ⟨oc30,od30,.func (fnOf "joined" "joined" (Ao DD) (Al DD) (Af DD) .none kV30 dc30 pm30 an30 cd30 ct30),sl30⟩) (c30:codeIn K cd30 "joined"=true) (k30:keepIn K (.ref f30)=true)
  (a31:nsIn K mainGlobals "true_by"=some (some (.ref f31))) (l31:K.lookup f31=some ⟨oc31,od31,.func (fnOf "true_by" "true_by" (Ao DN) (Al DN) (Af DN) .none kV31 dc31 pm31 an31 cd31 ct31),sl31⟩) (c31:codeIn K cd31 "true_by"=true) (k31:keepIn K (.ref f31)=true)
  (a32:nsIn K mainGlobals "worlds_of"=some (some (.ref f32))) (l32:K.lookup f32=some ⟨oc32,od32,.func (fnOf "worlds_of" "worlds_of" (Ao BS) (Al BS) (Af BS) .none kV32 dc32 pm32 an32 cd32 ct32),sl32⟩) (c32:codeIn K cd32 "worlds_of"=true) (k32:keepIn K (.ref f32)=true)
  (a33:nsIn K mainGlobals "in_first_only"=some (some (.ref f33))) (l33:K.lookup f33=some ⟨oc33,od33,.func (fnOf "in_first_only" "in_first_only" (Ao EQ) (Al EQ) (Af EQ) .none kV33 dc33 pm33 an33 cd33 ct33),sl33⟩) (c33:codeIn K cd33 "in_first_only"=true) (k33:keepIn K (.ref f33)=true)
  (a34:nsIn K mainGlobals "sides_of"=some (some (.ref f34))) (l34:K.lookup f34=some ⟨oc34,od34,.func (fnOf "sides_of" "sides_of" (Ao B4) (Al B4) (Af B4) .none kV34 dc34 pm34 an34 cd34 ct34),sl34⟩) (c34:codeIn K cd34 "sides_of"=true) (k34:keepIn K (.ref f34)=true)
  (a35:nsIn K mainGlobals "refuse_row"=some (some (.ref f35))) (l35:K.lookup f35=some ⟨oc35,od35,.func (fnOf "refuse_row" "refuse_row" (Ao DO) (Al DO) (Af DO) .none kV35 dc35 pm35 an35 cd35 ct35),sl35⟩) (c35:codeIn K cd35 "refuse_row"=true) (k35:keepIn K (.ref f35)=true)
  (a36:nsIn K mainGlobals "checked_sides"=some (some (.ref f36))) (l36:K.lookup f36=some ⟨oc36,od36,.func (fnOf "checked_sides" "checked_sides" (Ao Cc) (Al Cc) (Af Cc) .none kV36 dc36 pm36 an36 cd36 ct36),sl36⟩) (c36:codeIn K cd36 "checked_sides"=true) (k36:keepIn K (.ref f36)=true)
  (a37:nsIn K mainGlobals "all_marks"=some (some (.ref f37))) (l37:K.lookup f37=some ⟨oc37,od37,.func (fnOf "all_marks" "all_marks" (Ao BP) (Al BP) (Af BP) .none kV37 dc37 pm37 an37 cd37 ct37),sl37⟩) (c37:codeIn K cd37 "all_marks"=true) (k37:keepIn K (.ref f37)=true)
  (a38:nsIn K mainGlobals "agrees"=some (some (.ref f38))) (l38:K.lookup f38=some ⟨oc38,od38,.func (fnOf "agrees" "agrees" (Ao DL) (Al DL) (Af DL) .none kV38 dc38 pm38 an38 cd38 ct38),sl38⟩) (c38:codeIn K cd38 "agrees"=true) (k38:keepIn K (.ref f38)=true)
  (a39:nsIn K mainGlobals "seen_by"=some (some (.ref f39))) (l39:K.lookup f39=some ⟨oc39,od39,.func (fnOf "seen_by" "seen_by" (Ao DK) (Al DK) (Af DK) .none kV39 dc39 pm39 an39 cd39 ct39),sl39⟩) (c39:codeIn K cd39 "seen_by"=true) (k39:keepIn K (.ref f39)=true)
  (a40:nsIn K mainGlobals "in_any"=some (some (.ref f40))) (l40:K.lookup f40=some ⟨oc40,od40,.func (fnOf "in_any" "in_any" (Ao L3) (Al L3) (Af L3) .none kV40 dc40 pm40 an40 cd40 ct40),sl40⟩) (c40:codeIn K cd40 "in_any"=true) (k40:keepIn K (.ref f40)=true)
  (a41:nsIn K mainGlobals "base_of"=some (some (.ref f41))) (l41:K.lookup f41=some ⟨oc41,od41,.func (fnOf "base_of" "base_of" (Ao Dx) (Al Dx) (Af Dx) .none kV41 dc41 pm41 an41 cd41 ct41),sl41⟩) (c41:codeIn K cd41 "base_of"=true) (k41:keepIn K (.ref f41)=true)
  (a42:nsIn K mainGlobals "all_within"=some (some (.ref f42))) (l42:K.lookup f42=some ⟨oc42,od42,.func (fnOf "all_within" "all_within" (Ao Eo) (Al Eo) (Af Eo) .none kV42 dc42 pm42 an42 cd42 ct42),sl42⟩) (c42:codeIn K cd42 "all_within"=true) (k42:keepIn K (.ref f42)=true)
  (a43:nsIn K mainGlobals "in_both"=some (some (.ref f43))) (l43:K.lookup f43=some ⟨oc43,od43,.func (fnOf "in_both" "in_both" (Ao G0) (Al G0) (Af G0) .none kV43 dc43 pm43 an43 cd43 ct43),sl43⟩) (c43:codeIn K cd43 "in_both"=true) (k43:keepIn K (.ref f43)=true)
  (a44:nsIn K mainGlobals "some_within"=some (some (.ref f44))) (l44:K.lookup f44=some ⟨oc44,od44,.func (fnOf "some_within" "some_within" (Ao EJ) (Al EJ) (Af EJ) .none kV44 dc44 pm44 an44 cd44 ct44),sl44⟩) (c44:codeIn K cd44 "some_within"=true) (k44:keepIn K (.ref f44)=true)
  (a45:nsIn K mainGlobals "plain"=some (some (.ref f45))) (l45:K.lookup f45=some ⟨oc45,od45,.func (fnOf "plain" "plain" (Ao En) (Al En) (Af En) .none kV45 dc45 pm45 an45 cd45 ct45),sl45⟩) (c45:codeIn K cd45 "plain"=true) (k45:keepIn K (.ref f45)=true)
  (a46:nsIn K mainGlobals "left_by"=some (some (.ref f46))) (l46:K.lookup f46=some ⟨oc46,od46,.func (fnOf "left_by" "left_by" (Ao Dy) (Al Dy) (Af Dy) .none kV46 dc46 pm46 an46 cd46 ct46),sl46⟩) (c46:codeIn K cd46 "left_by"=true) (k46:keepIn K (.ref f46)=true)
  (a47:nsIn K mainGlobals "missed_side"=some (some (.ref f47))) (l47:K.lookup f47=some ⟨oc47,od47,.func (fnOf "missed_side" "missed_side" (Ao DJ) (Al DJ) (Af DJ) .none kV47 dc47 pm47 an47 cd47 ct47),sl47⟩) (c47:codeIn K cd47 "missed_side"=true) (k47:keepIn K (.ref f47)=true)
  (a48:nsIn K mainGlobals "barring_side"=some (some (.ref f48))) (l48:K.lookup f48=some ⟨oc48,od48,.func (fnOf "barring_side" "barring_side" (Ao B7) (Al B7) (Af B7) .none kV48 dc48 pm48 an48 cd48 ct48),sl48⟩) (c48:codeIn K cd48 "barring_side"=true) (k48:keepIn K (.ref f48)=true)
  (a49:nsIn K mainGlobals "answer"=some (some (.ref f49))) (l49:K.lookup f49=some ⟨oc49,od49,.func (fnOf "answer" "answer" (Ao Dq) (Al Dq) (Af Dq) .none kV49 dc49 pm49 an49 cd49 ct49),sl49⟩) (c49:codeIn K cd49 "answer"=true) (k49:keepIn K (.ref f49)=true)
  (a50:nsIn K mainGlobals "all_due"=some (some (.ref f50))) (l50:K.lookup f50=some ⟨oc50,od50,.func (fnOf "all_due" "all_due" (Ao DF) (Al DF) (Af DF) .none kV50 dc50 pm50 an50 cd50 ct50),sl50⟩) (c50:codeIn K cd50 "all_due"=true) (k50:keepIn K (.ref f50)=true)
  (a51:nsIn K mainGlobals "guesses"=some (some (.ref f51))) (l51:K.lookup f51=some ⟨oc51,od51,.func (fnOf "guesses" "guesses" (Ao Cb) (Al Cb) (Af Cb) .none kV51 dc51 pm51 an51 cd51 ct51),sl51⟩) (c51:codeIn K cd51 "guesses"=true) (k51:keepIn K (.ref f51)=true)
  (a52:nsIn K mainGlobals "_law_says"=some (some (.ref f52))) (l52:K.lookup f52=some ⟨oc52,od52,.func (fnOf "_law_says" "_law_says" (Ao Gn) (Al Gn) (Af Gn) .none kV52 dc52 pm52 an52 cd52 ct52),sl52⟩) (c52:codeIn K cd52 "_law_says"=true) (k52:keepIn K (.ref f52)=true)
  (a53:nsIn K mainGlobals "_law_marks_are"=some (some (.ref f53))) (l53:K.lookup f53=some ⟨oc53,od53,.func (fnOf "_law_marks_are" "_law_marks_are" (Ao Cj) (Al Cj) (Af Cj) .none kV53 dc53 pm53 an53 cd53 ct53),sl53⟩) (c53:codeIn K cd53 "_law_marks_are"=true) (k53:keepIn K (.ref f53)=true)
  (a54:nsIn K mainGlobals "_law_lists_are"=some (some (.ref f54))) (l54:K.lookup f54=some ⟨oc54,od54,.func (fnOf "_law_lists_are" "_law_lists_are" (Ao Du) (Al Du) (Af Du) .none kV54 dc54 pm54 an54 cd54 ct54),sl54⟩) (c54:codeIn K cd54 "_law_lists_are"=true) (k54:keepIn K (.ref f54)=true)
  (a55:nsIn K mainGlobals "law"=some (some (.ref f55))) (l55:K.lookup f55=some ⟨oc55,od55,.func (fnOf "law" "law" (Ao HD) (Al HD) (Af HD) .none kV55 dc55 pm55 an55 cd55 ct55),sl55⟩) (c55:codeIn K cd55 "law"=true) (k55:keepIn K (.ref f55)=true)
  (yabs:nsIn K mainGlobals "abs"=some none)
  (ylen:nsIn K mainGlobals "len"=some none)
  (yrange:nsIn K mainGlobals "range"=some none)
  (yisinstance:nsIn K mainGlobals "isinstance"=some none)
  (yint:nsIn K mainGlobals "int"=some none)
  (ybool:nsIn K mainGlobals "bool"=some none)
  (ystr:nsIn K mainGlobals "str"=some none)
  (ytuple:nsIn K mainGlobals "tuple"=some none)
  (ylist:nsIn K mainGlobals "list"=some none)
  (yset:nsIn K mainGlobals "set"=some none)
  (ysorted:nsIn K mainGlobals "sorted"=some none)
  (yany:nsIn K mainGlobals "any"=some none)
  (yall:nsIn K mainGlobals "all"=some none)
  (yValueError:nsIn K mainGlobals "ValueError"=some none)
  (yenumerate:nsIn K mainGlobals "enumerate"=some none)
  (ymin:nsIn K mainGlobals "min"=some none)
  (xTn:nsIn K mainGlobals "TalkError"=some (some (.ref cT)))
  (xTl:K.lookup cT=some ⟨.type "type",xTdd,.cls { name:=xTnm,bases:=xTbs,mro:=.ref cT::FW,ns:=NT,qualname:=xTq,hasDict:=xThd,slotNames:=xTsn,subclasses:=xTsub,abstract:=xTab,collection:=xTcol,hasDel:=false },#[xTa,xTb,xTc,xTd,xTe,xTf]⟩)
  (xTm:K.lookup NT=some ⟨xToc,xTod,.dict xTes xTep,xTsl⟩)
  (nTs:(xTes.all (fun e=>match e.key with | .str _ _=>true | _=>false))=true)
  (xTi:nsIn K NT "__init__"=some none)
  (xTc1:clsIn K cT=some XDT)
  (xTt:typeIn K (.ref cT)=some (.type "type"))
  (xTbse:mroIn K cT (.type "BaseException")=some true)
  (nuV:PySem.W.kitMeta "ValueError"=true)
  (xcg:PySem.W.specialIn K (.builtin "object.__class__") "__get__"=some (some (.builtin "getset_descriptor.__get__")))
  (xct:PySem.W.takesIn K (.builtin "object.__class__")=some true)
  (xn0:nsIn K mainGlobals "StrangeLetter"=some (some (.ref cS)))
  (xl0:K.lookup cS=some (excClassObj xnm0 xq0 cS NcS xbs0 (.ref cT::FW) true xsn0 xsub0 xab0 xcol0 xdd0 xka0 xkb0 xkc0 xkd0 xkf0 "ValueError.__new__"))
  (xm0:K.lookup NcS=some ⟨xoc0,xod0,.dict xes0 xep0,xsl0⟩)
  (nxs0:(xes0.all (fun e=>match e.key with | .str _ _=>true | _=>false))=true)
  (xi0:nsIn K NcS "__init__"=some none)
  (xkp0:keepIn K (.ref cS)=true)
  (xcd0:clsIn K cS=some XD0)
  (nxm0:XD0.mro= .ref cS::.ref cT::FW)
  (nxd0:XD0.hasDict=true)
  (xsa0:findIn K (.ref cS) "__setattr__"=some (some (.builtin "object.__setattr__")))
  (xga0:findIn K (.ref cS) "__getattribute__"=some (some (.builtin "BaseException.__getattribute__")))
  (xgn0:findIn K (.ref cS) "__getattr__"=some none)
  (xca0:findIn K (.ref cS) "__class__"=some (some (.builtin "object.__class__")))
  (xt0:typeIn K (.ref cS)=some (.type "type"))
  (xb0:mroIn K cS (.type "BaseException")=some true)
  (xs0:mroIn K cS (.ref cS)=some true)
  (xu0:mroIn K cS (.ref cT)=some true)
  (xv0:subIn K (.ref cS) (.type "ValueError")=some true)
  (xn1:nsIn K mainGlobals "BadWord"=some (some (.ref cB)))
  (xl1:K.lookup cB=some (excClassObj xnm1 xq1 cB NcB xbs1 (.ref cT::FW) true xsn1 xsub1 xab1 xcol1 xdd1 xka1 xkb1 xkc1 xkd1 xkf1 "ValueError.__new__"))
  (xm1:K.lookup NcB=some ⟨xoc1,xod1,.dict xes1 xep1,xsl1⟩)
  (nxs1:(xes1.all (fun e=>match e.key with | .str _ _=>true | _=>false))=true)
  (xi1:nsIn K NcB "__init__"=some none)
  (xkp1:keepIn K (.ref cB)=true)
  (xcd1:clsIn K cB=some XD1)
  (nxm1:XD1.mro= .ref cB::.ref cT::FW)
  (nxd1:XD1.hasDict=true)
  (xsa1:findIn K (.ref cB) "__setattr__"=some (some (.builtin "object.__setattr__")))
  (xga1:findIn K (.ref cB) "__getattribute__"=some (some (.builtin "BaseException.__getattribute__")))
  (xgn1:findIn K (.ref cB) "__getattr__"=some none)
  (xca1:findIn K (.ref cB) "__class__"=some (some (.builtin "object.__class__")))
  (xt1:typeIn K (.ref cB)=some (.type "type"))
  (xb1:mroIn K cB (.type "BaseException")=some true)
  (xs1:mroIn K cB (.ref cB)=some true)
  (xu1:mroIn K cB (.ref cT)=some true)
  (xv1:subIn K (.ref cB) (.type "ValueError")=some true)
  (xn2:nsIn K mainGlobals "NoStanding"=some (some (.ref cN)))
  (xl2:K.lookup cN=some (excClassObj xnm2 xq2 cN NcN xbs2 (.ref cT::FW) true xsn2 xsub2 xab2 xcol2 xdd2 xka2 xkb2 xkc2 xkd2 xkf2 "ValueError.__new__"))
  (xm2:K.lookup NcN=some ⟨xoc2,xod2,.dict xes2 xep2,xsl2⟩)
  (nxs2:(xes2.all (fun e=>match e.key with | .str _ _=>true | _=>false))=true)
  (xi2:nsIn K NcN "__init__"=some none)
  (xkp2:keepIn K (.ref cN)=true)
  (xcd2:clsIn K cN=some XD2)
  (nxm2:XD2.mro= .ref cN::.ref cT::FW)
  (nxd2:XD2.hasDict=true)
  (xsa2:findIn K (.ref cN) "__setattr__"=some (some (.builtin "object.__setattr__")))
  (xga2:findIn K (.ref cN) "__getattribute__"=some (some (.builtin "BaseException.__getattribute__")))
  (xgn2:findIn K (.ref cN) "__getattr__"=some none)
  (xca2:findIn K (.ref cN) "__class__"=some (some (.builtin "object.__class__")))
  (xt2:typeIn K (.ref cN)=some (.type "type"))
  (xb2:mroIn K cN (.type "BaseException")=some true)
  (xs2:mroIn K cN (.ref cN)=some true)
  (xu2:mroIn K cN (.ref cT)=some true)
  (xv2:subIn K (.ref cN) (.type "ValueError")=some true)
  (xp0_1:subIn K (.ref cS) (.ref cB)=some false)
  (nq0_1:(Value.ref cS == Value.ref cB)=false)
  (xr0_1:mroIn K cS (.ref cB)=some false)
  (xp0_2:subIn K (.ref cS) (.ref cN)=some false)
  (nq0_2:(Value.ref cS == Value.ref cN)=false)
  (xr0_2:mroIn K cS (.ref cN)=some false)
  (xp1_0:subIn K (.ref cB) (.ref cS)=some false)
  (nq1_0:(Value.ref cB == Value.ref cS)=false)
  (xr1_0:mroIn K cB (.ref cS)=some false)
  (xp1_2:subIn K (.ref cB) (.ref cN)=some false)
  (nq1_2:(Value.ref cB == Value.ref cN)=false)
  (xr1_2:mroIn K cB (.ref cN)=some false)
  (xp2_0:subIn K (.ref cN) (.ref cS)=some false)
  (nq2_0:(Value.ref cN == Value.ref cS)=false)
  (xr2_0:mroIn K cN (.ref cS)=some false)
  (xp2_1:subIn K (.ref cN) (.ref cB)=some false)
  (nq2_1:(Value.ref cN == Value.ref cB)=false)
  (xr2_1:mroIn K cN (.ref cB)=some false)
  : ∃fd:FuncData,(∀(s:Shared) (v:Value),BindsTo s fd ⟨[v],[]⟩ [("_law_script",v)])∧∀bz:Heap,K.In bz→bz.Ns mainGlobals mg→FnOk l.prog w K mg bz AO 27 fa fd ["_law_script"] (KW K):=by
 have e:=hfa.symm.trans (mg_of X G a55)
 cases e
 have F1:=AB (st:=Lv) l1 c1 k1
 have F2:=AB (st:=Gc) l2 c2 k2
 have F3:=AB (st:=Cg) l3 c3 k3
 have F4:=AB (st:=ED) l4 c4 k4
 have F5:=AB (st:=BQ) l5 c5 k5
 have F6:=AB (st:=EV) l6 c6 k6
 have F7:=AB (st:=DW) l7 c7 k7
 have F8:=AB (st:=Gb) l8 c8 k8
 have F9:=AB (st:=EH) l9 c9 k9
 have F10:=AB (st:=DM) l10 c10 k10
 have F11:=AB (st:=EE) l11 c11 k11
 have F12:=AB (st:=EK) l12 c12 k12
 have F13:=AB (st:=DC) l13 c13 k13
 have F14:=AB (st:=Ey) l14 c14 k14
 have F15:=AB (st:=Dz) l15 c15 k15
 have F16:=AB (st:=EA) l16 c16 k16
 have F17:=AB (st:=Ez) l17 c17 k17
 have F18:=AB (st:=DI) l18 c18 k18
 have F19:=AB (st:=Ce) l19 c19 k19
 have F20:=AB (st:=Hl) l20 c20 k20
 have F21:=AB (st:=EI) l21 c21 k21
 have F22:=AB (st:=BO) l22 c22 k22
 have F23:=AB (st:=EL) l23 c23 k23
 have F24:=AB (st:=Ch) l24 c24 k24
 have F25:=AB (st:=EU) l25 c25 k25
 have F26:=AB (st:=B9) l26 c26 k26
 have F27:=AB (st:=B8) l27 c27 k27
 have F28:=AB (st:=EM) l28 c28 k28
 have F29:=AB (st:=EC) l29 c29 k29
 have F30:=AB (st:=DD) l30 c30 k30
 have F31:=AB (st:=DN) l31 c31 k31
 have F32:=AB (st:=BS) l32 c32 k32
 have F33:=AB (st:=EQ) l33 c33 k33
 have F34:=AB (st:=B4) l34 c34 k34
 have F35:=AB (st:=DO) l35 c35 k35
 have F36:=AB (st:=Cc) l36 c36 k36
 have F37:=AB (st:=BP) l37 c37 k37
 have F38:=AB (st:=DL) l38 c38 k38
 have F39:=AB (st:=DK) l39 c39 k39
 have F40:=AB (st:=L3) l40 c40 k40
 have F41:=AB (st:=Dx) l41 c41 k41
 have F42:=AB (st:=Eo) l42 c42 k42
 have F43:=AB (st:=G0) l43 c43 k43
 have F44:=AB (st:=EJ) l44 c44 k44
 have F45:=AB (st:=En) l45 c45 k45
 have F46:=AB (st:=Dy) l46 c46 k46
 have F47:=AB (st:=DJ) l47 c47 k47
 have F48:=AB (st:=B7) l48 c48 k48
 have F49:=AB (st:=Dq) l49 c49 k49
 have F50:=AB (st:=DF) l50 c50 k50
 have F51:=AB (st:=Cb) l51 c51 k51
 have F52:=AB (st:=Gn) l52 c52 k52
 have F53:=AB (st:=Cj) l53 c53 k53
 have F54:=AB (st:=Du) l54 c54 k54
 have FLAW:=AB (st:=HD) l55 c55 k55
 have C1:AL K mg "_law_num" f1 _ ["_law_script","_law_k"]:=⟨mg_of X G a1,k1,F1.binds fun _ _ _ _ _ _ us hl=>(by obtain⟨_,_,rfl⟩:=AV hl;rfl)⟩
 have C2:AL K mg "_law_sentence" f2 _ ["_law_n","_law_most","_law_many"]:=⟨mg_of X G a2,k2,F2.binds fun _ _ _ _ _ _ us hl=>(by obtain⟨_,_,_,rfl⟩:=Cy hl;rfl)⟩
 have C3:AL K mg "_law_worlds" f3 _ ["_law_many"]:=⟨mg_of X G a3,k3,F3.binds fun _ _ _ _ _ _ us hl=>(by obtain⟨_,rfl⟩:=Ct hl;rfl)⟩
 have C4:AL K mg "_law_some" f4 _ ["_law_n","_law_row"]:=⟨mg_of X G a4,k4,F4.binds fun _ _ _ _ _ _ us hl=>(by obtain⟨_,_,rfl⟩:=AV hl;rfl)⟩
 have C5:AL K mg "_law_some_one" f5 _ ["_law_n","_law_row"]:=⟨mg_of X G a5,k5,F5.binds fun _ _ _ _ _ _ us hl=>(by obtain⟨_,_,rfl⟩:=AV hl;rfl)⟩
 have C6:AL K mg "_law_room" f6 _ ["_law_n","_law_many"]:=⟨mg_of X G a6,k6,F6.binds fun _ _ _ _ _ _ us hl=>(by obtain⟨_,_,rfl⟩:=AV hl;rfl)⟩
 have C7:AL K mg "_law_true" f7 _ ["_law_sentence_here","_law_world"]:=⟨mg_of X G a7,k7,F7.binds fun _ _ _ _ _ _ us hl=>(by obtain⟨_,_,rfl⟩:=AV hl;rfl)⟩
 have C8:AL K mg "_law_ins" f8 _ ["_law_sentence_here","_law_row"]:=⟨mg_of X G a8,k8,F8.binds fun _ _ _ _ _ _ us hl=>(by obtain⟨_,_,rfl⟩:=AV hl;rfl)⟩
 have C9:AL K mg "_law_kind" f9 _ ["_law_n","_law_room_here","_law_sentence_here"]:=⟨mg_of X G a9,k9,F9.binds fun _ _ _ _ _ _ us hl=>(by obtain⟨_,_,_,rfl⟩:=Cy hl;rfl)⟩
 have C10:AL K mg "_law_start" f10 _ ["_law_script","_law_many"]:=⟨mg_of X G a10,k10,F10.binds fun _ _ _ _ _ _ us hl=>(by obtain⟨_,_,rfl⟩:=AV hl;rfl)⟩
 have C11:AL K mg "_law_rule" f11 _ ["_law_script"]:=⟨mg_of X G a11,k11,F11.binds fun _ _ _ _ _ _ us hl=>(by obtain⟨_,rfl⟩:=Ct hl;rfl)⟩
 have C12:AL K mg "_law_outs" f12 _ ["_law_sentence_here","_law_row"]:=⟨mg_of X G a12,k12,F12.binds fun _ _ _ _ _ _ us hl=>(by obtain⟨_,_,rfl⟩:=AV hl;rfl)⟩
 have C13:AL K mg "_law_sides" f13 _ ["_law_room_here","_law_kind_here","_law_sentence_here"]:=⟨mg_of X G a13,k13,F13.binds fun _ _ _ _ _ _ us hl=>(by obtain⟨_,_,_,rfl⟩:=Cy hl;rfl)⟩
 have C14:AL K mg "_law_last" f14 _ ["_law_script","_law_start_here","_law_n"]:=⟨mg_of X G a14,k14,F14.binds fun _ _ _ _ _ _ us hl=>(by obtain⟨_,_,_,rfl⟩:=Cy hl;rfl)⟩
 have C15:AL K mg "_law_asked" f15 _ ["_law_n","_law_fresh","_law_many"]:=⟨mg_of X G a15,k15,F15.binds fun _ _ _ _ _ _ us hl=>(by obtain⟨_,_,_,rfl⟩:=Cy hl;rfl)⟩
 have C16:AL K mg "_law_asks" f16 _ ["_law_script","_law_start_here","_law_many","_law_first"]:=⟨mg_of X G a16,k16,F16.binds fun _ _ _ _ _ _ us hl=>(by obtain⟨_,_,_,_,rfl⟩:=Fy hl;rfl)⟩
 have C17:AL K mg "_law_base" f17 _ ["_law_room_here","_law_sides_here"]:=⟨mg_of X G a17,k17,F17.binds fun _ _ _ _ _ _ us hl=>(by obtain⟨_,_,rfl⟩:=AV hl;rfl)⟩
 have C18:AL K mg "_law_plain" f18 _ ["_law_seen","_law_sentence_here"]:=⟨mg_of X G a18,k18,F18.binds fun _ _ _ _ _ _ us hl=>(by obtain⟨_,_,rfl⟩:=AV hl;rfl)⟩
 have C19:AL K mg "_law_stands" f19 _ ["_law_sides_here","_law_row"]:=⟨mg_of X G a19,k19,F19.binds fun _ _ _ _ _ _ us hl=>(by obtain⟨_,_,rfl⟩:=AV hl;rfl)⟩
 have C20:AL K mg "_law_due" f20 _ ["_law_sides_here","_law_going","_law_seen","_law_sentence_here"]:=⟨mg_of X G a20,k20,F20.binds fun _ _ _ _ _ _ us hl=>(by obtain⟨_,_,_,_,rfl⟩:=Fy hl;rfl)⟩
 have C21:AL K mg "_law_left" f21 _ ["_law_row","_law_sentence_here","_law_said"]:=⟨mg_of X G a21,k21,F21.binds fun _ _ _ _ _ _ us hl=>(by obtain⟨_,_,_,rfl⟩:=Cy hl;rfl)⟩
 have C22:AL K mg "_law_answers" f22 _ ["_law_asks_here","_law_sides_here","_law_held","_law_base_here","_law_rule_here","_law_seen"]:=⟨mg_of X G a22,k22,F22.binds fun _ _ _ _ _ _ us hl=>(by obtain⟨_,_,_,_,_,_,rfl⟩:=P9 hl;rfl)⟩
 have C23:AL K mg "_law_all_marks" f23 _ ["_law_many"]:=⟨mg_of X G a23,k23,F23.binds fun _ _ _ _ _ _ us hl=>(by obtain⟨_,rfl⟩:=Ct hl;rfl)⟩
 have C24:AL K mg "_law_agreeing" f24 _ ["_law_room_here","_law_marks"]:=⟨mg_of X G a24,k24,F24.binds fun _ _ _ _ _ _ us hl=>(by obtain⟨_,_,rfl⟩:=AV hl;rfl)⟩
 have C25:AL K mg "parts_of" f25 _ ["layer"]:=⟨mg_of X G a25,k25,F25.binds fun _ _ _ _ _ _ us hl=>(by obtain⟨_,rfl⟩:=Ct hl;rfl)⟩
 have C26:AL K mg "letters" f26 _ ["sentence"]:=⟨mg_of X G a26,k26,F26.binds fun _ _ _ _ _ _ us hl=>(by obtain⟨_,rfl⟩:=Ct hl;rfl)⟩
 have C27:AL K mg "refuse_strange" f27 _ ["sentence","many"]:=⟨mg_of X G a27,k27,F27.binds fun _ _ _ _ _ _ us hl=>(by obtain⟨_,_,rfl⟩:=AV hl;rfl)⟩
 have C28:AL K mg "steps_of" f28 _ ["sentence"]:=⟨mg_of X G a28,k28,F28.binds fun _ _ _ _ _ _ us hl=>(by obtain⟨_,rfl⟩:=Ct hl;rfl)⟩
 have C29:AL K mg "letter_holds" f29 _ ["letter","world"]:=⟨mg_of X G a29,k29,F29.binds fun _ _ _ _ _ _ us hl=>(by obtain⟨_,_,rfl⟩:=AV hl;rfl)⟩
 have C30:AL K mg "joined" f30 _ ["kind","one","other"]:=⟨mg_of X G a30,k30,F30.binds fun _ _ _ _ _ _ us hl=>(by obtain⟨_,_,_,rfl⟩:=Cy hl;rfl)⟩
 have C31:AL K mg "true_by" f31 _ ["steps","world"]:=⟨mg_of X G a31,k31,F31.binds fun _ _ _ _ _ _ us hl=>(by obtain⟨_,_,rfl⟩:=AV hl;rfl)⟩
 have C32:AL K mg "worlds_of" f32 _ ["sentence","room"]:=⟨mg_of X G a32,k32,F32.binds fun _ _ _ _ _ _ us hl=>(by obtain⟨_,_,rfl⟩:=AV hl;rfl)⟩
 have C33:AL K mg "in_first_only" f33 _ ["one","other"]:=⟨mg_of X G a33,k33,F33.binds fun _ _ _ _ _ _ us hl=>(by obtain⟨_,_,rfl⟩:=AV hl;rfl)⟩
 have C34:AL K mg "sides_of" f34 _ ["room","kind","sentence"]:=⟨mg_of X G a34,k34,F34.binds fun _ _ _ _ _ _ us hl=>(by obtain⟨_,_,_,rfl⟩:=Cy hl;rfl)⟩
 have C35:AL K mg "refuse_row" f35 _ ["row","many"]:=⟨mg_of X G a35,k35,F35.binds fun _ _ _ _ _ _ us hl=>(by obtain⟨_,_,rfl⟩:=AV hl;rfl)⟩
 have C36:AL K mg "checked_sides" f36 _ ["many","room","kind","sentence","row"]:=⟨mg_of X G a36,k36,F36.binds fun _ _ _ _ _ _ us hl=>(by obtain⟨_,_,_,_,_,rfl⟩:=Nz hl;rfl)⟩
 have C37:AL K mg "all_marks" f37 _ ["many"]:=⟨mg_of X G a37,k37,F37.binds fun _ _ _ _ _ _ us hl=>(by obtain⟨_,rfl⟩:=Ct hl;rfl)⟩
 have C38:AL K mg "agrees" f38 _ ["world","marks"]:=⟨mg_of X G a38,k38,F38.binds fun _ _ _ _ _ _ us hl=>(by obtain⟨_,_,rfl⟩:=AV hl;rfl)⟩
 have C39:AL K mg "seen_by" f39 _ ["room","marks"]:=⟨mg_of X G a39,k39,F39.binds fun _ _ _ _ _ _ us hl=>(by obtain⟨_,_,rfl⟩:=AV hl;rfl)⟩
 have C40:AL K mg "in_any" f40 _ ["rows"]:=⟨mg_of X G a40,k40,F40.binds fun _ _ _ _ _ _ us hl=>(by obtain⟨_,rfl⟩:=Ct hl;rfl)⟩
 have C41:AL K mg "base_of" f41 _ ["sides"]:=⟨mg_of X G a41,k41,F41.binds fun _ _ _ _ _ _ us hl=>(by obtain⟨_,rfl⟩:=Ct hl;rfl)⟩
 have C42:AL K mg "all_within" f42 _ ["one","other"]:=⟨mg_of X G a42,k42,F42.binds fun _ _ _ _ _ _ us hl=>(by obtain⟨_,_,rfl⟩:=AV hl;rfl)⟩
 have C43:AL K mg "in_both" f43 _ ["one","other"]:=⟨mg_of X G a43,k43,F43.binds fun _ _ _ _ _ _ us hl=>(by obtain⟨_,_,rfl⟩:=AV hl;rfl)⟩
 have C44:AL K mg "some_within" f44 _ ["one","other"]:=⟨mg_of X G a44,k44,F44.binds fun _ _ _ _ _ _ us hl=>(by obtain⟨_,_,rfl⟩:=AV hl;rfl)⟩
 have C45:AL K mg "plain" f45 _ ["seen","worlds"]:=⟨mg_of X G a45,k45,F45.binds fun _ _ _ _ _ _ us hl=>(by obtain⟨_,_,rfl⟩:=AV hl;rfl)⟩
 have C46:AL K mg "left_by" f46 _ ["word","row","worlds"]:=⟨mg_of X G a46,k46,F46.binds fun _ _ _ _ _ _ us hl=>(by obtain⟨_,_,_,rfl⟩:=Cy hl;rfl)⟩
 have C47:AL K mg "missed_side" f47 _ ["sides","worlds"]:=⟨mg_of X G a47,k47,F47.binds fun _ _ _ _ _ _ us hl=>(by obtain⟨_,_,rfl⟩:=AV hl;rfl)⟩
 have C48:AL K mg "barring_side" f48 _ ["sides","going","seen","worlds"]:=⟨mg_of X G a48,k48,F48.binds fun _ _ _ _ _ _ us hl=>(by obtain⟨_,_,_,_,rfl⟩:=Fy hl;rfl)⟩
 have C49:AL K mg "answer" f49 _ ["sides","going","seen","worlds"]:=⟨mg_of X G a49,k49,F49.binds fun _ _ _ _ _ _ us hl=>(by obtain⟨_,_,_,_,rfl⟩:=Fy hl;rfl)⟩
 have C50:AL K mg "all_due" f50 _ ["rule","sides","seen","answers"]:=⟨mg_of X G a50,k50,F50.binds fun _ _ _ _ _ _ us hl=>(by obtain⟨_,_,_,_,rfl⟩:=Fy hl;rfl)⟩
 have C51:AL K mg "guesses" f51 _ ["many","room","kind","sentence","row"]:=⟨mg_of X G a51,k51,F51.binds fun _ _ _ _ _ _ us hl=>(by obtain⟨_,_,_,_,_,rfl⟩:=Nz hl;rfl)⟩
 have C52:AL K mg "_law_says" f52 _ ["_law_found","_law_due_here"]:=⟨mg_of X G a52,k52,F52.binds fun _ _ _ _ _ _ us hl=>(by obtain⟨_,_,rfl⟩:=AV hl;rfl)⟩
 have C53:AL K mg "_law_marks_are" f53 _ ["_law_found","_law_due_here"]:=⟨mg_of X G a53,k53,F53.binds fun _ _ _ _ _ _ us hl=>(by obtain⟨_,_,rfl⟩:=AV hl;rfl)⟩
 have C54:AL K mg "_law_lists_are" f54 _ ["_law_found","_law_due_here"]:=⟨mg_of X G a54,k54,F54.binds fun _ _ _ _ _ _ us hl=>(by obtain⟨_,_,rfl⟩:=AV hl;rfl)⟩
 have zabs:=mg_none_of X G yabs
 have zlen:=mg_none_of X G ylen
 have zrange:=mg_none_of X G yrange
 have zisinstance:=mg_none_of X G yisinstance
 have zint:=mg_none_of X G yint
 have zbool:=mg_none_of X G ybool
 have zstr:=mg_none_of X G ystr
 have ztuple:=mg_none_of X G ytuple
 have zlist:=mg_none_of X G ylist
 have zset:=mg_none_of X G yset
 have zsorted:=mg_none_of X G ysorted
 have zany:=mg_none_of X G yany
 have zall:=mg_none_of X G yall
 have zValueError:=mg_none_of X G yValueError
 have zenumerate:=mg_none_of X G yenumerate
 have zmin:=mg_none_of X G ymin
 refine⟨fnOf "law" "law" (Ao HD) (Al HD) (Af HD) .none kV55 dc55 pm55 an55 cd55 ct55,fun s v=>.of_eq rfl,fun bz _ _=>?_⟩
 have B:Bl mg:=⟨zabs,zlen,zrange⟩
 have T:ID mg:=⟨zisinstance,zint,zbool,zstr,ztuple,zlist,zset,zsorted,zrange,zany,zall⟩
 have XT:Ra K mg cT:=⟨mg_of X G xTn,xTt,by rw[xTc1];rfl,xTbse,zValueError,zisinstance⟩
 have X_StrangeLetter:JH K mg "StrangeLetter" cS cT:=⟨⟨⟨_,xcd0,nxm0,nxd0⟩,xsa0,xga0,xgn0,xca0,xcg,xct⟩,Fq xl0 xm0 nxs0 xi0 xTl xTm nTs xTi xkp0,mg_of X G xn0,xt0,by rw[xcd0];rfl,xb0,xs0,xu0,JT nuV xv0⟩
 have X_BadWord:JH K mg "BadWord" cB cT:=⟨⟨⟨_,xcd1,nxm1,nxd1⟩,xsa1,xga1,xgn1,xca1,xcg,xct⟩,Fq xl1 xm1 nxs1 xi1 xTl xTm nTs xTi xkp1,mg_of X G xn1,xt1,by rw[xcd1];rfl,xb1,xs1,xu1,JT nuV xv1⟩
 have X_NoStanding:JH K mg "NoStanding" cN cT:=⟨⟨⟨_,xcd2,nxm2,nxd2⟩,xsa2,xga2,xgn2,xca2,xcg,xct⟩,Fq xl2 xm2 nxs2 xi2 xTl xTm nTs xTi xkp2,mg_of X G xn2,xt2,by rw[xcd2];rfl,xb2,xs2,xu2,JT nuV xv2⟩
 have A_StrangeLetter_BadWord:Qj K cS cB:=⟨xr0_1,EB nq0_1 (by rw[xcd1];rfl) xt1 xp0_1⟩
 have A_StrangeLetter_NoStanding:Qj K cS cN:=⟨xr0_2,EB nq0_2 (by rw[xcd2];rfl) xt2 xp0_2⟩
 have A_BadWord_StrangeLetter:Qj K cB cS:=⟨xr1_0,EB nq1_0 (by rw[xcd0];rfl) xt0 xp1_0⟩
 have A_BadWord_NoStanding:Qj K cB cN:=⟨xr1_2,EB nq1_2 (by rw[xcd2];rfl) xt2 xp1_2⟩
 have A_NoStanding_StrangeLetter:Qj K cN cS:=⟨xr2_0,EB nq2_0 (by rw[xcd0];rfl) xt0 xp2_0⟩
 have A_NoStanding_BadWord:Qj K cN cB:=⟨xr2_1,EB nq2_1 (by rw[xcd1];rfl) xt1 xp2_1⟩
 have G1:=OK (P:=l.prog) (w:=w) (mg:=mg) (bz:=bz) F1 B
 have G2:=Ov (P:=l.prog) (w:=w) (mg:=mg) (bz:=bz) F2 B
 have G3:=J3 (P:=l.prog) (w:=w) (mg:=mg) (bz:=bz) F3 T
 have G4:=NJ (P:=l.prog) (w:=w) (mg:=mg) (bz:=bz) F4
 have G5:=Jj (P:=l.prog) (w:=w) (mg:=mg) (bz:=bz) F5 B G4 C4
 have G6:=Mz (P:=l.prog) (w:=w) (mg:=mg) (bz:=bz) F6 G3 C3 G5 C5
 have G7:=GQ (P:=l.prog) (w:=w) (mg:=mg) (bz:=bz) F7 C7 23
 have G8:=OV (P:=l.prog) (w:=w) (mg:=mg) (bz:=bz) F8 G7 C7
 have G9:=MN (P:=l.prog) (w:=w) (mg:=mg) (bz:=bz) F9 B G8 C8
 have G10:=LP (P:=l.prog) (w:=w) (mg:=mg) (bz:=bz) F10 (Jt G1) C1 G2 C2 (G6.mono (by decide)) C6 (G9.mono (by decide)) C9
 have G11:=Nv (P:=l.prog) (w:=w) (mg:=mg) (bz:=bz) F11 (Jt G1) C1
 have G12:=Nf (P:=l.prog) (w:=w) (mg:=mg) (bz:=bz) F12 G7 C7
 have G13:=LH (P:=l.prog) (w:=w) (mg:=mg) (bz:=bz) F13 G8 C8 G12 C12
 have G14:=M6 (P:=l.prog) (w:=w) (mg:=mg) (bz:=bz) F14 B
 have G15:=Lg (P:=l.prog) (w:=w) (mg:=mg) (bz:=bz) F15 B G2 C2
 have G16:=Nd (P:=l.prog) (w:=w) (mg:=mg) (bz:=bz) F16 B zmin G1 C1 G14 C14 G15 C15
 have G17:=Mp (P:=l.prog) (w:=w) (mg:=mg) (bz:=bz) F17 T
 have G18:=Lo (P:=l.prog) (w:=w) (mg:=mg) (bz:=bz) F18 T G7 C7
 have G19:=JS (P:=l.prog) (w:=w) (mg:=mg) (bz:=bz) F19 T
 have G20:=Ow (P:=l.prog) (w:=w) (mg:=mg) (bz:=bz) F20 G8 C8 G12 C12 G18 C18 G19 C19
 have G21:=Nx (P:=l.prog) (w:=w) (mg:=mg) (bz:=bz) F21 T G8 C8 G12 C12
 have G22:=Jn (P:=l.prog) (w:=w) (mg:=mg) (bz:=bz) F22 G20 C20 G21 C21
 have G23:=Mu (P:=l.prog) (w:=w) (mg:=mg) (bz:=bz) F23 B
 have G24:=JM (P:=l.prog) (w:=w) (mg:=mg) (bz:=bz) F24 T B
 have G25:=Mw (P:=l.prog) (w:=w) (mg:=mg) (bz:=bz) F25
 have G26:=JV (P:=l.prog) (w:=w) (mg:=mg) (bz:=bz) F26 T G25 C25
 have G27:=Lx (P:=l.prog) (w:=w) (mg:=mg) (bz:=bz) F27 X_StrangeLetter G26 C26
 have G28:=MG (P:=l.prog) (w:=w) (mg:=mg) (bz:=bz) F28 G25 C25
 have G29:=Mg (P:=l.prog) (w:=w) (mg:=mg) (bz:=bz) F29
 have G30:=K7 (P:=l.prog) (w:=w) (mg:=mg) (bz:=bz) F30
 have G31:=LA (P:=l.prog) (w:=w) (mg:=mg) (bz:=bz) F31 G29 C29 G30 C30
 have G32:=IZ (P:=l.prog) (w:=w) (mg:=mg) (bz:=bz) F32 G28 C28 G31 C31
 have G33:=Nn (P:=l.prog) (w:=w) (mg:=mg) (bz:=bz) F33 T
 have G34:=JP (P:=l.prog) (w:=w) (mg:=mg) (bz:=bz) F34 X_BadWord X_NoStanding G32 C32 G33 C33
 have G35:=Lc (P:=l.prog) (w:=w) (mg:=mg) (bz:=bz) F35 X_BadWord G27 C27
 have G36:=J1 (P:=l.prog) (w:=w) (mg:=mg) (bz:=bz) F36 G27 C27 G34 C34 G35 C35
 have G37:=IV (P:=l.prog) (w:=w) (mg:=mg) (bz:=bz) F37 B
 have G38:=Lm (P:=l.prog) (w:=w) (mg:=mg) (bz:=bz) F38 T zenumerate G29 C29
 have G39:=LF (P:=l.prog) (w:=w) (mg:=mg) (bz:=bz) F39 G38 C38
 have G40:=PD (P:=l.prog) (w:=w) (mg:=mg) (bz:=bz) F40 T
 have G41:=Lb (P:=l.prog) (w:=w) (mg:=mg) (bz:=bz) F41 G40 C40
 have G42:=NP (P:=l.prog) (w:=w) (mg:=mg) (bz:=bz) F42 B G33 C33
 have G43:=Op (P:=l.prog) (w:=w) (mg:=mg) (bz:=bz) F43 T
 have G44:=MZ (P:=l.prog) (w:=w) (mg:=mg) (bz:=bz) F44 B G43 C43
 have G45:=M7 (P:=l.prog) (w:=w) (mg:=mg) (bz:=bz) F45 G42 C42 G44 C44
 have G46:=LV (P:=l.prog) (w:=w) (mg:=mg) (bz:=bz) F46 T G43 C43 G33 C33
 have G47:=LL (P:=l.prog) (w:=w) (mg:=mg) (bz:=bz) F47 zenumerate G44 C44
 have G48:=JU (P:=l.prog) (w:=w) (mg:=mg) (bz:=bz) F48 G45 C45 G46 C46 G47 C47
 have G49:=Ll (P:=l.prog) (w:=w) (mg:=mg) (bz:=bz) F49 G42 C42 G44 C44 G45 C45 G48 C48
 have G50:=LO (P:=l.prog) (w:=w) (mg:=mg) (bz:=bz) F50 G41 C41 G49 C49 G46 C46
 have G51:=Kf (P:=l.prog) (w:=w) (mg:=mg) (bz:=bz) F51 G36 C36 G32 C32 G37 C37 G39 C39 G50 C50
 have G52:=ME (P:=l.prog) (w:=w) (mg:=mg) (bz:=bz) F52 T
 have G53:=JQ (P:=l.prog) (w:=w) (mg:=mg) (bz:=bz) F53 T B
 have G54:=LT (P:=l.prog) (w:=w) (mg:=mg) (bz:=bz) F54 T B G52 C52 G53 C53
 exact Pq FLAW B T zmin (G1.mono (by decide)) C1 (G10.mono (by decide)) C10 (G11.mono (by decide)) C11 (G13.mono (by decide)) C13 (G16.mono (by decide)) C16 (G17.mono (by decide)) C17 (G22.mono (by decide)) C22 (G23.mono (by decide)) C23 (G24.mono (by decide)) C24 (G51.mono (by decide)) C51 (G54.mono (by decide)) C54
theorem walk {l:PySem.W.OpenLaw} {q:Program} {loose:List Str} {XP:(Str→Option Value)→Heap→Prop} {YP:World→Heap→Prop} {d:DefRec} {K:Params→PySem.W.Frag} (hn:l.most=some 63) (hdf:d.params.defaults=[])
  (hY:∀(w:World) (h:Heap),YP w h→(K w.params).In h)
  (F:∀(w:World) (mg:Str→Option Value) (fa:Addr) (h:Heap),(K w.params).In h→h.Ns mainGlobals mg→mg d.name=some (.ref fa)→
   ∃fd:FuncData,(∀(s:Shared) (u:Value),BindsTo s fd ⟨[u],[]⟩ [("_law_script",u)])∧∀bz:Heap,(K w.params).In bz→bz.Ns mainGlobals mg→FnOk l.prog w (K w.params) mg bz AO 27 fa fd ["_law_script"] (KW (K w.params))) :
  PySem.W.WalkO q loose XP YP l.row.toRowW d [] (fun f vs=>PySem.call f vs):=
 L2.walk_of (n:=63) (k:=27) (x:="_law_script") (CX:=fun _=>AO) (sp:=fun w=>KW (K w.params)) hn (by decide) hdf ⟨rfl,by decide,by decide⟩ hY F (fun _ _ a ns hl _ hS=>⟨a,ns,rfl,hS,hl,fun _=>rfl⟩) fun _ _ _ _ _ z=>z
end Toy
namespace PySem.W.Fast
def tw9730949158175712206:=0
def tw15124572503092186263:=0
def tw3720498562796149530:=0
def tw7617262008103001273:=0
def tw2843200039775140131:=0
def tw17732547323869232418:=0
def tw6001300920544962174:=0
def tw14052101000614714222:=0
def tw3620125072941684584:=0
def tw1460174645416035390:=0
def tw14253663059365828520:=0
def tw18389024991948306808:=0
def tw3495656428063091916:=0
def tw4815412581660719106:=0
def tw1626920391439538517:=0
def tw16393356841753218586:=0
def tw15813985463684657789:=0
def tw7882743048579439831:=0
def tw10549004321136028673:=0
def tw7474119492101320169:=0
def tw1867421141958220136:=0
def tw962201603152497703:=0
def tw12140202410075407248:=0
def tw15578292359782206995:=0
def tw10020904280342068852:=0
def tw10677254014750825173:=0
def tw8835688556277609774:=0
def tw6826407479158215246:=0
def tw17364714449263523456:=0
def tw15100210261150894472:=0
def tw17194719047788313230:=0
def tw315040295006777200:=0
def tw7192660308570280191:=0
def tw1601429017490065754:=0
def tw1352939738313748433:=0
def tw8694880025899903172:=0
def tw10674875691997352740:=0
def tw2462473912788631003:=0
def tw17521752262555500770:=0
def tw14087344199802663009:=0
def tw13940297606286838696:=0
def tw230710226004237030:=0
def tw14677708156656990189:=0
def tw2973891805704546956:=0
def tw837780433580943837:=0
def tw8443268952315954484:=0
def tw5623299408329572783:=0
def tw15497683786220803860:=0
def tw4646690020049178328:=0
def tw4798140687739050219:=0
def tw9241305916628732156:=0
def tw11279595923260337663:=0
def tw1420484994407057937:=0
def tw17253111454370383333:=0
def tw7149568569137997397:=0
def tw7211923248986634220:=0
def tw3553379809857241806:=0
def tw5987678216865848924:=0
def tw1285669351801645430:=0
def tw8983214802941274425:=0
def tw14197664308333231161:=0
def tw16388190049887731271:=0
def tw9728052618963224925:=0
def tw9487775977369786797:=0
def tw6467209365788876811:=0
def tw7031455584306980447:=0
def tw13974908093045276778:=0
def tw8319170080965322752:=0
def tw7640810936156910752:=0
def tw3773057690645108719:=0
def tw16711562007644379785:=0
def tw5101113737934211918:=0
def tw12538434043944580782:=0
def tw16031943513788136669:=0
def tw8423697697392748279:=0
def tw580309912812230030:=0
def tw4370521889870718397:=0
def tw8644752423220935121:=0
def tw15425161807784330673:=0
def tw11060388273411149264:=0
def tw11177044194885200843:=0
def tw16731744744983142974:=0
def tw8177578243106258927:=0
def tw1407175878900309774:=0
def tw2879333444703328472:=0
def tw199531149666365460:=0
def tw4275854982766418556:=0
def tw15475860169463210885:=0
def tw1141271684340269289:=0
def tw16804294815217781997:=0
def tw11910099951612490472:=0
def tw2918381073831570361:=0
def tw5445584392564188615:=0
def tw15975688494004338168:=0
def tw17806883384320613520:=0
def tw9614654556448810511:=0
def tw12787834854943684019:=0
def tw11947096179219507449:=0
def tw5227737832843571610:=0
def tw8331973657903896877:=0
def tw5637424162314213930:=0
def tw3069788443712970041:=0
def tw10276057066380812433:=0
def tw734204001525858068:=0
def tw17969424265988090299:=0
def tw12023595720194705909:=0
def tw1308824990654046202:=0
def tw7145328392455609442:=0
def tw3613184817815161905:=0
def tw13573174941283387003:=0
def tw17034105471390384438:=0
def tw6199198236864334437:=0
def tw1235503560037264936:=0
def tw6952438964140458728:=0
def tw10945893505824496826:=0
def tw16213349924777607090:=0
def tw12082757794844919511:=0
def tw11578797542111826781:=0
def tw11984445540626740547:=0
def tw1684904101368028963:=0
def tw11756061550164713740:=0
def tw1713339274024113553:=0
def tw15165281265791791070:=0
def tw17637241765774806508:=0
def tw7768430937646984725:=0
def tw1724472050703842373:=0
def tw18043589453757252421:=0
def tw10641101814264977019:=0
def tw4579410981932665045:=0
def tw17009505957021476058:=0
def tw4031368735457611676:=0
def tw8558292292779779210:=0
def tw11520036595129166471:=0
def tw6089235557374286818:=0
def tw937774985186462350:=0
def tw1194682046881405409:=0
def tw9719810300290075834:=0
def tw12272339329664537988:=0
def tw5845791525131861648:=0
def tw14443875406908785015:=0
def tw4972600244282635265:=0
def tw2328154619279347313:=0
def tw5569523857298322388:=0
def tw4207260720620753197:=0
def tw11373204128982725172:=0
def tw8590869216541861481:=0
def tw6209177457988328113:=0
def tw12690885592191187329:=0
def tw8931655704702499906:=0
def tw12912539588547782481:=0
def tw3638904817919530910:=0
def tw5535940774806310021:=0
def tw4189517034723775025:=0
def tw15309289188500053092:=0
def tw5622348720070175251:=0
def tw10945904027471116774:=0
def tw12071936250771954293:=0
def tw89241458907262560:=0
def tw9489401914696970230:=0
end PySem.W.Fast
open PySem PySem.W PyProof.Rows
set_option maxRecDepth 100000 in
set_option maxHeartbeats 0 in
theorem PySem.Challenge.cw_holdtalk_k36_whole_who_it_may_have_been_holds : PySem.Challenge.rw_holdtalk_k36_whole_who_it_may_have_been.Holds := by
 w_on;o_law;k_head;(case hw=>w_witness2)
 k_fill
 refine Toy.walk (l:=PySem.Challenge.rw_holdtalk_k36_whole_who_it_may_have_been) rfl rfl (fun w h Y=>PySem.W.kIn_of Y) ?F
 case F=>
  intro w mg fa h KX G hmg
  refine' Toy.all_mk KX G hmg ?a1 ?l1 ?c1 ?k1 ?a2 ?l2 ?c2 ?k2 ?a3 ?l3 ?c3 ?k3 ?a4 ?l4 ?c4 ?k4 ?a5 ?l5 ?c5 ?k5 ?a6 ?l6 ?c6 ?k6 ?a7 ?l7 ?c7 ?k7 ?a8 ?l8 ?c8 ?k8 ?a9 ?l9 ?c9 ?k9 ?a10 ?l10 ?c10 ?k10 ?a11 ?l11 ?c11 ?k11 ?a12 ?l12 ?c12 ?k12 ?a13 ?l13 ?c13 ?k13 ?a14 ?l14 ?c14 ?k14 ?a15 ?l15 ?c15 ?k15 ?a16 ?l16 ?c16 ?k16 ?a17 ?l17 ?c17 ?k17 ?a18 ?l18 ?c18 ?k18 ?a19 ?l19 ?c19 ?k19 ?a20 ?l20 ?c20 ?k20 ?a21 ?l21 ?c21 ?k21 ?a22 ?l22 ?c22 ?k22 ?a23 ?l23 ?c23 ?k23 ?a24 ?l24 ?c24 ?k24 ?a25 ?l25 ?c25 ?k25 ?a26 ?l26 ?c26 ?k26 ?a27 ?l27 ?c27 ?k27 ?a28 ?l28 ?c28 ?k28 ?a29 ?l29 ?c29 ?k29 ?a30 ?l30 ?c30 ?k30 ?a31 ?l31 ?c31 ?k31 ?a32 ?l32 ?c32 ?k32 ?a33 ?l33 ?c33 ?k33 ?a34 ?l34 ?c34 ?k34 ?a35 ?l35 ?c35 ?k35 ?a36 ?l36 ?c36 ?k36 ?a37 ?l37 ?c37 ?k37 ?a38 ?l38 ?c38 ?k38 ?a39 ?l39 ?c39 ?k39 ?a40 ?l40 ?c40 ?k40 ?a41 ?l41 ?c41 ?k41 ?a42 ?l42 ?c42 ?k42 ?a43 ?l43 ?c43 ?k43 ?a44 ?l44 ?c44 ?k44 ?a45 ?l45 ?c45 ?k45 ?a46 ?l46 ?c46 ?k46 ?a47 ?l47 ?c47 ?k47 ?a48 ?l48 ?c48 ?k48 ?a49 ?l49 ?c49 ?k49 ?a50 ?l50 ?c50 ?k50 ?a51 ?l51 ?c51 ?k51 ?a52 ?l52 ?c52 ?k52 ?a53 ?l53 ?c53 ?k53 ?a54 ?l54 ?c54 ?k54 ?a55 ?l55 ?c55 ?k55 ?yabs ?ylen ?yrange ?yisinstance ?yint ?ybool ?ystr ?ytuple ?ylist ?yset ?ysorted ?yany ?yall ?yValueError ?yenumerate ?ymin ?xTn ?xTl ?xTm ?nTs ?xTi ?xTc1 ?xTt ?xTbse ?nuV ?xcg ?xct ?xn0 ?xl0 ?xm0 ?nxs0 ?xi0 ?xkp0 ?xcd0 ?nxm0 ?nxd0 ?xsa0 ?xga0 ?xgn0 ?xca0 ?xt0 ?xb0 ?xs0 ?xu0 ?xv0 ?xn1 ?xl1 ?xm1 ?nxs1 ?xi1 ?xkp1 ?xcd1 ?nxm1 ?nxd1 ?xsa1 ?xga1 ?xgn1 ?xca1 ?xt1 ?xb1 ?xs1 ?xu1 ?xv1 ?xn2 ?xl2 ?xm2 ?nxs2 ?xi2 ?xkp2 ?xcd2 ?nxm2 ?nxd2 ?xsa2 ?xga2 ?xgn2 ?xca2 ?xt2 ?xb2 ?xs2 ?xu2 ?xv2 ?xp0_1 ?nq0_1 ?xr0_1 ?xp0_2 ?nq0_2 ?xr0_2 ?xp1_0 ?nq1_0 ?xr1_0 ?xp1_2 ?nq1_2 ?xr1_2 ?xp2_0 ?nq2_0 ?xr2_0 ?xp2_1 ?nq2_1 ?xr2_1
  (case a1=>k_is)
  (case l1=>k_is)
  (case c1=>k_is)
  (case k1=>k_is)
  (case a2=>k_is)
  (case l2=>k_is)
  (case c2=>k_is)
  (case k2=>k_is)
  (case a3=>k_is)
  (case l3=>k_is)
  (case c3=>k_is)
  (case k3=>k_is)
  (case a4=>k_is)
  (case l4=>k_is)
  (case c4=>k_is)
  (case k4=>k_is)
  (case a5=>k_is)
  (case l5=>k_is)
  (case c5=>k_is)
  (case k5=>k_is)
  (case a6=>k_is)
  (case l6=>k_is)
  (case c6=>k_is)
  (case k6=>k_is)
  (case a7=>k_is)
  (case l7=>k_is)
  (case c7=>k_is)
  (case k7=>k_is)
  (case a8=>k_is)
  (case l8=>k_is)
  (case c8=>k_is)
  (case k8=>k_is)
  (case a9=>k_is)
  (case l9=>k_is)
  (case c9=>k_is)
  (case k9=>k_is)
  (case a10=>k_is)
  (case l10=>k_is)
  (case c10=>k_is)
  (case k10=>k_is)
  (case a11=>k_is)
  (case l11=>k_is)
  (case c11=>k_is)
  (case k11=>k_is)
  (case a12=>k_is)
  (case l12=>k_is)
  (case c12=>k_is)
  (case k12=>k_is)
  (case a13=>k_is)
  (case l13=>k_is)
  (case c13=>k_is)
  (case k13=>k_is)
  (case a14=>k_is)
  (case l14=>k_is)
  (case c14=>k_is)
  (case k14=>k_is)
  (case a15=>k_is)
  (case l15=>k_is)
  (case c15=>k_is)
  (case k15=>k_is)
  (case a16=>k_is)
  (case l16=>k_is)
  (case c16=>k_is)
  (case k16=>k_is)
  (case a17=>k_is)
  (case l17=>k_is)
  (case c17=>k_is)
  (case k17=>k_is)
  (case a18=>k_is)
  (case l18=>k_is)
  (case c18=>k_is)
  (case k18=>k_is)
  (case a19=>k_is)
  (case l19=>k_is)
  (case c19=>k_is)
  (case k19=>k_is)
  (case a20=>k_is)
  (case l20=>k_is)
  (case c20=>k_is)
  (case k20=>k_is)
  (case a21=>k_is)
  (case l21=>k_is)
  (case c21=>k_is)
  (case k21=>k_is)
  (case a22=>k_is)
  (case l22=>k_is)
  (case c22=>k_is)
  (case k22=>k_is)
  (case a23=>k_is)
  (case l23=>k_is)
  (case c23=>k_is)
  (case k23=>k_is)
  (case a24=>k_is)
  (case l24=>k_is)
  (case c24=>k_is)
  (case k24=>k_is)
  (case a25=>k_is)
  (case l25=>k_is)
  (case c25=>k_is)
  (case k25=>k_is)
  (case a26=>k_is)
  (case l26=>k_is)
  (case c26=>k_is)
  (case k26=>k_is)
  (case a27=>k_is)
  (case l27=>k_is)
  (case c27=>k_is)
  (case k27=>k_is)
  (case a28=>k_is)
  (case l28=>k_is)
  (case c28=>k_is)
  (case k28=>k_is)
  (case a29=>k_is)
  (case l29=>k_is)
  (case c29=>k_is)
  (case k29=>k_is)
  (case a30=>k_is)
  (case l30=>k_is)
  (case c30=>k_is)
  (case k30=>k_is)
  (case a31=>k_is)
  (case l31=>k_is)
  (case c31=>k_is)
  (case k31=>k_is)
  (case a32=>k_is)
  (case l32=>k_is)
  (case c32=>k_is)
  (case k32=>k_is)
  (case a33=>k_is)
  (case l33=>k_is)
  (case c33=>k_is)
  (case k33=>k_is)
  (case a34=>k_is)
  (case l34=>k_is)
  (case c34=>k_is)
  (case k34=>k_is)
  (case a35=>k_is)
  (case l35=>k_is)
  (case c35=>k_is)
  (case k35=>k_is)
  (case a36=>k_is)
  (case l36=>k_is)
  (case c36=>k_is)
  (case k36=>k_is)
  (case a37=>k_is)
  (case l37=>k_is)
  (case c37=>k_is)
  (case k37=>k_is)
  (case a38=>k_is)
  (case l38=>k_is)
  (case c38=>k_is)
  (case k38=>k_is)
  (case a39=>k_is)
  (case l39=>k_is)
  (case c39=>k_is)
  (case k39=>k_is)
  (case a40=>k_is)
  (case l40=>k_is)
  (case c40=>k_is)
  (case k40=>k_is)
  (case a41=>k_is)
  (case l41=>k_is)
  (case c41=>k_is)
  (case k41=>k_is)
  (case a42=>k_is)
  (case l42=>k_is)
  (case c42=>k_is)
  (case k42=>k_is)
  (case a43=>k_is)
  (case l43=>k_is)
  (case c43=>k_is)
  (case k43=>k_is)
  (case a44=>k_is)
  (case l44=>k_is)
  (case c44=>k_is)
  (case k44=>k_is)
  (case a45=>k_is)
  (case l45=>k_is)
  (case c45=>k_is)
  (case k45=>k_is)
  (case a46=>k_is)
  (case l46=>k_is)
  (case c46=>k_is)
  (case k46=>k_is)
  (case a47=>k_is)
  (case l47=>k_is)
  (case c47=>k_is)
  (case k47=>k_is)
  (case a48=>k_is)
  (case l48=>k_is)
  (case c48=>k_is)
  (case k48=>k_is)
  (case a49=>k_is)
  (case l49=>k_is)
  (case c49=>k_is)
  (case k49=>k_is)
  (case a50=>k_is)
  (case l50=>k_is)
  (case c50=>k_is)
  (case k50=>k_is)
  (case a51=>k_is)
  (case l51=>k_is)
  (case c51=>k_is)
  (case k51=>k_is)
  (case a52=>k_is)
  (case l52=>k_is)
  (case c52=>k_is)
  (case k52=>k_is)
  (case a53=>k_is)
  (case l53=>k_is)
  (case c53=>k_is)
  (case k53=>k_is)
  (case a54=>k_is)
  (case l54=>k_is)
  (case c54=>k_is)
  (case k54=>k_is)
  (case a55=>k_is)
  (case l55=>k_is)
  (case c55=>k_is)
  (case k55=>k_is)
  (case yabs=>k_is)
  (case ylen=>k_is)
  (case yrange=>k_is)
  (case yisinstance=>k_is)
  (case yint=>k_is)
  (case ybool=>k_is)
  (case ystr=>k_is)
  (case ytuple=>k_is)
  (case ylist=>k_is)
  (case yset=>k_is)
  (case ysorted=>k_is)
  (case yany=>k_is)
  (case yall=>k_is)
  (case yValueError=>k_is)
  (case yenumerate=>k_is)
  (case ymin=>k_is)
  (case xTn=>k_is)
  (case xTl=>k_is)
  (case xTm=>k_is)
  (case nTs=>first | k_is | rfl | decide | simp)
  (case xTi=>k_is)
  (case xTc1=>k_is)
  (case xTt=>k_is)
  (case xTbse=>k_is)
  (case nuV=>first | k_is | rfl | decide | simp)
  (case xcg=>k_is)
  (case xct=>k_is)
  (case xn0=>k_is)
  (case xl0=>k_is)
  (case xm0=>k_is)
  (case nxs0=>first | k_is | rfl | decide | simp)
  (case xi0=>k_is)
  (case xkp0=>k_is)
  (case xcd0=>k_is)
  (case nxm0=>first | k_is | rfl | decide | simp)
  (case nxd0=>first | k_is | rfl | decide | simp)
  (case xsa0=>k_is)
  (case xga0=>k_is)
  (case xgn0=>k_is)
  (case xca0=>k_is)
  (case xt0=>k_is)
  (case xb0=>k_is)
  (case xs0=>k_is)
  (case xu0=>k_is)
  (case xv0=>k_is)
  (case xn1=>k_is)
  (case xl1=>k_is)
  (case xm1=>k_is)
  (case nxs1=>first | k_is | rfl | decide | simp)
  (case xi1=>k_is)
  (case xkp1=>k_is)
  (case xcd1=>k_is)
  (case nxm1=>first | k_is | rfl | decide | simp)
  (case nxd1=>first | k_is | rfl | decide | simp)
  (case xsa1=>k_is)
  (case xga1=>k_is)
  (case xgn1=>k_is)
  (case xca1=>k_is)
  (case xt1=>k_is)
  (case xb1=>k_is)
  (case xs1=>k_is)
  (case xu1=>k_is)
  (case xv1=>k_is)
  (case xn2=>k_is)
  (case xl2=>k_is)
  (case xm2=>k_is)
  (case nxs2=>first | k_is | rfl | decide | simp)
  (case xi2=>k_is)
  (case xkp2=>k_is)
  (case xcd2=>k_is)
  (case nxm2=>first | k_is | rfl | decide | simp)
  (case nxd2=>first | k_is | rfl | decide | simp)
  (case xsa2=>k_is)
  (case xga2=>k_is)
  (case xgn2=>k_is)
  (case xca2=>k_is)
  (case xt2=>k_is)
  (case xb2=>k_is)
  (case xs2=>k_is)
  (case xu2=>k_is)
  (case xv2=>k_is)
  (case xp0_1=>k_is)
  (case nq0_1=>first | k_is | rfl | decide | simp)
  (case xr0_1=>k_is)
  (case xp0_2=>k_is)
  (case nq0_2=>first | k_is | rfl | decide | simp)
  (case xr0_2=>k_is)
  (case xp1_0=>k_is)
  (case nq1_0=>first | k_is | rfl | decide | simp)
  (case xr1_0=>k_is)
  (case xp1_2=>k_is)
  (case nq1_2=>first | k_is | rfl | decide | simp)
  (case xr1_2=>k_is)
  (case xp2_0=>k_is)
  (case nq2_0=>first | k_is | rfl | decide | simp)
  (case xr2_0=>k_is)
  (case xp2_1=>k_is)
  (case nq2_1=>first | k_is | rfl | decide | simp)
  (case xr2_1=>k_is)
