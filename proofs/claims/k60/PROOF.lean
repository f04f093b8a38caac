import PyProof.Rows.All
import Wide.All
import OpenK.AllK
import Wide.FinOn
import Lean
import PyProof.EqAt
import PyProof.EqKinds
import PyProof.TupleCall
import PyProof.NeKinds
import PyProof.EnumMake
import PyProof.EnumStmt
import PyProof.Draws
import PyProof.WalksT
import PyProof.StrWalks
import PyProof.Rows.EnumRows
import PyProof.StrLawsIdx
import PyProof.StrBlockI
import PyProof.StationsW
import PyProof.ExcInit
import PyProof.ExcBaseAll.ValueError
import PyProof.ExcAttrAll.ValueError
import PyProof.Rows.CatchOwn
import PyProof.CompUse
import PyProof.CompFree
import PyProof.SetKind
import PyProof.SetScanFacts
import PyProof.SetRoads
import PyProof.SetNew
import PyProof.Rows.SetFrom
import PyProof.CollectWalk
import PyProof.Rows.SortShell
import PyProof.Cells
import PyProof.ListRange
import PyProof.ConsumeWalk
import PyProof.Tail
import PyProof.CallStr
import PyProof.AutoSeq1
import PyProof.SeqRoads2
import PyProof.FactsAll.bool_1
import PyProof.FactsAll.NoneType_1
import PyProof.FactsAll.range_1
import PyProof.DictRoads
import PyProof.DictStraight
import PyProof.MeetsDictList
import PyProof.FactsAll.dict_3
import KE.KDictList
import PyProof.DictDisplay
import KE.KDictOf
import PyProof.NsDelKeeps
import PyProof.CallType
import PyProof.Conv_int
import PyProof.FactsAll.dict_0
import PyProof.FactsAll.dict_3
import PyProof.FactsAll.enumerate_1
import PyProof.FactsAll.object_1
import PyProof.FactsAll.str_7
import PyProof.MeetsDict
import PyProof.MeetsStr
import PyProof.MeetsStr2
import PyProof.Rows.CallKw2
import PyProof.StrBlockL
import PyProof.EnumIter
import PyProof.MakeMany
import PyProof.ForAny
import KE.KIntText
import KE.IntText
import PyProof.RangeIter
import PyProof.TableTree
import PySem.Challenge.RW_holdtalk_k60_refusals_apart
set_option Elab.async false
set_option linter.all false
set_option maxRecDepth 100000
namespace L2
open PySem PySem.Spec PyProof.Rows
abbrev DT:=Sum Int Str
def Lo:DT→Value→Bool
 | .inl k,v=>Value.isInt k v
 | .inr x,v=>Value.isStrOf x v
def UG (w:World):DT→Int
 | .inl k=>hashInt k
 | .inr x=>hashStr w x
theorem AT:∀{k:DT} {v:Value},Lo k v=true→(∃i t,k=Sum.inl i∧v=Value.int i t)∨(∃x t,k=Sum.inr x∧v=Value.str x t)
 | .inl i,v,h=>by
  obtain⟨t,e⟩:=Value.isInt_shape (k:=i) (v:=v) h
  exact .inl ⟨i,t,rfl,e⟩
 | .inr x,v,h=>by
  obtain⟨t,e⟩:=Value.isStrOf_shape (x:=x) (v:=v) h
  exact .inr ⟨x,t,rfl,e⟩
theorem MG (x:Str) (t:Tok):Lo (.inr x) (.str x t)=true:=by simp[Lo,Value.isStrOf]
theorem Sf (a b:Int):decide ((Sum.inl a:DT)=Sum.inl b)=(a == b):=by
 by_cases e:a=b
 ·subst e;simp
 ·have h:¬(Sum.inl a:DT)=Sum.inl b:=fun q=>e (Sum.inl.inj q)
  rw[decide_eq_false h]
  exact (beq_eq_false_iff_ne.mpr e).symm
theorem Sj (a b:Str):decide ((Sum.inr a:DT)=Sum.inr b)=decide (a=b):=by
 by_cases e:a=b
 ·subst e;simp
 ·have h:¬(Sum.inr a:DT)=Sum.inr b:=fun q=>e (Sum.inr.inj q)
  rw[decide_eq_false h,decide_eq_false e]
theorem Sb (a:Int) (b:Str):decide ((Sum.inl a:DT)=Sum.inr b)=false:=decide_eq_false (fun q=>nomatch q)
theorem RQ (a:Str) (b:Int):decide ((Sum.inr a:DT)=Sum.inl b)=false:=decide_eq_false (fun q=>nomatch q)
def CY (prog:Program) (w:World):PySem.KeyKind prog w DT where
 is:=Lo
 hash:=UG w
 inj:=fun v a b ha hb=>by
  rcases AT ha with⟨i,t,rfl,rfl⟩|⟨x,t,rfl,rfl⟩
  ·rcases AT hb with⟨j,u,rfl,e⟩|⟨y,u,rfl,e⟩
   ·injection e with e1 _;rw[e1]
   ·exact nomatch e
  ·rcases AT hb with⟨j,u,rfl,e⟩|⟨y,u,rfl,e⟩
   ·exact nomatch e
   ·injection e with e1 _;rw[e1]
 byValue:=fun k v h=>by
  rcases AT h with⟨i,t,rfl,rfl⟩|⟨x,t,rfl,rfl⟩<;>rfl
 pyHash:=fun hv h=>by
  rcases AT hv with⟨i,t,rfl,rfl⟩|⟨x,t,rfl,rfl⟩
  ·exact wpAny_pyHash_int h
  ·exact wpAny_pyHash_str h
 eqBool:=fun hu hv h=>by
  rcases AT hu with⟨i,t,rfl,rfl⟩|⟨x,t,rfl,rfl⟩
  ·rcases AT hv with⟨j,u,rfl,rfl⟩|⟨y,u,rfl,rfl⟩
   ·rw[Sf] at h;exact wpAny_eqBool_int h
   ·rw[Sb] at h;exact SeqAt.EqAt.int_str i t y u _ _ _ _ h
  ·rcases AT hv with⟨j,u,rfl,rfl⟩|⟨y,u,rfl,rfl⟩
   ·rw[RQ] at h;exact SeqAt.EqAt.str_int x t j u _ _ _ _ h
   ·rw[Sj] at h;exact wpAny_eqBool_str h
 «strs»:=fun k x t v h=>by
  rcases AT h with⟨i,u,rfl,e⟩|⟨y,u,rfl,e⟩
  ·exact nomatch e
  ·injection e with e1 _
   subst e1
   cases v<;>rfl
theorem BU (prog:Program) (w:World) (x:Str) (t:Tok):(CY prog w).is (.inr x) (.str x t)=true:=MG x t
end L2
namespace L2
open PySem PySem.Spec PyProof.Rows
inductive V where
 | non | bl (b:Bool) | int (i:Int) | str (x:Str) | byt (b:Array UInt8) | flt (b:UInt64) | ref (a:Addr) | ty (n:String)
 deriving DecidableEq
def RelV:V→Value→Prop
 | .non,u=>u=Value.none
 | .bl b,u=>u=Value.bool b
 | .int i,u=>∃t,u=Value.int i t
 | .str x,u=>∃t,u=Value.str x t
 | .byt b,u=>∃t,u=Value.bytes b t
 | .flt b,u=>∃t,u=Value.float b t
 | .ref a,u=>u=Value.ref a
 | .ty n,u=>u=Value.type n
abbrev Vals:List V→List Value→Prop:=Paired RelV
theorem Vals.length {xs:List V} {us:List Value} (r:Vals xs us):xs.length=us.length:=Paired.length r
theorem Vals.get:∀{xs:List V} {us:List Value} {i:Nat} {x:V},Vals xs us→xs[i]? = some x→∃u,us[i]? = some u∧RelV x u
 | _,_,_,_,.nil,e=>by simp at e
 | _,_,0,_,.cons r _,e=>by simp at e;subst e;exact⟨_,rfl,r⟩
 | _,_,i+1,x,.cons _ t,e=>by
  obtain⟨u,h1,h2⟩:=Vals.get (i:=i) (x:=x) t (by simpa using e)
  exact⟨u,by simpa using h1,h2⟩
theorem Vals.set {x:V} {u:Value} (r:RelV x u):∀{xs:List V} {us:List Value} (i:Nat),Vals xs us→Vals (xs.set i x) (us.set i u)
 | _,_,_,.nil=>.nil
 | _,_,0,.cons _ t=>.cons r t
 | _,_,i+1,.cons q t=>.cons q (Vals.set r i t)
theorem Vals.append:∀{xs ys:List V} {us ws:List Value},Vals xs us→Vals ys ws→Vals (xs++ys) (us++ws)
 | _,_,_,_,.nil,s=>s
 | _,_,_,_,.cons r t,s=>.cons r (Vals.append t s)
theorem Vals.take:∀{xs:List V} {us:List Value} (n:Nat),Vals xs us→Vals (xs.take n) (us.take n)
 | _,_,0,_=>.nil
 | _,_,_+1,.nil=>.nil
 | _,_,n+1,.cons r t=>.cons r (Vals.take n t)
theorem Vals.drop:∀{xs:List V} {us:List Value} (n:Nat),Vals xs us→Vals (xs.drop n) (us.drop n)
 | _,_,0,r=>r
 | _,_,_+1,.nil=>.nil
 | _,_,n+1,.cons _ t=>Vals.drop n t
def RelO:Option V→Option Value→Prop
 | some v,some u=>RelV v u
 | none,none=>True
 | _,_=>False
def KV {κ:Type}:List (κ×V)→List (κ×Value)→Prop:=Paired fun (p:κ×V) (q:κ×Value)=>p.1=q.1∧RelV p.2 q.2
def kV:DT→V
 | .inl i=>.int i
 | .inr x=>.str x
inductive HO where
 | lst (xs:List V)
 | tup (xs:List V)
 | dK (kvs:List (DT×V)) | dT (kvs:List (List DT×V))
 | set (S:Int→Bool) (n:Nat)
 | ins (C dx:Addr) (fs:List (Str×V))
 | own (x:Addr)
 | xd (fs:List (Str×V))
 | met (f x:Addr)
 | rng (lo hi:Int)
 | frz (o:Obj) (u:HO)
 | tbl (ps:Array Value)
 | ext (φ:Heap→Prop)
abbrev Hp:=Addr→Option HO
def upd (H:Hp) (a:Addr) (o:HO):Hp:=fun b=>if b=a then some o else H b
theorem upd_same {H:Hp} {a:Addr} {o:HO}:upd H a o a=some o:=by unfold upd;rw[if_pos rfl]
theorem Ah {H:Hp} {a b:Addr} {o:HO} (h:b≠a):upd H a o b=H b:=by unfold upd;rw[if_neg h]
theorem AL {H:Hp} {a b:Addr} {o u:HO} (h:H a=some o) (h':H b=some u) (d:o≠u):a≠b:=by
 intro e;subst e;rw[h] at h';exact d (Option.some.inj h')
theorem Af {H:Hp} {a b:Addr} {o:HO} (h:H a=some o) (h':H b=none):a≠b:=by
 intro e;subst e;rw[h] at h';cases h'
section
variable (P:Program) (w:World)
def ObjOk (H:Hp) (h:Heap) (a:Addr):HO→Prop
 | .lst xs=>xs.length≤sizeLine∧∃(its:List Value) (n:Nat),Vals xs its∧h.get? a=some { cls:=.type "list",data:=.seq its.toArray n }
 | .tup xs=>xs.length≤sizeLine∧∃its:List Value,Vals xs its∧IsTup h a its.toArray
 | .dK kvs=>kvs.length≤sizeLine∧(a == sysModules)=false∧∃vs,KV kvs vs∧h.DictOf (CY P w) a vs
 | .dT kvs=>kvs.length≤sizeLine∧(a == sysModules)=false∧∃xs:List (List DT×Addr×Value),
   Paired (fun (p:List DT×V) (q:List DT×Addr×Value)=>p.1=q.1∧H q.2.1=some (.tup (p.1.map kV))∧RelV p.2 q.2.2) kvs xs∧
   ∃o es ep,h.get? a=some o∧o.ExactDict∧o.data= .dict es ep∧es.toList=xs.map (entryOfKey (tupleKind (CY P w)))∧(xs.map (·.1)).Nodup
 | .set S n=>h.SetOf (intKind P w) a S n
 | .ins C dx fs=>H dx=some (.own a)∧fs.length≤1000∧dx≠a∧h.get? a=some (PySem.W.instObj C dx)∧
   ∃mA,h.Ns1 dx mA∧(∀f,RelO (fs.lookup f) (mA f))∧PySem.Within mA (fs.map (·.1))
 | .own _=>∃o,h.get? a=some o
 | .xd fs=>∃mA,h.Ns1 a mA∧∀f,RelO (fs.lookup f) (mA f)
 | .rng lo hi=>∃t u v,h.get? a=some { cls:=.type "range",data:=.fields #[.int lo t,.int hi u,.int 1 v] }
 | .frz o u=>h.get? a=some o∧ObjOk H h a u
 | .tbl ps=>h.get? a=some { cls:=.none,data:=.fields ps }
 | .met f x=>h.get? a=some (PySem.W.methodObj (.ref f) (.ref x))
 | .ext φ=>φ h∧(∃o,h.get? a=some o)∧∀h1 h2:Heap,φ h1→(∀o,h1.get? a=some o→h2.get? a=some o)→φ h2
def HOk (H:Hp) (h:Heap):Prop:=∀a o,H a=some o→ObjOk P w H h a o
end
section
variable {P:Program} {w:World} {H H':Hp} {h h':Heap} {a:Addr} {o:HO}
theorem ObjOk.lt (x:ObjOk P w H h a o):a<h.objs.size:=by
 cases o with
 | lst xs=>obtain⟨_,_,_,_,e⟩:=x;exact Heap.lt_size e
 | tup xs=>obtain⟨_,_,_,p⟩:=x;exact p.lt
 | dK kvs=>obtain⟨_,_,_,_,o,_,_,e,_⟩:=x;exact Heap.lt_size e
 | dT kvs=>obtain⟨_,_,_,_,o,_,_,e,_⟩:=x;exact Heap.lt_size e
 | set S n=>obtain⟨o,_,_,_,e,_⟩:=x;exact Heap.lt_size e
 | ins C dx fs=>obtain⟨_,_,_,e,_⟩:=x;exact Heap.lt_size e
 | own y=>obtain⟨_,e⟩:=x;exact Heap.lt_size e
 | xd fs=>obtain⟨_,⟨_,_,_,e,_⟩,_⟩:=x;exact Heap.lt_size e
 | rng lo hi=>obtain⟨_,_,_,e⟩:=x;exact Heap.lt_size e
 | frz ob u=>obtain⟨e,_⟩:=x;exact Heap.lt_size e
 | tbl ps=>exact Heap.lt_size (show h.get? a=some _ from x)
 | met f y=>exact Heap.lt_size (show h.get? a=some _ from x)
 | ext φ=>obtain⟨_,⟨_,e⟩,_⟩:=x;exact Heap.lt_size e
theorem Paired.mapP {α β:Type} {F G:α→β→Prop}:∀{l₁:List α} {l₂:List β},Paired F l₁ l₂→(∀a b,F a b→G a b)→Paired G l₁ l₂
 | _,_,.nil,_=>.nil
 | _,_,.cons r t,f=>.cons (f _ _ r) (Paired.mapP t f)
theorem ObjOk.stay (x:ObjOk P w H h a o) (k:∀b u,(b=a∨H b=some (.own a))→h.get? b=some u→h'.get? b=some u)
  (ho:∀b,H b=some (.own a)→H' b=some (.own a)) (ht:∀b xs,H b=some (.tup xs)→H' b=some (.tup xs)):ObjOk P w H' h' a o:=by
 induction o with
 | lst xs=>obtain⟨z,its,n,r,e⟩:=x;exact⟨z,its,n,r,k _ _ (.inl rfl) e⟩
 | tup xs=>obtain⟨z,its,r,ob,e,c⟩:=x;exact⟨z,its,r,ob,k _ _ (.inl rfl) e,c⟩
 | dK kvs=>obtain⟨z,y,vs,r,ob,es,ep,e,c⟩:=x;exact⟨z,y,vs,r,ob,es,ep,k _ _ (.inl rfl) e,c⟩
 | dT kvs=>
  obtain⟨z,y,xs,r,ob,es,ep,e,c⟩:=x
  exact⟨z,y,xs,Paired.mapP r fun p q z=>⟨z.1,ht _ _ z.2.1,z.2.2⟩,ob,es,ep,k _ _ (.inl rfl) e,c⟩
 | set S n=>obtain⟨ob,es,ep,t,e,c⟩:=x;exact⟨ob,es,ep,t,k _ _ (.inl rfl) e,c⟩
 | ins C dx fs=>
  obtain⟨d,z,ne,e,mA,⟨od,es,ep,e2,c⟩,r⟩:=x
  exact⟨ho _ d,z,ne,k _ _ (.inl rfl) e,mA,⟨od,es,ep,k _ _ (.inr d) e2,c⟩,r⟩
 | own y=>obtain⟨ob,e⟩:=x;exact⟨ob,k _ _ (.inl rfl) e⟩
 | xd fs=>obtain⟨mA,⟨od,es,ep,e,c⟩,r⟩:=x;exact⟨mA,⟨od,es,ep,k _ _ (.inl rfl) e,c⟩,r⟩
 | rng lo hi=>obtain⟨t,u,v,e⟩:=x;exact⟨t,u,v,k _ _ (.inl rfl) e⟩
 | frz ob u ih=>obtain⟨e,q⟩:=x;exact⟨k _ _ (.inl rfl) e,ih q⟩
 | tbl ps=>
  have e:h.get? a=some { cls:=.none,data:=.fields ps }:=x
  show h'.get? a=some { cls:=.none,data:=.fields ps }
  exact k a _ (.inl rfl) e
 | met f y=>
  have e:h.get? a=some (PySem.W.methodObj (.ref f) (.ref y)):=x
  show h'.get? a=some (PySem.W.methodObj (.ref f) (.ref y))
  exact k a _ (.inl rfl) e
 | ext φ=>obtain⟨p,⟨o,e⟩,st⟩:=x;exact⟨st _ _ p fun o q=>k _ _ (.inl rfl) q,⟨o,k _ _ (.inl rfl) e⟩,st⟩
theorem HOk.lt (x:HOk P w H h) (e:H a=some o):a<h.objs.size:=(x a o e).lt
theorem HOk.fresh (x:HOk P w H h) (e:h.objs.size≤a):H a=none:=by
 cases q:H a with
 | none=>rfl
 | some u=>exact absurd (Nat.lt_of_lt_of_le (x.lt q) e) (Nat.lt_irrefl _)
theorem HOk.kept (x:HOk P w H h) (k:∀b u,h.get? b=some u→h'.get? b=some u):HOk P w H h':=fun a o e=>
 (x a o e).stay (fun b u _ q=>k b u q) (fun _ q=>q) fun _ _ q=>q
theorem HOk.laid (x:HOk P w H h) (k:∀b u,h.get? b=some u→h'.get? b=some u) (hp:h.objs.size≤a) (new:ObjOk P w (upd H a o) h' a o):HOk P w (upd H a o) h':=fun b u e=>by
 have hn:=x.fresh hp
 by_cases hb:b=a
 ·subst hb;rw[upd_same] at e;cases e;exact new
 ·rw[Ah hb] at e
  exact (x b u e).stay (fun c v _ q=>k c v q) (fun c q=>by rw[Ah (Af q hn)];exact q) fun c xs q=>by rw[Ah (Af q hn)];exact q
end
def Rd (H:Hp) (a:Addr) (u:HO):Prop:=H a=some u∨∃o,H a=some (.frz o u)
theorem Rd.ok {P:Program} {w:World} {H:Hp} {h:Heap} {a:Addr} {u:HO} (r:Rd H a u) (x:HOk P w H h):ObjOk P w H h a u:=by
 rcases r with r | ⟨o,r⟩
 ·exact x a u r
 ·obtain⟨_,q⟩:=x a _ r
  exact q
def R0:Option HO→Prop
 | some (.lst _)=>True
 | some (.dK _)=>True
 | some (.dT _)=>True
 | some (.set _ _)=>True
 | some (.ins _ _ _)=>True
 | some (.ext _)=>True
 | _=>False
section
variable {P:Program} {w:World} {H:Hp} {h h':Heap} {x e:Addr} {o':HO}
theorem HOk.write (ok:HOk P w H h) (mu:R0 (H x)) (he:e=x∨H e=some (.own x)) (k:∀b u,b≠e→h.get? b=some u→h'.get? b=some u) (heo:∃u,h'.get? e=some u)
  (new:ObjOk P w (upd H x o') h' x o'):HOk P w (upd H x o') h':=fun b u q=>by
 have nown:∀c y,H c=some (.own y)→c≠x:=fun c y r z=>by subst z;rw[r] at mu;exact mu
 have ntup:∀c xs,H c=some (.tup xs)→c≠x:=fun c xs r z=>by subst z;rw[r] at mu;exact mu
 by_cases hb:b=x
 ·subst hb;rw[upd_same] at q;cases q;exact new
 ·rw[Ah hb] at q
  by_cases hbe:b=e
  ·have q':H b=some (.own x):=by
    rcases he with z | z
    ·exact absurd (hbe.trans z) hb
    ·rw[hbe];exact z
   rw[q] at q';cases q'
   obtain⟨v,hv⟩:=heo
   exact⟨v,by rw[hbe];exact hv⟩
  ·refine (ok b u q).stay (fun c v hc r=>k c v ?_ r) (fun c r=>by rw[Ah (nown c b r)];exact r) fun c xs r=>by rw[Ah (ntup c xs r)];exact r
   rcases hc with rfl | hc
   ·exact hbe
   ·rintro rfl
    rcases he with z | z
    ·exact nown c b hc z
    ·rw[hc] at z;cases z;exact hb rfl
end
structure Un (fs ex:List Addr) (H H':Hp) (h h':Heap):Prop where
 keep:∀b o,h.get? b=some o→H b=none→b∉fs→b∉ex→h'.get? b=some o
 slot:∀b o,h.get? b=some o→H b=none→b∈fs→b∉ex→∃sl,h'.get? b=some { o with slots:=sl }
 free:∀b o,h.get? b=some o→H b=none→b∉ex→H' b=none
 there:∀b o,h.get? b=some o→b∉ex→∃o',h'.get? b=some o'
 tups:∀b xs,H b=some (.tup xs)→H' b=some (.tup xs)
 frzs:∀b o u,H b=some (.frz o u)→H' b=some (.frz o u)
 tbls:∀b ps,H b=some (.tbl ps)→∃more,H' b=some (.tbl (ps++more))
section
variable {fs fs' ex ex':List Addr} {H H1 H2:Hp} {h h1 h2 h':Heap} {a x e:Addr} {o:HO}
theorem Un.any (u:Un fs ex H H1 h h1) {b:Addr} {ob:Obj} (q:h.get? b=some ob) (n:H b=none) (hx:b∉ex):∃sl,h1.get? b=some { ob with slots:=sl }:=by
 by_cases hb:b∈fs
 ·exact u.slot b ob q n hb hx
 ·exact⟨ob.slots,u.keep b ob q n hb hx⟩
theorem Un.kept (k:∀b u,h.get? b=some u→h'.get? b=some u):Un fs ex H H h h':=
 ⟨fun b ob q _ _ _=>k b ob q,fun b ob q _ _ _=>⟨ob.slots,k b ob q⟩,fun _ _ _ n _=>n,fun b ob q _=>⟨ob,k b ob q⟩,fun _ _ q=>q,fun _ _ _ q=>q,fun _ ps q=>⟨#[],by rw[q];simp⟩⟩
theorem Un.refl:Un fs ex H H h h:=Un.kept fun _ _ q=>q
theorem Un.laid (k:∀b u,h.get? b=some u→h'.get? b=some u) (hp:h.objs.size≤a) (hn:H a=none):Un fs ex H (upd H a o) h h' where
 keep:=fun b u q _ _ _=>k b u q
 slot:=fun b u q _ _ _=>⟨u.slots,k b u q⟩
 free:=fun b u q n _=>by rw[Ah (Nat.ne_of_lt (Nat.lt_of_lt_of_le (Heap.lt_size q) hp))];exact n
 there:=fun b u q _=>⟨u,k b u q⟩
 tups:=fun b xs q=>by rw[Ah (Af q hn)];exact q
 frzs:=fun b u xs q=>by rw[Ah (Af q hn)];exact q
 tbls:=fun b ps q=>⟨#[],by rw[Ah (Af q hn),q];simp⟩
theorem Un.write (mu:R0 (H x)) (he:e=x∨H e=some (.own x)) (k:∀b u,b≠e→h.get? b=some u→h'.get? b=some u) (heo:∃u,h'.get? e=some u):Un fs ex H (upd H x o) h h':=by
 have hx:∀b,H b=none→b≠x:=fun b n z=>by subst z;rw[n] at mu;exact mu
 have hb:∀b,H b=none→b≠e:=fun b n z=>by
  subst z
  rcases he with r | r
  ·exact hx b n r
  ·rw[n] at r;cases r
 have hm:∀b u,H b=some u→¬R0 (some u)→b≠x:=fun b u q nm z=>by subst z;rw[q] at mu;exact nm mu
 refine⟨fun b u q n _ _=>k b u (hb b n) q,fun b u q n _ _=>⟨u.slots,k b u (hb b n) q⟩,fun b u q n _=>by rw[Ah (hx b n)];exact n,fun b u q _=>?_,
  fun b xs q=>by rw[Ah (hm b _ q fun z=>z)];exact q,fun b u xs q=>by rw[Ah (hm b _ q fun z=>z)];exact q,fun b ps q=>⟨#[],by rw[Ah (hm b _ q fun z=>z),q];simp⟩⟩
 by_cases hbe:b=e
 ·subst hbe;exact heo
 ·exact⟨u,k b u hbe q⟩
theorem Un.mono (u:Un fs ex H H1 h h1) (hs:∀b∈fs,b∈fs') (hx:∀b∈ex,b∈ex'):Un fs' ex' H H1 h h1:=
 ⟨fun b ob q n hb he=>u.keep b ob q n (fun z=>hb (hs b z)) fun z=>he (hx b z),fun _ _ q n _ he=>u.any q n fun z=>he (hx _ z),fun b ob q n he=>u.free b ob q n fun z=>he (hx b z),fun b ob q he=>u.there b ob q fun z=>he (hx b z),u.tups,u.frzs,u.tbls⟩
end
def Tv (h:Heap) (H:Hp):List Addr:=(List.range h.objs.size).filter fun a=>(H a).isSome
def Go (h:Heap) (H:Hp):Heap:=PySem.W.hideAll h (Tv h H)
theorem Me (h:Heap) (H:Hp):(Go h H).objs.size=h.objs.size:=PySem.W.hideAll_size _ _
theorem NZ {h:Heap} {H:Hp} {b:Addr} {o:Obj} (e:h.get? b=some o) (n:H b=none):(Go h H).get? b=some o:=
 PySem.W.hideAll_get _ e fun hm=>by
  have q:(H b).isSome=true:=(List.mem_filter.mp hm).2
  rw[n] at q;simp at q
theorem Pu {h:Heap} {H:Hp} {b:Addr} {o:Obj} (e:(Go h H).get? b=some o):h.get? b=some o∧H b=none:=by
 have e':h.get? b=some o:=PySem.W.of_hideAll (Tv h H) e
 refine⟨e',?_⟩
 cases q:H b with
 | none=>rfl
 | some x=>
  have hm:b∈Tv h H:=List.mem_filter.mpr ⟨List.mem_range.mpr (Heap.lt_size e'),by simp[q]⟩
  have z:(Go h H).get? b=none:=PySem.W.hideAll_none (Tv h H) hm
  rw[z] at e;cases e
end L2
namespace L2
open PySem PySem.Spec PyProof.Rows
structure Mod (K:PySem.W.Frag) (mg:Str→Option Value) (base:Heap):Prop where
 kin:K.In base
 glob:base.Ns mainGlobals mg
 blt:∃mb,base.Ns builtinsNs mb∧∀x:Str,x≠"__name__"→mb x=bootBuiltins x
 nolimit:base.NoLimit
structure Cx where
 prog:Program
 w:World
 K:PySem.W.Frag
 mg:Str→Option Value
 base:Heap
 A:Around
 N:List Str
 s₀:Shared
 H₀:Hp
 env:Env
 outer:List Env
 stack:List Env
 ex:List Addr
 fn:Str→Bool
 calm:Bool
 pn:List (Addr×Obj)
 xe:Value→Shared→Prop
def ES (l:List Env):List Addr:=l.filterMap (·.frame)
abbrev Cx.fs (X:Cx):List Addr:=ES X.outer
def Uq (sc:Scope) (x:Str):Prop:=sc.names.lookup x=some .local∨sc.names.lookup x=some .cell∨sc.names.lookup x=some .free
def SE (sc:Scope) (x:Str):Prop:=sc.names.lookup x=some .local∨sc.names.lookup x=some .cell
def Ui (env:Env) (h:Heap) (m:Str→Option Value) (x:Str) (u:Value):Prop:=
 (env.kindOf x=some .local∧m x=some u)∨((env.kindOf x=some .cell∨env.kindOf x=some .free)∧∃c,env.cells.lookup x=some c∧h.IsCell c (some u))
structure Cx.Ok (X:Cx):Prop where
 mod:Mod X.K X.mg X.base
 kind:X.env.scope.kind= .function
 glob:X.env.globals=mainGlobals
 blt:X.env.builtins=builtinsNs
 above:X.s₀.heap.objs.size≤X.env.locals
 inj:∀x y c,X.env.cells.lookup x=some c→X.env.cells.lookup y=some c→x=y
 has:∀x,(X.env.kindOf x=some .cell∨X.env.kindOf x=some .free)→∃c,X.env.cells.lookup x=some c
 cab:∀x c,X.fn x=true→X.env.cells.lookup x=some c→X.s₀.heap.objs.size≤c
 hd:X.calm=true→X.A.handled=none
 frames:X.A.frames=some X.stack
 stk:X.stack=X.outer∨(X.stack=X.env::X.outer∧X.env.frame=some X.env.locals)
 exf:∀b∈X.ex,b≠X.env.locals∧∀x c,X.env.cells.lookup x=some c→c≠b
 bs:∀b o,X.base.get? b=some o→X.s₀.heap.get? b=some o∧X.H₀ b=none
 bsz:X.base.objs.size≤X.s₀.heap.objs.size
 noex:∀b o,X.base.get? b=some o→b∉X.ex
 exfs:∀b∈X.ex,b∉X.fs
 funs:X.s₀.heap.FunFrames X.base X.outer
 frf:∀b∈X.fs,X.H₀ b=none
structure Inv (X:Cx) (pins:List (Addr×Obj)) (σ:List (Option V)) (H:Hp) (s:Shared):Prop where
 ok:X.Ok
 os:s.os=X.s₀.os
 bare:AllBare s.gens
 base:Un X.fs X.ex X.H₀ H X.s₀.heap s.heap
 loc:∃m,s.heap.Ns X.env.locals m∧∀(i:Nat) (x:Str) (v:V),X.N[i]? = some x→σ[i]? = some (some v)→Uq X.env.scope x→∃u,RelV v u∧Ui X.env s.heap m x u
 cell:∀x c,X.env.cells.lookup x=some c→∃v,s.heap.IsCell c v
 free:H X.env.locals=none
 freeC:∀x c,X.env.cells.lookup x=some c→H c=none
 pin:∀p∈X.pn++pins,s.heap.get? p.1=some p.2∧H p.1=none∧p.1≠X.env.locals∧p.1∉X.fs∧∀v,p.2.data≠.cell v
 hok:HOk X.prog X.w H s.heap
 len:σ.length=X.N.length
section
variable {X:Cx} {pins:List (Addr×Obj)} {σ:List (Option V)} {H H':Hp} {s:Shared} {h':Heap}
theorem Cx.Ok.nofr (ok:X.Ok) {b:Addr} {o:Obj} (e:X.base.get? b=some o):b∉X.fs:=fun hb=>by
 have:=(ok.funs.mem hb).1
 rw[e] at this;cases this
theorem Inv.bs (I:Inv X pins σ H s):∀b o,X.base.get? b=some o→s.heap.get? b=some o∧H b=none:=fun b o e=>
 ⟨I.base.keep b o (I.ok.bs b o e).1 (I.ok.bs b o e).2 (I.ok.nofr e) (I.ok.noex b o e),I.base.free b o (I.ok.bs b o e).1 (I.ok.bs b o e).2 (I.ok.noex b o e)⟩
theorem Inv.bk (I:Inv X pins σ H s):∀b o,X.base.get? b=some o→s.heap.get? b=some o:=fun b o e=>(I.bs b o e).1
theorem Inv.mod (I:Inv X pins σ H s):Mod X.K X.mg X.base:=I.ok.mod
theorem Inv.kIn (I:Inv X pins σ H s):X.K.In s.heap:=I.ok.mod.kin.keeps I.bk
theorem Inv.lt (I:Inv X pins σ H s):X.env.locals<s.heap.objs.size:=let ⟨_,hn,_⟩:=I.loc;hn.lt
theorem Inv.sz (I:Inv X pins σ H s):X.s₀.heap.objs.size≤s.heap.objs.size:=Nat.le_trans I.ok.above (Nat.le_of_lt I.lt)
theorem Inv.nofs (I:Inv X pins σ H s) {a:Addr} (h:s.heap.objs.size≤a):a∉X.fs:=fun hb=>by
 obtain⟨_,o,ho,_⟩:=I.ok.funs.mem hb
 exact absurd (Nat.lt_of_lt_of_le (Heap.lt_size ho) (Nat.le_trans I.sz h)) (Nat.lt_irrefl _)
theorem Inv.cne (I:Inv X pins σ H s):∀x c,X.env.cells.lookup x=some c→c≠X.env.locals:=fun x c e z=>by
 obtain⟨v,o,ho,hd⟩:=I.cell x c e
 obtain⟨m,⟨o',es,ep,ho',hd',_⟩,_⟩:=I.loc
 rw[z,ho'] at ho;cases ho;rw[hd'] at hd;cases hd
theorem Inv.funs (I:Inv X pins σ H s):s.heap.FunFrames X.base X.outer:=by
 have all:∀(l:List Env),(∀b∈ES l,b∈X.fs)→X.s₀.heap.FunFrames X.base l→s.heap.FunFrames X.base l:=by
  intro l
  induction l with
  | nil=>intro _ _;trivial
  | cons env r ih=>
   intro hs hl
   obtain⟨hk,⟨L,o,hf,hn,ho,hd⟩,hr⟩:=hl
   have hL:L∈X.fs:=hs L (by unfold ES;rw[List.filterMap_cons,hf];exact List.mem_cons_self)
   obtain⟨sl,e⟩:=I.base.slot L o ho (I.ok.frf L hL) hL fun z=>I.ok.exfs L z hL
   exact⟨hk,⟨L,_,hf,hn,e,hd⟩,ih (fun b hb=>hs b (by unfold ES;rw[List.filterMap_cons,hf];exact List.mem_cons_of_mem _ hb)) hr⟩
 exact all X.outer (fun _ hb=>hb) I.ok.funs
theorem Inv.stack (I:Inv X pins σ H s):s.heap.FunFrames X.base X.stack:=by
 rcases I.ok.stk with e | ⟨e,hf⟩
 ·rw[e];exact I.funs
 ·rw[e]
  obtain⟨m,hn,_⟩:=I.loc
  refine .cons (by rw[I.ok.kind];decide) hf hn ?_ I.funs
  exact Heap.get?_none_of_le (Nat.le_trans I.ok.bsz I.ok.above)
theorem Inv.stkSub (I:Inv X pins σ H s):∀b∈ES X.stack,b∈X.env.locals::X.fs:=fun b hb=>by
 rcases I.ok.stk with e | ⟨e,hf⟩
 ·rw[e] at hb;exact List.mem_cons_of_mem _ hb
 ·rw[e] at hb
  unfold ES at hb
  rw[List.filterMap_cons,hf] at hb
  exact hb
theorem Inv.stkFree (I:Inv X pins σ H s):∀b∈ES X.stack,H b=none:=fun b hb=>by
 rcases List.mem_cons.mp (I.stkSub b hb) with e | hb
 ·rw[e];exact I.free
 ·obtain⟨_,o,ho,_⟩:=I.ok.funs.mem hb
  exact I.base.free b o ho (I.ok.frf b hb) fun z=>I.ok.exfs b z hb
theorem Inv.step {g':Array GenState} {t':Nat} {d':Drawn} {ch:List Addr} (I:Inv X pins σ H s)
  (hch:∀b∈ch,(b∈X.ex∨X.s₀.heap.objs.size≤b)∧b≠X.env.locals∧(∀x c,X.env.cells.lookup x=some c→c≠b)∧∀p∈X.pn++pins,p.1≠b)
  (keep:∀b o,b≠X.env.locals→b∉X.fs→b∉ch→s.heap.get? b=some o→H b=none→h'.get? b=some o)
  (slot:∀b o,b≠X.env.locals→b∈X.fs→b∉ch→s.heap.get? b=some o→H b=none→∃sl,h'.get? b=some { o with slots:=sl }) (free:∀b o,b∉ch→s.heap.get? b=some o→H b=none→H' b=none)
  (there:∀b o,b∉ch→s.heap.get? b=some o→∃o',h'.get? b=some o')
  (tups:∀b xs,H b=some (.tup xs)→H' b=some (.tup xs)) (frzs:∀b o u,H b=some (.frz o u)→H' b=some (.frz o u)) (tbls:∀b ps,H b=some (.tbl ps)→∃more,H' b=some (.tbl (ps++more)))
  (ns:∀m,s.heap.Ns X.env.locals m→h'.Ns X.env.locals m) (hok:HOk X.prog X.w H' h') (hg:AllBare g') :
  Inv X pins σ H' { s with heap:=h',gens:=g',drawn:=d',toks:=t' }:=by
 have neL:∀b o,X.s₀.heap.get? b=some o→b≠X.env.locals:=fun b o e=>Nat.ne_of_lt (Nat.lt_of_lt_of_le (Heap.lt_size e) I.ok.above)
 have neC:∀b o,X.s₀.heap.get? b=some o→b∉X.ex→b∉ch:=fun b o e hx hb=>by
  rcases (hch b hb).1 with z | z
  ·exact hx z
  ·exact absurd (Nat.lt_of_lt_of_le (Heap.lt_size e) z) (Nat.lt_irrefl _)
 have cellK:∀x c,X.env.cells.lookup x=some c→∀v,s.heap.IsCell c v→h'.IsCell c v:=fun x c e v ⟨o,ho,hd⟩=>by
  have nch:c∉ch:=fun z=>(hch c z).2.2.1 x c e rfl
  by_cases hc:c∈X.fs
  ·obtain⟨sl,q⟩:=slot c o (I.cne x c e) hc nch ho (I.freeC x c e)
   exact⟨_,q,hd⟩
  ·exact⟨o,keep c o (I.cne x c e) hc nch ho (I.freeC x c e),hd⟩
 refine⟨I.ok,I.os,hg,⟨fun b o e n hb hx=>?_,fun b o e n hb hx=>?_,fun b o e n hx=>?_,fun b o e hx=>?_,fun b xs e=>tups b xs (I.base.tups b xs e),fun b o xs e=>frzs b o xs (I.base.frzs b o xs e),fun b ps e=>?_⟩,?_,fun x c e=>?_,?_,fun x c e=>?_,fun p hp=>?_,hok,I.len⟩
 ·exact keep b o (neL b o e) hb (neC b o e hx) (I.base.keep b o e n hb hx) (I.base.free b o e n hx)
 ·obtain⟨sl,e1⟩:=I.base.slot b o e n hb hx
  obtain⟨sl',e2⟩:=slot b _ (neL b o e) hb (neC b o e hx) e1 (I.base.free b o e n hx)
  exact⟨sl',e2⟩
 ·obtain⟨o',e1⟩:=I.base.there b o e hx
  exact free b o' (neC b o e hx) e1 (I.base.free b o e n hx)
 ·obtain⟨o',e1⟩:=I.base.there b o e hx
  exact there b o' (neC b o e hx) e1
 ·obtain⟨m1,e1⟩:=I.base.tbls b ps e
  obtain⟨m2,e2⟩:=tbls b _ e1
  exact⟨m1++m2,by rw[e2,Array.append_assoc]⟩
 ·obtain⟨m,hn,hl⟩:=I.loc
  refine⟨m,ns m hn,fun i x v e1 e2 e3=>?_⟩
  obtain⟨u,r,l⟩:=hl i x v e1 e2 e3
  refine⟨u,r,?_⟩
  rcases l with l | ⟨k,c,e,z⟩
  ·exact .inl l
  ·exact .inr ⟨k,c,e,cellK x c e _ z⟩
 ·obtain⟨v,z⟩:=I.cell x c e
  exact⟨v,cellK x c e v z⟩
 ·obtain⟨m,⟨o,_,_,ho,_⟩,_⟩:=I.loc
  exact free _ o (fun z=>(hch _ z).2.1 rfl) ho I.free
 ·obtain⟨v,o,ho,hd⟩:=I.cell x c e
  exact free c o (fun z=>(hch c z).2.2.1 x c e rfl) ho (I.freeC x c e)
 ·obtain⟨e,n,ne,nf,d⟩:=I.pin p hp
  have nch:p.1∉ch:=fun z=>(hch p.1 z).2.2.2 p hp rfl
  exact⟨keep p.1 p.2 ne nf nch e n,free p.1 p.2 nch e n,ne,nf,d⟩
theorem Inv.un {t':Nat} (I:Inv X pins σ H s) (u:Un X.fs [] H H' s.heap h') (hok:HOk X.prog X.w H' h'):Inv X pins σ H' { s with heap:=h',toks:=t' }:=by
 obtain⟨m,⟨o,es,ep,ho,r⟩,_⟩:=id I.loc
 obtain⟨sl,hL⟩:=u.any ho I.free (by simp)
 exact I.step (g':=s.gens) (d':=s.drawn) (ch:=[]) (fun _ z=>nomatch z) (fun b o _ hb _ e n=>u.keep b o e n hb (by simp)) (fun b o _ hb _ e n=>u.slot b o e n hb (by simp)) (fun b o _ e n=>u.free b o e n (by simp)) (fun b o _ e=>u.there b o e (by simp)) u.tups u.frzs u.tbls (fun m' hm=>by
  obtain⟨o',es',ep',ho',r'⟩:=hm
  rw[ho] at ho';cases ho'
  exact⟨_,es',ep',hL,r'⟩) hok I.bare
theorem Inv.call {g':Array GenState} {t':Nat} {d':Drawn} {ch:List Addr} (I:Inv X pins σ H s) (u:Un (ES X.stack) ch H H' s.heap h') (hok:HOk X.prog X.w H' h') (hg:AllBare g')
  (hch:∀b∈ch,(b∈X.ex∨X.s₀.heap.objs.size≤b)∧b≠X.env.locals∧(∀x c,X.env.cells.lookup x=some c→c≠b)∧∀p∈X.pn++pins,p.1≠b) :
  Inv X pins σ H' { s with heap:=h',gens:=g',drawn:=d',toks:=t' }:=by
 obtain⟨m,⟨o,es,ep,ho,r⟩,_⟩:=id I.loc
 obtain⟨sl,hL⟩:=u.any ho I.free fun z=>(hch _ z).2.1 rfl
 exact I.step (ch:=ch) hch (fun b o hL hb hc e n=>u.keep b o e n (fun z=>(List.mem_cons.mp (I.stkSub b z)).elim hL hb) hc) (fun b o _ _ hc e n=>u.any e n hc) (fun b o hc e n=>u.free b o e n hc) (fun b o hc e=>u.there b o e hc) u.tups u.frzs u.tbls (fun m' hm=>by
  obtain⟨o',es',ep',ho',r'⟩:=hm
  rw[ho] at ho';cases ho'
  exact⟨_,es',ep',hL,r'⟩) hok hg
theorem Inv.turned {t':Nat} {it:Addr} (I:Inv X pins σ H s) (k:∀b o,b≠it→s.heap.get? b=some o→h'.get? b=some o) (hn:H it=none) (hL:it≠X.env.locals)
  (h1:it∈X.ex∨X.s₀.heap.objs.size≤it) (h2:∀x c,X.env.cells.lookup x=some c→c≠it) (h3:∀p∈X.pn++pins,p.1≠it):Inv X pins σ H { s with heap:=h',toks:=t' }:=by
 have nit:∀b u,H b=some u→b≠it:=fun b u e z=>by rw[z,hn] at e;cases e
 refine I.step (g':=s.gens) (d':=s.drawn) (ch:=[it]) (fun b hb=>?_) (fun b o _ _ hc e _=>k b o (fun z=>hc (by simp[z])) e) (fun b o _ _ hc e _=>⟨o.slots,k b o (fun z=>hc (by simp[z])) e⟩) (fun _ _ _ _ n=>n)
  (fun b o hc e=>⟨o,k b o (fun z=>hc (by simp[z])) e⟩) (fun _ _ e=>e) (fun _ _ _ e=>e) (fun b ps e=>⟨#[],by rw[e];simp⟩) (fun m hm=>?_) (fun b u e=>?_) I.bare
 ·have e:b=it:=by simpa using hb
  subst e
  exact⟨h1,hL,h2,h3⟩
 ·obtain⟨o,es,ep,ho,r⟩:=hm
  exact⟨o,es,ep,k _ o (Ne.symm hL) ho,r⟩
 ·refine (I.hok b u e).stay (fun c v hc q=>k c v ?_ q) (fun _ q=>q) fun _ _ q=>q
  rcases hc with z | z
  ·rw[z];exact nit b u e
  ·exact nit c _ z
theorem Inv.tok (I:Inv X pins σ H s) (t:Nat):Inv X pins σ H { s with toks:=t }:=I.un (h':=s.heap) (t':=t) Un.refl I.hok
theorem Inv.kept {t':Nat} (I:Inv X pins σ H s) (k:∀b u,s.heap.get? b=some u→h'.get? b=some u):Inv X pins σ H { s with heap:=h',toks:=t' }:=I.un (Un.kept k) (I.hok.kept k)
theorem Inv.laid {a:Addr} {o:HO} {t':Nat} (I:Inv X pins σ H s) (k:∀b u,s.heap.get? b=some u→h'.get? b=some u) (hp:s.heap.objs.size≤a) (new:ObjOk X.prog X.w (upd H a o) h' a o) :
  Inv X pins σ (upd H a o) { s with heap:=h',toks:=t' }:=I.un (Un.laid k hp (I.hok.fresh hp)) (I.hok.laid k hp new)
theorem Inv.write {x e:Addr} {o:HO} {t':Nat} (I:Inv X pins σ H s) (mu:R0 (H x)) (he:e=x∨H e=some (.own x)) (k:∀b u,b≠e→s.heap.get? b=some u→h'.get? b=some u) (heo:∃u,h'.get? e=some u)
  (new:ObjOk X.prog X.w (upd H x o) h' x o):Inv X pins σ (upd H x o) { s with heap:=h',toks:=t' }:=I.un (Un.write mu he k heo) (I.hok.write mu he k heo new)
theorem Inv.weak {σ':List (Option V)} (I:Inv X pins σ H s) (hl:σ'.length=σ.length) (w:∀(i:Nat) v,σ'[i]? = some (some v)→σ[i]? = some (some v)):Inv X pins σ' H s:=
 ⟨I.ok,I.os,I.bare,I.base,let ⟨m,hn,hl'⟩:=I.loc;⟨m,hn,fun i x v e1 e2 e3=>hl' i x v e1 (w i v e2) e3⟩,I.cell,I.free,I.freeC,I.pin,I.hok,hl.trans I.len⟩
theorem Inv.pins_of {pins':List (Addr×Obj)} (I:Inv X pins σ H s) (h:∀p∈pins',s.heap.get? p.1=some p.2∧H p.1=none∧p.1≠X.env.locals∧p.1∉X.fs∧∀v,p.2.data≠.cell v):Inv X pins' σ H s:=
 ⟨I.ok,I.os,I.bare,I.base,I.loc,I.cell,I.free,I.freeC,fun p hp=>(List.mem_append.mp hp).elim (fun z=>I.pin p (List.mem_append_left _ z)) (h p),I.hok,I.len⟩
theorem EF {N:List Str} (hN:N.Nodup) {i j:Nat} {x:Str} (a:N[i]? = some x) (b:N[j]? = some x):i=j:=by
 obtain⟨h1,e1⟩:=List.getElem?_eq_some_iff.mp a
 obtain⟨h2,e2⟩:=List.getElem?_eq_some_iff.mp b
 exact (List.getElem_inj hN).mp (e1.trans e2.symm)
theorem Mx {M:Model} {A:Around} {E:Value→Shared→Prop} {i:Nat} {x:Str} {v:V} {u:Value} {Q:Unit→Shared→Prop} (I:Inv X pins σ H s) (hN:X.N.Nodup) (hi:X.N[i]? = some x) (hx:SE X.env.scope x) (r:RelV v u)
  (h:∀s',Inv X pins (σ.set i (some v)) H s'→(∃a,Heap.SameBut a s.heap s'.heap∧(a=X.env.locals∨X.env.cells.lookup x=some a))→Q () s') (hf:X.fn x=true∨X.env.scope.names.lookup x=some .local:=by first | exact .inl rfl | exact .inr rfl | assumption):wpAny M A (storeName X.env x u) Q E s:=by
 obtain⟨m,hn,hl⟩:=id I.loc
 have hcls:(X.env.scope.kind == .class || (X.env.scope.kind == .module && X.env.locals != X.env.globals))=false:=by rw[I.ok.kind];rfl
 have hiσ:i<σ.length:=by rw[I.len];exact (List.getElem?_eq_some_iff.mp hi).1
 have cne:=I.cne
 have tracked:∀{a:Addr} {h':Heap},(∃o,s.heap.get? a=some o∧H a=none)→Heap.SameBut a s.heap h'→HOk X.prog X.w H h':=fun {a h'} ha hs b ob e=>by
  obtain⟨_,_,hfree⟩:=ha
  refine (I.hok b ob e).stay (fun c w' hc q=>(hs.2 c ?_).trans q) (fun _ q=>q) fun _ _ q=>q
  rintro rfl
  rcases hc with rfl | hc
  ·rw[hfree] at e;cases e
  ·rw[hfree] at hc;cases hc
 rcases hx with hk | hk
 ·refine wpAny_storeName_local hk hn (fun h' hn' hs=>?_) hcls
  obtain⟨oL,_,_,hoL,_⟩:=id hn
  refine h _ ⟨I.ok,I.os,I.bare,⟨fun b o e n hb hx=>?_,fun b o e n hb hx=>?_,I.base.free,fun b o e hx=>?_,I.base.tups,I.base.frzs,I.base.tbls⟩,⟨_,hn',fun j y v' e1 e2 e3=>?_⟩,fun y c e=>?_,I.free,I.freeC,fun p hp=>?_,tracked ⟨oL,hoL,I.free⟩ hs,by simpa using I.len⟩ ⟨_,hs,.inl rfl⟩
  ·exact (hs.2 b (Nat.ne_of_lt (Nat.lt_of_lt_of_le (Heap.lt_size e) I.ok.above))).trans (I.base.keep b o e n hb hx)
  ·obtain⟨sl,e1⟩:=I.base.slot b o e n hb hx
   exact⟨sl,(hs.2 b (Nat.ne_of_lt (Nat.lt_of_lt_of_le (Heap.lt_size e) I.ok.above))).trans e1⟩
  ·obtain⟨o',e1⟩:=I.base.there b o e hx
   exact⟨o',(hs.2 b (Nat.ne_of_lt (Nat.lt_of_lt_of_le (Heap.lt_size e) I.ok.above))).trans e1⟩
  ·by_cases hj:j=i
   ·subst hj
    rw[hi] at e1;cases e1
    rw[List.getElem?_set_self hiσ] at e2
    cases e2
    exact⟨u,r,.inl ⟨hk,by simp⟩⟩
   ·rw[List.getElem?_set_ne (Ne.symm hj)] at e2
    obtain⟨u',r',q⟩:=hl j y v' e1 e2 e3
    refine⟨u',r',?_⟩
    rcases q with⟨k,e⟩|⟨k,c,e,z⟩
    ·refine .inl ⟨k,?_⟩
     have:y≠x:=fun e=>hj (EF hN e1 (e ▸ hi))
     simp[this,e]
    ·exact .inr ⟨k,c,e,z.sameBut hs (cne y c e)⟩
  ·obtain⟨w',z⟩:=I.cell y c e
   exact⟨w',z.sameBut hs (cne y c e)⟩
  ·obtain⟨e,n,ne,nf,d⟩:=I.pin p hp
   exact⟨(hs.2 p.1 ne).trans e,n,ne,nf,d⟩
 ·have hfn:X.fn x=true:=by
   rcases hf with z | z
   ·exact z
   ·rw[z] at hk;cases hk
  obtain⟨c,hc⟩:=I.ok.has x (.inl hk)
  obtain⟨w',z⟩:=I.cell x c hc
  refine wpAny_storeName_cell I.ok.kind hk hc z (fun h' hc' hs=>?_)
  obtain⟨oc,hoc,hocd⟩:=id z
  refine h { s with heap:=h' } ⟨I.ok,I.os,I.bare,⟨fun b o e n hb hx=>?_,fun b o e n hb hx=>?_,I.base.free,fun b o e hx=>?_,I.base.tups,I.base.frzs,I.base.tbls⟩,⟨m,hn.sameBut hs (Ne.symm (cne x c hc)),fun j y v' e1 e2 e3=>?_⟩,fun y c' e=>?_,I.free,I.freeC,fun p hp=>?_,tracked ⟨oc,hoc,I.freeC x c hc⟩ hs,by simpa using I.len⟩ ⟨c,hs,.inr hc⟩
  ·exact (hs.2 b (Nat.ne_of_lt (Nat.lt_of_lt_of_le (Heap.lt_size e) (I.ok.cab x c hfn hc)))).trans (I.base.keep b o e n hb hx)
  ·obtain⟨sl,e1⟩:=I.base.slot b o e n hb hx
   exact⟨sl,(hs.2 b (Nat.ne_of_lt (Nat.lt_of_lt_of_le (Heap.lt_size e) (I.ok.cab x c hfn hc)))).trans e1⟩
  ·obtain⟨o',e1⟩:=I.base.there b o e hx
   exact⟨o',(hs.2 b (Nat.ne_of_lt (Nat.lt_of_lt_of_le (Heap.lt_size e) (I.ok.cab x c hfn hc)))).trans e1⟩
  ·by_cases hj:j=i
   ·subst hj
    rw[hi] at e1;cases e1
    rw[List.getElem?_set_self hiσ] at e2
    cases e2
    exact⟨u,r,.inr ⟨.inl hk,c,hc,hc'⟩⟩
   ·rw[List.getElem?_set_ne (Ne.symm hj)] at e2
    obtain⟨u',r',q⟩:=hl j y v' e1 e2 e3
    refine⟨u',r',?_⟩
    rcases q with q | ⟨k,c',e,z'⟩
    ·exact .inl q
    ·refine .inr ⟨k,c',e,z'.sameBut hs ?_⟩
     rintro rfl
     exact hj (EF hN e1 (I.ok.inj _ _ _ e hc ▸ hi))
  ·by_cases hcc:c'=c
   ·subst hcc;exact⟨_,hc'⟩
   ·obtain⟨w2,z2⟩:=I.cell y c' e
    exact⟨w2,z2.sameBut hs hcc⟩
  ·obtain⟨e,n,ne,nf,d⟩:=I.pin p hp
   refine⟨(hs.2 p.1 ?_).trans e,n,ne,nf,d⟩
   intro q
   rw[q,hoc] at e
   have q':oc=p.2:=Option.some.inj e
   exact d w' (by rw[←q'];exact hocd)
theorem Fb {M:Model} {A:Around} {E:Value→Shared→Prop} {i:Nat} {x:Str} {v:V} {u:Value} {Q:Unit→Shared→Prop} (I:Inv X pins σ H s) (hN:X.N.Nodup) (hi:X.N[i]? = some x) (hx:SE X.env.scope x) (r:RelV v u)
  (h:∀s',Inv X pins (σ.set i (some v)) H s'→Q () s') (hf:X.fn x=true∨X.env.scope.names.lookup x=some .local:=by first | exact .inl rfl | exact .inr rfl | assumption):wpAny M A (storeName X.env x u) Q E s:=
 Mx I hN hi hx r (fun s' I' _=>h s' I') hf
theorem Inv.call' {s':Shared} {ch:List Addr} (I:Inv X pins σ H s) (ho:s'.os=s.os) (u:Un (ES X.stack) ch H H' s.heap s'.heap) (hok:HOk X.prog X.w H' s'.heap) (hg:AllBare s'.gens)
  (hch:∀b∈ch,(b∈X.ex∨X.s₀.heap.objs.size≤b)∧b≠X.env.locals∧(∀x c,X.env.cells.lookup x=some c→c≠b)∧∀p∈X.pn++pins,p.1≠b):Inv X pins σ H' s':=by
 obtain⟨h',g',d',t',o'⟩:=s'
 have e:o'=s.os:=ho
 subst e
 exact I.call (g':=g') (t':=t') (d':=d') u hok hg hch
end
abbrev XK:=Value→Option Addr→Hp→Prop
abbrev St:=List (Option V)
abbrev VK:=V→Hp→Prop
abbrev TE:=St→Hp→VK→Prop
abbrev TT:=St→Hp→(Bool→Hp→Prop)→Prop
abbrev TA:=St→Hp→(List V→Hp→Prop)→Prop
structure Ends where
 nx:St→Hp→Prop
 rt:VK
 bk:St→Hp→Prop:=fun _ _=>False
 ct:St→Hp→Prop:=fun _ _=>False
abbrev TS:=Ends→St→Hp→Prop
def EP (X:Cx) (pins:List (Addr×Obj)) (σ:St) (Q:VK) (u:Value) (s':Shared):Prop:=∃v H',Inv X pins σ H' s'∧RelV v u∧Q v H'
def TP (X:Cx) (pins:List (Addr×Obj)) (σ:St) (Q:Bool→Hp→Prop) (b:Bool) (s':Shared):Prop:=∃H',Inv X pins σ H' s'∧Q b H'
def AP (X:Cx) (pins:List (Addr×Obj)) (σ:St) (Q:List V→Hp→Prop) (us:List Value) (s':Shared):Prop:=∃vs H',Inv X pins σ H' s'∧Vals vs us∧Q vs H'
def SP (X:Cx) (pins:List (Addr×Obj)) (D:Ends) (f:Flow) (s':Shared):Prop:=
 match f with
 | .next=>∃σ' H',Inv X pins σ' H' s'∧D.nx σ' H'
 | .brk=>∃σ' H',Inv X pins σ' H' s'∧D.bk σ' H'
 | .cont=>∃σ' H',Inv X pins σ' H' s'∧D.ct σ' H'
 | .ret u=>∃v σ' H',Inv X pins σ' H' s'∧RelV v u∧D.rt v H'
def PE (X:Cx) (e:Expr) (t:TE):Prop:=
 ∀(pins:List (Addr×Obj)) (s:Shared) (σ:St) (H:Hp) (Q:VK),Inv X pins σ H s→t σ H Q→wpAny (model X.prog X.w) X.A (eval e X.env) (EP X pins σ Q) X.xe s
def PT (X:Cx) (e:Expr) (t:TT):Prop:=
 ∀(pins:List (Addr×Obj)) (s:Shared) (σ:St) (H:Hp) (Q:Bool→Hp→Prop),Inv X pins σ H s→t σ H Q→wpAny (model X.prog X.w) X.A (isTrue e X.env (eval e X.env)) (TP X pins σ Q) X.xe s
def PW (X:Cx) (e:Expr) (t:TT):Prop:=
 ∀(whole:Sem Value) (pins:List (Addr×Obj)) (s:Shared) (σ:St) (H:Hp) (Q:Bool→Hp→Prop),Inv X pins σ H s→t σ H Q→wpAny (model X.prog X.w) X.A (isTrue e X.env whole) (TP X pins σ Q) X.xe s
theorem PW.pt {X:Cx} {e:Expr} {t:TT} (h:PW X e t):PT X e t:=h _
def PA (X:Cx) (es:List Expr) (t:TA):Prop:=
 ∀(pos:Pos) (pins:List (Addr×Obj)) (s:Shared) (σ:St) (H:Hp) (Q:List V→Hp→Prop),Inv X pins σ H s→t σ H Q→wpAny (model X.prog X.w) X.A (spliced (backTo pos (starEach es X.env))) (AP X pins σ Q) X.xe s
def PS (X:Cx) (st:Stmt) (t:TS):Prop:=
 ∀(pins:List (Addr×Obj)) (s:Shared) (σ:St) (H:Hp) (D:Ends),Inv X pins σ H s→t D σ H→wpAny (model X.prog X.w) X.A (exec st X.env) (SP X pins D) X.xe s
def PSs (X:Cx) (st:List Stmt) (t:TS):Prop:=
 ∀(pins:List (Addr×Obj)) (s:Shared) (σ:St) (H:Hp) (D:Ends),Inv X pins σ H s→t D σ H→wpAny (model X.prog X.w) X.A (execs st X.env) (SP X pins D) X.xe s
theorem Ay {α:Type} {t:Sem α} {Q Q':α→Shared→Prop} {M:Model} {A:Around} {E:Value→Shared→Prop} {s:Shared} (h:wpAny M A t Q E s) (hQ:∀a s,Q a s→Q' a s):wpAny M A t Q' E s:=wpAny_mono h hQ fun _ _ x=>x
end L2
namespace L2
open PySem PySem.Spec PyProof.Rows
section
variable {X:Cx}
def Ny (i:Nat):TE:=fun σ H Q=>∃v,σ[i]? = some (some v)∧Q v H
def tC (v:V):TE:=fun _ H Q=>Q v H
theorem RW {i:Nat} {x:Str} {pos:Pos} (hN:X.N[i]? = some x) (hv:Uq X.env.scope x) (hd:(x == ("__debug__":Str))=false:=by decide) (hcd:(x == ("__classdict__":Str))=false:=by decide):PE X (.Name x pos) (Ny i):=by
 intro pins s σ H Q I h
 obtain⟨v,e,h⟩:=h
 obtain⟨m,hn,hl⟩:=I.loc
 obtain⟨u,r,l⟩:=hl i x v hN e hv
 have fin:EP X pins σ Q u s:=⟨v,H,I,r,h⟩
 rcases l with⟨hk,hm⟩|⟨hk,c,hc,hcell⟩
 ·exact wpAny_Name (wpAny_loadName_local I.ok.kind hk hn hm fin) hd
 ·rcases hk with hk | hk
  ·exact wpAny_Name (wpAny_loadName_cell I.ok.kind hk hc hcell fin) hd
  ·exact wpAny_Name (wpAny_loadName_free I.ok.kind hk hc hcell fin hcd) hd
theorem Ai {i j pos}:PE X (.Constant (.int i) j pos) (tC (.int i)):=fun _ _ _ H _ I h=>wpAny_Constant_int ⟨.int i,H,I.tok _,⟨_,rfl⟩,h⟩
theorem FG {b j pos}:PE X (.Constant (.bool b) j pos) (tC (.bl b)):=fun _ _ _ H _ I h=>Constant_bool ⟨.bl b,H,I,rfl,h⟩
theorem Cv {j pos}:PE X (.Constant .none j pos) (tC .non):=fun _ _ _ H _ I h=>Constant_none ⟨.non,H,I,rfl,h⟩
theorem Ak {x j pos}:PE X (.Constant (.str x) j pos) (tC (.str x)):=fun _ _ _ H _ I h=>Calls.Constant_str ⟨.str x,H,I.tok _,⟨_,rfl⟩,h⟩
def Gl (X:Cx) (x:Str):Prop:=X.env.kindOf x=some .globalImplicit
theorem B7 {E:Value→Shared→Prop} {pins:List (Addr×Obj)} {s:Shared} {σ:St} {H:Hp} {x:Str} {u:Value} {pos:Pos} {Q:Value→Shared→Prop} (I:Inv X pins σ H s) (hg:Gl X x) (hm:X.mg x=some u) (h:Q u s)
  (hd:(x == ("__debug__":Str))=false:=by decide):wpAny (model X.prog X.w) X.A (eval (.Name x pos) X.env) Q E s:=
 Calls.Name_function_global I.ok.kind hg (Calls.loadGlobal_global (by rw[I.ok.glob];exact I.mod.glob.keeps I.bk) hm h) hd
theorem De {E:Value→Shared→Prop} {pins:List (Addr×Obj)} {s:Shared} {σ:St} {H:Hp} {x:Str} {u:Value} {pos:Pos} {Q:Value→Shared→Prop} (I:Inv X pins σ H s) (hg:Gl X x) (hm:X.mg x=none) (hv:bootBuiltins x=some u) (h:Q u s)
  (hn:x≠"__name__":=by decide) (hd:(x == ("__debug__":Str))=false:=by decide):wpAny (model X.prog X.w) X.A (eval (.Name x pos) X.env) Q E s:=by
 obtain⟨mb,h1,h2⟩:=I.mod.blt
 exact Calls.Name_function_global I.ok.kind hg (Calls.loadGlobal_builtin (by rw[I.ok.glob];exact I.mod.glob.keeps I.bk) hm (by rw[I.ok.blt];exact h1.keeps I.bk) ((h2 x hn).trans hv) h) hd
theorem AB {x:Str} {v:V} {u:Value} {pos:Pos} (hg:Gl X x) (hm:X.mg x=some u) (r:RelV v u) (hd:(x == ("__debug__":Str))=false:=by decide):PE X (.Name x pos) (tC v):=
 fun _ _ _ H _ I h=>B7 I hg hm ⟨v,H,I,r,h⟩ hd
theorem La {x:Str} {v:V} {u:Value} {pos:Pos} (hg:Gl X x) (hm:X.mg x=none) (hv:bootBuiltins x=some u) (r:RelV v u) (hn:x≠"__name__":=by decide) (hd:(x == ("__debug__":Str))=false:=by decide):PE X (.Name x pos) (tC v):=
 fun _ _ _ H _ I h=>De I hg hm hv ⟨v,H,I,r,h⟩ hn hd
variable {a b:Expr} {ta tb:TE} {pos:Pos}
def PC (X:Cx) (op:CmpOp) (a b:Expr) (t:TE):Prop:=
 ∀(pins:List (Addr×Obj)) (s:Shared) (σ:St) (H:Hp) (Q:VK),Inv X pins σ H s→t σ H Q→
  wpAny (model X.prog X.w) X.A (eval a X.env) (fun v s₁=>wpAny (model X.prog X.w) X.A (eval b X.env) (fun u s₂=>wpAny (model X.prog X.w) X.A (compareOp op v u) (EP X pins σ Q) X.xe s₂) X.xe s₁) X.xe s
theorem OH (b:Expr) {op:CmpOp} (h:op≠.In) (h2:op≠.NotIn):behindInMarks op b=false:=by
 have e1:(op == CmpOp.In)=false:=by cases op<;>first | rfl | exact absurd rfl h
 have e2:(op == CmpOp.NotIn)=false:=by cases op<;>first | rfl | exact absurd rfl h2
 cases b<;>simp[behindInMarks,e1,e2]
def Uv (ta:TE):TE:=fun σ H Q=>ta σ H fun x H1=>Q (.bl (decide (x= .non))) H1
theorem RelV.none_iff {x:V} {v:Value} (r:RelV x v):(v == Value.none)=decide (x= .non):=by
 cases x with
 | non=>cases r;rfl
 | bl _=>cases r;rfl
 | int _=>obtain⟨t,rfl⟩:=r;rfl
 | str _=>obtain⟨t,rfl⟩:=r;rfl
 | byt _=>obtain⟨t,rfl⟩:=r;rfl
 | flt _=>obtain⟨t,rfl⟩:=r;rfl
 | ref _=>cases r;rfl
 | ty _=>cases r;rfl
theorem Ji {j pos'} (ha:PE X a ta):PC X .Is a (.Constant .none j pos') (Uv ta):=by
 intro pins s σ H Q I h
 refine Ay (ha pins s σ H _ I h) fun v s1 ⟨x,H1,I1,r1,q1⟩=>?_
 exact Constant_none (is_none_gen ⟨.bl _,H1,I1,by rw[r1.none_iff];rfl,q1⟩)
def tB (t:TE):TT:=fun σ H Q=>t σ H fun x H1=>∃c,x= .bl c∧Q c H1
theorem J1 {op:CmpOp} {t:TE} (h:PC X op a b t) (h1:behindInMarks op b=false:=by first | exact OH _ (by decide) (by decide) | rfl):PT X (.Compare a [op] [b] pos) (tB t):=by
 intro pins s σ H Q I hw
 refine wpAny_isTrue_Compare1 (Ay (h pins s σ H _ I hw) fun v s1 h1=>Ay h1 fun u s2 h2=>Ay h2 fun c s3 ⟨x,H1,I1,r1,q1⟩=>?_) h1
 obtain⟨d,rfl,q⟩:=q1
 cases r1
 exact wpAny_truthy_bool ⟨H1,I1,q⟩
theorem DI {e:Expr} {t:TE} (h:PE X e t) (he:∀whole,isTrue e X.env whole=(do let v ←whole;standAt e.pos;holding [v] (truthy v)):=by intro _;rfl):PT X e (tB t):=by
 intro pins s σ H Q I hw
 refine isTrue_plain (Ay (h pins s σ H _ I hw) fun v s1 ⟨x,H1,I1,r1,q1⟩=>?_) (he _)
 obtain⟨d,rfl,q⟩:=q1
 cases r1
 exact wpAny_truthy_bool ⟨H1,I1,q⟩
variable {tA tB':TT} {rest:List Expr}
def UA (t u:TT):TT:=fun σ H Q=>t σ H fun c H1=>if c=true then u σ H1 Q else Q false H1
def UT (t u:TT):TT:=fun σ H Q=>t σ H fun c H1=>if c=true then Q true H1 else u σ H1 Q
def Ue (t:TT):TT:=fun σ H Q=>t σ H fun c H1=>Q (!c) H1
theorem Hn (ha:PT X a tA):PW X (.BoolOp .And [a] pos) tA:=by
 intro wh pins s σ H Q I h
 refine isTrue_and (Ay (ha pins s σ H Q I h) fun c s1 e=>?_)
 cases c with
 | true=>exact isTrue_and_nil e
 | false=>exact e
theorem J0 (ha:PT X a tA):PW X (.BoolOp .Or [a] pos) tA:=by
 intro wh pins s σ H Q I h
 refine isTrue_or (Ay (ha pins s σ H Q I h) fun c s1 e=>?_)
 cases c with
 | false=>exact isTrue_or_nil e
 | true=>exact e
theorem Jx (ha:PT X a tA) (hb:PW X (.BoolOp .And (b::rest) pos) tB'):PW X (.BoolOp .And (a::b::rest) pos) (UA tA tB'):=by
 intro wh pins s σ H Q I h
 refine isTrue_and (Ay (ha pins s σ H _ I h) fun c s1 ⟨H1,I1,q1⟩=>?_)
 cases c with
 | true=>exact hb wh pins s1 σ H1 Q I1 q1
 | false=>exact⟨H1,I1,q1⟩
theorem Nk (ha:PT X a tA) (hb:PW X (.BoolOp .Or (b::rest) pos) tB'):PW X (.BoolOp .Or (a::b::rest) pos) (UT tA tB'):=by
 intro wh pins s σ H Q I h
 refine isTrue_or (Ay (ha pins s σ H _ I h) fun c s1 ⟨H1,I1,q1⟩=>?_)
 cases c with
 | true=>exact⟨H1,I1,q1⟩
 | false=>exact hb wh pins s1 σ H1 Q I1 q1
theorem Cy (ha:PT X a tA):PT X (.UnaryOp .Not a pos) (Ue tA):=by
 intro pins s σ H Q I h
 exact isTrue_not (ha pins s σ H (fun c H1=>Q (!c) H1) I h)
def SY (ta tb:TE):TE:=fun σ H Q=>ta σ H fun x H1=>∃c,x= .bl c∧if c=true then tb σ H1 Q else Q (.bl false) H1
def Ux (ta tb:TE):TE:=fun σ H Q=>ta σ H fun x H1=>∃c,x= .bl c∧if c=true then Q (.bl true) H1 else tb σ H1 Q
def Tf (ta:TE):TE:=fun σ H Q=>ta σ H fun x H1=>∃c,x= .bl c∧Q (.bl (!c)) H1
theorem Gy {op} {t:TE} (h:PE X a t):PE X (.BoolOp op [a] pos) t:=fun pins s σ H Q I hw=>BoolOp_one (h pins s σ H Q I hw)
theorem R9 (ha:PE X a ta) (hb:PE X (.BoolOp .And (b::rest) pos) tb):PE X (.BoolOp .And (a::b::rest) pos) (SY ta tb):=by
 intro pins s σ H Q I h
 refine BoolOp_and (Ay (ha pins s σ H _ I h) fun v s1 ⟨x,H1,I1,r1,q1⟩=>?_)
 obtain⟨c,rfl,q1⟩:=q1
 cases r1
 refine wpAny_truthy_bool ?_
 cases c with
 | true=>exact hb pins s1 σ H1 Q I1 q1
 | false=>exact⟨.bl false,H1,I1,rfl,q1⟩
theorem Nn (ha:PE X a ta) (hb:PE X (.BoolOp .Or (b::rest) pos) tb):PE X (.BoolOp .Or (a::b::rest) pos) (Ux ta tb):=by
 intro pins s σ H Q I h
 refine BoolOp_or (Ay (ha pins s σ H _ I h) fun v s1 ⟨x,H1,I1,r1,q1⟩=>?_)
 obtain⟨c,rfl,q1⟩:=q1
 cases r1
 refine wpAny_truthy_bool ?_
 cases c with
 | false=>exact hb pins s1 σ H1 Q I1 q1
 | true=>exact⟨.bl true,H1,I1,rfl,q1⟩
theorem O3 (ha:PE X a ta):PE X (.UnaryOp .Not a pos) (Tf ta):=by
 intro pins s σ H Q I h
 refine UnaryOp_ (Ay (ha pins s σ H _ I h) fun v s1 ⟨x,H1,I1,r1,q1⟩=>?_)
 obtain⟨c,rfl,q1⟩:=q1
 cases r1
 exact not_of (wpAny_truthy_bool ⟨.bl (!c),H1,I1,rfl,q1⟩)
def U2 (t:TT) (ta tb:TE):TE:=fun σ H Q=>t σ H fun c H1=>if c=true then ta σ H1 Q else tb σ H1 Q
theorem O5 {c:Expr} (hc:PT X c tA) (ha:PE X a ta) (hb:PE X b tb):PE X (.IfExp c a b pos) (U2 tA ta tb):=by
 intro pins s σ H Q I h
 refine wpAny_IfExp (Ay (hc pins s σ H _ I h) fun d s1 ⟨H1,I1,q1⟩=>?_)
 cases d with
 | true=>exact ha pins s1 σ H1 Q I1 q1
 | false=>exact hb pins s1 σ H1 Q I1 q1
end
end L2
namespace L2
open PySem PySem.Spec PyProof.Rows
def SqL (K:PySem.W.Frag) (H:Hp) (a:Addr) (xs:List V):Prop:=
 Rd H a (.lst xs)∨
  ∃(o:Obj) (its:Array Value) (n:Nat),K.lookup a=some o∧o.cls= .type "list"∧o.dict=none∧o.data= .seq its n∧its.size≤sizeLine∧Vals xs its.toList
def SqT (K:PySem.W.Frag) (H:Hp) (a:Addr) (xs:List V):Prop:=
 Rd H a (.tup xs)∨
  ∃(o:Obj) (its:Array Value) (n:Nat),K.lookup a=some o∧o.cls= .type "tuple"∧o.data= .seq its n∧its.size≤sizeLine∧Vals xs its.toList
def Uf:Value→Option V
 | .none=>some .non
 | .bool b=>some (.bl b)
 | .int i _=>some (.int i)
 | .str x _=>some (.str x)
 | .bytes b _=>some (.byt b)
 | .float b _=>some (.flt b)
 | .ref a=>some (.ref a)
 | .type n=>some (.ty n)
 | _=>none
theorem RelV.abs {x:V} {u:Value} (r:RelV x u):Uf u=some x:=by
 cases x with
 | non=>cases r;rfl
 | bl _=>cases r;rfl
 | int _=>obtain⟨t,rfl⟩:=r;rfl
 | str _=>obtain⟨t,rfl⟩:=r;rfl
 | byt _=>obtain⟨t,rfl⟩:=r;rfl
 | flt _=>obtain⟨t,rfl⟩:=r;rfl
 | ref _=>cases r;rfl
 | ty _=>cases r;rfl
theorem RelV.inj {x y:V} {u:Value} (r:RelV x u) (q:RelV y u):x=y:=Option.some.inj (r.abs.symm.trans q.abs)
theorem Vals.inj:∀{xs ys:List V} {us:List Value},Vals xs us→Vals ys us→xs=ys
 | _,_,_,.nil,.nil=>rfl
 | _,_,_,.cons r t,.cons r' t'=>by rw[r.inj r',Vals.inj t t']
section
variable {X:Cx} {pins:List (Addr×Obj)} {σ:St} {H:Hp} {s:Shared} {a:Addr} {xs ys:List V}
theorem SqL.of {K:PySem.W.Frag} (h:H a=some (.lst xs)):SqL K H a xs:=.inl (.inl h)
theorem SqT.of {K:PySem.W.Frag} (h:H a=some (.tup xs)):SqT K H a xs:=.inl (.inl h)
theorem Inv.list (I:Inv X pins σ H s) (h:SqL X.K H a xs):∃its:List Value,Vals xs its∧PlainL s.heap a its.toArray∧xs.length≤sizeLine:=by
 rcases h with h | ⟨o,its,n,hk,hc,hd,hs,hz,r⟩
 ·obtain⟨z,its,n,r,e⟩:=h.ok I.hok
  exact⟨its,r,⟨_,n,e,rfl,rfl,rfl⟩,z⟩
 ·refine⟨its.toList,r,⟨o,n,I.kIn a o hk,hc,hd,by simpa using hs⟩,?_⟩
  have e:=r.length
  simp only[Array.length_toList] at e
  omega
theorem Inv.tuple (I:Inv X pins σ H s) (h:SqT X.K H a xs):∃its:List Value,Vals xs its∧IsTup s.heap a its.toArray∧xs.length≤sizeLine:=by
 rcases h with h | ⟨o,its,n,hk,hc,hs,hz,r⟩
 ·obtain⟨z,its,r,p⟩:=h.ok I.hok
  exact⟨its,r,p,z⟩
 ·refine⟨its.toList,r,⟨o,I.kIn a o hk,hc,n,by simpa using hs⟩,?_⟩
  have e:=r.length
  simp only[Array.length_toList] at e
  omega
theorem Inv.list_inj (I:Inv X pins σ H s) (h:SqL X.K H a xs) (h':SqL X.K H a ys):xs=ys:=by
 obtain⟨its,r,⟨o,n,e,_,_,d⟩,_⟩:=I.list h
 obtain⟨its',r',⟨o',n',e',_,_,d'⟩,_⟩:=I.list h'
 rw[e] at e';cases e'
 rw[d] at d'
 injection d' with d1 _
 have:its=its':=by simpa using congrArg Array.toList d1
 subst this
 exact r.inj r'
theorem Inv.tuple_inj (I:Inv X pins σ H s) (h:SqT X.K H a xs) (h':SqT X.K H a ys):xs=ys:=by
 obtain⟨its,r,⟨o,e,_,n,d⟩,_⟩:=I.tuple h
 obtain⟨its',r',⟨o',e',_,n',d'⟩,_⟩:=I.tuple h'
 rw[e] at e';cases e'
 rw[d] at d'
 injection d' with d1 _
 have:its=its':=by simpa using congrArg Array.toList d1
 subst this
 exact r.inj r'
end
abbrev Cx.wish (X:Cx) (E:Value→Shared→Prop):Cx:={ X with xe:=E }
abbrev Cx.nox (X:Cx):Cx:=X.wish fun _ _=>False
theorem Cx.Ok.wish {X:Cx} (ok:X.Ok) (E:Value→Shared→Prop):(X.wish E).Ok:=
 ⟨ok.mod,ok.kind,ok.glob,ok.blt,ok.above,ok.inj,ok.has,ok.cab,ok.hd,ok.frames,ok.stk,ok.exf,ok.bs,ok.bsz,ok.noex,ok.exfs,ok.funs,ok.frf⟩
theorem Cx.Ok.unwish {X:Cx} {E:Value→Shared→Prop} (ok:(X.wish E).Ok):X.Ok:=
 ⟨ok.mod,ok.kind,ok.glob,ok.blt,ok.above,ok.inj,ok.has,ok.cab,ok.hd,ok.frames,ok.stk,ok.exf,ok.bs,ok.bsz,ok.noex,ok.exfs,ok.funs,ok.frf⟩
section
variable {X:Cx} {pins:List (Addr×Obj)} {σ:St} {H:Hp} {s:Shared} {E:Value→Shared→Prop}
theorem Inv.wish (I:Inv X pins σ H s) (E:Value→Shared→Prop):Inv (X.wish E) pins σ H s:=⟨I.ok.wish E,I.os,I.bare,I.base,I.loc,I.cell,I.free,I.freeC,I.pin,I.hok,I.len⟩
theorem Inv.unwish (I:Inv (X.wish E) pins σ H s):Inv X pins σ H s:=⟨I.ok.unwish,I.os,I.bare,I.base,I.loc,I.cell,I.free,I.freeC,I.pin,I.hok,I.len⟩
theorem SP.unwish {D:Ends} {f:Flow} {s':Shared} (h:SP (X.wish E) pins D f s'):SP X pins D f s':=by
 cases f with
 | next=>obtain⟨σ',H',I,q⟩:=h;exact⟨σ',H',I.unwish,q⟩
 | brk=>obtain⟨σ',H',I,q⟩:=h;exact⟨σ',H',I.unwish,q⟩
 | cont=>obtain⟨σ',H',I,q⟩:=h;exact⟨σ',H',I.unwish,q⟩
 | ret u=>obtain⟨v,σ',H',I,r,q⟩:=h;exact⟨v,σ',H',I.unwish,r,q⟩
theorem PE.nox {e:Expr} {t:TE} (h:PE X.nox e t):PE X e t:=fun pins s σ H Q I hw=>
 wpAny_mono (h pins s σ H Q (I.wish _) hw) (fun _ _ ⟨v,H',I',r,q⟩=>⟨v,H',I'.unwish,r,q⟩) fun _ _ z=>False.elim z
theorem PSs.nox {st:List Stmt} {t:TS} (h:PSs X.nox st t):PSs X st t:=fun pins s σ H D I hw=>
 wpAny_mono (h pins s σ H D (I.wish _) hw) (fun _ _ q=>q.unwish) fun _ _ z=>False.elim z
end
section
variable {X:Cx} {st:Stmt} {rest:List Stmt} {t u:TS} {e:Expr} {te:TE} {pos:Pos}
def SO:TS:=fun D σ H=>D.nx σ H
def Rx (t u:TS):TS:=fun D σ H=>t { D with nx:=u D } σ H
theorem Au:PSs X [] SO:=fun _ _ σ H _ I h=>wpAny_execs_nil ⟨σ,H,I,h⟩
theorem Ad (h1:PS X st t) (h2:PSs X rest u):PSs X (st::rest) (Rx t u):=by
 intro pins s σ H D I h
 refine wpAny_execs_cons (Ay (h1 pins s σ H { D with nx:=u D } I h) fun f s1 q=>?_)
 cases f with
 | next=>
  obtain⟨σ',H',I',q⟩:=q
  exact h2 pins s1 σ' H' D I' q
 | ret v=>exact q
 | brk=>exact q
 | cont=>exact q
theorem Ac (h1:PS X st t):PSs X [st] t:=by
 intro pins s σ H D I h
 refine wpAny_execs_cons (Ay (h1 pins s σ H D I h) fun f s1 q=>?_)
 cases f with
 | next=>exact wpAny_execs_nil q
 | ret v=>exact q
 | brk=>exact q
 | cont=>exact q
def SR:TS:=fun D σ H=>D.ct σ H
theorem Em:PS X (.Continue pos) SR:=fun _ _ σ H _ I h=>wpAny_Continue ⟨σ,H,I,h⟩
theorem Inv.quiet {pins:List (Addr×Obj)} {σ:St} {H:Hp} {s:Shared} (I:Inv X pins σ H s):interactive X.env=false:=by simp[interactive,I.ok.kind]
def S7 (te:TE):TS:=fun D σ H=>te σ H fun _ H1=>D.nx σ H1
theorem An (he:PE X e te) (hs:swapsWith e none pos.line X.env=pure false:=by rfl):PS X (.Expr e pos) (S7 te):=by
 intro pins s σ H D I h
 exact wpAny_Expr_any (Ay (he pins s σ H _ I h) fun v s1 ⟨x,H1,I1,r1,q1⟩=>⟨σ,H1,I1,q1⟩) I.quiet hs
def T9 (te:TE):TS:=fun D σ H=>te σ H D.rt
theorem Ar (he:PE X e te):PS X (.Return (some e) pos) (T9 te):=by
 intro pins s σ H D I h
 exact wpAny_Return_some (Ay (he pins s σ H _ I h) fun v s1 ⟨x,H1,I1,r1,q1⟩=>⟨x,σ,H1,I1,r1,q1⟩)
def Uh (c:TT) (t u:TS):TS:=fun D σ H=>c σ H fun b H1=>if b=true then t D σ H1 else u D σ H1
theorem Aw {c:Expr} {a b:List Stmt} {tc:TT} (hc:PT X c tc) (ha:PSs X a t) (hb:PSs X b u):PS X (.If c a b pos) (Uh tc t u):=by
 intro pins s σ H D I h
 refine wpAny_If (Ay (hc pins s σ H _ I h) fun d s1 ⟨H1,I1,q1⟩=>?_)
 cases d with
 | true=>exact ha pins s1 σ H1 D I1 q1
 | false=>exact hb pins s1 σ H1 D I1 q1
end
abbrev TG:=V→St→Hp→(St→Hp→Prop)→Prop
abbrev RG:=List V→St→Hp→(St→Hp→Prop)→Prop
def PG (X:Cx) (target:Expr) (t:TG):Prop:=
 ∀(pins:List (Addr×Obj)) (s:Shared) (σ:St) (H:Hp) (v:V) (u:Value) (Q:St→Hp→Prop),Inv X pins σ H s→RelV v u→t v σ H Q→
  wpAny (model X.prog X.w) X.A (assign target X.env u) (fun _ s'=>∃σ' H',Inv X pins σ' H' s'∧Q σ' H') X.xe s
def Tz (X:Cx) (ts:List Expr) (t:RG):Prop:=
 ∀(pins:List (Addr×Obj)) (s:Shared) (σ:St) (H:Hp) (vs:List V) (us:List Value) (Q:St→Hp→Prop),Inv X pins σ H s→Vals vs us→t vs σ H Q→
  wpAny (model X.prog X.w) X.A (assignInOrder ((assignEach ts X.env).map (·.2)) us) (fun _ s'=>∃σ' H',Inv X pins σ' H' s'∧Q σ' H') X.xe s
abbrev Re:=V→V→V→Hp→(Hp→Prop)→Prop
def RE (X:Cx) (t:Re):Prop:=
 ∀(pins:List (Addr×Obj)) (s:Shared) (σ:St) (H:Hp) (o i v:V) (ov iv u:Value) (Q:Hp→Prop),Inv X pins σ H s→RelV o ov→RelV i iv→RelV v u→t o i v H Q→
  wpAny (model X.prog X.w) X.A (setItem ov iv u) (fun _ s'=>∃H',Inv X pins σ H' s'∧Q H') X.xe s
section
variable {X:Cx} {pos:Pos}
def FU (i:Nat):TG:=fun v σ H Q=>Q (σ.set i (some v)) H
theorem AN {i:Nat} {x:Str} (hN:X.N.Nodup) (hi:X.N[i]? = some x) (hx:SE X.env.scope x) (hf:X.fn x=true∨X.env.scope.names.lookup x=some .local:=by first | exact .inl rfl | exact .inr rfl | assumption):PG X (.Name x pos) (FU i):=by
 intro pins s σ H v u Q I r h
 exact wpAny_assign_Name (Fb I hN hi hx r (fun s' I'=>⟨_,H,I',h⟩) hf)
def Ub:RG:=fun vs σ H Q=>vs=[]∧Q σ H
def Sv (t:TG) (u:RG):RG:=fun vs σ H Q=>∃v r,vs=v::r∧t v σ H fun σ' H'=>u r σ' H' Q
theorem K3:Tz X [] Ub:=by
 intro pins s σ H vs us Q I r h
 obtain⟨e,h⟩:=h
 subst e
 cases r
 exact assignInOrder_nil ⟨σ,H,I,h⟩
theorem DB {e:Expr} {es:List Expr} {t:TG} {u:RG} (h1:PG X e t) (h2:Tz X es u)
  (hs:(assignEach (e::es) X.env).map (·.2)=assign e X.env::(assignEach es X.env).map (·.2):=by rfl):Tz X (e::es) (Sv t u):=by
 intro pins s σ H vs us Q I r h
 obtain⟨v,vr,e1,h⟩:=h
 subst e1
 cases r with
 | cons r rr=>
  rw[hs]
  refine assignInOrder_cons (Ay (h1 pins s σ H _ _ _ I r h) fun _ s1 ⟨σ1,H1,I1,q1⟩=>?_)
  exact h2 pins s1 σ1 H1 _ _ Q I1 rr q1
def T7 (K:PySem.W.Frag) (n:Nat) (t:RG):TG:=fun v σ H Q=>∃a xs,v= .ref a∧SqT K H a xs∧xs.length=n∧t xs σ H Q
theorem MW {es:List Expr} {k:Nat} {t:RG} {n:Nat} (hc:X.calm=true) (h:Tz X es t)
  (hn:(assignEach es X.env).length=n:=by rfl) (hst:(assignEach es X.env).findIdx? (·.1)=none:=by rfl):PG X (.Tuple es k pos) (T7 X.K n t):=by
 intro pins s σ H v u Q I r hw
 obtain⟨a,xs,e1,hq,hl,hw⟩:=hw
 subst e1
 cases r
 obtain⟨its,rv,ht,hz⟩:=I.tuple hq
 refine assign_Tuple_tuple (I.ok.hd hc) ht (by simp[hn,←hl,rv.length]) hst fun h' hx=>?_
 have I1:Inv X pins σ H { s with heap:=h' }:=I.kept (t':=s.toks) fun b o e=>hx b o (Nat.ne_of_lt (Heap.lt_size e)) e
 exact h pins _ σ H xs _ Q I1 (by simpa using rv) hw
def UC (to ti:TE) (t:Re):TG:=fun v σ H Q=>to σ H fun o H1=>ti σ H1 fun i H2=>t o i v H2 fun H3=>Q σ H3
theorem OK {o i:Expr} {to ti:TE} {t:Re} (ho:PE X o to) (hi:PE X i ti) (hs:RE X t)
  (ha:∀v,assign (.Subscript o i pos) X.env v=(do
   let ov ←holding [v] (eval o X.env)
   let iv ←holding [v,ov] (eval i X.env)
   standAt pos
   holding [v,ov,iv] (setItem ov iv v)
   release [v,ov,iv] []):=by intro _;rfl):PG X (.Subscript o i pos) (UC to ti t):=by
 intro pins s σ H v u Q I r h
 rw[ha]
 refine wpAny_bind (wpAny_holding (Ay (ho pins s σ H _ I h) fun ov s1 ⟨x,H1,I1,r1,q1⟩=>?_))
 refine wpAny_bind (wpAny_holding (Ay (hi pins s1 σ H1 _ I1 q1) fun iv s2 ⟨y,H2,I2,r2,q2⟩=>?_))
 refine wpAny_bind (wpAny_standAt (wpAny_bind (wpAny_holding (Ay (hs pins s2 σ H2 x y v ov iv u _ I2 r1 r2 r q2) fun _ s3 ⟨H3,I3,q3⟩=>?_))))
 exact wpAny_release ⟨σ,H3,I3,q3⟩
def SK (te:TE) (g:TG):TS:=fun D σ H=>te σ H fun x H1=>g x σ H1 D.nx
theorem Nt {tg e:Expr} {te:TE} {g:TG} (he:PE X e te) (hg:PG X tg g) (hs:swapsWithSole [tg] e pos.line X.env=pure false:=by rfl) (hw:swappedStores [tg] e X.env=pure none:=by rfl)
  (h1:(assignEach [tg] X.env).map (·.2)=[assign tg X.env]:=by rfl):PS X (.Assign [tg] e pos) (SK te g):=by
 intro pins s σ H D I h
 refine wpAny_Assign_stores (Ay (he pins s σ H _ I h) fun v s1 ⟨x,H1,I1,r1,q1⟩=>?_) hs hw
 rw[h1]
 exact Ay (hg pins s1 σ H1 x v _ I1 r1 q1) fun _ s2 q=>q
theorem Ap {i:Nat} {x:Str} {e:Expr} {te:TE} {pos':Pos} (hN:X.N.Nodup) (hi:X.N[i]? = some x) (hx:SE X.env.scope x) (he:PE X e te) (hs:swapsWith e (some (.Name x pos')) pos.line X.env=pure false:=by rfl) (hf:X.fn x=true∨X.env.scope.names.lookup x=some .local:=by first | exact .inl rfl | exact .inr rfl | assumption) :
  PS X (.Assign [.Name x pos'] e pos) (SK te (FU i)):=by
 intro pins s σ H D I h
 refine wpAny_Assign_Name (Ay (he pins s σ H _ I h) fun v s1 ⟨y,H1,I1,r1,q1⟩=>?_) hs
 exact Fb I1 hN hi hx r1 (fun s2 I2=>⟨_,H1,I2,q1⟩) hf
end
section
variable {X:Cx} {pos:Pos}
def RB (c:TT) (tb:TS):TS:=fun D σ H=>∃W:Nat→St→Hp→Prop,(∃m,W m σ H)∧∀m σ H,W m σ H→
 c σ H fun b H1=>if b=true then ∃N:St→Hp→Prop,(∀σ' H',N σ' H'→∃m',m'<m∧W m' σ' H')∧tb { D with nx:=N,ct:=N,bk:=D.nx } σ H1 else D.nx σ H1
theorem DD {c:Expr} {body:List Stmt} {tc:TT} {tb:TS} (hp:PassesOwn (model X.prog X.w) X.A X.env X.xe) (hc:PT X c tc) (hb:PSs X body tb):PS X (.While c body [] pos) (RB tc tb):=by
 intro pins s σ H D I h
 obtain⟨W,⟨m0,w0⟩,turn⟩:=h
 refine wpAny_While (codeAny_whileLoop (fun n s'=>∃σ' H',Inv X pins σ' H' s'∧W n σ' H') ?_ m0 ⟨σ,H,I,w0⟩)
 rintro n s1 ⟨σ1,H1,I1,w1⟩
 refine wpAny_passesOwn hp (Ay (hc pins s1 σ1 H1 _ I1 (turn n σ1 H1 w1)) fun b s2 ⟨H2,I2,q2⟩=>?_)
 cases b with
 | true=>
  obtain⟨N,hN,q2⟩:=q2
  rw[if_pos rfl]
  refine wpAny_passesOwn hp (Ay (hb pins s2 σ1 H2 _ I2 q2) fun f s3 q3=>?_)
  cases f with
  | next=>
   obtain⟨σ3,H3,I3,n3⟩:=q3
   obtain⟨m',hm,w3⟩:=hN σ3 H3 n3
   exact⟨m',hm,σ3,H3,I3,w3⟩
  | cont=>
   obtain⟨σ3,H3,I3,n3⟩:=q3
   obtain⟨m',hm,w3⟩:=hN σ3 H3 n3
   exact⟨m',hm,σ3,H3,I3,w3⟩
  | brk=>exact q3
  | ret v=>exact q3
 | false=>
  rw[if_neg Bool.false_ne_true]
  exact wpAny_execs_nil ⟨σ1,H2,I2,q2⟩
end
structure It where
 go:Nat→Hp→Prop
 yld:Nat→Hp→V→Hp→Prop
 stop:Nat→Hp→Prop
def B2 (X:Cx) (pins:List (Addr×Obj)) (H:Hp) (b:Addr):Prop:=
 H b=none∧b≠X.env.locals∧b∉X.fs∧(b∈X.ex∨X.s₀.heap.objs.size≤b)∧(∀x c,X.env.cells.lookup x=some c→c≠b)∧∀p∈X.pn++pins,p.1≠b
theorem Inv.fpOk {X:Cx} {pins:List (Addr×Obj)} {σ:St} {H H':Hp} {s:Shared} {b:Addr} (I:Inv X pins σ H s) (hb:s.heap.objs.size≤b) (hn:H' b=none):B2 X pins H' b:=by
 refine⟨hn,Nat.ne_of_gt (Nat.lt_of_lt_of_le I.lt hb),I.nofs hb,.inr (Nat.le_trans I.sz hb),fun x c e z=>?_,fun p hp z=>?_⟩
 ·obtain⟨v,q⟩:=I.cell x c e
  exact absurd (Nat.lt_of_lt_of_le q.lt (by rw[z];exact hb)) (Nat.lt_irrefl _)
 ·exact absurd (Nat.lt_of_lt_of_le (Heap.lt_size (I.pin p hp).1) (by rw[z];exact hb)) (Nat.lt_irrefl _)
structure Fu (P:Program) (w:World) (K:PySem.W.Frag) (tg:Expr) (J:It) (fp:List Addr) (it:Addr) (tn:Nat→Heap→Prop):Prop where
 mem:it∈fp
 obj:∀i h,tn i h→∀b∈fp,∃o,h.get? b=some o∧∀v,o.data≠.cell v
 keep:∀i h h',tn i h→(∀b∈fp,∀o,h.get? b=some o→h'.get? b=some o)→tn i h'
 item:∀(X:Cx),X.prog=P→X.w=w→X.K=K→X.calm=true→∀(i:Nat) (pins:List (Addr×Obj)) (s:Shared) (σ:St) (H:Hp) (E:Value→Shared→Prop),Inv X pins σ H s→(∀b∈fp,B2 X pins H b)→tn i s.heap→J.go i H→
  wpAny (model P w) X.A (pyNext (.ref it)) (fun r s1=>∃u,r=some u∧
   wpAny (model P w) X.A (letOwnedTupleGo tg (.ref it) u) (fun _ s2=>∃x H',Inv X pins σ H' s2∧RelV x u∧J.yld i H x H'∧tn (i+1) s2.heap∧∀b∈fp,H' b=none) E s1) E s
 done:∀(X:Cx),X.prog=P→X.w=w→X.K=K→X.calm=true→∀(i:Nat) (pins:List (Addr×Obj)) (s:Shared) (σ:St) (H:Hp) (E:Value→Shared→Prop),Inv X pins σ H s→(∀b∈fp,B2 X pins H b)→tn i s.heap→J.stop i H→
  wpAny (model P w) X.A (pyNext (.ref it)) (fun r s1=>r=none∧Inv X pins σ H s1) E s
 self:∀(A:Around) (i:Nat) (s:Shared) (Q:Value→Shared→Prop) (E:Value→Shared→Prop),tn i s.heap→Q (.ref it) s→wpAny (model P w) A (pyIter (.ref it)) Q E s
abbrev TI:=St→Hp→(It→Hp→Prop)→Prop
def TL (X:Cx) (pins:List (Addr×Obj)) (σ:St) (tg:Expr) (R:It→Hp→Prop) (itv:Value) (s2:Shared):Prop:=
 ∃(it:Addr) (fp:List Addr) (tn:Nat→Heap→Prop) (J:It) (H':Hp),itv= .ref it∧Inv X pins σ H' s2∧Fu X.prog X.w X.K tg J fp it tn∧tn 0 s2.heap∧(∀b∈fp,B2 X pins H' b)∧R J H'
def PI (X:Cx) (tg iter:Expr) (wi:TI):Prop:=
 ∀(pins:List (Addr×Obj)) (s:Shared) (σ:St) (H:Hp) (R:It→Hp→Prop),Inv X pins σ H s→wi σ H R→
  wpAny (model X.prog X.w) X.A (eval iter X.env) (fun v s1=>wpAny (model X.prog X.w) X.A (pyIter v) (TL X pins σ tg R) X.xe s1) X.xe s
theorem K4 {M:Model} {A:Around} {E:Value→Shared→Prop} {s:Shared} {tg:Expr} {it:Addr} {u:Value} {o:Obj} {n:String} {vs:Array Value} {Q:Unit→Shared→Prop} (ho:s.heap.get? it=some o) (hc:o.cls= .type n) (hd:o.data= .fields vs)
    (hn:["enumerate","zip","dict_itemiterator","dict_reverseitemiterator","odict_iterator","itertools.zip_longest","itertools.pairwise"].contains n=false) (hQ:Q () s):wpAny M A (letOwnedTupleGo tg (.ref it) u) Q E s:=by
  unfold letOwnedTupleGo
  cases tg<;>first
    | exact wpAny_pure hQ
    | (cases u<;>first
        | exact wpAny_pure hQ
        | (refine wpAny_bind (wpAny_load ho ?_)
           rw[hc,hd]
           show wpAny M A (if (["enumerate","zip","dict_itemiterator","dict_reverseitemiterator","odict_iterator","itertools.zip_longest","itertools.pairwise"].contains n && vs[0]? == some (rawInt _))=true then _ else _) Q E s
           rw[if_neg (by intro h;rw[hn,Bool.false_and] at h;cases h)]
           exact wpAny_pure hQ))
def RO (K:PySem.W.Frag) (a:Addr):It:=
 ⟨fun i H=>∃xs x,SqL K H a xs∧xs[i]? = some x,fun i H x H'=>H'=H∧∀xs,SqL K H a xs→xs[i]? = some x,fun i H=>∃xs,SqL K H a xs∧xs.length≤i⟩
def S9 (K:PySem.W.Frag) (a:Addr):It:=
 ⟨fun i H=>∃xs x,SqT K H a xs∧xs[i]? = some x,fun i H x H'=>H'=H∧∀xs,SqT K H a xs→xs[i]? = some x,fun i H=>∃xs,SqT K H a xs∧xs.length≤i⟩
def Sk (lo:Int) (n:Nat):It:=⟨fun i _=>i<n,fun i H x H'=>H'=H∧x= .int (lo+i),fun i _=>n≤i⟩
theorem MB {P:Program} {w:World} {K:PySem.W.Frag} {tg:Expr} (a it:Addr):Fu P w K tg (RO K a) [it] it (fun i h=>h.IsListIter it a i) where
 mem:=by simp
 obj:=fun i h st b hb=>by
  have e:b=it:=by simpa using hb
  subst e
  obtain⟨o,e,c,d⟩:=st
  exact⟨o,e,fun v z=>by rw[d] at z;cases z⟩
 keep:=fun i h h' st k=>st.at fun o e=>k it (by simp) o e
 item:=by
  intro X hP hw hK hc i pins s σ H E I hf st hg
  subst hP hw hK
  obtain⟨xs,x,hq,hx⟩:=hg
  obtain⟨its,rv,p,hz⟩:=I.list hq
  obtain⟨u,hu,ru⟩:=rv.get hx
  obtain⟨f0,f1,f2,f3,f4,f5⟩:=hf it (by simp)
  refine wpAny_pyNext_list_item st p.isList (x:=u) (by simpa using hu) fun h' st' sb=>?_
  have I1:Inv X pins σ H { s with heap:=h' }:=I.turned (t':=s.toks) (fun b o hb e=>(sb.2 b hb).trans e) f0 f1 f3 f4 f5
  obtain⟨o,e,c,d⟩:=id st'
  exact⟨u,rfl,K4 (s:={ s with heap:=h' }) e c d (by decide) ⟨x,H,I1,ru,⟨rfl,fun ys hy=>by rw[I.list_inj hy hq];exact hx⟩,st',fun b hb=>(hf b hb).1⟩⟩
 done:=by
  intro X hP hw hK hc i pins s σ H E I hf st hg
  subst hP hw hK
  obtain⟨xs,hq,hx⟩:=hg
  obtain⟨its,rv,p,hz⟩:=I.list hq
  obtain⟨f0,f1,f2,f3,f4,f5⟩:=hf it (by simp)
  have hl:=rv.length
  exact wpAny_pyNext_list_end (I.ok.hd hc) st p.isList (by simp;omega) fun h' eb=>⟨rfl,I.turned (t':=s.toks) (fun b o hb e=>eb b o hb e) f0 f1 f3 f4 f5⟩
 self:=fun _ _ _ _ _ st h=>wpAny_pyIter_listiter st h
theorem Jn {P:Program} {w:World} {K:PySem.W.Frag} {tg:Expr} (a it:Addr):Fu P w K tg (S9 K a) [it] it (fun i h=>h.IsTupleIter it a i) where
 mem:=by simp
 obj:=fun i h st b hb=>by
  have e:b=it:=by simpa using hb
  subst e
  obtain⟨o,e,c,d⟩:=st
  exact⟨o,e,fun v z=>by rw[d] at z;cases z⟩
 keep:=fun i h h' st k=>st.at fun o e=>k it (by simp) o e
 item:=by
  intro X hP hw hK hc i pins s σ H E I hf st hg
  subst hP hw hK
  obtain⟨xs,x,hq,hx⟩:=hg
  obtain⟨its,rv,p,hz⟩:=I.tuple hq
  obtain⟨u,hu,ru⟩:=rv.get hx
  obtain⟨f0,f1,f2,f3,f4,f5⟩:=hf it (by simp)
  refine wpAny_pyNext_tuple_item st (show s.heap.IsTuple a its.toArray from p) (x:=u) (by simpa using hu) fun h' st' sb=>?_
  have I1:Inv X pins σ H { s with heap:=h' }:=I.turned (t':=s.toks) (fun b o hb e=>(sb.2 b hb).trans e) f0 f1 f3 f4 f5
  obtain⟨o,e,c,d⟩:=id st'
  exact⟨u,rfl,K4 (s:={ s with heap:=h' }) e c d (by decide) ⟨x,H,I1,ru,⟨rfl,fun ys hy=>by rw[I.tuple_inj hy hq];exact hx⟩,st',fun b hb=>(hf b hb).1⟩⟩
 done:=by
  intro X hP hw hK hc i pins s σ H E I hf st hg
  subst hP hw hK
  obtain⟨xs,hq,hx⟩:=hg
  obtain⟨its,rv,p,hz⟩:=I.tuple hq
  obtain⟨f0,f1,f2,f3,f4,f5⟩:=hf it (by simp)
  have hl:=rv.length
  exact wpAny_pyNext_tuple_end (I.ok.hd hc) st (show s.heap.IsTuple a its.toArray from p) (by simp;omega) fun h' eb=>⟨rfl,I.turned (t':=s.toks) (fun b o hb e=>eb b o hb e) f0 f1 f3 f4 f5⟩
 self:=fun _ _ _ _ _ st h=>wpAny_pyIter_tupleiter st h
theorem Jj {P:Program} {w:World} {K:PySem.W.Frag} {tg:Expr} (it:Addr) (lo:Int) (n:Nat):Fu P w K tg (Sk lo n) [it] it (fun i h=>IsRangeIter h it (lo+(i:Nat)*1) ((n:Int)-(i:Nat)) 1) where
 mem:=by simp
 obj:=fun i h st b hb=>by
  have e:b=it:=by simpa using hb
  subst e
  exact⟨_,st,fun v z=>by
   have z':Data.fields _=Data.cell v:=z
   cases z'⟩
 keep:=fun i h h' st k=>k it (by simp) _ st
 item:=by
  intro X hP hw hK hc i pins s σ H E I hf st hg
  subst hP hw hK
  obtain⟨f0,f1,f2,f3,f4,f5⟩:=hf it (by simp)
  have W:=Walks.range (prog:=X.prog) (w:=X.w) (I.ok.hd hc) it lo 1 n
  refine W.item i s _ _ hg st fun v h' tk hv st' kk=>?_
  obtain⟨t,rfl⟩:=hv
  have I1:Inv X pins σ H { s with heap:=h',toks:=tk }:=I.turned (fun b o hb e=>kk b o (by simpa using hb) e) f0 f1 f3 f4 f5
  refine⟨_,rfl,K4 (s:={ s with heap:=h',toks:=tk }) (n:="range_iterator") st' rfl rfl (by decide) ⟨.int (lo+i),H,I1,⟨t,?_⟩,⟨rfl,rfl⟩,st',fun b hb=>(hf b hb).1⟩⟩
  rw[Int.mul_one]
 done:=by
  intro X hP hw hK hc i pins s σ H E I hf st hg
  subst hP hw hK
  obtain⟨f0,f1,f2,f3,f4,f5⟩:=hf it (by simp)
  exact wpAny_pyNext_range_end (I.ok.hd hc) st (by have:n≤i:=hg;omega) fun h' eb=>⟨rfl,I.turned (t':=s.toks) (fun b o hb e=>eb b o hb e) f0 f1 f3 f4 f5⟩
 self:=fun _ _ _ _ _ st h=>wpAny_pyIter_rangeiter st h
end L2
namespace L2
open PySem PySem.Spec PyProof.Rows
section
variable {X:Cx} {tg:Expr}
def QV (K:PySem.W.Frag) (tl:TE):TI:=fun σ H R=>tl σ H fun x H1=>∃a,x= .ref a∧(∃xs,SqL K H1 a xs)∧R (RO K a) H1
def T6 (K:PySem.W.Frag) (tl:TE):TI:=fun σ H R=>tl σ H fun x H1=>∃a,x= .ref a∧(∃xs,SqT K H1 a xs)∧R (S9 K a) H1
theorem Br {l:Expr} {tl:TE} (hl:PE X l tl):PI X tg l (QV X.K tl):=by
 intro pins s σ H R I h
 refine Ay (hl pins s σ H _ I h) fun v s1 ⟨x,H1,I1,r1,q1⟩=>?_
 obtain⟨a,e,⟨xs,hq⟩,q⟩:=q1
 subst e
 cases r1
 obtain⟨its,rv,p,hz⟩:=I1.list hq
 refine wpAny_pyIter_list p.isList ?_
 refine⟨s1.heap.objs.size,[s1.heap.objs.size],_,_,H1,rfl,I1.kept (t':=s1.toks) fun b o e=>Heap.get?_push_of_some _ e,MB a _,⟨_,Heap.get?_push_size _ rfl,rfl,rfl⟩,fun b hb=>?_,q⟩
 have e:b=s1.heap.objs.size:=by simpa using hb
 subst e
 exact I1.fpOk (Nat.le_refl _) (I1.hok.fresh (Nat.le_refl _))
theorem Rn {l:Expr} {tl:TE} (hl:PE X l tl):PI X tg l (T6 X.K tl):=by
 intro pins s σ H R I h
 refine Ay (hl pins s σ H _ I h) fun v s1 ⟨x,H1,I1,r1,q1⟩=>?_
 obtain⟨a,e,⟨xs,hq⟩,q⟩:=q1
 subst e
 cases r1
 obtain⟨its,rv,p,hz⟩:=I1.tuple hq
 refine wpAny_pyIter_tuple (show s1.heap.IsTuple a its.toArray from p) ?_
 refine⟨s1.heap.objs.size,[s1.heap.objs.size],_,_,H1,rfl,I1.kept (t':=s1.toks) fun b o e=>Heap.get?_push_of_some _ e,Jn a _,⟨_,Heap.get?_push_size _ rfl,rfl,rfl⟩,fun b hb=>?_,q⟩
 have e:b=s1.heap.objs.size:=by simpa using hb
 subst e
 exact I1.fpOk (Nat.le_refl _) (I1.hok.fresh (Nat.le_refl _))
theorem MT {pins:List (Addr×Obj)} {σ:St} {H:Hp} {s:Shared} {R:It→Hp→Prop} {E:Value→Shared→Prop} {lo hi:Int} {t u v:Tok} {tk:Nat} (I:Inv X pins σ H s) (h1 : -(2^62)≤lo) (h2:lo<2^62) (h3 : -(2^62)≤hi) (h4:hi<2^62)
  (q:R (Sk lo (hi-lo).toNat) H):wpAny (model X.prog X.w) X.A (pyIter (.ref s.heap.objs.size)) (TL X pins σ tg R) E { s with heap:=s.heap.push { cls:=.type "range",data:=.fields #[.int lo t,.int hi u,.int 1 v] },toks:=tk }:=by
 refine wpAny_pyIter_range (IsRange.new ..) (small_one h1 h2 h3 h4) ?_
 have I1:Inv X pins σ H { s with heap:=s.heap.push { cls:=.type "range",data:=.fields #[.int lo t,.int hi u,.int 1 v] },toks:=tk }:=I.kept fun b o e=>Heap.get?_push_of_some _ e
 refine⟨(s.heap.push { cls:=.type "range",data:=.fields #[.int lo t,.int hi u,.int 1 v] }).objs.size,[(s.heap.push { cls:=.type "range",data:=.fields #[.int lo t,.int hi u,.int 1 v] }).objs.size],_,_,H,rfl,
  I1.kept (t':=tk) fun b o e=>Heap.get?_push_of_some _ e,Jj _ lo (hi-lo).toNat,?_,fun b hb=>?_,q⟩
 ·have e1:lo+((0:Nat):Int)*1=lo:=by simp
  have e2:(((hi-lo).toNat:Nat):Int)-((0:Nat):Int)=Builtin.Range.rangeSize lo hi 1:=by rw[rangeSize_one];split<;>omega
  show IsRangeIter _ _ (lo+((0:Nat):Int)*1) ((((hi-lo).toNat:Nat):Int)-((0:Nat):Int)) 1
  rw[e1,e2]
  exact Heap.get?_push_size _ rfl
 ·have e:b=(s.heap.push { cls:=.type "range",data:=.fields #[.int lo t,.int hi u,.int 1 v] }).objs.size:=by simpa using hb
  subst e
  exact I1.fpOk (Nat.le_refl _) (I1.hok.fresh (Nat.le_refl _))
def Tg (ta:TA):TI:=fun σ H R=>ta σ H fun vs H1=>∃j:Int,vs=[.int j]∧-(2^62)≤j∧j<2^62∧R (Sk 0 j.toNat) H1
theorem DU {a:Expr} {ta:TA} {p pos:Pos} (hg:Gl X "range") (hm:X.mg "range"=none) (ha:PA X [a] ta) (hs:starEach [a] X.env=[(false,eval a X.env)]:=by rfl):PI X tg (.Call (.Name "range" p) [a] [] pos) (Tg ta):=by
 intro pins s σ H R I h
 refine Call_ (De I hg hm boot_range (PyProof.Rows.callWith_type1 (Ay (ha pos pins s σ H _ I h) fun us s1 ⟨vs,H1,I1,r1,q1⟩=>?_) hs rfl))
 obtain⟨j,e,q1,q2,q⟩:=q1
 subst e
 cases r1 with
 | cons r rr=>
  cases rr
  obtain⟨t,rfl⟩:=r
  exact call_range_1 (MT I1 (by omega) (by omega) q1 q2 (by simpa using q))
def Jp (wi:TI) (g:TG) (tb:TS):TS:=fun D σ H=>wi σ H fun J H1=>∃W:Nat→Nat→St→Hp→Prop,(∃m,W 0 m σ H1)∧∀i m σ H,W i m σ H→
 (J.stop i H∧D.nx σ H)∨(J.go i H∧∃N:St→Hp→Prop,(∀σ' H',N σ' H'→∃m',m'<m∧W (i+1) m' σ' H')∧∀x H',J.yld i H x H'→g x σ H' fun σ2 H2=>tb { D with nx:=N,ct:=N,bk:=D.nx } σ2 H2)
def E5 (fp:List Addr) (h:Heap):List (Addr×Obj):=fp.filterMap fun b=>(h.get? b).map fun o=>(b,o)
theorem Cc {fp:List Addr} {h:Heap} {b:Addr} {o:Obj} (hb:b∈fp) (e:h.get? b=some o):(b,o)∈E5 fp h:=List.mem_filterMap.mpr ⟨b,hb,by rw[e];rfl⟩
theorem LZ {fp:List Addr} {h:Heap} {p:Addr×Obj} (hp:p∈E5 fp h):p.1∈fp∧h.get? p.1=some p.2:=by
 obtain⟨b,hb,e⟩:=List.mem_filterMap.mp hp
 cases q:h.get? b with
 | none=>rw[q] at e;cases e
 | some o=>
  rw[q] at e
  have e':(b,o)=p:=Option.some.inj e
  subst e'
  exact⟨hb,q⟩
theorem Inv.pinned {pins:List (Addr×Obj)} {σ:St} {H:Hp} {s:Shared} {fp:List Addr} (I:Inv X pins σ H s) (hf:∀b∈fp,B2 X pins H b) (ho:∀b∈fp,∃o,s.heap.get? b=some o∧∀v,o.data≠.cell v):Inv X (pins++E5 fp s.heap) σ H s:=
 I.pins_of fun p hp=>(List.mem_append.mp hp).elim (fun z=>I.pin p (List.mem_append_right _ z)) fun z=>by
  obtain⟨hb,e⟩:=LZ z
  obtain⟨f0,f1,f2,_⟩:=hf p.1 hb
  obtain⟨o,e',d⟩:=ho p.1 hb
  rw[e] at e';cases e'
  exact⟨e,f0,f1,f2,d⟩
theorem Inv.unpinned {pins pl:List (Addr×Obj)} {σ:St} {H:Hp} {s:Shared} (I:Inv X (pins++pl) σ H s):Inv X pins σ H s:=I.pins_of fun p hp=>I.pin p (List.mem_append_right _ (List.mem_append_left _ hp))
theorem CG {iter:Expr} {body:List Stmt} {wi:TI} {g:TG} {tb:TS} {pos:Pos} (hp:PassesOwn (model X.prog X.w) X.A X.env X.xe) (hc:X.calm=true) (hi:PI X tg iter wi) (hg:PG X tg g) (hb:PSs X body tb)
  (hs:∀x,foldedSetIterable iter X.env x=pure x:=by intro _;rfl):PS X (.For tg iter body [] pos) (Jp wi g tb):=by
 intro pins s σ H D I h
 refine wpAny_For (Ay (hi pins s σ H _ I h) fun v s1 h1=>Ay h1 fun itv s2 h2=>?_) hs
 obtain⟨it,fp,tn,J,H2,e,I2,T,st2,f2,W,⟨m0,w0⟩,turn⟩:=h2
 subst e
 have stat:∀{H':Hp},(∀b∈fp,H' b=none)→∀b∈fp,B2 X pins H' b:=fun hn b hb=>⟨hn b hb,(f2 b hb).2⟩
 refine codeAny_forLoop_any (fun n s'=>∃i σ' H',Inv X pins σ' H' s'∧tn i s'.heap∧(∀b∈fp,H' b=none)∧W i n σ' H') ?_ m0 ⟨0,σ,H2,I2,st2,fun b hb=>(f2 b hb).1,w0⟩
 rintro n s3 ⟨i,σ3,H3,I3,st3,fr3,w3⟩
 rcases turn i n σ3 H3 w3 with⟨stop,qn⟩|⟨go,N,hN,step⟩
 ·refine wpAny_passesOwn hp (Ay (T.done X rfl rfl rfl hc i pins s3 σ3 H3 X.xe I3 (stat fr3) st3 stop) fun r s4 ⟨hr,I4⟩=>?_)
  subst hr
  exact wpAny_execs_nil ⟨σ3,H3,I4,qn⟩
 ·refine wpAny_passesOwn hp (Ay (T.item X rfl rfl rfl hc i pins s3 σ3 H3 X.xe I3 (stat fr3) st3 go) fun r s4 ⟨u,hr,h4⟩=>?_)
  subst hr
  refine wpAny_passesOwn hp (Ay h4 fun _ s5 ⟨x,H5,I5,r5,y5,st5,fr5⟩=>?_)
  have I5':=I5.pinned (stat fr5) (T.obj _ _ st5)
  refine wpAny_passesOwn hp (Ay (hg _ s5 σ3 H5 x u _ I5' r5 (step x H5 y5)) fun _ s6 ⟨σ6,H6,I6,q6⟩=>?_)
  refine wpAny_passesOwn hp (Ay (hb _ s6 σ6 H6 _ I6 q6) fun f s7 q7=>?_)
  have again:∀{σ7:St} {H7:Hp},Inv X (pins++E5 fp s5.heap) σ7 H7 s7→N σ7 H7→∃m,m<n∧∃i σ' H',Inv X pins σ' H' s7∧tn i s7.heap∧(∀b∈fp,H' b=none)∧W i m σ' H':=fun {σ7 H7} I7 n7=>by
   obtain⟨m',hm,w7⟩:=hN σ7 H7 n7
   refine⟨m',hm,i+1,σ7,H7,I7.unpinned,T.keep _ _ _ st5 fun b hb o e=>(I7.pin (b,o) (List.mem_append_right _ (List.mem_append_right _ (Cc hb e)))).1,fun b hb=>?_,w7⟩
   obtain⟨o,e,d⟩:=T.obj _ _ st5 b hb
   exact (I7.pin (b,o) (List.mem_append_right _ (List.mem_append_right _ (Cc hb e)))).2.1
  cases f with
  | next=>obtain⟨σ7,H7,I7,n7⟩:=q7;exact again I7 n7
  | cont=>obtain⟨σ7,H7,I7,n7⟩:=q7;exact again I7 n7
  | brk=>obtain⟨σ7,H7,I7,q7⟩:=q7;exact⟨σ7,H7,I7.unpinned,q7⟩
  | ret v=>obtain⟨x7,σ7,H7,I7,r7,q7⟩:=q7;exact⟨x7,σ7,H7,I7.unpinned,r7,q7⟩
end
theorem Bc {K:PySem.W.Frag} {a:Addr} {xs:List V} {g:TG} {tb:TS} {D:Ends} {σ:St} {H:Hp} (Pv:Nat→St→Hp→Prop) (h0:Pv 0 σ H) (hl:∀i σ H,i≤xs.length→Pv i σ H→SqL K H a xs)
  (hs:∀i x σ H,xs[i]? = some x→Pv i σ H→g x σ H fun σ2 H2=>tb { D with nx:=Pv (i+1),ct:=Pv (i+1),bk:=D.nx } σ2 H2) (hd:∀σ H,Pv xs.length σ H→D.nx σ H) :
  ∃W:Nat→Nat→St→Hp→Prop,(∃m,W 0 m σ H)∧∀i m σ H,W i m σ H→
   ((RO K a).stop i H∧D.nx σ H)∨((RO K a).go i H∧∃N:St→Hp→Prop,(∀σ' H',N σ' H'→∃m',m'<m∧W (i+1) m' σ' H')∧∀x H',(RO K a).yld i H x H'→g x σ H' fun σ2 H2=>tb { D with nx:=N,ct:=N,bk:=D.nx } σ2 H2):=by
 refine⟨fun i m σ H=>m=xs.length-i∧i≤xs.length∧Pv i σ H,⟨xs.length,by simp,Nat.zero_le _,h0⟩,?_⟩
 rintro i m σ H ⟨rfl,hi,p⟩
 have q:=hl i σ H hi p
 by_cases hlt:i<xs.length
 ·refine .inr ⟨⟨xs,xs[i],q,by simp[hlt]⟩,Pv (i+1),fun σ' H' p'=>⟨xs.length-(i+1),by omega,rfl,hlt,p'⟩,fun x H' y=>?_⟩
  obtain⟨e,y⟩:=y
  subst e
  exact hs i x σ _ (y xs q) p
 ·have e:i=xs.length:=by omega
  subst e
  exact .inl ⟨⟨xs,q,Nat.le_refl _⟩,hd σ H p⟩
theorem Qk {K:PySem.W.Frag} {a:Addr} {xs:List V} {g:TG} {tb:TS} {D:Ends} {σ:St} {H:Hp} (Pv:Nat→St→Hp→Prop) (h0:Pv 0 σ H) (hl:∀i σ H,i≤xs.length→Pv i σ H→SqT K H a xs)
  (hs:∀i x σ H,xs[i]? = some x→Pv i σ H→g x σ H fun σ2 H2=>tb { D with nx:=Pv (i+1),ct:=Pv (i+1),bk:=D.nx } σ2 H2) (hd:∀σ H,Pv xs.length σ H→D.nx σ H) :
  ∃W:Nat→Nat→St→Hp→Prop,(∃m,W 0 m σ H)∧∀i m σ H,W i m σ H→
   ((S9 K a).stop i H∧D.nx σ H)∨((S9 K a).go i H∧∃N:St→Hp→Prop,(∀σ' H',N σ' H'→∃m',m'<m∧W (i+1) m' σ' H')∧∀x H',(S9 K a).yld i H x H'→g x σ H' fun σ2 H2=>tb { D with nx:=N,ct:=N,bk:=D.nx } σ2 H2):=by
 refine⟨fun i m σ H=>m=xs.length-i∧i≤xs.length∧Pv i σ H,⟨xs.length,by simp,Nat.zero_le _,h0⟩,?_⟩
 rintro i m σ H ⟨rfl,hi,p⟩
 have q:=hl i σ H hi p
 by_cases hlt:i<xs.length
 ·refine .inr ⟨⟨xs,xs[i],q,by simp[hlt]⟩,Pv (i+1),fun σ' H' p'=>⟨xs.length-(i+1),by omega,rfl,hlt,p'⟩,fun x H' y=>?_⟩
  obtain⟨e,y⟩:=y
  subst e
  exact hs i x σ _ (y xs q) p
 ·have e:i=xs.length:=by omega
  subst e
  exact .inl ⟨⟨xs,q,Nat.le_refl _⟩,hd σ H p⟩
theorem DM {lo:Int} {n:Nat} {g:TG} {tb:TS} {D:Ends} {σ:St} {H:Hp} (Pv:Nat→St→Hp→Prop) (h0:Pv 0 σ H)
  (hs:∀i σ H,i<n→Pv i σ H→g (.int (lo+i)) σ H fun σ2 H2=>tb { D with nx:=Pv (i+1),ct:=Pv (i+1),bk:=D.nx } σ2 H2) (hd:∀σ H,Pv n σ H→D.nx σ H) :
  ∃W:Nat→Nat→St→Hp→Prop,(∃m,W 0 m σ H)∧∀i m σ H,W i m σ H→
   ((Sk lo n).stop i H∧D.nx σ H)∨((Sk lo n).go i H∧∃N:St→Hp→Prop,(∀σ' H',N σ' H'→∃m',m'<m∧W (i+1) m' σ' H')∧∀x H',(Sk lo n).yld i H x H'→g x σ H' fun σ2 H2=>tb { D with nx:=N,ct:=N,bk:=D.nx } σ2 H2):=by
 refine⟨fun i m σ H=>m=n-i∧i≤n∧Pv i σ H,⟨n,by simp,Nat.zero_le _,h0⟩,?_⟩
 rintro i m σ H ⟨rfl,hi,p⟩
 by_cases hlt:i<n
 ·refine .inr ⟨hlt,Pv (i+1),fun σ' H' p'=>⟨n-(i+1),by omega,rfl,hlt,p'⟩,fun x H' y=>?_⟩
  obtain⟨e,y⟩:=y
  subst e y
  exact hs i σ _ hlt p
 ·have e:i=n:=by omega
  subst e
  exact .inl ⟨Nat.le_refl _,hd σ H p⟩
end L2
namespace L2
open PySem PySem.Spec PyProof.Rows
abbrev R2:=V→V→Hp→VK→Prop
def Ca (X:Cx) (f:Value→Value→Sem Value) (r:R2):Prop:=
 ∀(pins:List (Addr×Obj)) (s:Shared) (σ:St) (H:Hp) (x y:V) (v u:Value) (Q:VK),Inv X pins σ H s→RelV x v→RelV y u→r x y H Q→
  wpAny (model X.prog X.w) X.A (f v u) (EP X pins σ Q) X.xe s
def UD (X:Cx) (f:Value→Sem Value) (r:V→Hp→VK→Prop):Prop:=
 ∀(pins:List (Addr×Obj)) (s:Shared) (σ:St) (H:Hp) (x:V) (v:Value) (Q:VK),Inv X pins σ H s→RelV x v→r x H Q→
  wpAny (model X.prog X.w) X.A (f v) (EP X pins σ Q) X.xe s
def Bp (X:Cx) (f:Value) (r:List V→Hp→VK→Prop):Prop:=
 ∀(pins:List (Addr×Obj)) (s:Shared) (σ:St) (H:Hp) (xs:List V) (us:List Value) (Q:VK),Inv X pins σ H s→Vals xs us→r xs H Q→
  wpAny (model X.prog X.w) X.A (call f us) (EP X pins σ Q) X.xe s
def Ua (X:Cx) (r:V→Hp→(Bool→Hp→Prop)→Prop):Prop:=
 ∀(pins:List (Addr×Obj)) (s:Shared) (σ:St) (H:Hp) (x:V) (v:Value) (Q:Bool→Hp→Prop),Inv X pins σ H s→RelV x v→r x H Q→
  wpAny (model X.prog X.w) X.A (truthy v) (TP X pins σ Q) X.xe s
def Ty (r:R2) (ta tb:TE):TE:=fun σ H Q=>ta σ H fun x H1=>tb σ H1 fun y H2=>r x y H2 Q
def U0 (r:V→Hp→VK→Prop) (ta:TE):TE:=fun σ H Q=>ta σ H fun x H1=>r x H1 Q
def rI (C:Int→Int→Prop) (g:Int→Int→V):R2:=fun x y H Q=>∃i j,x= .int i∧y= .int j∧C i j∧Q (g i j) H
def PD (g:Int→Int→V):R2:=fun x y H Q=>∃i j,x= .int i∧y= .int j∧Q (g i j) H
def rU (g:Int→V):V→Hp→VK→Prop:=fun x H Q=>∃i,x= .int i∧Q (g i) H
section
variable {X:Cx} {a b c:Expr} {ta tb tc:TE} {pos:Pos}
theorem R7 (ha:PE X a ta) (hb:PE X b tb) {pins:List (Addr×Obj)} {s:Shared} {σ:St} {H:Hp} {R:V→V→Hp→Prop} (I:Inv X pins σ H s)
  (h:ta σ H fun x H1=>tb σ H1 fun y H2=>R x y H2) {Q:Value→Shared→Prop} {f:Value→Value→Sem Value}
  (hf:∀v u s2 x y H2,Inv X pins σ H2 s2→RelV x v→RelV y u→R x y H2→wpAny (model X.prog X.w) X.A (f v u) Q X.xe s2) :
  wpAny (model X.prog X.w) X.A (eval a X.env) (fun v s₁=>wpAny (model X.prog X.w) X.A (eval b X.env) (fun u s₂=>wpAny (model X.prog X.w) X.A (f v u) Q X.xe s₂) X.xe s₁) X.xe s:=by
 refine Ay (ha pins s σ H _ I h) fun v s1 ⟨x,H1,I1,r1,q1⟩=>?_
 refine Ay (hb pins s1 σ H1 _ I1 q1) fun u s2 ⟨y,H2,I2,r2,q2⟩=>?_
 exact hf v u s2 x y H2 I2 r1 r2 q2
theorem AE {op:Operator} {r:R2} (ho:Ca X (binaryOp op) r) (ha:PE X a ta) (hb:PE X b tb):PE X (.BinOp a op b pos) (Ty r ta tb):=by
 intro pins s σ H Q I h
 exact wpAny_BinOp (R7 ha hb I h fun v u s2 x y H2 I2 rx ry q=>ho pins s2 σ H2 x y v u Q I2 rx ry q)
theorem FF {op:UnaryOp} {r:V→Hp→VK→Prop} (ho:UD X (unaryOp op) r) (ha:PE X a ta):PE X (.UnaryOp op a pos) (U0 r ta):=by
 intro pins s σ H Q I h
 exact UnaryOp_ (Ay (ha pins s σ H _ I h) fun v s1 ⟨x,H1,I1,r1,q1⟩=>ho pins s1 σ H1 x v Q I1 r1 q1)
theorem Sm {f:Value→Value→Sem Value} {C:Int→Int→Prop} {g:Int→Int→Int}
  (rule:∀(i j:Int) (t u:Tok) (s:Shared) (Q:Value→Shared→Prop) (E:Value→Shared→Prop),C i j→Q (.int (g i j) s.toks) { s with toks:=s.toks+1 }→wpAny (model X.prog X.w) X.A (f (.int i t) (.int j u)) Q E s) :
  Ca X f (rI C fun i j=>.int (g i j)):=by
 intro pins s σ H x y v u Q I rx ry h
 obtain⟨i,j,rfl,rfl,hc,q⟩:=h
 obtain⟨t,rfl⟩:=rx
 obtain⟨t',rfl⟩:=ry
 exact rule i j t t' s _ _ hc ⟨.int (g i j),H,I.tok _,⟨_,rfl⟩,q⟩
theorem RJ {f:Value→Value→Sem Value} {g:Int→Int→Int}
  (rule:∀(i j:Int) (t u:Tok) (s:Shared) (Q:Value→Shared→Prop) (E:Value→Shared→Prop),Q (.int (g i j) s.toks) { s with toks:=s.toks+1 }→wpAny (model X.prog X.w) X.A (f (.int i t) (.int j u)) Q E s) :
  Ca X f (PD fun i j=>.int (g i j)):=by
 intro pins s σ H x y v u Q I rx ry h
 obtain⟨i,j,rfl,rfl,q⟩:=h
 obtain⟨t,rfl⟩:=rx
 obtain⟨t',rfl⟩:=ry
 exact rule i j t t' s _ _ ⟨.int (g i j),H,I.tok _,⟨_,rfl⟩,q⟩
theorem QL {f:Value→Value→Sem Value} {g:Int→Int→Bool}
  (rule:∀(i j:Int) (t u:Tok) (s:Shared) (Q:Value→Shared→Prop) (E:Value→Shared→Prop),Q (.bool (g i j)) s→wpAny (model X.prog X.w) X.A (f (.int i t) (.int j u)) Q E s) :
  Ca X f (PD fun i j=>.bl (g i j)):=by
 intro pins s σ H x y v u Q I rx ry h
 obtain⟨i,j,rfl,rfl,q⟩:=h
 obtain⟨t,rfl⟩:=rx
 obtain⟨t',rfl⟩:=ry
 exact rule i j t t' s _ _ ⟨.bl (g i j),H,I,rfl,q⟩
def TQ (i j:Int):Prop:=0<j∧j<1073741824
def SW (i j:Int):Prop:=0≤j∧j≤1000000∧i.natAbs<2^64
def CMul (i j:Int):Prop:=(-(2^64)<i∧i<2^64)∨(-(2^64)<j∧j<2^64)
theorem CMul.ok {i j:Int} (h:CMul i j):IntMulOk i j:=by
 rcases h with⟨h1,h2⟩|⟨h1,h2⟩
 ·exact .of_left (intBits_le_64 h1 h2)
 ·exact .of_right (intBits_le_64 h1 h2)
theorem JJ (k:Nat):(0:Int)≤2^k:=by
 rw[two_pow_cast]
 exact Int.natCast_nonneg _
theorem Dd:Ca X (binaryOp .Add) (PD fun i j=>.int (i+j)):=RJ fun _ _ _ _ _ _ _ q=>add_int q
theorem N3:Ca X (binaryOp .Sub) (PD fun i j=>.int (i-j)):=RJ fun _ _ _ _ _ _ _ q=>sub_int q
theorem Fn:Ca X (binaryOp .Mult) (rI CMul fun i j=>.int (i*j)):=Sm fun _ _ _ _ _ _ _ hc q=>mul_int q hc.ok
theorem K9:Ca X (binaryOp .FloorDiv) (rI TQ fun i j=>.int (i / j)):=Sm fun i j _ _ _ _ _ hc q=>by
 have h1:(0:Int)<j:=hc.1
 have h2:j<1073741824:=hc.2
 exact floordiv_int (by omega) (by rw[Int.fdiv_eq_ediv_of_nonneg i (by omega)];exact q) (.inl (PyProof.noPylong_small (by omega)))
theorem Dh:Ca X (binaryOp .Mod) (rI (fun _ j=>0<j) fun i j=>.int (i%j)):=Sm fun i j _ _ _ _ _ hc q=>by
 have h1:(0:Int)<j:=hc
 exact mod_int' (by omega) (by rw[Int.fmod_eq_emod_of_nonneg i (by omega)];exact q)
theorem RN:Ca X (binaryOp .Pow) (rI SW fun i j=>.int (i^j.toNat)):=Sm fun _ _ _ _ _ _ _ hc q=>pow_int_small hc.1 hc.2.1 hc.2.2 q
theorem R4:Ca X (binaryOp .LShift) (rI SW fun i j=>.int (i*2^j.toNat)):=Sm fun _ _ _ _ _ _ _ hc q=>lshift_int_small hc.1 hc.2.1 hc.2.2 q
theorem RA:Ca X (binaryOp .RShift) (rI (fun _ j=>0≤j) fun i j=>.int (i / 2^j.toNat)):=Sm fun i j _ _ _ _ _ hc q=>
 rshift_int hc (by rw[Int.fdiv_eq_ediv_of_nonneg i (JJ _)];exact q)
theorem R5:Ca X (binaryOp .BitAnd) (PD fun i j=>.int (Builtin.bitAnd i j)):=RJ fun _ _ _ _ _ _ _ q=>and_int q
theorem UU {f:Value→Sem Value} {g:Int→Int}
  (rule:∀(i:Int) (t:Tok) (s:Shared) (Q:Value→Shared→Prop) (E:Value→Shared→Prop),Q (.int (g i) s.toks) { s with toks:=s.toks+1 }→wpAny (model X.prog X.w) X.A (f (.int i t)) Q E s) :
  UD X f (rU fun i=>.int (g i)):=by
 intro pins s σ H x v Q I rx h
 obtain⟨i,rfl,q⟩:=h
 obtain⟨t,rfl⟩:=rx
 exact rule i t s _ _ ⟨.int (g i),H,I.tok _,⟨_,rfl⟩,q⟩
theorem DZ:UD X (unaryOp .USub) (rU fun i=>.int (-i)):=UU fun _ _ _ _ _ q=>neg_int q
end
def SB:V→V→Bool
 | .non,.non=>true | .non,.int _=>true | .int _,.non=>true | .non,.bl _=>true | .bl _,.non=>true | .non,.str _=>true | .str _,.non=>true
 | .int _,.int _=>true | .bl _,.bl _=>true | .str _,.str _=>true | .byt _,.byt _=>true
 | .int _,.str _=>true | .str _,.int _=>true | .bl _,.str _=>true | .str _,.bl _=>true
 | _,_=>false
def UP:R2:=fun x y H Q=>SB x y=true∧Q (.bl (decide (x=y))) H
def U1:R2:=fun x y H Q=>SB x y=true∧Q (.bl (!decide (x=y))) H
theorem Ku {i j:Int}:decide (V.int i=V.int j)=(i == j):=by
 rw[Bool.eq_iff_iff]
 simp
theorem NL {i j:Bool}:decide (V.bl i=V.bl j)=(i == j):=by
 rw[Bool.eq_iff_iff]
 simp
theorem KK {i j:Str}:decide (V.str i=V.str j)=(i == j):=by
 rw[Bool.eq_iff_iff]
 simp
theorem Lk {i j:Array UInt8}:decide (V.byt i=V.byt j)=(i.toList == j.toList):=by
 rw[Bool.eq_iff_iff]
 cases i
 cases j
 simp
section
variable {X:Cx} {a b c:Expr} {ta tb tc:TE} {pos:Pos}
theorem AD {pins:List (Addr×Obj)} {σ:St} {H:Hp} {s:Shared} {Q:VK} {k k':Bool} (I:Inv X pins σ H s) (q:Q (.bl k) H) (e:k=k'):EP X pins σ Q (.bool k') s:=by
 subst e
 exact⟨.bl k,H,I,rfl,q⟩
theorem AO:Ca X (compareOp .Eq) UP:=by
 intro pins s σ H x y v u Q I rx ry h
 obtain⟨hs,q⟩:=h
 cases x with
 | non=>
  cases rx
  cases y with
  | non=>cases ry;exact PySem.EqNone.eq_none_none (AD I q (by simp))
  | bl j=>cases ry;exact PySem.EqNone.eq_none_bool (AD I q (by simp))
  | int j=>obtain⟨t',rfl⟩:=ry;exact PySem.EqNone.eq_none_int (AD I q (by simp))
  | str j=>obtain⟨t',rfl⟩:=ry;exact PySem.EqNone.eq_none_str (AD I q (by simp))
  | _=>exact absurd (show false=true from hs) Bool.false_ne_true
 | bl i=>
  cases rx
  cases y with
  | non=>cases ry;exact PySem.EqNone.eq_bool_none (AD I q (by simp))
  | bl j=>cases ry;exact eq_bool (AD I q NL)
  | str j=>obtain⟨t',rfl⟩:=ry;exact PySem.EqMixed.eq_bool_str (AD I q (by simp))
  | _=>exact absurd (show false=true from hs) Bool.false_ne_true
 | int i=>
  obtain⟨t,rfl⟩:=rx
  cases y with
  | non=>cases ry;exact PySem.EqNone.eq_int_none (AD I q (by simp))
  | int j=>obtain⟨t',rfl⟩:=ry;exact eq_int (AD I q Ku)
  | str j=>obtain⟨t',rfl⟩:=ry;exact PySem.EqMixed.eq_int_str (AD I q (by simp))
  | _=>exact absurd (show false=true from hs) Bool.false_ne_true
 | str i=>
  obtain⟨t,rfl⟩:=rx
  cases y with
  | non=>cases ry;exact PySem.EqNone.eq_str_none (AD I q (by simp))
  | bl j=>cases ry;exact PySem.EqMixed.eq_str_bool (AD I q (by simp))
  | int j=>obtain⟨t',rfl⟩:=ry;exact PySem.EqMixed.eq_str_int (AD I q (by simp))
  | str j=>obtain⟨t',rfl⟩:=ry;exact eq_str (AD I q KK)
  | _=>exact absurd (show false=true from hs) Bool.false_ne_true
 | byt i=>
  obtain⟨t,rfl⟩:=rx
  cases y with
  | byt j=>obtain⟨t',rfl⟩:=ry;exact PySem.W.eq_bytes (AD I q Lk)
  | _=>exact absurd (show false=true from hs) Bool.false_ne_true
 | _=>cases y<;>exact absurd (show false=true from hs) Bool.false_ne_true
theorem QP:Ca X (compareOp .NotEq) U1:=by
 intro pins s σ H x y v u Q I rx ry h
 obtain⟨hs,q⟩:=h
 cases x with
 | non=>
  cases rx
  cases y with
  | non=>cases ry;exact PySem.EqNone.ne_none_none (AD I q (by simp))
  | bl j=>cases ry;exact PySem.EqNone.ne_none_bool (AD I q (by simp))
  | int j=>obtain⟨t',rfl⟩:=ry;exact PySem.EqNone.ne_none_int (AD I q (by simp))
  | str j=>obtain⟨t',rfl⟩:=ry;exact PySem.EqNone.ne_none_str (AD I q (by simp))
  | _=>exact absurd (show false=true from hs) Bool.false_ne_true
 | bl i=>
  cases rx
  cases y with
  | non=>cases ry;exact PySem.EqNone.ne_bool_none (AD I q (by simp))
  | bl j=>cases ry;exact ne_bool (AD I q (congrArg not NL))
  | str j=>obtain⟨t',rfl⟩:=ry;exact PySem.EqMixed.ne_bool_str (AD I q (by simp))
  | _=>exact absurd (show false=true from hs) Bool.false_ne_true
 | int i=>
  obtain⟨t,rfl⟩:=rx
  cases y with
  | non=>cases ry;exact PySem.EqNone.ne_int_none (AD I q (by simp))
  | int j=>obtain⟨t',rfl⟩:=ry;exact ne_int (AD I q (congrArg not Ku))
  | str j=>obtain⟨t',rfl⟩:=ry;exact PySem.EqMixed.ne_int_str (AD I q (by simp))
  | _=>exact absurd (show false=true from hs) Bool.false_ne_true
 | str i=>
  obtain⟨t,rfl⟩:=rx
  cases y with
  | non=>cases ry;exact PySem.EqNone.ne_str_none (AD I q (by simp))
  | bl j=>cases ry;exact PySem.EqMixed.ne_str_bool (AD I q (by simp))
  | int j=>obtain⟨t',rfl⟩:=ry;exact PySem.EqMixed.ne_str_int (AD I q (by simp))
  | str j=>obtain⟨t',rfl⟩:=ry;exact ne_str (AD I q (congrArg not KK))
  | _=>exact absurd (show false=true from hs) Bool.false_ne_true
 | byt i=>
  obtain⟨t,rfl⟩:=rx
  cases y with
  | byt j=>obtain⟨t',rfl⟩:=ry;exact PySem.W.ne_bytes (AD I q (congrArg not Lk))
  | _=>exact absurd (show false=true from hs) Bool.false_ne_true
 | _=>cases y<;>exact absurd (show false=true from hs) Bool.false_ne_true
theorem QZ:Ca X (compareOp .Lt) (PD fun i j=>.bl (decide (i<j))):=QL fun _ _ _ _ _ _ _ q=>lt_int q
theorem QR:Ca X (compareOp .LtE) (PD fun i j=>.bl (decide (i≤j))):=QL fun _ _ _ _ _ _ _ q=>le_int q
theorem Sw:Ca X (compareOp .Gt) (PD fun i j=>.bl (decide (j<i))):=QL fun _ _ _ _ _ _ _ q=>gt_int q
theorem QS:Ca X (compareOp .GtE) (PD fun i j=>.bl (decide (j≤i))):=QL fun _ _ _ _ _ _ _ q=>ge_int q
theorem FW:Ca X (compareOp .In) (fun x y H Q=>∃i j,x= .str i∧y= .str j∧Q (.bl (!(Builtin.Str.occurrences j i 0 j.length 1).isEmpty)) H):=by
 intro pins s σ H x y v u Q I rx ry h
 obtain⟨i,j,rfl,rfl,q⟩:=h
 obtain⟨t,rfl⟩:=rx
 obtain⟨t',rfl⟩:=ry
 exact in_str (AD I q rfl)
theorem As (b:Expr) {op:CmpOp} (h:op≠.In:=by decide) (h2:op≠.NotIn:=by decide):behindInMarks op b=false:=by
 have e1:(op == CmpOp.In)=false:=by cases op<;>first | rfl | exact absurd rfl h
 have e2:(op == CmpOp.NotIn)=false:=by cases op<;>first | rfl | exact absurd rfl h2
 cases b<;>simp[behindInMarks,e1,e2]
theorem BQ {op:CmpOp} {r:R2} (ho:Ca X (compareOp op) r) (ha:PE X a ta) (hb:PE X b tb) (hm:behindInMarks op b=false):PE X (.Compare a [op] [b] pos) (Ty r ta tb):=by
 intro pins s σ H Q I h
 exact wpAny_Compare1 (R7 ha hb I h fun v u s2 x y H2 I2 rx ry q=>ho pins s2 σ H2 x y v u Q I2 rx ry q) hm
def QX (t:TE):TT:=fun σ H Q=>t σ H fun x H'=>∃k,x= .bl k∧Q k H'
theorem Am {op:CmpOp} {r:R2} (ho:Ca X (compareOp op) r) (ha:PE X a ta) (hb:PE X b tb) (hm:behindInMarks op b=false):PT X (.Compare a [op] [b] pos) (QX (Ty r ta tb)):=by
 intro pins s σ H Q I h
 refine wpAny_isTrue_Compare1 (Ay (ha pins s σ H _ I h) fun v s1 ⟨x,H1,I1,r1,q1⟩=>Ay (hb pins s1 σ H1 _ I1 q1) fun u s2 ⟨y,H2,I2,r2,q2⟩=>
  Ay (ho pins s2 σ H2 x y v u _ I2 r1 r2 q2) fun c s3 ⟨z,H3,I3,r3,k,e,q3⟩=>?_) hm
 subst e
 cases r3
 exact wpAny_truthy_bool ⟨H3,I3,q3⟩
def Rp (r r':R2) (ta tb tc:TE):TE:=fun σ H Q=>ta σ H fun x H1=>tb σ H1 fun y H2=>r x y H2 fun z H3=>∃k,z= .bl k∧
 (if k=true then tc σ H3 fun w' H4=>r' y w' H4 Q else Q (.bl false) H3)
theorem M4 {op op':CmpOp} {r r':R2} (ho:Ca X (compareOp op) r) (ho':Ca X (compareOp op') r') (ha:PE X a ta) (hb:PE X b tb) (hc:PE X c tc)
  (hm:lastMarks [op,op'] [b,c]=false:=by with_unfolding_all rfl):PT X (.Compare a [op,op'] [b,c] pos) (QX (Rp r r' ta tb tc)):=by
 intro pins s σ H Q I h
 refine isTrue_chain (Ay (ha pins s σ H _ I h) fun v s1 ⟨x,H1,I1,r1,q1⟩=>test_link (Ay (hb pins s1 σ H1 _ I1 q1) fun u s2 ⟨y,H2,I2,r2,q2⟩=>
  Ay (ho pins s2 σ H2 x y v u _ I2 r1 r2 q2) fun d s3 ⟨z,H3,I3,r3,k,e,q3⟩=>?_)) hm
 subst e
 cases r3
 refine wpAny_truthy_bool ?_
 cases k with
 | false=>
  obtain⟨k',e',q'⟩:=q3
  cases e'
  exact ite_ff ⟨H3,I3,q'⟩
 | true=>
  refine ite_tt (test_last (Ay (hc pins s3 σ H3 _ I3 q3) fun w' s4 ⟨z',H4,I4,r4,q4⟩=>Ay (ho' pins s4 σ H4 y z' u w' _ I4 r2 r4 q4) fun d' s5 ⟨z2,H5,I5,r5,k2,e2,q5⟩=>?_))
  subst e2
  cases r5
  exact wpAny_truthy_bool ⟨H5,I5,q5⟩
def Ss (K:PySem.W.Frag) (x:V) (H:Hp) (k:Bool):Prop:=
 match x with
 | .non=>k=false
 | .bl b=>k=b
 | .int i=>k=(i != 0)
 | .str y=>y.length≤sizeLine∧k=((y.length:Int) != 0)
 | .byt y=>y.size≤sizeLine∧k=((y.size:Int) != 0)
 | .ref p=>(∃xs,SqL K H p xs∧k = !xs.isEmpty)∨(∃xs,SqT K H p xs∧k = !xs.isEmpty)∨∃kvs,H p=some (.dK kvs)∧k = !kvs.isEmpty
 | _=>False
theorem JQ {κ:Type} {kvs:List (κ×V)} {vs:List (κ×Value)} (r:KV kvs vs):(!vs.isEmpty) = !kvs.isEmpty:=by
 cases r<;>rfl
theorem Fd {xs:List V} {its:List Value} (r:Vals xs its):(!its.toArray.isEmpty) = !xs.isEmpty:=by
 cases r<;>simp
theorem Df:(sizeLine:Nat)<2^63:=by rw[sizeLine_eq];decide
theorem RC:Ua X (fun x H Q=>∃k,Ss X.K x H k∧Q k H):=by
 intro pins s σ H x v Q I rx h
 obtain⟨k,e,q⟩:=h
 have hl:=Df
 have hs:sizeLine=16777216:=sizeLine_eq
 cases x with
 | non=>
  cases rx
  have e':k=false:=e
  subst e'
  exact truthy_none ⟨H,I,q⟩
 | bl b=>
  cases rx
  have e':k=b:=e
  subst e'
  exact wpAny_truthy_bool ⟨H,I,q⟩
 | int i=>
  obtain⟨t,rfl⟩:=rx
  have e':k=(i != 0):=e
  subst e'
  exact PySem.P.truthy_int ⟨H,I,q⟩
 | str y=>
  obtain⟨t,rfl⟩:=rx
  obtain⟨hy,e'⟩:y.length≤sizeLine∧k=((y.length:Int) != 0):=e
  subst e'
  exact PySem.P.truthy_str (by omega) ⟨H,I.tok _,q⟩
 | byt y=>
  obtain⟨t,rfl⟩:=rx
  obtain⟨hy,e'⟩:y.size≤sizeLine∧k=((y.size:Int) != 0):=e
  subst e'
  exact PySem.W.truthy_bytes (by omega) ⟨H,I.tok _,q⟩
 | ref p=>
  cases rx
  have e':(∃xs,SqL X.K H p xs∧k = !xs.isEmpty)∨(∃xs,SqT X.K H p xs∧k = !xs.isEmpty)∨∃kvs,H p=some (.dK kvs)∧k = !kvs.isEmpty:=e
  rcases e' with⟨xs,hx,e'⟩|⟨xs,hx,e'⟩|⟨kvs,hx,e'⟩
  ·subst e'
   obtain⟨its,r,pl,hz⟩:=I.list hx
   have hlen:=r.length
   exact wpAny_truthy_list pl.isList (by simp only[List.size_toArray];omega) ⟨H,I.tok _,by rw[Fd r];exact q⟩
  ·subst e'
   obtain⟨its,r,pl,hz⟩:=I.tuple hx
   have hlen:=r.length
   exact truthy_tuple pl (by simp only[List.size_toArray];omega) ⟨H,I.tok _,by rw[Fd r];exact q⟩
  ·subst e'
   obtain⟨hz,hS,vs,r,m⟩:kvs.length≤sizeLine∧(p == sysModules)=false∧∃vs,KV kvs vs∧s.heap.DictOf (CY X.prog X.w) p vs:=I.hok p _ hx
   have hlen:kvs.length=vs.length:=Paired.length r
   exact wpAny_truthy_dict hS m (by omega) ⟨H,I.tok _,by rw[JQ r];exact q⟩
 | _=>exact (show False from e).elim
theorem Bk (ha:PE X a ta) (he:∀whole,isTrue a X.env whole=(do let v ←whole;standAt a.pos;holding [v] (truthy v))) :
  PT X a (fun σ H Q=>ta σ H fun x H'=>∃k,Ss X.K x H' k∧Q k H'):=by
 intro pins s σ H Q I h
 exact isTrue_plain (Ay (ha pins s σ H _ I h) fun v s1 ⟨x,H1,I1,r1,q1⟩=>RC pins s1 σ H1 x v Q I1 r1 q1) (he _)
theorem Ci:Ca X (binaryOp .Add) (fun x y H Q=>∃i j,x= .str i∧y= .str j∧i.length+j.length≤sizeLine∧Q (.str (i++j)) H):=by
 intro pins s σ H x y v u Q I rx ry h
 obtain⟨i,j,rfl,rfl,hz,q⟩:=h
 obtain⟨t,rfl⟩:=rx
 obtain⟨t',rfl⟩:=ry
 exact add_str (fun t' tk=>⟨.str (i++j),H,I.tok _,⟨_,rfl⟩,q⟩) hz
theorem BN {x:V} {us:List Value} (r:Vals [x] us):∃u,us=[u]∧RelV x u:=by
 cases r with
 | cons r1 r2=>cases r2;exact⟨_,rfl,r1⟩
theorem QN {x y:V} {us:List Value} (r:Vals [x,y] us):∃u w',us=[u,w']∧RelV x u∧RelV y w':=by
 cases r with
 | cons r1 r2=>
  cases r2 with
  | cons r3 r4=>cases r4;exact⟨_,_,rfl,r1,r3⟩
theorem OM:Bp X (.builtin "abs") (fun xs H Q=>∃i,xs=[.int i]∧Q (.int (if i<0 then -i else i)) H):=by
 intro pins s σ H xs us Q I r h
 obtain⟨i,rfl,q⟩:=h
 obtain⟨u,rfl,t,rfl⟩:=BN r
 exact call_abs_int fun u tk=>⟨.int (if i<0 then -i else i),H,I.tok _,⟨_,rfl⟩,q⟩
end
end L2
namespace L2
open PySem PySem.Spec PyProof.Rows
structure ObjM (h:Heap) (x dx C:Addr) (mA:Str→Option Value):Prop where
 obj:h.get? x=some (PySem.W.instObj C dx)
 ns:h.Ns1 dx mA
 ne:dx≠x
theorem FA {h:Heap} {dx:Addr} {mA:Str→Option Value} (n:h.Ns1 dx mA):∃od,h.get? dx=some od∧∀name,PySem.W.lookIn name od=some (mA name):=by
 obtain⟨o,es,ep,ho,hd,hk,_,hm⟩:=n
 refine⟨o,ho,fun name=>?_⟩
 have e:=hm name
 unfold nsFind findBy at e
 rw[←Array.find?_toList] at e
 unfold PySem.W.lookIn
 rw[hd]
 dsimp only
 split
 ·rename_i y q
  rw[q] at e
  exact congrArg some e
 ·rename_i q
  rw[q] at e
  have a:es.toList.any (·.refKey)=false:=by
   rw[List.any_eq_false]
   intro y hy
   obtain⟨z,t,hkey⟩:=hk y (Array.mem_toList_iff.mp hy)
   simp[DictEntry.refKey,hkey]
  have a':¬es.toList.any (·.refKey)=true:=by rw[a];exact Bool.false_ne_true
  rw[if_neg a']
  exact congrArg some e
theorem ObjM.look {h:Heap} {x dx C:Addr} {mA:Str→Option Value} (I:ObjM h x dx C mA):∃od,PySem.W.InstAt h x (PySem.W.instObj C dx) C (some od)∧∀name,PySem.W.lookIn name od=some (mA name):=
 let ⟨od,ho,hl⟩:=FA I.ns
 ⟨od,⟨I.obj,rfl,rfl,ho⟩,hl⟩
section
variable {prog:Program} {w:World} {A:Around} {E:Value→Shared→Prop} {s:Shared} {K:PySem.W.Frag} {x dx C f:Addr} {mA:Str→Option Value} {name:Str} {v:Value}
theorem Qh {expr:Bool} {Q:Value→Shared→Prop} (X:K.In s.heap) (I:ObjM s.heap x dx C mA) (hg:PySem.W.plainGet K C name=true) (hh:PySem.W.hasDictIn K C=true)
  (ha:PySem.W.findIn K (.ref C) name=some none) (hv:mA name=some v) (hv':PySem.W.handedIn v=true) (h:Q v { s with toks:=s.toks+1 }) :
  wpAny (model prog w) A (getAttr (.ref x) name expr) Q E s:=by
 obtain⟨od,J,hl⟩:=I.look
 exact PySem.W.get_value X J (PySem.W.plainGet_of hg).1 (PySem.W.findObj_own hh ha rfl (by rw[hl,hv])) hv' h
theorem OQ {pl:Sem Bool} {Q:Value×List Value→Shared→Prop} (X:K.In s.heap) (I:ObjM s.heap x dx C mA) (hg:PySem.W.plainGet K C name=true)
  (hf:PySem.W.findIn K (.ref C) name=some (some (.ref f))) (ht:PySem.W.isFn K (.ref f)=true) (hv:mA name=none) (h:Q (.ref f,[.ref x]) s) :
  wpAny (model prog w) A (getMethod (.ref x) name pl) Q E s:=by
 obtain⟨od,J,hl⟩:=I.look
 exact PySem.W.method_fn X J (PySem.W.plainGet_of hg).1 (PySem.W.plainGet_of hg).2 hf (beq_iff_eq.mp ht) (by show (PySem.W.lookIn name od).map (·.isSome)=some false;rw[hl,hv];rfl) h
theorem Pm {ns:List Str} {Q:Unit→Shared→Prop} (X:K.In s.heap) (I:ObjM s.heap x dx C mA)
  (hs:PySem.W.findIn K (.ref C) "__setattr__"=some (some (.builtin "object.__setattr__"))) (hp:PySem.W.plainOver K C=true) (ht:PySem.W.takerIn K C name=some none) (hh:PySem.W.hasDictIn K C=true)
  (hw:PySem.Within mA ns) (hsz:ns.length≤sizeLine)
  (h:∀h',ObjM h' x dx C (fun y=>if y=name then some v else mA y)→Heap.SameBut dx s.heap h'→Q () { s with heap:=h',toks:=s.toks+2 }) :
  wpAny (model prog w) A (setAttr (.ref x) name v) Q E s:=by
 obtain⟨od,J,hl⟩:=I.look
 refine PySem.W.set_plain X J hs (PySem.W.osa_open (s:={ s with toks:=s.toks+1 }) (r:=none) X J hp ht fun b=>?_)
 obtain⟨cd,hc,hd'⟩:=PySem.W.any_some hh
 have hx:s.heap.get? x=some ⟨.ref C,some dx,.plain,#[]⟩:=I.obj
 refine wpAny_bind (wpAny_pure (wpAny_bind (wpAny_bind (wpAny_loadPart hx (wpAny_bind (PySem.W.Looks.here (s:={ s with toks:=s.toks+1 }) (PySem.W.looks_clsIn X hc) ?_))))))
 rw[hd']
 refine wpAny_pure (a:=some dx) (wpAny_bind (wpAny_pure (wpAny_bind ?_)))
 refine wpAny_nsSet1 (s:={ s with toks:=s.toks+1 }) I.ns fun h' hn2 hs2=>?_
 obtain⟨oD,esD,epD,hoD,hdD,hcD⟩:=hn2.count (PySem.Within.cons name v hw)
 refine wpAny_bind (wpAny_lookBehind hoD (by rw[hdD];exact pastItsLine_dict (Nat.le_trans hcD (by rw[List.length_cons];omega))) ?_)
 exact wpAny_pure (h _ ⟨(hs2.2 _ (Ne.symm I.ne)).trans I.obj,hn2,I.ne⟩ hs2)
theorem MX {R:Result→Shared→Prop} {vs:List Value} {kw:List (Str×Value)} (X:K.In s.heap) (hm:PySem.W.makesIn K C=true)
  (hi:PySem.W.findIn K (.ref C) "__init__"=some (some (.ref f))) (hf:PySem.W.typeIn K (.ref f)=some (.type "function"))
  (h:codeAny (model prog w) (A.under (.builtin "type.__call__" ⟨.ref C::vs,kw⟩)) (.call (.ref f) ⟨.ref (s.heap.objs.size+1)::vs,kw⟩) (PySem.W.InitBack (s.heap.objs.size+1) R)
   { s with heap:=(s.heap.push PySem.W.emptyDict).push (PySem.W.instObj C s.heap.objs.size) }) :
  codeAny (model prog w) A (.call (.ref C) ⟨vs,kw⟩) R s:=by
 obtain⟨hh,g,d,t,os⟩:=s
 exact PySem.W.make_core (PySem.W.makes_of X hm) (PySem.W.looks_findIn X hi) (fun self=>PySem.W.bind_fn X self hf) (.inl rfl) h
end
def BK (f:Str) (v:V):List (Str×V)→List (Str×V)
 | []=>[(f,v)]
 | (g,x)::r=>if g=f then (g,v)::r else (g,x)::BK f v r
theorem Ee (f g:Str) (v:V):∀fs:List (Str×V),(BK f v fs).lookup g=if g=f then some v else fs.lookup g
 | []=>by
  show List.lookup g [(f,v)]=_
  by_cases h:g=f
  ·have hb:(g == f)=true:=beq_iff_eq.mpr h
   simp only[List.lookup,hb,if_pos h]
  ·have hb:(g == f)=false:=beq_eq_false_iff_ne.mpr h
   simp only[List.lookup,hb,if_neg h]
 | (k,x)::r=>by
  have ih:=Ee f g v r
  rw[show BK f v ((k,x)::r)=(if k=f then (k,v)::r else (k,x)::BK f v r) from rfl]
  by_cases hk:k=f
  ·rw[if_pos hk]
   by_cases h:g=k
   ·have hb:(g == k)=true:=beq_iff_eq.mpr h
    simp only[List.lookup,hb,if_pos (h.trans hk)]
   ·have hb:(g == k)=false:=beq_eq_false_iff_ne.mpr h
    simp only[List.lookup,hb,if_neg (fun e:g=f=>h (e.trans hk.symm))]
  ·rw[if_neg hk]
   by_cases h:g=k
   ·have hb:(g == k)=true:=beq_iff_eq.mpr h
    simp only[List.lookup,hb,if_neg (fun e:g=f=>hk (h.symm.trans e))]
   ·have hb:(g == k)=false:=beq_eq_false_iff_ne.mpr h
    simp only[List.lookup,hb]
    exact ih
theorem D4 (f:Str) (v:V):∀fs:List (Str×V),f∈(BK f v fs).map (·.1)∧∀g,g∈fs.map (·.1)→g∈(BK f v fs).map (·.1)
 | []=>⟨by simp[BK],fun g h=>by simp at h⟩
 | (k,x)::r=>by
  obtain⟨i1,i2⟩:=D4 f v r
  rw[show BK f v ((k,x)::r)=(if k=f then (k,v)::r else (k,x)::BK f v r) from rfl]
  by_cases hk:k=f
  ·rw[if_pos hk]
   subst hk
   exact⟨by simp,fun g h=>by simpa using h⟩
  ·rw[if_neg hk]
   refine⟨?_,fun g h=>?_⟩
   ·rw[List.map_cons]
    exact List.mem_cons_of_mem _ i1
   ·rw[List.map_cons] at h ⊢
    rcases List.mem_cons.mp h with e | e
    ·exact List.mem_cons.mpr (.inl e)
    ·exact List.mem_cons_of_mem _ (i2 g e)
theorem Ed (f:Str) (v:V):∀fs:List (Str×V),(BK f v fs).length≤fs.length+1
 | []=>by simp[BK]
 | (k,x)::r=>by
  have ih:=Ed f v r
  rw[show BK f v ((k,x)::r)=(if k=f then (k,v)::r else (k,x)::BK f v r) from rfl]
  by_cases hk:k=f
  ·rw[if_pos hk,List.length_cons,List.length_cons];omega
  ·rw[if_neg hk,List.length_cons,List.length_cons];omega
theorem RelO.some_of {v:V} {o:Option Value} (r:RelO (some v) o):∃u,o=some u∧RelV v u:=by
 cases o with
 | none=>exact (show False from r).elim
 | some u=>exact⟨u,rfl,r⟩
theorem RelO.none_of {o:Option Value} (r:RelO none o):o=none:=by
 cases o with
 | none=>rfl
 | some u=>exact (show False from r).elim
theorem Lr {v:V} {u:Value} (r:RelV v u):PySem.W.handedIn u=true:=by
 cases v with
 | non=>cases (show u=Value.none from r);rfl
 | bl b=>cases (show u=Value.bool b from r);rfl
 | int i=>obtain⟨t,e⟩:=(show ∃t,u=Value.int i t from r);cases e;rfl
 | str x=>obtain⟨t,e⟩:=(show ∃t,u=Value.str x t from r);cases e;rfl
 | byt b=>obtain⟨t,e⟩:=(show ∃t,u=Value.bytes b t from r);cases e;rfl
 | flt b=>obtain⟨t,e⟩:=(show ∃t,u=Value.float b t from r);cases e;rfl
 | ref a=>cases (show u=Value.ref a from r);rfl
 | ty n=>cases (show u=Value.type n from r);rfl
section
variable {P:Program} {w:World} {H H':Hp} {h h':Heap} {a C dx:Addr} {fs fs':List (Str×V)}
theorem Eu (hok:HOk P w H h) (e:H a=some (.ins C dx fs)):∃mA,ObjM h a dx C mA∧(∀f,RelO (fs.lookup f) (mA f))∧PySem.Within mA (fs.map (·.1))∧fs.length≤1000∧H dx=some (.own a):=by
 obtain⟨d,z,ne,ob,mA,n,r,q⟩:=(show ObjOk P w H h a (.ins C dx fs) from hok a _ e)
 exact⟨mA,⟨ob,n,ne⟩,r,q,z,d⟩
end
structure Cls (K:PySem.W.Frag) (C:Addr):Prop where
 pg:PySem.W.plainGet K C Str.empty=true
 hd:PySem.W.hasDictIn K C=true
 po:PySem.W.plainOver K C=true
 sa:PySem.W.findIn K (.ref C) "__setattr__"=some (some (.builtin "object.__setattr__"))
theorem Cls.get {K:PySem.W.Frag} {C:Addr} (c:Cls K C) (f:Str):PySem.W.plainGet K C f=true:=c.pg
def NoAttr (K:PySem.W.Frag) (C:Addr) (f:Str):Prop:=PySem.W.findIn K (.ref C) f=some none
theorem NoAttr.taker {K:PySem.W.Frag} {C:Addr} {f:Str} (n:NoAttr K C f):PySem.W.takerIn K C f=some none:=by
 unfold PySem.W.takerIn
 rw[show PySem.W.findIn K (.ref C) f=some none from n]
 rfl
structure N7 (K:PySem.W.Frag) (C:Addr) (m:Str) (f:Addr):Prop where
 at_:PySem.W.findIn K (.ref C) m=some (some (.ref f))
 fn:PySem.W.isFn K (.ref f)=true
 kp:PySem.W.keepIn K (.ref f)=true
section
variable {X:Cx} {pins:List (Addr×Obj)} {σ:St} {H:Hp} {s:Shared} {a C dx:Addr} {fs:List (Str×V)} {f:Str} {v:V} {A:Around} {E:Value→Shared→Prop}
theorem Ki {b:Bool} {Q:Value→Shared→Prop} (I:Inv X pins σ H s) (e:H a=some (.ins C dx fs)) (c:Cls X.K C) (n:NoAttr X.K C f) (l:fs.lookup f=some v)
  (h:∀u s',Inv X pins σ H s'→RelV v u→Q u s'):wpAny (model X.prog X.w) A (getAttr (.ref a) f b) Q E s:=by
 obtain⟨mA,O,r,_,_,_⟩:=Eu I.hok e
 obtain⟨u,hu,ru⟩:=RelO.some_of (v:=v) (o:=mA f) (by rw[←l];exact r f)
 exact Qh I.kIn O (c.get f) c.hd n hu (Lr ru) (h u _ (I.tok _) ru)
theorem E3 {m:Str} {g:Addr} {pl:Sem Bool} {Q:Value×List Value→Shared→Prop} (I:Inv X pins σ H s) (e:H a=some (.ins C dx fs)) (c:Cls X.K C) (k:N7 X.K C m g) (l:fs.lookup m=none)
  (h:Q (.ref g,[.ref a]) s):wpAny (model X.prog X.w) A (getMethod (.ref a) m pl) Q E s:=by
 obtain⟨mA,O,r,_,_,_⟩:=Eu I.hok e
 have hn:mA m=none:=RelO.none_of (by rw[←l];exact r m)
 exact OQ I.kIn O (c.get m) k.at_ k.fn hn h
theorem Kf {y:V} {u:Value} {Q:Unit→Shared→Prop} (I:Inv X pins σ H s) (e:H a=some (.ins C dx fs)) (c:Cls X.K C) (n:NoAttr X.K C f) (hl:fs.length<1000) (ry:RelV y u)
  (h:∀s',Inv X pins σ (upd H a (.ins C dx (BK f y fs))) s'→Q () s'):wpAny (model X.prog X.w) A (setAttr (.ref a) f u) Q E s:=by
 obtain⟨mA,O,r,wi,_,ho⟩:=Eu I.hok e
 have hz:(fs.map (·.1)).length≤sizeLine:=by rw[List.length_map,sizeLine_eq];omega
 refine Pm I.kIn O c.sa c.po n.taker c.hd wi hz fun h' O' sb=>h _ ?_
 have hd:∃o,h'.get? dx=some o:=let ⟨o,_,_,e',_⟩:=O'.ns;⟨o,e'⟩
 refine I.write (x:=a) (e:=dx) (by rw[e];exact True.intro) (.inr ho) (fun b q hb z=>(sb.2 b hb).trans z) hd ?_
 refine⟨by rw[Ah O.ne];exact ho,?_,O.ne,O'.obj,_,O'.ns,fun g=>?_,fun g hg=>?_⟩
 ·have:=Ed f y fs;omega
 ·show RelO ((BK f y fs).lookup g) (if g=f then some u else mA g)
  rw[Ee]
  by_cases q:g=f
  ·rw[if_pos q,if_pos q];exact ry
  ·rw[if_neg q,if_neg q];exact r g
 ·by_cases q:g=f
  ·rw[q];exact (D4 f y fs).1
  ·refine (D4 f y fs).2 g (wi g fun z=>hg ?_)
   show (if g=f then some u else mA g)=none
   rw[if_neg q];exact z
theorem Inv.made (I:Inv X pins σ H s):Inv X pins σ (upd (upd H s.heap.objs.size (.own (s.heap.objs.size+1))) (s.heap.objs.size+1) (.ins C s.heap.objs.size []))
  { s with heap:=(s.heap.push PySem.W.emptyDict).push (PySem.W.instObj C s.heap.objs.size) }:=by
 have e1:(s.heap.push PySem.W.emptyDict).get? s.heap.objs.size=some PySem.W.emptyDict:=Heap.get?_push_size s.heap rfl
 have e2:((s.heap.push PySem.W.emptyDict).push (PySem.W.instObj C s.heap.objs.size)).get? (s.heap.objs.size+1)=some (PySem.W.instObj C s.heap.objs.size):=by
  have:=Heap.get?_push_size (s.heap.push PySem.W.emptyDict) (o:=PySem.W.instObj C s.heap.objs.size) rfl
  rwa [Heap.size_push] at this
 have e3:(s.heap.push PySem.W.emptyDict).Ns s.heap.objs.size (fun _=>none):=⟨PySem.W.emptyDict,#[],_,e1,rfl,(fun e he=>absurd he (by simp)),fun _=>rfl⟩
 have I1:=I.laid (a:=s.heap.objs.size) (o:=.own (s.heap.objs.size+1)) (h':=s.heap.push PySem.W.emptyDict) (t':=s.toks) (fun b u q=>Heap.get?_push_of_some _ q) (Nat.le_refl _) ⟨_,e1⟩
 refine I1.laid (a:=s.heap.objs.size+1) (o:=.ins C s.heap.objs.size []) (t':=s.toks) (fun b u q=>Heap.get?_push_of_some _ q) (Nat.le_of_eq (Heap.size_push _ _)) ?_
 have ne:s.heap.objs.size≠s.heap.objs.size+1:=Nat.ne_of_lt (Nat.lt_succ_self _)
 refine⟨by rw[Ah ne,upd_same],Nat.zero_le _,ne,e2,fun _=>none,(Heap.Ns1.of_empty e3).at fun o q=>Heap.get?_push_of_some _ q,fun _=>True.intro,fun y hy=>absurd rfl hy⟩
theorem Qp {prog:Program} {w:World} {env:Env} {e:Expr} {f:Str} {pos:Pos} {s:Shared} {Q:Value→Shared→Prop} (hb:attributeBase e f env (eval e env)=eval e env)
  (h:wpAny (model prog w) A (eval e env) (fun o s₁=>wpAny (model prog w) A (getAttr o f true) Q E s₁) E s):wpAny (model prog w) A (eval (.Attribute e f pos) env) Q E s:=
 Attribute_any_ h (by rw[arm_eval_Attribute,hb])
end
def UI (K:PySem.W.Frag) (ta:TE) (f:Str):TE:=fun σ H Q=>ta σ H fun x H1=>∃a C dx fs v,x= .ref a∧H1 a=some (.ins C dx fs)∧Cls K C∧NoAttr K C f∧fs.lookup f=some v∧Q v H1
def UF (K:PySem.W.Frag) (ta tv:TE) (f:Str):TS:=fun D σ H=>tv σ H fun y H1=>ta σ H1 fun x H2=>∃a C dx fs,x= .ref a∧H2 a=some (.ins C dx fs)∧Cls K C∧NoAttr K C f∧fs.length<1000∧
 D.nx σ (upd H2 a (.ins C dx (BK f y fs)))
section
variable {X:Cx} {o e value:Expr} {f:Str} {pos pos' tpos:Pos} {ta tv:TE}
theorem A6 (he:PE X e ta) (hb:attributeBase e f X.env (eval e X.env)=eval e X.env):PE X (.Attribute e f pos) (UI X.K ta f):=by
 intro pins s σ H Q I h
 refine Qp hb (Ay (he pins s σ H _ I h) fun u s1 ⟨x,H1,I1,rx,a,C,dx,fs,v,ex,ea,c,n,l,q⟩=>?_)
 subst ex
 obtain rfl:u=Value.ref a:=rx
 exact Ki I1 ea c n l fun u' s2 I2 ru=>⟨v,H1,I2,ru,q⟩
theorem Bg (ha:PE X o ta) (hv:PE X value tv) (hs:swapsWith value (some (.Attribute o f pos')) pos.line X.env=pure false):PS X (.Assign [.Attribute o f pos'] value pos) (UF X.K ta tv f):=by
 intro pins s σ H D I h
 refine plainObj_wpAny_Assign_Attribute (Ay (hv pins s σ H _ I h) fun u s1 ⟨y,H1,I1,ry,q⟩=>Ay (ha pins s1 σ H1 _ I1 q) fun ov s2 ⟨x,H2,I2,rx,a,C,dx,fs,ex,ea,c,n,l,q2⟩=>?_) hs
 subst ex
 obtain rfl:ov=Value.ref a:=rx
 exact Kf I2 ea c n l ry fun s3 I3=>⟨σ,_,I3,q2⟩
end
section
variable {X:Cx} {pins:List (Addr×Obj)} {σ:St} {H:Hp} {s:Shared} {A:Around} {E:Value→Shared→Prop} {Q:Value→Shared→Prop} {c:Value} {b:Bool}
inductive D1 (K:PySem.W.Frag) (H:Hp):V→Value→Prop where
 | non:D1 K H .non (.type "NoneType")
 | bl (x:Bool):D1 K H (.bl x) (.type "bool")
 | int (i:Int):D1 K H (.int i) (.type "int")
 | str (x:Str):D1 K H (.str x) (.type "str")
 | flt (x:UInt64):D1 K H (.flt x) (.type "float")
 | lst {a:Addr} {xs:List V} (e:H a=some (.lst xs)):D1 K H (.ref a) (.type "list")
 | frz {a:Addr} {o:Obj} {xs:List V} (e:H a=some (.frz o (.lst xs))):D1 K H (.ref a) (.type "list")
 | tup {a:Addr} {xs:List V} (e:H a=some (.tup xs)):D1 K H (.ref a) (.type "tuple")
 | dK {a:Addr} {kvs:List (DT×V)} (e:H a=some (.dK kvs)):D1 K H (.ref a) (.type "dict")
 | dT {a:Addr} {kvs:List (List DT×V)} (e:H a=some (.dT kvs)):D1 K H (.ref a) (.type "dict")
 | ins {a C dx:Addr} {fs:List (Str×V)} (e:H a=some (.ins C dx fs)) (cl:Cls K C) (ha:PySem.W.findIn K (.ref C) "__class__"=some (some (.builtin "object.__class__")))
   (hn:PySem.W.specialIn K (.builtin "object.__class__") "__get__"=some (some (.builtin "getset_descriptor.__get__"))) (htk:PySem.W.takesIn K (.builtin "object.__class__")=some true)
   (hm:PySem.W.mroIn K C (.type "object")=some true):D1 K H (.ref a) (.ref C)
theorem Md {x:V} {u t:Value} (I:Inv X pins σ H s) (rx:RelV x u) (ty:D1 X.K H x t) (e:PySem.W.kitOne X.K t c=some b) (h:∀tk,Q (.bool b) { s with toks:=tk }) :
  wpAny (model X.prog X.w) A (call (.builtin "isinstance") [u,c]) Q E s:=by
 cases ty with
 | non=>cases (show u=Value.none from rx);exact PySem.W.kia_one PySem.W.kitx_none I.kIn True.intro e (fun z=>nomatch z) h
 | bl y=>cases (show u=Value.bool y from rx);exact PySem.W.kia_one PySem.W.kitx_bool I.kIn True.intro e (fun z=>nomatch z) h
 | int i=>obtain⟨t,q⟩:=(show ∃t,u=Value.int i t from rx);cases q;exact PySem.W.kia_one PySem.W.kitx_int I.kIn True.intro e (fun z=>nomatch z) h
 | str y=>obtain⟨t,q⟩:=(show ∃t,u=Value.str y t from rx);cases q;exact PySem.W.kia_one PySem.W.kitx_str I.kIn True.intro e (fun z=>nomatch z) h
 | flt y=>obtain⟨t,q⟩:=(show ∃t,u=Value.float y t from rx);cases q;exact PySem.W.kia_one PySem.W.kitx_float I.kIn True.intro e (fun z=>nomatch z) h
 | @lst a xs ea=>
  cases (show u=Value.ref a from rx)
  obtain⟨_,_,n,_,h1⟩:=(show ObjOk X.prog X.w H s.heap a (.lst xs) from I.hok a _ ea)
  exact PySem.W.kia_one PySem.W.kitx_list I.kIn ⟨_,h1,rfl⟩ e (fun z=>nomatch z) h
 | @frz a ob xs ea=>
  cases (show u=Value.ref a from rx)
  obtain⟨_,_,_,n,_,h1⟩:=(show ObjOk X.prog X.w H s.heap a (.frz ob (.lst xs)) from I.hok a _ ea)
  exact PySem.W.kia_one PySem.W.kitx_list I.kIn ⟨_,h1,rfl⟩ e (fun z=>nomatch z) h
 | @tup a xs ea=>
  cases (show u=Value.ref a from rx)
  obtain⟨_,_,_,p⟩:=(show ObjOk X.prog X.w H s.heap a (.tup xs) from I.hok a _ ea)
  obtain⟨o,h1,h2,_⟩:=p
  exact PySem.W.kia_one PySem.W.kitx_tuple I.kIn ⟨o,h1,h2⟩ e (fun z=>nomatch z) h
 | @dK a kvs ea=>
  cases (show u=Value.ref a from rx)
  obtain⟨_,_,vs,_,p⟩:=(show ObjOk X.prog X.w H s.heap a (.dK kvs) from I.hok a _ ea)
  obtain⟨o,es,ep,h1,h2,_⟩:=p
  exact PySem.W.kia_one PySem.W.kitx_dict I.kIn ⟨o,h1,h2.1⟩ e (fun z=>nomatch z) h
 | @dT a kvs ea=>
  cases (show u=Value.ref a from rx)
  obtain⟨_,_,xs,_,o,es,ep,h1,h2,_⟩:=(show ObjOk X.prog X.w H s.heap a (.dT kvs) from I.hok a _ ea)
  exact PySem.W.kia_one PySem.W.kitx_dict I.kIn ⟨o,h1,h2.1⟩ e (fun z=>nomatch z) h
 | @ins a C dx fs ea cl ha hn htk hm=>
  cases (show u=Value.ref a from rx)
  obtain⟨mA,O,_⟩:=Eu I.hok ea
  obtain⟨od,J,_⟩:=O.look
  exact PySem.W.kia_one (PySem.W.kitx_own (cl.get _) cl.hd ha hn htk hm) I.kIn J e (fun z=>nomatch z) h
end
end L2
namespace L2
open PySem PySem.Spec PyProof.Rows
structure Room (k:Nat) (A:Around):Prop where
 hd:A.handled=none
 dp:A.depth+3*k+5<recursionLimit
 un:A.units+16*k+200<cLine
theorem Room.mono {j k:Nat} {A:Around} (r:Room k A) (h:j≤k):Room j A:=⟨r.hd,by have:=r.dp;omega,by have:=r.un;omega⟩
theorem Room.deeper {k:Nat} {A:Around} (r:Room (k+1) A) (env:Env):Room k (A.deeper env):=
 ⟨r.hd,by have:=r.dp;show A.depth+1+3*k+5<_;omega,by have:=r.un;show A.units+3+16*k+200<_;omega⟩
theorem JK {A:Around} {C:Addr} {us:List Value} {kw:List (Str×Value)}:(A.under (.builtin "type.__call__" ⟨.ref C::us,kw⟩)).depth=A.depth+1:=by
 first | rfl | simp[Around.under,Code.weight,Code.isCreation,Code.isGuard,Code.isCaller,Code.frames,Code.isFrame,guardIds]
theorem JN {A:Around} {C:Addr} {us:List Value} {kw:List (Str×Value)}:(A.under (.builtin "type.__call__" ⟨.ref C::us,kw⟩)).units=A.units+1:=by
 first | rfl | simp[Around.under,Code.cUnits,Code.frames,Code.isFrame]
theorem Room.make {k:Nat} {A:Around} (r:Room (k+1) A) (C:Addr) (us:List Value) (kw:List (Str×Value)):Room k (A.under (.builtin "type.__call__" ⟨.ref C::us,kw⟩)):=
 ⟨r.hd,by have:=r.dp;rw[JK];omega,by have:=r.un;rw[JN];omega⟩
theorem Room.depth {k:Nat} {A:Around} (r:Room k A):A.depth<recursionLimit:=by have:=r.dp;omega
theorem Room.units0 {k:Nat} {A:Around} (r:Room k A):A.units<cLine:=by have:=r.un;omega
def Rf:TA:=fun _ H Q=>Q [] H
def ST (ta:TE) (tr:TA):TA:=fun σ H Q=>ta σ H fun x H1=>tr σ H1 fun xs H2=>Q (x::xs) H2
section
variable {X:Cx} {e:Expr} {es:List Expr} {te:TE} {t:TA} {pos:Pos}
theorem Ab:PA X [] Rf:=fun _ _ _ _ H Q I h=>Calls.spliced_nil ⟨[],H,I,.nil,h⟩
theorem Aa (ha:PE X e te) (hr:PA X es t) (hs:starEach (e::es) X.env=(false,eval e X.env)::starEach es X.env:=by rfl):PA X (e::es) (ST te t):=by
 intro pos pins s σ H Q I h
 rw[hs]
 show wpAny _ _ (spliced ((false,eval e X.env)::backTo pos (starEach es X.env))) _ _ s
 refine Calls.spliced_cons (Ay (ha pins s σ H _ I h) fun u s1 ⟨x,H1,I1,r1,q1⟩=>?_)
 exact Ay (hr pos pins s1 σ H1 _ I1 q1) fun us s2 ⟨xs,H2,I2,r2,q2⟩=>⟨x::xs,H2,I2,.cons r1 r2,q2⟩
def TN (t:TA):TE:=fun σ H Q=>t σ H fun xs H1=>xs.length≤sizeLine∧∀p,H1 p=none→Q (.ref p) (upd H1 p (.tup xs))
def TU (t:TA):TE:=fun σ H Q=>t σ H fun xs H1=>xs.length≤sizeLine∧∀p,H1 p=none→Q (.ref p) (upd H1 p (.lst xs))
theorem BW {x1} (h:PA X es t):PE X (.Tuple es x1 pos) (TN t):=by
 intro pins s σ H Q I hq
 refine wpAny_Tuple_spliced (Ay (h pos pins s σ H _ I hq) fun us s1 ⟨xs,H1,I1,r,z,q⟩=>⟨by rw[←r.length];exact z,?_⟩)
 have hf:H1 s1.heap.objs.size=none:=I1.hok.fresh (Nat.le_refl _)
 refine⟨.ref s1.heap.objs.size,upd H1 s1.heap.objs.size (.tup xs),I1.laid (t':=s1.toks) (fun b u e=>Heap.get?_push_of_some _ e) (Nat.le_refl _) ?_,rfl,q _ hf⟩
 exact⟨z,us,r,⟨_,Heap.get?_push_size _ rfl,rfl,_,rfl⟩⟩
theorem AA (h:PA X es t):PE X (.List es pos) (TU t):=by
 intro pins s σ H Q I hq
 refine wpAny_List_spliced (Ay (h pos pins s σ H _ I hq) fun us s1 ⟨xs,H1,I1,r,z,q⟩=>⟨by rw[←r.length];exact z,?_⟩)
 have hf:H1 s1.heap.objs.size=none:=I1.hok.fresh (Nat.le_refl _)
 refine⟨.ref s1.heap.objs.size,upd H1 s1.heap.objs.size (.lst xs),I1.laid (t':=s1.toks) (fun b u e=>Heap.get?_push_of_some _ e) (Nat.le_refl _) ?_,rfl,q _ hf⟩
 exact⟨z,us,0,r,Heap.get?_push_size _ rfl⟩
end
abbrev Sp:=List V→Hp→VK→XK→Prop
abbrev Kc:=List Env→Hp→Shared→XK→Value→Shared→Prop
structure Env0 (P:Program) (w:World) (K:PySem.W.Frag) (mg:Str→Option Value) (base:Heap) (A:Around) (outer:List Env) (s:Shared) (H:Hp):Prop where
 frames:A.frames=some outer
 mod:Mod K mg base
 bs:∀b o,base.get? b=some o→s.heap.get? b=some o∧H b=none
 bsz:base.objs.size≤s.heap.objs.size
 funs:s.heap.FunFrames base outer
 frf:∀b∈ES outer,H b=none
 hok:HOk P w H s.heap
 bare:AllBare s.gens
def CE (outer:List Env) (P:Program) (w:World) (H:Hp) (s:Shared) (Q:VK) (u:Value) (s':Shared):Prop:=
 ∃v H',s'.os=s.os∧AllBare s'.gens∧Un (ES outer) [] H H' s.heap s'.heap∧HOk P w H' s'.heap∧RelV v u∧Q v H'
def CR (CX:Kc) (outer:List Env) (P:Program) (w:World) (H:Hp) (s:Shared) (Q:VK) (E:XK) (r:Result) (s':Shared):Prop:=
 match r with
 | .ok (.ret u)=>CE outer P w H s Q u s'
 | .ok _=>False
 | .error e=>CX outer H s E e s'
structure FnOk (P:Program) (w:World) (K:PySem.W.Frag) (mg:Str→Option Value) (base:Heap) (CX:Kc) (k:Nat) (f:Addr) (fd:FuncData) (ps:List Str) (sp:Sp):Prop where
 len:∀vs H Q E,sp vs H Q E→vs.length=ps.length
 run:∀(A:Around) (outer:List Env) (s:Shared) (H:Hp) (args:Args) (us:List Value) (vs:List V) (Q:VK) (E:XK),Room k A→Env0 P w K mg base A outer s H→BindsTo s fd args (ps.zip us)→Vals vs us→sp vs H Q E→
  codeAny (model P w) A (.call (.ref f) args) (CR CX outer P w H s Q E) s
theorem FnOk.mono {P:Program} {w:World} {K:PySem.W.Frag} {mg:Str→Option Value} {base:Heap} {CX:Kc} {j k:Nat} {f:Addr} {fd:FuncData} {ps:List Str} {sp:Sp} (F:FnOk P w K mg base CX j f fd ps sp) (h:j≤k) :
  FnOk P w K mg base CX k f fd ps sp:=⟨F.len,fun A outer s H args us vs Q E hr=>F.run A outer s H args us vs Q E (hr.mono h)⟩
theorem Env0.make {P:Program} {w:World} {K:PySem.W.Frag} {mg:Str→Option Value} {base:Heap} {A:Around} {outer:List Env} {s:Shared} {H:Hp} (e:Env0 P w K mg base A outer s H) (C:Addr) (us:List Value) (kw:List (Str×Value)) :
  Env0 P w K mg base (A.under (.builtin "type.__call__" ⟨.ref C::us,kw⟩)) outer s H:=⟨by first | exact e.frames | (simpa [Around.under,Code.envs,Code.isFrame,pushEnvs] using e.frames),e.mod,e.bs,e.bsz,e.funs,e.frf,e.hok,e.bare⟩
section
variable {X:Cx} {pins:List (Addr×Obj)} {σ:St} {H:Hp} {s s':Shared}
theorem Inv.env0 (I:Inv X pins σ H s):Env0 X.prog X.w X.K X.mg X.base X.A X.stack s H:=
 ⟨I.ok.frames,I.ok.mod,I.bs,Nat.le_trans I.ok.bsz I.sz,I.stack,I.stkFree,I.hok,I.bare⟩
theorem Inv.after {Q:VK} {u:Value} (I:Inv X pins σ H s) (h:CE X.stack X.prog X.w H s Q u s'):EP X pins σ Q u s':=by
 obtain⟨v,H',os,bare,un,hok,r,q⟩:=h
 obtain⟨hh,g,d,t,os'⟩:=s'
 obtain rfl:os'=s.os:=os
 exact⟨v,H',I.call (h':=hh) (g':=g) (d':=d) (t':=t) (ch:=[]) un hok bare (fun b z=>absurd z (by simp)),r,q⟩
end
def SZ (sp:Sp) (dvs:List V) (E:XK) (t:TA):TE:=fun σ H Q=>t σ H fun vs H1=>sp (vs++dvs) H1 Q E
def Q0 (C:Addr) (m:Str) (sp:Sp) (dvs:List V) (E:XK) (ta:TE) (t:TA):TE:=fun σ H Q=>ta σ H fun x H1=>∃a dx fs,x= .ref a∧H1 a=some (.ins C dx fs)∧fs.lookup m=none∧
 t σ H1 fun vs H2=>sp (x::(vs++dvs)) H2 Q E
def SI (C:Addr) (sp:Sp) (dvs:List V) (E:XK) (t:TA):TE:=fun σ H Q=>t σ H fun vs H1=>∀x dx,H1 x=none→H1 dx=none→dx≠x→
 sp (.ref x::(vs++dvs)) (upd (upd H1 dx (.own x)) x (.ins C dx [])) (fun v H2=>v= .non∧Q (.ref x) H2) E
def Binds (K:PySem.W.Frag) (fd:FuncData) (ps:List Str) (ds:List Value):Prop:=
 ∀(s:Shared) (us:List Value),K.In s.heap→(us++ds).length=ps.length→BindsTo s fd ⟨us,[]⟩ (ps.zip (us++ds))
theorem Binds.all {K:PySem.W.Frag} {fd:FuncData} {ps:List Str} (h:∀us:List Value,us.length=ps.length→bindArgs fd ⟨us,[]⟩=pure (ps.zip us)):Binds K fd ps []:=fun s us _ hl=>by
 rw[List.append_nil] at hl ⊢
 exact .of_eq (h us hl)
def Cg (CX:Kc) (X:Cx) (E:XK):Prop:=∀(pins:List (Addr×Obj)) (σ:St) (H:Hp) (s:Shared) (e:Value) (s':Shared),Inv X pins σ H s→CX X.stack H s E e s'→X.xe e s'
section
variable {X:Cx} {CX:Kc} {k:Nat} {f C:Addr} {fd:FuncData} {ps:List Str} {sp:Sp} {dvs:List V} {ds:List Value} {E:XK} {x m:Str} {p pos apos:Pos} {e o:Expr} {es:List Expr} {ta:TE} {t:TA}
theorem JL {pins:List (Addr×Obj)} {σ:St} {H:Hp} {s:Shared} {Q:VK} {us:List Value} {vs:List V} (F:FnOk X.prog X.w X.K X.mg X.base CX k f fd ps sp) (hr:Room k X.A) (hb:Binds X.K fd ps ds) (hd:Vals dvs ds) (hx:Cg CX X E)
  (I:Inv X pins σ H s) (r:Vals vs us) (h:sp (vs++dvs) H Q E):wpAny (model X.prog X.w) X.A (call (.ref f) us) (EP X pins σ Q) X.xe s:=by
 have r2:Vals (vs++dvs) (us++ds):=r.append hd
 have hl:(us++ds).length=ps.length:=by rw[←r2.length];exact F.len _ _ _ _ h
 refine wpAny_call (codeAny_mono (F.run X.A X.stack s H ⟨us,[]⟩ (us++ds) (vs++dvs) Q E hr I.env0 (hb s us I.kIn hl) r2 h) fun r s' hq=>?_)
 cases r with
 | error e=>exact hx pins σ H s e s' I hq
 | ok fl=>
  cases fl with
  | ret u=>exact I.after hq
  | next=>exact False.elim hq
  | brk=>exact False.elim hq
  | cont=>exact False.elim hq
theorem Ao (F:FnOk X.prog X.w X.K X.mg X.base CX k f fd ps sp) (hr:Room k X.A) (hg:Gl X x) (hm:X.mg x=some (.ref f)) (hk:PySem.W.keepIn X.K (.ref f)=true) (hb:Binds X.K fd ps ds) (hd:Vals dvs ds) (hx:Cg CX X E)
  (ha:PA X (e::es) t) (hdb:(x == ("__debug__":Str))=false:=by decide) (he:starEach (e::es) X.env=(false,eval e X.env)::starEach es X.env:=by rfl) (hpl:(backTo pos (starEach es X.env)).any (·.1)=false:=by rfl) :
  PE X (.Call (.Name x p) (e::es) [] pos) (SZ sp dvs E t):=by
 intro pins s σ H Q I h
 refine wpAny_Call_Name_kw (B7 I hg hm ?_ hdb)
 refine PySem.W.callWith_K (h₀:=X.base) I.ok.mod.kin hk (Ay (ha pos pins s σ H _ I h) fun us s1 ⟨vs,H1,I1,r,q⟩=>⟨I1.kIn,?_⟩) he hpl
 exact JL F hr hb hd hx I1 r q
theorem AK {pl:Sem Bool} (he:PE X o ta) (c:Cls X.K C) (hm:N7 X.K C m f) (F:FnOk X.prog X.w X.K X.mg X.base CX k f fd ps sp) (hr:Room k X.A) (hb:Binds X.K fd ps ds) (hd:Vals dvs ds) (hx:Cg CX X E) (ha:PA X (e::es) t)
  (hst:starEach (e::es) X.env=(false,eval e X.env)::starEach es X.env:=by rfl) (hpl:(backTo pos (starEach es X.env)).any (·.1)=false:=by rfl)
  (ht:eval (.Call (.Attribute o m apos) (e::es) [] pos) X.env=(do
   let ov ←eval o X.env
   standAt apos.atName
   let (f,first) ←holding [ov] (getMethod ov m pl)
   callWith pos f first (backTo pos (starEach (e::es) X.env)) (backToKw pos (keywordEach [] X.env))):=by rfl) :
  PE X (.Call (.Attribute o m apos) (e::es) [] pos) (Q0 C m sp dvs E ta t):=by
 intro pins s σ H Q I h
 refine PySem.W.methodCall_KW (pl:=pl) (Ay (he pins s σ H _ I h) fun u s1 ⟨x,H1,I1,rx,a,dx,fs,ex,ea,l,q⟩=>?_) ht
 subst ex
 obtain rfl:u=Value.ref a:=rx
 refine E3 I1 ea c hm l ?_
 refine PySem.W.callWith_K (first:=[.ref a]) (h₀:=X.base) I.ok.mod.kin hm.kp (Ay (ha pos pins s1 σ H1 _ I1 q) fun us s2 ⟨vs,H2,I2,r,q2⟩=>⟨I2.kIn,?_⟩) hst hpl
 exact JL (us:=.ref a::us) (vs:=.ref a::vs) F hr hb hd hx I2 (.cons rfl r) q2
theorem BZ {pl:Sem Bool} (he:PE X o ta) (c:Cls X.K C) (hm:N7 X.K C m f) (F:FnOk X.prog X.w X.K X.mg X.base CX k f fd ps sp) (hr:Room k X.A) (hb:Binds X.K fd ps ds) (hd:Vals dvs ds) (hx:Cg CX X E)
  (ht:eval (.Call (.Attribute o m apos) [] [] pos) X.env=(do
   let ov ←eval o X.env
   standAt apos.atName
   let (f,first) ←holding [ov] (getMethod ov m pl)
   callWith pos f first (backTo pos (starEach [] X.env)) (backToKw pos (keywordEach [] X.env))):=by rfl) :
  PE X (.Call (.Attribute o m apos) [] [] pos) (Q0 C m sp dvs E ta Rf):=by
 intro pins s σ H Q I h
 refine PySem.W.methodCall_KW (pl:=pl) (Ay (he pins s σ H _ I h) fun u s1 ⟨x,H1,I1,rx,a,dx,fs,ex,ea,l,q⟩=>?_) ht
 subst ex
 obtain rfl:u=Value.ref a:=rx
 refine E3 I1 ea c hm l ?_
 exact PySem.W.callWith_K0 (first:=[.ref a]) I1.kIn hm.kp (JL (us:=[.ref a]) (vs:=[.ref a]) F hr hb hd hx I1 (.cons rfl .nil) q)
structure Mk (K:PySem.W.Frag) (C f:Addr):Prop where
 makes:PySem.W.makesIn K C=true
 init:PySem.W.findIn K (.ref C) "__init__"=some (some (.ref f))
 fn:PySem.W.isFn K (.ref f)=true
 kp:PySem.W.keepIn K (.ref C)=true
theorem Nz {pins:List (Addr×Obj)} {σ:St} {H:Hp} {s:Shared} {Q:VK} {us:List Value} {vs:List V} (M:Mk X.K C f) (F:FnOk X.prog X.w X.K X.mg X.base CX k f fd ps sp) (hr:Room (k+1) X.A) (hb:Binds X.K fd ps ds) (hd:Vals dvs ds)
  (hx:Cg CX X E) (I:Inv X pins σ H s) (r:Vals vs us)
  (h:∀x dx,H x=none→H dx=none→dx≠x→sp (.ref x::(vs++dvs)) (upd (upd H dx (.own x)) x (.ins C dx [])) (fun v H2=>v= .non∧Q (.ref x) H2) E) :
  wpAny (model X.prog X.w) X.A (call (.ref C) us) (EP X pins σ Q) X.xe s:=by
 have hq:=h (s.heap.objs.size+1) s.heap.objs.size (I.hok.fresh (Nat.le_succ _)) (I.hok.fresh (Nat.le_refl _)) (Nat.ne_of_lt (Nat.lt_succ_self _))
 have I2:=Inv.made (C:=C) I
 have r2:Vals (V.ref (s.heap.objs.size+1)::(vs++dvs)) (Value.ref (s.heap.objs.size+1)::(us++ds)):=.cons rfl (r.append hd)
 have hl:(Value.ref (s.heap.objs.size+1)::us++ds).length=ps.length:=by
  have e:=r2.length
  rw[F.len _ _ _ _ hq] at e
  exact e.symm
 refine wpAny_call (MX (f:=f) I.kIn M.makes M.init (beq_iff_eq.mp M.fn) (codeAny_mono (F.run _ X.stack _ _ ⟨Value.ref (s.heap.objs.size+1)::us,[]⟩ (Value.ref (s.heap.objs.size+1)::(us++ds)) _ _ E (hr.make C us [])
  (I2.env0.make C us []) (hb _ (Value.ref (s.heap.objs.size+1)::us) I2.kIn hl) r2 hq) fun r s' hq'=>?_))
 cases r with
 | error e=>exact hx pins σ _ _ e s' I2 hq'
 | ok fl=>
  cases fl with
  | ret u=>
   obtain⟨v,H',I3,rv,ev,q3⟩:=I2.after hq'
   subst ev
   exact⟨rv,⟨V.ref (s.heap.objs.size+1),H',I3,rfl,q3⟩⟩
  | next=>exact False.elim hq'
  | brk=>exact False.elim hq'
  | cont=>exact False.elim hq'
theorem Hs (M:Mk X.K C f) (F:FnOk X.prog X.w X.K X.mg X.base CX k f fd ps sp) (hr:Room (k+1) X.A) (hg:Gl X x) (hm:X.mg x=some (.ref C)) (hb:Binds X.K fd ps ds) (hd:Vals dvs ds) (hx:Cg CX X E)
  (ha:PA X (e::es) t) (hdb:(x == ("__debug__":Str))=false:=by decide) (he:starEach (e::es) X.env=(false,eval e X.env)::starEach es X.env:=by rfl) (hpl:(backTo pos (starEach es X.env)).any (·.1)=false:=by rfl) :
  PE X (.Call (.Name x p) (e::es) [] pos) (SI C sp dvs E t):=by
 intro pins s σ H Q I h
 refine wpAny_Call_Name_kw (B7 I hg hm ?_ hdb)
 refine PySem.W.callWith_K (h₀:=X.base) I.ok.mod.kin M.kp (Ay (ha pos pins s σ H _ I h) fun us s1 ⟨vs,H1,I1,r,q⟩=>⟨I1.kIn,?_⟩) he hpl
 exact Nz M F hr hb hd hx I1 r q
end
section
variable {X:Cx} {CX:Kc} {k:Nat} {f C:Addr} {fd:FuncData} {ps ks:List Str} {sp:Sp} {E:XK} {x m:Str} {p pos apos kpos:Pos} {e o:Expr} {es:List Expr} {kws:List Keyword} {te ta:TE} {t tk:TA} {nm:Option Str}
variable {g:List Value→List Value→List Value} {gV:List V→List V→List V}
end
structure Aj (N P:List Str) (sc:Scope):Prop where
 kind:sc.kind= .function
 co:sc.isCoroutine=false
 gen:sc.isGenerator=false
 nd:N.Nodup
 pre:N.take P.length=P
 par:∀x∈P,sc.names.lookup x=some .local∨sc.names.lookup x=some .cell
 nofree:∀y∈sc.names,y.2≠.free
theorem FI {kindOf:Str→Option NameKind} {x:Str}:∀{binds:List (Str×Value)} {m:Str→Option Value},(∀v,(x,v)∉binds)→bindL kindOf binds m x=m x
 | [],_,_=>rfl
 | (n,v)::r,m,h=>by
  unfold bindL
  rw[FI fun w hw=>h w (List.mem_cons_of_mem _ hw)]
  split
  ·have:x≠n:=by rintro rfl;exact h v List.mem_cons_self
   simp[this]
  ·rfl
theorem Fw {kindOf:Str→Option NameKind} {x:Str}:∀{binds:List (Str×Value)} {m:Str→Option Value},(∀v,(x,v)∉binds)→bindC kindOf binds m x=m x
 | [],_,_=>rfl
 | (n,v)::r,m,h=>by
  unfold bindC
  rw[Fw fun w hw=>h w (List.mem_cons_of_mem _ hw)]
  split
  ·rfl
  ·have:x≠n:=by rintro rfl;exact h v List.mem_cons_self
   simp[this]
theorem FR {kindOf:Str→Option NameKind} {x:Str} {v:Value}:∀{P:List Str} {vs:List Value} {i:Nat} {m:Str→Option Value},P.Nodup→P[i]? = some x→vs[i]? = some v→kindOf x=some .local→
  bindL kindOf (P.zip vs) m x=some v
 | [],_,_,_,_,h,_,_=>by simp at h
 | _::_,[],_,_,_,_,h,_=>by simp at h
 | p::P,w::vs,0,m,nd,h1,h2,hk=>by
  simp at h1 h2;subst h1;subst h2
  show bindL kindOf ((p,w)::P.zip vs) m p=_
  unfold bindL
  rw[FI fun v hv=>(List.nodup_cons.mp nd).1 (List.of_mem_zip hv).1,if_pos hk]
  simp
 | p::P,w::vs,i+1,m,nd,h1,h2,hk=>by
  show bindL kindOf ((p,w)::P.zip vs) m x=_
  unfold bindL
  exact FR (i:=i) (List.nodup_cons.mp nd).2 (by simpa using h1) (by simpa using h2) hk
theorem FH {kindOf:Str→Option NameKind} {x:Str} {v:Value}:∀{P:List Str} {vs:List Value} {i:Nat} {m:Str→Option Value},P.Nodup→P[i]? = some x→vs[i]? = some v→kindOf x≠some .local→
  bindC kindOf (P.zip vs) m x=some v
 | [],_,_,_,_,h,_,_=>by simp at h
 | _::_,[],_,_,_,_,h,_=>by simp at h
 | p::P,w::vs,0,m,nd,h1,h2,hk=>by
  simp at h1 h2;subst h1;subst h2
  show bindC kindOf ((p,w)::P.zip vs) m p=_
  unfold bindC
  rw[Fw fun v hv=>(List.nodup_cons.mp nd).1 (List.of_mem_zip hv).1,if_neg hk]
  simp
 | p::P,w::vs,i+1,m,nd,h1,h2,hk=>by
  show bindC kindOf ((p,w)::P.zip vs) m x=_
  unfold bindC
  exact FH (i:=i) (List.nodup_cons.mp nd).2 (by simpa using h1) (by simpa using h2) hk
def Dy (N:List Str) (vs:List V):St:=vs.map some++List.replicate (N.length-vs.length) none
def Ha (CX:Kc) (P:Program) (w:World) (K:PySem.W.Frag) (mg:Str→Option Value) (base:Heap) (N:List Str) (qual:Str) (scope:Scope) (f:Addr) (cd:Value) (A:Around) (outer:List Env) (s:Shared) (H:Hp) (E:XK):Cx where
 prog:=P
 w:=w
 K:=K
 mg:=mg
 base:=base
 A:=A.deeper (envOfC qual scope s.heap.objs.size f cd)
 N:=N
 s₀:=s
 H₀:=H
 env:=envOfC qual scope s.heap.objs.size f cd
 outer:=outer
 stack:=envOfC qual scope s.heap.objs.size f cd::outer
 ex:=[]
 calm:=true
 fn:=fun _=>true
 pn:=[]
 xe:=fun e s'=>wpAny (model P w) (A.deeper (envOfC qual scope s.heap.objs.size f cd)) (leaving (envOfC qual scope s.heap.objs.size f cd) e) (fun _ s''=>CX outer H s E e s'') (fun e' s''=>CX outer H s E e' s'') s'
theorem Ik {sc:Scope} {n:Nat} {x:Str} (h:sc.names.lookup x=some .cell):∃c,(cellsFrom n sc.names []).lookup x=some c:=by
 have q:=PySem.W.cellsFrom_some sc.names n [] (.inl h)
 exact Option.isSome_iff_exists.mp q
theorem Mu {CX:Kc} {P:Program} {w:World} {K:PySem.W.Frag} {mg:Str→Option Value} {base:Heap} {N ps:List Str} {qual:Str} {scope:Scope} {f:Addr} {cd:Value} {A:Around} {outer:List Env} {s s1:Shared} {H:Hp} {E:XK} {us:List Value} {vs:List V}
  (S:Aj N ps scope) (hd:A.handled=none) (e0:Env0 P w K mg base A outer s H) (hl:vs.length=ps.length) (r:Vals vs us)
  (x:InCallC s s.heap.objs.size (bindL (envOfC qual scope s.heap.objs.size f cd).kindOf (ps.zip us) fun _=>none) (cellsFrom (s.heap.objs.size+1) scope.names []) (bindC (envOfC qual scope s.heap.objs.size f cd).kindOf (ps.zip us) fun _=>none) s1) :
  Inv (Ha CX P w K mg base N qual scope f cd A outer s H E) [] (Dy N vs) H s1:=by
 have hpl:ps.length≤N.length:=by have:=congrArg List.length S.pre;rw[List.length_take] at this;omega
 obtain⟨h1,tk,rfl,hk⟩:=x.done
 have noA:∀b:Addr,b∉(Ha CX P w K mg base N qual scope f cd A outer s H E).ex:=fun b z=>absurd (show b∈([]:List Addr) from z) (by simp)
 refine⟨⟨e0.mod,S.kind,rfl,rfl,Nat.le_refl _,fun y z c h1 h2=>?_,fun y hy=>?_,fun y c _ h=>?_,fun _=>hd,Around.frames_deeper e0.frames,.inr ⟨rfl,rfl⟩,fun b z=>absurd z (noA b),e0.bs,e0.bsz,fun b _ _=>noA b,fun b z=>absurd z (noA b),e0.funs,e0.frf⟩,
  rfl,e0.bare,Un.kept hk,⟨_,x.toInCall.ns,fun i y v h1 h2 h3=>?_⟩,fun y c h=>⟨_,x.cell y c h⟩,e0.hok.fresh (Nat.le_refl _),fun y c h=>?_,fun p hp=>absurd (show p∈([]:List (Addr×Obj)) from hp) (by simp),e0.hok.kept hk,?_⟩
 ·exact name_of_addr x.apart (PySem.mem_of_lookup h1) (PySem.mem_of_lookup h2)
 ·have hy:scope.names.lookup y=some .cell∨scope.names.lookup y=some .free:=hy
  rcases hy with hy | hy
  ·exact Ik hy
  ·exact absurd rfl (S.nofree _ (PySem.mem_of_lookup hy))
 ·exact Nat.le_of_lt (x.above y c (PySem.mem_of_lookup h))
 ·have hi:i<vs.length:=by
   unfold Dy at h2
   by_cases hi:i<vs.length
   ·exact hi
   ·rw[List.getElem?_append_right (by simpa using hi)] at h2
    rw[List.getElem?_replicate] at h2
    split at h2<;>cases h2
  have ha:vs[i]? = some v:=by
   unfold Dy at h2
   rw[List.getElem?_append_left (by simpa using hi),List.getElem?_map] at h2
   cases e:vs[i]? with
   | none=>rw[e] at h2;cases h2
   | some a=>rw[e] at h2;cases h2;rfl
  obtain⟨u,hu,rv⟩:=r.get ha
  have hp:ps[i]? = some y:=by
   rw[←S.pre,List.getElem?_take_of_lt (by omega)];exact h1
  have ndP:ps.Nodup:=by rw[←S.pre];exact S.nd.sublist (List.take_sublist _ _)
  refine⟨u,rv,?_⟩
  rcases S.par y (List.mem_of_getElem? hp) with k | k
  ·exact .inl ⟨k,FR ndP hp hu k⟩
  ·obtain⟨c,e⟩:=Ik (n:=s.heap.objs.size+1) k
   refine .inr ⟨.inl k,c,e,?_⟩
   have q:=x.cell y c e
   rw[FH ndP hp hu (by show scope.names.lookup y≠_;rw[k];decide)] at q
   exact q
 ·exact e0.hok.fresh (Nat.le_of_lt (x.above y c (PySem.mem_of_lookup h)))
 ·unfold Dy
  show _=N.length
  rw[List.length_append,List.length_map,List.length_replicate]
  omega
theorem QT {CX:Kc} {P:Program} {w:World} {K:PySem.W.Frag} {mg:Str→Option Value} {base:Heap} {k:Nat} {f:Addr} {name qual:Str} {params:Arguments} {body:List Stmt} {scope:Scope} {dV kV doc pm cdv ct oc:Value} {an od:Option Addr}
  {osl:Array (Option Value)} {N ps:List Str} {sp:Sp} (lk:K.lookup f=some ⟨oc,od,.func (PySem.W.fnOf name qual params body scope dV kV doc pm an cdv ct),osl⟩) (hcd:PySem.W.codeIn K cdv qual=true) (S:Aj N ps scope)
  (len:∀vs H Q E,sp vs H Q E→vs.length=ps.length)
  (hbody:∀(A:Around) (outer:List Env) (s:Shared) (H:Hp) (vs:List V) (Q:VK) (E:XK),Room k (A.deeper (envOfC qual scope s.heap.objs.size f cdv))→sp vs H Q E→
   ∃t,PSs (Ha CX P w K mg base N qual scope f cdv A outer s H E) body t∧t { nx:=fun _ H'=>Q .non H',rt:=Q } (Dy N vs) H) :
  FnOk P w K mg base CX (k+1) f (PySem.W.fnOf name qual params body scope dV kV doc pm an cdv ct) ps sp:=by
 refine⟨len,fun A outer s H args us vs Q E hr e0 hb r hsp=>?_⟩
 have hl:=len _ _ _ _ hsp
 have KX:K.In s.heap:=e0.mod.kin.keeps fun b o e=>(e0.bs b o e).1
 have lim:s.heap.NoLimit:=e0.mod.nolimit.keeps fun b o e=>(e0.bs b o e).1
 have hkind:∀y∈ps.zip us,scope.names.lookup y.1=some .local∨(scope.names.lookup y.1=some .cell∧((cellsFrom (s.heap.objs.size+1) scope.names []).lookup y.1).isSome=true):=fun⟨n,v⟩ hy=>by
  rcases S.par n (List.of_mem_zip hy).1 with q | q
  ·exact .inl q
  ·exact .inr ⟨q,PySem.W.cellsFrom_some _ _ _ (.inl q)⟩
 refine codeAny_call_function hr.depth (KX _ _ lk) rfl S.co S.gen rfl (PySem.W.codeRec_of KX hcd) (hb _ _ _ _ ?_)
 refine wpAny_newFunctionEnv_cells S.kind hkind fun env he s1 x=>?_
 subst he
 refine⟨lim.keeps x.toInCall.keep,codeAny_func ?_⟩
 obtain⟨t,ht,hq⟩:=hbody A outer s H vs Q E (hr.deeper _) hsp
 have I:Inv (Ha CX P w K mg base N qual scope f cdv A outer s H E) [] (Dy N vs) H s1:=Mu S hr.hd e0 hl r x
 refine wpAny_mono (ht [] s1 (Dy N vs) H _ I hq) (fun fl s' hs=>?_) fun e s' hs=>hs
 have fin:∀{σ':St} {H':Hp} {v:V} {u:Value},Inv (Ha CX P w K mg base N qual scope f cdv A outer s H E) [] σ' H' s'→RelV v u→Q v H'→CE outer P w H s Q u s':=
  fun {σ' H' v u} J rv q=>⟨v,H',J.os,J.bare,J.base,J.hok,rv,q⟩
 cases fl with
 | ret u=>
  obtain⟨v,σ',H',J,rv,q⟩:=hs
  exact fin J rv q
 | next=>
  obtain⟨σ',H',J,q⟩:=hs
  exact fin (v:=V.non) (u:=Value.none) J rfl q
 | brk=>
  obtain⟨_,_,_,q⟩:=hs
  exact False.elim q
 | cont=>
  obtain⟨_,_,_,q⟩:=hs
  exact False.elim q
end L2
namespace L2
open PySem PySem.Spec PyProof.Rows
section
variable {X:Cx} {x:Str} {p pos:Pos} {e:Expr} {es:List Expr} {t:TA} {id T:String} {r:List V→Hp→VK→Prop}
def TZ (r:List V→Hp→VK→Prop) (t:TA):TE:=fun σ H Q=>t σ H fun vs H1=>r vs H1 Q
theorem Ax (hc:Bp X (.builtin id) r) (hg:Gl X x) (hm:X.mg x=none) (hv:bootBuiltins x=some (.builtin id)) (ha:PA X (e::es) t) (hn:x≠"__name__":=by decide) (hdb:(x == ("__debug__":Str))=false:=by decide)
  (he:starEach (e::es) X.env=(false,eval e X.env)::starEach es X.env:=by rfl) (hpl:(backTo pos (starEach es X.env)).any (·.1)=false:=by rfl):PE X (.Call (.Name x p) (e::es) [] pos) (TZ r t):=by
 intro pins s σ H Q I h
 refine wpAny_Call_Name_kw (De I hg hm hv ?_ hn hdb)
 exact PyProof.Rows.callWith_builtin1 (Ay (ha pos pins s σ H _ I h) fun us s1 ⟨vs,H1,I1,r1,q1⟩=>hc pins s1 σ H1 vs us Q I1 r1 q1) he hpl
theorem AW (hc:Bp X (.type T) r) (hg:Gl X x) (hm:X.mg x=none) (hv:bootBuiltins x=some (.type T)) (ha:PA X (e::es) t) (hn:x≠"__name__":=by decide) (hdb:(x == ("__debug__":Str))=false:=by decide)
  (he:starEach (e::es) X.env=(false,eval e X.env)::starEach es X.env:=by rfl) (hpl:(backTo pos (starEach es X.env)).any (·.1)=false:=by rfl):PE X (.Call (.Name x p) (e::es) [] pos) (TZ r t):=by
 intro pins s σ H Q I h
 refine wpAny_Call_Name_kw (De I hg hm hv ?_ hn hdb)
 exact PyProof.Rows.callWith_type1 (Ay (ha pos pins s σ H _ I h) fun us s1 ⟨vs,H1,I1,r1,q1⟩=>hc pins s1 σ H1 vs us Q I1 r1 q1) he hpl
theorem Ju (hc:Bp X (.type T) r) (hg:Gl X x) (hm:X.mg x=none) (hv:bootBuiltins x=some (.type T)) (hn:x≠"__name__":=by decide) (hdb:(x == ("__debug__":Str))=false:=by decide) :
  PE X (.Call (.Name x p) [] [] pos) (TZ r Rf):=by
 intro pins s σ H Q I h
 refine wpAny_Call_Name_kw (De I hg hm hv ?_ hn hdb)
 exact PyProof.Rows.callWith_type0 (hc pins s σ H [] [] Q I .nil h)
end
end L2
namespace HT
open PySem PyProof.Rows
section
open PySem.SeqAt
open PySem.AutoSeq1 (wpAny_loadPart')
open PySem.MeetsSeq PySem.MeetsSeq2 PySem.MeetsSeq3
end
section
variable {prog:Program} {w:World} {A:Around} {E:Value→Shared→Prop} {s:Shared}
theorem cat_tup {t b:Addr} {vs ws:List Value} {Q:Value→Shared→Prop} (ht:IsTup s.heap t vs.toArray) (hb:IsTup s.heap b ws.toArray) (hv:vs≠[])
  (h1:ws=[]→Q (.ref t) s) (h2:ws≠[]→Q (.ref s.heap.objs.size) { s with heap:=s.heap.push { cls:=.type "tuple",data:=.seq (vs++ws).toArray } })
  (hsz:vs.length+ws.length≤sizeLine):wpAny (model prog w) A (binaryOp .Add (.ref t) (.ref b)) Q E s:=by
 obtain⟨⟨cls,dd,data,sl⟩,ho,hc,n,hd⟩:=id ht
 obtain⟨⟨cls2,dd2,data2,sl2⟩,ho2,hc2,n2,hd2⟩:=id hb
 simp only at hc hd hc2 hd2
 subst hc hd hc2 hd2
 have e:vs.toArray++ws.toArray=(vs++ws).toArray:=by simp
 by_cases hw:ws=[]
 ·exact concat_meets ⟨_,ho,rfl⟩ ⟨_,ho2,rfl⟩ noFill_tuple_add seq_tuple_add PySem.F.slot_tuple_add PySem.F.entry_tuple_add (PySem.F.args_tuple_add_2 _ _)
   (tuple_addW1 t b vs.toArray ws.toArray n n2 dd dd2 sl sl2 (by simpa using hv) (by simp[hw])) ⟨ho,ho2,h1 hw⟩
 ·refine concat_meets ⟨_,ho,rfl⟩ ⟨_,ho2,rfl⟩ noFill_tuple_add seq_tuple_add PySem.F.slot_tuple_add PySem.F.entry_tuple_add (PySem.F.args_tuple_add_2 _ _)
   (tuple_addW2 t b vs.toArray ws.toArray n n2 dd dd2 sl sl2 (by simpa using hv) (by simpa using hw) (by rw[List.size_toArray,List.size_toArray];exact hsz)) ⟨ho,ho2,?_⟩
  rw[e]
  exact h2 hw
def sIx (n d:Nat):Option Int→Nat
 | none=>d
 | some v=>if v<0 then (v+(n:Int)).toNat else min v.toNat n
theorem sIx_none (n d:Nat):sIx n d none=d:=rfl
theorem sIx_nat (n d k:Nat):sIx n d (some (k:Int))=min k n:=by
 show (if (k:Int)<0 then ((k:Int)+(n:Int)).toNat else min (k:Int).toNat n)=min k n
 rw[if_neg (by omega),Int.toNat_natCast]
theorem Rs (n d:Nat) (hd:d≤n) (o:Option Int):sIx n d o≤n:=by
 cases o with
 | none=>exact hd
 | some v=>
  show (if v<0 then (v+(n:Int)).toNat else min v.toNat n)≤n
  by_cases hv:v<0
  ·rw[if_pos hv];omega
  ·rw[if_neg hv];exact Nat.min_le_right _ _
theorem KI (v:Int) (n d:Nat):(if v<0 then max (v+(n:Int)) 0 else min v (n:Int))=((sIx n d (some v):Nat):Int):=by
 show (if v<0 then max (v+(n:Int)) 0 else min v (n:Int))=(((if v<0 then (v+(n:Int)).toNat else min v.toNat n):Nat):Int)
 by_cases hv:v<0
 ·simp only[if_pos hv];omega
 ·simp only[if_neg hv];omega
theorem Kb (lo hi:Option Int) (n:Nat):Builtin.Slice.sliceAdjust lo hi 1 (n:Int)=(((sIx n 0 lo:Nat):Int),((sIx n n hi:Nat):Int)):=by
 have h1:¬((1:Int)<0):=by omega
 unfold Builtin.Slice.sliceAdjust
 simp only[h1,if_false]
 refine Prod.ext ?_ ?_
 ·cases lo with
  | none=>rfl
  | some v=>exact KI v n 0
 ·cases hi with
  | none=>rfl
  | some v=>exact KI v n n
theorem JV (i j:Nat):Builtin.Slice.slicePlaces (i:Int) (j:Int) 1=j-i:=by
 unfold Builtin.Slice.slicePlaces
 have h1:(1:Int)>0:=by omega
 simp only[h1,if_true,Int.ediv_one]
 split<;>omega
theorem EG {v:Value} {o:Option Int} {Q:Option Int→Shared→Prop} (p:IsPart v o) (h:Q o s):wpAny (model prog w) A (Builtin.Slice.slicePartIndex v) Q E s:=by
 cases p with
 | none=>exact slicePart_none h
 | int i t=>exact slicePart_int h
theorem DJ {sl:Addr} {vl vu:Value} {lo hi:Option Int} {n:Nat} {Q:Int×Int×Nat→Shared→Prop} (hs:s.heap.IsSliceOf sl vl vu .none) (pl:IsPart vl lo) (pu:IsPart vu hi)
  (h:Q (((sIx n 0 lo:Nat):Int),1,sIx n n hi-sIx n 0 lo) s):wpAny (model prog w) A (Builtin.Slice.sliceApplied (.ref sl) (pure (n:Int))) Q E s:=by
 obtain⟨os,hos,hcs,hds⟩:=id hs
 unfold Builtin.Slice.sliceApplied Builtin.Slice.sliceFields
 refine wpAny_bind (wpAny_bind (wpAny_field hos hds (x:=vl) rfl (wpAny_bind (wpAny_field hos hds (x:=vu) rfl (wpAny_bind (wpAny_field hos hds (x:=.none) rfl (wpAny_pure ?_)))))))
 refine wpAny_bind (slicePart_none ?_)
 show wpAny _ _ (if ((1:Int) == 0)=true then _ else _) _ _ s
 rw[if_neg (by decide)]
 refine wpAny_bind (EG pl (wpAny_bind (EG pu (wpAny_bind (wpAny_pure ?_)))))
 show wpAny _ _ (match Builtin.Slice.sliceAdjust lo hi 1 (n:Int) with | (lo,hi)=>pure (lo,(1:Int),Builtin.Slice.slicePlaces lo hi 1)) _ _ s
 rw[Kb lo hi n]
 show wpAny _ _ (pure (((sIx n 0 lo:Nat):Int),(1:Int),Builtin.Slice.slicePlaces ((sIx n 0 lo:Nat):Int) ((sIx n n hi:Nat):Int) 1)) _ _ s
 rw[JV]
 exact wpAny_pure h
theorem OZ (xs:Array Value) (i k:Nat):((List.range k).filterMap fun (m:Nat)=>xs[((i:Int)+(m:Int)*1).toNat]?).toArray=((xs.toList.drop i).take k).toArray:=by
 have e:(fun (m:Nat)=>xs[((i:Int)+(m:Int)*1).toNat]?)=fun m=>xs[i+m]? :=by
  funext m
  have:((i:Int)+(m:Int)*1).toNat=i+m:=by omega
  rw[this]
 rw[e]
 have:=pick_run xs i k
 rw[List.filterMap_map] at this
 have e2:((fun x=>xs[x]?) ∘ fun x=>i+x)=fun m=>xs[i+m]? :=rfl
 rw[e2] at this
 rw[this]
theorem getItem_tuple_cut {t sl:Addr} {items:Array Value} {vl vu:Value} {lo hi:Option Int} {Q:Value→Shared→Prop} (ht:IsTup s.heap t items) (hs:s.heap.IsSliceOf sl vl vu .none) (pl:IsPart vl lo) (pu:IsPart vu hi)
  (hw:¬(sIx items.size 0 lo=0∧sIx items.size items.size hi=items.size))
  (h:Q (.ref s.heap.objs.size) { s with heap:=s.heap.push { cls:=.type "tuple",data:=.seq ((items.toList.drop (sIx items.size 0 lo)).take (sIx items.size items.size hi-sIx items.size 0 lo)).toArray } })
  (hsz:items.size≤sizeLine):wpAny (model prog w) A (getItem (.ref t) (.ref sl)) Q E s:=by
 have htake:sizeOk (.seq ((items.toList.drop (sIx items.size 0 lo)).take (sIx items.size items.size hi-sIx items.size 0 lo)).toArray):=by
  show ((items.toList.drop (sIx items.size 0 lo)).take (sIx items.size items.size hi-sIx items.size 0 lo)).toArray.size≤sizeLine
  rw[List.size_toArray,List.length_take,List.length_drop,Array.length_toList]
  omega
 have hj:sIx items.size items.size hi≤items.size:=Rs _ _ (Nat.le_refl _) hi
 obtain⟨os,hos,hcs,hds⟩:=id hs
 have hTs:s.TypeIs (.ref sl) "slice":=⟨os,hos,hcs⟩
 unfold getItem
 try with_reducible refine wpAny_holding ?_
 first | refine wpAny_bind (wpAny_pure ?_) | skip
 refine wpAny_bind (wpAny_sequenceKey ht.typeIs (by decide) ?_)
 refine wpAny_bind (wpAny_callSpecial?_slot (name:=Str.ofString "__getitem__") ht.typeIs PyProof.Rows.slot_tuple_getitem
  (wpAny_call_entry PyProof.Rows.slot_tuple_getitem ht.typeIs entry_tuple_getitem ?_ (args_tuple_getitem _ _)))
 show wpAny _ _ (Builtin.Tuple.tupleItemsOf (.ref t) >>= _) _ _ s
 refine wpAny_bind (tupleItemsOf_ ht ?_)
 refine wpAny_bind (wpAny_typeOf hTs ?_)
 rw[if_pos (by decide)]
 refine wpAny_bind (DJ hs pl pu ?_)
 have hno:¬((((sIx items.size 0 lo:Nat):Int) == 0 && (1:Int) == 1 && (sIx items.size items.size hi-sIx items.size 0 lo) == items.size)=true):=by
  intro q
  rw[Bool.and_eq_true,Bool.and_eq_true] at q
  have q1:((sIx items.size 0 lo:Nat):Int)=0:=eq_of_beq q.1.1
  have q2:sIx items.size items.size hi-sIx items.size 0 lo=items.size:=eq_of_beq q.2
  exact hw ⟨by omega,by omega⟩
 show wpAny _ _ (if (((sIx items.size 0 lo:Nat):Int) == 0 && (1:Int) == 1 && (sIx items.size items.size hi-sIx items.size 0 lo) == items.size)=true then _ else _) _ _ s
 rw[if_neg hno,OZ]
 first
  | exact wpAny_bind (m:=Builtin.Tuple.tupleExact _) (wpAny_newObj_type (wpAny_pure ⟨_,rfl,wpAny_pure h⟩) htake)
  | exact wpAny_bind (m:=Builtin.Tuple.tupleExact _) (wpAny_newObj_type (wpAny_bind (wpAny_pure (wpAny_pure ⟨_,rfl,wpAny_pure h⟩))) htake)
  | exact wpAny_bind (wpAny_bind (m:=Builtin.Tuple.tupleExact _) (wpAny_newObj_type (wpAny_pure (wpAny_pure ⟨_,rfl,wpAny_pure h⟩)) htake))
  | exact wpAny_bind (wpAny_bind (m:=Builtin.Tuple.tupleExact _) (wpAny_newObj_type (wpAny_pure ⟨_,rfl,wpAny_pure h⟩) htake))
end
end HT
namespace L2
open PySem PySem.Spec PyProof.Rows
abbrev TO:=St→Hp→(Option Int→Hp→Prop)→Prop
def PO (X:Cx) (e:Option Expr) (t:TO):Prop:=
 ∀(pins:List (Addr×Obj)) (s:Shared) (σ:St) (H:Hp) (Q:Option Int→Hp→Prop),Inv X pins σ H s→t σ H Q→
  wpAny (model X.prog X.w) X.A (evalPart e X.env) (fun u s'=>∃o H',Inv X pins σ H' s'∧IsPart u o∧Q o H') X.xe s
def QA:TO:=fun _ H Q=>Q none H
def Td (t:TE):TO:=fun σ H Q=>t σ H fun x H1=>∃i,x= .int i∧Q (some i) H1
section
variable {X:Cx} {e:Expr} {te:TE} {lo hi:Option Expr} {tl th:TO} {pos p2:Pos}
theorem GY:PO X none QA:=by
 intro pins s σ H Q I h
 rw[evalPart_none]
 exact wpAny_pure ⟨none,H,I,.none,h⟩
theorem Ht (h:PE X e te):PO X (some e) (Td te):=by
 intro pins s σ H Q I hw
 rw[evalPart_some]
 refine Ay (h pins s σ H _ I hw) fun u s1 ⟨x,H1,I1,r1,q1⟩=>?_
 obtain⟨i,rfl,q⟩:=q1
 obtain⟨t,rfl⟩:=r1
 exact⟨some i,H1,I1,.int i t,q⟩
def Tu (X:Cx) (r:V→Option Int→Option Int→Hp→VK→Prop):Prop:=
 ∀(pins:List (Addr×Obj)) (s:Shared) (σ:St) (H:Hp) (x:V) (v vl vu:Value) (lo hi:Option Int) (sl:Addr) (Q:VK),Inv X pins σ H s→RelV x v→s.heap.IsSliceOf sl vl vu .none→IsPart vl lo→IsPart vu hi→r x lo hi H Q→
  ∃T id,typeLookup (.type T) "__getitem__"=pure (some (.builtin id))∧s.TypeIs v T∧wpAny (model X.prog X.w) X.A (getItem v (.ref sl)) (EP X pins σ Q) X.xe s
def UX (r:V→Option Int→Option Int→Hp→VK→Prop) (te:TE) (tl th:TO):TE:=fun σ H Q=>te σ H fun x H1=>tl σ H1 fun l H2=>th σ H2 fun u H3=>r x l u H3 Q
theorem E6 {r:V→Option Int→Option Int→Hp→VK→Prop} (hr:Tu X r) (he:PE X e te) (hl:PO X lo tl) (hu:PO X hi th):PE X (.Subscript e (.Slice lo hi none p2) pos) (UX r te tl th):=by
 intro pins s σ H Q I h
 refine Subscript_ (Ay (he pins s σ H _ I h) fun v s1 ⟨x,H1,I1,r1,q1⟩=>?_)
 refine wpAny_Slice (Ay (hl pins s1 σ H1 _ I1 q1) fun vl s2 ⟨l,H2,I2,pl,q2⟩=>Ay (hu pins s2 σ H2 _ I2 q2) fun vu s3 ⟨u,H3,I3,pu,q3⟩=>?_)
 rw[evalPart_none]
 refine wpAny_pure ?_
 have I4:Inv X pins σ H3 { s3 with heap:=s3.heap.push { cls:=.type "slice",data:=.fields #[vl,vu,.none] } }:=I3.kept (t':=s3.toks) fun b ob q=>Heap.get?_push_of_some _ q
 obtain⟨T,id,hT,ht,hg⟩:=hr pins { s3 with heap:=s3.heap.push { cls:=.type "slice",data:=.fields #[vl,vu,.none] } } σ H3 x v vl vu l u s3.heap.objs.size Q I4 r1 (Heap.IsSliceOf.new ..) pl pu q3
 show wpAny (model X.prog X.w) X.A (subscriptTail e (.Slice lo hi none p2) v (.ref s3.heap.objs.size)) (EP X pins σ Q) X.xe { s3 with heap:=s3.heap.push { cls:=.type "slice",data:=.fields #[vl,vu,.none] } }
 exact tail_any (ops:=[.ref s3.heap.objs.size,v]) ht hT hg (by with_unfolding_all rfl)
def Ft (xs:List V) (lo hi:Option Int):List V:=(xs.drop (HT.sIx xs.length 0 lo)).take (HT.sIx xs.length xs.length hi-HT.sIx xs.length 0 lo)
theorem Ef (xs:List V) (lo hi:Option Int):(Ft xs lo hi).length≤xs.length:=by
 unfold Ft
 rw[List.length_take,List.length_drop]
 omega
def Um (K:PySem.W.Frag):V→Option Int→Option Int→Hp→VK→Prop:=fun x lo hi H Q=>∃a xs,x= .ref a∧SqT K H a xs∧
 ¬(HT.sIx xs.length 0 lo=0∧HT.sIx xs.length xs.length hi=xs.length)∧∀p,H p=none→Q (.ref p) (upd H p (.tup (Ft xs lo hi)))
theorem Sd:Tu X (Um X.K):=by
 intro pins s σ H x v vl vu lo hi sl Q I rx hs pl pu h
 obtain⟨a,xs,rfl,hx,hw,q⟩:=h
 cases rx
 obtain⟨its,r,ht,hz⟩:=I.tuple hx
 have hlen:its.toArray.size=xs.length:=by rw[List.size_toArray];exact r.length.symm
 refine⟨"tuple",_,PyProof.Rows.slot_tuple_getitem.lookup,ht.typeIs,?_⟩
 refine HT.getItem_tuple_cut ht hs pl pu (by rw[hlen];exact hw) ?_ (by rw[hlen];exact hz)
 rw[hlen]
 refine⟨.ref s.heap.objs.size,_,I.laid (t':=s.toks) (o:=.tup (Ft xs lo hi)) (fun b ob q=>Heap.get?_push_of_some _ q) (Nat.le_refl _) ?_,rfl,q _ (I.hok.fresh (Nat.le_refl _))⟩
 exact⟨Nat.le_trans (Ef xs lo hi) hz,_,(r.drop (HT.sIx xs.length 0 lo)).take (HT.sIx xs.length xs.length hi-HT.sIx xs.length 0 lo),IsTup.new _ _⟩
def S8 (K:PySem.W.Frag):R2:=fun x y H Q=>∃a b xs ys,x= .ref a∧y= .ref b∧SqT K H a xs∧SqT K H b ys∧xs≠[]∧xs.length+ys.length≤sizeLine∧
 (ys=[]→Q (.ref a) H)∧(ys≠[]→∀p,H p=none→Q (.ref p) (upd H p (.tup (xs++ys))))
theorem Vals.nil_iff {xs:List V} {us:List Value} (r:Vals xs us):us=[]↔xs=[]:=by
 cases r with
 | nil=>simp
 | cons _ _=>simp
theorem Lj:Ca X (binaryOp .Add) (S8 X.K):=by
 intro pins s σ H x y v u Q I rx ry h
 obtain⟨a,b,xs,ys,rfl,rfl,ha,hb,hx,hz,q1,q2⟩:=h
 cases rx
 cases ry
 obtain⟨its,r1,p1,_⟩:=I.tuple ha
 obtain⟨its2,r2,p2,_⟩:=I.tuple hb
 refine HT.cat_tup p1 p2 (fun z=>hx (r1.nil_iff.mp z)) (fun z=>⟨.ref a,H,I,rfl,q1 (r2.nil_iff.mp z)⟩) (fun z=>?_) (by rw[←r1.length,←r2.length];exact hz)
 refine⟨.ref s.heap.objs.size,_,I.laid (t':=s.toks) (o:=.tup (xs++ys)) (fun b ob q=>Heap.get?_push_of_some _ q) (Nat.le_refl _) ?_,rfl,q2 (fun w=>z (r2.nil_iff.mpr w)) _ (I.hok.fresh (Nat.le_refl _))⟩
 exact⟨by rw[List.length_append];exact hz,_,r1.append r2,IsTup.new _ _⟩
end
end L2
namespace L2
open PySem PySem.Spec PyProof.Rows
def NY (n:Nat) (i:Int):Option Nat:=if 0≤i then (if i<n then some i.toNat else none) else if -(n:Int)≤i then some (i+n).toNat else none
def IM {α:Type} (xs:List α) (i:Int):Option α:=(NY xs.length i).bind fun j=>xs[j]?
theorem Kv {n:Nat} {i:Int} {j:Nat} (h:NY n i=some j):seqIndex? i n=some j∧j<n∧-(n:Int)≤i∧i<n:=by
 unfold NY at h
 by_cases h0:0≤i
 ·rw[if_pos h0] at h
  by_cases h1:i<n
  ·rw[if_pos h1] at h
   have e:i.toNat=j:=Option.some.inj h
   exact⟨by rw[seqIndex_of h0 h1,e],by omega,by omega,h1⟩
  ·rw[if_neg h1] at h;cases h
 ·rw[if_neg h0] at h
  by_cases h1 : -(n:Int)≤i
  ·rw[if_pos h1] at h
   have e:(i+n).toNat=j:=Option.some.inj h
   exact⟨by rw[seqIndex_neg (by omega) h1,e],by omega,h1,by omega⟩
  ·rw[if_neg h1] at h;cases h
theorem Gw {α:Type} {xs:List α} {i:Int} {v:α} (h:IM xs i=some v):∃j,seqIndex? i xs.length=some j∧xs[j]? = some v∧j<xs.length∧-(xs.length:Int)≤i∧i<xs.length:=by
 unfold IM at h
 cases e:NY xs.length i with
 | none=>rw[e] at h;cases h
 | some j=>
  rw[e] at h
  obtain⟨h1,h2,h3,h4⟩:=Kv e
  exact⟨j,h1,h,h2,h3,h4⟩
theorem Av {α:Type} {xs:List α} {j:Nat} {v:α} (h:xs[j]? = some v):IM xs (j:Int)=some v:=by
 have hj:j<xs.length:=(List.getElem?_eq_some_iff.mp h).1
 have e:NY xs.length (j:Int)=some j:=by
  unfold NY
  rw[if_pos (by omega),if_pos (by omega)];simp
 unfold IM;rw[e];exact h
def PU (b:Expr):Prop:=∀o i,subscripted b false o i=operate [o,i] (getItem o i)
def Se (X:Cx) (r:R2):Prop:=
 ∀(value slice:Expr) (pins:List (Addr×Obj)) (s:Shared) (σ:St) (H:Hp) (x y:V) (v u:Value) (Q:VK),Inv X pins σ H s→RelV x v→RelV y u→r x y H Q→
  subscripted slice false v u=operate [v,u] (getItem v u)→wpAny (model X.prog X.w) X.A (subscriptTail value slice v u) (EP X pins σ Q) X.xe s
def Sq (X:Cx) (id:String) (r:V→List V→Hp→VK→Prop):Prop:=
 ∀(pins:List (Addr×Obj)) (s:Shared) (σ:St) (H:Hp) (x:V) (xs:List V) (v:Value) (us:List Value) (Q:VK),Inv X pins σ H s→RelV x v→Vals xs us→r x xs H Q→
  wpAny (model X.prog X.w) X.A (call (.builtin id) (v::us)) (EP X pins σ Q) X.xe s
section
variable {X:Cx} {a b:Expr} {ta tb:TE} {pos:Pos}
theorem AQ {r:R2} (hr:Se X r) (ha:PE X a ta) (hb:PE X b tb) (hs:PU b):PE X (.Subscript a b pos) (Ty r ta tb):=by
 intro pins s σ H Q I h
 exact Subscript_ (R7 ha hb I h fun v u s2 x y H2 I2 rx ry q=>hr a b pins s2 σ H2 x y v u Q I2 rx ry q (hs _ _))
def SS (K:PySem.W.Frag):R2:=fun x y H Q=>∃p xs i v,x= .ref p∧y= .int i∧SqL K H p xs∧IM xs i=some v∧Q v H
def TJ (K:PySem.W.Frag):R2:=fun x y H Q=>∃p xs i v,x= .ref p∧y= .int i∧SqT K H p xs∧IM xs i=some v∧Q v H
def Ug:R2:=fun x y H Q=>∃z i c,x= .str z∧y= .int i∧z.length≤sizeLine∧IM z.cps.toList i=some c∧Q (.str ⟨#[c]⟩) H
theorem Ba:Se X (SS X.K):=by
 intro value slice pins s σ H x y v u Q I rx ry h hs
 obtain⟨p,xs,i,z,rfl,rfl,hq,he,q⟩:=h
 cases rx
 obtain⟨t,rfl⟩:=ry
 obtain⟨its,r,pl,hz⟩:=I.list hq
 obtain⟨j,h1,h2,h3,h4,h5⟩:=Gw he
 obtain⟨w,ew,rw'⟩:=r.get h2
 have hl:=r.length
 have hn:=Df
 have fin:EP X pins σ Q w s:=⟨z,H,I,rw',q⟩
 by_cases h0:0≤i
 ·have hj:i.toNat=j:=by
   rw[seqIndex_of h0 h5] at h1
   exact Option.some.inj h1
  exact item_listR pl.isList h0 (by omega) (by rw[hj];simpa using ew) fin hs
 ·have hj:(i+(its.toArray.size:Int)).toNat=j:=by
   rw[seqIndex_neg (by omega) h4] at h1
   rw[List.size_toArray,←hl]
   exact Option.some.inj h1
  exact subscriptTail_builtinR (x:=w) pl.isList.typeIs slot_list_getitem.lookup
   (wpAny_getItem_list_neg (Q:=fun r s'=>r=w∧EP X pins σ Q r s') pl.isList (by omega) (by rw[List.size_toArray]<;>omega) (by omega) (by rw[hj];simpa using ew) ⟨rfl,fin⟩) hs
theorem Bm:Se X (TJ X.K):=by
 intro value slice pins s σ H x y v u Q I rx ry h hs
 obtain⟨p,xs,i,z,rfl,rfl,hq,he,q⟩:=h
 cases rx
 obtain⟨t,rfl⟩:=ry
 obtain⟨its,r,pl,hz⟩:=I.tuple hq
 obtain⟨j,h1,h2,h3,h4,h5⟩:=Gw he
 obtain⟨w,ew,rw'⟩:=r.get h2
 have hl:=r.length
 have hn:=Df
 have fin:EP X pins σ Q w s:=⟨z,H,I,rw',q⟩
 exact subscriptTail_builtinR (x:=w) pl.typeIs slot_tuple_getitem.lookup
  (getItem_tuple (j:=j) (Q:=fun r s'=>r=w∧EP X pins σ Q r s') pl (by omega) (by omega) (by rw[List.size_toArray,←hl];exact h1) (by simpa using ew) ⟨rfl,fin⟩) hs
theorem Ni:Se X Ug:=by
 intro value slice pins s σ H x y v u Q I rx ry h hs
 obtain⟨z,i,c,rfl,rfl,hz,he,q⟩:=h
 obtain⟨t,rfl⟩:=rx
 obtain⟨t',rfl⟩:=ry
 obtain⟨j,h1,h2,h3,h4,h5⟩:=Gw he
 have hl:z.cps.toList.length=z.length:=by simp[Str.length]
 rw[hl] at h1 h4 h5
 have hn:=Df
 exact tail_any (typeIs_str s z t) slot_str_getitem.lookup (getItem_str (c:=c) (by
  have e1:decide (i < -(2^63:Int))=false:=decide_eq_false (by omega)
  have e2:decide (i≥2^63)=false:=decide_eq_false (by omega)
  rw[e1,e2,Bool.or_false]) (by rw[h1];simpa using h2) ⟨.str ⟨#[c]⟩,H,I.tok _,⟨_,rfl⟩,q⟩) hs
theorem JR (its:List Value) (n j:Nat) (u:Value):Obj.mapSeq (·.setIfInBounds j u) { cls:=.type "list",data:=.seq its.toArray n }={ cls:=.type "list",data:=.seq (its.set j u).toArray n }:=by
 simp[Obj.mapSeq]
theorem Inv.lst {pins:List (Addr×Obj)} {σ:St} {H:Hp} {s:Shared} {p:Addr} {xs:List V} (I:Inv X pins σ H s) (h:H p=some (.lst xs)) :
  ∃(its:List Value) (n:Nat),Vals xs its∧s.heap.get? p=some { cls:=.type "list",data:=.seq its.toArray n }∧xs.length≤sizeLine:=by
 obtain⟨z,its,n,r,e⟩:=I.hok p _ h
 exact⟨its,n,r,e,z⟩
theorem Inv.lstUpd {pins:List (Addr×Obj)} {σ:St} {H:Hp} {s:Shared} {p:Addr} {xs ys:List V} {its its':List Value} {n n':Nat} {f:Obj→Obj} (I:Inv X pins σ H s) (h:H p=some (.lst xs))
  (ho:s.heap.get? p=some { cls:=.type "list",data:=.seq its.toArray n }) (hf:f { cls:=.type "list",data:=.seq its.toArray n }={ cls:=.type "list",data:=.seq its'.toArray n' }) (r:Vals ys its') (hz:ys.length≤sizeLine) (t:Nat) :
  Inv X pins σ (upd H p (.lst ys)) { s with heap:=s.heap.update p f,toks:=t }:=by
 have e:(s.heap.update p f).get? p=some { cls:=.type "list",data:=.seq its'.toArray n' }:=by
  rw[Heap.get?_update_self f ho (by rw[hf]<;>rfl),hf]
 refine I.write (x:=p) (e:=p) (by rw[h];trivial) (.inl rfl) (fun b u hb q=>(Heap.get?_update_other _ _ (Ne.symm hb)).trans q) ⟨_,e⟩ ?_
 exact⟨hz,its',n',r,e⟩
def Tn:V→V→V→Hp→(Hp→Prop)→Prop:=fun o i v H Q=>∃p xs k j,o= .ref p∧i= .int k∧H p=some (.lst xs)∧NY xs.length k=some j∧Q (upd H p (.lst (xs.set j v)))
theorem ON:RE X Tn:=by
 intro pins s σ H o i v ov iv u Q I ro ri rv h
 obtain⟨p,xs,k,j,rfl,rfl,hp,hj,q⟩:=h
 cases ro
 obtain⟨t,rfl⟩:=ri
 obtain⟨its,n,r,ho,hz⟩:=I.lst hp
 obtain⟨h1,h2,h3,h4⟩:=Kv hj
 have hl:=r.length
 have hn:=Df
 have I':Inv X pins σ (upd H p (.lst (xs.set j v))) { s with heap:=s.heap.update p (Obj.mapSeq (·.setIfInBounds j u)) }:=
  I.lstUpd hp ho (JR its n j u) (r.set rv j) (by rw[List.length_set];exact hz) s.toks
 by_cases h0:0≤k
 ·have hk:k.toNat=j:=by
   rw[seqIndex_of h0 h4] at h1
   exact Option.some.inj h1
  exact PySem.W.ki_setAt ho h0 (by omega) (by rw[List.size_toArray,←hl];exact h4) (by rw[hk];exact⟨_,I',q⟩)
 ·have hk:(k+(its.toArray.size:Int)).toNat=j:=by
   rw[seqIndex_neg (by omega) h3] at h1
   rw[List.size_toArray,←hl]
   exact Option.some.inj h1
  exact PySem.W.ki_setBack ho (by omega) (by rw[List.size_toArray,←hl];exact h3) (by omega) (by rw[hk];exact⟨_,I',q⟩)
theorem GQ (lo hi:Option Int) (n:Nat):(sliceBounds lo hi none n).1=((HT.sIx n 0 lo:Nat):Int)∧(sliceBounds lo hi none n).2.1=((HT.sIx n n hi:Nat):Int)∧(sliceBounds lo hi none n).2.2=1:=by
 refine⟨?_,?_,rfl⟩
 ·cases lo with
  | none=>simp[sliceBounds,HT.sIx]
  | some i=>
   simp only[sliceBounds,HT.sIx,Option.getD_none,show (1:Int)>0 by decide,if_true]
   by_cases h:i<0
   ·simp only[h,if_true]<;>omega
   ·simp only[h,if_false]<;>omega
 ·cases hi with
  | none=>simp[sliceBounds,HT.sIx]
  | some i=>
   simp only[sliceBounds,HT.sIx,Option.getD_none,show (1:Int)>0 by decide,if_true]
   by_cases h:i<0
   ·simp only[h,if_true]<;>omega
   ·simp only[h,if_false]<;>omega
theorem Fr (its:List Value) (lo hi:Option Int):slicePick its.toArray lo hi none=((its.drop (HT.sIx its.length 0 lo)).take (HT.sIx its.length its.length hi-HT.sIx its.length 0 lo)).toArray:=by
 obtain⟨h1,h2,h3⟩:=GQ lo hi its.toArray.size
 unfold slicePick
 rw[h1,h2,h3]
 simp only[sliceRange_one,pick_run,List.size_toArray]<;>rfl
def SA (K:PySem.W.Frag):V→Option Int→Option Int→Hp→VK→Prop:=fun x lo hi H Q=>∃a xs,x= .ref a∧SqL K H a xs∧∀p,H p=none→Q (.ref p) (upd H p (.lst (Ft xs lo hi)))
theorem KL:Tu X (SA X.K):=by
 intro pins s σ H x v vl vu lo hi sl Q I rx hs pl pu h
 obtain⟨a,xs,rfl,hx,q⟩:=h
 cases rx
 obtain⟨its,r,ht,hz⟩:=I.list hx
 have hlen:=r.length
 refine⟨"list",_,slot_list_getitem.lookup,ht.isList.typeIs,?_⟩
 refine wpAny_getItem_list_slice ht.isList hs pl pu .none (by simp) ?_ (by rw[List.size_toArray]<;>omega)
 rw[Fr,←hlen]
 refine⟨.ref s.heap.objs.size,_,I.laid (t':=s.toks) (o:=.lst (Ft xs lo hi)) (fun b ob q=>Heap.get?_push_of_some _ q) (Nat.le_refl _) ?_,rfl,q _ (I.hok.fresh (Nat.le_refl _))⟩
 exact⟨Nat.le_trans (Ef xs lo hi) hz,_,0,(r.drop (HT.sIx xs.length 0 lo)).take (HT.sIx xs.length xs.length hi-HT.sIx xs.length 0 lo),Heap.get?_push_size _ rfl⟩
def El:V→Bool
 | .non=>true
 | .bl _=>true
 | .int _=>true
 | .str _=>true
 | _=>false
def Pb:V→V→Bool
 | .non,.non=>true
 | .bl a,.bl b=>a == b
 | .bl a,.int b=>(if a then 1 else 0) == b
 | .int a,.bl b=>a == (if b then 1 else 0)
 | .int a,.int b=>a == b
 | .str a,.str b=>a == b
 | _,_=>false
theorem Ru {A:Around} {s:Shared} {y x:V} {u v:Value} (ry:RelV y u) (rx:RelV x v) (fy:El y=true) (fx:El x=true):SeqAt.EqAt A s u v (Pb y x):=by
 cases y with
 | non=>
  cases ry
  cases x with
  | non=>cases rx;exact SeqAt.EqAt.same _
  | bl b=>cases rx;exact SeqAt.EqAt.none_bool b
  | int b=>obtain⟨t,rfl⟩:=rx;exact SeqAt.EqAt.none_int b t
  | str b=>obtain⟨t,rfl⟩:=rx;exact SeqAt.EqAt.none_str b t
  | _=>exact absurd (show false=true from fx) Bool.false_ne_true
 | bl a=>
  cases ry
  cases x with
  | non=>cases rx;exact SeqAt.EqAt.bool_none a
  | bl b=>cases rx;exact SeqAt.EqAt.bool_bool a b
  | int b=>obtain⟨t,rfl⟩:=rx;exact SeqAt.EqAt.bool_int a b t
  | str b=>obtain⟨t,rfl⟩:=rx;exact SeqAt.EqAt.bool_str a b t
  | _=>exact absurd (show false=true from fx) Bool.false_ne_true
 | int a=>
  obtain⟨t',rfl⟩:=ry
  cases x with
  | non=>cases rx;exact SeqAt.EqAt.int_none a t'
  | bl b=>cases rx;exact SeqAt.EqAt.int_bool a t' b
  | int b=>obtain⟨t,rfl⟩:=rx;exact SeqAt.EqAt.int_int a t' b t
  | str b=>obtain⟨t,rfl⟩:=rx;exact SeqAt.EqAt.int_str a t' b t
  | _=>exact absurd (show false=true from fx) Bool.false_ne_true
 | str a=>
  obtain⟨t',rfl⟩:=ry
  cases x with
  | non=>cases rx;exact SeqAt.EqAt.str_none a t'
  | bl b=>cases rx;exact SeqAt.EqAt.str_bool a t' b
  | int b=>obtain⟨t,rfl⟩:=rx;exact SeqAt.EqAt.str_int a t' b t
  | str b=>obtain⟨t,rfl⟩:=rx;exact SeqAt.EqAt.str_str a t' b t
  | _=>exact absurd (show false=true from fx) Bool.false_ne_true
 | _=>exact absurd (show false=true from fy) Bool.false_ne_true
def JU (x:V) (u:Value):Bool:=match u with
 | .none=>Pb .non x
 | .bool b=>Pb (.bl b) x
 | .int i _=>Pb (.int i) x
 | .str z _=>Pb (.str z) x
 | _=>false
theorem Oa {x y:V} {u:Value} (r:RelV y u) (f:El y=true):JU x u=Pb y x:=by
 cases y with
 | non=>cases r;rfl
 | bl b=>cases r;rfl
 | int i=>obtain⟨t,rfl⟩:=r;rfl
 | str z=>obtain⟨t,rfl⟩:=r;rfl
 | _=>exact absurd (show false=true from f) Bool.false_ne_true
theorem DA {x:V}:∀{xs:List V} {us:List Value},Vals xs us→xs.all El=true→us.any (JU x)=xs.any fun y=>Pb y x
 | _,_,.nil,_=>rfl
 | y::xs,u::us,.cons r t,f=>by
  rw[List.all_cons,Bool.and_eq_true] at f
  rw[List.any_cons,List.any_cons,Oa r f.1,DA t f.2]
theorem Cu {A:Around} {s:Shared} {x:V} {v:Value} (rx:RelV x v) (fx:El x=true):∀{xs:List V} {us:List Value},Vals xs us→xs.all El=true→∀u∈us,SeqAt.EqAt A s u v (JU x u)
 | _,_,.nil,_=>fun u hu=>by cases hu
 | y::xs,u::us,.cons r t,f=>fun u' hu=>by
  rw[List.all_cons,Bool.and_eq_true] at f
  rcases List.mem_cons.mp hu with rfl | hu
  ·rw[Oa r f.1];exact Ru r rx f.1 fx
  ·exact Cu rx fx t f.2 u' hu
def O8 (x:V) (xs:List V):Bool:=xs.any fun y=>Pb y x
def UN (K:PySem.W.Frag) (neg:Bool):R2:=fun x y H Q=>∃p xs,y= .ref p∧(SqL K H p xs∨SqT K H p xs)∧El x=true∧xs.all El=true∧Q (.bl (if neg then !O8 x xs else O8 x xs)) H
theorem LF:Ca X (compareOp .In) (UN X.K false):=by
 intro pins s σ H x y v u Q I rx ry h
 obtain⟨p,xs,rfl,hq,fx,fs,q⟩:=h
 cases ry
 rcases hq with hq | hq
 ·obtain⟨its,r,pl,hz⟩:=I.list hq
  refine SeqAt.in_listAt (JU x) pl.isList (fun w hw=>Cu rx fx r fs w (by simpa using hw)) ⟨.bl _,H,I,rfl,?_⟩
  rw[show its.toArray.any (JU x)=its.any (JU x) by simp,DA r fs]
  exact q
 ·obtain⟨its,r,pl,hz⟩:=I.tuple hq
  refine SeqAt.in_tupleAt (JU x) pl (fun w hw=>Cu rx fx r fs w (by simpa using hw)) ⟨.bl _,H,I,rfl,?_⟩
  rw[show its.toArray.any (JU x)=its.any (JU x) by simp,DA r fs]
  exact q
theorem B9:Ca X (compareOp .NotIn) (UN X.K true):=by
 intro pins s σ H x y v u Q I rx ry h
 obtain⟨p,xs,rfl,hq,fx,fs,q⟩:=h
 cases ry
 rcases hq with hq | hq
 ·obtain⟨its,r,pl,hz⟩:=I.list hq
  refine SeqAt.notIn_listAt (JU x) pl.isList (fun w hw=>Cu rx fx r fs w (by simpa using hw)) ⟨.bl _,H,I,rfl,?_⟩
  rw[show its.toArray.any (JU x)=its.any (JU x) by simp,DA r fs]
  exact q
 ·obtain⟨its,r,pl,hz⟩:=I.tuple hq
  refine SeqAt.notIn_tupleAt (JU x) pl (fun w hw=>Cu rx fx r fs w (by simpa using hw)) ⟨.bl _,H,I,rfl,?_⟩
  rw[show its.toArray.any (JU x)=its.any (JU x) by simp,DA r fs]
  exact q
theorem BD:Bp X (.builtin "len") (fun xs H Q=>∃p ys,xs=[.ref p]∧(SqL X.K H p ys∨SqT X.K H p ys)∧Q (.int ys.length) H):=by
 intro pins s σ H xs us Q I r h
 obtain⟨p,ys,rfl,hq,q⟩:=h
 obtain⟨u,rfl,rx⟩:=BN r
 cases rx
 have hn:=Df
 rcases hq with hq | hq
 ·obtain⟨its,r',pl,hz⟩:=I.list hq
  have hlen:=r'.length
  exact Calls.call_len_list pl.isList (by simp only[List.size_toArray]<;>omega) ⟨.int ys.length,H,I.tok _,⟨s.toks+1,by rw[List.size_toArray,hlen]⟩,q⟩
 ·obtain⟨its,r',pl,hz⟩:=I.tuple hq
  have hlen:=r'.length
  exact len_tuple pl (by simp only[List.size_toArray]<;>omega) ⟨.int ys.length,H,I.tok _,⟨s.toks+1,by rw[List.size_toArray,hlen]⟩,q⟩
theorem Dn:Bp X (.builtin "len") (fun xs H Q=>∃z,xs=[.str z]∧z.length≤sizeLine∧Q (.int z.length) H):=by
 intro pins s σ H xs us Q I r h
 obtain⟨z,rfl,hz,q⟩:=h
 obtain⟨u,rfl,t,rfl⟩:=BN r
 have hn:=Df
 exact len_str (by omega) ⟨.int z.length,H,I.tok _,⟨_,rfl⟩,q⟩
theorem Ch:Bp X (.type "list") (fun xs H Q=>∃p ys,xs=[.ref p]∧(SqL X.K H p ys∨SqT X.K H p ys)∧∀l,H l=none→Q (.ref l) (upd H l (.lst ys))):=by
 intro pins s σ H xs us Q I r h
 obtain⟨p,ys,rfl,hq,q⟩:=h
 obtain⟨u,rfl,rx⟩:=BN r
 cases rx
 have fin:∀(its:List Value),Vals ys its→ys.length≤sizeLine→∀(h':Heap) (c':Nat),(∀b o',s.heap.get? b=some o'→h'.get? b=some o')→
   h'.get? s.heap.objs.size=some { cls:=.type "list",dict:=none,data:=.seq its.toArray c',slots:=#[] }→EP X pins σ Q (.ref s.heap.objs.size) { s with heap:=h' }:=fun its r' hz h' c' kp e=>
  ⟨.ref s.heap.objs.size,_,I.laid (t':=s.toks) kp (Nat.le_refl _) (show ObjOk X.prog X.w _ h' _ (.lst ys) from⟨hz,its,c',r',e⟩),rfl,q _ (I.hok.fresh (Nat.le_refl _))⟩
 rcases hq with hq | hq
 ·obtain⟨its,r',pl,hz⟩:=I.list hq
  have hlen:=r'.length
  obtain⟨o,ho,hc,n,hd⟩:=pl.isList
  exact call_list_seq p (.inl rfl) ho hc hd (fun h' c' kp e=>fin its r' hz h' c' kp e) (by simp only[List.size_toArray]<;>omega)
 ·obtain⟨its,r',pl,hz⟩:=I.tuple hq
  have hlen:=r'.length
  obtain⟨o,ho,hc,n,hd⟩:=pl
  exact call_list_seq p (.inr rfl) ho hc hd (fun h' c' kp e=>fin its r' hz h' c' kp e) (by simp only[List.size_toArray]<;>omega)
def UE (K:PySem.W.Frag) (T:String) (x:V) (H:Hp):Prop:=match x with
 | .str _=>T="str"
 | .int _=>T="int"
 | .ref p=>(T="list"∧∃xs,SqL K H p xs)∨(T="tuple"∧∃o,K.lookup p=some o∧o.cls= .type "tuple"∧o.dict=none)∨
   (T="dict"∧((∃kvs,H p=some (.dK kvs))∨∃kvs,H p=some (.dT kvs)))∨(T="set"∧∃S n,H p=some (.set S n))
 | _=>False
theorem OV {pins:List (Addr×Obj)} {σ:St} {H:Hp} {s:Shared} {T:String} {x:V} {v:Value} (I:Inv X pins σ H s) (r:RelV x v) (ty:UE X.K T x H) :
  s.TypeIs v T∧∀a,v= .ref a→∃ob,s.heap.get? a=some ob∧ob.dict=none:=by
 cases x with
 | str z=>
  obtain⟨t,rfl⟩:=r
  cases (show T="str" from ty)
  exact⟨typeIs_str s z t,fun _ e=>nomatch e⟩
 | int i=>
  obtain⟨t,rfl⟩:=r
  cases (show T="int" from ty)
  exact⟨typeIs_int s i t,fun _ e=>nomatch e⟩
 | ref p=>
  cases r
  rcases ty with⟨rfl,xs,hq⟩|⟨rfl,o,hk,hc,hd⟩|⟨rfl,hk⟩|⟨rfl,S,n,hk⟩
  ·obtain⟨its,_,pl,_⟩:=I.list hq
   refine⟨pl.isList.typeIs,fun a e=>?_⟩
   cases e
   obtain⟨o,n,e,c,hd,_⟩:=pl
   exact⟨o,e,hd⟩
  ·refine⟨⟨o,I.kIn p o hk,hc⟩,fun a e=>?_⟩
   cases e
   exact⟨o,I.kIn _ o hk,hd⟩
  ·have z:∃o,s.heap.get? p=some o∧o.ExactDict:=by
    rcases hk with⟨kvs,hk⟩|⟨kvs,hk⟩
    ·obtain⟨_,_,_,_,o,_,_,e,ex,_⟩:=I.hok p _ hk
     exact⟨o,e,ex⟩
    ·obtain⟨_,_,_,_,o,_,_,e,ex,_⟩:=I.hok p _ hk
     exact⟨o,e,ex⟩
   obtain⟨o,e,ex⟩:=z
   refine⟨⟨o,e,ex.1⟩,fun a e2=>?_⟩
   cases e2
   exact⟨o,e,ex.2.1⟩
  ·obtain⟨o,_,_,_,e,ex,_⟩:=I.hok p _ hk
   refine⟨⟨o,e,ex.1⟩,fun a e2=>?_⟩
   cases e2
   exact⟨o,e,ex.2.1⟩
 | _=>exact False.elim ty
def TD (K:PySem.W.Frag) (T:String) (r:V→List V→Hp→VK→Prop) (to:TE):TE:=fun σ H Q=>to σ H fun x H1=>UE K T x H1∧r x [] H1 Q
def UQ (K:PySem.W.Frag) (T:String) (r:V→List V→Hp→VK→Prop) (to:TE) (t:TA):TE:=fun σ H Q=>to σ H fun x H1=>UE K T x H1∧t σ H1 fun xs H2=>r x xs H2 Q
variable {o e:Expr} {es:List Expr} {to:TE} {t:TA} {name:Str} {apos cpos:Pos} {T id:String} {r:V→List V→Hp→VK→Prop}
theorem BY (pa:PlainAttrs T) (slot:Slot T name id) (hty:typeOf (.builtin id)=pure (.type "method_descriptor")) (hm:Sq X id r) (ho:PE X o to)
  (hbase:attributeBase o name X.env (eval o X.env)=eval o X.env:=by rfl) (hline:(apos.endLine == cpos.line)=true:=by rfl):PE X (.Call (.Attribute o name apos) [] [] cpos) (TD X.K T r to):=by
 intro pins s σ H Q I h
 refine wpAny_Call_method0_late hbase hline (Ay (ho pins s σ H _ I h) fun v s1 ⟨x,H1,I1,r1,ty,q1⟩=>?_)
 obtain⟨h1,h2⟩:=OV I1 r1 ty
 exact⟨T,id,pa,slot,hty,h1,h2,Calls.callWith_builtin rfl (PySem.evalArgs_none (hm pins s1 σ H1 x [] v [] Q I1 r1 .nil q1))⟩
theorem Bx (pa:PlainAttrs T) (slot:Slot T name id) (hty:typeOf (.builtin id)=pure (.type "method_descriptor")) (hm:Sq X id r) (ho:PE X o to) (ha:PA X (e::es) t)
  (hbase:attributeBase o name X.env (eval o X.env)=eval o X.env:=by rfl)
  (hfew:((backTo cpos (starEach (e::es) X.env)).all (fun x=>!x.1) && (backToKw cpos (keywordEach [] X.env)).all (fun x=>x.1.isSome)
   && decide ((e::es).length+([]:List Keyword).length+(if ([]:List Keyword).isEmpty then 0 else 1)<30))=true:=by rfl)
  (hline:(apos.endLine == cpos.line)=true:=by rfl) (hs:starEach (e::es) X.env=(false,eval e X.env)::starEach es X.env:=by rfl) (hplain:(backTo cpos (starEach es X.env)).any (·.1)=false:=by rfl) :
  PE X (.Call (.Attribute o name apos) (e::es) [] cpos) (UQ X.K T r to t):=by
 intro pins s σ H Q I h
 refine wpAny_Call_method_late hbase hfew hline rfl (Ay (ho pins s σ H _ I h) fun v s1 ⟨x,H1,I1,r1,ty,q1⟩=>?_)
 obtain⟨h1,h2⟩:=OV I1 r1 ty
 refine⟨T,id,pa,slot,hty,h1,h2,?_⟩
 have hA:=ha cpos pins s1 σ H1 _ I1 q1
 rw[hs] at hA ⊢
 refine Calls.callWith_builtin (by show (false || (backTo cpos (starEach es X.env)).any (·.1))=false;rw[hplain]<;>rfl) (Calls.evalArgs_plain ?_)
 exact Ay hA fun us s2 ⟨vs,H2,I2,r2,q2⟩=>hm pins s2 σ H2 x vs v us Q I2 r1 r2 q2
end
end L2
namespace L2
open PySem PySem.Spec PyProof.Rows
def Tt (X:Cx) (id:String) (r:V→List V→Hp→VK→Prop):Prop:=
 ∀(pins:List (Addr×Obj)) (s:Shared) (σ:St) (H:Hp) (x:V) (xs:List V) (v:Value) (us:List Value) (Q:VK),Inv X pins σ H s→RelV x v→Vals xs us→r x xs H Q→
  wpAny (model X.prog X.w) X.A (call (.builtin id) (v::us)) (EP X pins σ Q) X.xe s
theorem Vals.one:∀{x:V} {us:List Value},Vals [x] us→∃u,us=[u]∧RelV x u
 | _,_,.cons r .nil=>⟨_,rfl,r⟩
theorem Vals.zero:∀{us:List Value},Vals [] us→us=[]
 | _,.nil=>rfl
theorem Vals.dropLast {xs:List V} {us:List Value} (h:Vals xs us):Vals xs.dropLast us.dropLast:=by
 induction h with
 | nil=>exact .nil
 | cons r t ih=>
  cases t with
  | nil=>exact .nil
  | cons q t'=>exact .cons r ih
theorem Vals.reverse {xs:List V} {us:List Value} (h:Vals xs us):Vals xs.reverse us.reverse:=by
 induction h with
 | nil=>exact .nil
 | cons r t ih=>rw[List.reverse_cons,List.reverse_cons];exact Vals.append ih (.cons r .nil)
theorem Vals.rep {xs:List V} {us:List Value} (h:Vals xs us):∀k:Nat,Vals (List.replicate k xs).flatten (List.replicate k us).flatten
 | 0=>.nil
 | k+1=>by
  rw[List.replicate_succ,List.replicate_succ,List.flatten_cons,List.flatten_cons]
  exact Vals.append h (Vals.rep h k)
theorem I0 {α:Type} (l:List α):l.eraseIdx (l.length-1)=l.dropLast:=by
 induction l with
 | nil=>rfl
 | cons a r ih=>
  cases r with
  | nil=>rfl
  | cons b r=>
   have e:(a::b::r).length-1=((b::r).length-1)+1:=by
    have h1:(a::b::r).length=r.length+2:=rfl
    have h2:(b::r).length=r.length+1:=rfl
    omega
   rw[e,List.eraseIdx_cons_succ,ih]
   all_goals rfl
theorem FK (its:List Value):∀(k:Nat) (acc:List Value),
  List.foldl (fun x1 x2=>x1++x2) acc.toArray (List.replicate k its.toArray)=(acc++(List.replicate k its).flatten).toArray
 | 0,acc=>by simp
 | k+1,acc=>by
  have e:acc.toArray++its.toArray=(acc++its).toArray:=by simp
  have e2:(acc++its)++(List.replicate k its).flatten=acc++(List.replicate (k+1) its).flatten:=by
   rw[List.replicate_succ,List.flatten_cons,List.append_assoc]
  rw[←e2,←FK its k (acc++its),←e,List.replicate_succ,List.foldl_cons]
section
variable {X:Cx} {pins:List (Addr×Obj)} {σ:St} {H:Hp} {s:Shared} {l b:Addr} {xs ys zs:List V}
theorem Inv.lset {its its':List Value} {n:Nat} {f:Array Value→Array Value} {t':Nat} (I:Inv X pins σ H s) (hH:H l=some (.lst xs))
  (e:s.heap.get? l=some { cls:=.type "list",data:=.seq its.toArray n }) (hf:f its.toArray=its'.toArray) (hv:Vals ys its') (hz:ys.length≤sizeLine) :
  Inv X pins σ (upd H l (.lst ys)) { s with heap:=s.heap.update l (Obj.mapSeq f),toks:=t' }:=by
 have q:=PySem.IsL.update e f
 rw[hf] at q
 refine I.write (x:=l) (e:=l) (by rw[hH];exact trivial) (.inl rfl) (fun b' u hb hu=>(Heap.get?_update_other s.heap (Obj.mapSeq f) (Ne.symm hb)).trans hu) ⟨_,q⟩ ?_
 exact⟨hz,its',_,hv,q⟩
theorem Inv.lnew {its:List Value} {t':Nat} (I:Inv X pins σ H s) (hv:Vals ys its) (hz:ys.length≤sizeLine) :
  Inv X pins σ (upd H s.heap.objs.size (.lst ys)) { s with heap:=s.heap.push { cls:=.type "list",data:=.seq its.toArray },toks:=t' }:=
 I.laid (fun _ _ q=>Heap.get?_push_of_some _ q) (Nat.le_refl _) ⟨hz,its,0,hv,Heap.get?_push_size _ rfl⟩
theorem Inv.fresh (I:Inv X pins σ H s):H s.heap.objs.size=none:=I.hok.fresh (Nat.le_refl _)
theorem Inv.lstM (I:Inv X pins σ H s) (hH:H l=some (.lst xs)):xs.length≤sizeLine∧∃(its:List Value) (n:Nat),Vals xs its∧xs.length=its.length∧s.heap.get? l=some { cls:=.type "list",data:=.seq its.toArray n }:=by
 obtain⟨z,its,n,r,e⟩:=I.hok l _ hH
 exact⟨z,its,n,r,r.length,e⟩
theorem Ig {n:Nat} (h:n≤sizeLine):Builtin.List.listTooLong n=false:=by
 unfold Builtin.List.listTooLong
 exact decide_eq_false (by omega)
end
section
variable {X:Cx}
def QJ:V→List V→Hp→VK→Prop:=fun x vs H Q=>∃l xs y,x= .ref l∧vs=[y]∧H l=some (.lst xs)∧xs.length<sizeLine∧Q .non (upd H l (.lst (xs++[y])))
theorem AZ:Tt X "list.append" QJ:=by
 intro pins s σ H x vs v us Q I rx rv h
 obtain⟨l,xs,y,rfl,rfl,hH,hz,q⟩:=h
 cases rx
 obtain⟨u,rfl,ru⟩:=rv.one
 obtain⟨z,its,n,r,hl,e⟩:=I.lstM hH
 refine call_meets F.slot_list_append ⟨_,e,rfl⟩ F.entry_list_append (F.args_list_append_2 _ _) (PySem.list_append l its.toArray n u (by rw[List.size_toArray];omega)) ⟨e,?_⟩
 refine⟨.non,_,I.lset (its':=its++[u]) hH e (by simp) (r.append (.cons ru .nil)) ?_,rfl,q⟩
 rw[List.length_append,List.length_singleton]
 omega
def Qg:V→List V→Hp→VK→Prop:=fun x vs H Q=>∃l b xs zs,x= .ref l∧vs=[.ref b]∧H l=some (.lst xs)∧H b=some (.lst zs)∧xs.length+zs.length≤sizeLine∧Q .non (upd H l (.lst (xs++zs)))
theorem Ea:Tt X "list.extend" Qg:=by
 intro pins s σ H x vs v us Q I rx rv h
 obtain⟨l,b,xs,zs,rfl,rfl,hH,hB,hz,q⟩:=h
 cases rx
 obtain⟨u,rfl,ru⟩:=rv.one
 cases ru
 obtain⟨z,its,n,r,hl,e⟩:=I.lstM hH
 obtain⟨z2,its2,n2,r2,hl2,e2⟩:=I.lstM hB
 have hsz:its.toArray.size+its2.toArray.size≤sizeLine:=by rw[List.size_toArray,List.size_toArray];omega
 have hlong:¬(!its.toArray.isEmpty && Builtin.List.listTooLong (its.toArray.size+its2.toArray.size))=true:=by
  rw[Ig hsz,Bool.and_false]
  exact Bool.false_ne_true
 refine call_meets F.slot_list_extend ⟨_,e,rfl⟩ F.entry_list_extend (F.args_list_extend_2 _ _)
  (AutoSeq1.list_extend_list_list_0 l its.toArray n b its2.toArray n2 hlong (by rw[List.size_toArray];omega) (by omega)) ⟨e,e2,?_⟩
 refine⟨.non,_,I.lset (its':=its++its2) hH e (by simp) (r.append r2) ?_,rfl,q⟩
 rw[List.length_append]
 omega
def Uo:V→List V→Hp→VK→Prop:=fun x vs H Q=>∃l xs y,x= .ref l∧vs=[]∧H l=some (.lst xs)∧xs[xs.length-1]? = some y∧Q y (upd H l (.lst xs.dropLast))
theorem Cf:Tt X "list.pop" Uo:=by
 intro pins s σ H x vs v us Q I rx rv h
 obtain⟨l,xs,y,rfl,rfl,hH,hy,q⟩:=h
 cases rx
 have hus:=rv.zero
 subst hus
 obtain⟨z,its,n,r,hl,e⟩:=I.lstM hH
 obtain⟨u,hu,ru⟩:=r.get hy
 have hy':its.toArray[its.toArray.size-1]? = some u:=by
  show its.toArray[its.length-1]? = some u
  rw[←Array.getElem?_toList,←hl]
  exact hu
 refine call_meets F.slot_list_pop ⟨_,e,rfl⟩ F.entry_list_pop (F.args_list_pop_1 _) (MeetsSeq.list_pop_last l its.toArray n u hy' (by rw[List.size_toArray];omega)) ⟨e,?_⟩
 refine⟨y,_,I.lset (its':=its.dropLast) hH e ?_ r.dropLast ?_,ru,q⟩
 ·show its.toArray.eraseIdxIfInBounds (its.toArray.size-1)=its.dropLast.toArray
  rw[List.size_toArray,List.eraseIdxIfInBounds_toArray,I0]
 ·rw[List.length_dropLast]
  omega
def MN:V→List V→Hp→VK→Prop:=fun x vs H Q=>∃l xs,x= .ref l∧vs=[]∧H l=some (.lst xs)∧Q .non (upd H l (.lst xs.reverse))
theorem JS:Tt X "list.reverse" MN:=by
 intro pins s σ H x vs v us Q I rx rv h
 obtain⟨l,xs,rfl,rfl,hH,q⟩:=h
 cases rx
 have hus:=rv.zero
 subst hus
 obtain⟨z,its,n,r,hl,e⟩:=I.lstM hH
 refine call_meets F.slot_list_reverse ⟨_,e,rfl⟩ F.entry_list_reverse (F.args_list_reverse_1 _) (AutoSeq1.list_reverse_list_0 l its.toArray n (by rw[List.size_toArray];omega)) ⟨e,?_⟩
 refine⟨.non,_,I.lset (its':=its.reverse) hH e (by simp) r.reverse ?_,rfl,q⟩
 rw[List.length_reverse]
 omega
def Ut:R2:=fun x y H Q=>∃l b xs zs,x= .ref l∧y= .ref b∧H l=some (.lst xs)∧H b=some (.lst zs)∧xs.length+zs.length≤sizeLine∧∀p,H p=none→Q (.ref p) (upd H p (.lst (xs++zs)))
theorem Hr:Ca X (binaryOp .Add) Ut:=by
 intro pins s σ H x y v u Q I rx ry h
 obtain⟨l,b,xs,zs,rfl,rfl,hH,hB,hz,q⟩:=h
 cases rx
 cases ry
 obtain⟨z,its,n,r,hl,e⟩:=I.lstM hH
 obtain⟨z2,its2,n2,r2,hl2,e2⟩:=I.lstM hB
 refine PySem.P.add_list e e2 ?_ (by rw[List.size_toArray,List.size_toArray];omega)
 have ea:its.toArray++its2.toArray=(its++its2).toArray:=by simp
 rw[ea]
 exact⟨.ref _,_,I.lnew (t':=s.toks) (r.append r2) (by rw[List.length_append];omega),rfl,q _ I.fresh⟩
def UH:R2:=fun x y H Q=>∃l k xs,x= .ref l∧y= .int k∧H l=some (.lst xs)∧-(2^63)≤k∧k<2^63∧xs.length*k.toNat≤sizeLine∧
 ∀p,H p=none→Q (.ref p) (upd H p (.lst (List.replicate k.toNat xs).flatten))
theorem PY {α:Type} (xs:List α) (k:Nat):(List.replicate k xs).flatten.length=k*xs.length:=by
 induction k with
 | zero=>simp
 | succ k ih=>rw[List.replicate_succ,List.flatten_cons,List.length_append,ih,Nat.succ_mul,Nat.add_comm]
theorem RR:Ca X (binaryOp .Mult) UH:=by
 intro pins s σ H x y v u Q I rx ry h
 obtain⟨l,k,xs,rfl,rfl,hH,h1,h2,hz,q⟩:=h
 cases rx
 obtain⟨t,rfl⟩:=ry
 obtain⟨z,its,n,r,hl,e⟩:=I.lstM hH
 have hlen:its.toArray.size*k.toNat≤sizeLine:=by rw[List.size_toArray,←hl];exact hz
 have hcap:¬its.toArray.size*k.toNat>(2^63-1) / 8:=by
  have:(sizeLine:Nat)≤(2^63-1) / 8:=by decide
  omega
 have hfit:¬(!Builtin.List.listFitsIndex k)=true:=by
  rw[fitsIndex_both h1 h2]
  exact Bool.false_ne_true
 have hlong:¬Builtin.List.listTooLong (its.toArray.size*k.toNat)=true:=by
  rw[Ig hlen]
  exact Bool.false_ne_true
 have hnew:List.foldl (fun x1 x2=>x1++x2) #[] (List.replicate (if its.toArray.isEmpty=true then 0 else k.toNat) its.toArray)=(List.replicate k.toNat its).flatten.toArray:=by
  have f0:∀m:Nat,List.foldl (fun x1 x2=>x1++x2) #[] (List.replicate m its.toArray)=(List.replicate m its).flatten.toArray:=fun m=>by
   have:=FK its m []
   rw[List.nil_append] at this
   exact this
  rw[f0]
  cases its with
  | nil=>simp
  | cons a r'=>rw[if_neg (by simp)]
 refine wpAny_binaryOp_repeat_ref (T:="list") (U:="int") (by decide) ⟨_,e,rfl⟩ (fun s'=>typeIs_int s' k t) noFill_list_mul F.fills_int_mul F.slot_int_rmul repeat_list F.slot_int_index.lookup
  (call_meets F.slot_int_rmul (typeIs_int s k t) F.entry_int_rmul (F.args_int_rmul_2 _ _) (int___rmul___int_list k t l its.toArray n)
   ⟨e,rfl,⟨_,e,rfl⟩,call_meets F.slot_list_mul ⟨_,e,rfl⟩ F.entry_list_mul (F.args_list_mul_2 _ _) (AutoListH.list___mul___list_int_3 l its.toArray n k t hfit hcap hlong) ⟨e,?_⟩⟩)
 rw[hnew]
 exact⟨.ref _,_,I.lnew (t':=s.toks) (r.rep k.toNat) (by rw[PY,Nat.mul_comm];exact hz),rfl,q _ I.fresh⟩
end
section
variable {prog:Program} {w:World} {A:Around} {E:Value→Shared→Prop} {s:Shared}
end
section
variable {X:Cx}
end
end L2
namespace Att
open PySem PySem.W PySem.Calls PyProof.Rows
theorem En {P:Params} {h:Heap}:∀(ns:List Int) (vs:List Value),WellAll P h vs (ns.map WData.int)→IntsAre vs ns:=by
 intro ns
 induction ns with
 | nil=>
  intro vs w
  rw[List.map_nil] at w
  cases w
  exact .nil
 | cons n ns ih=>
  intro vs w
  rw[List.map_cons] at w
  cases w with
  | cons a b=>
   cases a
   exact .cons _ _ (ih _ b)
theorem MC {l:OpenLaw} {n:Nat} (hn:l.most=some n) {P:Params} {h:Heap} {args:List WData} {vals:List Value}
  (hpre:l.row.toRowW.claim.pre args=true) (hwl:WellAll P h vals args) :
  ∃a vs ns,vals=[Value.ref a]∧args=[WData.list (ns.map WData.int)]∧h.get? a=some { cls:=.type "list",data:=.seq vs.toArray }∧IntsAre vs ns∧ns.length≤n:=by
 have hsh:WShape.hasAll [] args [.list .int]=true:=(pre_splitW hpre).1
 have hc:l.pre.holds [] { args:=args }=true:=(pre_splitW hpre).2
 obtain⟨d,r,rfl,h1,h2⟩:=hasAllW_cons hsh
 obtain rfl:=hasAllW_nil h2
 obtain⟨xs,rfl,h3⟩:=hasW_list h1
 obtain⟨ns,rfl⟩:=items_int h3
 have hlen:ns.length≤n:=by
  unfold OpenLaw.pre at hc
  have h4:(WTm.not (.lt (.lit (.int (n:Int))) (.len (.arg 0)))).holds [] { args:=[.list (ns.map .int)] }=true:=by
   have h4:=(holds_andW hc).1
   rw[hn] at h4
   exact h4
  have h5:=condW_of h4 (w_not (w_lt w_lit (w_len_list (w_arg rfl))))
  rw[List.length_map] at h5
  refine Nat.le_of_not_lt fun q=>?_
  have q':(n:Int)<((ns.length:Nat):Int):=by omega
  first
   | (rw[decide_eq_true q'] at h5;exact absurd h5 (by decide))
   | (simp at h5;omega)
 cases hwl with
 | cons w1 w2=>
  cases w2
  cases w1 with
  | list ho hall=>exact⟨_,_,ns,rfl,rfl,ho,En ns _ hall,hlen⟩
theorem Ms (l:OpenLaw) (args:List WData):l.row.toRowW.claim.post args (.bool true) args=true:=
 postW_of (r:=l.row.toRowW) (X:=(true == true))
  (show WShape.has [] (.bool true) .bool=true by first | rfl | decide | simp[WShape.has,WShape.arms,WShape.armsAll])
  (show (WTm.eq .res (.lit (.bool true))).value [] { args:=args,res:=some (.bool true),after:=args }=some (.bool (true == true)) from w_eq_bool (w_res rfl) w_lit) rfl
theorem attach_call {l:OpenLaw} {n:Nat} {q:Program} {loose:List Str} {XP:(Str→Option Value)→Heap→Prop} {YP:World→Heap→Prop} {d:DefRec}
  (hn:l.most=some n) (hdf:d.params.defaults=[])
  (call:∀(w:World) (s₀ s₁:Shared) (mg mb:Str→Option Value) (fa:Addr) (o:Obj) (pm cd doc:Value) (a:Addr) (vs:List Value) (ns:List Int),
   Ground q loose [] XP w s₀ mg mb s₁.heap→YP w s₁.heap→
   s₁.heap.get? fa=some o→o.data= .func (docDef d.name d.params d.body d.scope pm cd doc)→s₁.heap.CodeRec cd d.name→mg d.name=some (.ref fa)→
   s₁.heap.get? a=some { cls:=.type "list",data:=.seq vs.toArray }→IntsAre vs ns→ns.length≤n→s₁.gens = #[]→
   codeAny (model l.prog w) callerA (.call (.ref fa) ⟨[.ref a],[]⟩) (fun r s'=>r= .ok (.ret (.bool true))∧OldK s₁.heap s'.heap∧s'.os=s₁.os∧AllBare s'.gens) s₁) :
  WalkO q loose XP YP l.row.toRowW d [] (fun f vs=>PySem.call f vs):=by
 intro w s₀ s₁ mg mb G Y fa o pm cd doc dV kV ho hd hcd hD hmg hg args vals as hpre hlay hrd hwl hlo
 obtain rfl:dV= .none:=Dflts.none hD hdf
 obtain rfl:kV= .none:=Dflts.noKw hD
 obtain⟨a,vs,ns,rfl,rfl,hobj,hints,hlen⟩:=MC hn hpre hwl
 refine enter_call (codeAny_mono (call w s₀ s₁ mg mb fa o pm cd doc a vs ns G Y ho (fd_plain hd) hcd hmg hobj hints hlen hg) fun r s' hq=>?_)
 obtain⟨rfl,h2,h3,h4⟩:=hq
 exact⟨.inl ⟨.bool true,.bool true,[],rfl,fun _=>rfl,.bool true,Ms l _,fun _=>⟨List.Pairwise.nil,fun _ hm=>(nomatch hm)⟩⟩,h2,h3,h4⟩
section
variable {prog:Program} {w:World} {A:Around} {E:Value→Shared→Prop} {s:Shared} {K:Frag}
end
end Att
namespace L2
open PySem PySem.Spec PyProof.Rows
theorem DO:∀{vs:List Value} {ns:List Int},IntsAre vs ns→Vals (ns.map V.int) vs
 | _,_,.nil=>.nil
 | _,_,.cons n t h=>.cons ⟨t,rfl⟩ (DO h)
def R6 (H:Hp):Prop:=∀b,H b=none∨∃o xs,H b=some (.frz o (.lst xs))
theorem Ol {P:Program} {w:World} {K:PySem.W.Frag} {mg mb:Str→Option Value} {CX:Kc} {k:Nat} {fa a:Addr} {fd:FuncData} {x:Str} {sp:Sp} {s₁:Shared} {vs:List Value} {ns:List Int}
  (KX:K.In s₁.heap) (hns:s₁.heap.Ns mainGlobals mg) (hb:s₁.heap.Ns builtinsNs mb) (hbb:∀x:Str,x≠"__name__"→mb x=bootBuiltins x) (hlim:s₁.heap.NoLimit) (hg:s₁.gens = #[])
  (ha:s₁.heap.get? a=some { cls:=.type "list",data:=.seq vs.toArray }) (hi:IntsAre vs ns) (hl:ns.length≤sizeLine) (hr:Room k callerA)
  (F:∀base:Heap,K.In base→base.Ns mainGlobals mg→FnOk P w K mg base CX k fa fd [x] sp) (hbind:∀(s:Shared) (u:Value),BindsTo s fd ⟨[u],[]⟩ [(x,u)])
  (hsp:∀H:Hp,R6 H→SqL K H a (ns.map V.int)→sp [.ref a] H (fun v _=>v= .bl true) fun _ _ _=>False)
  (hCX:∀H e s',CX [] H s₁ (fun _ _ _=>False) e s'→False) :
  codeAny (model P w) callerA (.call (.ref fa) ⟨[.ref a],[]⟩) (fun r s'=>r= .ok (.ret (.bool true))∧OldK s₁.heap s'.heap∧s'.os=s₁.os∧AllBare s'.gens) s₁:=by
 have rv:=DO hi
 have lenV:=hi.length
 have core:∀H:Hp,R6 H→SqL K H a (ns.map V.int)→HOk P w H s₁.heap→(∀b,H b≠none→b=a)→(H a≠none→K.lookup a=none)→
   codeAny (model P w) callerA (.call (.ref fa) ⟨[.ref a],[]⟩) (fun r s'=>r= .ok (.ret (.bool true))∧OldK s₁.heap s'.heap∧s'.os=s₁.os∧AllBare s'.gens) s₁:=by
  intro H hO hS hok hA hK
  have Dw:∀{b:Addr} {o:Obj},s₁.heap.get? b=some o→H b=none→(Go s₁.heap H).get? b=some o:=fun e n=>NZ e n
  have noA:∀{b:Addr} {o:Obj} {es:Array DictEntry} {ep:Nat},s₁.heap.get? b=some o→o.data= .dict es ep→H b=none:=fun {b o es ep} e d=>by
   cases q:H b with
   | none=>rfl
   | some u=>
    have e':b=a:=hA b (by rw[q];simp)
    subst e'
    rw[ha] at e;cases e
    have d':Data.seq vs.toArray _=Data.dict es ep:=d
    cases d'
  have nsK:∀{b:Addr} {m:Str→Option Value},s₁.heap.Ns b m→(Go s₁.heap H).Ns b m:=fun {b m} ⟨o,es,ep,e,d,r⟩=>⟨o,es,ep,Dw e (noA e d),d,r⟩
  have hKb:K.In (Go s₁.heap H):=fun b o e=>Dw (KX b o e) (by
   cases q:H b with
   | none=>rfl
   | some u=>
    have e':b=a:=hA b (by rw[q];simp)
    subst e'
    rw[hK (by rw[q];simp)] at e;cases e)
  have hM:Mod K mg (Go s₁.heap H):=⟨hKb,nsK hns,⟨mb,nsK hb,hbb⟩,let ⟨mc,h1,h2⟩:=hlim;⟨mc,nsK h1,h2⟩⟩
  have e0:Env0 P w K mg (Go s₁.heap H) callerA [] s₁ H:=⟨rfl,hM,fun b o e=>Pu e,Nat.le_of_eq (Me _ _),trivial,fun b hb=>absurd (show b∈([]:List Addr) from hb) (by simp),hok,.of_eq hg⟩
  refine codeAny_mono ((F _ hKb (nsK hns)).run callerA [] s₁ H ⟨[.ref a],[]⟩ [.ref a] [.ref a] _ _ hr e0 (hbind s₁ (.ref a)) (.cons rfl .nil) (hsp H hO hS)) fun r s' h=>?_
  cases r with
  | error e=>exact (hCX H e s' h).elim
  | ok fl=>
   cases fl with
   | next=>exact False.elim h
   | brk=>exact False.elim h
   | cont=>exact False.elim h
   | ret u=>
    obtain⟨v,H',os,bare,un,hok',r',q⟩:=h
    have q':v= .bl true:=q
    subst q'
    obtain rfl:u=Value.bool true:=r'
    refine⟨rfl,OldK.of_keep fun b o e=>?_,os,bare⟩
    cases q:H b with
    | none=>exact un.keep b o e q (by intro z;exact absurd (show b∈([]:List Addr) from z) (by simp)) (by simp)
    | some u=>
     rcases hO b with z | ⟨ob,xs,z⟩
     ·rw[q] at z;cases z
     ·have z2:=un.frzs b ob _ z
      obtain⟨e1,_⟩:=hok b _ z
      obtain⟨e2,_⟩:=hok' b _ z2
      rw[e] at e1;cases e1
      exact e2
 cases hk:K.lookup a with
 | some o=>
  have e:=KX a o hk
  rw[ha] at e
  cases e
  refine core (fun _=>none) (fun _=>.inl rfl) (.inr ⟨_,vs.toArray,_,hk,rfl,rfl,rfl,by rw[List.size_toArray,lenV];exact hl,by simpa using rv⟩) (fun b u z=>by have z':(none:Option HO)=some u:=z;cases z') (fun b z=>absurd rfl z) fun z=>absurd rfl z
 | none=>
  refine core (fun b=>if b=a then some (.frz { cls:=.type "list",data:=.seq vs.toArray } (.lst (ns.map V.int))) else none) (fun b=>?_) (.inl (.inr ⟨{ cls:=.type "list",data:=.seq vs.toArray },if_pos rfl⟩)) (fun b u z=>?_) (fun b z=>?_) fun _=>hk
  ·by_cases hb:b=a
   ·exact .inr ⟨_,_,if_pos hb⟩
   ·exact .inl (if_neg hb)
  ·by_cases hb:b=a
   ·have z':=(if_pos hb).symm.trans z
    cases z'
    subst hb
    exact⟨ha,by rw[List.length_map];exact hl,vs,_,rv,ha⟩
   ·have z':=(if_neg hb).symm.trans z
    cases z'
  ·by_cases hb:b=a
   ·exact hb
   ·exact absurd (if_neg hb) z
end L2
namespace L2
open PySem PySem.Spec PyProof.Rows
theorem walk_of {l:PySem.W.OpenLaw} {n k:Nat} {q:Program} {loose:List Str} {XP:(Str→Option Value)→Heap→Prop} {YP:World→Heap→Prop} {d:DefRec} {K:Params→PySem.W.Frag} {CX:World→Kc} {sp:World→Sp} {x:Str}
  (hn:l.most=some n) (hn2:n≤sizeLine) (hdf:d.params.defaults=[]) (hr:Room k callerA)
  (hY:∀(w:World) (h:Heap),YP w h→(K w.params).In h)
  (F:∀(w:World) (mg:Str→Option Value) (fa:Addr) (h:Heap),(K w.params).In h→h.Ns mainGlobals mg→mg d.name=some (.ref fa)→
   ∃fd:FuncData,(∀(s:Shared) (u:Value),BindsTo s fd ⟨[u],[]⟩ [(x,u)])∧
    ∀base:Heap,(K w.params).In base→base.Ns mainGlobals mg→FnOk l.prog w (K w.params) mg base (CX w) k fa fd [x] (sp w))
  (hsp:∀(w:World) (H:Hp) (a:Addr) (ns:List Int),ns.length≤n→R6 H→SqL (K w.params) H a (ns.map V.int)→sp w [.ref a] H (fun v _=>v= .bl true) fun _ _ _=>False)
  (hCX:∀(w:World) (H:Hp) (s:Shared) (e:Value) (s':Shared),CX w [] H s (fun _ _ _=>False) e s'→False) :
  PySem.W.WalkO q loose XP YP l.row.toRowW d [] (fun f vs=>PySem.call f vs):=by
 refine Att.attach_call hn hdf fun w s₀ s₁ mg mb fa o pm cd doc a vs ns G Y ho hd hcd hmg hobj hints hlen hg=>?_
 have KX:=hY w _ Y
 obtain⟨fd,hb,hF⟩:=F w mg fa _ KX G.T.g hmg
 exact Ol KX G.T.g G.T.b G.T.builtins G.T.nolimit hg hobj hints (Nat.le_trans hlen hn2) hr hF hb (fun H hO hS=>hsp w H a ns hlen hO hS) fun H e s'=>hCX w H s₁ e s'
end L2
namespace L2
open PySem PySem.Spec PyProof.Rows
def AJ (s:Stmt) (j:Nat):Stmt:=match s with
 | .ClassDef _ _ _ body _ _ _ _ _ _ _=>body.getD j (.Pass ⟨0,0,0,0⟩)
 | _=>.Pass ⟨0,0,0,0⟩
def Bs (s:Stmt):Arguments:=match s with
 | .FunctionDef _ a _ _ _ _ _ _ _ _=>a
 | _=>{ posonlyargs:=[],args:=[],vararg:=none,kwonlyargs:=[],kw_defaults:=[],kwarg:=none,defaults:=[] }
def Bf (s:Stmt):List Stmt:=match s with
 | .FunctionDef _ _ b _ _ _ _ _ _ _=>b
 | _=>[]
def Ag (s:Stmt):Scope:=match s with
 | .FunctionDef _ _ _ _ _ _ sc _ _ _=>sc
 | _=>{ kind:=.function,names:=[],isGenerator:=false,isCoroutine:=false }
abbrev A8:Kc:=fun _ _ _ _ _ _=>False
abbrev E0:XK:=fun _ _ _=>False
theorem AH {X:Cx}:Cg A8 X E0:=fun _ _ _ _ _ _ _ h=>h.elim
structure Fun (K:PySem.W.Frag) (x qual:Str) (st:Stmt) (f:Addr) (fd:FuncData):Prop where
 ex:∃(oc:Value) (od:Option Addr) (kV doc pm:Value) (an:Option Addr) (cdv ct:Value) (osl:Array (Option Value)),
  fd=PySem.W.fnOf x qual (Bs st) (Bf st) (Ag st) .none kV doc pm an cdv ct∧K.lookup f=some ⟨oc,od,.func fd,osl⟩∧PySem.W.codeIn K cdv qual=true
 kp:PySem.W.keepIn K (.ref f)=true
section
variable {P:Program} {w:World} {K:PySem.W.Frag} {mg:Str→Option Value} {base:Heap}
theorem Fun.ok {x qual:Str} {st:Stmt} {f:Addr} {fd:FuncData} {N ps:List Str} {k:Nat} {sp:Sp} (F:Fun K x qual st f fd) (S:Aj N ps (Ag st)) (len:∀vs H Q E,sp vs H Q E→vs.length=ps.length)
  (hbody:∀(cdv:Value) (A:Around) (outer:List Env) (s:Shared) (H:Hp) (vs:List V) (Q:VK) (E:XK),Room k (A.deeper (envOfC qual (Ag st) s.heap.objs.size f cdv))→sp vs H Q E→
   ∃t,PSs (Ha A8 P w K mg base N qual (Ag st) f cdv A outer s H E).nox (Bf st) t∧t { nx:=fun _ H'=>Q .non H',rt:=Q } (Dy N vs) H):FnOk P w K mg base A8 (k+1) f fd ps sp:=by
 obtain⟨oc,od,kV,doc,pm,an,cdv,ct,osl,rfl,lk,hcd⟩:=F.ex
 refine QT lk hcd S len fun A outer s H vs Q E hr hsp=>?_
 obtain⟨t,h,q⟩:=hbody cdv A outer s H vs Q E hr hsp
 exact⟨t,h.nox,q⟩
theorem Fun.binds {x qual:Str} {st:Stmt} {f:Addr} {fd:FuncData} {ps:List Str} (F:Fun K x qual st f fd)
  (h:∀(kV doc pm:Value) (an:Option Addr) (cdv ct:Value) (us:List Value),us.length=ps.length→bindArgs (PySem.W.fnOf x qual (Bs st) (Bf st) (Ag st) .none kV doc pm an cdv ct) ⟨us,[]⟩=pure (ps.zip us)):Binds K fd ps []:=by
 obtain⟨oc,od,kV,doc,pm,an,cdv,ct,osl,rfl,lk,hcd⟩:=F.ex
 exact .all (h kV doc pm an cdv ct)
theorem Jd {x qual:Str} {st:Stmt} {f:Addr} {oc:Value} {od an:Option Addr} {osl:Array (Option Value)} {kV doc pm cdv ct:Value} (l:K.lookup f=some ⟨oc,od,.func (PySem.W.fnOf x qual (Bs st) (Bf st) (Ag st) .none kV doc pm an cdv ct),osl⟩)
  (c:PySem.W.codeIn K cdv qual=true) (k:PySem.W.keepIn K (.ref f)=true):Fun K x qual st f (PySem.W.fnOf x qual (Bs st) (Bf st) (Ag st) .none kV doc pm an cdv ct):=⟨⟨oc,od,kV,doc,pm,an,cdv,ct,osl,rfl,l,c⟩,k⟩
end
theorem AI {n:Nat} (h:n≤1000):n<sizeLine:=Nat.lt_of_le_of_lt h (by decide)
section
variable {X:Cx}
theorem pv (i:Nat) {x:Str} {pos:Pos} (hN:X.N[i]? = some x:=by rfl) (hv:Uq X.env.scope x:=by first | exact Or.inl rfl | exact Or.inr (Or.inl rfl) | exact Or.inr (Or.inr rfl)) (hd:(x == ("__debug__":Str))=false:=by decide)
  (hcd:(x == ("__classdict__":Str))=false:=by decide):PE X (.Name x pos) (Ny i):=RW hN hv hd hcd
end
theorem Bu {A B:Prop} (h:B):if false=true then A else B:=by
 rw[if_neg Bool.false_ne_true]
 exact h
theorem BH {A B:Prop} (h:A):if true=true then A else B:=by
 rw[if_pos rfl]
 exact h
theorem CZ {c A B:Prop} [Decidable c] (h1:c→A) (h2:¬c→B):if c then A else B:=by
 by_cases h:c
 ·rw[if_pos h]
  exact h1 h
 ·rw[if_neg h]
  exact h2 h
theorem MO {c A B:Prop} [Decidable c] (hc:c) (h:B):if (!decide c)=true then A else B:=by
 rw[decide_eq_true hc]
 exact Bu h
def Same (H H':Hp):Prop:=∀b o,H b=some o→H' b=some o
theorem Same.refl (H:Hp):Same H H:=fun _ _ h=>h
theorem Same.trans {H H1 H2:Hp} (a:Same H H1) (b:Same H1 H2):Same H H2:=fun c o h=>b c o (a c o h)
theorem Same.free {H H':Hp} (e:Same H H') {l:Addr} (h:H' l=Option.none):H l=Option.none:=by
 cases q:H l with
 | none=>rfl
 | some o=>
  rw[e l o q] at h
  cases h
theorem Same.seq {K:PySem.W.Frag} {H H':Hp} {a:Addr} {xs:List V} (e:Same H H') (h:SqL K H a xs):SqL K H' a xs:=by
 rcases h with (h | ⟨o,h⟩) | h
 ·exact .inl (.inl (e _ _ h))
 ·exact .inl (.inr ⟨o,e _ _ h⟩)
 ·exact .inr h
end L2
namespace L2
open PySem PySem.Spec PyProof.Rows
section
variable {X:Cx}
theorem HV:Bp X (.builtin "isinstance") (fun xs H Q=>∃x T t b,xs=[x,.ty T]∧D1 X.K H x t∧PySem.W.kitOne X.K t (.type T)=some b∧Q (.bl b) H):=by
 intro pins s σ H xs us Q I r h
 obtain⟨x,T,t,b,rfl,ty,e,q⟩:=h
 obtain⟨u,w',rfl,rx,ry⟩:=QN r
 cases ry
 exact Md I rx ty e fun tk=>⟨.bl b,H,I.tok _,rfl,q⟩
theorem N4 (K:PySem.W.Frag) (T:String):PySem.W.kitOne K (.type T) (.type T)=some true:=by
 unfold PySem.W.kitOne
 rw[if_pos (beq_self_eq_true _)]
theorem Cs (K:PySem.W.Frag):PySem.W.kitOne K (.type "tuple") (.type "str")=some false:=by
 with_unfolding_all rfl
def Ud (K:PySem.W.Frag):R2:=fun x y H Q=>∃a b xs,x= .ref a∧y= .ref b∧SqL K H a xs∧SqL K H b []∧Q (.bl (!xs.isEmpty)) H
theorem Rj (hu:X.A.units<cLine):Ca X (compareOp .NotEq) (Ud X.K):=by
 intro pins s σ H x y v u Q I rx ry h
 obtain⟨a,b,xs,rfl,rfl,ha,hb,q⟩:=h
 cases rx
 cases ry
 obtain⟨its,r,pl,hz⟩:=I.list ha
 obtain⟨its2,r2,pl2,hz2⟩:=I.list hb
 cases r2
 cases r with
 | nil=>exact SeqAt.RcNeAt.lists (e:=fun _=>true) pl.isList pl2.isList rfl hu (fun j h1=>absurd h1 (Nat.not_lt_zero _)) _ _ _ _ ⟨.bl false,H,I,rfl,q⟩
 | cons r1 r2=>exact SeqAt.RcNeAt.lists_lengths pl.isList pl2.isList (by simp) hu _ _ _ _ ⟨.bl true,H,I,rfl,q⟩
theorem Fj:∀{ys:List Str} {us:List Value},Vals (ys.map V.str) us→StrsAre us ys
 | [],_,r=>by cases r;exact .nil
 | y::ys,_,r=>by
  cases r with
  | cons r1 r2=>
   obtain⟨t,rfl⟩:=r1
   exact .cons y t (Fj r2)
def SV (K:PySem.W.Frag):V→List V→Hp→VK→Prop:=fun x vs H Q=>∃sep l ys,x= .str sep∧vs=[.ref l]∧SqL K H l (ys.map V.str)∧(ys.map (·.length)).sum+ys.length*sep.length≤16777216∧Q (.str (Txt.join sep ys)) H
theorem KT:Sq X "str.join" (SV X.K):=by
 intro pins s σ H x vs v us Q I rx rv h
 obtain⟨sep,l,ys,rfl,rfl,hq,hz,q⟩:=h
 obtain⟨t,rfl⟩:=rx
 obtain⟨u,rfl,ru⟩:=rv.one
 cases ru
 obtain⟨its,r,pl,hs⟩:=I.list hq
 exact join_list pl.isList (by simpa using Fj r) hz fun t' k=>⟨.str _,H,I.tok _,⟨_,rfl⟩,q⟩
def Hv (P:Program) (w:World) (K:PySem.W.Frag) (d:Addr) (f:Str→Option V):Prop:=
 (d == sysModules)=false∧∃(o:Obj) (vs:List (Str×Value)),K.lookup d=some o∧o.IsDictOf (PySem.strKind P w) vs∧∀k,RelO (f k) (valueAt vs k)
def Uy (P:Program) (w:World) (K:PySem.W.Frag):R2:=fun x y H Q=>∃d k v f,x= .ref d∧y= .str k∧Hv P w K d f∧f k=some v∧Q v H
theorem M7:Se X (Uy X.prog X.w X.K):=by
 intro value slice pins s σ H x y v u Q I rx ry h hs
 obtain⟨d,k,z,f,rfl,rfl,⟨hm,o,vs,hk,hd,hv⟩,e,q⟩:=h
 cases rx
 obtain⟨t,rfl⟩:=ry
 have hD:s.heap.DictOf (PySem.strKind X.prog X.w) d vs:=Heap.dictOf_iff.mpr ⟨o,I.kIn d o hk,hd⟩
 have hr:=hv k
 rw[e] at hr
 cases ev:valueAt vs k with
 | none=>rw[ev] at hr;exact False.elim hr
 | some u'=>
  rw[ev] at hr
  exact tail_any hD.typeIs slot_dict_getitem.lookup (wpAny_getItem_of (strKind_is _ _ k t) hD.mapOf ev ⟨z,H,I.tok _,hr,q⟩) hs
def Ul (P:Program) (w:World) (K:PySem.W.Frag):R2:=fun x y H Q=>∃d k f,x= .str k∧y= .ref d∧Hv P w K d f∧Q (.bl (f k).isSome) H
theorem MY:Ca X (compareOp .In) (Ul X.prog X.w X.K):=by
 intro pins s σ H x y v u Q I rx ry h
 obtain⟨d,k,f,rfl,rfl,⟨hm,o,vs,hk,hd,hv⟩,q⟩:=h
 obtain⟨t,rfl⟩:=rx
 cases ry
 have hD:s.heap.DictOf (PySem.strKind X.prog X.w) d vs:=Heap.dictOf_iff.mpr ⟨o,I.kIn d o hk,hd⟩
 have hr:=hv k
 refine wpAny_in_of (strKind_is _ _ k t) hm hD.mapOf ?_
 refine⟨.bl (f k).isSome,H,I.tok _,?_,q⟩
 cases e:f k with
 | none=>
  rw[e] at hr
  cases ev:valueAt vs k with
  | none=>rfl
  | some u'=>rw[ev] at hr;exact False.elim hr
 | some z=>
  rw[e] at hr
  cases ev:valueAt vs k with
  | none=>rw[ev] at hr;exact False.elim hr
  | some u'=>rfl
end
end L2
namespace HT2
open PySem L2
def TS (H H':Hp):Prop:=∀p xs,H p=some (.tup xs)→H' p=some (.tup xs)
theorem TS.trans {H H1 H2:Hp} (a:TS H H1) (b:TS H1 H2):TS H H2:=fun p xs e=>b p xs (a p xs e)
theorem TS.same {H H':Hp} (s:Same H H'):TS H H':=fun p xs e=>s p _ e
theorem TS.lst {H:Hp} {l:Addr} {xs:List V} {o:HO} (h:H l=some (.lst xs)):TS H (upd H l o):=fun p ys e=>by
 rw[Ah (AL e h (by intro z;cases z))]
 exact e
theorem TS.new {H:Hp} {l:Addr} {o:HO} (h:H l=none):TS H (upd H l o):=fun p ys e=>by
 rw[Ah (Af e h)]
 exact e
theorem Ae {H:Hp} {p:Addr} (h:H p=none) (o:HO):Same H (upd H p o):=fun b u q=>by rw[Ah (Af q h)];exact q
theorem Az {H0 H:Hp} {p:Addr} (s:Same H0 H) (h:H0 p=none) (o:HO):Same H0 (upd H p o):=fun b u q=>by rw[Ah (Af q h)];exact s b u q
inductive Tr where
 | lt (k:Nat)
 | nt (t:Tr)
 | bn (j:Nat) (a b:Tr)
 deriving DecidableEq
def jn:Nat→Str
 | 0=>"and"
 | 1=>"or"
 | 2=>"if"
 | _=>"same"
def Tr.At (H:Hp):Tr→V→Prop
 | .lt k,v=>∃p,v= .ref p∧H p=some (.tup [.str "let",.int k])
 | .nt t,v=>∃p u,v= .ref p∧H p=some (.tup [.str "not",u])∧t.At H u
 | .bn j a b,v=>∃p x y,v= .ref p∧H p=some (.tup [.str (jn j),x,y])∧a.At H x∧b.At H y
def Tr.size:Tr→Nat
 | .lt _=>1
 | .nt t=>t.size+1
 | .bn _ a b=>a.size+b.size+1
def Tr.ok (m:Nat):Tr→Prop
 | .lt k=>k<m
 | .nt t=>t.ok m
 | .bn j a b=>j<4∧a.ok m∧b.ok m
theorem Tr.size_pos:∀t:Tr,0<t.size
 | .lt _=>Nat.one_pos
 | .nt _=>Nat.succ_pos _
 | .bn _ _ _=>Nat.succ_pos _
theorem Tr.At.keep {H H':Hp} (s:TS H H'):∀{t:Tr} {v:V},t.At H v→t.At H' v
 | .lt k,v,h=>by
  obtain⟨p,e,h⟩:=h
  exact⟨p,e,s _ _ h⟩
 | .nt t,v,h=>by
  obtain⟨p,u,e,h,q⟩:=h
  exact⟨p,u,e,s _ _ h,Tr.At.keep s q⟩
 | .bn j a b,v,h=>by
  obtain⟨p,x,y,e,h,q,r⟩:=h
  exact⟨p,x,y,e,s _ _ h,Tr.At.keep s q,Tr.At.keep s r⟩
abbrev Pile (H:Hp):List V→List Tr→Prop:=Paired fun (v:V) (t:Tr)=>t.At H v
theorem Pile.keep {H H':Hp} (s:TS H H'):∀{xs:List V} {ts:List Tr},Pile H xs ts→Pile H' xs ts
 | _,_,.nil=>.nil
 | _,_,.cons r q=>.cons (Tr.At.keep s r) (Pile.keep s q)
theorem Pile.len {H:Hp}:∀{xs:List V} {ts:List Tr},Pile H xs ts→xs.length=ts.length
 | _,_,.nil=>rfl
 | _,_,.cons _ q=>congrArg (· + 1) (Pile.len q)
theorem Pile.snoc {H:Hp} {y:V} {t:Tr} (h:t.At H y):∀{xs:List V} {ts:List Tr},Pile H xs ts→Pile H (xs++[y]) (ts++[t])
 | _,_,.nil=>.cons h .nil
 | _,_,.cons r q=>.cons r (Pile.snoc h q)
theorem Pile.last {H:Hp}:∀{xs:List V} {ts:List Tr},Pile H xs ts→0<ts.length→∃xs' y ts' t,xs=xs'++[y]∧ts=ts'++[t]∧Pile H xs' ts'∧Tr.At H t y
 | _,_,.nil,h=>absurd h (Nat.lt_irrefl _)
 | _,_,.cons (a:=v) (b:=t) r .nil,_=>⟨[],v,[],t,rfl,rfl,.nil,r⟩
 | _,_,.cons (a:=v) (b:=t) r (.cons r' q'),_=>by
  obtain⟨xs',y,ts',u,e1,e2,q,a⟩:=Pile.last (Paired.cons r' q') (Nat.succ_pos _)
  exact⟨v::xs',y,t::ts',u,by rw[e1];rfl,by rw[e2];rfl,.cons r q,a⟩
def sz (ts:List Tr):Nat:=(ts.map Tr.size).sum
theorem Qi (ts:List Tr) (t:Tr):sz (ts++[t])=sz ts+t.size:=by
 unfold sz
 rw[List.map_append,List.sum_append]
 simp
theorem BE (xs:List V) (y:V):(xs++[y])[(xs++[y]).length-1]? = some y:=by
 simp
theorem B1 {n:Nat} (h:n≤1000):n≤sizeLine:=Nat.le_of_lt (AI h)
theorem IK:2≤sizeLine:=by decide
theorem RV:3≤sizeLine:=by decide
theorem TR:5≤sizeLine:=by decide
theorem LU:1≤sizeLine:=by decide
theorem MI:0≤sizeLine:=by decide
end HT2
namespace L2
open PySem PySem.Spec PyProof.Rows
abbrev DG:Value→Shared→Prop:=fun _ _=>False
theorem Kt {α:Type} {t:Sem α} {Q:α→Shared→Prop} {M:Model} {A:Around} {E:Value→Shared→Prop} {s:Shared} (h:wpAny M A t Q DG s):wpAny M A t Q E s:=wpAny_mono h (fun _ _ q=>q) fun _ _ z=>False.elim z
def Dx (J:It) (g:TG) (tb:TS) (D:Ends) (σ:St) (H:Hp):Prop:=∃W:Nat→Nat→St→Hp→Prop,(∃m,W 0 m σ H)∧∀i m σ H,W i m σ H→
 (J.stop i H∧D.nx σ H)∨(J.go i H∧∃N:St→Hp→Prop,(∀σ' H',N σ' H'→∃m',m'<m∧W (i+1) m' σ' H')∧∀x H',J.yld i H x H'→g x σ H' fun σ2 H2=>tb { D with nx:=N,ct:=N,bk:=D.nx } σ2 H2)
abbrev Pn:=(Shared→Prop)→Shared→Prop
structure PB (X:Cx) (WB:Pn) (tb:TS):Prop where
 mono:∀(Qa Qb:Shared→Prop) (s:Shared),(∀s,Qa s→Qb s)→WB Qa s→WB Qb s
 run:∀(pins:List (Addr×Obj)) (s:Shared) (σ:St) (H:Hp) (D:Ends),Inv X pins σ H s→tb D σ H→WB (fun s'=>∃σ' H',Inv X pins σ' H' s'∧D.nx σ' H') s
def HT (X:Cx) (e:Expr) (d:Nat) (it acc:Value) (tg:Expr) (WB:Pn):Prop:=∀(s:Shared) (Qd Qa:Shared→Prop),
 wpAny (model X.prog X.w) X.A (pyNext it) (fun r s1=>match r with | none=>Qd s1 | some v=>wpAny (model X.prog X.w) X.A (letOwnedTupleGo tg it v) (fun _ s2=>wpAny (model X.prog X.w) X.A (assign tg X.env v) (fun _ s3=>WB Qa s3) DG s2) DG s1) DG s→
 wpAny (model X.prog X.w) X.A (compTurn e d it acc X.env) (fun fin s'=>match fin with | .done f=>f= .next∧Qd s' | .again c'=>c'= .compLoop e d it acc X.env∧Qa s') DG s
section
variable {X:Cx} {e tg:Expr} {d:Nat} {acc:Value} {it:Addr} {WB:Pn} {tb:TS} {g:TG} {J:It} {fp:List Addr} {tn:Nat→Heap→Prop} {D:Ends} {pins:List (Addr×Obj)} {σ:St} {H:Hp} {s:Shared}
theorem CU (hxe:X.xe=DG) (hc:X.calm=true) (ht:HT X e d (.ref it) acc tg WB) (hfr:(Code.compLoop e d (.ref it) acc X.env).isFrame=false) (hun:X.A.under (.compLoop e d (.ref it) acc X.env)=X.A) (hqu:(Code.compLoop e d (.ref it) acc X.env).quiet=true)
  (T:Fu X.prog X.w X.K tg J fp it tn) (hg:PG X tg g) (hb:PB X WB tb)
  (I:Inv X pins σ H s) (st:tn 0 s.heap) (f2:∀b∈fp,B2 X pins H b) (h:Dx J g tb D σ H) :
  codeAny (model X.prog X.w) X.A (.compLoop e d (.ref it) acc X.env) (fun r s'=>r= .ok .next∧∃σ' H',Inv X pins σ' H' s'∧D.nx σ' H') s:=by
 obtain⟨W,⟨m0,w0⟩,turn⟩:=h
 have stat:∀{H':Hp},(∀b∈fp,H' b=none)→∀b∈fp,B2 X pins H' b:=fun hn b hb=>⟨hn b hb,(f2 b hb).2⟩
 refine codeAny_loop hqu (fun n s'=>∃i σ' H',Inv X pins σ' H' s'∧tn i s'.heap∧(∀b∈fp,H' b=none)∧W i n σ' H') (fun n s3 hI=>?_) m0 ⟨0,σ,H,I,st,fun b hb=>(f2 b hb).1,w0⟩
 obtain⟨i,σ3,H3,I3,st3,fr3,w3⟩:=hI
 have hden:(model X.prog X.w).den (.compLoop e d (.ref it) acc X.env)=(compTurn e d (.ref it) acc X.env).onRaise (fun x=>do noteFrame x X.env;theTreesLotGoes x):=by
  show (if (Code.compLoop e d (.ref it) acc X.env).isFrame=true then _ else _)=_
  rw[hfr]
  rfl
 rw[hun,hden]
 refine wpAny_noted (Kt ?_)
 rcases turn i n σ3 H3 w3 with⟨stop,qn⟩|⟨go,N,hN,step⟩
 ·refine wpAny_mono (ht s3 (fun s'=>∃σ' H',Inv X pins σ' H' s'∧D.nx σ' H') (fun _=>False) (Ay (T.done X rfl rfl rfl hc i pins s3 σ3 H3 DG I3 (stat fr3) st3 stop) fun r s4 ⟨hr,I4⟩=>?_)) (fun fin s' q=>?_) fun _ _ z=>z
  ·subst hr
   exact⟨σ3,H3,I4,qn⟩
  ·cases fin with
   | done f=>
    obtain⟨rfl,q⟩:=q
    exact⟨rfl,q⟩
   | again c'=>exact False.elim q.2
 ·refine wpAny_mono (ht s3 (fun _=>False) (fun s'=>∃m,m<n∧∃i σ' H',Inv X pins σ' H' s'∧tn i s'.heap∧(∀b∈fp,H' b=none)∧W i m σ' H') (Ay (T.item X rfl rfl rfl hc i pins s3 σ3 H3 DG I3 (stat fr3) st3 go) fun r s4 ⟨u,hr,h4⟩=>?_)) (fun fin s' q=>?_) fun _ _ z=>z
  ·subst hr
   refine Ay h4 fun _ s5 ⟨x,H5,I5,r5,y5,st5,fr5⟩=>?_
   have I5':=I5.pinned (stat fr5) (T.obj _ _ st5)
   have hgx:=hg _ s5 σ3 H5 x u _ I5' r5 (step x H5 y5)
   rw[hxe] at hgx
   refine Ay hgx fun _ s6 ⟨σ6,H6,I6,q6⟩=>?_
   have again:∀{s7:Shared},(∃σ7 H7,Inv X (pins++E5 fp s5.heap) σ7 H7 s7∧N σ7 H7)→∃m,m<n∧∃i σ' H',Inv X pins σ' H' s7∧tn i s7.heap∧(∀b∈fp,H' b=none)∧W i m σ' H':=fun {s7} ⟨σ7,H7,I7,n7⟩=>by
    obtain⟨m',hm,w7⟩:=hN σ7 H7 n7
    refine⟨m',hm,i+1,σ7,H7,I7.unpinned,T.keep _ _ _ st5 fun b hb o e=>(I7.pin (b,o) (List.mem_append_right _ (List.mem_append_right _ (Cc hb e)))).1,fun b hb=>?_,w7⟩
    obtain⟨o,e,d⟩:=T.obj _ _ st5 b hb
    exact (I7.pin (b,o) (List.mem_append_right _ (List.mem_append_right _ (Cc hb e)))).2.1
   exact hb.mono _ _ s6 (fun s7 q7=>again q7) (hb.run _ s6 σ6 H6 _ I6 q6)
  ·cases fin with
   | done f=>exact False.elim q.2
   | again c'=>exact q
def EB (ifs:List Expr) (env:Env):Sem Bool:=forIn ifs true fun c r=>if r=true then do let ok ←isTrue c env (eval c env);pure (ForInStep.yield ok) else pure (ForInStep.yield r)
def Np (X:Cx) (ifs:List Expr) (t:TT):Prop:=
 ∀(pins:List (Addr×Obj)) (s:Shared) (σ:St) (H:Hp) (Q:Bool→Hp→Prop),Inv X pins σ H s→t σ H Q→wpAny (model X.prog X.w) X.A (EB ifs X.env) (TP X pins σ Q) X.xe s
def Qr:TT:=fun _ H Q=>Q true H
theorem B6:Np X [] Qr:=fun pins s σ H Q I h=>wpAny_tests_nil ⟨H,I,h⟩
theorem Kp {c:Expr} {tc:TT} (h:PT X c tc):Np X [c] tc:=fun pins s σ H Q I q=>wpAny_tests_one (h pins s σ H Q I q)
def E8 (X:Cx) (ifs:List Expr) (elt:Expr) (acc:Value):Pn:=fun Qa s=>wpAny (model X.prog X.w) X.A (EB ifs X.env) (fun ok s1=>if ok=true then wpAny (model X.prog X.w) X.A (eval elt X.env) (fun x s2=>wpAny (model X.prog X.w) X.A (call (.builtin "list.append") [acc,x]) (fun _ s3=>Qa s3) DG s2) DG s1 else Qa s1) DG s
def Db (acc:Addr) (te:TE):TS:=fun D σ H=>te σ H fun x H1=>∃xs,H1 acc=some (.lst xs)∧xs.length<sizeLine∧D.nx σ (upd H1 acc (.lst (xs++[x])))
def D3 (tc:TT) (tb:TS):TS:=fun D σ H=>tc σ H fun b H1=>if b=true then tb D σ H1 else D.nx σ H1
theorem Li {ifs:List Expr} {elt:Expr} {ac:Addr} {tc:TT} {te:TE} (hxe:X.xe=DG) (hi:Np X ifs tc) (he:PE X elt te):PB X (E8 X ifs elt (.ref ac)) (D3 tc (Db ac te)) where
 mono:=fun Qa Qb s hq h=>Ay h fun ok s1 h1=>by
  cases ok with
  | false=>exact hq _ h1
  | true=>exact Ay h1 fun x s2 h2=>Ay h2 fun _ s3 h3=>hq _ h3
 run:=fun pins s σ H D I h=>by
  have h1:=hi pins s σ H _ I h
  rw[hxe] at h1
  refine Ay h1 fun ok s1 ⟨H1,I1,q1⟩=>?_
  cases ok with
  | false=>exact⟨σ,H1,I1,q1⟩
  | true=>
   have q1':Db ac te D σ H1:=q1
   have h2:=he pins s1 σ H1 _ I1 q1'
   rw[hxe] at h2
   refine Ay h2 fun u s2 ⟨x,H2,I2,r2,xs,hl,hz,q2⟩=>?_
   have h3:=AZ (X:=X) pins s2 σ H2 (.ref ac) [x] (.ref ac) [u] (fun _ H'=>D.nx σ H') I2 rfl (.cons r2 .nil) ⟨ac,xs,x,rfl,rfl,hl,hz,q2⟩
   rw[hxe] at h3
   exact Ay h3 fun _ s3 ⟨_,H3,I3,_,q3⟩=>⟨σ,H3,I3,q3⟩
theorem Rz {elt iter:Expr} {ifs:List Expr} {scope:Scope} {pos:Pos} {itv:Value}:HT X (.ListComp elt [⟨tg,iter,ifs,0⟩] scope pos) 0 itv acc tg (E8 X ifs elt acc):=by
 intro s Qd Qa h
 rw[compTurn_list]
 refine wpAny_bind (wpAny_standAt (wpAny_bind (Ay h fun r s₁ h₁=>?_)))
 cases r with
 | none=>exact wpAny_pure ⟨rfl,h₁⟩
 | some v=>
  refine wpAny_bind (Ay h₁ fun _ s2 h2=>wpAny_bind (Ay h2 fun _ s3 h3=>wpAny_bind (Ay h3 fun ok s4 h4=>?_)))
  cases ok with
  | false=>exact wpAny_pure ⟨rfl,h4⟩
  | true=>exact wpAny_bind (wpAny_bind (Ay h4 fun x s₄ h₄=>wpAny_bind (Ay h₄ fun _ s₅ h₅=>wpAny_pure (wpAny_pure ⟨rfl,h₅⟩))))
theorem ID (elt tg0 iter0 tg iter:Expr) (ifs0 ifs:List Expr) (scope:Scope) (pos:Pos) (it acc:Value) (env:Env) :
  compTurn (.ListComp elt [⟨tg0,iter0,ifs0,0⟩,⟨tg,iter,ifs,0⟩] scope pos) 1 it acc env=(do
   standAt iter.pos
   match ←pyNext it with
   | none=>pure (.done .next)
   | some v=>
    letOwnedTupleGo tg it v
    assign tg env v
    let mut ok:=true
    for c in ifs do
     if ok then ok ←isTrue c env (eval c env)
    if ok then
     (do let _ ←call (.builtin "list.append") [acc,←eval elt env])
    again (.compLoop (.ListComp elt [⟨tg0,iter0,ifs0,0⟩,⟨tg,iter,ifs,0⟩] scope pos) 1 it acc env)):=by rfl
theorem Tq {elt tg0 iter0 iter:Expr} {ifs0 ifs:List Expr} {scope:Scope} {pos:Pos} {itv:Value}:HT X (.ListComp elt [⟨tg0,iter0,ifs0,0⟩,⟨tg,iter,ifs,0⟩] scope pos) 1 itv acc tg (E8 X ifs elt acc):=by
 intro s Qd Qa h
 rw[ID]
 refine wpAny_bind (wpAny_standAt (wpAny_bind (Ay h fun r s₁ h₁=>?_)))
 cases r with
 | none=>exact wpAny_pure ⟨rfl,h₁⟩
 | some v=>
  refine wpAny_bind (Ay h₁ fun _ s2 h2=>wpAny_bind (Ay h2 fun _ s3 h3=>wpAny_bind (Ay h3 fun ok s4 h4=>?_)))
  cases ok with
  | false=>exact wpAny_pure ⟨rfl,h4⟩
  | true=>exact wpAny_bind (wpAny_bind (Ay h4 fun x s₄ h₄=>wpAny_bind (Ay h₄ fun _ s₅ h₅=>wpAny_pure (wpAny_pure ⟨rfl,h₅⟩))))
theorem Gu (elt tg iter tg1 iter1:Expr) (ifs ifs1:List Expr) (scope:Scope) (pos:Pos) (it acc:Value) (env:Env) :
  compTurn (.ListComp elt [⟨tg,iter,ifs,0⟩,⟨tg1,iter1,ifs1,0⟩] scope pos) 0 it acc env=(do
   standAt iter.pos
   match ←pyNext it with
   | none=>pure (.done .next)
   | some v=>
    letOwnedTupleGo tg it v
    assign tg env v
    let mut ok:=true
    for c in ifs do
     if ok then ok ←isTrue c env (eval c env)
    if ok then
     let x ←eval iter1 env
     standAt iter1.pos
     let x ←foldedSetIterable iter1 env x
     let _ ←runOwn (.compStart (.ListComp elt [⟨tg,iter,ifs,0⟩,⟨tg1,iter1,ifs1,0⟩] scope pos) 1 (←holding [x] (pyIter x)) acc env) env
    again (.compLoop (.ListComp elt [⟨tg,iter,ifs,0⟩,⟨tg1,iter1,ifs1,0⟩] scope pos) 0 it acc env)):=by rfl
def FN (X:Cx) (ifs:List Expr) (e iter1:Expr) (acc:Value):Pn:=fun Qa s=>wpAny (model X.prog X.w) X.A (EB ifs X.env) (fun ok s1=>if ok=true then
 wpAny (model X.prog X.w) X.A (eval iter1 X.env) (fun x s2=>wpAny (model X.prog X.w) X.A (pyIter x) (fun it s3=>codeAny (model X.prog X.w) X.A (.compStart e 1 it acc X.env) (fun r s4=>r= .ok .next∧Qa s4) s3) DG s2) DG s1 else Qa s1) DG s
theorem Rw {elt iter tg1 iter1:Expr} {ifs ifs1:List Expr} {scope:Scope} {pos:Pos} {itv:Value} (hs:∀x,foldedSetIterable iter1 X.env x=pure x) :
  HT X (.ListComp elt [⟨tg,iter,ifs,0⟩,⟨tg1,iter1,ifs1,0⟩] scope pos) 0 itv acc tg (FN X ifs (.ListComp elt [⟨tg,iter,ifs,0⟩,⟨tg1,iter1,ifs1,0⟩] scope pos) iter1 acc):=by
 intro s Qd Qa h
 rw[Gu]
 refine wpAny_bind (wpAny_standAt (wpAny_bind (Ay h fun r s₁ h₁=>?_)))
 cases r with
 | none=>exact wpAny_pure ⟨rfl,h₁⟩
 | some v=>
  refine wpAny_bind (Ay h₁ fun _ s2 h2=>wpAny_bind (Ay h2 fun _ s3 h3=>wpAny_bind (Ay h3 fun ok s4 h4=>?_)))
  cases ok with
  | false=>exact wpAny_pure ⟨rfl,h4⟩
  | true=>
   refine wpAny_bind (Ay h4 fun x s₄ h₄=>wpAny_bind (wpAny_standAt (wpAny_bind (wpAny_of_eq (hs x) (wpAny_bind (wpAny_holding (Ay h₄ fun it s₅ h₅=>?_)))))))
   refine wpAny_bind (wpAny_runOwn (codeAny_mono h₅ fun r s₆ h₆=>?_))
   obtain⟨rfl,h₆⟩:=h₆
   exact wpAny_pure ⟨rfl,h₆⟩
theorem B8 {itv:Value} {R:Result→Shared→Prop} (hcl:((clausesOf e)[d]?).elim false (·.is_async != 0)=false) (hfr:(Code.compStart e d itv acc X.env).isFrame=false) (hun:X.A.under (.compStart e d itv acc X.env)=X.A)
  (hqu:∀it',(Code.compLoop e d it' acc X.env).quiet=true) (hposR:True)
  (h0:codeAny (model X.prog X.w) X.A (.compLoop e d itv acc X.env) R s)
  (h:wpAny (model X.prog X.w) X.A (pyIter itv) (fun it' s'=>codeAny (model X.prog X.w) X.A (.compLoop e d it' acc X.env) R s') DG s) :
  codeAny (model X.prog X.w) X.A (.compStart e d itv acc X.env) R s:=by
 refine codeAny_of_tree ?_
 have hden:(model X.prog X.w).den (.compStart e d itv acc X.env)=(compStart e d itv acc X.env).onRaise (fun x=>do noteFrame x X.env;standAt theWindowsPlace):=by
  show (if (Code.compStart e d itv acc X.env).isFrame=true then _ else _)=_
  rw[hfr]
  rfl
 rw[hun,hden]
 refine wpAny_notedAt (Kt ?_)
 unfold compStart
 rw[hcl]
 show wpAny _ _ (ask >>= _) _ _ s
 refine wpAny_bind (wpAny_askSetting (wpAny_ite ?_))
 split
 ·first
   | exact wpAny_bind (wpAny_pure (wpAny_pure (And.intro (hqu _) h0)))
   | exact wpAny_pure (And.intro (hqu _) h0)
 ·refine wpAny_bind (wpAny_rule ?_)
  cases hg:(clausesOf e)[d]? with
  | none=>exact wpAny_bind (Ay h fun it' s' h'=>wpAny_pure (And.intro (hqu _) h'))
  | some g'=>exact wpAny_bind (wpAny_standAt (wpAny_bind (Ay h fun it' s' h'=>wpAny_pure (And.intro (hqu _) h'))))
theorem RU {elt iter tg1 iter1:Expr} {ifs ifs1:List Expr} {scope:Scope} {pos:Pos} {ac:Addr} {tc:TT} {wi1:TI} {g1:TG} {tb1:TS} (hxe:X.xe=DG) (hc:X.calm=true)
  (hi:Np X ifs tc) (hI:PI X tg1 iter1 wi1) (hg1:PG X tg1 g1) (hb1:PB X (E8 X ifs1 elt (.ref ac)) tb1) :
  PB X (FN X ifs (.ListComp elt [⟨tg,iter,ifs,0⟩,⟨tg1,iter1,ifs1,0⟩] scope pos) iter1 (.ref ac)) (D3 tc (Jp wi1 g1 tb1)) where
 mono:=fun Qa Qb s hq h=>Ay h fun ok s1 h1=>by
  cases ok with
  | false=>exact hq _ h1
  | true=>exact Ay h1 fun x s2 h2=>Ay h2 fun it s3 h3=>codeAny_mono h3 fun r s4 h4=>⟨h4.1,hq _ h4.2⟩
 run:=fun pins s σ H D I h=>by
  have h1:=hi pins s σ H _ I h
  rw[hxe] at h1
  refine Ay h1 fun ok s1 ⟨H1,I1,q1⟩=>?_
  cases ok with
  | false=>exact⟨σ,H1,I1,q1⟩
  | true=>
   have q1':Jp wi1 g1 tb1 D σ H1:=q1
   have h2:=hI pins s1 σ H1 _ I1 q1'
   rw[hxe] at h2
   refine Ay h2 fun u s2 h3=>Ay h3 fun itv s3 h4=>?_
   obtain⟨it,fp,tn,J,H3,e,I3,T,st3,f3,hR⟩:=h4
   subst e
   have loop:=CU (e:=.ListComp elt [⟨tg,iter,ifs,0⟩,⟨tg1,iter1,ifs1,0⟩] scope pos) (d:=1) (D:=D) hxe hc Tq rfl rfl rfl T hg1 hb1 I3 st3 f3 hR
   exact B8 (X:=X) rfl rfl rfl (fun _=>rfl) True.intro loop (T.self _ 0 s3 _ _ st3 loop)
end
structure CC where
 s:Shared
 H:Hp
 fp:List Addr
def Cx.cmp (X:Cx) (N:List Str) (scope:Scope) (cl:List (Str×Addr)) (c:CC):Cx:=
 { X with N:=N,s₀:=c.s,H₀:=c.H,env:=compEnvC scope cl c.s.heap.objs.size X.env,outer:=X.stack,ex:=c.fp,fn:=fun _=>false,pn:=[] }
def sub (js:List (Option Nat)) (σ:St):St:=js.map fun o=>o.bind fun j=>(σ[j]?).join
def Gj (X:Cx) (N:List Str) (scope:Scope) (js:List (Option Nat)):Prop:=
 ∀(i:Nat) (x:Str) (j:Nat),N[i]? = some x→js[i]? = some (some j)→X.N[j]? = some x∧X.env.kindOf x=some .cell∧(relabel scope X.env).names.lookup x=some .cell
section
variable {X:Cx} {N:List Str} {scope:Scope} {cl:List (Str×Addr)} {js:List (Option Nat)} {pins:List (Addr×Obj)} {σ:St} {H:Hp} {s:Shared} {fp:List Addr}
theorem Inv.cmp {h':Heap} {ob:Obj} (I:Inv X pins σ H s) (hf:∀b∈fp,B2 X pins H b) (hfo:∀b∈fp,b<s.heap.objs.size) (hk:scope.kind= .function)
  (hcl:∀p∈cl,X.env.cells.lookup p.1=some p.2) (hcn:∀x,((relabel scope X.env).names.lookup x=some .cell∨(relabel scope X.env).names.lookup x=some .free)→∃c,cl.lookup x=some c)
  (hsh:Gj X N scope js) (hl:js.length=N.length)
  (hns:h'.Ns s.heap.objs.size (fun _=>none)) (hsb:Heap.SameBut s.heap.objs.size (s.heap.push ob) h') {t':Nat} :
  Inv (X.cmp N scope cl ⟨s,H,fp⟩) [] (sub js σ) H { s with heap:=h',toks:=t' }:=by
 have hlook:∀x c,cl.lookup x=some c→X.env.cells.lookup x=some c:=fun x c e=>hcl (x,c) (PySem.mem_of_lookup e)
 have hkeep:∀b o,s.heap.get? b=some o→h'.get? b=some o:=fun b o e=>(hsb.2 b (Nat.ne_of_lt (Heap.lt_size e))).trans (Heap.get?_push_of_some _ e)
 refine⟨⟨I.ok.mod,?_,I.ok.glob,I.ok.blt,Nat.le_refl _,fun x y c h1 h2=>I.ok.inj x y c (hlook x c h1) (hlook y c h2),fun x hx=>hcn x hx,fun x c h=>?_,I.ok.hd,I.ok.frames,.inl rfl,fun b hb=>⟨Nat.ne_of_lt (hfo b hb),fun x c e=>(hf b hb).2.2.2.2.1 x c (hlook x c e)⟩,
   I.bs,Nat.le_trans I.ok.bsz I.sz,fun b o e hb=>?_,fun b hb hs=>?_,I.stack,I.stkFree⟩,rfl,I.bare,Un.kept hkeep,⟨_,hns,fun i x v e1 e2 e3=>?_⟩,fun x c e=>?_,I.hok.fresh (Nat.le_refl _),fun x c e=>I.freeC x c (hlook x c e),fun p hp=>?_,I.hok.kept hkeep,?_⟩
 ·show (relabel scope X.env).kind= .function
  exact hk
 ·exact absurd (show false=true from h) Bool.false_ne_true
 ·rcases (hf b hb).2.2.2.1 with z | z
  ·exact I.ok.noex b o e z
  ·exact absurd (Nat.lt_of_lt_of_le (Heap.lt_size (I.ok.bs b o e).1) z) (Nat.lt_irrefl _)
 ·rcases List.mem_cons.mp (I.stkSub b hs) with z | z
  ·exact (hf b hb).2.1 z
  ·exact (hf b hb).2.2.1 z
 ·have e2':(sub js σ)[i]? = some (some v):=e2
  unfold sub at e2'
  rw[List.getElem?_map] at e2'
  cases ej:js[i]? with
  | none=>rw[ej] at e2';cases e2'
  | some o=>
   rw[ej] at e2'
   cases o with
   | none=>cases e2'
   | some j=>
    obtain⟨a1,a2,a3⟩:=hsh i x j e1 ej
    have e4:(σ[j]?).join=some v:=Option.some.inj e2'
    have e5:σ[j]? = some (some v):=by
     cases q:σ[j]? with
     | none=>rw[q] at e4;cases e4
     | some o=>
      rw[q] at e4
      have:o=some v:=e4
      rw[this]
    obtain⟨m,hn,hloc⟩:=I.loc
    obtain⟨u,r,l⟩:=hloc j x v a1 e5 (.inr (.inl a2))
    refine⟨u,r,.inr ⟨.inl a3,?_⟩⟩
    obtain⟨c,hc⟩:=hcn x (.inl a3)
    refine⟨c,hc,?_⟩
    rcases l with⟨k,_⟩|⟨_,c',hc',hcell⟩
    ·rw[k] at a2;cases a2
    ·have:c'=c:=by
      have:=hlook x c hc
      rw[hc'] at this
      exact Option.some.inj this
     subst this
     obtain⟨o,ho,hd⟩:=hcell
     exact⟨o,hkeep _ _ ho,hd⟩
 ·obtain⟨v,o,ho,hd⟩:=I.cell x c (hlook x c e)
  exact⟨v,o,hkeep _ _ ho,hd⟩
 ·exact absurd (show p∈([]:List (Addr×Obj)) from hp) (by simp)
 ·unfold sub
  rw[List.length_map]
  exact hl
theorem Inv.uncmp {σ':St} {H':Hp} {s':Shared} {h'':Heap} (I:Inv X pins σ H s) (hf:∀b∈fp,B2 X pins H b) (J:Inv (X.cmp N scope cl ⟨s,H,fp⟩) [] σ' H' s') (hsb:Heap.SameBut s.heap.objs.size s'.heap h'') :
  Inv X pins σ H' { s' with heap:=h'' }:=by
 have u:Un (ES X.stack) fp H H' s.heap s'.heap:=J.base
 have ne:∀b o,s.heap.get? b=some o→b≠s.heap.objs.size:=fun b o e=>Nat.ne_of_lt (Heap.lt_size e)
 have hfree:H' s.heap.objs.size=none:=J.free
 refine I.call' (ch:=fp) (s':={ s' with heap:=h'' }) J.os ⟨fun b o e n hb hx=>(hsb.2 b (ne b o e)).trans (u.keep b o e n hb hx),fun b o e n hb hx=>?_,u.free,fun b o e hx=>?_,u.tups,u.frzs,u.tbls⟩ (fun b ob e=>?_) J.bare fun b hb=>⟨(hf b hb).2.2.2.1,(hf b hb).2.1,(hf b hb).2.2.2.2.1,(hf b hb).2.2.2.2.2⟩
 ·obtain⟨sl,e1⟩:=u.slot b o e n hb hx
  exact⟨sl,(hsb.2 b (ne b o e)).trans e1⟩
 ·obtain⟨o',e1⟩:=u.there b o e hx
  exact⟨o',(hsb.2 b (ne b o e)).trans e1⟩
 ·refine (J.hok b ob e).stay (fun c w' hc q=>(hsb.2 c ?_).trans q) (fun _ q=>q) fun _ _ q=>q
  rintro rfl
  rcases hc with z | z
  ·rw[←z,hfree] at e;cases e
  ·rw[hfree] at z;cases z
end
def Nh (wi:TI) (js:List (Option Nat)) (g:CC→TG) (tb:CC→Addr→TS):TE:=fun σ H Q=>wi σ H fun J H1=>∀(c:CC) (acc:Addr),H1 acc=none→
 Dx J (g c) (tb c acc) { nx:=fun _ H'=>Q (.ref acc) H',rt:=fun _ _=>False } (sub js σ) (upd H1 acc (.lst []))
section
variable {X:Cx} {N:List Str} {scope:Scope} {cl:List (Str×Addr)} {js:List (Option Nat)} {elt tg iter:Expr} {ifs:List Expr} {rest:List Comprehension} {pos:Pos} {wi:TI} {g:CC→TG} {tb:CC→Addr→TS}
theorem Iw {WB:CC→Value→Pn} (hxe:X.xe=DG) (hc:X.calm=true) (hi:PI X tg iter wi) (hs:∀x,foldedSetIterable iter X.env x=pure x) (hclos:closureFor scope X.env=pure cl) (hk:scope.kind= .function)
  (hnames:∀x∈scope.names,x.2= .local→scope.names.lookup x.1=some .local) (hcell:∀x∈scope.names,x.2≠.cell)
  (hcl:∀p∈cl,X.env.cells.lookup p.1=some p.2) (hcn:∀x,((relabel scope X.env).names.lookup x=some .cell∨(relabel scope X.env).names.lookup x=some .free)→∃c,cl.lookup x=some c)
  (hsh:Gj X N scope js) (hl:js.length=N.length)
  (ht:∀c it ac,HT (X.cmp N scope cl c) (.ListComp elt (⟨tg,iter,ifs,0⟩::rest) scope pos) 0 it ac tg (WB c ac))
  (hg:∀c,PG (X.cmp N scope cl c) tg (g c)) (hb:∀c ac,PB (X.cmp N scope cl c) (WB c (.ref ac)) (tb c ac)) :
  PE X (.ListComp elt (⟨tg,iter,ifs,0⟩::rest) scope pos) (Nh wi js g tb):=by
 intro pins s σ H Q I h
 rw[eval_ListComp]
 have h0:=hi pins s σ H _ I h
 refine wpAny_comprehension_free (use:=none) (cl:=cl) rfl hs hclos hk hnames (Ay h0 fun v s1 h1=>Ay h1 fun itv s2 h2=>?_)
 obtain⟨it,fp,tn,J,H2,e,I2,T,st2,f2,hR⟩:=h2
 subst e
 refine wpAny_newObj_type (wpAny_newFunctionEnv hcell (by intro y hy;simp at hy) (fun h₁ hns₁ hsb₁=>?_) hk)
 dsimp only at hns₁ hsb₁ ⊢
 have I3:=I2.lnew (ys:=[]) (its:=[]) (t':=s2.toks) .nil (Nat.zero_le _)
 have fpl:∀b∈fp,b<s2.heap.objs.size:=fun b hb=>by
  obtain⟨o,e,_⟩:=T.obj 0 _ st2 b hb
  exact Heap.lt_size e
 have fpa:∀b∈fp,b≠s2.heap.objs.size:=fun b hb=>Nat.ne_of_lt (fpl b hb)
 have f3:∀b∈fp,B2 X pins (upd H2 s2.heap.objs.size (.lst [])) b:=fun b hb=>⟨by rw[Ah (fpa b hb)];exact (f2 b hb).1,(f2 b hb).2⟩
 have hR':=hR ⟨{ s2 with heap:=s2.heap.push { cls:=.type "list",data:=.seq ([]:List Value).toArray } },upd H2 s2.heap.objs.size (.lst []),fp⟩ s2.heap.objs.size I2.fresh
 have I4:=I3.cmp (N:=N) (cl:=cl) (js:=js) (t':=s2.toks) f3 (fun b hb=>by
  show b<(s2.heap.push _).objs.size
  rw[Heap.size_push]
  exact Nat.lt_succ_of_lt (fpl b hb)) hk hcl hcn hsh hl hns₁ hsb₁
 have st4:tn 0 h₁:=T.keep 0 _ _ st2 fun b hb o e=>(hsb₁.2 b (by
  rw[Heap.size_push]
  exact Nat.ne_of_lt (Nat.lt_succ_of_lt (fpl b hb)))).trans (Heap.get?_push_of_some _ (Heap.get?_push_of_some _ e))
 have f4:∀b∈fp,B2 (X.cmp N scope cl ⟨{ s2 with heap:=s2.heap.push { cls:=.type "list",data:=.seq ([]:List Value).toArray } },upd H2 s2.heap.objs.size (.lst []),fp⟩) [] (upd H2 s2.heap.objs.size (.lst [])) b:=fun b hb=>
  ⟨(f3 b hb).1,(I4.ok.exf b hb).1,I4.ok.exfs b hb,.inl hb,(I4.ok.exf b hb).2,fun p hp=>absurd (show p∈([]:List (Addr×Obj)) from hp) (by simp)⟩
 have loop:=codeAny_mono (CU (X:=X.cmp N scope cl ⟨{ s2 with heap:=s2.heap.push { cls:=.type "list",data:=.seq ([]:List Value).toArray } },upd H2 s2.heap.objs.size (.lst []),fp⟩) (e:=.ListComp elt (⟨tg,iter,ifs,0⟩::rest) scope pos) (d:=0) (acc:=.ref s2.heap.objs.size) (pins:=[]) hxe hc (ht _ _ _) rfl rfl rfl T (hg _) (hb _ _) I4 st4 f4 hR') (R':=compPost (model X.prog X.w) X.A X.xe none (EP X pins σ Q) (.ref s2.heap.objs.size) (s2.heap.push { cls:=.type "list",data:=.seq ([]:List Value).toArray }).objs.size) (fun r s' hq=>by
  obtain⟨rfl,σ',H',J',q⟩:=hq
  obtain⟨m,hn,_⟩:=id J'.loc
  exact⟨m,hn,fun h'' hs''=>⟨.ref s2.heap.objs.size,H',I3.uncmp f3 J' hs'',rfl,q⟩⟩)
 exact B8 (X:=X.cmp N scope cl ⟨{ s2 with heap:=s2.heap.push { cls:=.type "list",data:=.seq ([]:List Value).toArray } },upd H2 s2.heap.objs.size (.lst []),fp⟩) rfl rfl rfl (fun _=>rfl) True.intro loop (T.self _ 0 _ _ _ st4 loop)
end
structure CompOk (X:Cx) (N:List Str) (scope:Scope) (cl:List (Str×Addr)) (js:List (Option Nat)):Prop where
 clos:closureFor scope X.env=pure cl
 kind:scope.kind= .function
 loc:(scope.names.all fun x=>(x.2 != .local || scope.names.lookup x.1 == some .local) && x.2 != .cell)=true
 ccl:∀p∈cl,X.env.cells.lookup p.1=some p.2
 cn:((relabel scope X.env).names.all fun p=>!(p.2 == .cell || p.2 == .free) || (cl.lookup p.1).isSome)=true
 sh:((N.zip js).all fun p=>match p.2 with | none=>true | some j=>X.N[j]? == some p.1 && X.env.kindOf p.1 == some .cell && (relabel scope X.env).names.lookup p.1 == some .cell)=true
 len:js.length=N.length
section
variable {X:Cx} {N:List Str} {scope:Scope} {cl:List (Str×Addr)} {js:List (Option Nat)}
theorem CompOk.names (h:CompOk X N scope cl js):∀x∈scope.names,x.2= .local→scope.names.lookup x.1=some .local:=fun x hx e=>by
 have q:=(List.all_eq_true.mp h.loc) x hx
 rw[Bool.and_eq_true] at q
 rw[e] at q
 simpa using q.1
theorem CompOk.cell (h:CompOk X N scope cl js):∀x∈scope.names,x.2≠.cell:=fun x hx e=>by
 have q:=(List.all_eq_true.mp h.loc) x hx
 rw[Bool.and_eq_true,e] at q
 exact absurd q.2 (by decide)
theorem CompOk.hcn (h:CompOk X N scope cl js):∀x,((relabel scope X.env).names.lookup x=some .cell∨(relabel scope X.env).names.lookup x=some .free)→∃c,cl.lookup x=some c:=fun x hx=>by
 rcases hx with e | e
 ·have q:=(List.all_eq_true.mp h.cn) _ (PySem.mem_of_lookup e)
  exact Option.isSome_iff_exists.mp (by simpa using q)
 ·have q:=(List.all_eq_true.mp h.cn) _ (PySem.mem_of_lookup e)
  exact Option.isSome_iff_exists.mp (by simpa using q)
theorem CompOk.shr (h:CompOk X N scope cl js):Gj X N scope js:=fun i x j e1 e2=>by
 have hm:(x,some j)∈N.zip js:=by
  have:(N.zip js)[i]? = some (x,some j):=by rw[List.getElem?_zip_eq_some];exact⟨e1,e2⟩
  exact List.mem_of_getElem? this
 have q:=(List.all_eq_true.mp h.sh) _ hm
 simp only[Bool.and_eq_true] at q
 exact⟨eq_of_beq q.1.1,eq_of_beq q.1.2,eq_of_beq q.2⟩
variable {elt tg iter tg1 iter1:Expr} {ifs ifs1:List Expr} {pos:Pos} {wi:TI} {wi1:CC→TI} {g g1:CC→TG} {tc tc1:CC→TT} {te:CC→TE}
theorem Cq (h:CompOk X N scope cl js) (hi:PI X tg iter wi) (hg:∀c,PG (X.cmp N scope cl c) tg (g c)) (hif:∀c,Np (X.cmp N scope cl c) ifs (tc c)) (he:∀c,PE (X.cmp N scope cl c) elt (te c))
  (hxe:X.xe=DG:=by rfl) (hc:X.calm=true:=by rfl) (hs:∀x,foldedSetIterable iter X.env x=pure x:=by intro _;rfl) :
  PE X (.ListComp elt [⟨tg,iter,ifs,0⟩] scope pos) (Nh wi js g fun c ac=>D3 (tc c) (Db ac (te c))):=
 Iw (WB:=fun c ac=>E8 (X.cmp N scope cl c) ifs elt ac) hxe hc hi hs h.clos h.kind h.names h.cell h.ccl h.hcn h.shr h.len (fun c it ac=>Rz) hg fun c ac=>Li hxe (hif c) (he c)
theorem OT (h:CompOk X N scope cl js) (hi:PI X tg iter wi) (hg:∀c,PG (X.cmp N scope cl c) tg (g c)) (hif:∀c,Np (X.cmp N scope cl c) ifs (tc c))
  (hi1:∀c,PI (X.cmp N scope cl c) tg1 iter1 (wi1 c)) (hg1:∀c,PG (X.cmp N scope cl c) tg1 (g1 c)) (hif1:∀c,Np (X.cmp N scope cl c) ifs1 (tc1 c)) (he:∀c,PE (X.cmp N scope cl c) elt (te c))
  (hs1:∀c x,foldedSetIterable iter1 (X.cmp N scope cl c).env x=pure x:=by intro _ _;rfl)
  (hxe:X.xe=DG:=by rfl) (hc:X.calm=true:=by rfl) (hs:∀x,foldedSetIterable iter X.env x=pure x:=by intro _;rfl) :
  PE X (.ListComp elt [⟨tg,iter,ifs,0⟩,⟨tg1,iter1,ifs1,0⟩] scope pos) (Nh wi js g fun c ac=>D3 (tc c) (Jp (wi1 c) (g1 c) (D3 (tc1 c) (Db ac (te c))))):=
 Iw (WB:=fun c ac=>FN (X.cmp N scope cl c) ifs (.ListComp elt [⟨tg,iter,ifs,0⟩,⟨tg1,iter1,ifs1,0⟩] scope pos) iter1 ac) hxe hc hi hs h.clos h.kind h.names h.cell h.ccl h.hcn h.shr h.len (fun c it ac=>Rw (hs1 c)) hg
  fun c ac=>RU hxe hc (hif c) (hi1 c) (hg1 c) (Li hxe (hif1 c) (he c))
end
end L2
namespace L2
open PySem PySem.Spec PyProof.Rows
section
variable {X:Cx} {pins:List (Addr×Obj)} {σ:St} {H:Hp} {s:Shared} {fp:List Addr} {h':Heap}
theorem Inv.turnedL {t':Nat} (I:Inv X pins σ H s) (hf:∀b∈fp,B2 X pins H b) (k:∀b o,b∉fp→s.heap.get? b=some o→h'.get? b=some o):Inv X pins σ H { s with heap:=h',toks:=t' }:=by
 have nfp:∀b u,H b=some u→b∉fp:=fun b u e z=>by rw[(hf b z).1] at e;cases e
 refine I.call' (ch:=fp) (s':={ s with heap:=h',toks:=t' }) rfl ⟨fun b o e _ _ hx=>k b o hx e,fun b o e _ _ hx=>⟨o.slots,k b o hx e⟩,fun _ _ _ n _=>n,fun b o e hx=>⟨o,k b o hx e⟩,fun _ _ q=>q,fun _ _ _ q=>q,fun _ ps q=>⟨#[],by rw[q];simp⟩⟩ (fun b u e=>?_) I.bare
  fun b hb=>⟨(hf b hb).2.2.2.1,(hf b hb).2.1,(hf b hb).2.2.2.2.1,(hf b hb).2.2.2.2.2⟩
 refine (I.hok b u e).stay (fun c v hc q=>k c v ?_ q) (fun _ q=>q) fun _ _ q=>q
 rcases hc with z | z
 ·rw[z];exact nfp b u e
 ·exact nfp c _ z
theorem Inv.turnedT {t':Nat} {T:Addr} {xs:List V} {its:List Value} (I:Inv X pins σ H s) (hf:∀b∈fp,B2 X pins H b) (k:∀b o,b∉fp→s.heap.get? b=some o→h'.get? b=some o)
  (hT:s.heap.objs.size≤T) (hz:xs.length≤sizeLine) (rv:Vals xs its) (ht:IsTup h' T its.toArray):Inv X pins σ (upd H T (.tup xs)) { s with heap:=h',toks:=t' }:=by
 have nfp:∀b u,H b=some u→b∉fp:=fun b u e z=>by rw[(hf b z).1] at e;cases e
 have hn:H T=none:=I.hok.fresh hT
 refine I.call' (ch:=fp) (s':={ s with heap:=h',toks:=t' }) rfl ⟨fun b o e _ _ hx=>k b o hx e,fun b o e _ _ hx=>⟨o.slots,k b o hx e⟩,fun b o e n _=>?_,fun b o e hx=>⟨o,k b o hx e⟩,fun b q e=>?_,fun b o u e=>?_,fun b ps e=>⟨#[],?_⟩⟩ (fun b u e=>?_) I.bare
  fun b hb=>⟨(hf b hb).2.2.2.1,(hf b hb).2.1,(hf b hb).2.2.2.2.1,(hf b hb).2.2.2.2.2⟩
 ·rw[Ah (Nat.ne_of_lt (Nat.lt_of_lt_of_le (Heap.lt_size e) hT))];exact n
 ·rw[Ah (Af e hn)];exact e
 ·rw[Ah (Af e hn)];exact e
 ·rw[Ah (Af e hn),e];simp
 ·by_cases hb:b=T
  ·subst hb
   rw[upd_same] at e
   cases e
   exact⟨hz,its,rv,ht⟩
  ·rw[Ah hb] at e
   refine (I.hok b u e).stay (fun c v hc q=>k c v ?_ q) (fun c q=>?_) fun c xs q=>?_
   ·rcases hc with z | z
    ·rw[z];exact nfp b u e
    ·exact nfp c _ z
   ·rw[Ah (Af q hn)];exact q
   ·rw[Ah (Af q hn)];exact q
end
def Th (z:Str):It:=⟨fun i _=>i<z.length,fun i H x H'=>H'=H∧∃c,z.cps[i]? = some c∧x= .str ⟨#[c]⟩,fun i _=>i=z.length⟩
theorem Ps {z:Str} {g:TG} {tb:TS} {D:Ends} {σ:St} {H:Hp} (Pv:Nat→St→Hp→Prop) (h0:Pv 0 σ H)
  (hs:∀i c σ H,z.cps[i]? = some c→Pv i σ H→g (.str ⟨#[c]⟩) σ H fun σ2 H2=>tb { D with nx:=Pv (i+1),ct:=Pv (i+1),bk:=D.nx } σ2 H2) (hd:∀σ H,Pv z.length σ H→D.nx σ H):Dx (Th z) g tb D σ H:=by
 refine⟨fun i m σ H=>m=z.length-i∧i≤z.length∧Pv i σ H,⟨z.length,by simp,Nat.zero_le _,h0⟩,?_⟩
 rintro i m σ H ⟨rfl,hi,p⟩
 by_cases hlt:i<z.length
 ·refine .inr ⟨hlt,Pv (i+1),fun σ' H' p'=>⟨z.length-(i+1),by omega,rfl,hlt,p'⟩,fun x H' y=>?_⟩
  obtain⟨e,c,ec,e2⟩:=y
  subst e e2
  exact hs i c σ _ ec p
 ·have e:i=z.length:=by omega
  subst e
  exact .inl ⟨rfl,hd σ H p⟩
theorem Ie {P:Program} {w:World} {K:PySem.W.Frag} {tg:Expr} (ty:String) (hty:["enumerate","zip","dict_itemiterator","dict_reverseitemiterator","odict_iterator","itertools.zip_longest","itertools.pairwise"].contains ty=false) (it:Addr) (z:Str) (t:Tok)
  (W:∀A':Around,A'.handled=none→Walks P w A' it [it] [it] z.cps.size (SignAt z) (fun i h=>h.IsStrIter it ty z t i)) (slf:∀(A:Around) (i:Nat) (s:Shared) (Q:Value→Shared→Prop) (E:Value→Shared→Prop),s.heap.IsStrIter it ty z t i→Q (.ref it) s→wpAny (model P w) A (pyIter (.ref it)) Q E s):Fu P w K tg (Th z) [it] it (fun i h=>h.IsStrIter it ty z t i) where
 mem:=by simp
 obj:=fun i h st b hb=>by
  have e:b=it:=by simpa using hb
  subst e
  obtain⟨o,e,c,d⟩:=st
  exact⟨o,e,fun v z=>by rw[d] at z;cases z⟩
 keep:=fun i h h' st k=>let ⟨o,ho,r⟩:=st;⟨o,k it (by simp) o ho,r⟩
 item:=by
  intro X hP hw hK hc i pins s σ H E I hf st hg
  subst hP hw hK
  refine (W X.A (I.ok.hd hc)).item i s _ _ hg st fun v h' tk hv st' kk=>?_
  obtain⟨c,u,ec,rfl⟩:=hv
  have I1:Inv X pins σ H { s with heap:=h',toks:=tk }:=I.turnedL hf kk
  obtain⟨o,e,cl,d⟩:=id st'
  exact⟨_,rfl,K4 (s:={ s with heap:=h',toks:=tk }) e cl d hty ⟨.str ⟨#[c]⟩,H,I1,⟨u,rfl⟩,⟨rfl,c,ec,rfl⟩,st',fun b hb=>(hf b hb).1⟩⟩
 done:=by
  intro X hP hw hK hc i pins s σ H E I hf st hg
  subst hP hw hK
  have e:i=z.cps.size:=hg
  subst e
  exact (W X.A (I.ok.hd hc)).done s _ _ st fun h' tk kk=>⟨rfl,I.turnedL hf kk⟩
 self:=slf
def Ts (z:Str):It:=⟨fun i _=>i<z.length,fun i H x H'=>∃T c,H T=none∧z.cps[i]? = some c∧x= .ref T∧H'=upd H T (.tup [.int (i:Nat),.str ⟨#[c]⟩]),fun i _=>i=z.length⟩
theorem OF {z:Str} {g:TG} {tb:TS} {D:Ends} {σ:St} {H:Hp} (Pv:Nat→St→Hp→Prop) (h0:Pv 0 σ H)
  (hs:∀i c T σ H,z.cps[i]? = some c→H T=none→Pv i σ H→g (.ref T) σ (upd H T (.tup [.int (i:Nat),.str ⟨#[c]⟩])) fun σ2 H2=>tb { D with nx:=Pv (i+1),ct:=Pv (i+1),bk:=D.nx } σ2 H2) (hd:∀σ H,Pv z.length σ H→D.nx σ H):Dx (Ts z) g tb D σ H:=by
 refine⟨fun i m σ H=>m=z.length-i∧i≤z.length∧Pv i σ H,⟨z.length,by simp,Nat.zero_le _,h0⟩,?_⟩
 rintro i m σ H ⟨rfl,hi,p⟩
 by_cases hlt:i<z.length
 ·refine .inr ⟨hlt,Pv (i+1),fun σ' H' p'=>⟨z.length-(i+1),by omega,rfl,hlt,p'⟩,fun x H' y=>?_⟩
  obtain⟨T,c,hT,ec,e1,e2⟩:=y
  subst e1 e2
  exact hs i c T σ _ ec hT p
 ·have e:i=z.length:=by omega
  subst e
  exact .inl ⟨rfl,hd σ H p⟩
theorem LS {P:Program} {w:World} {K:PySem.W.Frag} {elts:List Expr} {k:Nat} {tp:Pos} (ty:String) (e it:Addr) (hei:e≠it) (z:Str) (t:Tok)
  (W:∀A':Around,A'.handled=none→Draws P w A' it [it] z.cps.size (fun i v=>∃c u,z.cps[i]? = some c∧v= .str ⟨#[c]⟩ u) (fun i h=>h.IsStrIter it ty z t i)) :
  Fu P w K (.Tuple elts k tp) (Ts z) [e,it] e (fun i h=>(∃old,IsEnum h e it i old)∧h.IsStrIter it ty z t i) where
 mem:=by simp
 obj:=fun i h st b hb=>by
  obtain⟨⟨old,he⟩,o,ho,c,d⟩:=st
  rcases List.mem_cons.mp hb with q | q
  ·subst q
   exact⟨_,he,fun v z=>by
    have z':Data.fields _=Data.cell v:=z
    cases z'⟩
  ·have q':b=it:=by simpa using q
   subst q'
   exact⟨o,ho,fun v z=>by rw[d] at z;cases z⟩
 keep:=fun i h h' st k=>by
  obtain⟨⟨old,he⟩,o,ho,r⟩:=st
  exact⟨⟨old,k e (by simp) _ he⟩,o,k it (by simp) o ho,r⟩
 item:=by
  intro X hP hw hK hc i pins s σ H E I hf st hg
  subst hP hw hK
  have WT:=WalksT.enumerateD (A:=X.A) (W X.A.in1 (I.ok.hd hc)) e hei (by simpa using hei) (by simp)
  refine WT.item i s _ _ hg st fun T vals h1 tk hv hT htup hmid kk=>?_
  obtain⟨t',x,⟨c,u,ec,rfl⟩,rfl⟩:=hv
  have I1:Inv X pins σ (upd H T (.tup [.int (i:Nat),.str ⟨#[c]⟩])) { s with heap:=h1,toks:=tk }:=I.turnedT (its:=[.int i t',.str ⟨#[c]⟩ u]) hf kk hT (by show 2≤sizeLine;decide) (.cons ⟨_,rfl⟩ (.cons ⟨_,rfl⟩ .nil)) htup
  have nT:∀b∈[e,it],b≠T:=fun b hb z=>by
   subst z
   exact WT.apart _ _ _ hmid hb
  have hf1:∀b∈[e,it],B2 X pins (upd H T (.tup [.int (i:Nat),.str ⟨#[c]⟩])) b:=fun b hb=>⟨by rw[Ah (nT b hb)];exact (hf b hb).1,(hf b hb).2⟩
  refine⟨_,rfl,WT.go elts k tp i T _ _ _ hmid fun h2 st2 kk2=>?_⟩
  exact⟨.ref T,_,I1.turnedL (t':=tk) hf1 kk2,rfl,⟨T,c,I.hok.fresh hT,ec,rfl,rfl⟩,st2,fun b hb=>(hf1 b hb).1⟩
 done:=by
  intro X hP hw hK hc i pins s σ H E I hf st hg
  subst hP hw hK
  have e':i=z.cps.size:=hg
  subst e'
  have WT:=WalksT.enumerateD (A:=X.A) (W X.A.in1 (I.ok.hd hc)) e hei (by simpa using hei) (by simp)
  exact WT.done s _ _ st fun h' tk kk=>⟨rfl,I.turnedL hf kk⟩
 self:=fun A i s Q E st h=>by
  obtain⟨⟨old,he⟩,_⟩:=st
  exact wpAny_pyIter_enum he h
section
variable {X:Cx} {tg:Expr}
def Ur (tl:TE):TI:=fun σ H R=>tl σ H fun x H1=>∃z,x= .str z∧R (Th z) H1
theorem Ri {l:Expr} {tl:TE} (hl:PE X l tl):PI X tg l (Ur tl):=by
 intro pins s σ H R I h
 refine Ay (hl pins s σ H _ I h) fun v s1 ⟨x,H1,I1,r1,q1⟩=>?_
 obtain⟨z,e,q⟩:=q1
 subst e
 obtain⟨t,rfl⟩:=r1
 have fin:∀(o:Obj) (tn:Nat→Heap→Prop),Fu X.prog X.w X.K tg (Th z) [s1.heap.objs.size] s1.heap.objs.size tn→tn 0 (s1.heap.push o)→TL X pins σ tg R (.ref s1.heap.objs.size) { s1 with heap:=s1.heap.push o }:=fun o tn T st=>by
  refine⟨s1.heap.objs.size,[s1.heap.objs.size],tn,_,H1,rfl,I1.kept (t':=s1.toks) fun b o e=>Heap.get?_push_of_some _ e,T,st,fun b hb=>?_,q⟩
  have e:b=s1.heap.objs.size:=by simpa using hb
  subst e
  exact I1.fpOk (Nat.le_refl _) (I1.hok.fresh (Nat.le_refl _))
 cases ha:z.cps.all (· < 128)
 ·exact wpAny_pyIter_wide ha (fin _ _ (Ie "str_iterator" (by decide) _ z t (fun A' hA=>Walks.strWide hA _ z t) fun _ _ _ _ _ st h=>wpAny_pyIter_striter_wide st h) ⟨_,Heap.get?_push_size _ rfl,rfl,rfl⟩)
 ·exact wpAny_pyIter_ascii ha (fin _ _ (Ie "str_ascii_iterator" (by decide) _ z t (fun A' hA=>Walks.strAscii hA _ z t) fun _ _ _ _ _ st h=>wpAny_pyIter_striter_ascii st h) ⟨_,Heap.get?_push_size _ rfl,rfl,rfl⟩)
def Rb (ta:TA):TI:=fun σ H R=>ta σ H fun vs H1=>∃z,vs=[.str z]∧R (Ts z) H1
theorem Nu {elts:List Expr} {k:Nat} {tp:Pos} {a:Expr} {ta:TA} {p pos:Pos} (hg:Gl X "enumerate") (hm:X.mg "enumerate"=none) (ha:PA X [a] ta) (hs:starEach [a] X.env=[(false,eval a X.env)]:=by rfl):PI X (.Tuple elts k tp) (.Call (.Name "enumerate" p) [a] [] pos) (Rb ta):=by
 intro pins s σ H R I h
 refine Call_ (De I hg hm boot_enumerate (PyProof.Rows.callWith_type1 (Ay (ha pos pins s σ H _ I h) fun us s1 ⟨vs,H1,I1,r1,q1⟩=>?_) hs rfl))
 obtain⟨z,e,q⟩:=q1
 subst e
 cases r1 with
 | cons r rr=>
  cases rr
  obtain⟨t,rfl⟩:=r
  refine call_enumerate_str fun h' he hit hsz hk=>wpAny_pyIter_enum he ?_
  have I2:Inv X pins σ H1 { s1 with heap:=h' }:=I1.kept (t':=s1.toks) hk
  have fp2:∀b∈[s1.heap.objs.size+1,s1.heap.objs.size],B2 X pins H1 b:=fun b hb=>by
   have hle:s1.heap.objs.size≤b:=by
    rcases List.mem_cons.mp hb with q | q
    ·omega
    ·have:b=s1.heap.objs.size:=by simpa using q
     omega
   exact I1.fpOk hle (I1.hok.fresh hle)
  have T:Fu X.prog X.w X.K (.Tuple elts k tp) (Ts z) [s1.heap.objs.size+1,s1.heap.objs.size] (s1.heap.objs.size+1) (fun i h=>(∃old,IsEnum h (s1.heap.objs.size+1) s1.heap.objs.size i old)∧h.IsStrIter s1.heap.objs.size (strIterType z) z t i):=by
   refine LS (strIterType z) (s1.heap.objs.size+1) s1.heap.objs.size (Nat.succ_ne_self _) z t fun A' hA=>?_
   unfold strIterType
   split
   ·exact Draws.strAscii hA _ z t
   ·exact Draws.strWide hA _ z t
  exact⟨_,_,_,_,H1,rfl,I2,T,⟨⟨_,he⟩,hit⟩,fp2,q⟩
def QK:V→List V→Hp→VK→Prop:=fun x vs H Q=>∃z y i rest,x= .str z∧vs=[.str y]∧Builtin.Str.occurrences z y 0 z.length 1=i::rest∧Q (.int (i:Nat)) H
theorem LO:Sq X "str.index" QK:=by
 intro pins s σ H x vs v us Q I rx rv h
 obtain⟨z,y,i,rest,rfl,rfl,ho,q⟩:=h
 obtain⟨t,rfl⟩:=rx
 obtain⟨u,rfl,ru⟩:=rv.one
 obtain⟨t',rfl⟩:=ru
 exact SC.index ho ⟨.int i,H,I.tok _,⟨_,rfl⟩,q⟩
def Sx (K:PySem.W.Frag):R2:=fun x y H Q=>∃a b u v xs,x= .ref a∧y= .ref b∧SqT K H a (.str u::xs)∧SqT K H b [.str v]∧Q (.bl (decide (u=v) && xs.isEmpty)) H
theorem KC (hu:X.A.units<cLine):Ca X (compareOp .Eq) (Sx X.K):=by
 intro pins s σ H x y v u Q I rx ry h
 obtain⟨a,b,u1,v1,xs,rfl,rfl,ha,hb,q⟩:=h
 cases rx
 cases ry
 obtain⟨its,r,pl,hz⟩:=I.tuple ha
 obtain⟨its2,r2,pl2,hz2⟩:=I.tuple hb
 cases r with
 | cons r1 rr=>
  cases r2 with
  | cons r3 rr3=>
   cases rr3
   obtain⟨t1,rfl⟩:=r1
   obtain⟨t3,rfl⟩:=r3
   rename_i us
   have hlen:=rr.length
   refine SeqAt.eq_tupleAt (e:=fun _=>decide (u1=v1)) pl pl2 hu (fun j h1 h2=>?_) ?_
   ·have hj:j=0:=by simp at h2;omega
    subst hj
    intro prog w E Q hq
    exact wpAny_eqBool_str hq
   ·refine⟨.bl _,H,I,?_,q⟩
    show Value.bool _=Value.bool _
    congr 1
    have e1:min (Value.str u1 t1::us).toArray.size [Value.str v1 t3].toArray.size=1:=by simp
    rw[e1]
    have e2:((Value.str u1 t1::us).toArray.size == [Value.str v1 t3].toArray.size)=xs.isEmpty:=by
     cases xs with
     | nil=>cases rr;rfl
     | cons p q=>cases rr;simp
    rw[e2]
    simp
end
end L2
namespace L2
open PySem PySem.Spec PyProof.Rows
section
variable {X:Cx}
end
end L2
namespace L2
open PySem PySem.Spec PyProof.Rows
section
variable {X:Cx} {tg:Expr}
end
end L2
namespace L2
open PySem PySem.Spec PyProof.Rows
structure Stp (fr ch:List Addr) (h h':Heap):Prop where
 keep:∀b o,b∉fr→b∉ch→h.get? b=some o→h'.get? b=some o
 slot:∀b o,b∉ch→h.get? b=some o→∃sl,h'.get? b=some { o with slots:=sl }
theorem Stp.more {fr ch ch':List Addr} {h h':Heap} (x:Stp fr ch h h') (m:∀b∈ch,b∈ch'):Stp fr ch' h h':=
 ⟨fun b o hb hc=>x.keep b o hb fun z=>hc (m b z),fun b o hc=>x.slot b o fun z=>hc (m b z)⟩
theorem Stp.trans {fr ch:List Addr} {h h1 h2:Heap} (x:Stp fr ch h h1) (y:Stp fr ch h1 h2):Stp fr ch h h2:=
 ⟨fun b o hb hc e=>y.keep b o hb hc (x.keep b o hb hc e),fun b o hc e=>let ⟨_,e1⟩:=x.slot b o hc e;let ⟨sl,e2⟩:=y.slot b _ hc e1;⟨sl,e2⟩⟩
theorem Stp.un {fr ch:List Addr} {h h':Heap} (x:Stp fr ch h h') (H:Hp):Un fr ch H H h h':=
 ⟨fun b o e _ hb hx=>x.keep b o hb hx e,fun b o e _ _ hx=>x.slot b o hx e,fun _ _ _ n _=>n,fun b o e hx=>let ⟨_,z⟩:=x.slot b o hx e;⟨_,z⟩,fun _ _ q=>q,fun _ _ _ q=>q,fun _ ps q=>⟨#[],by rw[q];simp⟩⟩
theorem Stp.hok {P:Program} {w:World} {fr ch:List Addr} {h h':Heap} {H:Hp} (x:Stp fr ch h h') (ok:HOk P w H h) (hf:∀b∈fr,H b=none) (hc:∀b∈ch,H b=none):HOk P w H h':=fun b u e=>by
 have nf:∀c v,H c=some v→c∉fr∧c∉ch:=fun c v q=>⟨(fun z=>nomatch (hf c z).symm.trans q),(fun z=>nomatch (hc c z).symm.trans q)⟩
 refine (ok b u e).stay (fun c v hb q=>?_) (fun _ q=>q) fun _ _ q=>q
 rcases hb with z | z
 ·subst z;exact x.keep c v (nf c u e).1 (nf c u e).2 q
 ·exact x.keep c v (nf c _ z).1 (nf c _ z).2 q
def O9 (h:Heap) (e:Addr) (cls:Value) (dx:Option Addr) (T:Addr) (fl:Value):Prop:=
 ∃vs sl oT ts,h.get? e=some ⟨cls,dx,.fields vs,sl⟩∧vs[1]? = some (.ref T)∧T≠e∧h.get? T=some oT∧oT.data= .fields ts∧ts[3]? = some fl∧vs[2]? = some .none
section
variable {M:Model} {A:Around} {E:Value→Shared→Prop} {s:Shared} {base:Heap} {env:Env} {outer:List Env} {L e:Addr} {cls:Value} {dx:Option Addr} {vs:Array Value} {sl:Array (Option Value)} {Q:Unit→Shared→Prop}
theorem Iv {head:Value} {hadNext:Bool} (hfr:A.frames=some (env::outer)) (hl:s.heap.FunFrames base (env::outer)) (hf:env.frame=some L)
  (he:s.heap.get? e=some ⟨cls,dx,.fields vs,sl⟩) (hsz:1<vs.size) (hv2:vs[2]? = some .none) (k:∀h' T,s.heap.objs.size≤T→Stp (ES (env::outer)) [e] s.heap h'→O9 h' e cls dx T (rawInt L)→Q () { s with heap:=h' }) :
  wpAny M A (do let a ←frameOf env;let pl ←entryPlaceOf L hadNext;let b ←EntryCells.newEntry head a .none (rawInt L) .none pl;setField (.ref e) 1 b) Q E s:=by
 have nfr:e∉ES (env::outer):=fun z=>by
  obtain⟨_,o,ho,nd⟩:=hl.mem z
  rw[he] at ho;cases ho
  exact nd vs rfl
 refine wpAny_bind (wpAny_frameOf_fun hfr hl hf fun h1 so=>wpAny_bind (wpAny_entryPlaceOf fun pl hpl=>?_))
 obtain⟨_,so1,so2⟩:=so
 unfold EntryCells.newEntry newFields
 refine wpAny_bind (wpAny_newObj_type ?_ (hpl.sizeOk5 _ _ _ _ _))
 have e1:h1.get? e=some ⟨cls,dx,.fields vs,sl⟩:=(so1 e nfr).trans he
 have e2:=Heap.get?_push_of_some (h:=h1) { cls:=.type "traceback",dict:=none,data:=.fields ([head,.ref L,.none,rawInt L,.none]++(if pl.isEmpty then List.replicate 6 Value.none else pl)).toArray } e1
 refine wpAny_setField e2 rfl hsz (k _ h1.objs.size (by omega) ?_ ?_)
 ·have other:∀b o,b∉[e]→h1.get? b=some o→∀(ob:Obj) (f:Obj→Obj),((h1.push ob).update e f).get? b=some o:=fun b o hb q ob f=>
   (Heap.get?_update_other _ _ (Ne.symm (List.ne_of_not_mem_cons hb))).trans (Heap.get?_push_of_some _ q)
  refine⟨fun b o hb hc q=>other b o hc ((so1 b hb).trans q) _ _,fun b o hc q=>?_⟩
  obtain⟨sl',z⟩:=so2 b o q
  exact⟨sl',other b _ hc z _ _⟩
 ·have ne:h1.objs.size≠e:=Nat.ne_of_gt (Heap.lt_size e1)
  refine⟨_,sl,_,_,Heap.get?_update_self _ e2 rfl,?_,ne,(Heap.get?_update_other _ _ (Ne.symm ne)).trans (Heap.get?_push_size h1 rfl),rfl,?_,?_⟩
  ·simp[hsz]
  ·rcases hpl with rfl | ⟨_,_,_,_,_,_,_,rfl⟩<;>simp
  ·rw[Array.getElem?_setIfInBounds_ne (by decide)];exact hv2
theorem Ng (hfr:A.frames=some (env::outer)) (hl:s.heap.FunFrames base (env::outer)) (hf:env.frame=some L) (he:s.heap.get? e=some ⟨cls,dx,.fields vs,sl⟩) (h1:vs[1]? = some .none) (hv2:vs[2]? = some .none)
  (k:∀h' T,s.heap.objs.size≤T→Stp (ES (env::outer)) [e] s.heap h'→O9 h' e cls dx T (rawInt L)→Q () { s with heap:=h' }):wpAny M A (noteFrame (.ref e) env) Q E s:=by
 unfold noteFrame
 simp only[hf]
 refine wpAny_bind (wpAny_field he rfl h1 ?_)
 rw[if_neg (by decide)]
 exact Iv hfr hl hf he (Array.getElem?_eq_some_iff.mp h1).1 hv2 k
theorem Lc {T:Addr} {fl fl':Value} (hF:O9 s.heap e cls dx T fl):Stp [] [T] s.heap (s.heap.update T (Obj.mapFields (·.setIfInBounds 3 fl')))∧O9 (s.heap.update T (Obj.mapFields (·.setIfInBounds 3 fl'))) e cls dx T fl':=by
 obtain⟨ws,sl,oT,ts,he,h1,ne,hT,hd,h3,hv2⟩:=hF
 have other:∀b o,b∉[T]→s.heap.get? b=some o→(s.heap.update T (Obj.mapFields (·.setIfInBounds 3 fl'))).get? b=some o:=fun b o hb q=>(Heap.get?_update_other _ _ (Ne.symm (List.ne_of_not_mem_cons hb))).trans q
 refine⟨⟨fun b o _ hc q=>other b o hc q,fun b o hc q=>⟨_,other b o hc q⟩⟩,ws,sl,_,_,other e _ (by simpa using Ne.symm ne) he,h1,ne,Heap.get?_update_self _ hT (Obj.isFreed_of_fields (Obj.data_mapFields hd _)),Obj.data_mapFields hd _,?_,hv2⟩
 simp[(Array.getElem?_eq_some_iff.mp h3).1]
theorem Kx {T:Addr} (hfr:A.frames=some (env::outer)) (hl:s.heap.FunFrames base (env::outer)) (hf:env.frame=some L) (hF:O9 s.heap e cls dx T .none)
  (k:∀h' T',s.heap.objs.size≤T'→Stp (ES (env::outer)) [e,T] s.heap h'→O9 h' e cls dx T' (rawInt L)→Q () { s with heap:=h' }):wpAny M A (noteFrame (.ref e) env) Q E s:=by
 obtain⟨S,F2⟩:=Lc (fl':=.none) hF
 obtain⟨ws,sl,oT,ts,he,h1,ne,hT,hd,h3,hv2⟩:=hF
 unfold noteFrame
 simp only[hf]
 refine wpAny_bind (wpAny_field he rfl h1 ?_)
 rw[if_pos (show (Value.ref T != Value.none)=true by simp)]
 refine wpAny_bind (wpAny_field hT hd h3 ?_)
 rw[if_neg (show ¬((Value.none == rawInt L)=true) by simp[rawInt])]
 refine wpAny_bind (wpAny_setField hT hd (Array.getElem?_eq_some_iff.mp h3).1 ?_)
 obtain⟨ws',sl',_,_,he',h1',_,_,_,_,hv2'⟩:=F2
 refine Iv hfr (hl.of_keeps fun b o q nd=>?_) hf he' (Array.getElem?_eq_some_iff.mp h1').1 hv2' fun h' T' hle S' F'=>k h' T' (by simpa using hle) ?_ F'
 ·obtain⟨sl2,z⟩:=S.slot b o (fun z=>by
   have z':b=T:=by simpa using z
   subst z'
   rw[hT] at q;cases q
   exact nd ts hd) q
  exact⟨_,z,rfl⟩
 ·refine Stp.trans (h1:=s.heap.update T (Obj.mapFields (·.setIfInBounds 3 Value.none))) ⟨fun b o _ hc q=>S.keep b o (by simp) (fun z=>hc (List.mem_cons_of_mem _ z)) q,fun b o hc q=>S.slot b o (fun z=>hc (List.mem_cons_of_mem _ z)) q⟩ (S'.more fun b hb=>?_)
  rw[List.mem_singleton.mp hb]
  exact List.mem_cons_self
theorem Oj {T:Addr} {fl:Value} (hF:O9 s.heap e cls dx T fl) (k:∀h',Stp [] [T] s.heap h'→O9 h' e cls dx T .none→Q () { s with heap:=h' }):wpAny M A (setFlight (.ref e) none) Q E s:=by
 obtain⟨S,F2⟩:=Lc (fl':=.none) hF
 obtain⟨ws,sl,oT,ts,he,h1,ne,hT,hd,h3,hv2⟩:=hF
 unfold setFlight
 refine wpAny_bind (wpAny_field he rfl h1 ?_)
 rw[if_pos (show (Value.ref T != Value.none)=true by simp)]
 exact wpAny_setField hT hd (Array.getElem?_eq_some_iff.mp h3).1 (k _ S F2)
end
end L2
namespace L2
open PySem PySem.Spec PyProof.Rows
def D7:List Value:=[.type "ValueError",.type "Exception",.type "BaseException",.type "object"]
structure Hj (K:PySem.W.Frag) (C cT:Addr) (ini:Option Addr):Prop where
 cls:∃nm q N bs hdct sn sub ab col dd k0 k1 k2 k3 k5,K.lookup C=some (excClassObj nm q C N bs (.ref cT::D7) hdct sn sub ab col dd k0 k1 k2 k3 k5 "ValueError.__new__")∧PySem.W.nsOkIn K N=true∧
  PySem.W.nsIn K N "__init__"=some (ini.map Value.ref)
 tail:PySem.W.tailIn K D7 (.ref cT::D7)=true
 kp:PySem.W.keepIn K (.ref C)=true
theorem PN {K:PySem.W.Frag} {h:Heap} {N:Addr} {mg:Str→Option Value} {n:Str} {v:Value} (X:K.In h) (G:h.Ns N mg) (e:PySem.W.nsIn K N n=some (some v)):mg n=some v:=by
 obtain⟨o,es,ep,ho,hd,_,hf⟩:=G
 unfold PySem.W.nsIn at e
 split at e
 ·rename_i c d es2 n2 sl q
  have z:=X _ _ q
  rw[ho] at z
  cases z
  cases hd
  split at e
  ·rename_i en he
   rw[←hf]
   unfold nsFind findBy
   rw[←Array.find?_toList,he]
   cases e
   rfl
  ·split at e<;>cases e
 ·cases e
theorem Ew {K:PySem.W.Frag} {N:Addr} {oc:Value} {od:Option Addr} {es:Array DictEntry} {ep:Nat} {sl:Array (Option Value)} (l:K.lookup N=some ⟨oc,od,.dict es ep,sl⟩)
  (s:(es.all fun e=>match e.key with | .str _ _=>true | _=>false)=true):PySem.W.nsOkIn K N=true:=by
 unfold PySem.W.nsOkIn
 rw[l]
 exact s
theorem HN {K:PySem.W.Frag} {cT:Addr} {c0:Value} {d0:Option Addr} {cd:ClassData} {sl:Array (Option Value)} (l:K.lookup cT=some ⟨c0,d0,.cls cd,sl⟩) (o:PySem.W.nsOkIn K cd.ns=true) (n:PySem.W.nsIn K cd.ns "__init__"=some none) :
  PySem.W.tailIn K D7 (.ref cT::D7)=true:=by
 have t0:PySem.W.tailIn K D7 D7=true:=by
  unfold PySem.W.tailIn D7
  simp
 unfold PySem.W.tailIn
 refine Bool.or_eq_true_iff.mpr (.inr ?_)
 simp only[l,o,n,t0]
 rfl
section
variable {prog:Program} {w:World} {A:Around} {E:Value→Shared→Prop} {h:Heap} {g:Array GenState} {d:Drawn} {t:Nat} {os:OsState}
variable {nm q:Str} {C N:Addr} {bs bm:List Value} {hdct:Bool} {sn:List Str} {sub:List Value} {ab:Bool} {col:Option Bool} {dd:Option Addr} {k0 k1 k2 k3 k5:Option Value}
abbrev Bh (C t:Addr) (dx:Option Addr):Obj:=⟨.ref C,dx,.fields #[.ref t,.none,.none,.none,.bool false,.none],#[]⟩
theorem LA {mN:Str→Option Value} {us:List Value} {fI:Addr} {oI:Obj} {Q:Fin→Shared→Prop} {A2:Around} (T:OwnTail h D7 bm)
  (hC:h.get? C=some (excClassObj nm q C N bs bm hdct sn sub ab col dd k0 k1 k2 k3 k5 "ValueError.__new__")) (hn:h.Ns N mN) (hi:mN "__init__"=some (.ref fI)) (hfI:h.get? fI=some oI) (hfc:oI.cls= .type "function")
  (hu:us.length≤sizeLine)
  (k:wpAny (model prog w) A2 (call (.ref fI) (.ref (h.objs.size+1)::us)) (fun r s'=>r= .none∧Q (.done (.ret (.ref (h.objs.size+1)))) s') E
   ⟨(h.push { cls:=.type "tuple",data:=.seq us.toArray }).push { cls:=.ref C,data:=.fields #[.ref h.objs.size,.none,.none,.none,.bool false,.none] },g,d,t,os⟩) :
  wpAny (model prog w) A2 (Builtin.«type.__call__» ⟨.ref C::us,[]⟩) Q E ⟨h,g,d,t,os⟩:=by
 have VF:=PySem.F.excBase_ValueError
 repeat (first | with_reducible refine wpAny_madeBy_exc hC ?_ | with_reducible refine wpAny_loadPart_at hC ?_ | wp_step)
 refine codeAny_call_builtin_code (Code.quiet_builtin _ VF.quiet) (wpAny_check_new_subT VF T hC (codeAny_exc_new_subT VF T hC ?_ hu))
 show wpAny _ _ _ _ _ _
 have kk:∀b o,h.get? b=some o→((h.push { cls:=.type "tuple",data:=.seq us.toArray }).push { cls:=.ref C,data:=.fields #[.ref h.objs.size,.none,.none,.none,.bool false,.none] }).get? b=some o:=fun b o e=>Heap.get?_push_of_some _ (Heap.get?_push_of_some _ e)
 have hE:((h.push { cls:=.type "tuple",data:=.seq us.toArray }).push { cls:=.ref C,data:=.fields #[.ref h.objs.size,.none,.none,.none,.bool false,.none] }).get? (h.objs.size+1)=some { cls:=.ref C,data:=.fields #[.ref h.objs.size,.none,.none,.none,.bool false,.none] }:=by heap_get
 have hself:(Value.ref C::bm).contains (.ref C)=true:=by simp
 have hC2:=kk _ _ hC
 unfold isInstance
 repeat (first | with_reducible refine wpAny_loadPart_at hE ?_ | (with_reducible refine wpAny_isSubtype_exc hC2 ?_;rw[hself]) | wp_step)
 show wpAny _ _ (typeLookup (.ref C) _) _ _ _
 refine wpAny_typeLookup_tail hC2 (hn.keeps kk) (T.keeps kk) VF.mroIs VF.init.lookup ?_
 rw[hi]
 refine wpAny_holding (wpAny_bind ?_)
 unfold bindSpecial
 refine wpAny_bind (wpAny_typeOf (T:="function") ⟨_,kk _ _ hfI,hfc⟩ ?_)
 rw[if_pos (by decide)]
 refine wpAny_pure (wpAny_bind (wpAny_mono k (fun r s2 hr=>?_) fun _ _ x=>x))
 obtain⟨rfl,hQ⟩:=hr
 wp_walk
 exact hQ
theorem OE {mN:Str→Option Value} {us:List Value} {fI:Addr} {oI:Obj} {Q:Value→Shared→Prop} (T:OwnTail h D7 bm)
  (hC:h.get? C=some (excClassObj nm q C N bs bm hdct sn sub ab col dd k0 k1 k2 k3 k5 "ValueError.__new__")) (hn:h.Ns N mN) (hi:mN "__init__"=some (.ref fI)) (hfI:h.get? fI=some oI) (hfc:oI.cls= .type "function")
  (hu:us.length≤sizeLine)
  (k:wpAny (model prog w) (A.under (.builtin "type.__call__" ⟨.ref C::us,[]⟩)) (call (.ref fI) (.ref (h.objs.size+1)::us)) (fun r s'=>r= .none∧Q (.ref (h.objs.size+1)) s') E
   ⟨(h.push { cls:=.type "tuple",data:=.seq us.toArray }).push (Bh C h.objs.size none),g,d,t,os⟩) :
  wpAny (model prog w) A (call (.ref C) us) Q E ⟨h,g,d,t,os⟩:=by
 have z1:=tc_lookup
 have z2:=tc_bind (.ref C)
 have z3:(⟨h,g,d,t,os⟩:Shared).TypeIs (.ref C) "type":=⟨_,hC,rfl⟩
 refine wpAny_call (codeAny_of_tree ?_)
 show wpAny _ _ (callAny (.ref C) ⟨us,[]⟩) _ _ _
 repeat (any_goals (first | assumption | with_reducible refine wpAny_loadPart_at hC ?_ | wp_step))
 refine⟨rfl,codeAny_call_builtin_at (Code.quiet_builtin _ (by decide +kernel)) entry_typeCall (wpAny_check_type_call_sub hC (LA T hC hn hi hfI hfc hu k))⟩
end
end L2
namespace L2
open PySem PySem.Spec PyProof.Rows
structure XAt (K:PySem.W.Frag) (C cT:Addr):Prop where
 cd:∃cd,PySem.W.clsIn K C=some cd∧cd.mro= .ref C::.ref cT::D7∧cd.hasDict=true
 sa:PySem.W.findIn K (.ref C) "__setattr__"=some (some (.builtin "object.__setattr__"))
 ga:PySem.W.findIn K (.ref C) "__getattribute__"=some (some (.builtin "BaseException.__getattribute__"))
 gn:PySem.W.findIn K (.ref C) "__getattr__"=some none
 ca:PySem.W.findIn K (.ref C) "__class__"=some (some (.builtin "object.__class__"))
 cg:PySem.W.specialIn K (.builtin "object.__class__") "__get__"=some (some (.builtin "getset_descriptor.__get__"))
 ct:PySem.W.takesIn K (.builtin "object.__class__")=some true
section
variable {prog:Program} {w:World} {A:Around} {E:Value→Shared→Prop} {s:Shared} {K:PySem.W.Frag} {C cT x t:Addr} {f:Str} {u:Value}
theorem XAt.sub {M:Model} {h:Heap} (a:XAt K C cT) (X:K.In h) (b:Value) {r:Bool} (e:(Value.ref C::.ref cT::D7).contains b=r):PySem.W.Looks M h (isSubtype (.ref C) b) r:=by
 obtain⟨cd,h1,h2,_⟩:=a.cd
 refine PySem.W.looks_mroIn X ?_
 unfold PySem.W.mroIn
 rw[h1,Option.bind_some,h2,if_neg (by simp),e]
theorem QI {Q:Unit→Shared→Prop} (X:K.In s.heap) (a:XAt K C cT) (na:PySem.W.findIn K (.ref C) f=some none) (hx:s.heap.get? x=some (Bh C t none))
  (k:∀h',(∀b o,b≠x→s.heap.get? b=some o→h'.get? b=some o)→h'.get? x=some (Bh C t (some s.heap.objs.size))→h'.Ns1 s.heap.objs.size (fun y=>if y=f then some u else none)→Q () { s with heap:=h',toks:=s.toks+2 }) :
  wpAny (model prog w) A (setAttr (.ref x) f u) Q E s:=by
 have J:PySem.W.InstAt s.heap x (Bh C t none) C none:=⟨hx,rfl,rfl,trivial⟩
 have SF:=PySem.F.store_object
 obtain⟨cd,hc,hm,hd⟩:=a.cd
 have sub:PySem.W.Looks (model prog w) s.heap (isInstance (.ref x) (.type "object")) true:=J.type.andThen (a.sub X _ rfl)
 have mro:PySem.W.Looks (model prog w) s.heap (mroOf (.ref C)) (.ref C::.ref cT::D7):=hm ▸ (PySem.W.looks_clsIn X hc).andThen .now
 refine PySem.W.set_plain X J a.sa (codeAny_call_builtin SF.slot.plain SF.entry (@PySem.W.check_slot (model prog w) _ _ { s with toks:=s.toks+1 } "object.__setattr__" "object" "__setattr__" (.ref x) [.str f s.toks,u] [] _ SF.kind SF.split sub (SF.args (.ref x) (.str f s.toks) u) ?_))
 rw[PySem.W.osa_eq,refuse_eq]
 refine wpAny_bind (wpAny_bind (PySem.W.Looks.here (s:={ s with toks:=s.toks+1 }) J.type (wpAny_bind (PySem.W.Looks.here (s:={ s with toks:=s.toks+1 }) mro ?_))))
 rw[refuseLoop_ref,refuseLoop_ref,show refuseLoop (.ref x) "__setattr__" D7=pure () from PySem.F.store_ValueError.passes _]
 refine wpAny_pure (wpAny_bind (PySem.W.Looks.here (s:={ s with toks:=s.toks+1 }) J.type (wpAny_bind (PySem.W.Looks.here (s:={ s with toks:=s.toks+1 }) (PySem.W.looks_findIn X na) (wpAny_bind (wpAny_pure ?_))))))
 have hx1:s.heap.get? x=some ⟨.ref C,none,.fields #[.ref t,.none,.none,.none,.bool false,.none],#[]⟩:=hx
 refine wpAny_bind (wpAny_pure (wpAny_bind (wpAny_bind (wpAny_loadPart hx1 (wpAny_bind (PySem.W.Looks.here (s:={ s with toks:=s.toks+1 }) (PySem.W.looks_clsIn X hc) ?_))))))
 rw[hd]
 have hx2:=Heap.get?_push_of_some { cls:=.type "dict",data:=.dict #[] } hx1
 have ne:x≠s.heap.objs.size:=Nat.ne_of_lt (Heap.lt_size hx1)
 refine wpAny_bind (wpAny_alloc (wpAny_bind (wpAny_update hx2 (wpAny_pure (wpAny_bind (wpAny_pure (wpAny_bind ?_)))))))
 have gd:((s.heap.push { cls:=.type "dict",data:=.dict #[] }).update x fun o=>{ o with dict:=some s.heap.objs.size }).get? s.heap.objs.size=some { cls:=.type "dict",data:=.dict #[] }:=
  (Heap.get?_update_other _ _ ne).trans (Heap.get?_push_size _ rfl)
 have gx:((s.heap.push { cls:=.type "dict",data:=.dict #[] }).update x fun o=>{ o with dict:=some s.heap.objs.size }).get? x=some (Bh C t (some s.heap.objs.size)):=Heap.get?_update_self _ hx2 rfl
 have nd:((s.heap.push { cls:=.type "dict",data:=.dict #[] }).update x fun o=>{ o with dict:=some s.heap.objs.size }).Ns s.heap.objs.size (fun _=>none):=⟨_,#[],_,gd,rfl,fun e he=>absurd he (by simp),fun _=>rfl⟩
 refine wpAny_nsSet1 (s:={ s with heap:=(s.heap.push { cls:=.type "dict",data:=.dict #[] }).update x fun o=>{ o with dict:=some s.heap.objs.size },toks:=s.toks+1 }) (Heap.Ns1.of_empty nd) fun h2 n2 s2=>?_
 obtain⟨oD,esD,epD,hoD,hdD,hcD⟩:=n2.count (PySem.Within.cons f u PySem.Within.nil)
 refine wpAny_bind (wpAny_lookBehind hoD (by rw[hdD];exact pastItsLine_dict (Nat.le_trans hcD (by rw[List.length_cons,List.length_nil,sizeLine_eq];omega))) (wpAny_pure ?_))
 refine k h2 (fun b o nb q=>?_) ((s2.2 x ne).trans gx) n2
 exact (s2.2 b (Nat.ne_of_lt (Heap.lt_size q))).trans ((Heap.get?_update_other _ _ (Ne.symm nb)).trans (Heap.get?_push_of_some _ q))
end
end L2
namespace L2
open PySem PySem.Spec PyProof.Rows
open Builtin Builtin.ObjectAttr
section
variable {prog:Program} {w:World} {A:Around} {E:Value→Shared→Prop} {s:Shared} {K:PySem.W.Frag} {C cT x:Addr} {ox:Obj} {od:Option Obj} {name:Str} {tk:Tok} {fill expr:Bool} {v:Value}
theorem Rk {R:Result→Shared→Prop} (X:K.In s.heap) (a:XAt K C cT) (J:PySem.W.InstAt s.heap x ox C od) {r:Found} (hf:PySem.W.findObj K C od name=some r)
  (k:wpAny (model prog w) A.in1 (match r with | .value v=>ret v | .bind g a=>bindTo g a (.ref x) (.ref C) | .missing=>noSuchAttribute (.ref x) name)
   (fun fin s'=>match fin with | .done f=>R (.ok f) s' | .again c'=>c'.quiet=true∧codeAny (model prog w) A c' R s') (fun e s'=>R (.error e) s') s) (hr:r≠.missing) :
  codeAny (model prog w) A (.call (.builtin "BaseException.__getattribute__") ⟨[.ref x,.str name tk],[]⟩) R s:=by
 have FB:=PySem.F.attrBase_ValueError
 have sub:PySem.W.Looks (model prog w) s.heap (isInstance (.ref x) (.type "BaseException")) true:=J.type.andThen (a.sub X _ rfl)
 refine codeAny_call_builtin FB.ga.plain PySem.F.entry_bexc_ga (@PySem.W.check_slot (model prog w) _ _ s "BaseException.__getattribute__" "BaseException" "__getattribute__" (.ref x) [.str name tk] [] _ (by decide +kernel) (by decide +kernel) sub (PySem.F.args_bexc_ga _ _) ?_)
 obtain⟨h,g,d,t,os⟩:=s
 have L0:=J.type (M:=model prog w)
 have L1:=PySem.W.looks_find (M:=model prog w) X J hf
 refine wpAny_bind (wpAny_pure (wpAny_bind (wpAny_pure (wpAny_bind (L0.at (wpAny_bind (L1.at ?_)))))))
 cases r with
 | value v=>exact k
 | bind g a=>exact k
 | missing=>exact absurd rfl hr
theorem Lp {Q:Value→Shared→Prop} (X:K.In s.heap) (a:XAt K C cT) (J:PySem.W.InstAt s.heap x ox C od)
  (k:codeAny (model prog w) A (.call (.builtin "BaseException.__getattribute__") ⟨[.ref x,.str name tk],[]⟩) (fun r s'=>match r with | .ok (.ret v)=>wpAny (model prog w) A (handedOut v) Q E s' | _=>False) s) :
  wpAny (model prog w) A (getAttrBy (.ref x) (.str name tk) fill expr) Q E s:=by
 have FB:=PySem.F.attrBase_ValueError
 have b0:=FB.ga.bind (.ref x)
 have L0:=J.type (M:=model prog w)
 have L1:=PySem.W.looks_findIn (M:=model prog w) X a.ga
 have L2:=PySem.W.looks_findIn (M:=model prog w) X a.gn
 unfold getAttrBy
 refine wpAny_holding (wpAny_bind (L0.here (wpAny_bind (L1.here ?_))))
 show wpAny _ _ (if (onTheHeap (Value.ref C) && Value.builtin "BaseException.__getattribute__" == Value.builtin "object.__getattribute__")=true then _ else _) _ _ _
 have hx:(Value.builtin "BaseException.__getattribute__" == Value.builtin "object.__getattribute__")=false:=by decide +kernel
 rw[hx,Bool.and_false,if_neg Bool.false_ne_true]
 unfold getAttrByItsOwn
 refine wpAny_bind ?_
 show wpAny _ _ (typeLookup (.ref C) "__getattr__") _ _ _
 refine L2.here (wpAny_bind (wpAny_attempt (wpAny_holding ?_)))
 unfold callGetattribute
 rw[if_neg (by cases expr<;>decide)]
 unfold boundAndCalled
 rw[b0]
 refine wpAny_bind (wpAny_pure (wpAny_call (codeAny_mono k fun r s' z=>?_)))
 rcases r with e | (v | _ | _ | _)<;>first | exact z | exact z.elim | skip
theorem XAt.found (a:XAt K C cT) (od:Option Obj):PySem.W.findObj K C od "__class__"=some (.bind (.builtin "getset_descriptor.__get__") (.builtin "object.__class__")):=by
 obtain⟨cd,hc,_,_⟩:=a.cd
 unfold PySem.W.findObj
 rw[hc,Option.bind_some,a.ca,Option.bind_some]
 simp[a.cg,a.ct]
theorem LI {Q:Option Value→Shared→Prop} (X:K.In s.heap) (a:XAt K C cT) (J:PySem.W.InstAt s.heap x ox C od) (k:Q (some (.ref C)) { s with toks:=s.toks+1 }):wpAny (model prog w) A (getAttr? (.ref x) "__class__") Q E s:=by
 have hm:PySem.W.mroIn K C (.type "object")=some true:=by
  obtain⟨cd,hc,hm,_⟩:=a.cd
  unfold PySem.W.mroIn
  rw[hc,Option.bind_some,hm]
  rfl
 unfold getAttr? getAttrBy?
 refine wpAny_bind (wpAny_mkText (wpAny_bind (wpAny_attempt (Lp (s:={ s with toks:=s.toks+1 }) X a J (Rk (s:={ s with toks:=s.toks+1 }) X a J (a.found od) ?_ (by intro z;cases z))))))
 show wpAny _ _ (holding [Value.builtin "object.__class__"] (call (.builtin "getset_descriptor.__get__") [.builtin "object.__class__",.ref x,.ref C]) >>= ret) _ _ _
 refine wpAny_bind (wpAny_holding (wpAny_call (PySem.W.class_get (s:={ s with toks:=s.toks+1 }) X J hm (wpAny_pure ?_))))
 show wpAny _ _ (handedOut (.ref C)) _ _ _
 exact wpAny_pure (wpAny_pure k)
theorem Nq (a:XAt K C cT):PySem.W.KitX K (.ref x) (.ref C) (fun h=>PySem.W.InstAt h x ox C od) where
 ty:=fun _ _ _ J=>J.type
 it:=fun _ _ X _=>by
  obtain⟨cd,hc,_,_⟩:=a.cd
  unfold PySem.W.clsIn at hc
  split at hc
  ·rename_i c1 d1 cd1 sl1 ho
   intro A1 Q1 E1 s1 k1 q1
   unfold isType loadHead
   exact wpAny_bind (wpAny_loadPart (k1 _ _ (X _ _ ho)) (wpAny_pure q1))
  ·cases hc
 ne:=fun h tp dd its n sl X htp=>by
  obtain⟨cd,hc,_,_⟩:=a.cd
  refine Bool.eq_false_iff.mpr fun z=>?_
  obtain rfl:C=tp:=Value.ref.inj (beq_iff_eq.mp z)
  unfold PySem.W.clsIn at hc
  split at hc
  ·rename_i c1 d1 cd1 sl1 ho
   exact nomatch (X _ _ ho).symm.trans htp
  ·cases hc
 ca:=fun X J k=>LI X a J k
end
end L2
namespace L2
open PySem PySem.Spec PyProof.Rows
def Bj (P:Program) (w:World):Kc:=fun outer H s E e s'=>∃(a T:Addr) (cls:Value) (dx:Option Addr) (H':Hp),e= .ref a∧s'.os=s.os∧AllBare s'.gens∧Un (ES outer) [] H H' s.heap s'.heap∧HOk P w H' s'.heap∧
 O9 s'.heap a cls dx T .none∧H' a=none∧H' T=none∧s.heap.objs.size≤a∧s.heap.objs.size≤T∧E cls dx H'
theorem Un.stp {fs fr ch:List Addr} {H0 H:Hp} {h0 h h':Heap} (u:Un fs [] H0 H h0 h) (S:Stp fr ch h h') (hfr:∀b∈fr,b∈fs∨h0.objs.size≤b) (hch:∀b∈ch,h0.objs.size≤b):Un fs [] H0 H h0 h':=by
 have nc:∀b o,h0.get? b=some o→b∉ch:=fun b o e z=>absurd (Heap.lt_size e) (Nat.not_lt.mpr (hch b z))
 refine⟨fun b o e n hb hx=>S.keep b o (fun z=>?_) (nc b o e) (u.keep b o e n hb hx),fun b o e n hb hx=>?_,u.free,fun b o e hx=>?_,u.tups,u.frzs,u.tbls⟩
 ·rcases hfr b z with q | q
  ·exact hb q
  ·exact absurd (Heap.lt_size e) (Nat.not_lt.mpr q)
 ·obtain⟨sl,e1⟩:=u.slot b o e n hb hx
  obtain⟨sl2,e2⟩:=S.slot b _ (nc b o e) e1
  exact⟨sl2,e2⟩
 ·obtain⟨o1,e1⟩:=u.there b o e hx
  obtain⟨sl2,e2⟩:=S.slot b _ (nc b o e) e1
  exact⟨_,e2⟩
section
variable {P:Program} {w:World} {K:PySem.W.Frag} {mg:Str→Option Value} {base:Heap} {N:List Str} {qual:Str} {scope:Scope} {f:Addr} {cdv:Value} {A:Around} {outer:List Env} {s:Shared} {H:Hp} {E:XK}
def Q4 (X:Cx) (E:XK):Prop:=∀(pins:List (Addr×Obj)) (σ:St) (H':Hp) (s':Shared) (a:Addr) (cls:Value) (dx:Option Addr) (vs:Array Value) (sl:Array (Option Value)),Inv X pins σ H' s'→H' a=none→
 s'.heap.get? a=some ⟨cls,dx,.fields vs,sl⟩→(vs[1]? = some .none∧vs[2]? = some .none)→X.s₀.heap.objs.size≤a→E cls dx H'→X.xe (.ref a) s'
theorem AM:Q4 (Ha (Bj P w) P w K mg base N qual scope f cdv A outer s H E) E:=by
 intro pins σ H' s' a cls dx vs sl I ha he h1 hsz q
 have hfr:=I.ok.frames
 have hl:=I.stack
 have lt:s.heap.objs.size≤s'.heap.objs.size:=I.sz
 have fr2:∀b∈ES (envOfC qual scope s.heap.objs.size f cdv::outer),b∈ES outer∨s.heap.objs.size≤b:=fun b hb=>by
  rcases List.mem_cons.mp (I.stkSub b hb) with z | z
  ·exact .inr (by rw[z];exact I.ok.above)
  ·exact .inl z
 show wpAny _ _ (leaving _ _) _ _ _
 unfold leaving
 refine wpAny_bind (Ng hfr hl rfl he h1.1 h1.2 fun h2 T hT S F=>Oj F fun h3 S3 F3=>?_)
 have u2:=Un.stp I.base S fr2 (fun b hb=>by rw[List.mem_singleton.mp hb];exact hsz)
 have u3:=Un.stp u2 S3 (fun b hb=>absurd hb (by simp)) (fun b hb=>by rw[List.mem_singleton.mp hb];exact Nat.le_trans lt hT)
 have hTn:H' T=none:=I.hok.fresh hT
 refine⟨a,T,cls,dx,H',rfl,I.os,I.bare,u3,?_,F3,ha,hTn,hsz,Nat.le_trans lt hT,q⟩
 exact S3.hok (S.hok I.hok I.stkFree fun b hb=>by rw[List.mem_singleton.mp hb];exact ha) (fun b hb=>absurd hb (by simp)) fun b hb=>by rw[List.mem_singleton.mp hb];exact hTn
theorem Aq {E1:XK} (le:∀cls dx H',E1 cls dx H'→E cls dx H'):Cg (Bj P w) (Ha (Bj P w) P w K mg base N qual scope f cdv A outer s H E) E1:=by
 intro pins σ H1 s1 e s' I h
 obtain⟨a,T,cls,dx,H',rfl,os,bare,un,hok,F,ha,hT,la,lT,q⟩:=h
 have I2:=I.call' os un hok bare (fun b z=>absurd z (by simp))
 have lt:s.heap.objs.size≤s1.heap.objs.size:=I.sz
 have fr2:∀b∈ES (envOfC qual scope s.heap.objs.size f cdv::outer),b∈ES outer∨s.heap.objs.size≤b:=fun b hb=>by
  rcases List.mem_cons.mp (I2.stkSub b hb) with z | z
  ·exact .inr (by rw[z];exact I2.ok.above)
  ·exact .inl z
 show wpAny _ _ (leaving _ _) _ _ _
 unfold leaving
 refine wpAny_bind (Kx I2.ok.frames I2.stack rfl F fun h2 T2 hT2 S F2=>Oj F2 fun h3 S3 F3=>?_)
 have l2:s.heap.objs.size≤T2:=Nat.le_trans I2.sz hT2
 have two:∀b∈[a,T],s.heap.objs.size≤b∧H' b=none:=fun b hb=>by
  rcases List.mem_cons.mp hb with z | z
  ·rw[z];exact⟨Nat.le_trans lt la,ha⟩
  ·rw[List.mem_singleton.mp z];exact⟨Nat.le_trans lt lT,hT⟩
 have u2:=Un.stp I2.base S fr2 (fun b hb=>(two b hb).1)
 have u3:=Un.stp u2 S3 (fun b hb=>absurd hb (by simp)) (fun b hb=>by rw[List.mem_singleton.mp hb];exact l2)
 have hTn:H' T2=none:=I2.hok.fresh hT2
 refine⟨a,T2,cls,dx,H',rfl,I2.os,I2.bare,u3,?_,F3,ha,hTn,Nat.le_trans lt la,l2,le _ _ _ q⟩
 exact S3.hok (S.hok I2.hok I2.stkFree fun b hb=>(two b hb).2) (fun b hb=>absurd hb (by simp)) fun b hb=>by rw[List.mem_singleton.mp hb];exact hTn
end
abbrev HA (a C t:Addr) (dx:Option Addr):HO:=.ext fun h=>h.get? a=some (Bh C t dx)
theorem Nr {P:Program} {w:World} {H:Hp} {h:Heap} {a C t:Addr} {dx:Option Addr} (e:h.get? a=some (Bh C t dx)):ObjOk P w H h a (HA a C t dx):=⟨e,⟨_,e⟩,fun h1 h2 q k=>k _ q⟩
def del (H:Hp) (a:Addr):Hp:=fun b=>if b=a then none else H b
theorem EV {H:Hp} {a:Addr}:del H a a=none:=if_pos rfl
theorem Fh {H:Hp} {a b:Addr} (h:b≠a):del H a b=H b:=if_neg h
theorem Nc {H:Hp} {a b:Addr} {o:HO} (h:del H a b=some o):b≠a∧H b=some o:=by
 by_cases z:b=a
 ·subst z;rw[EV] at h;cases h
 ·rw[Fh z] at h;exact⟨z,h⟩
theorem Inv.del {X:Cx} {pins:List (Addr×Obj)} {σ:St} {H:Hp} {s:Shared} {a:Addr} {φ:Heap→Prop} (I:Inv X pins σ H s) (ha:H a=some (.ext φ)) (hsz:X.s₀.heap.objs.size≤a):Inv X pins σ (L2.del H a) s:=by
 have nn:∀b,H b=none→L2.del H a b=none:=fun b n=>by
  by_cases z:b=a
  ·rw[z];exact EV
  ·rw[Fh z];exact n
 have oth:∀b u,H b=some u→(∀ψ,u≠.ext ψ)→L2.del H a b=some u:=fun b u e nx=>by
  rw[Fh (fun z=>by subst z;rw[ha] at e;cases e;exact nx _ rfl)];exact e
 refine⟨I.ok,I.os,I.bare,⟨I.base.keep,I.base.slot,fun b o e n hx=>nn b (I.base.free b o e n hx),I.base.there,fun b xs e=>oth b _ (I.base.tups b xs e) (fun _ z=>by cases z),fun b o u e=>oth b _ (I.base.frzs b o u e) (fun _ z=>by cases z),fun b ps e=>?_⟩,I.loc,I.cell,nn _ I.free,fun x c e=>nn _ (I.freeC x c e),fun p hp=>?_,fun b u e=>?_,I.len⟩
 ·obtain⟨m,e1⟩:=I.base.tbls b ps e
  exact⟨m,oth b _ e1 (fun _ z=>by cases z)⟩
 ·obtain⟨h1,h2,h3⟩:=I.pin p hp
  exact⟨h1,nn _ h2,h3⟩
 ·obtain⟨ne,e1⟩:=Nc e
  exact (I.hok b u e1).stay (fun _ _ _ q=>q) (fun c q=>oth c _ q (fun _ z=>by cases z)) fun c xs q=>oth c _ q (fun _ z=>by cases z)
end L2
namespace L2
open PySem PySem.Spec PyProof.Rows
def RX (C:Addr) (sp:Sp) (Ex:XK) (t:TA):TS:=fun _ σ H=>t σ H fun vs H1=>∀a tp,H1 a=none→sp (.ref a::vs) (upd H1 a (HA a C tp none)) (fun v H2=>v= .non∧∃dx,H2 a=some (HA a C tp dx)∧Ex (.ref C) dx (del H2 a)) E0
section
variable {X:Cx} {k:Nat} {fI C cT:Addr} {fd:FuncData} {ps:List Str} {sp:Sp} {Ex:XK} {x:Str} {p pos cpos:Pos} {e:Expr} {es:List Expr} {t:TA}
theorem P1 {pins:List (Addr×Obj)} {σ:St} {H:Hp} {s:Shared} {us:List Value} {vs:List V} (M:Hj X.K C cT (some fI)) (hfn:PySem.W.isFn X.K (.ref fI)=true) (F:FnOk X.prog X.w X.K X.mg X.base A8 k fI fd ps sp) (hr:Room (k+1) X.A)
  (hb:Binds X.K fd ps []) (I:Inv X pins σ H s) (r:Vals vs us) (hps:ps.length≤1000) {Q:Value→Shared→Prop} {E:Value→Shared→Prop}
  (h:∀a tp,H a=none→sp (.ref a::vs) (upd H a (HA a C tp none)) (fun v H2=>v= .non∧∃dx,H2 a=some (HA a C tp dx)∧Ex (.ref C) dx (del H2 a)) E0)
  (kq:∀a tp dx H' s',Inv X pins σ H' s'→X.s₀.heap.objs.size≤a→H' a=none→s'.heap.get? a=some (Bh C tp dx)→Ex (.ref C) dx H'→Q (.ref a) s') :
  wpAny (model X.prog X.w) X.A (call (.ref C) us) Q E s:=by
 have hq:=h (s.heap.objs.size+1) s.heap.objs.size (I.hok.fresh (Nat.le_succ _))
 have kk:∀b o,s.heap.get? b=some o→((s.heap.push { cls:=.type "tuple",data:=.seq us.toArray }).push (Bh C s.heap.objs.size none)).get? b=some o:=fun b o q=>Heap.get?_push_of_some _ (Heap.get?_push_of_some _ q)
 have hE:((s.heap.push { cls:=.type "tuple",data:=.seq us.toArray }).push (Bh C s.heap.objs.size none)).get? (s.heap.objs.size+1)=some (Bh C s.heap.objs.size none):=by heap_get
 have I2:Inv X pins σ (upd H (s.heap.objs.size+1) (HA (s.heap.objs.size+1) C s.heap.objs.size none)) { s with heap:=(s.heap.push { cls:=.type "tuple",data:=.seq us.toArray }).push (Bh C s.heap.objs.size none) }:=
  I.laid (t':=s.toks) kk (Nat.le_succ _) (Nr hE)
 obtain⟨nm,q,N,bs,hdct,sn,sub,ab,col,dd,k0,k1,k2,k3,k5,lC,oN,iN⟩:=M.cls
 have KX:=I.kIn
 have nsN:=Heap.Ns.of_isNs (PySem.W.isNs_of_in KX oN)
 have hfc:∃oI,s.heap.get? fI=some oI∧oI.cls= .type "function":=by
  have z:PySem.W.typeIn X.K (.ref fI)=some (.type "function"):=beq_iff_eq.mp hfn
  obtain⟨o,ho,hc⟩:=Option.map_eq_some_iff.mp z
  exact⟨o,KX _ _ ho,hc⟩
 obtain⟨oI,hfI,hfc⟩:=hfc
 have r2:Vals (V.ref (s.heap.objs.size+1)::vs) (Value.ref (s.heap.objs.size+1)::us):=.cons rfl r
 have hl:(Value.ref (s.heap.objs.size+1)::us).length=ps.length:=by rw[←r2.length];exact F.len _ _ _ _ hq
 have hu:us.length≤sizeLine:=by rw[sizeLine_eq];rw[List.length_cons] at hl;omega
 have hbb:=hb { s with heap:=(s.heap.push { cls:=.type "tuple",data:=.seq us.toArray }).push (Bh C s.heap.objs.size none) } (Value.ref (s.heap.objs.size+1)::us) I2.kIn (by simpa using hl)
 rw[List.append_nil] at hbb
 obtain⟨hh,g,d,tk,os⟩:=s
 refine OE (PySem.W.tail_of_in KX M.tail) (KX _ _ lC) nsN (PN KX nsN iN) hfI hfc hu (wpAny_call (codeAny_mono (F.run _ X.stack _ _ ⟨Value.ref (hh.objs.size+1)::us,[]⟩ _ _ _ _ (hr.make C us []) (I2.env0.make C us []) hbb r2 hq) fun rr s' hq'=>?_))
 cases rr with
 | error e=>exact False.elim hq'
 | ok fl=>
  cases fl with
  | ret u=>
   obtain⟨v,H2,I3,rv,ev,dx,e3,q3⟩:=I2.after hq'
   subst ev
   have e4:s'.heap.get? (hh.objs.size+1)=some (Bh C hh.objs.size dx):=(I3.hok _ _ e3).1
   have sz:X.s₀.heap.objs.size≤hh.objs.size+1:=Nat.le_trans I.sz (Nat.le_succ _)
   exact⟨rv,kq _ _ dx _ s' (I3.del e3 sz) sz EV e4 q3⟩
  | next=>exact False.elim hq'
  | brk=>exact False.elim hq'
  | cont=>exact False.elim hq'
theorem Fi {A:Around} {E:Value→Shared→Prop} {s:Shared} {env:Env} {M:Model} {K:PySem.W.Frag} {xs:Sem Value} {Q:Flow→Shared→Prop} (a:XAt K C cT) (ty:PySem.W.typeIn K (.ref C)=some (.type "type")) (hh:A.handled=none)
  (h:wpAny M A xs (fun v s1=>∃b tp dx,v= .ref b∧K.In s1.heap∧s1.heap.get? b=some (Bh C tp dx)∧E (.ref b) s1) E s):wpAny M A (raiseStmt env (some xs) none) Q E s:=by
 unfold raiseStmt
 refine wpAny_bind (wpAny_mono h (fun v s1 h1=>?_) fun _ _ z=>z)
 obtain⟨b,tp,dx,rfl,KX,hb,q⟩:=h1
 have hb1:s1.heap.get? b=some ⟨.ref C,dx,.fields #[.ref tp,.none,.none,.none,.bool false,.none],#[]⟩:=hb
 have T0:PySem.W.Looks M s1.heap (typeOf (.ref b)) (.ref C):=(PySem.W.Looks.ld hb1).andThen .now
 have T1:PySem.W.Looks M s1.heap (isType (.ref b)) false:=by
  unfold isType loadHead
  exact (PySem.W.Looks.ld hb1).andThen .now
 have T2:PySem.W.Looks M s1.heap (isExcClass (.ref b)) false:=by
  unfold isExcClass
  exact T1.andThen .now
 have T3:PySem.W.Looks M s1.heap (isInstance (.ref b) (.type "BaseException")) true:=T0.andThen (a.sub KX _ rfl)
 have T4:PySem.W.Looks M s1.heap (excFromValue (.ref b) "exceptions must derive from BaseException") (.ref b):=by
  unfold excFromValue
  exact T2.andThen (T3.andThen .now)
 have T5:PySem.W.Looks M s1.heap (raisedInstance (.ref b)) (.ref b):=by
  unfold raisedInstance
  exact T0.andThen ((PySem.W.looks_typeIn KX ty).andThen .now)
 refine wpAny_bind (wpAny_pure (wpAny_bind (wpAny_holding (T4.here ?_))))
 refine wpAny_bind (T1.here ?_)
 refine wpAny_bind (T5.here ?_)
 refine wpAny_bind ?_
 unfold setFlight
 refine wpAny_bind (wpAny_field hb1 rfl (x:=.none) rfl ?_)
 rw[if_neg (by decide)]
 exact wpAny_pure (wpAny_raiseNew_none hh q)
theorem Cn (hx:Q4 X Ex) (hc:X.calm=true) (M:Hj X.K C cT (some fI)) (at_:XAt X.K C cT) (ty:PySem.W.typeIn X.K (.ref C)=some (.type "type")) (hfn:PySem.W.isFn X.K (.ref fI)=true) (F:FnOk X.prog X.w X.K X.mg X.base A8 k fI fd ps sp) (hr:Room (k+1) X.A)
  (hb:Binds X.K fd ps []) (hg:Gl X x) (hm:X.mg x=some (.ref C)) (ha:PA X (e::es) t) (hps:ps.length≤1000:=by decide) (hdb:(x == ("__debug__":Str))=false:=by decide)
  (he:starEach (e::es) X.env=(false,eval e X.env)::starEach es X.env:=by rfl) (hpl:(backTo cpos (starEach es X.env)).any (·.1)=false:=by rfl) :
  PS X (.Raise (some (.Call (.Name x p) (e::es) [] cpos)) none pos) (RX C sp Ex t):=by
 intro pins s σ H D I h
 rw[arm_exec_Raise]
 refine wpAny_bind (wpAny_standAt (Fi (K:=X.K) at_ ty (I.ok.hd hc) ?_))
 refine wpAny_bind (Ay (Q:=fun v s1=>∃b tp dx,v= .ref b∧X.K.In s1.heap∧s1.heap.get? b=some (Bh C tp dx)∧X.xe (.ref b) s1) ?_ fun v s1 q=>wpAny_bind (wpAny_standAt (wpAny_pure q)))
 refine wpAny_Call_Name_kw (B7 I hg hm ?_ hdb)
 refine PySem.W.callWith_K (h₀:=X.base) I.ok.mod.kin M.kp (Ay (ha cpos pins s σ H _ I h) fun us s1 ⟨vs,H1,I1,r,q⟩=>⟨I1.kIn,?_⟩) he hpl
 show wpAny _ _ (call (.ref C) us) _ _ _
 refine P1 M hfn F hr hb I1 r hps q fun a tp dx H' s' I' sz ha' e' q'=>⟨a,tp,dx,rfl,I'.kIn,e',?_⟩
 exact hx pins σ H' s' a _ dx _ _ I' ha' e' ⟨rfl,rfl⟩ sz q'
end
end L2
namespace L2
open PySem PySem.Spec PyProof.Rows
theorem Inv.track {X:Cx} {pins:List (Addr×Obj)} {σ:St} {H:Hp} {s:Shared} {d:Addr} {o:HO} (I:Inv X pins σ H s) (hn:H d=none) (hsz:X.s₀.heap.objs.size≤d) (h1:d≠X.env.locals) (h2:∀x c,X.env.cells.lookup x=some c→c≠d)
  (h3:∀p∈X.pn++pins,p.1≠d) (new:ObjOk X.prog X.w (upd H d o) s.heap d o):Inv X pins σ (upd H d o) s:=by
 have old:∀b u,H b=some u→upd H d o b=some u:=fun b u e=>by rw[Ah (Af e hn)];exact e
 refine⟨I.ok,I.os,I.bare,⟨I.base.keep,I.base.slot,fun b ob e n hx=>?_,I.base.there,fun b xs e=>old b _ (I.base.tups b xs e),fun b ob u e=>old b _ (I.base.frzs b ob u e),fun b ps e=>?_⟩,I.loc,I.cell,?_,fun x c e=>?_,fun p hp=>?_,fun b u e=>?_,I.len⟩
 ·rw[Ah (Nat.ne_of_lt (Nat.lt_of_lt_of_le (Heap.lt_size e) hsz))]
  exact I.base.free b ob e n hx
 ·obtain⟨m,e1⟩:=I.base.tbls b ps e
  exact⟨m,old b _ e1⟩
 ·rw[Ah (Ne.symm h1)];exact I.free
 ·rw[Ah (h2 x c e)];exact I.freeC x c e
 ·obtain⟨e1,e2,e3⟩:=I.pin p hp
  exact⟨e1,by rw[Ah (h3 p hp)];exact e2,e3⟩
 ·by_cases z:b=d
  ·subst z;rw[upd_same] at e;cases e;exact new
  ·rw[Ah z] at e
   exact (I.hok b u e).stay (fun _ _ _ q=>q) (fun c q=>old c _ q) fun c xs q=>old c _ q
def U3 (C:Addr) (ta tv:TE) (f:Str):TS:=fun D σ H=>tv σ H fun y H1=>ta σ H1 fun x H2=>∃a tp,x= .ref a∧H2 a=some (HA a C tp none)∧∀dx,H2 dx=none→dx≠a→D.nx σ (upd (upd H2 dx (.xd [(f,y)])) a (HA a C tp (some dx)))
section
variable {X:Cx} {C cT:Addr} {o value:Expr} {ta tv:TE} {f:Str} {pos pos':Pos}
theorem QQ (at_:XAt X.K C cT) (na:NoAttr X.K C f) (ha:PE X o ta) (hv:PE X value tv) (hs:swapsWith value (some (.Attribute o f pos')) pos.line X.env=pure false):PS X (.Assign [.Attribute o f pos'] value pos) (U3 C ta tv f):=by
 intro pins s σ H D I h
 refine plainObj_wpAny_Assign_Attribute (Ay (hv pins s σ H _ I h) fun u s1 ⟨y,H1,I1,ry,q⟩=>Ay (ha pins s1 σ H1 _ I1 q) fun ov s2 ⟨x,H2,I2,rx,a,tp,ex,ea,q2⟩=>?_) hs
 subst ex
 obtain rfl:ov=Value.ref a:=rx
 have hx:s2.heap.get? a=some (Bh C tp none):=(I2.hok _ _ ea).1
 refine QI I2.kIn at_ na hx fun h' k hx' n'=>?_
 have ne:s2.heap.objs.size≠a:=Nat.ne_of_gt (Heap.lt_size hx)
 have fr:H2 s2.heap.objs.size=none:=I2.hok.fresh (Nat.le_refl _)
 refine⟨σ,_,?_,q2 s2.heap.objs.size fr ne⟩
 have mu:R0 (H2 a):=by rw[ea];exact True.intro
 have I3:Inv X pins σ (upd H2 a (HA a C tp (some s2.heap.objs.size))) { s2 with heap:=h',toks:=s2.toks+2 }:=I2.write (x:=a) (e:=a) mu (.inl rfl) (fun b u nb q=>k b u nb q) ⟨_,hx'⟩ (Nr hx')
 have comm:upd (upd H2 s2.heap.objs.size (.xd [(f,y)])) a (HA a C tp (some s2.heap.objs.size))=upd (upd H2 a (HA a C tp (some s2.heap.objs.size))) s2.heap.objs.size (.xd [(f,y)]):=by
  funext b
  unfold upd
  by_cases h1:b=a
  ·subst h1;rw[if_pos rfl,if_neg (Ne.symm ne),if_pos rfl]
  ·rw[if_neg h1]
   by_cases h2:b=s2.heap.objs.size
   ·rw[if_pos h2,if_pos h2]
   ·rw[if_neg h2,if_neg h2,if_neg h1]
 rw[comm]
 have fr3:upd H2 a (HA a C tp (some s2.heap.objs.size)) s2.heap.objs.size=none:=by rw[Ah ne];exact fr
 have ltp:∀p∈X.pn++pins,p.1≠s2.heap.objs.size:=fun p hp=>Nat.ne_of_lt (Heap.lt_size (I2.pin p hp).1)
 refine I3.track fr3 I2.sz (Nat.ne_of_gt I2.lt) (fun x c e=>?_) ltp ?_
 ·obtain⟨v,oc,hoc,_⟩:=I2.cell x c e
  exact Nat.ne_of_lt (Heap.lt_size hoc)
 ·refine⟨_,n',fun g=>?_⟩
  show RelO (List.lookup g [(f,y)]) (if g=f then some u else none)
  rw[List.lookup_cons]
  by_cases z:g=f
  ·rw[if_pos z,z,beq_self_eq_true];exact ry
  ·rw[if_neg z,show (g == f)=false from beq_false_of_ne z];exact True.intro
end
end L2
namespace L2
open PySem PySem.Spec PyProof.Rows
def Cx.caught (X:Cx) (a:Addr) (oe:Obj):Cx:={ X with A:=X.A.mark (some (.ref a)),calm:=false,pn:=(a,oe)::X.pn,xe:=fun _ _=>False }
theorem Cx.Ok.caught {X:Cx} (ok:X.Ok) (a:Addr) (oe:Obj):(X.caught a oe).Ok:=
 ⟨ok.mod,ok.kind,ok.glob,ok.blt,ok.above,ok.inj,ok.has,ok.cab,(fun z=>nomatch z),ok.frames,ok.stk,ok.exf,ok.bs,ok.bsz,ok.noex,ok.exfs,ok.funs,ok.frf⟩
section
variable {X:Cx} {pins:List (Addr×Obj)} {σ:St} {H:Hp} {s:Shared} {a:Addr} {oe:Obj}
theorem Inv.caught (I:Inv X pins σ H s) (e:s.heap.get? a=some oe) (n:H a=none) (h1:a≠X.env.locals) (h2:a∉X.fs) (h3:∀v,oe.data≠.cell v):Inv (X.caught a oe) pins σ H s:=
 ⟨I.ok.caught a oe,I.os,I.bare,I.base,I.loc,I.cell,I.free,I.freeC,fun p hp=>by
  rcases List.mem_cons.mp (show p∈(a,oe)::(X.pn++pins) from hp) with z | z
  ·subst z;exact⟨e,n,h1,h2,h3⟩
  ·exact I.pin p z,I.hok,I.len⟩
theorem Inv.uncaught {ok:X.Ok} (I:Inv (X.caught a oe) pins σ H s):Inv X pins σ H s:=
 ⟨ok,I.os,I.bare,I.base,I.loc,I.cell,I.free,I.freeC,fun p hp=>I.pin p (show p∈(a,oe)::(X.pn++pins) from List.mem_cons_of_mem _ hp),I.hok,I.len⟩
theorem Inv.mapGone {h':Heap} {m':Str→Option Value} {t':Nat} (I:Inv X pins σ H s) (hn:h'.Ns X.env.locals m') (hs:Heap.SameBut X.env.locals s.heap h'):Inv X pins (List.replicate X.N.length none) H { s with heap:=h',toks:=t' }:=by
 have neL:∀b o,X.s₀.heap.get? b=some o→b≠X.env.locals:=fun b o e=>Nat.ne_of_lt (Nat.lt_of_lt_of_le (Heap.lt_size e) I.ok.above)
 refine⟨I.ok,I.os,I.bare,⟨fun b o e n hb hx=>(hs.2 b (neL b o e)).trans (I.base.keep b o e n hb hx),fun b o e n hb hx=>?_,I.base.free,fun b o e hx=>?_,I.base.tups,I.base.frzs,I.base.tbls⟩,⟨m',hn,fun i x v _ e2 _=>?_⟩,fun x c e=>?_,I.free,I.freeC,fun p hp=>?_,fun b u e=>?_,by simp⟩
 ·obtain⟨sl,z⟩:=I.base.slot b o e n hb hx
  exact⟨sl,(hs.2 b (neL b o e)).trans z⟩
 ·obtain⟨o',z⟩:=I.base.there b o e hx
  exact⟨o',(hs.2 b (neL b o e)).trans z⟩
 ·rw[List.getElem?_replicate] at e2
  split at e2<;>cases e2
 ·obtain⟨v,z⟩:=I.cell x c e
  exact⟨v,z.sameBut hs (I.cne x c e)⟩
 ·obtain⟨e,n,ne,r⟩:=I.pin p hp
  exact⟨(hs.2 p.1 ne).trans e,n,ne,r⟩
 ·refine (I.hok b u e).stay (fun c v hc q=>(hs.2 c ?_).trans q) (fun _ q=>q) fun _ _ q=>q
  rcases hc with z | z
  ·rw[z];exact Af e I.free
  ·exact Af z I.free
theorem Inv.blank (I:Inv X pins σ H s):Inv X pins (List.replicate X.N.length none) H s:=I.weak (by rw[I.len];simp) fun i v e=>by
 rw[List.getElem?_replicate] at e
 split at e<;>cases e
end
theorem FS {M:Model} {h:Heap} {K:PySem.W.Frag} {C D a:Addr} {oe:Obj} {r:Bool} (X:K.In h) (hD:PySem.W.typeIn K (.ref D)=some (.type "type")) (cD:(PySem.W.clsIn K D).isSome=true) (hB:PySem.W.mroIn K D (.type "BaseException")=some true) (hs:PySem.W.mroIn K C (.ref D)=some r)
  (he:h.get? a=some oe) (hc:oe.cls= .ref C):PySem.W.Looks M h (excMatches (.ref a) (.ref D)) r:=by
 have T0:PySem.W.Looks M h (typeOf (.ref a)) (.ref C):=hc ▸ (PySem.W.Looks.ld he).andThen .now
 have T1:PySem.W.Looks M h (isInstance (.ref D) (.type "tuple")) false:=(PySem.W.looks_typeIn X hD).andThen (PySem.W.Looks.of_pure tc_notTuple)
 have T2:PySem.W.Looks M h (isType (.ref D)) true:=by
  obtain⟨cd,hcd⟩:=Option.isSome_iff_exists.mp cD
  unfold PySem.W.clsIn at hcd
  split at hcd
  ·rename_i c1 d1 cd1 sl1 ho
   unfold isType loadHead
   exact (PySem.W.Looks.ld (X _ _ ho)).andThen .now
  ·cases hcd
 have T3:PySem.W.Looks M h (isExcClass (.ref D)) true:=by
  unfold isExcClass
  exact T2.andThen (PySem.W.looks_mroIn X hB)
 have T4:=PySem.W.looks_mroIn (M:=M) X hs
 unfold excMatches
 refine T1.andThen ?_
 simp only[Bool.false_eq_true,if_false,pure_bind,List.forIn_cons,List.forIn_nil,bind_assoc]
 refine T3.andThen ?_
 simp only[Bool.not_true,Bool.false_eq_true,if_false,pure_bind]
 refine T0.andThen (T4.andThen ?_)
 cases r<;>simp<;>exact .now
end L2
namespace L2
open PySem PySem.Spec PyProof.Rows
def Cx.within (X:Cx) (pn:List (Addr×Obj)) (E:Value→Shared→Prop):Cx:={ X with pn:=pn,xe:=E }
section
variable {X:Cx} {pins:List (Addr×Obj)} {σ:St} {H:Hp} {s:Shared}
theorem Inv.within (I:Inv X pins σ H s) (E:Value→Shared→Prop):Inv (X.within (X.pn++pins) E) [] σ H s:=
 ⟨⟨I.ok.mod,I.ok.kind,I.ok.glob,I.ok.blt,I.ok.above,I.ok.inj,I.ok.has,I.ok.cab,I.ok.hd,I.ok.frames,I.ok.stk,I.ok.exf,I.ok.bs,I.ok.bsz,I.ok.noex,I.ok.exfs,I.ok.funs,I.ok.frf⟩,I.os,I.bare,I.base,I.loc,I.cell,I.free,I.freeC,
  fun p hp=>I.pin p (by rw[List.append_nil] at hp;exact hp),I.hok,I.len⟩
theorem Inv.out {pins2:List (Addr×Obj)} {E:Value→Shared→Prop} (ok:X.Ok) (I:Inv (X.within (X.pn++pins) E) pins2 σ H s):Inv X pins σ H s:=
 ⟨ok,I.os,I.bare,I.base,I.loc,I.cell,I.free,I.freeC,fun p hp=>I.pin p (List.mem_append_left _ hp),I.hok,I.len⟩
theorem Inv.young (I:Inv X pins σ H s) {b:Addr} (h:s.heap.objs.size≤b):(b∈X.ex∨X.s₀.heap.objs.size≤b)∧b≠X.env.locals∧(∀x c,X.env.cells.lookup x=some c→c≠b)∧∀p∈X.pn++pins,p.1≠b:=
 ⟨.inr (Nat.le_trans I.sz h),Nat.ne_of_gt (Nat.lt_of_lt_of_le I.lt h),fun x c e=>by
  obtain⟨v,o,ho,_⟩:=I.cell x c e
  exact Nat.ne_of_lt (Nat.lt_of_lt_of_le (Heap.lt_size ho) h),fun p hp=>Nat.ne_of_lt (Nat.lt_of_lt_of_le (Heap.lt_size (I.pin p hp).1) h)⟩
end
section
variable {X:Cx} {C Dc:Addr} {i:Nat} {x n:Str} {np hpos pos:Pos} {body suite:List Stmt} {b0:Stmt} {tb:XK→TS} {th:Addr→Obj→TS}
end
end L2
namespace L2
open PySem PySem.Spec PyProof.Rows
def Held (X:Cx) (H:Hp) (C a:Addr) (fs:List (Str×V)):Prop:=∃dx vs sl,(a,(⟨.ref C,some dx,.fields vs,sl⟩:Obj))∈X.pn∧H dx=some (.xd fs)
theorem Held.inst {X:Cx} {pins:List (Addr×Obj)} {σ:St} {H:Hp} {s:Shared} {C a:Addr} {fs:List (Str×V)} (h:Held X H C a fs) (I:Inv X pins σ H s) :
  ∃ox od,PySem.W.InstAt s.heap a ox C (some od)∧∀f v,fs.lookup f=some v→∃u,PySem.W.lookIn f od=some (some u)∧RelV v u:=by
 obtain⟨dx,vs,sl,hp,hd⟩:=h
 obtain⟨e,_⟩:=I.pin _ (List.mem_append_left _ hp)
 obtain⟨mA,n1,r⟩:=(show ObjOk X.prog X.w H s.heap dx (.xd fs) from I.hok dx _ hd)
 obtain⟨od,ho,hl⟩:=FA n1
 refine⟨_,od,⟨e,rfl,rfl,ho⟩,fun f v q=>?_⟩
 obtain⟨u,hu,ru⟩:=RelO.some_of (v:=v) (o:=mA f) (by rw[←q];exact r f)
 exact⟨u,(hl f).trans (by rw[hu]),ru⟩
section
variable {X:Cx} {C cT:Addr} {e:Expr} {f:Str} {pos:Pos} {ta:TE}
end
end L2
namespace L2
open PySem PySem.Spec PyProof.Rows
theorem NH {K:PySem.W.Frag} {C:Addr} {T:String} {b:Bool} (hm:PySem.W.kitMeta T=true) (h:PySem.W.subIn K (.ref C) (.type T)=some b):PySem.W.kitOne K (.ref C) (.type T)=some b:=by
 unfold PySem.W.kitOne
 rw[if_neg (show ¬((Value.ref C == Value.type T)=true) by intro z;cases beq_iff_eq.mp z)]
 show (if PySem.W.kitMeta T=true then _ else _)=_
 rw[if_pos hm,h]
theorem Sc {K:PySem.W.Frag} {C D:Addr} {b:Bool} (ne:(Value.ref C == Value.ref D)=false) (hc:(PySem.W.clsIn K D).isSome=true) (ht:PySem.W.typeIn K (.ref D)=some (.type "type")) (h:PySem.W.subIn K (.ref C) (.ref D)=some b):PySem.W.kitOne K (.ref C) (.ref D)=some b:=by
 unfold PySem.W.kitOne
 rw[ne,if_neg Bool.false_ne_true]
 show (if ((PySem.W.clsIn K D).isSome && PySem.W.typeIn K (.ref D) == some (.type "type"))=true then _ else _)=_
 rw[hc,ht,if_pos (by simp),h]
theorem Pw {K:PySem.W.Frag} {C cT fI N NT:Addr} {nm q nm2 q2:Str} {bs bs2:List Value} {hd2:Bool} {sn sn2:List Str} {sub sub2:List Value} {ab ab2:Bool} {col col2:Option Bool} {dd dd2:Option Addr} {k0 k1 k2 k3 k5:Option Value} {j0 j1 j2 j3 j4 j5:Option Value}
  {oc oc2:Value} {od od2:Option Addr} {es es2:Array DictEntry} {ep ep2:Nat} {sl sl2:Array (Option Value)}
  (lC:K.lookup C=some (excClassObj nm q C N bs (.ref cT::D7) true sn sub ab col dd k0 k1 k2 k3 k5 "ValueError.__new__")) (lN:K.lookup N=some ⟨oc,od,.dict es ep,sl⟩) (sN:(es.all fun e=>match e.key with | .str _ _=>true | _=>false)=true)
  (iN:PySem.W.nsIn K N "__init__"=some (some (.ref fI))) (lT:K.lookup cT=some ⟨.type "type",dd2,.cls { name:=nm2,bases:=bs2,mro:=.ref cT::D7,ns:=NT,qualname:=q2,hasDict:=hd2,slotNames:=sn2,subclasses:=sub2,abstract:=ab2,collection:=col2,hasDel:=false },#[j0,j1,j2,j3,j4,j5]⟩)
  (lNT:K.lookup NT=some ⟨oc2,od2,.dict es2 ep2,sl2⟩) (sNT:(es2.all fun e=>match e.key with | .str _ _=>true | _=>false)=true) (iNT:PySem.W.nsIn K NT "__init__"=some none) (kp:PySem.W.keepIn K (.ref C)=true):Hj K C cT (some fI):=
 ⟨⟨nm,q,N,bs,true,sn,sub,ab,col,dd,k0,k1,k2,k3,k5,lC,Ew lN sN,iN⟩,HN lT (Ew lNT sNT) iNT,kp⟩
end L2
namespace L2
open PySem PySem.Spec PyProof.Rows
theorem P6 {K:PySem.W.Frag} {h:Heap} {N:Addr} {mg:Str→Option Value} {n:Str} (X:K.In h) (G:h.Ns N mg) (e:PySem.W.nsIn K N n=some none):mg n=none:=by
 obtain⟨o,es,ep,ho,hd,_,hf⟩:=G
 unfold PySem.W.nsIn at e
 split at e
 ·rename_i c d es2 n2 sl q
  have z:=X _ _ q
  rw[ho] at z
  cases z
  cases hd
  split at e
  ·cases e
  ·rename_i he
   rw[←hf]
   unfold nsFind findBy
   rw[←Array.find?_toList,he]
   rfl
 ·cases e
section
variable {prog:Program} {w:World} {A:Around} {E:Value→Shared→Prop} {h:Heap} {g:Array GenState} {d:Drawn} {t:Nat} {os:OsState}
variable {nm q:Str} {C N:Addr} {bs bm:List Value} {hdct:Bool} {sn:List Str} {sub:List Value} {ab:Bool} {col:Option Bool} {dd:Option Addr} {k0 k1 k2 k3 k5:Option Value}
theorem Kh {mN:Str→Option Value} {us:List Value} {Q:Fin→Shared→Prop} {A2:Around} (T:OwnTail h D7 bm)
  (hC:h.get? C=some (excClassObj nm q C N bs bm hdct sn sub ab col dd k0 k1 k2 k3 k5 "ValueError.__new__")) (hn:h.Ns N mN) (hi:mN "__init__"=none) (hu:us.length≤sizeLine)
  (k:∀h',(∀b o,h.get? b=some o→h'.get? b=some o)→h'.get? (h.objs.size+1)=some (Bh C (h.objs.size+2) none)→Q (.done (.ret (.ref (h.objs.size+1)))) ⟨h',g,d,t,os⟩) :
  wpAny (model prog w) A2 (Builtin.«type.__call__» ⟨.ref C::us,[]⟩) Q E ⟨h,g,d,t,os⟩:=by
 have VF:=PySem.F.excBase_ValueError
 repeat (first | with_reducible refine wpAny_madeBy_exc hC ?_ | with_reducible refine wpAny_loadPart_at hC ?_ | wp_step)
 refine codeAny_call_builtin_code (Code.quiet_builtin _ VF.quiet) (wpAny_check_new_subT VF T hC (codeAny_exc_new_subT VF T hC ?_ hu))
 show wpAny _ _ _ _ _ _
 have kk:∀b o,h.get? b=some o→((h.push { cls:=.type "tuple",data:=.seq us.toArray }).push { cls:=.ref C,data:=.fields #[.ref h.objs.size,.none,.none,.none,.bool false,.none] }).get? b=some o:=fun b o e=>Heap.get?_push_of_some _ (Heap.get?_push_of_some _ e)
 have hE:((h.push { cls:=.type "tuple",data:=.seq us.toArray }).push { cls:=.ref C,data:=.fields #[.ref h.objs.size,.none,.none,.none,.bool false,.none] }).get? (h.objs.size+1)=some { cls:=.ref C,data:=.fields #[.ref h.objs.size,.none,.none,.none,.bool false,.none] }:=by heap_get
 have hself:(Value.ref C::bm).contains (.ref C)=true:=by simp
 have hC2:=kk _ _ hC
 have T2:=T.keeps kk
 unfold isInstance
 repeat (first | with_reducible refine wpAny_loadPart_at hE ?_ | (with_reducible refine wpAny_isSubtype_exc hC2 ?_;rw[hself]) | wp_step)
 show wpAny _ _ (typeLookup (.ref C) _) _ _ _
 refine wpAny_typeLookup_tail hC2 (hn.keeps kk) T2 VF.mroIs VF.init.lookup ?_
 rw[hi]
 refine wpAny_holding (wpAny_bind (wpAny_of_eq (VF.init.bind _) (wpAny_bind (wpAny_call (codeAny_call_builtin VF.init.plain VF.initEntry (wpAny_check_init_subT VF T2 hC2 hE rfl ?_))))))
 wp_walk
 refine k _ (fun b o hb=>?_) ?_
 ·have lt:=Heap.lt_size hb
  rw[Heap.get?_update_other _ _ (Nat.ne_of_gt (Nat.lt_succ_of_lt lt))]
  exact Heap.get?_push_of_some _ (kk b o hb)
 ·rw[Heap.get?_update_self _ (Heap.get?_push_of_some (h:=_) _ hE) rfl]
  simp only[Heap.size_push]
  rfl
theorem Mg {mN:Str→Option Value} {us:List Value} {Q:Value→Shared→Prop} (T:OwnTail h D7 bm)
  (hC:h.get? C=some (excClassObj nm q C N bs bm hdct sn sub ab col dd k0 k1 k2 k3 k5 "ValueError.__new__")) (hn:h.Ns N mN) (hi:mN "__init__"=none) (hu:us.length≤sizeLine)
  (k:∀h',(∀b o,h.get? b=some o→h'.get? b=some o)→h'.get? (h.objs.size+1)=some (Bh C (h.objs.size+2) none)→Q (.ref (h.objs.size+1)) ⟨h',g,d,t,os⟩) :
  wpAny (model prog w) A (call (.ref C) us) Q E ⟨h,g,d,t,os⟩:=by
 have z1:=tc_lookup
 have z2:=tc_bind (.ref C)
 have z3:(⟨h,g,d,t,os⟩:Shared).TypeIs (.ref C) "type":=⟨_,hC,rfl⟩
 refine wpAny_call (codeAny_of_tree ?_)
 show wpAny _ _ (callAny (.ref C) ⟨us,[]⟩) _ _ _
 repeat (any_goals (first | assumption | with_reducible refine wpAny_loadPart_at hC ?_ | wp_step))
 exact⟨rfl,codeAny_call_builtin_at (Code.quiet_builtin _ (by decide +kernel)) entry_typeCall (wpAny_check_type_call_sub hC (Kh T hC hn hi hu k))⟩
end
def Pc (C:Addr) (Ex:XK) (t:TA):TS:=fun _ σ H=>t σ H fun _ H1=>Ex (.ref C) none H1
section
variable {X:Cx} {C cT:Addr} {Ex:XK} {x:Str} {p pos cpos:Pos} {e:Expr} {es:List Expr} {t:TA}
theorem AY (hx:Q4 X Ex) (hc:X.calm=true) (M:Hj X.K C cT none) (at_:XAt X.K C cT) (ty:PySem.W.typeIn X.K (.ref C)=some (.type "type")) (hg:Gl X x) (hm:X.mg x=some (.ref C)) (ha:PA X (e::es) t) (hlen:(e::es).length≤1000:=by decide) (hdb:(x == ("__debug__":Str))=false:=by decide)
  (he:starEach (e::es) X.env=(false,eval e X.env)::starEach es X.env:=by rfl) (hpl:(backTo cpos (starEach es X.env)).any (·.1)=false:=by rfl)
  (hvl:∀σ H (Q:List V→Hp→Prop),t σ H Q→t σ H (fun vs H1=>vs.length≤1000∧Q vs H1)) :
  PS X (.Raise (some (.Call (.Name x p) (e::es) [] cpos)) none pos) (Pc C Ex t):=by
 intro pins s σ H D I h
 rw[arm_exec_Raise]
 refine wpAny_bind (wpAny_standAt (Fi (K:=X.K) at_ ty (I.ok.hd hc) ?_))
 refine wpAny_bind (Ay (Q:=fun v s1=>∃b tp dx,v= .ref b∧X.K.In s1.heap∧s1.heap.get? b=some (Bh C tp dx)∧X.xe (.ref b) s1) ?_ fun v s1 q=>wpAny_bind (wpAny_standAt (wpAny_pure q)))
 refine wpAny_Call_Name_kw (B7 I hg hm ?_ hdb)
 refine PySem.W.callWith_K (h₀:=X.base) I.ok.mod.kin M.kp (Ay (ha cpos pins s σ H _ I (hvl _ _ _ h)) fun us s1 ⟨vs,H1,I1,r,hl,q⟩=>⟨I1.kIn,?_⟩) he hpl
 show wpAny _ _ (call (.ref C) us) _ _ _
 obtain⟨nm,q0,N,bs,hdct,sn,sub,ab,col,dd,k0,k1,k2,k3,k5,lC,oN,iN⟩:=M.cls
 have KX:=I1.kIn
 have nsN:=Heap.Ns.of_isNs (PySem.W.isNs_of_in KX oN)
 have hul:us.length≤sizeLine:=by rw[←r.length];exact Nat.le_of_lt (AI hl)
 obtain⟨hh,g,d,tk,os⟩:=s1
 refine Mg (PySem.W.tail_of_in KX M.tail) (KX _ _ lC) nsN (P6 KX nsN iN) hul fun h' kk e'=>?_
 have I2:Inv X pins σ H1 ⟨h',g,d,tk,os⟩:=I1.kept (t':=tk) kk
 refine⟨_,_,none,rfl,I2.kIn,e',?_⟩
 exact hx pins σ H1 _ _ _ none _ _ I2 (I1.hok.fresh (Nat.le_succ _)) e' ⟨rfl,rfl⟩ (Nat.le_trans I1.sz (Nat.le_succ _)) q
end
abbrev N6:=Ends→Addr→Option Addr→Hp→Prop
def Sn (X:Cx) (hs:List ExceptHandler) (t:N6):Prop:=
 ∀(pins:List (Addr×Obj)) (D:Ends) (a T C:Addr) (dx:Option Addr) (H:Hp) (s:Shared),Inv X pins (List.replicate X.N.length none) H s→O9 s.heap a (.ref C) dx T .none→H a=none→H T=none→a≠X.env.locals→a∉X.fs→
  ((T∈X.ex∨X.s₀.heap.objs.size≤T)∧T≠X.env.locals∧(∀x c,X.env.cells.lookup x=some c→c≠T)∧∀p∈X.pn++pins,p.1≠T)→t D C dx H→
  wpAny (model X.prog X.w) X.A (handleBy (.ref a) X.env hs) (SP X pins D) X.xe s
theorem Ll {X:Cx}:Sn X [] (fun _ _ _ _=>False):=fun _ _ _ _ _ _ _ _ _ _ _ _ _ _ _ h=>h.elim
def T8 (K:PySem.W.Frag) (Dc:Addr) (n:Nat) (th:Addr→Obj→TS) (tr:N6):N6:=fun D C dx H=>∃r,PySem.W.mroIn K C (.ref Dc)=some r∧
 if r then ∀a vs sl,H a=none→th a ⟨.ref C,dx,.fields vs,sl⟩ D (List.replicate n none) H else tr D C dx H
section
variable {X:Cx} {Dc:Addr} {i:Nat} {x n:Str} {np hpos pos:Pos} {body suite:List Stmt} {b0:Stmt} {tb:XK→TS} {th:Addr→Obj→TS} {hs:List ExceptHandler} {tr:N6}
theorem RL (hth:∀a oe,PSs (X.caught a oe) (b0::suite) (th a oe)) (hr:Sn X hs tr)
  (hg:Gl X x) (hm:X.mg x=some (.ref Dc)) (hD:PySem.W.typeIn X.K (.ref Dc)=some (.type "type")) (cD:(PySem.W.clsIn X.K Dc).isSome=true) (hB:PySem.W.mroIn X.K Dc (.type "BaseException")=some true) (hdb:(x == ("__debug__":Str))=false:=by decide) :
  Sn X (.ExceptHandler (some (.Name x np)) none (b0::suite) hpos::hs) (T8 X.K Dc X.N.length th tr):=by
 intro pins D a T C dx H s J F5 ha hT h1 h2 yT h
 obtain⟨r,hm1,h⟩:=h
 have ok:=J.ok
 obtain⟨vs,sl,oT,ts,e5,e51,ne5,rest5⟩:=id F5
 have J6:=J.caught e5 ha h1 h2 (fun v z=>by cases z)
 refine wpAny_handleBy_cons (codeAny_handlers_test (B7 (X:=X.caught a ⟨.ref C,dx,.fields vs,sl⟩) J6 hg hm (PySem.W.Looks.here (FS J6.kIn hD cD hB hm1 e5 rfl) ?_) hdb)) (by intro z;cases z)
 cases r with
 | false=>exact hr pins D a T C dx H s J F5 ha hT h1 h2 yT h
 | true=>
  refine codeAny_handlers_suite (Oj F5 fun h6 S6 F6=>?_)
  have J7:Inv (X.caught a ⟨.ref C,dx,.fields vs,sl⟩) pins (List.replicate X.N.length none) H { s with heap:=h6 }:=J6.call' (ch:=[T]) (s':={ s with heap:=h6 }) rfl ((S6.un H).mono (fun b hb=>absurd hb (by simp)) fun _ z=>z)
   (S6.hok J6.hok (fun b hb=>absurd hb (by simp)) fun b hb=>by rw[List.mem_singleton.mp hb];exact hT) J.bare fun b hb=>by
    rw[List.mem_singleton.mp hb]
    obtain⟨y1,y2,y3,y4⟩:=yT
    refine⟨y1,y2,y3,fun p hp=>?_⟩
    rcases List.mem_cons.mp (show p∈(a,(⟨.ref C,dx,.fields vs,sl⟩:Obj))::(X.pn++pins) from hp) with z | z
    ·rw[z];exact Ne.symm ne5
    ·exact y4 p z
  refine wpAny_mono (hth a ⟨.ref C,dx,.fields vs,sl⟩ pins _ _ H D J7 (h a vs sl ha)) (fun f s9 q=>?_) fun _ _ z=>False.elim z
  cases f with
  | next=>obtain⟨σ9,H9,J9,q9⟩:=q;exact⟨σ9,H9,J9.uncaught (ok:=ok),q9⟩
  | brk=>obtain⟨σ9,H9,J9,q9⟩:=q;exact⟨σ9,H9,J9.uncaught (ok:=ok),q9⟩
  | cont=>obtain⟨σ9,H9,J9,q9⟩:=q;exact⟨σ9,H9,J9.uncaught (ok:=ok),q9⟩
  | ret u=>obtain⟨v,σ9,H9,J9,r9,q9⟩:=q;exact⟨v,σ9,H9,J9.uncaught (ok:=ok),r9,q9⟩
def SH (tb:XK→TS) (th:N6):TS:=fun D σ H=>∃E:XK,tb E D σ H∧∀cls dx H',E cls dx H'→∃C,cls= .ref C∧th D C dx H'
theorem KZ {h0:ExceptHandler} {tt:N6} (hb:∀(E:XK) (pn:List (Addr×Obj)) (Ex:Value→Shared→Prop),Cg (Bj X.prog X.w) (X.within pn Ex) E→PSs (X.within pn Ex) body (tb E)) (hh:Sn X (h0::hs) tt)
  (stk:X.stack=X.env::X.outer) (hf:X.env.frame=some X.env.locals):PS X (.Try body (h0::hs) [] [] pos) (SH tb tt):=by
 intro pins s σ H D I h
 obtain⟨E,h1,h2⟩:=h
 have ok:=I.ok
 let Ex:Value→Shared→Prop:=fun e s1=>wpAny (model X.prog X.w) X.A (noteFrame e X.env) (fun _ s2=>wpAny (model X.prog X.w) X.A (setFlight e none) (fun _ s3=>
  wpAny (model X.prog X.w) X.A (handleBy e X.env (h0::hs)) (SP X pins D) X.xe s3) X.xe s2) X.xe s1
 refine wpAny_Try_except (wpAny_mono (hb E (X.pn++pins) Ex ?_ [] s σ H D (I.within Ex) h1) (fun f s1 q=>?_) fun e s1 q=>q)
 ·intro pins2 σ2 H2 s2 e s' I2 hx
  obtain⟨a,T,cls,dx,H',rfl,os,bare,un,hok,F,ha,hT,la,lT,qe⟩:=hx
  obtain⟨C,rfl,hsu⟩:=h2 cls dx H' qe
  have J2:=I2.out ok
  have un':Un (ES X.stack) [] H2 H' s2.heap s'.heap:=un
  have J3:=J2.call' os un' hok bare (fun b z=>absurd z (by simp))
  have st:=J3.stack
  have frm:=ok.frames
  have fre:=J3.stkFree
  rw[stk] at st frm fre
  show wpAny _ _ (noteFrame _ _) _ _ _
  refine Kx frm st hf F fun h4 T4 hT4 S4 F4=>Oj F4 fun h5 S5 F5=>?_
  have two:∀b∈[a,T],s2.heap.objs.size≤b∧H' b=none:=fun b hb=>by
   rcases List.mem_cons.mp hb with z | z
   ·rw[z];exact⟨la,ha⟩
   ·rw[List.mem_singleton.mp z];exact⟨lT,hT⟩
  have hT4n:H' T4=none:=J3.hok.fresh hT4
  have J4:Inv X pins σ2 H' { s' with heap:=h4 }:=J3.call' (ch:=[a,T]) (s':={ s' with heap:=h4 }) rfl (by rw[stk];exact S4.un H') (S4.hok J3.hok fre fun b hb=>(two b hb).2) J3.bare fun b hb=>J2.young (two b hb).1
  have J5:Inv X pins σ2 H' { s' with heap:=h5 }:=J4.call' (ch:=[T4]) (s':={ s' with heap:=h5 }) rfl ((S5.un H').mono (fun b hb=>absurd hb (by simp)) fun _ z=>z) (S5.hok J4.hok (fun b hb=>absurd hb (by simp)) fun b hb=>by rw[List.mem_singleton.mp hb];exact hT4n) J3.bare
   fun b hb=>by rw[List.mem_singleton.mp hb];exact J3.young hT4
  exact hh pins D a T4 C dx H' _ J5.blank F5 ha hT4n (J2.young la).2.1 (J2.nofs la) (J3.young hT4) hsu
 ·cases f with
  | next=>obtain⟨σ',H',I',q'⟩:=q;exact wpAny_execs_nil ⟨σ',H',I'.out ok,q'⟩
  | brk=>obtain⟨σ',H',I',q'⟩:=q;exact⟨σ',H',I'.out ok,q'⟩
  | cont=>obtain⟨σ',H',I',q'⟩:=q;exact⟨σ',H',I'.out ok,q'⟩
  | ret u=>obtain⟨v,σ',H',I',r',q'⟩:=q;exact⟨v,σ',H',I'.out ok,r',q'⟩
end
section
variable {X:Cx} {C cT:Addr}
def SJ (K:PySem.W.Frag):R2:=fun x y H Q=>∃(e p:Addr) (xs:List V) (bs:List Bool),x= .ref e∧y= .ref p∧SqL K H e []∧SqL K H p xs∧bs.length=xs.length∧(∀(i:Nat) v b,xs[i]? = some v→bs[i]? = some b→∃a zs,v= .ref a∧SqL K H a zs∧b=zs.isEmpty)∧Q (.bl (bs.any id)) H
theorem Rq (hu:X.A.units+9<cLine):Ca X (compareOp .In) (SJ X.K):=by
 intro pins s σ H x y v u Q I rx ry h
 obtain⟨e,p,xs,bs,rfl,rfl,he,hp,hl,hx,q⟩:=h
 cases rx
 cases ry
 obtain⟨its,r,pl,hz⟩:=I.list hp
 obtain⟨its0,r0,pl0,hz0⟩:=I.list he
 cases r0
 have lr:=r.length
 have at':∀(i:Nat) (u:Value),its[i]? = some u→∃b,bs[i]? = some b∧SeqAt.EqAt X.A.in1 s u (.ref e) b:=fun i u hi=>by
  have hil:i<its.length:=(List.getElem?_eq_some_iff.mp hi).1
  have hxi:xs[i]? = some xs[i]:=List.getElem?_eq_getElem (by omega)
  have hbi:bs[i]? = some bs[i]:=List.getElem?_eq_getElem (by omega)
  obtain⟨u2,hu2,ru2⟩:=r.get hxi
  rw[hi] at hu2
  cases hu2
  obtain⟨a,zs,ev,hq,eb⟩:=hx i _ _ hxi hbi
  rw[ev] at ru2
  cases ru2
  refine⟨_,hbi,?_⟩
  obtain⟨itz,rz,plz,_⟩:=I.list hq
  rw[eb]
  by_cases hae:a=e
  ·subst hae
   have hz1:itz=[]:=by
    have h1:=plz.isList
    have h2:=pl0.isList
    obtain⟨o1,g1,_,n1,d1⟩:=h1
    obtain⟨o2,g2,_,n2,d2⟩:=h2
    rw[g1] at g2
    cases g2
    rw[d1] at d2
    cases itz with
    | nil=>rfl
    | cons c r=>cases d2
   subst hz1
   cases rz
   exact SeqAt.EqAt.same _
  ·refine SeqAt.EqAt.of_refs hae ?_
   cases rz with
   | nil=>exact SeqAt.RcAt.lists (e:=fun _=>true) plz.isList pl0.isList rfl (by show X.A.units+1<cLine;omega) (fun j h1=>absurd h1 (Nat.not_lt_zero _))
   | cons r1 r2=>exact SeqAt.RcAt.lists_lengths plz.isList pl0.isList (by simp) (by show X.A.units+1<cLine;omega)
 let f:Value→Bool:=fun u=>(List.range its.length).any fun i=>its[i]? == some u && bs[i]? == some true
 have uniq:∀(i j:Nat) (u:Value),its[i]? = some u→its[j]? = some u→bs[i]? = bs[j]? :=fun i j u hi hj=>by
  have hil:i<its.length:=(List.getElem?_eq_some_iff.mp hi).1
  have hjl:j<its.length:=(List.getElem?_eq_some_iff.mp hj).1
  have hxi:xs[i]? = some xs[i]:=List.getElem?_eq_getElem (by omega)
  have hbi:bs[i]? = some bs[i]:=List.getElem?_eq_getElem (by omega)
  have hxj:xs[j]? = some xs[j]:=List.getElem?_eq_getElem (by omega)
  have hbj:bs[j]? = some bs[j]:=List.getElem?_eq_getElem (by omega)
  obtain⟨u2,hu2,ru2⟩:=r.get hxi
  obtain⟨u3,hu3,ru3⟩:=r.get hxj
  rw[hi] at hu2
  cases hu2
  rw[hj] at hu3
  cases hu3
  obtain⟨a,zs,ev,hq,eb⟩:=hx i _ _ hxi hbi
  obtain⟨a2,zs2,ev2,hq2,eb2⟩:=hx j _ _ hxj hbj
  rw[ev] at ru2
  rw[ev2] at ru3
  cases ru2
  have ea:a=a2:=Value.ref.inj (show Value.ref a=Value.ref a2 from ru3)
  subst ea
  rw[hbi,hbj,eb,eb2]
  obtain⟨it1,rz1,p1,_⟩:=I.list hq
  obtain⟨it2,rz2,p2,_⟩:=I.list hq2
  obtain⟨o1,g1,_,n1,d1⟩:=p1.isList
  obtain⟨o2,g2,_,n2,d2⟩:=p2.isList
  rw[g1] at g2
  cases g2
  rw[d1] at d2
  have eit:it1.toArray=it2.toArray:=by cases d2;rfl
  have eit':it1=it2:=by simpa using eit
  have l1:=rz1.length
  have l2:=rz2.length
  rw[eit'] at l1
  cases zs with
  | nil=>cases zs2 with
   | nil=>rfl
   | cons c d=>simp at l1 l2;omega
  | cons c d=>cases zs2 with
   | nil=>simp at l1 l2;omega
   | cons c2 d2=>rfl
 have ff:∀(i:Nat) (u:Value) (b:Bool),its[i]? = some u→bs[i]? = some b→f u=b:=fun i u b hi hb=>by
  have hil:i<its.length:=(List.getElem?_eq_some_iff.mp hi).1
  cases b with
  | true=>exact List.any_eq_true.mpr ⟨i,List.mem_range.mpr hil,by rw[hi,hb];simp⟩
  | false=>
   refine List.any_eq_false.mpr fun j hj z=>?_
   rw[Bool.and_eq_true] at z
   have z1:its[j]? = some u:=eq_of_beq z.1
   have z2:bs[j]? = some true:=eq_of_beq z.2
   have:=uniq i j u hi z1
   rw[hb,z2] at this
   cases this
 refine SeqAt.in_listAt f pl.isList (fun u hu=>?_) ⟨.bl _,H,I,rfl,?_⟩
 ·have hu':u∈its:=by simpa using hu
  obtain⟨i,hi⟩:=List.getElem?_of_mem hu'
  obtain⟨b,hb,eq⟩:=at' i u hi
  rw[ff i u b hi hb]
  first | exact eq | exact eq.of_in1
 ·have ea:its.toArray.any f=bs.any id:=by
   rw[show its.toArray.any f=its.any f by simp,Bool.eq_iff_iff,List.any_eq_true,List.any_eq_true]
   constructor
   ·rintro⟨u,hu,hf⟩
    obtain⟨i,hi⟩:=List.getElem?_of_mem hu
    obtain⟨b,hb,_⟩:=at' i u hi
    rw[ff i u b hi hb] at hf
    exact⟨b,List.mem_of_getElem? hb,hf⟩
   ·rintro⟨b,hb,hf⟩
    obtain⟨i,hi⟩:=List.getElem?_of_mem hb
    have hil:i<bs.length:=(List.getElem?_eq_some_iff.mp hi).1
    have hii:its[i]? = some its[i]:=List.getElem?_eq_getElem (by omega)
    exact⟨its[i],List.mem_of_getElem? hii,by rw[ff i _ b hii hi];exact hf⟩
  rw[ea]
  exact q
end
end L2
namespace L2
open PySem PySem.Spec PyProof.Rows
def Ends.lost (D:Ends) (i:Nat):Ends:={ nx:=fun σ H=>D.nx (σ.set i none) H,rt:=D.rt,bk:=fun σ H=>D.bk (σ.set i none) H,ct:=fun σ H=>D.ct (σ.set i none) H }
def SM (K:PySem.W.Frag) (Dc:Addr) (i n:Nat) (th:Addr→Obj→TS) (tr:N6):N6:=fun D C dx H=>∃r,PySem.W.mroIn K C (.ref Dc)=some r∧
 if r then ∀a vs sl,H a=none→th a ⟨.ref C,dx,.fields vs,sl⟩ (D.lost i) ((List.replicate n none).set i (some (.ref a))) H else tr D C dx H
section
variable {X:Cx} {Dc:Addr} {i:Nat} {x n:Str} {np hpos pos:Pos} {body suite:List Stmt} {b0:Stmt} {tb:XK→TS} {th:Addr→Obj→TS} {hs:List ExceptHandler} {tr:N6} {pins:List (Addr×Obj)} {σ:St} {H:Hp} {s:Shared}
theorem Inv.nameGone {Q:Unit→Shared→Prop} (I:Inv X pins σ H s) (hN:X.N.Nodup) (hi:X.N[i]? = some n) (hl:X.env.kindOf n=some .local) (hk:(X.env.scope.kind == .class || (X.env.scope.kind == .module && X.env.locals != X.env.globals))=false)
  (kk:∀s10,Inv X pins (σ.set i none) H s10→Q () s10):wpAny (model X.prog X.w) X.A (do bindName X.env n .none;unbindBehindTheSuite X.env n hpos) Q X.xe s:=by
 obtain⟨m,hn,hl'⟩:=I.loc
 refine wpAny_nameGoes_keeps hl hn hk fun h' v hn' hs'=>kk _ ?_
 have J:=I.mapGone (t':=s.toks+1) hn' hs'
 refine⟨J.ok,J.os,J.bare,J.base,⟨_,hn',fun j y z e1 e2 e3=>?_⟩,J.cell,J.free,J.freeC,J.pin,J.hok,by rw[List.length_set];exact I.len⟩
 have hji:j≠i:=fun e=>by
  rw[e,List.getElem?_set] at e2
  rw[if_pos rfl] at e2
  split at e2<;>cases e2
 have hyn:y≠n:=fun e=>hji (EF hN (e ▸ e1) hi)
 rw[List.getElem?_set,if_neg (fun e=>hji e.symm)] at e2
 obtain⟨u,ru,hlk⟩:=hl' j y z e1 e2 e3
 rcases hlk with⟨k1,k2⟩|⟨k1,c,k2,k3⟩
 ·exact⟨u,ru,.inl ⟨k1,by simp only[if_neg hyn];exact k2⟩⟩
 ·exact⟨u,ru,.inr ⟨k1,c,k2,k3.sameBut hs' (I.cne y c k2)⟩⟩
theorem Pi (hth:∀a oe,PSs (X.caught a oe) (b0::suite) (th a oe)) (hr:Sn X hs tr)
  (hg:Gl X x) (hm:X.mg x=some (.ref Dc)) (hD:PySem.W.typeIn X.K (.ref Dc)=some (.type "type")) (cD:(PySem.W.clsIn X.K Dc).isSome=true) (hB:PySem.W.mroIn X.K Dc (.type "BaseException")=some true)
  (hN:X.N.Nodup) (hi:X.N[i]? = some n) (hl:X.env.kindOf n=some .local) (hlo:SE X.env.scope n) (hdb:(x == ("__debug__":Str))=false:=by decide)
  (hfl:X.fn n=true∨X.env.scope.names.lookup n=some .local:=by first | exact .inl rfl | exact .inr rfl | assumption) :
  Sn X (.ExceptHandler (some (.Name x np)) (some n) (b0::suite) hpos::hs) (SM X.K Dc i X.N.length th tr):=by
 intro pins D a T C dx H s J F5 ha hT h1 h2 yT h
 obtain⟨r,hm1,h⟩:=h
 have ok:=J.ok
 obtain⟨vs,sl,oT,ts,e5,e51,ne5,rest5⟩:=id F5
 have J6:=J.caught e5 ha h1 h2 (fun v z=>by cases z)
 refine wpAny_handleBy_cons (codeAny_handlers_test (B7 (X:=X.caught a ⟨.ref C,dx,.fields vs,sl⟩) J6 hg hm (PySem.W.Looks.here (FS J6.kIn hD cD hB hm1 e5 rfl) ?_) hdb)) (by intro z;cases z)
 cases r with
 | false=>exact hr pins D a T C dx H s J F5 ha hT h1 h2 yT h
 | true=>
  refine codeAny_handlers_suite_as (Oj F5 fun h6 S6 F6=>?_)
  have J7:Inv (X.caught a ⟨.ref C,dx,.fields vs,sl⟩) pins (List.replicate X.N.length none) H { s with heap:=h6 }:=J6.call' (ch:=[T]) (s':={ s with heap:=h6 }) rfl ((S6.un H).mono (fun b hb=>absurd hb (by simp)) fun _ z=>z)
   (S6.hok J6.hok (fun b hb=>absurd hb (by simp)) fun b hb=>by rw[List.mem_singleton.mp hb];exact hT) J.bare fun b hb=>by
    rw[List.mem_singleton.mp hb]
    obtain⟨y1,y2,y3,y4⟩:=yT
    refine⟨y1,y2,y3,fun p hp=>?_⟩
    rcases List.mem_cons.mp (show p∈(a,(⟨.ref C,dx,.fields vs,sl⟩:Obj))::(X.pn++pins) from hp) with z | z
    ·rw[z];exact Ne.symm ne5
    ·exact y4 p z
  refine Fb (X:=X.caught a ⟨.ref C,dx,.fields vs,sl⟩) J7 hN hi hlo (v:=.ref a) rfl (fun s8 J8=>?_) hfl
  refine wpAny_mono (hth a ⟨.ref C,dx,.fields vs,sl⟩ pins s8 _ H (D.lost i) J8 (h a vs sl ha)) (fun f s9 q=>?_) fun _ _ z=>False.elim z
  have go:∀{σ9:St} {H9:Hp} {Q:Unit→Shared→Prop},Inv (X.caught a ⟨.ref C,dx,.fields vs,sl⟩) pins σ9 H9 s9→(∀s10,Inv X pins (σ9.set i none) H9 s10→Q () s10)→wpAny (model X.prog X.w) X.A (do bindName X.env n .none;unbindBehindTheSuite X.env n hpos) Q X.xe s9:=fun J9 kk=>(J9.uncaught (ok:=ok)).nameGone hN hi hl (by rw[ok.kind];rfl) kk
  cases f with
  | next=>obtain⟨σ9,H9,J9,q9⟩:=q;exact go J9 fun s10 J10=>⟨_,H9,J10,q9⟩
  | brk=>obtain⟨σ9,H9,J9,q9⟩:=q;exact go J9 fun s10 J10=>⟨_,H9,J10,q9⟩
  | cont=>obtain⟨σ9,H9,J9,q9⟩:=q;exact go J9 fun s10 J10=>⟨_,H9,J10,q9⟩
  | ret u=>obtain⟨v,σ9,H9,J9,r9,q9⟩:=q;exact go J9 fun s10 J10=>⟨v,_,H9,J10,r9,q9⟩
end
end L2
namespace L2
open PySem PySem.Spec PyProof.Rows
section
variable {X:Cx} {N:List Str} {scope:Scope} {cl:List (Str×Addr)} {js:List (Option Nat)} {elt tg iter:Expr} {ifs:List Expr} {rest:List Comprehension} {pos spos ypos:Pos} {wi:TI} {g:CC→TG} {tb:CC→Addr→TS} {i:Nat} {y:Str}
variable {tg1 iter1:Expr} {ifs1:List Expr} {wi1:CC→TI} {g1:CC→TG} {tc tc1:CC→TT} {te:CC→TE}
end
end L2
namespace L2
open PySem PySem.Spec PyProof.Rows
abbrev Up (xs:Array Nat):Prop:=xs.toList.Pairwise (· < ·)
theorem Up.lt {xs:Array Nat} (u:Up xs) {i j:Nat} {a b:Nat} (h:i<j) (ha:xs[i]? = some a) (hb:xs[j]? = some b):a<b:=by
 have ha':xs.toList[i]? = some a:=by simpa using ha
 have hb':xs.toList[j]? = some b:=by simpa using hb
 obtain⟨h1,e1⟩:=List.getElem?_eq_some_iff.mp ha'
 obtain⟨h2,e2⟩:=List.getElem?_eq_some_iff.mp hb'
 have:=List.pairwise_iff_getElem.mp u i j h1 h2 h
 omega
structure Us (xs:Array Nat) (j p:Nat):Prop where
 le:p≤xs.size
 lo:∀i a,i<p→xs[i]? = some a→a<j
 hi:∀i a,p≤i→xs[i]? = some a→j≤a
theorem EY {xs:Array Nat} (u:Up xs) (j:Nat):∀(fuel lo hi:Nat),hi-lo≤fuel→lo≤hi→hi≤xs.size→(∀i a,i<lo→xs[i]? = some a→a<j)→(∀i a,hi≤i→xs[i]? = some a→j≤a)→
  Us xs j (SetTable.below.go xs j fuel lo hi)
 | 0,lo,hi,h1,h2,h3,h4,h5=>by
  have e:lo=hi:=by omega
  subst e
  exact⟨h3,h4,h5⟩
 | fuel+1,lo,hi,h1,h2,h3,h4,h5=>by
  unfold SetTable.below.go
  by_cases hlt:lo<hi
  ·rw[if_pos hlt]
   have hm:(lo+hi) / 2<xs.size:=by omega
   have eg:xs[(lo+hi) / 2]? = some xs[(lo+hi) / 2]:=Array.getElem?_eq_getElem hm
   have ed:xs.getD ((lo+hi) / 2) j=xs[(lo+hi) / 2]:=by simp[Array.getD,hm]
   show Us xs j (if xs.getD ((lo+hi) / 2) j<j then _ else _)
   rw[ed]
   split
   ·rename_i hl
    refine EY u j fuel ((lo+hi) / 2+1) hi (by omega) (by omega) h3 (fun i a hi' ha=>?_) h5
    by_cases e:i=(lo+hi) / 2
    ·subst e;rw[eg] at ha;cases ha;exact hl
    ·exact Nat.lt_trans (u.lt (show i<(lo+hi) / 2 by omega) ha eg) hl
   ·rename_i hl
    refine EY u j fuel lo ((lo+hi) / 2) (by omega) (by omega) (by omega) h4 (fun i a hi' ha=>?_)
    by_cases e:i=(lo+hi) / 2
    ·subst e;rw[eg] at ha;cases ha;omega
    ·have:=u.lt (show (lo+hi) / 2<i by omega) eg ha
     omega
  ·rw[if_neg hlt]
   have e:lo=hi:=by omega
   subst e
   exact⟨h3,h4,h5⟩
theorem Fg {xs:Array Nat} (u:Up xs) (j:Nat):Us xs j (SetTable.below xs j):=
 EY u j xs.size 0 xs.size (by omega) (Nat.zero_le _) (Nat.le_refl _) (fun i a h=>absurd h (Nat.not_lt_zero _)) fun i a h e=>by
  have:=(Array.getElem?_eq_some_iff.mp e).1
  omega
theorem IS {xs:Array Nat} (u:Up xs) {i a:Nat} (h:xs[i]? = some a):SetTable.below xs (a+1)=i+1:=by
 have b:=Fg u (a+1)
 have hi:i<xs.size:=(Array.getElem?_eq_some_iff.mp h).1
 have h1:i<SetTable.below xs (a+1):=by
  rcases Nat.lt_or_ge i (SetTable.below xs (a+1)) with q | q
  ·exact q
  ·have:=b.hi i a q h
   omega
 rcases Nat.lt_or_ge (i+1) (SetTable.below xs (a+1)) with q | q
 ·have hs:i+1<xs.size:=Nat.lt_of_lt_of_le q b.le
  have e2:=Array.getElem?_eq_getElem hs
  have:=b.lo (i+1) _ q e2
  have:=u.lt (Nat.lt_succ_self i) h e2
  omega
 ·omega
theorem Ka {xs:Array Nat} (u:Up xs):SetTable.below xs 0=0:=by
 have b:=Fg u 0
 rcases Nat.eq_zero_or_pos (SetTable.below xs 0) with q | q
 ·exact q
 ·have hs:0<xs.size:=Nat.lt_of_lt_of_le q b.le
  have:=b.lo 0 _ q (Array.getElem?_eq_getElem hs)
  omega
theorem Mj {xs:Array Nat} (u:Up xs) {j:Nat} (h:xs[SetTable.below xs j]?≠some j):Up (SetTable.insertAt xs (SetTable.below xs j) j):=by
 have b:=Fg u j
 generalize SetTable.below xs j=p at b h
 unfold Up
 rw[SetTable.toList_insertAt]
 have e1:∀x∈xs.toList.take p,x<j:=fun x hx=>by
  obtain⟨i,hi⟩:=List.mem_iff_getElem?.mp hx
  rw[List.getElem?_take] at hi
  split at hi
  ·rename_i hlt
   exact b.lo i x hlt (by simpa using hi)
  ·cases hi
 have e2:∀x∈xs.toList.drop p,j<x:=fun x hx=>by
  obtain⟨i,hi⟩:=List.mem_iff_getElem?.mp hx
  rw[List.getElem?_drop] at hi
  have hi':xs[p+i]? = some x:=by simpa using hi
  have:=b.hi (p+i) x (Nat.le_add_right _ _) hi'
  have ne:x≠j:=fun e=>by
   subst e
   cases i with
   | zero=>exact h hi'
   | succ i=>
    have hp:p<xs.size:=by
     have:=(Array.getElem?_eq_some_iff.mp hi').1
     omega
    have eg:=Array.getElem?_eq_getElem hp
    have h3:=b.hi p _ (Nat.le_refl _) eg
    have h4:=u.lt (show p<p+(i+1) by omega) eg hi'
    omega
  omega
 have u':(xs.toList.take p++xs.toList.drop p).Pairwise (· < ·):=by rw[List.take_append_drop];exact u
 obtain⟨p1,p2,p3⟩:=List.pairwise_append.mp u'
 refine List.pairwise_append.mpr ⟨p1,List.pairwise_cons.mpr ⟨e2,p2⟩,fun x hx y hy=>?_⟩
 rcases List.mem_cons.mp hy with q | q
 ·rw[q];exact e1 x hx
 ·exact Nat.lt_trans (e1 x hx) (e2 y q)
theorem OP (n:Nat):Up (Array.range n):=by
 unfold Up
 rw[Array.toList_range]
 exact List.pairwise_lt_range
end L2
namespace L2
open PySem PySem.Spec PyProof.Rows
structure TabOk (Bi:Bool) (t:SetTable):Prop where
 dum:t.dummies = #[]
 led:t.led = !Bi
 up:Up t.place
structure Ei (Bi:Bool) (t:SetTable):Prop where
 led:t.led = !Bi
 up:Up t.place
theorem TabOk.it {Bi:Bool} {t:SetTable} (h:TabOk Bi t):Ei Bi t:=⟨h.led,h.up⟩
theorem TabOk.plain_off {Bi:Bool} {t:SetTable} (h:TabOk Bi t):TabOk Bi { t with plain:=false }:=⟨h.dum,h.led,h.up⟩
theorem TabOk.standIn {Bi:Bool} {t:SetTable} (h:TabOk Bi t) (n:Nat):TabOk Bi (t.standIn n):=⟨rfl,h.led,OP n⟩
theorem TabOk.orStandIn {Bi:Bool} {t:SetTable} (h:TabOk Bi t) (n:Nat):TabOk Bi (t.orStandIn n):=by
 unfold SetTable.orStandIn
 split
 ·exact h
 ·exact h.standIn n
theorem TabOk.fresh (Bi:Bool) (led:Bool) (e:led = !Bi):TabOk Bi (.fresh 0 0 led):=⟨rfl,e,List.Pairwise.nil⟩
theorem Kw (j:Nat):SetTable.has #[] j=false:=by
 unfold SetTable.has
 simp
theorem Fs (t:SetTable) (p:SetTable.Probe):(t.advance p).dummy=p.dummy:=by
 unfold SetTable.advance
 split
 ·rfl
 ·rfl
theorem HJ {t:SetTable} (hd:t.dummies = #[]) {hashAt:Nat→Int} {h:Int} {j:Nat} {d:Option Nat}:∀(fuel:Nat) (p:SetTable.Probe),p.dummy=none→SetTable.probe.go t hashAt h fuel p=some (.empty j d)→d=none∧t.place[SetTable.below t.place j]?≠some j
 | 0,_,_,e=>by cases e
 | fuel+1,p,hp,e=>by
  unfold SetTable.probe.go at e
  have hs:∀j,t.slot j=if t.place[SetTable.below t.place j]? == some j then .live (SetTable.below t.place j) else .empty:=fun j=>by
   unfold SetTable.slot
   rw[hd,Kw]
   rfl
  rw[hs] at e
  split at e
  ·rename_i hlive
   split at hlive
   ·cases hlive
   ·rename_i hne
    injection e with e
    injection e with e1 e2
    subst e1
    refine⟨by rw[←e2,hp],fun z=>hne (by rw[z];simp)⟩
  ·rename_i hlive
   split at hlive<;>cases hlive
  ·split at e
   ·cases e
   ·exact HJ hd fuel _ (by rw[Fs];exact hp) e
theorem TabOk.layNew {Bi:Bool} {t:SetTable} (ok:TabOk Bi t) (es:Array (Int×Value)) (h:Int) (x:Value):TabOk Bi (layNew t es h x).2.1:=by
 unfold PySem.layNew
 cases ef:t.freeSlot h with
 | none=>exact ok.standIn _
 | some sw=>
  obtain⟨slot,wd⟩:=sw
  show TabOk Bi ((t.put slot).1.orStandIn _)
  refine TabOk.orStandIn ?_ _
  unfold SetTable.freeSlot at ef
  split at ef
  ·rename_i j dummy eq
   have:=HJ ok.dum _ _ rfl eq
   obtain⟨rfl,hne⟩:=this
   injection ef with ef
   injection ef with e1 e2
   have e1':j=slot:=e1
   subst e1'
   unfold SetTable.put
   refine⟨?_,ok.led,Mj ok.up hne⟩
   show (if SetTable.has t.dummies j then _ else t.dummies) = #[]
   rw[ok.dum,Kw]
   rfl
  ·cases ef
theorem TabOk.relayAll {Bi:Bool} {t:SetTable} (ok:TabOk Bi t) (es:Array (Int×Value)) (wanted:Nat):TabOk Bi (relayAll t es wanted).2.1:=by
 unfold PySem.relayAll
 cases er:t.relaid (es.map (·.1)) wanted with
 | none=>exact ok.standIn _
 | some to=>
  obtain⟨t',order⟩:=to
  dsimp only
  split
  ·unfold SetTable.relaid SetTable.laid at er
   cases eo:SetTable.layClean (SetTable.sizeAbove wanted-1) (es.map (·.1)) with
   | none=>rw[eo] at er;cases er
   | some owner=>
    rw[eo] at er
    injection er with er
    injection er with e1 e2
    subst e1
    refine⟨rfl,ok.led,?_⟩
    show (List.map (fun x:Nat×Nat=>x.fst) (List.filterMap (fun j=>Option.map (fun x=>(j,x)) (owner.getD j none)) (List.range (SetTable.sizeAbove wanted-1+1)))).toArray.toList.Pairwise (· < ·)
    rw[List.toList_toArray]
    rw[List.map_filterMap]
    refine List.Pairwise.filterMap _ (R:=(· < ·)) ?_ List.pairwise_lt_range
    intro a a' hlt b hb b' hb'
    have f:∀{a b:Nat},Option.map (fun x:Nat×Nat=>x.1) (Option.map (fun x=>(a,x)) (owner.getD a none))=some b→b=a:=fun {a b} e=>by
     cases q:owner.getD a none with
     | none=>rw[q] at e;cases e
     | some y=>rw[q] at e;injection e with e;exact e.symm
    rw[f hb,f hb']
    exact hlt
  ·exact ok.standIn _
end L2
namespace L2
open PySem PySem.Spec PyProof.Rows
def AG (e:Int×Value):Int:=match e.2 with | .int k _=>k | _=>0
def EGood (l:List (Int×Value)):Prop:=∀e∈l,e.1=hashInt (AG e)∧∃t,e.2= .int (AG e) t
abbrev Bi (w:World):Bool:=w.params.followText "set-order"
def SetIs (w:World) (h:Heap) (a:Addr) (ks:List Int):Prop:=
 ∃o es ep t,h.get? a=some o∧o.ExactSet∧o.data= .set es ep t∧EGood es.toList∧es.toList.map AG=ks∧ks.Nodup∧ks.length<2000∧TabOk (Bi w) t∧t.fits es.size=true
theorem SetIs.keep {w:World} {h h':Heap} {a:Addr} {ks:List Int} (x:SetIs w h a ks) (k:∀o,h.get? a=some o→h'.get? a=some o):SetIs w h' a ks:=by
 obtain⟨o,es,ep,t,ho,r⟩:=x
 exact⟨o,es,ep,t,k o ho,r⟩
def SetIt (w:World) (h:Heap) (a:Addr) (ks:List Int):Prop:=
 ∃o es ep t,h.get? a=some o∧o.ExactSet∧o.data= .set es ep t∧EGood es.toList∧es.toList.map AG=ks∧ks.Nodup∧ks.length<2000∧Ei (Bi w) t∧t.fits es.size=true
theorem SetIs.it {w:World} {h:Heap} {a:Addr} {ks:List Int} (x:SetIs w h a ks):SetIt w h a ks:=by
 obtain⟨o,es,ep,t,h1,h2,h3,h4,h5,h6,h7,h8,h9⟩:=x
 exact⟨o,es,ep,t,h1,h2,h3,h4,h5,h6,h7,h8.it,h9⟩
theorem SetIt.keep {w:World} {h h':Heap} {a:Addr} {ks:List Int} (x:SetIt w h a ks) (k:∀o,h.get? a=some o→h'.get? a=some o):SetIt w h' a ks:=by
 obtain⟨o,es,ep,t,ho,r⟩:=x
 exact⟨o,es,ep,t,k o ho,r⟩
section
variable {prog:Program} {w:World} {A:Around} {E:Value→Shared→Prop} {s:Shared} {a:Addr} {ks:List Int} {k:Int} {tk:Tok}
theorem EGood.elems {l:List (Int×Value)} (h:EGood l):ElemsOf (intKind prog w) l:=fun e he=>by
 obtain⟨h1,t,h2⟩:=h e he
 refine⟨⟨AG e,?_,h1⟩,?_⟩
 ·rw[h2];exact intKind_is _ _ _ _
 ·rw[h2];rfl
theorem EGood.is {l:List (Int×Value)} (h:EGood l) {e:Int×Value} (he:e∈l) {j:Int}:(intKind prog w).is j e.2=true↔j=AG e:=by
 obtain⟨_,t,h2⟩:=h e he
 constructor
 ·intro q
  exact (intKind prog w).inj e.2 j (AG e) q (by rw[h2];exact intKind_is _ _ _ _)
 ·rintro rfl
  rw[h2]
  exact intKind_is _ _ _ _
theorem Ce {es:Array (Int×Value)} (e:es.toList.map AG=ks):es.size=ks.length:=by rw[←e,List.length_map,Array.length_toList]
theorem Di {h:Heap} {o:Obj} {es es':Array (Int×Value)} {ep:Nat} {t t':SetTable} (ho:h.get? a=some o) (hex:o.ExactSet) (hd:o.data= .set es ep t) (g:EGood es'.toList) (nd:(es'.toList.map AG).Nodup) (hl:es'.size<2000) (ok:TabOk (Bi w) t') (hf:t'.fits es'.size=true) :
  (h.update a (Obj.putSet es' t')).get? a=some { o with data:=.set es' (ep+1) t' }∧SetIs w (h.update a (Obj.putSet es' t')) a (es'.toList.map AG):=by
 have hg:(h.update a (Obj.putSet es' t')).get? a=some { o with data:=.set es' (ep+1) t' }:=by
  have:=Heap.get?_update_self (Obj.putSet es' t') ho (by rw[putSet_of es' t' hd];rfl)
  rw[putSet_of es' t' hd] at this;exact this
 exact⟨hg,_,es',ep+1,t',hg,hex,rfl,g,rfl,nd,by rw[List.length_map,Array.length_toList];exact hl,ok,hf⟩
theorem BO {n:Nat} (h:n<2000):n<scanBound:=by unfold scanBound;omega
theorem IC {g:Bool→Sem Unit} (hg:∀(b:Bool) (s₁:Shared) (Q':Unit→Shared→Prop),Q' () s₁→wpAny (model prog w) A (g b) Q' E s₁)
  {o:Obj} {es es1:Array (Int×Value)} {ep:Nat} {t t2:SetTable} (ho:s.heap.get? a=some o) (hex:o.ExactSet) (hd:o.data= .set es ep t) (g1:EGood es1.toList) (nd:(es1.toList.map AG).Nodup) (hl:es1.size<2000) (ok:TabOk (Bi w) t2) (hf:t2.fits es1.size=true) {wasDummy:Bool} {R:Option Bool→Shared→Prop}
  (h:∀h' ks',Heap.SameBut a s.heap h'→SetIs w h' a ks'→ks'.Perm (es1.toList.map AG)→R (some true) { s with heap:=h' }) :
  wpAny (model prog w) A (do
    storeSet a es1 t2
    if (!wasDummy && t2.tooFull)=true then do
      g (relayAll t2 es1 (SetTable.grown es1.size)).2.2
      storeSet a (relayAll t2 es1 (SetTable.grown es1.size)).1 (relayAll t2 es1 (SetTable.grown es1.size)).2.1
      pure (some true)
     else pure (some true)) R E s:=by
 refine wpAny_bind (wpAny_storeSet_of ho hd ?_ (fits_of_scanBound (BO hl)))
 obtain⟨ho1,hS1⟩:=Di (w:=w) ho hex hd g1 nd hl ok hf
 have hsb1:=Heap.SameBut.update s.heap a (Obj.putSet es1 t2)
 split
 ·have hp:=relayAll_perm t2 es1 (SetTable.grown es1.size)
  have hfr:=relayAll_fits t2 es1 (SetTable.grown es1.size)
  have okr:=ok.relayAll es1 (SetTable.grown es1.size)
  generalize hRl:relayAll t2 es1 (SetTable.grown es1.size)=Rl at hp hfr okr ⊢
  obtain⟨es2,t3,gave2⟩:=Rl
  dsimp only at hp hfr okr ⊢
  have hsz:es2.size=es1.size:=by rw[←Array.length_toList,hp.length_eq,Array.length_toList]
  have hb2:es2.size<2000:=by rw[hsz];exact hl
  have g2:EGood es2.toList:=fun e he=>g1 e (hp.mem_iff.mp he)
  refine wpAny_bind (hg _ _ _ ?_)
  refine wpAny_bind (wpAny_storeSet_of ho1 rfl ?_ (fits_of_scanBound (BO hb2)))
  obtain⟨_,hS2⟩:=Di (w:=w) ho1 hex rfl g2 ((hp.map AG).nodup_iff.mpr nd) hb2 okr hfr
  exact wpAny_pure (h _ _ (hsb1.trans (Heap.SameBut.update _ a _)) hS2 (hp.map AG))
 ·exact wpAny_pure (h _ _ hsb1 hS1 (List.Perm.refl _))
theorem GU {Q:Bool→Shared→Prop} (hS:SetIs w s.heap a ks) (hroom:ks.length+1<2000)
  (h:∀h' ks',Heap.SameBut a s.heap h'→SetIs w h' a ks'→(∀j,j∈ks'↔j∈ks∨j=k)→ks'.length≤ks.length+1→Q (!decide (k∈ks)) { s with heap:=h' }) :
  wpAny (model prog w) A (setAddHashed a (.int k tk) (hashInt k)) Q E s:=by
 obtain⟨o,es,ep,t,ho,hex,hd,hg,hk,nd,hl,ok,hf⟩:=id hS
 have hsz:=Ce hk
 have hkey:(intKind prog w).is k (.int k tk)=true:=intKind_is _ _ _ _
 unfold setAddHashed setAddHashedIn
 refine wpAny_holding (wpAny_bind (wpAny_setState_of ho hd hf ?_))
 dsimp only
 rw[byScan_of (knd:=intKind prog w) rfl (by rw[hsz];exact BO hl) hg.elems]
 simp only[↓reduceIte]
 unfold setAddByScan
 refine wpAny_bind ?_
 refine wpAny_bind (wpAny_rule ?_)
 refine wpAny_bind (wpAny_setScan_of (knd:=intKind prog w) hkey ho hd hf hg.elems ?_)
 cases hr:List.findIdx? (fun e=>(intKind prog w).is k e.2) es.toList with
 | some j=>
  dsimp only
  obtain⟨hj,hpj,_⟩:=List.findIdx?_eq_some_iff_getElem.mp hr
  have hmem:k∈ks:=by
   rw[←hk,(hg.is (List.getElem_mem hj)).mp hpj]
   exact List.mem_map_of_mem (List.getElem_mem hj)
  refine wpAny_pure (wpAny_pure ?_)
  have e:s={ s with heap:=s.heap }:=by cases s;rfl
  have:=h s.heap ks (Heap.SameBut.refl a s.heap) hS (fun j=>⟨.inl,fun z=>z.elim id fun z=>z ▸ hmem⟩) (Nat.le_succ _)
  rw[decide_eq_true hmem] at this;rw[e];exact this
 | none=>
  dsimp only
  have hmem:k∉ks:=fun z=>by
   rw[←hk] at z
   obtain⟨e,he,rfl⟩:=List.mem_map.mp z
   have:=List.findIdx?_eq_none_iff.mp hr e he
   rw[(hg.is he).mpr rfl] at this
   cases this
  have hgw:∀(b:Bool) {s₁:Shared} {Q':Unit→Shared→Prop},Q' () s₁→wpAny (model prog w) A (match b with | true=>rule "set.scan.the-table-gave-way" | false=>pure ()) Q' E s₁:=
   fun b s₁ Q' hq=>by cases b<;>first | exact wpAny_pure hq | exact wpAny_rule hq
  have hperm:=layNew_perm t es (hashInt k) (.int k tk)
  have hfits:=layNew_fits t es (hashInt k) (.int k tk)
  have ok1:=ok.layNew es (hashInt k) (.int k tk)
  generalize hL:layNew t es (hashInt k) (.int k tk)=L at hperm hfits ok1
  have hL':layNew t es ((intKind prog w).hash k) (.int k tk)=L:=hL
  show wpAny (model prog w) A _ _ E s
  obtain⟨es1,t1,wasDummy,gave⟩:=L
  simp only[hL]
  dsimp only at hperm hfits ok1 ⊢
  rw[Array.toList_push] at hperm
  have hg1:EGood es1.toList:=fun e he=>by
   rcases List.mem_append.mp (hperm.mem_iff.mp he) with z | z
   ·exact hg e z
   ·rw[List.mem_singleton.mp z]
    exact⟨rfl,tk,rfl⟩
  have hpk:(es1.toList.map AG).Perm (ks++[k]):=by
   have:=hperm.map AG
   rw[List.map_append,hk] at this
   exact this
  have nd1:(es1.toList.map AG).Nodup:=hpk.nodup_iff.mpr (List.nodup_append.mpr ⟨nd,List.nodup_cons.mpr ⟨by simp,List.nodup_nil⟩,fun x hx y hy=>by rw[List.mem_singleton.mp hy];intro z;subst z;exact hmem hx⟩)
  have hl1:es1.size<2000:=by
   have:=hpk.length_eq
   rw[List.length_map,Array.length_toList,List.length_append] at this
   rw[this]
   exact hroom
  refine wpAny_bind (hgw _ ?_)
  have hend:∀h' ks',Heap.SameBut a s.heap h'→SetIs w h' a ks'→ks'.Perm (es1.toList.map AG)→Q true { s with heap:=h' }:=by
   intro h' ks' hsb hS' hp'
   have hq:=hp'.trans hpk
   have:=h h' ks' hsb hS' (fun j=>by rw[hq.mem_iff,List.mem_append,List.mem_singleton]) (by rw[hq.length_eq,List.length_append];exact Nat.le_refl _)
   rw[decide_eq_false hmem] at this
   exact this
  split
  ·refine wpAny_bind ?_
   rw[hashByValue_scannable 8 (x:=.int k tk) rfl]
   refine wpAny_pure ?_
   refine IC ?_ ho hex hd hg1 nd1 hl1 ?_ ?_ ?_
   ·intro b s₁ Q' hq;cases b<;>first | exact wpAny_pure hq | exact wpAny_rule hq
   ·split
    ·exact ok1
    ·exact ok1.plain_off
   ·split
    ·exact hfits
    ·exact SetTable.fits_plain_off hfits
   ·intro h' ks' hsb hS' hp';dsimp only;exact wpAny_pure (hend h' ks' hsb hS' hp')
  ·refine wpAny_bind (wpAny_pure ?_)
   simp only[↓reduceIte]
   refine IC ?_ ho hex hd hg1 nd1 hl1 ok1 hfits ?_
   ·intro b s₁ Q' hq;cases b<;>first | exact wpAny_pure hq | exact wpAny_rule hq
   ·intro h' ks' hsb hS' hp';dsimp only;exact wpAny_pure (hend h' ks' hsb hS' hp')
end
end L2
namespace L2
open PySem PySem.Spec PyProof.Rows
abbrev A9 (w:World):Obj:={ cls:=.type "set",dict:=none,data:=.set #[] 0 (.fresh 0 0 (!Bi w)) }
theorem set0_is {w:World} {h:Heap}:SetIs w (h.push (A9 w)) h.objs.size []:=
 ⟨_,#[],0,_,Heap.get?_push_size _ rfl,⟨rfl,rfl,rfl⟩,rfl,fun e he=>absurd he (by simp),rfl,List.nodup_nil,by decide,TabOk.fresh _ _ rfl,rfl⟩
section
variable {prog:Program} {w:World} {A:Around} {E:Value→Shared→Prop} {s:Shared} {a:Addr} {ks:List Int} {k:Int} {tk:Tok}
theorem SetIs.typeIs (hS:SetIs w s.heap a ks):s.TypeIs (.ref a) "set":=let ⟨o,_,_,_,ho,hc,_⟩:=hS;⟨o,ho,hc.1⟩
theorem SetIs.noDict (hS:SetIs w s.heap a ks):∀b,Value.ref a= .ref b→∃ob,s.heap.get? b=some ob∧ob.dict=none:=
 fun b e=>by injection e with e;subst e;exact let ⟨o,_,_,_,ho,hc,_⟩:=hS;⟨o,ho,hc.2.1⟩
theorem SetIt.typeIs (hS:SetIt w s.heap a ks):s.TypeIs (.ref a) "set":=let ⟨o,_,_,_,ho,hc,_⟩:=hS;⟨o,ho,hc.1⟩
theorem Ir {vs:List Value} (hv:vs=[]∨∃x,vs=[x]) {Q₁:Value→Shared→Prop}
  (h:Q₁ (.ref s.heap.objs.size) { s with heap:=s.heap.push (A9 w) }) :
  codeAny (model prog w) A (.call (.builtin "set.__new__") ⟨.type "set"::vs,[]⟩) (wants Q₁ E) s:=by
 have hn:checkBuiltinCall "set.__new__" ⟨.type "set"::vs,[]⟩=pure ():=by
  rcases hv with rfl | ⟨x,rfl⟩
  ·exact F.newCall_set_0
  ·exact F.newCall_set_1 x
 refine codeAny_of_tree ?_
 show wpAny _ A.in1 (do checkBuiltinCall "set.__new__" ⟨.type "set"::vs,[]⟩;again (.builtin "set.__new__" ⟨.type "set"::vs,[]⟩)) _ _ s
 refine wpAny_bind (wpAny_of_eq hn (wpAny_pure ⟨plainId_quiet F.plain_set_new _,codeAny_builtin F.entry_set_new ?_⟩))
 rw[Around.under_plainId F.plain_set_new _]
 have hsub:=sub_set_self
 obtain⟨hp,g,d,tk,os⟩:=s
 rcases hv with rfl | ⟨x,rfl⟩
 all_goals
  unfold Builtin.«set.__new__» Builtin.Frozenset.newClass
  dsimp only
  wp_walk
  refine wpAny_askSetting (wpAny_pure ?_)
  dsimp only
  simp only[newObj]
  refine wpAny_bind (wpAny_alloc (wpAny_pure ?_))
  exact wpAny_pure h
set_option maxHeartbeats 1000000 in
theorem Os {Q:Value→Shared→Prop} (h:Q (.ref s.heap.objs.size) { s with heap:=s.heap.push (A9 w) }):wpAny (model prog w) A (call (.type "set") []) Q E s:=by
 obtain⟨c,tl,hmro⟩:=F.called_set.mro
 have hmade:=F.called_set.made
 have hsub:=F.called_set.sub
 refine wpAny_call (codeAny_of_tree ?_)
 show wpAny _ _ (callAny (.type "set") _) _ _ _
 refine wpAny_pure ⟨Code.quiet_builtin _ (by decide +kernel),codeAny_builtin F.entry_type_call ?_⟩
 rw[Around.under_plain (weight_type_call_type "set" [] []) rfl]
 have h1:=F.called_set.notType
 have h2:=F.called_set.canCreate
 have hct:=F.typeCall_set_0
 repeat (any_goals (first | assumption | wp_step))
 refine codeAny_mono (Ir (E:=E) (.inl rfl) (Q₁:=fun obj s₁=>obj= .ref s.heap.objs.size∧s₁={ s with heap:=s.heap.push (A9 w) }) ⟨rfl,rfl⟩) fun r s₁ hr=>?_
 cases r with
 | error e=>exact hr
 | ok fl=>
  cases fl with
  | ret obj=>
   obtain⟨rfl,rfl⟩:=hr
   have hS:(s.heap.push (A9 w)).get? s.heap.objs.size=some (A9 w):=Heap.get?_push_size _ rfl
   have hT:Shared.TypeIs { s with heap:=s.heap.push (A9 w) } (.ref s.heap.objs.size) "set":=⟨_,hS,rfl⟩
   have hli:=F.called_set.init.lookup
   have hbi:=F.called_set.init.bind (.ref s.heap.objs.size)
   repeat (any_goals (first | assumption | wp_step))
   refine codeAny_mono (codeAny_call_builtin (R:=wants (fun r s₂=>r= .none∧Q (.ref s.heap.objs.size) s₂) E) F.called_set.init.plain F.entry_set_init (check_set_init hT ?_)) fun r₂ s₂ hr₂=>?_
   ·unfold Builtin.«set.__init__» noKeywords
    wp_walk
    exact⟨rfl,h⟩
   ·cases r₂ with
    | error e=>exact hr₂
    | ok fl₂=>
     cases fl₂ with
     | ret r=>
      obtain⟨rfl,hQ⟩:=hr₂
      repeat (any_goals (first | assumption | wp_step))
     | _=>exact hr₂.elim
  | _=>exact hr.elim
theorem Id {Q:Value→Shared→Prop} (hS:SetIs w s.heap a ks) (hroom:ks.length+1<2000)
  (h:∀h' ks',Heap.SameBut a s.heap h'→SetIs w h' a ks'→(∀j,j∈ks'↔j∈ks∨j=k)→ks'.length≤ks.length+1→Q .none { s with heap:=h',toks:=s.toks+1 }) :
  wpAny (model prog w) A (call (.builtin "set.add") [.ref a,.int k tk]) Q E s:=by
 refine wpAny_call_entry F.slot_set_add hS.typeIs F.entry_set_add ?_ (F.args_set_add_2 _ _)
 unfold Builtin.«set.add» Builtin.Frozenset.oneOther
 simp only[List.isEmpty_nil,bind_assoc]
 unfold Builtin.Frozenset.addrOf setAdd
 refine wpAny_bind (wpAny_pure ?_)
 try dsimp only
 refine wpAny_bind (wpAny_pure ?_)
 try dsimp only
 refine wpAny_bind ?_
 refine wpAny_holding ?_
 refine wpAny_bind ((intKind prog w).pyHash (k:=k) (intKind_is _ _ _ _) ?_)
 refine GU (s:={ s with toks:=s.toks+1 }) hS hroom fun h' ks' hsb hS' hm hl=>?_
 show wpAny _ _ (ret Value.none) _ _ _
 exact wpAny_pure ⟨_,rfl,h h' ks' hsb hS' hm hl⟩
end
end L2
namespace L2
open PySem PySem.Spec PyProof.Rows
theorem slot_setit_next:Slot "set_iterator" "__next__" "set_iterator.__next__":=
 .of (owner:="set_iterator") (n:="__next__") (by rw[typeLookup_type,builtinLookup_eq_fast];kernel_rfl) (by decide +kernel) (by decide +kernel) (by decide +kernel)
  (by first | exact .inl (by decide +kernel) | exact .inr (by decide +kernel)) (by rw[isSubtype_type];kernel_rfl)
theorem B4:entryFor table "set_iterator.__next__"=some Builtin.«set_iterator.__next__»:=entryFor_of_tree (by kernel_rfl)
theorem Cj (a:Value):argsOk "set_iterator.__next__" ⟨[a],[]⟩:=by unfold argsOk;kernel_rfl
theorem Fm:entryFor table "set.__iter__"=some Builtin.«frozenset.__iter__»:=entryFor_alias (id':="frozenset.__iter__") (by kernel_rfl) rfl (by decide +kernel) (by kernel_rfl)
theorem Cl:Slot "set_iterator" "__iter__" "set_iterator.__iter__":=
 .of (owner:="set_iterator") (n:="__iter__") (by rw[typeLookup_type,builtinLookup_eq_fast];kernel_rfl) (by decide +kernel) (by decide +kernel) (by decide +kernel)
  (by first | exact .inl (by decide +kernel) | exact .inr (by decide +kernel)) (by rw[isSubtype_type];kernel_rfl)
theorem DN:entryFor table "set_iterator.__iter__"=some Builtin.«dict_keyiterator.__iter__»:=entryFor_alias (id':="dict_keyiterator.__iter__") (by kernel_rfl) rfl (by decide +kernel) (by kernel_rfl)
theorem Ep (a:Value):argsOk "set_iterator.__iter__" ⟨[a],[]⟩:=by unfold argsOk;kernel_rfl
theorem slot_set_len':Slot "set" "__len__" "set.__len__":=
 .of (owner:="set") (n:="__len__") (by rw[typeLookup_type,builtinLookup_eq_fast];kernel_rfl) (by decide +kernel) (by decide +kernel) (by decide +kernel)
  (by first | exact .inl (by decide +kernel) | exact .inr (by decide +kernel)) (by rw[isSubtype_type];kernel_rfl)
end L2
namespace L2
open PySem PySem.Spec PyProof.Rows
inductive Mh (w:World) (a:Addr) (es:Array (Int×Value)) (ep:Nat) (t:SetTable) (h:Heap):(Nat→Value)→List Value→Prop where
 | text:Bi w=true→Mh w a es ep t h (fun _=>rawInt 0) ((pickOrder (w.params.setOrder a ep) es).toList.map (·.2))
 | led:Bi w=false→(!t.plain && decide (es.size>1))=false→Mh w a es ep t h (fun i=>rawInt (((if i=0 then 0 else t.place.getD (i-1) 0+1:Nat)):Int)) (es.toList.map (·.2))
 | drw (T:Addr) (o:Obj) (c:Nat) (ps:List Nat):Bi w=false→h.get? T=some o→o.data= .seq (ps.map fun (i:Nat)=>rawInt i).toArray c→(∀p∈ps,p<es.size)→Mh w a es ep t h (fun _=>.ref T) (ps.map fun p=>(es.getD p (0,.none)).2)
def ItAt (h:Heap) (it a:Addr) (first:Value) (i n ep:Nat):Prop:=∃o,h.get? it=some o∧o.cls= .type "set_iterator"∧o.data= .fields #[first,rawInt i,.ref a,rawInt n,rawInt ep]
theorem ItAt.typeIs {s:Shared} {it a:Addr} {first:Value} {i n ep:Nat} (x:ItAt s.heap it a first i n ep):s.TypeIs (.ref it) "set_iterator":=let ⟨o,ho,hc,_⟩:=x;⟨o,ho,hc⟩
section
variable {prog:Program} {w:World} {A:Around} {E:Value→Shared→Prop} {s:Shared} {a it:Addr} {o:Obj} {es:Array (Int×Value)} {ep i:Nat} {t:SetTable} {fst:Nat→Value} {ord:List Value}
theorem KR {h:Heap} {first f2:Value} {n:Nat} (x:ItAt h it a first i n ep):ItAt ((h.update it (Obj.mapFields (·.setIfInBounds 0 f2))).update it (Obj.mapFields (·.setIfInBounds 1 (rawInt ((i:Int)+1))))) it a f2 (i+1) n ep:=by
 obtain⟨o,ho,hc,hd⟩:=x
 have h1:=Heap.get?_update_self (Obj.mapFields (·.setIfInBounds 0 f2)) ho (Obj.isFreed_of_fields (Obj.data_mapFields hd _))
 have hd1:=Obj.data_mapFields hd (·.setIfInBounds 0 f2)
 refine⟨_,Heap.get?_update_self _ h1 (Obj.isFreed_of_fields (Obj.data_mapFields hd1 _)),(Obj.cls_mapFields ..).trans ((Obj.cls_mapFields ..).trans hc),?_⟩
 rw[Obj.data_mapFields hd1]
 simp
theorem PP {h:Heap} {first:Value} {n:Nat} (x:ItAt h it a first i n ep):ItAt (h.update it (Obj.mapFields (·.setIfInBounds 1 (rawInt ((i:Int)+1))))) it a first (i+1) n ep:=by
 obtain⟨o,ho,hc,hd⟩:=x
 refine⟨_,Heap.get?_update_self _ ho (Obj.isFreed_of_fields (Obj.data_mapFields hd _)),(Obj.cls_mapFields ..).trans hc,?_⟩
 rw[Obj.data_mapFields hd]
 simp
theorem Ix {Q:Option (Value×Nat)→Shared→Prop} {slot:Nat} (ho:s.heap.get? a=some o) (hd:o.data= .set es ep t) (ok:Ei (Bi w) t) (hf:t.fits es.size=true) (hb:Bi w=false) (hn:(!t.plain && decide (es.size>1))=false)
  (hs:slot=if i=0 then 0 else t.place.getD (i-1) 0+1) (hi:i≤es.size) (q:Q (match es[i]?,t.place[i]? with | some (_,x),some j=>some (x,j+1) | _,_=>none) s):wpAny (model prog w) A (setNext a slot i ep) Q E s:=by
 have hpl:t.place.size=es.size:=by
  unfold SetTable.fits at hf
  exact beq_iff_eq.mp (Bool.and_eq_true_iff.mp hf).1
 have hbel:SetTable.below t.place slot=i:=by
  rw[hs]
  split
  ·rename_i e;rw[e];exact Ka ok.up
  ·rename_i e
   have h1:i-1<t.place.size:=by omega
   have eg:=Array.getElem?_eq_getElem h1
   have ed:t.place.getD (i-1) 0=t.place[i-1]:=by simp[Array.getD,h1]
   rw[ed,IS ok.up eg]
   omega
 unfold setNext setsByText
 refine wpAny_bind (wpAny_setState_of ho hd hf ?_)
 dsimp only
 refine wpAny_bind (wpAny_bind (wpAny_askSetting (wpAny_pure ?_)))
 show wpAny _ _ (if Bi w=true then _ else _) _ _ _
 rw[hb,if_neg Bool.false_ne_true]
 show wpAny _ _ (if (!t.plain && decide (es.size>1))=true then _ else _) _ _ _
 rw[hn,if_neg Bool.false_ne_true]
 refine wpAny_bind ?_
 show wpAny _ _ (if (!t.led && !es.isEmpty)=true then _ else _) _ _ _
 rw[ok.led,hb,if_neg (by simp)]
 refine wpAny_pure ?_
 rw[hbel]
 exact wpAny_pure q
theorem FE {Q:Option (Value×Nat)→Shared→Prop} {slot:Nat} (ho:s.heap.get? a=some o) (hd:o.data= .set es ep t) (hf:t.fits es.size=true) (hb:Bi w=true)
  (q:Q (((pickOrder (w.params.setOrder a ep) es)[i]?).map fun e=>(e.2,slot)) s):wpAny (model prog w) A (setNext a slot i ep) Q E s:=by
 unfold setNext setsByText
 refine wpAny_bind (wpAny_setState_of ho hd hf ?_)
 dsimp only
 refine wpAny_bind (wpAny_bind (wpAny_askSetting (wpAny_pure ?_)))
 show wpAny _ _ (if Bi w=true then _ else _) _ _ _
 rw[hb,if_pos rfl]
 show wpAny _ _ (if (ep != ep)=true then _ else _) _ _ _
 rw[if_neg (by simp)]
 refine wpAny_bind ?_
 unfold setWalk setsByText
 refine wpAny_bind (wpAny_setState_of ho hd hf ?_)
 dsimp only
 refine wpAny_bind (wpAny_bind (wpAny_askSetting (wpAny_pure ?_)))
 show wpAny _ _ (if Bi w=true then _ else _) _ _ _
 rw[hb,if_pos rfl]
 refine wpAny_bind (wpAny_askSetting ?_)
 exact wpAny_pure (wpAny_pure q)
theorem Mc {Q:Value→Shared→Prop} {p:Nat} {e:Int×Value} (ho:s.heap.get? a=some o) (hd:o.data= .set es ep t) (hf:t.fits es.size=true) (hp:es[p]? = some e) (q:Q e.2 s):wpAny (model prog w) A (setNextDrawn a p ep) Q E s:=by
 unfold setNextDrawn
 refine wpAny_bind (wpAny_setState_of ho hd hf ?_)
 dsimp only
 show wpAny _ _ (if (ep != ep)=true then _ else _) _ _ _
 rw[if_neg (by simp)]
 simp only[hp]
 exact wpAny_pure q
theorem Mz {x:Value} {Q:Option Value→Shared→Prop} (hit:ItAt s.heap it a (fst i) i es.size ep) (ho:s.heap.get? a=some o) (hd:o.data= .set es ep t) (ok:Ei (Bi w) t) (hf:t.fits es.size=true) (M:Mh w a es ep t s.heap fst ord) (hx:ord[i]? = some x) (hl:ord.length=es.size)
  (hQ:∀h',ItAt h' it a (fst (i+1)) (i+1) es.size ep→Heap.SameBut it s.heap h'→Q (some x) { s with heap:=h' }):wpAny (model prog w) A (pyNext (.ref it)) Q E s:=by
 obtain⟨oi,hoi,hci,hdi⟩:=id hit
 have hix:i<es.size:=by rw[←hl];exact (List.getElem?_eq_some_iff.mp hx).1
 unfold pyNext
 refine wpAny_bind (wpAny_attempt (wpAny_callSpecial?_slot (name:=Str.ofString "__next__") hit.typeIs slot_setit_next
  (wpAny_call_entry slot_setit_next hit.typeIs B4 ?_ (Cj _))))
 show wpAny _ _ (fieldsOf (.ref it) >>= _) _ _ s
 refine wpAny_bind (wpAny_fieldsOf hoi hdi ?_)
 show wpAny _ _ (setEntries a >>= _) _ _ s
 refine wpAny_bind (wpAny_setEntries_of ho hd hf ?_)
 show wpAny _ _ (if (((es.size:Nat):Int) != ((es.size:Nat):Int))=true then _ else _) _ _ _
 rw[if_neg (by simp)]
 have hd1:=fun f2:Value=>Obj.data_mapFields hdi (·.setIfInBounds 0 f2)
 have ho1:=fun f2:Value=>Heap.get?_update_self (Obj.mapFields (·.setIfInBounds 0 f2)) hoi (Obj.isFreed_of_fields (hd1 f2))
 cases M with
 | text hb=>
  rw[List.getElem?_map] at hx
  obtain⟨e,he,rfl⟩:=Option.map_eq_some_iff.mp hx
  have he':(pickOrder (w.params.setOrder a ep) es)[i]? = some e:=by simpa using he
  refine wpAny_bind (FE (i:=i) (ep:=ep) ho hd hf hb ?_)
  rw[he']
  refine wpAny_bind (wpAny_setField hoi hdi (by simp) ?_)
  refine wpAny_bind (wpAny_setField (ho1 _) (hd1 _) (by simp) (wpAny_pure ⟨e.2,rfl,wpAny_pure (hQ _ (KR hit) ((Heap.SameBut.update ..).trans (Heap.SameBut.update ..)))⟩))
 | led hb hn=>
  rw[List.getElem?_map] at hx
  obtain⟨e,he,rfl⟩:=Option.map_eq_some_iff.mp hx
  have he':es[i]? = some e:=by simpa using he
  have hpl:t.place.size=es.size:=by
   unfold SetTable.fits at hf
   exact beq_iff_eq.mp (Bool.and_eq_true_iff.mp hf).1
  have hp1:i<t.place.size:=by omega
  have hp:t.place[i]? = some t.place[i]:=Array.getElem?_eq_getElem hp1
  have ed:t.place.getD i 0=t.place[i]:=by simp[Array.getD,hp1]
  refine wpAny_bind (Ix (i:=i) (ep:=ep) ho hd ok hf hb hn rfl (Nat.le_of_lt hix) ?_)
  rw[he',hp]
  refine wpAny_bind (wpAny_setField hoi hdi (by simp) ?_)
  refine wpAny_bind (wpAny_setField (ho1 _) (hd1 _) (by simp) (wpAny_pure ⟨e.2,rfl,wpAny_pure (hQ _ ?_ ((Heap.SameBut.update ..).trans (Heap.SameBut.update ..)))⟩))
  have e2:rawInt (((if i+1=0 then 0 else t.place.getD (i+1-1) 0+1:Nat)):Int)=rawInt ((t.place[i]+1:Nat):Int):=by rw[if_neg (by omega),Nat.add_sub_cancel,ed]
  show ItAt _ it a (rawInt (((if i+1=0 then 0 else t.place.getD (i+1-1) 0+1:Nat)):Int)) (i+1) es.size ep
  rw[e2]
  exact KR hit
 | drw T oT c ps hb hT hdT hps=>
  rw[List.getElem?_map] at hx
  obtain⟨p,hp,rfl⟩:=Option.map_eq_some_iff.mp hx
  have hpe:p<es.size:=hps p (List.mem_of_getElem? hp)
  have ee:es[p]? = some es[p]:=Array.getElem?_eq_getElem hpe
  have ed:es.getD p (0,.none)=es[p]:=by simp[Array.getD,hpe]
  show wpAny _ _ (seqItems? (.ref T) >>= _) _ _ _
  refine wpAny_bind (wpAny_seqItems hT hdT ?_)
  have hpi:((ps.map fun (i:Nat)=>rawInt i).toArray)[i]? = some (rawInt p):=by simp[hp]
  simp only[Int.toNat_natCast,hpi]
  refine wpAny_bind (Mc (p:=p) ho hd hf ee ?_)
  refine wpAny_bind (wpAny_setField hoi hdi (by simp) (wpAny_pure ⟨_,rfl,wpAny_pure ?_⟩))
  rw[ed] at hQ
  exact hQ _ (PP hit) (Heap.SameBut.update ..)
theorem Oq {Q:Option Value→Shared→Prop} (hh:A.handled=none) (hit:ItAt s.heap it a (fst es.size) es.size es.size ep) (ho:s.heap.get? a=some o) (hd:o.data= .set es ep t) (ok:Ei (Bi w) t) (hf:t.fits es.size=true) (M:Mh w a es ep t s.heap fst ord) (hl:ord.length=es.size)
  (hQ:∀h',Heap.ExtBut it s.heap h'→Q none { s with heap:=h' }):wpAny (model prog w) A (pyNext (.ref it)) Q E s:=by
 obtain⟨oi,hoi,hci,hdi⟩:=id hit
 unfold pyNext
 refine wpAny_bind (wpAny_attempt (wpAny_callSpecial?_slot (name:=Str.ofString "__next__") hit.typeIs slot_setit_next
  (wpAny_call_entry slot_setit_next hit.typeIs B4 ?_ (Cj _))))
 show wpAny _ _ (fieldsOf (.ref it) >>= _) _ _ s
 refine wpAny_bind (wpAny_fieldsOf hoi hdi ?_)
 show wpAny _ _ (setEntries a >>= _) _ _ s
 refine wpAny_bind (wpAny_setEntries_of ho hd hf ?_)
 show wpAny _ _ (if (((es.size:Nat):Int) != ((es.size:Nat):Int))=true then _ else _) _ _ _
 rw[if_neg (by simp)]
 have hd1:=fun f2:Value=>Obj.data_mapFields hdi (·.setIfInBounds 0 f2)
 have ho1:=fun f2:Value=>Heap.get?_update_self (Obj.mapFields (·.setIfInBounds 0 f2)) hoi (Obj.isFreed_of_fields (hd1 f2))
 cases M with
 | text hb=>
  have he':(pickOrder (w.params.setOrder a ep) es)[es.size]? = none:=by
   rw[List.length_map,Array.length_toList] at hl
   simp[hl]
  refine wpAny_bind (FE (i:=es.size) (ep:=ep) ho hd hf hb ?_)
  rw[he']
  refine wpAny_bind (wpAny_setField hoi hdi (by simp) ?_)
  refine wpAny_bind ?_
  simp only[newExc,newTuple]
  refine wpAny_bind (wpAny_newObj_type ?_ (by size_fits))
  refine wpAny_bind (m:=firstArgMember _ _) (wpAny_of_eq (a:=Value.none) (by first | rfl | (simp only[firstArgMember];rfl)) ?_)
  refine wpAny_newObj_type ?_ (by size_fits)
  simp only[raiseNew]
  refine wpAny_bind (wpAny_handled ?_)
  rw[show A.in1.handled=none from hh]
  refine wpAny_bind (wpAny_pure (wpAny_throw ?_))
  refine wpAny_bind (wpAny_isInstance (T:="StopIteration") (b:=true) ⟨_,Heap.get?_push_size _ rfl,rfl⟩ isSubtype_stop ?_)
  exact wpAny_pure (hQ _ (((Heap.SameBut.update ..).extBut.push _).push _))
 | led hb hn=>
  have he':es[es.size]? = none:=by simp
  refine wpAny_bind (Ix (i:=es.size) (ep:=ep) ho hd ok hf hb hn rfl (Nat.le_refl _) ?_)
  rw[he']
  refine wpAny_bind (wpAny_setField hoi hdi (by simp) ?_)
  refine wpAny_bind ?_
  simp only[newExc,newTuple]
  refine wpAny_bind (wpAny_newObj_type ?_ (by size_fits))
  refine wpAny_bind (m:=firstArgMember _ _) (wpAny_of_eq (a:=Value.none) (by first | rfl | (simp only[firstArgMember];rfl)) ?_)
  refine wpAny_newObj_type ?_ (by size_fits)
  simp only[raiseNew]
  refine wpAny_bind (wpAny_handled ?_)
  rw[show A.in1.handled=none from hh]
  refine wpAny_bind (wpAny_pure (wpAny_throw ?_))
  refine wpAny_bind (wpAny_isInstance (T:="StopIteration") (b:=true) ⟨_,Heap.get?_push_size _ rfl,rfl⟩ isSubtype_stop ?_)
  exact wpAny_pure (hQ _ (((Heap.SameBut.update ..).extBut.push _).push _))
 | drw T oT c ps hb hT hdT hps=>
  rw[List.length_map] at hl
  show wpAny _ _ (seqItems? (.ref T) >>= _) _ _ _
  refine wpAny_bind (wpAny_seqItems hT hdT ?_)
  have hpi:((ps.map fun (i:Nat)=>rawInt i).toArray)[es.size]? = none:=by simp[hl]
  simp only[Int.toNat_natCast,hpi]
  refine wpAny_bind (wpAny_setField hoi hdi (by simp) ?_)
  refine wpAny_bind (wpAny_setField (ho1 _) (hd1 _) (by simp) ?_)
  refine wpAny_bind ?_
  simp only[newExc,newTuple]
  refine wpAny_bind (wpAny_newObj_type ?_ (by size_fits))
  refine wpAny_bind (m:=firstArgMember _ _) (wpAny_of_eq (a:=Value.none) (by first | rfl | (simp only[firstArgMember];rfl)) ?_)
  refine wpAny_newObj_type ?_ (by size_fits)
  simp only[raiseNew]
  refine wpAny_bind (wpAny_handled ?_)
  rw[show A.in1.handled=none from hh]
  refine wpAny_bind (wpAny_pure (wpAny_throw ?_))
  refine wpAny_bind (wpAny_isInstance (T:="StopIteration") (b:=true) ⟨_,Heap.get?_push_size _ rfl,rfl⟩ isSubtype_stop ?_)
  exact wpAny_pure (hQ _ ((((Heap.SameBut.update ..).trans (Heap.SameBut.update ..)).extBut.push _).push _))
end
end L2
namespace L2
open PySem PySem.Spec PyProof.Rows
theorem Cb {α:Type}:∀(l:List α) (i:Nat) (h:i<l.length),(l[i]::l.eraseIdx i).Perm l
 | x::xs,0,_=>List.Perm.refl _
 | x::xs,i+1,h=>by
  have h':i<xs.length:=Nat.lt_of_succ_lt_succ h
  exact (List.Perm.swap x xs[i] (xs.eraseIdx i)).trans (List.Perm.cons x (Cb xs i h'))
theorem Fx {α:Type} (next:Nat→Nat):∀(fuel k:Nat) (left:List α) (out:Array α),fuel=left.length→(pickOrder.go next fuel k left out).toList.Perm (out.toList++left)
 | 0,_,left,out,h=>by
  have e:left=[]:=List.length_eq_zero_iff.mp h.symm
  subst e
  unfold pickOrder.go
  simp
 | fuel+1,k,left,out,h=>by
  unfold pickOrder.go
  have hp:0<left.length:=by omega
  have hi:next k%left.length<left.length:=Nat.mod_lt _ hp
  rw[List.getElem?_eq_getElem hi]
  have hl:fuel=(left.eraseIdx (next k%left.length)).length:=by rw[List.length_eraseIdx,if_pos hi];omega
  refine (Fx next fuel (k+1) _ _ hl).trans ?_
  rw[Array.toList_push,List.append_assoc]
  exact List.Perm.append_left _ (Cb _ _ hi)
theorem Cw {α:Type} (next:Nat→Nat) (xs:Array α):(pickOrder next xs).toList.Perm xs.toList:=by
 unfold pickOrder
 have:=Fx next xs.size 0 xs.toList #[] (Array.length_toList).symm
 simpa using this
section
variable {prog:Program} {w:World} {A:Around} {E:Value→Shared→Prop} {s:Shared} {a it T0:Addr} {o oT:Obj} {es:Array (Int×Value)} {ep i:Nat} {t:SetTable} {fst:Nat→Value} {ord:List Value} {ks:List Int}
theorem GV {M:Model} {src:Source} {n:Nat} {Q:Nat→Shared→Prop} (hn:n≠0) (h:∀i,i<n→Q i { s with drawn:=s.drawn.bump src }):wpAny M A (choose src n) Q E s:=
 fun Γ p _=>⟨hn,h _ (Nat.mod_lt _ (Nat.pos_of_ne_zero hn))⟩
theorem Jv {α:Type} {M:Model}:∀(n:Nat) (xs:List α) (s:Shared) (Q:List α→Shared→Prop),xs.length=n→(∀ys d',ys.Perm xs→Q ys { s with drawn:=d' })→wpAny M A (drawOrder n xs) Q E s:=by
 intro n
 induction n with
 | zero=>
  intro xs s Q h q
  have e:xs=[]:=List.length_eq_zero_iff.mp h
  subst e
  exact wpAny_pure (q [] s.drawn (List.Perm.refl _))
 | succ n ih=>
  intro xs s Q h q
  cases xs with
  | nil=>exact absurd h (Nat.succ_ne_zero n).symm
  | cons x xs=>
   unfold drawOrder
   refine wpAny_bind (GV (by simp) fun i hi=>?_)
   rw[List.getElem?_eq_getElem hi]
   have hl:((x::xs).eraseIdx i).length=n:=by rw[List.length_eraseIdx,if_pos hi,h];rfl
   refine wpAny_bind (ih _ _ _ hl fun ys d' hp=>?_)
   exact wpAny_pure (q _ d' ((List.Perm.cons _ hp).trans (Cb _ _ hi)))
structure SQ (w:World) (s:Shared) (a:Addr) (ks:List Int) (h':Heap) (it T0:Addr) (o oT:Obj) (es:Array (Int×Value)) (ep:Nat) (t:SetTable) (fst:Nat→Value) (ord:List Value):Prop where
 lo:s.heap.objs.size≤it
 kk:∀b o,s.heap.get? b=some o→h'.get? b=some o
 at':ItAt h' it a (fst 0) 0 es.size ep
 ho:h'.get? a=some o
 hd:o.data= .set es ep t
 ok:Ei (Bi w) t
 hf:t.fits es.size=true
 hT:h'.get? T0=some oT
 ne:T0≠it
 md:∀h'',h''.get? T0=some oT→Mh w a es ep t h'' fst ord
 pm:ord.Perm (es.toList.map (·.2))
 eg:EGood es.toList
 ek:es.toList.map AG=ks
 tl:T0=a∨s.heap.objs.size≤T0
theorem NS {Q:Value→Shared→Prop} (hS:SetIt w s.heap a ks) (hQ:∀h' d' it T0 o oT es ep t fst ord,SQ w s a ks h' it T0 o oT es ep t fst ord→Q (.ref it) { s with heap:=h',drawn:=d' }):wpAny (model prog w) A (pyIter (.ref a)) Q E s:=by
 obtain⟨o,es,ep,t,ho,hex,hd,hg,hk,nd,hl,ok,hf⟩:=id hS
 have hna:a<s.heap.objs.size:=Heap.lt_size ho
 refine wpAny_pyIter_slot hS.typeIs PySem.F.slot_set_iter (wpAny_call_entry PySem.F.slot_set_iter hS.typeIs Fm ?_ (PySem.F.args_set_iter_1 _))
 show wpAny _ _ (Builtin.Frozenset.sizeOf a >>= _) _ _ s
 refine wpAny_bind ?_
 unfold Builtin.Frozenset.sizeOf
 refine wpAny_bind (wpAny_setEntries_of ho hd hf (wpAny_pure ?_))
 refine wpAny_bind ?_
 unfold setDrawn setsByText
 refine wpAny_bind (wpAny_setState_of ho hd hf ?_)
 dsimp only
 refine wpAny_bind (wpAny_bind (wpAny_askSetting (wpAny_pure (wpAny_pure ?_))))
 show wpAny _ _ (if (!Bi w && (!t.plain && decide (es.size>1)))=true then _ else _) _ _ _
 by_cases hdr:(!Bi w && (!t.plain && decide (es.size>1)))=true
 ·rw[if_pos hdr]
  have hb:Bi w=false:=by
   cases q:Bi w with
   | false=>rfl
   | true=>rw[q] at hdr;cases hdr
  refine wpAny_bind (Jv _ _ _ _ (List.length_range) fun ps d' hp=>?_)
  refine wpAny_bind (wpAny_newTuple ?_ (by rw[List.length_map,hp.length_eq,List.length_range,Ce hk];exact Nat.le_of_lt (Nat.lt_trans hl (by decide))))
  have kk:∀b ob,s.heap.get? b=some ob→(s.heap.push { cls:=.type "tuple",data:=.seq (ps.map fun (i:Nat)=>rawInt i).toArray }).get? b=some ob:=fun b ob e=>Heap.get?_push_of_some _ e
  refine wpAny_bind ?_
  unfold setEpoch
  refine wpAny_bind (wpAny_setState_of (kk _ _ ho) hd hf (wpAny_pure ?_))
  refine wpAny_bind (wpAny_newObj_type (wpAny_pure ⟨_,rfl,"set_iterator",_,⟨_,Heap.get?_push_size _ rfl,rfl⟩,slot_setit_next.lookup,?_⟩))
  refine hQ _ d' _ s.heap.objs.size o _ es ep t (fun _=>.ref s.heap.objs.size) _ ⟨?_,fun b ob e=>Heap.get?_push_of_some _ (kk b ob e),⟨_,Heap.get?_push_size _ rfl,rfl,rfl⟩,Heap.get?_push_of_some _ (kk _ _ ho),hd,ok,hf,Heap.get?_push_of_some _ (Heap.get?_push_size _ rfl),?_,fun h'' e=>.drw _ _ _ ps hb e rfl ?_,?_,hg,hk,.inr (Nat.le_refl _)⟩
  ·rw[Heap.size_push];exact Nat.le_succ _
  ·rw[Heap.size_push];exact Nat.ne_of_lt (Nat.lt_succ_self _)
  ·exact fun p hp'=>List.mem_range.mp (hp.mem_iff.mp hp')
  ·refine (hp.map _).trans ?_
   have e:(List.range es.size).map (fun p=>(es.getD p (0,.none)).2)=es.toList.map (·.2):=by
    refine List.ext_getElem (by simp) fun n h1 h2=>?_
    have hn:n<es.size:=by simpa using h1
    simp[Array.getD,hn]
   rw[e]
 ·rw[if_neg hdr]
  refine wpAny_bind (wpAny_pure ?_)
  refine wpAny_bind ?_
  unfold setEpoch
  refine wpAny_bind (wpAny_setState_of ho hd hf (wpAny_pure ?_))
  refine wpAny_bind (wpAny_newObj_type (wpAny_pure ⟨_,rfl,"set_iterator",_,⟨_,Heap.get?_push_size _ rfl,rfl⟩,slot_setit_next.lookup,?_⟩))
  have kk:∀b ob,s.heap.get? b=some ob→(s.heap.push { cls:=.type "set_iterator",data:=.fields #[rawInt 0,rawInt 0,.ref a,rawInt es.size,rawInt ep] }).get? b=some ob:=fun b ob e=>Heap.get?_push_of_some _ e
  cases hb:Bi w with
  | true=>
   refine hQ _ s.drawn _ a o o es ep t (fun _=>rawInt 0) _ ⟨Nat.le_refl _,kk,⟨_,Heap.get?_push_size _ rfl,rfl,rfl⟩,kk _ _ ho,hd,ok,hf,kk _ _ ho,Nat.ne_of_lt hna,fun h'' e=>.text hb,(Cw _ _).map _,hg,hk,.inl rfl⟩
  | false=>
   rw[hb] at hdr
   refine hQ _ s.drawn _ a o o es ep t (fun i=>rawInt (((if i=0 then 0 else t.place.getD (i-1) 0+1:Nat)):Int)) _ ⟨Nat.le_refl _,kk,⟨_,Heap.get?_push_size _ rfl,rfl,rfl⟩,kk _ _ ho,hd,ok,hf,kk _ _ ho,Nat.ne_of_lt hna,fun h'' e=>.led hb (by simpa using hdr),List.Perm.refl _,hg,hk,.inl rfl⟩
theorem OS (hh:A.handled=none) {ks:List Int} {s0:Shared} {h0:Heap} (I:SQ w s0 a ks h0 it T0 o oT es ep t fst ord):Walks prog w A it [it,a,T0] [it] es.size (fun i v=>ord[i]? = some v) (fun i h=>ItAt h it a (fst i) i es.size ep∧h.get? a=some o∧h.get? T0=some oT):=by
 have hl:ord.length=es.size:=by rw[I.pm.length_eq,List.length_map,Array.length_toList]
 have na:a≠it:=fun e=>by
  obtain⟨oi,h1,_,h3⟩:=I.at'
  subst e
  rw[I.ho] at h1;cases h1
  rw[I.hd] at h3;cases h3
 refine⟨fun b hb=>by simp at hb;simp[hb],fun i h h' st k=>?_,fun i s Q E hi st hQ=>?_,fun s Q E st hQ=>?_,fun i s Q E st hQ=>?_⟩
 ·obtain⟨⟨oi,h1,r⟩,h2,h3⟩:=st
  exact⟨⟨oi,k it (by simp) _ h1,r⟩,k a (by simp) _ h2,k T0 (by simp) _ h3⟩
 ·obtain⟨h1,h2,h3⟩:=st
  have hx:ord[i]? = some ord[i]:=List.getElem?_eq_getElem (by omega)
  refine Mz h1 h2 I.hd I.ok I.hf (I.md _ h3) hx hl fun h' it' sb=>?_
  exact hQ _ h' s.toks hx ⟨it',(sb.2 a na).trans h2,(sb.2 T0 I.ne).trans h3⟩ fun b ob hb e=>(sb.2 b (by simpa using hb)).trans e
 ·obtain⟨h1,h2,h3⟩:=st
  refine Oq hh h1 h2 I.hd I.ok I.hf (I.md _ h3) hl fun h' eb=>?_
  exact hQ h' s.toks fun b ob hb e=>eb b ob (by simpa using hb) e
 ·obtain⟨h1,h2,h3⟩:=st
  refine wpAny_pyIter_slot h1.typeIs Cl (wpAny_call_entry Cl h1.typeIs DN ?_ (Ep _))
  exact wpAny_pure ⟨_,rfl,"set_iterator",_,h1.typeIs,slot_setit_next.lookup,hQ⟩
end
end L2
namespace L2
open PySem PySem.Spec PyProof.Rows
theorem Oz {es:Array (Int×Value)} {ord:List Value} {ks:List Int} (pm:ord.Perm (es.toList.map (·.2))) (eg:EGood es.toList) (ek:es.toList.map AG=ks):∃ns,IntsAre ord ns∧ns.Perm ks:=by
 let vk:Value→Int:=fun v=>match v with | .int k _=>k | _=>0
 have each:∀v∈ord,∃t,v= .int (vk v) t:=fun v hv=>by
  obtain⟨e,he,rfl⟩:=List.mem_map.mp (pm.mem_iff.mp hv)
  obtain⟨_,t,h2⟩:=eg e he
  exact⟨t,h2⟩
 refine⟨ord.map vk,?_,?_⟩
 ·clear pm
  induction ord with
  | nil=>exact .nil
  | cons v r ih=>
   obtain⟨t,e⟩:=each v List.mem_cons_self
   have:=ih fun x hx=>each x (List.mem_cons_of_mem _ hx)
   rw[List.map_cons]
   generalize vk v=k at e
   subst e
   exact .cons k t this
 ·refine (pm.map vk).trans ?_
  rw[List.map_map,←ek]
  exact List.Perm.refl _
section
variable {prog:Program} {w:World} {A:Around} {E:Value→Shared→Prop} {s:Shared} {a:Addr} {ks:List Int}
theorem N9 {Q:Bool→Shared→Prop} (hS:SetIt w s.heap a ks) (q:Q false s):wpAny (model prog w) A (Builtin.List.listLengthHint (.ref a)) Q E s:=by
 unfold Builtin.List.listLengthHint
 refine wpAny_bind (wpAny_specialOf hS.typeIs slot_set_len'.lookup ?_)
 have hsp:splitId "set.__len__"=some ("set","__len__"):=by decide +kernel
 simp only[hsp]
 refine wpAny_bind (wpAny_isInstance hS.typeIs sub_set_self ?_)
 rw[if_neg (by simp)]
 show wpAny _ _ (typeOf (.ref a) >>= _) _ _ _
 refine wpAny_bind (wpAny_typeOf hS.typeIs ?_)
 exact wpAny_pure q
theorem IB {Q:List Value→Shared→Prop} (hh:A.handled=none) (hS:SetIt w s.heap a ks) (hQ:∀(s':Shared) (acc:List Value) (ns:List Int),s.heap.objs.size≤s'.heap.objs.size→(∀b o,s.heap.get? b=some o→s'.heap.get? b=some o)→s'.gens=s.gens→s'.os=s.os→IntsAre acc ns→ns.Perm ks→Q acc s') :
  wpAny (model prog w) A (collect (.ref a)) Q E s:=by
 obtain⟨o0,es0,ep0,t0,ho0,_,_,_,hk0,_,hl0,_⟩:=id hS
 have hlt:a<s.heap.objs.size:=Heap.lt_size ho0
 unfold collect
 refine wpAny_bind (wpAny_runValue (codeAny_builtin F.entry_proto_collect ?_))
 rw[Around.under_plainId F.plain_proto_collect _]
 show wpAny _ A.in1 (newList [] >>= fun l=>again (.builtin "list.__iadd__" ⟨[l,.ref a],[]⟩)) _ _ s
 refine wpAny_bind (wpAny_newObj_type ?_)
 refine wpAny_pure ⟨plainId_quiet F.plain_list_iadd _,codeAny_builtin F.entry_list_iadd ?_⟩
 rw[Around.under_plainId F.plain_list_iadd _]
 have kk1:∀b ob,s.heap.get? b=some ob→(s.heap.push { cls:=.type "list",data:=.seq ([]:List Value).toArray }).get? b=some ob:=fun b ob e=>Heap.get?_push_of_some _ e
 have hS1:SetIt w ({ s with heap:=s.heap.push { cls:=.type "list",data:=.seq ([]:List Value).toArray } }:Shared).heap a ks:=hS.keep fun ob e=>kk1 _ _ e
 show wpAny _ A.in1 (Builtin.List.listExtendWith (.ref s.heap.objs.size) (.ref a) (.ref s.heap.objs.size)) _ _ _
 unfold Builtin.List.listExtendWith
 refine wpAny_bind (wpAny_typeOf hS1.typeIs ?_)
 have h1:Builtin.List.listSameRef (.ref s.heap.objs.size) (.ref a)=false:=by simp[Builtin.List.listSameRef];exact Nat.ne_of_gt hlt
 have h2:(Value.type "set" == Value.type "list")=false:=by decide
 have h3:(Value.type "set" == Value.type "tuple")=false:=by decide
 simp only[h1,h2,h3,Bool.or_false,Bool.false_eq_true,if_false]
 refine wpAny_bind (NS hS1 fun h' d' it T0 o oT es ep t fst ord I=>?_)
 have hS2:SetIt w ({ s with heap:=h',drawn:=d' }:Shared).heap a ks:=hS1.keep fun ob e=>I.kk _ _ e
 refine wpAny_bind (wpAny_holding (N9 (s:={ s with heap:=h',drawn:=d' }) hS2 ?_))
 show wpAny _ A.in1 (rule "list.extend.makes-room" >>= fun _=>Builtin.List.listTouch (.ref s.heap.objs.size) >>= fun _=>
  again (.builtin "list.extend.loop" ⟨[.ref s.heap.objs.size,.ref it,.ref s.heap.objs.size],[]⟩)) _ _ _
 refine wpAny_bind (wpAny_rule ?_)
 have hS₁:h'.get? s.heap.objs.size=some { cls:=.type "list",data:=.seq ([]:List Value).toArray }:=I.kk _ _ (Heap.get?_push_size _ rfl)
 refine wpAny_bind ?_
 show wpAny _ A.in1 (updateSeq s.heap.objs.size (·.push .none) >>= fun _=>updateSeq s.heap.objs.size (·.pop)) _ _ _
 refine wpAny_bind (wpAny_updateSeq hS₁ rfl ?_)
 have hS₂:=Heap.get?_update_self (Obj.mapSeq (·.push Value.none)) hS₁ rfl
 refine wpAny_updateSeq hS₂ rfl ?_
 have hS₃:=Heap.get?_update_self (Obj.mapSeq (·.pop)) hS₂ rfl
 have oth:∀b ob,b≠s.heap.objs.size→h'.get? b=some ob→((h'.update s.heap.objs.size (Obj.mapSeq (·.push Value.none))).update s.heap.objs.size (Obj.mapSeq (·.pop))).get? b=some ob:=
  fun b ob hb e=>(Heap.get?_update_other _ _ (Ne.symm hb)).trans ((Heap.get?_update_other _ _ (Ne.symm hb)).trans e)
 have esz:({ s with heap:=s.heap.push { cls:=.type "list",data:=.seq ([]:List Value).toArray } }:Shared).heap.objs.size=s.heap.objs.size+1:=Heap.size_push _ _
 have nit:it≠s.heap.objs.size:=Nat.ne_of_gt (by have:=I.lo;rw[esz] at this;exact this)
 have nT:T0≠s.heap.objs.size:=by
  rcases I.tl with z | z
  ·rw[z];exact Nat.ne_of_lt hlt
  ·exact Nat.ne_of_gt (by rw[esz] at z;exact z)
 have hSf:s.heap.objs.size∉[it,a,T0]:=by
  simp only[List.mem_cons,List.not_mem_nil,or_false,not_or]
  exact⟨Ne.symm nit,Nat.ne_of_gt hlt,Ne.symm nT⟩
 have W:=(OS (prog:=prog) (A:=A.in1) (by simpa using hh) I).toS
 have hn:es.size≤sizeLine:=by rw[Ce I.ek];exact Nat.le_of_lt (Nat.lt_trans hl0 (by decide))
 obtain⟨oi,hoi,ri⟩:=I.at'
 refine wpAny_pure ⟨plainId_quiet F.plain_extend_loop _,codeAny_extend_loopS W hn _ hSf _ es.size 0 _ _ _ rfl (Nat.zero_le _) ⟨⟨oi,oth _ _ nit hoi,ri⟩,oth _ _ (Nat.ne_of_lt hlt) I.ho,oth _ _ nT I.hT⟩ hS₃ (ItemsOf.nil _) fun s' acc' c' hm hS' hacc=>?_⟩
 show wpAny _ A (load s.heap.objs.size >>= _) _ _ s'
 refine wpAny_bind (wpAny_load hS' ?_)
 have hl:ord.length=es.size:=by rw[I.pm.length_eq,List.length_map,Array.length_toList]
 have eo:acc'.toList=ord:=by
  refine List.ext_getElem (by rw[Array.length_toList,hacc.1,hl]) fun n h1 h2=>?_
  have hn1:n<acc'.size:=by simpa using h1
  have:ord[n]? = some acc'[n]:=hacc.2 n _ (Array.getElem?_eq_getElem hn1)
  rw[List.getElem?_eq_getElem h2] at this
  have:=Option.some.inj this
  simpa using this.symm
 obtain⟨ns,hi,hp⟩:=Oz I.pm I.eg I.ek
 refine wpAny_pure (hQ s' acc'.toList ns (Nat.le_of_lt (Heap.lt_size hS')) (fun b ob e=>?_) hm.gens hm.os (by rw[eo];exact hi) hp)
 have hb:b<s.heap.objs.size:=Heap.lt_size e
 refine hm.heap b ob ?_ (oth b ob (Nat.ne_of_lt hb) (I.kk _ _ (kk1 _ _ e)))
 simp only[List.mem_cons,List.not_mem_nil,or_false,not_or]
 exact⟨Nat.ne_of_lt hb,Nat.ne_of_lt (Nat.lt_trans hb (by have:=I.lo;rw[esz] at this;exact this))⟩
theorem JA {Q:Value→Shared→Prop} (hh:A.handled=none) (hS:SetIt w s.heap a ks) (h64:ks.length<64)
  (h:∀(s':Shared) (l:Addr) (out:Array Value) (n:Nat) (ns:List Int),(∀b o,s.heap.get? b=some o→s'.heap.get? b=some o)→s'.gens=s.gens→s'.os=s.os→s.heap.objs.size≤l→s'.heap.get? l=some (seqObj "list" out n)→IntsAre out.toList ns→ns.Perm ks→ns.Pairwise (· ≤ ·)→Q (.ref l) s') :
  wpAny (model prog w) A (call (.builtin "sorted") [.ref a]) Q E s:=by
 refine Calls.call_function_entry kind_sorted plain_sorted entry_sorted (args_sorted1 _) ?_
 unfold Builtin.«sorted»
 refine wpAny_bind (m:=checkCount "sorted" 1 1 _) (wpAny_pure ?_)
 refine wpAny_bind (IB (by simpa using hh) hS fun s1 vs ns1 lo kk eg eo hi hp=>?_)
 have hlen:vs.length<64:=by rw[IntsAre.length hi,hp.length_eq];exact h64
 refine wpAny_bind (wpAny_newList ?_ (Nat.le_of_lt (Nat.lt_trans hlen (by decide))))
 have hoL:(s1.heap.push (seqObj "list" vs.toArray 0)).get? s1.heap.objs.size=some (seqObj "list" vs.toArray 0):=Heap.get?_push_size _ rfl
 show wpAny _ _ _ _ _ { s1 with heap:=s1.heap.push (seqObj "list" vs.toArray 0) }
 refine wpAny_bind (wpAny_holding (wpAny_call_entry slot_list_sort ⟨_,hoL,rfl⟩ entry_list_sort (list_sort_tree hoL hi hlen fun out ns' a1 a2 a3=>⟨_,rfl,?_⟩) (args_list_sort _)))
 refine wpAny_pure ⟨_,rfl,?_⟩
 obtain⟨e1,ho1⟩:∃e1,((s1.heap.push (seqObj "list" vs.toArray 0)).update s1.heap.objs.size (Obj.mapSeq fun _=>#[])).get? s1.heap.objs.size=some (seqObj "list" #[] e1):=⟨_,get?_update_seq hoL (fun _=>#[])⟩
 have ho2:((((s1.heap.push (seqObj "list" vs.toArray 0)).update s1.heap.objs.size (Obj.mapSeq fun _=>#[])).push (seqObj "tuple" vs.toArray 0)).push (seqObj "list" #[] 0)).get? s1.heap.objs.size=some (seqObj "list" #[] e1):=Heap.get?_push_of_some _ (Heap.get?_push_of_some _ ho1)
 refine h _ s1.heap.objs.size out _ ns' (fun b ob e=>?_) eg eo lo (get?_update_seq ho2 (fun _=>out)) a1 (a2.trans hp) a3
 have e2:=kk b ob e
 have nb:b≠s1.heap.objs.size:=Nat.ne_of_lt (Heap.lt_size e2)
 exact (Heap.get?_update_other _ _ (Ne.symm nb)).trans (Heap.get?_push_of_some _ (Heap.get?_push_of_some _ ((Heap.get?_update_other _ _ (Ne.symm nb)).trans (Heap.get?_push_of_some _ e2))))
end
end L2
namespace L2
open PySem PySem.Spec PyProof.Rows
abbrev Bd (w:World) (a:Addr) (S:Int→Bool) (n:Nat):HO:=.ext fun h=>∃ks,SetIs w h a ks∧(∀k,S k=true↔k∈ks)∧ks.length≤n
theorem Do {P:Program} {w:World} {H:Hp} {h:Heap} {a:Addr} {S:Int→Bool} {n:Nat} {ks:List Int} (x:SetIs w h a ks) (m:∀k,S k=true↔k∈ks) (hl:ks.length≤n):ObjOk P w H h a (Bd w a S n):=
 ⟨⟨ks,x,m,hl⟩,let ⟨o,_,_,_,ho,_⟩:=x;⟨o,ho⟩,fun h1 h2 ⟨ks,y,r⟩ k=>⟨ks,y.keep k,r⟩⟩
section
variable {X:Cx}
theorem Inv.setO {pins:List (Addr×Obj)} {σ:St} {H:Hp} {s:Shared} {a:Addr} {S:Int→Bool} {n:Nat} (I:Inv X pins σ H s) (h:H a=some (Bd X.w a S n)):∃ks,SetIs X.w s.heap a ks∧(∀k,S k=true↔k∈ks)∧ks.length≤n:=(I.hok _ _ h).1
theorem LP:Bp X (.type "set") (fun xs H Q=>xs=[]∧∀a,H a=none→Q (.ref a) (upd H a (Bd X.w a (fun _=>false) 0))):=by
 intro pins s σ H xs us Q I r h
 obtain⟨rfl,q⟩:=h
 cases r
 refine Os (w:=X.w) ⟨.ref s.heap.objs.size,_,I.laid (t':=s.toks) (o:=Bd X.w s.heap.objs.size (fun _=>false) 0) (fun b ob e=>Heap.get?_push_of_some _ e) (Nat.le_refl _) ?_,rfl,q _ (I.hok.fresh (Nat.le_refl _))⟩
 exact Do set0_is (fun k=>by simp) (Nat.le_refl _)
abbrev Lu (w:World) (a:Addr) (S:Int→Bool) (n:Nat):HO:=.ext fun h=>∃ks,SetIt w h a ks∧(∀k,S k=true↔k∈ks)∧ks.length≤n
theorem PQ {P:Program} {w:World} {H:Hp} {h:Heap} {a:Addr} {S:Int→Bool} {n:Nat} {ks:List Int} (x:SetIt w h a ks) (m:∀k,S k=true↔k∈ks) (hl:ks.length≤n):ObjOk P w H h a (Lu w a S n):=
 ⟨⟨ks,x,m,hl⟩,let ⟨o,_,_,_,ho,_⟩:=x;⟨o,ho⟩,fun h1 h2 ⟨ks,y,r⟩ k=>⟨ks,y.keep k,r⟩⟩
theorem Inv.setR {pins:List (Addr×Obj)} {σ:St} {H:Hp} {s:Shared} {a:Addr} {S:Int→Bool} {n:Nat} (I:Inv X pins σ H s) (h:H a=some (Lu X.w a S n)):∃ks,SetIt X.w s.heap a ks∧(∀k,S k=true↔k∈ks)∧ks.length≤n:=(I.hok _ _ h).1
theorem Eh (hc:X.calm=true) {pins:List (Addr×Obj)} {s:Shared} {σ:St} {H:Hp} {Q:VK} {a:Addr} {ks:List Int} {S:Int→Bool} {n:Nat} (I:Inv X pins σ H s) (hS:SetIt X.w s.heap a ks) (hm:∀k,S k=true↔k∈ks) (hl:ks.length≤n) (hn:n<64)
  (q:∀(l:Addr) (ns:List Int),H l=none→ns.Pairwise (· < ·)→(∀k,k∈ns↔S k=true)→Q (.ref l) (upd H l (.lst (ns.map V.int)))):wpAny (model X.prog X.w) X.A (call (.builtin "sorted") [.ref a]) (EP X pins σ Q) X.xe s:=by
 have ndk:ks.Nodup:=let ⟨_,_,_,_,_,_,_,_,_,nd,_⟩:=hS;nd
 refine JA (w:=X.w) (I.ok.hd hc) hS (by omega) fun s' l out c ns kk eg eo lo hl' hi hp hs=>?_
 have nd:ns.Nodup:=hp.nodup_iff.mpr ndk
 have lt:ns.Pairwise (· < ·):=(List.Pairwise.and hs nd).imp fun {x y} h=>by have h1:=h.1;have h2:=h.2;omega
 have hnone:H l=none:=I.hok.fresh lo
 have old:∀b u,H b=some u→upd H l (.lst (ns.map V.int)) b=some u:=fun b u e=>by rw[Ah (Af e hnone)];exact e
 have len:(ns.map V.int).length≤sizeLine:=by
  rw[List.length_map,hp.length_eq]
  exact Nat.le_of_lt (Nat.lt_of_le_of_lt hl (Nat.lt_trans hn (by decide)))
 have un:Un (ES X.stack) [] H (upd H l (.lst (ns.map V.int))) s.heap s'.heap:=
  ⟨fun b o e _ _ _=>kk b o e,fun b o e _ _ _=>⟨o.slots,kk b o e⟩,fun b o e n _=>by rw[Ah (Nat.ne_of_lt (Nat.lt_of_lt_of_le (Heap.lt_size e) lo))];exact n,fun b o e _=>⟨o,kk b o e⟩,fun b xs e=>old b _ e,fun b o u e=>old b _ e,fun b ps e=>⟨#[],by rw[old b _ e];simp⟩⟩
 have hok:HOk X.prog X.w (upd H l (.lst (ns.map V.int))) s'.heap:=fun b u e=>by
  by_cases z:b=l
  ·subst z
   rw[upd_same] at e
   cases e
   exact⟨len,out.toList,c,DO hi,by rw[hl',Array.toArray_toList]⟩
  ·rw[Ah z] at e
   exact (I.hok b u e).stay (fun c v _ e=>kk c v e) (fun c e=>old c _ e) fun c xs e=>old c _ e
 exact⟨.ref l,_,I.call' (ch:=[]) eo un hok (by rw[eg];exact I.bare) (fun b hb=>absurd hb (by simp)),rfl,q l ns hnone lt fun k=>by rw[hp.mem_iff];exact (hm k).symm⟩
theorem Dt (hc:X.calm=true):Bp X (.builtin "sorted") (fun xs H Q=>∃a S n,xs=[.ref a]∧H a=some (Bd X.w a S n)∧n<64∧∀(l:Addr) (ns:List Int),H l=none→ns.Pairwise (· < ·)→(∀k,k∈ns↔S k=true)→Q (.ref l) (upd H l (.lst (ns.map V.int)))):=by
 intro pins s σ H xs us Q I r h
 obtain⟨a,S,n,rfl,ha,hn,q⟩:=h
 obtain⟨u,rfl,ru⟩:=BN r
 cases ru
 obtain⟨ks,hS,hm,hl⟩:=I.setO ha
 exact Eh hc I hS.it hm hl hn q
theorem Gs (hc:X.calm=true):Bp X (.builtin "sorted") (fun xs H Q=>∃a S n,xs=[.ref a]∧H a=some (Lu X.w a S n)∧n<64∧∀(l:Addr) (ns:List Int),H l=none→ns.Pairwise (· < ·)→(∀k,k∈ns↔S k=true)→Q (.ref l) (upd H l (.lst (ns.map V.int)))):=by
 intro pins s σ H xs us Q I r h
 obtain⟨a,S,n,rfl,ha,hn,q⟩:=h
 obtain⟨u,rfl,ru⟩:=BN r
 cases ru
 obtain⟨ks,hS,hm,hl⟩:=I.setR ha
 exact Eh hc I hS hm hl hn q
variable {o e:Expr} {es:List Expr} {to:TE} {t:TA} {apos cpos:Pos}
def To (X:Cx) (to:TE) (t:TA):TE:=fun σ H Q=>to σ H fun x H1=>∃a S n,x= .ref a∧H1 a=some (Bd X.w a S n)∧t σ H1 fun xs H2=>∃k S2 n2,xs=[.int k]∧H2 a=some (Bd X.w a S2 n2)∧n2+1<2000∧Q .non (upd H2 a (Bd X.w a (fun j=>S2 j || decide (j=k)) (n2+1)))
theorem PH (ho:PE X o to) (hp:PA X (e::es) t) (hbase:attributeBase o "add" X.env (eval o X.env)=eval o X.env:=by rfl)
  (hfew:((backTo cpos (starEach (e::es) X.env)).all (fun x=>!x.1) && (backToKw cpos (keywordEach [] X.env)).all (fun x=>x.1.isSome)
   && decide ((e::es).length+([]:List Keyword).length+(if ([]:List Keyword).isEmpty then 0 else 1)<30))=true:=by rfl)
  (hline:(apos.endLine == cpos.line)=true:=by rfl) (hs:starEach (e::es) X.env=(false,eval e X.env)::starEach es X.env:=by rfl) (hplain:(backTo cpos (starEach es X.env)).any (·.1)=false:=by rfl) :
  PE X (.Call (.Attribute o "add" apos) (e::es) [] cpos) (To X to t):=by
 intro pins s σ H Q I h
 refine wpAny_Call_method_late hbase hfew hline rfl (Ay (ho pins s σ H _ I h) fun v s1 ⟨x,H1,I1,r1,a,S,n,ex,ha,q1⟩=>?_)
 subst ex
 cases r1
 obtain⟨ks,hS,hm,hl⟩:=I1.setO ha
 refine⟨"set","set.add",PySem.F.plainAttrs_set,PySem.F.slot_set_add,PySem.F.type_set_add,hS.typeIs,fun b eb=>hS.noDict b eb,?_⟩
 have hA:=hp cpos pins s1 σ H1 _ I1 q1
 rw[hs] at hA ⊢
 refine Calls.callWith_builtin (by show (false || (backTo cpos (starEach es X.env)).any (·.1))=false;rw[hplain]<;>rfl) (Calls.evalArgs_plain ?_)
 refine Ay hA fun us s2 ⟨vs,H2,I2,r2,k,S2,n2,ek,ha2,hn2,q2⟩=>?_
 subst ek
 obtain⟨u,rfl,ru⟩:=BN r2
 obtain⟨tk,rfl⟩:=ru
 obtain⟨ks2,hS2,hm2,hl2⟩:=I2.setO ha2
 refine Id (w:=X.w) hS2 (by omega) fun h' ks' hsb hS' hm' hl'=>?_
 have mu:R0 (H2 a):=by rw[ha2];exact True.intro
 refine⟨.non,_,I2.write (x:=a) (e:=a) (t':=s2.toks+1) mu (.inl rfl) (fun b ob nb eb=>(hsb.2 b nb).trans eb) (let ⟨o,_,_,_,ho,_⟩:=hS';⟨o,ho⟩) (Do hS' (fun j=>?_) (by omega)),rfl,q2⟩
 rw[hm' j,Bool.or_eq_true,decide_eq_true_eq,hm2 j]
end
end L2
namespace L2
open PySem PySem.Spec PyProof.Rows
section
variable {X:Cx} {N:List Str} {scope:Scope} {cl:List (Str×Addr)} {js:List (Option Nat)} {pins:List (Addr×Obj)} {σ:St} {H:Hp} {s:Shared} {fp:List Addr}
end
section
variable {X:Cx} {N:List Str} {scope:Scope} {cl:List (Str×Addr)} {js:List (Option Nat)}
variable {elt tg iter:Expr} {ifs:List Expr} {rest:List Comprehension} {pos:Pos} {wi:TI} {g:CC→TG} {tb:CC→Addr→TS}
variable {tg1 iter1:Expr} {ifs1:List Expr} {wi1:CC→TI} {g1:CC→TG} {tc tc1:CC→TT} {te:CC→TE}
end
end L2
namespace L2
open PySem PySem.Spec PyProof.Rows
theorem Kz:∀{xs:List V} {us:List Value},xs.length=us.length→(∀(i:Nat) (x:V) (u:Value),xs[i]? = some x→us[i]? = some u→RelV x u)→Vals xs us
 | [],[],_,_=>.nil
 | [],_::_,h,_=>by cases h
 | _::_,[],h,_=>by cases h
 | x::xs,u::us,h,f=>.cons (f 0 x u rfl rfl) (Kz (Nat.succ.inj h) fun i y v hy hv=>f (i+1) y v (by simpa using hy) (by simpa using hv))
theorem Lz {α:Type} (bs:List α) (d:α):(List.range bs.length).map (fun i=>bs.getD i d)=bs:=by
 refine List.ext_getElem (by simp) fun n h1 h2=>?_
 simp[List.getD,h2]
theorem L7 (bs:List Bool):(List.range bs.length).all (fun i=>bs.getD i false)=bs.all id:=by
 have:=Lz bs false
 conv=>rhs;rw[←this]
 rw[List.all_map]
 rfl
theorem NG {prog:Program} {w:World} {A:Around} {bs:List Bool} {its:List Value} (rv:Vals (bs.map V.bl) its):TruthOf prog w A (fun i v=>its.toArray[i]? = some v) (fun i=>bs.getD i false):=by
 intro i v s Q E hv q
 have hv':its[i]? = some v:=by simpa using hv
 have hi:i<bs.length:=by
  have h1:=(List.getElem?_eq_some_iff.mp hv').1
  have:=rv.length
  rw[List.length_map] at this
  omega
 have hx:(bs.map V.bl)[i]? = some (.bl bs[i]):=by rw[List.getElem?_map,List.getElem?_eq_getElem hi];rfl
 obtain⟨u,hu,ru⟩:=rv.get hx
 rw[hv'] at hu
 cases hu
 cases (show v=Value.bool bs[i] from ru)
 refine wpAny_truthy_bool ?_
 have e:bs.getD i false=bs[i]:=by simp[List.getD,hi]
 rw[←e]
 exact q
section
variable {X:Cx}
theorem FX:Bp X (.type "range") (fun xs H Q=>∃j:Int,xs=[.int j]∧∀r,H r=none→Q (.ref r) (upd H r (.rng 0 j))):=by
 intro pins s σ H xs us Q I r h
 obtain⟨j,rfl,q⟩:=h
 obtain⟨u,rfl,ru⟩:=BN r
 obtain⟨t,rfl⟩:=ru
 refine call_range_1 ⟨.ref s.heap.objs.size,_,I.laid (o:=.rng 0 j) (fun b ob e=>Heap.get?_push_of_some _ e) (Nat.le_refl _) ?_,rfl,q _ (I.hok.fresh (Nat.le_refl _))⟩
 exact⟨_,_,_,Heap.get?_push_size _ rfl⟩
def Bv (n:Nat):List Int:=(List.range n).map fun (k:Nat)=>(k:Int)
theorem JX (hc:X.calm=true):Bp X (.type "list") (fun xs H Q=>∃(r:Addr) (n:Nat),xs=[.ref r]∧H r=some (.rng 0 (n:Int))∧n≤1000∧∀l,H l=none→Q (.ref l) (upd H l (.lst ((Bv n).map V.int)))):=by
 intro pins s σ H xs us Q I r h
 obtain⟨rr,n,rfl,hr,hn,q⟩:=h
 obtain⟨u,rfl,ru⟩:=BN r
 cases ru
 obtain⟨t,u,v,ho⟩:=(show ObjOk X.prog X.w H s.heap rr (.rng 0 (n:Int)) from I.hok rr _ hr)
 have hsz:Builtin.Range.rangeSize 0 (n:Int) 1=n:=by rw[rangeSize_one];split<;>omega
 refine call_list_range (n:=n) (I.ok.hd hc) ho (small_one (by omega) (by omega) (by omega) (by omega)) hsz (by omega) fun h' tk acc c kk hl hi=>?_
 have lo:s.heap.objs.size≤s.heap.objs.size:=Nat.le_refl _
 have hv:Vals ((Bv n).map V.int) acc.toList:=by
  have hal:acc.toList.length=n:=by rw[Array.length_toList,hi.1]
  refine Kz (by unfold Bv;simp[hal]) fun i x u hx hu=>?_
  have hin:i<n:=by
   have:=(List.getElem?_eq_some_iff.mp hu).1
   omega
  obtain⟨t,e⟩:=hi.2 i u (by simpa using hu)
  have ex:x= .int (i:Int):=by
   unfold Bv at hx
   rw[List.map_map,List.getElem?_map,List.getElem?_range hin] at hx
   exact (Option.some.inj hx).symm
  subst ex
  refine⟨t,?_⟩
  rw[e]
  congr 1
  omega
 refine⟨.ref s.heap.objs.size,_,I.laid (t':=tk) (o:=.lst ((Bv n).map V.int)) kk lo ?_,rfl,q _ (I.hok.fresh lo)⟩
 refine⟨?_,acc.toList,c,hv,by rw[hl,Array.toArray_toList]⟩
 unfold Bv
 rw[List.length_map,List.length_map,List.length_range]
 exact Nat.le_trans hn (by decide)
theorem LG (hc:X.calm=true):Bp X (.builtin "all") (fun xs H Q=>∃(l:Addr) (bs:List Bool),xs=[.ref l]∧SqL X.K H l (bs.map V.bl)∧Q (.bl (bs.all id)) H):=by
 intro pins s σ H xs us Q I r h
 obtain⟨l,bs,rfl,hq,q⟩:=h
 obtain⟨u,rfl,ru⟩:=BN r
 cases ru
 obtain⟨its,rv,pl,hz⟩:=I.list hq
 have hlt:l<s.heap.objs.size:=let ⟨o,ho,_⟩:=pl.isList;Heap.lt_size ho
 have hlen:its.length=bs.length:=by rw[←rv.length,List.length_map]
 refine call_all_walk (wpAny_pyIter_list pl.isList ⟨s.heap.objs.size,_,_,_,_,_,fun i=>bs.getD i false,rfl,Walks.list (by have:=I.ok.hd hc;simpa using this) s.heap.objs.size l (Nat.ne_of_lt hlt) its.toArray,⟨⟨_,Heap.get?_push_size _ rfl,rfl,rfl⟩,pl.isList.push _⟩,NG rv,fun h' tk kk=>?_⟩)
 have e:(List.range its.toArray.size).all (fun i=>bs.getD i false)=bs.all id:=by rw[List.size_toArray,hlen,L7]
 rw[e]
 exact⟨.bl _,H,I.kept (t':=tk) fun b ob eb=>kk b ob (by simp only[List.mem_singleton];exact Nat.ne_of_lt (Heap.lt_size eb)) (Heap.get?_push_of_some _ eb),rfl,q⟩
end
end L2
namespace L2
open PySem PySem.Spec PyProof.Rows
section
variable {prog:Program} {w:World} {A:Around} {R:Result→Shared→Prop} {I:Addr} {fp wr:List Addr} {G:Array GenState→Array GenState→Prop} {n:Nat} {P:Nat→Value→Prop} {St:Nat→Shared→Prop}
theorem Nd (W:WalksS prog w A.in1 I fp wr G n P St) (S:Addr) (hSf:S∉fp)
  (val:Nat→Int) (hval:∀i v,P i v→∃t,v= .int (val i) t) (hb:n<1000) :
  ∀(k i:Nat) (s:Shared) (ks:List Int),n-i=k→i≤n→St i s→SetIs w s.heap S ks→(∀j,j∈ks↔∃m,m<i∧val m=j)→ks.length≤i→
   (∀s' ks',Moved (S::wr) G s s'→SetIs w s'.heap S ks'→(∀j,j∈ks'↔∃m,m<n∧val m=j)→ks'.length≤n→R (.ok (.ret .none)) s')→
   codeAny (model prog w) A (.builtin "set.update.loop" ⟨[.ref S,.ref I],[]⟩) R s:=by
 have hSw:S∉wr:=fun h=>hSf (W.sub _ h)
 have hsub:∀b∈wr,b∈S::wr:=fun b hb=>List.mem_cons_of_mem _ hb
 intro k
 induction k with
 | zero=>
  intro i s ks hk hi hst hS hm0 hl0 hR
  have hin:i=n:=by omega
  subst hin
  refine codeAny_builtin F.entry_set_update_loop ?_
  rw[Around.under_plainId F.plain_set_update_loop _]
  show wpAny _ A.in1 (pyNext (.ref I) >>= _) _ _ s
  refine wpAny_bind (W.done s _ _ hst fun s' hm=>?_)
  show wpAny _ A.in1 (ret Value.none) _ _ s'
  exact wpAny_pure (hR s' ks (hm.mono hsub) (hS.keep fun o e=>hm.heap S _ hSw e) hm0 hl0)
 | succ k ih=>
  intro i s ks hk hi hst hS hm0 hl0 hR
  have hlt:i<n:=by omega
  refine codeAny_builtin F.entry_set_update_loop ?_
  rw[Around.under_plainId F.plain_set_update_loop _]
  show wpAny _ A.in1 (pyNext (.ref I) >>= _) _ _ s
  refine wpAny_bind (W.item i s _ _ hlt hst fun v s' hP hst' hm=>?_)
  obtain⟨t,rfl⟩:=hval i v hP
  have hS':SetIs w s'.heap S ks:=hS.keep fun o e=>hm.heap S _ hSw e
  show wpAny _ A.in1 (holding [Value.int (val i) t] (setAdd S (.int (val i) t)) >>= _) _ _ s'
  refine wpAny_bind (wpAny_holding ?_)
  unfold setAdd
  refine wpAny_holding ?_
  refine wpAny_bind ((intKind prog w).pyHash (k:=val i) (intKind_is _ _ _ _) ?_)
  refine GU (s:={ s' with toks:=s'.toks+1 }) hS' (by omega) fun h' ks' hsb hS2 hm2 hl2=>?_
  refine wpAny_pure ⟨plainId_quiet F.plain_set_update_loop _,ih (i+1) _ ks' (by omega) hlt (W.frame _ s' _ _ hst' (Nat.le_succ _) fun b hb o e=>?_) hS2 (fun j=>?_) (by omega) fun s'' ks'' hm'' hS'' hmm hll=>?_⟩
  ·rw[hsb.2 b (fun h:b=S=>hSf (by rw[←h];exact hb))];exact e
  ·rw[hm2 j,hm0 j]
   constructor
   ·rintro (⟨m,h1,h2⟩|h)
    ·exact⟨m,Nat.lt_succ_of_lt h1,h2⟩
    ·exact⟨i,Nat.lt_succ_self _,h.symm⟩
   ·rintro⟨m,h1,h2⟩
    rcases Nat.lt_succ_iff_lt_or_eq.mp h1 with z | z
    ·exact .inl ⟨m,z,h2⟩
    ·subst z;exact .inr h2.symm
  ·refine hR s'' ks'' (Moved.trans W.gtrans ((hm.mono hsub).then_heap (Nat.le_succ _) fun b o hb e=>?_) hm'') hS'' hmm hll
   rw[hsb.2 b (fun h:b=S=>hb (by rw[h];exact List.mem_cons_self))];exact e
end
section
variable {prog:Program} {w:World} {A:Around} {E:Value→Shared→Prop} {s:Shared}
set_option maxHeartbeats 3200000 in
theorem LE {l:Addr} {items:Array Value} {ns:List Int} {Q:Value→Shared→Prop}
  (hh:A.handled=none) (hl:s.heap.IsList l items) (hi:IntsAre items.toList ns) (hb:items.size<1000)
  (h:∀(h':Heap) (tk:Nat) (ks:List Int),SetIs w h' s.heap.objs.size ks→(∀j,j∈ks↔j∈ns)→ks.length≤ns.length→
   (∀b o,s.heap.get? b=some o→h'.get? b=some o)→Q (.ref s.heap.objs.size) { s with heap:=h',toks:=tk }) :
  wpAny (model prog w) A (call (.type "set") [.ref l]) Q E s:=by
 have hlen:ns.length=items.size:=by rw[←Array.length_toList];exact (IntsAre.length hi).symm
 obtain⟨c,tl,hmro⟩:=F.called_set.mro
 have hmade:=F.called_set.made
 have hsub:=F.called_set.sub
 refine wpAny_call (codeAny_of_tree ?_)
 show wpAny _ _ (callAny (.type "set") _) _ _ _
 refine wpAny_pure ⟨Code.quiet_builtin _ (by decide +kernel),codeAny_builtin F.entry_type_call ?_⟩
 rw[Around.under_plain (weight_type_call_type "set" [.ref l] []) rfl]
 have h1:=F.called_set.notType
 have h2:=F.called_set.canCreate
 have hct:=F.typeCall_set_1 (.ref l)
 repeat (any_goals (first | assumption | wp_step))
 refine codeAny_mono (Ir (E:=E) (.inr ⟨.ref l,rfl⟩) (Q₁:=fun obj s₁=>obj= .ref s.heap.objs.size∧s₁={ s with heap:=s.heap.push (A9 w) }) ⟨rfl,rfl⟩) fun r s₁ hr=>?_
 cases r with
 | error e=>exact hr
 | ok fl=>
  cases fl with
  | ret obj=>
   obtain⟨rfl,rfl⟩:=hr
   have hS:(s.heap.push (A9 w)).get? s.heap.objs.size=some (A9 w):=Heap.get?_push_size _ rfl
   have hT:Shared.TypeIs { s with heap:=s.heap.push (A9 w) } (.ref s.heap.objs.size) "set":=⟨_,hS,rfl⟩
   have hli:=F.called_set.init.lookup
   have hbi:=F.called_set.init.bind (.ref s.heap.objs.size)
   repeat (any_goals (first | assumption | wp_step))
   refine codeAny_mono (codeAny_call_builtin (R:=wants (fun r s₂=>r= .none∧∃h' tk ks,s₂={ s with heap:=h',toks:=tk }∧SetIs w h' s.heap.objs.size ks∧(∀j,j∈ks↔j∈ns)∧ks.length≤ns.length∧
     (∀b o,s.heap.get? b=some o→h'.get? b=some o)) E) F.called_set.init.plain F.entry_set_init (check_set_init_1 hT ?_)) fun r₂ s₂ hr₂=>?_
   ·obtain⟨ol,hol,hcl,nl,hdl⟩:=hl
    obtain⟨ocls,odict,odata,oslots⟩:=ol
    simp only at hcl hdl
    subst hcl;subst hdl
    have hol':(s.heap.push (A9 w)).get? l=some { cls:=.type "list",dict:=odict,data:=.seq items nl,slots:=oslots }:=Heap.get?_push_of_some _ hol
    have hsls:=F.sub_list_set
    have hslf:=F.sub_list_frozenset
    have hne:(Value.type "list" == Value.type "dict")=false:=by decide
    have hl1:(s.heap.push (A9 w)).IsList l items:=⟨_,hol',rfl,nl,rfl⟩
    unfold Builtin.«set.__init__» noKeywords Builtin.Frozenset.updateFrom
    generalize hPI:pyIter=PI
    wp_walk
    subst hPI
    refine wpAny_pyIter_list hl1 ?_
    refine wpAny_bind (wpAny_runValue ?_)
    have hlS:l<s.heap.objs.size:=Heap.lt_size hol
    have hh3:A.in1.in1.in1.handled=none:=by simp[hh]
    have hneI:l≠(s.heap.push (A9 w)).objs.size:=by
     rw[Heap.size_push];exact Nat.ne_of_lt (Nat.lt_succ_of_lt hlS)
    have hSf:s.heap.objs.size∉[(s.heap.push (A9 w)).objs.size,l]:=by
     rw[Heap.size_push];simp only[List.mem_cons,List.mem_singleton,List.not_mem_nil,or_false,not_or]
     exact⟨Nat.ne_of_lt (Nat.lt_succ_self _),Nat.ne_of_gt hlS⟩
    have hval:∀(i:Nat) (v:Value),items[i]? = some v→∃t,v= .int ((fun i=>ns.getD i 0) i) t:=fun i v hv=>
     IntsAre.int_at hi i v (by rw[Array.getElem?_toList];exact hv)
    refine Nd ((Walks.list hh3 _ l hneI items).toS) s.heap.objs.size
     hSf (fun i=>ns.getD i 0) hval hb (items.size-0) 0 _ [] (by omega) (Nat.zero_le _)
     ⟨⟨_,Heap.get?_push_size _ rfl,rfl,rfl⟩,(hl1.push _)⟩ ?hS0 (fun j=>by simp) (Nat.le_refl _) ?hR
    case hS0=>exact set0_is.keep fun o e=>Heap.get?_push_of_some _ e
    case hR=>
     intro s' ks hm hS' hmm hll
     obtain⟨h',g',d',tk',os'⟩:=s'
     have eg:g'=s.gens:=hm.gens
     have ed:d'=s.drawn:=hm.drawn
     have eo:os'=s.os:=hm.os
     subst eg;subst ed;subst eo
     show wpAny _ _ _ _ _ _
     refine wpAny_pure ?_
     show wpAny _ _ (ret Value.none) _ _ _
     refine wpAny_pure ⟨rfl,h',tk',ks,rfl,hS',fun j=>?_,by omega,fun b o e=>?_⟩
     ·rw[hmm j,←hlen,List.mem_iff_getElem]
      constructor
      ·rintro⟨m,hm,e⟩
       exact⟨m,hm,by rw[←e,List.getD_eq_getElem?_getD,List.getElem?_eq_getElem hm];rfl⟩
      ·rintro⟨m,hm,e⟩
       exact⟨m,hm,by rw[←e,List.getD_eq_getElem?_getD,List.getElem?_eq_getElem hm];rfl⟩
     ·have hb:=Heap.lt_size e
      have hb1:b≠s.heap.objs.size:=Nat.ne_of_lt hb
      have hb2:b≠(s.heap.push (A9 w)).objs.size:=by
       rw[Heap.size_push];exact Nat.ne_of_lt (Nat.lt_succ_of_lt hb)
      exact hm.heap b o (by simp only[List.mem_cons,List.mem_singleton,List.not_mem_nil,or_false,not_or];exact⟨hb1,hb2⟩) (Heap.get?_push_of_some _ (Heap.get?_push_of_some _ e))
   ·cases r₂ with
    | error e=>exact hr₂
    | ok fl₂=>
     cases fl₂ with
     | ret r=>
      obtain⟨rfl,h',tk,ks,rfl,hS',hm',hl',hk'⟩:=hr₂
      repeat (any_goals (first | assumption | wp_step))
      exact h _ _ _ hS' hm' hl' hk'
     | _=>exact hr₂.elim
  | _=>exact hr.elim
end
end L2
namespace L2
open PySem PySem.Spec PyProof.Rows
section
variable {prog:Program} {w:World} {A:Around} {E:Value→Shared→Prop} {s:Shared} {a:Addr} {ks:List Int} {k:Int} {tk:Tok}
theorem HG {Q:Option Nat→Shared→Prop} (hS:SetIt w s.heap a ks) (h:∀r:Option Nat,r.isSome=decide (k∈ks)→(∀i,r=some i→ks[i]? = some k)→Q r s) :
  wpAny (model prog w) A (setFind a (.int k tk) (hashInt k)) Q E s:=by
 obtain⟨o,es,ep,t,ho,hex,hd,hg,hk,nd,hl,ok,hf⟩:=hS
 have hsz:=Ce hk
 have hkey:(intKind prog w).is k (.int k tk)=true:=intKind_is _ _ _ _
 unfold setFind setFindIn
 refine wpAny_bind (wpAny_setState_of ho hd hf ?_)
 dsimp only
 rw[byScan_of (knd:=intKind prog w) rfl (by rw[hsz];exact BO hl) hg.elems]
 simp only[↓reduceIte]
 refine wpAny_bind (wpAny_rule ?_)
 refine wpAny_bind (wpAny_setScan_of (knd:=intKind prog w) hkey ho hd hf hg.elems ?_)
 cases hr:List.findIdx? (fun e=>(intKind prog w).is k e.2) es.toList with
 | none=>
  dsimp only
  have hmem:k∉ks:=fun z=>by
   rw[←hk] at z
   obtain⟨e,he,rfl⟩:=List.mem_map.mp z
   have:=List.findIdx?_eq_none_iff.mp hr e he
   rw[(hg.is he).mpr rfl] at this
   cases this
  exact wpAny_pure (h none (by rw[decide_eq_false hmem];rfl) fun i e=>by cases e)
 | some j=>
  dsimp only
  obtain⟨hj,hpj,_⟩:=List.findIdx?_eq_some_iff_getElem.mp hr
  have e1:AG es.toList[j]=k:=((hg.is (List.getElem_mem hj)).mp hpj).symm
  have hmem:k∈ks:=by
   rw[←hk,←e1]
   exact List.mem_map_of_mem (List.getElem_mem hj)
  refine wpAny_pure (h (some (0+j)) (by rw[decide_eq_true hmem];rfl) fun i e=>?_)
  have e':j=i:=by injection e with e;omega
  subst e'
  rw[←hk,List.getElem?_map,List.getElem?_eq_getElem hj,←e1]
  rfl
theorem Gd {Q:Bool→Shared→Prop} {l:List Addr} (hl:∀b∈l,∃kb,SetIt w s.heap b kb) (h:Q true s):wpAny (model prog w) A (setsQuiet l) Q E s:=by
 unfold setsQuiet
 refine wpAny_bind ?_
 refine wpAny_forIn_list _ (fun rest r s'=>r.1=none∧s'=s∧∀b∈rest,∃kb,SetIt w s.heap b kb) _ ?_ ?_ _ _ ⟨rfl,rfl,hl⟩
 ·rintro b rest r s' ⟨hr,rfl,hall⟩
  obtain⟨kb,o,es,ep,t,ho,hex,hd,hg,hk,nd,hl,ok,hf⟩:=hall b List.mem_cons_self
  unfold setEntries
  refine wpAny_bind (wpAny_bind (wpAny_setState_of ho hd hf (wpAny_pure ?_)))
  refine wpAny_bind ?_
  refine wpAny_forIn_array' _ (fun rest' r' s''=>r'.1=none∧s''=s'∧EGood rest') _ ?_ ?_ _ _ ⟨rfl,rfl,hg⟩
  ·rintro⟨hh,x⟩ rest' r' s' ⟨hr',rfl,g⟩
   obtain⟨_,t',e⟩:=g _ List.mem_cons_self
   have e':x= .int (AG (hh,x)) t':=e
   rw[e']
   exact wpAny_pure ⟨rfl,rfl,fun y hy=>g y (List.mem_cons_of_mem _ hy)⟩
  ·rintro⟨r1,r2⟩ s' ⟨hr',rfl,_⟩
   simp only at hr'
   subst hr'
   exact wpAny_pure ⟨rfl,rfl,fun c hc=>hall c (List.mem_cons_of_mem _ hc)⟩
 ·rintro⟨r1,r2⟩ s' ⟨hr,rfl,_⟩
  simp only at hr
  subst hr
  exact wpAny_pure h
theorem HZ {o:Obj} {es:Array (Int×Value)} {ep:Nat} {t:SetTable} {Q:Array (Int×Value)→Shared→Prop} (ho:s.heap.get? a=some o) (hd:o.data= .set es ep t) (ok:Ei (Bi w) t) (hf:t.fits es.size=true)
  (hc:(Bi w || (t.led && t.plain) || decide (es.size≤1))=true) (h:∀es':Array (Int×Value),es'.toList.Perm es.toList→Q es' s):wpAny (model prog w) A (setWalk a) Q E s:=by
 unfold setWalk setsByText
 refine wpAny_bind (wpAny_setState_of ho hd hf ?_)
 dsimp only
 refine wpAny_bind (wpAny_bind (wpAny_askSetting (wpAny_pure ?_)))
 show wpAny _ _ (if Bi w=true then _ else _) _ _ _
 cases hb:Bi w with
 | true=>
  rw[if_pos rfl]
  refine wpAny_bind (wpAny_askSetting ?_)
  exact wpAny_pure (h _ (Cw _ _))
 | false=>
  rw[if_neg Bool.false_ne_true]
  have hn:(!t.plain && decide (es.size>1))=false:=by
   rw[hb,Bool.false_or] at hc
   cases hp:t.plain with
   | true=>rfl
   | false=>
    rw[hp,Bool.and_false,Bool.false_or] at hc
    have:=of_decide_eq_true hc
    simp
    omega
  show wpAny _ _ (if (!t.plain && decide (es.size>1))=true then _ else _) _ _ _
  rw[hn,if_neg Bool.false_ne_true]
  refine wpAny_bind ?_
  show wpAny _ _ (if (!t.led && decide (es.size>1))=true then _ else _) _ _ _
  rw[ok.led,hb,if_neg (by simp)]
  exact wpAny_pure (wpAny_pure (h es (List.Perm.refl _)))
theorem Mq {f:Addr} {others:List Addr} {kf:List Int} {Q:Array (Int×Value)→Shared→Prop} (hS:SetIt w s.heap a ks) (hF:SetIs w s.heap f kf) (hO:∀b∈others,∃kb,SetIt w s.heap b kb)
  (h:∀(es':Array (Int×Value)) (h':Heap),EGood es'.toList→(es'.toList.map AG).Perm ks→Heap.SameBut f s.heap h'→SetIs w h' f kf→Q es' { s with heap:=h' }):wpAny (model prog w) A (setWalkUnseen a others (some f)) Q E s:=by
 obtain⟨o,es,ep,t,ho,hex,hd,hg,hk,nd,hl,ok,hf⟩:=id hS
 have stay:∀es':Array (Int×Value),es'.toList.Perm es.toList→Q es' s:=fun es' hp=>by
  have:=h es' s.heap (fun e he=>hg e (hp.mem_iff.mp he)) (by rw[←hk];exact hp.map AG) (Heap.SameBut.refl _ _) hF
  have e:s={ s with heap:=s.heap }:=by cases s;rfl
  rw[e];exact this
 unfold setWalkUnseen setsByText
 refine wpAny_bind (wpAny_setState_of ho hd hf ?_)
 dsimp only
 refine wpAny_bind (wpAny_bind (wpAny_askSetting (wpAny_pure ?_)))
 show wpAny _ _ (if (Bi w || (t.led && t.plain) || decide (es.size≤1))=true then _ else _) _ _ _
 split
 ·rename_i hc
  exact HZ ho hd ok hf hc stay
 ·rename_i hc
  have hb:Bi w=false:=by
   cases q:Bi w with
   | true=>rw[q] at hc;exact absurd rfl hc
   | false=>rfl
  refine wpAny_bind (Gd (fun b hb=>?_) ?_)
  ·rcases List.mem_cons.mp hb with e | e
   ·subst e;exact⟨_,hS⟩
   ·exact hO b e
  simp only[Bool.not_true,Bool.false_eq_true,if_false]
  refine wpAny_bind (wpAny_rule ?_)
  obtain⟨of,ef,epf,tf,hof,hexf,hdf,hgf,hkf,ndf,hlf,okf,hff⟩:=id hF
  refine wpAny_bind (wpAny_setState_of hof hdf hff ?_)
  dsimp only
  split
  ·refine wpAny_bind (wpAny_storeSet_of hof hdf ?_ ?_)
   rotate_left
   exact (fits_of_scanBound (by rw[Ce hkf];exact BO hlf))
   have:=(Di (w:=w) (t':={ tf with led:=tf.led && t.led,plain:=tf.plain && t.plain }) hof hexf hdf hgf (by rw[hkf];exact ndf) (by rw[Ce hkf];exact hlf) ⟨okf.dum,by show (tf.led && t.led)=_;rw[okf.led,ok.led,Bool.and_self],okf.up⟩ hff).2
   rw[hkf] at this
   exact wpAny_pure (h es _ hg (by rw[hk]) (Heap.SameBut.update _ _ _) this)
  ·exact wpAny_pure ((stay es (List.Perm.refl _)))
theorem Mm {others:List Addr} {Q:Array (Int×Value)→Shared→Prop} (hS:SetIt w s.heap a ks) (hO:∀b∈others,∃kb,SetIt w s.heap b kb)
  (h:∀(es':Array (Int×Value)),EGood es'.toList→(es'.toList.map AG).Perm ks→Q es' s):wpAny (model prog w) A (setWalkUnseen a others none) Q E s:=by
 obtain⟨o,es,ep,t,ho,hex,hd,hg,hk,nd,hl,ok,hf⟩:=id hS
 have stay:∀es':Array (Int×Value),es'.toList.Perm es.toList→Q es' s:=fun es' hp=>
  h es' (fun e he=>hg e (hp.mem_iff.mp he)) (by rw[←hk];exact hp.map AG)
 unfold setWalkUnseen setsByText
 refine wpAny_bind (wpAny_setState_of ho hd hf ?_)
 dsimp only
 refine wpAny_bind (wpAny_bind (wpAny_askSetting (wpAny_pure ?_)))
 show wpAny _ _ (if (Bi w || (t.led && t.plain) || decide (es.size≤1))=true then _ else _) _ _ _
 split
 ·rename_i hc
  exact HZ ho hd ok hf hc stay
 ·refine wpAny_bind (Gd (fun b hb=>?_) ?_)
  ·rcases List.mem_cons.mp hb with e | e
   ·subst e;exact⟨_,hS⟩
   ·exact hO b e
  simp only[Bool.not_true,Bool.false_eq_true,if_false]
  refine wpAny_bind (wpAny_rule ?_)
  exact wpAny_pure (stay es (List.Perm.refl _))
end
end L2
namespace L2
open PySem PySem.Spec PyProof.Rows
namespace F
theorem entry_set_sub:entryFor table "set.__sub__"=some Builtin.«frozenset.__sub__»:=entryFor_alias (id':="frozenset.__sub__") (by kernel_rfl) rfl (by decide +kernel) (by kernel_rfl)
end F
section
variable {prog:Program} {w:World} {A:Around} {E:Value→Shared→Prop} {s:Shared} {a b r:Addr} {ka kb:List Int} {k:Int} {tk:Tok}
theorem EC {Q:Nat→Shared→Prop} (hS:SetIt w s.heap a ka) (h:Q ka.length s):wpAny (model prog w) A (Builtin.Frozenset.sizeOf a) Q E s:=by
 obtain⟨o,es,ep,t,ho,hex,hd,hg,hk,nd,hl,ok,hf⟩:=hS
 unfold Builtin.Frozenset.sizeOf setEntries
 refine wpAny_bind (wpAny_bind (wpAny_setState_of ho hd hf (wpAny_pure ?_)))
 rw[Ce hk]
 exact wpAny_pure h
theorem Et {Q:Bool→Shared→Prop} (hS:SetIt w s.heap a ka) (h:Q true s):wpAny (model prog w) A (Builtin.Frozenset.isAnySet (.ref a)) Q E s:=by
 unfold Builtin.Frozenset.isAnySet
 show wpAny _ _ (isInstance (.ref a) (.type "set") >>= _) _ _ _
 refine wpAny_bind (wpAny_isInstance hS.typeIs sub_set_self ?_)
 exact wpAny_pure h
theorem Dw {Q:Value→Shared→Prop} (hS:SetIt w s.heap a ka) (h:Q (.type "set") s):wpAny (model prog w) A (Builtin.Frozenset.baseOf a) Q E s:=by
 unfold Builtin.Frozenset.baseOf
 refine wpAny_bind (wpAny_isInstance hS.typeIs sub_set_self ?_)
 exact wpAny_pure h
theorem Gk {Q:Value→Shared→Prop} (h:Q (.ref s.heap.objs.size) { s with heap:=s.heap.push (A9 w) }):wpAny (model prog w) A (newSet (.type "set")) Q E s:=by
 unfold newSet setsByText
 refine wpAny_bind (wpAny_bind (wpAny_askSetting (wpAny_pure ?_)))
 simp only[newObj]
 refine wpAny_bind (wpAny_alloc (wpAny_pure ?_))
 exact h
theorem ET {Q:Nat→Shared→Prop} {o:Obj} {es:Array (Int×Value)} {ep:Nat} {t:SetTable} (ho:s.heap.get? a=some o) (hd:o.data= .set es ep t) (hf:t.fits es.size=true) (h:Q ep s):wpAny (model prog w) A (setEpoch a) Q E s:=by
 unfold setEpoch
 exact wpAny_bind (wpAny_setState_of ho hd hf (wpAny_pure h))
theorem DF {id:String} {Q:Unit→Shared→Prop} {o:Obj} {es:Array (Int×Value)} {ep:Nat} {t:SetTable} (ho:s.heap.get? a=some o) (hd:o.data= .set es ep t) (hf:t.fits es.size=true) (h:Q () s):wpAny (model prog w) A (Builtin.Frozenset.unchanged id a ep) Q E s:=by
 unfold Builtin.Frozenset.unchanged
 refine wpAny_bind (ET ho hd hf ?_)
 rw[if_neg (by simp)]
 exact wpAny_pure h
theorem Lq {body:(Int×Value)→PUnit→Sem (ForInStep PUnit)} {p:Int→Bool} {R:PUnit→Shared→Prop} {es:Array (Int×Value)} {kr:List Int}
  (hbody:∀(k:Int) (tk:Tok) (h1:Heap) (k1:List Int) (Q':ForInStep PUnit→Shared→Prop),Heap.SameBut r s.heap h1→SetIs w h1 r k1→k1.length+1<2000→
   (∀h' k2,Heap.SameBut r h1 h'→SetIs w h' r k2→(∀j,j∈k2↔j∈k1∨(p k=true∧j=k))→k2.length≤k1.length+1→Q' (.yield ⟨⟩) { s with heap:=h' })→
   wpAny (model prog w) A (body (hashInt k,.int k tk) ⟨⟩) Q' E { s with heap:=h1 })
  (hg:EGood es.toList) (hR:SetIs w s.heap r kr) (hn:kr.length+es.size<1999)
  (h:∀h' k2,Heap.SameBut r s.heap h'→SetIs w h' r k2→(∀j,j∈k2↔j∈kr∨(p j=true∧j∈es.toList.map AG))→k2.length≤kr.length+es.size→R ⟨⟩ { s with heap:=h' }) :
  wpAny (model prog w) A (forIn es PUnit.unit body) R E s:=by
 refine wpAny_forIn_array' _ (fun rest _ s'=>∃h1 k1,s'={ s with heap:=h1 }∧Heap.SameBut r s.heap h1∧SetIs w h1 r k1∧EGood rest∧k1.length+rest.length≤kr.length+es.size∧
  (∀j,(j∈k1∨(p j=true∧j∈rest.map AG))↔j∈kr∨(p j=true∧j∈es.toList.map AG))) _ ?_ ?_ _ _ ⟨s.heap,kr,by cases s;rfl,Heap.SameBut.refl _ _,hR,hg,by rw[Array.length_toList];exact Nat.le_refl _,fun j=>Iff.rfl⟩
 ·rintro⟨hh,x⟩ rest u s' ⟨h1,k1,rfl,sb,hS,g,hl,hm⟩
  obtain⟨e1,t',e2⟩:=g _ List.mem_cons_self
  generalize hk:AG (hh,x)=k at e1 e2
  dsimp only at e1 e2
  subst e1;subst e2
  rw[List.length_cons] at hl
  refine hbody k t' h1 k1 _ sb hS (by omega) fun h' k2 sb2 hS2 hm2 hl2=>?_
  refine⟨h',k2,rfl,sb.trans sb2,hS2,fun y hy=>g y (List.mem_cons_of_mem _ hy),by omega,fun j=>?_⟩
  rw[←hm j,hm2 j,List.map_cons,List.mem_cons]
  constructor
  ·rintro ((z | ⟨z1,z2⟩) | ⟨z1,z2⟩)
   ·exact .inl z
   ·exact .inr ⟨by rw[z2];exact z1,.inl (by rw[hk];exact z2)⟩
   ·exact .inr ⟨z1,.inr z2⟩
  ·rintro (z | ⟨z1,z2 | z2⟩)
   ·exact .inl (.inl z)
   ·exact .inl (.inr ⟨by rw[←hk,←z2];exact z1,by rw[←hk];exact z2⟩)
   ·exact .inr ⟨z1,z2⟩
 ·rintro u s' ⟨h1,k1,rfl,sb,hS,g,hl,hm⟩
  refine h h1 k1 sb hS (fun j=>?_) (by simpa using hl)
  rw[←hm j]
  simp
theorem He {h:Heap} {o:Obj} (e:h.get? a=some o):a≠h.objs.size:=Nat.ne_of_lt (Heap.lt_size e)
end
end L2
namespace L2
open PySem PySem.Spec PyProof.Rows
theorem HD {f g:Nat→Option Nat}:∀l:List Nat,(∀x∈l,g x=f x)→l.filterMap g=l.filterMap f
 | [],_=>rfl
 | x::l,h=>by
  have ih:=HD l fun y hy=>h y (List.mem_cons_of_mem _ hy)
  have e:=h x List.mem_cons_self
  cases q:f x with
  | none=>rw[List.filterMap_cons_none (e.trans q),List.filterMap_cons_none q,ih]
  | some v=>rw[List.filterMap_cons_some (e.trans q),List.filterMap_cons_some q,ih]
theorem OI {f g:Nat→Option Nat} {j k:Nat} (hf:f j=none) (hg:g j=some k) (hne:∀x,x≠j→g x=f x):∀l:List Nat,l.Nodup→j∈l→(l.filterMap g).Perm (k::l.filterMap f)
 | [],_,h=>by cases h
 | x::l,nd,h=>by
  have nd':=List.nodup_cons.mp nd
  by_cases e:x=j
  ·subst e
   have:l.filterMap g=l.filterMap f:=HD l fun y hy=>hne y fun z=>nd'.1 (z ▸ hy)
   rw[List.filterMap_cons_some hg,List.filterMap_cons_none hf,this]
  ·have hj:j∈l:=by
    rcases List.mem_cons.mp h with z | z
    ·exact absurd z.symm e
    ·exact z
   have ih:=OI hf hg hne l nd'.2 hj
   have ex:=hne x e
   cases q:f x with
   | none=>rw[List.filterMap_cons_none (ex.trans q),List.filterMap_cons_none q];exact ih
   | some v=>rw[List.filterMap_cons_some (ex.trans q),List.filterMap_cons_some q];exact (ih.cons v).trans (List.Perm.swap _ _ _)
theorem NB {f:Nat→Option Nat}:∀l:List Nat,(∀x∈l,f x≠none)→(l.filterMap f).length=l.length
 | [],_=>rfl
 | x::l,h=>by
  cases q:f x with
  | none=>exact absurd q (h x List.mem_cons_self)
  | some v=>rw[List.filterMap_cons_some q,List.length_cons,List.length_cons,NB l fun y hy=>h y (List.mem_cons_of_mem _ hy)]
abbrev L8 (n:Nat) (owner:Array (Option Nat)):List Nat:=(List.range n).filterMap fun j=>owner.getD j none
def Sl (mask:Nat):Nat→Nat×Nat→Nat×Nat
 | 0,x=>x
 | t+1,x=>Sl mask t (SetTable.leap mask x.1 x.2)
theorem FJ {mask:Nat} {owner:Array (Option Nat)} {j:Nat}:∀(fuel i p:Nat),SetTable.layClean.free mask owner fuel i p=some j→owner.getD j (some 0)=none
 | 0,_,_,h=>by cases h
 | fuel+1,i,p,h=>by
  unfold SetTable.layClean.free at h
  split at h
  ·rename_i k e
   injection h with h
   subst h
   exact Option.isNone_iff_eq_none.mp (List.find?_some (p:=fun k=>(owner.getD (i+k) (some 0)).isNone) e)
  ·exact FJ fuel _ _ h
theorem FQ {mask:Nat} {owner:Array (Option Nat)}:∀(fuel i p t:Nat),t<fuel→owner.getD (Sl mask t (i,p)).1 (some 0)=none→∃j,SetTable.layClean.free mask owner fuel i p=some j
 | 0,_,_,t,h,_=>absurd h (Nat.not_lt_zero _)
 | fuel+1,i,p,t,h,e=>by
  unfold SetTable.layClean.free
  split
  ·exact⟨_,rfl⟩
  ·rename_i q
   cases t with
   | zero=>
    have:=List.find?_eq_none.mp q 0 (List.mem_range.mpr (by unfold SetTable.runEnd;split<;>omega))
    rw[Nat.add_zero] at this
    have e':owner.getD i (some 0)=none:=e
    rw[e'] at this
    exact absurd rfl this
   | succ t=>exact FQ fuel _ _ t (Nat.lt_of_succ_lt_succ h) e
def K7 (mask:Nat):Nat→Nat→Nat→Nat
 | 0,_,acc=>acc
 | n+1,i,acc=>K7 mask n ((i*5+1)%(mask+1)) (acc ||| 1 <<< i)
theorem HP {mask j:Nat}:∀(n i acc:Nat),(K7 mask n i acc).testBit j=true→acc.testBit j=true∨∃t,t<n∧(Sl mask t (i,0)).1=j
 | 0,_,_,h=>.inl h
 | n+1,i,acc,h=>by
  rcases HP n _ _ h with z | ⟨t,h1,h2⟩
  ·rw[Nat.testBit_or,Bool.or_eq_true] at z
   rcases z with z | z
   ·exact .inl z
   ·rw[Nat.shiftLeft_eq,Nat.one_mul,Nat.testBit_two_pow] at z
    exact .inr ⟨0,Nat.succ_pos _,of_decide_eq_true z⟩
  ·refine .inr ⟨t+1,Nat.succ_lt_succ h1,?_⟩
   show (Sl mask t (SetTable.leap mask i 0)).1=j
   unfold SetTable.leap
   rw[Nat.zero_div,Nat.add_zero]
   exact h2
def O7 (mask:Nat):Prop:=∀i j,i≤mask→j≤mask→∃t,t<mask+1∧(Sl mask t (i,0)).1=j
theorem EM {mask:Nat} (h:(List.range (mask+1)).all (fun i=>K7 mask (mask+1) i 0 == 2^(mask+1)-1)=true):O7 mask:=fun i j hi hj=>by
 have:=List.all_eq_true.mp h i (List.mem_range.mpr (Nat.lt_succ_of_le hi))
 have e:=beq_iff_eq.mp this
 have:(K7 mask (mask+1) i 0).testBit j=true:=by
  rw[e,Nat.testBit_two_pow_sub_one]
  exact decide_eq_true (Nat.lt_succ_of_le hj)
 rcases HP _ _ _ this with z | z
 ·rw[Nat.zero_testBit] at z;cases z
 ·exact z
theorem TH:O7 7:=EM (by decide +kernel)
theorem SN:O7 15:=EM (by decide +kernel)
theorem Tj:O7 31:=EM (by decide +kernel)
theorem S1:O7 63:=EM (by decide +kernel)
theorem Sh:O7 127:=EM (by decide +kernel)
theorem getD_none {owner:Array (Option Nat)} {j:Nat}:owner.getD j (some 0)=none→j<owner.size∧owner.getD j none=none:=fun h=>by
 by_cases z:j<owner.size
 ·refine⟨z,?_⟩
  simp[Array.getD,z] at h ⊢
  exact h
 ·simp[Array.getD,z] at h
theorem NO {mask:Nat} (cov:O7 mask):∀(hs:List Int) (owner:Array (Option Nat)) (k:Nat),owner.size=mask+1→(L8 (mask+1) owner).Perm (List.range k)→k+hs.length≤mask+1→(∀h∈hs,SetTable.bits h<32)→
  ∃owner':Array (Option Nat),hs.foldl (fun (acc:Option (Array (Option Nat)×Nat)) h=>(do
   let (owner,k) ←acc
   let j ←SetTable.layClean.free mask owner (SetTable.turns mask) (SetTable.bits h%(mask+1)) (SetTable.bits h)
   pure (owner.setIfInBounds j (some k),k+1))) (some (owner,k))=some (owner',k+hs.length)∧owner'.size=mask+1∧(L8 (mask+1) owner').Perm (List.range (k+hs.length))
 | [],owner,k,hz,hp,_,_=>⟨owner,rfl,hz,hp⟩
 | h::hs,owner,k,hz,hp,hl,hb=>by
  rw[List.length_cons] at hl
  have hex:∃j,j≤mask∧owner.getD j none=none:=Classical.byContradiction fun z=>by
   have:=NB (f:=fun j=>owner.getD j none) (List.range (mask+1)) fun x hx e=>z ⟨x,Nat.le_of_lt_succ (List.mem_range.mp hx),e⟩
   have e2:=hp.length_eq
   rw[List.length_range] at this e2
   change (L8 (mask+1) owner).length=_ at this
   omega
  obtain⟨j0,hj0,e0⟩:=hex
  have e0':owner.getD j0 (some 0)=none:=by
   have:j0<owner.size:=by omega
   simp[Array.getD,this] at e0 ⊢
   exact e0
  have hb0:=hb h List.mem_cons_self
  have hd:SetTable.bits h / 32=0:=Nat.div_eq_of_lt hb0
  obtain⟨t,ht,et⟩:=cov ((SetTable.bits h%(mask+1)*5+1)%(mask+1)) j0 (Nat.le_of_lt_succ (Nat.mod_lt _ (Nat.succ_pos _))) hj0
  obtain⟨j,ej⟩:=FQ (mask:=mask) (owner:=owner) (SetTable.turns mask) (SetTable.bits h%(mask+1)) (SetTable.bits h) (t+1) (by unfold SetTable.turns;omega) (by
   show owner.getD (Sl mask t (SetTable.leap mask _ _)).1 (some 0)=none
   unfold SetTable.leap
   rw[hd,Nat.add_zero,et]
   exact e0')
  obtain⟨jl,jn⟩:=getD_none (FJ _ _ _ ej)
  have hp':(L8 (mask+1) (owner.setIfInBounds j (some k))).Perm (List.range (k+1)):=by
   refine (OI (f:=fun j=>owner.getD j none) (g:=fun x=>(owner.setIfInBounds j (some k)).getD x none) (j:=j) (k:=k) jn ?_ (fun x hx=>?_) _ List.nodup_range (List.mem_range.mpr (by omega))).trans ?_
   ·simp[Array.getD,jl]
   ·simp only[Array.getD_eq_getD_getElem?]
    rw[Array.getElem?_setIfInBounds_ne (Ne.symm hx)]
   ·refine (hp.cons k).trans ?_
    rw[List.range_succ (n:=k)]
    exact List.perm_append_comm (l₁:=[k])
  obtain⟨o',h1,h2,h3⟩:=NO cov hs (owner.setIfInBounds j (some k)) (k+1) (by rw[Array.size_setIfInBounds];exact hz) hp' (by omega) fun y hy=>hb y (List.mem_cons_of_mem _ hy)
  have ek:k+1+hs.length=k+(hs.length+1):=by omega
  refine⟨o',?_,h2,?_⟩
  ·rw[List.foldl_cons]
   show List.foldl _ (SetTable.layClean.free mask owner (SetTable.turns mask) (SetTable.bits h%(mask+1)) (SetTable.bits h) >>= _) hs=_
   rw[ej,List.length_cons,←ek]
   exact h1
  ·rw[List.length_cons,←ek];exact h3
theorem KN {mask:Nat} (cov:O7 mask) (finger moves:Nat) (led plain:Bool) (hs:Array Int) (hl:hs.size≤mask) (hb:∀h∈hs.toList,SetTable.bits h<32) :
  ∃t order,SetTable.laid mask finger moves led plain hs=some (t,order)∧order.toList.Perm (List.range hs.size)∧t.dummies = #[]∧t.led=led∧Up t.place∧t.place.size=hs.size∧t.mask=mask:=by
 have hr:(L8 (mask+1) (Array.replicate (mask+1) none)).Perm (List.range 0):=by
  have:L8 (mask+1) (Array.replicate (mask+1) none)=[]:=by
   refine List.filterMap_eq_nil_iff.mpr fun x hx=>?_
   simp[Array.getD]
  rw[this]
  exact List.Perm.refl _
 obtain⟨owner,h1,h2,h3⟩:=NO cov hs.toList _ 0 Array.size_replicate hr (by rw[Array.length_toList];omega) hb
 rw[Nat.zero_add,Array.length_toList] at h1 h3
 have e:SetTable.layClean mask hs=some owner:=by
  unfold SetTable.layClean
  rw[←Array.foldl_toList]
  exact congrArg (Option.map (·.1)) h1
 unfold SetTable.laid
 rw[e]
 refine⟨_,_,rfl,?_,rfl,rfl,?_,?_,rfl⟩
 ·show (List.map (fun x:Nat×Nat=>x.2) (List.filterMap (fun j=>Option.map (fun x=>(j,x)) (owner.getD j none)) (List.range (mask+1)))).Perm _
  rw[List.map_filterMap]
  have:(fun j=>Option.map (fun x:Nat×Nat=>x.2) (Option.map (fun x=>(j,x)) (owner.getD j none)))=fun j=>owner.getD j none:=by
   funext j
   cases owner.getD j none<;>rfl
  rw[this]
  exact h3
 ·show (List.map (fun x:Nat×Nat=>x.fst) (List.filterMap (fun j=>Option.map (fun x=>(j,x)) (owner.getD j none)) (List.range (mask+1)))).toArray.toList.Pairwise (· < ·)
  rw[List.toList_toArray]
  rw[List.map_filterMap]
  refine List.Pairwise.filterMap _ (R:=(· < ·)) ?_ List.pairwise_lt_range
  intro a a' hlt b hb b' hb'
  have f:∀{a b:Nat},Option.map (fun x:Nat×Nat=>x.1) (Option.map (fun x=>(a,x)) (owner.getD a none))=some b→b=a:=fun {a b} e=>by
   cases q:owner.getD a none with
   | none=>rw[q] at e;cases e
   | some y=>rw[q] at e;injection e with e;exact e.symm
  rw[f hb,f hb']
  exact hlt
 ·show (List.map (fun x:Nat×Nat=>x.fst) (List.filterMap (fun j=>Option.map (fun x=>(j,x)) (owner.getD j none)) (List.range (mask+1)))).toArray.size=_
  have e3:=h3.length_eq
  rw[List.length_range] at e3
  rw[List.size_toArray,List.length_map,←e3]
  have:∀l:List Nat,(List.filterMap (fun j=>Option.map (fun x=>(j,x)) (owner.getD j none)) l).length=(List.filterMap (fun j=>owner.getD j none) l).length:=fun l=>by
   induction l with
   | nil=>rfl
   | cons x l ih=>cases q:owner.getD x none with
    | none=>rw[List.filterMap_cons_none (by rw[q];rfl),List.filterMap_cons_none (f:=fun j=>owner.getD j none) q];exact ih
    | some v=>rw[List.filterMap_cons_some (by rw[q];rfl),List.filterMap_cons_some (f:=fun j=>owner.getD j none) q,List.length_cons,List.length_cons,ih]
  exact this _
end L2
namespace L2
open PySem PySem.Spec PyProof.Rows
theorem Bn {α:Type} (xs:Array α) (p:Nat):(SetTable.eraseAt xs p).toList=xs.toList.eraseIdx p:=by
 simp[SetTable.eraseAt,List.extract_eq_take_drop,List.eraseIdx_eq_take_drop_succ,List.take_of_length_le]
def SetDr (w:World) (h:Heap) (a:Addr) (ks:List Int) (m d:Nat):Prop:=
 ∃o es ep t,h.get? a=some o∧o.ExactSet∧o.data= .set es ep t∧EGood es.toList∧es.toList.map AG=ks∧ks.Nodup∧ks.length<2000∧Ei (Bi w) t∧t.fits es.size=true∧t.mask=m∧t.dummies.size≤d
theorem SetDr.it {w:World} {h:Heap} {a:Addr} {ks:List Int} {m d:Nat} (x:SetDr w h a ks m d):SetIt w h a ks:=by
 obtain⟨o,es,ep,t,h1,h2,h3,h4,h5,h6,h7,h8,h9,_⟩:=x
 exact⟨o,es,ep,t,h1,h2,h3,h4,h5,h6,h7,h8,h9⟩
theorem Ev {h:Heap} {o:Obj} {a:Addr} {es es':Array (Int×Value)} {ep:Nat} {t t':SetTable} (ho:h.get? a=some o) (hd:o.data= .set es ep t) :
  (h.update a (Obj.putSet es' t')).get? a=some { o with data:=.set es' (ep+1) t' }:=by
 have:=Heap.get?_update_self (Obj.putSet es' t') ho (by rw[putSet_of es' t' hd];rfl)
 rw[putSet_of es' t' hd] at this;exact this
theorem Jt {k:Int} (h0:0≤k) (h1:k<32):SetTable.bits (hashInt k)<32:=by
 obtain⟨n,rfl⟩:=Int.eq_ofNat_of_zero_le h0
 have hn:n<32:=by omega
 have:∀n:Fin 32,SetTable.bits (hashInt (n.val:Int))<32:=by decide +kernel
 exact this ⟨n,hn⟩
section
variable {prog:Program} {w:World} {A:Around} {E:Value→Shared→Prop} {s:Shared} {a b r:Addr} {ka kb ks:List Int} {k:Int} {tk:Tok}
theorem HF {Q:Bool→Shared→Prop} {m d:Nat} (hS:SetDr w s.heap a ks m d)
  (h:∀(bb:Bool) h' ks',Heap.SameBut a s.heap h'→SetDr w h' a ks' m (d+1)→(∀j,j∈ks'↔j∈ks∧j≠k)→ks'.length≤ks.length→Q bb { s with heap:=h' }) :
  wpAny (model prog w) A (setDiscardHashed a (.int k tk) (hashInt k)) Q E s:=by
 obtain⟨o,es,ep,t,ho,hex,hd,hg,hk,nd,hl,ok,hf,em,ed⟩:=id hS
 unfold setDiscardHashed
 refine wpAny_bind (HG hS.it fun rr hrr hat=>?_)
 cases rr with
 | none=>
  have hmem:k∉ks:=by
   intro z
   rw[decide_eq_true z] at hrr
   cases hrr
  have e:s={ s with heap:=s.heap }:=by cases s;rfl
  have:=h false s.heap ks (Heap.SameBut.refl _ _) ⟨o,es,ep,t,ho,hex,hd,hg,hk,nd,hl,ok,hf,em,Nat.le_succ_of_le ed⟩ (fun j=>⟨fun z=>⟨z,fun e=>hmem (e ▸ z)⟩,fun z=>z.1⟩) (Nat.le_refl _)
  rw[e]
  exact wpAny_pure this
 | some i=>
  have hki:=hat i rfl
  obtain⟨hi,eki⟩:=List.getElem?_eq_some_iff.mp hki
  have hsz:=Ce hk
  have hpl:t.place.size=es.size:=by
   unfold SetTable.fits at hf
   exact beq_iff_eq.mp (Bool.and_eq_true_iff.mp hf).1
  have hfl:t.place.size+t.dummies.size≤t.mask:=by
   unfold SetTable.fits at hf
   exact of_decide_eq_true (Bool.and_eq_true_iff.mp hf).2
  have hip:i<t.place.size:=by omega
  have edrop:t.drop i={ t with place:=SetTable.eraseAt t.place i,dummies:=SetTable.insertAt t.dummies (SetTable.below t.dummies t.place[i]) t.place[i] }:=by
   unfold SetTable.drop
   rw[Array.getElem?_eq_getElem hip]
  have hkeys:(SetTable.eraseAt es i).toList.map AG=ks.eraseIdx i:=by
   rw[Bn,←hk,List.eraseIdx_eq_take_drop_succ,List.eraseIdx_eq_take_drop_succ,List.map_append,List.map_take,List.map_drop]
  have hpm:=Cb ks i hi
  rw[eki] at hpm
  have nd':=hpm.nodup_iff.mpr nd
  have hlen:(ks.eraseIdx i).length+1=ks.length:=by rw[←hpm.length_eq,List.length_cons]
  have hes:(SetTable.eraseAt es i).size=(ks.eraseIdx i).length:=by rw[←hkeys,List.length_map,Array.length_toList]
  have hps:(SetTable.eraseAt t.place i).size+1=t.place.size:=by
   rw[←Array.length_toList,Bn,List.length_eraseIdx,Array.length_toList,if_pos hip];omega
  have hds:(SetTable.insertAt t.dummies (SetTable.below t.dummies t.place[i]) t.place[i]).size=t.dummies.size+1:=by
   rw[←Array.length_toList,(SetTable.insertAt_perm _ _ _).length_eq]
   simp
  dsimp only
  refine wpAny_bind (wpAny_setState_of ho hd hf ?_)
  dsimp only
  refine wpAny_bind (wpAny_storeSet_of ho hd ?_ (fits_of_scanBound (by rw[hes];exact BO (by omega))))
  refine wpAny_bind (wpAny_point (wpAny_pure ?_))
  refine h true _ (ks.eraseIdx i) (Heap.SameBut.update _ _ _) ⟨_,_,_,_,Ev ho hd,hex,rfl,?_,hkeys,(List.nodup_cons.mp nd').2,by omega,?_,?_,?_,?_⟩ (fun j=>?_) (by omega)
  ·intro e he
   rw[Bn] at he
   exact hg e (List.mem_of_mem_eraseIdx he)
  ·rw[edrop]
   refine⟨ok.led,?_⟩
   show (SetTable.eraseAt t.place i).toList.Pairwise (· < ·)
   rw[Bn]
   exact List.Pairwise.sublist (List.eraseIdx_sublist _ _) ok.up
  ·rw[edrop]
   unfold SetTable.fits SetTable.fill
   show ((SetTable.eraseAt t.place i).size == _ && decide ((SetTable.eraseAt t.place i).size+(SetTable.insertAt t.dummies _ _).size≤t.mask))=true
   rw[hds,Bool.and_eq_true_iff]
   exact⟨beq_iff_eq.mpr (by omega),decide_eq_true (by omega)⟩
  ·rw[edrop];exact em
  ·rw[edrop]
   show (SetTable.insertAt t.dummies _ _).size≤d+1
   rw[hds];omega
  ·rw[←hpm.mem_iff,List.mem_cons]
   have hn:=(List.nodup_cons.mp nd').1
   constructor
   ·intro z;exact⟨.inr z,fun e=>hn (e ▸ z)⟩
   ·rintro⟨z | z,ne⟩
    ·exact absurd z ne
    ·exact z
theorem Lb {es:Array (Int×Value)} {t:SetTable} {order:Array Nat} (hp:order.toList.Perm (List.range es.size)):(order.filterMap (es[·]?)).toList.Perm es.toList:=by
 rw[Array.toList_filterMap]
 exact (hp.filterMap _).trans (by rw[filterMap_getElem?_range])
end
end L2
namespace L2
open PySem PySem.Spec PyProof.Rows
theorem Qc (n:Nat) (hn:n≤32):∃m,(∀led:Bool,(SetTable.fresh 0 0 led).roomFor n=if m=7 then none else some (2*n))∧(m≠7→SetTable.sizeAbove (2*n)-1=m)∧n≤m∧O7 m∧SetTable.sizeAbove (2*n)≤128:=by
 have key:∀n:Fin 33,(decide (n.val≤4) && decide (n.val*5<21)) || (decide (4<n.val) && decide (21≤n.val*5) && (SetTable.sizeAbove (2*n.val)-1 == 15 || SetTable.sizeAbove (2*n.val)-1 == 31 || SetTable.sizeAbove (2*n.val)-1 == 63 || SetTable.sizeAbove (2*n.val)-1 == 127) && decide (n.val≤SetTable.sizeAbove (2*n.val)-1))=true:=by decide +kernel
 have key2:∀n:Fin 33,SetTable.sizeAbove (2*n.val)≤128:=by decide +kernel
 have hk:=key ⟨n,by omega⟩
 have hk2:=key2 ⟨n,by omega⟩
 dsimp only at hk hk2
 have hfill:∀led:Bool,(SetTable.fresh 0 0 led).roomFor n=if (0+n)*5≥7*3 then some ((0+n)*2) else none:=fun led=>rfl
 by_cases h4:n≤4
 ·refine⟨7,fun led=>?_,fun h=>absurd rfl h,by omega,TH,hk2⟩
  rw[hfill,if_neg (by omega),if_pos rfl]
 ·have hgt:¬decide (n≤4)=true:=by simpa using h4
  simp only[Bool.or_eq_true,Bool.and_eq_true,decide_eq_true_eq,beq_iff_eq] at hk
  rcases hk with⟨z,_⟩|⟨⟨⟨_,h21⟩,hm⟩,hnm⟩
  ·exact absurd z h4
  ·have hf:∀m,m≠7→∀led:Bool,(SetTable.fresh 0 0 led).roomFor n=if m=7 then none else some (2*n):=fun m hm led=>by
    rw[hfill,if_pos (by omega),if_neg hm,Nat.zero_add,Nat.mul_comm]
   rcases hm with ((e | e) | e) | e
   ·exact⟨15,hf 15 (by decide),fun _=>e,by omega,SN,hk2⟩
   ·exact⟨31,hf 31 (by decide),fun _=>e,by omega,Tj,hk2⟩
   ·exact⟨63,hf 63 (by decide),fun _=>e,by omega,S1,hk2⟩
   ·exact⟨127,hf 127 (by decide),fun _=>e,by omega,Sh,hk2⟩
section
variable {prog:Program} {w:World} {A:Around} {E:Value→Shared→Prop} {s:Shared} {a b r:Addr} {ka kb ks:List Int} {k:Int} {tk:Tok}
theorem MK {n m:Nat} {Q:Unit→Shared→Prop} (ho:s.heap.get? r=some (A9 w)) (hr:∀led:Bool,(SetTable.fresh 0 0 led).roomFor n=if m=7 then none else some (2*n)) (hm:m≠7→SetTable.sizeAbove (2*n)-1=m) (cov:O7 m) (h128:SetTable.sizeAbove (2*n)≤128)
  (h:∀h' o' ep t,Heap.SameBut r s.heap h'→h'.get? r=some o'→o'.ExactSet→o'.data= .set #[] ep t→t.fits 0=true→t.mask=m→t.place.size=0→t.dummies = #[]→t.led = !Bi w→Q () { s with heap:=h' }) :
  wpAny (model prog w) A (setRoomFor r n) Q E s:=by
 unfold setRoomFor
 refine wpAny_bind (wpAny_setState_of ho rfl rfl ?_)
 dsimp only
 rw[hr]
 by_cases z:m=7
 ·rw[if_pos z]
  dsimp only
  have e:s={ s with heap:=s.heap }:=by cases s;rfl
  rw[e]
  exact wpAny_pure (h s.heap _ 0 _ (Heap.SameBut.refl _ _) ho ⟨rfl,rfl,rfl⟩ rfl rfl z.symm rfl rfl rfl)
 ·rw[if_neg z]
  dsimp only
  unfold setRelay
  refine wpAny_bind (wpAny_setState_of ho rfl rfl ?_)
  dsimp only
  rw[if_neg (by have:=sizeLine_eq;omega)]
  have hm':=hm z
  obtain⟨t,order,e1,hp,hdm,hld,hup,hps,hmk⟩:=KN cov 0 ((SetTable.fresh 0 0 (!Bi w)).movedTo m) (!Bi w) true #[] (Nat.zero_le _) (fun h hh=>by simp at hh)
  have e2:(SetTable.fresh 0 0 (!Bi w)).relaid (Array.map (·.1) (#[]:Array (Int×Value))) (2*n)=some (t,order):=by
   have em:Array.map (·.1) (#[]:Array (Int×Value)) = #[]:=by simp
   unfold SetTable.relaid
   rw[hm',em]
   exact e1
  have hop:(order.filterMap ((#[]:Array (Int×Value))[·]?)) = #[]:=by
   have:=Lb (t:=t) (es:=#[]) (order:=order) hp
   exact Array.toList_inj.mp (List.perm_nil.mp this)
  have hft:t.fits 0=true:=by
   unfold SetTable.fits SetTable.fill
   rw[hps,hdm]
   rfl
  refine wpAny_bind ?_
  rw[e2]
  show wpAny _ _ (if (order.filterMap ((#[]:Array (Int×Value))[·]?)).size != (#[]:Array (Int×Value)).size then _ else _) _ _ _
  rw[hop,if_neg (by simp)]
  refine wpAny_pure ?_
  dsimp only
  refine wpAny_storeSet_of ho rfl ?_ (by simp)
  exact h _ _ _ _ (Heap.SameBut.update _ _ _) (Ev ho rfl) ⟨rfl,rfl,rfl⟩ rfl hft hmk hps hdm hld
theorem IW {Q:Unit→Shared→Prop} (ha:SetIt w s.heap a ka) (ho:s.heap.get? r=some (A9 w)) (hne:r≠a) (h32:∀j∈ka,0≤j∧j<32) (hl:ka.length≤32)
  (h:∀h' k2 m,Heap.SameBut r s.heap h'→SetDr w h' r k2 m 0→k2.Perm ka→ka.length≤m→Q () { s with heap:=h' }) :
  wpAny (model prog w) A (setMerge r a) Q E s:=by
 obtain⟨o,es,ep,t,hoa,hex,hd,hg,hk,nd,hlk,ok,hf⟩:=id ha
 have hsz:=Ce hk
 unfold setMerge
 rw[if_neg (by simpa using hne)]
 refine wpAny_bind (wpAny_setState_of hoa hd hf ?_)
 dsimp only
 by_cases hem:es.isEmpty=true
 ·rw[if_pos hem]
  have e0:ka=[]:=List.eq_nil_of_length_eq_zero (by rw[←hsz];exact Array.isEmpty_iff_size_eq_zero.mp hem)
  have e:s={ s with heap:=s.heap }:=by cases s;rfl
  have:=h s.heap [] 7 (Heap.SameBut.refl _ _) ⟨_,#[],0,_,ho,⟨rfl,rfl,rfl⟩,rfl,fun e he=>absurd he (by simp),rfl,List.nodup_nil,by decide,⟨rfl,List.Pairwise.nil⟩,rfl,rfl,Nat.le_refl _⟩ (by rw[e0]) (by rw[e0];decide)
  rw[e]
  exact wpAny_pure this
 ·rw[if_neg hem]
  obtain⟨m,hr,hm,hnm,cov,h128⟩:=Qc es.size (by omega)
  refine wpAny_bind (MK ho hr hm cov h128 fun h1 o1 ep1 t1 sb1 ho1 hex1 hd1 hf1 hm1 hp1 hdm1 hl1=>?_)
  have hoa1:h1.get? a=some o:=by rw[sb1.2 _ (Ne.symm hne)];exact hoa
  refine wpAny_bind (wpAny_setState_of (s:={ s with heap:=h1 }) ho1 hd1 hf1 ?_)
  dsimp only
  have hfill:(t1.fill != 0)=false:=by
   unfold SetTable.fill
   rw[hp1,hdm1]
   rfl
  unfold SetTable.road
  rw[hfill,if_neg Bool.false_ne_true]
  by_cases hc:(t1.mask == t.mask && t.dummies.isEmpty)=true
  ·rw[if_pos hc]
   dsimp only
   obtain⟨c1,c2⟩:=Bool.and_eq_true_iff.mp hc
   refine wpAny_storeSet_of (s:={ s with heap:=h1 }) ho1 hd1 ?_ (fits_of_scanBound (by rw[hsz];exact BO hlk))
   refine h _ ka m (sb1.trans (Heap.SameBut.update _ _ _)) ⟨_,_,_,_,Ev ho1 hd1,hex1,rfl,hg,hk,nd,hlk,⟨?_,ok.up⟩,hf,?_,?_⟩ (List.Perm.refl _) (by omega)
   ·show (t1.led && t.led)=_
    rw[hl1,ok.led,Bool.and_self]
   ·show t.mask=m
    rw[←hm1]
    exact (beq_iff_eq.mp c1).symm
   ·show t.dummies.size≤0
    rw[Array.isEmpty_iff_size_eq_zero.mp c2]
    exact Nat.le_refl _
  ·rw[if_neg hc]
   dsimp only
   have hsm:(es.map (·.1)).size=es.size:=Array.size_map
   obtain⟨t2,order,e1,hp,hdm,hld,hup,hps,hmk⟩:=KN cov t1.finger t1.moves (t1.led && t.led) (t1.plain && t.plain) (es.map (·.1)) (by rw[hsm];exact hnm) (fun hh hin=>by
    rw[Array.toList_map] at hin
    obtain⟨e,he,rfl⟩:=List.mem_map.mp hin
    rw[(hg e he).1]
    have:=h32 (AG e) (by rw[←hk];exact List.mem_map_of_mem he)
    exact Jt this.1 this.2)
   rw[hsm] at hp hps
   rw[hm1]
   have hpe:=Lb (t:=t2) (es:=es) hp
   refine wpAny_bind ?_
   rw[e1]
   have hsz2:(order.filterMap (es[·]?)).size=es.size:=by rw[←Array.length_toList,hpe.length_eq,Array.length_toList]
   show wpAny _ _ (if (order.filterMap (es[·]?)).size != es.size then _ else _) _ _ _
   rw[if_neg (by rw[hsz2];simp)]
   refine wpAny_pure ?_
   dsimp only
   have hkp:=hpe.map AG
   rw[hk] at hkp
   refine wpAny_storeSet_of (s:={ s with heap:=h1 }) ho1 hd1 ?_ (fits_of_scanBound (by rw[hsz2,hsz];exact BO hlk))
   refine h _ _ m (sb1.trans (Heap.SameBut.update _ _ _)) ⟨_,_,_,_,Ev ho1 hd1,hex1,rfl,fun e he=>hg e (hpe.mem_iff.mp he),rfl,hkp.nodup_iff.mpr nd,by rw[hkp.length_eq];exact hlk,⟨by rw[hld,hl1,ok.led,Bool.and_self],hup⟩,?_,hmk,by rw[hdm];exact Nat.le_refl _⟩ hkp (by omega)
   unfold SetTable.fits SetTable.fill
   rw[hps,hdm,hsz2,hmk,Bool.and_eq_true_iff]
   exact⟨beq_self_eq_true _,decide_eq_true (by simpa using hnm)⟩
end
end L2
namespace L2
open PySem PySem.Spec PyProof.Rows
section
variable {prog:Program} {w:World} {A:Around} {E:Value→Shared→Prop} {s:Shared} {a b r:Addr} {ka kb kr ks:List Int} {k:Int} {tk:Tok}
theorem IE {id0:String} {m:Nat} {Q:Unit→Shared→Prop} (hr:SetDr w s.heap r kr m 0) (hb:SetIt w s.heap b kb) (hne:r≠b) (hlt:kb.length<kr.length / 4) (hm:kr.length≤m)
  (h:∀h' k2,Heap.SameBut r s.heap h'→SetIt w h' r k2→(∀j,j∈k2↔j∈kr∧j∉kb)→k2.length≤kr.length→Q () { s with heap:=h' }) :
  wpAny (model prog w) A (Builtin.Frozenset.differenceUpdate id0 r (.ref b)) Q E s:=by
 unfold Builtin.Frozenset.differenceUpdate
 rw[if_neg (by intro z;have:=beq_iff_eq.mp z;injection this with this;exact hne this.symm)]
 refine wpAny_bind (Et hb ?_)
 rw[if_pos rfl]
 obtain⟨o,es,ep,t,ho,hex,hd,hg,hk,nd,hlk,ok,hf⟩:=id hb
 show wpAny _ _ (Builtin.Frozenset.sizeOf b >>= _) _ _ _
 refine wpAny_bind (EC hb ?_)
 refine wpAny_bind (EC hr.it ?_)
 rw[if_neg (by omega)]
 refine wpAny_bind (ET ho hd hf ?_)
 refine wpAny_bind (wpAny_holding ?_)
 refine wpAny_bind (Mm hb (fun c hc=>?_) fun es' hg' hp'=>?_)
 ·simp only[List.mem_cons,List.not_mem_nil,or_false] at hc
  subst hc
  exact⟨_,hr.it⟩
 have hsz:es'.size=kb.length:=by rw[←hp'.length_eq,List.length_map,Array.length_toList]
 refine wpAny_bind ?_
 refine wpAny_forIn_array' _ (fun rest _ s'=>∃h1 k1 d,s'={ s with heap:=h1 }∧Heap.SameBut r s.heap h1∧SetDr w h1 r k1 m d∧d+rest.length=kb.length∧EGood rest∧k1.length≤kr.length∧
  (∀j,(j∈k1∧j∉rest.map AG)↔j∈kr∧j∉kb)) _ ?_ ?_ _ _ ⟨s.heap,kr,0,by cases s;rfl,Heap.SameBut.refl _ _,hr,by rw[Array.length_toList,hsz];omega,hg',Nat.le_refl _,fun j=>by rw[hp'.mem_iff]⟩
 ·rintro⟨hh,x⟩ rest u s' ⟨h1,k1,d,rfl,sb,hS,hdl,g,hl,hm⟩
  obtain⟨e1,t',e2⟩:=g _ List.mem_cons_self
  generalize hk:AG (hh,x)=k at e1 e2
  dsimp only at e1 e2
  subst e1;subst e2
  rw[List.length_cons] at hdl
  refine wpAny_bind (wpAny_holding ?_)
  refine HF (s:={ s with heap:=h1 }) hS fun bb h2 k2 sb2 hS2 hm2 hl2=>?_
  have ho':h2.get? b=some o:=by rw[sb2.2 _ (Ne.symm hne),sb.2 _ (Ne.symm hne)];exact ho
  refine wpAny_bind (DF (s:={ s with heap:=h2 }) ho' hd hf (wpAny_pure ?_))
  refine⟨h2,k2,d+1,rfl,sb.trans sb2,hS2,by omega,fun y hy=>g y (List.mem_cons_of_mem _ hy),Nat.le_trans hl2 hl,fun j=>?_⟩
  rw[←hm j,hm2 j,List.map_cons,List.mem_cons,hk]
  constructor
  ·rintro⟨⟨z1,z2⟩,z3⟩
   exact⟨z1,fun z=>z.elim z2 z3⟩
  ·rintro⟨z1,z2⟩
   exact⟨⟨z1,fun e=>z2 (.inl e)⟩,fun e=>z2 (.inr e)⟩
 ·rintro u s' ⟨h1,k1,d,rfl,sb,hS,hdl,g,hl,hm2⟩
  refine wpAny_pure ?_
  obtain⟨o1,es1,ep1,t1,ho1,hex1,hd1,hg1,hk1,nd1,hlk1,ok1,hf1,em1,ed1⟩:=id hS
  unfold setTidy
  refine wpAny_bind (wpAny_setState_of (s:={ s with heap:=h1 }) ho1 hd1 hf1 ?_)
  dsimp only
  rw[if_neg (by
   unfold SetTable.tooManyDummies
   rw[em1]
   simp only[List.length_nil] at hdl
   have:¬t1.dummies.size>m / 4:=by omega
   simpa using this)]
  exact wpAny_pure (h h1 k1 sb hS.it (fun j=>by rw[←hm2 j];simp) hl)
theorem Pe {Q:Value→Shared→Prop} (ha:SetIt w s.heap a ka) (hb:SetIt w s.heap b kb) (hab:a≠b) (h32:∀j∈ka,0≤j∧j<32) (hl:ka.length≤32) (hlb:kb.length≤1000)
  (h:∀h' k2,SetIt w h' s.heap.objs.size k2→(∀j,j∈k2↔j∈ka∧j∉kb)→k2.length≤ka.length→(∀c o,s.heap.get? c=some o→h'.get? c=some o)→Q (.ref s.heap.objs.size) { s with heap:=h' }) :
  wpAny (model prog w) A (binaryOp .Sub (.ref a) (.ref b)) Q E s:=by
 refine wpAny_binaryOp_same ha.typeIs hb.typeIs PySem.F.fills_set_sub PySem.F.slot_set_sub ?_
 refine wpAny_call_entry PySem.F.slot_set_sub ha.typeIs F.entry_set_sub ?_ (PySem.F.args_set_sub_2 _ _)
 show wpAny _ _ (do
  let (self,other) ←Builtin.Frozenset.slot1 "__sub__" ⟨[.ref a,.ref b],[]⟩
  let (l,r):=if false=true then (other,self) else (self,other)
  if !(←Builtin.Frozenset.isAnySet l <&&> Builtin.Frozenset.isAnySet r) then rule s!"frozenset.{"__sub__"}.declined";return ←ret .notImplemented
  ret (←Builtin.Frozenset.difference s!"frozenset.{"__sub__"}" (←Builtin.Frozenset.addrOf l) r)) _ _ _
 generalize s!"frozenset.{"__sub__"}"=id0
 generalize s!"frozenset.{"__sub__"}.declined"=id1
 show wpAny _ _ ((Builtin.Frozenset.isAnySet (.ref a) <&&> Builtin.Frozenset.isAnySet (.ref b)) >>= _) _ _ _
 refine wpAny_bind ?_
 show wpAny _ _ (Builtin.Frozenset.isAnySet (.ref a) >>= _) _ _ _
 refine wpAny_bind (Et ha ?_)
 show wpAny _ _ (Builtin.Frozenset.isAnySet (.ref b)) _ _ _
 refine Et hb ?_
 simp only[Bool.not_true,Bool.false_eq_true,if_false]
 show wpAny _ _ (Builtin.Frozenset.difference id0 a (.ref b) >>= _) _ _ _
 refine wpAny_bind ?_
 have kk:∀c o,s.heap.get? c=some o→(s.heap.push (A9 w)).get? c=some o:=fun c o e=>Heap.get?_push_of_some _ e
 have ha1:=ha.keep (h':=s.heap.push (A9 w)) fun o e=>kk _ _ e
 have hb1:=hb.keep (h':=s.heap.push (A9 w)) fun o e=>kk _ _ e
 have hr1:SetIs w (s.heap.push (A9 w)) s.heap.objs.size []:=set0_is
 have hr0:(s.heap.push (A9 w)).get? s.heap.objs.size=some (A9 w):=Heap.get?_push_size _ rfl
 have na:a≠s.heap.objs.size:=let ⟨o,_,_,_,ho,_⟩:=ha;He ho
 have nb:b≠s.heap.objs.size:=let ⟨o,_,_,_,ho,_⟩:=hb;He ho
 have keep:∀h',Heap.SameBut s.heap.objs.size (s.heap.push (A9 w)) h'→∀c o,s.heap.get? c=some o→h'.get? c=some o:=fun h' sb c o e=>by
  rw[sb.2 _ (He e)];exact kk c o e
 unfold Builtin.Frozenset.difference
 refine wpAny_bind (Et hb ?_)
 simp only[Bool.not_true,Bool.false_eq_true,if_false]
 show wpAny _ _ (Builtin.Frozenset.sizeOf b >>= _) _ _ _
 refine wpAny_bind (EC hb ?_)
 refine wpAny_bind (EC ha ?_)
 by_cases hbig:ka.length / 4>kb.length
 ·rw[if_pos hbig]
  refine wpAny_bind (wpAny_rule ?_)
  unfold Builtin.Frozenset.copyOf
  refine wpAny_bind (wpAny_bind (Dw ha (wpAny_bind (Gk ?_))))
  show wpAny _ _ (setMerge s.heap.objs.size a >>= _) _ _ _
  refine wpAny_bind (IW (s:={ s with heap:=s.heap.push (A9 w) }) ha1 hr0 (Ne.symm na) h32 hl fun h1 k1 m sb1 hS1 hp1 hm1=>?_)
  refine wpAny_pure ?_
  have hb2:SetIt w h1 b kb:=hb1.keep fun o e=>by rw[sb1.2 _ nb];exact e
  refine wpAny_bind (m:=Builtin.Frozenset.addrOf (Value.ref s.heap.objs.size)) (wpAny_pure ?_)
  refine wpAny_bind (wpAny_holding ?_)
  show wpAny _ _ (Builtin.Frozenset.differenceUpdate id0 s.heap.objs.size (.ref b)) _ _ _
  refine IE (s:={ s with heap:=h1 }) hS1 hb2 (Ne.symm nb) (by rw[hp1.length_eq];exact hbig) (by rw[hp1.length_eq];exact hm1) fun h2 k2 sb2 hS2 hm2 hl2=>?_
  refine wpAny_pure ?_
  refine wpAny_pure ⟨_,rfl,by simp,?_⟩
  exact h h2 k2 hS2 (fun j=>by rw[hm2 j,hp1.mem_iff]) (by rw[←hp1.length_eq];exact hl2) (keep _ (sb1.trans sb2))
 ·rw[if_neg hbig]
  refine wpAny_bind (Dw ha (wpAny_bind (Gk ?_)))
  show wpAny _ _ (setEpoch a >>= _) _ _ _
  obtain⟨o,es,ep,t,ho,hex,hd,hg,hk,nd,hlk,ok,hf⟩:=id ha1
  refine wpAny_bind (ET (s:={ s with heap:=s.heap.push (A9 w) }) ho hd hf ?_)
  refine wpAny_bind (wpAny_holding ?_)
  simp only[if_true]
  refine wpAny_bind (Mq (s:={ s with heap:=s.heap.push (A9 w) }) ha1 hr1 (fun c hc=>?_) fun es' h' hg' hp' sb hr'=>?_)
  ·simp only[List.mem_cons,List.not_mem_nil,or_false] at hc
   rcases hc with rfl | rfl
   ·exact⟨_,hb1⟩
   ·exact⟨_,hr1.it⟩
  have hsz:es'.size=ka.length:=by rw[←hp'.length_eq,List.length_map,Array.length_toList]
  refine wpAny_bind (wpAny_mono (Lq (s:={ s with heap:=h' }) (r:=s.heap.objs.size) (p:=fun j=>decide (j∉kb)) (R:=fun _ s'=>∃h' k2,s'={ s with heap:=h' }∧Heap.SameBut s.heap.objs.size (s.heap.push (A9 w)) h'∧SetIs w h' s.heap.objs.size k2∧(∀j,j∈k2↔j∈ka∧j∉kb)∧k2.length≤ka.length) ?_ hg' hr' (by rw[hsz];simp;omega) fun h2 k2 sb2 hS2 hm2 hl2=>⟨h2,k2,rfl,sb.trans sb2,hS2,fun j=>?_,by rw[hsz] at hl2;simpa using hl2⟩) ?_ fun _ _ h'=>h')
  ·intro k tk h1 k1 Q' sb1 hS1 hl1 hQ
   have hb2:SetIt w h1 b kb:=hb1.keep fun o e=>by rw[sb1.2 _ nb,sb.2 _ nb];exact e
   refine wpAny_bind ?_
   refine wpAny_holding ?_
   refine wpAny_bind (HG (s:={ s with heap:=h1 }) hb2 fun rr hrr _=>wpAny_bind (wpAny_pure ?_))
   have fin:∀h2 k2,Heap.SameBut s.heap.objs.size h1 h2→SetIs w h2 s.heap.objs.size k2→(∀j,j∈k2↔j∈k1∨(decide (k∉kb)=true∧j=k))→k2.length≤k1.length+1→wpAny (model prog w) A.in1 (Builtin.Frozenset.unchanged id0 a ep >>= fun _=>pure (ForInStep.yield PUnit.unit)) Q' E { s with heap:=h2 }:=fun h2 k2 sb' hS' hm' hl'=>by
    have ho':h2.get? a=some o:=by rw[sb'.2 _ na,sb1.2 _ na,sb.2 _ na];exact ho
    exact wpAny_bind (DF (s:={ s with heap:=h2 }) ho' hd hf (wpAny_pure (hQ h2 k2 sb' hS' hm' hl')))
   by_cases hmem:k∈kb
   ·rw[hrr,decide_eq_true hmem,if_neg (by decide)]
    refine wpAny_pure ?_
    exact fin h1 k1 (Heap.SameBut.refl _ _) hS1 (fun j=>by rw[decide_eq_false (fun z=>z hmem)];simp) (Nat.le_succ _)
   ·rw[hrr,decide_eq_false hmem,if_pos (by decide)]
    refine wpAny_bind (GU (s:={ s with heap:=h1 }) hS1 hl1 fun h2 k2 sb' hS' hm' hl'=>wpAny_pure ?_)
    exact fin h2 k2 sb' hS' (fun j=>by rw[hm' j,decide_eq_true hmem];simp) hl'
  ·rw[hm2 j,hp'.mem_iff,decide_eq_true_eq]
   simp[and_comm]
  ·rintro u s' ⟨h2,k2,rfl,sb',hS',hm',hl'⟩
   refine wpAny_pure ?_
   refine wpAny_pure ?_
   refine wpAny_pure ⟨_,rfl,by simp,?_⟩
   exact h h2 k2 hS'.it hm' hl' (keep _ sb')
end
end L2
namespace L2
open PySem PySem.Spec PyProof.Rows
theorem Dr:∀{us:List Value} {ns:List Int},Vals (ns.map V.int) us→IntsAre us ns
 | _,[],h=>by cases h;exact .nil
 | _,n::ns,h=>by
  cases h with
  | cons r t=>obtain⟨k,rfl⟩:=r;exact .cons n k (Dr t)
theorem FZ:∀{l1 l2:List Int},l1.Nodup→(∀x∈l1,x∈l2)→l1.length≤l2.length
 | [],_,_,_=>Nat.zero_le _
 | x::l1,l2,nd,h=>by
  have nd':=List.nodup_cons.mp nd
  have hx:=h x List.mem_cons_self
  have ih:=FZ (l1:=l1) (l2:=l2.erase x) nd'.2 fun y hy=>(List.mem_erase_of_ne (show y≠x from fun e=>nd'.1 (e ▸ hy))).mpr (h y (List.mem_cons_of_mem _ hy))
  rw[List.length_erase_of_mem hx] at ih
  have:0<l2.length:=List.length_pos_of_mem hx
  rw[List.length_cons]
  omega
section
variable {X:Cx}
theorem Gb (hc:X.calm=true):Bp X (.type "set") (fun xs H Q=>∃(l:Addr) (ns:List Int),xs=[.ref l]∧SqL X.K H l (ns.map V.int)∧ns.length<1000∧∀a,H a=none→Q (.ref a) (upd H a (Bd X.w a (fun k=>decide (k∈ns)) ns.length))):=by
 intro pins s σ H xs us Q I r h
 obtain⟨l,ns,rfl,hq,hn,q⟩:=h
 obtain⟨u,rfl,ru⟩:=BN r
 cases ru
 obtain⟨its,rv,pl,hz⟩:=I.list hq
 have hlen:its.length=ns.length:=by rw[←rv.length,List.length_map]
 refine LE (w:=X.w) (ns:=ns) (I.ok.hd hc) pl.isList (by rw[List.toList_toArray];exact Dr rv) (by rw[List.size_toArray];omega) fun h' tk ks hS hm hl kk=>?_
 refine⟨.ref s.heap.objs.size,_,I.laid (t':=tk) (o:=Bd X.w s.heap.objs.size (fun k=>decide (k∈ns)) ns.length) kk (Nat.le_refl _) ?_,rfl,q _ (I.hok.fresh (Nat.le_refl _))⟩
 exact Do hS (fun k=>by rw[decide_eq_true_eq];exact (hm k).symm) hl
theorem Pp:Ca X (binaryOp .Sub) (fun x y H Q=>∃(a b:Addr) (S T:Int→Bool) (n m:Nat),x= .ref a∧y= .ref b∧H a=some (Bd X.w a S n)∧H b=some (Bd X.w b T m)∧a≠b∧n≤32∧m≤1000∧(∀k,S k=true→0≤k∧k<32)∧
  ∀r,H r=none→Q (.ref r) (upd H r (Lu X.w r (fun k=>S k && !T k) n))):=by
 intro pins s σ H x y v u Q I rx ry h
 obtain⟨a,b,S,T,n,m,rfl,rfl,ha,hb,hne,hn,hm',h32,q⟩:=h
 cases rx
 cases ry
 obtain⟨ka,hSa,hma,hla⟩:=I.setO ha
 obtain⟨kb,hSb,hmb,hlb⟩:=I.setO hb
 refine Pe (w:=X.w) hSa.it hSb.it hne (fun j hj=>h32 j ((hma j).mpr hj)) (by omega) (by omega) fun h' k2 hS hm hl kk=>?_
 refine⟨.ref s.heap.objs.size,_,I.laid (t':=s.toks) (o:=Lu X.w s.heap.objs.size (fun k=>S k && !T k) n) kk (Nat.le_refl _) ?_,rfl,q _ (I.hok.fresh (Nat.le_refl _))⟩
 refine PQ hS (fun k=>?_) (by omega)
 rw[Bool.and_eq_true,hma,hm k,Bool.not_eq_true',←Bool.not_eq_true,hmb]
end
end L2
namespace L2
open PySem PySem.Spec PyProof.Rows
section
variable {X:Cx} {tg:Expr} {acc:Value}
theorem Oc {pins:List (Addr×Obj)} {s:Shared} {σ:St} {H:Hp} {a:Addr} {S:Int→Bool} {n:Nat} {k:Int} {tk:Tok} {E:Value→Shared→Prop} (I:Inv X pins σ H s) (ha:H a=some (Bd X.w a S n)) (hn:n+1<2000) :
  wpAny (model X.prog X.w) X.A (call (.builtin "set.add") [.ref a,.int k tk]) (fun _ s'=>Inv X pins σ (upd H a (Bd X.w a (fun j=>S j || decide (j=k)) (n+1))) s') E s:=by
 obtain⟨ks2,hS2,hm2,hl2⟩:=I.setO ha
 refine Id (w:=X.w) hS2 (by omega) fun h' ks' hsb hS' hm' hl'=>?_
 have mu:R0 (H a):=by rw[ha];exact True.intro
 refine I.write (x:=a) (e:=a) (t':=s.toks+1) mu (.inl rfl) (fun b ob nb eb=>(hsb.2 b nb).trans eb) (let ⟨o,_,_,_,ho,_⟩:=hS';⟨o,ho⟩) (Do hS' (fun j=>?_) (by omega))
 rw[hm' j,Bool.or_eq_true,decide_eq_true_eq,hm2 j]
def Gm (X:Cx) (ifs:List Expr) (elt:Expr) (acc:Value):Pn:=fun Qa s=>wpAny (model X.prog X.w) X.A (EB ifs X.env) (fun ok s1=>if ok=true then wpAny (model X.prog X.w) X.A (eval elt X.env) (fun x s2=>wpAny (model X.prog X.w) X.A (call (.builtin "set.add") [acc,x]) (fun _ s3=>Qa s3) DG s2) DG s1 else Qa s1) DG s
def Gn (w:World) (acc:Addr) (te:TE):TS:=fun D σ H=>te σ H fun x H1=>∃k S n,x= .int k∧H1 acc=some (Bd w acc S n)∧n+1<2000∧D.nx σ (upd H1 acc (Bd w acc (fun j=>S j || decide (j=k)) (n+1)))
theorem OA {ifs:List Expr} {elt:Expr} {ac:Addr} {tc:TT} {te:TE} (hxe:X.xe=DG) (hi:Np X ifs tc) (he:PE X elt te):PB X (Gm X ifs elt (.ref ac)) (D3 tc (Gn X.w ac te)) where
 mono:=fun Qa Qb s hq h=>Ay h fun ok s1 h1=>by
  cases ok with
  | false=>exact hq _ h1
  | true=>exact Ay h1 fun x s2 h2=>Ay h2 fun _ s3 h3=>hq _ h3
 run:=fun pins s σ H D I h=>by
  have h1:=hi pins s σ H _ I h
  rw[hxe] at h1
  refine Ay h1 fun ok s1 ⟨H1,I1,q1⟩=>?_
  cases ok with
  | false=>exact⟨σ,H1,I1,q1⟩
  | true=>
   have q1':Gn X.w ac te D σ H1:=q1
   have h2:=he pins s1 σ H1 _ I1 q1'
   rw[hxe] at h2
   refine Ay h2 fun u s2 ⟨x,H2,I2,r2,k,S,n,ex,hl,hz,q2⟩=>?_
   subst ex
   obtain⟨tk,rfl⟩:=r2
   exact Ay (Oc (E:=DG) I2 hl hz) fun _ s3 I3=>⟨σ,_,I3,q2⟩
theorem Hf (elt tg0 iter0 tg iter:Expr) (ifs0 ifs:List Expr) (scope:Scope) (pos:Pos) (it acc:Value) (env:Env) :
  compTurn (.SetComp elt [⟨tg0,iter0,ifs0,0⟩,⟨tg,iter,ifs,0⟩] scope pos) 1 it acc env=(do
   standAt iter.pos
   match ←pyNext it with
   | none=>pure (.done .next)
   | some v=>
    letOwnedTupleGo tg it v
    assign tg env v
    let mut ok:=true
    for c in ifs do
     if ok then ok ←isTrue c env (eval c env)
    if ok then
     (do let v ←eval elt env;standAt elt.pos;let _ ←call (.builtin "set.add") [acc,v])
    again (.compLoop (.SetComp elt [⟨tg0,iter0,ifs0,0⟩,⟨tg,iter,ifs,0⟩] scope pos) 1 it acc env)):=by rfl
theorem Sa {elt tg0 iter0 iter:Expr} {ifs0 ifs:List Expr} {scope:Scope} {pos:Pos} {itv:Value}:HT X (.SetComp elt [⟨tg0,iter0,ifs0,0⟩,⟨tg,iter,ifs,0⟩] scope pos) 1 itv acc tg (Gm X ifs elt acc):=by
 intro s Qd Qa h
 rw[Hf]
 refine wpAny_bind (wpAny_standAt (wpAny_bind (Ay h fun r s₁ h₁=>?_)))
 cases r with
 | none=>exact wpAny_pure ⟨rfl,h₁⟩
 | some v=>
  refine wpAny_bind (Ay h₁ fun _ s2 h2=>wpAny_bind (Ay h2 fun _ s3 h3=>wpAny_bind (Ay h3 fun ok s4 h4=>?_)))
  cases ok with
  | false=>exact wpAny_pure ⟨rfl,h4⟩
  | true=>exact wpAny_bind (wpAny_bind (Ay h4 fun x s₄ h₄=>wpAny_bind (wpAny_standAt (wpAny_bind (Ay h₄ fun _ s₅ h₅=>wpAny_pure (wpAny_pure ⟨rfl,h₅⟩))))))
theorem Fv (elt tg iter tg1 iter1:Expr) (ifs ifs1:List Expr) (scope:Scope) (pos:Pos) (it acc:Value) (env:Env) :
  compTurn (.SetComp elt [⟨tg,iter,ifs,0⟩,⟨tg1,iter1,ifs1,0⟩] scope pos) 0 it acc env=(do
   standAt iter.pos
   match ←pyNext it with
   | none=>pure (.done .next)
   | some v=>
    letOwnedTupleGo tg it v
    assign tg env v
    let mut ok:=true
    for c in ifs do
     if ok then ok ←isTrue c env (eval c env)
    if ok then
     let x ←eval iter1 env
     standAt iter1.pos
     let x ←foldedSetIterable iter1 env x
     let _ ←runOwn (.compStart (.SetComp elt [⟨tg,iter,ifs,0⟩,⟨tg1,iter1,ifs1,0⟩] scope pos) 1 (←holding [x] (pyIter x)) acc env) env
    again (.compLoop (.SetComp elt [⟨tg,iter,ifs,0⟩,⟨tg1,iter1,ifs1,0⟩] scope pos) 0 it acc env)):=by rfl
theorem P9 {elt iter tg1 iter1:Expr} {ifs ifs1:List Expr} {scope:Scope} {pos:Pos} {itv:Value} (hs:∀x,foldedSetIterable iter1 X.env x=pure x) :
  HT X (.SetComp elt [⟨tg,iter,ifs,0⟩,⟨tg1,iter1,ifs1,0⟩] scope pos) 0 itv acc tg (FN X ifs (.SetComp elt [⟨tg,iter,ifs,0⟩,⟨tg1,iter1,ifs1,0⟩] scope pos) iter1 acc):=by
 intro s Qd Qa h
 rw[Fv]
 refine wpAny_bind (wpAny_standAt (wpAny_bind (Ay h fun r s₁ h₁=>?_)))
 cases r with
 | none=>exact wpAny_pure ⟨rfl,h₁⟩
 | some v=>
  refine wpAny_bind (Ay h₁ fun _ s2 h2=>wpAny_bind (Ay h2 fun _ s3 h3=>wpAny_bind (Ay h3 fun ok s4 h4=>?_)))
  cases ok with
  | false=>exact wpAny_pure ⟨rfl,h4⟩
  | true=>
   refine wpAny_bind (Ay h4 fun x s₄ h₄=>wpAny_bind (wpAny_standAt (wpAny_bind (wpAny_of_eq (hs x) (wpAny_bind (wpAny_holding (Ay h₄ fun it s₅ h₅=>?_)))))))
   refine wpAny_bind (wpAny_runOwn (codeAny_mono h₅ fun r s₆ h₆=>?_))
   obtain⟨rfl,h₆⟩:=h₆
   exact wpAny_pure ⟨rfl,h₆⟩
theorem P4 {elt iter tg1 iter1:Expr} {ifs ifs1:List Expr} {scope:Scope} {pos:Pos} {ac:Addr} {tc:TT} {wi1:TI} {g1:TG} {tb1:TS} (hxe:X.xe=DG) (hc:X.calm=true)
  (hi:Np X ifs tc) (hI:PI X tg1 iter1 wi1) (hg1:PG X tg1 g1) (hb1:PB X (Gm X ifs1 elt (.ref ac)) tb1) :
  PB X (FN X ifs (.SetComp elt [⟨tg,iter,ifs,0⟩,⟨tg1,iter1,ifs1,0⟩] scope pos) iter1 (.ref ac)) (D3 tc (Jp wi1 g1 tb1)) where
 mono:=fun Qa Qb s hq h=>Ay h fun ok s1 h1=>by
  cases ok with
  | false=>exact hq _ h1
  | true=>exact Ay h1 fun x s2 h2=>Ay h2 fun it s3 h3=>codeAny_mono h3 fun r s4 h4=>⟨h4.1,hq _ h4.2⟩
 run:=fun pins s σ H D I h=>by
  have h1:=hi pins s σ H _ I h
  rw[hxe] at h1
  refine Ay h1 fun ok s1 ⟨H1,I1,q1⟩=>?_
  cases ok with
  | false=>exact⟨σ,H1,I1,q1⟩
  | true=>
   have q1':Jp wi1 g1 tb1 D σ H1:=q1
   have h2:=hI pins s1 σ H1 _ I1 q1'
   rw[hxe] at h2
   refine Ay h2 fun u s2 h3=>Ay h3 fun itv s3 h4=>?_
   obtain⟨it,fp,tn,J,H3,e,I3,T,st3,f3,hR⟩:=h4
   subst e
   have loop:=CU (e:=.SetComp elt [⟨tg,iter,ifs,0⟩,⟨tg1,iter1,ifs1,0⟩] scope pos) (d:=1) (D:=D) hxe hc Sa rfl rfl rfl T hg1 hb1 I3 st3 f3 hR
   exact B8 (X:=X) rfl rfl rfl (fun _=>rfl) True.intro loop (T.self _ 0 s3 _ _ st3 loop)
end
def MR (w:World) (wi:TI) (js:List (Option Nat)) (g:CC→TG) (tb:CC→Addr→TS):TE:=fun σ H Q=>wi σ H fun J H1=>∀(c:CC) (acc:Addr),H1 acc=none→
 Dx J (g c) (tb c acc) { nx:=fun _ H'=>Q (.ref acc) H',rt:=fun _ _=>False } (sub js σ) (upd H1 acc (Bd w acc (fun _=>false) 0))
section
variable {X:Cx} {N:List Str} {scope:Scope} {cl:List (Str×Addr)} {js:List (Option Nat)} {elt tg iter:Expr} {ifs:List Expr} {rest:List Comprehension} {pos:Pos} {wi:TI} {g:CC→TG} {tb:CC→Addr→TS}
theorem LN {WB:CC→Value→Pn} (hxe:X.xe=DG) (hc:X.calm=true) (hi:PI X tg iter wi) (hs:∀x,foldedSetIterable iter X.env x=pure x) (hclos:closureFor scope X.env=pure cl) (hk:scope.kind= .function)
  (hnames:∀x∈scope.names,x.2= .local→scope.names.lookup x.1=some .local) (hcell:∀x∈scope.names,x.2≠.cell)
  (hcl:∀p∈cl,X.env.cells.lookup p.1=some p.2) (hcn:∀x,((relabel scope X.env).names.lookup x=some .cell∨(relabel scope X.env).names.lookup x=some .free)→∃c,cl.lookup x=some c)
  (hsh:Gj X N scope js) (hl:js.length=N.length)
  (ht:∀c it ac,HT (X.cmp N scope cl c) (.SetComp elt (⟨tg,iter,ifs,0⟩::rest) scope pos) 0 it ac tg (WB c ac))
  (hg:∀c,PG (X.cmp N scope cl c) tg (g c)) (hb:∀c ac,PB (X.cmp N scope cl c) (WB c (.ref ac)) (tb c ac)) :
  PE X (.SetComp elt (⟨tg,iter,ifs,0⟩::rest) scope pos) (MR X.w wi js g tb):=by
 intro pins s σ H Q I h
 rw[arm_eval_SetComp]
 have h0:=hi pins s σ H _ I h
 refine wpAny_comprehension_free (use:=none) (cl:=cl) rfl hs hclos hk hnames (Ay h0 fun v s1 h1=>Ay h1 fun itv s2 h2=>?_)
 obtain⟨it,fp,tn,J,H2,e,I2,T,st2,f2,hR⟩:=h2
 subst e
 refine Gk (wpAny_newFunctionEnv hcell (by intro y hy;simp at hy) (fun h₁ hns₁ hsb₁=>?_) hk)
 dsimp only at hns₁ hsb₁ ⊢
 have I3:=I2.laid (t':=s2.toks) (h':=s2.heap.push (A9 X.w)) (o:=Bd X.w s2.heap.objs.size (fun _=>false) 0) (fun b ob e=>Heap.get?_push_of_some _ e) (Nat.le_refl _) (Do set0_is (fun k=>by simp) (Nat.le_refl _))
 have fpl:∀b∈fp,b<s2.heap.objs.size:=fun b hb=>by
  obtain⟨o,e,_⟩:=T.obj 0 _ st2 b hb
  exact Heap.lt_size e
 have fpa:∀b∈fp,b≠s2.heap.objs.size:=fun b hb=>Nat.ne_of_lt (fpl b hb)
 have f3:∀b∈fp,B2 X pins (upd H2 s2.heap.objs.size (Bd X.w s2.heap.objs.size (fun _=>false) 0)) b:=fun b hb=>⟨by rw[Ah (fpa b hb)];exact (f2 b hb).1,(f2 b hb).2⟩
 have hR':=hR ⟨{ s2 with heap:=s2.heap.push (A9 X.w) },upd H2 s2.heap.objs.size (Bd X.w s2.heap.objs.size (fun _=>false) 0),fp⟩ s2.heap.objs.size I2.fresh
 have I4:=I3.cmp (N:=N) (cl:=cl) (js:=js) (t':=s2.toks) f3 (fun b hb=>by
  show b<(s2.heap.push _).objs.size
  rw[Heap.size_push]
  exact Nat.lt_succ_of_lt (fpl b hb)) hk hcl hcn hsh hl hns₁ hsb₁
 have st4:tn 0 h₁:=T.keep 0 _ _ st2 fun b hb o e=>(hsb₁.2 b (by
  rw[Heap.size_push]
  exact Nat.ne_of_lt (Nat.lt_succ_of_lt (fpl b hb)))).trans (Heap.get?_push_of_some _ (Heap.get?_push_of_some _ e))
 have f4:∀b∈fp,B2 (X.cmp N scope cl ⟨{ s2 with heap:=s2.heap.push (A9 X.w) },upd H2 s2.heap.objs.size (Bd X.w s2.heap.objs.size (fun _=>false) 0),fp⟩) [] (upd H2 s2.heap.objs.size (Bd X.w s2.heap.objs.size (fun _=>false) 0)) b:=fun b hb=>
  ⟨(f3 b hb).1,(I4.ok.exf b hb).1,I4.ok.exfs b hb,.inl hb,(I4.ok.exf b hb).2,fun p hp=>absurd (show p∈([]:List (Addr×Obj)) from hp) (by simp)⟩
 have loop:=codeAny_mono (CU (X:=X.cmp N scope cl ⟨{ s2 with heap:=s2.heap.push (A9 X.w) },upd H2 s2.heap.objs.size (Bd X.w s2.heap.objs.size (fun _=>false) 0),fp⟩) (e:=.SetComp elt (⟨tg,iter,ifs,0⟩::rest) scope pos) (d:=0) (acc:=.ref s2.heap.objs.size) (pins:=[]) hxe hc (ht _ _ _) rfl rfl rfl T (hg _) (hb _ _) I4 st4 f4 hR') (R':=compPost (model X.prog X.w) X.A X.xe none (EP X pins σ Q) (.ref s2.heap.objs.size) (s2.heap.push (A9 X.w)).objs.size) (fun r s' hq=>by
  obtain⟨rfl,σ',H',J',q⟩:=hq
  obtain⟨m,hn,_⟩:=id J'.loc
  exact⟨m,hn,fun h'' hs''=>⟨.ref s2.heap.objs.size,H',I3.uncmp f3 J' hs'',rfl,q⟩⟩)
 exact B8 (X:=X.cmp N scope cl ⟨{ s2 with heap:=s2.heap.push (A9 X.w) },upd H2 s2.heap.objs.size (Bd X.w s2.heap.objs.size (fun _=>false) 0),fp⟩) rfl rfl rfl (fun _=>rfl) True.intro loop (T.self _ 0 _ _ _ st4 loop)
variable {tg1 iter1:Expr} {ifs1:List Expr} {wi1:CC→TI} {g1:CC→TG} {tc tc1:CC→TT} {te:CC→TE}
theorem LH (h:CompOk X N scope cl js) (hi:PI X tg iter wi) (hg:∀c,PG (X.cmp N scope cl c) tg (g c)) (hif:∀c,Np (X.cmp N scope cl c) ifs (tc c))
  (hi1:∀c,PI (X.cmp N scope cl c) tg1 iter1 (wi1 c)) (hg1:∀c,PG (X.cmp N scope cl c) tg1 (g1 c)) (hif1:∀c,Np (X.cmp N scope cl c) ifs1 (tc1 c)) (he:∀c,PE (X.cmp N scope cl c) elt (te c))
  (hs1:∀c x,foldedSetIterable iter1 (X.cmp N scope cl c).env x=pure x:=by intro _ _;rfl)
  (hxe:X.xe=DG:=by rfl) (hc:X.calm=true:=by rfl) (hs:∀x,foldedSetIterable iter X.env x=pure x:=by intro _;rfl) :
  PE X (.SetComp elt [⟨tg,iter,ifs,0⟩,⟨tg1,iter1,ifs1,0⟩] scope pos) (MR X.w wi js g fun c ac=>D3 (tc c) (Jp (wi1 c) (g1 c) (D3 (tc1 c) (Gn X.w ac (te c))))):=
 LN (WB:=fun c ac=>FN (X.cmp N scope cl c) ifs (.SetComp elt [⟨tg,iter,ifs,0⟩,⟨tg1,iter1,ifs1,0⟩] scope pos) iter1 ac) hxe hc hi hs h.clos h.kind h.names h.cell h.ccl h.hcn h.shr h.len (fun c it ac=>P9 (hs1 c)) hg
  fun c ac=>P4 (X:=X.cmp N scope cl c) hxe hc (hif c) (hi1 c) (hg1 c) (OA (X:=X.cmp N scope cl c) hxe (hif1 c) (he c))
end
end L2
namespace L2
open PySem PySem.Spec PyProof.Rows
section
variable {X:Cx}
end
end L2
namespace L2
open PySem PySem.Spec PyProof.Rows
def DS (K:PySem.W.Frag) (H:Hp):Nat→V→V→Prop
 | 0,v,u=>v=u∧((∃k,v= .int k)∨(∃b,v= .bl b)∨v= .non)
 | n+1,v,u=>(v=u∧((∃k,v= .int k)∨(∃b,v= .bl b)∨v= .non))∨∃a b xs ys,v= .ref a∧u= .ref b∧xs.length=ys.length∧(∀(i:Nat) x y,xs[i]? = some x→ys[i]? = some y→DS K H n x y)∧((SqL K H a xs∧SqL K H b ys)∨(SqT K H a xs∧SqT K H b ys))
section
variable {X:Cx} {pins:List (Addr×Obj)} {σ:St} {H:Hp} {s:Shared}
theorem Ko {A:Around} {v u:V} {v' u':Value} (e:v=u) (h:(∃k,v= .int k)∨(∃b,v= .bl b)∨v= .non) (r1:RelV v v') (r2:RelV u u'):SeqAt.EqAt A s v' u' true:=by
 subst e
 rcases h with⟨k,rfl⟩|⟨b,rfl⟩|rfl
 ·obtain⟨t,rfl⟩:=r1
  obtain⟨t2,rfl⟩:=r2
  intro prog w E Q hq
  exact wpAny_eqBool_int (by rw[beq_self_eq_true];exact hq)
 ·cases r1
  cases r2
  exact SeqAt.EqAt.same _
 ·cases r1
  cases r2
  exact SeqAt.EqAt.same _
theorem DC (n:Nat):(List.range n).all (fun _=>true)=true:=by simp
theorem Q3:∀(n:Nat) {A:Around},A.units+n<cLine→Inv X pins σ H s→(∀(v u:V) (v' u':Value),DS X.K H n v u→RelV v v'→RelV u u'→SeqAt.EqAt A s v' u' true)
 | 0,A,hu,I=>fun v u v' u' h r1 r2=>Ko h.1 h.2 r1 r2
 | n+1,A,hu,I=>fun v u v' u' h r1 r2=>by
  rcases h with h | ⟨a,b,xs,ys,rfl,rfl,hl,hx,hk⟩
  ·exact Ko h.1 h.2 r1 r2
  cases r1
  cases r2
  by_cases hab:a=b
  ·subst hab
   exact SeqAt.EqAt.same _
  have ih:=Q3 n (A:=A.in1) (by show A.units+1+n<cLine;omega) I
  rcases hk with⟨h1,h2⟩|⟨h1,h2⟩
  ·obtain⟨its,q1,pl,_⟩:=I.list h1
   obtain⟨its2,q2,pl2,_⟩:=I.list h2
   have l1:=q1.length
   have l2:=q2.length
   have:=SeqAt.RcAt.lists (e:=fun _=>true) (A:=A) pl.isList pl2.isList (by simp;omega) (by omega) (fun j j1 j2=>by
    have j1':j<its.length:=by simpa using j1
    have j2':j<its2.length:=by simpa using j2
    have hx1:xs[j]? = some xs[j]:=List.getElem?_eq_getElem (by omega)
    have hy1:ys[j]? = some ys[j]:=List.getElem?_eq_getElem (by omega)
    obtain⟨u1,e1,ru1⟩:=q1.get hx1
    obtain⟨u2,e2,ru2⟩:=q2.get hy1
    have e1':its.toArray[j]=u1:=by
     have:=List.getElem?_eq_getElem j1'
     rw[this] at e1
     simpa using Option.some.inj e1
    have e2':its2.toArray[j]=u2:=by
     have:=List.getElem?_eq_getElem j2'
     rw[this] at e2
     simpa using Option.some.inj e2
    rw[e1',e2']
    exact ih _ _ _ _ (hx j _ _ hx1 hy1) ru1 ru2)
   rw[DC] at this
   exact SeqAt.EqAt.of_refs hab this
  ·obtain⟨its,q1,pl,_⟩:=I.tuple h1
   obtain⟨its2,q2,pl2,_⟩:=I.tuple h2
   have l1:=q1.length
   have l2:=q2.length
   have:=SeqAt.RcAt.tuples (e:=fun _=>true) (A:=A) pl pl2 (by omega) (fun j j1 j2=>by
    have j1':j<its.length:=by simpa using j1
    have j2':j<its2.length:=by simpa using j2
    have hx1:xs[j]? = some xs[j]:=List.getElem?_eq_getElem (by omega)
    have hy1:ys[j]? = some ys[j]:=List.getElem?_eq_getElem (by omega)
    obtain⟨u1,e1,ru1⟩:=q1.get hx1
    obtain⟨u2,e2,ru2⟩:=q2.get hy1
    have e1':its.toArray[j]=u1:=by
     have:=List.getElem?_eq_getElem j1'
     rw[this] at e1
     simpa using Option.some.inj e1
    have e2':its2.toArray[j]=u2:=by
     have:=List.getElem?_eq_getElem j2'
     rw[this] at e2
     simpa using Option.some.inj e2
    rw[e1',e2']
    exact ih _ _ _ _ (hx j _ _ hx1 hy1) ru1 ru2)
   rw[DC,Bool.true_and,show (its.toArray.size == its2.toArray.size)=true by simp;omega] at this
   exact SeqAt.EqAt.of_refs hab this
theorem OB {n:Nat} {A:Around} (hu:A.units+n<cLine) (I:Inv X pins σ H s) {xs ys:List V} {its its2:List Value} (q1:Vals xs its) (q2:Vals ys its2) (hl:xs.length=ys.length) (hx:∀(i:Nat) x y,xs[i]? = some x→ys[i]? = some y→DS X.K H n x y) :
  ∀j (h1:j<its.toArray.size) (h2:j<its2.toArray.size),SeqAt.EqAt A s its.toArray[j] its2.toArray[j] true:=fun j j1 j2=>by
 have l1:=q1.length
 have l2:=q2.length
 have j1':j<its.length:=by simpa using j1
 have j2':j<its2.length:=by simpa using j2
 have hx1:xs[j]? = some xs[j]:=List.getElem?_eq_getElem (by omega)
 have hy1:ys[j]? = some ys[j]:=List.getElem?_eq_getElem (by omega)
 obtain⟨u1,e1,ru1⟩:=q1.get hx1
 obtain⟨u2,e2,ru2⟩:=q2.get hy1
 have e1':its.toArray[j]=u1:=by
  have:=List.getElem?_eq_getElem j1'
  rw[this] at e1
  simpa using Option.some.inj e1
 have e2':its2.toArray[j]=u2:=by
  have:=List.getElem?_eq_getElem j2'
  rw[this] at e2
  simpa using Option.some.inj e2
 rw[e1',e2']
 exact Q3 n hu I _ _ _ _ (hx j _ _ hx1 hy1) ru1 ru2
def UW (K:PySem.W.Frag) (r:Bool):R2:=fun x y H Q=>∃a b xs ys,x= .ref a∧y= .ref b∧xs.length=ys.length∧(∀(i:Nat) x y,xs[i]? = some x→ys[i]? = some y→DS K H 3 x y)∧((SqL K H a xs∧SqL K H b ys)∨(SqT K H a xs∧SqT K H b ys))∧Q (.bl r) H
theorem R1 (hu:X.A.units+9<cLine):Ca X (compareOp .NotEq) (UW X.K false):=by
 intro pins s σ H x y v u Q I rx ry h
 obtain⟨a,b,xs,ys,rfl,rfl,hl,hx,hk,q⟩:=h
 cases rx
 cases ry
 rcases hk with⟨h1,h2⟩|⟨h1,h2⟩
 ·obtain⟨its,q1,pl,_⟩:=I.list h1
  obtain⟨its2,q2,pl2,_⟩:=I.list h2
  have l1:=q1.length
  have l2:=q2.length
  refine SeqAt.RcNeAt.lists (e:=fun _=>true) pl.isList pl2.isList (by simp;omega) (by omega) (OB (A:=X.A.in1) (by show X.A.units+1+3<cLine;omega) I q1 q2 hl hx) _ _ _ _ ?_
  rw[DC]
  exact⟨.bl false,H,I,rfl,q⟩
 ·obtain⟨its,q1,pl,_⟩:=I.tuple h1
  obtain⟨its2,q2,pl2,_⟩:=I.tuple h2
  have l1:=q1.length
  have l2:=q2.length
  refine SeqAt.RcNeAt.tuples (e:=fun _=>true) pl pl2 (by omega) (OB (A:=X.A.in1) (by show X.A.units+1+3<cLine;omega) I q1 q2 hl hx) _ _ _ _ ?_
  rw[DC,Bool.true_and,show (its.toArray.size == its2.toArray.size)=true by simp;omega]
  exact⟨.bl false,H,I,rfl,q⟩
theorem Room.units9 {k:Nat} {A:Around} (r:Room k A):A.units+9<cLine:=by have:=r.un;omega
end
end L2
namespace HT2
open PySem L2 PyProof.Rows
theorem HS {K:PySem.W.Frag} {a acc:Addr} {row:List Int} {p:Int→Bool} {tc:TT} {rest:L2.St} {D:Ends} {H:Hp} (hr:SqL K H a (row.map V.int)) (hacc:H acc=none) (hlen:row.length≤900)
  (ht:∀k,k∈row→∀H2,Same H H2→∀R:Bool→Hp→Prop,(∀H3,Same H2 H3→R (p k) H3)→tc (some (.int k)::rest) H2 R)
  (hd:∀v0 H2,Same H H2→H2 acc=some (.lst ((row.filter p).map V.int))→D.nx (v0::rest) H2) (v:Option V) :
  Dx (RO K a) (FU 0) (D3 tc (Db acc (Ny 0))) D (v::rest) (upd H acc (.lst [])):=by
 refine Bc (K:=K) (a:=a) (xs:=row.map V.int) (fun i σ H2=>∃v0,σ=v0::rest∧Same H H2∧H2 acc=some (.lst (((row.take i).filter p).map V.int))) ⟨v,rfl,Ae hacc _,upd_same⟩ ?_ ?_ ?_
 ·rintro i σ H2 _ ⟨v0,rfl,s2,_⟩
  exact s2.seq hr
 ·rintro i x σ H2 hx ⟨v0,rfl,s2,ha2⟩
  rw[List.getElem?_map] at hx
  obtain⟨k,hk,rfl⟩:=Option.map_eq_some_iff.mp hx
  have et:row.take (i+1)=row.take i++[k]:=by rw[List.take_add_one,hk];rfl
  refine ht k (List.mem_of_getElem? hk) H2 s2 _ fun H3 s3=>?_
  have ha3:=s3 _ _ ha2
  cases e:p k with
  | false=>
   refine⟨_,rfl,s2.trans s3,?_⟩
   rw[et,List.filter_append,List.filter_cons_of_neg (by rw[e];simp),List.filter_nil,List.append_nil]
   exact ha3
  | true=>
   refine⟨_,rfl,_,ha3,AI ?_,?_⟩
   ·rw[List.length_map]
    refine Nat.le_trans (List.length_filter_le _ _) ?_
    rw[List.length_take]
    omega
   refine⟨_,rfl,Az (s2.trans s3) hacc _,?_⟩
   rw[upd_same,et,List.filter_append,List.filter_cons_of_pos e,List.filter_nil,List.map_append]
   rfl
 ·rintro σ H2 ⟨v0,rfl,s2,ha2⟩
  rw[List.length_map,List.take_length] at ha2
  exact hd v0 H2 s2 ha2
theorem K5 {a b:List Int} (ha:a.Pairwise (· < ·)) (hb:b.Pairwise (· < ·)) (h:∀k,k∈a↔k∈b):a=b:=by
 have na:a.Nodup:=ha.imp fun h=>by omega
 have nb:b.Nodup:=hb.imp fun h=>by omega
 have hp:a.Perm b:=(List.perm_ext_iff_of_nodup na nb).mpr h
 exact PySem.W.ksm_same hp (ha.imp fun h=>by omega) (hb.imp fun h=>by omega)
end HT2
namespace L2
open PySem PySem.Spec PyProof.Rows
section
variable {X:Cx} {N:List Str} {scope:Scope} {cl:List (Str×Addr)} {js:List (Option Nat)} {elt tg iter:Expr} {ifs:List Expr} {rest:List Comprehension} {pos spos ypos:Pos} {wi:TI} {g:CC→TG} {tb:CC→Addr→TS} {i:Nat} {y:Str}
end
end L2
namespace L2
open PySem PySem.Spec PyProof.Rows
section
variable {X:Cx} {CX:Kc} {k:Nat} {f:Addr} {fd:FuncData} {ps:List Str} {sp:Sp} {ds:List Value} {dvs:List V} {E:XK} {σ:St} {x:Str} {e:Expr} {es:List Expr} {t:TA} {p pos:Pos}
end
section
variable {X:Cx} {Dc:Addr} {i:Nat} {x n:Str} {np hpos pos:Pos} {body suite:List Stmt} {b0:Stmt} {tb:XK→TS} {th:Addr→Obj→TS} {hs:List ExceptHandler} {tr:St→N6}
end
end L2
namespace L2
open PySem PySem.Spec PyProof.Rows
section
variable {X:Cx} {Dc:Addr} {i:Nat} {x n:Str} {np hpos pos:Pos} {body suite:List Stmt} {b0:Stmt} {tb:XK→TS} {th:Addr→Obj→TS} {hs:List ExceptHandler} {tr:N6} {pins:List (Addr×Obj)} {σ:St} {H:Hp} {s:Shared}
end
end L2
namespace L2
open PySem PySem.Spec PyProof.Rows
section
variable {prog:Program} {w:World} {A:Around} {E:Value→Shared→Prop} {s:Shared} {env:Env}
end
end L2
namespace L2
open PySem PySem.Spec PyProof.Rows
section
variable {X:Cx} {tg:Expr} {ah:Addr} {oh:Obj}
end
section
variable {X:Cx} {e tg:Expr} {d:Nat} {acc:Value} {it:Addr} {WB:Pn} {tb:TS} {g:TG} {J:It} {fp:List Addr} {tn:Nat→Heap→Prop} {D:Ends} {pins:List (Addr×Obj)} {σ:St} {H:Hp} {s:Shared}
end
section
variable {X:Cx} {N:List Str} {scope:Scope} {cl:List (Str×Addr)} {js:List (Option Nat)} {elt tg iter:Expr} {ifs:List Expr} {rest:List Comprehension} {pos:Pos} {wi:TI} {g:CC→TG} {tb:CC→Addr→TS}
end
end L2
namespace L2
open PySem PySem.Spec PyProof.Rows
theorem Sg {P:Program} {w:World} {H:Hp} (h:Heap) (hb:sysModules<h.objs.size):ObjOk P w H (h.push { cls:=.type "dict",data:=.dict #[] }) h.objs.size (.dK []):=by
 refine⟨Nat.zero_le _,?_,[],.nil,Heap.DictOf.new h⟩
 rw[beq_eq_false_iff_ne]
 exact fun z=>by rw[z] at hb;exact Nat.lt_irrefl _ hb
def QH:TE:=fun _ H Q=>∀d,H d=none→Q (.ref d) (upd H d (.dK []))
section
variable {X:Cx} {pos:Pos}
theorem ME:PE X (.Dict [] [] pos) QH:=by
 intro pins s σ H Q I h
 have fr:H s.heap.objs.size=none:=I.hok.fresh (Nat.le_refl _)
 refine wpAny_Dict_empty ⟨.ref s.heap.objs.size,upd H s.heap.objs.size (.dK []),?_,rfl,h _ fr⟩
 exact I.laid (t':=s.toks) (fun b o q=>Heap.get?_push_of_some _ q) (Nat.le_refl _) (Sg s.heap (Nat.lt_trans (by decide:sysModules<mainGlobals) (I.mod.glob.keeps I.bk).lt))
theorem FP:Bp X (.type "str") (fun xs H Q=>∃i:Int,xs=[.int i]∧0≤i∧i<2^60∧Q (.str (toString i)) H):=by
 intro pins s σ H xs us Q I r h
 obtain⟨i,rfl,h0,h1,q⟩:=h
 obtain⟨u,rfl,ru⟩:=BN r
 obtain⟨t,rfl⟩:=ru
 refine P.str_of_int ?_ ⟨.str (toString i),H,?_,⟨_,rfl⟩,q⟩
 ·have:i.natAbs<2^60:=by omega
  have h2:i.natAbs.log2<61:=by
   by_cases c:i.natAbs=0
   ·rw[c];decide
   ·exact Nat.lt_of_lt_of_le ((Nat.log2_lt c).mpr this) (by decide)
  omega
 ·exact I.tok _
end
end L2
namespace L2
open PySem PySem.Spec PyProof.Rows
section
variable {prog:Program} {w:World} {A:Around} {E:Value→Shared→Prop} {s:Shared}
end
section
variable {X:Cx}
def Qw:R2:=fun x y H Q=>∃(i j:Int) (r:Addr),x= .int i∧y= .ref r∧H r=some (.rng 0 j)∧Q (.bl (!decide (0≤i∧i<j))) H
theorem MF (i j:Int):(Builtin.Range.rangePlace? 0 j 1 i).isSome=decide (0≤i∧i<j):=by
 unfold Builtin.Range.rangePlace?
 by_cases h1:0≤i
 ·by_cases h2:i<j
  ·simp[h1,h2]
  ·simp[h1,h2]
 ·simp[h1]
theorem Mw:Ca X (compareOp .NotIn) Qw:=by
 intro pins s σ H x y v u Q I rx ry h
 obtain⟨i,j,r,rfl,rfl,hr,q⟩:=h
 obtain⟨t,rfl⟩:=rx
 cases ry
 obtain⟨t1,t2,t3,ho⟩:=(show ObjOk X.prog X.w H s.heap r (.rng 0 j) from I.hok r _ hr)
 have g:Meets (Builtin.«range.__contains__» ⟨[.ref r,.int i t],[]⟩) (fun _ R s=>s.heap.get? r=some { cls:=.type "range",data:=.fields #[.int 0 t1,.int j t2,.int 1 t3] }∧R (.ok (.ret (.bool (decide (0≤i∧i<j))))) s):=.of_wp fun prog w A R s h=>by
  obtain⟨hl,h⟩:=h
  unfold Builtin.«range.__contains__»
  refine wpAny_bind (wpAny_of_eq rfl ?_)
  show wpAny _ _ (do rule "range.contains.reckoned";let (a,b,c) ←Builtin.Range.rangeFields (.ref r);ret (.bool (Builtin.Range.rangePlace? a b c i).isSome)) _ _ _
  refine wpAny_bind (wpAny_rule ?_)
  refine wpAny_bind ?_
  unfold Builtin.Range.rangeFields
  refine wpAny_bind (wpAny_field hl rfl rfl ?_)
  refine wpAny_bind (wpAny_of_eq rfl ?_)
  refine wpAny_bind (wpAny_field hl rfl rfl ?_)
  refine wpAny_bind (wpAny_of_eq rfl ?_)
  refine wpAny_bind (wpAny_field hl rfl rfl ?_)
  refine wpAny_bind (wpAny_of_eq rfl ?_)
  refine wpAny_pure ?_
  show wpAny _ _ (ret (.bool (Builtin.Range.rangePlace? 0 j 1 i).isSome)) _ _ _
  rw[MF]
  exact wpAny_pure ⟨_,rfl,h⟩
 exact PySem.SeqRoads2.notIn_meets ⟨_,ho,rfl⟩ F.slot_range_contains F.entry_range_contains (F.args_range_contains_2 _ _) g ⟨ho,_,rfl,.bl _,H,I,rfl,q⟩
end
end L2
namespace L2
open PySem PySem.Spec PyProof.Rows
def dS (d:List (Str×V)):List (DT×V):=d.map fun p=>(Sum.inr p.1,p.2)
def Bz (d:List (Str×V)) (k:Str):Option V:=(d.find? fun p=>decide (p.1=k)).map (·.2)
theorem Jm (d:List (Str×V)):(dS d).length=d.length:=List.length_map _
theorem Ry (d e:List (Str×V)):dS (d++e)=dS d++dS e:=List.map_append ..
theorem Ln:∀{d:List (Str×V)} {vs:List (DT×Value)} (_:KV (dS d) vs) (k:Str),RelO (Bz d k) (valueAt vs (.inr k))
 | [],vs,r,k=>by cases r;exact True.intro
 | p::d,vs,r,k=>by
  cases r with
  | @cons _ q _ qs h t=>
   by_cases e:p.1=k
   ·have e':q.1=Sum.inr k:=by rw[←h.1];exact congrArg Sum.inr e
    have a:Bz (p::d) k=some p.2:=by simp[Bz,List.find?_cons,e]
    have b:valueAt (q::qs) (.inr k)=some q.2:=by simp[valueAt,List.find?_cons,e']
    rw[a,b];exact h.2
   ·have e':¬q.1=Sum.inr k:=by rw[←h.1];exact fun z=>e (Sum.inr.inj z)
    have a:Bz (p::d) k=Bz d k:=by simp[Bz,List.find?_cons,e]
    have b:valueAt (q::qs) (.inr k)=valueAt qs (.inr k):=by simp[valueAt,List.find?_cons,e']
    rw[a,b];exact Ln t k
theorem Ks:∀{d:List (DT×V)} {vs:List (DT×Value)} {k:DT} {v:V} {u:Value},KV d vs→RelV v u→KV (d++[(k,v)]) (vs++[(k,u)])
 | [],vs,k,v,u,r,ru=>by cases r;exact .cons ⟨rfl,ru⟩ .nil
 | p::d,vs,k,v,u,r,ru=>by cases r with | cons h t=>exact .cons h (Ks t ru)
theorem OU:∀{d:List (Str×V)} {vs:List (DT×Value)} (_:KV (dS d) vs) {k:Str},Bz d k=none→(vs.any fun kv=>decide (kv.1=Sum.inr k))=false
 | [],vs,r,k,_=>by cases r;rfl
 | p::d,vs,r,k,h0=>by
  cases r with
  | @cons _ q _ qs h t=>
   by_cases e:p.1=k
   ·have a:Bz (p::d) k=some p.2:=by simp[Bz,List.find?_cons,e]
    rw[a] at h0;exact nomatch h0
   ·have e':¬q.1=Sum.inr k:=by rw[←h.1];exact fun z=>e (Sum.inr.inj z)
    have a:Bz (p::d) k=Bz d k:=by simp[Bz,List.find?_cons,e]
    rw[List.any_cons,decide_eq_false e',OU t (a ▸ h0)];rfl
section
variable {X:Cx}
theorem Km {pins:List (Addr×Obj)} {σ:St} {H:Hp} {s:Shared} {a:Addr} {d:List (Str×V)} (I:Inv X pins σ H s) (h:H a=some (.dK (dS d))) :
  d.length≤sizeLine∧(a == sysModules)=false∧∃vs,KV (dS d) vs∧s.heap.DictOf (CY X.prog X.w) a vs:=by
 have:=(show ObjOk X.prog X.w H s.heap a (.dK (dS d)) from I.hok a _ h)
 obtain⟨z,m,r⟩:=this
 exact⟨by rw[←Jm];exact z,m,r⟩
theorem Rg {pins:List (Addr×Obj)} {σ:St} {H:Hp} {s:Shared} {a:Addr} {d d':List (Str×V)} {vs:List (DT×Value)} {h':Heap} {t':Nat} (I:Inv X pins σ H s) (h:H a=some (.dK (dS d))) (hm:(a == sysModules)=false)
  (hs:Heap.SameBut a s.heap h') (hd:h'.DictOf (CY X.prog X.w) a vs) (r:KV (dS d') vs) (hl:d'.length≤sizeLine):Inv X pins σ (upd H a (.dK (dS d'))) { s with heap:=h',toks:=t' }:=by
 have he:∃q,h'.get? a=some q:=let ⟨q,_,_,hq,_⟩:=hd;⟨q,hq⟩
 exact I.write (x:=a) (e:=a) (by rw[h];exact True.intro) (.inl rfl) (fun b q hb z=>(hs.2 b hb).trans z) he ⟨by rw[Jm];exact hl,hm,vs,r,hd⟩
def Tl (neg:Bool):R2:=fun x y H Q=>∃(a:Addr) (d:List (Str×V)) (k:Str),x= .str k∧y= .ref a∧H a=some (.dK (dS d))∧Q (.bl (neg ^^ (Bz d k).isSome)) H
theorem Ek {a:Option V} {b:Option Value} (r:RelO a b):a.isSome=b.isSome:=by
 cases a<;>cases b<;>first | rfl | exact False.elim r
theorem RK:Ca X (compareOp .In) (Tl false):=by
 intro pins s σ H x y v u Q I rx ry h
 obtain⟨a,d,k,rfl,rfl,hd,q⟩:=h
 obtain⟨t,rfl⟩:=rx
 cases ry
 obtain⟨_,hm,vs,r,D⟩:=Km I hd
 refine wpAny_in_of (BU _ _ k t) hm D.mapOf ⟨.bl _,H,I.tok _,?_,q⟩
 rw[Bool.false_xor,Ek (Ln r k)];rfl
theorem LM:Ca X (compareOp .NotIn) (Tl true):=by
 intro pins s σ H x y v u Q I rx ry h
 obtain⟨a,d,k,rfl,rfl,hd,q⟩:=h
 obtain⟨t,rfl⟩:=rx
 cases ry
 obtain⟨_,hm,vs,r,D⟩:=Km I hd
 refine wpAny_notIn_of (BU _ _ k t) hm D.mapOf ⟨.bl _,H,I.tok _,?_,q⟩
 rw[Bool.true_xor,Ek (Ln r k)];rfl
def TK:R2:=fun x y H Q=>∃(a:Addr) (d:List (Str×V)) (k:Str) (z:V),x= .ref a∧y= .str k∧H a=some (.dK (dS d))∧Bz d k=some z∧Q z H
theorem Qu:Se X TK:=by
 intro value slice pins s σ H x y v u Q I rx ry h hs
 obtain⟨a,d,k,z,rfl,rfl,hd,e,q⟩:=h
 cases rx
 obtain⟨t,rfl⟩:=ry
 obtain⟨_,hm,vs,r,D⟩:=Km I hd
 have hr:=Ln r k
 rw[e] at hr
 cases ev:valueAt vs (Sum.inr k:DT) with
 | none=>rw[ev] at hr;exact False.elim hr
 | some u'=>
  rw[ev] at hr
  exact tail_any D.typeIs slot_dict_getitem.lookup (wpAny_getItem_of (BU _ _ k t) D.mapOf ev ⟨z,H,I.tok _,hr,q⟩) hs
def Su:V→V→V→Hp→(Hp→Prop)→Prop:=fun o i v H Q=>∃(a:Addr) (d:List (Str×V)) (k:Str),o= .ref a∧i= .str k∧H a=some (.dK (dS d))∧Bz d k=none∧d.length≤1000∧Q (upd H a (.dK (dS (d++[(k,v)]))))
theorem O2:RE X Su:=by
 intro pins s σ H o i v ov iv u Q I ro ri rv h
 obtain⟨a,d,k,rfl,rfl,hd,hn,hl,q⟩:=h
 cases ro
 obtain⟨t,rfl⟩:=ri
 obtain⟨hz,hm,vs,r,D⟩:=Km I hd
 have hvl:vs.length=d.length:=by rw[←Paired.length r,Jm]
 refine wpAny_setItem_pairs (hsz:=by rw[hvl];exact hz) (BU _ _ k t) D fun h' D' hs=>⟨_,Rg I hd hm hs D' (d':=d++[(k,v)]) ?_ ?_,q⟩
 ·unfold stored
  rw[OU r hn,if_neg Bool.false_ne_true,Ry]
  exact Ks r rv
 ·rw[List.length_append]
  exact Nat.le_trans (show d.length+1≤1001 by omega) (by decide)
end
end L2
namespace L2
open PySem PySem.Spec PyProof.Rows
section
variable {X:Cx}
end
end L2
namespace L2
open PySem PySem.Spec PyProof.Rows
theorem Qx:Bind.staticBase (Value.type "enumerate")=pure (Value.type "enumerate"):=by
 obtain⟨mc,ml,mr⟩:=F.called_enumerate.mro
 have zm:=F.called_enumerate.made
 unfold Bind.staticBase
 rw[mr]
 simp only[pure_bind,List.forIn_cons,zm,Option.isSome_some,if_true]
theorem Ov (l:Addr) (t:Tok):checkBuiltinCall "enumerate.__new__" ⟨[.type "enumerate",.ref l],[("start",.int 1 t)]⟩=pure ():=by
 have hs:splitId "enumerate.__new__"=some ("enumerate","__new__"):=by decide +kernel
 have hk:builtinKind "enumerate.__new__"=some Manifest.AttrKind.builtinFn:=by rfl
 have hsg:(match Manifest.signature? "enumerate.__new__" with | some sig=>Bind.checkArgs "enumerate.__new__" sig ⟨[.type "enumerate",.ref l],[("start",.int 1 t)]⟩|none=>pure ())=pure ():=by rfl
 have hnn:((Manifest.find? "enumerate").elim false fun x=>x.noNew)=false:=by rfl
 have hit:isType (Value.type "enumerate")=pure true:=by rfl
 unfold checkBuiltinCall
 rw[hs,hk]
 simp only[hit,pure_bind,F.called_enumerate.sub,hnn,Qx,F.called_enumerate.made,bne_self_eq_false,Bool.not_true,Bool.false_eq_true,if_false,beq_self_eq_true,if_true]
 exact hsg
section
variable {prog:Program} {w:World} {A:Around} {E:Value→Shared→Prop} {s:Shared}
theorem Lx {M:Model} {b:Bool} {Q:Bool→Shared→Prop} (h1:Q true s) (h2:Q false s):wpAny M A (pure b) Q E s:=wpAny_pure (by cases b<;>assumption)
theorem RH (l:Addr) (items:Array Value) (n:Nat) (dct:Option Addr) (sl:Array (Option Value)) (t:Tok) {Q:Fin→Shared→Prop} (hl:s.heap.get? l=some { cls:=Value.type "list",dict:=dct,data:=Data.seq items n,slots:=sl })
   (k:Q (.done (.ret (Value.ref (s.heap.objs.size+1))))
        { s with heap:=(s.heap.push { cls:=Value.type "list_iterator",data:=Data.fields #[Value.ref l,Value.int 0 0] }).push { cls:=Value.type "enumerate",data:=Data.fields #[Value.none,Value.bool false,Value.ref s.heap.objs.size,rawInt 1,Value.none,Value.none] } }) :
   wpAny (model prog w) A (Builtin.«enumerate.__new__» { pos:=[Value.type "enumerate",Value.ref l],kw:=[("start",.int 1 t)] }) Q E s:=by
  unfold Builtin.«enumerate.__new__» Builtin.SmallTypes.newClass Builtin.SmallTypes.calledThroughType
  repeat (first | wp_step)
  rw[F.called_enumerate.sub]
  repeat (first | wp_step)
  have fin:wpAny (model prog w) A (do
                      let __do_lift ←pyIter (Value.ref l)
                      let __do_lift ←Builtin.SmallTypes.newRecord (Value.type "enumerate") (Builtin.SmallTypes.ownedTupleFields++[__do_lift,rawInt 1,Value.none,Value.none])
                      ret __do_lift) Q E s:=by
    refine wpAny_bind (wpAny_pyIter_list ⟨_,hl,rfl,_,rfl⟩ ?_)
    unfold Builtin.SmallTypes.newRecord
    repeat wp_step
    rw[Heap.size_push]
    exact k
  refine wpAny_stack fun st _ _ _=>Lx ?_ ?_
  ·apply wpAny_bind<;>(with_unfolding_all refine wpAny_pure (a:=(Value.ref l,some (Value.int 1 t))) ?_)<;>(unfold Builtin.SmallTypes.indexObject asInt?)<;>(repeat (first | exact fin | wp_step))
  ·apply wpAny_bind<;>(with_unfolding_all refine wpAny_pure (a:=(Value.ref l,some (Value.int 1 t))) ?_)<;>(unfold Builtin.SmallTypes.indexObject asInt?)<;>(repeat (first | exact fin | wp_step))
set_option maxHeartbeats 4000000 in
theorem QF {l:Addr} {items:Array Value} {t:Tok} {Q:Value→Shared→Prop} (hl:s.heap.IsList l items)
 (k:∀h':Heap,IsEnum h' (s.heap.objs.size+1) s.heap.objs.size 1 Value.none→h'.IsListIter s.heap.objs.size l 0→(∀b o,s.heap.get? b=some o→h'.get? b=some o)→Q (.ref (s.heap.objs.size+1)) { s with heap:=h' }) :
 wpAny (model prog w) A (call (.type "enumerate") [.ref l] [("start",.int 1 t)]) Q E s:=by
 have z1:=tc_lookup
 have z2:=tc_bind (.type "enumerate")
 refine wpAny_call (codeAny_of_tree ?_)
 show wpAny _ _ (callAny (.type "enumerate") ⟨[.ref l],[("start",.int 1 t)]⟩) _ _ _
 repeat (any_goals (first | assumption | wp_step))
 refine⟨Code.quiet_builtin _ (by decide +kernel),codeAny_builtin entry_typeCall ?_⟩
 have zm:=F.called_enumerate.made
 have zs:=F.called_enumerate.sub
 have c1:checkTypeCall "enumerate" ⟨[.ref l],[("start",.int 1 t)]⟩=pure ():=by rfl
 obtain⟨mc,ml,mr⟩:=F.called_enumerate.mro
 have cc:=F.called_enumerate.canCreate
 unfold Builtin.«type.__call__»
 repeat (any_goals (first | assumption | wp_step))
 refine codeAny_call_builtin_at (Code.quiet_builtin _ (by decide +kernel)) F.entry_enumerate_new ?_
 refine wpAny_of_eq (Ov l t) ?_
 obtain⟨o,ho,hc,n,hd⟩:=hl
 obtain⟨oc,od,oda,osl⟩:=o
 cases hc
 cases hd
 refine RH l items n od osl t ho ?_
 have hE:((s.heap.push { cls:=Value.type "list_iterator",data:=Data.fields #[Value.ref l,Value.int 0 0] }).push { cls:=Value.type "enumerate",data:=Data.fields #[Value.none,Value.bool false,Value.ref s.heap.objs.size,rawInt 1,Value.none,Value.none] }).get? (s.heap.objs.size+1)=some { cls:=Value.type "enumerate",data:=Data.fields #[Value.none,Value.bool false,Value.ref s.heap.objs.size,rawInt 1,Value.none,Value.none] }:=by heap_get
 dsimp only
 unfold isInstance
 repeat (first | with_reducible refine wpAny_loadPart_at hE ?_ | wp_step)
 have VI:=F.slot_enumerate_init
 refine wpAny_of_eq VI.lookup ?_
 refine wpAny_holding (wpAny_bind (wpAny_of_eq (VI.bind _) (wpAny_bind (wpAny_call (codeAny_call_builtin VI.plain F.entry_object_init (VI.check _ _ _ _ _ _ _ _ ⟨_,hE,rfl⟩ (by rfl) ?_))))))
 have VL:=VI.lookup
 unfold Builtin.«object.__init__»
 iterate 12 (first | assumption | with_reducible refine wpAny_loadPart_at hE ?_ | wp_step)
 show wpAny _ _ (if (!(_ || (some "enumerate.__new__" != some "object.__new__")))=true then _ else _) _ _ _
 rw[show (some "enumerate.__new__" != some "object.__new__")=true by decide,Bool.or_true]
 repeat (first | wp_step)
 exact k _ hE ⟨{ cls:=Value.type "list_iterator",data:=Data.fields #[Value.ref l,Value.int 0 0] },by heap_get,rfl,rfl⟩ fun b o hb=>Heap.get?_push_of_some _ (Heap.get?_push_of_some _ hb)
end
theorem EW {prog:Program} {w:World} {A:Around} {it:Addr} {fp:List Addr} {n:Nat} {P:Nat→Value→Prop} {St:Nat→Heap→Prop} (D:Draws prog w A it fp n P St) :
  Draws prog w A it fp (n+1) (fun i x=>P (i-1) x) (fun i h=>1≤i∧St (i-1) h) where
 live:=fun i h st=>D.live _ h st.2
 frame:=fun i h h' st k=>⟨st.1,D.frame _ h h' st.2 k⟩
 item:=fun i s Q E hi st k=>D.item (i-1) s Q E (by have:=st.1;omega) st.2 fun x h' tk p st' sb=>k x h' tk p ⟨by omega,by
  have:=st.1
  rw[show i+1-1=i-1+1 by omega]
  exact st'⟩ sb
 done:=fun s Q E st k=>D.done s Q E (by simpa using st.2) k
def On (a:Addr):It:=
 ⟨fun i H=>∃xs x,H a=some (.lst xs)∧xs[i]? = some x,fun i H x H'=>∃T y,H T=none∧(∀xs,H a=some (.lst xs)→xs[i]? = some y)∧x= .ref T∧H'=upd H T (.tup [.int ((i+1:Nat):Int),y]),fun i H=>∃xs,H a=some (.lst xs)∧xs.length=i⟩
theorem LD {a:Addr} {xs:List V} {g:TG} {tb:TS} {D:Ends} {σ:St} {H:Hp} (Pv:Nat→St→Hp→Prop) (h0:Pv 0 σ H) (hl:∀i σ H,i≤xs.length→Pv i σ H→H a=some (.lst xs))
  (hs:∀i y T σ H,xs[i]? = some y→H T=none→Pv i σ H→g (.ref T) σ (upd H T (.tup [.int ((i+1:Nat):Int),y])) fun σ2 H2=>tb { D with nx:=Pv (i+1),ct:=Pv (i+1),bk:=D.nx } σ2 H2) (hd:∀σ H,Pv xs.length σ H→D.nx σ H):Dx (On a) g tb D σ H:=by
 refine⟨fun i m σ H=>m=xs.length-i∧i≤xs.length∧Pv i σ H,⟨xs.length,by simp,Nat.zero_le _,h0⟩,?_⟩
 rintro i m σ H ⟨rfl,hi,p⟩
 have q:=hl i σ H hi p
 by_cases hlt:i<xs.length
 ·refine .inr ⟨⟨xs,xs[i],q,by simp[hlt]⟩,Pv (i+1),fun σ' H' p'=>⟨xs.length-(i+1),by omega,rfl,hlt,p'⟩,fun x H' y=>?_⟩
  obtain⟨T,y,hT,hy,e1,e2⟩:=y
  subst e1 e2
  exact hs i y T σ _ (hy xs q) hT p
 ·have e:i=xs.length:=by omega
  subst e
  exact .inl ⟨⟨xs,q,rfl⟩,hd σ H p⟩
theorem JM {P:Program} {w:World} {K:PySem.W.Frag} {elts:List Expr} {k:Nat} {tp:Pos} (a e it:Addr) (hei:e≠it) :
  Fu P w K (.Tuple elts k tp) (On a) [e,it] e (fun i h=>(∃old,IsEnum h e it ((i+1:Nat):Int) old)∧h.IsListIter it a i) where
 mem:=by simp
 obj:=fun i h st b hb=>by
  obtain⟨⟨old,he⟩,o,ho,c,d⟩:=st
  rcases List.mem_cons.mp hb with q | q
  ·subst q
   exact⟨_,he,fun v z=>by
    have z':Data.fields _=Data.cell v:=z
    cases z'⟩
  ·have q':b=it:=by simpa using q
   subst q'
   exact⟨o,ho,fun v z=>by rw[d] at z;cases z⟩
 keep:=fun i h h' st k=>by
  obtain⟨⟨old,he⟩,hi⟩:=st
  exact⟨⟨old,k e (by simp) _ he⟩,hi.at fun o e=>k it (by simp) o e⟩
 item:=by
  intro X hP hw hK hc i pins s σ H E I hf st hg
  subst hP hw hK
  obtain⟨xs,x,hq,hx⟩:=hg
  obtain⟨its,rv,p,hz⟩:=I.list (SqL.of hq)
  obtain⟨u,hu,ru⟩:=rv.get hx
  have hlen:=rv.length
  have hi:i<xs.length:=(List.getElem?_eq_some_iff.mp hx).1
  have nai:a≠it:=Af hq (hf it (by simp)).1
  have nae:a≠e:=Af hq (hf e (by simp)).1
  have D:=EW (Draws.list (prog:=X.prog) (w:=X.w) (A:=X.A.in1) (I.ok.hd hc) it a nai its.toArray)
  have WT:=WalksT.enumerateD (A:=X.A) D e hei (by simp[hei,nae.symm]) (by simp)
  refine WT.item (i+1) s _ _ (by simp;omega) ⟨st.1,Nat.le_add_left 1 i,st.2,p.isList⟩ fun T vals h1 tk hv hT htup hmid kk=>?_
  obtain⟨t',x2,hx2,rfl⟩:=hv
  have hx2':its[i]? = some x2:=by simpa using hx2
  have ex:x2=u:=by rw[hu] at hx2';exact (Option.some.inj hx2').symm
  subst ex
  have I1:Inv X pins σ (upd H T (.tup [.int ((i+1:Nat):Int),x])) { s with heap:=h1,toks:=tk }:=I.turnedT (its:=[.int ((i+1:Nat):Int) t',x2]) hf kk hT (by show 2≤sizeLine;decide) (.cons ⟨_,rfl⟩ (.cons ru .nil)) htup
  have nT:∀b∈[e,it],b≠T:=fun b hb z=>by
   subst z
   exact WT.apart _ _ _ hmid hb
  have hf1:∀b∈[e,it],B2 X pins (upd H T (.tup [.int ((i+1:Nat):Int),x])) b:=fun b hb=>⟨by rw[Ah (nT b hb)];exact (hf b hb).1,(hf b hb).2⟩
  refine⟨_,rfl,WT.go elts k tp (i+1) T _ _ _ hmid fun h2 st2 kk2=>?_⟩
  refine⟨.ref T,_,I1.turnedL (t':=tk) hf1 kk2,rfl,⟨T,x,I.hok.fresh hT,fun zs hzs=>?_,rfl,rfl⟩,⟨st2.1,st2.2.2.1⟩,fun b hb=>(hf1 b hb).1⟩
  rw[hq] at hzs
  cases hzs
  exact hx
 done:=by
  intro X hP hw hK hc i pins s σ H E I hf st hg
  subst hP hw hK
  obtain⟨xs,hq,rfl⟩:=hg
  obtain⟨its,rv,p,hz⟩:=I.list (SqL.of hq)
  have hlen:=rv.length
  have nai:a≠it:=Af hq (hf it (by simp)).1
  have nae:a≠e:=Af hq (hf e (by simp)).1
  have D:=EW (Draws.list (prog:=X.prog) (w:=X.w) (A:=X.A.in1) (I.ok.hd hc) it a nai its.toArray)
  have WT:=WalksT.enumerateD (A:=X.A) D e hei (by simp[hei,nae.symm]) (by simp)
  refine WT.done s _ _ ?_ fun h' tk kk=>⟨rfl,I.turnedL hf kk⟩
  have e1:its.toArray.size=xs.length:=by simp;omega
  rw[e1]
  exact⟨st.1,Nat.le_add_left 1 _,st.2,p.isList⟩
 self:=fun A i s Q E st h=>by
  obtain⟨⟨old,he⟩,_⟩:=st
  exact wpAny_pyIter_enum he h
end L2
namespace L2
open PySem PySem.Spec PyProof.Rows
section
variable {X:Cx} {tg:Expr}
def Q8 (ta:TA):TI:=fun σ H R=>ta σ H fun vs H1=>∃a xs,vs=[.ref a]∧H1 a=some (.lst xs)∧R (On a) H1
theorem NV {elts:List Expr} {k:Nat} {tp:Pos} {a:Expr} {ta:TA} {ik:Nat} {p pos kpos ipos:Pos} (hg:Gl X "enumerate") (hm:X.mg "enumerate"=none) (ha:PA X [a] ta) (he:starEach [a] X.env=[(false,eval a X.env)]:=by rfl):PI X (.Tuple elts k tp) (.Call (.Name "enumerate" p) [a] [⟨some "start",.Constant (.int 1) ik ipos,kpos⟩] pos) (Q8 ta):=by
 intro pins s σ H R I h
 refine wpAny_Call_Name_kw (De I hg hm boot_enumerate ?_ (by decide) (by decide))
 unfold callWith
 refine wpAny_bind (wpAny_holding (evalArgs_kw2 rfl (Ay (ha pos pins s σ H _ I h) fun us s1 ⟨vs,H1,I1,r,q⟩=>?_) he))
 obtain⟨l,xs,rfl,hq,q⟩:=q
 obtain⟨u,rfl,ru⟩:=BN r
 cases ru
 refine wpAny_evalAll_cons (wpAny_bind (Ay ((Ai (X:=X) (i:=1)) pins s1 σ H1 (fun v H2=>v= .int 1∧H2=H1) I1 ⟨rfl,rfl⟩) fun u s2 ⟨v,H2,I2,rv,ev,e2⟩=>wpAny_bind (wpAny_standAt (wpAny_pure (wpAny_evalAll_nil ?_)))))
 subst ev e2
 obtain⟨t,rfl⟩:=rv
 refine wpAny_bind (wpAny_standAt ?_)
 rw[show ((backTo pos (starEach [a] X.env)).any fun x=>x.1)=false by rw[he];rfl]
 refine wpAny_bind (wpAny_pure ?_)
 show wpAny _ _ (do let r ←call (Value.type "enumerate") [Value.ref l] [("start",.int 1 t)];holding [r] point;pure r) _ _ _
 obtain⟨its,rv,pl,hz⟩:=I2.list (SqL.of hq)
 refine wpAny_bind (QF pl.isList fun h' he hit hk=>?_)
 refine wpAny_bind (wpAny_holding (wpAny_point (wpAny_pure ?_)))
 refine wpAny_pyIter_enum he ?_
 have I3:Inv X pins σ H2 { s2 with heap:=h' }:=I2.kept (t':=s2.toks) hk
 have fp2:∀b∈[s2.heap.objs.size+1,s2.heap.objs.size],B2 X pins H2 b:=fun b hb=>by
  have hle:s2.heap.objs.size≤b:=by
   rcases List.mem_cons.mp hb with q | q
   ·omega
   ·have:b=s2.heap.objs.size:=by simpa using q
    omega
  exact I2.fpOk hle (I2.hok.fresh hle)
 exact⟨_,_,_,_,H2,rfl,I3,JM l (s2.heap.objs.size+1) s2.heap.objs.size (Nat.succ_ne_self _),⟨⟨_,he⟩,hit⟩,fp2,q⟩
end
section
variable {X:Cx}
theorem Gf:∀(k:Nat) (ys:List Str),Vals (ys.map V.str) (strsFrom k ys)
 | _,[]=>.nil
 | k,y::ys=>.cons ⟨_,rfl⟩ (Gf (k+1) ys)
def Q9:V→List V→Hp→VK→Prop:=fun x vs H Q=>∃z c,x= .str z∧vs=[.str c]∧(c.length == 0)=false∧z.length≤100000∧(Txt.split z c).length≤100000∧∀l,H l=none→Q (.ref l) (upd H l (.lst ((Txt.split z c).map V.str)))
theorem Na:Sq X "str.split" Q9:=by
 intro pins s σ H x vs v us Q I rx rv h
 obtain⟨z,c,rfl,rfl,hc,hz,hn,q⟩:=h
 obtain⟨t,rfl⟩:=rx
 obtain⟨u,rfl,ru⟩:=rv.one
 obtain⟨t2,rfl⟩:=ru
 have ln:(100000:Nat)≤sizeLine:=by decide
 have fin:∀(its:List Value) (tk:Nat),Vals ((Txt.split z c).map V.str) its→EP X pins σ Q (.ref s.heap.objs.size) { s with heap:=s.heap.push { cls:=.type "list",data:=.seq its.toArray },toks:=tk }:=fun its tk r'=>
  ⟨.ref s.heap.objs.size,_,I.laid (t':=tk) (fun b o e=>Heap.get?_push_of_some _ e) (Nat.le_refl _) (show ObjOk X.prog X.w _ _ _ (.lst ((Txt.split z c).map V.str)) from⟨by rw[List.length_map];omega,its,_,r',by heap_get⟩),rfl,q _ (I.hok.fresh (Nat.le_refl _))⟩
 unfold Txt.split at *
 by_cases h1:(decide (z.length<c.length) || decide (Builtin.Str.strKind z<Builtin.Str.strKind c))=true
 ·simp only[if_pos h1] at fin
  exact call_meets F.slot_str_split rfl F.entry_str_split (F.args_str_split_2 _ _) (meets_str_split_cannot_occur z c t t2 h1) (fin [.str z t] s.toks (.cons ⟨_,rfl⟩ .nil))
 ·by_cases h2:(Builtin.Str.occurrences z c 0 z.length (z.length+1)).isEmpty=true
  ·simp only[if_neg h1,if_pos h2] at fin
   exact call_meets F.slot_str_split rfl F.entry_str_split (F.args_str_split_2 _ _) (meets_str_split_not_found z c t t2 (Bool.eq_false_iff.mpr h1) hc h2) (fin [.str z t] s.toks (.cons ⟨_,rfl⟩ .nil))
  ·simp only[if_neg h1,if_neg h2] at fin hn
   exact call_meets F.slot_str_split rfl F.entry_str_split (F.args_str_split_2 _ _) (meets_str_split_sep z c t t2 (Bool.eq_false_iff.mpr h1) hc (Bool.eq_false_iff.mpr h2) (by omega) (by omega)) (fin _ _ (Gf _ _))
end
end L2
namespace L2
open PySem PySem.Spec PyProof.Rows
section
variable {X:Cx}
theorem Lv:Bp X (.type "int") (fun xs H Q=>∃z n,xs=[.str z]∧z.length≤640∧intText? z=some n∧Q (.int n) H):=by
 intro pins s σ H xs us Q I r h
 obtain⟨z,n,rfl,hz,hn,q⟩:=h
 obtain⟨u,rfl,t,rfl⟩:=BN r
 exact call_int_1 (W.KIN.gives_text hz hn).meets ⟨rfl,.int n,H,I.tok _,⟨_,rfl⟩,q⟩
def HeldA (X:Cx) (H:Hp) (C a:Addr):Prop:=∃dx vs sl,(a,(⟨.ref C,dx,.fields vs,sl⟩:Obj))∈X.pn∧∀d,dx=some d→∃fs,H d=some (.xd fs)
theorem HeldA.inst {X:Cx} {pins:List (Addr×Obj)} {σ:St} {H:Hp} {s:Shared} {C a:Addr} (h:HeldA X H C a) (I:Inv X pins σ H s):∃ox od,PySem.W.InstAt s.heap a ox C od:=by
 obtain⟨dx,vs,sl,hp,hd⟩:=h
 cases dx with
 | none=>
  obtain⟨e,_⟩:=I.pin _ (List.mem_append_left _ hp)
  exact⟨_,none,e,rfl,rfl,trivial⟩
 | some d=>
  obtain⟨fs,hd⟩:=hd d rfl
  obtain⟨ox,od,J,_⟩:=(show Held X H C a fs from⟨d,vs,sl,hp,hd⟩).inst I
  exact⟨ox,_,J⟩
def Uc (X:Cx):List V→Hp→VK→Prop:=fun xs H Q=>∃a C cT y c b,xs=[.ref a,y]∧XAt X.K C cT∧HeldA X H C a∧(∀u,RelV y u→u=c)∧PySem.W.kitOne X.K (.ref C) c=some b∧Q (.bl b) H
theorem AR:Bp X (.builtin "isinstance") (Uc X):=by
 intro pins s σ H xs us Q I r h
 obtain⟨a,C,cT,y,c,b,rfl,at_,hh,hc,hk,q⟩:=h
 obtain⟨u,w',rfl,rx,ry⟩:=QN r
 obtain rfl:=hc w' ry
 cases (show u=Value.ref a from rx)
 obtain⟨ox,od,J⟩:=hh.inst I
 exact PySem.W.kia_one (Nq (x:=a) at_) I.kIn J hk (fun z=>nomatch z) fun tk=>⟨.bl b,H,I.tok _,rfl,q⟩
end
end L2
namespace L2
open PySem PySem.Spec PyProof.Rows
section
variable {X:Cx}
def SL (P:Program) (w:World) (K:PySem.W.Frag):V→List V→Hp→VK→Prop:=fun x vs H Q=>∃d k f,x= .ref d∧vs=[.str k]∧Hv P w K d f∧Q ((f k).getD .non) H
theorem Qv:Sq X "dict.get" (SL X.prog X.w X.K):=by
 intro pins s σ H x vs v us Q I rx rv h
 obtain⟨d,k,f,rfl,rfl,⟨hm,o,ws,hk,hd,hv⟩,q⟩:=h
 cases rx
 obtain⟨u,rfl,ru⟩:=rv.one
 obtain⟨t,rfl⟩:=ru
 have hD:s.heap.DictOf (PySem.strKind X.prog X.w) d ws:=Heap.dictOf_iff.mpr ⟨o,I.kIn d o hk,hd⟩
 have hr:=hv k
 refine call_meetsIn PySem.F.slot_dict_get hD.typeIs PySem.F.entry_dict_get (PySem.F.args_dict_get_2 _ _) (meets_dict_get _ d (strKind_is _ _ k t) hm) ⟨_,hD.mapOf,(f k).getD .non,H,I.tok _,?_,q⟩
 cases e:f k with
 | none=>
  rw[e] at hr
  cases ev:valueAt ws k with
  | none=>rfl
  | some u'=>rw[ev] at hr;exact False.elim hr
 | some z=>
  rw[e] at hr
  cases ev:valueAt ws k with
  | none=>rw[ev] at hr;exact False.elim hr
  | some u'=>rw[ev] at hr;exact hr
def S0 (P:Program) (w:World) (K:PySem.W.Frag) (to:TE) (t:TA):TE:=fun σ H Q=>to σ H fun x H1=>∃d f,x= .ref d∧Hv P w K d f∧t σ H1 fun xs H2=>∃k,xs=[.str k]∧Q ((f k).getD .non) H2
theorem Po {o e:Expr} {to:TE} {t:TA} {apos cpos:Pos} (ho:PE X o to) (ha:PA X [e] t)
  (hbase:attributeBase o "get" X.env (eval o X.env)=eval o X.env:=by rfl)
  (hfew:((backTo cpos (starEach [e] X.env)).all (fun x=>!x.1) && (backToKw cpos (keywordEach [] X.env)).all (fun x=>x.1.isSome)
   && decide ([e].length+([]:List Keyword).length+(if ([]:List Keyword).isEmpty then 0 else 1)<30))=true:=by rfl)
  (hline:(apos.endLine == cpos.line)=true:=by rfl) (hs:starEach [e] X.env=[(false,eval e X.env)]:=by rfl) :
  PE X (.Call (.Attribute o "get" apos) [e] [] cpos) (S0 X.prog X.w X.K to t):=by
 intro pins s σ H Q I h
 refine wpAny_Call_method_late hbase hfew hline rfl (Ay (ho pins s σ H _ I h) fun v s1 ⟨x,H1,I1,r1,d,f,ex,hM,q1⟩=>?_)
 subst ex
 cases r1
 obtain⟨hm,o,ws,hk,hd,hv⟩:=id hM
 have hD:s1.heap.DictOf (PySem.strKind X.prog X.w) d ws:=Heap.dictOf_iff.mpr ⟨o,I1.kIn d o hk,hd⟩
 refine⟨"dict","dict.get",PySem.F.plainAttrs_dict,PySem.F.slot_dict_get,PySem.F.type_dict_get,hD.typeIs,fun a e=>?_,?_⟩
 ·cases e
  obtain⟨es,ep,ex,_⟩:=hd
  exact⟨o,I1.kIn d o hk,ex.2.1⟩
 have hA:=ha cpos pins s1 σ H1 _ I1 q1
 rw[hs] at hA ⊢
 refine Calls.callWith_builtin rfl (Calls.evalArgs_plain ?_)
 exact Ay hA fun us s2 ⟨vs,H2,I2,r2,k,ek,q2⟩=>Qv pins s2 σ H2 (.ref d) vs _ us Q I2 rfl r2 ⟨d,k,f,rfl,ek,hM,q2⟩
theorem Nw {K2:PySem.W.Frag} {tg l:Expr} {tl:TE} (e:X.K=K2) (hl:PE X l tl):PI X tg l (QV K2 tl):=e ▸ Br hl
theorem Nb {K2:PySem.W.Frag} (e:X.K=K2):Tu X (SA K2):=e ▸ KL
theorem Oi {K2:PySem.W.Frag} (e:X.K=K2):Se X (SS K2):=e ▸ Ba
end
end L2
namespace Toy
open PySem L2 HT2 PyProof.Rows
open PySem.W (clsIn findIn fnOf isFn keepIn kitOne mg_none_of mg_of mroIn nsIn typeIn)
theorem By {N P:List Str} {c:Scope} (x:c.kind=.function:=by exact rfl) (y:c.isCoroutine=false:=by exact rfl) (z:c.isGenerator=false:=by exact rfl) (d:N.Nodup:=by decide +kernel) (e:N.take P.length=P:=by exact rfl) (g:∀x∈P,c.names.lookup x=some .local∨c.names.lookup x=some .cell:=by decide +kernel) (h:∀y∈c.names,y.2≠.free:=by decide +kernel):Aj N P c:=⟨x,y,z,d,e,g,h⟩
variable {P:Program} {w:World} {K:PySem.W.Frag} {mg:Str→Option Value} {bz:Heap} {f:Addr} {fd:FuncData}
set_option maxHeartbeats 64000000
def top (i:Nat):Stmt:=PySem.Challenge.pw_holdtalk_k60_refusals_apart.main.body.getD i (.Pass ⟨0,0,0,0⟩)
abbrev Ro:Stmt:=top 84
structure Bl (mg:Str→Option Value):Prop where
 abs:mg "abs"=none
 len:mg "len"=none
 range:mg "range"=none
def QU (K:PySem.W.Frag):Sp:=fun vs H Q _=>∃(a:Addr) (ns:List Int) (k:Int),vs=[.ref a,.int k]∧SqL K H a (ns.map V.int)∧ns.length≤63∧0≤k∧k≤1000∧
 ∀(n:Int) (H':Hp),0≤n→Same H H'→Q (.int n) H'
section
theorem scNum:Aj ["_law_script","_law_k","_law_cell","_law_one","_law_two"] ["_law_script","_law_k"] (Ag Ro):=By
theorem Q7 (F:Fun K "_law_num" "_law_num" Ro f fd) (B:Bl mg):FnOk P w K mg bz A8 1 f fd ["_law_script","_law_k"] (QU K):=by
 refine F.ok scNum (fun vs H Q E h=>?_) (fun cdv A outer s H vs Q E hr h=>?_)
 ·obtain⟨a,ns,k,rfl,_⟩:=h
  rfl
 obtain⟨a,ns,k,rfl,hS,h63,hk0,hk1,q⟩:=h
 refine⟨_,Ad (Ap (i:=2) scNum.nd rfl (Or.inl rfl) Ai)
  (Ad (Aw (Am (Rj hr.units0) (pv 0) (AA Ab) (As _))
   (Ac (Ap (i:=2) scNum.nd rfl (Or.inl rfl) (Ax OM (by rfl) B.abs boot_abs (Aa (AQ Ba (pv 0) (AE Dh (pv 1) (Ax BD (by rfl) B.len PySem.boot_len (Aa (pv 0) Ab))) (fun _ _=>rfl)) Ab)))) Au)
  (Ad (Aw (Jx (Am QZ (pv 1) (Ax BD (by rfl) B.len PySem.boot_len (Aa (pv 0) Ab)) (As _)) (Hn (Am QS (pv 2) (AE RN Ai Ai) (As _)))).pt
   (Ac (Ar (pv 2))) Au)
  (Ad (Ap (i:=3) scNum.nd rfl (Or.inl rfl) (AE Dh (AE Dd (AE Dd (AE Fn (pv 2) Ai) (AE Fn Ai (pv 1))) Ai) Ai))
  (Ad (Ap (i:=4) scNum.nd rfl (Or.inl rfl) (AE Dh (AE Dd (AE Dd (AE Fn (pv 3) (pv 3)) (AE Fn Ai (pv 2))) Ai) Ai))
  (Ac (Ar (AE Dd (AE Fn (pv 3) Ai) (pv 4)))))))),?_⟩
 refine⟨_,rfl,MI,fun p hp=>?_⟩
 have sm:Same H (upd H p (.lst [])):=Ae hp _
 refine⟨a,p,_,rfl,rfl,sm.seq hS,SqL.of upd_same,_,rfl,?_⟩
 have hl:(ns.map V.int).length=ns.length:=List.length_map _
 have fin:∀c:Int,0≤c→∀b:Int,0≤(c*48271+40692*k+11)%2147483647*2147483629+b%2147483629:=fun c hc b=>by
  have h1:=Int.emod_nonneg (c*48271+40692*k+11) (show (2147483647:Int)≠0 by decide)
  have h2:=Int.emod_nonneg b (show (2147483629:Int)≠0 by decide)
  omega
 have b64:∀b:Int,-(2^64)<b%2147483647∧b%2147483647<2^64:=fun b=>by omega
 refine CZ (fun c0=>?_) (fun c0=>?_)
 ·have ne:ns≠[]:=by
   intro z
   subst z
   exact absurd c0 (by decide)
  have hp':0<ns.length:=List.length_pos_iff.mpr ne
  have hi:(k%(ns.length:Int)).toNat<ns.length:=by
   have h1:=Int.emod_nonneg k (show (ns.length:Int)≠0 by omega)
   have h2:=Int.emod_lt_of_pos k (show (0:Int)<ns.length by omega)
   omega
  have hat:IM (ns.map V.int) (k%(((ns.map V.int).length:Nat):Int))=some (.int ns[(k%(ns.length:Int)).toNat]):=by
   have e:k%(((ns.map V.int).length:Nat):Int)=(((k%(ns.length:Int)).toNat:Nat):Int):=by
    rw[hl]
    have h1:=Int.emod_nonneg k (show (ns.length:Int)≠0 by omega)
    omega
   rw[e]
   refine Av ?_
   rw[List.getElem?_map,List.getElem?_eq_getElem hi]
   rfl
  refine⟨_,rfl,_,rfl,_,rfl,a,_,rfl,.inl (sm.seq hS),_,_,rfl,rfl,(by rw[hl];omega),a,_,_,_,rfl,rfl,sm.seq hS,hat,_,rfl,?_⟩
  generalize hc:(if ns[(k%(ns.length:Int)).toNat]<0 then -ns[(k%(ns.length:Int)).toNat] else ns[(k%(ns.length:Int)).toNat])=c
  have hc0:0≤c:=by
   rw[←hc]
   split<;>omega
  refine⟨_,rfl,_,rfl,a,_,rfl,.inl (sm.seq hS),_,_,rfl,rfl,_,rfl,?_⟩
  have tail:∀{G:Prop},(∀y:Int,0≤(c*48271+40692*k+11)%2147483647*2147483629+y%2147483629→Q (.int ((c*48271+40692*k+11)%2147483647*2147483629+y%2147483629)) (upd H p (.lst []))):=fun {G} y hy=>q _ _ hy sm
  refine CZ (fun c1=>?_) (fun c1=>?_)
  ·refine⟨_,rfl,_,_,rfl,rfl,⟨by decide,by decide,by decide⟩,_,_,rfl,rfl,_,rfl,?_⟩
   refine CZ (fun c2=>?_) (fun c2=>?_)
   ·exact⟨_,rfl,q c _ hc0 sm⟩
   ·refine⟨_,rfl,_,_,rfl,rfl,.inr ⟨by decide,by decide⟩,_,rfl,_,_,rfl,rfl,.inl ⟨by decide,by decide⟩,_,_,rfl,rfl,_,_,rfl,rfl,_,_,rfl,rfl,(by show (0:Int)<2147483647;decide),?_⟩
    refine⟨_,rfl,_,rfl,_,_,rfl,rfl,.inl (b64 _),_,rfl,_,_,rfl,rfl,.inl ⟨by decide,by decide⟩,_,_,rfl,rfl,_,_,rfl,rfl,_,_,rfl,rfl,(by show (0:Int)<2147483629;decide),?_⟩
    exact⟨_,rfl,_,_,rfl,rfl,.inl (b64 _),_,rfl,_,_,rfl,rfl,q _ _ (fin c hc0 _) sm⟩
  ·refine Bu ?_
   refine⟨_,rfl,_,_,rfl,rfl,.inr ⟨by decide,by decide⟩,_,rfl,_,_,rfl,rfl,.inl ⟨by decide,by decide⟩,_,_,rfl,rfl,_,_,rfl,rfl,_,_,rfl,rfl,(by show (0:Int)<2147483647;decide),?_⟩
   refine⟨_,rfl,_,rfl,_,_,rfl,rfl,.inl (b64 _),_,rfl,_,_,rfl,rfl,.inl ⟨by decide,by decide⟩,_,_,rfl,rfl,_,_,rfl,rfl,_,_,rfl,rfl,(by show (0:Int)<2147483629;decide),?_⟩
   exact⟨_,rfl,_,_,rfl,rfl,.inl (b64 _),_,rfl,_,_,rfl,rfl,q _ _ (fin c hc0 _) sm⟩
 ·have c:Int:=0
  refine⟨_,rfl,_,rfl,a,_,rfl,.inl (sm.seq hS),_,_,rfl,rfl,_,rfl,?_⟩
  refine CZ (fun c1=>?_) (fun c1=>?_)
  ·refine⟨_,rfl,_,_,rfl,rfl,⟨by decide,by decide,by decide⟩,_,_,rfl,rfl,_,rfl,?_⟩
   refine CZ (fun c2=>?_) (fun c2=>?_)
   ·exact⟨_,rfl,q 0 _ (Int.le_refl _) sm⟩
   ·refine⟨_,rfl,_,_,rfl,rfl,.inr ⟨by decide,by decide⟩,_,rfl,_,_,rfl,rfl,.inl ⟨by decide,by decide⟩,_,_,rfl,rfl,_,_,rfl,rfl,_,_,rfl,rfl,(by show (0:Int)<2147483647;decide),?_⟩
    refine⟨_,rfl,_,rfl,_,_,rfl,rfl,.inl (b64 _),_,rfl,_,_,rfl,rfl,.inl ⟨by decide,by decide⟩,_,_,rfl,rfl,_,_,rfl,rfl,_,_,rfl,rfl,(by show (0:Int)<2147483629;decide),?_⟩
    exact⟨_,rfl,_,_,rfl,rfl,.inl (b64 _),_,rfl,_,_,rfl,rfl,q _ _ (fin 0 (Int.le_refl _) _) sm⟩
  ·refine Bu ?_
   refine⟨_,rfl,_,_,rfl,rfl,.inr ⟨by decide,by decide⟩,_,rfl,_,_,rfl,rfl,.inl ⟨by decide,by decide⟩,_,_,rfl,rfl,_,_,rfl,rfl,_,_,rfl,rfl,(by show (0:Int)<2147483647;decide),?_⟩
   refine⟨_,rfl,_,rfl,_,_,rfl,rfl,.inl (b64 _),_,rfl,_,_,rfl,rfl,.inl ⟨by decide,by decide⟩,_,_,rfl,rfl,_,_,rfl,rfl,_,_,rfl,rfl,(by show (0:Int)<2147483629;decide),?_⟩
   exact⟨_,rfl,_,_,rfl,rfl,.inl (b64 _),_,rfl,_,_,rfl,rfl,q _ _ (fin 0 (Int.le_refl _) _) sm⟩
end
def jc:Nat→Nat
 | 0=>38
 | 1=>124
 | 2=>62
 | _=>61
def BM:Tr→List Nat
 | .lt k=>[97+k]
 | .nt t=>45::BM t
 | .bn j a b=>40::(BM a++jc j::(BM b++[41]))
theorem Cr:∀t:Tr,(BM t).length≤4*t.size
 | .lt _=>by show 1≤4*1;decide
 | .nt t=>by
  have:=Cr t
  show (BM t).length+1≤4*(t.size+1)
  omega
 | .bn j a b=>by
  have h1:=Cr a
  have h2:=Cr b
  show (BM a++jc j::(BM b++[41])).length+1≤4*(a.size+b.size+1)
  rw[List.length_append,List.length_cons,List.length_append]
  show (BM a).length+((BM b).length+1+1)+1≤_
  omega
abbrev C0 (z:Str):List Nat:=z.cps.toList
theorem BR (z:Str):z.length=(C0 z).length:=by
 show z.cps.size=z.cps.toList.length
 simp
theorem Cd (a b:Str):C0 (a++b)=C0 a++C0 b:=cps_toList_append a b
theorem Mb {k:Nat} (h:k<5):IM (C0 ("abcde":Str)) (k:Int)=some (97+k):=by
 refine Av ?_
 match k,h with
 | 0,_=>rfl
 | 1,_=>rfl
 | 2,_=>rfl
 | 3,_=>rfl
 | 4,_=>rfl
theorem Hz {j:Nat}:¬(V.str (jn j)=V.str "let"):=by
 match j with
 | 0=>decide
 | 1=>decide
 | 2=>decide
 | _+3=>show ¬(V.str "same"=V.str "let");decide
theorem Ot {j:Nat}:¬(V.str (jn j)=V.str "not"):=by
 match j with
 | 0=>decide
 | 1=>decide
 | 2=>decide
 | _+3=>show ¬(V.str "same"=V.str "not");decide
theorem Bo {c A B:Prop} [Decidable c] (h:c) (a:A):if decide c=true then A else B:=by
 rw[decide_eq_true h,if_pos rfl]
 exact a
theorem A3 {c A B:Prop} [Decidable c] (h:¬c) (b:B):if decide c=true then A else B:=by
 rw[decide_eq_false h,if_neg Bool.false_ne_true]
 exact b
structure B5 (K:PySem.W.Frag) (mg:Str→Option Value) (x:Str) (f:Addr) (fd:FuncData) (ps:List Str):Prop where
 m:mg x=some (.ref f)
 k:keepIn K (.ref f)=true
 b:Binds K fd ps []
def IL:Tr→List Tr
 | .lt _=>[]
 | .nt t=>[t]
 | .bn _ a b=>[a,b]
def Bw (ts:List Tr):List Tr:=ts.flatMap IL
theorem Il (a b:List Tr):Bw (a++b)=Bw a++Bw b:=by
 unfold Bw
 rw[List.flatMap_append]
theorem HC (t:Tr):Bw [t]=IL t:=by
 unfold Bw
 simp
theorem DX {ts:List Tr} {i:Nat} {t:Tr} (h:ts[i]? = some t):Bw (ts.take (i+1))=Bw (ts.take i)++IL t:=by
 rw[List.take_add_one,h,Il]
 congr 1
 exact HC t
theorem ML (a b:List Tr):sz (a++b)=sz a+sz b:=by
 unfold sz
 rw[List.map_append,List.sum_append]
theorem No:∀t:Tr,sz (IL t)+1=t.size
 | .lt _=>rfl
 | .nt t=>by
  have:sz [t]=t.size:=by unfold sz;simp
  show sz [t]+1=t.size+1
  rw[this]
 | .bn _ a b=>by
  have:sz [a,b]=a.size+b.size:=by unfold sz;simp
  show sz [a,b]+1=a.size+b.size+1
  rw[this]
theorem Gv (t:Tr) (r:List Tr):sz (t::r)=t.size+sz r:=by
 unfold sz
 rw[List.map_cons,List.sum_cons]
theorem Kr (ts:List Tr):sz (Bw ts)+ts.length=sz ts:=by
 induction ts with
 | nil=>rfl
 | cons t r ih=>
  have h:=No t
  rw[Gv]
  show sz (IL t++Bw r)+(r.length+1)=_
  rw[ML]
  omega
theorem G0 (ts:List Tr):ts.length≤sz ts:=by
 induction ts with
 | nil=>exact Nat.le_refl _
 | cons t r ih=>
  have h:=t.size_pos
  rw[Gv]
  show r.length+1≤_
  omega
theorem Iz {ts:List Tr} {i j:Nat} {t:Tr} (h:ts[i]? = some t):(Bw (ts.take i)++(IL t).take j).length≤sz ts:=by
 have e1:ts=ts.take (i+1)++ts.drop (i+1):=(List.take_append_drop _ _).symm
 have h1:(Bw (ts.take (i+1))).length≤(Bw ts).length:=by
  have h2:(Bw ts).length=(Bw (ts.take (i+1))).length+(Bw (ts.drop (i+1))).length:=by
   rw[←List.length_append,←Il,List.take_append_drop]
  omega
 have h3:=G0 (Bw ts)
 have h4:=Kr ts
 rw[DX h,List.length_append] at h1
 rw[List.length_append,List.length_take]
 omega
theorem Bt {H:Hp}:∀{xs:List V} {ts:List Tr} {i:Nat} {x:V},Pile H xs ts→xs[i]? = some x→∃t,ts[i]? = some t∧Tr.At H t x
 | _,_,_,_,.nil,e=>by simp at e
 | _,_,0,_,.cons r _,e=>by
  simp at e
  subst e
  exact⟨_,rfl,r⟩
 | _,_,i+1,x,.cons _ q,e=>by
  obtain⟨t,h1,h2⟩:=Bt (i:=i) q (by simpa using e)
  exact⟨t,by simpa using h1,h2⟩
theorem RM {H:Hp} {t:Tr} {v:V} (h:t.At H v):∃p z cs,v= .ref p∧H p=some (.tup (z::cs))∧((z= .str "let"∧IL t=[])∨(¬(z= .str "let")∧(∃x,z= .str x)∧Pile H cs (IL t)∧0<cs.length∧cs.length≤2)):=by
 cases t with
 | lt k=>
  obtain⟨p,e,hp⟩:=h
  exact⟨p,_,_,e,hp,.inl ⟨rfl,rfl⟩⟩
 | nt t=>
  obtain⟨p,u,e,hp,ha⟩:=h
  exact⟨p,_,_,e,hp,.inr ⟨by decide,⟨_,rfl⟩,.cons ha .nil,Nat.succ_pos _,by show 1≤2;decide⟩⟩
 | bn j a b=>
  obtain⟨p,x,y,e,hp,ha,hb⟩:=h
  exact⟨p,_,_,e,hp,.inr ⟨Hz,⟨_,rfl⟩,.cons ha (.cons hb .nil),Nat.succ_pos _,Nat.le_refl _⟩⟩
theorem SG (z:V) (cs:List V):Ft (z::cs) (some 1) none=cs:=by
 unfold Ft
 have e1:HT.sIx (z::cs).length 0 (some 1)=1:=by
  have:=HT.sIx_nat (z::cs).length 0 1
  show HT.sIx (z::cs).length 0 (some ((1:Nat):Int))=1
  rw[this,List.length_cons]
  omega
 rw[e1,HT.sIx_none]
 show ((z::cs).drop 1).take (cs.length+1-1)=cs
 simp
theorem NN {z:V} {cs:List V}:¬(HT.sIx (z::cs).length 0 (some 1)=0∧HT.sIx (z::cs).length (z::cs).length none=(z::cs).length):=by
 rintro⟨h,_⟩
 have:=HT.sIx_nat (z::cs).length 0 1
 rw[show (some (1:Int))=some ((1:Nat):Int) from rfl,this,List.length_cons] at h
 omega
theorem OG {c A B:Prop} [Decidable c] (hc:¬c) (h:A):if (!decide c)=true then A else B:=by
 rw[decide_eq_false hc]
 exact BH h
def Eo (k:Nat) (w:Int):Bool:=decide (w / 2^k%2=1)
def jv:Nat→Bool→Bool→Bool
 | 0,a,b=>a && b
 | 1,a,b=>a || b
 | 2,a,b=>!a || b
 | _,a,b=>decide (a=b)
def tv:Tr→Int→Bool
 | .lt k,w=>Eo k w
 | .nt t,w=>!tv t w
 | .bn j a b,w=>jv j (tv a w) (tv b w)
theorem pow_pos (k:Nat):(0:Int)<2^k:=Int.pow_pos (by decide)
theorem RY (k:Nat) (w:Int):decide (V.int (w / 2^k%2)=V.int 1)=Eo k w:=by
 unfold Eo
 rw[Bool.eq_iff_iff,decide_eq_true_eq,decide_eq_true_eq]
 exact⟨fun h=>by injection h,fun h=>by rw[h]⟩
theorem Tb (a b:Bool):decide (V.bl a=V.bl b)=decide (a=b):=by cases a<;>cases b<;>rfl
theorem UZ {j:Nat} (h:V.str (jn j)=V.str "and"):j=0:=by
 match j with
 | 0=>rfl
 | 1=>exact absurd h (by decide)
 | 2=>exact absurd h (by decide)
 | _+3=>exact absurd (show V.str "same"=V.str "and" from h) (by decide)
theorem U4 {j:Nat} (h:V.str (jn j)=V.str "or"):j=1:=by
 match j with
 | 0=>exact absurd h (by decide)
 | 1=>rfl
 | 2=>exact absurd h (by decide)
 | _+3=>exact absurd (show V.str "same"=V.str "or" from h) (by decide)
theorem UO {j:Nat} (h:V.str (jn j)=V.str "if"):j=2:=by
 match j with
 | 0=>exact absurd h (by decide)
 | 1=>exact absurd h (by decide)
 | 2=>rfl
 | _+3=>exact absurd (show V.str "same"=V.str "if" from h) (by decide)
theorem UR {j:Nat} (h0:¬V.str (jn j)=V.str "and") (h1:¬V.str (jn j)=V.str "or") (h2:¬V.str (jn j)=V.str "if") (a b:Bool):jv j a b=decide (a=b):=by
 match j with
 | 0=>exact absurd rfl h0
 | 1=>exact absurd rfl h1
 | 2=>exact absurd rfl h2
 | _+3=>rfl
structure HB (mg:Str→Option Value):Prop where
 isi:mg "isinstance"=none
 int:mg "int"=none
 bool:mg "bool"=none
 str:mg "str"=none
 tup:mg "tuple"=none
 lst:mg "list"=none
 set:mg "set"=none
 sorted:mg "sorted"=none
 rng:mg "range"=none
 any:mg "any"=none
 all:mg "all"=none
theorem Dq:bootBuiltins "list"=some (.type "list"):=by decide +kernel
abbrev AV (H:Hp) (p:Addr) (row:List Int):Prop:=H p=some (.lst (row.map V.int))
abbrev RowsAt (H:Hp):List V→List (List Int)→Prop:=Paired fun (v:V) (row:List Int)=>∃p,v= .ref p∧AV H p row
theorem RowsAt.keep {H H':Hp} (s:Same H H'):∀{xs:List V} {rs:List (List Int)},RowsAt H xs rs→RowsAt H' xs rs
 | _,_,.nil=>.nil
 | _,_,.cons ⟨p,e,h⟩ q=>.cons ⟨p,e,s _ _ h⟩ (RowsAt.keep s q)
theorem RowsAt.get {H:Hp}:∀{xs:List V} {rs:List (List Int)} {i:Nat} {x:V},RowsAt H xs rs→xs[i]? = some x→∃row p,rs[i]? = some row∧x= .ref p∧AV H p row
 | _,_,_,_,.nil,e=>by simp at e
 | _,_,0,_,.cons ⟨p,e1,h⟩ _,e=>by
  simp at e
  subst e
  exact⟨_,p,rfl,e1,h⟩
 | _,_,i+1,x,.cons _ q,e=>by
  obtain⟨row,p,h1,h2⟩:=RowsAt.get (i:=i) q (by simpa using e)
  exact⟨row,p,by simpa using h1,h2⟩
theorem RowsAt.len {H:Hp} {xs:List V} {rs:List (List Int)} (h:RowsAt H xs rs):xs.length=rs.length:=Paired.length h
theorem Ox {m:Nat} (h:m≤5):2^m≤32:=Nat.pow_le_pow_right (n:=2) (by decide) h
theorem Od (n:Nat):(Bv n).length=n:=by unfold Bv;simp
theorem Py (n:Nat):(Bv n).Pairwise (· < ·):=by
 unfold Bv
 rw[List.pairwise_map]
 exact List.pairwise_lt_range.imp fun h=>by omega
theorem mem_upto {n:Nat} {k:Int}:k∈Bv n↔0≤k∧k<n:=by
 unfold Bv
 rw[List.mem_map]
 constructor
 ·rintro⟨a,ha,rfl⟩
  have:=List.mem_range.mp ha
  omega
 ·rintro⟨h0,h1⟩
  exact⟨k.toNat,List.mem_range.mpr (by omega),by omega⟩
def II:Sp:=fun vs H Q _=>∃(m:Nat),vs=[.int (m:Int)]∧1≤m∧m≤5∧∀(l:Addr) (H':Hp),Same H H'→H l=none→AV H' l (Bv (2^m))→Q (.ref l) H'
def BB (b:Bool) (t:Tr) (row:List Int):List Int:=row.filter fun k=>tv t k == b
theorem NM (t:Tr) (row:List Int):(BB true t row).length+(BB false t row).length=row.length:=by
 unfold BB
 induction row with
 | nil=>rfl
 | cons k r ih=>
  cases h:tv t k with
  | true=>simp[h] at ih ⊢;omega
  | false=>simp[h] at ih ⊢;omega
def AC (z:Str) (t:Tr) (row:List Int):List (List Int):=if z="true" then[BB true t row] else if z="false" then[BB false t row] else[BB true t row,BB false t row]
def E7 (row:List Int) (sides:List (List Int)):List Int:=row.filter fun k=>sides.any fun s=>decide (k∈s)
theorem R3 {t u:L2.TS} {D:Ends} {R:VK} {B C:L2.St→Hp→Prop} {σ:L2.St} {H:Hp} (Mid:L2.St→Hp→Prop) (h2:∀σ' H',Mid σ' H'→u D σ' H') (h1:(∀σ' H',Mid σ' H'→u D σ' H')→t { D with nx:=u D } σ H):({ nx:=Rx t u D,rt:=R,bk:=B,ct:=C }:Ends).nx σ H:=h1 h2
theorem RI {i:Nat} {v:V} {σ σ':L2.St} {H:Hp} {N:L2.St→Hp→Prop} (e:σ.set i (some v)=σ') (h:N σ' H):FU i v σ H N:=by
 subst e
 exact h
theorem QM {t u:L2.TS} {D:Ends} {σ:L2.St} {H:Hp} (Mid:L2.St→Hp→Prop) (h2:∀σ' H',Mid σ' H'→u D σ' H') (h1:(∀σ' H',Mid σ' H'→u D σ' H')→t { D with nx:=u D } σ H):Rx t u D σ H:=h1 h2
def Wr (row:List Int):Prop:=row.Pairwise (· < ·)∧∀k∈row,0≤k∧k<32
theorem Wr.sub {a b:List Int} (h:Wr b) (s:a.Sublist b):Wr a:=⟨h.1.sublist s,fun k hk=>h.2 k (s.subset hk)⟩
theorem PR {m:Nat} (h:m≤5):Wr (Bv (2^m)):=⟨Py _,fun k hk=>by
 have:=mem_upto.mp hk
 have h2:=Ox h
 have:((2^m:Nat):Int)≤32:=by omega
 omega⟩
theorem Wr.len {row:List Int} (h:Wr row):row.length≤32:=by
 have nd:row.Nodup:=h.1.imp fun h=>by omega
 have:=FZ (l2:=Bv 32) nd fun k hk=>mem_upto.mpr (h.2 k hk)
 rw[Od] at this
 exact this
theorem LT {z:Str} {t:Tr} {row s:List Int} (h:s∈AC z t row):s.Sublist row:=by
 unfold AC at h
 split at h
 ·rw[List.mem_singleton.mp h];exact List.filter_sublist
 ·split at h
  ·rw[List.mem_singleton.mp h];exact List.filter_sublist
  ·simp only[List.mem_cons,List.not_mem_nil,or_false] at h
   rcases h with rfl | rfl
   ·exact List.filter_sublist
   ·exact List.filter_sublist
theorem OJ {row:List Int} {sides:List (List Int)}:(E7 row sides).Sublist row:=List.filter_sublist
abbrev JH:Stmt:=top 28
def Gp (K:PySem.W.Frag):Sp:=fun vs H Q _=>∃(a:Addr) (xs:List V) (ts:List Tr),vs=[.ref a]∧SqL K H a xs∧Pile H xs ts∧sz ts≤900∧
 ∀(r:Addr) (ys:List V) (H':Hp),Same H H'→H' r=some (.lst ys)→Pile H' ys (Bw ts)→Q (.ref r) H'
section
theorem Ph:Aj ["layer"] ["layer"] (Ag JH):=By
theorem Sr:(["sentence","part"]:List Str).Nodup:=by decide +kernel
theorem NP (F:Fun K "parts_of" "parts_of" JH f fd):FnOk P w K mg bz A8 1 f fd ["layer"] (Gp K):=by
 refine F.ok Ph (fun vs H Q E h=>?_) (fun cdv A outer s H vs Q E hr h=>?_)
 ·obtain⟨a,xs,ts,rfl,_⟩:=h
  rfl
 obtain⟨a,xs,ts,rfl,hS,hp,hsz,q⟩:=h
 refine⟨_,Ac (Ar (OT (N:=["sentence","part"]) (js:=[none,none]) (cl:=[]) ⟨rfl,rfl,rfl,List.forall_mem_nil _,rfl,rfl,rfl⟩ (Br (pv 0)) (fun _=>AN (i:=0) Sr rfl (Or.inl rfl))
  (fun _=>Kp (Am QP (AQ Bm (pv 0) Ai (fun _ _=>rfl)) Ak (As _))) (fun _=>Rn (E6 Sd (pv 0) (Ht Ai) GY)) (fun _=>AN (i:=1) Sr rfl (Or.inl rfl)) (fun _=>B6) (fun _=>pv 1))),?_⟩
 refine⟨_,rfl,a,rfl,⟨_,hS⟩,fun cc acc hacc=>Bc (K:=K) (a:=a) (xs:=xs) (fun i σ H2=>∃(v0 v1:Option V) (ys:List V),σ=[v0,v1]∧Same H H2∧H2 acc=some (.lst ys)∧Pile H2 ys (Bw (ts.take i))) ?_ ?_ ?_ ?_⟩
 ·exact⟨none,none,[],rfl,Ae hacc _,upd_same,.nil⟩
 ·rintro i σ H2 _ ⟨v0,v1,ys,rfl,s2,_,_⟩
  exact s2.seq hS
 ·rintro i x σ H2 hx ⟨v0,v1,ys,rfl,s2,ha2,hp2⟩
  obtain⟨t,ht,hat⟩:=Bt hp hx
  have hat2:=hat.keep (TS.same s2)
  obtain⟨p,z,cs,rfl,hpt,hk⟩:=RM hat2
  have zstr:∃y,z= .str y:=by
   rcases hk with⟨e,_⟩|⟨_,e,_⟩
   ·exact⟨_,e⟩
   ·exact e
  obtain⟨y,rfl⟩:=zstr
  refine⟨_,rfl,p,_,_,_,rfl,rfl,SqT.of hpt,Av (j:=0) rfl,rfl,_,rfl,?_⟩
  rcases hk with⟨e,ek⟩|⟨ne,_,hcs,_,_⟩
  ·refine MO e ?_
   refine⟨_,_,ys,rfl,s2,ha2,?_⟩
   rw[DX ht,ek,List.append_nil]
   exact hp2
  ·refine OG ne ?_
   refine⟨_,rfl,_,rfl,p,_,rfl,SqT.of hpt,NN,fun c hc=>⟨c,rfl,⟨_,SqT.of upd_same⟩,Qk (K:=K) (a:=c) (xs:=Ft (V.str y::cs) (some 1) none) (fun j σ H3=>∃(v1:Option V) (ys:List V),σ=[some (.ref p),v1]∧Same H H3∧H3 acc=some (.lst ys)∧H3 c=some (.tup (Ft (V.str y::cs) (some 1) none))∧Pile H3 cs (IL t)∧Pile H3 ys (Bw (ts.take i)++(IL t).take j)) ?_ ?_ ?_ ?_⟩⟩
   ·refine⟨_,ys,rfl,s2.trans (Ae hc _),(Ae hc _) _ _ ha2,upd_same,hcs.keep (TS.new hc),?_⟩
    rw[List.take_zero,List.append_nil]
    exact hp2.keep (TS.new hc)
   ·rintro j σ H3 _ ⟨v1,ys,rfl,s3,_,hc3,_⟩
    exact SqT.of hc3
   ·rintro j u σ H3 hu ⟨v1,ys,rfl,s3,ha3,hc3,hcs3,hp3⟩
    rw[SG] at hu
    obtain⟨t2,ht2,hat3⟩:=Bt hcs3 hu
    have hlen:=hp3.len
    have hb:=Iz (j:=j) ht
    show Db acc (Ny 1) _ _ _
    refine⟨_,rfl,ys,ha3,AI (by omega),?_⟩
    have k3:TS H3 (upd H3 acc (.lst (ys++[u]))):=TS.lst ha3
    refine⟨_,ys++[u],rfl,Az s3 hacc _,upd_same,by rw[Ah (AL hc3 ha3 (by intro z;cases z))];exact hc3,hcs3.keep k3,?_⟩
    rw[List.take_add_one,ht2,←List.append_assoc]
    exact (hp3.keep k3).snoc (hat3.keep k3)
   ·rintro σ H3 ⟨v1,ys,rfl,s3,ha3,hc3,hcs3,hp3⟩
    refine⟨_,_,ys,rfl,s3,ha3,?_⟩
    rw[SG] at hp3
    have hl:=hcs3.len
    rw[hl,List.take_length] at hp3
    rw[DX ht]
    exact hp3
 ·rintro σ H2 ⟨v0,v1,ys,rfl,s2,ha2,hp2⟩
  rw[hp.len,List.take_length] at hp2
  exact q acc ys H2 s2 ha2 hp2
end
abbrev Jr:Stmt:=top 35
def KO:Sp:=fun vs H Q _=>∃(k:Nat) (w:Int),vs=[.int (k:Int),.int w]∧Q (.bl (Eo k w)) H
theorem P3 (k:Nat) (w:Int):decide (V.int (Builtin.bitAnd (w / 2^((k:Int)).toNat) 1)=V.int 1)=Eo k w:=by
 rw[bitAnd_m1,Int.toNat_natCast]
 exact RY k w
section
theorem QB:Aj ["letter","world"] ["letter","world"] (Ag Jr):=By
theorem OR (F:Fun K "letter_holds" "letter_holds" Jr f fd):FnOk P w K mg bz A8 1 f fd ["letter","world"] KO:=by
 refine F.ok QB (fun vs H Q E h=>?_) (fun cdv A outer s H vs Q E hr h=>?_)
 ·obtain⟨k,w,rfl,_⟩:=h
  rfl
 obtain⟨k,wd,rfl,q⟩:=h
 refine⟨_,Ac (Ar (BQ AO (AE R5 (AE RA (pv 1) (pv 0)) Ai) Ai (As _))),?_⟩
 refine⟨_,rfl,_,rfl,_,_,rfl,rfl,Int.natCast_nonneg k,_,_,rfl,rfl,rfl,?_⟩
 rw[←P3] at q
 exact q
end
abbrev Hc:Stmt:=top 36
abbrev IY:Stmt:=top 37
abbrev GG:Stmt:=top 38
def HU:Sp:=fun vs H Q _=>∃(j:Nat) (a b:Bool),vs=[.str (jn j),.bl a,.bl b]∧Q (.bl (jv j a b)) H
def post:Tr→List Tr
 | .lt k=>[.lt k]
 | .nt t=>post t++[.nt t]
 | .bn j a b=>post a++(post b++[.bn j a b])
theorem OY:∀t:Tr,post t=(IL t).flatMap post++[t]
 | .lt k=>rfl
 | .nt t=>by show post t++[.nt t]=(post t++[])++[.nt t];rw[List.append_nil]
 | .bn j a b=>by show post a++(post b++[.bn j a b])=(post a++(post b++[]))++[.bn j a b];rw[List.append_nil,List.append_assoc]
theorem B0:∀t:Tr,(post t).length=t.size
 | .lt k=>rfl
 | .nt t=>by show (post t++[Tr.nt t]).length=t.size+1;rw[List.length_append,B0 t];rfl
 | .bn j a b=>by
  show (post a++(post b++[Tr.bn j a b])).length=a.size+b.size+1
  rw[List.length_append,List.length_append,B0 a,B0 b]
  show a.size+(b.size+1)=_
  omega
def stp (w:Int) (rs:List Bool):Tr→Option (List Bool)
 | .lt k=>some (Eo k w::rs)
 | .nt _=>match rs with
  | a::r=>some ((!a)::r)
  | []=>none
 | .bn j _ _=>match rs with
  | b::a::r=>some (jv j a b::r)
  | _=>none
def run (w:Int):List Tr→List Bool→Option (List Bool)
 | [],rs=>some rs
 | u::r,rs=>match stp w rs u with
  | some rs'=>run w r rs'
  | none=>none
theorem Es (w:Int):∀(a b:List Tr) (rs rs':List Bool),run w a rs=some rs'→run w (a++b) rs=run w b rs'
 | [],b,rs,rs',h=>by cases h;rfl
 | u::r,b,rs,rs',h=>by
  unfold run at h
  show (match stp w rs u with | some rs'=>run w (r++b) rs' | none=>none)=run w b rs'
  cases e:stp w rs u with
  | none=>rw[e] at h;cases h
  | some z=>rw[e] at h;exact Es w r b z rs' h
theorem Dm (w:Int):∀(t:Tr) (rs:List Bool),run w (post t) rs=some (tv t w::rs)
 | .lt k,rs=>rfl
 | .nt t,rs=>by
  show run w (post t++[.nt t]) rs=_
  rw[Es w _ _ _ _ (Dm w t rs)]
  rfl
 | .bn j a b,rs=>by
  show run w (post a++(post b++[.bn j a b])) rs=_
  rw[Es w _ _ _ _ (Dm w a rs),Es w _ _ _ _ (Dm w b _)]
  rfl
def KH:Sp:=fun vs H Q _=>∃(v:V) (t:Tr),vs=[v]∧t.At H v∧t.size≤800∧∀(l:Addr) (ys:List V) (H':Hp),Same H H'→H l=none→H' l=some (.lst ys)→Pile H' ys (post t)→Q (.ref l) H'
def Ia:Sp:=fun vs H Q _=>∃(l:Addr) (ys:List V) (t:Tr) (w:Int),vs=[.ref l,.int w]∧H l=some (.lst ys)∧Pile H ys (post t)∧t.ok 5∧t.size≤800∧∀(H':Hp),Same H H'→Q (.bl (tv t w)) H'
section
theorem OD:Aj ["kind","one","other"] ["kind","one","other"] (Ag Hc):=By
theorem Ma (F:Fun K "joined" "joined" Hc f fd):FnOk P w K mg bz A8 1 f fd ["kind","one","other"] HU:=by
 refine F.ok OD (fun vs H Q E h=>?_) (fun cdv A outer s H vs Q E hr h=>?_)
 ·obtain⟨j,a,b,rfl,_⟩:=h
  rfl
 obtain⟨j,va,vb,rfl,q2⟩:=h
 refine⟨_,Ad (Aw (Am AO (pv 0) Ak (As _))
   (Ac (Ar (R9 (pv 1) (Gy (pv 2)))))
   Au)
  (Ad (Aw (Am AO (pv 0) Ak (As _))
   (Ac (Ar (Nn (pv 1) (Gy (pv 2)))))
   Au)
  (Ad (Aw (Am AO (pv 0) Ak (As _))
   (Ac (Ar (Nn (O3 (pv 1)) (Gy (pv 2)))))
   Au)
  (Ac (Ar (BQ AO (pv 1) (pv 2) (As _)))))),?_⟩
 refine⟨_,rfl,rfl,_,rfl,?_⟩
 by_cases h0:V.str (jn j)=V.str "and"
 ·refine Bo h0 ?_
  obtain rfl:=UZ h0
  cases va with
  | false=>exact⟨_,rfl,_,rfl,Bu q2⟩
  | true=>exact⟨_,rfl,_,rfl,BH ⟨_,rfl,q2⟩⟩
 refine A3 h0 ?_
 refine⟨_,rfl,rfl,_,rfl,?_⟩
 by_cases h1:V.str (jn j)=V.str "or"
 ·refine Bo h1 ?_
  obtain rfl:=U4 h1
  cases va with
  | false=>exact⟨_,rfl,_,rfl,Bu ⟨_,rfl,q2⟩⟩
  | true=>exact⟨_,rfl,_,rfl,BH q2⟩
 refine A3 h1 ?_
 refine⟨_,rfl,rfl,_,rfl,?_⟩
 by_cases h2:V.str (jn j)=V.str "if"
 ·refine Bo h2 ?_
  obtain rfl:=UO h2
  cases va with
  | false=>exact⟨_,rfl,_,rfl,_,rfl,BH q2⟩
  | true=>exact⟨_,rfl,_,rfl,_,rfl,Bu ⟨_,rfl,q2⟩⟩
 refine A3 h2 ?_
 rw[UR h0 h1 h2] at q2
 refine⟨_,rfl,_,rfl,rfl,?_⟩
 rw[Tb]
 exact q2
def UK (H:Hp) (v:V) (t:Tr) (sl wl:Addr) (m:Nat):L2.St→Hp→Prop:=fun σ H3=>∃(ys zs:List V) (ss ws:List Tr) (pp:Option V),σ=[some v,some (.ref sl),some (.ref wl),pp]∧Same H H3∧
 H3 sl=some (.lst ys)∧H3 wl=some (.lst zs)∧Pile H3 ys ss∧Pile H3 zs ws∧ws.flatMap post++ss.reverse=post t∧m=sz ws
theorem scSteps:Aj ["sentence","steps","waiting","step"] ["sentence"] (Ag IY):=By
theorem IA {H:Hp}:∀{xs:List V} {ts:List Tr},Pile H xs ts→Pile H xs.reverse ts.reverse
 | _,_,.nil=>.nil
 | _,_,.cons r q=>by
  rw[List.reverse_cons,List.reverse_cons]
  exact (IA q).snoc r
theorem Ih {H:Hp}:∀{xs ys:List V} {ts us:List Tr},Pile H xs ts→Pile H ys us→Pile H (xs++ys) (ts++us)
 | _,_,_,_,.nil,q=>q
 | _,_,_,_,.cons r q,q2=>.cons r (Ih q q2)
theorem O1 {g:Addr} {gd:FuncData} (F:Fun K "steps_of" "steps_of" IY f fd) (GP:FnOk P w K mg bz A8 1 g gd ["layer"] (Gp K)) (CP:B5 K mg "parts_of" g gd ["layer"]):FnOk P w K mg bz A8 2 f fd ["sentence"] KH:=by
 refine F.ok scSteps (fun vs H Q E h=>?_) (fun cdv A outer s H vs Q E hr h=>?_)
 ·obtain⟨v,t,rfl,_⟩:=h
  rfl
 obtain⟨v,t,rfl,ha,hs,q⟩:=h
 refine⟨_,Ad (Ap (i:=1) scSteps.nd rfl (Or.inl rfl) (AA Ab))
  (Ad (Ap (i:=2) scSteps.nd rfl (Or.inl rfl) (AA (Aa (pv 0) Ab)))
  (Ad (DD PassesOwn.never (Bk (pv 2) (fun _=>rfl))
   (Ad (Ap (i:=3) scSteps.nd rfl (Or.inl rfl) (BY PySem.F.plainAttrs_list PySem.F.slot_list_pop PySem.F.type_list_pop Cf (pv 2)))
   (Ad (An (Bx PySem.F.plainAttrs_list PySem.F.slot_list_append PySem.F.type_list_append AZ (pv 1) (Aa (pv 3) Ab)))
   (Ac (An (Bx PySem.F.plainAttrs_list PySem.F.slot_list_extend PySem.F.type_list_extend Ea (pv 2) (Aa (Ao GP hr (by rfl) CP.m CP.k CP.b .nil AH (Aa (AA (Aa (pv 3) Ab)) Ab)) Ab)))))))
  (Ad (An (BY PySem.F.plainAttrs_list PySem.F.slot_list_reverse PySem.F.type_list_reverse JS (pv 1)))
  (Ac (Ar (pv 1)))))),?_⟩
 refine⟨MI,fun sl hsl=>?_⟩
 have s1:=Ae hsl (.lst [])
 refine⟨_,rfl,LU,fun wl hwl=>?_⟩
 have s2:=Ae hwl (.lst [v])
 have nsw:sl≠wl:=Af (upd_same (H:=H) (a:=sl) (o:=.lst [])) hwl
 have hwl0:H wl=none:=s1.free hwl
 have e1:sz [t]=t.size:=by unfold sz;simp
 refine⟨UK H v t sl wl,⟨_,[],[v],[],[t],none,rfl,s1.trans s2,s2 _ _ upd_same,upd_same,.nil,.cons (ha.keep ((TS.same s1).trans (TS.same s2))) .nil,by simp,rfl⟩,?_⟩
 rintro m σ H3 ⟨ys,zs,ss,ws,pp,rfl,s3,hs3,hw3,p3,z3,e3,rfl⟩
 have bnd:sz ws+ss.length≤800:=by
  have h1:(ws.flatMap post).length=sz ws:=by
   clear e3 z3
   induction ws with
   | nil=>rfl
   | cons u r ih=>
    show (post u++r.flatMap post).length=_
    rw[List.length_append,B0,ih,Gv]
  have h2:=congrArg List.length e3
  rw[List.length_append,List.length_reverse,h1,B0] at h2
  omega
 refine⟨_,rfl,_,.inl ⟨zs,SqL.of hw3,rfl⟩,?_⟩
 refine CZ (fun c=>?_) (fun c=>?_)
 ·refine⟨fun σ' H'=>∃m',m'<sz ws∧UK H v t sl wl m' σ' H',fun _ _ h=>h,?_⟩
  have hpos:0<ws.length:=by
   rw[←z3.len]
   cases zs with
   | nil=>exact absurd c (by decide)
   | cons _ _=>exact Nat.succ_pos _
  obtain⟨zs',y,ws',u,rfl,rfl,q3,a3⟩:=z3.last hpos
  have hsw:=Qi ws' u
  have hku:=No u
  have hwl':=G0 ws'
  have hl1:=p3.len
  have hl2:=q3.len
  refine⟨_,rfl,.inl ⟨rfl,_,SqL.of hw3⟩,wl,_,y,rfl,rfl,hw3,BE _ _,?_⟩
  have t4:HT2.TS H3 (upd H3 wl (.lst (zs'++[y]).dropLast)):=TS.lst hw3
  have s4:Same H (upd H3 wl (.lst (zs'++[y]).dropLast)):=Az s3 hwl0 _
  rw[List.dropLast_concat] at t4 s4
  have hs4:(upd H3 wl (.lst zs')) sl=some (.lst ys):=by rw[Ah nsw];exact hs3
  rw[List.dropLast_concat]
  refine⟨_,rfl,.inl ⟨rfl,_,SqL.of hs4⟩,_,rfl,sl,_,_,rfl,rfl,hs4,AI (by omega),?_⟩
  have t5:HT2.TS (upd H3 wl (.lst zs')) (upd (upd H3 wl (.lst zs')) sl (.lst (ys++[y]))):=TS.lst hs4
  have s5:Same H (upd (upd H3 wl (.lst zs')) sl (.lst (ys++[y]))):=Az s4 hsl _
  have hw5:(upd (upd H3 wl (.lst zs')) sl (.lst (ys++[y]))) wl=some (.lst zs'):=by rw[Ah nsw.symm,upd_same]
  have hs5:(upd (upd H3 wl (.lst zs')) sl (.lst (ys++[y]))) sl=some (.lst (ys++[y])):=upd_same
  have a5:=a3.keep (t4.trans t5)
  have p5:=(p3.snoc a3).keep (t4.trans t5)
  have q5:=q3.keep (t4.trans t5)
  revert s5 hw5 hs5 a5 p5 q5
  generalize (upd (upd H3 wl (.lst zs')) sl (.lst (ys++[y])))=H5
  intro s5 hw5 hs5 a5 p5 q5
  refine⟨_,rfl,.inl ⟨rfl,_,SqL.of hw5⟩,_,rfl,LU,fun pl hpl=>?_⟩
  have s6:=Ae hpl (.lst [y])
  have e1:sz [u]=u.size:=by unfold sz;simp
  refine⟨pl,[y],[u],rfl,SqL.of upd_same,.cons (a5.keep (TS.same s6)) .nil,by omega,fun r ks H7 s7 hr7 p7=>?_⟩
  have hl3:=p7.len
  rw[HC] at p7 hl3
  have hlk:=G0 (IL u)
  have hw7:=s7 _ _ (s6 _ _ hw5)
  refine⟨wl,r,zs',ks,rfl,rfl,hw7,hr7,B1 (by omega),?_⟩
  have t8:HT2.TS H7 (upd H7 wl (.lst (zs'++ks))):=TS.lst hw7
  have k57:=(TS.same s6).trans (TS.same s7)
  refine⟨_,?_,ys++[y],zs'++ks,ss++[u],ws'++IL u,_,rfl,Az (s5.trans (s6.trans s7)) hwl0 _,?_,upd_same,p5.keep (k57.trans t8),(Ih (q5.keep k57) p7).keep t8,?_,rfl⟩
  ·rw[ML];omega
  ·rw[Ah nsw];exact s7 _ _ (s6 _ _ hs5)
  ·rw[←e3,List.flatMap_append,List.flatMap_append,List.reverse_append]
   show ((ws'.flatMap post++(IL u).flatMap post)++([u]++ss.reverse))=(ws'.flatMap post++(post u++[]))++ss.reverse
   rw[List.append_nil,OY u]
   simp only[List.append_assoc]
 ·have e:ws=[]:=by
   cases z3 with
   | nil=>rfl
   | cons h1 h2=>exact absurd rfl c
  subst e
  refine⟨_,rfl,.inl ⟨rfl,_,SqL.of hs3⟩,sl,ys,rfl,rfl,hs3,?_⟩
  refine⟨_,rfl,q sl ys.reverse _ (Az s3 hsl _) hsl upd_same ?_⟩
  have e4:ss.reverse=post t:=e3
  rw[←e4]
  exact (IA p3).keep (TS.lst hs3)
theorem scTrueBy:Aj ["steps","world","truths","step","other","one"] ["steps","world"] (Ag GG):=By
def tl (rs:List Bool):List V:=rs.reverse.map V.bl
theorem CQ (b:Bool) (rs:List Bool):tl (b::rs)=tl rs++[.bl b]:=by unfold tl;simp
theorem Jb (rs:List Bool):(tl rs).length=rs.length:=by unfold tl;simp
theorem Ml {g g2:Addr} {gd gd2:FuncData} (F:Fun K "true_by" "true_by" GG f fd) (GH:FnOk P w K mg bz A8 1 g gd ["letter","world"] KO) (CH:B5 K mg "letter_holds" g gd ["letter","world"])
  (GJ:FnOk P w K mg bz A8 1 g2 gd2 ["kind","one","other"] HU) (CJ:B5 K mg "joined" g2 gd2 ["kind","one","other"]):FnOk P w K mg bz A8 2 f fd ["steps","world"] Ia:=by
 refine F.ok scTrueBy (fun vs H Q E h=>?_) (fun cdv A outer s H vs Q E hr h=>?_)
 ·obtain⟨v,ys,t,wd,rfl,_⟩:=h
  rfl
 obtain⟨l,ys,t,wd,rfl,hl,hp,hok,hsz,q⟩:=h
 have hr1:Room 1 _:=hr
 refine⟨_,Ad (Ap (i:=2) scTrueBy.nd rfl (Or.inl rfl) (AA Ab))
  (Ad (CG PassesOwn.never rfl (Br (pv 0)) (AN (i:=3) scTrueBy.nd rfl (Or.inl rfl))
   (Ac (Aw (Am AO (AQ Bm (pv 3) Ai (fun _ _=>rfl)) Ak (As _))
    (Ac (An (Bx PySem.F.plainAttrs_list PySem.F.slot_list_append PySem.F.type_list_append AZ (pv 2) (Aa (Ao GH hr1 (by rfl) CH.m CH.k CH.b .nil AH (Aa (AQ Bm (pv 3) Ai (fun _ _=>rfl)) (Aa (pv 1) Ab))) Ab))))
    (Ac (Aw (Am AO (AQ Bm (pv 3) Ai (fun _ _=>rfl)) Ak (As _))
     (Ac (An (Bx PySem.F.plainAttrs_list PySem.F.slot_list_append PySem.F.type_list_append AZ (pv 2) (Aa (O3 (BY PySem.F.plainAttrs_list PySem.F.slot_list_pop PySem.F.type_list_pop Cf (pv 2))) Ab))))
     (Ad (Ap (i:=4) scTrueBy.nd rfl (Or.inl rfl) (BY PySem.F.plainAttrs_list PySem.F.slot_list_pop PySem.F.type_list_pop Cf (pv 2)))
     (Ad (Ap (i:=5) scTrueBy.nd rfl (Or.inl rfl) (BY PySem.F.plainAttrs_list PySem.F.slot_list_pop PySem.F.type_list_pop Cf (pv 2)))
     (Ac (An (Bx PySem.F.plainAttrs_list PySem.F.slot_list_append PySem.F.type_list_append AZ (pv 2) (Aa (Ao GJ hr1 (by rfl) CJ.m CJ.k CJ.b .nil AH (Aa (AQ Bm (pv 3) Ai (fun _ _=>rfl)) (Aa (pv 5) (Aa (pv 4) Ab)))) Ab)))))))))))
  (Ac (Ar (AQ Ba (pv 2) Ai (fun _ _=>rfl))))),?_⟩
 refine⟨MI,fun tr htr=>?_⟩
 have s1:=Ae htr (.lst [])
 have hlen:=hp.len
 have hpl:=B0 t
 refine⟨_,rfl,l,rfl,⟨_,SqL.of (s1 _ _ hl)⟩,Bc (K:=K) (a:=l) (xs:=ys) (fun i σ H3=>∃(v0 v1 v2:Option V) (rs:List Bool),σ=[some (.ref l),some (.int wd),some (.ref tr),v0,v1,v2]∧Same H H3∧H3 tr=some (.lst (tl rs))∧rs.length≤i∧run wd ((post t).drop i) rs=some [tv t wd]) ?_ ?_ ?_ ?_⟩
 ·exact⟨_,_,_,[],rfl,s1,upd_same,Nat.le_refl _,Dm wd t []⟩
 ·rintro i σ H3 _ ⟨v0,v1,v2,rs,rfl,s3,_⟩
  exact SqL.of (s3 _ _ hl)
 ·rintro i x σ H3 hx ⟨v0,v1,v2,rs,rfl,s3,h3,hlr,hrun⟩
  obtain⟨u,hu,hat⟩:=Bt hp hx
  have hat3:=hat.keep (TS.same s3)
  have hi:i<ys.length:=(List.getElem?_eq_some_iff.mp hx).1
  obtain⟨hi2,eu⟩:=List.getElem?_eq_some_iff.mp hu
  rw[List.drop_eq_getElem_cons hi2,eu] at hrun
  unfold run at hrun
  cases u with
  | lt k=>
   obtain⟨p,rfl,hpt⟩:=hat3
   refine⟨_,rfl,p,_,_,_,rfl,rfl,SqT.of hpt,Av (j:=0) rfl,rfl,_,rfl,?_⟩
   refine Bo rfl ?_
   refine⟨_,rfl,.inl ⟨rfl,_,SqL.of h3⟩,_,rfl,p,_,_,_,rfl,rfl,SqT.of hpt,Av (j:=1) rfl,_,rfl,k,wd,rfl,?_⟩
   refine⟨tr,_,_,rfl,rfl,h3,AI (by rw[Jb];omega),?_⟩
   refine⟨_,_,_,Eo k wd::rs,rfl,Az s3 htr _,?_,by show rs.length+1≤i+1;omega,hrun⟩
   rw[upd_same,CQ]
  | nt u=>
   obtain⟨p,c,rfl,hpt,_⟩:=hat3
   refine⟨_,rfl,p,_,_,_,rfl,rfl,SqT.of hpt,Av (j:=0) rfl,rfl,_,rfl,?_⟩
   refine A3 (by decide) ?_
   refine⟨_,rfl,p,_,_,_,rfl,rfl,SqT.of hpt,Av (j:=0) rfl,rfl,_,rfl,?_⟩
   refine Bo rfl ?_
   cases rs with
   | nil=>cases hrun
   | cons a r=>
    rw[CQ] at h3
    have hlr':r.length+1≤i:=hlr
    refine⟨_,rfl,.inl ⟨rfl,_,SqL.of h3⟩,_,rfl,.inl ⟨rfl,_,SqL.of h3⟩,tr,_,_,rfl,rfl,h3,BE _ _,_,rfl,?_⟩
    refine⟨tr,_,_,rfl,rfl,upd_same,?_,?_⟩
    ·rw[List.dropLast_concat];exact AI (by rw[Jb];omega)
    refine⟨_,_,_,(!a)::r,rfl,Az (Az s3 htr _) htr _,?_,by show r.length+1≤i+1;omega,hrun⟩
    rw[upd_same,CQ,List.dropLast_concat]
  | bn j u1 u2=>
   obtain⟨p,c1,c2,rfl,hpt,_⟩:=hat3
   refine⟨_,rfl,p,_,_,_,rfl,rfl,SqT.of hpt,Av (j:=0) rfl,rfl,_,rfl,?_⟩
   refine A3 Hz ?_
   refine⟨_,rfl,p,_,_,_,rfl,rfl,SqT.of hpt,Av (j:=0) rfl,rfl,_,rfl,?_⟩
   refine A3 Ot ?_
   match rs,hrun,h3,hlr with
   | [],hrun,_,_=>cases hrun
   | [_],hrun,_,_=>cases hrun
   | b::a::r,hrun,h3,hlr=>
    rw[CQ,CQ] at h3
    have hlr':r.length+1+1≤i:=hlr
    refine⟨_,rfl,.inl ⟨rfl,_,SqL.of h3⟩,tr,_,_,rfl,rfl,h3,BE _ _,?_⟩
    have h4:(upd H3 tr (.lst ((tl r++[V.bl a])++[V.bl b]).dropLast)) tr=some (.lst (tl r++[V.bl a])):=by rw[upd_same,List.dropLast_concat]
    have s4:Same H (upd H3 tr (.lst ((tl r++[V.bl a])++[V.bl b]).dropLast)):=Az s3 htr _
    have p4:(upd H3 tr (.lst ((tl r++[V.bl a])++[V.bl b]).dropLast)) p=some (.tup [.str (jn j),c1,c2]):=by rw[Ah (AL hpt h3 (by intro z;cases z))];exact hpt
    revert h4 s4 p4
    generalize upd H3 tr (.lst ((tl r++[V.bl a])++[V.bl b]).dropLast)=H4
    intro h4 s4 p4
    refine⟨_,rfl,.inl ⟨rfl,_,SqL.of h4⟩,tr,_,_,rfl,rfl,h4,BE _ _,?_⟩
    have h5:(upd H4 tr (.lst (tl r++[V.bl a]).dropLast)) tr=some (.lst (tl r)):=by rw[upd_same,List.dropLast_concat]
    have s5:Same H (upd H4 tr (.lst (tl r++[V.bl a]).dropLast)):=Az s4 htr _
    have p5:(upd H4 tr (.lst (tl r++[V.bl a]).dropLast)) p=some (.tup [.str (jn j),c1,c2]):=by rw[Ah (AL p4 h4 (by intro z;cases z))];exact p4
    revert h5 s5 p5
    generalize upd H4 tr (.lst (tl r++[V.bl a]).dropLast)=H5
    intro h5 s5 p5
    refine⟨_,rfl,.inl ⟨rfl,_,SqL.of h5⟩,_,rfl,p,_,_,_,rfl,rfl,SqT.of p5,Av (j:=0) rfl,_,rfl,_,rfl,j,a,b,rfl,?_⟩
    refine⟨tr,_,_,rfl,rfl,h5,AI (by rw[Jb];omega),?_⟩
    refine⟨_,_,_,jv j a b::r,rfl,Az s5 htr _,?_,by show r.length+1≤i+1;omega,hrun⟩
    rw[upd_same,CQ]
 ·rintro σ H3 ⟨v0,v1,v2,rs,rfl,s3,h3,hlr,hrun⟩
  rw[hlen,List.drop_length] at hrun
  cases hrun
  exact⟨_,rfl,tr,_,_,_,rfl,rfl,SqL.of h3,Av (j:=0) rfl,q _ s3⟩
end
abbrev DY:Stmt:=top 39
def Cp (K:PySem.W.Frag):Sp:=fun vs H Q _=>∃(v:V) (t:Tr) (r:Addr) (row:List Int),vs=[v,.ref r]∧t.At H v∧t.ok 5∧t.size≤800∧SqL K H r (row.map V.int)∧Wr row∧∀(l:Addr) (H':Hp),Same H H'→H l=none→AV H' l (row.filter fun k=>tv t k == true)→Q (.ref l) H'
section
theorem scWorldsOf:Aj ["sentence","room","steps"] ["sentence","room"] (Ag DY):=By
theorem Ip {g g2:Addr} {gd gd2:FuncData} (F:Fun K "worlds_of" "worlds_of" DY f fd) (GS:FnOk P w K mg bz A8 2 g gd ["sentence"] KH) (CS:B5 K mg "steps_of" g gd ["sentence"])
  (GB:FnOk P w K mg bz A8 2 g2 gd2 ["steps","world"] Ia) (CB:B5 K mg "true_by" g2 gd2 ["steps","world"]):FnOk P w K mg bz A8 3 f fd ["sentence","room"] (Cp K):=by
 refine F.ok scWorldsOf (fun vs H Q E h=>?_) (fun cdv A outer s H vs Q E hr h=>?_)
 ·obtain⟨v,t,r,row,rfl,_⟩:=h
  rfl
 obtain⟨v,t,r,row,rfl,ha,hok,hs,hS,hwr,q⟩:=h
 have hl:=hwr.len
 refine⟨_,Ad (Ap (i:=2) scWorldsOf.nd rfl (Or.inr rfl) (Ao GS hr (by rfl) CS.m CS.k CS.b .nil AH (Aa (pv 0) Ab)))
  (Ac (Ar (Cq (N:=["world","steps"]) (js:=[none,some 2]) (cl:=[("steps",s.heap.objs.size+1)]) ⟨rfl,rfl,rfl,(by intro p hp;simp at hp;rcases hp with rfl<;>rfl),rfl,rfl,rfl⟩ (Br (pv 1)) (fun c1=>(AN (i:=0) (show (["world","steps"]:List Str).Nodup by decide +kernel) rfl (Or.inl rfl))) (fun c1=>(Kp (DI (Ao GB hr (by rfl) CB.m CB.k CB.b .nil AH (Aa (pv 1) (Aa (pv 0) Ab)))))) (fun c1=>(pv 0))))),?_⟩
 refine⟨_,rfl,v,t,rfl,ha,hs,fun st ys H1 s1 hst0 hst hp=>?_⟩
 refine⟨_,rfl,r,rfl,⟨_,s1.seq hS⟩,fun cc acc hacc=>HS (p:=fun k=>tv t k == true) (rest:=[some (.ref st)]) (s1.seq hS) hacc (by omega) (fun k hk H2 s2 R hR=>?_) (fun v0 H2 s2 h2=>q acc H2 (s1.trans s2) (s1.free hacc) h2) none⟩
 refine⟨_,rfl,_,rfl,st,ys,t,k,rfl,s2 _ _ hst,hp.keep (TS.same s2),hok,hs,fun H3 s3=>⟨_,rfl,?_⟩⟩
 have:=hR H3 s3
 rw[show (tv t k == true)=tv t k by cases tv t k<;>rfl] at this
 exact this
end
abbrev NF:Stmt:=top 40
section
theorem Rr:Aj ["many"] ["many"] (Ag NF):=By
theorem Pl (F:Fun K "all_worlds" "all_worlds" NF f fd) (T:HB mg):FnOk P w K mg bz A8 1 f fd ["many"] II:=by
 refine F.ok Rr (fun vs H Q E h=>?_) (fun cdv A outer s H vs Q E hr h=>?_)
 ·obtain⟨m,rfl,_⟩:=h
  rfl
 obtain⟨m,rfl,h1,h5,q⟩:=h
 refine⟨_,Ac (Ar (AW (JX rfl) (by rfl) T.lst Dq (Aa (AW FX (by rfl) T.rng boot_range (Aa (AE R4 Ai (pv 0)) Ab)) Ab))),?_⟩
 have e:(1:Int)*2^((m:Int)).toNat=((2^m:Nat):Int):=by rw[Int.one_mul,Int.toNat_natCast,Int.natCast_pow];rfl
 refine⟨_,rfl,_,_,rfl,rfl,⟨by omega,by omega,by decide⟩,_,rfl,fun r hr2=>?_⟩
 have s2:=Ae hr2 (.rng 0 ((1:Int)*2^((m:Int)).toNat))
 refine⟨r,2^m,rfl,(by rw[upd_same];show some (HO.rng 0 ((1:Int)*2^((m:Int)).toNat))=_;rw[e]),Nat.le_trans (Ox h5) (by decide),fun l2 hl2=>?_⟩
 have s3:=Ae hl2 (.lst ((Bv (2^m)).map V.int))
 exact q l2 _ (s2.trans s3) (s2.free hl2) upd_same
end
section
end
abbrev IV:Stmt:=top 17
def KD (K:PySem.W.Frag):Sp:=fun vs H Q _=>∃(a b:Addr) (one other:List Int),vs=[.ref a,.ref b]∧SqL K H a (one.map V.int)∧SqL K H b (other.map V.int)∧one.length≤32∧(∀k∈one,0≤k∧k<32)∧other.length≤900∧
 ∀(l:Addr) (H':Hp) (ns:List Int),Same H H'→H l=none→ns.Pairwise (· < ·)→(∀k,k∈ns↔k∈one∧k∉other)→AV H' l ns→Q (.ref l) H'
section
theorem Pj:Aj ["one","other"] ["one","other"] (Ag IV):=By
theorem NR (F:Fun K "in_first_only" "in_first_only" IV f fd) (T:HB mg):FnOk P w K mg bz A8 1 f fd ["one","other"] (KD K):=by
 refine F.ok Pj (fun vs H Q E h=>?_) (fun cdv A outer s H vs Q E hr h=>?_)
 ·obtain⟨a,b,one,other,rfl,_⟩:=h
  rfl
 obtain⟨a,b,one,other,rfl,ha,hb,hl1,h32,hl2,q⟩:=h
 refine⟨_,Ac (Ar (Ax (Gs rfl) (by rfl) T.sorted boot_sorted (Aa (AE Pp (AW (Gb rfl) (by rfl) T.set boot_set (Aa (pv 0) Ab)) (AW (Gb rfl) (by rfl) T.set boot_set (Aa (pv 1) Ab))) Ab))),?_⟩
 refine⟨_,rfl,a,one,rfl,ha,by omega,fun a1 ha1=>?_⟩
 have s1:=Ae ha1 (Bd w a1 (fun k=>decide (k∈one)) one.length)
 refine⟨_,rfl,b,other,rfl,s1.seq hb,by omega,fun b1 hb1=>?_⟩
 have s2:=Ae hb1 (Bd w b1 (fun k=>decide (k∈other)) other.length)
 refine⟨a1,b1,_,_,_,_,rfl,rfl,s2 _ _ upd_same,upd_same,fun e=>?_,hl1,by omega,fun k hk=>h32 k (of_decide_eq_true hk),fun r hr1=>?_⟩
 ·subst e
  rw[upd_same] at hb1
  cases hb1
 have s3:=Ae hr1 (Lu w r (fun k=>decide (k∈one) && !decide (k∈other)) one.length)
 refine⟨r,_,_,rfl,upd_same,by omega,fun l ns hl hp hm=>?_⟩
 have s4:=Ae hl (.lst (ns.map V.int))
 exact q l _ ns (s1.trans (s2.trans (s3.trans s4))) ((s1.trans (s2.trans s3)).free hl) hp (fun k=>by rw[hm k,Bool.and_eq_true,decide_eq_true_eq,Bool.not_eq_true',decide_eq_false_iff_not]) upd_same
end
section
end
abbrev RZ:Stmt:=top 18
def Dg (rs:List (List Int)):Nat:=(rs.map List.length).sum
def Le (K:PySem.W.Frag):Sp:=fun vs H Q _=>∃(a:Addr) (xs:List V) (rs:List (List Int)),vs=[.ref a]∧SqL K H a xs∧RowsAt H xs rs∧Dg rs<64∧
 ∀(l:Addr) (H':Hp) (ns:List Int),Same H H'→H l=none→ns.Pairwise (· < ·)→(∀k,k∈ns↔∃row∈rs,k∈row)→AV H' l ns→Q (.ref l) H'
theorem UB {tb:TS} {D:Ends} {σ:L2.St} {H:Hp} (h:tb D σ H):D3 Qr tb D σ H:=by
 show if true=true then tb D σ H else D.nx σ H
 rw[if_pos rfl]
 exact h
theorem L5 {rs:List (List Int)} {i:Nat} {row:List Int} (h:rs[i]? = some row):Dg (rs.take (i+1))=Dg (rs.take i)+row.length:=by
 have e:rs.take (i+1)=rs.take i++[row]:=by rw[List.take_add_one,h];rfl
 unfold Dg
 rw[e,List.map_append,List.sum_append]
 simp
theorem PX {rs:List (List Int)} {i:Nat}:Dg (rs.take i)≤Dg rs:=by
 have e:=List.take_append_drop i rs
 have:Dg rs=Dg (rs.take i)+Dg (rs.drop i):=by
  conv=>lhs;rw[←e]
  unfold Dg
  rw[List.map_append,List.sum_append]
 omega
section
theorem Ti:Aj ["rows"] ["rows"] (Ag RZ):=By
theorem Q6 (F:Fun K "in_any" "in_any" RZ f fd) (T:HB mg):FnOk P w K mg bz A8 1 f fd ["rows"] (Le K):=by
 refine F.ok Ti (fun vs H Q E h=>?_) (fun cdv A outer s H vs Q E hr h=>?_)
 ·obtain⟨a,xs,rs,rfl,_⟩:=h
  rfl
 obtain⟨a,xs,rs,rfl,hS,hR,h64,q⟩:=h
 refine⟨_,Ac (Ar (Ax (Dt rfl) (by rfl) T.sorted boot_sorted (Aa (LH (N:=["row","world"]) (js:=[none,none]) (cl:=[]) ⟨rfl,rfl,rfl,List.forall_mem_nil _,rfl,rfl,rfl⟩ (Br (pv 0)) (fun c1=>(AN (i:=0) (show (["row","world"]:List Str).Nodup by decide +kernel) rfl (Or.inl rfl))) (fun c1=>B6) (fun c1=>(Br (pv 0))) (fun c1=>(AN (i:=1) (show (["row","world"]:List Str).Nodup by decide +kernel) rfl (Or.inl rfl))) (fun c1=>B6) (fun c1=>(pv 1))) Ab))),?_⟩
 refine⟨_,rfl,a,rfl,⟨_,hS⟩,fun cc acc hacc=>Bc (K:=K) (a:=a) (xs:=xs) (fun i σ H2=>∃(v0 v1:Option V) (S:Int→Bool) (n:Nat),σ=[v0,v1]∧Same H H2∧H2 acc=some (Bd w acc S n)∧(∀k,S k=true↔∃row∈rs.take i,k∈row)∧n≤Dg (rs.take i)) ?_ ?_ ?_ ?_⟩
 ·exact⟨none,none,_,0,rfl,Ae hacc _,upd_same,fun k=>by simp,Nat.zero_le _⟩
 ·rintro i σ H2 _ ⟨v0,v1,S,n,rfl,s2,_⟩
  exact s2.seq hS
 ·rintro i x σ H2 hx ⟨v0,v1,S,n,rfl,s2,ha2,hm2,hn2⟩
  obtain⟨row,p,hrow,rfl,hp⟩:=hR.get hx
  have hlt:=L5 hrow
  have hle:=PX (rs:=rs) (i:=i+1)
  refine UB ?_
  refine⟨_,rfl,p,rfl,⟨_,SqL.of (s2 _ _ hp)⟩,Bc (K:=K) (a:=p) (xs:=row.map V.int) (fun j σ H3=>∃(v1:Option V) (S:Int→Bool) (n:Nat),σ=[some (.ref p),v1]∧Same H H3∧H3 acc=some (Bd w acc S n)∧(∀k,S k=true↔(∃row∈rs.take i,k∈row)∨k∈row.take j)∧n≤Dg (rs.take i)+j) ?_ ?_ ?_ ?_⟩
  ·exact⟨_,S,n,rfl,s2,ha2,fun k=>by rw[hm2 k];simp,hn2⟩
  ·rintro j σ H3 _ ⟨v1,S,n,rfl,s3,_⟩
   exact SqL.of (s3 _ _ hp)
  ·rintro j u σ H3 hu ⟨v1,S,n,rfl,s3,ha3,hm3,hn3⟩
   rw[List.getElem?_map] at hu
   obtain⟨k0,hk0,rfl⟩:=Option.map_eq_some_iff.mp hu
   have hj:=(List.getElem?_eq_some_iff.mp hk0).1
   have et:row.take (j+1)=row.take j++[k0]:=by rw[List.take_add_one,hk0];rfl
   show Gn w acc (Ny 1) _ _ _
   refine⟨_,rfl,k0,S,n,rfl,ha3,by omega,?_⟩
   refine⟨_,_,n+1,rfl,Az s3 hacc _,upd_same,fun k=>?_,by omega⟩
   rw[Bool.or_eq_true,hm3 k,decide_eq_true_eq,et,List.mem_append,List.mem_singleton,or_assoc]
  ·rintro σ H3 ⟨v1,S,n,rfl,s3,ha3,hm3,hn3⟩
   rw[List.length_map] at hm3 hn3
   rw[List.take_length] at hm3
   refine⟨_,_,S,n,rfl,s3,ha3,fun k=>?_,by omega⟩
   have e:rs.take (i+1)=rs.take i++[row]:=by rw[List.take_add_one,hrow];rfl
   rw[hm3 k,e]
   constructor
   ·rintro (⟨r,h1,h2⟩|h)
    ·exact⟨r,List.mem_append_left _ h1,h2⟩
    ·exact⟨row,List.mem_append_right _ List.mem_cons_self,h⟩
   ·rintro⟨r,h1,h2⟩
    rcases List.mem_append.mp h1 with z | z
    ·exact .inl ⟨r,z,h2⟩
    ·rw[List.mem_singleton.mp z] at h2;exact .inr h2
 ·rintro σ H2 ⟨v0,v1,S,n,rfl,s2,ha2,hm2,hn2⟩
  rw[hR.len,List.take_length] at hm2 hn2
  refine⟨acc,S,n,rfl,ha2,by omega,fun l ns hl hp hm=>?_⟩
  have s4:=Ae hl (.lst (ns.map V.int))
  exact q l _ ns (s2.trans s4) (s2.free hl) hp (fun k=>by rw[hm k,hm2 k]) upd_same
end
section
end
section
end
section
end
def Uz:Option Bool→V
 | none=>.non
 | some b=>.bl b
def US (w:Int) (i:Nat):Option Bool→Bool
 | none=>true
 | some b=>decide (b=Eo i w)
def Tx (marks:List (Option Bool)) (w:Int):Bool:=(marks.mapIdx (US w)).all id
section
end
abbrev Gx:Stmt:=top 45
section
theorem MM:Aj ["sides"] ["sides"] (Ag Gx):=By
theorem LV {g:Addr} {gd:FuncData} (F:Fun K "base_of" "base_of" Gx f fd) (GA:FnOk P w K mg bz A8 1 g gd ["rows"] (Le K)) (CA:B5 K mg "in_any" g gd ["rows"]):FnOk P w K mg bz A8 2 f fd ["sides"] (Le K):=by
 refine F.ok MM (fun vs H Q E h=>?_) (fun cdv A outer s H vs Q E hr h=>?_)
 ·obtain⟨a,xs,rs,rfl,_⟩:=h
  rfl
 obtain⟨a,xs,rs,rfl,hS,hR,h64,q⟩:=h
 refine⟨_,Ac (Ar (Ao GA hr (by rfl) CA.m CA.k CA.b .nil AH (Aa (pv 0) Ab))),?_⟩
 exact⟨_,rfl,a,xs,rs,rfl,hS,hR,h64,q⟩
end
theorem Je {z:Str} {t:Tr} {row:List Int}:Dg (AC z t row)≤row.length:=by
 have h:=NM t row
 unfold AC Dg
 split
 ·simp only[List.map_cons,List.map_nil,List.sum_cons,List.sum_nil];omega
 ·split
  ·simp only[List.map_cons,List.map_nil,List.sum_cons,List.sum_nil];omega
  ·simp only[List.map_cons,List.map_nil,List.sum_cons,List.sum_nil];omega
theorem NX {room ns:List Int} {sides:List (List Int)} (hr:Wr room) (hs:∀s∈sides,s.Sublist room) (hp:ns.Pairwise (· < ·)) (hm:∀k,k∈ns↔∃row∈sides,k∈row):ns=E7 room sides:=
 K5 hp (hr.1.sublist List.filter_sublist) fun k=>by
  rw[hm k]
  unfold E7
  rw[List.mem_filter,List.any_eq_true]
  constructor
  ·rintro⟨r,h1,h2⟩
   exact⟨(hs r h1).subset h2,r,h1,decide_eq_true h2⟩
  ·rintro⟨_,r,h1,h2⟩
   exact⟨r,h1,of_decide_eq_true h2⟩
structure Be (K:PySem.W.Frag) (mg:Str→Option Value) (nm:Str) (C cT:Addr):Prop where
 at_:XAt K C cT
 cls:Hj K C cT none
 m:mg nm=some (.ref C)
 ty:typeIn K (.ref C)=some (.type "type")
 ic:(clsIn K C).isSome=true
 bs:mroIn K C (.type "BaseException")=some true
 slf:mroIn K C (.ref C)=some true
 up:mroIn K C (.ref cT)=some true
 kv:kitOne K (.ref C) (.type "ValueError")=some true
structure Px (K:PySem.W.Frag) (mg:Str→Option Value) (cT:Addr):Prop where
 m:mg "TalkError"=some (.ref cT)
 ty:typeIn K (.ref cT)=some (.type "type")
 ic:(clsIn K cT).isSome=true
 bs:mroIn K cT (.type "BaseException")=some true
 mV:mg "ValueError"=none
 isi:mg "isinstance"=none
theorem O6 {K:PySem.W.Frag} {C cT N NT:Addr} {nm q nm2 q2:Str} {bs bs2:List Value} {hd2:Bool} {sn sn2:List Str} {sub sub2:List Value} {ab ab2:Bool} {col col2:Option Bool} {dd dd2:Option Addr} {k0 k1 k2 k3 k5:Option Value} {j0 j1 j2 j3 j4 j5:Option Value}
  {oc oc2:Value} {od od2:Option Addr} {es es2:Array DictEntry} {ep ep2:Nat} {sl sl2:Array (Option Value)}
  (lC:K.lookup C=some (excClassObj nm q C N bs (.ref cT::D7) true sn sub ab col dd k0 k1 k2 k3 k5 "ValueError.__new__")) (lN:K.lookup N=some ⟨oc,od,.dict es ep,sl⟩) (sN:(es.all fun e=>match e.key with | .str _ _=>true | _=>false)=true)
  (iN:nsIn K N "__init__"=some none) (lT:K.lookup cT=some ⟨.type "type",dd2,.cls { name:=nm2,bases:=bs2,mro:=.ref cT::D7,ns:=NT,qualname:=q2,hasDict:=hd2,slotNames:=sn2,subclasses:=sub2,abstract:=ab2,collection:=col2,hasDel:=false },#[j0,j1,j2,j3,j4,j5]⟩)
  (lNT:K.lookup NT=some ⟨oc2,od2,.dict es2 ep2,sl2⟩) (sNT:(es2.all fun e=>match e.key with | .str _ _=>true | _=>false)=true) (iNT:nsIn K NT "__init__"=some none) (kp:keepIn K (.ref C)=true):Hj K C cT none:=
 ⟨⟨nm,q,N,bs,true,sn,sub,ab,col,dd,k0,k1,k2,k3,k5,lC,Ew lN sN,iN⟩,HN lT (Ew lNT sNT) iNT,kp⟩
theorem Fun.okX {P:Program} {w:World} {K:PySem.W.Frag} {mg:Str→Option Value} {bz:Heap} {f:Addr} {fd:FuncData} {x qual:Str} {st:Stmt} {N ps:List Str} {k:Nat} {sp:Sp} (F:Fun K x qual st f fd) (S:Aj N ps (Ag st)) (len:∀vs H Q E,sp vs H Q E→vs.length=ps.length)
  (hbody:∀(cdv:Value) (A:Around) (outer:List Env) (s:Shared) (H:Hp) (vs:List V) (Q:VK) (E:XK),Room k (A.deeper (envOfC qual (Ag st) s.heap.objs.size f cdv))→sp vs H Q E→
   ∃t,PSs (Ha (Bj P w) P w K mg bz N qual (Ag st) f cdv A outer s H E) (Bf st) t∧t { nx:=fun _ H'=>Q .non H',rt:=Q } (Dy N vs) H):FnOk P w K mg bz (Bj P w) (k+1) f fd ps sp:=by
 obtain⟨oc,od,kV,doc,pm,an,cdv,ct,osl,rfl,lk,hcd⟩:=F.ex
 exact QT lk hcd S len fun A outer s H vs Q E hr hsp=>hbody cdv A outer s H vs Q E hr hsp
abbrev EK:Stmt:=top 44
def AX (z:Str):Prop:=z="true"∨z="false"∨z="doubt"
instance (z:Str):Decidable (AX z):=by unfold AX;infer_instance
abbrev RowsNew (H H':Hp):List V→List (List Int)→Prop:=Paired fun (v:V) (row:List Int)=>∃p,v= .ref p∧H p=none∧AV H' p row
theorem RowsNew.at {H H':Hp}:∀{xs:List V} {rs:List (List Int)},RowsNew H H' xs rs→RowsAt H' xs rs
 | _,_,.nil=>.nil
 | _,_,.cons ⟨p,e,_,h⟩ q=>.cons ⟨p,e,h⟩ (RowsNew.at q)
theorem RowsNew.keep {H H' H2:Hp} (s:Same H' H2):∀{xs:List V} {rs:List (List Int)},RowsNew H H' xs rs→RowsNew H H2 xs rs
 | _,_,.nil=>.nil
 | _,_,.cons ⟨p,e,n,h⟩ q=>.cons ⟨p,e,n,s _ _ h⟩ (RowsNew.keep s q)
def DW (K:PySem.W.Frag) (cB cN:Addr):Sp:=fun vs H Q E=>∃(r:Addr) (z:Str) (v:V) (t:Tr) (row:List Int),vs=[.ref r,.str z,v]∧t.At H v∧t.ok 5∧t.size≤800∧SqL K H r (row.map V.int)∧Wr row∧
 (¬AX z→∀H',Same H H'→E (.ref cB) none H')∧(AX z→[]∈AC z t row→∀H',Same H H'→E (.ref cN) none H')∧
 (AX z→[]∉AC z t row→∀(l:Addr) (xs:List V) (H':Hp),Same H H'→H l=none→H' l=some (.lst xs)→RowsNew H H' xs (AC z t row)→(∀x∈xs,x≠.ref l)→Q (.ref l) H')
def D5:List V:=[.str "true",.str "false",.str "doubt"]
theorem FY (z:Str):O8 (.str z) D5=decide (AX z):=by
 unfold O8 D5 AX
 simp only[List.any_cons,List.any_nil,Bool.or_false]
 have e:∀y:Str,Pb (.str y) (.str z)=decide (z=y):=fun y=>by
  show (y == z)=decide (z=y)
  by_cases h:z=y
  ·subst h;simp
  ·rw[decide_eq_false h]
   exact beq_false_of_ne fun q=>h q.symm
 rw[e,e,e,Bool.eq_iff_iff]
 simp only[Bool.or_eq_true,decide_eq_true_eq]
 exact decide_eq_true_iff.symm
theorem PJ {t:Tr} {row ns:List Int} (hr:Wr row) (hp:ns.Pairwise (· < ·)) (hm:∀k,k∈ns↔k∈row∧k∉row.filter fun k=>tv t k == true):ns=BB false t row:=
 K5 hp (hr.1.sublist List.filter_sublist) fun k=>by
  rw[hm k]
  unfold BB
  rw[List.mem_filter,List.mem_filter]
  constructor
  ·rintro⟨h1,h2⟩
   refine⟨h1,?_⟩
   cases h:tv t k with
   | false=>rfl
   | true=>exact absurd ⟨h1,by rw[h];rfl⟩ h2
  ·rintro⟨h1,h2⟩
   refine⟨h1,fun h3=>?_⟩
   have e1:=h3.2
   have e2:tv t k=false:=eq_of_beq h2
   rw[e2] at e1
   cases e1
theorem IQ {r:List Int}:(r.map V.int).isEmpty=r.isEmpty:=by cases r<;>rfl
theorem LJ (rs:List (List Int)):(rs.map List.isEmpty).any id=decide ([]∈rs):=by
 induction rs with
 | nil=>rfl
 | cons r rs ih=>
  rw[List.map_cons,List.any_cons,ih]
  cases r with
  | nil=>simp
  | cons a b=>simp
theorem OX {K:PySem.W.Frag} {H:Hp} {xs:List V} {rs:List (List Int)} (h:RowsAt H xs rs):∀(i:Nat) v b,xs[i]? = some v→(rs.map List.isEmpty)[i]? = some b→∃a zs,v= .ref a∧SqL K H a zs∧b=zs.isEmpty:=fun i v b hv hb=>by
 obtain⟨row,p,hr,rfl,hp⟩:=h.get hv
 rw[List.getElem?_map,hr] at hb
 refine⟨p,_,rfl,SqL.of hp,?_⟩
 rw[IQ]
 exact (Option.some.inj hb).symm
section
variable {cB cN cT:Addr}
theorem scSidesOf:Aj ["room","kind","sentence","inside","outside","sides"] ["room","kind","sentence"] (Ag EK):=By
theorem Jq {g g2:Addr} {gd gd2:FuncData} (F:Fun K "sides_of" "sides_of" EK f fd) (XB:Be K mg "BadWord" cB cT) (XN:Be K mg "NoStanding" cN cT)
  (GW:FnOk P w K mg bz A8 3 g gd ["sentence","room"] (Cp K)) (CW:B5 K mg "worlds_of" g gd ["sentence","room"])
  (GF:FnOk P w K mg bz A8 1 g2 gd2 ["one","other"] (KD K)) (CF:B5 K mg "in_first_only" g2 gd2 ["one","other"]):FnOk P w K mg bz (Bj P w) 4 f fd ["room","kind","sentence"] (DW K cB cN):=by
 refine Fun.okX F scSidesOf (fun vs H Q E h=>?_) (fun cdv A outer s H vs Q E hr h=>?_)
 ·obtain⟨r,z,v,t,row,rfl,_⟩:=h
  rfl
 obtain⟨r,z,v,t,row,rfl,ha,hok,hsz,hS,hwr,qB,qN,qO⟩:=h
 have hr1:Room 1 _:=hr.mono (by decide)
 have hl:=hwr.len
 refine⟨_,Ad (Aw (Am B9 (pv 1) (BW (Aa Ak (Aa Ak (Aa Ak Ab)))) (by with_unfolding_all rfl))
   (Ac (AY (Ex:=E) AM rfl XB.cls XB.at_ XB.ty (by rfl) XB.m (Aa Ak Ab) (hvl:=fun _ _ _ h=>⟨by decide,h⟩)))
   Au)
  (Ad (Ap (i:=3) scSidesOf.nd rfl (Or.inl rfl) (Ao GW hr (by rfl) CW.m CW.k CW.b .nil AH (Aa (pv 2) (Aa (pv 0) Ab))))
  (Ad (Ap (i:=4) scSidesOf.nd rfl (Or.inl rfl) (Ao GF hr1 (by rfl) CF.m CF.k CF.b .nil AH (Aa (pv 0) (Aa (pv 3) Ab))))
  (Ad (Aw (Am AO (pv 1) Ak (As _))
   (Ac (Ap (i:=5) scSidesOf.nd rfl (Or.inl rfl) (AA (Aa (pv 3) Ab))))
   (Ac (Aw (Am AO (pv 1) Ak (As _))
    (Ac (Ap (i:=5) scSidesOf.nd rfl (Or.inl rfl) (AA (Aa (pv 4) Ab))))
    (Ac (Ap (i:=5) scSidesOf.nd rfl (Or.inl rfl) (AA (Aa (pv 3) (Aa (pv 4) Ab))))))))
  (Ad (Aw (Am (Rq hr.units9) (AA Ab) (pv 5) (by with_unfolding_all rfl))
   (Ac (AY (Ex:=E) AM rfl XN.cls XN.at_ XN.ty (by rfl) XN.m (Aa Ak Ab) (hvl:=fun _ _ _ h=>⟨by decide,h⟩)))
   Au)
  (Ac (Ar (pv 5))))))),?_⟩
 refine⟨_,rfl,RV,fun kt hkt=>?_⟩
 have s1:=Ae hkt (.tup D5)
 refine⟨kt,D5,rfl,.inr (SqT.of upd_same),rfl,rfl,_,rfl,?_⟩
 show if (!O8 (.str z) D5)=true then _ else _
 rw[FY]
 by_cases hk:AX z
 rotate_left
 ·refine OG hk ?_
  exact qB hk _ s1
 refine MO hk ?_
 have a1:=ha.keep (TS.same s1)
 refine⟨_,rfl,_,rfl,v,t,r,row,rfl,a1,hok,hsz,s1.seq hS,hwr,fun il H2 s2 hil0 hil=>?_⟩
 have t2:=s1.trans s2
 have hfl:(row.filter fun k=>tv t k == true).length≤32:=Nat.le_trans (List.length_filter_le _ _) hl
 refine⟨_,rfl,_,rfl,r,il,row,_,rfl,t2.seq hS,SqL.of hil,hl,hwr.2,by omega,fun ol H3 ns s3 hol0 hp hm hol=>?_⟩
 have en:=PJ hwr hp hm
 subst en
 have t3:=t2.trans s3
 have hil3:AV H3 il (BB true t row):=s3 _ _ hil
 have nil0:H il=none:=s1.free hil0
 have nol0:H ol=none:=t2.free hol0
 have nio:il≠ol:=Af hil hol0
 have fin:∀(sl:Addr) (xs:List V) (H4:Hp),Same H3 H4→H3 sl=none→H4 sl=some (.lst xs)→RowsNew H H4 xs (AC z t row)→(∀x∈xs,x≠.ref sl)→∀(e:Addr),H4 e=none→∀(G:Bool→Hp→Prop),(∀H',E (.ref cN) none H'→G true H')→(∀H',Q (.ref sl) H'→G false H')→
   SJ K (.ref e) (.ref sl) (upd H4 e (.lst [])) (fun x H'=>∃k,x=V.bl k∧G k H'):=fun sl xs H4 s4 hsl0 hsl hR hne e he G g1 g2=>by
  have s5:=Ae he (.lst [])
  refine⟨e,sl,xs,(AC z t row).map List.isEmpty,rfl,rfl,SqL.of upd_same,SqL.of (s5 _ _ hsl),?_,OX (hR.at.keep s5),_,rfl,?_⟩
  ·rw[List.length_map];exact hR.at.len.symm
  ·rw[LJ]
   by_cases hm0:[]∈AC z t row
   ·rw[decide_eq_true hm0]
    exact g1 _ (qN hk hm0 _ (t3.trans (s4.trans s5)))
   ·rw[decide_eq_false hm0]
    refine g2 _ ?_
    exact qO hk hm0 sl xs _ (t3.trans (s4.trans s5)) (t3.free hsl0) (s5 _ _ hsl) (hR.keep s5) hne
 refine⟨_,rfl,rfl,_,rfl,?_⟩
 by_cases h0:z="true"
 ·refine Bo (by rw[h0]) ?_
  refine⟨_,rfl,LU,fun sl hsl=>?_⟩
  have s4:=Ae hsl (.lst [.ref il])
  refine⟨MI,fun e he=>?_⟩
  have eR:AC z t row=[BB true t row]:=by unfold AC;rw[if_pos h0]
  exact⟨_,rfl,fin sl [.ref il] _ s4 hsl upd_same (by rw[eR];exact .cons ⟨il,rfl,nil0,s4 _ _ hil3⟩ .nil) (fun x hx=>by rw[List.mem_singleton.mp hx];intro q;exact Af hil3 hsl (V.ref.inj q)) e he _ (fun H' h=>BH h) (fun H' h=>Bu ⟨_,rfl,h⟩)⟩
 refine A3 (fun q=>h0 (by injection q)) ?_
 refine⟨_,rfl,rfl,_,rfl,?_⟩
 by_cases h1:z="false"
 ·refine Bo (by rw[h1]) ?_
  refine⟨_,rfl,LU,fun sl hsl=>?_⟩
  have s4:=Ae hsl (.lst [.ref ol])
  refine⟨MI,fun e he=>?_⟩
  have eR:AC z t row=[BB false t row]:=by unfold AC;rw[if_neg h0,if_pos h1]
  exact⟨_,rfl,fin sl [.ref ol] _ s4 hsl upd_same (by rw[eR];exact .cons ⟨ol,rfl,nol0,s4 _ _ hol⟩ .nil) (fun x hx=>by rw[List.mem_singleton.mp hx];intro q;exact Af hol hsl (V.ref.inj q)) e he _ (fun H' h=>BH h) (fun H' h=>Bu ⟨_,rfl,h⟩)⟩
 refine A3 (fun q=>h1 (by injection q)) ?_
 refine⟨_,rfl,_,rfl,IK,fun sl hsl=>?_⟩
 have s4:=Ae hsl (.lst [.ref il,.ref ol])
 refine⟨MI,fun e he=>?_⟩
 have eR:AC z t row=[BB true t row,BB false t row]:=by unfold AC;rw[if_neg h0,if_neg h1]
 refine⟨_,rfl,fin sl [.ref il,.ref ol] _ s4 hsl upd_same (by rw[eR];exact .cons ⟨il,rfl,nil0,s4 _ _ hil3⟩ (.cons ⟨ol,rfl,nol0,s4 _ _ hol⟩ .nil)) (fun x hx=>by
  rcases List.mem_cons.mp hx with q | q
  ·rw[q];intro q;exact Af hil3 hsl (V.ref.inj q)
  ·rw[List.mem_singleton.mp q];intro q;exact Af hol hsl (V.ref.inj q)) e he _ (fun H' h=>BH h) (fun H' h=>Bu ⟨_,rfl,h⟩)⟩
end
abbrev Fa:Stmt:=top 29
def BV:Tr→List Int
 | .lt k=>[(k:Int)]
 | .nt t=>BV t
 | .bn _ a b=>BV a++BV b
def BT (ts:List Tr):List Int:=ts.flatMap BV
def Pg:Tr→List Int
 | .lt k=>[(k:Int)]
 | _=>[]
def EQ (ts:List Tr):List Int:=ts.flatMap Pg
theorem M6:∀t:Tr,BV t=Pg t++BT (IL t)
 | .lt _=>rfl
 | .nt t=>by show BV t=[]++(BV t++[]);simp
 | .bn _ a b=>by show BV a++BV b=[]++(BV a++(BV b++[]));simp
theorem Mt (a b:List Tr):BT (a++b)=BT a++BT b:=by unfold BT;rw[List.flatMap_append]
theorem LL (ts:List Tr) (k:Int):k∈BT ts↔k∈EQ ts∨k∈BT (Bw ts):=by
 induction ts with
 | nil=>simp[BT,EQ,Bw]
 | cons t r ih=>
  have e1:BT (t::r)=BV t++BT r:=rfl
  have e2:EQ (t::r)=Pg t++EQ r:=rfl
  have e3:Bw (t::r)=IL t++Bw r:=rfl
  rw[e1,e2,e3,Mt,M6]
  simp only[List.mem_append,ih]
  constructor
  ·rintro ((h | h) | (h | h))
   ·exact .inl (.inl h)
   ·exact .inr (.inl h)
   ·exact .inl (.inr h)
   ·exact .inr (.inr h)
  ·rintro ((h | h) | (h | h))
   ·exact .inl (.inl h)
   ·exact .inr (.inl h)
   ·exact .inl (.inr h)
   ·exact .inr (.inr h)
theorem DP {ts:List Tr} {i:Nat} {t:Tr} (h:ts[i]? = some t):EQ (ts.take (i+1))=EQ (ts.take i)++Pg t:=by
 unfold EQ
 rw[List.take_add_one,h,List.flatMap_append]
 simp
theorem TS.ext {H:Hp} {l:Addr} {o u:HO} (h:H l=some o) (n:∀xs,o≠.tup xs):TS H (upd H l u):=fun p ys e=>by
 rw[Ah (AL e h fun z=>n ys z.symm)]
 exact e
def FV:Sp:=fun vs H Q _=>∃(v:V) (t:Tr),vs=[v]∧t.At H v∧t.size≤60∧∀(l:Addr) (ns:List Int) (H':Hp),Same H H'→H l=none→H' l=some (.lst (ns.map V.int))→ns.Pairwise (· < ·)→(∀k,k∈ns↔k∈BV t)→Q (.ref l) H'
section
theorem scLetters:Aj ["sentence","found","layer","part"] ["sentence"] (Ag Fa):=By
def UM (w:World) (H:Hp) (v:V) (t:Tr) (fa:Addr) (m:Nat):L2.St→Hp→Prop:=fun σ H3=>∃(S:Int→Bool) (n:Nat) (r:Addr) (ys:List V) (ts:List Tr) (pp:Option V),σ=[some v,some (.ref fa),some (.ref r),pp]∧Same H H3∧H3 fa=some (Bd w fa S n)∧H3 r=some (.lst ys)∧Pile H3 ys ts∧n+sz ts≤60∧(∀k,k∈BV t↔S k=true∨k∈BT ts)∧sz ts=m
theorem I9 {g:Addr} {gd:FuncData} (F:Fun K "letters" "letters" Fa f fd) (T:HB mg) (GP:FnOk P w K mg bz A8 1 g gd ["layer"] (Gp K)) (CP:B5 K mg "parts_of" g gd ["layer"]):FnOk P w K mg bz A8 2 f fd ["sentence"] FV:=by
 refine F.ok scLetters (fun vs H Q E h=>?_) (fun cdv A outer s H vs Q E hr h=>?_)
 ·obtain⟨v,t,rfl,_⟩:=h
  rfl
 obtain⟨v,t,rfl,ha,hs,q⟩:=h
 refine⟨_,Ad (Ap (i:=1) scLetters.nd rfl (Or.inl rfl) (Ju LP (by rfl) T.set boot_set))
  (Ad (Ap (i:=2) scLetters.nd rfl (Or.inl rfl) (AA (Aa (pv 0) Ab)))
  (Ad (DD PassesOwn.never (Bk (pv 2) (fun _=>rfl))
   (Ad (CG PassesOwn.never rfl (Br (pv 2)) (AN (i:=3) scLetters.nd rfl (Or.inl rfl))
    (Ac (Aw (Am AO (AQ Bm (pv 3) Ai (fun _ _=>rfl)) Ak (As _))
     (Ac (An (PH (pv 1) (Aa (AQ Bm (pv 3) Ai (fun _ _=>rfl)) Ab))))
     Au)))
   (Ac (Ap (i:=2) scLetters.nd rfl (Or.inl rfl) (Ao GP hr (by rfl) CP.m CP.k CP.b .nil AH (Aa (pv 2) Ab))))))
  (Ac (Ar (Ax (Dt rfl) (by rfl) T.sorted boot_sorted (Aa (pv 1) Ab)))))),?_⟩
 refine⟨rfl,fun fa hfa=>?_⟩
 have s1:=Ae hfa (Bd w fa (fun _=>false) 0)
 refine⟨_,rfl,LU,fun l hl=>?_⟩
 have s2:=Ae hl (.lst [v])
 have e1:sz [t]=t.size:=by unfold sz;simp
 refine⟨UM w H v t fa,⟨_,fun _=>false,0,l,[v],[t],none,rfl,s1.trans s2,s2 _ _ upd_same,upd_same,.cons (ha.keep ((TS.same s1).trans (TS.same s2))) .nil,by omega,fun k=>?_,rfl⟩,?_⟩
 ·have:BT [t]=BV t:=by unfold BT;simp
  rw[this]
  simp
 rintro m σ H3 ⟨S,n,r,ys,ts,pp,rfl,s3,hf3,hr3,p3,hn3,hm3,rfl⟩
 refine⟨_,rfl,_,.inl ⟨ys,SqL.of hr3,rfl⟩,?_⟩
 refine CZ (fun c=>?_) (fun c=>?_)
 ·refine⟨fun σ' H'=>∃m',m'<sz ts∧UM w H v t fa m' σ' H',fun _ _ h=>h,?_⟩
  have hlen:=p3.len
  have hpos:0<ts.length:=by
   rw[←hlen]
   cases ys with
   | nil=>exact absurd c (by decide)
   | cons _ _=>exact Nat.succ_pos _
  refine⟨_,rfl,r,rfl,⟨_,SqL.of hr3⟩,Bc (K:=K) (a:=r) (xs:=ys) (fun i σ H4=>∃(S2:Int→Bool) (n2:Nat) (pp:Option V),σ=[some v,some (.ref fa),some (.ref r),pp]∧Same H H4∧H4 fa=some (Bd w fa S2 n2)∧H4 r=some (.lst ys)∧Pile H4 ys ts∧n2≤n+i∧∀k,S2 k=true↔S k=true∨k∈EQ (ts.take i)) ?_ ?_ ?_ ?_⟩
  ·exact⟨S,n,pp,rfl,s3,hf3,hr3,p3,Nat.le_refl _,fun k=>by simp[EQ]⟩
  ·rintro i σ H4 _ ⟨S2,n2,pp,rfl,s4,_,hr4,_⟩
   exact SqL.of hr4
  ·rintro i x σ H4 hx ⟨S2,n2,pp,rfl,s4,hf4,hr4,p4,hn4,hm4⟩
   obtain⟨t2,ht2,hat⟩:=Bt p4 hx
   have hi:i<ys.length:=(List.getElem?_eq_some_iff.mp hx).1
   have hsz:=G0 ts
   cases t2 with
   | lt j=>
    obtain⟨p,rfl,hp⟩:=hat
    refine⟨_,rfl,p,_,_,_,rfl,rfl,SqT.of hp,Av (j:=0) rfl,rfl,_,rfl,?_⟩
    refine Bo rfl ?_
    refine⟨_,rfl,fa,S2,n2,rfl,hf4,_,rfl,p,_,_,_,rfl,rfl,SqT.of hp,Av (j:=1) rfl,_,S2,n2,rfl,hf4,by omega,?_⟩
    have kk:TS H4 (upd H4 fa (Bd w fa (fun k=>S2 k || decide (k=(j:Int))) (n2+1))):=TS.ext hf4 (fun xs z=>by cases z)
    refine⟨_,n2+1,_,rfl,Az s4 hfa _,upd_same,by rw[Ah (AL hr4 hf4 (by intro z;cases z))];exact hr4,p4.keep kk,by omega,fun k=>?_⟩
    rw[Bool.or_eq_true,decide_eq_true_eq,hm4 k,DP ht2,List.mem_append]
    show (_∨_)∨k=(j:Int)↔_∨_∨k∈[(j:Int)]
    rw[List.mem_singleton,or_assoc]
   | nt t3=>
    obtain⟨p,u,rfl,hp,_⟩:=hat
    refine⟨_,rfl,p,_,_,_,rfl,rfl,SqT.of hp,Av (j:=0) rfl,rfl,_,rfl,?_⟩
    refine A3 (by decide) ?_
    refine⟨S2,n2,_,rfl,s4,hf4,hr4,p4,by omega,fun k=>?_⟩
    rw[hm4 k,DP ht2]
    show _↔_∨k∈EQ (ts.take i)++[]
    rw[List.append_nil]
   | bn j a b=>
    obtain⟨p,u,u2,rfl,hp,_⟩:=hat
    refine⟨_,rfl,p,_,_,_,rfl,rfl,SqT.of hp,Av (j:=0) rfl,rfl,_,rfl,?_⟩
    refine A3 Hz ?_
    refine⟨S2,n2,_,rfl,s4,hf4,hr4,p4,by omega,fun k=>?_⟩
    rw[hm4 k,DP ht2]
    show _↔_∨k∈EQ (ts.take i)++[]
    rw[List.append_nil]
  ·rintro σ H4 ⟨S2,n2,pp,rfl,s4,hf4,hr4,p4,hn4,hm4⟩
   rw[hlen,List.take_length] at hm4
   have hk:=Kr ts
   refine⟨_,rfl,r,ys,ts,rfl,SqL.of hr4,p4,by omega,fun r2 zs H5 s5 hr5 p5=>?_⟩
   refine⟨sz (Bw ts),by omega,S2,n2,r2,zs,Bw ts,_,rfl,s4.trans s5,s5 _ _ hf4,hr5,p5,by omega,fun k=>?_,rfl⟩
   rw[hm3 k,LL,hm4 k,or_assoc]
 ·have e:ts=[]:=by
   cases p3 with
   | nil=>rfl
   | cons h1 h2=>exact absurd rfl c
  subst e
  refine⟨_,rfl,fa,S,n,rfl,hf3,by omega,fun l2 ns hl2 hp hm=>?_⟩
  refine q l2 ns _ (s3.trans (Ae hl2 _)) (s3.free hl2) upd_same hp fun k=>?_
  rw[hm k,hm3 k]
  simp[BT]
end
theorem Jl {us:List Value} (h:us.length=1):∃a0:Value,us=[a0]:=by
 cases us with
 | nil=>exact absurd h (by simp)
 | cons a0 us=>
  have h:us.length=0:=Nat.succ.inj h
  cases us with
  | nil=>exact⟨a0,rfl⟩
  | cons _ _=>exact absurd h (by simp)
theorem E4 {us:List Value} (h:us.length=2):∃a0 a1:Value,us=[a0,a1]:=by
 cases us with
 | nil=>exact absurd h (by simp)
 | cons a0 us=>
  have h:us.length=1:=Nat.succ.inj h
  cases us with
  | nil=>exact absurd h (by simp)
  | cons a1 us=>
   have h:us.length=0:=Nat.succ.inj h
   cases us with
   | nil=>exact⟨a0,a1,rfl⟩
   | cons _ _=>exact absurd h (by simp)
theorem JB {us:List Value} (h:us.length=3):∃a0 a1 a2:Value,us=[a0,a1,a2]:=by
 cases us with
 | nil=>exact absurd h (by simp)
 | cons a0 us=>
  have h:us.length=2:=Nat.succ.inj h
  cases us with
  | nil=>exact absurd h (by simp)
  | cons a1 us=>
   have h:us.length=1:=Nat.succ.inj h
   cases us with
   | nil=>exact absurd h (by simp)
   | cons a2 us=>
    have h:us.length=0:=Nat.succ.inj h
    cases us with
    | nil=>exact⟨a0,a1,a2,rfl⟩
    | cons _ _=>exact absurd h (by simp)
theorem Js {us:List Value} (h:us.length=4):∃a0 a1 a2 a3:Value,us=[a0,a1,a2,a3]:=by
 cases us with
 | nil=>exact absurd h (by simp)
 | cons a0 us=>
  have h:us.length=3:=Nat.succ.inj h
  cases us with
  | nil=>exact absurd h (by simp)
  | cons a1 us=>
   have h:us.length=2:=Nat.succ.inj h
   cases us with
   | nil=>exact absurd h (by simp)
   | cons a2 us=>
    have h:us.length=1:=Nat.succ.inj h
    cases us with
    | nil=>exact absurd h (by simp)
    | cons a3 us=>
     have h:us.length=0:=Nat.succ.inj h
     cases us with
     | nil=>exact⟨a0,a1,a2,a3,rfl⟩
     | cons _ _=>exact absurd h (by simp)
theorem JT {us:List Value} (h:us.length=5):∃a0 a1 a2 a3 a4:Value,us=[a0,a1,a2,a3,a4]:=by
 cases us with
 | nil=>exact absurd h (by simp)
 | cons a0 us=>
  have h:us.length=4:=Nat.succ.inj h
  cases us with
  | nil=>exact absurd h (by simp)
  | cons a1 us=>
   have h:us.length=3:=Nat.succ.inj h
   cases us with
   | nil=>exact absurd h (by simp)
   | cons a2 us=>
    have h:us.length=2:=Nat.succ.inj h
    cases us with
    | nil=>exact absurd h (by simp)
    | cons a3 us=>
     have h:us.length=1:=Nat.succ.inj h
     cases us with
     | nil=>exact absurd h (by simp)
     | cons a4 us=>
      have h:us.length=0:=Nat.succ.inj h
      cases us with
      | nil=>exact⟨a0,a1,a2,a3,a4,rfl⟩
      | cons _ _=>exact absurd h (by simp)
theorem Kl {us:List Value} (h:us.length=6):∃a0 a1 a2 a3 a4 a5:Value,us=[a0,a1,a2,a3,a4,a5]:=by
 cases us with
 | nil=>exact absurd h (by simp)
 | cons a0 us=>
  have h:us.length=5:=Nat.succ.inj h
  cases us with
  | nil=>exact absurd h (by simp)
  | cons a1 us=>
   have h:us.length=4:=Nat.succ.inj h
   cases us with
   | nil=>exact absurd h (by simp)
   | cons a2 us=>
    have h:us.length=3:=Nat.succ.inj h
    cases us with
    | nil=>exact absurd h (by simp)
    | cons a3 us=>
     have h:us.length=2:=Nat.succ.inj h
     cases us with
     | nil=>exact absurd h (by simp)
     | cons a4 us=>
      have h:us.length=1:=Nat.succ.inj h
      cases us with
      | nil=>exact absurd h (by simp)
      | cons a5 us=>
       have h:us.length=0:=Nat.succ.inj h
       cases us with
       | nil=>exact⟨a0,a1,a2,a3,a4,a5,rfl⟩
       | cons _ _=>exact absurd h (by simp)
abbrev EE:Stmt:=top 41
theorem Ey:∀{t:Tr} {m:Nat},t.ok 5→(t.ok m↔∀k∈BV t,k<(m:Int))
 | .lt j,m,_=>by
  show j<m↔∀k∈[(j:Int)],k<(m:Int)
  simp
 | .nt t,m,h=>Ey (t:=t) h
 | .bn j a b,m,h=>by
  have h1:=Ey (m:=m) h.2.1
  have h2:=Ey (m:=m) h.2.2
  show (j<4∧a.ok m∧b.ok m)↔∀k∈BV a++BV b,k<(m:Int)
  rw[h1,h2]
  constructor
  ·rintro⟨_,q1,q2⟩ k hk
   rcases List.mem_append.mp hk with z | z
   ·exact q1 k z
   ·exact q2 k z
  ·intro q
   exact⟨h.1,fun k hk=>q k (List.mem_append_left _ hk),fun k hk=>q k (List.mem_append_right _ hk)⟩
theorem GE:∀t:Tr,∃k,k∈BV t
 | .lt j=>⟨(j:Int),by simp[BV]⟩
 | .nt t=>GE t
 | .bn _ a b=>by
  obtain⟨k,hk⟩:=GE a
  exact⟨k,List.mem_append_left _ hk⟩
theorem P5 {ns:List Int} {x:Int} (h:(ns++[x]).Pairwise (· < ·)):∀k∈ns++[x],k≤x:=fun k hk=>by
 rcases List.mem_append.mp hk with z | z
 ·exact Int.le_of_lt ((List.pairwise_append.mp h).2.2 k z x (by simp))
 ·rw[List.mem_singleton.mp z]
  exact Int.le_refl _
theorem B3 {α:Type} (xs:List α) (x:α):IM (xs++[x]) (-1)=some x:=by
 have e:NY (xs++[x]).length (-1)=some xs.length:=by
  unfold NY
  rw[if_neg (by decide),List.length_append]
  show (if _ then _ else _)=_
  rw[if_pos (by show -(((xs.length+1:Nat)):Int)≤-1;omega)]
  congr 1
  show (((xs.length+1:Nat):Int) + -1).toNat=xs.length
  omega
 unfold IM
 rw[e]
 show (xs++[x])[xs.length]? = some x
 simp
def Dp (cS:Addr):Sp:=fun vs H Q E=>∃(v:V) (t:Tr) (m:Nat),vs=[v,.int m]∧t.At H v∧t.ok 5∧t.size≤60∧(¬t.ok m→∀H',Same H H'→E (.ref cS) none H')∧(t.ok m→∀H',Same H H'→Q .non H')
section
variable {cS cT:Addr}
theorem My:Aj ["sentence","many"] ["sentence","many"] (Ag EE):=By
theorem LB {g:Addr} {gd:FuncData} (F:Fun K "refuse_strange" "refuse_strange" EE f fd) (XS:Be K mg "StrangeLetter" cS cT) (GL:FnOk P w K mg bz A8 2 g gd ["sentence"] FV) (CL:B5 K mg "letters" g gd ["sentence"]):FnOk P w K mg bz (Bj P w) 3 f fd ["sentence","many"] (Dp cS):=by
 refine Fun.okX F My (fun vs H Q E h=>?_) (fun cdv A outer s H vs Q E hr h=>?_)
 ·obtain⟨v,t,m,rfl,_⟩:=h
  rfl
 obtain⟨v,t,m,rfl,ha,hok,hsz,qE,q⟩:=h
 refine⟨_,Ac (Aw (Am QS (AQ Ba (Ao GL hr (by rfl) CL.m CL.k CL.b .nil AH (Aa (pv 0) Ab)) (FF DZ Ai) (fun _ _=>rfl)) (pv 1) (As _))
   (Ac (AY (Ex:=E) AM rfl XS.cls XS.at_ XS.ty (by rfl) XS.m (Aa Ak Ab) (hvl:=fun _ _ _ h=>⟨by decide,h⟩)))
   Au),?_⟩
 refine⟨_,rfl,v,t,rfl,ha,hsz,fun l ns H1 s1 hl0 hl hp hm=>?_⟩
 obtain⟨k0,hk0⟩:=GE t
 have hne:ns≠[]:=List.ne_nil_of_mem ((hm k0).mpr hk0)
 obtain⟨ms,x,rfl⟩:∃ms x,ns=ms++[x]:=⟨ns.dropLast,ns.getLast hne,(List.dropLast_concat_getLast hne).symm⟩
 have hmax:=P5 hp
 have hx:x∈BV t:=(hm x).mp (by simp)
 have hiff:=Ey (m:=m) hok
 have hat:IM ((ms++[x]).map V.int) (-1)=some (.int x):=by rw[List.map_append];exact B3 _ _
 refine⟨_,rfl,l,_,_,_,rfl,rfl,SqL.of hl,hat,_,rfl,_,_,rfl,rfl,_,rfl,?_⟩
 by_cases c:t.ok m
 ·refine A3 (fun z=>?_) (q c _ s1)
  have:=hiff.mp c x hx
  have z':x≥(m:Int):=z
  omega
 ·refine Bo ?_ (qE c _ s1)
  show x≥(m:Int)
  refine Int.not_lt.mp fun z=>c (hiff.mpr fun k hk=>?_)
  have:=hmax k ((hm k).mpr hk)
  omega
end
def BC (M:List Addr) (H:Hp):Hp:=fun b=>if b∈M then none else H b
section
variable {M N:List Addr} {H H' H0 H1:Hp} {a b l:Addr} {o:HO}
theorem A4 (h:BC M H b=some o):H b=some o∧b∉M:=by
 unfold BC at h
 by_cases c:b∈M
 ·rw[if_pos c] at h;cases h
 ·rw[if_neg c] at h;exact⟨h,c⟩
theorem A5 (h:H b=some o) (n:b∉M):BC M H b=some o:=by unfold BC;rw[if_neg n];exact h
theorem Co:Same (BC M H) H:=fun b o h=>(A4 h).1
theorem Al (s:Same H H'):Same (BC M H) (BC M H'):=fun b o h=>A5 (s _ _ (A4 h).1) (A4 h).2
theorem Du (h:a∈M):BC M (upd H a o)=BC M H:=by
 funext b
 unfold BC
 by_cases c:b∈M
 ·rw[if_pos c,if_pos c]
 ·rw[if_neg c,if_neg c,Ah (fun z=>c (by rw[z];exact h))]
abbrev But (M:List Addr) (H H':Hp):Prop:=Same (BC M H) (BC M H')
theorem But.upd (h:a∈M):But M H (upd H a o):=by
 show Same (BC M H) (BC M (L2.upd H a o))
 rw[Du h]
 exact Same.refl _
theorem But.wide (h:∀x∈M,x∈N) (s:But M H H'):But N H H':=fun b o e=>by
 obtain⟨e1,n⟩:=A4 e
 exact A5 (A4 (s b o (A5 e1 fun z=>n (h b z)))).1 n
theorem But.same (off:∀m∈M,H0 m=none) (s0:Same H0 H) (s:But M H H'):Same H0 H':=fun b o e=>
 (A4 (s b o (A5 (s0 _ _ e) fun z=>by rw[off b z] at e;cases e))).1
theorem But.at (s:But M H H') (h:H b=some o) (n:b∉M):H' b=some o:=(A4 (s b o (A5 h n))).1
end
structure Tk where
 dx:Addr
 sp:Addr
 pt:Addr
 gv:Addr
 lf:Addr
 sv:V
 pxs:List V
 ges:List V
 lfs:List V
structure Ta where
 many:Nat
 kind:Str
 rule:Str
 t:Tr
 room:List Int
 ents:List (V×Tr×Str)
 lefts:List (List Int)
 ended:Bool
def Ta.sides (W:Ta):List (List Int):=AC W.kind W.t W.room
def Ta.held (W:Ta):List Int:=W.lefts.getLastD []
def Lg (U:Tk) (W:Ta):List (Str×V):=[("many",.int W.many),("kind",.str W.kind),("sentence",U.sv),("rule",.str W.rule),("space",.ref U.sp),("parts",.ref U.pt),("given",.ref U.gv),("left",.ref U.lf),("ended",.bl W.ended)]
abbrev EntsAt (H:Hp):List V→List (V×Tr×Str)→Prop:=Paired fun (v:V) (e:V×Tr×Str)=>∃p,v= .ref p∧H p=some (.tup [e.1,.str e.2.2])∧e.2.1.At H e.1
theorem EntsAt.keep {H H':Hp} (s:Same H H'):∀{xs:List V} {es:List (V×Tr×Str)},EntsAt H xs es→EntsAt H' xs es
 | _,_,.nil=>.nil
 | _,_,.cons ⟨p,e,h,a⟩ q=>.cons ⟨p,e,s _ _ h,a.keep (TS.same s)⟩ (EntsAt.keep s q)
structure TalkAt (M:List Addr) (C:Addr) (H:Hp) (a:Addr) (U:Tk) (W:Ta):Prop where
 ob:H a=some (.ins C U.dx (Lg U W))
 gv:H U.gv=some (.lst U.ges)
 lf:H U.lf=some (.lst U.lfs)
 ma:a∈M
 mg:U.gv∈M
 ml:U.lf∈M
 ne:U.gv≠U.lf
 room:AV (BC M H) U.sp W.room
 tr:W.t.At (BC M H) U.sv
 pt:BC M H U.pt=some (.lst U.pxs)
 sd:RowsAt (BC M H) U.pxs W.sides
 en:EntsAt (BC M H) U.ges W.ents
 lr:RowsAt (BC M H) U.lfs W.lefts
 wr:Wr W.room
 wl:∀l∈W.lefts,l.Sublist W.room
 ln:W.lefts≠[]
 l9:W.lefts.length≤900
 e9:W.ents.length≤900
 tok:W.t.ok W.many
 m5:W.many≤5
 tsz:W.t.size≤23
 kd:AX W.kind
 ns:[]∉W.sides
 rl:W.rule="elder"∨W.rule="newer"
section
variable {M:List Addr} {C:Addr} {H H':Hp} {a:Addr} {U:Tk} {W:Ta}
theorem TalkAt.keep (s:Same H H') (h:TalkAt M C H a U W):TalkAt M C H' a U W:=
 ⟨s _ _ h.ob,s _ _ h.gv,s _ _ h.lf,h.ma,h.mg,h.ml,h.ne,Al s _ _ h.room,h.tr.keep (TS.same (Al s)),Al s _ _ h.pt,h.sd.keep (Al s),h.en.keep (Al s),h.lr.keep (Al s),h.wr,h.wl,h.ln,h.l9,h.e9,h.tok,h.m5,h.tsz,h.kd,h.ns,h.rl⟩
theorem Ob {H:Hp} {xs:List V} (h:EntsAt H xs []):xs=[]:=by
 cases h
 rfl
theorem TalkAt.but (b:But M H H') (ha:H' a=H a) (hg:H' U.gv=H U.gv) (hl:H' U.lf=H U.lf) (h:TalkAt M C H a U W):TalkAt M C H' a U W:=
 ⟨ha.trans h.ob,hg.trans h.gv,hl.trans h.lf,h.ma,h.mg,h.ml,h.ne,b _ _ h.room,h.tr.keep (TS.same b),b _ _ h.pt,h.sd.keep b,h.en.keep b,h.lr.keep b,h.wr,h.wl,h.ln,h.l9,h.e9,h.tok,h.m5,h.tsz,h.kd,h.ns,h.rl⟩
theorem Iq:(Lg U W).lookup ("given":Str)=some (.ref U.gv):=by with_unfolding_all rfl
theorem KB:(Lg U W).lookup ("left":Str)=some (.ref U.lf):=by with_unfolding_all rfl
theorem Og:(Lg U W).lookup ("ended":Str)=some (.bl W.ended):=by with_unfolding_all rfl
theorem Qt:(Lg U W).lookup ("held":Str)=none:=by with_unfolding_all rfl
theorem Qe:(Lg U W).lookup ("over":Str)=none:=by with_unfolding_all rfl
theorem Qq:(Lg U W).lookup ("back":Str)=none:=by with_unfolding_all rfl
theorem RF:(Lg U W).lookup ("end":Str)=none:=by with_unfolding_all rfl
end
structure BA (K:PySem.W.Frag) (C:Addr) (nm:Str) (f:Addr) (fd:FuncData) (ps:List Str):Prop where
 m:N7 K C nm f
 b:Binds K fd ps []
structure QE (K:PySem.W.Frag) (mg:Str→Option Value) (C:Addr) (nm:Str) (f:Addr) (fd:FuncData) (ps:List Str):Prop where
 make:Mk K C f
 m:mg nm=some (.ref C)
 b:Binds K fd ps []
structure MP (K:PySem.W.Frag) (C:Addr):Prop where
 cl:Cls K C
 many:NoAttr K C "many"
 kind:NoAttr K C "kind"
 sentence:NoAttr K C "sentence"
 rule:NoAttr K C "rule"
 space:NoAttr K C "space"
 parts:NoAttr K C "parts"
 given:NoAttr K C "given"
 left:NoAttr K C "left"
 ended:NoAttr K C "ended"
theorem DR {H:Hp}:∀{xs:List V} {rs:List (List Int)},RowsAt H xs rs→rs≠[]→∃ys p,xs=ys++[.ref p]∧RowsAt H ys rs.dropLast∧AV H p (rs.getLastD [])
 | _,_,.nil,ne=>absurd rfl ne
 | [_],[_],.cons ⟨p,rfl,hp⟩ .nil,_=>⟨[],p,rfl,.nil,hp⟩
 | x::_::_,_::_::_,.cons hx (.cons h2 q),_=>by
  obtain⟨ys,p,e,h1,h3⟩:=DR (.cons h2 q) (List.cons_ne_nil _ _)
  exact⟨x::ys,p,by rw[e];rfl,.cons hx h1,h3⟩
theorem MV {H:Hp} {xs:List V} {rs:List (List Int)} (h:RowsAt H xs rs) (ne:rs≠[]):∃p,IM xs (-1)=some (.ref p)∧AV H p (rs.getLastD []):=by
 obtain⟨ys,p,rfl,_,hp⟩:=DR h ne
 exact⟨p,B3 _ _,hp⟩
section
variable {cK:Addr}
abbrev IP:Stmt:=AJ (top 56) 3
def Ky (C:Addr):Sp:=fun vs H Q _=>∃(a:Addr) (M:List Addr) (U:Tk) (W:Ta),vs=[.ref a]∧TalkAt M C H a U W∧∀(l:Addr) (H':Hp),Same H H'→H l=none→AV H' l W.held→Q (.ref l) H'
theorem PF:Aj ["self"] ["self"] (Ag IP):=By
theorem NE (F:Fun K "held" "Talk.held" IP f fd) (TX:MP K cK) (T:HB mg):FnOk P w K mg bz A8 1 f fd ["self"] (Ky cK):=by
 refine F.ok PF (fun vs H Q E h=>?_) (fun cdv A outer s H vs Q E hr h=>?_)
 ·obtain⟨a,M,U,W,rfl,_⟩:=h
  rfl
 obtain⟨a,M,U,W,rfl,h,q⟩:=h
 refine⟨_,Ac (Ar (AW Ch (by rfl) T.lst Dq (Aa (AQ Ba (A6 (pv 0) rfl) (FF DZ Ai) (fun _ _=>rfl)) Ab))),?_⟩
 obtain⟨p,hp1,hp2⟩:=MV h.lr h.ln
 exact⟨_,rfl,a,cK,_,_,_,rfl,h.ob,TX.cl,TX.left,KB,_,rfl,_,_,_,_,rfl,rfl,SqL.of h.lf,hp1,p,_,rfl,.inl (SqL.of (Co _ _ hp2)),fun l hl=>q l _ (Ae hl _) hl upd_same⟩
abbrev IZ:Stmt:=AJ (top 56) 8
def KU (C:Addr):Sp:=fun vs H Q _=>∃(a:Addr) (M:List Addr) (U:Tk) (W:Ta),vs=[.ref a]∧TalkAt M C H a U W∧Q (.bl W.ended) H
theorem Qz:Aj ["self"] ["self"] (Ag IZ):=By
theorem N8 (F:Fun K "over" "Talk.over" IZ f fd) (TX:MP K cK):FnOk P w K mg bz A8 1 f fd ["self"] (KU cK):=by
 refine F.ok Qz (fun vs H Q E h=>?_) (fun cdv A outer s H vs Q E hr h=>?_)
 ·obtain⟨a,M,U,W,rfl,_⟩:=h
  rfl
 obtain⟨a,M,U,W,rfl,h,q⟩:=h
 refine⟨_,Ac (Ar (A6 (pv 0) rfl)),?_⟩
 exact⟨_,rfl,a,cK,_,_,_,rfl,h.ob,TX.cl,TX.ended,Og,q⟩
end
abbrev JP:Stmt:=AJ (top 56) 0
def BL (z:Str):Prop:=z="elder"∨z="newer"
instance (z:Str):Decidable (BL z):=by unfold BL;infer_instance
def K6:List V:=[.str "elder",.str "newer"]
theorem MU (z:Str):O8 (.str z) K6=decide (BL z):=by
 unfold O8 K6 BL
 simp only[List.any_cons,List.any_nil,Bool.or_false]
 have e:∀y:Str,Pb (.str y) (.str z)=decide (z=y):=fun y=>by
  show (y == z)=decide (z=y)
  by_cases h:z=y
  ·subst h;simp
  ·rw[decide_eq_false h]
   exact beq_false_of_ne fun q=>h q.symm
 rw[e,e,Bool.eq_iff_iff]
 simp only[Bool.or_eq_true,decide_eq_true_eq]
 exact decide_eq_true_iff.symm
def Ds (many:Nat) (kind rule:Str) (t:Tr) (room:List Int):Ta:=⟨many,kind,rule,t,room,[],[E7 room (AC kind t room)],false⟩
def KS (C cS cB cN:Addr):Sp:=fun vs H Q E=>∃(x dx rm:Addr) (many:Nat) (kind rule:Str) (v:V) (t:Tr) (room:List Int) (M:List Addr),vs=[.ref x,.int many,.ref rm,.str kind,v,.str rule]∧H x=some (.ins C dx [])∧x∉M∧(∀m∈M,H m≠none)∧
 t.At (BC M H) v∧t.ok 5∧t.size≤23∧many≤5∧AV H rm room∧Wr room∧
 (¬t.ok many→∀H',But [x] H H'→E (.ref cS) none H')∧(t.ok many→¬(BL rule∧AX kind)→∀H',But [x] H H'→E (.ref cB) none H')∧(t.ok many→BL rule→AX kind→[]∈AC kind t room→∀H',But [x] H H'→E (.ref cN) none H')∧
 (t.ok many→BL rule→AX kind→[]∉AC kind t room→∀(U:Tk) (H':Hp),But [x] H H'→H U.gv=none→H U.lf=none→H U.sp=none→U.sv=v→TalkAt (x::U.gv::U.lf::M) C H' x U (Ds many kind rule t room)→Q .non H')
theorem AU {H0 H:Hp} {x C dx:Addr} {fs fs':List (Str×V)} {f:Str} {v:V} (e:BK f v fs=fs') (b:But [x] H0 H) :
  But [x] H0 (upd H x (.ins C dx (BK f v fs)))∧upd H x (.ins C dx (BK f v fs)) x=some (.ins C dx fs')∧But [x] H (upd H x (.ins C dx (BK f v fs))):=
 ⟨b.trans (But.upd (by simp)),upd_same.trans (congrArg (fun l=>some (HO.ins C dx l)) e),But.upd (by simp)⟩
theorem A0 {x b:Addr} (h:b≠x):b∉[x]:=by simpa using h
abbrev D0 (H:Hp) (x:Addr):List V→List (List Int)→Prop:=Paired fun (v:V) (row:List Int)=>∃p,v= .ref p∧p≠x∧AV H p row
theorem Ct {H H':Hp} {x:Addr} {o:HO} (hx:H x=some o):∀{xs:List V} {rs:List (List Int)},RowsNew H H' xs rs→D0 H' x xs rs
 | _,_,.nil=>.nil
 | _,_,.cons ⟨p,e,n,h⟩ q=>.cons ⟨p,e,(Af hx n).symm,h⟩ (Ct hx q)
theorem Ej {H H':Hp} {x:Addr} (b:But [x] H H'):∀{xs:List V} {rs:List (List Int)},D0 H x xs rs→D0 H' x xs rs
 | _,_,.nil=>.nil
 | _,_,.cons ⟨p,e,n,h⟩ q=>.cons ⟨p,e,n,b.at h (A0 n)⟩ (Ej b q)
theorem Dz {H H':Hp} {x:Addr} (b:Same H H'):∀{xs:List V} {rs:List (List Int)},D0 H x xs rs→D0 H' x xs rs
 | _,_,.nil=>.nil
 | _,_,.cons ⟨p,e,n,h⟩ q=>.cons ⟨p,e,n,b _ _ h⟩ (Dz b q)
theorem Ff {H H':Hp} {x:Addr} (b:But [x] H H'):∀{xs:List V} {rs:List (List Int)},D0 H x xs rs→RowsAt H' xs rs
 | _,_,.nil=>.nil
 | _,_,.cons ⟨p,e,n,h⟩ q=>.cons ⟨p,e,b.at h (A0 n)⟩ (Ff b q)
theorem Im {H0 H1 G:Hp} (k:∀p row,H0 p=none→AV H1 p row→AV G p row):∀{xs:List V} {rs:List (List Int)},RowsNew H0 H1 xs rs→RowsAt G xs rs
 | _,_,.nil=>.nil
 | _,_,.cons ⟨p,e,n,h⟩ q=>.cons ⟨p,e,k p _ n h⟩ (Im k q)
section
variable {cK cS cB cN cT:Addr}
theorem Pr:Aj ["self","many","room","kind","sentence","rule"] ["self","many","room","kind","sentence","rule"] (Ag JP):=By
theorem Nl {g1 g2 g3:Addr} {d1 d2 d3:FuncData} (F:Fun K "__init__" "Talk.__init__" JP f fd) (TX:MP K cK) (T:HB mg) (XB:Be K mg "BadWord" cB cT)
  (GR:FnOk P w K mg bz (Bj P w) 3 g1 d1 ["sentence","many"] (Dp cS)) (CR:B5 K mg "refuse_strange" g1 d1 ["sentence","many"])
  (GD:FnOk P w K mg bz (Bj P w) 4 g2 d2 ["room","kind","sentence"] (DW K cB cN)) (CD:B5 K mg "sides_of" g2 d2 ["room","kind","sentence"])
  (GB:FnOk P w K mg bz A8 2 g3 d3 ["sides"] (Le K)) (CB:B5 K mg "base_of" g3 d3 ["sides"]):FnOk P w K mg bz (Bj P w) 5 f fd ["self","many","room","kind","sentence","rule"] (KS cK cS cB cN):=by
 refine Fun.okX F Pr (fun vs H Q E h=>?_) (fun cdv A outer s H vs Q E hr h=>?_)
 ·obtain⟨x,dx,rm,many,kind,rule,v,t,room,M,rfl,_⟩:=h
  rfl
 obtain⟨x,dx,rm,many,kind,rule,v,t,room,M,rfl,hx,nxM,hM,ha,hok,hsz,hm5,hrm,hwr,qS,qB,qN,q⟩:=h
 have hr3:Room 3 _:=hr.mono (by decide)
 have hr2:Room 2 _:=hr.mono (by decide)
 have nrx:rm≠x:=AL hrm hx (by intro z;cases z)
 have haH:=ha.keep (TS.same Co)
 have kt:∀{H1:Hp},But [x] H H1→TS H H1:=fun b p xs e=>b.at e (A0 (AL e hx (by intro z;cases z)))
 refine⟨_,Ad (An (Ao GR hr3 (by rfl) CR.m CR.k CR.b .nil (Aq (E1:=E) fun _ _ _ h=>h) (Aa (pv 4) (Aa (pv 1) Ab))))
  (Ad (Aw (Am B9 (pv 5) (BW (Aa Ak (Aa Ak Ab))) (by with_unfolding_all rfl))
   (Ac (AY (Ex:=E) AM rfl XB.cls XB.at_ XB.ty (by rfl) XB.m (Aa Ak Ab) (hvl:=fun _ _ _ h=>⟨by decide,h⟩)))
   Au)
  (Ad (Bg (pv 0) (pv 1) rfl)
  (Ad (Bg (pv 0) (pv 3) rfl)
  (Ad (Bg (pv 0) (pv 4) rfl)
  (Ad (Bg (pv 0) (pv 5) rfl)
  (Ad (Bg (pv 0) (AW Ch (by rfl) T.lst Dq (Aa (pv 2) Ab)) rfl)
  (Ad (Bg (pv 0) (Ao GD hr (by rfl) CD.m CD.k CD.b .nil (Aq (E1:=E) fun _ _ _ h=>h) (Aa (pv 2) (Aa (pv 3) (Aa (pv 4) Ab)))) rfl)
  (Ad (Bg (pv 0) (AA Ab) rfl)
  (Ad (Bg (pv 0) (AA (Aa (Ao GB hr2 (by rfl) CB.m CB.k CB.b .nil AH (Aa (A6 (pv 0) rfl) Ab)) Ab)) rfl)
  (Ac (Bg (pv 0) FG rfl))))))))))),?_⟩
 refine⟨_,rfl,_,rfl,v,t,many,rfl,haH,hok,by omega,fun hn H1 s1=>qS hn H1 (Al s1),fun hmany H1 s1=>?_⟩
 refine⟨_,rfl,IK,fun rt hrt=>?_⟩
 have s2:=s1.trans (Ae hrt (.tup [.str "elder",.str "newer"]))
 refine⟨rt,K6,rfl,.inr (SqT.of upd_same),rfl,rfl,_,rfl,?_⟩
 show if (!O8 (.str rule) K6)=true then _ else _
 rw[MU]
 generalize upd H1 rt _=H2 at *
 by_cases hrl:BL rule
 rotate_left
 ·exact OG hrl (qB hmany (fun z=>hrl z.1) _ (Al s2))
 refine MO hrl ?_
 have b2:But [x] H H2:=Al s2
 have x2:=s2 _ _ hx
 refine⟨_,rfl,_,rfl,x,cK,dx,_,rfl,x2,TX.cl,TX.many,(by decide),?_⟩
 obtain⟨b3,x3,_⟩:=AU (C:=cK) (dx:=dx) (f:="many") (v:=.int many) (fs:=[]) (fs':=[("many",.int many)]) (by with_unfolding_all rfl) b2
 generalize upd H2 x _=H3 at *
 refine⟨_,rfl,_,rfl,x,cK,dx,_,rfl,x3,TX.cl,TX.kind,(by show 1<1000;decide),?_⟩
 obtain⟨b4,x4,_⟩:=AU (C:=cK) (dx:=dx) (f:="kind") (v:=.str kind) (fs:=[("many",.int many)]) (fs':=[("many",.int many),("kind",.str kind)]) (by with_unfolding_all rfl) b3
 generalize upd H3 x _=H4 at *
 refine⟨_,rfl,_,rfl,x,cK,dx,_,rfl,x4,TX.cl,TX.sentence,(by show 2<1000;decide),?_⟩
 obtain⟨b5,x5,_⟩:=AU (C:=cK) (dx:=dx) (f:="sentence") (v:=v) (fs:=[("many",.int many),("kind",.str kind)]) (fs':=[("many",.int many),("kind",.str kind),("sentence",v)]) (by with_unfolding_all rfl) b4
 generalize upd H4 x _=H5 at *
 refine⟨_,rfl,_,rfl,x,cK,dx,_,rfl,x5,TX.cl,TX.rule,(by show 3<1000;decide),?_⟩
 obtain⟨b6,x6,_⟩:=AU (C:=cK) (dx:=dx) (f:="rule") (v:=.str rule) (fs:=[("many",.int many),("kind",.str kind),("sentence",v)]) (fs':=[("many",.int many),("kind",.str kind),("sentence",v),("rule",.str rule)]) (by with_unfolding_all rfl) b5
 generalize upd H5 x _=H6 at *
 have rm6:=b6.at hrm (A0 nrx)
 refine⟨_,rfl,rm,_,rfl,.inl (SqL.of rm6),fun sp hsp=>?_⟩
 have s7:=Ae hsp (.lst (room.map V.int))
 have b7:But [x] H (upd H6 sp (.lst (room.map V.int))):=b6.trans (Al s7)
 have x7:=s7 _ _ x6
 have sp7:AV (upd H6 sp (.lst (room.map V.int))) sp room:=upd_same
 have nsx:sp≠x:=(Af x6 hsp).symm
 have sp0:H sp=none:=by
  cases e:H sp with
  | none=>rfl
  | some o=>rw[b6.at e (A0 nsx)] at hsp;cases hsp
 generalize upd H6 sp _=H7 at *
 refine⟨_,rfl,x,cK,dx,_,rfl,x7,TX.cl,TX.space,(by show 4<1000;decide),?_⟩
 obtain⟨b8,x8,c8⟩:=AU (C:=cK) (dx:=dx) (f:="space") (v:=.ref sp) (fs:=[("many",.int many),("kind",.str kind),("sentence",v),("rule",.str rule)]) (fs':=[("many",.int many),("kind",.str kind),("sentence",v),("rule",.str rule),("space",.ref sp)]) (by with_unfolding_all rfl) b7
 generalize upd H7 x _=H8 at *
 have sp8:=c8.at sp7 (A0 nsx)
 have rm8:=b8.at hrm (A0 nrx)
 refine⟨_,rfl,_,rfl,_,rfl,rm,kind,v,t,room,rfl,haH.keep (kt b8),hok,by omega,SqL.of rm8,hwr,fun hk H9 s9=>qB hmany (fun z=>hk z.2) _ (b8.trans (Al s9)),fun hk hem H9 s9=>qN hmany hrl hk hem _ (b8.trans (Al s9)),fun hk hem pt pxs H9 s9 pt0 pt9 hR9 hne9=>?_⟩
 have b9:But [x] H H9:=b8.trans (Al s9)
 have x9:=s9 _ _ x8
 have npx:pt≠x:=(Af x8 pt0).symm
 refine⟨_,rfl,x,cK,dx,_,rfl,x9,TX.cl,TX.parts,(by show 5<1000;decide),?_⟩
 obtain⟨b10,x10,c10⟩:=AU (C:=cK) (dx:=dx) (f:="parts") (v:=.ref pt) (fs:=[("many",.int many),("kind",.str kind),("sentence",v),("rule",.str rule),("space",.ref sp)]) (fs':=[("many",.int many),("kind",.str kind),("sentence",v),("rule",.str rule),("space",.ref sp),("parts",.ref pt)]) (by with_unfolding_all rfl) b9
 have e10:BC [x] (upd H9 x (.ins cK dx (BK "parts" (.ref pt) [("many",.int many),("kind",.str kind),("sentence",v),("rule",.str rule),("space",.ref sp)])))=BC [x] H9:=Du (by simp)
 generalize upd H9 x _=H10 at *
 have pt10:=c10.at pt9 (A0 npx)
 have sp10:=c10.at (s9 _ _ sp8) (A0 nsx)
 have R10:RowsAt H10 pxs (AC kind t room):=Ff c10 (Ct x8 hR9)
 refine⟨MI,fun gv hgv=>?_⟩
 have s11:=Ae hgv (.lst [])
 have b11:But [x] H (upd H10 gv (.lst [])):=b10.trans (Al s11)
 have gv11:upd H10 gv (.lst []) gv=some (.lst []):=upd_same
 have x11:=s11 _ _ x10
 have ngx:gv≠x:=(Af x10 hgv).symm
 generalize upd H10 gv _=H11 at *
 refine⟨_,rfl,x,cK,dx,_,rfl,x11,TX.cl,TX.given,(by show 6<1000;decide),?_⟩
 obtain⟨b12,x12,c12⟩:=AU (C:=cK) (dx:=dx) (f:="given") (v:=.ref gv) (fs:=[("many",.int many),("kind",.str kind),("sentence",v),("rule",.str rule),("space",.ref sp),("parts",.ref pt)]) (fs':=[("many",.int many),("kind",.str kind),("sentence",v),("rule",.str rule),("space",.ref sp),("parts",.ref pt),("given",.ref gv)]) (by with_unfolding_all rfl) b11
 generalize upd H11 x _=H12 at *
 have gv12:=c12.at gv11 (A0 ngx)
 have pt12:=c12.at (s11 _ _ pt10) (A0 npx)
 have sp12:=c12.at (s11 _ _ sp10) (A0 nsx)
 have R12:RowsAt H12 pxs (AC kind t room):=Ff c12 (Dz s11 (Ej c10 (Ct x8 hR9)))
 have hl2:Dg (AC kind t room)<64:=by
  have:=Je (z:=kind) (t:=t) (row:=room)
  have:=hwr.len
  omega
 refine⟨_,rfl,x,cK,dx,_,_,rfl,x12,TX.cl,TX.parts,(by with_unfolding_all rfl),pt,pxs,_,rfl,SqL.of pt12,R12,hl2,fun bl H13 ns s13 hbl0 hp hm hbl=>⟨LU,fun lf hlf=>?_⟩⟩
 have en:=NX hwr (fun s hs=>LT hs) hp hm
 subst en
 have s14:=s13.trans (Ae hlf (.lst [.ref bl]))
 have bl14:=Ae hlf (.lst [.ref bl]) _ _ hbl
 have lf14:upd H13 lf (.lst [.ref bl]) lf=some (.lst [.ref bl]):=upd_same
 have lf12:H12 lf=none:=s13.free hlf
 generalize upd H13 lf _=H14 at *
 have x14:=s14 _ _ x12
 have b14:But [x] H H14:=b12.trans (Al s14)
 have nlx:lf≠x:=(Af x12 lf12).symm
 have nbx:bl≠x:=(Af x12 hbl0).symm
 refine⟨_,rfl,x,cK,dx,_,rfl,x14,TX.cl,TX.left,(by show 7<1000;decide),?_⟩
 obtain⟨b15,x15,c15⟩:=AU (C:=cK) (dx:=dx) (f:="left") (v:=.ref lf) (fs:=[("many",.int many),("kind",.str kind),("sentence",v),("rule",.str rule),("space",.ref sp),("parts",.ref pt),("given",.ref gv)]) (fs':=[("many",.int many),("kind",.str kind),("sentence",v),("rule",.str rule),("space",.ref sp),("parts",.ref pt),("given",.ref gv),("left",.ref lf)]) (by with_unfolding_all rfl) b14
 generalize upd H14 x _=H15 at *
 refine⟨_,rfl,x,cK,dx,_,rfl,x15,TX.cl,TX.ended,(by show 8<1000;decide),?_⟩
 obtain⟨b16,x16,c16⟩:=AU (C:=cK) (dx:=dx) (f:="ended") (v:=.bl false) (fs:=[("many",.int many),("kind",.str kind),("sentence",v),("rule",.str rule),("space",.ref sp),("parts",.ref pt),("given",.ref gv),("left",.ref lf)]) (fs':=[("many",.int many),("kind",.str kind),("sentence",v),("rule",.str rule),("space",.ref sp),("parts",.ref pt),("given",.ref gv),("left",.ref lf),("ended",.bl false)]) (by with_unfolding_all rfl) b15
 generalize upd H15 x _=H16 at *
 have c17:But [x] H14 H16:=c15.trans c16
 have gv16:=c17.at (s14 _ _ gv12) (A0 ngx)
 have lf16:=c17.at lf14 (A0 nlx)
 have bl16:=c17.at bl14 (A0 nbx)
 have pt16:=c17.at (s14 _ _ pt12) (A0 npx)
 have sp16:=c17.at (s14 _ _ sp12) (A0 nsx)
 have ngl:gv≠lf:=Af gv12 lf12
 have gv0:H gv=none:=by
  cases e:H gv with
  | none=>rfl
  | some o=>rw[b10.at e (A0 ngx)] at hgv;cases hgv
 have lf0:H lf=none:=by
  cases e:H lf with
  | none=>rfl
  | some o=>rw[b12.at e (A0 nlx)] at lf12;cases lf12
 have pt0':H pt=none:=by
  cases e:H pt with
  | none=>rfl
  | some o=>rw[b8.at e (A0 npx)] at pt0;cases pt0
 have bl0:H bl=none:=by
  cases e:H bl with
  | none=>rfl
  | some o=>rw[b12.at e (A0 nbx)] at hbl0;cases hbl0
 have nM:∀{b:Addr},H b=none→b∉M:=fun e z=>hM _ z e
 have n3:∀{b:Addr},b≠x→b≠gv→b≠lf→H b=none→b∉x::gv::lf::M:=fun e1 e2 e3 e4 z=>by
  rcases List.mem_cons.mp z with q1 | q1
  ·exact e1 q1
  ·rcases List.mem_cons.mp q1 with q2 | q2
   ·exact e2 q2
   ·rcases List.mem_cons.mp q2 with q3 | q3
    ·exact e3 q3
    ·exact nM e4 q3
 have nsg:sp≠gv:=Af sp10 hgv
 have nsl:sp≠lf:=Af sp12 lf12
 have npg:pt≠gv:=Af pt10 hgv
 have npl:pt≠lf:=Af pt12 lf12
 have nbg:bl≠gv:=(Af gv12 hbl0).symm
 have nbl:bl≠lf:=Af hbl hlf
 have hR16:RowsAt (BC (x::gv::lf::M) H16) pxs (AC kind t room):=Im (fun p row h1 h2=>by
  have pne:p≠x:=(Af x8 h1).symm
  have p10:=c10.at h2 (A0 pne)
  have p0:H p=none:=by
   cases e:H p with
   | none=>rfl
   | some o=>rw[b8.at e (A0 pne)] at h1;cases h1
  have p12:=c12.at (s11 _ _ p10) (A0 pne)
  exact A5 (c17.at (s14 _ _ p12) (A0 pne)) (n3 pne (Af p10 hgv) (Af p12 lf12) p0)) hR9
 refine q hmany hrl hk hem ⟨dx,sp,pt,gv,lf,v,pxs,[],[.ref bl]⟩ H16 b16 gv0 lf0 sp0 rfl ⟨x16,gv16,lf16,by simp,by simp,by simp,ngl,A5 sp16 (n3 nsx nsg nsl sp0),?_,A5 pt16 (n3 npx npg npl pt0'),hR16,.nil,.cons ⟨bl,rfl,A5 bl16 (n3 nbx nbg nbl bl0)⟩ .nil,hwr,fun l hl=>?_,List.cons_ne_nil _ _,by show 1≤900;decide,by show 0≤900;decide,hmany,hm5,hsz,hk,hem,hrl⟩
 ·refine ha.keep fun p xs e=>?_
  obtain⟨e1,e2⟩:=A4 e
  have pne:p≠x:=AL e1 hx (by intro z;cases z)
  refine A5 (b16.at e1 (A0 pne)) fun z=>?_
  rcases List.mem_cons.mp z with q1 | q1
  ·exact pne q1
  ·rcases List.mem_cons.mp q1 with q2 | q2
   ·rw[q2,gv0] at e1;cases e1
   ·rcases List.mem_cons.mp q2 with q3 | q3
    ·rw[q3,lf0] at e1;cases e1
    ·exact e2 q3
 ·rw[List.mem_singleton.mp hl]
  exact OJ
end
theorem BG {H H':Hp} {x dx C:Addr} (hx:H x=none) (hd:H dx=none) (ne:dx≠x) (b:But [x] (upd (upd H dx (.own x)) x (.ins C dx [])) H'):Same H H':=by
 refine But.same (M:=[x]) (fun m hm=>by rw[List.mem_singleton.mp hm];exact hx) ?_ b
 have s1:=Ae hd (.own x)
 exact s1.trans (Ae (by rw[Ah ne.symm];exact hx) _)
theorem BF {H:Hp} {x dx C b:Addr} {o:HO} (h:upd (upd H dx (.own x)) x o b=none):H b=none∧b≠x∧b≠dx:=by
 by_cases e:b=x
 ·rw[e,upd_same] at h;cases h
 ·rw[Ah e] at h
  by_cases e2:b=dx
  ·rw[e2,upd_same] at h;cases h
  ·rw[Ah e2] at h
   exact⟨h,e,e2⟩
section
variable {X:Cx}
end
section
variable {cK cS cO cT:Addr}
end
abbrev EN:Stmt:=top 57
def DK (C cO:Addr):Sp:=fun vs H Q E=>∃(a:Addr) (M:List Addr) (U:Tk) (W:Ta),vs=[.ref a]∧TalkAt M C H a U W∧(W.ended=true→E (.ref cO) none H)∧(W.ended=false→Q .non H)
section
variable {cK cS cO cT:Addr}
theorem MD:Aj ["talk"] ["talk"] (Ag EN):=By
theorem Kd {m1:Addr} {e1:FuncData} (F:Fun K "refuse_over" "refuse_over" EN f fd) (TX:MP K cK) (XO:Be K mg "TalkOver" cO cT) (G1:FnOk P w K mg bz A8 1 m1 e1 ["self"] (KU cK)) (C1:BA K cK "over" m1 e1 ["self"]):FnOk P w K mg bz (Bj P w) 2 f fd ["talk"] (DK cK cO):=by
 refine Fun.okX F MD (fun vs H Q E h=>?_) (fun cdv A outer s H vs Q E hr h=>?_)
 ·obtain⟨a,M,U,W,rfl,_⟩:=h
  rfl
 obtain⟨a,M,U,W,rfl,hT,qE,q⟩:=h
 refine⟨_,Ac (Aw (DI (BZ (pv 0) TX.cl C1.m G1 hr C1.b .nil AH))
   (Ac (AY (Ex:=E) AM rfl XO.cls XO.at_ XO.ty (by rfl) XO.m (Aa Ak Ab) (hvl:=fun _ _ _ h=>⟨by decide,h⟩)))
   Au),?_⟩
 refine⟨_,rfl,a,_,_,rfl,hT.ob,Qe,a,M,U,W,rfl,hT,_,rfl,?_⟩
 cases he:W.ended with
 | true=>exact BH (qE he)
 | false=>exact Bu (q he)
end
section
variable {M:List Addr} {C:Addr} {H H':Hp} {a:Addr} {U:Tk} {W:Ta}
theorem TalkAt.a_gv (h:TalkAt M C H a U W):a≠U.gv:=AL h.ob h.gv (by intro z;cases z)
theorem TalkAt.a_lf (h:TalkAt M C H a U W):a≠U.lf:=AL h.ob h.lf (by intro z;cases z)
end
section
variable {cK cS cO cT:Addr}
end
theorem EntsAt.last {H:Hp}:∀{xs:List V} {es:List (V×Tr×Str)},EntsAt H xs es→es≠[]→∃ys p e,xs=ys++[.ref p]∧EntsAt H ys es.dropLast∧es.getLast? = some e∧H p=some (.tup [e.1,.str e.2.2])∧e.2.1.At H e.1
 | _,_,.nil,ne=>absurd rfl ne
 | [_],[e],.cons ⟨p,rfl,hp,ha⟩ .nil,_=>⟨[],p,e,rfl,.nil,rfl,hp,ha⟩
 | x::_::_,_::_::_,.cons hx (.cons h2 q),_=>by
  obtain⟨ys,p,e,e1,h1,h3,h4,h5⟩:=EntsAt.last (.cons h2 q) (List.cons_ne_nil _ _)
  exact⟨x::ys,p,e,by rw[e1];rfl,.cons hx h1,by rw[List.getLast?_cons_cons];exact h3,h4,h5⟩
section
variable {M N:List Addr} {C:Addr} {H H':Hp} {a:Addr} {U:Tk} {W:Ta}
theorem TalkAt.cutmore (h:TalkAt M C H a U W) (s:Same H H') (hn:∀n∈N,H n=none):TalkAt (N++M) C H' a U W:=by
 have k:Same (BC M H) (BC (N++M) H'):=fun p u e=>by
  obtain⟨e1,e2⟩:=A4 e
  refine A5 (s _ _ e1) fun z=>?_
  rcases List.mem_append.mp z with q | q
  ·rw[hn p q] at e1;cases e1
  ·exact e2 q
 exact⟨s _ _ h.ob,s _ _ h.gv,s _ _ h.lf,List.mem_append_right _ h.ma,List.mem_append_right _ h.mg,List.mem_append_right _ h.ml,h.ne,k _ _ h.room,h.tr.keep (TS.same k),k _ _ h.pt,h.sd.keep k,h.en.keep k,h.lr.keep k,h.wr,h.wl,h.ln,h.l9,h.e9,h.tok,h.m5,h.tsz,h.kd,h.ns,h.rl⟩
def Kk (W:Ta):Ta:={ W with ents:=W.ents.dropLast,lefts:=W.lefts.dropLast }
theorem TalkAt.backed (h:TalkAt M C H a U W) {gs ls:List V} (hb:But [U.gv,U.lf] H H') (h1:H' U.gv=some (.lst gs)) (h2:H' U.lf=some (.lst ls)) (he:EntsAt (BC M H) gs W.ents.dropLast) (hl:RowsAt (BC M H) ls W.lefts.dropLast) (hn:W.lefts.dropLast≠[]) :
  TalkAt M C H' a { U with ges:=gs,lfs:=ls } (Kk W):=by
 have k:Same (BC M H) (BC M H'):=But.wide (fun m hm=>by
  simp only[List.mem_cons,List.not_mem_nil,or_false] at hm
  rcases hm with rfl | rfl
  ·exact h.mg
  ·exact h.ml) hb
 have ob:=hb.at h.ob (by
  simp only[List.mem_cons,List.not_mem_nil,or_false,not_or]
  exact⟨h.a_gv,h.a_lf⟩)
 exact⟨ob,h1,h2,h.ma,h.mg,h.ml,h.ne,k _ _ h.room,h.tr.keep (TS.same k),k _ _ h.pt,h.sd.keep k,he.keep k,hl.keep k,h.wr,fun l hl=>h.wl l (List.dropLast_subset _ hl),hn,by
  show W.lefts.dropLast.length≤900
  rw[List.length_dropLast]
  have:=h.l9
  omega,by
  show W.ents.dropLast.length≤900
  rw[List.length_dropLast]
  have:=h.e9
  omega,h.tok,h.m5,h.tsz,h.kd,h.ns,h.rl⟩
end
abbrev Jy:Stmt:=AJ (top 56) 11
def KW (C cO cG:Addr):Sp:=fun vs H Q E=>∃(a:Addr) (M:List Addr) (U:Tk) (W:Ta),vs=[.ref a]∧TalkAt M C H a U W∧W.lefts.length=W.ents.length+1∧(W.ended=true→E (.ref cO) none H)∧(W.ended=false→W.ents=[]→E (.ref cG) none H)∧
 (W.ended=false→W.ents≠[]→∀(p:Addr) (e:V×Tr×Str) (U':Tk) (H':Hp),But [U.gv,U.lf] H H'→U'.gv=U.gv→U'.lf=U.lf→(∀b,H b≠none→H' b≠none)→W.ents.getLast? = some e→BC M H p=some (.tup [e.1,.str e.2.2])→e.2.1.At (BC M H) e.1→TalkAt M C H' a U' (Kk W)→Q (.ref p) H')
section
variable {cK cS cO cG cT:Addr}
theorem Pf:Aj ["self"] ["self"] (Ag Jy):=By
theorem Oy {g1:Addr} {d1:FuncData} (F:Fun K "back" "Talk.back" Jy f fd) (TX:MP K cK) (XG:Be K mg "NothingSaid" cG cT) (GO:FnOk P w K mg bz (Bj P w) 2 g1 d1 ["talk"] (DK cK cO)) (CO:B5 K mg "refuse_over" g1 d1 ["talk"]):FnOk P w K mg bz (Bj P w) 3 f fd ["self"] (KW cK cO cG):=by
 refine Fun.okX F Pf (fun vs H Q E h=>?_) (fun cdv A outer s H vs Q E hr h=>?_)
 ·obtain⟨a,M,U,W,rfl,_⟩:=h
  rfl
 obtain⟨a,M,U,W,rfl,hT,hlen,qO,qG,q⟩:=h
 refine⟨_,Ad (An (Ao GO hr (by rfl) CO.m CO.k CO.b .nil (Aq (E1:=E) fun _ _ _ h=>h) (Aa (pv 0) Ab)))
  (Ad (Aw (Cy (Bk (A6 (pv 0) rfl) (fun _=>rfl)))
   (Ac (AY (Ex:=E) AM rfl XG.cls XG.at_ XG.ty (by rfl) XG.m (Aa Ak Ab) (hvl:=fun _ _ _ h=>⟨by decide,h⟩)))
   Au)
  (Ad (An (BY PySem.F.plainAttrs_list PySem.F.slot_list_pop PySem.F.type_list_pop Cf (A6 (pv 0) rfl)))
  (Ac (Ar (BY PySem.F.plainAttrs_list PySem.F.slot_list_pop PySem.F.type_list_pop Cf (A6 (pv 0) rfl)))))),?_⟩
 refine⟨_,rfl,a,M,U,W,rfl,hT,qO,fun he=>?_⟩
 refine⟨_,rfl,a,cK,_,_,_,rfl,hT.ob,TX.cl,TX.given,Iq,_,.inl ⟨U.ges,SqL.of hT.gv,rfl⟩,?_⟩
 by_cases hE:W.ents=[]
 ·have ge:U.ges=[]:=Ob (hE ▸ hT.en)
  rw[ge]
  exact BH (qG he hE)
 obtain⟨gs,p,e,eg,hE2,hlast,hp,hpa⟩:=EntsAt.last hT.en hE
 obtain⟨ls,l,el,hL2,hl⟩:=DR hT.lr hT.ln
 have nemp:(!(!U.ges.isEmpty))=false:=by rw[eg];simp
 rw[nemp]
 refine Bu ?_
 have hlf:=hT.lf
 rw[el] at hlf
 refine⟨_,rfl,a,cK,_,_,_,rfl,hT.ob,TX.cl,TX.left,KB,.inl ⟨rfl,_,SqL.of hlf⟩,U.lf,_,.ref l,rfl,rfl,hlf,BE _ _,?_⟩
 have nag:=hT.a_gv
 have nal:=hT.a_lf
 have ob1:upd H U.lf (.lst (ls++[V.ref l]).dropLast) a=some (.ins cK U.dx (Lg U W)):=by rw[Ah nal];exact hT.ob
 have gv1:upd H U.lf (.lst (ls++[V.ref l]).dropLast) U.gv=some (.lst (gs++[.ref p])):=by rw[Ah hT.ne,hT.gv,eg]
 refine⟨_,rfl,a,cK,_,_,_,rfl,ob1,TX.cl,TX.given,Iq,.inl ⟨rfl,_,SqL.of gv1⟩,U.gv,_,.ref p,rfl,rfl,gv1,BE _ _,?_⟩
 have b2:But [U.gv,U.lf] H (upd (upd H U.lf (.lst (ls++[V.ref l]).dropLast)) U.gv (.lst (gs++[V.ref p]).dropLast)):=Same.trans (But.upd (by simp)) (But.upd (by simp))
 have lg:W.ents.length≠0:=fun z=>hE (List.length_eq_zero_iff.mp z)
 have ldl:W.lefts.dropLast≠[]:=fun z=>by
  have:=congrArg List.length z
  rw[List.length_dropLast,hlen] at this
  have h0:W.ents.length+1-1=0:=this
  omega
 refine q he hE p e { U with ges:=gs,lfs:=ls } _ b2 rfl rfl (fun b hb=>?_) hlast hp hpa (hT.backed b2 ?_ ?_ hE2 hL2 ldl)
 ·by_cases c1:b=U.gv
  ·rw[c1,upd_same];exact fun z=>by cases z
  ·rw[Ah c1]
   by_cases c2:b=U.lf
   ·rw[c2,upd_same];exact fun z=>by cases z
   ·rw[Ah c2];exact hb
 ·rw[upd_same,List.dropLast_concat]
 ·rw[Ah hT.ne.symm,upd_same,List.dropLast_concat]
end
abbrev O0:Stmt:=AJ (top 56) 13
def HI (W:Ta):Ta:={ W with ended:=true }
def NI (C cO:Addr):Sp:=fun vs H Q E=>∃(a:Addr) (M:List Addr) (U:Tk) (W:Ta),vs=[.ref a]∧TalkAt M C H a U W∧(W.ended=true→E (.ref cO) none H)∧
 (W.ended=false→∀(H':Hp),But [a] H H'→TalkAt M C H' a U (HI W)→Q .non H')
section
variable {cK cS cO cG cT:Addr}
theorem RP:Aj ["self"] ["self"] (Ag O0):=By
theorem P0 {g1:Addr} {d1:FuncData} (F:Fun K "end" "Talk.end" O0 f fd) (TX:MP K cK) (GO:FnOk P w K mg bz (Bj P w) 2 g1 d1 ["talk"] (DK cK cO)) (CO:B5 K mg "refuse_over" g1 d1 ["talk"]):FnOk P w K mg bz (Bj P w) 3 f fd ["self"] (NI cK cO):=by
 refine Fun.okX F RP (fun vs H Q E h=>?_) (fun cdv A outer s H vs Q E hr h=>?_)
 ·obtain⟨a,M,U,W,rfl,_⟩:=h
  rfl
 obtain⟨a,M,U,W,rfl,hT,qO,q⟩:=h
 refine⟨_,Ad (An (Ao GO hr (by rfl) CO.m CO.k CO.b .nil (Aq (E1:=E) fun _ _ _ h=>h) (Aa (pv 0) Ab)))
  (Ac (Bg (pv 0) FG rfl)),?_⟩
 refine⟨_,rfl,a,M,U,W,rfl,hT,qO,fun he=>?_⟩
 refine⟨_,rfl,a,cK,_,_,rfl,hT.ob,TX.cl,TX.ended,(by show 9<1000;decide),?_⟩
 have e:BK "ended" (.bl true) (Lg U W)=Lg U (HI W):=by with_unfolding_all rfl
 have eu:BC M (upd H a (.ins cK U.dx (BK "ended" (.bl true) (Lg U W))))=BC M H:=Du hT.ma
 refine q he _ (But.upd (by simp)) ⟨upd_same.trans (congrArg (fun l=>some (HO.ins cK U.dx l)) e),by rw[Ah hT.a_gv.symm];exact hT.gv,by rw[Ah hT.a_lf.symm];exact hT.lf,hT.ma,hT.mg,hT.ml,hT.ne,?_,?_,?_,?_,?_,?_,hT.wr,hT.wl,hT.ln,hT.l9,hT.e9,hT.tok,hT.m5,hT.tsz,hT.kd,hT.ns,hT.rl⟩
 ·rw[eu];exact hT.room
 ·rw[eu];exact hT.tr
 ·rw[eu];exact hT.pt
 ·rw[eu];exact hT.sd
 ·rw[eu];exact hT.en
 ·rw[eu];exact hT.lr
end
section
variable {cK cS cO cG cT cB cN:Addr}
end
structure Hy (K:PySem.W.Frag) (C:Addr):Prop where
 cl:Cls K C
 space:NoAttr K C "space"
 many:NoAttr K C "many"
 marks:NoAttr K C "marks"
 talks:NoAttr K C "talks"
 lines:NoAttr K C "lines"
abbrev Jf:Stmt:=top 30
abbrev Fp:=Sum Str Tr
def IAt (H:Hp) (v:V):Fp→Prop
 | .inl z=>v= .str z
 | .inr t=>t.At H v
abbrev Items (H:Hp):List V→List Fp→Prop:=Paired (IAt H)
theorem IAt.keep {H H':Hp} (s:TS H H') {v:V}:∀{i:Fp},IAt H v i→IAt H' v i
 | .inl _,h=>h
 | .inr _,h=>Tr.At.keep s h
theorem Items.keep {H H':Hp} (s:TS H H'):∀{xs:List V} {is:List Fp},Items H xs is→Items H' xs is
 | _,_,.nil=>.nil
 | _,_,.cons r q=>.cons (IAt.keep s r) (Items.keep s q)
theorem Items.app {H:Hp}:∀{xs ys:List V} {is js:List Fp},Items H xs is→Items H ys js→Items H (xs++ys) (is++js)
 | _,_,_,_,.nil,h=>h
 | _,_,_,_,.cons r q,h=>.cons r (Items.app q h)
theorem Items.last {H:Hp}:∀{xs:List V} {ts:List Fp},Items H xs ts→xs≠[]→∃xs' y ts' t,xs=xs'++[y]∧ts=ts'++[t]∧Items H xs' ts'∧IAt H y t
 | _,_,.nil,h=>absurd rfl h
 | _,_,.cons (a:=v) (b:=t) r .nil,_=>⟨[],v,[],t,rfl,rfl,.nil,r⟩
 | _,_,.cons (a:=v) (b:=t) r (.cons r' q'),_=>by
  obtain⟨xs',y,ts',u,e1,e2,q,a⟩:=Items.last (Paired.cons r' q') (by intro z;cases z)
  exact⟨v::xs',y,t::ts',u,by rw[e1];rfl,by rw[e2];rfl,.cons r q,a⟩
theorem TB {H:Hp} {z:Str} {ys:List V} {js:List Fp} (h:Items H ys js):Items H (.str z::ys) (.inl z::js):=.cons (show IAt H (.str z) (.inl z) from rfl) h
theorem TY {H:Hp} {t:Tr} {v:V} {ys:List V} {js:List Fp} (a:t.At H v) (h:Items H ys js):Items H (v::ys) (.inr t::js):=.cons (show IAt H v (.inr t) from a) h
def Oh:Fp→List Nat
 | .inl z=>C0 z
 | .inr t=>BM t
def wt:Tr→Nat
 | .lt _=>1
 | .nt t=>wt t+2
 | .bn _ a b=>wt a+wt b+4
def wi:Fp→Nat
 | .inl _=>1
 | .inr t=>wt t
def TF:Fp→Prop
 | .inl z=>z.length=1
 | .inr t=>t.ok 5
theorem Rv:∀t:Tr,1≤wt t
 | .lt _=>Nat.le_refl _
 | .nt _=>Nat.le_add_left 1 (wt _+1)
 | .bn _ a b=>Nat.le_add_left 1 (wt a+wt b+3)
theorem KM:∀t:Tr,wt t≤4*t.size
 | .lt _=>by show 1≤4*1;decide
 | .nt t=>by
  have:=KM t
  show wt t+2≤4*(t.size+1)
  omega
 | .bn _ a b=>by
  have h1:=KM a
  have h2:=KM b
  show wt a+wt b+4≤4*(a.size+b.size+1)
  omega
theorem Rc:∀i:Fp,1≤wi i
 | .inl _=>Nat.le_refl _
 | .inr t=>Rv t
def ws (is:List Fp):Nat:=(is.map wi).sum
theorem Hg (a b:List Fp):ws (a++b)=ws a+ws b:=by
 unfold ws
 rw[List.map_append,List.sum_append]
theorem Ow:∀is:List Fp,is.length≤ws is
 | []=>Nat.le_refl _
 | i::r=>by
  have h1:=Rc i
  have h2:=Ow r
  show r.length+1≤(((i::r).map wi).sum)
  rw[List.map_cons,List.sum_cons]
  show r.length+1≤wi i+ws r
  omega
def EO (ys:List Str):List Nat:=(ys.map C0).flatten
def MJ (is:List Fp):List Nat:=(is.reverse.map Oh).flatten
theorem Fz (ys:List Str) (z:Str):EO (ys++[z])=EO ys++C0 z:=by
 unfold EO
 simp
theorem Ho (a b:List Fp):MJ (a++b)=MJ b++MJ a:=by
 unfold MJ
 simp
theorem Lf (i:Fp):MJ [i]=Oh i:=by
 unfold MJ
 simp
theorem Io:∀ys:List Str,(ys.map (·.length)).sum=(EO ys).length
 | []=>rfl
 | z::r=>by
  have h:=Io r
  rw[List.map_cons,List.sum_cons,h]
  show z.length+(EO r).length=(C0 z++EO r).length
  rw[List.length_append,←BR]
theorem IH:∀ys:List Str,C0 (Str.join ⟨#[]⟩ ys)=EO ys
 | []=>rfl
 | z::r=>by
  rw[join_nil_cons,Cd,IH r]
  rfl
theorem L4 (ys:List Str):C0 (Txt.join "" ys)=EO ys:=by
 have e:Txt.join "" ys=Str.join "" ys:=eq_of_beq (join_plain_closes "" ys)
 rw[e]
 exact IH ys
structure ShInv (H H2:Hp) (sl wl:Addr) (t0:Tr) (ys:List Str) (xs:List V) (is:List Fp):Prop where
 sm:Same H H2
 s:H2 sl=some (.lst (ys.map V.str))
 w:H2 wl=some (.lst xs)
 it:Items H2 xs is
 ok:∀i∈is,TF i
 eq:EO ys++MJ is=BM t0
 le:ys.length+ws is≤92
theorem ShInv.pop {H H2:Hp} {sl wl:Addr} {t0:Tr} {ys:List Str} {xs:List V} {is:List Fp} (nw:H wl=none) (ne:sl≠wl) (p:ShInv H H2 sl wl t0 ys xs is) (h:xs≠[]) :
  ∃y is' i,xs[xs.length-1]? = some y∧is=is'++[i]∧TF i∧IAt (upd H2 wl (.lst xs.dropLast)) y i∧Same H (upd H2 wl (.lst xs.dropLast))∧(upd H2 wl (.lst xs.dropLast)) sl=some (.lst (ys.map V.str))∧
   Items (upd H2 wl (.lst xs.dropLast)) xs.dropLast is'∧(∀i∈is',TF i)∧EO ys++(Oh i++MJ is')=BM t0∧ys.length+(ws is'+wi i)≤92∧ws is=ws is'+wi i:=by
 obtain⟨xs',y,is',i,rfl,rfl,q,a⟩:=p.it.last h
 have k:TS H2 (upd H2 wl (.lst (xs'++[y]).dropLast)):=TS.lst p.w
 refine⟨y,is',i,BE _ _,rfl,p.ok i (by simp),a.keep k,Az p.sm nw _,by rw[Ah ne];exact p.s,?_,fun j hj=>p.ok j (by simp[hj]),?_,?_,?_⟩
 ·rw[List.dropLast_concat] at k ⊢
  exact q.keep k
 ·rw[←p.eq,Ho,Lf]
 ·have:=p.le
  rw[Hg] at this
  have e:ws [i]=wi i:=by unfold ws;simp
  omega
 ·rw[Hg]
  have e:ws [i]=wi i:=by unfold ws;simp
  omega
def Hm:Sp:=fun vs H Q _=>∃(v:V) (t:Tr),vs=[v]∧t.At H v∧t.ok 5∧t.size≤23∧∀(z:Str) (H':Hp),C0 z=BM t→Same H H'→Q (.str z) H'
def Tc (k:Str):Option V:=if k="and" then some (.str "&") else if k="or" then some (.str "|") else if k="if" then some (.str ">") else if k="same" then some (.str "=") else none
theorem P2 {j:Nat} (h:j<4):∃z:Str,Tc (jn j)=some (.str z)∧C0 z=[jc j]:=by
 match j,h with
 | 0,_=>exact⟨"&",by decide,rfl⟩
 | 1,_=>exact⟨"|",by decide,rfl⟩
 | 2,_=>exact⟨">",by decide,rfl⟩
 | 3,_=>exact⟨"=",by decide,rfl⟩
structure QO (P:Program) (w:World) (K:PySem.W.Frag) (mg:Str→Option Value):Prop where
 isi:mg "isinstance"=none
 str:mg "str"=none
 let':∃t,mg "LETTERS"=some (.str "abcde" t)
 jo:∃d,mg "JOINTS"=some (.ref d)∧Hv P w K d Tc
section
theorem scShown:Aj ["sentence","signs","waiting","part"] ["sentence"] (Ag Jf):=By
theorem N0 (F:Fun K "shown" "shown" Jf f fd) (T:QO P w K mg):FnOk P w K mg bz A8 1 f fd ["sentence"] Hm:=by
 refine F.ok scShown (fun vs H Q E h=>?_) (fun cdv A outer s H vs Q E hr h=>?_)
 ·obtain⟨v,t,rfl,_⟩:=h
  rfl
 obtain⟨v,t,rfl,ha,hok,hs,q⟩:=h
 obtain⟨tL,mL⟩:=T.let'
 obtain⟨dJ,mJ,hJ⟩:=T.jo
 refine⟨_,Ad (Ap (i:=1) scShown.nd rfl (Or.inl rfl) (AA Ab))
  (Ad (Ap (i:=2) scShown.nd rfl (Or.inl rfl) (AA (Aa (pv 0) Ab)))
  (Ad (DD PassesOwn.never (Bk (pv 2) (fun _=>rfl))
   (Ad (Ap (i:=3) scShown.nd rfl (Or.inl rfl) (BY PySem.F.plainAttrs_list PySem.F.slot_list_pop PySem.F.type_list_pop Cf (pv 2)))
   (Ac (Aw (DI (Ax HV (by rfl) T.isi boot_isinstance (Aa (pv 3) (Aa (La (v:=.ty "str") (by rfl) T.str boot_str rfl) Ab))))
    (Ac (An (Bx PySem.F.plainAttrs_list PySem.F.slot_list_append PySem.F.type_list_append AZ (pv 1) (Aa (pv 3) Ab))))
    (Ac (Aw (Am AO (AQ Bm (pv 3) Ai (fun _ _=>rfl)) Ak (As _))
     (Ac (An (Bx PySem.F.plainAttrs_list PySem.F.slot_list_append PySem.F.type_list_append AZ (pv 1) (Aa (AQ Ni (AB (v:=.str "abcde") (by rfl) mL ⟨_,rfl⟩) (AQ Bm (pv 3) Ai (fun _ _=>rfl)) (fun _ _=>rfl)) Ab))))
     (Ac (Aw (Am AO (AQ Bm (pv 3) Ai (fun _ _=>rfl)) Ak (As _))
      (Ac (An (Bx PySem.F.plainAttrs_list PySem.F.slot_list_extend PySem.F.type_list_extend Ea (pv 2) (Aa (AA (Aa (AQ Bm (pv 3) Ai (fun _ _=>rfl)) (Aa Ak Ab))) Ab))))
      (Ac (An (Bx PySem.F.plainAttrs_list PySem.F.slot_list_extend PySem.F.type_list_extend Ea (pv 2) (Aa (AA (Aa Ak (Aa (AQ Bm (pv 3) Ai (fun _ _=>rfl)) (Aa (AQ M7 (AB (v:=.ref dJ) (by rfl) mJ rfl) (AQ Bm (pv 3) Ai (fun _ _=>rfl)) (fun _ _=>rfl)) (Aa (AQ Bm (pv 3) Ai (fun _ _=>rfl)) (Aa Ak Ab)))))) Ab))))))))))))
  (Ac (Ar (Bx PySem.F.plainAttrs_str PySem.F.slot_str_join PySem.F.type_str_join KT Ak (Aa (pv 1) Ab)))))),?_⟩
 refine⟨MI,fun sl hsl=>⟨_,rfl,LU,fun wl hwl=>?_⟩⟩
 have ne:sl≠wl:=Af (upd_same (H:=H) (a:=sl) (o:=.lst [])) hwl
 have nw:H wl=none:=(Ae hsl (.lst [])).free hwl
 have sm0:Same H (upd (upd H sl (.lst [])) wl (.lst [v])):=(Ae hsl _).trans (Ae hwl _)
 have lt9:∀{k:Nat},k≤999→k<sizeLine:=fun h=>AI (Nat.le_trans h (by decide))
 refine⟨fun m σ H2=>∃(pv':Option V) (ys:List Str) (xs:List V) (is:List Fp),σ=[some v,some (.ref sl),some (.ref wl),pv']∧ShInv H H2 sl wl t ys xs is∧ws is=m,⟨_,none,[],[v],[.inr t],rfl,⟨sm0,by rw[Ah ne,upd_same];rfl,upd_same,.cons (ha.keep (TS.same sm0)) .nil,fun i hi=>?_,by rw[Lf];rfl,?_⟩,rfl⟩,?_⟩
 ·rw[List.mem_singleton.mp hi]
  exact hok
 ·have:=KM t
  have e:ws [.inr t]=wt t:=by unfold ws;simp[wi]
  show 0+ws [.inr t]≤92
  omega
 rintro m σ H2 ⟨pv',ys,xs,is,rfl,p,rfl⟩
 refine⟨_,rfl,_,.inl ⟨xs,SqL.of p.w,rfl⟩,?_⟩
 refine CZ (fun c=>?_) (fun c=>?_)
 ·have hx:xs≠[]:=by
   intro z
   subst z
   exact absurd c (by decide)
  refine⟨fun σ' H'=>∃m',m'<ws is∧∃(pv':Option V) (ys:List Str) (xs:List V) (is:List Fp),σ'=[some v,some (.ref sl),some (.ref wl),pv']∧ShInv H H' sl wl t ys xs is∧ws is=m',fun _ _ h=>h,?_⟩
  obtain⟨y,is',i,ey,rfl,oki,ai,sm1,s1,it1,ok1,eq1,le1',we⟩:=p.pop nw ne hx
  have w1:(upd H2 wl (.lst xs.dropLast)) wl=some (.lst xs.dropLast):=upd_same
  have nsl:∀{o:HO},TS (upd H2 wl (.lst xs.dropLast)) (upd (upd H2 wl (.lst xs.dropLast)) sl o):=TS.lst s1
  have nsl0:H sl=none:=hsl
  have hyl:ys.length≤92:=by omega
  have hil:is'.length≤92:=by
   have:=Ow is'
   omega
  have hxl:xs.dropLast.length≤92:=by
   have e:xs.dropLast.length=is'.length:=Paired.length it1
   omega
  refine⟨_,rfl,.inl ⟨rfl,_,SqL.of p.w⟩,wl,_,y,rfl,rfl,p.w,ey,?_⟩
  have hms:ys.map V.str=ys.map V.str:=rfl
  cases i with
  | inl z=>
   cases ai
   refine⟨_,rfl,_,_,_,_,rfl,.str _,N4 _ _,_,rfl,?_⟩
   refine BH ?_
   refine⟨_,rfl,.inl ⟨rfl,_,SqL.of s1⟩,_,rfl,sl,_,_,rfl,rfl,s1,lt9 (by rw[List.length_map];omega),?_⟩
   refine⟨ws is',by rw[we];show ws is'<ws is'+1;omega,_,ys++[z],xs.dropLast,is',rfl,⟨Az sm1 nsl0 _,by rw[upd_same,List.map_append];rfl,by rw[Ah ne.symm];exact w1,it1.keep nsl,ok1,?_,?_⟩,rfl⟩
   ·rw[Fz,List.append_assoc]
    exact eq1
   ·rw[List.length_append]
    have:ys.length+(ws is'+1)≤92:=le1'
    show ys.length+1+ws is'≤92
    omega
  | inr u=>
   cases u with
   | lt k=>
    obtain⟨b,rfl,hb⟩:=ai
    refine⟨_,rfl,_,_,_,_,rfl,.tup hb,Cs _,_,rfl,?_⟩
    refine Bu ?_
    refine⟨_,rfl,b,_,_,_,rfl,rfl,SqT.of hb,Av (j:=0) rfl,rfl,_,rfl,?_⟩
    refine Bo rfl ?_
    refine⟨_,rfl,.inl ⟨rfl,_,SqL.of s1⟩,_,rfl,b,_,_,_,rfl,rfl,SqT.of hb,Av (j:=1) rfl,_,_,_,rfl,rfl,TR,Mb oki,sl,_,_,rfl,rfl,s1,lt9 (by rw[List.length_map];omega),?_⟩
    refine⟨ws is',by rw[we];show ws is'<ws is'+1;omega,_,ys++[⟨#[97+k]⟩],xs.dropLast,is',rfl,⟨Az sm1 nsl0 _,by rw[upd_same,List.map_append];rfl,by rw[Ah ne.symm];exact w1,it1.keep nsl,ok1,?_,?_⟩,rfl⟩
    ·rw[Fz,List.append_assoc]
     exact eq1
    ·rw[List.length_append]
     have:ys.length+(ws is'+1)≤92:=le1'
     show ys.length+1+ws is'≤92
     omega
   | nt u=>
    obtain⟨b,x,rfl,hb,hx'⟩:=ai
    refine⟨_,rfl,_,_,_,_,rfl,.tup hb,Cs _,_,rfl,?_⟩
    refine Bu ?_
    refine⟨_,rfl,b,_,_,_,rfl,rfl,SqT.of hb,Av (j:=0) rfl,rfl,_,rfl,?_⟩
    refine A3 (by decide) ?_
    refine⟨_,rfl,b,_,_,_,rfl,rfl,SqT.of hb,Av (j:=0) rfl,rfl,_,rfl,?_⟩
    refine Bo rfl ?_
    have le2':ys.length+(ws is'+(wt u+2))≤92:=le1'
    refine⟨_,rfl,.inl ⟨rfl,_,SqL.of w1⟩,_,rfl,b,_,_,_,rfl,rfl,SqT.of hb,Av (j:=1) rfl,IK,fun nl hnl=>?_⟩
    have kp:TS (upd H2 wl (.lst xs.dropLast)) (upd (upd (upd H2 wl (.lst xs.dropLast)) nl (.lst [x,.str "-"])) wl (.lst (xs.dropLast++[x,.str "-"]))):=(TS.new hnl).trans (TS.lst ((Ae hnl _) _ _ w1))
    refine⟨wl,nl,_,_,rfl,rfl,(Ae hnl _) _ _ w1,upd_same,B1 (by show xs.dropLast.length+2≤1000;omega),?_⟩
    have ew:ws (is'++[.inr u,.inl "-"])=ws is'+(wt u+1):=by
     rw[Hg]
     unfold ws
     simp[wi]
    refine⟨_,?_,_,ys,xs.dropLast++[x,.str "-"],is'++[.inr u,.inl "-"],rfl,⟨Az (sm1.trans (Ae hnl _)) nw _,by rw[Ah ne];exact (Ae hnl _) _ _ s1,upd_same,(it1.keep kp).app (TY (hx'.keep kp) (TB .nil)),?_,?_,?_⟩,rfl⟩
    ·rw[we,ew]
     show ws is'+(wt u+1)<ws is'+(wt u+2)
     omega
    ·intro j hj
     rcases List.mem_append.mp hj with z | z
     ·exact ok1 j z
     ·rcases List.mem_cons.mp z with z | z
      ·subst z;exact oki
      ·rw[List.mem_singleton.mp z];rfl
    ·rw[Ho,←eq1]
     congr 1
     unfold MJ
     simp[Oh,BM]
     rfl
    ·rw[ew]
     omega
   | bn j a b'=>
    obtain⟨b,x,x2,rfl,hb,hx',hx2⟩:=ai
    obtain⟨hj,oka,okb⟩:=oki
    obtain⟨zj,ej,cj⟩:=P2 hj
    refine⟨_,rfl,_,_,_,_,rfl,.tup hb,Cs _,_,rfl,?_⟩
    refine Bu ?_
    refine⟨_,rfl,b,_,_,_,rfl,rfl,SqT.of hb,Av (j:=0) rfl,rfl,_,rfl,?_⟩
    refine A3 Hz ?_
    refine⟨_,rfl,b,_,_,_,rfl,rfl,SqT.of hb,Av (j:=0) rfl,rfl,_,rfl,?_⟩
    refine A3 Ot ?_
    have le2':ys.length+(ws is'+(wt a+wt b'+4))≤92:=le1'
    refine⟨_,rfl,.inl ⟨rfl,_,SqL.of w1⟩,_,rfl,b,_,_,_,rfl,rfl,SqT.of hb,Av (j:=2) rfl,_,rfl,b,_,_,_,rfl,rfl,SqT.of hb,Av (j:=0) rfl,dJ,_,_,_,rfl,rfl,hJ,ej,_,rfl,b,_,_,_,rfl,rfl,SqT.of hb,Av (j:=1) rfl,TR,fun nl hnl=>?_⟩
    have kp:TS (upd H2 wl (.lst xs.dropLast)) (upd (upd (upd H2 wl (.lst xs.dropLast)) nl (.lst [.str ")",x2,.str zj,x,.str "("])) wl (.lst (xs.dropLast++[.str ")",x2,.str zj,x,.str "("]))):=(TS.new hnl).trans (TS.lst ((Ae hnl _) _ _ w1))
    refine⟨wl,nl,_,_,rfl,rfl,(Ae hnl _) _ _ w1,upd_same,B1 (by show xs.dropLast.length+5≤1000;omega),?_⟩
    have ew:ws (is'++[.inl ")",.inr b',.inl zj,.inr a,.inl "("])=ws is'+(wt a+wt b'+3):=by
     rw[Hg]
     unfold ws
     simp[wi]
     omega
    refine⟨_,?_,_,ys,xs.dropLast++[.str ")",x2,.str zj,x,.str "("],is'++[.inl ")",.inr b',.inl zj,.inr a,.inl "("],rfl,⟨Az (sm1.trans (Ae hnl _)) nw _,by rw[Ah ne];exact (Ae hnl _) _ _ s1,upd_same,(it1.keep kp).app (TB (TY (hx2.keep kp) (TB (TY (hx'.keep kp) (TB .nil))))),?_,?_,?_⟩,rfl⟩
    ·rw[we,ew]
     show ws is'+(wt a+wt b'+3)<ws is'+(wt a+wt b'+4)
     omega
    ·intro i' hi'
     rcases List.mem_append.mp hi' with z | z
     ·exact ok1 i' z
     ·have e5:i'= .inl ")"∨i'= .inr b'∨i'= .inl zj∨i'= .inr a∨i'= .inl "(":=by simpa using z
      rcases e5 with e | e | e | e | e
      ·subst e;rfl
      ·subst e;exact okb
      ·subst e
       show zj.length=1
       rw[BR,cj]
       rfl
      ·subst e;exact oka
      ·subst e;rfl
    ·rw[Ho,←eq1]
     congr 1
     have e3:MJ [.inl ")",.inr b',.inl zj,.inr a,.inl "("]=C0 "("++(BM a++(C0 zj++(BM b'++C0 ")"))):=by
      unfold MJ
      simp[Oh]
     rw[e3,cj]
     rfl
    ·rw[ew]
     omega
 ·have hx:xs=[]:=by
   cases xs with
   | nil=>rfl
   | cons a r=>exact absurd rfl c
  subst hx
  have eq1:=p.eq
  cases p.it
  have eq2:EO ys=BM t:=by
   have:MJ []=[]:=rfl
   rw[this,List.append_nil] at eq1
   exact eq1
  refine⟨rfl,_,rfl,_,_,ys,rfl,rfl,SqL.of p.s,?_,?_⟩
  ·rw[Io,eq2]
   have:=Cr t
   show (BM t).length+ys.length*0≤16777216
   omega
  ·exact q _ H2 (by rw[L4];exact eq2) p.sm
end
theorem Q2 {P:Program} {w:World} {K:PySem.W.Frag} {dd:Addr} {a b c d x y z u:Str} {t1 t2 t3 t4 t5 t6 t7 t8:Tok} {ep:Nat} {f:Str→Option V}
  (l:K.lookup dd=some ⟨.type "dict",none,.dict #[⟨hashStr w a,.str a t1,.str x t2⟩,⟨hashStr w b,.str b t3,.str y t4⟩,⟨hashStr w c,.str c t5,.str z t6⟩,⟨hashStr w d,.str d t7,.str u t8⟩] ep,#[]⟩)
  (nd:[a,b,c,d].Nodup) (nm:(dd == sysModules)=false) (hf:∀k,f k=if k=a then some (.str x) else if k=b then some (.str y) else if k=c then some (.str z) else if k=d then some (.str u) else none):Hv P w K dd f:=by
 refine⟨nm,_,[(a,.str x t2),(b,.str y t4),(c,.str z t6),(d,.str u t8)],l,⟨_,_,⟨rfl,rfl,rfl⟩,rfl,fun e he=>?_,?_,nd⟩,fun k=>?_⟩
 ·have he':e=⟨hashStr w a,.str a t1,.str x t2⟩∨e=⟨hashStr w b,.str b t3,.str y t4⟩∨e=⟨hashStr w c,.str c t5,.str z t6⟩∨e=⟨hashStr w d,.str d t7,.str u t8⟩:=by simpa using he
  rcases he' with e1 | e1 | e1 | e1
  ·subst e1;exact⟨a,strKind_is _ _ _ _,rfl⟩
  ·subst e1;exact⟨b,strKind_is _ _ _ _,rfl⟩
  ·subst e1;exact⟨c,strKind_is _ _ _ _,rfl⟩
  ·subst e1;exact⟨d,strKind_is _ _ _ _,rfl⟩
 ·exact .cons (strKind_is _ _ _ _) rfl (.cons (strKind_is _ _ _ _) rfl (.cons (strKind_is _ _ _ _) rfl (.cons (strKind_is _ _ _ _) rfl .nil)))
 ·rw[hf]
  unfold valueAt
  by_cases h1:k=a
  ·subst h1
   rw[if_pos rfl,List.find?_cons_of_pos (by simp)]
   exact⟨_,rfl⟩
  rw[if_neg h1,List.find?_cons_of_neg (by simpa using fun q=>h1 q.symm)]
  by_cases h2:k=b
  ·subst h2
   rw[if_pos rfl,List.find?_cons_of_pos (by simp)]
   exact⟨_,rfl⟩
  rw[if_neg h2,List.find?_cons_of_neg (by simpa using fun q=>h2 q.symm)]
  by_cases h3:k=c
  ·subst h3
   rw[if_pos rfl,List.find?_cons_of_pos (by simp)]
   exact⟨_,rfl⟩
  rw[if_neg h3,List.find?_cons_of_neg (by simpa using fun q=>h3 q.symm)]
  by_cases h4:k=d
  ·subst h4
   rw[if_pos rfl,List.find?_cons_of_pos (by simp)]
   exact⟨_,rfl⟩
  rw[if_neg h4,List.find?_cons_of_neg (by simpa using fun q=>h4 q.symm)]
  exact True.intro
abbrev Hh:Stmt:=top 42
def AS (m:Nat) (ts:List Tr):List Int:=ts.foldl (fun r t=>r.filter fun k=>tv t k == true) (Bv (2^m))
theorem LW {m:Nat} {ts:List Tr} {t:Tr}:AS m (ts++[t])=(AS m ts).filter fun k=>tv t k == true:=by
 unfold AS
 rw[List.foldl_append]
 rfl
theorem HK:∀(ts:List Tr) (r:List Int),(ts.foldl (fun r t=>r.filter fun k=>tv t k == true) r).Sublist r
 | [],r=>List.Sublist.refl r
 | t::ts,r=>(HK ts _).trans List.filter_sublist
theorem GZ {m:Nat} (h:m≤5) (ts:List Tr):Wr (AS m ts):=(PR h).sub (HK ts _)
def Fe (cS cW:Addr):Sp:=fun vs H Q E=>∃(st:Addr) (m:Nat) (xs:List V) (ts:List Tr),vs=[.int m,.ref st]∧H st=some (.lst xs)∧Pile H xs ts∧(∀t∈ts,t.ok 5∧t.size≤60)∧1≤m∧m≤5∧
 ((∃t∈ts,¬t.ok m)→∀H',Same H H'→E (.ref cS) none H')∧((∀t∈ts,t.ok m)→AS m ts=[]→∀H',Same H H'→E (.ref cW) none H')∧
 ((∀t∈ts,t.ok m)→AS m ts≠[]→∀(l:Addr) (H':Hp),Same H H'→H l=none→AV H' l (AS m ts)→Q (.ref l) H')
section
variable {cS cW cT:Addr}
theorem scRoomOf:Aj ["many","standing","sentence","room"] ["many","standing"] (Ag Hh):=By
theorem LQ {g1 g2 g3:Addr} {d1 d2 d3:FuncData} (F:Fun K "room_of" "room_of" Hh f fd) (T:HB mg) (XW:Be K mg "NoWorld" cW cT)
  (GR:FnOk P w K mg bz (Bj P w) 3 g1 d1 ["sentence","many"] (Dp cS)) (CR:B5 K mg "refuse_strange" g1 d1 ["sentence","many"])
  (GA:FnOk P w K mg bz A8 1 g2 d2 ["many"] II) (CA:B5 K mg "all_worlds" g2 d2 ["many"])
  (GW:FnOk P w K mg bz A8 3 g3 d3 ["sentence","room"] (Cp K)) (CW:B5 K mg "worlds_of" g3 d3 ["sentence","room"]):FnOk P w K mg bz (Bj P w) 4 f fd ["many","standing"] (Fe cS cW):=by
 refine Fun.okX F scRoomOf (fun vs H Q E h=>?_) (fun cdv A outer s H vs Q E hr h=>?_)
 ·obtain⟨st,m,xs,ts,rfl,_⟩:=h
  rfl
 obtain⟨st,m,xs,ts,rfl,hS,hP,hok,hm1,hm5,qS,qW,q⟩:=h
 have hr1:Room 1 _:=hr.mono (by decide)
 have hr3:Room 3 _:=hr.mono (by decide)
 have hpl:=hP.len
 refine⟨_,Ad (CG PassesOwn.leaving rfl (Br (pv 1)) (AN (i:=2) scRoomOf.nd rfl (Or.inl rfl))
   (Ac (An (Ao GR hr3 (by rfl) CR.m CR.k CR.b .nil (Aq (E1:=E) fun _ _ _ h=>h) (Aa (pv 2) (Aa (pv 0) Ab))))))
  (Ad (Ap (i:=3) scRoomOf.nd rfl (Or.inl rfl) (Ao GA hr1 (by rfl) CA.m CA.k CA.b .nil AH (Aa (pv 0) Ab)))
  (Ad (CG PassesOwn.leaving rfl (Br (pv 1)) (AN (i:=2) scRoomOf.nd rfl (Or.inl rfl))
   (Ac (Ap (i:=3) scRoomOf.nd rfl (Or.inl rfl) (Ao GW hr3 (by rfl) CW.m CW.k CW.b .nil AH (Aa (pv 2) (Aa (pv 3) Ab))))))
  (Ad (Aw (Cy (Bk (pv 3) (fun _=>rfl)))
   (Ac (AY (Ex:=E) AM rfl XW.cls XW.at_ XW.ty (by rfl) XW.m (Aa Ak Ab) (hvl:=fun _ _ _ h=>⟨by decide,h⟩)))
   Au)
  (Ac (Ar (pv 3)))))),?_⟩
 refine⟨_,rfl,st,rfl,⟨_,SqL.of hS⟩,Bc (K:=K) (a:=st) (xs:=xs) (fun i σ H2=>∃v0,σ=[some (.int (m:Int)),some (.ref st),v0,none]∧Same H H2∧∀t∈ts.take i,t.ok m) ⟨_,rfl,Same.refl _,fun t ht=>by simp at ht⟩ ?_ ?_ ?_⟩
 ·rintro i σ H2 _ ⟨v0,rfl,s2,_⟩
  exact SqL.of (s2 _ _ hS)
 ·rintro i x σ H2 hx ⟨v0,rfl,s2,hall⟩
  obtain⟨t,ht,hat⟩:=Bt hP hx
  obtain⟨o1,o2⟩:=hok t (List.mem_of_getElem? ht)
  refine⟨_,rfl,_,rfl,x,t,m,rfl,hat.keep (TS.same s2),o1,o2,fun hn H3 s3=>qS ⟨t,List.mem_of_getElem? ht,hn⟩ H3 (s2.trans s3),fun hy H3 s3=>?_⟩
  refine⟨_,rfl,s2.trans s3,fun u hu=>?_⟩
  rw[List.take_add_one,ht] at hu
  rcases List.mem_append.mp hu with h1 | h1
  ·exact hall u h1
  ·have:u=t:=by simpa using h1
   rw[this]
   exact hy
 rintro σ H2 ⟨v0,rfl,s2,hall⟩
 rw[hpl,List.take_length] at hall
 refine⟨_,rfl,m,rfl,hm1,hm5,fun r H3 s3 r0 hr3'=>?_⟩
 have s23:=s2.trans s3
 refine⟨_,rfl,st,rfl,⟨_,SqL.of (s23 _ _ hS)⟩,Bc (K:=K) (a:=st) (xs:=xs) (fun i σ H4=>∃(v0:Option V) (r:Addr),σ=[some (.int (m:Int)),some (.ref st),v0,some (.ref r)]∧Same H H4∧H r=none∧AV H4 r (AS m (ts.take i))) ⟨_,r,rfl,s23,s2.free r0,hr3'⟩ ?_ ?_ ?_⟩
 ·rintro i σ H4 _ ⟨v0,r,rfl,s4,_⟩
  exact SqL.of (s4 _ _ hS)
 ·rintro i x σ H4 hx ⟨v0,r,rfl,s4,r0',hr4⟩
  obtain⟨t,ht,hat⟩:=Bt hP hx
  obtain⟨o1,o2⟩:=hok t (List.mem_of_getElem? ht)
  refine⟨_,rfl,_,rfl,x,t,r,_,rfl,hat.keep (TS.same s4),o1,by omega,SqL.of hr4,GZ hm5 _,fun l H5 s5 l0 hl=>?_⟩
  refine⟨_,l,rfl,s4.trans s5,s4.free l0,?_⟩
  rw[List.take_add_one,ht]
  show AV H5 l (AS m (ts.take i++[t]))
  rw[LW]
  exact hl
 rintro σ H4 ⟨v0,r,rfl,s4,r0',hr4⟩
 rw[hpl,List.take_length] at hr4
 refine⟨_,rfl,_,.inl ⟨_,SqL.of hr4,rfl⟩,?_⟩
 by_cases c:AS m ts=[]
 ·rw[c]
  exact BH (qW hall c H4 s4)
 ·have e:(!((AS m ts).map V.int).isEmpty)=true:=by
   cases h:AS m ts with
   | nil=>exact absurd h c
   | cons _ _=>rfl
  rw[e]
  exact Bu ⟨_,rfl,q hall c r H4 s4 r0' hr4⟩
end
abbrev Hq:Stmt:=top 61
abbrev JG:Stmt:=AJ (top 68) 0
abbrev Gr:Stmt:=AJ (top 68) 24
abbrev Jh:Stmt:=AJ (top 68) 1
structure Hk where
 dx:Addr
 sp:Addr
 mks:Addr
 tk:Addr
 ln:Addr
def DQ (U:Hk) (m:Nat):List (Str×V):=[("space",.ref U.sp),("many",.int m),("marks",.ref U.mks),("talks",.ref U.tk),("lines",.ref U.ln)]
theorem Ii {U:Hk} {m:Nat}:(DQ U m).lookup ("space":Str)=some (.ref U.sp):=by with_unfolding_all rfl
theorem HY {U:Hk} {m:Nat}:(DQ U m).lookup ("lines":Str)=some (.ref U.ln):=by with_unfolding_all rfl
theorem DE {U:Hk} {m:Nat}:(DQ U m).lookup ("write":Str)=none:=by with_unfolding_all rfl
theorem Ql {U:Hk} {m:Nat}:(DQ U m).lookup ("room":Str)=none:=by with_unfolding_all rfl
def Ck (ws:List Str):Str:=Txt.join " " ws
def IG:Sp:=fun vs H Q _=>∃(l:Addr) (ws:List Str),vs=[.ref l]∧H l=some (.lst (ws.map V.str))∧(ws.map (·.length)).sum+ws.length≤100000∧Q (.str (Ck ws)) H
def Cz (C:Addr):Sp:=fun vs H Q _=>∃(x l:Addr) (U:Hk) (m:Nat) (ws:List Str) (ls:List V),vs=[.ref x,.ref l]∧H x=some (.ins C U.dx (DQ U m))∧H U.ln=some (.lst ls)∧ls.length≤900∧H l=some (.lst (ws.map V.str))∧(ws.map (·.length)).sum+ws.length≤100000∧Q .non (upd H U.ln (.lst (ls++[.str (Ck ws)])))
def K1 (C:Addr):Sp:=fun vs H Q _=>∃(x:Addr) (U:Hk) (m:Nat) (room:List Int),vs=[.ref x]∧H x=some (.ins C U.dx (DQ U m))∧AV H U.sp room∧∀(l:Addr) (H':Hp),Same H H'→H l=none→AV H' l room→Q (.ref l) H'
section
variable {cH cS cW cT:Addr}
theorem Nf:Aj ["words"] ["words"] (Ag Hq):=By
theorem Nm:Aj ["self","words"] ["self","words"] (Ag Gr):=By
theorem PL:Aj ["self"] ["self"] (Ag Jh):=By
theorem Mn (F:Fun K "line_of" "line_of" Hq f fd):FnOk P w K mg bz A8 1 f fd ["words"] IG:=by
 refine F.ok Nf (fun vs H Q E h=>?_) (fun cdv A outer s H vs Q E hr h=>?_)
 ·obtain⟨l,ws,rfl,_⟩:=h
  rfl
 obtain⟨l,ws,rfl,hl,hz,q⟩:=h
 refine⟨_,Ac (Ar (Bx PySem.F.plainAttrs_str PySem.F.slot_str_join PySem.F.type_str_join KT Ak (Aa (pv 0) Ab))),?_⟩
 exact⟨rfl,_,rfl," ",l,ws,rfl,rfl,SqL.of hl,by show (ws.map (·.length)).sum+ws.length*1≤16777216;omega,q⟩
theorem M0 (F:Fun K "room" "House.room" Jh f fd) (HX:Hy K cH) (T:HB mg):FnOk P w K mg bz A8 1 f fd ["self"] (K1 cH):=by
 refine F.ok PL (fun vs H Q E h=>?_) (fun cdv A outer s H vs Q E hr h=>?_)
 ·obtain⟨x,U,m,room,rfl,_⟩:=h
  rfl
 obtain⟨x,U,m,room,rfl,hx,hsp,q⟩:=h
 refine⟨_,Ac (Ar (AW Ch (by rfl) T.lst Dq (Aa (A6 (pv 0) rfl) Ab))),?_⟩
 exact⟨_,rfl,x,cH,_,_,_,rfl,hx,HX.cl,HX.space,Ii,U.sp,_,rfl,.inl (SqL.of hsp),fun l hl=>q l _ (Ae hl _) hl upd_same⟩
theorem MH {g:Addr} {gd:FuncData} (F:Fun K "write" "House.write" Gr f fd) (HX:Hy K cH) (GL:FnOk P w K mg bz A8 1 g gd ["words"] IG) (CL:B5 K mg "line_of" g gd ["words"]):FnOk P w K mg bz A8 2 f fd ["self","words"] (Cz cH):=by
 refine F.ok Nm (fun vs H Q E h=>?_) (fun cdv A outer s H vs Q E hr h=>?_)
 ·obtain⟨x,l,U,m,ws,ls,rfl,_⟩:=h
  rfl
 obtain⟨x,l,U,m,ws,ls,rfl,hx,hln,hls,hl,hz,q⟩:=h
 have hr1:Room 1 _:=hr.mono (by decide)
 refine⟨_,Ac (An (Bx PySem.F.plainAttrs_list PySem.F.slot_list_append PySem.F.type_list_append AZ (A6 (pv 0) rfl) (Aa (Ao GL hr1 (by rfl) CL.m CL.k CL.b .nil AH (Aa (pv 1) Ab)) Ab))),?_⟩
 exact⟨_,rfl,x,cH,_,_,_,rfl,hx,HX.cl,HX.lines,HY,.inl ⟨rfl,_,SqL.of hln⟩,_,rfl,l,ws,rfl,hl,hz,U.ln,_,_,rfl,rfl,hln,AI (by omega),q⟩
end
theorem L3 {K:PySem.W.Frag} {a acc:Addr} {xs vs:List V} {te:TE} {rest:L2.St} {D:Ends} {H:Hp} (hr:SqL K H a xs) (hacc:H acc=none) (hlen:xs.length≤900) (hb:vs.length=xs.length)
  (ht:∀(i:Nat) (x b:V),xs[i]? = some x→vs[i]? = some b→∀H2,Same H H2→∀R:V→Hp→Prop,(∀H3,Same H2 H3→R b H3)→te (some x::rest) H2 R)
  (hd:∀v0 H2,Same H H2→H2 acc=some (.lst vs)→D.nx (v0::rest) H2) (v:Option V) :
  Dx (RO K a) (FU 0) (D3 Qr (Db acc te)) D (v::rest) (upd H acc (.lst [])):=by
 refine Bc (K:=K) (a:=a) (xs:=xs) (fun i σ H2=>∃v0,σ=v0::rest∧Same H H2∧H2 acc=some (.lst (vs.take i))) ⟨v,rfl,Ae hacc _,upd_same⟩ ?_ ?_ ?_
 ·rintro i σ H2 _ ⟨v0,rfl,s2,_⟩
  exact s2.seq hr
 ·rintro i x σ H2 hx ⟨v0,rfl,s2,ha2⟩
  have hi:i<vs.length:=by
   have:=(List.getElem?_eq_some_iff.mp hx).1
   omega
  have hbi:vs[i]? = some vs[i]:=List.getElem?_eq_getElem hi
  have et:vs.take (i+1)=vs.take i++[vs[i]]:=by rw[List.take_add_one,hbi];rfl
  show Db acc te _ _ _
  refine ht i x _ hx hbi H2 s2 _ fun H3 s3=>?_
  refine⟨_,s3 _ _ ha2,AI ?_,?_⟩
  ·rw[List.length_take]
   omega
  refine⟨_,rfl,Az (s2.trans s3) hacc _,?_⟩
  rw[upd_same,et]
 ·rintro σ H2 ⟨v0,rfl,s2,ha2⟩
  rw[←hb,List.take_length] at ha2
  exact hd v0 H2 s2 ha2
def Fq (t:Tr):Str:=⟨(BM t).toArray⟩
theorem M2 {z:Str} {t:Tr} (h:C0 z=BM t):z=Fq t:=by
 unfold Fq
 rw[←h]
theorem KP (t:Tr):(Fq t).length≤4*t.size:=by
 have:=Cr t
 have e:(Fq t).length=(BM t).length:=by
  show (BM t).toArray.size=_
  rw[List.size_toArray]
 omega
def Bq (m:Nat) (ts:List Tr):Str:=Ck (Str.ofString "house"::Str.ofString (toString (m:Int))::ts.map Fq)
theorem Gc:∀{ts:List Tr},(∀t∈ts,t.size≤60)→((ts.map Fq).map (·.length)).sum≤240*ts.length
 | [],_=>Nat.le_refl _
 | t::ts,h=>by
  have h1:=KP t
  have h2:=h t List.mem_cons_self
  have h3:=Gc (ts:=ts) fun u hu=>h u (List.mem_cons_of_mem _ hu)
  rw[List.map_cons,List.map_cons,List.sum_cons,List.length_cons]
  omega
theorem Lw {m:Nat} (h:m≤5):(Str.ofString (toString (m:Int))).length≤10:=by
 match m,h with
 | 0,_=>decide
 | 1,_=>decide
 | 2,_=>decide
 | 3,_=>decide
 | 4,_=>decide
 | 5,_=>decide
theorem M3 (m:Nat):(List.replicate ((m:Int)).toNat [V.non]).flatten=List.replicate m V.non:=by
 rw[Int.toNat_natCast]
 induction m with
 | zero=>rfl
 | succ m ih=>rw[List.replicate_succ,List.flatten_cons,ih];rfl
def Hw (C cS cW:Addr):Sp:=fun vs H Q E=>∃(x dx st:Addr) (m:Nat) (xs:List V) (ts:List Tr),vs=[.ref x,.int m,.ref st]∧H x=some (.ins C dx [])∧H st=some (.lst xs)∧Pile H xs ts∧(∀t∈ts,t.ok 5∧t.size≤23)∧ts.length≤100∧1≤m∧m≤5∧
 ((∃t∈ts,¬t.ok m)→∀H',But [x] H H'→E (.ref cS) none H')∧((∀t∈ts,t.ok m)→AS m ts=[]→∀H',But [x] H H'→E (.ref cW) none H')∧
 ((∀t∈ts,t.ok m)→AS m ts≠[]→∀(U:Hk) (H':Hp),But [x] H H'→H U.sp=none→H U.mks=none→H U.tk=none→H U.ln=none→H' x=some (.ins C U.dx (DQ U m))→AV H' U.sp (AS m ts)→H' U.mks=some (.lst (List.replicate m .non))→H' U.tk=some (.dK [])→H' U.ln=some (.lst [.str (Bq m ts)])→Q .non H')
section
variable {cH cS cW cT:Addr}
theorem Qs:Aj ["self","many","standing"] ["self","many","standing"] (Ag JG):=By
theorem OO {g1 g2 m1:Addr} {d1 d2 e1:FuncData} (F:Fun K "__init__" "House.__init__" JG f fd) (HX:Hy K cH) (T:HB mg)
  (GR:FnOk P w K mg bz (Bj P w) 4 g1 d1 ["many","standing"] (Fe cS cW)) (CR:B5 K mg "room_of" g1 d1 ["many","standing"])
  (GS:FnOk P w K mg bz A8 1 g2 d2 ["sentence"] Hm) (CS:B5 K mg "shown" g2 d2 ["sentence"])
  (G1:FnOk P w K mg bz A8 2 m1 e1 ["self","words"] (Cz cH)) (C1:BA K cH "write" m1 e1 ["self","words"]):FnOk P w K mg bz (Bj P w) 5 f fd ["self","many","standing"] (Hw cH cS cW):=by
 refine Fun.okX F Qs (fun vs H Q E h=>?_) (fun cdv A outer s H vs Q E hr h=>?_)
 ·obtain⟨x,dx,st,m,xs,ts,rfl,_⟩:=h
  rfl
 obtain⟨x,dx,st,m,xs,ts,rfl,hx,hS,hP,hok,hlen,hm1,hm5,qS,qW,q⟩:=h
 have hr1:Room 1 _:=hr.mono (by decide)
 have hr2:Room 2 _:=hr.mono (by decide)
 have hpl:=hP.len
 have nsx:st≠x:=AL hS hx (by intro z;cases z)
 have kt:∀{H1:Hp},But [x] H H1→TS H H1:=fun b p xs e=>b.at e (A0 (AL e hx (by intro z;cases z)))
 refine⟨_,Ad (Bg (pv 0) (Ao GR hr (by rfl) CR.m CR.k CR.b .nil (Aq (E1:=E) fun _ _ _ h=>h) (Aa (pv 1) (Aa (pv 2) Ab))) rfl)
  (Ad (Bg (pv 0) (pv 1) rfl)
  (Ad (Bg (pv 0) (AE RR (AA (Aa Cv Ab)) (pv 1)) rfl)
  (Ad (Bg (pv 0) ME rfl)
  (Ad (Bg (pv 0) (AA Ab) rfl)
  (Ac (An (AK (pv 0) HX.cl C1.m G1 hr2 C1.b .nil AH (Aa (AE Hr (AA (Aa Ak (Aa (AW FP (by rfl) T.str boot_str (Aa (pv 1) Ab)) Ab))) (PE.nox (Cq (N:=["sentence"]) (js:=[none]) (cl:=[]) ⟨rfl,rfl,rfl,List.forall_mem_nil _,rfl,rfl,rfl⟩ (Br (pv 2)) (fun c1=>(AN (i:=0) (show (["sentence"]:List Str).Nodup by decide +kernel) rfl (Or.inl rfl))) (fun c1=>B6) (fun c1=>(Ao GS hr1 (by rfl) CS.m CS.k CS.b .nil AH (Aa (pv 0) Ab)))))) Ab)))))))),?_⟩
 refine⟨_,rfl,_,rfl,st,m,xs,ts,rfl,hS,hP,fun t ht=>⟨(hok t ht).1,by have:=(hok t ht).2;omega⟩,hm1,hm5,fun h1 H' s'=>qS h1 H' (Al s'),fun h1 h2 H' s'=>qW h1 h2 H' (Al s'),fun h1 h2 sp H2 s2 sp0 hsp=>?_⟩
 have b2:But [x] H H2:=Al s2
 have x2:=s2 _ _ hx
 have nspx:sp≠x:=(Af hx sp0).symm
 refine⟨_,rfl,x,cH,dx,_,rfl,x2,HX.cl,HX.space,(by decide),?_⟩
 obtain⟨b3,x3,c3⟩:=AU (C:=cH) (dx:=dx) (f:="space") (v:=.ref sp) (fs:=[]) (fs':=[("space",.ref sp)]) (by with_unfolding_all rfl) b2
 generalize upd H2 x _=H3 at *
 have sp3:=c3.at hsp (A0 nspx)
 refine⟨_,rfl,_,rfl,x,cH,dx,_,rfl,x3,HX.cl,HX.many,(by show 1<1000;decide),?_⟩
 obtain⟨b4,x4,c4⟩:=AU (C:=cH) (dx:=dx) (f:="many") (v:=.int m) (fs:=[("space",.ref sp)]) (fs':=[("space",.ref sp),("many",.int m)]) (by with_unfolding_all rfl) b3
 generalize upd H3 x _=H4 at *
 have sp4:=c4.at sp3 (A0 nspx)
 refine⟨LU,fun nl hnl=>?_⟩
 have s5:=Ae hnl (.lst [.non])
 have nl5:upd H4 nl (.lst [.non]) nl=some (.lst [.non]):=upd_same
 generalize upd H4 nl _=H5 at *
 refine⟨_,rfl,nl,(m:Int),_,rfl,rfl,nl5,by omega,by omega,by show 1*((m:Int)).toNat≤sizeLine;exact Nat.le_trans (by omega:1*((m:Int)).toNat≤5) (by decide),fun mk hmk=>?_⟩
 rw[M3]
 have s6:=Ae hmk (.lst (List.replicate m .non))
 have mk6:upd H5 mk (.lst (List.replicate m .non)) mk=some (.lst (List.replicate m .non)):=upd_same
 generalize upd H5 mk _=H6 at *
 have s46:=s5.trans s6
 have x6:=s46 _ _ x4
 have nmx:mk≠x:=(Af (s5 _ _ x4) hmk).symm
 have b6:But [x] H H6:=b4.trans (Al s46)
 refine⟨_,rfl,x,cH,dx,_,rfl,x6,HX.cl,HX.marks,(by show 2<1000;decide),?_⟩
 obtain⟨b7,x7,c7⟩:=AU (C:=cH) (dx:=dx) (f:="marks") (v:=.ref mk) (fs:=[("space",.ref sp),("many",.int m)]) (fs':=[("space",.ref sp),("many",.int m),("marks",.ref mk)]) (by with_unfolding_all rfl) b6
 generalize upd H6 x _=H7 at *
 have sp7:=c7.at (s46 _ _ sp4) (A0 nspx)
 have mk7:=c7.at mk6 (A0 nmx)
 refine fun tk htk=>?_
 have s8:=Ae htk (.dK [])
 have tk8:upd H7 tk (.dK []) tk=some (.dK []):=upd_same
 generalize upd H7 tk _=H8 at *
 have x8:=s8 _ _ x7
 have ntx:tk≠x:=(Af x7 htk).symm
 have b8:But [x] H H8:=b7.trans (Al s8)
 refine⟨_,rfl,x,cH,dx,_,rfl,x8,HX.cl,HX.talks,(by show 3<1000;decide),?_⟩
 obtain⟨b9,x9,c9⟩:=AU (C:=cH) (dx:=dx) (f:="talks") (v:=.ref tk) (fs:=[("space",.ref sp),("many",.int m),("marks",.ref mk)]) (fs':=[("space",.ref sp),("many",.int m),("marks",.ref mk),("talks",.ref tk)]) (by with_unfolding_all rfl) b8
 generalize upd H8 x _=H9 at *
 have sp9:=c9.at (s8 _ _ sp7) (A0 nspx)
 have mk9:=c9.at (s8 _ _ mk7) (A0 nmx)
 have tk9:=c9.at tk8 (A0 ntx)
 refine⟨MI,fun ln hln=>?_⟩
 have s10:=Ae hln (.lst [])
 have ln10:upd H9 ln (.lst []) ln=some (.lst []):=upd_same
 generalize upd H9 ln _=H10 at *
 have x10:=s10 _ _ x9
 have nlx:ln≠x:=(Af x9 hln).symm
 have b10:But [x] H H10:=b9.trans (Al s10)
 refine⟨_,rfl,x,cH,dx,_,rfl,x10,HX.cl,HX.lines,(by show 4<1000;decide),?_⟩
 obtain⟨b11,x11,c11⟩:=AU (C:=cH) (dx:=dx) (f:="lines") (v:=.ref ln) (fs:=[("space",.ref sp),("many",.int m),("marks",.ref mk),("talks",.ref tk)]) (fs':=[("space",.ref sp),("many",.int m),("marks",.ref mk),("talks",.ref tk),("lines",.ref ln)]) (by with_unfolding_all rfl) b10
 generalize upd H10 x _=H11 at *
 have sp11:=c11.at (s10 _ _ sp9) (A0 nspx)
 have mk11:=c11.at (s10 _ _ mk9) (A0 nmx)
 have tk11:=c11.at (s10 _ _ tk9) (A0 ntx)
 have ln11:=c11.at ln10 (A0 nlx)
 have st11:=b11.at hS (A0 nsx)
 obtain⟨U,hU⟩:∃U:Hk,U=⟨dx,sp,mk,tk,ln⟩:=⟨_,rfl⟩
 have x11:H11 x=some (.ins cH U.dx (DQ U m)):=by rw[hU];exact x11
 refine⟨_,rfl,x,_,_,rfl,x11,DE,?_⟩
 refine⟨_,rfl,(m:Int),rfl,by omega,by omega,IK,fun al hal=>?_⟩
 have s12:=Ae hal (.lst [.str "house",.str (toString (m:Int):String)])
 have al12:upd H11 al (.lst [.str "house",.str (toString (m:Int):String)]) al=some (.lst [.str "house",.str (toString (m:Int):String)]):=upd_same
 generalize upd H11 al _=H12 at *
 have b12:But [x] H H12:=b11.trans (Al s12)
 have hP12:=Pile.keep (kt b12) hP
 refine⟨_,rfl,st,rfl,⟨_,SqL.of (s12 _ _ st11)⟩,fun cc acc hacc=>L3 (vs:=ts.map fun t=>V.str (Fq t)) (rest:=[]) (SqL.of (s12 _ _ st11)) hacc (by omega) (by rw[List.length_map];omega) (fun i y b hy hb H13 s13 R hR=>?_) (fun v0 H13 s13 hac=>?_) none⟩
 ·obtain⟨t,ht,hat⟩:=Bt hP12 hy
  obtain⟨o1,o2⟩:=hok t (List.mem_of_getElem? ht)
  rw[List.getElem?_map,ht] at hb
  cases hb
  refine⟨_,rfl,y,t,rfl,hat.keep (TS.same s13),o1,o2,fun z H14 hz s14=>?_⟩
  rw[M2 hz]
  exact hR H14 s14
 have al13:=s13 _ _ al12
 have l2:([V.str "house",.str (toString (m:Int):String)]++ts.map fun t=>V.str (Fq t)).length≤1000:=by
  rw[List.length_append,List.length_map]
  show 2+ts.length≤1000
  omega
 refine⟨al,acc,_,_,rfl,rfl,al13,hac,B1 (by rw[List.length_append] at l2;exact l2),fun cl hcl=>?_⟩
 have s14:=Ae hcl (.lst ([V.str "house",.str (toString (m:Int):String)]++ts.map fun t=>V.str (Fq t)))
 have cl14:upd H13 cl (.lst ([V.str "house",.str (toString (m:Int):String)]++ts.map fun t=>V.str (Fq t))) cl=some (.lst ([V.str "house",.str (toString (m:Int):String)]++ts.map fun t=>V.str (Fq t))):=upd_same
 generalize upd H13 cl _=H14 at *
 have s1114:=s12.trans (s13.trans s14)
 have b14:But [x] H H14:=b11.trans (Al s1114)
 have ew:([V.str "house",.str (toString (m:Int):String)]++ts.map fun t=>V.str (Fq t))=(Str.ofString "house"::Str.ofString (toString (m:Int))::ts.map Fq).map V.str:=by
  rw[List.map_cons,List.map_cons,List.map_map]
  rfl
 rw[ew] at cl14
 have hsum:=Gc (ts:=ts) fun t ht=>Nat.le_trans (hok t ht).2 (by decide)
 have hdig:=Lw hm5
 have eU:U.ln=ln:=by rw[hU]
 refine⟨x,cl,U,m,_,[],rfl,s1114 _ _ x11,by rw[eU];exact s1114 _ _ ln11,by decide,cl14,?_,?_⟩
 ·rw[List.map_cons,List.map_cons,List.sum_cons,List.sum_cons,List.length_cons,List.length_cons,List.length_map]
  have e5:(Str.ofString "house").length=5:=rfl
  show (Str.ofString "house").length+((Str.ofString (toString (m:Int))).length+((ts.map Fq).map (·.length)).sum)+(ts.length+1+1)≤100000
  omega
 have back:∀{H1:Hp} {c:Addr},But [x] H H1→c≠x→H1 c=none→H c=none:=fun {H1 c} b n e=>by
  cases e0:H c with
  | none=>rfl
  | some o=>rw[b.at e0 (A0 n)] at e;cases e
 have mk0:H mk=none:=back (b4.trans (Al s5)) nmx hmk
 have tk0:H tk=none:=back b7 ntx htk
 have ln0:H ln=none:=back b9 nlx hln
 have nls:sp≠ln:=Af sp9 hln
 have nlm:mk≠ln:=Af mk9 hln
 have nlt:tk≠ln:=Af tk9 hln
 have bq:But [x] H (upd H14 U.ln (.lst ([]++[.str (Bq m ts)]))):=fun b o e=>by
  obtain⟨e1,e2⟩:=A4 e
  rw[eU]
  exact A5 (by rw[Ah (fun z=>by rw[z,ln0] at e1;cases e1)];exact b14.at e1 e2) e2
 refine q h1 h2 U _ bq (by rw[hU];exact sp0) (by rw[hU];exact mk0) (by rw[hU];exact tk0) (by rw[hU];exact ln0) ?_ ?_ ?_ ?_ upd_same
 ·rw[Ah (by rw[eU];exact nlx.symm)]
  exact s1114 _ _ x11
 ·rw[hU]
  show upd H14 ln _ sp=_
  rw[Ah nls]
  exact s1114 _ _ sp11
 ·rw[hU]
  show upd H14 ln _ mk=_
  rw[Ah nlm]
  exact s1114 _ _ mk11
 ·rw[hU]
  show upd H14 ln _ tk=_
  rw[Ah nlt]
  exact s1114 _ _ tk11
end
structure HouseAt (N:List Addr) (C:Addr) (H:Hp) (x:Addr) (U:Hk) (m:Nat) (room:List Int) (marks:List (Option Bool)) (ls:List V):Prop where
 ob:H x=some (.ins C U.dx (DQ U m))
 ln:H U.ln=some (.lst ls)
 mx:x∈N
 ml:U.ln∈N
 sp:AV (BC N H) U.sp room
 mkm:BC N H U.mks=some (.lst (marks.map Uz))
 len:marks.length=m
 m1:1≤m
 m5:m≤5
 wr:Wr room
 ne:room.filter (Tx marks)≠[]
 l9:ls.length≤900
section
variable {N:List Addr} {C:Addr} {H H':Hp} {x:Addr} {U:Hk} {m:Nat} {room:List Int} {marks:List (Option Bool)} {ls:List V}
theorem HouseAt.keep (s:Same H H') (h:HouseAt N C H x U m room marks ls):HouseAt N C H' x U m room marks ls:=
 ⟨s _ _ h.ob,s _ _ h.ln,h.mx,h.ml,Al s _ _ h.sp,Al s _ _ h.mkm,h.len,h.m1,h.m5,h.wr,h.ne,h.l9⟩
theorem HouseAt.sp' (h:HouseAt N C H x U m room marks ls):AV H U.sp room:=Co _ _ h.sp
theorem HouseAt.mk' (h:HouseAt N C H x U m room marks ls):H U.mks=some (.lst (marks.map Uz)):=Co _ _ h.mkm
theorem HouseAt.xl (h:HouseAt N C H x U m room marks ls):x≠U.ln:=AL h.ob h.ln (by intro z;cases z)
end
theorem Hd {U:Hk} {m:Nat}:(DQ U m).lookup ("many":Str)=some (.int m):=by with_unfolding_all rfl
theorem M9 {U:Hk} {m:Nat}:(DQ U m).lookup ("marks":Str)=some (.ref U.mks):=by with_unfolding_all rfl
structure Tw where
 nm:Str
 a:Addr
 u:Tk
 w:Ta
structure HL where
 x:Addr
 U:Hk
 m:Nat
 room:List Int
 marks:List (Option Bool)
 ls:List V
 ts:List Tw
def EA (ts:List Tw):List (Str×V):=ts.map fun p=>(p.nm,.ref p.a)
def IN (ts:List Tw):List Addr:=ts.flatMap fun p=>[p.u.gv,p.u.lf]
def Dl (ts:List Tw):List Str:=ts.map (·.nm)
theorem BS {ts:List Tw} {p:Tw} (h:p∈ts):p.u.gv∈IN ts∧p.u.lf∈IN ts:=
 ⟨List.mem_flatMap.mpr ⟨p,h,by simp⟩,List.mem_flatMap.mpr ⟨p,h,by simp⟩⟩
theorem JI:∀{ts:List Tw} {k:Str},k∈Dl ts→∃p∈ts,p.nm=k∧Bz (EA ts) k=some (.ref p.a)
 | [],_,h=>nomatch h
 | p::ts,k,h=>by
  by_cases e:p.nm=k
  ·exact⟨p,List.mem_cons_self,e,by simp[Bz,EA,e]⟩
  ·obtain⟨q,hq,e1,e2⟩:=JI (ts:=ts) (k:=k) (by
    rcases List.mem_cons.mp h with z | z
    ·exact absurd z.symm e
    ·exact z)
   refine⟨q,List.mem_cons_of_mem _ hq,e1,?_⟩
   have:Bz (EA (p::ts)) k=Bz (EA ts) k:=by simp[Bz,EA,List.find?_cons,e]
   rw[this];exact e2
theorem Hl:∀{ts:List Tw} {k:Str},k∉Dl ts→Bz (EA ts) k=none
 | [],_,_=>rfl
 | p::ts,k,h=>by
  have e:¬p.nm=k:=fun z=>h (by rw[←z];exact List.mem_cons_self)
  have:Bz (EA (p::ts)) k=Bz (EA ts) k:=by simp[Bz,EA,List.find?_cons,e]
  rw[this]
  exact Hl fun z=>h (List.mem_cons_of_mem _ z)
theorem KJ (ts:List Tw) (k:Str):(Bz (EA ts) k).isSome=decide (k∈Dl ts):=by
 by_cases h:k∈Dl ts
 ·obtain⟨p,_,_,e⟩:=JI h
  rw[e,decide_eq_true h];rfl
 ·rw[Hl h,decide_eq_false h];rfl
structure HouseT (M:List Addr) (C cK:Addr) (H:Hp) (S:HL):Prop where
 h:HouseAt M C H S.x S.U S.m S.room S.marks S.ls
 tk:H S.U.tk=some (.dK (dS (EA S.ts)))
 mt:S.U.tk∈M
 tt:∀p∈S.ts,TalkAt M cK H p.a p.u p.w∧p.w.room=S.room∧p.w.many=S.m
 nl:(S.U.ln::IN S.ts).Nodup
 na:(Dl S.ts).Nodup
 aa:(S.ts.map (·.a)).Nodup
 fr:∀b∈M,H b≠none
 tl:S.ts.length≤900
section
variable {M N:List Addr} {C cK:Addr} {H H':Hp} {S:HL} {x:Addr} {U:Hk} {m:Nat} {room:List Int} {marks:List (Option Bool)} {ls:List V}
theorem Nj (s:Same H H') (hn:∀n∈N,H n=none):Same (BC M H) (BC (N++M) H'):=fun p u e=>by
 obtain⟨e1,e2⟩:=A4 e
 refine A5 (s _ _ e1) fun z=>?_
 rcases List.mem_append.mp z with q | q
 ·rw[hn p q] at e1;cases e1
 ·exact e2 q
theorem HouseAt.more (h:HouseAt M C H x U m room marks ls) (s:Same H H') (hn:∀n∈N,H n=none):HouseAt (N++M) C H' x U m room marks ls:=by
 have k:=Nj (M:=M) s hn
 exact⟨s _ _ h.ob,s _ _ h.ln,List.mem_append_right _ h.mx,List.mem_append_right _ h.ml,k _ _ h.sp,k _ _ h.mkm,h.len,h.m1,h.m5,h.wr,h.ne,h.l9⟩
theorem HouseT.keep (s:Same H H') (h:HouseT M C cK H S):HouseT M C cK H' S:=
 ⟨h.h.keep s,s _ _ h.tk,h.mt,fun p hp=>⟨(h.tt p hp).1.keep s,(h.tt p hp).2⟩,h.nl,h.na,h.aa,fun b hb z=>h.fr b hb (s.free z),h.tl⟩
theorem HouseT.wrote (h:HouseT M C cK H S) (l:V) (hl:S.ls.length<900):HouseT M C cK (upd H S.U.ln (.lst (S.ls++[l]))) { S with ls:=S.ls++[l] }:=by
 have hx:=h.h
 have eu:BC M (upd H S.U.ln (.lst (S.ls++[l])))=BC M H:=Du hx.ml
 refine⟨⟨by rw[Ah hx.xl];exact hx.ob,upd_same,hx.mx,hx.ml,by rw[eu];exact hx.sp,by rw[eu];exact hx.mkm,hx.len,hx.m1,hx.m5,hx.wr,hx.ne,by show (S.ls++[l]).length≤900;rw[List.length_append];exact hl⟩,?_,h.mt,fun p hp=>⟨?_,(h.tt p hp).2⟩,h.nl,h.na,h.aa,fun b hb=>?_,h.tl⟩
 ·exact (Ah (AL h.tk hx.ln (by intro z;cases z))).trans h.tk
 ·have ht:=(h.tt p hp).1
  have nl:=(List.nodup_cons.mp h.nl).1
  have n1:p.u.gv≠S.U.ln:=fun z=>nl (by rw[←z];exact (BS hp).1)
  have n2:p.u.lf≠S.U.ln:=fun z=>nl (by rw[←z];exact (BS hp).2)
  exact ht.but (But.upd hx.ml) (Ah (AL ht.ob hx.ln (by intro z;cases z))) (Ah n1) (Ah n2)
 ·by_cases e:b=S.U.ln
  ·rw[e,upd_same];exact fun z=>by cases z
  ·rw[Ah e];exact h.fr b hb
theorem HouseT.put {d0:List (DT×V)} {ts:List Tw} (h:HouseAt M C H S.x S.U S.m S.room S.marks S.ls) (e:H S.U.tk=some (.dK d0)) (mt:S.U.tk∈M) (tt:∀p∈ts,TalkAt M cK H p.a p.u p.w∧p.w.room=S.room∧p.w.many=S.m)
  (nl:(S.U.ln::IN ts).Nodup) (na:(Dl ts).Nodup) (aa:(ts.map (·.a)).Nodup) (fr:∀b∈M,H b≠none) (tl:ts.length≤900):HouseT M C cK (upd H S.U.tk (.dK (dS (EA ts)))) { S with ts:=ts }:=by
 have eu:BC M (upd H S.U.tk (.dK (dS (EA ts))))=BC M H:=Du mt
 refine⟨⟨(Ah (AL h.ob e (by intro z;cases z))).trans h.ob,(Ah (AL h.ln e (by intro z;cases z))).trans h.ln,h.mx,h.ml,by rw[eu];exact h.sp,by rw[eu];exact h.mkm,h.len,h.m1,h.m5,h.wr,h.ne,h.l9⟩,upd_same,mt,fun p hp=>⟨?_,(tt p hp).2⟩,nl,na,aa,fun b hb=>?_,tl⟩
 ·have ht:=(tt p hp).1
  exact ht.but (But.upd mt) (Ah (AL ht.ob e (by intro z;cases z))) (Ah (AL ht.gv e (by intro z;cases z))) (Ah (AL ht.lf e (by intro z;cases z)))
 ·by_cases c:b=S.U.tk
  ·rw[c,upd_same];exact fun z=>by cases z
  ·rw[Ah c];exact fr b hb
theorem HouseT.more {n:Str} {a:Addr} {u:Tk} {w:Ta} (h:HouseT M C cK H S) (s:Same H H') (a0:H a=none) (g0:H u.gv=none) (l0:H u.lf=none) (ht:TalkAt (a::u.gv::u.lf::M) cK H' a u w) (hr:w.room=S.room) (hm:w.many=S.m) (hn:n∉Dl S.ts) (hl:S.ts.length<900) :
  HouseT (a::u.gv::u.lf::M) C cK (upd H' S.U.tk (.dK (dS (EA (S.ts++[⟨n,a,u,w⟩]))))) { S with ts:=S.ts++[⟨n,a,u,w⟩] }:=by
 have hN:∀b∈[a,u.gv,u.lf],H b=none:=fun b hb=>by
  simp only[List.mem_cons,List.not_mem_nil,or_false] at hb
  rcases hb with rfl | rfl | rfl
  ·exact a0
  ·exact g0
  ·exact l0
 have old:∀p∈S.ts,H p.u.gv≠none∧H p.u.lf≠none∧H p.a≠none:=fun p hp=>by
  have t:=(h.tt p hp).1
  refine⟨?_,?_,?_⟩<;>intro z
  ·rw[t.gv] at z;cases z
  ·rw[t.lf] at z;cases z
  ·rw[t.ob] at z;cases z
 refine HouseT.put (S:=S) (h.h.more (N:=[a,u.gv,u.lf]) s hN) (s _ _ h.tk) (List.mem_append_right [a,u.gv,u.lf] h.mt) (fun p hp=>?_) ?_ ?_ ?_ (fun b hb=>?_) ?_
 ·rcases List.mem_append.mp hp with q | q
  ·exact⟨(h.tt p q).1.cutmore (N:=[a,u.gv,u.lf]) s hN,(h.tt p q).2⟩
  ·rw[List.mem_singleton.mp q];exact⟨ht,hr,hm⟩
 ·have e:S.U.ln::IN (S.ts++[⟨n,a,u,w⟩])=(S.U.ln::IN S.ts)++[u.gv,u.lf]:=by
   unfold IN
   rw[List.flatMap_append];rfl
  rw[e]
  have hin:∀b∈S.U.ln::IN S.ts,H b≠none:=fun b hb z=>by
   rcases List.mem_cons.mp hb with q | q
   ·rw[q,h.h.ln] at z;cases z
   ·obtain⟨p,hp,q2⟩:=List.mem_flatMap.mp q
    simp only[List.mem_cons,List.not_mem_nil,or_false] at q2
    rcases q2 with rfl | rfl
    ·exact (old p hp).1 z
    ·exact (old p hp).2.1 z
  refine List.nodup_append.mpr ⟨h.nl,?_,fun b hb c hc=>?_⟩
  ·exact List.nodup_cons.mpr ⟨fun z=>ht.ne (List.mem_singleton.mp z),List.nodup_cons.mpr ⟨(fun z=>by cases z),List.nodup_nil⟩⟩
  ·rintro rfl
   simp only[List.mem_cons,List.not_mem_nil,or_false] at hc
   rcases hc with rfl | rfl
   ·exact hin _ hb g0
   ·exact hin _ hb l0
 ·show ((S.ts++[(⟨n,a,u,w⟩:Tw)]).map Tw.nm).Nodup
  rw[List.map_append]
  refine List.nodup_append.mpr ⟨h.na,List.nodup_cons.mpr ⟨(fun z=>by cases z),List.nodup_nil⟩,fun b hb c hc=>?_⟩
  rintro rfl
  rw[List.mem_singleton.mp hc] at hb
  exact hn hb
 ·rw[List.map_append]
  refine List.nodup_append.mpr ⟨h.aa,List.nodup_cons.mpr ⟨(fun z=>by cases z),List.nodup_nil⟩,fun b hb c hc=>?_⟩
  rintro rfl
  rw[List.mem_singleton.mp hc] at hb
  obtain⟨p,hp,e⟩:=List.mem_map.mp hb
  exact (old p hp).2.2 (by rw[e];exact a0)
 ·intro z
  simp only[List.mem_cons] at hb
  rcases hb with rfl | rfl | rfl | hb
  ·rw[ht.ob] at z;cases z
  ·rw[ht.gv] at z;cases z
  ·rw[ht.lf] at z;cases z
  ·exact h.fr b hb (s.free z)
 ·rw[List.length_append];exact hl
end
theorem Dv {U:Hk} {m:Nat}:(DQ U m).lookup ("talks":Str)=some (.ref U.tk):=by with_unfolding_all rfl
abbrev D9:Stmt:=AJ (top 68) 27
abbrev EZ:Stmt:=AJ (top 68) 26
abbrev Fk:Stmt:=AJ (top 68) 25
theorem IT {U:Hk} {m:Nat}:(DQ U m).lookup ("refuse_new_name":Str)=none:=by with_unfolding_all rfl
theorem LX {U:Hk} {m:Nat}:(DQ U m).lookup ("refuse_no_talk":Str)=none:=by with_unfolding_all rfl
theorem D2 {U:Hk} {m:Nat}:(DQ U m).lookup ("talk_of":Str)=none:=by with_unfolding_all rfl
theorem E9 {U:Hk} {m:Nat}:(DQ U m).lookup ("begin":Str)=none:=by with_unfolding_all rfl
def B1 (c:Nat):Bool:=decide (97≤c∧c≤122)
def goodN (k:Str):Prop:=1≤k.length∧k.length≤8∧k.cps.toList.all B1=true
instance (k:Str):Decidable (goodN k):=by unfold goodN;infer_instance
theorem Sy:∀c:Nat,c<128→(!(Builtin.Str.occurrences ("abcdefghijklmnopqrstuvwxyz":Str) (⟨#[c]⟩:Str) 0 ("abcdefghijklmnopqrstuvwxyz":Str).length 1).isEmpty)=B1 c:=by decide +kernel
theorem JW {acc:Addr} {z:Str} {f:Nat→Bool} {te:TE} {rest:L2.St} {D:Ends} {H:Hp} (hacc:H acc=none) (hlen:z.length≤900)
  (ht:∀c,c∈z.cps.toList→∀H2,Same H H2→∀R:V→Hp→Prop,(∀H3,Same H2 H3→R (.bl (f c)) H3)→te (some (.str ⟨#[c]⟩)::rest) H2 R)
  (hd:∀v0 H2,Same H H2→H2 acc=some (.lst ((z.cps.toList.map f).map V.bl))→D.nx (v0::rest) H2) (v:Option V) :
  Dx (Th z) (FU 0) (D3 Qr (Db acc te)) D (v::rest) (upd H acc (.lst [])):=by
 refine Ps (z:=z) (fun i σ H2=>∃v0,σ=v0::rest∧Same H H2∧H2 acc=some (.lst (((z.cps.toList.take i).map f).map V.bl))) ⟨v,rfl,Ae hacc _,upd_same⟩ ?_ ?_
 ·rintro i c σ H2 hx ⟨v0,rfl,s2,ha2⟩
  have hc:z.cps.toList[i]? = some c:=by simpa using hx
  have hi:i<z.cps.toList.length:=(List.getElem?_eq_some_iff.mp hc).1
  have hlz:z.cps.toList.length=z.length:=by simp[Str.length]
  show Db acc te _ _ _
  refine ht c (List.mem_of_getElem? hc) H2 s2 _ fun H3 s3=>?_
  refine⟨_,s3 _ _ ha2,AI ?_,?_⟩
  ·rw[List.length_map,List.length_map,List.length_take]
   omega
  refine⟨_,rfl,Az (s2.trans s3) hacc _,?_⟩
  rw[upd_same,List.take_add_one,hc,List.map_append,List.map_append]
  rfl
 ·rintro σ H2 ⟨v0,rfl,s2,ha2⟩
  have hlz:z.length=z.cps.toList.length:=by simp[Str.length]
  rw[hlz,List.take_length] at ha2
  exact hd v0 H2 s2 ha2
def EI (C cK cBN cNT:Addr):Sp:=fun vs H Q E=>∃(M:List Addr) (S:HL) (k:Str),vs=[.ref S.x,.str k]∧HouseT M C cK H S∧k.length≤100∧(∀c∈k.cps.toList,c<128)∧(¬goodN k→∀H',Same H H'→E (.ref cBN) none H')∧(goodN k→k∈Dl S.ts→∀H',Same H H'→E (.ref cNT) none H')∧(goodN k→k∉Dl S.ts→∀H',Same H H'→Q .non H')
def FD (C cK cNK:Addr):Sp:=fun vs H Q E=>∃(M:List Addr) (S:HL) (k:Str),vs=[.ref S.x,.str k]∧HouseT M C cK H S∧(k∉Dl S.ts→E (.ref cNK) none H)∧(k∈Dl S.ts→Q .non H)
def CT (C cK cNK:Addr):Sp:=fun vs H Q E=>∃(M:List Addr) (S:HL) (k:Str),vs=[.ref S.x,.str k]∧HouseT M C cK H S∧(k∉Dl S.ts→E (.ref cNK) none H)∧(∀p∈S.ts,p.nm=k→Q (.ref p.a) H)
section
variable {cH cK cS cW cL cT cBN cNT cNK:Addr}
theorem Kg:Aj ["self","name"] ["self","name"] (Ag D9):=By
theorem MA:Aj ["self","name"] ["self","name"] (Ag EZ):=By
theorem LC:Aj ["self","name"] ["self","name"] (Ag Fk):=By
theorem Ja (F:Fun K "refuse_no_talk" "House.refuse_no_talk" EZ f fd) (HX:Hy K cH) (XNK:Be K mg "NoTalk" cNK cT):FnOk P w K mg bz (Bj P w) 2 f fd ["self","name"] (FD cH cK cNK):=by
 refine Fun.okX F MA (fun vs H Q E h=>?_) (fun cdv A outer s H vs Q E hr h=>?_)
 ·obtain⟨M,S,k,rfl,_⟩:=h
  rfl
 obtain⟨M,S,k,rfl,hT,qE,q⟩:=h
 refine⟨_,Ac (Aw (Am LM (pv 1) (A6 (pv 0) rfl) (by with_unfolding_all rfl))
   (Ac (AY (Ex:=E) AM rfl XNK.cls XNK.at_ XNK.ty (by rfl) XNK.m (Aa Ak Ab) (hvl:=fun _ _ _ h=>⟨by decide,h⟩)))
   Au),?_⟩
 refine⟨_,rfl,_,rfl,S.x,cH,_,_,_,rfl,hT.h.ob,HX.cl,HX.talks,Dv,S.U.tk,_,k,rfl,rfl,hT.tk,_,rfl,?_⟩
 rw[KJ]
 by_cases c:k∈Dl S.ts
 ·rw[decide_eq_true c]
  exact Bu (q c)
 ·rw[decide_eq_false c]
  exact BH (qE c)
theorem JY {m1:Addr} {e1:FuncData} (F:Fun K "talk_of" "House.talk_of" Fk f fd) (HX:Hy K cH) (G1:FnOk P w K mg bz (Bj P w) 2 m1 e1 ["self","name"] (FD cH cK cNK)) (C1:BA K cH "refuse_no_talk" m1 e1 ["self","name"]):FnOk P w K mg bz (Bj P w) 3 f fd ["self","name"] (CT cH cK cNK):=by
 refine Fun.okX F LC (fun vs H Q E h=>?_) (fun cdv A outer s H vs Q E hr h=>?_)
 ·obtain⟨M,S,k,rfl,_⟩:=h
  rfl
 obtain⟨M,S,k,rfl,hT,qE,q⟩:=h
 refine⟨_,Ad (An (AK (pv 0) HX.cl C1.m G1 hr C1.b .nil (Aq (E1:=E) fun _ _ _ h=>h) (Aa (pv 1) Ab)))
  (Ac (Ar (AQ Qu (A6 (pv 0) rfl) (pv 1) (fun _ _=>rfl)))),?_⟩
 refine⟨_,rfl,S.x,_,_,rfl,hT.h.ob,LX,_,rfl,M,S,k,rfl,hT,fun c=>qE c,fun c=>?_⟩
 obtain⟨p,hp,e1,e2⟩:=JI c
 exact⟨_,rfl,S.x,cH,_,_,_,rfl,hT.h.ob,HX.cl,HX.talks,Dv,_,rfl,S.U.tk,_,k,_,rfl,rfl,hT.tk,e2,q p hp e1⟩
theorem Ij (F:Fun K "refuse_new_name" "House.refuse_new_name" D9 f fd) (HX:Hy K cH) (T:HB mg) (B:Bl mg) (XBN:Be K mg "BadName" cBN cT) (XNT:Be K mg "NameTaken" cNT cT) {tN tI:Tok} (mNS:mg "NAME_SIGNS"=some (.str "abcdefghijklmnopqrstuvwxyz" tN)) (mLN:mg "LONGEST_NAME"=some (.int 8 tI)):FnOk P w K mg bz (Bj P w) 2 f fd ["self","name"] (EI cH cK cBN cNT):=by
 refine Fun.okX F Kg (fun vs H Q E h=>?_) (fun cdv A outer s H vs Q E hr h=>?_)
 ·obtain⟨M,S,k,rfl,_⟩:=h
  rfl
 obtain⟨M,S,k,rfl,hT,hk1,h128,qB,qN,q⟩:=h
 refine⟨_,Ad (Aw (PW.pt (Nk (Cy (M4 QR QR Ai (Ax Dn (by rfl) B.len PySem.boot_len (Aa (pv 1) Ab)) (AB (v:=.int 8) (by rfl) mLN ⟨_,rfl⟩))) (J0 (Cy (DI (Ax (LG rfl) (by rfl) T.all boot_all (Aa (PE.nox (Cq (N:=["sign"]) (js:=[none]) (cl:=[]) ⟨rfl,rfl,rfl,List.forall_mem_nil _,rfl,rfl,rfl⟩ (Ri (pv 1)) (fun c1=>(AN (i:=0) (show (["sign"]:List Str).Nodup by decide +kernel) rfl (Or.inl rfl))) (fun c1=>B6) (fun c1=>(BQ FW (pv 0) (AB (v:=.str "abcdefghijklmnopqrstuvwxyz") (by rfl) mNS ⟨_,rfl⟩) (by with_unfolding_all rfl))))) Ab)))))))
   (Ac (AY (Ex:=E) AM rfl XBN.cls XBN.at_ XBN.ty (by rfl) XBN.m (Aa Ak Ab) (hvl:=fun _ _ _ h=>⟨by decide,h⟩)))
   Au)
  (Ac (Aw (Am RK (pv 1) (A6 (pv 0) rfl) (by with_unfolding_all rfl))
   (Ac (AY (Ex:=E) AM rfl XNT.cls XNT.at_ XNT.ty (by rfl) XNT.m (Aa Ak Ab) (hvl:=fun _ _ _ h=>⟨by decide,h⟩)))
   Au)),?_⟩
 have hlen:k.length≤sizeLine:=Nat.le_trans hk1 (by decide)
 have nogood:¬(1≤k.length∧k.length≤8)→¬goodN k:=fun h g=>h ⟨g.1,g.2.1⟩
 refine⟨_,rfl,k,rfl,hlen,_,_,rfl,rfl,_,rfl,CZ (fun c1=>?_) (fun c1=>?_)⟩
 ·refine⟨_,_,rfl,rfl,_,rfl,CZ (fun c2=>?_) (fun c2=>?_)⟩
  ·exact qB (nogood fun z=>by simp at c2;omega) H (Same.refl _)
  ·have hin:1≤k.length∧k.length≤8:=by simp at c1 c2;omega
   refine⟨_,rfl,k,rfl,fun cc acc hacc=>JW (f:=B1) hacc (Nat.le_trans hk1 (by decide)) (fun c hc H2 s2 R hR=>?_) (fun v0 H2 s2 ha=>?_) _⟩
   ·refine⟨_,rfl,_,_,rfl,rfl,?_⟩
    rw[Sy c (h128 c hc)]
    exact hR H2 (Same.refl _)
   refine⟨acc,_,rfl,SqL.of ha,_,rfl,CZ (fun c3=>?_) (fun c3=>?_)⟩
   ·exact qB (fun g=>by
     have:=g.2.2
     rw[List.all_map] at c3
     simp at c3 this
     obtain⟨c,hc,hc2⟩:=c3
     rw[this c hc] at hc2
     cases hc2) H2 s2
   have hg:goodN k:=⟨hin.1,hin.2,by
    rw[List.all_map] at c3
    simp at c3
    simpa using c3⟩
   have hT2:=hT.keep s2
   refine⟨_,rfl,_,rfl,S.x,cH,_,_,_,rfl,hT2.h.ob,HX.cl,HX.talks,Dv,S.U.tk,_,k,rfl,rfl,hT2.tk,_,rfl,?_⟩
   rw[KJ]
   by_cases c:k∈Dl S.ts
   ·rw[decide_eq_true c]
    exact BH (qN hg c H2 s2)
   ·rw[decide_eq_false c]
    exact Bu (q hg c H2 s2)
 ·exact⟨_,rfl,BH (qB (nogood fun z=>by simp at c1;omega) H (Same.refl _))⟩
end
abbrev Gq:Stmt:=AJ (top 68) 6
def QW (S:HL) (p:Tw) (l:Str):HL:={ S with ts:=S.ts++[p],ls:=S.ls++[.str l] }
def Fl (C cK cBN cNT cS cB cN:Addr):Sp:=fun vs H Q E=>∃(M:List Addr) (S:HL) (n kind rule:Str) (v:V) (t:Tr),vs=[.ref S.x,.str n,.str kind,v,.str rule]∧HouseT M C cK H S∧n.length≤100∧(∀c∈n.cps.toList,c<128)∧t.At (BC M H) v∧t.ok 5∧t.size≤23∧kind.length≤100∧rule.length≤100∧S.ls.length<900∧S.ts.length<900∧
 (¬goodN n→∀H',Same H H'→E (.ref cBN) none H')∧(goodN n→n∈Dl S.ts→∀H',Same H H'→E (.ref cNT) none H')∧
 (goodN n→n∉Dl S.ts→¬t.ok S.m→∀H',Same H H'→E (.ref cS) none H')∧(goodN n→n∉Dl S.ts→t.ok S.m→¬(BL rule∧AX kind)→∀H',Same H H'→E (.ref cB) none H')∧
 (goodN n→n∉Dl S.ts→t.ok S.m→BL rule→AX kind→[]∈AC kind t S.room→∀H',Same H H'→E (.ref cN) none H')∧
 (goodN n→n∉Dl S.ts→t.ok S.m→BL rule→AX kind→[]∉AC kind t S.room→∀(a:Addr) (u:Tk) (H':Hp),But [S.U.tk,S.U.ln] H H'→H a=none→H u.gv=none→H u.lf=none→
  HouseT (a::u.gv::u.lf::M) C cK H' (QW S ⟨n,a,u,Ds S.m kind rule t S.room⟩ (Ck ["begin",n,rule,kind,Fq t]))→Q .non H')
section
variable {cH cK cS cB cN cT cBN cNT cNK:Addr}
theorem OC:Aj ["self","name","kind","sentence","rule"] ["self","name","kind","sentence","rule"] (Ag Gq):=By
theorem Mr {m1 m2 fI gS:Addr} {e1 e2 dI dSh:FuncData} (F:Fun K "begin" "House.begin" Gq f fd) (HX:Hy K cH)
  (G1:FnOk P w K mg bz (Bj P w) 2 m1 e1 ["self","name"] (EI cH cK cBN cNT)) (C1:BA K cH "refuse_new_name" m1 e1 ["self","name"])
  (GI:FnOk P w K mg bz (Bj P w) 5 fI dI ["self","many","room","kind","sentence","rule"] (KS cK cS cB cN)) (CI:QE K mg cK "Talk" fI dI ["self","many","room","kind","sentence","rule"])
  (GS:FnOk P w K mg bz A8 1 gS dSh ["sentence"] Hm) (CS:B5 K mg "shown" gS dSh ["sentence"])
  (G2:FnOk P w K mg bz A8 2 m2 e2 ["self","words"] (Cz cH)) (C2:BA K cH "write" m2 e2 ["self","words"]):FnOk P w K mg bz (Bj P w) 7 f fd ["self","name","kind","sentence","rule"] (Fl cH cK cBN cNT cS cB cN):=by
 refine Fun.okX F OC (fun vs H Q E h=>?_) (fun cdv A outer s H vs Q E hr h=>?_)
 ·obtain⟨M,S,n,kind,rule,v,t,rfl,_⟩:=h
  rfl
 obtain⟨M,S,n,kind,rule,v,t,rfl,hT,hn1,h128,ha,ok5,hsz,hk1,hr1',hl9,ht9,qB,qN,qS,qW,qG,q⟩:=h
 have hr1:Room 1 _:=hr.mono (by decide)
 have hr2:Room 2 _:=hr.mono (by decide)
 refine⟨_,Ad (An (AK (pv 0) HX.cl C1.m G1 hr2 C1.b .nil (Aq (E1:=E) fun _ _ _ h=>h) (Aa (pv 1) Ab)))
  (Ad (Nt (Hs CI.make GI hr (by rfl) CI.m CI.b .nil (Aq (E1:=E) fun _ _ _ h=>h) (Aa (A6 (pv 0) rfl) (Aa (A6 (pv 0) rfl) (Aa (pv 2) (Aa (pv 3) (Aa (pv 4) Ab)))))) (OK (A6 (pv 0) rfl) (pv 1) O2))
  (Ac (An (AK (pv 0) HX.cl C2.m G2 hr2 C2.b .nil AH (Aa (AA (Aa Ak (Aa (pv 1) (Aa (pv 4) (Aa (pv 2) (Aa (Ao GS hr1 (by rfl) CS.m CS.k CS.b .nil AH (Aa (pv 3) Ab)) Ab)))))) Ab))))),?_⟩
 refine⟨_,rfl,S.x,_,_,rfl,hT.h.ob,IT,_,rfl,M,S,n,rfl,hT,hn1,h128,fun c=>qB c,fun c c2=>qN c c2,fun hg hnn H1 s1=>?_⟩
 have hT1:=hT.keep s1
 have ha1:=ha.keep (TS.same (Al s1))
 refine⟨_,rfl,S.x,cH,_,_,_,rfl,hT1.h.ob,HX.cl,HX.many,Hd,_,rfl,S.x,cH,_,_,_,rfl,hT1.h.ob,HX.cl,HX.space,Ii,_,rfl,_,rfl,_,rfl,fun x dx hx hdx nex=>?_⟩
 have sM:Same H1 (upd (upd H1 dx (.own x)) x (.ins cK dx [])):=(Ae hdx _).trans (Ae (by rw[Ah nex.symm];exact hx) _)
 have xM:x∉M:=fun z=>hT1.fr x z hx
 refine⟨x,dx,S.U.sp,S.m,kind,rule,v,t,S.room,M,rfl,upd_same,xM,fun m hm z=>hT1.fr m hm (sM.free z),ha1.keep (TS.same (Al sM)),ok5,hsz,hT.h.m5,sM _ _ hT1.h.sp',hT.h.wr,
  fun c H' b=>qS hg hnn c H' (s1.trans (BG hx hdx nex b)),fun c c2 H' b=>qW hg hnn c c2 H' (s1.trans (BG hx hdx nex b)),fun c c2 c3 c4 H' b=>qG hg hnn c c2 c3 c4 H' (s1.trans (BG hx hdx nex b)),fun c c2 c3 c4 u H2 b2 gv0 lf0 sp0 esv ht=>⟨rfl,?_⟩⟩
 have s2:Same H1 H2:=BG hx hdx nex b2
 obtain⟨gv1,_,_⟩:=BF (C:=cK) gv0
 obtain⟨lf1,_,_⟩:=BF (C:=cK) lf0
 have hT2:=hT1.keep s2
 refine⟨_,rfl,S.x,cH,_,_,_,rfl,hT2.h.ob,HX.cl,HX.talks,Dv,_,rfl,S.U.tk,_,n,rfl,rfl,hT2.tk,Hl hnn,(by show (S.ts.map _).length≤1000;rw[List.length_map];omega),?_⟩
 have ed:EA S.ts++[(n,V.ref x)]=EA (S.ts++[⟨n,x,u,Ds S.m kind rule t S.room⟩]):=by unfold EA;rw[List.map_append];rfl
 rw[ed]
 have hT3:=hT1.more (n:=n) s2 hx gv1 lf1 ht rfl rfl hnn ht9
 have b3:But [S.U.tk,S.U.ln] H (upd H2 S.U.tk (.dK (dS (EA (S.ts++[⟨n,x,u,Ds S.m kind rule t S.room⟩]))))):=(Al (s1.trans s2)).trans (But.upd (by simp))
 have ha3:t.At (upd H2 S.U.tk (.dK (dS (EA (S.ts++[⟨n,x,u,Ds S.m kind rule t S.room⟩]))))) v:=by
  have k:Same (BC M H) (BC M (upd H2 S.U.tk (.dK (dS (EA (S.ts++[⟨n,x,u,Ds S.m kind rule t S.room⟩])))))):=(Al (s1.trans s2)).trans (But.upd hT.mt)
  exact ha.keep (TS.same (k.trans Co))
 generalize upd H2 S.U.tk _=H3 at *
 refine⟨_,rfl,S.x,_,_,rfl,hT3.h.ob,DE,_,rfl,_,rfl,_,rfl,_,rfl,v,t,rfl,ha3,ok5,hsz,fun z H4 hz s4=>?_⟩
 have ez:=M2 hz
 subst ez
 refine⟨TR,fun l hl=>?_⟩
 have s5:=Ae hl (.lst [.str "begin",.str n,.str rule,.str kind,.str (Fq t)])
 have l5:upd H4 l (.lst [.str "begin",.str n,.str rule,.str kind,.str (Fq t)]) l=some (.lst ([("begin":Str),n,rule,kind,Fq t].map V.str)):=upd_same
 generalize upd H4 l _=H5 at *
 have hT5:=hT3.keep (s4.trans s5)
 refine⟨S.x,l,S.U,S.m,[("begin":Str),n,rule,kind,Fq t],S.ls,rfl,hT5.h.ob,hT5.h.ln,by omega,l5,?_,?_⟩
 ·show ("begin":Str).length+(n.length+(rule.length+(kind.length+((Fq t).length+0))))+5≤100000
  have:("begin":Str).length=5:=rfl
  have:=KP t
  omega
 have hT6:=hT5.wrote (.str (Ck ["begin",n,rule,kind,Fq t])) hl9
 exact q hg hnn c c2 c3 c4 x u _ ((b3.trans (Al (s4.trans s5))).trans (But.upd (by simp))) (s1.free hx) (s1.free gv1) (s1.free lf1) hT6
end
theorem Gg {X:Cx} {sts:List Stmt}:PSs X sts (fun _ _ _=>False):=fun _ _ _ _ _ _ h=>h.elim
theorem Jg {U:Hk} {m:Nat}:(DQ U m).lookup ("plainly":Str)=none:=by with_unfolding_all rfl
section
variable {cH cS cT:Addr}
end
abbrev Kj:Stmt:=AJ (top 68) 12
abbrev Nx:Stmt:=AJ (top 68) 13
abbrev JZ:Stmt:=AJ (top 68) 15
theorem Qm {U:Hk} {m:Nat}:(DQ U m).lookup ("back":Str)=none:=by with_unfolding_all rfl
theorem M5 {U:Hk} {m:Nat}:(DQ U m).lookup ("end":Str)=none:=by with_unfolding_all rfl
theorem Ld {U:Hk} {m:Nat}:(DQ U m).lookup ("held":Str)=none:=by with_unfolding_all rfl
def Cm (ts:List Tw) (k:Str) (u:Tk) (w:Ta):List Tw:=ts.map fun p=>if p.nm=k then⟨p.nm,p.a,u,w⟩ else p
theorem Si (ts:List Tw) (k:Str) (u:Tk) (w:Ta):EA (Cm ts k u w)=EA ts:=by
 unfold EA Cm
 rw[List.map_map]
 refine List.map_congr_left fun p _=>?_
 show ((if p.nm=k then (⟨p.nm,p.a,u,w⟩:Tw) else p).nm,V.ref (if p.nm=k then (⟨p.nm,p.a,u,w⟩:Tw) else p).a)=_
 split<;>rfl
theorem IJ (ts:List Tw) (k:Str) (u:Tk) (w:Ta):Dl (Cm ts k u w)=Dl ts:=by
 unfold Dl Cm
 rw[List.map_map]
 refine List.map_congr_left fun p _=>?_
 show (if p.nm=k then (⟨p.nm,p.a,u,w⟩:Tw) else p).nm=_
 split<;>rfl
theorem R8 (ts:List Tw) (k:Str) (u:Tk) (w:Ta):(Cm ts k u w).map (·.a)=ts.map (·.a):=by
 unfold Cm
 rw[List.map_map]
 refine List.map_congr_left fun p _=>?_
 show (if p.nm=k then (⟨p.nm,p.a,u,w⟩:Tw) else p).a=_
 split<;>rfl
theorem O4 (ts:List Tw) (k:Str) (u:Tk) (w:Ta):(Cm ts k u w).length=ts.length:=List.length_map _
theorem HH {ts:List Tw} {k:Str} {u:Tk} {w:Ta} {q:Tw} (h:q∈Cm ts k u w):(q∈ts∧q.nm≠k)∨∃p∈ts,p.nm=k∧q=⟨p.nm,p.a,u,w⟩:=by
 obtain⟨p,hp,e⟩:=List.mem_map.mp h
 by_cases c:p.nm=k
 ·rw[if_pos c] at e
  exact .inr ⟨p,hp,c,e.symm⟩
 ·rw[if_neg c] at e
  rw[←e]
  exact .inl ⟨hp,c⟩
theorem Oo {k:Str} {u:Tk} {w:Ta}:∀{ts:List Tw},(∀p∈ts,p.nm=k→u.gv=p.u.gv∧u.lf=p.u.lf)→IN (Cm ts k u w)=IN ts
 | [],_=>rfl
 | p::ts,h=>by
  have ih:=Oo (k:=k) (u:=u) (w:=w) (ts:=ts) fun q hq=>h q (List.mem_cons_of_mem _ hq)
  have e:IN (Cm (p::ts) k u w)=[(if p.nm=k then (⟨p.nm,p.a,u,w⟩:Tw) else p).u.gv,(if p.nm=k then (⟨p.nm,p.a,u,w⟩:Tw) else p).u.lf]++IN (Cm ts k u w):=rfl
  rw[e,ih]
  by_cases c:p.nm=k
  ·rw[if_pos c]
   obtain⟨h1,h2⟩:=h p List.mem_cons_self c
   show[u.gv,u.lf]++_=[p.u.gv,p.u.lf]++_
   rw[h1,h2];rfl
  ·rw[if_neg c];rfl
theorem CV {α:Type} {β:Type} {f:α→β}:∀{l:List α} {p q:α},(l.map f).Nodup→p∈l→q∈l→f p=f q→p=q
 | x::l,p,q,nd,hp,hq,e=>by
  obtain⟨n1,n2⟩:=List.nodup_cons.mp (show (f x::l.map f).Nodup from nd)
  rcases List.mem_cons.mp hp with h1 | h1
  ·rcases List.mem_cons.mp hq with h2 | h2
   ·rw[h1,h2]
   ·exact absurd (by rw[←h1,e];exact List.mem_map_of_mem h2) n1
  ·rcases List.mem_cons.mp hq with h2 | h2
   ·exact absurd (by rw[←h2,←e];exact List.mem_map_of_mem h1) n1
   ·exact CV n2 h1 h2 e
theorem Jw:∀{ts:List Tw} {p q:Tw},(IN ts).Nodup→p∈ts→q∈ts→p≠q→∀b,(b=p.u.gv∨b=p.u.lf)→(b≠q.u.gv∧b≠q.u.lf)
 | x::ts,p,q,nd,hp,hq,ne,b,hb=>by
  obtain⟨_,n2,n3⟩:=List.nodup_append.mp (show ([x.u.gv,x.u.lf]++IN ts).Nodup from nd)
  rcases List.mem_cons.mp hp with rfl | hp
  ·rcases List.mem_cons.mp hq with rfl | hq
   ·exact absurd rfl ne
   ·have hb2:b∈[p.u.gv,p.u.lf]:=by simpa using hb
    exact⟨n3 b hb2 _ (BS hq).1,n3 b hb2 _ (BS hq).2⟩
  ·have hb2:b∈IN ts:=by
    rcases hb with rfl | rfl
    ·exact (BS hp).1
    ·exact (BS hp).2
   rcases List.mem_cons.mp hq with rfl | hq
   ·exact⟨fun e=>n3 q.u.gv (by simp) b hb2 e.symm,fun e=>n3 q.u.lf (by simp) b hb2 e.symm⟩
   ·exact Jw n2 hp hq ne b hb
theorem SD {U:Hk} {m:Nat} {u:Tk} {w:Ta}:DQ U m≠Lg u w:=fun e=>by
 unfold DQ Lg at e
 injection e with e _
 injection e with e _
 revert e
 decide
section
variable {M:List Addr} {C cK:Addr} {H H':Hp} {S:HL}
theorem HouseT.alter {p:Tw} {u:Tk} {w:Ta} (h:HouseT M C cK H S) (hp:p∈S.ts) (b:But [p.a,p.u.gv,p.u.lf] H H') (hne:∀c,H c≠none→H' c≠none) (e1:u.gv=p.u.gv) (e2:u.lf=p.u.lf) (ht:TalkAt M cK H' p.a u w) (hr:w.room=S.room) (hm:w.many=S.m) :
  HouseT M C cK H' { S with ts:=Cm S.ts p.nm u w }:=by
 have t0:=(h.tt p hp).1
 have k:But M H H':=But.wide (fun m hm=>by
  simp only[List.mem_cons,List.not_mem_nil,or_false] at hm
  rcases hm with rfl | rfl | rfl
  ·exact t0.ma
  ·exact t0.mg
  ·exact t0.ml) b
 have same:∀{c:Addr} {o:HO},H c=some o→c≠p.a→c≠p.u.gv→c≠p.u.lf→H' c=some o:=fun e n1 n2 n3=>b.at e fun z=>by
  simp only[List.mem_cons,List.not_mem_nil,or_false] at z
  rcases z with z | z | z
  ·exact n1 z
  ·exact n2 z
  ·exact n3 z
 have hx:=h.h
 obtain⟨n0,nl⟩:=List.nodup_cons.mp h.nl
 have xa:S.x≠p.a:=fun e=>by
  have h1:=hx.ob
  rw[e,t0.ob] at h1
  have h2:=Option.some.inj h1
  injection h2 with _ _ h3
  exact SD h3.symm
 have ka:S.U.tk≠p.a:=AL h.tk t0.ob (by intro z;cases z)
 refine⟨⟨same hx.ob xa (AL hx.ob t0.gv (by intro z;cases z)) (AL hx.ob t0.lf (by intro z;cases z)),same hx.ln (AL hx.ln t0.ob (by intro z;cases z)) (fun e=>n0 (by rw[e];exact (BS hp).1)) (fun e=>n0 (by rw[e];exact (BS hp).2)),hx.mx,hx.ml,k _ _ hx.sp,k _ _ hx.mkm,hx.len,hx.m1,hx.m5,hx.wr,hx.ne,hx.l9⟩,?_,h.mt,fun q hq=>?_,?_,?_,?_,fun c hc=>hne c (h.fr c hc),by show (Cm _ _ _ _).length≤900;rw[O4];exact h.tl⟩
 ·show H' S.U.tk=some (.dK (dS (EA (Cm S.ts p.nm u w))))
  rw[Si]
  exact same h.tk ka (AL h.tk t0.gv (by intro z;cases z)) (AL h.tk t0.lf (by intro z;cases z))
 ·rcases HH hq with⟨hq,hn⟩|⟨p',hp',en,rfl⟩
  ·have tq:=(h.tt q hq).1
   have npq:q≠p:=fun e=>hn (by rw[e])
   have na:q.a≠p.a:=fun e=>npq (CV h.aa hq hp e)
   have g1:=Jw nl hq hp npq q.u.gv (.inl rfl)
   have g2:=Jw nl hq hp npq q.u.lf (.inr rfl)
   refine⟨tq.but k ?_ ?_ ?_,(h.tt q hq).2⟩
   ·rw[tq.ob];exact same tq.ob na (AL tq.ob t0.gv (by intro z;cases z)) (AL tq.ob t0.lf (by intro z;cases z))
   ·rw[tq.gv];exact same tq.gv (AL tq.gv t0.ob (by intro z;cases z)) g1.1 g1.2
   ·rw[tq.lf];exact same tq.lf (AL tq.lf t0.ob (by intro z;cases z)) g2.1 g2.2
  ·have e:p'=p:=CV h.na hp' hp en
   subst e
   exact⟨ht,hr,hm⟩
 ·show (S.U.ln::IN (Cm S.ts p.nm u w)).Nodup
  rw[Oo fun q hq en=>by rw[CV h.na hq hp en];exact⟨e1,e2⟩]
  exact h.nl
 ·show (Dl (Cm S.ts p.nm u w)).Nodup
  rw[IJ];exact h.na
 ·show ((Cm S.ts p.nm u w).map (·.a)).Nodup
  rw[R8];exact h.aa
end
def Pk (S:HL) (k:Str) (u:Tk) (w:Ta) (l:Str):HL:={ S with ts:=Cm S.ts k u w,ls:=S.ls++[.str l] }
def Op (C cK cNK cO:Addr):Sp:=fun vs H Q E=>∃(M:List Addr) (S:HL) (k:Str),vs=[.ref S.x,.str k]∧HouseT M C cK H S∧k.length≤100∧S.ls.length<900∧
 (k∉Dl S.ts→E (.ref cNK) none H)∧(∀p∈S.ts,p.nm=k→p.w.ended=true→E (.ref cO) none H)∧
 (∀p∈S.ts,p.nm=k→p.w.ended=false→∀(H':Hp),But [p.a,p.u.gv,p.u.lf,S.U.ln] H H'→(∀b,H b≠none→H' b≠none)→HouseT M C cK H' (Pk S k p.u (HI p.w) (Ck ["end",k]))→Q .non H')
def KQ (C cK cNK cO cG:Addr):Sp:=fun vs H Q E=>∃(M:List Addr) (S:HL) (k:Str),vs=[.ref S.x,.str k]∧HouseT M C cK H S∧k.length≤100∧S.ls.length<900∧(∀p∈S.ts,p.w.lefts.length=p.w.ents.length+1)∧
 (k∉Dl S.ts→E (.ref cNK) none H)∧(∀p∈S.ts,p.nm=k→p.w.ended=true→E (.ref cO) none H)∧(∀p∈S.ts,p.nm=k→p.w.ended=false→p.w.ents=[]→E (.ref cG) none H)∧
 (∀p∈S.ts,p.nm=k→p.w.ended=false→p.w.ents≠[]→∀(c:Addr) (e:V×Tr×Str) (u:Tk) (H':Hp),But [p.a,p.u.gv,p.u.lf,S.U.ln] H H'→(∀b,H b≠none→H' b≠none)→u.gv=p.u.gv→u.lf=p.u.lf→p.w.ents.getLast? = some e→BC M H c=some (.tup [e.1,.str e.2.2])→e.2.1.At (BC M H) e.1→HouseT M C cK H' (Pk S k u (Kk p.w) (Ck ["back",k]))→Q (.ref c) H')
def Hx (C cK cNK:Addr):Sp:=fun vs H Q E=>∃(M:List Addr) (S:HL) (k:Str),vs=[.ref S.x,.str k]∧HouseT M C cK H S∧(k∉Dl S.ts→E (.ref cNK) none H)∧(∀p∈S.ts,p.nm=k→∀(l:Addr) (H':Hp),Same H H'→H l=none→AV H' l p.w.held→Q (.ref l) H')
section
variable {cH cK cS cO cG cT cNK:Addr}
theorem scHBack:Aj ["self","name","pair"] ["self","name"] (Ag Kj):=By
theorem Rm:Aj ["self","name"] ["self","name"] (Ag Nx):=By
theorem Qj:Aj ["self","name"] ["self","name"] (Ag JZ):=By
theorem NK {m1 m2:Addr} {e1 e2:FuncData} (F:Fun K "held" "House.held" JZ f fd) (HX:Hy K cH) (TX:MP K cK) (G1:FnOk P w K mg bz (Bj P w) 3 m1 e1 ["self","name"] (CT cH cK cNK)) (C1:BA K cH "talk_of" m1 e1 ["self","name"])
  (G2:FnOk P w K mg bz A8 1 m2 e2 ["self"] (Ky cK)) (C2:BA K cK "held" m2 e2 ["self"]):FnOk P w K mg bz (Bj P w) 4 f fd ["self","name"] (Hx cH cK cNK):=by
 refine Fun.okX F Qj (fun vs H Q E h=>?_) (fun cdv A outer s H vs Q E hr h=>?_)
 ·obtain⟨M,S,k,rfl,_⟩:=h
  rfl
 obtain⟨M,S,k,rfl,hT,qN,q⟩:=h
 have hr1:Room 1 _:=hr.mono (by decide)
 refine⟨_,Ac (Ar (BZ (AK (pv 0) HX.cl C1.m G1 hr C1.b .nil (Aq (E1:=E) fun _ _ _ h=>h) (Aa (pv 1) Ab)) TX.cl C2.m G2 hr1 C2.b .nil AH)),?_⟩
 refine⟨_,rfl,S.x,_,_,rfl,hT.h.ob,D2,_,rfl,M,S,k,rfl,hT,fun c=>qN c,fun p hp ep=>?_⟩
 have tp:=(hT.tt p hp).1
 exact⟨p.a,_,_,rfl,tp.ob,Qt,p.a,M,p.u,p.w,rfl,tp,fun l H' s' l0 hl=>q p hp ep l H' s' l0 hl⟩
theorem F0 {M:List Addr} {H H1 H2:Hp} {l:Addr} {o:HO} (s1:Same H H1) (b:But M H1 H2) (hl:l∈M):But M H (upd H2 l o):=((Al s1).trans b).trans (But.upd hl)
theorem OL {H:Hp} {l b:Addr} {o:HO} (h:H b≠none):upd H l o b≠none:=fun z=>by
 by_cases e:b=l
 ·rw[e,upd_same] at z;cases z
 ·rw[Ah e] at z;exact h z
theorem PM {m1 m2 m4:Addr} {e1 e2 e4:FuncData} (F:Fun K "end" "House.end" Nx f fd) (HX:Hy K cH) (TX:MP K cK) (G1:FnOk P w K mg bz (Bj P w) 3 m1 e1 ["self","name"] (CT cH cK cNK)) (C1:BA K cH "talk_of" m1 e1 ["self","name"])
  (G2:FnOk P w K mg bz (Bj P w) 3 m2 e2 ["self"] (NI cK cO)) (C2:BA K cK "end" m2 e2 ["self"])
  (G4:FnOk P w K mg bz A8 2 m4 e4 ["self","words"] (Cz cH)) (C4:BA K cH "write" m4 e4 ["self","words"]):FnOk P w K mg bz (Bj P w) 4 f fd ["self","name"] (Op cH cK cNK cO):=by
 refine Fun.okX F Rm (fun vs H Q E h=>?_) (fun cdv A outer s H vs Q E hr h=>?_)
 ·obtain⟨M,S,k,rfl,_⟩:=h
  rfl
 obtain⟨M,S,k,rfl,hT,hk1,hl9,qN,qO,q⟩:=h
 have hr2:Room 2 _:=hr.mono (by decide)
 refine⟨_,Ad (An (BZ (AK (pv 0) HX.cl C1.m G1 hr C1.b .nil (Aq (E1:=E) fun _ _ _ h=>h) (Aa (pv 1) Ab)) TX.cl C2.m G2 hr C2.b .nil (Aq (E1:=E) fun _ _ _ h=>h)))
  (Ac (An (AK (pv 0) HX.cl C4.m G4 hr2 C4.b .nil AH (Aa (AA (Aa Ak (Aa (pv 1) Ab))) Ab)))),?_⟩
 refine⟨_,rfl,S.x,_,_,rfl,hT.h.ob,D2,_,rfl,M,S,k,rfl,hT,fun c=>qN c,fun p hp ep=>?_⟩
 subst ep
 obtain⟨tp0,er,em⟩:=hT.tt p hp
 refine⟨p.a,_,_,rfl,tp0.ob,RF,p.a,M,p.u,p.w,rfl,tp0,fun c=>qO p hp rfl c,fun c H1 b1 ht=>?_⟩
 have b1':But [p.a,p.u.gv,p.u.lf] H H1:=But.wide (fun m hm=>by rw[List.mem_singleton.mp hm];exact List.mem_cons_self) b1
 have hne:∀b,H b≠none→H1 b≠none:=fun b hb z=>by
  by_cases e:b=p.a
  ·rw[e,ht.ob] at z;cases z
  ·cases h0:H b with
   | none=>exact hb h0
   | some o=>rw[b1.at h0 (fun z=>e (List.mem_singleton.mp z))] at z;cases z
 have hT1:=hT.alter hp b1' hne rfl rfl ht er em
 refine⟨_,rfl,S.x,_,_,rfl,hT1.h.ob,DE,_,rfl,IK,fun l hl=>?_⟩
 have s2:=Ae hl (.lst [.str "end",.str p.nm])
 have l2:upd H1 l (.lst [.str "end",.str p.nm]) l=some (.lst ([("end":Str),p.nm].map V.str)):=upd_same
 generalize upd H1 l _=H2 at *
 have hT2:=hT1.keep s2
 refine⟨S.x,l,S.U,S.m,[("end":Str),p.nm],S.ls,rfl,hT2.h.ob,hT2.h.ln,by omega,l2,?_,?_⟩
 ·show ("end":Str).length+(p.nm.length+0)+2≤100000
  have:("end":Str).length=3:=rfl
  omega
 have hT3:=hT2.wrote (.str (Ck ["end",p.nm])) hl9
 refine q p hp rfl c _ ?_ ?_ hT3
 ·refine F0 (Same.refl _) ((But.wide (M:=[p.a]) (fun m hm=>?_) b1).trans (Al s2)) (by simp)
  rw[List.mem_singleton.mp hm];exact List.mem_cons_self
 ·exact fun b hb=>OL fun z=>hne b hb (s2.free z)
theorem NJ {m1 m2 m4:Addr} {e1 e2 e4:FuncData} (F:Fun K "back" "House.back" Kj f fd) (HX:Hy K cH) (TX:MP K cK) (G1:FnOk P w K mg bz (Bj P w) 3 m1 e1 ["self","name"] (CT cH cK cNK)) (C1:BA K cH "talk_of" m1 e1 ["self","name"])
  (G2:FnOk P w K mg bz (Bj P w) 3 m2 e2 ["self"] (KW cK cO cG)) (C2:BA K cK "back" m2 e2 ["self"])
  (G4:FnOk P w K mg bz A8 2 m4 e4 ["self","words"] (Cz cH)) (C4:BA K cH "write" m4 e4 ["self","words"]):FnOk P w K mg bz (Bj P w) 4 f fd ["self","name"] (KQ cH cK cNK cO cG):=by
 refine Fun.okX F scHBack (fun vs H Q E h=>?_) (fun cdv A outer s H vs Q E hr h=>?_)
 ·obtain⟨M,S,k,rfl,_⟩:=h
  rfl
 obtain⟨M,S,k,rfl,hT,hk1,hl9,hlf,qN,qO,qG,q⟩:=h
 have hr2:Room 2 _:=hr.mono (by decide)
 refine⟨_,Ad (Ap (i:=2) scHBack.nd rfl (Or.inl rfl) (BZ (AK (pv 0) HX.cl C1.m G1 hr C1.b .nil (Aq (E1:=E) fun _ _ _ h=>h) (Aa (pv 1) Ab)) TX.cl C2.m G2 hr C2.b .nil (Aq (E1:=E) fun _ _ _ h=>h)))
  (Ad (An (AK (pv 0) HX.cl C4.m G4 hr2 C4.b .nil AH (Aa (AA (Aa Ak (Aa (pv 1) Ab))) Ab)))
  (Ac (Ar (pv 2)))),?_⟩
 refine⟨_,rfl,S.x,_,_,rfl,hT.h.ob,D2,_,rfl,M,S,k,rfl,hT,fun c=>qN c,fun p hp ep=>?_⟩
 subst ep
 obtain⟨tp0,er,em⟩:=hT.tt p hp
 refine⟨p.a,_,_,rfl,tp0.ob,Qq,p.a,M,p.u,p.w,rfl,tp0,hlf p hp,fun c=>qO p hp rfl c,fun c c2=>qG p hp rfl c c2,fun c c2 pc e u H1 b1 eg el hne he hpc hat ht=>?_⟩
 have b1':But [p.a,p.u.gv,p.u.lf] H H1:=But.wide (fun m hm=>List.mem_cons_of_mem _ hm) b1
 have hT1:=hT.alter hp b1' hne eg el ht er em
 refine⟨_,rfl,S.x,_,_,rfl,hT1.h.ob,DE,_,rfl,IK,fun l hl=>?_⟩
 have s2:=Ae hl (.lst [.str "back",.str p.nm])
 have l2:upd H1 l (.lst [.str "back",.str p.nm]) l=some (.lst ([("back":Str),p.nm].map V.str)):=upd_same
 generalize upd H1 l _=H2 at *
 have hT2:=hT1.keep s2
 refine⟨S.x,l,S.U,S.m,[("back":Str),p.nm],S.ls,rfl,hT2.h.ob,hT2.h.ln,by omega,l2,?_,⟨_,rfl,?_⟩⟩
 ·show ("back":Str).length+(p.nm.length+0)+2≤100000
  have:("back":Str).length=4:=rfl
  omega
 have hT3:=hT2.wrote (.str (Ck ["back",p.nm])) hl9
 refine q p hp rfl c c2 pc e u _ ?_ ?_ eg el he hpc hat hT3
 ·refine F0 (Same.refl _) ((But.wide (fun m hm=>?_) b1').trans (Al s2)) (by simp)
  simp only[List.mem_cons,List.not_mem_nil,or_false] at hm ⊢
  rcases hm with h | h | h<;>simp[h]
 ·exact fun b hb=>OL fun z=>hne b hb (s2.free z)
end
abbrev Fo:Stmt:=AJ (top 68) 28
theorem Ls {U:Hk} {m:Nat}:(DQ U m).lookup ("refuse_letter":Str)=none:=by with_unfolding_all rfl
def So (m:Nat) (i:Int):Prop:=0≤i∧i<(m:Int)
instance (m:Nat) (i:Int):Decidable (So m i):=by unfold So;infer_instance
def FC (C cL:Addr):Sp:=fun vs H Q E=>∃(x:Addr) (N:List Addr) (U:Hk) (m:Nat) (room:List Int) (marks:List (Option Bool)) (ls:List V) (i:Int),vs=[.ref x,.int i]∧HouseAt N C H x U m room marks ls∧(¬So m i→∀H',Same H H'→E (.ref cL) none H')∧(So m i→∀H',Same H H'→Q .non H')
section
variable {M:List Addr} {C cK:Addr} {H H':Hp} {S:HL}
end
section
variable {cH cS cW cL cT:Addr}
theorem L9:Aj ["self","letter"] ["self","letter"] (Ag Fo):=By
theorem Ke (F:Fun K "refuse_letter" "House.refuse_letter" Fo f fd) (HX:Hy K cH) (T:HB mg) (XL:Be K mg "NoLetter" cL cT):FnOk P w K mg bz (Bj P w) 2 f fd ["self","letter"] (FC cH cL):=by
 refine Fun.okX F L9 (fun vs H Q E h=>?_) (fun cdv A outer s H vs Q E hr h=>?_)
 ·obtain⟨x,N,U,m,room,marks,ls,i,rfl,_⟩:=h
  rfl
 obtain⟨x,N,U,m,room,marks,ls,i,rfl,hT,qE,q⟩:=h
 refine⟨_,Ac (Aw (Am Mw (pv 1) (AW FX (by rfl) T.rng boot_range (Aa (A6 (pv 0) rfl) Ab)) (by with_unfolding_all rfl))
   (Ac (AY (Ex:=E) AM rfl XL.cls XL.at_ XL.ty (by rfl) XL.m (Aa Ak Ab) (hvl:=fun _ _ _ h=>⟨by decide,h⟩)))
   Au),?_⟩
 refine⟨_,rfl,_,rfl,x,cH,_,_,_,rfl,hT.ob,HX.cl,HX.many,Hd,_,rfl,fun r hr2=>?_⟩
 have s2:=Ae hr2 (.rng 0 (m:Int))
 refine⟨i,m,r,rfl,rfl,upd_same,_,rfl,?_⟩
 by_cases c:So m i
 ·have e:(!decide (0≤i∧i<(m:Int)))=false:=by rw[decide_eq_true (show 0≤i∧i<(m:Int) from c)];rfl
  rw[e]
  exact Bu (q c _ s2)
 ·have e:(!decide (0≤i∧i<(m:Int)))=true:=by rw[decide_eq_false (show ¬(0≤i∧i<(m:Int)) from c)];rfl
  rw[e]
  exact BH (qE c _ s2)
end
abbrev Gi:Stmt:=AJ (top 68) 3
abbrev DL:Stmt:=AJ (top 68) 5
theorem MZ {U:Hk} {m:Nat}:(DQ U m).lookup ("known":Str)=none:=by with_unfolding_all rfl
def HM (C cL:Addr):Sp:=fun vs H Q E=>∃(x:Addr) (N:List Addr) (U:Hk) (m:Nat) (room:List Int) (marks:List (Option Bool)) (ls:List V) (i:Int),vs=[.ref x,.int i]∧HouseAt N C H x U m room marks ls∧(¬So m i→∀H',Same H H'→E (.ref cL) none H')∧(∀(j:Nat) (k:Option Bool),i=(j:Int)→marks[j]? = some k→∀H',Same H H'→Q (Uz k) H')
def Ge (C cS:Addr):Sp:=fun vs H Q E=>∃(x:Addr) (N:List Addr) (U:Hk) (m:Nat) (room:List Int) (marks:List (Option Bool)) (ls:List V) (v:V) (t:Tr),vs=[.ref x,v]∧HouseAt N C H x U m room marks ls∧t.At H v∧t.ok 5∧t.size≤60∧¬t.ok m∧∀H',Same H H'→E (.ref cS) none H'
section
variable {cH cS cW cL cT:Addr}
theorem M8:Aj ["self","letter"] ["self","letter"] (Ag Gi):=By
theorem IO:Aj ["self","sentence"] ["self","sentence"] (Ag DL):=By
theorem Mf {m1:Addr} {e1:FuncData} (F:Fun K "known" "House.known" Gi f fd) (HX:Hy K cH) (G1:FnOk P w K mg bz (Bj P w) 2 m1 e1 ["self","letter"] (FC cH cL)) (C1:BA K cH "refuse_letter" m1 e1 ["self","letter"]):FnOk P w K mg bz (Bj P w) 3 f fd ["self","letter"] (HM cH cL):=by
 refine Fun.okX F M8 (fun vs H Q E h=>?_) (fun cdv A outer s H vs Q E hr h=>?_)
 ·obtain⟨x,N,U,m,room,marks,ls,i,rfl,_⟩:=h
  rfl
 obtain⟨x,N,U,m,room,marks,ls,i,rfl,hT,qE,q⟩:=h
 refine⟨_,Ad (An (AK (pv 0) HX.cl C1.m G1 hr C1.b .nil (Aq (E1:=E) fun _ _ _ h=>h) (Aa (pv 1) Ab)))
  (Ac (Ar (AQ Ba (A6 (pv 0) rfl) (pv 1) (fun _ _=>rfl)))),?_⟩
 refine⟨_,rfl,x,_,_,rfl,hT.ob,Ls,_,rfl,x,N,U,m,room,marks,ls,i,rfl,hT,fun h1 H' s'=>qE h1 H' s',fun h1 H' s'=>?_⟩
 obtain⟨j,ej⟩:=Int.eq_ofNat_of_zero_le h1.1
 have hj:j<marks.length:=by
  have:=h1.2
  rw[hT.len]
  omega
 have hT':=hT.keep s'
 have hk:marks[j]? = some marks[j]:=List.getElem?_eq_getElem hj
 exact⟨_,rfl,x,cH,_,_,_,rfl,hT'.ob,HX.cl,HX.marks,M9,_,rfl,U.mks,_,_,_,rfl,rfl,SqL.of hT'.mk',(by rw[ej];exact Av (by rw[List.getElem?_map,hk];rfl)),q j _ ej hk H' s'⟩
theorem JD {g1:Addr} {d1:FuncData} (F:Fun K "plainly" "House.plainly" DL f fd) (HX:Hy K cH) (GR:FnOk P w K mg bz (Bj P w) 3 g1 d1 ["sentence","many"] (Dp cS)) (CR:B5 K mg "refuse_strange" g1 d1 ["sentence","many"]):FnOk P w K mg bz (Bj P w) 4 f fd ["self","sentence"] (Ge cH cS):=by
 refine Fun.okX F IO (fun vs H Q E h=>?_) (fun cdv A outer s H vs Q E hr h=>?_)
 ·obtain⟨x,N,U,m,room,marks,ls,v,t,rfl,_⟩:=h
  rfl
 obtain⟨x,N,U,m,room,marks,ls,v,t,rfl,hT,ha,ok5,hsz,hno,q⟩:=h
 refine⟨_,Ad (An (Ao GR hr (by rfl) CR.m CR.k CR.b .nil (Aq (E1:=E) fun _ _ _ h=>h) (Aa (pv 1) (Aa (A6 (pv 0) rfl) Ab)))) Gg,?_⟩
 exact⟨_,rfl,_,rfl,x,cH,_,_,_,rfl,hT.ob,HX.cl,HX.many,Hd,v,t,m,rfl,ha,ok5,hsz,fun _ H' s'=>q H' s',fun z=>absurd z hno⟩
end
def SU (M:List Addr) (H:Hp):Prop:=∀b∈M,∀ys,H b≠some (.tup ys)
theorem N2 (m:Nat) (wd:Int):Tx (List.replicate m none) wd=true:=by
 unfold Tx
 rw[List.all_eq_true]
 intro b hb
 rw[List.mem_mapIdx] at hb
 obtain⟨i,hi,rfl⟩:=hb
 rw[List.getElem_replicate]
 rfl
theorem Mp {C cK x:Addr} {U:Hk} {H4 H5:Hp} {m:Nat} {ts:List Tr} (s5:Same H4 H5) (hx:H4 x=none) (tk4:H4 U.tk=none) (ln4:H4 U.ln=none) (nspx:U.sp≠x) (nmkx:U.mks≠x) (hm1:1≤m) (hm5:m≤5) (hne:AS m ts≠[]) (hx5:H5 x=some (.ins C U.dx (DQ U m))) (hsp5:AV H5 U.sp (AS m ts)) (hmk5:H5 U.mks=some (.lst (List.replicate m .non))) (htk5:H5 U.tk=some (.dK [])) (hln5:H5 U.ln=some (.lst [.str (Bq m ts)])) :
  HouseT [x,U.ln,U.tk] C cK H5 ⟨x,U,m,AS m ts,List.replicate m none,[.str (Bq m ts)],[]⟩∧Same H4 (BC [x,U.ln,U.tk] H5)∧SU [x,U.ln,U.tk] H5:=by
 have nsl:U.sp≠U.ln:=fun e=>by
  have h1:H5 U.sp=some (.lst ((AS m ts).map V.int)):=hsp5
  rw[e,hln5] at h1
  have h2:=Option.some.inj h1
  injection h2 with h2
  cases hr0:AS m ts with
  | nil=>exact hne hr0
  | cons k0 _=>rw[hr0] at h2;injection h2 with h2;cases h2
 have nml:U.mks≠U.ln:=fun e=>by
  rw[e,hln5] at hmk5
  have h2:=Option.some.inj hmk5
  injection h2 with h2
  match m,hm1,h2 with
  | k+1,_,h2=>rw[List.replicate_succ] at h2;injection h2 with h2;cases h2
 have nst:U.sp≠U.tk:=AL hsp5 htk5 (by intro z;cases z)
 have nmt:U.mks≠U.tk:=AL hmk5 htk5 (by intro z;cases z)
 have notN:∀{b:Addr},b≠x→b≠U.ln→b≠U.tk→b∉[x,U.ln,U.tk]:=fun h1 h2 h3 hb=>by
  simp only[List.mem_cons,List.not_mem_nil,or_false] at hb
  rcases hb with h | h | h
  ·exact h1 h
  ·exact h2 h
  ·exact h3 h
 have fne:(AS m ts).filter (Tx (List.replicate m none))≠[]:=by
  rw[List.filter_eq_self.mpr fun wd _=>N2 m wd]
  exact hne
 refine⟨⟨⟨hx5,hln5,by simp,by simp,A5 hsp5 (notN nspx nsl nst),A5 (by rw[hmk5,List.map_replicate];rfl) (notN nmkx nml nmt),List.length_replicate,hm1,hm5,GZ hm5 ts,fne,by show 1≤900;decide⟩,htk5,by simp,(fun p hp=>nomatch hp),by show[U.ln].Nodup;simp,List.nodup_nil,List.nodup_nil,fun b hb=>?_,by show 0≤900;decide⟩,fun b o e=>A5 (s5 _ _ e) fun z=>?_,fun b hb ys e=>?_⟩
 ·simp only[List.mem_cons,List.not_mem_nil,or_false] at hb
  rcases hb with rfl | rfl | rfl
  ·rw[hx5];intro z;cases z
  ·rw[hln5];intro z;cases z
  ·rw[htk5];intro z;cases z
 ·simp only[List.mem_cons,List.not_mem_nil,or_false] at z
  rcases z with rfl | rfl | rfl
  ·rw[hx] at e;cases e
  ·rw[ln4] at e;cases e
  ·rw[tk4] at e;cases e
 ·simp only[List.mem_cons,List.not_mem_nil,or_false] at hb
  rcases hb with rfl | rfl | rfl
  ·rw[hx5] at e;cases e
  ·rw[hln5] at e;cases e
  ·rw[htk5] at e;cases e
inductive Fr2 where
 | nt
 | br
 | op (j:Nat) (t:Tr)
def A7:List Fr2→Tr→List Fr2×Tr
 | .nt::r,t=>A7 r (.nt t)
 | .br::r,t=>(.br::r,t)
 | .op j u::r,t=>(.op j u::r,t)
 | [],t=>([],t)
def D6 (c:Nat):Option Nat:=if c=38 then some 0 else if c=124 then some 1 else if c=62 then some 2 else if c=61 then some 3 else none
abbrev RS:=List Fr2×Option Tr
def Pa (fs:List Fr2) (c:Nat):Option RS:=
 if 97≤c∧c≤101 then some ((A7 fs (.lt (c-97))).1,some (A7 fs (.lt (c-97))).2)
 else if c=45 then some (.nt::fs,none)
 else if c=40 then some (.br::fs,none)
 else none
def UY:List Fr2→Tr→Nat→Option RS
 | [],_,_=>none
 | .br::r,t,c=>(D6 c).map fun j=>(.op j t::r,none)
 | .op j u::r,t,c=>if c=41 then some ((A7 r (.bn j u t)).1,some (A7 r (.bn j u t)).2) else none
 | .nt::_,_,_=>none
def rd (s:RS) (c:Nat):Option RS:=match s.2 with
 | none=>Pa s.1 c
 | some t=>UY s.1 t c
def Uw (m:Nat):Fr2→Prop
 | .op j t=>j<4∧t.ok m
 | _=>True
structure SOk (s:RS):Prop where
 top:∀t r,s.2=some t→s.1≠.nt::r
 fr:∀f∈s.1,Uw 5 f
 wh:∀t,s.2=some t→t.ok 5
theorem Eb:∀(fs:List Fr2) (t:Tr) (r:List Fr2),(A7 fs t).1≠.nt::r
 | [],_,_=>by intro z;cases z
 | .nt::fs,t,r=>Eb fs (.nt t) r
 | .br::_,_,_=>by intro z;cases z
 | .op _ _::_,_,_=>by intro z;cases z
theorem E2:∀(fs:List Fr2) (t:Tr),(∀f∈fs,Uw 5 f)→t.ok 5→(∀f∈(A7 fs t).1,Uw 5 f)∧(A7 fs t).2.ok 5
 | [],_,h,ht=>⟨h,ht⟩
 | .nt::fs,t,h,ht=>E2 fs (.nt t) (fun f hf=>h f (List.mem_cons_of_mem _ hf)) ht
 | .br::_,_,h,ht=>⟨h,ht⟩
 | .op _ _::_,_,h,ht=>⟨h,ht⟩
theorem Qf {c j:Nat} (h:D6 c=some j):j<4:=by
 unfold D6 at h
 repeat' split at h
 all_goals first | (cases h;decide) | cases h
theorem SOk.step {s s':RS} {c:Nat} (h:SOk s) (e:rd s c=some s'):SOk s':=by
 obtain⟨fs,w⟩:=s
 cases w with
 | none=>
  have e:Pa fs c=some s':=e
  unfold Pa at e
  split at e
  ·rename_i hc
   cases e
   have q:=E2 fs (.lt (c-97)) h.fr (show c-97<5 by omega)
   exact⟨fun t r _=>Eb _ _ _,q.1,fun t et=>by cases et;exact q.2⟩
  ·split at e
   ·cases e
    refine⟨(fun t r et=>by cases et),fun f hf=>?_,(fun t et=>by cases et)⟩
    rcases List.mem_cons.mp hf with z | z
    ·subst z;exact True.intro
    ·exact h.fr f z
   ·split at e
    ·cases e
     refine⟨(fun t r et=>by cases et),fun f hf=>?_,(fun t et=>by cases et)⟩
     rcases List.mem_cons.mp hf with z | z
     ·subst z;exact True.intro
     ·exact h.fr f z
    ·cases e
 | some t=>
  match fs with
  | []=>cases e
  | .br::r=>
   have e':(D6 c).map (fun j=>((.op j t::r,none):RS))=some s':=e
   cases ej:D6 c with
   | none=>rw[ej] at e';cases e'
   | some j=>
    rw[ej] at e'
    cases e'
    refine⟨(fun t r et=>by cases et),fun f hf=>?_,(fun t et=>by cases et)⟩
    rcases List.mem_cons.mp hf with z | z
    ·subst z;exact⟨Qf ej,h.wh t rfl⟩
    ·exact h.fr f (List.mem_cons_of_mem _ z)
  | .op j u::r=>
   have e':(if c=41 then some ((A7 r (.bn j u t)).1,some (A7 r (.bn j u t)).2) else none)=some s':=e
   split at e'
   ·cases e'
    have hf:=h.fr (.op j u) List.mem_cons_self
    have q:=E2 r (.bn j u t) (fun f hf=>h.fr f (List.mem_cons_of_mem _ hf)) ⟨hf.1,hf.2,h.wh t rfl⟩
    exact⟨fun t r _=>Eb _ _ _,q.1,fun t et=>by cases et;exact q.2⟩
   ·cases e'
  | .nt::r=>exact absurd rfl (h.top t r rfl)
def Bb:List Nat→RS→Option RS
 | [],s=>some s
 | c::l,s=>if c=32 then Bb l s else (rd s c).bind (Bb l)
theorem D8:∀(a b:List Nat) (s:RS),Bb (a++b) s=(Bb a s).bind (Bb b)
 | [],_,_=>rfl
 | c::l,b,s=>by
  show (if c=32 then Bb (l++b) s else (rd s c).bind (Bb (l++b)))=(if c=32 then Bb l s else (rd s c).bind (Bb l)).bind (Bb b)
  split
  ·exact D8 l b s
  ·cases rd s c with
   | none=>rfl
   | some s'=>exact D8 l b s'
theorem Ib (a:List Nat) (c:Nat) (s:RS):Bb (a++[c]) s=(Bb a s).bind fun s'=>if c=32 then some s' else rd s' c:=by
 rw[D8]
 cases Bb a s with
 | none=>rfl
 | some s'=>
  show (if c=32 then some s' else (rd s' c).bind some)=(if c=32 then some s' else rd s' c)
  cases rd s' c<;>rfl
theorem I8:∀(l:List Nat) {s s':RS},SOk s→Bb l s=some s'→SOk s'
 | [],_,_,h,e=>by cases e;exact h
 | c::l,s,s',h,e=>by
  have e':(if c=32 then Bb l s else (rd s c).bind (Bb l))=some s':=e
  split at e'
  ·exact I8 l h e'
  ·cases er:rd s c with
   | none=>rw[er] at e';cases e'
   | some s1=>
    rw[er] at e'
    exact I8 l (h.step er) e'
abbrev sg (c:Nat):Str:=⟨#[c]⟩
theorem Da (c d:Nat):(V.str (sg c)=V.str (sg d))↔c=d:=by
 constructor
 ·intro h
  injection h with h1
  injection h1 with h2
  simpa using h2
 ·rintro rfl;rfl
theorem Ra:∀c:Nat,c<128→(!(Builtin.Str.occurrences ("abcde-(":Str) (sg c) 0 ("abcde-(":Str).length 1).isEmpty)=(decide (97≤c∧c≤101) || decide (c=45) || decide (c=40)):=by decide +kernel
theorem Qy:∀c:Nat,c<102→97≤c→(Builtin.Str.occurrences ("abcde":Str) (sg c) 0 ("abcde":Str).length 1)=[c-97]:=by decide +kernel
def QG (k:Str):Option V:=if k="&" then some (.str "and") else if k="|" then some (.str "or") else if k=">" then some (.str "if") else if k="=" then some (.str "same") else none
theorem ED (c:Nat):QG (sg c)=(D6 c).map fun j=>V.str (jn j):=by
 have e:∀d:Nat,(sg c=sg d)↔c=d:=fun d=>by
  rw[←Da]
  exact⟨fun h=>by rw[h],fun h=>by injection h⟩
 have h1:("&":Str)=sg 38:=rfl
 have h2:("|":Str)=sg 124:=rfl
 have h3:(">":Str)=sg 62:=rfl
 have h4:("=":Str)=sg 61:=rfl
 unfold QG D6
 rw[h1,h2,h3,h4]
 simp only[e]
 split
 ·rfl
 ·split
  ·rfl
  ·split
   ·rfl
   ·split
    ·rfl
    ·rfl
abbrev Ou:Stmt:=top 31
abbrev Jc:Stmt:=top 32
abbrev TC:Stmt:=top 33
def FrAt (aN aB:Addr) (H:Hp) (v:V):Fr2→Prop
 | .nt=>v= .ref aN
 | .br=>v= .ref aB
 | .op j t=>∃a x,v= .ref a∧H a=some (.tup [.str (jn j),x])∧t.At H x
abbrev DV (aN aB:Addr) (H:Hp) (xs:List V) (fs:List Fr2):Prop:=Paired (FrAt aN aB H) xs fs.reverse
def WAt (H:Hp) (v:V):Option Tr→Prop
 | none=>v= .non
 | some t=>t.At H v
theorem FrAt.keep {aN aB:Addr} {H H':Hp} (s:TS H H') {v:V}:∀{f:Fr2},FrAt aN aB H v f→FrAt aN aB H' v f
 | .nt,h=>h
 | .br,h=>h
 | .op j t,⟨a,x,e,h,q⟩=>⟨a,x,e,s _ _ h,Tr.At.keep s q⟩
theorem Lh {α β:Type} {R S:α→β→Prop} (f:∀a b,R a b→S a b):∀{xs:List α} {ys:List β},Paired R xs ys→Paired S xs ys
 | _,_,.nil=>.nil
 | _,_,.cons r q=>.cons (f _ _ r) (Lh f q)
theorem BJ {aN aB:Addr} {H H':Hp} (s:TS H H') {xs:List V} {fs:List Fr2} (h:DV aN aB H xs fs):DV aN aB H' xs fs:=Lh (fun _ _ q=>FrAt.keep s q) h
theorem WAt.keep {H H':Hp} (s:TS H H') {v:V}:∀{w:Option Tr},WAt H v w→WAt H' v w
 | none,h=>h
 | some _,h=>Tr.At.keep s h
theorem KG {α β:Type} {R:α→β→Prop} {b:β}:∀{ys:List β} {xs:List α},Paired R xs (ys++[b])→∃xs' a,xs=xs'++[a]∧Paired R xs' ys∧R a b
 | [],_,.cons r .nil=>⟨[],_,rfl,.nil,r⟩
 | _::ys,_,.cons r q=>by
  obtain⟨xs',a,e,p,s⟩:=KG q
  exact⟨_::xs',a,by rw[e];rfl,.cons r p,s⟩
theorem Ez {aN aB:Addr} {H:Hp} {xs:List V} {f:Fr2} {r:List Fr2} (h:DV aN aB H xs (f::r)):∃xs' y,xs=xs'++[y]∧DV aN aB H xs' r∧FrAt aN aB H y f:=by
 have h':Paired (FrAt aN aB H) xs (r.reverse++[f]):=by
  have e:(f::r).reverse=r.reverse++[f]:=List.reverse_cons
  rw[←e]
  exact h
 exact KG h'
theorem EH {aN aB:Addr} {H:Hp} {xs:List V} {f:Fr2} {r:List Fr2} {y:V} (h:DV aN aB H xs r) (hf:FrAt aN aB H y f):DV aN aB H (xs++[y]) (f::r):=by
 show Paired (FrAt aN aB H) (xs++[y]) (f::r).reverse
 rw[List.reverse_cons]
 exact Paired.snoc h hf
theorem Er {aN aB:Addr} {H:Hp} {xs:List V} {fs:List Fr2} (h:DV aN aB H xs fs):xs.length=fs.length:=by
 have:=Paired.length h
 rw[List.length_reverse] at this
 exact this
theorem Pd (xs:List V) (y:V):NY (xs++[y]).length (-1)=some xs.length:=by
 unfold NY
 rw[if_neg (by decide),if_pos (by rw[List.length_append];show -((xs.length+1:Nat):Int)≤-1;omega)]
 congr 1
 rw[List.length_append]
 show (-1+((xs.length+1:Nat):Int)).toNat=xs.length
 omega
theorem EL (xs:List V) (y v:V):(xs++[y]).set xs.length v=xs++[v]:=by
 rw[List.set_append_right _ _ (Nat.le_refl _)]
 simp
theorem FO (xs:List V) (y:V):(xs++[y]).dropLast=xs:=by simp
def But60 (l:Addr) (H H':Hp):Prop:=∀b o,H b=some o→b≠l→H' b=some o
theorem But60.trans {l:Addr} {H H1 H2:Hp} (a:But60 l H H1) (b:But60 l H1 H2):But60 l H H2:=fun c o e n=>b c o (a c o e n) n
theorem But60.upd {l:Addr} {H:Hp} {o:HO}:But60 l H (upd H l o):=fun b u e n=>by rw[Ah n];exact e
theorem But60.new {l c:Addr} {H:Hp} {o:HO} (h:H c=none):But60 l H (L2.upd H c o):=fun b u e n=>by rw[Ah (Af e h)];exact e
theorem But60.ts {l:Addr} {H H':Hp} {xs:List V} (b:But60 l H H') (h:H l=some (.lst xs)):TS H H':=fun p ys e=>b p _ e (AL e h (by intro z;cases z))
theorem IF {b:Bool} {A B:Prop} (e:b=false) (h:B):if b=true then A else B:=by
 rw[e,if_neg Bool.false_ne_true]
 exact h
theorem MS {b:Bool} {A B:Prop} (e:b=true) (h:A):if b=true then A else B:=by
 rw[e,if_pos rfl]
 exact h
structure PZ (P:Program) (w:World) (K:PySem.W.Frag) (mg:Str→Option Value) (aN aB:Addr):Prop where
 let':∃t,mg "LETTERS"=some (.str "abcde" t)
 beg:∃t,mg "BEGINNINGS"=some (.str "abcde-(" t)
 ki:∃d,mg "KINDS"=some (.ref d)∧Hv P w K d QG
 nt:mg "BEGUN_NOT"=some (.ref aN)
 br:mg "BEGUN_BRACKET"=some (.ref aB)
 sN:∀H,SqT K H aN [.str "not"]
 sB:∀H,SqT K H aB [.str "("]
 enum:mg "enumerate"=none
 len:mg "len"=none
section
variable {aN aB:Addr}
def KA (aN aB:Addr):Sp:=fun vs H Q _=>∃(c:Nat) (bl:Addr) (xs:List V) (fs:List Fr2) (wh:Option Tr) (wv:V),vs=[.str (sg c),.ref bl,wv]∧c<128∧H bl=some (.lst xs)∧DV aN aB H xs fs∧WAt H wv wh∧SOk (fs,wh)∧Q (.bl (rd (fs,wh) c).isSome) H
def Te (aN aB:Addr):Sp:=fun vs H Q _=>∃(c:Nat) (bl:Addr) (xs:List V) (fs:List Fr2) (wh:Option Tr) (wv:V) (s':RS),vs=[.str (sg c),.ref bl,wv]∧c<128∧H bl=some (.lst xs)∧DV aN aB H xs fs∧WAt H wv wh∧SOk (fs,wh)∧rd (fs,wh) c=some s'∧xs.length≤900∧
 ∀(v:V) (xs':List V) (H':Hp),But60 bl H H'→H' bl=some (.lst xs')→DV aN aB H' xs' s'.1→WAt H' v s'.2→xs'.length≤xs.length+1→Q v H'
theorem WAt.some {H:Hp} {v:V} {t:Tr} (h:WAt H v (some t)):∃p,v= .ref p:=by
 cases t with
 | lt k=>obtain⟨p,e,_⟩:=h;exact⟨p,e⟩
 | nt t=>obtain⟨p,_,e,_⟩:=h;exact⟨p,e⟩
 | bn j a b=>obtain⟨p,_,_,e,_⟩:=h;exact⟨p,e⟩
theorem Pz:Aj ["sign","begun","whole"] ["sign","begun","whole"] (Ag Jc):=By
theorem N1 (F:Fun K "can_stand" "can_stand" Jc f fd) (T:PZ P w K mg aN aB):FnOk P w K mg bz A8 1 f fd ["sign","begun","whole"] (KA aN aB):=by
 refine F.ok Pz (fun vs H Q E h=>?_) (fun cdv A outer s H vs Q E hr h=>?_)
 ·obtain⟨c,bl,xs,fs,wh,wv,rfl,_⟩:=h
  rfl
 obtain⟨c,bl,xs,fs,wh,wv,rfl,hc,hb,hst,hw,hok,q⟩:=h
 obtain⟨tB,mB⟩:=T.beg
 obtain⟨dK,mK,hK⟩:=T.ki
 refine⟨_,Ad (Aw (J1 (Ji (pv 2))) (Ac (Ar (BQ FW (pv 0) (AB (v:=.str "abcde-(") (by rfl) mB ⟨_,rfl⟩) (by with_unfolding_all rfl)))) Au)
  (Ad (Aw (Cy (Bk (pv 1) (fun _=>rfl))) (Ac (Ar FG)) Au)
  (Ad (Aw (Am (KC hr.units0) (AQ Ba (pv 1) (FF DZ Ai) (fun _ _=>rfl)) (AB (v:=.ref aB) (by rfl) T.br rfl) (As _)) (Ac (Ar (BQ MY (pv 0) (AB (v:=.ref dK) (by rfl) mK rfl) (by with_unfolding_all rfl)))) Au)
  (Ac (Ar (BQ AO (pv 0) Ak (As _)))))),?_⟩
 refine⟨_,rfl,_,rfl,?_⟩
 cases wh with
 | none=>
  cases hw
  refine Bo rfl ?_
  refine⟨_,rfl,_,_,rfl,rfl,?_⟩
  rw[Ra c hc]
  have e:(rd (fs,none) c).isSome=(decide (97≤c∧c≤101) || decide (c=45) || decide (c=40)):=by
   show (Pa fs c).isSome=_
   unfold Pa
   by_cases h1:97≤c∧c≤101
   ·rw[if_pos h1,decide_eq_true h1];rfl
   ·rw[if_neg h1,decide_eq_false h1]
    by_cases h2:c=45
    ·rw[if_pos h2,decide_eq_true h2];rfl
    ·rw[if_neg h2,decide_eq_false h2]
     by_cases h3:c=40
     ·rw[if_pos h3,decide_eq_true h3];rfl
     ·rw[if_neg h3,decide_eq_false h3];rfl
  rw[←e]
  exact q
 | some t=>
  obtain⟨p,rfl⟩:=WAt.some hw
  refine A3 (by intro z;cases z) ?_
  refine⟨_,rfl,_,.inl ⟨xs,SqL.of hb,rfl⟩,?_⟩
  match fs,hst,hok,q with
  | [],hst,hok,q=>
   have e:xs=[]:=List.length_eq_zero_iff.mp (Er hst)
   subst e
   exact BH q
  | g::r,hst,hok,q=>
   obtain⟨xs',y,rfl,hst',hy⟩:=Ez hst
   have hne:(!!(xs'++[y]).isEmpty)=false:=by simp
   refine IF hne ?_
   match g,hy,hok,q with
   | .nt,_,hok,_=>exact absurd rfl (hok.top t r rfl)
   | .br,hy,hok,q=>
    cases hy
    refine⟨_,rfl,_,rfl,bl,_,_,_,rfl,rfl,SqL.of hb,B3 _ _,aB,aB,_,_,_,rfl,rfl,T.sB H,T.sB H,_,rfl,?_⟩
    refine BH ?_
    refine⟨_,rfl,dK,_,_,rfl,rfl,hK,?_⟩
    have e:(QG (sg c)).isSome=(rd (.br::r,some t) c).isSome:=by
     rw[ED]
     show _=((D6 c).map _).isSome
     cases D6 c<;>rfl
    rw[e]
    exact q
   | .op j u,hy,hok,q=>
    obtain⟨a,x,rfl,ha,hu⟩:=hy
    refine⟨_,rfl,_,rfl,bl,_,_,_,rfl,rfl,SqL.of hb,B3 _ _,a,aB,_,_,_,rfl,rfl,SqT.of ha,T.sB H,_,rfl,?_⟩
    have e0:(decide (jn j="(") && [x].isEmpty)=false:=by simp
    refine IF e0 ?_
    refine⟨_,rfl,rfl,?_⟩
    have e:decide (V.str (sg c)=V.str ")")=(rd (.op j u::r,some t) c).isSome:=by
     show _=(if c=41 then some ((A7 r (.bn j u t)).1,some (A7 r (.bn j u t)).2) else (none:Option RS)).isSome
     have h1:(V.str (sg c)=V.str ")")↔c=41:=Da c 41
     by_cases hc:c=41
     ·rw[if_pos hc,decide_eq_true (h1.mpr hc)];rfl
     ·rw[if_neg hc,decide_eq_false (fun z=>hc (h1.mp z))];rfl
    rw[e]
    exact q
end
section
variable {aN aB:Addr}
theorem scOn:Aj ["sign","begun","whole","part"] ["sign","begun","whole"] (Ag TC):=By
def Kn (aN aB:Addr) (H:Hp) (sv:V) (bl:Addr) (wv:V) (lim:Nat) (s':RS) (m:Nat):L2.St→Hp→Prop:=fun σ H2=>∃(pv:V) (xs:List V) (gs:List Fr2) (t:Tr),σ=[some sv,some (.ref bl),some wv,some pv]∧But60 bl H H2∧H2 bl=some (.lst xs)∧DV aN aB H2 xs gs∧t.At H2 pv∧
 s'=((A7 gs t).1,some (A7 gs t).2)∧xs.length≤lim∧gs.length=m
theorem Tm (F:Fun K "read_on" "read_on" TC f fd) (T:PZ P w K mg aN aB):FnOk P w K mg bz A8 1 f fd ["sign","begun","whole"] (Te aN aB):=by
 refine F.ok scOn (fun vs H Q E h=>?_) (fun cdv A outer s H vs Q E hr h=>?_)
 ·obtain⟨c,bl,xs,fs,wh,wv,s',rfl,_⟩:=h
  rfl
 obtain⟨c,bl,xs,fs,wh,wv,s',rfl,hc,hb,hst,hw,hok,hrd,hlen,q⟩:=h
 obtain⟨tL,mL⟩:=T.let'
 obtain⟨dK,mK,hK⟩:=T.ki
 refine⟨_,Ad (Aw (Am AO (pv 0) Ak (As _)) (Ad (An (Bx PySem.F.plainAttrs_list PySem.F.slot_list_append PySem.F.type_list_append AZ (pv 1) (Aa (AB (v:=.ref aN) (by rfl) T.nt rfl) Ab))) (Ac (Ar Cv))) Au)
  (Ad (Aw (Am AO (pv 0) Ak (As _)) (Ad (An (Bx PySem.F.plainAttrs_list PySem.F.slot_list_append PySem.F.type_list_append AZ (pv 1) (Aa (AB (v:=.ref aB) (by rfl) T.br rfl) Ab))) (Ac (Ar Cv))) Au)
  (Ad (Aw (Am MY (pv 0) (AB (v:=.ref dK) (by rfl) mK rfl) (by with_unfolding_all rfl)) (Ad (Nt (BW (Aa (AQ M7 (AB (v:=.ref dK) (by rfl) mK rfl) (pv 0) (fun _ _=>rfl)) (Aa (pv 2) Ab))) (OK (pv 1) (FF DZ Ai) ON)) (Ac (Ar Cv))) Au)
  (Ad (Aw (Am AO (pv 0) Ak (As _))
   (Ac (Ap (i:=3) scOn.nd rfl (Or.inl rfl) (AE Lj (BY PySem.F.plainAttrs_list PySem.F.slot_list_pop PySem.F.type_list_pop Cf (pv 1)) (BW (Aa (pv 2) Ab)))))
   (Ac (Ap (i:=3) scOn.nd rfl (Or.inl rfl) (BW (Aa Ak (Aa (Bx PySem.F.plainAttrs_str PySem.F.slot_str_index PySem.F.type_str_index LO (AB (v:=.str "abcde") (by rfl) mL ⟨_,rfl⟩) (Aa (pv 0) Ab)) Ab))))))
  (Ad (DD PassesOwn.never (Jx (Bk (pv 1) (fun _=>rfl)) (Hn (Am (KC hr.units0) (AQ Ba (pv 1) (FF DZ Ai) (fun _ _=>rfl)) (AB (v:=.ref aN) (by rfl) T.nt rfl) (As _)))).pt
   (Ac (Ap (i:=3) scOn.nd rfl (Or.inl rfl) (AE Lj (BY PySem.F.plainAttrs_list PySem.F.slot_list_pop PySem.F.type_list_pop Cf (pv 1)) (BW (Aa (pv 3) Ab))))))
  (Ac (Ar (pv 3))))))),?_⟩
 have hl900:xs.length<sizeLine:=AI (by omega)
 refine⟨_,rfl,rfl,_,rfl,?_⟩
 refine CZ (fun c1=>?_) (fun c1=>?_)
 ·
  have hc1:c=45:=(Da c 45).mp (of_decide_eq_true c1)
  refine⟨_,rfl,.inl ⟨rfl,_,SqL.of hb⟩,bl,_,_,rfl,rfl,hb,hl900,?_⟩
  have e:s'=(.nt::fs,none):=by
   cases wh with
   | none=>
    rw[hc1] at hrd
    exact (Option.some.inj hrd).symm
   | some t=>
    rw[hc1] at hrd
    exfalso
    match fs,hrd with
    | [],hrd=>cases hrd
    | .br::r,hrd=>cases hrd
    | .op j u::r,hrd=>cases hrd
    | .nt::r,hrd=>cases hrd
  subst e
  exact q .non _ _ But60.upd upd_same (EH (BJ (TS.lst hb) hst) rfl) rfl (by rw[List.length_append];exact Nat.le_refl _)
 refine⟨_,rfl,rfl,_,rfl,?_⟩
 have n45:c≠45:=fun z=>c1 (decide_eq_true ((Da c 45).mpr z))
 refine CZ (fun c2=>?_) (fun c2=>?_)
 ·have hc2:c=40:=(Da c 40).mp (of_decide_eq_true c2)
  refine⟨_,rfl,.inl ⟨rfl,_,SqL.of hb⟩,bl,_,_,rfl,rfl,hb,hl900,?_⟩
  have e:s'=(.br::fs,none):=by
   cases wh with
   | none=>
    rw[hc2] at hrd
    exact (Option.some.inj hrd).symm
   | some t=>
    rw[hc2] at hrd
    exfalso
    match fs,hrd with
    | [],hrd=>cases hrd
    | .br::r,hrd=>cases hrd
    | .op j u::r,hrd=>cases hrd
    | .nt::r,hrd=>cases hrd
  subst e
  exact q .non _ _ But60.upd upd_same (EH (BJ (TS.lst hb) hst) rfl) rfl (by rw[List.length_append];exact Nat.le_refl _)
 have n40:c≠40:=fun z=>c2 (decide_eq_true ((Da c 40).mpr z))
 refine⟨_,rfl,dK,_,_,rfl,rfl,hK,_,rfl,?_⟩
 cases ej:D6 c with
 | some j=>
  refine MS (by rw[ED,ej];rfl) ?_
  have hwr:∃t r,wh=some t∧fs= .br::r∧s'=(.op j t::r,none):=by
   cases wh with
   | none=>
    exfalso
    have e:Pa fs c=some s':=hrd
    unfold Pa at e
    have hnl:¬(97≤c∧c≤101):=by
     intro z
     unfold D6 at ej
     rw[if_neg (by omega),if_neg (by omega),if_neg (by omega),if_neg (by omega)] at ej
     cases ej
    rw[if_neg hnl,if_neg n45,if_neg n40] at e
    cases e
   | some t=>
    match fs,hrd,hok with
    | [],hrd,_=>cases hrd
    | .br::r,hrd,_=>
     have e:(D6 c).map (fun j=>((.op j t::r,none):RS))=some s':=hrd
     rw[ej] at e
     exact⟨t,r,rfl,rfl,(Option.some.inj e).symm⟩
    | .op j2 u::r,hrd,_=>
     have e:(if c=41 then some ((A7 r (.bn j2 u t)).1,some (A7 r (.bn j2 u t)).2) else (none:Option RS))=some s':=hrd
     exfalso
     have n41:c≠41:=by
      intro z
      rw[z] at ej
      cases ej
     rw[if_neg n41] at e
     cases e
    | .nt::r,hrd,_=>cases hrd
  obtain⟨t,r,rfl,rfl,rfl⟩:=hwr
  obtain⟨xs',y,rfl,hst',hy⟩:=Ez hst
  refine⟨_,rfl,dK,_,_,_,rfl,rfl,hK,(by rw[ED,ej];rfl),_,rfl,IK,fun a ha=>?_⟩
  have hba:bl≠a:=Af hb ha
  have s1:Same H (upd H a (.tup [.str (jn j),wv])):=Ae ha _
  refine⟨_,rfl,_,rfl,bl,_,_,_,rfl,rfl,s1 _ _ hb,Pd _ _,?_⟩
  have bt:But60 bl H (upd (upd H a (.tup [.str (jn j),wv])) bl (.lst ((xs'++[y]).set xs'.length (.ref a)))):=(But60.new ha).trans But60.upd
  refine q .non _ _ bt upd_same ?_ rfl (by rw[EL,List.length_append,List.length_append];exact Nat.le_succ _)
  rw[EL]
  rw[EL] at bt
  exact EH (BJ (bt.ts hb) hst') ⟨a,wv,rfl,by rw[Ah hba.symm,upd_same],hw.keep (bt.ts hb)⟩
 | none=>
  refine IF (by rw[ED,ej];rfl) ?_
  refine⟨_,rfl,rfl,_,rfl,?_⟩
  have fin:∀(pv:V) (xs2:List V) (gs:List Fr2) (t:Tr) (H2:Hp),But60 bl H H2→H2 bl=some (.lst xs2)→DV aN aB H2 xs2 gs→t.At H2 pv→s'=((A7 gs t).1,some (A7 gs t).2)→xs2.length≤xs.length→
    Kn aN aB H (.str (sg c)) bl wv xs.length s' gs.length [some (.str (sg c)),some (.ref bl),some wv,some pv] H2:=fun pv xs2 gs t H2 b1 b2 b3 b4 b5 b6=>⟨pv,xs2,gs,t,rfl,b1,b2,b3,b4,b5,b6,rfl⟩
  refine CZ (fun c3=>?A) (fun c3=>?B)
  case' A=>
   have hc3:c=41:=(Da c 41).mp (of_decide_eq_true c3)
   have hwr:∃t j u r,wh=some t∧fs= .op j u::r∧s'=((A7 r (.bn j u t)).1,some (A7 r (.bn j u t)).2):=by
    cases wh with
    | none=>
     exfalso
     have e:Pa fs c=some s':=hrd
     rw[hc3] at e
     cases e
    | some t=>
     rw[hc3] at hrd
     match fs,hrd,hok with
     | [],hrd,_=>cases hrd
     | .br::r,hrd,_=>cases hrd
     | .op j u::r,hrd,_=>exact⟨t,j,u,r,rfl,rfl,(Option.some.inj hrd).symm⟩
     | .nt::r,hrd,_=>cases hrd
   obtain⟨t,j,u,r,ew,ef,es⟩:=hwr
   rw[ef] at hst
   rw[ew] at hw
   obtain⟨xs',y,exs,hst',hy⟩:=Ez hst
   obtain⟨a,x,ey,ha,hx⟩:=hy
   have hd:xs.dropLast=xs':=by rw[exs];exact FO xs' y
   have hlast:xs[xs.length-1]? = some (V.ref a):=by rw[exs,←ey];exact BE _ _
   have b1:But60 bl H (upd H bl (.lst xs.dropLast)):=But60.upd
   refine⟨_,rfl,.inl ⟨rfl,_,SqL.of hb⟩,bl,_,_,rfl,rfl,hb,hlast,_,rfl,LU,fun tw htw=>?_⟩
   have k1:TS H (upd H bl (.lst xs.dropLast)):=b1.ts hb
   have k2:TS (upd H bl (.lst xs.dropLast)) (upd (upd H bl (.lst xs.dropLast)) tw (.tup [wv])):=TS.new htw
   refine⟨a,tw,_,_,rfl,rfl,SqT.of (k2 _ _ (k1 _ _ ha)),SqT.of upd_same,(by intro z;cases z),RV,(fun z=>by cases z),fun _ p hp=>?_⟩
   have k3:TS (upd (upd H bl (.lst xs.dropLast)) tw (.tup [wv])) (upd (upd (upd H bl (.lst xs.dropLast)) tw (.tup [wv])) p (.tup ([.str (jn j),x]++[wv]))):=TS.new hp
   have kk:=k1.trans (k2.trans k3)
   have b3:But60 bl H (upd (upd (upd H bl (.lst xs.dropLast)) tw (.tup [wv])) p (.tup ([.str (jn j),x]++[wv]))):=b1.trans ((But60.new htw).trans (But60.new hp))
   have hbl:(upd (upd (upd H bl (.lst xs.dropLast)) tw (.tup [wv])) p (.tup ([.str (jn j),x]++[wv]))) bl=some (.lst xs'):=by
    rw[Ae hp _ _ _ (Ae htw _ _ _ (upd_same (H:=H) (a:=bl) (o:=.lst xs.dropLast))),hd]
   refine⟨Kn aN aB H (.str (sg c)) bl wv xs.length s',⟨_,fin (.ref p) xs' r (.bn j u t) _ b3 hbl (BJ kk hst') ⟨p,x,wv,rfl,upd_same,hx.keep kk,hw.keep kk⟩ es (by rw[exs,List.length_append];exact Nat.le_succ _)⟩,?_⟩
  case' B=>
   have n41:c≠41:=fun z=>c3 (decide_eq_true ((Da c 41).mpr z))
   have hwr:wh=none∧97≤c∧c≤101∧s'=((A7 fs (.lt (c-97))).1,some (A7 fs (.lt (c-97))).2):=by
    cases wh with
    | none=>
     have e:Pa fs c=some s':=hrd
     unfold Pa at e
     by_cases hl:97≤c∧c≤101
     ·rw[if_pos hl] at e
      exact⟨rfl,hl.1,hl.2,(Option.some.inj e).symm⟩
     ·rw[if_neg hl,if_neg n45,if_neg n40] at e
      cases e
    | some t=>
     exfalso
     match fs,hrd,hok with
     | [],hrd,_=>cases hrd
     | .br::r,hrd,_=>
      have e:(D6 c).map (fun j=>((.op j t::r,none):RS))=some s':=hrd
      rw[ej] at e
      cases e
     | .op j u::r,hrd,_=>
      have e:(if c=41 then some ((A7 r (.bn j u t)).1,some (A7 r (.bn j u t)).2) else (none:Option RS))=some s':=hrd
      rw[if_neg n41] at e
      cases e
     | .nt::r,hrd,_=>cases hrd
   obtain⟨ew,h97,h101,es⟩:=hwr
   refine⟨rfl,_,rfl,_,_,_,_,rfl,rfl,Qy c (by omega) h97,IK,fun p hp=>?_⟩
   have s1:Same H (upd H p (.tup [.str "let",.int ((c-97:Nat):Int)])):=Ae hp _
   refine⟨Kn aN aB H (.str (sg c)) bl wv xs.length s',⟨_,fin (.ref p) xs fs (.lt (c-97)) _ (But60.new hp) (s1 _ _ hb) (BJ (TS.same s1) hst) ⟨p,rfl,upd_same⟩ es (Nat.le_refl _)⟩,?_⟩
  all_goals
   rintro m σ H3 ⟨pv,xs3,gs,t3,rfl,b3',hb3,hst3,ht3,es3,hl3,rfl⟩
   refine⟨_,rfl,_,.inl ⟨xs3,SqL.of hb3,rfl⟩,?_⟩
   match gs,hst3,es3 with
   | [],hst3,es3=>
    have e:xs3=[]:=List.length_eq_zero_iff.mp (Er hst3)
    refine IF (by rw[e];rfl) ?_
    refine Bu ?_
    refine⟨_,rfl,?_⟩
    rw[es3] at q
    exact q pv xs3 H3 b3' hb3 hst3 ht3 (by omega)
   | g::r3,hst3,es3=>
    obtain⟨ys,y3,eys,hst4,hy3⟩:=Ez hst3
    refine MS (by rw[eys];simp) ?_
    have hat:IM xs3 (-1)=some y3:=by rw[eys];exact B3 _ _
    have hla:xs3[xs3.length-1]? = some y3:=by rw[eys];exact BE _ _
    have hdr:xs3.dropLast=ys:=by rw[eys];exact FO _ _
    match g,hy3,es3 with
    | .br,hy3,es3=>
     cases hy3
     refine⟨_,rfl,_,rfl,bl,_,_,_,rfl,rfl,SqL.of hb3,hat,aB,aN,_,_,_,rfl,rfl,T.sB H3,T.sN H3,_,rfl,?_⟩
     refine IF (by decide) ?_
     refine⟨_,rfl,?_⟩
     rw[es3] at q
     exact q pv xs3 H3 b3' hb3 hst3 ht3 (by omega)
    | .op j3 u3,hy3,es3=>
     obtain⟨a3,x3,rfl,ha3,hu3⟩:=hy3
     refine⟨_,rfl,_,rfl,bl,_,_,_,rfl,rfl,SqL.of hb3,hat,a3,aN,_,_,_,rfl,rfl,SqT.of ha3,T.sN H3,_,rfl,?_⟩
     refine IF (by simp) ?_
     refine⟨_,rfl,?_⟩
     rw[es3] at q
     exact q pv xs3 H3 b3' hb3 hst3 ht3 (by omega)
    | .nt,hy3,es3=>
     cases hy3
     refine⟨_,rfl,_,rfl,bl,_,_,_,rfl,rfl,SqL.of hb3,hat,aN,aN,_,_,_,rfl,rfl,T.sN H3,T.sN H3,_,rfl,?_⟩
     refine MS (by decide) ?_
     refine⟨fun σ' H'=>∃m',m'<(Fr2.nt::r3).length∧Kn aN aB H (.str (sg c)) bl wv xs.length s' m' σ' H',fun _ _ h=>h,?_⟩
     refine⟨_,rfl,.inl ⟨rfl,_,SqL.of hb3⟩,bl,_,_,rfl,rfl,hb3,hla,_,rfl,LU,fun tw htw=>?_⟩
     have b4:But60 bl H3 (upd H3 bl (.lst xs3.dropLast)):=But60.upd
     have k1:TS H3 (upd H3 bl (.lst xs3.dropLast)):=b4.ts hb3
     have k2:TS (upd H3 bl (.lst xs3.dropLast)) (upd (upd H3 bl (.lst xs3.dropLast)) tw (.tup [pv])):=TS.new htw
     refine⟨aN,tw,_,_,rfl,rfl,T.sN _,SqT.of upd_same,(by intro z;cases z),IK,(fun z=>by cases z),fun _ p hp=>?_⟩
     have k3:TS (upd (upd H3 bl (.lst xs3.dropLast)) tw (.tup [pv])) (upd (upd (upd H3 bl (.lst xs3.dropLast)) tw (.tup [pv])) p (.tup ([.str "not"]++[pv]))):=TS.new hp
     have kk:=k1.trans (k2.trans k3)
     have hbl:(upd (upd (upd H3 bl (.lst xs3.dropLast)) tw (.tup [pv])) p (.tup ([.str "not"]++[pv]))) bl=some (.lst ys):=by
      rw[Ae hp _ _ _ (Ae htw _ _ _ (upd_same (H:=H3) (a:=bl) (o:=.lst xs3.dropLast))),hdr]
     exact⟨r3.length,Nat.lt_succ_self _,.ref p,ys,r3,.nt t3,rfl,b3'.trans (b4.trans ((But60.new htw).trans (But60.new hp))),hbl,BJ kk hst4,⟨p,pv,rfl,upd_same,ht3.keep kk⟩,es3,by rw[eys,List.length_append] at hl3;have:ys.length+1≤xs.length:=hl3;omega,rfl⟩
end
def UJ (l:List Nat) (t:Tr):Prop:=Bb l ([],none)=some ([],some t)
def TM (l:List Nat) (k:Nat):Prop:=(∃c s,l[k]? = some c∧Bb (l.take k) ([],none)=some s∧c≠32∧rd s c=none)∨(k=l.length∧∃s,Bb l ([],none)=some s∧(s.2=none∨s.1≠[]))
def QD:Stmt→List Stmt
 | .ClassDef _ _ _ b _ _ _ _ _ _ _=>b
 | _=>[]
abbrev Om:Stmt:=(QD (top 3)).getD 0 (.Pass ⟨0,0,0,0⟩)
def DH (C:Addr):Sp:=fun vs H Q _=>∃(a tp:Addr) (v:V),vs=[.ref a,v]∧H a=some (HA a C tp none)∧∀dx,H dx=none→dx≠a→Q .non (upd (upd H dx (.xd [("at",v)])) a (HA a C tp (some dx)))
def NU (C:Addr):Sp:=fun vs H Q E=>∃(z:Str),vs=[.str z]∧(∀c∈C0 z,c<128)∧z.length≤800∧(∀(t:Tr) (v:V) (H':Hp),UJ (C0 z) t→Same H H'→t.At H' v→Q v H')∧
 ∀(k:Nat) (dx:Addr) (H':Hp),TM (C0 z) k→Same H H'→H' dx=some (.xd [("at",.int (k:Int))])→E (.ref C) (some dx) H'
theorem Uu:SOk ([],none):=⟨(fun t r e=>by cases e),(fun f hf=>absurd hf (by simp)),(fun t e=>by cases e)⟩
theorem JE {z:Str} {i c:Nat} (h:z.cps[i]? = some c):(C0 z)[i]? = some c:=by
 show z.cps.toList[i]? = some c
 simpa using h
theorem HW {z:Str} {i c:Nat} (h:z.cps[i]? = some c):(C0 z).take (i+1)=(C0 z).take i++[c]:=by
 rw[List.take_add_one,JE h]
 rfl
theorem P7 {z:Str} {i c:Nat} (h:z.cps[i]? = some c):c∈C0 z:=List.mem_of_getElem? (JE h)
section
variable {aN aB C cT:Addr}
theorem Rt:Aj ["self","at"] ["self","at"] (Ag Om):=By
theorem PK (F:Fun K "__init__" "NoSentence.__init__" Om f fd) (at_:XAt K C cT) (na:NoAttr K C "at"):FnOk P w K mg bz A8 1 f fd ["self","at"] (DH C):=by
 refine F.ok Rt (fun vs H Q E h=>?_) (fun cdv A outer s H vs Q E hr h=>?_)
 ·obtain⟨a,tp,v,rfl,_⟩:=h
  rfl
 obtain⟨a,tp,v,rfl,ha,q⟩:=h
 refine⟨_,Ac (QQ at_ na (pv 0) (pv 1) rfl),?_⟩
 exact⟨_,rfl,_,rfl,a,tp,rfl,ha,fun dx hd ne=>q dx hd ne⟩
theorem Hu {H H1:Hp} {E:XK} {k:Nat} {a tp:Addr} (sm:Same H H1) (ha:H1 a=none) (hE:∀(dx:Addr) (H':Hp),Same H H'→H' dx=some (.xd [("at",.int (k:Int))])→E (.ref C) (some dx) H') :
  DH C [.ref a,.int (k:Int)] (upd H1 a (HA a C tp none)) (fun v H2=>v= .non∧∃dx,H2 a=some (HA a C tp dx)∧E (.ref C) dx (del H2 a)) E0:=by
 refine⟨a,tp,_,rfl,upd_same,fun dx hd ne=>⟨rfl,some dx,upd_same,hE dx _ (fun b o e=>?_) ?_⟩⟩
 ·have e1:=sm b o e
  have nb:b≠a:=Af e1 ha
  rw[Ah ne] at hd
  have nd:b≠dx:=Af e1 hd
  rw[Fh nb,Ah nb,Ah nd,Ah nb]
  exact e1
 ·rw[Fh ne,Ah ne,upd_same]
theorem scRead:Aj ["text","begun","whole","at","sign"] ["text"] (Ag Ou):=By
def Tp (aN aB:Addr) (H:Hp) (z:Str) (bl:Addr) (i:Nat):L2.St→Hp→Prop:=fun σ H2=>∃(wv:V) (av sv:Option V) (xs:List V) (s:RS),σ=[some (.str z),some (.ref bl),some wv,av,sv]∧Same H H2∧H2 bl=some (.lst xs)∧DV aN aB H2 xs s.1∧WAt H2 wv s.2∧Bb ((C0 z).take i) ([],none)=some s∧xs.length≤i
theorem PV {fC fO fI:Addr} {dC dO dI:FuncData} (F:Fun K "read" "read" Ou f fd) (T:PZ P w K mg aN aB)
  (GC:FnOk P w K mg bz A8 1 fC dC ["sign","begun","whole"] (KA aN aB)) (CC':B5 K mg "can_stand" fC dC ["sign","begun","whole"])
  (GO:FnOk P w K mg bz A8 1 fO dO ["sign","begun","whole"] (Te aN aB)) (CO:B5 K mg "read_on" fO dO ["sign","begun","whole"])
  (GI:FnOk P w K mg bz A8 1 fI dI ["self","at"] (DH C)) (BI:Binds K dI ["self","at"] []) (M:Hj K C cT (some fI)) (at_:XAt K C cT) (ty:typeIn K (.ref C)=some (.type "type")) (hfn:isFn K (.ref fI)=true)
  (mN:mg "NoSentence"=some (.ref C)):FnOk P w K mg bz (Bj P w) 3 f fd ["text"] (NU C):=by
 refine Fun.okX F scRead (fun vs H Q E h=>?_) (fun cdv A outer s H vs Q E hr h=>?_)
 ·obtain⟨z,rfl,_⟩:=h
  rfl
 obtain⟨z,rfl,hlt,hlen,qO,qE⟩:=h
 have hr1:Room 1 _:=hr.mono (Nat.le_succ 1)
 refine⟨_,Ad (Ap (i:=1) scRead.nd rfl (Or.inl rfl) (AA Ab))
  (Ad (Ap (i:=2) scRead.nd rfl (Or.inl rfl) Cv)
  (Ad (CG PassesOwn.leaving rfl (Nu (by rfl) T.enum (Aa (pv 0) Ab)) (MW rfl (DB (AN (i:=3) scRead.nd rfl (Or.inl rfl)) (DB (AN (i:=4) scRead.nd rfl (Or.inl rfl)) K3)))
   (Ad (Aw (Am AO (pv 4) Ak (As _)) (Ac Em) Au)
   (Ad (Aw (Cy (DI (Ao GC hr1 (by rfl) CC'.m CC'.k CC'.b .nil AH (Aa (pv 4) (Aa (pv 1) (Aa (pv 2) Ab)))))) (Ac (Cn (Ex:=E) AM rfl M at_ ty hfn GI hr BI (by rfl) mN (Aa (pv 3) Ab))) Au)
   (Ac (Ap (i:=2) scRead.nd rfl (Or.inl rfl) (Ao GO hr1 (by rfl) CO.m CO.k CO.b .nil AH (Aa (pv 4) (Aa (pv 1) (Aa (pv 2) Ab)))))))))
  (Ad (Aw (Nk (J1 (Ji (pv 2))) (J0 (Bk (pv 1) (fun _=>rfl)))).pt (Ac (Cn (Ex:=E) AM rfl M at_ ty hfn GI hr BI (by rfl) mN (Aa (Ax Dn (by rfl) T.len PySem.boot_len (Aa (pv 0) Ab)) Ab))) Au)
  (Ac (Ar (pv 2)))))),?_⟩
 refine⟨MI,fun bl hbl=>⟨_,rfl,z,rfl,OF (Tp aN aB H z bl) ?_ ?_ ?_⟩⟩
 ·exact⟨.non,none,none,[],([],none),rfl,Ae hbl _,upd_same,.nil,rfl,rfl,Nat.le_refl _⟩
 ·rintro i c T' σ H2 hc hT' ⟨wv,av,sv,xs,s1,rfl,s2,hb2,hst,hw,hr1,hl⟩
  have sT:=Ae hT' (.tup [.int (i:Nat),.str ⟨#[c]⟩])
  have hil:i<z.length:=by
   have:=(Array.getElem?_eq_some_iff.mp hc).1
   exact this
  refine⟨T',_,rfl,SqT.of upd_same,rfl,_,_,rfl,_,_,rfl,rfl,?_⟩
  have hb3:=sT _ _ hb2
  have hst3:=BJ (TS.same sT) hst
  have hw3:=hw.keep (TS.same sT)
  have hc128:=hlt c (P7 hc)
  have ok1:=I8 _ Uu hr1
  refine⟨_,rfl,rfl,_,rfl,?_⟩
  refine CZ (fun c1=>?_) (fun c1=>?_)
  ·have e:c=32:=(Da c 32).mp (of_decide_eq_true c1)
   refine⟨wv,_,_,xs,s1,rfl,s2.trans sT,hb3,hst3,hw3,?_,by omega⟩
   rw[HW hc,Ib,hr1]
   show (if c=32 then some s1 else rd s1 c)=some s1
   rw[if_pos e]
  ·have n32:c≠32:=fun z=>c1 (decide_eq_true ((Da c 32).mpr z))
   refine⟨_,rfl,_,rfl,_,rfl,c,bl,xs,s1.1,s1.2,wv,rfl,hc128,hb3,hst3,hw3,ok1,_,rfl,?_⟩
   cases hrd:rd s1 c with
   | none=>
    refine MS rfl ?_
    refine⟨_,rfl,fun a tp ha=>Hu (s2.trans sT) ha fun dx H' sm' hx=>qE i dx H' (.inl ⟨c,s1,JE hc,hr1,n32,hrd⟩) sm' hx⟩
   | some s1'=>
    refine IF rfl ?_
    refine⟨_,rfl,_,rfl,_,rfl,c,bl,xs,s1.1,s1.2,wv,s1',rfl,hc128,hb3,hst3,hw3,ok1,hrd,by omega,fun v xs' H4 b4 hb4 hst4 hw4 hl4=>?_⟩
    refine⟨v,_,_,xs',s1',rfl,fun b o e=>?_,hb4,hst4,hw4,?_,by omega⟩
    ·exact b4 b o (sT b o (s2 b o e)) (Af e hbl)
    ·rw[HW hc,Ib,hr1]
     show (if c=32 then some s1 else rd s1 c)=some s1'
     rw[if_neg n32]
     exact hrd
 ·rintro σ H2 ⟨wv,av,sv,xs,s1,rfl,s2,hb2,hst,hw,hr1,hl⟩
  rw[BR,List.take_length] at hr1
  have e0:((z.length:Nat):Int)=(((C0 z).length:Nat):Int):=by rw[BR]
  have fail:(s1.2=none∨s1.1≠[])→∀a tp,H2 a=none→DH C [.ref a,.int ((z.length:Nat):Int)] (upd H2 a (HA a C tp none)) (fun v H3=>v= .non∧∃dx,H3 a=some (HA a C tp dx)∧E (.ref C) dx (del H3 a)) E0:=fun hs a tp ha=>by
   rw[e0]
   exact Hu s2 ha fun dx H' sm' hx=>qE (C0 z).length dx H' (.inr ⟨rfl,s1,hr1,hs⟩) sm' hx
  have hz:z.length≤sizeLine:=Nat.le_of_lt (AI (by omega))
  obtain⟨fs,wh⟩:=s1
  refine⟨_,rfl,_,rfl,?_⟩
  cases wh with
  | none=>
   cases hw
   refine Bo rfl ?_
   exact BH ⟨_,rfl,z,rfl,hz,fail (.inl rfl)⟩
  | some t=>
   obtain⟨p,ep⟩:=WAt.some hw
   refine A3 (by rw[ep];intro z;cases z) ?_
   refine⟨_,rfl,_,.inl ⟨xs,SqL.of hb2,rfl⟩,?_⟩
   match fs,hst,hr1,fail with
   | [],hst,hr1,fail=>
    have e:xs=[]:=List.length_eq_zero_iff.mp (Er hst)
    refine IF (by rw[e];rfl) ?_
    exact⟨_,rfl,qO t wv H2 hr1 s2 hw⟩
   | g::r,hst,hr1,fail=>
    have ne:xs.isEmpty=false:=by
     have:=Er hst
     cases xs with
     | nil=>cases this
     | cons _ _=>rfl
    refine MS (by rw[ne];rfl) ?_
    exact⟨_,rfl,z,rfl,hz,fail (.inr (by intro z;cases z))⟩
end
abbrev Fc:Stmt:=top 62
abbrev EJ:Stmt:=top 81
abbrev Dk:Stmt:=top 82
abbrev Dj:Stmt:=top 80
abbrev IR:Stmt:=AJ (top 68) 23
abbrev JO:Stmt:=AJ (top 14) 0
structure Uk (P:Program) (w:World) (K:PySem.W.Frag) (mg:Str→Option Value) (aF aS:Addr):Prop where
 fig:mg "FIGURES"=some (.ref aF)
 sF:∀H,SqT K H aF [.str "1",.str "2",.str "3",.str "4",.str "5"]
 sz:mg "SIZES"=some (.ref aS)
 szd:∃f,Hv P w K aS f∧f ""=none
structure XI (P:Program) (w:World) (K:PySem.W.Frag) (mg:Str→Option Value) (bz:Heap) (nm:Str) (C cT fI:Addr) (dI:FuncData):Prop where
 M:Hj K C cT (some fI)
 at_:XAt K C cT
 ty:typeIn K (.ref C)=some (.type "type")
 hfn:isFn K (.ref fI)=true
 GI:FnOk P w K mg bz A8 1 fI dI ["self","at"] (DH C)
 BI:Binds K dI ["self","at"] []
 mN:mg nm=some (.ref C)
theorem Pt {U:Hk} {m:Nat}:(DQ U m).lookup ("last_line":Str)=none:=by with_unfolding_all rfl
def Hb:Sp:=fun vs H Q _=>∃z:Str,vs=[.str z]∧z.length≤100000∧(Txt.split z " ").length≤100000∧∀(l:Addr) (H':Hp),Same H H'→H l=none→H' l=some (.lst ((Txt.split z " ").map V.str))→Q (.ref l) H'
def Lm (C:Addr):Sp:=fun vs H Q _=>∃(x:Addr) (U:Hk) (m:Nat) (l:V) (ls:List V),vs=[.ref x]∧H x=some (.ins C U.dx (DQ U m))∧H U.ln=some (.lst (ls++[l]))∧Q l H
def Gh (C:Addr):Sp:=fun vs H Q _=>(vs=[.str ""]∧∀H',Same H H'→Q .non H')∨∃m:Nat,vs=[.str (Bq m [])]∧1≤m∧m≤5∧∀(x:Addr) (H':Hp),Same H H'→Q (.ref x) H'
def Eg:Sp:=fun vs H Q _=>∃x:V,vs=[x,.str ""]∧∀H',Same H H'→Q (.bl false) H'
def Ec (C:Addr):Sp:=fun vs H Q E=>∃l:Addr,vs=[.ref l]∧(H l=some (.lst [.str ""])∨∃m:Nat,H l=some (.lst [.str (Bq m []),.str ""])∧1≤m∧m≤5)∧∀(dx:Addr) (fs:List (Str×V)) (H':Hp),Same H H'→H' dx=some (.xd fs)→E (.ref C) (some dx) H'
def FL:Sp:=fun _ _ _ _=>False
theorem FnOk.never60 {P:Program} {w:World} {K:PySem.W.Frag} {mg:Str→Option Value} {bz:Heap} {CX:Kc} {k:Nat} {f:Addr} {fd:FuncData} {ps:List Str}:FnOk P w K mg bz CX k f fd ps FL:=⟨fun _ _ _ _ h=>h.elim,fun _ _ _ _ _ _ _ _ _ _ _ _ _ h=>h.elim⟩
theorem GT (m:Nat):Bv (2^m)≠[]:=fun e=>by
 have:(0:Int)∈Bv (2^m):=mem_upto.mpr ⟨Int.le_refl _,by have:0<2^m:=Nat.pow_pos (by decide);omega⟩
 rw[e] at this
 cases this
theorem HQ:∀m:Nat,1≤m→m≤5→Txt.split (Bq m []) " "=[("house":Str),Str.ofString (toString (m:Int))]∧(Bq m []).length≤10∧intText? (Str.ofString (toString (m:Int)))=some (m:Int)∧(Str.ofString (toString (m:Int))).length≤640∧O8 (.str (Str.ofString (toString (m:Int)))) [.str "1",.str "2",.str "3",.str "4",.str "5"]=true:=by
 intro m h1 h5
 rcases (show m=1∨m=2∨m=3∨m=4∨m=5 by omega) with rfl | rfl | rfl | rfl | rfl<;>decide +kernel
theorem BP:Txt.split ("":Str) " "=[("":Str)]:=by decide +kernel
section
variable {cH cS cW cT cNB:Addr} {aF aS:Addr}
theorem Mi:Aj ["line"] ["line"] (Ag Fc):=By
theorem scHouseBy:Aj ["line","words","house"] ["line"] (Ag EJ):=By
theorem scDoneAgain:Aj ["house","line","words","deed"] ["house","line"] (Ag Dk):=By
theorem scReadHouse:Aj ["lines","house","at","line"] ["lines"] (Ag Dj):=By
theorem QC:Aj ["self"] ["self"] (Ag IR):=By
theorem Qn:Aj ["self","at"] ["self","at"] (Ag JO):=By
theorem OW (F:Fun K "__init__" "NoBook.__init__" JO f fd) (at_:XAt K cNB cT) (na:NoAttr K cNB "at"):FnOk P w K mg bz A8 1 f fd ["self","at"] (DH cNB):=by
 refine F.ok Qn (fun vs H Q E h=>?_) (fun cdv A outer s H vs Q E hr h=>?_)
 ·obtain⟨a,tp,v,rfl,_⟩:=h
  rfl
 obtain⟨a,tp,v,rfl,ha,q⟩:=h
 refine⟨_,Ac (QQ at_ na (pv 0) (pv 1) rfl),?_⟩
 exact⟨_,rfl,_,rfl,a,tp,rfl,ha,fun dx hd ne=>q dx hd ne⟩
theorem Of (F:Fun K "words_of" "words_of" Fc f fd):FnOk P w K mg bz A8 1 f fd ["line"] Hb:=by
 refine F.ok Mi (fun vs H Q E h=>?_) (fun cdv A outer s H vs Q E hr h=>?_)
 ·obtain⟨z,rfl,_⟩:=h
  rfl
 obtain⟨z,rfl,hz,hn,q⟩:=h
 refine⟨_,Ac (Ar (Bx PySem.F.plainAttrs_str PySem.F.slot_str_split PySem.F.type_str_split Na (pv 0) (Aa Ak Ab))),?_⟩
 exact⟨_,rfl,rfl,z,_,rfl,rfl,by decide,hz,hn,fun l hl=>q l _ (Ae hl _) hl upd_same⟩
theorem Nv (F:Fun K "last_line" "House.last_line" IR f fd) (HX:Hy K cH):FnOk P w K mg bz A8 1 f fd ["self"] (Lm cH):=by
 refine F.ok QC (fun vs H Q E h=>?_) (fun cdv A outer s H vs Q E hr h=>?_)
 ·obtain⟨x,U,m,l,ls,rfl,_⟩:=h
  rfl
 obtain⟨x,U,m,l,ls,rfl,hx,hl,q⟩:=h
 refine⟨_,Ac (Ar (AQ Ba (A6 (pv 0) rfl) (FF DZ Ai) (fun _ _=>rfl))),?_⟩
 exact⟨_,rfl,x,cH,_,_,_,rfl,hx,HX.cl,HX.lines,HY,_,rfl,U.ln,_,_,_,rfl,rfl,SqL.of hl,B3 _ _,q⟩
theorem Qo {g:Addr} {gd:FuncData} (F:Fun K "done_again" "done_again" Dk f fd) (T:HB mg) (B:Bl mg) (BX:Uk P w K mg aF aS) (GW:FnOk P w K mg bz A8 1 g gd ["line"] Hb) (CW:B5 K mg "words_of" g gd ["line"]):FnOk P w K mg bz A8 2 f fd ["house","line"] Eg:=by
 refine F.ok scDoneAgain (fun vs H Q E h=>?_) (fun cdv A outer s H vs Q E hr h=>?_)
 ·obtain⟨x,rfl,_⟩:=h
  rfl
 obtain⟨x,rfl,q⟩:=h
 obtain⟨fs,hfs,f0⟩:=BX.szd
 refine⟨_,Ad (Ap (i:=2) scDoneAgain.nd rfl (Or.inl rfl) (Ao GW hr (by rfl) CW.m CW.k CW.b .nil AH (Aa (pv 1) Ab))) (Ad (Aw (Am QP (Po (AB (v:=.ref aS) (by rfl) BX.sz rfl) (Aa (AQ Ba (pv 2) Ai (fun _ _=>rfl)) Ab)) (Ax BD (by rfl) B.len PySem.boot_len (Aa (pv 2) Ab)) (As _))
   (Ac (Ar FG))
   Au) Gg),?_⟩
 refine⟨_,rfl,"",rfl,by decide,by rw[BP];decide,fun l H1 s1 l0 hl=>?_⟩
 rw[BP] at hl
 refine⟨aS,fs,rfl,hfs,_,rfl,l,_,_,_,rfl,rfl,SqL.of hl,Av (j:=0) rfl,"",rfl,_,rfl,l,_,rfl,.inl (SqL.of hl),?_⟩
 rw[f0]
 refine⟨rfl,_,rfl,BH ?_⟩
 exact q H1 s1
theorem Jo {g fI gr ml:Addr} {gd dI dr el:FuncData} (F:Fun K "house_by" "house_by" EJ f fd) (T:HB mg) (B:Bl mg) (HX:Hy K cH) (XT:Px K mg cT) (BX:Uk P w K mg aF aS) (GW:FnOk P w K mg bz A8 1 g gd ["line"] Hb) (CW:B5 K mg "words_of" g gd ["line"])
  (GI:FnOk P w K mg bz (Bj P w) 5 fI dI ["self","many","standing"] (Hw cH cS cW)) (CI:QE K mg cH "House" fI dI ["self","many","standing"])
  (GR:FnOk P w K mg bz A8 1 gr dr ["text"] FL) (CR:B5 K mg "read" gr dr ["text"])
  (GL:FnOk P w K mg bz A8 1 ml el ["self"] (Lm cH)) (CL:BA K cH "last_line" ml el ["self"]):FnOk P w K mg bz A8 7 f fd ["line"] (Gh cH):=by
 refine F.ok scHouseBy (fun vs H Q E h=>?_) (fun cdv A outer s H vs Q E hr h=>?_)
 ·rcases h with⟨rfl,_⟩|⟨m,rfl,_⟩<;>rfl
 have hr1:Room 1 _:=hr.mono (by decide)
 refine⟨_,Ad (Ap (i:=1) scHouseBy.nd rfl (Or.inl rfl) (Ao GW hr1 (by rfl) CW.m CW.k CW.b .nil AH (Aa (pv 0) Ab)))
  (Ad (Aw (Nk (Am QZ (Ax BD (by rfl) B.len PySem.boot_len (Aa (pv 1) Ab)) Ai (As _)) (J0 (Am B9 (AQ Ba (pv 1) Ai (fun _ _=>rfl)) (AB (v:=.ref aF) (by rfl) BX.fig rfl) (by with_unfolding_all rfl)))).pt
   (Ac (Ar Cv))
   Au)
  (Ad (KZ (fun E1 pn1 Ex1 hp=>(Ac (Ap (i:=2) scHouseBy.nd rfl (Or.inl rfl) (Hs CI.make GI hr (by rfl) CI.m CI.b .nil hp (Aa (AW Lv (by rfl) T.int boot_int (Aa (AQ (Oi (K2:=K) rfl) (pv 1) Ai (fun _ _=>rfl)) Ab)) (Aa (PE.nox (Cq (N:=["word"]) (js:=[none]) (cl:=[]) ⟨rfl,rfl,rfl,List.forall_mem_nil _,rfl,rfl,rfl⟩ (Nw (K2:=K) rfl (E6 (Nb (K2:=K) rfl) (pv 1) (Ht Ai) GY)) (fun c1=>(AN (i:=0) (show (["word"]:List Str).Nodup by decide +kernel) rfl (Or.inl rfl))) (fun c1=>B6) (fun c1=>(Ao GR hr1 (by rfl) CR.m CR.k CR.b .nil AH (Aa (pv 0) Ab))))) Ab))))))
   (RL (fun a oe=>(Ac (Ar Cv))) Ll (by rfl) XT.m XT.ty XT.ic XT.bs) rfl rfl)
  (Ac (Ar (O5 (Am AO (BZ (pv 2) HX.cl CL.m GL hr1 CL.b .nil AH) (pv 0) (As _)) (pv 2) Cv))))),?_⟩
 rcases h with⟨rfl,q⟩|⟨m,rfl,hm1,hm5,q⟩
 ·refine⟨_,rfl,"",rfl,by decide,by rw[BP];decide,fun l H1 s1 l0 hl=>?_⟩
  rw[BP] at hl
  refine⟨_,rfl,l,_,rfl,.inl (SqL.of hl),⟨_,_,rfl,rfl,_,rfl,BH ?_⟩⟩
  exact q H1 s1
 ·obtain⟨e1,hz,e2,hz2,e3⟩:=HQ m hm1 hm5
  refine⟨_,rfl,_,rfl,by omega,by rw[e1];show 2≤100000;decide,fun l H1 s1 l0 hl=>?_⟩
  rw[e1] at hl
  refine⟨_,rfl,l,_,rfl,.inl (SqL.of hl),⟨_,_,rfl,rfl,_,rfl,Bu ?_⟩⟩
  refine⟨_,rfl,l,_,_,_,rfl,rfl,SqL.of hl,Av (j:=1) rfl,aF,_,rfl,.inr (BX.sF H1),rfl,rfl,_,rfl,?_⟩
  rw[if_pos rfl,e3]
  refine Bu ?_
  refine⟨fun _ _ _=>False,?_,fun _ _ _ z=>z.elim⟩
  refine⟨_,rfl,l,_,_,_,rfl,rfl,SqL.of hl,Av (j:=1) rfl,_,_,rfl,hz2,e2,_,rfl,_,rfl,l,_,rfl,SqL.of hl,fun p hp=>⟨p,rfl,⟨_,SqL.of upd_same⟩,fun cc acc hacc=>Bc (xs:=[]) (fun _ σ Hi=>Hi=upd (upd H1 p (.lst [])) acc (.lst [])) rfl (fun i σ Hi _ e=>?_) (fun i x σ Hi hx=>by simp at hx) fun σ Hi e=>?_⟩⟩
  ·subst e
   exact SqL.of (by rw[Ah (Af upd_same hacc)];exact upd_same)
  subst e
  have s2:Same H1 (upd (upd H1 p (.lst [])) acc (.lst [])):=(Ae hp _).trans (Ae hacc _)
  have st2:upd (upd H1 p (.lst [])) acc (.lst []) acc=some (.lst []):=upd_same
  generalize upd (upd H1 p (.lst [])) acc (.lst [])=H2 at *
  intro x dx hx hdx nex
  have sM:Same H2 (upd (upd H2 dx (.own x)) x (.ins cH dx [])):=(Ae hdx _).trans (Ae (by rw[Ah nex.symm];exact hx) _)
  refine⟨x,dx,acc,m,[],[],rfl,upd_same,sM _ _ st2,.nil,(fun t ht=>nomatch ht),(by show 0≤100;decide),hm1,hm5,(fun⟨t,ht,_⟩=>nomatch ht),(fun _ he=>absurd he (GT m)),fun _ _ U H3 b3 sp0 mk0 tk0 ln0 hx3 hsp3 hmk3 htk3 hln3=>⟨rfl,?_⟩⟩
  have s3:Same H2 H3:=BG hx hdx nex b3
  refine⟨_,rfl,x,_,_,rfl,hx3,Pt,x,U,m,_,[],rfl,hx3,hln3,_,rfl,rfl,_,rfl,Bo rfl ?_⟩
  exact⟨_,rfl,q x H3 (s1.trans (s2.trans s3))⟩
theorem M1 {g1 g2 fI:Addr} {d1 d2 dI:FuncData} (F:Fun K "read_house" "read_house" Dj f fd) (HE:mg "enumerate"=none) (XB:XI P w K mg bz "NoBook" cNB cT fI dI) (GH:FnOk P w K mg bz A8 7 g1 d1 ["line"] (Gh cH)) (CH:B5 K mg "house_by" g1 d1 ["line"])
  (GD:FnOk P w K mg bz A8 2 g2 d2 ["house","line"] Eg) (CD:B5 K mg "done_again" g2 d2 ["house","line"]):FnOk P w K mg bz (Bj P w) 8 f fd ["lines"] (Ec cNB):=by
 refine Fun.okX F scReadHouse (fun vs H Q E h=>?_) (fun cdv A outer s H vs Q E hr h=>?_)
 ·obtain⟨l,rfl,_⟩:=h
  rfl
 obtain⟨l,rfl,hl,q⟩:=h
 have hr2:Room 2 _:=hr.mono (by decide)
 refine⟨_,Ad (Aw (Cy (Bk (pv 0) (fun _=>rfl)))
   (Ac (Cn (Ex:=E) AM rfl XB.M XB.at_ XB.ty XB.hfn XB.GI hr2 XB.BI (by rfl) XB.mN (Aa Ai Ab)))
   Au)
  (Ad (Ap (i:=1) scReadHouse.nd rfl (Or.inl rfl) (Ao GH hr (by rfl) CH.m CH.k CH.b .nil AH (Aa (AQ Ba (pv 0) Ai (fun _ _=>rfl)) Ab)))
  (Ad (Aw (J1 (Ji (pv 1)))
   (Ac (Cn (Ex:=E) AM rfl XB.M XB.at_ XB.ty XB.hfn XB.GI hr2 XB.BI (by rfl) XB.mN (Aa Ai Ab)))
   Au)
  (Ad (CG PassesOwn.leaving rfl (NV (by rfl) HE (Aa (E6 KL (pv 0) (Ht Ai) GY) Ab)) (MW rfl (DB (AN (i:=2) scReadHouse.nd rfl (Or.inl rfl)) (DB (AN (i:=3) scReadHouse.nd rfl (Or.inl rfl)) K3)))
   (Ac (Aw (Cy (DI (Ao GD hr2 (by rfl) CD.m CD.k CD.b .nil AH (Aa (pv 1) (Aa (pv 3) Ab)))))
    (Ac (Cn (Ex:=E) AM rfl XB.M XB.at_ XB.ty XB.hfn XB.GI hr2 XB.BI (by rfl) XB.mN (Aa (pv 2) Ab)))
    Au)))
  (Ac (Ar (pv 1)))))),?_⟩
 rcases hl with hl | ⟨m,hl,hm1,hm5⟩
 ·refine⟨_,rfl,true,.inl ⟨_,SqL.of hl,rfl⟩,Bu ?_⟩
  refine⟨_,rfl,l,_,_,_,rfl,rfl,SqL.of hl,Av (j:=0) rfl,.inl ⟨rfl,fun H1 s1=>?_⟩⟩
  refine⟨_,rfl,_,rfl,BH fun a tp ha=>?_⟩
  exact Hu (k:=0) s1 ha fun dx H' sm' hx=>q dx _ H' sm' hx
 ·refine⟨_,rfl,true,.inl ⟨_,SqL.of hl,rfl⟩,Bu ?_⟩
  refine⟨_,rfl,l,_,_,_,rfl,rfl,SqL.of hl,Av (j:=0) rfl,.inr ⟨m,rfl,hm1,hm5,fun x H1 s1=>?_⟩⟩
  refine⟨_,rfl,_,rfl,Bu ?_⟩
  refine⟨_,rfl,_,rfl,l,_,rfl,SqL.of (s1 _ _ hl),fun p hp=>⟨p,_,rfl,upd_same,LD (xs:=[.str ""]) (fun i σ Hi=>i=0∧(∃v2 v3,σ=[some (.ref l),some (.ref x),v2,v3])∧Same H1 Hi∧Hi p=some (.lst [.str ""])) ⟨rfl,⟨_,_,rfl⟩,Ae hp _,upd_same⟩ (fun i σ Hi _ e=>e.2.2.2) ?_ fun σ Hi e=>by cases e.1⟩⟩
  rintro i y T' σ Hi hy hT ⟨rfl,⟨v2,v3,rfl⟩,si,hpi⟩
  have ey:y= .str "":=by simpa using hy.symm
  subst ey
  have sT:=Ae hT (.tup [.int ((0+1:Nat):Int),.str ""])
  refine⟨T',_,rfl,SqT.of upd_same,rfl,_,_,rfl,_,_,rfl,rfl,?_⟩
  refine⟨_,rfl,_,rfl,_,rfl,fun H3 s3=>⟨_,rfl,BH ?_⟩⟩
  refine⟨_,rfl,fun a tp ha=>?_⟩
  exact Hu (k:=0+1) (s1.trans (si.trans (sT.trans s3))) ha fun dx H' sm' hx=>q dx _ H' sm' hx
end
theorem Kq {m j:Nat} (h:j<m) (h5:m≤5) (b:Bool):BB b (.lt j) (Bv (2^m))≠[]:=fun e=>by
 have hp:(2:Nat)^j<2^m:=Nat.pow_lt_pow_right (by decide) h
 cases b with
 | true=>
  have hm:((2:Int)^j)∈BB true (.lt j) (Bv (2^m)):=by
   unfold BB
   rw[List.mem_filter]
   refine⟨mem_upto.mpr ⟨Int.le_of_lt (pow_pos j),?_⟩,?_⟩
   ·have:((2^j:Nat):Int)<((2^m:Nat):Int):=by omega
    simpa using this
   ·show (Eo j (2^j) == true)=true
    unfold Eo
    rw[Int.ediv_self (Int.ne_of_gt (pow_pos j))]
    decide
  rw[e] at hm;cases hm
 | false=>
  have hm:(0:Int)∈BB false (.lt j) (Bv (2^m)):=by
   unfold BB
   rw[List.mem_filter]
   refine⟨mem_upto.mpr ⟨Int.le_refl _,?_⟩,?_⟩
   ·have:0<2^m:=Nat.pow_pos (by decide)
    omega
   ·show (Eo j 0 == false)=true
    unfold Eo
    rw[Int.zero_ediv]
    decide
  rw[e] at hm;cases hm
theorem NA {kd:Str} {t:Tr} {row:List Int} (h1:BB true t row≠[]) (h2:BB false t row≠[]):[]∉AC kd t row:=by
 unfold AC
 intro z
 split at z
 ·rw[List.mem_singleton] at z;exact h1 z.symm
 ·split at z
  ·rw[List.mem_singleton] at z;exact h2 z.symm
  ·simp only[List.mem_cons,List.not_mem_nil,or_false] at z
   rcases z with z | z
   ·exact h1 z.symm
   ·exact h2 z.symm
abbrev JC:Stmt:=top 85
abbrev alph:Str:="abcdefghijklmnopqrstuvwxyz"
theorem P8:∀j:Nat,j<26→IM alph.cps.toList (j:Int)=some (97+j):=by decide +kernel
theorem NW:alph.length≤sizeLine:=by decide
def EU (z:Str):Prop:=(C0 z).all B1=true
theorem Jz {z:Str} {c:Nat} (h:EU z) (hc:97≤c∧c≤122):EU (z++⟨#[c]⟩):=by
 unfold EU at *
 rw[Cd,List.all_append,h]
 show (true && (B1 c && true))=true
 unfold B1
 rw[decide_eq_true hc];rfl
theorem LR {z:Str} (h:EU z):∀c∈z.cps.toList,c<128:=fun c hc=>by
 have:=List.all_eq_true.mp h c hc
 unfold B1 at this
 have:=of_decide_eq_true this
 omega
theorem goodN.lt {z:Str} (h:goodN z):∀c∈z.cps.toList,c<128:=LR h.2.2
def K0:Sp:=fun vs H Q _=>∃(n:Int),vs=[.int n]∧0≤n∧∀z:Str,goodN z→Q (.str z) H
abbrev IU:Stmt:=top 86
abbrev GX:Stmt:=top 87
abbrev Gz:Stmt:=top 88
def XdOk (dx:Option Addr) (H:Hp):Prop:=∀d,dx=some d→∃fs,H d=some (.xd fs)
theorem Uj {H:Hp}:XdOk none H:=fun _ z=>nomatch z
structure UV (M:List Addr) (C cK:Addr) (H:Hp) (S:HL) (n:Str) (m:Nat):Prop where
 h:HouseT M C cK H S
 m_:S.m=m
 l:S.ls.length≤5
 t:∃p,S.ts=[p]∧p.nm=n∧p.w=Ds m "true" "elder" (.lt (m-1)) (Bv (2^m))
 r:S.room=Bv (2^m)
def KY (C cK:Addr) (adr:Nat→Addr):Sp:=fun vs H Q E=>∃(M:List Addr) (S:HL) (i:Nat) (n:Str) (m:Nat),vs=[.ref S.x,.int (i:Int),.str n,.int (m:Int)]∧UV M C cK H S n m∧goodN n∧6≤i∧i<12∧1≤m∧m≤5∧∀(dx:Option Addr) (H':Hp),But M H H'→XdOk dx H'→E (.ref (adr i)) dx H'
def Iy (adr:Nat→Addr):Sp:=fun vs H Q E=>∃(i:Nat) (n:Str) (m:Nat),vs=[.int (i:Int),.str n,.int (m:Int)]∧goodN n∧¬AX n∧i<12∧1≤m∧m≤5∧(i=1→m≤4)∧∀(dx:Option Addr) (H':Hp),Same H H'→XdOk dx H'→E (.ref (adr i)) dx H'
def ER (i:Nat):List V:=(List.range 13).map fun k=>.bl (decide (k=i) || decide (k=12))
def HR:Sp:=fun vs H Q _=>∃(i:Nat) (n:Str) (m:Nat),vs=[.int (i:Int),.str n,.int (m:Int)]∧goodN n∧¬AX n∧i<12∧1≤m∧m≤5∧(i=1→m≤4)∧∀(l:Addr) (H':Hp),Same H H'→H l=none→H' l=some (.lst (ER i))→Q (.ref l) H'
theorem AF {i:Nat} {j:Nat} (h:i≠j):¬(V.int (i:Int)=V.int (j:Int)):=fun z=>by
 injection z with z
 omega
theorem Iu {n:Str}:¬goodN (n++"Z"):=fun h=>by
 have:=h.2.2
 have e:(n++("Z":Str)).cps.toList=n.cps.toList++[90]:=Cd ..
 rw[e,List.all_append] at this
 have:(B1 90 && true)=true:=(Bool.and_eq_true_iff.mp this).2
 revert this
 decide
theorem Sz {n:Str}:n++"zz"≠n:=fun h=>by
 have:=congrArg (fun z:Str=>(C0 z).length) h
 simp only[Cd,List.length_append] at this
 have e:(C0 ("zz":Str)).length=2:=rfl
 omega
section
variable {cH cK cT:Addr} {adr:Nat→Addr}
theorem scLname:Aj ["_law_n","_law_size","_law_found","_law_turn"] ["_law_n"] (Ag JC):=By
theorem scLmore:Aj ["_law_house","_law_way","_law_name_here","_law_many","_law_one"] ["_law_house","_law_way","_law_name_here","_law_many"] (Ag IU):=By
theorem scLraise:Aj ["_law_way","_law_name_here","_law_many","_law_one","_law_house"] ["_law_way","_law_name_here","_law_many"] (Ag GX):=By
theorem scLkinds:Aj ["_law_way","_law_name_here","_law_many","_law_kinds_here","e"] ["_law_way","_law_name_here","_law_many"] (Ag Gz):=By
theorem Oe (F:Fun K "_law_name" "_law_name" JC f fd) (B:Bl mg):FnOk P w K mg bz A8 1 f fd ["_law_n"] K0:=by
 refine F.ok scLname (fun vs H Q E h=>?_) (fun cdv A outer s H vs Q E hr h=>?_)
 ·obtain⟨n,rfl,_⟩:=h
  rfl
 obtain⟨n,rfl,hn,q⟩:=h
 refine⟨_,Ad (Ap (i:=1) scLname.nd rfl (Or.inl rfl) (AE Dd Ai (AE Dh (pv 0) Ai)))
  (Ad (Ap (i:=0) scLname.nd rfl (Or.inl rfl) (AE K9 (pv 0) Ai))
  (Ad (Ap (i:=2) scLname.nd rfl (Or.inl rfl) Ak)
  (Ad (CG PassesOwn.never rfl (DU (by rfl) B.range (Aa (pv 1) Ab)) (AN (i:=3) scLname.nd rfl (Or.inl rfl))
   (Ad (Ap (i:=2) scLname.nd rfl (Or.inl rfl) (AE Ci (pv 2) (AQ Ni Ak (AE Dh (pv 0) Ai) (fun _ _=>rfl))))
   (Ac (Ap (i:=0) scLname.nd rfl (Or.inl rfl) (AE K9 (pv 0) Ai)))))
  (Ac (Ar (pv 2)))))),?_⟩
 have e0:=Int.emod_nonneg n (show (8:Int)≠0 by decide)
 have e1:=Int.emod_lt_of_pos n (show (0:Int)<8 by decide)
 refine⟨_,rfl,_,_,rfl,rfl,(by show (0:Int)<8;decide),_,_,rfl,rfl,_,rfl,_,_,rfl,rfl,⟨by decide,by decide⟩,?_⟩
 refine⟨_,rfl,_,rfl,(by omega),(by omega),DM (fun i σ H1=>H1=H∧∃(k:Int) (z:Str) (v0:Option V),σ=[some (.int k),some (.int (1+n%8)),some (.str z),v0]∧0≤k∧z.length=i∧EU z) ⟨rfl,_,_,_,rfl,Int.ediv_nonneg hn (by decide),rfl,rfl⟩ ?_ ?_⟩
 ·rintro i σ H1 hi ⟨rfl,k,z,v0,rfl,hk,hz,hs⟩
  have hi8:i<8:=by omega
  have e2:=Int.emod_nonneg k (show (26:Int)≠0 by decide)
  have e3:=Int.emod_lt_of_pos k (show (0:Int)<26 by decide)
  obtain⟨j,hj⟩:=Int.eq_ofNat_of_zero_le e2
  have hj26:j<26:=by omega
  refine⟨_,rfl,_,rfl,_,_,rfl,rfl,(by show (0:Int)<26;decide),_,_,_,rfl,rfl,NW,(by show IM alph.cps.toList (k%26)=_;rw[hj];exact P8 j hj26),_,_,rfl,rfl,?_,?_⟩
  ·show z.length+1≤sizeLine
   rw[hz]
   exact Nat.le_trans (show i+1≤8 by omega) (by decide)
  refine⟨_,rfl,_,_,rfl,rfl,⟨by decide,by decide⟩,rfl,_,_,_,rfl,Int.ediv_nonneg hk (by decide),?_,Jz hs (by omega)⟩
  rw[BR,Cd,List.length_append,←BR,hz];rfl
 ·rintro σ H1 ⟨rfl,k,z,v0,rfl,hk,hz,hs⟩
  refine⟨_,rfl,q z ⟨?_,?_,hs⟩⟩<;>omega
theorem NQ {m1 m2 m3 m4 g5:Addr} {e1 e2 e3 e4 d5:FuncData} (F:Fun K "_law_raise_more" "_law_raise_more" IU f fd) (HX:Hy K cH) (T:HB mg)
  (G1:FnOk P w K mg bz (Bj P w) 4 m1 e1 ["self","name"] (Op cH cK (adr 10) (adr 6))) (C1:BA K cH "end" m1 e1 ["self","name"])
  (G2:FnOk P w K mg bz (Bj P w) 4 m2 e2 ["self","name"] (KQ cH cK (adr 10) (adr 6) (adr 7))) (C2:BA K cH "back" m2 e2 ["self","name"])
  (G3:FnOk P w K mg bz (Bj P w) 7 m3 e3 ["self","name","kind","sentence","rule"] (Fl cH cK (adr 8) (adr 9) (adr 1) (adr 4) (adr 5))) (C3:BA K cH "begin" m3 e3 ["self","name","kind","sentence","rule"])
  (G4:FnOk P w K mg bz (Bj P w) 4 m4 e4 ["self","name"] (Hx cH cK (adr 10))) (C4:BA K cH "held" m4 e4 ["self","name"])
  (G5:FnOk P w K mg bz (Bj P w) 8 g5 d5 ["lines"] (Ec (adr 11))) (C5:B5 K mg "read_house" g5 d5 ["lines"]):FnOk P w K mg bz (Bj P w) 9 f fd ["_law_house","_law_way","_law_name_here","_law_many"] (KY cH cK adr):=by
 refine Fun.okX F scLmore (fun vs H Q E h=>?_) (fun cdv A outer s H vs Q E hr h=>?_)
 ·obtain⟨M,S,i,n,m,rfl,_⟩:=h
  rfl
 obtain⟨M,S,i,n,m,rfl,hO,hn,h6,h12,hm1,hm5,q⟩:=h
 have hr4:Room 4 _:=hr.mono (by decide)
 have hr7:Room 7 _:=hr.mono (by decide)
 refine⟨_,Ad (Ap (i:=4) scLmore.nd rfl (Or.inl rfl) (BW (Aa Ak (Aa (AE N3 (pv 3) Ai) Ab))))
  (Ac (Aw (Am AO (pv 1) Ai (As _))
   (Ad (An (AK (pv 0) HX.cl C1.m G1 hr4 C1.b .nil (Aq (E1:=E) fun _ _ _ h=>h) (Aa (pv 2) Ab)))
   (Ac (An (AK (pv 0) HX.cl C1.m G1 hr4 C1.b .nil (Aq (E1:=E) fun _ _ _ h=>h) (Aa (pv 2) Ab)))))
   (Ac (Aw (Am AO (pv 1) Ai (As _))
    (Ac (An (AK (pv 0) HX.cl C2.m G2 hr4 C2.b .nil (Aq (E1:=E) fun _ _ _ h=>h) (Aa (pv 2) Ab))))
    (Ac (Aw (Am AO (pv 1) Ai (As _))
     (Ac (An (AK (pv 0) HX.cl C3.m G3 hr7 C3.b .nil (Aq (E1:=E) fun _ _ _ h=>h) (Aa (AE Ci (pv 2) Ak) (Aa Ak (Aa (pv 4) (Aa Ak Ab)))))))
     (Ac (Aw (Am AO (pv 1) Ai (As _))
      (Ac (An (AK (pv 0) HX.cl C3.m G3 hr7 C3.b .nil (Aq (E1:=E) fun _ _ _ h=>h) (Aa (pv 2) (Aa Ak (Aa (pv 4) (Aa Ak Ab)))))))
      (Ac (Aw (Am AO (pv 1) Ai (As _))
       (Ac (An (AK (pv 0) HX.cl C4.m G4 hr4 C4.b .nil (Aq (E1:=E) fun _ _ _ h=>h) (Aa (AE Ci (pv 2) Ak) Ab))))
       (Ac (An (Ao G5 hr (by rfl) C5.m C5.k C5.b .nil (Aq (E1:=E) fun _ _ _ h=>h) (Aa (AQ Ba (AA (Aa (AA (Aa Ak Ab)) (Aa (AA (Aa (AE Ci Ak (AW FP (by rfl) T.str boot_str (Aa (pv 3) Ab))) (Aa Ak Ab))) Ab))) (AE Dh (pv 3) Ai) (fun _ _=>rfl)) Ab)))))))))))))),?_⟩
 refine⟨_,rfl,_,_,rfl,rfl,IK,fun q1 hq1=>?_⟩
 dsimp only at hq1 ⊢
 rw[show (m:Int)-1=((m-1:Nat):Int) by omega]
 have s1:=Ae hq1 (.tup [.str "let",.int ((m-1:Nat):Int)])
 have f1:upd H q1 (.tup [.str "let",.int ((m-1:Nat):Int)]) q1=some (.tup [.str "let",.int ((m-1:Nat):Int)]):=upd_same
 generalize upd H q1 _=H1 at *
 have hT1:=hO.h.keep s1
 have hc1:(Tr.lt (m-1)).At (BC M H1) (.ref q1):=⟨q1,rfl,A5 f1 fun z=>hO.h.fr q1 z hq1⟩
 obtain⟨p,hts,hpn,hpw⟩:=hO.t
 have hp:p∈S.ts:=by rw[hts];exact List.mem_cons_self
 have nin:n∈Dl S.ts:=by rw[←hpn];exact List.mem_map_of_mem hp
 have l9:S.ls.length<900:=by have:=hO.l;omega
 have n9:n.length≤100:=by have:=hn.2.1;omega
 have un:∀{r:Tw},r∈S.ts→r=p:=fun h=>by rw[hts] at h;exact List.mem_singleton.mp h
 have qS:∀{H':Hp},Same H1 H'→E (.ref (adr i)) none H':=fun s'=>q none _ (Al (s1.trans s')) Uj
 have pe:p.w.ended=false:=by rw[hpw];rfl
 have pn:p.w.ents=[]:=by rw[hpw];rfl
 have pl:p.w.lefts.length=p.w.ents.length+1:=by rw[hpw];rfl
 have len1:n.length+("Z":Str).length≤sizeLine:=Nat.le_trans (show n.length+1≤9 by have:=hn.2.1;omega) (by decide)
 have len2:n.length+("zz":Str).length≤sizeLine:=Nat.le_trans (show n.length+2≤10 by have:=hn.2.1;omega) (by decide)
 have lenZ:(n++("Z":Str)).length≤100:=by
  rw[BR,Cd,List.length_append,←BR]
  show n.length+1≤100
  have:=hn.2.1
  omega
 have ltZ:∀c∈(n++("Z":Str)).cps.toList,c<128:=fun c hc=>by
  have e:(n++("Z":Str)).cps.toList=n.cps.toList++[90]:=Cd ..
  rw[e] at hc
  rcases List.mem_append.mp hc with h | h
  ·exact hn.lt c h
  ·rw[List.mem_singleton.mp h];decide
 rcases (show i=6∨i=7∨i=8∨i=9∨i=10∨i=11 by omega) with rfl | rfl | rfl | rfl | rfl | rfl
 ·refine⟨_,rfl,rfl,_,rfl,Bo rfl ?_⟩
  refine⟨_,rfl,S.x,_,_,rfl,hT1.h.ob,M5,_,rfl,M,S,n,rfl,hT1,n9,l9,(fun h=>absurd nin h),(fun r hr _ he=>by rw[un hr,pe] at he;cases he),fun r hr hrn he H2 b2 ne2 hT2=>?_⟩
  obtain rfl:=un hr
  refine⟨_,rfl,S.x,_,_,rfl,hT2.h.ob,M5,_,rfl,M,Pk S n r.u (HI r.w) (Ck ["end",n]),n,rfl,hT2,n9,?_,(fun h=>False.elim <| h (by rw[show Dl (Pk S n r.u (HI r.w) (Ck ["end",n])).ts=Dl S.ts from IJ ..];exact nin)),(fun t ht htn he=>?_),fun t ht htn he=>?_⟩
  ·show (S.ls++[_]).length<900
   rw[List.length_append]
   have:=hO.l
   show S.ls.length+1<900
   omega
  ·have t1:=(hT1.tt r hr).1
   exact q none _ (fun b o e=>But.wide (fun c hc=>by
    simp only[List.mem_cons,List.not_mem_nil,or_false] at hc
    rcases hc with rfl | rfl | rfl | rfl
    ·exact t1.ma
    ·exact t1.mg
    ·exact t1.ml
    ·exact hT1.h.ml) b2 b o (Al s1 b o e)) Uj
  ·rcases HH ht with⟨h1,h2⟩|⟨t',h1,_,h2⟩
   ·exact absurd htn h2
   ·rw[h2] at he
    cases (show true=false from he)
 ·refine⟨_,rfl,rfl,_,rfl,A3 (AF (j:=6) (by decide)) ⟨_,rfl,rfl,_,rfl,Bo rfl ?_⟩⟩
  exact⟨_,rfl,S.x,_,_,rfl,hT1.h.ob,Qm,_,rfl,M,S,n,rfl,hT1,n9,l9,(fun r hr=>by rw[un hr];exact pl),(fun h=>absurd nin h),(fun r hr _ he=>by rw[un hr,pe] at he;cases he),(fun r hr _ _ _=>qS fun _ _ e=>e),fun r hr _ _ he=>absurd (by rw[un hr];exact pn) he⟩
 ·refine⟨_,rfl,rfl,_,rfl,A3 (AF (j:=6) (by decide)) ⟨_,rfl,rfl,_,rfl,A3 (AF (j:=7) (by decide)) ⟨_,rfl,rfl,_,rfl,Bo rfl ?_⟩⟩⟩
  exact⟨_,rfl,S.x,_,_,rfl,hT1.h.ob,E9,_,rfl,_,_,rfl,rfl,len1,_,rfl,M,S,n++"Z",_,_,_,.lt (m-1),rfl,hT1,lenZ,ltZ,hc1,(by show m-1<5;omega),(by show 1≤23;decide),by decide,by decide,l9,(by rw[hts];show 1<900;decide),(fun _ H' s'=>qS s'),(fun h=>absurd h Iu),(fun h=>absurd h Iu),(fun h=>absurd h Iu),(fun h=>absurd h Iu),(fun h=>absurd h Iu)⟩
 ·refine⟨_,rfl,rfl,_,rfl,A3 (AF (j:=6) (by decide)) ⟨_,rfl,rfl,_,rfl,A3 (AF (j:=7) (by decide)) ⟨_,rfl,rfl,_,rfl,A3 (AF (j:=8) (by decide)) ⟨_,rfl,rfl,_,rfl,Bo rfl ?_⟩⟩⟩⟩
  exact⟨_,rfl,S.x,_,_,rfl,hT1.h.ob,E9,_,rfl,_,rfl,M,S,n,_,_,_,.lt (m-1),rfl,hT1,n9,hn.lt,hc1,(by show m-1<5;omega),(by show 1≤23;decide),by decide,by decide,l9,(by rw[hts];show 1<900;decide),(fun h=>absurd hn h),(fun _ _ H' s'=>qS s'),(fun _ h=>absurd nin h),(fun _ h=>absurd nin h),(fun _ h=>absurd nin h),(fun _ h=>absurd nin h)⟩
 ·refine⟨_,rfl,rfl,_,rfl,A3 (AF (j:=6) (by decide)) ⟨_,rfl,rfl,_,rfl,A3 (AF (j:=7) (by decide)) ⟨_,rfl,rfl,_,rfl,A3 (AF (j:=8) (by decide)) ⟨_,rfl,rfl,_,rfl,A3 (AF (j:=9) (by decide)) ⟨_,rfl,rfl,_,rfl,Bo rfl ?_⟩⟩⟩⟩⟩
  exact⟨_,rfl,S.x,_,_,rfl,hT1.h.ob,Ld,_,rfl,_,_,rfl,rfl,len2,M,S,n++"zz",rfl,hT1,(fun _=>qS fun _ _ e=>e),fun r hr hrn=>absurd (hrn.symm.trans (by rw[un hr];exact hpn)) Sz⟩
 ·refine⟨_,rfl,rfl,_,rfl,A3 (AF (j:=6) (by decide)) ⟨_,rfl,rfl,_,rfl,A3 (AF (j:=7) (by decide)) ⟨_,rfl,rfl,_,rfl,A3 (AF (j:=8) (by decide)) ⟨_,rfl,rfl,_,rfl,A3 (AF (j:=9) (by decide)) ⟨_,rfl,rfl,_,rfl,A3 (AF (j:=10) (by decide)) ?_⟩⟩⟩⟩⟩
  have em:("house ":Str)++Str.ofString (toString (m:Int))=Bq m []:=by
   rcases (show m=1∨m=2∨m=3∨m=4∨m=5 by omega) with rfl | rfl | rfl | rfl | rfl<;>decide +kernel
  have lm:("house ":Str).length+(Str.ofString (toString (m:Int))).length≤sizeLine:=by
   rcases (show m=1∨m=2∨m=3∨m=4∨m=5 by omega) with rfl | rfl | rfl | rfl | rfl<;>decide +kernel
  refine⟨LU,fun a1 ha1=>⟨_,rfl,_,rfl,by omega,by omega,_,_,rfl,rfl,lm,IK,fun a2 ha2=>⟨IK,fun a3 ha3=>?_⟩⟩⟩
  rw[em]
  have u1:=Ae ha1 (.lst [.str ""])
  have g1:upd H1 a1 (.lst [.str ""]) a1=some (.lst [.str ""]):=upd_same
  rw[em] at ha3
  generalize upd H1 a1 _=H2 at *
  have u2:=Ae ha2 (.lst [.str (Bq m []),.str ""])
  have g2:upd H2 a2 (.lst [.str (Bq m []),.str ""]) a2=some (.lst [.str (Bq m []),.str ""]):=upd_same
  generalize upd H2 a2 _=H3 at *
  have u3:=Ae ha3 (.lst [.ref a1,.ref a2])
  have g3:upd H3 a3 (.lst [.ref a1,.ref a2]) a3=some (.lst [.ref a1,.ref a2]):=upd_same
  generalize upd H3 a3 _=H4 at *
  have qE:∀(l:Addr) (dx:Addr) (fs:List (Str×V)) (H':Hp),Same H4 H'→H' dx=some (.xd fs)→E (.ref (adr 11)) (some dx) H':=fun _ dx fs H' s' hx=>q (some dx) H' (Al (s1.trans (u1.trans (u2.trans (u3.trans s'))))) fun d e=>by cases e;exact⟨fs,hx⟩
  rcases (show m%2=0∨m%2=1 by omega) with e | e
  ·exact⟨_,rfl,_,_,rfl,rfl,(by show (0:Int)<2;decide),a3,_,_,_,rfl,rfl,SqL.of g3,(by rw[show ((m:Int)%2)=((0:Nat):Int) by omega];exact Av rfl),a1,rfl,.inl (u3 _ _ (u2 _ _ g1)),qE a1⟩
  ·exact⟨_,rfl,_,_,rfl,rfl,(by show (0:Int)<2;decide),a3,_,_,_,rfl,rfl,SqL.of g3,(by rw[show ((m:Int)%2)=((1:Nat):Int) by omega];exact Av rfl),a2,rfl,.inr ⟨m,u3 _ _ g2,hm1,hm5⟩,qE a2⟩
theorem Ly (t:Tr):¬UJ (C0 ("(a":Str)) t:=by
 intro h
 have e:Bb (C0 ("(a":Str)) ([],none)=some ([.br],some (.lt 0)):=by with_unfolding_all rfl
 rw[show Bb (C0 ("(a":Str)) ([],none)=some ([],some t) from h] at e
 cases e
theorem LK (m:Nat) (t:Tr):AS m [t,.nt t]=[]:=by
 show ((Bv (2^m)).filter fun k=>tv t k == true).filter (fun k=>tv (.nt t) k == true)=[]
 rw[List.filter_eq_nil_iff]
 intro k hk
 have:=(List.mem_filter.mp hk).2
 have e:tv t k=true:=by simpa using this
 show ¬((!tv t k) == true)=true
 rw[e]
 decide
theorem LY (t:Tr) (room:List Int):BB false t (E7 room (AC "true" t room))=[]:=by
 unfold BB
 rw[List.filter_eq_nil_iff]
 intro k hk
 have h:=(List.mem_filter.mp hk).2
 have e0:AC "true" t room=[BB true t room]:=rfl
 rw[e0] at h
 simp only[List.any_cons,List.any_nil,Bool.or_false] at h
 have h:=of_decide_eq_true h
 have:=(List.mem_filter.mp h).2
 have e:tv t k=true:=by simpa using this
 rw[e]
 decide
theorem Mo {fI gR m1 m2 m3 m4 m5 gO gS gM:Addr} {dI dR e1 e2 e3 e4 e5 dO dS dM:FuncData} (F:Fun K "_law_raise" "_law_raise" GX f fd) (HX:Hy K cH) (T:HB mg)
  (GI:FnOk P w K mg bz (Bj P w) 5 fI dI ["self","many","standing"] (Hw cH (adr 1) (adr 3))) (CI:QE K mg cH "House" fI dI ["self","many","standing"])
  (G3:FnOk P w K mg bz (Bj P w) 7 m3 e3 ["self","name","kind","sentence","rule"] (Fl cH cK (adr 8) (adr 9) (adr 1) (adr 4) (adr 5))) (C3:BA K cH "begin" m3 e3 ["self","name","kind","sentence","rule"])
  (G4:FnOk P w K mg bz (Bj P w) 4 m4 e4 ["self","name"] (Hx cH cK (adr 10))) (C4:BA K cH "held" m4 e4 ["self","name"])
  (GR:FnOk P w K mg bz (Bj P w) 3 gR dR ["text"] (NU (adr 0))) (CR:B5 K mg "read" gR dR ["text"])
  (GP:FnOk P w K mg bz (Bj P w) 4 m2 e2 ["self","sentence"] (Ge cH (adr 1))) (CP:BA K cH "plainly" m2 e2 ["self","sentence"])
  (GK:FnOk P w K mg bz (Bj P w) 3 m5 e5 ["self","letter"] (HM cH (adr 2))) (CK:BA K cH "known" m5 e5 ["self","letter"])
  (GO:FnOk P w K mg bz (Bj P w) 4 gO dO ["many","standing"] (Fe (adr 1) (adr 3))) (CO:B5 K mg "room_of" gO dO ["many","standing"])
  (GS:FnOk P w K mg bz (Bj P w) 4 gS dS ["room","kind","sentence"] (DW K (adr 4) (adr 5))) (CS:B5 K mg "sides_of" gS dS ["room","kind","sentence"])
  (G1:FnOk P w K mg bz A8 1 m1 e1 ["self"] (K1 cH)) (C1:BA K cH "room" m1 e1 ["self"])
  (GM:FnOk P w K mg bz (Bj P w) 9 gM dM ["_law_house","_law_way","_law_name_here","_law_many"] (KY cH cK adr)) (CM:B5 K mg "_law_raise_more" gM dM ["_law_house","_law_way","_law_name_here","_law_many"]):FnOk P w K mg bz (Bj P w) 10 f fd ["_law_way","_law_name_here","_law_many"] (Iy adr):=by
 refine Fun.okX F scLraise (fun vs H Q E h=>?_) (fun cdv A outer s H vs Q E hr h=>?_)
 ·obtain⟨i,n,m,rfl,_⟩:=h
  rfl
 obtain⟨i,n,m,rfl,hn,nk,h12,hm1,hm5,hi1,q⟩:=h
 have hr1:Room 1 _:=hr.mono (by decide)
 have hr3:Room 3 _:=hr.mono (by decide)
 have hr4:Room 4 _:=hr.mono (by decide)
 have hr5:Room 6 _:=hr.mono (by decide)
 have hr7:Room 7 _:=hr.mono (by decide)
 refine⟨_,Ad (Ap (i:=3) scLraise.nd rfl (Or.inl rfl) (BW (Aa Ak (Aa (AE N3 (pv 2) Ai) Ab))))
  (Ad (Ap (i:=4) scLraise.nd rfl (Or.inl rfl) (Hs CI.make GI hr5 (by rfl) CI.m CI.b .nil (Aq (E1:=E) fun _ _ _ h=>h) (Aa (pv 2) (Aa (AA Ab) Ab))))
  (Ad (An (AK (pv 4) HX.cl C3.m G3 hr7 C3.b .nil (Aq (E1:=E) fun _ _ _ h=>h) (Aa (pv 1) (Aa Ak (Aa (pv 3) (Aa Ak Ab))))))
  (Ac (Aw (Am AO (pv 0) Ai (As _))
   (Ac (An (Ao GR hr3 (by rfl) CR.m CR.k CR.b .nil (Aq (E1:=E) fun _ _ _ h=>h) (Aa Ak Ab))))
   (Ac (Aw (Am AO (pv 0) Ai (As _))
    (Ac (An (AK (pv 4) HX.cl CP.m GP hr4 CP.b .nil (Aq (E1:=E) fun _ _ _ h=>h) (Aa (BW (Aa Ak (Aa (pv 2) Ab))) Ab))))
    (Ac (Aw (Am AO (pv 0) Ai (As _))
     (Ac (An (AK (pv 4) HX.cl CK.m GK hr3 CK.b .nil (Aq (E1:=E) fun _ _ _ h=>h) (Aa (pv 2) Ab))))
     (Ac (Aw (Am AO (pv 0) Ai (As _))
      (Ac (An (Ao GO hr4 (by rfl) CO.m CO.k CO.b .nil (Aq (E1:=E) fun _ _ _ h=>h) (Aa (pv 2) (Aa (AA (Aa (pv 3) (Aa (BW (Aa Ak (Aa (pv 3) Ab))) Ab))) Ab)))))
      (Ac (Aw (Am AO (pv 0) Ai (As _))
       (Ac (An (Ao GS hr4 (by rfl) CS.m CS.k CS.b .nil (Aq (E1:=E) fun _ _ _ h=>h) (Aa (BZ (pv 4) HX.cl C1.m G1 hr1 C1.b .nil AH) (Aa (pv 1) (Aa (pv 3) Ab))))))
       (Ac (Aw (Am AO (pv 0) Ai (As _))
        (Ac (An (Ao GS hr4 (by rfl) CS.m CS.k CS.b .nil (Aq (E1:=E) fun _ _ _ h=>h) (Aa (AK (pv 4) HX.cl C4.m G4 hr4 C4.b .nil (Aq (E1:=E) fun _ _ _ h=>h) (Aa (pv 1) Ab)) (Aa Ak (Aa (pv 3) Ab))))))
        (Ac (An (Ao GM hr (by rfl) CM.m CM.k CM.b .nil (Aq (E1:=E) fun _ _ _ h=>h) (Aa (pv 4) (Aa (pv 0) (Aa (pv 1) (Aa (pv 2) Ab))))))))))))))))))))),?_⟩
 refine⟨_,rfl,_,_,rfl,rfl,IK,fun q1 hq1=>?_⟩
 dsimp only at hq1 ⊢
 rw[show (m:Int)-1=((m-1:Nat):Int) by omega]
 have s1:=Ae hq1 (.tup [.str "let",.int ((m-1:Nat):Int)])
 have f1:upd H q1 (.tup [.str "let",.int ((m-1:Nat):Int)]) q1=some (.tup [.str "let",.int ((m-1:Nat):Int)]):=upd_same
 generalize upd H q1 _=H1 at *
 refine⟨_,rfl,MI,fun st hst=>?_⟩
 have s2:=Ae hst (.lst [])
 have st2:upd H1 st (.lst []) st=some (.lst []):=upd_same
 generalize upd H1 st _=H2 at *
 intro x dx hx hdx nex
 have sM:Same H2 (upd (upd H2 dx (.own x)) x (.ins cH dx [])):=(Ae hdx _).trans (Ae (by rw[Ah nex.symm];exact hx) _)
 refine⟨x,dx,st,m,[],[],rfl,upd_same,sM _ _ st2,.nil,(fun t ht=>nomatch ht),(by show 0≤100;decide),hm1,hm5,(fun⟨t,ht,_⟩=>nomatch ht),(fun _ he=>absurd he (GT m)),fun _ _ U H3 b3 sp0 mk0 tk0 ln0 hx3 hsp3 hmk3 htk3 hln3=>⟨rfl,?_⟩⟩
 have s3:Same H2 H3:=BG hx hdx nex b3
 obtain⟨sp2,nspx,_⟩:=BF (C:=cH) sp0
 obtain⟨mk2,nmkx,_⟩:=BF (C:=cH) mk0
 obtain⟨tk2,_,_⟩:=BF (C:=cH) tk0
 obtain⟨ln2,_,_⟩:=BF (C:=cH) ln0
 obtain⟨hT3,c3,_⟩:=Mp (cK:=cK) (ts:=[]) s3 hx tk2 ln2 nspx nmkx hm1 hm5 (GT m) hx3 hsp3 hmk3 htk3 hln3
 have f3:(Tr.lt (m-1)).At (BC [x,U.ln,U.tk] H3) (.ref q1):=⟨q1,rfl,c3 _ _ (s2 _ _ f1)⟩
 have tok:(Tr.lt (m-1)).ok m:=by show m-1<m;omega
 have tok5:(Tr.lt (m-1)).ok 5:=by show m-1<5;omega
 have n9:n.length≤100:=by have:=hn.2.1;omega
 refine⟨_,rfl,x,_,_,rfl,hT3.h.ob,E9,_,rfl,_,rfl,_,_,n,_,_,_,.lt (m-1),rfl,hT3,n9,hn.lt,f3,tok5,(by show 1≤23;decide),by decide,by decide,(by show 1<900;decide),(by show 0<900;decide),(fun h=>absurd hn h),(fun _ h=>nomatch h),(fun _ _ h=>absurd tok h),(fun _ _ _ h=>absurd ⟨by decide,by decide⟩ h),(fun _ _ _ _ _ h=>absurd h (NA (Kq (by omega) hm5 true) (Kq (by omega) hm5 false))),fun _ _ _ _ _ _ a u H4 b4 a0 g0 l0 hT4=>?_⟩
 have s4:Same H2 H4:=fun b o e=>by
  obtain⟨e1,e2⟩:=A4 (c3 b o e)
  exact (A4 (b4 b o (A5 e1 fun z=>e2 (by
   simp only[List.mem_cons,List.not_mem_nil,or_false] at z ⊢
   rcases z with z | z
   ·exact .inr (.inr z)
   ·exact .inr (.inl z))))).1
 have sB:∀{H':Hp},But (a::u.gv::u.lf::[x,U.ln,U.tk]) H4 H'→Same H H':=fun b' b o e=>by
  have e0:=s2 _ _ (s1 _ _ e)
  obtain⟨e1,e2⟩:=A4 (c3 b o e0)
  refine (A4 (b' b o (A5 (s4 _ _ e0) fun z=>?_))).1
  rcases List.mem_cons.mp z with rfl | z
  ·rw[a0] at e1;cases e1
  rcases List.mem_cons.mp z with rfl | z
  ·rw[g0] at e1;cases e1
  rcases List.mem_cons.mp z with rfl | z
  ·rw[l0] at e1;cases e1
  exact e2 z
 have qn:∀{H':Hp},Same H4 H'→E (.ref (adr i)) none H':=fun s'=>q none _ (sB (Al s')) Uj
 have f4:H4 q1=some (.tup [.str "let",.int ((m-1:Nat):Int)]):=s4 _ _ (s2 _ _ f1)
 have hob:=hT4.h.ob
 have em:AS m []=Bv (2^m):=rfl
 have nin:n∈Dl (QW ⟨x,U,m,AS m [],List.replicate m none,[.str (Bq m [])],[]⟩ ⟨n,a,u,Ds m "true" "elder" (.lt (m-1)) (AS m [])⟩ (Ck ["begin",n,"elder","true",Fq (.lt (m-1))])).ts:=List.mem_cons_self
 by_cases c0:i=0
 ·subst c0
  refine⟨_,rfl,rfl,_,rfl,Bo rfl ?_⟩
  exact⟨"(a",rfl,by decide,by decide,fun t v H' h=>absurd h (Ly t),fun k dx H' _ s' hx=>q (some dx) H' (sB (Al s')) fun d e=>by cases e;exact⟨_,hx⟩⟩
 refine⟨_,rfl,rfl,_,rfl,A3 (AF (j:=0) c0) ?_⟩
 by_cases c1:i=1
 ·subst c1
  refine⟨_,rfl,rfl,_,rfl,Bo rfl ?_⟩
  have hm4:=hi1 rfl
  refine⟨_,rfl,x,_,_,rfl,hob,Jg,_,rfl,IK,fun p hp=>?_⟩
  exact⟨x,_,_,_,_,_,_,.ref p,.lt m,rfl,hT4.h.keep (Ae hp _),⟨p,rfl,upd_same⟩,(by show m<5;omega),(by show 1≤60;decide),(fun h=>Nat.lt_irrefl m h),fun H' s'=>qn ((Ae hp _).trans s')⟩
 refine⟨_,rfl,rfl,_,rfl,A3 (AF (j:=1) c1) ?_⟩
 by_cases c2:i=2
 ·subst c2
  refine⟨_,rfl,rfl,_,rfl,Bo rfl ?_⟩
  refine⟨_,rfl,x,_,_,rfl,hob,MZ,_,rfl,x,_,_,_,_,_,_,(m:Int),rfl,hT4.h,fun _ H' s'=>qn s',fun j k e hk=>?_⟩
  have h1:=(List.getElem?_eq_some_iff.mp hk).1
  rw[hT4.h.len] at h1
  have h2:j<m:=h1
  omega
 refine⟨_,rfl,rfl,_,rfl,A3 (AF (j:=2) c2) ?_⟩
 by_cases c3':i=3
 ·subst c3'
  refine⟨_,rfl,rfl,_,rfl,Bo rfl ?_⟩
  refine⟨_,rfl,_,rfl,_,rfl,IK,fun p hp=>⟨IK,fun l hl=>?_⟩⟩
  have u1:=Ae hp (.tup [.str "not",.ref q1])
  have p1:upd H4 p (.tup [.str "not",.ref q1]) p=some (.tup [.str "not",.ref q1]):=upd_same
  generalize upd H4 p _=H5 at *
  have u2:=Ae hl (.lst [.ref q1,.ref p])
  have q5:=u2 _ _ (u1 _ _ f4)
  have p5:=u2 _ _ p1
  refine⟨l,m,_,[.lt (m-1),.nt (.lt (m-1))],rfl,upd_same,.cons ⟨q1,rfl,q5⟩ (.cons ⟨p,_,rfl,p5,q1,rfl,q5⟩ .nil),(fun t ht=>?_),hm1,hm5,(fun⟨t,ht,h⟩=>?_),(fun _ _ H' s'=>qn (u1.trans (u2.trans s'))),fun _ h=>absurd (LK m _) h⟩
  ·rcases List.mem_cons.mp ht with rfl | ht
   ·exact⟨tok5,by show 1≤60;decide⟩
   ·rw[List.mem_singleton.mp ht];exact⟨tok5,by show 2≤60;decide⟩
  ·rcases List.mem_cons.mp ht with rfl | ht
   ·exact absurd tok h
   ·rw[List.mem_singleton.mp ht] at h;exact absurd tok h
 refine⟨_,rfl,rfl,_,rfl,A3 (AF (j:=3) c3') ?_⟩
 by_cases c4:i=4
 ·subst c4
  refine⟨_,rfl,rfl,_,rfl,Bo rfl ?_⟩
  refine⟨_,rfl,x,_,_,rfl,hob,Ql,x,_,m,_,rfl,hob,hT4.h.sp',fun l H5 s5 l5 hl=>?_⟩
  exact⟨_,rfl,_,rfl,l,n,.ref q1,.lt (m-1),_,rfl,⟨q1,rfl,s5 _ _ f4⟩,tok5,(by show 1≤800;decide),SqL.of hl,hT4.h.wr,(fun _ H' s'=>qn (s5.trans s')),(fun h=>absurd h nk),fun h=>absurd h nk⟩
 refine⟨_,rfl,rfl,_,rfl,A3 (AF (j:=4) c4) ?_⟩
 by_cases c5:i=5
 ·subst c5
  refine⟨_,rfl,rfl,_,rfl,Bo rfl ?_⟩
  refine⟨_,rfl,x,_,_,rfl,hob,Ld,_,rfl,_,_,n,rfl,hT4,(fun h=>absurd nin h),fun r hr hrn l H5 s5 l5 hl=>?_⟩
  obtain rfl:r=⟨n,a,u,Ds m "true" "elder" (.lt (m-1)) (AS m [])⟩:=List.mem_singleton.mp hr
  have hin:([]:List Int)∈AC "false" (.lt (m-1)) (E7 (AS m []) (AC "true" (.lt (m-1)) (AS m []))):=by
   show[]∈[BB false (.lt (m-1)) (E7 (AS m []) (AC "true" (.lt (m-1)) (AS m [])))]
   rw[LY]
   exact List.mem_cons_self
  exact⟨_,rfl,l,"false",.ref q1,.lt (m-1),_,rfl,⟨q1,rfl,s5 _ _ f4⟩,tok5,(by show 1≤800;decide),SqL.of hl,(GZ hm5 []).sub List.filter_sublist,(fun h=>absurd (by decide) h),(fun _ _ H' s'=>qn (s5.trans s')),fun _ h=>absurd hin h⟩
 refine⟨_,rfl,rfl,_,rfl,A3 (AF (j:=5) c5) ?_⟩
 exact⟨_,rfl,_,rfl,_,rfl,_,rfl,_,_,i,n,m,rfl,⟨hT4,rfl,(by show 2≤5;decide),⟨_,rfl,rfl,rfl⟩,rfl⟩,hn,by omega,h12,hm1,hm5,fun dx H' b' hx=>q dx H' (sB b') hx⟩
end
theorem XI.m {P:Program} {w:World} {K:PySem.W.Frag} {mg:Str→Option Value} {bz:Heap} {nm:Str} {C cT fI:Addr} {dI:FuncData} (h:XI P w K mg bz nm C cT fI dI):mg nm=some (.ref C):=h.mN
structure N5 (K:PySem.W.Frag) (adr:Nat→Addr) (cT:Addr):Prop where
 at_:∀y,y<12→XAt K (adr y) cT
 up:∀y,y<12→mroIn K (adr y) (.ref cT)=some true
 kv:∀y,y<12→kitOne K (.ref (adr y)) (.type "ValueError")=some true
 ap:∀y j,y<12→j<12→kitOne K (.ref (adr y)) (.ref (adr j))=some (decide (y=j))
theorem XdOk.keep {dx:Option Addr} {H H':Hp} (s:Same H H') (h:XdOk dx H):XdOk dx H':=fun d e=>by
 obtain⟨fs,h1⟩:=h d e
 exact⟨fs,s _ _ h1⟩
theorem Pq {H H':Hp} {l:Addr} (s:Same H H') (h:H' l=none):H l=none:=by
 cases e:H l with
 | none=>rfl
 | some o=>rw[s _ _ e] at h;cases h
theorem Rh:12≤sizeLine:=by decide
theorem MQ {i:Nat} (h:i<12):((List.range 12).map fun j=>V.bl (decide (i=j)))++[.bl true]=ER i:=by
 rcases (show i=0∨i=1∨i=2∨i=3∨i=4∨i=5∨i=6∨i=7∨i=8∨i=9∨i=10∨i=11 by omega) with rfl | rfl | rfl | rfl | rfl | rfl | rfl | rfl | rfl | rfl | rfl | rfl<;>rfl
section
variable {cH cK cT:Addr} {adr:Nat→Addr}
theorem L6 {gC f0 f11:Addr} {dC d0 d11:FuncData} (F:Fun K "_law_kinds" "_law_kinds" Gz f fd) (T:HB mg) (XT:Px K mg cT) (SX:N5 K adr cT)
  (XI0:XI P w K mg bz "NoSentence" (adr 0) cT f0 d0) (XI11:XI P w K mg bz "NoBook" (adr 11) cT f11 d11) (X1:Be K mg "StrangeLetter" (adr 1) cT) (X2:Be K mg "NoLetter" (adr 2) cT) (X3:Be K mg "NoWorld" (adr 3) cT) (X4:Be K mg "BadWord" (adr 4) cT) (X5:Be K mg "NoStanding" (adr 5) cT) (X6:Be K mg "TalkOver" (adr 6) cT) (X7:Be K mg "NothingSaid" (adr 7) cT) (X8:Be K mg "BadName" (adr 8) cT) (X9:Be K mg "NameTaken" (adr 9) cT) (X10:Be K mg "NoTalk" (adr 10) cT)
  (GC:FnOk P w K mg bz (Bj P w) 10 gC dC ["_law_way","_law_name_here","_law_many"] (Iy adr)) (CC:B5 K mg "_law_raise" gC dC ["_law_way","_law_name_here","_law_many"]):FnOk P w K mg bz A8 11 f fd ["_law_way","_law_name_here","_law_many"] HR:=by
 refine F.ok scLkinds (fun vs H Q E h=>?_) (fun cdv A outer s H vs Q E hr h=>?_)
 ·obtain⟨i,n,m,rfl,_⟩:=h
  rfl
 obtain⟨i,n,m,rfl,hn,nk,h12,hm1,hm5,hi1,q⟩:=h
 refine⟨_,Ad (Ap (i:=3) scLkinds.nd rfl (Or.inl rfl) (AA Ab))
  (Ad (KZ (fun E1 pn1 Ex1 hp=>(Ac (An (Ao GC hr (by rfl) CC.m CC.k CC.b .nil hp (Aa (pv 0) (Aa (pv 1) (Aa (pv 2) Ab)))))))
   (Pi (i:=4) (fun a oe=>(Ad (Ap (i:=3) scLkinds.nd rfl (Or.inl rfl) (AA (Aa (Ax AR (by rfl) T.isi boot_isinstance (Aa (pv 4) (Aa (AB (v:=.ref (adr 0)) (by rfl) XI0.m rfl) Ab))) (Aa (Ax AR (by rfl) T.isi boot_isinstance (Aa (pv 4) (Aa (AB (v:=.ref (adr 1)) (by rfl) X1.m rfl) Ab))) (Aa (Ax AR (by rfl) T.isi boot_isinstance (Aa (pv 4) (Aa (AB (v:=.ref (adr 2)) (by rfl) X2.m rfl) Ab))) Ab)))))
   (Ad (Ap (i:=3) scLkinds.nd rfl (Or.inl rfl) (AE Hr (pv 3) (AA (Aa (Ax AR (by rfl) T.isi boot_isinstance (Aa (pv 4) (Aa (AB (v:=.ref (adr 3)) (by rfl) X3.m rfl) Ab))) (Aa (Ax AR (by rfl) T.isi boot_isinstance (Aa (pv 4) (Aa (AB (v:=.ref (adr 4)) (by rfl) X4.m rfl) Ab))) (Aa (Ax AR (by rfl) T.isi boot_isinstance (Aa (pv 4) (Aa (AB (v:=.ref (adr 5)) (by rfl) X5.m rfl) Ab))) Ab))))))
   (Ad (Ap (i:=3) scLkinds.nd rfl (Or.inl rfl) (AE Hr (pv 3) (AA (Aa (Ax AR (by rfl) T.isi boot_isinstance (Aa (pv 4) (Aa (AB (v:=.ref (adr 6)) (by rfl) X6.m rfl) Ab))) (Aa (Ax AR (by rfl) T.isi boot_isinstance (Aa (pv 4) (Aa (AB (v:=.ref (adr 7)) (by rfl) X7.m rfl) Ab))) (Aa (Ax AR (by rfl) T.isi boot_isinstance (Aa (pv 4) (Aa (AB (v:=.ref (adr 8)) (by rfl) X8.m rfl) Ab))) Ab))))))
   (Ad (Ap (i:=3) scLkinds.nd rfl (Or.inl rfl) (AE Hr (pv 3) (AA (Aa (Ax AR (by rfl) T.isi boot_isinstance (Aa (pv 4) (Aa (AB (v:=.ref (adr 9)) (by rfl) X9.m rfl) Ab))) (Aa (Ax AR (by rfl) T.isi boot_isinstance (Aa (pv 4) (Aa (AB (v:=.ref (adr 10)) (by rfl) X10.m rfl) Ab))) (Aa (Ax AR (by rfl) T.isi boot_isinstance (Aa (pv 4) (Aa (AB (v:=.ref (adr 11)) (by rfl) XI11.m rfl) Ab))) Ab))))))
   (Ac (An (Bx PySem.F.plainAttrs_list PySem.F.slot_list_append PySem.F.type_list_append AZ (pv 3) (Aa (Ax AR (by rfl) T.isi boot_isinstance (Aa (pv 4) (Aa (La (v:=.ty "ValueError") (by rfl) XT.mV PyProof.Rows.Boot.«ValueError» rfl) Ab))) Ab))))))))) Ll (by rfl) XT.m XT.ty XT.ic XT.bs scLkinds.nd rfl rfl (Or.inl rfl)) rfl rfl)
  (Ac (Ar (pv 3)))),?_⟩
 refine⟨MI,fun k0 hk0=>?_⟩
 have s0:=Ae hk0 (.lst [])
 generalize upd H k0 _=H0 at *
 refine⟨fun cls dx H'=>Same H H'∧XdOk dx H'∧cls= .ref (adr i),⟨_,rfl,_,rfl,_,rfl,i,n,m,rfl,hn,nk,h12,hm1,hm5,hi1,fun dx H' s' hx=>⟨s0.trans s',hx,rfl⟩⟩,?_⟩
 rintro cls dx H1 ⟨s1,hx,rfl⟩
 refine⟨adr i,rfl,true,SX.up i h12,BH fun a vs sl hna=>?_⟩
 refine⟨_,rfl,a,adr i,cT,_,_,_,rfl,SX.at_ i h12,⟨dx,vs,sl,List.mem_cons_self,hx⟩,(fun u r=>r),SX.ap i 0 h12 (by decide),_,rfl,a,adr i,cT,_,_,_,rfl,SX.at_ i h12,⟨dx,vs,sl,List.mem_cons_self,hx⟩,(fun u r=>r),SX.ap i 1 h12 (by decide),_,rfl,a,adr i,cT,_,_,_,rfl,SX.at_ i h12,⟨dx,vs,sl,List.mem_cons_self,hx⟩,(fun u r=>r),SX.ap i 2 h12 (by decide),RV,fun f0 hf0=>?_⟩
 have t0:=Ae hf0 (.lst [.bl (decide (i=0)),.bl (decide (i=1)),.bl (decide (i=2))])
 have e0:upd H1 f0 (.lst [.bl (decide (i=0)),.bl (decide (i=1)),.bl (decide (i=2))]) f0=some (.lst [.bl (decide (i=0)),.bl (decide (i=1)),.bl (decide (i=2))]):=upd_same
 generalize upd H1 f0 _=H2 at *
 have x0:=XdOk.keep t0 hx
 refine⟨_,rfl,_,rfl,a,adr i,cT,_,_,_,rfl,SX.at_ i h12,⟨dx,vs,sl,List.mem_cons_self,x0⟩,(fun u r=>r),SX.ap i 3 h12 (by decide),_,rfl,a,adr i,cT,_,_,_,rfl,SX.at_ i h12,⟨dx,vs,sl,List.mem_cons_self,x0⟩,(fun u r=>r),SX.ap i 4 h12 (by decide),_,rfl,a,adr i,cT,_,_,_,rfl,SX.at_ i h12,⟨dx,vs,sl,List.mem_cons_self,x0⟩,(fun u r=>r),SX.ap i 5 h12 (by decide),RV,fun f2 hf2=>?_⟩
 have t2:=Ae hf2 (.lst [.bl (decide (i=3)),.bl (decide (i=4)),.bl (decide (i=5))])
 have e2:upd H2 f2 (.lst [.bl (decide (i=3)),.bl (decide (i=4)),.bl (decide (i=5))]) f2=some (.lst [.bl (decide (i=3)),.bl (decide (i=4)),.bl (decide (i=5))]):=upd_same
 generalize upd H2 f2 _=H3 at *
 have x2:=XdOk.keep t2 x0
 refine⟨f0,f2,_,_,rfl,rfl,t2 _ _ e0,e2,(show 3+3≤sizeLine from Nat.le_trans (by decide) Rh),fun f3 hf3=>?_⟩
 have t3:=Ae hf3 (.lst [.bl (decide (i=0)),.bl (decide (i=1)),.bl (decide (i=2)),.bl (decide (i=3)),.bl (decide (i=4)),.bl (decide (i=5))])
 have e3:upd H3 f3 (.lst [.bl (decide (i=0)),.bl (decide (i=1)),.bl (decide (i=2)),.bl (decide (i=3)),.bl (decide (i=4)),.bl (decide (i=5))]) f3=some (.lst [.bl (decide (i=0)),.bl (decide (i=1)),.bl (decide (i=2)),.bl (decide (i=3)),.bl (decide (i=4)),.bl (decide (i=5))]):=upd_same
 have ee:[V.bl (decide (i=0)),.bl (decide (i=1)),.bl (decide (i=2))]++[V.bl (decide (i=3)),.bl (decide (i=4)),.bl (decide (i=5))]=[.bl (decide (i=0)),.bl (decide (i=1)),.bl (decide (i=2)),.bl (decide (i=3)),.bl (decide (i=4)),.bl (decide (i=5))]:=rfl
 rw[ee]
 clear ee
 generalize upd H3 f3 _=H4 at *
 have x3:=XdOk.keep t3 x2
 refine⟨_,rfl,_,rfl,a,adr i,cT,_,_,_,rfl,SX.at_ i h12,⟨dx,vs,sl,List.mem_cons_self,x3⟩,(fun u r=>r),SX.ap i 6 h12 (by decide),_,rfl,a,adr i,cT,_,_,_,rfl,SX.at_ i h12,⟨dx,vs,sl,List.mem_cons_self,x3⟩,(fun u r=>r),SX.ap i 7 h12 (by decide),_,rfl,a,adr i,cT,_,_,_,rfl,SX.at_ i h12,⟨dx,vs,sl,List.mem_cons_self,x3⟩,(fun u r=>r),SX.ap i 8 h12 (by decide),RV,fun f4 hf4=>?_⟩
 have t4:=Ae hf4 (.lst [.bl (decide (i=6)),.bl (decide (i=7)),.bl (decide (i=8))])
 have e4:upd H4 f4 (.lst [.bl (decide (i=6)),.bl (decide (i=7)),.bl (decide (i=8))]) f4=some (.lst [.bl (decide (i=6)),.bl (decide (i=7)),.bl (decide (i=8))]):=upd_same
 generalize upd H4 f4 _=H5 at *
 have x4:=XdOk.keep t4 x3
 refine⟨f3,f4,_,_,rfl,rfl,t4 _ _ e3,e4,(show 6+3≤sizeLine from Nat.le_trans (by decide) Rh),fun f5 hf5=>?_⟩
 have t5:=Ae hf5 (.lst [.bl (decide (i=0)),.bl (decide (i=1)),.bl (decide (i=2)),.bl (decide (i=3)),.bl (decide (i=4)),.bl (decide (i=5)),.bl (decide (i=6)),.bl (decide (i=7)),.bl (decide (i=8))])
 have e5:upd H5 f5 (.lst [.bl (decide (i=0)),.bl (decide (i=1)),.bl (decide (i=2)),.bl (decide (i=3)),.bl (decide (i=4)),.bl (decide (i=5)),.bl (decide (i=6)),.bl (decide (i=7)),.bl (decide (i=8))]) f5=some (.lst [.bl (decide (i=0)),.bl (decide (i=1)),.bl (decide (i=2)),.bl (decide (i=3)),.bl (decide (i=4)),.bl (decide (i=5)),.bl (decide (i=6)),.bl (decide (i=7)),.bl (decide (i=8))]):=upd_same
 have ee:[V.bl (decide (i=0)),.bl (decide (i=1)),.bl (decide (i=2)),.bl (decide (i=3)),.bl (decide (i=4)),.bl (decide (i=5))]++[V.bl (decide (i=6)),.bl (decide (i=7)),.bl (decide (i=8))]=[.bl (decide (i=0)),.bl (decide (i=1)),.bl (decide (i=2)),.bl (decide (i=3)),.bl (decide (i=4)),.bl (decide (i=5)),.bl (decide (i=6)),.bl (decide (i=7)),.bl (decide (i=8))]:=rfl
 rw[ee]
 clear ee
 generalize upd H5 f5 _=H6 at *
 have x5:=XdOk.keep t5 x4
 refine⟨_,rfl,_,rfl,a,adr i,cT,_,_,_,rfl,SX.at_ i h12,⟨dx,vs,sl,List.mem_cons_self,x5⟩,(fun u r=>r),SX.ap i 9 h12 (by decide),_,rfl,a,adr i,cT,_,_,_,rfl,SX.at_ i h12,⟨dx,vs,sl,List.mem_cons_self,x5⟩,(fun u r=>r),SX.ap i 10 h12 (by decide),_,rfl,a,adr i,cT,_,_,_,rfl,SX.at_ i h12,⟨dx,vs,sl,List.mem_cons_self,x5⟩,(fun u r=>r),SX.ap i 11 h12 (by decide),RV,fun f6 hf6=>?_⟩
 have t6:=Ae hf6 (.lst [.bl (decide (i=9)),.bl (decide (i=10)),.bl (decide (i=11))])
 have e6:upd H6 f6 (.lst [.bl (decide (i=9)),.bl (decide (i=10)),.bl (decide (i=11))]) f6=some (.lst [.bl (decide (i=9)),.bl (decide (i=10)),.bl (decide (i=11))]):=upd_same
 generalize upd H6 f6 _=H7 at *
 have x6:=XdOk.keep t6 x5
 refine⟨f5,f6,_,_,rfl,rfl,t6 _ _ e5,e6,(show 9+3≤sizeLine from Nat.le_trans (by decide) Rh),fun f7 hf7=>?_⟩
 have t7:=Ae hf7 (.lst [.bl (decide (i=0)),.bl (decide (i=1)),.bl (decide (i=2)),.bl (decide (i=3)),.bl (decide (i=4)),.bl (decide (i=5)),.bl (decide (i=6)),.bl (decide (i=7)),.bl (decide (i=8)),.bl (decide (i=9)),.bl (decide (i=10)),.bl (decide (i=11))])
 have e7:upd H7 f7 (.lst [.bl (decide (i=0)),.bl (decide (i=1)),.bl (decide (i=2)),.bl (decide (i=3)),.bl (decide (i=4)),.bl (decide (i=5)),.bl (decide (i=6)),.bl (decide (i=7)),.bl (decide (i=8)),.bl (decide (i=9)),.bl (decide (i=10)),.bl (decide (i=11))]) f7=some (.lst [.bl (decide (i=0)),.bl (decide (i=1)),.bl (decide (i=2)),.bl (decide (i=3)),.bl (decide (i=4)),.bl (decide (i=5)),.bl (decide (i=6)),.bl (decide (i=7)),.bl (decide (i=8)),.bl (decide (i=9)),.bl (decide (i=10)),.bl (decide (i=11))]):=upd_same
 have ee:[V.bl (decide (i=0)),.bl (decide (i=1)),.bl (decide (i=2)),.bl (decide (i=3)),.bl (decide (i=4)),.bl (decide (i=5)),.bl (decide (i=6)),.bl (decide (i=7)),.bl (decide (i=8))]++[V.bl (decide (i=9)),.bl (decide (i=10)),.bl (decide (i=11))]=[.bl (decide (i=0)),.bl (decide (i=1)),.bl (decide (i=2)),.bl (decide (i=3)),.bl (decide (i=4)),.bl (decide (i=5)),.bl (decide (i=6)),.bl (decide (i=7)),.bl (decide (i=8)),.bl (decide (i=9)),.bl (decide (i=10)),.bl (decide (i=11))]:=rfl
 rw[ee]
 clear ee
 generalize upd H7 f7 _=H8 at *
 have x7:=XdOk.keep t7 x6
 have u7:Same H H7:=s1.trans (t0.trans (t2.trans (t3.trans (t4.trans (t5.trans t6)))))
 have n7:H f7=none:=Pq u7 hf7
 refine⟨_,rfl,.inl ⟨rfl,_,SqL.of e7⟩,_,rfl,a,adr i,cT,_,_,_,rfl,SX.at_ i h12,⟨dx,vs,sl,List.mem_cons_self,x7⟩,(fun u r=>r),SX.kv i h12,f7,_,_,rfl,rfl,e7,(show 12<sizeLine by decide),?_⟩
 refine⟨_,rfl,q f7 _ (Az (u7.trans t7) n7 _) n7 ?_⟩
 rw[upd_same]
 exact congrArg (fun l=>some (HO.lst l)) (MQ h12)
end
abbrev RD:Stmt:=top 89
def K8 (K:PySem.W.Frag):Sp:=fun vs H Q _=>∃(a:Addr) (ns:List Int),vs=[.ref a]∧SqL K H a (ns.map V.int)∧ns.length≤63∧∀H',Q (.bl true) H'
theorem Ga:goodN ("held":Str)∧¬AX ("held":Str):=by decide
theorem Jk (i k:Nat):((List.range (k+1)).map fun j=>V.bl (decide (j=i) || decide (j=12)))=((List.range k).map fun j=>V.bl (decide (j=i) || decide (j=12)))++[.bl (decide (k=i) || decide (k=12))]:=by
 rw[List.range_succ,List.map_append]
 rfl
section
variable {cH cK cS cW:Addr}
theorem scLaw:Aj ["_law_script","_law_many","_law_name_here","_law_way"] ["_law_script"] (Ag RD):=By
theorem Q5 {fN fA fK:Addr} {dN dA dK:FuncData} (F:Fun K "law" "law" RD f fd) (B:Bl mg) (T:HB mg)
  (GN:FnOk P w K mg bz A8 1 fN dN ["_law_script","_law_k"] (QU K)) (CN:B5 K mg "_law_num" fN dN ["_law_script","_law_k"])
  (GA:FnOk P w K mg bz A8 1 fA dA ["_law_n"] K0) (CA:B5 K mg "_law_name" fA dA ["_law_n"])
  (GK:FnOk P w K mg bz A8 11 fK dK ["_law_way","_law_name_here","_law_many"] HR) (CK:B5 K mg "_law_kinds" fK dK ["_law_way","_law_name_here","_law_many"]):FnOk P w K mg bz A8 12 f fd ["_law_script"] (K8 K):=by
 refine F.ok scLaw (fun vs H Q E h=>?_) (fun cdv A outer s H vs Q E hr h=>?_)
 ·obtain⟨a,ns,rfl,_⟩:=h
  rfl
 obtain⟨a,ns,rfl,hS,h63,q⟩:=h
 have hr1:Room 1 _:=hr.mono (by decide)
 refine⟨_,Ad (Ap (i:=1) scLaw.nd rfl (Or.inl rfl) (AE Dd Ai (AE Dh (Ao GN hr1 (by rfl) CN.m CN.k CN.b .nil AH (Aa (pv 0) (Aa Ai Ab))) Ai)))
  (Ad (Ap (i:=2) scLaw.nd rfl (Or.inl rfl) (Ao GA hr1 (by rfl) CA.m CA.k CA.b .nil AH (Aa (Ao GN hr1 (by rfl) CN.m CN.k CN.b .nil AH (Aa (pv 0) (Aa Ai Ab))) Ab)))
  (Ad (Aw (Am LF (pv 2) (AA (Aa Ak (Aa Ak (Aa Ak Ab)))) (by with_unfolding_all rfl))
   (Ac (Ap (i:=2) scLaw.nd rfl (Or.inl rfl) Ak))
   Au)
  (Ad (CG PassesOwn.never rfl (DU (by rfl) B.range (Aa Ai Ab)) (AN (i:=3) scLaw.nd rfl (Or.inr rfl))
   (Ad (Aw (Jx (Am AO (pv 3) Ai (As _)) (Hn (Am Sw (pv 1) Ai (As _)))).pt
    (Ac Em)
    Au)
   (Ac (Aw (Am (R1 hr.units9) (Ao GK hr (by rfl) CK.m CK.k CK.b .nil AH (Aa (pv 3) (Aa (pv 2) (Aa (pv 1) Ab)))) (Cq (N:=["_law_k","_law_way"]) (js:=[none,some 3]) (cl:=[("_law_way",s.heap.objs.size+1)]) ⟨rfl,rfl,rfl,(by intro p hp;simp at hp;rcases hp with rfl<;>rfl),rfl,rfl,rfl⟩ (DU (by rfl) B.range (Aa Ai Ab)) (fun c1=>(AN (i:=0) (show (["_law_k","_law_way"]:List Str).Nodup by decide +kernel) rfl (Or.inl rfl))) (fun c1=>B6) (fun c1=>(Nn (BQ AO (pv 0) (pv 1) (As _)) (Gy (BQ AO (pv 0) Ai (As _)))))) (As _))
    (Ac (Ar FG))
    Au))))
  (Ac (Ar FG))))),?_⟩
 refine⟨_,rfl,a,ns,0,rfl,hS,h63,by decide,by decide,fun n0 H0 hn0 s0=>?_⟩
 refine⟨_,_,rfl,rfl,(by show (0:Int)<5;decide),_,_,rfl,rfl,?_⟩
 obtain⟨m,hm,hm1,hm5⟩:∃m:Nat,1+n0%5=(m:Int)∧1≤m∧m≤5:=⟨(1+n0%5).toNat,by omega,by omega,by omega⟩
 rw[show (fun (i j:Int)=>V.int (i+j)) 1 (n0%5)=V.int (m:Int) from congrArg V.int hm]
 refine⟨_,rfl,a,ns,1,rfl,s0.seq hS,h63,by decide,by decide,fun n1 H1 hn1 s1=>⟨n1,rfl,hn1,fun z hz=>?_⟩⟩
 refine R3 (fun σ H'=>∃z':Str,σ=[some (.ref a),some (.int (m:Int)),some (.str z'),none]∧goodN z'∧¬AX z') ?_ fun go=>?_
 ·rintro σ H2 ⟨z',rfl,hz',nk⟩
  refine⟨_,rfl,by decide,by decide,DM (fun i σ Hi=>∃v3:Option V,σ=[some (.ref a),some (.int (m:Int)),some (.str z'),v3]) ⟨_,rfl⟩ ?_ ?_⟩
  ·rintro i σ Hi hi ⟨v3,rfl⟩
   have hi12:i<12:=by
    have h0:i<(12:Int).toNat:=hi
    exact h0
   rw[Int.zero_add]
   refine RI rfl (QM (fun σ H'=>σ=[some (.ref a),some (.int (m:Int)),some (.str z'),some (.int (i:Int))]∧(i=1→m≤4)) ?_ fun go2=>?_)
   ·rintro σ H3 ⟨rfl,hi1⟩
    refine⟨_,rfl,_,rfl,_,rfl,i,z',m,rfl,hz',nk,hi12,hm1,hm5,hi1,fun l H4 s4 l0 hl=>?_⟩
    refine⟨_,rfl,by decide,by decide,fun cc acc hacc=>DM (fun k σ Hk=>∃v0:Option V,σ=[v0,some (.int (i:Int))]∧Same H4 Hk∧Hk acc=some (.lst ((List.range k).map fun j=>V.bl (decide (j=i) || decide (j=12))))) ⟨_,rfl,Ae hacc _,upd_same⟩ ?_ ?_⟩
    ·rintro k σ Hk hk ⟨v0,rfl,sk,ha⟩
     have hk13:k<13:=by
      have h0:k<(13:Int).toNat:=hk
      exact h0
     rw[Int.zero_add]
     have put:∀b:Bool,b=(decide (k=i) || decide (k=12))→∃xs,Hk acc=some (.lst xs)∧xs.length<sizeLine∧∃v0:Option V,[some (V.int (k:Int)),some (V.int (i:Int))]=[v0,some (.int (i:Int))]∧Same H4 (upd Hk acc (.lst (xs++[.bl b])))∧upd Hk acc (.lst (xs++[.bl b])) acc=some (.lst ((List.range (k+1)).map fun j=>V.bl (decide (j=i) || decide (j=12)))):=fun b e=>by
      refine⟨_,ha,?_,_,rfl,Az sk hacc _,?_⟩
      ·rw[List.length_map,List.length_range]
       exact Nat.lt_of_le_of_lt (show k≤13 by omega) (by decide)
      ·rw[upd_same,e,Jk]
     refine⟨_,rfl,_,rfl,rfl,_,rfl,?_⟩
     by_cases c1:k=i
     ·exact Bo (by rw[c1]) (put true (by rw[c1];simp))
     ·refine A3 (AF c1) ⟨_,rfl,rfl,?_⟩
      refine put _ ?_
      rw[decide_eq_false c1,Bool.false_or]
      rw[Bool.eq_iff_iff,decide_eq_true_eq,decide_eq_true_eq]
      exact⟨fun z=>by injection z with z;omega,fun z=>by rw[z];rfl⟩
    ·rintro σ Hk ⟨v0,rfl,sk,ha⟩
     refine⟨l,acc,ER i,ER i,rfl,rfl,rfl,(fun j x y h1 h2=>?_),.inl ⟨SqL.of (sk _ _ hl),SqL.of ha⟩,_,rfl,Bu ⟨_,rfl⟩⟩
     rw[h1] at h2
     cases h2
     have:=List.mem_of_getElem? h1
     unfold ER at this
     obtain⟨j,_,rfl⟩:=List.mem_map.mp this
     exact .inl ⟨rfl,.inr (.inl ⟨_,rfl⟩)⟩
   ·refine⟨_,rfl,rfl,_,rfl,?_⟩
    by_cases c:i=1
    ·refine Bo (by rw[c];rfl) ⟨_,rfl,_,_,rfl,rfl,_,rfl,?_⟩
     refine CZ (fun c2=>⟨_,rfl⟩) fun c2=>go2 _ _ ⟨rfl,fun _=>?_⟩
     have:¬((4:Int)<m):=by simpa using c2
     omega
    ·exact A3 (AF (j:=1) c) (Bu (go2 _ _ ⟨rfl,fun z=>absurd z c⟩))
  ·rintro σ Hi ⟨v3,rfl⟩
   exact q _
 ·refine⟨_,rfl,RV,fun L hL=>⟨L,_,rfl,.inl (SqL.of upd_same),rfl,rfl,_,rfl,?_⟩⟩
  show (if O8 (.str z) D5=true then _ else _)
  rw[FY]
  by_cases c:AX z
  ·exact Bo c (go _ _ ⟨_,rfl,Ga.1,Ga.2⟩)
  ·exact A3 c (go _ _ ⟨_,rfl,hz,c⟩)
end
structure EX (K:PySem.W.Frag) (C cT:Addr):Prop where
 at_:XAt K C cT
 ty:typeIn K (.ref C)=some (.type "type")
theorem EX.mro {K:PySem.W.Frag} {C cT:Addr} (h:EX K C cT) (v:Value):mroIn K C v=some ((Value.ref C::Value.ref cT::D7).contains v):=by
 obtain⟨cd,e1,e2,_⟩:=h.at_.cd
 unfold mroIn
 rw[e1,Option.bind_some,e2]
 rfl
theorem JF {a b:Addr} (h:a≠b):(Value.ref a == Value.ref b)=false:=beq_eq_false_iff_ne.mpr fun e=>h (by injection e)
theorem EX.ap {K:PySem.W.Frag} {a b cT:Addr} (A:EX K a cT) (B:EX K b cT) (n1:a≠b) (n2:b≠cT):kitOne K (.ref a) (.ref b)=some false:=by
 refine Sc (JF n1) (by obtain⟨cd,e1,_⟩:=B.at_.cd;rw[e1];rfl) B.ty ?_
 show mroIn K a (.ref b)=_
 rw[A.mro]
 rw[List.contains_cons,List.contains_cons,JF (Ne.symm n1),JF n2]
 rfl
theorem EX.up {K:PySem.W.Frag} {a cT:Addr} (A:EX K a cT):mroIn K a (.ref cT)=some true:=by
 rw[A.mro,List.contains_cons,List.contains_cons,beq_self_eq_true,Bool.true_or,Bool.or_true]
theorem EX.kv {K:PySem.W.Frag} {a cT:Addr} (A:EX K a cT):kitOne K (.ref a) (.type "ValueError")=some true:=by
 refine NH (by decide +kernel) ?_
 show mroIn K a _=_
 rw[A.mro]
 rfl
def Fy (a b c d e f g h i j k l:Addr):Nat→Addr
 | 0=>a
 | 1=>b
 | 2=>c
 | 3=>d
 | 4=>e
 | 5=>f
 | 6=>g
 | 7=>h
 | 8=>i
 | 9=>j
 | 10=>k
 | _=>l
theorem QY {α:Type} {l:List α} {i j:Nat} {x:α} (h:l.Nodup) (h1:l[i]? = some x) (h2:l[j]? = some x):i=j:=(List.getElem?_inj (List.getElem?_eq_some_iff.mp h1).1 h).mp (h1.trans h2.symm)
theorem Mv {K:PySem.W.Frag} {a b c d e f g h i j k l cT:Addr} (nd:[a,b,c,d,e,f,g,h,i,j,k,l,cT].Nodup) (A:EX K a cT) (B:EX K b cT) (C:EX K c cT) (D:EX K d cT) (E:EX K e cT) (F:EX K f cT) (G:EX K g cT) (H:EX K h cT) (I:EX K i cT) (J:EX K j cT) (L:EX K k cT) (M:EX K l cT):N5 K (Fy a b c d e f g h i j k l) cT:=by
 have al:∀y,y<12→EX K (Fy a b c d e f g h i j k l y) cT:=fun y hy=>by
  rcases (show y=0∨y=1∨y=2∨y=3∨y=4∨y=5∨y=6∨y=7∨y=8∨y=9∨y=10∨y=11 by omega) with rfl | rfl | rfl | rfl | rfl | rfl | rfl | rfl | rfl | rfl | rfl | rfl<;>assumption
 have at_:∀y,y<12→[a,b,c,d,e,f,g,h,i,j,k,l,cT][y]? = some (Fy a b c d e f g h i j k l y):=fun y hy=>by
  rcases (show y=0∨y=1∨y=2∨y=3∨y=4∨y=5∨y=6∨y=7∨y=8∨y=9∨y=10∨y=11 by omega) with rfl | rfl | rfl | rfl | rfl | rfl | rfl | rfl | rfl | rfl | rfl | rfl<;>rfl
 refine⟨fun y hy=>(al y hy).at_,fun y hy=>(al y hy).up,fun y hy=>(al y hy).kv,fun y z hy hz=>?_⟩
 by_cases c:y=z
 ·subst c
  rw[decide_eq_true rfl]
  unfold kitOne
  rw[if_pos (beq_self_eq_true _)]
 ·rw[decide_eq_false c]
  refine (al y hy).ap (al z hz) (fun e=>c (QY nd (at_ y hy) (by rw[e];exact at_ z hz))) fun e=>?_
  have:=QY nd (at_ z hz) (show _[12]? = some _ by rw[e];rfl)
  omega
def IX (K:PySem.W.Frag) (mg:Str→Option Value) (nm q:Str) (st:Stmt) (C cT:Addr):Prop:=XAt K C cT∧typeIn K (.ref C)=some (.type "type")∧mg nm=some (.ref C)∧NoAttr K C "at"∧∃fI d,Hj K C cT (some fI)∧isFn K (.ref fI)=true∧Fun K "__init__" q st fI d
theorem TV {P:Program} {w:World} {K:PySem.W.Frag} {dd:Addr} {t1 t2 t3 t4 t5 t6 t7 t8 t9 u1 u2 u3 u4 u5:Tok} {ep:Nat}
  (l:K.lookup dd=some ⟨.type "dict",none,.dict #[⟨hashStr w "learn",.str "learn" t1,.int 3 t2⟩,⟨hashStr w "begin",.str "begin" t3,.int 5 t4⟩,⟨hashStr w "say",.str "say" t5,.int 4 t6⟩,⟨hashStr w "back",.str "back" t7,.int 2 t8⟩,⟨hashStr w "end",.str "end" t9,.int 2 u1⟩,⟨hashStr w "drop",.str "drop" u2,.int 2 u3⟩,⟨hashStr w "fork",.str "fork" u4,.int 3 u5⟩] ep,#[]⟩)
  (nm:(dd == sysModules)=false):∃f,Hv P w K dd f∧f ""=none:=by
 refine⟨fun k=>(([("learn",V.int 3),("begin",.int 5),("say",.int 4),("back",.int 2),("end",.int 2),("drop",.int 2),("fork",.int 3)]:List (Str×V)).find? fun p:Str×V=>p.1 == k).map (·.2),⟨nm,_,[("learn",.int 3 t2),("begin",.int 5 t4),("say",.int 4 t6),("back",.int 2 t8),("end",.int 2 u1),("drop",.int 2 u3),("fork",.int 3 u5)],l,⟨_,_,⟨rfl,rfl,rfl⟩,rfl,fun e he=>?_,?_,(by show ([("learn":Str),"begin","say","back","end","drop","fork"]:List Str).Nodup;decide)⟩,fun k=>?_⟩,by decide⟩
 ·simp only[List.mem_toArray,List.mem_cons,List.not_mem_nil,or_false] at he
  rcases he with rfl | rfl | rfl | rfl | rfl | rfl | rfl<;>exact⟨_,strKind_is _ _ _ _,rfl⟩
 ·exact .cons (strKind_is _ _ _ _) rfl (.cons (strKind_is _ _ _ _) rfl (.cons (strKind_is _ _ _ _) rfl (.cons (strKind_is _ _ _ _) rfl (.cons (strKind_is _ _ _ _) rfl (.cons (strKind_is _ _ _ _) rfl (.cons (strKind_is _ _ _ _) rfl .nil))))))
 ·have gen:∀(es:List (Str×Int×Tok)),RelO (((es.map fun p=>(p.1,V.int p.2.1)).find? fun p:Str×V=>p.1 == k).map (·.2)) (valueAt (es.map fun p=>(p.1,Value.int p.2.1 p.2.2)) k):=fun es=>by
   unfold valueAt
   induction es with
   | nil=>exact True.intro
   | cons p es ih=>
    rw[List.map_cons,List.map_cons]
    by_cases c:p.1=k
    ·rw[List.find?_cons_of_pos (by simpa using c),List.find?_cons_of_pos (by simpa using c)]
     exact⟨_,rfl⟩
    ·rw[List.find?_cons_of_neg (by simpa using c),List.find?_cons_of_neg (by simpa using c)]
     exact ih
  exact gen [("learn",3,t2),("begin",5,t4),("say",4,t6),("back",2,t8),("end",2,u1),("drop",2,u3),("fork",3,u5)]
theorem tkx {K:PySem.W.Frag} {c:Addr} (a:PySem.W.plainGet K c Str.empty=true) (b:PySem.W.hasDictIn K c=true) (d:PySem.W.plainOver K c=true) (e:findIn K (.ref c) "__setattr__"=some (some (.builtin "object.__setattr__"))) (w0:findIn K (.ref c) "many"=some none) (w1:findIn K (.ref c) "kind"=some none) (w2:findIn K (.ref c) "sentence"=some none) (w3:findIn K (.ref c) "rule"=some none) (w4:findIn K (.ref c) "space"=some none) (w5:findIn K (.ref c) "parts"=some none) (w6:findIn K (.ref c) "given"=some none) (w7:findIn K (.ref c) "left"=some none) (w8:findIn K (.ref c) "ended"=some none):MP K c:=⟨⟨a,b,d,e⟩,w0,w1,w2,w3,w4,w5,w6,w7,w8⟩
theorem hsx {K:PySem.W.Frag} {c:Addr} (a:PySem.W.plainGet K c Str.empty=true) (b:PySem.W.hasDictIn K c=true) (d:PySem.W.plainOver K c=true) (e:findIn K (.ref c) "__setattr__"=some (some (.builtin "object.__setattr__"))) (w0:findIn K (.ref c) "space"=some none) (w1:findIn K (.ref c) "many"=some none) (w2:findIn K (.ref c) "marks"=some none) (w3:findIn K (.ref c) "talks"=some none) (w4:findIn K (.ref c) "lines"=some none):Hy K c:=⟨⟨a,b,d,e⟩,w0,w1,w2,w3,w4⟩
def FT (K:PySem.W.Frag) (mg:Str→Option Value) (n:Str) (st:Stmt) (f:Addr) (d:FuncData):Prop:=Fun K n n st f d∧mg n=some (.ref f)
def FM (K:PySem.W.Frag) (C:Addr) (n q:Str) (st:Stmt) (f:Addr) (d:FuncData):Prop:=Fun K n q st f d∧N7 K C n f
theorem fx {K:PySem.W.Frag} {n:Str} {st:Stmt} {f:Addr} {oc:Value} {od an:Option Addr} {sl:Array (Option Value)} {kV dc pm cd ct:Value} {h:Heap} {mg:Str→Option Value} (X:K.In h) (G:h.Ns mainGlobals mg) (a:nsIn K mainGlobals n=some (some (.ref f))) (l:K.lookup f=some ⟨oc,od,.func (fnOf n n (Bs st) (Bf st) (Ag st) .none kV dc pm an cd ct),sl⟩) (c:PySem.W.codeIn K cd n=true) (k:keepIn K (.ref f)=true):∃f d,FT K mg n st f d:=⟨_,_,Jd l c k,mg_of X G a⟩
theorem mx {K:PySem.W.Frag} {n q:Str} {st:Stmt} {f:Addr} {oc:Value} {od an:Option Addr} {sl:Array (Option Value)} {kV dc pm cd ct:Value} {C:Addr} (a:findIn K (.ref C) n=some (some (.ref f))) (i:isFn K (.ref f)=true) (l:K.lookup f=some ⟨oc,od,.func (fnOf n q (Bs st) (Bf st) (Ag st) .none kV dc pm an cd ct),sl⟩) (c:PySem.W.codeIn K cd q=true) (k:keepIn K (.ref f)=true):∃f d,FM K C n q st f d:=⟨_,_,Jd l c k,a,i,k⟩
theorem cx {K:PySem.W.Frag} {mg:Str→Option Value} {n:Str} {st:Stmt} {f:Addr} {d:FuncData} {ps:List Str} (h:FT K mg n st f d) (hb:∀(kV dc pm:Value) (an:Option Addr) (cd ct:Value) (us:List Value),us.length=ps.length→bindArgs (fnOf n n (Bs st) (Bf st) (Ag st) .none kV dc pm an cd ct) ⟨us,[]⟩=pure (ps.zip us):=by intro _ _ _ _ _ _ us hl;first | (obtain⟨_,rfl⟩:=Jl hl;rfl) | (obtain⟨_,_,rfl⟩:=E4 hl;rfl) | (obtain⟨_,_,_,rfl⟩:=JB hl;rfl) | (obtain⟨_,_,_,_,rfl⟩:=Js hl;rfl) | (obtain⟨_,_,_,_,_,rfl⟩:=JT hl;rfl) | (obtain⟨_,_,_,_,_,_,rfl⟩:=Kl hl;rfl)):B5 K mg n f d ps:=⟨h.2,h.1.kp,h.1.binds hb⟩
theorem Ic {K:PySem.W.Frag} {n q:Str} {st:Stmt} {f:Addr} {d:FuncData} {ps:List Str} {C:Addr} (h:FM K C n q st f d) (hb:∀(kV dc pm:Value) (an:Option Addr) (cd ct:Value) (us:List Value),us.length=ps.length→bindArgs (fnOf n q (Bs st) (Bf st) (Ag st) .none kV dc pm an cd ct) ⟨us,[]⟩=pure (ps.zip us):=by intro _ _ _ _ _ _ us hl;first | (obtain⟨_,rfl⟩:=Jl hl;rfl) | (obtain⟨_,_,rfl⟩:=E4 hl;rfl) | (obtain⟨_,_,_,rfl⟩:=JB hl;rfl) | (obtain⟨_,_,_,_,rfl⟩:=Js hl;rfl) | (obtain⟨_,_,_,_,_,rfl⟩:=JT hl;rfl) | (obtain⟨_,_,_,_,_,_,rfl⟩:=Kl hl;rfl)):BA K C n f d ps:=⟨h.2,h.1.binds hb⟩
def KF (K:PySem.W.Frag) (mg:Str→Option Value) (n:Str) (c:Addr):Prop:=mg n=some (.ref c)∧PySem.W.makesIn K c=true∧keepIn K (.ref c)=true
theorem kf {K:PySem.W.Frag} {n:Str} {c:Addr} {h:Heap} {mg:Str→Option Value} (X:K.In h) (G:h.Ns mainGlobals mg) (a:nsIn K mainGlobals n=some (some (.ref c))) (b:PySem.W.makesIn K c=true) (k:keepIn K (.ref c)=true):KF K mg n c:=⟨mg_of X G a,b,k⟩
theorem UL {K:PySem.W.Frag} {mg:Str→Option Value} {n q:Str} {st:Stmt} {f:Addr} {d:FuncData} {ps:List Str} {C:Addr} {cn:Str} (e:n="__init__") (t:KF K mg cn C) (h:FM K C n q st f d) (hb:∀(kV dc pm:Value) (an:Option Addr) (cd ct:Value) (us:List Value),us.length=ps.length→bindArgs (fnOf n q (Bs st) (Bf st) (Ag st) .none kV dc pm an cd ct) ⟨us,[]⟩=pure (ps.zip us):=by intro _ _ _ _ _ _ us hl;first | (obtain⟨_,rfl⟩:=Jl hl;rfl) | (obtain⟨_,_,rfl⟩:=E4 hl;rfl) | (obtain⟨_,_,_,rfl⟩:=JB hl;rfl) | (obtain⟨_,_,_,_,rfl⟩:=Js hl;rfl) | (obtain⟨_,_,_,_,_,rfl⟩:=JT hl;rfl) | (obtain⟨_,_,_,_,_,_,rfl⟩:=Kl hl;rfl)):QE K mg C cn f d ps:=by
 subst e
 exact⟨⟨t.2.1,h.2.at_,h.2.fn,t.2.2⟩,t.1,h.1.binds hb⟩
theorem tx {K:PySem.W.Frag} {h:Heap} {mg:Str→Option Value} {cT:Addr} {XDT:ClassData} (X:K.In h) (G:h.Ns mainGlobals mg) (zV:mg "ValueError"=none) (zI:mg "isinstance"=none) (xTn:nsIn K mainGlobals "TalkError"=some (some (.ref cT))) (xTc1:clsIn K cT=some XDT) (xTt:typeIn K (.ref cT)=some (.type "type")) (xTbse:mroIn K cT (.type "BaseException")=some true):Px K mg cT:=⟨mg_of X G xTn,xTt,by rw[xTc1];rfl,xTbse,zV,zI⟩
theorem ox {K:PySem.W.Frag} {h:Heap} {mg:Str→Option Value} {nm:Str} {cT:Addr} {NT:Addr} {xTnm xTq:Str} {xTbs:List Value} {xThd:Bool} {xTsn:List Str} {xTsub:List Value} {xTab:Bool} {xTcol:Option Bool} {xTdd:Option Addr} {xTa xTb xTc xTd xTe xTf:Option Value} {xToc:Value} {xTod:Option Addr} {xTes:Array DictEntry} {xTep:Nat} {xTsl:Array (Option Value)} {C NC:Addr} {xnm0 xq0:Str} {xbs0:List Value} {xsn0:List Str} {xsub0:List Value} {xab0:Bool} {xcol0:Option Bool} {xdd0:Option Addr} {xka0 xkb0 xkc0 xkd0 xkf0:Option Value} {xoc0:Value} {xod0:Option Addr} {xes0:Array DictEntry} {xep0:Nat} {xsl0:Array (Option Value)} {XD0:ClassData} (X:K.In h) (G:h.Ns mainGlobals mg) (xTl:K.lookup cT=some ⟨.type "type",xTdd,.cls { name:=xTnm,bases:=xTbs,mro:=.ref cT::D7,ns:=NT,qualname:=xTq,hasDict:=xThd,slotNames:=xTsn,subclasses:=xTsub,abstract:=xTab,collection:=xTcol,hasDel:=false },#[xTa,xTb,xTc,xTd,xTe,xTf]⟩) (xTm:K.lookup NT=some ⟨xToc,xTod,.dict xTes xTep,xTsl⟩) (nTs:(xTes.all (fun e=>match e.key with | .str _ _=>true | _=>false))=true) (xTi:nsIn K NT "__init__"=some none) (nuV:PySem.W.kitMeta "ValueError"=true) (xcg:PySem.W.specialIn K (.builtin "object.__class__") "__get__"=some (some (.builtin "getset_descriptor.__get__"))) (xct:PySem.W.takesIn K (.builtin "object.__class__")=some true) (xn0:nsIn K mainGlobals nm=some (some (.ref C))) (xl0:K.lookup C=some (excClassObj xnm0 xq0 C NC xbs0 (.ref cT::D7) true xsn0 xsub0 xab0 xcol0 xdd0 xka0 xkb0 xkc0 xkd0 xkf0 "ValueError.__new__")) (xm0:K.lookup NC=some ⟨xoc0,xod0,.dict xes0 xep0,xsl0⟩) (nxs0:(xes0.all (fun e=>match e.key with | .str _ _=>true | _=>false))=true) (xi0:nsIn K NC "__init__"=some none) (xkp0:keepIn K (.ref C)=true) (xcd0:clsIn K C=some XD0) (nxm0:XD0.mro= .ref C::.ref cT::D7) (nxd0:XD0.hasDict=true) (xsa0:findIn K (.ref C) "__setattr__"=some (some (.builtin "object.__setattr__"))) (xga0:findIn K (.ref C) "__getattribute__"=some (some (.builtin "BaseException.__getattribute__"))) (xgn0:findIn K (.ref C) "__getattr__"=some none) (xca0:findIn K (.ref C) "__class__"=some (some (.builtin "object.__class__"))) (xt0:typeIn K (.ref C)=some (.type "type")) (xb0:mroIn K C (.type "BaseException")=some true) (xs0:mroIn K C (.ref C)=some true) (xu0:mroIn K C (.ref cT)=some true) (xv0:PySem.W.subIn K (.ref C) (.type "ValueError")=some true):Be K mg nm C cT:=⟨⟨⟨_,xcd0,nxm0,nxd0⟩,xsa0,xga0,xgn0,xca0,xcg,xct⟩,O6 xl0 xm0 nxs0 xi0 xTl xTm nTs xTi xkp0,mg_of X G xn0,xt0,by rw[xcd0];rfl,xb0,xs0,xu0,NH nuV xv0⟩
theorem ixm {K:PySem.W.Frag} {h:Heap} {mg:Str→Option Value} {nm q:Str} {st:Stmt} {cT fI:Addr} {NT:Addr} {xTnm xTq:Str} {xTbs:List Value} {xThd:Bool} {xTsn:List Str} {xTsub:List Value} {xTab:Bool} {xTcol:Option Bool} {xTdd:Option Addr} {xTa xTb xTc xTd xTe xTf:Option Value} {xToc:Value} {xTod:Option Addr} {xTes:Array DictEntry} {xTep:Nat} {xTsl:Array (Option Value)} {C NC:Addr} {xnm0 xq0:Str} {xbs0:List Value} {xsn0:List Str} {xsub0:List Value} {xab0:Bool} {xcol0:Option Bool} {xdd0:Option Addr} {xka0 xkb0 xkc0 xkd0 xkf0:Option Value} {xoc0:Value} {xod0:Option Addr} {xes0:Array DictEntry} {xep0:Nat} {xsl0:Array (Option Value)} {XD0:ClassData} {oci kVi dci pmi cdi cti:Value} {odi ani:Option Addr} {sli:Array (Option Value)} (X:K.In h) (G:h.Ns mainGlobals mg) (xn:nsIn K mainGlobals nm=some (some (.ref C))) (xTl:K.lookup cT=some ⟨.type "type",xTdd,.cls { name:=xTnm,bases:=xTbs,mro:=.ref cT::D7,ns:=NT,qualname:=xTq,hasDict:=xThd,slotNames:=xTsn,subclasses:=xTsub,abstract:=xTab,collection:=xTcol,hasDel:=false },#[xTa,xTb,xTc,xTd,xTe,xTf]⟩) (xTm:K.lookup NT=some ⟨xToc,xTod,.dict xTes xTep,xTsl⟩) (nTs:(xTes.all (fun e=>match e.key with | .str _ _=>true | _=>false))=true) (xTi:nsIn K NT "__init__"=some none) (xcg:PySem.W.specialIn K (.builtin "object.__class__") "__get__"=some (some (.builtin "getset_descriptor.__get__"))) (xct:PySem.W.takesIn K (.builtin "object.__class__")=some true) (xl0:K.lookup C=some (excClassObj xnm0 xq0 C NC xbs0 (.ref cT::D7) true xsn0 xsub0 xab0 xcol0 xdd0 xka0 xkb0 xkc0 xkd0 xkf0 "ValueError.__new__")) (xm0:K.lookup NC=some ⟨xoc0,xod0,.dict xes0 xep0,xsl0⟩) (nxs0:(xes0.all (fun e=>match e.key with | .str _ _=>true | _=>false))=true) (xi0:nsIn K NC "__init__"=some (some (.ref fI))) (xkp0:keepIn K (.ref C)=true) (xcd0:clsIn K C=some XD0) (nxm0:XD0.mro= .ref C::.ref cT::D7) (nxd0:XD0.hasDict=true) (xsa0:findIn K (.ref C) "__setattr__"=some (some (.builtin "object.__setattr__"))) (xga0:findIn K (.ref C) "__getattribute__"=some (some (.builtin "BaseException.__getattribute__"))) (xgn0:findIn K (.ref C) "__getattr__"=some none) (xca0:findIn K (.ref C) "__class__"=some (some (.builtin "object.__class__"))) (xt0:typeIn K (.ref C)=some (.type "type")) (xat:findIn K (.ref C) "at"=some none) (xli:K.lookup fI=some ⟨oci,odi,.func (fnOf "__init__" q (Bs st) (Bf st) (Ag st) .none kVi dci pmi ani cdi cti),sli⟩) (xci:PySem.W.codeIn K cdi q=true) (xki:keepIn K (.ref fI)=true) (xfi:isFn K (.ref fI)=true):IX K mg nm q st C cT:=⟨⟨⟨_,xcd0,nxm0,nxd0⟩,xsa0,xga0,xgn0,xca0,xcg,xct⟩,xt0,mg_of X G xn,xat,fI,_,Pw xl0 xm0 nxs0 xi0 xTl xTm nTs xTi xkp0,xfi,Jd xli xci xki⟩
theorem all_mk {l:PySem.W.OpenLaw} {w:World} {K:PySem.W.Frag} {h:Heap} {mg:Str→Option Value} {fa:Addr}  {dJ:Addr} {tL t1 t2 t3 t4 t5 t6 t7 t8:Tok} {ep:Nat} {tNS tLN:Tok} {dKi uN uB uF dSz:Addr} {tG i1 i2 i3 i4 i5 i6 i7 i8 i9 i10 j1 j2 j3 j4 j5 k1 k2 k3 k4 k5 k6 k7 k8 k9 m1 m2 m3 m4 m5:Tok} {epK nnN nnB nnF epS:Nat} {ddN ddB ddF:Option Addr} {ssN ssB ssF:Array (Option Value)} (X:K.In h) (G:h.Ns mainGlobals mg) (hfa:mg "law"=some (.ref fa))
  (h1:∃f d,FT K mg "_law_num" Ro f d)
  (h2:∃f d,FT K mg "_law_name" JC f d)
  (h3:∃f d,FT K mg "parts_of" JH f d)
  (h4:∃f d,FT K mg "letters" Fa f d)
  (h5:∃f d,FT K mg "refuse_strange" EE f d)
  (h6:∃f d,FT K mg "all_worlds" NF f d)
  (h7:∃f d,FT K mg "steps_of" IY f d)
  (h8:∃f d,FT K mg "letter_holds" Jr f d)
  (h9:∃f d,FT K mg "joined" Hc f d)
  (h10:∃f d,FT K mg "true_by" GG f d)
  (h11:∃f d,FT K mg "worlds_of" DY f d)
  (h12:∃f d,FT K mg "room_of" Hh f d)
  (h13:∃f d,FT K mg "shown" Jf f d)
  (h14:∃f d,FT K mg "line_of" Hq f d)
  (h18:∃f d,FT K mg "in_first_only" IV f d)
  (h19:∃f d,FT K mg "sides_of" EK f d)
  (h20:∃f d,FT K mg "in_any" RZ f d)
  (h21:∃f d,FT K mg "base_of" Gx f d)
  (h28:∃f d,FT K mg "can_stand" Jc f d)
  (h29:∃f d,FT K mg "read_on" TC f d)
  (h30:∃f d,FT K mg "read" Ou f d)
  (h36:∃f d,FT K mg "refuse_over" EN f d)
  (h41:∃f d,FT K mg "words_of" Fc f d)
  (h43:∃f d,FT K mg "house_by" EJ f d)
  (h44:∃f d,FT K mg "done_again" Dk f d)
  (h45:∃f d,FT K mg "read_house" Dj f d)
  (h46:∃f d,FT K mg "_law_raise_more" IU f d)
  (h47:∃f d,FT K mg "_law_raise" GX f d)
  (h48:∃f d,FT K mg "_law_kinds" Gz f d)
  (h49:∃f d,FT K mg "law" RD f d)
  (kTalk:∃c,KF K mg "Talk" c∧MP K c∧(∃f d,FM K c "__init__" "Talk.__init__" JP f d)∧(∃f d,FM K c "held" "Talk.held" IP f d)∧(∃f d,FM K c "over" "Talk.over" IZ f d)∧(∃f d,FM K c "end" "Talk.end" O0 f d)∧(∃f d,FM K c "back" "Talk.back" Jy f d))
  (kHouse:∃c,KF K mg "House" c∧Hy K c∧(∃f d,FM K c "write" "House.write" Gr f d)∧(∃f d,FM K c "__init__" "House.__init__" JG f d)∧(∃f d,FM K c "refuse_new_name" "House.refuse_new_name" D9 f d)∧(∃f d,FM K c "begin" "House.begin" Gq f d)∧(∃f d,FM K c "refuse_no_talk" "House.refuse_no_talk" EZ f d)∧(∃f d,FM K c "talk_of" "House.talk_of" Fk f d)∧(∃f d,FM K c "held" "House.held" JZ f d)∧(∃f d,FM K c "plainly" "House.plainly" DL f d)∧(∃f d,FM K c "refuse_letter" "House.refuse_letter" Fo f d)∧(∃f d,FM K c "known" "House.known" Gi f d)∧(∃f d,FM K c "room" "House.room" Jh f d)∧(∃f d,FM K c "end" "House.end" Nx f d)∧(∃f d,FM K c "back" "House.back" Kj f d)∧(∃f d,FM K c "last_line" "House.last_line" IR f d))
  (yabs:nsIn K mainGlobals "abs"=some none)
  (ylen:nsIn K mainGlobals "len"=some none)
  (yrange:nsIn K mainGlobals "range"=some none)
  (yisinstance:nsIn K mainGlobals "isinstance"=some none)
  (yint:nsIn K mainGlobals "int"=some none)
  (ybool:nsIn K mainGlobals "bool"=some none)
  (ystr:nsIn K mainGlobals "str"=some none)
  (ytuple:nsIn K mainGlobals "tuple"=some none)
  (ylist:nsIn K mainGlobals "list"=some none)
  (yset:nsIn K mainGlobals "set"=some none)
  (ysorted:nsIn K mainGlobals "sorted"=some none)
  (yany:nsIn K mainGlobals "any"=some none)
  (yall:nsIn K mainGlobals "all"=some none)
  (yValueError:nsIn K mainGlobals "ValueError"=some none)
  (yenumerate:nsIn K mainGlobals "enumerate"=some none)
  (hX:∃cT cS cL cW cB cN cO cG cBN cNT cNK cNS cNB,Px K mg cT∧Be K mg "StrangeLetter" cS cT∧Be K mg "NoLetter" cL cT∧Be K mg "NoWorld" cW cT∧Be K mg "BadWord" cB cT∧Be K mg "NoStanding" cN cT∧Be K mg "TalkOver" cO cT∧Be K mg "NothingSaid" cG cT∧Be K mg "BadName" cBN cT∧Be K mg "NameTaken" cNT cT∧Be K mg "NoTalk" cNK cT∧IX K mg "NoSentence" "NoSentence.__init__" Om cNS cT∧IX K mg "NoBook" "NoBook.__init__" JO cNB cT∧[cNS,cS,cL,cW,cB,cN,cO,cG,cBN,cNT,cNK,cNB,cT].Nodup)
  (aL:nsIn K mainGlobals "LETTERS"=some (some (.str "abcde" tL)))
  (aJ:nsIn K mainGlobals "JOINTS"=some (some (.ref dJ)))
  (lJ:K.lookup dJ=some ⟨.type "dict",none,.dict #[⟨hashStr w "and",.str "and" t1,.str "&" t2⟩,⟨hashStr w "or",.str "or" t3,.str "|" t4⟩,⟨hashStr w "if",.str "if" t5,.str ">" t6⟩,⟨hashStr w "same",.str "same" t7,.str "=" t8⟩] ep,#[]⟩)
  (nJ:(dJ == sysModules)=false)
  (aNS:nsIn K mainGlobals "NAME_SIGNS"=some (some (.str "abcdefghijklmnopqrstuvwxyz" tNS)))
  (aLN:nsIn K mainGlobals "LONGEST_NAME"=some (some (.int 8 tLN)))
  (aG:nsIn K mainGlobals "BEGINNINGS"=some (some (.str "abcde-(" tG)))
  (aKi:nsIn K mainGlobals "KINDS"=some (some (.ref dKi)))
  (aNt:nsIn K mainGlobals "BEGUN_NOT"=some (some (.ref uN)))
  (aBr:nsIn K mainGlobals "BEGUN_BRACKET"=some (some (.ref uB)))
  (lKi:K.lookup dKi=some ⟨.type "dict",none,.dict #[⟨hashStr w "&",.str "&" i1,.str "and" i2⟩,⟨hashStr w "|",.str "|" i3,.str "or" i4⟩,⟨hashStr w ">",.str ">" i5,.str "if" i6⟩,⟨hashStr w "=",.str "=" i7,.str "same" i8⟩] epK,#[]⟩)
  (nKi:(dKi == sysModules)=false)
  (lNt:K.lookup uN=some ⟨.type "tuple",ddN,.seq #[.str "not" i9] nnN,ssN⟩)
  (lBr:K.lookup uB=some ⟨.type "tuple",ddB,.seq #[.str "(" i10] nnB,ssB⟩)
  (aFg:nsIn K mainGlobals "FIGURES"=some (some (.ref uF)))
  (lFg:K.lookup uF=some ⟨.type "tuple",ddF,.seq #[.str "1" j1,.str "2" j2,.str "3" j3,.str "4" j4,.str "5" j5] nnF,ssF⟩)
  (aSz:nsIn K mainGlobals "SIZES"=some (some (.ref dSz)))
  (lSz:K.lookup dSz=some ⟨.type "dict",none,.dict #[⟨hashStr w "learn",.str "learn" k1,.int 3 k2⟩,⟨hashStr w "begin",.str "begin" k3,.int 5 k4⟩,⟨hashStr w "say",.str "say" k5,.int 4 k6⟩,⟨hashStr w "back",.str "back" k7,.int 2 k8⟩,⟨hashStr w "end",.str "end" k9,.int 2 m1⟩,⟨hashStr w "drop",.str "drop" m2,.int 2 m3⟩,⟨hashStr w "fork",.str "fork" m4,.int 3 m5⟩] epS,#[]⟩)
  (nSz:(dSz == sysModules)=false)
  : ∃fd:FuncData,(∀(s:Shared) (v:Value),BindsTo s fd ⟨[v],[]⟩ [("_law_script",v)])∧∀bz:Heap,K.In bz→bz.Ns mainGlobals mg→FnOk l.prog w K mg bz A8 12 fa fd ["_law_script"] (K8 K):=by
 obtain⟨f1,d1,h1⟩:=h1
 have F1:=h1.1
 have C1:=cx (ps:=["_law_script","_law_k"]) h1
 obtain⟨f2,d2,h2⟩:=h2
 have F2:=h2.1
 have C2:=cx (ps:=["_law_n"]) h2
 obtain⟨f3,d3,h3⟩:=h3
 have F3:=h3.1
 have C3:=cx (ps:=["layer"]) h3
 obtain⟨f4,d4,h4⟩:=h4
 have F4:=h4.1
 have C4:=cx (ps:=["sentence"]) h4
 obtain⟨f5,d5,h5⟩:=h5
 have F5:=h5.1
 have C5:=cx (ps:=["sentence","many"]) h5
 obtain⟨f6,d6,h6⟩:=h6
 have F6:=h6.1
 have C6:=cx (ps:=["many"]) h6
 obtain⟨f7,d7,h7⟩:=h7
 have F7:=h7.1
 have C7:=cx (ps:=["sentence"]) h7
 obtain⟨f8,d8,h8⟩:=h8
 have F8:=h8.1
 have C8:=cx (ps:=["letter","world"]) h8
 obtain⟨f9,d9,h9⟩:=h9
 have F9:=h9.1
 have C9:=cx (ps:=["kind","one","other"]) h9
 obtain⟨f10,d10,h10⟩:=h10
 have F10:=h10.1
 have C10:=cx (ps:=["steps","world"]) h10
 obtain⟨f11,d11,h11⟩:=h11
 have F11:=h11.1
 have C11:=cx (ps:=["sentence","room"]) h11
 obtain⟨f12,d12,h12⟩:=h12
 have F12:=h12.1
 have C12:=cx (ps:=["many","standing"]) h12
 obtain⟨f13,d13,h13⟩:=h13
 have F13:=h13.1
 have C13:=cx (ps:=["sentence"]) h13
 obtain⟨f14,d14,h14⟩:=h14
 have F14:=h14.1
 have C14:=cx (ps:=["words"]) h14
 obtain⟨f18,d18,h18⟩:=h18
 have F18:=h18.1
 have C18:=cx (ps:=["one","other"]) h18
 obtain⟨f19,d19,h19⟩:=h19
 have F19:=h19.1
 have C19:=cx (ps:=["room","kind","sentence"]) h19
 obtain⟨f20,d20,h20⟩:=h20
 have F20:=h20.1
 have C20:=cx (ps:=["rows"]) h20
 obtain⟨f21,d21,h21⟩:=h21
 have F21:=h21.1
 have C21:=cx (ps:=["sides"]) h21
 obtain⟨f28,d28,h28⟩:=h28
 have F28:=h28.1
 have C28:=cx (ps:=["sign","begun","whole"]) h28
 obtain⟨f29,d29,h29⟩:=h29
 have F29:=h29.1
 have C29:=cx (ps:=["sign","begun","whole"]) h29
 obtain⟨f30,d30,h30⟩:=h30
 have F30:=h30.1
 have C30:=cx (ps:=["text"]) h30
 obtain⟨f36,d36,h36⟩:=h36
 have F36:=h36.1
 have C36:=cx (ps:=["talk"]) h36
 obtain⟨f41,d41,h41⟩:=h41
 have F41:=h41.1
 have C41:=cx (ps:=["line"]) h41
 obtain⟨f43,d43,h43⟩:=h43
 have F43:=h43.1
 have C43:=cx (ps:=["line"]) h43
 obtain⟨f44,d44,h44⟩:=h44
 have F44:=h44.1
 have C44:=cx (ps:=["house","line"]) h44
 obtain⟨f45,d45,h45⟩:=h45
 have F45:=h45.1
 have C45:=cx (ps:=["lines"]) h45
 obtain⟨f46,d46,h46⟩:=h46
 have F46:=h46.1
 have C46:=cx (ps:=["_law_house","_law_way","_law_name_here","_law_many"]) h46
 obtain⟨f47,d47,h47⟩:=h47
 have F47:=h47.1
 have C47:=cx (ps:=["_law_way","_law_name_here","_law_many"]) h47
 obtain⟨f48,d48,h48⟩:=h48
 have F48:=h48.1
 have C48:=cx (ps:=["_law_way","_law_name_here","_law_many"]) h48
 obtain⟨f49,d49,FLAW,a49⟩:=h49
 have e:=hfa.symm.trans a49
 cases e
 obtain⟨cK,kTalk,TX,⟨f22,d22,h22⟩,⟨f26,d26,h26⟩,⟨f35,d35,h35⟩,⟨f37,d37,h37⟩,⟨f39,d39,h39⟩⟩:=kTalk
 have F22:=h22.1
 have C22:=UL (ps:=["self","many","room","kind","sentence","rule"]) rfl kTalk h22
 have F26:=h26.1
 have C26:=Ic (ps:=["self"]) h26
 have F35:=h35.1
 have C35:=Ic (ps:=["self"]) h35
 have F37:=h37.1
 have C37:=Ic (ps:=["self"]) h37
 have F39:=h39.1
 have C39:=Ic (ps:=["self"]) h39
 obtain⟨cH,kHouse,HX,⟨f15,d15,h15⟩,⟨f16,d16,h16⟩,⟨f17,d17,h17⟩,⟨f23,d23,h23⟩,⟨f24,d24,h24⟩,⟨f25,d25,h25⟩,⟨f27,d27,h27⟩,⟨f31,d31,h31⟩,⟨f32,d32,h32⟩,⟨f33,d33,h33⟩,⟨f34,d34,h34⟩,⟨f38,d38,h38⟩,⟨f40,d40,h40⟩,⟨f42,d42,h42⟩⟩:=kHouse
 have F15:=h15.1
 have C15:=Ic (ps:=["self","words"]) h15
 have F16:=h16.1
 have C16:=UL (ps:=["self","many","standing"]) rfl kHouse h16
 have F17:=h17.1
 have C17:=Ic (ps:=["self","name"]) h17
 have F23:=h23.1
 have C23:=Ic (ps:=["self","name","kind","sentence","rule"]) h23
 have F24:=h24.1
 have C24:=Ic (ps:=["self","name"]) h24
 have F25:=h25.1
 have C25:=Ic (ps:=["self","name"]) h25
 have F27:=h27.1
 have C27:=Ic (ps:=["self","name"]) h27
 have F31:=h31.1
 have C31:=Ic (ps:=["self","sentence"]) h31
 have F32:=h32.1
 have C32:=Ic (ps:=["self","letter"]) h32
 have F33:=h33.1
 have C33:=Ic (ps:=["self","letter"]) h33
 have F34:=h34.1
 have C34:=Ic (ps:=["self"]) h34
 have F38:=h38.1
 have C38:=Ic (ps:=["self","name"]) h38
 have F40:=h40.1
 have C40:=Ic (ps:=["self","name"]) h40
 have F42:=h42.1
 have C42:=Ic (ps:=["self"]) h42
 have zabs:=mg_none_of X G yabs
 have zlen:=mg_none_of X G ylen
 have zrange:=mg_none_of X G yrange
 have zisinstance:=mg_none_of X G yisinstance
 have zint:=mg_none_of X G yint
 have zbool:=mg_none_of X G ybool
 have zstr:=mg_none_of X G ystr
 have ztuple:=mg_none_of X G ytuple
 have zlist:=mg_none_of X G ylist
 have zset:=mg_none_of X G yset
 have zsorted:=mg_none_of X G ysorted
 have zany:=mg_none_of X G yany
 have zall:=mg_none_of X G yall
 have zValueError:=mg_none_of X G yValueError
 have zenumerate:=mg_none_of X G yenumerate
 obtain⟨cT,cS,cL,cW,cB,cN,cO,cG,cBN,cNT,cNK,cNS,cNB,XT,X_StrangeLetter,X_NoLetter,X_NoWorld,X_BadWord,X_NoStanding,X_TalkOver,X_NothingSaid,X_BadName,X_NameTaken,X_NoTalk,I_NoSentence,I_NoBook,ND⟩:=hX
 obtain⟨oc,od,kV,dc,pm,an,cd,ct,sl,ed,_,_⟩:=FLAW.ex
 refine⟨d49,fun s v=>?_,fun bz _ _=>?_⟩
 ·subst ed
  exact .of_eq rfl
 have B:Bl mg:=⟨zabs,zlen,zrange⟩
 have T:HB mg:=⟨zisinstance,zint,zbool,zstr,ztuple,zlist,zset,zsorted,zrange,zany,zall⟩
 have SHT:QO l.prog w K mg:=⟨zisinstance,zstr,⟨_,mg_of X G aL⟩,dJ,mg_of X G aJ,Q2 lJ (by decide) nJ (fun _=>rfl)⟩
 have RT:PZ l.prog w K mg uN uB:=⟨⟨_,mg_of X G aL⟩,⟨_,mg_of X G aG⟩,⟨dKi,mg_of X G aKi,Q2 lKi (by decide) nKi (fun _=>rfl)⟩,mg_of X G aNt,mg_of X G aBr,fun H=>.inr ⟨_,_,_,lNt,rfl,rfl,LU,.cons ⟨_,rfl⟩ .nil⟩,fun H=>.inr ⟨_,_,_,lBr,rfl,rfl,LU,.cons ⟨_,rfl⟩ .nil⟩,zenumerate,zlen⟩
 have BX:Uk l.prog w K mg uF dSz:=⟨mg_of X G aFg,fun H=>.inr ⟨_,_,_,lFg,rfl,rfl,(show 5≤sizeLine by decide),.cons ⟨_,rfl⟩ (.cons ⟨_,rfl⟩ (.cons ⟨_,rfl⟩ (.cons ⟨_,rfl⟩ (.cons ⟨_,rfl⟩ .nil))))⟩,mg_of X G aSz,TV lSz nSz⟩
 obtain⟨iA0,iT0,iM0,iN0,fI0,dI0,iC0,iF0,iU0⟩:=I_NoSentence
 obtain⟨iA1,iT1,iM1,iN1,fI1,dI1,iC1,iF1,iU1⟩:=I_NoBook
 have XI0:XI l.prog w K mg bz "NoSentence" cNS cT fI0 dI0:=⟨iC0,iA0,iT0,iF0,PK iU0 iA0 iN0,iU0.binds (ps:=["self","at"]) (by intro _ _ _ _ _ _ us hl;obtain⟨_,_,rfl⟩:=E4 hl;rfl),iM0⟩
 have XI11:XI l.prog w K mg bz "NoBook" cNB cT fI1 dI1:=⟨iC1,iA1,iT1,iF1,OW iU1 iA1 iN1,iU1.binds (ps:=["self","at"]) (by intro _ _ _ _ _ _ us hl;obtain⟨_,_,rfl⟩:=E4 hl;rfl),iM1⟩
 have TW:=Mv ND ⟨iA0,iT0⟩ ⟨X_StrangeLetter.at_,X_StrangeLetter.ty⟩ ⟨X_NoLetter.at_,X_NoLetter.ty⟩ ⟨X_NoWorld.at_,X_NoWorld.ty⟩ ⟨X_BadWord.at_,X_BadWord.ty⟩ ⟨X_NoStanding.at_,X_NoStanding.ty⟩ ⟨X_TalkOver.at_,X_TalkOver.ty⟩ ⟨X_NothingSaid.at_,X_NothingSaid.ty⟩ ⟨X_BadName.at_,X_BadName.ty⟩ ⟨X_NameTaken.at_,X_NameTaken.ty⟩ ⟨X_NoTalk.at_,X_NoTalk.ty⟩ ⟨iA1,iT1⟩
 have G1:=Q7 (P:=l.prog) (w:=w) (mg:=mg) (bz:=bz) F1 B
 have G2:=Oe (P:=l.prog) (w:=w) (mg:=mg) (bz:=bz) F2 B
 have G3:=NP (P:=l.prog) (w:=w) (mg:=mg) (bz:=bz) F3
 have G4:=I9 (P:=l.prog) (w:=w) (mg:=mg) (bz:=bz) F4 T G3 C3
 have G5:=LB (P:=l.prog) (w:=w) (mg:=mg) (bz:=bz) F5 X_StrangeLetter G4 C4
 have G6:=Pl (P:=l.prog) (w:=w) (mg:=mg) (bz:=bz) F6 T
 have G7:=O1 (P:=l.prog) (w:=w) (mg:=mg) (bz:=bz) F7 G3 C3
 have G8:=OR (P:=l.prog) (w:=w) (mg:=mg) (bz:=bz) F8
 have G9:=Ma (P:=l.prog) (w:=w) (mg:=mg) (bz:=bz) F9
 have G10:=Ml (P:=l.prog) (w:=w) (mg:=mg) (bz:=bz) F10 G8 C8 G9 C9
 have G11:=Ip (P:=l.prog) (w:=w) (mg:=mg) (bz:=bz) F11 G7 C7 G10 C10
 have G12:=LQ (P:=l.prog) (w:=w) (mg:=mg) (bz:=bz) F12 T X_NoWorld G5 C5 G6 C6 G11 C11
 have G13:=N0 (P:=l.prog) (w:=w) (mg:=mg) (bz:=bz) F13 SHT
 have G14:=Mn (P:=l.prog) (w:=w) (mg:=mg) (bz:=bz) F14
 have G15:=MH (P:=l.prog) (w:=w) (mg:=mg) (bz:=bz) F15 HX G14 C14
 have G16:=OO (P:=l.prog) (w:=w) (mg:=mg) (bz:=bz) F16 HX T G12 C12 G13 C13 G15 C15
 have G17:=Ij (P:=l.prog) (w:=w) (mg:=mg) (bz:=bz) F17 (cK:=cK) HX T B X_BadName X_NameTaken (mg_of X G aNS) (mg_of X G aLN)
 have G18:=NR (P:=l.prog) (w:=w) (mg:=mg) (bz:=bz) F18 T
 have G19:=Jq (P:=l.prog) (w:=w) (mg:=mg) (bz:=bz) F19 X_BadWord X_NoStanding G11 C11 G18 C18
 have G20:=Q6 (P:=l.prog) (w:=w) (mg:=mg) (bz:=bz) F20 T
 have G21:=LV (P:=l.prog) (w:=w) (mg:=mg) (bz:=bz) F21 G20 C20
 have G22:=Nl (P:=l.prog) (w:=w) (mg:=mg) (bz:=bz) F22 TX T X_BadWord G5 C5 G19 C19 G21 C21
 have G23:=Mr (P:=l.prog) (w:=w) (mg:=mg) (bz:=bz) F23 HX G17 C17 G22 C22 G13 C13 G15 C15
 have G24:=Ja (P:=l.prog) (w:=w) (mg:=mg) (bz:=bz) F24 (cK:=cK) HX X_NoTalk
 have G25:=JY (P:=l.prog) (w:=w) (mg:=mg) (bz:=bz) F25 HX G24 C24
 have G26:=NE (P:=l.prog) (w:=w) (mg:=mg) (bz:=bz) F26 TX T
 have G27:=NK (P:=l.prog) (w:=w) (mg:=mg) (bz:=bz) F27 HX TX G25 C25 G26 C26
 have G28:=N1 (P:=l.prog) (w:=w) (mg:=mg) (bz:=bz) F28 RT
 have G29:=Tm (P:=l.prog) (w:=w) (mg:=mg) (bz:=bz) F29 RT
 have G30:=PV (P:=l.prog) (w:=w) (mg:=mg) (bz:=bz) F30 RT G28 C28 G29 C29 XI0.GI XI0.BI XI0.M XI0.at_ XI0.ty XI0.hfn XI0.mN
 have G31:=JD (P:=l.prog) (w:=w) (mg:=mg) (bz:=bz) F31 HX G5 C5
 have G32:=Ke (P:=l.prog) (w:=w) (mg:=mg) (bz:=bz) F32 HX T X_NoLetter
 have G33:=Mf (P:=l.prog) (w:=w) (mg:=mg) (bz:=bz) F33 HX G32 C32
 have G34:=M0 (P:=l.prog) (w:=w) (mg:=mg) (bz:=bz) F34 HX T
 have G35:=N8 (P:=l.prog) (w:=w) (mg:=mg) (bz:=bz) F35 TX
 have G36:=Kd (P:=l.prog) (w:=w) (mg:=mg) (bz:=bz) F36 TX X_TalkOver G35 C35
 have G37:=P0 (P:=l.prog) (w:=w) (mg:=mg) (bz:=bz) F37 TX G36 C36
 have G38:=PM (P:=l.prog) (w:=w) (mg:=mg) (bz:=bz) F38 HX TX G25 C25 G37 C37 G15 C15
 have G39:=Oy (P:=l.prog) (w:=w) (mg:=mg) (bz:=bz) F39 TX X_NothingSaid G36 C36
 have G40:=NJ (P:=l.prog) (w:=w) (mg:=mg) (bz:=bz) F40 HX TX G25 C25 G39 C39 G15 C15
 have G41:=Of (P:=l.prog) (w:=w) (mg:=mg) (bz:=bz) F41
 have G42:=Nv (P:=l.prog) (w:=w) (mg:=mg) (bz:=bz) F42 HX
 have G43:=Jo (P:=l.prog) (w:=w) (mg:=mg) (bz:=bz) F43 T B HX XT BX G41 C41 G16 C16 FnOk.never60 C30 G42 C42
 have G44:=Qo (P:=l.prog) (w:=w) (mg:=mg) (bz:=bz) F44 T B BX G41 C41
 have G45:=M1 (P:=l.prog) (w:=w) (mg:=mg) (bz:=bz) F45 zenumerate XI11 G43 C43 G44 C44
 have G46:=NQ (P:=l.prog) (w:=w) (mg:=mg) (bz:=bz) F46 (adr:=Fy cNS cS cL cW cB cN cO cG cBN cNT cNK cNB) HX T G38 C38 G40 C40 G23 C23 G27 C27 G45 C45
 have G47:=Mo (P:=l.prog) (w:=w) (mg:=mg) (bz:=bz) F47 (adr:=Fy cNS cS cL cW cB cN cO cG cBN cNT cNK cNB) HX T G16 C16 G23 C23 G27 C27 G30 C30 G31 C31 G33 C33 G12 C12 G19 C19 G34 C34 G46 C46
 have G48:=L6 (P:=l.prog) (w:=w) (mg:=mg) (bz:=bz) F48 (adr:=Fy cNS cS cL cW cB cN cO cG cBN cNT cNK cNB) T XT TW XI0 XI11 X_StrangeLetter X_NoLetter X_NoWorld X_BadWord X_NoStanding X_TalkOver X_NothingSaid X_BadName X_NameTaken X_NoTalk G47 C47
 exact Q5 FLAW B T (G1.mono (by decide)) C1 (G2.mono (by decide)) C2 (G48.mono (by decide)) C48
theorem walk {l:PySem.W.OpenLaw} {q:Program} {loose:List Str} {XP:(Str→Option Value)→Heap→Prop} {YP:World→Heap→Prop} {d:DefRec} {K:Params→PySem.W.Frag} (hn:l.most=some 63) (hdf:d.params.defaults=[])
  (hY:∀(w:World) (h:Heap),YP w h→(K w.params).In h)
  (F:∀(w:World) (mg:Str→Option Value) (fa:Addr) (h:Heap),(K w.params).In h→h.Ns mainGlobals mg→mg d.name=some (.ref fa)→
   ∃fd:FuncData,(∀(s:Shared) (u:Value),BindsTo s fd ⟨[u],[]⟩ [("_law_script",u)])∧∀bz:Heap,(K w.params).In bz→bz.Ns mainGlobals mg→FnOk l.prog w (K w.params) mg bz A8 12 fa fd ["_law_script"] (K8 (K w.params))) :
  PySem.W.WalkO q loose XP YP l.row.toRowW d [] (fun f vs=>PySem.call f vs):=
 L2.walk_of (n:=63) (k:=12) (x:="_law_script") (CX:=fun _=>A8) (sp:=fun w=>K8 (K w.params)) hn (by decide) hdf ⟨rfl,by decide,by decide⟩ hY F (fun _ _ a ns hl _ hS=>⟨a,ns,rfl,hS,hl,fun _=>rfl⟩) fun _ _ _ _ _ z=>z
end Toy
namespace PySem.W.Fast
def tw7786761014083579485:=0
def tw16866080568382054971:=0
def tw15596787383531650033:=0
def tw4798267390150310860:=0
def tw145826691155975688:=0
def tw16451273683859206486:=0
def tw4858038783962642377:=0
def tw4154160326935692820:=0
def tw14301507112064231257:=0
def tw8230073346110734660:=0
def tw9085451231576996334:=0
def tw8300319735778065658:=0
def tw3935995733005759222:=0
def tw17822727526861600685:=0
def tw15259886967168953778:=0
def tw16949429910544936618:=0
def tw44414806815639853:=0
def tw7175922866942197357:=0
def tw12685499597211678915:=0
def tw15760932780639435168:=0
def tw1577320448708280489:=0
def tw15469626915093474994:=0
def tw773372292776230684:=0
def tw7006566323207276570:=0
def tw2022439886852743131:=0
def tw3745816770154613474:=0
def tw4004147760340181739:=0
def tw6209258747299361428:=0
def tw5784732950079480654:=0
def tw16368714492997476029:=0
def tw593930490384672308:=0
def tw17926284445834533666:=0
def tw1292031907605903122:=0
def tw16416816460949876147:=0
def tw15836618060927625284:=0
def tw3052692230994466904:=0
def tw11691389081227468690:=0
def tw749354682452527363:=0
def tw14972605533171133251:=0
def tw372576063788353668:=0
def tw9919412331196135202:=0
def tw3718278867999032431:=0
def tw6387032205744297733:=0
def tw11682426772799164567:=0
def tw1875174145239978103:=0
def tw2677429822070038646:=0
def tw17466856390404836292:=0
def tw14168693556340044239:=0
def tw16869287701335208183:=0
def tw4479912456927251421:=0
def tw12980494517696093345:=0
def tw9916012860549392479:=0
def tw17758616099415218580:=0
def tw6951171905297197568:=0
def tw15232003395985236194:=0
def tw16902994072695067447:=0
def tw17451673725828546319:=0
def tw8462804262418647153:=0
def tw13981550155891905190:=0
def tw7687049620115979241:=0
def tw16312350719478419156:=0
def tw16267501687196732715:=0
def tw8305226672881291303:=0
def tw16916027197075184305:=0
def tw11955672822503757693:=0
def tw15753562750156608004:=0
def tw1011638340404731081:=0
def tw1258821985914411393:=0
def tw1884464790455005242:=0
def tw15930531500172034908:=0
def tw1787588828348783959:=0
def tw18363716257605826744:=0
def tw8367395519084496028:=0
def tw16259488596518572612:=0
def tw7842754146173718024:=0
def tw1689865076490829927:=0
def tw11035770252861253242:=0
def tw3216481051633189741:=0
def tw9464809427248546303:=0
def tw17697214167394684046:=0
def tw947560046092435596:=0
def tw12590886123663692462:=0
def tw1783103890350582218:=0
def tw8847433938431105845:=0
def tw4930641991401928978:=0
def tw3113753557184223000:=0
def tw14951518774761708644:=0
def tw3501003520736843783:=0
def tw17985888091444240273:=0
def tw6468758394344502347:=0
def tw13897434935604895940:=0
def tw15236015471562431232:=0
def tw10658169618882205531:=0
def tw9177389496548991564:=0
def tw2823132774589186164:=0
def tw1859303063015271483:=0
def tw11125233891260738120:=0
def tw17200803328870991671:=0
def tw18322822071808662743:=0
def tw6488053307216793188:=0
def tw748038984168107292:=0
def tw8929635564661342676:=0
def tw606547825431236578:=0
def tw4233152561706387088:=0
def tw10199202733737925253:=0
def tw7460307626872179161:=0
def tw11825688071767782019:=0
def tw10269623715689478108:=0
def tw3083336262067922113:=0
def tw9972816515805316978:=0
def tw9892370051414731615:=0
def tw9573743855516053109:=0
def tw3776927257515317034:=0
def tw10100177835311402417:=0
def tw14879393578871022364:=0
def tw2894867845196219810:=0
def tw2853651518605676028:=0
def tw1049392930620884864:=0
def tw16190762319532855557:=0
def tw13794144281396625243:=0
def tw8948538068726274710:=0
def tw11606999560655187628:=0
def tw13457235700222771856:=0
def tw6494841149070098411:=0
def tw15861105450984546613:=0
def tw1062134455393650239:=0
def tw504209430583135677:=0
def tw14413634508668388914:=0
def tw868292852895618347:=0
def tw15893139500158385676:=0
def tw14030766635724776069:=0
def tw15298489502787661877:=0
def tw10058538970192172329:=0
def tw2854612037357849364:=0
def tw8480387883844722917:=0
def tw4866452795434004355:=0
def tw9850265429897953809:=0
def tw1179443870893997864:=0
def tw14567949114424222748:=0
def tw12902682319430091613:=0
def tw6313796953356243605:=0
def tw9714388111646995295:=0
def tw7068832293806213024:=0
def tw5708624564372546120:=0
def tw10266363710576185823:=0
def tw17266990823246686697:=0
def tw6618185587041054615:=0
def tw17759266403015041040:=0
def tw17777863111559083282:=0
def tw4612255495900112489:=0
def tw12991972868886466638:=0
def tw6683008572488502942:=0
def tw6946342896654587936:=0
def tw4490358917566426191:=0
def tw4516471762771041957:=0
def tw4821171964798601324:=0
def tw9952304969984688464:=0
def tw17995393702358209570:=0
def tw6882163509088344700:=0
def tw12070275568367042702:=0
def tw4631849756981093020:=0
def tw6887521144944021971:=0
def tw11077459694530244376:=0
def tw6395592077873863833:=0
def tw8370917628907621198:=0
def tw16375863515188930077:=0
def tw2118832539899217153:=0
def tw8647601986734934069:=0
def tw2808773299999307315:=0
def tw2422057001439618725:=0
def tw8567556466368207482:=0
def tw265775045077074724:=0
def tw17167036506130589208:=0
def tw1662806984495881781:=0
def tw1132699718498283640:=0
def tw7082685502802045472:=0
def tw17726483254517673412:=0
def tw11797744640599778895:=0
def tw12922686967332566906:=0
def tw2294860934394980304:=0
def tw9190295279768997968:=0
def tw8945545456341420992:=0
def tw2592927404845903003:=0
def tw406077116070021551:=0
def tw14942926699612227116:=0
def tw4559573233474195180:=0
def tw6996709965938277954:=0
def tw5104848678284349364:=0
def tw11644781715934986209:=0
def tw6115747970420641437:=0
def tw6516523620222951876:=0
def tw5214833874901307600:=0
def tw8673941798671407601:=0
def tw18391229257251183912:=0
def tw17016896487891588972:=0
def tw12541088292346638615:=0
def tw3297845959173330192:=0
def tw11673922425731104865:=0
def tw13934983221165659422:=0
def tw4342641583098569423:=0
def tw10146951279510319126:=0
def tw4203551105543394739:=0
def tw8915347620973634033:=0
def tw13556696476624352157:=0
def tw17355857845921622045:=0
def tw15488156995786237273:=0
def tw4535099697495144533:=0
def tw15800004312560079277:=0
def tw862696397265167510:=0
def tw2588959716104229281:=0
def tw17974828302263163675:=0
def tw13826406412706955586:=0
def tw11627831394072260898:=0
def tw10389265202223940501:=0
def tw10594286338540208829:=0
def tw13090872793493958553:=0
def tw6568424750845775758:=0
def tw16056541943230577334:=0
def tw2794692029858735866:=0
def tw10388134770977542717:=0
def tw2490338814935154535:=0
def tw3857644458175996750:=0
def tw11884594928613812626:=0
def tw5878176384047894035:=0
def tw7829393293674081791:=0
def tw7207331683094251382:=0
def tw942738187695658170:=0
def tw18033917888921658387:=0
def tw5424065867753296821:=0
def tw6187604630223442932:=0
def tw11986460775546757869:=0
def tw10611841092319852541:=0
def tw16536904267999111850:=0
def tw9226422309472715984:=0
def tw17994151507842928669:=0
def tw8432287161052427186:=0
def tw15155467113788806147:=0
def tw1169995312180067317:=0
def tw17598759507452717844:=0
def tw7947797883235013452:=0
def tw14972726460270285881:=0
def tw7931810147657434646:=0
def tw14725777228964829793:=0
def tw9123022645426862624:=0
def tw13290660475122910945:=0
def tw15545174946366842928:=0
def tw13643048792043392412:=0
def tw17925656999244323418:=0
def tw6864355677469735105:=0
def tw3415504428384444272:=0
def tw8734052774965836666:=0
def tw417244039185011477:=0
def tw5276971772225719987:=0
def tw7900556013759974334:=0
def tw5896228021245426859:=0
def tw9924128086722603862:=0
def tw2600789727453402884:=0
def tw12582275957195906652:=0
def tw7239649466704291606:=0
def tw17594061637894037527:=0
def tw6935396354367104250:=0
def tw936225649596394942:=0
def tw9693349727384848446:=0
def tw11085653806326241065:=0
def tw16667078960608335538:=0
def tw238208207499424738:=0
def tw11781443145029986422:=0
def tw12398412137026945167:=0
def tw11267619044291595281:=0
def tw3560704293861065856:=0
def tw641743848744735423:=0
def tw14232564253567222825:=0
def tw5236165974537243924:=0
def tw15682803760606663570:=0
def tw12672491749721012980:=0
def tw2803660194699562952:=0
def tw15640489909770958973:=0
def tw2166399034468099761:=0
def tw2934087289611433730:=0
def tw8644260157252678185:=0
def tw2725609885859778837:=0
def tw5299466109773556787:=0
def tw12577402703098954631:=0
def tw5130633213787488728:=0
def tw16076405704206664608:=0
def tw720461565678059835:=0
def tw12093094535418994118:=0
def tw14931701288931621440:=0
def tw12417904843663751411:=0
def tw16639462189959703780:=0
def tw2724817445381902802:=0
def tw13027051725996014346:=0
def tw10284502622400908301:=0
def tw17928288668245707947:=0
def tw12381712025543338603:=0
def tw13466041149386027603:=0
def tw12282237717626124619:=0
def tw14548269172546443628:=0
def tw1614321029226819657:=0
def tw18312551864322559229:=0
def tw10953069329294360037:=0
def tw11734148208064571040:=0
def tw7012287020947047481:=0
def tw2696488885728862742:=0
def tw13951312655420236664:=0
def tw1434853428004794359:=0
def tw13709193100622683782:=0
def tw9385110717776595532:=0
def tw12731467034840968286:=0
def tw10217773440894406185:=0
def tw12117523939272004140:=0
def tw420273829266448213:=0
def tw5860228990445105087:=0
def tw8234925306720700737:=0
def tw3696876908130933261:=0
def tw426795684105191401:=0
def tw15743221600941348777:=0
def tw6555338752062151240:=0
def tw7677722936957037985:=0
def tw14220526570503976617:=0
def tw3106506915384278190:=0
def tw12660661811205411349:=0
def tw11689868741135936583:=0
def tw1483222865944882612:=0
def tw5891564475108376602:=0
def tw7617527964810589606:=0
def tw10942317961957401400:=0
def tw10188311880560040492:=0
def tw13536264083576165233:=0
def tw8819258466363663793:=0
def tw846315908302028983:=0
def tw4134004121422647284:=0
def tw15346396859694233994:=0
def tw5526904692214751588:=0
def tw2043294694545009025:=0
def tw339862741523856979:=0
def tw7926880078858340716:=0
def tw13689614745755175248:=0
def tw187079168509614451:=0
def tw4026563201427673557:=0
def tw13138121477620224992:=0
def tw4465638225309657891:=0
def tw11579744577672374296:=0
def tw12911235774431863270:=0
def tw17778691006318755732:=0
def tw494889004198623509:=0
def tw9002499673973387379:=0
def tw9226939409324471072:=0
def tw3026112189097738146:=0
def tw6490268859372928946:=0
def tw1507961461658048370:=0
def tw5224874777723443334:=0
def tw14201991661949004522:=0
def tw18248547418381890405:=0
def tw9121665421037465065:=0
def tw8931860436974879399:=0
def tw74597626560681482:=0
def tw18000185617287219608:=0
def tw8446016806406704709:=0
def tw11400074509276800896:=0
def tw4315777890692993536:=0
def tw255050593593006032:=0
def tw16513311629556763773:=0
def tw9777163508098230166:=0
def tw4958619792543864537:=0
def tw12176301298139843241:=0
def tw7517972220121004930:=0
def tw17758046690946671166:=0
def tw10420286957474059876:=0
def tw10353346838830125556:=0
def tw5965188068871879446:=0
def tw4070727868921409506:=0
def tw11309051245583003109:=0
def tw8335957068976490562:=0
def tw1514601032963048299:=0
def tw14590558051405298645:=0
def tw6449948054715248958:=0
def tw374818621174399406:=0
def tw17654881866253677826:=0
def tw8226141566244011671:=0
def tw6554084609563747975:=0
def tw4021614367011630586:=0
def tw9301182157845766437:=0
def tw15672873610537677018:=0
end PySem.W.Fast
open PySem PySem.W PyProof.Rows
set_option maxRecDepth 100000 in
set_option maxHeartbeats 0 in
theorem PySem.Challenge.cw_holdtalk_k60_refusals_apart_holds : PySem.Challenge.rw_holdtalk_k60_refusals_apart.Holds := by
 w_on;o_law;k_head;(case hw=>w_witness2)
 k_fill
 refine Toy.walk (l:=PySem.Challenge.rw_holdtalk_k60_refusals_apart) rfl rfl (fun w h Y=>PySem.W.kIn_of Y) ?F
 case F=>
  intro w mg fa h KX G hmg
  apply Toy.all_mk KX G hmg
  iterate 30 (apply Toy.fx KX G;iterate 4 k_is)
  apply Exists.intro;apply And.intro;apply Toy.kf KX G;iterate 3 k_is
  apply And.intro;apply Toy.tkx;iterate 13 k_is
  iterate 4 (apply And.intro;apply Toy.mx;iterate 5 k_is)
  apply Toy.mx;iterate 5 k_is
  apply Exists.intro;apply And.intro;apply Toy.kf KX G;iterate 3 k_is
  apply And.intro;apply Toy.hsx;iterate 9 k_is
  iterate 13 (apply And.intro;apply Toy.mx;iterate 5 k_is)
  apply Toy.mx;iterate 5 k_is
  iterate 15 k_is
  iterate 13 apply Exists.intro
  apply And.intro;apply Toy.tx KX G (PySem.W.mg_none_of KX G (by k_is)) (PySem.W.mg_none_of KX G (by k_is));iterate 4 k_is
  iterate 10 (apply And.intro;apply Toy.ox KX G;iterate 25 first|k_is|rfl|decide|simp)
  iterate 2 (apply And.intro;apply Toy.ixm KX G;iterate 25 first|k_is|rfl|decide|simp)
  decide
  k_is
  k_is
  k_is
  first|k_is|rfl|decide|simp
  k_is
  k_is
  k_is
  k_is
  k_is
  k_is
  k_is
  first|k_is|rfl|decide|simp
  k_is
  k_is
  k_is
  k_is
  k_is
  k_is
  first|k_is|rfl|decide|simp
