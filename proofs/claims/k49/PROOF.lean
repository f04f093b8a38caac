import PyProof.Rows.All
import Wide.All
import OpenK.AllK
import Wide.FinOn
import Lean
import PyProof.EqAt
import PyProof.EqKinds
import PyProof.TupleCall
import PyProof.NeKinds
import PyProof.EnumMake
import PyProof.EnumStmt
import PyProof.Draws
import PyProof.WalksT
import PyProof.StrWalks
import PyProof.Rows.EnumRows
import PyProof.StrLawsIdx
import PyProof.StrBlockI
import PyProof.StationsW
import PyProof.ExcInit
import PyProof.ExcBaseAll.ValueError
import PyProof.ExcAttrAll.ValueError
import PyProof.Rows.CatchOwn
import PyProof.CompUse
import PyProof.CompFree
import PyProof.SetKind
import PyProof.SetScanFacts
import PyProof.SetRoads
import PyProof.SetNew
import PyProof.Rows.SetFrom
import PyProof.CollectWalk
import PyProof.Rows.SortShell
import PyProof.Cells
import PyProof.ListRange
import PyProof.ConsumeWalk
import PyProof.Tail
import PyProof.CallStr
import PyProof.AutoSeq1
import PyProof.DictRoads
import PyProof.DictStraight
import PyProof.MeetsDictList
import PyProof.FactsAll.dict_3
import KE.KDictList
import PyProof.NsDelKeeps
import PyProof.RangeIter
import PyProof.TableTree
import PySem.Challenge.RW_holdtalk_k49_doors_of_a_house
set_option Elab.async false
set_option linter.all false
set_option maxRecDepth 100000
namespace L2
open PySem PySem.Spec PyProof.Rows
abbrev Er:=Sum Int Str
def JD:Er→Value→Bool
 | .inl k,v=>Value.isInt k v
 | .inr x,v=>Value.isStrOf x v
def WG (w:World):Er→Int
 | .inl k=>hashInt k
 | .inr x=>hashStr w x
theorem Ba:∀{k:Er} {v:Value},JD k v=true→(∃i t,k=Sum.inl i∧v=Value.int i t)∨(∃x t,k=Sum.inr x∧v=Value.str x t)
 | .inl i,v,h=>by
  obtain⟨t,e⟩:=Value.isInt_shape (k:=i) (v:=v) h
  exact .inl ⟨i,t,rfl,e⟩
 | .inr x,v,h=>by
  obtain⟨t,e⟩:=Value.isStrOf_shape (x:=x) (v:=v) h
  exact .inr ⟨x,t,rfl,e⟩
theorem Ni (x:Str) (t:Tok):JD (.inr x) (.str x t)=true:=by simp[JD,Value.isStrOf]
theorem TB (a b:Int):decide ((Sum.inl a:Er)=Sum.inl b)=(a == b):=by
 by_cases e:a=b
 ·subst e;simp
 ·have h:¬(Sum.inl a:Er)=Sum.inl b:=fun q=>e (Sum.inl.inj q)
  rw[decide_eq_false h]
  exact (beq_eq_false_iff_ne.mpr e).symm
theorem UC (a b:Str):decide ((Sum.inr a:Er)=Sum.inr b)=decide (a=b):=by
 by_cases e:a=b
 ·subst e;simp
 ·have h:¬(Sum.inr a:Er)=Sum.inr b:=fun q=>e (Sum.inr.inj q)
  rw[decide_eq_false h,decide_eq_false e]
theorem Um (a:Int) (b:Str):decide ((Sum.inl a:Er)=Sum.inr b)=false:=decide_eq_false (fun q=>nomatch q)
theorem Ux (a:Str) (b:Int):decide ((Sum.inr a:Er)=Sum.inl b)=false:=decide_eq_false (fun q=>nomatch q)
def Ch (prog:Program) (w:World):PySem.KeyKind prog w Er where
 is:=JD
 hash:=WG w
 inj:=fun v a b ha hb=>by
  rcases Ba ha with⟨i,t,rfl,rfl⟩|⟨x,t,rfl,rfl⟩
  ·rcases Ba hb with⟨j,u,rfl,e⟩|⟨y,u,rfl,e⟩
   ·injection e with e1 _;rw[e1]
   ·exact nomatch e
  ·rcases Ba hb with⟨j,u,rfl,e⟩|⟨y,u,rfl,e⟩
   ·exact nomatch e
   ·injection e with e1 _;rw[e1]
 byValue:=fun k v h=>by
  rcases Ba h with⟨i,t,rfl,rfl⟩|⟨x,t,rfl,rfl⟩<;>rfl
 pyHash:=fun hv h=>by
  rcases Ba hv with⟨i,t,rfl,rfl⟩|⟨x,t,rfl,rfl⟩
  ·exact wpAny_pyHash_int h
  ·exact wpAny_pyHash_str h
 eqBool:=fun hu hv h=>by
  rcases Ba hu with⟨i,t,rfl,rfl⟩|⟨x,t,rfl,rfl⟩
  ·rcases Ba hv with⟨j,u,rfl,rfl⟩|⟨y,u,rfl,rfl⟩
   ·rw[TB] at h;exact wpAny_eqBool_int h
   ·rw[Um] at h;exact SeqAt.EqAt.int_str i t y u _ _ _ _ h
  ·rcases Ba hv with⟨j,u,rfl,rfl⟩|⟨y,u,rfl,rfl⟩
   ·rw[Ux] at h;exact SeqAt.EqAt.str_int x t j u _ _ _ _ h
   ·rw[UC] at h;exact wpAny_eqBool_str h
 «strs»:=fun k x t v h=>by
  rcases Ba h with⟨i,u,rfl,e⟩|⟨y,u,rfl,e⟩
  ·exact nomatch e
  ·injection e with e1 _
   subst e1
   cases v<;>rfl
theorem BR (prog:Program) (w:World) (x:Str) (t:Tok):(Ch prog w).is (.inr x) (.str x t)=true:=Ni x t
end L2
namespace L2
open PySem PySem.Spec PyProof.Rows
inductive V where
 | non | bl (b:Bool) | int (i:Int) | str (x:Str) | byt (b:Array UInt8) | flt (b:UInt64) | ref (a:Addr) | ty (n:String)
 deriving DecidableEq
def RelV:V→Value→Prop
 | .non,u=>u=Value.none
 | .bl b,u=>u=Value.bool b
 | .int i,u=>∃t,u=Value.int i t
 | .str x,u=>∃t,u=Value.str x t
 | .byt b,u=>∃t,u=Value.bytes b t
 | .flt b,u=>∃t,u=Value.float b t
 | .ref a,u=>u=Value.ref a
 | .ty n,u=>u=Value.type n
abbrev Vals:List V→List Value→Prop:=Paired RelV
theorem Vals.length {xs:List V} {us:List Value} (r:Vals xs us):xs.length=us.length:=Paired.length r
theorem Vals.get:∀{xs:List V} {us:List Value} {i:Nat} {x:V},Vals xs us→xs[i]? = some x→∃u,us[i]? = some u∧RelV x u
 | _,_,_,_,.nil,e=>by simp at e
 | _,_,0,_,.cons r _,e=>by simp at e;subst e;exact⟨_,rfl,r⟩
 | _,_,i+1,x,.cons _ t,e=>by
  obtain⟨u,h1,h2⟩:=Vals.get (i:=i) (x:=x) t (by simpa using e)
  exact⟨u,by simpa using h1,h2⟩
theorem Vals.append:∀{xs ys:List V} {us ws:List Value},Vals xs us→Vals ys ws→Vals (xs++ys) (us++ws)
 | _,_,_,_,.nil,s=>s
 | _,_,_,_,.cons r t,s=>.cons r (Vals.append t s)
theorem Vals.take:∀{xs:List V} {us:List Value} (n:Nat),Vals xs us→Vals (xs.take n) (us.take n)
 | _,_,0,_=>.nil
 | _,_,_+1,.nil=>.nil
 | _,_,n+1,.cons r t=>.cons r (Vals.take n t)
theorem Vals.drop:∀{xs:List V} {us:List Value} (n:Nat),Vals xs us→Vals (xs.drop n) (us.drop n)
 | _,_,0,r=>r
 | _,_,_+1,.nil=>.nil
 | _,_,n+1,.cons _ t=>Vals.drop n t
def RelO:Option V→Option Value→Prop
 | some v,some u=>RelV v u
 | none,none=>True
 | _,_=>False
def KV {κ:Type}:List (κ×V)→List (κ×Value)→Prop:=Paired fun (p:κ×V) (q:κ×Value)=>p.1=q.1∧RelV p.2 q.2
def kV:Er→V
 | .inl i=>.int i
 | .inr x=>.str x
inductive HO where
 | lst (xs:List V)
 | tup (xs:List V)
 | dK (kvs:List (Er×V)) | dT (kvs:List (List Er×V))
 | set (S:Int→Bool) (n:Nat)
 | ins (C dx:Addr) (fs:List (Str×V))
 | own (x:Addr)
 | xd (fs:List (Str×V))
 | met (f x:Addr)
 | rng (lo hi:Int)
 | frz (o:Obj) (u:HO)
 | tbl (ps:Array Value)
 | ext (φ:Heap→Prop)
abbrev Hp:=Addr→Option HO
def upd (H:Hp) (a:Addr) (o:HO):Hp:=fun b=>if b=a then some o else H b
theorem upd_same {H:Hp} {a:Addr} {o:HO}:upd H a o a=some o:=by unfold upd;rw[if_pos rfl]
theorem Aq {H:Hp} {a b:Addr} {o:HO} (h:b≠a):upd H a o b=H b:=by unfold upd;rw[if_neg h]
theorem A6 {H:Hp} {a b:Addr} {o u:HO} (h:H a=some o) (h':H b=some u) (d:o≠u):a≠b:=by
 intro e;subst e;rw[h] at h';exact d (Option.some.inj h')
theorem Ai {H:Hp} {a b:Addr} {o:HO} (h:H a=some o) (h':H b=none):a≠b:=by
 intro e;subst e;rw[h] at h';cases h'
section
variable (P:Program) (w:World)
def ObjOk (H:Hp) (h:Heap) (a:Addr):HO→Prop
 | .lst xs=>xs.length≤sizeLine∧∃(its:List Value) (n:Nat),Vals xs its∧h.get? a=some { cls:=.type "list",data:=.seq its.toArray n }
 | .tup xs=>xs.length≤sizeLine∧∃its:List Value,Vals xs its∧IsTup h a its.toArray
 | .dK kvs=>kvs.length≤sizeLine∧(a == sysModules)=false∧∃vs,KV kvs vs∧h.DictOf (Ch P w) a vs
 | .dT kvs=>kvs.length≤sizeLine∧(a == sysModules)=false∧∃xs:List (List Er×Addr×Value),
   Paired (fun (p:List Er×V) (q:List Er×Addr×Value)=>p.1=q.1∧H q.2.1=some (.tup (p.1.map kV))∧RelV p.2 q.2.2) kvs xs∧
   ∃o es ep,h.get? a=some o∧o.ExactDict∧o.data= .dict es ep∧es.toList=xs.map (entryOfKey (tupleKind (Ch P w)))∧(xs.map (·.1)).Nodup
 | .set S n=>h.SetOf (intKind P w) a S n
 | .ins C dx fs=>H dx=some (.own a)∧fs.length≤1000∧dx≠a∧h.get? a=some (PySem.W.instObj C dx)∧
   ∃mA,h.Ns1 dx mA∧(∀f,RelO (fs.lookup f) (mA f))∧PySem.Within mA (fs.map (·.1))
 | .own _=>∃o,h.get? a=some o
 | .xd fs=>∃mA,h.Ns1 a mA∧∀f,RelO (fs.lookup f) (mA f)
 | .rng lo hi=>∃t u v,h.get? a=some { cls:=.type "range",data:=.fields #[.int lo t,.int hi u,.int 1 v] }
 | .frz o u=>h.get? a=some o∧ObjOk H h a u
 | .tbl ps=>h.get? a=some { cls:=.none,data:=.fields ps }
 | .met f x=>h.get? a=some (PySem.W.methodObj (.ref f) (.ref x))
 | .ext φ=>φ h∧(∃o,h.get? a=some o)∧∀h1 h2:Heap,φ h1→(∀o,h1.get? a=some o→h2.get? a=some o)→φ h2
def HOk (H:Hp) (h:Heap):Prop:=∀a o,H a=some o→ObjOk P w H h a o
end
section
variable {P:Program} {w:World} {H H':Hp} {h h':Heap} {a:Addr} {o:HO}
theorem ObjOk.lt (x:ObjOk P w H h a o):a<h.objs.size:=by
 cases o with
 | lst xs=>obtain⟨_,_,_,_,e⟩:=x;exact Heap.lt_size e
 | tup xs=>obtain⟨_,_,_,p⟩:=x;exact p.lt
 | dK kvs=>obtain⟨_,_,_,_,o,_,_,e,_⟩:=x;exact Heap.lt_size e
 | dT kvs=>obtain⟨_,_,_,_,o,_,_,e,_⟩:=x;exact Heap.lt_size e
 | set S n=>obtain⟨o,_,_,_,e,_⟩:=x;exact Heap.lt_size e
 | ins C dx fs=>obtain⟨_,_,_,e,_⟩:=x;exact Heap.lt_size e
 | own y=>obtain⟨_,e⟩:=x;exact Heap.lt_size e
 | xd fs=>obtain⟨_,⟨_,_,_,e,_⟩,_⟩:=x;exact Heap.lt_size e
 | rng lo hi=>obtain⟨_,_,_,e⟩:=x;exact Heap.lt_size e
 | frz ob u=>obtain⟨e,_⟩:=x;exact Heap.lt_size e
 | tbl ps=>exact Heap.lt_size (show h.get? a=some _ from x)
 | met f y=>exact Heap.lt_size (show h.get? a=some _ from x)
 | ext φ=>obtain⟨_,⟨_,e⟩,_⟩:=x;exact Heap.lt_size e
theorem Paired.mapP {α β:Type} {F G:α→β→Prop}:∀{l₁:List α} {l₂:List β},Paired F l₁ l₂→(∀a b,F a b→G a b)→Paired G l₁ l₂
 | _,_,.nil,_=>.nil
 | _,_,.cons r t,f=>.cons (f _ _ r) (Paired.mapP t f)
theorem ObjOk.stay (x:ObjOk P w H h a o) (k:∀b u,(b=a∨H b=some (.own a))→h.get? b=some u→h'.get? b=some u)
  (ho:∀b,H b=some (.own a)→H' b=some (.own a)) (ht:∀b xs,H b=some (.tup xs)→H' b=some (.tup xs)):ObjOk P w H' h' a o:=by
 induction o with
 | lst xs=>obtain⟨z,its,n,r,e⟩:=x;exact⟨z,its,n,r,k _ _ (.inl rfl) e⟩
 | tup xs=>obtain⟨z,its,r,ob,e,c⟩:=x;exact⟨z,its,r,ob,k _ _ (.inl rfl) e,c⟩
 | dK kvs=>obtain⟨z,y,vs,r,ob,es,ep,e,c⟩:=x;exact⟨z,y,vs,r,ob,es,ep,k _ _ (.inl rfl) e,c⟩
 | dT kvs=>
  obtain⟨z,y,xs,r,ob,es,ep,e,c⟩:=x
  exact⟨z,y,xs,Paired.mapP r fun p q z=>⟨z.1,ht _ _ z.2.1,z.2.2⟩,ob,es,ep,k _ _ (.inl rfl) e,c⟩
 | set S n=>obtain⟨ob,es,ep,t,e,c⟩:=x;exact⟨ob,es,ep,t,k _ _ (.inl rfl) e,c⟩
 | ins C dx fs=>
  obtain⟨d,z,ne,e,mA,⟨od,es,ep,e2,c⟩,r⟩:=x
  exact⟨ho _ d,z,ne,k _ _ (.inl rfl) e,mA,⟨od,es,ep,k _ _ (.inr d) e2,c⟩,r⟩
 | own y=>obtain⟨ob,e⟩:=x;exact⟨ob,k _ _ (.inl rfl) e⟩
 | xd fs=>obtain⟨mA,⟨od,es,ep,e,c⟩,r⟩:=x;exact⟨mA,⟨od,es,ep,k _ _ (.inl rfl) e,c⟩,r⟩
 | rng lo hi=>obtain⟨t,u,v,e⟩:=x;exact⟨t,u,v,k _ _ (.inl rfl) e⟩
 | frz ob u ih=>obtain⟨e,q⟩:=x;exact⟨k _ _ (.inl rfl) e,ih q⟩
 | tbl ps=>
  have e:h.get? a=some { cls:=.none,data:=.fields ps }:=x
  show h'.get? a=some { cls:=.none,data:=.fields ps }
  exact k a _ (.inl rfl) e
 | met f y=>
  have e:h.get? a=some (PySem.W.methodObj (.ref f) (.ref y)):=x
  show h'.get? a=some (PySem.W.methodObj (.ref f) (.ref y))
  exact k a _ (.inl rfl) e
 | ext φ=>obtain⟨p,⟨o,e⟩,st⟩:=x;exact⟨st _ _ p fun o q=>k _ _ (.inl rfl) q,⟨o,k _ _ (.inl rfl) e⟩,st⟩
theorem HOk.lt (x:HOk P w H h) (e:H a=some o):a<h.objs.size:=(x a o e).lt
theorem HOk.fresh (x:HOk P w H h) (e:h.objs.size≤a):H a=none:=by
 cases q:H a with
 | none=>rfl
 | some u=>exact absurd (Nat.lt_of_lt_of_le (x.lt q) e) (Nat.lt_irrefl _)
theorem HOk.kept (x:HOk P w H h) (k:∀b u,h.get? b=some u→h'.get? b=some u):HOk P w H h':=fun a o e=>
 (x a o e).stay (fun b u _ q=>k b u q) (fun _ q=>q) fun _ _ q=>q
theorem HOk.laid (x:HOk P w H h) (k:∀b u,h.get? b=some u→h'.get? b=some u) (hp:h.objs.size≤a) (new:ObjOk P w (upd H a o) h' a o):HOk P w (upd H a o) h':=fun b u e=>by
 have hn:=x.fresh hp
 by_cases hb:b=a
 ·subst hb;rw[upd_same] at e;cases e;exact new
 ·rw[Aq hb] at e
  exact (x b u e).stay (fun c v _ q=>k c v q) (fun c q=>by rw[Aq (Ai q hn)];exact q) fun c xs q=>by rw[Aq (Ai q hn)];exact q
end
def Rd (H:Hp) (a:Addr) (u:HO):Prop:=H a=some u∨∃o,H a=some (.frz o u)
theorem Rd.ok {P:Program} {w:World} {H:Hp} {h:Heap} {a:Addr} {u:HO} (r:Rd H a u) (x:HOk P w H h):ObjOk P w H h a u:=by
 rcases r with r | ⟨o,r⟩
 ·exact x a u r
 ·obtain⟨_,q⟩:=x a _ r
  exact q
def UP:Option HO→Prop
 | some (.lst _)=>True
 | some (.dK _)=>True
 | some (.dT _)=>True
 | some (.set _ _)=>True
 | some (.ins _ _ _)=>True
 | some (.ext _)=>True
 | _=>False
section
variable {P:Program} {w:World} {H:Hp} {h h':Heap} {x e:Addr} {o':HO}
theorem HOk.write (ok:HOk P w H h) (mu:UP (H x)) (he:e=x∨H e=some (.own x)) (k:∀b u,b≠e→h.get? b=some u→h'.get? b=some u) (heo:∃u,h'.get? e=some u)
  (new:ObjOk P w (upd H x o') h' x o'):HOk P w (upd H x o') h':=fun b u q=>by
 have nown:∀c y,H c=some (.own y)→c≠x:=fun c y r z=>by subst z;rw[r] at mu;exact mu
 have ntup:∀c xs,H c=some (.tup xs)→c≠x:=fun c xs r z=>by subst z;rw[r] at mu;exact mu
 by_cases hb:b=x
 ·subst hb;rw[upd_same] at q;cases q;exact new
 ·rw[Aq hb] at q
  by_cases hbe:b=e
  ·have q':H b=some (.own x):=by
    rcases he with z | z
    ·exact absurd (hbe.trans z) hb
    ·rw[hbe];exact z
   rw[q] at q';cases q'
   obtain⟨v,hv⟩:=heo
   exact⟨v,by rw[hbe];exact hv⟩
  ·refine (ok b u q).stay (fun c v hc r=>k c v ?_ r) (fun c r=>by rw[Aq (nown c b r)];exact r) fun c xs r=>by rw[Aq (ntup c xs r)];exact r
   rcases hc with rfl | hc
   ·exact hbe
   ·rintro rfl
    rcases he with z | z
    ·exact nown c b hc z
    ·rw[hc] at z;cases z;exact hb rfl
end
structure Un (fs ex:List Addr) (H H':Hp) (h h':Heap):Prop where
 keep:∀b o,h.get? b=some o→H b=none→b∉fs→b∉ex→h'.get? b=some o
 slot:∀b o,h.get? b=some o→H b=none→b∈fs→b∉ex→∃sl,h'.get? b=some { o with slots:=sl }
 free:∀b o,h.get? b=some o→H b=none→b∉ex→H' b=none
 there:∀b o,h.get? b=some o→b∉ex→∃o',h'.get? b=some o'
 tups:∀b xs,H b=some (.tup xs)→H' b=some (.tup xs)
 frzs:∀b o u,H b=some (.frz o u)→H' b=some (.frz o u)
 tbls:∀b ps,H b=some (.tbl ps)→∃more,H' b=some (.tbl (ps++more))
section
variable {fs fs' ex ex':List Addr} {H H1 H2:Hp} {h h1 h2 h':Heap} {a x e:Addr} {o:HO}
theorem Un.any (u:Un fs ex H H1 h h1) {b:Addr} {ob:Obj} (q:h.get? b=some ob) (n:H b=none) (hx:b∉ex):∃sl,h1.get? b=some { ob with slots:=sl }:=by
 by_cases hb:b∈fs
 ·exact u.slot b ob q n hb hx
 ·exact⟨ob.slots,u.keep b ob q n hb hx⟩
theorem Un.kept (k:∀b u,h.get? b=some u→h'.get? b=some u):Un fs ex H H h h':=
 ⟨fun b ob q _ _ _=>k b ob q,fun b ob q _ _ _=>⟨ob.slots,k b ob q⟩,fun _ _ _ n _=>n,fun b ob q _=>⟨ob,k b ob q⟩,fun _ _ q=>q,fun _ _ _ q=>q,fun _ ps q=>⟨#[],by rw[q];simp⟩⟩
theorem Un.refl:Un fs ex H H h h:=Un.kept fun _ _ q=>q
theorem Un.laid (k:∀b u,h.get? b=some u→h'.get? b=some u) (hp:h.objs.size≤a) (hn:H a=none):Un fs ex H (upd H a o) h h' where
 keep:=fun b u q _ _ _=>k b u q
 slot:=fun b u q _ _ _=>⟨u.slots,k b u q⟩
 free:=fun b u q n _=>by rw[Aq (Nat.ne_of_lt (Nat.lt_of_lt_of_le (Heap.lt_size q) hp))];exact n
 there:=fun b u q _=>⟨u,k b u q⟩
 tups:=fun b xs q=>by rw[Aq (Ai q hn)];exact q
 frzs:=fun b u xs q=>by rw[Aq (Ai q hn)];exact q
 tbls:=fun b ps q=>⟨#[],by rw[Aq (Ai q hn),q];simp⟩
theorem Un.write (mu:UP (H x)) (he:e=x∨H e=some (.own x)) (k:∀b u,b≠e→h.get? b=some u→h'.get? b=some u) (heo:∃u,h'.get? e=some u):Un fs ex H (upd H x o) h h':=by
 have hx:∀b,H b=none→b≠x:=fun b n z=>by subst z;rw[n] at mu;exact mu
 have hb:∀b,H b=none→b≠e:=fun b n z=>by
  subst z
  rcases he with r | r
  ·exact hx b n r
  ·rw[n] at r;cases r
 have hm:∀b u,H b=some u→¬UP (some u)→b≠x:=fun b u q nm z=>by subst z;rw[q] at mu;exact nm mu
 refine⟨fun b u q n _ _=>k b u (hb b n) q,fun b u q n _ _=>⟨u.slots,k b u (hb b n) q⟩,fun b u q n _=>by rw[Aq (hx b n)];exact n,fun b u q _=>?_,
  fun b xs q=>by rw[Aq (hm b _ q fun z=>z)];exact q,fun b u xs q=>by rw[Aq (hm b _ q fun z=>z)];exact q,fun b ps q=>⟨#[],by rw[Aq (hm b _ q fun z=>z),q];simp⟩⟩
 by_cases hbe:b=e
 ·subst hbe;exact heo
 ·exact⟨u,k b u hbe q⟩
theorem Un.mono (u:Un fs ex H H1 h h1) (hs:∀b∈fs,b∈fs') (hx:∀b∈ex,b∈ex'):Un fs' ex' H H1 h h1:=
 ⟨fun b ob q n hb he=>u.keep b ob q n (fun z=>hb (hs b z)) fun z=>he (hx b z),fun _ _ q n _ he=>u.any q n fun z=>he (hx _ z),fun b ob q n he=>u.free b ob q n fun z=>he (hx b z),fun b ob q he=>u.there b ob q fun z=>he (hx b z),u.tups,u.frzs,u.tbls⟩
end
def VR (h:Heap) (H:Hp):List Addr:=(List.range h.objs.size).filter fun a=>(H a).isSome
def IU (h:Heap) (H:Hp):Heap:=PySem.W.hideAll h (VR h H)
theorem Nz (h:Heap) (H:Hp):(IU h H).objs.size=h.objs.size:=PySem.W.hideAll_size _ _
theorem Qw {h:Heap} {H:Hp} {b:Addr} {o:Obj} (e:h.get? b=some o) (n:H b=none):(IU h H).get? b=some o:=
 PySem.W.hideAll_get _ e fun hm=>by
  have q:(H b).isSome=true:=(List.mem_filter.mp hm).2
  rw[n] at q;simp at q
theorem RV {h:Heap} {H:Hp} {b:Addr} {o:Obj} (e:(IU h H).get? b=some o):h.get? b=some o∧H b=none:=by
 have e':h.get? b=some o:=PySem.W.of_hideAll (VR h H) e
 refine⟨e',?_⟩
 cases q:H b with
 | none=>rfl
 | some x=>
  have hm:b∈VR h H:=List.mem_filter.mpr ⟨List.mem_range.mpr (Heap.lt_size e'),by simp[q]⟩
  have z:(IU h H).get? b=none:=PySem.W.hideAll_none (VR h H) hm
  rw[z] at e;cases e
end L2
namespace L2
open PySem PySem.Spec PyProof.Rows
structure Mod (K:PySem.W.Frag) (mg:Str→Option Value) (base:Heap):Prop where
 kin:K.In base
 glob:base.Ns mainGlobals mg
 blt:∃mb,base.Ns builtinsNs mb∧∀x:Str,x≠"__name__"→mb x=bootBuiltins x
 nolimit:base.NoLimit
structure Cx where
 prog:Program
 w:World
 K:PySem.W.Frag
 mg:Str→Option Value
 base:Heap
 A:Around
 N:List Str
 s₀:Shared
 H₀:Hp
 env:Env
 outer:List Env
 stack:List Env
 ex:List Addr
 fn:Str→Bool
 calm:Bool
 pn:List (Addr×Obj)
 xe:Value→Shared→Prop
def Gh (l:List Env):List Addr:=l.filterMap (·.frame)
abbrev Cx.fs (X:Cx):List Addr:=Gh X.outer
def Wk (sc:Scope) (x:Str):Prop:=sc.names.lookup x=some .local∨sc.names.lookup x=some .cell∨sc.names.lookup x=some .free
def Vo (sc:Scope) (x:Str):Prop:=sc.names.lookup x=some .local∨sc.names.lookup x=some .cell
def Wh (env:Env) (h:Heap) (m:Str→Option Value) (x:Str) (u:Value):Prop:=
 (env.kindOf x=some .local∧m x=some u)∨((env.kindOf x=some .cell∨env.kindOf x=some .free)∧∃c,env.cells.lookup x=some c∧h.IsCell c (some u))
structure Cx.Ok (X:Cx):Prop where
 mod:Mod X.K X.mg X.base
 kind:X.env.scope.kind= .function
 glob:X.env.globals=mainGlobals
 blt:X.env.builtins=builtinsNs
 above:X.s₀.heap.objs.size≤X.env.locals
 inj:∀x y c,X.env.cells.lookup x=some c→X.env.cells.lookup y=some c→x=y
 has:∀x,(X.env.kindOf x=some .cell∨X.env.kindOf x=some .free)→∃c,X.env.cells.lookup x=some c
 cab:∀x c,X.fn x=true→X.env.cells.lookup x=some c→X.s₀.heap.objs.size≤c
 hd:X.calm=true→X.A.handled=none
 frames:X.A.frames=some X.stack
 stk:X.stack=X.outer∨(X.stack=X.env::X.outer∧X.env.frame=some X.env.locals)
 exf:∀b∈X.ex,b≠X.env.locals∧∀x c,X.env.cells.lookup x=some c→c≠b
 bs:∀b o,X.base.get? b=some o→X.s₀.heap.get? b=some o∧X.H₀ b=none
 bsz:X.base.objs.size≤X.s₀.heap.objs.size
 noex:∀b o,X.base.get? b=some o→b∉X.ex
 exfs:∀b∈X.ex,b∉X.fs
 funs:X.s₀.heap.FunFrames X.base X.outer
 frf:∀b∈X.fs,X.H₀ b=none
structure Inv (X:Cx) (pins:List (Addr×Obj)) (σ:List (Option V)) (H:Hp) (s:Shared):Prop where
 ok:X.Ok
 os:s.os=X.s₀.os
 bare:AllBare s.gens
 base:Un X.fs X.ex X.H₀ H X.s₀.heap s.heap
 loc:∃m,s.heap.Ns X.env.locals m∧∀(i:Nat) (x:Str) (v:V),X.N[i]? = some x→σ[i]? = some (some v)→Wk X.env.scope x→∃u,RelV v u∧Wh X.env s.heap m x u
 cell:∀x c,X.env.cells.lookup x=some c→∃v,s.heap.IsCell c v
 free:H X.env.locals=none
 freeC:∀x c,X.env.cells.lookup x=some c→H c=none
 pin:∀p∈X.pn++pins,s.heap.get? p.1=some p.2∧H p.1=none∧p.1≠X.env.locals∧p.1∉X.fs∧∀v,p.2.data≠.cell v
 hok:HOk X.prog X.w H s.heap
 len:σ.length=X.N.length
section
variable {X:Cx} {pins:List (Addr×Obj)} {σ:List (Option V)} {H H':Hp} {s:Shared} {h':Heap}
theorem Cx.Ok.nofr (ok:X.Ok) {b:Addr} {o:Obj} (e:X.base.get? b=some o):b∉X.fs:=fun hb=>by
 have:=(ok.funs.mem hb).1
 rw[e] at this;cases this
theorem Inv.bs (I:Inv X pins σ H s):∀b o,X.base.get? b=some o→s.heap.get? b=some o∧H b=none:=fun b o e=>
 ⟨I.base.keep b o (I.ok.bs b o e).1 (I.ok.bs b o e).2 (I.ok.nofr e) (I.ok.noex b o e),I.base.free b o (I.ok.bs b o e).1 (I.ok.bs b o e).2 (I.ok.noex b o e)⟩
theorem Inv.bk (I:Inv X pins σ H s):∀b o,X.base.get? b=some o→s.heap.get? b=some o:=fun b o e=>(I.bs b o e).1
theorem Inv.mod (I:Inv X pins σ H s):Mod X.K X.mg X.base:=I.ok.mod
theorem Inv.kIn (I:Inv X pins σ H s):X.K.In s.heap:=I.ok.mod.kin.keeps I.bk
theorem Inv.lt (I:Inv X pins σ H s):X.env.locals<s.heap.objs.size:=let ⟨_,hn,_⟩:=I.loc;hn.lt
theorem Inv.sz (I:Inv X pins σ H s):X.s₀.heap.objs.size≤s.heap.objs.size:=Nat.le_trans I.ok.above (Nat.le_of_lt I.lt)
theorem Inv.nofs (I:Inv X pins σ H s) {a:Addr} (h:s.heap.objs.size≤a):a∉X.fs:=fun hb=>by
 obtain⟨_,o,ho,_⟩:=I.ok.funs.mem hb
 exact absurd (Nat.lt_of_lt_of_le (Heap.lt_size ho) (Nat.le_trans I.sz h)) (Nat.lt_irrefl _)
theorem Inv.cne (I:Inv X pins σ H s):∀x c,X.env.cells.lookup x=some c→c≠X.env.locals:=fun x c e z=>by
 obtain⟨v,o,ho,hd⟩:=I.cell x c e
 obtain⟨m,⟨o',es,ep,ho',hd',_⟩,_⟩:=I.loc
 rw[z,ho'] at ho;cases ho;rw[hd'] at hd;cases hd
theorem Inv.funs (I:Inv X pins σ H s):s.heap.FunFrames X.base X.outer:=by
 have all:∀(l:List Env),(∀b∈Gh l,b∈X.fs)→X.s₀.heap.FunFrames X.base l→s.heap.FunFrames X.base l:=by
  intro l
  induction l with
  | nil=>intro _ _;trivial
  | cons env r ih=>
   intro hs hl
   obtain⟨hk,⟨L,o,hf,hn,ho,hd⟩,hr⟩:=hl
   have hL:L∈X.fs:=hs L (by unfold Gh;rw[List.filterMap_cons,hf];exact List.mem_cons_self)
   obtain⟨sl,e⟩:=I.base.slot L o ho (I.ok.frf L hL) hL fun z=>I.ok.exfs L z hL
   exact⟨hk,⟨L,_,hf,hn,e,hd⟩,ih (fun b hb=>hs b (by unfold Gh;rw[List.filterMap_cons,hf];exact List.mem_cons_of_mem _ hb)) hr⟩
 exact all X.outer (fun _ hb=>hb) I.ok.funs
theorem Inv.stack (I:Inv X pins σ H s):s.heap.FunFrames X.base X.stack:=by
 rcases I.ok.stk with e | ⟨e,hf⟩
 ·rw[e];exact I.funs
 ·rw[e]
  obtain⟨m,hn,_⟩:=I.loc
  refine .cons (by rw[I.ok.kind];decide) hf hn ?_ I.funs
  exact Heap.get?_none_of_le (Nat.le_trans I.ok.bsz I.ok.above)
theorem Inv.stkSub (I:Inv X pins σ H s):∀b∈Gh X.stack,b∈X.env.locals::X.fs:=fun b hb=>by
 rcases I.ok.stk with e | ⟨e,hf⟩
 ·rw[e] at hb;exact List.mem_cons_of_mem _ hb
 ·rw[e] at hb
  unfold Gh at hb
  rw[List.filterMap_cons,hf] at hb
  exact hb
theorem Inv.stkFree (I:Inv X pins σ H s):∀b∈Gh X.stack,H b=none:=fun b hb=>by
 rcases List.mem_cons.mp (I.stkSub b hb) with e | hb
 ·rw[e];exact I.free
 ·obtain⟨_,o,ho,_⟩:=I.ok.funs.mem hb
  exact I.base.free b o ho (I.ok.frf b hb) fun z=>I.ok.exfs b z hb
theorem Inv.step {g':Array GenState} {t':Nat} {d':Drawn} {ch:List Addr} (I:Inv X pins σ H s)
  (hch:∀b∈ch,(b∈X.ex∨X.s₀.heap.objs.size≤b)∧b≠X.env.locals∧(∀x c,X.env.cells.lookup x=some c→c≠b)∧∀p∈X.pn++pins,p.1≠b)
  (keep:∀b o,b≠X.env.locals→b∉X.fs→b∉ch→s.heap.get? b=some o→H b=none→h'.get? b=some o)
  (slot:∀b o,b≠X.env.locals→b∈X.fs→b∉ch→s.heap.get? b=some o→H b=none→∃sl,h'.get? b=some { o with slots:=sl }) (free:∀b o,b∉ch→s.heap.get? b=some o→H b=none→H' b=none)
  (there:∀b o,b∉ch→s.heap.get? b=some o→∃o',h'.get? b=some o')
  (tups:∀b xs,H b=some (.tup xs)→H' b=some (.tup xs)) (frzs:∀b o u,H b=some (.frz o u)→H' b=some (.frz o u)) (tbls:∀b ps,H b=some (.tbl ps)→∃more,H' b=some (.tbl (ps++more)))
  (ns:∀m,s.heap.Ns X.env.locals m→h'.Ns X.env.locals m) (hok:HOk X.prog X.w H' h') (hg:AllBare g') :
  Inv X pins σ H' { s with heap:=h',gens:=g',drawn:=d',toks:=t' }:=by
 have neL:∀b o,X.s₀.heap.get? b=some o→b≠X.env.locals:=fun b o e=>Nat.ne_of_lt (Nat.lt_of_lt_of_le (Heap.lt_size e) I.ok.above)
 have neC:∀b o,X.s₀.heap.get? b=some o→b∉X.ex→b∉ch:=fun b o e hx hb=>by
  rcases (hch b hb).1 with z | z
  ·exact hx z
  ·exact absurd (Nat.lt_of_lt_of_le (Heap.lt_size e) z) (Nat.lt_irrefl _)
 have cellK:∀x c,X.env.cells.lookup x=some c→∀v,s.heap.IsCell c v→h'.IsCell c v:=fun x c e v ⟨o,ho,hd⟩=>by
  have nch:c∉ch:=fun z=>(hch c z).2.2.1 x c e rfl
  by_cases hc:c∈X.fs
  ·obtain⟨sl,q⟩:=slot c o (I.cne x c e) hc nch ho (I.freeC x c e)
   exact⟨_,q,hd⟩
  ·exact⟨o,keep c o (I.cne x c e) hc nch ho (I.freeC x c e),hd⟩
 refine⟨I.ok,I.os,hg,⟨fun b o e n hb hx=>?_,fun b o e n hb hx=>?_,fun b o e n hx=>?_,fun b o e hx=>?_,fun b xs e=>tups b xs (I.base.tups b xs e),fun b o xs e=>frzs b o xs (I.base.frzs b o xs e),fun b ps e=>?_⟩,?_,fun x c e=>?_,?_,fun x c e=>?_,fun p hp=>?_,hok,I.len⟩
 ·exact keep b o (neL b o e) hb (neC b o e hx) (I.base.keep b o e n hb hx) (I.base.free b o e n hx)
 ·obtain⟨sl,e1⟩:=I.base.slot b o e n hb hx
  obtain⟨sl',e2⟩:=slot b _ (neL b o e) hb (neC b o e hx) e1 (I.base.free b o e n hx)
  exact⟨sl',e2⟩
 ·obtain⟨o',e1⟩:=I.base.there b o e hx
  exact free b o' (neC b o e hx) e1 (I.base.free b o e n hx)
 ·obtain⟨o',e1⟩:=I.base.there b o e hx
  exact there b o' (neC b o e hx) e1
 ·obtain⟨m1,e1⟩:=I.base.tbls b ps e
  obtain⟨m2,e2⟩:=tbls b _ e1
  exact⟨m1++m2,by rw[e2,Array.append_assoc]⟩
 ·obtain⟨m,hn,hl⟩:=I.loc
  refine⟨m,ns m hn,fun i x v e1 e2 e3=>?_⟩
  obtain⟨u,r,l⟩:=hl i x v e1 e2 e3
  refine⟨u,r,?_⟩
  rcases l with l | ⟨k,c,e,z⟩
  ·exact .inl l
  ·exact .inr ⟨k,c,e,cellK x c e _ z⟩
 ·obtain⟨v,z⟩:=I.cell x c e
  exact⟨v,cellK x c e v z⟩
 ·obtain⟨m,⟨o,_,_,ho,_⟩,_⟩:=I.loc
  exact free _ o (fun z=>(hch _ z).2.1 rfl) ho I.free
 ·obtain⟨v,o,ho,hd⟩:=I.cell x c e
  exact free c o (fun z=>(hch c z).2.2.1 x c e rfl) ho (I.freeC x c e)
 ·obtain⟨e,n,ne,nf,d⟩:=I.pin p hp
  have nch:p.1∉ch:=fun z=>(hch p.1 z).2.2.2 p hp rfl
  exact⟨keep p.1 p.2 ne nf nch e n,free p.1 p.2 nch e n,ne,nf,d⟩
theorem Inv.un {t':Nat} (I:Inv X pins σ H s) (u:Un X.fs [] H H' s.heap h') (hok:HOk X.prog X.w H' h'):Inv X pins σ H' { s with heap:=h',toks:=t' }:=by
 obtain⟨m,⟨o,es,ep,ho,r⟩,_⟩:=id I.loc
 obtain⟨sl,hL⟩:=u.any ho I.free (by simp)
 exact I.step (g':=s.gens) (d':=s.drawn) (ch:=[]) (fun _ z=>nomatch z) (fun b o _ hb _ e n=>u.keep b o e n hb (by simp)) (fun b o _ hb _ e n=>u.slot b o e n hb (by simp)) (fun b o _ e n=>u.free b o e n (by simp)) (fun b o _ e=>u.there b o e (by simp)) u.tups u.frzs u.tbls (fun m' hm=>by
  obtain⟨o',es',ep',ho',r'⟩:=hm
  rw[ho] at ho';cases ho'
  exact⟨_,es',ep',hL,r'⟩) hok I.bare
theorem Inv.call {g':Array GenState} {t':Nat} {d':Drawn} {ch:List Addr} (I:Inv X pins σ H s) (u:Un (Gh X.stack) ch H H' s.heap h') (hok:HOk X.prog X.w H' h') (hg:AllBare g')
  (hch:∀b∈ch,(b∈X.ex∨X.s₀.heap.objs.size≤b)∧b≠X.env.locals∧(∀x c,X.env.cells.lookup x=some c→c≠b)∧∀p∈X.pn++pins,p.1≠b) :
  Inv X pins σ H' { s with heap:=h',gens:=g',drawn:=d',toks:=t' }:=by
 obtain⟨m,⟨o,es,ep,ho,r⟩,_⟩:=id I.loc
 obtain⟨sl,hL⟩:=u.any ho I.free fun z=>(hch _ z).2.1 rfl
 exact I.step (ch:=ch) hch (fun b o hL hb hc e n=>u.keep b o e n (fun z=>(List.mem_cons.mp (I.stkSub b z)).elim hL hb) hc) (fun b o _ _ hc e n=>u.any e n hc) (fun b o hc e n=>u.free b o e n hc) (fun b o hc e=>u.there b o e hc) u.tups u.frzs u.tbls (fun m' hm=>by
  obtain⟨o',es',ep',ho',r'⟩:=hm
  rw[ho] at ho';cases ho'
  exact⟨_,es',ep',hL,r'⟩) hok hg
theorem Inv.turned {t':Nat} {it:Addr} (I:Inv X pins σ H s) (k:∀b o,b≠it→s.heap.get? b=some o→h'.get? b=some o) (hn:H it=none) (hL:it≠X.env.locals)
  (h1:it∈X.ex∨X.s₀.heap.objs.size≤it) (h2:∀x c,X.env.cells.lookup x=some c→c≠it) (h3:∀p∈X.pn++pins,p.1≠it):Inv X pins σ H { s with heap:=h',toks:=t' }:=by
 have nit:∀b u,H b=some u→b≠it:=fun b u e z=>by rw[z,hn] at e;cases e
 refine I.step (g':=s.gens) (d':=s.drawn) (ch:=[it]) (fun b hb=>?_) (fun b o _ _ hc e _=>k b o (fun z=>hc (by simp[z])) e) (fun b o _ _ hc e _=>⟨o.slots,k b o (fun z=>hc (by simp[z])) e⟩) (fun _ _ _ _ n=>n)
  (fun b o hc e=>⟨o,k b o (fun z=>hc (by simp[z])) e⟩) (fun _ _ e=>e) (fun _ _ _ e=>e) (fun b ps e=>⟨#[],by rw[e];simp⟩) (fun m hm=>?_) (fun b u e=>?_) I.bare
 ·have e:b=it:=by simpa using hb
  subst e
  exact⟨h1,hL,h2,h3⟩
 ·obtain⟨o,es,ep,ho,r⟩:=hm
  exact⟨o,es,ep,k _ o (Ne.symm hL) ho,r⟩
 ·refine (I.hok b u e).stay (fun c v hc q=>k c v ?_ q) (fun _ q=>q) fun _ _ q=>q
  rcases hc with z | z
  ·rw[z];exact nit b u e
  ·exact nit c _ z
theorem Inv.tok (I:Inv X pins σ H s) (t:Nat):Inv X pins σ H { s with toks:=t }:=I.un (h':=s.heap) (t':=t) Un.refl I.hok
theorem Inv.kept {t':Nat} (I:Inv X pins σ H s) (k:∀b u,s.heap.get? b=some u→h'.get? b=some u):Inv X pins σ H { s with heap:=h',toks:=t' }:=I.un (Un.kept k) (I.hok.kept k)
theorem Inv.laid {a:Addr} {o:HO} {t':Nat} (I:Inv X pins σ H s) (k:∀b u,s.heap.get? b=some u→h'.get? b=some u) (hp:s.heap.objs.size≤a) (new:ObjOk X.prog X.w (upd H a o) h' a o) :
  Inv X pins σ (upd H a o) { s with heap:=h',toks:=t' }:=I.un (Un.laid k hp (I.hok.fresh hp)) (I.hok.laid k hp new)
theorem Inv.write {x e:Addr} {o:HO} {t':Nat} (I:Inv X pins σ H s) (mu:UP (H x)) (he:e=x∨H e=some (.own x)) (k:∀b u,b≠e→s.heap.get? b=some u→h'.get? b=some u) (heo:∃u,h'.get? e=some u)
  (new:ObjOk X.prog X.w (upd H x o) h' x o):Inv X pins σ (upd H x o) { s with heap:=h',toks:=t' }:=I.un (Un.write mu he k heo) (I.hok.write mu he k heo new)
theorem Inv.weak {σ':List (Option V)} (I:Inv X pins σ H s) (hl:σ'.length=σ.length) (w:∀(i:Nat) v,σ'[i]? = some (some v)→σ[i]? = some (some v)):Inv X pins σ' H s:=
 ⟨I.ok,I.os,I.bare,I.base,let ⟨m,hn,hl'⟩:=I.loc;⟨m,hn,fun i x v e1 e2 e3=>hl' i x v e1 (w i v e2) e3⟩,I.cell,I.free,I.freeC,I.pin,I.hok,hl.trans I.len⟩
theorem Inv.pins_of {pins':List (Addr×Obj)} (I:Inv X pins σ H s) (h:∀p∈pins',s.heap.get? p.1=some p.2∧H p.1=none∧p.1≠X.env.locals∧p.1∉X.fs∧∀v,p.2.data≠.cell v):Inv X pins' σ H s:=
 ⟨I.ok,I.os,I.bare,I.base,I.loc,I.cell,I.free,I.freeC,fun p hp=>(List.mem_append.mp hp).elim (fun z=>I.pin p (List.mem_append_left _ z)) (h p),I.hok,I.len⟩
theorem Gx {N:List Str} (hN:N.Nodup) {i j:Nat} {x:Str} (a:N[i]? = some x) (b:N[j]? = some x):i=j:=by
 obtain⟨h1,e1⟩:=List.getElem?_eq_some_iff.mp a
 obtain⟨h2,e2⟩:=List.getElem?_eq_some_iff.mp b
 exact (List.getElem_inj hN).mp (e1.trans e2.symm)
theorem NS {M:Model} {A:Around} {E:Value→Shared→Prop} {i:Nat} {x:Str} {v:V} {u:Value} {Q:Unit→Shared→Prop} (I:Inv X pins σ H s) (hN:X.N.Nodup) (hi:X.N[i]? = some x) (hx:Vo X.env.scope x) (r:RelV v u)
  (h:∀s',Inv X pins (σ.set i (some v)) H s'→(∃a,Heap.SameBut a s.heap s'.heap∧(a=X.env.locals∨X.env.cells.lookup x=some a))→Q () s') (hf:X.fn x=true∨X.env.scope.names.lookup x=some .local:=by first | exact .inl rfl | exact .inr rfl | assumption):wpAny M A (storeName X.env x u) Q E s:=by
 obtain⟨m,hn,hl⟩:=id I.loc
 have hcls:(X.env.scope.kind == .class || (X.env.scope.kind == .module && X.env.locals != X.env.globals))=false:=by rw[I.ok.kind];rfl
 have hiσ:i<σ.length:=by rw[I.len];exact (List.getElem?_eq_some_iff.mp hi).1
 have cne:=I.cne
 have tracked:∀{a:Addr} {h':Heap},(∃o,s.heap.get? a=some o∧H a=none)→Heap.SameBut a s.heap h'→HOk X.prog X.w H h':=fun {a h'} ha hs b ob e=>by
  obtain⟨_,_,hfree⟩:=ha
  refine (I.hok b ob e).stay (fun c w' hc q=>(hs.2 c ?_).trans q) (fun _ q=>q) fun _ _ q=>q
  rintro rfl
  rcases hc with rfl | hc
  ·rw[hfree] at e;cases e
  ·rw[hfree] at hc;cases hc
 rcases hx with hk | hk
 ·refine wpAny_storeName_local hk hn (fun h' hn' hs=>?_) hcls
  obtain⟨oL,_,_,hoL,_⟩:=id hn
  refine h _ ⟨I.ok,I.os,I.bare,⟨fun b o e n hb hx=>?_,fun b o e n hb hx=>?_,I.base.free,fun b o e hx=>?_,I.base.tups,I.base.frzs,I.base.tbls⟩,⟨_,hn',fun j y v' e1 e2 e3=>?_⟩,fun y c e=>?_,I.free,I.freeC,fun p hp=>?_,tracked ⟨oL,hoL,I.free⟩ hs,by simpa using I.len⟩ ⟨_,hs,.inl rfl⟩
  ·exact (hs.2 b (Nat.ne_of_lt (Nat.lt_of_lt_of_le (Heap.lt_size e) I.ok.above))).trans (I.base.keep b o e n hb hx)
  ·obtain⟨sl,e1⟩:=I.base.slot b o e n hb hx
   exact⟨sl,(hs.2 b (Nat.ne_of_lt (Nat.lt_of_lt_of_le (Heap.lt_size e) I.ok.above))).trans e1⟩
  ·obtain⟨o',e1⟩:=I.base.there b o e hx
   exact⟨o',(hs.2 b (Nat.ne_of_lt (Nat.lt_of_lt_of_le (Heap.lt_size e) I.ok.above))).trans e1⟩
  ·by_cases hj:j=i
   ·subst hj
    rw[hi] at e1;cases e1
    rw[List.getElem?_set_self hiσ] at e2
    cases e2
    exact⟨u,r,.inl ⟨hk,by simp⟩⟩
   ·rw[List.getElem?_set_ne (Ne.symm hj)] at e2
    obtain⟨u',r',q⟩:=hl j y v' e1 e2 e3
    refine⟨u',r',?_⟩
    rcases q with⟨k,e⟩|⟨k,c,e,z⟩
    ·refine .inl ⟨k,?_⟩
     have:y≠x:=fun e=>hj (Gx hN e1 (e ▸ hi))
     simp[this,e]
    ·exact .inr ⟨k,c,e,z.sameBut hs (cne y c e)⟩
  ·obtain⟨w',z⟩:=I.cell y c e
   exact⟨w',z.sameBut hs (cne y c e)⟩
  ·obtain⟨e,n,ne,nf,d⟩:=I.pin p hp
   exact⟨(hs.2 p.1 ne).trans e,n,ne,nf,d⟩
 ·have hfn:X.fn x=true:=by
   rcases hf with z | z
   ·exact z
   ·rw[z] at hk;cases hk
  obtain⟨c,hc⟩:=I.ok.has x (.inl hk)
  obtain⟨w',z⟩:=I.cell x c hc
  refine wpAny_storeName_cell I.ok.kind hk hc z (fun h' hc' hs=>?_)
  obtain⟨oc,hoc,hocd⟩:=id z
  refine h { s with heap:=h' } ⟨I.ok,I.os,I.bare,⟨fun b o e n hb hx=>?_,fun b o e n hb hx=>?_,I.base.free,fun b o e hx=>?_,I.base.tups,I.base.frzs,I.base.tbls⟩,⟨m,hn.sameBut hs (Ne.symm (cne x c hc)),fun j y v' e1 e2 e3=>?_⟩,fun y c' e=>?_,I.free,I.freeC,fun p hp=>?_,tracked ⟨oc,hoc,I.freeC x c hc⟩ hs,by simpa using I.len⟩ ⟨c,hs,.inr hc⟩
  ·exact (hs.2 b (Nat.ne_of_lt (Nat.lt_of_lt_of_le (Heap.lt_size e) (I.ok.cab x c hfn hc)))).trans (I.base.keep b o e n hb hx)
  ·obtain⟨sl,e1⟩:=I.base.slot b o e n hb hx
   exact⟨sl,(hs.2 b (Nat.ne_of_lt (Nat.lt_of_lt_of_le (Heap.lt_size e) (I.ok.cab x c hfn hc)))).trans e1⟩
  ·obtain⟨o',e1⟩:=I.base.there b o e hx
   exact⟨o',(hs.2 b (Nat.ne_of_lt (Nat.lt_of_lt_of_le (Heap.lt_size e) (I.ok.cab x c hfn hc)))).trans e1⟩
  ·by_cases hj:j=i
   ·subst hj
    rw[hi] at e1;cases e1
    rw[List.getElem?_set_self hiσ] at e2
    cases e2
    exact⟨u,r,.inr ⟨.inl hk,c,hc,hc'⟩⟩
   ·rw[List.getElem?_set_ne (Ne.symm hj)] at e2
    obtain⟨u',r',q⟩:=hl j y v' e1 e2 e3
    refine⟨u',r',?_⟩
    rcases q with q | ⟨k,c',e,z'⟩
    ·exact .inl q
    ·refine .inr ⟨k,c',e,z'.sameBut hs ?_⟩
     rintro rfl
     exact hj (Gx hN e1 (I.ok.inj _ _ _ e hc ▸ hi))
  ·by_cases hcc:c'=c
   ·subst hcc;exact⟨_,hc'⟩
   ·obtain⟨w2,z2⟩:=I.cell y c' e
    exact⟨w2,z2.sameBut hs hcc⟩
  ·obtain⟨e,n,ne,nf,d⟩:=I.pin p hp
   refine⟨(hs.2 p.1 ?_).trans e,n,ne,nf,d⟩
   intro q
   rw[q,hoc] at e
   have q':oc=p.2:=Option.some.inj e
   exact d w' (by rw[←q'];exact hocd)
theorem He {M:Model} {A:Around} {E:Value→Shared→Prop} {i:Nat} {x:Str} {v:V} {u:Value} {Q:Unit→Shared→Prop} (I:Inv X pins σ H s) (hN:X.N.Nodup) (hi:X.N[i]? = some x) (hx:Vo X.env.scope x) (r:RelV v u)
  (h:∀s',Inv X pins (σ.set i (some v)) H s'→Q () s') (hf:X.fn x=true∨X.env.scope.names.lookup x=some .local:=by first | exact .inl rfl | exact .inr rfl | assumption):wpAny M A (storeName X.env x u) Q E s:=
 NS I hN hi hx r (fun s' I' _=>h s' I') hf
theorem Inv.call' {s':Shared} {ch:List Addr} (I:Inv X pins σ H s) (ho:s'.os=s.os) (u:Un (Gh X.stack) ch H H' s.heap s'.heap) (hok:HOk X.prog X.w H' s'.heap) (hg:AllBare s'.gens)
  (hch:∀b∈ch,(b∈X.ex∨X.s₀.heap.objs.size≤b)∧b≠X.env.locals∧(∀x c,X.env.cells.lookup x=some c→c≠b)∧∀p∈X.pn++pins,p.1≠b):Inv X pins σ H' s':=by
 obtain⟨h',g',d',t',o'⟩:=s'
 have e:o'=s.os:=ho
 subst e
 exact I.call (g':=g') (t':=t') (d':=d') u hok hg hch
end
abbrev XK:=Value→Option Addr→Hp→Prop
abbrev St:=List (Option V)
abbrev VK:=V→Hp→Prop
abbrev TE:=St→Hp→VK→Prop
abbrev TT:=St→Hp→(Bool→Hp→Prop)→Prop
abbrev TA:=St→Hp→(List V→Hp→Prop)→Prop
structure Ends where
 nx:St→Hp→Prop
 rt:VK
 bk:St→Hp→Prop:=fun _ _=>False
 ct:St→Hp→Prop:=fun _ _=>False
abbrev TS:=Ends→St→Hp→Prop
def EP (X:Cx) (pins:List (Addr×Obj)) (σ:St) (Q:VK) (u:Value) (s':Shared):Prop:=∃v H',Inv X pins σ H' s'∧RelV v u∧Q v H'
def TP (X:Cx) (pins:List (Addr×Obj)) (σ:St) (Q:Bool→Hp→Prop) (b:Bool) (s':Shared):Prop:=∃H',Inv X pins σ H' s'∧Q b H'
def AP (X:Cx) (pins:List (Addr×Obj)) (σ:St) (Q:List V→Hp→Prop) (us:List Value) (s':Shared):Prop:=∃vs H',Inv X pins σ H' s'∧Vals vs us∧Q vs H'
def SP (X:Cx) (pins:List (Addr×Obj)) (D:Ends) (f:Flow) (s':Shared):Prop:=
 match f with
 | .next=>∃σ' H',Inv X pins σ' H' s'∧D.nx σ' H'
 | .brk=>∃σ' H',Inv X pins σ' H' s'∧D.bk σ' H'
 | .cont=>∃σ' H',Inv X pins σ' H' s'∧D.ct σ' H'
 | .ret u=>∃v σ' H',Inv X pins σ' H' s'∧RelV v u∧D.rt v H'
def PE (X:Cx) (e:Expr) (t:TE):Prop:=
 ∀(pins:List (Addr×Obj)) (s:Shared) (σ:St) (H:Hp) (Q:VK),Inv X pins σ H s→t σ H Q→wpAny (model X.prog X.w) X.A (eval e X.env) (EP X pins σ Q) X.xe s
def PT (X:Cx) (e:Expr) (t:TT):Prop:=
 ∀(pins:List (Addr×Obj)) (s:Shared) (σ:St) (H:Hp) (Q:Bool→Hp→Prop),Inv X pins σ H s→t σ H Q→wpAny (model X.prog X.w) X.A (isTrue e X.env (eval e X.env)) (TP X pins σ Q) X.xe s
def PW (X:Cx) (e:Expr) (t:TT):Prop:=
 ∀(whole:Sem Value) (pins:List (Addr×Obj)) (s:Shared) (σ:St) (H:Hp) (Q:Bool→Hp→Prop),Inv X pins σ H s→t σ H Q→wpAny (model X.prog X.w) X.A (isTrue e X.env whole) (TP X pins σ Q) X.xe s
theorem PW.pt {X:Cx} {e:Expr} {t:TT} (h:PW X e t):PT X e t:=h _
def PA (X:Cx) (es:List Expr) (t:TA):Prop:=
 ∀(pos:Pos) (pins:List (Addr×Obj)) (s:Shared) (σ:St) (H:Hp) (Q:List V→Hp→Prop),Inv X pins σ H s→t σ H Q→wpAny (model X.prog X.w) X.A (spliced (backTo pos (starEach es X.env))) (AP X pins σ Q) X.xe s
def PS (X:Cx) (st:Stmt) (t:TS):Prop:=
 ∀(pins:List (Addr×Obj)) (s:Shared) (σ:St) (H:Hp) (D:Ends),Inv X pins σ H s→t D σ H→wpAny (model X.prog X.w) X.A (exec st X.env) (SP X pins D) X.xe s
def PSs (X:Cx) (st:List Stmt) (t:TS):Prop:=
 ∀(pins:List (Addr×Obj)) (s:Shared) (σ:St) (H:Hp) (D:Ends),Inv X pins σ H s→t D σ H→wpAny (model X.prog X.w) X.A (execs st X.env) (SP X pins D) X.xe s
theorem AM {α:Type} {t:Sem α} {Q Q':α→Shared→Prop} {M:Model} {A:Around} {E:Value→Shared→Prop} {s:Shared} (h:wpAny M A t Q E s) (hQ:∀a s,Q a s→Q' a s):wpAny M A t Q' E s:=wpAny_mono h hQ fun _ _ x=>x
end L2
namespace L2
open PySem PySem.Spec PyProof.Rows
section
variable {X:Cx}
def Pq (i:Nat):TE:=fun σ H Q=>∃v,σ[i]? = some (some v)∧Q v H
def tC (v:V):TE:=fun _ H Q=>Q v H
theorem Tx {i:Nat} {x:Str} {pos:Pos} (hN:X.N[i]? = some x) (hv:Wk X.env.scope x) (hd:(x == ("__debug__":Str))=false:=by decide) (hcd:(x == ("__classdict__":Str))=false:=by decide):PE X (.Name x pos) (Pq i):=by
 intro pins s σ H Q I h
 obtain⟨v,e,h⟩:=h
 obtain⟨m,hn,hl⟩:=I.loc
 obtain⟨u,r,l⟩:=hl i x v hN e hv
 have fin:EP X pins σ Q u s:=⟨v,H,I,r,h⟩
 rcases l with⟨hk,hm⟩|⟨hk,c,hc,hcell⟩
 ·exact wpAny_Name (wpAny_loadName_local I.ok.kind hk hn hm fin) hd
 ·rcases hk with hk | hk
  ·exact wpAny_Name (wpAny_loadName_cell I.ok.kind hk hc hcell fin) hd
  ·exact wpAny_Name (wpAny_loadName_free I.ok.kind hk hc hcell fin hcd) hd
theorem Ao {i j pos}:PE X (.Constant (.int i) j pos) (tC (.int i)):=fun _ _ _ H _ I h=>wpAny_Constant_int ⟨.int i,H,I.tok _,⟨_,rfl⟩,h⟩
theorem Cd {b j pos}:PE X (.Constant (.bool b) j pos) (tC (.bl b)):=fun _ _ _ H _ I h=>Constant_bool ⟨.bl b,H,I,rfl,h⟩
theorem KQ {j pos}:PE X (.Constant .none j pos) (tC .non):=fun _ _ _ H _ I h=>Constant_none ⟨.non,H,I,rfl,h⟩
theorem Ah {x j pos}:PE X (.Constant (.str x) j pos) (tC (.str x)):=fun _ _ _ H _ I h=>Calls.Constant_str ⟨.str x,H,I.tok _,⟨_,rfl⟩,h⟩
def Gl (X:Cx) (x:Str):Prop:=X.env.kindOf x=some .globalImplicit
theorem ET {E:Value→Shared→Prop} {pins:List (Addr×Obj)} {s:Shared} {σ:St} {H:Hp} {x:Str} {u:Value} {pos:Pos} {Q:Value→Shared→Prop} (I:Inv X pins σ H s) (hg:Gl X x) (hm:X.mg x=some u) (h:Q u s)
  (hd:(x == ("__debug__":Str))=false:=by decide):wpAny (model X.prog X.w) X.A (eval (.Name x pos) X.env) Q E s:=
 Calls.Name_function_global I.ok.kind hg (Calls.loadGlobal_global (by rw[I.ok.glob];exact I.mod.glob.keeps I.bk) hm h) hd
theorem Es {E:Value→Shared→Prop} {pins:List (Addr×Obj)} {s:Shared} {σ:St} {H:Hp} {x:Str} {u:Value} {pos:Pos} {Q:Value→Shared→Prop} (I:Inv X pins σ H s) (hg:Gl X x) (hm:X.mg x=none) (hv:bootBuiltins x=some u) (h:Q u s)
  (hn:x≠"__name__":=by decide) (hd:(x == ("__debug__":Str))=false:=by decide):wpAny (model X.prog X.w) X.A (eval (.Name x pos) X.env) Q E s:=by
 obtain⟨mb,h1,h2⟩:=I.mod.blt
 exact Calls.Name_function_global I.ok.kind hg (Calls.loadGlobal_builtin (by rw[I.ok.glob];exact I.mod.glob.keeps I.bk) hm (by rw[I.ok.blt];exact h1.keeps I.bk) ((h2 x hn).trans hv) h) hd
theorem B0 {x:Str} {v:V} {u:Value} {pos:Pos} (hg:Gl X x) (hm:X.mg x=some u) (r:RelV v u) (hd:(x == ("__debug__":Str))=false:=by decide):PE X (.Name x pos) (tC v):=
 fun _ _ _ H _ I h=>ET I hg hm ⟨v,H,I,r,h⟩ hd
theorem Ga {x:Str} {v:V} {u:Value} {pos:Pos} (hg:Gl X x) (hm:X.mg x=none) (hv:bootBuiltins x=some u) (r:RelV v u) (hn:x≠"__name__":=by decide) (hd:(x == ("__debug__":Str))=false:=by decide):PE X (.Name x pos) (tC v):=
 fun _ _ _ H _ I h=>Es I hg hm hv ⟨v,H,I,r,h⟩ hn hd
variable {a b:Expr} {ta tb:TE} {pos:Pos}
def PC (X:Cx) (op:CmpOp) (a b:Expr) (t:TE):Prop:=
 ∀(pins:List (Addr×Obj)) (s:Shared) (σ:St) (H:Hp) (Q:VK),Inv X pins σ H s→t σ H Q→
  wpAny (model X.prog X.w) X.A (eval a X.env) (fun v s₁=>wpAny (model X.prog X.w) X.A (eval b X.env) (fun u s₂=>wpAny (model X.prog X.w) X.A (compareOp op v u) (EP X pins σ Q) X.xe s₂) X.xe s₁) X.xe s
theorem JL (b:Expr) {op:CmpOp} (h:op≠.In) (h2:op≠.NotIn):behindInMarks op b=false:=by
 have e1:(op == CmpOp.In)=false:=by cases op<;>first | rfl | exact absurd rfl h
 have e2:(op == CmpOp.NotIn)=false:=by cases op<;>first | rfl | exact absurd rfl h2
 cases b<;>simp[behindInMarks,e1,e2]
def VW (ta:TE):TE:=fun σ H Q=>ta σ H fun x H1=>Q (.bl (decide (x= .non))) H1
theorem RelV.none_iff {x:V} {v:Value} (r:RelV x v):(v == Value.none)=decide (x= .non):=by
 cases x with
 | non=>cases r;rfl
 | bl _=>cases r;rfl
 | int _=>obtain⟨t,rfl⟩:=r;rfl
 | str _=>obtain⟨t,rfl⟩:=r;rfl
 | byt _=>obtain⟨t,rfl⟩:=r;rfl
 | flt _=>obtain⟨t,rfl⟩:=r;rfl
 | ref _=>cases r;rfl
 | ty _=>cases r;rfl
theorem Ls {j pos'} (ha:PE X a ta):PC X .Is a (.Constant .none j pos') (VW ta):=by
 intro pins s σ H Q I h
 refine AM (ha pins s σ H _ I h) fun v s1 ⟨x,H1,I1,r1,q1⟩=>?_
 exact Constant_none (is_none_gen ⟨.bl _,H1,I1,by rw[r1.none_iff];rfl,q1⟩)
def tB (t:TE):TT:=fun σ H Q=>t σ H fun x H1=>∃c,x= .bl c∧Q c H1
theorem OM {op:CmpOp} {t:TE} (h:PC X op a b t) (h1:behindInMarks op b=false:=by first | exact JL _ (by decide) (by decide) | rfl):PE X (.Compare a [op] [b] pos) t:=fun pins s σ H Q I hw=>wpAny_Compare1 (h pins s σ H Q I hw) h1
theorem TZ {op:CmpOp} {t:TE} (h:PC X op a b t) (h1:behindInMarks op b=false:=by first | exact JL _ (by decide) (by decide) | rfl):PT X (.Compare a [op] [b] pos) (tB t):=by
 intro pins s σ H Q I hw
 refine wpAny_isTrue_Compare1 (AM (h pins s σ H _ I hw) fun v s1 h1=>AM h1 fun u s2 h2=>AM h2 fun c s3 ⟨x,H1,I1,r1,q1⟩=>?_) h1
 obtain⟨d,rfl,q⟩:=q1
 cases r1
 exact wpAny_truthy_bool ⟨H1,I1,q⟩
theorem Bu {e:Expr} {t:TE} (h:PE X e t) (he:∀whole,isTrue e X.env whole=(do let v ←whole;standAt e.pos;holding [v] (truthy v)):=by intro _;rfl):PT X e (tB t):=by
 intro pins s σ H Q I hw
 refine isTrue_plain (AM (h pins s σ H _ I hw) fun v s1 ⟨x,H1,I1,r1,q1⟩=>?_) (he _)
 obtain⟨d,rfl,q⟩:=q1
 cases r1
 exact wpAny_truthy_bool ⟨H1,I1,q⟩
variable {tA tB':TT} {rest:List Expr}
def V9 (t u:TT):TT:=fun σ H Q=>t σ H fun c H1=>if c=true then u σ H1 Q else Q false H1
def WO (t u:TT):TT:=fun σ H Q=>t σ H fun c H1=>if c=true then Q true H1 else u σ H1 Q
def WF (t:TT):TT:=fun σ H Q=>t σ H fun c H1=>Q (!c) H1
theorem Jm (ha:PT X a tA):PW X (.BoolOp .And [a] pos) tA:=by
 intro wh pins s σ H Q I h
 refine isTrue_and (AM (ha pins s σ H Q I h) fun c s1 e=>?_)
 cases c with
 | true=>exact isTrue_and_nil e
 | false=>exact e
theorem Jr (ha:PT X a tA):PW X (.BoolOp .Or [a] pos) tA:=by
 intro wh pins s σ H Q I h
 refine isTrue_or (AM (ha pins s σ H Q I h) fun c s1 e=>?_)
 cases c with
 | false=>exact isTrue_or_nil e
 | true=>exact e
theorem KU (ha:PT X a tA) (hb:PW X (.BoolOp .And (b::rest) pos) tB'):PW X (.BoolOp .And (a::b::rest) pos) (V9 tA tB'):=by
 intro wh pins s σ H Q I h
 refine isTrue_and (AM (ha pins s σ H _ I h) fun c s1 ⟨H1,I1,q1⟩=>?_)
 cases c with
 | true=>exact hb wh pins s1 σ H1 Q I1 q1
 | false=>exact⟨H1,I1,q1⟩
theorem LU (ha:PT X a tA) (hb:PW X (.BoolOp .Or (b::rest) pos) tB'):PW X (.BoolOp .Or (a::b::rest) pos) (WO tA tB'):=by
 intro wh pins s σ H Q I h
 refine isTrue_or (AM (ha pins s σ H _ I h) fun c s1 ⟨H1,I1,q1⟩=>?_)
 cases c with
 | true=>exact⟨H1,I1,q1⟩
 | false=>exact hb wh pins s1 σ H1 Q I1 q1
theorem Ca (ha:PT X a tA):PT X (.UnaryOp .Not a pos) (WF tA):=by
 intro pins s σ H Q I h
 exact isTrue_not (ha pins s σ H (fun c H1=>Q (!c) H1) I h)
def Vh (ta tb:TE):TE:=fun σ H Q=>ta σ H fun x H1=>∃c,x= .bl c∧if c=true then tb σ H1 Q else Q (.bl false) H1
def Ww (ta tb:TE):TE:=fun σ H Q=>ta σ H fun x H1=>∃c,x= .bl c∧if c=true then Q (.bl true) H1 else tb σ H1 Q
def Vs (ta:TE):TE:=fun σ H Q=>ta σ H fun x H1=>∃c,x= .bl c∧Q (.bl (!c)) H1
theorem Hc {op} {t:TE} (h:PE X a t):PE X (.BoolOp op [a] pos) t:=fun pins s σ H Q I hw=>BoolOp_one (h pins s σ H Q I hw)
theorem QO (ha:PE X a ta) (hb:PE X (.BoolOp .And (b::rest) pos) tb):PE X (.BoolOp .And (a::b::rest) pos) (Vh ta tb):=by
 intro pins s σ H Q I h
 refine BoolOp_and (AM (ha pins s σ H _ I h) fun v s1 ⟨x,H1,I1,r1,q1⟩=>?_)
 obtain⟨c,rfl,q1⟩:=q1
 cases r1
 refine wpAny_truthy_bool ?_
 cases c with
 | true=>exact hb pins s1 σ H1 Q I1 q1
 | false=>exact⟨.bl false,H1,I1,rfl,q1⟩
theorem Q7 (ha:PE X a ta) (hb:PE X (.BoolOp .Or (b::rest) pos) tb):PE X (.BoolOp .Or (a::b::rest) pos) (Ww ta tb):=by
 intro pins s σ H Q I h
 refine BoolOp_or (AM (ha pins s σ H _ I h) fun v s1 ⟨x,H1,I1,r1,q1⟩=>?_)
 obtain⟨c,rfl,q1⟩:=q1
 cases r1
 refine wpAny_truthy_bool ?_
 cases c with
 | false=>exact hb pins s1 σ H1 Q I1 q1
 | true=>exact⟨.bl true,H1,I1,rfl,q1⟩
theorem Lx (ha:PE X a ta):PE X (.UnaryOp .Not a pos) (Vs ta):=by
 intro pins s σ H Q I h
 refine UnaryOp_ (AM (ha pins s σ H _ I h) fun v s1 ⟨x,H1,I1,r1,q1⟩=>?_)
 obtain⟨c,rfl,q1⟩:=q1
 cases r1
 exact not_of (wpAny_truthy_bool ⟨.bl (!c),H1,I1,rfl,q1⟩)
def WM (t:TT) (ta tb:TE):TE:=fun σ H Q=>t σ H fun c H1=>if c=true then ta σ H1 Q else tb σ H1 Q
theorem OS {c:Expr} (hc:PT X c tA) (ha:PE X a ta) (hb:PE X b tb):PE X (.IfExp c a b pos) (WM tA ta tb):=by
 intro pins s σ H Q I h
 refine wpAny_IfExp (AM (hc pins s σ H _ I h) fun d s1 ⟨H1,I1,q1⟩=>?_)
 cases d with
 | true=>exact ha pins s1 σ H1 Q I1 q1
 | false=>exact hb pins s1 σ H1 Q I1 q1
end
end L2
namespace L2
open PySem PySem.Spec PyProof.Rows
def SqL (K:PySem.W.Frag) (H:Hp) (a:Addr) (xs:List V):Prop:=
 Rd H a (.lst xs)∨
  ∃(o:Obj) (its:Array Value) (n:Nat),K.lookup a=some o∧o.cls= .type "list"∧o.dict=none∧o.data= .seq its n∧its.size≤sizeLine∧Vals xs its.toList
def SqT (K:PySem.W.Frag) (H:Hp) (a:Addr) (xs:List V):Prop:=
 Rd H a (.tup xs)∨
  ∃(o:Obj) (its:Array Value) (n:Nat),K.lookup a=some o∧o.cls= .type "tuple"∧o.data= .seq its n∧its.size≤sizeLine∧Vals xs its.toList
def Wa:Value→Option V
 | .none=>some .non
 | .bool b=>some (.bl b)
 | .int i _=>some (.int i)
 | .str x _=>some (.str x)
 | .bytes b _=>some (.byt b)
 | .float b _=>some (.flt b)
 | .ref a=>some (.ref a)
 | .type n=>some (.ty n)
 | _=>none
theorem RelV.abs {x:V} {u:Value} (r:RelV x u):Wa u=some x:=by
 cases x with
 | non=>cases r;rfl
 | bl _=>cases r;rfl
 | int _=>obtain⟨t,rfl⟩:=r;rfl
 | str _=>obtain⟨t,rfl⟩:=r;rfl
 | byt _=>obtain⟨t,rfl⟩:=r;rfl
 | flt _=>obtain⟨t,rfl⟩:=r;rfl
 | ref _=>cases r;rfl
 | ty _=>cases r;rfl
theorem RelV.inj {x y:V} {u:Value} (r:RelV x u) (q:RelV y u):x=y:=Option.some.inj (r.abs.symm.trans q.abs)
theorem Vals.inj:∀{xs ys:List V} {us:List Value},Vals xs us→Vals ys us→xs=ys
 | _,_,_,.nil,.nil=>rfl
 | _,_,_,.cons r t,.cons r' t'=>by rw[r.inj r',Vals.inj t t']
section
variable {X:Cx} {pins:List (Addr×Obj)} {σ:St} {H:Hp} {s:Shared} {a:Addr} {xs ys:List V}
theorem SqL.of {K:PySem.W.Frag} (h:H a=some (.lst xs)):SqL K H a xs:=.inl (.inl h)
theorem SqT.of {K:PySem.W.Frag} (h:H a=some (.tup xs)):SqT K H a xs:=.inl (.inl h)
theorem Inv.list (I:Inv X pins σ H s) (h:SqL X.K H a xs):∃its:List Value,Vals xs its∧PlainL s.heap a its.toArray∧xs.length≤sizeLine:=by
 rcases h with h | ⟨o,its,n,hk,hc,hd,hs,hz,r⟩
 ·obtain⟨z,its,n,r,e⟩:=h.ok I.hok
  exact⟨its,r,⟨_,n,e,rfl,rfl,rfl⟩,z⟩
 ·refine⟨its.toList,r,⟨o,n,I.kIn a o hk,hc,hd,by simpa using hs⟩,?_⟩
  have e:=r.length
  simp only[Array.length_toList] at e
  omega
theorem Inv.tuple (I:Inv X pins σ H s) (h:SqT X.K H a xs):∃its:List Value,Vals xs its∧IsTup s.heap a its.toArray∧xs.length≤sizeLine:=by
 rcases h with h | ⟨o,its,n,hk,hc,hs,hz,r⟩
 ·obtain⟨z,its,r,p⟩:=h.ok I.hok
  exact⟨its,r,p,z⟩
 ·refine⟨its.toList,r,⟨o,I.kIn a o hk,hc,n,by simpa using hs⟩,?_⟩
  have e:=r.length
  simp only[Array.length_toList] at e
  omega
theorem Inv.list_inj (I:Inv X pins σ H s) (h:SqL X.K H a xs) (h':SqL X.K H a ys):xs=ys:=by
 obtain⟨its,r,⟨o,n,e,_,_,d⟩,_⟩:=I.list h
 obtain⟨its',r',⟨o',n',e',_,_,d'⟩,_⟩:=I.list h'
 rw[e] at e';cases e'
 rw[d] at d'
 injection d' with d1 _
 have:its=its':=by simpa using congrArg Array.toList d1
 subst this
 exact r.inj r'
theorem Inv.tuple_inj (I:Inv X pins σ H s) (h:SqT X.K H a xs) (h':SqT X.K H a ys):xs=ys:=by
 obtain⟨its,r,⟨o,e,_,n,d⟩,_⟩:=I.tuple h
 obtain⟨its',r',⟨o',e',_,n',d'⟩,_⟩:=I.tuple h'
 rw[e] at e';cases e'
 rw[d] at d'
 injection d' with d1 _
 have:its=its':=by simpa using congrArg Array.toList d1
 subst this
 exact r.inj r'
end
abbrev Cx.wish (X:Cx) (E:Value→Shared→Prop):Cx:={ X with xe:=E }
abbrev Cx.nox (X:Cx):Cx:=X.wish fun _ _=>False
theorem Cx.Ok.wish {X:Cx} (ok:X.Ok) (E:Value→Shared→Prop):(X.wish E).Ok:=
 ⟨ok.mod,ok.kind,ok.glob,ok.blt,ok.above,ok.inj,ok.has,ok.cab,ok.hd,ok.frames,ok.stk,ok.exf,ok.bs,ok.bsz,ok.noex,ok.exfs,ok.funs,ok.frf⟩
theorem Cx.Ok.unwish {X:Cx} {E:Value→Shared→Prop} (ok:(X.wish E).Ok):X.Ok:=
 ⟨ok.mod,ok.kind,ok.glob,ok.blt,ok.above,ok.inj,ok.has,ok.cab,ok.hd,ok.frames,ok.stk,ok.exf,ok.bs,ok.bsz,ok.noex,ok.exfs,ok.funs,ok.frf⟩
section
variable {X:Cx} {pins:List (Addr×Obj)} {σ:St} {H:Hp} {s:Shared} {E:Value→Shared→Prop}
theorem Inv.wish (I:Inv X pins σ H s) (E:Value→Shared→Prop):Inv (X.wish E) pins σ H s:=⟨I.ok.wish E,I.os,I.bare,I.base,I.loc,I.cell,I.free,I.freeC,I.pin,I.hok,I.len⟩
theorem Inv.unwish (I:Inv (X.wish E) pins σ H s):Inv X pins σ H s:=⟨I.ok.unwish,I.os,I.bare,I.base,I.loc,I.cell,I.free,I.freeC,I.pin,I.hok,I.len⟩
theorem SP.unwish {D:Ends} {f:Flow} {s':Shared} (h:SP (X.wish E) pins D f s'):SP X pins D f s':=by
 cases f with
 | next=>obtain⟨σ',H',I,q⟩:=h;exact⟨σ',H',I.unwish,q⟩
 | brk=>obtain⟨σ',H',I,q⟩:=h;exact⟨σ',H',I.unwish,q⟩
 | cont=>obtain⟨σ',H',I,q⟩:=h;exact⟨σ',H',I.unwish,q⟩
 | ret u=>obtain⟨v,σ',H',I,r,q⟩:=h;exact⟨v,σ',H',I.unwish,r,q⟩
theorem PE.nox {e:Expr} {t:TE} (h:PE X.nox e t):PE X e t:=fun pins s σ H Q I hw=>
 wpAny_mono (h pins s σ H Q (I.wish _) hw) (fun _ _ ⟨v,H',I',r,q⟩=>⟨v,H',I'.unwish,r,q⟩) fun _ _ z=>False.elim z
theorem PSs.nox {st:List Stmt} {t:TS} (h:PSs X.nox st t):PSs X st t:=fun pins s σ H D I hw=>
 wpAny_mono (h pins s σ H D (I.wish _) hw) (fun _ _ q=>q.unwish) fun _ _ z=>False.elim z
end
section
variable {X:Cx} {st:Stmt} {rest:List Stmt} {t u:TS} {e:Expr} {te:TE} {pos:Pos}
def Vc:TS:=fun D σ H=>D.nx σ H
def Tt (t u:TS):TS:=fun D σ H=>t { D with nx:=u D } σ H
theorem Aw:PSs X [] Vc:=fun _ _ σ H _ I h=>wpAny_execs_nil ⟨σ,H,I,h⟩
theorem Ae (h1:PS X st t) (h2:PSs X rest u):PSs X (st::rest) (Tt t u):=by
 intro pins s σ H D I h
 refine wpAny_execs_cons (AM (h1 pins s σ H { D with nx:=u D } I h) fun f s1 q=>?_)
 cases f with
 | next=>
  obtain⟨σ',H',I',q⟩:=q
  exact h2 pins s1 σ' H' D I' q
 | ret v=>exact q
 | brk=>exact q
 | cont=>exact q
theorem Af (h1:PS X st t):PSs X [st] t:=by
 intro pins s σ H D I h
 refine wpAny_execs_cons (AM (h1 pins s σ H D I h) fun f s1 q=>?_)
 cases f with
 | next=>exact wpAny_execs_nil q
 | ret v=>exact q
 | brk=>exact q
 | cont=>exact q
theorem Inv.quiet {pins:List (Addr×Obj)} {σ:St} {H:Hp} {s:Shared} (I:Inv X pins σ H s):interactive X.env=false:=by simp[interactive,I.ok.kind]
def Vp (te:TE):TS:=fun D σ H=>te σ H fun _ H1=>D.nx σ H1
theorem AA (he:PE X e te) (hs:swapsWith e none pos.line X.env=pure false:=by rfl):PS X (.Expr e pos) (Vp te):=by
 intro pins s σ H D I h
 exact wpAny_Expr_any (AM (he pins s σ H _ I h) fun v s1 ⟨x,H1,I1,r1,q1⟩=>⟨σ,H1,I1,q1⟩) I.quiet hs
def Wi (te:TE):TS:=fun D σ H=>te σ H D.rt
theorem Am (he:PE X e te):PS X (.Return (some e) pos) (Wi te):=by
 intro pins s σ H D I h
 exact wpAny_Return_some (AM (he pins s σ H _ I h) fun v s1 ⟨x,H1,I1,r1,q1⟩=>⟨x,σ,H1,I1,r1,q1⟩)
def Wp (c:TT) (t u:TS):TS:=fun D σ H=>c σ H fun b H1=>if b=true then t D σ H1 else u D σ H1
theorem AC {c:Expr} {a b:List Stmt} {tc:TT} (hc:PT X c tc) (ha:PSs X a t) (hb:PSs X b u):PS X (.If c a b pos) (Wp tc t u):=by
 intro pins s σ H D I h
 refine wpAny_If (AM (hc pins s σ H _ I h) fun d s1 ⟨H1,I1,q1⟩=>?_)
 cases d with
 | true=>exact ha pins s1 σ H1 D I1 q1
 | false=>exact hb pins s1 σ H1 D I1 q1
end
abbrev TG:=V→St→Hp→(St→Hp→Prop)→Prop
abbrev Ul:=List V→St→Hp→(St→Hp→Prop)→Prop
def PG (X:Cx) (target:Expr) (t:TG):Prop:=
 ∀(pins:List (Addr×Obj)) (s:Shared) (σ:St) (H:Hp) (v:V) (u:Value) (Q:St→Hp→Prop),Inv X pins σ H s→RelV v u→t v σ H Q→
  wpAny (model X.prog X.w) X.A (assign target X.env u) (fun _ s'=>∃σ' H',Inv X pins σ' H' s'∧Q σ' H') X.xe s
def VP (X:Cx) (ts:List Expr) (t:Ul):Prop:=
 ∀(pins:List (Addr×Obj)) (s:Shared) (σ:St) (H:Hp) (vs:List V) (us:List Value) (Q:St→Hp→Prop),Inv X pins σ H s→Vals vs us→t vs σ H Q→
  wpAny (model X.prog X.w) X.A (assignInOrder ((assignEach ts X.env).map (·.2)) us) (fun _ s'=>∃σ' H',Inv X pins σ' H' s'∧Q σ' H') X.xe s
abbrev Ua:=V→V→V→Hp→(Hp→Prop)→Prop
def U5 (X:Cx) (t:Ua):Prop:=
 ∀(pins:List (Addr×Obj)) (s:Shared) (σ:St) (H:Hp) (o i v:V) (ov iv u:Value) (Q:Hp→Prop),Inv X pins σ H s→RelV o ov→RelV i iv→RelV v u→t o i v H Q→
  wpAny (model X.prog X.w) X.A (setItem ov iv u) (fun _ s'=>∃H',Inv X pins σ H' s'∧Q H') X.xe s
section
variable {X:Cx} {pos:Pos}
def HH (i:Nat):TG:=fun v σ H Q=>Q (σ.set i (some v)) H
theorem AN {i:Nat} {x:Str} (hN:X.N.Nodup) (hi:X.N[i]? = some x) (hx:Vo X.env.scope x) (hf:X.fn x=true∨X.env.scope.names.lookup x=some .local:=by first | exact .inl rfl | exact .inr rfl | assumption):PG X (.Name x pos) (HH i):=by
 intro pins s σ H v u Q I r h
 exact wpAny_assign_Name (He I hN hi hx r (fun s' I'=>⟨_,H,I',h⟩) hf)
def V6:Ul:=fun vs σ H Q=>vs=[]∧Q σ H
def UY (t:TG) (u:Ul):Ul:=fun vs σ H Q=>∃v r,vs=v::r∧t v σ H fun σ' H'=>u r σ' H' Q
theorem MS:VP X [] V6:=by
 intro pins s σ H vs us Q I r h
 obtain⟨e,h⟩:=h
 subst e
 cases r
 exact assignInOrder_nil ⟨σ,H,I,h⟩
theorem EG {e:Expr} {es:List Expr} {t:TG} {u:Ul} (h1:PG X e t) (h2:VP X es u)
  (hs:(assignEach (e::es) X.env).map (·.2)=assign e X.env::(assignEach es X.env).map (·.2):=by rfl):VP X (e::es) (UY t u):=by
 intro pins s σ H vs us Q I r h
 obtain⟨v,vr,e1,h⟩:=h
 subst e1
 cases r with
 | cons r rr=>
  rw[hs]
  refine assignInOrder_cons (AM (h1 pins s σ H _ _ _ I r h) fun _ s1 ⟨σ1,H1,I1,q1⟩=>?_)
  exact h2 pins s1 σ1 H1 _ _ Q I1 rr q1
def WD (K:PySem.W.Frag) (n:Nat) (t:Ul):TG:=fun v σ H Q=>∃a xs,v= .ref a∧SqT K H a xs∧xs.length=n∧t xs σ H Q
theorem Qq {es:List Expr} {k:Nat} {t:Ul} {n:Nat} (hc:X.calm=true) (h:VP X es t)
  (hn:(assignEach es X.env).length=n:=by rfl) (hst:(assignEach es X.env).findIdx? (·.1)=none:=by rfl):PG X (.Tuple es k pos) (WD X.K n t):=by
 intro pins s σ H v u Q I r hw
 obtain⟨a,xs,e1,hq,hl,hw⟩:=hw
 subst e1
 cases r
 obtain⟨its,rv,ht,hz⟩:=I.tuple hq
 refine assign_Tuple_tuple (I.ok.hd hc) ht (by simp[hn,←hl,rv.length]) hst fun h' hx=>?_
 have I1:Inv X pins σ H { s with heap:=h' }:=I.kept (t':=s.toks) fun b o e=>hx b o (Nat.ne_of_lt (Heap.lt_size e)) e
 exact h pins _ σ H xs _ Q I1 (by simpa using rv) hw
def Wf (to ti:TE) (t:Ua):TG:=fun v σ H Q=>to σ H fun o H1=>ti σ H1 fun i H2=>t o i v H2 fun H3=>Q σ H3
theorem Td {o i:Expr} {to ti:TE} {t:Ua} (ho:PE X o to) (hi:PE X i ti) (hs:U5 X t)
  (ha:∀v,assign (.Subscript o i pos) X.env v=(do
   let ov ←holding [v] (eval o X.env)
   let iv ←holding [v,ov] (eval i X.env)
   standAt pos
   holding [v,ov,iv] (setItem ov iv v)
   release [v,ov,iv] []):=by intro _;rfl):PG X (.Subscript o i pos) (Wf to ti t):=by
 intro pins s σ H v u Q I r h
 rw[ha]
 refine wpAny_bind (wpAny_holding (AM (ho pins s σ H _ I h) fun ov s1 ⟨x,H1,I1,r1,q1⟩=>?_))
 refine wpAny_bind (wpAny_holding (AM (hi pins s1 σ H1 _ I1 q1) fun iv s2 ⟨y,H2,I2,r2,q2⟩=>?_))
 refine wpAny_bind (wpAny_standAt (wpAny_bind (wpAny_holding (AM (hs pins s2 σ H2 x y v ov iv u _ I2 r1 r2 r q2) fun _ s3 ⟨H3,I3,q3⟩=>?_))))
 exact wpAny_release ⟨σ,H3,I3,q3⟩
def Vm (te:TE) (g:TG):TS:=fun D σ H=>te σ H fun x H1=>g x σ H1 D.nx
theorem TY {tg e:Expr} {te:TE} {g:TG} (he:PE X e te) (hg:PG X tg g) (hs:swapsWithSole [tg] e pos.line X.env=pure false:=by rfl) (hw:swappedStores [tg] e X.env=pure none:=by rfl)
  (h1:(assignEach [tg] X.env).map (·.2)=[assign tg X.env]:=by rfl):PS X (.Assign [tg] e pos) (Vm te g):=by
 intro pins s σ H D I h
 refine wpAny_Assign_stores (AM (he pins s σ H _ I h) fun v s1 ⟨x,H1,I1,r1,q1⟩=>?_) hs hw
 rw[h1]
 exact AM (hg pins s1 σ H1 x v _ I1 r1 q1) fun _ s2 q=>q
theorem Ax {i:Nat} {x:Str} {e:Expr} {te:TE} {pos':Pos} (hN:X.N.Nodup) (hi:X.N[i]? = some x) (hx:Vo X.env.scope x) (he:PE X e te) (hs:swapsWith e (some (.Name x pos')) pos.line X.env=pure false:=by rfl) (hf:X.fn x=true∨X.env.scope.names.lookup x=some .local:=by first | exact .inl rfl | exact .inr rfl | assumption) :
  PS X (.Assign [.Name x pos'] e pos) (Vm te (HH i)):=by
 intro pins s σ H D I h
 refine wpAny_Assign_Name (AM (he pins s σ H _ I h) fun v s1 ⟨y,H1,I1,r1,q1⟩=>?_) hs
 exact He I1 hN hi hx r1 (fun s2 I2=>⟨_,H1,I2,q1⟩) hf
end
section
variable {X:Cx} {pos:Pos}
def Tj (c:TT) (tb:TS):TS:=fun D σ H=>∃W:Nat→St→Hp→Prop,(∃m,W m σ H)∧∀m σ H,W m σ H→
 c σ H fun b H1=>if b=true then ∃N:St→Hp→Prop,(∀σ' H',N σ' H'→∃m',m'<m∧W m' σ' H')∧tb { D with nx:=N,ct:=N,bk:=D.nx } σ H1 else D.nx σ H1
theorem DJ {c:Expr} {body:List Stmt} {tc:TT} {tb:TS} (hp:PassesOwn (model X.prog X.w) X.A X.env X.xe) (hc:PT X c tc) (hb:PSs X body tb):PS X (.While c body [] pos) (Tj tc tb):=by
 intro pins s σ H D I h
 obtain⟨W,⟨m0,w0⟩,turn⟩:=h
 refine wpAny_While (codeAny_whileLoop (fun n s'=>∃σ' H',Inv X pins σ' H' s'∧W n σ' H') ?_ m0 ⟨σ,H,I,w0⟩)
 rintro n s1 ⟨σ1,H1,I1,w1⟩
 refine wpAny_passesOwn hp (AM (hc pins s1 σ1 H1 _ I1 (turn n σ1 H1 w1)) fun b s2 ⟨H2,I2,q2⟩=>?_)
 cases b with
 | true=>
  obtain⟨N,hN,q2⟩:=q2
  rw[if_pos rfl]
  refine wpAny_passesOwn hp (AM (hb pins s2 σ1 H2 _ I2 q2) fun f s3 q3=>?_)
  cases f with
  | next=>
   obtain⟨σ3,H3,I3,n3⟩:=q3
   obtain⟨m',hm,w3⟩:=hN σ3 H3 n3
   exact⟨m',hm,σ3,H3,I3,w3⟩
  | cont=>
   obtain⟨σ3,H3,I3,n3⟩:=q3
   obtain⟨m',hm,w3⟩:=hN σ3 H3 n3
   exact⟨m',hm,σ3,H3,I3,w3⟩
  | brk=>exact q3
  | ret v=>exact q3
 | false=>
  rw[if_neg Bool.false_ne_true]
  exact wpAny_execs_nil ⟨σ1,H2,I2,q2⟩
end
structure It where
 go:Nat→Hp→Prop
 yld:Nat→Hp→V→Hp→Prop
 stop:Nat→Hp→Prop
def BO (X:Cx) (pins:List (Addr×Obj)) (H:Hp) (b:Addr):Prop:=
 H b=none∧b≠X.env.locals∧b∉X.fs∧(b∈X.ex∨X.s₀.heap.objs.size≤b)∧(∀x c,X.env.cells.lookup x=some c→c≠b)∧∀p∈X.pn++pins,p.1≠b
theorem Inv.fpOk {X:Cx} {pins:List (Addr×Obj)} {σ:St} {H H':Hp} {s:Shared} {b:Addr} (I:Inv X pins σ H s) (hb:s.heap.objs.size≤b) (hn:H' b=none):BO X pins H' b:=by
 refine⟨hn,Nat.ne_of_gt (Nat.lt_of_lt_of_le I.lt hb),I.nofs hb,.inr (Nat.le_trans I.sz hb),fun x c e z=>?_,fun p hp z=>?_⟩
 ·obtain⟨v,q⟩:=I.cell x c e
  exact absurd (Nat.lt_of_lt_of_le q.lt (by rw[z];exact hb)) (Nat.lt_irrefl _)
 ·exact absurd (Nat.lt_of_lt_of_le (Heap.lt_size (I.pin p hp).1) (by rw[z];exact hb)) (Nat.lt_irrefl _)
structure Jw (P:Program) (w:World) (K:PySem.W.Frag) (tg:Expr) (J:It) (fp:List Addr) (it:Addr) (tn:Nat→Heap→Prop):Prop where
 mem:it∈fp
 obj:∀i h,tn i h→∀b∈fp,∃o,h.get? b=some o∧∀v,o.data≠.cell v
 keep:∀i h h',tn i h→(∀b∈fp,∀o,h.get? b=some o→h'.get? b=some o)→tn i h'
 item:∀(X:Cx),X.prog=P→X.w=w→X.K=K→X.calm=true→∀(i:Nat) (pins:List (Addr×Obj)) (s:Shared) (σ:St) (H:Hp) (E:Value→Shared→Prop),Inv X pins σ H s→(∀b∈fp,BO X pins H b)→tn i s.heap→J.go i H→
  wpAny (model P w) X.A (pyNext (.ref it)) (fun r s1=>∃u,r=some u∧
   wpAny (model P w) X.A (letOwnedTupleGo tg (.ref it) u) (fun _ s2=>∃x H',Inv X pins σ H' s2∧RelV x u∧J.yld i H x H'∧tn (i+1) s2.heap∧∀b∈fp,H' b=none) E s1) E s
 done:∀(X:Cx),X.prog=P→X.w=w→X.K=K→X.calm=true→∀(i:Nat) (pins:List (Addr×Obj)) (s:Shared) (σ:St) (H:Hp) (E:Value→Shared→Prop),Inv X pins σ H s→(∀b∈fp,BO X pins H b)→tn i s.heap→J.stop i H→
  wpAny (model P w) X.A (pyNext (.ref it)) (fun r s1=>r=none∧Inv X pins σ H s1) E s
 self:∀(A:Around) (i:Nat) (s:Shared) (Q:Value→Shared→Prop) (E:Value→Shared→Prop),tn i s.heap→Q (.ref it) s→wpAny (model P w) A (pyIter (.ref it)) Q E s
abbrev TI:=St→Hp→(It→Hp→Prop)→Prop
def Wq (X:Cx) (pins:List (Addr×Obj)) (σ:St) (tg:Expr) (R:It→Hp→Prop) (itv:Value) (s2:Shared):Prop:=
 ∃(it:Addr) (fp:List Addr) (tn:Nat→Heap→Prop) (J:It) (H':Hp),itv= .ref it∧Inv X pins σ H' s2∧Jw X.prog X.w X.K tg J fp it tn∧tn 0 s2.heap∧(∀b∈fp,BO X pins H' b)∧R J H'
def PI (X:Cx) (tg iter:Expr) (wi:TI):Prop:=
 ∀(pins:List (Addr×Obj)) (s:Shared) (σ:St) (H:Hp) (R:It→Hp→Prop),Inv X pins σ H s→wi σ H R→
  wpAny (model X.prog X.w) X.A (eval iter X.env) (fun v s1=>wpAny (model X.prog X.w) X.A (pyIter v) (Wq X pins σ tg R) X.xe s1) X.xe s
theorem JM {M:Model} {A:Around} {E:Value→Shared→Prop} {s:Shared} {tg:Expr} {it:Addr} {u:Value} {o:Obj} {n:String} {vs:Array Value} {Q:Unit→Shared→Prop} (ho:s.heap.get? it=some o) (hc:o.cls= .type n) (hd:o.data= .fields vs)
    (hn:["enumerate","zip","dict_itemiterator","dict_reverseitemiterator","odict_iterator","itertools.zip_longest","itertools.pairwise"].contains n=false) (hQ:Q () s):wpAny M A (letOwnedTupleGo tg (.ref it) u) Q E s:=by
  unfold letOwnedTupleGo
  cases tg<;>first
    | exact wpAny_pure hQ
    | (cases u<;>first
        | exact wpAny_pure hQ
        | (refine wpAny_bind (wpAny_load ho ?_)
           rw[hc,hd]
           show wpAny M A (if (["enumerate","zip","dict_itemiterator","dict_reverseitemiterator","odict_iterator","itertools.zip_longest","itertools.pairwise"].contains n && vs[0]? == some (rawInt _))=true then _ else _) Q E s
           rw[if_neg (by intro h;rw[hn,Bool.false_and] at h;cases h)]
           exact wpAny_pure hQ))
def UF (K:PySem.W.Frag) (a:Addr):It:=
 ⟨fun i H=>∃xs x,SqL K H a xs∧xs[i]? = some x,fun i H x H'=>H'=H∧∀xs,SqL K H a xs→xs[i]? = some x,fun i H=>∃xs,SqL K H a xs∧xs.length≤i⟩
def U9 (K:PySem.W.Frag) (a:Addr):It:=
 ⟨fun i H=>∃xs x,SqT K H a xs∧xs[i]? = some x,fun i H x H'=>H'=H∧∀xs,SqT K H a xs→xs[i]? = some x,fun i H=>∃xs,SqT K H a xs∧xs.length≤i⟩
def Tb (lo:Int) (n:Nat):It:=⟨fun i _=>i<n,fun i H x H'=>H'=H∧x= .int (lo+i),fun i _=>n≤i⟩
theorem M9 {P:Program} {w:World} {K:PySem.W.Frag} {tg:Expr} (a it:Addr):Jw P w K tg (UF K a) [it] it (fun i h=>h.IsListIter it a i) where
 mem:=by simp
 obj:=fun i h st b hb=>by
  have e:b=it:=by simpa using hb
  subst e
  obtain⟨o,e,c,d⟩:=st
  exact⟨o,e,fun v z=>by rw[d] at z;cases z⟩
 keep:=fun i h h' st k=>st.at fun o e=>k it (by simp) o e
 item:=by
  intro X hP hw hK hc i pins s σ H E I hf st hg
  subst hP hw hK
  obtain⟨xs,x,hq,hx⟩:=hg
  obtain⟨its,rv,p,hz⟩:=I.list hq
  obtain⟨u,hu,ru⟩:=rv.get hx
  obtain⟨f0,f1,f2,f3,f4,f5⟩:=hf it (by simp)
  refine wpAny_pyNext_list_item st p.isList (x:=u) (by simpa using hu) fun h' st' sb=>?_
  have I1:Inv X pins σ H { s with heap:=h' }:=I.turned (t':=s.toks) (fun b o hb e=>(sb.2 b hb).trans e) f0 f1 f3 f4 f5
  obtain⟨o,e,c,d⟩:=id st'
  exact⟨u,rfl,JM (s:={ s with heap:=h' }) e c d (by decide) ⟨x,H,I1,ru,⟨rfl,fun ys hy=>by rw[I.list_inj hy hq];exact hx⟩,st',fun b hb=>(hf b hb).1⟩⟩
 done:=by
  intro X hP hw hK hc i pins s σ H E I hf st hg
  subst hP hw hK
  obtain⟨xs,hq,hx⟩:=hg
  obtain⟨its,rv,p,hz⟩:=I.list hq
  obtain⟨f0,f1,f2,f3,f4,f5⟩:=hf it (by simp)
  have hl:=rv.length
  exact wpAny_pyNext_list_end (I.ok.hd hc) st p.isList (by simp;omega) fun h' eb=>⟨rfl,I.turned (t':=s.toks) (fun b o hb e=>eb b o hb e) f0 f1 f3 f4 f5⟩
 self:=fun _ _ _ _ _ st h=>wpAny_pyIter_listiter st h
theorem Lv {P:Program} {w:World} {K:PySem.W.Frag} {tg:Expr} (a it:Addr):Jw P w K tg (U9 K a) [it] it (fun i h=>h.IsTupleIter it a i) where
 mem:=by simp
 obj:=fun i h st b hb=>by
  have e:b=it:=by simpa using hb
  subst e
  obtain⟨o,e,c,d⟩:=st
  exact⟨o,e,fun v z=>by rw[d] at z;cases z⟩
 keep:=fun i h h' st k=>st.at fun o e=>k it (by simp) o e
 item:=by
  intro X hP hw hK hc i pins s σ H E I hf st hg
  subst hP hw hK
  obtain⟨xs,x,hq,hx⟩:=hg
  obtain⟨its,rv,p,hz⟩:=I.tuple hq
  obtain⟨u,hu,ru⟩:=rv.get hx
  obtain⟨f0,f1,f2,f3,f4,f5⟩:=hf it (by simp)
  refine wpAny_pyNext_tuple_item st (show s.heap.IsTuple a its.toArray from p) (x:=u) (by simpa using hu) fun h' st' sb=>?_
  have I1:Inv X pins σ H { s with heap:=h' }:=I.turned (t':=s.toks) (fun b o hb e=>(sb.2 b hb).trans e) f0 f1 f3 f4 f5
  obtain⟨o,e,c,d⟩:=id st'
  exact⟨u,rfl,JM (s:={ s with heap:=h' }) e c d (by decide) ⟨x,H,I1,ru,⟨rfl,fun ys hy=>by rw[I.tuple_inj hy hq];exact hx⟩,st',fun b hb=>(hf b hb).1⟩⟩
 done:=by
  intro X hP hw hK hc i pins s σ H E I hf st hg
  subst hP hw hK
  obtain⟨xs,hq,hx⟩:=hg
  obtain⟨its,rv,p,hz⟩:=I.tuple hq
  obtain⟨f0,f1,f2,f3,f4,f5⟩:=hf it (by simp)
  have hl:=rv.length
  exact wpAny_pyNext_tuple_end (I.ok.hd hc) st (show s.heap.IsTuple a its.toArray from p) (by simp;omega) fun h' eb=>⟨rfl,I.turned (t':=s.toks) (fun b o hb e=>eb b o hb e) f0 f1 f3 f4 f5⟩
 self:=fun _ _ _ _ _ st h=>wpAny_pyIter_tupleiter st h
theorem Et {P:Program} {w:World} {K:PySem.W.Frag} {tg:Expr} (it:Addr) (lo:Int) (n:Nat):Jw P w K tg (Tb lo n) [it] it (fun i h=>IsRangeIter h it (lo+(i:Nat)*1) ((n:Int)-(i:Nat)) 1) where
 mem:=by simp
 obj:=fun i h st b hb=>by
  have e:b=it:=by simpa using hb
  subst e
  exact⟨_,st,fun v z=>by
   have z':Data.fields _=Data.cell v:=z
   cases z'⟩
 keep:=fun i h h' st k=>k it (by simp) _ st
 item:=by
  intro X hP hw hK hc i pins s σ H E I hf st hg
  subst hP hw hK
  obtain⟨f0,f1,f2,f3,f4,f5⟩:=hf it (by simp)
  have W:=Walks.range (prog:=X.prog) (w:=X.w) (I.ok.hd hc) it lo 1 n
  refine W.item i s _ _ hg st fun v h' tk hv st' kk=>?_
  obtain⟨t,rfl⟩:=hv
  have I1:Inv X pins σ H { s with heap:=h',toks:=tk }:=I.turned (fun b o hb e=>kk b o (by simpa using hb) e) f0 f1 f3 f4 f5
  refine⟨_,rfl,JM (s:={ s with heap:=h',toks:=tk }) (n:="range_iterator") st' rfl rfl (by decide) ⟨.int (lo+i),H,I1,⟨t,?_⟩,⟨rfl,rfl⟩,st',fun b hb=>(hf b hb).1⟩⟩
  rw[Int.mul_one]
 done:=by
  intro X hP hw hK hc i pins s σ H E I hf st hg
  subst hP hw hK
  obtain⟨f0,f1,f2,f3,f4,f5⟩:=hf it (by simp)
  exact wpAny_pyNext_range_end (I.ok.hd hc) st (by have:n≤i:=hg;omega) fun h' eb=>⟨rfl,I.turned (t':=s.toks) (fun b o hb e=>eb b o hb e) f0 f1 f3 f4 f5⟩
 self:=fun _ _ _ _ _ st h=>wpAny_pyIter_rangeiter st h
end L2
namespace L2
open PySem PySem.Spec PyProof.Rows
section
variable {X:Cx} {tg:Expr}
def Vw (K:PySem.W.Frag) (tl:TE):TI:=fun σ H R=>tl σ H fun x H1=>∃a,x= .ref a∧(∃xs,SqL K H1 a xs)∧R (UF K a) H1
def Wv (K:PySem.W.Frag) (tl:TE):TI:=fun σ H R=>tl σ H fun x H1=>∃a,x= .ref a∧(∃xs,SqT K H1 a xs)∧R (U9 K a) H1
theorem Be {l:Expr} {tl:TE} (hl:PE X l tl):PI X tg l (Vw X.K tl):=by
 intro pins s σ H R I h
 refine AM (hl pins s σ H _ I h) fun v s1 ⟨x,H1,I1,r1,q1⟩=>?_
 obtain⟨a,e,⟨xs,hq⟩,q⟩:=q1
 subst e
 cases r1
 obtain⟨its,rv,p,hz⟩:=I1.list hq
 refine wpAny_pyIter_list p.isList ?_
 refine⟨s1.heap.objs.size,[s1.heap.objs.size],_,_,H1,rfl,I1.kept (t':=s1.toks) fun b o e=>Heap.get?_push_of_some _ e,M9 a _,⟨_,Heap.get?_push_size _ rfl,rfl,rfl⟩,fun b hb=>?_,q⟩
 have e:b=s1.heap.objs.size:=by simpa using hb
 subst e
 exact I1.fpOk (Nat.le_refl _) (I1.hok.fresh (Nat.le_refl _))
theorem TW {l:Expr} {tl:TE} (hl:PE X l tl):PI X tg l (Wv X.K tl):=by
 intro pins s σ H R I h
 refine AM (hl pins s σ H _ I h) fun v s1 ⟨x,H1,I1,r1,q1⟩=>?_
 obtain⟨a,e,⟨xs,hq⟩,q⟩:=q1
 subst e
 cases r1
 obtain⟨its,rv,p,hz⟩:=I1.tuple hq
 refine wpAny_pyIter_tuple (show s1.heap.IsTuple a its.toArray from p) ?_
 refine⟨s1.heap.objs.size,[s1.heap.objs.size],_,_,H1,rfl,I1.kept (t':=s1.toks) fun b o e=>Heap.get?_push_of_some _ e,Lv a _,⟨_,Heap.get?_push_size _ rfl,rfl,rfl⟩,fun b hb=>?_,q⟩
 have e:b=s1.heap.objs.size:=by simpa using hb
 subst e
 exact I1.fpOk (Nat.le_refl _) (I1.hok.fresh (Nat.le_refl _))
theorem PM {pins:List (Addr×Obj)} {σ:St} {H:Hp} {s:Shared} {R:It→Hp→Prop} {E:Value→Shared→Prop} {lo hi:Int} {t u v:Tok} {tk:Nat} (I:Inv X pins σ H s) (h1 : -(2^62)≤lo) (h2:lo<2^62) (h3 : -(2^62)≤hi) (h4:hi<2^62)
  (q:R (Tb lo (hi-lo).toNat) H):wpAny (model X.prog X.w) X.A (pyIter (.ref s.heap.objs.size)) (Wq X pins σ tg R) E { s with heap:=s.heap.push { cls:=.type "range",data:=.fields #[.int lo t,.int hi u,.int 1 v] },toks:=tk }:=by
 refine wpAny_pyIter_range (IsRange.new ..) (small_one h1 h2 h3 h4) ?_
 have I1:Inv X pins σ H { s with heap:=s.heap.push { cls:=.type "range",data:=.fields #[.int lo t,.int hi u,.int 1 v] },toks:=tk }:=I.kept fun b o e=>Heap.get?_push_of_some _ e
 refine⟨(s.heap.push { cls:=.type "range",data:=.fields #[.int lo t,.int hi u,.int 1 v] }).objs.size,[(s.heap.push { cls:=.type "range",data:=.fields #[.int lo t,.int hi u,.int 1 v] }).objs.size],_,_,H,rfl,
  I1.kept (t':=tk) fun b o e=>Heap.get?_push_of_some _ e,Et _ lo (hi-lo).toNat,?_,fun b hb=>?_,q⟩
 ·have e1:lo+((0:Nat):Int)*1=lo:=by simp
  have e2:(((hi-lo).toNat:Nat):Int)-((0:Nat):Int)=Builtin.Range.rangeSize lo hi 1:=by rw[rangeSize_one];split<;>omega
  show IsRangeIter _ _ (lo+((0:Nat):Int)*1) ((((hi-lo).toNat:Nat):Int)-((0:Nat):Int)) 1
  rw[e1,e2]
  exact Heap.get?_push_size _ rfl
 ·have e:b=(s.heap.push { cls:=.type "range",data:=.fields #[.int lo t,.int hi u,.int 1 v] }).objs.size:=by simpa using hb
  subst e
  exact I1.fpOk (Nat.le_refl _) (I1.hok.fresh (Nat.le_refl _))
def SU (ta:TA):TI:=fun σ H R=>ta σ H fun vs H1=>∃j:Int,vs=[.int j]∧-(2^62)≤j∧j<2^62∧R (Tb 0 j.toNat) H1
theorem DO {a:Expr} {ta:TA} {p pos:Pos} (hg:Gl X "range") (hm:X.mg "range"=none) (ha:PA X [a] ta) (hs:starEach [a] X.env=[(false,eval a X.env)]:=by rfl):PI X tg (.Call (.Name "range" p) [a] [] pos) (SU ta):=by
 intro pins s σ H R I h
 refine Call_ (Es I hg hm boot_range (PyProof.Rows.callWith_type1 (AM (ha pos pins s σ H _ I h) fun us s1 ⟨vs,H1,I1,r1,q1⟩=>?_) hs rfl))
 obtain⟨j,e,q1,q2,q⟩:=q1
 subst e
 cases r1 with
 | cons r rr=>
  cases rr
  obtain⟨t,rfl⟩:=r
  exact call_range_1 (PM I1 (by omega) (by omega) q1 q2 (by simpa using q))
def LG (wi:TI) (g:TG) (tb:TS):TS:=fun D σ H=>wi σ H fun J H1=>∃W:Nat→Nat→St→Hp→Prop,(∃m,W 0 m σ H1)∧∀i m σ H,W i m σ H→
 (J.stop i H∧D.nx σ H)∨(J.go i H∧∃N:St→Hp→Prop,(∀σ' H',N σ' H'→∃m',m'<m∧W (i+1) m' σ' H')∧∀x H',J.yld i H x H'→g x σ H' fun σ2 H2=>tb { D with nx:=N,ct:=N,bk:=D.nx } σ2 H2)
def E9 (fp:List Addr) (h:Heap):List (Addr×Obj):=fp.filterMap fun b=>(h.get? b).map fun o=>(b,o)
theorem BL {fp:List Addr} {h:Heap} {b:Addr} {o:Obj} (hb:b∈fp) (e:h.get? b=some o):(b,o)∈E9 fp h:=List.mem_filterMap.mpr ⟨b,hb,by rw[e];rfl⟩
theorem Oh {fp:List Addr} {h:Heap} {p:Addr×Obj} (hp:p∈E9 fp h):p.1∈fp∧h.get? p.1=some p.2:=by
 obtain⟨b,hb,e⟩:=List.mem_filterMap.mp hp
 cases q:h.get? b with
 | none=>rw[q] at e;cases e
 | some o=>
  rw[q] at e
  have e':(b,o)=p:=Option.some.inj e
  subst e'
  exact⟨hb,q⟩
theorem Inv.pinned {pins:List (Addr×Obj)} {σ:St} {H:Hp} {s:Shared} {fp:List Addr} (I:Inv X pins σ H s) (hf:∀b∈fp,BO X pins H b) (ho:∀b∈fp,∃o,s.heap.get? b=some o∧∀v,o.data≠.cell v):Inv X (pins++E9 fp s.heap) σ H s:=
 I.pins_of fun p hp=>(List.mem_append.mp hp).elim (fun z=>I.pin p (List.mem_append_right _ z)) fun z=>by
  obtain⟨hb,e⟩:=Oh z
  obtain⟨f0,f1,f2,_⟩:=hf p.1 hb
  obtain⟨o,e',d⟩:=ho p.1 hb
  rw[e] at e';cases e'
  exact⟨e,f0,f1,f2,d⟩
theorem Inv.unpinned {pins pl:List (Addr×Obj)} {σ:St} {H:Hp} {s:Shared} (I:Inv X (pins++pl) σ H s):Inv X pins σ H s:=I.pins_of fun p hp=>I.pin p (List.mem_append_right _ (List.mem_append_left _ hp))
theorem Bv {iter:Expr} {body:List Stmt} {wi:TI} {g:TG} {tb:TS} {pos:Pos} (hp:PassesOwn (model X.prog X.w) X.A X.env X.xe) (hc:X.calm=true) (hi:PI X tg iter wi) (hg:PG X tg g) (hb:PSs X body tb)
  (hs:∀x,foldedSetIterable iter X.env x=pure x:=by intro _;rfl):PS X (.For tg iter body [] pos) (LG wi g tb):=by
 intro pins s σ H D I h
 refine wpAny_For (AM (hi pins s σ H _ I h) fun v s1 h1=>AM h1 fun itv s2 h2=>?_) hs
 obtain⟨it,fp,tn,J,H2,e,I2,T,st2,f2,W,⟨m0,w0⟩,turn⟩:=h2
 subst e
 have stat:∀{H':Hp},(∀b∈fp,H' b=none)→∀b∈fp,BO X pins H' b:=fun hn b hb=>⟨hn b hb,(f2 b hb).2⟩
 refine codeAny_forLoop_any (fun n s'=>∃i σ' H',Inv X pins σ' H' s'∧tn i s'.heap∧(∀b∈fp,H' b=none)∧W i n σ' H') ?_ m0 ⟨0,σ,H2,I2,st2,fun b hb=>(f2 b hb).1,w0⟩
 rintro n s3 ⟨i,σ3,H3,I3,st3,fr3,w3⟩
 rcases turn i n σ3 H3 w3 with⟨stop,qn⟩|⟨go,N,hN,step⟩
 ·refine wpAny_passesOwn hp (AM (T.done X rfl rfl rfl hc i pins s3 σ3 H3 X.xe I3 (stat fr3) st3 stop) fun r s4 ⟨hr,I4⟩=>?_)
  subst hr
  exact wpAny_execs_nil ⟨σ3,H3,I4,qn⟩
 ·refine wpAny_passesOwn hp (AM (T.item X rfl rfl rfl hc i pins s3 σ3 H3 X.xe I3 (stat fr3) st3 go) fun r s4 ⟨u,hr,h4⟩=>?_)
  subst hr
  refine wpAny_passesOwn hp (AM h4 fun _ s5 ⟨x,H5,I5,r5,y5,st5,fr5⟩=>?_)
  have I5':=I5.pinned (stat fr5) (T.obj _ _ st5)
  refine wpAny_passesOwn hp (AM (hg _ s5 σ3 H5 x u _ I5' r5 (step x H5 y5)) fun _ s6 ⟨σ6,H6,I6,q6⟩=>?_)
  refine wpAny_passesOwn hp (AM (hb _ s6 σ6 H6 _ I6 q6) fun f s7 q7=>?_)
  have again:∀{σ7:St} {H7:Hp},Inv X (pins++E9 fp s5.heap) σ7 H7 s7→N σ7 H7→∃m,m<n∧∃i σ' H',Inv X pins σ' H' s7∧tn i s7.heap∧(∀b∈fp,H' b=none)∧W i m σ' H':=fun {σ7 H7} I7 n7=>by
   obtain⟨m',hm,w7⟩:=hN σ7 H7 n7
   refine⟨m',hm,i+1,σ7,H7,I7.unpinned,T.keep _ _ _ st5 fun b hb o e=>(I7.pin (b,o) (List.mem_append_right _ (List.mem_append_right _ (BL hb e)))).1,fun b hb=>?_,w7⟩
   obtain⟨o,e,d⟩:=T.obj _ _ st5 b hb
   exact (I7.pin (b,o) (List.mem_append_right _ (List.mem_append_right _ (BL hb e)))).2.1
  cases f with
  | next=>obtain⟨σ7,H7,I7,n7⟩:=q7;exact again I7 n7
  | cont=>obtain⟨σ7,H7,I7,n7⟩:=q7;exact again I7 n7
  | brk=>obtain⟨σ7,H7,I7,q7⟩:=q7;exact⟨σ7,H7,I7.unpinned,q7⟩
  | ret v=>obtain⟨x7,σ7,H7,I7,r7,q7⟩:=q7;exact⟨x7,σ7,H7,I7.unpinned,r7,q7⟩
end
theorem A7 {K:PySem.W.Frag} {a:Addr} {xs:List V} {g:TG} {tb:TS} {D:Ends} {σ:St} {H:Hp} (Pv:Nat→St→Hp→Prop) (h0:Pv 0 σ H) (hl:∀i σ H,i≤xs.length→Pv i σ H→SqL K H a xs)
  (hs:∀i x σ H,xs[i]? = some x→Pv i σ H→g x σ H fun σ2 H2=>tb { D with nx:=Pv (i+1),ct:=Pv (i+1),bk:=D.nx } σ2 H2) (hd:∀σ H,Pv xs.length σ H→D.nx σ H) :
  ∃W:Nat→Nat→St→Hp→Prop,(∃m,W 0 m σ H)∧∀i m σ H,W i m σ H→
   ((UF K a).stop i H∧D.nx σ H)∨((UF K a).go i H∧∃N:St→Hp→Prop,(∀σ' H',N σ' H'→∃m',m'<m∧W (i+1) m' σ' H')∧∀x H',(UF K a).yld i H x H'→g x σ H' fun σ2 H2=>tb { D with nx:=N,ct:=N,bk:=D.nx } σ2 H2):=by
 refine⟨fun i m σ H=>m=xs.length-i∧i≤xs.length∧Pv i σ H,⟨xs.length,by simp,Nat.zero_le _,h0⟩,?_⟩
 rintro i m σ H ⟨rfl,hi,p⟩
 have q:=hl i σ H hi p
 by_cases hlt:i<xs.length
 ·refine .inr ⟨⟨xs,xs[i],q,by simp[hlt]⟩,Pv (i+1),fun σ' H' p'=>⟨xs.length-(i+1),by omega,rfl,hlt,p'⟩,fun x H' y=>?_⟩
  obtain⟨e,y⟩:=y
  subst e
  exact hs i x σ _ (y xs q) p
 ·have e:i=xs.length:=by omega
  subst e
  exact .inl ⟨⟨xs,q,Nat.le_refl _⟩,hd σ H p⟩
theorem SJ {K:PySem.W.Frag} {a:Addr} {xs:List V} {g:TG} {tb:TS} {D:Ends} {σ:St} {H:Hp} (Pv:Nat→St→Hp→Prop) (h0:Pv 0 σ H) (hl:∀i σ H,i≤xs.length→Pv i σ H→SqT K H a xs)
  (hs:∀i x σ H,xs[i]? = some x→Pv i σ H→g x σ H fun σ2 H2=>tb { D with nx:=Pv (i+1),ct:=Pv (i+1),bk:=D.nx } σ2 H2) (hd:∀σ H,Pv xs.length σ H→D.nx σ H) :
  ∃W:Nat→Nat→St→Hp→Prop,(∃m,W 0 m σ H)∧∀i m σ H,W i m σ H→
   ((U9 K a).stop i H∧D.nx σ H)∨((U9 K a).go i H∧∃N:St→Hp→Prop,(∀σ' H',N σ' H'→∃m',m'<m∧W (i+1) m' σ' H')∧∀x H',(U9 K a).yld i H x H'→g x σ H' fun σ2 H2=>tb { D with nx:=N,ct:=N,bk:=D.nx } σ2 H2):=by
 refine⟨fun i m σ H=>m=xs.length-i∧i≤xs.length∧Pv i σ H,⟨xs.length,by simp,Nat.zero_le _,h0⟩,?_⟩
 rintro i m σ H ⟨rfl,hi,p⟩
 have q:=hl i σ H hi p
 by_cases hlt:i<xs.length
 ·refine .inr ⟨⟨xs,xs[i],q,by simp[hlt]⟩,Pv (i+1),fun σ' H' p'=>⟨xs.length-(i+1),by omega,rfl,hlt,p'⟩,fun x H' y=>?_⟩
  obtain⟨e,y⟩:=y
  subst e
  exact hs i x σ _ (y xs q) p
 ·have e:i=xs.length:=by omega
  subst e
  exact .inl ⟨⟨xs,q,Nat.le_refl _⟩,hd σ H p⟩
theorem Ct {lo:Int} {n:Nat} {g:TG} {tb:TS} {D:Ends} {σ:St} {H:Hp} (Pv:Nat→St→Hp→Prop) (h0:Pv 0 σ H)
  (hs:∀i σ H,i<n→Pv i σ H→g (.int (lo+i)) σ H fun σ2 H2=>tb { D with nx:=Pv (i+1),ct:=Pv (i+1),bk:=D.nx } σ2 H2) (hd:∀σ H,Pv n σ H→D.nx σ H) :
  ∃W:Nat→Nat→St→Hp→Prop,(∃m,W 0 m σ H)∧∀i m σ H,W i m σ H→
   ((Tb lo n).stop i H∧D.nx σ H)∨((Tb lo n).go i H∧∃N:St→Hp→Prop,(∀σ' H',N σ' H'→∃m',m'<m∧W (i+1) m' σ' H')∧∀x H',(Tb lo n).yld i H x H'→g x σ H' fun σ2 H2=>tb { D with nx:=N,ct:=N,bk:=D.nx } σ2 H2):=by
 refine⟨fun i m σ H=>m=n-i∧i≤n∧Pv i σ H,⟨n,by simp,Nat.zero_le _,h0⟩,?_⟩
 rintro i m σ H ⟨rfl,hi,p⟩
 by_cases hlt:i<n
 ·refine .inr ⟨hlt,Pv (i+1),fun σ' H' p'=>⟨n-(i+1),by omega,rfl,hlt,p'⟩,fun x H' y=>?_⟩
  obtain⟨e,y⟩:=y
  subst e y
  exact hs i σ _ hlt p
 ·have e:i=n:=by omega
  subst e
  exact .inl ⟨Nat.le_refl _,hd σ H p⟩
end L2
namespace L2
open PySem PySem.Spec PyProof.Rows
abbrev R2:=V→V→Hp→VK→Prop
def Dw (X:Cx) (f:Value→Value→Sem Value) (r:R2):Prop:=
 ∀(pins:List (Addr×Obj)) (s:Shared) (σ:St) (H:Hp) (x y:V) (v u:Value) (Q:VK),Inv X pins σ H s→RelV x v→RelV y u→r x y H Q→
  wpAny (model X.prog X.w) X.A (f v u) (EP X pins σ Q) X.xe s
def VV (X:Cx) (f:Value→Sem Value) (r:V→Hp→VK→Prop):Prop:=
 ∀(pins:List (Addr×Obj)) (s:Shared) (σ:St) (H:Hp) (x:V) (v:Value) (Q:VK),Inv X pins σ H s→RelV x v→r x H Q→
  wpAny (model X.prog X.w) X.A (f v) (EP X pins σ Q) X.xe s
def BC (X:Cx) (f:Value) (r:List V→Hp→VK→Prop):Prop:=
 ∀(pins:List (Addr×Obj)) (s:Shared) (σ:St) (H:Hp) (xs:List V) (us:List Value) (Q:VK),Inv X pins σ H s→Vals xs us→r xs H Q→
  wpAny (model X.prog X.w) X.A (call f us) (EP X pins σ Q) X.xe s
def V7 (X:Cx) (r:V→Hp→(Bool→Hp→Prop)→Prop):Prop:=
 ∀(pins:List (Addr×Obj)) (s:Shared) (σ:St) (H:Hp) (x:V) (v:Value) (Q:Bool→Hp→Prop),Inv X pins σ H s→RelV x v→r x H Q→
  wpAny (model X.prog X.w) X.A (truthy v) (TP X pins σ Q) X.xe s
def VO (r:R2) (ta tb:TE):TE:=fun σ H Q=>ta σ H fun x H1=>tb σ H1 fun y H2=>r x y H2 Q
def WX (r:V→Hp→VK→Prop) (ta:TE):TE:=fun σ H Q=>ta σ H fun x H1=>r x H1 Q
def rI (C:Int→Int→Prop) (g:Int→Int→V):R2:=fun x y H Q=>∃i j,x= .int i∧y= .int j∧C i j∧Q (g i j) H
def Ry (g:Int→Int→V):R2:=fun x y H Q=>∃i j,x= .int i∧y= .int j∧Q (g i j) H
def rU (g:Int→V):V→Hp→VK→Prop:=fun x H Q=>∃i,x= .int i∧Q (g i) H
section
variable {X:Cx} {a b c:Expr} {ta tb tc:TE} {pos:Pos}
theorem Tz (ha:PE X a ta) (hb:PE X b tb) {pins:List (Addr×Obj)} {s:Shared} {σ:St} {H:Hp} {R:V→V→Hp→Prop} (I:Inv X pins σ H s)
  (h:ta σ H fun x H1=>tb σ H1 fun y H2=>R x y H2) {Q:Value→Shared→Prop} {f:Value→Value→Sem Value}
  (hf:∀v u s2 x y H2,Inv X pins σ H2 s2→RelV x v→RelV y u→R x y H2→wpAny (model X.prog X.w) X.A (f v u) Q X.xe s2) :
  wpAny (model X.prog X.w) X.A (eval a X.env) (fun v s₁=>wpAny (model X.prog X.w) X.A (eval b X.env) (fun u s₂=>wpAny (model X.prog X.w) X.A (f v u) Q X.xe s₂) X.xe s₁) X.xe s:=by
 refine AM (ha pins s σ H _ I h) fun v s1 ⟨x,H1,I1,r1,q1⟩=>?_
 refine AM (hb pins s1 σ H1 _ I1 q1) fun u s2 ⟨y,H2,I2,r2,q2⟩=>?_
 exact hf v u s2 x y H2 I2 r1 r2 q2
theorem AK {op:Operator} {r:R2} (ho:Dw X (binaryOp op) r) (ha:PE X a ta) (hb:PE X b tb):PE X (.BinOp a op b pos) (VO r ta tb):=by
 intro pins s σ H Q I h
 exact wpAny_BinOp (Tz ha hb I h fun v u s2 x y H2 I2 rx ry q=>ho pins s2 σ H2 x y v u Q I2 rx ry q)
theorem Mq {op:UnaryOp} {r:V→Hp→VK→Prop} (ho:VV X (unaryOp op) r) (ha:PE X a ta):PE X (.UnaryOp op a pos) (WX r ta):=by
 intro pins s σ H Q I h
 exact UnaryOp_ (AM (ha pins s σ H _ I h) fun v s1 ⟨x,H1,I1,r1,q1⟩=>ho pins s1 σ H1 x v Q I1 r1 q1)
theorem Ud {f:Value→Value→Sem Value} {C:Int→Int→Prop} {g:Int→Int→Int}
  (rule:∀(i j:Int) (t u:Tok) (s:Shared) (Q:Value→Shared→Prop) (E:Value→Shared→Prop),C i j→Q (.int (g i j) s.toks) { s with toks:=s.toks+1 }→wpAny (model X.prog X.w) X.A (f (.int i t) (.int j u)) Q E s) :
  Dw X f (rI C fun i j=>.int (g i j)):=by
 intro pins s σ H x y v u Q I rx ry h
 obtain⟨i,j,rfl,rfl,hc,q⟩:=h
 obtain⟨t,rfl⟩:=rx
 obtain⟨t',rfl⟩:=ry
 exact rule i j t t' s _ _ hc ⟨.int (g i j),H,I.tok _,⟨_,rfl⟩,q⟩
theorem TR {f:Value→Value→Sem Value} {g:Int→Int→Int}
  (rule:∀(i j:Int) (t u:Tok) (s:Shared) (Q:Value→Shared→Prop) (E:Value→Shared→Prop),Q (.int (g i j) s.toks) { s with toks:=s.toks+1 }→wpAny (model X.prog X.w) X.A (f (.int i t) (.int j u)) Q E s) :
  Dw X f (Ry fun i j=>.int (g i j)):=by
 intro pins s σ H x y v u Q I rx ry h
 obtain⟨i,j,rfl,rfl,q⟩:=h
 obtain⟨t,rfl⟩:=rx
 obtain⟨t',rfl⟩:=ry
 exact rule i j t t' s _ _ ⟨.int (g i j),H,I.tok _,⟨_,rfl⟩,q⟩
theorem R8 {f:Value→Value→Sem Value} {g:Int→Int→Bool}
  (rule:∀(i j:Int) (t u:Tok) (s:Shared) (Q:Value→Shared→Prop) (E:Value→Shared→Prop),Q (.bool (g i j)) s→wpAny (model X.prog X.w) X.A (f (.int i t) (.int j u)) Q E s) :
  Dw X f (Ry fun i j=>.bl (g i j)):=by
 intro pins s σ H x y v u Q I rx ry h
 obtain⟨i,j,rfl,rfl,q⟩:=h
 obtain⟨t,rfl⟩:=rx
 obtain⟨t',rfl⟩:=ry
 exact rule i j t t' s _ _ ⟨.bl (g i j),H,I,rfl,q⟩
def VT (i j:Int):Prop:=0<j∧j<1073741824
def VC (i j:Int):Prop:=0≤j∧j≤1000000∧i.natAbs<2^64
def CMul (i j:Int):Prop:=(-(2^64)<i∧i<2^64)∨(-(2^64)<j∧j<2^64)
theorem CMul.ok {i j:Int} (h:CMul i j):IntMulOk i j:=by
 rcases h with⟨h1,h2⟩|⟨h1,h2⟩
 ·exact .of_left (intBits_le_64 h1 h2)
 ·exact .of_right (intBits_le_64 h1 h2)
theorem K7 (k:Nat):(0:Int)≤2^k:=by
 rw[two_pow_cast]
 exact Int.natCast_nonneg _
theorem Ep:Dw X (binaryOp .Add) (Ry fun i j=>.int (i+j)):=TR fun _ _ _ _ _ _ _ q=>add_int q
theorem TD:Dw X (binaryOp .Sub) (Ry fun i j=>.int (i-j)):=TR fun _ _ _ _ _ _ _ q=>sub_int q
theorem Gk:Dw X (binaryOp .Mult) (rI CMul fun i j=>.int (i*j)):=Ud fun _ _ _ _ _ _ _ hc q=>mul_int q hc.ok
theorem Ci:Dw X (binaryOp .FloorDiv) (rI VT fun i j=>.int (i / j)):=Ud fun i j _ _ _ _ _ hc q=>by
 have h1:(0:Int)<j:=hc.1
 have h2:j<1073741824:=hc.2
 exact floordiv_int (by omega) (by rw[Int.fdiv_eq_ediv_of_nonneg i (by omega)];exact q) (.inl (PyProof.noPylong_small (by omega)))
theorem BI:Dw X (binaryOp .Mod) (rI (fun _ j=>0<j) fun i j=>.int (i%j)):=Ud fun i j _ _ _ _ _ hc q=>by
 have h1:(0:Int)<j:=hc
 exact mod_int' (by omega) (by rw[Int.fmod_eq_emod_of_nonneg i (by omega)];exact q)
theorem LC:Dw X (binaryOp .Pow) (rI VC fun i j=>.int (i^j.toNat)):=Ud fun _ _ _ _ _ _ _ hc q=>pow_int_small hc.1 hc.2.1 hc.2.2 q
theorem Uw:Dw X (binaryOp .LShift) (rI VC fun i j=>.int (i*2^j.toNat)):=Ud fun _ _ _ _ _ _ _ hc q=>lshift_int_small hc.1 hc.2.1 hc.2.2 q
theorem UK:Dw X (binaryOp .RShift) (rI (fun _ j=>0≤j) fun i j=>.int (i / 2^j.toNat)):=Ud fun i j _ _ _ _ _ hc q=>
 rshift_int hc (by rw[Int.fdiv_eq_ediv_of_nonneg i (K7 _)];exact q)
theorem Tm:Dw X (binaryOp .BitAnd) (Ry fun i j=>.int (Builtin.bitAnd i j)):=TR fun _ _ _ _ _ _ _ q=>and_int q
theorem WU {f:Value→Sem Value} {g:Int→Int}
  (rule:∀(i:Int) (t:Tok) (s:Shared) (Q:Value→Shared→Prop) (E:Value→Shared→Prop),Q (.int (g i) s.toks) { s with toks:=s.toks+1 }→wpAny (model X.prog X.w) X.A (f (.int i t)) Q E s) :
  VV X f (rU fun i=>.int (g i)):=by
 intro pins s σ H x v Q I rx h
 obtain⟨i,rfl,q⟩:=h
 obtain⟨t,rfl⟩:=rx
 exact rule i t s _ _ ⟨.int (g i),H,I.tok _,⟨_,rfl⟩,q⟩
theorem Jc:VV X (unaryOp .USub) (rU fun i=>.int (-i)):=WU fun _ _ _ _ _ q=>neg_int q
end
def U4:V→V→Bool
 | .non,.non=>true | .non,.int _=>true | .int _,.non=>true | .non,.bl _=>true | .bl _,.non=>true | .non,.str _=>true | .str _,.non=>true
 | .int _,.int _=>true | .bl _,.bl _=>true | .str _,.str _=>true | .byt _,.byt _=>true
 | .int _,.str _=>true | .str _,.int _=>true | .bl _,.str _=>true | .str _,.bl _=>true
 | _,_=>false
def WQ:R2:=fun x y H Q=>U4 x y=true∧Q (.bl (decide (x=y))) H
def WP:R2:=fun x y H Q=>U4 x y=true∧Q (.bl (!decide (x=y))) H
theorem Mh {i j:Int}:decide (V.int i=V.int j)=(i == j):=by
 rw[Bool.eq_iff_iff]
 simp
theorem OI {i j:Bool}:decide (V.bl i=V.bl j)=(i == j):=by
 rw[Bool.eq_iff_iff]
 simp
theorem MI {i j:Str}:decide (V.str i=V.str j)=(i == j):=by
 rw[Bool.eq_iff_iff]
 simp
theorem Ma {i j:Array UInt8}:decide (V.byt i=V.byt j)=(i.toList == j.toList):=by
 rw[Bool.eq_iff_iff]
 cases i
 cases j
 simp
section
variable {X:Cx} {a b c:Expr} {ta tb tc:TE} {pos:Pos}
theorem AS {pins:List (Addr×Obj)} {σ:St} {H:Hp} {s:Shared} {Q:VK} {k k':Bool} (I:Inv X pins σ H s) (q:Q (.bl k) H) (e:k=k'):EP X pins σ Q (.bool k') s:=by
 subst e
 exact⟨.bl k,H,I,rfl,q⟩
theorem AX:Dw X (compareOp .Eq) WQ:=by
 intro pins s σ H x y v u Q I rx ry h
 obtain⟨hs,q⟩:=h
 cases x with
 | non=>
  cases rx
  cases y with
  | non=>cases ry;exact PySem.EqNone.eq_none_none (AS I q (by simp))
  | bl j=>cases ry;exact PySem.EqNone.eq_none_bool (AS I q (by simp))
  | int j=>obtain⟨t',rfl⟩:=ry;exact PySem.EqNone.eq_none_int (AS I q (by simp))
  | str j=>obtain⟨t',rfl⟩:=ry;exact PySem.EqNone.eq_none_str (AS I q (by simp))
  | _=>exact absurd (show false=true from hs) Bool.false_ne_true
 | bl i=>
  cases rx
  cases y with
  | non=>cases ry;exact PySem.EqNone.eq_bool_none (AS I q (by simp))
  | bl j=>cases ry;exact eq_bool (AS I q OI)
  | str j=>obtain⟨t',rfl⟩:=ry;exact PySem.EqMixed.eq_bool_str (AS I q (by simp))
  | _=>exact absurd (show false=true from hs) Bool.false_ne_true
 | int i=>
  obtain⟨t,rfl⟩:=rx
  cases y with
  | non=>cases ry;exact PySem.EqNone.eq_int_none (AS I q (by simp))
  | int j=>obtain⟨t',rfl⟩:=ry;exact eq_int (AS I q Mh)
  | str j=>obtain⟨t',rfl⟩:=ry;exact PySem.EqMixed.eq_int_str (AS I q (by simp))
  | _=>exact absurd (show false=true from hs) Bool.false_ne_true
 | str i=>
  obtain⟨t,rfl⟩:=rx
  cases y with
  | non=>cases ry;exact PySem.EqNone.eq_str_none (AS I q (by simp))
  | bl j=>cases ry;exact PySem.EqMixed.eq_str_bool (AS I q (by simp))
  | int j=>obtain⟨t',rfl⟩:=ry;exact PySem.EqMixed.eq_str_int (AS I q (by simp))
  | str j=>obtain⟨t',rfl⟩:=ry;exact eq_str (AS I q MI)
  | _=>exact absurd (show false=true from hs) Bool.false_ne_true
 | byt i=>
  obtain⟨t,rfl⟩:=rx
  cases y with
  | byt j=>obtain⟨t',rfl⟩:=ry;exact PySem.W.eq_bytes (AS I q Ma)
  | _=>exact absurd (show false=true from hs) Bool.false_ne_true
 | _=>cases y<;>exact absurd (show false=true from hs) Bool.false_ne_true
theorem En:Dw X (compareOp .NotEq) WP:=by
 intro pins s σ H x y v u Q I rx ry h
 obtain⟨hs,q⟩:=h
 cases x with
 | non=>
  cases rx
  cases y with
  | non=>cases ry;exact PySem.EqNone.ne_none_none (AS I q (by simp))
  | bl j=>cases ry;exact PySem.EqNone.ne_none_bool (AS I q (by simp))
  | int j=>obtain⟨t',rfl⟩:=ry;exact PySem.EqNone.ne_none_int (AS I q (by simp))
  | str j=>obtain⟨t',rfl⟩:=ry;exact PySem.EqNone.ne_none_str (AS I q (by simp))
  | _=>exact absurd (show false=true from hs) Bool.false_ne_true
 | bl i=>
  cases rx
  cases y with
  | non=>cases ry;exact PySem.EqNone.ne_bool_none (AS I q (by simp))
  | bl j=>cases ry;exact ne_bool (AS I q (congrArg not OI))
  | str j=>obtain⟨t',rfl⟩:=ry;exact PySem.EqMixed.ne_bool_str (AS I q (by simp))
  | _=>exact absurd (show false=true from hs) Bool.false_ne_true
 | int i=>
  obtain⟨t,rfl⟩:=rx
  cases y with
  | non=>cases ry;exact PySem.EqNone.ne_int_none (AS I q (by simp))
  | int j=>obtain⟨t',rfl⟩:=ry;exact ne_int (AS I q (congrArg not Mh))
  | str j=>obtain⟨t',rfl⟩:=ry;exact PySem.EqMixed.ne_int_str (AS I q (by simp))
  | _=>exact absurd (show false=true from hs) Bool.false_ne_true
 | str i=>
  obtain⟨t,rfl⟩:=rx
  cases y with
  | non=>cases ry;exact PySem.EqNone.ne_str_none (AS I q (by simp))
  | bl j=>cases ry;exact PySem.EqMixed.ne_str_bool (AS I q (by simp))
  | int j=>obtain⟨t',rfl⟩:=ry;exact PySem.EqMixed.ne_str_int (AS I q (by simp))
  | str j=>obtain⟨t',rfl⟩:=ry;exact ne_str (AS I q (congrArg not MI))
  | _=>exact absurd (show false=true from hs) Bool.false_ne_true
 | byt i=>
  obtain⟨t,rfl⟩:=rx
  cases y with
  | byt j=>obtain⟨t',rfl⟩:=ry;exact PySem.W.ne_bytes (AS I q (congrArg not Ma))
  | _=>exact absurd (show false=true from hs) Bool.false_ne_true
 | _=>cases y<;>exact absurd (show false=true from hs) Bool.false_ne_true
theorem Vd:Dw X (compareOp .Lt) (Ry fun i j=>.bl (decide (i<j))):=R8 fun _ _ _ _ _ _ _ q=>lt_int q
theorem SS:Dw X (compareOp .LtE) (Ry fun i j=>.bl (decide (i≤j))):=R8 fun _ _ _ _ _ _ _ q=>le_int q
theorem Mx:Dw X (compareOp .Gt) (Ry fun i j=>.bl (decide (j<i))):=R8 fun _ _ _ _ _ _ _ q=>gt_int q
theorem SY:Dw X (compareOp .GtE) (Ry fun i j=>.bl (decide (j≤i))):=R8 fun _ _ _ _ _ _ _ q=>ge_int q
theorem NC:Dw X (compareOp .In) (fun x y H Q=>∃i j,x= .str i∧y= .str j∧Q (.bl (!(Builtin.Str.occurrences j i 0 j.length 1).isEmpty)) H):=by
 intro pins s σ H x y v u Q I rx ry h
 obtain⟨i,j,rfl,rfl,q⟩:=h
 obtain⟨t,rfl⟩:=rx
 obtain⟨t',rfl⟩:=ry
 exact in_str (AS I q rfl)
theorem AB (b:Expr) {op:CmpOp} (h:op≠.In:=by decide) (h2:op≠.NotIn:=by decide):behindInMarks op b=false:=by
 have e1:(op == CmpOp.In)=false:=by cases op<;>first | rfl | exact absurd rfl h
 have e2:(op == CmpOp.NotIn)=false:=by cases op<;>first | rfl | exact absurd rfl h2
 cases b<;>simp[behindInMarks,e1,e2]
theorem Dp {op:CmpOp} {r:R2} (ho:Dw X (compareOp op) r) (ha:PE X a ta) (hb:PE X b tb) (hm:behindInMarks op b=false):PE X (.Compare a [op] [b] pos) (VO r ta tb):=by
 intro pins s σ H Q I h
 exact wpAny_Compare1 (Tz ha hb I h fun v u s2 x y H2 I2 rx ry q=>ho pins s2 σ H2 x y v u Q I2 rx ry q) hm
def SL (t:TE):TT:=fun σ H Q=>t σ H fun x H'=>∃k,x= .bl k∧Q k H'
theorem Av {op:CmpOp} {r:R2} (ho:Dw X (compareOp op) r) (ha:PE X a ta) (hb:PE X b tb) (hm:behindInMarks op b=false):PT X (.Compare a [op] [b] pos) (SL (VO r ta tb)):=by
 intro pins s σ H Q I h
 refine wpAny_isTrue_Compare1 (AM (ha pins s σ H _ I h) fun v s1 ⟨x,H1,I1,r1,q1⟩=>AM (hb pins s1 σ H1 _ I1 q1) fun u s2 ⟨y,H2,I2,r2,q2⟩=>
  AM (ho pins s2 σ H2 x y v u _ I2 r1 r2 q2) fun c s3 ⟨z,H3,I3,r3,k,e,q3⟩=>?_) hm
 subst e
 cases r3
 exact wpAny_truthy_bool ⟨H3,I3,q3⟩
def Us (r r':R2) (ta tb tc:TE):TE:=fun σ H Q=>ta σ H fun x H1=>tb σ H1 fun y H2=>r x y H2 fun z H3=>∃k,z= .bl k∧
 (if k=true then tc σ H3 fun w' H4=>r' y w' H4 Q else Q (.bl false) H3)
theorem OQ {op op':CmpOp} {r r':R2} (ho:Dw X (compareOp op) r) (ho':Dw X (compareOp op') r') (ha:PE X a ta) (hb:PE X b tb) (hc:PE X c tc)
  (hm:lastMarks [op,op'] [b,c]=false:=by with_unfolding_all rfl):PT X (.Compare a [op,op'] [b,c] pos) (SL (Us r r' ta tb tc)):=by
 intro pins s σ H Q I h
 refine isTrue_chain (AM (ha pins s σ H _ I h) fun v s1 ⟨x,H1,I1,r1,q1⟩=>test_link (AM (hb pins s1 σ H1 _ I1 q1) fun u s2 ⟨y,H2,I2,r2,q2⟩=>
  AM (ho pins s2 σ H2 x y v u _ I2 r1 r2 q2) fun d s3 ⟨z,H3,I3,r3,k,e,q3⟩=>?_)) hm
 subst e
 cases r3
 refine wpAny_truthy_bool ?_
 cases k with
 | false=>
  obtain⟨k',e',q'⟩:=q3
  cases e'
  exact ite_ff ⟨H3,I3,q'⟩
 | true=>
  refine ite_tt (test_last (AM (hc pins s3 σ H3 _ I3 q3) fun w' s4 ⟨z',H4,I4,r4,q4⟩=>AM (ho' pins s4 σ H4 y z' u w' _ I4 r2 r4 q4) fun d' s5 ⟨z2,H5,I5,r5,k2,e2,q5⟩=>?_))
  subst e2
  cases r5
  exact wpAny_truthy_bool ⟨H5,I5,q5⟩
def Vb (K:PySem.W.Frag) (x:V) (H:Hp) (k:Bool):Prop:=
 match x with
 | .non=>k=false
 | .bl b=>k=b
 | .int i=>k=(i != 0)
 | .str y=>y.length≤sizeLine∧k=((y.length:Int) != 0)
 | .byt y=>y.size≤sizeLine∧k=((y.size:Int) != 0)
 | .ref p=>(∃xs,SqL K H p xs∧k = !xs.isEmpty)∨(∃xs,SqT K H p xs∧k = !xs.isEmpty)∨∃kvs,H p=some (.dK kvs)∧k = !kvs.isEmpty
 | _=>False
theorem K6 {κ:Type} {kvs:List (κ×V)} {vs:List (κ×Value)} (r:KV kvs vs):(!vs.isEmpty) = !kvs.isEmpty:=by
 cases r<;>rfl
theorem Ge {xs:List V} {its:List Value} (r:Vals xs its):(!its.toArray.isEmpty) = !xs.isEmpty:=by
 cases r<;>simp
theorem Fe:(sizeLine:Nat)<2^63:=by rw[sizeLine_eq];decide
theorem Ti:V7 X (fun x H Q=>∃k,Vb X.K x H k∧Q k H):=by
 intro pins s σ H x v Q I rx h
 obtain⟨k,e,q⟩:=h
 have hl:=Fe
 have hs:sizeLine=16777216:=sizeLine_eq
 cases x with
 | non=>
  cases rx
  have e':k=false:=e
  subst e'
  exact truthy_none ⟨H,I,q⟩
 | bl b=>
  cases rx
  have e':k=b:=e
  subst e'
  exact wpAny_truthy_bool ⟨H,I,q⟩
 | int i=>
  obtain⟨t,rfl⟩:=rx
  have e':k=(i != 0):=e
  subst e'
  exact PySem.P.truthy_int ⟨H,I,q⟩
 | str y=>
  obtain⟨t,rfl⟩:=rx
  obtain⟨hy,e'⟩:y.length≤sizeLine∧k=((y.length:Int) != 0):=e
  subst e'
  exact PySem.P.truthy_str (by omega) ⟨H,I.tok _,q⟩
 | byt y=>
  obtain⟨t,rfl⟩:=rx
  obtain⟨hy,e'⟩:y.size≤sizeLine∧k=((y.size:Int) != 0):=e
  subst e'
  exact PySem.W.truthy_bytes (by omega) ⟨H,I.tok _,q⟩
 | ref p=>
  cases rx
  have e':(∃xs,SqL X.K H p xs∧k = !xs.isEmpty)∨(∃xs,SqT X.K H p xs∧k = !xs.isEmpty)∨∃kvs,H p=some (.dK kvs)∧k = !kvs.isEmpty:=e
  rcases e' with⟨xs,hx,e'⟩|⟨xs,hx,e'⟩|⟨kvs,hx,e'⟩
  ·subst e'
   obtain⟨its,r,pl,hz⟩:=I.list hx
   have hlen:=r.length
   exact wpAny_truthy_list pl.isList (by simp only[List.size_toArray];omega) ⟨H,I.tok _,by rw[Ge r];exact q⟩
  ·subst e'
   obtain⟨its,r,pl,hz⟩:=I.tuple hx
   have hlen:=r.length
   exact truthy_tuple pl (by simp only[List.size_toArray];omega) ⟨H,I.tok _,by rw[Ge r];exact q⟩
  ·subst e'
   obtain⟨hz,hS,vs,r,m⟩:kvs.length≤sizeLine∧(p == sysModules)=false∧∃vs,KV kvs vs∧s.heap.DictOf (Ch X.prog X.w) p vs:=I.hok p _ hx
   have hlen:kvs.length=vs.length:=Paired.length r
   exact wpAny_truthy_dict hS m (by omega) ⟨H,I.tok _,by rw[K6 r];exact q⟩
 | _=>exact (show False from e).elim
theorem Cp (ha:PE X a ta) (he:∀whole,isTrue a X.env whole=(do let v ←whole;standAt a.pos;holding [v] (truthy v))) :
  PT X a (fun σ H Q=>ta σ H fun x H'=>∃k,Vb X.K x H' k∧Q k H'):=by
 intro pins s σ H Q I h
 exact isTrue_plain (AM (ha pins s σ H _ I h) fun v s1 ⟨x,H1,I1,r1,q1⟩=>Ti pins s1 σ H1 x v Q I1 r1 q1) (he _)
theorem Ew:Dw X (binaryOp .Add) (fun x y H Q=>∃i j,x= .str i∧y= .str j∧i.length+j.length≤sizeLine∧Q (.str (i++j)) H):=by
 intro pins s σ H x y v u Q I rx ry h
 obtain⟨i,j,rfl,rfl,hz,q⟩:=h
 obtain⟨t,rfl⟩:=rx
 obtain⟨t',rfl⟩:=ry
 exact add_str (fun t' tk=>⟨.str (i++j),H,I.tok _,⟨_,rfl⟩,q⟩) hz
theorem Cr {x:V} {us:List Value} (r:Vals [x] us):∃u,us=[u]∧RelV x u:=by
 cases r with
 | cons r1 r2=>cases r2;exact⟨_,rfl,r1⟩
theorem Ph {x y:V} {us:List Value} (r:Vals [x,y] us):∃u w',us=[u,w']∧RelV x u∧RelV y w':=by
 cases r with
 | cons r1 r2=>
  cases r2 with
  | cons r3 r4=>cases r4;exact⟨_,_,rfl,r1,r3⟩
theorem QP:BC X (.builtin "abs") (fun xs H Q=>∃i,xs=[.int i]∧Q (.int (if i<0 then -i else i)) H):=by
 intro pins s σ H xs us Q I r h
 obtain⟨i,rfl,q⟩:=h
 obtain⟨u,rfl,t,rfl⟩:=Cr r
 exact call_abs_int fun u tk=>⟨.int (if i<0 then -i else i),H,I.tok _,⟨_,rfl⟩,q⟩
theorem Oz (hc:X.calm=true):BC X (.builtin "min") (fun xs H Q=>∃i j,xs=[.int i,.int j]∧Q (.int (if j<i then j else i)) H):=by
 intro pins s σ H xs us Q I r h
 obtain⟨i,j,rfl,q⟩:=h
 obtain⟨u,w',rfl,⟨t,rfl⟩,⟨t',rfl⟩⟩:=Ph r
 refine min_two_ints (I.ok.hd hc) fun h' tk k=>⟨_,H,I.kept k,?_,q⟩
 by_cases hj:j<i
 ·rw[if_pos hj,if_pos hj];exact⟨_,rfl⟩
 ·rw[if_neg hj,if_neg hj];exact⟨_,rfl⟩
end
end L2
namespace L2
open PySem PySem.Spec PyProof.Rows
structure ObjM (h:Heap) (x dx C:Addr) (mA:Str→Option Value):Prop where
 obj:h.get? x=some (PySem.W.instObj C dx)
 ns:h.Ns1 dx mA
 ne:dx≠x
theorem Oq {h:Heap} {dx:Addr} {mA:Str→Option Value} (n:h.Ns1 dx mA):∃od,h.get? dx=some od∧∀name,PySem.W.lookIn name od=some (mA name):=by
 obtain⟨o,es,ep,ho,hd,hk,_,hm⟩:=n
 refine⟨o,ho,fun name=>?_⟩
 have e:=hm name
 unfold nsFind findBy at e
 rw[←Array.find?_toList] at e
 unfold PySem.W.lookIn
 rw[hd]
 dsimp only
 split
 ·rename_i y q
  rw[q] at e
  exact congrArg some e
 ·rename_i q
  rw[q] at e
  have a:es.toList.any (·.refKey)=false:=by
   rw[List.any_eq_false]
   intro y hy
   obtain⟨z,t,hkey⟩:=hk y (Array.mem_toList_iff.mp hy)
   simp[DictEntry.refKey,hkey]
  have a':¬es.toList.any (·.refKey)=true:=by rw[a];exact Bool.false_ne_true
  rw[if_neg a']
  exact congrArg some e
theorem ObjM.look {h:Heap} {x dx C:Addr} {mA:Str→Option Value} (I:ObjM h x dx C mA):∃od,PySem.W.InstAt h x (PySem.W.instObj C dx) C (some od)∧∀name,PySem.W.lookIn name od=some (mA name):=
 let ⟨od,ho,hl⟩:=Oq I.ns
 ⟨od,⟨I.obj,rfl,rfl,ho⟩,hl⟩
section
variable {prog:Program} {w:World} {A:Around} {E:Value→Shared→Prop} {s:Shared} {K:PySem.W.Frag} {x dx C f:Addr} {mA:Str→Option Value} {name:Str} {v:Value}
theorem Rk {expr:Bool} {Q:Value→Shared→Prop} (X:K.In s.heap) (I:ObjM s.heap x dx C mA) (hg:PySem.W.plainGet K C name=true) (hh:PySem.W.hasDictIn K C=true)
  (ha:PySem.W.findIn K (.ref C) name=some none) (hv:mA name=some v) (hv':PySem.W.handedIn v=true) (h:Q v { s with toks:=s.toks+1 }) :
  wpAny (model prog w) A (getAttr (.ref x) name expr) Q E s:=by
 obtain⟨od,J,hl⟩:=I.look
 exact PySem.W.get_value X J (PySem.W.plainGet_of hg).1 (PySem.W.findObj_own hh ha rfl (by rw[hl,hv])) hv' h
theorem P6 {pl:Sem Bool} {Q:Value×List Value→Shared→Prop} (X:K.In s.heap) (I:ObjM s.heap x dx C mA) (hg:PySem.W.plainGet K C name=true)
  (hf:PySem.W.findIn K (.ref C) name=some (some (.ref f))) (ht:PySem.W.isFn K (.ref f)=true) (hv:mA name=none) (h:Q (.ref f,[.ref x]) s) :
  wpAny (model prog w) A (getMethod (.ref x) name pl) Q E s:=by
 obtain⟨od,J,hl⟩:=I.look
 exact PySem.W.method_fn X J (PySem.W.plainGet_of hg).1 (PySem.W.plainGet_of hg).2 hf (beq_iff_eq.mp ht) (by show (PySem.W.lookIn name od).map (·.isSome)=some false;rw[hl,hv];rfl) h
theorem Ri {ns:List Str} {Q:Unit→Shared→Prop} (X:K.In s.heap) (I:ObjM s.heap x dx C mA)
  (hs:PySem.W.findIn K (.ref C) "__setattr__"=some (some (.builtin "object.__setattr__"))) (hp:PySem.W.plainOver K C=true) (ht:PySem.W.takerIn K C name=some none) (hh:PySem.W.hasDictIn K C=true)
  (hw:PySem.Within mA ns) (hsz:ns.length≤sizeLine)
  (h:∀h',ObjM h' x dx C (fun y=>if y=name then some v else mA y)→Heap.SameBut dx s.heap h'→Q () { s with heap:=h',toks:=s.toks+2 }) :
  wpAny (model prog w) A (setAttr (.ref x) name v) Q E s:=by
 obtain⟨od,J,hl⟩:=I.look
 refine PySem.W.set_plain X J hs (PySem.W.osa_open (s:={ s with toks:=s.toks+1 }) (r:=none) X J hp ht fun b=>?_)
 obtain⟨cd,hc,hd'⟩:=PySem.W.any_some hh
 have hx:s.heap.get? x=some ⟨.ref C,some dx,.plain,#[]⟩:=I.obj
 refine wpAny_bind (wpAny_pure (wpAny_bind (wpAny_bind (wpAny_loadPart hx (wpAny_bind (PySem.W.Looks.here (s:={ s with toks:=s.toks+1 }) (PySem.W.looks_clsIn X hc) ?_))))))
 rw[hd']
 refine wpAny_pure (a:=some dx) (wpAny_bind (wpAny_pure (wpAny_bind ?_)))
 refine wpAny_nsSet1 (s:={ s with toks:=s.toks+1 }) I.ns fun h' hn2 hs2=>?_
 obtain⟨oD,esD,epD,hoD,hdD,hcD⟩:=hn2.count (PySem.Within.cons name v hw)
 refine wpAny_bind (wpAny_lookBehind hoD (by rw[hdD];exact pastItsLine_dict (Nat.le_trans hcD (by rw[List.length_cons];omega))) ?_)
 exact wpAny_pure (h _ ⟨(hs2.2 _ (Ne.symm I.ne)).trans I.obj,hn2,I.ne⟩ hs2)
theorem Pz {R:Result→Shared→Prop} {vs:List Value} {kw:List (Str×Value)} (X:K.In s.heap) (hm:PySem.W.makesIn K C=true)
  (hi:PySem.W.findIn K (.ref C) "__init__"=some (some (.ref f))) (hf:PySem.W.typeIn K (.ref f)=some (.type "function"))
  (h:codeAny (model prog w) (A.under (.builtin "type.__call__" ⟨.ref C::vs,kw⟩)) (.call (.ref f) ⟨.ref (s.heap.objs.size+1)::vs,kw⟩) (PySem.W.InitBack (s.heap.objs.size+1) R)
   { s with heap:=(s.heap.push PySem.W.emptyDict).push (PySem.W.instObj C s.heap.objs.size) }) :
  codeAny (model prog w) A (.call (.ref C) ⟨vs,kw⟩) R s:=by
 obtain⟨hh,g,d,t,os⟩:=s
 exact PySem.W.make_core (PySem.W.makes_of X hm) (PySem.W.looks_findIn X hi) (fun self=>PySem.W.bind_fn X self hf) (.inl rfl) h
end
def Cc (f:Str) (v:V):List (Str×V)→List (Str×V)
 | []=>[(f,v)]
 | (g,x)::r=>if g=f then (g,v)::r else (g,x)::Cc f v r
theorem FM (f g:Str) (v:V):∀fs:List (Str×V),(Cc f v fs).lookup g=if g=f then some v else fs.lookup g
 | []=>by
  show List.lookup g [(f,v)]=_
  by_cases h:g=f
  ·have hb:(g == f)=true:=beq_iff_eq.mpr h
   simp only[List.lookup,hb,if_pos h]
  ·have hb:(g == f)=false:=beq_eq_false_iff_ne.mpr h
   simp only[List.lookup,hb,if_neg h]
 | (k,x)::r=>by
  have ih:=FM f g v r
  rw[show Cc f v ((k,x)::r)=(if k=f then (k,v)::r else (k,x)::Cc f v r) from rfl]
  by_cases hk:k=f
  ·rw[if_pos hk]
   by_cases h:g=k
   ·have hb:(g == k)=true:=beq_iff_eq.mpr h
    simp only[List.lookup,hb,if_pos (h.trans hk)]
   ·have hb:(g == k)=false:=beq_eq_false_iff_ne.mpr h
    simp only[List.lookup,hb,if_neg (fun e:g=f=>h (e.trans hk.symm))]
  ·rw[if_neg hk]
   by_cases h:g=k
   ·have hb:(g == k)=true:=beq_iff_eq.mpr h
    simp only[List.lookup,hb,if_neg (fun e:g=f=>hk (h.symm.trans e))]
   ·have hb:(g == k)=false:=beq_eq_false_iff_ne.mpr h
    simp only[List.lookup,hb]
    exact ih
theorem E4 (f:Str) (v:V):∀fs:List (Str×V),f∈(Cc f v fs).map (·.1)∧∀g,g∈fs.map (·.1)→g∈(Cc f v fs).map (·.1)
 | []=>⟨by simp[Cc],fun g h=>by simp at h⟩
 | (k,x)::r=>by
  obtain⟨i1,i2⟩:=E4 f v r
  rw[show Cc f v ((k,x)::r)=(if k=f then (k,v)::r else (k,x)::Cc f v r) from rfl]
  by_cases hk:k=f
  ·rw[if_pos hk]
   subst hk
   exact⟨by simp,fun g h=>by simpa using h⟩
  ·rw[if_neg hk]
   refine⟨?_,fun g h=>?_⟩
   ·rw[List.map_cons]
    exact List.mem_cons_of_mem _ i1
   ·rw[List.map_cons] at h ⊢
    rcases List.mem_cons.mp h with e | e
    ·exact List.mem_cons.mpr (.inl e)
    ·exact List.mem_cons_of_mem _ (i2 g e)
theorem FJ (f:Str) (v:V):∀fs:List (Str×V),(Cc f v fs).length≤fs.length+1
 | []=>by simp[Cc]
 | (k,x)::r=>by
  have ih:=FJ f v r
  rw[show Cc f v ((k,x)::r)=(if k=f then (k,v)::r else (k,x)::Cc f v r) from rfl]
  by_cases hk:k=f
  ·rw[if_pos hk,List.length_cons,List.length_cons];omega
  ·rw[if_neg hk,List.length_cons,List.length_cons];omega
theorem RelO.some_of {v:V} {o:Option Value} (r:RelO (some v) o):∃u,o=some u∧RelV v u:=by
 cases o with
 | none=>exact (show False from r).elim
 | some u=>exact⟨u,rfl,r⟩
theorem RelO.none_of {o:Option Value} (r:RelO none o):o=none:=by
 cases o with
 | none=>rfl
 | some u=>exact (show False from r).elim
theorem MZ {v:V} {u:Value} (r:RelV v u):PySem.W.handedIn u=true:=by
 cases v with
 | non=>cases (show u=Value.none from r);rfl
 | bl b=>cases (show u=Value.bool b from r);rfl
 | int i=>obtain⟨t,e⟩:=(show ∃t,u=Value.int i t from r);cases e;rfl
 | str x=>obtain⟨t,e⟩:=(show ∃t,u=Value.str x t from r);cases e;rfl
 | byt b=>obtain⟨t,e⟩:=(show ∃t,u=Value.bytes b t from r);cases e;rfl
 | flt b=>obtain⟨t,e⟩:=(show ∃t,u=Value.float b t from r);cases e;rfl
 | ref a=>cases (show u=Value.ref a from r);rfl
 | ty n=>cases (show u=Value.type n from r);rfl
section
variable {P:Program} {w:World} {H H':Hp} {h h':Heap} {a C dx:Addr} {fs fs':List (Str×V)}
theorem FU (hok:HOk P w H h) (e:H a=some (.ins C dx fs)):∃mA,ObjM h a dx C mA∧(∀f,RelO (fs.lookup f) (mA f))∧PySem.Within mA (fs.map (·.1))∧fs.length≤1000∧H dx=some (.own a):=by
 obtain⟨d,z,ne,ob,mA,n,r,q⟩:=(show ObjOk P w H h a (.ins C dx fs) from hok a _ e)
 exact⟨mA,⟨ob,n,ne⟩,r,q,z,d⟩
end
structure Cls (K:PySem.W.Frag) (C:Addr):Prop where
 pg:PySem.W.plainGet K C Str.empty=true
 hd:PySem.W.hasDictIn K C=true
 po:PySem.W.plainOver K C=true
 sa:PySem.W.findIn K (.ref C) "__setattr__"=some (some (.builtin "object.__setattr__"))
theorem Cls.get {K:PySem.W.Frag} {C:Addr} (c:Cls K C) (f:Str):PySem.W.plainGet K C f=true:=c.pg
def NoAttr (K:PySem.W.Frag) (C:Addr) (f:Str):Prop:=PySem.W.findIn K (.ref C) f=some none
theorem NoAttr.taker {K:PySem.W.Frag} {C:Addr} {f:Str} (n:NoAttr K C f):PySem.W.takerIn K C f=some none:=by
 unfold PySem.W.takerIn
 rw[show PySem.W.findIn K (.ref C) f=some none from n]
 rfl
structure Rj (K:PySem.W.Frag) (C:Addr) (m:Str) (f:Addr):Prop where
 at_:PySem.W.findIn K (.ref C) m=some (some (.ref f))
 fn:PySem.W.isFn K (.ref f)=true
 kp:PySem.W.keepIn K (.ref f)=true
section
variable {X:Cx} {pins:List (Addr×Obj)} {σ:St} {H:Hp} {s:Shared} {a C dx:Addr} {fs:List (Str×V)} {f:Str} {v:V} {A:Around} {E:Value→Shared→Prop}
theorem Ly {b:Bool} {Q:Value→Shared→Prop} (I:Inv X pins σ H s) (e:H a=some (.ins C dx fs)) (c:Cls X.K C) (n:NoAttr X.K C f) (l:fs.lookup f=some v)
  (h:∀u s',Inv X pins σ H s'→RelV v u→Q u s'):wpAny (model X.prog X.w) A (getAttr (.ref a) f b) Q E s:=by
 obtain⟨mA,O,r,_,_,_⟩:=FU I.hok e
 obtain⟨u,hu,ru⟩:=RelO.some_of (v:=v) (o:=mA f) (by rw[←l];exact r f)
 exact Rk I.kIn O (c.get f) c.hd n hu (MZ ru) (h u _ (I.tok _) ru)
theorem Ha {m:Str} {g:Addr} {pl:Sem Bool} {Q:Value×List Value→Shared→Prop} (I:Inv X pins σ H s) (e:H a=some (.ins C dx fs)) (c:Cls X.K C) (k:Rj X.K C m g) (l:fs.lookup m=none)
  (h:Q (.ref g,[.ref a]) s):wpAny (model X.prog X.w) A (getMethod (.ref a) m pl) Q E s:=by
 obtain⟨mA,O,r,_,_,_⟩:=FU I.hok e
 have hn:mA m=none:=RelO.none_of (by rw[←l];exact r m)
 exact P6 I.kIn O (c.get m) k.at_ k.fn hn h
theorem KN {y:V} {u:Value} {Q:Unit→Shared→Prop} (I:Inv X pins σ H s) (e:H a=some (.ins C dx fs)) (c:Cls X.K C) (n:NoAttr X.K C f) (hl:fs.length<1000) (ry:RelV y u)
  (h:∀s',Inv X pins σ (upd H a (.ins C dx (Cc f y fs))) s'→Q () s'):wpAny (model X.prog X.w) A (setAttr (.ref a) f u) Q E s:=by
 obtain⟨mA,O,r,wi,_,ho⟩:=FU I.hok e
 have hz:(fs.map (·.1)).length≤sizeLine:=by rw[List.length_map,sizeLine_eq];omega
 refine Ri I.kIn O c.sa c.po n.taker c.hd wi hz fun h' O' sb=>h _ ?_
 have hd:∃o,h'.get? dx=some o:=let ⟨o,_,_,e',_⟩:=O'.ns;⟨o,e'⟩
 refine I.write (x:=a) (e:=dx) (by rw[e];exact True.intro) (.inr ho) (fun b q hb z=>(sb.2 b hb).trans z) hd ?_
 refine⟨by rw[Aq O.ne];exact ho,?_,O.ne,O'.obj,_,O'.ns,fun g=>?_,fun g hg=>?_⟩
 ·have:=FJ f y fs;omega
 ·show RelO ((Cc f y fs).lookup g) (if g=f then some u else mA g)
  rw[FM]
  by_cases q:g=f
  ·rw[if_pos q,if_pos q];exact ry
  ·rw[if_neg q,if_neg q];exact r g
 ·by_cases q:g=f
  ·rw[q];exact (E4 f y fs).1
  ·refine (E4 f y fs).2 g (wi g fun z=>hg ?_)
   show (if g=f then some u else mA g)=none
   rw[if_neg q];exact z
theorem Inv.made (I:Inv X pins σ H s):Inv X pins σ (upd (upd H s.heap.objs.size (.own (s.heap.objs.size+1))) (s.heap.objs.size+1) (.ins C s.heap.objs.size []))
  { s with heap:=(s.heap.push PySem.W.emptyDict).push (PySem.W.instObj C s.heap.objs.size) }:=by
 have e1:(s.heap.push PySem.W.emptyDict).get? s.heap.objs.size=some PySem.W.emptyDict:=Heap.get?_push_size s.heap rfl
 have e2:((s.heap.push PySem.W.emptyDict).push (PySem.W.instObj C s.heap.objs.size)).get? (s.heap.objs.size+1)=some (PySem.W.instObj C s.heap.objs.size):=by
  have:=Heap.get?_push_size (s.heap.push PySem.W.emptyDict) (o:=PySem.W.instObj C s.heap.objs.size) rfl
  rwa [Heap.size_push] at this
 have e3:(s.heap.push PySem.W.emptyDict).Ns s.heap.objs.size (fun _=>none):=⟨PySem.W.emptyDict,#[],_,e1,rfl,(fun e he=>absurd he (by simp)),fun _=>rfl⟩
 have I1:=I.laid (a:=s.heap.objs.size) (o:=.own (s.heap.objs.size+1)) (h':=s.heap.push PySem.W.emptyDict) (t':=s.toks) (fun b u q=>Heap.get?_push_of_some _ q) (Nat.le_refl _) ⟨_,e1⟩
 refine I1.laid (a:=s.heap.objs.size+1) (o:=.ins C s.heap.objs.size []) (t':=s.toks) (fun b u q=>Heap.get?_push_of_some _ q) (Nat.le_of_eq (Heap.size_push _ _)) ?_
 have ne:s.heap.objs.size≠s.heap.objs.size+1:=Nat.ne_of_lt (Nat.lt_succ_self _)
 refine⟨by rw[Aq ne,upd_same],Nat.zero_le _,ne,e2,fun _=>none,(Heap.Ns1.of_empty e3).at fun o q=>Heap.get?_push_of_some _ q,fun _=>True.intro,fun y hy=>absurd rfl hy⟩
theorem R4 {prog:Program} {w:World} {env:Env} {e:Expr} {f:Str} {pos:Pos} {s:Shared} {Q:Value→Shared→Prop} (hb:attributeBase e f env (eval e env)=eval e env)
  (h:wpAny (model prog w) A (eval e env) (fun o s₁=>wpAny (model prog w) A (getAttr o f true) Q E s₁) E s):wpAny (model prog w) A (eval (.Attribute e f pos) env) Q E s:=
 Attribute_any_ h (by rw[arm_eval_Attribute,hb])
end
def WE (K:PySem.W.Frag) (ta:TE) (f:Str):TE:=fun σ H Q=>ta σ H fun x H1=>∃a C dx fs v,x= .ref a∧H1 a=some (.ins C dx fs)∧Cls K C∧NoAttr K C f∧fs.lookup f=some v∧Q v H1
def Wo (K:PySem.W.Frag) (ta tv:TE) (f:Str):TS:=fun D σ H=>tv σ H fun y H1=>ta σ H1 fun x H2=>∃a C dx fs,x= .ref a∧H2 a=some (.ins C dx fs)∧Cls K C∧NoAttr K C f∧fs.length<1000∧
 D.nx σ (upd H2 a (.ins C dx (Cc f y fs)))
section
variable {X:Cx} {o e value:Expr} {f:Str} {pos pos' tpos:Pos} {ta tv:TE}
theorem AT (he:PE X e ta) (hb:attributeBase e f X.env (eval e X.env)=eval e X.env):PE X (.Attribute e f pos) (WE X.K ta f):=by
 intro pins s σ H Q I h
 refine R4 hb (AM (he pins s σ H _ I h) fun u s1 ⟨x,H1,I1,rx,a,C,dx,fs,v,ex,ea,c,n,l,q⟩=>?_)
 subst ex
 obtain rfl:u=Value.ref a:=rx
 exact Ly I1 ea c n l fun u' s2 I2 ru=>⟨v,H1,I2,ru,q⟩
theorem BA (ha:PE X o ta) (hv:PE X value tv) (hs:swapsWith value (some (.Attribute o f pos')) pos.line X.env=pure false):PS X (.Assign [.Attribute o f pos'] value pos) (Wo X.K ta tv f):=by
 intro pins s σ H D I h
 refine plainObj_wpAny_Assign_Attribute (AM (hv pins s σ H _ I h) fun u s1 ⟨y,H1,I1,ry,q⟩=>AM (ha pins s1 σ H1 _ I1 q) fun ov s2 ⟨x,H2,I2,rx,a,C,dx,fs,ex,ea,c,n,l,q2⟩=>?_) hs
 subst ex
 obtain rfl:ov=Value.ref a:=rx
 exact KN I2 ea c n l ry fun s3 I3=>⟨σ,_,I3,q2⟩
end
section
variable {X:Cx} {pins:List (Addr×Obj)} {σ:St} {H:Hp} {s:Shared} {A:Around} {E:Value→Shared→Prop} {Q:Value→Shared→Prop} {c:Value} {b:Bool}
inductive Fi (K:PySem.W.Frag) (H:Hp):V→Value→Prop where
 | non:Fi K H .non (.type "NoneType")
 | bl (x:Bool):Fi K H (.bl x) (.type "bool")
 | int (i:Int):Fi K H (.int i) (.type "int")
 | str (x:Str):Fi K H (.str x) (.type "str")
 | flt (x:UInt64):Fi K H (.flt x) (.type "float")
 | lst {a:Addr} {xs:List V} (e:H a=some (.lst xs)):Fi K H (.ref a) (.type "list")
 | frz {a:Addr} {o:Obj} {xs:List V} (e:H a=some (.frz o (.lst xs))):Fi K H (.ref a) (.type "list")
 | tup {a:Addr} {xs:List V} (e:H a=some (.tup xs)):Fi K H (.ref a) (.type "tuple")
 | dK {a:Addr} {kvs:List (Er×V)} (e:H a=some (.dK kvs)):Fi K H (.ref a) (.type "dict")
 | dT {a:Addr} {kvs:List (List Er×V)} (e:H a=some (.dT kvs)):Fi K H (.ref a) (.type "dict")
 | ins {a C dx:Addr} {fs:List (Str×V)} (e:H a=some (.ins C dx fs)) (cl:Cls K C) (ha:PySem.W.findIn K (.ref C) "__class__"=some (some (.builtin "object.__class__")))
   (hn:PySem.W.specialIn K (.builtin "object.__class__") "__get__"=some (some (.builtin "getset_descriptor.__get__"))) (htk:PySem.W.takesIn K (.builtin "object.__class__")=some true)
   (hm:PySem.W.mroIn K C (.type "object")=some true):Fi K H (.ref a) (.ref C)
theorem Oi {x:V} {u t:Value} (I:Inv X pins σ H s) (rx:RelV x u) (ty:Fi X.K H x t) (e:PySem.W.kitOne X.K t c=some b) (h:∀tk,Q (.bool b) { s with toks:=tk }) :
  wpAny (model X.prog X.w) A (call (.builtin "isinstance") [u,c]) Q E s:=by
 cases ty with
 | non=>cases (show u=Value.none from rx);exact PySem.W.kia_one PySem.W.kitx_none I.kIn True.intro e (fun z=>nomatch z) h
 | bl y=>cases (show u=Value.bool y from rx);exact PySem.W.kia_one PySem.W.kitx_bool I.kIn True.intro e (fun z=>nomatch z) h
 | int i=>obtain⟨t,q⟩:=(show ∃t,u=Value.int i t from rx);cases q;exact PySem.W.kia_one PySem.W.kitx_int I.kIn True.intro e (fun z=>nomatch z) h
 | str y=>obtain⟨t,q⟩:=(show ∃t,u=Value.str y t from rx);cases q;exact PySem.W.kia_one PySem.W.kitx_str I.kIn True.intro e (fun z=>nomatch z) h
 | flt y=>obtain⟨t,q⟩:=(show ∃t,u=Value.float y t from rx);cases q;exact PySem.W.kia_one PySem.W.kitx_float I.kIn True.intro e (fun z=>nomatch z) h
 | @lst a xs ea=>
  cases (show u=Value.ref a from rx)
  obtain⟨_,_,n,_,h1⟩:=(show ObjOk X.prog X.w H s.heap a (.lst xs) from I.hok a _ ea)
  exact PySem.W.kia_one PySem.W.kitx_list I.kIn ⟨_,h1,rfl⟩ e (fun z=>nomatch z) h
 | @frz a ob xs ea=>
  cases (show u=Value.ref a from rx)
  obtain⟨_,_,_,n,_,h1⟩:=(show ObjOk X.prog X.w H s.heap a (.frz ob (.lst xs)) from I.hok a _ ea)
  exact PySem.W.kia_one PySem.W.kitx_list I.kIn ⟨_,h1,rfl⟩ e (fun z=>nomatch z) h
 | @tup a xs ea=>
  cases (show u=Value.ref a from rx)
  obtain⟨_,_,_,p⟩:=(show ObjOk X.prog X.w H s.heap a (.tup xs) from I.hok a _ ea)
  obtain⟨o,h1,h2,_⟩:=p
  exact PySem.W.kia_one PySem.W.kitx_tuple I.kIn ⟨o,h1,h2⟩ e (fun z=>nomatch z) h
 | @dK a kvs ea=>
  cases (show u=Value.ref a from rx)
  obtain⟨_,_,vs,_,p⟩:=(show ObjOk X.prog X.w H s.heap a (.dK kvs) from I.hok a _ ea)
  obtain⟨o,es,ep,h1,h2,_⟩:=p
  exact PySem.W.kia_one PySem.W.kitx_dict I.kIn ⟨o,h1,h2.1⟩ e (fun z=>nomatch z) h
 | @dT a kvs ea=>
  cases (show u=Value.ref a from rx)
  obtain⟨_,_,xs,_,o,es,ep,h1,h2,_⟩:=(show ObjOk X.prog X.w H s.heap a (.dT kvs) from I.hok a _ ea)
  exact PySem.W.kia_one PySem.W.kitx_dict I.kIn ⟨o,h1,h2.1⟩ e (fun z=>nomatch z) h
 | @ins a C dx fs ea cl ha hn htk hm=>
  cases (show u=Value.ref a from rx)
  obtain⟨mA,O,_⟩:=FU I.hok ea
  obtain⟨od,J,_⟩:=O.look
  exact PySem.W.kia_one (PySem.W.kitx_own (cl.get _) cl.hd ha hn htk hm) I.kIn J e (fun z=>nomatch z) h
end
end L2
namespace L2
open PySem PySem.Spec PyProof.Rows
structure Room (k:Nat) (A:Around):Prop where
 hd:A.handled=none
 dp:A.depth+3*k+5<recursionLimit
 un:A.units+16*k+200<cLine
theorem Room.mono {j k:Nat} {A:Around} (r:Room k A) (h:j≤k):Room j A:=⟨r.hd,by have:=r.dp;omega,by have:=r.un;omega⟩
theorem Room.deeper {k:Nat} {A:Around} (r:Room (k+1) A) (env:Env):Room k (A.deeper env):=
 ⟨r.hd,by have:=r.dp;show A.depth+1+3*k+5<_;omega,by have:=r.un;show A.units+3+16*k+200<_;omega⟩
theorem KM {A:Around} {C:Addr} {us:List Value} {kw:List (Str×Value)}:(A.under (.builtin "type.__call__" ⟨.ref C::us,kw⟩)).depth=A.depth+1:=by
 first | rfl | simp[Around.under,Code.weight,Code.isCreation,Code.isGuard,Code.isCaller,Code.frames,Code.isFrame,guardIds]
theorem Lk {A:Around} {C:Addr} {us:List Value} {kw:List (Str×Value)}:(A.under (.builtin "type.__call__" ⟨.ref C::us,kw⟩)).units=A.units+1:=by
 first | rfl | simp[Around.under,Code.cUnits,Code.frames,Code.isFrame]
theorem Room.make {k:Nat} {A:Around} (r:Room (k+1) A) (C:Addr) (us:List Value) (kw:List (Str×Value)):Room k (A.under (.builtin "type.__call__" ⟨.ref C::us,kw⟩)):=
 ⟨r.hd,by have:=r.dp;rw[KM];omega,by have:=r.un;rw[Lk];omega⟩
theorem Room.depth {k:Nat} {A:Around} (r:Room k A):A.depth<recursionLimit:=by have:=r.dp;omega
theorem Room.units0 {k:Nat} {A:Around} (r:Room k A):A.units<cLine:=by have:=r.un;omega
def UD:TA:=fun _ H Q=>Q [] H
def VB (ta:TE) (tr:TA):TA:=fun σ H Q=>ta σ H fun x H1=>tr σ H1 fun xs H2=>Q (x::xs) H2
section
variable {X:Cx} {e:Expr} {es:List Expr} {te:TE} {t:TA} {pos:Pos}
theorem Ac:PA X [] UD:=fun _ _ _ _ H Q I h=>Calls.spliced_nil ⟨[],H,I,.nil,h⟩
theorem Ab (ha:PE X e te) (hr:PA X es t) (hs:starEach (e::es) X.env=(false,eval e X.env)::starEach es X.env:=by rfl):PA X (e::es) (VB te t):=by
 intro pos pins s σ H Q I h
 rw[hs]
 show wpAny _ _ (spliced ((false,eval e X.env)::backTo pos (starEach es X.env))) _ _ s
 refine Calls.spliced_cons (AM (ha pins s σ H _ I h) fun u s1 ⟨x,H1,I1,r1,q1⟩=>?_)
 exact AM (hr pos pins s1 σ H1 _ I1 q1) fun us s2 ⟨xs,H2,I2,r2,q2⟩=>⟨x::xs,H2,I2,.cons r1 r2,q2⟩
def Wc (t:TA):TE:=fun σ H Q=>t σ H fun xs H1=>xs.length≤sizeLine∧∀p,H1 p=none→Q (.ref p) (upd H1 p (.tup xs))
def Wg (t:TA):TE:=fun σ H Q=>t σ H fun xs H1=>xs.length≤sizeLine∧∀p,H1 p=none→Q (.ref p) (upd H1 p (.lst xs))
theorem Bt {x1} (h:PA X es t):PE X (.Tuple es x1 pos) (Wc t):=by
 intro pins s σ H Q I hq
 refine wpAny_Tuple_spliced (AM (h pos pins s σ H _ I hq) fun us s1 ⟨xs,H1,I1,r,z,q⟩=>⟨by rw[←r.length];exact z,?_⟩)
 have hf:H1 s1.heap.objs.size=none:=I1.hok.fresh (Nat.le_refl _)
 refine⟨.ref s1.heap.objs.size,upd H1 s1.heap.objs.size (.tup xs),I1.laid (t':=s1.toks) (fun b u e=>Heap.get?_push_of_some _ e) (Nat.le_refl _) ?_,rfl,q _ hf⟩
 exact⟨z,us,r,⟨_,Heap.get?_push_size _ rfl,rfl,_,rfl⟩⟩
theorem AE (h:PA X es t):PE X (.List es pos) (Wg t):=by
 intro pins s σ H Q I hq
 refine wpAny_List_spliced (AM (h pos pins s σ H _ I hq) fun us s1 ⟨xs,H1,I1,r,z,q⟩=>⟨by rw[←r.length];exact z,?_⟩)
 have hf:H1 s1.heap.objs.size=none:=I1.hok.fresh (Nat.le_refl _)
 refine⟨.ref s1.heap.objs.size,upd H1 s1.heap.objs.size (.lst xs),I1.laid (t':=s1.toks) (fun b u e=>Heap.get?_push_of_some _ e) (Nat.le_refl _) ?_,rfl,q _ hf⟩
 exact⟨z,us,0,r,Heap.get?_push_size _ rfl⟩
end
abbrev Sp:=List V→Hp→VK→XK→Prop
abbrev MJ:=List Env→Hp→Shared→XK→Value→Shared→Prop
structure Env0 (P:Program) (w:World) (K:PySem.W.Frag) (mg:Str→Option Value) (base:Heap) (A:Around) (outer:List Env) (s:Shared) (H:Hp):Prop where
 frames:A.frames=some outer
 mod:Mod K mg base
 bs:∀b o,base.get? b=some o→s.heap.get? b=some o∧H b=none
 bsz:base.objs.size≤s.heap.objs.size
 funs:s.heap.FunFrames base outer
 frf:∀b∈Gh outer,H b=none
 hok:HOk P w H s.heap
 bare:AllBare s.gens
def CE (outer:List Env) (P:Program) (w:World) (H:Hp) (s:Shared) (Q:VK) (u:Value) (s':Shared):Prop:=
 ∃v H',s'.os=s.os∧AllBare s'.gens∧Un (Gh outer) [] H H' s.heap s'.heap∧HOk P w H' s'.heap∧RelV v u∧Q v H'
def CR (CX:MJ) (outer:List Env) (P:Program) (w:World) (H:Hp) (s:Shared) (Q:VK) (E:XK) (r:Result) (s':Shared):Prop:=
 match r with
 | .ok (.ret u)=>CE outer P w H s Q u s'
 | .ok _=>False
 | .error e=>CX outer H s E e s'
structure FnOk (P:Program) (w:World) (K:PySem.W.Frag) (mg:Str→Option Value) (base:Heap) (CX:MJ) (k:Nat) (f:Addr) (fd:FuncData) (ps:List Str) (sp:Sp):Prop where
 len:∀vs H Q E,sp vs H Q E→vs.length=ps.length
 run:∀(A:Around) (outer:List Env) (s:Shared) (H:Hp) (args:Args) (us:List Value) (vs:List V) (Q:VK) (E:XK),Room k A→Env0 P w K mg base A outer s H→BindsTo s fd args (ps.zip us)→Vals vs us→sp vs H Q E→
  codeAny (model P w) A (.call (.ref f) args) (CR CX outer P w H s Q E) s
theorem FnOk.mono {P:Program} {w:World} {K:PySem.W.Frag} {mg:Str→Option Value} {base:Heap} {CX:MJ} {j k:Nat} {f:Addr} {fd:FuncData} {ps:List Str} {sp:Sp} (F:FnOk P w K mg base CX j f fd ps sp) (h:j≤k) :
  FnOk P w K mg base CX k f fd ps sp:=⟨F.len,fun A outer s H args us vs Q E hr=>F.run A outer s H args us vs Q E (hr.mono h)⟩
theorem Env0.make {P:Program} {w:World} {K:PySem.W.Frag} {mg:Str→Option Value} {base:Heap} {A:Around} {outer:List Env} {s:Shared} {H:Hp} (e:Env0 P w K mg base A outer s H) (C:Addr) (us:List Value) (kw:List (Str×Value)) :
  Env0 P w K mg base (A.under (.builtin "type.__call__" ⟨.ref C::us,kw⟩)) outer s H:=⟨by first | exact e.frames | (simpa [Around.under,Code.envs,Code.isFrame,pushEnvs] using e.frames),e.mod,e.bs,e.bsz,e.funs,e.frf,e.hok,e.bare⟩
section
variable {X:Cx} {pins:List (Addr×Obj)} {σ:St} {H:Hp} {s s':Shared}
theorem Inv.env0 (I:Inv X pins σ H s):Env0 X.prog X.w X.K X.mg X.base X.A X.stack s H:=
 ⟨I.ok.frames,I.ok.mod,I.bs,Nat.le_trans I.ok.bsz I.sz,I.stack,I.stkFree,I.hok,I.bare⟩
theorem Inv.after {Q:VK} {u:Value} (I:Inv X pins σ H s) (h:CE X.stack X.prog X.w H s Q u s'):EP X pins σ Q u s':=by
 obtain⟨v,H',os,bare,un,hok,r,q⟩:=h
 obtain⟨hh,g,d,t,os'⟩:=s'
 obtain rfl:os'=s.os:=os
 exact⟨v,H',I.call (h':=hh) (g':=g) (d':=d) (t':=t) (ch:=[]) un hok bare (fun b z=>absurd z (by simp)),r,q⟩
end
def Vn (sp:Sp) (dvs:List V) (E:XK) (t:TA):TE:=fun σ H Q=>t σ H fun vs H1=>sp (vs++dvs) H1 Q E
def S9 (C:Addr) (m:Str) (sp:Sp) (dvs:List V) (E:XK) (ta:TE) (t:TA):TE:=fun σ H Q=>ta σ H fun x H1=>∃a dx fs,x= .ref a∧H1 a=some (.ins C dx fs)∧fs.lookup m=none∧
 t σ H1 fun vs H2=>sp (x::(vs++dvs)) H2 Q E
def Vu (C:Addr) (sp:Sp) (dvs:List V) (E:XK) (t:TA):TE:=fun σ H Q=>t σ H fun vs H1=>∀x dx,H1 x=none→H1 dx=none→dx≠x→
 sp (.ref x::(vs++dvs)) (upd (upd H1 dx (.own x)) x (.ins C dx [])) (fun v H2=>v= .non∧Q (.ref x) H2) E
def Binds (K:PySem.W.Frag) (fd:FuncData) (ps:List Str) (ds:List Value):Prop:=
 ∀(s:Shared) (us:List Value),K.In s.heap→(us++ds).length=ps.length→BindsTo s fd ⟨us,[]⟩ (ps.zip (us++ds))
theorem Binds.all {K:PySem.W.Frag} {fd:FuncData} {ps:List Str} (h:∀us:List Value,us.length=ps.length→bindArgs fd ⟨us,[]⟩=pure (ps.zip us)):Binds K fd ps []:=fun s us _ hl=>by
 rw[List.append_nil] at hl ⊢
 exact .of_eq (h us hl)
def Co (CX:MJ) (X:Cx) (E:XK):Prop:=∀(pins:List (Addr×Obj)) (σ:St) (H:Hp) (s:Shared) (e:Value) (s':Shared),Inv X pins σ H s→CX X.stack H s E e s'→X.xe e s'
section
variable {X:Cx} {CX:MJ} {k:Nat} {f C:Addr} {fd:FuncData} {ps:List Str} {sp:Sp} {dvs:List V} {ds:List Value} {E:XK} {x m:Str} {p pos apos:Pos} {e o:Expr} {es:List Expr} {ta:TE} {t:TA}
theorem Ln {pins:List (Addr×Obj)} {σ:St} {H:Hp} {s:Shared} {Q:VK} {us:List Value} {vs:List V} (F:FnOk X.prog X.w X.K X.mg X.base CX k f fd ps sp) (hr:Room k X.A) (hb:Binds X.K fd ps ds) (hd:Vals dvs ds) (hx:Co CX X E)
  (I:Inv X pins σ H s) (r:Vals vs us) (h:sp (vs++dvs) H Q E):wpAny (model X.prog X.w) X.A (call (.ref f) us) (EP X pins σ Q) X.xe s:=by
 have r2:Vals (vs++dvs) (us++ds):=r.append hd
 have hl:(us++ds).length=ps.length:=by rw[←r2.length];exact F.len _ _ _ _ h
 refine wpAny_call (codeAny_mono (F.run X.A X.stack s H ⟨us,[]⟩ (us++ds) (vs++dvs) Q E hr I.env0 (hb s us I.kIn hl) r2 h) fun r s' hq=>?_)
 cases r with
 | error e=>exact hx pins σ H s e s' I hq
 | ok fl=>
  cases fl with
  | ret u=>exact I.after hq
  | next=>exact False.elim hq
  | brk=>exact False.elim hq
  | cont=>exact False.elim hq
theorem An (F:FnOk X.prog X.w X.K X.mg X.base CX k f fd ps sp) (hr:Room k X.A) (hg:Gl X x) (hm:X.mg x=some (.ref f)) (hk:PySem.W.keepIn X.K (.ref f)=true) (hb:Binds X.K fd ps ds) (hd:Vals dvs ds) (hx:Co CX X E)
  (ha:PA X (e::es) t) (hdb:(x == ("__debug__":Str))=false:=by decide) (he:starEach (e::es) X.env=(false,eval e X.env)::starEach es X.env:=by rfl) (hpl:(backTo pos (starEach es X.env)).any (·.1)=false:=by rfl) :
  PE X (.Call (.Name x p) (e::es) [] pos) (Vn sp dvs E t):=by
 intro pins s σ H Q I h
 refine wpAny_Call_Name_kw (ET I hg hm ?_ hdb)
 refine PySem.W.callWith_K (h₀:=X.base) I.ok.mod.kin hk (AM (ha pos pins s σ H _ I h) fun us s1 ⟨vs,H1,I1,r,q⟩=>⟨I1.kIn,?_⟩) he hpl
 exact Ln F hr hb hd hx I1 r q
theorem Az {pl:Sem Bool} (he:PE X o ta) (c:Cls X.K C) (hm:Rj X.K C m f) (F:FnOk X.prog X.w X.K X.mg X.base CX k f fd ps sp) (hr:Room k X.A) (hb:Binds X.K fd ps ds) (hd:Vals dvs ds) (hx:Co CX X E) (ha:PA X (e::es) t)
  (hst:starEach (e::es) X.env=(false,eval e X.env)::starEach es X.env:=by rfl) (hpl:(backTo pos (starEach es X.env)).any (·.1)=false:=by rfl)
  (ht:eval (.Call (.Attribute o m apos) (e::es) [] pos) X.env=(do
   let ov ←eval o X.env
   standAt apos.atName
   let (f,first) ←holding [ov] (getMethod ov m pl)
   callWith pos f first (backTo pos (starEach (e::es) X.env)) (backToKw pos (keywordEach [] X.env))):=by rfl) :
  PE X (.Call (.Attribute o m apos) (e::es) [] pos) (S9 C m sp dvs E ta t):=by
 intro pins s σ H Q I h
 refine PySem.W.methodCall_KW (pl:=pl) (AM (he pins s σ H _ I h) fun u s1 ⟨x,H1,I1,rx,a,dx,fs,ex,ea,l,q⟩=>?_) ht
 subst ex
 obtain rfl:u=Value.ref a:=rx
 refine Ha I1 ea c hm l ?_
 refine PySem.W.callWith_K (first:=[.ref a]) (h₀:=X.base) I.ok.mod.kin hm.kp (AM (ha pos pins s1 σ H1 _ I1 q) fun us s2 ⟨vs,H2,I2,r,q2⟩=>⟨I2.kIn,?_⟩) hst hpl
 exact Ln (us:=.ref a::us) (vs:=.ref a::vs) F hr hb hd hx I2 (.cons rfl r) q2
theorem AY {pl:Sem Bool} (he:PE X o ta) (c:Cls X.K C) (hm:Rj X.K C m f) (F:FnOk X.prog X.w X.K X.mg X.base CX k f fd ps sp) (hr:Room k X.A) (hb:Binds X.K fd ps ds) (hd:Vals dvs ds) (hx:Co CX X E)
  (ht:eval (.Call (.Attribute o m apos) [] [] pos) X.env=(do
   let ov ←eval o X.env
   standAt apos.atName
   let (f,first) ←holding [ov] (getMethod ov m pl)
   callWith pos f first (backTo pos (starEach [] X.env)) (backToKw pos (keywordEach [] X.env))):=by rfl) :
  PE X (.Call (.Attribute o m apos) [] [] pos) (S9 C m sp dvs E ta UD):=by
 intro pins s σ H Q I h
 refine PySem.W.methodCall_KW (pl:=pl) (AM (he pins s σ H _ I h) fun u s1 ⟨x,H1,I1,rx,a,dx,fs,ex,ea,l,q⟩=>?_) ht
 subst ex
 obtain rfl:u=Value.ref a:=rx
 refine Ha I1 ea c hm l ?_
 exact PySem.W.callWith_K0 (first:=[.ref a]) I1.kIn hm.kp (Ln (us:=[.ref a]) (vs:=[.ref a]) F hr hb hd hx I1 (.cons rfl .nil) q)
structure Mk (K:PySem.W.Frag) (C f:Addr):Prop where
 makes:PySem.W.makesIn K C=true
 init:PySem.W.findIn K (.ref C) "__init__"=some (some (.ref f))
 fn:PySem.W.isFn K (.ref f)=true
 kp:PySem.W.keepIn K (.ref C)=true
theorem PH {pins:List (Addr×Obj)} {σ:St} {H:Hp} {s:Shared} {Q:VK} {us:List Value} {vs:List V} (M:Mk X.K C f) (F:FnOk X.prog X.w X.K X.mg X.base CX k f fd ps sp) (hr:Room (k+1) X.A) (hb:Binds X.K fd ps ds) (hd:Vals dvs ds)
  (hx:Co CX X E) (I:Inv X pins σ H s) (r:Vals vs us)
  (h:∀x dx,H x=none→H dx=none→dx≠x→sp (.ref x::(vs++dvs)) (upd (upd H dx (.own x)) x (.ins C dx [])) (fun v H2=>v= .non∧Q (.ref x) H2) E) :
  wpAny (model X.prog X.w) X.A (call (.ref C) us) (EP X pins σ Q) X.xe s:=by
 have hq:=h (s.heap.objs.size+1) s.heap.objs.size (I.hok.fresh (Nat.le_succ _)) (I.hok.fresh (Nat.le_refl _)) (Nat.ne_of_lt (Nat.lt_succ_self _))
 have I2:=Inv.made (C:=C) I
 have r2:Vals (V.ref (s.heap.objs.size+1)::(vs++dvs)) (Value.ref (s.heap.objs.size+1)::(us++ds)):=.cons rfl (r.append hd)
 have hl:(Value.ref (s.heap.objs.size+1)::us++ds).length=ps.length:=by
  have e:=r2.length
  rw[F.len _ _ _ _ hq] at e
  exact e.symm
 refine wpAny_call (Pz (f:=f) I.kIn M.makes M.init (beq_iff_eq.mp M.fn) (codeAny_mono (F.run _ X.stack _ _ ⟨Value.ref (s.heap.objs.size+1)::us,[]⟩ (Value.ref (s.heap.objs.size+1)::(us++ds)) _ _ E (hr.make C us [])
  (I2.env0.make C us []) (hb _ (Value.ref (s.heap.objs.size+1)::us) I2.kIn hl) r2 hq) fun r s' hq'=>?_))
 cases r with
 | error e=>exact hx pins σ _ _ e s' I2 hq'
 | ok fl=>
  cases fl with
  | ret u=>
   obtain⟨v,H',I3,rv,ev,q3⟩:=I2.after hq'
   subst ev
   exact⟨rv,⟨V.ref (s.heap.objs.size+1),H',I3,rfl,q3⟩⟩
  | next=>exact False.elim hq'
  | brk=>exact False.elim hq'
  | cont=>exact False.elim hq'
theorem Mm (M:Mk X.K C f) (F:FnOk X.prog X.w X.K X.mg X.base CX k f fd ps sp) (hr:Room (k+1) X.A) (hg:Gl X x) (hm:X.mg x=some (.ref C)) (hb:Binds X.K fd ps ds) (hd:Vals dvs ds) (hx:Co CX X E)
  (ha:PA X (e::es) t) (hdb:(x == ("__debug__":Str))=false:=by decide) (he:starEach (e::es) X.env=(false,eval e X.env)::starEach es X.env:=by rfl) (hpl:(backTo pos (starEach es X.env)).any (·.1)=false:=by rfl) :
  PE X (.Call (.Name x p) (e::es) [] pos) (Vu C sp dvs E t):=by
 intro pins s σ H Q I h
 refine wpAny_Call_Name_kw (ET I hg hm ?_ hdb)
 refine PySem.W.callWith_K (h₀:=X.base) I.ok.mod.kin M.kp (AM (ha pos pins s σ H _ I h) fun us s1 ⟨vs,H1,I1,r,q⟩=>⟨I1.kIn,?_⟩) he hpl
 exact PH M F hr hb hd hx I1 r q
end
section
variable {X:Cx} {CX:MJ} {k:Nat} {f C:Addr} {fd:FuncData} {ps ks:List Str} {sp:Sp} {E:XK} {x m:Str} {p pos apos kpos:Pos} {e o:Expr} {es:List Expr} {kws:List Keyword} {te ta:TE} {t tk:TA} {nm:Option Str}
variable {g:List Value→List Value→List Value} {gV:List V→List V→List V}
end
structure Al (N P:List Str) (sc:Scope):Prop where
 kind:sc.kind= .function
 co:sc.isCoroutine=false
 gen:sc.isGenerator=false
 nd:N.Nodup
 pre:N.take P.length=P
 par:∀x∈P,sc.names.lookup x=some .local∨sc.names.lookup x=some .cell
 nofree:∀y∈sc.names,y.2≠.free
theorem IC {kindOf:Str→Option NameKind} {x:Str}:∀{binds:List (Str×Value)} {m:Str→Option Value},(∀v,(x,v)∉binds)→bindL kindOf binds m x=m x
 | [],_,_=>rfl
 | (n,v)::r,m,h=>by
  unfold bindL
  rw[IC fun w hw=>h w (List.mem_cons_of_mem _ hw)]
  split
  ·have:x≠n:=by rintro rfl;exact h v List.mem_cons_self
   simp[this]
  ·rfl
theorem Ih {kindOf:Str→Option NameKind} {x:Str}:∀{binds:List (Str×Value)} {m:Str→Option Value},(∀v,(x,v)∉binds)→bindC kindOf binds m x=m x
 | [],_,_=>rfl
 | (n,v)::r,m,h=>by
  unfold bindC
  rw[Ih fun w hw=>h w (List.mem_cons_of_mem _ hw)]
  split
  ·rfl
  ·have:x≠n:=by rintro rfl;exact h v List.mem_cons_self
   simp[this]
theorem HB {kindOf:Str→Option NameKind} {x:Str} {v:Value}:∀{P:List Str} {vs:List Value} {i:Nat} {m:Str→Option Value},P.Nodup→P[i]? = some x→vs[i]? = some v→kindOf x=some .local→
  bindL kindOf (P.zip vs) m x=some v
 | [],_,_,_,_,h,_,_=>by simp at h
 | _::_,[],_,_,_,_,h,_=>by simp at h
 | p::P,w::vs,0,m,nd,h1,h2,hk=>by
  simp at h1 h2;subst h1;subst h2
  show bindL kindOf ((p,w)::P.zip vs) m p=_
  unfold bindL
  rw[IC fun v hv=>(List.nodup_cons.mp nd).1 (List.of_mem_zip hv).1,if_pos hk]
  simp
 | p::P,w::vs,i+1,m,nd,h1,h2,hk=>by
  show bindL kindOf ((p,w)::P.zip vs) m x=_
  unfold bindL
  exact HB (i:=i) (List.nodup_cons.mp nd).2 (by simpa using h1) (by simpa using h2) hk
theorem Hz {kindOf:Str→Option NameKind} {x:Str} {v:Value}:∀{P:List Str} {vs:List Value} {i:Nat} {m:Str→Option Value},P.Nodup→P[i]? = some x→vs[i]? = some v→kindOf x≠some .local→
  bindC kindOf (P.zip vs) m x=some v
 | [],_,_,_,_,h,_,_=>by simp at h
 | _::_,[],_,_,_,_,h,_=>by simp at h
 | p::P,w::vs,0,m,nd,h1,h2,hk=>by
  simp at h1 h2;subst h1;subst h2
  show bindC kindOf ((p,w)::P.zip vs) m p=_
  unfold bindC
  rw[Ih fun v hv=>(List.nodup_cons.mp nd).1 (List.of_mem_zip hv).1,if_neg hk]
  simp
 | p::P,w::vs,i+1,m,nd,h1,h2,hk=>by
  show bindC kindOf ((p,w)::P.zip vs) m x=_
  unfold bindC
  exact Hz (i:=i) (List.nodup_cons.mp nd).2 (by simpa using h1) (by simpa using h2) hk
def EN (N:List Str) (vs:List V):St:=vs.map some++List.replicate (N.length-vs.length) none
def Jj (CX:MJ) (P:Program) (w:World) (K:PySem.W.Frag) (mg:Str→Option Value) (base:Heap) (N:List Str) (qual:Str) (scope:Scope) (f:Addr) (cd:Value) (A:Around) (outer:List Env) (s:Shared) (H:Hp) (E:XK):Cx where
 prog:=P
 w:=w
 K:=K
 mg:=mg
 base:=base
 A:=A.deeper (envOfC qual scope s.heap.objs.size f cd)
 N:=N
 s₀:=s
 H₀:=H
 env:=envOfC qual scope s.heap.objs.size f cd
 outer:=outer
 stack:=envOfC qual scope s.heap.objs.size f cd::outer
 ex:=[]
 calm:=true
 fn:=fun _=>true
 pn:=[]
 xe:=fun e s'=>wpAny (model P w) (A.deeper (envOfC qual scope s.heap.objs.size f cd)) (leaving (envOfC qual scope s.heap.objs.size f cd) e) (fun _ s''=>CX outer H s E e s'') (fun e' s''=>CX outer H s E e' s'') s'
theorem JT {sc:Scope} {n:Nat} {x:Str} (h:sc.names.lookup x=some .cell):∃c,(cellsFrom n sc.names []).lookup x=some c:=by
 have q:=PySem.W.cellsFrom_some sc.names n [] (.inl h)
 exact Option.isSome_iff_exists.mp q
theorem N0 {CX:MJ} {P:Program} {w:World} {K:PySem.W.Frag} {mg:Str→Option Value} {base:Heap} {N ps:List Str} {qual:Str} {scope:Scope} {f:Addr} {cd:Value} {A:Around} {outer:List Env} {s s1:Shared} {H:Hp} {E:XK} {us:List Value} {vs:List V}
  (S:Al N ps scope) (hd:A.handled=none) (e0:Env0 P w K mg base A outer s H) (hl:vs.length=ps.length) (r:Vals vs us)
  (x:InCallC s s.heap.objs.size (bindL (envOfC qual scope s.heap.objs.size f cd).kindOf (ps.zip us) fun _=>none) (cellsFrom (s.heap.objs.size+1) scope.names []) (bindC (envOfC qual scope s.heap.objs.size f cd).kindOf (ps.zip us) fun _=>none) s1) :
  Inv (Jj CX P w K mg base N qual scope f cd A outer s H E) [] (EN N vs) H s1:=by
 have hpl:ps.length≤N.length:=by have:=congrArg List.length S.pre;rw[List.length_take] at this;omega
 obtain⟨h1,tk,rfl,hk⟩:=x.done
 have noA:∀b:Addr,b∉(Jj CX P w K mg base N qual scope f cd A outer s H E).ex:=fun b z=>absurd (show b∈([]:List Addr) from z) (by simp)
 refine⟨⟨e0.mod,S.kind,rfl,rfl,Nat.le_refl _,fun y z c h1 h2=>?_,fun y hy=>?_,fun y c _ h=>?_,fun _=>hd,Around.frames_deeper e0.frames,.inr ⟨rfl,rfl⟩,fun b z=>absurd z (noA b),e0.bs,e0.bsz,fun b _ _=>noA b,fun b z=>absurd z (noA b),e0.funs,e0.frf⟩,
  rfl,e0.bare,Un.kept hk,⟨_,x.toInCall.ns,fun i y v h1 h2 h3=>?_⟩,fun y c h=>⟨_,x.cell y c h⟩,e0.hok.fresh (Nat.le_refl _),fun y c h=>?_,fun p hp=>absurd (show p∈([]:List (Addr×Obj)) from hp) (by simp),e0.hok.kept hk,?_⟩
 ·exact name_of_addr x.apart (PySem.mem_of_lookup h1) (PySem.mem_of_lookup h2)
 ·have hy:scope.names.lookup y=some .cell∨scope.names.lookup y=some .free:=hy
  rcases hy with hy | hy
  ·exact JT hy
  ·exact absurd rfl (S.nofree _ (PySem.mem_of_lookup hy))
 ·exact Nat.le_of_lt (x.above y c (PySem.mem_of_lookup h))
 ·have hi:i<vs.length:=by
   unfold EN at h2
   by_cases hi:i<vs.length
   ·exact hi
   ·rw[List.getElem?_append_right (by simpa using hi)] at h2
    rw[List.getElem?_replicate] at h2
    split at h2<;>cases h2
  have ha:vs[i]? = some v:=by
   unfold EN at h2
   rw[List.getElem?_append_left (by simpa using hi),List.getElem?_map] at h2
   cases e:vs[i]? with
   | none=>rw[e] at h2;cases h2
   | some a=>rw[e] at h2;cases h2;rfl
  obtain⟨u,hu,rv⟩:=r.get ha
  have hp:ps[i]? = some y:=by
   rw[←S.pre,List.getElem?_take_of_lt (by omega)];exact h1
  have ndP:ps.Nodup:=by rw[←S.pre];exact S.nd.sublist (List.take_sublist _ _)
  refine⟨u,rv,?_⟩
  rcases S.par y (List.mem_of_getElem? hp) with k | k
  ·exact .inl ⟨k,HB ndP hp hu k⟩
  ·obtain⟨c,e⟩:=JT (n:=s.heap.objs.size+1) k
   refine .inr ⟨.inl k,c,e,?_⟩
   have q:=x.cell y c e
   rw[Hz ndP hp hu (by show scope.names.lookup y≠_;rw[k];decide)] at q
   exact q
 ·exact e0.hok.fresh (Nat.le_of_lt (x.above y c (PySem.mem_of_lookup h)))
 ·unfold EN
  show _=N.length
  rw[List.length_append,List.length_map,List.length_replicate]
  omega
theorem S8 {CX:MJ} {P:Program} {w:World} {K:PySem.W.Frag} {mg:Str→Option Value} {base:Heap} {k:Nat} {f:Addr} {name qual:Str} {params:Arguments} {body:List Stmt} {scope:Scope} {dV kV doc pm cdv ct oc:Value} {an od:Option Addr}
  {osl:Array (Option Value)} {N ps:List Str} {sp:Sp} (lk:K.lookup f=some ⟨oc,od,.func (PySem.W.fnOf name qual params body scope dV kV doc pm an cdv ct),osl⟩) (hcd:PySem.W.codeIn K cdv qual=true) (S:Al N ps scope)
  (len:∀vs H Q E,sp vs H Q E→vs.length=ps.length)
  (hbody:∀(A:Around) (outer:List Env) (s:Shared) (H:Hp) (vs:List V) (Q:VK) (E:XK),Room k (A.deeper (envOfC qual scope s.heap.objs.size f cdv))→sp vs H Q E→
   ∃t,PSs (Jj CX P w K mg base N qual scope f cdv A outer s H E) body t∧t { nx:=fun _ H'=>Q .non H',rt:=Q } (EN N vs) H) :
  FnOk P w K mg base CX (k+1) f (PySem.W.fnOf name qual params body scope dV kV doc pm an cdv ct) ps sp:=by
 refine⟨len,fun A outer s H args us vs Q E hr e0 hb r hsp=>?_⟩
 have hl:=len _ _ _ _ hsp
 have KX:K.In s.heap:=e0.mod.kin.keeps fun b o e=>(e0.bs b o e).1
 have lim:s.heap.NoLimit:=e0.mod.nolimit.keeps fun b o e=>(e0.bs b o e).1
 have hkind:∀y∈ps.zip us,scope.names.lookup y.1=some .local∨(scope.names.lookup y.1=some .cell∧((cellsFrom (s.heap.objs.size+1) scope.names []).lookup y.1).isSome=true):=fun⟨n,v⟩ hy=>by
  rcases S.par n (List.of_mem_zip hy).1 with q | q
  ·exact .inl q
  ·exact .inr ⟨q,PySem.W.cellsFrom_some _ _ _ (.inl q)⟩
 refine codeAny_call_function hr.depth (KX _ _ lk) rfl S.co S.gen rfl (PySem.W.codeRec_of KX hcd) (hb _ _ _ _ ?_)
 refine wpAny_newFunctionEnv_cells S.kind hkind fun env he s1 x=>?_
 subst he
 refine⟨lim.keeps x.toInCall.keep,codeAny_func ?_⟩
 obtain⟨t,ht,hq⟩:=hbody A outer s H vs Q E (hr.deeper _) hsp
 have I:Inv (Jj CX P w K mg base N qual scope f cdv A outer s H E) [] (EN N vs) H s1:=N0 S hr.hd e0 hl r x
 refine wpAny_mono (ht [] s1 (EN N vs) H _ I hq) (fun fl s' hs=>?_) fun e s' hs=>hs
 have fin:∀{σ':St} {H':Hp} {v:V} {u:Value},Inv (Jj CX P w K mg base N qual scope f cdv A outer s H E) [] σ' H' s'→RelV v u→Q v H'→CE outer P w H s Q u s':=
  fun {σ' H' v u} J rv q=>⟨v,H',J.os,J.bare,J.base,J.hok,rv,q⟩
 cases fl with
 | ret u=>
  obtain⟨v,σ',H',J,rv,q⟩:=hs
  exact fin J rv q
 | next=>
  obtain⟨σ',H',J,q⟩:=hs
  exact fin (v:=V.non) (u:=Value.none) J rfl q
 | brk=>
  obtain⟨_,_,_,q⟩:=hs
  exact False.elim q
 | cont=>
  obtain⟨_,_,_,q⟩:=hs
  exact False.elim q
end L2
namespace L2
open PySem PySem.Spec PyProof.Rows
section
variable {X:Cx} {x:Str} {p pos:Pos} {e:Expr} {es:List Expr} {t:TA} {id T:String} {r:List V→Hp→VK→Prop}
def VU (r:List V→Hp→VK→Prop) (t:TA):TE:=fun σ H Q=>t σ H fun vs H1=>r vs H1 Q
theorem AG (hc:BC X (.builtin id) r) (hg:Gl X x) (hm:X.mg x=none) (hv:bootBuiltins x=some (.builtin id)) (ha:PA X (e::es) t) (hn:x≠"__name__":=by decide) (hdb:(x == ("__debug__":Str))=false:=by decide)
  (he:starEach (e::es) X.env=(false,eval e X.env)::starEach es X.env:=by rfl) (hpl:(backTo pos (starEach es X.env)).any (·.1)=false:=by rfl):PE X (.Call (.Name x p) (e::es) [] pos) (VU r t):=by
 intro pins s σ H Q I h
 refine wpAny_Call_Name_kw (Es I hg hm hv ?_ hn hdb)
 exact PyProof.Rows.callWith_builtin1 (AM (ha pos pins s σ H _ I h) fun us s1 ⟨vs,H1,I1,r1,q1⟩=>hc pins s1 σ H1 vs us Q I1 r1 q1) he hpl
theorem A3 (hc:BC X (.type T) r) (hg:Gl X x) (hm:X.mg x=none) (hv:bootBuiltins x=some (.type T)) (ha:PA X (e::es) t) (hn:x≠"__name__":=by decide) (hdb:(x == ("__debug__":Str))=false:=by decide)
  (he:starEach (e::es) X.env=(false,eval e X.env)::starEach es X.env:=by rfl) (hpl:(backTo pos (starEach es X.env)).any (·.1)=false:=by rfl):PE X (.Call (.Name x p) (e::es) [] pos) (VU r t):=by
 intro pins s σ H Q I h
 refine wpAny_Call_Name_kw (Es I hg hm hv ?_ hn hdb)
 exact PyProof.Rows.callWith_type1 (AM (ha pos pins s σ H _ I h) fun us s1 ⟨vs,H1,I1,r1,q1⟩=>hc pins s1 σ H1 vs us Q I1 r1 q1) he hpl
theorem Lg (hc:BC X (.type T) r) (hg:Gl X x) (hm:X.mg x=none) (hv:bootBuiltins x=some (.type T)) (hn:x≠"__name__":=by decide) (hdb:(x == ("__debug__":Str))=false:=by decide) :
  PE X (.Call (.Name x p) [] [] pos) (VU r UD):=by
 intro pins s σ H Q I h
 refine wpAny_Call_Name_kw (Es I hg hm hv ?_ hn hdb)
 exact PyProof.Rows.callWith_type0 (hc pins s σ H [] [] Q I .nil h)
end
end L2
namespace HT
open PySem PyProof.Rows
section
open PySem.SeqAt
open PySem.AutoSeq1 (wpAny_loadPart')
open PySem.MeetsSeq PySem.MeetsSeq2 PySem.MeetsSeq3
end
section
variable {prog:Program} {w:World} {A:Around} {E:Value→Shared→Prop} {s:Shared}
def sIx (n d:Nat):Option Int→Nat
 | none=>d
 | some v=>if v<0 then (v+(n:Int)).toNat else min v.toNat n
theorem sIx_none (n d:Nat):sIx n d none=d:=rfl
theorem sIx_nat (n d k:Nat):sIx n d (some (k:Int))=min k n:=by
 show (if (k:Int)<0 then ((k:Int)+(n:Int)).toNat else min (k:Int).toNat n)=min k n
 rw[if_neg (by omega),Int.toNat_natCast]
theorem Uq (n d:Nat) (hd:d≤n) (o:Option Int):sIx n d o≤n:=by
 cases o with
 | none=>exact hd
 | some v=>
  show (if v<0 then (v+(n:Int)).toNat else min v.toNat n)≤n
  by_cases hv:v<0
  ·rw[if_pos hv];omega
  ·rw[if_neg hv];exact Nat.min_le_right _ _
theorem LT (v:Int) (n d:Nat):(if v<0 then max (v+(n:Int)) 0 else min v (n:Int))=((sIx n d (some v):Nat):Int):=by
 show (if v<0 then max (v+(n:Int)) 0 else min v (n:Int))=(((if v<0 then (v+(n:Int)).toNat else min v.toNat n):Nat):Int)
 by_cases hv:v<0
 ·simp only[if_pos hv];omega
 ·simp only[if_neg hv];omega
theorem LI (lo hi:Option Int) (n:Nat):Builtin.Slice.sliceAdjust lo hi 1 (n:Int)=(((sIx n 0 lo:Nat):Int),((sIx n n hi:Nat):Int)):=by
 have h1:¬((1:Int)<0):=by omega
 unfold Builtin.Slice.sliceAdjust
 simp only[h1,if_false]
 refine Prod.ext ?_ ?_
 ·cases lo with
  | none=>rfl
  | some v=>exact LT v n 0
 ·cases hi with
  | none=>rfl
  | some v=>exact LT v n n
theorem LH (i j:Nat):Builtin.Slice.slicePlaces (i:Int) (j:Int) 1=j-i:=by
 unfold Builtin.Slice.slicePlaces
 have h1:(1:Int)>0:=by omega
 simp only[h1,if_true,Int.ediv_one]
 split<;>omega
theorem Gf {v:Value} {o:Option Int} {Q:Option Int→Shared→Prop} (p:IsPart v o) (h:Q o s):wpAny (model prog w) A (Builtin.Slice.slicePartIndex v) Q E s:=by
 cases p with
 | none=>exact slicePart_none h
 | int i t=>exact slicePart_int h
theorem Ff {sl:Addr} {vl vu:Value} {lo hi:Option Int} {n:Nat} {Q:Int×Int×Nat→Shared→Prop} (hs:s.heap.IsSliceOf sl vl vu .none) (pl:IsPart vl lo) (pu:IsPart vu hi)
  (h:Q (((sIx n 0 lo:Nat):Int),1,sIx n n hi-sIx n 0 lo) s):wpAny (model prog w) A (Builtin.Slice.sliceApplied (.ref sl) (pure (n:Int))) Q E s:=by
 obtain⟨os,hos,hcs,hds⟩:=id hs
 unfold Builtin.Slice.sliceApplied Builtin.Slice.sliceFields
 refine wpAny_bind (wpAny_bind (wpAny_field hos hds (x:=vl) rfl (wpAny_bind (wpAny_field hos hds (x:=vu) rfl (wpAny_bind (wpAny_field hos hds (x:=.none) rfl (wpAny_pure ?_)))))))
 refine wpAny_bind (slicePart_none ?_)
 show wpAny _ _ (if ((1:Int) == 0)=true then _ else _) _ _ s
 rw[if_neg (by decide)]
 refine wpAny_bind (Gf pl (wpAny_bind (Gf pu (wpAny_bind (wpAny_pure ?_)))))
 show wpAny _ _ (match Builtin.Slice.sliceAdjust lo hi 1 (n:Int) with | (lo,hi)=>pure (lo,(1:Int),Builtin.Slice.slicePlaces lo hi 1)) _ _ s
 rw[LI lo hi n]
 show wpAny _ _ (pure (((sIx n 0 lo:Nat):Int),(1:Int),Builtin.Slice.slicePlaces ((sIx n 0 lo:Nat):Int) ((sIx n n hi:Nat):Int) 1)) _ _ s
 rw[LH]
 exact wpAny_pure h
theorem Pc (xs:Array Value) (i k:Nat):((List.range k).filterMap fun (m:Nat)=>xs[((i:Int)+(m:Int)*1).toNat]?).toArray=((xs.toList.drop i).take k).toArray:=by
 have e:(fun (m:Nat)=>xs[((i:Int)+(m:Int)*1).toNat]?)=fun m=>xs[i+m]? :=by
  funext m
  have:((i:Int)+(m:Int)*1).toNat=i+m:=by omega
  rw[this]
 rw[e]
 have:=pick_run xs i k
 rw[List.filterMap_map] at this
 have e2:((fun x=>xs[x]?) ∘ fun x=>i+x)=fun m=>xs[i+m]? :=rfl
 rw[e2] at this
 rw[this]
theorem getItem_tuple_cut {t sl:Addr} {items:Array Value} {vl vu:Value} {lo hi:Option Int} {Q:Value→Shared→Prop} (ht:IsTup s.heap t items) (hs:s.heap.IsSliceOf sl vl vu .none) (pl:IsPart vl lo) (pu:IsPart vu hi)
  (hw:¬(sIx items.size 0 lo=0∧sIx items.size items.size hi=items.size))
  (h:Q (.ref s.heap.objs.size) { s with heap:=s.heap.push { cls:=.type "tuple",data:=.seq ((items.toList.drop (sIx items.size 0 lo)).take (sIx items.size items.size hi-sIx items.size 0 lo)).toArray } })
  (hsz:items.size≤sizeLine):wpAny (model prog w) A (getItem (.ref t) (.ref sl)) Q E s:=by
 have htake:sizeOk (.seq ((items.toList.drop (sIx items.size 0 lo)).take (sIx items.size items.size hi-sIx items.size 0 lo)).toArray):=by
  show ((items.toList.drop (sIx items.size 0 lo)).take (sIx items.size items.size hi-sIx items.size 0 lo)).toArray.size≤sizeLine
  rw[List.size_toArray,List.length_take,List.length_drop,Array.length_toList]
  omega
 have hj:sIx items.size items.size hi≤items.size:=Uq _ _ (Nat.le_refl _) hi
 obtain⟨os,hos,hcs,hds⟩:=id hs
 have hTs:s.TypeIs (.ref sl) "slice":=⟨os,hos,hcs⟩
 unfold getItem
 try with_reducible refine wpAny_holding ?_
 first | refine wpAny_bind (wpAny_pure ?_) | skip
 refine wpAny_bind (wpAny_sequenceKey ht.typeIs (by decide) ?_)
 refine wpAny_bind (wpAny_callSpecial?_slot (name:=Str.ofString "__getitem__") ht.typeIs PyProof.Rows.slot_tuple_getitem
  (wpAny_call_entry PyProof.Rows.slot_tuple_getitem ht.typeIs entry_tuple_getitem ?_ (args_tuple_getitem _ _)))
 show wpAny _ _ (Builtin.Tuple.tupleItemsOf (.ref t) >>= _) _ _ s
 refine wpAny_bind (tupleItemsOf_ ht ?_)
 refine wpAny_bind (wpAny_typeOf hTs ?_)
 rw[if_pos (by decide)]
 refine wpAny_bind (Ff hs pl pu ?_)
 have hno:¬((((sIx items.size 0 lo:Nat):Int) == 0 && (1:Int) == 1 && (sIx items.size items.size hi-sIx items.size 0 lo) == items.size)=true):=by
  intro q
  rw[Bool.and_eq_true,Bool.and_eq_true] at q
  have q1:((sIx items.size 0 lo:Nat):Int)=0:=eq_of_beq q.1.1
  have q2:sIx items.size items.size hi-sIx items.size 0 lo=items.size:=eq_of_beq q.2
  exact hw ⟨by omega,by omega⟩
 show wpAny _ _ (if (((sIx items.size 0 lo:Nat):Int) == 0 && (1:Int) == 1 && (sIx items.size items.size hi-sIx items.size 0 lo) == items.size)=true then _ else _) _ _ s
 rw[if_neg hno,Pc]
 first
  | exact wpAny_bind (m:=Builtin.Tuple.tupleExact _) (wpAny_newObj_type (wpAny_pure ⟨_,rfl,wpAny_pure h⟩) htake)
  | exact wpAny_bind (m:=Builtin.Tuple.tupleExact _) (wpAny_newObj_type (wpAny_bind (wpAny_pure (wpAny_pure ⟨_,rfl,wpAny_pure h⟩))) htake)
  | exact wpAny_bind (wpAny_bind (m:=Builtin.Tuple.tupleExact _) (wpAny_newObj_type (wpAny_pure (wpAny_pure ⟨_,rfl,wpAny_pure h⟩)) htake))
  | exact wpAny_bind (wpAny_bind (m:=Builtin.Tuple.tupleExact _) (wpAny_newObj_type (wpAny_pure ⟨_,rfl,wpAny_pure h⟩) htake))
end
end HT
namespace L2
open PySem PySem.Spec PyProof.Rows
abbrev TO:=St→Hp→(Option Int→Hp→Prop)→Prop
def PO (X:Cx) (e:Option Expr) (t:TO):Prop:=
 ∀(pins:List (Addr×Obj)) (s:Shared) (σ:St) (H:Hp) (Q:Option Int→Hp→Prop),Inv X pins σ H s→t σ H Q→
  wpAny (model X.prog X.w) X.A (evalPart e X.env) (fun u s'=>∃o H',Inv X pins σ H' s'∧IsPart u o∧Q o H') X.xe s
def R6:TO:=fun _ H Q=>Q none H
def U8 (t:TE):TO:=fun σ H Q=>t σ H fun x H1=>∃i,x= .int i∧Q (some i) H1
section
variable {X:Cx} {e:Expr} {te:TE} {lo hi:Option Expr} {tl th:TO} {pos p2:Pos}
theorem Mo:PO X none R6:=by
 intro pins s σ H Q I h
 rw[evalPart_none]
 exact wpAny_pure ⟨none,H,I,.none,h⟩
theorem Mg (h:PE X e te):PO X (some e) (U8 te):=by
 intro pins s σ H Q I hw
 rw[evalPart_some]
 refine AM (h pins s σ H _ I hw) fun u s1 ⟨x,H1,I1,r1,q1⟩=>?_
 obtain⟨i,rfl,q⟩:=q1
 obtain⟨t,rfl⟩:=r1
 exact⟨some i,H1,I1,.int i t,q⟩
def VZ (X:Cx) (r:V→Option Int→Option Int→Hp→VK→Prop):Prop:=
 ∀(pins:List (Addr×Obj)) (s:Shared) (σ:St) (H:Hp) (x:V) (v vl vu:Value) (lo hi:Option Int) (sl:Addr) (Q:VK),Inv X pins σ H s→RelV x v→s.heap.IsSliceOf sl vl vu .none→IsPart vl lo→IsPart vu hi→r x lo hi H Q→
  ∃T id,typeLookup (.type T) "__getitem__"=pure (some (.builtin id))∧s.TypeIs v T∧wpAny (model X.prog X.w) X.A (getItem v (.ref sl)) (EP X pins σ Q) X.xe s
def WY (r:V→Option Int→Option Int→Hp→VK→Prop) (te:TE) (tl th:TO):TE:=fun σ H Q=>te σ H fun x H1=>tl σ H1 fun l H2=>th σ H2 fun u H3=>r x l u H3 Q
theorem JH {r:V→Option Int→Option Int→Hp→VK→Prop} (hr:VZ X r) (he:PE X e te) (hl:PO X lo tl) (hu:PO X hi th):PE X (.Subscript e (.Slice lo hi none p2) pos) (WY r te tl th):=by
 intro pins s σ H Q I h
 refine Subscript_ (AM (he pins s σ H _ I h) fun v s1 ⟨x,H1,I1,r1,q1⟩=>?_)
 refine wpAny_Slice (AM (hl pins s1 σ H1 _ I1 q1) fun vl s2 ⟨l,H2,I2,pl,q2⟩=>AM (hu pins s2 σ H2 _ I2 q2) fun vu s3 ⟨u,H3,I3,pu,q3⟩=>?_)
 rw[evalPart_none]
 refine wpAny_pure ?_
 have I4:Inv X pins σ H3 { s3 with heap:=s3.heap.push { cls:=.type "slice",data:=.fields #[vl,vu,.none] } }:=I3.kept (t':=s3.toks) fun b ob q=>Heap.get?_push_of_some _ q
 obtain⟨T,id,hT,ht,hg⟩:=hr pins { s3 with heap:=s3.heap.push { cls:=.type "slice",data:=.fields #[vl,vu,.none] } } σ H3 x v vl vu l u s3.heap.objs.size Q I4 r1 (Heap.IsSliceOf.new ..) pl pu q3
 show wpAny (model X.prog X.w) X.A (subscriptTail e (.Slice lo hi none p2) v (.ref s3.heap.objs.size)) (EP X pins σ Q) X.xe { s3 with heap:=s3.heap.push { cls:=.type "slice",data:=.fields #[vl,vu,.none] } }
 exact tail_any (ops:=[.ref s3.heap.objs.size,v]) ht hT hg (by with_unfolding_all rfl)
def Go (xs:List V) (lo hi:Option Int):List V:=(xs.drop (HT.sIx xs.length 0 lo)).take (HT.sIx xs.length xs.length hi-HT.sIx xs.length 0 lo)
theorem FK (xs:List V) (lo hi:Option Int):(Go xs lo hi).length≤xs.length:=by
 unfold Go
 rw[List.length_take,List.length_drop]
 omega
def Wt (K:PySem.W.Frag):V→Option Int→Option Int→Hp→VK→Prop:=fun x lo hi H Q=>∃a xs,x= .ref a∧SqT K H a xs∧
 ¬(HT.sIx xs.length 0 lo=0∧HT.sIx xs.length xs.length hi=xs.length)∧∀p,H p=none→Q (.ref p) (upd H p (.tup (Go xs lo hi)))
theorem To:VZ X (Wt X.K):=by
 intro pins s σ H x v vl vu lo hi sl Q I rx hs pl pu h
 obtain⟨a,xs,rfl,hx,hw,q⟩:=h
 cases rx
 obtain⟨its,r,ht,hz⟩:=I.tuple hx
 have hlen:its.toArray.size=xs.length:=by rw[List.size_toArray];exact r.length.symm
 refine⟨"tuple",_,PyProof.Rows.slot_tuple_getitem.lookup,ht.typeIs,?_⟩
 refine HT.getItem_tuple_cut ht hs pl pu (by rw[hlen];exact hw) ?_ (by rw[hlen];exact hz)
 rw[hlen]
 refine⟨.ref s.heap.objs.size,_,I.laid (t':=s.toks) (o:=.tup (Go xs lo hi)) (fun b ob q=>Heap.get?_push_of_some _ q) (Nat.le_refl _) ?_,rfl,q _ (I.hok.fresh (Nat.le_refl _))⟩
 exact⟨Nat.le_trans (FK xs lo hi) hz,_,(r.drop (HT.sIx xs.length 0 lo)).take (HT.sIx xs.length xs.length hi-HT.sIx xs.length 0 lo),IsTup.new _ _⟩
end
end L2
namespace L2
open PySem PySem.Spec PyProof.Rows
def S0 (n:Nat) (i:Int):Option Nat:=if 0≤i then (if i<n then some i.toNat else none) else if -(n:Int)≤i then some (i+n).toNat else none
def Dv {α:Type} (xs:List α) (i:Int):Option α:=(S0 xs.length i).bind fun j=>xs[j]?
theorem R3 {n:Nat} {i:Int} {j:Nat} (h:S0 n i=some j):seqIndex? i n=some j∧j<n∧-(n:Int)≤i∧i<n:=by
 unfold S0 at h
 by_cases h0:0≤i
 ·rw[if_pos h0] at h
  by_cases h1:i<n
  ·rw[if_pos h1] at h
   have e:i.toNat=j:=Option.some.inj h
   exact⟨by rw[seqIndex_of h0 h1,e],by omega,by omega,h1⟩
  ·rw[if_neg h1] at h;cases h
 ·rw[if_neg h0] at h
  by_cases h1 : -(n:Int)≤i
  ·rw[if_pos h1] at h
   have e:(i+n).toNat=j:=Option.some.inj h
   exact⟨by rw[seqIndex_neg (by omega) h1,e],by omega,h1,by omega⟩
  ·rw[if_neg h1] at h;cases h
theorem IK {α:Type} {xs:List α} {i:Int} {v:α} (h:Dv xs i=some v):∃j,seqIndex? i xs.length=some j∧xs[j]? = some v∧j<xs.length∧-(xs.length:Int)≤i∧i<xs.length:=by
 unfold Dv at h
 cases e:S0 xs.length i with
 | none=>rw[e] at h;cases h
 | some j=>
  rw[e] at h
  obtain⟨h1,h2,h3,h4⟩:=R3 e
  exact⟨j,h1,h,h2,h3,h4⟩
theorem As {α:Type} {xs:List α} {j:Nat} {v:α} (h:xs[j]? = some v):Dv xs (j:Int)=some v:=by
 have hj:j<xs.length:=(List.getElem?_eq_some_iff.mp h).1
 have e:S0 xs.length (j:Int)=some j:=by
  unfold S0
  rw[if_pos (by omega),if_pos (by omega)];simp
 unfold Dv;rw[e];exact h
def Sl (b:Expr):Prop:=∀o i,subscripted b false o i=operate [o,i] (getItem o i)
def UO (X:Cx) (r:R2):Prop:=
 ∀(value slice:Expr) (pins:List (Addr×Obj)) (s:Shared) (σ:St) (H:Hp) (x y:V) (v u:Value) (Q:VK),Inv X pins σ H s→RelV x v→RelV y u→r x y H Q→
  subscripted slice false v u=operate [v,u] (getItem v u)→wpAny (model X.prog X.w) X.A (subscriptTail value slice v u) (EP X pins σ Q) X.xe s
def VN (X:Cx) (id:String) (r:V→List V→Hp→VK→Prop):Prop:=
 ∀(pins:List (Addr×Obj)) (s:Shared) (σ:St) (H:Hp) (x:V) (xs:List V) (v:Value) (us:List Value) (Q:VK),Inv X pins σ H s→RelV x v→Vals xs us→r x xs H Q→
  wpAny (model X.prog X.w) X.A (call (.builtin id) (v::us)) (EP X pins σ Q) X.xe s
section
variable {X:Cx} {a b:Expr} {ta tb:TE} {pos:Pos}
theorem AL {r:R2} (hr:UO X r) (ha:PE X a ta) (hb:PE X b tb) (hs:Sl b):PE X (.Subscript a b pos) (VO r ta tb):=by
 intro pins s σ H Q I h
 exact Subscript_ (Tz ha hb I h fun v u s2 x y H2 I2 rx ry q=>hr a b pins s2 σ H2 x y v u Q I2 rx ry q (hs _ _))
def Wm (K:PySem.W.Frag):R2:=fun x y H Q=>∃p xs i v,x= .ref p∧y= .int i∧SqL K H p xs∧Dv xs i=some v∧Q v H
def Wz (K:PySem.W.Frag):R2:=fun x y H Q=>∃p xs i v,x= .ref p∧y= .int i∧SqT K H p xs∧Dv xs i=some v∧Q v H
def V2:R2:=fun x y H Q=>∃z i c,x= .str z∧y= .int i∧z.length≤sizeLine∧Dv z.cps.toList i=some c∧Q (.str ⟨#[c]⟩) H
theorem AI:UO X (Wm X.K):=by
 intro value slice pins s σ H x y v u Q I rx ry h hs
 obtain⟨p,xs,i,z,rfl,rfl,hq,he,q⟩:=h
 cases rx
 obtain⟨t,rfl⟩:=ry
 obtain⟨its,r,pl,hz⟩:=I.list hq
 obtain⟨j,h1,h2,h3,h4,h5⟩:=IK he
 obtain⟨w,ew,rw'⟩:=r.get h2
 have hl:=r.length
 have hn:=Fe
 have fin:EP X pins σ Q w s:=⟨z,H,I,rw',q⟩
 by_cases h0:0≤i
 ·have hj:i.toNat=j:=by
   rw[seqIndex_of h0 h5] at h1
   exact Option.some.inj h1
  exact item_listR pl.isList h0 (by omega) (by rw[hj];simpa using ew) fin hs
 ·have hj:(i+(its.toArray.size:Int)).toNat=j:=by
   rw[seqIndex_neg (by omega) h4] at h1
   rw[List.size_toArray,←hl]
   exact Option.some.inj h1
  exact subscriptTail_builtinR (x:=w) pl.isList.typeIs slot_list_getitem.lookup
   (wpAny_getItem_list_neg (Q:=fun r s'=>r=w∧EP X pins σ Q r s') pl.isList (by omega) (by rw[List.size_toArray]<;>omega) (by omega) (by rw[hj];simpa using ew) ⟨rfl,fin⟩) hs
theorem BH:UO X (Wz X.K):=by
 intro value slice pins s σ H x y v u Q I rx ry h hs
 obtain⟨p,xs,i,z,rfl,rfl,hq,he,q⟩:=h
 cases rx
 obtain⟨t,rfl⟩:=ry
 obtain⟨its,r,pl,hz⟩:=I.tuple hq
 obtain⟨j,h1,h2,h3,h4,h5⟩:=IK he
 obtain⟨w,ew,rw'⟩:=r.get h2
 have hl:=r.length
 have hn:=Fe
 have fin:EP X pins σ Q w s:=⟨z,H,I,rw',q⟩
 exact subscriptTail_builtinR (x:=w) pl.typeIs slot_tuple_getitem.lookup
  (getItem_tuple (j:=j) (Q:=fun r s'=>r=w∧EP X pins σ Q r s') pl (by omega) (by omega) (by rw[List.size_toArray,←hl];exact h1) (by simpa using ew) ⟨rfl,fin⟩) hs
theorem Qh:UO X V2:=by
 intro value slice pins s σ H x y v u Q I rx ry h hs
 obtain⟨z,i,c,rfl,rfl,hz,he,q⟩:=h
 obtain⟨t,rfl⟩:=rx
 obtain⟨t',rfl⟩:=ry
 obtain⟨j,h1,h2,h3,h4,h5⟩:=IK he
 have hl:z.cps.toList.length=z.length:=by simp[Str.length]
 rw[hl] at h1 h4 h5
 have hn:=Fe
 exact tail_any (typeIs_str s z t) slot_str_getitem.lookup (getItem_str (c:=c) (by
  have e1:decide (i < -(2^63:Int))=false:=decide_eq_false (by omega)
  have e2:decide (i≥2^63)=false:=decide_eq_false (by omega)
  rw[e1,e2,Bool.or_false]) (by rw[h1];simpa using h2) ⟨.str ⟨#[c]⟩,H,I.tok _,⟨_,rfl⟩,q⟩) hs
theorem Jb (lo hi:Option Int) (n:Nat):(sliceBounds lo hi none n).1=((HT.sIx n 0 lo:Nat):Int)∧(sliceBounds lo hi none n).2.1=((HT.sIx n n hi:Nat):Int)∧(sliceBounds lo hi none n).2.2=1:=by
 refine⟨?_,?_,rfl⟩
 ·cases lo with
  | none=>simp[sliceBounds,HT.sIx]
  | some i=>
   simp only[sliceBounds,HT.sIx,Option.getD_none,show (1:Int)>0 by decide,if_true]
   by_cases h:i<0
   ·simp only[h,if_true]<;>omega
   ·simp only[h,if_false]<;>omega
 ·cases hi with
  | none=>simp[sliceBounds,HT.sIx]
  | some i=>
   simp only[sliceBounds,HT.sIx,Option.getD_none,show (1:Int)>0 by decide,if_true]
   by_cases h:i<0
   ·simp only[h,if_true]<;>omega
   ·simp only[h,if_false]<;>omega
theorem Hu (its:List Value) (lo hi:Option Int):slicePick its.toArray lo hi none=((its.drop (HT.sIx its.length 0 lo)).take (HT.sIx its.length its.length hi-HT.sIx its.length 0 lo)).toArray:=by
 obtain⟨h1,h2,h3⟩:=Jb lo hi its.toArray.size
 unfold slicePick
 rw[h1,h2,h3]
 simp only[sliceRange_one,pick_run,List.size_toArray]<;>rfl
def V3 (K:PySem.W.Frag):V→Option Int→Option Int→Hp→VK→Prop:=fun x lo hi H Q=>∃a xs,x= .ref a∧SqL K H a xs∧∀p,H p=none→Q (.ref p) (upd H p (.lst (Go xs lo hi)))
theorem Rt:VZ X (V3 X.K):=by
 intro pins s σ H x v vl vu lo hi sl Q I rx hs pl pu h
 obtain⟨a,xs,rfl,hx,q⟩:=h
 cases rx
 obtain⟨its,r,ht,hz⟩:=I.list hx
 have hlen:=r.length
 refine⟨"list",_,slot_list_getitem.lookup,ht.isList.typeIs,?_⟩
 refine wpAny_getItem_list_slice ht.isList hs pl pu .none (by simp) ?_ (by rw[List.size_toArray]<;>omega)
 rw[Hu,←hlen]
 refine⟨.ref s.heap.objs.size,_,I.laid (t':=s.toks) (o:=.lst (Go xs lo hi)) (fun b ob q=>Heap.get?_push_of_some _ q) (Nat.le_refl _) ?_,rfl,q _ (I.hok.fresh (Nat.le_refl _))⟩
 exact⟨Nat.le_trans (FK xs lo hi) hz,_,0,(r.drop (HT.sIx xs.length 0 lo)).take (HT.sIx xs.length xs.length hi-HT.sIx xs.length 0 lo),Heap.get?_push_size _ rfl⟩
def EJ:V→Bool
 | .non=>true
 | .bl _=>true
 | .int _=>true
 | .str _=>true
 | _=>false
def Rb:V→V→Bool
 | .non,.non=>true
 | .bl a,.bl b=>a == b
 | .bl a,.int b=>(if a then 1 else 0) == b
 | .int a,.bl b=>a == (if b then 1 else 0)
 | .int a,.int b=>a == b
 | .str a,.str b=>a == b
 | _,_=>false
theorem Uc {A:Around} {s:Shared} {y x:V} {u v:Value} (ry:RelV y u) (rx:RelV x v) (fy:EJ y=true) (fx:EJ x=true):SeqAt.EqAt A s u v (Rb y x):=by
 cases y with
 | non=>
  cases ry
  cases x with
  | non=>cases rx;exact SeqAt.EqAt.same _
  | bl b=>cases rx;exact SeqAt.EqAt.none_bool b
  | int b=>obtain⟨t,rfl⟩:=rx;exact SeqAt.EqAt.none_int b t
  | str b=>obtain⟨t,rfl⟩:=rx;exact SeqAt.EqAt.none_str b t
  | _=>exact absurd (show false=true from fx) Bool.false_ne_true
 | bl a=>
  cases ry
  cases x with
  | non=>cases rx;exact SeqAt.EqAt.bool_none a
  | bl b=>cases rx;exact SeqAt.EqAt.bool_bool a b
  | int b=>obtain⟨t,rfl⟩:=rx;exact SeqAt.EqAt.bool_int a b t
  | str b=>obtain⟨t,rfl⟩:=rx;exact SeqAt.EqAt.bool_str a b t
  | _=>exact absurd (show false=true from fx) Bool.false_ne_true
 | int a=>
  obtain⟨t',rfl⟩:=ry
  cases x with
  | non=>cases rx;exact SeqAt.EqAt.int_none a t'
  | bl b=>cases rx;exact SeqAt.EqAt.int_bool a t' b
  | int b=>obtain⟨t,rfl⟩:=rx;exact SeqAt.EqAt.int_int a t' b t
  | str b=>obtain⟨t,rfl⟩:=rx;exact SeqAt.EqAt.int_str a t' b t
  | _=>exact absurd (show false=true from fx) Bool.false_ne_true
 | str a=>
  obtain⟨t',rfl⟩:=ry
  cases x with
  | non=>cases rx;exact SeqAt.EqAt.str_none a t'
  | bl b=>cases rx;exact SeqAt.EqAt.str_bool a t' b
  | int b=>obtain⟨t,rfl⟩:=rx;exact SeqAt.EqAt.str_int a t' b t
  | str b=>obtain⟨t,rfl⟩:=rx;exact SeqAt.EqAt.str_str a t' b t
  | _=>exact absurd (show false=true from fx) Bool.false_ne_true
 | _=>exact absurd (show false=true from fy) Bool.false_ne_true
def KP (x:V) (u:Value):Bool:=match u with
 | .none=>Rb .non x
 | .bool b=>Rb (.bl b) x
 | .int i _=>Rb (.int i) x
 | .str z _=>Rb (.str z) x
 | _=>false
theorem P2 {x y:V} {u:Value} (r:RelV y u) (f:EJ y=true):KP x u=Rb y x:=by
 cases y with
 | non=>cases r;rfl
 | bl b=>cases r;rfl
 | int i=>obtain⟨t,rfl⟩:=r;rfl
 | str z=>obtain⟨t,rfl⟩:=r;rfl
 | _=>exact absurd (show false=true from f) Bool.false_ne_true
theorem EQ {x:V}:∀{xs:List V} {us:List Value},Vals xs us→xs.all EJ=true→us.any (KP x)=xs.any fun y=>Rb y x
 | _,_,.nil,_=>rfl
 | y::xs,u::us,.cons r t,f=>by
  rw[List.all_cons,Bool.and_eq_true] at f
  rw[List.any_cons,List.any_cons,P2 r f.1,EQ t f.2]
theorem DF {A:Around} {s:Shared} {x:V} {v:Value} (rx:RelV x v) (fx:EJ x=true):∀{xs:List V} {us:List Value},Vals xs us→xs.all EJ=true→∀u∈us,SeqAt.EqAt A s u v (KP x u)
 | _,_,.nil,_=>fun u hu=>by cases hu
 | y::xs,u::us,.cons r t,f=>fun u' hu=>by
  rw[List.all_cons,Bool.and_eq_true] at f
  rcases List.mem_cons.mp hu with rfl | hu
  ·rw[P2 r f.1];exact Uc r rx f.1 fx
  ·exact DF rx fx t f.2 u' hu
def OE (x:V) (xs:List V):Bool:=xs.any fun y=>Rb y x
def WI (K:PySem.W.Frag) (neg:Bool):R2:=fun x y H Q=>∃p xs,y= .ref p∧(SqL K H p xs∨SqT K H p xs)∧EJ x=true∧xs.all EJ=true∧Q (.bl (if neg then !OE x xs else OE x xs)) H
theorem HC:Dw X (compareOp .In) (WI X.K false):=by
 intro pins s σ H x y v u Q I rx ry h
 obtain⟨p,xs,rfl,hq,fx,fs,q⟩:=h
 cases ry
 rcases hq with hq | hq
 ·obtain⟨its,r,pl,hz⟩:=I.list hq
  refine SeqAt.in_listAt (KP x) pl.isList (fun w hw=>DF rx fx r fs w (by simpa using hw)) ⟨.bl _,H,I,rfl,?_⟩
  rw[show its.toArray.any (KP x)=its.any (KP x) by simp,EQ r fs]
  exact q
 ·obtain⟨its,r,pl,hz⟩:=I.tuple hq
  refine SeqAt.in_tupleAt (KP x) pl (fun w hw=>DF rx fx r fs w (by simpa using hw)) ⟨.bl _,H,I,rfl,?_⟩
  rw[show its.toArray.any (KP x)=its.any (KP x) by simp,EQ r fs]
  exact q
theorem EL:Dw X (compareOp .NotIn) (WI X.K true):=by
 intro pins s σ H x y v u Q I rx ry h
 obtain⟨p,xs,rfl,hq,fx,fs,q⟩:=h
 cases ry
 rcases hq with hq | hq
 ·obtain⟨its,r,pl,hz⟩:=I.list hq
  refine SeqAt.notIn_listAt (KP x) pl.isList (fun w hw=>DF rx fx r fs w (by simpa using hw)) ⟨.bl _,H,I,rfl,?_⟩
  rw[show its.toArray.any (KP x)=its.any (KP x) by simp,EQ r fs]
  exact q
 ·obtain⟨its,r,pl,hz⟩:=I.tuple hq
  refine SeqAt.notIn_tupleAt (KP x) pl (fun w hw=>DF rx fx r fs w (by simpa using hw)) ⟨.bl _,H,I,rfl,?_⟩
  rw[show its.toArray.any (KP x)=its.any (KP x) by simp,EQ r fs]
  exact q
theorem A8:BC X (.builtin "len") (fun xs H Q=>∃p ys,xs=[.ref p]∧(SqL X.K H p ys∨SqT X.K H p ys)∧Q (.int ys.length) H):=by
 intro pins s σ H xs us Q I r h
 obtain⟨p,ys,rfl,hq,q⟩:=h
 obtain⟨u,rfl,rx⟩:=Cr r
 cases rx
 have hn:=Fe
 rcases hq with hq | hq
 ·obtain⟨its,r',pl,hz⟩:=I.list hq
  have hlen:=r'.length
  exact Calls.call_len_list pl.isList (by simp only[List.size_toArray]<;>omega) ⟨.int ys.length,H,I.tok _,⟨s.toks+1,by rw[List.size_toArray,hlen]⟩,q⟩
 ·obtain⟨its,r',pl,hz⟩:=I.tuple hq
  have hlen:=r'.length
  exact len_tuple pl (by simp only[List.size_toArray]<;>omega) ⟨.int ys.length,H,I.tok _,⟨s.toks+1,by rw[List.size_toArray,hlen]⟩,q⟩
theorem IY:BC X (.builtin "len") (fun xs H Q=>∃z,xs=[.str z]∧z.length≤sizeLine∧Q (.int z.length) H):=by
 intro pins s σ H xs us Q I r h
 obtain⟨z,rfl,hz,q⟩:=h
 obtain⟨u,rfl,t,rfl⟩:=Cr r
 have hn:=Fe
 exact len_str (by omega) ⟨.int z.length,H,I.tok _,⟨_,rfl⟩,q⟩
theorem Bs:BC X (.type "list") (fun xs H Q=>∃p ys,xs=[.ref p]∧(SqL X.K H p ys∨SqT X.K H p ys)∧∀l,H l=none→Q (.ref l) (upd H l (.lst ys))):=by
 intro pins s σ H xs us Q I r h
 obtain⟨p,ys,rfl,hq,q⟩:=h
 obtain⟨u,rfl,rx⟩:=Cr r
 cases rx
 have fin:∀(its:List Value),Vals ys its→ys.length≤sizeLine→∀(h':Heap) (c':Nat),(∀b o',s.heap.get? b=some o'→h'.get? b=some o')→
   h'.get? s.heap.objs.size=some { cls:=.type "list",dict:=none,data:=.seq its.toArray c',slots:=#[] }→EP X pins σ Q (.ref s.heap.objs.size) { s with heap:=h' }:=fun its r' hz h' c' kp e=>
  ⟨.ref s.heap.objs.size,_,I.laid (t':=s.toks) kp (Nat.le_refl _) (show ObjOk X.prog X.w _ h' _ (.lst ys) from⟨hz,its,c',r',e⟩),rfl,q _ (I.hok.fresh (Nat.le_refl _))⟩
 rcases hq with hq | hq
 ·obtain⟨its,r',pl,hz⟩:=I.list hq
  have hlen:=r'.length
  obtain⟨o,ho,hc,n,hd⟩:=pl.isList
  exact call_list_seq p (.inl rfl) ho hc hd (fun h' c' kp e=>fin its r' hz h' c' kp e) (by simp only[List.size_toArray]<;>omega)
 ·obtain⟨its,r',pl,hz⟩:=I.tuple hq
  have hlen:=r'.length
  obtain⟨o,ho,hc,n,hd⟩:=pl
  exact call_list_seq p (.inr rfl) ho hc hd (fun h' c' kp e=>fin its r' hz h' c' kp e) (by simp only[List.size_toArray]<;>omega)
def Wl (K:PySem.W.Frag) (T:String) (x:V) (H:Hp):Prop:=match x with
 | .str _=>T="str"
 | .int _=>T="int"
 | .ref p=>(T="list"∧∃xs,SqL K H p xs)∨(T="tuple"∧∃o,K.lookup p=some o∧o.cls= .type "tuple"∧o.dict=none)∨
   (T="dict"∧((∃kvs,H p=some (.dK kvs))∨∃kvs,H p=some (.dT kvs)))∨(T="set"∧∃S n,H p=some (.set S n))
 | _=>False
theorem Q3 {pins:List (Addr×Obj)} {σ:St} {H:Hp} {s:Shared} {T:String} {x:V} {v:Value} (I:Inv X pins σ H s) (r:RelV x v) (ty:Wl X.K T x H) :
  s.TypeIs v T∧∀a,v= .ref a→∃ob,s.heap.get? a=some ob∧ob.dict=none:=by
 cases x with
 | str z=>
  obtain⟨t,rfl⟩:=r
  cases (show T="str" from ty)
  exact⟨typeIs_str s z t,fun _ e=>nomatch e⟩
 | int i=>
  obtain⟨t,rfl⟩:=r
  cases (show T="int" from ty)
  exact⟨typeIs_int s i t,fun _ e=>nomatch e⟩
 | ref p=>
  cases r
  rcases ty with⟨rfl,xs,hq⟩|⟨rfl,o,hk,hc,hd⟩|⟨rfl,hk⟩|⟨rfl,S,n,hk⟩
  ·obtain⟨its,_,pl,_⟩:=I.list hq
   refine⟨pl.isList.typeIs,fun a e=>?_⟩
   cases e
   obtain⟨o,n,e,c,hd,_⟩:=pl
   exact⟨o,e,hd⟩
  ·refine⟨⟨o,I.kIn p o hk,hc⟩,fun a e=>?_⟩
   cases e
   exact⟨o,I.kIn _ o hk,hd⟩
  ·have z:∃o,s.heap.get? p=some o∧o.ExactDict:=by
    rcases hk with⟨kvs,hk⟩|⟨kvs,hk⟩
    ·obtain⟨_,_,_,_,o,_,_,e,ex,_⟩:=I.hok p _ hk
     exact⟨o,e,ex⟩
    ·obtain⟨_,_,_,_,o,_,_,e,ex,_⟩:=I.hok p _ hk
     exact⟨o,e,ex⟩
   obtain⟨o,e,ex⟩:=z
   refine⟨⟨o,e,ex.1⟩,fun a e2=>?_⟩
   cases e2
   exact⟨o,e,ex.2.1⟩
  ·obtain⟨o,_,_,_,e,ex,_⟩:=I.hok p _ hk
   refine⟨⟨o,e,ex.1⟩,fun a e2=>?_⟩
   cases e2
   exact⟨o,e,ex.2.1⟩
 | _=>exact False.elim ty
def V1 (K:PySem.W.Frag) (T:String) (r:V→List V→Hp→VK→Prop) (to:TE):TE:=fun σ H Q=>to σ H fun x H1=>Wl K T x H1∧r x [] H1 Q
def WR (K:PySem.W.Frag) (T:String) (r:V→List V→Hp→VK→Prop) (to:TE) (t:TA):TE:=fun σ H Q=>to σ H fun x H1=>Wl K T x H1∧t σ H1 fun xs H2=>r x xs H2 Q
variable {o e:Expr} {es:List Expr} {to:TE} {t:TA} {name:Str} {apos cpos:Pos} {T id:String} {r:V→List V→Hp→VK→Prop}
theorem Ce (pa:PlainAttrs T) (slot:Slot T name id) (hty:typeOf (.builtin id)=pure (.type "method_descriptor")) (hm:VN X id r) (ho:PE X o to)
  (hbase:attributeBase o name X.env (eval o X.env)=eval o X.env:=by rfl) (hline:(apos.endLine == cpos.line)=true:=by rfl):PE X (.Call (.Attribute o name apos) [] [] cpos) (V1 X.K T r to):=by
 intro pins s σ H Q I h
 refine wpAny_Call_method0_late hbase hline (AM (ho pins s σ H _ I h) fun v s1 ⟨x,H1,I1,r1,ty,q1⟩=>?_)
 obtain⟨h1,h2⟩:=Q3 I1 r1 ty
 exact⟨T,id,pa,slot,hty,h1,h2,Calls.callWith_builtin rfl (PySem.evalArgs_none (hm pins s1 σ H1 x [] v [] Q I1 r1 .nil q1))⟩
theorem Bw (pa:PlainAttrs T) (slot:Slot T name id) (hty:typeOf (.builtin id)=pure (.type "method_descriptor")) (hm:VN X id r) (ho:PE X o to) (ha:PA X (e::es) t)
  (hbase:attributeBase o name X.env (eval o X.env)=eval o X.env:=by rfl)
  (hfew:((backTo cpos (starEach (e::es) X.env)).all (fun x=>!x.1) && (backToKw cpos (keywordEach [] X.env)).all (fun x=>x.1.isSome)
   && decide ((e::es).length+([]:List Keyword).length+(if ([]:List Keyword).isEmpty then 0 else 1)<30))=true:=by rfl)
  (hline:(apos.endLine == cpos.line)=true:=by rfl) (hs:starEach (e::es) X.env=(false,eval e X.env)::starEach es X.env:=by rfl) (hplain:(backTo cpos (starEach es X.env)).any (·.1)=false:=by rfl) :
  PE X (.Call (.Attribute o name apos) (e::es) [] cpos) (WR X.K T r to t):=by
 intro pins s σ H Q I h
 refine wpAny_Call_method_late hbase hfew hline rfl (AM (ho pins s σ H _ I h) fun v s1 ⟨x,H1,I1,r1,ty,q1⟩=>?_)
 obtain⟨h1,h2⟩:=Q3 I1 r1 ty
 refine⟨T,id,pa,slot,hty,h1,h2,?_⟩
 have hA:=ha cpos pins s1 σ H1 _ I1 q1
 rw[hs] at hA ⊢
 refine Calls.callWith_builtin (by show (false || (backTo cpos (starEach es X.env)).any (·.1))=false;rw[hplain]<;>rfl) (Calls.evalArgs_plain ?_)
 exact AM hA fun us s2 ⟨vs,H2,I2,r2,q2⟩=>hm pins s2 σ H2 x vs v us Q I2 r1 r2 q2
end
end L2
namespace L2
open PySem PySem.Spec PyProof.Rows
def VS (X:Cx) (id:String) (r:V→List V→Hp→VK→Prop):Prop:=
 ∀(pins:List (Addr×Obj)) (s:Shared) (σ:St) (H:Hp) (x:V) (xs:List V) (v:Value) (us:List Value) (Q:VK),Inv X pins σ H s→RelV x v→Vals xs us→r x xs H Q→
  wpAny (model X.prog X.w) X.A (call (.builtin id) (v::us)) (EP X pins σ Q) X.xe s
theorem Vals.one:∀{x:V} {us:List Value},Vals [x] us→∃u,us=[u]∧RelV x u
 | _,_,.cons r .nil=>⟨_,rfl,r⟩
theorem Vals.zero:∀{us:List Value},Vals [] us→us=[]
 | _,.nil=>rfl
theorem Vals.dropLast {xs:List V} {us:List Value} (h:Vals xs us):Vals xs.dropLast us.dropLast:=by
 induction h with
 | nil=>exact .nil
 | cons r t ih=>
  cases t with
  | nil=>exact .nil
  | cons q t'=>exact .cons r ih
theorem Vals.reverse {xs:List V} {us:List Value} (h:Vals xs us):Vals xs.reverse us.reverse:=by
 induction h with
 | nil=>exact .nil
 | cons r t ih=>rw[List.reverse_cons,List.reverse_cons];exact Vals.append ih (.cons r .nil)
theorem Vals.rep {xs:List V} {us:List Value} (h:Vals xs us):∀k:Nat,Vals (List.replicate k xs).flatten (List.replicate k us).flatten
 | 0=>.nil
 | k+1=>by
  rw[List.replicate_succ,List.replicate_succ,List.flatten_cons,List.flatten_cons]
  exact Vals.append h (Vals.rep h k)
theorem Lu {α:Type} (l:List α):l.eraseIdx (l.length-1)=l.dropLast:=by
 induction l with
 | nil=>rfl
 | cons a r ih=>
  cases r with
  | nil=>rfl
  | cons b r=>
   have e:(a::b::r).length-1=((b::r).length-1)+1:=by
    have h1:(a::b::r).length=r.length+2:=rfl
    have h2:(b::r).length=r.length+1:=rfl
    omega
   rw[e,List.eraseIdx_cons_succ,ih]
   all_goals rfl
theorem Iq (its:List Value):∀(k:Nat) (acc:List Value),
  List.foldl (fun x1 x2=>x1++x2) acc.toArray (List.replicate k its.toArray)=(acc++(List.replicate k its).flatten).toArray
 | 0,acc=>by simp
 | k+1,acc=>by
  have e:acc.toArray++its.toArray=(acc++its).toArray:=by simp
  have e2:(acc++its)++(List.replicate k its).flatten=acc++(List.replicate (k+1) its).flatten:=by
   rw[List.replicate_succ,List.flatten_cons,List.append_assoc]
  rw[←e2,←Iq its k (acc++its),←e,List.replicate_succ,List.foldl_cons]
section
variable {X:Cx} {pins:List (Addr×Obj)} {σ:St} {H:Hp} {s:Shared} {l b:Addr} {xs ys zs:List V}
theorem Inv.lset {its its':List Value} {n:Nat} {f:Array Value→Array Value} {t':Nat} (I:Inv X pins σ H s) (hH:H l=some (.lst xs))
  (e:s.heap.get? l=some { cls:=.type "list",data:=.seq its.toArray n }) (hf:f its.toArray=its'.toArray) (hv:Vals ys its') (hz:ys.length≤sizeLine) :
  Inv X pins σ (upd H l (.lst ys)) { s with heap:=s.heap.update l (Obj.mapSeq f),toks:=t' }:=by
 have q:=PySem.IsL.update e f
 rw[hf] at q
 refine I.write (x:=l) (e:=l) (by rw[hH];exact trivial) (.inl rfl) (fun b' u hb hu=>(Heap.get?_update_other s.heap (Obj.mapSeq f) (Ne.symm hb)).trans hu) ⟨_,q⟩ ?_
 exact⟨hz,its',_,hv,q⟩
theorem Inv.lnew {its:List Value} {t':Nat} (I:Inv X pins σ H s) (hv:Vals ys its) (hz:ys.length≤sizeLine) :
  Inv X pins σ (upd H s.heap.objs.size (.lst ys)) { s with heap:=s.heap.push { cls:=.type "list",data:=.seq its.toArray },toks:=t' }:=
 I.laid (fun _ _ q=>Heap.get?_push_of_some _ q) (Nat.le_refl _) ⟨hz,its,0,hv,Heap.get?_push_size _ rfl⟩
theorem Inv.fresh (I:Inv X pins σ H s):H s.heap.objs.size=none:=I.hok.fresh (Nat.le_refl _)
theorem Inv.lstM (I:Inv X pins σ H s) (hH:H l=some (.lst xs)):xs.length≤sizeLine∧∃(its:List Value) (n:Nat),Vals xs its∧xs.length=its.length∧s.heap.get? l=some { cls:=.type "list",data:=.seq its.toArray n }:=by
 obtain⟨z,its,n,r,e⟩:=I.hok l _ hH
 exact⟨z,its,n,r,r.length,e⟩
theorem Kd {n:Nat} (h:n≤sizeLine):Builtin.List.listTooLong n=false:=by
 unfold Builtin.List.listTooLong
 exact decide_eq_false (by omega)
end
section
variable {X:Cx}
def Sn:V→List V→Hp→VK→Prop:=fun x vs H Q=>∃l xs y,x= .ref l∧vs=[y]∧H l=some (.lst xs)∧xs.length<sizeLine∧Q .non (upd H l (.lst (xs++[y])))
theorem AZ:VS X "list.append" Sn:=by
 intro pins s σ H x vs v us Q I rx rv h
 obtain⟨l,xs,y,rfl,rfl,hH,hz,q⟩:=h
 cases rx
 obtain⟨u,rfl,ru⟩:=rv.one
 obtain⟨z,its,n,r,hl,e⟩:=I.lstM hH
 refine call_meets F.slot_list_append ⟨_,e,rfl⟩ F.entry_list_append (F.args_list_append_2 _ _) (PySem.list_append l its.toArray n u (by rw[List.size_toArray];omega)) ⟨e,?_⟩
 refine⟨.non,_,I.lset (its':=its++[u]) hH e (by simp) (r.append (.cons ru .nil)) ?_,rfl,q⟩
 rw[List.length_append,List.length_singleton]
 omega
def RQ:V→List V→Hp→VK→Prop:=fun x vs H Q=>∃l b xs zs,x= .ref l∧vs=[.ref b]∧H l=some (.lst xs)∧H b=some (.lst zs)∧xs.length+zs.length≤sizeLine∧Q .non (upd H l (.lst (xs++zs)))
theorem E6:VS X "list.extend" RQ:=by
 intro pins s σ H x vs v us Q I rx rv h
 obtain⟨l,b,xs,zs,rfl,rfl,hH,hB,hz,q⟩:=h
 cases rx
 obtain⟨u,rfl,ru⟩:=rv.one
 cases ru
 obtain⟨z,its,n,r,hl,e⟩:=I.lstM hH
 obtain⟨z2,its2,n2,r2,hl2,e2⟩:=I.lstM hB
 have hsz:its.toArray.size+its2.toArray.size≤sizeLine:=by rw[List.size_toArray,List.size_toArray];omega
 have hlong:¬(!its.toArray.isEmpty && Builtin.List.listTooLong (its.toArray.size+its2.toArray.size))=true:=by
  rw[Kd hsz,Bool.and_false]
  exact Bool.false_ne_true
 refine call_meets F.slot_list_extend ⟨_,e,rfl⟩ F.entry_list_extend (F.args_list_extend_2 _ _)
  (AutoSeq1.list_extend_list_list_0 l its.toArray n b its2.toArray n2 hlong (by rw[List.size_toArray];omega) (by omega)) ⟨e,e2,?_⟩
 refine⟨.non,_,I.lset (its':=its++its2) hH e (by simp) (r.append r2) ?_,rfl,q⟩
 rw[List.length_append]
 omega
def VY:V→List V→Hp→VK→Prop:=fun x vs H Q=>∃l xs y,x= .ref l∧vs=[]∧H l=some (.lst xs)∧xs[xs.length-1]? = some y∧Q y (upd H l (.lst xs.dropLast))
theorem Cm:VS X "list.pop" VY:=by
 intro pins s σ H x vs v us Q I rx rv h
 obtain⟨l,xs,y,rfl,rfl,hH,hy,q⟩:=h
 cases rx
 have hus:=rv.zero
 subst hus
 obtain⟨z,its,n,r,hl,e⟩:=I.lstM hH
 obtain⟨u,hu,ru⟩:=r.get hy
 have hy':its.toArray[its.toArray.size-1]? = some u:=by
  show its.toArray[its.length-1]? = some u
  rw[←Array.getElem?_toList,←hl]
  exact hu
 refine call_meets F.slot_list_pop ⟨_,e,rfl⟩ F.entry_list_pop (F.args_list_pop_1 _) (MeetsSeq.list_pop_last l its.toArray n u hy' (by rw[List.size_toArray];omega)) ⟨e,?_⟩
 refine⟨y,_,I.lset (its':=its.dropLast) hH e ?_ r.dropLast ?_,ru,q⟩
 ·show its.toArray.eraseIdxIfInBounds (its.toArray.size-1)=its.dropLast.toArray
  rw[List.size_toArray,List.eraseIdxIfInBounds_toArray,Lu]
 ·rw[List.length_dropLast]
  omega
def PQ:V→List V→Hp→VK→Prop:=fun x vs H Q=>∃l xs,x= .ref l∧vs=[]∧H l=some (.lst xs)∧Q .non (upd H l (.lst xs.reverse))
theorem KZ:VS X "list.reverse" PQ:=by
 intro pins s σ H x vs v us Q I rx rv h
 obtain⟨l,xs,rfl,rfl,hH,q⟩:=h
 cases rx
 have hus:=rv.zero
 subst hus
 obtain⟨z,its,n,r,hl,e⟩:=I.lstM hH
 refine call_meets F.slot_list_reverse ⟨_,e,rfl⟩ F.entry_list_reverse (F.args_list_reverse_1 _) (AutoSeq1.list_reverse_list_0 l its.toArray n (by rw[List.size_toArray];omega)) ⟨e,?_⟩
 refine⟨.non,_,I.lset (its':=its.reverse) hH e (by simp) r.reverse ?_,rfl,q⟩
 rw[List.length_reverse]
 omega
def Wb:R2:=fun x y H Q=>∃l b xs zs,x= .ref l∧y= .ref b∧H l=some (.lst xs)∧H b=some (.lst zs)∧xs.length+zs.length≤sizeLine∧∀p,H p=none→Q (.ref p) (upd H p (.lst (xs++zs)))
theorem QZ:Dw X (binaryOp .Add) Wb:=by
 intro pins s σ H x y v u Q I rx ry h
 obtain⟨l,b,xs,zs,rfl,rfl,hH,hB,hz,q⟩:=h
 cases rx
 cases ry
 obtain⟨z,its,n,r,hl,e⟩:=I.lstM hH
 obtain⟨z2,its2,n2,r2,hl2,e2⟩:=I.lstM hB
 refine PySem.P.add_list e e2 ?_ (by rw[List.size_toArray,List.size_toArray];omega)
 have ea:its.toArray++its2.toArray=(its++its2).toArray:=by simp
 rw[ea]
 exact⟨.ref _,_,I.lnew (t':=s.toks) (r.append r2) (by rw[List.length_append];omega),rfl,q _ I.fresh⟩
def V8:R2:=fun x y H Q=>∃l k xs,x= .ref l∧y= .int k∧H l=some (.lst xs)∧-(2^63)≤k∧k<2^63∧xs.length*k.toNat≤sizeLine∧
 ∀p,H p=none→Q (.ref p) (upd H p (.lst (List.replicate k.toNat xs).flatten))
theorem Sc {α:Type} (xs:List α) (k:Nat):(List.replicate k xs).flatten.length=k*xs.length:=by
 induction k with
 | zero=>simp
 | succ k ih=>rw[List.replicate_succ,List.flatten_cons,List.length_append,ih,Nat.succ_mul,Nat.add_comm]
theorem Ug:Dw X (binaryOp .Mult) V8:=by
 intro pins s σ H x y v u Q I rx ry h
 obtain⟨l,k,xs,rfl,rfl,hH,h1,h2,hz,q⟩:=h
 cases rx
 obtain⟨t,rfl⟩:=ry
 obtain⟨z,its,n,r,hl,e⟩:=I.lstM hH
 have hlen:its.toArray.size*k.toNat≤sizeLine:=by rw[List.size_toArray,←hl];exact hz
 have hcap:¬its.toArray.size*k.toNat>(2^63-1) / 8:=by
  have:(sizeLine:Nat)≤(2^63-1) / 8:=by decide
  omega
 have hfit:¬(!Builtin.List.listFitsIndex k)=true:=by
  rw[fitsIndex_both h1 h2]
  exact Bool.false_ne_true
 have hlong:¬Builtin.List.listTooLong (its.toArray.size*k.toNat)=true:=by
  rw[Kd hlen]
  exact Bool.false_ne_true
 have hnew:List.foldl (fun x1 x2=>x1++x2) #[] (List.replicate (if its.toArray.isEmpty=true then 0 else k.toNat) its.toArray)=(List.replicate k.toNat its).flatten.toArray:=by
  have f0:∀m:Nat,List.foldl (fun x1 x2=>x1++x2) #[] (List.replicate m its.toArray)=(List.replicate m its).flatten.toArray:=fun m=>by
   have:=Iq its m []
   rw[List.nil_append] at this
   exact this
  rw[f0]
  cases its with
  | nil=>simp
  | cons a r'=>rw[if_neg (by simp)]
 refine wpAny_binaryOp_repeat_ref (T:="list") (U:="int") (by decide) ⟨_,e,rfl⟩ (fun s'=>typeIs_int s' k t) noFill_list_mul F.fills_int_mul F.slot_int_rmul repeat_list F.slot_int_index.lookup
  (call_meets F.slot_int_rmul (typeIs_int s k t) F.entry_int_rmul (F.args_int_rmul_2 _ _) (int___rmul___int_list k t l its.toArray n)
   ⟨e,rfl,⟨_,e,rfl⟩,call_meets F.slot_list_mul ⟨_,e,rfl⟩ F.entry_list_mul (F.args_list_mul_2 _ _) (AutoListH.list___mul___list_int_3 l its.toArray n k t hfit hcap hlong) ⟨e,?_⟩⟩)
 rw[hnew]
 exact⟨.ref _,_,I.lnew (t':=s.toks) (r.rep k.toNat) (by rw[Sc,Nat.mul_comm];exact hz),rfl,q _ I.fresh⟩
end
section
variable {prog:Program} {w:World} {A:Around} {E:Value→Shared→Prop} {s:Shared}
end
section
variable {X:Cx}
end
end L2
namespace Att
open PySem PySem.W PySem.Calls PyProof.Rows
theorem FN {P:Params} {h:Heap}:∀(ns:List Int) (vs:List Value),WellAll P h vs (ns.map WData.int)→IntsAre vs ns:=by
 intro ns
 induction ns with
 | nil=>
  intro vs w
  rw[List.map_nil] at w
  cases w
  exact .nil
 | cons n ns ih=>
  intro vs w
  rw[List.map_cons] at w
  cases w with
  | cons a b=>
   cases a
   exact .cons _ _ (ih _ b)
theorem Na {l:OpenLaw} {n:Nat} (hn:l.most=some n) {P:Params} {h:Heap} {args:List WData} {vals:List Value}
  (hpre:l.row.toRowW.claim.pre args=true) (hwl:WellAll P h vals args) :
  ∃a vs ns,vals=[Value.ref a]∧args=[WData.list (ns.map WData.int)]∧h.get? a=some { cls:=.type "list",data:=.seq vs.toArray }∧IntsAre vs ns∧ns.length≤n:=by
 have hsh:WShape.hasAll [] args [.list .int]=true:=(pre_splitW hpre).1
 have hc:l.pre.holds [] { args:=args }=true:=(pre_splitW hpre).2
 obtain⟨d,r,rfl,h1,h2⟩:=hasAllW_cons hsh
 obtain rfl:=hasAllW_nil h2
 obtain⟨xs,rfl,h3⟩:=hasW_list h1
 obtain⟨ns,rfl⟩:=items_int h3
 have hlen:ns.length≤n:=by
  unfold OpenLaw.pre at hc
  have h4:(WTm.not (.lt (.lit (.int (n:Int))) (.len (.arg 0)))).holds [] { args:=[.list (ns.map .int)] }=true:=by
   have h4:=(holds_andW hc).1
   rw[hn] at h4
   exact h4
  have h5:=condW_of h4 (w_not (w_lt w_lit (w_len_list (w_arg rfl))))
  rw[List.length_map] at h5
  refine Nat.le_of_not_lt fun q=>?_
  have q':(n:Int)<((ns.length:Nat):Int):=by omega
  first
   | (rw[decide_eq_true q'] at h5;exact absurd h5 (by decide))
   | (simp at h5;omega)
 cases hwl with
 | cons w1 w2=>
  cases w2
  cases w1 with
  | list ho hall=>exact⟨_,_,ns,rfl,rfl,ho,FN ns _ hall,hlen⟩
theorem Nv (l:OpenLaw) (args:List WData):l.row.toRowW.claim.post args (.bool true) args=true:=
 postW_of (r:=l.row.toRowW) (X:=(true == true))
  (show WShape.has [] (.bool true) .bool=true by first | rfl | decide | simp[WShape.has,WShape.arms,WShape.armsAll])
  (show (WTm.eq .res (.lit (.bool true))).value [] { args:=args,res:=some (.bool true),after:=args }=some (.bool (true == true)) from w_eq_bool (w_res rfl) w_lit) rfl
theorem attach_call {l:OpenLaw} {n:Nat} {q:Program} {loose:List Str} {XP:(Str→Option Value)→Heap→Prop} {YP:World→Heap→Prop} {d:DefRec}
  (hn:l.most=some n) (hdf:d.params.defaults=[])
  (call:∀(w:World) (s₀ s₁:Shared) (mg mb:Str→Option Value) (fa:Addr) (o:Obj) (pm cd doc:Value) (a:Addr) (vs:List Value) (ns:List Int),
   Ground q loose [] XP w s₀ mg mb s₁.heap→YP w s₁.heap→
   s₁.heap.get? fa=some o→o.data= .func (docDef d.name d.params d.body d.scope pm cd doc)→s₁.heap.CodeRec cd d.name→mg d.name=some (.ref fa)→
   s₁.heap.get? a=some { cls:=.type "list",data:=.seq vs.toArray }→IntsAre vs ns→ns.length≤n→s₁.gens = #[]→
   codeAny (model l.prog w) callerA (.call (.ref fa) ⟨[.ref a],[]⟩) (fun r s'=>r= .ok (.ret (.bool true))∧OldK s₁.heap s'.heap∧s'.os=s₁.os∧AllBare s'.gens) s₁) :
  WalkO q loose XP YP l.row.toRowW d [] (fun f vs=>PySem.call f vs):=by
 intro w s₀ s₁ mg mb G Y fa o pm cd doc dV kV ho hd hcd hD hmg hg args vals as hpre hlay hrd hwl hlo
 obtain rfl:dV= .none:=Dflts.none hD hdf
 obtain rfl:kV= .none:=Dflts.noKw hD
 obtain⟨a,vs,ns,rfl,rfl,hobj,hints,hlen⟩:=Na hn hpre hwl
 refine enter_call (codeAny_mono (call w s₀ s₁ mg mb fa o pm cd doc a vs ns G Y ho (fd_plain hd) hcd hmg hobj hints hlen hg) fun r s' hq=>?_)
 obtain⟨rfl,h2,h3,h4⟩:=hq
 exact⟨.inl ⟨.bool true,.bool true,[],rfl,fun _=>rfl,.bool true,Nv l _,fun _=>⟨List.Pairwise.nil,fun _ hm=>(nomatch hm)⟩⟩,h2,h3,h4⟩
section
variable {prog:Program} {w:World} {A:Around} {E:Value→Shared→Prop} {s:Shared} {K:Frag}
end
end Att
namespace L2
open PySem PySem.Spec PyProof.Rows
theorem Fx:∀{vs:List Value} {ns:List Int},IntsAre vs ns→Vals (ns.map V.int) vs
 | _,_,.nil=>.nil
 | _,_,.cons n t h=>.cons ⟨t,rfl⟩ (Fx h)
def Ur (H:Hp):Prop:=∀b,H b=none∨∃o xs,H b=some (.frz o (.lst xs))
theorem O2 {P:Program} {w:World} {K:PySem.W.Frag} {mg mb:Str→Option Value} {CX:MJ} {k:Nat} {fa a:Addr} {fd:FuncData} {x:Str} {sp:Sp} {s₁:Shared} {vs:List Value} {ns:List Int}
  (KX:K.In s₁.heap) (hns:s₁.heap.Ns mainGlobals mg) (hb:s₁.heap.Ns builtinsNs mb) (hbb:∀x:Str,x≠"__name__"→mb x=bootBuiltins x) (hlim:s₁.heap.NoLimit) (hg:s₁.gens = #[])
  (ha:s₁.heap.get? a=some { cls:=.type "list",data:=.seq vs.toArray }) (hi:IntsAre vs ns) (hl:ns.length≤sizeLine) (hr:Room k callerA)
  (F:∀base:Heap,K.In base→base.Ns mainGlobals mg→FnOk P w K mg base CX k fa fd [x] sp) (hbind:∀(s:Shared) (u:Value),BindsTo s fd ⟨[u],[]⟩ [(x,u)])
  (hsp:∀H:Hp,Ur H→SqL K H a (ns.map V.int)→sp [.ref a] H (fun v _=>v= .bl true) fun _ _ _=>False)
  (hCX:∀H e s',CX [] H s₁ (fun _ _ _=>False) e s'→False) :
  codeAny (model P w) callerA (.call (.ref fa) ⟨[.ref a],[]⟩) (fun r s'=>r= .ok (.ret (.bool true))∧OldK s₁.heap s'.heap∧s'.os=s₁.os∧AllBare s'.gens) s₁:=by
 have rv:=Fx hi
 have lenV:=hi.length
 have core:∀H:Hp,Ur H→SqL K H a (ns.map V.int)→HOk P w H s₁.heap→(∀b,H b≠none→b=a)→(H a≠none→K.lookup a=none)→
   codeAny (model P w) callerA (.call (.ref fa) ⟨[.ref a],[]⟩) (fun r s'=>r= .ok (.ret (.bool true))∧OldK s₁.heap s'.heap∧s'.os=s₁.os∧AllBare s'.gens) s₁:=by
  intro H hO hS hok hA hK
  have Ee:∀{b:Addr} {o:Obj},s₁.heap.get? b=some o→H b=none→(IU s₁.heap H).get? b=some o:=fun e n=>Qw e n
  have noA:∀{b:Addr} {o:Obj} {es:Array DictEntry} {ep:Nat},s₁.heap.get? b=some o→o.data= .dict es ep→H b=none:=fun {b o es ep} e d=>by
   cases q:H b with
   | none=>rfl
   | some u=>
    have e':b=a:=hA b (by rw[q];simp)
    subst e'
    rw[ha] at e;cases e
    have d':Data.seq vs.toArray _=Data.dict es ep:=d
    cases d'
  have nsK:∀{b:Addr} {m:Str→Option Value},s₁.heap.Ns b m→(IU s₁.heap H).Ns b m:=fun {b m} ⟨o,es,ep,e,d,r⟩=>⟨o,es,ep,Ee e (noA e d),d,r⟩
  have hKb:K.In (IU s₁.heap H):=fun b o e=>Ee (KX b o e) (by
   cases q:H b with
   | none=>rfl
   | some u=>
    have e':b=a:=hA b (by rw[q];simp)
    subst e'
    rw[hK (by rw[q];simp)] at e;cases e)
  have hM:Mod K mg (IU s₁.heap H):=⟨hKb,nsK hns,⟨mb,nsK hb,hbb⟩,let ⟨mc,h1,h2⟩:=hlim;⟨mc,nsK h1,h2⟩⟩
  have e0:Env0 P w K mg (IU s₁.heap H) callerA [] s₁ H:=⟨rfl,hM,fun b o e=>RV e,Nat.le_of_eq (Nz _ _),trivial,fun b hb=>absurd (show b∈([]:List Addr) from hb) (by simp),hok,.of_eq hg⟩
  refine codeAny_mono ((F _ hKb (nsK hns)).run callerA [] s₁ H ⟨[.ref a],[]⟩ [.ref a] [.ref a] _ _ hr e0 (hbind s₁ (.ref a)) (.cons rfl .nil) (hsp H hO hS)) fun r s' h=>?_
  cases r with
  | error e=>exact (hCX H e s' h).elim
  | ok fl=>
   cases fl with
   | next=>exact False.elim h
   | brk=>exact False.elim h
   | cont=>exact False.elim h
   | ret u=>
    obtain⟨v,H',os,bare,un,hok',r',q⟩:=h
    have q':v= .bl true:=q
    subst q'
    obtain rfl:u=Value.bool true:=r'
    refine⟨rfl,OldK.of_keep fun b o e=>?_,os,bare⟩
    cases q:H b with
    | none=>exact un.keep b o e q (by intro z;exact absurd (show b∈([]:List Addr) from z) (by simp)) (by simp)
    | some u=>
     rcases hO b with z | ⟨ob,xs,z⟩
     ·rw[q] at z;cases z
     ·have z2:=un.frzs b ob _ z
      obtain⟨e1,_⟩:=hok b _ z
      obtain⟨e2,_⟩:=hok' b _ z2
      rw[e] at e1;cases e1
      exact e2
 cases hk:K.lookup a with
 | some o=>
  have e:=KX a o hk
  rw[ha] at e
  cases e
  refine core (fun _=>none) (fun _=>.inl rfl) (.inr ⟨_,vs.toArray,_,hk,rfl,rfl,rfl,by rw[List.size_toArray,lenV];exact hl,by simpa using rv⟩) (fun b u z=>by have z':(none:Option HO)=some u:=z;cases z') (fun b z=>absurd rfl z) fun z=>absurd rfl z
 | none=>
  refine core (fun b=>if b=a then some (.frz { cls:=.type "list",data:=.seq vs.toArray } (.lst (ns.map V.int))) else none) (fun b=>?_) (.inl (.inr ⟨{ cls:=.type "list",data:=.seq vs.toArray },if_pos rfl⟩)) (fun b u z=>?_) (fun b z=>?_) fun _=>hk
  ·by_cases hb:b=a
   ·exact .inr ⟨_,_,if_pos hb⟩
   ·exact .inl (if_neg hb)
  ·by_cases hb:b=a
   ·have z':=(if_pos hb).symm.trans z
    cases z'
    subst hb
    exact⟨ha,by rw[List.length_map];exact hl,vs,_,rv,ha⟩
   ·have z':=(if_neg hb).symm.trans z
    cases z'
  ·by_cases hb:b=a
   ·exact hb
   ·exact absurd (if_neg hb) z
end L2
namespace L2
open PySem PySem.Spec PyProof.Rows
theorem walk_of {l:PySem.W.OpenLaw} {n k:Nat} {q:Program} {loose:List Str} {XP:(Str→Option Value)→Heap→Prop} {YP:World→Heap→Prop} {d:DefRec} {K:Params→PySem.W.Frag} {CX:World→MJ} {sp:World→Sp} {x:Str}
  (hn:l.most=some n) (hn2:n≤sizeLine) (hdf:d.params.defaults=[]) (hr:Room k callerA)
  (hY:∀(w:World) (h:Heap),YP w h→(K w.params).In h)
  (F:∀(w:World) (mg:Str→Option Value) (fa:Addr) (h:Heap),(K w.params).In h→h.Ns mainGlobals mg→mg d.name=some (.ref fa)→
   ∃fd:FuncData,(∀(s:Shared) (u:Value),BindsTo s fd ⟨[u],[]⟩ [(x,u)])∧
    ∀base:Heap,(K w.params).In base→base.Ns mainGlobals mg→FnOk l.prog w (K w.params) mg base (CX w) k fa fd [x] (sp w))
  (hsp:∀(w:World) (H:Hp) (a:Addr) (ns:List Int),ns.length≤n→Ur H→SqL (K w.params) H a (ns.map V.int)→sp w [.ref a] H (fun v _=>v= .bl true) fun _ _ _=>False)
  (hCX:∀(w:World) (H:Hp) (s:Shared) (e:Value) (s':Shared),CX w [] H s (fun _ _ _=>False) e s'→False) :
  PySem.W.WalkO q loose XP YP l.row.toRowW d [] (fun f vs=>PySem.call f vs):=by
 refine Att.attach_call hn hdf fun w s₀ s₁ mg mb fa o pm cd doc a vs ns G Y ho hd hcd hmg hobj hints hlen hg=>?_
 have KX:=hY w _ Y
 obtain⟨fd,hb,hF⟩:=F w mg fa _ KX G.T.g hmg
 exact O2 KX G.T.g G.T.b G.T.builtins G.T.nolimit hg hobj hints (Nat.le_trans hlen hn2) hr hF hb (fun H hO hS=>hsp w H a ns hlen hO hS) fun H e s'=>hCX w H s₁ e s'
end L2
namespace L2
open PySem PySem.Spec PyProof.Rows
def AF (s:Stmt) (j:Nat):Stmt:=match s with
 | .ClassDef _ _ _ body _ _ _ _ _ _ _=>body.getD j (.Pass ⟨0,0,0,0⟩)
 | _=>.Pass ⟨0,0,0,0⟩
def Ak (s:Stmt):Arguments:=match s with
 | .FunctionDef _ a _ _ _ _ _ _ _ _=>a
 | _=>{ posonlyargs:=[],args:=[],vararg:=none,kwonlyargs:=[],kw_defaults:=[],kwarg:=none,defaults:=[] }
def Aj (s:Stmt):List Stmt:=match s with
 | .FunctionDef _ _ b _ _ _ _ _ _ _=>b
 | _=>[]
def Ad (s:Stmt):Scope:=match s with
 | .FunctionDef _ _ _ _ _ _ sc _ _ _=>sc
 | _=>{ kind:=.function,names:=[],isGenerator:=false,isCoroutine:=false }
abbrev AU:MJ:=fun _ _ _ _ _ _=>False
abbrev E0:XK:=fun _ _ _=>False
theorem Ay {X:Cx}:Co AU X E0:=fun _ _ _ _ _ _ _ h=>h.elim
structure Fun (K:PySem.W.Frag) (x qual:Str) (st:Stmt) (f:Addr) (fd:FuncData):Prop where
 ex:∃(oc:Value) (od:Option Addr) (kV doc pm:Value) (an:Option Addr) (cdv ct:Value) (osl:Array (Option Value)),
  fd=PySem.W.fnOf x qual (Ak st) (Aj st) (Ad st) .none kV doc pm an cdv ct∧K.lookup f=some ⟨oc,od,.func fd,osl⟩∧PySem.W.codeIn K cdv qual=true
 kp:PySem.W.keepIn K (.ref f)=true
section
variable {P:Program} {w:World} {K:PySem.W.Frag} {mg:Str→Option Value} {base:Heap}
theorem Fun.ok {x qual:Str} {st:Stmt} {f:Addr} {fd:FuncData} {N ps:List Str} {k:Nat} {sp:Sp} (F:Fun K x qual st f fd) (S:Al N ps (Ad st)) (len:∀vs H Q E,sp vs H Q E→vs.length=ps.length)
  (hbody:∀(cdv:Value) (A:Around) (outer:List Env) (s:Shared) (H:Hp) (vs:List V) (Q:VK) (E:XK),Room k (A.deeper (envOfC qual (Ad st) s.heap.objs.size f cdv))→sp vs H Q E→
   ∃t,PSs (Jj AU P w K mg base N qual (Ad st) f cdv A outer s H E).nox (Aj st) t∧t { nx:=fun _ H'=>Q .non H',rt:=Q } (EN N vs) H):FnOk P w K mg base AU (k+1) f fd ps sp:=by
 obtain⟨oc,od,kV,doc,pm,an,cdv,ct,osl,rfl,lk,hcd⟩:=F.ex
 refine S8 lk hcd S len fun A outer s H vs Q E hr hsp=>?_
 obtain⟨t,h,q⟩:=hbody cdv A outer s H vs Q E hr hsp
 exact⟨t,h.nox,q⟩
theorem Fun.binds {x qual:Str} {st:Stmt} {f:Addr} {fd:FuncData} {ps:List Str} (F:Fun K x qual st f fd)
  (h:∀(kV doc pm:Value) (an:Option Addr) (cdv ct:Value) (us:List Value),us.length=ps.length→bindArgs (PySem.W.fnOf x qual (Ak st) (Aj st) (Ad st) .none kV doc pm an cdv ct) ⟨us,[]⟩=pure (ps.zip us)):Binds K fd ps []:=by
 obtain⟨oc,od,kV,doc,pm,an,cdv,ct,osl,rfl,lk,hcd⟩:=F.ex
 exact .all (h kV doc pm an cdv ct)
theorem Ar {x qual:Str} {st:Stmt} {f:Addr} {oc:Value} {od an:Option Addr} {osl:Array (Option Value)} {kV doc pm cdv ct:Value} (l:K.lookup f=some ⟨oc,od,.func (PySem.W.fnOf x qual (Ak st) (Aj st) (Ad st) .none kV doc pm an cdv ct),osl⟩)
  (c:PySem.W.codeIn K cdv qual=true) (k:PySem.W.keepIn K (.ref f)=true):Fun K x qual st f (PySem.W.fnOf x qual (Ak st) (Aj st) (Ad st) .none kV doc pm an cdv ct):=⟨⟨oc,od,kV,doc,pm,an,cdv,ct,osl,rfl,l,c⟩,k⟩
end
theorem AO {n:Nat} (h:n≤1000):n<sizeLine:=Nat.lt_of_le_of_lt h (by decide)
section
variable {X:Cx}
theorem pv (i:Nat) {x:Str} {pos:Pos} (hN:X.N[i]? = some x:=by rfl) (hv:Wk X.env.scope x:=by first | exact Or.inl rfl | exact Or.inr (Or.inl rfl) | exact Or.inr (Or.inr rfl)) (hd:(x == ("__debug__":Str))=false:=by decide)
  (hcd:(x == ("__classdict__":Str))=false:=by decide):PE X (.Name x pos) (Pq i):=Tx hN hv hd hcd
end
theorem Bd {A B:Prop} (h:B):if false=true then A else B:=by
 rw[if_neg Bool.false_ne_true]
 exact h
theorem Bo {A B:Prop} (h:A):if true=true then A else B:=by
 rw[if_pos rfl]
 exact h
theorem Du {c A B:Prop} [Decidable c] (h1:c→A) (h2:¬c→B):if c then A else B:=by
 by_cases h:c
 ·rw[if_pos h]
  exact h1 h
 ·rw[if_neg h]
  exact h2 h
theorem Cy {c A B:Prop} [Decidable c] (hc:c) (h:B):if (!decide c)=true then A else B:=by
 rw[decide_eq_true hc]
 exact Bd h
def Same (H H':Hp):Prop:=∀b o,H b=some o→H' b=some o
theorem Same.refl (H:Hp):Same H H:=fun _ _ h=>h
theorem Same.trans {H H1 H2:Hp} (a:Same H H1) (b:Same H1 H2):Same H H2:=fun c o h=>b c o (a c o h)
theorem Same.free {H H':Hp} (e:Same H H') {l:Addr} (h:H' l=Option.none):H l=Option.none:=by
 cases q:H l with
 | none=>rfl
 | some o=>
  rw[e l o q] at h
  cases h
theorem Same.seq {K:PySem.W.Frag} {H H':Hp} {a:Addr} {xs:List V} (e:Same H H') (h:SqL K H a xs):SqL K H' a xs:=by
 rcases h with (h | ⟨o,h⟩) | h
 ·exact .inl (.inl (e _ _ h))
 ·exact .inl (.inr ⟨o,e _ _ h⟩)
 ·exact .inr h
end L2
namespace L2
open PySem PySem.Spec PyProof.Rows
section
variable {X:Cx}
theorem DL:BC X (.builtin "isinstance") (fun xs H Q=>∃x T t b,xs=[x,.ty T]∧Fi X.K H x t∧PySem.W.kitOne X.K t (.type T)=some b∧Q (.bl b) H):=by
 intro pins s σ H xs us Q I r h
 obtain⟨x,T,t,b,rfl,ty,e,q⟩:=h
 obtain⟨u,w',rfl,rx,ry⟩:=Ph r
 cases ry
 exact Oi I rx ty e fun tk=>⟨.bl b,H,I.tok _,rfl,q⟩
theorem G0 (K:PySem.W.Frag) (T:String):PySem.W.kitOne K (.type T) (.type T)=some true:=by
 unfold PySem.W.kitOne
 rw[if_pos (beq_self_eq_true _)]
theorem DB (K:PySem.W.Frag):PySem.W.kitOne K (.type "tuple") (.type "str")=some false:=by
 with_unfolding_all rfl
def V0 (K:PySem.W.Frag):R2:=fun x y H Q=>∃a b xs,x= .ref a∧y= .ref b∧SqL K H a xs∧SqL K H b []∧Q (.bl (!xs.isEmpty)) H
theorem PL (hu:X.A.units<cLine):Dw X (compareOp .NotEq) (V0 X.K):=by
 intro pins s σ H x y v u Q I rx ry h
 obtain⟨a,b,xs,rfl,rfl,ha,hb,q⟩:=h
 cases rx
 cases ry
 obtain⟨its,r,pl,hz⟩:=I.list ha
 obtain⟨its2,r2,pl2,hz2⟩:=I.list hb
 cases r2
 cases r with
 | nil=>exact SeqAt.RcNeAt.lists (e:=fun _=>true) pl.isList pl2.isList rfl hu (fun j h1=>absurd h1 (Nat.not_lt_zero _)) _ _ _ _ ⟨.bl false,H,I,rfl,q⟩
 | cons r1 r2=>exact SeqAt.RcNeAt.lists_lengths pl.isList pl2.isList (by simp) hu _ _ _ _ ⟨.bl true,H,I,rfl,q⟩
theorem Gj:∀{ys:List Str} {us:List Value},Vals (ys.map V.str) us→StrsAre us ys
 | [],_,r=>by cases r;exact .nil
 | y::ys,_,r=>by
  cases r with
  | cons r1 r2=>
   obtain⟨t,rfl⟩:=r1
   exact .cons y t (Gj r2)
def UV (K:PySem.W.Frag):V→List V→Hp→VK→Prop:=fun x vs H Q=>∃sep l ys,x= .str sep∧vs=[.ref l]∧SqL K H l (ys.map V.str)∧(ys.map (·.length)).sum+ys.length*sep.length≤16777216∧Q (.str (Txt.join sep ys)) H
theorem Jp:VN X "str.join" (UV X.K):=by
 intro pins s σ H x vs v us Q I rx rv h
 obtain⟨sep,l,ys,rfl,rfl,hq,hz,q⟩:=h
 obtain⟨t,rfl⟩:=rx
 obtain⟨u,rfl,ru⟩:=rv.one
 cases ru
 obtain⟨its,r,pl,hs⟩:=I.list hq
 exact join_list pl.isList (by simpa using Gj r) hz fun t' k=>⟨.str _,H,I.tok _,⟨_,rfl⟩,q⟩
def Uh (P:Program) (w:World) (K:PySem.W.Frag) (d:Addr) (f:Str→Option V):Prop:=
 (d == sysModules)=false∧∃(o:Obj) (vs:List (Str×Value)),K.lookup d=some o∧o.IsDictOf (PySem.strKind P w) vs∧∀k,RelO (f k) (valueAt vs k)
def V5 (P:Program) (w:World) (K:PySem.W.Frag):R2:=fun x y H Q=>∃d k v f,x= .ref d∧y= .str k∧Uh P w K d f∧f k=some v∧Q v H
theorem Uy:UO X (V5 X.prog X.w X.K):=by
 intro value slice pins s σ H x y v u Q I rx ry h hs
 obtain⟨d,k,z,f,rfl,rfl,⟨hm,o,vs,hk,hd,hv⟩,e,q⟩:=h
 cases rx
 obtain⟨t,rfl⟩:=ry
 have hD:s.heap.DictOf (PySem.strKind X.prog X.w) d vs:=Heap.dictOf_iff.mpr ⟨o,I.kIn d o hk,hd⟩
 have hr:=hv k
 rw[e] at hr
 cases ev:valueAt vs k with
 | none=>rw[ev] at hr;exact False.elim hr
 | some u'=>
  rw[ev] at hr
  exact tail_any hD.typeIs slot_dict_getitem.lookup (wpAny_getItem_of (strKind_is _ _ k t) hD.mapOf ev ⟨z,H,I.tok _,hr,q⟩) hs
end
end L2
namespace HT2
open PySem L2
def TS (H H':Hp):Prop:=∀p xs,H p=some (.tup xs)→H' p=some (.tup xs)
theorem TS.trans {H H1 H2:Hp} (a:TS H H1) (b:TS H1 H2):TS H H2:=fun p xs e=>b p xs (a p xs e)
theorem TS.same {H H':Hp} (s:Same H H'):TS H H':=fun p xs e=>s p _ e
theorem TS.lst {H:Hp} {l:Addr} {xs:List V} {o:HO} (h:H l=some (.lst xs)):TS H (upd H l o):=fun p ys e=>by
 rw[Aq (A6 e h (by intro z;cases z))]
 exact e
theorem TS.new {H:Hp} {l:Addr} {o:HO} (h:H l=none):TS H (upd H l o):=fun p ys e=>by
 rw[Aq (Ai e h)]
 exact e
theorem Ag {H:Hp} {p:Addr} (h:H p=none) (o:HO):Same H (upd H p o):=fun b u q=>by rw[Aq (Ai q h)];exact q
theorem AH {H0 H:Hp} {p:Addr} (s:Same H0 H) (h:H0 p=none) (o:HO):Same H0 (upd H p o):=fun b u q=>by rw[Aq (Ai q h)];exact s b u q
inductive Tr where
 | lt (k:Nat)
 | nt (t:Tr)
 | bn (j:Nat) (a b:Tr)
 deriving DecidableEq
def jn:Nat→Str
 | 0=>"and"
 | 1=>"or"
 | 2=>"if"
 | _=>"same"
def Tr.At (H:Hp):Tr→V→Prop
 | .lt k,v=>∃p,v= .ref p∧H p=some (.tup [.str "let",.int k])
 | .nt t,v=>∃p u,v= .ref p∧H p=some (.tup [.str "not",u])∧t.At H u
 | .bn j a b,v=>∃p x y,v= .ref p∧H p=some (.tup [.str (jn j),x,y])∧a.At H x∧b.At H y
def Tr.size:Tr→Nat
 | .lt _=>1
 | .nt t=>t.size+1
 | .bn _ a b=>a.size+b.size+1
def Tr.ok (m:Nat):Tr→Prop
 | .lt k=>k<m
 | .nt t=>t.ok m
 | .bn j a b=>j<4∧a.ok m∧b.ok m
theorem Tr.size_pos:∀t:Tr,0<t.size
 | .lt _=>Nat.one_pos
 | .nt _=>Nat.succ_pos _
 | .bn _ _ _=>Nat.succ_pos _
theorem Tr.At.keep {H H':Hp} (s:TS H H'):∀{t:Tr} {v:V},t.At H v→t.At H' v
 | .lt k,v,h=>by
  obtain⟨p,e,h⟩:=h
  exact⟨p,e,s _ _ h⟩
 | .nt t,v,h=>by
  obtain⟨p,u,e,h,q⟩:=h
  exact⟨p,u,e,s _ _ h,Tr.At.keep s q⟩
 | .bn j a b,v,h=>by
  obtain⟨p,x,y,e,h,q,r⟩:=h
  exact⟨p,x,y,e,s _ _ h,Tr.At.keep s q,Tr.At.keep s r⟩
theorem Tr.ok.mono {m n:Nat} (h:m≤n):∀{t:Tr},t.ok m→t.ok n
 | .lt k,q=>Nat.lt_of_lt_of_le q h
 | .nt t,q=>Tr.ok.mono (t:=t) h q
 | .bn j a b,q=>⟨q.1,Tr.ok.mono (t:=a) h q.2.1,Tr.ok.mono (t:=b) h q.2.2⟩
abbrev Pile (H:Hp):List V→List Tr→Prop:=Paired fun (v:V) (t:Tr)=>t.At H v
theorem Pile.keep {H H':Hp} (s:TS H H'):∀{xs:List V} {ts:List Tr},Pile H xs ts→Pile H' xs ts
 | _,_,.nil=>.nil
 | _,_,.cons r q=>.cons (Tr.At.keep s r) (Pile.keep s q)
theorem Pile.len {H:Hp}:∀{xs:List V} {ts:List Tr},Pile H xs ts→xs.length=ts.length
 | _,_,.nil=>rfl
 | _,_,.cons _ q=>congrArg (· + 1) (Pile.len q)
theorem Pile.snoc {H:Hp} {y:V} {t:Tr} (h:t.At H y):∀{xs:List V} {ts:List Tr},Pile H xs ts→Pile H (xs++[y]) (ts++[t])
 | _,_,.nil=>.cons h .nil
 | _,_,.cons r q=>.cons r (Pile.snoc h q)
theorem Pile.last {H:Hp}:∀{xs:List V} {ts:List Tr},Pile H xs ts→0<ts.length→∃xs' y ts' t,xs=xs'++[y]∧ts=ts'++[t]∧Pile H xs' ts'∧Tr.At H t y
 | _,_,.nil,h=>absurd h (Nat.lt_irrefl _)
 | _,_,.cons (a:=v) (b:=t) r .nil,_=>⟨[],v,[],t,rfl,rfl,.nil,r⟩
 | _,_,.cons (a:=v) (b:=t) r (.cons r' q'),_=>by
  obtain⟨xs',y,ts',u,e1,e2,q,a⟩:=Pile.last (Paired.cons r' q') (Nat.succ_pos _)
  exact⟨v::xs',y,t::ts',u,by rw[e1];rfl,by rw[e2];rfl,.cons r q,a⟩
def sz (ts:List Tr):Nat:=(ts.map Tr.size).sum
theorem BJ (ts:List Tr) (t:Tr):sz (ts++[t])=sz ts+t.size:=by
 unfold sz
 rw[List.map_append,List.sum_append]
 simp
theorem DU (xs:List V) (y:V):(xs++[y])[(xs++[y]).length-1]? = some y:=by
 simp
theorem Dq {n:Nat} (h:n≤1000):n≤sizeLine:=Nat.le_of_lt (AO h)
theorem FV:2≤sizeLine:=by decide
theorem SZ:3≤sizeLine:=by decide
theorem Vg:4≤sizeLine:=by decide
theorem VQ:5≤sizeLine:=by decide
theorem SV:1≤sizeLine:=by decide
theorem Of:0≤sizeLine:=by decide
def Dn:List V:=[.str "and",.str "or",.str "if",.str "same"]
theorem Kn {i:Int} (h0:0≤i) (h1:i<4):Dv Dn i=some (.str (jn i.toNat)):=by
 obtain⟨n,rfl⟩:=Int.eq_ofNat_of_zero_le h0
 have hn:n<4:=by omega
 rw[Int.toNat_natCast]
 refine As ?_
 match n,hn with
 | 0,_=>rfl
 | 1,_=>rfl
 | 2,_=>rfl
 | 3,_=>rfl
end HT2
namespace L2
open PySem PySem.Spec PyProof.Rows
abbrev El:Value→Shared→Prop:=fun _ _=>False
theorem Jq {α:Type} {t:Sem α} {Q:α→Shared→Prop} {M:Model} {A:Around} {E:Value→Shared→Prop} {s:Shared} (h:wpAny M A t Q El s):wpAny M A t Q E s:=wpAny_mono h (fun _ _ q=>q) fun _ _ z=>False.elim z
def EO (J:It) (g:TG) (tb:TS) (D:Ends) (σ:St) (H:Hp):Prop:=∃W:Nat→Nat→St→Hp→Prop,(∃m,W 0 m σ H)∧∀i m σ H,W i m σ H→
 (J.stop i H∧D.nx σ H)∨(J.go i H∧∃N:St→Hp→Prop,(∀σ' H',N σ' H'→∃m',m'<m∧W (i+1) m' σ' H')∧∀x H',J.yld i H x H'→g x σ H' fun σ2 H2=>tb { D with nx:=N,ct:=N,bk:=D.nx } σ2 H2)
abbrev Ra:=(Shared→Prop)→Shared→Prop
structure PB (X:Cx) (WB:Ra) (tb:TS):Prop where
 mono:∀(Qa Qb:Shared→Prop) (s:Shared),(∀s,Qa s→Qb s)→WB Qa s→WB Qb s
 run:∀(pins:List (Addr×Obj)) (s:Shared) (σ:St) (H:Hp) (D:Ends),Inv X pins σ H s→tb D σ H→WB (fun s'=>∃σ' H',Inv X pins σ' H' s'∧D.nx σ' H') s
def HT (X:Cx) (e:Expr) (d:Nat) (it acc:Value) (tg:Expr) (WB:Ra):Prop:=∀(s:Shared) (Qd Qa:Shared→Prop),
 wpAny (model X.prog X.w) X.A (pyNext it) (fun r s1=>match r with | none=>Qd s1 | some v=>wpAny (model X.prog X.w) X.A (letOwnedTupleGo tg it v) (fun _ s2=>wpAny (model X.prog X.w) X.A (assign tg X.env v) (fun _ s3=>WB Qa s3) El s2) El s1) El s→
 wpAny (model X.prog X.w) X.A (compTurn e d it acc X.env) (fun fin s'=>match fin with | .done f=>f= .next∧Qd s' | .again c'=>c'= .compLoop e d it acc X.env∧Qa s') El s
section
variable {X:Cx} {e tg:Expr} {d:Nat} {acc:Value} {it:Addr} {WB:Ra} {tb:TS} {g:TG} {J:It} {fp:List Addr} {tn:Nat→Heap→Prop} {D:Ends} {pins:List (Addr×Obj)} {σ:St} {H:Hp} {s:Shared}
theorem Eg (hxe:X.xe=El) (hc:X.calm=true) (ht:HT X e d (.ref it) acc tg WB) (hfr:(Code.compLoop e d (.ref it) acc X.env).isFrame=false) (hun:X.A.under (.compLoop e d (.ref it) acc X.env)=X.A) (hqu:(Code.compLoop e d (.ref it) acc X.env).quiet=true)
  (T:Jw X.prog X.w X.K tg J fp it tn) (hg:PG X tg g) (hb:PB X WB tb)
  (I:Inv X pins σ H s) (st:tn 0 s.heap) (f2:∀b∈fp,BO X pins H b) (h:EO J g tb D σ H) :
  codeAny (model X.prog X.w) X.A (.compLoop e d (.ref it) acc X.env) (fun r s'=>r= .ok .next∧∃σ' H',Inv X pins σ' H' s'∧D.nx σ' H') s:=by
 obtain⟨W,⟨m0,w0⟩,turn⟩:=h
 have stat:∀{H':Hp},(∀b∈fp,H' b=none)→∀b∈fp,BO X pins H' b:=fun hn b hb=>⟨hn b hb,(f2 b hb).2⟩
 refine codeAny_loop hqu (fun n s'=>∃i σ' H',Inv X pins σ' H' s'∧tn i s'.heap∧(∀b∈fp,H' b=none)∧W i n σ' H') (fun n s3 hI=>?_) m0 ⟨0,σ,H,I,st,fun b hb=>(f2 b hb).1,w0⟩
 obtain⟨i,σ3,H3,I3,st3,fr3,w3⟩:=hI
 have hden:(model X.prog X.w).den (.compLoop e d (.ref it) acc X.env)=(compTurn e d (.ref it) acc X.env).onRaise (fun x=>do noteFrame x X.env;theTreesLotGoes x):=by
  show (if (Code.compLoop e d (.ref it) acc X.env).isFrame=true then _ else _)=_
  rw[hfr]
  rfl
 rw[hun,hden]
 refine wpAny_noted (Jq ?_)
 rcases turn i n σ3 H3 w3 with⟨stop,qn⟩|⟨go,N,hN,step⟩
 ·refine wpAny_mono (ht s3 (fun s'=>∃σ' H',Inv X pins σ' H' s'∧D.nx σ' H') (fun _=>False) (AM (T.done X rfl rfl rfl hc i pins s3 σ3 H3 El I3 (stat fr3) st3 stop) fun r s4 ⟨hr,I4⟩=>?_)) (fun fin s' q=>?_) fun _ _ z=>z
  ·subst hr
   exact⟨σ3,H3,I4,qn⟩
  ·cases fin with
   | done f=>
    obtain⟨rfl,q⟩:=q
    exact⟨rfl,q⟩
   | again c'=>exact False.elim q.2
 ·refine wpAny_mono (ht s3 (fun _=>False) (fun s'=>∃m,m<n∧∃i σ' H',Inv X pins σ' H' s'∧tn i s'.heap∧(∀b∈fp,H' b=none)∧W i m σ' H') (AM (T.item X rfl rfl rfl hc i pins s3 σ3 H3 El I3 (stat fr3) st3 go) fun r s4 ⟨u,hr,h4⟩=>?_)) (fun fin s' q=>?_) fun _ _ z=>z
  ·subst hr
   refine AM h4 fun _ s5 ⟨x,H5,I5,r5,y5,st5,fr5⟩=>?_
   have I5':=I5.pinned (stat fr5) (T.obj _ _ st5)
   have hgx:=hg _ s5 σ3 H5 x u _ I5' r5 (step x H5 y5)
   rw[hxe] at hgx
   refine AM hgx fun _ s6 ⟨σ6,H6,I6,q6⟩=>?_
   have again:∀{s7:Shared},(∃σ7 H7,Inv X (pins++E9 fp s5.heap) σ7 H7 s7∧N σ7 H7)→∃m,m<n∧∃i σ' H',Inv X pins σ' H' s7∧tn i s7.heap∧(∀b∈fp,H' b=none)∧W i m σ' H':=fun {s7} ⟨σ7,H7,I7,n7⟩=>by
    obtain⟨m',hm,w7⟩:=hN σ7 H7 n7
    refine⟨m',hm,i+1,σ7,H7,I7.unpinned,T.keep _ _ _ st5 fun b hb o e=>(I7.pin (b,o) (List.mem_append_right _ (List.mem_append_right _ (BL hb e)))).1,fun b hb=>?_,w7⟩
    obtain⟨o,e,d⟩:=T.obj _ _ st5 b hb
    exact (I7.pin (b,o) (List.mem_append_right _ (List.mem_append_right _ (BL hb e)))).2.1
   exact hb.mono _ _ s6 (fun s7 q7=>again q7) (hb.run _ s6 σ6 H6 _ I6 q6)
  ·cases fin with
   | done f=>exact False.elim q.2
   | again c'=>exact q
def FQ (ifs:List Expr) (env:Env):Sem Bool:=forIn ifs true fun c r=>if r=true then do let ok ←isTrue c env (eval c env);pure (ForInStep.yield ok) else pure (ForInStep.yield r)
def OD (X:Cx) (ifs:List Expr) (t:TT):Prop:=
 ∀(pins:List (Addr×Obj)) (s:Shared) (σ:St) (H:Hp) (Q:Bool→Hp→Prop),Inv X pins σ H s→t σ H Q→wpAny (model X.prog X.w) X.A (FQ ifs X.env) (TP X pins σ Q) X.xe s
def MW:TT:=fun _ H Q=>Q true H
theorem D2:OD X [] MW:=fun pins s σ H Q I h=>wpAny_tests_nil ⟨H,I,h⟩
theorem Gd {c:Expr} {tc:TT} (h:PT X c tc):OD X [c] tc:=fun pins s σ H Q I q=>wpAny_tests_one (h pins s σ H Q I q)
def Fb (X:Cx) (ifs:List Expr) (elt:Expr) (acc:Value):Ra:=fun Qa s=>wpAny (model X.prog X.w) X.A (FQ ifs X.env) (fun ok s1=>if ok=true then wpAny (model X.prog X.w) X.A (eval elt X.env) (fun x s2=>wpAny (model X.prog X.w) X.A (call (.builtin "list.append") [acc,x]) (fun _ s3=>Qa s3) El s2) El s1 else Qa s1) El s
def Ds (acc:Addr) (te:TE):TS:=fun D σ H=>te σ H fun x H1=>∃xs,H1 acc=some (.lst xs)∧xs.length<sizeLine∧D.nx σ (upd H1 acc (.lst (xs++[x])))
def Em (tc:TT) (tb:TS):TS:=fun D σ H=>tc σ H fun b H1=>if b=true then tb D σ H1 else D.nx σ H1
theorem IQ {ifs:List Expr} {elt:Expr} {ac:Addr} {tc:TT} {te:TE} (hxe:X.xe=El) (hi:OD X ifs tc) (he:PE X elt te):PB X (Fb X ifs elt (.ref ac)) (Em tc (Ds ac te)) where
 mono:=fun Qa Qb s hq h=>AM h fun ok s1 h1=>by
  cases ok with
  | false=>exact hq _ h1
  | true=>exact AM h1 fun x s2 h2=>AM h2 fun _ s3 h3=>hq _ h3
 run:=fun pins s σ H D I h=>by
  have h1:=hi pins s σ H _ I h
  rw[hxe] at h1
  refine AM h1 fun ok s1 ⟨H1,I1,q1⟩=>?_
  cases ok with
  | false=>exact⟨σ,H1,I1,q1⟩
  | true=>
   have q1':Ds ac te D σ H1:=q1
   have h2:=he pins s1 σ H1 _ I1 q1'
   rw[hxe] at h2
   refine AM h2 fun u s2 ⟨x,H2,I2,r2,xs,hl,hz,q2⟩=>?_
   have h3:=AZ (X:=X) pins s2 σ H2 (.ref ac) [x] (.ref ac) [u] (fun _ H'=>D.nx σ H') I2 rfl (.cons r2 .nil) ⟨ac,xs,x,rfl,rfl,hl,hz,q2⟩
   rw[hxe] at h3
   exact AM h3 fun _ s3 ⟨_,H3,I3,_,q3⟩=>⟨σ,H3,I3,q3⟩
theorem Pu {elt iter:Expr} {ifs:List Expr} {scope:Scope} {pos:Pos} {itv:Value}:HT X (.ListComp elt [⟨tg,iter,ifs,0⟩] scope pos) 0 itv acc tg (Fb X ifs elt acc):=by
 intro s Qd Qa h
 rw[compTurn_list]
 refine wpAny_bind (wpAny_standAt (wpAny_bind (AM h fun r s₁ h₁=>?_)))
 cases r with
 | none=>exact wpAny_pure ⟨rfl,h₁⟩
 | some v=>
  refine wpAny_bind (AM h₁ fun _ s2 h2=>wpAny_bind (AM h2 fun _ s3 h3=>wpAny_bind (AM h3 fun ok s4 h4=>?_)))
  cases ok with
  | false=>exact wpAny_pure ⟨rfl,h4⟩
  | true=>exact wpAny_bind (wpAny_bind (AM h4 fun x s₄ h₄=>wpAny_bind (AM h₄ fun _ s₅ h₅=>wpAny_pure (wpAny_pure ⟨rfl,h₅⟩))))
theorem Ki (elt tg0 iter0 tg iter:Expr) (ifs0 ifs:List Expr) (scope:Scope) (pos:Pos) (it acc:Value) (env:Env) :
  compTurn (.ListComp elt [⟨tg0,iter0,ifs0,0⟩,⟨tg,iter,ifs,0⟩] scope pos) 1 it acc env=(do
   standAt iter.pos
   match ←pyNext it with
   | none=>pure (.done .next)
   | some v=>
    letOwnedTupleGo tg it v
    assign tg env v
    let mut ok:=true
    for c in ifs do
     if ok then ok ←isTrue c env (eval c env)
    if ok then
     (do let _ ←call (.builtin "list.append") [acc,←eval elt env])
    again (.compLoop (.ListComp elt [⟨tg0,iter0,ifs0,0⟩,⟨tg,iter,ifs,0⟩] scope pos) 1 it acc env)):=by rfl
theorem Ve {elt tg0 iter0 iter:Expr} {ifs0 ifs:List Expr} {scope:Scope} {pos:Pos} {itv:Value}:HT X (.ListComp elt [⟨tg0,iter0,ifs0,0⟩,⟨tg,iter,ifs,0⟩] scope pos) 1 itv acc tg (Fb X ifs elt acc):=by
 intro s Qd Qa h
 rw[Ki]
 refine wpAny_bind (wpAny_standAt (wpAny_bind (AM h fun r s₁ h₁=>?_)))
 cases r with
 | none=>exact wpAny_pure ⟨rfl,h₁⟩
 | some v=>
  refine wpAny_bind (AM h₁ fun _ s2 h2=>wpAny_bind (AM h2 fun _ s3 h3=>wpAny_bind (AM h3 fun ok s4 h4=>?_)))
  cases ok with
  | false=>exact wpAny_pure ⟨rfl,h4⟩
  | true=>exact wpAny_bind (wpAny_bind (AM h4 fun x s₄ h₄=>wpAny_bind (AM h₄ fun _ s₅ h₅=>wpAny_pure (wpAny_pure ⟨rfl,h₅⟩))))
theorem IX (elt tg iter tg1 iter1:Expr) (ifs ifs1:List Expr) (scope:Scope) (pos:Pos) (it acc:Value) (env:Env) :
  compTurn (.ListComp elt [⟨tg,iter,ifs,0⟩,⟨tg1,iter1,ifs1,0⟩] scope pos) 0 it acc env=(do
   standAt iter.pos
   match ←pyNext it with
   | none=>pure (.done .next)
   | some v=>
    letOwnedTupleGo tg it v
    assign tg env v
    let mut ok:=true
    for c in ifs do
     if ok then ok ←isTrue c env (eval c env)
    if ok then
     let x ←eval iter1 env
     standAt iter1.pos
     let x ←foldedSetIterable iter1 env x
     let _ ←runOwn (.compStart (.ListComp elt [⟨tg,iter,ifs,0⟩,⟨tg1,iter1,ifs1,0⟩] scope pos) 1 (←holding [x] (pyIter x)) acc env) env
    again (.compLoop (.ListComp elt [⟨tg,iter,ifs,0⟩,⟨tg1,iter1,ifs1,0⟩] scope pos) 0 it acc env)):=by rfl
def Iy (X:Cx) (ifs:List Expr) (e iter1:Expr) (acc:Value):Ra:=fun Qa s=>wpAny (model X.prog X.w) X.A (FQ ifs X.env) (fun ok s1=>if ok=true then
 wpAny (model X.prog X.w) X.A (eval iter1 X.env) (fun x s2=>wpAny (model X.prog X.w) X.A (pyIter x) (fun it s3=>codeAny (model X.prog X.w) X.A (.compStart e 1 it acc X.env) (fun r s4=>r= .ok .next∧Qa s4) s3) El s2) El s1 else Qa s1) El s
theorem TQ {elt iter tg1 iter1:Expr} {ifs ifs1:List Expr} {scope:Scope} {pos:Pos} {itv:Value} (hs:∀x,foldedSetIterable iter1 X.env x=pure x) :
  HT X (.ListComp elt [⟨tg,iter,ifs,0⟩,⟨tg1,iter1,ifs1,0⟩] scope pos) 0 itv acc tg (Iy X ifs (.ListComp elt [⟨tg,iter,ifs,0⟩,⟨tg1,iter1,ifs1,0⟩] scope pos) iter1 acc):=by
 intro s Qd Qa h
 rw[IX]
 refine wpAny_bind (wpAny_standAt (wpAny_bind (AM h fun r s₁ h₁=>?_)))
 cases r with
 | none=>exact wpAny_pure ⟨rfl,h₁⟩
 | some v=>
  refine wpAny_bind (AM h₁ fun _ s2 h2=>wpAny_bind (AM h2 fun _ s3 h3=>wpAny_bind (AM h3 fun ok s4 h4=>?_)))
  cases ok with
  | false=>exact wpAny_pure ⟨rfl,h4⟩
  | true=>
   refine wpAny_bind (AM h4 fun x s₄ h₄=>wpAny_bind (wpAny_standAt (wpAny_bind (wpAny_of_eq (hs x) (wpAny_bind (wpAny_holding (AM h₄ fun it s₅ h₅=>?_)))))))
   refine wpAny_bind (wpAny_runOwn (codeAny_mono h₅ fun r s₆ h₆=>?_))
   obtain⟨rfl,h₆⟩:=h₆
   exact wpAny_pure ⟨rfl,h₆⟩
theorem B9 {itv:Value} {R:Result→Shared→Prop} (hcl:((clausesOf e)[d]?).elim false (·.is_async != 0)=false) (hfr:(Code.compStart e d itv acc X.env).isFrame=false) (hun:X.A.under (.compStart e d itv acc X.env)=X.A)
  (hqu:∀it',(Code.compLoop e d it' acc X.env).quiet=true) (hposR:True)
  (h0:codeAny (model X.prog X.w) X.A (.compLoop e d itv acc X.env) R s)
  (h:wpAny (model X.prog X.w) X.A (pyIter itv) (fun it' s'=>codeAny (model X.prog X.w) X.A (.compLoop e d it' acc X.env) R s') El s) :
  codeAny (model X.prog X.w) X.A (.compStart e d itv acc X.env) R s:=by
 refine codeAny_of_tree ?_
 have hden:(model X.prog X.w).den (.compStart e d itv acc X.env)=(compStart e d itv acc X.env).onRaise (fun x=>do noteFrame x X.env;standAt theWindowsPlace):=by
  show (if (Code.compStart e d itv acc X.env).isFrame=true then _ else _)=_
  rw[hfr]
  rfl
 rw[hun,hden]
 refine wpAny_notedAt (Jq ?_)
 unfold compStart
 rw[hcl]
 show wpAny _ _ (ask >>= _) _ _ s
 refine wpAny_bind (wpAny_askSetting (wpAny_ite ?_))
 split
 ·first
   | exact wpAny_bind (wpAny_pure (wpAny_pure (And.intro (hqu _) h0)))
   | exact wpAny_pure (And.intro (hqu _) h0)
 ·refine wpAny_bind (wpAny_rule ?_)
  cases hg:(clausesOf e)[d]? with
  | none=>exact wpAny_bind (AM h fun it' s' h'=>wpAny_pure (And.intro (hqu _) h'))
  | some g'=>exact wpAny_bind (wpAny_standAt (wpAny_bind (AM h fun it' s' h'=>wpAny_pure (And.intro (hqu _) h'))))
theorem TL {elt iter tg1 iter1:Expr} {ifs ifs1:List Expr} {scope:Scope} {pos:Pos} {ac:Addr} {tc:TT} {wi1:TI} {g1:TG} {tb1:TS} (hxe:X.xe=El) (hc:X.calm=true)
  (hi:OD X ifs tc) (hI:PI X tg1 iter1 wi1) (hg1:PG X tg1 g1) (hb1:PB X (Fb X ifs1 elt (.ref ac)) tb1) :
  PB X (Iy X ifs (.ListComp elt [⟨tg,iter,ifs,0⟩,⟨tg1,iter1,ifs1,0⟩] scope pos) iter1 (.ref ac)) (Em tc (LG wi1 g1 tb1)) where
 mono:=fun Qa Qb s hq h=>AM h fun ok s1 h1=>by
  cases ok with
  | false=>exact hq _ h1
  | true=>exact AM h1 fun x s2 h2=>AM h2 fun it s3 h3=>codeAny_mono h3 fun r s4 h4=>⟨h4.1,hq _ h4.2⟩
 run:=fun pins s σ H D I h=>by
  have h1:=hi pins s σ H _ I h
  rw[hxe] at h1
  refine AM h1 fun ok s1 ⟨H1,I1,q1⟩=>?_
  cases ok with
  | false=>exact⟨σ,H1,I1,q1⟩
  | true=>
   have q1':LG wi1 g1 tb1 D σ H1:=q1
   have h2:=hI pins s1 σ H1 _ I1 q1'
   rw[hxe] at h2
   refine AM h2 fun u s2 h3=>AM h3 fun itv s3 h4=>?_
   obtain⟨it,fp,tn,J,H3,e,I3,T,st3,f3,hR⟩:=h4
   subst e
   have loop:=Eg (e:=.ListComp elt [⟨tg,iter,ifs,0⟩,⟨tg1,iter1,ifs1,0⟩] scope pos) (d:=1) (D:=D) hxe hc Ve rfl rfl rfl T hg1 hb1 I3 st3 f3 hR
   exact B9 (X:=X) rfl rfl rfl (fun _=>rfl) True.intro loop (T.self _ 0 s3 _ _ st3 loop)
end
structure CC where
 s:Shared
 H:Hp
 fp:List Addr
def Cx.cmp (X:Cx) (N:List Str) (scope:Scope) (cl:List (Str×Addr)) (c:CC):Cx:=
 { X with N:=N,s₀:=c.s,H₀:=c.H,env:=compEnvC scope cl c.s.heap.objs.size X.env,outer:=X.stack,ex:=c.fp,fn:=fun _=>false,pn:=[] }
def sub (js:List (Option Nat)) (σ:St):St:=js.map fun o=>o.bind fun j=>(σ[j]?).join
def Gu (X:Cx) (N:List Str) (scope:Scope) (js:List (Option Nat)):Prop:=
 ∀(i:Nat) (x:Str) (j:Nat),N[i]? = some x→js[i]? = some (some j)→X.N[j]? = some x∧X.env.kindOf x=some .cell∧(relabel scope X.env).names.lookup x=some .cell
section
variable {X:Cx} {N:List Str} {scope:Scope} {cl:List (Str×Addr)} {js:List (Option Nat)} {pins:List (Addr×Obj)} {σ:St} {H:Hp} {s:Shared} {fp:List Addr}
theorem Inv.cmp {h':Heap} {ob:Obj} (I:Inv X pins σ H s) (hf:∀b∈fp,BO X pins H b) (hfo:∀b∈fp,b<s.heap.objs.size) (hk:scope.kind= .function)
  (hcl:∀p∈cl,X.env.cells.lookup p.1=some p.2) (hcn:∀x,((relabel scope X.env).names.lookup x=some .cell∨(relabel scope X.env).names.lookup x=some .free)→∃c,cl.lookup x=some c)
  (hsh:Gu X N scope js) (hl:js.length=N.length)
  (hns:h'.Ns s.heap.objs.size (fun _=>none)) (hsb:Heap.SameBut s.heap.objs.size (s.heap.push ob) h') {t':Nat} :
  Inv (X.cmp N scope cl ⟨s,H,fp⟩) [] (sub js σ) H { s with heap:=h',toks:=t' }:=by
 have hlook:∀x c,cl.lookup x=some c→X.env.cells.lookup x=some c:=fun x c e=>hcl (x,c) (PySem.mem_of_lookup e)
 have hkeep:∀b o,s.heap.get? b=some o→h'.get? b=some o:=fun b o e=>(hsb.2 b (Nat.ne_of_lt (Heap.lt_size e))).trans (Heap.get?_push_of_some _ e)
 refine⟨⟨I.ok.mod,?_,I.ok.glob,I.ok.blt,Nat.le_refl _,fun x y c h1 h2=>I.ok.inj x y c (hlook x c h1) (hlook y c h2),fun x hx=>hcn x hx,fun x c h=>?_,I.ok.hd,I.ok.frames,.inl rfl,fun b hb=>⟨Nat.ne_of_lt (hfo b hb),fun x c e=>(hf b hb).2.2.2.2.1 x c (hlook x c e)⟩,
   I.bs,Nat.le_trans I.ok.bsz I.sz,fun b o e hb=>?_,fun b hb hs=>?_,I.stack,I.stkFree⟩,rfl,I.bare,Un.kept hkeep,⟨_,hns,fun i x v e1 e2 e3=>?_⟩,fun x c e=>?_,I.hok.fresh (Nat.le_refl _),fun x c e=>I.freeC x c (hlook x c e),fun p hp=>?_,I.hok.kept hkeep,?_⟩
 ·show (relabel scope X.env).kind= .function
  exact hk
 ·exact absurd (show false=true from h) Bool.false_ne_true
 ·rcases (hf b hb).2.2.2.1 with z | z
  ·exact I.ok.noex b o e z
  ·exact absurd (Nat.lt_of_lt_of_le (Heap.lt_size (I.ok.bs b o e).1) z) (Nat.lt_irrefl _)
 ·rcases List.mem_cons.mp (I.stkSub b hs) with z | z
  ·exact (hf b hb).2.1 z
  ·exact (hf b hb).2.2.1 z
 ·have e2':(sub js σ)[i]? = some (some v):=e2
  unfold sub at e2'
  rw[List.getElem?_map] at e2'
  cases ej:js[i]? with
  | none=>rw[ej] at e2';cases e2'
  | some o=>
   rw[ej] at e2'
   cases o with
   | none=>cases e2'
   | some j=>
    obtain⟨a1,a2,a3⟩:=hsh i x j e1 ej
    have e4:(σ[j]?).join=some v:=Option.some.inj e2'
    have e5:σ[j]? = some (some v):=by
     cases q:σ[j]? with
     | none=>rw[q] at e4;cases e4
     | some o=>
      rw[q] at e4
      have:o=some v:=e4
      rw[this]
    obtain⟨m,hn,hloc⟩:=I.loc
    obtain⟨u,r,l⟩:=hloc j x v a1 e5 (.inr (.inl a2))
    refine⟨u,r,.inr ⟨.inl a3,?_⟩⟩
    obtain⟨c,hc⟩:=hcn x (.inl a3)
    refine⟨c,hc,?_⟩
    rcases l with⟨k,_⟩|⟨_,c',hc',hcell⟩
    ·rw[k] at a2;cases a2
    ·have:c'=c:=by
      have:=hlook x c hc
      rw[hc'] at this
      exact Option.some.inj this
     subst this
     obtain⟨o,ho,hd⟩:=hcell
     exact⟨o,hkeep _ _ ho,hd⟩
 ·obtain⟨v,o,ho,hd⟩:=I.cell x c (hlook x c e)
  exact⟨v,o,hkeep _ _ ho,hd⟩
 ·exact absurd (show p∈([]:List (Addr×Obj)) from hp) (by simp)
 ·unfold sub
  rw[List.length_map]
  exact hl
theorem Inv.uncmp {σ':St} {H':Hp} {s':Shared} {h'':Heap} (I:Inv X pins σ H s) (hf:∀b∈fp,BO X pins H b) (J:Inv (X.cmp N scope cl ⟨s,H,fp⟩) [] σ' H' s') (hsb:Heap.SameBut s.heap.objs.size s'.heap h'') :
  Inv X pins σ H' { s' with heap:=h'' }:=by
 have u:Un (Gh X.stack) fp H H' s.heap s'.heap:=J.base
 have ne:∀b o,s.heap.get? b=some o→b≠s.heap.objs.size:=fun b o e=>Nat.ne_of_lt (Heap.lt_size e)
 have hfree:H' s.heap.objs.size=none:=J.free
 refine I.call' (ch:=fp) (s':={ s' with heap:=h'' }) J.os ⟨fun b o e n hb hx=>(hsb.2 b (ne b o e)).trans (u.keep b o e n hb hx),fun b o e n hb hx=>?_,u.free,fun b o e hx=>?_,u.tups,u.frzs,u.tbls⟩ (fun b ob e=>?_) J.bare fun b hb=>⟨(hf b hb).2.2.2.1,(hf b hb).2.1,(hf b hb).2.2.2.2.1,(hf b hb).2.2.2.2.2⟩
 ·obtain⟨sl,e1⟩:=u.slot b o e n hb hx
  exact⟨sl,(hsb.2 b (ne b o e)).trans e1⟩
 ·obtain⟨o',e1⟩:=u.there b o e hx
  exact⟨o',(hsb.2 b (ne b o e)).trans e1⟩
 ·refine (J.hok b ob e).stay (fun c w' hc q=>(hsb.2 c ?_).trans q) (fun _ q=>q) fun _ _ q=>q
  rintro rfl
  rcases hc with z | z
  ·rw[←z,hfree] at e;cases e
  ·rw[hfree] at z;cases z
end
def L9 (wi:TI) (js:List (Option Nat)) (g:CC→TG) (tb:CC→Addr→TS):TE:=fun σ H Q=>wi σ H fun J H1=>∀(c:CC) (acc:Addr),H1 acc=none→
 EO J (g c) (tb c acc) { nx:=fun _ H'=>Q (.ref acc) H',rt:=fun _ _=>False } (sub js σ) (upd H1 acc (.lst []))
section
variable {X:Cx} {N:List Str} {scope:Scope} {cl:List (Str×Addr)} {js:List (Option Nat)} {elt tg iter:Expr} {ifs:List Expr} {rest:List Comprehension} {pos:Pos} {wi:TI} {g:CC→TG} {tb:CC→Addr→TS}
theorem Kw {WB:CC→Value→Ra} (hxe:X.xe=El) (hc:X.calm=true) (hi:PI X tg iter wi) (hs:∀x,foldedSetIterable iter X.env x=pure x) (hclos:closureFor scope X.env=pure cl) (hk:scope.kind= .function)
  (hnames:∀x∈scope.names,x.2= .local→scope.names.lookup x.1=some .local) (hcell:∀x∈scope.names,x.2≠.cell)
  (hcl:∀p∈cl,X.env.cells.lookup p.1=some p.2) (hcn:∀x,((relabel scope X.env).names.lookup x=some .cell∨(relabel scope X.env).names.lookup x=some .free)→∃c,cl.lookup x=some c)
  (hsh:Gu X N scope js) (hl:js.length=N.length)
  (ht:∀c it ac,HT (X.cmp N scope cl c) (.ListComp elt (⟨tg,iter,ifs,0⟩::rest) scope pos) 0 it ac tg (WB c ac))
  (hg:∀c,PG (X.cmp N scope cl c) tg (g c)) (hb:∀c ac,PB (X.cmp N scope cl c) (WB c (.ref ac)) (tb c ac)) :
  PE X (.ListComp elt (⟨tg,iter,ifs,0⟩::rest) scope pos) (L9 wi js g tb):=by
 intro pins s σ H Q I h
 rw[eval_ListComp]
 have h0:=hi pins s σ H _ I h
 refine wpAny_comprehension_free (use:=none) (cl:=cl) rfl hs hclos hk hnames (AM h0 fun v s1 h1=>AM h1 fun itv s2 h2=>?_)
 obtain⟨it,fp,tn,J,H2,e,I2,T,st2,f2,hR⟩:=h2
 subst e
 refine wpAny_newObj_type (wpAny_newFunctionEnv hcell (by intro y hy;simp at hy) (fun h₁ hns₁ hsb₁=>?_) hk)
 dsimp only at hns₁ hsb₁ ⊢
 have I3:=I2.lnew (ys:=[]) (its:=[]) (t':=s2.toks) .nil (Nat.zero_le _)
 have fpl:∀b∈fp,b<s2.heap.objs.size:=fun b hb=>by
  obtain⟨o,e,_⟩:=T.obj 0 _ st2 b hb
  exact Heap.lt_size e
 have fpa:∀b∈fp,b≠s2.heap.objs.size:=fun b hb=>Nat.ne_of_lt (fpl b hb)
 have f3:∀b∈fp,BO X pins (upd H2 s2.heap.objs.size (.lst [])) b:=fun b hb=>⟨by rw[Aq (fpa b hb)];exact (f2 b hb).1,(f2 b hb).2⟩
 have hR':=hR ⟨{ s2 with heap:=s2.heap.push { cls:=.type "list",data:=.seq ([]:List Value).toArray } },upd H2 s2.heap.objs.size (.lst []),fp⟩ s2.heap.objs.size I2.fresh
 have I4:=I3.cmp (N:=N) (cl:=cl) (js:=js) (t':=s2.toks) f3 (fun b hb=>by
  show b<(s2.heap.push _).objs.size
  rw[Heap.size_push]
  exact Nat.lt_succ_of_lt (fpl b hb)) hk hcl hcn hsh hl hns₁ hsb₁
 have st4:tn 0 h₁:=T.keep 0 _ _ st2 fun b hb o e=>(hsb₁.2 b (by
  rw[Heap.size_push]
  exact Nat.ne_of_lt (Nat.lt_succ_of_lt (fpl b hb)))).trans (Heap.get?_push_of_some _ (Heap.get?_push_of_some _ e))
 have f4:∀b∈fp,BO (X.cmp N scope cl ⟨{ s2 with heap:=s2.heap.push { cls:=.type "list",data:=.seq ([]:List Value).toArray } },upd H2 s2.heap.objs.size (.lst []),fp⟩) [] (upd H2 s2.heap.objs.size (.lst [])) b:=fun b hb=>
  ⟨(f3 b hb).1,(I4.ok.exf b hb).1,I4.ok.exfs b hb,.inl hb,(I4.ok.exf b hb).2,fun p hp=>absurd (show p∈([]:List (Addr×Obj)) from hp) (by simp)⟩
 have loop:=codeAny_mono (Eg (X:=X.cmp N scope cl ⟨{ s2 with heap:=s2.heap.push { cls:=.type "list",data:=.seq ([]:List Value).toArray } },upd H2 s2.heap.objs.size (.lst []),fp⟩) (e:=.ListComp elt (⟨tg,iter,ifs,0⟩::rest) scope pos) (d:=0) (acc:=.ref s2.heap.objs.size) (pins:=[]) hxe hc (ht _ _ _) rfl rfl rfl T (hg _) (hb _ _) I4 st4 f4 hR') (R':=compPost (model X.prog X.w) X.A X.xe none (EP X pins σ Q) (.ref s2.heap.objs.size) (s2.heap.push { cls:=.type "list",data:=.seq ([]:List Value).toArray }).objs.size) (fun r s' hq=>by
  obtain⟨rfl,σ',H',J',q⟩:=hq
  obtain⟨m,hn,_⟩:=id J'.loc
  exact⟨m,hn,fun h'' hs''=>⟨.ref s2.heap.objs.size,H',I3.uncmp f3 J' hs'',rfl,q⟩⟩)
 exact B9 (X:=X.cmp N scope cl ⟨{ s2 with heap:=s2.heap.push { cls:=.type "list",data:=.seq ([]:List Value).toArray } },upd H2 s2.heap.objs.size (.lst []),fp⟩) rfl rfl rfl (fun _=>rfl) True.intro loop (T.self _ 0 _ _ _ st4 loop)
end
structure CompOk (X:Cx) (N:List Str) (scope:Scope) (cl:List (Str×Addr)) (js:List (Option Nat)):Prop where
 clos:closureFor scope X.env=pure cl
 kind:scope.kind= .function
 loc:(scope.names.all fun x=>(x.2 != .local || scope.names.lookup x.1 == some .local) && x.2 != .cell)=true
 ccl:∀p∈cl,X.env.cells.lookup p.1=some p.2
 cn:((relabel scope X.env).names.all fun p=>!(p.2 == .cell || p.2 == .free) || (cl.lookup p.1).isSome)=true
 sh:((N.zip js).all fun p=>match p.2 with | none=>true | some j=>X.N[j]? == some p.1 && X.env.kindOf p.1 == some .cell && (relabel scope X.env).names.lookup p.1 == some .cell)=true
 len:js.length=N.length
section
variable {X:Cx} {N:List Str} {scope:Scope} {cl:List (Str×Addr)} {js:List (Option Nat)}
theorem CompOk.names (h:CompOk X N scope cl js):∀x∈scope.names,x.2= .local→scope.names.lookup x.1=some .local:=fun x hx e=>by
 have q:=(List.all_eq_true.mp h.loc) x hx
 rw[Bool.and_eq_true] at q
 rw[e] at q
 simpa using q.1
theorem CompOk.cell (h:CompOk X N scope cl js):∀x∈scope.names,x.2≠.cell:=fun x hx e=>by
 have q:=(List.all_eq_true.mp h.loc) x hx
 rw[Bool.and_eq_true,e] at q
 exact absurd q.2 (by decide)
theorem CompOk.hcn (h:CompOk X N scope cl js):∀x,((relabel scope X.env).names.lookup x=some .cell∨(relabel scope X.env).names.lookup x=some .free)→∃c,cl.lookup x=some c:=fun x hx=>by
 rcases hx with e | e
 ·have q:=(List.all_eq_true.mp h.cn) _ (PySem.mem_of_lookup e)
  exact Option.isSome_iff_exists.mp (by simpa using q)
 ·have q:=(List.all_eq_true.mp h.cn) _ (PySem.mem_of_lookup e)
  exact Option.isSome_iff_exists.mp (by simpa using q)
theorem CompOk.shr (h:CompOk X N scope cl js):Gu X N scope js:=fun i x j e1 e2=>by
 have hm:(x,some j)∈N.zip js:=by
  have:(N.zip js)[i]? = some (x,some j):=by rw[List.getElem?_zip_eq_some];exact⟨e1,e2⟩
  exact List.mem_of_getElem? this
 have q:=(List.all_eq_true.mp h.sh) _ hm
 simp only[Bool.and_eq_true] at q
 exact⟨eq_of_beq q.1.1,eq_of_beq q.1.2,eq_of_beq q.2⟩
variable {elt tg iter tg1 iter1:Expr} {ifs ifs1:List Expr} {pos:Pos} {wi:TI} {wi1:CC→TI} {g g1:CC→TG} {tc tc1:CC→TT} {te:CC→TE}
theorem Dz (h:CompOk X N scope cl js) (hi:PI X tg iter wi) (hg:∀c,PG (X.cmp N scope cl c) tg (g c)) (hif:∀c,OD (X.cmp N scope cl c) ifs (tc c)) (he:∀c,PE (X.cmp N scope cl c) elt (te c))
  (hxe:X.xe=El:=by rfl) (hc:X.calm=true:=by rfl) (hs:∀x,foldedSetIterable iter X.env x=pure x:=by intro _;rfl) :
  PE X (.ListComp elt [⟨tg,iter,ifs,0⟩] scope pos) (L9 wi js g fun c ac=>Em (tc c) (Ds ac (te c))):=
 Kw (WB:=fun c ac=>Fb (X.cmp N scope cl c) ifs elt ac) hxe hc hi hs h.clos h.kind h.names h.cell h.ccl h.hcn h.shr h.len (fun c it ac=>Pu) hg fun c ac=>IQ hxe (hif c) (he c)
theorem QQ (h:CompOk X N scope cl js) (hi:PI X tg iter wi) (hg:∀c,PG (X.cmp N scope cl c) tg (g c)) (hif:∀c,OD (X.cmp N scope cl c) ifs (tc c))
  (hi1:∀c,PI (X.cmp N scope cl c) tg1 iter1 (wi1 c)) (hg1:∀c,PG (X.cmp N scope cl c) tg1 (g1 c)) (hif1:∀c,OD (X.cmp N scope cl c) ifs1 (tc1 c)) (he:∀c,PE (X.cmp N scope cl c) elt (te c))
  (hs1:∀c x,foldedSetIterable iter1 (X.cmp N scope cl c).env x=pure x:=by intro _ _;rfl)
  (hxe:X.xe=El:=by rfl) (hc:X.calm=true:=by rfl) (hs:∀x,foldedSetIterable iter X.env x=pure x:=by intro _;rfl) :
  PE X (.ListComp elt [⟨tg,iter,ifs,0⟩,⟨tg1,iter1,ifs1,0⟩] scope pos) (L9 wi js g fun c ac=>Em (tc c) (LG (wi1 c) (g1 c) (Em (tc1 c) (Ds ac (te c))))):=
 Kw (WB:=fun c ac=>Iy (X.cmp N scope cl c) ifs (.ListComp elt [⟨tg,iter,ifs,0⟩,⟨tg1,iter1,ifs1,0⟩] scope pos) iter1 ac) hxe hc hi hs h.clos h.kind h.names h.cell h.ccl h.hcn h.shr h.len (fun c it ac=>TQ (hs1 c)) hg
  fun c ac=>TL hxe hc (hif c) (hi1 c) (hg1 c) (IQ hxe (hif1 c) (he c))
end
end L2
namespace L2
open PySem PySem.Spec PyProof.Rows
section
variable {X:Cx} {pins:List (Addr×Obj)} {σ:St} {H:Hp} {s:Shared} {fp:List Addr} {h':Heap}
theorem Inv.turnedL {t':Nat} (I:Inv X pins σ H s) (hf:∀b∈fp,BO X pins H b) (k:∀b o,b∉fp→s.heap.get? b=some o→h'.get? b=some o):Inv X pins σ H { s with heap:=h',toks:=t' }:=by
 have nfp:∀b u,H b=some u→b∉fp:=fun b u e z=>by rw[(hf b z).1] at e;cases e
 refine I.call' (ch:=fp) (s':={ s with heap:=h',toks:=t' }) rfl ⟨fun b o e _ _ hx=>k b o hx e,fun b o e _ _ hx=>⟨o.slots,k b o hx e⟩,fun _ _ _ n _=>n,fun b o e hx=>⟨o,k b o hx e⟩,fun _ _ q=>q,fun _ _ _ q=>q,fun _ ps q=>⟨#[],by rw[q];simp⟩⟩ (fun b u e=>?_) I.bare
  fun b hb=>⟨(hf b hb).2.2.2.1,(hf b hb).2.1,(hf b hb).2.2.2.2.1,(hf b hb).2.2.2.2.2⟩
 refine (I.hok b u e).stay (fun c v hc q=>k c v ?_ q) (fun _ q=>q) fun _ _ q=>q
 rcases hc with z | z
 ·rw[z];exact nfp b u e
 ·exact nfp c _ z
theorem Inv.turnedT {t':Nat} {T:Addr} {xs:List V} {its:List Value} (I:Inv X pins σ H s) (hf:∀b∈fp,BO X pins H b) (k:∀b o,b∉fp→s.heap.get? b=some o→h'.get? b=some o)
  (hT:s.heap.objs.size≤T) (hz:xs.length≤sizeLine) (rv:Vals xs its) (ht:IsTup h' T its.toArray):Inv X pins σ (upd H T (.tup xs)) { s with heap:=h',toks:=t' }:=by
 have nfp:∀b u,H b=some u→b∉fp:=fun b u e z=>by rw[(hf b z).1] at e;cases e
 have hn:H T=none:=I.hok.fresh hT
 refine I.call' (ch:=fp) (s':={ s with heap:=h',toks:=t' }) rfl ⟨fun b o e _ _ hx=>k b o hx e,fun b o e _ _ hx=>⟨o.slots,k b o hx e⟩,fun b o e n _=>?_,fun b o e hx=>⟨o,k b o hx e⟩,fun b q e=>?_,fun b o u e=>?_,fun b ps e=>⟨#[],?_⟩⟩ (fun b u e=>?_) I.bare
  fun b hb=>⟨(hf b hb).2.2.2.1,(hf b hb).2.1,(hf b hb).2.2.2.2.1,(hf b hb).2.2.2.2.2⟩
 ·rw[Aq (Nat.ne_of_lt (Nat.lt_of_lt_of_le (Heap.lt_size e) hT))];exact n
 ·rw[Aq (Ai e hn)];exact e
 ·rw[Aq (Ai e hn)];exact e
 ·rw[Aq (Ai e hn),e];simp
 ·by_cases hb:b=T
  ·subst hb
   rw[upd_same] at e
   cases e
   exact⟨hz,its,rv,ht⟩
  ·rw[Aq hb] at e
   refine (I.hok b u e).stay (fun c v hc q=>k c v ?_ q) (fun c q=>?_) fun c xs q=>?_
   ·rcases hc with z | z
    ·rw[z];exact nfp b u e
    ·exact nfp c _ z
   ·rw[Aq (Ai q hn)];exact q
   ·rw[Aq (Ai q hn)];exact q
end
def Vk (z:Str):It:=⟨fun i _=>i<z.length,fun i H x H'=>H'=H∧∃c,z.cps[i]? = some c∧x= .str ⟨#[c]⟩,fun i _=>i=z.length⟩
theorem RZ {z:Str} {g:TG} {tb:TS} {D:Ends} {σ:St} {H:Hp} (Pv:Nat→St→Hp→Prop) (h0:Pv 0 σ H)
  (hs:∀i c σ H,z.cps[i]? = some c→Pv i σ H→g (.str ⟨#[c]⟩) σ H fun σ2 H2=>tb { D with nx:=Pv (i+1),ct:=Pv (i+1),bk:=D.nx } σ2 H2) (hd:∀σ H,Pv z.length σ H→D.nx σ H):EO (Vk z) g tb D σ H:=by
 refine⟨fun i m σ H=>m=z.length-i∧i≤z.length∧Pv i σ H,⟨z.length,by simp,Nat.zero_le _,h0⟩,?_⟩
 rintro i m σ H ⟨rfl,hi,p⟩
 by_cases hlt:i<z.length
 ·refine .inr ⟨hlt,Pv (i+1),fun σ' H' p'=>⟨z.length-(i+1),by omega,rfl,hlt,p'⟩,fun x H' y=>?_⟩
  obtain⟨e,c,ec,e2⟩:=y
  subst e e2
  exact hs i c σ _ ec p
 ·have e:i=z.length:=by omega
  subst e
  exact .inl ⟨rfl,hd σ H p⟩
theorem JC {P:Program} {w:World} {K:PySem.W.Frag} {tg:Expr} (ty:String) (hty:["enumerate","zip","dict_itemiterator","dict_reverseitemiterator","odict_iterator","itertools.zip_longest","itertools.pairwise"].contains ty=false) (it:Addr) (z:Str) (t:Tok)
  (W:∀A':Around,A'.handled=none→Walks P w A' it [it] [it] z.cps.size (SignAt z) (fun i h=>h.IsStrIter it ty z t i)) (slf:∀(A:Around) (i:Nat) (s:Shared) (Q:Value→Shared→Prop) (E:Value→Shared→Prop),s.heap.IsStrIter it ty z t i→Q (.ref it) s→wpAny (model P w) A (pyIter (.ref it)) Q E s):Jw P w K tg (Vk z) [it] it (fun i h=>h.IsStrIter it ty z t i) where
 mem:=by simp
 obj:=fun i h st b hb=>by
  have e:b=it:=by simpa using hb
  subst e
  obtain⟨o,e,c,d⟩:=st
  exact⟨o,e,fun v z=>by rw[d] at z;cases z⟩
 keep:=fun i h h' st k=>let ⟨o,ho,r⟩:=st;⟨o,k it (by simp) o ho,r⟩
 item:=by
  intro X hP hw hK hc i pins s σ H E I hf st hg
  subst hP hw hK
  refine (W X.A (I.ok.hd hc)).item i s _ _ hg st fun v h' tk hv st' kk=>?_
  obtain⟨c,u,ec,rfl⟩:=hv
  have I1:Inv X pins σ H { s with heap:=h',toks:=tk }:=I.turnedL hf kk
  obtain⟨o,e,cl,d⟩:=id st'
  exact⟨_,rfl,JM (s:={ s with heap:=h',toks:=tk }) e cl d hty ⟨.str ⟨#[c]⟩,H,I1,⟨u,rfl⟩,⟨rfl,c,ec,rfl⟩,st',fun b hb=>(hf b hb).1⟩⟩
 done:=by
  intro X hP hw hK hc i pins s σ H E I hf st hg
  subst hP hw hK
  have e:i=z.cps.size:=hg
  subst e
  exact (W X.A (I.ok.hd hc)).done s _ _ st fun h' tk kk=>⟨rfl,I.turnedL hf kk⟩
 self:=slf
section
variable {X:Cx} {tg:Expr}
def Wn (tl:TE):TI:=fun σ H R=>tl σ H fun x H1=>∃z,x= .str z∧R (Vk z) H1
theorem Ui {l:Expr} {tl:TE} (hl:PE X l tl):PI X tg l (Wn tl):=by
 intro pins s σ H R I h
 refine AM (hl pins s σ H _ I h) fun v s1 ⟨x,H1,I1,r1,q1⟩=>?_
 obtain⟨z,e,q⟩:=q1
 subst e
 obtain⟨t,rfl⟩:=r1
 have fin:∀(o:Obj) (tn:Nat→Heap→Prop),Jw X.prog X.w X.K tg (Vk z) [s1.heap.objs.size] s1.heap.objs.size tn→tn 0 (s1.heap.push o)→Wq X pins σ tg R (.ref s1.heap.objs.size) { s1 with heap:=s1.heap.push o }:=fun o tn T st=>by
  refine⟨s1.heap.objs.size,[s1.heap.objs.size],tn,_,H1,rfl,I1.kept (t':=s1.toks) fun b o e=>Heap.get?_push_of_some _ e,T,st,fun b hb=>?_,q⟩
  have e:b=s1.heap.objs.size:=by simpa using hb
  subst e
  exact I1.fpOk (Nat.le_refl _) (I1.hok.fresh (Nat.le_refl _))
 cases ha:z.cps.all (· < 128)
 ·exact wpAny_pyIter_wide ha (fin _ _ (JC "str_iterator" (by decide) _ z t (fun A' hA=>Walks.strWide hA _ z t) fun _ _ _ _ _ st h=>wpAny_pyIter_striter_wide st h) ⟨_,Heap.get?_push_size _ rfl,rfl,rfl⟩)
 ·exact wpAny_pyIter_ascii ha (fin _ _ (JC "str_ascii_iterator" (by decide) _ z t (fun A' hA=>Walks.strAscii hA _ z t) fun _ _ _ _ _ st h=>wpAny_pyIter_striter_ascii st h) ⟨_,Heap.get?_push_size _ rfl,rfl,rfl⟩)
end
end L2
namespace L2
open PySem PySem.Spec PyProof.Rows
section
variable {X:Cx}
end
end L2
namespace L2
open PySem PySem.Spec PyProof.Rows
def Ts (a:Addr):It:=
 ⟨fun i H=>∃xs x,H a=some (.lst xs)∧xs[i]? = some x,fun i H x H'=>∃T y,H T=none∧(∀xs,H a=some (.lst xs)→xs[i]? = some y)∧x= .ref T∧H'=upd H T (.tup [.int (i:Nat),y]),fun i H=>∃xs,H a=some (.lst xs)∧xs.length=i⟩
theorem HQ {a:Addr} {xs:List V} {g:TG} {tb:TS} {D:Ends} {σ:St} {H:Hp} (Pv:Nat→St→Hp→Prop) (h0:Pv 0 σ H) (hl:∀i σ H,i≤xs.length→Pv i σ H→H a=some (.lst xs))
  (hs:∀i y T σ H,xs[i]? = some y→H T=none→Pv i σ H→g (.ref T) σ (upd H T (.tup [.int (i:Nat),y])) fun σ2 H2=>tb { D with nx:=Pv (i+1),ct:=Pv (i+1),bk:=D.nx } σ2 H2) (hd:∀σ H,Pv xs.length σ H→D.nx σ H):EO (Ts a) g tb D σ H:=by
 refine⟨fun i m σ H=>m=xs.length-i∧i≤xs.length∧Pv i σ H,⟨xs.length,by simp,Nat.zero_le _,h0⟩,?_⟩
 rintro i m σ H ⟨rfl,hi,p⟩
 have q:=hl i σ H hi p
 by_cases hlt:i<xs.length
 ·refine .inr ⟨⟨xs,xs[i],q,by simp[hlt]⟩,Pv (i+1),fun σ' H' p'=>⟨xs.length-(i+1),by omega,rfl,hlt,p'⟩,fun x H' y=>?_⟩
  obtain⟨T,y,hT,hy,e1,e2⟩:=y
  subst e1 e2
  exact hs i y T σ _ (hy xs q) hT p
 ·have e:i=xs.length:=by omega
  subst e
  exact .inl ⟨⟨xs,q,rfl⟩,hd σ H p⟩
theorem K3 {P:Program} {w:World} {K:PySem.W.Frag} {elts:List Expr} {k:Nat} {tp:Pos} (a e it:Addr) (hei:e≠it) :
  Jw P w K (.Tuple elts k tp) (Ts a) [e,it] e (fun i h=>(∃old,IsEnum h e it i old)∧h.IsListIter it a i) where
 mem:=by simp
 obj:=fun i h st b hb=>by
  obtain⟨⟨old,he⟩,o,ho,c,d⟩:=st
  rcases List.mem_cons.mp hb with q | q
  ·subst q
   exact⟨_,he,fun v z=>by
    have z':Data.fields _=Data.cell v:=z
    cases z'⟩
  ·have q':b=it:=by simpa using q
   subst q'
   exact⟨o,ho,fun v z=>by rw[d] at z;cases z⟩
 keep:=fun i h h' st k=>by
  obtain⟨⟨old,he⟩,hi⟩:=st
  exact⟨⟨old,k e (by simp) _ he⟩,hi.at fun o e=>k it (by simp) o e⟩
 item:=by
  intro X hP hw hK hc i pins s σ H E I hf st hg
  subst hP hw hK
  obtain⟨xs,x,hq,hx⟩:=hg
  obtain⟨its,rv,p,hz⟩:=I.list (SqL.of hq)
  obtain⟨u,hu,ru⟩:=rv.get hx
  have hlen:=rv.length
  have hi:i<xs.length:=(List.getElem?_eq_some_iff.mp hx).1
  have nai:a≠it:=Ai hq (hf it (by simp)).1
  have nae:a≠e:=Ai hq (hf e (by simp)).1
  have D:=Draws.list (prog:=X.prog) (w:=X.w) (A:=X.A.in1) (I.ok.hd hc) it a nai its.toArray
  have WT:=WalksT.enumerateD (A:=X.A) D e hei (by simp[hei,nae.symm]) (by simp)
  refine WT.item i s _ _ (by simp;omega) ⟨st.1,st.2,p.isList⟩ fun T vals h1 tk hv hT htup hmid kk=>?_
  obtain⟨t',x2,hx2,rfl⟩:=hv
  have hx2':its[i]? = some x2:=by simpa using hx2
  have ex:x2=u:=by rw[hu] at hx2';exact (Option.some.inj hx2').symm
  subst ex
  have I1:Inv X pins σ (upd H T (.tup [.int (i:Nat),x])) { s with heap:=h1,toks:=tk }:=I.turnedT (its:=[.int i t',x2]) hf kk hT (by show 2≤sizeLine;decide) (.cons ⟨_,rfl⟩ (.cons ru .nil)) htup
  have nT:∀b∈[e,it],b≠T:=fun b hb z=>by
   subst z
   exact WT.apart _ _ _ hmid hb
  have hf1:∀b∈[e,it],BO X pins (upd H T (.tup [.int (i:Nat),x])) b:=fun b hb=>⟨by rw[Aq (nT b hb)];exact (hf b hb).1,(hf b hb).2⟩
  refine⟨_,rfl,WT.go elts k tp i T _ _ _ hmid fun h2 st2 kk2=>?_⟩
  refine⟨.ref T,_,I1.turnedL (t':=tk) hf1 kk2,rfl,⟨T,x,I.hok.fresh hT,fun zs hzs=>?_,rfl,rfl⟩,⟨st2.1,st2.2.1⟩,fun b hb=>(hf1 b hb).1⟩
  rw[hq] at hzs
  cases hzs
  exact hx
 done:=by
  intro X hP hw hK hc i pins s σ H E I hf st hg
  subst hP hw hK
  obtain⟨xs,hq,rfl⟩:=hg
  obtain⟨its,rv,p,hz⟩:=I.list (SqL.of hq)
  have hlen:=rv.length
  have nai:a≠it:=Ai hq (hf it (by simp)).1
  have nae:a≠e:=Ai hq (hf e (by simp)).1
  have D:=Draws.list (prog:=X.prog) (w:=X.w) (A:=X.A.in1) (I.ok.hd hc) it a nai its.toArray
  have WT:=WalksT.enumerateD (A:=X.A) D e hei (by simp[hei,nae.symm]) (by simp)
  refine WT.done s _ _ ?_ fun h' tk kk=>⟨rfl,I.turnedL hf kk⟩
  have e1:its.toArray.size=xs.length:=by simp;omega
  rw[e1]
  exact⟨st.1,st.2,p.isList⟩
 self:=fun A i s Q E st h=>by
  obtain⟨⟨old,he⟩,_⟩:=st
  exact wpAny_pyIter_enum he h
section
variable {X:Cx} {tg:Expr}
def Tp (ta:TA):TI:=fun σ H R=>ta σ H fun vs H1=>∃a xs,vs=[.ref a]∧H1 a=some (.lst xs)∧R (Ts a) H1
theorem JK {elts:List Expr} {k:Nat} {tp:Pos} {a:Expr} {ta:TA} {p pos:Pos} (hg:Gl X "enumerate") (hm:X.mg "enumerate"=none) (ha:PA X [a] ta) (hs:starEach [a] X.env=[(false,eval a X.env)]:=by rfl):PI X (.Tuple elts k tp) (.Call (.Name "enumerate" p) [a] [] pos) (Tp ta):=by
 intro pins s σ H R I h
 refine Call_ (Es I hg hm boot_enumerate (PyProof.Rows.callWith_type1 (AM (ha pos pins s σ H _ I h) fun us s1 ⟨vs,H1,I1,r1,q1⟩=>?_) hs rfl))
 obtain⟨l,xs,e,hq,q⟩:=q1
 subst e
 cases r1 with
 | cons r rr=>
  cases rr
  cases r
  obtain⟨its,rv,pl,hz⟩:=I1.list (SqL.of hq)
  refine call_enumerate_list pl.isList fun h' he hit hsz hk=>wpAny_pyIter_enum he ?_
  have I2:Inv X pins σ H1 { s1 with heap:=h' }:=I1.kept (t':=s1.toks) hk
  have fp2:∀b∈[s1.heap.objs.size+1,s1.heap.objs.size],BO X pins H1 b:=fun b hb=>by
   have hle:s1.heap.objs.size≤b:=by
    rcases List.mem_cons.mp hb with q | q
    ·omega
    ·have:b=s1.heap.objs.size:=by simpa using q
     omega
   exact I1.fpOk hle (I1.hok.fresh hle)
  exact⟨_,_,_,_,H1,rfl,I2,K3 l (s1.heap.objs.size+1) s1.heap.objs.size (Nat.succ_ne_self _),⟨⟨_,he⟩,hit⟩,fp2,q⟩
end
end L2
namespace L2
open PySem PySem.Spec PyProof.Rows
structure Stp (fr ch:List Addr) (h h':Heap):Prop where
 keep:∀b o,b∉fr→b∉ch→h.get? b=some o→h'.get? b=some o
 slot:∀b o,b∉ch→h.get? b=some o→∃sl,h'.get? b=some { o with slots:=sl }
theorem Stp.more {fr ch ch':List Addr} {h h':Heap} (x:Stp fr ch h h') (m:∀b∈ch,b∈ch'):Stp fr ch' h h':=
 ⟨fun b o hb hc=>x.keep b o hb fun z=>hc (m b z),fun b o hc=>x.slot b o fun z=>hc (m b z)⟩
theorem Stp.trans {fr ch:List Addr} {h h1 h2:Heap} (x:Stp fr ch h h1) (y:Stp fr ch h1 h2):Stp fr ch h h2:=
 ⟨fun b o hb hc e=>y.keep b o hb hc (x.keep b o hb hc e),fun b o hc e=>let ⟨_,e1⟩:=x.slot b o hc e;let ⟨sl,e2⟩:=y.slot b _ hc e1;⟨sl,e2⟩⟩
theorem Stp.un {fr ch:List Addr} {h h':Heap} (x:Stp fr ch h h') (H:Hp):Un fr ch H H h h':=
 ⟨fun b o e _ hb hx=>x.keep b o hb hx e,fun b o e _ _ hx=>x.slot b o hx e,fun _ _ _ n _=>n,fun b o e hx=>let ⟨_,z⟩:=x.slot b o hx e;⟨_,z⟩,fun _ _ q=>q,fun _ _ _ q=>q,fun _ ps q=>⟨#[],by rw[q];simp⟩⟩
theorem Stp.hok {P:Program} {w:World} {fr ch:List Addr} {h h':Heap} {H:Hp} (x:Stp fr ch h h') (ok:HOk P w H h) (hf:∀b∈fr,H b=none) (hc:∀b∈ch,H b=none):HOk P w H h':=fun b u e=>by
 have nf:∀c v,H c=some v→c∉fr∧c∉ch:=fun c v q=>⟨(fun z=>nomatch (hf c z).symm.trans q),(fun z=>nomatch (hc c z).symm.trans q)⟩
 refine (ok b u e).stay (fun c v hb q=>?_) (fun _ q=>q) fun _ _ q=>q
 rcases hb with z | z
 ·subst z;exact x.keep c v (nf c u e).1 (nf c u e).2 q
 ·exact x.keep c v (nf c _ z).1 (nf c _ z).2 q
def Rc (h:Heap) (e:Addr) (cls:Value) (dx:Option Addr) (T:Addr) (fl:Value):Prop:=
 ∃vs sl oT ts,h.get? e=some ⟨cls,dx,.fields vs,sl⟩∧vs[1]? = some (.ref T)∧T≠e∧h.get? T=some oT∧oT.data= .fields ts∧ts[3]? = some fl∧vs[2]? = some .none
section
variable {M:Model} {A:Around} {E:Value→Shared→Prop} {s:Shared} {base:Heap} {env:Env} {outer:List Env} {L e:Addr} {cls:Value} {dx:Option Addr} {vs:Array Value} {sl:Array (Option Value)} {Q:Unit→Shared→Prop}
theorem Ju {head:Value} {hadNext:Bool} (hfr:A.frames=some (env::outer)) (hl:s.heap.FunFrames base (env::outer)) (hf:env.frame=some L)
  (he:s.heap.get? e=some ⟨cls,dx,.fields vs,sl⟩) (hsz:1<vs.size) (hv2:vs[2]? = some .none) (k:∀h' T,s.heap.objs.size≤T→Stp (Gh (env::outer)) [e] s.heap h'→Rc h' e cls dx T (rawInt L)→Q () { s with heap:=h' }) :
  wpAny M A (do let a ←frameOf env;let pl ←entryPlaceOf L hadNext;let b ←EntryCells.newEntry head a .none (rawInt L) .none pl;setField (.ref e) 1 b) Q E s:=by
 have nfr:e∉Gh (env::outer):=fun z=>by
  obtain⟨_,o,ho,nd⟩:=hl.mem z
  rw[he] at ho;cases ho
  exact nd vs rfl
 refine wpAny_bind (wpAny_frameOf_fun hfr hl hf fun h1 so=>wpAny_bind (wpAny_entryPlaceOf fun pl hpl=>?_))
 obtain⟨_,so1,so2⟩:=so
 unfold EntryCells.newEntry newFields
 refine wpAny_bind (wpAny_newObj_type ?_ (hpl.sizeOk5 _ _ _ _ _))
 have e1:h1.get? e=some ⟨cls,dx,.fields vs,sl⟩:=(so1 e nfr).trans he
 have e2:=Heap.get?_push_of_some (h:=h1) { cls:=.type "traceback",dict:=none,data:=.fields ([head,.ref L,.none,rawInt L,.none]++(if pl.isEmpty then List.replicate 6 Value.none else pl)).toArray } e1
 refine wpAny_setField e2 rfl hsz (k _ h1.objs.size (by omega) ?_ ?_)
 ·have other:∀b o,b∉[e]→h1.get? b=some o→∀(ob:Obj) (f:Obj→Obj),((h1.push ob).update e f).get? b=some o:=fun b o hb q ob f=>
   (Heap.get?_update_other _ _ (Ne.symm (List.ne_of_not_mem_cons hb))).trans (Heap.get?_push_of_some _ q)
  refine⟨fun b o hb hc q=>other b o hc ((so1 b hb).trans q) _ _,fun b o hc q=>?_⟩
  obtain⟨sl',z⟩:=so2 b o q
  exact⟨sl',other b _ hc z _ _⟩
 ·have ne:h1.objs.size≠e:=Nat.ne_of_gt (Heap.lt_size e1)
  refine⟨_,sl,_,_,Heap.get?_update_self _ e2 rfl,?_,ne,(Heap.get?_update_other _ _ (Ne.symm ne)).trans (Heap.get?_push_size h1 rfl),rfl,?_,?_⟩
  ·simp[hsz]
  ·rcases hpl with rfl | ⟨_,_,_,_,_,_,_,rfl⟩<;>simp
  ·rw[Array.getElem?_setIfInBounds_ne (by decide)];exact hv2
theorem Qv (hfr:A.frames=some (env::outer)) (hl:s.heap.FunFrames base (env::outer)) (hf:env.frame=some L) (he:s.heap.get? e=some ⟨cls,dx,.fields vs,sl⟩) (h1:vs[1]? = some .none) (hv2:vs[2]? = some .none)
  (k:∀h' T,s.heap.objs.size≤T→Stp (Gh (env::outer)) [e] s.heap h'→Rc h' e cls dx T (rawInt L)→Q () { s with heap:=h' }):wpAny M A (noteFrame (.ref e) env) Q E s:=by
 unfold noteFrame
 simp only[hf]
 refine wpAny_bind (wpAny_field he rfl h1 ?_)
 rw[if_neg (by decide)]
 exact Ju hfr hl hf he (Array.getElem?_eq_some_iff.mp h1).1 hv2 k
theorem MK {T:Addr} {fl fl':Value} (hF:Rc s.heap e cls dx T fl):Stp [] [T] s.heap (s.heap.update T (Obj.mapFields (·.setIfInBounds 3 fl')))∧Rc (s.heap.update T (Obj.mapFields (·.setIfInBounds 3 fl'))) e cls dx T fl':=by
 obtain⟨ws,sl,oT,ts,he,h1,ne,hT,hd,h3,hv2⟩:=hF
 have other:∀b o,b∉[T]→s.heap.get? b=some o→(s.heap.update T (Obj.mapFields (·.setIfInBounds 3 fl'))).get? b=some o:=fun b o hb q=>(Heap.get?_update_other _ _ (Ne.symm (List.ne_of_not_mem_cons hb))).trans q
 refine⟨⟨fun b o _ hc q=>other b o hc q,fun b o hc q=>⟨_,other b o hc q⟩⟩,ws,sl,_,_,other e _ (by simpa using Ne.symm ne) he,h1,ne,Heap.get?_update_self _ hT (Obj.isFreed_of_fields (Obj.data_mapFields hd _)),Obj.data_mapFields hd _,?_,hv2⟩
 simp[(Array.getElem?_eq_some_iff.mp h3).1]
theorem LY {T:Addr} (hfr:A.frames=some (env::outer)) (hl:s.heap.FunFrames base (env::outer)) (hf:env.frame=some L) (hF:Rc s.heap e cls dx T .none)
  (k:∀h' T',s.heap.objs.size≤T'→Stp (Gh (env::outer)) [e,T] s.heap h'→Rc h' e cls dx T' (rawInt L)→Q () { s with heap:=h' }):wpAny M A (noteFrame (.ref e) env) Q E s:=by
 obtain⟨S,F2⟩:=MK (fl':=.none) hF
 obtain⟨ws,sl,oT,ts,he,h1,ne,hT,hd,h3,hv2⟩:=hF
 unfold noteFrame
 simp only[hf]
 refine wpAny_bind (wpAny_field he rfl h1 ?_)
 rw[if_pos (show (Value.ref T != Value.none)=true by simp)]
 refine wpAny_bind (wpAny_field hT hd h3 ?_)
 rw[if_neg (show ¬((Value.none == rawInt L)=true) by simp[rawInt])]
 refine wpAny_bind (wpAny_setField hT hd (Array.getElem?_eq_some_iff.mp h3).1 ?_)
 obtain⟨ws',sl',_,_,he',h1',_,_,_,_,hv2'⟩:=F2
 refine Ju hfr (hl.of_keeps fun b o q nd=>?_) hf he' (Array.getElem?_eq_some_iff.mp h1').1 hv2' fun h' T' hle S' F'=>k h' T' (by simpa using hle) ?_ F'
 ·obtain⟨sl2,z⟩:=S.slot b o (fun z=>by
   have z':b=T:=by simpa using z
   subst z'
   rw[hT] at q;cases q
   exact nd ts hd) q
  exact⟨_,z,rfl⟩
 ·refine Stp.trans (h1:=s.heap.update T (Obj.mapFields (·.setIfInBounds 3 Value.none))) ⟨fun b o _ hc q=>S.keep b o (by simp) (fun z=>hc (List.mem_cons_of_mem _ z)) q,fun b o hc q=>S.slot b o (fun z=>hc (List.mem_cons_of_mem _ z)) q⟩ (S'.more fun b hb=>?_)
  rw[List.mem_singleton.mp hb]
  exact List.mem_cons_self
theorem Rh {T:Addr} {fl:Value} (hF:Rc s.heap e cls dx T fl) (k:∀h',Stp [] [T] s.heap h'→Rc h' e cls dx T .none→Q () { s with heap:=h' }):wpAny M A (setFlight (.ref e) none) Q E s:=by
 obtain⟨S,F2⟩:=MK (fl':=.none) hF
 obtain⟨ws,sl,oT,ts,he,h1,ne,hT,hd,h3,hv2⟩:=hF
 unfold setFlight
 refine wpAny_bind (wpAny_field he rfl h1 ?_)
 rw[if_pos (show (Value.ref T != Value.none)=true by simp)]
 exact wpAny_setField hT hd (Array.getElem?_eq_some_iff.mp h3).1 (k _ S F2)
end
end L2
namespace L2
open PySem PySem.Spec PyProof.Rows
def Eu:List Value:=[.type "ValueError",.type "Exception",.type "BaseException",.type "object"]
structure UJ (K:PySem.W.Frag) (C cT:Addr) (ini:Option Addr):Prop where
 cls:∃nm q N bs hdct sn sub ab col dd k0 k1 k2 k3 k5,K.lookup C=some (excClassObj nm q C N bs (.ref cT::Eu) hdct sn sub ab col dd k0 k1 k2 k3 k5 "ValueError.__new__")∧PySem.W.nsOkIn K N=true∧
  PySem.W.nsIn K N "__init__"=some (ini.map Value.ref)
 tail:PySem.W.tailIn K Eu (.ref cT::Eu)=true
 kp:PySem.W.keepIn K (.ref C)=true
theorem Mu {K:PySem.W.Frag} {N:Addr} {oc:Value} {od:Option Addr} {es:Array DictEntry} {ep:Nat} {sl:Array (Option Value)} (l:K.lookup N=some ⟨oc,od,.dict es ep,sl⟩)
  (s:(es.all fun e=>match e.key with | .str _ _=>true | _=>false)=true):PySem.W.nsOkIn K N=true:=by
 unfold PySem.W.nsOkIn
 rw[l]
 exact s
theorem Pl {K:PySem.W.Frag} {cT:Addr} {c0:Value} {d0:Option Addr} {cd:ClassData} {sl:Array (Option Value)} (l:K.lookup cT=some ⟨c0,d0,.cls cd,sl⟩) (o:PySem.W.nsOkIn K cd.ns=true) (n:PySem.W.nsIn K cd.ns "__init__"=some none) :
  PySem.W.tailIn K Eu (.ref cT::Eu)=true:=by
 have t0:PySem.W.tailIn K Eu Eu=true:=by
  unfold PySem.W.tailIn Eu
  simp
 unfold PySem.W.tailIn
 refine Bool.or_eq_true_iff.mpr (.inr ?_)
 simp only[l,o,n,t0]
 rfl
section
variable {prog:Program} {w:World} {A:Around} {E:Value→Shared→Prop} {h:Heap} {g:Array GenState} {d:Drawn} {t:Nat} {os:OsState}
variable {nm q:Str} {C N:Addr} {bs bm:List Value} {hdct:Bool} {sn:List Str} {sub:List Value} {ab:Bool} {col:Option Bool} {dd:Option Addr} {k0 k1 k2 k3 k5:Option Value}
abbrev MH (C t:Addr) (dx:Option Addr):Obj:=⟨.ref C,dx,.fields #[.ref t,.none,.none,.none,.bool false,.none],#[]⟩
end
end L2
namespace L2
open PySem PySem.Spec PyProof.Rows
structure XAt (K:PySem.W.Frag) (C cT:Addr):Prop where
 cd:∃cd,PySem.W.clsIn K C=some cd∧cd.mro= .ref C::.ref cT::Eu∧cd.hasDict=true
 sa:PySem.W.findIn K (.ref C) "__setattr__"=some (some (.builtin "object.__setattr__"))
 ga:PySem.W.findIn K (.ref C) "__getattribute__"=some (some (.builtin "BaseException.__getattribute__"))
 gn:PySem.W.findIn K (.ref C) "__getattr__"=some none
 ca:PySem.W.findIn K (.ref C) "__class__"=some (some (.builtin "object.__class__"))
 cg:PySem.W.specialIn K (.builtin "object.__class__") "__get__"=some (some (.builtin "getset_descriptor.__get__"))
 ct:PySem.W.takesIn K (.builtin "object.__class__")=some true
section
variable {prog:Program} {w:World} {A:Around} {E:Value→Shared→Prop} {s:Shared} {K:PySem.W.Frag} {C cT x t:Addr} {f:Str} {u:Value}
theorem XAt.sub {M:Model} {h:Heap} (a:XAt K C cT) (X:K.In h) (b:Value) {r:Bool} (e:(Value.ref C::.ref cT::Eu).contains b=r):PySem.W.Looks M h (isSubtype (.ref C) b) r:=by
 obtain⟨cd,h1,h2,_⟩:=a.cd
 refine PySem.W.looks_mroIn X ?_
 unfold PySem.W.mroIn
 rw[h1,Option.bind_some,h2,if_neg (by simp),e]
end
end L2
namespace L2
open PySem PySem.Spec PyProof.Rows
open Builtin Builtin.ObjectAttr
section
variable {prog:Program} {w:World} {A:Around} {E:Value→Shared→Prop} {s:Shared} {K:PySem.W.Frag} {C cT x:Addr} {ox:Obj} {od:Option Obj} {name:Str} {tk:Tok} {fill expr:Bool} {v:Value}
theorem UH {R:Result→Shared→Prop} (X:K.In s.heap) (a:XAt K C cT) (J:PySem.W.InstAt s.heap x ox C od) {r:Found} (hf:PySem.W.findObj K C od name=some r)
  (k:wpAny (model prog w) A.in1 (match r with | .value v=>ret v | .bind g a=>bindTo g a (.ref x) (.ref C) | .missing=>noSuchAttribute (.ref x) name)
   (fun fin s'=>match fin with | .done f=>R (.ok f) s' | .again c'=>c'.quiet=true∧codeAny (model prog w) A c' R s') (fun e s'=>R (.error e) s') s) (hr:r≠.missing) :
  codeAny (model prog w) A (.call (.builtin "BaseException.__getattribute__") ⟨[.ref x,.str name tk],[]⟩) R s:=by
 have FB:=PySem.F.attrBase_ValueError
 have sub:PySem.W.Looks (model prog w) s.heap (isInstance (.ref x) (.type "BaseException")) true:=J.type.andThen (a.sub X _ rfl)
 refine codeAny_call_builtin FB.ga.plain PySem.F.entry_bexc_ga (@PySem.W.check_slot (model prog w) _ _ s "BaseException.__getattribute__" "BaseException" "__getattribute__" (.ref x) [.str name tk] [] _ (by decide +kernel) (by decide +kernel) sub (PySem.F.args_bexc_ga _ _) ?_)
 obtain⟨h,g,d,t,os⟩:=s
 have L0:=J.type (M:=model prog w)
 have L1:=PySem.W.looks_find (M:=model prog w) X J hf
 refine wpAny_bind (wpAny_pure (wpAny_bind (wpAny_pure (wpAny_bind (L0.at (wpAny_bind (L1.at ?_)))))))
 cases r with
 | value v=>exact k
 | bind g a=>exact k
 | missing=>exact absurd rfl hr
theorem Oj {Q:Value→Shared→Prop} (X:K.In s.heap) (a:XAt K C cT) (J:PySem.W.InstAt s.heap x ox C od)
  (k:codeAny (model prog w) A (.call (.builtin "BaseException.__getattribute__") ⟨[.ref x,.str name tk],[]⟩) (fun r s'=>match r with | .ok (.ret v)=>wpAny (model prog w) A (handedOut v) Q E s' | _=>False) s) :
  wpAny (model prog w) A (getAttrBy (.ref x) (.str name tk) fill expr) Q E s:=by
 have FB:=PySem.F.attrBase_ValueError
 have b0:=FB.ga.bind (.ref x)
 have L0:=J.type (M:=model prog w)
 have L1:=PySem.W.looks_findIn (M:=model prog w) X a.ga
 have L2:=PySem.W.looks_findIn (M:=model prog w) X a.gn
 unfold getAttrBy
 refine wpAny_holding (wpAny_bind (L0.here (wpAny_bind (L1.here ?_))))
 show wpAny _ _ (if (onTheHeap (Value.ref C) && Value.builtin "BaseException.__getattribute__" == Value.builtin "object.__getattribute__")=true then _ else _) _ _ _
 have hx:(Value.builtin "BaseException.__getattribute__" == Value.builtin "object.__getattribute__")=false:=by decide +kernel
 rw[hx,Bool.and_false,if_neg Bool.false_ne_true]
 unfold getAttrByItsOwn
 refine wpAny_bind ?_
 show wpAny _ _ (typeLookup (.ref C) "__getattr__") _ _ _
 refine L2.here (wpAny_bind (wpAny_attempt (wpAny_holding ?_)))
 unfold callGetattribute
 rw[if_neg (by cases expr<;>decide)]
 unfold boundAndCalled
 rw[b0]
 refine wpAny_bind (wpAny_pure (wpAny_call (codeAny_mono k fun r s' z=>?_)))
 rcases r with e | (v | _ | _ | _)<;>first | exact z | exact z.elim | skip
theorem XAt.found (a:XAt K C cT) (od:Option Obj):PySem.W.findObj K C od "__class__"=some (.bind (.builtin "getset_descriptor.__get__") (.builtin "object.__class__")):=by
 obtain⟨cd,hc,_,_⟩:=a.cd
 unfold PySem.W.findObj
 rw[hc,Option.bind_some,a.ca,Option.bind_some]
 simp[a.cg,a.ct]
theorem Oy {Q:Option Value→Shared→Prop} (X:K.In s.heap) (a:XAt K C cT) (J:PySem.W.InstAt s.heap x ox C od) (k:Q (some (.ref C)) { s with toks:=s.toks+1 }):wpAny (model prog w) A (getAttr? (.ref x) "__class__") Q E s:=by
 have hm:PySem.W.mroIn K C (.type "object")=some true:=by
  obtain⟨cd,hc,hm,_⟩:=a.cd
  unfold PySem.W.mroIn
  rw[hc,Option.bind_some,hm]
  rfl
 unfold getAttr? getAttrBy?
 refine wpAny_bind (wpAny_mkText (wpAny_bind (wpAny_attempt (Oj (s:={ s with toks:=s.toks+1 }) X a J (UH (s:={ s with toks:=s.toks+1 }) X a J (a.found od) ?_ (by intro z;cases z))))))
 show wpAny _ _ (holding [Value.builtin "object.__class__"] (call (.builtin "getset_descriptor.__get__") [.builtin "object.__class__",.ref x,.ref C]) >>= ret) _ _ _
 refine wpAny_bind (wpAny_holding (wpAny_call (PySem.W.class_get (s:={ s with toks:=s.toks+1 }) X J hm (wpAny_pure ?_))))
 show wpAny _ _ (handedOut (.ref C)) _ _ _
 exact wpAny_pure (wpAny_pure k)
theorem O3 (a:XAt K C cT):PySem.W.KitX K (.ref x) (.ref C) (fun h=>PySem.W.InstAt h x ox C od) where
 ty:=fun _ _ _ J=>J.type
 it:=fun _ _ X _=>by
  obtain⟨cd,hc,_,_⟩:=a.cd
  unfold PySem.W.clsIn at hc
  split at hc
  ·rename_i c1 d1 cd1 sl1 ho
   intro A1 Q1 E1 s1 k1 q1
   unfold isType loadHead
   exact wpAny_bind (wpAny_loadPart (k1 _ _ (X _ _ ho)) (wpAny_pure q1))
  ·cases hc
 ne:=fun h tp dd its n sl X htp=>by
  obtain⟨cd,hc,_,_⟩:=a.cd
  refine Bool.eq_false_iff.mpr fun z=>?_
  obtain rfl:C=tp:=Value.ref.inj (beq_iff_eq.mp z)
  unfold PySem.W.clsIn at hc
  split at hc
  ·rename_i c1 d1 cd1 sl1 ho
   exact nomatch (X _ _ ho).symm.trans htp
  ·cases hc
 ca:=fun X J k=>Oy X a J k
end
end L2
namespace L2
open PySem PySem.Spec PyProof.Rows
def A4 (P:Program) (w:World):MJ:=fun outer H s E e s'=>∃(a T:Addr) (cls:Value) (dx:Option Addr) (H':Hp),e= .ref a∧s'.os=s.os∧AllBare s'.gens∧Un (Gh outer) [] H H' s.heap s'.heap∧HOk P w H' s'.heap∧
 Rc s'.heap a cls dx T .none∧H' a=none∧H' T=none∧s.heap.objs.size≤a∧s.heap.objs.size≤T∧E cls dx H'
theorem Un.stp {fs fr ch:List Addr} {H0 H:Hp} {h0 h h':Heap} (u:Un fs [] H0 H h0 h) (S:Stp fr ch h h') (hfr:∀b∈fr,b∈fs∨h0.objs.size≤b) (hch:∀b∈ch,h0.objs.size≤b):Un fs [] H0 H h0 h':=by
 have nc:∀b o,h0.get? b=some o→b∉ch:=fun b o e z=>absurd (Heap.lt_size e) (Nat.not_lt.mpr (hch b z))
 refine⟨fun b o e n hb hx=>S.keep b o (fun z=>?_) (nc b o e) (u.keep b o e n hb hx),fun b o e n hb hx=>?_,u.free,fun b o e hx=>?_,u.tups,u.frzs,u.tbls⟩
 ·rcases hfr b z with q | q
  ·exact hb q
  ·exact absurd (Heap.lt_size e) (Nat.not_lt.mpr q)
 ·obtain⟨sl,e1⟩:=u.slot b o e n hb hx
  obtain⟨sl2,e2⟩:=S.slot b _ (nc b o e) e1
  exact⟨sl2,e2⟩
 ·obtain⟨o1,e1⟩:=u.there b o e hx
  obtain⟨sl2,e2⟩:=S.slot b _ (nc b o e) e1
  exact⟨_,e2⟩
section
variable {P:Program} {w:World} {K:PySem.W.Frag} {mg:Str→Option Value} {base:Heap} {N:List Str} {qual:Str} {scope:Scope} {f:Addr} {cdv:Value} {A:Around} {outer:List Env} {s:Shared} {H:Hp} {E:XK}
def Vt (X:Cx) (E:XK):Prop:=∀(pins:List (Addr×Obj)) (σ:St) (H':Hp) (s':Shared) (a:Addr) (cls:Value) (dx:Option Addr) (vs:Array Value) (sl:Array (Option Value)),Inv X pins σ H' s'→H' a=none→
 s'.heap.get? a=some ⟨cls,dx,.fields vs,sl⟩→(vs[1]? = some .none∧vs[2]? = some .none)→X.s₀.heap.objs.size≤a→E cls dx H'→X.xe (.ref a) s'
theorem BG:Vt (Jj (A4 P w) P w K mg base N qual scope f cdv A outer s H E) E:=by
 intro pins σ H' s' a cls dx vs sl I ha he h1 hsz q
 have hfr:=I.ok.frames
 have hl:=I.stack
 have lt:s.heap.objs.size≤s'.heap.objs.size:=I.sz
 have fr2:∀b∈Gh (envOfC qual scope s.heap.objs.size f cdv::outer),b∈Gh outer∨s.heap.objs.size≤b:=fun b hb=>by
  rcases List.mem_cons.mp (I.stkSub b hb) with z | z
  ·exact .inr (by rw[z];exact I.ok.above)
  ·exact .inl z
 show wpAny _ _ (leaving _ _) _ _ _
 unfold leaving
 refine wpAny_bind (Qv hfr hl rfl he h1.1 h1.2 fun h2 T hT S F=>Rh F fun h3 S3 F3=>?_)
 have u2:=Un.stp I.base S fr2 (fun b hb=>by rw[List.mem_singleton.mp hb];exact hsz)
 have u3:=Un.stp u2 S3 (fun b hb=>absurd hb (by simp)) (fun b hb=>by rw[List.mem_singleton.mp hb];exact Nat.le_trans lt hT)
 have hTn:H' T=none:=I.hok.fresh hT
 refine⟨a,T,cls,dx,H',rfl,I.os,I.bare,u3,?_,F3,ha,hTn,hsz,Nat.le_trans lt hT,q⟩
 exact S3.hok (S.hok I.hok I.stkFree fun b hb=>by rw[List.mem_singleton.mp hb];exact ha) (fun b hb=>absurd hb (by simp)) fun b hb=>by rw[List.mem_singleton.mp hb];exact hTn
theorem Ap {E1:XK} (le:∀cls dx H',E1 cls dx H'→E cls dx H'):Co (A4 P w) (Jj (A4 P w) P w K mg base N qual scope f cdv A outer s H E) E1:=by
 intro pins σ H1 s1 e s' I h
 obtain⟨a,T,cls,dx,H',rfl,os,bare,un,hok,F,ha,hT,la,lT,q⟩:=h
 have I2:=I.call' os un hok bare (fun b z=>absurd z (by simp))
 have lt:s.heap.objs.size≤s1.heap.objs.size:=I.sz
 have fr2:∀b∈Gh (envOfC qual scope s.heap.objs.size f cdv::outer),b∈Gh outer∨s.heap.objs.size≤b:=fun b hb=>by
  rcases List.mem_cons.mp (I2.stkSub b hb) with z | z
  ·exact .inr (by rw[z];exact I2.ok.above)
  ·exact .inl z
 show wpAny _ _ (leaving _ _) _ _ _
 unfold leaving
 refine wpAny_bind (LY I2.ok.frames I2.stack rfl F fun h2 T2 hT2 S F2=>Rh F2 fun h3 S3 F3=>?_)
 have l2:s.heap.objs.size≤T2:=Nat.le_trans I2.sz hT2
 have two:∀b∈[a,T],s.heap.objs.size≤b∧H' b=none:=fun b hb=>by
  rcases List.mem_cons.mp hb with z | z
  ·rw[z];exact⟨Nat.le_trans lt la,ha⟩
  ·rw[List.mem_singleton.mp z];exact⟨Nat.le_trans lt lT,hT⟩
 have u2:=Un.stp I2.base S fr2 (fun b hb=>(two b hb).1)
 have u3:=Un.stp u2 S3 (fun b hb=>absurd hb (by simp)) (fun b hb=>by rw[List.mem_singleton.mp hb];exact l2)
 have hTn:H' T2=none:=I2.hok.fresh hT2
 refine⟨a,T2,cls,dx,H',rfl,I2.os,I2.bare,u3,?_,F3,ha,hTn,Nat.le_trans lt la,l2,le _ _ _ q⟩
 exact S3.hok (S.hok I2.hok I2.stkFree fun b hb=>(two b hb).2) (fun b hb=>absurd hb (by simp)) fun b hb=>by rw[List.mem_singleton.mp hb];exact hTn
end
end L2
namespace L2
open PySem PySem.Spec PyProof.Rows
section
variable {X:Cx} {k:Nat} {fI C cT:Addr} {fd:FuncData} {ps:List Str} {sp:Sp} {Ex:XK} {x:Str} {p pos cpos:Pos} {e:Expr} {es:List Expr} {t:TA}
theorem Lb {A:Around} {E:Value→Shared→Prop} {s:Shared} {env:Env} {M:Model} {K:PySem.W.Frag} {xs:Sem Value} {Q:Flow→Shared→Prop} (a:XAt K C cT) (ty:PySem.W.typeIn K (.ref C)=some (.type "type")) (hh:A.handled=none)
  (h:wpAny M A xs (fun v s1=>∃b tp dx,v= .ref b∧K.In s1.heap∧s1.heap.get? b=some (MH C tp dx)∧E (.ref b) s1) E s):wpAny M A (raiseStmt env (some xs) none) Q E s:=by
 unfold raiseStmt
 refine wpAny_bind (wpAny_mono h (fun v s1 h1=>?_) fun _ _ z=>z)
 obtain⟨b,tp,dx,rfl,KX,hb,q⟩:=h1
 have hb1:s1.heap.get? b=some ⟨.ref C,dx,.fields #[.ref tp,.none,.none,.none,.bool false,.none],#[]⟩:=hb
 have T0:PySem.W.Looks M s1.heap (typeOf (.ref b)) (.ref C):=(PySem.W.Looks.ld hb1).andThen .now
 have T1:PySem.W.Looks M s1.heap (isType (.ref b)) false:=by
  unfold isType loadHead
  exact (PySem.W.Looks.ld hb1).andThen .now
 have T2:PySem.W.Looks M s1.heap (isExcClass (.ref b)) false:=by
  unfold isExcClass
  exact T1.andThen .now
 have T3:PySem.W.Looks M s1.heap (isInstance (.ref b) (.type "BaseException")) true:=T0.andThen (a.sub KX _ rfl)
 have T4:PySem.W.Looks M s1.heap (excFromValue (.ref b) "exceptions must derive from BaseException") (.ref b):=by
  unfold excFromValue
  exact T2.andThen (T3.andThen .now)
 have T5:PySem.W.Looks M s1.heap (raisedInstance (.ref b)) (.ref b):=by
  unfold raisedInstance
  exact T0.andThen ((PySem.W.looks_typeIn KX ty).andThen .now)
 refine wpAny_bind (wpAny_pure (wpAny_bind (wpAny_holding (T4.here ?_))))
 refine wpAny_bind (T1.here ?_)
 refine wpAny_bind (T5.here ?_)
 refine wpAny_bind ?_
 unfold setFlight
 refine wpAny_bind (wpAny_field hb1 rfl (x:=.none) rfl ?_)
 rw[if_neg (by decide)]
 exact wpAny_pure (wpAny_raiseNew_none hh q)
end
end L2
namespace L2
open PySem PySem.Spec PyProof.Rows
section
variable {X:Cx} {C cT:Addr} {o value:Expr} {ta tv:TE} {f:Str} {pos pos':Pos}
end
end L2
namespace L2
open PySem PySem.Spec PyProof.Rows
def Cx.caught (X:Cx) (a:Addr) (oe:Obj):Cx:={ X with A:=X.A.mark (some (.ref a)),calm:=false,pn:=(a,oe)::X.pn,xe:=fun _ _=>False }
theorem Cx.Ok.caught {X:Cx} (ok:X.Ok) (a:Addr) (oe:Obj):(X.caught a oe).Ok:=
 ⟨ok.mod,ok.kind,ok.glob,ok.blt,ok.above,ok.inj,ok.has,ok.cab,(fun z=>nomatch z),ok.frames,ok.stk,ok.exf,ok.bs,ok.bsz,ok.noex,ok.exfs,ok.funs,ok.frf⟩
section
variable {X:Cx} {pins:List (Addr×Obj)} {σ:St} {H:Hp} {s:Shared} {a:Addr} {oe:Obj}
theorem Inv.caught (I:Inv X pins σ H s) (e:s.heap.get? a=some oe) (n:H a=none) (h1:a≠X.env.locals) (h2:a∉X.fs) (h3:∀v,oe.data≠.cell v):Inv (X.caught a oe) pins σ H s:=
 ⟨I.ok.caught a oe,I.os,I.bare,I.base,I.loc,I.cell,I.free,I.freeC,fun p hp=>by
  rcases List.mem_cons.mp (show p∈(a,oe)::(X.pn++pins) from hp) with z | z
  ·subst z;exact⟨e,n,h1,h2,h3⟩
  ·exact I.pin p z,I.hok,I.len⟩
theorem Inv.uncaught {ok:X.Ok} (I:Inv (X.caught a oe) pins σ H s):Inv X pins σ H s:=
 ⟨ok,I.os,I.bare,I.base,I.loc,I.cell,I.free,I.freeC,fun p hp=>I.pin p (show p∈(a,oe)::(X.pn++pins) from List.mem_cons_of_mem _ hp),I.hok,I.len⟩
theorem Inv.mapGone {h':Heap} {m':Str→Option Value} {t':Nat} (I:Inv X pins σ H s) (hn:h'.Ns X.env.locals m') (hs:Heap.SameBut X.env.locals s.heap h'):Inv X pins (List.replicate X.N.length none) H { s with heap:=h',toks:=t' }:=by
 have neL:∀b o,X.s₀.heap.get? b=some o→b≠X.env.locals:=fun b o e=>Nat.ne_of_lt (Nat.lt_of_lt_of_le (Heap.lt_size e) I.ok.above)
 refine⟨I.ok,I.os,I.bare,⟨fun b o e n hb hx=>(hs.2 b (neL b o e)).trans (I.base.keep b o e n hb hx),fun b o e n hb hx=>?_,I.base.free,fun b o e hx=>?_,I.base.tups,I.base.frzs,I.base.tbls⟩,⟨m',hn,fun i x v _ e2 _=>?_⟩,fun x c e=>?_,I.free,I.freeC,fun p hp=>?_,fun b u e=>?_,by simp⟩
 ·obtain⟨sl,z⟩:=I.base.slot b o e n hb hx
  exact⟨sl,(hs.2 b (neL b o e)).trans z⟩
 ·obtain⟨o',z⟩:=I.base.there b o e hx
  exact⟨o',(hs.2 b (neL b o e)).trans z⟩
 ·rw[List.getElem?_replicate] at e2
  split at e2<;>cases e2
 ·obtain⟨v,z⟩:=I.cell x c e
  exact⟨v,z.sameBut hs (I.cne x c e)⟩
 ·obtain⟨e,n,ne,r⟩:=I.pin p hp
  exact⟨(hs.2 p.1 ne).trans e,n,ne,r⟩
 ·refine (I.hok b u e).stay (fun c v hc q=>(hs.2 c ?_).trans q) (fun _ q=>q) fun _ _ q=>q
  rcases hc with z | z
  ·rw[z];exact Ai e I.free
  ·exact Ai z I.free
theorem Inv.blank (I:Inv X pins σ H s):Inv X pins (List.replicate X.N.length none) H s:=I.weak (by rw[I.len];simp) fun i v e=>by
 rw[List.getElem?_replicate] at e
 split at e<;>cases e
end
theorem NF {M:Model} {h:Heap} {K:PySem.W.Frag} {C D a:Addr} {oe:Obj} {r:Bool} (X:K.In h) (hD:PySem.W.typeIn K (.ref D)=some (.type "type")) (cD:(PySem.W.clsIn K D).isSome=true) (hB:PySem.W.mroIn K D (.type "BaseException")=some true) (hs:PySem.W.mroIn K C (.ref D)=some r)
  (he:h.get? a=some oe) (hc:oe.cls= .ref C):PySem.W.Looks M h (excMatches (.ref a) (.ref D)) r:=by
 have T0:PySem.W.Looks M h (typeOf (.ref a)) (.ref C):=hc ▸ (PySem.W.Looks.ld he).andThen .now
 have T1:PySem.W.Looks M h (isInstance (.ref D) (.type "tuple")) false:=(PySem.W.looks_typeIn X hD).andThen (PySem.W.Looks.of_pure tc_notTuple)
 have T2:PySem.W.Looks M h (isType (.ref D)) true:=by
  obtain⟨cd,hcd⟩:=Option.isSome_iff_exists.mp cD
  unfold PySem.W.clsIn at hcd
  split at hcd
  ·rename_i c1 d1 cd1 sl1 ho
   unfold isType loadHead
   exact (PySem.W.Looks.ld (X _ _ ho)).andThen .now
  ·cases hcd
 have T3:PySem.W.Looks M h (isExcClass (.ref D)) true:=by
  unfold isExcClass
  exact T2.andThen (PySem.W.looks_mroIn X hB)
 have T4:=PySem.W.looks_mroIn (M:=M) X hs
 unfold excMatches
 refine T1.andThen ?_
 simp only[Bool.false_eq_true,if_false,pure_bind,List.forIn_cons,List.forIn_nil,bind_assoc]
 refine T3.andThen ?_
 simp only[Bool.not_true,Bool.false_eq_true,if_false,pure_bind]
 refine T0.andThen (T4.andThen ?_)
 cases r<;>simp<;>exact .now
end L2
namespace L2
open PySem PySem.Spec PyProof.Rows
def Cx.within (X:Cx) (pn:List (Addr×Obj)) (E:Value→Shared→Prop):Cx:={ X with pn:=pn,xe:=E }
section
variable {X:Cx} {pins:List (Addr×Obj)} {σ:St} {H:Hp} {s:Shared}
theorem Inv.within (I:Inv X pins σ H s) (E:Value→Shared→Prop):Inv (X.within (X.pn++pins) E) [] σ H s:=
 ⟨⟨I.ok.mod,I.ok.kind,I.ok.glob,I.ok.blt,I.ok.above,I.ok.inj,I.ok.has,I.ok.cab,I.ok.hd,I.ok.frames,I.ok.stk,I.ok.exf,I.ok.bs,I.ok.bsz,I.ok.noex,I.ok.exfs,I.ok.funs,I.ok.frf⟩,I.os,I.bare,I.base,I.loc,I.cell,I.free,I.freeC,
  fun p hp=>I.pin p (by rw[List.append_nil] at hp;exact hp),I.hok,I.len⟩
theorem Inv.out {pins2:List (Addr×Obj)} {E:Value→Shared→Prop} (ok:X.Ok) (I:Inv (X.within (X.pn++pins) E) pins2 σ H s):Inv X pins σ H s:=
 ⟨ok,I.os,I.bare,I.base,I.loc,I.cell,I.free,I.freeC,fun p hp=>I.pin p (List.mem_append_left _ hp),I.hok,I.len⟩
theorem Inv.young (I:Inv X pins σ H s) {b:Addr} (h:s.heap.objs.size≤b):(b∈X.ex∨X.s₀.heap.objs.size≤b)∧b≠X.env.locals∧(∀x c,X.env.cells.lookup x=some c→c≠b)∧∀p∈X.pn++pins,p.1≠b:=
 ⟨.inr (Nat.le_trans I.sz h),Nat.ne_of_gt (Nat.lt_of_lt_of_le I.lt h),fun x c e=>by
  obtain⟨v,o,ho,_⟩:=I.cell x c e
  exact Nat.ne_of_lt (Nat.lt_of_lt_of_le (Heap.lt_size ho) h),fun p hp=>Nat.ne_of_lt (Nat.lt_of_lt_of_le (Heap.lt_size (I.pin p hp).1) h)⟩
end
section
variable {X:Cx} {C Dc:Addr} {i:Nat} {x n:Str} {np hpos pos:Pos} {body suite:List Stmt} {b0:Stmt} {tb:XK→TS} {th:Addr→Obj→TS}
end
end L2
namespace L2
open PySem PySem.Spec PyProof.Rows
section
variable {X:Cx} {C cT:Addr} {e:Expr} {f:Str} {pos:Pos} {ta:TE}
end
end L2
namespace L2
open PySem PySem.Spec PyProof.Rows
theorem DA {K:PySem.W.Frag} {C:Addr} {T:String} {b:Bool} (hm:PySem.W.kitMeta T=true) (h:PySem.W.subIn K (.ref C) (.type T)=some b):PySem.W.kitOne K (.ref C) (.type T)=some b:=by
 unfold PySem.W.kitOne
 rw[if_neg (show ¬((Value.ref C == Value.type T)=true) by intro z;cases beq_iff_eq.mp z)]
 show (if PySem.W.kitMeta T=true then _ else _)=_
 rw[if_pos hm,h]
theorem BW {K:PySem.W.Frag} {C D:Addr} {b:Bool} (ne:(Value.ref C == Value.ref D)=false) (hc:(PySem.W.clsIn K D).isSome=true) (ht:PySem.W.typeIn K (.ref D)=some (.type "type")) (h:PySem.W.subIn K (.ref C) (.ref D)=some b):PySem.W.kitOne K (.ref C) (.ref D)=some b:=by
 unfold PySem.W.kitOne
 rw[ne,if_neg Bool.false_ne_true]
 show (if ((PySem.W.clsIn K D).isSome && PySem.W.typeIn K (.ref D) == some (.type "type"))=true then _ else _)=_
 rw[hc,ht,if_pos (by simp),h]
end L2
namespace L2
open PySem PySem.Spec PyProof.Rows
theorem SE {K:PySem.W.Frag} {h:Heap} {N:Addr} {mg:Str→Option Value} {n:Str} (X:K.In h) (G:h.Ns N mg) (e:PySem.W.nsIn K N n=some none):mg n=none:=by
 obtain⟨o,es,ep,ho,hd,_,hf⟩:=G
 unfold PySem.W.nsIn at e
 split at e
 ·rename_i c d es2 n2 sl q
  have z:=X _ _ q
  rw[ho] at z
  cases z
  cases hd
  split at e
  ·cases e
  ·rename_i he
   rw[←hf]
   unfold nsFind findBy
   rw[←Array.find?_toList,he]
   rfl
 ·cases e
section
variable {prog:Program} {w:World} {A:Around} {E:Value→Shared→Prop} {h:Heap} {g:Array GenState} {d:Drawn} {t:Nat} {os:OsState}
variable {nm q:Str} {C N:Addr} {bs bm:List Value} {hdct:Bool} {sn:List Str} {sub:List Value} {ab:Bool} {col:Option Bool} {dd:Option Addr} {k0 k1 k2 k3 k5:Option Value}
theorem Ld {mN:Str→Option Value} {us:List Value} {Q:Fin→Shared→Prop} {A2:Around} (T:OwnTail h Eu bm)
  (hC:h.get? C=some (excClassObj nm q C N bs bm hdct sn sub ab col dd k0 k1 k2 k3 k5 "ValueError.__new__")) (hn:h.Ns N mN) (hi:mN "__init__"=none) (hu:us.length≤sizeLine)
  (k:∀h',(∀b o,h.get? b=some o→h'.get? b=some o)→h'.get? (h.objs.size+1)=some (MH C (h.objs.size+2) none)→Q (.done (.ret (.ref (h.objs.size+1)))) ⟨h',g,d,t,os⟩) :
  wpAny (model prog w) A2 (Builtin.«type.__call__» ⟨.ref C::us,[]⟩) Q E ⟨h,g,d,t,os⟩:=by
 have VF:=PySem.F.excBase_ValueError
 repeat (first | with_reducible refine wpAny_madeBy_exc hC ?_ | with_reducible refine wpAny_loadPart_at hC ?_ | wp_step)
 refine codeAny_call_builtin_code (Code.quiet_builtin _ VF.quiet) (wpAny_check_new_subT VF T hC (codeAny_exc_new_subT VF T hC ?_ hu))
 show wpAny _ _ _ _ _ _
 have kk:∀b o,h.get? b=some o→((h.push { cls:=.type "tuple",data:=.seq us.toArray }).push { cls:=.ref C,data:=.fields #[.ref h.objs.size,.none,.none,.none,.bool false,.none] }).get? b=some o:=fun b o e=>Heap.get?_push_of_some _ (Heap.get?_push_of_some _ e)
 have hE:((h.push { cls:=.type "tuple",data:=.seq us.toArray }).push { cls:=.ref C,data:=.fields #[.ref h.objs.size,.none,.none,.none,.bool false,.none] }).get? (h.objs.size+1)=some { cls:=.ref C,data:=.fields #[.ref h.objs.size,.none,.none,.none,.bool false,.none] }:=by heap_get
 have hself:(Value.ref C::bm).contains (.ref C)=true:=by simp
 have hC2:=kk _ _ hC
 have T2:=T.keeps kk
 unfold isInstance
 repeat (first | with_reducible refine wpAny_loadPart_at hE ?_ | (with_reducible refine wpAny_isSubtype_exc hC2 ?_;rw[hself]) | wp_step)
 show wpAny _ _ (typeLookup (.ref C) _) _ _ _
 refine wpAny_typeLookup_tail hC2 (hn.keeps kk) T2 VF.mroIs VF.init.lookup ?_
 rw[hi]
 refine wpAny_holding (wpAny_bind (wpAny_of_eq (VF.init.bind _) (wpAny_bind (wpAny_call (codeAny_call_builtin VF.init.plain VF.initEntry (wpAny_check_init_subT VF T2 hC2 hE rfl ?_))))))
 wp_walk
 refine k _ (fun b o hb=>?_) ?_
 ·have lt:=Heap.lt_size hb
  rw[Heap.get?_update_other _ _ (Nat.ne_of_gt (Nat.lt_succ_of_lt lt))]
  exact Heap.get?_push_of_some _ (kk b o hb)
 ·rw[Heap.get?_update_self _ (Heap.get?_push_of_some (h:=_) _ hE) rfl]
  simp only[Heap.size_push]
  rfl
theorem No {mN:Str→Option Value} {us:List Value} {Q:Value→Shared→Prop} (T:OwnTail h Eu bm)
  (hC:h.get? C=some (excClassObj nm q C N bs bm hdct sn sub ab col dd k0 k1 k2 k3 k5 "ValueError.__new__")) (hn:h.Ns N mN) (hi:mN "__init__"=none) (hu:us.length≤sizeLine)
  (k:∀h',(∀b o,h.get? b=some o→h'.get? b=some o)→h'.get? (h.objs.size+1)=some (MH C (h.objs.size+2) none)→Q (.ref (h.objs.size+1)) ⟨h',g,d,t,os⟩) :
  wpAny (model prog w) A (call (.ref C) us) Q E ⟨h,g,d,t,os⟩:=by
 have z1:=tc_lookup
 have z2:=tc_bind (.ref C)
 have z3:(⟨h,g,d,t,os⟩:Shared).TypeIs (.ref C) "type":=⟨_,hC,rfl⟩
 refine wpAny_call (codeAny_of_tree ?_)
 show wpAny _ _ (callAny (.ref C) ⟨us,[]⟩) _ _ _
 repeat (any_goals (first | assumption | with_reducible refine wpAny_loadPart_at hC ?_ | wp_step))
 exact⟨rfl,codeAny_call_builtin_at (Code.quiet_builtin _ (by decide +kernel)) entry_typeCall (wpAny_check_type_call_sub hC (Ld T hC hn hi hu k))⟩
end
def SA (C:Addr) (Ex:XK) (t:TA):TS:=fun _ σ H=>t σ H fun _ H1=>Ex (.ref C) none H1
section
variable {X:Cx} {C cT:Addr} {Ex:XK} {x:Str} {p pos cpos:Pos} {e:Expr} {es:List Expr} {t:TA}
theorem Bq (hx:Vt X Ex) (hc:X.calm=true) (M:UJ X.K C cT none) (at_:XAt X.K C cT) (ty:PySem.W.typeIn X.K (.ref C)=some (.type "type")) (hg:Gl X x) (hm:X.mg x=some (.ref C)) (ha:PA X (e::es) t) (hlen:(e::es).length≤1000:=by decide) (hdb:(x == ("__debug__":Str))=false:=by decide)
  (he:starEach (e::es) X.env=(false,eval e X.env)::starEach es X.env:=by rfl) (hpl:(backTo cpos (starEach es X.env)).any (·.1)=false:=by rfl)
  (hvl:∀σ H (Q:List V→Hp→Prop),t σ H Q→t σ H (fun vs H1=>vs.length≤1000∧Q vs H1)) :
  PS X (.Raise (some (.Call (.Name x p) (e::es) [] cpos)) none pos) (SA C Ex t):=by
 intro pins s σ H D I h
 rw[arm_exec_Raise]
 refine wpAny_bind (wpAny_standAt (Lb (K:=X.K) at_ ty (I.ok.hd hc) ?_))
 refine wpAny_bind (AM (Q:=fun v s1=>∃b tp dx,v= .ref b∧X.K.In s1.heap∧s1.heap.get? b=some (MH C tp dx)∧X.xe (.ref b) s1) ?_ fun v s1 q=>wpAny_bind (wpAny_standAt (wpAny_pure q)))
 refine wpAny_Call_Name_kw (ET I hg hm ?_ hdb)
 refine PySem.W.callWith_K (h₀:=X.base) I.ok.mod.kin M.kp (AM (ha cpos pins s σ H _ I (hvl _ _ _ h)) fun us s1 ⟨vs,H1,I1,r,hl,q⟩=>⟨I1.kIn,?_⟩) he hpl
 show wpAny _ _ (call (.ref C) us) _ _ _
 obtain⟨nm,q0,N,bs,hdct,sn,sub,ab,col,dd,k0,k1,k2,k3,k5,lC,oN,iN⟩:=M.cls
 have KX:=I1.kIn
 have nsN:=Heap.Ns.of_isNs (PySem.W.isNs_of_in KX oN)
 have hul:us.length≤sizeLine:=by rw[←r.length];exact Nat.le_of_lt (AO hl)
 obtain⟨hh,g,d,tk,os⟩:=s1
 refine No (PySem.W.tail_of_in KX M.tail) (KX _ _ lC) nsN (SE KX nsN iN) hul fun h' kk e'=>?_
 have I2:Inv X pins σ H1 ⟨h',g,d,tk,os⟩:=I1.kept (t':=tk) kk
 refine⟨_,_,none,rfl,I2.kIn,e',?_⟩
 exact hx pins σ H1 _ _ _ none _ _ I2 (I1.hok.fresh (Nat.le_succ _)) e' ⟨rfl,rfl⟩ (Nat.le_trans I1.sz (Nat.le_succ _)) q
end
abbrev SQ:=Ends→Addr→Option Addr→Hp→Prop
def VI (X:Cx) (hs:List ExceptHandler) (t:SQ):Prop:=
 ∀(pins:List (Addr×Obj)) (D:Ends) (a T C:Addr) (dx:Option Addr) (H:Hp) (s:Shared),Inv X pins (List.replicate X.N.length none) H s→Rc s.heap a (.ref C) dx T .none→H a=none→H T=none→a≠X.env.locals→a∉X.fs→
  ((T∈X.ex∨X.s₀.heap.objs.size≤T)∧T≠X.env.locals∧(∀x c,X.env.cells.lookup x=some c→c≠T)∧∀p∈X.pn++pins,p.1≠T)→t D C dx H→
  wpAny (model X.prog X.w) X.A (handleBy (.ref a) X.env hs) (SP X pins D) X.xe s
theorem Sv {X:Cx}:VI X [] (fun _ _ _ _=>False):=fun _ _ _ _ _ _ _ _ _ _ _ _ _ _ _ h=>h.elim
section
variable {X:Cx} {Dc:Addr} {i:Nat} {x n:Str} {np hpos pos:Pos} {body suite:List Stmt} {b0:Stmt} {tb:XK→TS} {th:Addr→Obj→TS} {hs:List ExceptHandler} {tr:SQ}
def VH (tb:XK→TS) (th:SQ):TS:=fun D σ H=>∃E:XK,tb E D σ H∧∀cls dx H',E cls dx H'→∃C,cls= .ref C∧th D C dx H'
theorem RM {h0:ExceptHandler} {tt:SQ} (hb:∀(E:XK) (pn:List (Addr×Obj)) (Ex:Value→Shared→Prop),Co (A4 X.prog X.w) (X.within pn Ex) E→PSs (X.within pn Ex) body (tb E)) (hh:VI X (h0::hs) tt)
  (stk:X.stack=X.env::X.outer) (hf:X.env.frame=some X.env.locals):PS X (.Try body (h0::hs) [] [] pos) (VH tb tt):=by
 intro pins s σ H D I h
 obtain⟨E,h1,h2⟩:=h
 have ok:=I.ok
 let Ex:Value→Shared→Prop:=fun e s1=>wpAny (model X.prog X.w) X.A (noteFrame e X.env) (fun _ s2=>wpAny (model X.prog X.w) X.A (setFlight e none) (fun _ s3=>
  wpAny (model X.prog X.w) X.A (handleBy e X.env (h0::hs)) (SP X pins D) X.xe s3) X.xe s2) X.xe s1
 refine wpAny_Try_except (wpAny_mono (hb E (X.pn++pins) Ex ?_ [] s σ H D (I.within Ex) h1) (fun f s1 q=>?_) fun e s1 q=>q)
 ·intro pins2 σ2 H2 s2 e s' I2 hx
  obtain⟨a,T,cls,dx,H',rfl,os,bare,un,hok,F,ha,hT,la,lT,qe⟩:=hx
  obtain⟨C,rfl,hsu⟩:=h2 cls dx H' qe
  have J2:=I2.out ok
  have un':Un (Gh X.stack) [] H2 H' s2.heap s'.heap:=un
  have J3:=J2.call' os un' hok bare (fun b z=>absurd z (by simp))
  have st:=J3.stack
  have frm:=ok.frames
  have fre:=J3.stkFree
  rw[stk] at st frm fre
  show wpAny _ _ (noteFrame _ _) _ _ _
  refine LY frm st hf F fun h4 T4 hT4 S4 F4=>Rh F4 fun h5 S5 F5=>?_
  have two:∀b∈[a,T],s2.heap.objs.size≤b∧H' b=none:=fun b hb=>by
   rcases List.mem_cons.mp hb with z | z
   ·rw[z];exact⟨la,ha⟩
   ·rw[List.mem_singleton.mp z];exact⟨lT,hT⟩
  have hT4n:H' T4=none:=J3.hok.fresh hT4
  have J4:Inv X pins σ2 H' { s' with heap:=h4 }:=J3.call' (ch:=[a,T]) (s':={ s' with heap:=h4 }) rfl (by rw[stk];exact S4.un H') (S4.hok J3.hok fre fun b hb=>(two b hb).2) J3.bare fun b hb=>J2.young (two b hb).1
  have J5:Inv X pins σ2 H' { s' with heap:=h5 }:=J4.call' (ch:=[T4]) (s':={ s' with heap:=h5 }) rfl ((S5.un H').mono (fun b hb=>absurd hb (by simp)) fun _ z=>z) (S5.hok J4.hok (fun b hb=>absurd hb (by simp)) fun b hb=>by rw[List.mem_singleton.mp hb];exact hT4n) J3.bare
   fun b hb=>by rw[List.mem_singleton.mp hb];exact J3.young hT4
  exact hh pins D a T4 C dx H' _ J5.blank F5 ha hT4n (J2.young la).2.1 (J2.nofs la) (J3.young hT4) hsu
 ·cases f with
  | next=>obtain⟨σ',H',I',q'⟩:=q;exact wpAny_execs_nil ⟨σ',H',I'.out ok,q'⟩
  | brk=>obtain⟨σ',H',I',q'⟩:=q;exact⟨σ',H',I'.out ok,q'⟩
  | cont=>obtain⟨σ',H',I',q'⟩:=q;exact⟨σ',H',I'.out ok,q'⟩
  | ret u=>obtain⟨v,σ',H',I',r',q'⟩:=q;exact⟨v,σ',H',I'.out ok,r',q'⟩
end
def Held0 (X:Cx) (C a:Addr):Prop:=∃vs sl,(a,(⟨.ref C,none,.fields vs,sl⟩:Obj))∈X.pn
theorem Held0.inst {X:Cx} {pins:List (Addr×Obj)} {σ:St} {H:Hp} {s:Shared} {C a:Addr} (h:Held0 X C a) (I:Inv X pins σ H s):∃ox,PySem.W.InstAt s.heap a ox C none:=by
 obtain⟨vs,sl,hp⟩:=h
 obtain⟨e,_⟩:=I.pin _ (List.mem_append_left _ hp)
 exact⟨_,e,rfl,rfl,trivial⟩
section
variable {X:Cx} {C cT:Addr}
def Wy (X:Cx):List V→Hp→VK→Prop:=fun xs H Q=>∃a C cT y c b,xs=[.ref a,y]∧XAt X.K C cT∧Held0 X C a∧(∀u,RelV y u→u=c)∧PySem.W.kitOne X.K (.ref C) c=some b∧Q (.bl b) H
theorem B2:BC X (.builtin "isinstance") (Wy X):=by
 intro pins s σ H xs us Q I r h
 obtain⟨a,C,cT,y,c,b,rfl,at_,hh,hc,hk,q⟩:=h
 obtain⟨u,w',rfl,rx,ry⟩:=Ph r
 obtain rfl:=hc w' ry
 cases (show u=Value.ref a from rx)
 obtain⟨ox,J⟩:=hh.inst I
 exact PySem.W.kia_one (O3 (x:=a) at_) I.kIn J hk (fun z=>nomatch z) fun tk=>⟨.bl b,H,I.tok _,rfl,q⟩
def UU (K:PySem.W.Frag):R2:=fun x y H Q=>∃(e p:Addr) (xs:List V) (bs:List Bool),x= .ref e∧y= .ref p∧SqL K H e []∧SqL K H p xs∧bs.length=xs.length∧(∀(i:Nat) v b,xs[i]? = some v→bs[i]? = some b→∃a zs,v= .ref a∧SqL K H a zs∧b=zs.isEmpty)∧Q (.bl (bs.any id)) H
theorem UE (hu:X.A.units+9<cLine):Dw X (compareOp .In) (UU X.K):=by
 intro pins s σ H x y v u Q I rx ry h
 obtain⟨e,p,xs,bs,rfl,rfl,he,hp,hl,hx,q⟩:=h
 cases rx
 cases ry
 obtain⟨its,r,pl,hz⟩:=I.list hp
 obtain⟨its0,r0,pl0,hz0⟩:=I.list he
 cases r0
 have lr:=r.length
 have at':∀(i:Nat) (u:Value),its[i]? = some u→∃b,bs[i]? = some b∧SeqAt.EqAt X.A.in1 s u (.ref e) b:=fun i u hi=>by
  have hil:i<its.length:=(List.getElem?_eq_some_iff.mp hi).1
  have hxi:xs[i]? = some xs[i]:=List.getElem?_eq_getElem (by omega)
  have hbi:bs[i]? = some bs[i]:=List.getElem?_eq_getElem (by omega)
  obtain⟨u2,hu2,ru2⟩:=r.get hxi
  rw[hi] at hu2
  cases hu2
  obtain⟨a,zs,ev,hq,eb⟩:=hx i _ _ hxi hbi
  rw[ev] at ru2
  cases ru2
  refine⟨_,hbi,?_⟩
  obtain⟨itz,rz,plz,_⟩:=I.list hq
  rw[eb]
  by_cases hae:a=e
  ·subst hae
   have hz1:itz=[]:=by
    have h1:=plz.isList
    have h2:=pl0.isList
    obtain⟨o1,g1,_,n1,d1⟩:=h1
    obtain⟨o2,g2,_,n2,d2⟩:=h2
    rw[g1] at g2
    cases g2
    rw[d1] at d2
    cases itz with
    | nil=>rfl
    | cons c r=>cases d2
   subst hz1
   cases rz
   exact SeqAt.EqAt.same _
  ·refine SeqAt.EqAt.of_refs hae ?_
   cases rz with
   | nil=>exact SeqAt.RcAt.lists (e:=fun _=>true) plz.isList pl0.isList rfl (by show X.A.units+1<cLine;omega) (fun j h1=>absurd h1 (Nat.not_lt_zero _))
   | cons r1 r2=>exact SeqAt.RcAt.lists_lengths plz.isList pl0.isList (by simp) (by show X.A.units+1<cLine;omega)
 let f:Value→Bool:=fun u=>(List.range its.length).any fun i=>its[i]? == some u && bs[i]? == some true
 have uniq:∀(i j:Nat) (u:Value),its[i]? = some u→its[j]? = some u→bs[i]? = bs[j]? :=fun i j u hi hj=>by
  have hil:i<its.length:=(List.getElem?_eq_some_iff.mp hi).1
  have hjl:j<its.length:=(List.getElem?_eq_some_iff.mp hj).1
  have hxi:xs[i]? = some xs[i]:=List.getElem?_eq_getElem (by omega)
  have hbi:bs[i]? = some bs[i]:=List.getElem?_eq_getElem (by omega)
  have hxj:xs[j]? = some xs[j]:=List.getElem?_eq_getElem (by omega)
  have hbj:bs[j]? = some bs[j]:=List.getElem?_eq_getElem (by omega)
  obtain⟨u2,hu2,ru2⟩:=r.get hxi
  obtain⟨u3,hu3,ru3⟩:=r.get hxj
  rw[hi] at hu2
  cases hu2
  rw[hj] at hu3
  cases hu3
  obtain⟨a,zs,ev,hq,eb⟩:=hx i _ _ hxi hbi
  obtain⟨a2,zs2,ev2,hq2,eb2⟩:=hx j _ _ hxj hbj
  rw[ev] at ru2
  rw[ev2] at ru3
  cases ru2
  have ea:a=a2:=Value.ref.inj (show Value.ref a=Value.ref a2 from ru3)
  subst ea
  rw[hbi,hbj,eb,eb2]
  obtain⟨it1,rz1,p1,_⟩:=I.list hq
  obtain⟨it2,rz2,p2,_⟩:=I.list hq2
  obtain⟨o1,g1,_,n1,d1⟩:=p1.isList
  obtain⟨o2,g2,_,n2,d2⟩:=p2.isList
  rw[g1] at g2
  cases g2
  rw[d1] at d2
  have eit:it1.toArray=it2.toArray:=by cases d2;rfl
  have eit':it1=it2:=by simpa using eit
  have l1:=rz1.length
  have l2:=rz2.length
  rw[eit'] at l1
  cases zs with
  | nil=>cases zs2 with
   | nil=>rfl
   | cons c d=>simp at l1 l2;omega
  | cons c d=>cases zs2 with
   | nil=>simp at l1 l2;omega
   | cons c2 d2=>rfl
 have ff:∀(i:Nat) (u:Value) (b:Bool),its[i]? = some u→bs[i]? = some b→f u=b:=fun i u b hi hb=>by
  have hil:i<its.length:=(List.getElem?_eq_some_iff.mp hi).1
  cases b with
  | true=>exact List.any_eq_true.mpr ⟨i,List.mem_range.mpr hil,by rw[hi,hb];simp⟩
  | false=>
   refine List.any_eq_false.mpr fun j hj z=>?_
   rw[Bool.and_eq_true] at z
   have z1:its[j]? = some u:=eq_of_beq z.1
   have z2:bs[j]? = some true:=eq_of_beq z.2
   have:=uniq i j u hi z1
   rw[hb,z2] at this
   cases this
 refine SeqAt.in_listAt f pl.isList (fun u hu=>?_) ⟨.bl _,H,I,rfl,?_⟩
 ·have hu':u∈its:=by simpa using hu
  obtain⟨i,hi⟩:=List.getElem?_of_mem hu'
  obtain⟨b,hb,eq⟩:=at' i u hi
  rw[ff i u b hi hb]
  first | exact eq | exact eq.of_in1
 ·have ea:its.toArray.any f=bs.any id:=by
   rw[show its.toArray.any f=its.any f by simp,Bool.eq_iff_iff,List.any_eq_true,List.any_eq_true]
   constructor
   ·rintro⟨u,hu,hf⟩
    obtain⟨i,hi⟩:=List.getElem?_of_mem hu
    obtain⟨b,hb,_⟩:=at' i u hi
    rw[ff i u b hi hb] at hf
    exact⟨b,List.mem_of_getElem? hb,hf⟩
   ·rintro⟨b,hb,hf⟩
    obtain⟨i,hi⟩:=List.getElem?_of_mem hb
    have hil:i<bs.length:=(List.getElem?_eq_some_iff.mp hi).1
    have hii:its[i]? = some its[i]:=List.getElem?_eq_getElem (by omega)
    exact⟨its[i],List.mem_of_getElem? hii,by rw[ff i _ b hii hi];exact hf⟩
  rw[ea]
  exact q
end
end L2
namespace L2
open PySem PySem.Spec PyProof.Rows
def Ends.lost (D:Ends) (i:Nat):Ends:={ nx:=fun σ H=>D.nx (σ.set i none) H,rt:=D.rt,bk:=fun σ H=>D.bk (σ.set i none) H,ct:=fun σ H=>D.ct (σ.set i none) H }
section
variable {X:Cx} {Dc:Addr} {i:Nat} {x n:Str} {np hpos pos:Pos} {body suite:List Stmt} {b0:Stmt} {tb:XK→TS} {th:Addr→Obj→TS} {hs:List ExceptHandler} {tr:SQ} {pins:List (Addr×Obj)} {σ:St} {H:Hp} {s:Shared}
theorem Inv.nameGone {Q:Unit→Shared→Prop} (I:Inv X pins σ H s) (hN:X.N.Nodup) (hi:X.N[i]? = some n) (hl:X.env.kindOf n=some .local) (hk:(X.env.scope.kind == .class || (X.env.scope.kind == .module && X.env.locals != X.env.globals))=false)
  (kk:∀s10,Inv X pins (σ.set i none) H s10→Q () s10):wpAny (model X.prog X.w) X.A (do bindName X.env n .none;unbindBehindTheSuite X.env n hpos) Q X.xe s:=by
 obtain⟨m,hn,hl'⟩:=I.loc
 refine wpAny_nameGoes_keeps hl hn hk fun h' v hn' hs'=>kk _ ?_
 have J:=I.mapGone (t':=s.toks+1) hn' hs'
 refine⟨J.ok,J.os,J.bare,J.base,⟨_,hn',fun j y z e1 e2 e3=>?_⟩,J.cell,J.free,J.freeC,J.pin,J.hok,by rw[List.length_set];exact I.len⟩
 have hji:j≠i:=fun e=>by
  rw[e,List.getElem?_set] at e2
  rw[if_pos rfl] at e2
  split at e2<;>cases e2
 have hyn:y≠n:=fun e=>hji (Gx hN (e ▸ e1) hi)
 rw[List.getElem?_set,if_neg (fun e=>hji e.symm)] at e2
 obtain⟨u,ru,hlk⟩:=hl' j y z e1 e2 e3
 rcases hlk with⟨k1,k2⟩|⟨k1,c,k2,k3⟩
 ·exact⟨u,ru,.inl ⟨k1,by simp only[if_neg hyn];exact k2⟩⟩
 ·exact⟨u,ru,.inr ⟨k1,c,k2,k3.sameBut hs' (I.cne y c k2)⟩⟩
end
end L2
namespace L2
open PySem PySem.Spec PyProof.Rows
section
variable {X:Cx} {N:List Str} {scope:Scope} {cl:List (Str×Addr)} {js:List (Option Nat)} {elt tg iter:Expr} {ifs:List Expr} {rest:List Comprehension} {pos spos ypos:Pos} {wi:TI} {g:CC→TG} {tb:CC→Addr→TS} {i:Nat} {y:Str}
variable {tg1 iter1:Expr} {ifs1:List Expr} {wi1:CC→TI} {g1:CC→TG} {tc tc1:CC→TT} {te:CC→TE}
end
end L2
namespace L2
open PySem PySem.Spec PyProof.Rows
abbrev Up (xs:Array Nat):Prop:=xs.toList.Pairwise (· < ·)
theorem Up.lt {xs:Array Nat} (u:Up xs) {i j:Nat} {a b:Nat} (h:i<j) (ha:xs[i]? = some a) (hb:xs[j]? = some b):a<b:=by
 have ha':xs.toList[i]? = some a:=by simpa using ha
 have hb':xs.toList[j]? = some b:=by simpa using hb
 obtain⟨h1,e1⟩:=List.getElem?_eq_some_iff.mp ha'
 obtain⟨h2,e2⟩:=List.getElem?_eq_some_iff.mp hb'
 have:=List.pairwise_iff_getElem.mp u i j h1 h2 h
 omega
structure V4 (xs:Array Nat) (j p:Nat):Prop where
 le:p≤xs.size
 lo:∀i a,i<p→xs[i]? = some a→a<j
 hi:∀i a,p≤i→xs[i]? = some a→j≤a
theorem Ho {xs:Array Nat} (u:Up xs) (j:Nat):∀(fuel lo hi:Nat),hi-lo≤fuel→lo≤hi→hi≤xs.size→(∀i a,i<lo→xs[i]? = some a→a<j)→(∀i a,hi≤i→xs[i]? = some a→j≤a)→
  V4 xs j (SetTable.below.go xs j fuel lo hi)
 | 0,lo,hi,h1,h2,h3,h4,h5=>by
  have e:lo=hi:=by omega
  subst e
  exact⟨h3,h4,h5⟩
 | fuel+1,lo,hi,h1,h2,h3,h4,h5=>by
  unfold SetTable.below.go
  by_cases hlt:lo<hi
  ·rw[if_pos hlt]
   have hm:(lo+hi) / 2<xs.size:=by omega
   have eg:xs[(lo+hi) / 2]? = some xs[(lo+hi) / 2]:=Array.getElem?_eq_getElem hm
   have ed:xs.getD ((lo+hi) / 2) j=xs[(lo+hi) / 2]:=by simp[Array.getD,hm]
   show V4 xs j (if xs.getD ((lo+hi) / 2) j<j then _ else _)
   rw[ed]
   split
   ·rename_i hl
    refine Ho u j fuel ((lo+hi) / 2+1) hi (by omega) (by omega) h3 (fun i a hi' ha=>?_) h5
    by_cases e:i=(lo+hi) / 2
    ·subst e;rw[eg] at ha;cases ha;exact hl
    ·exact Nat.lt_trans (u.lt (show i<(lo+hi) / 2 by omega) ha eg) hl
   ·rename_i hl
    refine Ho u j fuel lo ((lo+hi) / 2) (by omega) (by omega) (by omega) h4 (fun i a hi' ha=>?_)
    by_cases e:i=(lo+hi) / 2
    ·subst e;rw[eg] at ha;cases ha;omega
    ·have:=u.lt (show (lo+hi) / 2<i by omega) eg ha
     omega
  ·rw[if_neg hlt]
   have e:lo=hi:=by omega
   subst e
   exact⟨h3,h4,h5⟩
theorem GE {xs:Array Nat} (u:Up xs) (j:Nat):V4 xs j (SetTable.below xs j):=
 Ho u j xs.size 0 xs.size (by omega) (Nat.zero_le _) (Nat.le_refl _) (fun i a h=>absurd h (Nat.not_lt_zero _)) fun i a h e=>by
  have:=(Array.getElem?_eq_some_iff.mp e).1
  omega
theorem LD {xs:Array Nat} (u:Up xs) {i a:Nat} (h:xs[i]? = some a):SetTable.below xs (a+1)=i+1:=by
 have b:=GE u (a+1)
 have hi:i<xs.size:=(Array.getElem?_eq_some_iff.mp h).1
 have h1:i<SetTable.below xs (a+1):=by
  rcases Nat.lt_or_ge i (SetTable.below xs (a+1)) with q | q
  ·exact q
  ·have:=b.hi i a q h
   omega
 rcases Nat.lt_or_ge (i+1) (SetTable.below xs (a+1)) with q | q
 ·have hs:i+1<xs.size:=Nat.lt_of_lt_of_le q b.le
  have e2:=Array.getElem?_eq_getElem hs
  have:=b.lo (i+1) _ q e2
  have:=u.lt (Nat.lt_succ_self i) h e2
  omega
 ·omega
theorem KY {xs:Array Nat} (u:Up xs):SetTable.below xs 0=0:=by
 have b:=GE u 0
 rcases Nat.eq_zero_or_pos (SetTable.below xs 0) with q | q
 ·exact q
 ·have hs:0<xs.size:=Nat.lt_of_lt_of_le q b.le
  have:=b.lo 0 _ q (Array.getElem?_eq_getElem hs)
  omega
theorem M6 {xs:Array Nat} (u:Up xs) {j:Nat} (h:xs[SetTable.below xs j]?≠some j):Up (SetTable.insertAt xs (SetTable.below xs j) j):=by
 have b:=GE u j
 generalize SetTable.below xs j=p at b h
 unfold Up
 rw[SetTable.toList_insertAt]
 have e1:∀x∈xs.toList.take p,x<j:=fun x hx=>by
  obtain⟨i,hi⟩:=List.mem_iff_getElem?.mp hx
  rw[List.getElem?_take] at hi
  split at hi
  ·rename_i hlt
   exact b.lo i x hlt (by simpa using hi)
  ·cases hi
 have e2:∀x∈xs.toList.drop p,j<x:=fun x hx=>by
  obtain⟨i,hi⟩:=List.mem_iff_getElem?.mp hx
  rw[List.getElem?_drop] at hi
  have hi':xs[p+i]? = some x:=by simpa using hi
  have:=b.hi (p+i) x (Nat.le_add_right _ _) hi'
  have ne:x≠j:=fun e=>by
   subst e
   cases i with
   | zero=>exact h hi'
   | succ i=>
    have hp:p<xs.size:=by
     have:=(Array.getElem?_eq_some_iff.mp hi').1
     omega
    have eg:=Array.getElem?_eq_getElem hp
    have h3:=b.hi p _ (Nat.le_refl _) eg
    have h4:=u.lt (show p<p+(i+1) by omega) eg hi'
    omega
  omega
 have u':(xs.toList.take p++xs.toList.drop p).Pairwise (· < ·):=by rw[List.take_append_drop];exact u
 obtain⟨p1,p2,p3⟩:=List.pairwise_append.mp u'
 refine List.pairwise_append.mpr ⟨p1,List.pairwise_cons.mpr ⟨e2,p2⟩,fun x hx y hy=>?_⟩
 rcases List.mem_cons.mp hy with q | q
 ·rw[q];exact e1 x hx
 ·exact Nat.lt_trans (e1 x hx) (e2 y q)
theorem Ql (n:Nat):Up (Array.range n):=by
 unfold Up
 rw[Array.toList_range]
 exact List.pairwise_lt_range
end L2
namespace L2
open PySem PySem.Spec PyProof.Rows
structure TabOk (BB:Bool) (t:SetTable):Prop where
 dum:t.dummies = #[]
 led:t.led = !BB
 up:Up t.place
structure FI (BB:Bool) (t:SetTable):Prop where
 led:t.led = !BB
 up:Up t.place
theorem TabOk.it {BB:Bool} {t:SetTable} (h:TabOk BB t):FI BB t:=⟨h.led,h.up⟩
theorem TabOk.plain_off {BB:Bool} {t:SetTable} (h:TabOk BB t):TabOk BB { t with plain:=false }:=⟨h.dum,h.led,h.up⟩
theorem TabOk.standIn {BB:Bool} {t:SetTable} (h:TabOk BB t) (n:Nat):TabOk BB (t.standIn n):=⟨rfl,h.led,Ql n⟩
theorem TabOk.orStandIn {BB:Bool} {t:SetTable} (h:TabOk BB t) (n:Nat):TabOk BB (t.orStandIn n):=by
 unfold SetTable.orStandIn
 split
 ·exact h
 ·exact h.standIn n
theorem TabOk.fresh (BB:Bool) (led:Bool) (e:led = !BB):TabOk BB (.fresh 0 0 led):=⟨rfl,e,List.Pairwise.nil⟩
theorem ML (j:Nat):SetTable.has #[] j=false:=by
 unfold SetTable.has
 simp
theorem Hw (t:SetTable) (p:SetTable.Probe):(t.advance p).dummy=p.dummy:=by
 unfold SetTable.advance
 split
 ·rfl
 ·rfl
theorem JW {t:SetTable} (hd:t.dummies = #[]) {hashAt:Nat→Int} {h:Int} {j:Nat} {d:Option Nat}:∀(fuel:Nat) (p:SetTable.Probe),p.dummy=none→SetTable.probe.go t hashAt h fuel p=some (.empty j d)→d=none∧t.place[SetTable.below t.place j]?≠some j
 | 0,_,_,e=>by cases e
 | fuel+1,p,hp,e=>by
  unfold SetTable.probe.go at e
  have hs:∀j,t.slot j=if t.place[SetTable.below t.place j]? == some j then .live (SetTable.below t.place j) else .empty:=fun j=>by
   unfold SetTable.slot
   rw[hd,ML]
   rfl
  rw[hs] at e
  split at e
  ·rename_i hlive
   split at hlive
   ·cases hlive
   ·rename_i hne
    injection e with e
    injection e with e1 e2
    subst e1
    refine⟨by rw[←e2,hp],fun z=>hne (by rw[z];simp)⟩
  ·rename_i hlive
   split at hlive<;>cases hlive
  ·split at e
   ·cases e
   ·exact JW hd fuel _ (by rw[Hw];exact hp) e
theorem TabOk.layNew {BB:Bool} {t:SetTable} (ok:TabOk BB t) (es:Array (Int×Value)) (h:Int) (x:Value):TabOk BB (layNew t es h x).2.1:=by
 unfold PySem.layNew
 cases ef:t.freeSlot h with
 | none=>exact ok.standIn _
 | some sw=>
  obtain⟨slot,wd⟩:=sw
  show TabOk BB ((t.put slot).1.orStandIn _)
  refine TabOk.orStandIn ?_ _
  unfold SetTable.freeSlot at ef
  split at ef
  ·rename_i j dummy eq
   have:=JW ok.dum _ _ rfl eq
   obtain⟨rfl,hne⟩:=this
   injection ef with ef
   injection ef with e1 e2
   have e1':j=slot:=e1
   subst e1'
   unfold SetTable.put
   refine⟨?_,ok.led,M6 ok.up hne⟩
   show (if SetTable.has t.dummies j then _ else t.dummies) = #[]
   rw[ok.dum,ML]
   rfl
  ·cases ef
theorem TabOk.relayAll {BB:Bool} {t:SetTable} (ok:TabOk BB t) (es:Array (Int×Value)) (wanted:Nat):TabOk BB (relayAll t es wanted).2.1:=by
 unfold PySem.relayAll
 cases er:t.relaid (es.map (·.1)) wanted with
 | none=>exact ok.standIn _
 | some to=>
  obtain⟨t',order⟩:=to
  dsimp only
  split
  ·unfold SetTable.relaid SetTable.laid at er
   cases eo:SetTable.layClean (SetTable.sizeAbove wanted-1) (es.map (·.1)) with
   | none=>rw[eo] at er;cases er
   | some owner=>
    rw[eo] at er
    injection er with er
    injection er with e1 e2
    subst e1
    refine⟨rfl,ok.led,?_⟩
    show (List.map (fun x:Nat×Nat=>x.fst) (List.filterMap (fun j=>Option.map (fun x=>(j,x)) (owner.getD j none)) (List.range (SetTable.sizeAbove wanted-1+1)))).toArray.toList.Pairwise (· < ·)
    rw[List.toList_toArray]
    rw[List.map_filterMap]
    refine List.Pairwise.filterMap _ (R:=(· < ·)) ?_ List.pairwise_lt_range
    intro a a' hlt b hb b' hb'
    have f:∀{a b:Nat},Option.map (fun x:Nat×Nat=>x.1) (Option.map (fun x=>(a,x)) (owner.getD a none))=some b→b=a:=fun {a b} e=>by
     cases q:owner.getD a none with
     | none=>rw[q] at e;cases e
     | some y=>rw[q] at e;injection e with e;exact e.symm
    rw[f hb,f hb']
    exact hlt
  ·exact ok.standIn _
end L2
namespace L2
open PySem PySem.Spec PyProof.Rows
def A0 (e:Int×Value):Int:=match e.2 with | .int k _=>k | _=>0
def EGood (l:List (Int×Value)):Prop:=∀e∈l,e.1=hashInt (A0 e)∧∃t,e.2= .int (A0 e) t
abbrev BB (w:World):Bool:=w.params.followText "set-order"
def SetIs (w:World) (h:Heap) (a:Addr) (ks:List Int):Prop:=
 ∃o es ep t,h.get? a=some o∧o.ExactSet∧o.data= .set es ep t∧EGood es.toList∧es.toList.map A0=ks∧ks.Nodup∧ks.length<2000∧TabOk (BB w) t∧t.fits es.size=true
theorem SetIs.keep {w:World} {h h':Heap} {a:Addr} {ks:List Int} (x:SetIs w h a ks) (k:∀o,h.get? a=some o→h'.get? a=some o):SetIs w h' a ks:=by
 obtain⟨o,es,ep,t,ho,r⟩:=x
 exact⟨o,es,ep,t,k o ho,r⟩
def SetIt (w:World) (h:Heap) (a:Addr) (ks:List Int):Prop:=
 ∃o es ep t,h.get? a=some o∧o.ExactSet∧o.data= .set es ep t∧EGood es.toList∧es.toList.map A0=ks∧ks.Nodup∧ks.length<2000∧FI (BB w) t∧t.fits es.size=true
theorem SetIs.it {w:World} {h:Heap} {a:Addr} {ks:List Int} (x:SetIs w h a ks):SetIt w h a ks:=by
 obtain⟨o,es,ep,t,h1,h2,h3,h4,h5,h6,h7,h8,h9⟩:=x
 exact⟨o,es,ep,t,h1,h2,h3,h4,h5,h6,h7,h8.it,h9⟩
theorem SetIt.keep {w:World} {h h':Heap} {a:Addr} {ks:List Int} (x:SetIt w h a ks) (k:∀o,h.get? a=some o→h'.get? a=some o):SetIt w h' a ks:=by
 obtain⟨o,es,ep,t,ho,r⟩:=x
 exact⟨o,es,ep,t,k o ho,r⟩
section
variable {prog:Program} {w:World} {A:Around} {E:Value→Shared→Prop} {s:Shared} {a:Addr} {ks:List Int} {k:Int} {tk:Tok}
theorem EGood.elems {l:List (Int×Value)} (h:EGood l):ElemsOf (intKind prog w) l:=fun e he=>by
 obtain⟨h1,t,h2⟩:=h e he
 refine⟨⟨A0 e,?_,h1⟩,?_⟩
 ·rw[h2];exact intKind_is _ _ _ _
 ·rw[h2];rfl
theorem EGood.is {l:List (Int×Value)} (h:EGood l) {e:Int×Value} (he:e∈l) {j:Int}:(intKind prog w).is j e.2=true↔j=A0 e:=by
 obtain⟨_,t,h2⟩:=h e he
 constructor
 ·intro q
  exact (intKind prog w).inj e.2 j (A0 e) q (by rw[h2];exact intKind_is _ _ _ _)
 ·rintro rfl
  rw[h2]
  exact intKind_is _ _ _ _
theorem Dh {es:Array (Int×Value)} (e:es.toList.map A0=ks):es.size=ks.length:=by rw[←e,List.length_map,Array.length_toList]
theorem Ev {h:Heap} {o:Obj} {es es':Array (Int×Value)} {ep:Nat} {t t':SetTable} (ho:h.get? a=some o) (hex:o.ExactSet) (hd:o.data= .set es ep t) (g:EGood es'.toList) (nd:(es'.toList.map A0).Nodup) (hl:es'.size<2000) (ok:TabOk (BB w) t') (hf:t'.fits es'.size=true) :
  (h.update a (Obj.putSet es' t')).get? a=some { o with data:=.set es' (ep+1) t' }∧SetIs w (h.update a (Obj.putSet es' t')) a (es'.toList.map A0):=by
 have hg:(h.update a (Obj.putSet es' t')).get? a=some { o with data:=.set es' (ep+1) t' }:=by
  have:=Heap.get?_update_self (Obj.putSet es' t') ho (by rw[putSet_of es' t' hd];rfl)
  rw[putSet_of es' t' hd] at this;exact this
 exact⟨hg,_,es',ep+1,t',hg,hex,rfl,g,rfl,nd,by rw[List.length_map,Array.length_toList];exact hl,ok,hf⟩
theorem Ck {n:Nat} (h:n<2000):n<scanBound:=by unfold scanBound;omega
theorem Kk {g:Bool→Sem Unit} (hg:∀(b:Bool) (s₁:Shared) (Q':Unit→Shared→Prop),Q' () s₁→wpAny (model prog w) A (g b) Q' E s₁)
  {o:Obj} {es es1:Array (Int×Value)} {ep:Nat} {t t2:SetTable} (ho:s.heap.get? a=some o) (hex:o.ExactSet) (hd:o.data= .set es ep t) (g1:EGood es1.toList) (nd:(es1.toList.map A0).Nodup) (hl:es1.size<2000) (ok:TabOk (BB w) t2) (hf:t2.fits es1.size=true) {wasDummy:Bool} {R:Option Bool→Shared→Prop}
  (h:∀h' ks',Heap.SameBut a s.heap h'→SetIs w h' a ks'→ks'.Perm (es1.toList.map A0)→R (some true) { s with heap:=h' }) :
  wpAny (model prog w) A (do
    storeSet a es1 t2
    if (!wasDummy && t2.tooFull)=true then do
      g (relayAll t2 es1 (SetTable.grown es1.size)).2.2
      storeSet a (relayAll t2 es1 (SetTable.grown es1.size)).1 (relayAll t2 es1 (SetTable.grown es1.size)).2.1
      pure (some true)
     else pure (some true)) R E s:=by
 refine wpAny_bind (wpAny_storeSet_of ho hd ?_ (fits_of_scanBound (Ck hl)))
 obtain⟨ho1,hS1⟩:=Ev (w:=w) ho hex hd g1 nd hl ok hf
 have hsb1:=Heap.SameBut.update s.heap a (Obj.putSet es1 t2)
 split
 ·have hp:=relayAll_perm t2 es1 (SetTable.grown es1.size)
  have hfr:=relayAll_fits t2 es1 (SetTable.grown es1.size)
  have okr:=ok.relayAll es1 (SetTable.grown es1.size)
  generalize hRl:relayAll t2 es1 (SetTable.grown es1.size)=Rl at hp hfr okr ⊢
  obtain⟨es2,t3,gave2⟩:=Rl
  dsimp only at hp hfr okr ⊢
  have hsz:es2.size=es1.size:=by rw[←Array.length_toList,hp.length_eq,Array.length_toList]
  have hb2:es2.size<2000:=by rw[hsz];exact hl
  have g2:EGood es2.toList:=fun e he=>g1 e (hp.mem_iff.mp he)
  refine wpAny_bind (hg _ _ _ ?_)
  refine wpAny_bind (wpAny_storeSet_of ho1 rfl ?_ (fits_of_scanBound (Ck hb2)))
  obtain⟨_,hS2⟩:=Ev (w:=w) ho1 hex rfl g2 ((hp.map A0).nodup_iff.mpr nd) hb2 okr hfr
  exact wpAny_pure (h _ _ (hsb1.trans (Heap.SameBut.update _ a _)) hS2 (hp.map A0))
 ·exact wpAny_pure (h _ _ hsb1 hS1 (List.Perm.refl _))
theorem FW {Q:Bool→Shared→Prop} (hS:SetIs w s.heap a ks) (hroom:ks.length+1<2000)
  (h:∀h' ks',Heap.SameBut a s.heap h'→SetIs w h' a ks'→(∀j,j∈ks'↔j∈ks∨j=k)→ks'.length≤ks.length+1→Q (!decide (k∈ks)) { s with heap:=h' }) :
  wpAny (model prog w) A (setAddHashed a (.int k tk) (hashInt k)) Q E s:=by
 obtain⟨o,es,ep,t,ho,hex,hd,hg,hk,nd,hl,ok,hf⟩:=id hS
 have hsz:=Dh hk
 have hkey:(intKind prog w).is k (.int k tk)=true:=intKind_is _ _ _ _
 unfold setAddHashed setAddHashedIn
 refine wpAny_holding (wpAny_bind (wpAny_setState_of ho hd hf ?_))
 dsimp only
 rw[byScan_of (knd:=intKind prog w) rfl (by rw[hsz];exact Ck hl) hg.elems]
 simp only[↓reduceIte]
 unfold setAddByScan
 refine wpAny_bind ?_
 refine wpAny_bind (wpAny_rule ?_)
 refine wpAny_bind (wpAny_setScan_of (knd:=intKind prog w) hkey ho hd hf hg.elems ?_)
 cases hr:List.findIdx? (fun e=>(intKind prog w).is k e.2) es.toList with
 | some j=>
  dsimp only
  obtain⟨hj,hpj,_⟩:=List.findIdx?_eq_some_iff_getElem.mp hr
  have hmem:k∈ks:=by
   rw[←hk,(hg.is (List.getElem_mem hj)).mp hpj]
   exact List.mem_map_of_mem (List.getElem_mem hj)
  refine wpAny_pure (wpAny_pure ?_)
  have e:s={ s with heap:=s.heap }:=by cases s;rfl
  have:=h s.heap ks (Heap.SameBut.refl a s.heap) hS (fun j=>⟨.inl,fun z=>z.elim id fun z=>z ▸ hmem⟩) (Nat.le_succ _)
  rw[decide_eq_true hmem] at this;rw[e];exact this
 | none=>
  dsimp only
  have hmem:k∉ks:=fun z=>by
   rw[←hk] at z
   obtain⟨e,he,rfl⟩:=List.mem_map.mp z
   have:=List.findIdx?_eq_none_iff.mp hr e he
   rw[(hg.is he).mpr rfl] at this
   cases this
  have hgw:∀(b:Bool) {s₁:Shared} {Q':Unit→Shared→Prop},Q' () s₁→wpAny (model prog w) A (match b with | true=>rule "set.scan.the-table-gave-way" | false=>pure ()) Q' E s₁:=
   fun b s₁ Q' hq=>by cases b<;>first | exact wpAny_pure hq | exact wpAny_rule hq
  have hperm:=layNew_perm t es (hashInt k) (.int k tk)
  have hfits:=layNew_fits t es (hashInt k) (.int k tk)
  have ok1:=ok.layNew es (hashInt k) (.int k tk)
  generalize hL:layNew t es (hashInt k) (.int k tk)=L at hperm hfits ok1
  have hL':layNew t es ((intKind prog w).hash k) (.int k tk)=L:=hL
  show wpAny (model prog w) A _ _ E s
  obtain⟨es1,t1,wasDummy,gave⟩:=L
  simp only[hL]
  dsimp only at hperm hfits ok1 ⊢
  rw[Array.toList_push] at hperm
  have hg1:EGood es1.toList:=fun e he=>by
   rcases List.mem_append.mp (hperm.mem_iff.mp he) with z | z
   ·exact hg e z
   ·rw[List.mem_singleton.mp z]
    exact⟨rfl,tk,rfl⟩
  have hpk:(es1.toList.map A0).Perm (ks++[k]):=by
   have:=hperm.map A0
   rw[List.map_append,hk] at this
   exact this
  have nd1:(es1.toList.map A0).Nodup:=hpk.nodup_iff.mpr (List.nodup_append.mpr ⟨nd,List.nodup_cons.mpr ⟨by simp,List.nodup_nil⟩,fun x hx y hy=>by rw[List.mem_singleton.mp hy];intro z;subst z;exact hmem hx⟩)
  have hl1:es1.size<2000:=by
   have:=hpk.length_eq
   rw[List.length_map,Array.length_toList,List.length_append] at this
   rw[this]
   exact hroom
  refine wpAny_bind (hgw _ ?_)
  have hend:∀h' ks',Heap.SameBut a s.heap h'→SetIs w h' a ks'→ks'.Perm (es1.toList.map A0)→Q true { s with heap:=h' }:=by
   intro h' ks' hsb hS' hp'
   have hq:=hp'.trans hpk
   have:=h h' ks' hsb hS' (fun j=>by rw[hq.mem_iff,List.mem_append,List.mem_singleton]) (by rw[hq.length_eq,List.length_append];exact Nat.le_refl _)
   rw[decide_eq_false hmem] at this
   exact this
  split
  ·refine wpAny_bind ?_
   rw[hashByValue_scannable 8 (x:=.int k tk) rfl]
   refine wpAny_pure ?_
   refine Kk ?_ ho hex hd hg1 nd1 hl1 ?_ ?_ ?_
   ·intro b s₁ Q' hq;cases b<;>first | exact wpAny_pure hq | exact wpAny_rule hq
   ·split
    ·exact ok1
    ·exact ok1.plain_off
   ·split
    ·exact hfits
    ·exact SetTable.fits_plain_off hfits
   ·intro h' ks' hsb hS' hp';dsimp only;exact wpAny_pure (hend h' ks' hsb hS' hp')
  ·refine wpAny_bind (wpAny_pure ?_)
   simp only[↓reduceIte]
   refine Kk ?_ ho hex hd hg1 nd1 hl1 ok1 hfits ?_
   ·intro b s₁ Q' hq;cases b<;>first | exact wpAny_pure hq | exact wpAny_rule hq
   ·intro h' ks' hsb hS' hp';dsimp only;exact wpAny_pure (hend h' ks' hsb hS' hp')
end
end L2
namespace L2
open PySem PySem.Spec PyProof.Rows
abbrev Bg (w:World):Obj:={ cls:=.type "set",dict:=none,data:=.set #[] 0 (.fresh 0 0 (!BB w)) }
theorem set0_is {w:World} {h:Heap}:SetIs w (h.push (Bg w)) h.objs.size []:=
 ⟨_,#[],0,_,Heap.get?_push_size _ rfl,⟨rfl,rfl,rfl⟩,rfl,fun e he=>absurd he (by simp),rfl,List.nodup_nil,by decide,TabOk.fresh _ _ rfl,rfl⟩
section
variable {prog:Program} {w:World} {A:Around} {E:Value→Shared→Prop} {s:Shared} {a:Addr} {ks:List Int} {k:Int} {tk:Tok}
theorem SetIs.typeIs (hS:SetIs w s.heap a ks):s.TypeIs (.ref a) "set":=let ⟨o,_,_,_,ho,hc,_⟩:=hS;⟨o,ho,hc.1⟩
theorem SetIs.noDict (hS:SetIs w s.heap a ks):∀b,Value.ref a= .ref b→∃ob,s.heap.get? b=some ob∧ob.dict=none:=
 fun b e=>by injection e with e;subst e;exact let ⟨o,_,_,_,ho,hc,_⟩:=hS;⟨o,ho,hc.2.1⟩
theorem SetIt.typeIs (hS:SetIt w s.heap a ks):s.TypeIs (.ref a) "set":=let ⟨o,_,_,_,ho,hc,_⟩:=hS;⟨o,ho,hc.1⟩
theorem KA {vs:List Value} (hv:vs=[]∨∃x,vs=[x]) {Q₁:Value→Shared→Prop}
  (h:Q₁ (.ref s.heap.objs.size) { s with heap:=s.heap.push (Bg w) }) :
  codeAny (model prog w) A (.call (.builtin "set.__new__") ⟨.type "set"::vs,[]⟩) (wants Q₁ E) s:=by
 have hn:checkBuiltinCall "set.__new__" ⟨.type "set"::vs,[]⟩=pure ():=by
  rcases hv with rfl | ⟨x,rfl⟩
  ·exact F.newCall_set_0
  ·exact F.newCall_set_1 x
 refine codeAny_of_tree ?_
 show wpAny _ A.in1 (do checkBuiltinCall "set.__new__" ⟨.type "set"::vs,[]⟩;again (.builtin "set.__new__" ⟨.type "set"::vs,[]⟩)) _ _ s
 refine wpAny_bind (wpAny_of_eq hn (wpAny_pure ⟨plainId_quiet F.plain_set_new _,codeAny_builtin F.entry_set_new ?_⟩))
 rw[Around.under_plainId F.plain_set_new _]
 have hsub:=sub_set_self
 obtain⟨hp,g,d,tk,os⟩:=s
 rcases hv with rfl | ⟨x,rfl⟩
 all_goals
  unfold Builtin.«set.__new__» Builtin.Frozenset.newClass
  dsimp only
  wp_walk
  refine wpAny_askSetting (wpAny_pure ?_)
  dsimp only
  simp only[newObj]
  refine wpAny_bind (wpAny_alloc (wpAny_pure ?_))
  exact wpAny_pure h
set_option maxHeartbeats 1000000 in
theorem P9 {Q:Value→Shared→Prop} (h:Q (.ref s.heap.objs.size) { s with heap:=s.heap.push (Bg w) }):wpAny (model prog w) A (call (.type "set") []) Q E s:=by
 obtain⟨c,tl,hmro⟩:=F.called_set.mro
 have hmade:=F.called_set.made
 have hsub:=F.called_set.sub
 refine wpAny_call (codeAny_of_tree ?_)
 show wpAny _ _ (callAny (.type "set") _) _ _ _
 refine wpAny_pure ⟨Code.quiet_builtin _ (by decide +kernel),codeAny_builtin F.entry_type_call ?_⟩
 rw[Around.under_plain (weight_type_call_type "set" [] []) rfl]
 have h1:=F.called_set.notType
 have h2:=F.called_set.canCreate
 have hct:=F.typeCall_set_0
 repeat (any_goals (first | assumption | wp_step))
 refine codeAny_mono (KA (E:=E) (.inl rfl) (Q₁:=fun obj s₁=>obj= .ref s.heap.objs.size∧s₁={ s with heap:=s.heap.push (Bg w) }) ⟨rfl,rfl⟩) fun r s₁ hr=>?_
 cases r with
 | error e=>exact hr
 | ok fl=>
  cases fl with
  | ret obj=>
   obtain⟨rfl,rfl⟩:=hr
   have hS:(s.heap.push (Bg w)).get? s.heap.objs.size=some (Bg w):=Heap.get?_push_size _ rfl
   have hT:Shared.TypeIs { s with heap:=s.heap.push (Bg w) } (.ref s.heap.objs.size) "set":=⟨_,hS,rfl⟩
   have hli:=F.called_set.init.lookup
   have hbi:=F.called_set.init.bind (.ref s.heap.objs.size)
   repeat (any_goals (first | assumption | wp_step))
   refine codeAny_mono (codeAny_call_builtin (R:=wants (fun r s₂=>r= .none∧Q (.ref s.heap.objs.size) s₂) E) F.called_set.init.plain F.entry_set_init (check_set_init hT ?_)) fun r₂ s₂ hr₂=>?_
   ·unfold Builtin.«set.__init__» noKeywords
    wp_walk
    exact⟨rfl,h⟩
   ·cases r₂ with
    | error e=>exact hr₂
    | ok fl₂=>
     cases fl₂ with
     | ret r=>
      obtain⟨rfl,hQ⟩:=hr₂
      repeat (any_goals (first | assumption | wp_step))
     | _=>exact hr₂.elim
  | _=>exact hr.elim
theorem Jz {Q:Value→Shared→Prop} (hS:SetIs w s.heap a ks) (hroom:ks.length+1<2000)
  (h:∀h' ks',Heap.SameBut a s.heap h'→SetIs w h' a ks'→(∀j,j∈ks'↔j∈ks∨j=k)→ks'.length≤ks.length+1→Q .none { s with heap:=h',toks:=s.toks+1 }) :
  wpAny (model prog w) A (call (.builtin "set.add") [.ref a,.int k tk]) Q E s:=by
 refine wpAny_call_entry F.slot_set_add hS.typeIs F.entry_set_add ?_ (F.args_set_add_2 _ _)
 unfold Builtin.«set.add» Builtin.Frozenset.oneOther
 simp only[List.isEmpty_nil,bind_assoc]
 unfold Builtin.Frozenset.addrOf setAdd
 refine wpAny_bind (wpAny_pure ?_)
 try dsimp only
 refine wpAny_bind (wpAny_pure ?_)
 try dsimp only
 refine wpAny_bind ?_
 refine wpAny_holding ?_
 refine wpAny_bind ((intKind prog w).pyHash (k:=k) (intKind_is _ _ _ _) ?_)
 refine FW (s:={ s with toks:=s.toks+1 }) hS hroom fun h' ks' hsb hS' hm hl=>?_
 show wpAny _ _ (ret Value.none) _ _ _
 exact wpAny_pure ⟨_,rfl,h h' ks' hsb hS' hm hl⟩
end
end L2
namespace L2
open PySem PySem.Spec PyProof.Rows
theorem slot_setit_next:Slot "set_iterator" "__next__" "set_iterator.__next__":=
 .of (owner:="set_iterator") (n:="__next__") (by rw[typeLookup_type,builtinLookup_eq_fast];kernel_rfl) (by decide +kernel) (by decide +kernel) (by decide +kernel)
  (by first | exact .inl (by decide +kernel) | exact .inr (by decide +kernel)) (by rw[isSubtype_type];kernel_rfl)
theorem C0:entryFor table "set_iterator.__next__"=some Builtin.«set_iterator.__next__»:=entryFor_of_tree (by kernel_rfl)
theorem Dr (a:Value):argsOk "set_iterator.__next__" ⟨[a],[]⟩:=by unfold argsOk;kernel_rfl
theorem GG:entryFor table "set.__iter__"=some Builtin.«frozenset.__iter__»:=entryFor_alias (id':="frozenset.__iter__") (by kernel_rfl) rfl (by decide +kernel) (by kernel_rfl)
theorem Dt:Slot "set_iterator" "__iter__" "set_iterator.__iter__":=
 .of (owner:="set_iterator") (n:="__iter__") (by rw[typeLookup_type,builtinLookup_eq_fast];kernel_rfl) (by decide +kernel) (by decide +kernel) (by decide +kernel)
  (by first | exact .inl (by decide +kernel) | exact .inr (by decide +kernel)) (by rw[isSubtype_type];kernel_rfl)
theorem Fr:entryFor table "set_iterator.__iter__"=some Builtin.«dict_keyiterator.__iter__»:=entryFor_alias (id':="dict_keyiterator.__iter__") (by kernel_rfl) rfl (by decide +kernel) (by kernel_rfl)
theorem FO (a:Value):argsOk "set_iterator.__iter__" ⟨[a],[]⟩:=by unfold argsOk;kernel_rfl
theorem slot_set_len':Slot "set" "__len__" "set.__len__":=
 .of (owner:="set") (n:="__len__") (by rw[typeLookup_type,builtinLookup_eq_fast];kernel_rfl) (by decide +kernel) (by decide +kernel) (by decide +kernel)
  (by first | exact .inl (by decide +kernel) | exact .inr (by decide +kernel)) (by rw[isSubtype_type];kernel_rfl)
end L2
namespace L2
open PySem PySem.Spec PyProof.Rows
inductive NJ (w:World) (a:Addr) (es:Array (Int×Value)) (ep:Nat) (t:SetTable) (h:Heap):(Nat→Value)→List Value→Prop where
 | text:BB w=true→NJ w a es ep t h (fun _=>rawInt 0) ((pickOrder (w.params.setOrder a ep) es).toList.map (·.2))
 | led:BB w=false→(!t.plain && decide (es.size>1))=false→NJ w a es ep t h (fun i=>rawInt (((if i=0 then 0 else t.place.getD (i-1) 0+1:Nat)):Int)) (es.toList.map (·.2))
 | drw (T:Addr) (o:Obj) (c:Nat) (ps:List Nat):BB w=false→h.get? T=some o→o.data= .seq (ps.map fun (i:Nat)=>rawInt i).toArray c→(∀p∈ps,p<es.size)→NJ w a es ep t h (fun _=>.ref T) (ps.map fun p=>(es.getD p (0,.none)).2)
def ItAt (h:Heap) (it a:Addr) (first:Value) (i n ep:Nat):Prop:=∃o,h.get? it=some o∧o.cls= .type "set_iterator"∧o.data= .fields #[first,rawInt i,.ref a,rawInt n,rawInt ep]
theorem ItAt.typeIs {s:Shared} {it a:Addr} {first:Value} {i n ep:Nat} (x:ItAt s.heap it a first i n ep):s.TypeIs (.ref it) "set_iterator":=let ⟨o,ho,hc,_⟩:=x;⟨o,ho,hc⟩
section
variable {prog:Program} {w:World} {A:Around} {E:Value→Shared→Prop} {s:Shared} {a it:Addr} {o:Obj} {es:Array (Int×Value)} {ep i:Nat} {t:SetTable} {fst:Nat→Value} {ord:List Value}
theorem Mp {h:Heap} {first f2:Value} {n:Nat} (x:ItAt h it a first i n ep):ItAt ((h.update it (Obj.mapFields (·.setIfInBounds 0 f2))).update it (Obj.mapFields (·.setIfInBounds 1 (rawInt ((i:Int)+1))))) it a f2 (i+1) n ep:=by
 obtain⟨o,ho,hc,hd⟩:=x
 have h1:=Heap.get?_update_self (Obj.mapFields (·.setIfInBounds 0 f2)) ho (Obj.isFreed_of_fields (Obj.data_mapFields hd _))
 have hd1:=Obj.data_mapFields hd (·.setIfInBounds 0 f2)
 refine⟨_,Heap.get?_update_self _ h1 (Obj.isFreed_of_fields (Obj.data_mapFields hd1 _)),(Obj.cls_mapFields ..).trans ((Obj.cls_mapFields ..).trans hc),?_⟩
 rw[Obj.data_mapFields hd1]
 simp
theorem SK {h:Heap} {first:Value} {n:Nat} (x:ItAt h it a first i n ep):ItAt (h.update it (Obj.mapFields (·.setIfInBounds 1 (rawInt ((i:Int)+1))))) it a first (i+1) n ep:=by
 obtain⟨o,ho,hc,hd⟩:=x
 refine⟨_,Heap.get?_update_self _ ho (Obj.isFreed_of_fields (Obj.data_mapFields hd _)),(Obj.cls_mapFields ..).trans hc,?_⟩
 rw[Obj.data_mapFields hd]
 simp
theorem Kt {Q:Option (Value×Nat)→Shared→Prop} {slot:Nat} (ho:s.heap.get? a=some o) (hd:o.data= .set es ep t) (ok:FI (BB w) t) (hf:t.fits es.size=true) (hb:BB w=false) (hn:(!t.plain && decide (es.size>1))=false)
  (hs:slot=if i=0 then 0 else t.place.getD (i-1) 0+1) (hi:i≤es.size) (q:Q (match es[i]?,t.place[i]? with | some (_,x),some j=>some (x,j+1) | _,_=>none) s):wpAny (model prog w) A (setNext a slot i ep) Q E s:=by
 have hpl:t.place.size=es.size:=by
  unfold SetTable.fits at hf
  exact beq_iff_eq.mp (Bool.and_eq_true_iff.mp hf).1
 have hbel:SetTable.below t.place slot=i:=by
  rw[hs]
  split
  ·rename_i e;rw[e];exact KY ok.up
  ·rename_i e
   have h1:i-1<t.place.size:=by omega
   have eg:=Array.getElem?_eq_getElem h1
   have ed:t.place.getD (i-1) 0=t.place[i-1]:=by simp[Array.getD,h1]
   rw[ed,LD ok.up eg]
   omega
 unfold setNext setsByText
 refine wpAny_bind (wpAny_setState_of ho hd hf ?_)
 dsimp only
 refine wpAny_bind (wpAny_bind (wpAny_askSetting (wpAny_pure ?_)))
 show wpAny _ _ (if BB w=true then _ else _) _ _ _
 rw[hb,if_neg Bool.false_ne_true]
 show wpAny _ _ (if (!t.plain && decide (es.size>1))=true then _ else _) _ _ _
 rw[hn,if_neg Bool.false_ne_true]
 refine wpAny_bind ?_
 show wpAny _ _ (if (!t.led && !es.isEmpty)=true then _ else _) _ _ _
 rw[ok.led,hb,if_neg (by simp)]
 refine wpAny_pure ?_
 rw[hbel]
 exact wpAny_pure q
theorem Iv {Q:Option (Value×Nat)→Shared→Prop} {slot:Nat} (ho:s.heap.get? a=some o) (hd:o.data= .set es ep t) (hf:t.fits es.size=true) (hb:BB w=true)
  (q:Q (((pickOrder (w.params.setOrder a ep) es)[i]?).map fun e=>(e.2,slot)) s):wpAny (model prog w) A (setNext a slot i ep) Q E s:=by
 unfold setNext setsByText
 refine wpAny_bind (wpAny_setState_of ho hd hf ?_)
 dsimp only
 refine wpAny_bind (wpAny_bind (wpAny_askSetting (wpAny_pure ?_)))
 show wpAny _ _ (if BB w=true then _ else _) _ _ _
 rw[hb,if_pos rfl]
 show wpAny _ _ (if (ep != ep)=true then _ else _) _ _ _
 rw[if_neg (by simp)]
 refine wpAny_bind ?_
 unfold setWalk setsByText
 refine wpAny_bind (wpAny_setState_of ho hd hf ?_)
 dsimp only
 refine wpAny_bind (wpAny_bind (wpAny_askSetting (wpAny_pure ?_)))
 show wpAny _ _ (if BB w=true then _ else _) _ _ _
 rw[hb,if_pos rfl]
 refine wpAny_bind (wpAny_askSetting ?_)
 exact wpAny_pure (wpAny_pure q)
theorem Nu {Q:Value→Shared→Prop} {p:Nat} {e:Int×Value} (ho:s.heap.get? a=some o) (hd:o.data= .set es ep t) (hf:t.fits es.size=true) (hp:es[p]? = some e) (q:Q e.2 s):wpAny (model prog w) A (setNextDrawn a p ep) Q E s:=by
 unfold setNextDrawn
 refine wpAny_bind (wpAny_setState_of ho hd hf ?_)
 dsimp only
 show wpAny _ _ (if (ep != ep)=true then _ else _) _ _ _
 rw[if_neg (by simp)]
 simp only[hp]
 exact wpAny_pure q
theorem NA {x:Value} {Q:Option Value→Shared→Prop} (hit:ItAt s.heap it a (fst i) i es.size ep) (ho:s.heap.get? a=some o) (hd:o.data= .set es ep t) (ok:FI (BB w) t) (hf:t.fits es.size=true) (M:NJ w a es ep t s.heap fst ord) (hx:ord[i]? = some x) (hl:ord.length=es.size)
  (hQ:∀h',ItAt h' it a (fst (i+1)) (i+1) es.size ep→Heap.SameBut it s.heap h'→Q (some x) { s with heap:=h' }):wpAny (model prog w) A (pyNext (.ref it)) Q E s:=by
 obtain⟨oi,hoi,hci,hdi⟩:=id hit
 have hix:i<es.size:=by rw[←hl];exact (List.getElem?_eq_some_iff.mp hx).1
 unfold pyNext
 refine wpAny_bind (wpAny_attempt (wpAny_callSpecial?_slot (name:=Str.ofString "__next__") hit.typeIs slot_setit_next
  (wpAny_call_entry slot_setit_next hit.typeIs C0 ?_ (Dr _))))
 show wpAny _ _ (fieldsOf (.ref it) >>= _) _ _ s
 refine wpAny_bind (wpAny_fieldsOf hoi hdi ?_)
 show wpAny _ _ (setEntries a >>= _) _ _ s
 refine wpAny_bind (wpAny_setEntries_of ho hd hf ?_)
 show wpAny _ _ (if (((es.size:Nat):Int) != ((es.size:Nat):Int))=true then _ else _) _ _ _
 rw[if_neg (by simp)]
 have hd1:=fun f2:Value=>Obj.data_mapFields hdi (·.setIfInBounds 0 f2)
 have ho1:=fun f2:Value=>Heap.get?_update_self (Obj.mapFields (·.setIfInBounds 0 f2)) hoi (Obj.isFreed_of_fields (hd1 f2))
 cases M with
 | text hb=>
  rw[List.getElem?_map] at hx
  obtain⟨e,he,rfl⟩:=Option.map_eq_some_iff.mp hx
  have he':(pickOrder (w.params.setOrder a ep) es)[i]? = some e:=by simpa using he
  refine wpAny_bind (Iv (i:=i) (ep:=ep) ho hd hf hb ?_)
  rw[he']
  refine wpAny_bind (wpAny_setField hoi hdi (by simp) ?_)
  refine wpAny_bind (wpAny_setField (ho1 _) (hd1 _) (by simp) (wpAny_pure ⟨e.2,rfl,wpAny_pure (hQ _ (Mp hit) ((Heap.SameBut.update ..).trans (Heap.SameBut.update ..)))⟩))
 | led hb hn=>
  rw[List.getElem?_map] at hx
  obtain⟨e,he,rfl⟩:=Option.map_eq_some_iff.mp hx
  have he':es[i]? = some e:=by simpa using he
  have hpl:t.place.size=es.size:=by
   unfold SetTable.fits at hf
   exact beq_iff_eq.mp (Bool.and_eq_true_iff.mp hf).1
  have hp1:i<t.place.size:=by omega
  have hp:t.place[i]? = some t.place[i]:=Array.getElem?_eq_getElem hp1
  have ed:t.place.getD i 0=t.place[i]:=by simp[Array.getD,hp1]
  refine wpAny_bind (Kt (i:=i) (ep:=ep) ho hd ok hf hb hn rfl (Nat.le_of_lt hix) ?_)
  rw[he',hp]
  refine wpAny_bind (wpAny_setField hoi hdi (by simp) ?_)
  refine wpAny_bind (wpAny_setField (ho1 _) (hd1 _) (by simp) (wpAny_pure ⟨e.2,rfl,wpAny_pure (hQ _ ?_ ((Heap.SameBut.update ..).trans (Heap.SameBut.update ..)))⟩))
  have e2:rawInt (((if i+1=0 then 0 else t.place.getD (i+1-1) 0+1:Nat)):Int)=rawInt ((t.place[i]+1:Nat):Int):=by rw[if_neg (by omega),Nat.add_sub_cancel,ed]
  show ItAt _ it a (rawInt (((if i+1=0 then 0 else t.place.getD (i+1-1) 0+1:Nat)):Int)) (i+1) es.size ep
  rw[e2]
  exact Mp hit
 | drw T oT c ps hb hT hdT hps=>
  rw[List.getElem?_map] at hx
  obtain⟨p,hp,rfl⟩:=Option.map_eq_some_iff.mp hx
  have hpe:p<es.size:=hps p (List.mem_of_getElem? hp)
  have ee:es[p]? = some es[p]:=Array.getElem?_eq_getElem hpe
  have ed:es.getD p (0,.none)=es[p]:=by simp[Array.getD,hpe]
  show wpAny _ _ (seqItems? (.ref T) >>= _) _ _ _
  refine wpAny_bind (wpAny_seqItems hT hdT ?_)
  have hpi:((ps.map fun (i:Nat)=>rawInt i).toArray)[i]? = some (rawInt p):=by simp[hp]
  simp only[Int.toNat_natCast,hpi]
  refine wpAny_bind (Nu (p:=p) ho hd hf ee ?_)
  refine wpAny_bind (wpAny_setField hoi hdi (by simp) (wpAny_pure ⟨_,rfl,wpAny_pure ?_⟩))
  rw[ed] at hQ
  exact hQ _ (SK hit) (Heap.SameBut.update ..)
theorem PN {Q:Option Value→Shared→Prop} (hh:A.handled=none) (hit:ItAt s.heap it a (fst es.size) es.size es.size ep) (ho:s.heap.get? a=some o) (hd:o.data= .set es ep t) (ok:FI (BB w) t) (hf:t.fits es.size=true) (M:NJ w a es ep t s.heap fst ord) (hl:ord.length=es.size)
  (hQ:∀h',Heap.ExtBut it s.heap h'→Q none { s with heap:=h' }):wpAny (model prog w) A (pyNext (.ref it)) Q E s:=by
 obtain⟨oi,hoi,hci,hdi⟩:=id hit
 unfold pyNext
 refine wpAny_bind (wpAny_attempt (wpAny_callSpecial?_slot (name:=Str.ofString "__next__") hit.typeIs slot_setit_next
  (wpAny_call_entry slot_setit_next hit.typeIs C0 ?_ (Dr _))))
 show wpAny _ _ (fieldsOf (.ref it) >>= _) _ _ s
 refine wpAny_bind (wpAny_fieldsOf hoi hdi ?_)
 show wpAny _ _ (setEntries a >>= _) _ _ s
 refine wpAny_bind (wpAny_setEntries_of ho hd hf ?_)
 show wpAny _ _ (if (((es.size:Nat):Int) != ((es.size:Nat):Int))=true then _ else _) _ _ _
 rw[if_neg (by simp)]
 have hd1:=fun f2:Value=>Obj.data_mapFields hdi (·.setIfInBounds 0 f2)
 have ho1:=fun f2:Value=>Heap.get?_update_self (Obj.mapFields (·.setIfInBounds 0 f2)) hoi (Obj.isFreed_of_fields (hd1 f2))
 cases M with
 | text hb=>
  have he':(pickOrder (w.params.setOrder a ep) es)[es.size]? = none:=by
   rw[List.length_map,Array.length_toList] at hl
   simp[hl]
  refine wpAny_bind (Iv (i:=es.size) (ep:=ep) ho hd hf hb ?_)
  rw[he']
  refine wpAny_bind (wpAny_setField hoi hdi (by simp) ?_)
  refine wpAny_bind ?_
  simp only[newExc,newTuple]
  refine wpAny_bind (wpAny_newObj_type ?_ (by size_fits))
  refine wpAny_bind (m:=firstArgMember _ _) (wpAny_of_eq (a:=Value.none) (by first | rfl | (simp only[firstArgMember];rfl)) ?_)
  refine wpAny_newObj_type ?_ (by size_fits)
  simp only[raiseNew]
  refine wpAny_bind (wpAny_handled ?_)
  rw[show A.in1.handled=none from hh]
  refine wpAny_bind (wpAny_pure (wpAny_throw ?_))
  refine wpAny_bind (wpAny_isInstance (T:="StopIteration") (b:=true) ⟨_,Heap.get?_push_size _ rfl,rfl⟩ isSubtype_stop ?_)
  exact wpAny_pure (hQ _ (((Heap.SameBut.update ..).extBut.push _).push _))
 | led hb hn=>
  have he':es[es.size]? = none:=by simp
  refine wpAny_bind (Kt (i:=es.size) (ep:=ep) ho hd ok hf hb hn rfl (Nat.le_refl _) ?_)
  rw[he']
  refine wpAny_bind (wpAny_setField hoi hdi (by simp) ?_)
  refine wpAny_bind ?_
  simp only[newExc,newTuple]
  refine wpAny_bind (wpAny_newObj_type ?_ (by size_fits))
  refine wpAny_bind (m:=firstArgMember _ _) (wpAny_of_eq (a:=Value.none) (by first | rfl | (simp only[firstArgMember];rfl)) ?_)
  refine wpAny_newObj_type ?_ (by size_fits)
  simp only[raiseNew]
  refine wpAny_bind (wpAny_handled ?_)
  rw[show A.in1.handled=none from hh]
  refine wpAny_bind (wpAny_pure (wpAny_throw ?_))
  refine wpAny_bind (wpAny_isInstance (T:="StopIteration") (b:=true) ⟨_,Heap.get?_push_size _ rfl,rfl⟩ isSubtype_stop ?_)
  exact wpAny_pure (hQ _ (((Heap.SameBut.update ..).extBut.push _).push _))
 | drw T oT c ps hb hT hdT hps=>
  rw[List.length_map] at hl
  show wpAny _ _ (seqItems? (.ref T) >>= _) _ _ _
  refine wpAny_bind (wpAny_seqItems hT hdT ?_)
  have hpi:((ps.map fun (i:Nat)=>rawInt i).toArray)[es.size]? = none:=by simp[hl]
  simp only[Int.toNat_natCast,hpi]
  refine wpAny_bind (wpAny_setField hoi hdi (by simp) ?_)
  refine wpAny_bind (wpAny_setField (ho1 _) (hd1 _) (by simp) ?_)
  refine wpAny_bind ?_
  simp only[newExc,newTuple]
  refine wpAny_bind (wpAny_newObj_type ?_ (by size_fits))
  refine wpAny_bind (m:=firstArgMember _ _) (wpAny_of_eq (a:=Value.none) (by first | rfl | (simp only[firstArgMember];rfl)) ?_)
  refine wpAny_newObj_type ?_ (by size_fits)
  simp only[raiseNew]
  refine wpAny_bind (wpAny_handled ?_)
  rw[show A.in1.handled=none from hh]
  refine wpAny_bind (wpAny_pure (wpAny_throw ?_))
  refine wpAny_bind (wpAny_isInstance (T:="StopIteration") (b:=true) ⟨_,Heap.get?_push_size _ rfl,rfl⟩ isSubtype_stop ?_)
  exact wpAny_pure (hQ _ ((((Heap.SameBut.update ..).trans (Heap.SameBut.update ..)).extBut.push _).push _))
end
end L2
namespace L2
open PySem PySem.Spec PyProof.Rows
theorem Dl {α:Type}:∀(l:List α) (i:Nat) (h:i<l.length),(l[i]::l.eraseIdx i).Perm l
 | x::xs,0,_=>List.Perm.refl _
 | x::xs,i+1,h=>by
  have h':i<xs.length:=Nat.lt_of_succ_lt_succ h
  exact (List.Perm.swap x xs[i] (xs.eraseIdx i)).trans (List.Perm.cons x (Dl xs i h'))
theorem Iu {α:Type} (next:Nat→Nat):∀(fuel k:Nat) (left:List α) (out:Array α),fuel=left.length→(pickOrder.go next fuel k left out).toList.Perm (out.toList++left)
 | 0,_,left,out,h=>by
  have e:left=[]:=List.length_eq_zero_iff.mp h.symm
  subst e
  unfold pickOrder.go
  simp
 | fuel+1,k,left,out,h=>by
  unfold pickOrder.go
  have hp:0<left.length:=by omega
  have hi:next k%left.length<left.length:=Nat.mod_lt _ hp
  rw[List.getElem?_eq_getElem hi]
  have hl:fuel=(left.eraseIdx (next k%left.length)).length:=by rw[List.length_eraseIdx,if_pos hi];omega
  refine (Iu next fuel (k+1) _ _ hl).trans ?_
  rw[Array.toList_push,List.append_assoc]
  exact List.Perm.append_left _ (Dl _ _ hi)
theorem Dy {α:Type} (next:Nat→Nat) (xs:Array α):(pickOrder next xs).toList.Perm xs.toList:=by
 unfold pickOrder
 have:=Iu next xs.size 0 xs.toList #[] (Array.length_toList).symm
 simpa using this
section
variable {prog:Program} {w:World} {A:Around} {E:Value→Shared→Prop} {s:Shared} {a it T0:Addr} {o oT:Obj} {es:Array (Int×Value)} {ep i:Nat} {t:SetTable} {fst:Nat→Value} {ord:List Value} {ks:List Int}
theorem IL {M:Model} {src:Source} {n:Nat} {Q:Nat→Shared→Prop} (hn:n≠0) (h:∀i,i<n→Q i { s with drawn:=s.drawn.bump src }):wpAny M A (choose src n) Q E s:=
 fun Γ p _=>⟨hn,h _ (Nat.mod_lt _ (Nat.pos_of_ne_zero hn))⟩
theorem Lp {α:Type} {M:Model}:∀(n:Nat) (xs:List α) (s:Shared) (Q:List α→Shared→Prop),xs.length=n→(∀ys d',ys.Perm xs→Q ys { s with drawn:=d' })→wpAny M A (drawOrder n xs) Q E s:=by
 intro n
 induction n with
 | zero=>
  intro xs s Q h q
  have e:xs=[]:=List.length_eq_zero_iff.mp h
  subst e
  exact wpAny_pure (q [] s.drawn (List.Perm.refl _))
 | succ n ih=>
  intro xs s Q h q
  cases xs with
  | nil=>exact absurd h (Nat.succ_ne_zero n).symm
  | cons x xs=>
   unfold drawOrder
   refine wpAny_bind (IL (by simp) fun i hi=>?_)
   rw[List.getElem?_eq_getElem hi]
   have hl:((x::xs).eraseIdx i).length=n:=by rw[List.length_eraseIdx,if_pos hi,h];rfl
   refine wpAny_bind (ih _ _ _ hl fun ys d' hp=>?_)
   exact wpAny_pure (q _ d' ((List.Perm.cons _ hp).trans (Dl _ _ hi)))
structure US (w:World) (s:Shared) (a:Addr) (ks:List Int) (h':Heap) (it T0:Addr) (o oT:Obj) (es:Array (Int×Value)) (ep:Nat) (t:SetTable) (fst:Nat→Value) (ord:List Value):Prop where
 lo:s.heap.objs.size≤it
 kk:∀b o,s.heap.get? b=some o→h'.get? b=some o
 at':ItAt h' it a (fst 0) 0 es.size ep
 ho:h'.get? a=some o
 hd:o.data= .set es ep t
 ok:FI (BB w) t
 hf:t.fits es.size=true
 hT:h'.get? T0=some oT
 ne:T0≠it
 md:∀h'',h''.get? T0=some oT→NJ w a es ep t h'' fst ord
 pm:ord.Perm (es.toList.map (·.2))
 eg:EGood es.toList
 ek:es.toList.map A0=ks
 tl:T0=a∨s.heap.objs.size≤T0
theorem PJ {Q:Value→Shared→Prop} (hS:SetIt w s.heap a ks) (hQ:∀h' d' it T0 o oT es ep t fst ord,US w s a ks h' it T0 o oT es ep t fst ord→Q (.ref it) { s with heap:=h',drawn:=d' }):wpAny (model prog w) A (pyIter (.ref a)) Q E s:=by
 obtain⟨o,es,ep,t,ho,hex,hd,hg,hk,nd,hl,ok,hf⟩:=id hS
 have hna:a<s.heap.objs.size:=Heap.lt_size ho
 refine wpAny_pyIter_slot hS.typeIs PySem.F.slot_set_iter (wpAny_call_entry PySem.F.slot_set_iter hS.typeIs GG ?_ (PySem.F.args_set_iter_1 _))
 show wpAny _ _ (Builtin.Frozenset.sizeOf a >>= _) _ _ s
 refine wpAny_bind ?_
 unfold Builtin.Frozenset.sizeOf
 refine wpAny_bind (wpAny_setEntries_of ho hd hf (wpAny_pure ?_))
 refine wpAny_bind ?_
 unfold setDrawn setsByText
 refine wpAny_bind (wpAny_setState_of ho hd hf ?_)
 dsimp only
 refine wpAny_bind (wpAny_bind (wpAny_askSetting (wpAny_pure (wpAny_pure ?_))))
 show wpAny _ _ (if (!BB w && (!t.plain && decide (es.size>1)))=true then _ else _) _ _ _
 by_cases hdr:(!BB w && (!t.plain && decide (es.size>1)))=true
 ·rw[if_pos hdr]
  have hb:BB w=false:=by
   cases q:BB w with
   | false=>rfl
   | true=>rw[q] at hdr;cases hdr
  refine wpAny_bind (Lp _ _ _ _ (List.length_range) fun ps d' hp=>?_)
  refine wpAny_bind (wpAny_newTuple ?_ (by rw[List.length_map,hp.length_eq,List.length_range,Dh hk];exact Nat.le_of_lt (Nat.lt_trans hl (by decide))))
  have kk:∀b ob,s.heap.get? b=some ob→(s.heap.push { cls:=.type "tuple",data:=.seq (ps.map fun (i:Nat)=>rawInt i).toArray }).get? b=some ob:=fun b ob e=>Heap.get?_push_of_some _ e
  refine wpAny_bind ?_
  unfold setEpoch
  refine wpAny_bind (wpAny_setState_of (kk _ _ ho) hd hf (wpAny_pure ?_))
  refine wpAny_bind (wpAny_newObj_type (wpAny_pure ⟨_,rfl,"set_iterator",_,⟨_,Heap.get?_push_size _ rfl,rfl⟩,slot_setit_next.lookup,?_⟩))
  refine hQ _ d' _ s.heap.objs.size o _ es ep t (fun _=>.ref s.heap.objs.size) _ ⟨?_,fun b ob e=>Heap.get?_push_of_some _ (kk b ob e),⟨_,Heap.get?_push_size _ rfl,rfl,rfl⟩,Heap.get?_push_of_some _ (kk _ _ ho),hd,ok,hf,Heap.get?_push_of_some _ (Heap.get?_push_size _ rfl),?_,fun h'' e=>.drw _ _ _ ps hb e rfl ?_,?_,hg,hk,.inr (Nat.le_refl _)⟩
  ·rw[Heap.size_push];exact Nat.le_succ _
  ·rw[Heap.size_push];exact Nat.ne_of_lt (Nat.lt_succ_self _)
  ·exact fun p hp'=>List.mem_range.mp (hp.mem_iff.mp hp')
  ·refine (hp.map _).trans ?_
   have e:(List.range es.size).map (fun p=>(es.getD p (0,.none)).2)=es.toList.map (·.2):=by
    refine List.ext_getElem (by simp) fun n h1 h2=>?_
    have hn:n<es.size:=by simpa using h1
    simp[Array.getD,hn]
   rw[e]
 ·rw[if_neg hdr]
  refine wpAny_bind (wpAny_pure ?_)
  refine wpAny_bind ?_
  unfold setEpoch
  refine wpAny_bind (wpAny_setState_of ho hd hf (wpAny_pure ?_))
  refine wpAny_bind (wpAny_newObj_type (wpAny_pure ⟨_,rfl,"set_iterator",_,⟨_,Heap.get?_push_size _ rfl,rfl⟩,slot_setit_next.lookup,?_⟩))
  have kk:∀b ob,s.heap.get? b=some ob→(s.heap.push { cls:=.type "set_iterator",data:=.fields #[rawInt 0,rawInt 0,.ref a,rawInt es.size,rawInt ep] }).get? b=some ob:=fun b ob e=>Heap.get?_push_of_some _ e
  cases hb:BB w with
  | true=>
   refine hQ _ s.drawn _ a o o es ep t (fun _=>rawInt 0) _ ⟨Nat.le_refl _,kk,⟨_,Heap.get?_push_size _ rfl,rfl,rfl⟩,kk _ _ ho,hd,ok,hf,kk _ _ ho,Nat.ne_of_lt hna,fun h'' e=>.text hb,(Dy _ _).map _,hg,hk,.inl rfl⟩
  | false=>
   rw[hb] at hdr
   refine hQ _ s.drawn _ a o o es ep t (fun i=>rawInt (((if i=0 then 0 else t.place.getD (i-1) 0+1:Nat)):Int)) _ ⟨Nat.le_refl _,kk,⟨_,Heap.get?_push_size _ rfl,rfl,rfl⟩,kk _ _ ho,hd,ok,hf,kk _ _ ho,Nat.ne_of_lt hna,fun h'' e=>.led hb (by simpa using hdr),List.Perm.refl _,hg,hk,.inl rfl⟩
theorem Qz (hh:A.handled=none) {ks:List Int} {s0:Shared} {h0:Heap} (I:US w s0 a ks h0 it T0 o oT es ep t fst ord):Walks prog w A it [it,a,T0] [it] es.size (fun i v=>ord[i]? = some v) (fun i h=>ItAt h it a (fst i) i es.size ep∧h.get? a=some o∧h.get? T0=some oT):=by
 have hl:ord.length=es.size:=by rw[I.pm.length_eq,List.length_map,Array.length_toList]
 have na:a≠it:=fun e=>by
  obtain⟨oi,h1,_,h3⟩:=I.at'
  subst e
  rw[I.ho] at h1;cases h1
  rw[I.hd] at h3;cases h3
 refine⟨fun b hb=>by simp at hb;simp[hb],fun i h h' st k=>?_,fun i s Q E hi st hQ=>?_,fun s Q E st hQ=>?_,fun i s Q E st hQ=>?_⟩
 ·obtain⟨⟨oi,h1,r⟩,h2,h3⟩:=st
  exact⟨⟨oi,k it (by simp) _ h1,r⟩,k a (by simp) _ h2,k T0 (by simp) _ h3⟩
 ·obtain⟨h1,h2,h3⟩:=st
  have hx:ord[i]? = some ord[i]:=List.getElem?_eq_getElem (by omega)
  refine NA h1 h2 I.hd I.ok I.hf (I.md _ h3) hx hl fun h' it' sb=>?_
  exact hQ _ h' s.toks hx ⟨it',(sb.2 a na).trans h2,(sb.2 T0 I.ne).trans h3⟩ fun b ob hb e=>(sb.2 b (by simpa using hb)).trans e
 ·obtain⟨h1,h2,h3⟩:=st
  refine PN hh h1 h2 I.hd I.ok I.hf (I.md _ h3) hl fun h' eb=>?_
  exact hQ h' s.toks fun b ob hb e=>eb b ob (by simpa using hb) e
 ·obtain⟨h1,h2,h3⟩:=st
  refine wpAny_pyIter_slot h1.typeIs Dt (wpAny_call_entry Dt h1.typeIs Fr ?_ (FO _))
  exact wpAny_pure ⟨_,rfl,"set_iterator",_,h1.typeIs,slot_setit_next.lookup,hQ⟩
end
end L2
namespace L2
open PySem PySem.Spec PyProof.Rows
theorem PV {es:Array (Int×Value)} {ord:List Value} {ks:List Int} (pm:ord.Perm (es.toList.map (·.2))) (eg:EGood es.toList) (ek:es.toList.map A0=ks):∃ns,IntsAre ord ns∧ns.Perm ks:=by
 let vk:Value→Int:=fun v=>match v with | .int k _=>k | _=>0
 have each:∀v∈ord,∃t,v= .int (vk v) t:=fun v hv=>by
  obtain⟨e,he,rfl⟩:=List.mem_map.mp (pm.mem_iff.mp hv)
  obtain⟨_,t,h2⟩:=eg e he
  exact⟨t,h2⟩
 refine⟨ord.map vk,?_,?_⟩
 ·clear pm
  induction ord with
  | nil=>exact .nil
  | cons v r ih=>
   obtain⟨t,e⟩:=each v List.mem_cons_self
   have:=ih fun x hx=>each x (List.mem_cons_of_mem _ hx)
   rw[List.map_cons]
   generalize vk v=k at e
   subst e
   exact .cons k t this
 ·refine (pm.map vk).trans ?_
  rw[List.map_map,←ek]
  exact List.Perm.refl _
section
variable {prog:Program} {w:World} {A:Around} {E:Value→Shared→Prop} {s:Shared} {a:Addr} {ks:List Int}
theorem QS {Q:Bool→Shared→Prop} (hS:SetIt w s.heap a ks) (q:Q false s):wpAny (model prog w) A (Builtin.List.listLengthHint (.ref a)) Q E s:=by
 unfold Builtin.List.listLengthHint
 refine wpAny_bind (wpAny_specialOf hS.typeIs slot_set_len'.lookup ?_)
 have hsp:splitId "set.__len__"=some ("set","__len__"):=by decide +kernel
 simp only[hsp]
 refine wpAny_bind (wpAny_isInstance hS.typeIs sub_set_self ?_)
 rw[if_neg (by simp)]
 show wpAny _ _ (typeOf (.ref a) >>= _) _ _ _
 refine wpAny_bind (wpAny_typeOf hS.typeIs ?_)
 exact wpAny_pure q
theorem Jt {Q:List Value→Shared→Prop} (hh:A.handled=none) (hS:SetIt w s.heap a ks) (hQ:∀(s':Shared) (acc:List Value) (ns:List Int),s.heap.objs.size≤s'.heap.objs.size→(∀b o,s.heap.get? b=some o→s'.heap.get? b=some o)→s'.gens=s.gens→s'.os=s.os→IntsAre acc ns→ns.Perm ks→Q acc s') :
  wpAny (model prog w) A (collect (.ref a)) Q E s:=by
 obtain⟨o0,es0,ep0,t0,ho0,_,_,_,hk0,_,hl0,_⟩:=id hS
 have hlt:a<s.heap.objs.size:=Heap.lt_size ho0
 unfold collect
 refine wpAny_bind (wpAny_runValue (codeAny_builtin F.entry_proto_collect ?_))
 rw[Around.under_plainId F.plain_proto_collect _]
 show wpAny _ A.in1 (newList [] >>= fun l=>again (.builtin "list.__iadd__" ⟨[l,.ref a],[]⟩)) _ _ s
 refine wpAny_bind (wpAny_newObj_type ?_)
 refine wpAny_pure ⟨plainId_quiet F.plain_list_iadd _,codeAny_builtin F.entry_list_iadd ?_⟩
 rw[Around.under_plainId F.plain_list_iadd _]
 have kk1:∀b ob,s.heap.get? b=some ob→(s.heap.push { cls:=.type "list",data:=.seq ([]:List Value).toArray }).get? b=some ob:=fun b ob e=>Heap.get?_push_of_some _ e
 have hS1:SetIt w ({ s with heap:=s.heap.push { cls:=.type "list",data:=.seq ([]:List Value).toArray } }:Shared).heap a ks:=hS.keep fun ob e=>kk1 _ _ e
 show wpAny _ A.in1 (Builtin.List.listExtendWith (.ref s.heap.objs.size) (.ref a) (.ref s.heap.objs.size)) _ _ _
 unfold Builtin.List.listExtendWith
 refine wpAny_bind (wpAny_typeOf hS1.typeIs ?_)
 have h1:Builtin.List.listSameRef (.ref s.heap.objs.size) (.ref a)=false:=by simp[Builtin.List.listSameRef];exact Nat.ne_of_gt hlt
 have h2:(Value.type "set" == Value.type "list")=false:=by decide
 have h3:(Value.type "set" == Value.type "tuple")=false:=by decide
 simp only[h1,h2,h3,Bool.or_false,Bool.false_eq_true,if_false]
 refine wpAny_bind (PJ hS1 fun h' d' it T0 o oT es ep t fst ord I=>?_)
 have hS2:SetIt w ({ s with heap:=h',drawn:=d' }:Shared).heap a ks:=hS1.keep fun ob e=>I.kk _ _ e
 refine wpAny_bind (wpAny_holding (QS (s:={ s with heap:=h',drawn:=d' }) hS2 ?_))
 show wpAny _ A.in1 (rule "list.extend.makes-room" >>= fun _=>Builtin.List.listTouch (.ref s.heap.objs.size) >>= fun _=>
  again (.builtin "list.extend.loop" ⟨[.ref s.heap.objs.size,.ref it,.ref s.heap.objs.size],[]⟩)) _ _ _
 refine wpAny_bind (wpAny_rule ?_)
 have hS₁:h'.get? s.heap.objs.size=some { cls:=.type "list",data:=.seq ([]:List Value).toArray }:=I.kk _ _ (Heap.get?_push_size _ rfl)
 refine wpAny_bind ?_
 show wpAny _ A.in1 (updateSeq s.heap.objs.size (·.push .none) >>= fun _=>updateSeq s.heap.objs.size (·.pop)) _ _ _
 refine wpAny_bind (wpAny_updateSeq hS₁ rfl ?_)
 have hS₂:=Heap.get?_update_self (Obj.mapSeq (·.push Value.none)) hS₁ rfl
 refine wpAny_updateSeq hS₂ rfl ?_
 have hS₃:=Heap.get?_update_self (Obj.mapSeq (·.pop)) hS₂ rfl
 have oth:∀b ob,b≠s.heap.objs.size→h'.get? b=some ob→((h'.update s.heap.objs.size (Obj.mapSeq (·.push Value.none))).update s.heap.objs.size (Obj.mapSeq (·.pop))).get? b=some ob:=
  fun b ob hb e=>(Heap.get?_update_other _ _ (Ne.symm hb)).trans ((Heap.get?_update_other _ _ (Ne.symm hb)).trans e)
 have esz:({ s with heap:=s.heap.push { cls:=.type "list",data:=.seq ([]:List Value).toArray } }:Shared).heap.objs.size=s.heap.objs.size+1:=Heap.size_push _ _
 have nit:it≠s.heap.objs.size:=Nat.ne_of_gt (by have:=I.lo;rw[esz] at this;exact this)
 have nT:T0≠s.heap.objs.size:=by
  rcases I.tl with z | z
  ·rw[z];exact Nat.ne_of_lt hlt
  ·exact Nat.ne_of_gt (by rw[esz] at z;exact z)
 have hSf:s.heap.objs.size∉[it,a,T0]:=by
  simp only[List.mem_cons,List.not_mem_nil,or_false,not_or]
  exact⟨Ne.symm nit,Nat.ne_of_gt hlt,Ne.symm nT⟩
 have W:=(Qz (prog:=prog) (A:=A.in1) (by simpa using hh) I).toS
 have hn:es.size≤sizeLine:=by rw[Dh I.ek];exact Nat.le_of_lt (Nat.lt_trans hl0 (by decide))
 obtain⟨oi,hoi,ri⟩:=I.at'
 refine wpAny_pure ⟨plainId_quiet F.plain_extend_loop _,codeAny_extend_loopS W hn _ hSf _ es.size 0 _ _ _ rfl (Nat.zero_le _) ⟨⟨oi,oth _ _ nit hoi,ri⟩,oth _ _ (Nat.ne_of_lt hlt) I.ho,oth _ _ nT I.hT⟩ hS₃ (ItemsOf.nil _) fun s' acc' c' hm hS' hacc=>?_⟩
 show wpAny _ A (load s.heap.objs.size >>= _) _ _ s'
 refine wpAny_bind (wpAny_load hS' ?_)
 have hl:ord.length=es.size:=by rw[I.pm.length_eq,List.length_map,Array.length_toList]
 have eo:acc'.toList=ord:=by
  refine List.ext_getElem (by rw[Array.length_toList,hacc.1,hl]) fun n h1 h2=>?_
  have hn1:n<acc'.size:=by simpa using h1
  have:ord[n]? = some acc'[n]:=hacc.2 n _ (Array.getElem?_eq_getElem hn1)
  rw[List.getElem?_eq_getElem h2] at this
  have:=Option.some.inj this
  simpa using this.symm
 obtain⟨ns,hi,hp⟩:=PV I.pm I.eg I.ek
 refine wpAny_pure (hQ s' acc'.toList ns (Nat.le_of_lt (Heap.lt_size hS')) (fun b ob e=>?_) hm.gens hm.os (by rw[eo];exact hi) hp)
 have hb:b<s.heap.objs.size:=Heap.lt_size e
 refine hm.heap b ob ?_ (oth b ob (Nat.ne_of_lt hb) (I.kk _ _ (kk1 _ _ e)))
 simp only[List.mem_cons,List.not_mem_nil,or_false,not_or]
 exact⟨Nat.ne_of_lt hb,Nat.ne_of_lt (Nat.lt_trans hb (by have:=I.lo;rw[esz] at this;exact this))⟩
theorem Lm {Q:Value→Shared→Prop} (hh:A.handled=none) (hS:SetIt w s.heap a ks) (h64:ks.length<64)
  (h:∀(s':Shared) (l:Addr) (out:Array Value) (n:Nat) (ns:List Int),(∀b o,s.heap.get? b=some o→s'.heap.get? b=some o)→s'.gens=s.gens→s'.os=s.os→s.heap.objs.size≤l→s'.heap.get? l=some (seqObj "list" out n)→IntsAre out.toList ns→ns.Perm ks→ns.Pairwise (· ≤ ·)→Q (.ref l) s') :
  wpAny (model prog w) A (call (.builtin "sorted") [.ref a]) Q E s:=by
 refine Calls.call_function_entry kind_sorted plain_sorted entry_sorted (args_sorted1 _) ?_
 unfold Builtin.«sorted»
 refine wpAny_bind (m:=checkCount "sorted" 1 1 _) (wpAny_pure ?_)
 refine wpAny_bind (Jt (by simpa using hh) hS fun s1 vs ns1 lo kk eg eo hi hp=>?_)
 have hlen:vs.length<64:=by rw[IntsAre.length hi,hp.length_eq];exact h64
 refine wpAny_bind (wpAny_newList ?_ (Nat.le_of_lt (Nat.lt_trans hlen (by decide))))
 have hoL:(s1.heap.push (seqObj "list" vs.toArray 0)).get? s1.heap.objs.size=some (seqObj "list" vs.toArray 0):=Heap.get?_push_size _ rfl
 show wpAny _ _ _ _ _ { s1 with heap:=s1.heap.push (seqObj "list" vs.toArray 0) }
 refine wpAny_bind (wpAny_holding (wpAny_call_entry slot_list_sort ⟨_,hoL,rfl⟩ entry_list_sort (list_sort_tree hoL hi hlen fun out ns' a1 a2 a3=>⟨_,rfl,?_⟩) (args_list_sort _)))
 refine wpAny_pure ⟨_,rfl,?_⟩
 obtain⟨e1,ho1⟩:∃e1,((s1.heap.push (seqObj "list" vs.toArray 0)).update s1.heap.objs.size (Obj.mapSeq fun _=>#[])).get? s1.heap.objs.size=some (seqObj "list" #[] e1):=⟨_,get?_update_seq hoL (fun _=>#[])⟩
 have ho2:((((s1.heap.push (seqObj "list" vs.toArray 0)).update s1.heap.objs.size (Obj.mapSeq fun _=>#[])).push (seqObj "tuple" vs.toArray 0)).push (seqObj "list" #[] 0)).get? s1.heap.objs.size=some (seqObj "list" #[] e1):=Heap.get?_push_of_some _ (Heap.get?_push_of_some _ ho1)
 refine h _ s1.heap.objs.size out _ ns' (fun b ob e=>?_) eg eo lo (get?_update_seq ho2 (fun _=>out)) a1 (a2.trans hp) a3
 have e2:=kk b ob e
 have nb:b≠s1.heap.objs.size:=Nat.ne_of_lt (Heap.lt_size e2)
 exact (Heap.get?_update_other _ _ (Ne.symm nb)).trans (Heap.get?_push_of_some _ (Heap.get?_push_of_some _ ((Heap.get?_update_other _ _ (Ne.symm nb)).trans (Heap.get?_push_of_some _ e2))))
end
end L2
namespace L2
open PySem PySem.Spec PyProof.Rows
abbrev Bk (w:World) (a:Addr) (S:Int→Bool) (n:Nat):HO:=.ext fun h=>∃ks,SetIs w h a ks∧(∀k,S k=true↔k∈ks)∧ks.length≤n
theorem D9 {P:Program} {w:World} {H:Hp} {h:Heap} {a:Addr} {S:Int→Bool} {n:Nat} {ks:List Int} (x:SetIs w h a ks) (m:∀k,S k=true↔k∈ks) (hl:ks.length≤n):ObjOk P w H h a (Bk w a S n):=
 ⟨⟨ks,x,m,hl⟩,let ⟨o,_,_,_,ho,_⟩:=x;⟨o,ho⟩,fun h1 h2 ⟨ks,y,r⟩ k=>⟨ks,y.keep k,r⟩⟩
section
variable {X:Cx}
theorem Inv.setO {pins:List (Addr×Obj)} {σ:St} {H:Hp} {s:Shared} {a:Addr} {S:Int→Bool} {n:Nat} (I:Inv X pins σ H s) (h:H a=some (Bk X.w a S n)):∃ks,SetIs X.w s.heap a ks∧(∀k,S k=true↔k∈ks)∧ks.length≤n:=(I.hok _ _ h).1
theorem OA:BC X (.type "set") (fun xs H Q=>xs=[]∧∀a,H a=none→Q (.ref a) (upd H a (Bk X.w a (fun _=>false) 0))):=by
 intro pins s σ H xs us Q I r h
 obtain⟨rfl,q⟩:=h
 cases r
 refine P9 (w:=X.w) ⟨.ref s.heap.objs.size,_,I.laid (t':=s.toks) (o:=Bk X.w s.heap.objs.size (fun _=>false) 0) (fun b ob e=>Heap.get?_push_of_some _ e) (Nat.le_refl _) ?_,rfl,q _ (I.hok.fresh (Nat.le_refl _))⟩
 exact D9 set0_is (fun k=>by simp) (Nat.le_refl _)
abbrev NI (w:World) (a:Addr) (S:Int→Bool) (n:Nat):HO:=.ext fun h=>∃ks,SetIt w h a ks∧(∀k,S k=true↔k∈ks)∧ks.length≤n
theorem RI {P:Program} {w:World} {H:Hp} {h:Heap} {a:Addr} {S:Int→Bool} {n:Nat} {ks:List Int} (x:SetIt w h a ks) (m:∀k,S k=true↔k∈ks) (hl:ks.length≤n):ObjOk P w H h a (NI w a S n):=
 ⟨⟨ks,x,m,hl⟩,let ⟨o,_,_,_,ho,_⟩:=x;⟨o,ho⟩,fun h1 h2 ⟨ks,y,r⟩ k=>⟨ks,y.keep k,r⟩⟩
theorem Inv.setR {pins:List (Addr×Obj)} {σ:St} {H:Hp} {s:Shared} {a:Addr} {S:Int→Bool} {n:Nat} (I:Inv X pins σ H s) (h:H a=some (NI X.w a S n)):∃ks,SetIt X.w s.heap a ks∧(∀k,S k=true↔k∈ks)∧ks.length≤n:=(I.hok _ _ h).1
theorem FF (hc:X.calm=true) {pins:List (Addr×Obj)} {s:Shared} {σ:St} {H:Hp} {Q:VK} {a:Addr} {ks:List Int} {S:Int→Bool} {n:Nat} (I:Inv X pins σ H s) (hS:SetIt X.w s.heap a ks) (hm:∀k,S k=true↔k∈ks) (hl:ks.length≤n) (hn:n<64)
  (q:∀(l:Addr) (ns:List Int),H l=none→ns.Pairwise (· < ·)→(∀k,k∈ns↔S k=true)→Q (.ref l) (upd H l (.lst (ns.map V.int)))):wpAny (model X.prog X.w) X.A (call (.builtin "sorted") [.ref a]) (EP X pins σ Q) X.xe s:=by
 have ndk:ks.Nodup:=let ⟨_,_,_,_,_,_,_,_,_,nd,_⟩:=hS;nd
 refine Lm (w:=X.w) (I.ok.hd hc) hS (by omega) fun s' l out c ns kk eg eo lo hl' hi hp hs=>?_
 have nd:ns.Nodup:=hp.nodup_iff.mpr ndk
 have lt:ns.Pairwise (· < ·):=(List.Pairwise.and hs nd).imp fun {x y} h=>by have h1:=h.1;have h2:=h.2;omega
 have hnone:H l=none:=I.hok.fresh lo
 have old:∀b u,H b=some u→upd H l (.lst (ns.map V.int)) b=some u:=fun b u e=>by rw[Aq (Ai e hnone)];exact e
 have len:(ns.map V.int).length≤sizeLine:=by
  rw[List.length_map,hp.length_eq]
  exact Nat.le_of_lt (Nat.lt_of_le_of_lt hl (Nat.lt_trans hn (by decide)))
 have un:Un (Gh X.stack) [] H (upd H l (.lst (ns.map V.int))) s.heap s'.heap:=
  ⟨fun b o e _ _ _=>kk b o e,fun b o e _ _ _=>⟨o.slots,kk b o e⟩,fun b o e n _=>by rw[Aq (Nat.ne_of_lt (Nat.lt_of_lt_of_le (Heap.lt_size e) lo))];exact n,fun b o e _=>⟨o,kk b o e⟩,fun b xs e=>old b _ e,fun b o u e=>old b _ e,fun b ps e=>⟨#[],by rw[old b _ e];simp⟩⟩
 have hok:HOk X.prog X.w (upd H l (.lst (ns.map V.int))) s'.heap:=fun b u e=>by
  by_cases z:b=l
  ·subst z
   rw[upd_same] at e
   cases e
   exact⟨len,out.toList,c,Fx hi,by rw[hl',Array.toArray_toList]⟩
  ·rw[Aq z] at e
   exact (I.hok b u e).stay (fun c v _ e=>kk c v e) (fun c e=>old c _ e) fun c xs e=>old c _ e
 exact⟨.ref l,_,I.call' (ch:=[]) eo un hok (by rw[eg];exact I.bare) (fun b hb=>absurd hb (by simp)),rfl,q l ns hnone lt fun k=>by rw[hp.mem_iff];exact (hm k).symm⟩
theorem Do (hc:X.calm=true):BC X (.builtin "sorted") (fun xs H Q=>∃a S n,xs=[.ref a]∧H a=some (Bk X.w a S n)∧n<64∧∀(l:Addr) (ns:List Int),H l=none→ns.Pairwise (· < ·)→(∀k,k∈ns↔S k=true)→Q (.ref l) (upd H l (.lst (ns.map V.int)))):=by
 intro pins s σ H xs us Q I r h
 obtain⟨a,S,n,rfl,ha,hn,q⟩:=h
 obtain⟨u,rfl,ru⟩:=Cr r
 cases ru
 obtain⟨ks,hS,hm,hl⟩:=I.setO ha
 exact FF hc I hS.it hm hl hn q
theorem Jh (hc:X.calm=true):BC X (.builtin "sorted") (fun xs H Q=>∃a S n,xs=[.ref a]∧H a=some (NI X.w a S n)∧n<64∧∀(l:Addr) (ns:List Int),H l=none→ns.Pairwise (· < ·)→(∀k,k∈ns↔S k=true)→Q (.ref l) (upd H l (.lst (ns.map V.int)))):=by
 intro pins s σ H xs us Q I r h
 obtain⟨a,S,n,rfl,ha,hn,q⟩:=h
 obtain⟨u,rfl,ru⟩:=Cr r
 cases ru
 obtain⟨ks,hS,hm,hl⟩:=I.setR ha
 exact FF hc I hS hm hl hn q
variable {o e:Expr} {es:List Expr} {to:TE} {t:TA} {apos cpos:Pos}
def UT (X:Cx) (to:TE) (t:TA):TE:=fun σ H Q=>to σ H fun x H1=>∃a S n,x= .ref a∧H1 a=some (Bk X.w a S n)∧t σ H1 fun xs H2=>∃k S2 n2,xs=[.int k]∧H2 a=some (Bk X.w a S2 n2)∧n2+1<2000∧Q .non (upd H2 a (Bk X.w a (fun j=>S2 j || decide (j=k)) (n2+1)))
theorem RB (ho:PE X o to) (hp:PA X (e::es) t) (hbase:attributeBase o "add" X.env (eval o X.env)=eval o X.env:=by rfl)
  (hfew:((backTo cpos (starEach (e::es) X.env)).all (fun x=>!x.1) && (backToKw cpos (keywordEach [] X.env)).all (fun x=>x.1.isSome)
   && decide ((e::es).length+([]:List Keyword).length+(if ([]:List Keyword).isEmpty then 0 else 1)<30))=true:=by rfl)
  (hline:(apos.endLine == cpos.line)=true:=by rfl) (hs:starEach (e::es) X.env=(false,eval e X.env)::starEach es X.env:=by rfl) (hplain:(backTo cpos (starEach es X.env)).any (·.1)=false:=by rfl) :
  PE X (.Call (.Attribute o "add" apos) (e::es) [] cpos) (UT X to t):=by
 intro pins s σ H Q I h
 refine wpAny_Call_method_late hbase hfew hline rfl (AM (ho pins s σ H _ I h) fun v s1 ⟨x,H1,I1,r1,a,S,n,ex,ha,q1⟩=>?_)
 subst ex
 cases r1
 obtain⟨ks,hS,hm,hl⟩:=I1.setO ha
 refine⟨"set","set.add",PySem.F.plainAttrs_set,PySem.F.slot_set_add,PySem.F.type_set_add,hS.typeIs,fun b eb=>hS.noDict b eb,?_⟩
 have hA:=hp cpos pins s1 σ H1 _ I1 q1
 rw[hs] at hA ⊢
 refine Calls.callWith_builtin (by show (false || (backTo cpos (starEach es X.env)).any (·.1))=false;rw[hplain]<;>rfl) (Calls.evalArgs_plain ?_)
 refine AM hA fun us s2 ⟨vs,H2,I2,r2,k,S2,n2,ek,ha2,hn2,q2⟩=>?_
 subst ek
 obtain⟨u,rfl,ru⟩:=Cr r2
 obtain⟨tk,rfl⟩:=ru
 obtain⟨ks2,hS2,hm2,hl2⟩:=I2.setO ha2
 refine Jz (w:=X.w) hS2 (by omega) fun h' ks' hsb hS' hm' hl'=>?_
 have mu:UP (H2 a):=by rw[ha2];exact True.intro
 refine⟨.non,_,I2.write (x:=a) (e:=a) (t':=s2.toks+1) mu (.inl rfl) (fun b ob nb eb=>(hsb.2 b nb).trans eb) (let ⟨o,_,_,_,ho,_⟩:=hS';⟨o,ho⟩) (D9 hS' (fun j=>?_) (by omega)),rfl,q2⟩
 rw[hm' j,Bool.or_eq_true,decide_eq_true_eq,hm2 j]
end
end L2
namespace L2
open PySem PySem.Spec PyProof.Rows
section
variable {X:Cx} {N:List Str} {scope:Scope} {cl:List (Str×Addr)} {js:List (Option Nat)} {pins:List (Addr×Obj)} {σ:St} {H:Hp} {s:Shared} {fp:List Addr}
end
section
variable {X:Cx} {N:List Str} {scope:Scope} {cl:List (Str×Addr)} {js:List (Option Nat)}
variable {elt tg iter:Expr} {ifs:List Expr} {rest:List Comprehension} {pos:Pos} {wi:TI} {g:CC→TG} {tb:CC→Addr→TS}
variable {tg1 iter1:Expr} {ifs1:List Expr} {wi1:CC→TI} {g1:CC→TG} {tc tc1:CC→TT} {te:CC→TE}
end
end L2
namespace L2
open PySem PySem.Spec PyProof.Rows
theorem IZ:∀{xs:List V} {us:List Value},xs.length=us.length→(∀(i:Nat) (x:V) (u:Value),xs[i]? = some x→us[i]? = some u→RelV x u)→Vals xs us
 | [],[],_,_=>.nil
 | [],_::_,h,_=>by cases h
 | _::_,[],h,_=>by cases h
 | x::xs,u::us,h,f=>.cons (f 0 x u rfl rfl) (IZ (Nat.succ.inj h) fun i y v hy hv=>f (i+1) y v (by simpa using hy) (by simpa using hv))
theorem NU {α:Type} (bs:List α) (d:α):(List.range bs.length).map (fun i=>bs.getD i d)=bs:=by
 refine List.ext_getElem (by simp) fun n h1 h2=>?_
 simp[List.getD,h2]
theorem Os (bs:List Bool):(List.range bs.length).all (fun i=>bs.getD i false)=bs.all id:=by
 have:=NU bs false
 conv=>rhs;rw[←this]
 rw[List.all_map]
 rfl
theorem PD {prog:Program} {w:World} {A:Around} {bs:List Bool} {its:List Value} (rv:Vals (bs.map V.bl) its):TruthOf prog w A (fun i v=>its.toArray[i]? = some v) (fun i=>bs.getD i false):=by
 intro i v s Q E hv q
 have hv':its[i]? = some v:=by simpa using hv
 have hi:i<bs.length:=by
  have h1:=(List.getElem?_eq_some_iff.mp hv').1
  have:=rv.length
  rw[List.length_map] at this
  omega
 have hx:(bs.map V.bl)[i]? = some (.bl bs[i]):=by rw[List.getElem?_map,List.getElem?_eq_getElem hi];rfl
 obtain⟨u,hu,ru⟩:=rv.get hx
 rw[hv'] at hu
 cases hu
 cases (show v=Value.bool bs[i] from ru)
 refine wpAny_truthy_bool ?_
 have e:bs.getD i false=bs[i]:=by simp[List.getD,hi]
 rw[←e]
 exact q
section
variable {X:Cx}
theorem Ox:BC X (.type "range") (fun xs H Q=>∃j:Int,xs=[.int j]∧∀r,H r=none→Q (.ref r) (upd H r (.rng 0 j))):=by
 intro pins s σ H xs us Q I r h
 obtain⟨j,rfl,q⟩:=h
 obtain⟨u,rfl,ru⟩:=Cr r
 obtain⟨t,rfl⟩:=ru
 refine call_range_1 ⟨.ref s.heap.objs.size,_,I.laid (o:=.rng 0 j) (fun b ob e=>Heap.get?_push_of_some _ e) (Nat.le_refl _) ?_,rfl,q _ (I.hok.fresh (Nat.le_refl _))⟩
 exact⟨_,_,_,Heap.get?_push_size _ rfl⟩
def BY (n:Nat):List Int:=(List.range n).map fun (k:Nat)=>(k:Int)
theorem LM (hc:X.calm=true):BC X (.type "list") (fun xs H Q=>∃(r:Addr) (n:Nat),xs=[.ref r]∧H r=some (.rng 0 (n:Int))∧n≤1000∧∀l,H l=none→Q (.ref l) (upd H l (.lst ((BY n).map V.int)))):=by
 intro pins s σ H xs us Q I r h
 obtain⟨rr,n,rfl,hr,hn,q⟩:=h
 obtain⟨u,rfl,ru⟩:=Cr r
 cases ru
 obtain⟨t,u,v,ho⟩:=(show ObjOk X.prog X.w H s.heap rr (.rng 0 (n:Int)) from I.hok rr _ hr)
 have hsz:Builtin.Range.rangeSize 0 (n:Int) 1=n:=by rw[rangeSize_one];split<;>omega
 refine call_list_range (n:=n) (I.ok.hd hc) ho (small_one (by omega) (by omega) (by omega) (by omega)) hsz (by omega) fun h' tk acc c kk hl hi=>?_
 have lo:s.heap.objs.size≤s.heap.objs.size:=Nat.le_refl _
 have hv:Vals ((BY n).map V.int) acc.toList:=by
  have hal:acc.toList.length=n:=by rw[Array.length_toList,hi.1]
  refine IZ (by unfold BY;simp[hal]) fun i x u hx hu=>?_
  have hin:i<n:=by
   have:=(List.getElem?_eq_some_iff.mp hu).1
   omega
  obtain⟨t,e⟩:=hi.2 i u (by simpa using hu)
  have ex:x= .int (i:Int):=by
   unfold BY at hx
   rw[List.map_map,List.getElem?_map,List.getElem?_range hin] at hx
   exact (Option.some.inj hx).symm
  subst ex
  refine⟨t,?_⟩
  rw[e]
  congr 1
  omega
 refine⟨.ref s.heap.objs.size,_,I.laid (t':=tk) (o:=.lst ((BY n).map V.int)) kk lo ?_,rfl,q _ (I.hok.fresh lo)⟩
 refine⟨?_,acc.toList,c,hv,by rw[hl,Array.toArray_toList]⟩
 unfold BY
 rw[List.length_map,List.length_map,List.length_range]
 exact Nat.le_trans hn (by decide)
theorem Ie (hc:X.calm=true):BC X (.builtin "all") (fun xs H Q=>∃(l:Addr) (bs:List Bool),xs=[.ref l]∧SqL X.K H l (bs.map V.bl)∧Q (.bl (bs.all id)) H):=by
 intro pins s σ H xs us Q I r h
 obtain⟨l,bs,rfl,hq,q⟩:=h
 obtain⟨u,rfl,ru⟩:=Cr r
 cases ru
 obtain⟨its,rv,pl,hz⟩:=I.list hq
 have hlt:l<s.heap.objs.size:=let ⟨o,ho,_⟩:=pl.isList;Heap.lt_size ho
 have hlen:its.length=bs.length:=by rw[←rv.length,List.length_map]
 refine call_all_walk (wpAny_pyIter_list pl.isList ⟨s.heap.objs.size,_,_,_,_,_,fun i=>bs.getD i false,rfl,Walks.list (by have:=I.ok.hd hc;simpa using this) s.heap.objs.size l (Nat.ne_of_lt hlt) its.toArray,⟨⟨_,Heap.get?_push_size _ rfl,rfl,rfl⟩,pl.isList.push _⟩,PD rv,fun h' tk kk=>?_⟩)
 have e:(List.range its.toArray.size).all (fun i=>bs.getD i false)=bs.all id:=by rw[List.size_toArray,hlen,Os]
 rw[e]
 exact⟨.bl _,H,I.kept (t':=tk) fun b ob eb=>kk b ob (by simp only[List.mem_singleton];exact Nat.ne_of_lt (Heap.lt_size eb)) (Heap.get?_push_of_some _ eb),rfl,q⟩
end
end L2
namespace L2
open PySem PySem.Spec PyProof.Rows
section
variable {prog:Program} {w:World} {A:Around} {R:Result→Shared→Prop} {I:Addr} {fp wr:List Addr} {G:Array GenState→Array GenState→Prop} {n:Nat} {P:Nat→Value→Prop} {St:Nat→Shared→Prop}
theorem O1 (W:WalksS prog w A.in1 I fp wr G n P St) (S:Addr) (hSf:S∉fp)
  (val:Nat→Int) (hval:∀i v,P i v→∃t,v= .int (val i) t) (hb:n<1000) :
  ∀(k i:Nat) (s:Shared) (ks:List Int),n-i=k→i≤n→St i s→SetIs w s.heap S ks→(∀j,j∈ks↔∃m,m<i∧val m=j)→ks.length≤i→
   (∀s' ks',Moved (S::wr) G s s'→SetIs w s'.heap S ks'→(∀j,j∈ks'↔∃m,m<n∧val m=j)→ks'.length≤n→R (.ok (.ret .none)) s')→
   codeAny (model prog w) A (.builtin "set.update.loop" ⟨[.ref S,.ref I],[]⟩) R s:=by
 have hSw:S∉wr:=fun h=>hSf (W.sub _ h)
 have hsub:∀b∈wr,b∈S::wr:=fun b hb=>List.mem_cons_of_mem _ hb
 intro k
 induction k with
 | zero=>
  intro i s ks hk hi hst hS hm0 hl0 hR
  have hin:i=n:=by omega
  subst hin
  refine codeAny_builtin F.entry_set_update_loop ?_
  rw[Around.under_plainId F.plain_set_update_loop _]
  show wpAny _ A.in1 (pyNext (.ref I) >>= _) _ _ s
  refine wpAny_bind (W.done s _ _ hst fun s' hm=>?_)
  show wpAny _ A.in1 (ret Value.none) _ _ s'
  exact wpAny_pure (hR s' ks (hm.mono hsub) (hS.keep fun o e=>hm.heap S _ hSw e) hm0 hl0)
 | succ k ih=>
  intro i s ks hk hi hst hS hm0 hl0 hR
  have hlt:i<n:=by omega
  refine codeAny_builtin F.entry_set_update_loop ?_
  rw[Around.under_plainId F.plain_set_update_loop _]
  show wpAny _ A.in1 (pyNext (.ref I) >>= _) _ _ s
  refine wpAny_bind (W.item i s _ _ hlt hst fun v s' hP hst' hm=>?_)
  obtain⟨t,rfl⟩:=hval i v hP
  have hS':SetIs w s'.heap S ks:=hS.keep fun o e=>hm.heap S _ hSw e
  show wpAny _ A.in1 (holding [Value.int (val i) t] (setAdd S (.int (val i) t)) >>= _) _ _ s'
  refine wpAny_bind (wpAny_holding ?_)
  unfold setAdd
  refine wpAny_holding ?_
  refine wpAny_bind ((intKind prog w).pyHash (k:=val i) (intKind_is _ _ _ _) ?_)
  refine FW (s:={ s' with toks:=s'.toks+1 }) hS' (by omega) fun h' ks' hsb hS2 hm2 hl2=>?_
  refine wpAny_pure ⟨plainId_quiet F.plain_set_update_loop _,ih (i+1) _ ks' (by omega) hlt (W.frame _ s' _ _ hst' (Nat.le_succ _) fun b hb o e=>?_) hS2 (fun j=>?_) (by omega) fun s'' ks'' hm'' hS'' hmm hll=>?_⟩
  ·rw[hsb.2 b (fun h:b=S=>hSf (by rw[←h];exact hb))];exact e
  ·rw[hm2 j,hm0 j]
   constructor
   ·rintro (⟨m,h1,h2⟩|h)
    ·exact⟨m,Nat.lt_succ_of_lt h1,h2⟩
    ·exact⟨i,Nat.lt_succ_self _,h.symm⟩
   ·rintro⟨m,h1,h2⟩
    rcases Nat.lt_succ_iff_lt_or_eq.mp h1 with z | z
    ·exact .inl ⟨m,z,h2⟩
    ·subst z;exact .inr h2.symm
  ·refine hR s'' ks'' (Moved.trans W.gtrans ((hm.mono hsub).then_heap (Nat.le_succ _) fun b o hb e=>?_) hm'') hS'' hmm hll
   rw[hsb.2 b (fun h:b=S=>hb (by rw[h];exact List.mem_cons_self))];exact e
end
section
variable {prog:Program} {w:World} {A:Around} {E:Value→Shared→Prop} {s:Shared}
set_option maxHeartbeats 3200000 in
theorem Ow {l:Addr} {items:Array Value} {ns:List Int} {Q:Value→Shared→Prop}
  (hh:A.handled=none) (hl:s.heap.IsList l items) (hi:IntsAre items.toList ns) (hb:items.size<1000)
  (h:∀(h':Heap) (tk:Nat) (ks:List Int),SetIs w h' s.heap.objs.size ks→(∀j,j∈ks↔j∈ns)→ks.length≤ns.length→
   (∀b o,s.heap.get? b=some o→h'.get? b=some o)→Q (.ref s.heap.objs.size) { s with heap:=h',toks:=tk }) :
  wpAny (model prog w) A (call (.type "set") [.ref l]) Q E s:=by
 have hlen:ns.length=items.size:=by rw[←Array.length_toList];exact (IntsAre.length hi).symm
 obtain⟨c,tl,hmro⟩:=F.called_set.mro
 have hmade:=F.called_set.made
 have hsub:=F.called_set.sub
 refine wpAny_call (codeAny_of_tree ?_)
 show wpAny _ _ (callAny (.type "set") _) _ _ _
 refine wpAny_pure ⟨Code.quiet_builtin _ (by decide +kernel),codeAny_builtin F.entry_type_call ?_⟩
 rw[Around.under_plain (weight_type_call_type "set" [.ref l] []) rfl]
 have h1:=F.called_set.notType
 have h2:=F.called_set.canCreate
 have hct:=F.typeCall_set_1 (.ref l)
 repeat (any_goals (first | assumption | wp_step))
 refine codeAny_mono (KA (E:=E) (.inr ⟨.ref l,rfl⟩) (Q₁:=fun obj s₁=>obj= .ref s.heap.objs.size∧s₁={ s with heap:=s.heap.push (Bg w) }) ⟨rfl,rfl⟩) fun r s₁ hr=>?_
 cases r with
 | error e=>exact hr
 | ok fl=>
  cases fl with
  | ret obj=>
   obtain⟨rfl,rfl⟩:=hr
   have hS:(s.heap.push (Bg w)).get? s.heap.objs.size=some (Bg w):=Heap.get?_push_size _ rfl
   have hT:Shared.TypeIs { s with heap:=s.heap.push (Bg w) } (.ref s.heap.objs.size) "set":=⟨_,hS,rfl⟩
   have hli:=F.called_set.init.lookup
   have hbi:=F.called_set.init.bind (.ref s.heap.objs.size)
   repeat (any_goals (first | assumption | wp_step))
   refine codeAny_mono (codeAny_call_builtin (R:=wants (fun r s₂=>r= .none∧∃h' tk ks,s₂={ s with heap:=h',toks:=tk }∧SetIs w h' s.heap.objs.size ks∧(∀j,j∈ks↔j∈ns)∧ks.length≤ns.length∧
     (∀b o,s.heap.get? b=some o→h'.get? b=some o)) E) F.called_set.init.plain F.entry_set_init (check_set_init_1 hT ?_)) fun r₂ s₂ hr₂=>?_
   ·obtain⟨ol,hol,hcl,nl,hdl⟩:=hl
    obtain⟨ocls,odict,odata,oslots⟩:=ol
    simp only at hcl hdl
    subst hcl;subst hdl
    have hol':(s.heap.push (Bg w)).get? l=some { cls:=.type "list",dict:=odict,data:=.seq items nl,slots:=oslots }:=Heap.get?_push_of_some _ hol
    have hsls:=F.sub_list_set
    have hslf:=F.sub_list_frozenset
    have hne:(Value.type "list" == Value.type "dict")=false:=by decide
    have hl1:(s.heap.push (Bg w)).IsList l items:=⟨_,hol',rfl,nl,rfl⟩
    unfold Builtin.«set.__init__» noKeywords Builtin.Frozenset.updateFrom
    generalize hPI:pyIter=PI
    wp_walk
    subst hPI
    refine wpAny_pyIter_list hl1 ?_
    refine wpAny_bind (wpAny_runValue ?_)
    have hlS:l<s.heap.objs.size:=Heap.lt_size hol
    have hh3:A.in1.in1.in1.handled=none:=by simp[hh]
    have hneI:l≠(s.heap.push (Bg w)).objs.size:=by
     rw[Heap.size_push];exact Nat.ne_of_lt (Nat.lt_succ_of_lt hlS)
    have hSf:s.heap.objs.size∉[(s.heap.push (Bg w)).objs.size,l]:=by
     rw[Heap.size_push];simp only[List.mem_cons,List.mem_singleton,List.not_mem_nil,or_false,not_or]
     exact⟨Nat.ne_of_lt (Nat.lt_succ_self _),Nat.ne_of_gt hlS⟩
    have hval:∀(i:Nat) (v:Value),items[i]? = some v→∃t,v= .int ((fun i=>ns.getD i 0) i) t:=fun i v hv=>
     IntsAre.int_at hi i v (by rw[Array.getElem?_toList];exact hv)
    refine O1 ((Walks.list hh3 _ l hneI items).toS) s.heap.objs.size
     hSf (fun i=>ns.getD i 0) hval hb (items.size-0) 0 _ [] (by omega) (Nat.zero_le _)
     ⟨⟨_,Heap.get?_push_size _ rfl,rfl,rfl⟩,(hl1.push _)⟩ ?hS0 (fun j=>by simp) (Nat.le_refl _) ?hR
    case hS0=>exact set0_is.keep fun o e=>Heap.get?_push_of_some _ e
    case hR=>
     intro s' ks hm hS' hmm hll
     obtain⟨h',g',d',tk',os'⟩:=s'
     have eg:g'=s.gens:=hm.gens
     have ed:d'=s.drawn:=hm.drawn
     have eo:os'=s.os:=hm.os
     subst eg;subst ed;subst eo
     show wpAny _ _ _ _ _ _
     refine wpAny_pure ?_
     show wpAny _ _ (ret Value.none) _ _ _
     refine wpAny_pure ⟨rfl,h',tk',ks,rfl,hS',fun j=>?_,by omega,fun b o e=>?_⟩
     ·rw[hmm j,←hlen,List.mem_iff_getElem]
      constructor
      ·rintro⟨m,hm,e⟩
       exact⟨m,hm,by rw[←e,List.getD_eq_getElem?_getD,List.getElem?_eq_getElem hm];rfl⟩
      ·rintro⟨m,hm,e⟩
       exact⟨m,hm,by rw[←e,List.getD_eq_getElem?_getD,List.getElem?_eq_getElem hm];rfl⟩
     ·have hb:=Heap.lt_size e
      have hb1:b≠s.heap.objs.size:=Nat.ne_of_lt hb
      have hb2:b≠(s.heap.push (Bg w)).objs.size:=by
       rw[Heap.size_push];exact Nat.ne_of_lt (Nat.lt_succ_of_lt hb)
      exact hm.heap b o (by simp only[List.mem_cons,List.mem_singleton,List.not_mem_nil,or_false,not_or];exact⟨hb1,hb2⟩) (Heap.get?_push_of_some _ (Heap.get?_push_of_some _ e))
   ·cases r₂ with
    | error e=>exact hr₂
    | ok fl₂=>
     cases fl₂ with
     | ret r=>
      obtain⟨rfl,h',tk,ks,rfl,hS',hm',hl',hk'⟩:=hr₂
      repeat (any_goals (first | assumption | wp_step))
      exact h _ _ _ hS' hm' hl' hk'
     | _=>exact hr₂.elim
  | _=>exact hr.elim
end
end L2
namespace L2
open PySem PySem.Spec PyProof.Rows
section
variable {prog:Program} {w:World} {A:Around} {E:Value→Shared→Prop} {s:Shared} {a:Addr} {ks:List Int} {k:Int} {tk:Tok}
theorem Gz {Q:Option Nat→Shared→Prop} (hS:SetIt w s.heap a ks) (h:∀r:Option Nat,r.isSome=decide (k∈ks)→(∀i,r=some i→ks[i]? = some k)→Q r s) :
  wpAny (model prog w) A (setFind a (.int k tk) (hashInt k)) Q E s:=by
 obtain⟨o,es,ep,t,ho,hex,hd,hg,hk,nd,hl,ok,hf⟩:=hS
 have hsz:=Dh hk
 have hkey:(intKind prog w).is k (.int k tk)=true:=intKind_is _ _ _ _
 unfold setFind setFindIn
 refine wpAny_bind (wpAny_setState_of ho hd hf ?_)
 dsimp only
 rw[byScan_of (knd:=intKind prog w) rfl (by rw[hsz];exact Ck hl) hg.elems]
 simp only[↓reduceIte]
 refine wpAny_bind (wpAny_rule ?_)
 refine wpAny_bind (wpAny_setScan_of (knd:=intKind prog w) hkey ho hd hf hg.elems ?_)
 cases hr:List.findIdx? (fun e=>(intKind prog w).is k e.2) es.toList with
 | none=>
  dsimp only
  have hmem:k∉ks:=fun z=>by
   rw[←hk] at z
   obtain⟨e,he,rfl⟩:=List.mem_map.mp z
   have:=List.findIdx?_eq_none_iff.mp hr e he
   rw[(hg.is he).mpr rfl] at this
   cases this
  exact wpAny_pure (h none (by rw[decide_eq_false hmem];rfl) fun i e=>by cases e)
 | some j=>
  dsimp only
  obtain⟨hj,hpj,_⟩:=List.findIdx?_eq_some_iff_getElem.mp hr
  have e1:A0 es.toList[j]=k:=((hg.is (List.getElem_mem hj)).mp hpj).symm
  have hmem:k∈ks:=by
   rw[←hk,←e1]
   exact List.mem_map_of_mem (List.getElem_mem hj)
  refine wpAny_pure (h (some (0+j)) (by rw[decide_eq_true hmem];rfl) fun i e=>?_)
  have e':j=i:=by injection e with e;omega
  subst e'
  rw[←hk,List.getElem?_map,List.getElem?_eq_getElem hj,←e1]
  rfl
theorem HY {Q:Bool→Shared→Prop} {l:List Addr} (hl:∀b∈l,∃kb,SetIt w s.heap b kb) (h:Q true s):wpAny (model prog w) A (setsQuiet l) Q E s:=by
 unfold setsQuiet
 refine wpAny_bind ?_
 refine wpAny_forIn_list _ (fun rest r s'=>r.1=none∧s'=s∧∀b∈rest,∃kb,SetIt w s.heap b kb) _ ?_ ?_ _ _ ⟨rfl,rfl,hl⟩
 ·rintro b rest r s' ⟨hr,rfl,hall⟩
  obtain⟨kb,o,es,ep,t,ho,hex,hd,hg,hk,nd,hl,ok,hf⟩:=hall b List.mem_cons_self
  unfold setEntries
  refine wpAny_bind (wpAny_bind (wpAny_setState_of ho hd hf (wpAny_pure ?_)))
  refine wpAny_bind ?_
  refine wpAny_forIn_array' _ (fun rest' r' s''=>r'.1=none∧s''=s'∧EGood rest') _ ?_ ?_ _ _ ⟨rfl,rfl,hg⟩
  ·rintro⟨hh,x⟩ rest' r' s' ⟨hr',rfl,g⟩
   obtain⟨_,t',e⟩:=g _ List.mem_cons_self
   have e':x= .int (A0 (hh,x)) t':=e
   rw[e']
   exact wpAny_pure ⟨rfl,rfl,fun y hy=>g y (List.mem_cons_of_mem _ hy)⟩
  ·rintro⟨r1,r2⟩ s' ⟨hr',rfl,_⟩
   simp only at hr'
   subst hr'
   exact wpAny_pure ⟨rfl,rfl,fun c hc=>hall c (List.mem_cons_of_mem _ hc)⟩
 ·rintro⟨r1,r2⟩ s' ⟨hr,rfl,_⟩
  simp only at hr
  subst hr
  exact wpAny_pure h
theorem Kj {o:Obj} {es:Array (Int×Value)} {ep:Nat} {t:SetTable} {Q:Array (Int×Value)→Shared→Prop} (ho:s.heap.get? a=some o) (hd:o.data= .set es ep t) (ok:FI (BB w) t) (hf:t.fits es.size=true)
  (hc:(BB w || (t.led && t.plain) || decide (es.size≤1))=true) (h:∀es':Array (Int×Value),es'.toList.Perm es.toList→Q es' s):wpAny (model prog w) A (setWalk a) Q E s:=by
 unfold setWalk setsByText
 refine wpAny_bind (wpAny_setState_of ho hd hf ?_)
 dsimp only
 refine wpAny_bind (wpAny_bind (wpAny_askSetting (wpAny_pure ?_)))
 show wpAny _ _ (if BB w=true then _ else _) _ _ _
 cases hb:BB w with
 | true=>
  rw[if_pos rfl]
  refine wpAny_bind (wpAny_askSetting ?_)
  exact wpAny_pure (h _ (Dy _ _))
 | false=>
  rw[if_neg Bool.false_ne_true]
  have hn:(!t.plain && decide (es.size>1))=false:=by
   rw[hb,Bool.false_or] at hc
   cases hp:t.plain with
   | true=>rfl
   | false=>
    rw[hp,Bool.and_false,Bool.false_or] at hc
    have:=of_decide_eq_true hc
    simp
    omega
  show wpAny _ _ (if (!t.plain && decide (es.size>1))=true then _ else _) _ _ _
  rw[hn,if_neg Bool.false_ne_true]
  refine wpAny_bind ?_
  show wpAny _ _ (if (!t.led && decide (es.size>1))=true then _ else _) _ _ _
  rw[ok.led,hb,if_neg (by simp)]
  exact wpAny_pure (wpAny_pure (h es (List.Perm.refl _)))
theorem HS {f:Addr} {others:List Addr} {kf:List Int} {Q:Array (Int×Value)→Shared→Prop} (hS:SetIt w s.heap a ks) (hF:SetIs w s.heap f kf) (hO:∀b∈others,∃kb,SetIt w s.heap b kb)
  (h:∀(es':Array (Int×Value)) (h':Heap),EGood es'.toList→(es'.toList.map A0).Perm ks→Heap.SameBut f s.heap h'→SetIs w h' f kf→Q es' { s with heap:=h' }):wpAny (model prog w) A (setWalkUnseen a others (some f)) Q E s:=by
 obtain⟨o,es,ep,t,ho,hex,hd,hg,hk,nd,hl,ok,hf⟩:=id hS
 have stay:∀es':Array (Int×Value),es'.toList.Perm es.toList→Q es' s:=fun es' hp=>by
  have:=h es' s.heap (fun e he=>hg e (hp.mem_iff.mp he)) (by rw[←hk];exact hp.map A0) (Heap.SameBut.refl _ _) hF
  have e:s={ s with heap:=s.heap }:=by cases s;rfl
  rw[e];exact this
 unfold setWalkUnseen setsByText
 refine wpAny_bind (wpAny_setState_of ho hd hf ?_)
 dsimp only
 refine wpAny_bind (wpAny_bind (wpAny_askSetting (wpAny_pure ?_)))
 show wpAny _ _ (if (BB w || (t.led && t.plain) || decide (es.size≤1))=true then _ else _) _ _ _
 split
 ·rename_i hc
  exact Kj ho hd ok hf hc stay
 ·rename_i hc
  have hb:BB w=false:=by
   cases q:BB w with
   | true=>rw[q] at hc;exact absurd rfl hc
   | false=>rfl
  refine wpAny_bind (HY (fun b hb=>?_) ?_)
  ·rcases List.mem_cons.mp hb with e | e
   ·subst e;exact⟨_,hS⟩
   ·exact hO b e
  simp only[Bool.not_true,Bool.false_eq_true,if_false]
  refine wpAny_bind (wpAny_rule ?_)
  obtain⟨of,ef,epf,tf,hof,hexf,hdf,hgf,hkf,ndf,hlf,okf,hff⟩:=id hF
  refine wpAny_bind (wpAny_setState_of hof hdf hff ?_)
  dsimp only
  split
  ·refine wpAny_bind (wpAny_storeSet_of hof hdf ?_ ?_)
   rotate_left
   exact (fits_of_scanBound (by rw[Dh hkf];exact Ck hlf))
   have:=(Ev (w:=w) (t':={ tf with led:=tf.led && t.led,plain:=tf.plain && t.plain }) hof hexf hdf hgf (by rw[hkf];exact ndf) (by rw[Dh hkf];exact hlf) ⟨okf.dum,by show (tf.led && t.led)=_;rw[okf.led,ok.led,Bool.and_self],okf.up⟩ hff).2
   rw[hkf] at this
   exact wpAny_pure (h es _ hg (by rw[hk]) (Heap.SameBut.update _ _ _) this)
  ·exact wpAny_pure ((stay es (List.Perm.refl _)))
theorem Nm {others:List Addr} {Q:Array (Int×Value)→Shared→Prop} (hS:SetIt w s.heap a ks) (hO:∀b∈others,∃kb,SetIt w s.heap b kb)
  (h:∀(es':Array (Int×Value)),EGood es'.toList→(es'.toList.map A0).Perm ks→Q es' s):wpAny (model prog w) A (setWalkUnseen a others none) Q E s:=by
 obtain⟨o,es,ep,t,ho,hex,hd,hg,hk,nd,hl,ok,hf⟩:=id hS
 have stay:∀es':Array (Int×Value),es'.toList.Perm es.toList→Q es' s:=fun es' hp=>
  h es' (fun e he=>hg e (hp.mem_iff.mp he)) (by rw[←hk];exact hp.map A0)
 unfold setWalkUnseen setsByText
 refine wpAny_bind (wpAny_setState_of ho hd hf ?_)
 dsimp only
 refine wpAny_bind (wpAny_bind (wpAny_askSetting (wpAny_pure ?_)))
 show wpAny _ _ (if (BB w || (t.led && t.plain) || decide (es.size≤1))=true then _ else _) _ _ _
 split
 ·rename_i hc
  exact Kj ho hd ok hf hc stay
 ·refine wpAny_bind (HY (fun b hb=>?_) ?_)
  ·rcases List.mem_cons.mp hb with e | e
   ·subst e;exact⟨_,hS⟩
   ·exact hO b e
  simp only[Bool.not_true,Bool.false_eq_true,if_false]
  refine wpAny_bind (wpAny_rule ?_)
  exact wpAny_pure (stay es (List.Perm.refl _))
end
end L2
namespace L2
open PySem PySem.Spec PyProof.Rows
namespace F
theorem entry_set_and:entryFor table "set.__and__"=some Builtin.«frozenset.__and__»:=entryFor_alias (id':="frozenset.__and__") (by kernel_rfl) rfl (by decide +kernel) (by kernel_rfl)
theorem entry_set_sub:entryFor table "set.__sub__"=some Builtin.«frozenset.__sub__»:=entryFor_alias (id':="frozenset.__sub__") (by kernel_rfl) rfl (by decide +kernel) (by kernel_rfl)
end F
section
variable {prog:Program} {w:World} {A:Around} {E:Value→Shared→Prop} {s:Shared} {a b r:Addr} {ka kb:List Int} {k:Int} {tk:Tok}
theorem Ei {Q:Nat→Shared→Prop} (hS:SetIt w s.heap a ka) (h:Q ka.length s):wpAny (model prog w) A (Builtin.Frozenset.sizeOf a) Q E s:=by
 obtain⟨o,es,ep,t,ho,hex,hd,hg,hk,nd,hl,ok,hf⟩:=hS
 unfold Builtin.Frozenset.sizeOf setEntries
 refine wpAny_bind (wpAny_bind (wpAny_setState_of ho hd hf (wpAny_pure ?_)))
 rw[Dh hk]
 exact wpAny_pure h
theorem Dm {Q:Bool→Shared→Prop} (hS:SetIt w s.heap a ka) (h:Q true s):wpAny (model prog w) A (Builtin.Frozenset.isAnySet (.ref a)) Q E s:=by
 unfold Builtin.Frozenset.isAnySet
 show wpAny _ _ (isInstance (.ref a) (.type "set") >>= _) _ _ _
 refine wpAny_bind (wpAny_isInstance hS.typeIs sub_set_self ?_)
 exact wpAny_pure h
theorem Ee {Q:Value→Shared→Prop} (hS:SetIt w s.heap a ka) (h:Q (.type "set") s):wpAny (model prog w) A (Builtin.Frozenset.baseOf a) Q E s:=by
 unfold Builtin.Frozenset.baseOf
 refine wpAny_bind (wpAny_isInstance hS.typeIs sub_set_self ?_)
 exact wpAny_pure h
theorem FY {Q:Value→Shared→Prop} (h:Q (.ref s.heap.objs.size) { s with heap:=s.heap.push (Bg w) }):wpAny (model prog w) A (newSet (.type "set")) Q E s:=by
 unfold newSet setsByText
 refine wpAny_bind (wpAny_bind (wpAny_askSetting (wpAny_pure ?_)))
 simp only[newObj]
 refine wpAny_bind (wpAny_alloc (wpAny_pure ?_))
 exact h
theorem ES {Q:Nat→Shared→Prop} {o:Obj} {es:Array (Int×Value)} {ep:Nat} {t:SetTable} (ho:s.heap.get? a=some o) (hd:o.data= .set es ep t) (hf:t.fits es.size=true) (h:Q ep s):wpAny (model prog w) A (setEpoch a) Q E s:=by
 unfold setEpoch
 exact wpAny_bind (wpAny_setState_of ho hd hf (wpAny_pure h))
theorem Dk {id:String} {Q:Unit→Shared→Prop} {o:Obj} {es:Array (Int×Value)} {ep:Nat} {t:SetTable} (ho:s.heap.get? a=some o) (hd:o.data= .set es ep t) (hf:t.fits es.size=true) (h:Q () s):wpAny (model prog w) A (Builtin.Frozenset.unchanged id a ep) Q E s:=by
 unfold Builtin.Frozenset.unchanged
 refine wpAny_bind (ES ho hd hf ?_)
 rw[if_neg (by simp)]
 exact wpAny_pure h
theorem Id {body:(Int×Value)→PUnit→Sem (ForInStep PUnit)} {p:Int→Bool} {R:PUnit→Shared→Prop} {es:Array (Int×Value)} {kr:List Int}
  (hbody:∀(k:Int) (tk:Tok) (h1:Heap) (k1:List Int) (Q':ForInStep PUnit→Shared→Prop),Heap.SameBut r s.heap h1→SetIs w h1 r k1→k1.length+1<2000→
   (∀h' k2,Heap.SameBut r h1 h'→SetIs w h' r k2→(∀j,j∈k2↔j∈k1∨(p k=true∧j=k))→k2.length≤k1.length+1→Q' (.yield ⟨⟩) { s with heap:=h' })→
   wpAny (model prog w) A (body (hashInt k,.int k tk) ⟨⟩) Q' E { s with heap:=h1 })
  (hg:EGood es.toList) (hR:SetIs w s.heap r kr) (hn:kr.length+es.size<1999)
  (h:∀h' k2,Heap.SameBut r s.heap h'→SetIs w h' r k2→(∀j,j∈k2↔j∈kr∨(p j=true∧j∈es.toList.map A0))→k2.length≤kr.length+es.size→R ⟨⟩ { s with heap:=h' }) :
  wpAny (model prog w) A (forIn es PUnit.unit body) R E s:=by
 refine wpAny_forIn_array' _ (fun rest _ s'=>∃h1 k1,s'={ s with heap:=h1 }∧Heap.SameBut r s.heap h1∧SetIs w h1 r k1∧EGood rest∧k1.length+rest.length≤kr.length+es.size∧
  (∀j,(j∈k1∨(p j=true∧j∈rest.map A0))↔j∈kr∨(p j=true∧j∈es.toList.map A0))) _ ?_ ?_ _ _ ⟨s.heap,kr,by cases s;rfl,Heap.SameBut.refl _ _,hR,hg,by rw[Array.length_toList];exact Nat.le_refl _,fun j=>Iff.rfl⟩
 ·rintro⟨hh,x⟩ rest u s' ⟨h1,k1,rfl,sb,hS,g,hl,hm⟩
  obtain⟨e1,t',e2⟩:=g _ List.mem_cons_self
  generalize hk:A0 (hh,x)=k at e1 e2
  dsimp only at e1 e2
  subst e1;subst e2
  rw[List.length_cons] at hl
  refine hbody k t' h1 k1 _ sb hS (by omega) fun h' k2 sb2 hS2 hm2 hl2=>?_
  refine⟨h',k2,rfl,sb.trans sb2,hS2,fun y hy=>g y (List.mem_cons_of_mem _ hy),by omega,fun j=>?_⟩
  rw[←hm j,hm2 j,List.map_cons,List.mem_cons]
  constructor
  ·rintro ((z | ⟨z1,z2⟩) | ⟨z1,z2⟩)
   ·exact .inl z
   ·exact .inr ⟨by rw[z2];exact z1,.inl (by rw[hk];exact z2)⟩
   ·exact .inr ⟨z1,.inr z2⟩
  ·rintro (z | ⟨z1,z2 | z2⟩)
   ·exact .inl (.inl z)
   ·exact .inl (.inr ⟨by rw[←hk,←z2];exact z1,by rw[←hk];exact z2⟩)
   ·exact .inr ⟨z1,z2⟩
 ·rintro u s' ⟨h1,k1,rfl,sb,hS,g,hl,hm⟩
  refine h h1 k1 sb hS (fun j=>?_) (by simpa using hl)
  rw[←hm j]
  simp
theorem DV {h:Heap} {o:Obj} (e:h.get? a=some o):a≠h.objs.size:=Nat.ne_of_lt (Heap.lt_size e)
theorem R5 {Q:Value→Shared→Prop} (ha:SetIt w s.heap a ka) (hb:SetIt w s.heap b kb) (hab:a≠b) (hl:ka.length+kb.length<1990)
  (h:∀h' k2,SetIs w h' s.heap.objs.size k2→(∀j,j∈k2↔j∈ka∧j∈kb)→k2.length≤ka.length+kb.length→(∀c o,s.heap.get? c=some o→h'.get? c=some o)→Q (.ref s.heap.objs.size) { s with heap:=h' }) :
  wpAny (model prog w) A (binaryOp .BitAnd (.ref a) (.ref b)) Q E s:=by
 refine wpAny_binaryOp_same ha.typeIs hb.typeIs PySem.F.fills_set_and PySem.F.slot_set_and ?_
 refine wpAny_call_entry PySem.F.slot_set_and ha.typeIs F.entry_set_and ?_ (PySem.F.args_set_and_2 _ _)
 show wpAny _ _ (do
  let (self,other) ←Builtin.Frozenset.slot1 "__and__" ⟨[.ref a,.ref b],[]⟩
  let (l,r):=if false=true then (other,self) else (self,other)
  if !(←Builtin.Frozenset.isAnySet l <&&> Builtin.Frozenset.isAnySet r) then rule s!"frozenset.{"__and__"}.declined";return ←ret .notImplemented
  ret (←Builtin.Frozenset.intersection s!"frozenset.{"__and__"}" (←Builtin.Frozenset.addrOf l) r)) _ _ _
 generalize s!"frozenset.{"__and__"}"=id0
 generalize s!"frozenset.{"__and__"}.declined"=id1
 show wpAny _ _ ((Builtin.Frozenset.isAnySet (.ref a) <&&> Builtin.Frozenset.isAnySet (.ref b)) >>= _) _ _ _
 refine wpAny_bind ?_
 show wpAny _ _ (Builtin.Frozenset.isAnySet (.ref a) >>= _) _ _ _
 refine wpAny_bind (Dm ha ?_)
 show wpAny _ _ (Builtin.Frozenset.isAnySet (.ref b)) _ _ _
 refine Dm hb ?_
 simp only[Bool.not_true,Bool.false_eq_true,if_false]
 show wpAny _ _ (Builtin.Frozenset.intersection id0 a (.ref b) >>= _) _ _ _
 refine wpAny_bind ?_
 unfold Builtin.Frozenset.intersection
 rw[if_neg (by intro z;have:=beq_iff_eq.mp z;injection this with this;exact hab this.symm)]
 refine wpAny_bind (Ee ha (wpAny_bind (FY ?_)))
 show wpAny _ _ (holding _ _ >>= _) _ _ _
 refine wpAny_bind (wpAny_holding ?_)
 have kk:∀c o,s.heap.get? c=some o→(s.heap.push (Bg w)).get? c=some o:=fun c o e=>Heap.get?_push_of_some _ e
 have ha1:=ha.keep (h':=s.heap.push (Bg w)) fun o e=>kk _ _ e
 have hb1:=hb.keep (h':=s.heap.push (Bg w)) fun o e=>kk _ _ e
 have hr1:SetIs w (s.heap.push (Bg w)) s.heap.objs.size []:=set0_is
 have na:a≠s.heap.objs.size:=let ⟨o,_,_,_,ho,_⟩:=ha;DV ho
 have nb:b≠s.heap.objs.size:=let ⟨o,_,_,_,ho,_⟩:=hb;DV ho
 generalize er:s.heap.objs.size=r at *
 refine wpAny_bind (Dm hb1 ?_)
 simp only[if_true]
 show wpAny _ _ (Builtin.Frozenset.sizeOf b >>= _) _ _ _
 refine wpAny_bind (Ei hb1 ?_)
 refine wpAny_bind (Ei ha1 ?_)
 have hp:∃pa pw kpa kpw,(if kb.length>ka.length then (b,a) else (a,b))=(pa,pw)∧SetIt w (s.heap.push (Bg w)) pa kpa∧SetIt w (s.heap.push (Bg w)) pw kpw∧pa≠r∧pw≠r∧(∀j,j∈kpa∧j∈kpw↔j∈ka∧j∈kb)∧kpw.length≤ka.length+kb.length:=by
  by_cases z:kb.length>ka.length
  ·exact⟨b,a,kb,ka,if_pos z,hb1,ha1,nb,na,fun j=>and_comm,Nat.le_add_right _ _⟩
  ·exact⟨a,b,ka,kb,if_neg z,ha1,hb1,na,nb,fun j=>Iff.rfl,Nat.le_add_left _ _⟩
 obtain⟨pa,pw,kpa,kpw,e,hpa,hpw,npa,npw,hj,hlw⟩:=hp
 rw[e]
 dsimp only
 obtain⟨o,es,ep,t,ho,hex,hd,hg,hk,nd,hlk,ok,hf⟩:=id hpw
 refine wpAny_bind (ES ho hd hf ?_)
 refine wpAny_bind (HS hpw hr1 (fun c hc=>?_) fun es' h' hg' hp' sb hr'=>?_)
 ·simp only[List.mem_cons,List.not_mem_nil,or_false] at hc
  rcases hc with rfl | rfl
  ·exact⟨_,hpa⟩
  ·exact⟨_,hr1.it⟩
 have hsz:es'.size=kpw.length:=by rw[←hp'.length_eq,List.length_map,Array.length_toList]
 refine wpAny_bind (wpAny_mono (Id (r:=r) (p:=fun j=>decide (j∈kpa)) (R:=fun _ s'=>∃h' k2,s'={ s with heap:=h' }∧Heap.SameBut r (s.heap.push (Bg w)) h'∧SetIs w h' r k2∧(∀j,j∈k2↔j∈ka∧j∈kb)∧k2.length≤ka.length+kb.length) ?_ hg' hr' (by rw[hsz];simp;omega) fun h2 k2 sb2 hS2 hm2 hl2=>⟨h2,k2,rfl,sb.trans sb2,hS2,fun j=>?_,by rw[hsz] at hl2;simp at hl2;omega⟩) ?_ fun _ _ h'=>h')
 ·intro k tk h1 k1 Q' sb1 hS1 hl1 hQ
  have hpa1:SetIt w h1 pa kpa:=hpa.keep fun o e=>by rw[sb1.2 _ npa,sb.2 _ npa];exact e
  refine wpAny_bind ?_
  refine wpAny_holding ?_
  refine wpAny_bind (Gz (s:={ s with heap:=h1 }) hpa1 fun rr hrr _=>?_)
  have fin:∀h' k2,Heap.SameBut r h1 h'→SetIs w h' r k2→(∀j,j∈k2↔j∈k1∨(decide (k∈kpa)=true∧j=k))→k2.length≤k1.length+1→wpAny (model prog w) A.in1 (Builtin.Frozenset.unchanged id0 pw ep >>= fun _=>pure (ForInStep.yield PUnit.unit)) Q' E { s with heap:=h' }:=fun h' k2 sb' hS' hm' hl'=>by
   have ho':h'.get? pw=some o:=by rw[sb'.2 _ npw,sb1.2 _ npw,sb.2 _ npw];exact ho
   exact wpAny_bind (Dk (s:={ s with heap:=h' }) ho' hd hf (wpAny_pure (hQ h' k2 sb' hS' hm' hl')))
  by_cases hmem:k∈kpa
  ·rw[hrr,decide_eq_true hmem,if_pos rfl]
   refine wpAny_bind (FW (s:={ s with heap:=h1 }) hS1 hl1 fun h' k2 sb' hS' hm' hl'=>wpAny_pure ?_)
   exact fin h' k2 sb' hS' (fun j=>by rw[hm' j,decide_eq_true hmem];simp) hl'
  ·rw[hrr,decide_eq_false hmem,if_neg Bool.false_ne_true]
   refine wpAny_pure ?_
   exact fin h1 k1 (Heap.SameBut.refl _ _) hS1 (fun j=>by rw[decide_eq_false hmem];simp) (Nat.le_succ _)
 ·rw[hm2 j]
  rw[hp'.mem_iff,decide_eq_true_eq,←hj j]
  simp
 ·rintro u s' ⟨h',k2,rfl,sb',hS',hm',hl'⟩
  refine wpAny_pure ?_
  refine wpAny_pure ?_
  refine wpAny_pure ⟨_,rfl,by simp,?_⟩
  exact h h' k2 hS' hm' hl' fun c o e=>by
   have:c≠r:=by rw[←er];exact DV e
   rw[sb'.2 _ this];exact kk c o e
end
end L2
namespace L2
open PySem PySem.Spec PyProof.Rows
theorem Kc {f g:Nat→Option Nat}:∀l:List Nat,(∀x∈l,g x=f x)→l.filterMap g=l.filterMap f
 | [],_=>rfl
 | x::l,h=>by
  have ih:=Kc l fun y hy=>h y (List.mem_cons_of_mem _ hy)
  have e:=h x List.mem_cons_self
  cases q:f x with
  | none=>rw[List.filterMap_cons_none (e.trans q),List.filterMap_cons_none q,ih]
  | some v=>rw[List.filterMap_cons_some (e.trans q),List.filterMap_cons_some q,ih]
theorem Qt {f g:Nat→Option Nat} {j k:Nat} (hf:f j=none) (hg:g j=some k) (hne:∀x,x≠j→g x=f x):∀l:List Nat,l.Nodup→j∈l→(l.filterMap g).Perm (k::l.filterMap f)
 | [],_,h=>by cases h
 | x::l,nd,h=>by
  have nd':=List.nodup_cons.mp nd
  by_cases e:x=j
  ·subst e
   have:l.filterMap g=l.filterMap f:=Kc l fun y hy=>hne y fun z=>nd'.1 (z ▸ hy)
   rw[List.filterMap_cons_some hg,List.filterMap_cons_none hf,this]
  ·have hj:j∈l:=by
    rcases List.mem_cons.mp h with z | z
    ·exact absurd z.symm e
    ·exact z
   have ih:=Qt hf hg hne l nd'.2 hj
   have ex:=hne x e
   cases q:f x with
   | none=>rw[List.filterMap_cons_none (ex.trans q),List.filterMap_cons_none q];exact ih
   | some v=>rw[List.filterMap_cons_some (ex.trans q),List.filterMap_cons_some q];exact (ih.cons v).trans (List.Perm.swap _ _ _)
theorem P0 {f:Nat→Option Nat}:∀l:List Nat,(∀x∈l,f x≠none)→(l.filterMap f).length=l.length
 | [],_=>rfl
 | x::l,h=>by
  cases q:f x with
  | none=>exact absurd q (h x List.mem_cons_self)
  | some v=>rw[List.filterMap_cons_some q,List.length_cons,List.length_cons,P0 l fun y hy=>h y (List.mem_cons_of_mem _ hy)]
abbrev OB (n:Nat) (owner:Array (Option Nat)):List Nat:=(List.range n).filterMap fun j=>owner.getD j none
def UQ (mask:Nat):Nat→Nat×Nat→Nat×Nat
 | 0,x=>x
 | t+1,x=>UQ mask t (SetTable.leap mask x.1 x.2)
theorem HN {mask:Nat} {owner:Array (Option Nat)} {j:Nat}:∀(fuel i p:Nat),SetTable.layClean.free mask owner fuel i p=some j→owner.getD j (some 0)=none
 | 0,_,_,h=>by cases h
 | fuel+1,i,p,h=>by
  unfold SetTable.layClean.free at h
  split at h
  ·rename_i k e
   injection h with h
   subst h
   exact Option.isNone_iff_eq_none.mp (List.find?_some (p:=fun k=>(owner.getD (i+k) (some 0)).isNone) e)
  ·exact HN fuel _ _ h
theorem Ik {mask:Nat} {owner:Array (Option Nat)}:∀(fuel i p t:Nat),t<fuel→owner.getD (UQ mask t (i,p)).1 (some 0)=none→∃j,SetTable.layClean.free mask owner fuel i p=some j
 | 0,_,_,t,h,_=>absurd h (Nat.not_lt_zero _)
 | fuel+1,i,p,t,h,e=>by
  unfold SetTable.layClean.free
  split
  ·exact⟨_,rfl⟩
  ·rename_i q
   cases t with
   | zero=>
    have:=List.find?_eq_none.mp q 0 (List.mem_range.mpr (by unfold SetTable.runEnd;split<;>omega))
    rw[Nat.add_zero] at this
    have e':owner.getD i (some 0)=none:=e
    rw[e'] at this
    exact absurd rfl this
   | succ t=>exact Ik fuel _ _ t (Nat.lt_of_succ_lt_succ h) e
def Mn (mask:Nat):Nat→Nat→Nat→Nat
 | 0,_,acc=>acc
 | n+1,i,acc=>Mn mask n ((i*5+1)%(mask+1)) (acc ||| 1 <<< i)
theorem JX {mask j:Nat}:∀(n i acc:Nat),(Mn mask n i acc).testBit j=true→acc.testBit j=true∨∃t,t<n∧(UQ mask t (i,0)).1=j
 | 0,_,_,h=>.inl h
 | n+1,i,acc,h=>by
  rcases JX n _ _ h with z | ⟨t,h1,h2⟩
  ·rw[Nat.testBit_or,Bool.or_eq_true] at z
   rcases z with z | z
   ·exact .inl z
   ·rw[Nat.shiftLeft_eq,Nat.one_mul,Nat.testBit_two_pow] at z
    exact .inr ⟨0,Nat.succ_pos _,of_decide_eq_true z⟩
  ·refine .inr ⟨t+1,Nat.succ_lt_succ h1,?_⟩
   show (UQ mask t (SetTable.leap mask i 0)).1=j
   unfold SetTable.leap
   rw[Nat.zero_div,Nat.add_zero]
   exact h2
def Q9 (mask:Nat):Prop:=∀i j,i≤mask→j≤mask→∃t,t<mask+1∧(UQ mask t (i,0)).1=j
theorem GK {mask:Nat} (h:(List.range (mask+1)).all (fun i=>Mn mask (mask+1) i 0 == 2^(mask+1)-1)=true):Q9 mask:=fun i j hi hj=>by
 have:=List.all_eq_true.mp h i (List.mem_range.mpr (Nat.lt_succ_of_le hi))
 have e:=beq_iff_eq.mp this
 have:(Mn mask (mask+1) i 0).testBit j=true:=by
  rw[e,Nat.testBit_two_pow_sub_one]
  exact decide_eq_true (Nat.lt_succ_of_le hj)
 rcases JX _ _ _ this with z | z
 ·rw[Nat.zero_testBit] at z;cases z
 ·exact z
theorem Wx:Q9 7:=GK (by decide +kernel)
theorem U0:Q9 15:=GK (by decide +kernel)
theorem Vv:Q9 31:=GK (by decide +kernel)
theorem U2:Q9 63:=GK (by decide +kernel)
theorem UB:Q9 127:=GK (by decide +kernel)
theorem getD_none {owner:Array (Option Nat)} {j:Nat}:owner.getD j (some 0)=none→j<owner.size∧owner.getD j none=none:=fun h=>by
 by_cases z:j<owner.size
 ·refine⟨z,?_⟩
  simp[Array.getD,z] at h ⊢
  exact h
 ·simp[Array.getD,z] at h
theorem P1 {mask:Nat} (cov:Q9 mask):∀(hs:List Int) (owner:Array (Option Nat)) (k:Nat),owner.size=mask+1→(OB (mask+1) owner).Perm (List.range k)→k+hs.length≤mask+1→(∀h∈hs,SetTable.bits h<32)→
  ∃owner':Array (Option Nat),hs.foldl (fun (acc:Option (Array (Option Nat)×Nat)) h=>(do
   let (owner,k) ←acc
   let j ←SetTable.layClean.free mask owner (SetTable.turns mask) (SetTable.bits h%(mask+1)) (SetTable.bits h)
   pure (owner.setIfInBounds j (some k),k+1))) (some (owner,k))=some (owner',k+hs.length)∧owner'.size=mask+1∧(OB (mask+1) owner').Perm (List.range (k+hs.length))
 | [],owner,k,hz,hp,_,_=>⟨owner,rfl,hz,hp⟩
 | h::hs,owner,k,hz,hp,hl,hb=>by
  rw[List.length_cons] at hl
  have hex:∃j,j≤mask∧owner.getD j none=none:=Classical.byContradiction fun z=>by
   have:=P0 (f:=fun j=>owner.getD j none) (List.range (mask+1)) fun x hx e=>z ⟨x,Nat.le_of_lt_succ (List.mem_range.mp hx),e⟩
   have e2:=hp.length_eq
   rw[List.length_range] at this e2
   change (OB (mask+1) owner).length=_ at this
   omega
  obtain⟨j0,hj0,e0⟩:=hex
  have e0':owner.getD j0 (some 0)=none:=by
   have:j0<owner.size:=by omega
   simp[Array.getD,this] at e0 ⊢
   exact e0
  have hb0:=hb h List.mem_cons_self
  have hd:SetTable.bits h / 32=0:=Nat.div_eq_of_lt hb0
  obtain⟨t,ht,et⟩:=cov ((SetTable.bits h%(mask+1)*5+1)%(mask+1)) j0 (Nat.le_of_lt_succ (Nat.mod_lt _ (Nat.succ_pos _))) hj0
  obtain⟨j,ej⟩:=Ik (mask:=mask) (owner:=owner) (SetTable.turns mask) (SetTable.bits h%(mask+1)) (SetTable.bits h) (t+1) (by unfold SetTable.turns;omega) (by
   show owner.getD (UQ mask t (SetTable.leap mask _ _)).1 (some 0)=none
   unfold SetTable.leap
   rw[hd,Nat.add_zero,et]
   exact e0')
  obtain⟨jl,jn⟩:=getD_none (HN _ _ _ ej)
  have hp':(OB (mask+1) (owner.setIfInBounds j (some k))).Perm (List.range (k+1)):=by
   refine (Qt (f:=fun j=>owner.getD j none) (g:=fun x=>(owner.setIfInBounds j (some k)).getD x none) (j:=j) (k:=k) jn ?_ (fun x hx=>?_) _ List.nodup_range (List.mem_range.mpr (by omega))).trans ?_
   ·simp[Array.getD,jl]
   ·simp only[Array.getD_eq_getD_getElem?]
    rw[Array.getElem?_setIfInBounds_ne (Ne.symm hx)]
   ·refine (hp.cons k).trans ?_
    rw[List.range_succ (n:=k)]
    exact List.perm_append_comm (l₁:=[k])
  obtain⟨o',h1,h2,h3⟩:=P1 cov hs (owner.setIfInBounds j (some k)) (k+1) (by rw[Array.size_setIfInBounds];exact hz) hp' (by omega) fun y hy=>hb y (List.mem_cons_of_mem _ hy)
  have ek:k+1+hs.length=k+(hs.length+1):=by omega
  refine⟨o',?_,h2,?_⟩
  ·rw[List.foldl_cons]
   show List.foldl _ (SetTable.layClean.free mask owner (SetTable.turns mask) (SetTable.bits h%(mask+1)) (SetTable.bits h) >>= _) hs=_
   rw[ej,List.length_cons,←ek]
   exact h1
  ·rw[List.length_cons,←ek];exact h3
theorem Ml {mask:Nat} (cov:Q9 mask) (finger moves:Nat) (led plain:Bool) (hs:Array Int) (hl:hs.size≤mask) (hb:∀h∈hs.toList,SetTable.bits h<32) :
  ∃t order,SetTable.laid mask finger moves led plain hs=some (t,order)∧order.toList.Perm (List.range hs.size)∧t.dummies = #[]∧t.led=led∧Up t.place∧t.place.size=hs.size∧t.mask=mask:=by
 have hr:(OB (mask+1) (Array.replicate (mask+1) none)).Perm (List.range 0):=by
  have:OB (mask+1) (Array.replicate (mask+1) none)=[]:=by
   refine List.filterMap_eq_nil_iff.mpr fun x hx=>?_
   simp[Array.getD]
  rw[this]
  exact List.Perm.refl _
 obtain⟨owner,h1,h2,h3⟩:=P1 cov hs.toList _ 0 Array.size_replicate hr (by rw[Array.length_toList];omega) hb
 rw[Nat.zero_add,Array.length_toList] at h1 h3
 have e:SetTable.layClean mask hs=some owner:=by
  unfold SetTable.layClean
  rw[←Array.foldl_toList]
  exact congrArg (Option.map (·.1)) h1
 unfold SetTable.laid
 rw[e]
 refine⟨_,_,rfl,?_,rfl,rfl,?_,?_,rfl⟩
 ·show (List.map (fun x:Nat×Nat=>x.2) (List.filterMap (fun j=>Option.map (fun x=>(j,x)) (owner.getD j none)) (List.range (mask+1)))).Perm _
  rw[List.map_filterMap]
  have:(fun j=>Option.map (fun x:Nat×Nat=>x.2) (Option.map (fun x=>(j,x)) (owner.getD j none)))=fun j=>owner.getD j none:=by
   funext j
   cases owner.getD j none<;>rfl
  rw[this]
  exact h3
 ·show (List.map (fun x:Nat×Nat=>x.fst) (List.filterMap (fun j=>Option.map (fun x=>(j,x)) (owner.getD j none)) (List.range (mask+1)))).toArray.toList.Pairwise (· < ·)
  rw[List.toList_toArray]
  rw[List.map_filterMap]
  refine List.Pairwise.filterMap _ (R:=(· < ·)) ?_ List.pairwise_lt_range
  intro a a' hlt b hb b' hb'
  have f:∀{a b:Nat},Option.map (fun x:Nat×Nat=>x.1) (Option.map (fun x=>(a,x)) (owner.getD a none))=some b→b=a:=fun {a b} e=>by
   cases q:owner.getD a none with
   | none=>rw[q] at e;cases e
   | some y=>rw[q] at e;injection e with e;exact e.symm
  rw[f hb,f hb']
  exact hlt
 ·show (List.map (fun x:Nat×Nat=>x.fst) (List.filterMap (fun j=>Option.map (fun x=>(j,x)) (owner.getD j none)) (List.range (mask+1)))).toArray.size=_
  have e3:=h3.length_eq
  rw[List.length_range] at e3
  rw[List.size_toArray,List.length_map,←e3]
  have:∀l:List Nat,(List.filterMap (fun j=>Option.map (fun x=>(j,x)) (owner.getD j none)) l).length=(List.filterMap (fun j=>owner.getD j none) l).length:=fun l=>by
   induction l with
   | nil=>rfl
   | cons x l ih=>cases q:owner.getD x none with
    | none=>rw[List.filterMap_cons_none (by rw[q];rfl),List.filterMap_cons_none (f:=fun j=>owner.getD j none) q];exact ih
    | some v=>rw[List.filterMap_cons_some (by rw[q];rfl),List.filterMap_cons_some (f:=fun j=>owner.getD j none) q,List.length_cons,List.length_cons,ih]
  exact this _
end L2
namespace L2
open PySem PySem.Spec PyProof.Rows
theorem BK {α:Type} (xs:Array α) (p:Nat):(SetTable.eraseAt xs p).toList=xs.toList.eraseIdx p:=by
 simp[SetTable.eraseAt,List.extract_eq_take_drop,List.eraseIdx_eq_take_drop_succ,List.take_of_length_le]
def SetDr (w:World) (h:Heap) (a:Addr) (ks:List Int) (m d:Nat):Prop:=
 ∃o es ep t,h.get? a=some o∧o.ExactSet∧o.data= .set es ep t∧EGood es.toList∧es.toList.map A0=ks∧ks.Nodup∧ks.length<2000∧FI (BB w) t∧t.fits es.size=true∧t.mask=m∧t.dummies.size≤d
theorem SetDr.it {w:World} {h:Heap} {a:Addr} {ks:List Int} {m d:Nat} (x:SetDr w h a ks m d):SetIt w h a ks:=by
 obtain⟨o,es,ep,t,h1,h2,h3,h4,h5,h6,h7,h8,h9,_⟩:=x
 exact⟨o,es,ep,t,h1,h2,h3,h4,h5,h6,h7,h8,h9⟩
theorem Gb {h:Heap} {o:Obj} {a:Addr} {es es':Array (Int×Value)} {ep:Nat} {t t':SetTable} (ho:h.get? a=some o) (hd:o.data= .set es ep t) :
  (h.update a (Obj.putSet es' t')).get? a=some { o with data:=.set es' (ep+1) t' }:=by
 have:=Heap.get?_update_self (Obj.putSet es' t') ho (by rw[putSet_of es' t' hd];rfl)
 rw[putSet_of es' t' hd] at this;exact this
theorem KR {k:Int} (h0:0≤k) (h1:k<32):SetTable.bits (hashInt k)<32:=by
 obtain⟨n,rfl⟩:=Int.eq_ofNat_of_zero_le h0
 have hn:n<32:=by omega
 have:∀n:Fin 32,SetTable.bits (hashInt (n.val:Int))<32:=by decide +kernel
 exact this ⟨n,hn⟩
section
variable {prog:Program} {w:World} {A:Around} {E:Value→Shared→Prop} {s:Shared} {a b r:Addr} {ka kb ks:List Int} {k:Int} {tk:Tok}
theorem KB {Q:Bool→Shared→Prop} {m d:Nat} (hS:SetDr w s.heap a ks m d)
  (h:∀(bb:Bool) h' ks',Heap.SameBut a s.heap h'→SetDr w h' a ks' m (d+1)→(∀j,j∈ks'↔j∈ks∧j≠k)→ks'.length≤ks.length→Q bb { s with heap:=h' }) :
  wpAny (model prog w) A (setDiscardHashed a (.int k tk) (hashInt k)) Q E s:=by
 obtain⟨o,es,ep,t,ho,hex,hd,hg,hk,nd,hl,ok,hf,em,ed⟩:=id hS
 unfold setDiscardHashed
 refine wpAny_bind (Gz hS.it fun rr hrr hat=>?_)
 cases rr with
 | none=>
  have hmem:k∉ks:=by
   intro z
   rw[decide_eq_true z] at hrr
   cases hrr
  have e:s={ s with heap:=s.heap }:=by cases s;rfl
  have:=h false s.heap ks (Heap.SameBut.refl _ _) ⟨o,es,ep,t,ho,hex,hd,hg,hk,nd,hl,ok,hf,em,Nat.le_succ_of_le ed⟩ (fun j=>⟨fun z=>⟨z,fun e=>hmem (e ▸ z)⟩,fun z=>z.1⟩) (Nat.le_refl _)
  rw[e]
  exact wpAny_pure this
 | some i=>
  have hki:=hat i rfl
  obtain⟨hi,eki⟩:=List.getElem?_eq_some_iff.mp hki
  have hsz:=Dh hk
  have hpl:t.place.size=es.size:=by
   unfold SetTable.fits at hf
   exact beq_iff_eq.mp (Bool.and_eq_true_iff.mp hf).1
  have hfl:t.place.size+t.dummies.size≤t.mask:=by
   unfold SetTable.fits at hf
   exact of_decide_eq_true (Bool.and_eq_true_iff.mp hf).2
  have hip:i<t.place.size:=by omega
  have edrop:t.drop i={ t with place:=SetTable.eraseAt t.place i,dummies:=SetTable.insertAt t.dummies (SetTable.below t.dummies t.place[i]) t.place[i] }:=by
   unfold SetTable.drop
   rw[Array.getElem?_eq_getElem hip]
  have hkeys:(SetTable.eraseAt es i).toList.map A0=ks.eraseIdx i:=by
   rw[BK,←hk,List.eraseIdx_eq_take_drop_succ,List.eraseIdx_eq_take_drop_succ,List.map_append,List.map_take,List.map_drop]
  have hpm:=Dl ks i hi
  rw[eki] at hpm
  have nd':=hpm.nodup_iff.mpr nd
  have hlen:(ks.eraseIdx i).length+1=ks.length:=by rw[←hpm.length_eq,List.length_cons]
  have hes:(SetTable.eraseAt es i).size=(ks.eraseIdx i).length:=by rw[←hkeys,List.length_map,Array.length_toList]
  have hps:(SetTable.eraseAt t.place i).size+1=t.place.size:=by
   rw[←Array.length_toList,BK,List.length_eraseIdx,Array.length_toList,if_pos hip];omega
  have hds:(SetTable.insertAt t.dummies (SetTable.below t.dummies t.place[i]) t.place[i]).size=t.dummies.size+1:=by
   rw[←Array.length_toList,(SetTable.insertAt_perm _ _ _).length_eq]
   simp
  dsimp only
  refine wpAny_bind (wpAny_setState_of ho hd hf ?_)
  dsimp only
  refine wpAny_bind (wpAny_storeSet_of ho hd ?_ (fits_of_scanBound (by rw[hes];exact Ck (by omega))))
  refine wpAny_bind (wpAny_point (wpAny_pure ?_))
  refine h true _ (ks.eraseIdx i) (Heap.SameBut.update _ _ _) ⟨_,_,_,_,Gb ho hd,hex,rfl,?_,hkeys,(List.nodup_cons.mp nd').2,by omega,?_,?_,?_,?_⟩ (fun j=>?_) (by omega)
  ·intro e he
   rw[BK] at he
   exact hg e (List.mem_of_mem_eraseIdx he)
  ·rw[edrop]
   refine⟨ok.led,?_⟩
   show (SetTable.eraseAt t.place i).toList.Pairwise (· < ·)
   rw[BK]
   exact List.Pairwise.sublist (List.eraseIdx_sublist _ _) ok.up
  ·rw[edrop]
   unfold SetTable.fits SetTable.fill
   show ((SetTable.eraseAt t.place i).size == _ && decide ((SetTable.eraseAt t.place i).size+(SetTable.insertAt t.dummies _ _).size≤t.mask))=true
   rw[hds,Bool.and_eq_true_iff]
   exact⟨beq_iff_eq.mpr (by omega),decide_eq_true (by omega)⟩
  ·rw[edrop];exact em
  ·rw[edrop]
   show (SetTable.insertAt t.dummies _ _).size≤d+1
   rw[hds];omega
  ·rw[←hpm.mem_iff,List.mem_cons]
   have hn:=(List.nodup_cons.mp nd').1
   constructor
   ·intro z;exact⟨.inr z,fun e=>hn (e ▸ z)⟩
   ·rintro⟨z | z,ne⟩
    ·exact absurd z ne
    ·exact z
theorem LR {es:Array (Int×Value)} {t:SetTable} {order:Array Nat} (hp:order.toList.Perm (List.range es.size)):(order.filterMap (es[·]?)).toList.Perm es.toList:=by
 rw[Array.toList_filterMap]
 exact (hp.filterMap _).trans (by rw[filterMap_getElem?_range])
end
end L2
namespace L2
open PySem PySem.Spec PyProof.Rows
theorem Ru (n:Nat) (hn:n≤32):∃m,(∀led:Bool,(SetTable.fresh 0 0 led).roomFor n=if m=7 then none else some (2*n))∧(m≠7→SetTable.sizeAbove (2*n)-1=m)∧n≤m∧Q9 m∧SetTable.sizeAbove (2*n)≤128:=by
 have key:∀n:Fin 33,(decide (n.val≤4) && decide (n.val*5<21)) || (decide (4<n.val) && decide (21≤n.val*5) && (SetTable.sizeAbove (2*n.val)-1 == 15 || SetTable.sizeAbove (2*n.val)-1 == 31 || SetTable.sizeAbove (2*n.val)-1 == 63 || SetTable.sizeAbove (2*n.val)-1 == 127) && decide (n.val≤SetTable.sizeAbove (2*n.val)-1))=true:=by decide +kernel
 have key2:∀n:Fin 33,SetTable.sizeAbove (2*n.val)≤128:=by decide +kernel
 have hk:=key ⟨n,by omega⟩
 have hk2:=key2 ⟨n,by omega⟩
 dsimp only at hk hk2
 have hfill:∀led:Bool,(SetTable.fresh 0 0 led).roomFor n=if (0+n)*5≥7*3 then some ((0+n)*2) else none:=fun led=>rfl
 by_cases h4:n≤4
 ·refine⟨7,fun led=>?_,fun h=>absurd rfl h,by omega,Wx,hk2⟩
  rw[hfill,if_neg (by omega),if_pos rfl]
 ·have hgt:¬decide (n≤4)=true:=by simpa using h4
  simp only[Bool.or_eq_true,Bool.and_eq_true,decide_eq_true_eq,beq_iff_eq] at hk
  rcases hk with⟨z,_⟩|⟨⟨⟨_,h21⟩,hm⟩,hnm⟩
  ·exact absurd z h4
  ·have hf:∀m,m≠7→∀led:Bool,(SetTable.fresh 0 0 led).roomFor n=if m=7 then none else some (2*n):=fun m hm led=>by
    rw[hfill,if_pos (by omega),if_neg hm,Nat.zero_add,Nat.mul_comm]
   rcases hm with ((e | e) | e) | e
   ·exact⟨15,hf 15 (by decide),fun _=>e,by omega,U0,hk2⟩
   ·exact⟨31,hf 31 (by decide),fun _=>e,by omega,Vv,hk2⟩
   ·exact⟨63,hf 63 (by decide),fun _=>e,by omega,U2,hk2⟩
   ·exact⟨127,hf 127 (by decide),fun _=>e,by omega,UB,hk2⟩
section
variable {prog:Program} {w:World} {A:Around} {E:Value→Shared→Prop} {s:Shared} {a b r:Addr} {ka kb ks:List Int} {k:Int} {tk:Tok}
theorem Qu {n m:Nat} {Q:Unit→Shared→Prop} (ho:s.heap.get? r=some (Bg w)) (hr:∀led:Bool,(SetTable.fresh 0 0 led).roomFor n=if m=7 then none else some (2*n)) (hm:m≠7→SetTable.sizeAbove (2*n)-1=m) (cov:Q9 m) (h128:SetTable.sizeAbove (2*n)≤128)
  (h:∀h' o' ep t,Heap.SameBut r s.heap h'→h'.get? r=some o'→o'.ExactSet→o'.data= .set #[] ep t→t.fits 0=true→t.mask=m→t.place.size=0→t.dummies = #[]→t.led = !BB w→Q () { s with heap:=h' }) :
  wpAny (model prog w) A (setRoomFor r n) Q E s:=by
 unfold setRoomFor
 refine wpAny_bind (wpAny_setState_of ho rfl rfl ?_)
 dsimp only
 rw[hr]
 by_cases z:m=7
 ·rw[if_pos z]
  dsimp only
  have e:s={ s with heap:=s.heap }:=by cases s;rfl
  rw[e]
  exact wpAny_pure (h s.heap _ 0 _ (Heap.SameBut.refl _ _) ho ⟨rfl,rfl,rfl⟩ rfl rfl z.symm rfl rfl rfl)
 ·rw[if_neg z]
  dsimp only
  unfold setRelay
  refine wpAny_bind (wpAny_setState_of ho rfl rfl ?_)
  dsimp only
  rw[if_neg (by have:=sizeLine_eq;omega)]
  have hm':=hm z
  obtain⟨t,order,e1,hp,hdm,hld,hup,hps,hmk⟩:=Ml cov 0 ((SetTable.fresh 0 0 (!BB w)).movedTo m) (!BB w) true #[] (Nat.zero_le _) (fun h hh=>by simp at hh)
  have e2:(SetTable.fresh 0 0 (!BB w)).relaid (Array.map (·.1) (#[]:Array (Int×Value))) (2*n)=some (t,order):=by
   have em:Array.map (·.1) (#[]:Array (Int×Value)) = #[]:=by simp
   unfold SetTable.relaid
   rw[hm',em]
   exact e1
  have hop:(order.filterMap ((#[]:Array (Int×Value))[·]?)) = #[]:=by
   have:=LR (t:=t) (es:=#[]) (order:=order) hp
   exact Array.toList_inj.mp (List.perm_nil.mp this)
  have hft:t.fits 0=true:=by
   unfold SetTable.fits SetTable.fill
   rw[hps,hdm]
   rfl
  refine wpAny_bind ?_
  rw[e2]
  show wpAny _ _ (if (order.filterMap ((#[]:Array (Int×Value))[·]?)).size != (#[]:Array (Int×Value)).size then _ else _) _ _ _
  rw[hop,if_neg (by simp)]
  refine wpAny_pure ?_
  dsimp only
  refine wpAny_storeSet_of ho rfl ?_ (by simp)
  exact h _ _ _ _ (Heap.SameBut.update _ _ _) (Gb ho rfl) ⟨rfl,rfl,rfl⟩ rfl hft hmk hps hdm hld
theorem Lh {Q:Unit→Shared→Prop} (ha:SetIt w s.heap a ka) (ho:s.heap.get? r=some (Bg w)) (hne:r≠a) (h32:∀j∈ka,0≤j∧j<32) (hl:ka.length≤32)
  (h:∀h' k2 m,Heap.SameBut r s.heap h'→SetDr w h' r k2 m 0→k2.Perm ka→ka.length≤m→Q () { s with heap:=h' }) :
  wpAny (model prog w) A (setMerge r a) Q E s:=by
 obtain⟨o,es,ep,t,hoa,hex,hd,hg,hk,nd,hlk,ok,hf⟩:=id ha
 have hsz:=Dh hk
 unfold setMerge
 rw[if_neg (by simpa using hne)]
 refine wpAny_bind (wpAny_setState_of hoa hd hf ?_)
 dsimp only
 by_cases hem:es.isEmpty=true
 ·rw[if_pos hem]
  have e0:ka=[]:=List.eq_nil_of_length_eq_zero (by rw[←hsz];exact Array.isEmpty_iff_size_eq_zero.mp hem)
  have e:s={ s with heap:=s.heap }:=by cases s;rfl
  have:=h s.heap [] 7 (Heap.SameBut.refl _ _) ⟨_,#[],0,_,ho,⟨rfl,rfl,rfl⟩,rfl,fun e he=>absurd he (by simp),rfl,List.nodup_nil,by decide,⟨rfl,List.Pairwise.nil⟩,rfl,rfl,Nat.le_refl _⟩ (by rw[e0]) (by rw[e0];decide)
  rw[e]
  exact wpAny_pure this
 ·rw[if_neg hem]
  obtain⟨m,hr,hm,hnm,cov,h128⟩:=Ru es.size (by omega)
  refine wpAny_bind (Qu ho hr hm cov h128 fun h1 o1 ep1 t1 sb1 ho1 hex1 hd1 hf1 hm1 hp1 hdm1 hl1=>?_)
  have hoa1:h1.get? a=some o:=by rw[sb1.2 _ (Ne.symm hne)];exact hoa
  refine wpAny_bind (wpAny_setState_of (s:={ s with heap:=h1 }) ho1 hd1 hf1 ?_)
  dsimp only
  have hfill:(t1.fill != 0)=false:=by
   unfold SetTable.fill
   rw[hp1,hdm1]
   rfl
  unfold SetTable.road
  rw[hfill,if_neg Bool.false_ne_true]
  by_cases hc:(t1.mask == t.mask && t.dummies.isEmpty)=true
  ·rw[if_pos hc]
   dsimp only
   obtain⟨c1,c2⟩:=Bool.and_eq_true_iff.mp hc
   refine wpAny_storeSet_of (s:={ s with heap:=h1 }) ho1 hd1 ?_ (fits_of_scanBound (by rw[hsz];exact Ck hlk))
   refine h _ ka m (sb1.trans (Heap.SameBut.update _ _ _)) ⟨_,_,_,_,Gb ho1 hd1,hex1,rfl,hg,hk,nd,hlk,⟨?_,ok.up⟩,hf,?_,?_⟩ (List.Perm.refl _) (by omega)
   ·show (t1.led && t.led)=_
    rw[hl1,ok.led,Bool.and_self]
   ·show t.mask=m
    rw[←hm1]
    exact (beq_iff_eq.mp c1).symm
   ·show t.dummies.size≤0
    rw[Array.isEmpty_iff_size_eq_zero.mp c2]
    exact Nat.le_refl _
  ·rw[if_neg hc]
   dsimp only
   have hsm:(es.map (·.1)).size=es.size:=Array.size_map
   obtain⟨t2,order,e1,hp,hdm,hld,hup,hps,hmk⟩:=Ml cov t1.finger t1.moves (t1.led && t.led) (t1.plain && t.plain) (es.map (·.1)) (by rw[hsm];exact hnm) (fun hh hin=>by
    rw[Array.toList_map] at hin
    obtain⟨e,he,rfl⟩:=List.mem_map.mp hin
    rw[(hg e he).1]
    have:=h32 (A0 e) (by rw[←hk];exact List.mem_map_of_mem he)
    exact KR this.1 this.2)
   rw[hsm] at hp hps
   rw[hm1]
   have hpe:=LR (t:=t2) (es:=es) hp
   refine wpAny_bind ?_
   rw[e1]
   have hsz2:(order.filterMap (es[·]?)).size=es.size:=by rw[←Array.length_toList,hpe.length_eq,Array.length_toList]
   show wpAny _ _ (if (order.filterMap (es[·]?)).size != es.size then _ else _) _ _ _
   rw[if_neg (by rw[hsz2];simp)]
   refine wpAny_pure ?_
   dsimp only
   have hkp:=hpe.map A0
   rw[hk] at hkp
   refine wpAny_storeSet_of (s:={ s with heap:=h1 }) ho1 hd1 ?_ (fits_of_scanBound (by rw[hsz2,hsz];exact Ck hlk))
   refine h _ _ m (sb1.trans (Heap.SameBut.update _ _ _)) ⟨_,_,_,_,Gb ho1 hd1,hex1,rfl,fun e he=>hg e (hpe.mem_iff.mp he),rfl,hkp.nodup_iff.mpr nd,by rw[hkp.length_eq];exact hlk,⟨by rw[hld,hl1,ok.led,Bool.and_self],hup⟩,?_,hmk,by rw[hdm];exact Nat.le_refl _⟩ hkp (by omega)
   unfold SetTable.fits SetTable.fill
   rw[hps,hdm,hsz2,hmk,Bool.and_eq_true_iff]
   exact⟨beq_self_eq_true _,decide_eq_true (by simpa using hnm)⟩
end
end L2
namespace L2
open PySem PySem.Spec PyProof.Rows
section
variable {prog:Program} {w:World} {A:Around} {E:Value→Shared→Prop} {s:Shared} {a b r:Addr} {ka kb kr ks:List Int} {k:Int} {tk:Tok}
theorem Jv {id0:String} {m:Nat} {Q:Unit→Shared→Prop} (hr:SetDr w s.heap r kr m 0) (hb:SetIt w s.heap b kb) (hne:r≠b) (hlt:kb.length<kr.length / 4) (hm:kr.length≤m)
  (h:∀h' k2,Heap.SameBut r s.heap h'→SetIt w h' r k2→(∀j,j∈k2↔j∈kr∧j∉kb)→k2.length≤kr.length→Q () { s with heap:=h' }) :
  wpAny (model prog w) A (Builtin.Frozenset.differenceUpdate id0 r (.ref b)) Q E s:=by
 unfold Builtin.Frozenset.differenceUpdate
 rw[if_neg (by intro z;have:=beq_iff_eq.mp z;injection this with this;exact hne this.symm)]
 refine wpAny_bind (Dm hb ?_)
 rw[if_pos rfl]
 obtain⟨o,es,ep,t,ho,hex,hd,hg,hk,nd,hlk,ok,hf⟩:=id hb
 show wpAny _ _ (Builtin.Frozenset.sizeOf b >>= _) _ _ _
 refine wpAny_bind (Ei hb ?_)
 refine wpAny_bind (Ei hr.it ?_)
 rw[if_neg (by omega)]
 refine wpAny_bind (ES ho hd hf ?_)
 refine wpAny_bind (wpAny_holding ?_)
 refine wpAny_bind (Nm hb (fun c hc=>?_) fun es' hg' hp'=>?_)
 ·simp only[List.mem_cons,List.not_mem_nil,or_false] at hc
  subst hc
  exact⟨_,hr.it⟩
 have hsz:es'.size=kb.length:=by rw[←hp'.length_eq,List.length_map,Array.length_toList]
 refine wpAny_bind ?_
 refine wpAny_forIn_array' _ (fun rest _ s'=>∃h1 k1 d,s'={ s with heap:=h1 }∧Heap.SameBut r s.heap h1∧SetDr w h1 r k1 m d∧d+rest.length=kb.length∧EGood rest∧k1.length≤kr.length∧
  (∀j,(j∈k1∧j∉rest.map A0)↔j∈kr∧j∉kb)) _ ?_ ?_ _ _ ⟨s.heap,kr,0,by cases s;rfl,Heap.SameBut.refl _ _,hr,by rw[Array.length_toList,hsz];omega,hg',Nat.le_refl _,fun j=>by rw[hp'.mem_iff]⟩
 ·rintro⟨hh,x⟩ rest u s' ⟨h1,k1,d,rfl,sb,hS,hdl,g,hl,hm⟩
  obtain⟨e1,t',e2⟩:=g _ List.mem_cons_self
  generalize hk:A0 (hh,x)=k at e1 e2
  dsimp only at e1 e2
  subst e1;subst e2
  rw[List.length_cons] at hdl
  refine wpAny_bind (wpAny_holding ?_)
  refine KB (s:={ s with heap:=h1 }) hS fun bb h2 k2 sb2 hS2 hm2 hl2=>?_
  have ho':h2.get? b=some o:=by rw[sb2.2 _ (Ne.symm hne),sb.2 _ (Ne.symm hne)];exact ho
  refine wpAny_bind (Dk (s:={ s with heap:=h2 }) ho' hd hf (wpAny_pure ?_))
  refine⟨h2,k2,d+1,rfl,sb.trans sb2,hS2,by omega,fun y hy=>g y (List.mem_cons_of_mem _ hy),Nat.le_trans hl2 hl,fun j=>?_⟩
  rw[←hm j,hm2 j,List.map_cons,List.mem_cons,hk]
  constructor
  ·rintro⟨⟨z1,z2⟩,z3⟩
   exact⟨z1,fun z=>z.elim z2 z3⟩
  ·rintro⟨z1,z2⟩
   exact⟨⟨z1,fun e=>z2 (.inl e)⟩,fun e=>z2 (.inr e)⟩
 ·rintro u s' ⟨h1,k1,d,rfl,sb,hS,hdl,g,hl,hm2⟩
  refine wpAny_pure ?_
  obtain⟨o1,es1,ep1,t1,ho1,hex1,hd1,hg1,hk1,nd1,hlk1,ok1,hf1,em1,ed1⟩:=id hS
  unfold setTidy
  refine wpAny_bind (wpAny_setState_of (s:={ s with heap:=h1 }) ho1 hd1 hf1 ?_)
  dsimp only
  rw[if_neg (by
   unfold SetTable.tooManyDummies
   rw[em1]
   simp only[List.length_nil] at hdl
   have:¬t1.dummies.size>m / 4:=by omega
   simpa using this)]
  exact wpAny_pure (h h1 k1 sb hS.it (fun j=>by rw[←hm2 j];simp) hl)
theorem RR {Q:Value→Shared→Prop} (ha:SetIt w s.heap a ka) (hb:SetIt w s.heap b kb) (hab:a≠b) (h32:∀j∈ka,0≤j∧j<32) (hl:ka.length≤32) (hlb:kb.length≤1000)
  (h:∀h' k2,SetIt w h' s.heap.objs.size k2→(∀j,j∈k2↔j∈ka∧j∉kb)→k2.length≤ka.length→(∀c o,s.heap.get? c=some o→h'.get? c=some o)→Q (.ref s.heap.objs.size) { s with heap:=h' }) :
  wpAny (model prog w) A (binaryOp .Sub (.ref a) (.ref b)) Q E s:=by
 refine wpAny_binaryOp_same ha.typeIs hb.typeIs PySem.F.fills_set_sub PySem.F.slot_set_sub ?_
 refine wpAny_call_entry PySem.F.slot_set_sub ha.typeIs F.entry_set_sub ?_ (PySem.F.args_set_sub_2 _ _)
 show wpAny _ _ (do
  let (self,other) ←Builtin.Frozenset.slot1 "__sub__" ⟨[.ref a,.ref b],[]⟩
  let (l,r):=if false=true then (other,self) else (self,other)
  if !(←Builtin.Frozenset.isAnySet l <&&> Builtin.Frozenset.isAnySet r) then rule s!"frozenset.{"__sub__"}.declined";return ←ret .notImplemented
  ret (←Builtin.Frozenset.difference s!"frozenset.{"__sub__"}" (←Builtin.Frozenset.addrOf l) r)) _ _ _
 generalize s!"frozenset.{"__sub__"}"=id0
 generalize s!"frozenset.{"__sub__"}.declined"=id1
 show wpAny _ _ ((Builtin.Frozenset.isAnySet (.ref a) <&&> Builtin.Frozenset.isAnySet (.ref b)) >>= _) _ _ _
 refine wpAny_bind ?_
 show wpAny _ _ (Builtin.Frozenset.isAnySet (.ref a) >>= _) _ _ _
 refine wpAny_bind (Dm ha ?_)
 show wpAny _ _ (Builtin.Frozenset.isAnySet (.ref b)) _ _ _
 refine Dm hb ?_
 simp only[Bool.not_true,Bool.false_eq_true,if_false]
 show wpAny _ _ (Builtin.Frozenset.difference id0 a (.ref b) >>= _) _ _ _
 refine wpAny_bind ?_
 have kk:∀c o,s.heap.get? c=some o→(s.heap.push (Bg w)).get? c=some o:=fun c o e=>Heap.get?_push_of_some _ e
 have ha1:=ha.keep (h':=s.heap.push (Bg w)) fun o e=>kk _ _ e
 have hb1:=hb.keep (h':=s.heap.push (Bg w)) fun o e=>kk _ _ e
 have hr1:SetIs w (s.heap.push (Bg w)) s.heap.objs.size []:=set0_is
 have hr0:(s.heap.push (Bg w)).get? s.heap.objs.size=some (Bg w):=Heap.get?_push_size _ rfl
 have na:a≠s.heap.objs.size:=let ⟨o,_,_,_,ho,_⟩:=ha;DV ho
 have nb:b≠s.heap.objs.size:=let ⟨o,_,_,_,ho,_⟩:=hb;DV ho
 have keep:∀h',Heap.SameBut s.heap.objs.size (s.heap.push (Bg w)) h'→∀c o,s.heap.get? c=some o→h'.get? c=some o:=fun h' sb c o e=>by
  rw[sb.2 _ (DV e)];exact kk c o e
 unfold Builtin.Frozenset.difference
 refine wpAny_bind (Dm hb ?_)
 simp only[Bool.not_true,Bool.false_eq_true,if_false]
 show wpAny _ _ (Builtin.Frozenset.sizeOf b >>= _) _ _ _
 refine wpAny_bind (Ei hb ?_)
 refine wpAny_bind (Ei ha ?_)
 by_cases hbig:ka.length / 4>kb.length
 ·rw[if_pos hbig]
  refine wpAny_bind (wpAny_rule ?_)
  unfold Builtin.Frozenset.copyOf
  refine wpAny_bind (wpAny_bind (Ee ha (wpAny_bind (FY ?_))))
  show wpAny _ _ (setMerge s.heap.objs.size a >>= _) _ _ _
  refine wpAny_bind (Lh (s:={ s with heap:=s.heap.push (Bg w) }) ha1 hr0 (Ne.symm na) h32 hl fun h1 k1 m sb1 hS1 hp1 hm1=>?_)
  refine wpAny_pure ?_
  have hb2:SetIt w h1 b kb:=hb1.keep fun o e=>by rw[sb1.2 _ nb];exact e
  refine wpAny_bind (m:=Builtin.Frozenset.addrOf (Value.ref s.heap.objs.size)) (wpAny_pure ?_)
  refine wpAny_bind (wpAny_holding ?_)
  show wpAny _ _ (Builtin.Frozenset.differenceUpdate id0 s.heap.objs.size (.ref b)) _ _ _
  refine Jv (s:={ s with heap:=h1 }) hS1 hb2 (Ne.symm nb) (by rw[hp1.length_eq];exact hbig) (by rw[hp1.length_eq];exact hm1) fun h2 k2 sb2 hS2 hm2 hl2=>?_
  refine wpAny_pure ?_
  refine wpAny_pure ⟨_,rfl,by simp,?_⟩
  exact h h2 k2 hS2 (fun j=>by rw[hm2 j,hp1.mem_iff]) (by rw[←hp1.length_eq];exact hl2) (keep _ (sb1.trans sb2))
 ·rw[if_neg hbig]
  refine wpAny_bind (Ee ha (wpAny_bind (FY ?_)))
  show wpAny _ _ (setEpoch a >>= _) _ _ _
  obtain⟨o,es,ep,t,ho,hex,hd,hg,hk,nd,hlk,ok,hf⟩:=id ha1
  refine wpAny_bind (ES (s:={ s with heap:=s.heap.push (Bg w) }) ho hd hf ?_)
  refine wpAny_bind (wpAny_holding ?_)
  simp only[if_true]
  refine wpAny_bind (HS (s:={ s with heap:=s.heap.push (Bg w) }) ha1 hr1 (fun c hc=>?_) fun es' h' hg' hp' sb hr'=>?_)
  ·simp only[List.mem_cons,List.not_mem_nil,or_false] at hc
   rcases hc with rfl | rfl
   ·exact⟨_,hb1⟩
   ·exact⟨_,hr1.it⟩
  have hsz:es'.size=ka.length:=by rw[←hp'.length_eq,List.length_map,Array.length_toList]
  refine wpAny_bind (wpAny_mono (Id (s:={ s with heap:=h' }) (r:=s.heap.objs.size) (p:=fun j=>decide (j∉kb)) (R:=fun _ s'=>∃h' k2,s'={ s with heap:=h' }∧Heap.SameBut s.heap.objs.size (s.heap.push (Bg w)) h'∧SetIs w h' s.heap.objs.size k2∧(∀j,j∈k2↔j∈ka∧j∉kb)∧k2.length≤ka.length) ?_ hg' hr' (by rw[hsz];simp;omega) fun h2 k2 sb2 hS2 hm2 hl2=>⟨h2,k2,rfl,sb.trans sb2,hS2,fun j=>?_,by rw[hsz] at hl2;simpa using hl2⟩) ?_ fun _ _ h'=>h')
  ·intro k tk h1 k1 Q' sb1 hS1 hl1 hQ
   have hb2:SetIt w h1 b kb:=hb1.keep fun o e=>by rw[sb1.2 _ nb,sb.2 _ nb];exact e
   refine wpAny_bind ?_
   refine wpAny_holding ?_
   refine wpAny_bind (Gz (s:={ s with heap:=h1 }) hb2 fun rr hrr _=>wpAny_bind (wpAny_pure ?_))
   have fin:∀h2 k2,Heap.SameBut s.heap.objs.size h1 h2→SetIs w h2 s.heap.objs.size k2→(∀j,j∈k2↔j∈k1∨(decide (k∉kb)=true∧j=k))→k2.length≤k1.length+1→wpAny (model prog w) A.in1 (Builtin.Frozenset.unchanged id0 a ep >>= fun _=>pure (ForInStep.yield PUnit.unit)) Q' E { s with heap:=h2 }:=fun h2 k2 sb' hS' hm' hl'=>by
    have ho':h2.get? a=some o:=by rw[sb'.2 _ na,sb1.2 _ na,sb.2 _ na];exact ho
    exact wpAny_bind (Dk (s:={ s with heap:=h2 }) ho' hd hf (wpAny_pure (hQ h2 k2 sb' hS' hm' hl')))
   by_cases hmem:k∈kb
   ·rw[hrr,decide_eq_true hmem,if_neg (by decide)]
    refine wpAny_pure ?_
    exact fin h1 k1 (Heap.SameBut.refl _ _) hS1 (fun j=>by rw[decide_eq_false (fun z=>z hmem)];simp) (Nat.le_succ _)
   ·rw[hrr,decide_eq_false hmem,if_pos (by decide)]
    refine wpAny_bind (FW (s:={ s with heap:=h1 }) hS1 hl1 fun h2 k2 sb' hS' hm' hl'=>wpAny_pure ?_)
    exact fin h2 k2 sb' hS' (fun j=>by rw[hm' j,decide_eq_true hmem];simp) hl'
  ·rw[hm2 j,hp'.mem_iff,decide_eq_true_eq]
   simp[and_comm]
  ·rintro u s' ⟨h2,k2,rfl,sb',hS',hm',hl'⟩
   refine wpAny_pure ?_
   refine wpAny_pure ?_
   refine wpAny_pure ⟨_,rfl,by simp,?_⟩
   exact h h2 k2 hS'.it hm' hl' (keep _ sb')
end
end L2
namespace L2
open PySem PySem.Spec PyProof.Rows
theorem EH:∀{us:List Value} {ns:List Int},Vals (ns.map V.int) us→IntsAre us ns
 | _,[],h=>by cases h;exact .nil
 | _,n::ns,h=>by
  cases h with
  | cons r t=>obtain⟨k,rfl⟩:=r;exact .cons n k (EH t)
theorem Fu:∀{l1 l2:List Int},l1.Nodup→(∀x∈l1,x∈l2)→l1.length≤l2.length
 | [],_,_,_=>Nat.zero_le _
 | x::l1,l2,nd,h=>by
  have nd':=List.nodup_cons.mp nd
  have hx:=h x List.mem_cons_self
  have ih:=Fu (l1:=l1) (l2:=l2.erase x) nd'.2 fun y hy=>(List.mem_erase_of_ne (show y≠x from fun e=>nd'.1 (e ▸ hy))).mpr (h y (List.mem_cons_of_mem _ hy))
  rw[List.length_erase_of_mem hx] at ih
  have:0<l2.length:=List.length_pos_of_mem hx
  rw[List.length_cons]
  omega
theorem SetIs.nd {w:World} {h:Heap} {a:Addr} {ks:List Int} (x:SetIs w h a ks):ks.Nodup:=let ⟨_,_,_,_,_,_,_,_,_,nd,_⟩:=x;nd
section
variable {X:Cx}
theorem Ef (hc:X.calm=true):BC X (.type "set") (fun xs H Q=>∃(l:Addr) (ns:List Int),xs=[.ref l]∧SqL X.K H l (ns.map V.int)∧ns.length<1000∧∀a,H a=none→Q (.ref a) (upd H a (Bk X.w a (fun k=>decide (k∈ns)) ns.length))):=by
 intro pins s σ H xs us Q I r h
 obtain⟨l,ns,rfl,hq,hn,q⟩:=h
 obtain⟨u,rfl,ru⟩:=Cr r
 cases ru
 obtain⟨its,rv,pl,hz⟩:=I.list hq
 have hlen:its.length=ns.length:=by rw[←rv.length,List.length_map]
 refine Ow (w:=X.w) (ns:=ns) (I.ok.hd hc) pl.isList (by rw[List.toList_toArray];exact EH rv) (by rw[List.size_toArray];omega) fun h' tk ks hS hm hl kk=>?_
 refine⟨.ref s.heap.objs.size,_,I.laid (t':=tk) (o:=Bk X.w s.heap.objs.size (fun k=>decide (k∈ns)) ns.length) kk (Nat.le_refl _) ?_,rfl,q _ (I.hok.fresh (Nat.le_refl _))⟩
 exact D9 hS (fun k=>by rw[decide_eq_true_eq];exact (hm k).symm) hl
theorem Sx:Dw X (binaryOp .BitAnd) (fun x y H Q=>∃(a b:Addr) (S T:Int→Bool) (n m:Nat),x= .ref a∧y= .ref b∧H a=some (Bk X.w a S n)∧H b=some (Bk X.w b T m)∧a≠b∧n+m<1990∧
  ∀r,H r=none→Q (.ref r) (upd H r (Bk X.w r (fun k=>S k && T k) n))):=by
 intro pins s σ H x y v u Q I rx ry h
 obtain⟨a,b,S,T,n,m,rfl,rfl,ha,hb,hne,hnm,q⟩:=h
 cases rx
 cases ry
 obtain⟨ka,hSa,hma,hla⟩:=I.setO ha
 obtain⟨kb,hSb,hmb,hlb⟩:=I.setO hb
 refine R5 (w:=X.w) hSa.it hSb.it hne (by omega) fun h' k2 hS hm hl kk=>?_
 refine⟨.ref s.heap.objs.size,_,I.laid (t':=s.toks) (o:=Bk X.w s.heap.objs.size (fun k=>S k && T k) n) kk (Nat.le_refl _) ?_,rfl,q _ (I.hok.fresh (Nat.le_refl _))⟩
 refine D9 hS (fun k=>by rw[Bool.and_eq_true,hma,hmb,hm k]) (Nat.le_trans (Fu hS.nd fun y hy=>((hm y).mp hy).1) hla)
theorem Sh:Dw X (binaryOp .Sub) (fun x y H Q=>∃(a b:Addr) (S T:Int→Bool) (n m:Nat),x= .ref a∧y= .ref b∧H a=some (Bk X.w a S n)∧H b=some (Bk X.w b T m)∧a≠b∧n≤32∧m≤1000∧(∀k,S k=true→0≤k∧k<32)∧
  ∀r,H r=none→Q (.ref r) (upd H r (NI X.w r (fun k=>S k && !T k) n))):=by
 intro pins s σ H x y v u Q I rx ry h
 obtain⟨a,b,S,T,n,m,rfl,rfl,ha,hb,hne,hn,hm',h32,q⟩:=h
 cases rx
 cases ry
 obtain⟨ka,hSa,hma,hla⟩:=I.setO ha
 obtain⟨kb,hSb,hmb,hlb⟩:=I.setO hb
 refine RR (w:=X.w) hSa.it hSb.it hne (fun j hj=>h32 j ((hma j).mpr hj)) (by omega) (by omega) fun h' k2 hS hm hl kk=>?_
 refine⟨.ref s.heap.objs.size,_,I.laid (t':=s.toks) (o:=NI X.w s.heap.objs.size (fun k=>S k && !T k) n) kk (Nat.le_refl _) ?_,rfl,q _ (I.hok.fresh (Nat.le_refl _))⟩
 refine RI hS (fun k=>?_) (by omega)
 rw[Bool.and_eq_true,hma,hm k,Bool.not_eq_true',←Bool.not_eq_true,hmb]
end
end L2
namespace L2
open PySem PySem.Spec PyProof.Rows
section
variable {X:Cx} {tg:Expr} {acc:Value}
theorem PP {pins:List (Addr×Obj)} {s:Shared} {σ:St} {H:Hp} {a:Addr} {S:Int→Bool} {n:Nat} {k:Int} {tk:Tok} {E:Value→Shared→Prop} (I:Inv X pins σ H s) (ha:H a=some (Bk X.w a S n)) (hn:n+1<2000) :
  wpAny (model X.prog X.w) X.A (call (.builtin "set.add") [.ref a,.int k tk]) (fun _ s'=>Inv X pins σ (upd H a (Bk X.w a (fun j=>S j || decide (j=k)) (n+1))) s') E s:=by
 obtain⟨ks2,hS2,hm2,hl2⟩:=I.setO ha
 refine Jz (w:=X.w) hS2 (by omega) fun h' ks' hsb hS' hm' hl'=>?_
 have mu:UP (H a):=by rw[ha];exact True.intro
 refine I.write (x:=a) (e:=a) (t':=s.toks+1) mu (.inl rfl) (fun b ob nb eb=>(hsb.2 b nb).trans eb) (let ⟨o,_,_,_,ho,_⟩:=hS';⟨o,ho⟩) (D9 hS' (fun j=>?_) (by omega))
 rw[hm' j,Bool.or_eq_true,decide_eq_true_eq,hm2 j]
def Jd (X:Cx) (ifs:List Expr) (elt:Expr) (acc:Value):Ra:=fun Qa s=>wpAny (model X.prog X.w) X.A (FQ ifs X.env) (fun ok s1=>if ok=true then wpAny (model X.prog X.w) X.A (eval elt X.env) (fun x s2=>wpAny (model X.prog X.w) X.A (call (.builtin "set.add") [acc,x]) (fun _ s3=>Qa s3) El s2) El s1 else Qa s1) El s
def IV (w:World) (acc:Addr) (te:TE):TS:=fun D σ H=>te σ H fun x H1=>∃k S n,x= .int k∧H1 acc=some (Bk w acc S n)∧n+1<2000∧D.nx σ (upd H1 acc (Bk w acc (fun j=>S j || decide (j=k)) (n+1)))
theorem Qm {ifs:List Expr} {elt:Expr} {ac:Addr} {tc:TT} {te:TE} (hxe:X.xe=El) (hi:OD X ifs tc) (he:PE X elt te):PB X (Jd X ifs elt (.ref ac)) (Em tc (IV X.w ac te)) where
 mono:=fun Qa Qb s hq h=>AM h fun ok s1 h1=>by
  cases ok with
  | false=>exact hq _ h1
  | true=>exact AM h1 fun x s2 h2=>AM h2 fun _ s3 h3=>hq _ h3
 run:=fun pins s σ H D I h=>by
  have h1:=hi pins s σ H _ I h
  rw[hxe] at h1
  refine AM h1 fun ok s1 ⟨H1,I1,q1⟩=>?_
  cases ok with
  | false=>exact⟨σ,H1,I1,q1⟩
  | true=>
   have q1':IV X.w ac te D σ H1:=q1
   have h2:=he pins s1 σ H1 _ I1 q1'
   rw[hxe] at h2
   refine AM h2 fun u s2 ⟨x,H2,I2,r2,k,S,n,ex,hl,hz,q2⟩=>?_
   subst ex
   obtain⟨tk,rfl⟩:=r2
   exact AM (PP (E:=El) I2 hl hz) fun _ s3 I3=>⟨σ,_,I3,q2⟩
theorem Jg (elt tg0 iter0 tg iter:Expr) (ifs0 ifs:List Expr) (scope:Scope) (pos:Pos) (it acc:Value) (env:Env) :
  compTurn (.SetComp elt [⟨tg0,iter0,ifs0,0⟩,⟨tg,iter,ifs,0⟩] scope pos) 1 it acc env=(do
   standAt iter.pos
   match ←pyNext it with
   | none=>pure (.done .next)
   | some v=>
    letOwnedTupleGo tg it v
    assign tg env v
    let mut ok:=true
    for c in ifs do
     if ok then ok ←isTrue c env (eval c env)
    if ok then
     (do let v ←eval elt env;standAt elt.pos;let _ ←call (.builtin "set.add") [acc,v])
    again (.compLoop (.SetComp elt [⟨tg0,iter0,ifs0,0⟩,⟨tg,iter,ifs,0⟩] scope pos) 1 it acc env)):=by rfl
theorem UI {elt tg0 iter0 iter:Expr} {ifs0 ifs:List Expr} {scope:Scope} {pos:Pos} {itv:Value}:HT X (.SetComp elt [⟨tg0,iter0,ifs0,0⟩,⟨tg,iter,ifs,0⟩] scope pos) 1 itv acc tg (Jd X ifs elt acc):=by
 intro s Qd Qa h
 rw[Jg]
 refine wpAny_bind (wpAny_standAt (wpAny_bind (AM h fun r s₁ h₁=>?_)))
 cases r with
 | none=>exact wpAny_pure ⟨rfl,h₁⟩
 | some v=>
  refine wpAny_bind (AM h₁ fun _ s2 h2=>wpAny_bind (AM h2 fun _ s3 h3=>wpAny_bind (AM h3 fun ok s4 h4=>?_)))
  cases ok with
  | false=>exact wpAny_pure ⟨rfl,h4⟩
  | true=>exact wpAny_bind (wpAny_bind (AM h4 fun x s₄ h₄=>wpAny_bind (wpAny_standAt (wpAny_bind (AM h₄ fun _ s₅ h₅=>wpAny_pure (wpAny_pure ⟨rfl,h₅⟩))))))
theorem Hx (elt tg iter tg1 iter1:Expr) (ifs ifs1:List Expr) (scope:Scope) (pos:Pos) (it acc:Value) (env:Env) :
  compTurn (.SetComp elt [⟨tg,iter,ifs,0⟩,⟨tg1,iter1,ifs1,0⟩] scope pos) 0 it acc env=(do
   standAt iter.pos
   match ←pyNext it with
   | none=>pure (.done .next)
   | some v=>
    letOwnedTupleGo tg it v
    assign tg env v
    let mut ok:=true
    for c in ifs do
     if ok then ok ←isTrue c env (eval c env)
    if ok then
     let x ←eval iter1 env
     standAt iter1.pos
     let x ←foldedSetIterable iter1 env x
     let _ ←runOwn (.compStart (.SetComp elt [⟨tg,iter,ifs,0⟩,⟨tg1,iter1,ifs1,0⟩] scope pos) 1 (←holding [x] (pyIter x)) acc env) env
    again (.compLoop (.SetComp elt [⟨tg,iter,ifs,0⟩,⟨tg1,iter1,ifs1,0⟩] scope pos) 0 it acc env)):=by rfl
theorem RX {elt iter tg1 iter1:Expr} {ifs ifs1:List Expr} {scope:Scope} {pos:Pos} {itv:Value} (hs:∀x,foldedSetIterable iter1 X.env x=pure x) :
  HT X (.SetComp elt [⟨tg,iter,ifs,0⟩,⟨tg1,iter1,ifs1,0⟩] scope pos) 0 itv acc tg (Iy X ifs (.SetComp elt [⟨tg,iter,ifs,0⟩,⟨tg1,iter1,ifs1,0⟩] scope pos) iter1 acc):=by
 intro s Qd Qa h
 rw[Hx]
 refine wpAny_bind (wpAny_standAt (wpAny_bind (AM h fun r s₁ h₁=>?_)))
 cases r with
 | none=>exact wpAny_pure ⟨rfl,h₁⟩
 | some v=>
  refine wpAny_bind (AM h₁ fun _ s2 h2=>wpAny_bind (AM h2 fun _ s3 h3=>wpAny_bind (AM h3 fun ok s4 h4=>?_)))
  cases ok with
  | false=>exact wpAny_pure ⟨rfl,h4⟩
  | true=>
   refine wpAny_bind (AM h4 fun x s₄ h₄=>wpAny_bind (wpAny_standAt (wpAny_bind (wpAny_of_eq (hs x) (wpAny_bind (wpAny_holding (AM h₄ fun it s₅ h₅=>?_)))))))
   refine wpAny_bind (wpAny_runOwn (codeAny_mono h₅ fun r s₆ h₆=>?_))
   obtain⟨rfl,h₆⟩:=h₆
   exact wpAny_pure ⟨rfl,h₆⟩
theorem RE {elt iter tg1 iter1:Expr} {ifs ifs1:List Expr} {scope:Scope} {pos:Pos} {ac:Addr} {tc:TT} {wi1:TI} {g1:TG} {tb1:TS} (hxe:X.xe=El) (hc:X.calm=true)
  (hi:OD X ifs tc) (hI:PI X tg1 iter1 wi1) (hg1:PG X tg1 g1) (hb1:PB X (Jd X ifs1 elt (.ref ac)) tb1) :
  PB X (Iy X ifs (.SetComp elt [⟨tg,iter,ifs,0⟩,⟨tg1,iter1,ifs1,0⟩] scope pos) iter1 (.ref ac)) (Em tc (LG wi1 g1 tb1)) where
 mono:=fun Qa Qb s hq h=>AM h fun ok s1 h1=>by
  cases ok with
  | false=>exact hq _ h1
  | true=>exact AM h1 fun x s2 h2=>AM h2 fun it s3 h3=>codeAny_mono h3 fun r s4 h4=>⟨h4.1,hq _ h4.2⟩
 run:=fun pins s σ H D I h=>by
  have h1:=hi pins s σ H _ I h
  rw[hxe] at h1
  refine AM h1 fun ok s1 ⟨H1,I1,q1⟩=>?_
  cases ok with
  | false=>exact⟨σ,H1,I1,q1⟩
  | true=>
   have q1':LG wi1 g1 tb1 D σ H1:=q1
   have h2:=hI pins s1 σ H1 _ I1 q1'
   rw[hxe] at h2
   refine AM h2 fun u s2 h3=>AM h3 fun itv s3 h4=>?_
   obtain⟨it,fp,tn,J,H3,e,I3,T,st3,f3,hR⟩:=h4
   subst e
   have loop:=Eg (e:=.SetComp elt [⟨tg,iter,ifs,0⟩,⟨tg1,iter1,ifs1,0⟩] scope pos) (d:=1) (D:=D) hxe hc UI rfl rfl rfl T hg1 hb1 I3 st3 f3 hR
   exact B9 (X:=X) rfl rfl rfl (fun _=>rfl) True.intro loop (T.self _ 0 s3 _ _ st3 loop)
end
def OH (w:World) (wi:TI) (js:List (Option Nat)) (g:CC→TG) (tb:CC→Addr→TS):TE:=fun σ H Q=>wi σ H fun J H1=>∀(c:CC) (acc:Addr),H1 acc=none→
 EO J (g c) (tb c acc) { nx:=fun _ H'=>Q (.ref acc) H',rt:=fun _ _=>False } (sub js σ) (upd H1 acc (Bk w acc (fun _=>false) 0))
section
variable {X:Cx} {N:List Str} {scope:Scope} {cl:List (Str×Addr)} {js:List (Option Nat)} {elt tg iter:Expr} {ifs:List Expr} {rest:List Comprehension} {pos:Pos} {wi:TI} {g:CC→TG} {tb:CC→Addr→TS}
theorem Nx {WB:CC→Value→Ra} (hxe:X.xe=El) (hc:X.calm=true) (hi:PI X tg iter wi) (hs:∀x,foldedSetIterable iter X.env x=pure x) (hclos:closureFor scope X.env=pure cl) (hk:scope.kind= .function)
  (hnames:∀x∈scope.names,x.2= .local→scope.names.lookup x.1=some .local) (hcell:∀x∈scope.names,x.2≠.cell)
  (hcl:∀p∈cl,X.env.cells.lookup p.1=some p.2) (hcn:∀x,((relabel scope X.env).names.lookup x=some .cell∨(relabel scope X.env).names.lookup x=some .free)→∃c,cl.lookup x=some c)
  (hsh:Gu X N scope js) (hl:js.length=N.length)
  (ht:∀c it ac,HT (X.cmp N scope cl c) (.SetComp elt (⟨tg,iter,ifs,0⟩::rest) scope pos) 0 it ac tg (WB c ac))
  (hg:∀c,PG (X.cmp N scope cl c) tg (g c)) (hb:∀c ac,PB (X.cmp N scope cl c) (WB c (.ref ac)) (tb c ac)) :
  PE X (.SetComp elt (⟨tg,iter,ifs,0⟩::rest) scope pos) (OH X.w wi js g tb):=by
 intro pins s σ H Q I h
 rw[arm_eval_SetComp]
 have h0:=hi pins s σ H _ I h
 refine wpAny_comprehension_free (use:=none) (cl:=cl) rfl hs hclos hk hnames (AM h0 fun v s1 h1=>AM h1 fun itv s2 h2=>?_)
 obtain⟨it,fp,tn,J,H2,e,I2,T,st2,f2,hR⟩:=h2
 subst e
 refine FY (wpAny_newFunctionEnv hcell (by intro y hy;simp at hy) (fun h₁ hns₁ hsb₁=>?_) hk)
 dsimp only at hns₁ hsb₁ ⊢
 have I3:=I2.laid (t':=s2.toks) (h':=s2.heap.push (Bg X.w)) (o:=Bk X.w s2.heap.objs.size (fun _=>false) 0) (fun b ob e=>Heap.get?_push_of_some _ e) (Nat.le_refl _) (D9 set0_is (fun k=>by simp) (Nat.le_refl _))
 have fpl:∀b∈fp,b<s2.heap.objs.size:=fun b hb=>by
  obtain⟨o,e,_⟩:=T.obj 0 _ st2 b hb
  exact Heap.lt_size e
 have fpa:∀b∈fp,b≠s2.heap.objs.size:=fun b hb=>Nat.ne_of_lt (fpl b hb)
 have f3:∀b∈fp,BO X pins (upd H2 s2.heap.objs.size (Bk X.w s2.heap.objs.size (fun _=>false) 0)) b:=fun b hb=>⟨by rw[Aq (fpa b hb)];exact (f2 b hb).1,(f2 b hb).2⟩
 have hR':=hR ⟨{ s2 with heap:=s2.heap.push (Bg X.w) },upd H2 s2.heap.objs.size (Bk X.w s2.heap.objs.size (fun _=>false) 0),fp⟩ s2.heap.objs.size I2.fresh
 have I4:=I3.cmp (N:=N) (cl:=cl) (js:=js) (t':=s2.toks) f3 (fun b hb=>by
  show b<(s2.heap.push _).objs.size
  rw[Heap.size_push]
  exact Nat.lt_succ_of_lt (fpl b hb)) hk hcl hcn hsh hl hns₁ hsb₁
 have st4:tn 0 h₁:=T.keep 0 _ _ st2 fun b hb o e=>(hsb₁.2 b (by
  rw[Heap.size_push]
  exact Nat.ne_of_lt (Nat.lt_succ_of_lt (fpl b hb)))).trans (Heap.get?_push_of_some _ (Heap.get?_push_of_some _ e))
 have f4:∀b∈fp,BO (X.cmp N scope cl ⟨{ s2 with heap:=s2.heap.push (Bg X.w) },upd H2 s2.heap.objs.size (Bk X.w s2.heap.objs.size (fun _=>false) 0),fp⟩) [] (upd H2 s2.heap.objs.size (Bk X.w s2.heap.objs.size (fun _=>false) 0)) b:=fun b hb=>
  ⟨(f3 b hb).1,(I4.ok.exf b hb).1,I4.ok.exfs b hb,.inl hb,(I4.ok.exf b hb).2,fun p hp=>absurd (show p∈([]:List (Addr×Obj)) from hp) (by simp)⟩
 have loop:=codeAny_mono (Eg (X:=X.cmp N scope cl ⟨{ s2 with heap:=s2.heap.push (Bg X.w) },upd H2 s2.heap.objs.size (Bk X.w s2.heap.objs.size (fun _=>false) 0),fp⟩) (e:=.SetComp elt (⟨tg,iter,ifs,0⟩::rest) scope pos) (d:=0) (acc:=.ref s2.heap.objs.size) (pins:=[]) hxe hc (ht _ _ _) rfl rfl rfl T (hg _) (hb _ _) I4 st4 f4 hR') (R':=compPost (model X.prog X.w) X.A X.xe none (EP X pins σ Q) (.ref s2.heap.objs.size) (s2.heap.push (Bg X.w)).objs.size) (fun r s' hq=>by
  obtain⟨rfl,σ',H',J',q⟩:=hq
  obtain⟨m,hn,_⟩:=id J'.loc
  exact⟨m,hn,fun h'' hs''=>⟨.ref s2.heap.objs.size,H',I3.uncmp f3 J' hs'',rfl,q⟩⟩)
 exact B9 (X:=X.cmp N scope cl ⟨{ s2 with heap:=s2.heap.push (Bg X.w) },upd H2 s2.heap.objs.size (Bk X.w s2.heap.objs.size (fun _=>false) 0),fp⟩) rfl rfl rfl (fun _=>rfl) True.intro loop (T.self _ 0 _ _ _ st4 loop)
variable {tg1 iter1:Expr} {ifs1:List Expr} {wi1:CC→TI} {g1:CC→TG} {tc tc1:CC→TT} {te:CC→TE}
theorem Ot (h:CompOk X N scope cl js) (hi:PI X tg iter wi) (hg:∀c,PG (X.cmp N scope cl c) tg (g c)) (hif:∀c,OD (X.cmp N scope cl c) ifs (tc c))
  (hi1:∀c,PI (X.cmp N scope cl c) tg1 iter1 (wi1 c)) (hg1:∀c,PG (X.cmp N scope cl c) tg1 (g1 c)) (hif1:∀c,OD (X.cmp N scope cl c) ifs1 (tc1 c)) (he:∀c,PE (X.cmp N scope cl c) elt (te c))
  (hs1:∀c x,foldedSetIterable iter1 (X.cmp N scope cl c).env x=pure x:=by intro _ _;rfl)
  (hxe:X.xe=El:=by rfl) (hc:X.calm=true:=by rfl) (hs:∀x,foldedSetIterable iter X.env x=pure x:=by intro _;rfl) :
  PE X (.SetComp elt [⟨tg,iter,ifs,0⟩,⟨tg1,iter1,ifs1,0⟩] scope pos) (OH X.w wi js g fun c ac=>Em (tc c) (LG (wi1 c) (g1 c) (Em (tc1 c) (IV X.w ac (te c))))):=
 Nx (WB:=fun c ac=>Iy (X.cmp N scope cl c) ifs (.SetComp elt [⟨tg,iter,ifs,0⟩,⟨tg1,iter1,ifs1,0⟩] scope pos) iter1 ac) hxe hc hi hs h.clos h.kind h.names h.cell h.ccl h.hcn h.shr h.len (fun c it ac=>RX (hs1 c)) hg
  fun c ac=>RE (X:=X.cmp N scope cl c) hxe hc (hif c) (hi1 c) (hg1 c) (Qm (X:=X.cmp N scope cl c) hxe (hif1 c) (he c))
end
end L2
namespace L2
open PySem PySem.Spec PyProof.Rows
section
variable {X:Cx}
end
end L2
namespace L2
open PySem PySem.Spec PyProof.Rows
section
variable {X:Cx} {pins:List (Addr×Obj)} {σ:St} {H:Hp} {s:Shared}
theorem Room.units9 {k:Nat} {A:Around} (r:Room k A):A.units+9<cLine:=by have:=r.un;omega
end
end L2
namespace HT2
open PySem L2 PyProof.Rows
theorem FL {K:PySem.W.Frag} {a acc:Addr} {row:List Int} {p:Int→Bool} {tc:TT} {rest:L2.St} {D:Ends} {H:Hp} (hr:SqL K H a (row.map V.int)) (hacc:H acc=none) (hlen:row.length≤900)
  (ht:∀k,k∈row→∀H2,Same H H2→∀R:Bool→Hp→Prop,(∀H3,Same H2 H3→R (p k) H3)→tc (some (.int k)::rest) H2 R)
  (hd:∀v0 H2,Same H H2→H2 acc=some (.lst ((row.filter p).map V.int))→D.nx (v0::rest) H2) (v:Option V) :
  EO (UF K a) (HH 0) (Em tc (Ds acc (Pq 0))) D (v::rest) (upd H acc (.lst [])):=by
 refine A7 (K:=K) (a:=a) (xs:=row.map V.int) (fun i σ H2=>∃v0,σ=v0::rest∧Same H H2∧H2 acc=some (.lst (((row.take i).filter p).map V.int))) ⟨v,rfl,Ag hacc _,upd_same⟩ ?_ ?_ ?_
 ·rintro i σ H2 _ ⟨v0,rfl,s2,_⟩
  exact s2.seq hr
 ·rintro i x σ H2 hx ⟨v0,rfl,s2,ha2⟩
  rw[List.getElem?_map] at hx
  obtain⟨k,hk,rfl⟩:=Option.map_eq_some_iff.mp hx
  have et:row.take (i+1)=row.take i++[k]:=by rw[List.take_add_one,hk];rfl
  refine ht k (List.mem_of_getElem? hk) H2 s2 _ fun H3 s3=>?_
  have ha3:=s3 _ _ ha2
  cases e:p k with
  | false=>
   refine⟨_,rfl,s2.trans s3,?_⟩
   rw[et,List.filter_append,List.filter_cons_of_neg (by rw[e];simp),List.filter_nil,List.append_nil]
   exact ha3
  | true=>
   refine⟨_,rfl,_,ha3,AO ?_,?_⟩
   ·rw[List.length_map]
    refine Nat.le_trans (List.length_filter_le _ _) ?_
    rw[List.length_take]
    omega
   refine⟨_,rfl,AH (s2.trans s3) hacc _,?_⟩
   rw[upd_same,et,List.filter_append,List.filter_cons_of_pos e,List.filter_nil,List.map_append]
   rfl
 ·rintro σ H2 ⟨v0,rfl,s2,ha2⟩
  rw[List.length_map,List.take_length] at ha2
  exact hd v0 H2 s2 ha2
theorem FZ {a b:List Int} (ha:a.Pairwise (· < ·)) (hb:b.Pairwise (· < ·)) (h:∀k,k∈a↔k∈b):a=b:=by
 have na:a.Nodup:=ha.imp fun h=>by omega
 have nb:b.Nodup:=hb.imp fun h=>by omega
 have hp:a.Perm b:=(List.perm_ext_iff_of_nodup na nb).mpr h
 exact PySem.W.ksm_same hp (ha.imp fun h=>by omega) (hb.imp fun h=>by omega)
end HT2
namespace L2
open PySem PySem.Spec PyProof.Rows
def VD (K:PySem.W.Frag) (Dc:Addr) (i n:Nat) (th:Addr→Obj→TS) (tr:SQ):SQ:=fun D C dx H=>∃r,PySem.W.mroIn K C (.ref Dc)=some r∧
 if r then ∀a vs sl,vs[2]? = some .none→H a=none→th a ⟨.ref C,dx,.fields vs,sl⟩ (D.lost i) ((List.replicate n none).set i (some (.ref a))) H else tr D C dx H
section
variable {X:Cx} {Dc:Addr} {i:Nat} {x n:Str} {np hpos pos:Pos} {body suite:List Stmt} {b0:Stmt} {tb:XK→TS} {th:Addr→Obj→TS} {hs:List ExceptHandler} {tr:SQ} {pins:List (Addr×Obj)} {σ:St} {H:Hp} {s:Shared}
theorem Sf (hth:∀a oe,PSs (X.caught a oe) (b0::suite) (th a oe)) (hr:VI X hs tr)
  (hg:Gl X x) (hm:X.mg x=some (.ref Dc)) (hD:PySem.W.typeIn X.K (.ref Dc)=some (.type "type")) (cD:(PySem.W.clsIn X.K Dc).isSome=true) (hB:PySem.W.mroIn X.K Dc (.type "BaseException")=some true)
  (hN:X.N.Nodup) (hi:X.N[i]? = some n) (hl:X.env.kindOf n=some .local) (hlo:Vo X.env.scope n) (hdb:(x == ("__debug__":Str))=false:=by decide)
  (hfl:X.fn n=true∨X.env.scope.names.lookup n=some .local:=by first | exact .inl rfl | exact .inr rfl | assumption) :
  VI X (.ExceptHandler (some (.Name x np)) (some n) (b0::suite) hpos::hs) (VD X.K Dc i X.N.length th tr):=by
 intro pins D a T C dx H s J F5 ha hT h1 h2 yT h
 obtain⟨r,hm1,h⟩:=h
 have ok:=J.ok
 obtain⟨vs,sl,oT,ts,e5,e51,ne5,rest5⟩:=id F5
 have J6:=J.caught e5 ha h1 h2 (fun v z=>by cases z)
 refine wpAny_handleBy_cons (codeAny_handlers_test (ET (X:=X.caught a ⟨.ref C,dx,.fields vs,sl⟩) J6 hg hm (PySem.W.Looks.here (NF J6.kIn hD cD hB hm1 e5 rfl) ?_) hdb)) (by intro z;cases z)
 cases r with
 | false=>exact hr pins D a T C dx H s J F5 ha hT h1 h2 yT h
 | true=>
  refine codeAny_handlers_suite_as (Rh F5 fun h6 S6 F6=>?_)
  have J7:Inv (X.caught a ⟨.ref C,dx,.fields vs,sl⟩) pins (List.replicate X.N.length none) H { s with heap:=h6 }:=J6.call' (ch:=[T]) (s':={ s with heap:=h6 }) rfl ((S6.un H).mono (fun b hb=>absurd hb (by simp)) fun _ z=>z)
   (S6.hok J6.hok (fun b hb=>absurd hb (by simp)) fun b hb=>by rw[List.mem_singleton.mp hb];exact hT) J.bare fun b hb=>by
    rw[List.mem_singleton.mp hb]
    obtain⟨y1,y2,y3,y4⟩:=yT
    refine⟨y1,y2,y3,fun p hp=>?_⟩
    rcases List.mem_cons.mp (show p∈(a,(⟨.ref C,dx,.fields vs,sl⟩:Obj))::(X.pn++pins) from hp) with z | z
    ·rw[z];exact Ne.symm ne5
    ·exact y4 p z
  refine He (X:=X.caught a ⟨.ref C,dx,.fields vs,sl⟩) J7 hN hi hlo (v:=.ref a) rfl (fun s8 J8=>?_) hfl
  refine wpAny_mono (hth a ⟨.ref C,dx,.fields vs,sl⟩ pins s8 _ H (D.lost i) J8 (h a vs sl rest5.2.2.2 ha)) (fun f s9 q=>?_) fun _ _ z=>False.elim z
  have go:∀{σ9:St} {H9:Hp} {Q:Unit→Shared→Prop},Inv (X.caught a ⟨.ref C,dx,.fields vs,sl⟩) pins σ9 H9 s9→(∀s10,Inv X pins (σ9.set i none) H9 s10→Q () s10)→wpAny (model X.prog X.w) X.A (do bindName X.env n .none;unbindBehindTheSuite X.env n hpos) Q X.xe s9:=fun J9 kk=>(J9.uncaught (ok:=ok)).nameGone hN hi hl (by rw[ok.kind];rfl) kk
  cases f with
  | next=>obtain⟨σ9,H9,J9,q9⟩:=q;exact go J9 fun s10 J10=>⟨_,H9,J10,q9⟩
  | brk=>obtain⟨σ9,H9,J9,q9⟩:=q;exact go J9 fun s10 J10=>⟨_,H9,J10,q9⟩
  | cont=>obtain⟨σ9,H9,J9,q9⟩:=q;exact go J9 fun s10 J10=>⟨_,H9,J10,q9⟩
  | ret u=>obtain⟨v,σ9,H9,J9,r9,q9⟩:=q;exact go J9 fun s10 J10=>⟨v,_,H9,J10,r9,q9⟩
end
end L2
namespace L2
open PySem PySem.Spec PyProof.Rows
theorem Hv:entryFor table "proto.unchain"=some Builtin.«proto.unchain»:=entryFor_of_tree (by kernel_rfl)
theorem Hs:plainId "proto.unchain"=true:=by decide +kernel
section
variable {prog:Program} {w:World} {A:Around} {E:Value→Shared→Prop} {s:Shared} {env:Env}
theorem Jo {e:Value} {a:Addr} {cls:Value} {dx:Option Addr} {vs:Array Value} {sl:Array (Option Value)} {Q:Value→Shared→Prop} (ha:s.heap.get? a=some ⟨cls,dx,.fields vs,sl⟩) (h2:vs[2]? = some .none) (h:Q .none s) :
  wpAny (model prog w) A (runValue (.builtin "proto.unchain" ⟨[e,.ref a,.ref a,.bool false],[]⟩)) Q E s:=by
 refine wpAny_runValue (codeAny_builtin Hv ?_)
 rw[Around.under_plainId Hs _]
 unfold Builtin.«proto.unchain»
 show wpAny _ _ (field (.ref a) 2 >>= _) _ _ s
 refine wpAny_bind (wpAny_field ha rfl h2 ?_)
 refine wpAny_ite_split (fun _=>?_) (fun hab=>absurd (by decide) hab)
 show wpAny (model prog w) A.in1 (pure (Fin.done (.ret .none))) _ _ s
 exact wpAny_pure h
theorem KH {it:Addr} {x left step:Int} {a:Addr} {cls:Value} {dx:Option Addr} {vs:Array Value} {sl:Array (Option Value)} {Q:Option Value→Shared→Prop} (hh:A.handled=some (.ref a)) (ha:s.heap.get? a=some ⟨cls,dx,.fields vs,sl⟩) (h2:vs[2]? = some .none)
  (hit:IsRangeIter s.heap it x left step) (hleft:left≤0)
  (hQ:∀h',Heap.ExtBut it s.heap h'→Q none { s with heap:=h' }):wpAny (model prog w) A (pyNext (.ref it)) Q E s:=by
 have hT:s.TypeIs (.ref it) "range_iterator":=⟨_,hit,rfl⟩
 unfold pyNext
 refine wpAny_bind (wpAny_attempt (wpAny_callSpecial?_slot (name:=Str.ofString "__next__") hT F.slot_range_iterator_next
  (wpAny_call_entry F.slot_range_iterator_next hT F.entry_range_iterator_next ?_ (F.args_range_iterator_next_1 _))))
 show wpAny _ _ (field (.ref it) 0 >>= _) _ _ s
 refine wpAny_bind (wpAny_field hit rfl (x:=rawInt x) rfl ?_)
 show wpAny _ _ (field (.ref it) 1 >>= _) _ _ s
 refine wpAny_bind (wpAny_field hit rfl (x:=rawInt left) rfl ?_)
 show wpAny _ _ (field (.ref it) 2 >>= _) _ _ s
 refine wpAny_bind (wpAny_field hit rfl (x:=rawInt step) rfl ?_)
 show wpAny _ _ (if left≤0 then _ else _) _ _ s
 rw[if_pos hleft]
 refine wpAny_bind (wpAny_rule ?_)
 refine wpAny_bind ?_
 show wpAny _ _ (newExc (.type "StopIteration") [] >>= _) _ _ _
 refine wpAny_bind ?_
 simp only[newExc,newTuple]
 refine wpAny_bind (wpAny_newObj_type ?_ (by size_fits))
 refine wpAny_bind (m:=firstArgMember _ _) (wpAny_of_eq (a:=Value.none) (by first | rfl | (simp only[firstArgMember];rfl)) ?_)
 refine wpAny_newObj_type ?_ (by size_fits)
 simp only[raiseNew]
 refine wpAny_bind (wpAny_handled ?_)
 first | rw[show A.in1.handled=some (.ref a) from hh] | rw[hh]
 dsimp only
 have hsz:(s.heap.push { cls:=Value.type "tuple",data:=Data.seq #[] }).objs.size=s.heap.objs.size+1:=Heap.size_push ..
 have hlt:a<s.heap.objs.size:=Heap.lt_size ha
 refine wpAny_ite_split (fun _=>?_) (fun hab=>absurd (by rw[hsz];exact bne_iff_ne.mpr fun e=>absurd (Value.ref.inj e) (Nat.ne_of_lt (Nat.lt_succ_of_lt hlt))) hab)
 have ha2:((s.heap.push { cls:=Value.type "tuple",data:=Data.seq #[] }).push { cls:=Value.type "StopIteration",data:=.fields (#[Value.ref s.heap.objs.size,.none,.none,.none,.bool false,.none]++ownMembersOf (.type "StopIteration") []) }).get? a=some ⟨cls,dx,.fields vs,sl⟩:=Heap.get?_push_of_some _ (Heap.get?_push_of_some _ ha)
 refine wpAny_bind (wpAny_holding (Jo (cls:=cls) (dx:=dx) (vs:=vs) (sl:=sl) ha2 h2 ?_))
 have he:((s.heap.push { cls:=Value.type "tuple",data:=Data.seq #[] }).push { cls:=Value.type "StopIteration",data:=.fields (#[Value.ref s.heap.objs.size,.none,.none,.none,.bool false,.none]++ownMembersOf (.type "StopIteration") []) }).get? (s.heap.push { cls:=Value.type "tuple",data:=Data.seq #[] }).objs.size=some { cls:=Value.type "StopIteration",data:=.fields (#[Value.ref s.heap.objs.size,.none,.none,.none,.bool false,.none]++ownMembersOf (.type "StopIteration") []) }:=Heap.get?_push_size _ rfl
 refine wpAny_bind ?_
 unfold updateField
 refine wpAny_bind (wpAny_load he ?_)
 refine wpAny_ite_split (fun _=>?_) (fun hab=>absurd (by rw[Array.size_append];exact Nat.lt_of_lt_of_le (by decide:2<6) (Nat.le_add_right _ _)) hab)
 refine wpAny_update he ?_
 refine wpAny_throw ?_
 refine wpAny_bind (wpAny_isInstance (T:="StopIteration") (b:=true) ⟨_,Heap.get?_update_self _ he rfl,rfl⟩ isSubtype_stop ?_)
 refine wpAny_pure (hQ _ fun b o hb e=>?_)
 exact (Heap.get?_update_other _ _ (by rw[hsz];exact Ne.symm (Nat.ne_of_lt (Nat.lt_succ_of_lt (Heap.lt_size e))))).trans (Heap.get?_push_of_some _ (Heap.get?_push_of_some _ e))
end
end L2
namespace L2
open PySem PySem.Spec PyProof.Rows
def VG (o:Obj):Prop:=∃vs,o.data= .fields vs∧vs[2]? = some .none
def Mb (ah:Addr) (oh:Obj) (X:Cx) (pins:List (Addr×Obj)):Prop:=X.A.handled=some (.ref ah)∧(ah,oh)∈X.pn++pins∧VG oh
structure Pk (ah:Addr) (oh:Obj) (P:Program) (w:World) (K:PySem.W.Frag) (tg:Expr) (J:It) (fp:List Addr) (it:Addr) (tn:Nat→Heap→Prop):Prop where
 mem:it∈fp
 obj:∀i h,tn i h→∀b∈fp,∃o,h.get? b=some o∧∀v,o.data≠.cell v
 keep:∀i h h',tn i h→(∀b∈fp,∀o,h.get? b=some o→h'.get? b=some o)→tn i h'
 item:∀(X:Cx),X.prog=P→X.w=w→X.K=K→∀(i:Nat) (pins:List (Addr×Obj)),Mb ah oh X pins→∀(s:Shared) (σ:St) (H:Hp) (E:Value→Shared→Prop),Inv X pins σ H s→(∀b∈fp,BO X pins H b)→tn i s.heap→J.go i H→
  wpAny (model P w) X.A (pyNext (.ref it)) (fun r s1=>∃u,r=some u∧
   wpAny (model P w) X.A (letOwnedTupleGo tg (.ref it) u) (fun _ s2=>∃x H',Inv X pins σ H' s2∧RelV x u∧J.yld i H x H'∧tn (i+1) s2.heap∧∀b∈fp,H' b=none) E s1) E s
 done:∀(X:Cx),X.prog=P→X.w=w→X.K=K→∀(i:Nat) (pins:List (Addr×Obj)),Mb ah oh X pins→∀(s:Shared) (σ:St) (H:Hp) (E:Value→Shared→Prop),Inv X pins σ H s→(∀b∈fp,BO X pins H b)→tn i s.heap→J.stop i H→
  wpAny (model P w) X.A (pyNext (.ref it)) (fun r s1=>r=none∧Inv X pins σ H s1) E s
 self:∀(A:Around) (i:Nat) (s:Shared) (Q:Value→Shared→Prop) (E:Value→Shared→Prop),tn i s.heap→Q (.ref it) s→wpAny (model P w) A (pyIter (.ref it)) Q E s
theorem JE {ah:Addr} {oh:Obj} {P:Program} {w:World} {K:PySem.W.Frag} {tg:Expr} (it:Addr) (lo:Int) (n:Nat):Pk ah oh P w K tg (Tb lo n) [it] it (fun i h=>IsRangeIter h it (lo+(i:Nat)*1) ((n:Int)-(i:Nat)) 1) where
 mem:=by simp
 obj:=(Et (P:=P) (w:=w) (K:=K) (tg:=tg) it lo n).obj
 keep:=(Et (P:=P) (w:=w) (K:=K) (tg:=tg) it lo n).keep
 item:=by
  intro X hP hw hK i pins hc s σ H E I hf st hg
  subst hP hw hK
  have hg:i<n:=hg
  obtain⟨f0,f1,f2,f3,f4,f5⟩:=hf it (by simp)
  refine wpAny_pyNext_range_item st (by omega) fun h' st' sb=>?_
  have I1:Inv X pins σ H { s with heap:=h',toks:=s.toks+1 }:=I.turned (fun b o hb e=>(sb.2 b hb).trans e) f0 f1 f3 f4 f5
  have e1:lo+((i:Nat):Int)*1+1=lo+((i+1:Nat):Int)*1:=by omega
  have e2:(n:Int)-((i:Nat):Int)-1=(n:Int)-((i+1:Nat):Int):=by omega
  rw[e1,e2] at st'
  refine⟨_,rfl,JM (s:={ s with heap:=h',toks:=s.toks+1 }) (n:="range_iterator") st' rfl rfl (by decide) ⟨.int (lo+i),H,I1,⟨s.toks,by rw[Int.mul_one]⟩,⟨rfl,rfl⟩,st',fun b hb=>(hf b hb).1⟩⟩
 done:=by
  intro X hP hw hK i pins hc s σ H E I hf st hg
  subst hP hw hK
  have hg:n≤i:=hg
  obtain⟨f0,f1,f2,f3,f4,f5⟩:=hf it (by simp)
  obtain⟨h1,h2,vs,h3,h4⟩:=hc
  have hp:=(I.pin _ h2).1
  obtain⟨cls,dx,dt,sl⟩:=oh
  cases h3
  exact KH h1 hp h4 st (by omega) fun h' eb=>⟨rfl,I.turned (t':=s.toks) (fun b o hb e=>eb b o hb e) f0 f1 f3 f4 f5⟩
 self:=fun _ _ _ _ _ st h=>wpAny_pyIter_rangeiter st h
def U6 (ah:Addr) (oh:Obj) (X:Cx) (pins:List (Addr×Obj)) (σ:St) (tg:Expr) (R:It→Hp→Prop) (itv:Value) (s2:Shared):Prop:=
 ∃(it:Addr) (fp:List Addr) (tn:Nat→Heap→Prop) (J:It) (H':Hp),itv= .ref it∧Inv X pins σ H' s2∧Pk ah oh X.prog X.w X.K tg J fp it tn∧tn 0 s2.heap∧(∀b∈fp,BO X pins H' b)∧R J H'
def We (ah:Addr) (oh:Obj) (X:Cx) (tg iter:Expr) (wi:TI):Prop:=
 ∀(pins:List (Addr×Obj)) (s:Shared) (σ:St) (H:Hp) (R:It→Hp→Prop),Inv X pins σ H s→wi σ H R→
  wpAny (model X.prog X.w) X.A (eval iter X.env) (fun v s1=>wpAny (model X.prog X.w) X.A (pyIter v) (U6 ah oh X pins σ tg R) X.xe s1) X.xe s
section
variable {X:Cx} {tg:Expr} {ah:Addr} {oh:Obj}
theorem N1 {pins:List (Addr×Obj)} {σ:St} {H:Hp} {s:Shared} {R:It→Hp→Prop} {E:Value→Shared→Prop} {lo hi:Int} {t u v:Tok} {tk:Nat} (I:Inv X pins σ H s) (h1 : -(2^62)≤lo) (h2:lo<2^62) (h3 : -(2^62)≤hi) (h4:hi<2^62)
  (q:R (Tb lo (hi-lo).toNat) H):wpAny (model X.prog X.w) X.A (pyIter (.ref s.heap.objs.size)) (U6 ah oh X pins σ tg R) E { s with heap:=s.heap.push { cls:=.type "range",data:=.fields #[.int lo t,.int hi u,.int 1 v] },toks:=tk }:=by
 refine wpAny_pyIter_range (IsRange.new ..) (small_one h1 h2 h3 h4) ?_
 have I1:Inv X pins σ H { s with heap:=s.heap.push { cls:=.type "range",data:=.fields #[.int lo t,.int hi u,.int 1 v] },toks:=tk }:=I.kept fun b o e=>Heap.get?_push_of_some _ e
 refine⟨(s.heap.push { cls:=.type "range",data:=.fields #[.int lo t,.int hi u,.int 1 v] }).objs.size,[(s.heap.push { cls:=.type "range",data:=.fields #[.int lo t,.int hi u,.int 1 v] }).objs.size],_,_,H,rfl,
  I1.kept (t':=tk) fun b o e=>Heap.get?_push_of_some _ e,JE _ lo (hi-lo).toNat,?_,fun b hb=>?_,q⟩
 ·have e1:lo+((0:Nat):Int)*1=lo:=by simp
  have e2:(((hi-lo).toNat:Nat):Int)-((0:Nat):Int)=Builtin.Range.rangeSize lo hi 1:=by rw[rangeSize_one];split<;>omega
  show IsRangeIter _ _ (lo+((0:Nat):Int)*1) ((((hi-lo).toNat:Nat):Int)-((0:Nat):Int)) 1
  rw[e1,e2]
  exact Heap.get?_push_size _ rfl
 ·have e:b=(s.heap.push { cls:=.type "range",data:=.fields #[.int lo t,.int hi u,.int 1 v] }).objs.size:=by simpa using hb
  subst e
  exact I1.fpOk (Nat.le_refl _) (I1.hok.fresh (Nat.le_refl _))
theorem K0 {a:Expr} {ta:TA} {p pos:Pos} (hg:Gl X "range") (hm:X.mg "range"=none) (ha:PA X [a] ta) (hs:starEach [a] X.env=[(false,eval a X.env)]:=by rfl):We ah oh X tg (.Call (.Name "range" p) [a] [] pos) (SU ta):=by
 intro pins s σ H R I h
 refine Call_ (Es I hg hm boot_range (PyProof.Rows.callWith_type1 (AM (ha pos pins s σ H _ I h) fun us s1 ⟨vs,H1,I1,r1,q1⟩=>?_) hs rfl))
 obtain⟨j,e,q1,q2,q⟩:=q1
 subst e
 cases r1 with
 | cons r rr=>
  cases rr
  obtain⟨t,rfl⟩:=r
  exact call_range_1 (N1 I1 (by omega) (by omega) q1 q2 (by simpa using q))
end
section
variable {X:Cx} {e tg:Expr} {d:Nat} {acc:Value} {it:Addr} {WB:Ra} {tb:TS} {g:TG} {J:It} {fp:List Addr} {tn:Nat→Heap→Prop} {D:Ends} {pins:List (Addr×Obj)} {σ:St} {H:Hp} {s:Shared}
theorem LP {ah:Addr} {oh:Obj} (hxe:X.xe=El) (hc:Mb ah oh X pins) (ht:HT X e d (.ref it) acc tg WB) (hfr:(Code.compLoop e d (.ref it) acc X.env).isFrame=false) (hun:X.A.under (.compLoop e d (.ref it) acc X.env)=X.A) (hqu:(Code.compLoop e d (.ref it) acc X.env).quiet=true)
  (T:Pk ah oh X.prog X.w X.K tg J fp it tn) (hg:PG X tg g) (hb:PB X WB tb)
  (I:Inv X pins σ H s) (st:tn 0 s.heap) (f2:∀b∈fp,BO X pins H b) (h:EO J g tb D σ H) :
  codeAny (model X.prog X.w) X.A (.compLoop e d (.ref it) acc X.env) (fun r s'=>r= .ok .next∧∃σ' H',Inv X pins σ' H' s'∧D.nx σ' H') s:=by
 obtain⟨W,⟨m0,w0⟩,turn⟩:=h
 have stat:∀{H':Hp},(∀b∈fp,H' b=none)→∀b∈fp,BO X pins H' b:=fun hn b hb=>⟨hn b hb,(f2 b hb).2⟩
 refine codeAny_loop hqu (fun n s'=>∃i σ' H',Inv X pins σ' H' s'∧tn i s'.heap∧(∀b∈fp,H' b=none)∧W i n σ' H') (fun n s3 hI=>?_) m0 ⟨0,σ,H,I,st,fun b hb=>(f2 b hb).1,w0⟩
 obtain⟨i,σ3,H3,I3,st3,fr3,w3⟩:=hI
 have hden:(model X.prog X.w).den (.compLoop e d (.ref it) acc X.env)=(compTurn e d (.ref it) acc X.env).onRaise (fun x=>do noteFrame x X.env;theTreesLotGoes x):=by
  show (if (Code.compLoop e d (.ref it) acc X.env).isFrame=true then _ else _)=_
  rw[hfr]
  rfl
 rw[hun,hden]
 refine wpAny_noted (Jq ?_)
 rcases turn i n σ3 H3 w3 with⟨stop,qn⟩|⟨go,N,hN,step⟩
 ·refine wpAny_mono (ht s3 (fun s'=>∃σ' H',Inv X pins σ' H' s'∧D.nx σ' H') (fun _=>False) (AM (T.done X rfl rfl rfl i pins hc s3 σ3 H3 El I3 (stat fr3) st3 stop) fun r s4 ⟨hr,I4⟩=>?_)) (fun fin s' q=>?_) fun _ _ z=>z
  ·subst hr
   exact⟨σ3,H3,I4,qn⟩
  ·cases fin with
   | done f=>
    obtain⟨rfl,q⟩:=q
    exact⟨rfl,q⟩
   | again c'=>exact False.elim q.2
 ·refine wpAny_mono (ht s3 (fun _=>False) (fun s'=>∃m,m<n∧∃i σ' H',Inv X pins σ' H' s'∧tn i s'.heap∧(∀b∈fp,H' b=none)∧W i m σ' H') (AM (T.item X rfl rfl rfl i pins hc s3 σ3 H3 El I3 (stat fr3) st3 go) fun r s4 ⟨u,hr,h4⟩=>?_)) (fun fin s' q=>?_) fun _ _ z=>z
  ·subst hr
   refine AM h4 fun _ s5 ⟨x,H5,I5,r5,y5,st5,fr5⟩=>?_
   have I5':=I5.pinned (stat fr5) (T.obj _ _ st5)
   have hgx:=hg _ s5 σ3 H5 x u _ I5' r5 (step x H5 y5)
   rw[hxe] at hgx
   refine AM hgx fun _ s6 ⟨σ6,H6,I6,q6⟩=>?_
   have again:∀{s7:Shared},(∃σ7 H7,Inv X (pins++E9 fp s5.heap) σ7 H7 s7∧N σ7 H7)→∃m,m<n∧∃i σ' H',Inv X pins σ' H' s7∧tn i s7.heap∧(∀b∈fp,H' b=none)∧W i m σ' H':=fun {s7} ⟨σ7,H7,I7,n7⟩=>by
    obtain⟨m',hm,w7⟩:=hN σ7 H7 n7
    refine⟨m',hm,i+1,σ7,H7,I7.unpinned,T.keep _ _ _ st5 fun b hb o e=>(I7.pin (b,o) (List.mem_append_right _ (List.mem_append_right _ (BL hb e)))).1,fun b hb=>?_,w7⟩
    obtain⟨o,e,d⟩:=T.obj _ _ st5 b hb
    exact (I7.pin (b,o) (List.mem_append_right _ (List.mem_append_right _ (BL hb e)))).2.1
   exact hb.mono _ _ s6 (fun s7 q7=>again q7) (hb.run _ s6 σ6 H6 _ I6 q6)
  ·cases fin with
   | done f=>exact False.elim q.2
   | again c'=>exact q
end
def O9 (oh:Obj) (wi:TI) (js:List (Option Nat)) (g:CC→TG) (tb:CC→Addr→TS):TE:=fun σ H Q=>VG oh∧L9 wi js g tb σ H Q
section
variable {X:Cx} {N:List Str} {scope:Scope} {cl:List (Str×Addr)} {js:List (Option Nat)} {elt tg iter:Expr} {ifs:List Expr} {rest:List Comprehension} {pos:Pos} {wi:TI} {g:CC→TG} {tb:CC→Addr→TS}
theorem NL {WB:CC→Value→Ra} {ah:Addr} {oh:Obj} (hxe:X.xe=El) (hh:X.A.handled=some (.ref ah)) (hpn:(ah,oh)∈X.pn) (hi:We ah oh X tg iter wi) (hs:∀x,foldedSetIterable iter X.env x=pure x) (hclos:closureFor scope X.env=pure cl) (hk:scope.kind= .function)
  (hnames:∀x∈scope.names,x.2= .local→scope.names.lookup x.1=some .local) (hcell:∀x∈scope.names,x.2≠.cell)
  (hcl:∀p∈cl,X.env.cells.lookup p.1=some p.2) (hcn:∀x,((relabel scope X.env).names.lookup x=some .cell∨(relabel scope X.env).names.lookup x=some .free)→∃c,cl.lookup x=some c)
  (hsh:Gu X N scope js) (hl:js.length=N.length)
  (ht:∀c it ac,HT (X.cmp N scope cl c) (.ListComp elt (⟨tg,iter,ifs,0⟩::rest) scope pos) 0 it ac tg (WB c ac))
  (hg:∀c,PG (X.cmp N scope cl c) tg (g c)) (hb:∀c ac,PB (X.cmp N scope cl c) (WB c (.ref ac)) (tb c ac)) :
  PE X (.ListComp elt (⟨tg,iter,ifs,0⟩::rest) scope pos) (O9 oh wi js g tb):=by
 intro pins s σ H Q I h
 obtain⟨hoh,h⟩:=h
 rw[eval_ListComp]
 have h0:=hi pins s σ H _ I h
 refine wpAny_comprehension_free (use:=none) (cl:=cl) rfl hs hclos hk hnames (AM h0 fun v s1 h1=>AM h1 fun itv s2 h2=>?_)
 obtain⟨it,fp,tn,J,H2,e,I2,T,st2,f2,hR⟩:=h2
 subst e
 refine wpAny_newObj_type (wpAny_newFunctionEnv hcell (by intro y hy;simp at hy) (fun h₁ hns₁ hsb₁=>?_) hk)
 dsimp only at hns₁ hsb₁ ⊢
 have I3:=I2.lnew (ys:=[]) (its:=[]) (t':=s2.toks) .nil (Nat.zero_le _)
 have fpl:∀b∈fp,b<s2.heap.objs.size:=fun b hb=>by
  obtain⟨o,e,_⟩:=T.obj 0 _ st2 b hb
  exact Heap.lt_size e
 have fpa:∀b∈fp,b≠s2.heap.objs.size:=fun b hb=>Nat.ne_of_lt (fpl b hb)
 have f3:∀b∈fp,BO X pins (upd H2 s2.heap.objs.size (.lst [])) b:=fun b hb=>⟨by rw[Aq (fpa b hb)];exact (f2 b hb).1,(f2 b hb).2⟩
 have hR':=hR ⟨{ s2 with heap:=s2.heap.push { cls:=.type "list",data:=.seq ([]:List Value).toArray } },upd H2 s2.heap.objs.size (.lst []),fp⟩ s2.heap.objs.size I2.fresh
 have I4:=I3.cmp (N:=N) (cl:=cl) (js:=js) (t':=s2.toks) f3 (fun b hb=>by
  show b<(s2.heap.push _).objs.size
  rw[Heap.size_push]
  exact Nat.lt_succ_of_lt (fpl b hb)) hk hcl hcn hsh hl hns₁ hsb₁
 have st4:tn 0 h₁:=T.keep 0 _ _ st2 fun b hb o e=>(hsb₁.2 b (by
  rw[Heap.size_push]
  exact Nat.ne_of_lt (Nat.lt_succ_of_lt (fpl b hb)))).trans (Heap.get?_push_of_some _ (Heap.get?_push_of_some _ e))
 have f4:∀b∈fp,BO (X.cmp N scope cl ⟨{ s2 with heap:=s2.heap.push { cls:=.type "list",data:=.seq ([]:List Value).toArray } },upd H2 s2.heap.objs.size (.lst []),fp⟩) [] (upd H2 s2.heap.objs.size (.lst [])) b:=fun b hb=>
  ⟨(f3 b hb).1,(I4.ok.exf b hb).1,I4.ok.exfs b hb,.inl hb,(I4.ok.exf b hb).2,fun p hp=>absurd (show p∈([]:List (Addr×Obj)) from hp) (by simp)⟩
 have hpa:=I2.pin (ah,oh) (List.mem_append_left _ hpn)
 have halt:ah<s2.heap.objs.size:=Heap.lt_size hpa.1
 have I4p:=I4.pins_of (pins':=[(ah,oh)]) fun p hp=>by
  rw[List.mem_singleton.mp hp]
  refine⟨?_,?_,?_,?_,hpa.2.2.2.2⟩
  ·exact (hsb₁.2 ah (by rw[Heap.size_push];exact Nat.ne_of_lt (Nat.lt_succ_of_lt halt))).trans (Heap.get?_push_of_some _ (Heap.get?_push_of_some _ hpa.1))
  ·exact (Aq (Nat.ne_of_lt halt)).trans hpa.2.1
  ·show ah≠(s2.heap.push _).objs.size
   rw[Heap.size_push]
   exact Nat.ne_of_lt (Nat.lt_succ_of_lt halt)
  ·intro z
   rcases List.mem_cons.mp (I2.stkSub ah z) with e | e
   ·exact hpa.2.2.1 e
   ·exact hpa.2.2.2.1 e
 have f4p:∀b∈fp,BO (X.cmp N scope cl ⟨{ s2 with heap:=s2.heap.push { cls:=.type "list",data:=.seq ([]:List Value).toArray } },upd H2 s2.heap.objs.size (.lst []),fp⟩) [(ah,oh)] (upd H2 s2.heap.objs.size (.lst [])) b:=fun b hb=>
  ⟨(f3 b hb).1,(I4.ok.exf b hb).1,I4.ok.exfs b hb,.inl hb,(I4.ok.exf b hb).2,fun p hp=>by
   rw[List.mem_singleton.mp (show p∈[(ah,oh)] from hp)]
   exact (f3 b hb).2.2.2.2.2 (ah,oh) (List.mem_append_left _ hpn)⟩
 have hcH:Mb ah oh (X.cmp N scope cl ⟨{ s2 with heap:=s2.heap.push { cls:=.type "list",data:=.seq ([]:List Value).toArray } },upd H2 s2.heap.objs.size (.lst []),fp⟩) [(ah,oh)]:=⟨hh,List.mem_singleton.mpr rfl,hoh⟩
 have loop:=codeAny_mono (LP (X:=X.cmp N scope cl ⟨{ s2 with heap:=s2.heap.push { cls:=.type "list",data:=.seq ([]:List Value).toArray } },upd H2 s2.heap.objs.size (.lst []),fp⟩) (e:=.ListComp elt (⟨tg,iter,ifs,0⟩::rest) scope pos) (d:=0) (acc:=.ref s2.heap.objs.size) (pins:=[(ah,oh)]) hxe hcH (ht _ _ _) rfl rfl rfl T (hg _) (hb _ _) I4p st4 f4p hR') (R':=compPost (model X.prog X.w) X.A X.xe none (EP X pins σ Q) (.ref s2.heap.objs.size) (s2.heap.push { cls:=.type "list",data:=.seq ([]:List Value).toArray }).objs.size) (fun r s' hq=>by
  obtain⟨rfl,σ',H',J',q⟩:=hq
  obtain⟨m,hn,_⟩:=id J'.loc
  exact⟨m,hn,fun h'' hs''=>⟨.ref s2.heap.objs.size,H',I3.uncmp f3 (J'.pins_of (pins':=[]) fun p hp=>absurd hp (by simp)) hs'',rfl,q⟩⟩)
 exact B9 (X:=X.cmp N scope cl ⟨{ s2 with heap:=s2.heap.push { cls:=.type "list",data:=.seq ([]:List Value).toArray } },upd H2 s2.heap.objs.size (.lst []),fp⟩) rfl rfl rfl (fun _=>rfl) True.intro loop (T.self _ 0 _ _ _ st4 loop)
theorem MV {ah:Addr} {oh:Obj} {tc:CC→TT} {te:CC→TE} (h:CompOk X N scope cl js) (hi:We ah oh X tg iter wi) (hg:∀c,PG (X.cmp N scope cl c) tg (g c)) (hif:∀c,OD (X.cmp N scope cl c) ifs (tc c)) (he:∀c,PE (X.cmp N scope cl c) elt (te c))
  (hxe:X.xe=El:=by rfl) (hh:X.A.handled=some (.ref ah):=by rfl) (hpn:(ah,oh)∈X.pn:=by exact List.mem_cons_self) (hs:∀x,foldedSetIterable iter X.env x=pure x:=by intro _;rfl) :
  PE X (.ListComp elt [⟨tg,iter,ifs,0⟩] scope pos) (O9 oh wi js g fun c ac=>Em (tc c) (Ds ac (te c))):=
 NL (WB:=fun c ac=>Fb (X.cmp N scope cl c) ifs elt ac) hxe hh hpn hi hs h.clos h.kind h.names h.cell h.ccl h.hcn h.shr h.len (fun c it ac=>Pu) hg fun c ac=>IQ hxe (hif c) (he c)
end
end L2
namespace L2
open PySem PySem.Spec PyProof.Rows
theorem Tu {P:Program} {w:World} {H:Hp} (h:Heap) (hb:sysModules<h.objs.size):ObjOk P w H (h.push { cls:=.type "dict",data:=.dict #[] }) h.objs.size (.dK []):=by
 refine⟨Nat.zero_le _,?_,[],.nil,Heap.DictOf.new h⟩
 rw[beq_eq_false_iff_ne]
 exact fun z=>by rw[z] at hb;exact Nat.lt_irrefl _ hb
def Sm:TE:=fun _ H Q=>∀d,H d=none→Q (.ref d) (upd H d (.dK []))
section
variable {X:Cx} {pos:Pos}
theorem N9:PE X (.Dict [] [] pos) Sm:=by
 intro pins s σ H Q I h
 have fr:H s.heap.objs.size=none:=I.hok.fresh (Nat.le_refl _)
 refine wpAny_Dict_empty ⟨.ref s.heap.objs.size,upd H s.heap.objs.size (.dK []),?_,rfl,h _ fr⟩
 exact I.laid (t':=s.toks) (fun b o q=>Heap.get?_push_of_some _ q) (Nat.le_refl _) (Tu s.heap (Nat.lt_trans (by decide:sysModules<mainGlobals) (I.mod.glob.keeps I.bk).lt))
theorem Ng:BC X (.type "str") (fun xs H Q=>∃i:Int,xs=[.int i]∧0≤i∧i<2^60∧Q (.str (toString i)) H):=by
 intro pins s σ H xs us Q I r h
 obtain⟨i,rfl,h0,h1,q⟩:=h
 obtain⟨u,rfl,ru⟩:=Cr r
 obtain⟨t,rfl⟩:=ru
 refine P.str_of_int ?_ ⟨.str (toString i),H,?_,⟨_,rfl⟩,q⟩
 ·have:i.natAbs<2^60:=by omega
  have h2:i.natAbs.log2<61:=by
   by_cases c:i.natAbs=0
   ·rw[c];decide
   ·exact Nat.lt_of_lt_of_le ((Nat.log2_lt c).mpr this) (by decide)
  omega
 ·exact I.tok _
end
end L2
namespace L2
open PySem PySem.Spec PyProof.Rows
def dS (d:List (Str×V)):List (Er×V):=d.map fun p=>(Sum.inr p.1,p.2)
def BS (d:List (Str×V)) (k:Str):Option V:=(d.find? fun p=>decide (p.1=k)).map (·.2)
def NM (d:List (Str×V)) (k:Str):List (Str×V):=d.filter fun p=>decide (p.1≠k)
theorem GV (d:List (Str×V)):(dS d).length=d.length:=List.length_map _
theorem TU (d e:List (Str×V)):dS (d++e)=dS d++dS e:=List.map_append ..
theorem Kr:∀{d:List (Str×V)} {vs:List (Er×Value)} (_:KV (dS d) vs) (k:Str),RelO (BS d k) (valueAt vs (.inr k))
 | [],vs,r,k=>by cases r;exact True.intro
 | p::d,vs,r,k=>by
  cases r with
  | @cons _ q _ qs h t=>
   by_cases e:p.1=k
   ·have e':q.1=Sum.inr k:=by rw[←h.1];exact congrArg Sum.inr e
    have a:BS (p::d) k=some p.2:=by simp[BS,List.find?_cons,e]
    have b:valueAt (q::qs) (.inr k)=some q.2:=by simp[valueAt,List.find?_cons,e']
    rw[a,b];exact h.2
   ·have e':¬q.1=Sum.inr k:=by rw[←h.1];exact fun z=>e (Sum.inr.inj z)
    have a:BS (p::d) k=BS d k:=by simp[BS,List.find?_cons,e]
    have b:valueAt (q::qs) (.inr k)=valueAt qs (.inr k):=by simp[valueAt,List.find?_cons,e']
    rw[a,b];exact Kr t k
theorem MG:∀{d:List (Er×V)} {vs:List (Er×Value)} {k:Er} {v:V} {u:Value},KV d vs→RelV v u→KV (d++[(k,v)]) (vs++[(k,u)])
 | [],vs,k,v,u,r,ru=>by cases r;exact .cons ⟨rfl,ru⟩ .nil
 | p::d,vs,k,v,u,r,ru=>by cases r with | cons h t=>exact .cons h (MG t ru)
theorem QJ:∀{d:List (Str×V)} {vs:List (Er×Value)} (_:KV (dS d) vs) {k:Str},BS d k=none→(vs.any fun kv=>decide (kv.1=Sum.inr k))=false
 | [],vs,r,k,_=>by cases r;rfl
 | p::d,vs,r,k,h0=>by
  cases r with
  | @cons _ q _ qs h t=>
   by_cases e:p.1=k
   ·have a:BS (p::d) k=some p.2:=by simp[BS,List.find?_cons,e]
    rw[a] at h0;exact nomatch h0
   ·have e':¬q.1=Sum.inr k:=by rw[←h.1];exact fun z=>e (Sum.inr.inj z)
    have a:BS (p::d) k=BS d k:=by simp[BS,List.find?_cons,e]
    rw[List.any_cons,decide_eq_false e',QJ t (a ▸ h0)];rfl
theorem K9:∀{d:List (Str×V)} {vs:List (Er×Value)} (_:KV (dS d) vs) (k:Str),KV (dS (NM d k)) (without vs (.inr k))
 | [],vs,r,k=>by cases r;exact .nil
 | p::d,vs,r,k=>by
  cases r with
  | @cons _ q _ qs h t=>
   unfold NM without
   rw[List.filter_cons,List.filter_cons]
   by_cases e:p.1=k
   ·have e':q.1=Sum.inr k:=by rw[←h.1];exact congrArg Sum.inr e
    rw[if_neg (by simp[e]),if_neg (by simp[e'])];exact K9 t k
   ·have e':¬q.1=Sum.inr k:=by rw[←h.1];exact fun z=>e (Sum.inr.inj z)
    rw[if_pos (by simp[e]),if_pos (by simp[e'])];exact .cons h (K9 t k)
theorem Mv:∀{d:List (Str×V)} {vs:List (Er×Value)} (_:KV (dS d) vs) (j:Nat) (k:Er) (x:Value),vs[j]? = some (k,x)→∃p,d[j]? = some p∧k=Sum.inr p.1
 | [],vs,r,j,k,x,e=>by cases r;simp at e
 | p::d,vs,r,j,k,x,e=>by
  cases r with
  | @cons _ q _ qs h t=>
   cases j with
   | zero=>
    have e1:q=(k,x):=by simpa using e
    subst e1
    exact⟨p,rfl,h.1.symm⟩
   | succ j=>
    obtain⟨p',h1,h2⟩:=Mv t j k x (by simpa using e)
    exact⟨p',by simpa using h1,h2⟩
section
variable {X:Cx}
theorem HD {pins:List (Addr×Obj)} {σ:St} {H:Hp} {s:Shared} {a:Addr} {d:List (Str×V)} (I:Inv X pins σ H s) (h:H a=some (.dK (dS d))) :
  d.length≤sizeLine∧(a == sysModules)=false∧∃vs,KV (dS d) vs∧s.heap.DictOf (Ch X.prog X.w) a vs:=by
 have:=(show ObjOk X.prog X.w H s.heap a (.dK (dS d)) from I.hok a _ h)
 obtain⟨z,m,r⟩:=this
 exact⟨by rw[←GV];exact z,m,r⟩
theorem QD {pins:List (Addr×Obj)} {σ:St} {H:Hp} {s:Shared} {a:Addr} {d d':List (Str×V)} {vs:List (Er×Value)} {h':Heap} {t':Nat} (I:Inv X pins σ H s) (h:H a=some (.dK (dS d))) (hm:(a == sysModules)=false)
  (hs:Heap.SameBut a s.heap h') (hd:h'.DictOf (Ch X.prog X.w) a vs) (r:KV (dS d') vs) (hl:d'.length≤sizeLine):Inv X pins σ (upd H a (.dK (dS d'))) { s with heap:=h',toks:=t' }:=by
 have he:∃q,h'.get? a=some q:=let ⟨q,_,_,hq,_⟩:=hd;⟨q,hq⟩
 exact I.write (x:=a) (e:=a) (by rw[h];exact True.intro) (.inl rfl) (fun b q hb z=>(hs.2 b hb).trans z) he ⟨by rw[GV];exact hl,hm,vs,r,hd⟩
def Vq (neg:Bool):R2:=fun x y H Q=>∃(a:Addr) (d:List (Str×V)) (k:Str),x= .str k∧y= .ref a∧H a=some (.dK (dS d))∧Q (.bl (neg ^^ (BS d k).isSome)) H
theorem FH {a:Option V} {b:Option Value} (r:RelO a b):a.isSome=b.isSome:=by
 cases a<;>cases b<;>first | rfl | exact False.elim r
theorem Ue:Dw X (compareOp .In) (Vq false):=by
 intro pins s σ H x y v u Q I rx ry h
 obtain⟨a,d,k,rfl,rfl,hd,q⟩:=h
 obtain⟨t,rfl⟩:=rx
 cases ry
 obtain⟨_,hm,vs,r,D⟩:=HD I hd
 refine wpAny_in_of (BR _ _ k t) hm D.mapOf ⟨.bl _,H,I.tok _,?_,q⟩
 rw[Bool.false_xor,FH (Kr r k)];rfl
theorem Oa:Dw X (compareOp .NotIn) (Vq true):=by
 intro pins s σ H x y v u Q I rx ry h
 obtain⟨a,d,k,rfl,rfl,hd,q⟩:=h
 obtain⟨t,rfl⟩:=rx
 cases ry
 obtain⟨_,hm,vs,r,D⟩:=HD I hd
 refine wpAny_notIn_of (BR _ _ k t) hm D.mapOf ⟨.bl _,H,I.tok _,?_,q⟩
 rw[Bool.true_xor,FH (Kr r k)];rfl
def Wd:R2:=fun x y H Q=>∃(a:Addr) (d:List (Str×V)) (k:Str) (z:V),x= .ref a∧y= .str k∧H a=some (.dK (dS d))∧BS d k=some z∧Q z H
theorem RL:UO X Wd:=by
 intro value slice pins s σ H x y v u Q I rx ry h hs
 obtain⟨a,d,k,z,rfl,rfl,hd,e,q⟩:=h
 cases rx
 obtain⟨t,rfl⟩:=ry
 obtain⟨_,hm,vs,r,D⟩:=HD I hd
 have hr:=Kr r k
 rw[e] at hr
 cases ev:valueAt vs (Sum.inr k:Er) with
 | none=>rw[ev] at hr;exact False.elim hr
 | some u'=>
  rw[ev] at hr
  exact tail_any D.typeIs slot_dict_getitem.lookup (wpAny_getItem_of (BR _ _ k t) D.mapOf ev ⟨z,H,I.tok _,hr,q⟩) hs
def UX:V→V→V→Hp→(Hp→Prop)→Prop:=fun o i v H Q=>∃(a:Addr) (d:List (Str×V)) (k:Str),o= .ref a∧i= .str k∧H a=some (.dK (dS d))∧BS d k=none∧d.length≤1000∧Q (upd H a (.dK (dS (d++[(k,v)]))))
theorem Qx:U5 X UX:=by
 intro pins s σ H o i v ov iv u Q I ro ri rv h
 obtain⟨a,d,k,rfl,rfl,hd,hn,hl,q⟩:=h
 cases ro
 obtain⟨t,rfl⟩:=ri
 obtain⟨hz,hm,vs,r,D⟩:=HD I hd
 have hvl:vs.length=d.length:=by rw[←Paired.length r,GV]
 refine wpAny_setItem_pairs (hsz:=by rw[hvl];exact hz) (BR _ _ k t) D fun h' D' hs=>⟨_,QD I hd hm hs D' (d':=d++[(k,v)]) ?_ ?_,q⟩
 ·unfold stored
  rw[QJ r hn,if_neg Bool.false_ne_true,TU]
  exact MG r rv
 ·rw[List.length_append]
  exact Nat.le_trans (show d.length+1≤1001 by omega) (by decide)
def U7:V→List V→Hp→VK→Prop:=fun x vs H Q=>∃(a:Addr) (d:List (Str×V)) (k:Str) (z:V),x= .ref a∧vs=[.str k]∧H a=some (.dK (dS d))∧BS d k=some z∧Q z (upd H a (.dK (dS (NM d k))))
theorem Sk:VN X "dict.pop" U7:=by
 intro pins s σ H x vs v us Q I rx rv h
 obtain⟨a,d,k,z,rfl,rfl,hd,e,q⟩:=h
 cases rx
 obtain⟨u,rfl,ru⟩:=rv.one
 obtain⟨t,rfl⟩:=ru
 obtain⟨hz,hm,ws,r,D⟩:=HD I hd
 have hvl:ws.length=d.length:=by rw[←Paired.length r,GV]
 have hr:=Kr r k
 rw[e] at hr
 cases ev:valueAt ws (Sum.inr k:Er) with
 | none=>rw[ev] at hr;exact False.elim hr
 | some u'=>
  rw[ev] at hr
  refine call_meetsIn PySem.F.slot_dict_pop D.typeIs PySem.F.entry_dict_pop (PySem.F.args_dict_pop_2 _ _) (meets_dict_pop_there (Ch X.prog X.w) a (BR _ _ k t) [] (.inl rfl) rfl)
   ⟨ws,u',D,by rw[hvl];exact hz,ev,fun h' D' hs=>⟨z,_,QD I hd hm hs D' (d':=NM d k) (K9 r k) (Nat.le_trans (List.length_filter_le _ _) hz),hr,q⟩⟩
theorem Lz (hc:X.calm=true):BC X (.type "list") (fun xs H Q=>∃(a:Addr) (d:List (Str×V)),xs=[.ref a]∧H a=some (.dK (dS d))∧∀l,H l=none→Q (.ref l) (upd H l (.lst (d.map fun p=>V.str p.1)))):=by
 intro pins s σ H xs us Q I r h
 obtain⟨a,d,rfl,hd,q⟩:=h
 obtain⟨u,rfl,ru⟩:=Cr r
 cases ru
 obtain⟨hz,hm,vs,rr,D⟩:=HD I hd
 have hvl:vs.length=d.length:=by rw[←Paired.length rr,GV]
 obtain⟨o,es,ep,h1,h2,h3,h4,h5,h6⟩:=D
 refine PySem.W.kdl_call (PySem.W.kdl_dict (knd:=Ch X.prog X.w) (kvs:=vs) (ep:=ep) hm) (I.ok.hd hc) ⟨o,es,h1,h2,h3,h4,h5,h6⟩ (by rw[hvl];exact hz) fun h' tk acc c kk hl hi=>?_
 have lo:s.heap.objs.size≤s.heap.objs.size:=Nat.le_refl _
 have hv:Vals (d.map fun p=>V.str p.1) acc.toList:=by
  have hal:acc.toList.length=d.length:=by rw[Array.length_toList,hi.1,hvl]
  refine IZ (by simp[hal]) fun i x u hx hu=>?_
  obtain⟨k,y,hk,his⟩:=hi.2 i u (by simpa using hu)
  obtain⟨p,hp,rfl⟩:=Mv rr i k y hk
  have ex:x= .str p.1:=by
   rw[List.getElem?_map,hp] at hx
   exact (Option.some.inj hx).symm
  subst ex
  rcases Ba (show JD (Sum.inr p.1) u=true from his) with⟨_,_,e,_⟩|⟨x,t,e,e'⟩
  ·exact nomatch e
  ·cases e;exact⟨t,e'⟩
 refine⟨.ref s.heap.objs.size,_,I.laid (t':=tk) (o:=.lst (d.map fun p=>V.str p.1)) kk lo ?_,rfl,q _ (I.hok.fresh lo)⟩
 exact⟨by rw[List.length_map];exact hz,acc.toList,c,hv,by rw[hl,Array.toArray_toList]⟩
end
end L2
namespace Toy
open PySem L2 HT2 PyProof.Rows
open PySem.W (clsIn codeIn findIn fnOf isFn keepIn kitOne mg_none_of mg_of mroIn nsIn subIn typeIn)
theorem Bn {N P:List Str} {c:Scope} (x:c.kind=.function:=by exact rfl) (y:c.isCoroutine=false:=by exact rfl) (z:c.isGenerator=false:=by exact rfl) (d:N.Nodup:=by decide +kernel) (e:N.take P.length=P:=by exact rfl) (g:∀x∈P,c.names.lookup x=some .local∨c.names.lookup x=some .cell:=by decide +kernel) (h:∀y∈c.names,y.2≠.free:=by decide +kernel):Al N P c:=⟨x,y,z,d,e,g,h⟩
variable {P:Program} {w:World} {K:PySem.W.Frag} {mg:Str→Option Value} {bz:Heap} {f:Addr} {fd:FuncData}
set_option maxHeartbeats 64000000
def Bm (i:Nat):Stmt:=PySem.Challenge.pw_holdtalk_k49_doors_of_a_house.main.body.getD i (.Pass ⟨0,0,0,0⟩)
abbrev NX:Stmt:=Bm 75
abbrev Ou:Stmt:=Bm 76
abbrev IB:Stmt:=Bm 79
structure Bl (mg:Str→Option Value):Prop where
 abs:mg "abs"=none
 len:mg "len"=none
 range:mg "range"=none
def Pf (K:PySem.W.Frag):Sp:=fun vs H Q _=>∃(a:Addr) (ns:List Int) (k:Int),vs=[.ref a,.int k]∧SqL K H a (ns.map V.int)∧ns.length≤63∧0≤k∧k≤1000∧
 ∀(n:Int) (H':Hp),0≤n→Same H H'→Q (.int n) H'
def Py:Sp:=fun vs H Q _=>∃(n:Int) (most many:Nat),vs=[.int n,.int most,.int many]∧0≤n∧1≤most∧most≤12∧1≤many∧many≤5∧
 ∀(v:V) (t:Tr) (H':Hp),Same H H'→t.At H' v→t.ok many→t.size+1≤2*most→Q v H'
section
theorem scNum:Al ["_law_script","_law_k","_law_cell","_law_one","_law_two"] ["_law_script","_law_k"] (Ad NX):=Bn
theorem TV (F:Fun K "_law_num" "_law_num" NX f fd) (B:Bl mg):FnOk P w K mg bz AU 1 f fd ["_law_script","_law_k"] (Pf K):=by
 refine F.ok scNum (fun vs H Q E h=>?_) (fun cdv A outer s H vs Q E hr h=>?_)
 ·obtain⟨a,ns,k,rfl,_⟩:=h
  rfl
 obtain⟨a,ns,k,rfl,hS,h63,hk0,hk1,q⟩:=h
 refine⟨_,Ae (Ax (i:=2) scNum.nd rfl (Or.inl rfl) Ao)
  (Ae (AC (Av (PL hr.units0) (pv 0) (AE Ac) (AB _))
   (Af (Ax (i:=2) scNum.nd rfl (Or.inl rfl) (AG QP (by rfl) B.abs boot_abs (Ab (AL AI (pv 0) (AK BI (pv 1) (AG A8 (by rfl) B.len PySem.boot_len (Ab (pv 0) Ac))) (fun _ _=>rfl)) Ac)))) Aw)
  (Ae (AC (KU (Av Vd (pv 1) (AG A8 (by rfl) B.len PySem.boot_len (Ab (pv 0) Ac)) (AB _)) (Jm (Av SY (pv 2) (AK LC Ao Ao) (AB _)))).pt
   (Af (Am (pv 2))) Aw)
  (Ae (Ax (i:=3) scNum.nd rfl (Or.inl rfl) (AK BI (AK Ep (AK Ep (AK Gk (pv 2) Ao) (AK Gk Ao (pv 1))) Ao) Ao))
  (Ae (Ax (i:=4) scNum.nd rfl (Or.inl rfl) (AK BI (AK Ep (AK Ep (AK Gk (pv 3) (pv 3)) (AK Gk Ao (pv 2))) Ao) Ao))
  (Af (Am (AK Ep (AK Gk (pv 3) Ao) (pv 4)))))))),?_⟩
 refine⟨_,rfl,Of,fun p hp=>?_⟩
 have sm:Same H (upd H p (.lst [])):=Ag hp _
 refine⟨a,p,_,rfl,rfl,sm.seq hS,SqL.of upd_same,_,rfl,?_⟩
 have hl:(ns.map V.int).length=ns.length:=List.length_map _
 have fin:∀c:Int,0≤c→∀b:Int,0≤(c*48271+40692*k+11)%2147483647*2147483629+b%2147483629:=fun c hc b=>by
  have h1:=Int.emod_nonneg (c*48271+40692*k+11) (show (2147483647:Int)≠0 by decide)
  have h2:=Int.emod_nonneg b (show (2147483629:Int)≠0 by decide)
  omega
 have b64:∀b:Int,-(2^64)<b%2147483647∧b%2147483647<2^64:=fun b=>by omega
 refine Du (fun c0=>?_) (fun c0=>?_)
 ·have ne:ns≠[]:=by
   intro z
   subst z
   exact absurd c0 (by decide)
  have hp':0<ns.length:=List.length_pos_iff.mpr ne
  have hi:(k%(ns.length:Int)).toNat<ns.length:=by
   have h1:=Int.emod_nonneg k (show (ns.length:Int)≠0 by omega)
   have h2:=Int.emod_lt_of_pos k (show (0:Int)<ns.length by omega)
   omega
  have hat:Dv (ns.map V.int) (k%(((ns.map V.int).length:Nat):Int))=some (.int ns[(k%(ns.length:Int)).toNat]):=by
   have e:k%(((ns.map V.int).length:Nat):Int)=(((k%(ns.length:Int)).toNat:Nat):Int):=by
    rw[hl]
    have h1:=Int.emod_nonneg k (show (ns.length:Int)≠0 by omega)
    omega
   rw[e]
   refine As ?_
   rw[List.getElem?_map,List.getElem?_eq_getElem hi]
   rfl
  refine⟨_,rfl,_,rfl,_,rfl,a,_,rfl,.inl (sm.seq hS),_,_,rfl,rfl,(by rw[hl];omega),a,_,_,_,rfl,rfl,sm.seq hS,hat,_,rfl,?_⟩
  generalize hc:(if ns[(k%(ns.length:Int)).toNat]<0 then -ns[(k%(ns.length:Int)).toNat] else ns[(k%(ns.length:Int)).toNat])=c
  have hc0:0≤c:=by
   rw[←hc]
   split<;>omega
  refine⟨_,rfl,_,rfl,a,_,rfl,.inl (sm.seq hS),_,_,rfl,rfl,_,rfl,?_⟩
  have tail:∀{G:Prop},(∀y:Int,0≤(c*48271+40692*k+11)%2147483647*2147483629+y%2147483629→Q (.int ((c*48271+40692*k+11)%2147483647*2147483629+y%2147483629)) (upd H p (.lst []))):=fun {G} y hy=>q _ _ hy sm
  refine Du (fun c1=>?_) (fun c1=>?_)
  ·refine⟨_,rfl,_,_,rfl,rfl,⟨by decide,by decide,by decide⟩,_,_,rfl,rfl,_,rfl,?_⟩
   refine Du (fun c2=>?_) (fun c2=>?_)
   ·exact⟨_,rfl,q c _ hc0 sm⟩
   ·refine⟨_,rfl,_,_,rfl,rfl,.inr ⟨by decide,by decide⟩,_,rfl,_,_,rfl,rfl,.inl ⟨by decide,by decide⟩,_,_,rfl,rfl,_,_,rfl,rfl,_,_,rfl,rfl,(by show (0:Int)<2147483647;decide),?_⟩
    refine⟨_,rfl,_,rfl,_,_,rfl,rfl,.inl (b64 _),_,rfl,_,_,rfl,rfl,.inl ⟨by decide,by decide⟩,_,_,rfl,rfl,_,_,rfl,rfl,_,_,rfl,rfl,(by show (0:Int)<2147483629;decide),?_⟩
    exact⟨_,rfl,_,_,rfl,rfl,.inl (b64 _),_,rfl,_,_,rfl,rfl,q _ _ (fin c hc0 _) sm⟩
  ·refine Bd ?_
   refine⟨_,rfl,_,_,rfl,rfl,.inr ⟨by decide,by decide⟩,_,rfl,_,_,rfl,rfl,.inl ⟨by decide,by decide⟩,_,_,rfl,rfl,_,_,rfl,rfl,_,_,rfl,rfl,(by show (0:Int)<2147483647;decide),?_⟩
   refine⟨_,rfl,_,rfl,_,_,rfl,rfl,.inl (b64 _),_,rfl,_,_,rfl,rfl,.inl ⟨by decide,by decide⟩,_,_,rfl,rfl,_,_,rfl,rfl,_,_,rfl,rfl,(by show (0:Int)<2147483629;decide),?_⟩
   exact⟨_,rfl,_,_,rfl,rfl,.inl (b64 _),_,rfl,_,_,rfl,rfl,q _ _ (fin c hc0 _) sm⟩
 ·have c:Int:=0
  refine⟨_,rfl,_,rfl,a,_,rfl,.inl (sm.seq hS),_,_,rfl,rfl,_,rfl,?_⟩
  refine Du (fun c1=>?_) (fun c1=>?_)
  ·refine⟨_,rfl,_,_,rfl,rfl,⟨by decide,by decide,by decide⟩,_,_,rfl,rfl,_,rfl,?_⟩
   refine Du (fun c2=>?_) (fun c2=>?_)
   ·exact⟨_,rfl,q 0 _ (Int.le_refl _) sm⟩
   ·refine⟨_,rfl,_,_,rfl,rfl,.inr ⟨by decide,by decide⟩,_,rfl,_,_,rfl,rfl,.inl ⟨by decide,by decide⟩,_,_,rfl,rfl,_,_,rfl,rfl,_,_,rfl,rfl,(by show (0:Int)<2147483647;decide),?_⟩
    refine⟨_,rfl,_,rfl,_,_,rfl,rfl,.inl (b64 _),_,rfl,_,_,rfl,rfl,.inl ⟨by decide,by decide⟩,_,_,rfl,rfl,_,_,rfl,rfl,_,_,rfl,rfl,(by show (0:Int)<2147483629;decide),?_⟩
    exact⟨_,rfl,_,_,rfl,rfl,.inl (b64 _),_,rfl,_,_,rfl,rfl,q _ _ (fin 0 (Int.le_refl _) _) sm⟩
  ·refine Bd ?_
   refine⟨_,rfl,_,_,rfl,rfl,.inr ⟨by decide,by decide⟩,_,rfl,_,_,rfl,rfl,.inl ⟨by decide,by decide⟩,_,_,rfl,rfl,_,_,rfl,rfl,_,_,rfl,rfl,(by show (0:Int)<2147483647;decide),?_⟩
   refine⟨_,rfl,_,rfl,_,_,rfl,rfl,.inl (b64 _),_,rfl,_,_,rfl,rfl,.inl ⟨by decide,by decide⟩,_,_,rfl,rfl,_,_,rfl,rfl,_,_,rfl,rfl,(by show (0:Int)<2147483629;decide),?_⟩
   exact⟨_,rfl,_,_,rfl,rfl,.inl (b64 _),_,rfl,_,_,rfl,rfl,q _ _ (fin 0 (Int.le_refl _) _) sm⟩
theorem Va:Al ["_law_n"] ["_law_n"] (Ad Ou):=Bn
def SR:Sp:=fun vs H Q _=>∃(n:Int),vs=[.int n]∧0≤n∧∀(m:Nat) (H':Hp),1≤m→m≤5→Same H H'→Q (.int m) H'
def fews:List Int:=[3,2,3,1,3,2,4,5]
theorem WW:8≤sizeLine:=by decide
theorem TH {i:Nat} (h:i<8):∃m:Nat,1≤m∧m≤5∧(fews.map V.int)[i]? = some (.int m):=by
 match i,h with
 | 0,_=>exact⟨3,by decide,by decide,rfl⟩
 | 1,_=>exact⟨2,by decide,by decide,rfl⟩
 | 2,_=>exact⟨3,by decide,by decide,rfl⟩
 | 3,_=>exact⟨1,by decide,by decide,rfl⟩
 | 4,_=>exact⟨3,by decide,by decide,rfl⟩
 | 5,_=>exact⟨2,by decide,by decide,rfl⟩
 | 6,_=>exact⟨4,by decide,by decide,rfl⟩
 | 7,_=>exact⟨5,by decide,by decide,rfl⟩
theorem Uz (F:Fun K "_law_few" "_law_few" Ou f fd):FnOk P w K mg bz AU 1 f fd ["_law_n"] SR:=by
 refine F.ok Va (fun vs H Q E h=>?_) (fun cdv A outer s H vs Q E hr h=>?_)
 ·obtain⟨n,rfl,_⟩:=h
  rfl
 obtain⟨n,rfl,h0,q⟩:=h
 refine⟨_,Af (Am (AL AI (AE (Ab Ao (Ab Ao (Ab Ao (Ab Ao (Ab Ao (Ab Ao (Ab Ao (Ab Ao Ac))))))))) (AK BI (pv 0) Ao) (fun _ _=>rfl))),?_⟩
 have h1:=Int.emod_nonneg n (show (8:Int)≠0 by decide)
 have h2:=Int.emod_lt_of_pos n (show (0:Int)<8 by decide)
 obtain⟨m,m1,m5,hm⟩:=TH (i:=(n%8).toNat) (by omega)
 have hat:Dv (fews.map V.int) (n%8)=some (.int m):=by
  have e:n%8=(((n%8).toNat:Nat):Int):=by omega
  rw[e]
  exact As (j:=(n%8).toNat) hm
 refine⟨WW,fun l hl=>?_⟩
 refine⟨_,rfl,_,_,rfl,rfl,(by show (0:Int)<8;decide),l,fews.map V.int,_,_,rfl,rfl,SqL.of upd_same,hat,?_⟩
 exact q m _ m1 m5 (Ag hl _)
end
section
theorem scSent:Al ["_law_n","_law_most","_law_many","_law_joints","_law_pile","_law_size","_law_turn","_law_digit","_law_right"] ["_law_n","_law_most","_law_many"] (Ad IB):=Bn
structure PileAt (H1 H2:Hp) (pl:Addr) (xs:List V) (ts:List Tr) (many:Nat):Prop where
 sm:Same H1 H2
 at':H2 pl=some (.lst xs)
 pile:Pile H2 xs ts
 ok:∀t∈ts,t.ok many
theorem PileAt.len {H1 H2:Hp} {pl:Addr} {xs:List V} {ts:List Tr} {many:Nat} (p:PileAt H1 H2 pl xs ts many):xs.length=ts.length:=p.pile.len
theorem PileAt.pop {H1 H2:Hp} {pl:Addr} {xs:List V} {ts:List Tr} {many:Nat} (np:H1 pl=none) (p:PileAt H1 H2 pl xs ts many) (h:0<ts.length) :
  ∃y ts' t,xs[xs.length-1]? = some y∧ts=ts'++[t]∧t.ok many∧t.At (upd H2 pl (.lst xs.dropLast)) y∧PileAt H1 (upd H2 pl (.lst xs.dropLast)) pl xs.dropLast ts' many:=by
 obtain⟨xs',y,ts',t,rfl,rfl,q,a⟩:=p.pile.last h
 refine⟨y,ts',t,DU _ _,rfl,p.ok t (by simp),a.keep (TS.lst p.at'),⟨AH p.sm np _,upd_same,?_,fun u hu=>p.ok u (by simp[hu])⟩⟩
 rw[List.dropLast_concat]
 exact q.keep (TS.lst p.at')
theorem PileAt.new {H1 H2:Hp} {pl e:Addr} {xs:List V} {ts:List Tr} {many:Nat} {o:HO} (p:PileAt H1 H2 pl xs ts many) (he:H2 e=none):PileAt H1 (upd H2 e o) pl xs ts many:=
 ⟨p.sm.trans (Ag he _),(Ag he _) _ _ p.at',p.pile.keep (TS.new he),p.ok⟩
theorem PileAt.put {H1 H2:Hp} {pl c:Addr} {xs:List V} {ts:List Tr} {many:Nat} {t:Tr} {ys:List V} (np:H1 pl=none) (p:PileAt H1 H2 pl xs ts many) (hc:H2 c=none) (ht:t.ok many)
  (ha:t.At (upd (upd H2 c (.tup ys)) pl (.lst (xs++[.ref c]))) (.ref c)):PileAt H1 (upd (upd H2 c (.tup ys)) pl (.lst (xs++[.ref c]))) pl (xs++[.ref c]) (ts++[t]) many:=by
 have k:TS H2 (upd (upd H2 c (.tup ys)) pl (.lst (xs++[.ref c]))):=(TS.new hc).trans (TS.lst (xs:=xs) (by rw[Aq (Ai p.at' hc)];exact p.at'))
 refine⟨AH (p.sm.trans (Ag hc _)) np _,upd_same,(p.pile.keep k).snoc ha,fun u hu=>?_⟩
 rcases List.mem_append.mp hu with z | z
 ·exact p.ok u z
 ·rw[List.mem_singleton.mp z]
  exact ht
theorem Jf {H2:Hp} {pl c:Addr} {xs ys zs:List V} (hp:H2 pl=some (.lst zs)) (hc:H2 c=none):(upd (upd H2 c (.tup ys)) pl (.lst xs)) c=some (.tup ys):=by
 rw[Aq (Ai hp hc).symm,upd_same]
theorem DI {H2:Hp} {pl c:Addr} {xs ys zs:List V} (hp:H2 pl=some (.lst zs)) (hc:H2 c=none):TS H2 (upd (upd H2 c (.tup ys)) pl (.lst xs)):=
 (TS.new hc).trans (TS.lst (xs:=zs) (by rw[Aq (Ai hp hc)];exact hp))
def Rf (H1:Hp) (jl pl:Addr) (most many:Nat) (size:Int) (i:Nat):L2.St→Hp→Prop:=fun σ H2=>∃(m:Int) (tv dv rv:Option V) (xs:List V) (ts:List Tr),
 σ=[some (.int m),some (.int most),some (.int many),some (.ref jl),some (.ref pl),some (.int size),tv,dv,rv]∧0≤m∧PileAt H1 H2 pl xs ts many∧sz ts≤i∧ts.length≤i∧(0<i→0<ts.length)
theorem EE {H1 H3:Hp} {jl pl c:Addr} {most many i:Nat} {size d m2:Int} {xs:List V} {ts:List Tr} {tv rv:Option V} (np:H1 pl=none) (p:PileAt H1 H3 pl xs ts many) (hc:H3 c=none) (h1:1≤many) (hm:0≤m2) (z1:sz ts≤i) (z2:ts.length≤i) :
  Rf H1 jl pl most many size (i+1) [some (.int m2),some (.int most),some (.int many),some (.ref jl),some (.ref pl),some (.int size),tv,some (.int d),rv] (upd (upd H3 c (.tup [.str "let",.int (d%(many:Int))])) pl (.lst (xs++[.ref c]))):=by
 have e1:=Int.emod_nonneg d (show (many:Int)≠0 by omega)
 have e2:=Int.emod_lt_of_pos d (show (0:Int)<many by omega)
 have e3:d%(many:Int)=(((d%(many:Int)).toNat:Nat):Int):=by omega
 refine⟨m2,_,_,_,_,ts++[.lt (d%(many:Int)).toNat],rfl,hm,p.put (t:=.lt (d%(many:Int)).toNat) np hc (by show (d%(many:Int)).toNat<many;omega) ⟨c,rfl,?_⟩,?_,?_,?_⟩
 ·rw[Jf p.at' hc,←e3]
 ·rw[BJ];show sz ts+1≤i+1;omega
 ·rw[List.length_append];show ts.length+1≤i+1;omega
 ·intro _;rw[List.length_append];exact Nat.succ_pos _
theorem O0 {H1 H3:Hp} {jl pl c:Addr} {most many i:Nat} {size m2:Int} {xs:List V} {ts:List Tr} {t:Tr} {y:V} {tv dv rv:Option V} (np:H1 pl=none) (p:PileAt H1 H3 pl xs ts many) (hc:H3 c=none) (hm:0≤m2) (ht:t.ok many) (ha:t.At H3 y) (z1:sz (ts++[t])≤i) (z2:(ts++[t]).length≤i) :
  Rf H1 jl pl most many size (i+1) [some (.int m2),some (.int most),some (.int many),some (.ref jl),some (.ref pl),some (.int size),tv,dv,rv] (upd (upd H3 c (.tup [.str "not",y])) pl (.lst (xs++[.ref c]))):=by
 rw[BJ] at z1
 rw[List.length_append] at z2
 have z2':ts.length+1≤i:=z2
 refine⟨m2,_,_,_,_,ts++[.nt t],rfl,hm,p.put (t:=.nt t) np hc ht ⟨c,y,rfl,Jf p.at' hc,ha.keep (DI p.at' hc)⟩,?_,?_,?_⟩
 ·rw[BJ];show sz ts+(t.size+1)≤i+1;omega
 ·rw[List.length_append];show ts.length+1≤i+1;omega
 ·intro _;rw[List.length_append];exact Nat.succ_pos _
theorem Sa {H1 H3:Hp} {jl pl c:Addr} {most many i:Nat} {size m2 j:Int} {xs:List V} {ts:List Tr} {t u:Tr} {y x:V} {tv dv rv:Option V} (np:H1 pl=none) (p:PileAt H1 H3 pl xs ts many) (hc:H3 c=none) (hm:0≤m2) (hj0:0≤j) (hj:j<4) (ht:t.ok many) (hu:u.ok many) (ha:t.At H3 y) (hx:u.At H3 x) (z1:sz (ts++[u]++[t])≤i) (z2:(ts++[u]++[t]).length≤i) :
  Rf H1 jl pl most many size (i+1) [some (.int m2),some (.int most),some (.int many),some (.ref jl),some (.ref pl),some (.int size),tv,dv,rv] (upd (upd H3 c (.tup [.str (jn j.toNat),x,y])) pl (.lst (xs++[.ref c]))):=by
 rw[BJ,BJ] at z1
 rw[List.length_append,List.length_append] at z2
 have z2':ts.length+1+1≤i:=z2
 refine⟨m2,_,_,_,_,ts++[.bn j.toNat u t],rfl,hm,p.put (t:=.bn j.toNat u t) np hc ⟨by omega,hu,ht⟩ ⟨c,x,y,rfl,Jf p.at' hc,hx.keep (DI p.at' hc),ha.keep (DI p.at' hc)⟩,?_,?_,?_⟩
 ·rw[BJ];show sz ts+(u.size+t.size+1)≤i+1;omega
 ·rw[List.length_append];show ts.length+1≤i+1;omega
 ·intro _;rw[List.length_append];exact Nat.succ_pos _
theorem Wj {t:Tr} {most:Nat} (h:sz ([]++[t])+([]++[t]:List Tr).length≤2*most):t.size+1≤2*most:=by
 rw[BJ] at h
 have h':0+t.size+1≤2*most:=h
 omega
def Uv (H1:Hp) (jl pl:Addr) (most many:Nat) (size:Int) (k:Nat):L2.St→Hp→Prop:=fun σ H2=>∃(m:Int) (tv dv rv:Option V) (xs:List V) (ts:List Tr),
 σ=[some (.int m),some (.int most),some (.int many),some (.ref jl),some (.ref pl),some (.int size),tv,dv,rv]∧0≤m∧PileAt H1 H2 pl xs ts many∧sz ts+ts.length≤2*most∧ts.length=k∧0<k
theorem Uo {H1 H3:Hp} {jl pl c:Addr} {most many k:Nat} {size m2 j:Int} {xs:List V} {ts:List Tr} {t u:Tr} {y x:V} {tv dv rv:Option V} (np:H1 pl=none) (p:PileAt H1 H3 pl xs ts many) (hc:H3 c=none) (hm:0≤m2) (hj0:0≤j) (hj:j<4) (ht:t.ok many) (hu:u.ok many) (ha:t.At H3 y) (hx:u.At H3 x) (z1:sz (ts++[u]++[t])+(ts++[u]++[t]).length≤2*most) (z2:(ts++[u]++[t]).length=k) :
  ∃k',k'<k∧Uv H1 jl pl most many size k' [some (.int m2),some (.int most),some (.int many),some (.ref jl),some (.ref pl),some (.int size),tv,dv,rv] (upd (upd H3 c (.tup [.str (jn j.toNat),x,y])) pl (.lst (xs++[.ref c]))):=by
 rw[BJ,BJ,List.length_append,List.length_append] at z1
 rw[List.length_append,List.length_append] at z2
 have z2':ts.length+1+1=k:=z2
 have z1':sz ts+u.size+t.size+(ts.length+1+1)≤2*most:=z1
 refine⟨ts.length+1,by omega,m2,_,_,_,_,ts++[.bn j.toNat u t],rfl,hm,p.put (t:=.bn j.toNat u t) np hc ⟨by omega,hu,ht⟩ ⟨c,x,y,rfl,Jf p.at' hc,hx.keep (DI p.at' hc),ha.keep (DI p.at' hc)⟩,?_,?_,Nat.succ_pos _⟩
 ·rw[BJ,List.length_append];show sz ts+(u.size+t.size+1)+(ts.length+1)≤2*most;omega
 ·rw[List.length_append];rfl
theorem Rv (F:Fun K "_law_sentence" "_law_sentence" IB f fd) (B:Bl mg):FnOk P w K mg bz AU 1 f fd ["_law_n","_law_most","_law_many"] Py:=by
 refine F.ok scSent (fun vs H Q E h=>?_) (fun cdv A outer s H vs Q E hr h=>?_)
 ·obtain⟨n,most,many,rfl,_⟩:=h
  rfl
 obtain⟨n,most,many,rfl,h0,hm1,hm2,hy1,hy2,q⟩:=h
 refine⟨_,Ae (Ax (i:=3) scSent.nd rfl (Or.inl rfl) (AE (Ab Ah (Ab Ah (Ab Ah (Ab Ah Ac))))))
  (Ae (Ax (i:=4) scSent.nd rfl (Or.inl rfl) (AE Ac))
  (Ae (Ax (i:=5) scSent.nd rfl (Or.inl rfl) (AK Ep Ao (AK BI (pv 0) (pv 1))))
  (Ae (Ax (i:=0) scSent.nd rfl (Or.inl rfl) (AK Ci (pv 0) (pv 1)))
  (Ae (Bv PassesOwn.never rfl (DO (by rfl) B.range (Ab (pv 5) Ac)) (AN (i:=6) scSent.nd rfl (Or.inl rfl))
   (Ae (Ax (i:=7) scSent.nd rfl (Or.inl rfl) (AK BI (pv 0) Ao))
   (Ae (Ax (i:=0) scSent.nd rfl (Or.inl rfl) (AK Ci (pv 0) Ao))
   (Af (AC (KU (Av AX (pv 7) Ao (AB _)) (Jm (Av (PL hr.units0) (pv 4) (AE Ac) (AB _)))).pt
    (Af (AA (Bw PySem.F.plainAttrs_list PySem.F.slot_list_append PySem.F.type_list_append AZ (pv 4) (Ab (Bt (Ab Ah (Ab (Ce PySem.F.plainAttrs_list PySem.F.slot_list_pop PySem.F.type_list_pop Cm (pv 4)) Ac))) Ac))))
    (Af (AC (KU (Av Mx (pv 7) Ao (AB _)) (Jm (Av Mx (AG A8 (by rfl) B.len PySem.boot_len (Ab (pv 4) Ac)) Ao (AB _)))).pt
     (Ae (Ax (i:=8) scSent.nd rfl (Or.inl rfl) (Ce PySem.F.plainAttrs_list PySem.F.slot_list_pop PySem.F.type_list_pop Cm (pv 4)))
     (Af (AA (Bw PySem.F.plainAttrs_list PySem.F.slot_list_append PySem.F.type_list_append AZ (pv 4) (Ab (Bt (Ab (AL AI (pv 3) (AK TD (pv 7) Ao) (fun _ _=>rfl)) (Ab (Ce PySem.F.plainAttrs_list PySem.F.slot_list_pop PySem.F.type_list_pop Cm (pv 4)) (Ab (pv 8) Ac)))) Ac)))))
     (Af (AA (Bw PySem.F.plainAttrs_list PySem.F.slot_list_append PySem.F.type_list_append AZ (pv 4) (Ab (Bt (Ab Ah (Ab (AK BI (pv 7) (pv 2)) Ac))) Ac)))))))))))
  (Ae (DJ PassesOwn.never (Av Mx (AG A8 (by rfl) B.len PySem.boot_len (Ab (pv 4) Ac)) Ao (AB _))
   (Ae (Ax (i:=8) scSent.nd rfl (Or.inl rfl) (Ce PySem.F.plainAttrs_list PySem.F.slot_list_pop PySem.F.type_list_pop Cm (pv 4)))
   (Ae (AA (Bw PySem.F.plainAttrs_list PySem.F.slot_list_append PySem.F.type_list_append AZ (pv 4) (Ab (Bt (Ab (AL AI (pv 3) (AK BI (pv 0) Ao) (fun _ _=>rfl)) (Ab (Ce PySem.F.plainAttrs_list PySem.F.slot_list_pop PySem.F.type_list_pop Cm (pv 4)) (Ab (pv 8) Ac)))) Ac)))
   (Af (Ax (i:=0) scSent.nd rfl (Or.inl rfl) (AK Ci (pv 0) Ao))))))
  (Af (Am (AL AI (pv 4) Ao (fun _ _=>rfl))))))))),?_⟩
 refine⟨Vg,fun jl hjl=>⟨Of,fun pl hpl=>?_⟩⟩
 have sJ:Same H (upd H jl (.lst Dn)):=Ag hjl _
 have nJ:jl≠pl:=Ai (upd_same (H:=H) (a:=jl) (o:=.lst Dn)) hpl
 refine⟨_,rfl,_,rfl,_,_,rfl,rfl,(by omega),_,_,rfl,rfl,_,rfl,_,rfl,_,_,rfl,rfl,⟨by omega,by omega⟩,?_⟩
 have hsz0:=Int.emod_nonneg n (show (most:Int)≠0 by omega)
 have hsz1:=Int.emod_lt_of_pos n (show (0:Int)<most by omega)
 have hn0:0≤n / (most:Int):=Int.ediv_nonneg h0 (by omega)
 have hs1:1≤1+n%(most:Int):=by omega
 have hs2:1+n%(most:Int)≤most:=by omega
 refine⟨_,rfl,_,rfl,(by omega),(by omega),Ct (n:=(1+n%(most:Int)).toNat) (Rf (upd H jl (.lst Dn)) jl pl most many (1+n%(most:Int))) ?_ ?_ ?_⟩
 ·exact⟨_,none,none,none,[],[],rfl,hn0,⟨Ag hpl _,upd_same,.nil,fun t ht=>absurd ht (by simp)⟩,Nat.le_refl _,Nat.le_refl _,fun z=>z⟩
 ·rintro i σ H2 hi ⟨m,tv,dv,rv,xs,ts,rfl,hm,p,z1,z2,z3⟩
  have hlen:=p.len
  have hi':i<12:=by omega
  have hm2:0≤m / 10:=by omega
  have hd0:0≤m%10:=by omega
  have hd1:m%10<10:=by omega
  have lt12:∀{k:Nat},k≤12→k<sizeLine:=fun h=>AO (Nat.le_trans h (by decide))
  refine⟨_,rfl,_,_,rfl,rfl,(by show (0:Int)<10;decide),_,rfl,_,_,rfl,rfl,⟨by decide,by decide⟩,?_⟩
  refine⟨_,rfl,rfl,_,rfl,?_⟩
  refine Du (fun c1=>?_) (fun c1=>?_)
  ·refine⟨_,rfl,Of,fun e he=>?_⟩
   have p3:PileAt (upd H jl (.lst Dn)) (upd H2 e (.lst [])) pl xs ts many:=p.new he
   refine⟨pl,e,xs,rfl,rfl,SqL.of p3.at',SqL.of upd_same,_,rfl,?_⟩
   refine Du (fun c2=>?_) (fun c2=>?_)
   ·have hpos:0<ts.length:=by
     cases xs with
     | nil=>exact absurd c2 (by decide)
     | cons x r=>rw[←hlen];exact Nat.succ_pos _
    obtain⟨y,ts',t,ey,rfl,okt,ha,p4⟩:=p3.pop hpl hpos
    have hl4:=p4.len
    rw[List.length_append] at z2
    have z2':ts'.length+1≤i:=z2
    refine⟨_,rfl,.inl ⟨rfl,_,SqL.of p3.at'⟩,_,rfl,.inl ⟨rfl,_,SqL.of p3.at'⟩,pl,_,y,rfl,rfl,p3.at',ey,FV,fun c hc=>⟨pl,_,_,rfl,rfl,(Ag hc _) _ _ p4.at',lt12 (by omega),?_⟩⟩
    exact O0 hpl p4 hc hm2 okt ha z1 (by rw[List.length_append];exact z2)
   ·
    refine⟨_,rfl,_,_,rfl,rfl,_,rfl,?_⟩
    refine Du (fun c3=>?_) (fun c3=>?_)
    ·refine⟨_,rfl,pl,xs,rfl,.inl (SqL.of p3.at'),_,_,rfl,rfl,_,rfl,?_⟩
     refine Du (fun c4=>?_) (fun c4=>?_)
     ·exfalso
      have:xs=[]:=by
       cases xs with
       | nil=>rfl
       | cons x r=>exact absurd rfl c2
      subst this
      exact absurd c4 (by decide)
     ·refine⟨_,rfl,.inl ⟨rfl,_,SqL.of p3.at'⟩,_,rfl,_,rfl,_,_,rfl,rfl,(by omega),FV,fun c hc=>⟨pl,_,_,rfl,rfl,(Ag hc _) _ _ p3.at',lt12 (by omega),?_⟩⟩
      exact EE hpl p3 hc hy1 hm2 z1 z2
    ·refine Bd ?_
     refine⟨_,rfl,.inl ⟨rfl,_,SqL.of p3.at'⟩,_,rfl,_,rfl,_,_,rfl,rfl,(by omega),FV,fun c hc=>⟨pl,_,_,rfl,rfl,(Ag hc _) _ _ p3.at',lt12 (by omega),?_⟩⟩
     exact EE hpl p3 hc hy1 hm2 z1 z2
  ·refine Bd ?_
   refine⟨_,rfl,_,_,rfl,rfl,_,rfl,?_⟩
   refine Du (fun c3=>?_) (fun c3=>?_)
   ·have c3':(5:Int)<m%10:=of_decide_eq_true c3
    refine⟨_,rfl,pl,xs,rfl,.inl (SqL.of p.at'),_,_,rfl,rfl,_,rfl,?_⟩
    refine Du (fun c4=>?_) (fun c4=>?_)
    ·have c4':(1:Int)<(xs.length:Nat):=of_decide_eq_true c4
     obtain⟨y,ts',t,ey,rfl,okt,ha,p4⟩:=p.pop hpl (by omega)
     rw[List.length_append] at hlen
     have hlen':xs.length=ts'.length+1:=hlen
     obtain⟨x,ts2,u,ex,rfl,oku,hax,p5⟩:=p4.pop hpl (by omega)
     have hl5:=p5.len
     rw[List.length_append,List.length_append] at z2
     have z2':ts2.length+1+1≤i:=z2
     refine⟨_,rfl,.inl ⟨rfl,_,SqL.of p.at'⟩,pl,_,y,rfl,rfl,p.at',ey,?_⟩
     refine⟨_,rfl,.inl ⟨rfl,_,SqL.of p4.at'⟩,_,rfl,_,rfl,_,_,rfl,rfl,jl,Dn,_,_,rfl,rfl,SqL.of (p4.sm _ _ upd_same),Kn (by omega) (by omega),_,rfl,.inl ⟨rfl,_,SqL.of p4.at'⟩,pl,_,x,rfl,rfl,p4.at',ex,_,rfl,SZ,fun c hc=>⟨pl,_,_,rfl,rfl,(Ag hc _) _ _ p5.at',lt12 (by omega),?_⟩⟩
     exact Sa hpl p5 hc hm2 (by omega) (by omega) okt oku (ha.keep (TS.lst p4.at')) hax z1 (by rw[List.length_append,List.length_append];exact z2)
    ·refine⟨_,rfl,.inl ⟨rfl,_,SqL.of p.at'⟩,_,rfl,_,rfl,_,_,rfl,rfl,(by omega),FV,fun c hc=>⟨pl,_,_,rfl,rfl,(Ag hc _) _ _ p.at',lt12 (by omega),?_⟩⟩
     exact EE hpl p hc hy1 hm2 z1 z2
   ·refine Bd ?_
    refine⟨_,rfl,.inl ⟨rfl,_,SqL.of p.at'⟩,_,rfl,_,rfl,_,_,rfl,rfl,(by omega),FV,fun c hc=>⟨pl,_,_,rfl,rfl,(Ag hc _) _ _ p.at',lt12 (by omega),?_⟩⟩
    exact EE hpl p hc hy1 hm2 z1 z2
 ·rintro σ H2 ⟨m,tv,dv,rv,xs,ts,rfl,hm,p,z1,z2,z3⟩
  have z3':=z3 (by omega)
  refine⟨Uv (upd H jl (.lst Dn)) jl pl most many (1+n%(most:Int)),⟨ts.length,m,tv,dv,rv,xs,ts,rfl,hm,p,by omega,rfl,z3'⟩,?_⟩
  rintro k σ H3 ⟨m,tv,dv,rv,xs,ts,rfl,hm,p,z1,z2,z3⟩
  have hlen:=p.len
  have hm2:0≤m / 4:=by omega
  have lt12:∀{k:Nat},k≤24→k<sizeLine:=fun h=>AO (Nat.le_trans h (by decide))
  refine⟨_,rfl,pl,xs,rfl,.inl (SqL.of p.at'),_,_,rfl,rfl,_,rfl,?_⟩
  refine Du (fun c4=>?_) (fun c4=>?_)
  ·have c4':(1:Int)<(xs.length:Nat):=of_decide_eq_true c4
   refine⟨fun σ' H'=>∃k',k'<k∧Uv (upd H jl (.lst Dn)) jl pl most many (1+n%(most:Int)) k' σ' H',fun _ _ h=>h,?_⟩
   obtain⟨y,ts',t,ey,rfl,okt,ha,p4⟩:=p.pop hpl (by omega)
   rw[List.length_append] at hlen
   have hlen':xs.length=ts'.length+1:=hlen
   obtain⟨x,ts2,u,ex,rfl,oku,hax,p5⟩:=p4.pop hpl (by omega)
   have hl5:=p5.len
   have z2':ts2.length+1+1=k:=by
    rw[List.length_append,List.length_append] at z2
    exact z2
   refine⟨_,rfl,.inl ⟨rfl,_,SqL.of p.at'⟩,pl,_,y,rfl,rfl,p.at',ey,?_⟩
   refine⟨_,rfl,.inl ⟨rfl,_,SqL.of p4.at'⟩,_,rfl,_,rfl,_,_,rfl,rfl,(by show (0:Int)<4;decide),jl,Dn,_,_,rfl,rfl,SqL.of (p4.sm _ _ upd_same),Kn (by omega) (by omega),_,rfl,.inl ⟨rfl,_,SqL.of p4.at'⟩,pl,_,x,rfl,rfl,p4.at',ex,_,rfl,SZ,fun c hc=>⟨pl,_,_,rfl,rfl,(Ag hc _) _ _ p5.at',lt12 (by omega),?_⟩⟩
   refine⟨_,rfl,_,_,rfl,rfl,⟨by decide,by decide⟩,?_⟩
   exact Uo hpl p5 hc hm2 (by omega) (by omega) okt oku (ha.keep (TS.lst p4.at')) hax z1 z2
  ·have c4':¬(1:Int)<(xs.length:Nat):=of_decide_eq_false (Bool.eq_false_iff.mpr c4)
   obtain⟨xs',y,ts',t,rfl,rfl,q1,a⟩:=p.pile.last (by omega)
   rw[List.length_append] at c4'
   have e0:xs'=[]:=by
    have c5:¬(1:Int)<((xs'.length+1:Nat):Int):=c4'
    exact List.length_eq_zero_iff.mp (by omega)
   subst e0
   cases q1
   refine⟨_,rfl,pl,_,_,y,rfl,rfl,SqL.of p.at',As (j:=0) rfl,?_⟩
   exact q y t _ (sJ.trans p.sm) a (p.ok t (by simp)) (Wj z1)
end
def jc:Nat→Nat
 | 0=>38
 | 1=>124
 | 2=>62
 | _=>61
def Cf:Tr→List Nat
 | .lt k=>[97+k]
 | .nt t=>45::Cf t
 | .bn j a b=>40::(Cf a++jc j::(Cf b++[41]))
theorem DK:∀t:Tr,(Cf t).length≤4*t.size
 | .lt _=>by show 1≤4*1;decide
 | .nt t=>by
  have:=DK t
  show (Cf t).length+1≤4*(t.size+1)
  omega
 | .bn j a b=>by
  have h1:=DK a
  have h2:=DK b
  show (Cf a++jc j::(Cf b++[41])).length+1≤4*(a.size+b.size+1)
  rw[List.length_append,List.length_cons,List.length_append]
  show (Cf a).length+((Cf b).length+1+1)+1≤_
  omega
abbrev HU (z:Str):List Nat:=z.cps.toList
theorem BZ (z:Str):z.length=(HU z).length:=by
 show z.cps.size=z.cps.toList.length
 simp
theorem DR (a b:Str):HU (a++b)=HU a++HU b:=cps_toList_append a b
theorem N2 {k:Nat} (h:k<5):Dv (HU ("abcde":Str)) (k:Int)=some (97+k):=by
 refine As ?_
 match k,h with
 | 0,_=>rfl
 | 1,_=>rfl
 | 2,_=>rfl
 | 3,_=>rfl
 | 4,_=>rfl
theorem Ji {j:Nat}:¬(V.str (jn j)=V.str "let"):=by
 match j with
 | 0=>decide
 | 1=>decide
 | 2=>decide
 | _+3=>show ¬(V.str "same"=V.str "let");decide
theorem P8 {j:Nat}:¬(V.str (jn j)=V.str "not"):=by
 match j with
 | 0=>decide
 | 1=>decide
 | 2=>decide
 | _+3=>show ¬(V.str "same"=V.str "not");decide
theorem DC {c A B:Prop} [Decidable c] (h:c) (a:A):if decide c=true then A else B:=by
 rw[decide_eq_true h,if_pos rfl]
 exact a
theorem Dd {c A B:Prop} [Decidable c] (h:¬c) (b:B):if decide c=true then A else B:=by
 rw[decide_eq_false h,if_neg Bool.false_ne_true]
 exact b
structure AW (K:PySem.W.Frag) (mg:Str→Option Value) (x:Str) (f:Addr) (fd:FuncData) (ps:List Str):Prop where
 m:mg x=some (.ref f)
 k:keepIn K (.ref f)=true
 b:Binds K fd ps []
def KK:Tr→List Tr
 | .lt _=>[]
 | .nt t=>[t]
 | .bn _ a b=>[a,b]
def BP (ts:List Tr):List Tr:=ts.flatMap KK
theorem J0 (a b:List Tr):BP (a++b)=BP a++BP b:=by
 unfold BP
 rw[List.flatMap_append]
theorem Kf (t:Tr):BP [t]=KK t:=by
 unfold BP
 simp
theorem Fm {ts:List Tr} {i:Nat} {t:Tr} (h:ts[i]? = some t):BP (ts.take (i+1))=BP (ts.take i)++KK t:=by
 rw[List.take_add_one,h,J0]
 congr 1
 exact Kf t
theorem Q8 (a b:List Tr):sz (a++b)=sz a+sz b:=by
 unfold sz
 rw[List.map_append,List.sum_append]
theorem Pe:∀t:Tr,sz (KK t)+1=t.size
 | .lt _=>rfl
 | .nt t=>by
  have:sz [t]=t.size:=by unfold sz;simp
  show sz [t]+1=t.size+1
  rw[this]
 | .bn _ a b=>by
  have:sz [a,b]=a.size+b.size:=by unfold sz;simp
  show sz [a,b]+1=a.size+b.size+1
  rw[this]
theorem IN (t:Tr) (r:List Tr):sz (t::r)=t.size+sz r:=by
 unfold sz
 rw[List.map_cons,List.sum_cons]
theorem Mr (ts:List Tr):sz (BP ts)+ts.length=sz ts:=by
 induction ts with
 | nil=>rfl
 | cons t r ih=>
  have h:=Pe t
  rw[IN]
  show sz (KK t++BP r)+(r.length+1)=_
  rw[Q8]
  omega
theorem Jk (ts:List Tr):ts.length≤sz ts:=by
 induction ts with
 | nil=>exact Nat.le_refl _
 | cons t r ih=>
  have h:=t.size_pos
  rw[IN]
  show r.length+1≤_
  omega
theorem Kx {ts:List Tr} {i j:Nat} {t:Tr} (h:ts[i]? = some t):(BP (ts.take i)++(KK t).take j).length≤sz ts:=by
 have e1:ts=ts.take (i+1)++ts.drop (i+1):=(List.take_append_drop _ _).symm
 have h1:(BP (ts.take (i+1))).length≤(BP ts).length:=by
  have h2:(BP ts).length=(BP (ts.take (i+1))).length+(BP (ts.drop (i+1))).length:=by
   rw[←List.length_append,←J0,List.take_append_drop]
  omega
 have h3:=Jk (BP ts)
 have h4:=Mr ts
 rw[Fm h,List.length_append] at h1
 rw[List.length_append,List.length_take]
 omega
theorem BU {H:Hp}:∀{xs:List V} {ts:List Tr} {i:Nat} {x:V},Pile H xs ts→xs[i]? = some x→∃t,ts[i]? = some t∧Tr.At H t x
 | _,_,_,_,.nil,e=>by simp at e
 | _,_,0,_,.cons r _,e=>by
  simp at e
  subst e
  exact⟨_,rfl,r⟩
 | _,_,i+1,x,.cons _ q,e=>by
  obtain⟨t,h1,h2⟩:=BU (i:=i) q (by simpa using e)
  exact⟨t,by simpa using h1,h2⟩
theorem T9 {H:Hp} {t:Tr} {v:V} (h:t.At H v):∃p z cs,v= .ref p∧H p=some (.tup (z::cs))∧((z= .str "let"∧KK t=[])∨(¬(z= .str "let")∧(∃x,z= .str x)∧Pile H cs (KK t)∧0<cs.length∧cs.length≤2)):=by
 cases t with
 | lt k=>
  obtain⟨p,e,hp⟩:=h
  exact⟨p,_,_,e,hp,.inl ⟨rfl,rfl⟩⟩
 | nt t=>
  obtain⟨p,u,e,hp,ha⟩:=h
  exact⟨p,_,_,e,hp,.inr ⟨by decide,⟨_,rfl⟩,.cons ha .nil,Nat.succ_pos _,by show 1≤2;decide⟩⟩
 | bn j a b=>
  obtain⟨p,x,y,e,hp,ha,hb⟩:=h
  exact⟨p,_,_,e,hp,.inr ⟨Ji,⟨_,rfl⟩,.cons ha (.cons hb .nil),Nat.succ_pos _,Nat.le_refl _⟩⟩
theorem Vl (z:V) (cs:List V):Go (z::cs) (some 1) none=cs:=by
 unfold Go
 have e1:HT.sIx (z::cs).length 0 (some 1)=1:=by
  have:=HT.sIx_nat (z::cs).length 0 1
  show HT.sIx (z::cs).length 0 (some ((1:Nat):Int))=1
  rw[this,List.length_cons]
  omega
 rw[e1,HT.sIx_none]
 show ((z::cs).drop 1).take (cs.length+1-1)=cs
 simp
theorem OY {z:V} {cs:List V}:¬(HT.sIx (z::cs).length 0 (some 1)=0∧HT.sIx (z::cs).length (z::cs).length none=(z::cs).length):=by
 rintro⟨h,_⟩
 have:=HT.sIx_nat (z::cs).length 0 1
 rw[show (some (1:Int))=some ((1:Nat):Int) from rfl,this,List.length_cons] at h
 omega
theorem Pi {c A B:Prop} [Decidable c] (hc:¬c) (h:A):if (!decide c)=true then A else B:=by
 rw[decide_eq_false hc]
 exact Bo h
def ER (k:Nat) (w:Int):Bool:=decide (w / 2^k%2=1)
def jv:Nat→Bool→Bool→Bool
 | 0,a,b=>a && b
 | 1,a,b=>a || b
 | 2,a,b=>!a || b
 | _,a,b=>decide (a=b)
def tv:Tr→Int→Bool
 | .lt k,w=>ER k w
 | .nt t,w=>!tv t w
 | .bn j a b,w=>jv j (tv a w) (tv b w)
theorem pow_pos (k:Nat):(0:Int)<2^k:=Int.pow_pos (by decide)
theorem TM (k:Nat) (w:Int):decide (V.int (w / 2^k%2)=V.int 1)=ER k w:=by
 unfold ER
 rw[Bool.eq_iff_iff,decide_eq_true_eq,decide_eq_true_eq]
 exact⟨fun h=>by injection h,fun h=>by rw[h]⟩
theorem S7 (a b:Bool):decide (V.bl a=V.bl b)=decide (a=b):=by cases a<;>cases b<;>rfl
theorem WL {j:Nat} (h:V.str (jn j)=V.str "and"):j=0:=by
 match j with
 | 0=>rfl
 | 1=>exact absurd h (by decide)
 | 2=>exact absurd h (by decide)
 | _+3=>exact absurd (show V.str "same"=V.str "and" from h) (by decide)
theorem WV {j:Nat} (h:V.str (jn j)=V.str "or"):j=1:=by
 match j with
 | 0=>exact absurd h (by decide)
 | 1=>rfl
 | 2=>exact absurd h (by decide)
 | _+3=>exact absurd (show V.str "same"=V.str "or" from h) (by decide)
theorem WN {j:Nat} (h:V.str (jn j)=V.str "if"):j=2:=by
 match j with
 | 0=>exact absurd h (by decide)
 | 1=>exact absurd h (by decide)
 | 2=>rfl
 | _+3=>exact absurd (show V.str "same"=V.str "if" from h) (by decide)
theorem WS {j:Nat} (h0:¬V.str (jn j)=V.str "and") (h1:¬V.str (jn j)=V.str "or") (h2:¬V.str (jn j)=V.str "if") (a b:Bool):jv j a b=decide (a=b):=by
 match j with
 | 0=>exact absurd rfl h0
 | 1=>exact absurd rfl h1
 | 2=>exact absurd rfl h2
 | _+3=>rfl
structure Ht (mg:Str→Option Value):Prop where
 isi:mg "isinstance"=none
 int:mg "int"=none
 bool:mg "bool"=none
 str:mg "str"=none
 tup:mg "tuple"=none
 lst:mg "list"=none
 set:mg "set"=none
 sorted:mg "sorted"=none
 rng:mg "range"=none
 any:mg "any"=none
 all:mg "all"=none
theorem BF:bootBuiltins "list"=some (.type "list"):=by decide +kernel
abbrev AV (H:Hp) (p:Addr) (row:List Int):Prop:=H p=some (.lst (row.map V.int))
abbrev RowsAt (H:Hp):List V→List (List Int)→Prop:=Paired fun (v:V) (row:List Int)=>∃p,v= .ref p∧AV H p row
theorem RowsAt.keep {H H':Hp} (s:Same H H'):∀{xs:List V} {rs:List (List Int)},RowsAt H xs rs→RowsAt H' xs rs
 | _,_,.nil=>.nil
 | _,_,.cons ⟨p,e,h⟩ q=>.cons ⟨p,e,s _ _ h⟩ (RowsAt.keep s q)
theorem RowsAt.get {H:Hp}:∀{xs:List V} {rs:List (List Int)} {i:Nat} {x:V},RowsAt H xs rs→xs[i]? = some x→∃row p,rs[i]? = some row∧x= .ref p∧AV H p row
 | _,_,_,_,.nil,e=>by simp at e
 | _,_,0,_,.cons ⟨p,e1,h⟩ _,e=>by
  simp at e
  subst e
  exact⟨_,p,rfl,e1,h⟩
 | _,_,i+1,x,.cons _ q,e=>by
  obtain⟨row,p,h1,h2⟩:=RowsAt.get (i:=i) q (by simpa using e)
  exact⟨row,p,by simpa using h1,h2⟩
theorem RowsAt.len {H:Hp} {xs:List V} {rs:List (List Int)} (h:RowsAt H xs rs):xs.length=rs.length:=Paired.length h
theorem Qo {m:Nat} (h:m≤5):2^m≤32:=Nat.pow_le_pow_right (n:=2) (by decide) h
theorem OZ (n:Nat):(BY n).length=n:=by unfold BY;simp
theorem Re (n:Nat):(BY n).Pairwise (· < ·):=by
 unfold BY
 rw[List.pairwise_map]
 exact List.pairwise_lt_range.imp fun h=>by omega
theorem mem_upto {n:Nat} {k:Int}:k∈BY n↔0≤k∧k<n:=by
 unfold BY
 rw[List.mem_map]
 constructor
 ·rintro⟨a,ha,rfl⟩
  have:=List.mem_range.mp ha
  omega
 ·rintro⟨h0,h1⟩
  exact⟨k.toNat,List.mem_range.mpr (by omega),by omega⟩
def Kh:Sp:=fun vs H Q _=>∃(m:Nat),vs=[.int (m:Int)]∧1≤m∧m≤5∧∀(l:Addr) (H':Hp),Same H H'→H l=none→AV H' l (BY (2^m))→Q (.ref l) H'
def BD (b:Bool) (t:Tr) (row:List Int):List Int:=row.filter fun k=>tv t k == b
theorem Pw (t:Tr) (row:List Int):(BD true t row).length+(BD false t row).length=row.length:=by
 unfold BD
 induction row with
 | nil=>rfl
 | cons k r ih=>
  cases h:tv t k with
  | true=>simp[h] at ih ⊢;omega
  | false=>simp[h] at ih ⊢;omega
def AR (z:Str) (t:Tr) (row:List Int):List (List Int):=if z="true" then[BD true t row] else if z="false" then[BD false t row] else[BD true t row,BD false t row]
def Mc (row:List Int) (sides:List (List Int)):List Int:=row.filter fun k=>sides.any fun s=>decide (k∈s)
def By (sides:List (List Int)) (row:List Int):Bool:=sides.all fun s=>s.any fun k=>decide (k∈row)
abbrev Ig:Stmt:=Bm 80
def QG:Sp:=fun vs H Q _=>∃(z:Str),vs=[.str z,.str z]∧Q (.bl true) H
section
theorem Uj:Al ["_law_found","_law_due"] ["_law_found","_law_due"] (Ad Ig):=Bn
theorem OO (F:Fun K "_law_says" "_law_says" Ig f fd) (T:Ht mg):FnOk P w K mg bz AU 1 f fd ["_law_found","_law_due"] QG:=by
 refine F.ok Uj (fun vs H Q E h=>?_) (fun cdv A outer s H vs Q E hr h=>?_)
 ·obtain⟨z,rfl,_⟩:=h
  rfl
 obtain⟨z,rfl,q⟩:=h
 refine⟨_,Af (Am (QO (AG DL (by rfl) T.isi boot_isinstance (Ab (pv 0) (Ab (Ga (v:=.ty "str") (by rfl) T.str boot_str rfl) Ac))) (Hc (Dp AX (pv 0) (pv 1) (AB _))))),?_⟩
 refine⟨_,rfl,_,_,_,_,rfl,.str _,G0 _ _,_,rfl,?_⟩
 refine Bo ?_
 refine⟨_,rfl,_,rfl,rfl,?_⟩
 rw[decide_eq_true rfl]
 exact q
end
def Bj (seen row:List Int):Str:=if (seen.all fun k=>decide (k∈row))=true then "grant" else if (seen.any fun k=>decide (k∈row))=true then "doubt" else "deny"
def N8 (xs row:List Int):List Int:=xs.filter fun k=>decide (k∈row)
def Fs (xs row:List Int):List Int:=xs.filter fun k=>!decide (k∈row)
theorem Mi (xs row:List Int):N8 xs row=[]↔(xs.any fun k=>decide (k∈row))=false:=by
 unfold N8
 rw[List.filter_eq_nil_iff]
 constructor
 ·intro h
  rw[Bool.eq_false_iff]
  intro z
  obtain⟨k,hk,hk2⟩:=List.any_eq_true.mp z
  exact h k hk hk2
 ·intro h k hk hk2
  have:(xs.any fun k=>decide (k∈row))=true:=List.any_eq_true.mpr ⟨k,hk,hk2⟩
  rw[h] at this
  cases this
theorem Ut (xs row:List Int):(N8 xs row).length≤xs.length:=List.length_filter_le _ _
theorem Rn (xs row:List Int):(Fs xs row).length≤xs.length:=List.length_filter_le _ _
def Di (sides:List (List Int)) (going seen row:List Int):Str:=
 if Fs going row=[] then "grant" else if N8 going row=[] then "deny"
 else if Bj seen row="grant"∧By sides (N8 going row)=false then "doubt"
 else if Bj seen row="deny"∧By sides (Fs going row)=false then "doubt" else Bj seen row
theorem PY {i:Nat} {v:V} {σ σ':L2.St} {H:Hp} {N:L2.St→Hp→Prop} (e:σ.set i (some v)=σ') (h:N σ' H):HH i v σ H N:=by
 subst e
 exact h
theorem RS {t u:L2.TS} {D:Ends} {σ:L2.St} {H:Hp} (Mid:L2.St→Hp→Prop) (h2:∀σ' H',Mid σ' H'→u D σ' H') (h1:(∀σ' H',Mid σ' H'→u D σ' H')→t { D with nx:=u D } σ H):Tt t u D σ H:=h1 h2
def Wr (row:List Int):Prop:=row.Pairwise (· < ·)∧∀k∈row,0≤k∧k<32
theorem Wr.sub {a b:List Int} (h:Wr b) (s:a.Sublist b):Wr a:=⟨h.1.sublist s,fun k hk=>h.2 k (s.subset hk)⟩
theorem SB {m:Nat} (h:m≤5):Wr (BY (2^m)):=⟨Re _,fun k hk=>by
 have:=mem_upto.mp hk
 have h2:=Qo h
 have:((2^m:Nat):Int)≤32:=by omega
 omega⟩
theorem Wr.len {row:List Int} (h:Wr row):row.length≤32:=by
 have nd:row.Nodup:=h.1.imp fun h=>by omega
 have:=Fu (l2:=BY 32) nd fun k hk=>mem_upto.mpr (h.2 k hk)
 rw[OZ] at this
 exact this
theorem Io {z:Str} {t:Tr} {row s:List Int} (h:s∈AR z t row):s.Sublist row:=by
 unfold AR at h
 split at h
 ·rw[List.mem_singleton.mp h];exact List.filter_sublist
 ·split at h
  ·rw[List.mem_singleton.mp h];exact List.filter_sublist
  ·simp only[List.mem_cons,List.not_mem_nil,or_false] at h
   rcases h with rfl | rfl
   ·exact List.filter_sublist
   ·exact List.filter_sublist
theorem Ic {z:Str} {t:Tr} {row:List Int}:(∃a,AR z t row=[a])∨∃a b,AR z t row=[a,b]:=by
 unfold AR
 split
 ·exact .inl ⟨_,rfl⟩
 ·split
  ·exact .inl ⟨_,rfl⟩
  ·exact .inr ⟨_,_,rfl⟩
theorem Pr {row:List Int} {sides:List (List Int)}:(Mc row sides).Sublist row:=List.filter_sublist
abbrev Fp:Stmt:=Bm 22
def IR (K:PySem.W.Frag):Sp:=fun vs H Q _=>∃(a:Addr) (xs:List V) (ts:List Tr),vs=[.ref a]∧SqL K H a xs∧Pile H xs ts∧sz ts≤900∧
 ∀(r:Addr) (ys:List V) (H':Hp),Same H H'→H' r=some (.lst ys)→Pile H' ys (BP ts)→Q (.ref r) H'
section
theorem RJ:Al ["layer"] ["layer"] (Ad Fp):=Bn
theorem U3:(["sentence","part"]:List Str).Nodup:=by decide +kernel
theorem Pj (F:Fun K "parts_of" "parts_of" Fp f fd):FnOk P w K mg bz AU 1 f fd ["layer"] (IR K):=by
 refine F.ok RJ (fun vs H Q E h=>?_) (fun cdv A outer s H vs Q E hr h=>?_)
 ·obtain⟨a,xs,ts,rfl,_⟩:=h
  rfl
 obtain⟨a,xs,ts,rfl,hS,hp,hsz,q⟩:=h
 refine⟨_,Af (Am (QQ (N:=["sentence","part"]) (js:=[none,none]) (cl:=[]) ⟨rfl,rfl,rfl,List.forall_mem_nil _,rfl,rfl,rfl⟩ (Be (pv 0)) (fun _=>AN (i:=0) U3 rfl (Or.inl rfl))
  (fun _=>Gd (Av En (AL BH (pv 0) Ao (fun _ _=>rfl)) Ah (AB _))) (fun _=>TW (JH To (pv 0) (Mg Ao) Mo)) (fun _=>AN (i:=1) U3 rfl (Or.inl rfl)) (fun _=>D2) (fun _=>pv 1))),?_⟩
 refine⟨_,rfl,a,rfl,⟨_,hS⟩,fun cc acc hacc=>A7 (K:=K) (a:=a) (xs:=xs) (fun i σ H2=>∃(v0 v1:Option V) (ys:List V),σ=[v0,v1]∧Same H H2∧H2 acc=some (.lst ys)∧Pile H2 ys (BP (ts.take i))) ?_ ?_ ?_ ?_⟩
 ·exact⟨none,none,[],rfl,Ag hacc _,upd_same,.nil⟩
 ·rintro i σ H2 _ ⟨v0,v1,ys,rfl,s2,_,_⟩
  exact s2.seq hS
 ·rintro i x σ H2 hx ⟨v0,v1,ys,rfl,s2,ha2,hp2⟩
  obtain⟨t,ht,hat⟩:=BU hp hx
  have hat2:=hat.keep (TS.same s2)
  obtain⟨p,z,cs,rfl,hpt,hk⟩:=T9 hat2
  have zstr:∃y,z= .str y:=by
   rcases hk with⟨e,_⟩|⟨_,e,_⟩
   ·exact⟨_,e⟩
   ·exact e
  obtain⟨y,rfl⟩:=zstr
  refine⟨_,rfl,p,_,_,_,rfl,rfl,SqT.of hpt,As (j:=0) rfl,rfl,_,rfl,?_⟩
  rcases hk with⟨e,ek⟩|⟨ne,_,hcs,_,_⟩
  ·refine Cy e ?_
   refine⟨_,_,ys,rfl,s2,ha2,?_⟩
   rw[Fm ht,ek,List.append_nil]
   exact hp2
  ·refine Pi ne ?_
   refine⟨_,rfl,_,rfl,p,_,rfl,SqT.of hpt,OY,fun c hc=>⟨c,rfl,⟨_,SqT.of upd_same⟩,SJ (K:=K) (a:=c) (xs:=Go (V.str y::cs) (some 1) none) (fun j σ H3=>∃(v1:Option V) (ys:List V),σ=[some (.ref p),v1]∧Same H H3∧H3 acc=some (.lst ys)∧H3 c=some (.tup (Go (V.str y::cs) (some 1) none))∧Pile H3 cs (KK t)∧Pile H3 ys (BP (ts.take i)++(KK t).take j)) ?_ ?_ ?_ ?_⟩⟩
   ·refine⟨_,ys,rfl,s2.trans (Ag hc _),(Ag hc _) _ _ ha2,upd_same,hcs.keep (TS.new hc),?_⟩
    rw[List.take_zero,List.append_nil]
    exact hp2.keep (TS.new hc)
   ·rintro j σ H3 _ ⟨v1,ys,rfl,s3,_,hc3,_⟩
    exact SqT.of hc3
   ·rintro j u σ H3 hu ⟨v1,ys,rfl,s3,ha3,hc3,hcs3,hp3⟩
    rw[Vl] at hu
    obtain⟨t2,ht2,hat3⟩:=BU hcs3 hu
    have hlen:=hp3.len
    have hb:=Kx (j:=j) ht
    show Ds acc (Pq 1) _ _ _
    refine⟨_,rfl,ys,ha3,AO (by omega),?_⟩
    have k3:TS H3 (upd H3 acc (.lst (ys++[u]))):=TS.lst ha3
    refine⟨_,ys++[u],rfl,AH s3 hacc _,upd_same,by rw[Aq (A6 hc3 ha3 (by intro z;cases z))];exact hc3,hcs3.keep k3,?_⟩
    rw[List.take_add_one,ht2,←List.append_assoc]
    exact (hp3.keep k3).snoc (hat3.keep k3)
   ·rintro σ H3 ⟨v1,ys,rfl,s3,ha3,hc3,hcs3,hp3⟩
    refine⟨_,_,ys,rfl,s3,ha3,?_⟩
    rw[Vl] at hp3
    have hl:=hcs3.len
    rw[hl,List.take_length] at hp3
    rw[Fm ht]
    exact hp3
 ·rintro σ H2 ⟨v0,v1,ys,rfl,s2,ha2,hp2⟩
  rw[hp.len,List.take_length] at hp2
  exact q acc ys H2 s2 ha2 hp2
end
abbrev EW:Stmt:=Bm 28
def IM:Sp:=fun vs H Q _=>∃(k:Nat) (w:Int),vs=[.int (k:Int),.int w]∧Q (.bl (ER k w)) H
theorem Rg (k:Nat) (w:Int):decide (V.int (Builtin.bitAnd (w / 2^((k:Int)).toNat) 1)=V.int 1)=ER k w:=by
 rw[bitAnd_m1,Int.toNat_natCast]
 exact TM k w
section
theorem Rx:Al ["letter","world"] ["letter","world"] (Ad EW):=Bn
theorem P3 (F:Fun K "letter_holds" "letter_holds" EW f fd):FnOk P w K mg bz AU 1 f fd ["letter","world"] IM:=by
 refine F.ok Rx (fun vs H Q E h=>?_) (fun cdv A outer s H vs Q E hr h=>?_)
 ·obtain⟨k,w,rfl,_⟩:=h
  rfl
 obtain⟨k,wd,rfl,q⟩:=h
 refine⟨_,Af (Am (Dp AX (AK Tm (AK UK (pv 1) (pv 0)) Ao) Ao (AB _))),?_⟩
 refine⟨_,rfl,_,rfl,_,_,rfl,rfl,Int.natCast_nonneg k,_,_,rfl,rfl,rfl,?_⟩
 rw[←Rg] at q
 exact q
end
abbrev D0:Stmt:=Bm 29
abbrev Fq:Stmt:=Bm 30
abbrev DQ:Stmt:=Bm 31
def KD:Sp:=fun vs H Q _=>∃(j:Nat) (a b:Bool),vs=[.str (jn j),.bl a,.bl b]∧Q (.bl (jv j a b)) H
def post:Tr→List Tr
 | .lt k=>[.lt k]
 | .nt t=>post t++[.nt t]
 | .bn j a b=>post a++(post b++[.bn j a b])
theorem O4:∀t:Tr,post t=(KK t).flatMap post++[t]
 | .lt k=>rfl
 | .nt t=>by show post t++[.nt t]=(post t++[])++[.nt t];rw[List.append_nil]
 | .bn j a b=>by show post a++(post b++[.bn j a b])=(post a++(post b++[]))++[.bn j a b];rw[List.append_nil,List.append_assoc]
theorem Dg:∀t:Tr,(post t).length=t.size
 | .lt k=>rfl
 | .nt t=>by show (post t++[Tr.nt t]).length=t.size+1;rw[List.length_append,Dg t];rfl
 | .bn j a b=>by
  show (post a++(post b++[Tr.bn j a b])).length=a.size+b.size+1
  rw[List.length_append,List.length_append,Dg a,Dg b]
  show a.size+(b.size+1)=_
  omega
def stp (w:Int) (rs:List Bool):Tr→Option (List Bool)
 | .lt k=>some (ER k w::rs)
 | .nt _=>match rs with
  | a::r=>some ((!a)::r)
  | []=>none
 | .bn j _ _=>match rs with
  | b::a::r=>some (jv j a b::r)
  | _=>none
def run (w:Int):List Tr→List Bool→Option (List Bool)
 | [],rs=>some rs
 | u::r,rs=>match stp w rs u with
  | some rs'=>run w r rs'
  | none=>none
theorem FP (w:Int):∀(a b:List Tr) (rs rs':List Bool),run w a rs=some rs'→run w (a++b) rs=run w b rs'
 | [],b,rs,rs',h=>by cases h;rfl
 | u::r,b,rs,rs',h=>by
  unfold run at h
  show (match stp w rs u with | some rs'=>run w (r++b) rs' | none=>none)=run w b rs'
  cases e:stp w rs u with
  | none=>rw[e] at h;cases h
  | some z=>rw[e] at h;exact FP w r b z rs' h
theorem EM (w:Int):∀(t:Tr) (rs:List Bool),run w (post t) rs=some (tv t w::rs)
 | .lt k,rs=>rfl
 | .nt t,rs=>by
  show run w (post t++[.nt t]) rs=_
  rw[FP w _ _ _ _ (EM w t rs)]
  rfl
 | .bn j a b,rs=>by
  show run w (post a++(post b++[.bn j a b])) rs=_
  rw[FP w _ _ _ _ (EM w a rs),FP w _ _ _ _ (EM w b _)]
  rfl
def Md:Sp:=fun vs H Q _=>∃(v:V) (t:Tr),vs=[v]∧t.At H v∧t.size≤800∧∀(l:Addr) (ys:List V) (H':Hp),Same H H'→H l=none→H' l=some (.lst ys)→Pile H' ys (post t)→Q (.ref l) H'
def JZ:Sp:=fun vs H Q _=>∃(l:Addr) (ys:List V) (t:Tr) (w:Int),vs=[.ref l,.int w]∧H l=some (.lst ys)∧Pile H ys (post t)∧t.ok 5∧t.size≤800∧∀(H':Hp),Same H H'→Q (.bl (tv t w)) H'
section
theorem QB:Al ["kind","one","other"] ["kind","one","other"] (Ad D0):=Bn
theorem NW (F:Fun K "joined" "joined" D0 f fd):FnOk P w K mg bz AU 1 f fd ["kind","one","other"] KD:=by
 refine F.ok QB (fun vs H Q E h=>?_) (fun cdv A outer s H vs Q E hr h=>?_)
 ·obtain⟨j,a,b,rfl,_⟩:=h
  rfl
 obtain⟨j,va,vb,rfl,q2⟩:=h
 refine⟨_,Ae (AC (Av AX (pv 0) Ah (AB _))
   (Af (Am (QO (pv 1) (Hc (pv 2)))))
   Aw)
  (Ae (AC (Av AX (pv 0) Ah (AB _))
   (Af (Am (Q7 (pv 1) (Hc (pv 2)))))
   Aw)
  (Ae (AC (Av AX (pv 0) Ah (AB _))
   (Af (Am (Q7 (Lx (pv 1)) (Hc (pv 2)))))
   Aw)
  (Af (Am (Dp AX (pv 1) (pv 2) (AB _)))))),?_⟩
 refine⟨_,rfl,rfl,_,rfl,?_⟩
 by_cases h0:V.str (jn j)=V.str "and"
 ·refine DC h0 ?_
  obtain rfl:=WL h0
  cases va with
  | false=>exact⟨_,rfl,_,rfl,Bd q2⟩
  | true=>exact⟨_,rfl,_,rfl,Bo ⟨_,rfl,q2⟩⟩
 refine Dd h0 ?_
 refine⟨_,rfl,rfl,_,rfl,?_⟩
 by_cases h1:V.str (jn j)=V.str "or"
 ·refine DC h1 ?_
  obtain rfl:=WV h1
  cases va with
  | false=>exact⟨_,rfl,_,rfl,Bd ⟨_,rfl,q2⟩⟩
  | true=>exact⟨_,rfl,_,rfl,Bo q2⟩
 refine Dd h1 ?_
 refine⟨_,rfl,rfl,_,rfl,?_⟩
 by_cases h2:V.str (jn j)=V.str "if"
 ·refine DC h2 ?_
  obtain rfl:=WN h2
  cases va with
  | false=>exact⟨_,rfl,_,rfl,_,rfl,Bo q2⟩
  | true=>exact⟨_,rfl,_,rfl,_,rfl,Bd ⟨_,rfl,q2⟩⟩
 refine Dd h2 ?_
 rw[WS h0 h1 h2] at q2
 refine⟨_,rfl,_,rfl,rfl,?_⟩
 rw[S7]
 exact q2
def WK (H:Hp) (v:V) (t:Tr) (sl wl:Addr) (m:Nat):L2.St→Hp→Prop:=fun σ H3=>∃(ys zs:List V) (ss ws:List Tr) (pp:Option V),σ=[some v,some (.ref sl),some (.ref wl),pp]∧Same H H3∧
 H3 sl=some (.lst ys)∧H3 wl=some (.lst zs)∧Pile H3 ys ss∧Pile H3 zs ws∧ws.flatMap post++ss.reverse=post t∧m=sz ws
theorem scSteps:Al ["sentence","steps","waiting","step"] ["sentence"] (Ad Fq):=Bn
theorem JU {H:Hp}:∀{xs:List V} {ts:List Tr},Pile H xs ts→Pile H xs.reverse ts.reverse
 | _,_,.nil=>.nil
 | _,_,.cons r q=>by
  rw[List.reverse_cons,List.reverse_cons]
  exact (JU q).snoc r
theorem JA {H:Hp}:∀{xs ys:List V} {ts us:List Tr},Pile H xs ts→Pile H ys us→Pile H (xs++ys) (ts++us)
 | _,_,_,_,.nil,q=>q
 | _,_,_,_,.cons r q,q2=>.cons r (JA q q2)
theorem QF {g:Addr} {gd:FuncData} (F:Fun K "steps_of" "steps_of" Fq f fd) (GP:FnOk P w K mg bz AU 1 g gd ["layer"] (IR K)) (CP:AW K mg "parts_of" g gd ["layer"]):FnOk P w K mg bz AU 2 f fd ["sentence"] Md:=by
 refine F.ok scSteps (fun vs H Q E h=>?_) (fun cdv A outer s H vs Q E hr h=>?_)
 ·obtain⟨v,t,rfl,_⟩:=h
  rfl
 obtain⟨v,t,rfl,ha,hs,q⟩:=h
 refine⟨_,Ae (Ax (i:=1) scSteps.nd rfl (Or.inl rfl) (AE Ac))
  (Ae (Ax (i:=2) scSteps.nd rfl (Or.inl rfl) (AE (Ab (pv 0) Ac)))
  (Ae (DJ PassesOwn.never (Cp (pv 2) (fun _=>rfl))
   (Ae (Ax (i:=3) scSteps.nd rfl (Or.inl rfl) (Ce PySem.F.plainAttrs_list PySem.F.slot_list_pop PySem.F.type_list_pop Cm (pv 2)))
   (Ae (AA (Bw PySem.F.plainAttrs_list PySem.F.slot_list_append PySem.F.type_list_append AZ (pv 1) (Ab (pv 3) Ac)))
   (Af (AA (Bw PySem.F.plainAttrs_list PySem.F.slot_list_extend PySem.F.type_list_extend E6 (pv 2) (Ab (An GP hr (by rfl) CP.m CP.k CP.b .nil Ay (Ab (AE (Ab (pv 3) Ac)) Ac)) Ac)))))))
  (Ae (AA (Ce PySem.F.plainAttrs_list PySem.F.slot_list_reverse PySem.F.type_list_reverse KZ (pv 1)))
  (Af (Am (pv 1)))))),?_⟩
 refine⟨Of,fun sl hsl=>?_⟩
 have s1:=Ag hsl (.lst [])
 refine⟨_,rfl,SV,fun wl hwl=>?_⟩
 have s2:=Ag hwl (.lst [v])
 have nsw:sl≠wl:=Ai (upd_same (H:=H) (a:=sl) (o:=.lst [])) hwl
 have hwl0:H wl=none:=s1.free hwl
 have e1:sz [t]=t.size:=by unfold sz;simp
 refine⟨WK H v t sl wl,⟨_,[],[v],[],[t],none,rfl,s1.trans s2,s2 _ _ upd_same,upd_same,.nil,.cons (ha.keep ((TS.same s1).trans (TS.same s2))) .nil,by simp,rfl⟩,?_⟩
 rintro m σ H3 ⟨ys,zs,ss,ws,pp,rfl,s3,hs3,hw3,p3,z3,e3,rfl⟩
 have bnd:sz ws+ss.length≤800:=by
  have h1:(ws.flatMap post).length=sz ws:=by
   clear e3 z3
   induction ws with
   | nil=>rfl
   | cons u r ih=>
    show (post u++r.flatMap post).length=_
    rw[List.length_append,Dg,ih,IN]
  have h2:=congrArg List.length e3
  rw[List.length_append,List.length_reverse,h1,Dg] at h2
  omega
 refine⟨_,rfl,_,.inl ⟨zs,SqL.of hw3,rfl⟩,?_⟩
 refine Du (fun c=>?_) (fun c=>?_)
 ·refine⟨fun σ' H'=>∃m',m'<sz ws∧WK H v t sl wl m' σ' H',fun _ _ h=>h,?_⟩
  have hpos:0<ws.length:=by
   rw[←z3.len]
   cases zs with
   | nil=>exact absurd c (by decide)
   | cons _ _=>exact Nat.succ_pos _
  obtain⟨zs',y,ws',u,rfl,rfl,q3,a3⟩:=z3.last hpos
  have hsw:=BJ ws' u
  have hku:=Pe u
  have hwl':=Jk ws'
  have hl1:=p3.len
  have hl2:=q3.len
  refine⟨_,rfl,.inl ⟨rfl,_,SqL.of hw3⟩,wl,_,y,rfl,rfl,hw3,DU _ _,?_⟩
  have t4:HT2.TS H3 (upd H3 wl (.lst (zs'++[y]).dropLast)):=TS.lst hw3
  have s4:Same H (upd H3 wl (.lst (zs'++[y]).dropLast)):=AH s3 hwl0 _
  rw[List.dropLast_concat] at t4 s4
  have hs4:(upd H3 wl (.lst zs')) sl=some (.lst ys):=by rw[Aq nsw];exact hs3
  rw[List.dropLast_concat]
  refine⟨_,rfl,.inl ⟨rfl,_,SqL.of hs4⟩,_,rfl,sl,_,_,rfl,rfl,hs4,AO (by omega),?_⟩
  have t5:HT2.TS (upd H3 wl (.lst zs')) (upd (upd H3 wl (.lst zs')) sl (.lst (ys++[y]))):=TS.lst hs4
  have s5:Same H (upd (upd H3 wl (.lst zs')) sl (.lst (ys++[y]))):=AH s4 hsl _
  have hw5:(upd (upd H3 wl (.lst zs')) sl (.lst (ys++[y]))) wl=some (.lst zs'):=by rw[Aq nsw.symm,upd_same]
  have hs5:(upd (upd H3 wl (.lst zs')) sl (.lst (ys++[y]))) sl=some (.lst (ys++[y])):=upd_same
  have a5:=a3.keep (t4.trans t5)
  have p5:=(p3.snoc a3).keep (t4.trans t5)
  have q5:=q3.keep (t4.trans t5)
  revert s5 hw5 hs5 a5 p5 q5
  generalize (upd (upd H3 wl (.lst zs')) sl (.lst (ys++[y])))=H5
  intro s5 hw5 hs5 a5 p5 q5
  refine⟨_,rfl,.inl ⟨rfl,_,SqL.of hw5⟩,_,rfl,SV,fun pl hpl=>?_⟩
  have s6:=Ag hpl (.lst [y])
  have e1:sz [u]=u.size:=by unfold sz;simp
  refine⟨pl,[y],[u],rfl,SqL.of upd_same,.cons (a5.keep (TS.same s6)) .nil,by omega,fun r ks H7 s7 hr7 p7=>?_⟩
  have hl3:=p7.len
  rw[Kf] at p7 hl3
  have hlk:=Jk (KK u)
  have hw7:=s7 _ _ (s6 _ _ hw5)
  refine⟨wl,r,zs',ks,rfl,rfl,hw7,hr7,Dq (by omega),?_⟩
  have t8:HT2.TS H7 (upd H7 wl (.lst (zs'++ks))):=TS.lst hw7
  have k57:=(TS.same s6).trans (TS.same s7)
  refine⟨_,?_,ys++[y],zs'++ks,ss++[u],ws'++KK u,_,rfl,AH (s5.trans (s6.trans s7)) hwl0 _,?_,upd_same,p5.keep (k57.trans t8),(JA (q5.keep k57) p7).keep t8,?_,rfl⟩
  ·rw[Q8];omega
  ·rw[Aq nsw];exact s7 _ _ (s6 _ _ hs5)
  ·rw[←e3,List.flatMap_append,List.flatMap_append,List.reverse_append]
   show ((ws'.flatMap post++(KK u).flatMap post)++([u]++ss.reverse))=(ws'.flatMap post++(post u++[]))++ss.reverse
   rw[List.append_nil,O4 u]
   simp only[List.append_assoc]
 ·have e:ws=[]:=by
   cases z3 with
   | nil=>rfl
   | cons h1 h2=>exact absurd rfl c
  subst e
  refine⟨_,rfl,.inl ⟨rfl,_,SqL.of hs3⟩,sl,ys,rfl,rfl,hs3,?_⟩
  refine⟨_,rfl,q sl ys.reverse _ (AH s3 hsl _) hsl upd_same ?_⟩
  have e4:ss.reverse=post t:=e3
  rw[←e4]
  exact (JU p3).keep (TS.lst hs3)
theorem scTrueBy:Al ["steps","world","truths","step","other","one"] ["steps","world"] (Ad DQ):=Bn
def tl (rs:List Bool):List V:=rs.reverse.map V.bl
theorem DS (b:Bool) (rs:List Bool):tl (b::rs)=tl rs++[.bl b]:=by unfold tl;simp
theorem Lr (rs:List Bool):(tl rs).length=rs.length:=by unfold tl;simp
theorem NK {g g2:Addr} {gd gd2:FuncData} (F:Fun K "true_by" "true_by" DQ f fd) (GH:FnOk P w K mg bz AU 1 g gd ["letter","world"] IM) (CH:AW K mg "letter_holds" g gd ["letter","world"])
  (GJ:FnOk P w K mg bz AU 1 g2 gd2 ["kind","one","other"] KD) (CJ:AW K mg "joined" g2 gd2 ["kind","one","other"]):FnOk P w K mg bz AU 2 f fd ["steps","world"] JZ:=by
 refine F.ok scTrueBy (fun vs H Q E h=>?_) (fun cdv A outer s H vs Q E hr h=>?_)
 ·obtain⟨v,ys,t,wd,rfl,_⟩:=h
  rfl
 obtain⟨l,ys,t,wd,rfl,hl,hp,hok,hsz,q⟩:=h
 have hr1:Room 1 _:=hr
 refine⟨_,Ae (Ax (i:=2) scTrueBy.nd rfl (Or.inl rfl) (AE Ac))
  (Ae (Bv PassesOwn.never rfl (Be (pv 0)) (AN (i:=3) scTrueBy.nd rfl (Or.inl rfl))
   (Af (AC (Av AX (AL BH (pv 3) Ao (fun _ _=>rfl)) Ah (AB _))
    (Af (AA (Bw PySem.F.plainAttrs_list PySem.F.slot_list_append PySem.F.type_list_append AZ (pv 2) (Ab (An GH hr1 (by rfl) CH.m CH.k CH.b .nil Ay (Ab (AL BH (pv 3) Ao (fun _ _=>rfl)) (Ab (pv 1) Ac))) Ac))))
    (Af (AC (Av AX (AL BH (pv 3) Ao (fun _ _=>rfl)) Ah (AB _))
     (Af (AA (Bw PySem.F.plainAttrs_list PySem.F.slot_list_append PySem.F.type_list_append AZ (pv 2) (Ab (Lx (Ce PySem.F.plainAttrs_list PySem.F.slot_list_pop PySem.F.type_list_pop Cm (pv 2))) Ac))))
     (Ae (Ax (i:=4) scTrueBy.nd rfl (Or.inl rfl) (Ce PySem.F.plainAttrs_list PySem.F.slot_list_pop PySem.F.type_list_pop Cm (pv 2)))
     (Ae (Ax (i:=5) scTrueBy.nd rfl (Or.inl rfl) (Ce PySem.F.plainAttrs_list PySem.F.slot_list_pop PySem.F.type_list_pop Cm (pv 2)))
     (Af (AA (Bw PySem.F.plainAttrs_list PySem.F.slot_list_append PySem.F.type_list_append AZ (pv 2) (Ab (An GJ hr1 (by rfl) CJ.m CJ.k CJ.b .nil Ay (Ab (AL BH (pv 3) Ao (fun _ _=>rfl)) (Ab (pv 5) (Ab (pv 4) Ac)))) Ac)))))))))))
  (Af (Am (AL AI (pv 2) Ao (fun _ _=>rfl))))),?_⟩
 refine⟨Of,fun tr htr=>?_⟩
 have s1:=Ag htr (.lst [])
 have hlen:=hp.len
 have hpl:=Dg t
 refine⟨_,rfl,l,rfl,⟨_,SqL.of (s1 _ _ hl)⟩,A7 (K:=K) (a:=l) (xs:=ys) (fun i σ H3=>∃(v0 v1 v2:Option V) (rs:List Bool),σ=[some (.ref l),some (.int wd),some (.ref tr),v0,v1,v2]∧Same H H3∧H3 tr=some (.lst (tl rs))∧rs.length≤i∧run wd ((post t).drop i) rs=some [tv t wd]) ?_ ?_ ?_ ?_⟩
 ·exact⟨_,_,_,[],rfl,s1,upd_same,Nat.le_refl _,EM wd t []⟩
 ·rintro i σ H3 _ ⟨v0,v1,v2,rs,rfl,s3,_⟩
  exact SqL.of (s3 _ _ hl)
 ·rintro i x σ H3 hx ⟨v0,v1,v2,rs,rfl,s3,h3,hlr,hrun⟩
  obtain⟨u,hu,hat⟩:=BU hp hx
  have hat3:=hat.keep (TS.same s3)
  have hi:i<ys.length:=(List.getElem?_eq_some_iff.mp hx).1
  obtain⟨hi2,eu⟩:=List.getElem?_eq_some_iff.mp hu
  rw[List.drop_eq_getElem_cons hi2,eu] at hrun
  unfold run at hrun
  cases u with
  | lt k=>
   obtain⟨p,rfl,hpt⟩:=hat3
   refine⟨_,rfl,p,_,_,_,rfl,rfl,SqT.of hpt,As (j:=0) rfl,rfl,_,rfl,?_⟩
   refine DC rfl ?_
   refine⟨_,rfl,.inl ⟨rfl,_,SqL.of h3⟩,_,rfl,p,_,_,_,rfl,rfl,SqT.of hpt,As (j:=1) rfl,_,rfl,k,wd,rfl,?_⟩
   refine⟨tr,_,_,rfl,rfl,h3,AO (by rw[Lr];omega),?_⟩
   refine⟨_,_,_,ER k wd::rs,rfl,AH s3 htr _,?_,by show rs.length+1≤i+1;omega,hrun⟩
   rw[upd_same,DS]
  | nt u=>
   obtain⟨p,c,rfl,hpt,_⟩:=hat3
   refine⟨_,rfl,p,_,_,_,rfl,rfl,SqT.of hpt,As (j:=0) rfl,rfl,_,rfl,?_⟩
   refine Dd (by decide) ?_
   refine⟨_,rfl,p,_,_,_,rfl,rfl,SqT.of hpt,As (j:=0) rfl,rfl,_,rfl,?_⟩
   refine DC rfl ?_
   cases rs with
   | nil=>cases hrun
   | cons a r=>
    rw[DS] at h3
    have hlr':r.length+1≤i:=hlr
    refine⟨_,rfl,.inl ⟨rfl,_,SqL.of h3⟩,_,rfl,.inl ⟨rfl,_,SqL.of h3⟩,tr,_,_,rfl,rfl,h3,DU _ _,_,rfl,?_⟩
    refine⟨tr,_,_,rfl,rfl,upd_same,?_,?_⟩
    ·rw[List.dropLast_concat];exact AO (by rw[Lr];omega)
    refine⟨_,_,_,(!a)::r,rfl,AH (AH s3 htr _) htr _,?_,by show r.length+1≤i+1;omega,hrun⟩
    rw[upd_same,DS,List.dropLast_concat]
  | bn j u1 u2=>
   obtain⟨p,c1,c2,rfl,hpt,_⟩:=hat3
   refine⟨_,rfl,p,_,_,_,rfl,rfl,SqT.of hpt,As (j:=0) rfl,rfl,_,rfl,?_⟩
   refine Dd Ji ?_
   refine⟨_,rfl,p,_,_,_,rfl,rfl,SqT.of hpt,As (j:=0) rfl,rfl,_,rfl,?_⟩
   refine Dd P8 ?_
   match rs,hrun,h3,hlr with
   | [],hrun,_,_=>cases hrun
   | [_],hrun,_,_=>cases hrun
   | b::a::r,hrun,h3,hlr=>
    rw[DS,DS] at h3
    have hlr':r.length+1+1≤i:=hlr
    refine⟨_,rfl,.inl ⟨rfl,_,SqL.of h3⟩,tr,_,_,rfl,rfl,h3,DU _ _,?_⟩
    have h4:(upd H3 tr (.lst ((tl r++[V.bl a])++[V.bl b]).dropLast)) tr=some (.lst (tl r++[V.bl a])):=by rw[upd_same,List.dropLast_concat]
    have s4:Same H (upd H3 tr (.lst ((tl r++[V.bl a])++[V.bl b]).dropLast)):=AH s3 htr _
    have p4:(upd H3 tr (.lst ((tl r++[V.bl a])++[V.bl b]).dropLast)) p=some (.tup [.str (jn j),c1,c2]):=by rw[Aq (A6 hpt h3 (by intro z;cases z))];exact hpt
    revert h4 s4 p4
    generalize upd H3 tr (.lst ((tl r++[V.bl a])++[V.bl b]).dropLast)=H4
    intro h4 s4 p4
    refine⟨_,rfl,.inl ⟨rfl,_,SqL.of h4⟩,tr,_,_,rfl,rfl,h4,DU _ _,?_⟩
    have h5:(upd H4 tr (.lst (tl r++[V.bl a]).dropLast)) tr=some (.lst (tl r)):=by rw[upd_same,List.dropLast_concat]
    have s5:Same H (upd H4 tr (.lst (tl r++[V.bl a]).dropLast)):=AH s4 htr _
    have p5:(upd H4 tr (.lst (tl r++[V.bl a]).dropLast)) p=some (.tup [.str (jn j),c1,c2]):=by rw[Aq (A6 p4 h4 (by intro z;cases z))];exact p4
    revert h5 s5 p5
    generalize upd H4 tr (.lst (tl r++[V.bl a]).dropLast)=H5
    intro h5 s5 p5
    refine⟨_,rfl,.inl ⟨rfl,_,SqL.of h5⟩,_,rfl,p,_,_,_,rfl,rfl,SqT.of p5,As (j:=0) rfl,_,rfl,_,rfl,j,a,b,rfl,?_⟩
    refine⟨tr,_,_,rfl,rfl,h5,AO (by rw[Lr];omega),?_⟩
    refine⟨_,_,_,jv j a b::r,rfl,AH s5 htr _,?_,by show r.length+1≤i+1;omega,hrun⟩
    rw[upd_same,DS]
 ·rintro σ H3 ⟨v0,v1,v2,rs,rfl,s3,h3,hlr,hrun⟩
  rw[hlen,List.drop_length] at hrun
  cases hrun
  exact⟨_,rfl,tr,_,_,_,rfl,rfl,SqL.of h3,As (j:=0) rfl,q _ s3⟩
end
abbrev B1:Stmt:=Bm 32
def BV (K:PySem.W.Frag):Sp:=fun vs H Q _=>∃(v:V) (t:Tr) (r:Addr) (row:List Int),vs=[v,.ref r]∧t.At H v∧t.ok 5∧t.size≤800∧SqL K H r (row.map V.int)∧Wr row∧∀(l:Addr) (H':Hp),Same H H'→H l=none→AV H' l (row.filter fun k=>tv t k == true)→Q (.ref l) H'
section
theorem scWorldsOf:Al ["sentence","room","steps"] ["sentence","room"] (Ad B1):=Bn
theorem Ky {g g2:Addr} {gd gd2:FuncData} (F:Fun K "worlds_of" "worlds_of" B1 f fd) (GS:FnOk P w K mg bz AU 2 g gd ["sentence"] Md) (CS:AW K mg "steps_of" g gd ["sentence"])
  (GB:FnOk P w K mg bz AU 2 g2 gd2 ["steps","world"] JZ) (CB:AW K mg "true_by" g2 gd2 ["steps","world"]):FnOk P w K mg bz AU 3 f fd ["sentence","room"] (BV K):=by
 refine F.ok scWorldsOf (fun vs H Q E h=>?_) (fun cdv A outer s H vs Q E hr h=>?_)
 ·obtain⟨v,t,r,row,rfl,_⟩:=h
  rfl
 obtain⟨v,t,r,row,rfl,ha,hok,hs,hS,hwr,q⟩:=h
 have hl:=hwr.len
 refine⟨_,Ae (Ax (i:=2) scWorldsOf.nd rfl (Or.inr rfl) (An GS hr (by rfl) CS.m CS.k CS.b .nil Ay (Ab (pv 0) Ac)))
  (Af (Am (Dz (N:=["world","steps"]) (js:=[none,some 2]) (cl:=[("steps",s.heap.objs.size+1)]) ⟨rfl,rfl,rfl,(by intro p hp;simp at hp;rcases hp with rfl<;>rfl),rfl,rfl,rfl⟩ (Be (pv 1)) (fun c1=>(AN (i:=0) (show (["world","steps"]:List Str).Nodup by decide +kernel) rfl (Or.inl rfl))) (fun c1=>(Gd (Bu (An GB hr (by rfl) CB.m CB.k CB.b .nil Ay (Ab (pv 1) (Ab (pv 0) Ac)))))) (fun c1=>(pv 0))))),?_⟩
 refine⟨_,rfl,v,t,rfl,ha,hs,fun st ys H1 s1 hst0 hst hp=>?_⟩
 refine⟨_,rfl,r,rfl,⟨_,s1.seq hS⟩,fun cc acc hacc=>FL (p:=fun k=>tv t k == true) (rest:=[some (.ref st)]) (s1.seq hS) hacc (by omega) (fun k hk H2 s2 R hR=>?_) (fun v0 H2 s2 h2=>q acc H2 (s1.trans s2) (s1.free hacc) h2) none⟩
 refine⟨_,rfl,_,rfl,st,ys,t,k,rfl,s2 _ _ hst,hp.keep (TS.same s2),hok,hs,fun H3 s3=>⟨_,rfl,?_⟩⟩
 have:=hR H3 s3
 rw[show (tv t k == true)=tv t k by cases tv t k<;>rfl] at this
 exact this
end
abbrev HZ:Stmt:=Bm 33
section
theorem Tn:Al ["many"] ["many"] (Ad HZ):=Bn
theorem RN (F:Fun K "all_worlds" "all_worlds" HZ f fd) (T:Ht mg):FnOk P w K mg bz AU 1 f fd ["many"] Kh:=by
 refine F.ok Tn (fun vs H Q E h=>?_) (fun cdv A outer s H vs Q E hr h=>?_)
 ·obtain⟨m,rfl,_⟩:=h
  rfl
 obtain⟨m,rfl,h1,h5,q⟩:=h
 refine⟨_,Af (Am (A3 (LM rfl) (by rfl) T.lst BF (Ab (A3 Ox (by rfl) T.rng boot_range (Ab (AK Uw Ao (pv 0)) Ac)) Ac))),?_⟩
 have e:(1:Int)*2^((m:Int)).toNat=((2^m:Nat):Int):=by rw[Int.one_mul,Int.toNat_natCast,Int.natCast_pow];rfl
 refine⟨_,rfl,_,_,rfl,rfl,⟨by omega,by omega,by decide⟩,_,rfl,fun r hr2=>?_⟩
 have s2:=Ag hr2 (.rng 0 ((1:Int)*2^((m:Int)).toNat))
 refine⟨r,2^m,rfl,(by rw[upd_same];show some (HO.rng 0 ((1:Int)*2^((m:Int)).toNat))=_;rw[e]),Nat.le_trans (Qo h5) (by decide),fun l2 hl2=>?_⟩
 have s3:=Ag hl2 (.lst ((BY (2^m)).map V.int))
 exact q l2 _ (s2.trans s3) (s2.free hl2) upd_same
end
abbrev HF:Stmt:=Bm 14
def KO (K:PySem.W.Frag):Sp:=fun vs H Q _=>∃(a b:Addr) (one other:List Int),vs=[.ref a,.ref b]∧SqL K H a (one.map V.int)∧SqL K H b (other.map V.int)∧one.length<64∧other.length≤900∧
 ∀(l:Addr) (H':Hp) (ns:List Int),Same H H'→H l=none→ns.Pairwise (· < ·)→(∀k,k∈ns↔k∈one∧k∈other)→AV H' l ns→Q (.ref l) H'
section
theorem Tf:Al ["one","other"] ["one","other"] (Ad HF):=Bn
theorem Rr (F:Fun K "in_both" "in_both" HF f fd) (T:Ht mg):FnOk P w K mg bz AU 1 f fd ["one","other"] (KO K):=by
 refine F.ok Tf (fun vs H Q E h=>?_) (fun cdv A outer s H vs Q E hr h=>?_)
 ·obtain⟨a,b,one,other,rfl,_⟩:=h
  rfl
 obtain⟨a,b,one,other,rfl,ha,hb,hl1,hl2,q⟩:=h
 refine⟨_,Af (Am (AG (Do rfl) (by rfl) T.sorted boot_sorted (Ab (AK Sx (A3 (Ef rfl) (by rfl) T.set boot_set (Ab (pv 0) Ac)) (A3 (Ef rfl) (by rfl) T.set boot_set (Ab (pv 1) Ac))) Ac))),?_⟩
 refine⟨_,rfl,a,one,rfl,ha,by omega,fun a1 ha1=>?_⟩
 have s1:=Ag ha1 (Bk w a1 (fun k=>decide (k∈one)) one.length)
 refine⟨_,rfl,b,other,rfl,s1.seq hb,by omega,fun b1 hb1=>?_⟩
 have s2:=Ag hb1 (Bk w b1 (fun k=>decide (k∈other)) other.length)
 refine⟨a1,b1,_,_,_,_,rfl,rfl,s2 _ _ upd_same,upd_same,fun e=>?_,by omega,fun r hr1=>?_⟩
 ·subst e
  rw[upd_same] at hb1
  cases hb1
 have s3:=Ag hr1 (Bk w r (fun k=>decide (k∈one) && decide (k∈other)) one.length)
 refine⟨r,_,_,rfl,upd_same,hl1,fun l ns hl hp hm=>?_⟩
 have s4:=Ag hl (.lst (ns.map V.int))
 exact q l _ ns (s1.trans (s2.trans (s3.trans s4))) ((s1.trans (s2.trans s3)).free hl) hp (fun k=>by rw[hm k,Bool.and_eq_true,decide_eq_true_eq,decide_eq_true_eq]) upd_same
end
abbrev Fd:Stmt:=Bm 15
def Gc (K:PySem.W.Frag):Sp:=fun vs H Q _=>∃(a b:Addr) (one other:List Int),vs=[.ref a,.ref b]∧SqL K H a (one.map V.int)∧SqL K H b (other.map V.int)∧one.length≤32∧(∀k∈one,0≤k∧k<32)∧other.length≤900∧
 ∀(l:Addr) (H':Hp) (ns:List Int),Same H H'→H l=none→ns.Pairwise (· < ·)→(∀k,k∈ns↔k∈one∧k∉other)→AV H' l ns→Q (.ref l) H'
section
theorem RY:Al ["one","other"] ["one","other"] (Ad Fd):=Bn
theorem Pg (F:Fun K "in_first_only" "in_first_only" Fd f fd) (T:Ht mg):FnOk P w K mg bz AU 1 f fd ["one","other"] (Gc K):=by
 refine F.ok RY (fun vs H Q E h=>?_) (fun cdv A outer s H vs Q E hr h=>?_)
 ·obtain⟨a,b,one,other,rfl,_⟩:=h
  rfl
 obtain⟨a,b,one,other,rfl,ha,hb,hl1,h32,hl2,q⟩:=h
 refine⟨_,Af (Am (AG (Jh rfl) (by rfl) T.sorted boot_sorted (Ab (AK Sh (A3 (Ef rfl) (by rfl) T.set boot_set (Ab (pv 0) Ac)) (A3 (Ef rfl) (by rfl) T.set boot_set (Ab (pv 1) Ac))) Ac))),?_⟩
 refine⟨_,rfl,a,one,rfl,ha,by omega,fun a1 ha1=>?_⟩
 have s1:=Ag ha1 (Bk w a1 (fun k=>decide (k∈one)) one.length)
 refine⟨_,rfl,b,other,rfl,s1.seq hb,by omega,fun b1 hb1=>?_⟩
 have s2:=Ag hb1 (Bk w b1 (fun k=>decide (k∈other)) other.length)
 refine⟨a1,b1,_,_,_,_,rfl,rfl,s2 _ _ upd_same,upd_same,fun e=>?_,hl1,by omega,fun k hk=>h32 k (of_decide_eq_true hk),fun r hr1=>?_⟩
 ·subst e
  rw[upd_same] at hb1
  cases hb1
 have s3:=Ag hr1 (NI w r (fun k=>decide (k∈one) && !decide (k∈other)) one.length)
 refine⟨r,_,_,rfl,upd_same,by omega,fun l ns hl hp hm=>?_⟩
 have s4:=Ag hl (.lst (ns.map V.int))
 exact q l _ ns (s1.trans (s2.trans (s3.trans s4))) ((s1.trans (s2.trans s3)).free hl) hp (fun k=>by rw[hm k,Bool.and_eq_true,decide_eq_true_eq,Bool.not_eq_true',decide_eq_false_iff_not]) upd_same
end
abbrev Fv:Stmt:=Bm 18
def FR (K:PySem.W.Frag):Sp:=fun vs H Q _=>∃(a b:Addr) (one other:List Int),vs=[.ref a,.ref b]∧SqL K H a (one.map V.int)∧SqL K H b (other.map V.int)∧one.length<64∧other.length≤900∧
 ∀(H':Hp),Same H H'→Q (.bl (one.any fun k=>decide (k∈other))) H'
section
theorem Rw:Al ["one","other"] ["one","other"] (Ad Fv):=Bn
theorem QH {g:Addr} {gd:FuncData} (F:Fun K "some_within" "some_within" Fv f fd) (B:Bl mg) (GB:FnOk P w K mg bz AU 1 g gd ["one","other"] (KO K)) (CB:AW K mg "in_both" g gd ["one","other"]):FnOk P w K mg bz AU 2 f fd ["one","other"] (FR K):=by
 refine F.ok Rw (fun vs H Q E h=>?_) (fun cdv A outer s H vs Q E hr h=>?_)
 ·obtain⟨a,b,one,other,rfl,_⟩:=h
  rfl
 obtain⟨a,b,one,other,rfl,ha,hb,hl1,hl2,q⟩:=h
 refine⟨_,Af (Am (Dp Mx (AG A8 (by rfl) B.len PySem.boot_len (Ab (An GB hr (by rfl) CB.m CB.k CB.b .nil Ay (Ab (pv 0) (Ab (pv 1) Ac))) Ac)) Ao (AB _))),?_⟩
 refine⟨_,rfl,_,rfl,a,b,one,other,rfl,ha,hb,hl1,hl2,fun l H' ns s1 hl hp hm hr1=>?_⟩
 refine⟨l,_,rfl,.inl (SqL.of hr1),_,_,rfl,rfl,?_⟩
 have e:decide ((((ns.map V.int).length:Nat):Int)>0)=one.any fun k=>decide (k∈other):=by
  rw[List.length_map]
  cases h:one.any fun k=>decide (k∈other) with
  | true=>
   obtain⟨k,h1,h2⟩:=List.any_eq_true.mp h
   have:=List.length_pos_of_mem ((hm k).mpr ⟨h1,of_decide_eq_true h2⟩)
   exact decide_eq_true (by omega)
  | false=>
   cases ns with
   | nil=>rfl
   | cons k ns=>
    obtain⟨h1,h2⟩:=(hm k).mp List.mem_cons_self
    rw[List.any_eq_false] at h
    exact absurd (decide_eq_true h2) (h k h1)
 have:=q H' s1
 rw[←e] at this
 exact this
end
abbrev Oe:Stmt:=Bm 16
def Ez (rs:List (List Int)):Nat:=(rs.map List.length).sum
def LW (K:PySem.W.Frag):Sp:=fun vs H Q _=>∃(a:Addr) (xs:List V) (rs:List (List Int)),vs=[.ref a]∧SqL K H a xs∧RowsAt H xs rs∧Ez rs<64∧
 ∀(l:Addr) (H':Hp) (ns:List Int),Same H H'→H l=none→ns.Pairwise (· < ·)→(∀k,k∈ns↔∃row∈rs,k∈row)→AV H' l ns→Q (.ref l) H'
theorem VX {tb:TS} {D:Ends} {σ:L2.St} {H:Hp} (h:tb D σ H):Em MW tb D σ H:=by
 show if true=true then tb D σ H else D.nx σ H
 rw[if_pos rfl]
 exact h
theorem Nl {rs:List (List Int)} {i:Nat} {row:List Int} (h:rs[i]? = some row):Ez (rs.take (i+1))=Ez (rs.take i)+row.length:=by
 have e:rs.take (i+1)=rs.take i++[row]:=by rw[List.take_add_one,h];rfl
 unfold Ez
 rw[e,List.map_append,List.sum_append]
 simp
theorem Su {rs:List (List Int)} {i:Nat}:Ez (rs.take i)≤Ez rs:=by
 have e:=List.take_append_drop i rs
 have:Ez rs=Ez (rs.take i)+Ez (rs.drop i):=by
  conv=>lhs;rw[←e]
  unfold Ez
  rw[List.map_append,List.sum_append]
 omega
section
theorem Vf:Al ["rows"] ["rows"] (Ad Oe):=Bn
theorem Th (F:Fun K "in_any" "in_any" Oe f fd) (T:Ht mg):FnOk P w K mg bz AU 1 f fd ["rows"] (LW K):=by
 refine F.ok Vf (fun vs H Q E h=>?_) (fun cdv A outer s H vs Q E hr h=>?_)
 ·obtain⟨a,xs,rs,rfl,_⟩:=h
  rfl
 obtain⟨a,xs,rs,rfl,hS,hR,h64,q⟩:=h
 refine⟨_,Af (Am (AG (Do rfl) (by rfl) T.sorted boot_sorted (Ab (Ot (N:=["row","world"]) (js:=[none,none]) (cl:=[]) ⟨rfl,rfl,rfl,List.forall_mem_nil _,rfl,rfl,rfl⟩ (Be (pv 0)) (fun c1=>(AN (i:=0) (show (["row","world"]:List Str).Nodup by decide +kernel) rfl (Or.inl rfl))) (fun c1=>D2) (fun c1=>(Be (pv 0))) (fun c1=>(AN (i:=1) (show (["row","world"]:List Str).Nodup by decide +kernel) rfl (Or.inl rfl))) (fun c1=>D2) (fun c1=>(pv 1))) Ac))),?_⟩
 refine⟨_,rfl,a,rfl,⟨_,hS⟩,fun cc acc hacc=>A7 (K:=K) (a:=a) (xs:=xs) (fun i σ H2=>∃(v0 v1:Option V) (S:Int→Bool) (n:Nat),σ=[v0,v1]∧Same H H2∧H2 acc=some (Bk w acc S n)∧(∀k,S k=true↔∃row∈rs.take i,k∈row)∧n≤Ez (rs.take i)) ?_ ?_ ?_ ?_⟩
 ·exact⟨none,none,_,0,rfl,Ag hacc _,upd_same,fun k=>by simp,Nat.zero_le _⟩
 ·rintro i σ H2 _ ⟨v0,v1,S,n,rfl,s2,_⟩
  exact s2.seq hS
 ·rintro i x σ H2 hx ⟨v0,v1,S,n,rfl,s2,ha2,hm2,hn2⟩
  obtain⟨row,p,hrow,rfl,hp⟩:=hR.get hx
  have hlt:=Nl hrow
  have hle:=Su (rs:=rs) (i:=i+1)
  refine VX ?_
  refine⟨_,rfl,p,rfl,⟨_,SqL.of (s2 _ _ hp)⟩,A7 (K:=K) (a:=p) (xs:=row.map V.int) (fun j σ H3=>∃(v1:Option V) (S:Int→Bool) (n:Nat),σ=[some (.ref p),v1]∧Same H H3∧H3 acc=some (Bk w acc S n)∧(∀k,S k=true↔(∃row∈rs.take i,k∈row)∨k∈row.take j)∧n≤Ez (rs.take i)+j) ?_ ?_ ?_ ?_⟩
  ·exact⟨_,S,n,rfl,s2,ha2,fun k=>by rw[hm2 k];simp,hn2⟩
  ·rintro j σ H3 _ ⟨v1,S,n,rfl,s3,_⟩
   exact SqL.of (s3 _ _ hp)
  ·rintro j u σ H3 hu ⟨v1,S,n,rfl,s3,ha3,hm3,hn3⟩
   rw[List.getElem?_map] at hu
   obtain⟨k0,hk0,rfl⟩:=Option.map_eq_some_iff.mp hu
   have hj:=(List.getElem?_eq_some_iff.mp hk0).1
   have et:row.take (j+1)=row.take j++[k0]:=by rw[List.take_add_one,hk0];rfl
   show IV w acc (Pq 1) _ _ _
   refine⟨_,rfl,k0,S,n,rfl,ha3,by omega,?_⟩
   refine⟨_,_,n+1,rfl,AH s3 hacc _,upd_same,fun k=>?_,by omega⟩
   rw[Bool.or_eq_true,hm3 k,decide_eq_true_eq,et,List.mem_append,List.mem_singleton,or_assoc]
  ·rintro σ H3 ⟨v1,S,n,rfl,s3,ha3,hm3,hn3⟩
   rw[List.length_map] at hm3 hn3
   rw[List.take_length] at hm3
   refine⟨_,_,S,n,rfl,s3,ha3,fun k=>?_,by omega⟩
   have e:rs.take (i+1)=rs.take i++[row]:=by rw[List.take_add_one,hrow];rfl
   rw[hm3 k,e]
   constructor
   ·rintro (⟨r,h1,h2⟩|h)
    ·exact⟨r,List.mem_append_left _ h1,h2⟩
    ·exact⟨row,List.mem_append_right _ List.mem_cons_self,h⟩
   ·rintro⟨r,h1,h2⟩
    rcases List.mem_append.mp h1 with z | z
    ·exact .inl ⟨r,z,h2⟩
    ·rw[List.mem_singleton.mp z] at h2;exact .inr h2
 ·rintro σ H2 ⟨v0,v1,S,n,rfl,s2,ha2,hm2,hn2⟩
  rw[hR.len,List.take_length] at hm2 hn2
  refine⟨acc,S,n,rfl,ha2,by omega,fun l ns hl hp hm=>?_⟩
  have s4:=Ag hl (.lst (ns.map V.int))
  exact q l _ ns (s2.trans s4) (s2.free hl) hp (fun k=>by rw[hm k,hm2 k]) upd_same
end
abbrev E3:Stmt:=Bm 17
abbrev Fn:Stmt:=Bm 47
def IT (K:PySem.W.Frag):Sp:=fun vs H Q _=>∃(a b:Addr) (one other:List Int),vs=[.ref a,.ref b]∧SqL K H a (one.map V.int)∧SqL K H b (other.map V.int)∧one.length≤32∧(∀k∈one,0≤k∧k<32)∧other.length≤900∧
 ∀(H':Hp),Same H H'→Q (.bl (one.all fun k=>decide (k∈other))) H'
def EI (K:PySem.W.Frag):Sp:=fun vs H Q _=>∃(s r:Addr) (seen row:List Int),vs=[.ref s,.ref r]∧SqL K H s (seen.map V.int)∧Wr seen∧seen≠[]∧SqL K H r (row.map V.int)∧Wr row∧∀(H':Hp),Same H H'→Q (.str (Bj seen row)) H'
section
theorem Sg:Al ["one","other"] ["one","other"] (Ad E3):=Bn
theorem O5 {g:Addr} {gd:FuncData} (F:Fun K "all_within" "all_within" E3 f fd) (B:Bl mg) (GF:FnOk P w K mg bz AU 1 g gd ["one","other"] (Gc K)) (CF:AW K mg "in_first_only" g gd ["one","other"]):FnOk P w K mg bz AU 2 f fd ["one","other"] (IT K):=by
 refine F.ok Sg (fun vs H Q E h=>?_) (fun cdv A outer s H vs Q E hr h=>?_)
 ·obtain⟨a,b,one,other,rfl,_⟩:=h
  rfl
 obtain⟨a,b,one,other,rfl,ha,hb,hl1,h32,hl2,q⟩:=h
 refine⟨_,Af (Am (Dp AX (AG A8 (by rfl) B.len PySem.boot_len (Ab (An GF hr (by rfl) CF.m CF.k CF.b .nil Ay (Ab (pv 0) (Ab (pv 1) Ac))) Ac)) Ao (AB _))),?_⟩
 refine⟨_,rfl,_,rfl,a,b,one,other,rfl,ha,hb,hl1,h32,hl2,fun l H' ns s1 hl hp hm hr1=>?_⟩
 refine⟨l,_,rfl,.inl (SqL.of hr1),rfl,?_⟩
 have e:decide (V.int (((ns.map V.int).length:Nat):Int)=V.int 0)=one.all fun k=>decide (k∈other):=by
  rw[List.length_map]
  cases h:one.all fun k=>decide (k∈other) with
  | true=>
   cases ns with
   | nil=>rfl
   | cons k ns=>
    obtain⟨h1,h2⟩:=(hm k).mp List.mem_cons_self
    exact absurd (of_decide_eq_true (List.all_eq_true.mp h k h1)) h2
  | false=>
   obtain⟨k,h1,h2⟩:=List.all_eq_false.mp h
   have:=List.length_pos_of_mem ((hm k).mpr ⟨h1,fun z=>h2 (decide_eq_true z)⟩)
   exact decide_eq_false fun z=>by
    injection z with z
    omega
 have:=q H' s1
 rw[←e] at this
 exact this
theorem RK:Al ["seen","worlds"] ["seen","worlds"] (Ad Fn):=Bn
theorem PF {g g2:Addr} {gd gd2:FuncData} (F:Fun K "plain" "plain" Fn f fd) (GA:FnOk P w K mg bz AU 2 g gd ["one","other"] (IT K)) (CA:AW K mg "all_within" g gd ["one","other"])
  (GS:FnOk P w K mg bz AU 2 g2 gd2 ["one","other"] (FR K)) (CS:AW K mg "some_within" g2 gd2 ["one","other"]):FnOk P w K mg bz AU 3 f fd ["seen","worlds"] (EI K):=by
 refine F.ok RK (fun vs H Q E h=>?_) (fun cdv A outer s H vs Q E hr h=>?_)
 ·obtain⟨s,r,seen,row,rfl,_⟩:=h
  rfl
 obtain⟨sn,r,seen,row,rfl,hN,wN,hne,hS,wS,q⟩:=h
 have l1:=wN.len
 have l2:=wS.len
 refine⟨_,Ae (AC (Bu (An GA hr (by rfl) CA.m CA.k CA.b .nil Ay (Ab (pv 0) (Ab (pv 1) Ac))))
   (Af (Am Ah))
   Aw)
  (Ae (AC (Bu (An GS hr (by rfl) CS.m CS.k CS.b .nil Ay (Ab (pv 0) (Ab (pv 1) Ac))))
   (Af (Am Ah))
   Aw)
  (Af (Am Ah))),?_⟩
 unfold Bj at q
 refine⟨_,rfl,_,rfl,sn,r,seen,row,rfl,hN,hS,l1,wN.2,by omega,fun H1 s1=>⟨_,rfl,?_⟩⟩
 cases h0:seen.all fun k=>decide (k∈row) with
 | true=>
  refine Bo ?_
  have:=q _ s1
  rw[h0,if_pos rfl] at this
  exact this
 | false=>
  refine Bd ?_
  simp only[h0,if_neg Bool.false_ne_true] at q
  refine⟨_,rfl,_,rfl,sn,r,seen,row,rfl,s1.seq hN,s1.seq hS,by omega,by omega,fun H2 s2=>⟨_,rfl,?_⟩⟩
  have q2:=q _ (s1.trans s2)
  cases h1:seen.any fun k=>decide (k∈row) with
  | true=>
   refine Bo ?_
   rw[h1,if_pos rfl] at q2
   exact q2
  | false=>
   refine Bd ?_
   rw[h1,if_neg Bool.false_ne_true] at q2
   exact q2
end
abbrev Ek:Stmt:=Bm 42
def TF:Option Nat→V
 | none=>.non
 | some i=>.int i
def DG (sides:List (List Int)) (row:List Int):Option Nat:=sides.findIdx? fun s=>!(s.any fun k=>decide (k∈row))
theorem miss_none {sides:List (List Int)} {row:List Int}:DG sides row=none↔By sides row=true:=by
 unfold DG By
 rw[List.findIdx?_eq_none_iff,List.all_eq_true]
 exact⟨fun h s hs=>by have:=h s hs;simpa using this,fun h s hs=>by have:=h s hs;simpa using this⟩
theorem Q5 {sides:List (List Int)} {row:List Int}:decide (TF (DG sides row)= .non)=By sides row:=by
 cases h:DG sides row with
 | none=>
  rw[miss_none.mp h]
  rfl
 | some i=>
  cases h2:By sides row with
  | true=>rw[miss_none.mpr h2] at h;cases h
  | false=>rfl
theorem SH {sides:List (List Int)} {row s:List Int} {i:Nat} (hb:∀s∈sides.take i,(s.any fun k=>decide (k∈row))=true) (hi:sides[i]? = some s) (hs:(s.any fun k=>decide (k∈row))=false):DG sides row=some i:=by
 unfold DG
 obtain⟨hlt,rfl⟩:=List.getElem?_eq_some_iff.mp hi
 rw[List.findIdx?_eq_some_iff_getElem]
 refine⟨hlt,by simp[hs],fun j hj=>?_⟩
 have hm:sides[j]∈sides.take i:=List.mem_take_iff_getElem.mpr ⟨j,by omega,rfl⟩
 rw[hb _ hm]
 decide
theorem OL {sides:List (List Int)} {row:List Int} (hb:∀s∈sides,(s.any fun k=>decide (k∈row))=true):DG sides row=none:=by
 rw[miss_none]
 unfold By
 rw[List.all_eq_true]
 exact hb
theorem NG {α:Type} {xs:List α} {i:Nat} {x y:α} (hx:xs[i]? = some x) (h:y∈xs.take (i+1)):y∈xs.take i∨y=x:=by
 rw[List.take_succ,hx] at h
 rcases List.mem_append.mp h with h | h
 ·exact .inl h
 ·exact .inr (by simpa using h)
def Gq (K:PySem.W.Frag):Sp:=fun vs H Q _=>∃(sd r:Addr) (row:List Int) (xs:List V) (sides:List (List Int)),vs=[.ref sd,.ref r]∧SqL K H r (row.map V.int)∧row.length≤900∧H sd=some (.lst xs)∧RowsAt H xs sides∧(∀s∈sides,s.length<64)∧sides.length≤900∧∀(H':Hp),Same H H'→Q (TF (DG sides row)) H'
section
theorem scMissed:Al ["sides","worlds","at","side"] ["sides","worlds"] (Ad Ek):=Bn
theorem Np {g:Addr} {gd:FuncData} (F:Fun K "missed_side" "missed_side" Ek f fd) (HE:mg "enumerate"=none) (GS:FnOk P w K mg bz AU 2 g gd ["one","other"] (FR K)) (CS:AW K mg "some_within" g gd ["one","other"]):FnOk P w K mg bz AU 3 f fd ["sides","worlds"] (Gq K):=by
 refine F.ok scMissed (fun vs H Q E h=>?_) (fun cdv A outer s H vs Q E hr h=>?_)
 ·obtain⟨sd,r,row,xs,sides,rfl,_⟩:=h
  rfl
 obtain⟨sd,r,row,xs,sides,rfl,hS,hl,hX,hR,hsl,hsn,q⟩:=h
 refine⟨_,Ae (Bv PassesOwn.never rfl (JK (by rfl) HE (Ab (pv 0) Ac)) (Qq rfl (EG (AN (i:=2) scMissed.nd rfl (Or.inl rfl)) (EG (AN (i:=3) scMissed.nd rfl (Or.inl rfl)) MS)))
   (Af (AC (Ca (Bu (An GS hr (by rfl) CS.m CS.k CS.b .nil Ay (Ab (pv 3) (Ab (pv 1) Ac)))))
    (Af (Am (pv 2)))
    Aw)))
  (Af (Am KQ)),?_⟩
 have hlen:=hR.len
 refine⟨_,rfl,sd,_,rfl,hX,HQ (a:=sd) (xs:=xs) (fun i σ H3=>∃(v0 v1:Option V),σ=[some (.ref sd),some (.ref r),v0,v1]∧Same H H3∧∀s∈sides.take i,(s.any fun k=>decide (k∈row))=true) ?_ ?_ ?_ ?_⟩
 ·exact⟨_,_,rfl,Same.refl _,fun s hs=>by simp at hs⟩
 ·rintro i σ H3 _ ⟨v0,v1,rfl,s3,h3⟩
  exact s3 _ _ hX
 ·rintro i y T2 σ H3 hy hT2 ⟨v0,v1,rfl,s3,h3⟩
  obtain⟨side,p,hr2,rfl,hp⟩:=hR.get hy
  have sT:=Ag hT2 (.tup [.int (i:Nat),.ref p])
  have s4:=s3.trans sT
  refine⟨T2,_,rfl,SqT.of upd_same,rfl,_,_,rfl,_,_,rfl,rfl,?_⟩
  refine⟨_,rfl,_,rfl,p,r,side,row,rfl,SqL.of (s4 _ _ hp),s4.seq hS,hsl side (List.mem_of_getElem? hr2),hl,fun H4 s5=>⟨_,rfl,?_⟩⟩
  cases hb:side.any fun k=>decide (k∈row) with
  | true=>
   refine Bd ?_
   refine⟨_,_,rfl,s4.trans s5,fun s hs=>?_⟩
   rcases NG hr2 hs with h | rfl
   ·exact h3 s h
   ·exact hb
  | false=>
   refine Bo ?_
   have:=q H4 (s4.trans s5)
   rw[SH h3 hr2 hb] at this
   exact⟨_,rfl,this⟩
 ·rintro σ H3 ⟨v0,v1,rfl,s3,h3⟩
  rw[hlen,List.take_length] at h3
  have:=q H3 s3
  rw[OL h3] at this
  exact this
end
abbrev D5:Stmt:=Bm 43
def Ix (K:PySem.W.Frag):Sp:=fun vs H Q _=>∃(sd r:Addr) (row:List Int) (xs:List V) (sides:List (List Int)),vs=[.ref sd,.ref r]∧SqL K H r (row.map V.int)∧row.length≤900∧H sd=some (.lst xs)∧RowsAt H xs sides∧(∀s∈sides,s.length<64)∧sides.length≤900∧∀(H':Hp),Same H H'→Q (.bl (By sides row)) H'
section
theorem Q0:Al ["sides","worlds"] ["sides","worlds"] (Ad D5):=Bn
theorem N6 {g:Addr} {gd:FuncData} (F:Fun K "stands" "stands" D5 f fd) (GM:FnOk P w K mg bz AU 3 g gd ["sides","worlds"] (Gq K)) (CM:AW K mg "missed_side" g gd ["sides","worlds"]):FnOk P w K mg bz AU 4 f fd ["sides","worlds"] (Ix K):=by
 refine F.ok Q0 (fun vs H Q E h=>?_) (fun cdv A outer s H vs Q E hr h=>?_)
 ·obtain⟨sd,r,row,xs,sides,rfl,_⟩:=h
  rfl
 obtain⟨sd,r,row,xs,sides,rfl,hS,hl,hX,hR,hsl,hsn,q⟩:=h
 refine⟨_,Af (Am (OM (Ls (An GM hr (by rfl) CM.m CM.k CM.b .nil Ay (Ab (pv 0) (Ab (pv 1) Ac)))))),?_⟩
 refine⟨_,rfl,_,rfl,sd,r,row,xs,sides,rfl,hS,hl,hX,hR,hsl,hsn,fun H1 s1=>?_⟩
 have:=q H1 s1
 rw[←Q5] at this
 exact this
end
abbrev Eb:Stmt:=Bm 49
abbrev Cw:Stmt:=Bm 50
abbrev DW:Stmt:=Bm 51
def Ir (K:PySem.W.Frag):Sp:=fun vs H Q _=>∃(sd g s r:Addr) (xs:List V) (sides:List (List Int)) (going seen row:List Int),vs=[.ref sd,.ref g,.ref s,.ref r]∧H sd=some (.lst xs)∧RowsAt H xs sides∧(∀s∈sides,Wr s)∧sides.length≤2∧
 SqL K H g (going.map V.int)∧Wr going∧SqL K H s (seen.map V.int)∧Wr seen∧seen≠[]∧SqL K H r (row.map V.int)∧Wr row∧∀(H':Hp),Same H H'→Q (.str (Di sides going seen row)) H'
def Eo (z:Str) (g r:List Int):List Int:=if z="grant" then N8 g r else if z="deny" then Fs g r else g
def Pd (sides:List (List Int)) (going seen row:List Int):Option Nat:=if Bj seen row="doubt" then none else DG sides (Eo (Bj seen row) going row)
def HJ (K:PySem.W.Frag):Sp:=fun vs H Q _=>∃(sd g s r:Addr) (xs:List V) (sides:List (List Int)) (going seen row:List Int),vs=[.ref sd,.ref g,.ref s,.ref r]∧H sd=some (.lst xs)∧RowsAt H xs sides∧(∀s∈sides,Wr s)∧sides.length≤2∧
 SqL K H g (going.map V.int)∧Wr going∧SqL K H s (seen.map V.int)∧Wr seen∧seen≠[]∧SqL K H r (row.map V.int)∧Wr row∧∀(H':Hp),Same H H'→Q (TF (Pd sides going seen row)) H'
def LA (K:PySem.W.Frag):Sp:=fun vs H Q _=>∃(z:Str) (g r:Addr) (going row:List Int),vs=[.str z,.ref g,.ref r]∧SqL K H g (going.map V.int)∧Wr going∧SqL K H r (row.map V.int)∧row.length≤900∧
 ∀(l:Addr) (H':Hp),Same H H'→H l=none→AV H' l (Eo z going row)→Q (.ref l) H'
theorem Ub {g r ns:List Int} (hg:Wr g) (hp:ns.Pairwise (· < ·)) (hm:∀k,k∈ns↔k∈g∧k∈r):ns=N8 g r:=
 FZ hp (hg.1.sublist List.filter_sublist) fun k=>by rw[hm k];unfold N8;rw[List.mem_filter,decide_eq_true_eq]
theorem Rp {g r ns:List Int} (hg:Wr g) (hp:ns.Pairwise (· < ·)) (hm:∀k,k∈ns↔k∈g∧k∉r):ns=Fs g r:=
 FZ hp (hg.1.sublist List.filter_sublist) fun k=>by rw[hm k];unfold Fs;rw[List.mem_filter,Bool.not_eq_true',decide_eq_false_iff_not]
theorem Ke (xs row:List Int):Fs xs row=[]↔(xs.all fun k=>decide (k∈row))=true:=by
 unfold Fs
 rw[List.filter_eq_nil_iff,List.all_eq_true]
 exact⟨fun h k hk=>by have:=h k hk;simpa using this,fun h k hk=>by have:=h k hk;simpa using this⟩
theorem Uk (seen row:List Int):Bj seen row="grant"∨Bj seen row="deny"∨Bj seen row="doubt":=by
 unfold Bj
 split
 ·exact .inl rfl
 ·split
  ·exact .inr (.inr rfl)
  ·exact .inr (.inl rfl)
theorem Ss (z:Str) (g r:List Int):(Eo z g r).length≤g.length:=by
 have h1:=Ut g r
 have h2:=Rn g r
 unfold Eo
 split
 ·omega
 ·split<;>omega
theorem Hf {sides:List (List Int)} {going seen row:List Int} (n0:¬Fs going row=[]) (n1:¬N8 going row=[]):Di sides going seen row=match Pd sides going seen row with | none=>Bj seen row | some _=>"doubt":=by
 unfold Di Pd Eo
 rw[if_neg n0,if_neg n1]
 rcases Uk seen row with e | e | e
 ·rw[e,if_neg (show ¬("grant":Str)="doubt" by decide),if_pos (show ("grant":Str)="grant" from rfl)]
  cases hs:By sides (N8 going row) with
  | true=>
   rw[miss_none.mpr hs,if_neg (by rintro⟨_,z⟩;cases z),if_neg (by rintro⟨z,_⟩;exact absurd z (by decide))]
  | false=>
   rw[if_pos ⟨rfl,rfl⟩]
   cases hm:DG sides (N8 going row) with
   | none=>rw[miss_none.mp hm] at hs;cases hs
   | some i=>rfl
 ·rw[e,if_neg (show ¬("deny":Str)="doubt" by decide),if_neg (show ¬("deny":Str)="grant" by decide),if_pos (show ("deny":Str)="deny" from rfl)]
  cases hs:By sides (Fs going row) with
  | true=>
   rw[miss_none.mpr hs,if_neg (by rintro⟨z,_⟩;exact absurd z (by decide)),if_neg (by rintro⟨_,z⟩;cases z)]
  | false=>
   rw[if_neg (by rintro⟨z,_⟩;exact absurd z (by decide)),if_pos ⟨rfl,rfl⟩]
   cases hm:DG sides (Fs going row) with
   | none=>rw[miss_none.mp hm] at hs;cases hs
   | some i=>rfl
 ·rw[e,if_neg (by rintro⟨z,_⟩;exact absurd z (by decide)),if_neg (by rintro⟨z,_⟩;exact absurd z (by decide)),if_pos rfl]
section
theorem Po:Al ["word","row","worlds"] ["word","row","worlds"] (Ad Eb):=Bn
theorem Nw {g g2:Addr} {gd gd2:FuncData} (F:Fun K "left_by" "left_by" Eb f fd) (T:Ht mg) (GB:FnOk P w K mg bz AU 1 g gd ["one","other"] (KO K)) (CB:AW K mg "in_both" g gd ["one","other"])
  (GF:FnOk P w K mg bz AU 1 g2 gd2 ["one","other"] (Gc K)) (CF:AW K mg "in_first_only" g2 gd2 ["one","other"]):FnOk P w K mg bz AU 2 f fd ["word","row","worlds"] (LA K):=by
 refine F.ok Po (fun vs H Q E h=>?_) (fun cdv A outer s H vs Q E hr h=>?_)
 ·obtain⟨z,g,r,going,row,rfl,_⟩:=h
  rfl
 obtain⟨z,gg,r,going,row,rfl,hG,wG,hS,hl,q⟩:=h
 have l1:=wG.len
 refine⟨_,Ae (AC (Av AX (pv 0) Ah (AB _))
   (Af (Am (An GB hr (by rfl) CB.m CB.k CB.b .nil Ay (Ab (pv 1) (Ab (pv 2) Ac)))))
   Aw)
  (Ae (AC (Av AX (pv 0) Ah (AB _))
   (Af (Am (An GF hr (by rfl) CF.m CF.k CF.b .nil Ay (Ab (pv 1) (Ab (pv 2) Ac)))))
   Aw)
  (Af (Am (A3 Bs (by rfl) T.lst BF (Ab (pv 1) Ac))))),?_⟩
 unfold Eo at q
 refine⟨_,rfl,rfl,_,rfl,?_⟩
 by_cases h0:z="grant"
 ·refine DC (by rw[h0]) ?_
  refine⟨_,rfl,_,rfl,gg,r,going,row,rfl,hG,hS,by omega,by omega,fun l H' ns s1 hl0 hp hm hr1=>?_⟩
  have:=Ub wG hp hm
  subst this
  have q1:=q l H' s1 hl0
  rw[if_pos h0] at q1
  exact q1 hr1
 refine Dd (fun e=>h0 (by injection e)) ?_
 refine⟨_,rfl,rfl,_,rfl,?_⟩
 by_cases h1:z="deny"
 ·refine DC (by rw[h1]) ?_
  refine⟨_,rfl,_,rfl,gg,r,going,row,rfl,hG,hS,l1,wG.2,by omega,fun l H' ns s1 hl0 hp hm hr1=>?_⟩
  have:=Rp wG hp hm
  subst this
  have q1:=q l H' s1 hl0
  rw[if_neg h0,if_pos h1] at q1
  exact q1 hr1
 refine Dd (fun e=>h1 (by injection e)) ?_
 refine⟨_,rfl,gg,_,rfl,.inl hG,fun l hl0=>?_⟩
 have q1:=q l _ (Ag hl0 (.lst (going.map V.int))) hl0
 rw[if_neg h0,if_neg h1] at q1
 exact q1 upd_same
theorem scBarring:Al ["sides","going","seen","worlds","word"] ["sides","going","seen","worlds"] (Ad Cw):=Bn
theorem LO {g3 g4 g5:Addr} {d3 d4 d5:FuncData} (F:Fun K "barring_side" "barring_side" Cw f fd)
  (GP:FnOk P w K mg bz AU 3 g3 d3 ["seen","worlds"] (EI K)) (CP:AW K mg "plain" g3 d3 ["seen","worlds"])
  (GL:FnOk P w K mg bz AU 2 g4 d4 ["word","row","worlds"] (LA K)) (CL:AW K mg "left_by" g4 d4 ["word","row","worlds"])
  (GT:FnOk P w K mg bz AU 3 g5 d5 ["sides","worlds"] (Gq K)) (CT:AW K mg "missed_side" g5 d5 ["sides","worlds"]):FnOk P w K mg bz AU 4 f fd ["sides","going","seen","worlds"] (HJ K):=by
 refine F.ok scBarring (fun vs H Q E h=>?_) (fun cdv A outer s H vs Q E hr h=>?_)
 ·obtain⟨sd,g,s,r,xs,sides,going,seen,row,rfl,_⟩:=h
  rfl
 obtain⟨sd,gg,sn,r,xs,sides,going,seen,row,rfl,hX,hR,wX,hxl,hG,wG,hN,wN,nne,hS,wS,q⟩:=h
 have hr2:Room 2 _:=hr.mono (by decide)
 have l1:=wG.len
 have l3:=wS.len
 refine⟨_,Ae (Ax (i:=4) scBarring.nd rfl (Or.inl rfl) (An GP hr (by rfl) CP.m CP.k CP.b .nil Ay (Ab (pv 2) (Ab (pv 3) Ac))))
  (Ae (AC (Av AX (pv 4) Ah (AB _))
   (Af (Am KQ))
   Aw)
  (Af (Am (An GT hr (by rfl) CT.m CT.k CT.b .nil Ay (Ab (pv 0) (Ab (An GL hr2 (by rfl) CL.m CL.k CL.b .nil Ay (Ab (pv 4) (Ab (pv 1) (Ab (pv 3) Ac)))) Ac)))))),?_⟩
 unfold Pd at q
 refine⟨_,rfl,_,rfl,sn,r,seen,row,rfl,hN,wN,nne,hS,wS,fun H3 s3=>?_⟩
 refine⟨_,rfl,rfl,_,rfl,?_⟩
 by_cases e:Bj seen row="doubt"
 ·refine DC (by rw[e]) ?_
  have q3:=q _ s3
  rw[if_pos e] at q3
  exact q3
 refine Dd (fun z=>e (by injection z)) ?_
 refine⟨_,rfl,_,rfl,_,rfl,_,rfl,Bj seen row,gg,r,going,row,rfl,s3.seq hG,wG,s3.seq hS,by omega,fun l H4 s4 hl0 hl4=>?_⟩
 have s14:=s3.trans s4
 have hll:(Eo (Bj seen row) going row).length≤900:=by
  have:=Ss (Bj seen row) going row
  omega
 refine⟨sd,l,_,xs,sides,rfl,SqL.of hl4,hll,s14 _ _ hX,hR.keep s14,fun s hs=>Nat.lt_of_le_of_lt (wX s hs).len (by decide),by omega,fun H5 s5=>?_⟩
 have q5:=q _ (s14.trans s5)
 rw[if_neg e] at q5
 exact q5
theorem QM:Al ["sides","going","seen","worlds"] ["sides","going","seen","worlds"] (Ad DW):=Bn
theorem N5 {g1 g2 g3 g5:Addr} {d1 d2 d3 d5:FuncData} (F:Fun K "answer" "answer" DW f fd) (GA:FnOk P w K mg bz AU 2 g1 d1 ["one","other"] (IT K)) (CA:AW K mg "all_within" g1 d1 ["one","other"])
  (GS:FnOk P w K mg bz AU 2 g2 d2 ["one","other"] (FR K)) (CS:AW K mg "some_within" g2 d2 ["one","other"])
  (GP:FnOk P w K mg bz AU 3 g3 d3 ["seen","worlds"] (EI K)) (CP:AW K mg "plain" g3 d3 ["seen","worlds"])
  (GT:FnOk P w K mg bz AU 4 g5 d5 ["sides","going","seen","worlds"] (HJ K)) (CT:AW K mg "barring_side" g5 d5 ["sides","going","seen","worlds"]):FnOk P w K mg bz AU 5 f fd ["sides","going","seen","worlds"] (Ir K):=by
 refine F.ok QM (fun vs H Q E h=>?_) (fun cdv A outer s H vs Q E hr h=>?_)
 ·obtain⟨sd,g,s,r,xs,sides,going,seen,row,rfl,_⟩:=h
  rfl
 obtain⟨sd,gg,sn,r,xs,sides,going,seen,row,rfl,hX,hR,wX,hxl,hG,wG,hN,wN,nne,hS,wS,q⟩:=h
 have hr2:Room 2 _:=hr.mono (by decide)
 have hr3:Room 3 _:=hr.mono (by decide)
 have l1:=wG.len
 have l2:=wN.len
 have l3:=wS.len
 refine⟨_,Ae (AC (Bu (An GA hr2 (by rfl) CA.m CA.k CA.b .nil Ay (Ab (pv 1) (Ab (pv 3) Ac))))
   (Af (Am Ah))
   Aw)
  (Ae (AC (Ca (Bu (An GS hr2 (by rfl) CS.m CS.k CS.b .nil Ay (Ab (pv 1) (Ab (pv 3) Ac)))))
   (Af (Am Ah))
   Aw)
  (Ae (AC (TZ (Ls (An GT hr (by rfl) CT.m CT.k CT.b .nil Ay (Ab (pv 0) (Ab (pv 1) (Ab (pv 2) (Ab (pv 3) Ac)))))))
   (Af (Am (An GP hr3 (by rfl) CP.m CP.k CP.b .nil Ay (Ab (pv 2) (Ab (pv 3) Ac)))))
   Aw)
  (Af (Am Ah)))),?_⟩
 refine⟨_,rfl,_,rfl,gg,r,going,row,rfl,hG,hS,l1,wG.2,by omega,fun H1 s1=>⟨_,rfl,?_⟩⟩
 cases h0:going.all fun k=>decide (k∈row) with
 | true=>
  refine Bo ?_
  have:=q _ s1
  unfold Di at this
  rw[if_pos ((Ke _ _).mpr h0)] at this
  exact this
 | false=>
  refine Bd ?_
  have n0:¬Fs going row=[]:=fun z=>by rw[(Ke _ _).mp z] at h0;cases h0
  refine⟨_,rfl,_,rfl,gg,r,going,row,rfl,s1.seq hG,s1.seq hS,by omega,by omega,fun H2 s2=>⟨_,rfl,?_⟩⟩
  have s12:=s1.trans s2
  cases h1:going.any fun k=>decide (k∈row) with
  | false=>
   refine Bo ?_
   have:=q _ s12
   unfold Di at this
   rw[if_neg n0,if_pos ((Mi _ _).mpr h1)] at this
   exact this
  | true=>
   refine Bd ?_
   have n1:¬N8 going row=[]:=fun z=>by rw[(Mi _ _).mp z] at h1;cases h1
   refine⟨_,rfl,_,rfl,_,rfl,_,rfl,sd,gg,sn,r,xs,sides,going,seen,row,rfl,s12 _ _ hX,hR.keep s12,wX,hxl,s12.seq hG,wG,s12.seq hN,wN,nne,s12.seq hS,wS,fun H3 s3=>⟨_,rfl,?_⟩⟩
   have s13:=s12.trans s3
   cases hb:Pd sides going seen row with
   | none=>
    refine DC rfl ?_
    refine⟨_,rfl,_,rfl,sn,r,seen,row,rfl,s13.seq hN,wN,nne,s13.seq hS,wS,fun H4 s4=>?_⟩
    have q5:=q _ (s13.trans s4)
    rw[Hf n0 n1,hb] at q5
    exact q5
   | some i=>
    refine Dd (fun z=>V.noConfusion z) ?_
    have q5:=q _ s13
    rw[Hf n0 n1,hb] at q5
    exact q5
end
def Rz:Option Bool→V
 | none=>.non
 | some b=>.bl b
def SO (w:Int) (i:Nat):Option Bool→Bool
 | none=>true
 | some b=>decide (b=ER i w)
def M0 (marks:List (Option Bool)) (w:Int):Bool:=(marks.mapIdx (SO w)).all id
theorem Qs {marks:List (Option Bool)} {i:Nat} {m:Option Bool} (w:Int) (h:marks[i]? = some m):(marks.take (i+1)).mapIdx (SO w)=(marks.take i).mapIdx (SO w)++[SO w i m]:=by
 have hi:=(List.getElem?_eq_some_iff.mp h).1
 have e:marks.take (i+1)=marks.take i++[m]:=by rw[List.take_add_one,h];rfl
 rw[e,List.mapIdx_concat,List.length_take,Nat.min_eq_left (by omega)]
abbrev D3:Stmt:=Bm 45
abbrev DN:Stmt:=Bm 46
def JN:Sp:=fun vs H Q _=>∃(wd:Int) (m:Addr) (marks:List (Option Bool)),vs=[.int wd,.ref m]∧H m=some (.lst (marks.map Rz))∧marks.length≤5∧∀(H':Hp),Same H H'→Q (.bl (M0 marks wd)) H'
def JR (K:PySem.W.Frag):Sp:=fun vs H Q _=>∃(r m:Addr) (row:List Int) (marks:List (Option Bool)),vs=[.ref r,.ref m]∧SqL K H r (row.map V.int)∧row.length≤900∧H m=some (.lst (marks.map Rz))∧marks.length≤5∧
 ∀(l:Addr) (H':Hp),Same H H'→H l=none→AV H' l (row.filter (M0 marks))→Q (.ref l) H'
theorem VA {tb:L2.TS} {D:Ends} {σ:L2.St} {H:Hp} (h:tb D σ H):Em MW tb D σ H:=by
 show if true=true then tb D σ H else D.nx σ H
 rw[if_pos rfl]
 exact h
section
theorem Q2:Al ["world","marks"] ["world","marks"] (Ad D3):=Bn
theorem OC {g:Addr} {gd:FuncData} (F:Fun K "agrees" "agrees" D3 f fd) (T:Ht mg) (HE:mg "enumerate"=none) (GH:FnOk P w K mg bz AU 1 g gd ["letter","world"] IM) (CH:AW K mg "letter_holds" g gd ["letter","world"]):FnOk P w K mg bz AU 2 f fd ["world","marks"] JN:=by
 refine F.ok Q2 (fun vs H Q E h=>?_) (fun cdv A outer s H vs Q E hr h=>?_)
 ·obtain⟨wd,m,marks,rfl,_⟩:=h
  rfl
 obtain⟨wd,m,marks,rfl,hm,hl,q⟩:=h
 refine⟨_,Af (Am (AG (Ie rfl) (by rfl) T.all boot_all (Ab (Dz (N:=["letter","mark","world"]) (js:=[none,none,some 0]) (cl:=[("world",s.heap.objs.size+1)]) ⟨rfl,rfl,rfl,(by intro p hp;simp at hp;rcases hp with rfl<;>rfl),rfl,rfl,rfl⟩ (JK (by rfl) HE (Ab (pv 1) Ac)) (fun c1=>(Qq rfl (EG (AN (i:=0) (show (["letter","mark","world"]:List Str).Nodup by decide +kernel) rfl (Or.inl rfl)) (EG (AN (i:=1) (show (["letter","mark","world"]:List Str).Nodup by decide +kernel) rfl (Or.inl rfl)) MS)))) (fun c1=>D2) (fun c1=>(Q7 (OM (Ls (pv 1))) (Hc (Dp AX (pv 1) (An GH hr (by rfl) CH.m CH.k CH.b .nil Ay (Ab (pv 0) (Ab (pv 2) Ac))) (AB _)))))) Ac))),?_⟩
 refine⟨_,rfl,m,_,rfl,hm,fun cc acc hacc=>HQ (a:=m) (xs:=marks.map Rz) (fun i σ H3=>∃(v0 v1:Option V),σ=[v0,v1,some (.int wd)]∧Same H H3∧H3 acc=some (.lst (((marks.take i).mapIdx (SO wd)).map V.bl))) ?_ ?_ ?_ ?_⟩
 ·exact⟨_,_,rfl,Ag hacc _,upd_same⟩
 ·rintro i σ H3 _ ⟨v0,v1,rfl,s3,h3⟩
  exact s3 _ _ hm
 ·rintro i y T2 σ H3 hy hT2 ⟨v0,v1,rfl,s3,h3⟩
  rw[List.getElem?_map] at hy
  obtain⟨mk,hk,rfl⟩:=Option.map_eq_some_iff.mp hy
  have hi:=(List.getElem?_eq_some_iff.mp hk).1
  have sT:=Ag hT2 (.tup [.int (i:Nat),Rz mk])
  have h4:=sT _ _ h3
  have s4:=s3.trans sT
  refine⟨T2,_,rfl,SqT.of upd_same,rfl,_,_,rfl,_,_,rfl,rfl,?_⟩
  show Em MW (Ds acc _) _ _ _
  refine VA ?_
  have fin:∀H5,Same (upd H3 T2 (.tup [.int (i:Nat),Rz mk])) H5→∃xs,H5 acc=some (.lst xs)∧xs.length<sizeLine∧(fun σ H3=>∃(v0 v1:Option V),σ=[v0,v1,some (.int wd)]∧Same H H3∧H3 acc=some (.lst (((marks.take (i+1)).mapIdx (SO wd)).map V.bl))) [some (.int (i:Nat)),some (Rz mk),some (.int wd)] (upd H5 acc (.lst (xs++[.bl (SO wd i mk)]))):=fun H5 s5=>by
   refine⟨_,s5 _ _ h4,AO ?_,_,_,rfl,AH (s4.trans s5) hacc _,?_⟩
   ·rw[List.length_map,List.length_mapIdx,List.length_take];omega
   ·rw[upd_same,Qs wd hk,List.map_append];rfl
  cases mk with
  | none=>
   refine⟨_,rfl,_,rfl,Bo ?_⟩
   exact fin _ (Same.refl _)
  | some b=>
   refine⟨_,rfl,_,rfl,Bd ?_⟩
   refine⟨_,rfl,_,rfl,_,rfl,i,wd,rfl,rfl,?_⟩
   have e:decide (Rz (some b)=V.bl (ER i wd))=SO wd i (some b):=S7 b (ER i wd)
   rw[e]
   exact fin _ (Same.refl _)
 ·rintro σ H3 ⟨v0,v1,rfl,s3,h3⟩
  rw[List.length_map,List.take_length] at h3
  exact⟨acc,_,rfl,SqL.of h3,q _ s3⟩
theorem Qn:Al ["room","marks"] ["room","marks"] (Ad DN):=Bn
theorem Nc {g:Addr} {gd:FuncData} (F:Fun K "seen_by" "seen_by" DN f fd) (GA:FnOk P w K mg bz AU 2 g gd ["world","marks"] JN) (CA:AW K mg "agrees" g gd ["world","marks"]):FnOk P w K mg bz AU 3 f fd ["room","marks"] (JR K):=by
 refine F.ok Qn (fun vs H Q E h=>?_) (fun cdv A outer s H vs Q E hr h=>?_)
 ·obtain⟨r,m,row,marks,rfl,_⟩:=h
  rfl
 obtain⟨r,m,row,marks,rfl,hS,hl,hm,hml,q⟩:=h
 refine⟨_,Af (Am (Dz (N:=["world","marks"]) (js:=[none,some 1]) (cl:=[("marks",s.heap.objs.size+1)]) ⟨rfl,rfl,rfl,(by intro p hp;simp at hp;rcases hp with rfl<;>rfl),rfl,rfl,rfl⟩ (Be (pv 0)) (fun c1=>(AN (i:=0) (show (["world","marks"]:List Str).Nodup by decide +kernel) rfl (Or.inl rfl))) (fun c1=>(Gd (Bu (An GA hr (by rfl) CA.m CA.k CA.b .nil Ay (Ab (pv 0) (Ab (pv 1) Ac)))))) (fun c1=>(pv 0)))),?_⟩
 refine⟨_,rfl,r,rfl,⟨_,hS⟩,fun cc acc hacc=>FL (p:=M0 marks) (rest:=[some (.ref m)]) hS hacc hl (fun k hk H2 s2 R hR=>?_) (fun v0 H2 s2 h2=>q acc H2 s2 hacc h2) none⟩
 exact⟨_,rfl,_,rfl,k,m,marks,rfl,s2 _ _ hm,hml,fun H3 s3=>⟨_,rfl,hR H3 s3⟩⟩
end
abbrev D6:Stmt:=Bm 41
section
theorem QC:Al ["sides"] ["sides"] (Ad D6):=Bn
theorem Om {g:Addr} {gd:FuncData} (F:Fun K "base_of" "base_of" D6 f fd) (GA:FnOk P w K mg bz AU 1 g gd ["rows"] (LW K)) (CA:AW K mg "in_any" g gd ["rows"]):FnOk P w K mg bz AU 2 f fd ["sides"] (LW K):=by
 refine F.ok QC (fun vs H Q E h=>?_) (fun cdv A outer s H vs Q E hr h=>?_)
 ·obtain⟨a,xs,rs,rfl,_⟩:=h
  rfl
 obtain⟨a,xs,rs,rfl,hS,hR,h64,q⟩:=h
 refine⟨_,Af (Am (An GA hr (by rfl) CA.m CA.k CA.b .nil Ay (Ab (pv 0) Ac))),?_⟩
 exact⟨_,rfl,a,xs,rs,rfl,hS,hR,h64,q⟩
end
theorem K5 {z:Str} {t:Tr} {row:List Int}:Ez (AR z t row)≤row.length:=by
 have h:=Pw t row
 unfold AR Ez
 split
 ·simp only[List.map_cons,List.map_nil,List.sum_cons,List.sum_nil];omega
 ·split
  ·simp only[List.map_cons,List.map_nil,List.sum_cons,List.sum_nil];omega
  ·simp only[List.map_cons,List.map_nil,List.sum_cons,List.sum_nil];omega
theorem O8 {room ns:List Int} {sides:List (List Int)} (hr:Wr room) (hs:∀s∈sides,s.Sublist room) (hp:ns.Pairwise (· < ·)) (hm:∀k,k∈ns↔∃row∈sides,k∈row):ns=Mc room sides:=
 FZ hp (hr.1.sublist List.filter_sublist) fun k=>by
  rw[hm k]
  unfold Mc
  rw[List.mem_filter,List.any_eq_true]
  constructor
  ·rintro⟨r,h1,h2⟩
   exact⟨(hs r h1).subset h2,r,h1,decide_eq_true h2⟩
  ·rintro⟨_,r,h1,h2⟩
   exact⟨r,h1,of_decide_eq_true h2⟩
structure Cb (K:PySem.W.Frag) (mg:Str→Option Value) (nm:Str) (C cT:Addr):Prop where
 at_:XAt K C cT
 cls:UJ K C cT none
 m:mg nm=some (.ref C)
 ty:typeIn K (.ref C)=some (.type "type")
 ic:(clsIn K C).isSome=true
 bs:mroIn K C (.type "BaseException")=some true
 slf:mroIn K C (.ref C)=some true
 up:mroIn K C (.ref cT)=some true
 kv:kitOne K (.ref C) (.type "ValueError")=some true
structure Vj (K:PySem.W.Frag) (mg:Str→Option Value) (cT:Addr):Prop where
 m:mg "TalkError"=some (.ref cT)
 ty:typeIn K (.ref cT)=some (.type "type")
 ic:(clsIn K cT).isSome=true
 bs:mroIn K cT (.type "BaseException")=some true
 mV:mg "ValueError"=none
 isi:mg "isinstance"=none
structure OG (K:PySem.W.Frag) (C D:Addr):Prop where
 mro:mroIn K C (.ref D)=some false
 kit:kitOne K (.ref C) (.ref D)=some false
theorem BQ {K:PySem.W.Frag} {C cT N NT:Addr} {nm q nm2 q2:Str} {bs bs2:List Value} {hd2:Bool} {sn sn2:List Str} {sub sub2:List Value} {ab ab2:Bool} {col col2:Option Bool} {dd dd2:Option Addr} {k0 k1 k2 k3 k5:Option Value} {j0 j1 j2 j3 j4 j5:Option Value}
  {oc oc2:Value} {od od2:Option Addr} {es es2:Array DictEntry} {ep ep2:Nat} {sl sl2:Array (Option Value)}
  (lC:K.lookup C=some (excClassObj nm q C N bs (.ref cT::Eu) true sn sub ab col dd k0 k1 k2 k3 k5 "ValueError.__new__")) (lN:K.lookup N=some ⟨oc,od,.dict es ep,sl⟩) (sN:(es.all fun e=>match e.key with | .str _ _=>true | _=>false)=true)
  (iN:nsIn K N "__init__"=some none) (lT:K.lookup cT=some ⟨.type "type",dd2,.cls { name:=nm2,bases:=bs2,mro:=.ref cT::Eu,ns:=NT,qualname:=q2,hasDict:=hd2,slotNames:=sn2,subclasses:=sub2,abstract:=ab2,collection:=col2,hasDel:=false },#[j0,j1,j2,j3,j4,j5]⟩)
  (lNT:K.lookup NT=some ⟨oc2,od2,.dict es2 ep2,sl2⟩) (sNT:(es2.all fun e=>match e.key with | .str _ _=>true | _=>false)=true) (iNT:nsIn K NT "__init__"=some none) (kp:keepIn K (.ref C)=true):UJ K C cT none:=
 ⟨⟨nm,q,N,bs,true,sn,sub,ab,col,dd,k0,k1,k2,k3,k5,lC,Mu lN sN,iN⟩,Pl lT (Mu lNT sNT) iNT,kp⟩
theorem Fun.okX {P:Program} {w:World} {K:PySem.W.Frag} {mg:Str→Option Value} {bz:Heap} {f:Addr} {fd:FuncData} {x qual:Str} {st:Stmt} {N ps:List Str} {k:Nat} {sp:Sp} (F:Fun K x qual st f fd) (S:Al N ps (Ad st)) (len:∀vs H Q E,sp vs H Q E→vs.length=ps.length)
  (hbody:∀(cdv:Value) (A:Around) (outer:List Env) (s:Shared) (H:Hp) (vs:List V) (Q:VK) (E:XK),Room k (A.deeper (envOfC qual (Ad st) s.heap.objs.size f cdv))→sp vs H Q E→
   ∃t,PSs (Jj (A4 P w) P w K mg bz N qual (Ad st) f cdv A outer s H E) (Aj st) t∧t { nx:=fun _ H'=>Q .non H',rt:=Q } (EN N vs) H):FnOk P w K mg bz (A4 P w) (k+1) f fd ps sp:=by
 obtain⟨oc,od,kV,doc,pm,an,cdv,ct,osl,rfl,lk,hcd⟩:=F.ex
 exact S8 lk hcd S len fun A outer s H vs Q E hr hsp=>hbody cdv A outer s H vs Q E hr hsp
abbrev CV:Stmt:=Bm 40
def Bz (z:Str):Prop:=z="true"∨z="false"∨z="doubt"
instance (z:Str):Decidable (Bz z):=by unfold Bz;infer_instance
abbrev RowsNew (H H':Hp):List V→List (List Int)→Prop:=Paired fun (v:V) (row:List Int)=>∃p,v= .ref p∧H p=none∧AV H' p row
theorem RowsNew.at {H H':Hp}:∀{xs:List V} {rs:List (List Int)},RowsNew H H' xs rs→RowsAt H' xs rs
 | _,_,.nil=>.nil
 | _,_,.cons ⟨p,e,_,h⟩ q=>.cons ⟨p,e,h⟩ (RowsNew.at q)
theorem RowsNew.keep {H H' H2:Hp} (s:Same H' H2):∀{xs:List V} {rs:List (List Int)},RowsNew H H' xs rs→RowsNew H H2 xs rs
 | _,_,.nil=>.nil
 | _,_,.cons ⟨p,e,n,h⟩ q=>.cons ⟨p,e,n,s _ _ h⟩ (RowsNew.keep s q)
def Ib (K:PySem.W.Frag) (cB cN:Addr):Sp:=fun vs H Q E=>∃(r:Addr) (z:Str) (v:V) (t:Tr) (row:List Int),vs=[.ref r,.str z,v]∧t.At H v∧t.ok 5∧t.size≤800∧SqL K H r (row.map V.int)∧Wr row∧
 (¬Bz z→∀H',Same H H'→E (.ref cB) none H')∧(Bz z→[]∈AR z t row→∀H',Same H H'→E (.ref cN) none H')∧
 (Bz z→[]∉AR z t row→∀(l:Addr) (xs:List V) (H':Hp),Same H H'→H l=none→H' l=some (.lst xs)→RowsNew H H' xs (AR z t row)→(∀x∈xs,x≠.ref l)→Q (.ref l) H')
def Gp:List V:=[.str "true",.str "false",.str "doubt"]
theorem Op (z:Str):OE (.str z) Gp=decide (Bz z):=by
 unfold OE Gp Bz
 simp only[List.any_cons,List.any_nil,Bool.or_false]
 have e:∀y:Str,Rb (.str y) (.str z)=decide (z=y):=fun y=>by
  show (y == z)=decide (z=y)
  by_cases h:z=y
  ·subst h;simp
  ·rw[decide_eq_false h]
   exact beq_false_of_ne fun q=>h q.symm
 rw[e,e,e,Bool.eq_iff_iff]
 simp only[Bool.or_eq_true,decide_eq_true_eq]
 exact decide_eq_true_iff.symm
theorem RC {t:Tr} {row ns:List Int} (hr:Wr row) (hp:ns.Pairwise (· < ·)) (hm:∀k,k∈ns↔k∈row∧k∉row.filter fun k=>tv t k == true):ns=BD false t row:=
 FZ hp (hr.1.sublist List.filter_sublist) fun k=>by
  rw[hm k]
  unfold BD
  rw[List.mem_filter,List.mem_filter]
  constructor
  ·rintro⟨h1,h2⟩
   refine⟨h1,?_⟩
   cases h:tv t k with
   | false=>rfl
   | true=>exact absurd ⟨h1,by rw[h];rfl⟩ h2
  ·rintro⟨h1,h2⟩
   refine⟨h1,fun h3=>?_⟩
   have e1:=h3.2
   have e2:tv t k=false:=eq_of_beq h2
   rw[e2] at e1
   cases e1
theorem KS {r:List Int}:(r.map V.int).isEmpty=r.isEmpty:=by cases r<;>rfl
theorem M3 (rs:List (List Int)):(rs.map List.isEmpty).any id=decide ([]∈rs):=by
 induction rs with
 | nil=>rfl
 | cons r rs ih=>
  rw[List.map_cons,List.any_cons,ih]
  cases r with
  | nil=>simp
  | cons a b=>simp
theorem QW {K:PySem.W.Frag} {H:Hp} {xs:List V} {rs:List (List Int)} (h:RowsAt H xs rs):∀(i:Nat) v b,xs[i]? = some v→(rs.map List.isEmpty)[i]? = some b→∃a zs,v= .ref a∧SqL K H a zs∧b=zs.isEmpty:=fun i v b hv hb=>by
 obtain⟨row,p,hr,rfl,hp⟩:=h.get hv
 rw[List.getElem?_map,hr] at hb
 refine⟨p,_,rfl,SqL.of hp,?_⟩
 rw[KS]
 exact (Option.some.inj hb).symm
section
variable {cB cN cT:Addr}
theorem scSidesOf:Al ["room","kind","sentence","inside","outside","sides"] ["room","kind","sentence"] (Ad CV):=Bn
theorem KW {g g2:Addr} {gd gd2:FuncData} (F:Fun K "sides_of" "sides_of" CV f fd) (XB:Cb K mg "BadWord" cB cT) (XN:Cb K mg "NoStanding" cN cT)
  (GW:FnOk P w K mg bz AU 3 g gd ["sentence","room"] (BV K)) (CW:AW K mg "worlds_of" g gd ["sentence","room"])
  (GF:FnOk P w K mg bz AU 1 g2 gd2 ["one","other"] (Gc K)) (CF:AW K mg "in_first_only" g2 gd2 ["one","other"]):FnOk P w K mg bz (A4 P w) 4 f fd ["room","kind","sentence"] (Ib K cB cN):=by
 refine Fun.okX F scSidesOf (fun vs H Q E h=>?_) (fun cdv A outer s H vs Q E hr h=>?_)
 ·obtain⟨r,z,v,t,row,rfl,_⟩:=h
  rfl
 obtain⟨r,z,v,t,row,rfl,ha,hok,hsz,hS,hwr,qB,qN,qO⟩:=h
 have hr1:Room 1 _:=hr.mono (by decide)
 have hl:=hwr.len
 refine⟨_,Ae (AC (Av EL (pv 1) (Bt (Ab Ah (Ab Ah (Ab Ah Ac)))) (by with_unfolding_all rfl))
   (Af (Bq (Ex:=E) BG rfl XB.cls XB.at_ XB.ty (by rfl) XB.m (Ab Ah Ac) (hvl:=fun _ _ _ h=>⟨by decide,h⟩)))
   Aw)
  (Ae (Ax (i:=3) scSidesOf.nd rfl (Or.inl rfl) (An GW hr (by rfl) CW.m CW.k CW.b .nil Ay (Ab (pv 2) (Ab (pv 0) Ac))))
  (Ae (Ax (i:=4) scSidesOf.nd rfl (Or.inl rfl) (An GF hr1 (by rfl) CF.m CF.k CF.b .nil Ay (Ab (pv 0) (Ab (pv 3) Ac))))
  (Ae (AC (Av AX (pv 1) Ah (AB _))
   (Af (Ax (i:=5) scSidesOf.nd rfl (Or.inl rfl) (AE (Ab (pv 3) Ac))))
   (Af (AC (Av AX (pv 1) Ah (AB _))
    (Af (Ax (i:=5) scSidesOf.nd rfl (Or.inl rfl) (AE (Ab (pv 4) Ac))))
    (Af (Ax (i:=5) scSidesOf.nd rfl (Or.inl rfl) (AE (Ab (pv 3) (Ab (pv 4) Ac))))))))
  (Ae (AC (Av (UE hr.units9) (AE Ac) (pv 5) (by with_unfolding_all rfl))
   (Af (Bq (Ex:=E) BG rfl XN.cls XN.at_ XN.ty (by rfl) XN.m (Ab Ah Ac) (hvl:=fun _ _ _ h=>⟨by decide,h⟩)))
   Aw)
  (Af (Am (pv 5))))))),?_⟩
 refine⟨_,rfl,SZ,fun kt hkt=>?_⟩
 have s1:=Ag hkt (.tup Gp)
 refine⟨kt,Gp,rfl,.inr (SqT.of upd_same),rfl,rfl,_,rfl,?_⟩
 show if (!OE (.str z) Gp)=true then _ else _
 rw[Op]
 by_cases hk:Bz z
 rotate_left
 ·refine Pi hk ?_
  exact qB hk _ s1
 refine Cy hk ?_
 have a1:=ha.keep (TS.same s1)
 refine⟨_,rfl,_,rfl,v,t,r,row,rfl,a1,hok,hsz,s1.seq hS,hwr,fun il H2 s2 hil0 hil=>?_⟩
 have t2:=s1.trans s2
 have hfl:(row.filter fun k=>tv t k == true).length≤32:=Nat.le_trans (List.length_filter_le _ _) hl
 refine⟨_,rfl,_,rfl,r,il,row,_,rfl,t2.seq hS,SqL.of hil,hl,hwr.2,by omega,fun ol H3 ns s3 hol0 hp hm hol=>?_⟩
 have en:=RC hwr hp hm
 subst en
 have t3:=t2.trans s3
 have hil3:AV H3 il (BD true t row):=s3 _ _ hil
 have nil0:H il=none:=s1.free hil0
 have nol0:H ol=none:=t2.free hol0
 have nio:il≠ol:=Ai hil hol0
 have fin:∀(sl:Addr) (xs:List V) (H4:Hp),Same H3 H4→H3 sl=none→H4 sl=some (.lst xs)→RowsNew H H4 xs (AR z t row)→(∀x∈xs,x≠.ref sl)→∀(e:Addr),H4 e=none→∀(G:Bool→Hp→Prop),(∀H',E (.ref cN) none H'→G true H')→(∀H',Q (.ref sl) H'→G false H')→
   UU K (.ref e) (.ref sl) (upd H4 e (.lst [])) (fun x H'=>∃k,x=V.bl k∧G k H'):=fun sl xs H4 s4 hsl0 hsl hR hne e he G g1 g2=>by
  have s5:=Ag he (.lst [])
  refine⟨e,sl,xs,(AR z t row).map List.isEmpty,rfl,rfl,SqL.of upd_same,SqL.of (s5 _ _ hsl),?_,QW (hR.at.keep s5),_,rfl,?_⟩
  ·rw[List.length_map];exact hR.at.len.symm
  ·rw[M3]
   by_cases hm0:[]∈AR z t row
   ·rw[decide_eq_true hm0]
    exact g1 _ (qN hk hm0 _ (t3.trans (s4.trans s5)))
   ·rw[decide_eq_false hm0]
    refine g2 _ ?_
    exact qO hk hm0 sl xs _ (t3.trans (s4.trans s5)) (t3.free hsl0) (s5 _ _ hsl) (hR.keep s5) hne
 refine⟨_,rfl,rfl,_,rfl,?_⟩
 by_cases h0:z="true"
 ·refine DC (by rw[h0]) ?_
  refine⟨_,rfl,SV,fun sl hsl=>?_⟩
  have s4:=Ag hsl (.lst [.ref il])
  refine⟨Of,fun e he=>?_⟩
  have eR:AR z t row=[BD true t row]:=by unfold AR;rw[if_pos h0]
  exact⟨_,rfl,fin sl [.ref il] _ s4 hsl upd_same (by rw[eR];exact .cons ⟨il,rfl,nil0,s4 _ _ hil3⟩ .nil) (fun x hx=>by rw[List.mem_singleton.mp hx];intro q;exact Ai hil3 hsl (V.ref.inj q)) e he _ (fun H' h=>Bo h) (fun H' h=>Bd ⟨_,rfl,h⟩)⟩
 refine Dd (fun q=>h0 (by injection q)) ?_
 refine⟨_,rfl,rfl,_,rfl,?_⟩
 by_cases h1:z="false"
 ·refine DC (by rw[h1]) ?_
  refine⟨_,rfl,SV,fun sl hsl=>?_⟩
  have s4:=Ag hsl (.lst [.ref ol])
  refine⟨Of,fun e he=>?_⟩
  have eR:AR z t row=[BD false t row]:=by unfold AR;rw[if_neg h0,if_pos h1]
  exact⟨_,rfl,fin sl [.ref ol] _ s4 hsl upd_same (by rw[eR];exact .cons ⟨ol,rfl,nol0,s4 _ _ hol⟩ .nil) (fun x hx=>by rw[List.mem_singleton.mp hx];intro q;exact Ai hol hsl (V.ref.inj q)) e he _ (fun H' h=>Bo h) (fun H' h=>Bd ⟨_,rfl,h⟩)⟩
 refine Dd (fun q=>h1 (by injection q)) ?_
 refine⟨_,rfl,_,rfl,FV,fun sl hsl=>?_⟩
 have s4:=Ag hsl (.lst [.ref il,.ref ol])
 refine⟨Of,fun e he=>?_⟩
 have eR:AR z t row=[BD true t row,BD false t row]:=by unfold AR;rw[if_neg h0,if_neg h1]
 refine⟨_,rfl,fin sl [.ref il,.ref ol] _ s4 hsl upd_same (by rw[eR];exact .cons ⟨il,rfl,nil0,s4 _ _ hil3⟩ (.cons ⟨ol,rfl,nol0,s4 _ _ hol⟩ .nil)) (fun x hx=>by
  rcases List.mem_cons.mp hx with q | q
  ·rw[q];intro q;exact Ai hil3 hsl (V.ref.inj q)
  ·rw[List.mem_singleton.mp q];intro q;exact Ai hol hsl (V.ref.inj q)) e he _ (fun H' h=>Bo h) (fun H' h=>Bd ⟨_,rfl,h⟩)⟩
end
abbrev CU:Stmt:=Bm 23
def Cl:Tr→List Int
 | .lt k=>[(k:Int)]
 | .nt t=>Cl t
 | .bn _ a b=>Cl a++Cl b
def Cg (ts:List Tr):List Int:=ts.flatMap Cl
def RP:Tr→List Int
 | .lt k=>[(k:Int)]
 | _=>[]
def Hb (ts:List Tr):List Int:=ts.flatMap RP
theorem QK:∀t:Tr,Cl t=RP t++Cg (KK t)
 | .lt _=>rfl
 | .nt t=>by show Cl t=[]++(Cl t++[]);simp
 | .bn _ a b=>by show Cl a++Cl b=[]++(Cl a++(Cl b++[]));simp
theorem ND (a b:List Tr):Cg (a++b)=Cg a++Cg b:=by unfold Cg;rw[List.flatMap_append]
theorem M4 (ts:List Tr) (k:Int):k∈Cg ts↔k∈Hb ts∨k∈Cg (BP ts):=by
 induction ts with
 | nil=>simp[Cg,Hb,BP]
 | cons t r ih=>
  have e1:Cg (t::r)=Cl t++Cg r:=rfl
  have e2:Hb (t::r)=RP t++Hb r:=rfl
  have e3:BP (t::r)=KK t++BP r:=rfl
  rw[e1,e2,e3,ND,QK]
  simp only[List.mem_append,ih]
  constructor
  ·rintro ((h | h) | (h | h))
   ·exact .inl (.inl h)
   ·exact .inr (.inl h)
   ·exact .inl (.inr h)
   ·exact .inr (.inr h)
  ·rintro ((h | h) | (h | h))
   ·exact .inl (.inl h)
   ·exact .inr (.inl h)
   ·exact .inl (.inr h)
   ·exact .inr (.inr h)
theorem Fg {ts:List Tr} {i:Nat} {t:Tr} (h:ts[i]? = some t):Hb (ts.take (i+1))=Hb (ts.take i)++RP t:=by
 unfold Hb
 rw[List.take_add_one,h,List.flatMap_append]
 simp
theorem TS.ext {H:Hp} {l:Addr} {o u:HO} (h:H l=some o) (n:∀xs,o≠.tup xs):TS H (upd H l u):=fun p ys e=>by
 rw[Aq (A6 e h fun z=>n ys z.symm)]
 exact e
def HA:Sp:=fun vs H Q _=>∃(v:V) (t:Tr),vs=[v]∧t.At H v∧t.size≤60∧∀(l:Addr) (ns:List Int) (H':Hp),Same H H'→H l=none→H' l=some (.lst (ns.map V.int))→ns.Pairwise (· < ·)→(∀k,k∈ns↔k∈Cl t)→Q (.ref l) H'
section
theorem scLetters:Al ["sentence","found","layer","part"] ["sentence"] (Ad CU):=Bn
def WJ (w:World) (H:Hp) (v:V) (t:Tr) (fa:Addr) (m:Nat):L2.St→Hp→Prop:=fun σ H3=>∃(S:Int→Bool) (n:Nat) (r:Addr) (ys:List V) (ts:List Tr) (pp:Option V),σ=[some v,some (.ref fa),some (.ref r),pp]∧Same H H3∧H3 fa=some (Bk w fa S n)∧H3 r=some (.lst ys)∧Pile H3 ys ts∧n+sz ts≤60∧(∀k,k∈Cl t↔S k=true∨k∈Cg ts)∧sz ts=m
theorem LN {g:Addr} {gd:FuncData} (F:Fun K "letters" "letters" CU f fd) (T:Ht mg) (GP:FnOk P w K mg bz AU 1 g gd ["layer"] (IR K)) (CP:AW K mg "parts_of" g gd ["layer"]):FnOk P w K mg bz AU 2 f fd ["sentence"] HA:=by
 refine F.ok scLetters (fun vs H Q E h=>?_) (fun cdv A outer s H vs Q E hr h=>?_)
 ·obtain⟨v,t,rfl,_⟩:=h
  rfl
 obtain⟨v,t,rfl,ha,hs,q⟩:=h
 refine⟨_,Ae (Ax (i:=1) scLetters.nd rfl (Or.inl rfl) (Lg OA (by rfl) T.set boot_set))
  (Ae (Ax (i:=2) scLetters.nd rfl (Or.inl rfl) (AE (Ab (pv 0) Ac)))
  (Ae (DJ PassesOwn.never (Cp (pv 2) (fun _=>rfl))
   (Ae (Bv PassesOwn.never rfl (Be (pv 2)) (AN (i:=3) scLetters.nd rfl (Or.inl rfl))
    (Af (AC (Av AX (AL BH (pv 3) Ao (fun _ _=>rfl)) Ah (AB _))
     (Af (AA (RB (pv 1) (Ab (AL BH (pv 3) Ao (fun _ _=>rfl)) Ac))))
     Aw)))
   (Af (Ax (i:=2) scLetters.nd rfl (Or.inl rfl) (An GP hr (by rfl) CP.m CP.k CP.b .nil Ay (Ab (pv 2) Ac))))))
  (Af (Am (AG (Do rfl) (by rfl) T.sorted boot_sorted (Ab (pv 1) Ac)))))),?_⟩
 refine⟨rfl,fun fa hfa=>?_⟩
 have s1:=Ag hfa (Bk w fa (fun _=>false) 0)
 refine⟨_,rfl,SV,fun l hl=>?_⟩
 have s2:=Ag hl (.lst [v])
 have e1:sz [t]=t.size:=by unfold sz;simp
 refine⟨WJ w H v t fa,⟨_,fun _=>false,0,l,[v],[t],none,rfl,s1.trans s2,s2 _ _ upd_same,upd_same,.cons (ha.keep ((TS.same s1).trans (TS.same s2))) .nil,by omega,fun k=>?_,rfl⟩,?_⟩
 ·have:Cg [t]=Cl t:=by unfold Cg;simp
  rw[this]
  simp
 rintro m σ H3 ⟨S,n,r,ys,ts,pp,rfl,s3,hf3,hr3,p3,hn3,hm3,rfl⟩
 refine⟨_,rfl,_,.inl ⟨ys,SqL.of hr3,rfl⟩,?_⟩
 refine Du (fun c=>?_) (fun c=>?_)
 ·refine⟨fun σ' H'=>∃m',m'<sz ts∧WJ w H v t fa m' σ' H',fun _ _ h=>h,?_⟩
  have hlen:=p3.len
  have hpos:0<ts.length:=by
   rw[←hlen]
   cases ys with
   | nil=>exact absurd c (by decide)
   | cons _ _=>exact Nat.succ_pos _
  refine⟨_,rfl,r,rfl,⟨_,SqL.of hr3⟩,A7 (K:=K) (a:=r) (xs:=ys) (fun i σ H4=>∃(S2:Int→Bool) (n2:Nat) (pp:Option V),σ=[some v,some (.ref fa),some (.ref r),pp]∧Same H H4∧H4 fa=some (Bk w fa S2 n2)∧H4 r=some (.lst ys)∧Pile H4 ys ts∧n2≤n+i∧∀k,S2 k=true↔S k=true∨k∈Hb (ts.take i)) ?_ ?_ ?_ ?_⟩
  ·exact⟨S,n,pp,rfl,s3,hf3,hr3,p3,Nat.le_refl _,fun k=>by simp[Hb]⟩
  ·rintro i σ H4 _ ⟨S2,n2,pp,rfl,s4,_,hr4,_⟩
   exact SqL.of hr4
  ·rintro i x σ H4 hx ⟨S2,n2,pp,rfl,s4,hf4,hr4,p4,hn4,hm4⟩
   obtain⟨t2,ht2,hat⟩:=BU p4 hx
   have hi:i<ys.length:=(List.getElem?_eq_some_iff.mp hx).1
   have hsz:=Jk ts
   cases t2 with
   | lt j=>
    obtain⟨p,rfl,hp⟩:=hat
    refine⟨_,rfl,p,_,_,_,rfl,rfl,SqT.of hp,As (j:=0) rfl,rfl,_,rfl,?_⟩
    refine DC rfl ?_
    refine⟨_,rfl,fa,S2,n2,rfl,hf4,_,rfl,p,_,_,_,rfl,rfl,SqT.of hp,As (j:=1) rfl,_,S2,n2,rfl,hf4,by omega,?_⟩
    have kk:TS H4 (upd H4 fa (Bk w fa (fun k=>S2 k || decide (k=(j:Int))) (n2+1))):=TS.ext hf4 (fun xs z=>by cases z)
    refine⟨_,n2+1,_,rfl,AH s4 hfa _,upd_same,by rw[Aq (A6 hr4 hf4 (by intro z;cases z))];exact hr4,p4.keep kk,by omega,fun k=>?_⟩
    rw[Bool.or_eq_true,decide_eq_true_eq,hm4 k,Fg ht2,List.mem_append]
    show (_∨_)∨k=(j:Int)↔_∨_∨k∈[(j:Int)]
    rw[List.mem_singleton,or_assoc]
   | nt t3=>
    obtain⟨p,u,rfl,hp,_⟩:=hat
    refine⟨_,rfl,p,_,_,_,rfl,rfl,SqT.of hp,As (j:=0) rfl,rfl,_,rfl,?_⟩
    refine Dd (by decide) ?_
    refine⟨S2,n2,_,rfl,s4,hf4,hr4,p4,by omega,fun k=>?_⟩
    rw[hm4 k,Fg ht2]
    show _↔_∨k∈Hb (ts.take i)++[]
    rw[List.append_nil]
   | bn j a b=>
    obtain⟨p,u,u2,rfl,hp,_⟩:=hat
    refine⟨_,rfl,p,_,_,_,rfl,rfl,SqT.of hp,As (j:=0) rfl,rfl,_,rfl,?_⟩
    refine Dd Ji ?_
    refine⟨S2,n2,_,rfl,s4,hf4,hr4,p4,by omega,fun k=>?_⟩
    rw[hm4 k,Fg ht2]
    show _↔_∨k∈Hb (ts.take i)++[]
    rw[List.append_nil]
  ·rintro σ H4 ⟨S2,n2,pp,rfl,s4,hf4,hr4,p4,hn4,hm4⟩
   rw[hlen,List.take_length] at hm4
   have hk:=Mr ts
   refine⟨_,rfl,r,ys,ts,rfl,SqL.of hr4,p4,by omega,fun r2 zs H5 s5 hr5 p5=>?_⟩
   refine⟨sz (BP ts),by omega,S2,n2,r2,zs,BP ts,_,rfl,s4.trans s5,s5 _ _ hf4,hr5,p5,by omega,fun k=>?_,rfl⟩
   rw[hm3 k,M4,hm4 k,or_assoc]
 ·have e:ts=[]:=by
   cases p3 with
   | nil=>rfl
   | cons h1 h2=>exact absurd rfl c
  subst e
  refine⟨_,rfl,fa,S,n,rfl,hf3,by omega,fun l2 ns hl2 hp hm=>?_⟩
  refine q l2 ns _ (s3.trans (Ag hl2 _)) (s3.free hl2) upd_same hp fun k=>?_
  rw[hm k,hm3 k]
  simp[Cg]
end
theorem A9 {us:List Value} (h:us.length=1):∃a0:Value,us=[a0]:=by
 cases us with
 | nil=>exact absurd h (by simp)
 | cons a0 us=>
  have h:us.length=0:=Nat.succ.inj h
  cases us with
  | nil=>exact⟨a0,rfl⟩
  | cons _ _=>exact absurd h (by simp)
theorem AQ {us:List Value} (h:us.length=2):∃a0 a1:Value,us=[a0,a1]:=by
 cases us with
 | nil=>exact absurd h (by simp)
 | cons a0 us=>
  have h:us.length=1:=Nat.succ.inj h
  cases us with
  | nil=>exact absurd h (by simp)
  | cons a1 us=>
   have h:us.length=0:=Nat.succ.inj h
   cases us with
   | nil=>exact⟨a0,a1,rfl⟩
   | cons _ _=>exact absurd h (by simp)
theorem BE {us:List Value} (h:us.length=3):∃a0 a1 a2:Value,us=[a0,a1,a2]:=by
 cases us with
 | nil=>exact absurd h (by simp)
 | cons a0 us=>
  have h:us.length=2:=Nat.succ.inj h
  cases us with
  | nil=>exact absurd h (by simp)
  | cons a1 us=>
   have h:us.length=1:=Nat.succ.inj h
   cases us with
   | nil=>exact absurd h (by simp)
   | cons a2 us=>
    have h:us.length=0:=Nat.succ.inj h
    cases us with
    | nil=>exact⟨a0,a1,a2,rfl⟩
    | cons _ _=>exact absurd h (by simp)
theorem Hq {us:List Value} (h:us.length=4):∃a0 a1 a2 a3:Value,us=[a0,a1,a2,a3]:=by
 cases us with
 | nil=>exact absurd h (by simp)
 | cons a0 us=>
  have h:us.length=3:=Nat.succ.inj h
  cases us with
  | nil=>exact absurd h (by simp)
  | cons a1 us=>
   have h:us.length=2:=Nat.succ.inj h
   cases us with
   | nil=>exact absurd h (by simp)
   | cons a2 us=>
    have h:us.length=1:=Nat.succ.inj h
    cases us with
    | nil=>exact absurd h (by simp)
    | cons a3 us=>
     have h:us.length=0:=Nat.succ.inj h
     cases us with
     | nil=>exact⟨a0,a1,a2,a3,rfl⟩
     | cons _ _=>exact absurd h (by simp)
theorem OT {us:List Value} (h:us.length=5):∃a0 a1 a2 a3 a4:Value,us=[a0,a1,a2,a3,a4]:=by
 cases us with
 | nil=>exact absurd h (by simp)
 | cons a0 us=>
  have h:us.length=4:=Nat.succ.inj h
  cases us with
  | nil=>exact absurd h (by simp)
  | cons a1 us=>
   have h:us.length=3:=Nat.succ.inj h
   cases us with
   | nil=>exact absurd h (by simp)
   | cons a2 us=>
    have h:us.length=2:=Nat.succ.inj h
    cases us with
    | nil=>exact absurd h (by simp)
    | cons a3 us=>
     have h:us.length=1:=Nat.succ.inj h
     cases us with
     | nil=>exact absurd h (by simp)
     | cons a4 us=>
      have h:us.length=0:=Nat.succ.inj h
      cases us with
      | nil=>exact⟨a0,a1,a2,a3,a4,rfl⟩
      | cons _ _=>exact absurd h (by simp)
theorem UN {us:List Value} (h:us.length=6):∃a0 a1 a2 a3 a4 a5:Value,us=[a0,a1,a2,a3,a4,a5]:=by
 cases us with
 | nil=>exact absurd h (by simp)
 | cons a0 us=>
  have h:us.length=5:=Nat.succ.inj h
  cases us with
  | nil=>exact absurd h (by simp)
  | cons a1 us=>
   have h:us.length=4:=Nat.succ.inj h
   cases us with
   | nil=>exact absurd h (by simp)
   | cons a2 us=>
    have h:us.length=3:=Nat.succ.inj h
    cases us with
    | nil=>exact absurd h (by simp)
    | cons a3 us=>
     have h:us.length=2:=Nat.succ.inj h
     cases us with
     | nil=>exact absurd h (by simp)
     | cons a4 us=>
      have h:us.length=1:=Nat.succ.inj h
      cases us with
      | nil=>exact absurd h (by simp)
      | cons a5 us=>
       have h:us.length=0:=Nat.succ.inj h
       cases us with
       | nil=>exact⟨a0,a1,a2,a3,a4,a5,rfl⟩
       | cons _ _=>exact absurd h (by simp)
abbrev Df:Stmt:=Bm 34
theorem FS:∀{t:Tr} {m:Nat},t.ok 5→(t.ok m↔∀k∈Cl t,k<(m:Int))
 | .lt j,m,_=>by
  show j<m↔∀k∈[(j:Int)],k<(m:Int)
  simp
 | .nt t,m,h=>FS (t:=t) h
 | .bn j a b,m,h=>by
  have h1:=FS (m:=m) h.2.1
  have h2:=FS (m:=m) h.2.2
  show (j<4∧a.ok m∧b.ok m)↔∀k∈Cl a++Cl b,k<(m:Int)
  rw[h1,h2]
  constructor
  ·rintro⟨_,q1,q2⟩ k hk
   rcases List.mem_append.mp hk with z | z
   ·exact q1 k z
   ·exact q2 k z
  ·intro q
   exact⟨h.1,fun k hk=>q k (List.mem_append_left _ hk),fun k hk=>q k (List.mem_append_right _ hk)⟩
theorem IW:∀t:Tr,∃k,k∈Cl t
 | .lt j=>⟨(j:Int),by simp[Cl]⟩
 | .nt t=>IW t
 | .bn _ a b=>by
  obtain⟨k,hk⟩:=IW a
  exact⟨k,List.mem_append_left _ hk⟩
theorem R7 {ns:List Int} {x:Int} (h:(ns++[x]).Pairwise (· < ·)):∀k∈ns++[x],k≤x:=fun k hk=>by
 rcases List.mem_append.mp hk with z | z
 ·exact Int.le_of_lt ((List.pairwise_append.mp h).2.2 k z x (by simp))
 ·rw[List.mem_singleton.mp z]
  exact Int.le_refl _
theorem JY {α:Type} (xs:List α) (x:α):Dv (xs++[x]) (-1)=some x:=by
 have e:S0 (xs++[x]).length (-1)=some xs.length:=by
  unfold S0
  rw[if_neg (by decide),List.length_append]
  show (if _ then _ else _)=_
  rw[if_pos (by show -(((xs.length+1:Nat)):Int)≤-1;omega)]
  congr 1
  show (((xs.length+1:Nat):Int) + -1).toNat=xs.length
  omega
 unfold Dv
 rw[e]
 show (xs++[x])[xs.length]? = some x
 simp
def Cs (cS:Addr):Sp:=fun vs H Q E=>∃(v:V) (t:Tr) (m:Nat),vs=[v,.int m]∧t.At H v∧t.ok 5∧t.size≤60∧(¬t.ok m→∀H',Same H H'→E (.ref cS) none H')∧(t.ok m→∀H',Same H H'→Q .non H')
section
variable {cS cT:Addr}
theorem Nj:Al ["sentence","many"] ["sentence","many"] (Ad Df):=Bn
theorem Oo {g:Addr} {gd:FuncData} (F:Fun K "refuse_strange" "refuse_strange" Df f fd) (XS:Cb K mg "StrangeLetter" cS cT) (GL:FnOk P w K mg bz AU 2 g gd ["sentence"] HA) (CL:AW K mg "letters" g gd ["sentence"]):FnOk P w K mg bz (A4 P w) 3 f fd ["sentence","many"] (Cs cS):=by
 refine Fun.okX F Nj (fun vs H Q E h=>?_) (fun cdv A outer s H vs Q E hr h=>?_)
 ·obtain⟨v,t,m,rfl,_⟩:=h
  rfl
 obtain⟨v,t,m,rfl,ha,hok,hsz,qE,q⟩:=h
 refine⟨_,Af (AC (Av SY (AL AI (An GL hr (by rfl) CL.m CL.k CL.b .nil Ay (Ab (pv 0) Ac)) (Mq Jc Ao) (fun _ _=>rfl)) (pv 1) (AB _))
   (Af (Bq (Ex:=E) BG rfl XS.cls XS.at_ XS.ty (by rfl) XS.m (Ab Ah Ac) (hvl:=fun _ _ _ h=>⟨by decide,h⟩)))
   Aw),?_⟩
 refine⟨_,rfl,v,t,rfl,ha,hsz,fun l ns H1 s1 hl0 hl hp hm=>?_⟩
 obtain⟨k0,hk0⟩:=IW t
 have hne:ns≠[]:=List.ne_nil_of_mem ((hm k0).mpr hk0)
 obtain⟨ms,x,rfl⟩:∃ms x,ns=ms++[x]:=⟨ns.dropLast,ns.getLast hne,(List.dropLast_concat_getLast hne).symm⟩
 have hmax:=R7 hp
 have hx:x∈Cl t:=(hm x).mp (by simp)
 have hiff:=FS (m:=m) hok
 have hat:Dv ((ms++[x]).map V.int) (-1)=some (.int x):=by rw[List.map_append];exact JY _ _
 refine⟨_,rfl,l,_,_,_,rfl,rfl,SqL.of hl,hat,_,rfl,_,_,rfl,rfl,_,rfl,?_⟩
 by_cases c:t.ok m
 ·refine Dd (fun z=>?_) (q c _ s1)
  have:=hiff.mp c x hx
  have z':x≥(m:Int):=z
  omega
 ·refine DC ?_ (qE c _ s1)
  show x≥(m:Int)
  refine Int.not_lt.mp fun z=>c (hiff.mpr fun k hk=>?_)
  have:=hmax k ((hm k).mpr hk)
  omega
end
def Bb (M:List Addr) (H:Hp):Hp:=fun b=>if b∈M then none else H b
section
variable {M N:List Addr} {H H' H0 H1:Hp} {a b l:Addr} {o:HO}
theorem Br (h:Bb M H b=some o):H b=some o∧b∉M:=by
 unfold Bb at h
 by_cases c:b∈M
 ·rw[if_pos c] at h;cases h
 ·rw[if_neg c] at h;exact⟨h,c⟩
theorem Bh (h:H b=some o) (n:b∉M):Bb M H b=some o:=by unfold Bb;rw[if_neg n];exact h
theorem AJ:Same (Bb M H) H:=fun b o h=>(Br h).1
theorem Au (s:Same H H'):Same (Bb M H) (Bb M H'):=fun b o h=>Bh (s _ _ (Br h).1) (Br h).2
theorem Dj (h:a∈M):Bb M (upd H a o)=Bb M H:=by
 funext b
 unfold Bb
 by_cases c:b∈M
 ·rw[if_pos c,if_pos c]
 ·rw[if_neg c,if_neg c,Aq (fun z=>c (by rw[z];exact h))]
abbrev But (M:List Addr) (H H':Hp):Prop:=Same (Bb M H) (Bb M H')
theorem But.upd (h:a∈M):But M H (upd H a o):=by
 show Same (Bb M H) (Bb M (L2.upd H a o))
 rw[Dj h]
 exact Same.refl _
theorem But.wide (h:∀x∈M,x∈N) (s:But M H H'):But N H H':=fun b o e=>by
 obtain⟨e1,n⟩:=Br e
 exact Bh (Br (s b o (Bh e1 fun z=>n (h b z)))).1 n
theorem But.same (off:∀m∈M,H0 m=none) (s0:Same H0 H) (s:But M H H'):Same H0 H':=fun b o e=>
 (Br (s b o (Bh (s0 _ _ e) fun z=>by rw[off b z] at e;cases e))).1
theorem But.at (s:But M H H') (h:H b=some o) (n:b∉M):H' b=some o:=(Br (s b o (Bh h n))).1
end
structure Tk where
 dx:Addr
 sp:Addr
 pt:Addr
 gv:Addr
 lf:Addr
 sv:V
 pxs:List V
 ges:List V
 lfs:List V
structure Ta where
 many:Nat
 kind:Str
 rule:Str
 t:Tr
 room:List Int
 ents:List (V×Tr×Str)
 lefts:List (List Int)
 ended:Bool
def Ta.sides (W:Ta):List (List Int):=AR W.kind W.t W.room
def Ta.base (W:Ta):List Int:=W.lefts.headD []
def Ta.held (W:Ta):List Int:=W.lefts.getLastD []
def Ta.going (W:Ta):List Int:=if W.rule="elder" then W.held else W.base
def Gn (U:Tk) (W:Ta):List (Str×V):=[("many",.int W.many),("kind",.str W.kind),("sentence",U.sv),("rule",.str W.rule),("space",.ref U.sp),("parts",.ref U.pt),("given",.ref U.gv),("left",.ref U.lf),("ended",.bl W.ended)]
abbrev EntsAt (H:Hp):List V→List (V×Tr×Str)→Prop:=Paired fun (v:V) (e:V×Tr×Str)=>∃p,v= .ref p∧H p=some (.tup [e.1,.str e.2.2])∧e.2.1.At H e.1
theorem EntsAt.keep {H H':Hp} (s:Same H H'):∀{xs:List V} {es:List (V×Tr×Str)},EntsAt H xs es→EntsAt H' xs es
 | _,_,.nil=>.nil
 | _,_,.cons ⟨p,e,h,a⟩ q=>.cons ⟨p,e,s _ _ h,a.keep (TS.same s)⟩ (EntsAt.keep s q)
structure TalkAt (M:List Addr) (C:Addr) (H:Hp) (a:Addr) (U:Tk) (W:Ta):Prop where
 ob:H a=some (.ins C U.dx (Gn U W))
 gv:H U.gv=some (.lst U.ges)
 lf:H U.lf=some (.lst U.lfs)
 ma:a∈M
 mg:U.gv∈M
 ml:U.lf∈M
 ne:U.gv≠U.lf
 room:AV (Bb M H) U.sp W.room
 tr:W.t.At (Bb M H) U.sv
 pt:Bb M H U.pt=some (.lst U.pxs)
 sd:RowsAt (Bb M H) U.pxs W.sides
 en:EntsAt (Bb M H) U.ges W.ents
 lr:RowsAt (Bb M H) U.lfs W.lefts
 wr:Wr W.room
 wl:∀l∈W.lefts,l.Sublist W.room
 ln:W.lefts≠[]
 l9:W.lefts.length≤900
 e9:W.ents.length≤900
 tok:W.t.ok W.many
 m5:W.many≤5
 tsz:W.t.size≤23
 kd:Bz W.kind
 ns:[]∉W.sides
 rl:W.rule="elder"∨W.rule="newer"
section
variable {M:List Addr} {C:Addr} {H H':Hp} {a:Addr} {U:Tk} {W:Ta}
theorem TalkAt.keep (s:Same H H') (h:TalkAt M C H a U W):TalkAt M C H' a U W:=
 ⟨s _ _ h.ob,s _ _ h.gv,s _ _ h.lf,h.ma,h.mg,h.ml,h.ne,Au s _ _ h.room,h.tr.keep (TS.same (Au s)),Au s _ _ h.pt,h.sd.keep (Au s),h.en.keep (Au s),h.lr.keep (Au s),h.wr,h.wl,h.ln,h.l9,h.e9,h.tok,h.m5,h.tsz,h.kd,h.ns,h.rl⟩
theorem TalkAt.but (b:But M H H') (ha:H' a=H a) (hg:H' U.gv=H U.gv) (hl:H' U.lf=H U.lf) (h:TalkAt M C H a U W):TalkAt M C H' a U W:=
 ⟨ha.trans h.ob,hg.trans h.gv,hl.trans h.lf,h.ma,h.mg,h.ml,h.ne,b _ _ h.room,h.tr.keep (TS.same b),b _ _ h.pt,h.sd.keep b,h.en.keep b,h.lr.keep b,h.wr,h.wl,h.ln,h.l9,h.e9,h.tok,h.m5,h.tsz,h.kd,h.ns,h.rl⟩
theorem TalkAt.ws (h:TalkAt M C H a U W):∀s∈W.sides,Wr s:=fun s hs=>h.wr.sub (Io hs)
theorem ME:(Gn U W).lookup ("many":Str)=some (.int W.many):=by with_unfolding_all rfl
theorem Sw:(Gn U W).lookup ("rule":Str)=some (.str W.rule):=by with_unfolding_all rfl
theorem Kb:(Gn U W).lookup ("space":Str)=some (.ref U.sp):=by with_unfolding_all rfl
theorem JO:(Gn U W).lookup ("parts":Str)=some (.ref U.pt):=by with_unfolding_all rfl
theorem JP:(Gn U W).lookup ("given":Str)=some (.ref U.gv):=by with_unfolding_all rfl
theorem EF:(Gn U W).lookup ("left":Str)=some (.ref U.lf):=by with_unfolding_all rfl
theorem JS:(Gn U W).lookup ("ended":Str)=some (.bl W.ended):=by with_unfolding_all rfl
theorem SD:(Gn U W).lookup ("base":Str)=none:=by with_unfolding_all rfl
theorem LX:(Gn U W).lookup ("held":Str)=none:=by with_unfolding_all rfl
theorem PX:(Gn U W).lookup ("going":Str)=none:=by with_unfolding_all rfl
theorem Lj:(Gn U W).lookup ("entries":Str)=none:=by with_unfolding_all rfl
theorem Ny:(Gn U W).lookup ("caught":Str)=none:=by with_unfolding_all rfl
theorem MM:(Gn U W).lookup ("over":Str)=none:=by with_unfolding_all rfl
theorem KT:(Gn U W).lookup ("ask":Str)=none:=by with_unfolding_all rfl
theorem Tc:(Gn U W).lookup ("say":Str)=none:=by with_unfolding_all rfl
theorem SI:(Gn U W).lookup ("back":Str)=none:=by with_unfolding_all rfl
theorem Tl:(Gn U W).lookup ("end":Str)=none:=by with_unfolding_all rfl
end
structure AD (K:PySem.W.Frag) (C:Addr) (nm:Str) (f:Addr) (fd:FuncData) (ps:List Str):Prop where
 m:Rj K C nm f
 b:Binds K fd ps []
structure SG (K:PySem.W.Frag) (mg:Str→Option Value) (C:Addr) (nm:Str) (f:Addr) (fd:FuncData) (ps:List Str):Prop where
 make:Mk K C f
 m:mg nm=some (.ref C)
 b:Binds K fd ps []
structure Hn (K:PySem.W.Frag) (C:Addr):Prop where
 cl:Cls K C
 many:NoAttr K C "many"
 kind:NoAttr K C "kind"
 sentence:NoAttr K C "sentence"
 rule:NoAttr K C "rule"
 space:NoAttr K C "space"
 parts:NoAttr K C "parts"
 given:NoAttr K C "given"
 left:NoAttr K C "left"
 ended:NoAttr K C "ended"
theorem N3 {H:Hp} {xs:List V} {rs:List (List Int)} (h:RowsAt H xs rs) (ne:rs≠[]):∃p,Dv xs 0=some (.ref p)∧AV H p (rs.headD []):=by
 cases h with
 | nil=>exact absurd rfl ne
 | cons r q=>
  obtain⟨p,rfl,hp⟩:=r
  exact⟨p,As (j:=0) rfl,hp⟩
theorem HM {H:Hp}:∀{xs:List V} {rs:List (List Int)},RowsAt H xs rs→rs≠[]→∃ys p,xs=ys++[.ref p]∧RowsAt H ys rs.dropLast∧AV H p (rs.getLastD [])
 | _,_,.nil,ne=>absurd rfl ne
 | [_],[_],.cons ⟨p,rfl,hp⟩ .nil,_=>⟨[],p,rfl,.nil,hp⟩
 | x::_::_,_::_::_,.cons hx (.cons h2 q),_=>by
  obtain⟨ys,p,e,h1,h3⟩:=HM (.cons h2 q) (List.cons_ne_nil _ _)
  exact⟨x::ys,p,by rw[e];rfl,.cons hx h1,h3⟩
theorem Gg {H:Hp} {xs:List V} {rs:List (List Int)} (h:RowsAt H xs rs) (ne:rs≠[]):∃p,Dv xs (-1)=some (.ref p)∧AV H p (rs.getLastD []):=by
 obtain⟨ys,p,rfl,_,hp⟩:=HM h ne
 exact⟨p,JY _ _,hp⟩
theorem TalkAt.s9 {M:List Addr} {C:Addr} {H:Hp} {a:Addr} {U:Tk} {W:Ta} (h:TalkAt M C H a U W):W.sides.length≤900:=by
 unfold Ta.sides
 rcases Ic (z:=W.kind) (t:=W.t) (row:=W.room) with⟨x,e⟩|⟨x,y,e⟩<;>rw[e]<;>simp
theorem TalkAt.held_in {M:List Addr} {C:Addr} {H:Hp} {a:Addr} {U:Tk} {W:Ta} (h:TalkAt M C H a U W):W.held∈W.lefts:=by
 unfold Ta.held
 have:=h.ln
 cases e:W.lefts with
 | nil=>exact absurd e this
 | cons x r=>
  rw[List.getLastD_eq_getLast?,List.getLast?_eq_some_getLast (List.cons_ne_nil x r)]
  exact List.getLast_mem _
theorem TalkAt.base_in {M:List Addr} {C:Addr} {H:Hp} {a:Addr} {U:Tk} {W:Ta} (h:TalkAt M C H a U W):W.base∈W.lefts:=by
 unfold Ta.base
 have:=h.ln
 cases e:W.lefts with
 | nil=>exact absurd e this
 | cons x r=>exact List.mem_cons_self
theorem TalkAt.held_wr {M:List Addr} {C:Addr} {H:Hp} {a:Addr} {U:Tk} {W:Ta} (h:TalkAt M C H a U W):Wr W.held:=h.wr.sub (h.wl _ h.held_in)
theorem TalkAt.base_wr {M:List Addr} {C:Addr} {H:Hp} {a:Addr} {U:Tk} {W:Ta} (h:TalkAt M C H a U W):Wr W.base:=h.wr.sub (h.wl _ h.base_in)
theorem TalkAt.going_wr {M:List Addr} {C:Addr} {H:Hp} {a:Addr} {U:Tk} {W:Ta} (h:TalkAt M C H a U W):Wr W.going:=by
 unfold Ta.going
 split
 ·exact h.held_wr
 ·exact h.base_wr
theorem TalkAt.held_len {M:List Addr} {C:Addr} {H:Hp} {a:Addr} {U:Tk} {W:Ta} (h:TalkAt M C H a U W):W.held.length≤32:=h.held_wr.len
section
variable {cK:Addr}
abbrev E8:Stmt:=AF (Bm 53) 2
def MD (C:Addr):Sp:=fun vs H Q _=>∃(a:Addr) (M:List Addr) (U:Tk) (W:Ta),vs=[.ref a]∧TalkAt M C H a U W∧∀(l:Addr) (H':Hp),Same H H'→H l=none→AV H' l W.base→Q (.ref l) H'
theorem R9:Al ["self"] ["self"] (Ad E8):=Bn
theorem Qi (F:Fun K "base" "Talk.base" E8 f fd) (TX:Hn K cK) (T:Ht mg):FnOk P w K mg bz AU 1 f fd ["self"] (MD cK):=by
 refine F.ok R9 (fun vs H Q E h=>?_) (fun cdv A outer s H vs Q E hr h=>?_)
 ·obtain⟨a,M,U,W,rfl,_⟩:=h
  rfl
 obtain⟨a,M,U,W,rfl,h,q⟩:=h
 refine⟨_,Af (Am (A3 Bs (by rfl) T.lst BF (Ab (AL AI (AT (pv 0) rfl) Ao (fun _ _=>rfl)) Ac))),?_⟩
 obtain⟨p,hp1,hp2⟩:=N3 h.lr h.ln
 exact⟨_,rfl,a,cK,_,_,_,rfl,h.ob,TX.cl,TX.left,EF,_,_,_,_,rfl,rfl,SqL.of h.lf,hp1,p,_,rfl,.inl (SqL.of (AJ _ _ hp2)),fun l hl=>q l _ (Ag hl _) hl upd_same⟩
abbrev EX:Stmt:=AF (Bm 53) 3
def IO (C:Addr):Sp:=fun vs H Q _=>∃(a:Addr) (M:List Addr) (U:Tk) (W:Ta),vs=[.ref a]∧TalkAt M C H a U W∧∀(l:Addr) (H':Hp),Same H H'→H l=none→AV H' l W.held→Q (.ref l) H'
theorem R0:Al ["self"] ["self"] (Ad EX):=Bn
theorem Qr (F:Fun K "held" "Talk.held" EX f fd) (TX:Hn K cK) (T:Ht mg):FnOk P w K mg bz AU 1 f fd ["self"] (IO cK):=by
 refine F.ok R0 (fun vs H Q E h=>?_) (fun cdv A outer s H vs Q E hr h=>?_)
 ·obtain⟨a,M,U,W,rfl,_⟩:=h
  rfl
 obtain⟨a,M,U,W,rfl,h,q⟩:=h
 refine⟨_,Af (Am (A3 Bs (by rfl) T.lst BF (Ab (AL AI (AT (pv 0) rfl) (Mq Jc Ao) (fun _ _=>rfl)) Ac))),?_⟩
 obtain⟨p,hp1,hp2⟩:=Gg h.lr h.ln
 exact⟨_,rfl,a,cK,_,_,_,rfl,h.ob,TX.cl,TX.left,EF,_,rfl,_,_,_,_,rfl,rfl,SqL.of h.lf,hp1,p,_,rfl,.inl (SqL.of (AJ _ _ hp2)),fun l hl=>q l _ (Ag hl _) hl upd_same⟩
abbrev Eh:Stmt:=AF (Bm 53) 4
def Kp (C:Addr):Sp:=fun vs H Q _=>∃(a:Addr) (M:List Addr) (U:Tk) (W:Ta),vs=[.ref a]∧TalkAt M C H a U W∧∀(l:Addr) (H':Hp),Same H H'→H l=none→AV H' l W.going→Q (.ref l) H'
theorem Pa:Al ["self"] ["self"] (Ad Eh):=Bn
theorem Od {g1 g2:Addr} {d1 d2:FuncData} (F:Fun K "going" "Talk.going" Eh f fd) (TX:Hn K cK) (GH:FnOk P w K mg bz AU 1 g1 d1 ["self"] (IO cK)) (CH:AD K cK "held" g1 d1 ["self"])
  (GB:FnOk P w K mg bz AU 1 g2 d2 ["self"] (MD cK)) (CB:AD K cK "base" g2 d2 ["self"]):FnOk P w K mg bz AU 2 f fd ["self"] (Kp cK):=by
 refine F.ok Pa (fun vs H Q E h=>?_) (fun cdv A outer s H vs Q E hr h=>?_)
 ·obtain⟨a,M,U,W,rfl,_⟩:=h
  rfl
 obtain⟨a,M,U,W,rfl,h,q⟩:=h
 refine⟨_,Ae (AC (Av AX (AT (pv 0) rfl) Ah (AB _))
   (Af (Am (AY (pv 0) TX.cl CH.m GH hr CH.b .nil Ay)))
   Aw)
  (Af (Am (AY (pv 0) TX.cl CB.m GB hr CB.b .nil Ay))),?_⟩
 unfold Ta.going at q
 refine⟨_,rfl,a,cK,_,_,_,rfl,h.ob,TX.cl,TX.rule,Sw,rfl,_,rfl,?_⟩
 by_cases c:W.rule="elder"
 ·refine DC (by rw[c]) ?_
  rw[if_pos c] at q
  exact⟨_,rfl,a,_,_,rfl,h.ob,LX,a,M,U,W,rfl,h,q⟩
 ·refine Dd (fun z=>c (by injection z)) ?_
  rw[if_neg c] at q
  exact⟨_,rfl,a,_,_,rfl,h.ob,SD,a,M,U,W,rfl,h,q⟩
abbrev B8:Stmt:=AF (Bm 53) 6
def Gy (C:Addr):Sp:=fun vs H Q _=>∃(a:Addr) (M:List Addr) (U:Tk) (W:Ta),vs=[.ref a]∧TalkAt M C H a U W∧∀(l:Addr) (H':Hp),Same H H'→H l=none→H' l=some (.lst U.ges)→Q (.ref l) H'
theorem K2:Al ["self"] ["self"] (Ad B8):=Bn
theorem Jx (F:Fun K "entries" "Talk.entries" B8 f fd) (TX:Hn K cK) (T:Ht mg):FnOk P w K mg bz AU 1 f fd ["self"] (Gy cK):=by
 refine F.ok K2 (fun vs H Q E h=>?_) (fun cdv A outer s H vs Q E hr h=>?_)
 ·obtain⟨a,M,U,W,rfl,_⟩:=h
  rfl
 obtain⟨a,M,U,W,rfl,h,q⟩:=h
 refine⟨_,Af (Am (A3 Bs (by rfl) T.lst BF (Ab (AT (pv 0) rfl) Ac))),?_⟩
 exact⟨_,rfl,a,cK,_,_,_,rfl,h.ob,TX.cl,TX.given,JP,_,_,rfl,.inl (SqL.of h.gv),fun l hl=>q l _ (Ag hl _) hl upd_same⟩
abbrev Cu:Stmt:=AF (Bm 53) 7
def HP (C:Addr):Sp:=fun vs H Q _=>∃(a:Addr) (M:List Addr) (U:Tk) (W:Ta),vs=[.ref a]∧TalkAt M C H a U W∧∀(H':Hp),Same H H'→Q (.bl (!By W.sides W.held)) H'
theorem NE:Al ["self"] ["self"] (Ad Cu):=Bn
theorem Le {g:Addr} {gd:FuncData} (F:Fun K "caught" "Talk.caught" Cu f fd) (TX:Hn K cK) (GS:FnOk P w K mg bz AU 4 g gd ["sides","worlds"] (Ix K)) (CS:AW K mg "stands" g gd ["sides","worlds"]):FnOk P w K mg bz AU 5 f fd ["self"] (HP cK):=by
 refine F.ok NE (fun vs H Q E h=>?_) (fun cdv A outer s H vs Q E hr h=>?_)
 ·obtain⟨a,M,U,W,rfl,_⟩:=h
  rfl
 obtain⟨a,M,U,W,rfl,h,q⟩:=h
 refine⟨_,Af (Am (Lx (An GS hr (by rfl) CS.m CS.k CS.b .nil Ay (Ab (AT (pv 0) rfl) (Ab (AL AI (AT (pv 0) rfl) (Mq Jc Ao) (fun _ _=>rfl)) Ac))))),?_⟩
 obtain⟨p,hp1,hp2⟩:=Gg h.lr h.ln
 have hlen:=h.held_len
 refine⟨_,rfl,a,cK,_,_,_,rfl,h.ob,TX.cl,TX.parts,JO,_,rfl,a,cK,_,_,_,rfl,h.ob,TX.cl,TX.left,EF,_,rfl,_,_,_,_,rfl,rfl,SqL.of h.lf,hp1,?_⟩
 exact⟨U.pt,p,W.held,U.pxs,W.sides,rfl,SqL.of (AJ _ _ hp2),by omega,AJ _ _ h.pt,h.sd.keep AJ,fun s hs=>Nat.lt_of_le_of_lt (h.ws s hs).len (by decide),h.s9,fun H1 s1=>⟨_,rfl,q H1 s1⟩⟩
abbrev Fz:Stmt:=AF (Bm 53) 8
def I9 (C:Addr):Sp:=fun vs H Q _=>∃(a:Addr) (M:List Addr) (U:Tk) (W:Ta),vs=[.ref a]∧TalkAt M C H a U W∧Q (.bl W.ended) H
theorem Sj:Al ["self"] ["self"] (Ad Fz):=Bn
theorem PR (F:Fun K "over" "Talk.over" Fz f fd) (TX:Hn K cK):FnOk P w K mg bz AU 1 f fd ["self"] (I9 cK):=by
 refine F.ok Sj (fun vs H Q E h=>?_) (fun cdv A outer s H vs Q E hr h=>?_)
 ·obtain⟨a,M,U,W,rfl,_⟩:=h
  rfl
 obtain⟨a,M,U,W,rfl,h,q⟩:=h
 refine⟨_,Af (Am (AT (pv 0) rfl)),?_⟩
 exact⟨_,rfl,a,cK,_,_,_,rfl,h.ob,TX.cl,TX.ended,JS,q⟩
end
abbrev E2:Stmt:=AF (Bm 53) 0
def BX (z:Str):Prop:=z="elder"∨z="newer"
instance (z:Str):Decidable (BX z):=by unfold BX;infer_instance
def Mw:List V:=[.str "elder",.str "newer"]
theorem OX (z:Str):OE (.str z) Mw=decide (BX z):=by
 unfold OE Mw BX
 simp only[List.any_cons,List.any_nil,Bool.or_false]
 have e:∀y:Str,Rb (.str y) (.str z)=decide (z=y):=fun y=>by
  show (y == z)=decide (z=y)
  by_cases h:z=y
  ·subst h;simp
  ·rw[decide_eq_false h]
   exact beq_false_of_ne fun q=>h q.symm
 rw[e,e,Bool.eq_iff_iff]
 simp only[Bool.or_eq_true,decide_eq_true_eq]
 exact decide_eq_true_iff.symm
def Gr (many:Nat) (kind rule:Str) (t:Tr) (room:List Int):Ta:=⟨many,kind,rule,t,room,[],[Mc room (AR kind t room)],false⟩
def MN (C cS cB cN:Addr):Sp:=fun vs H Q E=>∃(x dx rm:Addr) (many:Nat) (kind rule:Str) (v:V) (t:Tr) (room:List Int) (M:List Addr),vs=[.ref x,.int many,.ref rm,.str kind,v,.str rule]∧H x=some (.ins C dx [])∧x∉M∧(∀m∈M,H m≠none)∧
 t.At (Bb M H) v∧t.ok 5∧t.size≤23∧many≤5∧AV H rm room∧Wr room∧
 (¬t.ok many→∀H',But [x] H H'→E (.ref cS) none H')∧(t.ok many→¬(BX rule∧Bz kind)→∀H',But [x] H H'→E (.ref cB) none H')∧(t.ok many→BX rule→Bz kind→[]∈AR kind t room→∀H',But [x] H H'→E (.ref cN) none H')∧
 (t.ok many→BX rule→Bz kind→[]∉AR kind t room→∀(U:Tk) (H':Hp),But [x] H H'→H U.gv=none→H U.lf=none→H U.sp=none→U.sv=v→TalkAt (x::U.gv::U.lf::M) C H' x U (Gr many kind rule t room)→Q .non H')
theorem Bf {H0 H:Hp} {x C dx:Addr} {fs fs':List (Str×V)} {f:Str} {v:V} (e:Cc f v fs=fs') (b:But [x] H0 H) :
  But [x] H0 (upd H x (.ins C dx (Cc f v fs)))∧upd H x (.ins C dx (Cc f v fs)) x=some (.ins C dx fs')∧But [x] H (upd H x (.ins C dx (Cc f v fs))):=
 ⟨b.trans (But.upd (by simp)),upd_same.trans (congrArg (fun l=>some (HO.ins C dx l)) e),But.upd (by simp)⟩
theorem Bi {x b:Addr} (h:b≠x):b∉[x]:=by simpa using h
abbrev FC (H:Hp) (x:Addr):List V→List (List Int)→Prop:=Paired fun (v:V) (row:List Int)=>∃p,v= .ref p∧p≠x∧AV H p row
theorem DM {H H':Hp} {x:Addr} {o:HO} (hx:H x=some o):∀{xs:List V} {rs:List (List Int)},RowsNew H H' xs rs→FC H' x xs rs
 | _,_,.nil=>.nil
 | _,_,.cons ⟨p,e,n,h⟩ q=>.cons ⟨p,e,(Ai hx n).symm,h⟩ (DM hx q)
theorem FE {H H':Hp} {x:Addr} (b:But [x] H H'):∀{xs:List V} {rs:List (List Int)},FC H x xs rs→FC H' x xs rs
 | _,_,.nil=>.nil
 | _,_,.cons ⟨p,e,n,h⟩ q=>.cons ⟨p,e,n,b.at h (Bi n)⟩ (FE b q)
theorem EB {H H':Hp} {x:Addr} (b:Same H H'):∀{xs:List V} {rs:List (List Int)},FC H x xs rs→FC H' x xs rs
 | _,_,.nil=>.nil
 | _,_,.cons ⟨p,e,n,h⟩ q=>.cons ⟨p,e,n,b _ _ h⟩ (EB b q)
theorem Hg {H H':Hp} {x:Addr} (b:But [x] H H'):∀{xs:List V} {rs:List (List Int)},FC H x xs rs→RowsAt H' xs rs
 | _,_,.nil=>.nil
 | _,_,.cons ⟨p,e,n,h⟩ q=>.cons ⟨p,e,b.at h (Bi n)⟩ (Hg b q)
theorem JB {H0 H1 G:Hp} (k:∀p row,H0 p=none→AV H1 p row→AV G p row):∀{xs:List V} {rs:List (List Int)},RowsNew H0 H1 xs rs→RowsAt G xs rs
 | _,_,.nil=>.nil
 | _,_,.cons ⟨p,e,n,h⟩ q=>.cons ⟨p,e,k p _ n h⟩ (JB k q)
section
variable {cK cS cB cN cT:Addr}
theorem Se:Al ["self","many","room","kind","sentence","rule"] ["self","many","room","kind","sentence","rule"] (Ad E2):=Bn
theorem QR {g1 g2 g3:Addr} {d1 d2 d3:FuncData} (F:Fun K "__init__" "Talk.__init__" E2 f fd) (TX:Hn K cK) (T:Ht mg) (XB:Cb K mg "BadWord" cB cT)
  (GR:FnOk P w K mg bz (A4 P w) 3 g1 d1 ["sentence","many"] (Cs cS)) (CR:AW K mg "refuse_strange" g1 d1 ["sentence","many"])
  (GD:FnOk P w K mg bz (A4 P w) 4 g2 d2 ["room","kind","sentence"] (Ib K cB cN)) (CD:AW K mg "sides_of" g2 d2 ["room","kind","sentence"])
  (GB:FnOk P w K mg bz AU 2 g3 d3 ["sides"] (LW K)) (CB:AW K mg "base_of" g3 d3 ["sides"]):FnOk P w K mg bz (A4 P w) 5 f fd ["self","many","room","kind","sentence","rule"] (MN cK cS cB cN):=by
 refine Fun.okX F Se (fun vs H Q E h=>?_) (fun cdv A outer s H vs Q E hr h=>?_)
 ·obtain⟨x,dx,rm,many,kind,rule,v,t,room,M,rfl,_⟩:=h
  rfl
 obtain⟨x,dx,rm,many,kind,rule,v,t,room,M,rfl,hx,nxM,hM,ha,hok,hsz,hm5,hrm,hwr,qS,qB,qN,q⟩:=h
 have hr3:Room 3 _:=hr.mono (by decide)
 have hr2:Room 2 _:=hr.mono (by decide)
 have nrx:rm≠x:=A6 hrm hx (by intro z;cases z)
 have haH:=ha.keep (TS.same AJ)
 have kt:∀{H1:Hp},But [x] H H1→TS H H1:=fun b p xs e=>b.at e (Bi (A6 e hx (by intro z;cases z)))
 refine⟨_,Ae (AA (An GR hr3 (by rfl) CR.m CR.k CR.b .nil (Ap (E1:=E) fun _ _ _ h=>h) (Ab (pv 4) (Ab (pv 1) Ac))))
  (Ae (AC (Av EL (pv 5) (Bt (Ab Ah (Ab Ah Ac))) (by with_unfolding_all rfl))
   (Af (Bq (Ex:=E) BG rfl XB.cls XB.at_ XB.ty (by rfl) XB.m (Ab Ah Ac) (hvl:=fun _ _ _ h=>⟨by decide,h⟩)))
   Aw)
  (Ae (BA (pv 0) (pv 1) rfl)
  (Ae (BA (pv 0) (pv 3) rfl)
  (Ae (BA (pv 0) (pv 4) rfl)
  (Ae (BA (pv 0) (pv 5) rfl)
  (Ae (BA (pv 0) (A3 Bs (by rfl) T.lst BF (Ab (pv 2) Ac)) rfl)
  (Ae (BA (pv 0) (An GD hr (by rfl) CD.m CD.k CD.b .nil (Ap (E1:=E) fun _ _ _ h=>h) (Ab (pv 2) (Ab (pv 3) (Ab (pv 4) Ac)))) rfl)
  (Ae (BA (pv 0) (AE Ac) rfl)
  (Ae (BA (pv 0) (AE (Ab (An GB hr2 (by rfl) CB.m CB.k CB.b .nil Ay (Ab (AT (pv 0) rfl) Ac)) Ac)) rfl)
  (Af (BA (pv 0) Cd rfl))))))))))),?_⟩
 refine⟨_,rfl,_,rfl,v,t,many,rfl,haH,hok,by omega,fun hn H1 s1=>qS hn H1 (Au s1),fun hmany H1 s1=>?_⟩
 refine⟨_,rfl,FV,fun rt hrt=>?_⟩
 have s2:=s1.trans (Ag hrt (.tup [.str "elder",.str "newer"]))
 refine⟨rt,Mw,rfl,.inr (SqT.of upd_same),rfl,rfl,_,rfl,?_⟩
 show if (!OE (.str rule) Mw)=true then _ else _
 rw[OX]
 generalize upd H1 rt _=H2 at *
 by_cases hrl:BX rule
 rotate_left
 ·exact Pi hrl (qB hmany (fun z=>hrl z.1) _ (Au s2))
 refine Cy hrl ?_
 have b2:But [x] H H2:=Au s2
 have x2:=s2 _ _ hx
 refine⟨_,rfl,_,rfl,x,cK,dx,_,rfl,x2,TX.cl,TX.many,(by decide),?_⟩
 obtain⟨b3,x3,_⟩:=Bf (C:=cK) (dx:=dx) (f:="many") (v:=.int many) (fs:=[]) (fs':=[("many",.int many)]) (by with_unfolding_all rfl) b2
 generalize upd H2 x _=H3 at *
 refine⟨_,rfl,_,rfl,x,cK,dx,_,rfl,x3,TX.cl,TX.kind,(by show 1<1000;decide),?_⟩
 obtain⟨b4,x4,_⟩:=Bf (C:=cK) (dx:=dx) (f:="kind") (v:=.str kind) (fs:=[("many",.int many)]) (fs':=[("many",.int many),("kind",.str kind)]) (by with_unfolding_all rfl) b3
 generalize upd H3 x _=H4 at *
 refine⟨_,rfl,_,rfl,x,cK,dx,_,rfl,x4,TX.cl,TX.sentence,(by show 2<1000;decide),?_⟩
 obtain⟨b5,x5,_⟩:=Bf (C:=cK) (dx:=dx) (f:="sentence") (v:=v) (fs:=[("many",.int many),("kind",.str kind)]) (fs':=[("many",.int many),("kind",.str kind),("sentence",v)]) (by with_unfolding_all rfl) b4
 generalize upd H4 x _=H5 at *
 refine⟨_,rfl,_,rfl,x,cK,dx,_,rfl,x5,TX.cl,TX.rule,(by show 3<1000;decide),?_⟩
 obtain⟨b6,x6,_⟩:=Bf (C:=cK) (dx:=dx) (f:="rule") (v:=.str rule) (fs:=[("many",.int many),("kind",.str kind),("sentence",v)]) (fs':=[("many",.int many),("kind",.str kind),("sentence",v),("rule",.str rule)]) (by with_unfolding_all rfl) b5
 generalize upd H5 x _=H6 at *
 have rm6:=b6.at hrm (Bi nrx)
 refine⟨_,rfl,rm,_,rfl,.inl (SqL.of rm6),fun sp hsp=>?_⟩
 have s7:=Ag hsp (.lst (room.map V.int))
 have b7:But [x] H (upd H6 sp (.lst (room.map V.int))):=b6.trans (Au s7)
 have x7:=s7 _ _ x6
 have sp7:AV (upd H6 sp (.lst (room.map V.int))) sp room:=upd_same
 have nsx:sp≠x:=(Ai x6 hsp).symm
 have sp0:H sp=none:=by
  cases e:H sp with
  | none=>rfl
  | some o=>rw[b6.at e (Bi nsx)] at hsp;cases hsp
 generalize upd H6 sp _=H7 at *
 refine⟨_,rfl,x,cK,dx,_,rfl,x7,TX.cl,TX.space,(by show 4<1000;decide),?_⟩
 obtain⟨b8,x8,c8⟩:=Bf (C:=cK) (dx:=dx) (f:="space") (v:=.ref sp) (fs:=[("many",.int many),("kind",.str kind),("sentence",v),("rule",.str rule)]) (fs':=[("many",.int many),("kind",.str kind),("sentence",v),("rule",.str rule),("space",.ref sp)]) (by with_unfolding_all rfl) b7
 generalize upd H7 x _=H8 at *
 have sp8:=c8.at sp7 (Bi nsx)
 have rm8:=b8.at hrm (Bi nrx)
 refine⟨_,rfl,_,rfl,_,rfl,rm,kind,v,t,room,rfl,haH.keep (kt b8),hok,by omega,SqL.of rm8,hwr,fun hk H9 s9=>qB hmany (fun z=>hk z.2) _ (b8.trans (Au s9)),fun hk hem H9 s9=>qN hmany hrl hk hem _ (b8.trans (Au s9)),fun hk hem pt pxs H9 s9 pt0 pt9 hR9 hne9=>?_⟩
 have b9:But [x] H H9:=b8.trans (Au s9)
 have x9:=s9 _ _ x8
 have npx:pt≠x:=(Ai x8 pt0).symm
 refine⟨_,rfl,x,cK,dx,_,rfl,x9,TX.cl,TX.parts,(by show 5<1000;decide),?_⟩
 obtain⟨b10,x10,c10⟩:=Bf (C:=cK) (dx:=dx) (f:="parts") (v:=.ref pt) (fs:=[("many",.int many),("kind",.str kind),("sentence",v),("rule",.str rule),("space",.ref sp)]) (fs':=[("many",.int many),("kind",.str kind),("sentence",v),("rule",.str rule),("space",.ref sp),("parts",.ref pt)]) (by with_unfolding_all rfl) b9
 have e10:Bb [x] (upd H9 x (.ins cK dx (Cc "parts" (.ref pt) [("many",.int many),("kind",.str kind),("sentence",v),("rule",.str rule),("space",.ref sp)])))=Bb [x] H9:=Dj (by simp)
 generalize upd H9 x _=H10 at *
 have pt10:=c10.at pt9 (Bi npx)
 have sp10:=c10.at (s9 _ _ sp8) (Bi nsx)
 have R10:RowsAt H10 pxs (AR kind t room):=Hg c10 (DM x8 hR9)
 refine⟨Of,fun gv hgv=>?_⟩
 have s11:=Ag hgv (.lst [])
 have b11:But [x] H (upd H10 gv (.lst [])):=b10.trans (Au s11)
 have gv11:upd H10 gv (.lst []) gv=some (.lst []):=upd_same
 have x11:=s11 _ _ x10
 have ngx:gv≠x:=(Ai x10 hgv).symm
 generalize upd H10 gv _=H11 at *
 refine⟨_,rfl,x,cK,dx,_,rfl,x11,TX.cl,TX.given,(by show 6<1000;decide),?_⟩
 obtain⟨b12,x12,c12⟩:=Bf (C:=cK) (dx:=dx) (f:="given") (v:=.ref gv) (fs:=[("many",.int many),("kind",.str kind),("sentence",v),("rule",.str rule),("space",.ref sp),("parts",.ref pt)]) (fs':=[("many",.int many),("kind",.str kind),("sentence",v),("rule",.str rule),("space",.ref sp),("parts",.ref pt),("given",.ref gv)]) (by with_unfolding_all rfl) b11
 generalize upd H11 x _=H12 at *
 have gv12:=c12.at gv11 (Bi ngx)
 have pt12:=c12.at (s11 _ _ pt10) (Bi npx)
 have sp12:=c12.at (s11 _ _ sp10) (Bi nsx)
 have R12:RowsAt H12 pxs (AR kind t room):=Hg c12 (EB s11 (FE c10 (DM x8 hR9)))
 have hl2:Ez (AR kind t room)<64:=by
  have:=K5 (z:=kind) (t:=t) (row:=room)
  have:=hwr.len
  omega
 refine⟨_,rfl,x,cK,dx,_,_,rfl,x12,TX.cl,TX.parts,(by with_unfolding_all rfl),pt,pxs,_,rfl,SqL.of pt12,R12,hl2,fun bl H13 ns s13 hbl0 hp hm hbl=>⟨SV,fun lf hlf=>?_⟩⟩
 have en:=O8 hwr (fun s hs=>Io hs) hp hm
 subst en
 have s14:=s13.trans (Ag hlf (.lst [.ref bl]))
 have bl14:=Ag hlf (.lst [.ref bl]) _ _ hbl
 have lf14:upd H13 lf (.lst [.ref bl]) lf=some (.lst [.ref bl]):=upd_same
 have lf12:H12 lf=none:=s13.free hlf
 generalize upd H13 lf _=H14 at *
 have x14:=s14 _ _ x12
 have b14:But [x] H H14:=b12.trans (Au s14)
 have nlx:lf≠x:=(Ai x12 lf12).symm
 have nbx:bl≠x:=(Ai x12 hbl0).symm
 refine⟨_,rfl,x,cK,dx,_,rfl,x14,TX.cl,TX.left,(by show 7<1000;decide),?_⟩
 obtain⟨b15,x15,c15⟩:=Bf (C:=cK) (dx:=dx) (f:="left") (v:=.ref lf) (fs:=[("many",.int many),("kind",.str kind),("sentence",v),("rule",.str rule),("space",.ref sp),("parts",.ref pt),("given",.ref gv)]) (fs':=[("many",.int many),("kind",.str kind),("sentence",v),("rule",.str rule),("space",.ref sp),("parts",.ref pt),("given",.ref gv),("left",.ref lf)]) (by with_unfolding_all rfl) b14
 generalize upd H14 x _=H15 at *
 refine⟨_,rfl,x,cK,dx,_,rfl,x15,TX.cl,TX.ended,(by show 8<1000;decide),?_⟩
 obtain⟨b16,x16,c16⟩:=Bf (C:=cK) (dx:=dx) (f:="ended") (v:=.bl false) (fs:=[("many",.int many),("kind",.str kind),("sentence",v),("rule",.str rule),("space",.ref sp),("parts",.ref pt),("given",.ref gv),("left",.ref lf)]) (fs':=[("many",.int many),("kind",.str kind),("sentence",v),("rule",.str rule),("space",.ref sp),("parts",.ref pt),("given",.ref gv),("left",.ref lf),("ended",.bl false)]) (by with_unfolding_all rfl) b15
 generalize upd H15 x _=H16 at *
 have c17:But [x] H14 H16:=c15.trans c16
 have gv16:=c17.at (s14 _ _ gv12) (Bi ngx)
 have lf16:=c17.at lf14 (Bi nlx)
 have bl16:=c17.at bl14 (Bi nbx)
 have pt16:=c17.at (s14 _ _ pt12) (Bi npx)
 have sp16:=c17.at (s14 _ _ sp12) (Bi nsx)
 have ngl:gv≠lf:=Ai gv12 lf12
 have gv0:H gv=none:=by
  cases e:H gv with
  | none=>rfl
  | some o=>rw[b10.at e (Bi ngx)] at hgv;cases hgv
 have lf0:H lf=none:=by
  cases e:H lf with
  | none=>rfl
  | some o=>rw[b12.at e (Bi nlx)] at lf12;cases lf12
 have pt0':H pt=none:=by
  cases e:H pt with
  | none=>rfl
  | some o=>rw[b8.at e (Bi npx)] at pt0;cases pt0
 have bl0:H bl=none:=by
  cases e:H bl with
  | none=>rfl
  | some o=>rw[b12.at e (Bi nbx)] at hbl0;cases hbl0
 have nM:∀{b:Addr},H b=none→b∉M:=fun e z=>hM _ z e
 have n3:∀{b:Addr},b≠x→b≠gv→b≠lf→H b=none→b∉x::gv::lf::M:=fun e1 e2 e3 e4 z=>by
  rcases List.mem_cons.mp z with q1 | q1
  ·exact e1 q1
  ·rcases List.mem_cons.mp q1 with q2 | q2
   ·exact e2 q2
   ·rcases List.mem_cons.mp q2 with q3 | q3
    ·exact e3 q3
    ·exact nM e4 q3
 have nsg:sp≠gv:=Ai sp10 hgv
 have nsl:sp≠lf:=Ai sp12 lf12
 have npg:pt≠gv:=Ai pt10 hgv
 have npl:pt≠lf:=Ai pt12 lf12
 have nbg:bl≠gv:=(Ai gv12 hbl0).symm
 have nbl:bl≠lf:=Ai hbl hlf
 have hR16:RowsAt (Bb (x::gv::lf::M) H16) pxs (AR kind t room):=JB (fun p row h1 h2=>by
  have pne:p≠x:=(Ai x8 h1).symm
  have p10:=c10.at h2 (Bi pne)
  have p0:H p=none:=by
   cases e:H p with
   | none=>rfl
   | some o=>rw[b8.at e (Bi pne)] at h1;cases h1
  have p12:=c12.at (s11 _ _ p10) (Bi pne)
  exact Bh (c17.at (s14 _ _ p12) (Bi pne)) (n3 pne (Ai p10 hgv) (Ai p12 lf12) p0)) hR9
 refine q hmany hrl hk hem ⟨dx,sp,pt,gv,lf,v,pxs,[],[.ref bl]⟩ H16 b16 gv0 lf0 sp0 rfl ⟨x16,gv16,lf16,by simp,by simp,by simp,ngl,Bh sp16 (n3 nsx nsg nsl sp0),?_,Bh pt16 (n3 npx npg npl pt0'),hR16,.nil,.cons ⟨bl,rfl,Bh bl16 (n3 nbx nbg nbl bl0)⟩ .nil,hwr,fun l hl=>?_,List.cons_ne_nil _ _,by show 1≤900;decide,by show 0≤900;decide,hmany,hm5,hsz,hk,hem,hrl⟩
 ·refine ha.keep fun p xs e=>?_
  obtain⟨e1,e2⟩:=Br e
  have pne:p≠x:=A6 e1 hx (by intro z;cases z)
  refine Bh (b16.at e1 (Bi pne)) fun z=>?_
  rcases List.mem_cons.mp z with q1 | q1
  ·exact pne q1
  ·rcases List.mem_cons.mp q1 with q2 | q2
   ·rw[q2,gv0] at e1;cases e1
   ·rcases List.mem_cons.mp q2 with q3 | q3
    ·rw[q3,lf0] at e1;cases e1
    ·exact e2 q3
 ·rw[List.mem_singleton.mp hl]
  exact Pr
end
theorem CK {H H':Hp} {x dx C:Addr} (hx:H x=none) (hd:H dx=none) (ne:dx≠x) (b:But [x] (upd (upd H dx (.own x)) x (.ins C dx [])) H'):Same H H':=by
 refine But.same (M:=[x]) (fun m hm=>by rw[List.mem_singleton.mp hm];exact hx) ?_ b
 have s1:=Ag hd (.own x)
 exact s1.trans (Ag (by rw[Aq ne.symm];exact hx) _)
theorem B7 {H:Hp} {x dx C b:Addr} {o:HO} (h:upd (upd H dx (.own x)) x o b=none):H b=none∧b≠x∧b≠dx:=by
 by_cases e:b=x
 ·rw[e,upd_same] at h;cases h
 ·rw[Aq e] at h
  by_cases e2:b=dx
  ·rw[e2,upd_same] at h;cases h
  ·rw[Aq e2] at h
   exact⟨h,e,e2⟩
theorem E7 {P:Program} {w:World} {X:Cx}:Co (A4 P w) X E0:=fun _ _ _ _ _ _ _ h=>by
 obtain⟨_,_,_,_,_,_,_,_,_,_,_,_,_,_,_,q⟩:=h
 exact q.elim
section
variable {X:Cx}
end
def DE (W:Ta) (seen:List Int) (t:Tr):Str:=if W.ended=true then Bj seen (BD true t W.room) else Di W.sides W.going seen (BD true t W.room)
theorem TalkAt.two {M:List Addr} {C:Addr} {H:Hp} {a:Addr} {U:Tk} {W:Ta} (h:TalkAt M C H a U W):W.sides.length≤2:=by
 unfold Ta.sides
 rcases Ic (z:=W.kind) (t:=W.t) (row:=W.room) with⟨x,e⟩|⟨x,y,e⟩<;>rw[e]<;>simp
theorem MF {b:Bool} {t:Tr} {room:List Int} (h:Wr room):Wr (BD b t room):=h.sub List.filter_sublist
abbrev Hy:Stmt:=AF (Bm 53) 9
def II (K:PySem.W.Frag) (C cS:Addr):Sp:=fun vs H Q E=>∃(a sn:Addr) (v:V) (M:List Addr) (U:Tk) (W:Ta) (t:Tr) (seen:List Int),vs=[.ref a,v,.ref sn]∧TalkAt M C H a U W∧t.At H v∧t.ok 5∧t.size≤60∧SqL K H sn (seen.map V.int)∧Wr seen∧seen≠[]∧
 (¬t.ok W.many→∀H',Same H H'→E (.ref cS) none H')∧(t.ok W.many→∀H',Same H H'→Q (.str (DE W seen t)) H')
section
variable {cK cS cO cT:Addr}
theorem scTAsk:Al ["self","sentence","seen","worlds"] ["self","sentence","seen"] (Ad Hy):=Bn
theorem Sr {g1 g2 g3 g4 m1:Addr} {d1 d2 d3 d4 e1:FuncData} (F:Fun K "ask" "Talk.ask" Hy f fd) (TX:Hn K cK)
  (GR:FnOk P w K mg bz (A4 P w) 3 g1 d1 ["sentence","many"] (Cs cS)) (CR:AW K mg "refuse_strange" g1 d1 ["sentence","many"])
  (GW:FnOk P w K mg bz AU 3 g2 d2 ["sentence","room"] (BV K)) (CW:AW K mg "worlds_of" g2 d2 ["sentence","room"])
  (GP:FnOk P w K mg bz AU 3 g3 d3 ["seen","worlds"] (EI K)) (CP:AW K mg "plain" g3 d3 ["seen","worlds"])
  (GA:FnOk P w K mg bz AU 5 g4 d4 ["sides","going","seen","worlds"] (Ir K)) (CA:AW K mg "answer" g4 d4 ["sides","going","seen","worlds"])
  (G1:FnOk P w K mg bz AU 2 m1 e1 ["self"] (Kp cK)) (C1:AD K cK "going" m1 e1 ["self"]):FnOk P w K mg bz (A4 P w) 6 f fd ["self","sentence","seen"] (II K cK cS):=by
 refine Fun.okX F scTAsk (fun vs H Q E h=>?_) (fun cdv A outer s H vs Q E hr h=>?_)
 ·obtain⟨a,sn,v,M,U,W,t,seen,rfl,_⟩:=h
  rfl
 obtain⟨a,sn,v,M,U,W,t,seen,rfl,hT,ha,ok5,hsz,hN,wN,nne,qE,q⟩:=h
 have hr3:Room 3 _:=hr.mono (by decide)
 have hr2:Room 2 _:=hr.mono (by decide)
 refine⟨_,Ae (AA (An GR hr3 (by rfl) CR.m CR.k CR.b .nil (Ap (E1:=E) fun _ _ _ h=>h) (Ab (pv 1) (Ab (AT (pv 0) rfl) Ac))))
  (Ae (Ax (i:=3) scTAsk.nd rfl (Or.inl rfl) (An GW hr3 (by rfl) CW.m CW.k CW.b .nil Ay (Ab (pv 1) (Ab (AT (pv 0) rfl) Ac))))
  (Ae (AC (Cp (AT (pv 0) rfl) (fun _=>rfl))
   (Af (Am (An GP hr3 (by rfl) CP.m CP.k CP.b .nil Ay (Ab (pv 2) (Ab (pv 3) Ac)))))
   Aw)
  (Af (Am (An GA hr (by rfl) CA.m CA.k CA.b .nil Ay (Ab (AT (pv 0) rfl) (Ab (AY (pv 0) TX.cl C1.m G1 hr2 C1.b .nil Ay) (Ab (pv 2) (Ab (pv 3) Ac))))))))),?_⟩
 refine⟨_,rfl,_,rfl,a,cK,_,_,_,rfl,hT.ob,TX.cl,TX.many,ME,v,t,W.many,rfl,ha,ok5,hsz,qE,fun hmany H1 s1=>?_⟩
 have q:=q hmany
 have T1:=hT.keep s1
 refine⟨_,rfl,_,rfl,a,cK,_,_,_,rfl,T1.ob,TX.cl,TX.space,Kb,v,t,U.sp,W.room,rfl,ha.keep (TS.same s1),ok5,by omega,SqL.of (AJ _ _ T1.room),hT.wr,fun wl H2 s2 hwl0 hwl=>?_⟩
 have T2:=T1.keep s2
 have t2:=s1.trans s2
 have hwl:AV H2 wl (BD true t W.room):=hwl
 have wwl:Wr (BD true t W.room):=MF hT.wr
 refine⟨_,rfl,a,cK,_,_,_,rfl,T2.ob,TX.cl,TX.ended,JS,_,rfl,?_⟩
 unfold DE at q
 cases he:W.ended with
 | true=>
  refine Bo ?_
  rw[he,if_pos rfl] at q
  exact⟨_,rfl,_,rfl,sn,wl,seen,_,rfl,t2.seq hN,wN,nne,SqL.of hwl,wwl,fun H3 s3=>q _ (t2.trans s3)⟩
 | false=>
  refine Bd ?_
  rw[he,if_neg Bool.false_ne_true] at q
  refine⟨_,rfl,a,cK,_,_,_,rfl,T2.ob,TX.cl,TX.parts,JO,_,rfl,a,_,_,rfl,T2.ob,PX,a,M,U,W,rfl,T2,fun gl H3 s3 hgl0 hgl=>?_⟩
  have T3:=T2.keep s3
  have t3:=t2.trans s3
  exact⟨_,rfl,_,rfl,U.pt,gl,sn,wl,U.pxs,W.sides,W.going,seen,_,rfl,AJ _ _ T3.pt,T3.sd.keep AJ,T3.ws,T3.two,SqL.of hgl,T3.going_wr,t3.seq hN,wN,nne,SqL.of (s3 _ _ hwl),wwl,fun H4 s4=>q _ (t3.trans s4)⟩
end
abbrev Db:Stmt:=Bm 54
def BN (C cO:Addr):Sp:=fun vs H Q E=>∃(a:Addr) (M:List Addr) (U:Tk) (W:Ta),vs=[.ref a]∧TalkAt M C H a U W∧(W.ended=true→E (.ref cO) none H)∧(W.ended=false→Q .non H)
section
variable {cK cS cO cT:Addr}
theorem On:Al ["talk"] ["talk"] (Ad Db):=Bn
theorem KL {m1:Addr} {e1:FuncData} (F:Fun K "refuse_over" "refuse_over" Db f fd) (TX:Hn K cK) (XO:Cb K mg "TalkOver" cO cT) (G1:FnOk P w K mg bz AU 1 m1 e1 ["self"] (I9 cK)) (C1:AD K cK "over" m1 e1 ["self"]):FnOk P w K mg bz (A4 P w) 2 f fd ["talk"] (BN cK cO):=by
 refine Fun.okX F On (fun vs H Q E h=>?_) (fun cdv A outer s H vs Q E hr h=>?_)
 ·obtain⟨a,M,U,W,rfl,_⟩:=h
  rfl
 obtain⟨a,M,U,W,rfl,hT,qE,q⟩:=h
 refine⟨_,Af (AC (Bu (AY (pv 0) TX.cl C1.m G1 hr C1.b .nil Ay))
   (Af (Bq (Ex:=E) BG rfl XO.cls XO.at_ XO.ty (by rfl) XO.m (Ab Ah Ac) (hvl:=fun _ _ _ h=>⟨by decide,h⟩)))
   Aw),?_⟩
 refine⟨_,rfl,a,_,_,rfl,hT.ob,MM,a,M,U,W,rfl,hT,_,rfl,?_⟩
 cases he:W.ended with
 | true=>exact Bo (qE he)
 | false=>exact Bd (q he)
end
def SM (W:Ta) (v:V) (t:Tr) (word:Str):Ta:={ W with ents:=W.ents++[(v,t,word)],lefts:=W.lefts++[Eo word W.held (BD true t W.room)] }
theorem EntsAt.snoc {H:Hp} {v:V} {e:V×Tr×Str} (h:∃p,v= .ref p∧H p=some (.tup [e.1,.str e.2.2])∧e.2.1.At H e.1):∀{xs:List V} {es:List (V×Tr×Str)},EntsAt H xs es→EntsAt H (xs++[v]) (es++[e])
 | _,_,.nil=>.cons h .nil
 | _,_,.cons x q=>.cons x (EntsAt.snoc h q)
theorem EntsAt.len {H:Hp} {xs:List V} {es:List (V×Tr×Str)} (h:EntsAt H xs es):xs.length=es.length:=Paired.length h
theorem FD {H:Hp} {v:V} {row:List Int} (h:∃p,v= .ref p∧AV H p row):∀{xs:List V} {rs:List (List Int)},RowsAt H xs rs→RowsAt H (xs++[v]) (rs++[row])
 | _,_,.nil=>.cons h .nil
 | _,_,.cons x q=>.cons x (FD h q)
theorem Ps (z:Str) (g r:List Int):(Eo z g r).Sublist g:=by
 unfold Eo N8 Fs
 split
 ·exact List.filter_sublist
 ·split
  ·exact List.filter_sublist
  ·exact List.Sublist.refl _
section
variable {M:List Addr} {C:Addr} {H H':Hp} {a:Addr} {U:Tk} {W:Ta}
theorem TalkAt.a_gv (h:TalkAt M C H a U W):a≠U.gv:=A6 h.ob h.gv (by intro z;cases z)
theorem TalkAt.a_lf (h:TalkAt M C H a U W):a≠U.lf:=A6 h.ob h.lf (by intro z;cases z)
theorem TalkAt.gave (h:TalkAt M C H a U W) {p:Addr} {v:V} {t:Tr} {word:Str} (hp:Bb M H p=some (.tup [v,.str word])) (ha:t.At (Bb M H) v) (hl:W.ents.length<900) :
  TalkAt M C (upd H U.gv (.lst (U.ges++[.ref p]))) a { U with ges:=U.ges++[.ref p] } { W with ents:=W.ents++[(v,t,word)] }:=by
 have e:=Dj (H:=H) (o:=.lst (U.ges++[.ref p])) h.mg
 refine⟨by rw[Aq h.a_gv];exact h.ob,upd_same,by rw[Aq h.ne.symm];exact h.lf,h.ma,h.mg,h.ml,h.ne,?_,?_,?_,?_,?_,?_,h.wr,h.wl,h.ln,h.l9,?_,h.tok,h.m5,h.tsz,h.kd,h.ns,h.rl⟩
 ·show AV (Bb M (upd H U.gv _)) _ _;rw[e];exact h.room
 ·show Tr.At (Bb M (upd H U.gv _)) _ _;rw[e];exact h.tr
 ·show Bb M (upd H U.gv _) _=_;rw[e];exact h.pt
 ·show RowsAt (Bb M (upd H U.gv _)) _ _;rw[e];exact h.sd
 ·show EntsAt (Bb M (upd H U.gv _)) _ _;rw[e];exact h.en.snoc ⟨p,rfl,hp,ha⟩
 ·show RowsAt (Bb M (upd H U.gv _)) _ _;rw[e];exact h.lr
 ·show (W.ents++[(v,t,word)]).length≤900;rw[List.length_append];exact hl
theorem TalkAt.gone (h:TalkAt M C H a U W) {l:Addr} {row:List Int} (hp:AV (Bb M H) l row) (hs:row.Sublist W.room) (hl:W.lefts.length<900) :
  TalkAt M C (upd H U.lf (.lst (U.lfs++[.ref l]))) a { U with lfs:=U.lfs++[.ref l] } { W with lefts:=W.lefts++[row] }:=by
 have e:=Dj (H:=H) (o:=.lst (U.lfs++[.ref l])) h.ml
 refine⟨by rw[Aq h.a_lf];exact h.ob,by rw[Aq h.ne];exact h.gv,upd_same,h.ma,h.mg,h.ml,h.ne,?_,?_,?_,?_,?_,?_,h.wr,?_,?_,?_,h.e9,h.tok,h.m5,h.tsz,h.kd,h.ns,h.rl⟩
 ·show AV (Bb M (upd H U.lf _)) _ _;rw[e];exact h.room
 ·show Tr.At (Bb M (upd H U.lf _)) _ _;rw[e];exact h.tr
 ·show Bb M (upd H U.lf _) _=_;rw[e];exact h.pt
 ·show RowsAt (Bb M (upd H U.lf _)) _ _;rw[e];exact h.sd
 ·show EntsAt (Bb M (upd H U.lf _)) _ _;rw[e];exact h.en
 ·show RowsAt (Bb M (upd H U.lf _)) _ _;rw[e];exact FD ⟨l,rfl,hp⟩ h.lr
 ·intro x hx
  rcases List.mem_append.mp hx with z | z
  ·exact h.wl x z
  ·rw[List.mem_singleton.mp z];exact hs
 ·show W.lefts++[row]≠[];simp
 ·show (W.lefts++[row]).length≤900;rw[List.length_append];exact hl
end
abbrev HR:Stmt:=AF (Bm 53) 10
def QA (K:PySem.W.Frag) (C cS cO:Addr):Sp:=fun vs H Q E=>∃(a sn:Addr) (v:V) (M:List Addr) (U:Tk) (W:Ta) (t:Tr) (seen:List Int),vs=[.ref a,v,.ref sn]∧TalkAt M C H a U W∧(∀m∈M,H m≠none)∧t.At (Bb M H) v∧t.ok 5∧t.size≤60∧SqL K H sn (seen.map V.int)∧Wr seen∧seen≠[]∧W.ents.length<900∧W.lefts.length<900∧
 (W.ended=true→∀H',Same H H'→E (.ref cO) none H')∧(W.ended=false→¬t.ok W.many→∀H',Same H H'→E (.ref cS) none H')∧
 (W.ended=false→t.ok W.many→∀(U':Tk) (H':Hp),But [U.gv,U.lf] H H'→U'.gv=U.gv→U'.lf=U.lf→(∀b,H b≠none→H' b≠none)→TalkAt M C H' a U' (SM W v t (DE W seen t))→Q (.str (DE W seen t)) H')
section
variable {cK cS cO cT:Addr}
theorem scTSay:Al ["self","sentence","seen","word"] ["self","sentence","seen"] (Ad HR):=Bn
theorem Rq {g1 g2 g3 m1:Addr} {d1 d2 d3 e1:FuncData} (F:Fun K "say" "Talk.say" HR f fd) (TX:Hn K cK)
  (GO:FnOk P w K mg bz (A4 P w) 2 g1 d1 ["talk"] (BN cK cO)) (CO:AW K mg "refuse_over" g1 d1 ["talk"])
  (G1:FnOk P w K mg bz (A4 P w) 6 m1 e1 ["self","sentence","seen"] (II K cK cS)) (C1:AD K cK "ask" m1 e1 ["self","sentence","seen"])
  (GL:FnOk P w K mg bz AU 2 g2 d2 ["word","row","worlds"] (LA K)) (CL:AW K mg "left_by" g2 d2 ["word","row","worlds"])
  (GW:FnOk P w K mg bz AU 3 g3 d3 ["sentence","room"] (BV K)) (CW:AW K mg "worlds_of" g3 d3 ["sentence","room"]):FnOk P w K mg bz (A4 P w) 7 f fd ["self","sentence","seen"] (QA K cK cS cO):=by
 refine Fun.okX F scTSay (fun vs H Q E h=>?_) (fun cdv A outer s H vs Q E hr h=>?_)
 ·obtain⟨a,sn,v,M,U,W,t,seen,rfl,_⟩:=h
  rfl
 obtain⟨a,sn,v,M,U,W,t,seen,rfl,hT,hM,ha,ok5,hsz,hN,wN,nne,le,ll,qO,qS,q⟩:=h
 have hr3:Room 3 _:=hr.mono (by decide)
 have hr2:Room 2 _:=hr.mono (by decide)
 refine⟨_,Ae (AA (An GO hr2 (by rfl) CO.m CO.k CO.b .nil (Ap (E1:=E) fun _ _ _ h=>h) (Ab (pv 0) Ac)))
  (Ae (Ax (i:=3) scTSay.nd rfl (Or.inl rfl) (Az (pv 0) TX.cl C1.m G1 hr C1.b .nil (Ap (E1:=E) fun _ _ _ h=>h) (Ab (pv 1) (Ab (pv 2) Ac))))
  (Ae (AA (Bw PySem.F.plainAttrs_list PySem.F.slot_list_append PySem.F.type_list_append AZ (AT (pv 0) rfl) (Ab (Bt (Ab (pv 1) (Ab (pv 3) Ac))) Ac)))
  (Ae (AA (Bw PySem.F.plainAttrs_list PySem.F.slot_list_append PySem.F.type_list_append AZ (AT (pv 0) rfl) (Ab (An GL hr2 (by rfl) CL.m CL.k CL.b .nil Ay (Ab (pv 3) (Ab (AL AI (AT (pv 0) rfl) (Mq Jc Ao) (fun _ _=>rfl)) (Ab (An GW hr3 (by rfl) CW.m CW.k CW.b .nil Ay (Ab (pv 1) (Ab (AT (pv 0) rfl) Ac))) Ac)))) Ac)))
  (Af (Am (pv 3)))))),?_⟩
 refine⟨_,rfl,a,M,U,W,rfl,hT,fun he=>qO he _ (Same.refl _),fun he=>?_⟩
 have haH:=ha.keep (TS.same AJ)
 refine⟨_,rfl,a,_,_,rfl,hT.ob,KT,_,rfl,_,rfl,a,sn,v,M,U,W,t,seen,rfl,hT,haH,ok5,hsz,hN,wN,nne,fun hn H' s'=>qS he hn H' s',fun hmany H2 s2=>?_⟩
 have q:=q he hmany
 generalize DE W seen t=word at *
 have T2:=hT.keep s2
 refine⟨_,rfl,a,cK,_,_,_,rfl,T2.ob,TX.cl,TX.given,JP,.inl ⟨rfl,_,SqL.of T2.gv⟩,_,rfl,_,rfl,FV,fun p hp=>?_⟩
 have s3:=Ag hp (.tup [v,.str word])
 have p3:upd H2 p (.tup [v,.str word]) p=some (.tup [v,.str word]):=upd_same
 have T3:=T2.keep s3
 have p0:H p=none:=s2.free hp
 have pM:p∉M:=fun z=>hM p z p0
 have t3:=s2.trans s3
 generalize upd H2 p _=H3 at *
 have hgl:U.ges.length=W.ents.length:=T3.en.len
 refine⟨U.gv,U.ges,.ref p,rfl,rfl,T3.gv,AO (by omega),?_⟩
 have T4:=T3.gave (Bh p3 pM) (ha.keep (TS.same (Au t3))) le
 have b4:But [U.gv,U.lf] H (upd H3 U.gv (.lst (U.ges++[.ref p]))):=Same.trans (Au t3) (But.upd (by simp))
 have k4:∀b,H3 b≠none→upd H3 U.gv (.lst (U.ges++[.ref p])) b≠none:=fun b hb=>by
  by_cases c:b=U.gv
  ·rw[c,upd_same];exact fun z=>by cases z
  ·rw[Aq c];exact hb
 have ts4:TS H3 (upd H3 U.gv (.lst (U.ges++[.ref p]))):=TS.lst T3.gv
 generalize upd H3 U.gv _=H4 at *
 have lf4:H4 U.lf=some (.lst U.lfs):=T4.lf
 obtain⟨hl,hl1,hl2⟩:=Gg T4.lr T4.ln
 refine⟨_,rfl,a,cK,_,_,_,rfl,T4.ob,TX.cl,TX.left,EF,.inl ⟨rfl,_,SqL.of lf4⟩,?_⟩
 refine⟨_,rfl,_,rfl,a,cK,_,_,_,rfl,T4.ob,TX.cl,TX.left,EF,_,rfl,_,_,_,_,rfl,rfl,SqL.of lf4,hl1,?_⟩
 refine⟨_,rfl,_,rfl,a,cK,_,_,_,rfl,T4.ob,TX.cl,TX.space,Kb,v,t,U.sp,W.room,rfl,(haH.keep (TS.same t3)).keep ts4,ok5,by omega,SqL.of (AJ _ _ T4.room),hT.wr,fun wl H5 s5 hwl0 hwl=>?_⟩
 have T5:=T4.keep s5
 have hwl:AV H5 wl (BD true t W.room):=hwl
 have wwl:Wr (BD true t W.room):=MF hT.wr
 have lwl:=wwl.len
 refine⟨word,hl,wl,W.held,_,rfl,SqL.of (s5 _ _ (AJ _ _ hl2)),hT.held_wr,SqL.of hwl,by omega,fun l H6 s6 hl0 hl6=>?_⟩
 have T6:=T5.keep s6
 have hll:U.lfs.length=W.lefts.length:=T6.lr.len
 refine⟨U.lf,U.lfs,.ref l,rfl,rfl,T6.lf,AO (by omega),?_⟩
 have l4:H4 l=none:=s5.free hl0
 have lM:l∉M:=fun z=>by
  have h3:H3 l≠none:=fun z3=>hM l z (t3.free z3)
  exact k4 l h3 l4
 have T7:=T6.gone (Bh hl6 lM) ((Ps _ _ _).trans (hT.wl _ hT.held_in)) ll
 have b7:But [U.gv,U.lf] H (upd H6 U.lf (.lst (U.lfs++[.ref l]))):=Same.trans b4 (Same.trans (Au (s5.trans s6)) (But.upd (by simp)))
 have k7:∀b,H b≠none→upd H6 U.lf (.lst (U.lfs++[.ref l])) b≠none:=fun b hb=>by
  by_cases c:b=U.lf
  ·rw[c,upd_same];exact fun z=>by cases z
  ·rw[Aq c]
   have h3:H3 b≠none:=fun z3=>hb (t3.free z3)
   exact fun z6=>k4 b h3 ((s5.trans s6).free z6)
 refine⟨_,rfl,?_⟩
 exact q { U with ges:=U.ges++[.ref p],lfs:=U.lfs++[.ref l] } _ b7 rfl rfl k7 T7
end
section
variable {M N:List Addr} {C:Addr} {H H':Hp} {a:Addr} {U:Tk} {W:Ta}
theorem TalkAt.cutmore (h:TalkAt M C H a U W) (s:Same H H') (hn:∀n∈N,H n=none):TalkAt (N++M) C H' a U W:=by
 have k:Same (Bb M H) (Bb (N++M) H'):=fun p u e=>by
  obtain⟨e1,e2⟩:=Br e
  refine Bh (s _ _ e1) fun z=>?_
  rcases List.mem_append.mp z with q | q
  ·rw[hn p q] at e1;cases e1
  ·exact e2 q
 exact⟨s _ _ h.ob,s _ _ h.gv,s _ _ h.lf,List.mem_append_right _ h.ma,List.mem_append_right _ h.mg,List.mem_append_right _ h.ml,h.ne,k _ _ h.room,h.tr.keep (TS.same k),k _ _ h.pt,h.sd.keep k,h.en.keep k,h.lr.keep k,h.wr,h.wl,h.ln,h.l9,h.e9,h.tok,h.m5,h.tsz,h.kd,h.ns,h.rl⟩
end
abbrev Fa:Stmt:=AF (Bm 53) 11
section
variable {cK cS cO cG cT:Addr}
theorem Sy:Al ["self"] ["self"] (Ad Fa):=Bn
end
abbrev IE:Stmt:=AF (Bm 53) 13
def PZ (W:Ta):Ta:={ W with ended:=true }
def OW (C cO:Addr):Sp:=fun vs H Q E=>∃(a:Addr) (M:List Addr) (U:Tk) (W:Ta),vs=[.ref a]∧TalkAt M C H a U W∧(W.ended=true→E (.ref cO) none H)∧
 (W.ended=false→∀(H':Hp),But [a] H H'→TalkAt M C H' a U (PZ W)→Q .non H')
section
variable {cK cS cO cG cT:Addr}
theorem Uu:Al ["self"] ["self"] (Ad IE):=Bn
theorem SF {g1:Addr} {d1:FuncData} (F:Fun K "end" "Talk.end" IE f fd) (TX:Hn K cK) (GO:FnOk P w K mg bz (A4 P w) 2 g1 d1 ["talk"] (BN cK cO)) (CO:AW K mg "refuse_over" g1 d1 ["talk"]):FnOk P w K mg bz (A4 P w) 3 f fd ["self"] (OW cK cO):=by
 refine Fun.okX F Uu (fun vs H Q E h=>?_) (fun cdv A outer s H vs Q E hr h=>?_)
 ·obtain⟨a,M,U,W,rfl,_⟩:=h
  rfl
 obtain⟨a,M,U,W,rfl,hT,qO,q⟩:=h
 refine⟨_,Ae (AA (An GO hr (by rfl) CO.m CO.k CO.b .nil (Ap (E1:=E) fun _ _ _ h=>h) (Ab (pv 0) Ac)))
  (Af (BA (pv 0) Cd rfl)),?_⟩
 refine⟨_,rfl,a,M,U,W,rfl,hT,qO,fun he=>?_⟩
 refine⟨_,rfl,a,cK,_,_,rfl,hT.ob,TX.cl,TX.ended,(by show 9<1000;decide),?_⟩
 have e:Cc "ended" (.bl true) (Gn U W)=Gn U (PZ W):=by with_unfolding_all rfl
 have eu:Bb M (upd H a (.ins cK U.dx (Cc "ended" (.bl true) (Gn U W))))=Bb M H:=Dj hT.ma
 refine q he _ (But.upd (by simp)) ⟨upd_same.trans (congrArg (fun l=>some (HO.ins cK U.dx l)) e),by rw[Aq hT.a_gv.symm];exact hT.gv,by rw[Aq hT.a_lf.symm];exact hT.lf,hT.ma,hT.mg,hT.ml,hT.ne,?_,?_,?_,?_,?_,?_,hT.wr,hT.wl,hT.ln,hT.l9,hT.e9,hT.tok,hT.m5,hT.tsz,hT.kd,hT.ns,hT.rl⟩
 ·rw[eu];exact hT.room
 ·rw[eu];exact hT.tr
 ·rw[eu];exact hT.pt
 ·rw[eu];exact hT.sd
 ·rw[eu];exact hT.en
 ·rw[eu];exact hT.lr
end
section
variable {cK cS cO cG cT cB cN:Addr}
end
structure EU (K:PySem.W.Frag) (C:Addr):Prop where
 cl:Cls K C
 space:NoAttr K C "space"
 many:NoAttr K C "many"
 marks:NoAttr K C "marks"
 talks:NoAttr K C "talks"
 lines:NoAttr K C "lines"
abbrev Fl:Stmt:=Bm 24
abbrev Hr:=Sum Str Tr
def IAt (H:Hp) (v:V):Hr→Prop
 | .inl z=>v= .str z
 | .inr t=>t.At H v
abbrev Items (H:Hp):List V→List Hr→Prop:=Paired (IAt H)
theorem IAt.keep {H H':Hp} (s:TS H H') {v:V}:∀{i:Hr},IAt H v i→IAt H' v i
 | .inl _,h=>h
 | .inr _,h=>Tr.At.keep s h
theorem Items.keep {H H':Hp} (s:TS H H'):∀{xs:List V} {is:List Hr},Items H xs is→Items H' xs is
 | _,_,.nil=>.nil
 | _,_,.cons r q=>.cons (IAt.keep s r) (Items.keep s q)
theorem Items.app {H:Hp}:∀{xs ys:List V} {is js:List Hr},Items H xs is→Items H ys js→Items H (xs++ys) (is++js)
 | _,_,_,_,.nil,h=>h
 | _,_,_,_,.cons r q,h=>.cons r (Items.app q h)
theorem Items.last {H:Hp}:∀{xs:List V} {ts:List Hr},Items H xs ts→xs≠[]→∃xs' y ts' t,xs=xs'++[y]∧ts=ts'++[t]∧Items H xs' ts'∧IAt H y t
 | _,_,.nil,h=>absurd rfl h
 | _,_,.cons (a:=v) (b:=t) r .nil,_=>⟨[],v,[],t,rfl,rfl,.nil,r⟩
 | _,_,.cons (a:=v) (b:=t) r (.cons r' q'),_=>by
  obtain⟨xs',y,ts',u,e1,e2,q,a⟩:=Items.last (Paired.cons r' q') (by intro z;cases z)
  exact⟨v::xs',y,t::ts',u,by rw[e1];rfl,by rw[e2];rfl,.cons r q,a⟩
theorem VM {H:Hp} {z:Str} {ys:List V} {js:List Hr} (h:Items H ys js):Items H (.str z::ys) (.inl z::js):=.cons (show IAt H (.str z) (.inl z) from rfl) h
theorem WC {H:Hp} {t:Tr} {v:V} {ys:List V} {js:List Hr} (a:t.At H v) (h:Items H ys js):Items H (v::ys) (.inr t::js):=.cons (show IAt H v (.inr t) from a) h
def Pb:Hr→List Nat
 | .inl z=>HU z
 | .inr t=>Cf t
def wt:Tr→Nat
 | .lt _=>1
 | .nt t=>wt t+2
 | .bn _ a b=>wt a+wt b+4
def wi:Hr→Nat
 | .inl _=>1
 | .inr t=>wt t
def Wu:Hr→Prop
 | .inl z=>z.length=1
 | .inr t=>t.ok 5
theorem TN:∀t:Tr,1≤wt t
 | .lt _=>Nat.le_refl _
 | .nt _=>Nat.le_add_left 1 (wt _+1)
 | .bn _ a b=>Nat.le_add_left 1 (wt a+wt b+3)
theorem Ms:∀t:Tr,wt t≤4*t.size
 | .lt _=>by show 1≤4*1;decide
 | .nt t=>by
  have:=Ms t
  show wt t+2≤4*(t.size+1)
  omega
 | .bn _ a b=>by
  have h1:=Ms a
  have h2:=Ms b
  show wt a+wt b+4≤4*(a.size+b.size+1)
  omega
theorem T8:∀i:Hr,1≤wi i
 | .inl _=>Nat.le_refl _
 | .inr t=>TN t
def ws (is:List Hr):Nat:=(is.map wi).sum
theorem IG (a b:List Hr):ws (a++b)=ws a+ws b:=by
 unfold ws
 rw[List.map_append,List.sum_append]
theorem Qj:∀is:List Hr,is.length≤ws is
 | []=>Nat.le_refl _
 | i::r=>by
  have h1:=T8 i
  have h2:=Qj r
  show r.length+1≤(((i::r).map wi).sum)
  rw[List.map_cons,List.sum_cons]
  show r.length+1≤wi i+ws r
  omega
def Hm (ys:List Str):List Nat:=(ys.map HU).flatten
def OF (is:List Hr):List Nat:=(is.reverse.map Pb).flatten
theorem Ip (ys:List Str) (z:Str):Hm (ys++[z])=Hm ys++HU z:=by
 unfold Hm
 simp
theorem IH (a b:List Hr):OF (a++b)=OF b++OF a:=by
 unfold OF
 simp
theorem MB (i:Hr):OF [i]=Pb i:=by
 unfold OF
 simp
theorem Km:∀ys:List Str,(ys.map (·.length)).sum=(Hm ys).length
 | []=>rfl
 | z::r=>by
  have h:=Km r
  rw[List.map_cons,List.sum_cons,h]
  show z.length+(Hm r).length=(HU z++Hm r).length
  rw[List.length_append,←BZ]
theorem Kg:∀ys:List Str,HU (Str.join ⟨#[]⟩ ys)=Hm ys
 | []=>rfl
 | z::r=>by
  rw[join_nil_cons,DR,Kg r]
  rfl
theorem Nb (ys:List Str):HU (Txt.join "" ys)=Hm ys:=by
 have e:Txt.join "" ys=Str.join "" ys:=eq_of_beq (join_plain_closes "" ys)
 rw[e]
 exact Kg ys
structure ShInv (H H2:Hp) (sl wl:Addr) (t0:Tr) (ys:List Str) (xs:List V) (is:List Hr):Prop where
 sm:Same H H2
 s:H2 sl=some (.lst (ys.map V.str))
 w:H2 wl=some (.lst xs)
 it:Items H2 xs is
 ok:∀i∈is,Wu i
 eq:Hm ys++OF is=Cf t0
 le:ys.length+ws is≤92
theorem ShInv.pop {H H2:Hp} {sl wl:Addr} {t0:Tr} {ys:List Str} {xs:List V} {is:List Hr} (nw:H wl=none) (ne:sl≠wl) (p:ShInv H H2 sl wl t0 ys xs is) (h:xs≠[]) :
  ∃y is' i,xs[xs.length-1]? = some y∧is=is'++[i]∧Wu i∧IAt (upd H2 wl (.lst xs.dropLast)) y i∧Same H (upd H2 wl (.lst xs.dropLast))∧(upd H2 wl (.lst xs.dropLast)) sl=some (.lst (ys.map V.str))∧
   Items (upd H2 wl (.lst xs.dropLast)) xs.dropLast is'∧(∀i∈is',Wu i)∧Hm ys++(Pb i++OF is')=Cf t0∧ys.length+(ws is'+wi i)≤92∧ws is=ws is'+wi i:=by
 obtain⟨xs',y,is',i,rfl,rfl,q,a⟩:=p.it.last h
 have k:TS H2 (upd H2 wl (.lst (xs'++[y]).dropLast)):=TS.lst p.w
 refine⟨y,is',i,DU _ _,rfl,p.ok i (by simp),a.keep k,AH p.sm nw _,by rw[Aq ne];exact p.s,?_,fun j hj=>p.ok j (by simp[hj]),?_,?_,?_⟩
 ·rw[List.dropLast_concat] at k ⊢
  exact q.keep k
 ·rw[←p.eq,IH,MB]
 ·have:=p.le
  rw[IG] at this
  have e:ws [i]=wi i:=by unfold ws;simp
  omega
 ·rw[IG]
  have e:ws [i]=wi i:=by unfold ws;simp
  omega
def F0:Sp:=fun vs H Q _=>∃(v:V) (t:Tr),vs=[v]∧t.At H v∧t.ok 5∧t.size≤23∧∀(z:Str) (H':Hp),HU z=Cf t→Same H H'→Q (.str z) H'
def Vi (k:Str):Option V:=if k="and" then some (.str "&") else if k="or" then some (.str "|") else if k="if" then some (.str ">") else if k="same" then some (.str "=") else none
theorem RA {j:Nat} (h:j<4):∃z:Str,Vi (jn j)=some (.str z)∧HU z=[jc j]:=by
 match j,h with
 | 0,_=>exact⟨"&",by decide,rfl⟩
 | 1,_=>exact⟨"|",by decide,rfl⟩
 | 2,_=>exact⟨">",by decide,rfl⟩
 | 3,_=>exact⟨"=",by decide,rfl⟩
structure SW (P:Program) (w:World) (K:PySem.W.Frag) (mg:Str→Option Value):Prop where
 isi:mg "isinstance"=none
 str:mg "str"=none
 let':∃t,mg "LETTERS"=some (.str "abcde" t)
 jo:∃d,mg "JOINTS"=some (.ref d)∧Uh P w K d Vi
section
theorem scShown:Al ["sentence","signs","waiting","part"] ["sentence"] (Ad Fl):=Bn
theorem Qf (F:Fun K "shown" "shown" Fl f fd) (T:SW P w K mg):FnOk P w K mg bz AU 1 f fd ["sentence"] F0:=by
 refine F.ok scShown (fun vs H Q E h=>?_) (fun cdv A outer s H vs Q E hr h=>?_)
 ·obtain⟨v,t,rfl,_⟩:=h
  rfl
 obtain⟨v,t,rfl,ha,hok,hs,q⟩:=h
 obtain⟨tL,mL⟩:=T.let'
 obtain⟨dJ,mJ,hJ⟩:=T.jo
 refine⟨_,Ae (Ax (i:=1) scShown.nd rfl (Or.inl rfl) (AE Ac))
  (Ae (Ax (i:=2) scShown.nd rfl (Or.inl rfl) (AE (Ab (pv 0) Ac)))
  (Ae (DJ PassesOwn.never (Cp (pv 2) (fun _=>rfl))
   (Ae (Ax (i:=3) scShown.nd rfl (Or.inl rfl) (Ce PySem.F.plainAttrs_list PySem.F.slot_list_pop PySem.F.type_list_pop Cm (pv 2)))
   (Af (AC (Bu (AG DL (by rfl) T.isi boot_isinstance (Ab (pv 3) (Ab (Ga (v:=.ty "str") (by rfl) T.str boot_str rfl) Ac))))
    (Af (AA (Bw PySem.F.plainAttrs_list PySem.F.slot_list_append PySem.F.type_list_append AZ (pv 1) (Ab (pv 3) Ac))))
    (Af (AC (Av AX (AL BH (pv 3) Ao (fun _ _=>rfl)) Ah (AB _))
     (Af (AA (Bw PySem.F.plainAttrs_list PySem.F.slot_list_append PySem.F.type_list_append AZ (pv 1) (Ab (AL Qh (B0 (v:=.str "abcde") (by rfl) mL ⟨_,rfl⟩) (AL BH (pv 3) Ao (fun _ _=>rfl)) (fun _ _=>rfl)) Ac))))
     (Af (AC (Av AX (AL BH (pv 3) Ao (fun _ _=>rfl)) Ah (AB _))
      (Af (AA (Bw PySem.F.plainAttrs_list PySem.F.slot_list_extend PySem.F.type_list_extend E6 (pv 2) (Ab (AE (Ab (AL BH (pv 3) Ao (fun _ _=>rfl)) (Ab Ah Ac))) Ac))))
      (Af (AA (Bw PySem.F.plainAttrs_list PySem.F.slot_list_extend PySem.F.type_list_extend E6 (pv 2) (Ab (AE (Ab Ah (Ab (AL BH (pv 3) Ao (fun _ _=>rfl)) (Ab (AL Uy (B0 (v:=.ref dJ) (by rfl) mJ rfl) (AL BH (pv 3) Ao (fun _ _=>rfl)) (fun _ _=>rfl)) (Ab (AL BH (pv 3) Ao (fun _ _=>rfl)) (Ab Ah Ac)))))) Ac))))))))))))
  (Af (Am (Bw PySem.F.plainAttrs_str PySem.F.slot_str_join PySem.F.type_str_join Jp Ah (Ab (pv 1) Ac)))))),?_⟩
 refine⟨Of,fun sl hsl=>⟨_,rfl,SV,fun wl hwl=>?_⟩⟩
 have ne:sl≠wl:=Ai (upd_same (H:=H) (a:=sl) (o:=.lst [])) hwl
 have nw:H wl=none:=(Ag hsl (.lst [])).free hwl
 have sm0:Same H (upd (upd H sl (.lst [])) wl (.lst [v])):=(Ag hsl _).trans (Ag hwl _)
 have lt9:∀{k:Nat},k≤999→k<sizeLine:=fun h=>AO (Nat.le_trans h (by decide))
 refine⟨fun m σ H2=>∃(pv':Option V) (ys:List Str) (xs:List V) (is:List Hr),σ=[some v,some (.ref sl),some (.ref wl),pv']∧ShInv H H2 sl wl t ys xs is∧ws is=m,⟨_,none,[],[v],[.inr t],rfl,⟨sm0,by rw[Aq ne,upd_same];rfl,upd_same,.cons (ha.keep (TS.same sm0)) .nil,fun i hi=>?_,by rw[MB];rfl,?_⟩,rfl⟩,?_⟩
 ·rw[List.mem_singleton.mp hi]
  exact hok
 ·have:=Ms t
  have e:ws [.inr t]=wt t:=by unfold ws;simp[wi]
  show 0+ws [.inr t]≤92
  omega
 rintro m σ H2 ⟨pv',ys,xs,is,rfl,p,rfl⟩
 refine⟨_,rfl,_,.inl ⟨xs,SqL.of p.w,rfl⟩,?_⟩
 refine Du (fun c=>?_) (fun c=>?_)
 ·have hx:xs≠[]:=by
   intro z
   subst z
   exact absurd c (by decide)
  refine⟨fun σ' H'=>∃m',m'<ws is∧∃(pv':Option V) (ys:List Str) (xs:List V) (is:List Hr),σ'=[some v,some (.ref sl),some (.ref wl),pv']∧ShInv H H' sl wl t ys xs is∧ws is=m',fun _ _ h=>h,?_⟩
  obtain⟨y,is',i,ey,rfl,oki,ai,sm1,s1,it1,ok1,eq1,le1',we⟩:=p.pop nw ne hx
  have w1:(upd H2 wl (.lst xs.dropLast)) wl=some (.lst xs.dropLast):=upd_same
  have nsl:∀{o:HO},TS (upd H2 wl (.lst xs.dropLast)) (upd (upd H2 wl (.lst xs.dropLast)) sl o):=TS.lst s1
  have nsl0:H sl=none:=hsl
  have hyl:ys.length≤92:=by omega
  have hil:is'.length≤92:=by
   have:=Qj is'
   omega
  have hxl:xs.dropLast.length≤92:=by
   have e:xs.dropLast.length=is'.length:=Paired.length it1
   omega
  refine⟨_,rfl,.inl ⟨rfl,_,SqL.of p.w⟩,wl,_,y,rfl,rfl,p.w,ey,?_⟩
  have hms:ys.map V.str=ys.map V.str:=rfl
  cases i with
  | inl z=>
   cases ai
   refine⟨_,rfl,_,_,_,_,rfl,.str _,G0 _ _,_,rfl,?_⟩
   refine Bo ?_
   refine⟨_,rfl,.inl ⟨rfl,_,SqL.of s1⟩,_,rfl,sl,_,_,rfl,rfl,s1,lt9 (by rw[List.length_map];omega),?_⟩
   refine⟨ws is',by rw[we];show ws is'<ws is'+1;omega,_,ys++[z],xs.dropLast,is',rfl,⟨AH sm1 nsl0 _,by rw[upd_same,List.map_append];rfl,by rw[Aq ne.symm];exact w1,it1.keep nsl,ok1,?_,?_⟩,rfl⟩
   ·rw[Ip,List.append_assoc]
    exact eq1
   ·rw[List.length_append]
    have:ys.length+(ws is'+1)≤92:=le1'
    show ys.length+1+ws is'≤92
    omega
  | inr u=>
   cases u with
   | lt k=>
    obtain⟨b,rfl,hb⟩:=ai
    refine⟨_,rfl,_,_,_,_,rfl,.tup hb,DB _,_,rfl,?_⟩
    refine Bd ?_
    refine⟨_,rfl,b,_,_,_,rfl,rfl,SqT.of hb,As (j:=0) rfl,rfl,_,rfl,?_⟩
    refine DC rfl ?_
    refine⟨_,rfl,.inl ⟨rfl,_,SqL.of s1⟩,_,rfl,b,_,_,_,rfl,rfl,SqT.of hb,As (j:=1) rfl,_,_,_,rfl,rfl,VQ,N2 oki,sl,_,_,rfl,rfl,s1,lt9 (by rw[List.length_map];omega),?_⟩
    refine⟨ws is',by rw[we];show ws is'<ws is'+1;omega,_,ys++[⟨#[97+k]⟩],xs.dropLast,is',rfl,⟨AH sm1 nsl0 _,by rw[upd_same,List.map_append];rfl,by rw[Aq ne.symm];exact w1,it1.keep nsl,ok1,?_,?_⟩,rfl⟩
    ·rw[Ip,List.append_assoc]
     exact eq1
    ·rw[List.length_append]
     have:ys.length+(ws is'+1)≤92:=le1'
     show ys.length+1+ws is'≤92
     omega
   | nt u=>
    obtain⟨b,x,rfl,hb,hx'⟩:=ai
    refine⟨_,rfl,_,_,_,_,rfl,.tup hb,DB _,_,rfl,?_⟩
    refine Bd ?_
    refine⟨_,rfl,b,_,_,_,rfl,rfl,SqT.of hb,As (j:=0) rfl,rfl,_,rfl,?_⟩
    refine Dd (by decide) ?_
    refine⟨_,rfl,b,_,_,_,rfl,rfl,SqT.of hb,As (j:=0) rfl,rfl,_,rfl,?_⟩
    refine DC rfl ?_
    have le2':ys.length+(ws is'+(wt u+2))≤92:=le1'
    refine⟨_,rfl,.inl ⟨rfl,_,SqL.of w1⟩,_,rfl,b,_,_,_,rfl,rfl,SqT.of hb,As (j:=1) rfl,FV,fun nl hnl=>?_⟩
    have kp:TS (upd H2 wl (.lst xs.dropLast)) (upd (upd (upd H2 wl (.lst xs.dropLast)) nl (.lst [x,.str "-"])) wl (.lst (xs.dropLast++[x,.str "-"]))):=(TS.new hnl).trans (TS.lst ((Ag hnl _) _ _ w1))
    refine⟨wl,nl,_,_,rfl,rfl,(Ag hnl _) _ _ w1,upd_same,Dq (by show xs.dropLast.length+2≤1000;omega),?_⟩
    have ew:ws (is'++[.inr u,.inl "-"])=ws is'+(wt u+1):=by
     rw[IG]
     unfold ws
     simp[wi]
    refine⟨_,?_,_,ys,xs.dropLast++[x,.str "-"],is'++[.inr u,.inl "-"],rfl,⟨AH (sm1.trans (Ag hnl _)) nw _,by rw[Aq ne];exact (Ag hnl _) _ _ s1,upd_same,(it1.keep kp).app (WC (hx'.keep kp) (VM .nil)),?_,?_,?_⟩,rfl⟩
    ·rw[we,ew]
     show ws is'+(wt u+1)<ws is'+(wt u+2)
     omega
    ·intro j hj
     rcases List.mem_append.mp hj with z | z
     ·exact ok1 j z
     ·rcases List.mem_cons.mp z with z | z
      ·subst z;exact oki
      ·rw[List.mem_singleton.mp z];rfl
    ·rw[IH,←eq1]
     congr 1
     unfold OF
     simp[Pb,Cf]
     rfl
    ·rw[ew]
     omega
   | bn j a b'=>
    obtain⟨b,x,x2,rfl,hb,hx',hx2⟩:=ai
    obtain⟨hj,oka,okb⟩:=oki
    obtain⟨zj,ej,cj⟩:=RA hj
    refine⟨_,rfl,_,_,_,_,rfl,.tup hb,DB _,_,rfl,?_⟩
    refine Bd ?_
    refine⟨_,rfl,b,_,_,_,rfl,rfl,SqT.of hb,As (j:=0) rfl,rfl,_,rfl,?_⟩
    refine Dd Ji ?_
    refine⟨_,rfl,b,_,_,_,rfl,rfl,SqT.of hb,As (j:=0) rfl,rfl,_,rfl,?_⟩
    refine Dd P8 ?_
    have le2':ys.length+(ws is'+(wt a+wt b'+4))≤92:=le1'
    refine⟨_,rfl,.inl ⟨rfl,_,SqL.of w1⟩,_,rfl,b,_,_,_,rfl,rfl,SqT.of hb,As (j:=2) rfl,_,rfl,b,_,_,_,rfl,rfl,SqT.of hb,As (j:=0) rfl,dJ,_,_,_,rfl,rfl,hJ,ej,_,rfl,b,_,_,_,rfl,rfl,SqT.of hb,As (j:=1) rfl,VQ,fun nl hnl=>?_⟩
    have kp:TS (upd H2 wl (.lst xs.dropLast)) (upd (upd (upd H2 wl (.lst xs.dropLast)) nl (.lst [.str ")",x2,.str zj,x,.str "("])) wl (.lst (xs.dropLast++[.str ")",x2,.str zj,x,.str "("]))):=(TS.new hnl).trans (TS.lst ((Ag hnl _) _ _ w1))
    refine⟨wl,nl,_,_,rfl,rfl,(Ag hnl _) _ _ w1,upd_same,Dq (by show xs.dropLast.length+5≤1000;omega),?_⟩
    have ew:ws (is'++[.inl ")",.inr b',.inl zj,.inr a,.inl "("])=ws is'+(wt a+wt b'+3):=by
     rw[IG]
     unfold ws
     simp[wi]
     omega
    refine⟨_,?_,_,ys,xs.dropLast++[.str ")",x2,.str zj,x,.str "("],is'++[.inl ")",.inr b',.inl zj,.inr a,.inl "("],rfl,⟨AH (sm1.trans (Ag hnl _)) nw _,by rw[Aq ne];exact (Ag hnl _) _ _ s1,upd_same,(it1.keep kp).app (VM (WC (hx2.keep kp) (VM (WC (hx'.keep kp) (VM .nil))))),?_,?_,?_⟩,rfl⟩
    ·rw[we,ew]
     show ws is'+(wt a+wt b'+3)<ws is'+(wt a+wt b'+4)
     omega
    ·intro i' hi'
     rcases List.mem_append.mp hi' with z | z
     ·exact ok1 i' z
     ·have e5:i'= .inl ")"∨i'= .inr b'∨i'= .inl zj∨i'= .inr a∨i'= .inl "(":=by simpa using z
      rcases e5 with e | e | e | e | e
      ·subst e;rfl
      ·subst e;exact okb
      ·subst e
       show zj.length=1
       rw[BZ,cj]
       rfl
      ·subst e;exact oka
      ·subst e;rfl
    ·rw[IH,←eq1]
     congr 1
     have e3:OF [.inl ")",.inr b',.inl zj,.inr a,.inl "("]=HU "("++(Cf a++(HU zj++(Cf b'++HU ")"))):=by
      unfold OF
      simp[Pb]
     rw[e3,cj]
     rfl
    ·rw[ew]
     omega
 ·have hx:xs=[]:=by
   cases xs with
   | nil=>rfl
   | cons a r=>exact absurd rfl c
  subst hx
  have eq1:=p.eq
  cases p.it
  have eq2:Hm ys=Cf t:=by
   have:OF []=[]:=rfl
   rw[this,List.append_nil] at eq1
   exact eq1
  refine⟨rfl,_,rfl,_,_,ys,rfl,rfl,SqL.of p.s,?_,?_⟩
  ·rw[Km,eq2]
   have:=DK t
   show (Cf t).length+ys.length*0≤16777216
   omega
  ·exact q _ H2 (by rw[Nb];exact eq2) p.sm
end
theorem UZ {P:Program} {w:World} {K:PySem.W.Frag} {dd:Addr} {a b c d x y z u:Str} {t1 t2 t3 t4 t5 t6 t7 t8:Tok} {ep:Nat} {f:Str→Option V}
  (l:K.lookup dd=some ⟨.type "dict",none,.dict #[⟨hashStr w a,.str a t1,.str x t2⟩,⟨hashStr w b,.str b t3,.str y t4⟩,⟨hashStr w c,.str c t5,.str z t6⟩,⟨hashStr w d,.str d t7,.str u t8⟩] ep,#[]⟩)
  (nd:[a,b,c,d].Nodup) (nm:(dd == sysModules)=false) (hf:∀k,f k=if k=a then some (.str x) else if k=b then some (.str y) else if k=c then some (.str z) else if k=d then some (.str u) else none):Uh P w K dd f:=by
 refine⟨nm,_,[(a,.str x t2),(b,.str y t4),(c,.str z t6),(d,.str u t8)],l,⟨_,_,⟨rfl,rfl,rfl⟩,rfl,fun e he=>?_,?_,nd⟩,fun k=>?_⟩
 ·have he':e=⟨hashStr w a,.str a t1,.str x t2⟩∨e=⟨hashStr w b,.str b t3,.str y t4⟩∨e=⟨hashStr w c,.str c t5,.str z t6⟩∨e=⟨hashStr w d,.str d t7,.str u t8⟩:=by simpa using he
  rcases he' with e1 | e1 | e1 | e1
  ·subst e1;exact⟨a,strKind_is _ _ _ _,rfl⟩
  ·subst e1;exact⟨b,strKind_is _ _ _ _,rfl⟩
  ·subst e1;exact⟨c,strKind_is _ _ _ _,rfl⟩
  ·subst e1;exact⟨d,strKind_is _ _ _ _,rfl⟩
 ·exact .cons (strKind_is _ _ _ _) rfl (.cons (strKind_is _ _ _ _) rfl (.cons (strKind_is _ _ _ _) rfl (.cons (strKind_is _ _ _ _) rfl .nil)))
 ·rw[hf]
  unfold valueAt
  by_cases h1:k=a
  ·subst h1
   rw[if_pos rfl,List.find?_cons_of_pos (by simp)]
   exact⟨_,rfl⟩
  rw[if_neg h1,List.find?_cons_of_neg (by simpa using fun q=>h1 q.symm)]
  by_cases h2:k=b
  ·subst h2
   rw[if_pos rfl,List.find?_cons_of_pos (by simp)]
   exact⟨_,rfl⟩
  rw[if_neg h2,List.find?_cons_of_neg (by simpa using fun q=>h2 q.symm)]
  by_cases h3:k=c
  ·subst h3
   rw[if_pos rfl,List.find?_cons_of_pos (by simp)]
   exact⟨_,rfl⟩
  rw[if_neg h3,List.find?_cons_of_neg (by simpa using fun q=>h3 q.symm)]
  by_cases h4:k=d
  ·subst h4
   rw[if_pos rfl,List.find?_cons_of_pos (by simp)]
   exact⟨_,rfl⟩
  rw[if_neg h4,List.find?_cons_of_neg (by simpa using fun q=>h4 q.symm)]
  exact True.intro
abbrev DY:Stmt:=Bm 35
def Bx (m:Nat) (ts:List Tr):List Int:=ts.foldl (fun r t=>r.filter fun k=>tv t k == true) (BY (2^m))
theorem NR {m:Nat} {ts:List Tr} {t:Tr}:Bx m (ts++[t])=(Bx m ts).filter fun k=>tv t k == true:=by
 unfold Bx
 rw[List.foldl_append]
 rfl
theorem Ko:∀(ts:List Tr) (r:List Int),(ts.foldl (fun r t=>r.filter fun k=>tv t k == true) r).Sublist r
 | [],r=>List.Sublist.refl r
 | t::ts,r=>(Ko ts _).trans List.filter_sublist
theorem MR {m:Nat} (h:m≤5) (ts:List Tr):Wr (Bx m ts):=(SB h).sub (Ko ts _)
def Kl (cS cW:Addr):Sp:=fun vs H Q E=>∃(st:Addr) (m:Nat) (xs:List V) (ts:List Tr),vs=[.int m,.ref st]∧H st=some (.lst xs)∧Pile H xs ts∧(∀t∈ts,t.ok 5∧t.size≤60)∧1≤m∧m≤5∧
 ((∃t∈ts,¬t.ok m)→∀H',Same H H'→E (.ref cS) none H')∧((∀t∈ts,t.ok m)→Bx m ts=[]→∀H',Same H H'→E (.ref cW) none H')∧
 ((∀t∈ts,t.ok m)→Bx m ts≠[]→∀(l:Addr) (H':Hp),Same H H'→H l=none→AV H' l (Bx m ts)→Q (.ref l) H')
section
variable {cS cW cT:Addr}
theorem scRoomOf:Al ["many","standing","sentence","room"] ["many","standing"] (Ad DY):=Bn
theorem NH {g1 g2 g3:Addr} {d1 d2 d3:FuncData} (F:Fun K "room_of" "room_of" DY f fd) (T:Ht mg) (XW:Cb K mg "NoWorld" cW cT)
  (GR:FnOk P w K mg bz (A4 P w) 3 g1 d1 ["sentence","many"] (Cs cS)) (CR:AW K mg "refuse_strange" g1 d1 ["sentence","many"])
  (GA:FnOk P w K mg bz AU 1 g2 d2 ["many"] Kh) (CA:AW K mg "all_worlds" g2 d2 ["many"])
  (GW:FnOk P w K mg bz AU 3 g3 d3 ["sentence","room"] (BV K)) (CW:AW K mg "worlds_of" g3 d3 ["sentence","room"]):FnOk P w K mg bz (A4 P w) 4 f fd ["many","standing"] (Kl cS cW):=by
 refine Fun.okX F scRoomOf (fun vs H Q E h=>?_) (fun cdv A outer s H vs Q E hr h=>?_)
 ·obtain⟨st,m,xs,ts,rfl,_⟩:=h
  rfl
 obtain⟨st,m,xs,ts,rfl,hS,hP,hok,hm1,hm5,qS,qW,q⟩:=h
 have hr1:Room 1 _:=hr.mono (by decide)
 have hr3:Room 3 _:=hr.mono (by decide)
 have hpl:=hP.len
 refine⟨_,Ae (Bv PassesOwn.leaving rfl (Be (pv 1)) (AN (i:=2) scRoomOf.nd rfl (Or.inl rfl))
   (Af (AA (An GR hr3 (by rfl) CR.m CR.k CR.b .nil (Ap (E1:=E) fun _ _ _ h=>h) (Ab (pv 2) (Ab (pv 0) Ac))))))
  (Ae (Ax (i:=3) scRoomOf.nd rfl (Or.inl rfl) (An GA hr1 (by rfl) CA.m CA.k CA.b .nil Ay (Ab (pv 0) Ac)))
  (Ae (Bv PassesOwn.leaving rfl (Be (pv 1)) (AN (i:=2) scRoomOf.nd rfl (Or.inl rfl))
   (Af (Ax (i:=3) scRoomOf.nd rfl (Or.inl rfl) (An GW hr3 (by rfl) CW.m CW.k CW.b .nil Ay (Ab (pv 2) (Ab (pv 3) Ac))))))
  (Ae (AC (Ca (Cp (pv 3) (fun _=>rfl)))
   (Af (Bq (Ex:=E) BG rfl XW.cls XW.at_ XW.ty (by rfl) XW.m (Ab Ah Ac) (hvl:=fun _ _ _ h=>⟨by decide,h⟩)))
   Aw)
  (Af (Am (pv 3)))))),?_⟩
 refine⟨_,rfl,st,rfl,⟨_,SqL.of hS⟩,A7 (K:=K) (a:=st) (xs:=xs) (fun i σ H2=>∃v0,σ=[some (.int (m:Int)),some (.ref st),v0,none]∧Same H H2∧∀t∈ts.take i,t.ok m) ⟨_,rfl,Same.refl _,fun t ht=>by simp at ht⟩ ?_ ?_ ?_⟩
 ·rintro i σ H2 _ ⟨v0,rfl,s2,_⟩
  exact SqL.of (s2 _ _ hS)
 ·rintro i x σ H2 hx ⟨v0,rfl,s2,hall⟩
  obtain⟨t,ht,hat⟩:=BU hP hx
  obtain⟨o1,o2⟩:=hok t (List.mem_of_getElem? ht)
  refine⟨_,rfl,_,rfl,x,t,m,rfl,hat.keep (TS.same s2),o1,o2,fun hn H3 s3=>qS ⟨t,List.mem_of_getElem? ht,hn⟩ H3 (s2.trans s3),fun hy H3 s3=>?_⟩
  refine⟨_,rfl,s2.trans s3,fun u hu=>?_⟩
  rw[List.take_add_one,ht] at hu
  rcases List.mem_append.mp hu with h1 | h1
  ·exact hall u h1
  ·have:u=t:=by simpa using h1
   rw[this]
   exact hy
 rintro σ H2 ⟨v0,rfl,s2,hall⟩
 rw[hpl,List.take_length] at hall
 refine⟨_,rfl,m,rfl,hm1,hm5,fun r H3 s3 r0 hr3'=>?_⟩
 have s23:=s2.trans s3
 refine⟨_,rfl,st,rfl,⟨_,SqL.of (s23 _ _ hS)⟩,A7 (K:=K) (a:=st) (xs:=xs) (fun i σ H4=>∃(v0:Option V) (r:Addr),σ=[some (.int (m:Int)),some (.ref st),v0,some (.ref r)]∧Same H H4∧H r=none∧AV H4 r (Bx m (ts.take i))) ⟨_,r,rfl,s23,s2.free r0,hr3'⟩ ?_ ?_ ?_⟩
 ·rintro i σ H4 _ ⟨v0,r,rfl,s4,_⟩
  exact SqL.of (s4 _ _ hS)
 ·rintro i x σ H4 hx ⟨v0,r,rfl,s4,r0',hr4⟩
  obtain⟨t,ht,hat⟩:=BU hP hx
  obtain⟨o1,o2⟩:=hok t (List.mem_of_getElem? ht)
  refine⟨_,rfl,_,rfl,x,t,r,_,rfl,hat.keep (TS.same s4),o1,by omega,SqL.of hr4,MR hm5 _,fun l H5 s5 l0 hl=>?_⟩
  refine⟨_,l,rfl,s4.trans s5,s4.free l0,?_⟩
  rw[List.take_add_one,ht]
  show AV H5 l (Bx m (ts.take i++[t]))
  rw[NR]
  exact hl
 rintro σ H4 ⟨v0,r,rfl,s4,r0',hr4⟩
 rw[hpl,List.take_length] at hr4
 refine⟨_,rfl,_,.inl ⟨_,SqL.of hr4,rfl⟩,?_⟩
 by_cases c:Bx m ts=[]
 ·rw[c]
  exact Bo (qW hall c H4 s4)
 ·have e:(!((Bx m ts).map V.int).isEmpty)=true:=by
   cases h:Bx m ts with
   | nil=>exact absurd h c
   | cons _ _=>rfl
  rw[e]
  exact Bd ⟨_,rfl,q hall c r H4 s4 r0' hr4⟩
end
abbrev DP:Stmt:=Bm 60
abbrev E5:Stmt:=AF (Bm 73) 0
abbrev Ed:Stmt:=AF (Bm 73) 24
structure Hk where
 dx:Addr
 sp:Addr
 mks:Addr
 tk:Addr
 ln:Addr
def Dx (U:Hk) (m:Nat):List (Str×V):=[("space",.ref U.sp),("many",.int m),("marks",.ref U.mks),("talks",.ref U.tk),("lines",.ref U.ln)]
theorem KG {U:Hk} {m:Nat}:(Dx U m).lookup ("space":Str)=some (.ref U.sp):=by with_unfolding_all rfl
theorem KI {U:Hk} {m:Nat}:(Dx U m).lookup ("lines":Str)=some (.ref U.ln):=by with_unfolding_all rfl
theorem DH {U:Hk} {m:Nat}:(Dx U m).lookup ("write":Str)=none:=by with_unfolding_all rfl
def DD (ws:List Str):Str:=Txt.join " " ws
def KF:Sp:=fun vs H Q _=>∃(l:Addr) (ws:List Str),vs=[.ref l]∧H l=some (.lst (ws.map V.str))∧(ws.map (·.length)).sum+ws.length≤100000∧Q (.str (DD ws)) H
def Da (C:Addr):Sp:=fun vs H Q _=>∃(x l:Addr) (U:Hk) (m:Nat) (ws:List Str) (ls:List V),vs=[.ref x,.ref l]∧H x=some (.ins C U.dx (Dx U m))∧H U.ln=some (.lst ls)∧ls.length≤900∧H l=some (.lst (ws.map V.str))∧(ws.map (·.length)).sum+ws.length≤100000∧Q .non (upd H U.ln (.lst (ls++[.str (DD ws)])))
section
variable {cH cS cW cT:Addr}
theorem Qe:Al ["words"] ["words"] (Ad DP):=Bn
theorem Pm:Al ["self","words"] ["self","words"] (Ad Ed):=Bn
theorem Nt (F:Fun K "line_of" "line_of" DP f fd):FnOk P w K mg bz AU 1 f fd ["words"] KF:=by
 refine F.ok Qe (fun vs H Q E h=>?_) (fun cdv A outer s H vs Q E hr h=>?_)
 ·obtain⟨l,ws,rfl,_⟩:=h
  rfl
 obtain⟨l,ws,rfl,hl,hz,q⟩:=h
 refine⟨_,Af (Am (Bw PySem.F.plainAttrs_str PySem.F.slot_str_join PySem.F.type_str_join Jp Ah (Ab (pv 0) Ac))),?_⟩
 exact⟨rfl,_,rfl," ",l,ws,rfl,rfl,SqL.of hl,by show (ws.map (·.length)).sum+ws.length*1≤16777216;omega,q⟩
theorem NQ {g:Addr} {gd:FuncData} (F:Fun K "write" "House.write" Ed f fd) (HX:EU K cH) (GL:FnOk P w K mg bz AU 1 g gd ["words"] KF) (CL:AW K mg "line_of" g gd ["words"]):FnOk P w K mg bz AU 2 f fd ["self","words"] (Da cH):=by
 refine F.ok Pm (fun vs H Q E h=>?_) (fun cdv A outer s H vs Q E hr h=>?_)
 ·obtain⟨x,l,U,m,ws,ls,rfl,_⟩:=h
  rfl
 obtain⟨x,l,U,m,ws,ls,rfl,hx,hln,hls,hl,hz,q⟩:=h
 have hr1:Room 1 _:=hr.mono (by decide)
 refine⟨_,Af (AA (Bw PySem.F.plainAttrs_list PySem.F.slot_list_append PySem.F.type_list_append AZ (AT (pv 0) rfl) (Ab (An GL hr1 (by rfl) CL.m CL.k CL.b .nil Ay (Ab (pv 1) Ac)) Ac))),?_⟩
 exact⟨_,rfl,x,cH,_,_,_,rfl,hx,HX.cl,HX.lines,KI,.inl ⟨rfl,_,SqL.of hln⟩,_,rfl,l,ws,rfl,hl,hz,U.ln,_,_,rfl,rfl,hln,AO (by omega),q⟩
end
theorem Ol {K:PySem.W.Frag} {a acc:Addr} {xs vs:List V} {te:TE} {rest:L2.St} {D:Ends} {H:Hp} (hr:SqL K H a xs) (hacc:H acc=none) (hlen:xs.length≤900) (hb:vs.length=xs.length)
  (ht:∀(i:Nat) (x b:V),xs[i]? = some x→vs[i]? = some b→∀H2,Same H H2→∀R:V→Hp→Prop,(∀H3,Same H2 H3→R b H3)→te (some x::rest) H2 R)
  (hd:∀v0 H2,Same H H2→H2 acc=some (.lst vs)→D.nx (v0::rest) H2) (v:Option V) :
  EO (UF K a) (HH 0) (Em MW (Ds acc te)) D (v::rest) (upd H acc (.lst [])):=by
 refine A7 (K:=K) (a:=a) (xs:=xs) (fun i σ H2=>∃v0,σ=v0::rest∧Same H H2∧H2 acc=some (.lst (vs.take i))) ⟨v,rfl,Ag hacc _,upd_same⟩ ?_ ?_ ?_
 ·rintro i σ H2 _ ⟨v0,rfl,s2,_⟩
  exact s2.seq hr
 ·rintro i x σ H2 hx ⟨v0,rfl,s2,ha2⟩
  have hi:i<vs.length:=by
   have:=(List.getElem?_eq_some_iff.mp hx).1
   omega
  have hbi:vs[i]? = some vs[i]:=List.getElem?_eq_getElem hi
  have et:vs.take (i+1)=vs.take i++[vs[i]]:=by rw[List.take_add_one,hbi];rfl
  show Ds acc te _ _ _
  refine ht i x _ hx hbi H2 s2 _ fun H3 s3=>?_
  refine⟨_,s3 _ _ ha2,AO ?_,?_⟩
  ·rw[List.length_take]
   omega
  refine⟨_,rfl,AH (s2.trans s3) hacc _,?_⟩
  rw[upd_same,et]
 ·rintro σ H2 ⟨v0,rfl,s2,ha2⟩
  rw[←hb,List.take_length] at ha2
  exact hd v0 H2 s2 ha2
def EV (t:Tr):Str:=⟨(Cf t).toArray⟩
theorem LE {z:Str} {t:Tr} (h:HU z=Cf t):z=EV t:=by
 unfold EV
 rw[←h]
theorem Jl (t:Tr):(EV t).length≤4*t.size:=by
 have:=DK t
 have e:(EV t).length=(Cf t).length:=by
  show (Cf t).toArray.size=_
  rw[List.size_toArray]
 omega
def Gv (m:Nat) (ts:List Tr):Str:=DD (Str.ofString "house"::Str.ofString (toString (m:Int))::ts.map EV)
theorem Iz:∀{ts:List Tr},(∀t∈ts,t.size≤60)→((ts.map EV).map (·.length)).sum≤240*ts.length
 | [],_=>Nat.le_refl _
 | t::ts,h=>by
  have h1:=Jl t
  have h2:=h t List.mem_cons_self
  have h3:=Iz (ts:=ts) fun u hu=>h u (List.mem_cons_of_mem _ hu)
  rw[List.map_cons,List.map_cons,List.sum_cons,List.length_cons]
  omega
theorem Ov {m:Nat} (h:m≤5):(Str.ofString (toString (m:Int))).length≤10:=by
 match m,h with
 | 0,_=>decide
 | 1,_=>decide
 | 2,_=>decide
 | 3,_=>decide
 | 4,_=>decide
 | 5,_=>decide
theorem QT (m:Nat):(List.replicate ((m:Int)).toNat [V.non]).flatten=List.replicate m V.non:=by
 rw[Int.toNat_natCast]
 induction m with
 | zero=>rfl
 | succ m ih=>rw[List.replicate_succ,List.flatten_cons,ih];rfl
def Mz (C cS cW:Addr):Sp:=fun vs H Q E=>∃(x dx st:Addr) (m:Nat) (xs:List V) (ts:List Tr),vs=[.ref x,.int m,.ref st]∧H x=some (.ins C dx [])∧H st=some (.lst xs)∧Pile H xs ts∧(∀t∈ts,t.ok 5∧t.size≤23)∧ts.length≤100∧1≤m∧m≤5∧
 ((∃t∈ts,¬t.ok m)→∀H',But [x] H H'→E (.ref cS) none H')∧((∀t∈ts,t.ok m)→Bx m ts=[]→∀H',But [x] H H'→E (.ref cW) none H')∧
 ((∀t∈ts,t.ok m)→Bx m ts≠[]→∀(U:Hk) (H':Hp),But [x] H H'→H U.sp=none→H U.mks=none→H U.tk=none→H U.ln=none→H' x=some (.ins C U.dx (Dx U m))→AV H' U.sp (Bx m ts)→H' U.mks=some (.lst (List.replicate m .non))→H' U.tk=some (.dK [])→H' U.ln=some (.lst [.str (Gv m ts)])→Q .non H')
section
variable {cH cS cW cT:Addr}
theorem Sz:Al ["self","many","standing"] ["self","many","standing"] (Ad E5):=Bn
theorem QY {g1 g2 m1:Addr} {d1 d2 e1:FuncData} (F:Fun K "__init__" "House.__init__" E5 f fd) (HX:EU K cH) (T:Ht mg)
  (GR:FnOk P w K mg bz (A4 P w) 4 g1 d1 ["many","standing"] (Kl cS cW)) (CR:AW K mg "room_of" g1 d1 ["many","standing"])
  (GS:FnOk P w K mg bz AU 1 g2 d2 ["sentence"] F0) (CS:AW K mg "shown" g2 d2 ["sentence"])
  (G1:FnOk P w K mg bz AU 2 m1 e1 ["self","words"] (Da cH)) (C1:AD K cH "write" m1 e1 ["self","words"]):FnOk P w K mg bz (A4 P w) 5 f fd ["self","many","standing"] (Mz cH cS cW):=by
 refine Fun.okX F Sz (fun vs H Q E h=>?_) (fun cdv A outer s H vs Q E hr h=>?_)
 ·obtain⟨x,dx,st,m,xs,ts,rfl,_⟩:=h
  rfl
 obtain⟨x,dx,st,m,xs,ts,rfl,hx,hS,hP,hok,hlen,hm1,hm5,qS,qW,q⟩:=h
 have hr1:Room 1 _:=hr.mono (by decide)
 have hr2:Room 2 _:=hr.mono (by decide)
 have hpl:=hP.len
 have nsx:st≠x:=A6 hS hx (by intro z;cases z)
 have kt:∀{H1:Hp},But [x] H H1→TS H H1:=fun b p xs e=>b.at e (Bi (A6 e hx (by intro z;cases z)))
 refine⟨_,Ae (BA (pv 0) (An GR hr (by rfl) CR.m CR.k CR.b .nil (Ap (E1:=E) fun _ _ _ h=>h) (Ab (pv 1) (Ab (pv 2) Ac))) rfl)
  (Ae (BA (pv 0) (pv 1) rfl)
  (Ae (BA (pv 0) (AK Ug (AE (Ab KQ Ac)) (pv 1)) rfl)
  (Ae (BA (pv 0) N9 rfl)
  (Ae (BA (pv 0) (AE Ac) rfl)
  (Af (AA (Az (pv 0) HX.cl C1.m G1 hr2 C1.b .nil Ay (Ab (AK QZ (AE (Ab Ah (Ab (A3 Ng (by rfl) T.str boot_str (Ab (pv 1) Ac)) Ac))) (PE.nox (Dz (N:=["sentence"]) (js:=[none]) (cl:=[]) ⟨rfl,rfl,rfl,List.forall_mem_nil _,rfl,rfl,rfl⟩ (Be (pv 2)) (fun c1=>(AN (i:=0) (show (["sentence"]:List Str).Nodup by decide +kernel) rfl (Or.inl rfl))) (fun c1=>D2) (fun c1=>(An GS hr1 (by rfl) CS.m CS.k CS.b .nil Ay (Ab (pv 0) Ac)))))) Ac)))))))),?_⟩
 refine⟨_,rfl,_,rfl,st,m,xs,ts,rfl,hS,hP,fun t ht=>⟨(hok t ht).1,by have:=(hok t ht).2;omega⟩,hm1,hm5,fun h1 H' s'=>qS h1 H' (Au s'),fun h1 h2 H' s'=>qW h1 h2 H' (Au s'),fun h1 h2 sp H2 s2 sp0 hsp=>?_⟩
 have b2:But [x] H H2:=Au s2
 have x2:=s2 _ _ hx
 have nspx:sp≠x:=(Ai hx sp0).symm
 refine⟨_,rfl,x,cH,dx,_,rfl,x2,HX.cl,HX.space,(by decide),?_⟩
 obtain⟨b3,x3,c3⟩:=Bf (C:=cH) (dx:=dx) (f:="space") (v:=.ref sp) (fs:=[]) (fs':=[("space",.ref sp)]) (by with_unfolding_all rfl) b2
 generalize upd H2 x _=H3 at *
 have sp3:=c3.at hsp (Bi nspx)
 refine⟨_,rfl,_,rfl,x,cH,dx,_,rfl,x3,HX.cl,HX.many,(by show 1<1000;decide),?_⟩
 obtain⟨b4,x4,c4⟩:=Bf (C:=cH) (dx:=dx) (f:="many") (v:=.int m) (fs:=[("space",.ref sp)]) (fs':=[("space",.ref sp),("many",.int m)]) (by with_unfolding_all rfl) b3
 generalize upd H3 x _=H4 at *
 have sp4:=c4.at sp3 (Bi nspx)
 refine⟨SV,fun nl hnl=>?_⟩
 have s5:=Ag hnl (.lst [.non])
 have nl5:upd H4 nl (.lst [.non]) nl=some (.lst [.non]):=upd_same
 generalize upd H4 nl _=H5 at *
 refine⟨_,rfl,nl,(m:Int),_,rfl,rfl,nl5,by omega,by omega,by show 1*((m:Int)).toNat≤sizeLine;exact Nat.le_trans (by omega:1*((m:Int)).toNat≤5) (by decide),fun mk hmk=>?_⟩
 rw[QT]
 have s6:=Ag hmk (.lst (List.replicate m .non))
 have mk6:upd H5 mk (.lst (List.replicate m .non)) mk=some (.lst (List.replicate m .non)):=upd_same
 generalize upd H5 mk _=H6 at *
 have s46:=s5.trans s6
 have x6:=s46 _ _ x4
 have nmx:mk≠x:=(Ai (s5 _ _ x4) hmk).symm
 have b6:But [x] H H6:=b4.trans (Au s46)
 refine⟨_,rfl,x,cH,dx,_,rfl,x6,HX.cl,HX.marks,(by show 2<1000;decide),?_⟩
 obtain⟨b7,x7,c7⟩:=Bf (C:=cH) (dx:=dx) (f:="marks") (v:=.ref mk) (fs:=[("space",.ref sp),("many",.int m)]) (fs':=[("space",.ref sp),("many",.int m),("marks",.ref mk)]) (by with_unfolding_all rfl) b6
 generalize upd H6 x _=H7 at *
 have sp7:=c7.at (s46 _ _ sp4) (Bi nspx)
 have mk7:=c7.at mk6 (Bi nmx)
 refine fun tk htk=>?_
 have s8:=Ag htk (.dK [])
 have tk8:upd H7 tk (.dK []) tk=some (.dK []):=upd_same
 generalize upd H7 tk _=H8 at *
 have x8:=s8 _ _ x7
 have ntx:tk≠x:=(Ai x7 htk).symm
 have b8:But [x] H H8:=b7.trans (Au s8)
 refine⟨_,rfl,x,cH,dx,_,rfl,x8,HX.cl,HX.talks,(by show 3<1000;decide),?_⟩
 obtain⟨b9,x9,c9⟩:=Bf (C:=cH) (dx:=dx) (f:="talks") (v:=.ref tk) (fs:=[("space",.ref sp),("many",.int m),("marks",.ref mk)]) (fs':=[("space",.ref sp),("many",.int m),("marks",.ref mk),("talks",.ref tk)]) (by with_unfolding_all rfl) b8
 generalize upd H8 x _=H9 at *
 have sp9:=c9.at (s8 _ _ sp7) (Bi nspx)
 have mk9:=c9.at (s8 _ _ mk7) (Bi nmx)
 have tk9:=c9.at tk8 (Bi ntx)
 refine⟨Of,fun ln hln=>?_⟩
 have s10:=Ag hln (.lst [])
 have ln10:upd H9 ln (.lst []) ln=some (.lst []):=upd_same
 generalize upd H9 ln _=H10 at *
 have x10:=s10 _ _ x9
 have nlx:ln≠x:=(Ai x9 hln).symm
 have b10:But [x] H H10:=b9.trans (Au s10)
 refine⟨_,rfl,x,cH,dx,_,rfl,x10,HX.cl,HX.lines,(by show 4<1000;decide),?_⟩
 obtain⟨b11,x11,c11⟩:=Bf (C:=cH) (dx:=dx) (f:="lines") (v:=.ref ln) (fs:=[("space",.ref sp),("many",.int m),("marks",.ref mk),("talks",.ref tk)]) (fs':=[("space",.ref sp),("many",.int m),("marks",.ref mk),("talks",.ref tk),("lines",.ref ln)]) (by with_unfolding_all rfl) b10
 generalize upd H10 x _=H11 at *
 have sp11:=c11.at (s10 _ _ sp9) (Bi nspx)
 have mk11:=c11.at (s10 _ _ mk9) (Bi nmx)
 have tk11:=c11.at (s10 _ _ tk9) (Bi ntx)
 have ln11:=c11.at ln10 (Bi nlx)
 have st11:=b11.at hS (Bi nsx)
 obtain⟨U,hU⟩:∃U:Hk,U=⟨dx,sp,mk,tk,ln⟩:=⟨_,rfl⟩
 have x11:H11 x=some (.ins cH U.dx (Dx U m)):=by rw[hU];exact x11
 refine⟨_,rfl,x,_,_,rfl,x11,DH,?_⟩
 refine⟨_,rfl,(m:Int),rfl,by omega,by omega,FV,fun al hal=>?_⟩
 have s12:=Ag hal (.lst [.str "house",.str (toString (m:Int):String)])
 have al12:upd H11 al (.lst [.str "house",.str (toString (m:Int):String)]) al=some (.lst [.str "house",.str (toString (m:Int):String)]):=upd_same
 generalize upd H11 al _=H12 at *
 have b12:But [x] H H12:=b11.trans (Au s12)
 have hP12:=Pile.keep (kt b12) hP
 refine⟨_,rfl,st,rfl,⟨_,SqL.of (s12 _ _ st11)⟩,fun cc acc hacc=>Ol (vs:=ts.map fun t=>V.str (EV t)) (rest:=[]) (SqL.of (s12 _ _ st11)) hacc (by omega) (by rw[List.length_map];omega) (fun i y b hy hb H13 s13 R hR=>?_) (fun v0 H13 s13 hac=>?_) none⟩
 ·obtain⟨t,ht,hat⟩:=BU hP12 hy
  obtain⟨o1,o2⟩:=hok t (List.mem_of_getElem? ht)
  rw[List.getElem?_map,ht] at hb
  cases hb
  refine⟨_,rfl,y,t,rfl,hat.keep (TS.same s13),o1,o2,fun z H14 hz s14=>?_⟩
  rw[LE hz]
  exact hR H14 s14
 have al13:=s13 _ _ al12
 have l2:([V.str "house",.str (toString (m:Int):String)]++ts.map fun t=>V.str (EV t)).length≤1000:=by
  rw[List.length_append,List.length_map]
  show 2+ts.length≤1000
  omega
 refine⟨al,acc,_,_,rfl,rfl,al13,hac,Dq (by rw[List.length_append] at l2;exact l2),fun cl hcl=>?_⟩
 have s14:=Ag hcl (.lst ([V.str "house",.str (toString (m:Int):String)]++ts.map fun t=>V.str (EV t)))
 have cl14:upd H13 cl (.lst ([V.str "house",.str (toString (m:Int):String)]++ts.map fun t=>V.str (EV t))) cl=some (.lst ([V.str "house",.str (toString (m:Int):String)]++ts.map fun t=>V.str (EV t))):=upd_same
 generalize upd H13 cl _=H14 at *
 have s1114:=s12.trans (s13.trans s14)
 have b14:But [x] H H14:=b11.trans (Au s1114)
 have ew:([V.str "house",.str (toString (m:Int):String)]++ts.map fun t=>V.str (EV t))=(Str.ofString "house"::Str.ofString (toString (m:Int))::ts.map EV).map V.str:=by
  rw[List.map_cons,List.map_cons,List.map_map]
  rfl
 rw[ew] at cl14
 have hsum:=Iz (ts:=ts) fun t ht=>Nat.le_trans (hok t ht).2 (by decide)
 have hdig:=Ov hm5
 have eU:U.ln=ln:=by rw[hU]
 refine⟨x,cl,U,m,_,[],rfl,s1114 _ _ x11,by rw[eU];exact s1114 _ _ ln11,by decide,cl14,?_,?_⟩
 ·rw[List.map_cons,List.map_cons,List.sum_cons,List.sum_cons,List.length_cons,List.length_cons,List.length_map]
  have e5:(Str.ofString "house").length=5:=rfl
  show (Str.ofString "house").length+((Str.ofString (toString (m:Int))).length+((ts.map EV).map (·.length)).sum)+(ts.length+1+1)≤100000
  omega
 have back:∀{H1:Hp} {c:Addr},But [x] H H1→c≠x→H1 c=none→H c=none:=fun {H1 c} b n e=>by
  cases e0:H c with
  | none=>rfl
  | some o=>rw[b.at e0 (Bi n)] at e;cases e
 have mk0:H mk=none:=back (b4.trans (Au s5)) nmx hmk
 have tk0:H tk=none:=back b7 ntx htk
 have ln0:H ln=none:=back b9 nlx hln
 have nls:sp≠ln:=Ai sp9 hln
 have nlm:mk≠ln:=Ai mk9 hln
 have nlt:tk≠ln:=Ai tk9 hln
 have bq:But [x] H (upd H14 U.ln (.lst ([]++[.str (Gv m ts)]))):=fun b o e=>by
  obtain⟨e1,e2⟩:=Br e
  rw[eU]
  exact Bh (by rw[Aq (fun z=>by rw[z,ln0] at e1;cases e1)];exact b14.at e1 e2) e2
 refine q h1 h2 U _ bq (by rw[hU];exact sp0) (by rw[hU];exact mk0) (by rw[hU];exact tk0) (by rw[hU];exact ln0) ?_ ?_ ?_ ?_ upd_same
 ·rw[Aq (by rw[eU];exact nlx.symm)]
  exact s1114 _ _ x11
 ·rw[hU]
  show upd H14 ln _ sp=_
  rw[Aq nls]
  exact s1114 _ _ sp11
 ·rw[hU]
  show upd H14 ln _ mk=_
  rw[Aq nlm]
  exact s1114 _ _ mk11
 ·rw[hU]
  show upd H14 ln _ tk=_
  rw[Aq nlt]
  exact s1114 _ _ tk11
end
structure HouseAt (N:List Addr) (C:Addr) (H:Hp) (x:Addr) (U:Hk) (m:Nat) (room:List Int) (marks:List (Option Bool)) (ls:List V):Prop where
 ob:H x=some (.ins C U.dx (Dx U m))
 ln:H U.ln=some (.lst ls)
 mx:x∈N
 ml:U.ln∈N
 sp:AV (Bb N H) U.sp room
 mkm:Bb N H U.mks=some (.lst (marks.map Rz))
 len:marks.length=m
 m1:1≤m
 m5:m≤5
 wr:Wr room
 ne:room.filter (M0 marks)≠[]
 l9:ls.length≤900
section
variable {N:List Addr} {C:Addr} {H H':Hp} {x:Addr} {U:Hk} {m:Nat} {room:List Int} {marks:List (Option Bool)} {ls:List V}
theorem HouseAt.keep (s:Same H H') (h:HouseAt N C H x U m room marks ls):HouseAt N C H' x U m room marks ls:=
 ⟨s _ _ h.ob,s _ _ h.ln,h.mx,h.ml,Au s _ _ h.sp,Au s _ _ h.mkm,h.len,h.m1,h.m5,h.wr,h.ne,h.l9⟩
theorem HouseAt.sp' (h:HouseAt N C H x U m room marks ls):AV H U.sp room:=AJ _ _ h.sp
theorem HouseAt.mk' (h:HouseAt N C H x U m room marks ls):H U.mks=some (.lst (marks.map Rz)):=AJ _ _ h.mkm
theorem HouseAt.xl (h:HouseAt N C H x U m room marks ls):x≠U.ln:=A6 h.ob h.ln (by intro z;cases z)
end
theorem MQ {U:Hk} {m:Nat}:(Dx U m).lookup ("many":Str)=some (.int m):=by with_unfolding_all rfl
theorem ON {U:Hk} {m:Nat}:(Dx U m).lookup ("marks":Str)=some (.ref U.mks):=by with_unfolding_all rfl
structure Tw where
 nm:Str
 a:Addr
 u:Tk
 w:Ta
structure HSt where
 x:Addr
 U:Hk
 m:Nat
 room:List Int
 marks:List (Option Bool)
 ls:List V
 ts:List Tw
def EA (ts:List Tw):List (Str×V):=ts.map fun p=>(p.nm,.ref p.a)
def Js (ts:List Tw):List Addr:=ts.flatMap fun p=>[p.u.gv,p.u.lf]
def Bp (ts:List Tw):List Str:=ts.map (·.nm)
theorem Cj {ts:List Tw} {p:Tw} (h:p∈ts):p.u.gv∈Js ts∧p.u.lf∈Js ts:=
 ⟨List.mem_flatMap.mpr ⟨p,h,by simp⟩,List.mem_flatMap.mpr ⟨p,h,by simp⟩⟩
theorem RW {a b:List Tw} (h:a.Sublist b):(Js a).Sublist (Js b):=by
 induction h with
 | slnil=>exact List.Sublist.refl _
 | cons x _ ih=>exact List.Sublist.trans ih (List.sublist_append_right [x.u.gv,x.u.lf] _)
 | cons_cons x _ ih=>exact List.Sublist.append (List.Sublist.refl [x.u.gv,x.u.lf]) ih
theorem I8:∀{ts:List Tw} {k:Str},k∈Bp ts→∃p∈ts,p.nm=k∧BS (EA ts) k=some (.ref p.a)
 | [],_,h=>nomatch h
 | p::ts,k,h=>by
  by_cases e:p.nm=k
  ·exact⟨p,List.mem_cons_self,e,by simp[BS,EA,e]⟩
  ·obtain⟨q,hq,e1,e2⟩:=I8 (ts:=ts) (k:=k) (by
    rcases List.mem_cons.mp h with z | z
    ·exact absurd z.symm e
    ·exact z)
   refine⟨q,List.mem_cons_of_mem _ hq,e1,?_⟩
   have:BS (EA (p::ts)) k=BS (EA ts) k:=by simp[BS,EA,List.find?_cons,e]
   rw[this];exact e2
theorem Je:∀{ts:List Tw} {k:Str},k∉Bp ts→BS (EA ts) k=none
 | [],_,_=>rfl
 | p::ts,k,h=>by
  have e:¬p.nm=k:=fun z=>h (by rw[←z];exact List.mem_cons_self)
  have:BS (EA (p::ts)) k=BS (EA ts) k:=by simp[BS,EA,List.find?_cons,e]
  rw[this]
  exact Je fun z=>h (List.mem_cons_of_mem _ z)
theorem My (ts:List Tw) (k:Str):(BS (EA ts) k).isSome=decide (k∈Bp ts):=by
 by_cases h:k∈Bp ts
 ·obtain⟨p,_,_,e⟩:=I8 h
  rw[e,decide_eq_true h];rfl
 ·rw[Je h,decide_eq_false h];rfl
theorem UM (ts:List Tw) (k:Str):NM (EA ts) k=EA (ts.filter fun p=>decide (p.nm≠k)):=by
 unfold NM EA
 rw[List.filter_map]
 rfl
structure HouseT (M:List Addr) (C cK:Addr) (H:Hp) (S:HSt):Prop where
 h:HouseAt M C H S.x S.U S.m S.room S.marks S.ls
 tk:H S.U.tk=some (.dK (dS (EA S.ts)))
 mt:S.U.tk∈M
 tt:∀p∈S.ts,TalkAt M cK H p.a p.u p.w∧p.w.room=S.room∧p.w.many=S.m
 nl:(S.U.ln::Js S.ts).Nodup
 na:(Bp S.ts).Nodup
 aa:(S.ts.map (·.a)).Nodup
 fr:∀b∈M,H b≠none
 tl:S.ts.length≤900
section
variable {M N:List Addr} {C cK:Addr} {H H':Hp} {S:HSt} {x:Addr} {U:Hk} {m:Nat} {room:List Int} {marks:List (Option Bool)} {ls:List V}
theorem Qc (s:Same H H') (hn:∀n∈N,H n=none):Same (Bb M H) (Bb (N++M) H'):=fun p u e=>by
 obtain⟨e1,e2⟩:=Br e
 refine Bh (s _ _ e1) fun z=>?_
 rcases List.mem_append.mp z with q | q
 ·rw[hn p q] at e1;cases e1
 ·exact e2 q
theorem HouseAt.more (h:HouseAt M C H x U m room marks ls) (s:Same H H') (hn:∀n∈N,H n=none):HouseAt (N++M) C H' x U m room marks ls:=by
 have k:=Qc (M:=M) s hn
 exact⟨s _ _ h.ob,s _ _ h.ln,List.mem_append_right _ h.mx,List.mem_append_right _ h.ml,k _ _ h.sp,k _ _ h.mkm,h.len,h.m1,h.m5,h.wr,h.ne,h.l9⟩
theorem HouseT.keep (s:Same H H') (h:HouseT M C cK H S):HouseT M C cK H' S:=
 ⟨h.h.keep s,s _ _ h.tk,h.mt,fun p hp=>⟨(h.tt p hp).1.keep s,(h.tt p hp).2⟩,h.nl,h.na,h.aa,fun b hb z=>h.fr b hb (s.free z),h.tl⟩
theorem HouseT.wrote (h:HouseT M C cK H S) (l:V) (hl:S.ls.length<900):HouseT M C cK (upd H S.U.ln (.lst (S.ls++[l]))) { S with ls:=S.ls++[l] }:=by
 have hx:=h.h
 have eu:Bb M (upd H S.U.ln (.lst (S.ls++[l])))=Bb M H:=Dj hx.ml
 refine⟨⟨by rw[Aq hx.xl];exact hx.ob,upd_same,hx.mx,hx.ml,by rw[eu];exact hx.sp,by rw[eu];exact hx.mkm,hx.len,hx.m1,hx.m5,hx.wr,hx.ne,by show (S.ls++[l]).length≤900;rw[List.length_append];exact hl⟩,?_,h.mt,fun p hp=>⟨?_,(h.tt p hp).2⟩,h.nl,h.na,h.aa,fun b hb=>?_,h.tl⟩
 ·exact (Aq (A6 h.tk hx.ln (by intro z;cases z))).trans h.tk
 ·have ht:=(h.tt p hp).1
  have nl:=(List.nodup_cons.mp h.nl).1
  have n1:p.u.gv≠S.U.ln:=fun z=>nl (by rw[←z];exact (Cj hp).1)
  have n2:p.u.lf≠S.U.ln:=fun z=>nl (by rw[←z];exact (Cj hp).2)
  exact ht.but (But.upd hx.ml) (Aq (A6 ht.ob hx.ln (by intro z;cases z))) (Aq n1) (Aq n2)
 ·by_cases e:b=S.U.ln
  ·rw[e,upd_same];exact fun z=>by cases z
  ·rw[Aq e];exact h.fr b hb
theorem HouseT.put {d0:List (Er×V)} {ts:List Tw} (h:HouseAt M C H S.x S.U S.m S.room S.marks S.ls) (e:H S.U.tk=some (.dK d0)) (mt:S.U.tk∈M) (tt:∀p∈ts,TalkAt M cK H p.a p.u p.w∧p.w.room=S.room∧p.w.many=S.m)
  (nl:(S.U.ln::Js ts).Nodup) (na:(Bp ts).Nodup) (aa:(ts.map (·.a)).Nodup) (fr:∀b∈M,H b≠none) (tl:ts.length≤900):HouseT M C cK (upd H S.U.tk (.dK (dS (EA ts)))) { S with ts:=ts }:=by
 have eu:Bb M (upd H S.U.tk (.dK (dS (EA ts))))=Bb M H:=Dj mt
 refine⟨⟨(Aq (A6 h.ob e (by intro z;cases z))).trans h.ob,(Aq (A6 h.ln e (by intro z;cases z))).trans h.ln,h.mx,h.ml,by rw[eu];exact h.sp,by rw[eu];exact h.mkm,h.len,h.m1,h.m5,h.wr,h.ne,h.l9⟩,upd_same,mt,fun p hp=>⟨?_,(tt p hp).2⟩,nl,na,aa,fun b hb=>?_,tl⟩
 ·have ht:=(tt p hp).1
  exact ht.but (But.upd mt) (Aq (A6 ht.ob e (by intro z;cases z))) (Aq (A6 ht.gv e (by intro z;cases z))) (Aq (A6 ht.lf e (by intro z;cases z)))
 ·by_cases c:b=S.U.tk
  ·rw[c,upd_same];exact fun z=>by cases z
  ·rw[Aq c];exact fr b hb
theorem HouseT.more {n:Str} {a:Addr} {u:Tk} {w:Ta} (h:HouseT M C cK H S) (s:Same H H') (a0:H a=none) (g0:H u.gv=none) (l0:H u.lf=none) (ht:TalkAt (a::u.gv::u.lf::M) cK H' a u w) (hr:w.room=S.room) (hm:w.many=S.m) (hn:n∉Bp S.ts) (hl:S.ts.length<900) :
  HouseT (a::u.gv::u.lf::M) C cK (upd H' S.U.tk (.dK (dS (EA (S.ts++[⟨n,a,u,w⟩]))))) { S with ts:=S.ts++[⟨n,a,u,w⟩] }:=by
 have hN:∀b∈[a,u.gv,u.lf],H b=none:=fun b hb=>by
  simp only[List.mem_cons,List.not_mem_nil,or_false] at hb
  rcases hb with rfl | rfl | rfl
  ·exact a0
  ·exact g0
  ·exact l0
 have old:∀p∈S.ts,H p.u.gv≠none∧H p.u.lf≠none∧H p.a≠none:=fun p hp=>by
  have t:=(h.tt p hp).1
  refine⟨?_,?_,?_⟩<;>intro z
  ·rw[t.gv] at z;cases z
  ·rw[t.lf] at z;cases z
  ·rw[t.ob] at z;cases z
 refine HouseT.put (S:=S) (h.h.more (N:=[a,u.gv,u.lf]) s hN) (s _ _ h.tk) (List.mem_append_right [a,u.gv,u.lf] h.mt) (fun p hp=>?_) ?_ ?_ ?_ (fun b hb=>?_) ?_
 ·rcases List.mem_append.mp hp with q | q
  ·exact⟨(h.tt p q).1.cutmore (N:=[a,u.gv,u.lf]) s hN,(h.tt p q).2⟩
  ·rw[List.mem_singleton.mp q];exact⟨ht,hr,hm⟩
 ·have e:S.U.ln::Js (S.ts++[⟨n,a,u,w⟩])=(S.U.ln::Js S.ts)++[u.gv,u.lf]:=by
   unfold Js
   rw[List.flatMap_append];rfl
  rw[e]
  have hin:∀b∈S.U.ln::Js S.ts,H b≠none:=fun b hb z=>by
   rcases List.mem_cons.mp hb with q | q
   ·rw[q,h.h.ln] at z;cases z
   ·obtain⟨p,hp,q2⟩:=List.mem_flatMap.mp q
    simp only[List.mem_cons,List.not_mem_nil,or_false] at q2
    rcases q2 with rfl | rfl
    ·exact (old p hp).1 z
    ·exact (old p hp).2.1 z
  refine List.nodup_append.mpr ⟨h.nl,?_,fun b hb c hc=>?_⟩
  ·exact List.nodup_cons.mpr ⟨fun z=>ht.ne (List.mem_singleton.mp z),List.nodup_cons.mpr ⟨(fun z=>by cases z),List.nodup_nil⟩⟩
  ·rintro rfl
   simp only[List.mem_cons,List.not_mem_nil,or_false] at hc
   rcases hc with rfl | rfl
   ·exact hin _ hb g0
   ·exact hin _ hb l0
 ·show ((S.ts++[(⟨n,a,u,w⟩:Tw)]).map Tw.nm).Nodup
  rw[List.map_append]
  refine List.nodup_append.mpr ⟨h.na,List.nodup_cons.mpr ⟨(fun z=>by cases z),List.nodup_nil⟩,fun b hb c hc=>?_⟩
  rintro rfl
  rw[List.mem_singleton.mp hc] at hb
  exact hn hb
 ·rw[List.map_append]
  refine List.nodup_append.mpr ⟨h.aa,List.nodup_cons.mpr ⟨(fun z=>by cases z),List.nodup_nil⟩,fun b hb c hc=>?_⟩
  rintro rfl
  rw[List.mem_singleton.mp hc] at hb
  obtain⟨p,hp,e⟩:=List.mem_map.mp hb
  exact (old p hp).2.2 (by rw[e];exact a0)
 ·intro z
  simp only[List.mem_cons] at hb
  rcases hb with rfl | rfl | rfl | hb
  ·rw[ht.ob] at z;cases z
  ·rw[ht.gv] at z;cases z
  ·rw[ht.lf] at z;cases z
  ·exact h.fr b hb (s.free z)
 ·rw[List.length_append];exact hl
theorem HouseT.less (h:HouseT M C cK H S) (k:Str):HouseT M C cK (upd H S.U.tk (.dK (dS (EA (S.ts.filter fun p=>decide (p.nm≠k)))))) { S with ts:=S.ts.filter fun p=>decide (p.nm≠k) }:=by
 have sub:(S.ts.filter fun p=>decide (p.nm≠k)).Sublist S.ts:=List.filter_sublist
 refine HouseT.put (S:=S) h.h h.tk h.mt (fun p hp=>h.tt p (sub.subset hp)) ?_ ((sub.map _).nodup h.na) ((sub.map _).nodup h.aa) h.fr (Nat.le_trans sub.length_le h.tl)
 exact (List.Sublist.cons_cons _ (RW sub)).nodup h.nl
end
theorem De {U:Hk} {m:Nat}:(Dx U m).lookup ("talks":Str)=some (.ref U.tk):=by with_unfolding_all rfl
abbrev B4:Stmt:=AF (Bm 73) 27
abbrev Cz:Stmt:=AF (Bm 73) 26
abbrev CZ:Stmt:=AF (Bm 73) 25
abbrev D4:Stmt:=AF (Bm 73) 9
abbrev FA:Stmt:=AF (Bm 73) 8
theorem Ll {U:Hk} {m:Nat}:(Dx U m).lookup ("refuse_new_name":Str)=none:=by with_unfolding_all rfl
theorem Il {U:Hk} {m:Nat}:(Dx U m).lookup ("refuse_no_talk":Str)=none:=by with_unfolding_all rfl
theorem Bc {U:Hk} {m:Nat}:(Dx U m).lookup ("talk_of":Str)=none:=by with_unfolding_all rfl
theorem QX {U:Hk} {m:Nat}:(Dx U m).lookup ("names":Str)=none:=by with_unfolding_all rfl
theorem Mj {U:Hk} {m:Nat}:(Dx U m).lookup ("drop":Str)=none:=by with_unfolding_all rfl
theorem Gi {U:Hk} {m:Nat}:(Dx U m).lookup ("begin":Str)=none:=by with_unfolding_all rfl
theorem RG {U:Hk} {m:Nat}:(Dx U m).lookup ("fork":Str)=none:=by with_unfolding_all rfl
def Dq (c:Nat):Bool:=decide (97≤c∧c≤122)
def goodN (k:Str):Prop:=1≤k.length∧k.length≤8∧k.cps.toList.all Dq=true
instance (k:Str):Decidable (goodN k):=by unfold goodN;infer_instance
theorem VE:∀c:Nat,c<128→(!(Builtin.Str.occurrences ("abcdefghijklmnopqrstuvwxyz":Str) (⟨#[c]⟩:Str) 0 ("abcdefghijklmnopqrstuvwxyz":Str).length 1).isEmpty)=Dq c:=by decide +kernel
theorem LK {acc:Addr} {z:Str} {f:Nat→Bool} {te:TE} {rest:L2.St} {D:Ends} {H:Hp} (hacc:H acc=none) (hlen:z.length≤900)
  (ht:∀c,c∈z.cps.toList→∀H2,Same H H2→∀R:V→Hp→Prop,(∀H3,Same H2 H3→R (.bl (f c)) H3)→te (some (.str ⟨#[c]⟩)::rest) H2 R)
  (hd:∀v0 H2,Same H H2→H2 acc=some (.lst ((z.cps.toList.map f).map V.bl))→D.nx (v0::rest) H2) (v:Option V) :
  EO (Vk z) (HH 0) (Em MW (Ds acc te)) D (v::rest) (upd H acc (.lst [])):=by
 refine RZ (z:=z) (fun i σ H2=>∃v0,σ=v0::rest∧Same H H2∧H2 acc=some (.lst (((z.cps.toList.take i).map f).map V.bl))) ⟨v,rfl,Ag hacc _,upd_same⟩ ?_ ?_
 ·rintro i c σ H2 hx ⟨v0,rfl,s2,ha2⟩
  have hc:z.cps.toList[i]? = some c:=by simpa using hx
  have hi:i<z.cps.toList.length:=(List.getElem?_eq_some_iff.mp hc).1
  have hlz:z.cps.toList.length=z.length:=by simp[Str.length]
  show Ds acc te _ _ _
  refine ht c (List.mem_of_getElem? hc) H2 s2 _ fun H3 s3=>?_
  refine⟨_,s3 _ _ ha2,AO ?_,?_⟩
  ·rw[List.length_map,List.length_map,List.length_take]
   omega
  refine⟨_,rfl,AH (s2.trans s3) hacc _,?_⟩
  rw[upd_same,List.take_add_one,hc,List.map_append,List.map_append]
  rfl
 ·rintro σ H2 ⟨v0,rfl,s2,ha2⟩
  have hlz:z.length=z.cps.toList.length:=by simp[Str.length]
  rw[hlz,List.take_length] at ha2
  exact hd v0 H2 s2 ha2
def Hl (C cK cBN cNT:Addr):Sp:=fun vs H Q E=>∃(M:List Addr) (S:HSt) (k:Str),vs=[.ref S.x,.str k]∧HouseT M C cK H S∧k.length≤100∧(∀c∈k.cps.toList,c<128)∧(¬goodN k→∀H',Same H H'→E (.ref cBN) none H')∧(goodN k→k∈Bp S.ts→∀H',Same H H'→E (.ref cNT) none H')∧(goodN k→k∉Bp S.ts→∀H',Same H H'→Q .non H')
def EY (C cK cNK:Addr):Sp:=fun vs H Q E=>∃(M:List Addr) (S:HSt) (k:Str),vs=[.ref S.x,.str k]∧HouseT M C cK H S∧(k∉Bp S.ts→E (.ref cNK) none H)∧(k∈Bp S.ts→Q .non H)
def A5 (C cK cNK:Addr):Sp:=fun vs H Q E=>∃(M:List Addr) (S:HSt) (k:Str),vs=[.ref S.x,.str k]∧HouseT M C cK H S∧(k∉Bp S.ts→E (.ref cNK) none H)∧(∀p∈S.ts,p.nm=k→Q (.ref p.a) H)
def JV (C cK:Addr):Sp:=fun vs H Q _=>∃(M:List Addr) (S:HSt),vs=[.ref S.x]∧HouseT M C cK H S∧∀(l:Addr) (H':Hp),Same H H'→H l=none→H' l=some (.lst ((Bp S.ts).map V.str))→Q (.ref l) H'
def Qy (S:HSt) (k:Str):HSt:={ S with ts:=S.ts.filter fun p=>decide (p.nm≠k),ls:=S.ls++[.str (DD ["drop",k])] }
def IP (C cK cNK:Addr):Sp:=fun vs H Q E=>∃(M:List Addr) (S:HSt) (k:Str),vs=[.ref S.x,.str k]∧HouseT M C cK H S∧k.length≤100∧S.ls.length<900∧(k∉Bp S.ts→E (.ref cNK) none H)∧(k∈Bp S.ts→∀H',But [S.U.tk,S.U.ln] H H'→HouseT M C cK H' (Qy S k)→Q .non H')
section
variable {cH cK cS cW cL cT cBN cNT cNK:Addr}
theorem Lw:Al ["self","name"] ["self","name"] (Ad B4):=Bn
theorem NN:Al ["self","name"] ["self","name"] (Ad Cz):=Bn
theorem N7:Al ["self","name"] ["self","name"] (Ad CZ):=Bn
theorem P7:Al ["self"] ["self"] (Ad D4):=Bn
theorem Sq:Al ["self","name"] ["self","name"] (Ad FA):=Bn
theorem Lq (F:Fun K "refuse_no_talk" "House.refuse_no_talk" Cz f fd) (HX:EU K cH) (XNK:Cb K mg "NoTalk" cNK cT):FnOk P w K mg bz (A4 P w) 2 f fd ["self","name"] (EY cH cK cNK):=by
 refine Fun.okX F NN (fun vs H Q E h=>?_) (fun cdv A outer s H vs Q E hr h=>?_)
 ·obtain⟨M,S,k,rfl,_⟩:=h
  rfl
 obtain⟨M,S,k,rfl,hT,qE,q⟩:=h
 refine⟨_,Af (AC (Av Oa (pv 1) (AT (pv 0) rfl) (by with_unfolding_all rfl))
   (Af (Bq (Ex:=E) BG rfl XNK.cls XNK.at_ XNK.ty (by rfl) XNK.m (Ab Ah Ac) (hvl:=fun _ _ _ h=>⟨by decide,h⟩)))
   Aw),?_⟩
 refine⟨_,rfl,_,rfl,S.x,cH,_,_,_,rfl,hT.h.ob,HX.cl,HX.talks,De,S.U.tk,_,k,rfl,rfl,hT.tk,_,rfl,?_⟩
 rw[My]
 by_cases c:k∈Bp S.ts
 ·rw[decide_eq_true c]
  exact Bd (q c)
 ·rw[decide_eq_false c]
  exact Bo (qE c)
theorem K1 {m1:Addr} {e1:FuncData} (F:Fun K "talk_of" "House.talk_of" CZ f fd) (HX:EU K cH) (G1:FnOk P w K mg bz (A4 P w) 2 m1 e1 ["self","name"] (EY cH cK cNK)) (C1:AD K cH "refuse_no_talk" m1 e1 ["self","name"]):FnOk P w K mg bz (A4 P w) 3 f fd ["self","name"] (A5 cH cK cNK):=by
 refine Fun.okX F N7 (fun vs H Q E h=>?_) (fun cdv A outer s H vs Q E hr h=>?_)
 ·obtain⟨M,S,k,rfl,_⟩:=h
  rfl
 obtain⟨M,S,k,rfl,hT,qE,q⟩:=h
 refine⟨_,Ae (AA (Az (pv 0) HX.cl C1.m G1 hr C1.b .nil (Ap (E1:=E) fun _ _ _ h=>h) (Ab (pv 1) Ac)))
  (Af (Am (AL RL (AT (pv 0) rfl) (pv 1) (fun _ _=>rfl)))),?_⟩
 refine⟨_,rfl,S.x,_,_,rfl,hT.h.ob,Il,_,rfl,M,S,k,rfl,hT,fun c=>qE c,fun c=>?_⟩
 obtain⟨p,hp,e1,e2⟩:=I8 c
 exact⟨_,rfl,S.x,cH,_,_,_,rfl,hT.h.ob,HX.cl,HX.talks,De,_,rfl,S.U.tk,_,k,_,rfl,rfl,hT.tk,e2,q p hp e1⟩
theorem Nn (F:Fun K "names" "House.names" D4 f fd) (HX:EU K cH) (T:Ht mg):FnOk P w K mg bz AU 1 f fd ["self"] (JV cH cK):=by
 refine F.ok P7 (fun vs H Q E h=>?_) (fun cdv A outer s H vs Q E hr h=>?_)
 ·obtain⟨M,S,rfl,_⟩:=h
  rfl
 obtain⟨M,S,rfl,hT,q⟩:=h
 refine⟨_,Af (Am (A3 (Lz rfl) (by rfl) T.lst BF (Ab (AT (pv 0) rfl) Ac))),?_⟩
 refine⟨_,rfl,S.x,cH,_,_,_,rfl,hT.h.ob,HX.cl,HX.talks,De,S.U.tk,_,rfl,hT.tk,fun l hl=>q l _ (Ag hl _) hl ?_⟩
 rw[upd_same]
 unfold EA Bp
 rw[List.map_map,List.map_map]
 rfl
theorem Q6 {m1 m2:Addr} {e1 e2:FuncData} (F:Fun K "drop" "House.drop" FA f fd) (HX:EU K cH) (G1:FnOk P w K mg bz (A4 P w) 2 m1 e1 ["self","name"] (EY cH cK cNK)) (C1:AD K cH "refuse_no_talk" m1 e1 ["self","name"])
  (G2:FnOk P w K mg bz AU 2 m2 e2 ["self","words"] (Da cH)) (C2:AD K cH "write" m2 e2 ["self","words"]):FnOk P w K mg bz (A4 P w) 3 f fd ["self","name"] (IP cH cK cNK):=by
 refine Fun.okX F Sq (fun vs H Q E h=>?_) (fun cdv A outer s H vs Q E hr h=>?_)
 ·obtain⟨M,S,k,rfl,_⟩:=h
  rfl
 obtain⟨M,S,k,rfl,hT,hk1,hl9,qE,q⟩:=h
 refine⟨_,Ae (AA (Az (pv 0) HX.cl C1.m G1 hr C1.b .nil (Ap (E1:=E) fun _ _ _ h=>h) (Ab (pv 1) Ac)))
  (Ae (AA (Bw PySem.F.plainAttrs_dict PySem.F.slot_dict_pop PySem.F.type_dict_pop Sk (AT (pv 0) rfl) (Ab (pv 1) Ac)))
  (Af (AA (Az (pv 0) HX.cl C2.m G2 hr C2.b .nil Ay (Ab (AE (Ab Ah (Ab (pv 1) Ac))) Ac))))),?_⟩
 refine⟨_,rfl,S.x,_,_,rfl,hT.h.ob,Il,_,rfl,M,S,k,rfl,hT,fun c=>qE c,fun c=>?_⟩
 obtain⟨p,hp,e1,e2⟩:=I8 c
 refine⟨_,rfl,S.x,cH,_,_,_,rfl,hT.h.ob,HX.cl,HX.talks,De,?_,_,rfl,S.U.tk,_,k,_,rfl,rfl,hT.tk,e2,?_⟩
 ·exact .inr (.inr (.inl ⟨rfl,.inl ⟨_,hT.tk⟩⟩))
 rw[UM]
 have hT1:=hT.less k
 have b1:But [S.U.tk,S.U.ln] H (upd H S.U.tk (.dK (dS (EA (S.ts.filter fun p=>decide (p.nm≠k)))))):=But.upd (by simp)
 generalize upd H S.U.tk _=H1 at *
 refine⟨_,rfl,S.x,_,_,rfl,hT1.h.ob,DH,_,rfl,FV,fun l hl=>?_⟩
 have s2:=Ag hl (.lst [.str "drop",.str k])
 have l2:upd H1 l (.lst [.str "drop",.str k]) l=some (.lst ([("drop":Str),k].map V.str)):=upd_same
 generalize upd H1 l _=H2 at *
 have hT2:=hT1.keep s2
 refine⟨S.x,l,S.U,S.m,[("drop":Str),k],S.ls,rfl,hT2.h.ob,hT2.h.ln,by omega,l2,?_,?_⟩
 ·show ("drop":Str).length+(k.length+0)+2≤100000
  have:("drop":Str).length=4:=rfl
  omega
 have hT3:=hT2.wrote (.str (DD ["drop",k])) hl9
 exact q c _ ((b1.trans (Au s2)).trans (But.upd (by simp))) hT3
theorem KJ (F:Fun K "refuse_new_name" "House.refuse_new_name" B4 f fd) (HX:EU K cH) (T:Ht mg) (B:Bl mg) (XBN:Cb K mg "BadName" cBN cT) (XNT:Cb K mg "NameTaken" cNT cT) {tN tI:Tok} (mNS:mg "NAME_SIGNS"=some (.str "abcdefghijklmnopqrstuvwxyz" tN)) (mLN:mg "LONGEST_NAME"=some (.int 8 tI)):FnOk P w K mg bz (A4 P w) 2 f fd ["self","name"] (Hl cH cK cBN cNT):=by
 refine Fun.okX F Lw (fun vs H Q E h=>?_) (fun cdv A outer s H vs Q E hr h=>?_)
 ·obtain⟨M,S,k,rfl,_⟩:=h
  rfl
 obtain⟨M,S,k,rfl,hT,hk1,h128,qB,qN,q⟩:=h
 refine⟨_,Ae (AC (PW.pt (LU (Ca (OQ SS SS Ao (AG IY (by rfl) B.len PySem.boot_len (Ab (pv 1) Ac)) (B0 (v:=.int 8) (by rfl) mLN ⟨_,rfl⟩))) (Jr (Ca (Bu (AG (Ie rfl) (by rfl) T.all boot_all (Ab (PE.nox (Dz (N:=["sign"]) (js:=[none]) (cl:=[]) ⟨rfl,rfl,rfl,List.forall_mem_nil _,rfl,rfl,rfl⟩ (Ui (pv 1)) (fun c1=>(AN (i:=0) (show (["sign"]:List Str).Nodup by decide +kernel) rfl (Or.inl rfl))) (fun c1=>D2) (fun c1=>(Dp NC (pv 0) (B0 (v:=.str "abcdefghijklmnopqrstuvwxyz") (by rfl) mNS ⟨_,rfl⟩) (by with_unfolding_all rfl))))) Ac)))))))
   (Af (Bq (Ex:=E) BG rfl XBN.cls XBN.at_ XBN.ty (by rfl) XBN.m (Ab Ah Ac) (hvl:=fun _ _ _ h=>⟨by decide,h⟩)))
   Aw)
  (Af (AC (Av Ue (pv 1) (AT (pv 0) rfl) (by with_unfolding_all rfl))
   (Af (Bq (Ex:=E) BG rfl XNT.cls XNT.at_ XNT.ty (by rfl) XNT.m (Ab Ah Ac) (hvl:=fun _ _ _ h=>⟨by decide,h⟩)))
   Aw)),?_⟩
 have hlen:k.length≤sizeLine:=Nat.le_trans hk1 (by decide)
 have nogood:¬(1≤k.length∧k.length≤8)→¬goodN k:=fun h g=>h ⟨g.1,g.2.1⟩
 refine⟨_,rfl,k,rfl,hlen,_,_,rfl,rfl,_,rfl,Du (fun c1=>?_) (fun c1=>?_)⟩
 ·refine⟨_,_,rfl,rfl,_,rfl,Du (fun c2=>?_) (fun c2=>?_)⟩
  ·exact qB (nogood fun z=>by simp at c2;omega) H (Same.refl _)
  ·have hin:1≤k.length∧k.length≤8:=by simp at c1 c2;omega
   refine⟨_,rfl,k,rfl,fun cc acc hacc=>LK (f:=Dq) hacc (Nat.le_trans hk1 (by decide)) (fun c hc H2 s2 R hR=>?_) (fun v0 H2 s2 ha=>?_) _⟩
   ·refine⟨_,rfl,_,_,rfl,rfl,?_⟩
    rw[VE c (h128 c hc)]
    exact hR H2 (Same.refl _)
   refine⟨acc,_,rfl,SqL.of ha,_,rfl,Du (fun c3=>?_) (fun c3=>?_)⟩
   ·exact qB (fun g=>by
     have:=g.2.2
     rw[List.all_map] at c3
     simp at c3 this
     obtain⟨c,hc,hc2⟩:=c3
     rw[this c hc] at hc2
     cases hc2) H2 s2
   have hg:goodN k:=⟨hin.1,hin.2,by
    rw[List.all_map] at c3
    simp at c3
    simpa using c3⟩
   have hT2:=hT.keep s2
   refine⟨_,rfl,_,rfl,S.x,cH,_,_,_,rfl,hT2.h.ob,HX.cl,HX.talks,De,S.U.tk,_,k,rfl,rfl,hT2.tk,_,rfl,?_⟩
   rw[My]
   by_cases c:k∈Bp S.ts
   ·rw[decide_eq_true c]
    exact Bo (qN hg c H2 s2)
   ·rw[decide_eq_false c]
    exact Bd (q hg c H2 s2)
 ·exact⟨_,rfl,Bo (qB (nogood fun z=>by simp at c1;omega) H (Same.refl _))⟩
end
abbrev Ea:Stmt:=AF (Bm 73) 6
abbrev Fj:Stmt:=AF (Bm 73) 7
def SN (S:HSt) (p:Tw) (l:Str):HSt:={ S with ts:=S.ts++[p],ls:=S.ls++[.str l] }
def GQ (C cK cBN cNT cS cB cN:Addr):Sp:=fun vs H Q E=>∃(M:List Addr) (S:HSt) (n kind rule:Str) (v:V) (t:Tr),vs=[.ref S.x,.str n,.str kind,v,.str rule]∧HouseT M C cK H S∧n.length≤100∧(∀c∈n.cps.toList,c<128)∧t.At (Bb M H) v∧t.ok 5∧t.size≤23∧kind.length≤100∧rule.length≤100∧S.ls.length<900∧S.ts.length<900∧
 (¬goodN n→∀H',Same H H'→E (.ref cBN) none H')∧(goodN n→n∈Bp S.ts→∀H',Same H H'→E (.ref cNT) none H')∧
 (goodN n→n∉Bp S.ts→¬t.ok S.m→∀H',Same H H'→E (.ref cS) none H')∧(goodN n→n∉Bp S.ts→t.ok S.m→¬(BX rule∧Bz kind)→∀H',Same H H'→E (.ref cB) none H')∧
 (goodN n→n∉Bp S.ts→t.ok S.m→BX rule→Bz kind→[]∈AR kind t S.room→∀H',Same H H'→E (.ref cN) none H')∧
 (goodN n→n∉Bp S.ts→t.ok S.m→BX rule→Bz kind→[]∉AR kind t S.room→∀(a:Addr) (u:Tk) (H':Hp),But [S.U.tk,S.U.ln] H H'→H a=none→H u.gv=none→H u.lf=none→
  HouseT (a::u.gv::u.lf::M) C cK H' (SN S ⟨n,a,u,Gr S.m kind rule t S.room⟩ (DD ["begin",n,rule,kind,EV t]))→Q .non H')
section
variable {cH cK cS cB cN cT cBN cNT cNK:Addr}
theorem QN:Al ["self","name","kind","sentence","rule"] ["self","name","kind","sentence","rule"] (Ad Ea):=Bn
theorem scHFork:Al ["self","name","other","talk"] ["self","name","other"] (Ad Fj):=Bn
theorem NZ {m1 m2 fI gS:Addr} {e1 e2 dI dSh:FuncData} (F:Fun K "begin" "House.begin" Ea f fd) (HX:EU K cH)
  (G1:FnOk P w K mg bz (A4 P w) 2 m1 e1 ["self","name"] (Hl cH cK cBN cNT)) (C1:AD K cH "refuse_new_name" m1 e1 ["self","name"])
  (GI:FnOk P w K mg bz (A4 P w) 5 fI dI ["self","many","room","kind","sentence","rule"] (MN cK cS cB cN)) (CI:SG K mg cK "Talk" fI dI ["self","many","room","kind","sentence","rule"])
  (GS:FnOk P w K mg bz AU 1 gS dSh ["sentence"] F0) (CS:AW K mg "shown" gS dSh ["sentence"])
  (G2:FnOk P w K mg bz AU 2 m2 e2 ["self","words"] (Da cH)) (C2:AD K cH "write" m2 e2 ["self","words"]):FnOk P w K mg bz (A4 P w) 7 f fd ["self","name","kind","sentence","rule"] (GQ cH cK cBN cNT cS cB cN):=by
 refine Fun.okX F QN (fun vs H Q E h=>?_) (fun cdv A outer s H vs Q E hr h=>?_)
 ·obtain⟨M,S,n,kind,rule,v,t,rfl,_⟩:=h
  rfl
 obtain⟨M,S,n,kind,rule,v,t,rfl,hT,hn1,h128,ha,ok5,hsz,hk1,hr1',hl9,ht9,qB,qN,qS,qW,qG,q⟩:=h
 have hr1:Room 1 _:=hr.mono (by decide)
 have hr2:Room 2 _:=hr.mono (by decide)
 refine⟨_,Ae (AA (Az (pv 0) HX.cl C1.m G1 hr2 C1.b .nil (Ap (E1:=E) fun _ _ _ h=>h) (Ab (pv 1) Ac)))
  (Ae (TY (Mm CI.make GI hr (by rfl) CI.m CI.b .nil (Ap (E1:=E) fun _ _ _ h=>h) (Ab (AT (pv 0) rfl) (Ab (AT (pv 0) rfl) (Ab (pv 2) (Ab (pv 3) (Ab (pv 4) Ac)))))) (Td (AT (pv 0) rfl) (pv 1) Qx))
  (Af (AA (Az (pv 0) HX.cl C2.m G2 hr2 C2.b .nil Ay (Ab (AE (Ab Ah (Ab (pv 1) (Ab (pv 4) (Ab (pv 2) (Ab (An GS hr1 (by rfl) CS.m CS.k CS.b .nil Ay (Ab (pv 3) Ac)) Ac)))))) Ac))))),?_⟩
 refine⟨_,rfl,S.x,_,_,rfl,hT.h.ob,Ll,_,rfl,M,S,n,rfl,hT,hn1,h128,fun c=>qB c,fun c c2=>qN c c2,fun hg hnn H1 s1=>?_⟩
 have hT1:=hT.keep s1
 have ha1:=ha.keep (TS.same (Au s1))
 refine⟨_,rfl,S.x,cH,_,_,_,rfl,hT1.h.ob,HX.cl,HX.many,MQ,_,rfl,S.x,cH,_,_,_,rfl,hT1.h.ob,HX.cl,HX.space,KG,_,rfl,_,rfl,_,rfl,fun x dx hx hdx nex=>?_⟩
 have sM:Same H1 (upd (upd H1 dx (.own x)) x (.ins cK dx [])):=(Ag hdx _).trans (Ag (by rw[Aq nex.symm];exact hx) _)
 have xM:x∉M:=fun z=>hT1.fr x z hx
 refine⟨x,dx,S.U.sp,S.m,kind,rule,v,t,S.room,M,rfl,upd_same,xM,fun m hm z=>hT1.fr m hm (sM.free z),ha1.keep (TS.same (Au sM)),ok5,hsz,hT.h.m5,sM _ _ hT1.h.sp',hT.h.wr,
  fun c H' b=>qS hg hnn c H' (s1.trans (CK hx hdx nex b)),fun c c2 H' b=>qW hg hnn c c2 H' (s1.trans (CK hx hdx nex b)),fun c c2 c3 c4 H' b=>qG hg hnn c c2 c3 c4 H' (s1.trans (CK hx hdx nex b)),fun c c2 c3 c4 u H2 b2 gv0 lf0 sp0 esv ht=>⟨rfl,?_⟩⟩
 have s2:Same H1 H2:=CK hx hdx nex b2
 obtain⟨gv1,_,_⟩:=B7 (C:=cK) gv0
 obtain⟨lf1,_,_⟩:=B7 (C:=cK) lf0
 have hT2:=hT1.keep s2
 refine⟨_,rfl,S.x,cH,_,_,_,rfl,hT2.h.ob,HX.cl,HX.talks,De,_,rfl,S.U.tk,_,n,rfl,rfl,hT2.tk,Je hnn,(by show (S.ts.map _).length≤1000;rw[List.length_map];omega),?_⟩
 have ed:EA S.ts++[(n,V.ref x)]=EA (S.ts++[⟨n,x,u,Gr S.m kind rule t S.room⟩]):=by unfold EA;rw[List.map_append];rfl
 rw[ed]
 have hT3:=hT1.more (n:=n) s2 hx gv1 lf1 ht rfl rfl hnn ht9
 have b3:But [S.U.tk,S.U.ln] H (upd H2 S.U.tk (.dK (dS (EA (S.ts++[⟨n,x,u,Gr S.m kind rule t S.room⟩]))))):=(Au (s1.trans s2)).trans (But.upd (by simp))
 have ha3:t.At (upd H2 S.U.tk (.dK (dS (EA (S.ts++[⟨n,x,u,Gr S.m kind rule t S.room⟩]))))) v:=by
  have k:Same (Bb M H) (Bb M (upd H2 S.U.tk (.dK (dS (EA (S.ts++[⟨n,x,u,Gr S.m kind rule t S.room⟩])))))):=(Au (s1.trans s2)).trans (But.upd hT.mt)
  exact ha.keep (TS.same (k.trans AJ))
 generalize upd H2 S.U.tk _=H3 at *
 refine⟨_,rfl,S.x,_,_,rfl,hT3.h.ob,DH,_,rfl,_,rfl,_,rfl,_,rfl,v,t,rfl,ha3,ok5,hsz,fun z H4 hz s4=>?_⟩
 have ez:=LE hz
 subst ez
 refine⟨VQ,fun l hl=>?_⟩
 have s5:=Ag hl (.lst [.str "begin",.str n,.str rule,.str kind,.str (EV t)])
 have l5:upd H4 l (.lst [.str "begin",.str n,.str rule,.str kind,.str (EV t)]) l=some (.lst ([("begin":Str),n,rule,kind,EV t].map V.str)):=upd_same
 generalize upd H4 l _=H5 at *
 have hT5:=hT3.keep (s4.trans s5)
 refine⟨S.x,l,S.U,S.m,[("begin":Str),n,rule,kind,EV t],S.ls,rfl,hT5.h.ob,hT5.h.ln,by omega,l5,?_,?_⟩
 ·show ("begin":Str).length+(n.length+(rule.length+(kind.length+((EV t).length+0))))+5≤100000
  have:("begin":Str).length=5:=rfl
  have:=Jl t
  omega
 have hT6:=hT5.wrote (.str (DD ["begin",n,rule,kind,EV t])) hl9
 exact q hg hnn c c2 c3 c4 x u _ ((b3.trans (Au (s4.trans s5))).trans (But.upd (by simp))) (s1.free hx) (s1.free gv1) (s1.free lf1) hT6
end
abbrev Fw:Stmt:=AF (Bm 73) 2
abbrev HK:Stmt:=AF (Bm 73) 22
theorem BM {X:Cx} {sts:List Stmt}:PSs X sts (fun _ _ _=>False):=fun _ _ _ _ _ _ h=>h.elim
theorem EK {U:Hk} {m:Nat}:(Dx U m).lookup ("seen":Str)=none:=by with_unfolding_all rfl
theorem LL {U:Hk} {m:Nat}:(Dx U m).lookup ("plainly":Str)=none:=by with_unfolding_all rfl
theorem Qk {U:Hk} {m:Nat}:(Dx U m).lookup ("log":Str)=none:=by with_unfolding_all rfl
def D7 (C:Addr):Sp:=fun vs H Q _=>∃(x:Addr) (N:List Addr) (U:Hk) (m:Nat) (room:List Int) (marks:List (Option Bool)) (ls:List V),vs=[.ref x]∧HouseAt N C H x U m room marks ls∧∀(l:Addr) (H':Hp),Same H H'→H l=none→AV H' l (room.filter (M0 marks))→Q (.ref l) H'
def OJ (C:Addr):Sp:=fun vs H Q _=>∃(x:Addr) (N:List Addr) (U:Hk) (m:Nat) (room:List Int) (marks:List (Option Bool)) (ls:List V),vs=[.ref x]∧HouseAt N C H x U m room marks ls∧∀(l:Addr) (H':Hp),Same H H'→H l=none→H' l=some (.lst ls)→Q (.ref l) H'
section
variable {cH cS cT:Addr}
theorem RD:Al ["self"] ["self"] (Ad Fw):=Bn
theorem Te:Al ["self"] ["self"] (Ad HK):=Bn
theorem Pn {g:Addr} {gd:FuncData} (F:Fun K "seen" "House.seen" Fw f fd) (HX:EU K cH) (GS:FnOk P w K mg bz AU 3 g gd ["room","marks"] (JR K)) (CS:AW K mg "seen_by" g gd ["room","marks"]):FnOk P w K mg bz AU 4 f fd ["self"] (D7 cH):=by
 refine F.ok RD (fun vs H Q E h=>?_) (fun cdv A outer s H vs Q E hr h=>?_)
 ·obtain⟨x,N,U,m,room,marks,ls,rfl,_⟩:=h
  rfl
 obtain⟨x,N,U,m,room,marks,ls,rfl,hT,q⟩:=h
 have hl:=hT.wr.len
 have h1:=hT.len
 have h5:=hT.m5
 refine⟨_,Af (Am (An GS hr (by rfl) CS.m CS.k CS.b .nil Ay (Ab (AT (pv 0) rfl) (Ab (AT (pv 0) rfl) Ac)))),?_⟩
 exact⟨_,rfl,x,cH,_,_,_,rfl,hT.ob,HX.cl,HX.space,KG,_,rfl,x,cH,_,_,_,rfl,hT.ob,HX.cl,HX.marks,ON,U.sp,U.mks,room,marks,rfl,SqL.of hT.sp',by omega,hT.mk',by omega,fun l H' s' l0 hl=>q l H' s' l0 hl⟩
theorem Rm (F:Fun K "log" "House.log" HK f fd) (HX:EU K cH) (T:Ht mg):FnOk P w K mg bz AU 1 f fd ["self"] (OJ cH):=by
 refine F.ok Te (fun vs H Q E h=>?_) (fun cdv A outer s H vs Q E hr h=>?_)
 ·obtain⟨x,N,U,m,room,marks,ls,rfl,_⟩:=h
  rfl
 obtain⟨x,N,U,m,room,marks,ls,rfl,hT,q⟩:=h
 refine⟨_,Af (Am (A3 Bs (by rfl) T.lst BF (Ab (AT (pv 0) rfl) Ac))),?_⟩
 exact⟨_,rfl,x,cH,_,_,_,rfl,hT.ob,HX.cl,HX.lines,KI,U.ln,_,rfl,.inl (SqL.of hT.ln),fun l hl=>q l _ (Ag hl _) hl upd_same⟩
end
abbrev HW:Stmt:=AF (Bm 73) 10
abbrev Ij:Stmt:=AF (Bm 73) 11
abbrev Fk:Stmt:=AF (Bm 73) 12
abbrev Iw:Stmt:=AF (Bm 73) 13
abbrev B6:Stmt:=AF (Bm 73) 14
abbrev Fh:Stmt:=AF (Bm 73) 15
abbrev CQ:Stmt:=AF (Bm 73) 16
abbrev EZ:Stmt:=AF (Bm 73) 17
theorem IS {U:Hk} {m:Nat}:(Dx U m).lookup ("say":Str)=none:=by with_unfolding_all rfl
theorem Qp {U:Hk} {m:Nat}:(Dx U m).lookup ("ask":Str)=none:=by with_unfolding_all rfl
theorem MO {U:Hk} {m:Nat}:(Dx U m).lookup ("back":Str)=none:=by with_unfolding_all rfl
theorem LF {U:Hk} {m:Nat}:(Dx U m).lookup ("end":Str)=none:=by with_unfolding_all rfl
theorem GZ {U:Hk} {m:Nat}:(Dx U m).lookup ("entries":Str)=none:=by with_unfolding_all rfl
theorem Me {U:Hk} {m:Nat}:(Dx U m).lookup ("held":Str)=none:=by with_unfolding_all rfl
theorem IA {U:Hk} {m:Nat}:(Dx U m).lookup ("caught":Str)=none:=by with_unfolding_all rfl
theorem MC {U:Hk} {m:Nat}:(Dx U m).lookup ("over":Str)=none:=by with_unfolding_all rfl
def Cq (ts:List Tw) (k:Str) (u:Tk) (w:Ta):List Tw:=ts.map fun p=>if p.nm=k then⟨p.nm,p.a,u,w⟩ else p
theorem UG (ts:List Tw) (k:Str) (u:Tk) (w:Ta):EA (Cq ts k u w)=EA ts:=by
 unfold EA Cq
 rw[List.map_map]
 refine List.map_congr_left fun p _=>?_
 show ((if p.nm=k then (⟨p.nm,p.a,u,w⟩:Tw) else p).nm,V.ref (if p.nm=k then (⟨p.nm,p.a,u,w⟩:Tw) else p).a)=_
 split<;>rfl
theorem Jy (ts:List Tw) (k:Str) (u:Tk) (w:Ta):Bp (Cq ts k u w)=Bp ts:=by
 unfold Bp Cq
 rw[List.map_map]
 refine List.map_congr_left fun p _=>?_
 show (if p.nm=k then (⟨p.nm,p.a,u,w⟩:Tw) else p).nm=_
 split<;>rfl
theorem UA (ts:List Tw) (k:Str) (u:Tk) (w:Ta):(Cq ts k u w).map (·.a)=ts.map (·.a):=by
 unfold Cq
 rw[List.map_map]
 refine List.map_congr_left fun p _=>?_
 show (if p.nm=k then (⟨p.nm,p.a,u,w⟩:Tw) else p).a=_
 split<;>rfl
theorem KC (ts:List Tw) (k:Str) (u:Tk) (w:Ta):(Cq ts k u w).length=ts.length:=List.length_map _
theorem Kz {ts:List Tw} {k:Str} {u:Tk} {w:Ta} {q:Tw} (h:q∈Cq ts k u w):(q∈ts∧q.nm≠k)∨∃p∈ts,p.nm=k∧q=⟨p.nm,p.a,u,w⟩:=by
 obtain⟨p,hp,e⟩:=List.mem_map.mp h
 by_cases c:p.nm=k
 ·rw[if_pos c] at e
  exact .inr ⟨p,hp,c,e.symm⟩
 ·rw[if_neg c] at e
  rw[←e]
  exact .inl ⟨hp,c⟩
theorem Pt {k:Str} {u:Tk} {w:Ta}:∀{ts:List Tw},(∀p∈ts,p.nm=k→u.gv=p.u.gv∧u.lf=p.u.lf)→Js (Cq ts k u w)=Js ts
 | [],_=>rfl
 | p::ts,h=>by
  have ih:=Pt (k:=k) (u:=u) (w:=w) (ts:=ts) fun q hq=>h q (List.mem_cons_of_mem _ hq)
  have e:Js (Cq (p::ts) k u w)=[(if p.nm=k then (⟨p.nm,p.a,u,w⟩:Tw) else p).u.gv,(if p.nm=k then (⟨p.nm,p.a,u,w⟩:Tw) else p).u.lf]++Js (Cq ts k u w):=rfl
  rw[e,ih]
  by_cases c:p.nm=k
  ·rw[if_pos c]
   obtain⟨h1,h2⟩:=h p List.mem_cons_self c
   show[u.gv,u.lf]++_=[p.u.gv,p.u.lf]++_
   rw[h1,h2];rfl
  ·rw[if_neg c];rfl
theorem D8 {α:Type} {β:Type} {f:α→β}:∀{l:List α} {p q:α},(l.map f).Nodup→p∈l→q∈l→f p=f q→p=q
 | x::l,p,q,nd,hp,hq,e=>by
  obtain⟨n1,n2⟩:=List.nodup_cons.mp (show (f x::l.map f).Nodup from nd)
  rcases List.mem_cons.mp hp with h1 | h1
  ·rcases List.mem_cons.mp hq with h2 | h2
   ·rw[h1,h2]
   ·exact absurd (by rw[←h1,e];exact List.mem_map_of_mem h2) n1
  ·rcases List.mem_cons.mp hq with h2 | h2
   ·exact absurd (by rw[←h2,←e];exact List.mem_map_of_mem h1) n1
   ·exact D8 n2 h1 h2 e
theorem Lc:∀{ts:List Tw} {p q:Tw},(Js ts).Nodup→p∈ts→q∈ts→p≠q→∀b,(b=p.u.gv∨b=p.u.lf)→(b≠q.u.gv∧b≠q.u.lf)
 | x::ts,p,q,nd,hp,hq,ne,b,hb=>by
  obtain⟨_,n2,n3⟩:=List.nodup_append.mp (show ([x.u.gv,x.u.lf]++Js ts).Nodup from nd)
  rcases List.mem_cons.mp hp with rfl | hp
  ·rcases List.mem_cons.mp hq with rfl | hq
   ·exact absurd rfl ne
   ·have hb2:b∈[p.u.gv,p.u.lf]:=by simpa using hb
    exact⟨n3 b hb2 _ (Cj hq).1,n3 b hb2 _ (Cj hq).2⟩
  ·have hb2:b∈Js ts:=by
    rcases hb with rfl | rfl
    ·exact (Cj hp).1
    ·exact (Cj hp).2
   rcases List.mem_cons.mp hq with rfl | hq
   ·exact⟨fun e=>n3 q.u.gv (by simp) b hb2 e.symm,fun e=>n3 q.u.lf (by simp) b hb2 e.symm⟩
   ·exact Lc n2 hp hq ne b hb
theorem UR {U:Hk} {m:Nat} {u:Tk} {w:Ta}:Dx U m≠Gn u w:=fun e=>by
 unfold Dx Gn at e
 injection e with e _
 injection e with e _
 revert e
 decide
section
variable {M:List Addr} {C cK:Addr} {H H':Hp} {S:HSt}
theorem HouseT.alter {p:Tw} {u:Tk} {w:Ta} (h:HouseT M C cK H S) (hp:p∈S.ts) (b:But [p.a,p.u.gv,p.u.lf] H H') (hne:∀c,H c≠none→H' c≠none) (e1:u.gv=p.u.gv) (e2:u.lf=p.u.lf) (ht:TalkAt M cK H' p.a u w) (hr:w.room=S.room) (hm:w.many=S.m) :
  HouseT M C cK H' { S with ts:=Cq S.ts p.nm u w }:=by
 have t0:=(h.tt p hp).1
 have k:But M H H':=But.wide (fun m hm=>by
  simp only[List.mem_cons,List.not_mem_nil,or_false] at hm
  rcases hm with rfl | rfl | rfl
  ·exact t0.ma
  ·exact t0.mg
  ·exact t0.ml) b
 have same:∀{c:Addr} {o:HO},H c=some o→c≠p.a→c≠p.u.gv→c≠p.u.lf→H' c=some o:=fun e n1 n2 n3=>b.at e fun z=>by
  simp only[List.mem_cons,List.not_mem_nil,or_false] at z
  rcases z with z | z | z
  ·exact n1 z
  ·exact n2 z
  ·exact n3 z
 have hx:=h.h
 obtain⟨n0,nl⟩:=List.nodup_cons.mp h.nl
 have xa:S.x≠p.a:=fun e=>by
  have h1:=hx.ob
  rw[e,t0.ob] at h1
  have h2:=Option.some.inj h1
  injection h2 with _ _ h3
  exact UR h3.symm
 have ka:S.U.tk≠p.a:=A6 h.tk t0.ob (by intro z;cases z)
 refine⟨⟨same hx.ob xa (A6 hx.ob t0.gv (by intro z;cases z)) (A6 hx.ob t0.lf (by intro z;cases z)),same hx.ln (A6 hx.ln t0.ob (by intro z;cases z)) (fun e=>n0 (by rw[e];exact (Cj hp).1)) (fun e=>n0 (by rw[e];exact (Cj hp).2)),hx.mx,hx.ml,k _ _ hx.sp,k _ _ hx.mkm,hx.len,hx.m1,hx.m5,hx.wr,hx.ne,hx.l9⟩,?_,h.mt,fun q hq=>?_,?_,?_,?_,fun c hc=>hne c (h.fr c hc),by show (Cq _ _ _ _).length≤900;rw[KC];exact h.tl⟩
 ·show H' S.U.tk=some (.dK (dS (EA (Cq S.ts p.nm u w))))
  rw[UG]
  exact same h.tk ka (A6 h.tk t0.gv (by intro z;cases z)) (A6 h.tk t0.lf (by intro z;cases z))
 ·rcases Kz hq with⟨hq,hn⟩|⟨p',hp',en,rfl⟩
  ·have tq:=(h.tt q hq).1
   have npq:q≠p:=fun e=>hn (by rw[e])
   have na:q.a≠p.a:=fun e=>npq (D8 h.aa hq hp e)
   have g1:=Lc nl hq hp npq q.u.gv (.inl rfl)
   have g2:=Lc nl hq hp npq q.u.lf (.inr rfl)
   refine⟨tq.but k ?_ ?_ ?_,(h.tt q hq).2⟩
   ·rw[tq.ob];exact same tq.ob na (A6 tq.ob t0.gv (by intro z;cases z)) (A6 tq.ob t0.lf (by intro z;cases z))
   ·rw[tq.gv];exact same tq.gv (A6 tq.gv t0.ob (by intro z;cases z)) g1.1 g1.2
   ·rw[tq.lf];exact same tq.lf (A6 tq.lf t0.ob (by intro z;cases z)) g2.1 g2.2
  ·have e:p'=p:=D8 h.na hp' hp en
   subst e
   exact⟨ht,hr,hm⟩
 ·show (S.U.ln::Js (Cq S.ts p.nm u w)).Nodup
  rw[Pt fun q hq en=>by rw[D8 h.na hq hp en];exact⟨e1,e2⟩]
  exact h.nl
 ·show (Bp (Cq S.ts p.nm u w)).Nodup
  rw[Jy];exact h.na
 ·show ((Cq S.ts p.nm u w).map (·.a)).Nodup
  rw[UA];exact h.aa
end
theorem HG (seen row:List Int):(Bj seen row).length≤20:=by
 unfold Bj
 split
 ·decide
 ·split<;>decide
theorem R1 (W:Ta) (seen:List Int) (t:Tr):(DE W seen t).length≤20:=by
 unfold DE
 split
 ·exact HG _ _
 ·unfold Di
  split
  ·decide
  ·split
   ·decide
   ·split
    ·decide
    ·split
     ·decide
     ·exact HG _ _
def HSt.seen (S:HSt):List Int:=S.room.filter (M0 S.marks)
def TJ (S:HSt) (k:Str) (u:Tk) (w:Ta) (l:Str):HSt:={ S with ts:=Cq S.ts k u w,ls:=S.ls++[.str l] }
def LB (C cK cNK cS cO:Addr):Sp:=fun vs H Q E=>∃(M:List Addr) (S:HSt) (k:Str) (v:V) (t:Tr),vs=[.ref S.x,.str k,v]∧HouseT M C cK H S∧k.length≤100∧t.At (Bb M H) v∧t.ok 5∧t.size≤23∧S.ls.length<900∧(∀p∈S.ts,p.w.ents.length<900∧p.w.lefts.length<900)∧
 (k∉Bp S.ts→E (.ref cNK) none H)∧(∀p∈S.ts,p.nm=k→p.w.ended=true→∀H',Same H H'→E (.ref cO) none H')∧(∀p∈S.ts,p.nm=k→p.w.ended=false→¬t.ok S.m→∀H',Same H H'→E (.ref cS) none H')∧
 (∀p∈S.ts,p.nm=k→p.w.ended=false→t.ok S.m→∀(u:Tk) (H':Hp),But [p.a,p.u.gv,p.u.lf,S.U.ln] H H'→(∀b,H b≠none→H' b≠none)→u.gv=p.u.gv→u.lf=p.u.lf→HouseT M C cK H' (TJ S k u (SM p.w v t (DE p.w S.seen t)) (DD ["say",k,EV t,DE p.w S.seen t]))→Q (.str (DE p.w S.seen t)) H')
def OU (C cK cNK cS:Addr):Sp:=fun vs H Q E=>∃(M:List Addr) (S:HSt) (k:Str) (v:V) (t:Tr),vs=[.ref S.x,.str k,v]∧HouseT M C cK H S∧t.At H v∧t.ok 5∧t.size≤60∧
 (k∉Bp S.ts→E (.ref cNK) none H)∧(∀p∈S.ts,p.nm=k→¬t.ok S.m→∀H',Same H H'→E (.ref cS) none H')∧(∀p∈S.ts,p.nm=k→t.ok S.m→∀H',Same H H'→Q (.str (DE p.w S.seen t)) H')
def LJ (C cK cNK cO:Addr):Sp:=fun vs H Q E=>∃(M:List Addr) (S:HSt) (k:Str),vs=[.ref S.x,.str k]∧HouseT M C cK H S∧k.length≤100∧S.ls.length<900∧
 (k∉Bp S.ts→E (.ref cNK) none H)∧(∀p∈S.ts,p.nm=k→p.w.ended=true→E (.ref cO) none H)∧
 (∀p∈S.ts,p.nm=k→p.w.ended=false→∀(H':Hp),But [p.a,p.u.gv,p.u.lf,S.U.ln] H H'→(∀b,H b≠none→H' b≠none)→HouseT M C cK H' (TJ S k p.u (PZ p.w) (DD ["end",k]))→Q .non H')
def Hd (C cK cNK:Addr):Sp:=fun vs H Q E=>∃(M:List Addr) (S:HSt) (k:Str),vs=[.ref S.x,.str k]∧HouseT M C cK H S∧(k∉Bp S.ts→E (.ref cNK) none H)∧(∀p∈S.ts,p.nm=k→∀(l:Addr) (H':Hp),Same H H'→H l=none→H' l=some (.lst p.u.ges)→Q (.ref l) H')
def MA (C cK cNK:Addr):Sp:=fun vs H Q E=>∃(M:List Addr) (S:HSt) (k:Str),vs=[.ref S.x,.str k]∧HouseT M C cK H S∧(k∉Bp S.ts→E (.ref cNK) none H)∧(∀p∈S.ts,p.nm=k→∀(l:Addr) (H':Hp),Same H H'→H l=none→AV H' l p.w.held→Q (.ref l) H')
def HL (C cK cNK:Addr):Sp:=fun vs H Q E=>∃(M:List Addr) (S:HSt) (k:Str),vs=[.ref S.x,.str k]∧HouseT M C cK H S∧(k∉Bp S.ts→E (.ref cNK) none H)∧(∀p∈S.ts,p.nm=k→∀(H':Hp),Same H H'→Q (.bl (!By p.w.sides p.w.held)) H')
def MU (C cK cNK:Addr):Sp:=fun vs H Q E=>∃(M:List Addr) (S:HSt) (k:Str),vs=[.ref S.x,.str k]∧HouseT M C cK H S∧(k∉Bp S.ts→E (.ref cNK) none H)∧(∀p∈S.ts,p.nm=k→Q (.bl p.w.ended) H)
section
variable {cH cK cS cO cG cT cNK:Addr}
theorem scHSay:Al ["self","name","sentence","word"] ["self","name","sentence"] (Ad HW):=Bn
theorem TC:Al ["self","name","sentence"] ["self","name","sentence"] (Ad Ij):=Bn
theorem scHBack:Al ["self","name","pair"] ["self","name"] (Ad Fk):=Bn
theorem UL:Al ["self","name"] ["self","name"] (Ad Iw):=Bn
theorem Li:Al ["self","name"] ["self","name"] (Ad B6):=Bn
theorem RH:Al ["self","name"] ["self","name"] (Ad Fh):=Bn
theorem Nf:Al ["self","name"] ["self","name"] (Ad CQ):=Bn
theorem Sd:Al ["self","name"] ["self","name"] (Ad EZ):=Bn
theorem JJ {m1 m2:Addr} {e1 e2:FuncData} (F:Fun K "entries" "House.entries" B6 f fd) (HX:EU K cH) (TX:Hn K cK) (G1:FnOk P w K mg bz (A4 P w) 3 m1 e1 ["self","name"] (A5 cH cK cNK)) (C1:AD K cH "talk_of" m1 e1 ["self","name"])
  (G2:FnOk P w K mg bz AU 1 m2 e2 ["self"] (Gy cK)) (C2:AD K cK "entries" m2 e2 ["self"]):FnOk P w K mg bz (A4 P w) 4 f fd ["self","name"] (Hd cH cK cNK):=by
 refine Fun.okX F Li (fun vs H Q E h=>?_) (fun cdv A outer s H vs Q E hr h=>?_)
 ·obtain⟨M,S,k,rfl,_⟩:=h
  rfl
 obtain⟨M,S,k,rfl,hT,qN,q⟩:=h
 have hr1:Room 1 _:=hr.mono (by decide)
 refine⟨_,Af (Am (AY (Az (pv 0) HX.cl C1.m G1 hr C1.b .nil (Ap (E1:=E) fun _ _ _ h=>h) (Ab (pv 1) Ac)) TX.cl C2.m G2 hr1 C2.b .nil Ay)),?_⟩
 refine⟨_,rfl,S.x,_,_,rfl,hT.h.ob,Bc,_,rfl,M,S,k,rfl,hT,fun c=>qN c,fun p hp ep=>?_⟩
 have tp:=(hT.tt p hp).1
 exact⟨p.a,_,_,rfl,tp.ob,Lj,p.a,M,p.u,p.w,rfl,tp,fun l H' s' l0 hl=>q p hp ep l H' s' l0 hl⟩
theorem Px {m1 m2:Addr} {e1 e2:FuncData} (F:Fun K "held" "House.held" Fh f fd) (HX:EU K cH) (TX:Hn K cK) (G1:FnOk P w K mg bz (A4 P w) 3 m1 e1 ["self","name"] (A5 cH cK cNK)) (C1:AD K cH "talk_of" m1 e1 ["self","name"])
  (G2:FnOk P w K mg bz AU 1 m2 e2 ["self"] (IO cK)) (C2:AD K cK "held" m2 e2 ["self"]):FnOk P w K mg bz (A4 P w) 4 f fd ["self","name"] (MA cH cK cNK):=by
 refine Fun.okX F RH (fun vs H Q E h=>?_) (fun cdv A outer s H vs Q E hr h=>?_)
 ·obtain⟨M,S,k,rfl,_⟩:=h
  rfl
 obtain⟨M,S,k,rfl,hT,qN,q⟩:=h
 have hr1:Room 1 _:=hr.mono (by decide)
 refine⟨_,Af (Am (AY (Az (pv 0) HX.cl C1.m G1 hr C1.b .nil (Ap (E1:=E) fun _ _ _ h=>h) (Ab (pv 1) Ac)) TX.cl C2.m G2 hr1 C2.b .nil Ay)),?_⟩
 refine⟨_,rfl,S.x,_,_,rfl,hT.h.ob,Bc,_,rfl,M,S,k,rfl,hT,fun c=>qN c,fun p hp ep=>?_⟩
 have tp:=(hT.tt p hp).1
 exact⟨p.a,_,_,rfl,tp.ob,LX,p.a,M,p.u,p.w,rfl,tp,fun l H' s' l0 hl=>q p hp ep l H' s' l0 hl⟩
theorem Lf {m1 m2:Addr} {e1 e2:FuncData} (F:Fun K "caught" "House.caught" CQ f fd) (HX:EU K cH) (TX:Hn K cK) (G1:FnOk P w K mg bz (A4 P w) 3 m1 e1 ["self","name"] (A5 cH cK cNK)) (C1:AD K cH "talk_of" m1 e1 ["self","name"])
  (G2:FnOk P w K mg bz AU 5 m2 e2 ["self"] (HP cK)) (C2:AD K cK "caught" m2 e2 ["self"]):FnOk P w K mg bz (A4 P w) 6 f fd ["self","name"] (HL cH cK cNK):=by
 refine Fun.okX F Nf (fun vs H Q E h=>?_) (fun cdv A outer s H vs Q E hr h=>?_)
 ·obtain⟨M,S,k,rfl,_⟩:=h
  rfl
 obtain⟨M,S,k,rfl,hT,qN,q⟩:=h
 have hr3:Room 3 _:=hr.mono (by decide)
 refine⟨_,Af (Am (AY (Az (pv 0) HX.cl C1.m G1 hr3 C1.b .nil (Ap (E1:=E) fun _ _ _ h=>h) (Ab (pv 1) Ac)) TX.cl C2.m G2 hr C2.b .nil Ay)),?_⟩
 refine⟨_,rfl,S.x,_,_,rfl,hT.h.ob,Bc,_,rfl,M,S,k,rfl,hT,fun c=>qN c,fun p hp ep=>?_⟩
 have tp:=(hT.tt p hp).1
 exact⟨p.a,_,_,rfl,tp.ob,Ny,p.a,M,p.u,p.w,rfl,tp,fun H' s'=>q p hp ep H' s'⟩
theorem Qg {m1 m2:Addr} {e1 e2:FuncData} (F:Fun K "over" "House.over" EZ f fd) (HX:EU K cH) (TX:Hn K cK) (G1:FnOk P w K mg bz (A4 P w) 3 m1 e1 ["self","name"] (A5 cH cK cNK)) (C1:AD K cH "talk_of" m1 e1 ["self","name"])
  (G2:FnOk P w K mg bz AU 1 m2 e2 ["self"] (I9 cK)) (C2:AD K cK "over" m2 e2 ["self"]):FnOk P w K mg bz (A4 P w) 4 f fd ["self","name"] (MU cH cK cNK):=by
 refine Fun.okX F Sd (fun vs H Q E h=>?_) (fun cdv A outer s H vs Q E hr h=>?_)
 ·obtain⟨M,S,k,rfl,_⟩:=h
  rfl
 obtain⟨M,S,k,rfl,hT,qN,q⟩:=h
 have hr1:Room 1 _:=hr.mono (by decide)
 refine⟨_,Af (Am (AY (Az (pv 0) HX.cl C1.m G1 hr C1.b .nil (Ap (E1:=E) fun _ _ _ h=>h) (Ab (pv 1) Ac)) TX.cl C2.m G2 hr1 C2.b .nil Ay)),?_⟩
 refine⟨_,rfl,S.x,_,_,rfl,hT.h.ob,Bc,_,rfl,M,S,k,rfl,hT,fun c=>qN c,fun p hp ep=>?_⟩
 have tp:=(hT.tt p hp).1
 exact⟨p.a,_,_,rfl,tp.ob,MM,p.a,M,p.u,p.w,rfl,tp,q p hp ep⟩
theorem RO {m1 m2 m3:Addr} {e1 e2 e3:FuncData} (F:Fun K "ask" "House.ask" Ij f fd) (HX:EU K cH) (TX:Hn K cK) (G1:FnOk P w K mg bz (A4 P w) 3 m1 e1 ["self","name"] (A5 cH cK cNK)) (C1:AD K cH "talk_of" m1 e1 ["self","name"])
  (G2:FnOk P w K mg bz (A4 P w) 6 m2 e2 ["self","sentence","seen"] (II K cK cS)) (C2:AD K cK "ask" m2 e2 ["self","sentence","seen"]) (G3:FnOk P w K mg bz AU 4 m3 e3 ["self"] (D7 cH)) (C3:AD K cH "seen" m3 e3 ["self"]):FnOk P w K mg bz (A4 P w) 7 f fd ["self","name","sentence"] (OU cH cK cNK cS):=by
 refine Fun.okX F TC (fun vs H Q E h=>?_) (fun cdv A outer s H vs Q E hr h=>?_)
 ·obtain⟨M,S,k,v,t,rfl,_⟩:=h
  rfl
 obtain⟨M,S,k,v,t,rfl,hT,ha,ok5,hsz,qN,qS,q⟩:=h
 have hr3:Room 3 _:=hr.mono (by decide)
 have hr4:Room 4 _:=hr.mono (by decide)
 refine⟨_,Af (Am (Az (Az (pv 0) HX.cl C1.m G1 hr3 C1.b .nil (Ap (E1:=E) fun _ _ _ h=>h) (Ab (pv 1) Ac)) TX.cl C2.m G2 hr C2.b .nil (Ap (E1:=E) fun _ _ _ h=>h) (Ab (pv 2) (Ab (AY (pv 0) HX.cl C3.m G3 hr4 C3.b .nil Ay) Ac)))),?_⟩
 refine⟨_,rfl,S.x,_,_,rfl,hT.h.ob,Bc,_,rfl,M,S,k,rfl,hT,fun c=>qN c,fun p hp ep=>?_⟩
 have em:=(hT.tt p hp).2.2
 refine⟨p.a,_,_,rfl,(hT.tt p hp).1.ob,KT,_,rfl,_,rfl,S.x,_,_,rfl,hT.h.ob,EK,S.x,M,S.U,S.m,S.room,S.marks,S.ls,rfl,hT.h,fun sn H1 s1 sn0 hsn=>?_⟩
 have wsn:=hT.h.wr.sub (List.filter_sublist (p:=M0 S.marks) (l:=S.room))
 refine⟨p.a,sn,v,M,p.u,p.w,t,S.seen,rfl,((hT.keep s1).tt p hp).1,ha.keep (TS.same s1),ok5,hsz,SqL.of hsn,wsn,hT.h.ne,fun c H' s'=>qS p hp ep (by rw[←em];exact c) H' (s1.trans s'),fun c H' s'=>q p hp ep (by rw[←em];exact c) H' (s1.trans s')⟩
theorem SC {m1 m2 m3 m4 gS:Addr} {e1 e2 e3 e4 dSh:FuncData} (F:Fun K "say" "House.say" HW f fd) (HX:EU K cH) (TX:Hn K cK) (G1:FnOk P w K mg bz (A4 P w) 3 m1 e1 ["self","name"] (A5 cH cK cNK)) (C1:AD K cH "talk_of" m1 e1 ["self","name"])
  (G2:FnOk P w K mg bz (A4 P w) 7 m2 e2 ["self","sentence","seen"] (QA K cK cS cO)) (C2:AD K cK "say" m2 e2 ["self","sentence","seen"]) (G3:FnOk P w K mg bz AU 4 m3 e3 ["self"] (D7 cH)) (C3:AD K cH "seen" m3 e3 ["self"])
  (GS:FnOk P w K mg bz AU 1 gS dSh ["sentence"] F0) (CS:AW K mg "shown" gS dSh ["sentence"])
  (G4:FnOk P w K mg bz AU 2 m4 e4 ["self","words"] (Da cH)) (C4:AD K cH "write" m4 e4 ["self","words"]):FnOk P w K mg bz (A4 P w) 8 f fd ["self","name","sentence"] (LB cH cK cNK cS cO):=by
 refine Fun.okX F scHSay (fun vs H Q E h=>?_) (fun cdv A outer s H vs Q E hr h=>?_)
 ·obtain⟨M,S,k,v,t,rfl,_⟩:=h
  rfl
 obtain⟨M,S,k,v,t,rfl,hT,hk1,ha,ok5,hsz,hl9,he9,qN,qO,qS,q⟩:=h
 have hr1:Room 1 _:=hr.mono (by decide)
 have hr2:Room 2 _:=hr.mono (by decide)
 have hr3:Room 3 _:=hr.mono (by decide)
 have hr4:Room 4 _:=hr.mono (by decide)
 refine⟨_,Ae (Ax (i:=3) scHSay.nd rfl (Or.inl rfl) (Az (Az (pv 0) HX.cl C1.m G1 hr3 C1.b .nil (Ap (E1:=E) fun _ _ _ h=>h) (Ab (pv 1) Ac)) TX.cl C2.m G2 hr C2.b .nil (Ap (E1:=E) fun _ _ _ h=>h) (Ab (pv 2) (Ab (AY (pv 0) HX.cl C3.m G3 hr4 C3.b .nil Ay) Ac))))
  (Ae (AA (Az (pv 0) HX.cl C4.m G4 hr2 C4.b .nil Ay (Ab (AE (Ab Ah (Ab (pv 1) (Ab (An GS hr1 (by rfl) CS.m CS.k CS.b .nil Ay (Ab (pv 2) Ac)) (Ab (pv 3) Ac))))) Ac)))
  (Af (Am (pv 3)))),?_⟩
 refine⟨_,rfl,S.x,_,_,rfl,hT.h.ob,Bc,_,rfl,M,S,k,rfl,hT,fun c=>qN c,fun p hp ep=>?_⟩
 subst ep
 obtain⟨tp0,er,em⟩:=hT.tt p hp
 refine⟨p.a,_,_,rfl,tp0.ob,Tc,_,rfl,_,rfl,S.x,_,_,rfl,hT.h.ob,EK,S.x,M,S.U,S.m,S.room,S.marks,S.ls,rfl,hT.h,fun sn H1 s1 sn0 hsn=>?_⟩
 have wsn:=hT.h.wr.sub (List.filter_sublist (p:=M0 S.marks) (l:=S.room))
 have hT1:=hT.keep s1
 have tp1:=(hT1.tt p hp).1
 refine⟨p.a,sn,v,M,p.u,p.w,t,S.seen,rfl,tp1,hT1.fr,ha.keep (TS.same (Au s1)),ok5,by omega,SqL.of hsn,wsn,hT.h.ne,(he9 p hp).1,(he9 p hp).2,fun c H' s'=>qO p hp rfl c H' (s1.trans s'),fun c c2 H' s'=>qS p hp rfl c (by rw[←em];exact c2) H' (s1.trans s'),fun c c2 u H2 b2 eg el hne ht=>?_⟩
 have b2':But [p.a,p.u.gv,p.u.lf] H1 H2:=But.wide (fun m hm=>List.mem_cons_of_mem _ hm) b2
 have hT2:=hT1.alter hp b2' hne eg el ht er em
 have kM:But M H1 H2:=But.wide (fun m hm=>by
  simp only[List.mem_cons,List.not_mem_nil,or_false] at hm
  rcases hm with rfl | rfl
  ·exact tp1.mg
  ·exact tp1.ml) b2
 have ha2:t.At H2 v:=ha.keep (TS.same (((Au s1).trans kM).trans AJ))
 refine⟨_,rfl,S.x,_,_,rfl,hT2.h.ob,DH,_,rfl,_,rfl,v,t,rfl,ha2,ok5,hsz,fun z H3 hz s3=>?_⟩
 have ez:=LE hz
 subst ez
 refine⟨_,rfl,Vg,fun l hl=>?_⟩
 have s4:=Ag hl (.lst [.str "say",.str p.nm,.str (EV t),.str (DE p.w S.seen t)])
 have l4:upd H3 l (.lst [.str "say",.str p.nm,.str (EV t),.str (DE p.w S.seen t)]) l=some (.lst ([("say":Str),p.nm,EV t,DE p.w S.seen t].map V.str)):=upd_same
 generalize upd H3 l _=H4 at *
 have hT4:=hT2.keep (s3.trans s4)
 refine⟨S.x,l,S.U,S.m,[("say":Str),p.nm,EV t,DE p.w S.seen t],S.ls,rfl,hT4.h.ob,hT4.h.ln,by omega,l4,?_,⟨_,rfl,?_⟩⟩
 ·show ("say":Str).length+(p.nm.length+((EV t).length+((DE p.w S.seen t).length+0)))+4≤100000
  have:("say":Str).length=3:=rfl
  have:=Jl t
  have:=R1 p.w S.seen t
  omega
 have hT5:=hT4.wrote (.str (DD ["say",p.nm,EV t,DE p.w S.seen t])) hl9
 refine q p hp rfl c (by rw[←em];exact c2) u _ ?_ ?_ eg el hT5
 ·refine (Au s1).trans (But.wide (M:=[p.a,p.u.gv,p.u.lf]) (fun m hm=>?_) b2' |>.trans ((Au (s3.trans s4)).trans (But.upd (by simp))))
  simp only[List.mem_cons,List.not_mem_nil,or_false] at hm ⊢
  rcases hm with h | h | h<;>simp[h]
 ·intro b hb z
  have h1:H1 b≠none:=fun z1=>hb (s1.free z1)
  have h2:=hne b h1
  have h4:H4 b≠none:=fun z4=>h2 ((s3.trans s4).free z4)
  by_cases e:b=S.U.ln
  ·rw[e,upd_same] at z;cases z
  ·rw[Aq e] at z;exact h4 z
theorem Ob {M:List Addr} {H H1 H2:Hp} {l:Addr} {o:HO} (s1:Same H H1) (b:But M H1 H2) (hl:l∈M):But M H (upd H2 l o):=((Au s1).trans b).trans (But.upd hl)
theorem Tq {H:Hp} {l b:Addr} {o:HO} (h:H b≠none):upd H l o b≠none:=fun z=>by
 by_cases e:b=l
 ·rw[e,upd_same] at z;cases z
 ·rw[Aq e] at z;exact h z
theorem So {m1 m2 m4:Addr} {e1 e2 e4:FuncData} (F:Fun K "end" "House.end" Iw f fd) (HX:EU K cH) (TX:Hn K cK) (G1:FnOk P w K mg bz (A4 P w) 3 m1 e1 ["self","name"] (A5 cH cK cNK)) (C1:AD K cH "talk_of" m1 e1 ["self","name"])
  (G2:FnOk P w K mg bz (A4 P w) 3 m2 e2 ["self"] (OW cK cO)) (C2:AD K cK "end" m2 e2 ["self"])
  (G4:FnOk P w K mg bz AU 2 m4 e4 ["self","words"] (Da cH)) (C4:AD K cH "write" m4 e4 ["self","words"]):FnOk P w K mg bz (A4 P w) 4 f fd ["self","name"] (LJ cH cK cNK cO):=by
 refine Fun.okX F UL (fun vs H Q E h=>?_) (fun cdv A outer s H vs Q E hr h=>?_)
 ·obtain⟨M,S,k,rfl,_⟩:=h
  rfl
 obtain⟨M,S,k,rfl,hT,hk1,hl9,qN,qO,q⟩:=h
 have hr2:Room 2 _:=hr.mono (by decide)
 refine⟨_,Ae (AA (AY (Az (pv 0) HX.cl C1.m G1 hr C1.b .nil (Ap (E1:=E) fun _ _ _ h=>h) (Ab (pv 1) Ac)) TX.cl C2.m G2 hr C2.b .nil (Ap (E1:=E) fun _ _ _ h=>h)))
  (Af (AA (Az (pv 0) HX.cl C4.m G4 hr2 C4.b .nil Ay (Ab (AE (Ab Ah (Ab (pv 1) Ac))) Ac)))),?_⟩
 refine⟨_,rfl,S.x,_,_,rfl,hT.h.ob,Bc,_,rfl,M,S,k,rfl,hT,fun c=>qN c,fun p hp ep=>?_⟩
 subst ep
 obtain⟨tp0,er,em⟩:=hT.tt p hp
 refine⟨p.a,_,_,rfl,tp0.ob,Tl,p.a,M,p.u,p.w,rfl,tp0,fun c=>qO p hp rfl c,fun c H1 b1 ht=>?_⟩
 have b1':But [p.a,p.u.gv,p.u.lf] H H1:=But.wide (fun m hm=>by rw[List.mem_singleton.mp hm];exact List.mem_cons_self) b1
 have hne:∀b,H b≠none→H1 b≠none:=fun b hb z=>by
  by_cases e:b=p.a
  ·rw[e,ht.ob] at z;cases z
  ·cases h0:H b with
   | none=>exact hb h0
   | some o=>rw[b1.at h0 (fun z=>e (List.mem_singleton.mp z))] at z;cases z
 have hT1:=hT.alter hp b1' hne rfl rfl ht er em
 refine⟨_,rfl,S.x,_,_,rfl,hT1.h.ob,DH,_,rfl,FV,fun l hl=>?_⟩
 have s2:=Ag hl (.lst [.str "end",.str p.nm])
 have l2:upd H1 l (.lst [.str "end",.str p.nm]) l=some (.lst ([("end":Str),p.nm].map V.str)):=upd_same
 generalize upd H1 l _=H2 at *
 have hT2:=hT1.keep s2
 refine⟨S.x,l,S.U,S.m,[("end":Str),p.nm],S.ls,rfl,hT2.h.ob,hT2.h.ln,by omega,l2,?_,?_⟩
 ·show ("end":Str).length+(p.nm.length+0)+2≤100000
  have:("end":Str).length=3:=rfl
  omega
 have hT3:=hT2.wrote (.str (DD ["end",p.nm])) hl9
 refine q p hp rfl c _ ?_ ?_ hT3
 ·refine Ob (Same.refl _) ((But.wide (M:=[p.a]) (fun m hm=>?_) b1).trans (Au s2)) (by simp)
  rw[List.mem_singleton.mp hm];exact List.mem_cons_self
 ·exact fun b hb=>Tq fun z=>hne b hb (s2.free z)
end
abbrev Cv:Stmt:=Bm 67
abbrev Ft:Stmt:=Bm 56
abbrev CG:Stmt:=Bm 57
abbrev ED:Stmt:=Bm 69
abbrev Im:Stmt:=AF (Bm 73) 18
abbrev Ec:Stmt:=AF (Bm 73) 20
abbrev Ej:Stmt:=AF (Bm 73) 21
abbrev D1:Stmt:=AF (Bm 73) 19
abbrev B5:Stmt:=AF (Bm 73) 5
theorem K8 {U:Hk} {m:Nat}:(Dx U m).lookup ("why":Str)=none:=by with_unfolding_all rfl
theorem Hh {U:Hk} {m:Nat}:(Dx U m).lookup ("bring":Str)=none:=by with_unfolding_all rfl
theorem JQ {U:Hk} {m:Nat}:(Dx U m).lookup ("catch":Str)=none:=by with_unfolding_all rfl
theorem OV {U:Hk} {m:Nat}:(Dx U m).lookup ("clash":Str)=none:=by with_unfolding_all rfl
def Mt:Sp:=fun _ _ _ _=>False
theorem FnOk.never {P:Program} {w:World} {K:PySem.W.Frag} {mg:Str→Option Value} {bz:Heap} {CX:MJ} {k:Nat} {f:Addr} {fd:FuncData} {ps:List Str}:FnOk P w K mg bz CX k f fd ps Mt:=⟨fun _ _ _ _ h=>h.elim,fun _ _ _ _ _ _ _ _ _ _ _ _ _ h=>h.elim⟩
def FT (K:PySem.W.Frag) (C cO cS:Addr):Sp:=fun vs H Q E=>∃(a sn:Addr) (v:V) (M:List Addr) (U:Tk) (W:Ta) (t:Tr) (seen:List Int),vs=[.ref a,v,.ref sn]∧TalkAt M C H a U W∧t.At H v∧t.ok 5∧t.size≤60∧SqL K H sn (seen.map V.int)∧Wr seen∧seen≠[]∧(W.ended=false→¬t.ok W.many)∧
 (W.ended=true→E (.ref cO) none H)∧(W.ended=false→∀H',Same H H'→E (.ref cS) none H')
def JI (C cO:Addr):Sp:=fun vs H Q E=>∃(a sn:Addr) (M:List Addr) (U:Tk) (W:Ta),vs=[.ref a,.ref sn]∧TalkAt M C H a U W∧W.ended=true∧E (.ref cO) none H
def EC (C cK cNK cO cS:Addr):Sp:=fun vs H Q E=>∃(M:List Addr) (S:HSt) (k:Str) (v:V) (t:Tr),vs=[.ref S.x,.str k,v]∧HouseT M C cK H S∧t.At H v∧t.ok 5∧t.size≤60∧(∀p∈S.ts,p.nm=k→p.w.ended=false→¬t.ok S.m)∧
 (k∉Bp S.ts→E (.ref cNK) none H)∧(∀p∈S.ts,p.nm=k→p.w.ended=true→∀H',Same H H'→E (.ref cO) none H')∧(∀p∈S.ts,p.nm=k→p.w.ended=false→∀H',Same H H'→E (.ref cS) none H')
def Ii (C cK cNK cO:Addr):Sp:=fun vs H Q E=>∃(M:List Addr) (S:HSt) (k:Str),vs=[.ref S.x,.str k]∧HouseT M C cK H S∧(∀p∈S.ts,p.nm=k→p.w.ended=true)∧(k∉Bp S.ts→E (.ref cNK) none H)∧(∀p∈S.ts,p.nm=k→∀H',Same H H'→E (.ref cO) none H')
def ID (C cK cNK:Addr):Sp:=fun vs H Q E=>∃(M:List Addr) (S:HSt) (k:Str),vs=[.ref S.x,.str k]∧HouseT M C cK H S∧k∉Bp S.ts∧E (.ref cNK) none H
def JF (C cK cNK:Addr):Sp:=fun vs H Q E=>∃(M:List Addr) (S:HSt) (k n:Str),vs=[.ref S.x,.str k,.str n]∧HouseT M C cK H S∧k∉Bp S.ts∧E (.ref cNK) none H
def Ku (C cO:Addr):Sp:=fun vs H Q E=>∃(a:Addr) (M:List Addr) (U:Tk) (W:Ta),vs=[.ref a]∧TalkAt M C H a U W∧W.ended=true∧E (.ref cO) none H
def Ka (C cK cNK cO:Addr):Sp:=fun vs H Q E=>∃(M:List Addr) (S:HSt) (k:Str),vs=[.ref S.x,.str k]∧HouseT M C cK H S∧(∀p∈S.ts,p.nm=k→p.w.ended=true)∧(k∉Bp S.ts→E (.ref cNK) none H)∧(∀p∈S.ts,p.nm=k→E (.ref cO) none H)
def Ia (C cS:Addr):Sp:=fun vs H Q E=>∃(x:Addr) (N:List Addr) (U:Hk) (m:Nat) (room:List Int) (marks:List (Option Bool)) (ls:List V) (v:V) (t:Tr),vs=[.ref x,v]∧HouseAt N C H x U m room marks ls∧t.At H v∧t.ok 5∧t.size≤60∧¬t.ok m∧∀H',Same H H'→E (.ref cS) none H'
section
variable {cH cK cS cO cT cNK:Addr}
theorem NV:Al ["talk","sentence","seen","room","inside","going_inside","going_outside"] ["talk","sentence","seen"] (Ad Cv):=Bn
theorem scWayTo:Al ["talk","goal","seen","due","inside","side","kept"] ["talk","goal","seen"] (Ad Ft):=Bn
theorem Nr:Al ["talk","seen","rows"] ["talk","seen"] (Ad CG):=Bn
theorem Ty:Al ["self","name","sentence"] ["self","name","sentence"] (Ad Im):=Bn
theorem P4:Al ["self","name","goal"] ["self","name","goal"] (Ad Ec):=Bn
theorem OK:Al ["self","name"] ["self","name"] (Ad Ej):=Bn
theorem QV:Al ["self","name"] ["self","name"] (Ad D1):=Bn
theorem LQ:Al ["self","sentence"] ["self","sentence"] (Ad B5):=Bn
theorem NP {g1 g2:Addr} {d1 d2:FuncData} (F:Fun K "paper_of" "paper_of" Cv f fd) (TX:Hn K cK) (GO:FnOk P w K mg bz (A4 P w) 2 g1 d1 ["talk"] (BN cK cO)) (CO:AW K mg "refuse_over" g1 d1 ["talk"])
  (GR:FnOk P w K mg bz (A4 P w) 3 g2 d2 ["sentence","many"] (Cs cS)) (CR:AW K mg "refuse_strange" g2 d2 ["sentence","many"]):FnOk P w K mg bz (A4 P w) 4 f fd ["talk","sentence","seen"] (FT K cK cO cS):=by
 refine Fun.okX F NV (fun vs H Q E h=>?_) (fun cdv A outer s H vs Q E hr h=>?_)
 ·obtain⟨a,sn,v,M,U,W,t,seen,rfl,_⟩:=h
  rfl
 obtain⟨a,sn,v,M,U,W,t,seen,rfl,hT,ha,ok5,hsz,hN,wN,nne,hno,qO,qS⟩:=h
 have hr2:Room 2 _:=hr.mono (by decide)
 refine⟨_,Ae (AA (An GO hr2 (by rfl) CO.m CO.k CO.b .nil (Ap (E1:=E) fun _ _ _ h=>h) (Ab (pv 0) Ac))) (Ae (AA (An GR hr (by rfl) CR.m CR.k CR.b .nil (Ap (E1:=E) fun _ _ _ h=>h) (Ab (pv 1) (Ab (AT (pv 0) rfl) Ac)))) BM),?_⟩
 refine⟨_,rfl,a,M,U,W,rfl,hT,fun c=>qO c,fun c=>?_⟩
 exact⟨_,rfl,_,rfl,a,cK,_,_,_,rfl,hT.ob,TX.cl,TX.many,ME,v,t,W.many,rfl,ha,ok5,hsz,fun _ H' s'=>qS c H' s',fun z=>absurd z (hno c)⟩
theorem Ro {g1 m8:Addr} {d1 e8:FuncData} (F:Fun K "way_to" "way_to" Ft f fd) (TX:Hn K cK) (GO:FnOk P w K mg bz (A4 P w) 2 g1 d1 ["talk"] (BN cK cO)) (CO:AW K mg "refuse_over" g1 d1 ["talk"])
  (G8:FnOk P w K mg bz (A4 P w) 6 m8 e8 ["self","sentence","seen"] (II K cK cS)) (C8:AD K cK "ask" m8 e8 ["self","sentence","seen"]):FnOk P w K mg bz (A4 P w) 7 f fd ["talk","goal","seen"] (FT K cK cO cS):=by
 refine Fun.okX F scWayTo (fun vs H Q E h=>?_) (fun cdv A outer s H vs Q E hr h=>?_)
 ·obtain⟨a,sn,v,M,U,W,t,seen,rfl,_⟩:=h
  rfl
 obtain⟨a,sn,v,M,U,W,t,seen,rfl,hT,ha,ok5,hsz,hN,wN,nne,hno,qO,qS⟩:=h
 have hr2:Room 2 _:=hr.mono (by decide)
 refine⟨_,Ae (AA (An GO hr2 (by rfl) CO.m CO.k CO.b .nil (Ap (E1:=E) fun _ _ _ h=>h) (Ab (pv 0) Ac))) (Ae (Ax (i:=3) scWayTo.nd rfl (Or.inl rfl) (Az (pv 0) TX.cl C8.m G8 hr C8.b .nil (Ap (E1:=E) fun _ _ _ h=>h) (Ab (pv 1) (Ab (pv 2) Ac)))) BM),?_⟩
 refine⟨_,rfl,a,M,U,W,rfl,hT,fun c=>qO c,fun c=>?_⟩
 exact⟨_,rfl,a,_,_,rfl,hT.ob,KT,_,rfl,_,rfl,a,sn,v,M,U,W,t,seen,rfl,hT,ha,ok5,hsz,hN,wN,nne,fun _ H' s'=>qS c H' s',fun z=>absurd z (hno c)⟩
theorem N4 {g1:Addr} {d1:FuncData} (F:Fun K "catch_by" "catch_by" CG f fd) (TX:Hn K cK) (GO:FnOk P w K mg bz (A4 P w) 2 g1 d1 ["talk"] (BN cK cO)) (CO:AW K mg "refuse_over" g1 d1 ["talk"]):FnOk P w K mg bz (A4 P w) 3 f fd ["talk","seen"] (JI cK cO):=by
 refine Fun.okX F Nr (fun vs H Q E h=>?_) (fun cdv A outer s H vs Q E hr h=>?_)
 ·obtain⟨a,sn,M,U,W,rfl,_⟩:=h
  rfl
 obtain⟨a,sn,M,U,W,rfl,hT,he,qO⟩:=h
 refine⟨_,Ae (AA (An GO hr (by rfl) CO.m CO.k CO.b .nil (Ap (E1:=E) fun _ _ _ h=>h) (Ab (pv 0) Ac))) BM,?_⟩
 exact⟨_,rfl,a,M,U,W,rfl,hT,fun c=>qO,fun c=>by rw[he] at c;cases c⟩
theorem K4 {g1:Addr} {d1:FuncData} (F:Fun K "plainly" "House.plainly" B5 f fd) (HX:EU K cH) (GR:FnOk P w K mg bz (A4 P w) 3 g1 d1 ["sentence","many"] (Cs cS)) (CR:AW K mg "refuse_strange" g1 d1 ["sentence","many"]):FnOk P w K mg bz (A4 P w) 4 f fd ["self","sentence"] (Ia cH cS):=by
 refine Fun.okX F LQ (fun vs H Q E h=>?_) (fun cdv A outer s H vs Q E hr h=>?_)
 ·obtain⟨x,N,U,m,room,marks,ls,v,t,rfl,_⟩:=h
  rfl
 obtain⟨x,N,U,m,room,marks,ls,v,t,rfl,hT,ha,ok5,hsz,hno,q⟩:=h
 refine⟨_,Ae (AA (An GR hr (by rfl) CR.m CR.k CR.b .nil (Ap (E1:=E) fun _ _ _ h=>h) (Ab (pv 1) (Ab (AT (pv 0) rfl) Ac)))) BM,?_⟩
 exact⟨_,rfl,_,rfl,x,cH,_,_,_,rfl,hT.ob,HX.cl,HX.many,MQ,v,t,m,rfl,ha,ok5,hsz,fun _ H' s'=>q H' s',fun z=>absurd z hno⟩
theorem RU {m1 m3 g:Addr} {e1 e3 gd:FuncData} (F:Fun K "why" "House.why" Im f fd) (HX:EU K cH) (G1:FnOk P w K mg bz (A4 P w) 3 m1 e1 ["self","name"] (A5 cH cK cNK)) (C1:AD K cH "talk_of" m1 e1 ["self","name"])
  (G3:FnOk P w K mg bz AU 4 m3 e3 ["self"] (D7 cH)) (C3:AD K cH "seen" m3 e3 ["self"]) (GX:FnOk P w K mg bz (A4 P w) 4 g gd ["talk","sentence","seen"] (FT K cK cO cS)) (CX:AW K mg "paper_of" g gd ["talk","sentence","seen"]):FnOk P w K mg bz (A4 P w) 5 f fd ["self","name","sentence"] (EC cH cK cNK cO cS):=by
 refine Fun.okX F Ty (fun vs H Q E h=>?_) (fun cdv A outer s H vs Q E hr h=>?_)
 ·obtain⟨M,S,k,v,t,rfl,_⟩:=h
  rfl
 obtain⟨M,S,k,v,t,rfl,hT,ha,ok5,hsz,hno,qN,qO,qS⟩:=h
 have hr3:Room 3 _:=hr.mono (by decide)
 refine⟨_,Af (Am (An GX hr (by rfl) CX.m CX.k CX.b .nil (Ap (E1:=E) fun _ _ _ h=>h) (Ab (Az (pv 0) HX.cl C1.m G1 hr3 C1.b .nil (Ap (E1:=E) fun _ _ _ h=>h) (Ab (pv 1) Ac)) (Ab (pv 2) (Ab (AY (pv 0) HX.cl C3.m G3 hr C3.b .nil Ay) Ac))))),?_⟩
 refine⟨_,rfl,S.x,_,_,rfl,hT.h.ob,Bc,_,rfl,M,S,k,rfl,hT,fun c=>qN c,fun p hp ep=>?_⟩
 have em:=(hT.tt p hp).2.2
 refine⟨_,rfl,_,rfl,S.x,_,_,rfl,hT.h.ob,EK,S.x,M,S.U,S.m,S.room,S.marks,S.ls,rfl,hT.h,fun sn H1 s1 sn0 hsn=>?_⟩
 have wsn:=hT.h.wr.sub (List.filter_sublist (p:=M0 S.marks) (l:=S.room))
 exact⟨p.a,sn,v,M,p.u,p.w,t,S.seen,rfl,((hT.keep s1).tt p hp).1,ha.keep (TS.same s1),ok5,hsz,SqL.of hsn,wsn,hT.h.ne,fun c=>by rw[em];exact hno p hp ep c,fun c=>qO p hp ep c H1 s1,fun c H' s'=>qS p hp ep c H' (s1.trans s')⟩
theorem Nh {m1 m3 g:Addr} {e1 e3 gd:FuncData} (F:Fun K "bring" "House.bring" Ec f fd) (HX:EU K cH) (G1:FnOk P w K mg bz (A4 P w) 3 m1 e1 ["self","name"] (A5 cH cK cNK)) (C1:AD K cH "talk_of" m1 e1 ["self","name"])
  (G3:FnOk P w K mg bz AU 4 m3 e3 ["self"] (D7 cH)) (C3:AD K cH "seen" m3 e3 ["self"]) (GX:FnOk P w K mg bz (A4 P w) 7 g gd ["talk","goal","seen"] (FT K cK cO cS)) (CX:AW K mg "way_to" g gd ["talk","goal","seen"]):FnOk P w K mg bz (A4 P w) 8 f fd ["self","name","goal"] (EC cH cK cNK cO cS):=by
 refine Fun.okX F P4 (fun vs H Q E h=>?_) (fun cdv A outer s H vs Q E hr h=>?_)
 ·obtain⟨M,S,k,v,t,rfl,_⟩:=h
  rfl
 obtain⟨M,S,k,v,t,rfl,hT,ha,ok5,hsz,hno,qN,qO,qS⟩:=h
 have hr3:Room 3 _:=hr.mono (by decide)
 have hr4:Room 4 _:=hr.mono (by decide)
 refine⟨_,Af (Am (An GX hr (by rfl) CX.m CX.k CX.b .nil (Ap (E1:=E) fun _ _ _ h=>h) (Ab (Az (pv 0) HX.cl C1.m G1 hr3 C1.b .nil (Ap (E1:=E) fun _ _ _ h=>h) (Ab (pv 1) Ac)) (Ab (pv 2) (Ab (AY (pv 0) HX.cl C3.m G3 hr4 C3.b .nil Ay) Ac))))),?_⟩
 refine⟨_,rfl,S.x,_,_,rfl,hT.h.ob,Bc,_,rfl,M,S,k,rfl,hT,fun c=>qN c,fun p hp ep=>?_⟩
 have em:=(hT.tt p hp).2.2
 refine⟨_,rfl,_,rfl,S.x,_,_,rfl,hT.h.ob,EK,S.x,M,S.U,S.m,S.room,S.marks,S.ls,rfl,hT.h,fun sn H1 s1 sn0 hsn=>?_⟩
 have wsn:=hT.h.wr.sub (List.filter_sublist (p:=M0 S.marks) (l:=S.room))
 exact⟨p.a,sn,v,M,p.u,p.w,t,S.seen,rfl,((hT.keep s1).tt p hp).1,ha.keep (TS.same s1),ok5,hsz,SqL.of hsn,wsn,hT.h.ne,fun c=>by rw[em];exact hno p hp ep c,fun c=>qO p hp ep c H1 s1,fun c H' s'=>qS p hp ep c H' (s1.trans s')⟩
theorem Oc {m1 m3 g:Addr} {e1 e3 gd:FuncData} (F:Fun K "catch" "House.catch" Ej f fd) (HX:EU K cH) (G1:FnOk P w K mg bz (A4 P w) 3 m1 e1 ["self","name"] (A5 cH cK cNK)) (C1:AD K cH "talk_of" m1 e1 ["self","name"])
  (G3:FnOk P w K mg bz AU 4 m3 e3 ["self"] (D7 cH)) (C3:AD K cH "seen" m3 e3 ["self"]) (GX:FnOk P w K mg bz (A4 P w) 3 g gd ["talk","seen"] (JI cK cO)) (CX:AW K mg "catch_by" g gd ["talk","seen"]):FnOk P w K mg bz (A4 P w) 5 f fd ["self","name"] (Ii cH cK cNK cO):=by
 refine Fun.okX F OK (fun vs H Q E h=>?_) (fun cdv A outer s H vs Q E hr h=>?_)
 ·obtain⟨M,S,k,rfl,_⟩:=h
  rfl
 obtain⟨M,S,k,rfl,hT,he,qN,qO⟩:=h
 have hr3:Room 3 _:=hr.mono (by decide)
 refine⟨_,Af (Am (An GX hr3 (by rfl) CX.m CX.k CX.b .nil (Ap (E1:=E) fun _ _ _ h=>h) (Ab (Az (pv 0) HX.cl C1.m G1 hr3 C1.b .nil (Ap (E1:=E) fun _ _ _ h=>h) (Ab (pv 1) Ac)) (Ab (AY (pv 0) HX.cl C3.m G3 hr C3.b .nil Ay) Ac)))),?_⟩
 refine⟨_,rfl,S.x,_,_,rfl,hT.h.ob,Bc,_,rfl,M,S,k,rfl,hT,fun c=>qN c,fun p hp ep=>?_⟩
 refine⟨_,rfl,S.x,_,_,rfl,hT.h.ob,EK,S.x,M,S.U,S.m,S.room,S.marks,S.ls,rfl,hT.h,fun sn H1 s1 sn0 hsn=>?_⟩
 exact⟨p.a,sn,M,p.u,p.w,rfl,((hT.keep s1).tt p hp).1,he p hp ep,qO p hp ep H1 s1⟩
theorem MY {m1 g:Addr} {e1 gd:FuncData} (F:Fun K "clash" "House.clash" D1 f fd) (HX:EU K cH) (G1:FnOk P w K mg bz (A4 P w) 3 m1 e1 ["self","name"] (A5 cH cK cNK)) (C1:AD K cH "talk_of" m1 e1 ["self","name"])
  (CX:AW K mg "clash_of" g gd ["talk"]):FnOk P w K mg bz (A4 P w) 4 f fd ["self","name"] (ID cH cK cNK):=by
 refine Fun.okX F QV (fun vs H Q E h=>?_) (fun cdv A outer s H vs Q E hr h=>?_)
 ·obtain⟨M,S,k,rfl,_⟩:=h
  rfl
 obtain⟨M,S,k,rfl,hT,hn,qN⟩:=h
 have GX:FnOk P w K mg bz (A4 P w) 3 g gd ["talk"] Mt:=FnOk.never
 refine⟨_,Af (Am (An GX hr (by rfl) CX.m CX.k CX.b .nil (Ap (E1:=E) fun _ _ _ h=>h) (Ab (Az (pv 0) HX.cl C1.m G1 hr C1.b .nil (Ap (E1:=E) fun _ _ _ h=>h) (Ab (pv 1) Ac)) Ac))),?_⟩
 refine⟨_,rfl,S.x,_,_,rfl,hT.h.ob,Bc,_,rfl,M,S,k,rfl,hT,fun c=>qN,fun p hp ep=>?_⟩
 exact absurd (by rw[←ep];exact List.mem_map_of_mem hp) hn
theorem MX {g1:Addr} {d1:FuncData} (F:Fun K "back" "Talk.back" Fa f fd) (GO:FnOk P w K mg bz (A4 P w) 2 g1 d1 ["talk"] (BN cK cO)) (CO:AW K mg "refuse_over" g1 d1 ["talk"]):FnOk P w K mg bz (A4 P w) 3 f fd ["self"] (Ku cK cO):=by
 refine Fun.okX F Sy (fun vs H Q E h=>?_) (fun cdv A outer s H vs Q E hr h=>?_)
 ·obtain⟨a,M,U,W,rfl,_⟩:=h
  rfl
 obtain⟨a,M,U,W,rfl,hT,he,qO⟩:=h
 refine⟨_,Ae (AA (An GO hr (by rfl) CO.m CO.k CO.b .nil (Ap (E1:=E) fun _ _ _ h=>h) (Ab (pv 0) Ac))) BM,?_⟩
 exact⟨_,rfl,a,M,U,W,rfl,hT,fun c=>qO,fun c=>by rw[he] at c;cases c⟩
theorem NO {m1 m2:Addr} {e1 e2:FuncData} (F:Fun K "back" "House.back" Fk f fd) (HX:EU K cH) (TX:Hn K cK) (G1:FnOk P w K mg bz (A4 P w) 3 m1 e1 ["self","name"] (A5 cH cK cNK)) (C1:AD K cH "talk_of" m1 e1 ["self","name"])
  (G2:FnOk P w K mg bz (A4 P w) 3 m2 e2 ["self"] (Ku cK cO)) (C2:AD K cK "back" m2 e2 ["self"]):FnOk P w K mg bz (A4 P w) 4 f fd ["self","name"] (Ka cH cK cNK cO):=by
 refine Fun.okX F scHBack (fun vs H Q E h=>?_) (fun cdv A outer s H vs Q E hr h=>?_)
 ·obtain⟨M,S,k,rfl,_⟩:=h
  rfl
 obtain⟨M,S,k,rfl,hT,he,qN,qO⟩:=h
 refine⟨_,Ae (Ax (i:=2) scHBack.nd rfl (Or.inl rfl) (AY (Az (pv 0) HX.cl C1.m G1 hr C1.b .nil (Ap (E1:=E) fun _ _ _ h=>h) (Ab (pv 1) Ac)) TX.cl C2.m G2 hr C2.b .nil (Ap (E1:=E) fun _ _ _ h=>h))) BM,?_⟩
 refine⟨_,rfl,S.x,_,_,rfl,hT.h.ob,Bc,_,rfl,M,S,k,rfl,hT,fun c=>qN c,fun p hp ep=>?_⟩
 have tp:=(hT.tt p hp).1
 exact⟨p.a,_,_,rfl,tp.ob,SI,p.a,M,p.u,p.w,rfl,tp,he p hp ep,qO p hp ep⟩
theorem M5 {m1:Addr} {e1:FuncData} (F:Fun K "fork" "House.fork" Fj f fd) (HX:EU K cH) (G1:FnOk P w K mg bz (A4 P w) 3 m1 e1 ["self","name"] (A5 cH cK cNK)) (C1:AD K cH "talk_of" m1 e1 ["self","name"]):FnOk P w K mg bz (A4 P w) 4 f fd ["self","name","other"] (JF cH cK cNK):=by
 refine Fun.okX F scHFork (fun vs H Q E h=>?_) (fun cdv A outer s H vs Q E hr h=>?_)
 ·obtain⟨M,S,k,n,rfl,_⟩:=h
  rfl
 obtain⟨M,S,k,n,rfl,hT,hn,qN⟩:=h
 refine⟨_,Ae (Ax (i:=3) scHFork.nd rfl (Or.inl rfl) (Az (pv 0) HX.cl C1.m G1 hr C1.b .nil (Ap (E1:=E) fun _ _ _ h=>h) (Ab (pv 1) Ac))) BM,?_⟩
 exact⟨_,rfl,S.x,_,_,rfl,hT.h.ob,Bc,_,rfl,M,S,k,rfl,hT,fun c=>qN,fun p hp ep=>absurd (by rw[←ep];exact List.mem_map_of_mem hp) hn⟩
end
abbrev Fo:Stmt:=Bm 77
abbrev DX:Stmt:=Bm 78
abbrev DT:Stmt:=Bm 81
theorem QU {X:Cx}:Dw X (binaryOp .FloorDiv) (rI (fun _ j=>0<j∧j.natAbs.log2<9000) fun i j=>.int (i / j)):=Ud fun i j _ _ _ _ _ hc q=>
 have h1:(0:Int)<j:=hc.1
 floordiv_int (by omega) (by rw[Int.fdiv_eq_ediv_of_nonneg i (by omega)];exact q) (.inl (PyProof.noPylong_of_log2 hc.2))
abbrev alph:Str:="abcdefghijklmnopqrstuvwxyz"
theorem RT:∀j:Nat,j<26→Dv alph.cps.toList (j:Int)=some (97+j):=by decide +kernel
theorem P5:alph.length≤sizeLine:=by decide
def GU (z:Str):Prop:=(HU z).all Dq=true
theorem Gs {z:Str} {c:Nat} (h:GU z) (hc:97≤c∧c≤122):GU (z++⟨#[c]⟩):=by
 unfold GU at *
 rw[DR,List.all_append,h]
 show (true && (Dq c && true))=true
 unfold Dq
 rw[decide_eq_true hc];rfl
theorem Nq {z:Str} (h:GU z):∀c∈z.cps.toList,c<128:=fun c hc=>by
 have:=List.all_eq_true.mp h c hc
 unfold Dq at this
 have:=of_decide_eq_true this
 omega
theorem goodN.lt {z:Str} (h:goodN z):∀c∈z.cps.toList,c<128:=Nq h.2.2
theorem LS (z:Str) (zs:List Str):OE (.str z) (zs.map V.str)=decide (z∈zs):=by
 unfold OE
 rw[List.any_map,Bool.eq_iff_iff,List.any_eq_true,decide_eq_true_iff]
 constructor
 ·rintro⟨y,hy,e⟩
  have e:(y == z)=true:=e
  rw[←eq_of_beq e];exact hy
 ·intro h
  exact⟨z,h,beq_self_eq_true z⟩
theorem Si {zs:List Str} {z:Str} (h:zs.Nodup) (hz:z∉zs):(zs++[z]).Nodup:=List.nodup_append.mpr ⟨h,List.nodup_cons.mpr ⟨(fun e=>by cases e),List.nodup_nil⟩,fun b hb c hc e=>hz (by rw[←List.mem_singleton.mp hc,←e];exact hb)⟩
def La (zs:List Str) (k:Nat):Nat:=(zs.filter fun y=>decide (k≤y.length)).length
theorem TK (zs:List Str) (k:Nat):La zs k≤zs.length:=List.length_filter_le _ _
theorem JG (k:Nat):∀zs:List Str,La zs (k+1)≤La zs k
 | []=>Nat.le_refl _
 | y::zs=>by
  have ih:=JG k zs
  unfold La at *
  rw[List.filter_cons,List.filter_cons]
  by_cases h1:k+1≤y.length
  ·rw[if_pos (decide_eq_true h1),if_pos (decide_eq_true (by omega))]
   simp only[List.length_cons]
   omega
  ·rw[if_neg (by simpa using h1)]
   split
   ·simp only[List.length_cons];omega
   ·exact ih
theorem PU:∀{zs:List Str} {n:Str},n∈zs→La zs (n.length+1)<La zs n.length
 | [],_,h=>nomatch h
 | y::zs,n,h=>by
  have hm:=JG n.length zs
  by_cases e:y=n
  ·subst e
   unfold La at *
   rw[List.filter_cons,List.filter_cons,if_neg (by simp),if_pos (by simp)]
   simp only[List.length_cons]
   omega
  ·have ih:=PU (zs:=zs) (n:=n) (by
    rcases List.mem_cons.mp h with z | z
    ·exact absurd z.symm e
    ·exact z)
   unfold La at *
   rw[List.filter_cons,List.filter_cons]
   by_cases h1:n.length+1≤y.length
   ·rw[if_pos (decide_eq_true h1),if_pos (decide_eq_true (by omega))]
    simp only[List.length_cons]
    omega
   ·rw[if_neg (by simpa using h1)]
    split
    ·simp only[List.length_cons];omega
    ·exact ih
theorem QI {t u:L2.TS} {D:Ends} {σ:L2.St} {H:Hp} (Mid:L2.St→Hp→Prop) (h2:∀σ' H',Mid σ' H'→u D σ' H') (h1:(∀σ' H',Mid σ' H'→u D σ' H')→t { D with nx:=u D } σ H):Tt t u D σ H:=h1 h2
def MP:Sp:=fun vs H Q _=>∃(n:Int),vs=[.int n]∧0≤n∧∀z:Str,goodN z→Q (.str z) H
def Kq (K:PySem.W.Frag):Sp:=fun vs H Q _=>∃(a:Addr) (ns:List Int),vs=[.ref a]∧SqL K H a (ns.map V.int)∧ns.length≤63∧∀(l:Addr) (zs:List Str) (H':Hp),Same H H'→H l=none→H' l=some (.lst (zs.map V.str))→zs.length=3→zs.Nodup→(∀z∈zs,goodN z)→Q (.ref l) H'
def J1 (K:PySem.W.Frag):Sp:=fun vs H Q _=>∃(a b:Addr) (zs:List Str),vs=[.ref a,.ref b]∧H a=some (.lst (zs.map V.str))∧SqL K H b (zs.map V.str)∧zs.length≤900∧Q (.bl true) H
section
theorem scLname:Al ["_law_n","_law_size","_law_found","_law_turn"] ["_law_n"] (Ad Fo):=Bn
theorem scLnames:Al ["_law_script","_law_found","_law_k","_law_name_here"] ["_law_script"] (Ad DX):=Bn
theorem scLtexts:Al ["_law_found","_law_due","_law_k"] ["_law_found","_law_due"] (Ad DT):=Bn
theorem QE (F:Fun K "_law_name" "_law_name" Fo f fd) (B:Bl mg):FnOk P w K mg bz AU 1 f fd ["_law_n"] MP:=by
 refine F.ok scLname (fun vs H Q E h=>?_) (fun cdv A outer s H vs Q E hr h=>?_)
 ·obtain⟨n,rfl,_⟩:=h
  rfl
 obtain⟨n,rfl,hn,q⟩:=h
 refine⟨_,Ae (Ax (i:=1) scLname.nd rfl (Or.inl rfl) (AK Ep Ao (AK BI (pv 0) Ao)))
  (Ae (Ax (i:=0) scLname.nd rfl (Or.inl rfl) (AK Ci (pv 0) Ao))
  (Ae (Ax (i:=2) scLname.nd rfl (Or.inl rfl) Ah)
  (Ae (Bv PassesOwn.never rfl (DO (by rfl) B.range (Ab (pv 1) Ac)) (AN (i:=3) scLname.nd rfl (Or.inl rfl))
   (Ae (Ax (i:=2) scLname.nd rfl (Or.inl rfl) (AK Ew (pv 2) (AL Qh Ah (AK BI (pv 0) Ao) (fun _ _=>rfl))))
   (Af (Ax (i:=0) scLname.nd rfl (Or.inl rfl) (AK Ci (pv 0) Ao)))))
  (Af (Am (pv 2)))))),?_⟩
 have e0:=Int.emod_nonneg n (show (8:Int)≠0 by decide)
 have e1:=Int.emod_lt_of_pos n (show (0:Int)<8 by decide)
 refine⟨_,rfl,_,_,rfl,rfl,(by show (0:Int)<8;decide),_,_,rfl,rfl,_,rfl,_,_,rfl,rfl,⟨by decide,by decide⟩,?_⟩
 refine⟨_,rfl,_,rfl,(by omega),(by omega),Ct (fun i σ H1=>H1=H∧∃(k:Int) (z:Str) (v0:Option V),σ=[some (.int k),some (.int (1+n%8)),some (.str z),v0]∧0≤k∧z.length=i∧GU z) ⟨rfl,_,_,_,rfl,Int.ediv_nonneg hn (by decide),rfl,rfl⟩ ?_ ?_⟩
 ·rintro i σ H1 hi ⟨rfl,k,z,v0,rfl,hk,hz,hs⟩
  have hi8:i<8:=by omega
  have e2:=Int.emod_nonneg k (show (26:Int)≠0 by decide)
  have e3:=Int.emod_lt_of_pos k (show (0:Int)<26 by decide)
  obtain⟨j,hj⟩:=Int.eq_ofNat_of_zero_le e2
  have hj26:j<26:=by omega
  refine⟨_,rfl,_,rfl,_,_,rfl,rfl,(by show (0:Int)<26;decide),_,_,_,rfl,rfl,P5,(by show Dv alph.cps.toList (k%26)=_;rw[hj];exact RT j hj26),_,_,rfl,rfl,?_,?_⟩
  ·show z.length+1≤sizeLine
   rw[hz]
   exact Nat.le_trans (show i+1≤8 by omega) (by decide)
  refine⟨_,rfl,_,_,rfl,rfl,⟨by decide,by decide⟩,rfl,_,_,_,rfl,Int.ediv_nonneg hk (by decide),?_,Gs hs (by omega)⟩
  rw[BZ,DR,List.length_append,←BZ,hz];rfl
 ·rintro σ H1 ⟨rfl,k,z,v0,rfl,hk,hz,hs⟩
  refine⟨_,rfl,q z ⟨?_,?_,hs⟩⟩<;>omega
theorem NB {g:Addr} {gd:FuncData} (F:Fun K "_law_texts_are" "_law_texts_are" DT f fd) (T:Ht mg) (B:Bl mg) (GY:FnOk P w K mg bz AU 1 g gd ["_law_found","_law_due"] QG) (CY:AW K mg "_law_says" g gd ["_law_found","_law_due"]):FnOk P w K mg bz AU 2 f fd ["_law_found","_law_due"] (J1 K):=by
 refine F.ok scLtexts (fun vs H Q E h=>?_) (fun cdv A outer s H vs Q E hr h=>?_)
 ·obtain⟨a,b,zs,rfl,_⟩:=h
  rfl
 obtain⟨a,b,zs,rfl,ha,hb,hl,q⟩:=h
 refine⟨_,Ae (AC (LU (Ca (Bu (AG DL (by rfl) T.isi boot_isinstance (Ab (pv 0) (Ab (Ga (v:=.ty "list") (by rfl) T.lst BF rfl) Ac))))) (Jr (Av En (AG A8 (by rfl) B.len PySem.boot_len (Ab (pv 0) Ac)) (AG A8 (by rfl) B.len PySem.boot_len (Ab (pv 1) Ac)) (AB _)))).pt
   (Af (Am Cd))
   Aw)
  (Ae (Bv PassesOwn.never rfl (DO (by rfl) B.range (Ab (AG A8 (by rfl) B.len PySem.boot_len (Ab (pv 1) Ac)) Ac)) (AN (i:=2) scLtexts.nd rfl (Or.inl rfl))
   (Af (AC (Ca (Bu (An GY hr (by rfl) CY.m CY.k CY.b .nil Ay (Ab (AL AI (pv 0) (pv 2) (fun _ _=>rfl)) (Ab (AL AI (pv 1) (pv 2) (fun _ _=>rfl)) Ac)))))
    (Af (Am Cd))
    Aw)))
  (Af (Am Cd))),?_⟩
 have hlen:(zs.map V.str).length=zs.length:=List.length_map _
 refine⟨_,rfl,_,_,_,_,rfl,.lst ha,G0 _ _,_,rfl,?_⟩
 refine Bd ?_
 refine⟨_,rfl,a,_,rfl,.inl (SqL.of ha),_,rfl,b,_,rfl,.inl hb,rfl,_,rfl,?_⟩
 refine Cy rfl ?_
 refine⟨_,rfl,b,_,rfl,.inl hb,_,rfl,(by show -(2^62)≤(((zs.map V.str).length:Nat):Int);omega),(by show (((zs.map V.str).length:Nat):Int)<2^62;omega),Ct (fun i σ H2=>∃kv,σ=[some (.ref a),some (.ref b),kv]∧H2=H) ⟨_,rfl,rfl⟩ ?_ ?_⟩
 ·rintro i σ H2 hi ⟨kv,rfl,rfl⟩
  have hi':i<zs.length:=by
   have h0:i<(((zs.map V.str).length:Nat):Int).toNat:=hi
   omega
  rw[Int.zero_add]
  have hat:Dv (zs.map V.str) (i:Int)=some (.str zs[i]):=As (by rw[List.getElem?_map,List.getElem?_eq_getElem hi'];rfl)
  exact⟨_,rfl,_,rfl,a,_,_,_,rfl,rfl,SqL.of ha,hat,_,rfl,_,rfl,b,_,_,_,rfl,rfl,hb,hat,_,rfl,_,rfl,Bd ⟨_,rfl,rfl⟩⟩
 ·rintro σ H2 ⟨kv,rfl,rfl⟩
  exact q
theorem NY {g1 g2:Addr} {d1 d2:FuncData} (F:Fun K "_law_names" "_law_names" DX f fd) (B:Bl mg) (GN:FnOk P w K mg bz AU 1 g1 d1 ["_law_script","_law_k"] (Pf K)) (CN:AW K mg "_law_num" g1 d1 ["_law_script","_law_k"]) (GM:FnOk P w K mg bz AU 1 g2 d2 ["_law_n"] MP) (CM:AW K mg "_law_name" g2 d2 ["_law_n"]):FnOk P w K mg bz AU 2 f fd ["_law_script"] (Kq K):=by
 refine F.ok scLnames (fun vs H Q E h=>?_) (fun cdv A outer s H vs Q E hr h=>?_)
 ·obtain⟨a,ns,rfl,_⟩:=h
  rfl
 obtain⟨a,ns,rfl,hS,h63,q⟩:=h
 have hr1:Room 1 _:=hr.mono (by decide)
 refine⟨_,Ae (Ax (i:=1) scLnames.nd rfl (Or.inl rfl) (AE Ac))
  (Ae (Bv PassesOwn.never rfl (DO (by rfl) B.range (Ab Ao Ac)) (AN (i:=2) scLnames.nd rfl (Or.inl rfl))
   (Ae (Ax (i:=3) scLnames.nd rfl (Or.inl rfl) (An GM hr1 (by rfl) CM.m CM.k CM.b .nil Ay (Ab (AK QU (An GN hr1 (by rfl) CN.m CN.k CN.b .nil Ay (Ab (pv 0) (Ab Ao Ac))) (AL AI (AE (Ab Ao (Ab (AK LC Ao Ao) (Ab (AK LC Ao Ao) Ac)))) (pv 2) (fun _ _=>rfl))) Ac)))
   (Ae (AC (Av HC (pv 3) (pv 1) (by with_unfolding_all rfl))
    (Af (Ax (i:=3) scLnames.nd rfl (Or.inl rfl) (AL AI (AE (Ab Ah (Ab Ah (Ab Ah Ac)))) (pv 2) (fun _ _=>rfl))))
    Aw)
   (Ae (DJ PassesOwn.never (Av HC (pv 3) (pv 1) (by with_unfolding_all rfl))
    (Af (Ax (i:=3) scLnames.nd rfl (Or.inl rfl) (AK Ew (pv 3) Ah))))
   (Af (AA (Bw PySem.F.plainAttrs_list PySem.F.slot_list_append PySem.F.type_list_append AZ (pv 1) (Ab (pv 3) Ac))))))))
  (Af (Am (pv 1)))),?_⟩
 refine⟨Of,fun fo hfo=>?_⟩
 have s1:=Ag hfo (.lst [])
 have fo1:upd H fo (.lst []) fo=some (.lst (([]:List Str).map V.str)):=upd_same
 generalize upd H fo _=H1 at *
 refine⟨_,rfl,by decide,by decide,Ct (fun i σ H2=>∃(v0 v1:Option V) (zs:List Str),σ=[some (.ref a),some (.ref fo),v0,v1]∧Same H H2∧H2 fo=some (.lst (zs.map V.str))∧zs.length=i∧zs.Nodup∧∀z∈zs,goodN z) ⟨_,_,[],rfl,s1,fo1,rfl,List.nodup_nil,fun z hz=>by simp at hz⟩ ?_ ?_⟩
 ·rintro i σ H2 hi ⟨v0,v1,zs,rfl,s2,fo2,lz,hnd,hgz⟩
  have hi3:i<3:=by
   have h0:i<(3:Int).toNat:=hi
   exact h0
  rw[Int.zero_add]
  obtain⟨y,hy0,hy1,hya⟩:∃y:Int,0<y∧y.natAbs.log2<9000∧Dv [V.int 1,V.int (10^(5:Int).toNat),V.int (10^(11:Int).toNat)] (i:Int)=some (.int y):=by
   match i,hi3 with
   | 0,_=>exact⟨1,by decide,by decide,As (j:=0) rfl⟩
   | 1,_=>exact⟨_,by decide,by decide,As (j:=1) rfl⟩
   | 2,_=>exact⟨_,by decide,by decide,As (j:=2) rfl⟩
  refine⟨_,rfl,a,ns,5,rfl,s2.seq hS,h63,by decide,by decide,fun n H3 hn s3=>?_⟩
  refine⟨_,_,rfl,rfl,⟨by decide,by decide,by decide⟩,_,_,rfl,rfl,⟨by decide,by decide,by decide⟩,SZ,fun L hL=>?_⟩
  have s4:=Ag hL (.lst [V.int 1,V.int (10^(5:Int).toNat),V.int (10^(11:Int).toNat)])
  have L4:upd H3 L (.lst [V.int 1,V.int (10^(5:Int).toNat),V.int (10^(11:Int).toNat)]) L=some (.lst [V.int 1,V.int (10^(5:Int).toNat),V.int (10^(11:Int).toNat)]):=upd_same
  dsimp only
  generalize upd H3 L _=H4 at *
  refine⟨_,rfl,L,_,_,_,rfl,rfl,SqL.of L4,hya,_,_,rfl,rfl,⟨hy0,hy1⟩,_,rfl,Int.ediv_nonneg hn (Int.le_of_lt hy0),fun z hz=>?_⟩
  have u4:=s2.trans (s3.trans s4)
  have fo4:=s4 _ _ (s3 _ _ fo2)
  have flz:(zs.map V.str).all EJ=true:=by rw[List.all_map];exact List.all_eq_true.mpr fun _ _=>rfl
  have nfo:∀{H':Hp},Same H4 H'→H' fo=some (.lst (zs.map V.str)):=fun s=>s _ _ fo4
  refine PY (σ':=[some (.ref a),some (.ref fo),some (.int (i:Int)),some (.str z)]) rfl ?_
  refine QI (fun σ H5=>∃nm:Str,σ=[some (.ref a),some (.ref fo),some (.int (i:Int)),some (.str nm)]∧Same H4 H5∧goodN nm∧(nm∉zs∨nm.length+La zs nm.length≤3)) ?_ ?_
  ·rintro σ H5 ⟨nm,rfl,s5,hg5,hc5⟩
   refine QI (fun σ H6=>∃nm:Str,σ=[some (.ref a),some (.ref fo),some (.int (i:Int)),some (.str nm)]∧Same H4 H6∧goodN nm∧nm∉zs) ?_ ?_
   ·rintro σ H6 ⟨nm,rfl,s6,hg6,hnz⟩
    refine⟨_,rfl,.inl ⟨rfl,_,SqL.of (nfo s6)⟩,_,rfl,fo,_,_,rfl,rfl,nfo s6,AO (by rw[List.length_map];omega),?_⟩
    refine⟨_,_,zs++[nm],rfl,AH (u4.trans s6) hfo _,by rw[upd_same,List.map_append];rfl,by rw[List.length_append,lz];rfl,Si hnd hnz,fun z' hz'=>?_⟩
    rcases List.mem_append.mp hz' with h | h
    ·exact hgz z' h
    ·rw[List.mem_singleton.mp h];exact hg6
   ·intro next
    refine⟨fun m σ H6=>∃nm:Str,σ=[some (.ref a),some (.ref fo),some (.int (i:Int)),some (.str nm)]∧Same H4 H6∧goodN nm∧(nm∉zs∨nm.length+La zs nm.length≤3)∧m=La zs nm.length,⟨_,nm,rfl,s5,hg5,hc5,rfl⟩,?_⟩
    rintro m σ H6 ⟨nm,rfl,s6,hg6,hc6,rfl⟩
    refine⟨_,rfl,_,rfl,fo,_,rfl,.inl (SqL.of (nfo s6)),rfl,flz,_,rfl,?_⟩
    show if OE (.str nm) (zs.map V.str)=true then _ else _
    rw[LS]
    by_cases c:nm∈zs
    ·rw[if_pos (decide_eq_true c)]
     have h3:nm.length+La zs nm.length≤3:=by
      rcases hc6 with h | h
      ·exact absurd c h
      ·exact h
     have lt:=PU c
     have ln:(nm++("z":Str)).length=nm.length+1:=by rw[BZ,DR,List.length_append,←BZ];rfl
     refine⟨fun σ' H'=>∃m',m'<La zs nm.length∧∃nm:Str,σ'=[some (.ref a),some (.ref fo),some (.int (i:Int)),some (.str nm)]∧Same H4 H'∧goodN nm∧(nm∉zs∨nm.length+La zs nm.length≤3)∧m'=La zs nm.length,fun _ _ h=>h,?_⟩
     refine⟨_,rfl,_,_,rfl,rfl,?_,_,?_,nm++("z":Str),rfl,s6,⟨by omega,by omega,Gs (c:=122) hg6.2.2 (by decide)⟩,.inr (by rw[ln];omega),rfl⟩
     ·show nm.length+1≤sizeLine
      exact Nat.le_trans (show nm.length+1≤9 by have:=hg6.2.1;omega) (by decide)
     ·rw[ln];exact lt
    ·rw[if_neg (by rw[decide_eq_false c];decide)]
     exact next _ _ ⟨nm,rfl,s6,hg6,c⟩
  ·intro next
   refine⟨_,rfl,_,rfl,fo,_,rfl,.inl (SqL.of fo4),rfl,flz,_,rfl,?_⟩
   show if OE (.str z) (zs.map V.str)=true then _ else _
   rw[LS]
   by_cases c:z∈zs
   ·rw[if_pos (decide_eq_true c)]
    refine⟨SZ,fun M hM=>?_⟩
    obtain⟨y,hy,hg⟩:∃y:Str,Dv [V.str "a",V.str "b",V.str "c"] (i:Int)=some (.str y)∧goodN y∧y.length=1:=by
     match i,hi3 with
     | 0,_=>exact⟨"a",As (j:=0) rfl,by decide,rfl⟩
     | 1,_=>exact⟨"b",As (j:=1) rfl,by decide,rfl⟩
     | 2,_=>exact⟨"c",As (j:=2) rfl,by decide,rfl⟩
    refine⟨_,rfl,M,_,_,_,rfl,rfl,SqL.of upd_same,hy,next _ _ ⟨y,rfl,Ag hM _,hg.1,.inr ?_⟩⟩
    have:=TK zs y.length
    omega
   ·rw[if_neg (by rw[decide_eq_false c];decide)]
    exact next _ _ ⟨z,rfl,Same.refl _,hz,.inl c⟩
 ·rintro σ H2 ⟨v0,v1,zs,rfl,s2,fo2,lz,hnd,hgz⟩
  exact⟨_,rfl,q fo zs H2 s2 hfo fo2 lz hnd hgz⟩
end
abbrev Fc:Stmt:=Bm 82
abbrev Nd:Stmt:=Bm 83
def M7 (n:Str):Prop:=n.length≤100∧∀c∈n.cps.toList,c<128
def BT:List Str:=["entries","held","caught","over","clash","back","end","drop","catch","fork"]
def FG (S:HSt) (k:Str) (b:Bool):Prop:=∀p∈S.ts,p.nm=k→p.w.ended=b
def Tg (S:HSt) (z nm:Str) (y:Nat):Prop:=(y=0∧nm∉Bp S.ts∧z∈BT)∨(y=2∧nm∈Bp S.ts∧FG S nm true∧z∈(["catch","back","end"]:List Str))
def RefD (S:HSt) (z nm:Str) (t:Tr) (y:Nat):Prop:=(y=0∧nm∉Bp S.ts∧z∈(["say","ask","why","bring"]:List Str))∨(y=1∧nm∈Bp S.ts∧¬t.ok S.m∧FG S nm false∧z∈(["say","why","bring"]:List Str))∨(y=1∧nm∈Bp S.ts∧¬t.ok S.m∧z="ask")∨
 (y=2∧nm∈Bp S.ts∧FG S nm true∧z∈(["say","why","bring"]:List Str))∨(y=1∧¬t.ok S.m∧z="plainly")∨(y=1∧goodN nm∧nm∉Bp S.ts∧¬t.ok S.m∧z="begin")∨Tg S z nm y
def looks:List Str:=["entries","held","caught","over"]
structure HOk (M:List Addr) (C cK:Addr) (H:Hp) (S:HSt):Prop where
 h:HouseT M C cK H S
 ls:S.ls.length<900
 ts:S.ts.length<900
 en:∀p∈S.ts,p.w.ents.length<900∧p.w.lefts.length<900
 lf:∀p∈S.ts,p.w.lefts.length=p.w.ents.length+1
theorem HOk.keep {M:List Addr} {C cK:Addr} {H H':Hp} {S:HSt} (s:Same H H') (h:HOk M C cK H S):HOk M C cK H' S:=⟨h.h.keep s,h.ls,h.ts,h.en,h.lf⟩
def Jn (C cK:Addr) (adr:Nat→Addr):Sp:=fun vs H Q E=>∃(M:List Addr) (S:HSt) (z nm:Str) (v:V),vs=[.ref S.x,.str z,.str nm,v]∧HOk M C cK H S∧M7 nm∧
 ((∃y,Tg S z nm y∧∀H',Same H H'→E (.ref (adr y)) none H')∨(nm∈Bp S.ts∧z∈looks∧∀r H',Same H H'→Q r H'))
def ST (C cK:Addr) (adr:Nat→Addr):Sp:=fun vs H Q E=>∃(M:List Addr) (S:HSt) (z nm:Str) (v:V) (t:Tr),vs=[.ref S.x,.str z,.str nm,v]∧HOk M C cK H S∧M7 nm∧t.At (Bb M H) v∧t.ok 5∧t.size≤23∧
 ((∃y,RefD S z nm t y∧∀H',Same H H'→E (.ref (adr y)) none H')∨(nm∈Bp S.ts∧z∈looks∧∀r H',Same H H'→Q r H'))
section
variable {cH cK cBN cNT cB cN:Addr} {adr:Nat→Addr}
theorem RF:Al ["_law_house","_law_deed","_law_name_here","_law_sentence_here"] ["_law_house","_law_deed","_law_name_here","_law_sentence_here"] (Ad Fc):=Bn
theorem Vr:Al ["_law_house","_law_deed","_law_name_here","_law_sentence_here"] ["_law_house","_law_deed","_law_name_here","_law_sentence_here"] (Ad Nd):=Bn
theorem Pp {m_entries m_held m_caught m_over m_clash m_back m_end m_drop m_catch m_fork:Addr} {e_entries e_held e_caught e_over e_clash e_back e_end e_drop e_catch e_fork:FuncData} (F:Fun K "_law_look" "_law_look" Fc f fd) (HX:EU K cH)
  (G_entries:FnOk P w K mg bz (A4 P w) 4 m_entries e_entries ["self","name"] (Hd cH cK (adr 0))) (C_entries:AD K cH "entries" m_entries e_entries ["self","name"])
  (G_held:FnOk P w K mg bz (A4 P w) 4 m_held e_held ["self","name"] (MA cH cK (adr 0))) (C_held:AD K cH "held" m_held e_held ["self","name"])
  (G_caught:FnOk P w K mg bz (A4 P w) 6 m_caught e_caught ["self","name"] (HL cH cK (adr 0))) (C_caught:AD K cH "caught" m_caught e_caught ["self","name"])
  (G_over:FnOk P w K mg bz (A4 P w) 4 m_over e_over ["self","name"] (MU cH cK (adr 0))) (C_over:AD K cH "over" m_over e_over ["self","name"])
  (G_clash:FnOk P w K mg bz (A4 P w) 4 m_clash e_clash ["self","name"] (ID cH cK (adr 0))) (C_clash:AD K cH "clash" m_clash e_clash ["self","name"])
  (G_back:FnOk P w K mg bz (A4 P w) 4 m_back e_back ["self","name"] (Ka cH cK (adr 0) (adr 2))) (C_back:AD K cH "back" m_back e_back ["self","name"])
  (G_end:FnOk P w K mg bz (A4 P w) 4 m_end e_end ["self","name"] (LJ cH cK (adr 0) (adr 2))) (C_end:AD K cH "end" m_end e_end ["self","name"])
  (G_drop:FnOk P w K mg bz (A4 P w) 3 m_drop e_drop ["self","name"] (IP cH cK (adr 0))) (C_drop:AD K cH "drop" m_drop e_drop ["self","name"])
  (G_catch:FnOk P w K mg bz (A4 P w) 5 m_catch e_catch ["self","name"] (Ii cH cK (adr 0) (adr 2))) (C_catch:AD K cH "catch" m_catch e_catch ["self","name"])
  (G_fork:FnOk P w K mg bz (A4 P w) 4 m_fork e_fork ["self","name","other"] (JF cH cK (adr 0))) (C_fork:AD K cH "fork" m_fork e_fork ["self","name","other"]):FnOk P w K mg bz (A4 P w) 9 f fd ["_law_house","_law_deed","_law_name_here","_law_sentence_here"] (Jn cH cK adr):=by
 refine Fun.okX F RF (fun vs H Q E h=>?_) (fun cdv A outer s H vs Q E hr h=>?_)
 ·obtain⟨M,S,z,nm,v,rfl,_⟩:=h
  rfl
 obtain⟨M,S,z,nm,v,rfl,hO,hnm,h⟩:=h
 have hT:=hO.h
 have hr3:Room 3 _:=hr.mono (by decide)
 have hr4:Room 4 _:=hr.mono (by decide)
 have hr5:Room 5 _:=hr.mono (by decide)
 have hr6:Room 6 _:=hr.mono (by decide)
 refine⟨_,Ae (AC (Av AX (pv 1) Ah (AB _))
   (Af (Am (Az (pv 0) HX.cl C_entries.m G_entries hr4 C_entries.b .nil (Ap (E1:=E) fun _ _ _ h=>h) (Ab (pv 2) Ac))))
   Aw)
  (Ae (AC (Av AX (pv 1) Ah (AB _))
   (Af (Am (Az (pv 0) HX.cl C_held.m G_held hr4 C_held.b .nil (Ap (E1:=E) fun _ _ _ h=>h) (Ab (pv 2) Ac))))
   Aw)
  (Ae (AC (Av AX (pv 1) Ah (AB _))
   (Af (Am (Az (pv 0) HX.cl C_caught.m G_caught hr6 C_caught.b .nil (Ap (E1:=E) fun _ _ _ h=>h) (Ab (pv 2) Ac))))
   Aw)
  (Ae (AC (Av AX (pv 1) Ah (AB _))
   (Af (Am (Az (pv 0) HX.cl C_over.m G_over hr4 C_over.b .nil (Ap (E1:=E) fun _ _ _ h=>h) (Ab (pv 2) Ac))))
   Aw)
  (Ae (AC (Av AX (pv 1) Ah (AB _))
   (Af (Am (Az (pv 0) HX.cl C_clash.m G_clash hr4 C_clash.b .nil (Ap (E1:=E) fun _ _ _ h=>h) (Ab (pv 2) Ac))))
   Aw)
  (Ae (AC (Av AX (pv 1) Ah (AB _))
   (Af (Am (Az (pv 0) HX.cl C_back.m G_back hr4 C_back.b .nil (Ap (E1:=E) fun _ _ _ h=>h) (Ab (pv 2) Ac))))
   Aw)
  (Ae (AC (Av AX (pv 1) Ah (AB _))
   (Af (Am (Az (pv 0) HX.cl C_end.m G_end hr4 C_end.b .nil (Ap (E1:=E) fun _ _ _ h=>h) (Ab (pv 2) Ac))))
   Aw)
  (Ae (AC (Av AX (pv 1) Ah (AB _))
   (Af (Am (Az (pv 0) HX.cl C_drop.m G_drop hr3 C_drop.b .nil (Ap (E1:=E) fun _ _ _ h=>h) (Ab (pv 2) Ac))))
   Aw)
  (Ae (AC (Av AX (pv 1) Ah (AB _))
   (Af (Am (Az (pv 0) HX.cl C_catch.m G_catch hr5 C_catch.b .nil (Ap (E1:=E) fun _ _ _ h=>h) (Ab (pv 2) Ac))))
   Aw)
  (Af (Am (Az (pv 0) HX.cl C_fork.m G_fork hr4 C_fork.b .nil (Ap (E1:=E) fun _ _ _ h=>h) (Ab (pv 2) (Ab (pv 2) Ac))))))))))))),?_⟩
 rcases h with⟨y,⟨rfl,hn,hz⟩|⟨rfl,hin,hov,hz⟩,q⟩|⟨hin,hz,q⟩
 ·have no:∀{X:Tw→Prop},∀p∈S.ts,p.nm=nm→X p:=fun p hp ep=>absurd (by rw[←ep];exact List.mem_map_of_mem hp) hn
  have e0:=q H (Same.refl _)
  simp only[BT,looks,List.mem_cons,List.not_mem_nil,or_false] at hz
  rcases hz with rfl | rfl | rfl | rfl | rfl | rfl | rfl | rfl | rfl | rfl<;>(repeat refine⟨_,rfl,rfl,_,rfl,Bd ?_⟩)<;>(try refine⟨_,rfl,rfl,_,rfl,Bo ?_⟩)
  ·exact⟨_,rfl,S.x,_,_,rfl,hT.h.ob,GZ,_,rfl,M,S,nm,rfl,hT,fun _=>e0,no⟩
  ·exact⟨_,rfl,S.x,_,_,rfl,hT.h.ob,Me,_,rfl,M,S,nm,rfl,hT,fun _=>e0,no⟩
  ·exact⟨_,rfl,S.x,_,_,rfl,hT.h.ob,IA,_,rfl,M,S,nm,rfl,hT,fun _=>e0,no⟩
  ·exact⟨_,rfl,S.x,_,_,rfl,hT.h.ob,MC,_,rfl,M,S,nm,rfl,hT,fun _=>e0,no⟩
  ·exact⟨_,rfl,S.x,_,_,rfl,hT.h.ob,OV,_,rfl,M,S,nm,rfl,hT,hn,e0⟩
  ·exact⟨_,rfl,S.x,_,_,rfl,hT.h.ob,MO,_,rfl,M,S,nm,rfl,hT,no,fun _=>e0,no⟩
  ·exact⟨_,rfl,S.x,_,_,rfl,hT.h.ob,LF,_,rfl,M,S,nm,rfl,hT,hnm.1,hO.ls,fun _=>e0,no,no⟩
  ·exact⟨_,rfl,S.x,_,_,rfl,hT.h.ob,Mj,_,rfl,M,S,nm,rfl,hT,hnm.1,hO.ls,fun _=>e0,fun c=>absurd c hn⟩
  ·exact⟨_,rfl,S.x,_,_,rfl,hT.h.ob,JQ,_,rfl,M,S,nm,rfl,hT,no,fun _=>e0,no⟩
  ·exact⟨_,rfl,S.x,_,_,rfl,hT.h.ob,RG,_,rfl,_,rfl,M,S,nm,nm,rfl,hT,hn,e0⟩
 ·have fal:∀{X:Tw→Prop},∀p∈S.ts,p.nm=nm→p.w.ended=false→X p:=fun p hp ep c=>by rw[hov p hp ep] at c;cases c
  simp only[BT,looks,List.mem_cons,List.not_mem_nil,or_false] at hz
  rcases hz with rfl | rfl | rfl<;>(repeat refine⟨_,rfl,rfl,_,rfl,Bd ?_⟩)<;>(try refine⟨_,rfl,rfl,_,rfl,Bo ?_⟩)
  ·exact⟨_,rfl,S.x,_,_,rfl,hT.h.ob,JQ,_,rfl,M,S,nm,rfl,hT,hov,fun c=>absurd hin c,fun p hp ep H' s'=>q H' s'⟩
  ·exact⟨_,rfl,S.x,_,_,rfl,hT.h.ob,MO,_,rfl,M,S,nm,rfl,hT,hov,(fun c=>absurd hin c),(fun p hp ep=>q H (Same.refl _))⟩
  ·exact⟨_,rfl,S.x,_,_,rfl,hT.h.ob,LF,_,rfl,M,S,nm,rfl,hT,hnm.1,hO.ls,(fun c=>absurd hin c),(fun p hp ep _=>q H (Same.refl _)),fal⟩
 ·simp only[BT,looks,List.mem_cons,List.not_mem_nil,or_false] at hz
  rcases hz with rfl | rfl | rfl | rfl<;>(repeat refine⟨_,rfl,rfl,_,rfl,Bd ?_⟩)<;>(try refine⟨_,rfl,rfl,_,rfl,Bo ?_⟩)
  ·exact⟨_,rfl,S.x,_,_,rfl,hT.h.ob,GZ,_,rfl,M,S,nm,rfl,hT,(fun c=>absurd hin c),fun p hp ep l H' s' _ _=>q _ H' s'⟩
  ·exact⟨_,rfl,S.x,_,_,rfl,hT.h.ob,Me,_,rfl,M,S,nm,rfl,hT,(fun c=>absurd hin c),fun p hp ep l H' s' _ _=>q _ H' s'⟩
  ·exact⟨_,rfl,S.x,_,_,rfl,hT.h.ob,IA,_,rfl,M,S,nm,rfl,hT,(fun c=>absurd hin c),fun p hp ep H' s'=>q _ H' s'⟩
  ·exact⟨_,rfl,S.x,_,_,rfl,hT.h.ob,MC,_,rfl,M,S,nm,rfl,hT,(fun c=>absurd hin c),fun p hp ep=>q _ H (Same.refl _)⟩
theorem Tv {gL:Addr} {dL:FuncData} {m_say m_ask m_why m_bring m_plainly m_begin:Addr} {e_say e_ask e_why e_bring e_plainly e_begin:FuncData} (F:Fun K "_law_do" "_law_do" Nd f fd) (HX:EU K cH) (GL:FnOk P w K mg bz (A4 P w) 9 gL dL ["_law_house","_law_deed","_law_name_here","_law_sentence_here"] (Jn cH cK adr)) (CL:AW K mg "_law_look" gL dL ["_law_house","_law_deed","_law_name_here","_law_sentence_here"])
  (G_say:FnOk P w K mg bz (A4 P w) 8 m_say e_say ["self","name","sentence"] (LB cH cK (adr 0) (adr 1) (adr 2))) (C_say:AD K cH "say" m_say e_say ["self","name","sentence"])
  (G_ask:FnOk P w K mg bz (A4 P w) 7 m_ask e_ask ["self","name","sentence"] (OU cH cK (adr 0) (adr 1))) (C_ask:AD K cH "ask" m_ask e_ask ["self","name","sentence"])
  (G_why:FnOk P w K mg bz (A4 P w) 5 m_why e_why ["self","name","sentence"] (EC cH cK (adr 0) (adr 2) (adr 1))) (C_why:AD K cH "why" m_why e_why ["self","name","sentence"])
  (G_bring:FnOk P w K mg bz (A4 P w) 8 m_bring e_bring ["self","name","goal"] (EC cH cK (adr 0) (adr 2) (adr 1))) (C_bring:AD K cH "bring" m_bring e_bring ["self","name","goal"])
  (G_plainly:FnOk P w K mg bz (A4 P w) 4 m_plainly e_plainly ["self","sentence"] (Ia cH (adr 1))) (C_plainly:AD K cH "plainly" m_plainly e_plainly ["self","sentence"])
  (G_begin:FnOk P w K mg bz (A4 P w) 7 m_begin e_begin ["self","name","kind","sentence","rule"] (GQ cH cK cBN cNT (adr 1) cB cN)) (C_begin:AD K cH "begin" m_begin e_begin ["self","name","kind","sentence","rule"]):FnOk P w K mg bz (A4 P w) 10 f fd ["_law_house","_law_deed","_law_name_here","_law_sentence_here"] (ST cH cK adr):=by
 refine Fun.okX F Vr (fun vs H Q E h=>?_) (fun cdv A outer s H vs Q E hr h=>?_)
 ·obtain⟨M,S,z,nm,v,t,rfl,_⟩:=h
  rfl
 obtain⟨M,S,z,nm,v,t,rfl,hO,hnm,hat,ok5,hsz,h⟩:=h
 have hT:=hO.h
 have hat':t.At H v:=hat.keep (TS.same AJ)
 have sz60:t.size≤60:=by omega
 have hr4:Room 4 _:=hr.mono (by decide)
 have hr5:Room 5 _:=hr.mono (by decide)
 have hr7:Room 7 _:=hr.mono (by decide)
 have hr8:Room 8 _:=hr.mono (by decide)
 refine⟨_,Ae (AC (Av AX (pv 1) Ah (AB _))
   (Af (Am (Az (pv 0) HX.cl C_say.m G_say hr8 C_say.b .nil (Ap (E1:=E) fun _ _ _ h=>h) (Ab (pv 2) (Ab (pv 3) Ac)))))
   Aw)
  (Ae (AC (Av AX (pv 1) Ah (AB _))
   (Af (Am (Az (pv 0) HX.cl C_ask.m G_ask hr7 C_ask.b .nil (Ap (E1:=E) fun _ _ _ h=>h) (Ab (pv 2) (Ab (pv 3) Ac)))))
   Aw)
  (Ae (AC (Av AX (pv 1) Ah (AB _))
   (Af (Am (Az (pv 0) HX.cl C_why.m G_why hr5 C_why.b .nil (Ap (E1:=E) fun _ _ _ h=>h) (Ab (pv 2) (Ab (pv 3) Ac)))))
   Aw)
  (Ae (AC (Av AX (pv 1) Ah (AB _))
   (Af (Am (Az (pv 0) HX.cl C_bring.m G_bring hr8 C_bring.b .nil (Ap (E1:=E) fun _ _ _ h=>h) (Ab (pv 2) (Ab (pv 3) Ac)))))
   Aw)
  (Ae (AC (Av AX (pv 1) Ah (AB _))
   (Af (Am (Az (pv 0) HX.cl C_plainly.m G_plainly hr4 C_plainly.b .nil (Ap (E1:=E) fun _ _ _ h=>h) (Ab (pv 3) Ac))))
   Aw)
  (Ae (AC (Av AX (pv 1) Ah (AB _))
   (Af (Am (Az (pv 0) HX.cl C_begin.m G_begin hr7 C_begin.b .nil (Ap (E1:=E) fun _ _ _ h=>h) (Ab (pv 2) (Ab Ah (Ab (pv 3) (Ab Ah Ac)))))))
   Aw)
  (Af (Am (An GL hr (by rfl) CL.m CL.k CL.b .nil (Ap (E1:=E) fun _ _ _ h=>h) (Ab (pv 0) (Ab (pv 1) (Ab (pv 2) (Ab (pv 3) Ac)))))))))))),?_⟩
 have viaLook:z∈BT→((∃y,Tg S z nm y∧∀H',Same H H'→E (.ref (adr y)) none H')∨(nm∈Bp S.ts∧z∈looks∧∀r H',Same H H'→Q r H'))→Jn cH cK adr [.ref S.x,.str z,.str nm,v] H Q E:=fun _ h=>⟨M,S,z,nm,v,rfl,hO,hnm,h⟩
 rcases h with⟨y,⟨rfl,hn,hz⟩|⟨rfl,hin,hok,hov,hz⟩|⟨rfl,hin,hok,rfl⟩|⟨rfl,hin,hov,hz⟩|⟨rfl,hok,rfl⟩|⟨rfl,hg,hn,hok,rfl⟩|hl,q⟩|⟨hin,hz,q⟩
 ·have no:∀{X:Tw→Prop},∀p∈S.ts,p.nm=nm→X p:=fun p hp ep=>absurd (by rw[←ep];exact List.mem_map_of_mem hp) hn
  have e0:=q H (Same.refl _)
  simp only[BT,looks,List.mem_cons,List.not_mem_nil,or_false] at hz
  rcases hz with rfl | rfl | rfl | rfl<;>(repeat refine⟨_,rfl,rfl,_,rfl,Bd ?_⟩)<;>(try refine⟨_,rfl,rfl,_,rfl,Bo ?_⟩)
  ·exact⟨_,rfl,S.x,_,_,rfl,hT.h.ob,IS,_,rfl,_,rfl,M,S,nm,v,t,rfl,hT,hnm.1,hat,ok5,hsz,hO.ls,hO.en,(fun _=>e0),no,no,no⟩
  ·exact⟨_,rfl,S.x,_,_,rfl,hT.h.ob,Qp,_,rfl,_,rfl,M,S,nm,v,t,rfl,hT,hat',ok5,sz60,(fun _=>e0),no,no⟩
  ·exact⟨_,rfl,S.x,_,_,rfl,hT.h.ob,K8,_,rfl,_,rfl,M,S,nm,v,t,rfl,hT,hat',ok5,sz60,no,(fun _=>e0),no,no⟩
  ·exact⟨_,rfl,S.x,_,_,rfl,hT.h.ob,Hh,_,rfl,_,rfl,M,S,nm,v,t,rfl,hT,hat',ok5,sz60,no,(fun _=>e0),no,no⟩
 ·have tru:∀{X:Tw→Prop},∀p∈S.ts,p.nm=nm→p.w.ended=true→X p:=fun p hp ep c=>by rw[hov p hp ep] at c;cases c
  simp only[BT,looks,List.mem_cons,List.not_mem_nil,or_false] at hz
  rcases hz with rfl | rfl | rfl<;>(repeat refine⟨_,rfl,rfl,_,rfl,Bd ?_⟩)<;>(try refine⟨_,rfl,rfl,_,rfl,Bo ?_⟩)
  ·exact⟨_,rfl,S.x,_,_,rfl,hT.h.ob,IS,_,rfl,_,rfl,M,S,nm,v,t,rfl,hT,hnm.1,hat,ok5,hsz,hO.ls,hO.en,(fun c=>absurd hin c),tru,(fun p hp ep _ _ H' s'=>q H' s'),(fun p hp ep _ c=>absurd c hok)⟩
  ·exact⟨_,rfl,S.x,_,_,rfl,hT.h.ob,K8,_,rfl,_,rfl,M,S,nm,v,t,rfl,hT,hat',ok5,sz60,(fun p hp ep _=>hok),(fun c=>absurd hin c),tru,(fun p hp ep _ H' s'=>q H' s')⟩
  ·exact⟨_,rfl,S.x,_,_,rfl,hT.h.ob,Hh,_,rfl,_,rfl,M,S,nm,v,t,rfl,hT,hat',ok5,sz60,(fun p hp ep _=>hok),(fun c=>absurd hin c),tru,(fun p hp ep _ H' s'=>q H' s')⟩
 ·(repeat refine⟨_,rfl,rfl,_,rfl,Bd ?_⟩)<;>(try refine⟨_,rfl,rfl,_,rfl,Bo ?_⟩)
  exact⟨_,rfl,S.x,_,_,rfl,hT.h.ob,Qp,_,rfl,_,rfl,M,S,nm,v,t,rfl,hT,hat',ok5,sz60,(fun c=>absurd hin c),(fun p hp ep _ H' s'=>q H' s'),(fun p hp ep c=>absurd c hok)⟩
 ·have fal:∀{X:Tw→Prop},∀p∈S.ts,p.nm=nm→p.w.ended=false→X p:=fun p hp ep c=>by rw[hov p hp ep] at c;cases c
  simp only[BT,looks,List.mem_cons,List.not_mem_nil,or_false] at hz
  rcases hz with rfl | rfl | rfl<;>(repeat refine⟨_,rfl,rfl,_,rfl,Bd ?_⟩)<;>(try refine⟨_,rfl,rfl,_,rfl,Bo ?_⟩)
  ·exact⟨_,rfl,S.x,_,_,rfl,hT.h.ob,IS,_,rfl,_,rfl,M,S,nm,v,t,rfl,hT,hnm.1,hat,ok5,hsz,hO.ls,hO.en,(fun c=>absurd hin c),(fun p hp ep _ H' s'=>q H' s'),fal,fal⟩
  ·exact⟨_,rfl,S.x,_,_,rfl,hT.h.ob,K8,_,rfl,_,rfl,M,S,nm,v,t,rfl,hT,hat',ok5,sz60,fal,(fun c=>absurd hin c),(fun p hp ep _ H' s'=>q H' s'),fal⟩
  ·exact⟨_,rfl,S.x,_,_,rfl,hT.h.ob,Hh,_,rfl,_,rfl,M,S,nm,v,t,rfl,hT,hat',ok5,sz60,fal,(fun c=>absurd hin c),(fun p hp ep _ H' s'=>q H' s'),fal⟩
 ·(repeat refine⟨_,rfl,rfl,_,rfl,Bd ?_⟩)<;>(try refine⟨_,rfl,rfl,_,rfl,Bo ?_⟩)
  exact⟨_,rfl,S.x,_,_,rfl,hT.h.ob,LL,_,rfl,S.x,M,S.U,S.m,S.room,S.marks,S.ls,v,t,rfl,hT.h,hat',ok5,sz60,hok,q⟩
 ·(repeat refine⟨_,rfl,rfl,_,rfl,Bd ?_⟩)<;>(try refine⟨_,rfl,rfl,_,rfl,Bo ?_⟩)
  exact⟨_,rfl,S.x,_,_,rfl,hT.h.ob,Gi,_,rfl,_,rfl,M,S,nm,"true","elder",v,t,rfl,hT,hnm.1,hnm.2,hat,ok5,hsz,by decide,by decide,hO.ls,hO.ts,(fun c=>absurd hg c),(fun _ c=>absurd c hn),(fun _ _ _ H' s'=>q H' s'),(fun _ _ c=>absurd c hok),(fun _ _ c=>absurd c hok),(fun _ _ c=>absurd c hok)⟩
 ·have hl0:=hl
  have hz:z∈BT:=by
   rcases hl with⟨_,_,h⟩|⟨_,_,_,h⟩
   ·exact h
   ·simp only[BT,List.mem_cons,List.not_mem_nil,or_false] at h ⊢
    rcases h with rfl | rfl | rfl<;>simp
  have g:=viaLook hz (.inl ⟨y,hl0,q⟩)
  clear viaLook hl hl0
  simp only[BT,looks,List.mem_cons,List.not_mem_nil,or_false] at hz
  rcases hz with rfl | rfl | rfl | rfl | rfl | rfl | rfl | rfl | rfl | rfl<;>(repeat refine⟨_,rfl,rfl,_,rfl,Bd ?_⟩)<;>(try refine⟨_,rfl,rfl,_,rfl,Bo ?_⟩)
  all_goals exact⟨_,rfl,_,rfl,_,rfl,_,rfl,g⟩
 ·have hz2:z∈BT:=by
   simp only[BT,looks,List.mem_cons,List.not_mem_nil,or_false] at hz ⊢
   rcases hz with rfl | rfl | rfl | rfl<;>simp
  have g:=viaLook hz2 (.inr ⟨hin,hz,q⟩)
  clear viaLook hz2
  simp only[BT,looks,List.mem_cons,List.not_mem_nil,or_false] at hz
  rcases hz with rfl | rfl | rfl | rfl<;>(repeat refine⟨_,rfl,rfl,_,rfl,Bd ?_⟩)<;>(try refine⟨_,rfl,rfl,_,rfl,Bo ?_⟩)
  all_goals exact⟨_,rfl,_,rfl,_,rfl,_,rfl,g⟩
end
abbrev B3:Stmt:=Bm 84
def wordsL:List Str:=["talk","strange","over","nothing","book"]
def Cn (y:Nat):Str:=wordsL.getD y ""
structure VJ (mg:Str→Option Value) (nm:Str) (c:Addr):Prop where
 m:mg nm=some (.ref c)
structure Vy (K:PySem.W.Frag) (adr:Nat→Addr) (cT:Addr):Prop where
 at_:∀y,y<3→XAt K (adr y) cT
 up:∀y,y<3→mroIn K (adr y) (.ref cT)=some true
 kv:∀y,y<3→kitOne K (.ref (adr y)) (.type "ValueError")=some true
 ap:∀y j,y<3→j<5→kitOne K (.ref (adr y)) (.ref (adr j))=some (decide (y=j))
def Gw (a b c d e:Addr):Nat→Addr
 | 0=>a
 | 1=>b
 | 2=>c
 | 3=>d
 | _=>e
theorem VL {p:Nat→Prop} (h0:p 0) (h1:p 1) (h2:p 2) (y:Nat) (h:y<3):p y:=by
 rcases (show y=0∨y=1∨y=2 by omega) with rfl | rfl | rfl<;>assumption
theorem WH {p:Nat→Prop} (h0:p 0) (h1:p 1) (h2:p 2) (h3:p 3) (h4:p 4) (y:Nat) (h:y<5):p y:=by
 rcases (show y=0∨y=1∨y=2∨y=3∨y=4 by omega) with rfl | rfl | rfl | rfl | rfl<;>assumption
theorem Gm (K:PySem.W.Frag) (C:Addr):kitOne K (.ref C) (.ref C)=some true:=by
 unfold kitOne
 rw[if_pos (beq_self_eq_true _)]
theorem Sb {K:PySem.W.Frag} {mg:Str→Option Value} {a b c d e cT:Addr} (X0:Cb K mg "NoTalk" a cT) (X1:Cb K mg "StrangeLetter" b cT) (X2:Cb K mg "TalkOver" c cT)
  (A01:OG K a b) (A02:OG K a c) (A03:kitOne K (.ref a) (.ref d)=some false) (A04:kitOne K (.ref a) (.ref e)=some false) (A10:OG K b a) (A12:OG K b c) (A13:kitOne K (.ref b) (.ref d)=some false) (A14:kitOne K (.ref b) (.ref e)=some false) (A20:OG K c a) (A21:OG K c b) (A23:kitOne K (.ref c) (.ref d)=some false) (A24:kitOne K (.ref c) (.ref e)=some false):Vy K (Gw a b c d e) cT where
 at_:=VL X0.at_ X1.at_ X2.at_
 up:=VL X0.up X1.up X2.up
 kv:=VL X0.kv X1.kv X2.kv
 ap:=fun y j hy hj=>VL (p:=fun y=>kitOne K (.ref (Gw a b c d e y)) (.ref (Gw a b c d e j))=some (decide (y=j)))
  (WH (p:=fun j=>kitOne K (.ref (Gw a b c d e 0)) (.ref (Gw a b c d e j))=some (decide (0=j))) (Gm K a) A01.kit A02.kit A03 A04 j hj)
  (WH (p:=fun j=>kitOne K (.ref (Gw a b c d e 1)) (.ref (Gw a b c d e j))=some (decide (1=j))) A10.kit (Gm K b) A12.kit A13 A14 j hj)
  (WH (p:=fun j=>kitOne K (.ref (Gw a b c d e 2)) (.ref (Gw a b c d e j))=some (decide (2=j))) A20.kit A21.kit (Gm K c) A23 A24 j hj)
  y hy
theorem RefD.lt {S:HSt} {z nm:Str} {t:Tr} {y:Nat} (h:RefD S z nm t y):y<3:=by
 rcases h with⟨rfl,_⟩|⟨rfl,_⟩|⟨rfl,_⟩|⟨rfl,_⟩|⟨rfl,_⟩|⟨rfl,_⟩|⟨rfl,_⟩|⟨rfl,_⟩<;>decide
theorem UW:5≤sizeLine:=by decide
theorem Og:∀y,y<3→Txt.join "" [Cn y]=Cn y:=by decide
theorem PK:∀y,y<3→(Cn y).length≤20:=by decide
theorem OR:∀i,i<5→wordsL[i]? = some (Cn i):=by decide
def Ey (C cK:Addr):Sp:=fun vs H Q E=>∃(M:List Addr) (S:HSt) (z nm:Str) (v:V) (t:Tr),vs=[.ref S.x,.str z,.str nm,v]∧HOk M C cK H S∧M7 nm∧t.At (Bb M H) v∧t.ok 5∧t.size≤23∧
 ((∃y,RefD S z nm t y∧∀H',Same H H'→Q (.str (Cn y)) H')∨(nm∈Bp S.ts∧z∈looks∧∀H',Same H H'→Q (.str "") H'))
section
variable {cH cK cT:Addr} {adr:Nat→Addr}
theorem scLrefusal:Al ["_law_house","_law_deed","_law_name_here","_law_sentence_here","_law_found","e","_law_flags","_law_words"] ["_law_house","_law_deed","_law_name_here","_law_sentence_here"] (Ad B3):=Bn
theorem Ks {gC:Addr} {dC:FuncData} (F:Fun K "_law_refusal" "_law_refusal" B3 f fd) (T:Ht mg) (B:Bl mg) (XT:Vj K mg cT) (SX:Vy K adr cT)
  (X0:Cb K mg "NoTalk" (adr 0) cT) (X1:Cb K mg "StrangeLetter" (adr 1) cT) (X2:Cb K mg "TalkOver" (adr 2) cT) (X3:VJ mg "NothingSaid" (adr 3)) (X4:VJ mg "NoBook" (adr 4))
  (GC:FnOk P w K mg bz (A4 P w) 10 gC dC ["_law_house","_law_deed","_law_name_here","_law_sentence_here"] (ST cH cK adr)) (CC:AW K mg "_law_do" gC dC ["_law_house","_law_deed","_law_name_here","_law_sentence_here"]):FnOk P w K mg bz AU 11 f fd ["_law_house","_law_deed","_law_name_here","_law_sentence_here"] (Ey cH cK):=by
 refine F.ok scLrefusal (fun vs H Q E h=>?_) (fun cdv A outer s H vs Q E hr h=>?_)
 ·obtain⟨M,S,z,nm,v,t,rfl,_⟩:=h
  rfl
 obtain⟨M,S,z,nm,v,t,rfl,hO,hnm,hat,ok5,hsz,h⟩:=h
 refine⟨_,Ae (Ax (i:=4) scLrefusal.nd rfl (Or.inl rfl) Ah)
  (Ae (RM (fun E1 pn1 Ex1 hp=>(Af (AA (An GC hr (by rfl) CC.m CC.k CC.b .nil hp (Ab (pv 0) (Ab (pv 1) (Ab (pv 2) (Ab (pv 3) Ac))))))))
   (Sf (i:=5) (fun a oe=>(Ae (Ax (i:=6) scLrefusal.nd rfl (Or.inr rfl) (AE (Ab (AG B2 (by rfl) T.isi boot_isinstance (Ab (pv 5) (Ab (B0 (v:=.ref (adr 0)) (by rfl) X0.m rfl) Ac))) (Ab (AG B2 (by rfl) T.isi boot_isinstance (Ab (pv 5) (Ab (B0 (v:=.ref (adr 1)) (by rfl) X1.m rfl) Ac))) (Ab (AG B2 (by rfl) T.isi boot_isinstance (Ab (pv 5) (Ab (B0 (v:=.ref (adr 2)) (by rfl) X2.m rfl) Ac))) Ac)))))
   (Ae (Ax (i:=6) scLrefusal.nd rfl (Or.inr rfl) (AK QZ (pv 6) (AE (Ab (AG B2 (by rfl) T.isi boot_isinstance (Ab (pv 5) (Ab (B0 (v:=.ref (adr 3)) (by rfl) X3.m rfl) Ac))) (Ab (AG B2 (by rfl) T.isi boot_isinstance (Ab (pv 5) (Ab (B0 (v:=.ref (adr 4)) (by rfl) X4.m rfl) Ac))) Ac)))))
   (Ae (Ax (i:=7) scLrefusal.nd rfl (Or.inr rfl) (AE (Ab Ah (Ab Ah (Ab Ah (Ab Ah (Ab Ah Ac)))))))
   (Ae (Ax (i:=4) scLrefusal.nd rfl (Or.inl rfl) (Bw PySem.F.plainAttrs_str PySem.F.slot_str_join PySem.F.type_str_join Jp Ah (Ab (MV (ah:=a) (oh:=oe) (N:=["_law_k","_law_flags","_law_words"]) (js:=[none,some 6,some 7]) (cl:=[("_law_words",s.heap.objs.size+2),("_law_flags",s.heap.objs.size+1)]) ⟨rfl,rfl,rfl,(by intro p hp;simp at hp;rcases hp with rfl | rfl<;>rfl),rfl,rfl,rfl⟩ (K0 (by rfl) B.range (Ab Ao Ac)) (fun c1=>(AN (i:=0) (show (["_law_k","_law_flags","_law_words"]:List Str).Nodup by decide +kernel) rfl (Or.inl rfl))) (fun c1=>(Gd (Cp (AL AI (pv 1) (pv 0) (fun _ _=>rfl)) (fun _=>rfl)))) (fun c1=>(AL AI (pv 2) (pv 0) (fun _ _=>rfl)))) Ac)))
   (Af (AC (Ca (Bu (AG B2 (by rfl) T.isi boot_isinstance (Ab (pv 5) (Ab (Ga (v:=.ty "ValueError") (by rfl) XT.mV PyProof.Rows.Boot.«ValueError» rfl) Ac)))))
    (Af (Ax (i:=4) scLrefusal.nd rfl (Or.inl rfl) Ah))
    Aw))))))) Sv (by rfl) XT.m XT.ty XT.ic XT.bs scLrefusal.nd rfl rfl (Or.inl rfl)) rfl rfl)
  (Af (Am (pv 4)))),?_⟩
 rcases h with⟨y,hy,q⟩|⟨hin,hz,q⟩
 rotate_left
 ·refine⟨fun _ _ _=>False,⟨_,rfl,_,rfl,_,rfl,_,rfl,M,S,z,nm,v,t,rfl,hO,hnm,hat,ok5,hsz,.inr ⟨hin,hz,fun r H' s'=>?_⟩⟩,fun _ _ _ h=>h.elim⟩
  exact⟨_,rfl,q H' s'⟩
 refine⟨fun cls dx H'=>dx=none∧Same H H'∧cls= .ref (adr y),⟨_,rfl,_,rfl,_,rfl,_,rfl,M,S,z,nm,v,t,rfl,hO,hnm,hat,ok5,hsz,.inl ⟨y,hy,fun H' s'=>⟨rfl,s',rfl⟩⟩⟩,?_⟩
 rintro cls dx H1 ⟨rfl,s1,rfl⟩
 have y3:=hy.lt
 refine⟨adr y,rfl,true,SX.up y y3,Bo fun a vs sl hcx hna=>?_⟩
 refine⟨_,rfl,a,adr y,cT,_,_,_,rfl,SX.at_ y y3,⟨vs,sl,List.mem_cons_self⟩,(fun u r=>r),SX.ap y 0 y3 (by decide),_,rfl,a,adr y,cT,_,_,_,rfl,SX.at_ y y3,⟨vs,sl,List.mem_cons_self⟩,(fun u r=>r),SX.ap y 1 y3 (by decide),_,rfl,a,adr y,cT,_,_,_,rfl,SX.at_ y y3,⟨vs,sl,List.mem_cons_self⟩,(fun u r=>r),SX.ap y 2 y3 (by decide),SZ,fun f1 hf1=>?_⟩
 have s2:=Ag hf1 (.lst [.bl (decide (y=0)),.bl (decide (y=1)),.bl (decide (y=2))])
 have e2:upd H1 f1 (.lst [.bl (decide (y=0)),.bl (decide (y=1)),.bl (decide (y=2))]) f1=some (.lst [.bl (decide (y=0)),.bl (decide (y=1)),.bl (decide (y=2))]):=upd_same
 generalize upd H1 f1 _=H2 at *
 refine⟨_,rfl,_,rfl,a,adr y,cT,_,_,_,rfl,SX.at_ y y3,⟨vs,sl,List.mem_cons_self⟩,(fun u r=>r),SX.ap y 3 y3 (by decide),_,rfl,a,adr y,cT,_,_,_,rfl,SX.at_ y y3,⟨vs,sl,List.mem_cons_self⟩,(fun u r=>r),SX.ap y 4 y3 (by decide),FV,fun f2 hf2=>?_⟩
 have s3:=Ag hf2 (.lst [.bl (decide (y=3)),.bl (decide (y=4))])
 have e3:upd H2 f2 (.lst [.bl (decide (y=3)),.bl (decide (y=4))]) f2=some (.lst [.bl (decide (y=3)),.bl (decide (y=4))]):=upd_same
 generalize upd H2 f2 _=H3 at *
 refine⟨f1,f2,_,_,rfl,rfl,s3 _ _ e2,e3,(show 3+2≤sizeLine from UW),fun f3 hf3=>?_⟩
 have s4:=Ag hf3 (.lst ((List.range 5).map fun j=>V.bl (decide (y=j))))
 have e4:upd H3 f3 (.lst ((List.range 5).map fun j=>V.bl (decide (y=j)))) f3=some (.lst ((List.range 5).map fun j=>V.bl (decide (y=j)))):=upd_same
 have ee:[V.bl (decide (y=0)),.bl (decide (y=1)),.bl (decide (y=2))]++[V.bl (decide (y=3)),.bl (decide (y=4))]=(List.range 5).map fun j=>V.bl (decide (y=j)):=rfl
 rw[ee]
 generalize upd H3 f3 _=H4 at *
 refine⟨UW,fun wd hwd=>?_⟩
 have s5:=Ag hwd (.lst (wordsL.map V.str))
 have e5:upd H4 wd (.lst (wordsL.map V.str)) wd=some (.lst (wordsL.map V.str)):=upd_same
 have ew:[V.str "talk",.str "strange",.str "over",.str "nothing",.str "book"]=wordsL.map V.str:=rfl
 rw[ew]
 generalize upd H4 wd _=H5 at *
 have u5:Same H H5:=s1.trans (s2.trans (s3.trans (s4.trans s5)))
 have e45:=s5 _ _ e4
 refine⟨rfl,⟨vs,rfl,hcx⟩,_,rfl,by decide,by decide,fun cc acc hacc=>Ct (fun i σ Hi=>∃v0,σ=[v0,some (.ref f3),some (.ref wd)]∧Same H5 Hi∧Hi acc=some (.lst (if y<i then[V.str (Cn y)] else[]))) ⟨_,rfl,Ag hacc _,by rw[if_neg (Nat.not_lt_zero _)];exact upd_same⟩ ?_ ?_⟩
 ·rintro i σ Hi hi ⟨v0,rfl,si,ha⟩
  have hi6:i<5:=by
   have h0:i<(5:Int).toNat:=hi
   exact h0
  rw[Int.zero_add]
  have at1:Dv ((List.range 5).map fun j=>V.bl (decide (y=j))) (i:Int)=some (.bl (decide (y=i))):=As (by rw[List.getElem?_map,List.getElem?_range hi6];rfl)
  refine⟨_,rfl,_,rfl,f3,_,_,_,rfl,rfl,SqL.of (si _ _ e45),at1,decide (y=i),rfl,?_⟩
  by_cases c:y=i
  ·refine DC c ?_
   have at2:Dv (wordsL.map V.str) (i:Int)=some (.str (Cn y)):=As (by rw[List.getElem?_map,OR i hi6,c];rfl)
   refine⟨_,rfl,_,rfl,wd,_,_,_,rfl,rfl,SqL.of (si _ _ e5),at2,_,ha,?_,_,rfl,AH si hacc _,?_⟩
   ·rw[if_neg (by omega)];decide
   ·rw[upd_same,if_neg (by omega),if_pos (by omega)];rfl
  ·refine Dd c ⟨_,rfl,si,?_⟩
   rw[ha]
   by_cases c2:y<i
   ·rw[if_pos c2,if_pos (by omega)]
   ·rw[if_neg c2,if_neg (by omega)]
 ·rintro σ Hi ⟨v0,rfl,si,ha⟩
  have ha':Hi acc=some (.lst ([Cn y].map V.str)):=by
   rw[ha]
   show some (HO.lst (if y<5 then _ else _))=_
   rw[if_pos (by omega)];rfl
  refine⟨_,acc,[Cn y],rfl,rfl,SqL.of ha',?_,?_⟩
  ·have:=PK y y3
   show (Cn y).length+0+1*("":Str).length≤16777216
   have:("":Str).length=0:=rfl
   omega
  rw[Og y y3]
  refine⟨_,rfl,a,adr y,cT,_,_,_,rfl,SX.at_ y y3,⟨vs,sl,List.mem_cons_self⟩,(fun u r=>r),SX.kv y y3,_,rfl,Bd ?_⟩
  exact⟨_,rfl,q _ (u5.trans si)⟩
end
abbrev DZ:Stmt:=Bm 85
def Kv (C cK:Addr):Sp:=fun vs H Q E=>∃(M:List Addr) (S:HSt) (nm ov:Str) (v1 v2:V) (t1 t2:Tr),vs=[.ref S.x,.str nm,.str ov,v1,v2]∧HOk M C cK H S∧M7 nm∧nm∈Bp S.ts∧((ov=""∧FG S nm false)∨(ov="over"∧FG S nm true))∧t1.At (Bb M H) v1∧t1.ok 5∧t1.size≤23∧¬t1.ok S.m∧t2.At (Bb M H) v2∧t2.ok 5∧t2.size≤23∧∀H',Same H H'→Q (.bl true) H'
theorem IF {M:List Addr} {H H':Hp} {t:Tr} {v:V} (s:Same H H') (h:t.At (Bb M H) v):t.At (Bb M H') v:=h.keep (TS.same (Au s))
theorem WA:6≤sizeLine:=by decide
section
variable {cH cK:Addr}
theorem scLthere:Al ["_law_house","_law_name_here","_law_over","_law_odd","_law_sentence_here","_law_deed","_law_due"] ["_law_house","_law_name_here","_law_over","_law_odd","_law_sentence_here"] (Ad DZ):=Bn
theorem M8 {gC:Addr} {dC:FuncData} (F:Fun K "_law_there" "_law_there" DZ f fd)
  (GC:FnOk P w K mg bz AU 11 gC dC ["_law_house","_law_deed","_law_name_here","_law_sentence_here"] (Ey cH cK)) (CC:AW K mg "_law_refusal" gC dC ["_law_house","_law_deed","_law_name_here","_law_sentence_here"]):FnOk P w K mg bz AU 12 f fd ["_law_house","_law_name_here","_law_over","_law_odd","_law_sentence_here"] (Kv cH cK):=by
 refine F.ok scLthere (fun vs H Q E h=>?_) (fun cdv A outer s H vs Q E hr h=>?_)
 ·obtain⟨M,S,nm,ov,v1,v2,t1,t2,rfl,_⟩:=h
  rfl
 obtain⟨M,S,nm,ov,v1,v2,t1,t2,rfl,hO,hnm,hin,hov,at1,ok1,sz1,no1,at2,ok2,sz2,q⟩:=h
 refine⟨_,Ae (Bv PassesOwn.never rfl (Be (AE (Ab Ah (Ab Ah (Ab Ah (Ab Ah Ac)))))) (AN (i:=5) scLthere.nd rfl (Or.inl rfl))
   (Ae (Ax (i:=6) scLthere.nd rfl (Or.inl rfl) (OS (LU (Av AX (pv 2) Ah (AB _)) (Jr (Av AX (pv 5) Ah (AB _)))).pt Ah (pv 2)))
   (Af (AC (Av En (An GC hr (by rfl) CC.m CC.k CC.b .nil Ay (Ab (pv 0) (Ab (pv 5) (Ab (pv 1) (Ab (pv 3) Ac))))) (pv 6) (AB _))
    (Af (Am Cd))
    Aw))))
  (Ae (AC (Av En (pv 2) Ah (AB _))
   (Af (Bv PassesOwn.never rfl (Be (AE (Ab Ah (Ab Ah (Ab Ah (Ab Ah (Ab Ah (Ab Ah Ac)))))))) (AN (i:=5) scLthere.nd rfl (Or.inl rfl))
    (Af (AC (Av En (An GC hr (by rfl) CC.m CC.k CC.b .nil Ay (Ab (pv 0) (Ab (pv 5) (Ab (pv 1) (Ab (pv 4) Ac))))) (pv 2) (AB _))
     (Af (Am Cd))
     Aw))))
   Aw)
  (Af (Am Cd))),?_⟩
 refine⟨Vg,fun L hL=>?_⟩
 have s1:=Ag hL (.lst ((["say","why","bring","ask"]:List Str).map V.str))
 have L1:upd H L (.lst ((["say","why","bring","ask"]:List Str).map V.str)) L=some (.lst ((["say","why","bring","ask"]:List Str).map V.str)):=upd_same
 have eL:[V.str "say",.str "why",.str "bring",.str "ask"]=(["say","why","bring","ask"]:List Str).map V.str:=rfl
 rw[eL]
 generalize upd H L _=H1 at *
 refine⟨L,rfl,⟨_,SqL.of L1⟩,A7 (K:=K) (a:=L) (xs:=(["say","why","bring","ask"]:List Str).map V.str) (fun i σ Hi=>∃(v5 v6:Option V),σ=[some (.ref S.x),some (.str nm),some (.str ov),some v1,some v2,v5,v6]∧Same H1 Hi) ⟨_,_,rfl,Same.refl _⟩ ?_ ?_ ?_⟩
 ·rintro i σ Hi _ ⟨v5,v6,rfl,si⟩
  exact SqL.of (si _ _ L1)
 ·rintro i x σ Hi hx ⟨v5,v6,rfl,si⟩
  rw[List.getElem?_map] at hx
  obtain⟨d,hd,rfl⟩:=Option.map_eq_some_iff.mp hx
  have hd:=List.mem_of_getElem? hd
  have u:=s1.trans si
  simp only[List.mem_cons,List.not_mem_nil,or_false] at hd
  rcases hov with⟨rfl,hov⟩|⟨rfl,hov⟩
  ·rcases hd with rfl | rfl | rfl | rfl<;>refine⟨_,rfl,rfl,_,rfl,Bo (Bo ⟨_,rfl,_,rfl,_,rfl,_,rfl,M,S,_,nm,v1,t1,rfl,hO.keep u,hnm,IF u at1,ok1,sz1,.inl ⟨1,?_,fun H' s'=>⟨_,rfl,rfl,_,rfl,Cy rfl ⟨_,_,rfl,si.trans s'⟩⟩⟩⟩)⟩
   all_goals first | exact .inr (.inl ⟨rfl,hin,no1,hov,by decide⟩) | exact .inr (.inr (.inl ⟨rfl,hin,no1,rfl⟩))
  ·rcases hd with rfl | rfl | rfl | rfl<;>refine⟨_,rfl,rfl,_,rfl,Bd ⟨_,rfl,rfl,_,rfl,?_⟩⟩
   rotate_right
   ·exact Bo ⟨_,rfl,_,rfl,_,rfl,_,rfl,M,S,_,nm,v1,t1,rfl,hO.keep u,hnm,IF u at1,ok1,sz1,.inl ⟨1,.inr (.inr (.inl ⟨rfl,hin,no1,rfl⟩)),fun H' s'=>⟨_,rfl,rfl,_,rfl,Cy rfl ⟨_,_,rfl,si.trans s'⟩⟩⟩⟩
   all_goals exact Bd ⟨_,rfl,_,rfl,_,rfl,_,rfl,_,rfl,M,S,_,nm,v1,t1,rfl,hO.keep u,hnm,IF u at1,ok1,sz1,.inl ⟨2,.inr (.inr (.inr (.inl ⟨rfl,hin,hov,by simp⟩))),fun H' s'=>⟨_,rfl,rfl,_,rfl,Cy rfl ⟨_,_,rfl,si.trans s'⟩⟩⟩⟩
 rintro σ H2 ⟨v5,v6,rfl,s2⟩
 have u2:=s1.trans s2
 rcases hov with⟨rfl,hov⟩|⟨rfl,hov⟩
 ·exact⟨_,rfl,rfl,_,rfl,Bd (q H2 u2)⟩
 refine⟨_,rfl,rfl,_,rfl,Bo ?_⟩
 refine⟨WA,fun L2 hL2=>?_⟩
 have s3:=Ag hL2 (.lst ((["say","why","bring","catch","back","end"]:List Str).map V.str))
 have L3:upd H2 L2 (.lst ((["say","why","bring","catch","back","end"]:List Str).map V.str)) L2=some (.lst ((["say","why","bring","catch","back","end"]:List Str).map V.str)):=upd_same
 have eL2:[V.str "say",.str "why",.str "bring",.str "catch",.str "back",.str "end"]=(["say","why","bring","catch","back","end"]:List Str).map V.str:=rfl
 rw[eL2]
 generalize upd H2 L2 _=H3 at *
 refine⟨L2,rfl,⟨_,SqL.of L3⟩,A7 (K:=K) (a:=L2) (xs:=(["say","why","bring","catch","back","end"]:List Str).map V.str) (fun i σ Hi=>∃(v5 v6:Option V),σ=[some (.ref S.x),some (.str nm),some (.str "over"),some v1,some v2,v5,v6]∧Same H3 Hi) ⟨_,_,rfl,Same.refl _⟩ ?_ ?_ ?_⟩
 ·rintro i σ Hi _ ⟨v5,v6,rfl,si⟩
  exact SqL.of (si _ _ L3)
 ·rintro i x σ Hi hx ⟨v5,v6,rfl,si⟩
  rw[List.getElem?_map] at hx
  obtain⟨d,hd,rfl⟩:=Option.map_eq_some_iff.mp hx
  have hd:=List.mem_of_getElem? hd
  have u:=u2.trans (s3.trans si)
  have hrf:RefD S d nm t2 2:=by
   simp only[List.mem_cons,List.not_mem_nil,or_false] at hd
   rcases hd with rfl | rfl | rfl | rfl | rfl | rfl
   all_goals first | exact .inr (.inr (.inr (.inl ⟨rfl,hin,hov,by decide⟩))) | exact .inr (.inr (.inr (.inr (.inr (.inr (.inr ⟨rfl,hin,hov,by decide⟩))))))
  refine⟨_,rfl,_,rfl,_,rfl,_,rfl,M,S,d,nm,v2,t2,rfl,hO.keep u,hnm,IF u at2,ok2,sz2,.inl ⟨2,hrf,fun H' s'=>?_⟩⟩
  exact⟨_,rfl,rfl,_,rfl,Cy rfl ⟨_,_,rfl,si.trans s'⟩⟩
 rintro σ H4 ⟨v5,v6,rfl,s4⟩
 exact q H4 (u2.trans (s3.trans s4))
end
def Vx (M:List Addr) (H:Hp):Prop:=∀b∈M,∀ys,H b≠some (.tup ys)
theorem Fy {M N:List Addr} {x y:Addr} {H H':Hp} (b:But [x,y] H H') (hx:x∈M) (hy:y∈M) (hn:∀n∈N,H n=none):Same (Bb M H) (Bb (N++M) H'):=fun p u e=>by
 obtain⟨e1,e2⟩:=Br e
 have e3:Bb [x,y] H p=some u:=Bh e1 fun z=>by
  simp only[List.mem_cons,List.not_mem_nil,or_false] at z
  rcases z with rfl | rfl
  ·exact e2 hx
  ·exact e2 hy
 refine Bh (Br (b _ _ e3)).1 fun z=>?_
 rcases List.mem_append.mp z with q | q
 ·rw[hn p q] at e1;cases e1
 ·exact e2 q
theorem Rs (ts:List Tw) (p:Tw):Bp (ts++[p])=Bp ts++[p.nm]:=by unfold Bp;rw[List.map_append];rfl
theorem Lo (ts:List Tw) (k:Str):Bp (ts.filter fun p=>decide (p.nm≠k))=(Bp ts).filter fun z=>decide (z≠k):=by
 unfold Bp
 rw[List.filter_map]
 rfl
theorem OP (m:Nat) (wd:Int):M0 (List.replicate m none) wd=true:=by
 unfold M0
 rw[List.all_eq_true]
 intro b hb
 rw[List.mem_mapIdx] at hb
 obtain⟨i,hi,rfl⟩:=hb
 rw[List.getElem_replicate]
 rfl
theorem MT (m:Nat):BY (2^m)≠[]:=fun e=>by
 have:(0:Int)∈BY (2^m):=mem_upto.mpr ⟨Int.le_refl _,by have:0<2^m:=Nat.pow_pos (by decide);omega⟩
 rw[e] at this
 cases this
theorem Nk {C cK x:Addr} {U:Hk} {H4 H5:Hp} {m:Nat} {ts:List Tr} (s5:Same H4 H5) (hx:H4 x=none) (tk4:H4 U.tk=none) (ln4:H4 U.ln=none) (nspx:U.sp≠x) (nmkx:U.mks≠x) (hm1:1≤m) (hm5:m≤5) (hne:Bx m ts≠[]) (hx5:H5 x=some (.ins C U.dx (Dx U m))) (hsp5:AV H5 U.sp (Bx m ts)) (hmk5:H5 U.mks=some (.lst (List.replicate m .non))) (htk5:H5 U.tk=some (.dK [])) (hln5:H5 U.ln=some (.lst [.str (Gv m ts)])) :
  HouseT [x,U.ln,U.tk] C cK H5 ⟨x,U,m,Bx m ts,List.replicate m none,[.str (Gv m ts)],[]⟩∧Same H4 (Bb [x,U.ln,U.tk] H5)∧Vx [x,U.ln,U.tk] H5:=by
 have nsl:U.sp≠U.ln:=fun e=>by
  have h1:H5 U.sp=some (.lst ((Bx m ts).map V.int)):=hsp5
  rw[e,hln5] at h1
  have h2:=Option.some.inj h1
  injection h2 with h2
  cases hr0:Bx m ts with
  | nil=>exact hne hr0
  | cons k0 _=>rw[hr0] at h2;injection h2 with h2;cases h2
 have nml:U.mks≠U.ln:=fun e=>by
  rw[e,hln5] at hmk5
  have h2:=Option.some.inj hmk5
  injection h2 with h2
  match m,hm1,h2 with
  | k+1,_,h2=>rw[List.replicate_succ] at h2;injection h2 with h2;cases h2
 have nst:U.sp≠U.tk:=A6 hsp5 htk5 (by intro z;cases z)
 have nmt:U.mks≠U.tk:=A6 hmk5 htk5 (by intro z;cases z)
 have notN:∀{b:Addr},b≠x→b≠U.ln→b≠U.tk→b∉[x,U.ln,U.tk]:=fun h1 h2 h3 hb=>by
  simp only[List.mem_cons,List.not_mem_nil,or_false] at hb
  rcases hb with h | h | h
  ·exact h1 h
  ·exact h2 h
  ·exact h3 h
 have fne:(Bx m ts).filter (M0 (List.replicate m none))≠[]:=by
  rw[List.filter_eq_self.mpr fun wd _=>OP m wd]
  exact hne
 refine⟨⟨⟨hx5,hln5,by simp,by simp,Bh hsp5 (notN nspx nsl nst),Bh (by rw[hmk5,List.map_replicate];rfl) (notN nmkx nml nmt),List.length_replicate,hm1,hm5,MR hm5 ts,fne,by show 1≤900;decide⟩,htk5,by simp,(fun p hp=>nomatch hp),by show[U.ln].Nodup;simp,List.nodup_nil,List.nodup_nil,fun b hb=>?_,by show 0≤900;decide⟩,fun b o e=>Bh (s5 _ _ e) fun z=>?_,fun b hb ys e=>?_⟩
 ·simp only[List.mem_cons,List.not_mem_nil,or_false] at hb
  rcases hb with rfl | rfl | rfl
  ·rw[hx5];intro z;cases z
  ·rw[hln5];intro z;cases z
  ·rw[htk5];intro z;cases z
 ·simp only[List.mem_cons,List.not_mem_nil,or_false] at z
  rcases z with rfl | rfl | rfl
  ·rw[hx] at e;cases e
  ·rw[ln4] at e;cases e
  ·rw[tk4] at e;cases e
 ·simp only[List.mem_cons,List.not_mem_nil,or_false] at hb
  rcases hb with rfl | rfl | rfl
  ·rw[hx5] at e;cases e
  ·rw[hln5] at e;cases e
  ·rw[htk5] at e;cases e
theorem LZ {m j:Nat} (h:j<m) (h5:m≤5) (b:Bool):BD b (.lt j) (BY (2^m))≠[]:=fun e=>by
 have hp:(2:Nat)^j<2^m:=Nat.pow_lt_pow_right (by decide) h
 cases b with
 | true=>
  have hm:((2:Int)^j)∈BD true (.lt j) (BY (2^m)):=by
   unfold BD
   rw[List.mem_filter]
   refine⟨mem_upto.mpr ⟨Int.le_of_lt (pow_pos j),?_⟩,?_⟩
   ·have:((2^j:Nat):Int)<((2^m:Nat):Int):=by omega
    simpa using this
   ·show (ER j (2^j) == true)=true
    unfold ER
    rw[Int.ediv_self (Int.ne_of_gt (pow_pos j))]
    decide
  rw[e] at hm;cases hm
 | false=>
  have hm:(0:Int)∈BD false (.lt j) (BY (2^m)):=by
   unfold BD
   rw[List.mem_filter]
   refine⟨mem_upto.mpr ⟨Int.le_refl _,?_⟩,?_⟩
   ·have:0<2^m:=Nat.pow_pos (by decide)
    omega
   ·show (ER j 0 == false)=true
    unfold ER
    rw[Int.zero_ediv]
    decide
  rw[e] at hm;cases hm
theorem O6 {kd:Str} {t:Tr} {row:List Int} (h1:BD true t row≠[]) (h2:BD false t row≠[]):[]∉AR kd t row:=by
 unfold AR
 intro z
 split at z
 ·rw[List.mem_singleton] at z;exact h1 z.symm
 ·split at z
  ·rw[List.mem_singleton] at z;exact h2 z.symm
  ·simp only[List.mem_cons,List.not_mem_nil,or_false] at z
   rcases z with z | z
   ·exact h1 z.symm
   ·exact h2 z.symm
structure G9 (S:HSt) (x:Addr) (m:Nat) (nl:List Str) (b:Bool) (k:Nat):Prop where
 fx:S.x=x
 fm:S.m=m
 fr:S.room=BY (2^m)
 fn:Bp S.ts=nl
 fp:∀p∈S.ts,p.w.ended=b∧p.w.ents.length≤k∧p.w.lefts.length=p.w.ents.length+1
 fl:∃zs:List Str,S.ls=zs.map V.str∧zs.length≤k
 ft:S.ts.length≤k
theorem IJ {k:Nat} {ls:List V} {z:Str} (h:∃zs:List Str,ls=zs.map V.str∧zs.length≤k):∃zs:List Str,ls++[.str z]=zs.map V.str∧zs.length≤k+1:=by
 obtain⟨zs,e,h⟩:=h
 exact⟨zs++[z],by rw[e,List.map_append];rfl,by rw[List.length_append];exact Nat.succ_le_succ h⟩
section
variable {S:HSt} {x:Addr} {m k:Nat} {nl:List Str} {b:Bool}
theorem G9.begin {n kd rl l:Str} {a:Addr} {u:Tk} {t:Tr} {m':Nat} {room:List Int} (h:G9 S x m nl false k):G9 (SN S ⟨n,a,u,Gr m' kd rl t room⟩ l) x m (nl++[n]) false (k+1):=by
 refine⟨h.fx,h.fm,h.fr,?_,fun p hp=>?_,IJ h.fl,?_⟩
 ·show Bp (S.ts++[_])=_
  rw[Rs,h.fn]
 ·rcases List.mem_append.mp hp with q | q
  ·obtain⟨h1,h2,h3⟩:=h.fp p q
   exact⟨h1,by omega,h3⟩
  ·rw[List.mem_singleton.mp q]
   exact⟨rfl,Nat.zero_le _,rfl⟩
 ·show (S.ts++[_]).length≤_
  rw[List.length_append];exact Nat.succ_le_succ h.ft
theorem G9.alt {z:Str} {u:Tk} {w:Ta} {l:Str} {c:Bool} (h:G9 S x m nl b k) (hw:w.ended=c∧w.ents.length≤k+1∧w.lefts.length=w.ents.length+1) (hc:b=c∨∀q∈S.ts,q.nm=z):G9 (TJ S z u w l) x m nl c (k+1):=by
 refine⟨h.fx,h.fm,h.fr,?_,fun q hq=>?_,IJ h.fl,?_⟩
 ·show Bp (Cq S.ts z u w)=_
  rw[Jy,h.fn]
 ·rcases Kz hq with⟨hq,hn⟩|⟨p',hp',en,rfl⟩
  ·obtain⟨h1,h2,h3⟩:=h.fp q hq
   rcases hc with rfl | hc
   ·exact⟨h1,by omega,h3⟩
   ·exact absurd (hc q hq) hn
  ·exact hw
 ·show (Cq S.ts z u w).length≤_
  rw[KC];exact Nat.le_succ_of_le h.ft
theorem G9.drop {z:Str} (h:G9 S x m nl b k):G9 (Qy S z) x m (nl.filter fun y=>decide (y≠z)) b (k+1):=by
 refine⟨h.fx,h.fm,h.fr,?_,fun p hp=>?_,IJ h.fl,?_⟩
 ·show Bp (S.ts.filter _)=_
  rw[Lo,h.fn]
 ·obtain⟨h1,h2,h3⟩:=h.fp p (List.mem_filter.mp hp).1
  exact⟨h1,by omega,h3⟩
 ·show (S.ts.filter _).length≤_
  exact Nat.le_trans (List.length_filter_le _ _) (Nat.le_succ_of_le h.ft)
theorem G9.ok {M:List Addr} {C cK:Addr} {H:Hp} (h:G9 S x m nl b k) (hT:HouseT M C cK H S) (hk:k<890):HOk M C cK H S:=by
 obtain⟨zs,e,hl⟩:=h.fl
 exact⟨hT,by rw[e,List.length_map];omega,Nat.lt_of_le_of_lt h.ft (by omega),fun p hp=>by
  obtain⟨_,h2,h3⟩:=h.fp p hp
  omega,fun p hp=>(h.fp p hp).2.2⟩
theorem G9.mono {k':Nat} (h:G9 S x m nl b k) (hk:k≤k'):G9 S x m nl b k':=by
 obtain⟨zs,e,hl⟩:=h.fl
 exact⟨h.fx,h.fm,h.fr,h.fn,fun p hp=>by
  obtain⟨h1,h2,h3⟩:=h.fp p hp
  exact⟨h1,by omega,h3⟩,⟨zs,e,by omega⟩,Nat.le_trans h.ft hk⟩
theorem G9.over (h:G9 S x m nl b k) (z:Str):FG S z b:=fun p hp _=>(h.fp p hp).1
end
theorem HI {kd:Str} {m j:Nat} (h:j<m) (h5:m≤5):[]∉AR kd (.lt j) (BY (2^m)):=O6 (LZ h h5 true) (LZ h h5 false)
theorem U1 (k:Int):∃rl:Str,Dv [V.str "elder",V.str "newer"] (k%2)=some (.str rl)∧BX rl∧rl.length≤100:=by
 rcases (show k%2=0∨k%2=1 by omega) with e | e<;>rw[e]
 ·exact⟨"elder",(As (j:=0) rfl:Dv _ ((0:Nat):Int)=_),by decide,by decide⟩
 ·exact⟨"newer",(As (j:=1) rfl:Dv _ ((1:Nat):Int)=_),by decide,by decide⟩
theorem I0 {M:List Addr} {H H':Hp} {q:Addr} {o:HO} (fr:∀b∈M,H b≠none) (h0:H q=none) (h1:H' q=some o):Bb M H' q=some o:=Bh h1 fun z=>fr q z h0
theorem Q4 {H:Hp} {a g l:Addr} (h1:H a=none) (h2:H g=none) (h3:H l=none):∀b∈[a,g,l],H b=none:=fun b hb=>by
 simp only[List.mem_cons,List.not_mem_nil,or_false] at hb
 rcases hb with rfl | rfl | rfl
 ·exact h1
 ·exact h2
 ·exact h3
theorem O7 {M:List Addr} {x y:Addr} {H H':Hp} (b:But [x,y] H H') (hx:x∈M) (hy:y∈M):Same (Bb M H) (Bb M H'):=Fy (N:=[]) b hx hy (fun _ z=>nomatch z)
theorem HV {M:List Addr} {C cK:Addr} {H0 H H':Hp} {S:HSt} {p:Tw} (hT:HouseT M C cK H0 S) (hp:p∈S.ts) (b:But [p.a,p.u.gv,p.u.lf,S.U.ln] H H'):Same (Bb M H) (Bb M H'):=But.wide (fun m hm=>by
 have t:=(hT.tt p hp).1
 simp only[List.mem_cons,List.not_mem_nil,or_false] at hm
 rcases hm with rfl | rfl | rfl | rfl
 ·exact t.ma
 ·exact t.mg
 ·exact t.ml
 ·exact hT.h.ml) b
theorem goodN.ok {z:Str} (h:goodN z):M7 z:=⟨Nat.le_trans h.2.1 (by decide),h.lt⟩
def tenD:List Str:=["say","ask","why","bring","fork","back","end","drop","catch","clash"]
theorem Mf {S:HSt} {d nm:Str} {t:Tr} (hd:d∈tenD) (hn:nm∉Bp S.ts):RefD S d nm t 0:=by
 simp only[tenD,List.mem_cons,List.not_mem_nil,or_false] at hd
 have l:d∈BT→RefD S d nm t 0:=fun h=>.inr (.inr (.inr (.inr (.inr (.inr (.inl ⟨rfl,hn,h⟩))))))
 rcases hd with rfl | rfl | rfl | rfl | rfl | rfl | rfl | rfl | rfl | rfl
 all_goals first | exact .inl ⟨rfl,hn,by decide⟩|exact l (by decide)
theorem QL {S:HSt} {d nm:Str} {t:Tr} (hd:d∈looks) (hn:nm∉Bp S.ts):RefD S d nm t 0:=by
 simp only[looks,List.mem_cons,List.not_mem_nil,or_false] at hd
 have l:d∈BT→RefD S d nm t 0:=fun h=>.inr (.inr (.inr (.inr (.inr (.inr (.inl ⟨rfl,hn,h⟩))))))
 rcases hd with rfl | rfl | rfl | rfl
 all_goals exact l (by simp[BT])
theorem Ws:10≤sizeLine:=by decide
theorem Vz {z0 z1 z2:Str} (g0:goodN z0) (g1:goodN z1) (g2:goodN z2) (n1:z1≠z0) (n2:z2≠z0) (k:Int):∃gn:Str,Dv [V.str z1,.str z2,.str "",.str "Aa",.str (z0++("abcdefghi":Str))] (k%5)=some (.str gn)∧gn≠z0∧M7 gn:=by
 rcases (show k%5=0∨k%5=1∨k%5=2∨k%5=3∨k%5=4 by omega) with e | e | e | e | e<;>rw[e]
 ·exact⟨z1,(As (j:=0) rfl:Dv _ ((0:Nat):Int)=_),n1,g1.ok⟩
 ·exact⟨z2,(As (j:=1) rfl:Dv _ ((1:Nat):Int)=_),n2,g2.ok⟩
 ·exact⟨"",(As (j:=2) rfl:Dv _ ((2:Nat):Int)=_),fun e=>by rw[←e] at g0;revert g0;decide,by decide,by decide⟩
 ·exact⟨"Aa",(As (j:=3) rfl:Dv _ ((3:Nat):Int)=_),fun e=>by rw[←e] at g0;revert g0;decide,by decide,by decide⟩
 ·have l9:("abcdefghi":Str).length=9:=rfl
  have l17:(z0++("abcdefghi":Str)).length=z0.length+9:=by rw[BZ,DR,List.length_append,←BZ,←BZ,l9]
  have h8:=g0.2.1
  refine⟨_,(As (j:=4) rfl:Dv _ ((4:Nat):Int)=_),fun e=>?_,by rw[l17];omega,fun d hd=>?_⟩
  ·have:(z0++("abcdefghi":Str)).length=z0.length:=congrArg (fun s:Str=>s.length) e
   omega
  ·have hd':d∈HU (z0++("abcdefghi":Str)):=hd
   rw[DR] at hd'
   rcases List.mem_append.mp hd' with h | h
   ·exact g0.lt d h
   ·have:∀d∈HU ("abcdefghi":Str),d<128:=by decide
    exact this d h
abbrev Ja:Stmt:=Bm 86
def LV (K:PySem.W.Frag):Sp:=fun vs H Q _=>∃(a:Addr) (ns:List Int),vs=[.ref a]∧SqL K H a (ns.map V.int)∧ns.length≤63∧∀H',Q (.bl true) H'
section
theorem scLaw:Al ["_law_script","_law_many","_law_sentence_here","_law_n","_law_odd","_law_names_here","_law_house","_law_gone","_law_over","_law_lines","_law_deed","_law_asked"] ["_law_script"] (Ad Ja):=Bn
theorem Uf {fN fM fS fA fR fH fT fI m1 m2 m3 m4 m5 m6 cH cK cS cW' cBN cNT cB cN cNK cO:Addr} {dN dM dS dA dR dH dT dI e1 e2 e3 e4 e5 e6:FuncData} (F:Fun K "law" "law" Ja f fd) (B:Bl mg) (T:Ht mg) (HX:EU K cH) (HMIN:mg "min"=none)
  (GN:FnOk P w K mg bz AU 1 fN dN ["_law_script","_law_k"] (Pf K)) (CN:AW K mg "_law_num" fN dN ["_law_script","_law_k"])
  (GM:FnOk P w K mg bz AU 1 fM dM ["_law_n"] SR) (CM:AW K mg "_law_few" fM dM ["_law_n"])
  (GS:FnOk P w K mg bz AU 1 fS dS ["_law_n","_law_most","_law_many"] Py) (CS:AW K mg "_law_sentence" fS dS ["_law_n","_law_most","_law_many"])
  (GA:FnOk P w K mg bz AU 2 fA dA ["_law_script"] (Kq K)) (CA:AW K mg "_law_names" fA dA ["_law_script"])
  (GR:FnOk P w K mg bz AU 11 fR dR ["_law_house","_law_deed","_law_name_here","_law_sentence_here"] (Ey cH cK)) (CR:AW K mg "_law_refusal" fR dR ["_law_house","_law_deed","_law_name_here","_law_sentence_here"])
  (GH:FnOk P w K mg bz AU 12 fH dH ["_law_house","_law_name_here","_law_over","_law_odd","_law_sentence_here"] (Kv cH cK)) (CH:AW K mg "_law_there" fH dH ["_law_house","_law_name_here","_law_over","_law_odd","_law_sentence_here"])
  (GT:FnOk P w K mg bz AU 2 fT dT ["_law_found","_law_due"] (J1 K)) (CT:AW K mg "_law_texts_are" fT dT ["_law_found","_law_due"])
  (GI:FnOk P w K mg bz (A4 P w) 5 fI dI ["self","many","standing"] (Mz cH cS cW')) (CI:SG K mg cH "House" fI dI ["self","many","standing"])
  (G1:FnOk P w K mg bz (A4 P w) 7 m1 e1 ["self","name","kind","sentence","rule"] (GQ cH cK cBN cNT cS cB cN)) (C1:AD K cH "begin" m1 e1 ["self","name","kind","sentence","rule"])
  (G2:FnOk P w K mg bz (A4 P w) 8 m2 e2 ["self","name","sentence"] (LB cH cK cNK cS cO)) (C2:AD K cH "say" m2 e2 ["self","name","sentence"])
  (G3:FnOk P w K mg bz (A4 P w) 3 m3 e3 ["self","name"] (IP cH cK cNK)) (C3:AD K cH "drop" m3 e3 ["self","name"])
  (G4:FnOk P w K mg bz (A4 P w) 4 m4 e4 ["self","name"] (LJ cH cK cNK cO)) (C4:AD K cH "end" m4 e4 ["self","name"])
  (G5:FnOk P w K mg bz AU 1 m5 e5 ["self"] (OJ cH)) (C5:AD K cH "log" m5 e5 ["self"])
  (G6:FnOk P w K mg bz AU 1 m6 e6 ["self"] (JV cH cK)) (C6:AD K cH "names" m6 e6 ["self"]):FnOk P w K mg bz AU 13 f fd ["_law_script"] (LV K):=by
 refine F.ok scLaw (fun vs H Q E h=>?_) (fun cdv A outer s H vs Q E hr h=>?_)
 ·obtain⟨a,ns,rfl,_⟩:=h
  rfl
 obtain⟨a,ns,rfl,hS,h63,q⟩:=h
 have hr1:Room 1 _:=hr.mono (by decide)
 have hr2:Room 2 _:=hr.mono (by decide)
 have hr3:Room 3 _:=hr.mono (by decide)
 have hr4:Room 4 _:=hr.mono (by decide)
 have hr6:Room 6 _:=hr.mono (by decide)
 have hr7:Room 7 _:=hr.mono (by decide)
 have hr8:Room 8 _:=hr.mono (by decide)
 have hr11:Room 11 _:=hr.mono (by decide)
 refine⟨_,Ae (Ax (i:=1) scLaw.nd rfl (Or.inl rfl) (AG (Oz rfl) (by rfl) HMIN boot_min (Ab Ao (Ab (An GM hr1 (by rfl) CM.m CM.k CM.b .nil Ay (Ab (An GN hr1 (by rfl) CN.m CN.k CN.b .nil Ay (Ab (pv 0) (Ab Ao Ac))) Ac)) Ac))))
  (Ae (Ax (i:=2) scLaw.nd rfl (Or.inl rfl) (An GS hr1 (by rfl) CS.m CS.k CS.b .nil Ay (Ab (An GN hr1 (by rfl) CN.m CN.k CN.b .nil Ay (Ab (pv 0) (Ab Ao Ac))) (Ab Ao (Ab (pv 1) Ac)))))
  (Ae (Ax (i:=3) scLaw.nd rfl (Or.inl rfl) (An GN hr1 (by rfl) CN.m CN.k CN.b .nil Ay (Ab (pv 0) (Ab Ao Ac))))
  (Ae (Ax (i:=4) scLaw.nd rfl (Or.inl rfl) (AL AI (AE (Ab (Bt (Ab Ah (Ab (pv 1) Ac))) (Ab (Bt (Ab Ah (Ab (Bt (Ab Ah (Ab Ao Ac))) Ac))) (Ab (Bt (Ab Ah (Ab (pv 2) (Ab (Bt (Ab Ah (Ab Ao Ac))) Ac)))) (Ab (Bt (Ab Ah (Ab (Bt (Ab Ah (Ab (pv 1) Ac))) (Ab (pv 2) Ac)))) Ac))))) (AK BI (pv 3) Ao) (fun _ _=>rfl)))
  (Ae (Ax (i:=5) scLaw.nd rfl (Or.inl rfl) (An GA hr2 (by rfl) CA.m CA.k CA.b .nil Ay (Ab (pv 0) Ac)))
  (Ae (Ax (i:=6) scLaw.nd rfl (Or.inl rfl) (Mm CI.make GI hr6 (by rfl) CI.m CI.b .nil E7 (Ab (pv 1) (Ab (AE Ac) Ac))))
  (Ae (AA (Az (pv 6) HX.cl C1.m G1 hr7 C1.b .nil E7 (Ab (AL AI (pv 5) Ao (fun _ _=>rfl)) (Ab Ah (Ab (Bt (Ab Ah (Ab (AK BI (AK Ci (pv 3) Ao) (pv 1)) Ac))) (Ab (AL AI (AE (Ab Ah (Ab Ah Ac))) (AK BI (AK Ci (pv 3) Ao) Ao) (fun _ _=>rfl)) Ac))))))
  (Ae (AA (Az (pv 6) HX.cl C1.m G1 hr7 C1.b .nil E7 (Ab (AL AI (pv 5) Ao (fun _ _=>rfl)) (Ab Ah (Ab (Bt (Ab Ah (Ab Ao Ac))) (Ab Ah Ac))))))
  (Ae (AA (Az (pv 6) HX.cl C2.m G2 hr8 C2.b .nil E7 (Ab (AL AI (pv 5) Ao (fun _ _=>rfl)) (Ab (pv 2) Ac))))
  (Ae (AA (Az (pv 6) HX.cl C3.m G3 hr3 C3.b .nil E7 (Ab (AL AI (pv 5) Ao (fun _ _=>rfl)) Ac)))
  (Ae (Ax (i:=7) scLaw.nd rfl (Or.inl rfl) (AL AI (AE (Ab (AL AI (pv 5) Ao (fun _ _=>rfl)) (Ab (AL AI (pv 5) Ao (fun _ _=>rfl)) (Ab Ah (Ab Ah (Ab (AK Ew (AL AI (pv 5) Ao (fun _ _=>rfl)) Ah) Ac)))))) (AK BI (AK Ci (pv 3) Ao) Ao) (fun _ _=>rfl)))
  (Ae (Bv PassesOwn.never rfl (Be (AE (Ab Ah (Ab Ah Ac)))) (AN (i:=8) scLaw.nd rfl (Or.inl rfl))
   (Ae (AC (Av En (pv 8) Ah (AB _))
    (Af (AA (Az (pv 6) HX.cl C4.m G4 hr4 C4.b .nil E7 (Ab (AL AI (pv 5) Ao (fun _ _=>rfl)) Ac))))
    Aw)
   (Ae (Ax (i:=9) scLaw.nd rfl (Or.inl rfl) (AY (pv 6) HX.cl C5.m G5 hr1 C5.b .nil Ay))
   (Ae (Bv PassesOwn.never rfl (Be (AE (Ab Ah (Ab Ah (Ab Ah (Ab Ah (Ab Ah (Ab Ah (Ab Ah (Ab Ah (Ab Ah (Ab Ah Ac)))))))))))) (AN (i:=10) scLaw.nd rfl (Or.inl rfl))
    (Af (Bv PassesOwn.never rfl (Be (AE (Ab (pv 4) (Ab (pv 2) Ac)))) (AN (i:=11) scLaw.nd rfl (Or.inl rfl))
     (Af (AC (Av En (An GR hr11 (by rfl) CR.m CR.k CR.b .nil Ay (Ab (pv 6) (Ab (pv 10) (Ab (pv 7) (Ab (pv 11) Ac))))) Ah (AB _))
      (Af (Am Cd))
      Aw)))))
   (Ae (Bv PassesOwn.never rfl (Be (AE (Ab Ah (Ab Ah (Ab Ah (Ab Ah Ac)))))) (AN (i:=10) scLaw.nd rfl (Or.inl rfl))
    (Ae (AC (Av En (An GR hr11 (by rfl) CR.m CR.k CR.b .nil Ay (Ab (pv 6) (Ab (pv 10) (Ab (pv 7) (Ab (pv 4) Ac))))) Ah (AB _))
     (Af (Am Cd))
     Aw)
    (Af (AC (Av En (An GR hr11 (by rfl) CR.m CR.k CR.b .nil Ay (Ab (pv 6) (Ab (pv 10) (Ab (AL AI (pv 5) Ao (fun _ _=>rfl)) (Ab (pv 4) Ac))))) Ah (AB _))
     (Af (Am Cd))
     Aw))))
   (Ae (AC (Ca (Bu (An GH hr (by rfl) CH.m CH.k CH.b .nil Ay (Ab (pv 6) (Ab (AL AI (pv 5) Ao (fun _ _=>rfl)) (Ab (pv 8) (Ab (pv 4) (Ab (pv 2) Ac))))))))
    (Af (Am Cd))
    Aw)
   (Ae (Bv PassesOwn.never rfl (Be (AE (Ab Ah (Ab Ah Ac)))) (AN (i:=10) scLaw.nd rfl (Or.inl rfl))
    (Af (AC (Av En (An GR hr11 (by rfl) CR.m CR.k CR.b .nil Ay (Ab (pv 6) (Ab (pv 10) (Ab (AL AI (pv 5) Ao (fun _ _=>rfl)) (Ab (pv 4) Ac))))) Ah (AB _))
     (Af (Am Cd))
     Aw)))
   (Af (AC (LU (Ca (Bu (An GT hr2 (by rfl) CT.m CT.k CT.b .nil Ay (Ab (AY (pv 6) HX.cl C5.m G5 hr1 C5.b .nil Ay) (Ab (pv 9) Ac))))) (Jr (Ca (Bu (An GT hr2 (by rfl) CT.m CT.k CT.b .nil Ay (Ab (AY (pv 6) HX.cl C6.m G6 hr1 C6.b .nil Ay) (Ab (JH Rt (pv 5) Mo (Mg Ao)) Ac))))))).pt
    (Af (Am Cd))
    Aw)))))))))
  (Af (Am Cd))))))))))))),?_⟩
 refine⟨_,rfl,a,ns,0,rfl,hS,h63,by decide,by decide,fun n0 H1 hn0 s1=>?_⟩
 refine⟨_,rfl,hn0,fun mm H2 hm1 hm5 s2=>?_⟩
 have t2:=s1.trans s2
 obtain⟨m,em,h1m,hm4⟩:∃m:Nat,(if ((mm:Nat):Int)<4 then ((mm:Nat):Int) else 4)=(m:Int)∧1≤m∧m≤4:=by
  by_cases c:mm<4
  ·exact⟨mm,by rw[if_pos (by omega)],hm1,by omega⟩
  ·exact⟨4,by rw[if_neg (by omega)];rfl,by decide,by decide⟩
 have hm5:m≤5:=by omega
 refine⟨4,_,rfl,?_⟩
 rw[em]
 refine⟨_,rfl,a,ns,1,rfl,t2.seq hS,h63,by decide,by decide,fun n1 H3 hn1 s3=>?_⟩
 refine⟨_,rfl,n1,8,m,rfl,hn1,by decide,by decide,h1m,hm5,fun v t H4 s4 hat hok hsz=>?_⟩
 have t4:=t2.trans (s3.trans s4)
 refine⟨_,rfl,a,ns,2,rfl,t4.seq hS,h63,by decide,by decide,fun n H5 hn s5=>?_⟩
 have t5:=t4.trans s5
 have hat5:=hat.keep (TS.same s5)
 refine⟨_,rfl,FV,fun q1 hq1=>?_⟩
 have s6:=Ag hq1 (.tup [.str "let",.int m])
 have e6:upd H5 q1 (.tup [.str "let",.int m]) q1=some (.tup [.str "let",.int m]):=upd_same
 generalize upd H5 q1 _=H6 at *
 refine⟨FV,fun q2 hq2=>?_⟩
 have s7:=Ag hq2 (.tup [.str "let",.int 4])
 have e7:upd H6 q2 (.tup [.str "let",.int 4]) q2=some (.tup [.str "let",.int 4]):=upd_same
 generalize upd H6 q2 _=H7 at *
 refine⟨FV,fun q3 hq3=>?_⟩
 have s8:=Ag hq3 (.tup [.str "not",.ref q2])
 have e8:upd H7 q3 (.tup [.str "not",.ref q2]) q3=some (.tup [.str "not",.ref q2]):=upd_same
 generalize upd H7 q3 _=H8 at *
 refine⟨_,rfl,FV,fun q4 hq4=>?_⟩
 have s9:=Ag hq4 (.tup [.str "let",.int 4])
 have e9:upd H8 q4 (.tup [.str "let",.int 4]) q4=some (.tup [.str "let",.int 4]):=upd_same
 generalize upd H8 q4 _=H9 at *
 refine⟨SZ,fun q5 hq5=>?_⟩
 have s10:=Ag hq5 (.tup [.str "and",v,.ref q4])
 have e10:upd H9 q5 (.tup [.str "and",v,.ref q4]) q5=some (.tup [.str "and",v,.ref q4]):=upd_same
 generalize upd H9 q5 _=H10 at *
 refine⟨_,rfl,FV,fun q6 hq6=>?_⟩
 have s11:=Ag hq6 (.tup [.str "let",.int m])
 have e11:upd H10 q6 (.tup [.str "let",.int m]) q6=some (.tup [.str "let",.int m]):=upd_same
 generalize upd H10 q6 _=H11 at *
 refine⟨_,rfl,SZ,fun q7 hq7=>?_⟩
 have s12:=Ag hq7 (.tup [.str "if",.ref q6,v])
 have e12:upd H11 q7 (.tup [.str "if",.ref q6,v]) q7=some (.tup [.str "if",.ref q6,v]):=upd_same
 generalize upd H11 q7 _=H12 at *
 refine⟨Vg,fun L hL=>?_⟩
 have s13:=Ag hL (.lst [.ref q1,.ref q3,.ref q5,.ref q7])
 have e13:upd H12 L (.lst [.ref q1,.ref q3,.ref q5,.ref q7]) L=some (.lst [.ref q1,.ref q3,.ref q5,.ref q7]):=upd_same
 generalize upd H12 L _=H13 at *
 have u9:=s9.trans (s10.trans (s11.trans (s12.trans s13)))
 have u6:Same H5 H13:=s6.trans (s7.trans (s8.trans u9))
 have t13:=t5.trans u6
 have hat13:=hat5.keep (TS.same u6)
 have ok5:t.ok 5:=Tr.ok.mono hm5 hok
 obtain⟨vo,to,ato,oat,ook,osz,ono⟩:∃(vo:V) (to:Tr),Dv [V.ref q1,.ref q3,.ref q5,.ref q7] (n%4)=some vo∧to.At H13 vo∧to.ok 5∧to.size≤23∧¬to.ok m:=by
  have e0:=Int.emod_nonneg n (show (4:Int)≠0 by decide)
  have e1:=Int.emod_lt_of_pos n (show (0:Int)<4 by decide)
  rcases (show n%4=0∨n%4=1∨n%4=2∨n%4=3 by omega) with e | e | e | e<;>rw[e]
  ·exact⟨.ref q1,.lt m,(As (j:=0) rfl:Dv _ ((0:Nat):Int)=_),⟨q1,rfl,(s7.trans (s8.trans u9)) _ _ e6⟩,by show m<5;omega,by show 1≤23;decide,fun z=>Nat.lt_irrefl m z⟩
  ·exact⟨.ref q3,.nt (.lt 4),(As (j:=1) rfl:Dv _ ((1:Nat):Int)=_),⟨q3,_,rfl,u9 _ _ e8,q2,rfl,(s8.trans u9) _ _ e7⟩,by show 4<5;decide,by show 2≤23;decide,fun z=>by have z:4<m:=z;omega⟩
  ·exact⟨.ref q5,.bn 0 t (.lt 4),(As (j:=2) rfl:Dv _ ((2:Nat):Int)=_),⟨q5,_,_,rfl,(s11.trans (s12.trans s13)) _ _ e10,hat13,q4,rfl,(s10.trans (s11.trans (s12.trans s13))) _ _ e9⟩,⟨by decide,ok5,by show 4<5;decide⟩,by show t.size+1+1≤23;omega,fun z=>by have z:4<m:=z.2.2;omega⟩
  ·exact⟨.ref q7,.bn 2 (.lt m) t,(As (j:=3) rfl:Dv _ ((3:Nat):Int)=_),⟨q7,_,_,rfl,s13 _ _ e12,⟨q6,rfl,(s12.trans s13) _ _ e11⟩,hat13⟩,⟨by decide,by show m<5;omega,ok5⟩,by show 1+t.size+1≤23;omega,fun z=>Nat.lt_irrefl m z.2.1⟩
 refine⟨_,rfl,_,_,rfl,rfl,(by show (0:Int)<4;decide),L,_,_,_,rfl,rfl,SqL.of e13,ato,?_⟩
 refine⟨_,rfl,a,ns,rfl,t13.seq hS,h63,fun nl zs H14 s14 nl0 hnl lz nd hgz=>?_⟩
 obtain⟨z0,z1,z2,rfl⟩:∃z0 z1 z2,zs=[z0,z1,z2]:=by
  match zs,lz with
  | [z0,z1,z2],_=>exact⟨z0,z1,z2,rfl⟩
 have g0:=hgz z0 (by simp)
 have g1:=hgz z1 (by simp)
 have g2:=hgz z2 (by simp)
 have n01:z1≠z0:=fun e=>by rw[e] at nd;simp at nd
 have n02:z2≠z0:=fun e=>by rw[e] at nd;simp at nd
 refine⟨_,rfl,Of,fun st hst=>?_⟩
 have s15:=Ag hst (.lst [])
 have e15:upd H14 st (.lst []) st=some (.lst []):=upd_same
 generalize upd H14 st _=H15 at *
 have t15:=t13.trans (s14.trans s15)
 intro x dx hx hdx nex
 have sM:Same H15 (upd (upd H15 dx (.own x)) x (.ins cH dx [])):=(Ag hdx _).trans (Ag (by rw[Aq nex.symm];exact hx) _)
 refine⟨x,dx,st,m,[],[],rfl,upd_same,sM _ _ e15,.nil,(fun t ht=>nomatch ht),(by show 0≤100;decide),h1m,hm5,(fun⟨t,ht,_⟩=>nomatch ht),(fun _ he=>absurd he (MT m)),fun _ _ U H16 b16 sp0 mk0 tk0 ln0 hx3 hsp3 hmk3 htk3 hln3=>⟨rfl,?_⟩⟩
 have s16:Same H15 H16:=CK hx hdx nex b16
 obtain⟨sp2,nspx,_⟩:=B7 (C:=cH) sp0
 obtain⟨mk2,nmkx,_⟩:=B7 (C:=cH) mk0
 obtain⟨tk2,_,_⟩:=B7 (C:=cH) tk0
 obtain⟨ln2,_,_⟩:=B7 (C:=cH) ln0
 obtain⟨M,S,hT,c16,g9⟩:∃(M:List Addr) (S:HSt),HouseT M cH cK H16 S∧Same H15 (Bb M H16)∧G9 S x m [] false 1:=by
  obtain⟨h1,h2,_⟩:=Nk (cK:=cK) (ts:=[]) s16 hx tk2 ln2 nspx nmkx h1m hm5 (MT m) hx3 hsp3 hmk3 htk3 hln3
  exact⟨_,_,h1,h2,rfl,rfl,rfl,rfl,(fun p hp=>nomatch hp),⟨[Gv m []],rfl,Nat.le_refl _⟩,Nat.zero_le _⟩
 have hS16:Same H (Bb M H16):=t15.trans c16
 have nl16:Bb M H16 nl=some (.lst ([z0,z1,z2].map V.str)):=c16 _ _ (s15 _ _ hnl)
 have at16:t.At (Bb M H16) v:=(hat13.keep (TS.same (s14.trans s15))).keep (TS.same c16)
 have ao16:to.At (Bb M H16) vo:=(oat.keep (TS.same (s14.trans s15))).keep (TS.same c16)
 clear hx3 hsp3 hmk3 htk3 hln3 b16 sp0 mk0 tk0 ln0 sp2 nspx mk2 nmkx tk2 ln2 sM c16
 have obx:=hT.h.ob
 rw[g9.fx] at obx
 obtain⟨j,hj⟩:=Int.eq_ofNat_of_zero_le (Int.emod_nonneg (n / 4) (show (m:Int)≠0 by omega))
 have hjm:j<m:=by
  have:=Int.emod_lt_of_pos (n / 4) (show (0:Int)<m by omega)
  omega
 refine⟨_,rfl,x,_,_,rfl,obx,Gi,_,rfl,nl,_,_,_,rfl,rfl,SqL.of (AJ _ _ nl16),As (j:=0) rfl,_,rfl,_,_,rfl,rfl,⟨by decide,by decide⟩,_,rfl,_,_,rfl,rfl,(by show (0:Int)<m;omega),FV,fun k1 hk1=>?_⟩
 dsimp only
 rw[hj]
 have s17:=Ag hk1 (.tup [.str "let",.int j])
 have e17:upd H16 k1 (.tup [.str "let",.int j]) k1=some (.tup [.str "let",.int j]):=upd_same
 generalize upd H16 k1 _=H17 at *
 refine⟨FV,fun L2 hL2=>?_⟩
 have s18:=Ag hL2 (.lst [.str "elder",.str "newer"])
 have e18:upd H17 L2 (.lst [.str "elder",.str "newer"]) L2=some (.lst [.str "elder",.str "newer"]):=upd_same
 generalize upd H17 L2 _=H18 at *
 obtain⟨rl,hrl,irl,lrl⟩:=U1 (n / 20)
 have hT18:=hT.keep (s17.trans s18)
 have kc:(Tr.lt j).At (Bb M H18) (.ref k1):=⟨k1,rfl,I0 hT.fr hk1 (s18 _ _ e17)⟩
 refine⟨_,rfl,_,_,rfl,rfl,⟨by decide,by decide⟩,_,_,rfl,rfl,(by show (0:Int)<2;decide),L2,_,_,_,rfl,rfl,SqL.of e18,hrl,M,S,z0,"true",rl,.ref k1,.lt j,by rw[g9.fx];rfl,hT18,Nat.le_trans g0.2.1 (by decide),g0.lt,kc,(by show j<5;omega),(by show 1≤23;decide),by decide,lrl,(g9.ok hT (by decide)).ls,(g9.ok hT (by decide)).ts,(fun c=>absurd g0 c),(fun _ c=>by rw[g9.fn] at c;cases c),(fun _ _ c=>absurd (by rw[g9.fm];exact hjm) c),(fun _ _ _ c=>absurd ⟨irl,.inl rfl⟩ c),(fun _ _ _ _ _ c=>absurd c (by rw[g9.fr];exact HI hjm hm5)),fun _ _ _ _ _ _ a1 u1 H19 b19 a10 g10 l10 hT19=>?_⟩
 obtain⟨M1,S1,hT1,c1,g1'⟩:∃(M1:List Addr) (S1:HSt),HouseT M1 cH cK H19 S1∧Same (Bb M H16) (Bb M1 H19)∧G9 S1 x m [z0] false 2:=⟨_,_,hT19,(Au (s17.trans s18)).trans (Fy (N:=[a1,u1.gv,u1.lf]) b19 hT.mt hT.h.ml (Q4 a10 g10 l10)),g9.begin⟩
 clear hT19 b19 a10 g10 l10 hT18 kc
 have ob1:=hT1.h.ob
 rw[g1'.fx] at ob1
 have nl19:=c1 _ _ nl16
 refine⟨_,rfl,x,_,_,rfl,ob1,Gi,_,rfl,nl,_,_,_,rfl,rfl,SqL.of (AJ _ _ nl19),As (j:=1) rfl,FV,fun k2 hk2=>?_⟩
 have s20:=Ag hk2 (.tup [.str "let",.int 0])
 have e20:upd H19 k2 (.tup [.str "let",.int 0]) k2=some (.tup [.str "let",.int 0]):=upd_same
 generalize upd H19 k2 _=H20 at *
 have hT20:=hT1.keep s20
 have kc2:(Tr.lt 0).At (Bb M1 H20) (.ref k2):=⟨k2,rfl,I0 hT1.fr hk2 e20⟩
 refine⟨M1,S1,z1,"doubt","newer",.ref k2,.lt 0,by rw[g1'.fx];rfl,hT20,Nat.le_trans g1.2.1 (by decide),g1.lt,kc2,(by show 0<5;decide),(by show 1≤23;decide),by decide,by decide,(g1'.ok hT1 (by decide)).ls,(g1'.ok hT1 (by decide)).ts,(fun c=>absurd g1 c),(fun _ c=>by rw[g1'.fn] at c;exact absurd (List.mem_singleton.mp c) n01),(fun _ _ c=>absurd (by rw[g1'.fm];exact h1m) c),(fun _ _ _ c=>absurd ⟨.inr rfl,.inr (.inr rfl)⟩ c),(fun _ _ _ _ _ c=>absurd c (by rw[g1'.fr];exact HI h1m hm5)),fun _ _ _ _ _ _ a2 u2 H21 b21 a20 g20 l20 hT21=>?_⟩
 obtain⟨M2,S2,hT2,c2,g2'⟩:∃(M2:List Addr) (S2:HSt),HouseT M2 cH cK H21 S2∧Same (Bb M1 H19) (Bb M2 H21)∧G9 S2 x m [z0,z1] false 3:=⟨_,_,hT21,(Au s20).trans (Fy (N:=[a2,u2.gv,u2.lf]) b21 hT1.mt hT1.h.ml (Q4 a20 g20 l20)),g1'.begin⟩
 clear hT21 b21 a20 g20 l20 hT20 kc2
 have c02:=c1.trans c2
 have ob2:=hT2.h.ob
 rw[g2'.fx] at ob2
 have nl21:=c02 _ _ nl16
 have z0in:z0∈Bp S2.ts:=by rw[g2'.fn];simp
 refine⟨_,rfl,x,_,_,rfl,ob2,IS,_,rfl,nl,_,_,_,rfl,rfl,SqL.of (AJ _ _ nl21),As (j:=0) rfl,_,rfl,M2,S2,z0,v,t,by rw[g2'.fx];rfl,hT2,Nat.le_trans g0.2.1 (by decide),at16.keep (TS.same c02),ok5,by omega,(g2'.ok hT2 (by decide)).ls,(g2'.ok hT2 (by decide)).en,(fun c=>absurd z0in c),(fun p hp ep c=>by rw[(g2'.fp p hp).1] at c;cases c),(fun p hp ep _ c=>absurd (by rw[g2'.fm];exact hok) c),fun p hp ep _ _ u3 H22 b22 hne eg el hT22=>?_⟩
 obtain⟨S3,hT3,c3,g3'⟩:∃(S3:HSt),HouseT M2 cH cK H22 S3∧Same (Bb M2 H21) (Bb M2 H22)∧G9 S3 x m [z0,z1] false 4:=by
  obtain⟨h1,h2,h3⟩:=g2'.fp p hp
  refine⟨_,hT22,HV hT2 hp b22,g2'.alt ⟨h1,?_,?_⟩ (.inl rfl)⟩
  ·show (p.w.ents++[_]).length≤_
   rw[List.length_append];exact Nat.succ_le_succ h2
  ·show (p.w.lefts++[_]).length=(p.w.ents++[_]).length+1
   rw[List.length_append,List.length_append,h3];rfl
 clear hT22 b22 hne eg el
 have c03:=c02.trans c3
 have ob3:=hT3.h.ob
 rw[g3'.fx] at ob3
 have nl22:=c03 _ _ nl16
 have z1in:z1∈Bp S3.ts:=by rw[g3'.fn];simp
 refine⟨_,rfl,x,_,_,rfl,ob3,Mj,_,rfl,nl,_,_,_,rfl,rfl,SqL.of (AJ _ _ nl22),As (j:=1) rfl,M2,S3,z1,by rw[g3'.fx];rfl,hT3,Nat.le_trans g1.2.1 (by decide),(g3'.ok hT3 (by decide)).ls,(fun c=>absurd z1in c),fun _ H23 b23 hT23=>?_⟩
 obtain⟨S4,hT4,c4,g4'⟩:∃(S4:HSt),HouseT M2 cH cK H23 S4∧Same (Bb M2 H22) (Bb M2 H23)∧G9 S4 x m [z0] false 5:=by
  have g:=g3'.drop (z:=z1)
  have e:([z0,z1].filter fun y=>decide (y≠z1))=[z0]:=by simp[Ne.symm n01]
  rw[e] at g
  exact⟨_,hT23,O7 b23 hT3.mt hT3.h.ml,g⟩
 clear hT23 b23
 have c04:=c03.trans c4
 have nl23:=c04 _ _ nl16
 have nl23':=AJ _ _ nl23
 obtain⟨gn,hgn,gne,gok⟩:=Vz g0 g1 g2 n01 n02 (n / 40)
 refine⟨_,rfl,nl,_,_,_,rfl,rfl,SqL.of nl23',As (j:=1) rfl,_,rfl,nl,_,_,_,rfl,rfl,SqL.of nl23',As (j:=2) rfl,_,rfl,nl,_,_,_,rfl,rfl,SqL.of nl23',As (j:=0) rfl,_,_,rfl,rfl,(by show z0.length+9≤sizeLine;exact Nat.le_trans (show z0.length+9≤17 by have:=g0.2.1;omega) (by decide)),VQ,fun L3 hL3=>?_⟩
 have s24:=Ag hL3 (.lst [.str z1,.str z2,.str "",.str "Aa",.str (z0++("abcdefghi":Str))])
 have e24:upd H23 L3 (.lst [.str z1,.str z2,.str "",.str "Aa",.str (z0++("abcdefghi":Str))]) L3=some (.lst [.str z1,.str z2,.str "",.str "Aa",.str (z0++("abcdefghi":Str))]):=upd_same
 generalize upd H23 L3 _=H24 at *
 refine⟨_,rfl,_,_,rfl,rfl,⟨by decide,by decide⟩,_,_,rfl,rfl,(by show (0:Int)<5;decide),L3,_,_,_,rfl,rfl,SqL.of e24,hgn,?_⟩
 refine⟨FV,fun L4 hL4=>?_⟩
 have eL4:[V.str "",.str "over"]=(["","over"]:List Str).map V.str:=rfl
 rw[eL4]
 have s25:=Ag hL4 (.lst ((["","over"]:List Str).map V.str))
 have e25:upd H24 L4 (.lst ((["","over"]:List Str).map V.str)) L4=some (.lst ((["","over"]:List Str).map V.str)):=upd_same
 generalize upd H24 L4 _=H25 at *
 have s2325:=s24.trans s25
 have hT25:=hT4.keep s2325
 have L25:Bb M2 H25 L4=some (.lst ((["","over"]:List Str).map V.str)):=I0 (hT4.keep s24).fr hL4 e25
 have c25:Same (Bb M H16) (Bb M2 H25):=c04.trans (Au s2325)
 refine⟨L4,rfl,⟨_,SqL.of e25⟩,A7 (K:=K) (a:=L4) (xs:=(["","over"]:List Str).map V.str) (fun i σ Hi=>∃(v8 v9 v10 v11:Option V) (S':HSt),σ=[some (.ref a),some (.int (m:Int)),some v,some (.int n),some vo,some (.ref nl),some (.ref x),some (.str gn),v8,v9,v10,v11]∧HouseT M2 cH cK Hi S'∧Same (Bb M2 H25) (Bb M2 Hi)∧G9 S' x m [z0] (decide (2≤i)) (5+i)) ⟨_,_,_,_,S4,rfl,hT25,Same.refl _,g4'⟩ ?_ ?_ ?_⟩
 ·rintro i σ Hi _ ⟨v8,v9,v10,v11,S',rfl,_,ci,_⟩
  exact SqL.of (AJ _ _ (ci _ _ L25))
 rotate_left
 ·rintro σ Hi _
  exact q _
 rintro i y σ Hi hy ⟨v8,v9,v10,v11,S',rfl,hTi,ci,gi⟩
 rw[List.getElem?_map] at hy
 obtain⟨ov,hov,rfl⟩:=Option.map_eq_some_iff.mp hy
 have hi2:i<2:=(List.getElem?_eq_some_iff.mp hov).1
 have oi:(ov=""∧i=0)∨(ov="over"∧i=1):=by
  match i,hi2 with
  | 0,_=>exact .inl ⟨(Option.some.inj hov).symm,rfl⟩
  | 1,_=>exact .inr ⟨(Option.some.inj hov).symm,rfl⟩
 have gi:G9 S' x m [z0] false (5+i):=by
  have e:decide (2≤i)=false:=decide_eq_false (by omega)
  rw[e] at gi
  exact gi
 refine PY rfl ?_
 refine RS (fun σ H'=>∃(S2:HSt),σ=[some (.ref a),some (.int (m:Int)),some v,some (.int n),some vo,some (.ref nl),some (.ref x),some (.str gn),some (.str ov),v9,v10,v11]∧HouseT M2 cH cK H' S2∧Same (Bb M2 H25) (Bb M2 H')∧G9 S2 x m [z0] (decide (ov="over")) (6+i)) ?_ (fun next=>?_)
 rotate_left
 ·rcases oi with⟨rfl,rfl⟩|⟨rfl,rfl⟩
  ·exact⟨_,rfl,rfl,_,rfl,Bd (next _ _ ⟨S',rfl,hTi,ci,gi.mono (by decide)⟩)⟩
  ·refine⟨_,rfl,rfl,_,rfl,Bo ?_⟩
   have obi:=hTi.h.ob
   rw[gi.fx] at obi
   have z0i:z0∈Bp S'.ts:=by rw[gi.fn];simp
   refine⟨_,rfl,x,_,_,rfl,obi,LF,_,rfl,nl,_,_,_,rfl,rfl,SqL.of (AJ _ _ ((c25.trans ci) _ _ nl16)),As (j:=0) rfl,M2,S',z0,by rw[gi.fx];rfl,hTi,Nat.le_trans g0.2.1 (by decide),(gi.ok hTi (by decide)).ls,(fun c=>absurd z0i c),(fun p hp ep c=>by rw[(gi.fp p hp).1] at c;cases c),fun p hp ep _ H' b' hne' hT'=>?_⟩
   obtain⟨h1,h2,h3⟩:=gi.fp p hp
   refine next _ _ ⟨_,rfl,hT',ci.trans (HV hTi hp b'),gi.alt ⟨rfl,Nat.le_succ_of_le h2,h3⟩ (.inr fun q' hq'=>?_)⟩
   have hq2:q'.nm∈Bp S'.ts:=List.mem_map_of_mem hq'
   rw[gi.fn] at hq2
   exact List.mem_singleton.mp hq2
 rintro σ H26 ⟨S5,rfl,hT5,c26,g5⟩
 have hO5:∀{H':Hp},Same H26 H'→HOk M2 cH cK H' S5:=fun s'=>(g5.ok hT5 (by omega)).keep s'
 have ob5:∀{H':Hp},Same H26 H'→H' x=some (.ins cH S5.U.dx (Dx S5.U S5.m)):=fun s'=>by
  have h:=(hT5.keep s').h.ob
  rw[g5.fx] at h
  exact h
 have cc:Same (Bb M H16) (Bb M2 H26):=c25.trans c26
 have at5:∀{H':Hp},Same H26 H'→t.At (Bb M2 H') v:=fun s'=>(at16.keep (TS.same cc)).keep (TS.same (Au s'))
 have ao5:∀{H':Hp},Same H26 H'→to.At (Bb M2 H') vo:=fun s'=>(ao16.keep (TS.same cc)).keep (TS.same (Au s'))
 have nl5:∀{H':Hp},Same H26 H'→H' nl=some (.lst ([z0,z1,z2].map V.str)):=fun s'=>s' _ _ (AJ _ _ (cc _ _ nl16))
 have gnn:gn∉Bp S5.ts:=by rw[g5.fn];exact fun z=>gne (List.mem_singleton.mp z)
 have z0n:z0∈Bp S5.ts:=by rw[g5.fn];simp
 have z2n:z2∉Bp S5.ts:=by rw[g5.fn];exact fun z=>n02 (List.mem_singleton.mp z)
 have ono5:¬to.ok S5.m:=by rw[g5.fm];exact ono
 have hov5:(ov=""∧FG S5 z0 false)∨(ov="over"∧FG S5 z0 true):=by
  have h:=g5.over z0
  rcases oi with⟨rfl,_⟩|⟨rfl,_⟩
  ·exact .inl ⟨rfl,h⟩
  ·exact .inr ⟨rfl,h⟩
 obtain⟨lz,elz,hlz⟩:=g5.fl
 have szt:t.size≤23:=by omega
 refine⟨_,rfl,x,_,_,rfl,ob5 (Same.refl _),Qk,S5.x,M2,S5.U,S5.m,S5.room,S5.marks,S5.ls,by rw[g5.fx];rfl,hT5.h,fun lg H27 s27 lg0 hlg=>?_⟩
 rw[elz] at hlg
 refine⟨Ws,fun L5 hL5=>?_⟩
 have eL5:[V.str "say",.str "ask",.str "why",.str "bring",.str "fork",.str "back",.str "end",.str "drop",.str "catch",.str "clash"]=tenD.map V.str:=rfl
 rw[eL5]
 have s28:=Ag hL5 (.lst (tenD.map V.str))
 have e28:upd H27 L5 (.lst (tenD.map V.str)) L5=some (.lst (tenD.map V.str)):=upd_same
 generalize upd H27 L5 _=H28 at *
 have u28:=s27.trans s28
 refine⟨L5,rfl,⟨_,SqL.of e28⟩,A7 (K:=K) (a:=L5) (xs:=tenD.map V.str) (fun i σ Hi=>∃(v10 v11:Option V),σ=[some (.ref a),some (.int (m:Int)),some v,some (.int n),some vo,some (.ref nl),some (.ref x),some (.str gn),some (.str ov),some (.ref lg),v10,v11]∧Same H28 Hi) ⟨_,_,rfl,Same.refl _⟩ ?_ ?_ ?_⟩
 ·rintro i σ Hi _ ⟨v10,v11,rfl,si⟩
  exact SqL.of (si _ _ e28)
 ·rintro i y σ Hi hy ⟨v10,v11,rfl,si⟩
  rw[List.getElem?_map] at hy
  obtain⟨d,hd,rfl⟩:=Option.map_eq_some_iff.mp hy
  have hd:=List.mem_of_getElem? hd
  refine⟨_,rfl,_,rfl,FV,fun L6 hL6=>?_⟩
  have s29:=Ag hL6 (.lst [vo,v])
  have e29:upd Hi L6 (.lst [vo,v]) L6=some (.lst [vo,v]):=upd_same
  generalize upd Hi L6 _=H29 at *
  have u29:=u28.trans (si.trans s29)
  refine⟨L6,rfl,⟨_,SqL.of e29⟩,A7 (K:=K) (a:=L6) (xs:=[vo,v]) (fun i σ Hj=>∃(v11:Option V),σ=[some (.ref a),some (.int (m:Int)),some v,some (.int n),some vo,some (.ref nl),some (.ref x),some (.str gn),some (.str ov),some (.ref lg),some (.str d),v11]∧Same H29 Hj) ⟨_,rfl,Same.refl _⟩ ?_ ?_ ?_⟩
  ·rintro i σ Hj _ ⟨v11,rfl,sj⟩
   exact SqL.of (sj _ _ e29)
  ·rintro i y σ Hj hy ⟨v11,rfl,sj⟩
   have hy:=List.mem_of_getElem? hy
   simp only[List.mem_cons,List.not_mem_nil,or_false] at hy
   have uj:=u29.trans sj
   rcases hy with rfl | rfl
   ·refine⟨_,rfl,_,rfl,_,rfl,_,rfl,M2,S5,d,gn,y,to,by rw[g5.fx];rfl,hO5 uj,gok,ao5 uj,ook,osz,.inl ⟨0,Mf hd gnn,fun H' s'=>?_⟩⟩
    exact⟨rfl,_,rfl,Cy rfl ⟨_,rfl,sj.trans s'⟩⟩
   ·refine⟨_,rfl,_,rfl,_,rfl,_,rfl,M2,S5,d,gn,y,t,by rw[g5.fx];rfl,hO5 uj,gok,at5 uj,ok5,szt,.inl ⟨0,Mf hd gnn,fun H' s'=>?_⟩⟩
    exact⟨rfl,_,rfl,Cy rfl ⟨_,rfl,sj.trans s'⟩⟩
  rintro σ Hj ⟨v11,rfl,sj⟩
  exact⟨_,_,rfl,si.trans (s29.trans sj)⟩
 rintro σ H30 ⟨v10,v11,rfl,s30⟩
 have u30:=u28.trans s30
 refine⟨Vg,fun L7 hL7=>?_⟩
 have eL7:[V.str "entries",.str "held",.str "caught",.str "over"]=looks.map V.str:=rfl
 rw[eL7]
 have s31:=Ag hL7 (.lst (looks.map V.str))
 have e31:upd H30 L7 (.lst (looks.map V.str)) L7=some (.lst (looks.map V.str)):=upd_same
 generalize upd H30 L7 _=H31 at *
 have u31:=u30.trans s31
 refine⟨L7,rfl,⟨_,SqL.of e31⟩,A7 (K:=K) (a:=L7) (xs:=looks.map V.str) (fun i σ Hi=>∃(v10 v11:Option V),σ=[some (.ref a),some (.int (m:Int)),some v,some (.int n),some vo,some (.ref nl),some (.ref x),some (.str gn),some (.str ov),some (.ref lg),v10,v11]∧Same H31 Hi) ⟨_,_,rfl,Same.refl _⟩ ?_ ?_ ?_⟩
 ·rintro i σ Hi _ ⟨v10,v11,rfl,si⟩
  exact SqL.of (si _ _ e31)
 ·rintro i y σ Hi hy ⟨v10,v11,rfl,si⟩
  rw[List.getElem?_map] at hy
  obtain⟨d,hd,rfl⟩:=Option.map_eq_some_iff.mp hy
  have hd:=List.mem_of_getElem? hd
  have ui:=u31.trans si
  refine⟨_,rfl,_,rfl,_,rfl,_,rfl,M2,S5,d,gn,vo,to,by rw[g5.fx];rfl,hO5 ui,gok,ao5 ui,ook,osz,.inl ⟨0,QL hd gnn,fun H' s'=>?_⟩⟩
  refine⟨rfl,_,rfl,Cy rfl ?_⟩
  refine⟨_,rfl,_,rfl,_,rfl,nl,_,_,_,rfl,rfl,SqL.of (nl5 (ui.trans s')),As (j:=0) rfl,_,rfl,M2,S5,d,z0,vo,to,by rw[g5.fx];rfl,hO5 (ui.trans s'),g0.ok,ao5 (ui.trans s'),ook,osz,.inr ⟨z0n,hd,fun H2 s2=>?_⟩⟩
  exact⟨rfl,_,rfl,Cy rfl ⟨_,_,rfl,si.trans (s'.trans s2)⟩⟩
 rintro σ H32 ⟨v10,v11,rfl,s32⟩
 have u32:=u31.trans s32
 refine⟨_,rfl,_,rfl,nl,_,_,_,rfl,rfl,SqL.of (nl5 u32),As (j:=0) rfl,_,rfl,_,rfl,_,rfl,M2,S5,z0,ov,vo,v,to,t,by rw[g5.fx];rfl,hO5 u32,g0.ok,z0n,hov5,ao5 u32,ook,osz,ono5,at5 u32,ok5,szt,fun H33 s33=>⟨_,rfl,Bd ?_⟩⟩
 have u33:=u32.trans s33
 refine⟨FV,fun L8 hL8=>?_⟩
 have eL8:[V.str "plainly",.str "begin"]=(["plainly","begin"]:List Str).map V.str:=rfl
 rw[eL8]
 have s34:=Ag hL8 (.lst ((["plainly","begin"]:List Str).map V.str))
 have e34:upd H33 L8 (.lst ((["plainly","begin"]:List Str).map V.str)) L8=some (.lst ((["plainly","begin"]:List Str).map V.str)):=upd_same
 generalize upd H33 L8 _=H34 at *
 have u34:=u33.trans s34
 refine⟨L8,rfl,⟨_,SqL.of e34⟩,A7 (K:=K) (a:=L8) (xs:=(["plainly","begin"]:List Str).map V.str) (fun i σ Hi=>∃(v10 v11:Option V),σ=[some (.ref a),some (.int (m:Int)),some v,some (.int n),some vo,some (.ref nl),some (.ref x),some (.str gn),some (.str ov),some (.ref lg),v10,v11]∧Same H34 Hi) ⟨_,_,rfl,Same.refl _⟩ ?_ ?_ ?_⟩
 ·rintro i σ Hi _ ⟨v10,v11,rfl,si⟩
  exact SqL.of (si _ _ e34)
 ·rintro i y σ Hi hy ⟨v10,v11,rfl,si⟩
  rw[List.getElem?_map] at hy
  obtain⟨d,hd,rfl⟩:=Option.map_eq_some_iff.mp hy
  have hd:=List.mem_of_getElem? hd
  have ui:=u34.trans si
  have hrf:RefD S5 d z2 to 1:=by
   simp only[List.mem_cons,List.not_mem_nil,or_false] at hd
   rcases hd with rfl | rfl
   ·exact .inr (.inr (.inr (.inr (.inl ⟨rfl,ono5,rfl⟩))))
   ·exact .inr (.inr (.inr (.inr (.inr (.inl ⟨rfl,g2,z2n,ono5,rfl⟩)))))
  refine⟨_,rfl,_,rfl,_,rfl,nl,_,_,_,rfl,rfl,SqL.of (nl5 ui),As (j:=2) rfl,_,rfl,M2,S5,d,z2,vo,to,by rw[g5.fx];rfl,hO5 ui,g2.ok,ao5 ui,ook,osz,.inl ⟨1,hrf,fun H' s'=>?_⟩⟩
  exact⟨rfl,_,rfl,Cy rfl ⟨_,_,rfl,si.trans s'⟩⟩
 rintro σ H35 ⟨v10,v11,rfl,s35⟩
 have u35:=u34.trans s35
 refine⟨_,rfl,x,_,_,rfl,ob5 u35,Qk,S5.x,M2,S5.U,S5.m,S5.room,S5.marks,S5.ls,by rw[g5.fx];rfl,(hT5.keep u35).h,fun lg2 H36 s36 lg20 hlg2=>?_⟩
 rw[elz] at hlg2
 have u2736:Same H27 H36:=s28.trans (s30.trans (s31.trans (s32.trans (s33.trans (s34.trans (s35.trans s36))))))
 have u36:=u35.trans s36
 refine⟨_,rfl,lg2,lg,lz,rfl,hlg2,SqL.of (u2736 _ _ hlg),by omega,_,rfl,Bd ?_⟩
 refine⟨_,rfl,x,_,_,rfl,ob5 u36,QX,M2,S5,by rw[g5.fx];rfl,hT5.keep u36,fun l3 H37 s37 l30 hl3=>?_⟩
 rw[g5.fn] at hl3
 refine⟨_,rfl,_,rfl,nl,_,rfl,SqL.of (nl5 (u36.trans s37)),fun sl hsl=>?_⟩
 have s38:=Ag hsl (.lst (([z0]:List Str).map V.str))
 have e38:upd H37 sl (.lst (([z0]:List Str).map V.str)) sl=some (.lst (([z0]:List Str).map V.str)):=upd_same
 have esl:Go ([z0,z1,z2].map V.str) none (some 1)=([z0]:List Str).map V.str:=rfl
 rw[esl]
 generalize upd H37 sl _=H38 at *
 refine⟨l3,sl,[z0],rfl,s38 _ _ hl3,SqL.of e38,by show 1≤900;decide,_,rfl,Bd ?_⟩
 have u38:Same H26 H38:=u36.trans (s37.trans s38)
 refine⟨_,_,_,_,S5,rfl,hT5.keep u38,c26.trans (Au u38),?_⟩
 have eb:decide (2≤i+1)=decide (ov="over"):=by
  rcases oi with⟨rfl,rfl⟩|⟨rfl,rfl⟩<;>decide
 rw[eb]
 exact g5.mono (by omega)
end
theorem all_mk {l:PySem.W.OpenLaw} {w:World} {K:PySem.W.Frag} {h:Heap} {mg:Str→Option Value} {fa f1 f2 f3 f4 f5 f6 f7 f8 f9 f10 f11 f12 f13 f14 f15 f16 f17 f18 f19 f20 f21 f22 f23 f24 f25 f26 f27 f28 f29 f30 f31 f32 f33 f34 f35 f36 f37 f38 f39 f40 f41 f42 f43 f44 f45 f46 f47 f48 f49 f50 f51 f52 f53 f54 f55 f56 f57 f58 f59 f60 f61 f62 f63 f64 f65 f66 f67 f68 f69 f70 f71 f72 f73 f74 f75 f76 f77 f78 f79:Addr} (X:K.In h) (G:h.Ns mainGlobals mg) (hfa:mg "law"=some (.ref fa))
  {od1 an1 od2 an2 od3 an3 od4 an4 od5 an5 od6 an6 od7 an7 od8 an8 od9 an9 od10 an10 od11 an11 od12 an12 od13 an13 od14 an14 od15 an15 od16 an16 od17 an17 od18 an18 od19 an19 od20 an20 od21 an21 od22 an22 od23 an23 od24 an24 od25 an25 od26 an26 od27 an27 od28 an28 od29 an29 od30 an30 od31 an31 od32 an32 od33 an33 od34 an34 od35 an35 od36 an36 od37 an37 od38 an38 od39 an39 od40 an40 od41 an41 od42 an42 od43 an43 od44 an44 od45 an45 od46 an46 od47 an47 od48 an48 od49 an49 od50 an50 od51 an51 od52 an52 od53 an53 od54 an54 od55 an55 od56 an56 od57 an57 od58 an58 od59 an59 od60 an60 od61 an61 od62 an62 od63 an63 od64 an64 od65 an65 od66 an66 od67 an67 od68 an68 od69 an69 od70 an70 od71 an71 od72 an72 od73 an73 od74 an74 od75 an75 od76 an76 od77 an77 od78 an78 od79 an79:Option Addr} {sl1 sl2 sl3 sl4 sl5 sl6 sl7 sl8 sl9 sl10 sl11 sl12 sl13 sl14 sl15 sl16 sl17 sl18 sl19 sl20 sl21 sl22 sl23 sl24 sl25 sl26 sl27 sl28 sl29 sl30 sl31 sl32 sl33 sl34 sl35 sl36 sl37 sl38 sl39 sl40 sl41 sl42 sl43 sl44 sl45 sl46 sl47 sl48 sl49 sl50 sl51 sl52 sl53 sl54 sl55 sl56 sl57 sl58 sl59 sl60 sl61 sl62 sl63 sl64 sl65 sl66 sl67 sl68 sl69 sl70 sl71 sl72 sl73 sl74 sl75 sl76 sl77 sl78 sl79:Array (Option Value)} {oc1 kV1 dc1 pm1 cd1 ct1 oc2 kV2 dc2 pm2 cd2 ct2 oc3 kV3 dc3 pm3 cd3 ct3 oc4 kV4 dc4 pm4 cd4 ct4 oc5 kV5 dc5 pm5 cd5 ct5 oc6 kV6 dc6 pm6 cd6 ct6 oc7 kV7 dc7 pm7 cd7 ct7 oc8 kV8 dc8 pm8 cd8 ct8 oc9 kV9 dc9 pm9 cd9 ct9 oc10 kV10 dc10 pm10 cd10 ct10 oc11 kV11 dc11 pm11 cd11 ct11 oc12 kV12 dc12 pm12 cd12 ct12 oc13 kV13 dc13 pm13 cd13 ct13 oc14 kV14 dc14 pm14 cd14 ct14 oc15 kV15 dc15 pm15 cd15 ct15 oc16 kV16 dc16 pm16 cd16 ct16 oc17 kV17 dc17 pm17 cd17 ct17 oc18 kV18 dc18 pm18 cd18 ct18 oc19 kV19 dc19 pm19 cd19 ct19 oc20 kV20 dc20 pm20 cd20 ct20 oc21 kV21 dc21 pm21 cd21 ct21 oc22 kV22 dc22 pm22 cd22 ct22 oc23 kV23 dc23 pm23 cd23 ct23 oc24 kV24 dc24 pm24 cd24 ct24 oc25 kV25 dc25 pm25 cd25 ct25 oc26 kV26 dc26 pm26 cd26 ct26 oc27 kV27 dc27 pm27 cd27 ct27 oc28 kV28 dc28 pm28 cd28 ct28 oc29 kV29 dc29 pm29 cd29 ct29 oc30 kV30 dc30 pm30 cd30 ct30 oc31 kV31 dc31 pm31 cd31 ct31 oc32 kV32 dc32 pm32 cd32 ct32 oc33 kV33 dc33 pm33 cd33 ct33 oc34 kV34 dc34 pm34 cd34 ct34 oc35 kV35 dc35 pm35 cd35 ct35 oc36 kV36 dc36 pm36 cd36 ct36 oc37 kV37 dc37 pm37 cd37 ct37 oc38 kV38 dc38 pm38 cd38 ct38 oc39 kV39 dc39 pm39 cd39 ct39 oc40 kV40 dc40 pm40 cd40 ct40 oc41 kV41 dc41 pm41 cd41 ct41 oc42 kV42 dc42 pm42 cd42 ct42 oc43 kV43 dc43 pm43 cd43 ct43 oc44 kV44 dc44 pm44 cd44 ct44 oc45 kV45 dc45 pm45 cd45 ct45 oc46 kV46 dc46 pm46 cd46 ct46 oc47 kV47 dc47 pm47 cd47 ct47 oc48 kV48 dc48 pm48 cd48 ct48 oc49 kV49 dc49 pm49 cd49 ct49 oc50 kV50 dc50 pm50 cd50 ct50 oc51 kV51 dc51 pm51 cd51 ct51 oc52 kV52 dc52 pm52 cd52 ct52 oc53 kV53 dc53 pm53 cd53 ct53 oc54 kV54 dc54 pm54 cd54 ct54 oc55 kV55 dc55 pm55 cd55 ct55 oc56 kV56 dc56 pm56 cd56 ct56 oc57 kV57 dc57 pm57 cd57 ct57 oc58 kV58 dc58 pm58 cd58 ct58 oc59 kV59 dc59 pm59 cd59 ct59 oc60 kV60 dc60 pm60 cd60 ct60 oc61 kV61 dc61 pm61 cd61 ct61 oc62 kV62 dc62 pm62 cd62 ct62 oc63 kV63 dc63 pm63 cd63 ct63 oc64 kV64 dc64 pm64 cd64 ct64 oc65 kV65 dc65 pm65 cd65 ct65 oc66 kV66 dc66 pm66 cd66 ct66 oc67 kV67 dc67 pm67 cd67 ct67 oc68 kV68 dc68 pm68 cd68 ct68 oc69 kV69 dc69 pm69 cd69 ct69 oc70 kV70 dc70 pm70 cd70 ct70 oc71 kV71 dc71 pm71 cd71 ct71 oc72 kV72 dc72 pm72 cd72 ct72 oc73 kV73 dc73 pm73 cd73 ct73 oc74 kV74 dc74 pm74 cd74 ct74 oc75 kV75 dc75 pm75 cd75 ct75 oc76 kV76 dc76 pm76 cd76 ct76 oc77 kV77 dc77 pm77 cd77 ct77 oc78 kV78 dc78 pm78 cd78 ct78 oc79 kV79 dc79 pm79 cd79 ct79:Value} {cT NT:Addr} {xTnm xTq:Str} {xTbs:List Value} {xThd:Bool} {xTsn:List Str} {xTsub:List Value} {xTab:Bool} {xTcol:Option Bool} {xTdd:Option Addr} {xTa xTb xTc xTd xTe xTf:Option Value} {xToc:Value} {xTod:Option Addr} {xTes:Array DictEntry} {xTep:Nat} {xTsl:Array (Option Value)} {XDT:ClassData} {cS NcS:Addr} {xnm0 xq0:Str} {xbs0:List Value} {xsn0:List Str} {xsub0:List Value} {xab0:Bool} {xcol0:Option Bool} {xdd0:Option Addr} {xka0 xkb0 xkc0 xkd0 xkf0:Option Value} {xoc0:Value} {xod0:Option Addr} {xes0:Array DictEntry} {xep0:Nat} {xsl0:Array (Option Value)} {XD0:ClassData} {cB NcB:Addr} {xnm1 xq1:Str} {xbs1:List Value} {xsn1:List Str} {xsub1:List Value} {xab1:Bool} {xcol1:Option Bool} {xdd1:Option Addr} {xka1 xkb1 xkc1 xkd1 xkf1:Option Value} {xoc1:Value} {xod1:Option Addr} {xes1:Array DictEntry} {xep1:Nat} {xsl1:Array (Option Value)} {XD1:ClassData} {cN NcN:Addr} {xnm2 xq2:Str} {xbs2:List Value} {xsn2:List Str} {xsub2:List Value} {xab2:Bool} {xcol2:Option Bool} {xdd2:Option Addr} {xka2 xkb2 xkc2 xkd2 xkf2:Option Value} {xoc2:Value} {xod2:Option Addr} {xes2:Array DictEntry} {xep2:Nat} {xsl2:Array (Option Value)} {XD2:ClassData} {cO NcO:Addr} {xnm3 xq3:Str} {xbs3:List Value} {xsn3:List Str} {xsub3:List Value} {xab3:Bool} {xcol3:Option Bool} {xdd3:Option Addr} {xka3 xkb3 xkc3 xkd3 xkf3:Option Value} {xoc3:Value} {xod3:Option Addr} {xes3:Array DictEntry} {xep3:Nat} {xsl3:Array (Option Value)} {XD3:ClassData} {cNK NcNK:Addr} {xnm4 xq4:Str} {xbs4:List Value} {xsn4:List Str} {xsub4:List Value} {xab4:Bool} {xcol4:Option Bool} {xdd4:Option Addr} {xka4 xkb4 xkc4 xkd4 xkf4:Option Value} {xoc4:Value} {xod4:Option Addr} {xes4:Array DictEntry} {xep4:Nat} {xsl4:Array (Option Value)} {XD4:ClassData} {cBN NcBN:Addr} {xnm5 xq5:Str} {xbs5:List Value} {xsn5:List Str} {xsub5:List Value} {xab5:Bool} {xcol5:Option Bool} {xdd5:Option Addr} {xka5 xkb5 xkc5 xkd5 xkf5:Option Value} {xoc5:Value} {xod5:Option Addr} {xes5:Array DictEntry} {xep5:Nat} {xsl5:Array (Option Value)} {XD5:ClassData} {cNT NcNT:Addr} {xnm6 xq6:Str} {xbs6:List Value} {xsn6:List Str} {xsub6:List Value} {xab6:Bool} {xcol6:Option Bool} {xdd6:Option Addr} {xka6 xkb6 xkc6 xkd6 xkf6:Option Value} {xoc6:Value} {xod6:Option Addr} {xes6:Array DictEntry} {xep6:Nat} {xsl6:Array (Option Value)} {XD6:ClassData} {cW NcW:Addr} {xnm7 xq7:Str} {xbs7:List Value} {xsn7:List Str} {xsub7:List Value} {xab7:Bool} {xcol7:Option Bool} {xdd7:Option Addr} {xka7 xkb7 xkc7 xkd7 xkf7:Option Value} {xoc7:Value} {xod7:Option Addr} {xes7:Array DictEntry} {xep7:Nat} {xsl7:Array (Option Value)} {XD7:ClassData} {cK:Addr} {cH:Addr} {dJ:Addr} {tL t1 t2 t3 t4 t5 t6 t7 t8:Tok} {ep:Nat} {tNS tLN:Tok} {cNB cG:Addr} {XDcNB XDcG:ClassData}
  (a1:nsIn K mainGlobals "_law_num"=some (some (.ref f1))) (l1:K.lookup f1=some ⟨oc1,od1,.func (fnOf "_law_num" "_law_num" (Ak NX) (Aj NX) (Ad NX) .none kV1 dc1 pm1 an1 cd1 ct1),sl1⟩) (c1:codeIn K cd1 "_law_num"=true) (k1:keepIn K (.ref f1)=true)
  (a2:nsIn K mainGlobals "_law_few"=some (some (.ref f2))) (l2:K.lookup f2=some ⟨oc2,od2,.func (fnOf "_law_few" "_law_few" (Ak Ou) (Aj Ou) (Ad Ou) .none kV2 dc2 pm2 an2 cd2 ct2),sl2⟩) (c2:codeIn K cd2 "_law_few"=true) (k2:keepIn K (.ref f2)=true)
  (a3:nsIn K mainGlobals "_law_sentence"=some (some (.ref f3))) (l3:K.lookup f3=some ⟨oc3,od3,.func (fnOf "_law_sentence" "_law_sentence" (Ak IB) (Aj IB) (Ad IB) .none kV3 dc3 pm3 an3 cd3 ct3),sl3⟩) (c3:codeIn K cd3 "_law_sentence"=true) (k3:keepIn K (.ref f3)=true)
  (a4:nsIn K mainGlobals "_law_name"=some (some (.ref f4))) (l4:K.lookup f4=some ⟨oc4,od4,.func (fnOf "_law_name" "_law_name" (Ak Fo) (Aj Fo) (Ad Fo) .none kV4 dc4 pm4 an4 cd4 ct4),sl4⟩) (c4:codeIn K cd4 "_law_name"=true) (k4:keepIn K (.ref f4)=true)
  (a5:nsIn K mainGlobals "_law_names"=some (some (.ref f5))) (l5:K.lookup f5=some ⟨oc5,od5,.func (fnOf "_law_names" "_law_names" (Ak DX) (Aj DX) (Ad DX) .none kV5 dc5 pm5 an5 cd5 ct5),sl5⟩) (c5:codeIn K cd5 "_law_names"=true) (k5:keepIn K (.ref f5)=true)
  (a6:findIn K (.ref cH) "refuse_no_talk"=some (some (.ref f6))) (i6:isFn K (.ref f6)=true) (l6:K.lookup f6=some ⟨oc6,od6,.func (fnOf "refuse_no_talk" "House.refuse_no_talk" (Ak Cz) (Aj Cz) (Ad Cz) .none kV6 dc6 pm6 an6 cd6 ct6),sl6⟩) (c6:codeIn K cd6 "House.refuse_no_talk"=true) (k6:keepIn K (.ref f6)=true)
  (a7:findIn K (.ref cH) "talk_of"=some (some (.ref f7))) (i7:isFn K (.ref f7)=true) (l7:K.lookup f7=some ⟨oc7,od7,.func (fnOf "talk_of" "House.talk_of" (Ak CZ) (Aj CZ) (Ad CZ) .none kV7 dc7 pm7 an7 cd7 ct7),sl7⟩) (c7:codeIn K cd7 "House.talk_of"=true) (k7:keepIn K (.ref f7)=true)
  (a8:findIn K (.ref cK) "entries"=some (some (.ref f8))) (i8:isFn K (.ref f8)=true) (l8:K.lookup f8=some ⟨oc8,od8,.func (fnOf "entries" "Talk.entries" (Ak B8) (Aj B8) (Ad B8) .none kV8 dc8 pm8 an8 cd8 ct8),sl8⟩) (c8:codeIn K cd8 "Talk.entries"=true) (k8:keepIn K (.ref f8)=true)
  (a9:findIn K (.ref cH) "entries"=some (some (.ref f9))) (i9:isFn K (.ref f9)=true) (l9:K.lookup f9=some ⟨oc9,od9,.func (fnOf "entries" "House.entries" (Ak B6) (Aj B6) (Ad B6) .none kV9 dc9 pm9 an9 cd9 ct9),sl9⟩) (c9:codeIn K cd9 "House.entries"=true) (k9:keepIn K (.ref f9)=true)
  (a10:findIn K (.ref cK) "held"=some (some (.ref f10))) (i10:isFn K (.ref f10)=true) (l10:K.lookup f10=some ⟨oc10,od10,.func (fnOf "held" "Talk.held" (Ak EX) (Aj EX) (Ad EX) .none kV10 dc10 pm10 an10 cd10 ct10),sl10⟩) (c10:codeIn K cd10 "Talk.held"=true) (k10:keepIn K (.ref f10)=true)
  (a11:findIn K (.ref cH) "held"=some (some (.ref f11))) (i11:isFn K (.ref f11)=true) (l11:K.lookup f11=some ⟨oc11,od11,.func (fnOf "held" "House.held" (Ak Fh) (Aj Fh) (Ad Fh) .none kV11 dc11 pm11 an11 cd11 ct11),sl11⟩) (c11:codeIn K cd11 "House.held"=true) (k11:keepIn K (.ref f11)=true)
  (a12:nsIn K mainGlobals "in_both"=some (some (.ref f12))) (l12:K.lookup f12=some ⟨oc12,od12,.func (fnOf "in_both" "in_both" (Ak HF) (Aj HF) (Ad HF) .none kV12 dc12 pm12 an12 cd12 ct12),sl12⟩) (c12:codeIn K cd12 "in_both"=true) (k12:keepIn K (.ref f12)=true)
  (a13:nsIn K mainGlobals "some_within"=some (some (.ref f13))) (l13:K.lookup f13=some ⟨oc13,od13,.func (fnOf "some_within" "some_within" (Ak Fv) (Aj Fv) (Ad Fv) .none kV13 dc13 pm13 an13 cd13 ct13),sl13⟩) (c13:codeIn K cd13 "some_within"=true) (k13:keepIn K (.ref f13)=true)
  (a14:nsIn K mainGlobals "missed_side"=some (some (.ref f14))) (l14:K.lookup f14=some ⟨oc14,od14,.func (fnOf "missed_side" "missed_side" (Ak Ek) (Aj Ek) (Ad Ek) .none kV14 dc14 pm14 an14 cd14 ct14),sl14⟩) (c14:codeIn K cd14 "missed_side"=true) (k14:keepIn K (.ref f14)=true)
  (a15:nsIn K mainGlobals "stands"=some (some (.ref f15))) (l15:K.lookup f15=some ⟨oc15,od15,.func (fnOf "stands" "stands" (Ak D5) (Aj D5) (Ad D5) .none kV15 dc15 pm15 an15 cd15 ct15),sl15⟩) (c15:codeIn K cd15 "stands"=true) (k15:keepIn K (.ref f15)=true)
  (a16:findIn K (.ref cK) "caught"=some (some (.ref f16))) (i16:isFn K (.ref f16)=true) (l16:K.lookup f16=some ⟨oc16,od16,.func (fnOf "caught" "Talk.caught" (Ak Cu) (Aj Cu) (Ad Cu) .none kV16 dc16 pm16 an16 cd16 ct16),sl16⟩) (c16:codeIn K cd16 "Talk.caught"=true) (k16:keepIn K (.ref f16)=true)
  (a17:findIn K (.ref cH) "caught"=some (some (.ref f17))) (i17:isFn K (.ref f17)=true) (l17:K.lookup f17=some ⟨oc17,od17,.func (fnOf "caught" "House.caught" (Ak CQ) (Aj CQ) (Ad CQ) .none kV17 dc17 pm17 an17 cd17 ct17),sl17⟩) (c17:codeIn K cd17 "House.caught"=true) (k17:keepIn K (.ref f17)=true)
  (a18:findIn K (.ref cK) "over"=some (some (.ref f18))) (i18:isFn K (.ref f18)=true) (l18:K.lookup f18=some ⟨oc18,od18,.func (fnOf "over" "Talk.over" (Ak Fz) (Aj Fz) (Ad Fz) .none kV18 dc18 pm18 an18 cd18 ct18),sl18⟩) (c18:codeIn K cd18 "Talk.over"=true) (k18:keepIn K (.ref f18)=true)
  (a19:findIn K (.ref cH) "over"=some (some (.ref f19))) (i19:isFn K (.ref f19)=true) (l19:K.lookup f19=some ⟨oc19,od19,.func (fnOf "over" "House.over" (Ak EZ) (Aj EZ) (Ad EZ) .none kV19 dc19 pm19 an19 cd19 ct19),sl19⟩) (c19:codeIn K cd19 "House.over"=true) (k19:keepIn K (.ref f19)=true)
  (a20:nsIn K mainGlobals "clash_of"=some (some (.ref f20))) (l20:K.lookup f20=some ⟨oc20,od20,.func (fnOf "clash_of" "clash_of" (Ak ED) (Aj ED) (Ad ED) .none kV20 dc20 pm20 an20 cd20 ct20),sl20⟩) (c20:codeIn K cd20 "clash_of"=true) (k20:keepIn K (.ref f20)=true)
  (a21:findIn K (.ref cH) "clash"=some (some (.ref f21))) (i21:isFn K (.ref f21)=true) (l21:K.lookup f21=some ⟨oc21,od21,.func (fnOf "clash" "House.clash" (Ak D1) (Aj D1) (Ad D1) .none kV21 dc21 pm21 an21 cd21 ct21),sl21⟩) (c21:codeIn K cd21 "House.clash"=true) (k21:keepIn K (.ref f21)=true)
  (a22:nsIn K mainGlobals "refuse_over"=some (some (.ref f22))) (l22:K.lookup f22=some ⟨oc22,od22,.func (fnOf "refuse_over" "refuse_over" (Ak Db) (Aj Db) (Ad Db) .none kV22 dc22 pm22 an22 cd22 ct22),sl22⟩) (c22:codeIn K cd22 "refuse_over"=true) (k22:keepIn K (.ref f22)=true)
  (a23:findIn K (.ref cK) "back"=some (some (.ref f23))) (i23:isFn K (.ref f23)=true) (l23:K.lookup f23=some ⟨oc23,od23,.func (fnOf "back" "Talk.back" (Ak Fa) (Aj Fa) (Ad Fa) .none kV23 dc23 pm23 an23 cd23 ct23),sl23⟩) (c23:codeIn K cd23 "Talk.back"=true) (k23:keepIn K (.ref f23)=true)
  (a24:findIn K (.ref cH) "back"=some (some (.ref f24))) (i24:isFn K (.ref f24)=true) (l24:K.lookup f24=some ⟨oc24,od24,.func (fnOf "back" "House.back" (Ak Fk) (Aj Fk) (Ad Fk) .none kV24 dc24 pm24 an24 cd24 ct24),sl24⟩) (c24:codeIn K cd24 "House.back"=true) (k24:keepIn K (.ref f24)=true)
  (a25:findIn K (.ref cK) "end"=some (some (.ref f25))) (i25:isFn K (.ref f25)=true) (l25:K.lookup f25=some ⟨oc25,od25,.func (fnOf "end" "Talk.end" (Ak IE) (Aj IE) (Ad IE) .none kV25 dc25 pm25 an25 cd25 ct25),sl25⟩) (c25:codeIn K cd25 "Talk.end"=true) (k25:keepIn K (.ref f25)=true)
  (a26:nsIn K mainGlobals "line_of"=some (some (.ref f26))) (l26:K.lookup f26=some ⟨oc26,od26,.func (fnOf "line_of" "line_of" (Ak DP) (Aj DP) (Ad DP) .none kV26 dc26 pm26 an26 cd26 ct26),sl26⟩) (c26:codeIn K cd26 "line_of"=true) (k26:keepIn K (.ref f26)=true)
  (a27:findIn K (.ref cH) "write"=some (some (.ref f27))) (i27:isFn K (.ref f27)=true) (l27:K.lookup f27=some ⟨oc27,od27,.func (fnOf "write" "House.write" (Ak Ed) (Aj Ed) (Ad Ed) .none kV27 dc27 pm27 an27 cd27 ct27),sl27⟩) (c27:codeIn K cd27 "House.write"=true) (k27:keepIn K (.ref f27)=true)
  (a28:findIn K (.ref cH) "end"=some (some (.ref f28))) (i28:isFn K (.ref f28)=true) (l28:K.lookup f28=some ⟨oc28,od28,.func (fnOf "end" "House.end" (Ak Iw) (Aj Iw) (Ad Iw) .none kV28 dc28 pm28 an28 cd28 ct28),sl28⟩) (c28:codeIn K cd28 "House.end"=true) (k28:keepIn K (.ref f28)=true)
  (a29:findIn K (.ref cH) "drop"=some (some (.ref f29))) (i29:isFn K (.ref f29)=true) (l29:K.lookup f29=some ⟨oc29,od29,.func (fnOf "drop" "House.drop" (Ak FA) (Aj FA) (Ad FA) .none kV29 dc29 pm29 an29 cd29 ct29),sl29⟩) (c29:codeIn K cd29 "House.drop"=true) (k29:keepIn K (.ref f29)=true)
  (a30:nsIn K mainGlobals "letter_holds"=some (some (.ref f30))) (l30:K.lookup f30=some ⟨oc30,od30,.func (fnOf "letter_holds" "letter_holds" (Ak EW) (Aj EW) (Ad EW) .none kV30 dc30 pm30 an30 cd30 ct30),sl30⟩) (c30:codeIn K cd30 "letter_holds"=true) (k30:keepIn K (.ref f30)=true)
  (a31:nsIn K mainGlobals "agrees"=some (some (.ref f31))) (l31:K.lookup f31=some ⟨oc31,od31,.func (fnOf "agrees" "agrees" (Ak D3) (Aj D3) (Ad D3) .none kV31 dc31 pm31 an31 cd31 ct31),sl31⟩) (c31:codeIn K cd31 "agrees"=true) (k31:keepIn K (.ref f31)=true)
  (a32:nsIn K mainGlobals "seen_by"=some (some (.ref f32))) (l32:K.lookup f32=some ⟨oc32,od32,.func (fnOf "seen_by" "seen_by" (Ak DN) (Aj DN) (Ad DN) .none kV32 dc32 pm32 an32 cd32 ct32),sl32⟩) (c32:codeIn K cd32 "seen_by"=true) (k32:keepIn K (.ref f32)=true)
  (a33:findIn K (.ref cH) "seen"=some (some (.ref f33))) (i33:isFn K (.ref f33)=true) (l33:K.lookup f33=some ⟨oc33,od33,.func (fnOf "seen" "House.seen" (Ak Fw) (Aj Fw) (Ad Fw) .none kV33 dc33 pm33 an33 cd33 ct33),sl33⟩) (c33:codeIn K cd33 "House.seen"=true) (k33:keepIn K (.ref f33)=true)
  (a34:nsIn K mainGlobals "catch_by"=some (some (.ref f34))) (l34:K.lookup f34=some ⟨oc34,od34,.func (fnOf "catch_by" "catch_by" (Ak CG) (Aj CG) (Ad CG) .none kV34 dc34 pm34 an34 cd34 ct34),sl34⟩) (c34:codeIn K cd34 "catch_by"=true) (k34:keepIn K (.ref f34)=true)
  (a35:findIn K (.ref cH) "catch"=some (some (.ref f35))) (i35:isFn K (.ref f35)=true) (l35:K.lookup f35=some ⟨oc35,od35,.func (fnOf "catch" "House.catch" (Ak Ej) (Aj Ej) (Ad Ej) .none kV35 dc35 pm35 an35 cd35 ct35),sl35⟩) (c35:codeIn K cd35 "House.catch"=true) (k35:keepIn K (.ref f35)=true)
  (a36:findIn K (.ref cH) "fork"=some (some (.ref f36))) (i36:isFn K (.ref f36)=true) (l36:K.lookup f36=some ⟨oc36,od36,.func (fnOf "fork" "House.fork" (Ak Fj) (Aj Fj) (Ad Fj) .none kV36 dc36 pm36 an36 cd36 ct36),sl36⟩) (c36:codeIn K cd36 "House.fork"=true) (k36:keepIn K (.ref f36)=true)
  (a37:nsIn K mainGlobals "_law_look"=some (some (.ref f37))) (l37:K.lookup f37=some ⟨oc37,od37,.func (fnOf "_law_look" "_law_look" (Ak Fc) (Aj Fc) (Ad Fc) .none kV37 dc37 pm37 an37 cd37 ct37),sl37⟩) (c37:codeIn K cd37 "_law_look"=true) (k37:keepIn K (.ref f37)=true)
  (a38:nsIn K mainGlobals "parts_of"=some (some (.ref f38))) (l38:K.lookup f38=some ⟨oc38,od38,.func (fnOf "parts_of" "parts_of" (Ak Fp) (Aj Fp) (Ad Fp) .none kV38 dc38 pm38 an38 cd38 ct38),sl38⟩) (c38:codeIn K cd38 "parts_of"=true) (k38:keepIn K (.ref f38)=true)
  (a39:nsIn K mainGlobals "letters"=some (some (.ref f39))) (l39:K.lookup f39=some ⟨oc39,od39,.func (fnOf "letters" "letters" (Ak CU) (Aj CU) (Ad CU) .none kV39 dc39 pm39 an39 cd39 ct39),sl39⟩) (c39:codeIn K cd39 "letters"=true) (k39:keepIn K (.ref f39)=true)
  (a40:nsIn K mainGlobals "refuse_strange"=some (some (.ref f40))) (l40:K.lookup f40=some ⟨oc40,od40,.func (fnOf "refuse_strange" "refuse_strange" (Ak Df) (Aj Df) (Ad Df) .none kV40 dc40 pm40 an40 cd40 ct40),sl40⟩) (c40:codeIn K cd40 "refuse_strange"=true) (k40:keepIn K (.ref f40)=true)
  (a41:nsIn K mainGlobals "steps_of"=some (some (.ref f41))) (l41:K.lookup f41=some ⟨oc41,od41,.func (fnOf "steps_of" "steps_of" (Ak Fq) (Aj Fq) (Ad Fq) .none kV41 dc41 pm41 an41 cd41 ct41),sl41⟩) (c41:codeIn K cd41 "steps_of"=true) (k41:keepIn K (.ref f41)=true)
  (a42:nsIn K mainGlobals "joined"=some (some (.ref f42))) (l42:K.lookup f42=some ⟨oc42,od42,.func (fnOf "joined" "joined" (Ak D0) (Aj D0) (Ad D0) .none kV42 dc42 pm42 an42 cd42 ct42),sl42⟩) (c42:codeIn K cd42 "joined"=true) (k42:keepIn K (.ref f42)=true)
  (a43:nsIn K mainGlobals "true_by"=some (some (.ref f43))) (l43:K.lookup f43=some ⟨oc43,od43,.func (fnOf "true_by" "true_by" (Ak DQ) (Aj DQ) (Ad DQ) .none kV43 dc43 pm43 an43 cd43 ct43),sl43⟩) (c43:codeIn K cd43 "true_by"=true) (k43:keepIn K (.ref f43)=true)
  (a44:nsIn K mainGlobals "worlds_of"=some (some (.ref f44))) (l44:K.lookup f44=some ⟨oc44,od44,.func (fnOf "worlds_of" "worlds_of" (Ak B1) (Aj B1) (Ad B1) .none kV44 dc44 pm44 an44 cd44 ct44),sl44⟩) (c44:codeIn K cd44 "worlds_of"=true) (k44:keepIn K (.ref f44)=true)
  (a45:nsIn K mainGlobals "in_first_only"=some (some (.ref f45))) (l45:K.lookup f45=some ⟨oc45,od45,.func (fnOf "in_first_only" "in_first_only" (Ak Fd) (Aj Fd) (Ad Fd) .none kV45 dc45 pm45 an45 cd45 ct45),sl45⟩) (c45:codeIn K cd45 "in_first_only"=true) (k45:keepIn K (.ref f45)=true)
  (a46:nsIn K mainGlobals "all_within"=some (some (.ref f46))) (l46:K.lookup f46=some ⟨oc46,od46,.func (fnOf "all_within" "all_within" (Ak E3) (Aj E3) (Ad E3) .none kV46 dc46 pm46 an46 cd46 ct46),sl46⟩) (c46:codeIn K cd46 "all_within"=true) (k46:keepIn K (.ref f46)=true)
  (a47:nsIn K mainGlobals "plain"=some (some (.ref f47))) (l47:K.lookup f47=some ⟨oc47,od47,.func (fnOf "plain" "plain" (Ak Fn) (Aj Fn) (Ad Fn) .none kV47 dc47 pm47 an47 cd47 ct47),sl47⟩) (c47:codeIn K cd47 "plain"=true) (k47:keepIn K (.ref f47)=true)
  (a48:nsIn K mainGlobals "left_by"=some (some (.ref f48))) (l48:K.lookup f48=some ⟨oc48,od48,.func (fnOf "left_by" "left_by" (Ak Eb) (Aj Eb) (Ad Eb) .none kV48 dc48 pm48 an48 cd48 ct48),sl48⟩) (c48:codeIn K cd48 "left_by"=true) (k48:keepIn K (.ref f48)=true)
  (a49:nsIn K mainGlobals "barring_side"=some (some (.ref f49))) (l49:K.lookup f49=some ⟨oc49,od49,.func (fnOf "barring_side" "barring_side" (Ak Cw) (Aj Cw) (Ad Cw) .none kV49 dc49 pm49 an49 cd49 ct49),sl49⟩) (c49:codeIn K cd49 "barring_side"=true) (k49:keepIn K (.ref f49)=true)
  (a50:nsIn K mainGlobals "answer"=some (some (.ref f50))) (l50:K.lookup f50=some ⟨oc50,od50,.func (fnOf "answer" "answer" (Ak DW) (Aj DW) (Ad DW) .none kV50 dc50 pm50 an50 cd50 ct50),sl50⟩) (c50:codeIn K cd50 "answer"=true) (k50:keepIn K (.ref f50)=true)
  (a51:findIn K (.ref cK) "base"=some (some (.ref f51))) (i51:isFn K (.ref f51)=true) (l51:K.lookup f51=some ⟨oc51,od51,.func (fnOf "base" "Talk.base" (Ak E8) (Aj E8) (Ad E8) .none kV51 dc51 pm51 an51 cd51 ct51),sl51⟩) (c51:codeIn K cd51 "Talk.base"=true) (k51:keepIn K (.ref f51)=true)
  (a52:findIn K (.ref cK) "going"=some (some (.ref f52))) (i52:isFn K (.ref f52)=true) (l52:K.lookup f52=some ⟨oc52,od52,.func (fnOf "going" "Talk.going" (Ak Eh) (Aj Eh) (Ad Eh) .none kV52 dc52 pm52 an52 cd52 ct52),sl52⟩) (c52:codeIn K cd52 "Talk.going"=true) (k52:keepIn K (.ref f52)=true)
  (a53:findIn K (.ref cK) "ask"=some (some (.ref f53))) (i53:isFn K (.ref f53)=true) (l53:K.lookup f53=some ⟨oc53,od53,.func (fnOf "ask" "Talk.ask" (Ak Hy) (Aj Hy) (Ad Hy) .none kV53 dc53 pm53 an53 cd53 ct53),sl53⟩) (c53:codeIn K cd53 "Talk.ask"=true) (k53:keepIn K (.ref f53)=true)
  (a54:findIn K (.ref cK) "say"=some (some (.ref f54))) (i54:isFn K (.ref f54)=true) (l54:K.lookup f54=some ⟨oc54,od54,.func (fnOf "say" "Talk.say" (Ak HR) (Aj HR) (Ad HR) .none kV54 dc54 pm54 an54 cd54 ct54),sl54⟩) (c54:codeIn K cd54 "Talk.say"=true) (k54:keepIn K (.ref f54)=true)
  (a55:nsIn K mainGlobals "shown"=some (some (.ref f55))) (l55:K.lookup f55=some ⟨oc55,od55,.func (fnOf "shown" "shown" (Ak Fl) (Aj Fl) (Ad Fl) .none kV55 dc55 pm55 an55 cd55 ct55),sl55⟩) (c55:codeIn K cd55 "shown"=true) (k55:keepIn K (.ref f55)=true)
  (a56:findIn K (.ref cH) "say"=some (some (.ref f56))) (i56:isFn K (.ref f56)=true) (l56:K.lookup f56=some ⟨oc56,od56,.func (fnOf "say" "House.say" (Ak HW) (Aj HW) (Ad HW) .none kV56 dc56 pm56 an56 cd56 ct56),sl56⟩) (c56:codeIn K cd56 "House.say"=true) (k56:keepIn K (.ref f56)=true)
  (a57:findIn K (.ref cH) "ask"=some (some (.ref f57))) (i57:isFn K (.ref f57)=true) (l57:K.lookup f57=some ⟨oc57,od57,.func (fnOf "ask" "House.ask" (Ak Ij) (Aj Ij) (Ad Ij) .none kV57 dc57 pm57 an57 cd57 ct57),sl57⟩) (c57:codeIn K cd57 "House.ask"=true) (k57:keepIn K (.ref f57)=true)
  (a58:nsIn K mainGlobals "paper_of"=some (some (.ref f58))) (l58:K.lookup f58=some ⟨oc58,od58,.func (fnOf "paper_of" "paper_of" (Ak Cv) (Aj Cv) (Ad Cv) .none kV58 dc58 pm58 an58 cd58 ct58),sl58⟩) (c58:codeIn K cd58 "paper_of"=true) (k58:keepIn K (.ref f58)=true)
  (a59:findIn K (.ref cH) "why"=some (some (.ref f59))) (i59:isFn K (.ref f59)=true) (l59:K.lookup f59=some ⟨oc59,od59,.func (fnOf "why" "House.why" (Ak Im) (Aj Im) (Ad Im) .none kV59 dc59 pm59 an59 cd59 ct59),sl59⟩) (c59:codeIn K cd59 "House.why"=true) (k59:keepIn K (.ref f59)=true)
  (a60:nsIn K mainGlobals "way_to"=some (some (.ref f60))) (l60:K.lookup f60=some ⟨oc60,od60,.func (fnOf "way_to" "way_to" (Ak Ft) (Aj Ft) (Ad Ft) .none kV60 dc60 pm60 an60 cd60 ct60),sl60⟩) (c60:codeIn K cd60 "way_to"=true) (k60:keepIn K (.ref f60)=true)
  (a61:findIn K (.ref cH) "bring"=some (some (.ref f61))) (i61:isFn K (.ref f61)=true) (l61:K.lookup f61=some ⟨oc61,od61,.func (fnOf "bring" "House.bring" (Ak Ec) (Aj Ec) (Ad Ec) .none kV61 dc61 pm61 an61 cd61 ct61),sl61⟩) (c61:codeIn K cd61 "House.bring"=true) (k61:keepIn K (.ref f61)=true)
  (a62:findIn K (.ref cH) "plainly"=some (some (.ref f62))) (i62:isFn K (.ref f62)=true) (l62:K.lookup f62=some ⟨oc62,od62,.func (fnOf "plainly" "House.plainly" (Ak B5) (Aj B5) (Ad B5) .none kV62 dc62 pm62 an62 cd62 ct62),sl62⟩) (c62:codeIn K cd62 "House.plainly"=true) (k62:keepIn K (.ref f62)=true)
  (a63:findIn K (.ref cH) "refuse_new_name"=some (some (.ref f63))) (i63:isFn K (.ref f63)=true) (l63:K.lookup f63=some ⟨oc63,od63,.func (fnOf "refuse_new_name" "House.refuse_new_name" (Ak B4) (Aj B4) (Ad B4) .none kV63 dc63 pm63 an63 cd63 ct63),sl63⟩) (c63:codeIn K cd63 "House.refuse_new_name"=true) (k63:keepIn K (.ref f63)=true)
  (a64:nsIn K mainGlobals "sides_of"=some (some (.ref f64))) (l64:K.lookup f64=some ⟨oc64,od64,.func (fnOf "sides_of" "sides_of" (Ak CV) (Aj CV) (Ad CV) .none kV64 dc64 pm64 an64 cd64 ct64),sl64⟩) (c64:codeIn K cd64 "sides_of"=true) (k64:keepIn K (.ref f64)=true)
  (a65:nsIn K mainGlobals "in_any"=some (some (.ref f65))) (l65:K.lookup f65=some ⟨oc65,od65,.func (fnOf "in_any" "in_any" (Ak Oe) (Aj Oe) (Ad Oe) .none kV65 dc65 pm65 an65 cd65 ct65),sl65⟩) (c65:codeIn K cd65 "in_any"=true) (k65:keepIn K (.ref f65)=true)
  (a66:nsIn K mainGlobals "base_of"=some (some (.ref f66))) (l66:K.lookup f66=some ⟨oc66,od66,.func (fnOf "base_of" "base_of" (Ak D6) (Aj D6) (Ad D6) .none kV66 dc66 pm66 an66 cd66 ct66),sl66⟩) (c66:codeIn K cd66 "base_of"=true) (k66:keepIn K (.ref f66)=true)
  (a67:findIn K (.ref cK) "__init__"=some (some (.ref f67))) (i67:isFn K (.ref f67)=true) (l67:K.lookup f67=some ⟨oc67,od67,.func (fnOf "__init__" "Talk.__init__" (Ak E2) (Aj E2) (Ad E2) .none kV67 dc67 pm67 an67 cd67 ct67),sl67⟩) (c67:codeIn K cd67 "Talk.__init__"=true) (k67:keepIn K (.ref f67)=true)
  (a68:findIn K (.ref cH) "begin"=some (some (.ref f68))) (i68:isFn K (.ref f68)=true) (l68:K.lookup f68=some ⟨oc68,od68,.func (fnOf "begin" "House.begin" (Ak Ea) (Aj Ea) (Ad Ea) .none kV68 dc68 pm68 an68 cd68 ct68),sl68⟩) (c68:codeIn K cd68 "House.begin"=true) (k68:keepIn K (.ref f68)=true)
  (a69:nsIn K mainGlobals "_law_do"=some (some (.ref f69))) (l69:K.lookup f69=some ⟨oc69,od69,.func (fnOf "_law_do" "_law_do" (Ak Nd) (Aj Nd) (Ad Nd) .none kV69 dc69 pm69 an69 cd69 ct69),sl69⟩) (c69:codeIn K cd69 "_law_do"=true) (k69:keepIn K (.ref f69)=true)
  (a70:nsIn K mainGlobals "_law_refusal"=some (some (.ref f70))) (l70:K.lookup f70=some ⟨oc70,od70,.func (fnOf "_law_refusal" "_law_refusal" (Ak B3) (Aj B3) (Ad B3) .none kV70 dc70 pm70 an70 cd70 ct70),sl70⟩) (c70:codeIn K cd70 "_law_refusal"=true) (k70:keepIn K (.ref f70)=true)
  (a71:nsIn K mainGlobals "_law_there"=some (some (.ref f71))) (l71:K.lookup f71=some ⟨oc71,od71,.func (fnOf "_law_there" "_law_there" (Ak DZ) (Aj DZ) (Ad DZ) .none kV71 dc71 pm71 an71 cd71 ct71),sl71⟩) (c71:codeIn K cd71 "_law_there"=true) (k71:keepIn K (.ref f71)=true)
  (a72:nsIn K mainGlobals "_law_says"=some (some (.ref f72))) (l72:K.lookup f72=some ⟨oc72,od72,.func (fnOf "_law_says" "_law_says" (Ak Ig) (Aj Ig) (Ad Ig) .none kV72 dc72 pm72 an72 cd72 ct72),sl72⟩) (c72:codeIn K cd72 "_law_says"=true) (k72:keepIn K (.ref f72)=true)
  (a73:nsIn K mainGlobals "_law_texts_are"=some (some (.ref f73))) (l73:K.lookup f73=some ⟨oc73,od73,.func (fnOf "_law_texts_are" "_law_texts_are" (Ak DT) (Aj DT) (Ad DT) .none kV73 dc73 pm73 an73 cd73 ct73),sl73⟩) (c73:codeIn K cd73 "_law_texts_are"=true) (k73:keepIn K (.ref f73)=true)
  (a74:nsIn K mainGlobals "all_worlds"=some (some (.ref f74))) (l74:K.lookup f74=some ⟨oc74,od74,.func (fnOf "all_worlds" "all_worlds" (Ak HZ) (Aj HZ) (Ad HZ) .none kV74 dc74 pm74 an74 cd74 ct74),sl74⟩) (c74:codeIn K cd74 "all_worlds"=true) (k74:keepIn K (.ref f74)=true)
  (a75:nsIn K mainGlobals "room_of"=some (some (.ref f75))) (l75:K.lookup f75=some ⟨oc75,od75,.func (fnOf "room_of" "room_of" (Ak DY) (Aj DY) (Ad DY) .none kV75 dc75 pm75 an75 cd75 ct75),sl75⟩) (c75:codeIn K cd75 "room_of"=true) (k75:keepIn K (.ref f75)=true)
  (a76:findIn K (.ref cH) "__init__"=some (some (.ref f76))) (i76:isFn K (.ref f76)=true) (l76:K.lookup f76=some ⟨oc76,od76,.func (fnOf "__init__" "House.__init__" (Ak E5) (Aj E5) (Ad E5) .none kV76 dc76 pm76 an76 cd76 ct76),sl76⟩) (c76:codeIn K cd76 "House.__init__"=true) (k76:keepIn K (.ref f76)=true)
  (a77:findIn K (.ref cH) "log"=some (some (.ref f77))) (i77:isFn K (.ref f77)=true) (l77:K.lookup f77=some ⟨oc77,od77,.func (fnOf "log" "House.log" (Ak HK) (Aj HK) (Ad HK) .none kV77 dc77 pm77 an77 cd77 ct77),sl77⟩) (c77:codeIn K cd77 "House.log"=true) (k77:keepIn K (.ref f77)=true)
  (a78:findIn K (.ref cH) "names"=some (some (.ref f78))) (i78:isFn K (.ref f78)=true) (l78:K.lookup f78=some ⟨oc78,od78,.func (fnOf "names" "House.names" (Ak D4) (Aj D4) (Ad D4) .none kV78 dc78 pm78 an78 cd78 ct78),sl78⟩) (c78:codeIn K cd78 "House.names"=true) (k78:keepIn K (.ref f78)=true)
  (a79:nsIn K mainGlobals "law"=some (some (.ref f79))) (l79:K.lookup f79=some ⟨oc79,od79,.func (fnOf "law" "law" (Ak Ja) (Aj Ja) (Ad Ja) .none kV79 dc79 pm79 an79 cd79 ct79),sl79⟩) (c79:codeIn K cd79 "law"=true) (k79:keepIn K (.ref f79)=true)
  (yabs:nsIn K mainGlobals "abs"=some none)
  (ylen:nsIn K mainGlobals "len"=some none)
  (yrange:nsIn K mainGlobals "range"=some none)
  (yisinstance:nsIn K mainGlobals "isinstance"=some none)
  (yint:nsIn K mainGlobals "int"=some none)
  (ybool:nsIn K mainGlobals "bool"=some none)
  (ystr:nsIn K mainGlobals "str"=some none)
  (ytuple:nsIn K mainGlobals "tuple"=some none)
  (ylist:nsIn K mainGlobals "list"=some none)
  (yset:nsIn K mainGlobals "set"=some none)
  (ysorted:nsIn K mainGlobals "sorted"=some none)
  (yany:nsIn K mainGlobals "any"=some none)
  (yall:nsIn K mainGlobals "all"=some none)
  (yValueError:nsIn K mainGlobals "ValueError"=some none)
  (yenumerate:nsIn K mainGlobals "enumerate"=some none)
  (ymin:nsIn K mainGlobals "min"=some none)
  (xTn:nsIn K mainGlobals "TalkError"=some (some (.ref cT)))
  (xTl:K.lookup cT=some ⟨.type "type",xTdd,.cls { name:=xTnm,bases:=xTbs,mro:=.ref cT::Eu,ns:=NT,qualname:=xTq,hasDict:=xThd,slotNames:=xTsn,subclasses:=xTsub,abstract:=xTab,collection:=xTcol,hasDel:=false },#[xTa,xTb,xTc,xTd,xTe,xTf]⟩)
  (xTm:K.lookup NT=some ⟨xToc,xTod,.dict xTes xTep,xTsl⟩)
  (nTs:(xTes.all (fun e=>match e.key with | .str _ _=>true | _=>false))=true)
  (xTi:nsIn K NT "__init__"=some none)
  (xTc1:clsIn K cT=some XDT)
  (xTt:typeIn K (.ref cT)=some (.type "type"))
  (xTbse:mroIn K cT (.type "BaseException")=some true)
  (nuV:PySem.W.kitMeta "ValueError"=true)
  (xcg:PySem.W.specialIn K (.builtin "object.__class__") "__get__"=some (some (.builtin "getset_descriptor.__get__")))
  (xct:PySem.W.takesIn K (.builtin "object.__class__")=some true)
  (xn0:nsIn K mainGlobals "StrangeLetter"=some (some (.ref cS)))
  (xl0:K.lookup cS=some (excClassObj xnm0 xq0 cS NcS xbs0 (.ref cT::Eu) true xsn0 xsub0 xab0 xcol0 xdd0 xka0 xkb0 xkc0 xkd0 xkf0 "ValueError.__new__"))
  (xm0:K.lookup NcS=some ⟨xoc0,xod0,.dict xes0 xep0,xsl0⟩)
  (nxs0:(xes0.all (fun e=>match e.key with | .str _ _=>true | _=>false))=true)
  (xi0:nsIn K NcS "__init__"=some none)
  (xkp0:keepIn K (.ref cS)=true)
  (xcd0:clsIn K cS=some XD0)
  (nxm0:XD0.mro= .ref cS::.ref cT::Eu)
  (nxd0:XD0.hasDict=true)
  (xsa0:findIn K (.ref cS) "__setattr__"=some (some (.builtin "object.__setattr__")))
  (xga0:findIn K (.ref cS) "__getattribute__"=some (some (.builtin "BaseException.__getattribute__")))
  (xgn0:findIn K (.ref cS) "__getattr__"=some none)
  (xca0:findIn K (.ref cS) "__class__"=some (some (.builtin "object.__class__")))
  (xt0:typeIn K (.ref cS)=some (.type "type"))
  (xb0:mroIn K cS (.type "BaseException")=some true)
  (xs0:mroIn K cS (.ref cS)=some true)
  (xu0:mroIn K cS (.ref cT)=some true)
  (xv0:subIn K (.ref cS) (.type "ValueError")=some true)
  (xn1:nsIn K mainGlobals "BadWord"=some (some (.ref cB)))
  (xl1:K.lookup cB=some (excClassObj xnm1 xq1 cB NcB xbs1 (.ref cT::Eu) true xsn1 xsub1 xab1 xcol1 xdd1 xka1 xkb1 xkc1 xkd1 xkf1 "ValueError.__new__"))
  (xm1:K.lookup NcB=some ⟨xoc1,xod1,.dict xes1 xep1,xsl1⟩)
  (nxs1:(xes1.all (fun e=>match e.key with | .str _ _=>true | _=>false))=true)
  (xi1:nsIn K NcB "__init__"=some none)
  (xkp1:keepIn K (.ref cB)=true)
  (xcd1:clsIn K cB=some XD1)
  (nxm1:XD1.mro= .ref cB::.ref cT::Eu)
  (nxd1:XD1.hasDict=true)
  (xsa1:findIn K (.ref cB) "__setattr__"=some (some (.builtin "object.__setattr__")))
  (xga1:findIn K (.ref cB) "__getattribute__"=some (some (.builtin "BaseException.__getattribute__")))
  (xgn1:findIn K (.ref cB) "__getattr__"=some none)
  (xca1:findIn K (.ref cB) "__class__"=some (some (.builtin "object.__class__")))
  (xt1:typeIn K (.ref cB)=some (.type "type"))
  (xb1:mroIn K cB (.type "BaseException")=some true)
  (xs1:mroIn K cB (.ref cB)=some true)
  (xu1:mroIn K cB (.ref cT)=some true)
  (xv1:subIn K (.ref cB) (.type "ValueError")=some true)
  (xn2:nsIn K mainGlobals "NoStanding"=some (some (.ref cN)))
  (xl2:K.lookup cN=some (excClassObj xnm2 xq2 cN NcN xbs2 (.ref cT::Eu) true xsn2 xsub2 xab2 xcol2 xdd2 xka2 xkb2 xkc2 xkd2 xkf2 "ValueError.__new__"))
  (xm2:K.lookup NcN=some ⟨xoc2,xod2,.dict xes2 xep2,xsl2⟩)
  (nxs2:(xes2.all (fun e=>match e.key with | .str _ _=>true | _=>false))=true)
  (xi2:nsIn K NcN "__init__"=some none)
  (xkp2:keepIn K (.ref cN)=true)
  (xcd2:clsIn K cN=some XD2)
  (nxm2:XD2.mro= .ref cN::.ref cT::Eu)
  (nxd2:XD2.hasDict=true)
  (xsa2:findIn K (.ref cN) "__setattr__"=some (some (.builtin "object.__setattr__")))
  (xga2:findIn K (.ref cN) "__getattribute__"=some (some (.builtin "BaseException.__getattribute__")))
  (xgn2:findIn K (.ref cN) "__getattr__"=some none)
  (xca2:findIn K (.ref cN) "__class__"=some (some (.builtin "object.__class__")))
  (xt2:typeIn K (.ref cN)=some (.type "type"))
  (xb2:mroIn K cN (.type "BaseException")=some true)
  (xs2:mroIn K cN (.ref cN)=some true)
  (xu2:mroIn K cN (.ref cT)=some true)
  (xv2:subIn K (.ref cN) (.type "ValueError")=some true)
  (xn3:nsIn K mainGlobals "TalkOver"=some (some (.ref cO)))
  (xl3:K.lookup cO=some (excClassObj xnm3 xq3 cO NcO xbs3 (.ref cT::Eu) true xsn3 xsub3 xab3 xcol3 xdd3 xka3 xkb3 xkc3 xkd3 xkf3 "ValueError.__new__"))
  (xm3:K.lookup NcO=some ⟨xoc3,xod3,.dict xes3 xep3,xsl3⟩)
  (nxs3:(xes3.all (fun e=>match e.key with | .str _ _=>true | _=>false))=true)
  (xi3:nsIn K NcO "__init__"=some none)
  (xkp3:keepIn K (.ref cO)=true)
  (xcd3:clsIn K cO=some XD3)
  (nxm3:XD3.mro= .ref cO::.ref cT::Eu)
  (nxd3:XD3.hasDict=true)
  (xsa3:findIn K (.ref cO) "__setattr__"=some (some (.builtin "object.__setattr__")))
  (xga3:findIn K (.ref cO) "__getattribute__"=some (some (.builtin "BaseException.__getattribute__")))
  (xgn3:findIn K (.ref cO) "__getattr__"=some none)
  (xca3:findIn K (.ref cO) "__class__"=some (some (.builtin "object.__class__")))
  (xt3:typeIn K (.ref cO)=some (.type "type"))
  (xb3:mroIn K cO (.type "BaseException")=some true)
  (xs3:mroIn K cO (.ref cO)=some true)
  (xu3:mroIn K cO (.ref cT)=some true)
  (xv3:subIn K (.ref cO) (.type "ValueError")=some true)
  (xn4:nsIn K mainGlobals "NoTalk"=some (some (.ref cNK)))
  (xl4:K.lookup cNK=some (excClassObj xnm4 xq4 cNK NcNK xbs4 (.ref cT::Eu) true xsn4 xsub4 xab4 xcol4 xdd4 xka4 xkb4 xkc4 xkd4 xkf4 "ValueError.__new__"))
  (xm4:K.lookup NcNK=some ⟨xoc4,xod4,.dict xes4 xep4,xsl4⟩)
  (nxs4:(xes4.all (fun e=>match e.key with | .str _ _=>true | _=>false))=true)
  (xi4:nsIn K NcNK "__init__"=some none)
  (xkp4:keepIn K (.ref cNK)=true)
  (xcd4:clsIn K cNK=some XD4)
  (nxm4:XD4.mro= .ref cNK::.ref cT::Eu)
  (nxd4:XD4.hasDict=true)
  (xsa4:findIn K (.ref cNK) "__setattr__"=some (some (.builtin "object.__setattr__")))
  (xga4:findIn K (.ref cNK) "__getattribute__"=some (some (.builtin "BaseException.__getattribute__")))
  (xgn4:findIn K (.ref cNK) "__getattr__"=some none)
  (xca4:findIn K (.ref cNK) "__class__"=some (some (.builtin "object.__class__")))
  (xt4:typeIn K (.ref cNK)=some (.type "type"))
  (xb4:mroIn K cNK (.type "BaseException")=some true)
  (xs4:mroIn K cNK (.ref cNK)=some true)
  (xu4:mroIn K cNK (.ref cT)=some true)
  (xv4:subIn K (.ref cNK) (.type "ValueError")=some true)
  (xn5:nsIn K mainGlobals "BadName"=some (some (.ref cBN)))
  (xl5:K.lookup cBN=some (excClassObj xnm5 xq5 cBN NcBN xbs5 (.ref cT::Eu) true xsn5 xsub5 xab5 xcol5 xdd5 xka5 xkb5 xkc5 xkd5 xkf5 "ValueError.__new__"))
  (xm5:K.lookup NcBN=some ⟨xoc5,xod5,.dict xes5 xep5,xsl5⟩)
  (nxs5:(xes5.all (fun e=>match e.key with | .str _ _=>true | _=>false))=true)
  (xi5:nsIn K NcBN "__init__"=some none)
  (xkp5:keepIn K (.ref cBN)=true)
  (xcd5:clsIn K cBN=some XD5)
  (nxm5:XD5.mro= .ref cBN::.ref cT::Eu)
  (nxd5:XD5.hasDict=true)
  (xsa5:findIn K (.ref cBN) "__setattr__"=some (some (.builtin "object.__setattr__")))
  (xga5:findIn K (.ref cBN) "__getattribute__"=some (some (.builtin "BaseException.__getattribute__")))
  (xgn5:findIn K (.ref cBN) "__getattr__"=some none)
  (xca5:findIn K (.ref cBN) "__class__"=some (some (.builtin "object.__class__")))
  (xt5:typeIn K (.ref cBN)=some (.type "type"))
  (xb5:mroIn K cBN (.type "BaseException")=some true)
  (xs5:mroIn K cBN (.ref cBN)=some true)
  (xu5:mroIn K cBN (.ref cT)=some true)
  (xv5:subIn K (.ref cBN) (.type "ValueError")=some true)
  (xn6:nsIn K mainGlobals "NameTaken"=some (some (.ref cNT)))
  (xl6:K.lookup cNT=some (excClassObj xnm6 xq6 cNT NcNT xbs6 (.ref cT::Eu) true xsn6 xsub6 xab6 xcol6 xdd6 xka6 xkb6 xkc6 xkd6 xkf6 "ValueError.__new__"))
  (xm6:K.lookup NcNT=some ⟨xoc6,xod6,.dict xes6 xep6,xsl6⟩)
  (nxs6:(xes6.all (fun e=>match e.key with | .str _ _=>true | _=>false))=true)
  (xi6:nsIn K NcNT "__init__"=some none)
  (xkp6:keepIn K (.ref cNT)=true)
  (xcd6:clsIn K cNT=some XD6)
  (nxm6:XD6.mro= .ref cNT::.ref cT::Eu)
  (nxd6:XD6.hasDict=true)
  (xsa6:findIn K (.ref cNT) "__setattr__"=some (some (.builtin "object.__setattr__")))
  (xga6:findIn K (.ref cNT) "__getattribute__"=some (some (.builtin "BaseException.__getattribute__")))
  (xgn6:findIn K (.ref cNT) "__getattr__"=some none)
  (xca6:findIn K (.ref cNT) "__class__"=some (some (.builtin "object.__class__")))
  (xt6:typeIn K (.ref cNT)=some (.type "type"))
  (xb6:mroIn K cNT (.type "BaseException")=some true)
  (xs6:mroIn K cNT (.ref cNT)=some true)
  (xu6:mroIn K cNT (.ref cT)=some true)
  (xv6:subIn K (.ref cNT) (.type "ValueError")=some true)
  (xn7:nsIn K mainGlobals "NoWorld"=some (some (.ref cW)))
  (xl7:K.lookup cW=some (excClassObj xnm7 xq7 cW NcW xbs7 (.ref cT::Eu) true xsn7 xsub7 xab7 xcol7 xdd7 xka7 xkb7 xkc7 xkd7 xkf7 "ValueError.__new__"))
  (xm7:K.lookup NcW=some ⟨xoc7,xod7,.dict xes7 xep7,xsl7⟩)
  (nxs7:(xes7.all (fun e=>match e.key with | .str _ _=>true | _=>false))=true)
  (xi7:nsIn K NcW "__init__"=some none)
  (xkp7:keepIn K (.ref cW)=true)
  (xcd7:clsIn K cW=some XD7)
  (nxm7:XD7.mro= .ref cW::.ref cT::Eu)
  (nxd7:XD7.hasDict=true)
  (xsa7:findIn K (.ref cW) "__setattr__"=some (some (.builtin "object.__setattr__")))
  (xga7:findIn K (.ref cW) "__getattribute__"=some (some (.builtin "BaseException.__getattribute__")))
  (xgn7:findIn K (.ref cW) "__getattr__"=some none)
  (xca7:findIn K (.ref cW) "__class__"=some (some (.builtin "object.__class__")))
  (xt7:typeIn K (.ref cW)=some (.type "type"))
  (xb7:mroIn K cW (.type "BaseException")=some true)
  (xs7:mroIn K cW (.ref cW)=some true)
  (xu7:mroIn K cW (.ref cT)=some true)
  (xv7:subIn K (.ref cW) (.type "ValueError")=some true)
  (xp0_3:subIn K (.ref cS) (.ref cO)=some false)
  (nq0_3:(Value.ref cS == Value.ref cO)=false)
  (xr0_3:mroIn K cS (.ref cO)=some false)
  (xp0_4:subIn K (.ref cS) (.ref cNK)=some false)
  (nq0_4:(Value.ref cS == Value.ref cNK)=false)
  (xr0_4:mroIn K cS (.ref cNK)=some false)
  (xp3_0:subIn K (.ref cO) (.ref cS)=some false)
  (nq3_0:(Value.ref cO == Value.ref cS)=false)
  (xr3_0:mroIn K cO (.ref cS)=some false)
  (xp3_4:subIn K (.ref cO) (.ref cNK)=some false)
  (nq3_4:(Value.ref cO == Value.ref cNK)=false)
  (xr3_4:mroIn K cO (.ref cNK)=some false)
  (xp4_0:subIn K (.ref cNK) (.ref cS)=some false)
  (nq4_0:(Value.ref cNK == Value.ref cS)=false)
  (xr4_0:mroIn K cNK (.ref cS)=some false)
  (xp4_3:subIn K (.ref cNK) (.ref cO)=some false)
  (nq4_3:(Value.ref cNK == Value.ref cO)=false)
  (xr4_3:mroIn K cNK (.ref cO)=some false)
  (aCTalk:nsIn K mainGlobals "Talk"=some (some (.ref cK)))
  (pgTalk:PySem.W.plainGet K cK Str.empty=true)
  (hdTalk:PySem.W.hasDictIn K cK=true)
  (poTalk:PySem.W.plainOver K cK=true)
  (saTalk:findIn K (.ref cK) "__setattr__"=some (some (.builtin "object.__setattr__")))
  (mkTalk:PySem.W.makesIn K cK=true)
  (kcTalk:keepIn K (.ref cK)=true)
  (wTalk_many:findIn K (.ref cK) "many"=some none)
  (wTalk_kind:findIn K (.ref cK) "kind"=some none)
  (wTalk_sentence:findIn K (.ref cK) "sentence"=some none)
  (wTalk_rule:findIn K (.ref cK) "rule"=some none)
  (wTalk_space:findIn K (.ref cK) "space"=some none)
  (wTalk_parts:findIn K (.ref cK) "parts"=some none)
  (wTalk_given:findIn K (.ref cK) "given"=some none)
  (wTalk_left:findIn K (.ref cK) "left"=some none)
  (wTalk_ended:findIn K (.ref cK) "ended"=some none)
  (aCHouse:nsIn K mainGlobals "House"=some (some (.ref cH)))
  (pgHouse:PySem.W.plainGet K cH Str.empty=true)
  (hdHouse:PySem.W.hasDictIn K cH=true)
  (poHouse:PySem.W.plainOver K cH=true)
  (saHouse:findIn K (.ref cH) "__setattr__"=some (some (.builtin "object.__setattr__")))
  (mkHouse:PySem.W.makesIn K cH=true)
  (kcHouse:keepIn K (.ref cH)=true)
  (wHouse_space:findIn K (.ref cH) "space"=some none)
  (wHouse_many:findIn K (.ref cH) "many"=some none)
  (wHouse_marks:findIn K (.ref cH) "marks"=some none)
  (wHouse_talks:findIn K (.ref cH) "talks"=some none)
  (wHouse_lines:findIn K (.ref cH) "lines"=some none)
  (aL:nsIn K mainGlobals "LETTERS"=some (some (.str "abcde" tL)))
  (aJ:nsIn K mainGlobals "JOINTS"=some (some (.ref dJ)))
  (lJ:K.lookup dJ=some ⟨.type "dict",none,.dict #[⟨hashStr w "and",.str "and" t1,.str "&" t2⟩,⟨hashStr w "or",.str "or" t3,.str "|" t4⟩,⟨hashStr w "if",.str "if" t5,.str ">" t6⟩,⟨hashStr w "same",.str "same" t7,.str "=" t8⟩] ep,#[]⟩)
  (nJ:(dJ == sysModules)=false)
  (aNS:nsIn K mainGlobals "NAME_SIGNS"=some (some (.str "abcdefghijklmnopqrstuvwxyz" tNS)))
  (aLN:nsIn K mainGlobals "LONGEST_NAME"=some (some (.int 8 tLN)))
  (xcNBn:nsIn K mainGlobals "NoBook"=some (some (.ref cNB)))
  (xcNBc:clsIn K cNB=some XDcNB)
  (xcNBt:typeIn K (.ref cNB)=some (.type "type"))
  (xcNBscNK:subIn K (.ref cNK) (.ref cNB)=some false)
  (ncNBcNK:(Value.ref cNK == Value.ref cNB)=false)
  (xcNBscS:subIn K (.ref cS) (.ref cNB)=some false)
  (ncNBcS:(Value.ref cS == Value.ref cNB)=false)
  (xcNBscO:subIn K (.ref cO) (.ref cNB)=some false)
  (ncNBcO:(Value.ref cO == Value.ref cNB)=false)
  (xcGn:nsIn K mainGlobals "NothingSaid"=some (some (.ref cG)))
  (xcGc:clsIn K cG=some XDcG)
  (xcGt:typeIn K (.ref cG)=some (.type "type"))
  (xcGscNK:subIn K (.ref cNK) (.ref cG)=some false)
  (ncGcNK:(Value.ref cNK == Value.ref cG)=false)
  (xcGscS:subIn K (.ref cS) (.ref cG)=some false)
  (ncGcS:(Value.ref cS == Value.ref cG)=false)
  (xcGscO:subIn K (.ref cO) (.ref cG)=some false)
  (ncGcO:(Value.ref cO == Value.ref cG)=false)
  : ∃fd:FuncData,(∀(s:Shared) (v:Value),BindsTo s fd ⟨[v],[]⟩ [("_law_script",v)])∧∀bz:Heap,K.In bz→bz.Ns mainGlobals mg→FnOk l.prog w K mg bz AU 13 fa fd ["_law_script"] (LV K):=by
 have e:=hfa.symm.trans (mg_of X G a79)
 cases e
 have F1:=Ar (st:=NX) l1 c1 k1
 have F2:=Ar (st:=Ou) l2 c2 k2
 have F3:=Ar (st:=IB) l3 c3 k3
 have F4:=Ar (st:=Fo) l4 c4 k4
 have F5:=Ar (st:=DX) l5 c5 k5
 have F6:=Ar (st:=Cz) l6 c6 k6
 have F7:=Ar (st:=CZ) l7 c7 k7
 have F8:=Ar (st:=B8) l8 c8 k8
 have F9:=Ar (st:=B6) l9 c9 k9
 have F10:=Ar (st:=EX) l10 c10 k10
 have F11:=Ar (st:=Fh) l11 c11 k11
 have F12:=Ar (st:=HF) l12 c12 k12
 have F13:=Ar (st:=Fv) l13 c13 k13
 have F14:=Ar (st:=Ek) l14 c14 k14
 have F15:=Ar (st:=D5) l15 c15 k15
 have F16:=Ar (st:=Cu) l16 c16 k16
 have F17:=Ar (st:=CQ) l17 c17 k17
 have F18:=Ar (st:=Fz) l18 c18 k18
 have F19:=Ar (st:=EZ) l19 c19 k19
 have F20:=Ar (st:=ED) l20 c20 k20
 have F21:=Ar (st:=D1) l21 c21 k21
 have F22:=Ar (st:=Db) l22 c22 k22
 have F23:=Ar (st:=Fa) l23 c23 k23
 have F24:=Ar (st:=Fk) l24 c24 k24
 have F25:=Ar (st:=IE) l25 c25 k25
 have F26:=Ar (st:=DP) l26 c26 k26
 have F27:=Ar (st:=Ed) l27 c27 k27
 have F28:=Ar (st:=Iw) l28 c28 k28
 have F29:=Ar (st:=FA) l29 c29 k29
 have F30:=Ar (st:=EW) l30 c30 k30
 have F31:=Ar (st:=D3) l31 c31 k31
 have F32:=Ar (st:=DN) l32 c32 k32
 have F33:=Ar (st:=Fw) l33 c33 k33
 have F34:=Ar (st:=CG) l34 c34 k34
 have F35:=Ar (st:=Ej) l35 c35 k35
 have F36:=Ar (st:=Fj) l36 c36 k36
 have F37:=Ar (st:=Fc) l37 c37 k37
 have F38:=Ar (st:=Fp) l38 c38 k38
 have F39:=Ar (st:=CU) l39 c39 k39
 have F40:=Ar (st:=Df) l40 c40 k40
 have F41:=Ar (st:=Fq) l41 c41 k41
 have F42:=Ar (st:=D0) l42 c42 k42
 have F43:=Ar (st:=DQ) l43 c43 k43
 have F44:=Ar (st:=B1) l44 c44 k44
 have F45:=Ar (st:=Fd) l45 c45 k45
 have F46:=Ar (st:=E3) l46 c46 k46
 have F47:=Ar (st:=Fn) l47 c47 k47
 have F48:=Ar (st:=Eb) l48 c48 k48
 have F49:=Ar (st:=Cw) l49 c49 k49
 have F50:=Ar (st:=DW) l50 c50 k50
 have F51:=Ar (st:=E8) l51 c51 k51
 have F52:=Ar (st:=Eh) l52 c52 k52
 have F53:=Ar (st:=Hy) l53 c53 k53
 have F54:=Ar (st:=HR) l54 c54 k54
 have F55:=Ar (st:=Fl) l55 c55 k55
 have F56:=Ar (st:=HW) l56 c56 k56
 have F57:=Ar (st:=Ij) l57 c57 k57
 have F58:=Ar (st:=Cv) l58 c58 k58
 have F59:=Ar (st:=Im) l59 c59 k59
 have F60:=Ar (st:=Ft) l60 c60 k60
 have F61:=Ar (st:=Ec) l61 c61 k61
 have F62:=Ar (st:=B5) l62 c62 k62
 have F63:=Ar (st:=B4) l63 c63 k63
 have F64:=Ar (st:=CV) l64 c64 k64
 have F65:=Ar (st:=Oe) l65 c65 k65
 have F66:=Ar (st:=D6) l66 c66 k66
 have F67:=Ar (st:=E2) l67 c67 k67
 have F68:=Ar (st:=Ea) l68 c68 k68
 have F69:=Ar (st:=Nd) l69 c69 k69
 have F70:=Ar (st:=B3) l70 c70 k70
 have F71:=Ar (st:=DZ) l71 c71 k71
 have F72:=Ar (st:=Ig) l72 c72 k72
 have F73:=Ar (st:=DT) l73 c73 k73
 have F74:=Ar (st:=HZ) l74 c74 k74
 have F75:=Ar (st:=DY) l75 c75 k75
 have F76:=Ar (st:=E5) l76 c76 k76
 have F77:=Ar (st:=HK) l77 c77 k77
 have F78:=Ar (st:=D4) l78 c78 k78
 have FLAW:=Ar (st:=Ja) l79 c79 k79
 have C1:AW K mg "_law_num" f1 _ ["_law_script","_law_k"]:=⟨mg_of X G a1,k1,F1.binds fun _ _ _ _ _ _ us hl=>(by obtain⟨_,_,rfl⟩:=AQ hl;rfl)⟩
 have C2:AW K mg "_law_few" f2 _ ["_law_n"]:=⟨mg_of X G a2,k2,F2.binds fun _ _ _ _ _ _ us hl=>(by obtain⟨_,rfl⟩:=A9 hl;rfl)⟩
 have C3:AW K mg "_law_sentence" f3 _ ["_law_n","_law_most","_law_many"]:=⟨mg_of X G a3,k3,F3.binds fun _ _ _ _ _ _ us hl=>(by obtain⟨_,_,_,rfl⟩:=BE hl;rfl)⟩
 have C4:AW K mg "_law_name" f4 _ ["_law_n"]:=⟨mg_of X G a4,k4,F4.binds fun _ _ _ _ _ _ us hl=>(by obtain⟨_,rfl⟩:=A9 hl;rfl)⟩
 have C5:AW K mg "_law_names" f5 _ ["_law_script"]:=⟨mg_of X G a5,k5,F5.binds fun _ _ _ _ _ _ us hl=>(by obtain⟨_,rfl⟩:=A9 hl;rfl)⟩
 have C6:AD K cH "refuse_no_talk" f6 _ ["self","name"]:=⟨⟨a6,i6,k6⟩,F6.binds fun _ _ _ _ _ _ us hl=>(by obtain⟨_,_,rfl⟩:=AQ hl;rfl)⟩
 have C7:AD K cH "talk_of" f7 _ ["self","name"]:=⟨⟨a7,i7,k7⟩,F7.binds fun _ _ _ _ _ _ us hl=>(by obtain⟨_,_,rfl⟩:=AQ hl;rfl)⟩
 have C8:AD K cK "entries" f8 _ ["self"]:=⟨⟨a8,i8,k8⟩,F8.binds fun _ _ _ _ _ _ us hl=>(by obtain⟨_,rfl⟩:=A9 hl;rfl)⟩
 have C9:AD K cH "entries" f9 _ ["self","name"]:=⟨⟨a9,i9,k9⟩,F9.binds fun _ _ _ _ _ _ us hl=>(by obtain⟨_,_,rfl⟩:=AQ hl;rfl)⟩
 have C10:AD K cK "held" f10 _ ["self"]:=⟨⟨a10,i10,k10⟩,F10.binds fun _ _ _ _ _ _ us hl=>(by obtain⟨_,rfl⟩:=A9 hl;rfl)⟩
 have C11:AD K cH "held" f11 _ ["self","name"]:=⟨⟨a11,i11,k11⟩,F11.binds fun _ _ _ _ _ _ us hl=>(by obtain⟨_,_,rfl⟩:=AQ hl;rfl)⟩
 have C12:AW K mg "in_both" f12 _ ["one","other"]:=⟨mg_of X G a12,k12,F12.binds fun _ _ _ _ _ _ us hl=>(by obtain⟨_,_,rfl⟩:=AQ hl;rfl)⟩
 have C13:AW K mg "some_within" f13 _ ["one","other"]:=⟨mg_of X G a13,k13,F13.binds fun _ _ _ _ _ _ us hl=>(by obtain⟨_,_,rfl⟩:=AQ hl;rfl)⟩
 have C14:AW K mg "missed_side" f14 _ ["sides","worlds"]:=⟨mg_of X G a14,k14,F14.binds fun _ _ _ _ _ _ us hl=>(by obtain⟨_,_,rfl⟩:=AQ hl;rfl)⟩
 have C15:AW K mg "stands" f15 _ ["sides","worlds"]:=⟨mg_of X G a15,k15,F15.binds fun _ _ _ _ _ _ us hl=>(by obtain⟨_,_,rfl⟩:=AQ hl;rfl)⟩
 have C16:AD K cK "caught" f16 _ ["self"]:=⟨⟨a16,i16,k16⟩,F16.binds fun _ _ _ _ _ _ us hl=>(by obtain⟨_,rfl⟩:=A9 hl;rfl)⟩
 have C17:AD K cH "caught" f17 _ ["self","name"]:=⟨⟨a17,i17,k17⟩,F17.binds fun _ _ _ _ _ _ us hl=>(by obtain⟨_,_,rfl⟩:=AQ hl;rfl)⟩
 have C18:AD K cK "over" f18 _ ["self"]:=⟨⟨a18,i18,k18⟩,F18.binds fun _ _ _ _ _ _ us hl=>(by obtain⟨_,rfl⟩:=A9 hl;rfl)⟩
 have C19:AD K cH "over" f19 _ ["self","name"]:=⟨⟨a19,i19,k19⟩,F19.binds fun _ _ _ _ _ _ us hl=>(by obtain⟨_,_,rfl⟩:=AQ hl;rfl)⟩
 have C20:AW K mg "clash_of" f20 _ ["talk"]:=⟨mg_of X G a20,k20,F20.binds fun _ _ _ _ _ _ us hl=>(by obtain⟨_,rfl⟩:=A9 hl;rfl)⟩
 have C21:AD K cH "clash" f21 _ ["self","name"]:=⟨⟨a21,i21,k21⟩,F21.binds fun _ _ _ _ _ _ us hl=>(by obtain⟨_,_,rfl⟩:=AQ hl;rfl)⟩
 have C22:AW K mg "refuse_over" f22 _ ["talk"]:=⟨mg_of X G a22,k22,F22.binds fun _ _ _ _ _ _ us hl=>(by obtain⟨_,rfl⟩:=A9 hl;rfl)⟩
 have C23:AD K cK "back" f23 _ ["self"]:=⟨⟨a23,i23,k23⟩,F23.binds fun _ _ _ _ _ _ us hl=>(by obtain⟨_,rfl⟩:=A9 hl;rfl)⟩
 have C24:AD K cH "back" f24 _ ["self","name"]:=⟨⟨a24,i24,k24⟩,F24.binds fun _ _ _ _ _ _ us hl=>(by obtain⟨_,_,rfl⟩:=AQ hl;rfl)⟩
 have C25:AD K cK "end" f25 _ ["self"]:=⟨⟨a25,i25,k25⟩,F25.binds fun _ _ _ _ _ _ us hl=>(by obtain⟨_,rfl⟩:=A9 hl;rfl)⟩
 have C26:AW K mg "line_of" f26 _ ["words"]:=⟨mg_of X G a26,k26,F26.binds fun _ _ _ _ _ _ us hl=>(by obtain⟨_,rfl⟩:=A9 hl;rfl)⟩
 have C27:AD K cH "write" f27 _ ["self","words"]:=⟨⟨a27,i27,k27⟩,F27.binds fun _ _ _ _ _ _ us hl=>(by obtain⟨_,_,rfl⟩:=AQ hl;rfl)⟩
 have C28:AD K cH "end" f28 _ ["self","name"]:=⟨⟨a28,i28,k28⟩,F28.binds fun _ _ _ _ _ _ us hl=>(by obtain⟨_,_,rfl⟩:=AQ hl;rfl)⟩
 have C29:AD K cH "drop" f29 _ ["self","name"]:=⟨⟨a29,i29,k29⟩,F29.binds fun _ _ _ _ _ _ us hl=>(by obtain⟨_,_,rfl⟩:=AQ hl;rfl)⟩
 have C30:AW K mg "letter_holds" f30 _ ["letter","world"]:=⟨mg_of X G a30,k30,F30.binds fun _ _ _ _ _ _ us hl=>(by obtain⟨_,_,rfl⟩:=AQ hl;rfl)⟩
 have C31:AW K mg "agrees" f31 _ ["world","marks"]:=⟨mg_of X G a31,k31,F31.binds fun _ _ _ _ _ _ us hl=>(by obtain⟨_,_,rfl⟩:=AQ hl;rfl)⟩
 have C32:AW K mg "seen_by" f32 _ ["room","marks"]:=⟨mg_of X G a32,k32,F32.binds fun _ _ _ _ _ _ us hl=>(by obtain⟨_,_,rfl⟩:=AQ hl;rfl)⟩
 have C33:AD K cH "seen" f33 _ ["self"]:=⟨⟨a33,i33,k33⟩,F33.binds fun _ _ _ _ _ _ us hl=>(by obtain⟨_,rfl⟩:=A9 hl;rfl)⟩
 have C34:AW K mg "catch_by" f34 _ ["talk","seen"]:=⟨mg_of X G a34,k34,F34.binds fun _ _ _ _ _ _ us hl=>(by obtain⟨_,_,rfl⟩:=AQ hl;rfl)⟩
 have C35:AD K cH "catch" f35 _ ["self","name"]:=⟨⟨a35,i35,k35⟩,F35.binds fun _ _ _ _ _ _ us hl=>(by obtain⟨_,_,rfl⟩:=AQ hl;rfl)⟩
 have C36:AD K cH "fork" f36 _ ["self","name","other"]:=⟨⟨a36,i36,k36⟩,F36.binds fun _ _ _ _ _ _ us hl=>(by obtain⟨_,_,_,rfl⟩:=BE hl;rfl)⟩
 have C37:AW K mg "_law_look" f37 _ ["_law_house","_law_deed","_law_name_here","_law_sentence_here"]:=⟨mg_of X G a37,k37,F37.binds fun _ _ _ _ _ _ us hl=>(by obtain⟨_,_,_,_,rfl⟩:=Hq hl;rfl)⟩
 have C38:AW K mg "parts_of" f38 _ ["layer"]:=⟨mg_of X G a38,k38,F38.binds fun _ _ _ _ _ _ us hl=>(by obtain⟨_,rfl⟩:=A9 hl;rfl)⟩
 have C39:AW K mg "letters" f39 _ ["sentence"]:=⟨mg_of X G a39,k39,F39.binds fun _ _ _ _ _ _ us hl=>(by obtain⟨_,rfl⟩:=A9 hl;rfl)⟩
 have C40:AW K mg "refuse_strange" f40 _ ["sentence","many"]:=⟨mg_of X G a40,k40,F40.binds fun _ _ _ _ _ _ us hl=>(by obtain⟨_,_,rfl⟩:=AQ hl;rfl)⟩
 have C41:AW K mg "steps_of" f41 _ ["sentence"]:=⟨mg_of X G a41,k41,F41.binds fun _ _ _ _ _ _ us hl=>(by obtain⟨_,rfl⟩:=A9 hl;rfl)⟩
 have C42:AW K mg "joined" f42 _ ["kind","one","other"]:=⟨mg_of X G a42,k42,F42.binds fun _ _ _ _ _ _ us hl=>(by obtain⟨_,_,_,rfl⟩:=BE hl;rfl)⟩
 have C43:AW K mg "true_by" f43 _ ["steps","world"]:=⟨mg_of X G a43,k43,F43.binds fun _ _ _ _ _ _ us hl=>(by obtain⟨_,_,rfl⟩:=AQ hl;rfl)⟩
 have C44:AW K mg "worlds_of" f44 _ ["sentence","room"]:=⟨mg_of X G a44,k44,F44.binds fun _ _ _ _ _ _ us hl=>(by obtain⟨_,_,rfl⟩:=AQ hl;rfl)⟩
 have C45:AW K mg "in_first_only" f45 _ ["one","other"]:=⟨mg_of X G a45,k45,F45.binds fun _ _ _ _ _ _ us hl=>(by obtain⟨_,_,rfl⟩:=AQ hl;rfl)⟩
 have C46:AW K mg "all_within" f46 _ ["one","other"]:=⟨mg_of X G a46,k46,F46.binds fun _ _ _ _ _ _ us hl=>(by obtain⟨_,_,rfl⟩:=AQ hl;rfl)⟩
 have C47:AW K mg "plain" f47 _ ["seen","worlds"]:=⟨mg_of X G a47,k47,F47.binds fun _ _ _ _ _ _ us hl=>(by obtain⟨_,_,rfl⟩:=AQ hl;rfl)⟩
 have C48:AW K mg "left_by" f48 _ ["word","row","worlds"]:=⟨mg_of X G a48,k48,F48.binds fun _ _ _ _ _ _ us hl=>(by obtain⟨_,_,_,rfl⟩:=BE hl;rfl)⟩
 have C49:AW K mg "barring_side" f49 _ ["sides","going","seen","worlds"]:=⟨mg_of X G a49,k49,F49.binds fun _ _ _ _ _ _ us hl=>(by obtain⟨_,_,_,_,rfl⟩:=Hq hl;rfl)⟩
 have C50:AW K mg "answer" f50 _ ["sides","going","seen","worlds"]:=⟨mg_of X G a50,k50,F50.binds fun _ _ _ _ _ _ us hl=>(by obtain⟨_,_,_,_,rfl⟩:=Hq hl;rfl)⟩
 have C51:AD K cK "base" f51 _ ["self"]:=⟨⟨a51,i51,k51⟩,F51.binds fun _ _ _ _ _ _ us hl=>(by obtain⟨_,rfl⟩:=A9 hl;rfl)⟩
 have C52:AD K cK "going" f52 _ ["self"]:=⟨⟨a52,i52,k52⟩,F52.binds fun _ _ _ _ _ _ us hl=>(by obtain⟨_,rfl⟩:=A9 hl;rfl)⟩
 have C53:AD K cK "ask" f53 _ ["self","sentence","seen"]:=⟨⟨a53,i53,k53⟩,F53.binds fun _ _ _ _ _ _ us hl=>(by obtain⟨_,_,_,rfl⟩:=BE hl;rfl)⟩
 have C54:AD K cK "say" f54 _ ["self","sentence","seen"]:=⟨⟨a54,i54,k54⟩,F54.binds fun _ _ _ _ _ _ us hl=>(by obtain⟨_,_,_,rfl⟩:=BE hl;rfl)⟩
 have C55:AW K mg "shown" f55 _ ["sentence"]:=⟨mg_of X G a55,k55,F55.binds fun _ _ _ _ _ _ us hl=>(by obtain⟨_,rfl⟩:=A9 hl;rfl)⟩
 have C56:AD K cH "say" f56 _ ["self","name","sentence"]:=⟨⟨a56,i56,k56⟩,F56.binds fun _ _ _ _ _ _ us hl=>(by obtain⟨_,_,_,rfl⟩:=BE hl;rfl)⟩
 have C57:AD K cH "ask" f57 _ ["self","name","sentence"]:=⟨⟨a57,i57,k57⟩,F57.binds fun _ _ _ _ _ _ us hl=>(by obtain⟨_,_,_,rfl⟩:=BE hl;rfl)⟩
 have C58:AW K mg "paper_of" f58 _ ["talk","sentence","seen"]:=⟨mg_of X G a58,k58,F58.binds fun _ _ _ _ _ _ us hl=>(by obtain⟨_,_,_,rfl⟩:=BE hl;rfl)⟩
 have C59:AD K cH "why" f59 _ ["self","name","sentence"]:=⟨⟨a59,i59,k59⟩,F59.binds fun _ _ _ _ _ _ us hl=>(by obtain⟨_,_,_,rfl⟩:=BE hl;rfl)⟩
 have C60:AW K mg "way_to" f60 _ ["talk","goal","seen"]:=⟨mg_of X G a60,k60,F60.binds fun _ _ _ _ _ _ us hl=>(by obtain⟨_,_,_,rfl⟩:=BE hl;rfl)⟩
 have C61:AD K cH "bring" f61 _ ["self","name","goal"]:=⟨⟨a61,i61,k61⟩,F61.binds fun _ _ _ _ _ _ us hl=>(by obtain⟨_,_,_,rfl⟩:=BE hl;rfl)⟩
 have C62:AD K cH "plainly" f62 _ ["self","sentence"]:=⟨⟨a62,i62,k62⟩,F62.binds fun _ _ _ _ _ _ us hl=>(by obtain⟨_,_,rfl⟩:=AQ hl;rfl)⟩
 have C63:AD K cH "refuse_new_name" f63 _ ["self","name"]:=⟨⟨a63,i63,k63⟩,F63.binds fun _ _ _ _ _ _ us hl=>(by obtain⟨_,_,rfl⟩:=AQ hl;rfl)⟩
 have C64:AW K mg "sides_of" f64 _ ["room","kind","sentence"]:=⟨mg_of X G a64,k64,F64.binds fun _ _ _ _ _ _ us hl=>(by obtain⟨_,_,_,rfl⟩:=BE hl;rfl)⟩
 have C65:AW K mg "in_any" f65 _ ["rows"]:=⟨mg_of X G a65,k65,F65.binds fun _ _ _ _ _ _ us hl=>(by obtain⟨_,rfl⟩:=A9 hl;rfl)⟩
 have C66:AW K mg "base_of" f66 _ ["sides"]:=⟨mg_of X G a66,k66,F66.binds fun _ _ _ _ _ _ us hl=>(by obtain⟨_,rfl⟩:=A9 hl;rfl)⟩
 have C67:SG K mg cK "Talk" f67 _ ["self","many","room","kind","sentence","rule"]:=⟨⟨mkTalk,a67,i67,kcTalk⟩,mg_of X G aCTalk,F67.binds fun _ _ _ _ _ _ us hl=>(by obtain⟨_,_,_,_,_,_,rfl⟩:=UN hl;rfl)⟩
 have C68:AD K cH "begin" f68 _ ["self","name","kind","sentence","rule"]:=⟨⟨a68,i68,k68⟩,F68.binds fun _ _ _ _ _ _ us hl=>(by obtain⟨_,_,_,_,_,rfl⟩:=OT hl;rfl)⟩
 have C69:AW K mg "_law_do" f69 _ ["_law_house","_law_deed","_law_name_here","_law_sentence_here"]:=⟨mg_of X G a69,k69,F69.binds fun _ _ _ _ _ _ us hl=>(by obtain⟨_,_,_,_,rfl⟩:=Hq hl;rfl)⟩
 have C70:AW K mg "_law_refusal" f70 _ ["_law_house","_law_deed","_law_name_here","_law_sentence_here"]:=⟨mg_of X G a70,k70,F70.binds fun _ _ _ _ _ _ us hl=>(by obtain⟨_,_,_,_,rfl⟩:=Hq hl;rfl)⟩
 have C71:AW K mg "_law_there" f71 _ ["_law_house","_law_name_here","_law_over","_law_odd","_law_sentence_here"]:=⟨mg_of X G a71,k71,F71.binds fun _ _ _ _ _ _ us hl=>(by obtain⟨_,_,_,_,_,rfl⟩:=OT hl;rfl)⟩
 have C72:AW K mg "_law_says" f72 _ ["_law_found","_law_due"]:=⟨mg_of X G a72,k72,F72.binds fun _ _ _ _ _ _ us hl=>(by obtain⟨_,_,rfl⟩:=AQ hl;rfl)⟩
 have C73:AW K mg "_law_texts_are" f73 _ ["_law_found","_law_due"]:=⟨mg_of X G a73,k73,F73.binds fun _ _ _ _ _ _ us hl=>(by obtain⟨_,_,rfl⟩:=AQ hl;rfl)⟩
 have C74:AW K mg "all_worlds" f74 _ ["many"]:=⟨mg_of X G a74,k74,F74.binds fun _ _ _ _ _ _ us hl=>(by obtain⟨_,rfl⟩:=A9 hl;rfl)⟩
 have C75:AW K mg "room_of" f75 _ ["many","standing"]:=⟨mg_of X G a75,k75,F75.binds fun _ _ _ _ _ _ us hl=>(by obtain⟨_,_,rfl⟩:=AQ hl;rfl)⟩
 have C76:SG K mg cH "House" f76 _ ["self","many","standing"]:=⟨⟨mkHouse,a76,i76,kcHouse⟩,mg_of X G aCHouse,F76.binds fun _ _ _ _ _ _ us hl=>(by obtain⟨_,_,_,rfl⟩:=BE hl;rfl)⟩
 have C77:AD K cH "log" f77 _ ["self"]:=⟨⟨a77,i77,k77⟩,F77.binds fun _ _ _ _ _ _ us hl=>(by obtain⟨_,rfl⟩:=A9 hl;rfl)⟩
 have C78:AD K cH "names" f78 _ ["self"]:=⟨⟨a78,i78,k78⟩,F78.binds fun _ _ _ _ _ _ us hl=>(by obtain⟨_,rfl⟩:=A9 hl;rfl)⟩
 have zabs:=mg_none_of X G yabs
 have zlen:=mg_none_of X G ylen
 have zrange:=mg_none_of X G yrange
 have zisinstance:=mg_none_of X G yisinstance
 have zint:=mg_none_of X G yint
 have zbool:=mg_none_of X G ybool
 have zstr:=mg_none_of X G ystr
 have ztuple:=mg_none_of X G ytuple
 have zlist:=mg_none_of X G ylist
 have zset:=mg_none_of X G yset
 have zsorted:=mg_none_of X G ysorted
 have zany:=mg_none_of X G yany
 have zall:=mg_none_of X G yall
 have zValueError:=mg_none_of X G yValueError
 have zenumerate:=mg_none_of X G yenumerate
 have zmin:=mg_none_of X G ymin
 refine⟨fnOf "law" "law" (Ak Ja) (Aj Ja) (Ad Ja) .none kV79 dc79 pm79 an79 cd79 ct79,fun s v=>.of_eq rfl,fun bz _ _=>?_⟩
 have B:Bl mg:=⟨zabs,zlen,zrange⟩
 have T:Ht mg:=⟨zisinstance,zint,zbool,zstr,ztuple,zlist,zset,zsorted,zrange,zany,zall⟩
 have XT:Vj K mg cT:=⟨mg_of X G xTn,xTt,by rw[xTc1];rfl,xTbse,zValueError,zisinstance⟩
 have X_StrangeLetter:Cb K mg "StrangeLetter" cS cT:=⟨⟨⟨_,xcd0,nxm0,nxd0⟩,xsa0,xga0,xgn0,xca0,xcg,xct⟩,BQ xl0 xm0 nxs0 xi0 xTl xTm nTs xTi xkp0,mg_of X G xn0,xt0,by rw[xcd0];rfl,xb0,xs0,xu0,DA nuV xv0⟩
 have X_BadWord:Cb K mg "BadWord" cB cT:=⟨⟨⟨_,xcd1,nxm1,nxd1⟩,xsa1,xga1,xgn1,xca1,xcg,xct⟩,BQ xl1 xm1 nxs1 xi1 xTl xTm nTs xTi xkp1,mg_of X G xn1,xt1,by rw[xcd1];rfl,xb1,xs1,xu1,DA nuV xv1⟩
 have X_NoStanding:Cb K mg "NoStanding" cN cT:=⟨⟨⟨_,xcd2,nxm2,nxd2⟩,xsa2,xga2,xgn2,xca2,xcg,xct⟩,BQ xl2 xm2 nxs2 xi2 xTl xTm nTs xTi xkp2,mg_of X G xn2,xt2,by rw[xcd2];rfl,xb2,xs2,xu2,DA nuV xv2⟩
 have X_TalkOver:Cb K mg "TalkOver" cO cT:=⟨⟨⟨_,xcd3,nxm3,nxd3⟩,xsa3,xga3,xgn3,xca3,xcg,xct⟩,BQ xl3 xm3 nxs3 xi3 xTl xTm nTs xTi xkp3,mg_of X G xn3,xt3,by rw[xcd3];rfl,xb3,xs3,xu3,DA nuV xv3⟩
 have X_NoTalk:Cb K mg "NoTalk" cNK cT:=⟨⟨⟨_,xcd4,nxm4,nxd4⟩,xsa4,xga4,xgn4,xca4,xcg,xct⟩,BQ xl4 xm4 nxs4 xi4 xTl xTm nTs xTi xkp4,mg_of X G xn4,xt4,by rw[xcd4];rfl,xb4,xs4,xu4,DA nuV xv4⟩
 have X_BadName:Cb K mg "BadName" cBN cT:=⟨⟨⟨_,xcd5,nxm5,nxd5⟩,xsa5,xga5,xgn5,xca5,xcg,xct⟩,BQ xl5 xm5 nxs5 xi5 xTl xTm nTs xTi xkp5,mg_of X G xn5,xt5,by rw[xcd5];rfl,xb5,xs5,xu5,DA nuV xv5⟩
 have X_NameTaken:Cb K mg "NameTaken" cNT cT:=⟨⟨⟨_,xcd6,nxm6,nxd6⟩,xsa6,xga6,xgn6,xca6,xcg,xct⟩,BQ xl6 xm6 nxs6 xi6 xTl xTm nTs xTi xkp6,mg_of X G xn6,xt6,by rw[xcd6];rfl,xb6,xs6,xu6,DA nuV xv6⟩
 have X_NoWorld:Cb K mg "NoWorld" cW cT:=⟨⟨⟨_,xcd7,nxm7,nxd7⟩,xsa7,xga7,xgn7,xca7,xcg,xct⟩,BQ xl7 xm7 nxs7 xi7 xTl xTm nTs xTi xkp7,mg_of X G xn7,xt7,by rw[xcd7];rfl,xb7,xs7,xu7,DA nuV xv7⟩
 have A_StrangeLetter_TalkOver:OG K cS cO:=⟨xr0_3,BW nq0_3 (by rw[xcd3];rfl) xt3 xp0_3⟩
 have A_StrangeLetter_NoTalk:OG K cS cNK:=⟨xr0_4,BW nq0_4 (by rw[xcd4];rfl) xt4 xp0_4⟩
 have A_TalkOver_StrangeLetter:OG K cO cS:=⟨xr3_0,BW nq3_0 (by rw[xcd0];rfl) xt0 xp3_0⟩
 have A_TalkOver_NoTalk:OG K cO cNK:=⟨xr3_4,BW nq3_4 (by rw[xcd4];rfl) xt4 xp3_4⟩
 have A_NoTalk_StrangeLetter:OG K cNK cS:=⟨xr4_0,BW nq4_0 (by rw[xcd0];rfl) xt0 xp4_0⟩
 have A_NoTalk_TalkOver:OG K cNK cO:=⟨xr4_3,BW nq4_3 (by rw[xcd3];rfl) xt3 xp4_3⟩
 have TX:Hn K cK:=⟨⟨pgTalk,hdTalk,poTalk,saTalk⟩,wTalk_many,wTalk_kind,wTalk_sentence,wTalk_rule,wTalk_space,wTalk_parts,wTalk_given,wTalk_left,wTalk_ended⟩
 have HX:EU K cH:=⟨⟨pgHouse,hdHouse,poHouse,saHouse⟩,wHouse_space,wHouse_many,wHouse_marks,wHouse_talks,wHouse_lines⟩
 have SHT:SW l.prog w K mg:=⟨zisinstance,zstr,⟨_,mg_of X G aL⟩,dJ,mg_of X G aJ,UZ lJ (by decide) nJ (fun _=>rfl)⟩
 have XcNB:VJ mg "NoBook" cNB:=⟨mg_of X G xcNBn⟩
 have N_cNK_cNB:=BW ncNBcNK (by rw[xcNBc];rfl) xcNBt xcNBscNK
 have N_cS_cNB:=BW ncNBcS (by rw[xcNBc];rfl) xcNBt xcNBscS
 have N_cO_cNB:=BW ncNBcO (by rw[xcNBc];rfl) xcNBt xcNBscO
 have XcG:VJ mg "NothingSaid" cG:=⟨mg_of X G xcGn⟩
 have N_cNK_cG:=BW ncGcNK (by rw[xcGc];rfl) xcGt xcGscNK
 have N_cS_cG:=BW ncGcS (by rw[xcGc];rfl) xcGt xcGscS
 have N_cO_cG:=BW ncGcO (by rw[xcGc];rfl) xcGt xcGscO
 have FX:=Sb X_NoTalk X_StrangeLetter X_TalkOver A_NoTalk_StrangeLetter A_NoTalk_TalkOver N_cNK_cG N_cNK_cNB A_StrangeLetter_NoTalk A_StrangeLetter_TalkOver N_cS_cG N_cS_cNB A_TalkOver_NoTalk A_TalkOver_StrangeLetter N_cO_cG N_cO_cNB
 have G1:=TV (P:=l.prog) (w:=w) (mg:=mg) (bz:=bz) F1 B
 have G2:=Uz (P:=l.prog) (w:=w) (mg:=mg) (bz:=bz) F2
 have G3:=Rv (P:=l.prog) (w:=w) (mg:=mg) (bz:=bz) F3 B
 have G4:=QE (P:=l.prog) (w:=w) (mg:=mg) (bz:=bz) F4 B
 have G5:=NY (P:=l.prog) (w:=w) (mg:=mg) (bz:=bz) F5 B G1 C1 G4 C4
 have G6:=Lq (P:=l.prog) (w:=w) (mg:=mg) (bz:=bz) F6 (cK:=cK) HX X_NoTalk
 have G7:=K1 (P:=l.prog) (w:=w) (mg:=mg) (bz:=bz) F7 HX G6 C6
 have G8:=Jx (P:=l.prog) (w:=w) (mg:=mg) (bz:=bz) F8 TX T
 have G9:=JJ (P:=l.prog) (w:=w) (mg:=mg) (bz:=bz) F9 HX TX G7 C7 G8 C8
 have G10:=Qr (P:=l.prog) (w:=w) (mg:=mg) (bz:=bz) F10 TX T
 have G11:=Px (P:=l.prog) (w:=w) (mg:=mg) (bz:=bz) F11 HX TX G7 C7 G10 C10
 have G12:=Rr (P:=l.prog) (w:=w) (mg:=mg) (bz:=bz) F12 T
 have G13:=QH (P:=l.prog) (w:=w) (mg:=mg) (bz:=bz) F13 B G12 C12
 have G14:=Np (P:=l.prog) (w:=w) (mg:=mg) (bz:=bz) F14 zenumerate G13 C13
 have G15:=N6 (P:=l.prog) (w:=w) (mg:=mg) (bz:=bz) F15 G14 C14
 have G16:=Le (P:=l.prog) (w:=w) (mg:=mg) (bz:=bz) F16 TX G15 C15
 have G17:=Lf (P:=l.prog) (w:=w) (mg:=mg) (bz:=bz) F17 HX TX G7 C7 G16 C16
 have G18:=PR (P:=l.prog) (w:=w) (mg:=mg) (bz:=bz) F18 TX
 have G19:=Qg (P:=l.prog) (w:=w) (mg:=mg) (bz:=bz) F19 HX TX G7 C7 G18 C18
 have G20:=True.intro
 have G21:=MY (P:=l.prog) (w:=w) (mg:=mg) (bz:=bz) F21 HX G7 C7 C20
 have G22:=KL (P:=l.prog) (w:=w) (mg:=mg) (bz:=bz) F22 TX X_TalkOver G18 C18
 have G23:=MX (P:=l.prog) (w:=w) (mg:=mg) (bz:=bz) F23 G22 C22
 have G24:=NO (P:=l.prog) (w:=w) (mg:=mg) (bz:=bz) F24 HX TX G7 C7 G23 C23
 have G25:=SF (P:=l.prog) (w:=w) (mg:=mg) (bz:=bz) F25 TX G22 C22
 have G26:=Nt (P:=l.prog) (w:=w) (mg:=mg) (bz:=bz) F26
 have G27:=NQ (P:=l.prog) (w:=w) (mg:=mg) (bz:=bz) F27 HX G26 C26
 have G28:=So (P:=l.prog) (w:=w) (mg:=mg) (bz:=bz) F28 HX TX G7 C7 G25 C25 G27 C27
 have G29:=Q6 (P:=l.prog) (w:=w) (mg:=mg) (bz:=bz) F29 HX G6 C6 G27 C27
 have G30:=P3 (P:=l.prog) (w:=w) (mg:=mg) (bz:=bz) F30
 have G31:=OC (P:=l.prog) (w:=w) (mg:=mg) (bz:=bz) F31 T zenumerate G30 C30
 have G32:=Nc (P:=l.prog) (w:=w) (mg:=mg) (bz:=bz) F32 G31 C31
 have G33:=Pn (P:=l.prog) (w:=w) (mg:=mg) (bz:=bz) F33 HX G32 C32
 have G34:=N4 (P:=l.prog) (w:=w) (mg:=mg) (bz:=bz) F34 TX G22 C22
 have G35:=Oc (P:=l.prog) (w:=w) (mg:=mg) (bz:=bz) F35 HX G7 C7 G33 C33 G34 C34
 have G36:=M5 (P:=l.prog) (w:=w) (mg:=mg) (bz:=bz) F36 HX G7 C7
 have G37:=Pp (P:=l.prog) (w:=w) (mg:=mg) (bz:=bz) F37 (adr:=Gw cNK cS cO cG cNB) HX G9 C9 G11 C11 G17 C17 G19 C19 G21 C21 G24 C24 G28 C28 G29 C29 G35 C35 G36 C36
 have G38:=Pj (P:=l.prog) (w:=w) (mg:=mg) (bz:=bz) F38
 have G39:=LN (P:=l.prog) (w:=w) (mg:=mg) (bz:=bz) F39 T G38 C38
 have G40:=Oo (P:=l.prog) (w:=w) (mg:=mg) (bz:=bz) F40 X_StrangeLetter G39 C39
 have G41:=QF (P:=l.prog) (w:=w) (mg:=mg) (bz:=bz) F41 G38 C38
 have G42:=NW (P:=l.prog) (w:=w) (mg:=mg) (bz:=bz) F42
 have G43:=NK (P:=l.prog) (w:=w) (mg:=mg) (bz:=bz) F43 G30 C30 G42 C42
 have G44:=Ky (P:=l.prog) (w:=w) (mg:=mg) (bz:=bz) F44 G41 C41 G43 C43
 have G45:=Pg (P:=l.prog) (w:=w) (mg:=mg) (bz:=bz) F45 T
 have G46:=O5 (P:=l.prog) (w:=w) (mg:=mg) (bz:=bz) F46 B G45 C45
 have G47:=PF (P:=l.prog) (w:=w) (mg:=mg) (bz:=bz) F47 G46 C46 G13 C13
 have G48:=Nw (P:=l.prog) (w:=w) (mg:=mg) (bz:=bz) F48 T G12 C12 G45 C45
 have G49:=LO (P:=l.prog) (w:=w) (mg:=mg) (bz:=bz) F49 G47 C47 G48 C48 G14 C14
 have G50:=N5 (P:=l.prog) (w:=w) (mg:=mg) (bz:=bz) F50 G46 C46 G13 C13 G47 C47 G49 C49
 have G51:=Qi (P:=l.prog) (w:=w) (mg:=mg) (bz:=bz) F51 TX T
 have G52:=Od (P:=l.prog) (w:=w) (mg:=mg) (bz:=bz) F52 TX G10 C10 G51 C51
 have G53:=Sr (P:=l.prog) (w:=w) (mg:=mg) (bz:=bz) F53 TX G40 C40 G44 C44 G47 C47 G50 C50 G52 C52
 have G54:=Rq (P:=l.prog) (w:=w) (mg:=mg) (bz:=bz) F54 TX G22 C22 G53 C53 G48 C48 G44 C44
 have G55:=Qf (P:=l.prog) (w:=w) (mg:=mg) (bz:=bz) F55 SHT
 have G56:=SC (P:=l.prog) (w:=w) (mg:=mg) (bz:=bz) F56 HX TX G7 C7 G54 C54 G33 C33 G55 C55 G27 C27
 have G57:=RO (P:=l.prog) (w:=w) (mg:=mg) (bz:=bz) F57 HX TX G7 C7 G53 C53 G33 C33
 have G58:=NP (P:=l.prog) (w:=w) (mg:=mg) (bz:=bz) F58 TX G22 C22 G40 C40
 have G59:=RU (P:=l.prog) (w:=w) (mg:=mg) (bz:=bz) F59 HX G7 C7 G33 C33 G58 C58
 have G60:=Ro (P:=l.prog) (w:=w) (mg:=mg) (bz:=bz) F60 TX G22 C22 G53 C53
 have G61:=Nh (P:=l.prog) (w:=w) (mg:=mg) (bz:=bz) F61 HX G7 C7 G33 C33 G60 C60
 have G62:=K4 (P:=l.prog) (w:=w) (mg:=mg) (bz:=bz) F62 HX G40 C40
 have G63:=KJ (P:=l.prog) (w:=w) (mg:=mg) (bz:=bz) F63 (cK:=cK) HX T B X_BadName X_NameTaken (mg_of X G aNS) (mg_of X G aLN)
 have G64:=KW (P:=l.prog) (w:=w) (mg:=mg) (bz:=bz) F64 X_BadWord X_NoStanding G44 C44 G45 C45
 have G65:=Th (P:=l.prog) (w:=w) (mg:=mg) (bz:=bz) F65 T
 have G66:=Om (P:=l.prog) (w:=w) (mg:=mg) (bz:=bz) F66 G65 C65
 have G67:=QR (P:=l.prog) (w:=w) (mg:=mg) (bz:=bz) F67 TX T X_BadWord G40 C40 G64 C64 G66 C66
 have G68:=NZ (P:=l.prog) (w:=w) (mg:=mg) (bz:=bz) F68 HX G63 C63 G67 C67 G55 C55 G27 C27
 have G69:=Tv (P:=l.prog) (w:=w) (mg:=mg) (bz:=bz) F69 (adr:=Gw cNK cS cO cG cNB) HX G37 C37 G56 C56 G57 C57 G59 C59 G61 C61 G62 C62 G68 C68
 have G70:=Ks (P:=l.prog) (w:=w) (mg:=mg) (bz:=bz) F70 T B XT FX X_NoTalk X_StrangeLetter X_TalkOver XcG XcNB G69 C69
 have G71:=M8 (P:=l.prog) (w:=w) (mg:=mg) (bz:=bz) F71 G70 C70
 have G72:=OO (P:=l.prog) (w:=w) (mg:=mg) (bz:=bz) F72 T
 have G73:=NB (P:=l.prog) (w:=w) (mg:=mg) (bz:=bz) F73 T B G72 C72
 have G74:=RN (P:=l.prog) (w:=w) (mg:=mg) (bz:=bz) F74 T
 have G75:=NH (P:=l.prog) (w:=w) (mg:=mg) (bz:=bz) F75 T X_NoWorld G40 C40 G74 C74 G44 C44
 have G76:=QY (P:=l.prog) (w:=w) (mg:=mg) (bz:=bz) F76 HX T G75 C75 G55 C55 G27 C27
 have G77:=Rm (P:=l.prog) (w:=w) (mg:=mg) (bz:=bz) F77 HX T
 have G78:=Nn (P:=l.prog) (w:=w) (mg:=mg) (bz:=bz) F78 (cK:=cK) HX T
 exact Uf FLAW B T HX zmin (G1.mono (by decide)) C1 (G2.mono (by decide)) C2 (G3.mono (by decide)) C3 (G5.mono (by decide)) C5 (G70.mono (by decide)) C70 (G71.mono (by decide)) C71 (G73.mono (by decide)) C73 (G76.mono (by decide)) C76 (G68.mono (by decide)) C68 (G56.mono (by decide)) C56 (G29.mono (by decide)) C29 (G28.mono (by decide)) C28 (G77.mono (by decide)) C77 (G78.mono (by decide)) C78
theorem walk {l:PySem.W.OpenLaw} {q:Program} {loose:List Str} {XP:(Str→Option Value)→Heap→Prop} {YP:World→Heap→Prop} {d:DefRec} {K:Params→PySem.W.Frag} (hn:l.most=some 63) (hdf:d.params.defaults=[])
  (hY:∀(w:World) (h:Heap),YP w h→(K w.params).In h)
  (F:∀(w:World) (mg:Str→Option Value) (fa:Addr) (h:Heap),(K w.params).In h→h.Ns mainGlobals mg→mg d.name=some (.ref fa)→
   ∃fd:FuncData,(∀(s:Shared) (u:Value),BindsTo s fd ⟨[u],[]⟩ [("_law_script",u)])∧∀bz:Heap,(K w.params).In bz→bz.Ns mainGlobals mg→FnOk l.prog w (K w.params) mg bz AU 13 fa fd ["_law_script"] (LV (K w.params))) :
  PySem.W.WalkO q loose XP YP l.row.toRowW d [] (fun f vs=>PySem.call f vs):=
 L2.walk_of (n:=63) (k:=13) (x:="_law_script") (CX:=fun _=>AU) (sp:=fun w=>LV (K w.params)) hn (by decide) hdf ⟨rfl,by decide,by decide⟩ hY F (fun _ _ a ns hl _ hS=>⟨a,ns,rfl,hS,hl,fun _=>rfl⟩) fun _ _ _ _ _ z=>z
end Toy
namespace PySem.W.Fast
def tw15081894347470023939:=0
def tw12355650989503106820:=0
def tw8614923328425037515:=0
def tw17225083869549712068:=0
def tw15985630281954165759:=0
def tw4463772956313994478:=0
def tw12014672524309634608:=0
def tw9965474332078872941:=0
def tw10014465494862692807:=0
def tw6838315319573159918:=0
def tw11473463048125272794:=0
def tw2145888008461814872:=0
def tw9351920650985512286:=0
def tw8365918278565024354:=0
def tw12315617531978034932:=0
def tw4026699192837019120:=0
def tw8908202950842891367:=0
def tw10997768459220644660:=0
def tw5420025547731005072:=0
def tw17741750238240433187:=0
def tw14267818407838619457:=0
def tw3002483272410432045:=0
def tw16526842269490733493:=0
def tw5783296625123839327:=0
def tw12655207667640901460:=0
def tw11311893862891478477:=0
def tw4109863628201195141:=0
def tw9195064924236466903:=0
def tw17269925680644330995:=0
def tw15377203800464856036:=0
def tw4687678583850764322:=0
def tw17099233179764555575:=0
def tw477811921348454910:=0
def tw9225130478760191313:=0
def tw2706308705219488570:=0
def tw16091379132849422558:=0
def tw16480585674901562053:=0
def tw4878007556231284725:=0
def tw1378608081041855527:=0
def tw4390565003160743214:=0
def tw7975507370937328787:=0
def tw10384739637093702507:=0
def tw6704916559925380902:=0
def tw9134442512781668388:=0
def tw7554752188749274317:=0
def tw11862302349643076509:=0
def tw1511500110084536358:=0
def tw15352177868027979829:=0
def tw4524639372097561214:=0
def tw14294306605075501401:=0
def tw11490636120975162902:=0
def tw10856521966865696702:=0
def tw7383375442657031839:=0
def tw6144344217802756769:=0
def tw16013848579737672927:=0
def tw18068477048499473248:=0
def tw666027516816752418:=0
def tw16443929424634163312:=0
def tw6470368011492366651:=0
def tw9856446071152015929:=0
def tw14226986636711268432:=0
def tw557290106619279093:=0
def tw6415006012900770575:=0
def tw17420477202254432390:=0
def tw13591121012053666001:=0
def tw5269857249372786350:=0
def tw7926845753684539382:=0
def tw14934613139073713170:=0
def tw10350528302422806245:=0
def tw4811420574162878540:=0
def tw6059436136742039661:=0
def tw14836929643173426676:=0
def tw519285018105911807:=0
def tw5726918649018001009:=0
def tw13268977291179811533:=0
def tw7407189936979788099:=0
def tw8407526223480675879:=0
def tw5284012149134229452:=0
def tw4673134298011724346:=0
def tw6372826770259125895:=0
def tw14597419263140343846:=0
def tw14236089910566819204:=0
def tw222558974416521888:=0
def tw5079776421016351539:=0
def tw17598310388831530894:=0
def tw6547051946338480457:=0
def tw5625318109787791127:=0
def tw1888128553455876637:=0
def tw11109345178262869411:=0
def tw12348414439891643385:=0
def tw16693616723367926124:=0
def tw8348767715939622330:=0
def tw11482034814848282984:=0
def tw16309153637805744856:=0
def tw14679724518371355559:=0
def tw11145126760214526343:=0
def tw13079637481885056142:=0
def tw17087322282301025219:=0
def tw3973879380521417379:=0
def tw3041276639417771973:=0
def tw6704420764646804500:=0
def tw10039799920176500681:=0
def tw5881172161026490253:=0
def tw14742097601905096387:=0
def tw1600726494854157679:=0
def tw1287927770900960804:=0
def tw12717519733962674513:=0
def tw10329340745509537973:=0
def tw6200962984866954347:=0
def tw13627113219777837448:=0
def tw1267507028045288520:=0
def tw9902813179805570551:=0
def tw5725889843646632229:=0
def tw4985601771729959322:=0
def tw7151405878058089248:=0
def tw2396829896356482382:=0
def tw1415801961677581734:=0
def tw9239892936636243920:=0
def tw11486151412751343816:=0
def tw5542360069493938020:=0
def tw12364605878693072373:=0
def tw5313031282691744371:=0
def tw5005780439114149861:=0
def tw8671314380040160244:=0
def tw15423714159520824816:=0
def tw2009841917670259382:=0
def tw5952734518094159384:=0
def tw5281379354276273711:=0
def tw7672958549946324643:=0
def tw11035065359660668868:=0
def tw9132404995745308797:=0
def tw1878595922524373941:=0
def tw2994038741306904605:=0
def tw1659535723510486616:=0
def tw4960053517881996203:=0
def tw3748426675635233298:=0
def tw9573036961400595415:=0
def tw14636361294527024173:=0
def tw15113237402082986890:=0
def tw3450521972026226724:=0
def tw3816821999720467700:=0
def tw4513473715540584388:=0
def tw1970463060946357348:=0
def tw1610863332873650958:=0
def tw3661179824665081302:=0
def tw9138130909634378024:=0
def tw9304718431853253738:=0
def tw8299906111338768154:=0
def tw11342870436927743904:=0
def tw15536714745307477373:=0
def tw1343102705175841854:=0
def tw3259300782463124646:=0
def tw1879622221768565352:=0
def tw12788019491581608740:=0
def tw12818253277916012804:=0
def tw7529333492735617281:=0
def tw3213082327678505526:=0
def tw10209934100827401149:=0
def tw5761547863101307553:=0
def tw11030437808466502595:=0
def tw2502993822450681111:=0
def tw16043602115325838242:=0
def tw11930237960298176555:=0
def tw12674584689200975915:=0
def tw9285252009860267161:=0
def tw3687614842473295987:=0
def tw10483221223021692000:=0
def tw4138069282537309669:=0
def tw3213989506538689479:=0
def tw10855327063969722401:=0
def tw10319463655927265752:=0
def tw3127348123288543037:=0
def tw5367007940501124208:=0
def tw6268540057515903814:=0
def tw11865228391793961220:=0
def tw161805082234183858:=0
def tw4717583023184357353:=0
def tw1685105721707345636:=0
def tw15857533348065030352:=0
def tw978841998217480563:=0
def tw6879367942008499437:=0
def tw10057305714431506139:=0
def tw13357298372183796759:=0
def tw1762017857634161406:=0
def tw14362751337912890373:=0
def tw11567874116255494794:=0
def tw10001781352836646707:=0
def tw13541527275226488108:=0
def tw6390152867520924185:=0
def tw13151098374913360186:=0
def tw5176176035597336141:=0
def tw1868067517268874822:=0
def tw16936305442100756399:=0
def tw2353283387292117203:=0
def tw11442714432174761840:=0
def tw8072429453345608964:=0
def tw3657981762985966543:=0
def tw4189165509440329533:=0
def tw7916518141598914699:=0
def tw14432426200248830564:=0
def tw18183482167799874849:=0
def tw5284125326628937281:=0
def tw7148518325231908466:=0
def tw2791689049943415347:=0
def tw5921311076963670931:=0
def tw12335508459006760283:=0
def tw5857127272651529509:=0
def tw14172980902429471315:=0
def tw6175109882276582046:=0
def tw18104387988506820051:=0
def tw7460960321573619910:=0
def tw13244626076764056946:=0
def tw8327952970662688604:=0
def tw10817360780624698615:=0
def tw2862438576328899509:=0
def tw2737613215724604900:=0
def tw15291558100848969461:=0
def tw11432420411392656985:=0
def tw9703137374768701129:=0
def tw14183416620111165376:=0
def tw9739757250444634781:=0
def tw4228942684701521714:=0
def tw4666398447552457530:=0
def tw11959386408081607091:=0
def tw14372552235289549444:=0
def tw6755280694924763133:=0
def tw7333560280960601686:=0
def tw16033313930853881478:=0
def tw15156393001815212593:=0
def tw13260470603348520242:=0
def tw12953720925380661406:=0
def tw5687431456234801872:=0
def tw429608074626305763:=0
def tw10803095787345080129:=0
def tw11289899743089508213:=0
def tw7997562852695623760:=0
def tw4652820578513028631:=0
def tw2390228468555377866:=0
def tw13682673059787127691:=0
def tw16095789261534792062:=0
def tw1439864971675185109:=0
def tw4518748857392299465:=0
def tw786142928518474148:=0
def tw7716319396926354733:=0
def tw1027804415178097339:=0
def tw2886420455565178690:=0
def tw2810548763872061271:=0
def tw3586404286470251195:=0
def tw9528796029359671825:=0
def tw420843928967271103:=0
def tw14646644554701319684:=0
def tw16755984045107986165:=0
def tw15301512391588138920:=0
def tw438599422342232617:=0
def tw10541851004499551183:=0
def tw7350905676278086503:=0
def tw13660037613529535096:=0
def tw13874780529612859976:=0
def tw4790188864052564750:=0
def tw5623147071072223671:=0
def tw1967834316502875858:=0
def tw9018415705646298358:=0
def tw4481688001807762916:=0
def tw3701666416394354254:=0
def tw11346300323140392957:=0
def tw7530534744805432488:=0
def tw17317670183666149396:=0
def tw3854852266124743762:=0
def tw12111906080476056337:=0
def tw8113301065238991831:=0
def tw771807756537398700:=0
def tw9233023868572341318:=0
def tw7500437647374753732:=0
def tw7728219377567158343:=0
def tw782509989718920788:=0
def tw1550963178541551663:=0
def tw9533042228204538027:=0
def tw4836150483599223883:=0
def tw259969032920253191:=0
def tw9299343033066035400:=0
def tw2868729523772814277:=0
def tw5864588082824550935:=0
def tw13424806850711434113:=0
def tw13393624280079183768:=0
def tw17236823142129929236:=0
def tw8046487161474159620:=0
def tw6075210741481232739:=0
def tw10763959603140940393:=0
def tw6011522411371596186:=0
def tw7897949233588295384:=0
def tw4332177389330738545:=0
def tw17503295452777544968:=0
def tw3477364959482604036:=0
def tw16306947834615631346:=0
def tw7897482039958894349:=0
def tw3162882826323146085:=0
def tw1589482238284279971:=0
def tw8543457502489747028:=0
def tw4324149216674982338:=0
def tw907361407589519856:=0
def tw6829156618333453604:=0
def tw358199681433648907:=0
def tw594590515222362437:=0
def tw14456044681138436033:=0
def tw16264348598436684272:=0
def tw3352497586060466847:=0
def tw8178213030867386521:=0
def tw854949798920741580:=0
def tw4012373265478106865:=0
def tw11531361667347479802:=0
def tw18240619788511115014:=0
def tw7565540256796748847:=0
def tw10918252290359136101:=0
def tw1500031424812415772:=0
def tw6650765859682663443:=0
def tw13895539463154050093:=0
def tw1375801062687542907:=0
def tw3226841568011790086:=0
def tw15203871162656677069:=0
def tw11022712575591802019:=0
def tw9408313445845491010:=0
def tw11425723622743139441:=0
def tw11749464267389764677:=0
def tw1290397378611080556:=0
def tw799849403567196596:=0
def tw503144123977361798:=0
def tw9620690399254876748:=0
def tw8678211693140810650:=0
def tw14098798183822311298:=0
def tw4846714298353675559:=0
def tw7289261329784656431:=0
def tw5341833917994791689:=0
def tw3569088572305283445:=0
def tw15054278207654931288:=0
def tw840019071333888447:=0
def tw3102028763994776954:=0
def tw1647561792673537223:=0
def tw13803800735870223157:=0
def tw13592791814579430191:=0
def tw15105184865888843868:=0
def tw17905780865812062616:=0
def tw4027816277881173973:=0
def tw13181111889115649157:=0
def tw8456760582086310234:=0
def tw16839862442339532102:=0
def tw17844788744549276203:=0
def tw10307092714940094069:=0
def tw16346928277237089405:=0
def tw15396263861004625667:=0
def tw15609973147280793131:=0
def tw11311262549692456697:=0
def tw13499992430220628281:=0
def tw1460272411290983323:=0
def tw2231146296219904541:=0
def tw11272576703725154999:=0
def tw13712842426558389785:=0
def tw8947089009899509140:=0
def tw2447450074056838677:=0
def tw16471712942375592077:=0
def tw12178598529164487936:=0
def tw10262472000702327514:=0
def tw3944035109423969394:=0
def tw7729521746026257521:=0
def tw14819596084504059323:=0
def tw7999117248033194276:=0
def tw12923342933166064823:=0
def tw11695839451276308579:=0
def tw3217450503005203753:=0
def tw16359763243274268676:=0
def tw2100003287574848697:=0
def tw12686961950575658489:=0
def tw12216718455965580780:=0
def tw11991364894457798824:=0
def tw12793560834040638541:=0
def tw10478205340896160134:=0
def tw8776668403491642086:=0
def tw5771011606142658091:=0
def tw17881890401854369306:=0
def tw856654046062118018:=0
def tw1024963244359101978:=0
end PySem.W.Fast
open PySem PySem.W PyProof.Rows
set_option maxRecDepth 100000 in
set_option maxHeartbeats 0 in
theorem PySem.Challenge.cw_holdtalk_k49_doors_of_a_house_holds : PySem.Challenge.rw_holdtalk_k49_doors_of_a_house.Holds := by
 w_on;o_law;k_head;(case hw=>w_witness2)
 k_fill
 refine Toy.walk (l:=PySem.Challenge.rw_holdtalk_k49_doors_of_a_house) rfl rfl (fun w h Y=>PySem.W.kIn_of Y) ?F
 case F=>
  intro w mg fa h KX G hmg
  refine' Toy.all_mk KX G hmg ?a1 ?l1 ?c1 ?k1 ?a2 ?l2 ?c2 ?k2 ?a3 ?l3 ?c3 ?k3 ?a4 ?l4 ?c4 ?k4 ?a5 ?l5 ?c5 ?k5 ?a6 ?i6 ?l6 ?c6 ?k6 ?a7 ?i7 ?l7 ?c7 ?k7 ?a8 ?i8 ?l8 ?c8 ?k8 ?a9 ?i9 ?l9 ?c9 ?k9 ?a10 ?i10 ?l10 ?c10 ?k10 ?a11 ?i11 ?l11 ?c11 ?k11 ?a12 ?l12 ?c12 ?k12 ?a13 ?l13 ?c13 ?k13 ?a14 ?l14 ?c14 ?k14 ?a15 ?l15 ?c15 ?k15 ?a16 ?i16 ?l16 ?c16 ?k16 ?a17 ?i17 ?l17 ?c17 ?k17 ?a18 ?i18 ?l18 ?c18 ?k18 ?a19 ?i19 ?l19 ?c19 ?k19 ?a20 ?l20 ?c20 ?k20 ?a21 ?i21 ?l21 ?c21 ?k21 ?a22 ?l22 ?c22 ?k22 ?a23 ?i23 ?l23 ?c23 ?k23 ?a24 ?i24 ?l24 ?c24 ?k24 ?a25 ?i25 ?l25 ?c25 ?k25 ?a26 ?l26 ?c26 ?k26 ?a27 ?i27 ?l27 ?c27 ?k27 ?a28 ?i28 ?l28 ?c28 ?k28 ?a29 ?i29 ?l29 ?c29 ?k29 ?a30 ?l30 ?c30 ?k30 ?a31 ?l31 ?c31 ?k31 ?a32 ?l32 ?c32 ?k32 ?a33 ?i33 ?l33 ?c33 ?k33 ?a34 ?l34 ?c34 ?k34 ?a35 ?i35 ?l35 ?c35 ?k35 ?a36 ?i36 ?l36 ?c36 ?k36 ?a37 ?l37 ?c37 ?k37 ?a38 ?l38 ?c38 ?k38 ?a39 ?l39 ?c39 ?k39 ?a40 ?l40 ?c40 ?k40 ?a41 ?l41 ?c41 ?k41 ?a42 ?l42 ?c42 ?k42 ?a43 ?l43 ?c43 ?k43 ?a44 ?l44 ?c44 ?k44 ?a45 ?l45 ?c45 ?k45 ?a46 ?l46 ?c46 ?k46 ?a47 ?l47 ?c47 ?k47 ?a48 ?l48 ?c48 ?k48 ?a49 ?l49 ?c49 ?k49 ?a50 ?l50 ?c50 ?k50 ?a51 ?i51 ?l51 ?c51 ?k51 ?a52 ?i52 ?l52 ?c52 ?k52 ?a53 ?i53 ?l53 ?c53 ?k53 ?a54 ?i54 ?l54 ?c54 ?k54 ?a55 ?l55 ?c55 ?k55 ?a56 ?i56 ?l56 ?c56 ?k56 ?a57 ?i57 ?l57 ?c57 ?k57 ?a58 ?l58 ?c58 ?k58 ?a59 ?i59 ?l59 ?c59 ?k59 ?a60 ?l60 ?c60 ?k60 ?a61 ?i61 ?l61 ?c61 ?k61 ?a62 ?i62 ?l62 ?c62 ?k62 ?a63 ?i63 ?l63 ?c63 ?k63 ?a64 ?l64 ?c64 ?k64 ?a65 ?l65 ?c65 ?k65 ?a66 ?l66 ?c66 ?k66 ?a67 ?i67 ?l67 ?c67 ?k67 ?a68 ?i68 ?l68 ?c68 ?k68 ?a69 ?l69 ?c69 ?k69 ?a70 ?l70 ?c70 ?k70 ?a71 ?l71 ?c71 ?k71 ?a72 ?l72 ?c72 ?k72 ?a73 ?l73 ?c73 ?k73 ?a74 ?l74 ?c74 ?k74 ?a75 ?l75 ?c75 ?k75 ?a76 ?i76 ?l76 ?c76 ?k76 ?a77 ?i77 ?l77 ?c77 ?k77 ?a78 ?i78 ?l78 ?c78 ?k78 ?a79 ?l79 ?c79 ?k79 ?yabs ?ylen ?yrange ?yisinstance ?yint ?ybool ?ystr ?ytuple ?ylist ?yset ?ysorted ?yany ?yall ?yValueError ?yenumerate ?ymin ?xTn ?xTl ?xTm ?nTs ?xTi ?xTc1 ?xTt ?xTbse ?nuV ?xcg ?xct ?xn0 ?xl0 ?xm0 ?nxs0 ?xi0 ?xkp0 ?xcd0 ?nxm0 ?nxd0 ?xsa0 ?xga0 ?xgn0 ?xca0 ?xt0 ?xb0 ?xs0 ?xu0 ?xv0 ?xn1 ?xl1 ?xm1 ?nxs1 ?xi1 ?xkp1 ?xcd1 ?nxm1 ?nxd1 ?xsa1 ?xga1 ?xgn1 ?xca1 ?xt1 ?xb1 ?xs1 ?xu1 ?xv1 ?xn2 ?xl2 ?xm2 ?nxs2 ?xi2 ?xkp2 ?xcd2 ?nxm2 ?nxd2 ?xsa2 ?xga2 ?xgn2 ?xca2 ?xt2 ?xb2 ?xs2 ?xu2 ?xv2 ?xn3 ?xl3 ?xm3 ?nxs3 ?xi3 ?xkp3 ?xcd3 ?nxm3 ?nxd3 ?xsa3 ?xga3 ?xgn3 ?xca3 ?xt3 ?xb3 ?xs3 ?xu3 ?xv3 ?xn4 ?xl4 ?xm4 ?nxs4 ?xi4 ?xkp4 ?xcd4 ?nxm4 ?nxd4 ?xsa4 ?xga4 ?xgn4 ?xca4 ?xt4 ?xb4 ?xs4 ?xu4 ?xv4 ?xn5 ?xl5 ?xm5 ?nxs5 ?xi5 ?xkp5 ?xcd5 ?nxm5 ?nxd5 ?xsa5 ?xga5 ?xgn5 ?xca5 ?xt5 ?xb5 ?xs5 ?xu5 ?xv5 ?xn6 ?xl6 ?xm6 ?nxs6 ?xi6 ?xkp6 ?xcd6 ?nxm6 ?nxd6 ?xsa6 ?xga6 ?xgn6 ?xca6 ?xt6 ?xb6 ?xs6 ?xu6 ?xv6 ?xn7 ?xl7 ?xm7 ?nxs7 ?xi7 ?xkp7 ?xcd7 ?nxm7 ?nxd7 ?xsa7 ?xga7 ?xgn7 ?xca7 ?xt7 ?xb7 ?xs7 ?xu7 ?xv7 ?xp0_3 ?nq0_3 ?xr0_3 ?xp0_4 ?nq0_4 ?xr0_4 ?xp3_0 ?nq3_0 ?xr3_0 ?xp3_4 ?nq3_4 ?xr3_4 ?xp4_0 ?nq4_0 ?xr4_0 ?xp4_3 ?nq4_3 ?xr4_3 ?aCTalk ?pgTalk ?hdTalk ?poTalk ?saTalk ?mkTalk ?kcTalk ?wTalk_many ?wTalk_kind ?wTalk_sentence ?wTalk_rule ?wTalk_space ?wTalk_parts ?wTalk_given ?wTalk_left ?wTalk_ended ?aCHouse ?pgHouse ?hdHouse ?poHouse ?saHouse ?mkHouse ?kcHouse ?wHouse_space ?wHouse_many ?wHouse_marks ?wHouse_talks ?wHouse_lines ?aL ?aJ ?lJ ?nJ ?aNS ?aLN ?xcNBn ?xcNBc ?xcNBt ?xcNBscNK ?ncNBcNK ?xcNBscS ?ncNBcS ?xcNBscO ?ncNBcO ?xcGn ?xcGc ?xcGt ?xcGscNK ?ncGcNK ?xcGscS ?ncGcS ?xcGscO ?ncGcO
  (case aCTalk=>k_is)
  (case aCHouse=>k_is)
  (case a1=>k_is)
  (case l1=>k_is)
  (case c1=>k_is)
  (case k1=>k_is)
  (case a2=>k_is)
  (case l2=>k_is)
  (case c2=>k_is)
  (case k2=>k_is)
  (case a3=>k_is)
  (case l3=>k_is)
  (case c3=>k_is)
  (case k3=>k_is)
  (case a4=>k_is)
  (case l4=>k_is)
  (case c4=>k_is)
  (case k4=>k_is)
  (case a5=>k_is)
  (case l5=>k_is)
  (case c5=>k_is)
  (case k5=>k_is)
  (case a6=>k_is)
  (case i6=>k_is)
  (case l6=>k_is)
  (case c6=>k_is)
  (case k6=>k_is)
  (case a7=>k_is)
  (case i7=>k_is)
  (case l7=>k_is)
  (case c7=>k_is)
  (case k7=>k_is)
  (case a8=>k_is)
  (case i8=>k_is)
  (case l8=>k_is)
  (case c8=>k_is)
  (case k8=>k_is)
  (case a9=>k_is)
  (case i9=>k_is)
  (case l9=>k_is)
  (case c9=>k_is)
  (case k9=>k_is)
  (case a10=>k_is)
  (case i10=>k_is)
  (case l10=>k_is)
  (case c10=>k_is)
  (case k10=>k_is)
  (case a11=>k_is)
  (case i11=>k_is)
  (case l11=>k_is)
  (case c11=>k_is)
  (case k11=>k_is)
  (case a12=>k_is)
  (case l12=>k_is)
  (case c12=>k_is)
  (case k12=>k_is)
  (case a13=>k_is)
  (case l13=>k_is)
  (case c13=>k_is)
  (case k13=>k_is)
  (case a14=>k_is)
  (case l14=>k_is)
  (case c14=>k_is)
  (case k14=>k_is)
  (case a15=>k_is)
  (case l15=>k_is)
  (case c15=>k_is)
  (case k15=>k_is)
  (case a16=>k_is)
  (case i16=>k_is)
  (case l16=>k_is)
  (case c16=>k_is)
  (case k16=>k_is)
  (case a17=>k_is)
  (case i17=>k_is)
  (case l17=>k_is)
  (case c17=>k_is)
  (case k17=>k_is)
  (case a18=>k_is)
  (case i18=>k_is)
  (case l18=>k_is)
  (case c18=>k_is)
  (case k18=>k_is)
  (case a19=>k_is)
  (case i19=>k_is)
  (case l19=>k_is)
  (case c19=>k_is)
  (case k19=>k_is)
  (case a20=>k_is)
  (case l20=>k_is)
  (case c20=>k_is)
  (case k20=>k_is)
  (case a21=>k_is)
  (case i21=>k_is)
  (case l21=>k_is)
  (case c21=>k_is)
  (case k21=>k_is)
  (case a22=>k_is)
  (case l22=>k_is)
  (case c22=>k_is)
  (case k22=>k_is)
  (case a23=>k_is)
  (case i23=>k_is)
  (case l23=>k_is)
  (case c23=>k_is)
  (case k23=>k_is)
  (case a24=>k_is)
  (case i24=>k_is)
  (case l24=>k_is)
  (case c24=>k_is)
  (case k24=>k_is)
  (case a25=>k_is)
  (case i25=>k_is)
  (case l25=>k_is)
  (case c25=>k_is)
  (case k25=>k_is)
  (case a26=>k_is)
  (case l26=>k_is)
  (case c26=>k_is)
  (case k26=>k_is)
  (case a27=>k_is)
  (case i27=>k_is)
  (case l27=>k_is)
  (case c27=>k_is)
  (case k27=>k_is)
  (case a28=>k_is)
  (case i28=>k_is)
  (case l28=>k_is)
  (case c28=>k_is)
  (case k28=>k_is)
  (case a29=>k_is)
  (case i29=>k_is)
  (case l29=>k_is)
  (case c29=>k_is)
  (case k29=>k_is)
  (case a30=>k_is)
  (case l30=>k_is)
  (case c30=>k_is)
  (case k30=>k_is)
  (case a31=>k_is)
  (case l31=>k_is)
  (case c31=>k_is)
  (case k31=>k_is)
  (case a32=>k_is)
  (case l32=>k_is)
  (case c32=>k_is)
  (case k32=>k_is)
  (case a33=>k_is)
  (case i33=>k_is)
  (case l33=>k_is)
  (case c33=>k_is)
  (case k33=>k_is)
  (case a34=>k_is)
  (case l34=>k_is)
  (case c34=>k_is)
  (case k34=>k_is)
  (case a35=>k_is)
  (case i35=>k_is)
  (case l35=>k_is)
  (case c35=>k_is)
  (case k35=>k_is)
  (case a36=>k_is)
  (case i36=>k_is)
  (case l36=>k_is)
  (case c36=>k_is)
  (case k36=>k_is)
  (case a37=>k_is)
  (case l37=>k_is)
  (case c37=>k_is)
  (case k37=>k_is)
  (case a38=>k_is)
  (case l38=>k_is)
  (case c38=>k_is)
  (case k38=>k_is)
  (case a39=>k_is)
  (case l39=>k_is)
  (case c39=>k_is)
  (case k39=>k_is)
  (case a40=>k_is)
  (case l40=>k_is)
  (case c40=>k_is)
  (case k40=>k_is)
  (case a41=>k_is)
  (case l41=>k_is)
  (case c41=>k_is)
  (case k41=>k_is)
  (case a42=>k_is)
  (case l42=>k_is)
  (case c42=>k_is)
  (case k42=>k_is)
  (case a43=>k_is)
  (case l43=>k_is)
  (case c43=>k_is)
  (case k43=>k_is)
  (case a44=>k_is)
  (case l44=>k_is)
  (case c44=>k_is)
  (case k44=>k_is)
  (case a45=>k_is)
  (case l45=>k_is)
  (case c45=>k_is)
  (case k45=>k_is)
  (case a46=>k_is)
  (case l46=>k_is)
  (case c46=>k_is)
  (case k46=>k_is)
  (case a47=>k_is)
  (case l47=>k_is)
  (case c47=>k_is)
  (case k47=>k_is)
  (case a48=>k_is)
  (case l48=>k_is)
  (case c48=>k_is)
  (case k48=>k_is)
  (case a49=>k_is)
  (case l49=>k_is)
  (case c49=>k_is)
  (case k49=>k_is)
  (case a50=>k_is)
  (case l50=>k_is)
  (case c50=>k_is)
  (case k50=>k_is)
  (case a51=>k_is)
  (case i51=>k_is)
  (case l51=>k_is)
  (case c51=>k_is)
  (case k51=>k_is)
  (case a52=>k_is)
  (case i52=>k_is)
  (case l52=>k_is)
  (case c52=>k_is)
  (case k52=>k_is)
  (case a53=>k_is)
  (case i53=>k_is)
  (case l53=>k_is)
  (case c53=>k_is)
  (case k53=>k_is)
  (case a54=>k_is)
  (case i54=>k_is)
  (case l54=>k_is)
  (case c54=>k_is)
  (case k54=>k_is)
  (case a55=>k_is)
  (case l55=>k_is)
  (case c55=>k_is)
  (case k55=>k_is)
  (case a56=>k_is)
  (case i56=>k_is)
  (case l56=>k_is)
  (case c56=>k_is)
  (case k56=>k_is)
  (case a57=>k_is)
  (case i57=>k_is)
  (case l57=>k_is)
  (case c57=>k_is)
  (case k57=>k_is)
  (case a58=>k_is)
  (case l58=>k_is)
  (case c58=>k_is)
  (case k58=>k_is)
  (case a59=>k_is)
  (case i59=>k_is)
  (case l59=>k_is)
  (case c59=>k_is)
  (case k59=>k_is)
  (case a60=>k_is)
  (case l60=>k_is)
  (case c60=>k_is)
  (case k60=>k_is)
  (case a61=>k_is)
  (case i61=>k_is)
  (case l61=>k_is)
  (case c61=>k_is)
  (case k61=>k_is)
  (case a62=>k_is)
  (case i62=>k_is)
  (case l62=>k_is)
  (case c62=>k_is)
  (case k62=>k_is)
  (case a63=>k_is)
  (case i63=>k_is)
  (case l63=>k_is)
  (case c63=>k_is)
  (case k63=>k_is)
  (case a64=>k_is)
  (case l64=>k_is)
  (case c64=>k_is)
  (case k64=>k_is)
  (case a65=>k_is)
  (case l65=>k_is)
  (case c65=>k_is)
  (case k65=>k_is)
  (case a66=>k_is)
  (case l66=>k_is)
  (case c66=>k_is)
  (case k66=>k_is)
  (case a67=>k_is)
  (case i67=>k_is)
  (case l67=>k_is)
  (case c67=>k_is)
  (case k67=>k_is)
  (case a68=>k_is)
  (case i68=>k_is)
  (case l68=>k_is)
  (case c68=>k_is)
  (case k68=>k_is)
  (case a69=>k_is)
  (case l69=>k_is)
  (case c69=>k_is)
  (case k69=>k_is)
  (case a70=>k_is)
  (case l70=>k_is)
  (case c70=>k_is)
  (case k70=>k_is)
  (case a71=>k_is)
  (case l71=>k_is)
  (case c71=>k_is)
  (case k71=>k_is)
  (case a72=>k_is)
  (case l72=>k_is)
  (case c72=>k_is)
  (case k72=>k_is)
  (case a73=>k_is)
  (case l73=>k_is)
  (case c73=>k_is)
  (case k73=>k_is)
  (case a74=>k_is)
  (case l74=>k_is)
  (case c74=>k_is)
  (case k74=>k_is)
  (case a75=>k_is)
  (case l75=>k_is)
  (case c75=>k_is)
  (case k75=>k_is)
  (case a76=>k_is)
  (case i76=>k_is)
  (case l76=>k_is)
  (case c76=>k_is)
  (case k76=>k_is)
  (case a77=>k_is)
  (case i77=>k_is)
  (case l77=>k_is)
  (case c77=>k_is)
  (case k77=>k_is)
  (case a78=>k_is)
  (case i78=>k_is)
  (case l78=>k_is)
  (case c78=>k_is)
  (case k78=>k_is)
  (case a79=>k_is)
  (case l79=>k_is)
  (case c79=>k_is)
  (case k79=>k_is)
  (case yabs=>k_is)
  (case ylen=>k_is)
  (case yrange=>k_is)
  (case yisinstance=>k_is)
  (case yint=>k_is)
  (case ybool=>k_is)
  (case ystr=>k_is)
  (case ytuple=>k_is)
  (case ylist=>k_is)
  (case yset=>k_is)
  (case ysorted=>k_is)
  (case yany=>k_is)
  (case yall=>k_is)
  (case yValueError=>k_is)
  (case yenumerate=>k_is)
  (case ymin=>k_is)
  (case xTn=>k_is)
  (case xTl=>k_is)
  (case xTm=>k_is)
  (case nTs=>first | k_is | rfl | decide | simp)
  (case xTi=>k_is)
  (case xTc1=>k_is)
  (case xTt=>k_is)
  (case xTbse=>k_is)
  (case nuV=>first | k_is | rfl | decide | simp)
  (case xcg=>k_is)
  (case xct=>k_is)
  (case xn0=>k_is)
  (case xl0=>k_is)
  (case xm0=>k_is)
  (case nxs0=>first | k_is | rfl | decide | simp)
  (case xi0=>k_is)
  (case xkp0=>k_is)
  (case xcd0=>k_is)
  (case nxm0=>first | k_is | rfl | decide | simp)
  (case nxd0=>first | k_is | rfl | decide | simp)
  (case xsa0=>k_is)
  (case xga0=>k_is)
  (case xgn0=>k_is)
  (case xca0=>k_is)
  (case xt0=>k_is)
  (case xb0=>k_is)
  (case xs0=>k_is)
  (case xu0=>k_is)
  (case xv0=>k_is)
  (case xn1=>k_is)
  (case xl1=>k_is)
  (case xm1=>k_is)
  (case nxs1=>first | k_is | rfl | decide | simp)
  (case xi1=>k_is)
  (case xkp1=>k_is)
  (case xcd1=>k_is)
  (case nxm1=>first | k_is | rfl | decide | simp)
  (case nxd1=>first | k_is | rfl | decide | simp)
  (case xsa1=>k_is)
  (case xga1=>k_is)
  (case xgn1=>k_is)
  (case xca1=>k_is)
  (case xt1=>k_is)
  (case xb1=>k_is)
  (case xs1=>k_is)
  (case xu1=>k_is)
  (case xv1=>k_is)
  (case xn2=>k_is)
  (case xl2=>k_is)
  (case xm2=>k_is)
  (case nxs2=>first | k_is | rfl | decide | simp)
  (case xi2=>k_is)
  (case xkp2=>k_is)
  (case xcd2=>k_is)
  (case nxm2=>first | k_is | rfl | decide | simp)
  (case nxd2=>first | k_is | rfl | decide | simp)
  (case xsa2=>k_is)
  (case xga2=>k_is)
  (case xgn2=>k_is)
  (case xca2=>k_is)
  (case xt2=>k_is)
  (case xb2=>k_is)
  (case xs2=>k_is)
  (case xu2=>k_is)
  (case xv2=>k_is)
  (case xn3=>k_is)
  (case xl3=>k_is)
  (case xm3=>k_is)
  (case nxs3=>first | k_is | rfl | decide | simp)
  (case xi3=>k_is)
  (case xkp3=>k_is)
  (case xcd3=>k_is)
  (case nxm3=>first | k_is | rfl | decide | simp)
  (case nxd3=>first | k_is | rfl | decide | simp)
  (case xsa3=>k_is)
  (case xga3=>k_is)
  (case xgn3=>k_is)
  (case xca3=>k_is)
  (case xt3=>k_is)
  (case xb3=>k_is)
  (case xs3=>k_is)
  (case xu3=>k_is)
  (case xv3=>k_is)
  (case xn4=>k_is)
  (case xl4=>k_is)
  (case xm4=>k_is)
  (case nxs4=>first | k_is | rfl | decide | simp)
  (case xi4=>k_is)
  (case xkp4=>k_is)
  (case xcd4=>k_is)
  (case nxm4=>first | k_is | rfl | decide | simp)
  (case nxd4=>first | k_is | rfl | decide | simp)
  (case xsa4=>k_is)
  (case xga4=>k_is)
  (case xgn4=>k_is)
  (case xca4=>k_is)
  (case xt4=>k_is)
  (case xb4=>k_is)
  (case xs4=>k_is)
  (case xu4=>k_is)
  (case xv4=>k_is)
  (case xn5=>k_is)
  (case xl5=>k_is)
  (case xm5=>k_is)
  (case nxs5=>first | k_is | rfl | decide | simp)
  (case xi5=>k_is)
  (case xkp5=>k_is)
  (case xcd5=>k_is)
  (case nxm5=>first | k_is | rfl | decide | simp)
  (case nxd5=>first | k_is | rfl | decide | simp)
  (case xsa5=>k_is)
  (case xga5=>k_is)
  (case xgn5=>k_is)
  (case xca5=>k_is)
  (case xt5=>k_is)
  (case xb5=>k_is)
  (case xs5=>k_is)
  (case xu5=>k_is)
  (case xv5=>k_is)
  (case xn6=>k_is)
  (case xl6=>k_is)
  (case xm6=>k_is)
  (case nxs6=>first | k_is | rfl | decide | simp)
  (case xi6=>k_is)
  (case xkp6=>k_is)
  (case xcd6=>k_is)
  (case nxm6=>first | k_is | rfl | decide | simp)
  (case nxd6=>first | k_is | rfl | decide | simp)
  (case xsa6=>k_is)
  (case xga6=>k_is)
  (case xgn6=>k_is)
  (case xca6=>k_is)
  (case xt6=>k_is)
  (case xb6=>k_is)
  (case xs6=>k_is)
  (case xu6=>k_is)
  (case xv6=>k_is)
  (case xn7=>k_is)
  (case xl7=>k_is)
  (case xm7=>k_is)
  (case nxs7=>first | k_is | rfl | decide | simp)
  (case xi7=>k_is)
  (case xkp7=>k_is)
  (case xcd7=>k_is)
  (case nxm7=>first | k_is | rfl | decide | simp)
  (case nxd7=>first | k_is | rfl | decide | simp)
  (case xsa7=>k_is)
  (case xga7=>k_is)
  (case xgn7=>k_is)
  (case xca7=>k_is)
  (case xt7=>k_is)
  (case xb7=>k_is)
  (case xs7=>k_is)
  (case xu7=>k_is)
  (case xv7=>k_is)
  (case xp0_3=>k_is)
  (case nq0_3=>first | k_is | rfl | decide | simp)
  (case xr0_3=>k_is)
  (case xp0_4=>k_is)
  (case nq0_4=>first | k_is | rfl | decide | simp)
  (case xr0_4=>k_is)
  (case xp3_0=>k_is)
  (case nq3_0=>first | k_is | rfl | decide | simp)
  (case xr3_0=>k_is)
  (case xp3_4=>k_is)
  (case nq3_4=>first | k_is | rfl | decide | simp)
  (case xr3_4=>k_is)
  (case xp4_0=>k_is)
  (case nq4_0=>first | k_is | rfl | decide | simp)
  (case xr4_0=>k_is)
  (case xp4_3=>k_is)
  (case nq4_3=>first | k_is | rfl | decide | simp)
  (case xr4_3=>k_is)
  (case pgTalk=>k_is)
  (case hdTalk=>k_is)
  (case poTalk=>k_is)
  (case saTalk=>k_is)
  (case mkTalk=>k_is)
  (case kcTalk=>k_is)
  (case wTalk_many=>k_is)
  (case wTalk_kind=>k_is)
  (case wTalk_sentence=>k_is)
  (case wTalk_rule=>k_is)
  (case wTalk_space=>k_is)
  (case wTalk_parts=>k_is)
  (case wTalk_given=>k_is)
  (case wTalk_left=>k_is)
  (case wTalk_ended=>k_is)
  (case pgHouse=>k_is)
  (case hdHouse=>k_is)
  (case poHouse=>k_is)
  (case saHouse=>k_is)
  (case mkHouse=>k_is)
  (case kcHouse=>k_is)
  (case wHouse_space=>k_is)
  (case wHouse_many=>k_is)
  (case wHouse_marks=>k_is)
  (case wHouse_talks=>k_is)
  (case wHouse_lines=>k_is)
  (case aL=>k_is)
  (case aJ=>k_is)
  (case lJ=>k_is)
  (case nJ=>first | k_is | rfl | decide | simp)
  (case aNS=>k_is)
  (case aLN=>k_is)
  (case xcNBn=>k_is)
  (case xcNBc=>k_is)
  (case xcNBt=>k_is)
  (case xcNBscNK=>k_is)
  (case ncNBcNK=>first | k_is | rfl | decide | simp)
  (case xcNBscS=>k_is)
  (case ncNBcS=>first | k_is | rfl | decide | simp)
  (case xcNBscO=>k_is)
  (case ncNBcO=>first | k_is | rfl | decide | simp)
  (case xcGn=>k_is)
  (case xcGc=>k_is)
  (case xcGt=>k_is)
  (case xcGscNK=>k_is)
  (case ncGcNK=>first | k_is | rfl | decide | simp)
  (case xcGscS=>k_is)
  (case ncGcS=>first | k_is | rfl | decide | simp)
  (case xcGscO=>k_is)
  (case ncGcO=>first | k_is | rfl | decide | simp)
