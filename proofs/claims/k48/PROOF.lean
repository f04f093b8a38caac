import PyProof.Rows.All
import Wide.All
import OpenK.AllK
import Wide.FinOn
import Lean
import PyProof.EqAt
import PyProof.EqKinds
import PyProof.TupleCall
import PyProof.NeKinds
import PyProof.EnumMake
import PyProof.EnumStmt
import PyProof.Draws
import PyProof.WalksT
import PyProof.StrWalks
import PyProof.Rows.EnumRows
import PyProof.StrLawsIdx
import PyProof.StrBlockI
import PyProof.StationsW
import PyProof.ExcInit
import PyProof.ExcBaseAll.ValueError
import PyProof.ExcAttrAll.ValueError
import PyProof.Rows.CatchOwn
import PyProof.CompUse
import PyProof.CompFree
import PyProof.SetKind
import PyProof.SetScanFacts
import PyProof.SetRoads
import PyProof.SetNew
import PyProof.Rows.SetFrom
import PyProof.CollectWalk
import PyProof.Rows.SortShell
import PyProof.Cells
import PyProof.ListRange
import PyProof.ConsumeWalk
import PyProof.Tail
import PyProof.CallStr
import PyProof.AutoSeq1
import PyProof.DictRoads
import PyProof.DictStraight
import PyProof.MeetsDictList
import PyProof.FactsAll.dict_3
import KE.KDictList
import PyProof.NsDelKeeps
import PyProof.RangeIter
import PyProof.TableTree
import PySem.Challenge.RW_holdtalk_k48_names
set_option Elab.async false
set_option linter.all false
set_option maxRecDepth 100000
namespace L2
open PySem PySem.Spec PyProof.Rows
abbrev Key:=Sum Int Str
def keyIs:Key→Value→Bool
 | .inl k,v=>Value.isInt k v
 | .inr x,v=>Value.isStrOf x v
def keyH (w:World):Key→Int
 | .inl k=>hashInt k
 | .inr x=>hashStr w x
theorem keyIs_shape:∀{k:Key} {v:Value},keyIs k v=true→(∃i t,k=Sum.inl i∧v=Value.int i t)∨(∃x t,k=Sum.inr x∧v=Value.str x t)
 | .inl i,v,h=>by
  obtain⟨t,e⟩:=Value.isInt_shape (k:=i) (v:=v) h
  exact .inl ⟨i,t,rfl,e⟩
 | .inr x,v,h=>by
  obtain⟨t,e⟩:=Value.isStrOf_shape (x:=x) (v:=v) h
  exact .inr ⟨x,t,rfl,e⟩
theorem keyIs_str (x:Str) (t:Tok):keyIs (.inr x) (.str x t)=true:=by simp[keyIs,Value.isStrOf]
theorem key_ll (a b:Int):decide ((Sum.inl a:Key)=Sum.inl b)=(a == b):=by
 by_cases e:a=b
 ·subst e;simp
 ·have h:¬(Sum.inl a:Key)=Sum.inl b:=fun q=>e (Sum.inl.inj q)
  rw[decide_eq_false h]
  exact (beq_eq_false_iff_ne.mpr e).symm
theorem key_rr (a b:Str):decide ((Sum.inr a:Key)=Sum.inr b)=decide (a=b):=by
 by_cases e:a=b
 ·subst e;simp
 ·have h:¬(Sum.inr a:Key)=Sum.inr b:=fun q=>e (Sum.inr.inj q)
  rw[decide_eq_false h,decide_eq_false e]
theorem key_lr (a:Int) (b:Str):decide ((Sum.inl a:Key)=Sum.inr b)=false:=decide_eq_false (fun q=>nomatch q)
theorem key_rl (a:Str) (b:Int):decide ((Sum.inr a:Key)=Sum.inl b)=false:=decide_eq_false (fun q=>nomatch q)
def mixKind (prog:Program) (w:World):PySem.KeyKind prog w Key where
 is:=keyIs
 hash:=keyH w
 inj:=fun v a b ha hb=>by
  rcases keyIs_shape ha with⟨i,t,rfl,rfl⟩|⟨x,t,rfl,rfl⟩
  ·rcases keyIs_shape hb with⟨j,u,rfl,e⟩|⟨y,u,rfl,e⟩
   ·injection e with e1 _;rw[e1]
   ·exact nomatch e
  ·rcases keyIs_shape hb with⟨j,u,rfl,e⟩|⟨y,u,rfl,e⟩
   ·exact nomatch e
   ·injection e with e1 _;rw[e1]
 byValue:=fun k v h=>by
  rcases keyIs_shape h with⟨i,t,rfl,rfl⟩|⟨x,t,rfl,rfl⟩<;>rfl
 pyHash:=fun hv h=>by
  rcases keyIs_shape hv with⟨i,t,rfl,rfl⟩|⟨x,t,rfl,rfl⟩
  ·exact wpAny_pyHash_int h
  ·exact wpAny_pyHash_str h
 eqBool:=fun hu hv h=>by
  rcases keyIs_shape hu with⟨i,t,rfl,rfl⟩|⟨x,t,rfl,rfl⟩
  ·rcases keyIs_shape hv with⟨j,u,rfl,rfl⟩|⟨y,u,rfl,rfl⟩
   ·rw[key_ll] at h;exact wpAny_eqBool_int h
   ·rw[key_lr] at h;exact SeqAt.EqAt.int_str i t y u _ _ _ _ h
  ·rcases keyIs_shape hv with⟨j,u,rfl,rfl⟩|⟨y,u,rfl,rfl⟩
   ·rw[key_rl] at h;exact SeqAt.EqAt.str_int x t j u _ _ _ _ h
   ·rw[key_rr] at h;exact wpAny_eqBool_str h
 «strs»:=fun k x t v h=>by
  rcases keyIs_shape h with⟨i,u,rfl,e⟩|⟨y,u,rfl,e⟩
  ·exact nomatch e
  ·injection e with e1 _
   subst e1
   cases v<;>rfl
theorem mixKind_str (prog:Program) (w:World) (x:Str) (t:Tok):(mixKind prog w).is (.inr x) (.str x t)=true:=keyIs_str x t
end L2
namespace L2
open PySem PySem.Spec PyProof.Rows
inductive V where
 | non | bl (b:Bool) | int (i:Int) | str (x:Str) | byt (b:Array UInt8) | flt (b:UInt64) | ref (a:Addr) | ty (n:String)
 deriving DecidableEq
def RelV:V→Value→Prop
 | .non,u=>u=Value.none
 | .bl b,u=>u=Value.bool b
 | .int i,u=>∃t,u=Value.int i t
 | .str x,u=>∃t,u=Value.str x t
 | .byt b,u=>∃t,u=Value.bytes b t
 | .flt b,u=>∃t,u=Value.float b t
 | .ref a,u=>u=Value.ref a
 | .ty n,u=>u=Value.type n
abbrev Vals:List V→List Value→Prop:=Paired RelV
theorem Vals.length {xs:List V} {us:List Value} (r:Vals xs us):xs.length=us.length:=Paired.length r
theorem Vals.get:∀{xs:List V} {us:List Value} {i:Nat} {x:V},Vals xs us→xs[i]? = some x→∃u,us[i]? = some u∧RelV x u
 | _,_,_,_,.nil,e=>by simp at e
 | _,_,0,_,.cons r _,e=>by simp at e;subst e;exact⟨_,rfl,r⟩
 | _,_,i+1,x,.cons _ t,e=>by
  obtain⟨u,h1,h2⟩:=Vals.get (i:=i) (x:=x) t (by simpa using e)
  exact⟨u,by simpa using h1,h2⟩
theorem Vals.append:∀{xs ys:List V} {us ws:List Value},Vals xs us→Vals ys ws→Vals (xs++ys) (us++ws)
 | _,_,_,_,.nil,s=>s
 | _,_,_,_,.cons r t,s=>.cons r (Vals.append t s)
theorem Vals.take:∀{xs:List V} {us:List Value} (n:Nat),Vals xs us→Vals (xs.take n) (us.take n)
 | _,_,0,_=>.nil
 | _,_,_+1,.nil=>.nil
 | _,_,n+1,.cons r t=>.cons r (Vals.take n t)
theorem Vals.drop:∀{xs:List V} {us:List Value} (n:Nat),Vals xs us→Vals (xs.drop n) (us.drop n)
 | _,_,0,r=>r
 | _,_,_+1,.nil=>.nil
 | _,_,n+1,.cons _ t=>Vals.drop n t
def RelO:Option V→Option Value→Prop
 | some v,some u=>RelV v u
 | none,none=>True
 | _,_=>False
def KV {κ:Type}:List (κ×V)→List (κ×Value)→Prop:=Paired fun (p:κ×V) (q:κ×Value)=>p.1=q.1∧RelV p.2 q.2
def kV:Key→V
 | .inl i=>.int i
 | .inr x=>.str x
inductive HO where
 | lst (xs:List V)
 | tup (xs:List V)
 | dK (kvs:List (Key×V)) | dT (kvs:List (List Key×V))
 | set (S:Int→Bool) (n:Nat)
 | ins (C dx:Addr) (fs:List (Str×V))
 | own (x:Addr)
 | xd (fs:List (Str×V))
 | met (f x:Addr)
 | rng (lo hi:Int)
 | frz (o:Obj) (u:HO)
 | tbl (ps:Array Value)
 | ext (φ:Heap→Prop)
abbrev Hp:=Addr→Option HO
def upd (H:Hp) (a:Addr) (o:HO):Hp:=fun b=>if b=a then some o else H b
theorem upd_same {H:Hp} {a:Addr} {o:HO}:upd H a o a=some o:=by unfold upd;rw[if_pos rfl]
theorem upd_ne {H:Hp} {a b:Addr} {o:HO} (h:b≠a):upd H a o b=H b:=by unfold upd;rw[if_neg h]
theorem ne_of {H:Hp} {a b:Addr} {o u:HO} (h:H a=some o) (h':H b=some u) (d:o≠u):a≠b:=by
 intro e;subst e;rw[h] at h';exact d (Option.some.inj h')
theorem ne_of_none {H:Hp} {a b:Addr} {o:HO} (h:H a=some o) (h':H b=none):a≠b:=by
 intro e;subst e;rw[h] at h';cases h'
section
variable (P:Program) (w:World)
def ObjOk (H:Hp) (h:Heap) (a:Addr):HO→Prop
 | .lst xs=>xs.length≤sizeLine∧∃(its:List Value) (n:Nat),Vals xs its∧h.get? a=some { cls:=.type "list",data:=.seq its.toArray n }
 | .tup xs=>xs.length≤sizeLine∧∃its:List Value,Vals xs its∧IsTup h a its.toArray
 | .dK kvs=>kvs.length≤sizeLine∧(a == sysModules)=false∧∃vs,KV kvs vs∧h.DictOf (mixKind P w) a vs
 | .dT kvs=>kvs.length≤sizeLine∧(a == sysModules)=false∧∃xs:List (List Key×Addr×Value),
   Paired (fun (p:List Key×V) (q:List Key×Addr×Value)=>p.1=q.1∧H q.2.1=some (.tup (p.1.map kV))∧RelV p.2 q.2.2) kvs xs∧
   ∃o es ep,h.get? a=some o∧o.ExactDict∧o.data= .dict es ep∧es.toList=xs.map (entryOfKey (tupleKind (mixKind P w)))∧(xs.map (·.1)).Nodup
 | .set S n=>h.SetOf (intKind P w) a S n
 | .ins C dx fs=>H dx=some (.own a)∧fs.length≤1000∧dx≠a∧h.get? a=some (PySem.W.instObj C dx)∧
   ∃mA,h.Ns1 dx mA∧(∀f,RelO (fs.lookup f) (mA f))∧PySem.Within mA (fs.map (·.1))
 | .own _=>∃o,h.get? a=some o
 | .xd fs=>∃mA,h.Ns1 a mA∧∀f,RelO (fs.lookup f) (mA f)
 | .rng lo hi=>∃t u v,h.get? a=some { cls:=.type "range",data:=.fields #[.int lo t,.int hi u,.int 1 v] }
 | .frz o u=>h.get? a=some o∧ObjOk H h a u
 | .tbl ps=>h.get? a=some { cls:=.none,data:=.fields ps }
 | .met f x=>h.get? a=some (PySem.W.methodObj (.ref f) (.ref x))
 | .ext φ=>φ h∧(∃o,h.get? a=some o)∧∀h1 h2:Heap,φ h1→(∀o,h1.get? a=some o→h2.get? a=some o)→φ h2
def HOk (H:Hp) (h:Heap):Prop:=∀a o,H a=some o→ObjOk P w H h a o
end
section
variable {P:Program} {w:World} {H H':Hp} {h h':Heap} {a:Addr} {o:HO}
theorem ObjOk.lt (x:ObjOk P w H h a o):a<h.objs.size:=by
 cases o with
 | lst xs=>obtain⟨_,_,_,_,e⟩:=x;exact Heap.lt_size e
 | tup xs=>obtain⟨_,_,_,p⟩:=x;exact p.lt
 | dK kvs=>obtain⟨_,_,_,_,o,_,_,e,_⟩:=x;exact Heap.lt_size e
 | dT kvs=>obtain⟨_,_,_,_,o,_,_,e,_⟩:=x;exact Heap.lt_size e
 | set S n=>obtain⟨o,_,_,_,e,_⟩:=x;exact Heap.lt_size e
 | ins C dx fs=>obtain⟨_,_,_,e,_⟩:=x;exact Heap.lt_size e
 | own y=>obtain⟨_,e⟩:=x;exact Heap.lt_size e
 | xd fs=>obtain⟨_,⟨_,_,_,e,_⟩,_⟩:=x;exact Heap.lt_size e
 | rng lo hi=>obtain⟨_,_,_,e⟩:=x;exact Heap.lt_size e
 | frz ob u=>obtain⟨e,_⟩:=x;exact Heap.lt_size e
 | tbl ps=>exact Heap.lt_size (show h.get? a=some _ from x)
 | met f y=>exact Heap.lt_size (show h.get? a=some _ from x)
 | ext φ=>obtain⟨_,⟨_,e⟩,_⟩:=x;exact Heap.lt_size e
theorem Paired.mapP {α β:Type} {F G:α→β→Prop}:∀{l₁:List α} {l₂:List β},Paired F l₁ l₂→(∀a b,F a b→G a b)→Paired G l₁ l₂
 | _,_,.nil,_=>.nil
 | _,_,.cons r t,f=>.cons (f _ _ r) (Paired.mapP t f)
theorem ObjOk.stay (x:ObjOk P w H h a o) (k:∀b u,(b=a∨H b=some (.own a))→h.get? b=some u→h'.get? b=some u)
  (ho:∀b,H b=some (.own a)→H' b=some (.own a)) (ht:∀b xs,H b=some (.tup xs)→H' b=some (.tup xs)):ObjOk P w H' h' a o:=by
 induction o with
 | lst xs=>obtain⟨z,its,n,r,e⟩:=x;exact⟨z,its,n,r,k _ _ (.inl rfl) e⟩
 | tup xs=>obtain⟨z,its,r,ob,e,c⟩:=x;exact⟨z,its,r,ob,k _ _ (.inl rfl) e,c⟩
 | dK kvs=>obtain⟨z,y,vs,r,ob,es,ep,e,c⟩:=x;exact⟨z,y,vs,r,ob,es,ep,k _ _ (.inl rfl) e,c⟩
 | dT kvs=>
  obtain⟨z,y,xs,r,ob,es,ep,e,c⟩:=x
  exact⟨z,y,xs,Paired.mapP r fun p q z=>⟨z.1,ht _ _ z.2.1,z.2.2⟩,ob,es,ep,k _ _ (.inl rfl) e,c⟩
 | set S n=>obtain⟨ob,es,ep,t,e,c⟩:=x;exact⟨ob,es,ep,t,k _ _ (.inl rfl) e,c⟩
 | ins C dx fs=>
  obtain⟨d,z,ne,e,mA,⟨od,es,ep,e2,c⟩,r⟩:=x
  exact⟨ho _ d,z,ne,k _ _ (.inl rfl) e,mA,⟨od,es,ep,k _ _ (.inr d) e2,c⟩,r⟩
 | own y=>obtain⟨ob,e⟩:=x;exact⟨ob,k _ _ (.inl rfl) e⟩
 | xd fs=>obtain⟨mA,⟨od,es,ep,e,c⟩,r⟩:=x;exact⟨mA,⟨od,es,ep,k _ _ (.inl rfl) e,c⟩,r⟩
 | rng lo hi=>obtain⟨t,u,v,e⟩:=x;exact⟨t,u,v,k _ _ (.inl rfl) e⟩
 | frz ob u ih=>obtain⟨e,q⟩:=x;exact⟨k _ _ (.inl rfl) e,ih q⟩
 | tbl ps=>
  have e:h.get? a=some { cls:=.none,data:=.fields ps }:=x
  show h'.get? a=some { cls:=.none,data:=.fields ps }
  exact k a _ (.inl rfl) e
 | met f y=>
  have e:h.get? a=some (PySem.W.methodObj (.ref f) (.ref y)):=x
  show h'.get? a=some (PySem.W.methodObj (.ref f) (.ref y))
  exact k a _ (.inl rfl) e
 | ext φ=>obtain⟨p,⟨o,e⟩,st⟩:=x;exact⟨st _ _ p fun o q=>k _ _ (.inl rfl) q,⟨o,k _ _ (.inl rfl) e⟩,st⟩
theorem HOk.lt (x:HOk P w H h) (e:H a=some o):a<h.objs.size:=(x a o e).lt
theorem HOk.fresh (x:HOk P w H h) (e:h.objs.size≤a):H a=none:=by
 cases q:H a with
 | none=>rfl
 | some u=>exact absurd (Nat.lt_of_lt_of_le (x.lt q) e) (Nat.lt_irrefl _)
theorem HOk.kept (x:HOk P w H h) (k:∀b u,h.get? b=some u→h'.get? b=some u):HOk P w H h':=fun a o e=>
 (x a o e).stay (fun b u _ q=>k b u q) (fun _ q=>q) fun _ _ q=>q
theorem HOk.laid (x:HOk P w H h) (k:∀b u,h.get? b=some u→h'.get? b=some u) (hp:h.objs.size≤a) (new:ObjOk P w (upd H a o) h' a o):HOk P w (upd H a o) h':=fun b u e=>by
 have hn:=x.fresh hp
 by_cases hb:b=a
 ·subst hb;rw[upd_same] at e;cases e;exact new
 ·rw[upd_ne hb] at e
  exact (x b u e).stay (fun c v _ q=>k c v q) (fun c q=>by rw[upd_ne (ne_of_none q hn)];exact q) fun c xs q=>by rw[upd_ne (ne_of_none q hn)];exact q
end
def Rd (H:Hp) (a:Addr) (u:HO):Prop:=H a=some u∨∃o,H a=some (.frz o u)
theorem Rd.ok {P:Program} {w:World} {H:Hp} {h:Heap} {a:Addr} {u:HO} (r:Rd H a u) (x:HOk P w H h):ObjOk P w H h a u:=by
 rcases r with r | ⟨o,r⟩
 ·exact x a u r
 ·obtain⟨_,q⟩:=x a _ r
  exact q
def Mut:Option HO→Prop
 | some (.lst _)=>True
 | some (.dK _)=>True
 | some (.dT _)=>True
 | some (.set _ _)=>True
 | some (.ins _ _ _)=>True
 | some (.ext _)=>True
 | _=>False
section
variable {P:Program} {w:World} {H:Hp} {h h':Heap} {x e:Addr} {o':HO}
theorem HOk.write (ok:HOk P w H h) (mu:Mut (H x)) (he:e=x∨H e=some (.own x)) (k:∀b u,b≠e→h.get? b=some u→h'.get? b=some u) (heo:∃u,h'.get? e=some u)
  (new:ObjOk P w (upd H x o') h' x o'):HOk P w (upd H x o') h':=fun b u q=>by
 have nown:∀c y,H c=some (.own y)→c≠x:=fun c y r z=>by subst z;rw[r] at mu;exact mu
 have ntup:∀c xs,H c=some (.tup xs)→c≠x:=fun c xs r z=>by subst z;rw[r] at mu;exact mu
 by_cases hb:b=x
 ·subst hb;rw[upd_same] at q;cases q;exact new
 ·rw[upd_ne hb] at q
  by_cases hbe:b=e
  ·have q':H b=some (.own x):=by
    rcases he with z | z
    ·exact absurd (hbe.trans z) hb
    ·rw[hbe];exact z
   rw[q] at q';cases q'
   obtain⟨v,hv⟩:=heo
   exact⟨v,by rw[hbe];exact hv⟩
  ·refine (ok b u q).stay (fun c v hc r=>k c v ?_ r) (fun c r=>by rw[upd_ne (nown c b r)];exact r) fun c xs r=>by rw[upd_ne (ntup c xs r)];exact r
   rcases hc with rfl | hc
   ·exact hbe
   ·rintro rfl
    rcases he with z | z
    ·exact nown c b hc z
    ·rw[hc] at z;cases z;exact hb rfl
end
structure Un (fs ex:List Addr) (H H':Hp) (h h':Heap):Prop where
 keep:∀b o,h.get? b=some o→H b=none→b∉fs→b∉ex→h'.get? b=some o
 slot:∀b o,h.get? b=some o→H b=none→b∈fs→b∉ex→∃sl,h'.get? b=some { o with slots:=sl }
 free:∀b o,h.get? b=some o→H b=none→b∉ex→H' b=none
 there:∀b o,h.get? b=some o→b∉ex→∃o',h'.get? b=some o'
 tups:∀b xs,H b=some (.tup xs)→H' b=some (.tup xs)
 frzs:∀b o u,H b=some (.frz o u)→H' b=some (.frz o u)
 tbls:∀b ps,H b=some (.tbl ps)→∃more,H' b=some (.tbl (ps++more))
section
variable {fs fs' ex ex':List Addr} {H H1 H2:Hp} {h h1 h2 h':Heap} {a x e:Addr} {o:HO}
theorem Un.any (u:Un fs ex H H1 h h1) {b:Addr} {ob:Obj} (q:h.get? b=some ob) (n:H b=none) (hx:b∉ex):∃sl,h1.get? b=some { ob with slots:=sl }:=by
 by_cases hb:b∈fs
 ·exact u.slot b ob q n hb hx
 ·exact⟨ob.slots,u.keep b ob q n hb hx⟩
theorem Un.kept (k:∀b u,h.get? b=some u→h'.get? b=some u):Un fs ex H H h h':=
 ⟨fun b ob q _ _ _=>k b ob q,fun b ob q _ _ _=>⟨ob.slots,k b ob q⟩,fun _ _ _ n _=>n,fun b ob q _=>⟨ob,k b ob q⟩,fun _ _ q=>q,fun _ _ _ q=>q,fun _ ps q=>⟨#[],by rw[q];simp⟩⟩
theorem Un.refl:Un fs ex H H h h:=Un.kept fun _ _ q=>q
theorem Un.laid (k:∀b u,h.get? b=some u→h'.get? b=some u) (hp:h.objs.size≤a) (hn:H a=none):Un fs ex H (upd H a o) h h' where
 keep:=fun b u q _ _ _=>k b u q
 slot:=fun b u q _ _ _=>⟨u.slots,k b u q⟩
 free:=fun b u q n _=>by rw[upd_ne (Nat.ne_of_lt (Nat.lt_of_lt_of_le (Heap.lt_size q) hp))];exact n
 there:=fun b u q _=>⟨u,k b u q⟩
 tups:=fun b xs q=>by rw[upd_ne (ne_of_none q hn)];exact q
 frzs:=fun b u xs q=>by rw[upd_ne (ne_of_none q hn)];exact q
 tbls:=fun b ps q=>⟨#[],by rw[upd_ne (ne_of_none q hn),q];simp⟩
theorem Un.write (mu:Mut (H x)) (he:e=x∨H e=some (.own x)) (k:∀b u,b≠e→h.get? b=some u→h'.get? b=some u) (heo:∃u,h'.get? e=some u):Un fs ex H (upd H x o) h h':=by
 have hx:∀b,H b=none→b≠x:=fun b n z=>by subst z;rw[n] at mu;exact mu
 have hb:∀b,H b=none→b≠e:=fun b n z=>by
  subst z
  rcases he with r | r
  ·exact hx b n r
  ·rw[n] at r;cases r
 have hm:∀b u,H b=some u→¬Mut (some u)→b≠x:=fun b u q nm z=>by subst z;rw[q] at mu;exact nm mu
 refine⟨fun b u q n _ _=>k b u (hb b n) q,fun b u q n _ _=>⟨u.slots,k b u (hb b n) q⟩,fun b u q n _=>by rw[upd_ne (hx b n)];exact n,fun b u q _=>?_,
  fun b xs q=>by rw[upd_ne (hm b _ q fun z=>z)];exact q,fun b u xs q=>by rw[upd_ne (hm b _ q fun z=>z)];exact q,fun b ps q=>⟨#[],by rw[upd_ne (hm b _ q fun z=>z),q];simp⟩⟩
 by_cases hbe:b=e
 ·subst hbe;exact heo
 ·exact⟨u,k b u hbe q⟩
theorem Un.mono (u:Un fs ex H H1 h h1) (hs:∀b∈fs,b∈fs') (hx:∀b∈ex,b∈ex'):Un fs' ex' H H1 h h1:=
 ⟨fun b ob q n hb he=>u.keep b ob q n (fun z=>hb (hs b z)) fun z=>he (hx b z),fun _ _ q n _ he=>u.any q n fun z=>he (hx _ z),fun b ob q n he=>u.free b ob q n fun z=>he (hx b z),fun b ob q he=>u.there b ob q fun z=>he (hx b z),u.tups,u.frzs,u.tbls⟩
end
def trk (h:Heap) (H:Hp):List Addr:=(List.range h.objs.size).filter fun a=>(H a).isSome
def hidT (h:Heap) (H:Hp):Heap:=PySem.W.hideAll h (trk h H)
theorem hidT_size (h:Heap) (H:Hp):(hidT h H).objs.size=h.objs.size:=PySem.W.hideAll_size _ _
theorem hidT_get {h:Heap} {H:Hp} {b:Addr} {o:Obj} (e:h.get? b=some o) (n:H b=none):(hidT h H).get? b=some o:=
 PySem.W.hideAll_get _ e fun hm=>by
  have q:(H b).isSome=true:=(List.mem_filter.mp hm).2
  rw[n] at q;simp at q
theorem of_hidT {h:Heap} {H:Hp} {b:Addr} {o:Obj} (e:(hidT h H).get? b=some o):h.get? b=some o∧H b=none:=by
 have e':h.get? b=some o:=PySem.W.of_hideAll (trk h H) e
 refine⟨e',?_⟩
 cases q:H b with
 | none=>rfl
 | some x=>
  have hm:b∈trk h H:=List.mem_filter.mpr ⟨List.mem_range.mpr (Heap.lt_size e'),by simp[q]⟩
  have z:(hidT h H).get? b=none:=PySem.W.hideAll_none (trk h H) hm
  rw[z] at e;cases e
end L2
namespace L2
open PySem PySem.Spec PyProof.Rows
structure Mod (K:PySem.W.Frag) (mg:Str→Option Value) (base:Heap):Prop where
 kin:K.In base
 glob:base.Ns mainGlobals mg
 blt:∃mb,base.Ns builtinsNs mb∧∀x:Str,x≠"__name__"→mb x=bootBuiltins x
 nolimit:base.NoLimit
structure Cx where
 prog:Program
 w:World
 K:PySem.W.Frag
 mg:Str→Option Value
 base:Heap
 A:Around
 N:List Str
 s₀:Shared
 H₀:Hp
 env:Env
 outer:List Env
 stack:List Env
 ex:List Addr
 fn:Str→Bool
 calm:Bool
 pn:List (Addr×Obj)
 xe:Value→Shared→Prop
def frs (l:List Env):List Addr:=l.filterMap (·.frame)
abbrev Cx.fs (X:Cx):List Addr:=frs X.outer
def Vis (sc:Scope) (x:Str):Prop:=sc.names.lookup x=some .local∨sc.names.lookup x=some .cell∨sc.names.lookup x=some .free
def Loc (sc:Scope) (x:Str):Prop:=sc.names.lookup x=some .local∨sc.names.lookup x=some .cell
def Look (env:Env) (h:Heap) (m:Str→Option Value) (x:Str) (u:Value):Prop:=
 (env.kindOf x=some .local∧m x=some u)∨((env.kindOf x=some .cell∨env.kindOf x=some .free)∧∃c,env.cells.lookup x=some c∧h.IsCell c (some u))
structure Cx.Ok (X:Cx):Prop where
 mod:Mod X.K X.mg X.base
 kind:X.env.scope.kind= .function
 glob:X.env.globals=mainGlobals
 blt:X.env.builtins=builtinsNs
 above:X.s₀.heap.objs.size≤X.env.locals
 inj:∀x y c,X.env.cells.lookup x=some c→X.env.cells.lookup y=some c→x=y
 has:∀x,(X.env.kindOf x=some .cell∨X.env.kindOf x=some .free)→∃c,X.env.cells.lookup x=some c
 cab:∀x c,X.fn x=true→X.env.cells.lookup x=some c→X.s₀.heap.objs.size≤c
 hd:X.calm=true→X.A.handled=none
 frames:X.A.frames=some X.stack
 stk:X.stack=X.outer∨(X.stack=X.env::X.outer∧X.env.frame=some X.env.locals)
 exf:∀b∈X.ex,b≠X.env.locals∧∀x c,X.env.cells.lookup x=some c→c≠b
 bs:∀b o,X.base.get? b=some o→X.s₀.heap.get? b=some o∧X.H₀ b=none
 bsz:X.base.objs.size≤X.s₀.heap.objs.size
 noex:∀b o,X.base.get? b=some o→b∉X.ex
 exfs:∀b∈X.ex,b∉X.fs
 funs:X.s₀.heap.FunFrames X.base X.outer
 frf:∀b∈X.fs,X.H₀ b=none
structure Inv (X:Cx) (pins:List (Addr×Obj)) (σ:List (Option V)) (H:Hp) (s:Shared):Prop where
 ok:X.Ok
 os:s.os=X.s₀.os
 bare:AllBare s.gens
 base:Un X.fs X.ex X.H₀ H X.s₀.heap s.heap
 loc:∃m,s.heap.Ns X.env.locals m∧∀(i:Nat) (x:Str) (v:V),X.N[i]? = some x→σ[i]? = some (some v)→Vis X.env.scope x→∃u,RelV v u∧Look X.env s.heap m x u
 cell:∀x c,X.env.cells.lookup x=some c→∃v,s.heap.IsCell c v
 free:H X.env.locals=none
 freeC:∀x c,X.env.cells.lookup x=some c→H c=none
 pin:∀p∈X.pn++pins,s.heap.get? p.1=some p.2∧H p.1=none∧p.1≠X.env.locals∧p.1∉X.fs∧∀v,p.2.data≠.cell v
 hok:HOk X.prog X.w H s.heap
 len:σ.length=X.N.length
section
variable {X:Cx} {pins:List (Addr×Obj)} {σ:List (Option V)} {H H':Hp} {s:Shared} {h':Heap}
theorem Cx.Ok.nofr (ok:X.Ok) {b:Addr} {o:Obj} (e:X.base.get? b=some o):b∉X.fs:=fun hb=>by
 have:=(ok.funs.mem hb).1
 rw[e] at this;cases this
theorem Inv.bs (I:Inv X pins σ H s):∀b o,X.base.get? b=some o→s.heap.get? b=some o∧H b=none:=fun b o e=>
 ⟨I.base.keep b o (I.ok.bs b o e).1 (I.ok.bs b o e).2 (I.ok.nofr e) (I.ok.noex b o e),I.base.free b o (I.ok.bs b o e).1 (I.ok.bs b o e).2 (I.ok.noex b o e)⟩
theorem Inv.bk (I:Inv X pins σ H s):∀b o,X.base.get? b=some o→s.heap.get? b=some o:=fun b o e=>(I.bs b o e).1
theorem Inv.mod (I:Inv X pins σ H s):Mod X.K X.mg X.base:=I.ok.mod
theorem Inv.kIn (I:Inv X pins σ H s):X.K.In s.heap:=I.ok.mod.kin.keeps I.bk
theorem Inv.lt (I:Inv X pins σ H s):X.env.locals<s.heap.objs.size:=let ⟨_,hn,_⟩:=I.loc;hn.lt
theorem Inv.sz (I:Inv X pins σ H s):X.s₀.heap.objs.size≤s.heap.objs.size:=Nat.le_trans I.ok.above (Nat.le_of_lt I.lt)
theorem Inv.nofs (I:Inv X pins σ H s) {a:Addr} (h:s.heap.objs.size≤a):a∉X.fs:=fun hb=>by
 obtain⟨_,o,ho,_⟩:=I.ok.funs.mem hb
 exact absurd (Nat.lt_of_lt_of_le (Heap.lt_size ho) (Nat.le_trans I.sz h)) (Nat.lt_irrefl _)
theorem Inv.cne (I:Inv X pins σ H s):∀x c,X.env.cells.lookup x=some c→c≠X.env.locals:=fun x c e z=>by
 obtain⟨v,o,ho,hd⟩:=I.cell x c e
 obtain⟨m,⟨o',es,ep,ho',hd',_⟩,_⟩:=I.loc
 rw[z,ho'] at ho;cases ho;rw[hd'] at hd;cases hd
theorem Inv.funs (I:Inv X pins σ H s):s.heap.FunFrames X.base X.outer:=by
 have all:∀(l:List Env),(∀b∈frs l,b∈X.fs)→X.s₀.heap.FunFrames X.base l→s.heap.FunFrames X.base l:=by
  intro l
  induction l with
  | nil=>intro _ _;trivial
  | cons env r ih=>
   intro hs hl
   obtain⟨hk,⟨L,o,hf,hn,ho,hd⟩,hr⟩:=hl
   have hL:L∈X.fs:=hs L (by unfold frs;rw[List.filterMap_cons,hf];exact List.mem_cons_self)
   obtain⟨sl,e⟩:=I.base.slot L o ho (I.ok.frf L hL) hL fun z=>I.ok.exfs L z hL
   exact⟨hk,⟨L,_,hf,hn,e,hd⟩,ih (fun b hb=>hs b (by unfold frs;rw[List.filterMap_cons,hf];exact List.mem_cons_of_mem _ hb)) hr⟩
 exact all X.outer (fun _ hb=>hb) I.ok.funs
theorem Inv.stack (I:Inv X pins σ H s):s.heap.FunFrames X.base X.stack:=by
 rcases I.ok.stk with e | ⟨e,hf⟩
 ·rw[e];exact I.funs
 ·rw[e]
  obtain⟨m,hn,_⟩:=I.loc
  refine .cons (by rw[I.ok.kind];decide) hf hn ?_ I.funs
  exact Heap.get?_none_of_le (Nat.le_trans I.ok.bsz I.ok.above)
theorem Inv.stkSub (I:Inv X pins σ H s):∀b∈frs X.stack,b∈X.env.locals::X.fs:=fun b hb=>by
 rcases I.ok.stk with e | ⟨e,hf⟩
 ·rw[e] at hb;exact List.mem_cons_of_mem _ hb
 ·rw[e] at hb
  unfold frs at hb
  rw[List.filterMap_cons,hf] at hb
  exact hb
theorem Inv.stkFree (I:Inv X pins σ H s):∀b∈frs X.stack,H b=none:=fun b hb=>by
 rcases List.mem_cons.mp (I.stkSub b hb) with e | hb
 ·rw[e];exact I.free
 ·obtain⟨_,o,ho,_⟩:=I.ok.funs.mem hb
  exact I.base.free b o ho (I.ok.frf b hb) fun z=>I.ok.exfs b z hb
theorem Inv.step {g':Array GenState} {t':Nat} {d':Drawn} {ch:List Addr} (I:Inv X pins σ H s)
  (hch:∀b∈ch,(b∈X.ex∨X.s₀.heap.objs.size≤b)∧b≠X.env.locals∧(∀x c,X.env.cells.lookup x=some c→c≠b)∧∀p∈X.pn++pins,p.1≠b)
  (keep:∀b o,b≠X.env.locals→b∉X.fs→b∉ch→s.heap.get? b=some o→H b=none→h'.get? b=some o)
  (slot:∀b o,b≠X.env.locals→b∈X.fs→b∉ch→s.heap.get? b=some o→H b=none→∃sl,h'.get? b=some { o with slots:=sl }) (free:∀b o,b∉ch→s.heap.get? b=some o→H b=none→H' b=none)
  (there:∀b o,b∉ch→s.heap.get? b=some o→∃o',h'.get? b=some o')
  (tups:∀b xs,H b=some (.tup xs)→H' b=some (.tup xs)) (frzs:∀b o u,H b=some (.frz o u)→H' b=some (.frz o u)) (tbls:∀b ps,H b=some (.tbl ps)→∃more,H' b=some (.tbl (ps++more)))
  (ns:∀m,s.heap.Ns X.env.locals m→h'.Ns X.env.locals m) (hok:HOk X.prog X.w H' h') (hg:AllBare g') :
  Inv X pins σ H' { s with heap:=h',gens:=g',drawn:=d',toks:=t' }:=by
 have neL:∀b o,X.s₀.heap.get? b=some o→b≠X.env.locals:=fun b o e=>Nat.ne_of_lt (Nat.lt_of_lt_of_le (Heap.lt_size e) I.ok.above)
 have neC:∀b o,X.s₀.heap.get? b=some o→b∉X.ex→b∉ch:=fun b o e hx hb=>by
  rcases (hch b hb).1 with z | z
  ·exact hx z
  ·exact absurd (Nat.lt_of_lt_of_le (Heap.lt_size e) z) (Nat.lt_irrefl _)
 have cellK:∀x c,X.env.cells.lookup x=some c→∀v,s.heap.IsCell c v→h'.IsCell c v:=fun x c e v ⟨o,ho,hd⟩=>by
  have nch:c∉ch:=fun z=>(hch c z).2.2.1 x c e rfl
  by_cases hc:c∈X.fs
  ·obtain⟨sl,q⟩:=slot c o (I.cne x c e) hc nch ho (I.freeC x c e)
   exact⟨_,q,hd⟩
  ·exact⟨o,keep c o (I.cne x c e) hc nch ho (I.freeC x c e),hd⟩
 refine⟨I.ok,I.os,hg,⟨fun b o e n hb hx=>?_,fun b o e n hb hx=>?_,fun b o e n hx=>?_,fun b o e hx=>?_,fun b xs e=>tups b xs (I.base.tups b xs e),fun b o xs e=>frzs b o xs (I.base.frzs b o xs e),fun b ps e=>?_⟩,?_,fun x c e=>?_,?_,fun x c e=>?_,fun p hp=>?_,hok,I.len⟩
 ·exact keep b o (neL b o e) hb (neC b o e hx) (I.base.keep b o e n hb hx) (I.base.free b o e n hx)
 ·obtain⟨sl,e1⟩:=I.base.slot b o e n hb hx
  obtain⟨sl',e2⟩:=slot b _ (neL b o e) hb (neC b o e hx) e1 (I.base.free b o e n hx)
  exact⟨sl',e2⟩
 ·obtain⟨o',e1⟩:=I.base.there b o e hx
  exact free b o' (neC b o e hx) e1 (I.base.free b o e n hx)
 ·obtain⟨o',e1⟩:=I.base.there b o e hx
  exact there b o' (neC b o e hx) e1
 ·obtain⟨m1,e1⟩:=I.base.tbls b ps e
  obtain⟨m2,e2⟩:=tbls b _ e1
  exact⟨m1++m2,by rw[e2,Array.append_assoc]⟩
 ·obtain⟨m,hn,hl⟩:=I.loc
  refine⟨m,ns m hn,fun i x v e1 e2 e3=>?_⟩
  obtain⟨u,r,l⟩:=hl i x v e1 e2 e3
  refine⟨u,r,?_⟩
  rcases l with l | ⟨k,c,e,z⟩
  ·exact .inl l
  ·exact .inr ⟨k,c,e,cellK x c e _ z⟩
 ·obtain⟨v,z⟩:=I.cell x c e
  exact⟨v,cellK x c e v z⟩
 ·obtain⟨m,⟨o,_,_,ho,_⟩,_⟩:=I.loc
  exact free _ o (fun z=>(hch _ z).2.1 rfl) ho I.free
 ·obtain⟨v,o,ho,hd⟩:=I.cell x c e
  exact free c o (fun z=>(hch c z).2.2.1 x c e rfl) ho (I.freeC x c e)
 ·obtain⟨e,n,ne,nf,d⟩:=I.pin p hp
  have nch:p.1∉ch:=fun z=>(hch p.1 z).2.2.2 p hp rfl
  exact⟨keep p.1 p.2 ne nf nch e n,free p.1 p.2 nch e n,ne,nf,d⟩
theorem Inv.un {t':Nat} (I:Inv X pins σ H s) (u:Un X.fs [] H H' s.heap h') (hok:HOk X.prog X.w H' h'):Inv X pins σ H' { s with heap:=h',toks:=t' }:=by
 obtain⟨m,⟨o,es,ep,ho,r⟩,_⟩:=id I.loc
 obtain⟨sl,hL⟩:=u.any ho I.free (by simp)
 exact I.step (g':=s.gens) (d':=s.drawn) (ch:=[]) (fun _ z=>nomatch z) (fun b o _ hb _ e n=>u.keep b o e n hb (by simp)) (fun b o _ hb _ e n=>u.slot b o e n hb (by simp)) (fun b o _ e n=>u.free b o e n (by simp)) (fun b o _ e=>u.there b o e (by simp)) u.tups u.frzs u.tbls (fun m' hm=>by
  obtain⟨o',es',ep',ho',r'⟩:=hm
  rw[ho] at ho';cases ho'
  exact⟨_,es',ep',hL,r'⟩) hok I.bare
theorem Inv.call {g':Array GenState} {t':Nat} {d':Drawn} {ch:List Addr} (I:Inv X pins σ H s) (u:Un (frs X.stack) ch H H' s.heap h') (hok:HOk X.prog X.w H' h') (hg:AllBare g')
  (hch:∀b∈ch,(b∈X.ex∨X.s₀.heap.objs.size≤b)∧b≠X.env.locals∧(∀x c,X.env.cells.lookup x=some c→c≠b)∧∀p∈X.pn++pins,p.1≠b) :
  Inv X pins σ H' { s with heap:=h',gens:=g',drawn:=d',toks:=t' }:=by
 obtain⟨m,⟨o,es,ep,ho,r⟩,_⟩:=id I.loc
 obtain⟨sl,hL⟩:=u.any ho I.free fun z=>(hch _ z).2.1 rfl
 exact I.step (ch:=ch) hch (fun b o hL hb hc e n=>u.keep b o e n (fun z=>(List.mem_cons.mp (I.stkSub b z)).elim hL hb) hc) (fun b o _ _ hc e n=>u.any e n hc) (fun b o hc e n=>u.free b o e n hc) (fun b o hc e=>u.there b o e hc) u.tups u.frzs u.tbls (fun m' hm=>by
  obtain⟨o',es',ep',ho',r'⟩:=hm
  rw[ho] at ho';cases ho'
  exact⟨_,es',ep',hL,r'⟩) hok hg
theorem Inv.turned {t':Nat} {it:Addr} (I:Inv X pins σ H s) (k:∀b o,b≠it→s.heap.get? b=some o→h'.get? b=some o) (hn:H it=none) (hL:it≠X.env.locals)
  (h1:it∈X.ex∨X.s₀.heap.objs.size≤it) (h2:∀x c,X.env.cells.lookup x=some c→c≠it) (h3:∀p∈X.pn++pins,p.1≠it):Inv X pins σ H { s with heap:=h',toks:=t' }:=by
 have nit:∀b u,H b=some u→b≠it:=fun b u e z=>by rw[z,hn] at e;cases e
 refine I.step (g':=s.gens) (d':=s.drawn) (ch:=[it]) (fun b hb=>?_) (fun b o _ _ hc e _=>k b o (fun z=>hc (by simp[z])) e) (fun b o _ _ hc e _=>⟨o.slots,k b o (fun z=>hc (by simp[z])) e⟩) (fun _ _ _ _ n=>n)
  (fun b o hc e=>⟨o,k b o (fun z=>hc (by simp[z])) e⟩) (fun _ _ e=>e) (fun _ _ _ e=>e) (fun b ps e=>⟨#[],by rw[e];simp⟩) (fun m hm=>?_) (fun b u e=>?_) I.bare
 ·have e:b=it:=by simpa using hb
  subst e
  exact⟨h1,hL,h2,h3⟩
 ·obtain⟨o,es,ep,ho,r⟩:=hm
  exact⟨o,es,ep,k _ o (Ne.symm hL) ho,r⟩
 ·refine (I.hok b u e).stay (fun c v hc q=>k c v ?_ q) (fun _ q=>q) fun _ _ q=>q
  rcases hc with z | z
  ·rw[z];exact nit b u e
  ·exact nit c _ z
theorem Inv.tok (I:Inv X pins σ H s) (t:Nat):Inv X pins σ H { s with toks:=t }:=I.un (h':=s.heap) (t':=t) Un.refl I.hok
theorem Inv.kept {t':Nat} (I:Inv X pins σ H s) (k:∀b u,s.heap.get? b=some u→h'.get? b=some u):Inv X pins σ H { s with heap:=h',toks:=t' }:=I.un (Un.kept k) (I.hok.kept k)
theorem Inv.laid {a:Addr} {o:HO} {t':Nat} (I:Inv X pins σ H s) (k:∀b u,s.heap.get? b=some u→h'.get? b=some u) (hp:s.heap.objs.size≤a) (new:ObjOk X.prog X.w (upd H a o) h' a o) :
  Inv X pins σ (upd H a o) { s with heap:=h',toks:=t' }:=I.un (Un.laid k hp (I.hok.fresh hp)) (I.hok.laid k hp new)
theorem Inv.write {x e:Addr} {o:HO} {t':Nat} (I:Inv X pins σ H s) (mu:Mut (H x)) (he:e=x∨H e=some (.own x)) (k:∀b u,b≠e→s.heap.get? b=some u→h'.get? b=some u) (heo:∃u,h'.get? e=some u)
  (new:ObjOk X.prog X.w (upd H x o) h' x o):Inv X pins σ (upd H x o) { s with heap:=h',toks:=t' }:=I.un (Un.write mu he k heo) (I.hok.write mu he k heo new)
theorem Inv.weak {σ':List (Option V)} (I:Inv X pins σ H s) (hl:σ'.length=σ.length) (w:∀(i:Nat) v,σ'[i]? = some (some v)→σ[i]? = some (some v)):Inv X pins σ' H s:=
 ⟨I.ok,I.os,I.bare,I.base,let ⟨m,hn,hl'⟩:=I.loc;⟨m,hn,fun i x v e1 e2 e3=>hl' i x v e1 (w i v e2) e3⟩,I.cell,I.free,I.freeC,I.pin,I.hok,hl.trans I.len⟩
theorem Inv.pins_of {pins':List (Addr×Obj)} (I:Inv X pins σ H s) (h:∀p∈pins',s.heap.get? p.1=some p.2∧H p.1=none∧p.1≠X.env.locals∧p.1∉X.fs∧∀v,p.2.data≠.cell v):Inv X pins' σ H s:=
 ⟨I.ok,I.os,I.bare,I.base,I.loc,I.cell,I.free,I.freeC,fun p hp=>(List.mem_append.mp hp).elim (fun z=>I.pin p (List.mem_append_left _ z)) (h p),I.hok,I.len⟩
theorem nodup_ix {N:List Str} (hN:N.Nodup) {i j:Nat} {x:Str} (a:N[i]? = some x) (b:N[j]? = some x):i=j:=by
 obtain⟨h1,e1⟩:=List.getElem?_eq_some_iff.mp a
 obtain⟨h2,e2⟩:=List.getElem?_eq_some_iff.mp b
 exact (List.getElem_inj hN).mp (e1.trans e2.symm)
theorem store_ok2 {M:Model} {A:Around} {E:Value→Shared→Prop} {i:Nat} {x:Str} {v:V} {u:Value} {Q:Unit→Shared→Prop} (I:Inv X pins σ H s) (hN:X.N.Nodup) (hi:X.N[i]? = some x) (hx:Loc X.env.scope x) (r:RelV v u)
  (h:∀s',Inv X pins (σ.set i (some v)) H s'→(∃a,Heap.SameBut a s.heap s'.heap∧(a=X.env.locals∨X.env.cells.lookup x=some a))→Q () s') (hf:X.fn x=true∨X.env.scope.names.lookup x=some .local:=by first | exact .inl rfl | exact .inr rfl | assumption):wpAny M A (storeName X.env x u) Q E s:=by
 obtain⟨m,hn,hl⟩:=id I.loc
 have hcls:(X.env.scope.kind == .class || (X.env.scope.kind == .module && X.env.locals != X.env.globals))=false:=by rw[I.ok.kind];rfl
 have hiσ:i<σ.length:=by rw[I.len];exact (List.getElem?_eq_some_iff.mp hi).1
 have cne:=I.cne
 have tracked:∀{a:Addr} {h':Heap},(∃o,s.heap.get? a=some o∧H a=none)→Heap.SameBut a s.heap h'→HOk X.prog X.w H h':=fun {a h'} ha hs b ob e=>by
  obtain⟨_,_,hfree⟩:=ha
  refine (I.hok b ob e).stay (fun c w' hc q=>(hs.2 c ?_).trans q) (fun _ q=>q) fun _ _ q=>q
  rintro rfl
  rcases hc with rfl | hc
  ·rw[hfree] at e;cases e
  ·rw[hfree] at hc;cases hc
 rcases hx with hk | hk
 ·refine wpAny_storeName_local hk hn (fun h' hn' hs=>?_) hcls
  obtain⟨oL,_,_,hoL,_⟩:=id hn
  refine h _ ⟨I.ok,I.os,I.bare,⟨fun b o e n hb hx=>?_,fun b o e n hb hx=>?_,I.base.free,fun b o e hx=>?_,I.base.tups,I.base.frzs,I.base.tbls⟩,⟨_,hn',fun j y v' e1 e2 e3=>?_⟩,fun y c e=>?_,I.free,I.freeC,fun p hp=>?_,tracked ⟨oL,hoL,I.free⟩ hs,by simpa using I.len⟩ ⟨_,hs,.inl rfl⟩
  ·exact (hs.2 b (Nat.ne_of_lt (Nat.lt_of_lt_of_le (Heap.lt_size e) I.ok.above))).trans (I.base.keep b o e n hb hx)
  ·obtain⟨sl,e1⟩:=I.base.slot b o e n hb hx
   exact⟨sl,(hs.2 b (Nat.ne_of_lt (Nat.lt_of_lt_of_le (Heap.lt_size e) I.ok.above))).trans e1⟩
  ·obtain⟨o',e1⟩:=I.base.there b o e hx
   exact⟨o',(hs.2 b (Nat.ne_of_lt (Nat.lt_of_lt_of_le (Heap.lt_size e) I.ok.above))).trans e1⟩
  ·by_cases hj:j=i
   ·subst hj
    rw[hi] at e1;cases e1
    rw[List.getElem?_set_self hiσ] at e2
    cases e2
    exact⟨u,r,.inl ⟨hk,by simp⟩⟩
   ·rw[List.getElem?_set_ne (Ne.symm hj)] at e2
    obtain⟨u',r',q⟩:=hl j y v' e1 e2 e3
    refine⟨u',r',?_⟩
    rcases q with⟨k,e⟩|⟨k,c,e,z⟩
    ·refine .inl ⟨k,?_⟩
     have:y≠x:=fun e=>hj (nodup_ix hN e1 (e ▸ hi))
     simp[this,e]
    ·exact .inr ⟨k,c,e,z.sameBut hs (cne y c e)⟩
  ·obtain⟨w',z⟩:=I.cell y c e
   exact⟨w',z.sameBut hs (cne y c e)⟩
  ·obtain⟨e,n,ne,nf,d⟩:=I.pin p hp
   exact⟨(hs.2 p.1 ne).trans e,n,ne,nf,d⟩
 ·have hfn:X.fn x=true:=by
   rcases hf with z | z
   ·exact z
   ·rw[z] at hk;cases hk
  obtain⟨c,hc⟩:=I.ok.has x (.inl hk)
  obtain⟨w',z⟩:=I.cell x c hc
  refine wpAny_storeName_cell I.ok.kind hk hc z (fun h' hc' hs=>?_)
  obtain⟨oc,hoc,hocd⟩:=id z
  refine h { s with heap:=h' } ⟨I.ok,I.os,I.bare,⟨fun b o e n hb hx=>?_,fun b o e n hb hx=>?_,I.base.free,fun b o e hx=>?_,I.base.tups,I.base.frzs,I.base.tbls⟩,⟨m,hn.sameBut hs (Ne.symm (cne x c hc)),fun j y v' e1 e2 e3=>?_⟩,fun y c' e=>?_,I.free,I.freeC,fun p hp=>?_,tracked ⟨oc,hoc,I.freeC x c hc⟩ hs,by simpa using I.len⟩ ⟨c,hs,.inr hc⟩
  ·exact (hs.2 b (Nat.ne_of_lt (Nat.lt_of_lt_of_le (Heap.lt_size e) (I.ok.cab x c hfn hc)))).trans (I.base.keep b o e n hb hx)
  ·obtain⟨sl,e1⟩:=I.base.slot b o e n hb hx
   exact⟨sl,(hs.2 b (Nat.ne_of_lt (Nat.lt_of_lt_of_le (Heap.lt_size e) (I.ok.cab x c hfn hc)))).trans e1⟩
  ·obtain⟨o',e1⟩:=I.base.there b o e hx
   exact⟨o',(hs.2 b (Nat.ne_of_lt (Nat.lt_of_lt_of_le (Heap.lt_size e) (I.ok.cab x c hfn hc)))).trans e1⟩
  ·by_cases hj:j=i
   ·subst hj
    rw[hi] at e1;cases e1
    rw[List.getElem?_set_self hiσ] at e2
    cases e2
    exact⟨u,r,.inr ⟨.inl hk,c,hc,hc'⟩⟩
   ·rw[List.getElem?_set_ne (Ne.symm hj)] at e2
    obtain⟨u',r',q⟩:=hl j y v' e1 e2 e3
    refine⟨u',r',?_⟩
    rcases q with q | ⟨k,c',e,z'⟩
    ·exact .inl q
    ·refine .inr ⟨k,c',e,z'.sameBut hs ?_⟩
     rintro rfl
     exact hj (nodup_ix hN e1 (I.ok.inj _ _ _ e hc ▸ hi))
  ·by_cases hcc:c'=c
   ·subst hcc;exact⟨_,hc'⟩
   ·obtain⟨w2,z2⟩:=I.cell y c' e
    exact⟨w2,z2.sameBut hs hcc⟩
  ·obtain⟨e,n,ne,nf,d⟩:=I.pin p hp
   refine⟨(hs.2 p.1 ?_).trans e,n,ne,nf,d⟩
   intro q
   rw[q,hoc] at e
   have q':oc=p.2:=Option.some.inj e
   exact d w' (by rw[←q'];exact hocd)
theorem store_ok {M:Model} {A:Around} {E:Value→Shared→Prop} {i:Nat} {x:Str} {v:V} {u:Value} {Q:Unit→Shared→Prop} (I:Inv X pins σ H s) (hN:X.N.Nodup) (hi:X.N[i]? = some x) (hx:Loc X.env.scope x) (r:RelV v u)
  (h:∀s',Inv X pins (σ.set i (some v)) H s'→Q () s') (hf:X.fn x=true∨X.env.scope.names.lookup x=some .local:=by first | exact .inl rfl | exact .inr rfl | assumption):wpAny M A (storeName X.env x u) Q E s:=
 store_ok2 I hN hi hx r (fun s' I' _=>h s' I') hf
theorem Inv.call' {s':Shared} {ch:List Addr} (I:Inv X pins σ H s) (ho:s'.os=s.os) (u:Un (frs X.stack) ch H H' s.heap s'.heap) (hok:HOk X.prog X.w H' s'.heap) (hg:AllBare s'.gens)
  (hch:∀b∈ch,(b∈X.ex∨X.s₀.heap.objs.size≤b)∧b≠X.env.locals∧(∀x c,X.env.cells.lookup x=some c→c≠b)∧∀p∈X.pn++pins,p.1≠b):Inv X pins σ H' s':=by
 obtain⟨h',g',d',t',o'⟩:=s'
 have e:o'=s.os:=ho
 subst e
 exact I.call (g':=g') (t':=t') (d':=d') u hok hg hch
end
abbrev XK:=Value→Option Addr→Hp→Prop
abbrev St:=List (Option V)
abbrev VK:=V→Hp→Prop
abbrev TE:=St→Hp→VK→Prop
abbrev TT:=St→Hp→(Bool→Hp→Prop)→Prop
abbrev TA:=St→Hp→(List V→Hp→Prop)→Prop
structure Ends where
 nx:St→Hp→Prop
 rt:VK
 bk:St→Hp→Prop:=fun _ _=>False
 ct:St→Hp→Prop:=fun _ _=>False
abbrev TS:=Ends→St→Hp→Prop
def EP (X:Cx) (pins:List (Addr×Obj)) (σ:St) (Q:VK) (u:Value) (s':Shared):Prop:=∃v H',Inv X pins σ H' s'∧RelV v u∧Q v H'
def TP (X:Cx) (pins:List (Addr×Obj)) (σ:St) (Q:Bool→Hp→Prop) (b:Bool) (s':Shared):Prop:=∃H',Inv X pins σ H' s'∧Q b H'
def AP (X:Cx) (pins:List (Addr×Obj)) (σ:St) (Q:List V→Hp→Prop) (us:List Value) (s':Shared):Prop:=∃vs H',Inv X pins σ H' s'∧Vals vs us∧Q vs H'
def SP (X:Cx) (pins:List (Addr×Obj)) (D:Ends) (f:Flow) (s':Shared):Prop:=
 match f with
 | .next=>∃σ' H',Inv X pins σ' H' s'∧D.nx σ' H'
 | .brk=>∃σ' H',Inv X pins σ' H' s'∧D.bk σ' H'
 | .cont=>∃σ' H',Inv X pins σ' H' s'∧D.ct σ' H'
 | .ret u=>∃v σ' H',Inv X pins σ' H' s'∧RelV v u∧D.rt v H'
def PE (X:Cx) (e:Expr) (t:TE):Prop:=
 ∀(pins:List (Addr×Obj)) (s:Shared) (σ:St) (H:Hp) (Q:VK),Inv X pins σ H s→t σ H Q→wpAny (model X.prog X.w) X.A (eval e X.env) (EP X pins σ Q) X.xe s
def PT (X:Cx) (e:Expr) (t:TT):Prop:=
 ∀(pins:List (Addr×Obj)) (s:Shared) (σ:St) (H:Hp) (Q:Bool→Hp→Prop),Inv X pins σ H s→t σ H Q→wpAny (model X.prog X.w) X.A (isTrue e X.env (eval e X.env)) (TP X pins σ Q) X.xe s
def PW (X:Cx) (e:Expr) (t:TT):Prop:=
 ∀(whole:Sem Value) (pins:List (Addr×Obj)) (s:Shared) (σ:St) (H:Hp) (Q:Bool→Hp→Prop),Inv X pins σ H s→t σ H Q→wpAny (model X.prog X.w) X.A (isTrue e X.env whole) (TP X pins σ Q) X.xe s
theorem PW.pt {X:Cx} {e:Expr} {t:TT} (h:PW X e t):PT X e t:=h _
def PA (X:Cx) (es:List Expr) (t:TA):Prop:=
 ∀(pos:Pos) (pins:List (Addr×Obj)) (s:Shared) (σ:St) (H:Hp) (Q:List V→Hp→Prop),Inv X pins σ H s→t σ H Q→wpAny (model X.prog X.w) X.A (spliced (backTo pos (starEach es X.env))) (AP X pins σ Q) X.xe s
def PS (X:Cx) (st:Stmt) (t:TS):Prop:=
 ∀(pins:List (Addr×Obj)) (s:Shared) (σ:St) (H:Hp) (D:Ends),Inv X pins σ H s→t D σ H→wpAny (model X.prog X.w) X.A (exec st X.env) (SP X pins D) X.xe s
def PSs (X:Cx) (st:List Stmt) (t:TS):Prop:=
 ∀(pins:List (Addr×Obj)) (s:Shared) (σ:St) (H:Hp) (D:Ends),Inv X pins σ H s→t D σ H→wpAny (model X.prog X.w) X.A (execs st X.env) (SP X pins D) X.xe s
theorem thn {α:Type} {t:Sem α} {Q Q':α→Shared→Prop} {M:Model} {A:Around} {E:Value→Shared→Prop} {s:Shared} (h:wpAny M A t Q E s) (hQ:∀a s,Q a s→Q' a s):wpAny M A t Q' E s:=wpAny_mono h hQ fun _ _ x=>x
end L2
namespace L2
open PySem PySem.Spec PyProof.Rows
section
variable {X:Cx}
def tVar (i:Nat):TE:=fun σ H Q=>∃v,σ[i]? = some (some v)∧Q v H
def tC (v:V):TE:=fun _ H Q=>Q v H
theorem pe_var {i:Nat} {x:Str} {pos:Pos} (hN:X.N[i]? = some x) (hv:Vis X.env.scope x) (hd:(x == ("__debug__":Str))=false:=by decide) (hcd:(x == ("__classdict__":Str))=false:=by decide):PE X (.Name x pos) (tVar i):=by
 intro pins s σ H Q I h
 obtain⟨v,e,h⟩:=h
 obtain⟨m,hn,hl⟩:=I.loc
 obtain⟨u,r,l⟩:=hl i x v hN e hv
 have fin:EP X pins σ Q u s:=⟨v,H,I,r,h⟩
 rcases l with⟨hk,hm⟩|⟨hk,c,hc,hcell⟩
 ·exact wpAny_Name (wpAny_loadName_local I.ok.kind hk hn hm fin) hd
 ·rcases hk with hk | hk
  ·exact wpAny_Name (wpAny_loadName_cell I.ok.kind hk hc hcell fin) hd
  ·exact wpAny_Name (wpAny_loadName_free I.ok.kind hk hc hcell fin hcd) hd
theorem pe_int {i j pos}:PE X (.Constant (.int i) j pos) (tC (.int i)):=fun _ _ _ H _ I h=>wpAny_Constant_int ⟨.int i,H,I.tok _,⟨_,rfl⟩,h⟩
theorem pe_bl {b j pos}:PE X (.Constant (.bool b) j pos) (tC (.bl b)):=fun _ _ _ H _ I h=>Constant_bool ⟨.bl b,H,I,rfl,h⟩
theorem pe_non {j pos}:PE X (.Constant .none j pos) (tC .non):=fun _ _ _ H _ I h=>Constant_none ⟨.non,H,I,rfl,h⟩
theorem pe_str {x j pos}:PE X (.Constant (.str x) j pos) (tC (.str x)):=fun _ _ _ H _ I h=>Calls.Constant_str ⟨.str x,H,I.tok _,⟨_,rfl⟩,h⟩
def Gl (X:Cx) (x:Str):Prop:=X.env.kindOf x=some .globalImplicit
theorem ld_glob {E:Value→Shared→Prop} {pins:List (Addr×Obj)} {s:Shared} {σ:St} {H:Hp} {x:Str} {u:Value} {pos:Pos} {Q:Value→Shared→Prop} (I:Inv X pins σ H s) (hg:Gl X x) (hm:X.mg x=some u) (h:Q u s)
  (hd:(x == ("__debug__":Str))=false:=by decide):wpAny (model X.prog X.w) X.A (eval (.Name x pos) X.env) Q E s:=
 Calls.Name_function_global I.ok.kind hg (Calls.loadGlobal_global (by rw[I.ok.glob];exact I.mod.glob.keeps I.bk) hm h) hd
theorem ld_blt {E:Value→Shared→Prop} {pins:List (Addr×Obj)} {s:Shared} {σ:St} {H:Hp} {x:Str} {u:Value} {pos:Pos} {Q:Value→Shared→Prop} (I:Inv X pins σ H s) (hg:Gl X x) (hm:X.mg x=none) (hv:bootBuiltins x=some u) (h:Q u s)
  (hn:x≠"__name__":=by decide) (hd:(x == ("__debug__":Str))=false:=by decide):wpAny (model X.prog X.w) X.A (eval (.Name x pos) X.env) Q E s:=by
 obtain⟨mb,h1,h2⟩:=I.mod.blt
 exact Calls.Name_function_global I.ok.kind hg (Calls.loadGlobal_builtin (by rw[I.ok.glob];exact I.mod.glob.keeps I.bk) hm (by rw[I.ok.blt];exact h1.keeps I.bk) ((h2 x hn).trans hv) h) hd
theorem pe_glob {x:Str} {v:V} {u:Value} {pos:Pos} (hg:Gl X x) (hm:X.mg x=some u) (r:RelV v u) (hd:(x == ("__debug__":Str))=false:=by decide):PE X (.Name x pos) (tC v):=
 fun _ _ _ H _ I h=>ld_glob I hg hm ⟨v,H,I,r,h⟩ hd
theorem pe_bltn {x:Str} {v:V} {u:Value} {pos:Pos} (hg:Gl X x) (hm:X.mg x=none) (hv:bootBuiltins x=some u) (r:RelV v u) (hn:x≠"__name__":=by decide) (hd:(x == ("__debug__":Str))=false:=by decide):PE X (.Name x pos) (tC v):=
 fun _ _ _ H _ I h=>ld_blt I hg hm hv ⟨v,H,I,r,h⟩ hn hd
variable {a b:Expr} {ta tb:TE} {pos:Pos}
def PC (X:Cx) (op:CmpOp) (a b:Expr) (t:TE):Prop:=
 ∀(pins:List (Addr×Obj)) (s:Shared) (σ:St) (H:Hp) (Q:VK),Inv X pins σ H s→t σ H Q→
  wpAny (model X.prog X.w) X.A (eval a X.env) (fun v s₁=>wpAny (model X.prog X.w) X.A (eval b X.env) (fun u s₂=>wpAny (model X.prog X.w) X.A (compareOp op v u) (EP X pins σ Q) X.xe s₂) X.xe s₁) X.xe s
theorem nobehind (b:Expr) {op:CmpOp} (h:op≠.In) (h2:op≠.NotIn):behindInMarks op b=false:=by
 have e1:(op == CmpOp.In)=false:=by cases op<;>first | rfl | exact absurd rfl h
 have e2:(op == CmpOp.NotIn)=false:=by cases op<;>first | rfl | exact absurd rfl h2
 cases b<;>simp[behindInMarks,e1,e2]
def tNotN (ta:TE):TE:=fun σ H Q=>ta σ H fun x H1=>Q (.bl (!decide (x= .non))) H1
theorem RelV.none_iff {x:V} {v:Value} (r:RelV x v):(v == Value.none)=decide (x= .non):=by
 cases x with
 | non=>cases r;rfl
 | bl _=>cases r;rfl
 | int _=>obtain⟨t,rfl⟩:=r;rfl
 | str _=>obtain⟨t,rfl⟩:=r;rfl
 | byt _=>obtain⟨t,rfl⟩:=r;rfl
 | flt _=>obtain⟨t,rfl⟩:=r;rfl
 | ref _=>cases r;rfl
 | ty _=>cases r;rfl
theorem pc_notN {j pos'} (ha:PE X a ta):PC X .IsNot a (.Constant .none j pos') (tNotN ta):=by
 intro pins s σ H Q I h
 refine thn (ha pins s σ H _ I h) fun v s1 ⟨x,H1,I1,r1,q1⟩=>?_
 exact Constant_none (isnot_none_gen ⟨.bl _,H1,I1,by rw[r1.none_iff];rfl,q1⟩)
def tB (t:TE):TT:=fun σ H Q=>t σ H fun x H1=>∃c,x= .bl c∧Q c H1
theorem pt_cmp {op:CmpOp} {t:TE} (h:PC X op a b t) (h1:behindInMarks op b=false:=by first | exact nobehind _ (by decide) (by decide) | rfl):PT X (.Compare a [op] [b] pos) (tB t):=by
 intro pins s σ H Q I hw
 refine wpAny_isTrue_Compare1 (thn (h pins s σ H _ I hw) fun v s1 h1=>thn h1 fun u s2 h2=>thn h2 fun c s3 ⟨x,H1,I1,r1,q1⟩=>?_) h1
 obtain⟨d,rfl,q⟩:=q1
 cases r1
 exact wpAny_truthy_bool ⟨H1,I1,q⟩
theorem pt_val {e:Expr} {t:TE} (h:PE X e t) (he:∀whole,isTrue e X.env whole=(do let v ←whole;standAt e.pos;holding [v] (truthy v)):=by intro _;rfl):PT X e (tB t):=by
 intro pins s σ H Q I hw
 refine isTrue_plain (thn (h pins s σ H _ I hw) fun v s1 ⟨x,H1,I1,r1,q1⟩=>?_) (he _)
 obtain⟨d,rfl,q⟩:=q1
 cases r1
 exact wpAny_truthy_bool ⟨H1,I1,q⟩
variable {tA tB':TT} {rest:List Expr}
def tAnd (t u:TT):TT:=fun σ H Q=>t σ H fun c H1=>if c=true then u σ H1 Q else Q false H1
def tOr (t u:TT):TT:=fun σ H Q=>t σ H fun c H1=>if c=true then Q true H1 else u σ H1 Q
def tNot (t:TT):TT:=fun σ H Q=>t σ H fun c H1=>Q (!c) H1
theorem pw_and1 (ha:PT X a tA):PW X (.BoolOp .And [a] pos) tA:=by
 intro wh pins s σ H Q I h
 refine isTrue_and (thn (ha pins s σ H Q I h) fun c s1 e=>?_)
 cases c with
 | true=>exact isTrue_and_nil e
 | false=>exact e
theorem pw_or1 (ha:PT X a tA):PW X (.BoolOp .Or [a] pos) tA:=by
 intro wh pins s σ H Q I h
 refine isTrue_or (thn (ha pins s σ H Q I h) fun c s1 e=>?_)
 cases c with
 | false=>exact isTrue_or_nil e
 | true=>exact e
theorem pw_and (ha:PT X a tA) (hb:PW X (.BoolOp .And (b::rest) pos) tB'):PW X (.BoolOp .And (a::b::rest) pos) (tAnd tA tB'):=by
 intro wh pins s σ H Q I h
 refine isTrue_and (thn (ha pins s σ H _ I h) fun c s1 ⟨H1,I1,q1⟩=>?_)
 cases c with
 | true=>exact hb wh pins s1 σ H1 Q I1 q1
 | false=>exact⟨H1,I1,q1⟩
theorem pw_or (ha:PT X a tA) (hb:PW X (.BoolOp .Or (b::rest) pos) tB'):PW X (.BoolOp .Or (a::b::rest) pos) (tOr tA tB'):=by
 intro wh pins s σ H Q I h
 refine isTrue_or (thn (ha pins s σ H _ I h) fun c s1 ⟨H1,I1,q1⟩=>?_)
 cases c with
 | true=>exact⟨H1,I1,q1⟩
 | false=>exact hb wh pins s1 σ H1 Q I1 q1
theorem pt_not (ha:PT X a tA):PT X (.UnaryOp .Not a pos) (tNot tA):=by
 intro pins s σ H Q I h
 exact isTrue_not (ha pins s σ H (fun c H1=>Q (!c) H1) I h)
def tAndV (ta tb:TE):TE:=fun σ H Q=>ta σ H fun x H1=>∃c,x= .bl c∧if c=true then tb σ H1 Q else Q (.bl false) H1
def tOrV (ta tb:TE):TE:=fun σ H Q=>ta σ H fun x H1=>∃c,x= .bl c∧if c=true then Q (.bl true) H1 else tb σ H1 Q
def tNotV (ta:TE):TE:=fun σ H Q=>ta σ H fun x H1=>∃c,x= .bl c∧Q (.bl (!c)) H1
theorem pe_one {op} {t:TE} (h:PE X a t):PE X (.BoolOp op [a] pos) t:=fun pins s σ H Q I hw=>BoolOp_one (h pins s σ H Q I hw)
theorem pe_and (ha:PE X a ta) (hb:PE X (.BoolOp .And (b::rest) pos) tb):PE X (.BoolOp .And (a::b::rest) pos) (tAndV ta tb):=by
 intro pins s σ H Q I h
 refine BoolOp_and (thn (ha pins s σ H _ I h) fun v s1 ⟨x,H1,I1,r1,q1⟩=>?_)
 obtain⟨c,rfl,q1⟩:=q1
 cases r1
 refine wpAny_truthy_bool ?_
 cases c with
 | true=>exact hb pins s1 σ H1 Q I1 q1
 | false=>exact⟨.bl false,H1,I1,rfl,q1⟩
theorem pe_or (ha:PE X a ta) (hb:PE X (.BoolOp .Or (b::rest) pos) tb):PE X (.BoolOp .Or (a::b::rest) pos) (tOrV ta tb):=by
 intro pins s σ H Q I h
 refine BoolOp_or (thn (ha pins s σ H _ I h) fun v s1 ⟨x,H1,I1,r1,q1⟩=>?_)
 obtain⟨c,rfl,q1⟩:=q1
 cases r1
 refine wpAny_truthy_bool ?_
 cases c with
 | false=>exact hb pins s1 σ H1 Q I1 q1
 | true=>exact⟨.bl true,H1,I1,rfl,q1⟩
theorem pe_not (ha:PE X a ta):PE X (.UnaryOp .Not a pos) (tNotV ta):=by
 intro pins s σ H Q I h
 refine UnaryOp_ (thn (ha pins s σ H _ I h) fun v s1 ⟨x,H1,I1,r1,q1⟩=>?_)
 obtain⟨c,rfl,q1⟩:=q1
 cases r1
 exact not_of (wpAny_truthy_bool ⟨.bl (!c),H1,I1,rfl,q1⟩)
def tIf (t:TT) (ta tb:TE):TE:=fun σ H Q=>t σ H fun c H1=>if c=true then ta σ H1 Q else tb σ H1 Q
theorem pe_ifExp {c:Expr} (hc:PT X c tA) (ha:PE X a ta) (hb:PE X b tb):PE X (.IfExp c a b pos) (tIf tA ta tb):=by
 intro pins s σ H Q I h
 refine wpAny_IfExp (thn (hc pins s σ H _ I h) fun d s1 ⟨H1,I1,q1⟩=>?_)
 cases d with
 | true=>exact ha pins s1 σ H1 Q I1 q1
 | false=>exact hb pins s1 σ H1 Q I1 q1
end
end L2
namespace L2
open PySem PySem.Spec PyProof.Rows
def SqL (K:PySem.W.Frag) (H:Hp) (a:Addr) (xs:List V):Prop:=
 Rd H a (.lst xs)∨
  ∃(o:Obj) (its:Array Value) (n:Nat),K.lookup a=some o∧o.cls= .type "list"∧o.dict=none∧o.data= .seq its n∧its.size≤sizeLine∧Vals xs its.toList
def SqT (K:PySem.W.Frag) (H:Hp) (a:Addr) (xs:List V):Prop:=
 Rd H a (.tup xs)∨
  ∃(o:Obj) (its:Array Value) (n:Nat),K.lookup a=some o∧o.cls= .type "tuple"∧o.data= .seq its n∧its.size≤sizeLine∧Vals xs its.toList
def absV:Value→Option V
 | .none=>some .non
 | .bool b=>some (.bl b)
 | .int i _=>some (.int i)
 | .str x _=>some (.str x)
 | .bytes b _=>some (.byt b)
 | .float b _=>some (.flt b)
 | .ref a=>some (.ref a)
 | .type n=>some (.ty n)
 | _=>none
theorem RelV.abs {x:V} {u:Value} (r:RelV x u):absV u=some x:=by
 cases x with
 | non=>cases r;rfl
 | bl _=>cases r;rfl
 | int _=>obtain⟨t,rfl⟩:=r;rfl
 | str _=>obtain⟨t,rfl⟩:=r;rfl
 | byt _=>obtain⟨t,rfl⟩:=r;rfl
 | flt _=>obtain⟨t,rfl⟩:=r;rfl
 | ref _=>cases r;rfl
 | ty _=>cases r;rfl
theorem RelV.inj {x y:V} {u:Value} (r:RelV x u) (q:RelV y u):x=y:=Option.some.inj (r.abs.symm.trans q.abs)
theorem Vals.inj:∀{xs ys:List V} {us:List Value},Vals xs us→Vals ys us→xs=ys
 | _,_,_,.nil,.nil=>rfl
 | _,_,_,.cons r t,.cons r' t'=>by rw[r.inj r',Vals.inj t t']
section
variable {X:Cx} {pins:List (Addr×Obj)} {σ:St} {H:Hp} {s:Shared} {a:Addr} {xs ys:List V}
theorem SqL.of {K:PySem.W.Frag} (h:H a=some (.lst xs)):SqL K H a xs:=.inl (.inl h)
theorem SqT.of {K:PySem.W.Frag} (h:H a=some (.tup xs)):SqT K H a xs:=.inl (.inl h)
theorem Inv.list (I:Inv X pins σ H s) (h:SqL X.K H a xs):∃its:List Value,Vals xs its∧PlainL s.heap a its.toArray∧xs.length≤sizeLine:=by
 rcases h with h | ⟨o,its,n,hk,hc,hd,hs,hz,r⟩
 ·obtain⟨z,its,n,r,e⟩:=h.ok I.hok
  exact⟨its,r,⟨_,n,e,rfl,rfl,rfl⟩,z⟩
 ·refine⟨its.toList,r,⟨o,n,I.kIn a o hk,hc,hd,by simpa using hs⟩,?_⟩
  have e:=r.length
  simp only[Array.length_toList] at e
  omega
theorem Inv.tuple (I:Inv X pins σ H s) (h:SqT X.K H a xs):∃its:List Value,Vals xs its∧IsTup s.heap a its.toArray∧xs.length≤sizeLine:=by
 rcases h with h | ⟨o,its,n,hk,hc,hs,hz,r⟩
 ·obtain⟨z,its,r,p⟩:=h.ok I.hok
  exact⟨its,r,p,z⟩
 ·refine⟨its.toList,r,⟨o,I.kIn a o hk,hc,n,by simpa using hs⟩,?_⟩
  have e:=r.length
  simp only[Array.length_toList] at e
  omega
theorem Inv.list_inj (I:Inv X pins σ H s) (h:SqL X.K H a xs) (h':SqL X.K H a ys):xs=ys:=by
 obtain⟨its,r,⟨o,n,e,_,_,d⟩,_⟩:=I.list h
 obtain⟨its',r',⟨o',n',e',_,_,d'⟩,_⟩:=I.list h'
 rw[e] at e';cases e'
 rw[d] at d'
 injection d' with d1 _
 have:its=its':=by simpa using congrArg Array.toList d1
 subst this
 exact r.inj r'
theorem Inv.tuple_inj (I:Inv X pins σ H s) (h:SqT X.K H a xs) (h':SqT X.K H a ys):xs=ys:=by
 obtain⟨its,r,⟨o,e,_,n,d⟩,_⟩:=I.tuple h
 obtain⟨its',r',⟨o',e',_,n',d'⟩,_⟩:=I.tuple h'
 rw[e] at e';cases e'
 rw[d] at d'
 injection d' with d1 _
 have:its=its':=by simpa using congrArg Array.toList d1
 subst this
 exact r.inj r'
end
abbrev Cx.wish (X:Cx) (E:Value→Shared→Prop):Cx:={ X with xe:=E }
abbrev Cx.nox (X:Cx):Cx:=X.wish fun _ _=>False
theorem Cx.Ok.wish {X:Cx} (ok:X.Ok) (E:Value→Shared→Prop):(X.wish E).Ok:=
 ⟨ok.mod,ok.kind,ok.glob,ok.blt,ok.above,ok.inj,ok.has,ok.cab,ok.hd,ok.frames,ok.stk,ok.exf,ok.bs,ok.bsz,ok.noex,ok.exfs,ok.funs,ok.frf⟩
theorem Cx.Ok.unwish {X:Cx} {E:Value→Shared→Prop} (ok:(X.wish E).Ok):X.Ok:=
 ⟨ok.mod,ok.kind,ok.glob,ok.blt,ok.above,ok.inj,ok.has,ok.cab,ok.hd,ok.frames,ok.stk,ok.exf,ok.bs,ok.bsz,ok.noex,ok.exfs,ok.funs,ok.frf⟩
section
variable {X:Cx} {pins:List (Addr×Obj)} {σ:St} {H:Hp} {s:Shared} {E:Value→Shared→Prop}
theorem Inv.wish (I:Inv X pins σ H s) (E:Value→Shared→Prop):Inv (X.wish E) pins σ H s:=⟨I.ok.wish E,I.os,I.bare,I.base,I.loc,I.cell,I.free,I.freeC,I.pin,I.hok,I.len⟩
theorem Inv.unwish (I:Inv (X.wish E) pins σ H s):Inv X pins σ H s:=⟨I.ok.unwish,I.os,I.bare,I.base,I.loc,I.cell,I.free,I.freeC,I.pin,I.hok,I.len⟩
theorem SP.unwish {D:Ends} {f:Flow} {s':Shared} (h:SP (X.wish E) pins D f s'):SP X pins D f s':=by
 cases f with
 | next=>obtain⟨σ',H',I,q⟩:=h;exact⟨σ',H',I.unwish,q⟩
 | brk=>obtain⟨σ',H',I,q⟩:=h;exact⟨σ',H',I.unwish,q⟩
 | cont=>obtain⟨σ',H',I,q⟩:=h;exact⟨σ',H',I.unwish,q⟩
 | ret u=>obtain⟨v,σ',H',I,r,q⟩:=h;exact⟨v,σ',H',I.unwish,r,q⟩
theorem PE.nox {e:Expr} {t:TE} (h:PE X.nox e t):PE X e t:=fun pins s σ H Q I hw=>
 wpAny_mono (h pins s σ H Q (I.wish _) hw) (fun _ _ ⟨v,H',I',r,q⟩=>⟨v,H',I'.unwish,r,q⟩) fun _ _ z=>False.elim z
theorem PSs.nox {st:List Stmt} {t:TS} (h:PSs X.nox st t):PSs X st t:=fun pins s σ H D I hw=>
 wpAny_mono (h pins s σ H D (I.wish _) hw) (fun _ _ q=>q.unwish) fun _ _ z=>False.elim z
end
section
variable {X:Cx} {st:Stmt} {rest:List Stmt} {t u:TS} {e:Expr} {te:TE} {pos:Pos}
def tNext:TS:=fun D σ H=>D.nx σ H
def tSeq (t u:TS):TS:=fun D σ H=>t { D with nx:=u D } σ H
theorem pss_nil:PSs X [] tNext:=fun _ _ σ H _ I h=>wpAny_execs_nil ⟨σ,H,I,h⟩
theorem pss_cons (h1:PS X st t) (h2:PSs X rest u):PSs X (st::rest) (tSeq t u):=by
 intro pins s σ H D I h
 refine wpAny_execs_cons (thn (h1 pins s σ H { D with nx:=u D } I h) fun f s1 q=>?_)
 cases f with
 | next=>
  obtain⟨σ',H',I',q⟩:=q
  exact h2 pins s1 σ' H' D I' q
 | ret v=>exact q
 | brk=>exact q
 | cont=>exact q
theorem pss_one (h1:PS X st t):PSs X [st] t:=by
 intro pins s σ H D I h
 refine wpAny_execs_cons (thn (h1 pins s σ H D I h) fun f s1 q=>?_)
 cases f with
 | next=>exact wpAny_execs_nil q
 | ret v=>exact q
 | brk=>exact q
 | cont=>exact q
theorem Inv.quiet {pins:List (Addr×Obj)} {σ:St} {H:Hp} {s:Shared} (I:Inv X pins σ H s):interactive X.env=false:=by simp[interactive,I.ok.kind]
def tDrop (te:TE):TS:=fun D σ H=>te σ H fun _ H1=>D.nx σ H1
theorem ps_expr (he:PE X e te) (hs:swapsWith e none pos.line X.env=pure false:=by rfl):PS X (.Expr e pos) (tDrop te):=by
 intro pins s σ H D I h
 exact wpAny_Expr_any (thn (he pins s σ H _ I h) fun v s1 ⟨x,H1,I1,r1,q1⟩=>⟨σ,H1,I1,q1⟩) I.quiet hs
def tRet (te:TE):TS:=fun D σ H=>te σ H D.rt
theorem ps_ret (he:PE X e te):PS X (.Return (some e) pos) (tRet te):=by
 intro pins s σ H D I h
 exact wpAny_Return_some (thn (he pins s σ H _ I h) fun v s1 ⟨x,H1,I1,r1,q1⟩=>⟨x,σ,H1,I1,r1,q1⟩)
def tIfS (c:TT) (t u:TS):TS:=fun D σ H=>c σ H fun b H1=>if b=true then t D σ H1 else u D σ H1
theorem ps_if {c:Expr} {a b:List Stmt} {tc:TT} (hc:PT X c tc) (ha:PSs X a t) (hb:PSs X b u):PS X (.If c a b pos) (tIfS tc t u):=by
 intro pins s σ H D I h
 refine wpAny_If (thn (hc pins s σ H _ I h) fun d s1 ⟨H1,I1,q1⟩=>?_)
 cases d with
 | true=>exact ha pins s1 σ H1 D I1 q1
 | false=>exact hb pins s1 σ H1 D I1 q1
end
abbrev TG:=V→St→Hp→(St→Hp→Prop)→Prop
abbrev TGs:=List V→St→Hp→(St→Hp→Prop)→Prop
def PG (X:Cx) (target:Expr) (t:TG):Prop:=
 ∀(pins:List (Addr×Obj)) (s:Shared) (σ:St) (H:Hp) (v:V) (u:Value) (Q:St→Hp→Prop),Inv X pins σ H s→RelV v u→t v σ H Q→
  wpAny (model X.prog X.w) X.A (assign target X.env u) (fun _ s'=>∃σ' H',Inv X pins σ' H' s'∧Q σ' H') X.xe s
def PGs (X:Cx) (ts:List Expr) (t:TGs):Prop:=
 ∀(pins:List (Addr×Obj)) (s:Shared) (σ:St) (H:Hp) (vs:List V) (us:List Value) (Q:St→Hp→Prop),Inv X pins σ H s→Vals vs us→t vs σ H Q→
  wpAny (model X.prog X.w) X.A (assignInOrder ((assignEach ts X.env).map (·.2)) us) (fun _ s'=>∃σ' H',Inv X pins σ' H' s'∧Q σ' H') X.xe s
abbrev TSet:=V→V→V→Hp→(Hp→Prop)→Prop
def PSet (X:Cx) (t:TSet):Prop:=
 ∀(pins:List (Addr×Obj)) (s:Shared) (σ:St) (H:Hp) (o i v:V) (ov iv u:Value) (Q:Hp→Prop),Inv X pins σ H s→RelV o ov→RelV i iv→RelV v u→t o i v H Q→
  wpAny (model X.prog X.w) X.A (setItem ov iv u) (fun _ s'=>∃H',Inv X pins σ H' s'∧Q H') X.xe s
section
variable {X:Cx} {pos:Pos}
def gName (i:Nat):TG:=fun v σ H Q=>Q (σ.set i (some v)) H
theorem pg_name {i:Nat} {x:Str} (hN:X.N.Nodup) (hi:X.N[i]? = some x) (hx:Loc X.env.scope x) (hf:X.fn x=true∨X.env.scope.names.lookup x=some .local:=by first | exact .inl rfl | exact .inr rfl | assumption):PG X (.Name x pos) (gName i):=by
 intro pins s σ H v u Q I r h
 exact wpAny_assign_Name (store_ok I hN hi hx r (fun s' I'=>⟨_,H,I',h⟩) hf)
def gNil:TGs:=fun vs σ H Q=>vs=[]∧Q σ H
def gCons (t:TG) (u:TGs):TGs:=fun vs σ H Q=>∃v r,vs=v::r∧t v σ H fun σ' H'=>u r σ' H' Q
theorem pgs_nil:PGs X [] gNil:=by
 intro pins s σ H vs us Q I r h
 obtain⟨e,h⟩:=h
 subst e
 cases r
 exact assignInOrder_nil ⟨σ,H,I,h⟩
theorem pgs_cons {e:Expr} {es:List Expr} {t:TG} {u:TGs} (h1:PG X e t) (h2:PGs X es u)
  (hs:(assignEach (e::es) X.env).map (·.2)=assign e X.env::(assignEach es X.env).map (·.2):=by rfl):PGs X (e::es) (gCons t u):=by
 intro pins s σ H vs us Q I r h
 obtain⟨v,vr,e1,h⟩:=h
 subst e1
 cases r with
 | cons r rr=>
  rw[hs]
  refine assignInOrder_cons (thn (h1 pins s σ H _ _ _ I r h) fun _ s1 ⟨σ1,H1,I1,q1⟩=>?_)
  exact h2 pins s1 σ1 H1 _ _ Q I1 rr q1
def gTup (K:PySem.W.Frag) (n:Nat) (t:TGs):TG:=fun v σ H Q=>∃a xs,v= .ref a∧SqT K H a xs∧xs.length=n∧t xs σ H Q
theorem pg_tup {es:List Expr} {k:Nat} {t:TGs} {n:Nat} (hc:X.calm=true) (h:PGs X es t)
  (hn:(assignEach es X.env).length=n:=by rfl) (hst:(assignEach es X.env).findIdx? (·.1)=none:=by rfl):PG X (.Tuple es k pos) (gTup X.K n t):=by
 intro pins s σ H v u Q I r hw
 obtain⟨a,xs,e1,hq,hl,hw⟩:=hw
 subst e1
 cases r
 obtain⟨its,rv,ht,hz⟩:=I.tuple hq
 refine assign_Tuple_tuple (I.ok.hd hc) ht (by simp[hn,←hl,rv.length]) hst fun h' hx=>?_
 have I1:Inv X pins σ H { s with heap:=h' }:=I.kept (t':=s.toks) fun b o e=>hx b o (Nat.ne_of_lt (Heap.lt_size e)) e
 exact h pins _ σ H xs _ Q I1 (by simpa using rv) hw
def gSub (to ti:TE) (t:TSet):TG:=fun v σ H Q=>to σ H fun o H1=>ti σ H1 fun i H2=>t o i v H2 fun H3=>Q σ H3
theorem pg_sub {o i:Expr} {to ti:TE} {t:TSet} (ho:PE X o to) (hi:PE X i ti) (hs:PSet X t)
  (ha:∀v,assign (.Subscript o i pos) X.env v=(do
   let ov ←holding [v] (eval o X.env)
   let iv ←holding [v,ov] (eval i X.env)
   standAt pos
   holding [v,ov,iv] (setItem ov iv v)
   release [v,ov,iv] []):=by intro _;rfl):PG X (.Subscript o i pos) (gSub to ti t):=by
 intro pins s σ H v u Q I r h
 rw[ha]
 refine wpAny_bind (wpAny_holding (thn (ho pins s σ H _ I h) fun ov s1 ⟨x,H1,I1,r1,q1⟩=>?_))
 refine wpAny_bind (wpAny_holding (thn (hi pins s1 σ H1 _ I1 q1) fun iv s2 ⟨y,H2,I2,r2,q2⟩=>?_))
 refine wpAny_bind (wpAny_standAt (wpAny_bind (wpAny_holding (thn (hs pins s2 σ H2 x y v ov iv u _ I2 r1 r2 r q2) fun _ s3 ⟨H3,I3,q3⟩=>?_))))
 exact wpAny_release ⟨σ,H3,I3,q3⟩
def tAsg (te:TE) (g:TG):TS:=fun D σ H=>te σ H fun x H1=>g x σ H1 D.nx
theorem ps_asg {tg e:Expr} {te:TE} {g:TG} (he:PE X e te) (hg:PG X tg g) (hs:swapsWithSole [tg] e pos.line X.env=pure false:=by rfl) (hw:swappedStores [tg] e X.env=pure none:=by rfl)
  (h1:(assignEach [tg] X.env).map (·.2)=[assign tg X.env]:=by rfl):PS X (.Assign [tg] e pos) (tAsg te g):=by
 intro pins s σ H D I h
 refine wpAny_Assign_stores (thn (he pins s σ H _ I h) fun v s1 ⟨x,H1,I1,r1,q1⟩=>?_) hs hw
 rw[h1]
 exact thn (hg pins s1 σ H1 x v _ I1 r1 q1) fun _ s2 q=>q
theorem ps_set {i:Nat} {x:Str} {e:Expr} {te:TE} {pos':Pos} (hN:X.N.Nodup) (hi:X.N[i]? = some x) (hx:Loc X.env.scope x) (he:PE X e te) (hs:swapsWith e (some (.Name x pos')) pos.line X.env=pure false:=by rfl) (hf:X.fn x=true∨X.env.scope.names.lookup x=some .local:=by first | exact .inl rfl | exact .inr rfl | assumption) :
  PS X (.Assign [.Name x pos'] e pos) (tAsg te (gName i)):=by
 intro pins s σ H D I h
 refine wpAny_Assign_Name (thn (he pins s σ H _ I h) fun v s1 ⟨y,H1,I1,r1,q1⟩=>?_) hs
 exact store_ok I1 hN hi hx r1 (fun s2 I2=>⟨_,H1,I2,q1⟩) hf
end
section
variable {X:Cx} {pos:Pos}
def tWhile (c:TT) (tb:TS):TS:=fun D σ H=>∃W:Nat→St→Hp→Prop,(∃m,W m σ H)∧∀m σ H,W m σ H→
 c σ H fun b H1=>if b=true then ∃N:St→Hp→Prop,(∀σ' H',N σ' H'→∃m',m'<m∧W m' σ' H')∧tb { D with nx:=N,ct:=N,bk:=D.nx } σ H1 else D.nx σ H1
theorem ps_while {c:Expr} {body:List Stmt} {tc:TT} {tb:TS} (hp:PassesOwn (model X.prog X.w) X.A X.env X.xe) (hc:PT X c tc) (hb:PSs X body tb):PS X (.While c body [] pos) (tWhile tc tb):=by
 intro pins s σ H D I h
 obtain⟨W,⟨m0,w0⟩,turn⟩:=h
 refine wpAny_While (codeAny_whileLoop (fun n s'=>∃σ' H',Inv X pins σ' H' s'∧W n σ' H') ?_ m0 ⟨σ,H,I,w0⟩)
 rintro n s1 ⟨σ1,H1,I1,w1⟩
 refine wpAny_passesOwn hp (thn (hc pins s1 σ1 H1 _ I1 (turn n σ1 H1 w1)) fun b s2 ⟨H2,I2,q2⟩=>?_)
 cases b with
 | true=>
  obtain⟨N,hN,q2⟩:=q2
  rw[if_pos rfl]
  refine wpAny_passesOwn hp (thn (hb pins s2 σ1 H2 _ I2 q2) fun f s3 q3=>?_)
  cases f with
  | next=>
   obtain⟨σ3,H3,I3,n3⟩:=q3
   obtain⟨m',hm,w3⟩:=hN σ3 H3 n3
   exact⟨m',hm,σ3,H3,I3,w3⟩
  | cont=>
   obtain⟨σ3,H3,I3,n3⟩:=q3
   obtain⟨m',hm,w3⟩:=hN σ3 H3 n3
   exact⟨m',hm,σ3,H3,I3,w3⟩
  | brk=>exact q3
  | ret v=>exact q3
 | false=>
  rw[if_neg Bool.false_ne_true]
  exact wpAny_execs_nil ⟨σ1,H2,I2,q2⟩
end
structure It where
 go:Nat→Hp→Prop
 yld:Nat→Hp→V→Hp→Prop
 stop:Nat→Hp→Prop
def FpOk (X:Cx) (pins:List (Addr×Obj)) (H:Hp) (b:Addr):Prop:=
 H b=none∧b≠X.env.locals∧b∉X.fs∧(b∈X.ex∨X.s₀.heap.objs.size≤b)∧(∀x c,X.env.cells.lookup x=some c→c≠b)∧∀p∈X.pn++pins,p.1≠b
theorem Inv.fpOk {X:Cx} {pins:List (Addr×Obj)} {σ:St} {H H':Hp} {s:Shared} {b:Addr} (I:Inv X pins σ H s) (hb:s.heap.objs.size≤b) (hn:H' b=none):FpOk X pins H' b:=by
 refine⟨hn,Nat.ne_of_gt (Nat.lt_of_lt_of_le I.lt hb),I.nofs hb,.inr (Nat.le_trans I.sz hb),fun x c e z=>?_,fun p hp z=>?_⟩
 ·obtain⟨v,q⟩:=I.cell x c e
  exact absurd (Nat.lt_of_lt_of_le q.lt (by rw[z];exact hb)) (Nat.lt_irrefl _)
 ·exact absurd (Nat.lt_of_lt_of_le (Heap.lt_size (I.pin p hp).1) (by rw[z];exact hb)) (Nat.lt_irrefl _)
structure Turn (P:Program) (w:World) (K:PySem.W.Frag) (tg:Expr) (J:It) (fp:List Addr) (it:Addr) (tn:Nat→Heap→Prop):Prop where
 mem:it∈fp
 obj:∀i h,tn i h→∀b∈fp,∃o,h.get? b=some o∧∀v,o.data≠.cell v
 keep:∀i h h',tn i h→(∀b∈fp,∀o,h.get? b=some o→h'.get? b=some o)→tn i h'
 item:∀(X:Cx),X.prog=P→X.w=w→X.K=K→X.calm=true→∀(i:Nat) (pins:List (Addr×Obj)) (s:Shared) (σ:St) (H:Hp) (E:Value→Shared→Prop),Inv X pins σ H s→(∀b∈fp,FpOk X pins H b)→tn i s.heap→J.go i H→
  wpAny (model P w) X.A (pyNext (.ref it)) (fun r s1=>∃u,r=some u∧
   wpAny (model P w) X.A (letOwnedTupleGo tg (.ref it) u) (fun _ s2=>∃x H',Inv X pins σ H' s2∧RelV x u∧J.yld i H x H'∧tn (i+1) s2.heap∧∀b∈fp,H' b=none) E s1) E s
 done:∀(X:Cx),X.prog=P→X.w=w→X.K=K→X.calm=true→∀(i:Nat) (pins:List (Addr×Obj)) (s:Shared) (σ:St) (H:Hp) (E:Value→Shared→Prop),Inv X pins σ H s→(∀b∈fp,FpOk X pins H b)→tn i s.heap→J.stop i H→
  wpAny (model P w) X.A (pyNext (.ref it)) (fun r s1=>r=none∧Inv X pins σ H s1) E s
 self:∀(A:Around) (i:Nat) (s:Shared) (Q:Value→Shared→Prop) (E:Value→Shared→Prop),tn i s.heap→Q (.ref it) s→wpAny (model P w) A (pyIter (.ref it)) Q E s
abbrev TI:=St→Hp→(It→Hp→Prop)→Prop
def PIE (X:Cx) (pins:List (Addr×Obj)) (σ:St) (tg:Expr) (R:It→Hp→Prop) (itv:Value) (s2:Shared):Prop:=
 ∃(it:Addr) (fp:List Addr) (tn:Nat→Heap→Prop) (J:It) (H':Hp),itv= .ref it∧Inv X pins σ H' s2∧Turn X.prog X.w X.K tg J fp it tn∧tn 0 s2.heap∧(∀b∈fp,FpOk X pins H' b)∧R J H'
def PI (X:Cx) (tg iter:Expr) (wi:TI):Prop:=
 ∀(pins:List (Addr×Obj)) (s:Shared) (σ:St) (H:Hp) (R:It→Hp→Prop),Inv X pins σ H s→wi σ H R→
  wpAny (model X.prog X.w) X.A (eval iter X.env) (fun v s1=>wpAny (model X.prog X.w) X.A (pyIter v) (PIE X pins σ tg R) X.xe s1) X.xe s
theorem go_of {M:Model} {A:Around} {E:Value→Shared→Prop} {s:Shared} {tg:Expr} {it:Addr} {u:Value} {o:Obj} {n:String} {vs:Array Value} {Q:Unit→Shared→Prop} (ho:s.heap.get? it=some o) (hc:o.cls= .type n) (hd:o.data= .fields vs)
    (hn:["enumerate","zip","dict_itemiterator","dict_reverseitemiterator","odict_iterator","itertools.zip_longest","itertools.pairwise"].contains n=false) (hQ:Q () s):wpAny M A (letOwnedTupleGo tg (.ref it) u) Q E s:=by
  unfold letOwnedTupleGo
  cases tg<;>first
    | exact wpAny_pure hQ
    | (cases u<;>first
        | exact wpAny_pure hQ
        | (refine wpAny_bind (wpAny_load ho ?_)
           rw[hc,hd]
           show wpAny M A (if (["enumerate","zip","dict_itemiterator","dict_reverseitemiterator","odict_iterator","itertools.zip_longest","itertools.pairwise"].contains n && vs[0]? == some (rawInt _))=true then _ else _) Q E s
           rw[if_neg (by intro h;rw[hn,Bool.false_and] at h;cases h)]
           exact wpAny_pure hQ))
def Itl (K:PySem.W.Frag) (a:Addr):It:=
 ⟨fun i H=>∃xs x,SqL K H a xs∧xs[i]? = some x,fun i H x H'=>H'=H∧∀xs,SqL K H a xs→xs[i]? = some x,fun i H=>∃xs,SqL K H a xs∧xs.length≤i⟩
def Itt (K:PySem.W.Frag) (a:Addr):It:=
 ⟨fun i H=>∃xs x,SqT K H a xs∧xs[i]? = some x,fun i H x H'=>H'=H∧∀xs,SqT K H a xs→xs[i]? = some x,fun i H=>∃xs,SqT K H a xs∧xs.length≤i⟩
def Itr (lo:Int) (n:Nat):It:=⟨fun i _=>i<n,fun i H x H'=>H'=H∧x= .int (lo+i),fun i _=>n≤i⟩
theorem turn_list {P:Program} {w:World} {K:PySem.W.Frag} {tg:Expr} (a it:Addr):Turn P w K tg (Itl K a) [it] it (fun i h=>h.IsListIter it a i) where
 mem:=by simp
 obj:=fun i h st b hb=>by
  have e:b=it:=by simpa using hb
  subst e
  obtain⟨o,e,c,d⟩:=st
  exact⟨o,e,fun v z=>by rw[d] at z;cases z⟩
 keep:=fun i h h' st k=>st.at fun o e=>k it (by simp) o e
 item:=by
  intro X hP hw hK hc i pins s σ H E I hf st hg
  subst hP hw hK
  obtain⟨xs,x,hq,hx⟩:=hg
  obtain⟨its,rv,p,hz⟩:=I.list hq
  obtain⟨u,hu,ru⟩:=rv.get hx
  obtain⟨f0,f1,f2,f3,f4,f5⟩:=hf it (by simp)
  refine wpAny_pyNext_list_item st p.isList (x:=u) (by simpa using hu) fun h' st' sb=>?_
  have I1:Inv X pins σ H { s with heap:=h' }:=I.turned (t':=s.toks) (fun b o hb e=>(sb.2 b hb).trans e) f0 f1 f3 f4 f5
  obtain⟨o,e,c,d⟩:=id st'
  exact⟨u,rfl,go_of (s:={ s with heap:=h' }) e c d (by decide) ⟨x,H,I1,ru,⟨rfl,fun ys hy=>by rw[I.list_inj hy hq];exact hx⟩,st',fun b hb=>(hf b hb).1⟩⟩
 done:=by
  intro X hP hw hK hc i pins s σ H E I hf st hg
  subst hP hw hK
  obtain⟨xs,hq,hx⟩:=hg
  obtain⟨its,rv,p,hz⟩:=I.list hq
  obtain⟨f0,f1,f2,f3,f4,f5⟩:=hf it (by simp)
  have hl:=rv.length
  exact wpAny_pyNext_list_end (I.ok.hd hc) st p.isList (by simp;omega) fun h' eb=>⟨rfl,I.turned (t':=s.toks) (fun b o hb e=>eb b o hb e) f0 f1 f3 f4 f5⟩
 self:=fun _ _ _ _ _ st h=>wpAny_pyIter_listiter st h
theorem turn_tuple {P:Program} {w:World} {K:PySem.W.Frag} {tg:Expr} (a it:Addr):Turn P w K tg (Itt K a) [it] it (fun i h=>h.IsTupleIter it a i) where
 mem:=by simp
 obj:=fun i h st b hb=>by
  have e:b=it:=by simpa using hb
  subst e
  obtain⟨o,e,c,d⟩:=st
  exact⟨o,e,fun v z=>by rw[d] at z;cases z⟩
 keep:=fun i h h' st k=>st.at fun o e=>k it (by simp) o e
 item:=by
  intro X hP hw hK hc i pins s σ H E I hf st hg
  subst hP hw hK
  obtain⟨xs,x,hq,hx⟩:=hg
  obtain⟨its,rv,p,hz⟩:=I.tuple hq
  obtain⟨u,hu,ru⟩:=rv.get hx
  obtain⟨f0,f1,f2,f3,f4,f5⟩:=hf it (by simp)
  refine wpAny_pyNext_tuple_item st (show s.heap.IsTuple a its.toArray from p) (x:=u) (by simpa using hu) fun h' st' sb=>?_
  have I1:Inv X pins σ H { s with heap:=h' }:=I.turned (t':=s.toks) (fun b o hb e=>(sb.2 b hb).trans e) f0 f1 f3 f4 f5
  obtain⟨o,e,c,d⟩:=id st'
  exact⟨u,rfl,go_of (s:={ s with heap:=h' }) e c d (by decide) ⟨x,H,I1,ru,⟨rfl,fun ys hy=>by rw[I.tuple_inj hy hq];exact hx⟩,st',fun b hb=>(hf b hb).1⟩⟩
 done:=by
  intro X hP hw hK hc i pins s σ H E I hf st hg
  subst hP hw hK
  obtain⟨xs,hq,hx⟩:=hg
  obtain⟨its,rv,p,hz⟩:=I.tuple hq
  obtain⟨f0,f1,f2,f3,f4,f5⟩:=hf it (by simp)
  have hl:=rv.length
  exact wpAny_pyNext_tuple_end (I.ok.hd hc) st (show s.heap.IsTuple a its.toArray from p) (by simp;omega) fun h' eb=>⟨rfl,I.turned (t':=s.toks) (fun b o hb e=>eb b o hb e) f0 f1 f3 f4 f5⟩
 self:=fun _ _ _ _ _ st h=>wpAny_pyIter_tupleiter st h
theorem turn_range {P:Program} {w:World} {K:PySem.W.Frag} {tg:Expr} (it:Addr) (lo:Int) (n:Nat):Turn P w K tg (Itr lo n) [it] it (fun i h=>IsRangeIter h it (lo+(i:Nat)*1) ((n:Int)-(i:Nat)) 1) where
 mem:=by simp
 obj:=fun i h st b hb=>by
  have e:b=it:=by simpa using hb
  subst e
  exact⟨_,st,fun v z=>by
   have z':Data.fields _=Data.cell v:=z
   cases z'⟩
 keep:=fun i h h' st k=>k it (by simp) _ st
 item:=by
  intro X hP hw hK hc i pins s σ H E I hf st hg
  subst hP hw hK
  obtain⟨f0,f1,f2,f3,f4,f5⟩:=hf it (by simp)
  have W:=Walks.range (prog:=X.prog) (w:=X.w) (I.ok.hd hc) it lo 1 n
  refine W.item i s _ _ hg st fun v h' tk hv st' kk=>?_
  obtain⟨t,rfl⟩:=hv
  have I1:Inv X pins σ H { s with heap:=h',toks:=tk }:=I.turned (fun b o hb e=>kk b o (by simpa using hb) e) f0 f1 f3 f4 f5
  refine⟨_,rfl,go_of (s:={ s with heap:=h',toks:=tk }) (n:="range_iterator") st' rfl rfl (by decide) ⟨.int (lo+i),H,I1,⟨t,?_⟩,⟨rfl,rfl⟩,st',fun b hb=>(hf b hb).1⟩⟩
  rw[Int.mul_one]
 done:=by
  intro X hP hw hK hc i pins s σ H E I hf st hg
  subst hP hw hK
  obtain⟨f0,f1,f2,f3,f4,f5⟩:=hf it (by simp)
  exact wpAny_pyNext_range_end (I.ok.hd hc) st (by have:n≤i:=hg;omega) fun h' eb=>⟨rfl,I.turned (t':=s.toks) (fun b o hb e=>eb b o hb e) f0 f1 f3 f4 f5⟩
 self:=fun _ _ _ _ _ st h=>wpAny_pyIter_rangeiter st h
end L2
namespace L2
open PySem PySem.Spec PyProof.Rows
section
variable {X:Cx} {tg:Expr}
def iList (K:PySem.W.Frag) (tl:TE):TI:=fun σ H R=>tl σ H fun x H1=>∃a,x= .ref a∧(∃xs,SqL K H1 a xs)∧R (Itl K a) H1
def iTup (K:PySem.W.Frag) (tl:TE):TI:=fun σ H R=>tl σ H fun x H1=>∃a,x= .ref a∧(∃xs,SqT K H1 a xs)∧R (Itt K a) H1
theorem pi_list {l:Expr} {tl:TE} (hl:PE X l tl):PI X tg l (iList X.K tl):=by
 intro pins s σ H R I h
 refine thn (hl pins s σ H _ I h) fun v s1 ⟨x,H1,I1,r1,q1⟩=>?_
 obtain⟨a,e,⟨xs,hq⟩,q⟩:=q1
 subst e
 cases r1
 obtain⟨its,rv,p,hz⟩:=I1.list hq
 refine wpAny_pyIter_list p.isList ?_
 refine⟨s1.heap.objs.size,[s1.heap.objs.size],_,_,H1,rfl,I1.kept (t':=s1.toks) fun b o e=>Heap.get?_push_of_some _ e,turn_list a _,⟨_,Heap.get?_push_size _ rfl,rfl,rfl⟩,fun b hb=>?_,q⟩
 have e:b=s1.heap.objs.size:=by simpa using hb
 subst e
 exact I1.fpOk (Nat.le_refl _) (I1.hok.fresh (Nat.le_refl _))
theorem pi_tup {l:Expr} {tl:TE} (hl:PE X l tl):PI X tg l (iTup X.K tl):=by
 intro pins s σ H R I h
 refine thn (hl pins s σ H _ I h) fun v s1 ⟨x,H1,I1,r1,q1⟩=>?_
 obtain⟨a,e,⟨xs,hq⟩,q⟩:=q1
 subst e
 cases r1
 obtain⟨its,rv,p,hz⟩:=I1.tuple hq
 refine wpAny_pyIter_tuple (show s1.heap.IsTuple a its.toArray from p) ?_
 refine⟨s1.heap.objs.size,[s1.heap.objs.size],_,_,H1,rfl,I1.kept (t':=s1.toks) fun b o e=>Heap.get?_push_of_some _ e,turn_tuple a _,⟨_,Heap.get?_push_size _ rfl,rfl,rfl⟩,fun b hb=>?_,q⟩
 have e:b=s1.heap.objs.size:=by simpa using hb
 subst e
 exact I1.fpOk (Nat.le_refl _) (I1.hok.fresh (Nat.le_refl _))
theorem range_it {pins:List (Addr×Obj)} {σ:St} {H:Hp} {s:Shared} {R:It→Hp→Prop} {E:Value→Shared→Prop} {lo hi:Int} {t u v:Tok} {tk:Nat} (I:Inv X pins σ H s) (h1 : -(2^62)≤lo) (h2:lo<2^62) (h3 : -(2^62)≤hi) (h4:hi<2^62)
  (q:R (Itr lo (hi-lo).toNat) H):wpAny (model X.prog X.w) X.A (pyIter (.ref s.heap.objs.size)) (PIE X pins σ tg R) E { s with heap:=s.heap.push { cls:=.type "range",data:=.fields #[.int lo t,.int hi u,.int 1 v] },toks:=tk }:=by
 refine wpAny_pyIter_range (IsRange.new ..) (small_one h1 h2 h3 h4) ?_
 have I1:Inv X pins σ H { s with heap:=s.heap.push { cls:=.type "range",data:=.fields #[.int lo t,.int hi u,.int 1 v] },toks:=tk }:=I.kept fun b o e=>Heap.get?_push_of_some _ e
 refine⟨(s.heap.push { cls:=.type "range",data:=.fields #[.int lo t,.int hi u,.int 1 v] }).objs.size,[(s.heap.push { cls:=.type "range",data:=.fields #[.int lo t,.int hi u,.int 1 v] }).objs.size],_,_,H,rfl,
  I1.kept (t':=tk) fun b o e=>Heap.get?_push_of_some _ e,turn_range _ lo (hi-lo).toNat,?_,fun b hb=>?_,q⟩
 ·have e1:lo+((0:Nat):Int)*1=lo:=by simp
  have e2:(((hi-lo).toNat:Nat):Int)-((0:Nat):Int)=Builtin.Range.rangeSize lo hi 1:=by rw[rangeSize_one];split<;>omega
  show IsRangeIter _ _ (lo+((0:Nat):Int)*1) ((((hi-lo).toNat:Nat):Int)-((0:Nat):Int)) 1
  rw[e1,e2]
  exact Heap.get?_push_size _ rfl
 ·have e:b=(s.heap.push { cls:=.type "range",data:=.fields #[.int lo t,.int hi u,.int 1 v] }).objs.size:=by simpa using hb
  subst e
  exact I1.fpOk (Nat.le_refl _) (I1.hok.fresh (Nat.le_refl _))
def iRng1 (ta:TA):TI:=fun σ H R=>ta σ H fun vs H1=>∃j:Int,vs=[.int j]∧-(2^62)≤j∧j<2^62∧R (Itr 0 j.toNat) H1
def iRng2 (ta:TA):TI:=fun σ H R=>ta σ H fun vs H1=>∃i j:Int,vs=[.int i,.int j]∧(-(2^62)≤i∧i<2^62∧-(2^62)≤j∧j<2^62)∧R (Itr i (j-i).toNat) H1
theorem pi_range1 {a:Expr} {ta:TA} {p pos:Pos} (hg:Gl X "range") (hm:X.mg "range"=none) (ha:PA X [a] ta) (hs:starEach [a] X.env=[(false,eval a X.env)]:=by rfl):PI X tg (.Call (.Name "range" p) [a] [] pos) (iRng1 ta):=by
 intro pins s σ H R I h
 refine Call_ (ld_blt I hg hm boot_range (PyProof.Rows.callWith_type1 (thn (ha pos pins s σ H _ I h) fun us s1 ⟨vs,H1,I1,r1,q1⟩=>?_) hs rfl))
 obtain⟨j,e,q1,q2,q⟩:=q1
 subst e
 cases r1 with
 | cons r rr=>
  cases rr
  obtain⟨t,rfl⟩:=r
  exact call_range_1 (range_it I1 (by omega) (by omega) q1 q2 (by simpa using q))
theorem pi_range2 {a b:Expr} {ta:TA} {p pos:Pos} (hg:Gl X "range") (hm:X.mg "range"=none) (ha:PA X [a,b] ta) (hs:starEach [a,b] X.env=[(false,eval a X.env),(false,eval b X.env)]:=by rfl) (hs2:starEach [b] X.env=[(false,eval b X.env)]:=by rfl) :
  PI X tg (.Call (.Name "range" p) [a,b] [] pos) (iRng2 ta):=by
 intro pins s σ H R I h
 refine Call_ (ld_blt I hg hm boot_range (PyProof.Rows.callWith_type1 (thn (ha pos pins s σ H _ I h) fun us s1 ⟨vs,H1,I1,r1,q1⟩=>?_) (by rw[hs,hs2]) (by rw[hs2];rfl)))
 obtain⟨i,j,e,⟨q1,q2,q3,q4⟩,q⟩:=q1
 subst e
 cases r1 with
 | cons r rr=>
  cases rr with
  | cons r' rr=>
   cases rr
   obtain⟨t,rfl⟩:=r
   obtain⟨t',rfl⟩:=r'
   exact call_range_2 (range_it I1 q1 q2 q3 q4 q)
def tFor (wi:TI) (g:TG) (tb:TS):TS:=fun D σ H=>wi σ H fun J H1=>∃W:Nat→Nat→St→Hp→Prop,(∃m,W 0 m σ H1)∧∀i m σ H,W i m σ H→
 (J.stop i H∧D.nx σ H)∨(J.go i H∧∃N:St→Hp→Prop,(∀σ' H',N σ' H'→∃m',m'<m∧W (i+1) m' σ' H')∧∀x H',J.yld i H x H'→g x σ H' fun σ2 H2=>tb { D with nx:=N,ct:=N,bk:=D.nx } σ2 H2)
def pinsAt (fp:List Addr) (h:Heap):List (Addr×Obj):=fp.filterMap fun b=>(h.get? b).map fun o=>(b,o)
theorem mem_pinsAt {fp:List Addr} {h:Heap} {b:Addr} {o:Obj} (hb:b∈fp) (e:h.get? b=some o):(b,o)∈pinsAt fp h:=List.mem_filterMap.mpr ⟨b,hb,by rw[e];rfl⟩
theorem of_pinsAt {fp:List Addr} {h:Heap} {p:Addr×Obj} (hp:p∈pinsAt fp h):p.1∈fp∧h.get? p.1=some p.2:=by
 obtain⟨b,hb,e⟩:=List.mem_filterMap.mp hp
 cases q:h.get? b with
 | none=>rw[q] at e;cases e
 | some o=>
  rw[q] at e
  have e':(b,o)=p:=Option.some.inj e
  subst e'
  exact⟨hb,q⟩
theorem Inv.pinned {pins:List (Addr×Obj)} {σ:St} {H:Hp} {s:Shared} {fp:List Addr} (I:Inv X pins σ H s) (hf:∀b∈fp,FpOk X pins H b) (ho:∀b∈fp,∃o,s.heap.get? b=some o∧∀v,o.data≠.cell v):Inv X (pins++pinsAt fp s.heap) σ H s:=
 I.pins_of fun p hp=>(List.mem_append.mp hp).elim (fun z=>I.pin p (List.mem_append_right _ z)) fun z=>by
  obtain⟨hb,e⟩:=of_pinsAt z
  obtain⟨f0,f1,f2,_⟩:=hf p.1 hb
  obtain⟨o,e',d⟩:=ho p.1 hb
  rw[e] at e';cases e'
  exact⟨e,f0,f1,f2,d⟩
theorem Inv.unpinned {pins pl:List (Addr×Obj)} {σ:St} {H:Hp} {s:Shared} (I:Inv X (pins++pl) σ H s):Inv X pins σ H s:=I.pins_of fun p hp=>I.pin p (List.mem_append_right _ (List.mem_append_left _ hp))
theorem ps_for {iter:Expr} {body:List Stmt} {wi:TI} {g:TG} {tb:TS} {pos:Pos} (hp:PassesOwn (model X.prog X.w) X.A X.env X.xe) (hc:X.calm=true) (hi:PI X tg iter wi) (hg:PG X tg g) (hb:PSs X body tb)
  (hs:∀x,foldedSetIterable iter X.env x=pure x:=by intro _;rfl):PS X (.For tg iter body [] pos) (tFor wi g tb):=by
 intro pins s σ H D I h
 refine wpAny_For (thn (hi pins s σ H _ I h) fun v s1 h1=>thn h1 fun itv s2 h2=>?_) hs
 obtain⟨it,fp,tn,J,H2,e,I2,T,st2,f2,W,⟨m0,w0⟩,turn⟩:=h2
 subst e
 have stat:∀{H':Hp},(∀b∈fp,H' b=none)→∀b∈fp,FpOk X pins H' b:=fun hn b hb=>⟨hn b hb,(f2 b hb).2⟩
 refine codeAny_forLoop_any (fun n s'=>∃i σ' H',Inv X pins σ' H' s'∧tn i s'.heap∧(∀b∈fp,H' b=none)∧W i n σ' H') ?_ m0 ⟨0,σ,H2,I2,st2,fun b hb=>(f2 b hb).1,w0⟩
 rintro n s3 ⟨i,σ3,H3,I3,st3,fr3,w3⟩
 rcases turn i n σ3 H3 w3 with⟨stop,qn⟩|⟨go,N,hN,step⟩
 ·refine wpAny_passesOwn hp (thn (T.done X rfl rfl rfl hc i pins s3 σ3 H3 X.xe I3 (stat fr3) st3 stop) fun r s4 ⟨hr,I4⟩=>?_)
  subst hr
  exact wpAny_execs_nil ⟨σ3,H3,I4,qn⟩
 ·refine wpAny_passesOwn hp (thn (T.item X rfl rfl rfl hc i pins s3 σ3 H3 X.xe I3 (stat fr3) st3 go) fun r s4 ⟨u,hr,h4⟩=>?_)
  subst hr
  refine wpAny_passesOwn hp (thn h4 fun _ s5 ⟨x,H5,I5,r5,y5,st5,fr5⟩=>?_)
  have I5':=I5.pinned (stat fr5) (T.obj _ _ st5)
  refine wpAny_passesOwn hp (thn (hg _ s5 σ3 H5 x u _ I5' r5 (step x H5 y5)) fun _ s6 ⟨σ6,H6,I6,q6⟩=>?_)
  refine wpAny_passesOwn hp (thn (hb _ s6 σ6 H6 _ I6 q6) fun f s7 q7=>?_)
  have again:∀{σ7:St} {H7:Hp},Inv X (pins++pinsAt fp s5.heap) σ7 H7 s7→N σ7 H7→∃m,m<n∧∃i σ' H',Inv X pins σ' H' s7∧tn i s7.heap∧(∀b∈fp,H' b=none)∧W i m σ' H':=fun {σ7 H7} I7 n7=>by
   obtain⟨m',hm,w7⟩:=hN σ7 H7 n7
   refine⟨m',hm,i+1,σ7,H7,I7.unpinned,T.keep _ _ _ st5 fun b hb o e=>(I7.pin (b,o) (List.mem_append_right _ (List.mem_append_right _ (mem_pinsAt hb e)))).1,fun b hb=>?_,w7⟩
   obtain⟨o,e,d⟩:=T.obj _ _ st5 b hb
   exact (I7.pin (b,o) (List.mem_append_right _ (List.mem_append_right _ (mem_pinsAt hb e)))).2.1
  cases f with
  | next=>obtain⟨σ7,H7,I7,n7⟩:=q7;exact again I7 n7
  | cont=>obtain⟨σ7,H7,I7,n7⟩:=q7;exact again I7 n7
  | brk=>obtain⟨σ7,H7,I7,q7⟩:=q7;exact⟨σ7,H7,I7.unpinned,q7⟩
  | ret v=>obtain⟨x7,σ7,H7,I7,r7,q7⟩:=q7;exact⟨x7,σ7,H7,I7.unpinned,r7,q7⟩
end
theorem for_list {K:PySem.W.Frag} {a:Addr} {xs:List V} {g:TG} {tb:TS} {D:Ends} {σ:St} {H:Hp} (Pv:Nat→St→Hp→Prop) (h0:Pv 0 σ H) (hl:∀i σ H,i≤xs.length→Pv i σ H→SqL K H a xs)
  (hs:∀i x σ H,xs[i]? = some x→Pv i σ H→g x σ H fun σ2 H2=>tb { D with nx:=Pv (i+1),ct:=Pv (i+1),bk:=D.nx } σ2 H2) (hd:∀σ H,Pv xs.length σ H→D.nx σ H) :
  ∃W:Nat→Nat→St→Hp→Prop,(∃m,W 0 m σ H)∧∀i m σ H,W i m σ H→
   ((Itl K a).stop i H∧D.nx σ H)∨((Itl K a).go i H∧∃N:St→Hp→Prop,(∀σ' H',N σ' H'→∃m',m'<m∧W (i+1) m' σ' H')∧∀x H',(Itl K a).yld i H x H'→g x σ H' fun σ2 H2=>tb { D with nx:=N,ct:=N,bk:=D.nx } σ2 H2):=by
 refine⟨fun i m σ H=>m=xs.length-i∧i≤xs.length∧Pv i σ H,⟨xs.length,by simp,Nat.zero_le _,h0⟩,?_⟩
 rintro i m σ H ⟨rfl,hi,p⟩
 have q:=hl i σ H hi p
 by_cases hlt:i<xs.length
 ·refine .inr ⟨⟨xs,xs[i],q,by simp[hlt]⟩,Pv (i+1),fun σ' H' p'=>⟨xs.length-(i+1),by omega,rfl,hlt,p'⟩,fun x H' y=>?_⟩
  obtain⟨e,y⟩:=y
  subst e
  exact hs i x σ _ (y xs q) p
 ·have e:i=xs.length:=by omega
  subst e
  exact .inl ⟨⟨xs,q,Nat.le_refl _⟩,hd σ H p⟩
theorem for_tup {K:PySem.W.Frag} {a:Addr} {xs:List V} {g:TG} {tb:TS} {D:Ends} {σ:St} {H:Hp} (Pv:Nat→St→Hp→Prop) (h0:Pv 0 σ H) (hl:∀i σ H,i≤xs.length→Pv i σ H→SqT K H a xs)
  (hs:∀i x σ H,xs[i]? = some x→Pv i σ H→g x σ H fun σ2 H2=>tb { D with nx:=Pv (i+1),ct:=Pv (i+1),bk:=D.nx } σ2 H2) (hd:∀σ H,Pv xs.length σ H→D.nx σ H) :
  ∃W:Nat→Nat→St→Hp→Prop,(∃m,W 0 m σ H)∧∀i m σ H,W i m σ H→
   ((Itt K a).stop i H∧D.nx σ H)∨((Itt K a).go i H∧∃N:St→Hp→Prop,(∀σ' H',N σ' H'→∃m',m'<m∧W (i+1) m' σ' H')∧∀x H',(Itt K a).yld i H x H'→g x σ H' fun σ2 H2=>tb { D with nx:=N,ct:=N,bk:=D.nx } σ2 H2):=by
 refine⟨fun i m σ H=>m=xs.length-i∧i≤xs.length∧Pv i σ H,⟨xs.length,by simp,Nat.zero_le _,h0⟩,?_⟩
 rintro i m σ H ⟨rfl,hi,p⟩
 have q:=hl i σ H hi p
 by_cases hlt:i<xs.length
 ·refine .inr ⟨⟨xs,xs[i],q,by simp[hlt]⟩,Pv (i+1),fun σ' H' p'=>⟨xs.length-(i+1),by omega,rfl,hlt,p'⟩,fun x H' y=>?_⟩
  obtain⟨e,y⟩:=y
  subst e
  exact hs i x σ _ (y xs q) p
 ·have e:i=xs.length:=by omega
  subst e
  exact .inl ⟨⟨xs,q,Nat.le_refl _⟩,hd σ H p⟩
theorem for_range {lo:Int} {n:Nat} {g:TG} {tb:TS} {D:Ends} {σ:St} {H:Hp} (Pv:Nat→St→Hp→Prop) (h0:Pv 0 σ H)
  (hs:∀i σ H,i<n→Pv i σ H→g (.int (lo+i)) σ H fun σ2 H2=>tb { D with nx:=Pv (i+1),ct:=Pv (i+1),bk:=D.nx } σ2 H2) (hd:∀σ H,Pv n σ H→D.nx σ H) :
  ∃W:Nat→Nat→St→Hp→Prop,(∃m,W 0 m σ H)∧∀i m σ H,W i m σ H→
   ((Itr lo n).stop i H∧D.nx σ H)∨((Itr lo n).go i H∧∃N:St→Hp→Prop,(∀σ' H',N σ' H'→∃m',m'<m∧W (i+1) m' σ' H')∧∀x H',(Itr lo n).yld i H x H'→g x σ H' fun σ2 H2=>tb { D with nx:=N,ct:=N,bk:=D.nx } σ2 H2):=by
 refine⟨fun i m σ H=>m=n-i∧i≤n∧Pv i σ H,⟨n,by simp,Nat.zero_le _,h0⟩,?_⟩
 rintro i m σ H ⟨rfl,hi,p⟩
 by_cases hlt:i<n
 ·refine .inr ⟨hlt,Pv (i+1),fun σ' H' p'=>⟨n-(i+1),by omega,rfl,hlt,p'⟩,fun x H' y=>?_⟩
  obtain⟨e,y⟩:=y
  subst e y
  exact hs i σ _ hlt p
 ·have e:i=n:=by omega
  subst e
  exact .inl ⟨Nat.le_refl _,hd σ H p⟩
end L2
namespace L2
open PySem PySem.Spec PyProof.Rows
abbrev R2:=V→V→Hp→VK→Prop
def OpR (X:Cx) (f:Value→Value→Sem Value) (r:R2):Prop:=
 ∀(pins:List (Addr×Obj)) (s:Shared) (σ:St) (H:Hp) (x y:V) (v u:Value) (Q:VK),Inv X pins σ H s→RelV x v→RelV y u→r x y H Q→
  wpAny (model X.prog X.w) X.A (f v u) (EP X pins σ Q) X.xe s
def UnR (X:Cx) (f:Value→Sem Value) (r:V→Hp→VK→Prop):Prop:=
 ∀(pins:List (Addr×Obj)) (s:Shared) (σ:St) (H:Hp) (x:V) (v:Value) (Q:VK),Inv X pins σ H s→RelV x v→r x H Q→
  wpAny (model X.prog X.w) X.A (f v) (EP X pins σ Q) X.xe s
def CallR (X:Cx) (f:Value) (r:List V→Hp→VK→Prop):Prop:=
 ∀(pins:List (Addr×Obj)) (s:Shared) (σ:St) (H:Hp) (xs:List V) (us:List Value) (Q:VK),Inv X pins σ H s→Vals xs us→r xs H Q→
  wpAny (model X.prog X.w) X.A (call f us) (EP X pins σ Q) X.xe s
def TruR (X:Cx) (r:V→Hp→(Bool→Hp→Prop)→Prop):Prop:=
 ∀(pins:List (Addr×Obj)) (s:Shared) (σ:St) (H:Hp) (x:V) (v:Value) (Q:Bool→Hp→Prop),Inv X pins σ H s→RelV x v→r x H Q→
  wpAny (model X.prog X.w) X.A (truthy v) (TP X pins σ Q) X.xe s
def tOp (r:R2) (ta tb:TE):TE:=fun σ H Q=>ta σ H fun x H1=>tb σ H1 fun y H2=>r x y H2 Q
def tUn (r:V→Hp→VK→Prop) (ta:TE):TE:=fun σ H Q=>ta σ H fun x H1=>r x H1 Q
def rI (C:Int→Int→Prop) (g:Int→Int→V):R2:=fun x y H Q=>∃i j,x= .int i∧y= .int j∧C i j∧Q (g i j) H
def rI0 (g:Int→Int→V):R2:=fun x y H Q=>∃i j,x= .int i∧y= .int j∧Q (g i j) H
def rU (g:Int→V):V→Hp→VK→Prop:=fun x H Q=>∃i,x= .int i∧Q (g i) H
section
variable {X:Cx} {a b c:Expr} {ta tb tc:TE} {pos:Pos}
theorem binT (ha:PE X a ta) (hb:PE X b tb) {pins:List (Addr×Obj)} {s:Shared} {σ:St} {H:Hp} {R:V→V→Hp→Prop} (I:Inv X pins σ H s)
  (h:ta σ H fun x H1=>tb σ H1 fun y H2=>R x y H2) {Q:Value→Shared→Prop} {f:Value→Value→Sem Value}
  (hf:∀v u s2 x y H2,Inv X pins σ H2 s2→RelV x v→RelV y u→R x y H2→wpAny (model X.prog X.w) X.A (f v u) Q X.xe s2) :
  wpAny (model X.prog X.w) X.A (eval a X.env) (fun v s₁=>wpAny (model X.prog X.w) X.A (eval b X.env) (fun u s₂=>wpAny (model X.prog X.w) X.A (f v u) Q X.xe s₂) X.xe s₁) X.xe s:=by
 refine thn (ha pins s σ H _ I h) fun v s1 ⟨x,H1,I1,r1,q1⟩=>?_
 refine thn (hb pins s1 σ H1 _ I1 q1) fun u s2 ⟨y,H2,I2,r2,q2⟩=>?_
 exact hf v u s2 x y H2 I2 r1 r2 q2
theorem pe_op {op:Operator} {r:R2} (ho:OpR X (binaryOp op) r) (ha:PE X a ta) (hb:PE X b tb):PE X (.BinOp a op b pos) (tOp r ta tb):=by
 intro pins s σ H Q I h
 exact wpAny_BinOp (binT ha hb I h fun v u s2 x y H2 I2 rx ry q=>ho pins s2 σ H2 x y v u Q I2 rx ry q)
theorem pe_un {op:UnaryOp} {r:V→Hp→VK→Prop} (ho:UnR X (unaryOp op) r) (ha:PE X a ta):PE X (.UnaryOp op a pos) (tUn r ta):=by
 intro pins s σ H Q I h
 exact UnaryOp_ (thn (ha pins s σ H _ I h) fun v s1 ⟨x,H1,I1,r1,q1⟩=>ho pins s1 σ H1 x v Q I1 r1 q1)
theorem opI {f:Value→Value→Sem Value} {C:Int→Int→Prop} {g:Int→Int→Int}
  (rule:∀(i j:Int) (t u:Tok) (s:Shared) (Q:Value→Shared→Prop) (E:Value→Shared→Prop),C i j→Q (.int (g i j) s.toks) { s with toks:=s.toks+1 }→wpAny (model X.prog X.w) X.A (f (.int i t) (.int j u)) Q E s) :
  OpR X f (rI C fun i j=>.int (g i j)):=by
 intro pins s σ H x y v u Q I rx ry h
 obtain⟨i,j,rfl,rfl,hc,q⟩:=h
 obtain⟨t,rfl⟩:=rx
 obtain⟨t',rfl⟩:=ry
 exact rule i j t t' s _ _ hc ⟨.int (g i j),H,I.tok _,⟨_,rfl⟩,q⟩
theorem opI0 {f:Value→Value→Sem Value} {g:Int→Int→Int}
  (rule:∀(i j:Int) (t u:Tok) (s:Shared) (Q:Value→Shared→Prop) (E:Value→Shared→Prop),Q (.int (g i j) s.toks) { s with toks:=s.toks+1 }→wpAny (model X.prog X.w) X.A (f (.int i t) (.int j u)) Q E s) :
  OpR X f (rI0 fun i j=>.int (g i j)):=by
 intro pins s σ H x y v u Q I rx ry h
 obtain⟨i,j,rfl,rfl,q⟩:=h
 obtain⟨t,rfl⟩:=rx
 obtain⟨t',rfl⟩:=ry
 exact rule i j t t' s _ _ ⟨.int (g i j),H,I.tok _,⟨_,rfl⟩,q⟩
theorem opB0 {f:Value→Value→Sem Value} {g:Int→Int→Bool}
  (rule:∀(i j:Int) (t u:Tok) (s:Shared) (Q:Value→Shared→Prop) (E:Value→Shared→Prop),Q (.bool (g i j)) s→wpAny (model X.prog X.w) X.A (f (.int i t) (.int j u)) Q E s) :
  OpR X f (rI0 fun i j=>.bl (g i j)):=by
 intro pins s σ H x y v u Q I rx ry h
 obtain⟨i,j,rfl,rfl,q⟩:=h
 obtain⟨t,rfl⟩:=rx
 obtain⟨t',rfl⟩:=ry
 exact rule i j t t' s _ _ ⟨.bl (g i j),H,I,rfl,q⟩
def CDiv (i j:Int):Prop:=0<j∧j<1073741824
def CPow (i j:Int):Prop:=0≤j∧j≤1000000∧i.natAbs<2^64
def CMul (i j:Int):Prop:=(-(2^64)<i∧i<2^64)∨(-(2^64)<j∧j<2^64)
theorem CMul.ok {i j:Int} (h:CMul i j):IntMulOk i j:=by
 rcases h with⟨h1,h2⟩|⟨h1,h2⟩
 ·exact .of_left (intBits_le_64 h1 h2)
 ·exact .of_right (intBits_le_64 h1 h2)
theorem two_pow_nn (k:Nat):(0:Int)≤2^k:=by
 rw[two_pow_cast]
 exact Int.natCast_nonneg _
theorem op_add:OpR X (binaryOp .Add) (rI0 fun i j=>.int (i+j)):=opI0 fun _ _ _ _ _ _ _ q=>add_int q
theorem op_mul:OpR X (binaryOp .Mult) (rI CMul fun i j=>.int (i*j)):=opI fun _ _ _ _ _ _ _ hc q=>mul_int q hc.ok
theorem op_fdiv:OpR X (binaryOp .FloorDiv) (rI CDiv fun i j=>.int (i / j)):=opI fun i j _ _ _ _ _ hc q=>by
 have h1:(0:Int)<j:=hc.1
 have h2:j<1073741824:=hc.2
 exact floordiv_int (by omega) (by rw[Int.fdiv_eq_ediv_of_nonneg i (by omega)];exact q) (.inl (PyProof.noPylong_small (by omega)))
theorem op_mod:OpR X (binaryOp .Mod) (rI (fun _ j=>0<j) fun i j=>.int (i%j)):=opI fun i j _ _ _ _ _ hc q=>by
 have h1:(0:Int)<j:=hc
 exact mod_int' (by omega) (by rw[Int.fmod_eq_emod_of_nonneg i (by omega)];exact q)
theorem op_pow:OpR X (binaryOp .Pow) (rI CPow fun i j=>.int (i^j.toNat)):=opI fun _ _ _ _ _ _ _ hc q=>pow_int_small hc.1 hc.2.1 hc.2.2 q
theorem op_shl:OpR X (binaryOp .LShift) (rI CPow fun i j=>.int (i*2^j.toNat)):=opI fun _ _ _ _ _ _ _ hc q=>lshift_int_small hc.1 hc.2.1 hc.2.2 q
theorem op_shr:OpR X (binaryOp .RShift) (rI (fun _ j=>0≤j) fun i j=>.int (i / 2^j.toNat)):=opI fun i j _ _ _ _ _ hc q=>
 rshift_int hc (by rw[Int.fdiv_eq_ediv_of_nonneg i (two_pow_nn _)];exact q)
theorem op_and:OpR X (binaryOp .BitAnd) (rI0 fun i j=>.int (Builtin.bitAnd i j)):=opI0 fun _ _ _ _ _ _ _ q=>and_int q
theorem unI {f:Value→Sem Value} {g:Int→Int}
  (rule:∀(i:Int) (t:Tok) (s:Shared) (Q:Value→Shared→Prop) (E:Value→Shared→Prop),Q (.int (g i) s.toks) { s with toks:=s.toks+1 }→wpAny (model X.prog X.w) X.A (f (.int i t)) Q E s) :
  UnR X f (rU fun i=>.int (g i)):=by
 intro pins s σ H x v Q I rx h
 obtain⟨i,rfl,q⟩:=h
 obtain⟨t,rfl⟩:=rx
 exact rule i t s _ _ ⟨.int (g i),H,I.tok _,⟨_,rfl⟩,q⟩
theorem un_neg:UnR X (unaryOp .USub) (rU fun i=>.int (-i)):=unI fun _ _ _ _ _ q=>neg_int q
end
def scal:V→V→Bool
 | .non,.non=>true | .non,.int _=>true | .int _,.non=>true | .non,.bl _=>true | .bl _,.non=>true | .non,.str _=>true | .str _,.non=>true
 | .int _,.int _=>true | .bl _,.bl _=>true | .str _,.str _=>true | .byt _,.byt _=>true
 | .int _,.str _=>true | .str _,.int _=>true | .bl _,.str _=>true | .str _,.bl _=>true
 | _,_=>false
def rEq:R2:=fun x y H Q=>scal x y=true∧Q (.bl (decide (x=y))) H
def rNe:R2:=fun x y H Q=>scal x y=true∧Q (.bl (!decide (x=y))) H
theorem dec_int {i j:Int}:decide (V.int i=V.int j)=(i == j):=by
 rw[Bool.eq_iff_iff]
 simp
theorem dec_bl {i j:Bool}:decide (V.bl i=V.bl j)=(i == j):=by
 rw[Bool.eq_iff_iff]
 simp
theorem dec_str {i j:Str}:decide (V.str i=V.str j)=(i == j):=by
 rw[Bool.eq_iff_iff]
 simp
theorem dec_byt {i j:Array UInt8}:decide (V.byt i=V.byt j)=(i.toList == j.toList):=by
 rw[Bool.eq_iff_iff]
 cases i
 cases j
 simp
section
variable {X:Cx} {a b c:Expr} {ta tb tc:TE} {pos:Pos}
theorem fin_bl {pins:List (Addr×Obj)} {σ:St} {H:Hp} {s:Shared} {Q:VK} {k k':Bool} (I:Inv X pins σ H s) (q:Q (.bl k) H) (e:k=k'):EP X pins σ Q (.bool k') s:=by
 subst e
 exact⟨.bl k,H,I,rfl,q⟩
theorem op_eq:OpR X (compareOp .Eq) rEq:=by
 intro pins s σ H x y v u Q I rx ry h
 obtain⟨hs,q⟩:=h
 cases x with
 | non=>
  cases rx
  cases y with
  | non=>cases ry;exact PySem.EqNone.eq_none_none (fin_bl I q (by simp))
  | bl j=>cases ry;exact PySem.EqNone.eq_none_bool (fin_bl I q (by simp))
  | int j=>obtain⟨t',rfl⟩:=ry;exact PySem.EqNone.eq_none_int (fin_bl I q (by simp))
  | str j=>obtain⟨t',rfl⟩:=ry;exact PySem.EqNone.eq_none_str (fin_bl I q (by simp))
  | _=>exact absurd (show false=true from hs) Bool.false_ne_true
 | bl i=>
  cases rx
  cases y with
  | non=>cases ry;exact PySem.EqNone.eq_bool_none (fin_bl I q (by simp))
  | bl j=>cases ry;exact eq_bool (fin_bl I q dec_bl)
  | str j=>obtain⟨t',rfl⟩:=ry;exact PySem.EqMixed.eq_bool_str (fin_bl I q (by simp))
  | _=>exact absurd (show false=true from hs) Bool.false_ne_true
 | int i=>
  obtain⟨t,rfl⟩:=rx
  cases y with
  | non=>cases ry;exact PySem.EqNone.eq_int_none (fin_bl I q (by simp))
  | int j=>obtain⟨t',rfl⟩:=ry;exact eq_int (fin_bl I q dec_int)
  | str j=>obtain⟨t',rfl⟩:=ry;exact PySem.EqMixed.eq_int_str (fin_bl I q (by simp))
  | _=>exact absurd (show false=true from hs) Bool.false_ne_true
 | str i=>
  obtain⟨t,rfl⟩:=rx
  cases y with
  | non=>cases ry;exact PySem.EqNone.eq_str_none (fin_bl I q (by simp))
  | bl j=>cases ry;exact PySem.EqMixed.eq_str_bool (fin_bl I q (by simp))
  | int j=>obtain⟨t',rfl⟩:=ry;exact PySem.EqMixed.eq_str_int (fin_bl I q (by simp))
  | str j=>obtain⟨t',rfl⟩:=ry;exact eq_str (fin_bl I q dec_str)
  | _=>exact absurd (show false=true from hs) Bool.false_ne_true
 | byt i=>
  obtain⟨t,rfl⟩:=rx
  cases y with
  | byt j=>obtain⟨t',rfl⟩:=ry;exact PySem.W.eq_bytes (fin_bl I q dec_byt)
  | _=>exact absurd (show false=true from hs) Bool.false_ne_true
 | _=>cases y<;>exact absurd (show false=true from hs) Bool.false_ne_true
theorem op_ne:OpR X (compareOp .NotEq) rNe:=by
 intro pins s σ H x y v u Q I rx ry h
 obtain⟨hs,q⟩:=h
 cases x with
 | non=>
  cases rx
  cases y with
  | non=>cases ry;exact PySem.EqNone.ne_none_none (fin_bl I q (by simp))
  | bl j=>cases ry;exact PySem.EqNone.ne_none_bool (fin_bl I q (by simp))
  | int j=>obtain⟨t',rfl⟩:=ry;exact PySem.EqNone.ne_none_int (fin_bl I q (by simp))
  | str j=>obtain⟨t',rfl⟩:=ry;exact PySem.EqNone.ne_none_str (fin_bl I q (by simp))
  | _=>exact absurd (show false=true from hs) Bool.false_ne_true
 | bl i=>
  cases rx
  cases y with
  | non=>cases ry;exact PySem.EqNone.ne_bool_none (fin_bl I q (by simp))
  | bl j=>cases ry;exact ne_bool (fin_bl I q (congrArg not dec_bl))
  | str j=>obtain⟨t',rfl⟩:=ry;exact PySem.EqMixed.ne_bool_str (fin_bl I q (by simp))
  | _=>exact absurd (show false=true from hs) Bool.false_ne_true
 | int i=>
  obtain⟨t,rfl⟩:=rx
  cases y with
  | non=>cases ry;exact PySem.EqNone.ne_int_none (fin_bl I q (by simp))
  | int j=>obtain⟨t',rfl⟩:=ry;exact ne_int (fin_bl I q (congrArg not dec_int))
  | str j=>obtain⟨t',rfl⟩:=ry;exact PySem.EqMixed.ne_int_str (fin_bl I q (by simp))
  | _=>exact absurd (show false=true from hs) Bool.false_ne_true
 | str i=>
  obtain⟨t,rfl⟩:=rx
  cases y with
  | non=>cases ry;exact PySem.EqNone.ne_str_none (fin_bl I q (by simp))
  | bl j=>cases ry;exact PySem.EqMixed.ne_str_bool (fin_bl I q (by simp))
  | int j=>obtain⟨t',rfl⟩:=ry;exact PySem.EqMixed.ne_str_int (fin_bl I q (by simp))
  | str j=>obtain⟨t',rfl⟩:=ry;exact ne_str (fin_bl I q (congrArg not dec_str))
  | _=>exact absurd (show false=true from hs) Bool.false_ne_true
 | byt i=>
  obtain⟨t,rfl⟩:=rx
  cases y with
  | byt j=>obtain⟨t',rfl⟩:=ry;exact PySem.W.ne_bytes (fin_bl I q (congrArg not dec_byt))
  | _=>exact absurd (show false=true from hs) Bool.false_ne_true
 | _=>cases y<;>exact absurd (show false=true from hs) Bool.false_ne_true
theorem op_lt:OpR X (compareOp .Lt) (rI0 fun i j=>.bl (decide (i<j))):=opB0 fun _ _ _ _ _ _ _ q=>lt_int q
theorem op_le:OpR X (compareOp .LtE) (rI0 fun i j=>.bl (decide (i≤j))):=opB0 fun _ _ _ _ _ _ _ q=>le_int q
theorem op_gt:OpR X (compareOp .Gt) (rI0 fun i j=>.bl (decide (j<i))):=opB0 fun _ _ _ _ _ _ _ q=>gt_int q
theorem op_ge:OpR X (compareOp .GtE) (rI0 fun i j=>.bl (decide (j≤i))):=opB0 fun _ _ _ _ _ _ _ q=>ge_int q
theorem op_in_str:OpR X (compareOp .In) (fun x y H Q=>∃i j,x= .str i∧y= .str j∧Q (.bl (!(Builtin.Str.occurrences j i 0 j.length 1).isEmpty)) H):=by
 intro pins s σ H x y v u Q I rx ry h
 obtain⟨i,j,rfl,rfl,q⟩:=h
 obtain⟨t,rfl⟩:=rx
 obtain⟨t',rfl⟩:=ry
 exact in_str (fin_bl I q rfl)
theorem nomark (b:Expr) {op:CmpOp} (h:op≠.In:=by decide) (h2:op≠.NotIn:=by decide):behindInMarks op b=false:=by
 have e1:(op == CmpOp.In)=false:=by cases op<;>first | rfl | exact absurd rfl h
 have e2:(op == CmpOp.NotIn)=false:=by cases op<;>first | rfl | exact absurd rfl h2
 cases b<;>simp[behindInMarks,e1,e2]
theorem pe_cmpR {op:CmpOp} {r:R2} (ho:OpR X (compareOp op) r) (ha:PE X a ta) (hb:PE X b tb) (hm:behindInMarks op b=false):PE X (.Compare a [op] [b] pos) (tOp r ta tb):=by
 intro pins s σ H Q I h
 exact wpAny_Compare1 (binT ha hb I h fun v u s2 x y H2 I2 rx ry q=>ho pins s2 σ H2 x y v u Q I2 rx ry q) hm
def tTest (t:TE):TT:=fun σ H Q=>t σ H fun x H'=>∃k,x= .bl k∧Q k H'
theorem pt_cmpR {op:CmpOp} {r:R2} (ho:OpR X (compareOp op) r) (ha:PE X a ta) (hb:PE X b tb) (hm:behindInMarks op b=false):PT X (.Compare a [op] [b] pos) (tTest (tOp r ta tb)):=by
 intro pins s σ H Q I h
 refine wpAny_isTrue_Compare1 (thn (ha pins s σ H _ I h) fun v s1 ⟨x,H1,I1,r1,q1⟩=>thn (hb pins s1 σ H1 _ I1 q1) fun u s2 ⟨y,H2,I2,r2,q2⟩=>
  thn (ho pins s2 σ H2 x y v u _ I2 r1 r2 q2) fun c s3 ⟨z,H3,I3,r3,k,e,q3⟩=>?_) hm
 subst e
 cases r3
 exact wpAny_truthy_bool ⟨H3,I3,q3⟩
def tChain (r r':R2) (ta tb tc:TE):TE:=fun σ H Q=>ta σ H fun x H1=>tb σ H1 fun y H2=>r x y H2 fun z H3=>∃k,z= .bl k∧
 (if k=true then tc σ H3 fun w' H4=>r' y w' H4 Q else Q (.bl false) H3)
theorem pt_chain {op op':CmpOp} {r r':R2} (ho:OpR X (compareOp op) r) (ho':OpR X (compareOp op') r') (ha:PE X a ta) (hb:PE X b tb) (hc:PE X c tc)
  (hm:lastMarks [op,op'] [b,c]=false:=by with_unfolding_all rfl):PT X (.Compare a [op,op'] [b,c] pos) (tTest (tChain r r' ta tb tc)):=by
 intro pins s σ H Q I h
 refine isTrue_chain (thn (ha pins s σ H _ I h) fun v s1 ⟨x,H1,I1,r1,q1⟩=>test_link (thn (hb pins s1 σ H1 _ I1 q1) fun u s2 ⟨y,H2,I2,r2,q2⟩=>
  thn (ho pins s2 σ H2 x y v u _ I2 r1 r2 q2) fun d s3 ⟨z,H3,I3,r3,k,e,q3⟩=>?_)) hm
 subst e
 cases r3
 refine wpAny_truthy_bool ?_
 cases k with
 | false=>
  obtain⟨k',e',q'⟩:=q3
  cases e'
  exact ite_ff ⟨H3,I3,q'⟩
 | true=>
  refine ite_tt (test_last (thn (hc pins s3 σ H3 _ I3 q3) fun w' s4 ⟨z',H4,I4,r4,q4⟩=>thn (ho' pins s4 σ H4 y z' u w' _ I4 r2 r4 q4) fun d' s5 ⟨z2,H5,I5,r5,k2,e2,q5⟩=>?_))
  subst e2
  cases r5
  exact wpAny_truthy_bool ⟨H5,I5,q5⟩
def TruV (K:PySem.W.Frag) (x:V) (H:Hp) (k:Bool):Prop:=
 match x with
 | .non=>k=false
 | .bl b=>k=b
 | .int i=>k=(i != 0)
 | .str y=>y.length≤sizeLine∧k=((y.length:Int) != 0)
 | .byt y=>y.size≤sizeLine∧k=((y.size:Int) != 0)
 | .ref p=>(∃xs,SqL K H p xs∧k = !xs.isEmpty)∨(∃xs,SqT K H p xs∧k = !xs.isEmpty)∨∃kvs,H p=some (.dK kvs)∧k = !kvs.isEmpty
 | _=>False
theorem isEmpty_kv {κ:Type} {kvs:List (κ×V)} {vs:List (κ×Value)} (r:KV kvs vs):(!vs.isEmpty) = !kvs.isEmpty:=by
 cases r<;>rfl
theorem isEmpty_of {xs:List V} {its:List Value} (r:Vals xs its):(!its.toArray.isEmpty) = !xs.isEmpty:=by
 cases r<;>simp
theorem line63:(sizeLine:Nat)<2^63:=by rw[sizeLine_eq];decide
theorem tru_ok:TruR X (fun x H Q=>∃k,TruV X.K x H k∧Q k H):=by
 intro pins s σ H x v Q I rx h
 obtain⟨k,e,q⟩:=h
 have hl:=line63
 have hs:sizeLine=16777216:=sizeLine_eq
 cases x with
 | non=>
  cases rx
  have e':k=false:=e
  subst e'
  exact truthy_none ⟨H,I,q⟩
 | bl b=>
  cases rx
  have e':k=b:=e
  subst e'
  exact wpAny_truthy_bool ⟨H,I,q⟩
 | int i=>
  obtain⟨t,rfl⟩:=rx
  have e':k=(i != 0):=e
  subst e'
  exact PySem.P.truthy_int ⟨H,I,q⟩
 | str y=>
  obtain⟨t,rfl⟩:=rx
  obtain⟨hy,e'⟩:y.length≤sizeLine∧k=((y.length:Int) != 0):=e
  subst e'
  exact PySem.P.truthy_str (by omega) ⟨H,I.tok _,q⟩
 | byt y=>
  obtain⟨t,rfl⟩:=rx
  obtain⟨hy,e'⟩:y.size≤sizeLine∧k=((y.size:Int) != 0):=e
  subst e'
  exact PySem.W.truthy_bytes (by omega) ⟨H,I.tok _,q⟩
 | ref p=>
  cases rx
  have e':(∃xs,SqL X.K H p xs∧k = !xs.isEmpty)∨(∃xs,SqT X.K H p xs∧k = !xs.isEmpty)∨∃kvs,H p=some (.dK kvs)∧k = !kvs.isEmpty:=e
  rcases e' with⟨xs,hx,e'⟩|⟨xs,hx,e'⟩|⟨kvs,hx,e'⟩
  ·subst e'
   obtain⟨its,r,pl,hz⟩:=I.list hx
   have hlen:=r.length
   exact wpAny_truthy_list pl.isList (by simp only[List.size_toArray];omega) ⟨H,I.tok _,by rw[isEmpty_of r];exact q⟩
  ·subst e'
   obtain⟨its,r,pl,hz⟩:=I.tuple hx
   have hlen:=r.length
   exact truthy_tuple pl (by simp only[List.size_toArray];omega) ⟨H,I.tok _,by rw[isEmpty_of r];exact q⟩
  ·subst e'
   obtain⟨hz,hS,vs,r,m⟩:kvs.length≤sizeLine∧(p == sysModules)=false∧∃vs,KV kvs vs∧s.heap.DictOf (mixKind X.prog X.w) p vs:=I.hok p _ hx
   have hlen:kvs.length=vs.length:=Paired.length r
   exact wpAny_truthy_dict hS m (by omega) ⟨H,I.tok _,by rw[isEmpty_kv r];exact q⟩
 | _=>exact (show False from e).elim
theorem pt_truth (ha:PE X a ta) (he:∀whole,isTrue a X.env whole=(do let v ←whole;standAt a.pos;holding [v] (truthy v))) :
  PT X a (fun σ H Q=>ta σ H fun x H'=>∃k,TruV X.K x H' k∧Q k H'):=by
 intro pins s σ H Q I h
 exact isTrue_plain (thn (ha pins s σ H _ I h) fun v s1 ⟨x,H1,I1,r1,q1⟩=>tru_ok pins s1 σ H1 x v Q I1 r1 q1) (he _)
theorem op_add_str:OpR X (binaryOp .Add) (fun x y H Q=>∃i j,x= .str i∧y= .str j∧i.length+j.length≤sizeLine∧Q (.str (i++j)) H):=by
 intro pins s σ H x y v u Q I rx ry h
 obtain⟨i,j,rfl,rfl,hz,q⟩:=h
 obtain⟨t,rfl⟩:=rx
 obtain⟨t',rfl⟩:=ry
 exact add_str (fun t' tk=>⟨.str (i++j),H,I.tok _,⟨_,rfl⟩,q⟩) hz
theorem vals1 {x:V} {us:List Value} (r:Vals [x] us):∃u,us=[u]∧RelV x u:=by
 cases r with
 | cons r1 r2=>cases r2;exact⟨_,rfl,r1⟩
theorem vals2 {x y:V} {us:List Value} (r:Vals [x,y] us):∃u w',us=[u,w']∧RelV x u∧RelV y w':=by
 cases r with
 | cons r1 r2=>
  cases r2 with
  | cons r3 r4=>cases r4;exact⟨_,_,rfl,r1,r3⟩
theorem call_abs:CallR X (.builtin "abs") (fun xs H Q=>∃i,xs=[.int i]∧Q (.int (if i<0 then -i else i)) H):=by
 intro pins s σ H xs us Q I r h
 obtain⟨i,rfl,q⟩:=h
 obtain⟨u,rfl,t,rfl⟩:=vals1 r
 exact call_abs_int fun u tk=>⟨.int (if i<0 then -i else i),H,I.tok _,⟨_,rfl⟩,q⟩
end
end L2
namespace L2
open PySem PySem.Spec PyProof.Rows
structure ObjM (h:Heap) (x dx C:Addr) (mA:Str→Option Value):Prop where
 obj:h.get? x=some (PySem.W.instObj C dx)
 ns:h.Ns1 dx mA
 ne:dx≠x
theorem lookIn_ns {h:Heap} {dx:Addr} {mA:Str→Option Value} (n:h.Ns1 dx mA):∃od,h.get? dx=some od∧∀name,PySem.W.lookIn name od=some (mA name):=by
 obtain⟨o,es,ep,ho,hd,hk,_,hm⟩:=n
 refine⟨o,ho,fun name=>?_⟩
 have e:=hm name
 unfold nsFind findBy at e
 rw[←Array.find?_toList] at e
 unfold PySem.W.lookIn
 rw[hd]
 dsimp only
 split
 ·rename_i y q
  rw[q] at e
  exact congrArg some e
 ·rename_i q
  rw[q] at e
  have a:es.toList.any (·.refKey)=false:=by
   rw[List.any_eq_false]
   intro y hy
   obtain⟨z,t,hkey⟩:=hk y (Array.mem_toList_iff.mp hy)
   simp[DictEntry.refKey,hkey]
  have a':¬es.toList.any (·.refKey)=true:=by rw[a];exact Bool.false_ne_true
  rw[if_neg a']
  exact congrArg some e
theorem ObjM.look {h:Heap} {x dx C:Addr} {mA:Str→Option Value} (I:ObjM h x dx C mA):∃od,PySem.W.InstAt h x (PySem.W.instObj C dx) C (some od)∧∀name,PySem.W.lookIn name od=some (mA name):=
 let ⟨od,ho,hl⟩:=lookIn_ns I.ns
 ⟨od,⟨I.obj,rfl,rfl,ho⟩,hl⟩
section
variable {prog:Program} {w:World} {A:Around} {E:Value→Shared→Prop} {s:Shared} {K:PySem.W.Frag} {x dx C f:Addr} {mA:Str→Option Value} {name:Str} {v:Value}
theorem get_map {expr:Bool} {Q:Value→Shared→Prop} (X:K.In s.heap) (I:ObjM s.heap x dx C mA) (hg:PySem.W.plainGet K C name=true) (hh:PySem.W.hasDictIn K C=true)
  (ha:PySem.W.findIn K (.ref C) name=some none) (hv:mA name=some v) (hv':PySem.W.handedIn v=true) (h:Q v { s with toks:=s.toks+1 }) :
  wpAny (model prog w) A (getAttr (.ref x) name expr) Q E s:=by
 obtain⟨od,J,hl⟩:=I.look
 exact PySem.W.get_value X J (PySem.W.plainGet_of hg).1 (PySem.W.findObj_own hh ha rfl (by rw[hl,hv])) hv' h
theorem get_meth {pl:Sem Bool} {Q:Value×List Value→Shared→Prop} (X:K.In s.heap) (I:ObjM s.heap x dx C mA) (hg:PySem.W.plainGet K C name=true)
  (hf:PySem.W.findIn K (.ref C) name=some (some (.ref f))) (ht:PySem.W.isFn K (.ref f)=true) (hv:mA name=none) (h:Q (.ref f,[.ref x]) s) :
  wpAny (model prog w) A (getMethod (.ref x) name pl) Q E s:=by
 obtain⟨od,J,hl⟩:=I.look
 exact PySem.W.method_fn X J (PySem.W.plainGet_of hg).1 (PySem.W.plainGet_of hg).2 hf (beq_iff_eq.mp ht) (by show (PySem.W.lookIn name od).map (·.isSome)=some false;rw[hl,hv];rfl) h
theorem set_map {ns:List Str} {Q:Unit→Shared→Prop} (X:K.In s.heap) (I:ObjM s.heap x dx C mA)
  (hs:PySem.W.findIn K (.ref C) "__setattr__"=some (some (.builtin "object.__setattr__"))) (hp:PySem.W.plainOver K C=true) (ht:PySem.W.takerIn K C name=some none) (hh:PySem.W.hasDictIn K C=true)
  (hw:PySem.Within mA ns) (hsz:ns.length≤sizeLine)
  (h:∀h',ObjM h' x dx C (fun y=>if y=name then some v else mA y)→Heap.SameBut dx s.heap h'→Q () { s with heap:=h',toks:=s.toks+2 }) :
  wpAny (model prog w) A (setAttr (.ref x) name v) Q E s:=by
 obtain⟨od,J,hl⟩:=I.look
 refine PySem.W.set_plain X J hs (PySem.W.osa_open (s:={ s with toks:=s.toks+1 }) (r:=none) X J hp ht fun b=>?_)
 obtain⟨cd,hc,hd'⟩:=PySem.W.any_some hh
 have hx:s.heap.get? x=some ⟨.ref C,some dx,.plain,#[]⟩:=I.obj
 refine wpAny_bind (wpAny_pure (wpAny_bind (wpAny_bind (wpAny_loadPart hx (wpAny_bind (PySem.W.Looks.here (s:={ s with toks:=s.toks+1 }) (PySem.W.looks_clsIn X hc) ?_))))))
 rw[hd']
 refine wpAny_pure (a:=some dx) (wpAny_bind (wpAny_pure (wpAny_bind ?_)))
 refine wpAny_nsSet1 (s:={ s with toks:=s.toks+1 }) I.ns fun h' hn2 hs2=>?_
 obtain⟨oD,esD,epD,hoD,hdD,hcD⟩:=hn2.count (PySem.Within.cons name v hw)
 refine wpAny_bind (wpAny_lookBehind hoD (by rw[hdD];exact pastItsLine_dict (Nat.le_trans hcD (by rw[List.length_cons];omega))) ?_)
 exact wpAny_pure (h _ ⟨(hs2.2 _ (Ne.symm I.ne)).trans I.obj,hn2,I.ne⟩ hs2)
theorem make_map {R:Result→Shared→Prop} {vs:List Value} {kw:List (Str×Value)} (X:K.In s.heap) (hm:PySem.W.makesIn K C=true)
  (hi:PySem.W.findIn K (.ref C) "__init__"=some (some (.ref f))) (hf:PySem.W.typeIn K (.ref f)=some (.type "function"))
  (h:codeAny (model prog w) (A.under (.builtin "type.__call__" ⟨.ref C::vs,kw⟩)) (.call (.ref f) ⟨.ref (s.heap.objs.size+1)::vs,kw⟩) (PySem.W.InitBack (s.heap.objs.size+1) R)
   { s with heap:=(s.heap.push PySem.W.emptyDict).push (PySem.W.instObj C s.heap.objs.size) }) :
  codeAny (model prog w) A (.call (.ref C) ⟨vs,kw⟩) R s:=by
 obtain⟨hh,g,d,t,os⟩:=s
 exact PySem.W.make_core (PySem.W.makes_of X hm) (PySem.W.looks_findIn X hi) (fun self=>PySem.W.bind_fn X self hf) (.inl rfl) h
end
def putF (f:Str) (v:V):List (Str×V)→List (Str×V)
 | []=>[(f,v)]
 | (g,x)::r=>if g=f then (g,v)::r else (g,x)::putF f v r
theorem lookup_putF (f g:Str) (v:V):∀fs:List (Str×V),(putF f v fs).lookup g=if g=f then some v else fs.lookup g
 | []=>by
  show List.lookup g [(f,v)]=_
  by_cases h:g=f
  ·have hb:(g == f)=true:=beq_iff_eq.mpr h
   simp only[List.lookup,hb,if_pos h]
  ·have hb:(g == f)=false:=beq_eq_false_iff_ne.mpr h
   simp only[List.lookup,hb,if_neg h]
 | (k,x)::r=>by
  have ih:=lookup_putF f g v r
  rw[show putF f v ((k,x)::r)=(if k=f then (k,v)::r else (k,x)::putF f v r) from rfl]
  by_cases hk:k=f
  ·rw[if_pos hk]
   by_cases h:g=k
   ·have hb:(g == k)=true:=beq_iff_eq.mpr h
    simp only[List.lookup,hb,if_pos (h.trans hk)]
   ·have hb:(g == k)=false:=beq_eq_false_iff_ne.mpr h
    simp only[List.lookup,hb,if_neg (fun e:g=f=>h (e.trans hk.symm))]
  ·rw[if_neg hk]
   by_cases h:g=k
   ·have hb:(g == k)=true:=beq_iff_eq.mpr h
    simp only[List.lookup,hb,if_neg (fun e:g=f=>hk (h.symm.trans e))]
   ·have hb:(g == k)=false:=beq_eq_false_iff_ne.mpr h
    simp only[List.lookup,hb]
    exact ih
theorem keys_putF (f:Str) (v:V):∀fs:List (Str×V),f∈(putF f v fs).map (·.1)∧∀g,g∈fs.map (·.1)→g∈(putF f v fs).map (·.1)
 | []=>⟨by simp[putF],fun g h=>by simp at h⟩
 | (k,x)::r=>by
  obtain⟨i1,i2⟩:=keys_putF f v r
  rw[show putF f v ((k,x)::r)=(if k=f then (k,v)::r else (k,x)::putF f v r) from rfl]
  by_cases hk:k=f
  ·rw[if_pos hk]
   subst hk
   exact⟨by simp,fun g h=>by simpa using h⟩
  ·rw[if_neg hk]
   refine⟨?_,fun g h=>?_⟩
   ·rw[List.map_cons]
    exact List.mem_cons_of_mem _ i1
   ·rw[List.map_cons] at h ⊢
    rcases List.mem_cons.mp h with e | e
    ·exact List.mem_cons.mpr (.inl e)
    ·exact List.mem_cons_of_mem _ (i2 g e)
theorem length_putF (f:Str) (v:V):∀fs:List (Str×V),(putF f v fs).length≤fs.length+1
 | []=>by simp[putF]
 | (k,x)::r=>by
  have ih:=length_putF f v r
  rw[show putF f v ((k,x)::r)=(if k=f then (k,v)::r else (k,x)::putF f v r) from rfl]
  by_cases hk:k=f
  ·rw[if_pos hk,List.length_cons,List.length_cons];omega
  ·rw[if_neg hk,List.length_cons,List.length_cons];omega
theorem RelO.some_of {v:V} {o:Option Value} (r:RelO (some v) o):∃u,o=some u∧RelV v u:=by
 cases o with
 | none=>exact (show False from r).elim
 | some u=>exact⟨u,rfl,r⟩
theorem RelO.none_of {o:Option Value} (r:RelO none o):o=none:=by
 cases o with
 | none=>rfl
 | some u=>exact (show False from r).elim
theorem handed_of {v:V} {u:Value} (r:RelV v u):PySem.W.handedIn u=true:=by
 cases v with
 | non=>cases (show u=Value.none from r);rfl
 | bl b=>cases (show u=Value.bool b from r);rfl
 | int i=>obtain⟨t,e⟩:=(show ∃t,u=Value.int i t from r);cases e;rfl
 | str x=>obtain⟨t,e⟩:=(show ∃t,u=Value.str x t from r);cases e;rfl
 | byt b=>obtain⟨t,e⟩:=(show ∃t,u=Value.bytes b t from r);cases e;rfl
 | flt b=>obtain⟨t,e⟩:=(show ∃t,u=Value.float b t from r);cases e;rfl
 | ref a=>cases (show u=Value.ref a from r);rfl
 | ty n=>cases (show u=Value.type n from r);rfl
section
variable {P:Program} {w:World} {H H':Hp} {h h':Heap} {a C dx:Addr} {fs fs':List (Str×V)}
theorem ins_get (hok:HOk P w H h) (e:H a=some (.ins C dx fs)):∃mA,ObjM h a dx C mA∧(∀f,RelO (fs.lookup f) (mA f))∧PySem.Within mA (fs.map (·.1))∧fs.length≤1000∧H dx=some (.own a):=by
 obtain⟨d,z,ne,ob,mA,n,r,q⟩:=(show ObjOk P w H h a (.ins C dx fs) from hok a _ e)
 exact⟨mA,⟨ob,n,ne⟩,r,q,z,d⟩
end
structure Cls (K:PySem.W.Frag) (C:Addr):Prop where
 pg:PySem.W.plainGet K C Str.empty=true
 hd:PySem.W.hasDictIn K C=true
 po:PySem.W.plainOver K C=true
 sa:PySem.W.findIn K (.ref C) "__setattr__"=some (some (.builtin "object.__setattr__"))
theorem Cls.get {K:PySem.W.Frag} {C:Addr} (c:Cls K C) (f:Str):PySem.W.plainGet K C f=true:=c.pg
def NoAttr (K:PySem.W.Frag) (C:Addr) (f:Str):Prop:=PySem.W.findIn K (.ref C) f=some none
theorem NoAttr.taker {K:PySem.W.Frag} {C:Addr} {f:Str} (n:NoAttr K C f):PySem.W.takerIn K C f=some none:=by
 unfold PySem.W.takerIn
 rw[show PySem.W.findIn K (.ref C) f=some none from n]
 rfl
structure Meth (K:PySem.W.Frag) (C:Addr) (m:Str) (f:Addr):Prop where
 at_:PySem.W.findIn K (.ref C) m=some (some (.ref f))
 fn:PySem.W.isFn K (.ref f)=true
 kp:PySem.W.keepIn K (.ref f)=true
section
variable {X:Cx} {pins:List (Addr×Obj)} {σ:St} {H:Hp} {s:Shared} {a C dx:Addr} {fs:List (Str×V)} {f:Str} {v:V} {A:Around} {E:Value→Shared→Prop}
theorem getattr_ok {b:Bool} {Q:Value→Shared→Prop} (I:Inv X pins σ H s) (e:H a=some (.ins C dx fs)) (c:Cls X.K C) (n:NoAttr X.K C f) (l:fs.lookup f=some v)
  (h:∀u s',Inv X pins σ H s'→RelV v u→Q u s'):wpAny (model X.prog X.w) A (getAttr (.ref a) f b) Q E s:=by
 obtain⟨mA,O,r,_,_,_⟩:=ins_get I.hok e
 obtain⟨u,hu,ru⟩:=RelO.some_of (v:=v) (o:=mA f) (by rw[←l];exact r f)
 exact get_map I.kIn O (c.get f) c.hd n hu (handed_of ru) (h u _ (I.tok _) ru)
theorem getmeth_ok {m:Str} {g:Addr} {pl:Sem Bool} {Q:Value×List Value→Shared→Prop} (I:Inv X pins σ H s) (e:H a=some (.ins C dx fs)) (c:Cls X.K C) (k:Meth X.K C m g) (l:fs.lookup m=none)
  (h:Q (.ref g,[.ref a]) s):wpAny (model X.prog X.w) A (getMethod (.ref a) m pl) Q E s:=by
 obtain⟨mA,O,r,_,_,_⟩:=ins_get I.hok e
 have hn:mA m=none:=RelO.none_of (by rw[←l];exact r m)
 exact get_meth I.kIn O (c.get m) k.at_ k.fn hn h
theorem setattr_ok {y:V} {u:Value} {Q:Unit→Shared→Prop} (I:Inv X pins σ H s) (e:H a=some (.ins C dx fs)) (c:Cls X.K C) (n:NoAttr X.K C f) (hl:fs.length<1000) (ry:RelV y u)
  (h:∀s',Inv X pins σ (upd H a (.ins C dx (putF f y fs))) s'→Q () s'):wpAny (model X.prog X.w) A (setAttr (.ref a) f u) Q E s:=by
 obtain⟨mA,O,r,wi,_,ho⟩:=ins_get I.hok e
 have hz:(fs.map (·.1)).length≤sizeLine:=by rw[List.length_map,sizeLine_eq];omega
 refine set_map I.kIn O c.sa c.po n.taker c.hd wi hz fun h' O' sb=>h _ ?_
 have hd:∃o,h'.get? dx=some o:=let ⟨o,_,_,e',_⟩:=O'.ns;⟨o,e'⟩
 refine I.write (x:=a) (e:=dx) (by rw[e];exact True.intro) (.inr ho) (fun b q hb z=>(sb.2 b hb).trans z) hd ?_
 refine⟨by rw[upd_ne O.ne];exact ho,?_,O.ne,O'.obj,_,O'.ns,fun g=>?_,fun g hg=>?_⟩
 ·have:=length_putF f y fs;omega
 ·show RelO ((putF f y fs).lookup g) (if g=f then some u else mA g)
  rw[lookup_putF]
  by_cases q:g=f
  ·rw[if_pos q,if_pos q];exact ry
  ·rw[if_neg q,if_neg q];exact r g
 ·by_cases q:g=f
  ·rw[q];exact (keys_putF f y fs).1
  ·refine (keys_putF f y fs).2 g (wi g fun z=>hg ?_)
   show (if g=f then some u else mA g)=none
   rw[if_neg q];exact z
theorem Inv.made (I:Inv X pins σ H s):Inv X pins σ (upd (upd H s.heap.objs.size (.own (s.heap.objs.size+1))) (s.heap.objs.size+1) (.ins C s.heap.objs.size []))
  { s with heap:=(s.heap.push PySem.W.emptyDict).push (PySem.W.instObj C s.heap.objs.size) }:=by
 have e1:(s.heap.push PySem.W.emptyDict).get? s.heap.objs.size=some PySem.W.emptyDict:=Heap.get?_push_size s.heap rfl
 have e2:((s.heap.push PySem.W.emptyDict).push (PySem.W.instObj C s.heap.objs.size)).get? (s.heap.objs.size+1)=some (PySem.W.instObj C s.heap.objs.size):=by
  have:=Heap.get?_push_size (s.heap.push PySem.W.emptyDict) (o:=PySem.W.instObj C s.heap.objs.size) rfl
  rwa [Heap.size_push] at this
 have e3:(s.heap.push PySem.W.emptyDict).Ns s.heap.objs.size (fun _=>none):=⟨PySem.W.emptyDict,#[],_,e1,rfl,(fun e he=>absurd he (by simp)),fun _=>rfl⟩
 have I1:=I.laid (a:=s.heap.objs.size) (o:=.own (s.heap.objs.size+1)) (h':=s.heap.push PySem.W.emptyDict) (t':=s.toks) (fun b u q=>Heap.get?_push_of_some _ q) (Nat.le_refl _) ⟨_,e1⟩
 refine I1.laid (a:=s.heap.objs.size+1) (o:=.ins C s.heap.objs.size []) (t':=s.toks) (fun b u q=>Heap.get?_push_of_some _ q) (Nat.le_of_eq (Heap.size_push _ _)) ?_
 have ne:s.heap.objs.size≠s.heap.objs.size+1:=Nat.ne_of_lt (Nat.lt_succ_self _)
 refine⟨by rw[upd_ne ne,upd_same],Nat.zero_le _,ne,e2,fun _=>none,(Heap.Ns1.of_empty e3).at fun o q=>Heap.get?_push_of_some _ q,fun _=>True.intro,fun y hy=>absurd rfl hy⟩
theorem attr_of {prog:Program} {w:World} {env:Env} {e:Expr} {f:Str} {pos:Pos} {s:Shared} {Q:Value→Shared→Prop} (hb:attributeBase e f env (eval e env)=eval e env)
  (h:wpAny (model prog w) A (eval e env) (fun o s₁=>wpAny (model prog w) A (getAttr o f true) Q E s₁) E s):wpAny (model prog w) A (eval (.Attribute e f pos) env) Q E s:=
 Attribute_any_ h (by rw[arm_eval_Attribute,hb])
end
def tFld (K:PySem.W.Frag) (ta:TE) (f:Str):TE:=fun σ H Q=>ta σ H fun x H1=>∃a C dx fs v,x= .ref a∧H1 a=some (.ins C dx fs)∧Cls K C∧NoAttr K C f∧fs.lookup f=some v∧Q v H1
def sFld (K:PySem.W.Frag) (ta tv:TE) (f:Str):TS:=fun D σ H=>tv σ H fun y H1=>ta σ H1 fun x H2=>∃a C dx fs,x= .ref a∧H2 a=some (.ins C dx fs)∧Cls K C∧NoAttr K C f∧fs.length<1000∧
 D.nx σ (upd H2 a (.ins C dx (putF f y fs)))
section
variable {X:Cx} {o e value:Expr} {f:Str} {pos pos' tpos:Pos} {ta tv:TE}
theorem pe_fld (he:PE X e ta) (hb:attributeBase e f X.env (eval e X.env)=eval e X.env):PE X (.Attribute e f pos) (tFld X.K ta f):=by
 intro pins s σ H Q I h
 refine attr_of hb (thn (he pins s σ H _ I h) fun u s1 ⟨x,H1,I1,rx,a,C,dx,fs,v,ex,ea,c,n,l,q⟩=>?_)
 subst ex
 obtain rfl:u=Value.ref a:=rx
 exact getattr_ok I1 ea c n l fun u' s2 I2 ru=>⟨v,H1,I2,ru,q⟩
theorem ps_fld (ha:PE X o ta) (hv:PE X value tv) (hs:swapsWith value (some (.Attribute o f pos')) pos.line X.env=pure false):PS X (.Assign [.Attribute o f pos'] value pos) (sFld X.K ta tv f):=by
 intro pins s σ H D I h
 refine plainObj_wpAny_Assign_Attribute (thn (hv pins s σ H _ I h) fun u s1 ⟨y,H1,I1,ry,q⟩=>thn (ha pins s1 σ H1 _ I1 q) fun ov s2 ⟨x,H2,I2,rx,a,C,dx,fs,ex,ea,c,n,l,q2⟩=>?_) hs
 subst ex
 obtain rfl:ov=Value.ref a:=rx
 exact setattr_ok I2 ea c n l ry fun s3 I3=>⟨σ,_,I3,q2⟩
end
section
variable {X:Cx} {pins:List (Addr×Obj)} {σ:St} {H:Hp} {s:Shared} {A:Around} {E:Value→Shared→Prop} {Q:Value→Shared→Prop} {c:Value} {b:Bool}
inductive TyOf (K:PySem.W.Frag) (H:Hp):V→Value→Prop where
 | non:TyOf K H .non (.type "NoneType")
 | bl (x:Bool):TyOf K H (.bl x) (.type "bool")
 | int (i:Int):TyOf K H (.int i) (.type "int")
 | str (x:Str):TyOf K H (.str x) (.type "str")
 | flt (x:UInt64):TyOf K H (.flt x) (.type "float")
 | lst {a:Addr} {xs:List V} (e:H a=some (.lst xs)):TyOf K H (.ref a) (.type "list")
 | frz {a:Addr} {o:Obj} {xs:List V} (e:H a=some (.frz o (.lst xs))):TyOf K H (.ref a) (.type "list")
 | tup {a:Addr} {xs:List V} (e:H a=some (.tup xs)):TyOf K H (.ref a) (.type "tuple")
 | dK {a:Addr} {kvs:List (Key×V)} (e:H a=some (.dK kvs)):TyOf K H (.ref a) (.type "dict")
 | dT {a:Addr} {kvs:List (List Key×V)} (e:H a=some (.dT kvs)):TyOf K H (.ref a) (.type "dict")
 | ins {a C dx:Addr} {fs:List (Str×V)} (e:H a=some (.ins C dx fs)) (cl:Cls K C) (ha:PySem.W.findIn K (.ref C) "__class__"=some (some (.builtin "object.__class__")))
   (hn:PySem.W.specialIn K (.builtin "object.__class__") "__get__"=some (some (.builtin "getset_descriptor.__get__"))) (htk:PySem.W.takesIn K (.builtin "object.__class__")=some true)
   (hm:PySem.W.mroIn K C (.type "object")=some true):TyOf K H (.ref a) (.ref C)
theorem isinst_ok {x:V} {u t:Value} (I:Inv X pins σ H s) (rx:RelV x u) (ty:TyOf X.K H x t) (e:PySem.W.kitOne X.K t c=some b) (h:∀tk,Q (.bool b) { s with toks:=tk }) :
  wpAny (model X.prog X.w) A (call (.builtin "isinstance") [u,c]) Q E s:=by
 cases ty with
 | non=>cases (show u=Value.none from rx);exact PySem.W.kia_one PySem.W.kitx_none I.kIn True.intro e (fun z=>nomatch z) h
 | bl y=>cases (show u=Value.bool y from rx);exact PySem.W.kia_one PySem.W.kitx_bool I.kIn True.intro e (fun z=>nomatch z) h
 | int i=>obtain⟨t,q⟩:=(show ∃t,u=Value.int i t from rx);cases q;exact PySem.W.kia_one PySem.W.kitx_int I.kIn True.intro e (fun z=>nomatch z) h
 | str y=>obtain⟨t,q⟩:=(show ∃t,u=Value.str y t from rx);cases q;exact PySem.W.kia_one PySem.W.kitx_str I.kIn True.intro e (fun z=>nomatch z) h
 | flt y=>obtain⟨t,q⟩:=(show ∃t,u=Value.float y t from rx);cases q;exact PySem.W.kia_one PySem.W.kitx_float I.kIn True.intro e (fun z=>nomatch z) h
 | @lst a xs ea=>
  cases (show u=Value.ref a from rx)
  obtain⟨_,_,n,_,h1⟩:=(show ObjOk X.prog X.w H s.heap a (.lst xs) from I.hok a _ ea)
  exact PySem.W.kia_one PySem.W.kitx_list I.kIn ⟨_,h1,rfl⟩ e (fun z=>nomatch z) h
 | @frz a ob xs ea=>
  cases (show u=Value.ref a from rx)
  obtain⟨_,_,_,n,_,h1⟩:=(show ObjOk X.prog X.w H s.heap a (.frz ob (.lst xs)) from I.hok a _ ea)
  exact PySem.W.kia_one PySem.W.kitx_list I.kIn ⟨_,h1,rfl⟩ e (fun z=>nomatch z) h
 | @tup a xs ea=>
  cases (show u=Value.ref a from rx)
  obtain⟨_,_,_,p⟩:=(show ObjOk X.prog X.w H s.heap a (.tup xs) from I.hok a _ ea)
  obtain⟨o,h1,h2,_⟩:=p
  exact PySem.W.kia_one PySem.W.kitx_tuple I.kIn ⟨o,h1,h2⟩ e (fun z=>nomatch z) h
 | @dK a kvs ea=>
  cases (show u=Value.ref a from rx)
  obtain⟨_,_,vs,_,p⟩:=(show ObjOk X.prog X.w H s.heap a (.dK kvs) from I.hok a _ ea)
  obtain⟨o,es,ep,h1,h2,_⟩:=p
  exact PySem.W.kia_one PySem.W.kitx_dict I.kIn ⟨o,h1,h2.1⟩ e (fun z=>nomatch z) h
 | @dT a kvs ea=>
  cases (show u=Value.ref a from rx)
  obtain⟨_,_,xs,_,o,es,ep,h1,h2,_⟩:=(show ObjOk X.prog X.w H s.heap a (.dT kvs) from I.hok a _ ea)
  exact PySem.W.kia_one PySem.W.kitx_dict I.kIn ⟨o,h1,h2.1⟩ e (fun z=>nomatch z) h
 | @ins a C dx fs ea cl ha hn htk hm=>
  cases (show u=Value.ref a from rx)
  obtain⟨mA,O,_⟩:=ins_get I.hok ea
  obtain⟨od,J,_⟩:=O.look
  exact PySem.W.kia_one (PySem.W.kitx_own (cl.get _) cl.hd ha hn htk hm) I.kIn J e (fun z=>nomatch z) h
end
end L2
namespace L2
open PySem PySem.Spec PyProof.Rows
structure Room (k:Nat) (A:Around):Prop where
 hd:A.handled=none
 dp:A.depth+3*k+5<recursionLimit
 un:A.units+16*k+200<cLine
theorem Room.mono {j k:Nat} {A:Around} (r:Room k A) (h:j≤k):Room j A:=⟨r.hd,by have:=r.dp;omega,by have:=r.un;omega⟩
theorem Room.deeper {k:Nat} {A:Around} (r:Room (k+1) A) (env:Env):Room k (A.deeper env):=
 ⟨r.hd,by have:=r.dp;show A.depth+1+3*k+5<_;omega,by have:=r.un;show A.units+3+16*k+200<_;omega⟩
theorem make_depth {A:Around} {C:Addr} {us:List Value} {kw:List (Str×Value)}:(A.under (.builtin "type.__call__" ⟨.ref C::us,kw⟩)).depth=A.depth+1:=by
 first | rfl | simp[Around.under,Code.weight,Code.isCreation,Code.isGuard,Code.isCaller,Code.frames,Code.isFrame,guardIds]
theorem make_units {A:Around} {C:Addr} {us:List Value} {kw:List (Str×Value)}:(A.under (.builtin "type.__call__" ⟨.ref C::us,kw⟩)).units=A.units+1:=by
 first | rfl | simp[Around.under,Code.cUnits,Code.frames,Code.isFrame]
theorem Room.make {k:Nat} {A:Around} (r:Room (k+1) A) (C:Addr) (us:List Value) (kw:List (Str×Value)):Room k (A.under (.builtin "type.__call__" ⟨.ref C::us,kw⟩)):=
 ⟨r.hd,by have:=r.dp;rw[make_depth];omega,by have:=r.un;rw[make_units];omega⟩
theorem Room.depth {k:Nat} {A:Around} (r:Room k A):A.depth<recursionLimit:=by have:=r.dp;omega
theorem Room.units0 {k:Nat} {A:Around} (r:Room k A):A.units<cLine:=by have:=r.un;omega
def tNil:TA:=fun _ H Q=>Q [] H
def tCons (ta:TE) (tr:TA):TA:=fun σ H Q=>ta σ H fun x H1=>tr σ H1 fun xs H2=>Q (x::xs) H2
section
variable {X:Cx} {e:Expr} {es:List Expr} {te:TE} {t:TA} {pos:Pos}
theorem pa_nil:PA X [] tNil:=fun _ _ _ _ H Q I h=>Calls.spliced_nil ⟨[],H,I,.nil,h⟩
theorem pa_cons (ha:PE X e te) (hr:PA X es t) (hs:starEach (e::es) X.env=(false,eval e X.env)::starEach es X.env:=by rfl):PA X (e::es) (tCons te t):=by
 intro pos pins s σ H Q I h
 rw[hs]
 show wpAny _ _ (spliced ((false,eval e X.env)::backTo pos (starEach es X.env))) _ _ s
 refine Calls.spliced_cons (thn (ha pins s σ H _ I h) fun u s1 ⟨x,H1,I1,r1,q1⟩=>?_)
 exact thn (hr pos pins s1 σ H1 _ I1 q1) fun us s2 ⟨xs,H2,I2,r2,q2⟩=>⟨x::xs,H2,I2,.cons r1 r2,q2⟩
def tTup (t:TA):TE:=fun σ H Q=>t σ H fun xs H1=>xs.length≤sizeLine∧∀p,H1 p=none→Q (.ref p) (upd H1 p (.tup xs))
def tLst (t:TA):TE:=fun σ H Q=>t σ H fun xs H1=>xs.length≤sizeLine∧∀p,H1 p=none→Q (.ref p) (upd H1 p (.lst xs))
theorem pe_tup {x1} (h:PA X es t):PE X (.Tuple es x1 pos) (tTup t):=by
 intro pins s σ H Q I hq
 refine wpAny_Tuple_spliced (thn (h pos pins s σ H _ I hq) fun us s1 ⟨xs,H1,I1,r,z,q⟩=>⟨by rw[←r.length];exact z,?_⟩)
 have hf:H1 s1.heap.objs.size=none:=I1.hok.fresh (Nat.le_refl _)
 refine⟨.ref s1.heap.objs.size,upd H1 s1.heap.objs.size (.tup xs),I1.laid (t':=s1.toks) (fun b u e=>Heap.get?_push_of_some _ e) (Nat.le_refl _) ?_,rfl,q _ hf⟩
 exact⟨z,us,r,⟨_,Heap.get?_push_size _ rfl,rfl,_,rfl⟩⟩
theorem pe_lst (h:PA X es t):PE X (.List es pos) (tLst t):=by
 intro pins s σ H Q I hq
 refine wpAny_List_spliced (thn (h pos pins s σ H _ I hq) fun us s1 ⟨xs,H1,I1,r,z,q⟩=>⟨by rw[←r.length];exact z,?_⟩)
 have hf:H1 s1.heap.objs.size=none:=I1.hok.fresh (Nat.le_refl _)
 refine⟨.ref s1.heap.objs.size,upd H1 s1.heap.objs.size (.lst xs),I1.laid (t':=s1.toks) (fun b u e=>Heap.get?_push_of_some _ e) (Nat.le_refl _) ?_,rfl,q _ hf⟩
 exact⟨z,us,0,r,Heap.get?_push_size _ rfl⟩
end
abbrev Sp:=List V→Hp→VK→XK→Prop
abbrev CXT:=List Env→Hp→Shared→XK→Value→Shared→Prop
structure Env0 (P:Program) (w:World) (K:PySem.W.Frag) (mg:Str→Option Value) (base:Heap) (A:Around) (outer:List Env) (s:Shared) (H:Hp):Prop where
 frames:A.frames=some outer
 mod:Mod K mg base
 bs:∀b o,base.get? b=some o→s.heap.get? b=some o∧H b=none
 bsz:base.objs.size≤s.heap.objs.size
 funs:s.heap.FunFrames base outer
 frf:∀b∈frs outer,H b=none
 hok:HOk P w H s.heap
 bare:AllBare s.gens
def CE (outer:List Env) (P:Program) (w:World) (H:Hp) (s:Shared) (Q:VK) (u:Value) (s':Shared):Prop:=
 ∃v H',s'.os=s.os∧AllBare s'.gens∧Un (frs outer) [] H H' s.heap s'.heap∧HOk P w H' s'.heap∧RelV v u∧Q v H'
def CR (CX:CXT) (outer:List Env) (P:Program) (w:World) (H:Hp) (s:Shared) (Q:VK) (E:XK) (r:Result) (s':Shared):Prop:=
 match r with
 | .ok (.ret u)=>CE outer P w H s Q u s'
 | .ok _=>False
 | .error e=>CX outer H s E e s'
structure FnOk (P:Program) (w:World) (K:PySem.W.Frag) (mg:Str→Option Value) (base:Heap) (CX:CXT) (k:Nat) (f:Addr) (fd:FuncData) (ps:List Str) (sp:Sp):Prop where
 len:∀vs H Q E,sp vs H Q E→vs.length=ps.length
 run:∀(A:Around) (outer:List Env) (s:Shared) (H:Hp) (args:Args) (us:List Value) (vs:List V) (Q:VK) (E:XK),Room k A→Env0 P w K mg base A outer s H→BindsTo s fd args (ps.zip us)→Vals vs us→sp vs H Q E→
  codeAny (model P w) A (.call (.ref f) args) (CR CX outer P w H s Q E) s
theorem FnOk.mono {P:Program} {w:World} {K:PySem.W.Frag} {mg:Str→Option Value} {base:Heap} {CX:CXT} {j k:Nat} {f:Addr} {fd:FuncData} {ps:List Str} {sp:Sp} (F:FnOk P w K mg base CX j f fd ps sp) (h:j≤k) :
  FnOk P w K mg base CX k f fd ps sp:=⟨F.len,fun A outer s H args us vs Q E hr=>F.run A outer s H args us vs Q E (hr.mono h)⟩
theorem Env0.make {P:Program} {w:World} {K:PySem.W.Frag} {mg:Str→Option Value} {base:Heap} {A:Around} {outer:List Env} {s:Shared} {H:Hp} (e:Env0 P w K mg base A outer s H) (C:Addr) (us:List Value) (kw:List (Str×Value)) :
  Env0 P w K mg base (A.under (.builtin "type.__call__" ⟨.ref C::us,kw⟩)) outer s H:=⟨by first | exact e.frames | (simpa [Around.under,Code.envs,Code.isFrame,pushEnvs] using e.frames),e.mod,e.bs,e.bsz,e.funs,e.frf,e.hok,e.bare⟩
section
variable {X:Cx} {pins:List (Addr×Obj)} {σ:St} {H:Hp} {s s':Shared}
theorem Inv.env0 (I:Inv X pins σ H s):Env0 X.prog X.w X.K X.mg X.base X.A X.stack s H:=
 ⟨I.ok.frames,I.ok.mod,I.bs,Nat.le_trans I.ok.bsz I.sz,I.stack,I.stkFree,I.hok,I.bare⟩
theorem Inv.after {Q:VK} {u:Value} (I:Inv X pins σ H s) (h:CE X.stack X.prog X.w H s Q u s'):EP X pins σ Q u s':=by
 obtain⟨v,H',os,bare,un,hok,r,q⟩:=h
 obtain⟨hh,g,d,t,os'⟩:=s'
 obtain rfl:os'=s.os:=os
 exact⟨v,H',I.call (h':=hh) (g':=g) (d':=d) (t':=t) (ch:=[]) un hok bare (fun b z=>absurd z (by simp)),r,q⟩
end
def tCall (sp:Sp) (dvs:List V) (E:XK) (t:TA):TE:=fun σ H Q=>t σ H fun vs H1=>sp (vs++dvs) H1 Q E
def tMeth (C:Addr) (m:Str) (sp:Sp) (dvs:List V) (E:XK) (ta:TE) (t:TA):TE:=fun σ H Q=>ta σ H fun x H1=>∃a dx fs,x= .ref a∧H1 a=some (.ins C dx fs)∧fs.lookup m=none∧
 t σ H1 fun vs H2=>sp (x::(vs++dvs)) H2 Q E
def tMake (C:Addr) (sp:Sp) (dvs:List V) (E:XK) (t:TA):TE:=fun σ H Q=>t σ H fun vs H1=>∀x dx,H1 x=none→H1 dx=none→dx≠x→
 sp (.ref x::(vs++dvs)) (upd (upd H1 dx (.own x)) x (.ins C dx [])) (fun v H2=>v= .non∧Q (.ref x) H2) E
def Binds (K:PySem.W.Frag) (fd:FuncData) (ps:List Str) (ds:List Value):Prop:=
 ∀(s:Shared) (us:List Value),K.In s.heap→(us++ds).length=ps.length→BindsTo s fd ⟨us,[]⟩ (ps.zip (us++ds))
theorem Binds.all {K:PySem.W.Frag} {fd:FuncData} {ps:List Str} (h:∀us:List Value,us.length=ps.length→bindArgs fd ⟨us,[]⟩=pure (ps.zip us)):Binds K fd ps []:=fun s us _ hl=>by
 rw[List.append_nil] at hl ⊢
 exact .of_eq (h us hl)
def Passes (CX:CXT) (X:Cx) (E:XK):Prop:=∀(pins:List (Addr×Obj)) (σ:St) (H:Hp) (s:Shared) (e:Value) (s':Shared),Inv X pins σ H s→CX X.stack H s E e s'→X.xe e s'
section
variable {X:Cx} {CX:CXT} {k:Nat} {f C:Addr} {fd:FuncData} {ps:List Str} {sp:Sp} {dvs:List V} {ds:List Value} {E:XK} {x m:Str} {p pos apos:Pos} {e o:Expr} {es:List Expr} {ta:TE} {t:TA}
theorem run_fn {pins:List (Addr×Obj)} {σ:St} {H:Hp} {s:Shared} {Q:VK} {us:List Value} {vs:List V} (F:FnOk X.prog X.w X.K X.mg X.base CX k f fd ps sp) (hr:Room k X.A) (hb:Binds X.K fd ps ds) (hd:Vals dvs ds) (hx:Passes CX X E)
  (I:Inv X pins σ H s) (r:Vals vs us) (h:sp (vs++dvs) H Q E):wpAny (model X.prog X.w) X.A (call (.ref f) us) (EP X pins σ Q) X.xe s:=by
 have r2:Vals (vs++dvs) (us++ds):=r.append hd
 have hl:(us++ds).length=ps.length:=by rw[←r2.length];exact F.len _ _ _ _ h
 refine wpAny_call (codeAny_mono (F.run X.A X.stack s H ⟨us,[]⟩ (us++ds) (vs++dvs) Q E hr I.env0 (hb s us I.kIn hl) r2 h) fun r s' hq=>?_)
 cases r with
 | error e=>exact hx pins σ H s e s' I hq
 | ok fl=>
  cases fl with
  | ret u=>exact I.after hq
  | next=>exact False.elim hq
  | brk=>exact False.elim hq
  | cont=>exact False.elim hq
theorem pe_call (F:FnOk X.prog X.w X.K X.mg X.base CX k f fd ps sp) (hr:Room k X.A) (hg:Gl X x) (hm:X.mg x=some (.ref f)) (hk:PySem.W.keepIn X.K (.ref f)=true) (hb:Binds X.K fd ps ds) (hd:Vals dvs ds) (hx:Passes CX X E)
  (ha:PA X (e::es) t) (hdb:(x == ("__debug__":Str))=false:=by decide) (he:starEach (e::es) X.env=(false,eval e X.env)::starEach es X.env:=by rfl) (hpl:(backTo pos (starEach es X.env)).any (·.1)=false:=by rfl) :
  PE X (.Call (.Name x p) (e::es) [] pos) (tCall sp dvs E t):=by
 intro pins s σ H Q I h
 refine wpAny_Call_Name_kw (ld_glob I hg hm ?_ hdb)
 refine PySem.W.callWith_K (h₀:=X.base) I.ok.mod.kin hk (thn (ha pos pins s σ H _ I h) fun us s1 ⟨vs,H1,I1,r,q⟩=>⟨I1.kIn,?_⟩) he hpl
 exact run_fn F hr hb hd hx I1 r q
theorem pe_meth {pl:Sem Bool} (he:PE X o ta) (c:Cls X.K C) (hm:Meth X.K C m f) (F:FnOk X.prog X.w X.K X.mg X.base CX k f fd ps sp) (hr:Room k X.A) (hb:Binds X.K fd ps ds) (hd:Vals dvs ds) (hx:Passes CX X E) (ha:PA X (e::es) t)
  (hst:starEach (e::es) X.env=(false,eval e X.env)::starEach es X.env:=by rfl) (hpl:(backTo pos (starEach es X.env)).any (·.1)=false:=by rfl)
  (ht:eval (.Call (.Attribute o m apos) (e::es) [] pos) X.env=(do
   let ov ←eval o X.env
   standAt apos.atName
   let (f,first) ←holding [ov] (getMethod ov m pl)
   callWith pos f first (backTo pos (starEach (e::es) X.env)) (backToKw pos (keywordEach [] X.env))):=by rfl) :
  PE X (.Call (.Attribute o m apos) (e::es) [] pos) (tMeth C m sp dvs E ta t):=by
 intro pins s σ H Q I h
 refine PySem.W.methodCall_KW (pl:=pl) (thn (he pins s σ H _ I h) fun u s1 ⟨x,H1,I1,rx,a,dx,fs,ex,ea,l,q⟩=>?_) ht
 subst ex
 obtain rfl:u=Value.ref a:=rx
 refine getmeth_ok I1 ea c hm l ?_
 refine PySem.W.callWith_K (first:=[.ref a]) (h₀:=X.base) I.ok.mod.kin hm.kp (thn (ha pos pins s1 σ H1 _ I1 q) fun us s2 ⟨vs,H2,I2,r,q2⟩=>⟨I2.kIn,?_⟩) hst hpl
 exact run_fn (us:=.ref a::us) (vs:=.ref a::vs) F hr hb hd hx I2 (.cons rfl r) q2
theorem pe_meth0 {pl:Sem Bool} (he:PE X o ta) (c:Cls X.K C) (hm:Meth X.K C m f) (F:FnOk X.prog X.w X.K X.mg X.base CX k f fd ps sp) (hr:Room k X.A) (hb:Binds X.K fd ps ds) (hd:Vals dvs ds) (hx:Passes CX X E)
  (ht:eval (.Call (.Attribute o m apos) [] [] pos) X.env=(do
   let ov ←eval o X.env
   standAt apos.atName
   let (f,first) ←holding [ov] (getMethod ov m pl)
   callWith pos f first (backTo pos (starEach [] X.env)) (backToKw pos (keywordEach [] X.env))):=by rfl) :
  PE X (.Call (.Attribute o m apos) [] [] pos) (tMeth C m sp dvs E ta tNil):=by
 intro pins s σ H Q I h
 refine PySem.W.methodCall_KW (pl:=pl) (thn (he pins s σ H _ I h) fun u s1 ⟨x,H1,I1,rx,a,dx,fs,ex,ea,l,q⟩=>?_) ht
 subst ex
 obtain rfl:u=Value.ref a:=rx
 refine getmeth_ok I1 ea c hm l ?_
 exact PySem.W.callWith_K0 (first:=[.ref a]) I1.kIn hm.kp (run_fn (us:=[.ref a]) (vs:=[.ref a]) F hr hb hd hx I1 (.cons rfl .nil) q)
structure Mk (K:PySem.W.Frag) (C f:Addr):Prop where
 makes:PySem.W.makesIn K C=true
 init:PySem.W.findIn K (.ref C) "__init__"=some (some (.ref f))
 fn:PySem.W.isFn K (.ref f)=true
 kp:PySem.W.keepIn K (.ref C)=true
theorem run_make {pins:List (Addr×Obj)} {σ:St} {H:Hp} {s:Shared} {Q:VK} {us:List Value} {vs:List V} (M:Mk X.K C f) (F:FnOk X.prog X.w X.K X.mg X.base CX k f fd ps sp) (hr:Room (k+1) X.A) (hb:Binds X.K fd ps ds) (hd:Vals dvs ds)
  (hx:Passes CX X E) (I:Inv X pins σ H s) (r:Vals vs us)
  (h:∀x dx,H x=none→H dx=none→dx≠x→sp (.ref x::(vs++dvs)) (upd (upd H dx (.own x)) x (.ins C dx [])) (fun v H2=>v= .non∧Q (.ref x) H2) E) :
  wpAny (model X.prog X.w) X.A (call (.ref C) us) (EP X pins σ Q) X.xe s:=by
 have hq:=h (s.heap.objs.size+1) s.heap.objs.size (I.hok.fresh (Nat.le_succ _)) (I.hok.fresh (Nat.le_refl _)) (Nat.ne_of_lt (Nat.lt_succ_self _))
 have I2:=Inv.made (C:=C) I
 have r2:Vals (V.ref (s.heap.objs.size+1)::(vs++dvs)) (Value.ref (s.heap.objs.size+1)::(us++ds)):=.cons rfl (r.append hd)
 have hl:(Value.ref (s.heap.objs.size+1)::us++ds).length=ps.length:=by
  have e:=r2.length
  rw[F.len _ _ _ _ hq] at e
  exact e.symm
 refine wpAny_call (make_map (f:=f) I.kIn M.makes M.init (beq_iff_eq.mp M.fn) (codeAny_mono (F.run _ X.stack _ _ ⟨Value.ref (s.heap.objs.size+1)::us,[]⟩ (Value.ref (s.heap.objs.size+1)::(us++ds)) _ _ E (hr.make C us [])
  (I2.env0.make C us []) (hb _ (Value.ref (s.heap.objs.size+1)::us) I2.kIn hl) r2 hq) fun r s' hq'=>?_))
 cases r with
 | error e=>exact hx pins σ _ _ e s' I2 hq'
 | ok fl=>
  cases fl with
  | ret u=>
   obtain⟨v,H',I3,rv,ev,q3⟩:=I2.after hq'
   subst ev
   exact⟨rv,⟨V.ref (s.heap.objs.size+1),H',I3,rfl,q3⟩⟩
  | next=>exact False.elim hq'
  | brk=>exact False.elim hq'
  | cont=>exact False.elim hq'
theorem pe_make (M:Mk X.K C f) (F:FnOk X.prog X.w X.K X.mg X.base CX k f fd ps sp) (hr:Room (k+1) X.A) (hg:Gl X x) (hm:X.mg x=some (.ref C)) (hb:Binds X.K fd ps ds) (hd:Vals dvs ds) (hx:Passes CX X E)
  (ha:PA X (e::es) t) (hdb:(x == ("__debug__":Str))=false:=by decide) (he:starEach (e::es) X.env=(false,eval e X.env)::starEach es X.env:=by rfl) (hpl:(backTo pos (starEach es X.env)).any (·.1)=false:=by rfl) :
  PE X (.Call (.Name x p) (e::es) [] pos) (tMake C sp dvs E t):=by
 intro pins s σ H Q I h
 refine wpAny_Call_Name_kw (ld_glob I hg hm ?_ hdb)
 refine PySem.W.callWith_K (h₀:=X.base) I.ok.mod.kin M.kp (thn (ha pos pins s σ H _ I h) fun us s1 ⟨vs,H1,I1,r,q⟩=>⟨I1.kIn,?_⟩) he hpl
 exact run_make M F hr hb hd hx I1 r q
end
section
variable {X:Cx} {CX:CXT} {k:Nat} {f C:Addr} {fd:FuncData} {ps ks:List Str} {sp:Sp} {E:XK} {x m:Str} {p pos apos kpos:Pos} {e o:Expr} {es:List Expr} {kws:List Keyword} {te ta:TE} {t tk:TA} {nm:Option Str}
variable {g:List Value→List Value→List Value} {gV:List V→List V→List V}
end
structure FnScope (N P:List Str) (sc:Scope):Prop where
 kind:sc.kind= .function
 co:sc.isCoroutine=false
 gen:sc.isGenerator=false
 nd:N.Nodup
 pre:N.take P.length=P
 par:∀x∈P,sc.names.lookup x=some .local∨sc.names.lookup x=some .cell
 nofree:∀y∈sc.names,y.2≠.free
theorem bindL_out {kindOf:Str→Option NameKind} {x:Str}:∀{binds:List (Str×Value)} {m:Str→Option Value},(∀v,(x,v)∉binds)→bindL kindOf binds m x=m x
 | [],_,_=>rfl
 | (n,v)::r,m,h=>by
  unfold bindL
  rw[bindL_out fun w hw=>h w (List.mem_cons_of_mem _ hw)]
  split
  ·have:x≠n:=by rintro rfl;exact h v List.mem_cons_self
   simp[this]
  ·rfl
theorem bindC_out {kindOf:Str→Option NameKind} {x:Str}:∀{binds:List (Str×Value)} {m:Str→Option Value},(∀v,(x,v)∉binds)→bindC kindOf binds m x=m x
 | [],_,_=>rfl
 | (n,v)::r,m,h=>by
  unfold bindC
  rw[bindC_out fun w hw=>h w (List.mem_cons_of_mem _ hw)]
  split
  ·rfl
  ·have:x≠n:=by rintro rfl;exact h v List.mem_cons_self
   simp[this]
theorem bindL_get {kindOf:Str→Option NameKind} {x:Str} {v:Value}:∀{P:List Str} {vs:List Value} {i:Nat} {m:Str→Option Value},P.Nodup→P[i]? = some x→vs[i]? = some v→kindOf x=some .local→
  bindL kindOf (P.zip vs) m x=some v
 | [],_,_,_,_,h,_,_=>by simp at h
 | _::_,[],_,_,_,_,h,_=>by simp at h
 | p::P,w::vs,0,m,nd,h1,h2,hk=>by
  simp at h1 h2;subst h1;subst h2
  show bindL kindOf ((p,w)::P.zip vs) m p=_
  unfold bindL
  rw[bindL_out fun v hv=>(List.nodup_cons.mp nd).1 (List.of_mem_zip hv).1,if_pos hk]
  simp
 | p::P,w::vs,i+1,m,nd,h1,h2,hk=>by
  show bindL kindOf ((p,w)::P.zip vs) m x=_
  unfold bindL
  exact bindL_get (i:=i) (List.nodup_cons.mp nd).2 (by simpa using h1) (by simpa using h2) hk
theorem bindC_get {kindOf:Str→Option NameKind} {x:Str} {v:Value}:∀{P:List Str} {vs:List Value} {i:Nat} {m:Str→Option Value},P.Nodup→P[i]? = some x→vs[i]? = some v→kindOf x≠some .local→
  bindC kindOf (P.zip vs) m x=some v
 | [],_,_,_,_,h,_,_=>by simp at h
 | _::_,[],_,_,_,_,h,_=>by simp at h
 | p::P,w::vs,0,m,nd,h1,h2,hk=>by
  simp at h1 h2;subst h1;subst h2
  show bindC kindOf ((p,w)::P.zip vs) m p=_
  unfold bindC
  rw[bindC_out fun v hv=>(List.nodup_cons.mp nd).1 (List.of_mem_zip hv).1,if_neg hk]
  simp
 | p::P,w::vs,i+1,m,nd,h1,h2,hk=>by
  show bindC kindOf ((p,w)::P.zip vs) m x=_
  unfold bindC
  exact bindC_get (i:=i) (List.nodup_cons.mp nd).2 (by simpa using h1) (by simpa using h2) hk
def start (N:List Str) (vs:List V):St:=vs.map some++List.replicate (N.length-vs.length) none
def cxOf (CX:CXT) (P:Program) (w:World) (K:PySem.W.Frag) (mg:Str→Option Value) (base:Heap) (N:List Str) (qual:Str) (scope:Scope) (f:Addr) (cd:Value) (A:Around) (outer:List Env) (s:Shared) (H:Hp) (E:XK):Cx where
 prog:=P
 w:=w
 K:=K
 mg:=mg
 base:=base
 A:=A.deeper (envOfC qual scope s.heap.objs.size f cd)
 N:=N
 s₀:=s
 H₀:=H
 env:=envOfC qual scope s.heap.objs.size f cd
 outer:=outer
 stack:=envOfC qual scope s.heap.objs.size f cd::outer
 ex:=[]
 calm:=true
 fn:=fun _=>true
 pn:=[]
 xe:=fun e s'=>wpAny (model P w) (A.deeper (envOfC qual scope s.heap.objs.size f cd)) (leaving (envOfC qual scope s.heap.objs.size f cd) e) (fun _ s''=>CX outer H s E e s'') (fun e' s''=>CX outer H s E e' s'') s'
theorem cell_has {sc:Scope} {n:Nat} {x:Str} (h:sc.names.lookup x=some .cell):∃c,(cellsFrom n sc.names []).lookup x=some c:=by
 have q:=PySem.W.cellsFrom_some sc.names n [] (.inl h)
 exact Option.isSome_iff_exists.mp q
theorem inv_start {CX:CXT} {P:Program} {w:World} {K:PySem.W.Frag} {mg:Str→Option Value} {base:Heap} {N ps:List Str} {qual:Str} {scope:Scope} {f:Addr} {cd:Value} {A:Around} {outer:List Env} {s s1:Shared} {H:Hp} {E:XK} {us:List Value} {vs:List V}
  (S:FnScope N ps scope) (hd:A.handled=none) (e0:Env0 P w K mg base A outer s H) (hl:vs.length=ps.length) (r:Vals vs us)
  (x:InCallC s s.heap.objs.size (bindL (envOfC qual scope s.heap.objs.size f cd).kindOf (ps.zip us) fun _=>none) (cellsFrom (s.heap.objs.size+1) scope.names []) (bindC (envOfC qual scope s.heap.objs.size f cd).kindOf (ps.zip us) fun _=>none) s1) :
  Inv (cxOf CX P w K mg base N qual scope f cd A outer s H E) [] (start N vs) H s1:=by
 have hpl:ps.length≤N.length:=by have:=congrArg List.length S.pre;rw[List.length_take] at this;omega
 obtain⟨h1,tk,rfl,hk⟩:=x.done
 have noA:∀b:Addr,b∉(cxOf CX P w K mg base N qual scope f cd A outer s H E).ex:=fun b z=>absurd (show b∈([]:List Addr) from z) (by simp)
 refine⟨⟨e0.mod,S.kind,rfl,rfl,Nat.le_refl _,fun y z c h1 h2=>?_,fun y hy=>?_,fun y c _ h=>?_,fun _=>hd,Around.frames_deeper e0.frames,.inr ⟨rfl,rfl⟩,fun b z=>absurd z (noA b),e0.bs,e0.bsz,fun b _ _=>noA b,fun b z=>absurd z (noA b),e0.funs,e0.frf⟩,
  rfl,e0.bare,Un.kept hk,⟨_,x.toInCall.ns,fun i y v h1 h2 h3=>?_⟩,fun y c h=>⟨_,x.cell y c h⟩,e0.hok.fresh (Nat.le_refl _),fun y c h=>?_,fun p hp=>absurd (show p∈([]:List (Addr×Obj)) from hp) (by simp),e0.hok.kept hk,?_⟩
 ·exact name_of_addr x.apart (PySem.mem_of_lookup h1) (PySem.mem_of_lookup h2)
 ·have hy:scope.names.lookup y=some .cell∨scope.names.lookup y=some .free:=hy
  rcases hy with hy | hy
  ·exact cell_has hy
  ·exact absurd rfl (S.nofree _ (PySem.mem_of_lookup hy))
 ·exact Nat.le_of_lt (x.above y c (PySem.mem_of_lookup h))
 ·have hi:i<vs.length:=by
   unfold start at h2
   by_cases hi:i<vs.length
   ·exact hi
   ·rw[List.getElem?_append_right (by simpa using hi)] at h2
    rw[List.getElem?_replicate] at h2
    split at h2<;>cases h2
  have ha:vs[i]? = some v:=by
   unfold start at h2
   rw[List.getElem?_append_left (by simpa using hi),List.getElem?_map] at h2
   cases e:vs[i]? with
   | none=>rw[e] at h2;cases h2
   | some a=>rw[e] at h2;cases h2;rfl
  obtain⟨u,hu,rv⟩:=r.get ha
  have hp:ps[i]? = some y:=by
   rw[←S.pre,List.getElem?_take_of_lt (by omega)];exact h1
  have ndP:ps.Nodup:=by rw[←S.pre];exact S.nd.sublist (List.take_sublist _ _)
  refine⟨u,rv,?_⟩
  rcases S.par y (List.mem_of_getElem? hp) with k | k
  ·exact .inl ⟨k,bindL_get ndP hp hu k⟩
  ·obtain⟨c,e⟩:=cell_has (n:=s.heap.objs.size+1) k
   refine .inr ⟨.inl k,c,e,?_⟩
   have q:=x.cell y c e
   rw[bindC_get ndP hp hu (by show scope.names.lookup y≠_;rw[k];decide)] at q
   exact q
 ·exact e0.hok.fresh (Nat.le_of_lt (x.above y c (PySem.mem_of_lookup h)))
 ·unfold start
  show _=N.length
  rw[List.length_append,List.length_map,List.length_replicate]
  omega
theorem fn_of {CX:CXT} {P:Program} {w:World} {K:PySem.W.Frag} {mg:Str→Option Value} {base:Heap} {k:Nat} {f:Addr} {name qual:Str} {params:Arguments} {body:List Stmt} {scope:Scope} {dV kV doc pm cdv ct oc:Value} {an od:Option Addr}
  {osl:Array (Option Value)} {N ps:List Str} {sp:Sp} (lk:K.lookup f=some ⟨oc,od,.func (PySem.W.fnOf name qual params body scope dV kV doc pm an cdv ct),osl⟩) (hcd:PySem.W.codeIn K cdv qual=true) (S:FnScope N ps scope)
  (len:∀vs H Q E,sp vs H Q E→vs.length=ps.length)
  (hbody:∀(A:Around) (outer:List Env) (s:Shared) (H:Hp) (vs:List V) (Q:VK) (E:XK),Room k (A.deeper (envOfC qual scope s.heap.objs.size f cdv))→sp vs H Q E→
   ∃t,PSs (cxOf CX P w K mg base N qual scope f cdv A outer s H E) body t∧t { nx:=fun _ H'=>Q .non H',rt:=Q } (start N vs) H) :
  FnOk P w K mg base CX (k+1) f (PySem.W.fnOf name qual params body scope dV kV doc pm an cdv ct) ps sp:=by
 refine⟨len,fun A outer s H args us vs Q E hr e0 hb r hsp=>?_⟩
 have hl:=len _ _ _ _ hsp
 have KX:K.In s.heap:=e0.mod.kin.keeps fun b o e=>(e0.bs b o e).1
 have lim:s.heap.NoLimit:=e0.mod.nolimit.keeps fun b o e=>(e0.bs b o e).1
 have hkind:∀y∈ps.zip us,scope.names.lookup y.1=some .local∨(scope.names.lookup y.1=some .cell∧((cellsFrom (s.heap.objs.size+1) scope.names []).lookup y.1).isSome=true):=fun⟨n,v⟩ hy=>by
  rcases S.par n (List.of_mem_zip hy).1 with q | q
  ·exact .inl q
  ·exact .inr ⟨q,PySem.W.cellsFrom_some _ _ _ (.inl q)⟩
 refine codeAny_call_function hr.depth (KX _ _ lk) rfl S.co S.gen rfl (PySem.W.codeRec_of KX hcd) (hb _ _ _ _ ?_)
 refine wpAny_newFunctionEnv_cells S.kind hkind fun env he s1 x=>?_
 subst he
 refine⟨lim.keeps x.toInCall.keep,codeAny_func ?_⟩
 obtain⟨t,ht,hq⟩:=hbody A outer s H vs Q E (hr.deeper _) hsp
 have I:Inv (cxOf CX P w K mg base N qual scope f cdv A outer s H E) [] (start N vs) H s1:=inv_start S hr.hd e0 hl r x
 refine wpAny_mono (ht [] s1 (start N vs) H _ I hq) (fun fl s' hs=>?_) fun e s' hs=>hs
 have fin:∀{σ':St} {H':Hp} {v:V} {u:Value},Inv (cxOf CX P w K mg base N qual scope f cdv A outer s H E) [] σ' H' s'→RelV v u→Q v H'→CE outer P w H s Q u s':=
  fun {σ' H' v u} J rv q=>⟨v,H',J.os,J.bare,J.base,J.hok,rv,q⟩
 cases fl with
 | ret u=>
  obtain⟨v,σ',H',J,rv,q⟩:=hs
  exact fin J rv q
 | next=>
  obtain⟨σ',H',J,q⟩:=hs
  exact fin (v:=V.non) (u:=Value.none) J rfl q
 | brk=>
  obtain⟨_,_,_,q⟩:=hs
  exact False.elim q
 | cont=>
  obtain⟨_,_,_,q⟩:=hs
  exact False.elim q
end L2
namespace L2
open PySem PySem.Spec PyProof.Rows
section
variable {X:Cx} {x:Str} {p pos:Pos} {e:Expr} {es:List Expr} {t:TA} {id T:String} {r:List V→Hp→VK→Prop}
def tCB (r:List V→Hp→VK→Prop) (t:TA):TE:=fun σ H Q=>t σ H fun vs H1=>r vs H1 Q
theorem pe_callB (hc:CallR X (.builtin id) r) (hg:Gl X x) (hm:X.mg x=none) (hv:bootBuiltins x=some (.builtin id)) (ha:PA X (e::es) t) (hn:x≠"__name__":=by decide) (hdb:(x == ("__debug__":Str))=false:=by decide)
  (he:starEach (e::es) X.env=(false,eval e X.env)::starEach es X.env:=by rfl) (hpl:(backTo pos (starEach es X.env)).any (·.1)=false:=by rfl):PE X (.Call (.Name x p) (e::es) [] pos) (tCB r t):=by
 intro pins s σ H Q I h
 refine wpAny_Call_Name_kw (ld_blt I hg hm hv ?_ hn hdb)
 exact PyProof.Rows.callWith_builtin1 (thn (ha pos pins s σ H _ I h) fun us s1 ⟨vs,H1,I1,r1,q1⟩=>hc pins s1 σ H1 vs us Q I1 r1 q1) he hpl
theorem pe_callTy (hc:CallR X (.type T) r) (hg:Gl X x) (hm:X.mg x=none) (hv:bootBuiltins x=some (.type T)) (ha:PA X (e::es) t) (hn:x≠"__name__":=by decide) (hdb:(x == ("__debug__":Str))=false:=by decide)
  (he:starEach (e::es) X.env=(false,eval e X.env)::starEach es X.env:=by rfl) (hpl:(backTo pos (starEach es X.env)).any (·.1)=false:=by rfl):PE X (.Call (.Name x p) (e::es) [] pos) (tCB r t):=by
 intro pins s σ H Q I h
 refine wpAny_Call_Name_kw (ld_blt I hg hm hv ?_ hn hdb)
 exact PyProof.Rows.callWith_type1 (thn (ha pos pins s σ H _ I h) fun us s1 ⟨vs,H1,I1,r1,q1⟩=>hc pins s1 σ H1 vs us Q I1 r1 q1) he hpl
theorem pe_callTy0 (hc:CallR X (.type T) r) (hg:Gl X x) (hm:X.mg x=none) (hv:bootBuiltins x=some (.type T)) (hn:x≠"__name__":=by decide) (hdb:(x == ("__debug__":Str))=false:=by decide) :
  PE X (.Call (.Name x p) [] [] pos) (tCB r tNil):=by
 intro pins s σ H Q I h
 refine wpAny_Call_Name_kw (ld_blt I hg hm hv ?_ hn hdb)
 exact PyProof.Rows.callWith_type0 (hc pins s σ H [] [] Q I .nil h)
end
end L2
namespace HT
open PySem PyProof.Rows
section
open PySem.SeqAt
open PySem.AutoSeq1 (wpAny_loadPart')
open PySem.MeetsSeq PySem.MeetsSeq2 PySem.MeetsSeq3
end
section
variable {prog:Program} {w:World} {A:Around} {E:Value→Shared→Prop} {s:Shared}
def sIx (n d:Nat):Option Int→Nat
 | none=>d
 | some v=>if v<0 then (v+(n:Int)).toNat else min v.toNat n
theorem sIx_none (n d:Nat):sIx n d none=d:=rfl
theorem sIx_nat (n d k:Nat):sIx n d (some (k:Int))=min k n:=by
 show (if (k:Int)<0 then ((k:Int)+(n:Int)).toNat else min (k:Int).toNat n)=min k n
 rw[if_neg (by omega),Int.toNat_natCast]
theorem sIx_le (n d:Nat) (hd:d≤n) (o:Option Int):sIx n d o≤n:=by
 cases o with
 | none=>exact hd
 | some v=>
  show (if v<0 then (v+(n:Int)).toNat else min v.toNat n)≤n
  by_cases hv:v<0
  ·rw[if_pos hv];omega
  ·rw[if_neg hv];exact Nat.min_le_right _ _
theorem clip_eq (v:Int) (n d:Nat):(if v<0 then max (v+(n:Int)) 0 else min v (n:Int))=((sIx n d (some v):Nat):Int):=by
 show (if v<0 then max (v+(n:Int)) 0 else min v (n:Int))=(((if v<0 then (v+(n:Int)).toNat else min v.toNat n):Nat):Int)
 by_cases hv:v<0
 ·simp only[if_pos hv];omega
 ·simp only[if_neg hv];omega
theorem adjust_gen (lo hi:Option Int) (n:Nat):Builtin.Slice.sliceAdjust lo hi 1 (n:Int)=(((sIx n 0 lo:Nat):Int),((sIx n n hi:Nat):Int)):=by
 have h1:¬((1:Int)<0):=by omega
 unfold Builtin.Slice.sliceAdjust
 simp only[h1,if_false]
 refine Prod.ext ?_ ?_
 ·cases lo with
  | none=>rfl
  | some v=>exact clip_eq v n 0
 ·cases hi with
  | none=>rfl
  | some v=>exact clip_eq v n n
theorem places_gen (i j:Nat):Builtin.Slice.slicePlaces (i:Int) (j:Int) 1=j-i:=by
 unfold Builtin.Slice.slicePlaces
 have h1:(1:Int)>0:=by omega
 simp only[h1,if_true,Int.ediv_one]
 split<;>omega
theorem slicePart_ {v:Value} {o:Option Int} {Q:Option Int→Shared→Prop} (p:IsPart v o) (h:Q o s):wpAny (model prog w) A (Builtin.Slice.slicePartIndex v) Q E s:=by
 cases p with
 | none=>exact slicePart_none h
 | int i t=>exact slicePart_int h
theorem sliceApplied_gen {sl:Addr} {vl vu:Value} {lo hi:Option Int} {n:Nat} {Q:Int×Int×Nat→Shared→Prop} (hs:s.heap.IsSliceOf sl vl vu .none) (pl:IsPart vl lo) (pu:IsPart vu hi)
  (h:Q (((sIx n 0 lo:Nat):Int),1,sIx n n hi-sIx n 0 lo) s):wpAny (model prog w) A (Builtin.Slice.sliceApplied (.ref sl) (pure (n:Int))) Q E s:=by
 obtain⟨os,hos,hcs,hds⟩:=id hs
 unfold Builtin.Slice.sliceApplied Builtin.Slice.sliceFields
 refine wpAny_bind (wpAny_bind (wpAny_field hos hds (x:=vl) rfl (wpAny_bind (wpAny_field hos hds (x:=vu) rfl (wpAny_bind (wpAny_field hos hds (x:=.none) rfl (wpAny_pure ?_)))))))
 refine wpAny_bind (slicePart_none ?_)
 show wpAny _ _ (if ((1:Int) == 0)=true then _ else _) _ _ s
 rw[if_neg (by decide)]
 refine wpAny_bind (slicePart_ pl (wpAny_bind (slicePart_ pu (wpAny_bind (wpAny_pure ?_)))))
 show wpAny _ _ (match Builtin.Slice.sliceAdjust lo hi 1 (n:Int) with | (lo,hi)=>pure (lo,(1:Int),Builtin.Slice.slicePlaces lo hi 1)) _ _ s
 rw[adjust_gen lo hi n]
 show wpAny _ _ (pure (((sIx n 0 lo:Nat):Int),(1:Int),Builtin.Slice.slicePlaces ((sIx n 0 lo:Nat):Int) ((sIx n n hi:Nat):Int) 1)) _ _ s
 rw[places_gen]
 exact wpAny_pure h
theorem pick_gen (xs:Array Value) (i k:Nat):((List.range k).filterMap fun (m:Nat)=>xs[((i:Int)+(m:Int)*1).toNat]?).toArray=((xs.toList.drop i).take k).toArray:=by
 have e:(fun (m:Nat)=>xs[((i:Int)+(m:Int)*1).toNat]?)=fun m=>xs[i+m]? :=by
  funext m
  have:((i:Int)+(m:Int)*1).toNat=i+m:=by omega
  rw[this]
 rw[e]
 have:=pick_run xs i k
 rw[List.filterMap_map] at this
 have e2:((fun x=>xs[x]?) ∘ fun x=>i+x)=fun m=>xs[i+m]? :=rfl
 rw[e2] at this
 rw[this]
theorem getItem_tuple_cut {t sl:Addr} {items:Array Value} {vl vu:Value} {lo hi:Option Int} {Q:Value→Shared→Prop} (ht:IsTup s.heap t items) (hs:s.heap.IsSliceOf sl vl vu .none) (pl:IsPart vl lo) (pu:IsPart vu hi)
  (hw:¬(sIx items.size 0 lo=0∧sIx items.size items.size hi=items.size))
  (h:Q (.ref s.heap.objs.size) { s with heap:=s.heap.push { cls:=.type "tuple",data:=.seq ((items.toList.drop (sIx items.size 0 lo)).take (sIx items.size items.size hi-sIx items.size 0 lo)).toArray } })
  (hsz:items.size≤sizeLine):wpAny (model prog w) A (getItem (.ref t) (.ref sl)) Q E s:=by
 have htake:sizeOk (.seq ((items.toList.drop (sIx items.size 0 lo)).take (sIx items.size items.size hi-sIx items.size 0 lo)).toArray):=by
  show ((items.toList.drop (sIx items.size 0 lo)).take (sIx items.size items.size hi-sIx items.size 0 lo)).toArray.size≤sizeLine
  rw[List.size_toArray,List.length_take,List.length_drop,Array.length_toList]
  omega
 have hj:sIx items.size items.size hi≤items.size:=sIx_le _ _ (Nat.le_refl _) hi
 obtain⟨os,hos,hcs,hds⟩:=id hs
 have hTs:s.TypeIs (.ref sl) "slice":=⟨os,hos,hcs⟩
 unfold getItem
 try with_reducible refine wpAny_holding ?_
 first | refine wpAny_bind (wpAny_pure ?_) | skip
 refine wpAny_bind (wpAny_sequenceKey ht.typeIs (by decide) ?_)
 refine wpAny_bind (wpAny_callSpecial?_slot (name:=Str.ofString "__getitem__") ht.typeIs PyProof.Rows.slot_tuple_getitem
  (wpAny_call_entry PyProof.Rows.slot_tuple_getitem ht.typeIs entry_tuple_getitem ?_ (args_tuple_getitem _ _)))
 show wpAny _ _ (Builtin.Tuple.tupleItemsOf (.ref t) >>= _) _ _ s
 refine wpAny_bind (tupleItemsOf_ ht ?_)
 refine wpAny_bind (wpAny_typeOf hTs ?_)
 rw[if_pos (by decide)]
 refine wpAny_bind (sliceApplied_gen hs pl pu ?_)
 have hno:¬((((sIx items.size 0 lo:Nat):Int) == 0 && (1:Int) == 1 && (sIx items.size items.size hi-sIx items.size 0 lo) == items.size)=true):=by
  intro q
  rw[Bool.and_eq_true,Bool.and_eq_true] at q
  have q1:((sIx items.size 0 lo:Nat):Int)=0:=eq_of_beq q.1.1
  have q2:sIx items.size items.size hi-sIx items.size 0 lo=items.size:=eq_of_beq q.2
  exact hw ⟨by omega,by omega⟩
 show wpAny _ _ (if (((sIx items.size 0 lo:Nat):Int) == 0 && (1:Int) == 1 && (sIx items.size items.size hi-sIx items.size 0 lo) == items.size)=true then _ else _) _ _ s
 rw[if_neg hno,pick_gen]
 first
  | exact wpAny_bind (m:=Builtin.Tuple.tupleExact _) (wpAny_newObj_type (wpAny_pure ⟨_,rfl,wpAny_pure h⟩) htake)
  | exact wpAny_bind (m:=Builtin.Tuple.tupleExact _) (wpAny_newObj_type (wpAny_bind (wpAny_pure (wpAny_pure ⟨_,rfl,wpAny_pure h⟩))) htake)
  | exact wpAny_bind (wpAny_bind (m:=Builtin.Tuple.tupleExact _) (wpAny_newObj_type (wpAny_pure (wpAny_pure ⟨_,rfl,wpAny_pure h⟩)) htake))
  | exact wpAny_bind (wpAny_bind (m:=Builtin.Tuple.tupleExact _) (wpAny_newObj_type (wpAny_pure ⟨_,rfl,wpAny_pure h⟩) htake))
end
end HT
namespace L2
open PySem PySem.Spec PyProof.Rows
abbrev TO:=St→Hp→(Option Int→Hp→Prop)→Prop
def PO (X:Cx) (e:Option Expr) (t:TO):Prop:=
 ∀(pins:List (Addr×Obj)) (s:Shared) (σ:St) (H:Hp) (Q:Option Int→Hp→Prop),Inv X pins σ H s→t σ H Q→
  wpAny (model X.prog X.w) X.A (evalPart e X.env) (fun u s'=>∃o H',Inv X pins σ H' s'∧IsPart u o∧Q o H') X.xe s
def tNoPart:TO:=fun _ H Q=>Q none H
def tPart (t:TE):TO:=fun σ H Q=>t σ H fun x H1=>∃i,x= .int i∧Q (some i) H1
section
variable {X:Cx} {e:Expr} {te:TE} {lo hi:Option Expr} {tl th:TO} {pos p2:Pos}
theorem po_none:PO X none tNoPart:=by
 intro pins s σ H Q I h
 rw[evalPart_none]
 exact wpAny_pure ⟨none,H,I,.none,h⟩
theorem po_some (h:PE X e te):PO X (some e) (tPart te):=by
 intro pins s σ H Q I hw
 rw[evalPart_some]
 refine thn (h pins s σ H _ I hw) fun u s1 ⟨x,H1,I1,r1,q1⟩=>?_
 obtain⟨i,rfl,q⟩:=q1
 obtain⟨t,rfl⟩:=r1
 exact⟨some i,H1,I1,.int i t,q⟩
def SlR (X:Cx) (r:V→Option Int→Option Int→Hp→VK→Prop):Prop:=
 ∀(pins:List (Addr×Obj)) (s:Shared) (σ:St) (H:Hp) (x:V) (v vl vu:Value) (lo hi:Option Int) (sl:Addr) (Q:VK),Inv X pins σ H s→RelV x v→s.heap.IsSliceOf sl vl vu .none→IsPart vl lo→IsPart vu hi→r x lo hi H Q→
  ∃T id,typeLookup (.type T) "__getitem__"=pure (some (.builtin id))∧s.TypeIs v T∧wpAny (model X.prog X.w) X.A (getItem v (.ref sl)) (EP X pins σ Q) X.xe s
def tSl (r:V→Option Int→Option Int→Hp→VK→Prop) (te:TE) (tl th:TO):TE:=fun σ H Q=>te σ H fun x H1=>tl σ H1 fun l H2=>th σ H2 fun u H3=>r x l u H3 Q
theorem pe_slice {r:V→Option Int→Option Int→Hp→VK→Prop} (hr:SlR X r) (he:PE X e te) (hl:PO X lo tl) (hu:PO X hi th):PE X (.Subscript e (.Slice lo hi none p2) pos) (tSl r te tl th):=by
 intro pins s σ H Q I h
 refine Subscript_ (thn (he pins s σ H _ I h) fun v s1 ⟨x,H1,I1,r1,q1⟩=>?_)
 refine wpAny_Slice (thn (hl pins s1 σ H1 _ I1 q1) fun vl s2 ⟨l,H2,I2,pl,q2⟩=>thn (hu pins s2 σ H2 _ I2 q2) fun vu s3 ⟨u,H3,I3,pu,q3⟩=>?_)
 rw[evalPart_none]
 refine wpAny_pure ?_
 have I4:Inv X pins σ H3 { s3 with heap:=s3.heap.push { cls:=.type "slice",data:=.fields #[vl,vu,.none] } }:=I3.kept (t':=s3.toks) fun b ob q=>Heap.get?_push_of_some _ q
 obtain⟨T,id,hT,ht,hg⟩:=hr pins { s3 with heap:=s3.heap.push { cls:=.type "slice",data:=.fields #[vl,vu,.none] } } σ H3 x v vl vu l u s3.heap.objs.size Q I4 r1 (Heap.IsSliceOf.new ..) pl pu q3
 show wpAny (model X.prog X.w) X.A (subscriptTail e (.Slice lo hi none p2) v (.ref s3.heap.objs.size)) (EP X pins σ Q) X.xe { s3 with heap:=s3.heap.push { cls:=.type "slice",data:=.fields #[vl,vu,.none] } }
 exact tail_any (ops:=[.ref s3.heap.objs.size,v]) ht hT hg (by with_unfolding_all rfl)
def cutV (xs:List V) (lo hi:Option Int):List V:=(xs.drop (HT.sIx xs.length 0 lo)).take (HT.sIx xs.length xs.length hi-HT.sIx xs.length 0 lo)
theorem cutV_length (xs:List V) (lo hi:Option Int):(cutV xs lo hi).length≤xs.length:=by
 unfold cutV
 rw[List.length_take,List.length_drop]
 omega
def rSlT (K:PySem.W.Frag):V→Option Int→Option Int→Hp→VK→Prop:=fun x lo hi H Q=>∃a xs,x= .ref a∧SqT K H a xs∧
 ¬(HT.sIx xs.length 0 lo=0∧HT.sIx xs.length xs.length hi=xs.length)∧∀p,H p=none→Q (.ref p) (upd H p (.tup (cutV xs lo hi)))
theorem sl_tup:SlR X (rSlT X.K):=by
 intro pins s σ H x v vl vu lo hi sl Q I rx hs pl pu h
 obtain⟨a,xs,rfl,hx,hw,q⟩:=h
 cases rx
 obtain⟨its,r,ht,hz⟩:=I.tuple hx
 have hlen:its.toArray.size=xs.length:=by rw[List.size_toArray];exact r.length.symm
 refine⟨"tuple",_,PyProof.Rows.slot_tuple_getitem.lookup,ht.typeIs,?_⟩
 refine HT.getItem_tuple_cut ht hs pl pu (by rw[hlen];exact hw) ?_ (by rw[hlen];exact hz)
 rw[hlen]
 refine⟨.ref s.heap.objs.size,_,I.laid (t':=s.toks) (o:=.tup (cutV xs lo hi)) (fun b ob q=>Heap.get?_push_of_some _ q) (Nat.le_refl _) ?_,rfl,q _ (I.hok.fresh (Nat.le_refl _))⟩
 exact⟨Nat.le_trans (cutV_length xs lo hi) hz,_,(r.drop (HT.sIx xs.length 0 lo)).take (HT.sIx xs.length xs.length hi-HT.sIx xs.length 0 lo),IsTup.new _ _⟩
end
end L2
namespace L2
open PySem PySem.Spec PyProof.Rows
def ixN (n:Nat) (i:Int):Option Nat:=if 0≤i then (if i<n then some i.toNat else none) else if -(n:Int)≤i then some (i+n).toNat else none
def atI {α:Type} (xs:List α) (i:Int):Option α:=(ixN xs.length i).bind fun j=>xs[j]?
theorem ixN_seq {n:Nat} {i:Int} {j:Nat} (h:ixN n i=some j):seqIndex? i n=some j∧j<n∧-(n:Int)≤i∧i<n:=by
 unfold ixN at h
 by_cases h0:0≤i
 ·rw[if_pos h0] at h
  by_cases h1:i<n
  ·rw[if_pos h1] at h
   have e:i.toNat=j:=Option.some.inj h
   exact⟨by rw[seqIndex_of h0 h1,e],by omega,by omega,h1⟩
  ·rw[if_neg h1] at h;cases h
 ·rw[if_neg h0] at h
  by_cases h1 : -(n:Int)≤i
  ·rw[if_pos h1] at h
   have e:(i+n).toNat=j:=Option.some.inj h
   exact⟨by rw[seqIndex_neg (by omega) h1,e],by omega,h1,by omega⟩
  ·rw[if_neg h1] at h;cases h
theorem atI_get {α:Type} {xs:List α} {i:Int} {v:α} (h:atI xs i=some v):∃j,seqIndex? i xs.length=some j∧xs[j]? = some v∧j<xs.length∧-(xs.length:Int)≤i∧i<xs.length:=by
 unfold atI at h
 cases e:ixN xs.length i with
 | none=>rw[e] at h;cases h
 | some j=>
  rw[e] at h
  obtain⟨h1,h2,h3,h4⟩:=ixN_seq e
  exact⟨j,h1,h,h2,h3,h4⟩
theorem atI_nat {α:Type} {xs:List α} {j:Nat} {v:α} (h:xs[j]? = some v):atI xs (j:Int)=some v:=by
 have hj:j<xs.length:=(List.getElem?_eq_some_iff.mp h).1
 have e:ixN xs.length (j:Int)=some j:=by
  unfold ixN
  rw[if_pos (by omega),if_pos (by omega)];simp
 unfold atI;rw[e];exact h
def PlainIx (b:Expr):Prop:=∀o i,subscripted b false o i=operate [o,i] (getItem o i)
def IxR (X:Cx) (r:R2):Prop:=
 ∀(value slice:Expr) (pins:List (Addr×Obj)) (s:Shared) (σ:St) (H:Hp) (x y:V) (v u:Value) (Q:VK),Inv X pins σ H s→RelV x v→RelV y u→r x y H Q→
  subscripted slice false v u=operate [v,u] (getItem v u)→wpAny (model X.prog X.w) X.A (subscriptTail value slice v u) (EP X pins σ Q) X.xe s
def MtR (X:Cx) (id:String) (r:V→List V→Hp→VK→Prop):Prop:=
 ∀(pins:List (Addr×Obj)) (s:Shared) (σ:St) (H:Hp) (x:V) (xs:List V) (v:Value) (us:List Value) (Q:VK),Inv X pins σ H s→RelV x v→Vals xs us→r x xs H Q→
  wpAny (model X.prog X.w) X.A (call (.builtin id) (v::us)) (EP X pins σ Q) X.xe s
section
variable {X:Cx} {a b:Expr} {ta tb:TE} {pos:Pos}
theorem pe_ix {r:R2} (hr:IxR X r) (ha:PE X a ta) (hb:PE X b tb) (hs:PlainIx b):PE X (.Subscript a b pos) (tOp r ta tb):=by
 intro pins s σ H Q I h
 exact Subscript_ (binT ha hb I h fun v u s2 x y H2 I2 rx ry q=>hr a b pins s2 σ H2 x y v u Q I2 rx ry q (hs _ _))
def rIxL (K:PySem.W.Frag):R2:=fun x y H Q=>∃p xs i v,x= .ref p∧y= .int i∧SqL K H p xs∧atI xs i=some v∧Q v H
def rIxT (K:PySem.W.Frag):R2:=fun x y H Q=>∃p xs i v,x= .ref p∧y= .int i∧SqT K H p xs∧atI xs i=some v∧Q v H
def rIxS:R2:=fun x y H Q=>∃z i c,x= .str z∧y= .int i∧z.length≤sizeLine∧atI z.cps.toList i=some c∧Q (.str ⟨#[c]⟩) H
theorem ix_list:IxR X (rIxL X.K):=by
 intro value slice pins s σ H x y v u Q I rx ry h hs
 obtain⟨p,xs,i,z,rfl,rfl,hq,he,q⟩:=h
 cases rx
 obtain⟨t,rfl⟩:=ry
 obtain⟨its,r,pl,hz⟩:=I.list hq
 obtain⟨j,h1,h2,h3,h4,h5⟩:=atI_get he
 obtain⟨w,ew,rw'⟩:=r.get h2
 have hl:=r.length
 have hn:=line63
 have fin:EP X pins σ Q w s:=⟨z,H,I,rw',q⟩
 by_cases h0:0≤i
 ·have hj:i.toNat=j:=by
   rw[seqIndex_of h0 h5] at h1
   exact Option.some.inj h1
  exact item_listR pl.isList h0 (by omega) (by rw[hj];simpa using ew) fin hs
 ·have hj:(i+(its.toArray.size:Int)).toNat=j:=by
   rw[seqIndex_neg (by omega) h4] at h1
   rw[List.size_toArray,←hl]
   exact Option.some.inj h1
  exact subscriptTail_builtinR (x:=w) pl.isList.typeIs slot_list_getitem.lookup
   (wpAny_getItem_list_neg (Q:=fun r s'=>r=w∧EP X pins σ Q r s') pl.isList (by omega) (by rw[List.size_toArray]<;>omega) (by omega) (by rw[hj];simpa using ew) ⟨rfl,fin⟩) hs
theorem ix_tup:IxR X (rIxT X.K):=by
 intro value slice pins s σ H x y v u Q I rx ry h hs
 obtain⟨p,xs,i,z,rfl,rfl,hq,he,q⟩:=h
 cases rx
 obtain⟨t,rfl⟩:=ry
 obtain⟨its,r,pl,hz⟩:=I.tuple hq
 obtain⟨j,h1,h2,h3,h4,h5⟩:=atI_get he
 obtain⟨w,ew,rw'⟩:=r.get h2
 have hl:=r.length
 have hn:=line63
 have fin:EP X pins σ Q w s:=⟨z,H,I,rw',q⟩
 exact subscriptTail_builtinR (x:=w) pl.typeIs slot_tuple_getitem.lookup
  (getItem_tuple (j:=j) (Q:=fun r s'=>r=w∧EP X pins σ Q r s') pl (by omega) (by omega) (by rw[List.size_toArray,←hl];exact h1) (by simpa using ew) ⟨rfl,fin⟩) hs
theorem ix_str:IxR X rIxS:=by
 intro value slice pins s σ H x y v u Q I rx ry h hs
 obtain⟨z,i,c,rfl,rfl,hz,he,q⟩:=h
 obtain⟨t,rfl⟩:=rx
 obtain⟨t',rfl⟩:=ry
 obtain⟨j,h1,h2,h3,h4,h5⟩:=atI_get he
 have hl:z.cps.toList.length=z.length:=by simp[Str.length]
 rw[hl] at h1 h4 h5
 have hn:=line63
 exact tail_any (typeIs_str s z t) slot_str_getitem.lookup (getItem_str (c:=c) (by
  have e1:decide (i < -(2^63:Int))=false:=decide_eq_false (by omega)
  have e2:decide (i≥2^63)=false:=decide_eq_false (by omega)
  rw[e1,e2,Bool.or_false]) (by rw[h1];simpa using h2) ⟨.str ⟨#[c]⟩,H,I.tok _,⟨_,rfl⟩,q⟩) hs
def flatV:V→Bool
 | .non=>true
 | .bl _=>true
 | .int _=>true
 | .str _=>true
 | _=>false
def eqV:V→V→Bool
 | .non,.non=>true
 | .bl a,.bl b=>a == b
 | .bl a,.int b=>(if a then 1 else 0) == b
 | .int a,.bl b=>a == (if b then 1 else 0)
 | .int a,.int b=>a == b
 | .str a,.str b=>a == b
 | _,_=>false
theorem eqAt_V {A:Around} {s:Shared} {y x:V} {u v:Value} (ry:RelV y u) (rx:RelV x v) (fy:flatV y=true) (fx:flatV x=true):SeqAt.EqAt A s u v (eqV y x):=by
 cases y with
 | non=>
  cases ry
  cases x with
  | non=>cases rx;exact SeqAt.EqAt.same _
  | bl b=>cases rx;exact SeqAt.EqAt.none_bool b
  | int b=>obtain⟨t,rfl⟩:=rx;exact SeqAt.EqAt.none_int b t
  | str b=>obtain⟨t,rfl⟩:=rx;exact SeqAt.EqAt.none_str b t
  | _=>exact absurd (show false=true from fx) Bool.false_ne_true
 | bl a=>
  cases ry
  cases x with
  | non=>cases rx;exact SeqAt.EqAt.bool_none a
  | bl b=>cases rx;exact SeqAt.EqAt.bool_bool a b
  | int b=>obtain⟨t,rfl⟩:=rx;exact SeqAt.EqAt.bool_int a b t
  | str b=>obtain⟨t,rfl⟩:=rx;exact SeqAt.EqAt.bool_str a b t
  | _=>exact absurd (show false=true from fx) Bool.false_ne_true
 | int a=>
  obtain⟨t',rfl⟩:=ry
  cases x with
  | non=>cases rx;exact SeqAt.EqAt.int_none a t'
  | bl b=>cases rx;exact SeqAt.EqAt.int_bool a t' b
  | int b=>obtain⟨t,rfl⟩:=rx;exact SeqAt.EqAt.int_int a t' b t
  | str b=>obtain⟨t,rfl⟩:=rx;exact SeqAt.EqAt.int_str a t' b t
  | _=>exact absurd (show false=true from fx) Bool.false_ne_true
 | str a=>
  obtain⟨t',rfl⟩:=ry
  cases x with
  | non=>cases rx;exact SeqAt.EqAt.str_none a t'
  | bl b=>cases rx;exact SeqAt.EqAt.str_bool a t' b
  | int b=>obtain⟨t,rfl⟩:=rx;exact SeqAt.EqAt.str_int a t' b t
  | str b=>obtain⟨t,rfl⟩:=rx;exact SeqAt.EqAt.str_str a t' b t
  | _=>exact absurd (show false=true from fx) Bool.false_ne_true
 | _=>exact absurd (show false=true from fy) Bool.false_ne_true
def eqU (x:V) (u:Value):Bool:=match u with
 | .none=>eqV .non x
 | .bool b=>eqV (.bl b) x
 | .int i _=>eqV (.int i) x
 | .str z _=>eqV (.str z) x
 | _=>false
theorem eqU_of {x y:V} {u:Value} (r:RelV y u) (f:flatV y=true):eqU x u=eqV y x:=by
 cases y with
 | non=>cases r;rfl
 | bl b=>cases r;rfl
 | int i=>obtain⟨t,rfl⟩:=r;rfl
 | str z=>obtain⟨t,rfl⟩:=r;rfl
 | _=>exact absurd (show false=true from f) Bool.false_ne_true
theorem any_eqU {x:V}:∀{xs:List V} {us:List Value},Vals xs us→xs.all flatV=true→us.any (eqU x)=xs.any fun y=>eqV y x
 | _,_,.nil,_=>rfl
 | y::xs,u::us,.cons r t,f=>by
  rw[List.all_cons,Bool.and_eq_true] at f
  rw[List.any_cons,List.any_cons,eqU_of r f.1,any_eqU t f.2]
theorem mem_eqAt {A:Around} {s:Shared} {x:V} {v:Value} (rx:RelV x v) (fx:flatV x=true):∀{xs:List V} {us:List Value},Vals xs us→xs.all flatV=true→∀u∈us,SeqAt.EqAt A s u v (eqU x u)
 | _,_,.nil,_=>fun u hu=>by cases hu
 | y::xs,u::us,.cons r t,f=>fun u' hu=>by
  rw[List.all_cons,Bool.and_eq_true] at f
  rcases List.mem_cons.mp hu with rfl | hu
  ·rw[eqU_of r f.1];exact eqAt_V r rx f.1 fx
  ·exact mem_eqAt rx fx t f.2 u' hu
def inV (x:V) (xs:List V):Bool:=xs.any fun y=>eqV y x
def rIn (K:PySem.W.Frag) (neg:Bool):R2:=fun x y H Q=>∃p xs,y= .ref p∧(SqL K H p xs∨SqT K H p xs)∧flatV x=true∧xs.all flatV=true∧Q (.bl (if neg then !inV x xs else inV x xs)) H
theorem op_in_seq:OpR X (compareOp .In) (rIn X.K false):=by
 intro pins s σ H x y v u Q I rx ry h
 obtain⟨p,xs,rfl,hq,fx,fs,q⟩:=h
 cases ry
 rcases hq with hq | hq
 ·obtain⟨its,r,pl,hz⟩:=I.list hq
  refine SeqAt.in_listAt (eqU x) pl.isList (fun w hw=>mem_eqAt rx fx r fs w (by simpa using hw)) ⟨.bl _,H,I,rfl,?_⟩
  rw[show its.toArray.any (eqU x)=its.any (eqU x) by simp,any_eqU r fs]
  exact q
 ·obtain⟨its,r,pl,hz⟩:=I.tuple hq
  refine SeqAt.in_tupleAt (eqU x) pl (fun w hw=>mem_eqAt rx fx r fs w (by simpa using hw)) ⟨.bl _,H,I,rfl,?_⟩
  rw[show its.toArray.any (eqU x)=its.any (eqU x) by simp,any_eqU r fs]
  exact q
theorem op_notIn_seq:OpR X (compareOp .NotIn) (rIn X.K true):=by
 intro pins s σ H x y v u Q I rx ry h
 obtain⟨p,xs,rfl,hq,fx,fs,q⟩:=h
 cases ry
 rcases hq with hq | hq
 ·obtain⟨its,r,pl,hz⟩:=I.list hq
  refine SeqAt.notIn_listAt (eqU x) pl.isList (fun w hw=>mem_eqAt rx fx r fs w (by simpa using hw)) ⟨.bl _,H,I,rfl,?_⟩
  rw[show its.toArray.any (eqU x)=its.any (eqU x) by simp,any_eqU r fs]
  exact q
 ·obtain⟨its,r,pl,hz⟩:=I.tuple hq
  refine SeqAt.notIn_tupleAt (eqU x) pl (fun w hw=>mem_eqAt rx fx r fs w (by simpa using hw)) ⟨.bl _,H,I,rfl,?_⟩
  rw[show its.toArray.any (eqU x)=its.any (eqU x) by simp,any_eqU r fs]
  exact q
theorem call_len_seq:CallR X (.builtin "len") (fun xs H Q=>∃p ys,xs=[.ref p]∧(SqL X.K H p ys∨SqT X.K H p ys)∧Q (.int ys.length) H):=by
 intro pins s σ H xs us Q I r h
 obtain⟨p,ys,rfl,hq,q⟩:=h
 obtain⟨u,rfl,rx⟩:=vals1 r
 cases rx
 have hn:=line63
 rcases hq with hq | hq
 ·obtain⟨its,r',pl,hz⟩:=I.list hq
  have hlen:=r'.length
  exact Calls.call_len_list pl.isList (by simp only[List.size_toArray]<;>omega) ⟨.int ys.length,H,I.tok _,⟨s.toks+1,by rw[List.size_toArray,hlen]⟩,q⟩
 ·obtain⟨its,r',pl,hz⟩:=I.tuple hq
  have hlen:=r'.length
  exact len_tuple pl (by simp only[List.size_toArray]<;>omega) ⟨.int ys.length,H,I.tok _,⟨s.toks+1,by rw[List.size_toArray,hlen]⟩,q⟩
theorem call_len_str:CallR X (.builtin "len") (fun xs H Q=>∃z,xs=[.str z]∧z.length≤sizeLine∧Q (.int z.length) H):=by
 intro pins s σ H xs us Q I r h
 obtain⟨z,rfl,hz,q⟩:=h
 obtain⟨u,rfl,t,rfl⟩:=vals1 r
 have hn:=line63
 exact len_str (by omega) ⟨.int z.length,H,I.tok _,⟨_,rfl⟩,q⟩
theorem call_list_of:CallR X (.type "list") (fun xs H Q=>∃p ys,xs=[.ref p]∧(SqL X.K H p ys∨SqT X.K H p ys)∧∀l,H l=none→Q (.ref l) (upd H l (.lst ys))):=by
 intro pins s σ H xs us Q I r h
 obtain⟨p,ys,rfl,hq,q⟩:=h
 obtain⟨u,rfl,rx⟩:=vals1 r
 cases rx
 have fin:∀(its:List Value),Vals ys its→ys.length≤sizeLine→∀(h':Heap) (c':Nat),(∀b o',s.heap.get? b=some o'→h'.get? b=some o')→
   h'.get? s.heap.objs.size=some { cls:=.type "list",dict:=none,data:=.seq its.toArray c',slots:=#[] }→EP X pins σ Q (.ref s.heap.objs.size) { s with heap:=h' }:=fun its r' hz h' c' kp e=>
  ⟨.ref s.heap.objs.size,_,I.laid (t':=s.toks) kp (Nat.le_refl _) (show ObjOk X.prog X.w _ h' _ (.lst ys) from⟨hz,its,c',r',e⟩),rfl,q _ (I.hok.fresh (Nat.le_refl _))⟩
 rcases hq with hq | hq
 ·obtain⟨its,r',pl,hz⟩:=I.list hq
  have hlen:=r'.length
  obtain⟨o,ho,hc,n,hd⟩:=pl.isList
  exact call_list_seq p (.inl rfl) ho hc hd (fun h' c' kp e=>fin its r' hz h' c' kp e) (by simp only[List.size_toArray]<;>omega)
 ·obtain⟨its,r',pl,hz⟩:=I.tuple hq
  have hlen:=r'.length
  obtain⟨o,ho,hc,n,hd⟩:=pl
  exact call_list_seq p (.inr rfl) ho hc hd (fun h' c' kp e=>fin its r' hz h' c' kp e) (by simp only[List.size_toArray]<;>omega)
def tyV (K:PySem.W.Frag) (T:String) (x:V) (H:Hp):Prop:=match x with
 | .str _=>T="str"
 | .int _=>T="int"
 | .ref p=>(T="list"∧∃xs,SqL K H p xs)∨(T="tuple"∧∃o,K.lookup p=some o∧o.cls= .type "tuple"∧o.dict=none)∨
   (T="dict"∧((∃kvs,H p=some (.dK kvs))∨∃kvs,H p=some (.dT kvs)))∨(T="set"∧∃S n,H p=some (.set S n))
 | _=>False
theorem tyV_is {pins:List (Addr×Obj)} {σ:St} {H:Hp} {s:Shared} {T:String} {x:V} {v:Value} (I:Inv X pins σ H s) (r:RelV x v) (ty:tyV X.K T x H) :
  s.TypeIs v T∧∀a,v= .ref a→∃ob,s.heap.get? a=some ob∧ob.dict=none:=by
 cases x with
 | str z=>
  obtain⟨t,rfl⟩:=r
  cases (show T="str" from ty)
  exact⟨typeIs_str s z t,fun _ e=>nomatch e⟩
 | int i=>
  obtain⟨t,rfl⟩:=r
  cases (show T="int" from ty)
  exact⟨typeIs_int s i t,fun _ e=>nomatch e⟩
 | ref p=>
  cases r
  rcases ty with⟨rfl,xs,hq⟩|⟨rfl,o,hk,hc,hd⟩|⟨rfl,hk⟩|⟨rfl,S,n,hk⟩
  ·obtain⟨its,_,pl,_⟩:=I.list hq
   refine⟨pl.isList.typeIs,fun a e=>?_⟩
   cases e
   obtain⟨o,n,e,c,hd,_⟩:=pl
   exact⟨o,e,hd⟩
  ·refine⟨⟨o,I.kIn p o hk,hc⟩,fun a e=>?_⟩
   cases e
   exact⟨o,I.kIn _ o hk,hd⟩
  ·have z:∃o,s.heap.get? p=some o∧o.ExactDict:=by
    rcases hk with⟨kvs,hk⟩|⟨kvs,hk⟩
    ·obtain⟨_,_,_,_,o,_,_,e,ex,_⟩:=I.hok p _ hk
     exact⟨o,e,ex⟩
    ·obtain⟨_,_,_,_,o,_,_,e,ex,_⟩:=I.hok p _ hk
     exact⟨o,e,ex⟩
   obtain⟨o,e,ex⟩:=z
   refine⟨⟨o,e,ex.1⟩,fun a e2=>?_⟩
   cases e2
   exact⟨o,e,ex.2.1⟩
  ·obtain⟨o,_,_,_,e,ex,_⟩:=I.hok p _ hk
   refine⟨⟨o,e,ex.1⟩,fun a e2=>?_⟩
   cases e2
   exact⟨o,e,ex.2.1⟩
 | _=>exact False.elim ty
def tBM0 (K:PySem.W.Frag) (T:String) (r:V→List V→Hp→VK→Prop) (to:TE):TE:=fun σ H Q=>to σ H fun x H1=>tyV K T x H1∧r x [] H1 Q
def tBM (K:PySem.W.Frag) (T:String) (r:V→List V→Hp→VK→Prop) (to:TE) (t:TA):TE:=fun σ H Q=>to σ H fun x H1=>tyV K T x H1∧t σ H1 fun xs H2=>r x xs H2 Q
variable {o e:Expr} {es:List Expr} {to:TE} {t:TA} {name:Str} {apos cpos:Pos} {T id:String} {r:V→List V→Hp→VK→Prop}
theorem pe_bm0 (pa:PlainAttrs T) (slot:Slot T name id) (hty:typeOf (.builtin id)=pure (.type "method_descriptor")) (hm:MtR X id r) (ho:PE X o to)
  (hbase:attributeBase o name X.env (eval o X.env)=eval o X.env:=by rfl) (hline:(apos.endLine == cpos.line)=true:=by rfl):PE X (.Call (.Attribute o name apos) [] [] cpos) (tBM0 X.K T r to):=by
 intro pins s σ H Q I h
 refine wpAny_Call_method0_late hbase hline (thn (ho pins s σ H _ I h) fun v s1 ⟨x,H1,I1,r1,ty,q1⟩=>?_)
 obtain⟨h1,h2⟩:=tyV_is I1 r1 ty
 exact⟨T,id,pa,slot,hty,h1,h2,Calls.callWith_builtin rfl (PySem.evalArgs_none (hm pins s1 σ H1 x [] v [] Q I1 r1 .nil q1))⟩
theorem pe_bm (pa:PlainAttrs T) (slot:Slot T name id) (hty:typeOf (.builtin id)=pure (.type "method_descriptor")) (hm:MtR X id r) (ho:PE X o to) (ha:PA X (e::es) t)
  (hbase:attributeBase o name X.env (eval o X.env)=eval o X.env:=by rfl)
  (hfew:((backTo cpos (starEach (e::es) X.env)).all (fun x=>!x.1) && (backToKw cpos (keywordEach [] X.env)).all (fun x=>x.1.isSome)
   && decide ((e::es).length+([]:List Keyword).length+(if ([]:List Keyword).isEmpty then 0 else 1)<30))=true:=by rfl)
  (hline:(apos.endLine == cpos.line)=true:=by rfl) (hs:starEach (e::es) X.env=(false,eval e X.env)::starEach es X.env:=by rfl) (hplain:(backTo cpos (starEach es X.env)).any (·.1)=false:=by rfl) :
  PE X (.Call (.Attribute o name apos) (e::es) [] cpos) (tBM X.K T r to t):=by
 intro pins s σ H Q I h
 refine wpAny_Call_method_late hbase hfew hline rfl (thn (ho pins s σ H _ I h) fun v s1 ⟨x,H1,I1,r1,ty,q1⟩=>?_)
 obtain⟨h1,h2⟩:=tyV_is I1 r1 ty
 refine⟨T,id,pa,slot,hty,h1,h2,?_⟩
 have hA:=ha cpos pins s1 σ H1 _ I1 q1
 rw[hs] at hA ⊢
 refine Calls.callWith_builtin (by show (false || (backTo cpos (starEach es X.env)).any (·.1))=false;rw[hplain]<;>rfl) (Calls.evalArgs_plain ?_)
 exact thn hA fun us s2 ⟨vs,H2,I2,r2,q2⟩=>hm pins s2 σ H2 x vs v us Q I2 r1 r2 q2
end
end L2
namespace L2
open PySem PySem.Spec PyProof.Rows
def MtM (X:Cx) (id:String) (r:V→List V→Hp→VK→Prop):Prop:=
 ∀(pins:List (Addr×Obj)) (s:Shared) (σ:St) (H:Hp) (x:V) (xs:List V) (v:Value) (us:List Value) (Q:VK),Inv X pins σ H s→RelV x v→Vals xs us→r x xs H Q→
  wpAny (model X.prog X.w) X.A (call (.builtin id) (v::us)) (EP X pins σ Q) X.xe s
theorem Vals.one:∀{x:V} {us:List Value},Vals [x] us→∃u,us=[u]∧RelV x u
 | _,_,.cons r .nil=>⟨_,rfl,r⟩
theorem Vals.zero:∀{us:List Value},Vals [] us→us=[]
 | _,.nil=>rfl
theorem Vals.dropLast {xs:List V} {us:List Value} (h:Vals xs us):Vals xs.dropLast us.dropLast:=by
 induction h with
 | nil=>exact .nil
 | cons r t ih=>
  cases t with
  | nil=>exact .nil
  | cons q t'=>exact .cons r ih
theorem Vals.reverse {xs:List V} {us:List Value} (h:Vals xs us):Vals xs.reverse us.reverse:=by
 induction h with
 | nil=>exact .nil
 | cons r t ih=>rw[List.reverse_cons,List.reverse_cons];exact Vals.append ih (.cons r .nil)
theorem Vals.rep {xs:List V} {us:List Value} (h:Vals xs us):∀k:Nat,Vals (List.replicate k xs).flatten (List.replicate k us).flatten
 | 0=>.nil
 | k+1=>by
  rw[List.replicate_succ,List.replicate_succ,List.flatten_cons,List.flatten_cons]
  exact Vals.append h (Vals.rep h k)
theorem erase_last {α:Type} (l:List α):l.eraseIdx (l.length-1)=l.dropLast:=by
 induction l with
 | nil=>rfl
 | cons a r ih=>
  cases r with
  | nil=>rfl
  | cons b r=>
   have e:(a::b::r).length-1=((b::r).length-1)+1:=by
    have h1:(a::b::r).length=r.length+2:=rfl
    have h2:(b::r).length=r.length+1:=rfl
    omega
   rw[e,List.eraseIdx_cons_succ,ih]
   all_goals rfl
theorem foldl_rep (its:List Value):∀(k:Nat) (acc:List Value),
  List.foldl (fun x1 x2=>x1++x2) acc.toArray (List.replicate k its.toArray)=(acc++(List.replicate k its).flatten).toArray
 | 0,acc=>by simp
 | k+1,acc=>by
  have e:acc.toArray++its.toArray=(acc++its).toArray:=by simp
  have e2:(acc++its)++(List.replicate k its).flatten=acc++(List.replicate (k+1) its).flatten:=by
   rw[List.replicate_succ,List.flatten_cons,List.append_assoc]
  rw[←e2,←foldl_rep its k (acc++its),←e,List.replicate_succ,List.foldl_cons]
section
variable {X:Cx} {pins:List (Addr×Obj)} {σ:St} {H:Hp} {s:Shared} {l b:Addr} {xs ys zs:List V}
theorem Inv.lset {its its':List Value} {n:Nat} {f:Array Value→Array Value} {t':Nat} (I:Inv X pins σ H s) (hH:H l=some (.lst xs))
  (e:s.heap.get? l=some { cls:=.type "list",data:=.seq its.toArray n }) (hf:f its.toArray=its'.toArray) (hv:Vals ys its') (hz:ys.length≤sizeLine) :
  Inv X pins σ (upd H l (.lst ys)) { s with heap:=s.heap.update l (Obj.mapSeq f),toks:=t' }:=by
 have q:=PySem.IsL.update e f
 rw[hf] at q
 refine I.write (x:=l) (e:=l) (by rw[hH];exact trivial) (.inl rfl) (fun b' u hb hu=>(Heap.get?_update_other s.heap (Obj.mapSeq f) (Ne.symm hb)).trans hu) ⟨_,q⟩ ?_
 exact⟨hz,its',_,hv,q⟩
theorem Inv.lnew {its:List Value} {t':Nat} (I:Inv X pins σ H s) (hv:Vals ys its) (hz:ys.length≤sizeLine) :
  Inv X pins σ (upd H s.heap.objs.size (.lst ys)) { s with heap:=s.heap.push { cls:=.type "list",data:=.seq its.toArray },toks:=t' }:=
 I.laid (fun _ _ q=>Heap.get?_push_of_some _ q) (Nat.le_refl _) ⟨hz,its,0,hv,Heap.get?_push_size _ rfl⟩
theorem Inv.fresh (I:Inv X pins σ H s):H s.heap.objs.size=none:=I.hok.fresh (Nat.le_refl _)
theorem Inv.lstM (I:Inv X pins σ H s) (hH:H l=some (.lst xs)):xs.length≤sizeLine∧∃(its:List Value) (n:Nat),Vals xs its∧xs.length=its.length∧s.heap.get? l=some { cls:=.type "list",data:=.seq its.toArray n }:=by
 obtain⟨z,its,n,r,e⟩:=I.hok l _ hH
 exact⟨z,its,n,r,r.length,e⟩
theorem notLongL {n:Nat} (h:n≤sizeLine):Builtin.List.listTooLong n=false:=by
 unfold Builtin.List.listTooLong
 exact decide_eq_false (by omega)
end
section
variable {X:Cx}
def rAppend:V→List V→Hp→VK→Prop:=fun x vs H Q=>∃l xs y,x= .ref l∧vs=[y]∧H l=some (.lst xs)∧xs.length<sizeLine∧Q .non (upd H l (.lst (xs++[y])))
theorem mt_append:MtM X "list.append" rAppend:=by
 intro pins s σ H x vs v us Q I rx rv h
 obtain⟨l,xs,y,rfl,rfl,hH,hz,q⟩:=h
 cases rx
 obtain⟨u,rfl,ru⟩:=rv.one
 obtain⟨z,its,n,r,hl,e⟩:=I.lstM hH
 refine call_meets F.slot_list_append ⟨_,e,rfl⟩ F.entry_list_append (F.args_list_append_2 _ _) (PySem.list_append l its.toArray n u (by rw[List.size_toArray];omega)) ⟨e,?_⟩
 refine⟨.non,_,I.lset (its':=its++[u]) hH e (by simp) (r.append (.cons ru .nil)) ?_,rfl,q⟩
 rw[List.length_append,List.length_singleton]
 omega
def rExtend:V→List V→Hp→VK→Prop:=fun x vs H Q=>∃l b xs zs,x= .ref l∧vs=[.ref b]∧H l=some (.lst xs)∧H b=some (.lst zs)∧xs.length+zs.length≤sizeLine∧Q .non (upd H l (.lst (xs++zs)))
theorem mt_extend:MtM X "list.extend" rExtend:=by
 intro pins s σ H x vs v us Q I rx rv h
 obtain⟨l,b,xs,zs,rfl,rfl,hH,hB,hz,q⟩:=h
 cases rx
 obtain⟨u,rfl,ru⟩:=rv.one
 cases ru
 obtain⟨z,its,n,r,hl,e⟩:=I.lstM hH
 obtain⟨z2,its2,n2,r2,hl2,e2⟩:=I.lstM hB
 have hsz:its.toArray.size+its2.toArray.size≤sizeLine:=by rw[List.size_toArray,List.size_toArray];omega
 have hlong:¬(!its.toArray.isEmpty && Builtin.List.listTooLong (its.toArray.size+its2.toArray.size))=true:=by
  rw[notLongL hsz,Bool.and_false]
  exact Bool.false_ne_true
 refine call_meets F.slot_list_extend ⟨_,e,rfl⟩ F.entry_list_extend (F.args_list_extend_2 _ _)
  (AutoSeq1.list_extend_list_list_0 l its.toArray n b its2.toArray n2 hlong (by rw[List.size_toArray];omega) (by omega)) ⟨e,e2,?_⟩
 refine⟨.non,_,I.lset (its':=its++its2) hH e (by simp) (r.append r2) ?_,rfl,q⟩
 rw[List.length_append]
 omega
def rPop:V→List V→Hp→VK→Prop:=fun x vs H Q=>∃l xs y,x= .ref l∧vs=[]∧H l=some (.lst xs)∧xs[xs.length-1]? = some y∧Q y (upd H l (.lst xs.dropLast))
theorem mt_pop:MtM X "list.pop" rPop:=by
 intro pins s σ H x vs v us Q I rx rv h
 obtain⟨l,xs,y,rfl,rfl,hH,hy,q⟩:=h
 cases rx
 have hus:=rv.zero
 subst hus
 obtain⟨z,its,n,r,hl,e⟩:=I.lstM hH
 obtain⟨u,hu,ru⟩:=r.get hy
 have hy':its.toArray[its.toArray.size-1]? = some u:=by
  show its.toArray[its.length-1]? = some u
  rw[←Array.getElem?_toList,←hl]
  exact hu
 refine call_meets F.slot_list_pop ⟨_,e,rfl⟩ F.entry_list_pop (F.args_list_pop_1 _) (MeetsSeq.list_pop_last l its.toArray n u hy' (by rw[List.size_toArray];omega)) ⟨e,?_⟩
 refine⟨y,_,I.lset (its':=its.dropLast) hH e ?_ r.dropLast ?_,ru,q⟩
 ·show its.toArray.eraseIdxIfInBounds (its.toArray.size-1)=its.dropLast.toArray
  rw[List.size_toArray,List.eraseIdxIfInBounds_toArray,erase_last]
 ·rw[List.length_dropLast]
  omega
def rReverse:V→List V→Hp→VK→Prop:=fun x vs H Q=>∃l xs,x= .ref l∧vs=[]∧H l=some (.lst xs)∧Q .non (upd H l (.lst xs.reverse))
theorem mt_reverse:MtM X "list.reverse" rReverse:=by
 intro pins s σ H x vs v us Q I rx rv h
 obtain⟨l,xs,rfl,rfl,hH,q⟩:=h
 cases rx
 have hus:=rv.zero
 subst hus
 obtain⟨z,its,n,r,hl,e⟩:=I.lstM hH
 refine call_meets F.slot_list_reverse ⟨_,e,rfl⟩ F.entry_list_reverse (F.args_list_reverse_1 _) (AutoSeq1.list_reverse_list_0 l its.toArray n (by rw[List.size_toArray];omega)) ⟨e,?_⟩
 refine⟨.non,_,I.lset (its':=its.reverse) hH e (by simp) r.reverse ?_,rfl,q⟩
 rw[List.length_reverse]
 omega
def rCat:R2:=fun x y H Q=>∃l b xs zs,x= .ref l∧y= .ref b∧H l=some (.lst xs)∧H b=some (.lst zs)∧xs.length+zs.length≤sizeLine∧∀p,H p=none→Q (.ref p) (upd H p (.lst (xs++zs)))
theorem op_cat:OpR X (binaryOp .Add) rCat:=by
 intro pins s σ H x y v u Q I rx ry h
 obtain⟨l,b,xs,zs,rfl,rfl,hH,hB,hz,q⟩:=h
 cases rx
 cases ry
 obtain⟨z,its,n,r,hl,e⟩:=I.lstM hH
 obtain⟨z2,its2,n2,r2,hl2,e2⟩:=I.lstM hB
 refine PySem.P.add_list e e2 ?_ (by rw[List.size_toArray,List.size_toArray];omega)
 have ea:its.toArray++its2.toArray=(its++its2).toArray:=by simp
 rw[ea]
 exact⟨.ref _,_,I.lnew (t':=s.toks) (r.append r2) (by rw[List.length_append];omega),rfl,q _ I.fresh⟩
def rRep:R2:=fun x y H Q=>∃l k xs,x= .ref l∧y= .int k∧H l=some (.lst xs)∧-(2^63)≤k∧k<2^63∧xs.length*k.toNat≤sizeLine∧
 ∀p,H p=none→Q (.ref p) (upd H p (.lst (List.replicate k.toNat xs).flatten))
theorem len_rep {α:Type} (xs:List α) (k:Nat):(List.replicate k xs).flatten.length=k*xs.length:=by
 induction k with
 | zero=>simp
 | succ k ih=>rw[List.replicate_succ,List.flatten_cons,List.length_append,ih,Nat.succ_mul,Nat.add_comm]
theorem op_rep:OpR X (binaryOp .Mult) rRep:=by
 intro pins s σ H x y v u Q I rx ry h
 obtain⟨l,k,xs,rfl,rfl,hH,h1,h2,hz,q⟩:=h
 cases rx
 obtain⟨t,rfl⟩:=ry
 obtain⟨z,its,n,r,hl,e⟩:=I.lstM hH
 have hlen:its.toArray.size*k.toNat≤sizeLine:=by rw[List.size_toArray,←hl];exact hz
 have hcap:¬its.toArray.size*k.toNat>(2^63-1) / 8:=by
  have:(sizeLine:Nat)≤(2^63-1) / 8:=by decide
  omega
 have hfit:¬(!Builtin.List.listFitsIndex k)=true:=by
  rw[fitsIndex_both h1 h2]
  exact Bool.false_ne_true
 have hlong:¬Builtin.List.listTooLong (its.toArray.size*k.toNat)=true:=by
  rw[notLongL hlen]
  exact Bool.false_ne_true
 have hnew:List.foldl (fun x1 x2=>x1++x2) #[] (List.replicate (if its.toArray.isEmpty=true then 0 else k.toNat) its.toArray)=(List.replicate k.toNat its).flatten.toArray:=by
  have f0:∀m:Nat,List.foldl (fun x1 x2=>x1++x2) #[] (List.replicate m its.toArray)=(List.replicate m its).flatten.toArray:=fun m=>by
   have:=foldl_rep its m []
   rw[List.nil_append] at this
   exact this
  rw[f0]
  cases its with
  | nil=>simp
  | cons a r'=>rw[if_neg (by simp)]
 refine wpAny_binaryOp_repeat_ref (T:="list") (U:="int") (by decide) ⟨_,e,rfl⟩ (fun s'=>typeIs_int s' k t) noFill_list_mul F.fills_int_mul F.slot_int_rmul repeat_list F.slot_int_index.lookup
  (call_meets F.slot_int_rmul (typeIs_int s k t) F.entry_int_rmul (F.args_int_rmul_2 _ _) (int___rmul___int_list k t l its.toArray n)
   ⟨e,rfl,⟨_,e,rfl⟩,call_meets F.slot_list_mul ⟨_,e,rfl⟩ F.entry_list_mul (F.args_list_mul_2 _ _) (AutoListH.list___mul___list_int_3 l its.toArray n k t hfit hcap hlong) ⟨e,?_⟩⟩)
 rw[hnew]
 exact⟨.ref _,_,I.lnew (t':=s.toks) (r.rep k.toNat) (by rw[len_rep,Nat.mul_comm];exact hz),rfl,q _ I.fresh⟩
end
section
variable {prog:Program} {w:World} {A:Around} {E:Value→Shared→Prop} {s:Shared}
end
section
variable {X:Cx}
end
end L2
namespace Att
open PySem PySem.W PySem.Calls PyProof.Rows
theorem ints_of_wellAll {P:Params} {h:Heap}:∀(ns:List Int) (vs:List Value),WellAll P h vs (ns.map WData.int)→IntsAre vs ns:=by
 intro ns
 induction ns with
 | nil=>
  intro vs w
  rw[List.map_nil] at w
  cases w
  exact .nil
 | cons n ns ih=>
  intro vs w
  rw[List.map_cons] at w
  cases w with
  | cons a b=>
   cases a
   exact .cons _ _ (ih _ b)
theorem script_of {l:OpenLaw} {n:Nat} (hn:l.most=some n) {P:Params} {h:Heap} {args:List WData} {vals:List Value}
  (hpre:l.row.toRowW.claim.pre args=true) (hwl:WellAll P h vals args) :
  ∃a vs ns,vals=[Value.ref a]∧args=[WData.list (ns.map WData.int)]∧h.get? a=some { cls:=.type "list",data:=.seq vs.toArray }∧IntsAre vs ns∧ns.length≤n:=by
 have hsh:WShape.hasAll [] args [.list .int]=true:=(pre_splitW hpre).1
 have hc:l.pre.holds [] { args:=args }=true:=(pre_splitW hpre).2
 obtain⟨d,r,rfl,h1,h2⟩:=hasAllW_cons hsh
 obtain rfl:=hasAllW_nil h2
 obtain⟨xs,rfl,h3⟩:=hasW_list h1
 obtain⟨ns,rfl⟩:=items_int h3
 have hlen:ns.length≤n:=by
  unfold OpenLaw.pre at hc
  have h4:(WTm.not (.lt (.lit (.int (n:Int))) (.len (.arg 0)))).holds [] { args:=[.list (ns.map .int)] }=true:=by
   have h4:=(holds_andW hc).1
   rw[hn] at h4
   exact h4
  have h5:=condW_of h4 (w_not (w_lt w_lit (w_len_list (w_arg rfl))))
  rw[List.length_map] at h5
  refine Nat.le_of_not_lt fun q=>?_
  have q':(n:Int)<((ns.length:Nat):Int):=by omega
  first
   | (rw[decide_eq_true q'] at h5;exact absurd h5 (by decide))
   | (simp at h5;omega)
 cases hwl with
 | cons w1 w2=>
  cases w2
  cases w1 with
  | list ho hall=>exact⟨_,_,ns,rfl,rfl,ho,ints_of_wellAll ns _ hall,hlen⟩
theorem post_true (l:OpenLaw) (args:List WData):l.row.toRowW.claim.post args (.bool true) args=true:=
 postW_of (r:=l.row.toRowW) (X:=(true == true))
  (show WShape.has [] (.bool true) .bool=true by first | rfl | decide | simp[WShape.has,WShape.arms,WShape.armsAll])
  (show (WTm.eq .res (.lit (.bool true))).value [] { args:=args,res:=some (.bool true),after:=args }=some (.bool (true == true)) from w_eq_bool (w_res rfl) w_lit) rfl
theorem attach_call {l:OpenLaw} {n:Nat} {q:Program} {loose:List Str} {XP:(Str→Option Value)→Heap→Prop} {YP:World→Heap→Prop} {d:DefRec}
  (hn:l.most=some n) (hdf:d.params.defaults=[])
  (call:∀(w:World) (s₀ s₁:Shared) (mg mb:Str→Option Value) (fa:Addr) (o:Obj) (pm cd doc:Value) (a:Addr) (vs:List Value) (ns:List Int),
   Ground q loose [] XP w s₀ mg mb s₁.heap→YP w s₁.heap→
   s₁.heap.get? fa=some o→o.data= .func (docDef d.name d.params d.body d.scope pm cd doc)→s₁.heap.CodeRec cd d.name→mg d.name=some (.ref fa)→
   s₁.heap.get? a=some { cls:=.type "list",data:=.seq vs.toArray }→IntsAre vs ns→ns.length≤n→s₁.gens = #[]→
   codeAny (model l.prog w) callerA (.call (.ref fa) ⟨[.ref a],[]⟩) (fun r s'=>r= .ok (.ret (.bool true))∧OldK s₁.heap s'.heap∧s'.os=s₁.os∧AllBare s'.gens) s₁) :
  WalkO q loose XP YP l.row.toRowW d [] (fun f vs=>PySem.call f vs):=by
 intro w s₀ s₁ mg mb G Y fa o pm cd doc dV kV ho hd hcd hD hmg hg args vals as hpre hlay hrd hwl hlo
 obtain rfl:dV= .none:=Dflts.none hD hdf
 obtain rfl:kV= .none:=Dflts.noKw hD
 obtain⟨a,vs,ns,rfl,rfl,hobj,hints,hlen⟩:=script_of hn hpre hwl
 refine enter_call (codeAny_mono (call w s₀ s₁ mg mb fa o pm cd doc a vs ns G Y ho (fd_plain hd) hcd hmg hobj hints hlen hg) fun r s' hq=>?_)
 obtain⟨rfl,h2,h3,h4⟩:=hq
 exact⟨.inl ⟨.bool true,.bool true,[],rfl,fun _=>rfl,.bool true,post_true l _,fun _=>⟨List.Pairwise.nil,fun _ hm=>(nomatch hm)⟩⟩,h2,h3,h4⟩
section
variable {prog:Program} {w:World} {A:Around} {E:Value→Shared→Prop} {s:Shared} {K:Frag}
end
end Att
namespace L2
open PySem PySem.Spec PyProof.Rows
theorem vals_ints:∀{vs:List Value} {ns:List Int},IntsAre vs ns→Vals (ns.map V.int) vs
 | _,_,.nil=>.nil
 | _,_,.cons n t h=>.cons ⟨t,rfl⟩ (vals_ints h)
def Only (H:Hp):Prop:=∀b,H b=none∨∃o xs,H b=some (.frz o (.lst xs))
theorem law_call {P:Program} {w:World} {K:PySem.W.Frag} {mg mb:Str→Option Value} {CX:CXT} {k:Nat} {fa a:Addr} {fd:FuncData} {x:Str} {sp:Sp} {s₁:Shared} {vs:List Value} {ns:List Int}
  (KX:K.In s₁.heap) (hns:s₁.heap.Ns mainGlobals mg) (hb:s₁.heap.Ns builtinsNs mb) (hbb:∀x:Str,x≠"__name__"→mb x=bootBuiltins x) (hlim:s₁.heap.NoLimit) (hg:s₁.gens = #[])
  (ha:s₁.heap.get? a=some { cls:=.type "list",data:=.seq vs.toArray }) (hi:IntsAre vs ns) (hl:ns.length≤sizeLine) (hr:Room k callerA)
  (F:∀base:Heap,K.In base→base.Ns mainGlobals mg→FnOk P w K mg base CX k fa fd [x] sp) (hbind:∀(s:Shared) (u:Value),BindsTo s fd ⟨[u],[]⟩ [(x,u)])
  (hsp:∀H:Hp,Only H→SqL K H a (ns.map V.int)→sp [.ref a] H (fun v _=>v= .bl true) fun _ _ _=>False)
  (hCX:∀H e s',CX [] H s₁ (fun _ _ _=>False) e s'→False) :
  codeAny (model P w) callerA (.call (.ref fa) ⟨[.ref a],[]⟩) (fun r s'=>r= .ok (.ret (.bool true))∧OldK s₁.heap s'.heap∧s'.os=s₁.os∧AllBare s'.gens) s₁:=by
 have rv:=vals_ints hi
 have lenV:=hi.length
 have core:∀H:Hp,Only H→SqL K H a (ns.map V.int)→HOk P w H s₁.heap→(∀b,H b≠none→b=a)→(H a≠none→K.lookup a=none)→
   codeAny (model P w) callerA (.call (.ref fa) ⟨[.ref a],[]⟩) (fun r s'=>r= .ok (.ret (.bool true))∧OldK s₁.heap s'.heap∧s'.os=s₁.os∧AllBare s'.gens) s₁:=by
  intro H hO hS hok hA hK
  have base_of:∀{b:Addr} {o:Obj},s₁.heap.get? b=some o→H b=none→(hidT s₁.heap H).get? b=some o:=fun e n=>hidT_get e n
  have noA:∀{b:Addr} {o:Obj} {es:Array DictEntry} {ep:Nat},s₁.heap.get? b=some o→o.data= .dict es ep→H b=none:=fun {b o es ep} e d=>by
   cases q:H b with
   | none=>rfl
   | some u=>
    have e':b=a:=hA b (by rw[q];simp)
    subst e'
    rw[ha] at e;cases e
    have d':Data.seq vs.toArray _=Data.dict es ep:=d
    cases d'
  have nsK:∀{b:Addr} {m:Str→Option Value},s₁.heap.Ns b m→(hidT s₁.heap H).Ns b m:=fun {b m} ⟨o,es,ep,e,d,r⟩=>⟨o,es,ep,base_of e (noA e d),d,r⟩
  have hKb:K.In (hidT s₁.heap H):=fun b o e=>base_of (KX b o e) (by
   cases q:H b with
   | none=>rfl
   | some u=>
    have e':b=a:=hA b (by rw[q];simp)
    subst e'
    rw[hK (by rw[q];simp)] at e;cases e)
  have hM:Mod K mg (hidT s₁.heap H):=⟨hKb,nsK hns,⟨mb,nsK hb,hbb⟩,let ⟨mc,h1,h2⟩:=hlim;⟨mc,nsK h1,h2⟩⟩
  have e0:Env0 P w K mg (hidT s₁.heap H) callerA [] s₁ H:=⟨rfl,hM,fun b o e=>of_hidT e,Nat.le_of_eq (hidT_size _ _),trivial,fun b hb=>absurd (show b∈([]:List Addr) from hb) (by simp),hok,.of_eq hg⟩
  refine codeAny_mono ((F _ hKb (nsK hns)).run callerA [] s₁ H ⟨[.ref a],[]⟩ [.ref a] [.ref a] _ _ hr e0 (hbind s₁ (.ref a)) (.cons rfl .nil) (hsp H hO hS)) fun r s' h=>?_
  cases r with
  | error e=>exact (hCX H e s' h).elim
  | ok fl=>
   cases fl with
   | next=>exact False.elim h
   | brk=>exact False.elim h
   | cont=>exact False.elim h
   | ret u=>
    obtain⟨v,H',os,bare,un,hok',r',q⟩:=h
    have q':v= .bl true:=q
    subst q'
    obtain rfl:u=Value.bool true:=r'
    refine⟨rfl,OldK.of_keep fun b o e=>?_,os,bare⟩
    cases q:H b with
    | none=>exact un.keep b o e q (by intro z;exact absurd (show b∈([]:List Addr) from z) (by simp)) (by simp)
    | some u=>
     rcases hO b with z | ⟨ob,xs,z⟩
     ·rw[q] at z;cases z
     ·have z2:=un.frzs b ob _ z
      obtain⟨e1,_⟩:=hok b _ z
      obtain⟨e2,_⟩:=hok' b _ z2
      rw[e] at e1;cases e1
      exact e2
 cases hk:K.lookup a with
 | some o=>
  have e:=KX a o hk
  rw[ha] at e
  cases e
  refine core (fun _=>none) (fun _=>.inl rfl) (.inr ⟨_,vs.toArray,_,hk,rfl,rfl,rfl,by rw[List.size_toArray,lenV];exact hl,by simpa using rv⟩) (fun b u z=>by have z':(none:Option HO)=some u:=z;cases z') (fun b z=>absurd rfl z) fun z=>absurd rfl z
 | none=>
  refine core (fun b=>if b=a then some (.frz { cls:=.type "list",data:=.seq vs.toArray } (.lst (ns.map V.int))) else none) (fun b=>?_) (.inl (.inr ⟨{ cls:=.type "list",data:=.seq vs.toArray },if_pos rfl⟩)) (fun b u z=>?_) (fun b z=>?_) fun _=>hk
  ·by_cases hb:b=a
   ·exact .inr ⟨_,_,if_pos hb⟩
   ·exact .inl (if_neg hb)
  ·by_cases hb:b=a
   ·have z':=(if_pos hb).symm.trans z
    cases z'
    subst hb
    exact⟨ha,by rw[List.length_map];exact hl,vs,_,rv,ha⟩
   ·have z':=(if_neg hb).symm.trans z
    cases z'
  ·by_cases hb:b=a
   ·exact hb
   ·exact absurd (if_neg hb) z
end L2
namespace L2
open PySem PySem.Spec PyProof.Rows
theorem walk_of {l:PySem.W.OpenLaw} {n k:Nat} {q:Program} {loose:List Str} {XP:(Str→Option Value)→Heap→Prop} {YP:World→Heap→Prop} {d:DefRec} {K:Params→PySem.W.Frag} {CX:World→CXT} {sp:World→Sp} {x:Str}
  (hn:l.most=some n) (hn2:n≤sizeLine) (hdf:d.params.defaults=[]) (hr:Room k callerA)
  (hY:∀(w:World) (h:Heap),YP w h→(K w.params).In h)
  (F:∀(w:World) (mg:Str→Option Value) (fa:Addr) (h:Heap),(K w.params).In h→h.Ns mainGlobals mg→mg d.name=some (.ref fa)→
   ∃fd:FuncData,(∀(s:Shared) (u:Value),BindsTo s fd ⟨[u],[]⟩ [(x,u)])∧
    ∀base:Heap,(K w.params).In base→base.Ns mainGlobals mg→FnOk l.prog w (K w.params) mg base (CX w) k fa fd [x] (sp w))
  (hsp:∀(w:World) (H:Hp) (a:Addr) (ns:List Int),ns.length≤n→Only H→SqL (K w.params) H a (ns.map V.int)→sp w [.ref a] H (fun v _=>v= .bl true) fun _ _ _=>False)
  (hCX:∀(w:World) (H:Hp) (s:Shared) (e:Value) (s':Shared),CX w [] H s (fun _ _ _=>False) e s'→False) :
  PySem.W.WalkO q loose XP YP l.row.toRowW d [] (fun f vs=>PySem.call f vs):=by
 refine Att.attach_call hn hdf fun w s₀ s₁ mg mb fa o pm cd doc a vs ns G Y ho hd hcd hmg hobj hints hlen hg=>?_
 have KX:=hY w _ Y
 obtain⟨fd,hb,hF⟩:=F w mg fa _ KX G.T.g hmg
 exact law_call KX G.T.g G.T.b G.T.builtins G.T.nolimit hg hobj hints (Nat.le_trans hlen hn2) hr hF hb (fun H hO hS=>hsp w H a ns hlen hO hS) fun H e s'=>hCX w H s₁ e s'
end L2
namespace L2
open PySem PySem.Spec PyProof.Rows
def inClass (s:Stmt) (j:Nat):Stmt:=match s with
 | .ClassDef _ _ _ body _ _ _ _ _ _ _=>body.getD j (.Pass ⟨0,0,0,0⟩)
 | _=>.Pass ⟨0,0,0,0⟩
def defArgs (s:Stmt):Arguments:=match s with
 | .FunctionDef _ a _ _ _ _ _ _ _ _=>a
 | _=>{ posonlyargs:=[],args:=[],vararg:=none,kwonlyargs:=[],kw_defaults:=[],kwarg:=none,defaults:=[] }
def defBody (s:Stmt):List Stmt:=match s with
 | .FunctionDef _ _ b _ _ _ _ _ _ _=>b
 | _=>[]
def defScope (s:Stmt):Scope:=match s with
 | .FunctionDef _ _ _ _ _ _ sc _ _ _=>sc
 | _=>{ kind:=.function,names:=[],isGenerator:=false,isCoroutine:=false }
abbrev CX0:CXT:=fun _ _ _ _ _ _=>False
abbrev E0:XK:=fun _ _ _=>False
theorem pass0 {X:Cx}:Passes CX0 X E0:=fun _ _ _ _ _ _ _ h=>h.elim
structure Fun (K:PySem.W.Frag) (x qual:Str) (st:Stmt) (f:Addr) (fd:FuncData):Prop where
 ex:∃(oc:Value) (od:Option Addr) (kV doc pm:Value) (an:Option Addr) (cdv ct:Value) (osl:Array (Option Value)),
  fd=PySem.W.fnOf x qual (defArgs st) (defBody st) (defScope st) .none kV doc pm an cdv ct∧K.lookup f=some ⟨oc,od,.func fd,osl⟩∧PySem.W.codeIn K cdv qual=true
 kp:PySem.W.keepIn K (.ref f)=true
section
variable {P:Program} {w:World} {K:PySem.W.Frag} {mg:Str→Option Value} {base:Heap}
theorem Fun.ok {x qual:Str} {st:Stmt} {f:Addr} {fd:FuncData} {N ps:List Str} {k:Nat} {sp:Sp} (F:Fun K x qual st f fd) (S:FnScope N ps (defScope st)) (len:∀vs H Q E,sp vs H Q E→vs.length=ps.length)
  (hbody:∀(cdv:Value) (A:Around) (outer:List Env) (s:Shared) (H:Hp) (vs:List V) (Q:VK) (E:XK),Room k (A.deeper (envOfC qual (defScope st) s.heap.objs.size f cdv))→sp vs H Q E→
   ∃t,PSs (cxOf CX0 P w K mg base N qual (defScope st) f cdv A outer s H E).nox (defBody st) t∧t { nx:=fun _ H'=>Q .non H',rt:=Q } (start N vs) H):FnOk P w K mg base CX0 (k+1) f fd ps sp:=by
 obtain⟨oc,od,kV,doc,pm,an,cdv,ct,osl,rfl,lk,hcd⟩:=F.ex
 refine fn_of lk hcd S len fun A outer s H vs Q E hr hsp=>?_
 obtain⟨t,h,q⟩:=hbody cdv A outer s H vs Q E hr hsp
 exact⟨t,h.nox,q⟩
theorem Fun.binds {x qual:Str} {st:Stmt} {f:Addr} {fd:FuncData} {ps:List Str} (F:Fun K x qual st f fd)
  (h:∀(kV doc pm:Value) (an:Option Addr) (cdv ct:Value) (us:List Value),us.length=ps.length→bindArgs (PySem.W.fnOf x qual (defArgs st) (defBody st) (defScope st) .none kV doc pm an cdv ct) ⟨us,[]⟩=pure (ps.zip us)):Binds K fd ps []:=by
 obtain⟨oc,od,kV,doc,pm,an,cdv,ct,osl,rfl,lk,hcd⟩:=F.ex
 exact .all (h kV doc pm an cdv ct)
theorem fun_mk {x qual:Str} {st:Stmt} {f:Addr} {oc:Value} {od an:Option Addr} {osl:Array (Option Value)} {kV doc pm cdv ct:Value} (l:K.lookup f=some ⟨oc,od,.func (PySem.W.fnOf x qual (defArgs st) (defBody st) (defScope st) .none kV doc pm an cdv ct),osl⟩)
  (c:PySem.W.codeIn K cdv qual=true) (k:PySem.W.keepIn K (.ref f)=true):Fun K x qual st f (PySem.W.fnOf x qual (defArgs st) (defBody st) (defScope st) .none kV doc pm an cdv ct):=⟨⟨oc,od,kV,doc,pm,an,cdv,ct,osl,rfl,l,c⟩,k⟩
end
theorem small1000 {n:Nat} (h:n≤1000):n<sizeLine:=Nat.lt_of_le_of_lt h (by decide)
section
variable {X:Cx}
theorem pv (i:Nat) {x:Str} {pos:Pos} (hN:X.N[i]? = some x:=by rfl) (hv:Vis X.env.scope x:=by first | exact Or.inl rfl | exact Or.inr (Or.inl rfl) | exact Or.inr (Or.inr rfl)) (hd:(x == ("__debug__":Str))=false:=by decide)
  (hcd:(x == ("__classdict__":Str))=false:=by decide):PE X (.Name x pos) (tVar i):=pe_var hN hv hd hcd
end
theorem iteF {A B:Prop} (h:B):if false=true then A else B:=by
 rw[if_neg Bool.false_ne_true]
 exact h
theorem iteT {A B:Prop} (h:A):if true=true then A else B:=by
 rw[if_pos rfl]
 exact h
theorem ite2 {c A B:Prop} [Decidable c] (h1:c→A) (h2:¬c→B):if c then A else B:=by
 by_cases h:c
 ·rw[if_pos h]
  exact h1 h
 ·rw[if_neg h]
  exact h2 h
theorem iteNS {c A B:Prop} [Decidable c] (hc:c) (h:B):if (!decide c)=true then A else B:=by
 rw[decide_eq_true hc]
 exact iteF h
def Same (H H':Hp):Prop:=∀b o,H b=some o→H' b=some o
theorem Same.refl (H:Hp):Same H H:=fun _ _ h=>h
theorem Same.trans {H H1 H2:Hp} (a:Same H H1) (b:Same H1 H2):Same H H2:=fun c o h=>b c o (a c o h)
theorem Same.free {H H':Hp} (e:Same H H') {l:Addr} (h:H' l=Option.none):H l=Option.none:=by
 cases q:H l with
 | none=>rfl
 | some o=>
  rw[e l o q] at h
  cases h
theorem Same.seq {K:PySem.W.Frag} {H H':Hp} {a:Addr} {xs:List V} (e:Same H H') (h:SqL K H a xs):SqL K H' a xs:=by
 rcases h with (h | ⟨o,h⟩) | h
 ·exact .inl (.inl (e _ _ h))
 ·exact .inl (.inr ⟨o,e _ _ h⟩)
 ·exact .inr h
end L2
namespace L2
open PySem PySem.Spec PyProof.Rows
section
variable {X:Cx}
theorem call_isinst:CallR X (.builtin "isinstance") (fun xs H Q=>∃x T t b,xs=[x,.ty T]∧TyOf X.K H x t∧PySem.W.kitOne X.K t (.type T)=some b∧Q (.bl b) H):=by
 intro pins s σ H xs us Q I r h
 obtain⟨x,T,t,b,rfl,ty,e,q⟩:=h
 obtain⟨u,w',rfl,rx,ry⟩:=vals2 r
 cases ry
 exact isinst_ok I rx ty e fun tk=>⟨.bl b,H,I.tok _,rfl,q⟩
theorem kit_same (K:PySem.W.Frag) (T:String):PySem.W.kitOne K (.type T) (.type T)=some true:=by
 unfold PySem.W.kitOne
 rw[if_pos (beq_self_eq_true _)]
theorem kit_tup_str (K:PySem.W.Frag):PySem.W.kitOne K (.type "tuple") (.type "str")=some false:=by
 with_unfolding_all rfl
def rNeE (K:PySem.W.Frag):R2:=fun x y H Q=>∃a b xs,x= .ref a∧y= .ref b∧SqL K H a xs∧SqL K H b []∧Q (.bl (!xs.isEmpty)) H
theorem op_neE (hu:X.A.units<cLine):OpR X (compareOp .NotEq) (rNeE X.K):=by
 intro pins s σ H x y v u Q I rx ry h
 obtain⟨a,b,xs,rfl,rfl,ha,hb,q⟩:=h
 cases rx
 cases ry
 obtain⟨its,r,pl,hz⟩:=I.list ha
 obtain⟨its2,r2,pl2,hz2⟩:=I.list hb
 cases r2
 cases r with
 | nil=>exact SeqAt.RcNeAt.lists (e:=fun _=>true) pl.isList pl2.isList rfl hu (fun j h1=>absurd h1 (Nat.not_lt_zero _)) _ _ _ _ ⟨.bl false,H,I,rfl,q⟩
 | cons r1 r2=>exact SeqAt.RcNeAt.lists_lengths pl.isList pl2.isList (by simp) hu _ _ _ _ ⟨.bl true,H,I,rfl,q⟩
theorem strsAre_of:∀{ys:List Str} {us:List Value},Vals (ys.map V.str) us→StrsAre us ys
 | [],_,r=>by cases r;exact .nil
 | y::ys,_,r=>by
  cases r with
  | cons r1 r2=>
   obtain⟨t,rfl⟩:=r1
   exact .cons y t (strsAre_of r2)
def rJoin (K:PySem.W.Frag):V→List V→Hp→VK→Prop:=fun x vs H Q=>∃sep l ys,x= .str sep∧vs=[.ref l]∧SqL K H l (ys.map V.str)∧(ys.map (·.length)).sum+ys.length*sep.length≤16777216∧Q (.str (Txt.join sep ys)) H
theorem mt_join:MtR X "str.join" (rJoin X.K):=by
 intro pins s σ H x vs v us Q I rx rv h
 obtain⟨sep,l,ys,rfl,rfl,hq,hz,q⟩:=h
 obtain⟨t,rfl⟩:=rx
 obtain⟨u,rfl,ru⟩:=rv.one
 cases ru
 obtain⟨its,r,pl,hs⟩:=I.list hq
 exact join_list pl.isList (by simpa using strsAre_of r) hz fun t' k=>⟨.str _,H,I.tok _,⟨_,rfl⟩,q⟩
def ModD (P:Program) (w:World) (K:PySem.W.Frag) (d:Addr) (f:Str→Option V):Prop:=
 (d == sysModules)=false∧∃(o:Obj) (vs:List (Str×Value)),K.lookup d=some o∧o.IsDictOf (PySem.strKind P w) vs∧∀k,RelO (f k) (valueAt vs k)
def rIxM (P:Program) (w:World) (K:PySem.W.Frag):R2:=fun x y H Q=>∃d k v f,x= .ref d∧y= .str k∧ModD P w K d f∧f k=some v∧Q v H
theorem ix_mod:IxR X (rIxM X.prog X.w X.K):=by
 intro value slice pins s σ H x y v u Q I rx ry h hs
 obtain⟨d,k,z,f,rfl,rfl,⟨hm,o,vs,hk,hd,hv⟩,e,q⟩:=h
 cases rx
 obtain⟨t,rfl⟩:=ry
 have hD:s.heap.DictOf (PySem.strKind X.prog X.w) d vs:=Heap.dictOf_iff.mpr ⟨o,I.kIn d o hk,hd⟩
 have hr:=hv k
 rw[e] at hr
 cases ev:valueAt vs k with
 | none=>rw[ev] at hr;exact False.elim hr
 | some u'=>
  rw[ev] at hr
  exact tail_any hD.typeIs slot_dict_getitem.lookup (wpAny_getItem_of (strKind_is _ _ k t) hD.mapOf ev ⟨z,H,I.tok _,hr,q⟩) hs
end
end L2
namespace HT2
open PySem L2
def TS (H H':Hp):Prop:=∀p xs,H p=some (.tup xs)→H' p=some (.tup xs)
theorem TS.trans {H H1 H2:Hp} (a:TS H H1) (b:TS H1 H2):TS H H2:=fun p xs e=>b p xs (a p xs e)
theorem TS.same {H H':Hp} (s:Same H H'):TS H H':=fun p xs e=>s p _ e
theorem TS.lst {H:Hp} {l:Addr} {xs:List V} {o:HO} (h:H l=some (.lst xs)):TS H (upd H l o):=fun p ys e=>by
 rw[upd_ne (ne_of e h (by intro z;cases z))]
 exact e
theorem TS.new {H:Hp} {l:Addr} {o:HO} (h:H l=none):TS H (upd H l o):=fun p ys e=>by
 rw[upd_ne (ne_of_none e h)]
 exact e
theorem same_new {H:Hp} {p:Addr} (h:H p=none) (o:HO):Same H (upd H p o):=fun b u q=>by rw[upd_ne (ne_of_none q h)];exact q
theorem same_put {H0 H:Hp} {p:Addr} (s:Same H0 H) (h:H0 p=none) (o:HO):Same H0 (upd H p o):=fun b u q=>by rw[upd_ne (ne_of_none q h)];exact s b u q
inductive Tr where
 | lt (k:Nat)
 | nt (t:Tr)
 | bn (j:Nat) (a b:Tr)
 deriving DecidableEq
def jn:Nat→Str
 | 0=>"and"
 | 1=>"or"
 | 2=>"if"
 | _=>"same"
def Tr.At (H:Hp):Tr→V→Prop
 | .lt k,v=>∃p,v= .ref p∧H p=some (.tup [.str "let",.int k])
 | .nt t,v=>∃p u,v= .ref p∧H p=some (.tup [.str "not",u])∧t.At H u
 | .bn j a b,v=>∃p x y,v= .ref p∧H p=some (.tup [.str (jn j),x,y])∧a.At H x∧b.At H y
def Tr.size:Tr→Nat
 | .lt _=>1
 | .nt t=>t.size+1
 | .bn _ a b=>a.size+b.size+1
def Tr.ok (m:Nat):Tr→Prop
 | .lt k=>k<m
 | .nt t=>t.ok m
 | .bn j a b=>j<4∧a.ok m∧b.ok m
theorem Tr.size_pos:∀t:Tr,0<t.size
 | .lt _=>Nat.one_pos
 | .nt _=>Nat.succ_pos _
 | .bn _ _ _=>Nat.succ_pos _
theorem Tr.At.keep {H H':Hp} (s:TS H H'):∀{t:Tr} {v:V},t.At H v→t.At H' v
 | .lt k,v,h=>by
  obtain⟨p,e,h⟩:=h
  exact⟨p,e,s _ _ h⟩
 | .nt t,v,h=>by
  obtain⟨p,u,e,h,q⟩:=h
  exact⟨p,u,e,s _ _ h,Tr.At.keep s q⟩
 | .bn j a b,v,h=>by
  obtain⟨p,x,y,e,h,q,r⟩:=h
  exact⟨p,x,y,e,s _ _ h,Tr.At.keep s q,Tr.At.keep s r⟩
theorem Tr.ok.mono {m n:Nat} (h:m≤n):∀{t:Tr},t.ok m→t.ok n
 | .lt k,q=>Nat.lt_of_lt_of_le q h
 | .nt t,q=>Tr.ok.mono (t:=t) h q
 | .bn j a b,q=>⟨q.1,Tr.ok.mono (t:=a) h q.2.1,Tr.ok.mono (t:=b) h q.2.2⟩
abbrev Pile (H:Hp):List V→List Tr→Prop:=Paired fun (v:V) (t:Tr)=>t.At H v
theorem Pile.keep {H H':Hp} (s:TS H H'):∀{xs:List V} {ts:List Tr},Pile H xs ts→Pile H' xs ts
 | _,_,.nil=>.nil
 | _,_,.cons r q=>.cons (Tr.At.keep s r) (Pile.keep s q)
theorem Pile.len {H:Hp}:∀{xs:List V} {ts:List Tr},Pile H xs ts→xs.length=ts.length
 | _,_,.nil=>rfl
 | _,_,.cons _ q=>congrArg (· + 1) (Pile.len q)
theorem Pile.snoc {H:Hp} {y:V} {t:Tr} (h:t.At H y):∀{xs:List V} {ts:List Tr},Pile H xs ts→Pile H (xs++[y]) (ts++[t])
 | _,_,.nil=>.cons h .nil
 | _,_,.cons r q=>.cons r (Pile.snoc h q)
theorem Pile.last {H:Hp}:∀{xs:List V} {ts:List Tr},Pile H xs ts→0<ts.length→∃xs' y ts' t,xs=xs'++[y]∧ts=ts'++[t]∧Pile H xs' ts'∧Tr.At H t y
 | _,_,.nil,h=>absurd h (Nat.lt_irrefl _)
 | _,_,.cons (a:=v) (b:=t) r .nil,_=>⟨[],v,[],t,rfl,rfl,.nil,r⟩
 | _,_,.cons (a:=v) (b:=t) r (.cons r' q'),_=>by
  obtain⟨xs',y,ts',u,e1,e2,q,a⟩:=Pile.last (Paired.cons r' q') (Nat.succ_pos _)
  exact⟨v::xs',y,t::ts',u,by rw[e1];rfl,by rw[e2];rfl,.cons r q,a⟩
def sz (ts:List Tr):Nat:=(ts.map Tr.size).sum
theorem sz_snoc (ts:List Tr) (t:Tr):sz (ts++[t])=sz ts+t.size:=by
 unfold sz
 rw[List.map_append,List.sum_append]
 simp
theorem last_at (xs:List V) (y:V):(xs++[y])[(xs++[y]).length-1]? = some y:=by
 simp
theorem small {n:Nat} (h:n≤1000):n≤sizeLine:=Nat.le_of_lt (small1000 h)
theorem le2:2≤sizeLine:=by decide
theorem le3:3≤sizeLine:=by decide
theorem le4:4≤sizeLine:=by decide
theorem le5:5≤sizeLine:=by decide
theorem le1:1≤sizeLine:=by decide
theorem le0:0≤sizeLine:=by decide
end HT2
namespace L2
open PySem PySem.Spec PyProof.Rows
abbrev NoE:Value→Shared→Prop:=fun _ _=>False
theorem nox_any {α:Type} {t:Sem α} {Q:α→Shared→Prop} {M:Model} {A:Around} {E:Value→Shared→Prop} {s:Shared} (h:wpAny M A t Q NoE s):wpAny M A t Q E s:=wpAny_mono h (fun _ _ q=>q) fun _ _ z=>False.elim z
def loopR (J:It) (g:TG) (tb:TS) (D:Ends) (σ:St) (H:Hp):Prop:=∃W:Nat→Nat→St→Hp→Prop,(∃m,W 0 m σ H)∧∀i m σ H,W i m σ H→
 (J.stop i H∧D.nx σ H)∨(J.go i H∧∃N:St→Hp→Prop,(∀σ' H',N σ' H'→∃m',m'<m∧W (i+1) m' σ' H')∧∀x H',J.yld i H x H'→g x σ H' fun σ2 H2=>tb { D with nx:=N,ct:=N,bk:=D.nx } σ2 H2)
abbrev WBT:=(Shared→Prop)→Shared→Prop
structure PB (X:Cx) (WB:WBT) (tb:TS):Prop where
 mono:∀(Qa Qb:Shared→Prop) (s:Shared),(∀s,Qa s→Qb s)→WB Qa s→WB Qb s
 run:∀(pins:List (Addr×Obj)) (s:Shared) (σ:St) (H:Hp) (D:Ends),Inv X pins σ H s→tb D σ H→WB (fun s'=>∃σ' H',Inv X pins σ' H' s'∧D.nx σ' H') s
def HT (X:Cx) (e:Expr) (d:Nat) (it acc:Value) (tg:Expr) (WB:WBT):Prop:=∀(s:Shared) (Qd Qa:Shared→Prop),
 wpAny (model X.prog X.w) X.A (pyNext it) (fun r s1=>match r with | none=>Qd s1 | some v=>wpAny (model X.prog X.w) X.A (letOwnedTupleGo tg it v) (fun _ s2=>wpAny (model X.prog X.w) X.A (assign tg X.env v) (fun _ s3=>WB Qa s3) NoE s2) NoE s1) NoE s→
 wpAny (model X.prog X.w) X.A (compTurn e d it acc X.env) (fun fin s'=>match fin with | .done f=>f= .next∧Qd s' | .again c'=>c'= .compLoop e d it acc X.env∧Qa s') NoE s
section
variable {X:Cx} {e tg:Expr} {d:Nat} {acc:Value} {it:Addr} {WB:WBT} {tb:TS} {g:TG} {J:It} {fp:List Addr} {tn:Nat→Heap→Prop} {D:Ends} {pins:List (Addr×Obj)} {σ:St} {H:Hp} {s:Shared}
theorem comp_loop (hxe:X.xe=NoE) (hc:X.calm=true) (ht:HT X e d (.ref it) acc tg WB) (hfr:(Code.compLoop e d (.ref it) acc X.env).isFrame=false) (hun:X.A.under (.compLoop e d (.ref it) acc X.env)=X.A) (hqu:(Code.compLoop e d (.ref it) acc X.env).quiet=true)
  (T:Turn X.prog X.w X.K tg J fp it tn) (hg:PG X tg g) (hb:PB X WB tb)
  (I:Inv X pins σ H s) (st:tn 0 s.heap) (f2:∀b∈fp,FpOk X pins H b) (h:loopR J g tb D σ H) :
  codeAny (model X.prog X.w) X.A (.compLoop e d (.ref it) acc X.env) (fun r s'=>r= .ok .next∧∃σ' H',Inv X pins σ' H' s'∧D.nx σ' H') s:=by
 obtain⟨W,⟨m0,w0⟩,turn⟩:=h
 have stat:∀{H':Hp},(∀b∈fp,H' b=none)→∀b∈fp,FpOk X pins H' b:=fun hn b hb=>⟨hn b hb,(f2 b hb).2⟩
 refine codeAny_loop hqu (fun n s'=>∃i σ' H',Inv X pins σ' H' s'∧tn i s'.heap∧(∀b∈fp,H' b=none)∧W i n σ' H') (fun n s3 hI=>?_) m0 ⟨0,σ,H,I,st,fun b hb=>(f2 b hb).1,w0⟩
 obtain⟨i,σ3,H3,I3,st3,fr3,w3⟩:=hI
 have hden:(model X.prog X.w).den (.compLoop e d (.ref it) acc X.env)=(compTurn e d (.ref it) acc X.env).onRaise (fun x=>do noteFrame x X.env;theTreesLotGoes x):=by
  show (if (Code.compLoop e d (.ref it) acc X.env).isFrame=true then _ else _)=_
  rw[hfr]
  rfl
 rw[hun,hden]
 refine wpAny_noted (nox_any ?_)
 rcases turn i n σ3 H3 w3 with⟨stop,qn⟩|⟨go,N,hN,step⟩
 ·refine wpAny_mono (ht s3 (fun s'=>∃σ' H',Inv X pins σ' H' s'∧D.nx σ' H') (fun _=>False) (thn (T.done X rfl rfl rfl hc i pins s3 σ3 H3 NoE I3 (stat fr3) st3 stop) fun r s4 ⟨hr,I4⟩=>?_)) (fun fin s' q=>?_) fun _ _ z=>z
  ·subst hr
   exact⟨σ3,H3,I4,qn⟩
  ·cases fin with
   | done f=>
    obtain⟨rfl,q⟩:=q
    exact⟨rfl,q⟩
   | again c'=>exact False.elim q.2
 ·refine wpAny_mono (ht s3 (fun _=>False) (fun s'=>∃m,m<n∧∃i σ' H',Inv X pins σ' H' s'∧tn i s'.heap∧(∀b∈fp,H' b=none)∧W i m σ' H') (thn (T.item X rfl rfl rfl hc i pins s3 σ3 H3 NoE I3 (stat fr3) st3 go) fun r s4 ⟨u,hr,h4⟩=>?_)) (fun fin s' q=>?_) fun _ _ z=>z
  ·subst hr
   refine thn h4 fun _ s5 ⟨x,H5,I5,r5,y5,st5,fr5⟩=>?_
   have I5':=I5.pinned (stat fr5) (T.obj _ _ st5)
   have hgx:=hg _ s5 σ3 H5 x u _ I5' r5 (step x H5 y5)
   rw[hxe] at hgx
   refine thn hgx fun _ s6 ⟨σ6,H6,I6,q6⟩=>?_
   have again:∀{s7:Shared},(∃σ7 H7,Inv X (pins++pinsAt fp s5.heap) σ7 H7 s7∧N σ7 H7)→∃m,m<n∧∃i σ' H',Inv X pins σ' H' s7∧tn i s7.heap∧(∀b∈fp,H' b=none)∧W i m σ' H':=fun {s7} ⟨σ7,H7,I7,n7⟩=>by
    obtain⟨m',hm,w7⟩:=hN σ7 H7 n7
    refine⟨m',hm,i+1,σ7,H7,I7.unpinned,T.keep _ _ _ st5 fun b hb o e=>(I7.pin (b,o) (List.mem_append_right _ (List.mem_append_right _ (mem_pinsAt hb e)))).1,fun b hb=>?_,w7⟩
    obtain⟨o,e,d⟩:=T.obj _ _ st5 b hb
    exact (I7.pin (b,o) (List.mem_append_right _ (List.mem_append_right _ (mem_pinsAt hb e)))).2.1
   exact hb.mono _ _ s6 (fun s7 q7=>again q7) (hb.run _ s6 σ6 H6 _ I6 q6)
  ·cases fin with
   | done f=>exact False.elim q.2
   | again c'=>exact q
def clTests (ifs:List Expr) (env:Env):Sem Bool:=forIn ifs true fun c r=>if r=true then do let ok ←isTrue c env (eval c env);pure (ForInStep.yield ok) else pure (ForInStep.yield r)
def PTs (X:Cx) (ifs:List Expr) (t:TT):Prop:=
 ∀(pins:List (Addr×Obj)) (s:Shared) (σ:St) (H:Hp) (Q:Bool→Hp→Prop),Inv X pins σ H s→t σ H Q→wpAny (model X.prog X.w) X.A (clTests ifs X.env) (TP X pins σ Q) X.xe s
def tYes:TT:=fun _ H Q=>Q true H
theorem pts_nil:PTs X [] tYes:=fun pins s σ H Q I h=>wpAny_tests_nil ⟨H,I,h⟩
theorem pts_one {c:Expr} {tc:TT} (h:PT X c tc):PTs X [c] tc:=fun pins s σ H Q I q=>wpAny_tests_one (h pins s σ H Q I q)
def emitWB (X:Cx) (ifs:List Expr) (elt:Expr) (acc:Value):WBT:=fun Qa s=>wpAny (model X.prog X.w) X.A (clTests ifs X.env) (fun ok s1=>if ok=true then wpAny (model X.prog X.w) X.A (eval elt X.env) (fun x s2=>wpAny (model X.prog X.w) X.A (call (.builtin "list.append") [acc,x]) (fun _ s3=>Qa s3) NoE s2) NoE s1 else Qa s1) NoE s
def tEmit (acc:Addr) (te:TE):TS:=fun D σ H=>te σ H fun x H1=>∃xs,H1 acc=some (.lst xs)∧xs.length<sizeLine∧D.nx σ (upd H1 acc (.lst (xs++[x])))
def tIfC (tc:TT) (tb:TS):TS:=fun D σ H=>tc σ H fun b H1=>if b=true then tb D σ H1 else D.nx σ H1
theorem pb_emit {ifs:List Expr} {elt:Expr} {ac:Addr} {tc:TT} {te:TE} (hxe:X.xe=NoE) (hi:PTs X ifs tc) (he:PE X elt te):PB X (emitWB X ifs elt (.ref ac)) (tIfC tc (tEmit ac te)) where
 mono:=fun Qa Qb s hq h=>thn h fun ok s1 h1=>by
  cases ok with
  | false=>exact hq _ h1
  | true=>exact thn h1 fun x s2 h2=>thn h2 fun _ s3 h3=>hq _ h3
 run:=fun pins s σ H D I h=>by
  have h1:=hi pins s σ H _ I h
  rw[hxe] at h1
  refine thn h1 fun ok s1 ⟨H1,I1,q1⟩=>?_
  cases ok with
  | false=>exact⟨σ,H1,I1,q1⟩
  | true=>
   have q1':tEmit ac te D σ H1:=q1
   have h2:=he pins s1 σ H1 _ I1 q1'
   rw[hxe] at h2
   refine thn h2 fun u s2 ⟨x,H2,I2,r2,xs,hl,hz,q2⟩=>?_
   have h3:=mt_append (X:=X) pins s2 σ H2 (.ref ac) [x] (.ref ac) [u] (fun _ H'=>D.nx σ H') I2 rfl (.cons r2 .nil) ⟨ac,xs,x,rfl,rfl,hl,hz,q2⟩
   rw[hxe] at h3
   exact thn h3 fun _ s3 ⟨_,H3,I3,_,q3⟩=>⟨σ,H3,I3,q3⟩
theorem ht_one {elt iter:Expr} {ifs:List Expr} {scope:Scope} {pos:Pos} {itv:Value}:HT X (.ListComp elt [⟨tg,iter,ifs,0⟩] scope pos) 0 itv acc tg (emitWB X ifs elt acc):=by
 intro s Qd Qa h
 rw[compTurn_list]
 refine wpAny_bind (wpAny_standAt (wpAny_bind (thn h fun r s₁ h₁=>?_)))
 cases r with
 | none=>exact wpAny_pure ⟨rfl,h₁⟩
 | some v=>
  refine wpAny_bind (thn h₁ fun _ s2 h2=>wpAny_bind (thn h2 fun _ s3 h3=>wpAny_bind (thn h3 fun ok s4 h4=>?_)))
  cases ok with
  | false=>exact wpAny_pure ⟨rfl,h4⟩
  | true=>exact wpAny_bind (wpAny_bind (thn h4 fun x s₄ h₄=>wpAny_bind (thn h₄ fun _ s₅ h₅=>wpAny_pure (wpAny_pure ⟨rfl,h₅⟩))))
theorem compTurn_in (elt tg0 iter0 tg iter:Expr) (ifs0 ifs:List Expr) (scope:Scope) (pos:Pos) (it acc:Value) (env:Env) :
  compTurn (.ListComp elt [⟨tg0,iter0,ifs0,0⟩,⟨tg,iter,ifs,0⟩] scope pos) 1 it acc env=(do
   standAt iter.pos
   match ←pyNext it with
   | none=>pure (.done .next)
   | some v=>
    letOwnedTupleGo tg it v
    assign tg env v
    let mut ok:=true
    for c in ifs do
     if ok then ok ←isTrue c env (eval c env)
    if ok then
     (do let _ ←call (.builtin "list.append") [acc,←eval elt env])
    again (.compLoop (.ListComp elt [⟨tg0,iter0,ifs0,0⟩,⟨tg,iter,ifs,0⟩] scope pos) 1 it acc env)):=by rfl
theorem ht_in {elt tg0 iter0 iter:Expr} {ifs0 ifs:List Expr} {scope:Scope} {pos:Pos} {itv:Value}:HT X (.ListComp elt [⟨tg0,iter0,ifs0,0⟩,⟨tg,iter,ifs,0⟩] scope pos) 1 itv acc tg (emitWB X ifs elt acc):=by
 intro s Qd Qa h
 rw[compTurn_in]
 refine wpAny_bind (wpAny_standAt (wpAny_bind (thn h fun r s₁ h₁=>?_)))
 cases r with
 | none=>exact wpAny_pure ⟨rfl,h₁⟩
 | some v=>
  refine wpAny_bind (thn h₁ fun _ s2 h2=>wpAny_bind (thn h2 fun _ s3 h3=>wpAny_bind (thn h3 fun ok s4 h4=>?_)))
  cases ok with
  | false=>exact wpAny_pure ⟨rfl,h4⟩
  | true=>exact wpAny_bind (wpAny_bind (thn h4 fun x s₄ h₄=>wpAny_bind (thn h₄ fun _ s₅ h₅=>wpAny_pure (wpAny_pure ⟨rfl,h₅⟩))))
theorem compTurn_out (elt tg iter tg1 iter1:Expr) (ifs ifs1:List Expr) (scope:Scope) (pos:Pos) (it acc:Value) (env:Env) :
  compTurn (.ListComp elt [⟨tg,iter,ifs,0⟩,⟨tg1,iter1,ifs1,0⟩] scope pos) 0 it acc env=(do
   standAt iter.pos
   match ←pyNext it with
   | none=>pure (.done .next)
   | some v=>
    letOwnedTupleGo tg it v
    assign tg env v
    let mut ok:=true
    for c in ifs do
     if ok then ok ←isTrue c env (eval c env)
    if ok then
     let x ←eval iter1 env
     standAt iter1.pos
     let x ←foldedSetIterable iter1 env x
     let _ ←runOwn (.compStart (.ListComp elt [⟨tg,iter,ifs,0⟩,⟨tg1,iter1,ifs1,0⟩] scope pos) 1 (←holding [x] (pyIter x)) acc env) env
    again (.compLoop (.ListComp elt [⟨tg,iter,ifs,0⟩,⟨tg1,iter1,ifs1,0⟩] scope pos) 0 it acc env)):=by rfl
def outWB (X:Cx) (ifs:List Expr) (e iter1:Expr) (acc:Value):WBT:=fun Qa s=>wpAny (model X.prog X.w) X.A (clTests ifs X.env) (fun ok s1=>if ok=true then
 wpAny (model X.prog X.w) X.A (eval iter1 X.env) (fun x s2=>wpAny (model X.prog X.w) X.A (pyIter x) (fun it s3=>codeAny (model X.prog X.w) X.A (.compStart e 1 it acc X.env) (fun r s4=>r= .ok .next∧Qa s4) s3) NoE s2) NoE s1 else Qa s1) NoE s
theorem ht_out {elt iter tg1 iter1:Expr} {ifs ifs1:List Expr} {scope:Scope} {pos:Pos} {itv:Value} (hs:∀x,foldedSetIterable iter1 X.env x=pure x) :
  HT X (.ListComp elt [⟨tg,iter,ifs,0⟩,⟨tg1,iter1,ifs1,0⟩] scope pos) 0 itv acc tg (outWB X ifs (.ListComp elt [⟨tg,iter,ifs,0⟩,⟨tg1,iter1,ifs1,0⟩] scope pos) iter1 acc):=by
 intro s Qd Qa h
 rw[compTurn_out]
 refine wpAny_bind (wpAny_standAt (wpAny_bind (thn h fun r s₁ h₁=>?_)))
 cases r with
 | none=>exact wpAny_pure ⟨rfl,h₁⟩
 | some v=>
  refine wpAny_bind (thn h₁ fun _ s2 h2=>wpAny_bind (thn h2 fun _ s3 h3=>wpAny_bind (thn h3 fun ok s4 h4=>?_)))
  cases ok with
  | false=>exact wpAny_pure ⟨rfl,h4⟩
  | true=>
   refine wpAny_bind (thn h4 fun x s₄ h₄=>wpAny_bind (wpAny_standAt (wpAny_bind (wpAny_of_eq (hs x) (wpAny_bind (wpAny_holding (thn h₄ fun it s₅ h₅=>?_)))))))
   refine wpAny_bind (wpAny_runOwn (codeAny_mono h₅ fun r s₆ h₆=>?_))
   obtain⟨rfl,h₆⟩:=h₆
   exact wpAny_pure ⟨rfl,h₆⟩
theorem comp_start {itv:Value} {R:Result→Shared→Prop} (hcl:((clausesOf e)[d]?).elim false (·.is_async != 0)=false) (hfr:(Code.compStart e d itv acc X.env).isFrame=false) (hun:X.A.under (.compStart e d itv acc X.env)=X.A)
  (hqu:∀it',(Code.compLoop e d it' acc X.env).quiet=true) (hposR:True)
  (h0:codeAny (model X.prog X.w) X.A (.compLoop e d itv acc X.env) R s)
  (h:wpAny (model X.prog X.w) X.A (pyIter itv) (fun it' s'=>codeAny (model X.prog X.w) X.A (.compLoop e d it' acc X.env) R s') NoE s) :
  codeAny (model X.prog X.w) X.A (.compStart e d itv acc X.env) R s:=by
 refine codeAny_of_tree ?_
 have hden:(model X.prog X.w).den (.compStart e d itv acc X.env)=(compStart e d itv acc X.env).onRaise (fun x=>do noteFrame x X.env;standAt theWindowsPlace):=by
  show (if (Code.compStart e d itv acc X.env).isFrame=true then _ else _)=_
  rw[hfr]
  rfl
 rw[hun,hden]
 refine wpAny_notedAt (nox_any ?_)
 unfold compStart
 rw[hcl]
 show wpAny _ _ (ask >>= _) _ _ s
 refine wpAny_bind (wpAny_askSetting (wpAny_ite ?_))
 split
 ·first
   | exact wpAny_bind (wpAny_pure (wpAny_pure (And.intro (hqu _) h0)))
   | exact wpAny_pure (And.intro (hqu _) h0)
 ·refine wpAny_bind (wpAny_rule ?_)
  cases hg:(clausesOf e)[d]? with
  | none=>exact wpAny_bind (thn h fun it' s' h'=>wpAny_pure (And.intro (hqu _) h'))
  | some g'=>exact wpAny_bind (wpAny_standAt (wpAny_bind (thn h fun it' s' h'=>wpAny_pure (And.intro (hqu _) h'))))
theorem pb_out {elt iter tg1 iter1:Expr} {ifs ifs1:List Expr} {scope:Scope} {pos:Pos} {ac:Addr} {tc:TT} {wi1:TI} {g1:TG} {tb1:TS} (hxe:X.xe=NoE) (hc:X.calm=true)
  (hi:PTs X ifs tc) (hI:PI X tg1 iter1 wi1) (hg1:PG X tg1 g1) (hb1:PB X (emitWB X ifs1 elt (.ref ac)) tb1) :
  PB X (outWB X ifs (.ListComp elt [⟨tg,iter,ifs,0⟩,⟨tg1,iter1,ifs1,0⟩] scope pos) iter1 (.ref ac)) (tIfC tc (tFor wi1 g1 tb1)) where
 mono:=fun Qa Qb s hq h=>thn h fun ok s1 h1=>by
  cases ok with
  | false=>exact hq _ h1
  | true=>exact thn h1 fun x s2 h2=>thn h2 fun it s3 h3=>codeAny_mono h3 fun r s4 h4=>⟨h4.1,hq _ h4.2⟩
 run:=fun pins s σ H D I h=>by
  have h1:=hi pins s σ H _ I h
  rw[hxe] at h1
  refine thn h1 fun ok s1 ⟨H1,I1,q1⟩=>?_
  cases ok with
  | false=>exact⟨σ,H1,I1,q1⟩
  | true=>
   have q1':tFor wi1 g1 tb1 D σ H1:=q1
   have h2:=hI pins s1 σ H1 _ I1 q1'
   rw[hxe] at h2
   refine thn h2 fun u s2 h3=>thn h3 fun itv s3 h4=>?_
   obtain⟨it,fp,tn,J,H3,e,I3,T,st3,f3,hR⟩:=h4
   subst e
   have loop:=comp_loop (e:=.ListComp elt [⟨tg,iter,ifs,0⟩,⟨tg1,iter1,ifs1,0⟩] scope pos) (d:=1) (D:=D) hxe hc ht_in rfl rfl rfl T hg1 hb1 I3 st3 f3 hR
   exact comp_start (X:=X) rfl rfl rfl (fun _=>rfl) True.intro loop (T.self _ 0 s3 _ _ st3 loop)
end
structure CC where
 s:Shared
 H:Hp
 fp:List Addr
def Cx.cmp (X:Cx) (N:List Str) (scope:Scope) (cl:List (Str×Addr)) (c:CC):Cx:=
 { X with N:=N,s₀:=c.s,H₀:=c.H,env:=compEnvC scope cl c.s.heap.objs.size X.env,outer:=X.stack,ex:=c.fp,fn:=fun _=>false,pn:=[] }
def sub (js:List (Option Nat)) (σ:St):St:=js.map fun o=>o.bind fun j=>(σ[j]?).join
def shares (X:Cx) (N:List Str) (scope:Scope) (js:List (Option Nat)):Prop:=
 ∀(i:Nat) (x:Str) (j:Nat),N[i]? = some x→js[i]? = some (some j)→X.N[j]? = some x∧X.env.kindOf x=some .cell∧(relabel scope X.env).names.lookup x=some .cell
section
variable {X:Cx} {N:List Str} {scope:Scope} {cl:List (Str×Addr)} {js:List (Option Nat)} {pins:List (Addr×Obj)} {σ:St} {H:Hp} {s:Shared} {fp:List Addr}
theorem Inv.cmp {h':Heap} {ob:Obj} (I:Inv X pins σ H s) (hf:∀b∈fp,FpOk X pins H b) (hfo:∀b∈fp,b<s.heap.objs.size) (hk:scope.kind= .function)
  (hcl:∀p∈cl,X.env.cells.lookup p.1=some p.2) (hcn:∀x,((relabel scope X.env).names.lookup x=some .cell∨(relabel scope X.env).names.lookup x=some .free)→∃c,cl.lookup x=some c)
  (hsh:shares X N scope js) (hl:js.length=N.length)
  (hns:h'.Ns s.heap.objs.size (fun _=>none)) (hsb:Heap.SameBut s.heap.objs.size (s.heap.push ob) h') {t':Nat} :
  Inv (X.cmp N scope cl ⟨s,H,fp⟩) [] (sub js σ) H { s with heap:=h',toks:=t' }:=by
 have hlook:∀x c,cl.lookup x=some c→X.env.cells.lookup x=some c:=fun x c e=>hcl (x,c) (PySem.mem_of_lookup e)
 have hkeep:∀b o,s.heap.get? b=some o→h'.get? b=some o:=fun b o e=>(hsb.2 b (Nat.ne_of_lt (Heap.lt_size e))).trans (Heap.get?_push_of_some _ e)
 refine⟨⟨I.ok.mod,?_,I.ok.glob,I.ok.blt,Nat.le_refl _,fun x y c h1 h2=>I.ok.inj x y c (hlook x c h1) (hlook y c h2),fun x hx=>hcn x hx,fun x c h=>?_,I.ok.hd,I.ok.frames,.inl rfl,fun b hb=>⟨Nat.ne_of_lt (hfo b hb),fun x c e=>(hf b hb).2.2.2.2.1 x c (hlook x c e)⟩,
   I.bs,Nat.le_trans I.ok.bsz I.sz,fun b o e hb=>?_,fun b hb hs=>?_,I.stack,I.stkFree⟩,rfl,I.bare,Un.kept hkeep,⟨_,hns,fun i x v e1 e2 e3=>?_⟩,fun x c e=>?_,I.hok.fresh (Nat.le_refl _),fun x c e=>I.freeC x c (hlook x c e),fun p hp=>?_,I.hok.kept hkeep,?_⟩
 ·show (relabel scope X.env).kind= .function
  exact hk
 ·exact absurd (show false=true from h) Bool.false_ne_true
 ·rcases (hf b hb).2.2.2.1 with z | z
  ·exact I.ok.noex b o e z
  ·exact absurd (Nat.lt_of_lt_of_le (Heap.lt_size (I.ok.bs b o e).1) z) (Nat.lt_irrefl _)
 ·rcases List.mem_cons.mp (I.stkSub b hs) with z | z
  ·exact (hf b hb).2.1 z
  ·exact (hf b hb).2.2.1 z
 ·have e2':(sub js σ)[i]? = some (some v):=e2
  unfold sub at e2'
  rw[List.getElem?_map] at e2'
  cases ej:js[i]? with
  | none=>rw[ej] at e2';cases e2'
  | some o=>
   rw[ej] at e2'
   cases o with
   | none=>cases e2'
   | some j=>
    obtain⟨a1,a2,a3⟩:=hsh i x j e1 ej
    have e4:(σ[j]?).join=some v:=Option.some.inj e2'
    have e5:σ[j]? = some (some v):=by
     cases q:σ[j]? with
     | none=>rw[q] at e4;cases e4
     | some o=>
      rw[q] at e4
      have:o=some v:=e4
      rw[this]
    obtain⟨m,hn,hloc⟩:=I.loc
    obtain⟨u,r,l⟩:=hloc j x v a1 e5 (.inr (.inl a2))
    refine⟨u,r,.inr ⟨.inl a3,?_⟩⟩
    obtain⟨c,hc⟩:=hcn x (.inl a3)
    refine⟨c,hc,?_⟩
    rcases l with⟨k,_⟩|⟨_,c',hc',hcell⟩
    ·rw[k] at a2;cases a2
    ·have:c'=c:=by
      have:=hlook x c hc
      rw[hc'] at this
      exact Option.some.inj this
     subst this
     obtain⟨o,ho,hd⟩:=hcell
     exact⟨o,hkeep _ _ ho,hd⟩
 ·obtain⟨v,o,ho,hd⟩:=I.cell x c (hlook x c e)
  exact⟨v,o,hkeep _ _ ho,hd⟩
 ·exact absurd (show p∈([]:List (Addr×Obj)) from hp) (by simp)
 ·unfold sub
  rw[List.length_map]
  exact hl
theorem Inv.uncmp {σ':St} {H':Hp} {s':Shared} {h'':Heap} (I:Inv X pins σ H s) (hf:∀b∈fp,FpOk X pins H b) (J:Inv (X.cmp N scope cl ⟨s,H,fp⟩) [] σ' H' s') (hsb:Heap.SameBut s.heap.objs.size s'.heap h'') :
  Inv X pins σ H' { s' with heap:=h'' }:=by
 have u:Un (frs X.stack) fp H H' s.heap s'.heap:=J.base
 have ne:∀b o,s.heap.get? b=some o→b≠s.heap.objs.size:=fun b o e=>Nat.ne_of_lt (Heap.lt_size e)
 have hfree:H' s.heap.objs.size=none:=J.free
 refine I.call' (ch:=fp) (s':={ s' with heap:=h'' }) J.os ⟨fun b o e n hb hx=>(hsb.2 b (ne b o e)).trans (u.keep b o e n hb hx),fun b o e n hb hx=>?_,u.free,fun b o e hx=>?_,u.tups,u.frzs,u.tbls⟩ (fun b ob e=>?_) J.bare fun b hb=>⟨(hf b hb).2.2.2.1,(hf b hb).2.1,(hf b hb).2.2.2.2.1,(hf b hb).2.2.2.2.2⟩
 ·obtain⟨sl,e1⟩:=u.slot b o e n hb hx
  exact⟨sl,(hsb.2 b (ne b o e)).trans e1⟩
 ·obtain⟨o',e1⟩:=u.there b o e hx
  exact⟨o',(hsb.2 b (ne b o e)).trans e1⟩
 ·refine (J.hok b ob e).stay (fun c w' hc q=>(hsb.2 c ?_).trans q) (fun _ q=>q) fun _ _ q=>q
  rintro rfl
  rcases hc with z | z
  ·rw[←z,hfree] at e;cases e
  ·rw[hfree] at z;cases z
end
def tComp (wi:TI) (js:List (Option Nat)) (g:CC→TG) (tb:CC→Addr→TS):TE:=fun σ H Q=>wi σ H fun J H1=>∀(c:CC) (acc:Addr),H1 acc=none→
 loopR J (g c) (tb c acc) { nx:=fun _ H'=>Q (.ref acc) H',rt:=fun _ _=>False } (sub js σ) (upd H1 acc (.lst []))
section
variable {X:Cx} {N:List Str} {scope:Scope} {cl:List (Str×Addr)} {js:List (Option Nat)} {elt tg iter:Expr} {ifs:List Expr} {rest:List Comprehension} {pos:Pos} {wi:TI} {g:CC→TG} {tb:CC→Addr→TS}
theorem pe_compG {WB:CC→Value→WBT} (hxe:X.xe=NoE) (hc:X.calm=true) (hi:PI X tg iter wi) (hs:∀x,foldedSetIterable iter X.env x=pure x) (hclos:closureFor scope X.env=pure cl) (hk:scope.kind= .function)
  (hnames:∀x∈scope.names,x.2= .local→scope.names.lookup x.1=some .local) (hcell:∀x∈scope.names,x.2≠.cell)
  (hcl:∀p∈cl,X.env.cells.lookup p.1=some p.2) (hcn:∀x,((relabel scope X.env).names.lookup x=some .cell∨(relabel scope X.env).names.lookup x=some .free)→∃c,cl.lookup x=some c)
  (hsh:shares X N scope js) (hl:js.length=N.length)
  (ht:∀c it ac,HT (X.cmp N scope cl c) (.ListComp elt (⟨tg,iter,ifs,0⟩::rest) scope pos) 0 it ac tg (WB c ac))
  (hg:∀c,PG (X.cmp N scope cl c) tg (g c)) (hb:∀c ac,PB (X.cmp N scope cl c) (WB c (.ref ac)) (tb c ac)) :
  PE X (.ListComp elt (⟨tg,iter,ifs,0⟩::rest) scope pos) (tComp wi js g tb):=by
 intro pins s σ H Q I h
 rw[eval_ListComp]
 have h0:=hi pins s σ H _ I h
 refine wpAny_comprehension_free (use:=none) (cl:=cl) rfl hs hclos hk hnames (thn h0 fun v s1 h1=>thn h1 fun itv s2 h2=>?_)
 obtain⟨it,fp,tn,J,H2,e,I2,T,st2,f2,hR⟩:=h2
 subst e
 refine wpAny_newObj_type (wpAny_newFunctionEnv hcell (by intro y hy;simp at hy) (fun h₁ hns₁ hsb₁=>?_) hk)
 dsimp only at hns₁ hsb₁ ⊢
 have I3:=I2.lnew (ys:=[]) (its:=[]) (t':=s2.toks) .nil (Nat.zero_le _)
 have fpl:∀b∈fp,b<s2.heap.objs.size:=fun b hb=>by
  obtain⟨o,e,_⟩:=T.obj 0 _ st2 b hb
  exact Heap.lt_size e
 have fpa:∀b∈fp,b≠s2.heap.objs.size:=fun b hb=>Nat.ne_of_lt (fpl b hb)
 have f3:∀b∈fp,FpOk X pins (upd H2 s2.heap.objs.size (.lst [])) b:=fun b hb=>⟨by rw[upd_ne (fpa b hb)];exact (f2 b hb).1,(f2 b hb).2⟩
 have hR':=hR ⟨{ s2 with heap:=s2.heap.push { cls:=.type "list",data:=.seq ([]:List Value).toArray } },upd H2 s2.heap.objs.size (.lst []),fp⟩ s2.heap.objs.size I2.fresh
 have I4:=I3.cmp (N:=N) (cl:=cl) (js:=js) (t':=s2.toks) f3 (fun b hb=>by
  show b<(s2.heap.push _).objs.size
  rw[Heap.size_push]
  exact Nat.lt_succ_of_lt (fpl b hb)) hk hcl hcn hsh hl hns₁ hsb₁
 have st4:tn 0 h₁:=T.keep 0 _ _ st2 fun b hb o e=>(hsb₁.2 b (by
  rw[Heap.size_push]
  exact Nat.ne_of_lt (Nat.lt_succ_of_lt (fpl b hb)))).trans (Heap.get?_push_of_some _ (Heap.get?_push_of_some _ e))
 have f4:∀b∈fp,FpOk (X.cmp N scope cl ⟨{ s2 with heap:=s2.heap.push { cls:=.type "list",data:=.seq ([]:List Value).toArray } },upd H2 s2.heap.objs.size (.lst []),fp⟩) [] (upd H2 s2.heap.objs.size (.lst [])) b:=fun b hb=>
  ⟨(f3 b hb).1,(I4.ok.exf b hb).1,I4.ok.exfs b hb,.inl hb,(I4.ok.exf b hb).2,fun p hp=>absurd (show p∈([]:List (Addr×Obj)) from hp) (by simp)⟩
 have loop:=codeAny_mono (comp_loop (X:=X.cmp N scope cl ⟨{ s2 with heap:=s2.heap.push { cls:=.type "list",data:=.seq ([]:List Value).toArray } },upd H2 s2.heap.objs.size (.lst []),fp⟩) (e:=.ListComp elt (⟨tg,iter,ifs,0⟩::rest) scope pos) (d:=0) (acc:=.ref s2.heap.objs.size) (pins:=[]) hxe hc (ht _ _ _) rfl rfl rfl T (hg _) (hb _ _) I4 st4 f4 hR') (R':=compPost (model X.prog X.w) X.A X.xe none (EP X pins σ Q) (.ref s2.heap.objs.size) (s2.heap.push { cls:=.type "list",data:=.seq ([]:List Value).toArray }).objs.size) (fun r s' hq=>by
  obtain⟨rfl,σ',H',J',q⟩:=hq
  obtain⟨m,hn,_⟩:=id J'.loc
  exact⟨m,hn,fun h'' hs''=>⟨.ref s2.heap.objs.size,H',I3.uncmp f3 J' hs'',rfl,q⟩⟩)
 exact comp_start (X:=X.cmp N scope cl ⟨{ s2 with heap:=s2.heap.push { cls:=.type "list",data:=.seq ([]:List Value).toArray } },upd H2 s2.heap.objs.size (.lst []),fp⟩) rfl rfl rfl (fun _=>rfl) True.intro loop (T.self _ 0 _ _ _ st4 loop)
end
structure CompOk (X:Cx) (N:List Str) (scope:Scope) (cl:List (Str×Addr)) (js:List (Option Nat)):Prop where
 clos:closureFor scope X.env=pure cl
 kind:scope.kind= .function
 loc:(scope.names.all fun x=>(x.2 != .local || scope.names.lookup x.1 == some .local) && x.2 != .cell)=true
 ccl:∀p∈cl,X.env.cells.lookup p.1=some p.2
 cn:((relabel scope X.env).names.all fun p=>!(p.2 == .cell || p.2 == .free) || (cl.lookup p.1).isSome)=true
 sh:((N.zip js).all fun p=>match p.2 with | none=>true | some j=>X.N[j]? == some p.1 && X.env.kindOf p.1 == some .cell && (relabel scope X.env).names.lookup p.1 == some .cell)=true
 len:js.length=N.length
section
variable {X:Cx} {N:List Str} {scope:Scope} {cl:List (Str×Addr)} {js:List (Option Nat)}
theorem CompOk.names (h:CompOk X N scope cl js):∀x∈scope.names,x.2= .local→scope.names.lookup x.1=some .local:=fun x hx e=>by
 have q:=(List.all_eq_true.mp h.loc) x hx
 rw[Bool.and_eq_true] at q
 rw[e] at q
 simpa using q.1
theorem CompOk.cell (h:CompOk X N scope cl js):∀x∈scope.names,x.2≠.cell:=fun x hx e=>by
 have q:=(List.all_eq_true.mp h.loc) x hx
 rw[Bool.and_eq_true,e] at q
 exact absurd q.2 (by decide)
theorem CompOk.hcn (h:CompOk X N scope cl js):∀x,((relabel scope X.env).names.lookup x=some .cell∨(relabel scope X.env).names.lookup x=some .free)→∃c,cl.lookup x=some c:=fun x hx=>by
 rcases hx with e | e
 ·have q:=(List.all_eq_true.mp h.cn) _ (PySem.mem_of_lookup e)
  exact Option.isSome_iff_exists.mp (by simpa using q)
 ·have q:=(List.all_eq_true.mp h.cn) _ (PySem.mem_of_lookup e)
  exact Option.isSome_iff_exists.mp (by simpa using q)
theorem CompOk.shr (h:CompOk X N scope cl js):shares X N scope js:=fun i x j e1 e2=>by
 have hm:(x,some j)∈N.zip js:=by
  have:(N.zip js)[i]? = some (x,some j):=by rw[List.getElem?_zip_eq_some];exact⟨e1,e2⟩
  exact List.mem_of_getElem? this
 have q:=(List.all_eq_true.mp h.sh) _ hm
 simp only[Bool.and_eq_true] at q
 exact⟨eq_of_beq q.1.1,eq_of_beq q.1.2,eq_of_beq q.2⟩
variable {elt tg iter tg1 iter1:Expr} {ifs ifs1:List Expr} {pos:Pos} {wi:TI} {wi1:CC→TI} {g g1:CC→TG} {tc tc1:CC→TT} {te:CC→TE}
theorem pe_comp1 (h:CompOk X N scope cl js) (hi:PI X tg iter wi) (hg:∀c,PG (X.cmp N scope cl c) tg (g c)) (hif:∀c,PTs (X.cmp N scope cl c) ifs (tc c)) (he:∀c,PE (X.cmp N scope cl c) elt (te c))
  (hxe:X.xe=NoE:=by rfl) (hc:X.calm=true:=by rfl) (hs:∀x,foldedSetIterable iter X.env x=pure x:=by intro _;rfl) :
  PE X (.ListComp elt [⟨tg,iter,ifs,0⟩] scope pos) (tComp wi js g fun c ac=>tIfC (tc c) (tEmit ac (te c))):=
 pe_compG (WB:=fun c ac=>emitWB (X.cmp N scope cl c) ifs elt ac) hxe hc hi hs h.clos h.kind h.names h.cell h.ccl h.hcn h.shr h.len (fun c it ac=>ht_one) hg fun c ac=>pb_emit hxe (hif c) (he c)
theorem pe_comp2 (h:CompOk X N scope cl js) (hi:PI X tg iter wi) (hg:∀c,PG (X.cmp N scope cl c) tg (g c)) (hif:∀c,PTs (X.cmp N scope cl c) ifs (tc c))
  (hi1:∀c,PI (X.cmp N scope cl c) tg1 iter1 (wi1 c)) (hg1:∀c,PG (X.cmp N scope cl c) tg1 (g1 c)) (hif1:∀c,PTs (X.cmp N scope cl c) ifs1 (tc1 c)) (he:∀c,PE (X.cmp N scope cl c) elt (te c))
  (hs1:∀c x,foldedSetIterable iter1 (X.cmp N scope cl c).env x=pure x:=by intro _ _;rfl)
  (hxe:X.xe=NoE:=by rfl) (hc:X.calm=true:=by rfl) (hs:∀x,foldedSetIterable iter X.env x=pure x:=by intro _;rfl) :
  PE X (.ListComp elt [⟨tg,iter,ifs,0⟩,⟨tg1,iter1,ifs1,0⟩] scope pos) (tComp wi js g fun c ac=>tIfC (tc c) (tFor (wi1 c) (g1 c) (tIfC (tc1 c) (tEmit ac (te c))))):=
 pe_compG (WB:=fun c ac=>outWB (X.cmp N scope cl c) ifs (.ListComp elt [⟨tg,iter,ifs,0⟩,⟨tg1,iter1,ifs1,0⟩] scope pos) iter1 ac) hxe hc hi hs h.clos h.kind h.names h.cell h.ccl h.hcn h.shr h.len (fun c it ac=>ht_out (hs1 c)) hg
  fun c ac=>pb_out hxe hc (hif c) (hi1 c) (hg1 c) (pb_emit hxe (hif1 c) (he c))
end
end L2
namespace L2
open PySem PySem.Spec PyProof.Rows
section
variable {X:Cx} {pins:List (Addr×Obj)} {σ:St} {H:Hp} {s:Shared} {fp:List Addr} {h':Heap}
theorem Inv.turnedL {t':Nat} (I:Inv X pins σ H s) (hf:∀b∈fp,FpOk X pins H b) (k:∀b o,b∉fp→s.heap.get? b=some o→h'.get? b=some o):Inv X pins σ H { s with heap:=h',toks:=t' }:=by
 have nfp:∀b u,H b=some u→b∉fp:=fun b u e z=>by rw[(hf b z).1] at e;cases e
 refine I.call' (ch:=fp) (s':={ s with heap:=h',toks:=t' }) rfl ⟨fun b o e _ _ hx=>k b o hx e,fun b o e _ _ hx=>⟨o.slots,k b o hx e⟩,fun _ _ _ n _=>n,fun b o e hx=>⟨o,k b o hx e⟩,fun _ _ q=>q,fun _ _ _ q=>q,fun _ ps q=>⟨#[],by rw[q];simp⟩⟩ (fun b u e=>?_) I.bare
  fun b hb=>⟨(hf b hb).2.2.2.1,(hf b hb).2.1,(hf b hb).2.2.2.2.1,(hf b hb).2.2.2.2.2⟩
 refine (I.hok b u e).stay (fun c v hc q=>k c v ?_ q) (fun _ q=>q) fun _ _ q=>q
 rcases hc with z | z
 ·rw[z];exact nfp b u e
 ·exact nfp c _ z
end
def Its (z:Str):It:=⟨fun i _=>i<z.length,fun i H x H'=>H'=H∧∃c,z.cps[i]? = some c∧x= .str ⟨#[c]⟩,fun i _=>i=z.length⟩
theorem for_str {z:Str} {g:TG} {tb:TS} {D:Ends} {σ:St} {H:Hp} (Pv:Nat→St→Hp→Prop) (h0:Pv 0 σ H)
  (hs:∀i c σ H,z.cps[i]? = some c→Pv i σ H→g (.str ⟨#[c]⟩) σ H fun σ2 H2=>tb { D with nx:=Pv (i+1),ct:=Pv (i+1),bk:=D.nx } σ2 H2) (hd:∀σ H,Pv z.length σ H→D.nx σ H):loopR (Its z) g tb D σ H:=by
 refine⟨fun i m σ H=>m=z.length-i∧i≤z.length∧Pv i σ H,⟨z.length,by simp,Nat.zero_le _,h0⟩,?_⟩
 rintro i m σ H ⟨rfl,hi,p⟩
 by_cases hlt:i<z.length
 ·refine .inr ⟨hlt,Pv (i+1),fun σ' H' p'=>⟨z.length-(i+1),by omega,rfl,hlt,p'⟩,fun x H' y=>?_⟩
  obtain⟨e,c,ec,e2⟩:=y
  subst e e2
  exact hs i c σ _ ec p
 ·have e:i=z.length:=by omega
  subst e
  exact .inl ⟨rfl,hd σ H p⟩
theorem turn_str {P:Program} {w:World} {K:PySem.W.Frag} {tg:Expr} (ty:String) (hty:["enumerate","zip","dict_itemiterator","dict_reverseitemiterator","odict_iterator","itertools.zip_longest","itertools.pairwise"].contains ty=false) (it:Addr) (z:Str) (t:Tok)
  (W:∀A':Around,A'.handled=none→Walks P w A' it [it] [it] z.cps.size (SignAt z) (fun i h=>h.IsStrIter it ty z t i)) (slf:∀(A:Around) (i:Nat) (s:Shared) (Q:Value→Shared→Prop) (E:Value→Shared→Prop),s.heap.IsStrIter it ty z t i→Q (.ref it) s→wpAny (model P w) A (pyIter (.ref it)) Q E s):Turn P w K tg (Its z) [it] it (fun i h=>h.IsStrIter it ty z t i) where
 mem:=by simp
 obj:=fun i h st b hb=>by
  have e:b=it:=by simpa using hb
  subst e
  obtain⟨o,e,c,d⟩:=st
  exact⟨o,e,fun v z=>by rw[d] at z;cases z⟩
 keep:=fun i h h' st k=>let ⟨o,ho,r⟩:=st;⟨o,k it (by simp) o ho,r⟩
 item:=by
  intro X hP hw hK hc i pins s σ H E I hf st hg
  subst hP hw hK
  refine (W X.A (I.ok.hd hc)).item i s _ _ hg st fun v h' tk hv st' kk=>?_
  obtain⟨c,u,ec,rfl⟩:=hv
  have I1:Inv X pins σ H { s with heap:=h',toks:=tk }:=I.turnedL hf kk
  obtain⟨o,e,cl,d⟩:=id st'
  exact⟨_,rfl,go_of (s:={ s with heap:=h',toks:=tk }) e cl d hty ⟨.str ⟨#[c]⟩,H,I1,⟨u,rfl⟩,⟨rfl,c,ec,rfl⟩,st',fun b hb=>(hf b hb).1⟩⟩
 done:=by
  intro X hP hw hK hc i pins s σ H E I hf st hg
  subst hP hw hK
  have e:i=z.cps.size:=hg
  subst e
  exact (W X.A (I.ok.hd hc)).done s _ _ st fun h' tk kk=>⟨rfl,I.turnedL hf kk⟩
 self:=slf
section
variable {X:Cx} {tg:Expr}
def iStr (tl:TE):TI:=fun σ H R=>tl σ H fun x H1=>∃z,x= .str z∧R (Its z) H1
theorem pi_str {l:Expr} {tl:TE} (hl:PE X l tl):PI X tg l (iStr tl):=by
 intro pins s σ H R I h
 refine thn (hl pins s σ H _ I h) fun v s1 ⟨x,H1,I1,r1,q1⟩=>?_
 obtain⟨z,e,q⟩:=q1
 subst e
 obtain⟨t,rfl⟩:=r1
 have fin:∀(o:Obj) (tn:Nat→Heap→Prop),Turn X.prog X.w X.K tg (Its z) [s1.heap.objs.size] s1.heap.objs.size tn→tn 0 (s1.heap.push o)→PIE X pins σ tg R (.ref s1.heap.objs.size) { s1 with heap:=s1.heap.push o }:=fun o tn T st=>by
  refine⟨s1.heap.objs.size,[s1.heap.objs.size],tn,_,H1,rfl,I1.kept (t':=s1.toks) fun b o e=>Heap.get?_push_of_some _ e,T,st,fun b hb=>?_,q⟩
  have e:b=s1.heap.objs.size:=by simpa using hb
  subst e
  exact I1.fpOk (Nat.le_refl _) (I1.hok.fresh (Nat.le_refl _))
 cases ha:z.cps.all (· < 128)
 ·exact wpAny_pyIter_wide ha (fin _ _ (turn_str "str_iterator" (by decide) _ z t (fun A' hA=>Walks.strWide hA _ z t) fun _ _ _ _ _ st h=>wpAny_pyIter_striter_wide st h) ⟨_,Heap.get?_push_size _ rfl,rfl,rfl⟩)
 ·exact wpAny_pyIter_ascii ha (fin _ _ (turn_str "str_ascii_iterator" (by decide) _ z t (fun A' hA=>Walks.strAscii hA _ z t) fun _ _ _ _ _ st h=>wpAny_pyIter_striter_ascii st h) ⟨_,Heap.get?_push_size _ rfl,rfl,rfl⟩)
end
end L2
namespace L2
open PySem PySem.Spec PyProof.Rows
section
variable {X:Cx}
def rSlS:V→Option Int→Option Int→Hp→VK→Prop:=fun x lo hi H Q=>∃z,x= .str z∧z.length≤sizeLine∧Q (.str (Txt.slice z lo hi)) H
theorem sl_str:SlR X rSlS:=by
 intro pins s σ H x v vl vu lo hi sl Q I rx hs pl pu h
 obtain⟨z,rfl,hz,q⟩:=h
 obtain⟨t,rfl⟩:=rx
 refine⟨"str",_,PySem.F.slot_str_getitem.lookup,typeIs_str _ _ _,?_⟩
 have fin:∀t' k,EP X pins σ Q (.str (Txt.slice z lo hi) t') { s with toks:=k }:=fun t' k=>⟨.str _,H,I.tok _,⟨_,rfl⟩,q⟩
 cases pl with
 | none=>
  cases pu with
  | none=>exact wpAny_getItem_str_slice (l:=none) (u:=none) (st:=none) hs rfl (post_val_or_str ⟨Nat.le_trans (Txt.slice_le z _ _) hz,fin⟩)
  | int j uj=>exact wpAny_getItem_str_slice (l:=none) (u:=some (j,uj)) (st:=none) hs rfl (post_val_or_str ⟨Nat.le_trans (Txt.slice_le z _ _) hz,fin⟩)
 | int i ui=>
  cases pu with
  | none=>exact wpAny_getItem_str_slice (l:=some (i,ui)) (u:=none) (st:=none) hs rfl (post_val_or_str ⟨Nat.le_trans (Txt.slice_le z _ _) hz,fin⟩)
  | int j uj=>exact wpAny_getItem_str_slice (l:=some (i,ui)) (u:=some (j,uj)) (st:=none) hs rfl (post_val_or_str ⟨Nat.le_trans (Txt.slice_le z _ _) hz,fin⟩)
end
theorem slice_to {z:Str} {j:Nat} (h:j≤z.cps.toList.length):(Txt.slice z none (some (j:Int))).cps.toList=z.cps.toList.take j:=by
 have e:Txt.slice z none (some (j:Int))=_:=StrLaws.sliceText_to (x:=z) (j:=(j:Int)) ⟨by omega,by omega⟩
 rw[e]
 simp
theorem slice_from {z:Str} {i:Nat} (h:i≤z.cps.toList.length):(Txt.slice z (some (i:Int)) none).cps.toList=z.cps.toList.drop i:=by
 have e:Txt.slice z (some (i:Int)) none=_:=StrLaws.sliceText_from (x:=z) (i:=(i:Int)) ⟨by omega,by omega⟩
 rw[e]
 have e2:((z.cps.toList.length:Int)-(i:Int)).toNat=(z.cps.toList.drop i).length:=by rw[List.length_drop];omega
 show List.take _ (List.drop _ _)=_
 rw[Int.toNat_natCast,e2,List.take_length]
end L2
namespace L2
open PySem PySem.Spec PyProof.Rows
section
variable {X:Cx} {tg:Expr}
end
end L2
namespace L2
open PySem PySem.Spec PyProof.Rows
structure Stp (fr ch:List Addr) (h h':Heap):Prop where
 keep:∀b o,b∉fr→b∉ch→h.get? b=some o→h'.get? b=some o
 slot:∀b o,b∉ch→h.get? b=some o→∃sl,h'.get? b=some { o with slots:=sl }
theorem Stp.more {fr ch ch':List Addr} {h h':Heap} (x:Stp fr ch h h') (m:∀b∈ch,b∈ch'):Stp fr ch' h h':=
 ⟨fun b o hb hc=>x.keep b o hb fun z=>hc (m b z),fun b o hc=>x.slot b o fun z=>hc (m b z)⟩
theorem Stp.trans {fr ch:List Addr} {h h1 h2:Heap} (x:Stp fr ch h h1) (y:Stp fr ch h1 h2):Stp fr ch h h2:=
 ⟨fun b o hb hc e=>y.keep b o hb hc (x.keep b o hb hc e),fun b o hc e=>let ⟨_,e1⟩:=x.slot b o hc e;let ⟨sl,e2⟩:=y.slot b _ hc e1;⟨sl,e2⟩⟩
theorem Stp.un {fr ch:List Addr} {h h':Heap} (x:Stp fr ch h h') (H:Hp):Un fr ch H H h h':=
 ⟨fun b o e _ hb hx=>x.keep b o hb hx e,fun b o e _ _ hx=>x.slot b o hx e,fun _ _ _ n _=>n,fun b o e hx=>let ⟨_,z⟩:=x.slot b o hx e;⟨_,z⟩,fun _ _ q=>q,fun _ _ _ q=>q,fun _ ps q=>⟨#[],by rw[q];simp⟩⟩
theorem Stp.hok {P:Program} {w:World} {fr ch:List Addr} {h h':Heap} {H:Hp} (x:Stp fr ch h h') (ok:HOk P w H h) (hf:∀b∈fr,H b=none) (hc:∀b∈ch,H b=none):HOk P w H h':=fun b u e=>by
 have nf:∀c v,H c=some v→c∉fr∧c∉ch:=fun c v q=>⟨(fun z=>nomatch (hf c z).symm.trans q),(fun z=>nomatch (hc c z).symm.trans q)⟩
 refine (ok b u e).stay (fun c v hb q=>?_) (fun _ q=>q) fun _ _ q=>q
 rcases hb with z | z
 ·subst z;exact x.keep c v (nf c u e).1 (nf c u e).2 q
 ·exact x.keep c v (nf c _ z).1 (nf c _ z).2 q
def Fly (h:Heap) (e:Addr) (cls:Value) (dx:Option Addr) (T:Addr) (fl:Value):Prop:=
 ∃vs sl oT ts,h.get? e=some ⟨cls,dx,.fields vs,sl⟩∧vs[1]? = some (.ref T)∧T≠e∧h.get? T=some oT∧oT.data= .fields ts∧ts[3]? = some fl∧vs[2]? = some .none
section
variable {M:Model} {A:Around} {E:Value→Shared→Prop} {s:Shared} {base:Heap} {env:Env} {outer:List Env} {L e:Addr} {cls:Value} {dx:Option Addr} {vs:Array Value} {sl:Array (Option Value)} {Q:Unit→Shared→Prop}
theorem entry_at {head:Value} {hadNext:Bool} (hfr:A.frames=some (env::outer)) (hl:s.heap.FunFrames base (env::outer)) (hf:env.frame=some L)
  (he:s.heap.get? e=some ⟨cls,dx,.fields vs,sl⟩) (hsz:1<vs.size) (hv2:vs[2]? = some .none) (k:∀h' T,s.heap.objs.size≤T→Stp (frs (env::outer)) [e] s.heap h'→Fly h' e cls dx T (rawInt L)→Q () { s with heap:=h' }) :
  wpAny M A (do let a ←frameOf env;let pl ←entryPlaceOf L hadNext;let b ←EntryCells.newEntry head a .none (rawInt L) .none pl;setField (.ref e) 1 b) Q E s:=by
 have nfr:e∉frs (env::outer):=fun z=>by
  obtain⟨_,o,ho,nd⟩:=hl.mem z
  rw[he] at ho;cases ho
  exact nd vs rfl
 refine wpAny_bind (wpAny_frameOf_fun hfr hl hf fun h1 so=>wpAny_bind (wpAny_entryPlaceOf fun pl hpl=>?_))
 obtain⟨_,so1,so2⟩:=so
 unfold EntryCells.newEntry newFields
 refine wpAny_bind (wpAny_newObj_type ?_ (hpl.sizeOk5 _ _ _ _ _))
 have e1:h1.get? e=some ⟨cls,dx,.fields vs,sl⟩:=(so1 e nfr).trans he
 have e2:=Heap.get?_push_of_some (h:=h1) { cls:=.type "traceback",dict:=none,data:=.fields ([head,.ref L,.none,rawInt L,.none]++(if pl.isEmpty then List.replicate 6 Value.none else pl)).toArray } e1
 refine wpAny_setField e2 rfl hsz (k _ h1.objs.size (by omega) ?_ ?_)
 ·have other:∀b o,b∉[e]→h1.get? b=some o→∀(ob:Obj) (f:Obj→Obj),((h1.push ob).update e f).get? b=some o:=fun b o hb q ob f=>
   (Heap.get?_update_other _ _ (Ne.symm (List.ne_of_not_mem_cons hb))).trans (Heap.get?_push_of_some _ q)
  refine⟨fun b o hb hc q=>other b o hc ((so1 b hb).trans q) _ _,fun b o hc q=>?_⟩
  obtain⟨sl',z⟩:=so2 b o q
  exact⟨sl',other b _ hc z _ _⟩
 ·have ne:h1.objs.size≠e:=Nat.ne_of_gt (Heap.lt_size e1)
  refine⟨_,sl,_,_,Heap.get?_update_self _ e2 rfl,?_,ne,(Heap.get?_update_other _ _ (Ne.symm ne)).trans (Heap.get?_push_size h1 rfl),rfl,?_,?_⟩
  ·simp[hsz]
  ·rcases hpl with rfl | ⟨_,_,_,_,_,_,_,rfl⟩<;>simp
  ·rw[Array.getElem?_setIfInBounds_ne (by decide)];exact hv2
theorem note_new (hfr:A.frames=some (env::outer)) (hl:s.heap.FunFrames base (env::outer)) (hf:env.frame=some L) (he:s.heap.get? e=some ⟨cls,dx,.fields vs,sl⟩) (h1:vs[1]? = some .none) (hv2:vs[2]? = some .none)
  (k:∀h' T,s.heap.objs.size≤T→Stp (frs (env::outer)) [e] s.heap h'→Fly h' e cls dx T (rawInt L)→Q () { s with heap:=h' }):wpAny M A (noteFrame (.ref e) env) Q E s:=by
 unfold noteFrame
 simp only[hf]
 refine wpAny_bind (wpAny_field he rfl h1 ?_)
 rw[if_neg (by decide)]
 exact entry_at hfr hl hf he (Array.getElem?_eq_some_iff.mp h1).1 hv2 k
theorem fly_set {T:Addr} {fl fl':Value} (hF:Fly s.heap e cls dx T fl):Stp [] [T] s.heap (s.heap.update T (Obj.mapFields (·.setIfInBounds 3 fl')))∧Fly (s.heap.update T (Obj.mapFields (·.setIfInBounds 3 fl'))) e cls dx T fl':=by
 obtain⟨ws,sl,oT,ts,he,h1,ne,hT,hd,h3,hv2⟩:=hF
 have other:∀b o,b∉[T]→s.heap.get? b=some o→(s.heap.update T (Obj.mapFields (·.setIfInBounds 3 fl'))).get? b=some o:=fun b o hb q=>(Heap.get?_update_other _ _ (Ne.symm (List.ne_of_not_mem_cons hb))).trans q
 refine⟨⟨fun b o _ hc q=>other b o hc q,fun b o hc q=>⟨_,other b o hc q⟩⟩,ws,sl,_,_,other e _ (by simpa using Ne.symm ne) he,h1,ne,Heap.get?_update_self _ hT (Obj.isFreed_of_fields (Obj.data_mapFields hd _)),Obj.data_mapFields hd _,?_,hv2⟩
 simp[(Array.getElem?_eq_some_iff.mp h3).1]
theorem note_on {T:Addr} (hfr:A.frames=some (env::outer)) (hl:s.heap.FunFrames base (env::outer)) (hf:env.frame=some L) (hF:Fly s.heap e cls dx T .none)
  (k:∀h' T',s.heap.objs.size≤T'→Stp (frs (env::outer)) [e,T] s.heap h'→Fly h' e cls dx T' (rawInt L)→Q () { s with heap:=h' }):wpAny M A (noteFrame (.ref e) env) Q E s:=by
 obtain⟨S,F2⟩:=fly_set (fl':=.none) hF
 obtain⟨ws,sl,oT,ts,he,h1,ne,hT,hd,h3,hv2⟩:=hF
 unfold noteFrame
 simp only[hf]
 refine wpAny_bind (wpAny_field he rfl h1 ?_)
 rw[if_pos (show (Value.ref T != Value.none)=true by simp)]
 refine wpAny_bind (wpAny_field hT hd h3 ?_)
 rw[if_neg (show ¬((Value.none == rawInt L)=true) by simp[rawInt])]
 refine wpAny_bind (wpAny_setField hT hd (Array.getElem?_eq_some_iff.mp h3).1 ?_)
 obtain⟨ws',sl',_,_,he',h1',_,_,_,_,hv2'⟩:=F2
 refine entry_at hfr (hl.of_keeps fun b o q nd=>?_) hf he' (Array.getElem?_eq_some_iff.mp h1').1 hv2' fun h' T' hle S' F'=>k h' T' (by simpa using hle) ?_ F'
 ·obtain⟨sl2,z⟩:=S.slot b o (fun z=>by
   have z':b=T:=by simpa using z
   subst z'
   rw[hT] at q;cases q
   exact nd ts hd) q
  exact⟨_,z,rfl⟩
 ·refine Stp.trans (h1:=s.heap.update T (Obj.mapFields (·.setIfInBounds 3 Value.none))) ⟨fun b o _ hc q=>S.keep b o (by simp) (fun z=>hc (List.mem_cons_of_mem _ z)) q,fun b o hc q=>S.slot b o (fun z=>hc (List.mem_cons_of_mem _ z)) q⟩ (S'.more fun b hb=>?_)
  rw[List.mem_singleton.mp hb]
  exact List.mem_cons_self
theorem land {T:Addr} {fl:Value} (hF:Fly s.heap e cls dx T fl) (k:∀h',Stp [] [T] s.heap h'→Fly h' e cls dx T .none→Q () { s with heap:=h' }):wpAny M A (setFlight (.ref e) none) Q E s:=by
 obtain⟨S,F2⟩:=fly_set (fl':=.none) hF
 obtain⟨ws,sl,oT,ts,he,h1,ne,hT,hd,h3,hv2⟩:=hF
 unfold setFlight
 refine wpAny_bind (wpAny_field he rfl h1 ?_)
 rw[if_pos (show (Value.ref T != Value.none)=true by simp)]
 exact wpAny_setField hT hd (Array.getElem?_eq_some_iff.mp h3).1 (k _ S F2)
end
end L2
namespace L2
open PySem PySem.Spec PyProof.Rows
def bmV:List Value:=[.type "ValueError",.type "Exception",.type "BaseException",.type "object"]
structure XCls (K:PySem.W.Frag) (C cT:Addr) (ini:Option Addr):Prop where
 cls:∃nm q N bs hdct sn sub ab col dd k0 k1 k2 k3 k5,K.lookup C=some (excClassObj nm q C N bs (.ref cT::bmV) hdct sn sub ab col dd k0 k1 k2 k3 k5 "ValueError.__new__")∧PySem.W.nsOkIn K N=true∧
  PySem.W.nsIn K N "__init__"=some (ini.map Value.ref)
 tail:PySem.W.tailIn K bmV (.ref cT::bmV)=true
 kp:PySem.W.keepIn K (.ref C)=true
theorem nsOk_of {K:PySem.W.Frag} {N:Addr} {oc:Value} {od:Option Addr} {es:Array DictEntry} {ep:Nat} {sl:Array (Option Value)} (l:K.lookup N=some ⟨oc,od,.dict es ep,sl⟩)
  (s:(es.all fun e=>match e.key with | .str _ _=>true | _=>false)=true):PySem.W.nsOkIn K N=true:=by
 unfold PySem.W.nsOkIn
 rw[l]
 exact s
theorem tail_one {K:PySem.W.Frag} {cT:Addr} {c0:Value} {d0:Option Addr} {cd:ClassData} {sl:Array (Option Value)} (l:K.lookup cT=some ⟨c0,d0,.cls cd,sl⟩) (o:PySem.W.nsOkIn K cd.ns=true) (n:PySem.W.nsIn K cd.ns "__init__"=some none) :
  PySem.W.tailIn K bmV (.ref cT::bmV)=true:=by
 have t0:PySem.W.tailIn K bmV bmV=true:=by
  unfold PySem.W.tailIn bmV
  simp
 unfold PySem.W.tailIn
 refine Bool.or_eq_true_iff.mpr (.inr ?_)
 simp only[l,o,n,t0]
 rfl
section
variable {prog:Program} {w:World} {A:Around} {E:Value→Shared→Prop} {h:Heap} {g:Array GenState} {d:Drawn} {t:Nat} {os:OsState}
variable {nm q:Str} {C N:Addr} {bs bm:List Value} {hdct:Bool} {sn:List Str} {sub:List Value} {ab:Bool} {col:Option Bool} {dd:Option Addr} {k0 k1 k2 k3 k5:Option Value}
abbrev exObj (C t:Addr) (dx:Option Addr):Obj:=⟨.ref C,dx,.fields #[.ref t,.none,.none,.none,.bool false,.none],#[]⟩
end
end L2
namespace L2
open PySem PySem.Spec PyProof.Rows
structure XAt (K:PySem.W.Frag) (C cT:Addr):Prop where
 cd:∃cd,PySem.W.clsIn K C=some cd∧cd.mro= .ref C::.ref cT::bmV∧cd.hasDict=true
 sa:PySem.W.findIn K (.ref C) "__setattr__"=some (some (.builtin "object.__setattr__"))
 ga:PySem.W.findIn K (.ref C) "__getattribute__"=some (some (.builtin "BaseException.__getattribute__"))
 gn:PySem.W.findIn K (.ref C) "__getattr__"=some none
 ca:PySem.W.findIn K (.ref C) "__class__"=some (some (.builtin "object.__class__"))
 cg:PySem.W.specialIn K (.builtin "object.__class__") "__get__"=some (some (.builtin "getset_descriptor.__get__"))
 ct:PySem.W.takesIn K (.builtin "object.__class__")=some true
section
variable {prog:Program} {w:World} {A:Around} {E:Value→Shared→Prop} {s:Shared} {K:PySem.W.Frag} {C cT x t:Addr} {f:Str} {u:Value}
theorem XAt.sub {M:Model} {h:Heap} (a:XAt K C cT) (X:K.In h) (b:Value) {r:Bool} (e:(Value.ref C::.ref cT::bmV).contains b=r):PySem.W.Looks M h (isSubtype (.ref C) b) r:=by
 obtain⟨cd,h1,h2,_⟩:=a.cd
 refine PySem.W.looks_mroIn X ?_
 unfold PySem.W.mroIn
 rw[h1,Option.bind_some,h2,if_neg (by simp),e]
end
end L2
namespace L2
open PySem PySem.Spec PyProof.Rows
open Builtin Builtin.ObjectAttr
section
variable {prog:Program} {w:World} {A:Around} {E:Value→Shared→Prop} {s:Shared} {K:PySem.W.Frag} {C cT x:Addr} {ox:Obj} {od:Option Obj} {name:Str} {tk:Tok} {fill expr:Bool} {v:Value}
theorem exc_ga {R:Result→Shared→Prop} (X:K.In s.heap) (a:XAt K C cT) (J:PySem.W.InstAt s.heap x ox C od) {r:Found} (hf:PySem.W.findObj K C od name=some r)
  (k:wpAny (model prog w) A.in1 (match r with | .value v=>ret v | .bind g a=>bindTo g a (.ref x) (.ref C) | .missing=>noSuchAttribute (.ref x) name)
   (fun fin s'=>match fin with | .done f=>R (.ok f) s' | .again c'=>c'.quiet=true∧codeAny (model prog w) A c' R s') (fun e s'=>R (.error e) s') s) (hr:r≠.missing) :
  codeAny (model prog w) A (.call (.builtin "BaseException.__getattribute__") ⟨[.ref x,.str name tk],[]⟩) R s:=by
 have FB:=PySem.F.attrBase_ValueError
 have sub:PySem.W.Looks (model prog w) s.heap (isInstance (.ref x) (.type "BaseException")) true:=J.type.andThen (a.sub X _ rfl)
 refine codeAny_call_builtin FB.ga.plain PySem.F.entry_bexc_ga (@PySem.W.check_slot (model prog w) _ _ s "BaseException.__getattribute__" "BaseException" "__getattribute__" (.ref x) [.str name tk] [] _ (by decide +kernel) (by decide +kernel) sub (PySem.F.args_bexc_ga _ _) ?_)
 obtain⟨h,g,d,t,os⟩:=s
 have L0:=J.type (M:=model prog w)
 have L1:=PySem.W.looks_find (M:=model prog w) X J hf
 refine wpAny_bind (wpAny_pure (wpAny_bind (wpAny_pure (wpAny_bind (L0.at (wpAny_bind (L1.at ?_)))))))
 cases r with
 | value v=>exact k
 | bind g a=>exact k
 | missing=>exact absurd rfl hr
theorem exc_getBy {Q:Value→Shared→Prop} (X:K.In s.heap) (a:XAt K C cT) (J:PySem.W.InstAt s.heap x ox C od)
  (k:codeAny (model prog w) A (.call (.builtin "BaseException.__getattribute__") ⟨[.ref x,.str name tk],[]⟩) (fun r s'=>match r with | .ok (.ret v)=>wpAny (model prog w) A (handedOut v) Q E s' | _=>False) s) :
  wpAny (model prog w) A (getAttrBy (.ref x) (.str name tk) fill expr) Q E s:=by
 have FB:=PySem.F.attrBase_ValueError
 have b0:=FB.ga.bind (.ref x)
 have L0:=J.type (M:=model prog w)
 have L1:=PySem.W.looks_findIn (M:=model prog w) X a.ga
 have L2:=PySem.W.looks_findIn (M:=model prog w) X a.gn
 unfold getAttrBy
 refine wpAny_holding (wpAny_bind (L0.here (wpAny_bind (L1.here ?_))))
 show wpAny _ _ (if (onTheHeap (Value.ref C) && Value.builtin "BaseException.__getattribute__" == Value.builtin "object.__getattribute__")=true then _ else _) _ _ _
 have hx:(Value.builtin "BaseException.__getattribute__" == Value.builtin "object.__getattribute__")=false:=by decide +kernel
 rw[hx,Bool.and_false,if_neg Bool.false_ne_true]
 unfold getAttrByItsOwn
 refine wpAny_bind ?_
 show wpAny _ _ (typeLookup (.ref C) "__getattr__") _ _ _
 refine L2.here (wpAny_bind (wpAny_attempt (wpAny_holding ?_)))
 unfold callGetattribute
 rw[if_neg (by cases expr<;>decide)]
 unfold boundAndCalled
 rw[b0]
 refine wpAny_bind (wpAny_pure (wpAny_call (codeAny_mono k fun r s' z=>?_)))
 rcases r with e | (v | _ | _ | _)<;>first | exact z | exact z.elim | skip
theorem XAt.found (a:XAt K C cT) (od:Option Obj):PySem.W.findObj K C od "__class__"=some (.bind (.builtin "getset_descriptor.__get__") (.builtin "object.__class__")):=by
 obtain⟨cd,hc,_,_⟩:=a.cd
 unfold PySem.W.findObj
 rw[hc,Option.bind_some,a.ca,Option.bind_some]
 simp[a.cg,a.ct]
theorem exc_class {Q:Option Value→Shared→Prop} (X:K.In s.heap) (a:XAt K C cT) (J:PySem.W.InstAt s.heap x ox C od) (k:Q (some (.ref C)) { s with toks:=s.toks+1 }):wpAny (model prog w) A (getAttr? (.ref x) "__class__") Q E s:=by
 have hm:PySem.W.mroIn K C (.type "object")=some true:=by
  obtain⟨cd,hc,hm,_⟩:=a.cd
  unfold PySem.W.mroIn
  rw[hc,Option.bind_some,hm]
  rfl
 unfold getAttr? getAttrBy?
 refine wpAny_bind (wpAny_mkText (wpAny_bind (wpAny_attempt (exc_getBy (s:={ s with toks:=s.toks+1 }) X a J (exc_ga (s:={ s with toks:=s.toks+1 }) X a J (a.found od) ?_ (by intro z;cases z))))))
 show wpAny _ _ (holding [Value.builtin "object.__class__"] (call (.builtin "getset_descriptor.__get__") [.builtin "object.__class__",.ref x,.ref C]) >>= ret) _ _ _
 refine wpAny_bind (wpAny_holding (wpAny_call (PySem.W.class_get (s:={ s with toks:=s.toks+1 }) X J hm (wpAny_pure ?_))))
 show wpAny _ _ (handedOut (.ref C)) _ _ _
 exact wpAny_pure (wpAny_pure k)
theorem kitx_exc (a:XAt K C cT):PySem.W.KitX K (.ref x) (.ref C) (fun h=>PySem.W.InstAt h x ox C od) where
 ty:=fun _ _ _ J=>J.type
 it:=fun _ _ X _=>by
  obtain⟨cd,hc,_,_⟩:=a.cd
  unfold PySem.W.clsIn at hc
  split at hc
  ·rename_i c1 d1 cd1 sl1 ho
   intro A1 Q1 E1 s1 k1 q1
   unfold isType loadHead
   exact wpAny_bind (wpAny_loadPart (k1 _ _ (X _ _ ho)) (wpAny_pure q1))
  ·cases hc
 ne:=fun h tp dd its n sl X htp=>by
  obtain⟨cd,hc,_,_⟩:=a.cd
  refine Bool.eq_false_iff.mpr fun z=>?_
  obtain rfl:C=tp:=Value.ref.inj (beq_iff_eq.mp z)
  unfold PySem.W.clsIn at hc
  split at hc
  ·rename_i c1 d1 cd1 sl1 ho
   exact nomatch (X _ _ ho).symm.trans htp
  ·cases hc
 ca:=fun X J k=>exc_class X a J k
end
end L2
namespace L2
open PySem PySem.Spec PyProof.Rows
def CXE (P:Program) (w:World):CXT:=fun outer H s E e s'=>∃(a T:Addr) (cls:Value) (dx:Option Addr) (H':Hp),e= .ref a∧s'.os=s.os∧AllBare s'.gens∧Un (frs outer) [] H H' s.heap s'.heap∧HOk P w H' s'.heap∧
 Fly s'.heap a cls dx T .none∧H' a=none∧H' T=none∧s.heap.objs.size≤a∧s.heap.objs.size≤T∧E cls dx H'
theorem Un.stp {fs fr ch:List Addr} {H0 H:Hp} {h0 h h':Heap} (u:Un fs [] H0 H h0 h) (S:Stp fr ch h h') (hfr:∀b∈fr,b∈fs∨h0.objs.size≤b) (hch:∀b∈ch,h0.objs.size≤b):Un fs [] H0 H h0 h':=by
 have nc:∀b o,h0.get? b=some o→b∉ch:=fun b o e z=>absurd (Heap.lt_size e) (Nat.not_lt.mpr (hch b z))
 refine⟨fun b o e n hb hx=>S.keep b o (fun z=>?_) (nc b o e) (u.keep b o e n hb hx),fun b o e n hb hx=>?_,u.free,fun b o e hx=>?_,u.tups,u.frzs,u.tbls⟩
 ·rcases hfr b z with q | q
  ·exact hb q
  ·exact absurd (Heap.lt_size e) (Nat.not_lt.mpr q)
 ·obtain⟨sl,e1⟩:=u.slot b o e n hb hx
  obtain⟨sl2,e2⟩:=S.slot b _ (nc b o e) e1
  exact⟨sl2,e2⟩
 ·obtain⟨o1,e1⟩:=u.there b o e hx
  obtain⟨sl2,e2⟩:=S.slot b _ (nc b o e) e1
  exact⟨_,e2⟩
section
variable {P:Program} {w:World} {K:PySem.W.Frag} {mg:Str→Option Value} {base:Heap} {N:List Str} {qual:Str} {scope:Scope} {f:Addr} {cdv:Value} {A:Around} {outer:List Env} {s:Shared} {H:Hp} {E:XK}
def Lets (X:Cx) (E:XK):Prop:=∀(pins:List (Addr×Obj)) (σ:St) (H':Hp) (s':Shared) (a:Addr) (cls:Value) (dx:Option Addr) (vs:Array Value) (sl:Array (Option Value)),Inv X pins σ H' s'→H' a=none→
 s'.heap.get? a=some ⟨cls,dx,.fields vs,sl⟩→(vs[1]? = some .none∧vs[2]? = some .none)→X.s₀.heap.objs.size≤a→E cls dx H'→X.xe (.ref a) s'
theorem lets_own:Lets (cxOf (CXE P w) P w K mg base N qual scope f cdv A outer s H E) E:=by
 intro pins σ H' s' a cls dx vs sl I ha he h1 hsz q
 have hfr:=I.ok.frames
 have hl:=I.stack
 have lt:s.heap.objs.size≤s'.heap.objs.size:=I.sz
 have fr2:∀b∈frs (envOfC qual scope s.heap.objs.size f cdv::outer),b∈frs outer∨s.heap.objs.size≤b:=fun b hb=>by
  rcases List.mem_cons.mp (I.stkSub b hb) with z | z
  ·exact .inr (by rw[z];exact I.ok.above)
  ·exact .inl z
 show wpAny _ _ (leaving _ _) _ _ _
 unfold leaving
 refine wpAny_bind (note_new hfr hl rfl he h1.1 h1.2 fun h2 T hT S F=>land F fun h3 S3 F3=>?_)
 have u2:=Un.stp I.base S fr2 (fun b hb=>by rw[List.mem_singleton.mp hb];exact hsz)
 have u3:=Un.stp u2 S3 (fun b hb=>absurd hb (by simp)) (fun b hb=>by rw[List.mem_singleton.mp hb];exact Nat.le_trans lt hT)
 have hTn:H' T=none:=I.hok.fresh hT
 refine⟨a,T,cls,dx,H',rfl,I.os,I.bare,u3,?_,F3,ha,hTn,hsz,Nat.le_trans lt hT,q⟩
 exact S3.hok (S.hok I.hok I.stkFree fun b hb=>by rw[List.mem_singleton.mp hb];exact ha) (fun b hb=>absurd hb (by simp)) fun b hb=>by rw[List.mem_singleton.mp hb];exact hTn
theorem pass_own {E1:XK} (le:∀cls dx H',E1 cls dx H'→E cls dx H'):Passes (CXE P w) (cxOf (CXE P w) P w K mg base N qual scope f cdv A outer s H E) E1:=by
 intro pins σ H1 s1 e s' I h
 obtain⟨a,T,cls,dx,H',rfl,os,bare,un,hok,F,ha,hT,la,lT,q⟩:=h
 have I2:=I.call' os un hok bare (fun b z=>absurd z (by simp))
 have lt:s.heap.objs.size≤s1.heap.objs.size:=I.sz
 have fr2:∀b∈frs (envOfC qual scope s.heap.objs.size f cdv::outer),b∈frs outer∨s.heap.objs.size≤b:=fun b hb=>by
  rcases List.mem_cons.mp (I2.stkSub b hb) with z | z
  ·exact .inr (by rw[z];exact I2.ok.above)
  ·exact .inl z
 show wpAny _ _ (leaving _ _) _ _ _
 unfold leaving
 refine wpAny_bind (note_on I2.ok.frames I2.stack rfl F fun h2 T2 hT2 S F2=>land F2 fun h3 S3 F3=>?_)
 have l2:s.heap.objs.size≤T2:=Nat.le_trans I2.sz hT2
 have two:∀b∈[a,T],s.heap.objs.size≤b∧H' b=none:=fun b hb=>by
  rcases List.mem_cons.mp hb with z | z
  ·rw[z];exact⟨Nat.le_trans lt la,ha⟩
  ·rw[List.mem_singleton.mp z];exact⟨Nat.le_trans lt lT,hT⟩
 have u2:=Un.stp I2.base S fr2 (fun b hb=>(two b hb).1)
 have u3:=Un.stp u2 S3 (fun b hb=>absurd hb (by simp)) (fun b hb=>by rw[List.mem_singleton.mp hb];exact l2)
 have hTn:H' T2=none:=I2.hok.fresh hT2
 refine⟨a,T2,cls,dx,H',rfl,I2.os,I2.bare,u3,?_,F3,ha,hTn,Nat.le_trans lt la,l2,le _ _ _ q⟩
 exact S3.hok (S.hok I2.hok I2.stkFree fun b hb=>(two b hb).2) (fun b hb=>absurd hb (by simp)) fun b hb=>by rw[List.mem_singleton.mp hb];exact hTn
end
end L2
namespace L2
open PySem PySem.Spec PyProof.Rows
section
variable {X:Cx} {k:Nat} {fI C cT:Addr} {fd:FuncData} {ps:List Str} {sp:Sp} {Ex:XK} {x:Str} {p pos cpos:Pos} {e:Expr} {es:List Expr} {t:TA}
theorem raise_made {A:Around} {E:Value→Shared→Prop} {s:Shared} {env:Env} {M:Model} {K:PySem.W.Frag} {xs:Sem Value} {Q:Flow→Shared→Prop} (a:XAt K C cT) (ty:PySem.W.typeIn K (.ref C)=some (.type "type")) (hh:A.handled=none)
  (h:wpAny M A xs (fun v s1=>∃b tp dx,v= .ref b∧K.In s1.heap∧s1.heap.get? b=some (exObj C tp dx)∧E (.ref b) s1) E s):wpAny M A (raiseStmt env (some xs) none) Q E s:=by
 unfold raiseStmt
 refine wpAny_bind (wpAny_mono h (fun v s1 h1=>?_) fun _ _ z=>z)
 obtain⟨b,tp,dx,rfl,KX,hb,q⟩:=h1
 have hb1:s1.heap.get? b=some ⟨.ref C,dx,.fields #[.ref tp,.none,.none,.none,.bool false,.none],#[]⟩:=hb
 have T0:PySem.W.Looks M s1.heap (typeOf (.ref b)) (.ref C):=(PySem.W.Looks.ld hb1).andThen .now
 have T1:PySem.W.Looks M s1.heap (isType (.ref b)) false:=by
  unfold isType loadHead
  exact (PySem.W.Looks.ld hb1).andThen .now
 have T2:PySem.W.Looks M s1.heap (isExcClass (.ref b)) false:=by
  unfold isExcClass
  exact T1.andThen .now
 have T3:PySem.W.Looks M s1.heap (isInstance (.ref b) (.type "BaseException")) true:=T0.andThen (a.sub KX _ rfl)
 have T4:PySem.W.Looks M s1.heap (excFromValue (.ref b) "exceptions must derive from BaseException") (.ref b):=by
  unfold excFromValue
  exact T2.andThen (T3.andThen .now)
 have T5:PySem.W.Looks M s1.heap (raisedInstance (.ref b)) (.ref b):=by
  unfold raisedInstance
  exact T0.andThen ((PySem.W.looks_typeIn KX ty).andThen .now)
 refine wpAny_bind (wpAny_pure (wpAny_bind (wpAny_holding (T4.here ?_))))
 refine wpAny_bind (T1.here ?_)
 refine wpAny_bind (T5.here ?_)
 refine wpAny_bind ?_
 unfold setFlight
 refine wpAny_bind (wpAny_field hb1 rfl (x:=.none) rfl ?_)
 rw[if_neg (by decide)]
 exact wpAny_pure (wpAny_raiseNew_none hh q)
end
end L2
namespace L2
open PySem PySem.Spec PyProof.Rows
section
variable {X:Cx} {C cT:Addr} {o value:Expr} {ta tv:TE} {f:Str} {pos pos':Pos}
end
end L2
namespace L2
open PySem PySem.Spec PyProof.Rows
def Cx.caught (X:Cx) (a:Addr) (oe:Obj):Cx:={ X with A:=X.A.mark (some (.ref a)),calm:=false,pn:=(a,oe)::X.pn,xe:=fun _ _=>False }
theorem Cx.Ok.caught {X:Cx} (ok:X.Ok) (a:Addr) (oe:Obj):(X.caught a oe).Ok:=
 ⟨ok.mod,ok.kind,ok.glob,ok.blt,ok.above,ok.inj,ok.has,ok.cab,(fun z=>nomatch z),ok.frames,ok.stk,ok.exf,ok.bs,ok.bsz,ok.noex,ok.exfs,ok.funs,ok.frf⟩
section
variable {X:Cx} {pins:List (Addr×Obj)} {σ:St} {H:Hp} {s:Shared} {a:Addr} {oe:Obj}
theorem Inv.caught (I:Inv X pins σ H s) (e:s.heap.get? a=some oe) (n:H a=none) (h1:a≠X.env.locals) (h2:a∉X.fs) (h3:∀v,oe.data≠.cell v):Inv (X.caught a oe) pins σ H s:=
 ⟨I.ok.caught a oe,I.os,I.bare,I.base,I.loc,I.cell,I.free,I.freeC,fun p hp=>by
  rcases List.mem_cons.mp (show p∈(a,oe)::(X.pn++pins) from hp) with z | z
  ·subst z;exact⟨e,n,h1,h2,h3⟩
  ·exact I.pin p z,I.hok,I.len⟩
theorem Inv.uncaught {ok:X.Ok} (I:Inv (X.caught a oe) pins σ H s):Inv X pins σ H s:=
 ⟨ok,I.os,I.bare,I.base,I.loc,I.cell,I.free,I.freeC,fun p hp=>I.pin p (show p∈(a,oe)::(X.pn++pins) from List.mem_cons_of_mem _ hp),I.hok,I.len⟩
theorem Inv.mapGone {h':Heap} {m':Str→Option Value} {t':Nat} (I:Inv X pins σ H s) (hn:h'.Ns X.env.locals m') (hs:Heap.SameBut X.env.locals s.heap h'):Inv X pins (List.replicate X.N.length none) H { s with heap:=h',toks:=t' }:=by
 have neL:∀b o,X.s₀.heap.get? b=some o→b≠X.env.locals:=fun b o e=>Nat.ne_of_lt (Nat.lt_of_lt_of_le (Heap.lt_size e) I.ok.above)
 refine⟨I.ok,I.os,I.bare,⟨fun b o e n hb hx=>(hs.2 b (neL b o e)).trans (I.base.keep b o e n hb hx),fun b o e n hb hx=>?_,I.base.free,fun b o e hx=>?_,I.base.tups,I.base.frzs,I.base.tbls⟩,⟨m',hn,fun i x v _ e2 _=>?_⟩,fun x c e=>?_,I.free,I.freeC,fun p hp=>?_,fun b u e=>?_,by simp⟩
 ·obtain⟨sl,z⟩:=I.base.slot b o e n hb hx
  exact⟨sl,(hs.2 b (neL b o e)).trans z⟩
 ·obtain⟨o',z⟩:=I.base.there b o e hx
  exact⟨o',(hs.2 b (neL b o e)).trans z⟩
 ·rw[List.getElem?_replicate] at e2
  split at e2<;>cases e2
 ·obtain⟨v,z⟩:=I.cell x c e
  exact⟨v,z.sameBut hs (I.cne x c e)⟩
 ·obtain⟨e,n,ne,r⟩:=I.pin p hp
  exact⟨(hs.2 p.1 ne).trans e,n,ne,r⟩
 ·refine (I.hok b u e).stay (fun c v hc q=>(hs.2 c ?_).trans q) (fun _ q=>q) fun _ _ q=>q
  rcases hc with z | z
  ·rw[z];exact ne_of_none e I.free
  ·exact ne_of_none z I.free
theorem Inv.blank (I:Inv X pins σ H s):Inv X pins (List.replicate X.N.length none) H s:=I.weak (by rw[I.len];simp) fun i v e=>by
 rw[List.getElem?_replicate] at e
 split at e<;>cases e
end
theorem exc_match {M:Model} {h:Heap} {K:PySem.W.Frag} {C D a:Addr} {oe:Obj} {r:Bool} (X:K.In h) (hD:PySem.W.typeIn K (.ref D)=some (.type "type")) (cD:(PySem.W.clsIn K D).isSome=true) (hB:PySem.W.mroIn K D (.type "BaseException")=some true) (hs:PySem.W.mroIn K C (.ref D)=some r)
  (he:h.get? a=some oe) (hc:oe.cls= .ref C):PySem.W.Looks M h (excMatches (.ref a) (.ref D)) r:=by
 have T0:PySem.W.Looks M h (typeOf (.ref a)) (.ref C):=hc ▸ (PySem.W.Looks.ld he).andThen .now
 have T1:PySem.W.Looks M h (isInstance (.ref D) (.type "tuple")) false:=(PySem.W.looks_typeIn X hD).andThen (PySem.W.Looks.of_pure tc_notTuple)
 have T2:PySem.W.Looks M h (isType (.ref D)) true:=by
  obtain⟨cd,hcd⟩:=Option.isSome_iff_exists.mp cD
  unfold PySem.W.clsIn at hcd
  split at hcd
  ·rename_i c1 d1 cd1 sl1 ho
   unfold isType loadHead
   exact (PySem.W.Looks.ld (X _ _ ho)).andThen .now
  ·cases hcd
 have T3:PySem.W.Looks M h (isExcClass (.ref D)) true:=by
  unfold isExcClass
  exact T2.andThen (PySem.W.looks_mroIn X hB)
 have T4:=PySem.W.looks_mroIn (M:=M) X hs
 unfold excMatches
 refine T1.andThen ?_
 simp only[Bool.false_eq_true,if_false,pure_bind,List.forIn_cons,List.forIn_nil,bind_assoc]
 refine T3.andThen ?_
 simp only[Bool.not_true,Bool.false_eq_true,if_false,pure_bind]
 refine T0.andThen (T4.andThen ?_)
 cases r<;>simp<;>exact .now
end L2
namespace L2
open PySem PySem.Spec PyProof.Rows
def Cx.within (X:Cx) (pn:List (Addr×Obj)) (E:Value→Shared→Prop):Cx:={ X with pn:=pn,xe:=E }
section
variable {X:Cx} {pins:List (Addr×Obj)} {σ:St} {H:Hp} {s:Shared}
theorem Inv.within (I:Inv X pins σ H s) (E:Value→Shared→Prop):Inv (X.within (X.pn++pins) E) [] σ H s:=
 ⟨⟨I.ok.mod,I.ok.kind,I.ok.glob,I.ok.blt,I.ok.above,I.ok.inj,I.ok.has,I.ok.cab,I.ok.hd,I.ok.frames,I.ok.stk,I.ok.exf,I.ok.bs,I.ok.bsz,I.ok.noex,I.ok.exfs,I.ok.funs,I.ok.frf⟩,I.os,I.bare,I.base,I.loc,I.cell,I.free,I.freeC,
  fun p hp=>I.pin p (by rw[List.append_nil] at hp;exact hp),I.hok,I.len⟩
theorem Inv.out {pins2:List (Addr×Obj)} {E:Value→Shared→Prop} (ok:X.Ok) (I:Inv (X.within (X.pn++pins) E) pins2 σ H s):Inv X pins σ H s:=
 ⟨ok,I.os,I.bare,I.base,I.loc,I.cell,I.free,I.freeC,fun p hp=>I.pin p (List.mem_append_left _ hp),I.hok,I.len⟩
theorem Inv.young (I:Inv X pins σ H s) {b:Addr} (h:s.heap.objs.size≤b):(b∈X.ex∨X.s₀.heap.objs.size≤b)∧b≠X.env.locals∧(∀x c,X.env.cells.lookup x=some c→c≠b)∧∀p∈X.pn++pins,p.1≠b:=
 ⟨.inr (Nat.le_trans I.sz h),Nat.ne_of_gt (Nat.lt_of_lt_of_le I.lt h),fun x c e=>by
  obtain⟨v,o,ho,_⟩:=I.cell x c e
  exact Nat.ne_of_lt (Nat.lt_of_lt_of_le (Heap.lt_size ho) h),fun p hp=>Nat.ne_of_lt (Nat.lt_of_lt_of_le (Heap.lt_size (I.pin p hp).1) h)⟩
end
section
variable {X:Cx} {C Dc:Addr} {i:Nat} {x n:Str} {np hpos pos:Pos} {body suite:List Stmt} {b0:Stmt} {tb:XK→TS} {th:Addr→Obj→TS}
end
end L2
namespace L2
open PySem PySem.Spec PyProof.Rows
section
variable {X:Cx} {C cT:Addr} {e:Expr} {f:Str} {pos:Pos} {ta:TE}
end
end L2
namespace L2
open PySem PySem.Spec PyProof.Rows
theorem kit_ty {K:PySem.W.Frag} {C:Addr} {T:String} {b:Bool} (hm:PySem.W.kitMeta T=true) (h:PySem.W.subIn K (.ref C) (.type T)=some b):PySem.W.kitOne K (.ref C) (.type T)=some b:=by
 unfold PySem.W.kitOne
 rw[if_neg (show ¬((Value.ref C == Value.type T)=true) by intro z;cases beq_iff_eq.mp z)]
 show (if PySem.W.kitMeta T=true then _ else _)=_
 rw[if_pos hm,h]
theorem kit_cl {K:PySem.W.Frag} {C D:Addr} {b:Bool} (ne:(Value.ref C == Value.ref D)=false) (hc:(PySem.W.clsIn K D).isSome=true) (ht:PySem.W.typeIn K (.ref D)=some (.type "type")) (h:PySem.W.subIn K (.ref C) (.ref D)=some b):PySem.W.kitOne K (.ref C) (.ref D)=some b:=by
 unfold PySem.W.kitOne
 rw[ne,if_neg Bool.false_ne_true]
 show (if ((PySem.W.clsIn K D).isSome && PySem.W.typeIn K (.ref D) == some (.type "type"))=true then _ else _)=_
 rw[hc,ht,if_pos (by simp),h]
end L2
namespace L2
open PySem PySem.Spec PyProof.Rows
theorem ns_none {K:PySem.W.Frag} {h:Heap} {N:Addr} {mg:Str→Option Value} {n:Str} (X:K.In h) (G:h.Ns N mg) (e:PySem.W.nsIn K N n=some none):mg n=none:=by
 obtain⟨o,es,ep,ho,hd,_,hf⟩:=G
 unfold PySem.W.nsIn at e
 split at e
 ·rename_i c d es2 n2 sl q
  have z:=X _ _ q
  rw[ho] at z
  cases z
  cases hd
  split at e
  ·cases e
  ·rename_i he
   rw[←hf]
   unfold nsFind findBy
   rw[←Array.find?_toList,he]
   rfl
 ·cases e
section
variable {prog:Program} {w:World} {A:Around} {E:Value→Shared→Prop} {h:Heap} {g:Array GenState} {d:Drawn} {t:Nat} {os:OsState}
variable {nm q:Str} {C N:Addr} {bs bm:List Value} {hdct:Bool} {sn:List Str} {sub:List Value} {ab:Bool} {col:Option Bool} {dd:Option Addr} {k0 k1 k2 k3 k5:Option Value}
theorem exc_tcall0 {mN:Str→Option Value} {us:List Value} {Q:Fin→Shared→Prop} {A2:Around} (T:OwnTail h bmV bm)
  (hC:h.get? C=some (excClassObj nm q C N bs bm hdct sn sub ab col dd k0 k1 k2 k3 k5 "ValueError.__new__")) (hn:h.Ns N mN) (hi:mN "__init__"=none) (hu:us.length≤sizeLine)
  (k:∀h',(∀b o,h.get? b=some o→h'.get? b=some o)→h'.get? (h.objs.size+1)=some (exObj C (h.objs.size+2) none)→Q (.done (.ret (.ref (h.objs.size+1)))) ⟨h',g,d,t,os⟩) :
  wpAny (model prog w) A2 (Builtin.«type.__call__» ⟨.ref C::us,[]⟩) Q E ⟨h,g,d,t,os⟩:=by
 have VF:=PySem.F.excBase_ValueError
 repeat (first | with_reducible refine wpAny_madeBy_exc hC ?_ | with_reducible refine wpAny_loadPart_at hC ?_ | wp_step)
 refine codeAny_call_builtin_code (Code.quiet_builtin _ VF.quiet) (wpAny_check_new_subT VF T hC (codeAny_exc_new_subT VF T hC ?_ hu))
 show wpAny _ _ _ _ _ _
 have kk:∀b o,h.get? b=some o→((h.push { cls:=.type "tuple",data:=.seq us.toArray }).push { cls:=.ref C,data:=.fields #[.ref h.objs.size,.none,.none,.none,.bool false,.none] }).get? b=some o:=fun b o e=>Heap.get?_push_of_some _ (Heap.get?_push_of_some _ e)
 have hE:((h.push { cls:=.type "tuple",data:=.seq us.toArray }).push { cls:=.ref C,data:=.fields #[.ref h.objs.size,.none,.none,.none,.bool false,.none] }).get? (h.objs.size+1)=some { cls:=.ref C,data:=.fields #[.ref h.objs.size,.none,.none,.none,.bool false,.none] }:=by heap_get
 have hself:(Value.ref C::bm).contains (.ref C)=true:=by simp
 have hC2:=kk _ _ hC
 have T2:=T.keeps kk
 unfold isInstance
 repeat (first | with_reducible refine wpAny_loadPart_at hE ?_ | (with_reducible refine wpAny_isSubtype_exc hC2 ?_;rw[hself]) | wp_step)
 show wpAny _ _ (typeLookup (.ref C) _) _ _ _
 refine wpAny_typeLookup_tail hC2 (hn.keeps kk) T2 VF.mroIs VF.init.lookup ?_
 rw[hi]
 refine wpAny_holding (wpAny_bind (wpAny_of_eq (VF.init.bind _) (wpAny_bind (wpAny_call (codeAny_call_builtin VF.init.plain VF.initEntry (wpAny_check_init_subT VF T2 hC2 hE rfl ?_))))))
 wp_walk
 refine k _ (fun b o hb=>?_) ?_
 ·have lt:=Heap.lt_size hb
  rw[Heap.get?_update_other _ _ (Nat.ne_of_gt (Nat.lt_succ_of_lt lt))]
  exact Heap.get?_push_of_some _ (kk b o hb)
 ·rw[Heap.get?_update_self _ (Heap.get?_push_of_some (h:=_) _ hE) rfl]
  simp only[Heap.size_push]
  rfl
theorem exc_make0 {mN:Str→Option Value} {us:List Value} {Q:Value→Shared→Prop} (T:OwnTail h bmV bm)
  (hC:h.get? C=some (excClassObj nm q C N bs bm hdct sn sub ab col dd k0 k1 k2 k3 k5 "ValueError.__new__")) (hn:h.Ns N mN) (hi:mN "__init__"=none) (hu:us.length≤sizeLine)
  (k:∀h',(∀b o,h.get? b=some o→h'.get? b=some o)→h'.get? (h.objs.size+1)=some (exObj C (h.objs.size+2) none)→Q (.ref (h.objs.size+1)) ⟨h',g,d,t,os⟩) :
  wpAny (model prog w) A (call (.ref C) us) Q E ⟨h,g,d,t,os⟩:=by
 have z1:=tc_lookup
 have z2:=tc_bind (.ref C)
 have z3:(⟨h,g,d,t,os⟩:Shared).TypeIs (.ref C) "type":=⟨_,hC,rfl⟩
 refine wpAny_call (codeAny_of_tree ?_)
 show wpAny _ _ (callAny (.ref C) ⟨us,[]⟩) _ _ _
 repeat (any_goals (first | assumption | with_reducible refine wpAny_loadPart_at hC ?_ | wp_step))
 exact⟨rfl,codeAny_call_builtin_at (Code.quiet_builtin _ (by decide +kernel)) entry_typeCall (wpAny_check_type_call_sub hC (exc_tcall0 T hC hn hi hu k))⟩
end
def tRaise0 (C:Addr) (Ex:XK) (t:TA):TS:=fun _ σ H=>t σ H fun _ H1=>Ex (.ref C) none H1
section
variable {X:Cx} {C cT:Addr} {Ex:XK} {x:Str} {p pos cpos:Pos} {e:Expr} {es:List Expr} {t:TA}
theorem ps_raise0 (hx:Lets X Ex) (hc:X.calm=true) (M:XCls X.K C cT none) (at_:XAt X.K C cT) (ty:PySem.W.typeIn X.K (.ref C)=some (.type "type")) (hg:Gl X x) (hm:X.mg x=some (.ref C)) (ha:PA X (e::es) t) (hlen:(e::es).length≤1000:=by decide) (hdb:(x == ("__debug__":Str))=false:=by decide)
  (he:starEach (e::es) X.env=(false,eval e X.env)::starEach es X.env:=by rfl) (hpl:(backTo cpos (starEach es X.env)).any (·.1)=false:=by rfl)
  (hvl:∀σ H (Q:List V→Hp→Prop),t σ H Q→t σ H (fun vs H1=>vs.length≤1000∧Q vs H1)) :
  PS X (.Raise (some (.Call (.Name x p) (e::es) [] cpos)) none pos) (tRaise0 C Ex t):=by
 intro pins s σ H D I h
 rw[arm_exec_Raise]
 refine wpAny_bind (wpAny_standAt (raise_made (K:=X.K) at_ ty (I.ok.hd hc) ?_))
 refine wpAny_bind (thn (Q:=fun v s1=>∃b tp dx,v= .ref b∧X.K.In s1.heap∧s1.heap.get? b=some (exObj C tp dx)∧X.xe (.ref b) s1) ?_ fun v s1 q=>wpAny_bind (wpAny_standAt (wpAny_pure q)))
 refine wpAny_Call_Name_kw (ld_glob I hg hm ?_ hdb)
 refine PySem.W.callWith_K (h₀:=X.base) I.ok.mod.kin M.kp (thn (ha cpos pins s σ H _ I (hvl _ _ _ h)) fun us s1 ⟨vs,H1,I1,r,hl,q⟩=>⟨I1.kIn,?_⟩) he hpl
 show wpAny _ _ (call (.ref C) us) _ _ _
 obtain⟨nm,q0,N,bs,hdct,sn,sub,ab,col,dd,k0,k1,k2,k3,k5,lC,oN,iN⟩:=M.cls
 have KX:=I1.kIn
 have nsN:=Heap.Ns.of_isNs (PySem.W.isNs_of_in KX oN)
 have hul:us.length≤sizeLine:=by rw[←r.length];exact Nat.le_of_lt (small1000 hl)
 obtain⟨hh,g,d,tk,os⟩:=s1
 refine exc_make0 (PySem.W.tail_of_in KX M.tail) (KX _ _ lC) nsN (ns_none KX nsN iN) hul fun h' kk e'=>?_
 have I2:Inv X pins σ H1 ⟨h',g,d,tk,os⟩:=I1.kept (t':=tk) kk
 refine⟨_,_,none,rfl,I2.kIn,e',?_⟩
 exact hx pins σ H1 _ _ _ none _ _ I2 (I1.hok.fresh (Nat.le_succ _)) e' ⟨rfl,rfl⟩ (Nat.le_trans I1.sz (Nat.le_succ _)) q
end
abbrev THs:=Ends→Addr→Option Addr→Hp→Prop
def PHs (X:Cx) (hs:List ExceptHandler) (t:THs):Prop:=
 ∀(pins:List (Addr×Obj)) (D:Ends) (a T C:Addr) (dx:Option Addr) (H:Hp) (s:Shared),Inv X pins (List.replicate X.N.length none) H s→Fly s.heap a (.ref C) dx T .none→H a=none→H T=none→a≠X.env.locals→a∉X.fs→
  ((T∈X.ex∨X.s₀.heap.objs.size≤T)∧T≠X.env.locals∧(∀x c,X.env.cells.lookup x=some c→c≠T)∧∀p∈X.pn++pins,p.1≠T)→t D C dx H→
  wpAny (model X.prog X.w) X.A (handleBy (.ref a) X.env hs) (SP X pins D) X.xe s
theorem phs_nil {X:Cx}:PHs X [] (fun _ _ _ _=>False):=fun _ _ _ _ _ _ _ _ _ _ _ _ _ _ _ h=>h.elim
section
variable {X:Cx} {Dc:Addr} {i:Nat} {x n:Str} {np hpos pos:Pos} {body suite:List Stmt} {b0:Stmt} {tb:XK→TS} {th:Addr→Obj→TS} {hs:List ExceptHandler} {tr:THs}
def tTryH (tb:XK→TS) (th:THs):TS:=fun D σ H=>∃E:XK,tb E D σ H∧∀cls dx H',E cls dx H'→∃C,cls= .ref C∧th D C dx H'
theorem ps_tryH {h0:ExceptHandler} {tt:THs} (hb:∀(E:XK) (pn:List (Addr×Obj)) (Ex:Value→Shared→Prop),Passes (CXE X.prog X.w) (X.within pn Ex) E→PSs (X.within pn Ex) body (tb E)) (hh:PHs X (h0::hs) tt)
  (stk:X.stack=X.env::X.outer) (hf:X.env.frame=some X.env.locals):PS X (.Try body (h0::hs) [] [] pos) (tTryH tb tt):=by
 intro pins s σ H D I h
 obtain⟨E,h1,h2⟩:=h
 have ok:=I.ok
 let Ex:Value→Shared→Prop:=fun e s1=>wpAny (model X.prog X.w) X.A (noteFrame e X.env) (fun _ s2=>wpAny (model X.prog X.w) X.A (setFlight e none) (fun _ s3=>
  wpAny (model X.prog X.w) X.A (handleBy e X.env (h0::hs)) (SP X pins D) X.xe s3) X.xe s2) X.xe s1
 refine wpAny_Try_except (wpAny_mono (hb E (X.pn++pins) Ex ?_ [] s σ H D (I.within Ex) h1) (fun f s1 q=>?_) fun e s1 q=>q)
 ·intro pins2 σ2 H2 s2 e s' I2 hx
  obtain⟨a,T,cls,dx,H',rfl,os,bare,un,hok,F,ha,hT,la,lT,qe⟩:=hx
  obtain⟨C,rfl,hsu⟩:=h2 cls dx H' qe
  have J2:=I2.out ok
  have un':Un (frs X.stack) [] H2 H' s2.heap s'.heap:=un
  have J3:=J2.call' os un' hok bare (fun b z=>absurd z (by simp))
  have st:=J3.stack
  have frm:=ok.frames
  have fre:=J3.stkFree
  rw[stk] at st frm fre
  show wpAny _ _ (noteFrame _ _) _ _ _
  refine note_on frm st hf F fun h4 T4 hT4 S4 F4=>land F4 fun h5 S5 F5=>?_
  have two:∀b∈[a,T],s2.heap.objs.size≤b∧H' b=none:=fun b hb=>by
   rcases List.mem_cons.mp hb with z | z
   ·rw[z];exact⟨la,ha⟩
   ·rw[List.mem_singleton.mp z];exact⟨lT,hT⟩
  have hT4n:H' T4=none:=J3.hok.fresh hT4
  have J4:Inv X pins σ2 H' { s' with heap:=h4 }:=J3.call' (ch:=[a,T]) (s':={ s' with heap:=h4 }) rfl (by rw[stk];exact S4.un H') (S4.hok J3.hok fre fun b hb=>(two b hb).2) J3.bare fun b hb=>J2.young (two b hb).1
  have J5:Inv X pins σ2 H' { s' with heap:=h5 }:=J4.call' (ch:=[T4]) (s':={ s' with heap:=h5 }) rfl ((S5.un H').mono (fun b hb=>absurd hb (by simp)) fun _ z=>z) (S5.hok J4.hok (fun b hb=>absurd hb (by simp)) fun b hb=>by rw[List.mem_singleton.mp hb];exact hT4n) J3.bare
   fun b hb=>by rw[List.mem_singleton.mp hb];exact J3.young hT4
  exact hh pins D a T4 C dx H' _ J5.blank F5 ha hT4n (J2.young la).2.1 (J2.nofs la) (J3.young hT4) hsu
 ·cases f with
  | next=>obtain⟨σ',H',I',q'⟩:=q;exact wpAny_execs_nil ⟨σ',H',I'.out ok,q'⟩
  | brk=>obtain⟨σ',H',I',q'⟩:=q;exact⟨σ',H',I'.out ok,q'⟩
  | cont=>obtain⟨σ',H',I',q'⟩:=q;exact⟨σ',H',I'.out ok,q'⟩
  | ret u=>obtain⟨v,σ',H',I',r',q'⟩:=q;exact⟨v,σ',H',I'.out ok,r',q'⟩
end
def Held0 (X:Cx) (C a:Addr):Prop:=∃vs sl,(a,(⟨.ref C,none,.fields vs,sl⟩:Obj))∈X.pn
theorem Held0.inst {X:Cx} {pins:List (Addr×Obj)} {σ:St} {H:Hp} {s:Shared} {C a:Addr} (h:Held0 X C a) (I:Inv X pins σ H s):∃ox,PySem.W.InstAt s.heap a ox C none:=by
 obtain⟨vs,sl,hp⟩:=h
 obtain⟨e,_⟩:=I.pin _ (List.mem_append_left _ hp)
 exact⟨_,e,rfl,rfl,trivial⟩
section
variable {X:Cx} {C cT:Addr}
def isx0 (X:Cx):List V→Hp→VK→Prop:=fun xs H Q=>∃a C cT y c b,xs=[.ref a,y]∧XAt X.K C cT∧Held0 X C a∧(∀u,RelV y u→u=c)∧PySem.W.kitOne X.K (.ref C) c=some b∧Q (.bl b) H
theorem call_isx0:CallR X (.builtin "isinstance") (isx0 X):=by
 intro pins s σ H xs us Q I r h
 obtain⟨a,C,cT,y,c,b,rfl,at_,hh,hc,hk,q⟩:=h
 obtain⟨u,w',rfl,rx,ry⟩:=vals2 r
 obtain rfl:=hc w' ry
 cases (show u=Value.ref a from rx)
 obtain⟨ox,J⟩:=hh.inst I
 exact PySem.W.kia_one (kitx_exc (x:=a) at_) I.kIn J hk (fun z=>nomatch z) fun tk=>⟨.bl b,H,I.tok _,rfl,q⟩
def rInE (K:PySem.W.Frag):R2:=fun x y H Q=>∃(e p:Addr) (xs:List V) (bs:List Bool),x= .ref e∧y= .ref p∧SqL K H e []∧SqL K H p xs∧bs.length=xs.length∧(∀(i:Nat) v b,xs[i]? = some v→bs[i]? = some b→∃a zs,v= .ref a∧SqL K H a zs∧b=zs.isEmpty)∧Q (.bl (bs.any id)) H
theorem op_inE (hu:X.A.units+9<cLine):OpR X (compareOp .In) (rInE X.K):=by
 intro pins s σ H x y v u Q I rx ry h
 obtain⟨e,p,xs,bs,rfl,rfl,he,hp,hl,hx,q⟩:=h
 cases rx
 cases ry
 obtain⟨its,r,pl,hz⟩:=I.list hp
 obtain⟨its0,r0,pl0,hz0⟩:=I.list he
 cases r0
 have lr:=r.length
 have at':∀(i:Nat) (u:Value),its[i]? = some u→∃b,bs[i]? = some b∧SeqAt.EqAt X.A.in1 s u (.ref e) b:=fun i u hi=>by
  have hil:i<its.length:=(List.getElem?_eq_some_iff.mp hi).1
  have hxi:xs[i]? = some xs[i]:=List.getElem?_eq_getElem (by omega)
  have hbi:bs[i]? = some bs[i]:=List.getElem?_eq_getElem (by omega)
  obtain⟨u2,hu2,ru2⟩:=r.get hxi
  rw[hi] at hu2
  cases hu2
  obtain⟨a,zs,ev,hq,eb⟩:=hx i _ _ hxi hbi
  rw[ev] at ru2
  cases ru2
  refine⟨_,hbi,?_⟩
  obtain⟨itz,rz,plz,_⟩:=I.list hq
  rw[eb]
  by_cases hae:a=e
  ·subst hae
   have hz1:itz=[]:=by
    have h1:=plz.isList
    have h2:=pl0.isList
    obtain⟨o1,g1,_,n1,d1⟩:=h1
    obtain⟨o2,g2,_,n2,d2⟩:=h2
    rw[g1] at g2
    cases g2
    rw[d1] at d2
    cases itz with
    | nil=>rfl
    | cons c r=>cases d2
   subst hz1
   cases rz
   exact SeqAt.EqAt.same _
  ·refine SeqAt.EqAt.of_refs hae ?_
   cases rz with
   | nil=>exact SeqAt.RcAt.lists (e:=fun _=>true) plz.isList pl0.isList rfl (by show X.A.units+1<cLine;omega) (fun j h1=>absurd h1 (Nat.not_lt_zero _))
   | cons r1 r2=>exact SeqAt.RcAt.lists_lengths plz.isList pl0.isList (by simp) (by show X.A.units+1<cLine;omega)
 let f:Value→Bool:=fun u=>(List.range its.length).any fun i=>its[i]? == some u && bs[i]? == some true
 have uniq:∀(i j:Nat) (u:Value),its[i]? = some u→its[j]? = some u→bs[i]? = bs[j]? :=fun i j u hi hj=>by
  have hil:i<its.length:=(List.getElem?_eq_some_iff.mp hi).1
  have hjl:j<its.length:=(List.getElem?_eq_some_iff.mp hj).1
  have hxi:xs[i]? = some xs[i]:=List.getElem?_eq_getElem (by omega)
  have hbi:bs[i]? = some bs[i]:=List.getElem?_eq_getElem (by omega)
  have hxj:xs[j]? = some xs[j]:=List.getElem?_eq_getElem (by omega)
  have hbj:bs[j]? = some bs[j]:=List.getElem?_eq_getElem (by omega)
  obtain⟨u2,hu2,ru2⟩:=r.get hxi
  obtain⟨u3,hu3,ru3⟩:=r.get hxj
  rw[hi] at hu2
  cases hu2
  rw[hj] at hu3
  cases hu3
  obtain⟨a,zs,ev,hq,eb⟩:=hx i _ _ hxi hbi
  obtain⟨a2,zs2,ev2,hq2,eb2⟩:=hx j _ _ hxj hbj
  rw[ev] at ru2
  rw[ev2] at ru3
  cases ru2
  have ea:a=a2:=Value.ref.inj (show Value.ref a=Value.ref a2 from ru3)
  subst ea
  rw[hbi,hbj,eb,eb2]
  obtain⟨it1,rz1,p1,_⟩:=I.list hq
  obtain⟨it2,rz2,p2,_⟩:=I.list hq2
  obtain⟨o1,g1,_,n1,d1⟩:=p1.isList
  obtain⟨o2,g2,_,n2,d2⟩:=p2.isList
  rw[g1] at g2
  cases g2
  rw[d1] at d2
  have eit:it1.toArray=it2.toArray:=by cases d2;rfl
  have eit':it1=it2:=by simpa using eit
  have l1:=rz1.length
  have l2:=rz2.length
  rw[eit'] at l1
  cases zs with
  | nil=>cases zs2 with
   | nil=>rfl
   | cons c d=>simp at l1 l2;omega
  | cons c d=>cases zs2 with
   | nil=>simp at l1 l2;omega
   | cons c2 d2=>rfl
 have ff:∀(i:Nat) (u:Value) (b:Bool),its[i]? = some u→bs[i]? = some b→f u=b:=fun i u b hi hb=>by
  have hil:i<its.length:=(List.getElem?_eq_some_iff.mp hi).1
  cases b with
  | true=>exact List.any_eq_true.mpr ⟨i,List.mem_range.mpr hil,by rw[hi,hb];simp⟩
  | false=>
   refine List.any_eq_false.mpr fun j hj z=>?_
   rw[Bool.and_eq_true] at z
   have z1:its[j]? = some u:=eq_of_beq z.1
   have z2:bs[j]? = some true:=eq_of_beq z.2
   have:=uniq i j u hi z1
   rw[hb,z2] at this
   cases this
 refine SeqAt.in_listAt f pl.isList (fun u hu=>?_) ⟨.bl _,H,I,rfl,?_⟩
 ·have hu':u∈its:=by simpa using hu
  obtain⟨i,hi⟩:=List.getElem?_of_mem hu'
  obtain⟨b,hb,eq⟩:=at' i u hi
  rw[ff i u b hi hb]
  first | exact eq | exact eq.of_in1
 ·have ea:its.toArray.any f=bs.any id:=by
   rw[show its.toArray.any f=its.any f by simp,Bool.eq_iff_iff,List.any_eq_true,List.any_eq_true]
   constructor
   ·rintro⟨u,hu,hf⟩
    obtain⟨i,hi⟩:=List.getElem?_of_mem hu
    obtain⟨b,hb,_⟩:=at' i u hi
    rw[ff i u b hi hb] at hf
    exact⟨b,List.mem_of_getElem? hb,hf⟩
   ·rintro⟨b,hb,hf⟩
    obtain⟨i,hi⟩:=List.getElem?_of_mem hb
    have hil:i<bs.length:=(List.getElem?_eq_some_iff.mp hi).1
    have hii:its[i]? = some its[i]:=List.getElem?_eq_getElem (by omega)
    exact⟨its[i],List.mem_of_getElem? hii,by rw[ff i _ b hii hi];exact hf⟩
  rw[ea]
  exact q
end
end L2
namespace L2
open PySem PySem.Spec PyProof.Rows
def Ends.lost (D:Ends) (i:Nat):Ends:={ nx:=fun σ H=>D.nx (σ.set i none) H,rt:=D.rt,bk:=fun σ H=>D.bk (σ.set i none) H,ct:=fun σ H=>D.ct (σ.set i none) H }
section
variable {X:Cx} {Dc:Addr} {i:Nat} {x n:Str} {np hpos pos:Pos} {body suite:List Stmt} {b0:Stmt} {tb:XK→TS} {th:Addr→Obj→TS} {hs:List ExceptHandler} {tr:THs} {pins:List (Addr×Obj)} {σ:St} {H:Hp} {s:Shared}
theorem Inv.nameGone {Q:Unit→Shared→Prop} (I:Inv X pins σ H s) (hN:X.N.Nodup) (hi:X.N[i]? = some n) (hl:X.env.kindOf n=some .local) (hk:(X.env.scope.kind == .class || (X.env.scope.kind == .module && X.env.locals != X.env.globals))=false)
  (kk:∀s10,Inv X pins (σ.set i none) H s10→Q () s10):wpAny (model X.prog X.w) X.A (do bindName X.env n .none;unbindBehindTheSuite X.env n hpos) Q X.xe s:=by
 obtain⟨m,hn,hl'⟩:=I.loc
 refine wpAny_nameGoes_keeps hl hn hk fun h' v hn' hs'=>kk _ ?_
 have J:=I.mapGone (t':=s.toks+1) hn' hs'
 refine⟨J.ok,J.os,J.bare,J.base,⟨_,hn',fun j y z e1 e2 e3=>?_⟩,J.cell,J.free,J.freeC,J.pin,J.hok,by rw[List.length_set];exact I.len⟩
 have hji:j≠i:=fun e=>by
  rw[e,List.getElem?_set] at e2
  rw[if_pos rfl] at e2
  split at e2<;>cases e2
 have hyn:y≠n:=fun e=>hji (nodup_ix hN (e ▸ e1) hi)
 rw[List.getElem?_set,if_neg (fun e=>hji e.symm)] at e2
 obtain⟨u,ru,hlk⟩:=hl' j y z e1 e2 e3
 rcases hlk with⟨k1,k2⟩|⟨k1,c,k2,k3⟩
 ·exact⟨u,ru,.inl ⟨k1,by simp only[if_neg hyn];exact k2⟩⟩
 ·exact⟨u,ru,.inr ⟨k1,c,k2,k3.sameBut hs' (I.cne y c k2)⟩⟩
end
end L2
namespace L2
open PySem PySem.Spec PyProof.Rows
section
variable {X:Cx} {N:List Str} {scope:Scope} {cl:List (Str×Addr)} {js:List (Option Nat)} {elt tg iter:Expr} {ifs:List Expr} {rest:List Comprehension} {pos spos ypos:Pos} {wi:TI} {g:CC→TG} {tb:CC→Addr→TS} {i:Nat} {y:Str}
theorem ps_compG {WB:CC→Value→WBT} (hxe:X.xe=NoE) (hc:X.calm=true) (hi:PI X tg iter wi) (hs:∀x,foldedSetIterable iter X.env x=pure x) (hclos:closureFor scope X.env=pure cl) (hk:scope.kind= .function)
  (hnames:∀x∈scope.names,x.2= .local→scope.names.lookup x.1=some .local) (hcell:∀x∈scope.names,x.2≠.cell)
  (hcl:∀p∈cl,X.env.cells.lookup p.1=some p.2) (hcn:∀x,((relabel scope X.env).names.lookup x=some .cell∨(relabel scope X.env).names.lookup x=some .free)→∃c,cl.lookup x=some c)
  (hsh:shares X N scope js) (hl:js.length=N.length)
  (ht:∀c it ac,HT (X.cmp N scope cl c) (.ListComp elt (⟨tg,iter,ifs,0⟩::rest) scope pos) 0 it ac tg (WB c ac))
  (hg:∀c,PG (X.cmp N scope cl c) tg (g c)) (hb:∀c ac,PB (X.cmp N scope cl c) (WB c (.ref ac)) (tb c ac))
  (hN:X.N.Nodup) (hy:X.N[i]? = some y) (hyl:Loc X.env.scope y) (hsw:swapsWith (.ListComp elt (⟨tg,iter,ifs,0⟩::rest) scope pos) (some (.Name y ypos)) spos.line X.env=pure true)
  (hf:X.fn y=true∨X.env.scope.names.lookup y=some .local) :
  PS X (.Assign [.Name y ypos] (.ListComp elt (⟨tg,iter,ifs,0⟩::rest) scope pos) spos) (tAsg (tComp wi js g tb) (gName i)):=by
 intro pins s σ H D I h
 rw[exec_Assign_Name_used _ _ _ _ hsw]
 refine wpAny_bind (wpAny_standAt (wpAny_bind ?_))
 rw[arm_evalThenUse_ListComp]
 have h0:=hi pins s σ H _ I h
 refine wpAny_bind (wpAny_mono (wpAny_comprehension_free (use:=some (assign (.Name y ypos) X.env)) (Q:=fun _ s'=>SP X pins D .next s') (cl:=cl) rfl hs hclos hk hnames (thn h0 fun v s1 h1=>thn h1 fun itv s2 h2=>?_)) (fun _ s' hq=>wpAny_pure (wpAny_pure hq)) fun _ _ z=>z)
 obtain⟨it,fp,tn,J,H2,e,I2,T,st2,f2,hR⟩:=h2
 subst e
 refine wpAny_newObj_type (wpAny_newFunctionEnv hcell (by intro y hy;simp at hy) (fun h₁ hns₁ hsb₁=>?_) hk)
 dsimp only at hns₁ hsb₁ ⊢
 have I3:=I2.lnew (ys:=[]) (its:=[]) (t':=s2.toks) .nil (Nat.zero_le _)
 have fpl:∀b∈fp,b<s2.heap.objs.size:=fun b hb=>by
  obtain⟨o,e,_⟩:=T.obj 0 _ st2 b hb
  exact Heap.lt_size e
 have fpa:∀b∈fp,b≠s2.heap.objs.size:=fun b hb=>Nat.ne_of_lt (fpl b hb)
 have f3:∀b∈fp,FpOk X pins (upd H2 s2.heap.objs.size (.lst [])) b:=fun b hb=>⟨by rw[upd_ne (fpa b hb)];exact (f2 b hb).1,(f2 b hb).2⟩
 have hR':=hR ⟨{ s2 with heap:=s2.heap.push { cls:=.type "list",data:=.seq ([]:List Value).toArray } },upd H2 s2.heap.objs.size (.lst []),fp⟩ s2.heap.objs.size I2.fresh
 have I4:=I3.cmp (N:=N) (cl:=cl) (js:=js) (t':=s2.toks) f3 (fun b hb=>by
  show b<(s2.heap.push _).objs.size
  rw[Heap.size_push]
  exact Nat.lt_succ_of_lt (fpl b hb)) hk hcl hcn hsh hl hns₁ hsb₁
 have st4:tn 0 h₁:=T.keep 0 _ _ st2 fun b hb o e=>(hsb₁.2 b (by
  rw[Heap.size_push]
  exact Nat.ne_of_lt (Nat.lt_succ_of_lt (fpl b hb)))).trans (Heap.get?_push_of_some _ (Heap.get?_push_of_some _ e))
 have f4:∀b∈fp,FpOk (X.cmp N scope cl ⟨{ s2 with heap:=s2.heap.push { cls:=.type "list",data:=.seq ([]:List Value).toArray } },upd H2 s2.heap.objs.size (.lst []),fp⟩) [] (upd H2 s2.heap.objs.size (.lst [])) b:=fun b hb=>
  ⟨(f3 b hb).1,(I4.ok.exf b hb).1,I4.ok.exfs b hb,.inl hb,(I4.ok.exf b hb).2,fun p hp=>absurd (show p∈([]:List (Addr×Obj)) from hp) (by simp)⟩
 have lt3:∀b ob,({ s2 with heap:=s2.heap.push { cls:=.type "list",data:=.seq ([]:List Value).toArray } }:Shared).heap.get? b=some ob→b<(s2.heap.push { cls:=.type "list",data:=.seq ([]:List Value).toArray }).objs.size:=fun b ob e=>Heap.lt_size e
 have loop:=codeAny_mono (comp_loop (X:=X.cmp N scope cl ⟨{ s2 with heap:=s2.heap.push { cls:=.type "list",data:=.seq ([]:List Value).toArray } },upd H2 s2.heap.objs.size (.lst []),fp⟩) (e:=.ListComp elt (⟨tg,iter,ifs,0⟩::rest) scope pos) (d:=0) (acc:=.ref s2.heap.objs.size) (pins:=[]) hxe hc (ht _ _ _) rfl rfl rfl T (hg _) (hb _ _) I4 st4 f4 hR') (R':=compPost (model X.prog X.w) X.A X.xe (some (assign (.Name y ypos) X.env)) (fun _ s'=>SP X pins D .next s') (.ref s2.heap.objs.size) (s2.heap.push { cls:=.type "list",data:=.seq ([]:List Value).toArray }).objs.size) (fun r s' hq=>by
  obtain⟨rfl,σ',H',J',q⟩:=hq
  obtain⟨m,hn,_⟩:=id J'.loc
  have I5:Inv X pins σ H' s':=I3.uncmp f3 J' (Heap.SameBut.refl _ _)
  have nL:(s2.heap.push { cls:=.type "list",data:=.seq ([]:List Value).toArray }).objs.size≠X.env.locals:=Nat.ne_of_gt I3.lt
  have nC:∀x c,X.env.cells.lookup x=some c→c≠(s2.heap.push { cls:=.type "list",data:=.seq ([]:List Value).toArray }).objs.size:=fun x c e=>by
   obtain⟨v,o,ho,_⟩:=I3.cell x c e
   exact Nat.ne_of_lt (lt3 _ _ ho)
  show wpAny _ _ (assign (.Name y ypos) X.env (.ref s2.heap.objs.size)) _ _ _
  refine wpAny_assign_Name (store_ok2 I5 hN hy hyl (v:=.ref s2.heap.objs.size) rfl (fun s6 I6 ⟨a,sb,ha⟩=>?_) hf)
  have na:(s2.heap.push { cls:=.type "list",data:=.seq ([]:List Value).toArray }).objs.size≠a:=by
   rcases ha with z | z
   ·rw[z];exact nL
   ·exact Ne.symm (nC _ _ z)
  refine⟨m,hn.sameBut sb na,fun h7 sb7=>?_⟩
  refine⟨_,H',I6.turned (t':=s6.toks) (it:=(s2.heap.push { cls:=.type "list",data:=.seq ([]:List Value).toArray }).objs.size) (fun b ob nb e=>(sb7.2 b nb).trans e) J'.free nL (.inr (Nat.le_trans I3.sz (Nat.le_refl _))) nC (fun p hp=>Nat.ne_of_lt (lt3 _ _ (I3.pin p hp).1)),q⟩)
 exact comp_start (X:=X.cmp N scope cl ⟨{ s2 with heap:=s2.heap.push { cls:=.type "list",data:=.seq ([]:List Value).toArray } },upd H2 s2.heap.objs.size (.lst []),fp⟩) rfl rfl rfl (fun _=>rfl) True.intro loop (T.self _ 0 _ _ _ st4 loop)
variable {tg1 iter1:Expr} {ifs1:List Expr} {wi1:CC→TI} {g1:CC→TG} {tc tc1:CC→TT} {te:CC→TE}
theorem ps_comp1 (hN:X.N.Nodup) (hy:X.N[i]? = some y) (hyl:Loc X.env.scope y) (h:CompOk X N scope cl js) (hi:PI X tg iter wi) (hg:∀c,PG (X.cmp N scope cl c) tg (g c)) (hif:∀c,PTs (X.cmp N scope cl c) ifs (tc c)) (he:∀c,PE (X.cmp N scope cl c) elt (te c))
  (hxe:X.xe=NoE:=by rfl) (hc:X.calm=true:=by rfl) (hs:∀x,foldedSetIterable iter X.env x=pure x:=by intro _;rfl) (hsw:swapsWith (.ListComp elt [⟨tg,iter,ifs,0⟩] scope pos) (some (.Name y ypos)) spos.line X.env=pure true:=by rfl)
  (hf:X.fn y=true∨X.env.scope.names.lookup y=some .local:=by first | exact .inl rfl | exact .inr rfl) :
  PS X (.Assign [.Name y ypos] (.ListComp elt [⟨tg,iter,ifs,0⟩] scope pos) spos) (tAsg (tComp wi js g fun c ac=>tIfC (tc c) (tEmit ac (te c))) (gName i)):=
 ps_compG (WB:=fun c ac=>emitWB (X.cmp N scope cl c) ifs elt ac) hxe hc hi hs h.clos h.kind h.names h.cell h.ccl h.hcn h.shr h.len (fun c it ac=>ht_one) hg (fun c ac=>pb_emit hxe (hif c) (he c)) hN hy hyl hsw hf
end
end L2
namespace L2
open PySem PySem.Spec PyProof.Rows
abbrev Up (xs:Array Nat):Prop:=xs.toList.Pairwise (· < ·)
theorem Up.lt {xs:Array Nat} (u:Up xs) {i j:Nat} {a b:Nat} (h:i<j) (ha:xs[i]? = some a) (hb:xs[j]? = some b):a<b:=by
 have ha':xs.toList[i]? = some a:=by simpa using ha
 have hb':xs.toList[j]? = some b:=by simpa using hb
 obtain⟨h1,e1⟩:=List.getElem?_eq_some_iff.mp ha'
 obtain⟨h2,e2⟩:=List.getElem?_eq_some_iff.mp hb'
 have:=List.pairwise_iff_getElem.mp u i j h1 h2 h
 omega
structure Bel (xs:Array Nat) (j p:Nat):Prop where
 le:p≤xs.size
 lo:∀i a,i<p→xs[i]? = some a→a<j
 hi:∀i a,p≤i→xs[i]? = some a→j≤a
theorem below_go {xs:Array Nat} (u:Up xs) (j:Nat):∀(fuel lo hi:Nat),hi-lo≤fuel→lo≤hi→hi≤xs.size→(∀i a,i<lo→xs[i]? = some a→a<j)→(∀i a,hi≤i→xs[i]? = some a→j≤a)→
  Bel xs j (SetTable.below.go xs j fuel lo hi)
 | 0,lo,hi,h1,h2,h3,h4,h5=>by
  have e:lo=hi:=by omega
  subst e
  exact⟨h3,h4,h5⟩
 | fuel+1,lo,hi,h1,h2,h3,h4,h5=>by
  unfold SetTable.below.go
  by_cases hlt:lo<hi
  ·rw[if_pos hlt]
   have hm:(lo+hi) / 2<xs.size:=by omega
   have eg:xs[(lo+hi) / 2]? = some xs[(lo+hi) / 2]:=Array.getElem?_eq_getElem hm
   have ed:xs.getD ((lo+hi) / 2) j=xs[(lo+hi) / 2]:=by simp[Array.getD,hm]
   show Bel xs j (if xs.getD ((lo+hi) / 2) j<j then _ else _)
   rw[ed]
   split
   ·rename_i hl
    refine below_go u j fuel ((lo+hi) / 2+1) hi (by omega) (by omega) h3 (fun i a hi' ha=>?_) h5
    by_cases e:i=(lo+hi) / 2
    ·subst e;rw[eg] at ha;cases ha;exact hl
    ·exact Nat.lt_trans (u.lt (show i<(lo+hi) / 2 by omega) ha eg) hl
   ·rename_i hl
    refine below_go u j fuel lo ((lo+hi) / 2) (by omega) (by omega) (by omega) h4 (fun i a hi' ha=>?_)
    by_cases e:i=(lo+hi) / 2
    ·subst e;rw[eg] at ha;cases ha;omega
    ·have:=u.lt (show (lo+hi) / 2<i by omega) eg ha
     omega
  ·rw[if_neg hlt]
   have e:lo=hi:=by omega
   subst e
   exact⟨h3,h4,h5⟩
theorem below_is {xs:Array Nat} (u:Up xs) (j:Nat):Bel xs j (SetTable.below xs j):=
 below_go u j xs.size 0 xs.size (by omega) (Nat.zero_le _) (Nat.le_refl _) (fun i a h=>absurd h (Nat.not_lt_zero _)) fun i a h e=>by
  have:=(Array.getElem?_eq_some_iff.mp e).1
  omega
theorem below_next {xs:Array Nat} (u:Up xs) {i a:Nat} (h:xs[i]? = some a):SetTable.below xs (a+1)=i+1:=by
 have b:=below_is u (a+1)
 have hi:i<xs.size:=(Array.getElem?_eq_some_iff.mp h).1
 have h1:i<SetTable.below xs (a+1):=by
  rcases Nat.lt_or_ge i (SetTable.below xs (a+1)) with q | q
  ·exact q
  ·have:=b.hi i a q h
   omega
 rcases Nat.lt_or_ge (i+1) (SetTable.below xs (a+1)) with q | q
 ·have hs:i+1<xs.size:=Nat.lt_of_lt_of_le q b.le
  have e2:=Array.getElem?_eq_getElem hs
  have:=b.lo (i+1) _ q e2
  have:=u.lt (Nat.lt_succ_self i) h e2
  omega
 ·omega
theorem below_zero {xs:Array Nat} (u:Up xs):SetTable.below xs 0=0:=by
 have b:=below_is u 0
 rcases Nat.eq_zero_or_pos (SetTable.below xs 0) with q | q
 ·exact q
 ·have hs:0<xs.size:=Nat.lt_of_lt_of_le q b.le
  have:=b.lo 0 _ q (Array.getElem?_eq_getElem hs)
  omega
theorem up_insert {xs:Array Nat} (u:Up xs) {j:Nat} (h:xs[SetTable.below xs j]?≠some j):Up (SetTable.insertAt xs (SetTable.below xs j) j):=by
 have b:=below_is u j
 generalize SetTable.below xs j=p at b h
 unfold Up
 rw[SetTable.toList_insertAt]
 have e1:∀x∈xs.toList.take p,x<j:=fun x hx=>by
  obtain⟨i,hi⟩:=List.mem_iff_getElem?.mp hx
  rw[List.getElem?_take] at hi
  split at hi
  ·rename_i hlt
   exact b.lo i x hlt (by simpa using hi)
  ·cases hi
 have e2:∀x∈xs.toList.drop p,j<x:=fun x hx=>by
  obtain⟨i,hi⟩:=List.mem_iff_getElem?.mp hx
  rw[List.getElem?_drop] at hi
  have hi':xs[p+i]? = some x:=by simpa using hi
  have:=b.hi (p+i) x (Nat.le_add_right _ _) hi'
  have ne:x≠j:=fun e=>by
   subst e
   cases i with
   | zero=>exact h hi'
   | succ i=>
    have hp:p<xs.size:=by
     have:=(Array.getElem?_eq_some_iff.mp hi').1
     omega
    have eg:=Array.getElem?_eq_getElem hp
    have h3:=b.hi p _ (Nat.le_refl _) eg
    have h4:=u.lt (show p<p+(i+1) by omega) eg hi'
    omega
  omega
 have u':(xs.toList.take p++xs.toList.drop p).Pairwise (· < ·):=by rw[List.take_append_drop];exact u
 obtain⟨p1,p2,p3⟩:=List.pairwise_append.mp u'
 refine List.pairwise_append.mpr ⟨p1,List.pairwise_cons.mpr ⟨e2,p2⟩,fun x hx y hy=>?_⟩
 rcases List.mem_cons.mp hy with q | q
 ·rw[q];exact e1 x hx
 ·exact Nat.lt_trans (e1 x hx) (e2 y q)
theorem up_range (n:Nat):Up (Array.range n):=by
 unfold Up
 rw[Array.toList_range]
 exact List.pairwise_lt_range
end L2
namespace L2
open PySem PySem.Spec PyProof.Rows
structure TabOk (byT:Bool) (t:SetTable):Prop where
 dum:t.dummies = #[]
 led:t.led = !byT
 up:Up t.place
structure TabIt (byT:Bool) (t:SetTable):Prop where
 led:t.led = !byT
 up:Up t.place
theorem TabOk.it {byT:Bool} {t:SetTable} (h:TabOk byT t):TabIt byT t:=⟨h.led,h.up⟩
theorem TabOk.plain_off {byT:Bool} {t:SetTable} (h:TabOk byT t):TabOk byT { t with plain:=false }:=⟨h.dum,h.led,h.up⟩
theorem TabOk.standIn {byT:Bool} {t:SetTable} (h:TabOk byT t) (n:Nat):TabOk byT (t.standIn n):=⟨rfl,h.led,up_range n⟩
theorem TabOk.orStandIn {byT:Bool} {t:SetTable} (h:TabOk byT t) (n:Nat):TabOk byT (t.orStandIn n):=by
 unfold SetTable.orStandIn
 split
 ·exact h
 ·exact h.standIn n
theorem TabOk.fresh (byT:Bool) (led:Bool) (e:led = !byT):TabOk byT (.fresh 0 0 led):=⟨rfl,e,List.Pairwise.nil⟩
theorem has_nil (j:Nat):SetTable.has #[] j=false:=by
 unfold SetTable.has
 simp
theorem advance_dummy (t:SetTable) (p:SetTable.Probe):(t.advance p).dummy=p.dummy:=by
 unfold SetTable.advance
 split
 ·rfl
 ·rfl
theorem probe_go {t:SetTable} (hd:t.dummies = #[]) {hashAt:Nat→Int} {h:Int} {j:Nat} {d:Option Nat}:∀(fuel:Nat) (p:SetTable.Probe),p.dummy=none→SetTable.probe.go t hashAt h fuel p=some (.empty j d)→d=none∧t.place[SetTable.below t.place j]?≠some j
 | 0,_,_,e=>by cases e
 | fuel+1,p,hp,e=>by
  unfold SetTable.probe.go at e
  have hs:∀j,t.slot j=if t.place[SetTable.below t.place j]? == some j then .live (SetTable.below t.place j) else .empty:=fun j=>by
   unfold SetTable.slot
   rw[hd,has_nil]
   rfl
  rw[hs] at e
  split at e
  ·rename_i hlive
   split at hlive
   ·cases hlive
   ·rename_i hne
    injection e with e
    injection e with e1 e2
    subst e1
    refine⟨by rw[←e2,hp],fun z=>hne (by rw[z];simp)⟩
  ·rename_i hlive
   split at hlive<;>cases hlive
  ·split at e
   ·cases e
   ·exact probe_go hd fuel _ (by rw[advance_dummy];exact hp) e
theorem TabOk.layNew {byT:Bool} {t:SetTable} (ok:TabOk byT t) (es:Array (Int×Value)) (h:Int) (x:Value):TabOk byT (layNew t es h x).2.1:=by
 unfold PySem.layNew
 cases ef:t.freeSlot h with
 | none=>exact ok.standIn _
 | some sw=>
  obtain⟨slot,wd⟩:=sw
  show TabOk byT ((t.put slot).1.orStandIn _)
  refine TabOk.orStandIn ?_ _
  unfold SetTable.freeSlot at ef
  split at ef
  ·rename_i j dummy eq
   have:=probe_go ok.dum _ _ rfl eq
   obtain⟨rfl,hne⟩:=this
   injection ef with ef
   injection ef with e1 e2
   have e1':j=slot:=e1
   subst e1'
   unfold SetTable.put
   refine⟨?_,ok.led,up_insert ok.up hne⟩
   show (if SetTable.has t.dummies j then _ else t.dummies) = #[]
   rw[ok.dum,has_nil]
   rfl
  ·cases ef
theorem TabOk.relayAll {byT:Bool} {t:SetTable} (ok:TabOk byT t) (es:Array (Int×Value)) (wanted:Nat):TabOk byT (relayAll t es wanted).2.1:=by
 unfold PySem.relayAll
 cases er:t.relaid (es.map (·.1)) wanted with
 | none=>exact ok.standIn _
 | some to=>
  obtain⟨t',order⟩:=to
  dsimp only
  split
  ·unfold SetTable.relaid SetTable.laid at er
   cases eo:SetTable.layClean (SetTable.sizeAbove wanted-1) (es.map (·.1)) with
   | none=>rw[eo] at er;cases er
   | some owner=>
    rw[eo] at er
    injection er with er
    injection er with e1 e2
    subst e1
    refine⟨rfl,ok.led,?_⟩
    show (List.map (fun x:Nat×Nat=>x.fst) (List.filterMap (fun j=>Option.map (fun x=>(j,x)) (owner.getD j none)) (List.range (SetTable.sizeAbove wanted-1+1)))).toArray.toList.Pairwise (· < ·)
    rw[List.toList_toArray]
    rw[List.map_filterMap]
    refine List.Pairwise.filterMap _ (R:=(· < ·)) ?_ List.pairwise_lt_range
    intro a a' hlt b hb b' hb'
    have f:∀{a b:Nat},Option.map (fun x:Nat×Nat=>x.1) (Option.map (fun x=>(a,x)) (owner.getD a none))=some b→b=a:=fun {a b} e=>by
     cases q:owner.getD a none with
     | none=>rw[q] at e;cases e
     | some y=>rw[q] at e;injection e with e;exact e.symm
    rw[f hb,f hb']
    exact hlt
  ·exact ok.standIn _
end L2
namespace L2
open PySem PySem.Spec PyProof.Rows
def keyOf (e:Int×Value):Int:=match e.2 with | .int k _=>k | _=>0
def EGood (l:List (Int×Value)):Prop:=∀e∈l,e.1=hashInt (keyOf e)∧∃t,e.2= .int (keyOf e) t
abbrev byT (w:World):Bool:=w.params.followText "set-order"
def SetIs (w:World) (h:Heap) (a:Addr) (ks:List Int):Prop:=
 ∃o es ep t,h.get? a=some o∧o.ExactSet∧o.data= .set es ep t∧EGood es.toList∧es.toList.map keyOf=ks∧ks.Nodup∧ks.length<2000∧TabOk (byT w) t∧t.fits es.size=true
theorem SetIs.keep {w:World} {h h':Heap} {a:Addr} {ks:List Int} (x:SetIs w h a ks) (k:∀o,h.get? a=some o→h'.get? a=some o):SetIs w h' a ks:=by
 obtain⟨o,es,ep,t,ho,r⟩:=x
 exact⟨o,es,ep,t,k o ho,r⟩
def SetIt (w:World) (h:Heap) (a:Addr) (ks:List Int):Prop:=
 ∃o es ep t,h.get? a=some o∧o.ExactSet∧o.data= .set es ep t∧EGood es.toList∧es.toList.map keyOf=ks∧ks.Nodup∧ks.length<2000∧TabIt (byT w) t∧t.fits es.size=true
theorem SetIs.it {w:World} {h:Heap} {a:Addr} {ks:List Int} (x:SetIs w h a ks):SetIt w h a ks:=by
 obtain⟨o,es,ep,t,h1,h2,h3,h4,h5,h6,h7,h8,h9⟩:=x
 exact⟨o,es,ep,t,h1,h2,h3,h4,h5,h6,h7,h8.it,h9⟩
theorem SetIt.keep {w:World} {h h':Heap} {a:Addr} {ks:List Int} (x:SetIt w h a ks) (k:∀o,h.get? a=some o→h'.get? a=some o):SetIt w h' a ks:=by
 obtain⟨o,es,ep,t,ho,r⟩:=x
 exact⟨o,es,ep,t,k o ho,r⟩
section
variable {prog:Program} {w:World} {A:Around} {E:Value→Shared→Prop} {s:Shared} {a:Addr} {ks:List Int} {k:Int} {tk:Tok}
theorem EGood.elems {l:List (Int×Value)} (h:EGood l):ElemsOf (intKind prog w) l:=fun e he=>by
 obtain⟨h1,t,h2⟩:=h e he
 refine⟨⟨keyOf e,?_,h1⟩,?_⟩
 ·rw[h2];exact intKind_is _ _ _ _
 ·rw[h2];rfl
theorem EGood.is {l:List (Int×Value)} (h:EGood l) {e:Int×Value} (he:e∈l) {j:Int}:(intKind prog w).is j e.2=true↔j=keyOf e:=by
 obtain⟨_,t,h2⟩:=h e he
 constructor
 ·intro q
  exact (intKind prog w).inj e.2 j (keyOf e) q (by rw[h2];exact intKind_is _ _ _ _)
 ·rintro rfl
  rw[h2]
  exact intKind_is _ _ _ _
theorem sz_map {es:Array (Int×Value)} (e:es.toList.map keyOf=ks):es.size=ks.length:=by rw[←e,List.length_map,Array.length_toList]
theorem set_stored {h:Heap} {o:Obj} {es es':Array (Int×Value)} {ep:Nat} {t t':SetTable} (ho:h.get? a=some o) (hex:o.ExactSet) (hd:o.data= .set es ep t) (g:EGood es'.toList) (nd:(es'.toList.map keyOf).Nodup) (hl:es'.size<2000) (ok:TabOk (byT w) t') (hf:t'.fits es'.size=true) :
  (h.update a (Obj.putSet es' t')).get? a=some { o with data:=.set es' (ep+1) t' }∧SetIs w (h.update a (Obj.putSet es' t')) a (es'.toList.map keyOf):=by
 have hg:(h.update a (Obj.putSet es' t')).get? a=some { o with data:=.set es' (ep+1) t' }:=by
  have:=Heap.get?_update_self (Obj.putSet es' t') ho (by rw[putSet_of es' t' hd];rfl)
  rw[putSet_of es' t' hd] at this;exact this
 exact⟨hg,_,es',ep+1,t',hg,hex,rfl,g,rfl,nd,by rw[List.length_map,Array.length_toList];exact hl,ok,hf⟩
theorem fit2000 {n:Nat} (h:n<2000):n<scanBound:=by unfold scanBound;omega
theorem add_tail {g:Bool→Sem Unit} (hg:∀(b:Bool) (s₁:Shared) (Q':Unit→Shared→Prop),Q' () s₁→wpAny (model prog w) A (g b) Q' E s₁)
  {o:Obj} {es es1:Array (Int×Value)} {ep:Nat} {t t2:SetTable} (ho:s.heap.get? a=some o) (hex:o.ExactSet) (hd:o.data= .set es ep t) (g1:EGood es1.toList) (nd:(es1.toList.map keyOf).Nodup) (hl:es1.size<2000) (ok:TabOk (byT w) t2) (hf:t2.fits es1.size=true) {wasDummy:Bool} {R:Option Bool→Shared→Prop}
  (h:∀h' ks',Heap.SameBut a s.heap h'→SetIs w h' a ks'→ks'.Perm (es1.toList.map keyOf)→R (some true) { s with heap:=h' }) :
  wpAny (model prog w) A (do
    storeSet a es1 t2
    if (!wasDummy && t2.tooFull)=true then do
      g (relayAll t2 es1 (SetTable.grown es1.size)).2.2
      storeSet a (relayAll t2 es1 (SetTable.grown es1.size)).1 (relayAll t2 es1 (SetTable.grown es1.size)).2.1
      pure (some true)
     else pure (some true)) R E s:=by
 refine wpAny_bind (wpAny_storeSet_of ho hd ?_ (fits_of_scanBound (fit2000 hl)))
 obtain⟨ho1,hS1⟩:=set_stored (w:=w) ho hex hd g1 nd hl ok hf
 have hsb1:=Heap.SameBut.update s.heap a (Obj.putSet es1 t2)
 split
 ·have hp:=relayAll_perm t2 es1 (SetTable.grown es1.size)
  have hfr:=relayAll_fits t2 es1 (SetTable.grown es1.size)
  have okr:=ok.relayAll es1 (SetTable.grown es1.size)
  generalize hRl:relayAll t2 es1 (SetTable.grown es1.size)=Rl at hp hfr okr ⊢
  obtain⟨es2,t3,gave2⟩:=Rl
  dsimp only at hp hfr okr ⊢
  have hsz:es2.size=es1.size:=by rw[←Array.length_toList,hp.length_eq,Array.length_toList]
  have hb2:es2.size<2000:=by rw[hsz];exact hl
  have g2:EGood es2.toList:=fun e he=>g1 e (hp.mem_iff.mp he)
  refine wpAny_bind (hg _ _ _ ?_)
  refine wpAny_bind (wpAny_storeSet_of ho1 rfl ?_ (fits_of_scanBound (fit2000 hb2)))
  obtain⟨_,hS2⟩:=set_stored (w:=w) ho1 hex rfl g2 ((hp.map keyOf).nodup_iff.mpr nd) hb2 okr hfr
  exact wpAny_pure (h _ _ (hsb1.trans (Heap.SameBut.update _ a _)) hS2 (hp.map keyOf))
 ·exact wpAny_pure (h _ _ hsb1 hS1 (List.Perm.refl _))
theorem set_add {Q:Bool→Shared→Prop} (hS:SetIs w s.heap a ks) (hroom:ks.length+1<2000)
  (h:∀h' ks',Heap.SameBut a s.heap h'→SetIs w h' a ks'→(∀j,j∈ks'↔j∈ks∨j=k)→ks'.length≤ks.length+1→Q (!decide (k∈ks)) { s with heap:=h' }) :
  wpAny (model prog w) A (setAddHashed a (.int k tk) (hashInt k)) Q E s:=by
 obtain⟨o,es,ep,t,ho,hex,hd,hg,hk,nd,hl,ok,hf⟩:=id hS
 have hsz:=sz_map hk
 have hkey:(intKind prog w).is k (.int k tk)=true:=intKind_is _ _ _ _
 unfold setAddHashed setAddHashedIn
 refine wpAny_holding (wpAny_bind (wpAny_setState_of ho hd hf ?_))
 dsimp only
 rw[byScan_of (knd:=intKind prog w) rfl (by rw[hsz];exact fit2000 hl) hg.elems]
 simp only[↓reduceIte]
 unfold setAddByScan
 refine wpAny_bind ?_
 refine wpAny_bind (wpAny_rule ?_)
 refine wpAny_bind (wpAny_setScan_of (knd:=intKind prog w) hkey ho hd hf hg.elems ?_)
 cases hr:List.findIdx? (fun e=>(intKind prog w).is k e.2) es.toList with
 | some j=>
  dsimp only
  obtain⟨hj,hpj,_⟩:=List.findIdx?_eq_some_iff_getElem.mp hr
  have hmem:k∈ks:=by
   rw[←hk,(hg.is (List.getElem_mem hj)).mp hpj]
   exact List.mem_map_of_mem (List.getElem_mem hj)
  refine wpAny_pure (wpAny_pure ?_)
  have e:s={ s with heap:=s.heap }:=by cases s;rfl
  have:=h s.heap ks (Heap.SameBut.refl a s.heap) hS (fun j=>⟨.inl,fun z=>z.elim id fun z=>z ▸ hmem⟩) (Nat.le_succ _)
  rw[decide_eq_true hmem] at this;rw[e];exact this
 | none=>
  dsimp only
  have hmem:k∉ks:=fun z=>by
   rw[←hk] at z
   obtain⟨e,he,rfl⟩:=List.mem_map.mp z
   have:=List.findIdx?_eq_none_iff.mp hr e he
   rw[(hg.is he).mpr rfl] at this
   cases this
  have hgw:∀(b:Bool) {s₁:Shared} {Q':Unit→Shared→Prop},Q' () s₁→wpAny (model prog w) A (match b with | true=>rule "set.scan.the-table-gave-way" | false=>pure ()) Q' E s₁:=
   fun b s₁ Q' hq=>by cases b<;>first | exact wpAny_pure hq | exact wpAny_rule hq
  have hperm:=layNew_perm t es (hashInt k) (.int k tk)
  have hfits:=layNew_fits t es (hashInt k) (.int k tk)
  have ok1:=ok.layNew es (hashInt k) (.int k tk)
  generalize hL:layNew t es (hashInt k) (.int k tk)=L at hperm hfits ok1
  have hL':layNew t es ((intKind prog w).hash k) (.int k tk)=L:=hL
  show wpAny (model prog w) A _ _ E s
  obtain⟨es1,t1,wasDummy,gave⟩:=L
  simp only[hL]
  dsimp only at hperm hfits ok1 ⊢
  rw[Array.toList_push] at hperm
  have hg1:EGood es1.toList:=fun e he=>by
   rcases List.mem_append.mp (hperm.mem_iff.mp he) with z | z
   ·exact hg e z
   ·rw[List.mem_singleton.mp z]
    exact⟨rfl,tk,rfl⟩
  have hpk:(es1.toList.map keyOf).Perm (ks++[k]):=by
   have:=hperm.map keyOf
   rw[List.map_append,hk] at this
   exact this
  have nd1:(es1.toList.map keyOf).Nodup:=hpk.nodup_iff.mpr (List.nodup_append.mpr ⟨nd,List.nodup_cons.mpr ⟨by simp,List.nodup_nil⟩,fun x hx y hy=>by rw[List.mem_singleton.mp hy];intro z;subst z;exact hmem hx⟩)
  have hl1:es1.size<2000:=by
   have:=hpk.length_eq
   rw[List.length_map,Array.length_toList,List.length_append] at this
   rw[this]
   exact hroom
  refine wpAny_bind (hgw _ ?_)
  have hend:∀h' ks',Heap.SameBut a s.heap h'→SetIs w h' a ks'→ks'.Perm (es1.toList.map keyOf)→Q true { s with heap:=h' }:=by
   intro h' ks' hsb hS' hp'
   have hq:=hp'.trans hpk
   have:=h h' ks' hsb hS' (fun j=>by rw[hq.mem_iff,List.mem_append,List.mem_singleton]) (by rw[hq.length_eq,List.length_append];exact Nat.le_refl _)
   rw[decide_eq_false hmem] at this
   exact this
  split
  ·refine wpAny_bind ?_
   rw[hashByValue_scannable 8 (x:=.int k tk) rfl]
   refine wpAny_pure ?_
   refine add_tail ?_ ho hex hd hg1 nd1 hl1 ?_ ?_ ?_
   ·intro b s₁ Q' hq;cases b<;>first | exact wpAny_pure hq | exact wpAny_rule hq
   ·split
    ·exact ok1
    ·exact ok1.plain_off
   ·split
    ·exact hfits
    ·exact SetTable.fits_plain_off hfits
   ·intro h' ks' hsb hS' hp';dsimp only;exact wpAny_pure (hend h' ks' hsb hS' hp')
  ·refine wpAny_bind (wpAny_pure ?_)
   simp only[↓reduceIte]
   refine add_tail ?_ ho hex hd hg1 nd1 hl1 ok1 hfits ?_
   ·intro b s₁ Q' hq;cases b<;>first | exact wpAny_pure hq | exact wpAny_rule hq
   ·intro h' ks' hsb hS' hp';dsimp only;exact wpAny_pure (hend h' ks' hsb hS' hp')
end
end L2
namespace L2
open PySem PySem.Spec PyProof.Rows
abbrev set0 (w:World):Obj:={ cls:=.type "set",dict:=none,data:=.set #[] 0 (.fresh 0 0 (!byT w)) }
theorem set0_is {w:World} {h:Heap}:SetIs w (h.push (set0 w)) h.objs.size []:=
 ⟨_,#[],0,_,Heap.get?_push_size _ rfl,⟨rfl,rfl,rfl⟩,rfl,fun e he=>absurd he (by simp),rfl,List.nodup_nil,by decide,TabOk.fresh _ _ rfl,rfl⟩
section
variable {prog:Program} {w:World} {A:Around} {E:Value→Shared→Prop} {s:Shared} {a:Addr} {ks:List Int} {k:Int} {tk:Tok}
theorem SetIs.typeIs (hS:SetIs w s.heap a ks):s.TypeIs (.ref a) "set":=let ⟨o,_,_,_,ho,hc,_⟩:=hS;⟨o,ho,hc.1⟩
theorem SetIs.noDict (hS:SetIs w s.heap a ks):∀b,Value.ref a= .ref b→∃ob,s.heap.get? b=some ob∧ob.dict=none:=
 fun b e=>by injection e with e;subst e;exact let ⟨o,_,_,_,ho,hc,_⟩:=hS;⟨o,ho,hc.2.1⟩
theorem SetIt.typeIs (hS:SetIt w s.heap a ks):s.TypeIs (.ref a) "set":=let ⟨o,_,_,_,ho,hc,_⟩:=hS;⟨o,ho,hc.1⟩
theorem code_new {vs:List Value} (hv:vs=[]∨∃x,vs=[x]) {Q₁:Value→Shared→Prop}
  (h:Q₁ (.ref s.heap.objs.size) { s with heap:=s.heap.push (set0 w) }) :
  codeAny (model prog w) A (.call (.builtin "set.__new__") ⟨.type "set"::vs,[]⟩) (wants Q₁ E) s:=by
 have hn:checkBuiltinCall "set.__new__" ⟨.type "set"::vs,[]⟩=pure ():=by
  rcases hv with rfl | ⟨x,rfl⟩
  ·exact F.newCall_set_0
  ·exact F.newCall_set_1 x
 refine codeAny_of_tree ?_
 show wpAny _ A.in1 (do checkBuiltinCall "set.__new__" ⟨.type "set"::vs,[]⟩;again (.builtin "set.__new__" ⟨.type "set"::vs,[]⟩)) _ _ s
 refine wpAny_bind (wpAny_of_eq hn (wpAny_pure ⟨plainId_quiet F.plain_set_new _,codeAny_builtin F.entry_set_new ?_⟩))
 rw[Around.under_plainId F.plain_set_new _]
 have hsub:=sub_set_self
 obtain⟨hp,g,d,tk,os⟩:=s
 rcases hv with rfl | ⟨x,rfl⟩
 all_goals
  unfold Builtin.«set.__new__» Builtin.Frozenset.newClass
  dsimp only
  wp_walk
  refine wpAny_askSetting (wpAny_pure ?_)
  dsimp only
  simp only[newObj]
  refine wpAny_bind (wpAny_alloc (wpAny_pure ?_))
  exact wpAny_pure h
set_option maxHeartbeats 1000000 in
theorem call_new {Q:Value→Shared→Prop} (h:Q (.ref s.heap.objs.size) { s with heap:=s.heap.push (set0 w) }):wpAny (model prog w) A (call (.type "set") []) Q E s:=by
 obtain⟨c,tl,hmro⟩:=F.called_set.mro
 have hmade:=F.called_set.made
 have hsub:=F.called_set.sub
 refine wpAny_call (codeAny_of_tree ?_)
 show wpAny _ _ (callAny (.type "set") _) _ _ _
 refine wpAny_pure ⟨Code.quiet_builtin _ (by decide +kernel),codeAny_builtin F.entry_type_call ?_⟩
 rw[Around.under_plain (weight_type_call_type "set" [] []) rfl]
 have h1:=F.called_set.notType
 have h2:=F.called_set.canCreate
 have hct:=F.typeCall_set_0
 repeat (any_goals (first | assumption | wp_step))
 refine codeAny_mono (code_new (E:=E) (.inl rfl) (Q₁:=fun obj s₁=>obj= .ref s.heap.objs.size∧s₁={ s with heap:=s.heap.push (set0 w) }) ⟨rfl,rfl⟩) fun r s₁ hr=>?_
 cases r with
 | error e=>exact hr
 | ok fl=>
  cases fl with
  | ret obj=>
   obtain⟨rfl,rfl⟩:=hr
   have hS:(s.heap.push (set0 w)).get? s.heap.objs.size=some (set0 w):=Heap.get?_push_size _ rfl
   have hT:Shared.TypeIs { s with heap:=s.heap.push (set0 w) } (.ref s.heap.objs.size) "set":=⟨_,hS,rfl⟩
   have hli:=F.called_set.init.lookup
   have hbi:=F.called_set.init.bind (.ref s.heap.objs.size)
   repeat (any_goals (first | assumption | wp_step))
   refine codeAny_mono (codeAny_call_builtin (R:=wants (fun r s₂=>r= .none∧Q (.ref s.heap.objs.size) s₂) E) F.called_set.init.plain F.entry_set_init (check_set_init hT ?_)) fun r₂ s₂ hr₂=>?_
   ·unfold Builtin.«set.__init__» noKeywords
    wp_walk
    exact⟨rfl,h⟩
   ·cases r₂ with
    | error e=>exact hr₂
    | ok fl₂=>
     cases fl₂ with
     | ret r=>
      obtain⟨rfl,hQ⟩:=hr₂
      repeat (any_goals (first | assumption | wp_step))
     | _=>exact hr₂.elim
  | _=>exact hr.elim
theorem call_add {Q:Value→Shared→Prop} (hS:SetIs w s.heap a ks) (hroom:ks.length+1<2000)
  (h:∀h' ks',Heap.SameBut a s.heap h'→SetIs w h' a ks'→(∀j,j∈ks'↔j∈ks∨j=k)→ks'.length≤ks.length+1→Q .none { s with heap:=h',toks:=s.toks+1 }) :
  wpAny (model prog w) A (call (.builtin "set.add") [.ref a,.int k tk]) Q E s:=by
 refine wpAny_call_entry F.slot_set_add hS.typeIs F.entry_set_add ?_ (F.args_set_add_2 _ _)
 unfold Builtin.«set.add» Builtin.Frozenset.oneOther
 simp only[List.isEmpty_nil,bind_assoc]
 unfold Builtin.Frozenset.addrOf setAdd
 refine wpAny_bind (wpAny_pure ?_)
 try dsimp only
 refine wpAny_bind (wpAny_pure ?_)
 try dsimp only
 refine wpAny_bind ?_
 refine wpAny_holding ?_
 refine wpAny_bind ((intKind prog w).pyHash (k:=k) (intKind_is _ _ _ _) ?_)
 refine set_add (s:={ s with toks:=s.toks+1 }) hS hroom fun h' ks' hsb hS' hm hl=>?_
 show wpAny _ _ (ret Value.none) _ _ _
 exact wpAny_pure ⟨_,rfl,h h' ks' hsb hS' hm hl⟩
end
end L2
namespace L2
open PySem PySem.Spec PyProof.Rows
theorem slot_setit_next:Slot "set_iterator" "__next__" "set_iterator.__next__":=
 .of (owner:="set_iterator") (n:="__next__") (by rw[typeLookup_type,builtinLookup_eq_fast];kernel_rfl) (by decide +kernel) (by decide +kernel) (by decide +kernel)
  (by first | exact .inl (by decide +kernel) | exact .inr (by decide +kernel)) (by rw[isSubtype_type];kernel_rfl)
theorem entry_setit_next:entryFor table "set_iterator.__next__"=some Builtin.«set_iterator.__next__»:=entryFor_of_tree (by kernel_rfl)
theorem args_setit_next (a:Value):argsOk "set_iterator.__next__" ⟨[a],[]⟩:=by unfold argsOk;kernel_rfl
theorem entry_set_iter:entryFor table "set.__iter__"=some Builtin.«frozenset.__iter__»:=entryFor_alias (id':="frozenset.__iter__") (by kernel_rfl) rfl (by decide +kernel) (by kernel_rfl)
theorem slot_setit_iter:Slot "set_iterator" "__iter__" "set_iterator.__iter__":=
 .of (owner:="set_iterator") (n:="__iter__") (by rw[typeLookup_type,builtinLookup_eq_fast];kernel_rfl) (by decide +kernel) (by decide +kernel) (by decide +kernel)
  (by first | exact .inl (by decide +kernel) | exact .inr (by decide +kernel)) (by rw[isSubtype_type];kernel_rfl)
theorem entry_setit_iter:entryFor table "set_iterator.__iter__"=some Builtin.«dict_keyiterator.__iter__»:=entryFor_alias (id':="dict_keyiterator.__iter__") (by kernel_rfl) rfl (by decide +kernel) (by kernel_rfl)
theorem args_setit_iter (a:Value):argsOk "set_iterator.__iter__" ⟨[a],[]⟩:=by unfold argsOk;kernel_rfl
theorem slot_set_len':Slot "set" "__len__" "set.__len__":=
 .of (owner:="set") (n:="__len__") (by rw[typeLookup_type,builtinLookup_eq_fast];kernel_rfl) (by decide +kernel) (by decide +kernel) (by decide +kernel)
  (by first | exact .inl (by decide +kernel) | exact .inr (by decide +kernel)) (by rw[isSubtype_type];kernel_rfl)
end L2
namespace L2
open PySem PySem.Spec PyProof.Rows
inductive Mode (w:World) (a:Addr) (es:Array (Int×Value)) (ep:Nat) (t:SetTable) (h:Heap):(Nat→Value)→List Value→Prop where
 | text:byT w=true→Mode w a es ep t h (fun _=>rawInt 0) ((pickOrder (w.params.setOrder a ep) es).toList.map (·.2))
 | led:byT w=false→(!t.plain && decide (es.size>1))=false→Mode w a es ep t h (fun i=>rawInt (((if i=0 then 0 else t.place.getD (i-1) 0+1:Nat)):Int)) (es.toList.map (·.2))
 | drw (T:Addr) (o:Obj) (c:Nat) (ps:List Nat):byT w=false→h.get? T=some o→o.data= .seq (ps.map fun (i:Nat)=>rawInt i).toArray c→(∀p∈ps,p<es.size)→Mode w a es ep t h (fun _=>.ref T) (ps.map fun p=>(es.getD p (0,.none)).2)
def ItAt (h:Heap) (it a:Addr) (first:Value) (i n ep:Nat):Prop:=∃o,h.get? it=some o∧o.cls= .type "set_iterator"∧o.data= .fields #[first,rawInt i,.ref a,rawInt n,rawInt ep]
theorem ItAt.typeIs {s:Shared} {it a:Addr} {first:Value} {i n ep:Nat} (x:ItAt s.heap it a first i n ep):s.TypeIs (.ref it) "set_iterator":=let ⟨o,ho,hc,_⟩:=x;⟨o,ho,hc⟩
section
variable {prog:Program} {w:World} {A:Around} {E:Value→Shared→Prop} {s:Shared} {a it:Addr} {o:Obj} {es:Array (Int×Value)} {ep i:Nat} {t:SetTable} {fst:Nat→Value} {ord:List Value}
theorem it_set2 {h:Heap} {first f2:Value} {n:Nat} (x:ItAt h it a first i n ep):ItAt ((h.update it (Obj.mapFields (·.setIfInBounds 0 f2))).update it (Obj.mapFields (·.setIfInBounds 1 (rawInt ((i:Int)+1))))) it a f2 (i+1) n ep:=by
 obtain⟨o,ho,hc,hd⟩:=x
 have h1:=Heap.get?_update_self (Obj.mapFields (·.setIfInBounds 0 f2)) ho (Obj.isFreed_of_fields (Obj.data_mapFields hd _))
 have hd1:=Obj.data_mapFields hd (·.setIfInBounds 0 f2)
 refine⟨_,Heap.get?_update_self _ h1 (Obj.isFreed_of_fields (Obj.data_mapFields hd1 _)),(Obj.cls_mapFields ..).trans ((Obj.cls_mapFields ..).trans hc),?_⟩
 rw[Obj.data_mapFields hd1]
 simp
theorem it_set1 {h:Heap} {first:Value} {n:Nat} (x:ItAt h it a first i n ep):ItAt (h.update it (Obj.mapFields (·.setIfInBounds 1 (rawInt ((i:Int)+1))))) it a first (i+1) n ep:=by
 obtain⟨o,ho,hc,hd⟩:=x
 refine⟨_,Heap.get?_update_self _ ho (Obj.isFreed_of_fields (Obj.data_mapFields hd _)),(Obj.cls_mapFields ..).trans hc,?_⟩
 rw[Obj.data_mapFields hd]
 simp
theorem set_next {Q:Option (Value×Nat)→Shared→Prop} {slot:Nat} (ho:s.heap.get? a=some o) (hd:o.data= .set es ep t) (ok:TabIt (byT w) t) (hf:t.fits es.size=true) (hb:byT w=false) (hn:(!t.plain && decide (es.size>1))=false)
  (hs:slot=if i=0 then 0 else t.place.getD (i-1) 0+1) (hi:i≤es.size) (q:Q (match es[i]?,t.place[i]? with | some (_,x),some j=>some (x,j+1) | _,_=>none) s):wpAny (model prog w) A (setNext a slot i ep) Q E s:=by
 have hpl:t.place.size=es.size:=by
  unfold SetTable.fits at hf
  exact beq_iff_eq.mp (Bool.and_eq_true_iff.mp hf).1
 have hbel:SetTable.below t.place slot=i:=by
  rw[hs]
  split
  ·rename_i e;rw[e];exact below_zero ok.up
  ·rename_i e
   have h1:i-1<t.place.size:=by omega
   have eg:=Array.getElem?_eq_getElem h1
   have ed:t.place.getD (i-1) 0=t.place[i-1]:=by simp[Array.getD,h1]
   rw[ed,below_next ok.up eg]
   omega
 unfold setNext setsByText
 refine wpAny_bind (wpAny_setState_of ho hd hf ?_)
 dsimp only
 refine wpAny_bind (wpAny_bind (wpAny_askSetting (wpAny_pure ?_)))
 show wpAny _ _ (if byT w=true then _ else _) _ _ _
 rw[hb,if_neg Bool.false_ne_true]
 show wpAny _ _ (if (!t.plain && decide (es.size>1))=true then _ else _) _ _ _
 rw[hn,if_neg Bool.false_ne_true]
 refine wpAny_bind ?_
 show wpAny _ _ (if (!t.led && !es.isEmpty)=true then _ else _) _ _ _
 rw[ok.led,hb,if_neg (by simp)]
 refine wpAny_pure ?_
 rw[hbel]
 exact wpAny_pure q
theorem set_nextT {Q:Option (Value×Nat)→Shared→Prop} {slot:Nat} (ho:s.heap.get? a=some o) (hd:o.data= .set es ep t) (hf:t.fits es.size=true) (hb:byT w=true)
  (q:Q (((pickOrder (w.params.setOrder a ep) es)[i]?).map fun e=>(e.2,slot)) s):wpAny (model prog w) A (setNext a slot i ep) Q E s:=by
 unfold setNext setsByText
 refine wpAny_bind (wpAny_setState_of ho hd hf ?_)
 dsimp only
 refine wpAny_bind (wpAny_bind (wpAny_askSetting (wpAny_pure ?_)))
 show wpAny _ _ (if byT w=true then _ else _) _ _ _
 rw[hb,if_pos rfl]
 show wpAny _ _ (if (ep != ep)=true then _ else _) _ _ _
 rw[if_neg (by simp)]
 refine wpAny_bind ?_
 unfold setWalk setsByText
 refine wpAny_bind (wpAny_setState_of ho hd hf ?_)
 dsimp only
 refine wpAny_bind (wpAny_bind (wpAny_askSetting (wpAny_pure ?_)))
 show wpAny _ _ (if byT w=true then _ else _) _ _ _
 rw[hb,if_pos rfl]
 refine wpAny_bind (wpAny_askSetting ?_)
 exact wpAny_pure (wpAny_pure q)
theorem set_nextD {Q:Value→Shared→Prop} {p:Nat} {e:Int×Value} (ho:s.heap.get? a=some o) (hd:o.data= .set es ep t) (hf:t.fits es.size=true) (hp:es[p]? = some e) (q:Q e.2 s):wpAny (model prog w) A (setNextDrawn a p ep) Q E s:=by
 unfold setNextDrawn
 refine wpAny_bind (wpAny_setState_of ho hd hf ?_)
 dsimp only
 show wpAny _ _ (if (ep != ep)=true then _ else _) _ _ _
 rw[if_neg (by simp)]
 simp only[hp]
 exact wpAny_pure q
theorem next_item {x:Value} {Q:Option Value→Shared→Prop} (hit:ItAt s.heap it a (fst i) i es.size ep) (ho:s.heap.get? a=some o) (hd:o.data= .set es ep t) (ok:TabIt (byT w) t) (hf:t.fits es.size=true) (M:Mode w a es ep t s.heap fst ord) (hx:ord[i]? = some x) (hl:ord.length=es.size)
  (hQ:∀h',ItAt h' it a (fst (i+1)) (i+1) es.size ep→Heap.SameBut it s.heap h'→Q (some x) { s with heap:=h' }):wpAny (model prog w) A (pyNext (.ref it)) Q E s:=by
 obtain⟨oi,hoi,hci,hdi⟩:=id hit
 have hix:i<es.size:=by rw[←hl];exact (List.getElem?_eq_some_iff.mp hx).1
 unfold pyNext
 refine wpAny_bind (wpAny_attempt (wpAny_callSpecial?_slot (name:=Str.ofString "__next__") hit.typeIs slot_setit_next
  (wpAny_call_entry slot_setit_next hit.typeIs entry_setit_next ?_ (args_setit_next _))))
 show wpAny _ _ (fieldsOf (.ref it) >>= _) _ _ s
 refine wpAny_bind (wpAny_fieldsOf hoi hdi ?_)
 show wpAny _ _ (setEntries a >>= _) _ _ s
 refine wpAny_bind (wpAny_setEntries_of ho hd hf ?_)
 show wpAny _ _ (if (((es.size:Nat):Int) != ((es.size:Nat):Int))=true then _ else _) _ _ _
 rw[if_neg (by simp)]
 have hd1:=fun f2:Value=>Obj.data_mapFields hdi (·.setIfInBounds 0 f2)
 have ho1:=fun f2:Value=>Heap.get?_update_self (Obj.mapFields (·.setIfInBounds 0 f2)) hoi (Obj.isFreed_of_fields (hd1 f2))
 cases M with
 | text hb=>
  rw[List.getElem?_map] at hx
  obtain⟨e,he,rfl⟩:=Option.map_eq_some_iff.mp hx
  have he':(pickOrder (w.params.setOrder a ep) es)[i]? = some e:=by simpa using he
  refine wpAny_bind (set_nextT (i:=i) (ep:=ep) ho hd hf hb ?_)
  rw[he']
  refine wpAny_bind (wpAny_setField hoi hdi (by simp) ?_)
  refine wpAny_bind (wpAny_setField (ho1 _) (hd1 _) (by simp) (wpAny_pure ⟨e.2,rfl,wpAny_pure (hQ _ (it_set2 hit) ((Heap.SameBut.update ..).trans (Heap.SameBut.update ..)))⟩))
 | led hb hn=>
  rw[List.getElem?_map] at hx
  obtain⟨e,he,rfl⟩:=Option.map_eq_some_iff.mp hx
  have he':es[i]? = some e:=by simpa using he
  have hpl:t.place.size=es.size:=by
   unfold SetTable.fits at hf
   exact beq_iff_eq.mp (Bool.and_eq_true_iff.mp hf).1
  have hp1:i<t.place.size:=by omega
  have hp:t.place[i]? = some t.place[i]:=Array.getElem?_eq_getElem hp1
  have ed:t.place.getD i 0=t.place[i]:=by simp[Array.getD,hp1]
  refine wpAny_bind (set_next (i:=i) (ep:=ep) ho hd ok hf hb hn rfl (Nat.le_of_lt hix) ?_)
  rw[he',hp]
  refine wpAny_bind (wpAny_setField hoi hdi (by simp) ?_)
  refine wpAny_bind (wpAny_setField (ho1 _) (hd1 _) (by simp) (wpAny_pure ⟨e.2,rfl,wpAny_pure (hQ _ ?_ ((Heap.SameBut.update ..).trans (Heap.SameBut.update ..)))⟩))
  have e2:rawInt (((if i+1=0 then 0 else t.place.getD (i+1-1) 0+1:Nat)):Int)=rawInt ((t.place[i]+1:Nat):Int):=by rw[if_neg (by omega),Nat.add_sub_cancel,ed]
  show ItAt _ it a (rawInt (((if i+1=0 then 0 else t.place.getD (i+1-1) 0+1:Nat)):Int)) (i+1) es.size ep
  rw[e2]
  exact it_set2 hit
 | drw T oT c ps hb hT hdT hps=>
  rw[List.getElem?_map] at hx
  obtain⟨p,hp,rfl⟩:=Option.map_eq_some_iff.mp hx
  have hpe:p<es.size:=hps p (List.mem_of_getElem? hp)
  have ee:es[p]? = some es[p]:=Array.getElem?_eq_getElem hpe
  have ed:es.getD p (0,.none)=es[p]:=by simp[Array.getD,hpe]
  show wpAny _ _ (seqItems? (.ref T) >>= _) _ _ _
  refine wpAny_bind (wpAny_seqItems hT hdT ?_)
  have hpi:((ps.map fun (i:Nat)=>rawInt i).toArray)[i]? = some (rawInt p):=by simp[hp]
  simp only[Int.toNat_natCast,hpi]
  refine wpAny_bind (set_nextD (p:=p) ho hd hf ee ?_)
  refine wpAny_bind (wpAny_setField hoi hdi (by simp) (wpAny_pure ⟨_,rfl,wpAny_pure ?_⟩))
  rw[ed] at hQ
  exact hQ _ (it_set1 hit) (Heap.SameBut.update ..)
theorem next_end {Q:Option Value→Shared→Prop} (hh:A.handled=none) (hit:ItAt s.heap it a (fst es.size) es.size es.size ep) (ho:s.heap.get? a=some o) (hd:o.data= .set es ep t) (ok:TabIt (byT w) t) (hf:t.fits es.size=true) (M:Mode w a es ep t s.heap fst ord) (hl:ord.length=es.size)
  (hQ:∀h',Heap.ExtBut it s.heap h'→Q none { s with heap:=h' }):wpAny (model prog w) A (pyNext (.ref it)) Q E s:=by
 obtain⟨oi,hoi,hci,hdi⟩:=id hit
 unfold pyNext
 refine wpAny_bind (wpAny_attempt (wpAny_callSpecial?_slot (name:=Str.ofString "__next__") hit.typeIs slot_setit_next
  (wpAny_call_entry slot_setit_next hit.typeIs entry_setit_next ?_ (args_setit_next _))))
 show wpAny _ _ (fieldsOf (.ref it) >>= _) _ _ s
 refine wpAny_bind (wpAny_fieldsOf hoi hdi ?_)
 show wpAny _ _ (setEntries a >>= _) _ _ s
 refine wpAny_bind (wpAny_setEntries_of ho hd hf ?_)
 show wpAny _ _ (if (((es.size:Nat):Int) != ((es.size:Nat):Int))=true then _ else _) _ _ _
 rw[if_neg (by simp)]
 have hd1:=fun f2:Value=>Obj.data_mapFields hdi (·.setIfInBounds 0 f2)
 have ho1:=fun f2:Value=>Heap.get?_update_self (Obj.mapFields (·.setIfInBounds 0 f2)) hoi (Obj.isFreed_of_fields (hd1 f2))
 cases M with
 | text hb=>
  have he':(pickOrder (w.params.setOrder a ep) es)[es.size]? = none:=by
   rw[List.length_map,Array.length_toList] at hl
   simp[hl]
  refine wpAny_bind (set_nextT (i:=es.size) (ep:=ep) ho hd hf hb ?_)
  rw[he']
  refine wpAny_bind (wpAny_setField hoi hdi (by simp) ?_)
  refine wpAny_bind ?_
  simp only[newExc,newTuple]
  refine wpAny_bind (wpAny_newObj_type ?_ (by size_fits))
  refine wpAny_bind (m:=firstArgMember _ _) (wpAny_of_eq (a:=Value.none) (by first | rfl | (simp only[firstArgMember];rfl)) ?_)
  refine wpAny_newObj_type ?_ (by size_fits)
  simp only[raiseNew]
  refine wpAny_bind (wpAny_handled ?_)
  rw[show A.in1.handled=none from hh]
  refine wpAny_bind (wpAny_pure (wpAny_throw ?_))
  refine wpAny_bind (wpAny_isInstance (T:="StopIteration") (b:=true) ⟨_,Heap.get?_push_size _ rfl,rfl⟩ isSubtype_stop ?_)
  exact wpAny_pure (hQ _ (((Heap.SameBut.update ..).extBut.push _).push _))
 | led hb hn=>
  have he':es[es.size]? = none:=by simp
  refine wpAny_bind (set_next (i:=es.size) (ep:=ep) ho hd ok hf hb hn rfl (Nat.le_refl _) ?_)
  rw[he']
  refine wpAny_bind (wpAny_setField hoi hdi (by simp) ?_)
  refine wpAny_bind ?_
  simp only[newExc,newTuple]
  refine wpAny_bind (wpAny_newObj_type ?_ (by size_fits))
  refine wpAny_bind (m:=firstArgMember _ _) (wpAny_of_eq (a:=Value.none) (by first | rfl | (simp only[firstArgMember];rfl)) ?_)
  refine wpAny_newObj_type ?_ (by size_fits)
  simp only[raiseNew]
  refine wpAny_bind (wpAny_handled ?_)
  rw[show A.in1.handled=none from hh]
  refine wpAny_bind (wpAny_pure (wpAny_throw ?_))
  refine wpAny_bind (wpAny_isInstance (T:="StopIteration") (b:=true) ⟨_,Heap.get?_push_size _ rfl,rfl⟩ isSubtype_stop ?_)
  exact wpAny_pure (hQ _ (((Heap.SameBut.update ..).extBut.push _).push _))
 | drw T oT c ps hb hT hdT hps=>
  rw[List.length_map] at hl
  show wpAny _ _ (seqItems? (.ref T) >>= _) _ _ _
  refine wpAny_bind (wpAny_seqItems hT hdT ?_)
  have hpi:((ps.map fun (i:Nat)=>rawInt i).toArray)[es.size]? = none:=by simp[hl]
  simp only[Int.toNat_natCast,hpi]
  refine wpAny_bind (wpAny_setField hoi hdi (by simp) ?_)
  refine wpAny_bind (wpAny_setField (ho1 _) (hd1 _) (by simp) ?_)
  refine wpAny_bind ?_
  simp only[newExc,newTuple]
  refine wpAny_bind (wpAny_newObj_type ?_ (by size_fits))
  refine wpAny_bind (m:=firstArgMember _ _) (wpAny_of_eq (a:=Value.none) (by first | rfl | (simp only[firstArgMember];rfl)) ?_)
  refine wpAny_newObj_type ?_ (by size_fits)
  simp only[raiseNew]
  refine wpAny_bind (wpAny_handled ?_)
  rw[show A.in1.handled=none from hh]
  refine wpAny_bind (wpAny_pure (wpAny_throw ?_))
  refine wpAny_bind (wpAny_isInstance (T:="StopIteration") (b:=true) ⟨_,Heap.get?_push_size _ rfl,rfl⟩ isSubtype_stop ?_)
  exact wpAny_pure (hQ _ ((((Heap.SameBut.update ..).trans (Heap.SameBut.update ..)).extBut.push _).push _))
end
end L2
namespace L2
open PySem PySem.Spec PyProof.Rows
theorem erase_perm {α:Type}:∀(l:List α) (i:Nat) (h:i<l.length),(l[i]::l.eraseIdx i).Perm l
 | x::xs,0,_=>List.Perm.refl _
 | x::xs,i+1,h=>by
  have h':i<xs.length:=Nat.lt_of_succ_lt_succ h
  exact (List.Perm.swap x xs[i] (xs.eraseIdx i)).trans (List.Perm.cons x (erase_perm xs i h'))
theorem pick_perm {α:Type} (next:Nat→Nat):∀(fuel k:Nat) (left:List α) (out:Array α),fuel=left.length→(pickOrder.go next fuel k left out).toList.Perm (out.toList++left)
 | 0,_,left,out,h=>by
  have e:left=[]:=List.length_eq_zero_iff.mp h.symm
  subst e
  unfold pickOrder.go
  simp
 | fuel+1,k,left,out,h=>by
  unfold pickOrder.go
  have hp:0<left.length:=by omega
  have hi:next k%left.length<left.length:=Nat.mod_lt _ hp
  rw[List.getElem?_eq_getElem hi]
  have hl:fuel=(left.eraseIdx (next k%left.length)).length:=by rw[List.length_eraseIdx,if_pos hi];omega
  refine (pick_perm next fuel (k+1) _ _ hl).trans ?_
  rw[Array.toList_push,List.append_assoc]
  exact List.Perm.append_left _ (erase_perm _ _ hi)
theorem pickOrder_perm {α:Type} (next:Nat→Nat) (xs:Array α):(pickOrder next xs).toList.Perm xs.toList:=by
 unfold pickOrder
 have:=pick_perm next xs.size 0 xs.toList #[] (Array.length_toList).symm
 simpa using this
section
variable {prog:Program} {w:World} {A:Around} {E:Value→Shared→Prop} {s:Shared} {a it T0:Addr} {o oT:Obj} {es:Array (Int×Value)} {ep i:Nat} {t:SetTable} {fst:Nat→Value} {ord:List Value} {ks:List Int}
theorem wpAny_choose {M:Model} {src:Source} {n:Nat} {Q:Nat→Shared→Prop} (hn:n≠0) (h:∀i,i<n→Q i { s with drawn:=s.drawn.bump src }):wpAny M A (choose src n) Q E s:=
 fun Γ p _=>⟨hn,h _ (Nat.mod_lt _ (Nat.pos_of_ne_zero hn))⟩
theorem draw_order {α:Type} {M:Model}:∀(n:Nat) (xs:List α) (s:Shared) (Q:List α→Shared→Prop),xs.length=n→(∀ys d',ys.Perm xs→Q ys { s with drawn:=d' })→wpAny M A (drawOrder n xs) Q E s:=by
 intro n
 induction n with
 | zero=>
  intro xs s Q h q
  have e:xs=[]:=List.length_eq_zero_iff.mp h
  subst e
  exact wpAny_pure (q [] s.drawn (List.Perm.refl _))
 | succ n ih=>
  intro xs s Q h q
  cases xs with
  | nil=>exact absurd h (Nat.succ_ne_zero n).symm
  | cons x xs=>
   unfold drawOrder
   refine wpAny_bind (wpAny_choose (by simp) fun i hi=>?_)
   rw[List.getElem?_eq_getElem hi]
   have hl:((x::xs).eraseIdx i).length=n:=by rw[List.length_eraseIdx,if_pos hi,h];rfl
   refine wpAny_bind (ih _ _ _ hl fun ys d' hp=>?_)
   exact wpAny_pure (q _ d' ((List.Perm.cons _ hp).trans (erase_perm _ _ hi)))
structure Its1 (w:World) (s:Shared) (a:Addr) (ks:List Int) (h':Heap) (it T0:Addr) (o oT:Obj) (es:Array (Int×Value)) (ep:Nat) (t:SetTable) (fst:Nat→Value) (ord:List Value):Prop where
 lo:s.heap.objs.size≤it
 kk:∀b o,s.heap.get? b=some o→h'.get? b=some o
 at':ItAt h' it a (fst 0) 0 es.size ep
 ho:h'.get? a=some o
 hd:o.data= .set es ep t
 ok:TabIt (byT w) t
 hf:t.fits es.size=true
 hT:h'.get? T0=some oT
 ne:T0≠it
 md:∀h'',h''.get? T0=some oT→Mode w a es ep t h'' fst ord
 pm:ord.Perm (es.toList.map (·.2))
 eg:EGood es.toList
 ek:es.toList.map keyOf=ks
 tl:T0=a∨s.heap.objs.size≤T0
theorem iter_set {Q:Value→Shared→Prop} (hS:SetIt w s.heap a ks) (hQ:∀h' d' it T0 o oT es ep t fst ord,Its1 w s a ks h' it T0 o oT es ep t fst ord→Q (.ref it) { s with heap:=h',drawn:=d' }):wpAny (model prog w) A (pyIter (.ref a)) Q E s:=by
 obtain⟨o,es,ep,t,ho,hex,hd,hg,hk,nd,hl,ok,hf⟩:=id hS
 have hna:a<s.heap.objs.size:=Heap.lt_size ho
 refine wpAny_pyIter_slot hS.typeIs PySem.F.slot_set_iter (wpAny_call_entry PySem.F.slot_set_iter hS.typeIs entry_set_iter ?_ (PySem.F.args_set_iter_1 _))
 show wpAny _ _ (Builtin.Frozenset.sizeOf a >>= _) _ _ s
 refine wpAny_bind ?_
 unfold Builtin.Frozenset.sizeOf
 refine wpAny_bind (wpAny_setEntries_of ho hd hf (wpAny_pure ?_))
 refine wpAny_bind ?_
 unfold setDrawn setsByText
 refine wpAny_bind (wpAny_setState_of ho hd hf ?_)
 dsimp only
 refine wpAny_bind (wpAny_bind (wpAny_askSetting (wpAny_pure (wpAny_pure ?_))))
 show wpAny _ _ (if (!byT w && (!t.plain && decide (es.size>1)))=true then _ else _) _ _ _
 by_cases hdr:(!byT w && (!t.plain && decide (es.size>1)))=true
 ·rw[if_pos hdr]
  have hb:byT w=false:=by
   cases q:byT w with
   | false=>rfl
   | true=>rw[q] at hdr;cases hdr
  refine wpAny_bind (draw_order _ _ _ _ (List.length_range) fun ps d' hp=>?_)
  refine wpAny_bind (wpAny_newTuple ?_ (by rw[List.length_map,hp.length_eq,List.length_range,sz_map hk];exact Nat.le_of_lt (Nat.lt_trans hl (by decide))))
  have kk:∀b ob,s.heap.get? b=some ob→(s.heap.push { cls:=.type "tuple",data:=.seq (ps.map fun (i:Nat)=>rawInt i).toArray }).get? b=some ob:=fun b ob e=>Heap.get?_push_of_some _ e
  refine wpAny_bind ?_
  unfold setEpoch
  refine wpAny_bind (wpAny_setState_of (kk _ _ ho) hd hf (wpAny_pure ?_))
  refine wpAny_bind (wpAny_newObj_type (wpAny_pure ⟨_,rfl,"set_iterator",_,⟨_,Heap.get?_push_size _ rfl,rfl⟩,slot_setit_next.lookup,?_⟩))
  refine hQ _ d' _ s.heap.objs.size o _ es ep t (fun _=>.ref s.heap.objs.size) _ ⟨?_,fun b ob e=>Heap.get?_push_of_some _ (kk b ob e),⟨_,Heap.get?_push_size _ rfl,rfl,rfl⟩,Heap.get?_push_of_some _ (kk _ _ ho),hd,ok,hf,Heap.get?_push_of_some _ (Heap.get?_push_size _ rfl),?_,fun h'' e=>.drw _ _ _ ps hb e rfl ?_,?_,hg,hk,.inr (Nat.le_refl _)⟩
  ·rw[Heap.size_push];exact Nat.le_succ _
  ·rw[Heap.size_push];exact Nat.ne_of_lt (Nat.lt_succ_self _)
  ·exact fun p hp'=>List.mem_range.mp (hp.mem_iff.mp hp')
  ·refine (hp.map _).trans ?_
   have e:(List.range es.size).map (fun p=>(es.getD p (0,.none)).2)=es.toList.map (·.2):=by
    refine List.ext_getElem (by simp) fun n h1 h2=>?_
    have hn:n<es.size:=by simpa using h1
    simp[Array.getD,hn]
   rw[e]
 ·rw[if_neg hdr]
  refine wpAny_bind (wpAny_pure ?_)
  refine wpAny_bind ?_
  unfold setEpoch
  refine wpAny_bind (wpAny_setState_of ho hd hf (wpAny_pure ?_))
  refine wpAny_bind (wpAny_newObj_type (wpAny_pure ⟨_,rfl,"set_iterator",_,⟨_,Heap.get?_push_size _ rfl,rfl⟩,slot_setit_next.lookup,?_⟩))
  have kk:∀b ob,s.heap.get? b=some ob→(s.heap.push { cls:=.type "set_iterator",data:=.fields #[rawInt 0,rawInt 0,.ref a,rawInt es.size,rawInt ep] }).get? b=some ob:=fun b ob e=>Heap.get?_push_of_some _ e
  cases hb:byT w with
  | true=>
   refine hQ _ s.drawn _ a o o es ep t (fun _=>rawInt 0) _ ⟨Nat.le_refl _,kk,⟨_,Heap.get?_push_size _ rfl,rfl,rfl⟩,kk _ _ ho,hd,ok,hf,kk _ _ ho,Nat.ne_of_lt hna,fun h'' e=>.text hb,(pickOrder_perm _ _).map _,hg,hk,.inl rfl⟩
  | false=>
   rw[hb] at hdr
   refine hQ _ s.drawn _ a o o es ep t (fun i=>rawInt (((if i=0 then 0 else t.place.getD (i-1) 0+1:Nat)):Int)) _ ⟨Nat.le_refl _,kk,⟨_,Heap.get?_push_size _ rfl,rfl,rfl⟩,kk _ _ ho,hd,ok,hf,kk _ _ ho,Nat.ne_of_lt hna,fun h'' e=>.led hb (by simpa using hdr),List.Perm.refl _,hg,hk,.inl rfl⟩
theorem walk_set (hh:A.handled=none) {ks:List Int} {s0:Shared} {h0:Heap} (I:Its1 w s0 a ks h0 it T0 o oT es ep t fst ord):Walks prog w A it [it,a,T0] [it] es.size (fun i v=>ord[i]? = some v) (fun i h=>ItAt h it a (fst i) i es.size ep∧h.get? a=some o∧h.get? T0=some oT):=by
 have hl:ord.length=es.size:=by rw[I.pm.length_eq,List.length_map,Array.length_toList]
 have na:a≠it:=fun e=>by
  obtain⟨oi,h1,_,h3⟩:=I.at'
  subst e
  rw[I.ho] at h1;cases h1
  rw[I.hd] at h3;cases h3
 refine⟨fun b hb=>by simp at hb;simp[hb],fun i h h' st k=>?_,fun i s Q E hi st hQ=>?_,fun s Q E st hQ=>?_,fun i s Q E st hQ=>?_⟩
 ·obtain⟨⟨oi,h1,r⟩,h2,h3⟩:=st
  exact⟨⟨oi,k it (by simp) _ h1,r⟩,k a (by simp) _ h2,k T0 (by simp) _ h3⟩
 ·obtain⟨h1,h2,h3⟩:=st
  have hx:ord[i]? = some ord[i]:=List.getElem?_eq_getElem (by omega)
  refine next_item h1 h2 I.hd I.ok I.hf (I.md _ h3) hx hl fun h' it' sb=>?_
  exact hQ _ h' s.toks hx ⟨it',(sb.2 a na).trans h2,(sb.2 T0 I.ne).trans h3⟩ fun b ob hb e=>(sb.2 b (by simpa using hb)).trans e
 ·obtain⟨h1,h2,h3⟩:=st
  refine next_end hh h1 h2 I.hd I.ok I.hf (I.md _ h3) hl fun h' eb=>?_
  exact hQ h' s.toks fun b ob hb e=>eb b ob (by simpa using hb) e
 ·obtain⟨h1,h2,h3⟩:=st
  refine wpAny_pyIter_slot h1.typeIs slot_setit_iter (wpAny_call_entry slot_setit_iter h1.typeIs entry_setit_iter ?_ (args_setit_iter _))
  exact wpAny_pure ⟨_,rfl,"set_iterator",_,h1.typeIs,slot_setit_next.lookup,hQ⟩
end
end L2
namespace L2
open PySem PySem.Spec PyProof.Rows
theorem ord_ints {es:Array (Int×Value)} {ord:List Value} {ks:List Int} (pm:ord.Perm (es.toList.map (·.2))) (eg:EGood es.toList) (ek:es.toList.map keyOf=ks):∃ns,IntsAre ord ns∧ns.Perm ks:=by
 let vk:Value→Int:=fun v=>match v with | .int k _=>k | _=>0
 have each:∀v∈ord,∃t,v= .int (vk v) t:=fun v hv=>by
  obtain⟨e,he,rfl⟩:=List.mem_map.mp (pm.mem_iff.mp hv)
  obtain⟨_,t,h2⟩:=eg e he
  exact⟨t,h2⟩
 refine⟨ord.map vk,?_,?_⟩
 ·clear pm
  induction ord with
  | nil=>exact .nil
  | cons v r ih=>
   obtain⟨t,e⟩:=each v List.mem_cons_self
   have:=ih fun x hx=>each x (List.mem_cons_of_mem _ hx)
   rw[List.map_cons]
   generalize vk v=k at e
   subst e
   exact .cons k t this
 ·refine (pm.map vk).trans ?_
  rw[List.map_map,←ek]
  exact List.Perm.refl _
section
variable {prog:Program} {w:World} {A:Around} {E:Value→Shared→Prop} {s:Shared} {a:Addr} {ks:List Int}
theorem len_hint {Q:Bool→Shared→Prop} (hS:SetIt w s.heap a ks) (q:Q false s):wpAny (model prog w) A (Builtin.List.listLengthHint (.ref a)) Q E s:=by
 unfold Builtin.List.listLengthHint
 refine wpAny_bind (wpAny_specialOf hS.typeIs slot_set_len'.lookup ?_)
 have hsp:splitId "set.__len__"=some ("set","__len__"):=by decide +kernel
 simp only[hsp]
 refine wpAny_bind (wpAny_isInstance hS.typeIs sub_set_self ?_)
 rw[if_neg (by simp)]
 show wpAny _ _ (typeOf (.ref a) >>= _) _ _ _
 refine wpAny_bind (wpAny_typeOf hS.typeIs ?_)
 exact wpAny_pure q
theorem collect_set {Q:List Value→Shared→Prop} (hh:A.handled=none) (hS:SetIt w s.heap a ks) (hQ:∀(s':Shared) (acc:List Value) (ns:List Int),s.heap.objs.size≤s'.heap.objs.size→(∀b o,s.heap.get? b=some o→s'.heap.get? b=some o)→s'.gens=s.gens→s'.os=s.os→IntsAre acc ns→ns.Perm ks→Q acc s') :
  wpAny (model prog w) A (collect (.ref a)) Q E s:=by
 obtain⟨o0,es0,ep0,t0,ho0,_,_,_,hk0,_,hl0,_⟩:=id hS
 have hlt:a<s.heap.objs.size:=Heap.lt_size ho0
 unfold collect
 refine wpAny_bind (wpAny_runValue (codeAny_builtin F.entry_proto_collect ?_))
 rw[Around.under_plainId F.plain_proto_collect _]
 show wpAny _ A.in1 (newList [] >>= fun l=>again (.builtin "list.__iadd__" ⟨[l,.ref a],[]⟩)) _ _ s
 refine wpAny_bind (wpAny_newObj_type ?_)
 refine wpAny_pure ⟨plainId_quiet F.plain_list_iadd _,codeAny_builtin F.entry_list_iadd ?_⟩
 rw[Around.under_plainId F.plain_list_iadd _]
 have kk1:∀b ob,s.heap.get? b=some ob→(s.heap.push { cls:=.type "list",data:=.seq ([]:List Value).toArray }).get? b=some ob:=fun b ob e=>Heap.get?_push_of_some _ e
 have hS1:SetIt w ({ s with heap:=s.heap.push { cls:=.type "list",data:=.seq ([]:List Value).toArray } }:Shared).heap a ks:=hS.keep fun ob e=>kk1 _ _ e
 show wpAny _ A.in1 (Builtin.List.listExtendWith (.ref s.heap.objs.size) (.ref a) (.ref s.heap.objs.size)) _ _ _
 unfold Builtin.List.listExtendWith
 refine wpAny_bind (wpAny_typeOf hS1.typeIs ?_)
 have h1:Builtin.List.listSameRef (.ref s.heap.objs.size) (.ref a)=false:=by simp[Builtin.List.listSameRef];exact Nat.ne_of_gt hlt
 have h2:(Value.type "set" == Value.type "list")=false:=by decide
 have h3:(Value.type "set" == Value.type "tuple")=false:=by decide
 simp only[h1,h2,h3,Bool.or_false,Bool.false_eq_true,if_false]
 refine wpAny_bind (iter_set hS1 fun h' d' it T0 o oT es ep t fst ord I=>?_)
 have hS2:SetIt w ({ s with heap:=h',drawn:=d' }:Shared).heap a ks:=hS1.keep fun ob e=>I.kk _ _ e
 refine wpAny_bind (wpAny_holding (len_hint (s:={ s with heap:=h',drawn:=d' }) hS2 ?_))
 show wpAny _ A.in1 (rule "list.extend.makes-room" >>= fun _=>Builtin.List.listTouch (.ref s.heap.objs.size) >>= fun _=>
  again (.builtin "list.extend.loop" ⟨[.ref s.heap.objs.size,.ref it,.ref s.heap.objs.size],[]⟩)) _ _ _
 refine wpAny_bind (wpAny_rule ?_)
 have hS₁:h'.get? s.heap.objs.size=some { cls:=.type "list",data:=.seq ([]:List Value).toArray }:=I.kk _ _ (Heap.get?_push_size _ rfl)
 refine wpAny_bind ?_
 show wpAny _ A.in1 (updateSeq s.heap.objs.size (·.push .none) >>= fun _=>updateSeq s.heap.objs.size (·.pop)) _ _ _
 refine wpAny_bind (wpAny_updateSeq hS₁ rfl ?_)
 have hS₂:=Heap.get?_update_self (Obj.mapSeq (·.push Value.none)) hS₁ rfl
 refine wpAny_updateSeq hS₂ rfl ?_
 have hS₃:=Heap.get?_update_self (Obj.mapSeq (·.pop)) hS₂ rfl
 have oth:∀b ob,b≠s.heap.objs.size→h'.get? b=some ob→((h'.update s.heap.objs.size (Obj.mapSeq (·.push Value.none))).update s.heap.objs.size (Obj.mapSeq (·.pop))).get? b=some ob:=
  fun b ob hb e=>(Heap.get?_update_other _ _ (Ne.symm hb)).trans ((Heap.get?_update_other _ _ (Ne.symm hb)).trans e)
 have esz:({ s with heap:=s.heap.push { cls:=.type "list",data:=.seq ([]:List Value).toArray } }:Shared).heap.objs.size=s.heap.objs.size+1:=Heap.size_push _ _
 have nit:it≠s.heap.objs.size:=Nat.ne_of_gt (by have:=I.lo;rw[esz] at this;exact this)
 have nT:T0≠s.heap.objs.size:=by
  rcases I.tl with z | z
  ·rw[z];exact Nat.ne_of_lt hlt
  ·exact Nat.ne_of_gt (by rw[esz] at z;exact z)
 have hSf:s.heap.objs.size∉[it,a,T0]:=by
  simp only[List.mem_cons,List.not_mem_nil,or_false,not_or]
  exact⟨Ne.symm nit,Nat.ne_of_gt hlt,Ne.symm nT⟩
 have W:=(walk_set (prog:=prog) (A:=A.in1) (by simpa using hh) I).toS
 have hn:es.size≤sizeLine:=by rw[sz_map I.ek];exact Nat.le_of_lt (Nat.lt_trans hl0 (by decide))
 obtain⟨oi,hoi,ri⟩:=I.at'
 refine wpAny_pure ⟨plainId_quiet F.plain_extend_loop _,codeAny_extend_loopS W hn _ hSf _ es.size 0 _ _ _ rfl (Nat.zero_le _) ⟨⟨oi,oth _ _ nit hoi,ri⟩,oth _ _ (Nat.ne_of_lt hlt) I.ho,oth _ _ nT I.hT⟩ hS₃ (ItemsOf.nil _) fun s' acc' c' hm hS' hacc=>?_⟩
 show wpAny _ A (load s.heap.objs.size >>= _) _ _ s'
 refine wpAny_bind (wpAny_load hS' ?_)
 have hl:ord.length=es.size:=by rw[I.pm.length_eq,List.length_map,Array.length_toList]
 have eo:acc'.toList=ord:=by
  refine List.ext_getElem (by rw[Array.length_toList,hacc.1,hl]) fun n h1 h2=>?_
  have hn1:n<acc'.size:=by simpa using h1
  have:ord[n]? = some acc'[n]:=hacc.2 n _ (Array.getElem?_eq_getElem hn1)
  rw[List.getElem?_eq_getElem h2] at this
  have:=Option.some.inj this
  simpa using this.symm
 obtain⟨ns,hi,hp⟩:=ord_ints I.pm I.eg I.ek
 refine wpAny_pure (hQ s' acc'.toList ns (Nat.le_of_lt (Heap.lt_size hS')) (fun b ob e=>?_) hm.gens hm.os (by rw[eo];exact hi) hp)
 have hb:b<s.heap.objs.size:=Heap.lt_size e
 refine hm.heap b ob ?_ (oth b ob (Nat.ne_of_lt hb) (I.kk _ _ (kk1 _ _ e)))
 simp only[List.mem_cons,List.not_mem_nil,or_false,not_or]
 exact⟨Nat.ne_of_lt hb,Nat.ne_of_lt (Nat.lt_trans hb (by have:=I.lo;rw[esz] at this;exact this))⟩
theorem sorted_set {Q:Value→Shared→Prop} (hh:A.handled=none) (hS:SetIt w s.heap a ks) (h64:ks.length<64)
  (h:∀(s':Shared) (l:Addr) (out:Array Value) (n:Nat) (ns:List Int),(∀b o,s.heap.get? b=some o→s'.heap.get? b=some o)→s'.gens=s.gens→s'.os=s.os→s.heap.objs.size≤l→s'.heap.get? l=some (seqObj "list" out n)→IntsAre out.toList ns→ns.Perm ks→ns.Pairwise (· ≤ ·)→Q (.ref l) s') :
  wpAny (model prog w) A (call (.builtin "sorted") [.ref a]) Q E s:=by
 refine Calls.call_function_entry kind_sorted plain_sorted entry_sorted (args_sorted1 _) ?_
 unfold Builtin.«sorted»
 refine wpAny_bind (m:=checkCount "sorted" 1 1 _) (wpAny_pure ?_)
 refine wpAny_bind (collect_set (by simpa using hh) hS fun s1 vs ns1 lo kk eg eo hi hp=>?_)
 have hlen:vs.length<64:=by rw[IntsAre.length hi,hp.length_eq];exact h64
 refine wpAny_bind (wpAny_newList ?_ (Nat.le_of_lt (Nat.lt_trans hlen (by decide))))
 have hoL:(s1.heap.push (seqObj "list" vs.toArray 0)).get? s1.heap.objs.size=some (seqObj "list" vs.toArray 0):=Heap.get?_push_size _ rfl
 show wpAny _ _ _ _ _ { s1 with heap:=s1.heap.push (seqObj "list" vs.toArray 0) }
 refine wpAny_bind (wpAny_holding (wpAny_call_entry slot_list_sort ⟨_,hoL,rfl⟩ entry_list_sort (list_sort_tree hoL hi hlen fun out ns' a1 a2 a3=>⟨_,rfl,?_⟩) (args_list_sort _)))
 refine wpAny_pure ⟨_,rfl,?_⟩
 obtain⟨e1,ho1⟩:∃e1,((s1.heap.push (seqObj "list" vs.toArray 0)).update s1.heap.objs.size (Obj.mapSeq fun _=>#[])).get? s1.heap.objs.size=some (seqObj "list" #[] e1):=⟨_,get?_update_seq hoL (fun _=>#[])⟩
 have ho2:((((s1.heap.push (seqObj "list" vs.toArray 0)).update s1.heap.objs.size (Obj.mapSeq fun _=>#[])).push (seqObj "tuple" vs.toArray 0)).push (seqObj "list" #[] 0)).get? s1.heap.objs.size=some (seqObj "list" #[] e1):=Heap.get?_push_of_some _ (Heap.get?_push_of_some _ ho1)
 refine h _ s1.heap.objs.size out _ ns' (fun b ob e=>?_) eg eo lo (get?_update_seq ho2 (fun _=>out)) a1 (a2.trans hp) a3
 have e2:=kk b ob e
 have nb:b≠s1.heap.objs.size:=Nat.ne_of_lt (Heap.lt_size e2)
 exact (Heap.get?_update_other _ _ (Ne.symm nb)).trans (Heap.get?_push_of_some _ (Heap.get?_push_of_some _ ((Heap.get?_update_other _ _ (Ne.symm nb)).trans (Heap.get?_push_of_some _ e2))))
end
end L2
namespace L2
open PySem PySem.Spec PyProof.Rows
abbrev SetO (w:World) (a:Addr) (S:Int→Bool) (n:Nat):HO:=.ext fun h=>∃ks,SetIs w h a ks∧(∀k,S k=true↔k∈ks)∧ks.length≤n
theorem setO_ok {P:Program} {w:World} {H:Hp} {h:Heap} {a:Addr} {S:Int→Bool} {n:Nat} {ks:List Int} (x:SetIs w h a ks) (m:∀k,S k=true↔k∈ks) (hl:ks.length≤n):ObjOk P w H h a (SetO w a S n):=
 ⟨⟨ks,x,m,hl⟩,let ⟨o,_,_,_,ho,_⟩:=x;⟨o,ho⟩,fun h1 h2 ⟨ks,y,r⟩ k=>⟨ks,y.keep k,r⟩⟩
section
variable {X:Cx}
theorem Inv.setO {pins:List (Addr×Obj)} {σ:St} {H:Hp} {s:Shared} {a:Addr} {S:Int→Bool} {n:Nat} (I:Inv X pins σ H s) (h:H a=some (SetO X.w a S n)):∃ks,SetIs X.w s.heap a ks∧(∀k,S k=true↔k∈ks)∧ks.length≤n:=(I.hok _ _ h).1
theorem call_set0:CallR X (.type "set") (fun xs H Q=>xs=[]∧∀a,H a=none→Q (.ref a) (upd H a (SetO X.w a (fun _=>false) 0))):=by
 intro pins s σ H xs us Q I r h
 obtain⟨rfl,q⟩:=h
 cases r
 refine call_new (w:=X.w) ⟨.ref s.heap.objs.size,_,I.laid (t':=s.toks) (o:=SetO X.w s.heap.objs.size (fun _=>false) 0) (fun b ob e=>Heap.get?_push_of_some _ e) (Nat.le_refl _) ?_,rfl,q _ (I.hok.fresh (Nat.le_refl _))⟩
 exact setO_ok set0_is (fun k=>by simp) (Nat.le_refl _)
abbrev SetR (w:World) (a:Addr) (S:Int→Bool) (n:Nat):HO:=.ext fun h=>∃ks,SetIt w h a ks∧(∀k,S k=true↔k∈ks)∧ks.length≤n
theorem setR_ok {P:Program} {w:World} {H:Hp} {h:Heap} {a:Addr} {S:Int→Bool} {n:Nat} {ks:List Int} (x:SetIt w h a ks) (m:∀k,S k=true↔k∈ks) (hl:ks.length≤n):ObjOk P w H h a (SetR w a S n):=
 ⟨⟨ks,x,m,hl⟩,let ⟨o,_,_,_,ho,_⟩:=x;⟨o,ho⟩,fun h1 h2 ⟨ks,y,r⟩ k=>⟨ks,y.keep k,r⟩⟩
theorem Inv.setR {pins:List (Addr×Obj)} {σ:St} {H:Hp} {s:Shared} {a:Addr} {S:Int→Bool} {n:Nat} (I:Inv X pins σ H s) (h:H a=some (SetR X.w a S n)):∃ks,SetIt X.w s.heap a ks∧(∀k,S k=true↔k∈ks)∧ks.length≤n:=(I.hok _ _ h).1
theorem sorted_core (hc:X.calm=true) {pins:List (Addr×Obj)} {s:Shared} {σ:St} {H:Hp} {Q:VK} {a:Addr} {ks:List Int} {S:Int→Bool} {n:Nat} (I:Inv X pins σ H s) (hS:SetIt X.w s.heap a ks) (hm:∀k,S k=true↔k∈ks) (hl:ks.length≤n) (hn:n<64)
  (q:∀(l:Addr) (ns:List Int),H l=none→ns.Pairwise (· < ·)→(∀k,k∈ns↔S k=true)→Q (.ref l) (upd H l (.lst (ns.map V.int)))):wpAny (model X.prog X.w) X.A (call (.builtin "sorted") [.ref a]) (EP X pins σ Q) X.xe s:=by
 have ndk:ks.Nodup:=let ⟨_,_,_,_,_,_,_,_,_,nd,_⟩:=hS;nd
 refine sorted_set (w:=X.w) (I.ok.hd hc) hS (by omega) fun s' l out c ns kk eg eo lo hl' hi hp hs=>?_
 have nd:ns.Nodup:=hp.nodup_iff.mpr ndk
 have lt:ns.Pairwise (· < ·):=(List.Pairwise.and hs nd).imp fun {x y} h=>by have h1:=h.1;have h2:=h.2;omega
 have hnone:H l=none:=I.hok.fresh lo
 have old:∀b u,H b=some u→upd H l (.lst (ns.map V.int)) b=some u:=fun b u e=>by rw[upd_ne (ne_of_none e hnone)];exact e
 have len:(ns.map V.int).length≤sizeLine:=by
  rw[List.length_map,hp.length_eq]
  exact Nat.le_of_lt (Nat.lt_of_le_of_lt hl (Nat.lt_trans hn (by decide)))
 have un:Un (frs X.stack) [] H (upd H l (.lst (ns.map V.int))) s.heap s'.heap:=
  ⟨fun b o e _ _ _=>kk b o e,fun b o e _ _ _=>⟨o.slots,kk b o e⟩,fun b o e n _=>by rw[upd_ne (Nat.ne_of_lt (Nat.lt_of_lt_of_le (Heap.lt_size e) lo))];exact n,fun b o e _=>⟨o,kk b o e⟩,fun b xs e=>old b _ e,fun b o u e=>old b _ e,fun b ps e=>⟨#[],by rw[old b _ e];simp⟩⟩
 have hok:HOk X.prog X.w (upd H l (.lst (ns.map V.int))) s'.heap:=fun b u e=>by
  by_cases z:b=l
  ·subst z
   rw[upd_same] at e
   cases e
   exact⟨len,out.toList,c,vals_ints hi,by rw[hl',Array.toArray_toList]⟩
  ·rw[upd_ne z] at e
   exact (I.hok b u e).stay (fun c v _ e=>kk c v e) (fun c e=>old c _ e) fun c xs e=>old c _ e
 exact⟨.ref l,_,I.call' (ch:=[]) eo un hok (by rw[eg];exact I.bare) (fun b hb=>absurd hb (by simp)),rfl,q l ns hnone lt fun k=>by rw[hp.mem_iff];exact (hm k).symm⟩
theorem call_sortedS (hc:X.calm=true):CallR X (.builtin "sorted") (fun xs H Q=>∃a S n,xs=[.ref a]∧H a=some (SetO X.w a S n)∧n<64∧∀(l:Addr) (ns:List Int),H l=none→ns.Pairwise (· < ·)→(∀k,k∈ns↔S k=true)→Q (.ref l) (upd H l (.lst (ns.map V.int)))):=by
 intro pins s σ H xs us Q I r h
 obtain⟨a,S,n,rfl,ha,hn,q⟩:=h
 obtain⟨u,rfl,ru⟩:=vals1 r
 cases ru
 obtain⟨ks,hS,hm,hl⟩:=I.setO ha
 exact sorted_core hc I hS.it hm hl hn q
theorem call_sortedR (hc:X.calm=true):CallR X (.builtin "sorted") (fun xs H Q=>∃a S n,xs=[.ref a]∧H a=some (SetR X.w a S n)∧n<64∧∀(l:Addr) (ns:List Int),H l=none→ns.Pairwise (· < ·)→(∀k,k∈ns↔S k=true)→Q (.ref l) (upd H l (.lst (ns.map V.int)))):=by
 intro pins s σ H xs us Q I r h
 obtain⟨a,S,n,rfl,ha,hn,q⟩:=h
 obtain⟨u,rfl,ru⟩:=vals1 r
 cases ru
 obtain⟨ks,hS,hm,hl⟩:=I.setR ha
 exact sorted_core hc I hS hm hl hn q
variable {o e:Expr} {es:List Expr} {to:TE} {t:TA} {apos cpos:Pos}
def tAdd' (X:Cx) (to:TE) (t:TA):TE:=fun σ H Q=>to σ H fun x H1=>∃a S n,x= .ref a∧H1 a=some (SetO X.w a S n)∧t σ H1 fun xs H2=>∃k S2 n2,xs=[.int k]∧H2 a=some (SetO X.w a S2 n2)∧n2+1<2000∧Q .non (upd H2 a (SetO X.w a (fun j=>S2 j || decide (j=k)) (n2+1)))
theorem pe_sadd (ho:PE X o to) (hp:PA X (e::es) t) (hbase:attributeBase o "add" X.env (eval o X.env)=eval o X.env:=by rfl)
  (hfew:((backTo cpos (starEach (e::es) X.env)).all (fun x=>!x.1) && (backToKw cpos (keywordEach [] X.env)).all (fun x=>x.1.isSome)
   && decide ((e::es).length+([]:List Keyword).length+(if ([]:List Keyword).isEmpty then 0 else 1)<30))=true:=by rfl)
  (hline:(apos.endLine == cpos.line)=true:=by rfl) (hs:starEach (e::es) X.env=(false,eval e X.env)::starEach es X.env:=by rfl) (hplain:(backTo cpos (starEach es X.env)).any (·.1)=false:=by rfl) :
  PE X (.Call (.Attribute o "add" apos) (e::es) [] cpos) (tAdd' X to t):=by
 intro pins s σ H Q I h
 refine wpAny_Call_method_late hbase hfew hline rfl (thn (ho pins s σ H _ I h) fun v s1 ⟨x,H1,I1,r1,a,S,n,ex,ha,q1⟩=>?_)
 subst ex
 cases r1
 obtain⟨ks,hS,hm,hl⟩:=I1.setO ha
 refine⟨"set","set.add",PySem.F.plainAttrs_set,PySem.F.slot_set_add,PySem.F.type_set_add,hS.typeIs,fun b eb=>hS.noDict b eb,?_⟩
 have hA:=hp cpos pins s1 σ H1 _ I1 q1
 rw[hs] at hA ⊢
 refine Calls.callWith_builtin (by show (false || (backTo cpos (starEach es X.env)).any (·.1))=false;rw[hplain]<;>rfl) (Calls.evalArgs_plain ?_)
 refine thn hA fun us s2 ⟨vs,H2,I2,r2,k,S2,n2,ek,ha2,hn2,q2⟩=>?_
 subst ek
 obtain⟨u,rfl,ru⟩:=vals1 r2
 obtain⟨tk,rfl⟩:=ru
 obtain⟨ks2,hS2,hm2,hl2⟩:=I2.setO ha2
 refine call_add (w:=X.w) hS2 (by omega) fun h' ks' hsb hS' hm' hl'=>?_
 have mu:Mut (H2 a):=by rw[ha2];exact True.intro
 refine⟨.non,_,I2.write (x:=a) (e:=a) (t':=s2.toks+1) mu (.inl rfl) (fun b ob nb eb=>(hsb.2 b nb).trans eb) (let ⟨o,_,_,_,ho,_⟩:=hS';⟨o,ho⟩) (setO_ok hS' (fun j=>?_) (by omega)),rfl,q2⟩
 rw[hm' j,Bool.or_eq_true,decide_eq_true_eq,hm2 j]
end
end L2
namespace L2
open PySem PySem.Spec PyProof.Rows
section
variable {X:Cx} {N:List Str} {scope:Scope} {cl:List (Str×Addr)} {js:List (Option Nat)} {pins:List (Addr×Obj)} {σ:St} {H:Hp} {s:Shared} {fp:List Addr}
end
section
variable {X:Cx} {N:List Str} {scope:Scope} {cl:List (Str×Addr)} {js:List (Option Nat)}
variable {elt tg iter:Expr} {ifs:List Expr} {rest:List Comprehension} {pos:Pos} {wi:TI} {g:CC→TG} {tb:CC→Addr→TS}
variable {tg1 iter1:Expr} {ifs1:List Expr} {wi1:CC→TI} {g1:CC→TG} {tc tc1:CC→TT} {te:CC→TE}
end
end L2
namespace L2
open PySem PySem.Spec PyProof.Rows
theorem vals_at:∀{xs:List V} {us:List Value},xs.length=us.length→(∀(i:Nat) (x:V) (u:Value),xs[i]? = some x→us[i]? = some u→RelV x u)→Vals xs us
 | [],[],_,_=>.nil
 | [],_::_,h,_=>by cases h
 | _::_,[],h,_=>by cases h
 | x::xs,u::us,h,f=>.cons (f 0 x u rfl rfl) (vals_at (Nat.succ.inj h) fun i y v hy hv=>f (i+1) y v (by simpa using hy) (by simpa using hv))
theorem map_range {α:Type} (bs:List α) (d:α):(List.range bs.length).map (fun i=>bs.getD i d)=bs:=by
 refine List.ext_getElem (by simp) fun n h1 h2=>?_
 simp[List.getD,h2]
theorem all_range (bs:List Bool):(List.range bs.length).all (fun i=>bs.getD i false)=bs.all id:=by
 have:=map_range bs false
 conv=>rhs;rw[←this]
 rw[List.all_map]
 rfl
theorem truth_bl {prog:Program} {w:World} {A:Around} {bs:List Bool} {its:List Value} (rv:Vals (bs.map V.bl) its):TruthOf prog w A (fun i v=>its.toArray[i]? = some v) (fun i=>bs.getD i false):=by
 intro i v s Q E hv q
 have hv':its[i]? = some v:=by simpa using hv
 have hi:i<bs.length:=by
  have h1:=(List.getElem?_eq_some_iff.mp hv').1
  have:=rv.length
  rw[List.length_map] at this
  omega
 have hx:(bs.map V.bl)[i]? = some (.bl bs[i]):=by rw[List.getElem?_map,List.getElem?_eq_getElem hi];rfl
 obtain⟨u,hu,ru⟩:=rv.get hx
 rw[hv'] at hu
 cases hu
 cases (show v=Value.bool bs[i] from ru)
 refine wpAny_truthy_bool ?_
 have e:bs.getD i false=bs[i]:=by simp[List.getD,hi]
 rw[←e]
 exact q
section
variable {X:Cx}
theorem call_rng1:CallR X (.type "range") (fun xs H Q=>∃j:Int,xs=[.int j]∧∀r,H r=none→Q (.ref r) (upd H r (.rng 0 j))):=by
 intro pins s σ H xs us Q I r h
 obtain⟨j,rfl,q⟩:=h
 obtain⟨u,rfl,ru⟩:=vals1 r
 obtain⟨t,rfl⟩:=ru
 refine call_range_1 ⟨.ref s.heap.objs.size,_,I.laid (o:=.rng 0 j) (fun b ob e=>Heap.get?_push_of_some _ e) (Nat.le_refl _) ?_,rfl,q _ (I.hok.fresh (Nat.le_refl _))⟩
 exact⟨_,_,_,Heap.get?_push_size _ rfl⟩
def upto (n:Nat):List Int:=(List.range n).map fun (k:Nat)=>(k:Int)
theorem call_listR (hc:X.calm=true):CallR X (.type "list") (fun xs H Q=>∃(r:Addr) (n:Nat),xs=[.ref r]∧H r=some (.rng 0 (n:Int))∧n≤1000∧∀l,H l=none→Q (.ref l) (upd H l (.lst ((upto n).map V.int)))):=by
 intro pins s σ H xs us Q I r h
 obtain⟨rr,n,rfl,hr,hn,q⟩:=h
 obtain⟨u,rfl,ru⟩:=vals1 r
 cases ru
 obtain⟨t,u,v,ho⟩:=(show ObjOk X.prog X.w H s.heap rr (.rng 0 (n:Int)) from I.hok rr _ hr)
 have hsz:Builtin.Range.rangeSize 0 (n:Int) 1=n:=by rw[rangeSize_one];split<;>omega
 refine call_list_range (n:=n) (I.ok.hd hc) ho (small_one (by omega) (by omega) (by omega) (by omega)) hsz (by omega) fun h' tk acc c kk hl hi=>?_
 have lo:s.heap.objs.size≤s.heap.objs.size:=Nat.le_refl _
 have hv:Vals ((upto n).map V.int) acc.toList:=by
  have hal:acc.toList.length=n:=by rw[Array.length_toList,hi.1]
  refine vals_at (by unfold upto;simp[hal]) fun i x u hx hu=>?_
  have hin:i<n:=by
   have:=(List.getElem?_eq_some_iff.mp hu).1
   omega
  obtain⟨t,e⟩:=hi.2 i u (by simpa using hu)
  have ex:x= .int (i:Int):=by
   unfold upto at hx
   rw[List.map_map,List.getElem?_map,List.getElem?_range hin] at hx
   exact (Option.some.inj hx).symm
  subst ex
  refine⟨t,?_⟩
  rw[e]
  congr 1
  omega
 refine⟨.ref s.heap.objs.size,_,I.laid (t':=tk) (o:=.lst ((upto n).map V.int)) kk lo ?_,rfl,q _ (I.hok.fresh lo)⟩
 refine⟨?_,acc.toList,c,hv,by rw[hl,Array.toArray_toList]⟩
 unfold upto
 rw[List.length_map,List.length_map,List.length_range]
 exact Nat.le_trans hn (by decide)
theorem call_allL (hc:X.calm=true):CallR X (.builtin "all") (fun xs H Q=>∃(l:Addr) (bs:List Bool),xs=[.ref l]∧SqL X.K H l (bs.map V.bl)∧Q (.bl (bs.all id)) H):=by
 intro pins s σ H xs us Q I r h
 obtain⟨l,bs,rfl,hq,q⟩:=h
 obtain⟨u,rfl,ru⟩:=vals1 r
 cases ru
 obtain⟨its,rv,pl,hz⟩:=I.list hq
 have hlt:l<s.heap.objs.size:=let ⟨o,ho,_⟩:=pl.isList;Heap.lt_size ho
 have hlen:its.length=bs.length:=by rw[←rv.length,List.length_map]
 refine call_all_walk (wpAny_pyIter_list pl.isList ⟨s.heap.objs.size,_,_,_,_,_,fun i=>bs.getD i false,rfl,Walks.list (by have:=I.ok.hd hc;simpa using this) s.heap.objs.size l (Nat.ne_of_lt hlt) its.toArray,⟨⟨_,Heap.get?_push_size _ rfl,rfl,rfl⟩,pl.isList.push _⟩,truth_bl rv,fun h' tk kk=>?_⟩)
 have e:(List.range its.toArray.size).all (fun i=>bs.getD i false)=bs.all id:=by rw[List.size_toArray,hlen,all_range]
 rw[e]
 exact⟨.bl _,H,I.kept (t':=tk) fun b ob eb=>kk b ob (by simp only[List.mem_singleton];exact Nat.ne_of_lt (Heap.lt_size eb)) (Heap.get?_push_of_some _ eb),rfl,q⟩
end
end L2
namespace L2
open PySem PySem.Spec PyProof.Rows
section
variable {prog:Program} {w:World} {A:Around} {R:Result→Shared→Prop} {I:Addr} {fp wr:List Addr} {G:Array GenState→Array GenState→Prop} {n:Nat} {P:Nat→Value→Prop} {St:Nat→Shared→Prop}
theorem upd_loop (W:WalksS prog w A.in1 I fp wr G n P St) (S:Addr) (hSf:S∉fp)
  (val:Nat→Int) (hval:∀i v,P i v→∃t,v= .int (val i) t) (hb:n<1000) :
  ∀(k i:Nat) (s:Shared) (ks:List Int),n-i=k→i≤n→St i s→SetIs w s.heap S ks→(∀j,j∈ks↔∃m,m<i∧val m=j)→ks.length≤i→
   (∀s' ks',Moved (S::wr) G s s'→SetIs w s'.heap S ks'→(∀j,j∈ks'↔∃m,m<n∧val m=j)→ks'.length≤n→R (.ok (.ret .none)) s')→
   codeAny (model prog w) A (.builtin "set.update.loop" ⟨[.ref S,.ref I],[]⟩) R s:=by
 have hSw:S∉wr:=fun h=>hSf (W.sub _ h)
 have hsub:∀b∈wr,b∈S::wr:=fun b hb=>List.mem_cons_of_mem _ hb
 intro k
 induction k with
 | zero=>
  intro i s ks hk hi hst hS hm0 hl0 hR
  have hin:i=n:=by omega
  subst hin
  refine codeAny_builtin F.entry_set_update_loop ?_
  rw[Around.under_plainId F.plain_set_update_loop _]
  show wpAny _ A.in1 (pyNext (.ref I) >>= _) _ _ s
  refine wpAny_bind (W.done s _ _ hst fun s' hm=>?_)
  show wpAny _ A.in1 (ret Value.none) _ _ s'
  exact wpAny_pure (hR s' ks (hm.mono hsub) (hS.keep fun o e=>hm.heap S _ hSw e) hm0 hl0)
 | succ k ih=>
  intro i s ks hk hi hst hS hm0 hl0 hR
  have hlt:i<n:=by omega
  refine codeAny_builtin F.entry_set_update_loop ?_
  rw[Around.under_plainId F.plain_set_update_loop _]
  show wpAny _ A.in1 (pyNext (.ref I) >>= _) _ _ s
  refine wpAny_bind (W.item i s _ _ hlt hst fun v s' hP hst' hm=>?_)
  obtain⟨t,rfl⟩:=hval i v hP
  have hS':SetIs w s'.heap S ks:=hS.keep fun o e=>hm.heap S _ hSw e
  show wpAny _ A.in1 (holding [Value.int (val i) t] (setAdd S (.int (val i) t)) >>= _) _ _ s'
  refine wpAny_bind (wpAny_holding ?_)
  unfold setAdd
  refine wpAny_holding ?_
  refine wpAny_bind ((intKind prog w).pyHash (k:=val i) (intKind_is _ _ _ _) ?_)
  refine set_add (s:={ s' with toks:=s'.toks+1 }) hS' (by omega) fun h' ks' hsb hS2 hm2 hl2=>?_
  refine wpAny_pure ⟨plainId_quiet F.plain_set_update_loop _,ih (i+1) _ ks' (by omega) hlt (W.frame _ s' _ _ hst' (Nat.le_succ _) fun b hb o e=>?_) hS2 (fun j=>?_) (by omega) fun s'' ks'' hm'' hS'' hmm hll=>?_⟩
  ·rw[hsb.2 b (fun h:b=S=>hSf (by rw[←h];exact hb))];exact e
  ·rw[hm2 j,hm0 j]
   constructor
   ·rintro (⟨m,h1,h2⟩|h)
    ·exact⟨m,Nat.lt_succ_of_lt h1,h2⟩
    ·exact⟨i,Nat.lt_succ_self _,h.symm⟩
   ·rintro⟨m,h1,h2⟩
    rcases Nat.lt_succ_iff_lt_or_eq.mp h1 with z | z
    ·exact .inl ⟨m,z,h2⟩
    ·subst z;exact .inr h2.symm
  ·refine hR s'' ks'' (Moved.trans W.gtrans ((hm.mono hsub).then_heap (Nat.le_succ _) fun b o hb e=>?_) hm'') hS'' hmm hll
   rw[hsb.2 b (fun h:b=S=>hb (by rw[h];exact List.mem_cons_self))];exact e
end
section
variable {prog:Program} {w:World} {A:Around} {E:Value→Shared→Prop} {s:Shared}
set_option maxHeartbeats 3200000 in
theorem call_setl {l:Addr} {items:Array Value} {ns:List Int} {Q:Value→Shared→Prop}
  (hh:A.handled=none) (hl:s.heap.IsList l items) (hi:IntsAre items.toList ns) (hb:items.size<1000)
  (h:∀(h':Heap) (tk:Nat) (ks:List Int),SetIs w h' s.heap.objs.size ks→(∀j,j∈ks↔j∈ns)→ks.length≤ns.length→
   (∀b o,s.heap.get? b=some o→h'.get? b=some o)→Q (.ref s.heap.objs.size) { s with heap:=h',toks:=tk }) :
  wpAny (model prog w) A (call (.type "set") [.ref l]) Q E s:=by
 have hlen:ns.length=items.size:=by rw[←Array.length_toList];exact (IntsAre.length hi).symm
 obtain⟨c,tl,hmro⟩:=F.called_set.mro
 have hmade:=F.called_set.made
 have hsub:=F.called_set.sub
 refine wpAny_call (codeAny_of_tree ?_)
 show wpAny _ _ (callAny (.type "set") _) _ _ _
 refine wpAny_pure ⟨Code.quiet_builtin _ (by decide +kernel),codeAny_builtin F.entry_type_call ?_⟩
 rw[Around.under_plain (weight_type_call_type "set" [.ref l] []) rfl]
 have h1:=F.called_set.notType
 have h2:=F.called_set.canCreate
 have hct:=F.typeCall_set_1 (.ref l)
 repeat (any_goals (first | assumption | wp_step))
 refine codeAny_mono (code_new (E:=E) (.inr ⟨.ref l,rfl⟩) (Q₁:=fun obj s₁=>obj= .ref s.heap.objs.size∧s₁={ s with heap:=s.heap.push (set0 w) }) ⟨rfl,rfl⟩) fun r s₁ hr=>?_
 cases r with
 | error e=>exact hr
 | ok fl=>
  cases fl with
  | ret obj=>
   obtain⟨rfl,rfl⟩:=hr
   have hS:(s.heap.push (set0 w)).get? s.heap.objs.size=some (set0 w):=Heap.get?_push_size _ rfl
   have hT:Shared.TypeIs { s with heap:=s.heap.push (set0 w) } (.ref s.heap.objs.size) "set":=⟨_,hS,rfl⟩
   have hli:=F.called_set.init.lookup
   have hbi:=F.called_set.init.bind (.ref s.heap.objs.size)
   repeat (any_goals (first | assumption | wp_step))
   refine codeAny_mono (codeAny_call_builtin (R:=wants (fun r s₂=>r= .none∧∃h' tk ks,s₂={ s with heap:=h',toks:=tk }∧SetIs w h' s.heap.objs.size ks∧(∀j,j∈ks↔j∈ns)∧ks.length≤ns.length∧
     (∀b o,s.heap.get? b=some o→h'.get? b=some o)) E) F.called_set.init.plain F.entry_set_init (check_set_init_1 hT ?_)) fun r₂ s₂ hr₂=>?_
   ·obtain⟨ol,hol,hcl,nl,hdl⟩:=hl
    obtain⟨ocls,odict,odata,oslots⟩:=ol
    simp only at hcl hdl
    subst hcl;subst hdl
    have hol':(s.heap.push (set0 w)).get? l=some { cls:=.type "list",dict:=odict,data:=.seq items nl,slots:=oslots }:=Heap.get?_push_of_some _ hol
    have hsls:=F.sub_list_set
    have hslf:=F.sub_list_frozenset
    have hne:(Value.type "list" == Value.type "dict")=false:=by decide
    have hl1:(s.heap.push (set0 w)).IsList l items:=⟨_,hol',rfl,nl,rfl⟩
    unfold Builtin.«set.__init__» noKeywords Builtin.Frozenset.updateFrom
    generalize hPI:pyIter=PI
    wp_walk
    subst hPI
    refine wpAny_pyIter_list hl1 ?_
    refine wpAny_bind (wpAny_runValue ?_)
    have hlS:l<s.heap.objs.size:=Heap.lt_size hol
    have hh3:A.in1.in1.in1.handled=none:=by simp[hh]
    have hneI:l≠(s.heap.push (set0 w)).objs.size:=by
     rw[Heap.size_push];exact Nat.ne_of_lt (Nat.lt_succ_of_lt hlS)
    have hSf:s.heap.objs.size∉[(s.heap.push (set0 w)).objs.size,l]:=by
     rw[Heap.size_push];simp only[List.mem_cons,List.mem_singleton,List.not_mem_nil,or_false,not_or]
     exact⟨Nat.ne_of_lt (Nat.lt_succ_self _),Nat.ne_of_gt hlS⟩
    have hval:∀(i:Nat) (v:Value),items[i]? = some v→∃t,v= .int ((fun i=>ns.getD i 0) i) t:=fun i v hv=>
     IntsAre.int_at hi i v (by rw[Array.getElem?_toList];exact hv)
    refine upd_loop ((Walks.list hh3 _ l hneI items).toS) s.heap.objs.size
     hSf (fun i=>ns.getD i 0) hval hb (items.size-0) 0 _ [] (by omega) (Nat.zero_le _)
     ⟨⟨_,Heap.get?_push_size _ rfl,rfl,rfl⟩,(hl1.push _)⟩ ?hS0 (fun j=>by simp) (Nat.le_refl _) ?hR
    case hS0=>exact set0_is.keep fun o e=>Heap.get?_push_of_some _ e
    case hR=>
     intro s' ks hm hS' hmm hll
     obtain⟨h',g',d',tk',os'⟩:=s'
     have eg:g'=s.gens:=hm.gens
     have ed:d'=s.drawn:=hm.drawn
     have eo:os'=s.os:=hm.os
     subst eg;subst ed;subst eo
     show wpAny _ _ _ _ _ _
     refine wpAny_pure ?_
     show wpAny _ _ (ret Value.none) _ _ _
     refine wpAny_pure ⟨rfl,h',tk',ks,rfl,hS',fun j=>?_,by omega,fun b o e=>?_⟩
     ·rw[hmm j,←hlen,List.mem_iff_getElem]
      constructor
      ·rintro⟨m,hm,e⟩
       exact⟨m,hm,by rw[←e,List.getD_eq_getElem?_getD,List.getElem?_eq_getElem hm];rfl⟩
      ·rintro⟨m,hm,e⟩
       exact⟨m,hm,by rw[←e,List.getD_eq_getElem?_getD,List.getElem?_eq_getElem hm];rfl⟩
     ·have hb:=Heap.lt_size e
      have hb1:b≠s.heap.objs.size:=Nat.ne_of_lt hb
      have hb2:b≠(s.heap.push (set0 w)).objs.size:=by
       rw[Heap.size_push];exact Nat.ne_of_lt (Nat.lt_succ_of_lt hb)
      exact hm.heap b o (by simp only[List.mem_cons,List.mem_singleton,List.not_mem_nil,or_false,not_or];exact⟨hb1,hb2⟩) (Heap.get?_push_of_some _ (Heap.get?_push_of_some _ e))
   ·cases r₂ with
    | error e=>exact hr₂
    | ok fl₂=>
     cases fl₂ with
     | ret r=>
      obtain⟨rfl,h',tk,ks,rfl,hS',hm',hl',hk'⟩:=hr₂
      repeat (any_goals (first | assumption | wp_step))
      exact h _ _ _ hS' hm' hl' hk'
     | _=>exact hr₂.elim
  | _=>exact hr.elim
end
end L2
namespace L2
open PySem PySem.Spec PyProof.Rows
section
variable {prog:Program} {w:World} {A:Around} {E:Value→Shared→Prop} {s:Shared} {a:Addr} {ks:List Int} {k:Int} {tk:Tok}
theorem set_find {Q:Option Nat→Shared→Prop} (hS:SetIt w s.heap a ks) (h:∀r:Option Nat,r.isSome=decide (k∈ks)→(∀i,r=some i→ks[i]? = some k)→Q r s) :
  wpAny (model prog w) A (setFind a (.int k tk) (hashInt k)) Q E s:=by
 obtain⟨o,es,ep,t,ho,hex,hd,hg,hk,nd,hl,ok,hf⟩:=hS
 have hsz:=sz_map hk
 have hkey:(intKind prog w).is k (.int k tk)=true:=intKind_is _ _ _ _
 unfold setFind setFindIn
 refine wpAny_bind (wpAny_setState_of ho hd hf ?_)
 dsimp only
 rw[byScan_of (knd:=intKind prog w) rfl (by rw[hsz];exact fit2000 hl) hg.elems]
 simp only[↓reduceIte]
 refine wpAny_bind (wpAny_rule ?_)
 refine wpAny_bind (wpAny_setScan_of (knd:=intKind prog w) hkey ho hd hf hg.elems ?_)
 cases hr:List.findIdx? (fun e=>(intKind prog w).is k e.2) es.toList with
 | none=>
  dsimp only
  have hmem:k∉ks:=fun z=>by
   rw[←hk] at z
   obtain⟨e,he,rfl⟩:=List.mem_map.mp z
   have:=List.findIdx?_eq_none_iff.mp hr e he
   rw[(hg.is he).mpr rfl] at this
   cases this
  exact wpAny_pure (h none (by rw[decide_eq_false hmem];rfl) fun i e=>by cases e)
 | some j=>
  dsimp only
  obtain⟨hj,hpj,_⟩:=List.findIdx?_eq_some_iff_getElem.mp hr
  have e1:keyOf es.toList[j]=k:=((hg.is (List.getElem_mem hj)).mp hpj).symm
  have hmem:k∈ks:=by
   rw[←hk,←e1]
   exact List.mem_map_of_mem (List.getElem_mem hj)
  refine wpAny_pure (h (some (0+j)) (by rw[decide_eq_true hmem];rfl) fun i e=>?_)
  have e':j=i:=by injection e with e;omega
  subst e'
  rw[←hk,List.getElem?_map,List.getElem?_eq_getElem hj,←e1]
  rfl
theorem set_quiet {Q:Bool→Shared→Prop} {l:List Addr} (hl:∀b∈l,∃kb,SetIt w s.heap b kb) (h:Q true s):wpAny (model prog w) A (setsQuiet l) Q E s:=by
 unfold setsQuiet
 refine wpAny_bind ?_
 refine wpAny_forIn_list _ (fun rest r s'=>r.1=none∧s'=s∧∀b∈rest,∃kb,SetIt w s.heap b kb) _ ?_ ?_ _ _ ⟨rfl,rfl,hl⟩
 ·rintro b rest r s' ⟨hr,rfl,hall⟩
  obtain⟨kb,o,es,ep,t,ho,hex,hd,hg,hk,nd,hl,ok,hf⟩:=hall b List.mem_cons_self
  unfold setEntries
  refine wpAny_bind (wpAny_bind (wpAny_setState_of ho hd hf (wpAny_pure ?_)))
  refine wpAny_bind ?_
  refine wpAny_forIn_array' _ (fun rest' r' s''=>r'.1=none∧s''=s'∧EGood rest') _ ?_ ?_ _ _ ⟨rfl,rfl,hg⟩
  ·rintro⟨hh,x⟩ rest' r' s' ⟨hr',rfl,g⟩
   obtain⟨_,t',e⟩:=g _ List.mem_cons_self
   have e':x= .int (keyOf (hh,x)) t':=e
   rw[e']
   exact wpAny_pure ⟨rfl,rfl,fun y hy=>g y (List.mem_cons_of_mem _ hy)⟩
  ·rintro⟨r1,r2⟩ s' ⟨hr',rfl,_⟩
   simp only at hr'
   subst hr'
   exact wpAny_pure ⟨rfl,rfl,fun c hc=>hall c (List.mem_cons_of_mem _ hc)⟩
 ·rintro⟨r1,r2⟩ s' ⟨hr,rfl,_⟩
  simp only at hr
  subst hr
  exact wpAny_pure h
theorem set_walk {o:Obj} {es:Array (Int×Value)} {ep:Nat} {t:SetTable} {Q:Array (Int×Value)→Shared→Prop} (ho:s.heap.get? a=some o) (hd:o.data= .set es ep t) (ok:TabIt (byT w) t) (hf:t.fits es.size=true)
  (hc:(byT w || (t.led && t.plain) || decide (es.size≤1))=true) (h:∀es':Array (Int×Value),es'.toList.Perm es.toList→Q es' s):wpAny (model prog w) A (setWalk a) Q E s:=by
 unfold setWalk setsByText
 refine wpAny_bind (wpAny_setState_of ho hd hf ?_)
 dsimp only
 refine wpAny_bind (wpAny_bind (wpAny_askSetting (wpAny_pure ?_)))
 show wpAny _ _ (if byT w=true then _ else _) _ _ _
 cases hb:byT w with
 | true=>
  rw[if_pos rfl]
  refine wpAny_bind (wpAny_askSetting ?_)
  exact wpAny_pure (h _ (pickOrder_perm _ _))
 | false=>
  rw[if_neg Bool.false_ne_true]
  have hn:(!t.plain && decide (es.size>1))=false:=by
   rw[hb,Bool.false_or] at hc
   cases hp:t.plain with
   | true=>rfl
   | false=>
    rw[hp,Bool.and_false,Bool.false_or] at hc
    have:=of_decide_eq_true hc
    simp
    omega
  show wpAny _ _ (if (!t.plain && decide (es.size>1))=true then _ else _) _ _ _
  rw[hn,if_neg Bool.false_ne_true]
  refine wpAny_bind ?_
  show wpAny _ _ (if (!t.led && decide (es.size>1))=true then _ else _) _ _ _
  rw[ok.led,hb,if_neg (by simp)]
  exact wpAny_pure (wpAny_pure (h es (List.Perm.refl _)))
theorem walk_into {f:Addr} {others:List Addr} {kf:List Int} {Q:Array (Int×Value)→Shared→Prop} (hS:SetIt w s.heap a ks) (hF:SetIs w s.heap f kf) (hO:∀b∈others,∃kb,SetIt w s.heap b kb)
  (h:∀(es':Array (Int×Value)) (h':Heap),EGood es'.toList→(es'.toList.map keyOf).Perm ks→Heap.SameBut f s.heap h'→SetIs w h' f kf→Q es' { s with heap:=h' }):wpAny (model prog w) A (setWalkUnseen a others (some f)) Q E s:=by
 obtain⟨o,es,ep,t,ho,hex,hd,hg,hk,nd,hl,ok,hf⟩:=id hS
 have stay:∀es':Array (Int×Value),es'.toList.Perm es.toList→Q es' s:=fun es' hp=>by
  have:=h es' s.heap (fun e he=>hg e (hp.mem_iff.mp he)) (by rw[←hk];exact hp.map keyOf) (Heap.SameBut.refl _ _) hF
  have e:s={ s with heap:=s.heap }:=by cases s;rfl
  rw[e];exact this
 unfold setWalkUnseen setsByText
 refine wpAny_bind (wpAny_setState_of ho hd hf ?_)
 dsimp only
 refine wpAny_bind (wpAny_bind (wpAny_askSetting (wpAny_pure ?_)))
 show wpAny _ _ (if (byT w || (t.led && t.plain) || decide (es.size≤1))=true then _ else _) _ _ _
 split
 ·rename_i hc
  exact set_walk ho hd ok hf hc stay
 ·rename_i hc
  have hb:byT w=false:=by
   cases q:byT w with
   | true=>rw[q] at hc;exact absurd rfl hc
   | false=>rfl
  refine wpAny_bind (set_quiet (fun b hb=>?_) ?_)
  ·rcases List.mem_cons.mp hb with e | e
   ·subst e;exact⟨_,hS⟩
   ·exact hO b e
  simp only[Bool.not_true,Bool.false_eq_true,if_false]
  refine wpAny_bind (wpAny_rule ?_)
  obtain⟨of,ef,epf,tf,hof,hexf,hdf,hgf,hkf,ndf,hlf,okf,hff⟩:=id hF
  refine wpAny_bind (wpAny_setState_of hof hdf hff ?_)
  dsimp only
  split
  ·refine wpAny_bind (wpAny_storeSet_of hof hdf ?_ ?_)
   rotate_left
   exact (fits_of_scanBound (by rw[sz_map hkf];exact fit2000 hlf))
   have:=(set_stored (w:=w) (t':={ tf with led:=tf.led && t.led,plain:=tf.plain && t.plain }) hof hexf hdf hgf (by rw[hkf];exact ndf) (by rw[sz_map hkf];exact hlf) ⟨okf.dum,by show (tf.led && t.led)=_;rw[okf.led,ok.led,Bool.and_self],okf.up⟩ hff).2
   rw[hkf] at this
   exact wpAny_pure (h es _ hg (by rw[hk]) (Heap.SameBut.update _ _ _) this)
  ·exact wpAny_pure ((stay es (List.Perm.refl _)))
theorem walk_none {others:List Addr} {Q:Array (Int×Value)→Shared→Prop} (hS:SetIt w s.heap a ks) (hO:∀b∈others,∃kb,SetIt w s.heap b kb)
  (h:∀(es':Array (Int×Value)),EGood es'.toList→(es'.toList.map keyOf).Perm ks→Q es' s):wpAny (model prog w) A (setWalkUnseen a others none) Q E s:=by
 obtain⟨o,es,ep,t,ho,hex,hd,hg,hk,nd,hl,ok,hf⟩:=id hS
 have stay:∀es':Array (Int×Value),es'.toList.Perm es.toList→Q es' s:=fun es' hp=>
  h es' (fun e he=>hg e (hp.mem_iff.mp he)) (by rw[←hk];exact hp.map keyOf)
 unfold setWalkUnseen setsByText
 refine wpAny_bind (wpAny_setState_of ho hd hf ?_)
 dsimp only
 refine wpAny_bind (wpAny_bind (wpAny_askSetting (wpAny_pure ?_)))
 show wpAny _ _ (if (byT w || (t.led && t.plain) || decide (es.size≤1))=true then _ else _) _ _ _
 split
 ·rename_i hc
  exact set_walk ho hd ok hf hc stay
 ·refine wpAny_bind (set_quiet (fun b hb=>?_) ?_)
  ·rcases List.mem_cons.mp hb with e | e
   ·subst e;exact⟨_,hS⟩
   ·exact hO b e
  simp only[Bool.not_true,Bool.false_eq_true,if_false]
  refine wpAny_bind (wpAny_rule ?_)
  exact wpAny_pure (stay es (List.Perm.refl _))
end
end L2
namespace L2
open PySem PySem.Spec PyProof.Rows
namespace F
theorem entry_set_sub:entryFor table "set.__sub__"=some Builtin.«frozenset.__sub__»:=entryFor_alias (id':="frozenset.__sub__") (by kernel_rfl) rfl (by decide +kernel) (by kernel_rfl)
end F
section
variable {prog:Program} {w:World} {A:Around} {E:Value→Shared→Prop} {s:Shared} {a b r:Addr} {ka kb:List Int} {k:Int} {tk:Tok}
theorem size_of {Q:Nat→Shared→Prop} (hS:SetIt w s.heap a ka) (h:Q ka.length s):wpAny (model prog w) A (Builtin.Frozenset.sizeOf a) Q E s:=by
 obtain⟨o,es,ep,t,ho,hex,hd,hg,hk,nd,hl,ok,hf⟩:=hS
 unfold Builtin.Frozenset.sizeOf setEntries
 refine wpAny_bind (wpAny_bind (wpAny_setState_of ho hd hf (wpAny_pure ?_)))
 rw[sz_map hk]
 exact wpAny_pure h
theorem any_set {Q:Bool→Shared→Prop} (hS:SetIt w s.heap a ka) (h:Q true s):wpAny (model prog w) A (Builtin.Frozenset.isAnySet (.ref a)) Q E s:=by
 unfold Builtin.Frozenset.isAnySet
 show wpAny _ _ (isInstance (.ref a) (.type "set") >>= _) _ _ _
 refine wpAny_bind (wpAny_isInstance hS.typeIs sub_set_self ?_)
 exact wpAny_pure h
theorem base_of {Q:Value→Shared→Prop} (hS:SetIt w s.heap a ka) (h:Q (.type "set") s):wpAny (model prog w) A (Builtin.Frozenset.baseOf a) Q E s:=by
 unfold Builtin.Frozenset.baseOf
 refine wpAny_bind (wpAny_isInstance hS.typeIs sub_set_self ?_)
 exact wpAny_pure h
theorem new_set {Q:Value→Shared→Prop} (h:Q (.ref s.heap.objs.size) { s with heap:=s.heap.push (set0 w) }):wpAny (model prog w) A (newSet (.type "set")) Q E s:=by
 unfold newSet setsByText
 refine wpAny_bind (wpAny_bind (wpAny_askSetting (wpAny_pure ?_)))
 simp only[newObj]
 refine wpAny_bind (wpAny_alloc (wpAny_pure ?_))
 exact h
theorem epoch_is {Q:Nat→Shared→Prop} {o:Obj} {es:Array (Int×Value)} {ep:Nat} {t:SetTable} (ho:s.heap.get? a=some o) (hd:o.data= .set es ep t) (hf:t.fits es.size=true) (h:Q ep s):wpAny (model prog w) A (setEpoch a) Q E s:=by
 unfold setEpoch
 exact wpAny_bind (wpAny_setState_of ho hd hf (wpAny_pure h))
theorem unchanged_is {id:String} {Q:Unit→Shared→Prop} {o:Obj} {es:Array (Int×Value)} {ep:Nat} {t:SetTable} (ho:s.heap.get? a=some o) (hd:o.data= .set es ep t) (hf:t.fits es.size=true) (h:Q () s):wpAny (model prog w) A (Builtin.Frozenset.unchanged id a ep) Q E s:=by
 unfold Builtin.Frozenset.unchanged
 refine wpAny_bind (epoch_is ho hd hf ?_)
 rw[if_neg (by simp)]
 exact wpAny_pure h
theorem fill_loop {body:(Int×Value)→PUnit→Sem (ForInStep PUnit)} {p:Int→Bool} {R:PUnit→Shared→Prop} {es:Array (Int×Value)} {kr:List Int}
  (hbody:∀(k:Int) (tk:Tok) (h1:Heap) (k1:List Int) (Q':ForInStep PUnit→Shared→Prop),Heap.SameBut r s.heap h1→SetIs w h1 r k1→k1.length+1<2000→
   (∀h' k2,Heap.SameBut r h1 h'→SetIs w h' r k2→(∀j,j∈k2↔j∈k1∨(p k=true∧j=k))→k2.length≤k1.length+1→Q' (.yield ⟨⟩) { s with heap:=h' })→
   wpAny (model prog w) A (body (hashInt k,.int k tk) ⟨⟩) Q' E { s with heap:=h1 })
  (hg:EGood es.toList) (hR:SetIs w s.heap r kr) (hn:kr.length+es.size<1999)
  (h:∀h' k2,Heap.SameBut r s.heap h'→SetIs w h' r k2→(∀j,j∈k2↔j∈kr∨(p j=true∧j∈es.toList.map keyOf))→k2.length≤kr.length+es.size→R ⟨⟩ { s with heap:=h' }) :
  wpAny (model prog w) A (forIn es PUnit.unit body) R E s:=by
 refine wpAny_forIn_array' _ (fun rest _ s'=>∃h1 k1,s'={ s with heap:=h1 }∧Heap.SameBut r s.heap h1∧SetIs w h1 r k1∧EGood rest∧k1.length+rest.length≤kr.length+es.size∧
  (∀j,(j∈k1∨(p j=true∧j∈rest.map keyOf))↔j∈kr∨(p j=true∧j∈es.toList.map keyOf))) _ ?_ ?_ _ _ ⟨s.heap,kr,by cases s;rfl,Heap.SameBut.refl _ _,hR,hg,by rw[Array.length_toList];exact Nat.le_refl _,fun j=>Iff.rfl⟩
 ·rintro⟨hh,x⟩ rest u s' ⟨h1,k1,rfl,sb,hS,g,hl,hm⟩
  obtain⟨e1,t',e2⟩:=g _ List.mem_cons_self
  generalize hk:keyOf (hh,x)=k at e1 e2
  dsimp only at e1 e2
  subst e1;subst e2
  rw[List.length_cons] at hl
  refine hbody k t' h1 k1 _ sb hS (by omega) fun h' k2 sb2 hS2 hm2 hl2=>?_
  refine⟨h',k2,rfl,sb.trans sb2,hS2,fun y hy=>g y (List.mem_cons_of_mem _ hy),by omega,fun j=>?_⟩
  rw[←hm j,hm2 j,List.map_cons,List.mem_cons]
  constructor
  ·rintro ((z | ⟨z1,z2⟩) | ⟨z1,z2⟩)
   ·exact .inl z
   ·exact .inr ⟨by rw[z2];exact z1,.inl (by rw[hk];exact z2)⟩
   ·exact .inr ⟨z1,.inr z2⟩
  ·rintro (z | ⟨z1,z2 | z2⟩)
   ·exact .inl (.inl z)
   ·exact .inl (.inr ⟨by rw[←hk,←z2];exact z1,by rw[←hk];exact z2⟩)
   ·exact .inr ⟨z1,z2⟩
 ·rintro u s' ⟨h1,k1,rfl,sb,hS,g,hl,hm⟩
  refine h h1 k1 sb hS (fun j=>?_) (by simpa using hl)
  rw[←hm j]
  simp
theorem ne_push {h:Heap} {o:Obj} (e:h.get? a=some o):a≠h.objs.size:=Nat.ne_of_lt (Heap.lt_size e)
end
end L2
namespace L2
open PySem PySem.Spec PyProof.Rows
theorem fm_congr {f g:Nat→Option Nat}:∀l:List Nat,(∀x∈l,g x=f x)→l.filterMap g=l.filterMap f
 | [],_=>rfl
 | x::l,h=>by
  have ih:=fm_congr l fun y hy=>h y (List.mem_cons_of_mem _ hy)
  have e:=h x List.mem_cons_self
  cases q:f x with
  | none=>rw[List.filterMap_cons_none (e.trans q),List.filterMap_cons_none q,ih]
  | some v=>rw[List.filterMap_cons_some (e.trans q),List.filterMap_cons_some q,ih]
theorem fm_put {f g:Nat→Option Nat} {j k:Nat} (hf:f j=none) (hg:g j=some k) (hne:∀x,x≠j→g x=f x):∀l:List Nat,l.Nodup→j∈l→(l.filterMap g).Perm (k::l.filterMap f)
 | [],_,h=>by cases h
 | x::l,nd,h=>by
  have nd':=List.nodup_cons.mp nd
  by_cases e:x=j
  ·subst e
   have:l.filterMap g=l.filterMap f:=fm_congr l fun y hy=>hne y fun z=>nd'.1 (z ▸ hy)
   rw[List.filterMap_cons_some hg,List.filterMap_cons_none hf,this]
  ·have hj:j∈l:=by
    rcases List.mem_cons.mp h with z | z
    ·exact absurd z.symm e
    ·exact z
   have ih:=fm_put hf hg hne l nd'.2 hj
   have ex:=hne x e
   cases q:f x with
   | none=>rw[List.filterMap_cons_none (ex.trans q),List.filterMap_cons_none q];exact ih
   | some v=>rw[List.filterMap_cons_some (ex.trans q),List.filterMap_cons_some q];exact (ih.cons v).trans (List.Perm.swap _ _ _)
theorem fm_all {f:Nat→Option Nat}:∀l:List Nat,(∀x∈l,f x≠none)→(l.filterMap f).length=l.length
 | [],_=>rfl
 | x::l,h=>by
  cases q:f x with
  | none=>exact absurd q (h x List.mem_cons_self)
  | some v=>rw[List.filterMap_cons_some q,List.length_cons,List.length_cons,fm_all l fun y hy=>h y (List.mem_cons_of_mem _ hy)]
abbrev snds (n:Nat) (owner:Array (Option Nat)):List Nat:=(List.range n).filterMap fun j=>owner.getD j none
def orb (mask:Nat):Nat→Nat×Nat→Nat×Nat
 | 0,x=>x
 | t+1,x=>orb mask t (SetTable.leap mask x.1 x.2)
theorem free_none {mask:Nat} {owner:Array (Option Nat)} {j:Nat}:∀(fuel i p:Nat),SetTable.layClean.free mask owner fuel i p=some j→owner.getD j (some 0)=none
 | 0,_,_,h=>by cases h
 | fuel+1,i,p,h=>by
  unfold SetTable.layClean.free at h
  split at h
  ·rename_i k e
   injection h with h
   subst h
   exact Option.isNone_iff_eq_none.mp (List.find?_some (p:=fun k=>(owner.getD (i+k) (some 0)).isNone) e)
  ·exact free_none fuel _ _ h
theorem free_some {mask:Nat} {owner:Array (Option Nat)}:∀(fuel i p t:Nat),t<fuel→owner.getD (orb mask t (i,p)).1 (some 0)=none→∃j,SetTable.layClean.free mask owner fuel i p=some j
 | 0,_,_,t,h,_=>absurd h (Nat.not_lt_zero _)
 | fuel+1,i,p,t,h,e=>by
  unfold SetTable.layClean.free
  split
  ·exact⟨_,rfl⟩
  ·rename_i q
   cases t with
   | zero=>
    have:=List.find?_eq_none.mp q 0 (List.mem_range.mpr (by unfold SetTable.runEnd;split<;>omega))
    rw[Nat.add_zero] at this
    have e':owner.getD i (some 0)=none:=e
    rw[e'] at this
    exact absurd rfl this
   | succ t=>exact free_some fuel _ _ t (Nat.lt_of_succ_lt_succ h) e
def visit (mask:Nat):Nat→Nat→Nat→Nat
 | 0,_,acc=>acc
 | n+1,i,acc=>visit mask n ((i*5+1)%(mask+1)) (acc ||| 1 <<< i)
theorem visit_is {mask j:Nat}:∀(n i acc:Nat),(visit mask n i acc).testBit j=true→acc.testBit j=true∨∃t,t<n∧(orb mask t (i,0)).1=j
 | 0,_,_,h=>.inl h
 | n+1,i,acc,h=>by
  rcases visit_is n _ _ h with z | ⟨t,h1,h2⟩
  ·rw[Nat.testBit_or,Bool.or_eq_true] at z
   rcases z with z | z
   ·exact .inl z
   ·rw[Nat.shiftLeft_eq,Nat.one_mul,Nat.testBit_two_pow] at z
    exact .inr ⟨0,Nat.succ_pos _,of_decide_eq_true z⟩
  ·refine .inr ⟨t+1,Nat.succ_lt_succ h1,?_⟩
   show (orb mask t (SetTable.leap mask i 0)).1=j
   unfold SetTable.leap
   rw[Nat.zero_div,Nat.add_zero]
   exact h2
def Cov (mask:Nat):Prop:=∀i j,i≤mask→j≤mask→∃t,t<mask+1∧(orb mask t (i,0)).1=j
theorem cov_of {mask:Nat} (h:(List.range (mask+1)).all (fun i=>visit mask (mask+1) i 0 == 2^(mask+1)-1)=true):Cov mask:=fun i j hi hj=>by
 have:=List.all_eq_true.mp h i (List.mem_range.mpr (Nat.lt_succ_of_le hi))
 have e:=beq_iff_eq.mp this
 have:(visit mask (mask+1) i 0).testBit j=true:=by
  rw[e,Nat.testBit_two_pow_sub_one]
  exact decide_eq_true (Nat.lt_succ_of_le hj)
 rcases visit_is _ _ _ this with z | z
 ·rw[Nat.zero_testBit] at z;cases z
 ·exact z
theorem cov7:Cov 7:=cov_of (by decide +kernel)
theorem cov15:Cov 15:=cov_of (by decide +kernel)
theorem cov31:Cov 31:=cov_of (by decide +kernel)
theorem cov63:Cov 63:=cov_of (by decide +kernel)
theorem cov127:Cov 127:=cov_of (by decide +kernel)
theorem getD_none {owner:Array (Option Nat)} {j:Nat}:owner.getD j (some 0)=none→j<owner.size∧owner.getD j none=none:=fun h=>by
 by_cases z:j<owner.size
 ·refine⟨z,?_⟩
  simp[Array.getD,z] at h ⊢
  exact h
 ·simp[Array.getD,z] at h
theorem lay_go {mask:Nat} (cov:Cov mask):∀(hs:List Int) (owner:Array (Option Nat)) (k:Nat),owner.size=mask+1→(snds (mask+1) owner).Perm (List.range k)→k+hs.length≤mask+1→(∀h∈hs,SetTable.bits h<32)→
  ∃owner':Array (Option Nat),hs.foldl (fun (acc:Option (Array (Option Nat)×Nat)) h=>(do
   let (owner,k) ←acc
   let j ←SetTable.layClean.free mask owner (SetTable.turns mask) (SetTable.bits h%(mask+1)) (SetTable.bits h)
   pure (owner.setIfInBounds j (some k),k+1))) (some (owner,k))=some (owner',k+hs.length)∧owner'.size=mask+1∧(snds (mask+1) owner').Perm (List.range (k+hs.length))
 | [],owner,k,hz,hp,_,_=>⟨owner,rfl,hz,hp⟩
 | h::hs,owner,k,hz,hp,hl,hb=>by
  rw[List.length_cons] at hl
  have hex:∃j,j≤mask∧owner.getD j none=none:=Classical.byContradiction fun z=>by
   have:=fm_all (f:=fun j=>owner.getD j none) (List.range (mask+1)) fun x hx e=>z ⟨x,Nat.le_of_lt_succ (List.mem_range.mp hx),e⟩
   have e2:=hp.length_eq
   rw[List.length_range] at this e2
   change (snds (mask+1) owner).length=_ at this
   omega
  obtain⟨j0,hj0,e0⟩:=hex
  have e0':owner.getD j0 (some 0)=none:=by
   have:j0<owner.size:=by omega
   simp[Array.getD,this] at e0 ⊢
   exact e0
  have hb0:=hb h List.mem_cons_self
  have hd:SetTable.bits h / 32=0:=Nat.div_eq_of_lt hb0
  obtain⟨t,ht,et⟩:=cov ((SetTable.bits h%(mask+1)*5+1)%(mask+1)) j0 (Nat.le_of_lt_succ (Nat.mod_lt _ (Nat.succ_pos _))) hj0
  obtain⟨j,ej⟩:=free_some (mask:=mask) (owner:=owner) (SetTable.turns mask) (SetTable.bits h%(mask+1)) (SetTable.bits h) (t+1) (by unfold SetTable.turns;omega) (by
   show owner.getD (orb mask t (SetTable.leap mask _ _)).1 (some 0)=none
   unfold SetTable.leap
   rw[hd,Nat.add_zero,et]
   exact e0')
  obtain⟨jl,jn⟩:=getD_none (free_none _ _ _ ej)
  have hp':(snds (mask+1) (owner.setIfInBounds j (some k))).Perm (List.range (k+1)):=by
   refine (fm_put (f:=fun j=>owner.getD j none) (g:=fun x=>(owner.setIfInBounds j (some k)).getD x none) (j:=j) (k:=k) jn ?_ (fun x hx=>?_) _ List.nodup_range (List.mem_range.mpr (by omega))).trans ?_
   ·simp[Array.getD,jl]
   ·simp only[Array.getD_eq_getD_getElem?]
    rw[Array.getElem?_setIfInBounds_ne (Ne.symm hx)]
   ·refine (hp.cons k).trans ?_
    rw[List.range_succ (n:=k)]
    exact List.perm_append_comm (l₁:=[k])
  obtain⟨o',h1,h2,h3⟩:=lay_go cov hs (owner.setIfInBounds j (some k)) (k+1) (by rw[Array.size_setIfInBounds];exact hz) hp' (by omega) fun y hy=>hb y (List.mem_cons_of_mem _ hy)
  have ek:k+1+hs.length=k+(hs.length+1):=by omega
  refine⟨o',?_,h2,?_⟩
  ·rw[List.foldl_cons]
   show List.foldl _ (SetTable.layClean.free mask owner (SetTable.turns mask) (SetTable.bits h%(mask+1)) (SetTable.bits h) >>= _) hs=_
   rw[ej,List.length_cons,←ek]
   exact h1
  ·rw[List.length_cons,←ek];exact h3
theorem laid_is {mask:Nat} (cov:Cov mask) (finger moves:Nat) (led plain:Bool) (hs:Array Int) (hl:hs.size≤mask) (hb:∀h∈hs.toList,SetTable.bits h<32) :
  ∃t order,SetTable.laid mask finger moves led plain hs=some (t,order)∧order.toList.Perm (List.range hs.size)∧t.dummies = #[]∧t.led=led∧Up t.place∧t.place.size=hs.size∧t.mask=mask:=by
 have hr:(snds (mask+1) (Array.replicate (mask+1) none)).Perm (List.range 0):=by
  have:snds (mask+1) (Array.replicate (mask+1) none)=[]:=by
   refine List.filterMap_eq_nil_iff.mpr fun x hx=>?_
   simp[Array.getD]
  rw[this]
  exact List.Perm.refl _
 obtain⟨owner,h1,h2,h3⟩:=lay_go cov hs.toList _ 0 Array.size_replicate hr (by rw[Array.length_toList];omega) hb
 rw[Nat.zero_add,Array.length_toList] at h1 h3
 have e:SetTable.layClean mask hs=some owner:=by
  unfold SetTable.layClean
  rw[←Array.foldl_toList]
  exact congrArg (Option.map (·.1)) h1
 unfold SetTable.laid
 rw[e]
 refine⟨_,_,rfl,?_,rfl,rfl,?_,?_,rfl⟩
 ·show (List.map (fun x:Nat×Nat=>x.2) (List.filterMap (fun j=>Option.map (fun x=>(j,x)) (owner.getD j none)) (List.range (mask+1)))).Perm _
  rw[List.map_filterMap]
  have:(fun j=>Option.map (fun x:Nat×Nat=>x.2) (Option.map (fun x=>(j,x)) (owner.getD j none)))=fun j=>owner.getD j none:=by
   funext j
   cases owner.getD j none<;>rfl
  rw[this]
  exact h3
 ·show (List.map (fun x:Nat×Nat=>x.fst) (List.filterMap (fun j=>Option.map (fun x=>(j,x)) (owner.getD j none)) (List.range (mask+1)))).toArray.toList.Pairwise (· < ·)
  rw[List.toList_toArray]
  rw[List.map_filterMap]
  refine List.Pairwise.filterMap _ (R:=(· < ·)) ?_ List.pairwise_lt_range
  intro a a' hlt b hb b' hb'
  have f:∀{a b:Nat},Option.map (fun x:Nat×Nat=>x.1) (Option.map (fun x=>(a,x)) (owner.getD a none))=some b→b=a:=fun {a b} e=>by
   cases q:owner.getD a none with
   | none=>rw[q] at e;cases e
   | some y=>rw[q] at e;injection e with e;exact e.symm
  rw[f hb,f hb']
  exact hlt
 ·show (List.map (fun x:Nat×Nat=>x.fst) (List.filterMap (fun j=>Option.map (fun x=>(j,x)) (owner.getD j none)) (List.range (mask+1)))).toArray.size=_
  have e3:=h3.length_eq
  rw[List.length_range] at e3
  rw[List.size_toArray,List.length_map,←e3]
  have:∀l:List Nat,(List.filterMap (fun j=>Option.map (fun x=>(j,x)) (owner.getD j none)) l).length=(List.filterMap (fun j=>owner.getD j none) l).length:=fun l=>by
   induction l with
   | nil=>rfl
   | cons x l ih=>cases q:owner.getD x none with
    | none=>rw[List.filterMap_cons_none (by rw[q];rfl),List.filterMap_cons_none (f:=fun j=>owner.getD j none) q];exact ih
    | some v=>rw[List.filterMap_cons_some (by rw[q];rfl),List.filterMap_cons_some (f:=fun j=>owner.getD j none) q,List.length_cons,List.length_cons,ih]
  exact this _
end L2
namespace L2
open PySem PySem.Spec PyProof.Rows
theorem toList_eraseAt {α:Type} (xs:Array α) (p:Nat):(SetTable.eraseAt xs p).toList=xs.toList.eraseIdx p:=by
 simp[SetTable.eraseAt,List.extract_eq_take_drop,List.eraseIdx_eq_take_drop_succ,List.take_of_length_le]
def SetDr (w:World) (h:Heap) (a:Addr) (ks:List Int) (m d:Nat):Prop:=
 ∃o es ep t,h.get? a=some o∧o.ExactSet∧o.data= .set es ep t∧EGood es.toList∧es.toList.map keyOf=ks∧ks.Nodup∧ks.length<2000∧TabIt (byT w) t∧t.fits es.size=true∧t.mask=m∧t.dummies.size≤d
theorem SetDr.it {w:World} {h:Heap} {a:Addr} {ks:List Int} {m d:Nat} (x:SetDr w h a ks m d):SetIt w h a ks:=by
 obtain⟨o,es,ep,t,h1,h2,h3,h4,h5,h6,h7,h8,h9,_⟩:=x
 exact⟨o,es,ep,t,h1,h2,h3,h4,h5,h6,h7,h8,h9⟩
theorem put_obj {h:Heap} {o:Obj} {a:Addr} {es es':Array (Int×Value)} {ep:Nat} {t t':SetTable} (ho:h.get? a=some o) (hd:o.data= .set es ep t) :
  (h.update a (Obj.putSet es' t')).get? a=some { o with data:=.set es' (ep+1) t' }:=by
 have:=Heap.get?_update_self (Obj.putSet es' t') ho (by rw[putSet_of es' t' hd];rfl)
 rw[putSet_of es' t' hd] at this;exact this
theorem bits_small {k:Int} (h0:0≤k) (h1:k<32):SetTable.bits (hashInt k)<32:=by
 obtain⟨n,rfl⟩:=Int.eq_ofNat_of_zero_le h0
 have hn:n<32:=by omega
 have:∀n:Fin 32,SetTable.bits (hashInt (n.val:Int))<32:=by decide +kernel
 exact this ⟨n,hn⟩
section
variable {prog:Program} {w:World} {A:Around} {E:Value→Shared→Prop} {s:Shared} {a b r:Addr} {ka kb ks:List Int} {k:Int} {tk:Tok}
theorem set_discard {Q:Bool→Shared→Prop} {m d:Nat} (hS:SetDr w s.heap a ks m d)
  (h:∀(bb:Bool) h' ks',Heap.SameBut a s.heap h'→SetDr w h' a ks' m (d+1)→(∀j,j∈ks'↔j∈ks∧j≠k)→ks'.length≤ks.length→Q bb { s with heap:=h' }) :
  wpAny (model prog w) A (setDiscardHashed a (.int k tk) (hashInt k)) Q E s:=by
 obtain⟨o,es,ep,t,ho,hex,hd,hg,hk,nd,hl,ok,hf,em,ed⟩:=id hS
 unfold setDiscardHashed
 refine wpAny_bind (set_find hS.it fun rr hrr hat=>?_)
 cases rr with
 | none=>
  have hmem:k∉ks:=by
   intro z
   rw[decide_eq_true z] at hrr
   cases hrr
  have e:s={ s with heap:=s.heap }:=by cases s;rfl
  have:=h false s.heap ks (Heap.SameBut.refl _ _) ⟨o,es,ep,t,ho,hex,hd,hg,hk,nd,hl,ok,hf,em,Nat.le_succ_of_le ed⟩ (fun j=>⟨fun z=>⟨z,fun e=>hmem (e ▸ z)⟩,fun z=>z.1⟩) (Nat.le_refl _)
  rw[e]
  exact wpAny_pure this
 | some i=>
  have hki:=hat i rfl
  obtain⟨hi,eki⟩:=List.getElem?_eq_some_iff.mp hki
  have hsz:=sz_map hk
  have hpl:t.place.size=es.size:=by
   unfold SetTable.fits at hf
   exact beq_iff_eq.mp (Bool.and_eq_true_iff.mp hf).1
  have hfl:t.place.size+t.dummies.size≤t.mask:=by
   unfold SetTable.fits at hf
   exact of_decide_eq_true (Bool.and_eq_true_iff.mp hf).2
  have hip:i<t.place.size:=by omega
  have edrop:t.drop i={ t with place:=SetTable.eraseAt t.place i,dummies:=SetTable.insertAt t.dummies (SetTable.below t.dummies t.place[i]) t.place[i] }:=by
   unfold SetTable.drop
   rw[Array.getElem?_eq_getElem hip]
  have hkeys:(SetTable.eraseAt es i).toList.map keyOf=ks.eraseIdx i:=by
   rw[toList_eraseAt,←hk,List.eraseIdx_eq_take_drop_succ,List.eraseIdx_eq_take_drop_succ,List.map_append,List.map_take,List.map_drop]
  have hpm:=erase_perm ks i hi
  rw[eki] at hpm
  have nd':=hpm.nodup_iff.mpr nd
  have hlen:(ks.eraseIdx i).length+1=ks.length:=by rw[←hpm.length_eq,List.length_cons]
  have hes:(SetTable.eraseAt es i).size=(ks.eraseIdx i).length:=by rw[←hkeys,List.length_map,Array.length_toList]
  have hps:(SetTable.eraseAt t.place i).size+1=t.place.size:=by
   rw[←Array.length_toList,toList_eraseAt,List.length_eraseIdx,Array.length_toList,if_pos hip];omega
  have hds:(SetTable.insertAt t.dummies (SetTable.below t.dummies t.place[i]) t.place[i]).size=t.dummies.size+1:=by
   rw[←Array.length_toList,(SetTable.insertAt_perm _ _ _).length_eq]
   simp
  dsimp only
  refine wpAny_bind (wpAny_setState_of ho hd hf ?_)
  dsimp only
  refine wpAny_bind (wpAny_storeSet_of ho hd ?_ (fits_of_scanBound (by rw[hes];exact fit2000 (by omega))))
  refine wpAny_bind (wpAny_point (wpAny_pure ?_))
  refine h true _ (ks.eraseIdx i) (Heap.SameBut.update _ _ _) ⟨_,_,_,_,put_obj ho hd,hex,rfl,?_,hkeys,(List.nodup_cons.mp nd').2,by omega,?_,?_,?_,?_⟩ (fun j=>?_) (by omega)
  ·intro e he
   rw[toList_eraseAt] at he
   exact hg e (List.mem_of_mem_eraseIdx he)
  ·rw[edrop]
   refine⟨ok.led,?_⟩
   show (SetTable.eraseAt t.place i).toList.Pairwise (· < ·)
   rw[toList_eraseAt]
   exact List.Pairwise.sublist (List.eraseIdx_sublist _ _) ok.up
  ·rw[edrop]
   unfold SetTable.fits SetTable.fill
   show ((SetTable.eraseAt t.place i).size == _ && decide ((SetTable.eraseAt t.place i).size+(SetTable.insertAt t.dummies _ _).size≤t.mask))=true
   rw[hds,Bool.and_eq_true_iff]
   exact⟨beq_iff_eq.mpr (by omega),decide_eq_true (by omega)⟩
  ·rw[edrop];exact em
  ·rw[edrop]
   show (SetTable.insertAt t.dummies _ _).size≤d+1
   rw[hds];omega
  ·rw[←hpm.mem_iff,List.mem_cons]
   have hn:=(List.nodup_cons.mp nd').1
   constructor
   ·intro z;exact⟨.inr z,fun e=>hn (e ▸ z)⟩
   ·rintro⟨z | z,ne⟩
    ·exact absurd z ne
    ·exact z
theorem reorder {es:Array (Int×Value)} {t:SetTable} {order:Array Nat} (hp:order.toList.Perm (List.range es.size)):(order.filterMap (es[·]?)).toList.Perm es.toList:=by
 rw[Array.toList_filterMap]
 exact (hp.filterMap _).trans (by rw[filterMap_getElem?_range])
end
end L2
namespace L2
open PySem PySem.Spec PyProof.Rows
theorem mask_ok (n:Nat) (hn:n≤32):∃m,(∀led:Bool,(SetTable.fresh 0 0 led).roomFor n=if m=7 then none else some (2*n))∧(m≠7→SetTable.sizeAbove (2*n)-1=m)∧n≤m∧Cov m∧SetTable.sizeAbove (2*n)≤128:=by
 have key:∀n:Fin 33,(decide (n.val≤4) && decide (n.val*5<21)) || (decide (4<n.val) && decide (21≤n.val*5) && (SetTable.sizeAbove (2*n.val)-1 == 15 || SetTable.sizeAbove (2*n.val)-1 == 31 || SetTable.sizeAbove (2*n.val)-1 == 63 || SetTable.sizeAbove (2*n.val)-1 == 127) && decide (n.val≤SetTable.sizeAbove (2*n.val)-1))=true:=by decide +kernel
 have key2:∀n:Fin 33,SetTable.sizeAbove (2*n.val)≤128:=by decide +kernel
 have hk:=key ⟨n,by omega⟩
 have hk2:=key2 ⟨n,by omega⟩
 dsimp only at hk hk2
 have hfill:∀led:Bool,(SetTable.fresh 0 0 led).roomFor n=if (0+n)*5≥7*3 then some ((0+n)*2) else none:=fun led=>rfl
 by_cases h4:n≤4
 ·refine⟨7,fun led=>?_,fun h=>absurd rfl h,by omega,cov7,hk2⟩
  rw[hfill,if_neg (by omega),if_pos rfl]
 ·have hgt:¬decide (n≤4)=true:=by simpa using h4
  simp only[Bool.or_eq_true,Bool.and_eq_true,decide_eq_true_eq,beq_iff_eq] at hk
  rcases hk with⟨z,_⟩|⟨⟨⟨_,h21⟩,hm⟩,hnm⟩
  ·exact absurd z h4
  ·have hf:∀m,m≠7→∀led:Bool,(SetTable.fresh 0 0 led).roomFor n=if m=7 then none else some (2*n):=fun m hm led=>by
    rw[hfill,if_pos (by omega),if_neg hm,Nat.zero_add,Nat.mul_comm]
   rcases hm with ((e | e) | e) | e
   ·exact⟨15,hf 15 (by decide),fun _=>e,by omega,cov15,hk2⟩
   ·exact⟨31,hf 31 (by decide),fun _=>e,by omega,cov31,hk2⟩
   ·exact⟨63,hf 63 (by decide),fun _=>e,by omega,cov63,hk2⟩
   ·exact⟨127,hf 127 (by decide),fun _=>e,by omega,cov127,hk2⟩
section
variable {prog:Program} {w:World} {A:Around} {E:Value→Shared→Prop} {s:Shared} {a b r:Addr} {ka kb ks:List Int} {k:Int} {tk:Tok}
theorem room_for {n m:Nat} {Q:Unit→Shared→Prop} (ho:s.heap.get? r=some (set0 w)) (hr:∀led:Bool,(SetTable.fresh 0 0 led).roomFor n=if m=7 then none else some (2*n)) (hm:m≠7→SetTable.sizeAbove (2*n)-1=m) (cov:Cov m) (h128:SetTable.sizeAbove (2*n)≤128)
  (h:∀h' o' ep t,Heap.SameBut r s.heap h'→h'.get? r=some o'→o'.ExactSet→o'.data= .set #[] ep t→t.fits 0=true→t.mask=m→t.place.size=0→t.dummies = #[]→t.led = !byT w→Q () { s with heap:=h' }) :
  wpAny (model prog w) A (setRoomFor r n) Q E s:=by
 unfold setRoomFor
 refine wpAny_bind (wpAny_setState_of ho rfl rfl ?_)
 dsimp only
 rw[hr]
 by_cases z:m=7
 ·rw[if_pos z]
  dsimp only
  have e:s={ s with heap:=s.heap }:=by cases s;rfl
  rw[e]
  exact wpAny_pure (h s.heap _ 0 _ (Heap.SameBut.refl _ _) ho ⟨rfl,rfl,rfl⟩ rfl rfl z.symm rfl rfl rfl)
 ·rw[if_neg z]
  dsimp only
  unfold setRelay
  refine wpAny_bind (wpAny_setState_of ho rfl rfl ?_)
  dsimp only
  rw[if_neg (by have:=sizeLine_eq;omega)]
  have hm':=hm z
  obtain⟨t,order,e1,hp,hdm,hld,hup,hps,hmk⟩:=laid_is cov 0 ((SetTable.fresh 0 0 (!byT w)).movedTo m) (!byT w) true #[] (Nat.zero_le _) (fun h hh=>by simp at hh)
  have e2:(SetTable.fresh 0 0 (!byT w)).relaid (Array.map (·.1) (#[]:Array (Int×Value))) (2*n)=some (t,order):=by
   have em:Array.map (·.1) (#[]:Array (Int×Value)) = #[]:=by simp
   unfold SetTable.relaid
   rw[hm',em]
   exact e1
  have hop:(order.filterMap ((#[]:Array (Int×Value))[·]?)) = #[]:=by
   have:=reorder (t:=t) (es:=#[]) (order:=order) hp
   exact Array.toList_inj.mp (List.perm_nil.mp this)
  have hft:t.fits 0=true:=by
   unfold SetTable.fits SetTable.fill
   rw[hps,hdm]
   rfl
  refine wpAny_bind ?_
  rw[e2]
  show wpAny _ _ (if (order.filterMap ((#[]:Array (Int×Value))[·]?)).size != (#[]:Array (Int×Value)).size then _ else _) _ _ _
  rw[hop,if_neg (by simp)]
  refine wpAny_pure ?_
  dsimp only
  refine wpAny_storeSet_of ho rfl ?_ (by simp)
  exact h _ _ _ _ (Heap.SameBut.update _ _ _) (put_obj ho rfl) ⟨rfl,rfl,rfl⟩ rfl hft hmk hps hdm hld
theorem merge_into {Q:Unit→Shared→Prop} (ha:SetIt w s.heap a ka) (ho:s.heap.get? r=some (set0 w)) (hne:r≠a) (h32:∀j∈ka,0≤j∧j<32) (hl:ka.length≤32)
  (h:∀h' k2 m,Heap.SameBut r s.heap h'→SetDr w h' r k2 m 0→k2.Perm ka→ka.length≤m→Q () { s with heap:=h' }) :
  wpAny (model prog w) A (setMerge r a) Q E s:=by
 obtain⟨o,es,ep,t,hoa,hex,hd,hg,hk,nd,hlk,ok,hf⟩:=id ha
 have hsz:=sz_map hk
 unfold setMerge
 rw[if_neg (by simpa using hne)]
 refine wpAny_bind (wpAny_setState_of hoa hd hf ?_)
 dsimp only
 by_cases hem:es.isEmpty=true
 ·rw[if_pos hem]
  have e0:ka=[]:=List.eq_nil_of_length_eq_zero (by rw[←hsz];exact Array.isEmpty_iff_size_eq_zero.mp hem)
  have e:s={ s with heap:=s.heap }:=by cases s;rfl
  have:=h s.heap [] 7 (Heap.SameBut.refl _ _) ⟨_,#[],0,_,ho,⟨rfl,rfl,rfl⟩,rfl,fun e he=>absurd he (by simp),rfl,List.nodup_nil,by decide,⟨rfl,List.Pairwise.nil⟩,rfl,rfl,Nat.le_refl _⟩ (by rw[e0]) (by rw[e0];decide)
  rw[e]
  exact wpAny_pure this
 ·rw[if_neg hem]
  obtain⟨m,hr,hm,hnm,cov,h128⟩:=mask_ok es.size (by omega)
  refine wpAny_bind (room_for ho hr hm cov h128 fun h1 o1 ep1 t1 sb1 ho1 hex1 hd1 hf1 hm1 hp1 hdm1 hl1=>?_)
  have hoa1:h1.get? a=some o:=by rw[sb1.2 _ (Ne.symm hne)];exact hoa
  refine wpAny_bind (wpAny_setState_of (s:={ s with heap:=h1 }) ho1 hd1 hf1 ?_)
  dsimp only
  have hfill:(t1.fill != 0)=false:=by
   unfold SetTable.fill
   rw[hp1,hdm1]
   rfl
  unfold SetTable.road
  rw[hfill,if_neg Bool.false_ne_true]
  by_cases hc:(t1.mask == t.mask && t.dummies.isEmpty)=true
  ·rw[if_pos hc]
   dsimp only
   obtain⟨c1,c2⟩:=Bool.and_eq_true_iff.mp hc
   refine wpAny_storeSet_of (s:={ s with heap:=h1 }) ho1 hd1 ?_ (fits_of_scanBound (by rw[hsz];exact fit2000 hlk))
   refine h _ ka m (sb1.trans (Heap.SameBut.update _ _ _)) ⟨_,_,_,_,put_obj ho1 hd1,hex1,rfl,hg,hk,nd,hlk,⟨?_,ok.up⟩,hf,?_,?_⟩ (List.Perm.refl _) (by omega)
   ·show (t1.led && t.led)=_
    rw[hl1,ok.led,Bool.and_self]
   ·show t.mask=m
    rw[←hm1]
    exact (beq_iff_eq.mp c1).symm
   ·show t.dummies.size≤0
    rw[Array.isEmpty_iff_size_eq_zero.mp c2]
    exact Nat.le_refl _
  ·rw[if_neg hc]
   dsimp only
   have hsm:(es.map (·.1)).size=es.size:=Array.size_map
   obtain⟨t2,order,e1,hp,hdm,hld,hup,hps,hmk⟩:=laid_is cov t1.finger t1.moves (t1.led && t.led) (t1.plain && t.plain) (es.map (·.1)) (by rw[hsm];exact hnm) (fun hh hin=>by
    rw[Array.toList_map] at hin
    obtain⟨e,he,rfl⟩:=List.mem_map.mp hin
    rw[(hg e he).1]
    have:=h32 (keyOf e) (by rw[←hk];exact List.mem_map_of_mem he)
    exact bits_small this.1 this.2)
   rw[hsm] at hp hps
   rw[hm1]
   have hpe:=reorder (t:=t2) (es:=es) hp
   refine wpAny_bind ?_
   rw[e1]
   have hsz2:(order.filterMap (es[·]?)).size=es.size:=by rw[←Array.length_toList,hpe.length_eq,Array.length_toList]
   show wpAny _ _ (if (order.filterMap (es[·]?)).size != es.size then _ else _) _ _ _
   rw[if_neg (by rw[hsz2];simp)]
   refine wpAny_pure ?_
   dsimp only
   have hkp:=hpe.map keyOf
   rw[hk] at hkp
   refine wpAny_storeSet_of (s:={ s with heap:=h1 }) ho1 hd1 ?_ (fits_of_scanBound (by rw[hsz2,hsz];exact fit2000 hlk))
   refine h _ _ m (sb1.trans (Heap.SameBut.update _ _ _)) ⟨_,_,_,_,put_obj ho1 hd1,hex1,rfl,fun e he=>hg e (hpe.mem_iff.mp he),rfl,hkp.nodup_iff.mpr nd,by rw[hkp.length_eq];exact hlk,⟨by rw[hld,hl1,ok.led,Bool.and_self],hup⟩,?_,hmk,by rw[hdm];exact Nat.le_refl _⟩ hkp (by omega)
   unfold SetTable.fits SetTable.fill
   rw[hps,hdm,hsz2,hmk,Bool.and_eq_true_iff]
   exact⟨beq_self_eq_true _,decide_eq_true (by simpa using hnm)⟩
end
end L2
namespace L2
open PySem PySem.Spec PyProof.Rows
section
variable {prog:Program} {w:World} {A:Around} {E:Value→Shared→Prop} {s:Shared} {a b r:Addr} {ka kb kr ks:List Int} {k:Int} {tk:Tok}
theorem diff_update {id0:String} {m:Nat} {Q:Unit→Shared→Prop} (hr:SetDr w s.heap r kr m 0) (hb:SetIt w s.heap b kb) (hne:r≠b) (hlt:kb.length<kr.length / 4) (hm:kr.length≤m)
  (h:∀h' k2,Heap.SameBut r s.heap h'→SetIt w h' r k2→(∀j,j∈k2↔j∈kr∧j∉kb)→k2.length≤kr.length→Q () { s with heap:=h' }) :
  wpAny (model prog w) A (Builtin.Frozenset.differenceUpdate id0 r (.ref b)) Q E s:=by
 unfold Builtin.Frozenset.differenceUpdate
 rw[if_neg (by intro z;have:=beq_iff_eq.mp z;injection this with this;exact hne this.symm)]
 refine wpAny_bind (any_set hb ?_)
 rw[if_pos rfl]
 obtain⟨o,es,ep,t,ho,hex,hd,hg,hk,nd,hlk,ok,hf⟩:=id hb
 show wpAny _ _ (Builtin.Frozenset.sizeOf b >>= _) _ _ _
 refine wpAny_bind (size_of hb ?_)
 refine wpAny_bind (size_of hr.it ?_)
 rw[if_neg (by omega)]
 refine wpAny_bind (epoch_is ho hd hf ?_)
 refine wpAny_bind (wpAny_holding ?_)
 refine wpAny_bind (walk_none hb (fun c hc=>?_) fun es' hg' hp'=>?_)
 ·simp only[List.mem_cons,List.not_mem_nil,or_false] at hc
  subst hc
  exact⟨_,hr.it⟩
 have hsz:es'.size=kb.length:=by rw[←hp'.length_eq,List.length_map,Array.length_toList]
 refine wpAny_bind ?_
 refine wpAny_forIn_array' _ (fun rest _ s'=>∃h1 k1 d,s'={ s with heap:=h1 }∧Heap.SameBut r s.heap h1∧SetDr w h1 r k1 m d∧d+rest.length=kb.length∧EGood rest∧k1.length≤kr.length∧
  (∀j,(j∈k1∧j∉rest.map keyOf)↔j∈kr∧j∉kb)) _ ?_ ?_ _ _ ⟨s.heap,kr,0,by cases s;rfl,Heap.SameBut.refl _ _,hr,by rw[Array.length_toList,hsz];omega,hg',Nat.le_refl _,fun j=>by rw[hp'.mem_iff]⟩
 ·rintro⟨hh,x⟩ rest u s' ⟨h1,k1,d,rfl,sb,hS,hdl,g,hl,hm⟩
  obtain⟨e1,t',e2⟩:=g _ List.mem_cons_self
  generalize hk:keyOf (hh,x)=k at e1 e2
  dsimp only at e1 e2
  subst e1;subst e2
  rw[List.length_cons] at hdl
  refine wpAny_bind (wpAny_holding ?_)
  refine set_discard (s:={ s with heap:=h1 }) hS fun bb h2 k2 sb2 hS2 hm2 hl2=>?_
  have ho':h2.get? b=some o:=by rw[sb2.2 _ (Ne.symm hne),sb.2 _ (Ne.symm hne)];exact ho
  refine wpAny_bind (unchanged_is (s:={ s with heap:=h2 }) ho' hd hf (wpAny_pure ?_))
  refine⟨h2,k2,d+1,rfl,sb.trans sb2,hS2,by omega,fun y hy=>g y (List.mem_cons_of_mem _ hy),Nat.le_trans hl2 hl,fun j=>?_⟩
  rw[←hm j,hm2 j,List.map_cons,List.mem_cons,hk]
  constructor
  ·rintro⟨⟨z1,z2⟩,z3⟩
   exact⟨z1,fun z=>z.elim z2 z3⟩
  ·rintro⟨z1,z2⟩
   exact⟨⟨z1,fun e=>z2 (.inl e)⟩,fun e=>z2 (.inr e)⟩
 ·rintro u s' ⟨h1,k1,d,rfl,sb,hS,hdl,g,hl,hm2⟩
  refine wpAny_pure ?_
  obtain⟨o1,es1,ep1,t1,ho1,hex1,hd1,hg1,hk1,nd1,hlk1,ok1,hf1,em1,ed1⟩:=id hS
  unfold setTidy
  refine wpAny_bind (wpAny_setState_of (s:={ s with heap:=h1 }) ho1 hd1 hf1 ?_)
  dsimp only
  rw[if_neg (by
   unfold SetTable.tooManyDummies
   rw[em1]
   simp only[List.length_nil] at hdl
   have:¬t1.dummies.size>m / 4:=by omega
   simpa using this)]
  exact wpAny_pure (h h1 k1 sb hS.it (fun j=>by rw[←hm2 j];simp) hl)
theorem set_sub {Q:Value→Shared→Prop} (ha:SetIt w s.heap a ka) (hb:SetIt w s.heap b kb) (hab:a≠b) (h32:∀j∈ka,0≤j∧j<32) (hl:ka.length≤32) (hlb:kb.length≤1000)
  (h:∀h' k2,SetIt w h' s.heap.objs.size k2→(∀j,j∈k2↔j∈ka∧j∉kb)→k2.length≤ka.length→(∀c o,s.heap.get? c=some o→h'.get? c=some o)→Q (.ref s.heap.objs.size) { s with heap:=h' }) :
  wpAny (model prog w) A (binaryOp .Sub (.ref a) (.ref b)) Q E s:=by
 refine wpAny_binaryOp_same ha.typeIs hb.typeIs PySem.F.fills_set_sub PySem.F.slot_set_sub ?_
 refine wpAny_call_entry PySem.F.slot_set_sub ha.typeIs F.entry_set_sub ?_ (PySem.F.args_set_sub_2 _ _)
 show wpAny _ _ (do
  let (self,other) ←Builtin.Frozenset.slot1 "__sub__" ⟨[.ref a,.ref b],[]⟩
  let (l,r):=if false=true then (other,self) else (self,other)
  if !(←Builtin.Frozenset.isAnySet l <&&> Builtin.Frozenset.isAnySet r) then rule s!"frozenset.{"__sub__"}.declined";return ←ret .notImplemented
  ret (←Builtin.Frozenset.difference s!"frozenset.{"__sub__"}" (←Builtin.Frozenset.addrOf l) r)) _ _ _
 generalize s!"frozenset.{"__sub__"}"=id0
 generalize s!"frozenset.{"__sub__"}.declined"=id1
 show wpAny _ _ ((Builtin.Frozenset.isAnySet (.ref a) <&&> Builtin.Frozenset.isAnySet (.ref b)) >>= _) _ _ _
 refine wpAny_bind ?_
 show wpAny _ _ (Builtin.Frozenset.isAnySet (.ref a) >>= _) _ _ _
 refine wpAny_bind (any_set ha ?_)
 show wpAny _ _ (Builtin.Frozenset.isAnySet (.ref b)) _ _ _
 refine any_set hb ?_
 simp only[Bool.not_true,Bool.false_eq_true,if_false]
 show wpAny _ _ (Builtin.Frozenset.difference id0 a (.ref b) >>= _) _ _ _
 refine wpAny_bind ?_
 have kk:∀c o,s.heap.get? c=some o→(s.heap.push (set0 w)).get? c=some o:=fun c o e=>Heap.get?_push_of_some _ e
 have ha1:=ha.keep (h':=s.heap.push (set0 w)) fun o e=>kk _ _ e
 have hb1:=hb.keep (h':=s.heap.push (set0 w)) fun o e=>kk _ _ e
 have hr1:SetIs w (s.heap.push (set0 w)) s.heap.objs.size []:=set0_is
 have hr0:(s.heap.push (set0 w)).get? s.heap.objs.size=some (set0 w):=Heap.get?_push_size _ rfl
 have na:a≠s.heap.objs.size:=let ⟨o,_,_,_,ho,_⟩:=ha;ne_push ho
 have nb:b≠s.heap.objs.size:=let ⟨o,_,_,_,ho,_⟩:=hb;ne_push ho
 have keep:∀h',Heap.SameBut s.heap.objs.size (s.heap.push (set0 w)) h'→∀c o,s.heap.get? c=some o→h'.get? c=some o:=fun h' sb c o e=>by
  rw[sb.2 _ (ne_push e)];exact kk c o e
 unfold Builtin.Frozenset.difference
 refine wpAny_bind (any_set hb ?_)
 simp only[Bool.not_true,Bool.false_eq_true,if_false]
 show wpAny _ _ (Builtin.Frozenset.sizeOf b >>= _) _ _ _
 refine wpAny_bind (size_of hb ?_)
 refine wpAny_bind (size_of ha ?_)
 by_cases hbig:ka.length / 4>kb.length
 ·rw[if_pos hbig]
  refine wpAny_bind (wpAny_rule ?_)
  unfold Builtin.Frozenset.copyOf
  refine wpAny_bind (wpAny_bind (base_of ha (wpAny_bind (new_set ?_))))
  show wpAny _ _ (setMerge s.heap.objs.size a >>= _) _ _ _
  refine wpAny_bind (merge_into (s:={ s with heap:=s.heap.push (set0 w) }) ha1 hr0 (Ne.symm na) h32 hl fun h1 k1 m sb1 hS1 hp1 hm1=>?_)
  refine wpAny_pure ?_
  have hb2:SetIt w h1 b kb:=hb1.keep fun o e=>by rw[sb1.2 _ nb];exact e
  refine wpAny_bind (m:=Builtin.Frozenset.addrOf (Value.ref s.heap.objs.size)) (wpAny_pure ?_)
  refine wpAny_bind (wpAny_holding ?_)
  show wpAny _ _ (Builtin.Frozenset.differenceUpdate id0 s.heap.objs.size (.ref b)) _ _ _
  refine diff_update (s:={ s with heap:=h1 }) hS1 hb2 (Ne.symm nb) (by rw[hp1.length_eq];exact hbig) (by rw[hp1.length_eq];exact hm1) fun h2 k2 sb2 hS2 hm2 hl2=>?_
  refine wpAny_pure ?_
  refine wpAny_pure ⟨_,rfl,by simp,?_⟩
  exact h h2 k2 hS2 (fun j=>by rw[hm2 j,hp1.mem_iff]) (by rw[←hp1.length_eq];exact hl2) (keep _ (sb1.trans sb2))
 ·rw[if_neg hbig]
  refine wpAny_bind (base_of ha (wpAny_bind (new_set ?_)))
  show wpAny _ _ (setEpoch a >>= _) _ _ _
  obtain⟨o,es,ep,t,ho,hex,hd,hg,hk,nd,hlk,ok,hf⟩:=id ha1
  refine wpAny_bind (epoch_is (s:={ s with heap:=s.heap.push (set0 w) }) ho hd hf ?_)
  refine wpAny_bind (wpAny_holding ?_)
  simp only[if_true]
  refine wpAny_bind (walk_into (s:={ s with heap:=s.heap.push (set0 w) }) ha1 hr1 (fun c hc=>?_) fun es' h' hg' hp' sb hr'=>?_)
  ·simp only[List.mem_cons,List.not_mem_nil,or_false] at hc
   rcases hc with rfl | rfl
   ·exact⟨_,hb1⟩
   ·exact⟨_,hr1.it⟩
  have hsz:es'.size=ka.length:=by rw[←hp'.length_eq,List.length_map,Array.length_toList]
  refine wpAny_bind (wpAny_mono (fill_loop (s:={ s with heap:=h' }) (r:=s.heap.objs.size) (p:=fun j=>decide (j∉kb)) (R:=fun _ s'=>∃h' k2,s'={ s with heap:=h' }∧Heap.SameBut s.heap.objs.size (s.heap.push (set0 w)) h'∧SetIs w h' s.heap.objs.size k2∧(∀j,j∈k2↔j∈ka∧j∉kb)∧k2.length≤ka.length) ?_ hg' hr' (by rw[hsz];simp;omega) fun h2 k2 sb2 hS2 hm2 hl2=>⟨h2,k2,rfl,sb.trans sb2,hS2,fun j=>?_,by rw[hsz] at hl2;simpa using hl2⟩) ?_ fun _ _ h'=>h')
  ·intro k tk h1 k1 Q' sb1 hS1 hl1 hQ
   have hb2:SetIt w h1 b kb:=hb1.keep fun o e=>by rw[sb1.2 _ nb,sb.2 _ nb];exact e
   refine wpAny_bind ?_
   refine wpAny_holding ?_
   refine wpAny_bind (set_find (s:={ s with heap:=h1 }) hb2 fun rr hrr _=>wpAny_bind (wpAny_pure ?_))
   have fin:∀h2 k2,Heap.SameBut s.heap.objs.size h1 h2→SetIs w h2 s.heap.objs.size k2→(∀j,j∈k2↔j∈k1∨(decide (k∉kb)=true∧j=k))→k2.length≤k1.length+1→wpAny (model prog w) A.in1 (Builtin.Frozenset.unchanged id0 a ep >>= fun _=>pure (ForInStep.yield PUnit.unit)) Q' E { s with heap:=h2 }:=fun h2 k2 sb' hS' hm' hl'=>by
    have ho':h2.get? a=some o:=by rw[sb'.2 _ na,sb1.2 _ na,sb.2 _ na];exact ho
    exact wpAny_bind (unchanged_is (s:={ s with heap:=h2 }) ho' hd hf (wpAny_pure (hQ h2 k2 sb' hS' hm' hl')))
   by_cases hmem:k∈kb
   ·rw[hrr,decide_eq_true hmem,if_neg (by decide)]
    refine wpAny_pure ?_
    exact fin h1 k1 (Heap.SameBut.refl _ _) hS1 (fun j=>by rw[decide_eq_false (fun z=>z hmem)];simp) (Nat.le_succ _)
   ·rw[hrr,decide_eq_false hmem,if_pos (by decide)]
    refine wpAny_bind (set_add (s:={ s with heap:=h1 }) hS1 hl1 fun h2 k2 sb' hS' hm' hl'=>wpAny_pure ?_)
    exact fin h2 k2 sb' hS' (fun j=>by rw[hm' j,decide_eq_true hmem];simp) hl'
  ·rw[hm2 j,hp'.mem_iff,decide_eq_true_eq]
   simp[and_comm]
  ·rintro u s' ⟨h2,k2,rfl,sb',hS',hm',hl'⟩
   refine wpAny_pure ?_
   refine wpAny_pure ?_
   refine wpAny_pure ⟨_,rfl,by simp,?_⟩
   exact h h2 k2 hS'.it hm' hl' (keep _ sb')
end
end L2
namespace L2
open PySem PySem.Spec PyProof.Rows
theorem ints_of_vals:∀{us:List Value} {ns:List Int},Vals (ns.map V.int) us→IntsAre us ns
 | _,[],h=>by cases h;exact .nil
 | _,n::ns,h=>by
  cases h with
  | cons r t=>obtain⟨k,rfl⟩:=r;exact .cons n k (ints_of_vals t)
theorem nodup_sub:∀{l1 l2:List Int},l1.Nodup→(∀x∈l1,x∈l2)→l1.length≤l2.length
 | [],_,_,_=>Nat.zero_le _
 | x::l1,l2,nd,h=>by
  have nd':=List.nodup_cons.mp nd
  have hx:=h x List.mem_cons_self
  have ih:=nodup_sub (l1:=l1) (l2:=l2.erase x) nd'.2 fun y hy=>(List.mem_erase_of_ne (show y≠x from fun e=>nd'.1 (e ▸ hy))).mpr (h y (List.mem_cons_of_mem _ hy))
  rw[List.length_erase_of_mem hx] at ih
  have:0<l2.length:=List.length_pos_of_mem hx
  rw[List.length_cons]
  omega
section
variable {X:Cx}
theorem call_setL (hc:X.calm=true):CallR X (.type "set") (fun xs H Q=>∃(l:Addr) (ns:List Int),xs=[.ref l]∧SqL X.K H l (ns.map V.int)∧ns.length<1000∧∀a,H a=none→Q (.ref a) (upd H a (SetO X.w a (fun k=>decide (k∈ns)) ns.length))):=by
 intro pins s σ H xs us Q I r h
 obtain⟨l,ns,rfl,hq,hn,q⟩:=h
 obtain⟨u,rfl,ru⟩:=vals1 r
 cases ru
 obtain⟨its,rv,pl,hz⟩:=I.list hq
 have hlen:its.length=ns.length:=by rw[←rv.length,List.length_map]
 refine call_setl (w:=X.w) (ns:=ns) (I.ok.hd hc) pl.isList (by rw[List.toList_toArray];exact ints_of_vals rv) (by rw[List.size_toArray];omega) fun h' tk ks hS hm hl kk=>?_
 refine⟨.ref s.heap.objs.size,_,I.laid (t':=tk) (o:=SetO X.w s.heap.objs.size (fun k=>decide (k∈ns)) ns.length) kk (Nat.le_refl _) ?_,rfl,q _ (I.hok.fresh (Nat.le_refl _))⟩
 exact setO_ok hS (fun k=>by rw[decide_eq_true_eq];exact (hm k).symm) hl
theorem op_subS:OpR X (binaryOp .Sub) (fun x y H Q=>∃(a b:Addr) (S T:Int→Bool) (n m:Nat),x= .ref a∧y= .ref b∧H a=some (SetO X.w a S n)∧H b=some (SetO X.w b T m)∧a≠b∧n≤32∧m≤1000∧(∀k,S k=true→0≤k∧k<32)∧
  ∀r,H r=none→Q (.ref r) (upd H r (SetR X.w r (fun k=>S k && !T k) n))):=by
 intro pins s σ H x y v u Q I rx ry h
 obtain⟨a,b,S,T,n,m,rfl,rfl,ha,hb,hne,hn,hm',h32,q⟩:=h
 cases rx
 cases ry
 obtain⟨ka,hSa,hma,hla⟩:=I.setO ha
 obtain⟨kb,hSb,hmb,hlb⟩:=I.setO hb
 refine set_sub (w:=X.w) hSa.it hSb.it hne (fun j hj=>h32 j ((hma j).mpr hj)) (by omega) (by omega) fun h' k2 hS hm hl kk=>?_
 refine⟨.ref s.heap.objs.size,_,I.laid (t':=s.toks) (o:=SetR X.w s.heap.objs.size (fun k=>S k && !T k) n) kk (Nat.le_refl _) ?_,rfl,q _ (I.hok.fresh (Nat.le_refl _))⟩
 refine setR_ok hS (fun k=>?_) (by omega)
 rw[Bool.and_eq_true,hma,hm k,Bool.not_eq_true',←Bool.not_eq_true,hmb]
end
end L2
namespace L2
open PySem PySem.Spec PyProof.Rows
section
variable {X:Cx} {tg:Expr} {acc:Value}
theorem add_core {pins:List (Addr×Obj)} {s:Shared} {σ:St} {H:Hp} {a:Addr} {S:Int→Bool} {n:Nat} {k:Int} {tk:Tok} {E:Value→Shared→Prop} (I:Inv X pins σ H s) (ha:H a=some (SetO X.w a S n)) (hn:n+1<2000) :
  wpAny (model X.prog X.w) X.A (call (.builtin "set.add") [.ref a,.int k tk]) (fun _ s'=>Inv X pins σ (upd H a (SetO X.w a (fun j=>S j || decide (j=k)) (n+1))) s') E s:=by
 obtain⟨ks2,hS2,hm2,hl2⟩:=I.setO ha
 refine call_add (w:=X.w) hS2 (by omega) fun h' ks' hsb hS' hm' hl'=>?_
 have mu:Mut (H a):=by rw[ha];exact True.intro
 refine I.write (x:=a) (e:=a) (t':=s.toks+1) mu (.inl rfl) (fun b ob nb eb=>(hsb.2 b nb).trans eb) (let ⟨o,_,_,_,ho,_⟩:=hS';⟨o,ho⟩) (setO_ok hS' (fun j=>?_) (by omega))
 rw[hm' j,Bool.or_eq_true,decide_eq_true_eq,hm2 j]
def emitWBS (X:Cx) (ifs:List Expr) (elt:Expr) (acc:Value):WBT:=fun Qa s=>wpAny (model X.prog X.w) X.A (clTests ifs X.env) (fun ok s1=>if ok=true then wpAny (model X.prog X.w) X.A (eval elt X.env) (fun x s2=>wpAny (model X.prog X.w) X.A (call (.builtin "set.add") [acc,x]) (fun _ s3=>Qa s3) NoE s2) NoE s1 else Qa s1) NoE s
def tEmitS (w:World) (acc:Addr) (te:TE):TS:=fun D σ H=>te σ H fun x H1=>∃k S n,x= .int k∧H1 acc=some (SetO w acc S n)∧n+1<2000∧D.nx σ (upd H1 acc (SetO w acc (fun j=>S j || decide (j=k)) (n+1)))
theorem pb_emitS {ifs:List Expr} {elt:Expr} {ac:Addr} {tc:TT} {te:TE} (hxe:X.xe=NoE) (hi:PTs X ifs tc) (he:PE X elt te):PB X (emitWBS X ifs elt (.ref ac)) (tIfC tc (tEmitS X.w ac te)) where
 mono:=fun Qa Qb s hq h=>thn h fun ok s1 h1=>by
  cases ok with
  | false=>exact hq _ h1
  | true=>exact thn h1 fun x s2 h2=>thn h2 fun _ s3 h3=>hq _ h3
 run:=fun pins s σ H D I h=>by
  have h1:=hi pins s σ H _ I h
  rw[hxe] at h1
  refine thn h1 fun ok s1 ⟨H1,I1,q1⟩=>?_
  cases ok with
  | false=>exact⟨σ,H1,I1,q1⟩
  | true=>
   have q1':tEmitS X.w ac te D σ H1:=q1
   have h2:=he pins s1 σ H1 _ I1 q1'
   rw[hxe] at h2
   refine thn h2 fun u s2 ⟨x,H2,I2,r2,k,S,n,ex,hl,hz,q2⟩=>?_
   subst ex
   obtain⟨tk,rfl⟩:=r2
   exact thn (add_core (E:=NoE) I2 hl hz) fun _ s3 I3=>⟨σ,_,I3,q2⟩
theorem compTurn_sin (elt tg0 iter0 tg iter:Expr) (ifs0 ifs:List Expr) (scope:Scope) (pos:Pos) (it acc:Value) (env:Env) :
  compTurn (.SetComp elt [⟨tg0,iter0,ifs0,0⟩,⟨tg,iter,ifs,0⟩] scope pos) 1 it acc env=(do
   standAt iter.pos
   match ←pyNext it with
   | none=>pure (.done .next)
   | some v=>
    letOwnedTupleGo tg it v
    assign tg env v
    let mut ok:=true
    for c in ifs do
     if ok then ok ←isTrue c env (eval c env)
    if ok then
     (do let v ←eval elt env;standAt elt.pos;let _ ←call (.builtin "set.add") [acc,v])
    again (.compLoop (.SetComp elt [⟨tg0,iter0,ifs0,0⟩,⟨tg,iter,ifs,0⟩] scope pos) 1 it acc env)):=by rfl
theorem ht_sin {elt tg0 iter0 iter:Expr} {ifs0 ifs:List Expr} {scope:Scope} {pos:Pos} {itv:Value}:HT X (.SetComp elt [⟨tg0,iter0,ifs0,0⟩,⟨tg,iter,ifs,0⟩] scope pos) 1 itv acc tg (emitWBS X ifs elt acc):=by
 intro s Qd Qa h
 rw[compTurn_sin]
 refine wpAny_bind (wpAny_standAt (wpAny_bind (thn h fun r s₁ h₁=>?_)))
 cases r with
 | none=>exact wpAny_pure ⟨rfl,h₁⟩
 | some v=>
  refine wpAny_bind (thn h₁ fun _ s2 h2=>wpAny_bind (thn h2 fun _ s3 h3=>wpAny_bind (thn h3 fun ok s4 h4=>?_)))
  cases ok with
  | false=>exact wpAny_pure ⟨rfl,h4⟩
  | true=>exact wpAny_bind (wpAny_bind (thn h4 fun x s₄ h₄=>wpAny_bind (wpAny_standAt (wpAny_bind (thn h₄ fun _ s₅ h₅=>wpAny_pure (wpAny_pure ⟨rfl,h₅⟩))))))
theorem compTurn_sout (elt tg iter tg1 iter1:Expr) (ifs ifs1:List Expr) (scope:Scope) (pos:Pos) (it acc:Value) (env:Env) :
  compTurn (.SetComp elt [⟨tg,iter,ifs,0⟩,⟨tg1,iter1,ifs1,0⟩] scope pos) 0 it acc env=(do
   standAt iter.pos
   match ←pyNext it with
   | none=>pure (.done .next)
   | some v=>
    letOwnedTupleGo tg it v
    assign tg env v
    let mut ok:=true
    for c in ifs do
     if ok then ok ←isTrue c env (eval c env)
    if ok then
     let x ←eval iter1 env
     standAt iter1.pos
     let x ←foldedSetIterable iter1 env x
     let _ ←runOwn (.compStart (.SetComp elt [⟨tg,iter,ifs,0⟩,⟨tg1,iter1,ifs1,0⟩] scope pos) 1 (←holding [x] (pyIter x)) acc env) env
    again (.compLoop (.SetComp elt [⟨tg,iter,ifs,0⟩,⟨tg1,iter1,ifs1,0⟩] scope pos) 0 it acc env)):=by rfl
theorem ht_sout {elt iter tg1 iter1:Expr} {ifs ifs1:List Expr} {scope:Scope} {pos:Pos} {itv:Value} (hs:∀x,foldedSetIterable iter1 X.env x=pure x) :
  HT X (.SetComp elt [⟨tg,iter,ifs,0⟩,⟨tg1,iter1,ifs1,0⟩] scope pos) 0 itv acc tg (outWB X ifs (.SetComp elt [⟨tg,iter,ifs,0⟩,⟨tg1,iter1,ifs1,0⟩] scope pos) iter1 acc):=by
 intro s Qd Qa h
 rw[compTurn_sout]
 refine wpAny_bind (wpAny_standAt (wpAny_bind (thn h fun r s₁ h₁=>?_)))
 cases r with
 | none=>exact wpAny_pure ⟨rfl,h₁⟩
 | some v=>
  refine wpAny_bind (thn h₁ fun _ s2 h2=>wpAny_bind (thn h2 fun _ s3 h3=>wpAny_bind (thn h3 fun ok s4 h4=>?_)))
  cases ok with
  | false=>exact wpAny_pure ⟨rfl,h4⟩
  | true=>
   refine wpAny_bind (thn h4 fun x s₄ h₄=>wpAny_bind (wpAny_standAt (wpAny_bind (wpAny_of_eq (hs x) (wpAny_bind (wpAny_holding (thn h₄ fun it s₅ h₅=>?_)))))))
   refine wpAny_bind (wpAny_runOwn (codeAny_mono h₅ fun r s₆ h₆=>?_))
   obtain⟨rfl,h₆⟩:=h₆
   exact wpAny_pure ⟨rfl,h₆⟩
theorem pb_sout {elt iter tg1 iter1:Expr} {ifs ifs1:List Expr} {scope:Scope} {pos:Pos} {ac:Addr} {tc:TT} {wi1:TI} {g1:TG} {tb1:TS} (hxe:X.xe=NoE) (hc:X.calm=true)
  (hi:PTs X ifs tc) (hI:PI X tg1 iter1 wi1) (hg1:PG X tg1 g1) (hb1:PB X (emitWBS X ifs1 elt (.ref ac)) tb1) :
  PB X (outWB X ifs (.SetComp elt [⟨tg,iter,ifs,0⟩,⟨tg1,iter1,ifs1,0⟩] scope pos) iter1 (.ref ac)) (tIfC tc (tFor wi1 g1 tb1)) where
 mono:=fun Qa Qb s hq h=>thn h fun ok s1 h1=>by
  cases ok with
  | false=>exact hq _ h1
  | true=>exact thn h1 fun x s2 h2=>thn h2 fun it s3 h3=>codeAny_mono h3 fun r s4 h4=>⟨h4.1,hq _ h4.2⟩
 run:=fun pins s σ H D I h=>by
  have h1:=hi pins s σ H _ I h
  rw[hxe] at h1
  refine thn h1 fun ok s1 ⟨H1,I1,q1⟩=>?_
  cases ok with
  | false=>exact⟨σ,H1,I1,q1⟩
  | true=>
   have q1':tFor wi1 g1 tb1 D σ H1:=q1
   have h2:=hI pins s1 σ H1 _ I1 q1'
   rw[hxe] at h2
   refine thn h2 fun u s2 h3=>thn h3 fun itv s3 h4=>?_
   obtain⟨it,fp,tn,J,H3,e,I3,T,st3,f3,hR⟩:=h4
   subst e
   have loop:=comp_loop (e:=.SetComp elt [⟨tg,iter,ifs,0⟩,⟨tg1,iter1,ifs1,0⟩] scope pos) (d:=1) (D:=D) hxe hc ht_sin rfl rfl rfl T hg1 hb1 I3 st3 f3 hR
   exact comp_start (X:=X) rfl rfl rfl (fun _=>rfl) True.intro loop (T.self _ 0 s3 _ _ st3 loop)
end
def tCompS (w:World) (wi:TI) (js:List (Option Nat)) (g:CC→TG) (tb:CC→Addr→TS):TE:=fun σ H Q=>wi σ H fun J H1=>∀(c:CC) (acc:Addr),H1 acc=none→
 loopR J (g c) (tb c acc) { nx:=fun _ H'=>Q (.ref acc) H',rt:=fun _ _=>False } (sub js σ) (upd H1 acc (SetO w acc (fun _=>false) 0))
section
variable {X:Cx} {N:List Str} {scope:Scope} {cl:List (Str×Addr)} {js:List (Option Nat)} {elt tg iter:Expr} {ifs:List Expr} {rest:List Comprehension} {pos:Pos} {wi:TI} {g:CC→TG} {tb:CC→Addr→TS}
theorem pe_scompG {WB:CC→Value→WBT} (hxe:X.xe=NoE) (hc:X.calm=true) (hi:PI X tg iter wi) (hs:∀x,foldedSetIterable iter X.env x=pure x) (hclos:closureFor scope X.env=pure cl) (hk:scope.kind= .function)
  (hnames:∀x∈scope.names,x.2= .local→scope.names.lookup x.1=some .local) (hcell:∀x∈scope.names,x.2≠.cell)
  (hcl:∀p∈cl,X.env.cells.lookup p.1=some p.2) (hcn:∀x,((relabel scope X.env).names.lookup x=some .cell∨(relabel scope X.env).names.lookup x=some .free)→∃c,cl.lookup x=some c)
  (hsh:shares X N scope js) (hl:js.length=N.length)
  (ht:∀c it ac,HT (X.cmp N scope cl c) (.SetComp elt (⟨tg,iter,ifs,0⟩::rest) scope pos) 0 it ac tg (WB c ac))
  (hg:∀c,PG (X.cmp N scope cl c) tg (g c)) (hb:∀c ac,PB (X.cmp N scope cl c) (WB c (.ref ac)) (tb c ac)) :
  PE X (.SetComp elt (⟨tg,iter,ifs,0⟩::rest) scope pos) (tCompS X.w wi js g tb):=by
 intro pins s σ H Q I h
 rw[arm_eval_SetComp]
 have h0:=hi pins s σ H _ I h
 refine wpAny_comprehension_free (use:=none) (cl:=cl) rfl hs hclos hk hnames (thn h0 fun v s1 h1=>thn h1 fun itv s2 h2=>?_)
 obtain⟨it,fp,tn,J,H2,e,I2,T,st2,f2,hR⟩:=h2
 subst e
 refine new_set (wpAny_newFunctionEnv hcell (by intro y hy;simp at hy) (fun h₁ hns₁ hsb₁=>?_) hk)
 dsimp only at hns₁ hsb₁ ⊢
 have I3:=I2.laid (t':=s2.toks) (h':=s2.heap.push (set0 X.w)) (o:=SetO X.w s2.heap.objs.size (fun _=>false) 0) (fun b ob e=>Heap.get?_push_of_some _ e) (Nat.le_refl _) (setO_ok set0_is (fun k=>by simp) (Nat.le_refl _))
 have fpl:∀b∈fp,b<s2.heap.objs.size:=fun b hb=>by
  obtain⟨o,e,_⟩:=T.obj 0 _ st2 b hb
  exact Heap.lt_size e
 have fpa:∀b∈fp,b≠s2.heap.objs.size:=fun b hb=>Nat.ne_of_lt (fpl b hb)
 have f3:∀b∈fp,FpOk X pins (upd H2 s2.heap.objs.size (SetO X.w s2.heap.objs.size (fun _=>false) 0)) b:=fun b hb=>⟨by rw[upd_ne (fpa b hb)];exact (f2 b hb).1,(f2 b hb).2⟩
 have hR':=hR ⟨{ s2 with heap:=s2.heap.push (set0 X.w) },upd H2 s2.heap.objs.size (SetO X.w s2.heap.objs.size (fun _=>false) 0),fp⟩ s2.heap.objs.size I2.fresh
 have I4:=I3.cmp (N:=N) (cl:=cl) (js:=js) (t':=s2.toks) f3 (fun b hb=>by
  show b<(s2.heap.push _).objs.size
  rw[Heap.size_push]
  exact Nat.lt_succ_of_lt (fpl b hb)) hk hcl hcn hsh hl hns₁ hsb₁
 have st4:tn 0 h₁:=T.keep 0 _ _ st2 fun b hb o e=>(hsb₁.2 b (by
  rw[Heap.size_push]
  exact Nat.ne_of_lt (Nat.lt_succ_of_lt (fpl b hb)))).trans (Heap.get?_push_of_some _ (Heap.get?_push_of_some _ e))
 have f4:∀b∈fp,FpOk (X.cmp N scope cl ⟨{ s2 with heap:=s2.heap.push (set0 X.w) },upd H2 s2.heap.objs.size (SetO X.w s2.heap.objs.size (fun _=>false) 0),fp⟩) [] (upd H2 s2.heap.objs.size (SetO X.w s2.heap.objs.size (fun _=>false) 0)) b:=fun b hb=>
  ⟨(f3 b hb).1,(I4.ok.exf b hb).1,I4.ok.exfs b hb,.inl hb,(I4.ok.exf b hb).2,fun p hp=>absurd (show p∈([]:List (Addr×Obj)) from hp) (by simp)⟩
 have loop:=codeAny_mono (comp_loop (X:=X.cmp N scope cl ⟨{ s2 with heap:=s2.heap.push (set0 X.w) },upd H2 s2.heap.objs.size (SetO X.w s2.heap.objs.size (fun _=>false) 0),fp⟩) (e:=.SetComp elt (⟨tg,iter,ifs,0⟩::rest) scope pos) (d:=0) (acc:=.ref s2.heap.objs.size) (pins:=[]) hxe hc (ht _ _ _) rfl rfl rfl T (hg _) (hb _ _) I4 st4 f4 hR') (R':=compPost (model X.prog X.w) X.A X.xe none (EP X pins σ Q) (.ref s2.heap.objs.size) (s2.heap.push (set0 X.w)).objs.size) (fun r s' hq=>by
  obtain⟨rfl,σ',H',J',q⟩:=hq
  obtain⟨m,hn,_⟩:=id J'.loc
  exact⟨m,hn,fun h'' hs''=>⟨.ref s2.heap.objs.size,H',I3.uncmp f3 J' hs'',rfl,q⟩⟩)
 exact comp_start (X:=X.cmp N scope cl ⟨{ s2 with heap:=s2.heap.push (set0 X.w) },upd H2 s2.heap.objs.size (SetO X.w s2.heap.objs.size (fun _=>false) 0),fp⟩) rfl rfl rfl (fun _=>rfl) True.intro loop (T.self _ 0 _ _ _ st4 loop)
variable {tg1 iter1:Expr} {ifs1:List Expr} {wi1:CC→TI} {g1:CC→TG} {tc tc1:CC→TT} {te:CC→TE}
theorem pe_scomp2 (h:CompOk X N scope cl js) (hi:PI X tg iter wi) (hg:∀c,PG (X.cmp N scope cl c) tg (g c)) (hif:∀c,PTs (X.cmp N scope cl c) ifs (tc c))
  (hi1:∀c,PI (X.cmp N scope cl c) tg1 iter1 (wi1 c)) (hg1:∀c,PG (X.cmp N scope cl c) tg1 (g1 c)) (hif1:∀c,PTs (X.cmp N scope cl c) ifs1 (tc1 c)) (he:∀c,PE (X.cmp N scope cl c) elt (te c))
  (hs1:∀c x,foldedSetIterable iter1 (X.cmp N scope cl c).env x=pure x:=by intro _ _;rfl)
  (hxe:X.xe=NoE:=by rfl) (hc:X.calm=true:=by rfl) (hs:∀x,foldedSetIterable iter X.env x=pure x:=by intro _;rfl) :
  PE X (.SetComp elt [⟨tg,iter,ifs,0⟩,⟨tg1,iter1,ifs1,0⟩] scope pos) (tCompS X.w wi js g fun c ac=>tIfC (tc c) (tFor (wi1 c) (g1 c) (tIfC (tc1 c) (tEmitS X.w ac (te c))))):=
 pe_scompG (WB:=fun c ac=>outWB (X.cmp N scope cl c) ifs (.SetComp elt [⟨tg,iter,ifs,0⟩,⟨tg1,iter1,ifs1,0⟩] scope pos) iter1 ac) hxe hc hi hs h.clos h.kind h.names h.cell h.ccl h.hcn h.shr h.len (fun c it ac=>ht_sout (hs1 c)) hg
  fun c ac=>pb_sout (X:=X.cmp N scope cl c) hxe hc (hif c) (hi1 c) (hg1 c) (pb_emitS (X:=X.cmp N scope cl c) hxe (hif1 c) (he c))
end
end L2
namespace L2
open PySem PySem.Spec PyProof.Rows
section
variable {X:Cx}
end
end L2
namespace L2
open PySem PySem.Spec PyProof.Rows
section
variable {X:Cx} {pins:List (Addr×Obj)} {σ:St} {H:Hp} {s:Shared}
theorem Room.units9 {k:Nat} {A:Around} (r:Room k A):A.units+9<cLine:=by have:=r.un;omega
end
end L2
namespace HT2
open PySem L2 PyProof.Rows
theorem comp_filter {K:PySem.W.Frag} {a acc:Addr} {row:List Int} {p:Int→Bool} {tc:TT} {rest:L2.St} {D:Ends} {H:Hp} (hr:SqL K H a (row.map V.int)) (hacc:H acc=none) (hlen:row.length≤900)
  (ht:∀k,k∈row→∀H2,Same H H2→∀R:Bool→Hp→Prop,(∀H3,Same H2 H3→R (p k) H3)→tc (some (.int k)::rest) H2 R)
  (hd:∀v0 H2,Same H H2→H2 acc=some (.lst ((row.filter p).map V.int))→D.nx (v0::rest) H2) (v:Option V) :
  loopR (Itl K a) (gName 0) (tIfC tc (tEmit acc (tVar 0))) D (v::rest) (upd H acc (.lst [])):=by
 refine for_list (K:=K) (a:=a) (xs:=row.map V.int) (fun i σ H2=>∃v0,σ=v0::rest∧Same H H2∧H2 acc=some (.lst (((row.take i).filter p).map V.int))) ⟨v,rfl,same_new hacc _,upd_same⟩ ?_ ?_ ?_
 ·rintro i σ H2 _ ⟨v0,rfl,s2,_⟩
  exact s2.seq hr
 ·rintro i x σ H2 hx ⟨v0,rfl,s2,ha2⟩
  rw[List.getElem?_map] at hx
  obtain⟨k,hk,rfl⟩:=Option.map_eq_some_iff.mp hx
  have et:row.take (i+1)=row.take i++[k]:=by rw[List.take_add_one,hk];rfl
  refine ht k (List.mem_of_getElem? hk) H2 s2 _ fun H3 s3=>?_
  have ha3:=s3 _ _ ha2
  cases e:p k with
  | false=>
   refine⟨_,rfl,s2.trans s3,?_⟩
   rw[et,List.filter_append,List.filter_cons_of_neg (by rw[e];simp),List.filter_nil,List.append_nil]
   exact ha3
  | true=>
   refine⟨_,rfl,_,ha3,small1000 ?_,?_⟩
   ·rw[List.length_map]
    refine Nat.le_trans (List.length_filter_le _ _) ?_
    rw[List.length_take]
    omega
   refine⟨_,rfl,same_put (s2.trans s3) hacc _,?_⟩
   rw[upd_same,et,List.filter_append,List.filter_cons_of_pos e,List.filter_nil,List.map_append]
   rfl
 ·rintro σ H2 ⟨v0,rfl,s2,ha2⟩
  rw[List.length_map,List.take_length] at ha2
  exact hd v0 H2 s2 ha2
theorem up_same {a b:List Int} (ha:a.Pairwise (· < ·)) (hb:b.Pairwise (· < ·)) (h:∀k,k∈a↔k∈b):a=b:=by
 have na:a.Nodup:=ha.imp fun h=>by omega
 have nb:b.Nodup:=hb.imp fun h=>by omega
 have hp:a.Perm b:=(List.perm_ext_iff_of_nodup na nb).mpr h
 exact PySem.W.ksm_same hp (ha.imp fun h=>by omega) (hb.imp fun h=>by omega)
end HT2
namespace L2
open PySem PySem.Spec PyProof.Rows
def tHasX (K:PySem.W.Frag) (Dc:Addr) (i n:Nat) (th:Addr→Obj→TS) (tr:THs):THs:=fun D C dx H=>∃r,PySem.W.mroIn K C (.ref Dc)=some r∧
 if r then ∀a vs sl,vs[2]? = some .none→H a=none→th a ⟨.ref C,dx,.fields vs,sl⟩ (D.lost i) ((List.replicate n none).set i (some (.ref a))) H else tr D C dx H
section
variable {X:Cx} {Dc:Addr} {i:Nat} {x n:Str} {np hpos pos:Pos} {body suite:List Stmt} {b0:Stmt} {tb:XK→TS} {th:Addr→Obj→TS} {hs:List ExceptHandler} {tr:THs} {pins:List (Addr×Obj)} {σ:St} {H:Hp} {s:Shared}
theorem phs_asX (hth:∀a oe,PSs (X.caught a oe) (b0::suite) (th a oe)) (hr:PHs X hs tr)
  (hg:Gl X x) (hm:X.mg x=some (.ref Dc)) (hD:PySem.W.typeIn X.K (.ref Dc)=some (.type "type")) (cD:(PySem.W.clsIn X.K Dc).isSome=true) (hB:PySem.W.mroIn X.K Dc (.type "BaseException")=some true)
  (hN:X.N.Nodup) (hi:X.N[i]? = some n) (hl:X.env.kindOf n=some .local) (hlo:Loc X.env.scope n) (hdb:(x == ("__debug__":Str))=false:=by decide)
  (hfl:X.fn n=true∨X.env.scope.names.lookup n=some .local:=by first | exact .inl rfl | exact .inr rfl | assumption) :
  PHs X (.ExceptHandler (some (.Name x np)) (some n) (b0::suite) hpos::hs) (tHasX X.K Dc i X.N.length th tr):=by
 intro pins D a T C dx H s J F5 ha hT h1 h2 yT h
 obtain⟨r,hm1,h⟩:=h
 have ok:=J.ok
 obtain⟨vs,sl,oT,ts,e5,e51,ne5,rest5⟩:=id F5
 have J6:=J.caught e5 ha h1 h2 (fun v z=>by cases z)
 refine wpAny_handleBy_cons (codeAny_handlers_test (ld_glob (X:=X.caught a ⟨.ref C,dx,.fields vs,sl⟩) J6 hg hm (PySem.W.Looks.here (exc_match J6.kIn hD cD hB hm1 e5 rfl) ?_) hdb)) (by intro z;cases z)
 cases r with
 | false=>exact hr pins D a T C dx H s J F5 ha hT h1 h2 yT h
 | true=>
  refine codeAny_handlers_suite_as (land F5 fun h6 S6 F6=>?_)
  have J7:Inv (X.caught a ⟨.ref C,dx,.fields vs,sl⟩) pins (List.replicate X.N.length none) H { s with heap:=h6 }:=J6.call' (ch:=[T]) (s':={ s with heap:=h6 }) rfl ((S6.un H).mono (fun b hb=>absurd hb (by simp)) fun _ z=>z)
   (S6.hok J6.hok (fun b hb=>absurd hb (by simp)) fun b hb=>by rw[List.mem_singleton.mp hb];exact hT) J.bare fun b hb=>by
    rw[List.mem_singleton.mp hb]
    obtain⟨y1,y2,y3,y4⟩:=yT
    refine⟨y1,y2,y3,fun p hp=>?_⟩
    rcases List.mem_cons.mp (show p∈(a,(⟨.ref C,dx,.fields vs,sl⟩:Obj))::(X.pn++pins) from hp) with z | z
    ·rw[z];exact Ne.symm ne5
    ·exact y4 p z
  refine store_ok (X:=X.caught a ⟨.ref C,dx,.fields vs,sl⟩) J7 hN hi hlo (v:=.ref a) rfl (fun s8 J8=>?_) hfl
  refine wpAny_mono (hth a ⟨.ref C,dx,.fields vs,sl⟩ pins s8 _ H (D.lost i) J8 (h a vs sl rest5.2.2.2 ha)) (fun f s9 q=>?_) fun _ _ z=>False.elim z
  have go:∀{σ9:St} {H9:Hp} {Q:Unit→Shared→Prop},Inv (X.caught a ⟨.ref C,dx,.fields vs,sl⟩) pins σ9 H9 s9→(∀s10,Inv X pins (σ9.set i none) H9 s10→Q () s10)→wpAny (model X.prog X.w) X.A (do bindName X.env n .none;unbindBehindTheSuite X.env n hpos) Q X.xe s9:=fun J9 kk=>(J9.uncaught (ok:=ok)).nameGone hN hi hl (by rw[ok.kind];rfl) kk
  cases f with
  | next=>obtain⟨σ9,H9,J9,q9⟩:=q;exact go J9 fun s10 J10=>⟨_,H9,J10,q9⟩
  | brk=>obtain⟨σ9,H9,J9,q9⟩:=q;exact go J9 fun s10 J10=>⟨_,H9,J10,q9⟩
  | cont=>obtain⟨σ9,H9,J9,q9⟩:=q;exact go J9 fun s10 J10=>⟨_,H9,J10,q9⟩
  | ret u=>obtain⟨v,σ9,H9,J9,r9,q9⟩:=q;exact go J9 fun s10 J10=>⟨v,_,H9,J10,r9,q9⟩
end
end L2
namespace L2
open PySem PySem.Spec PyProof.Rows
theorem entry_unchain:entryFor table "proto.unchain"=some Builtin.«proto.unchain»:=entryFor_of_tree (by kernel_rfl)
theorem plain_unchain:plainId "proto.unchain"=true:=by decide +kernel
section
variable {prog:Program} {w:World} {A:Around} {E:Value→Shared→Prop} {s:Shared} {env:Env}
theorem unchain_none {e:Value} {a:Addr} {cls:Value} {dx:Option Addr} {vs:Array Value} {sl:Array (Option Value)} {Q:Value→Shared→Prop} (ha:s.heap.get? a=some ⟨cls,dx,.fields vs,sl⟩) (h2:vs[2]? = some .none) (h:Q .none s) :
  wpAny (model prog w) A (runValue (.builtin "proto.unchain" ⟨[e,.ref a,.ref a,.bool false],[]⟩)) Q E s:=by
 refine wpAny_runValue (codeAny_builtin entry_unchain ?_)
 rw[Around.under_plainId plain_unchain _]
 unfold Builtin.«proto.unchain»
 show wpAny _ _ (field (.ref a) 2 >>= _) _ _ s
 refine wpAny_bind (wpAny_field ha rfl h2 ?_)
 refine wpAny_ite_split (fun _=>?_) (fun hab=>absurd (by decide) hab)
 show wpAny (model prog w) A.in1 (pure (Fin.done (.ret .none))) _ _ s
 exact wpAny_pure h
theorem range_end_h {it:Addr} {x left step:Int} {a:Addr} {cls:Value} {dx:Option Addr} {vs:Array Value} {sl:Array (Option Value)} {Q:Option Value→Shared→Prop} (hh:A.handled=some (.ref a)) (ha:s.heap.get? a=some ⟨cls,dx,.fields vs,sl⟩) (h2:vs[2]? = some .none)
  (hit:IsRangeIter s.heap it x left step) (hleft:left≤0)
  (hQ:∀h',Heap.ExtBut it s.heap h'→Q none { s with heap:=h' }):wpAny (model prog w) A (pyNext (.ref it)) Q E s:=by
 have hT:s.TypeIs (.ref it) "range_iterator":=⟨_,hit,rfl⟩
 unfold pyNext
 refine wpAny_bind (wpAny_attempt (wpAny_callSpecial?_slot (name:=Str.ofString "__next__") hT F.slot_range_iterator_next
  (wpAny_call_entry F.slot_range_iterator_next hT F.entry_range_iterator_next ?_ (F.args_range_iterator_next_1 _))))
 show wpAny _ _ (field (.ref it) 0 >>= _) _ _ s
 refine wpAny_bind (wpAny_field hit rfl (x:=rawInt x) rfl ?_)
 show wpAny _ _ (field (.ref it) 1 >>= _) _ _ s
 refine wpAny_bind (wpAny_field hit rfl (x:=rawInt left) rfl ?_)
 show wpAny _ _ (field (.ref it) 2 >>= _) _ _ s
 refine wpAny_bind (wpAny_field hit rfl (x:=rawInt step) rfl ?_)
 show wpAny _ _ (if left≤0 then _ else _) _ _ s
 rw[if_pos hleft]
 refine wpAny_bind (wpAny_rule ?_)
 refine wpAny_bind ?_
 show wpAny _ _ (newExc (.type "StopIteration") [] >>= _) _ _ _
 refine wpAny_bind ?_
 simp only[newExc,newTuple]
 refine wpAny_bind (wpAny_newObj_type ?_ (by size_fits))
 refine wpAny_bind (m:=firstArgMember _ _) (wpAny_of_eq (a:=Value.none) (by first | rfl | (simp only[firstArgMember];rfl)) ?_)
 refine wpAny_newObj_type ?_ (by size_fits)
 simp only[raiseNew]
 refine wpAny_bind (wpAny_handled ?_)
 first | rw[show A.in1.handled=some (.ref a) from hh] | rw[hh]
 dsimp only
 have hsz:(s.heap.push { cls:=Value.type "tuple",data:=Data.seq #[] }).objs.size=s.heap.objs.size+1:=Heap.size_push ..
 have hlt:a<s.heap.objs.size:=Heap.lt_size ha
 refine wpAny_ite_split (fun _=>?_) (fun hab=>absurd (by rw[hsz];exact bne_iff_ne.mpr fun e=>absurd (Value.ref.inj e) (Nat.ne_of_lt (Nat.lt_succ_of_lt hlt))) hab)
 have ha2:((s.heap.push { cls:=Value.type "tuple",data:=Data.seq #[] }).push { cls:=Value.type "StopIteration",data:=.fields (#[Value.ref s.heap.objs.size,.none,.none,.none,.bool false,.none]++ownMembersOf (.type "StopIteration") []) }).get? a=some ⟨cls,dx,.fields vs,sl⟩:=Heap.get?_push_of_some _ (Heap.get?_push_of_some _ ha)
 refine wpAny_bind (wpAny_holding (unchain_none (cls:=cls) (dx:=dx) (vs:=vs) (sl:=sl) ha2 h2 ?_))
 have he:((s.heap.push { cls:=Value.type "tuple",data:=Data.seq #[] }).push { cls:=Value.type "StopIteration",data:=.fields (#[Value.ref s.heap.objs.size,.none,.none,.none,.bool false,.none]++ownMembersOf (.type "StopIteration") []) }).get? (s.heap.push { cls:=Value.type "tuple",data:=Data.seq #[] }).objs.size=some { cls:=Value.type "StopIteration",data:=.fields (#[Value.ref s.heap.objs.size,.none,.none,.none,.bool false,.none]++ownMembersOf (.type "StopIteration") []) }:=Heap.get?_push_size _ rfl
 refine wpAny_bind ?_
 unfold updateField
 refine wpAny_bind (wpAny_load he ?_)
 refine wpAny_ite_split (fun _=>?_) (fun hab=>absurd (by rw[Array.size_append];exact Nat.lt_of_lt_of_le (by decide:2<6) (Nat.le_add_right _ _)) hab)
 refine wpAny_update he ?_
 refine wpAny_throw ?_
 refine wpAny_bind (wpAny_isInstance (T:="StopIteration") (b:=true) ⟨_,Heap.get?_update_self _ he rfl,rfl⟩ isSubtype_stop ?_)
 refine wpAny_pure (hQ _ fun b o hb e=>?_)
 exact (Heap.get?_update_other _ _ (by rw[hsz];exact Ne.symm (Nat.ne_of_lt (Nat.lt_succ_of_lt (Heap.lt_size e))))).trans (Heap.get?_push_of_some _ (Heap.get?_push_of_some _ e))
end
end L2
namespace L2
open PySem PySem.Spec PyProof.Rows
def NoCx (o:Obj):Prop:=∃vs,o.data= .fields vs∧vs[2]? = some .none
def CalmH (ah:Addr) (oh:Obj) (X:Cx) (pins:List (Addr×Obj)):Prop:=X.A.handled=some (.ref ah)∧(ah,oh)∈X.pn++pins∧NoCx oh
structure TurnH (ah:Addr) (oh:Obj) (P:Program) (w:World) (K:PySem.W.Frag) (tg:Expr) (J:It) (fp:List Addr) (it:Addr) (tn:Nat→Heap→Prop):Prop where
 mem:it∈fp
 obj:∀i h,tn i h→∀b∈fp,∃o,h.get? b=some o∧∀v,o.data≠.cell v
 keep:∀i h h',tn i h→(∀b∈fp,∀o,h.get? b=some o→h'.get? b=some o)→tn i h'
 item:∀(X:Cx),X.prog=P→X.w=w→X.K=K→∀(i:Nat) (pins:List (Addr×Obj)),CalmH ah oh X pins→∀(s:Shared) (σ:St) (H:Hp) (E:Value→Shared→Prop),Inv X pins σ H s→(∀b∈fp,FpOk X pins H b)→tn i s.heap→J.go i H→
  wpAny (model P w) X.A (pyNext (.ref it)) (fun r s1=>∃u,r=some u∧
   wpAny (model P w) X.A (letOwnedTupleGo tg (.ref it) u) (fun _ s2=>∃x H',Inv X pins σ H' s2∧RelV x u∧J.yld i H x H'∧tn (i+1) s2.heap∧∀b∈fp,H' b=none) E s1) E s
 done:∀(X:Cx),X.prog=P→X.w=w→X.K=K→∀(i:Nat) (pins:List (Addr×Obj)),CalmH ah oh X pins→∀(s:Shared) (σ:St) (H:Hp) (E:Value→Shared→Prop),Inv X pins σ H s→(∀b∈fp,FpOk X pins H b)→tn i s.heap→J.stop i H→
  wpAny (model P w) X.A (pyNext (.ref it)) (fun r s1=>r=none∧Inv X pins σ H s1) E s
 self:∀(A:Around) (i:Nat) (s:Shared) (Q:Value→Shared→Prop) (E:Value→Shared→Prop),tn i s.heap→Q (.ref it) s→wpAny (model P w) A (pyIter (.ref it)) Q E s
theorem turn_rangeH {ah:Addr} {oh:Obj} {P:Program} {w:World} {K:PySem.W.Frag} {tg:Expr} (it:Addr) (lo:Int) (n:Nat):TurnH ah oh P w K tg (Itr lo n) [it] it (fun i h=>IsRangeIter h it (lo+(i:Nat)*1) ((n:Int)-(i:Nat)) 1) where
 mem:=by simp
 obj:=(turn_range (P:=P) (w:=w) (K:=K) (tg:=tg) it lo n).obj
 keep:=(turn_range (P:=P) (w:=w) (K:=K) (tg:=tg) it lo n).keep
 item:=by
  intro X hP hw hK i pins hc s σ H E I hf st hg
  subst hP hw hK
  have hg:i<n:=hg
  obtain⟨f0,f1,f2,f3,f4,f5⟩:=hf it (by simp)
  refine wpAny_pyNext_range_item st (by omega) fun h' st' sb=>?_
  have I1:Inv X pins σ H { s with heap:=h',toks:=s.toks+1 }:=I.turned (fun b o hb e=>(sb.2 b hb).trans e) f0 f1 f3 f4 f5
  have e1:lo+((i:Nat):Int)*1+1=lo+((i+1:Nat):Int)*1:=by omega
  have e2:(n:Int)-((i:Nat):Int)-1=(n:Int)-((i+1:Nat):Int):=by omega
  rw[e1,e2] at st'
  refine⟨_,rfl,go_of (s:={ s with heap:=h',toks:=s.toks+1 }) (n:="range_iterator") st' rfl rfl (by decide) ⟨.int (lo+i),H,I1,⟨s.toks,by rw[Int.mul_one]⟩,⟨rfl,rfl⟩,st',fun b hb=>(hf b hb).1⟩⟩
 done:=by
  intro X hP hw hK i pins hc s σ H E I hf st hg
  subst hP hw hK
  have hg:n≤i:=hg
  obtain⟨f0,f1,f2,f3,f4,f5⟩:=hf it (by simp)
  obtain⟨h1,h2,vs,h3,h4⟩:=hc
  have hp:=(I.pin _ h2).1
  obtain⟨cls,dx,dt,sl⟩:=oh
  cases h3
  exact range_end_h h1 hp h4 st (by omega) fun h' eb=>⟨rfl,I.turned (t':=s.toks) (fun b o hb e=>eb b o hb e) f0 f1 f3 f4 f5⟩
 self:=fun _ _ _ _ _ st h=>wpAny_pyIter_rangeiter st h
def PIEH (ah:Addr) (oh:Obj) (X:Cx) (pins:List (Addr×Obj)) (σ:St) (tg:Expr) (R:It→Hp→Prop) (itv:Value) (s2:Shared):Prop:=
 ∃(it:Addr) (fp:List Addr) (tn:Nat→Heap→Prop) (J:It) (H':Hp),itv= .ref it∧Inv X pins σ H' s2∧TurnH ah oh X.prog X.w X.K tg J fp it tn∧tn 0 s2.heap∧(∀b∈fp,FpOk X pins H' b)∧R J H'
def PIH (ah:Addr) (oh:Obj) (X:Cx) (tg iter:Expr) (wi:TI):Prop:=
 ∀(pins:List (Addr×Obj)) (s:Shared) (σ:St) (H:Hp) (R:It→Hp→Prop),Inv X pins σ H s→wi σ H R→
  wpAny (model X.prog X.w) X.A (eval iter X.env) (fun v s1=>wpAny (model X.prog X.w) X.A (pyIter v) (PIEH ah oh X pins σ tg R) X.xe s1) X.xe s
section
variable {X:Cx} {tg:Expr} {ah:Addr} {oh:Obj}
theorem range_itH {pins:List (Addr×Obj)} {σ:St} {H:Hp} {s:Shared} {R:It→Hp→Prop} {E:Value→Shared→Prop} {lo hi:Int} {t u v:Tok} {tk:Nat} (I:Inv X pins σ H s) (h1 : -(2^62)≤lo) (h2:lo<2^62) (h3 : -(2^62)≤hi) (h4:hi<2^62)
  (q:R (Itr lo (hi-lo).toNat) H):wpAny (model X.prog X.w) X.A (pyIter (.ref s.heap.objs.size)) (PIEH ah oh X pins σ tg R) E { s with heap:=s.heap.push { cls:=.type "range",data:=.fields #[.int lo t,.int hi u,.int 1 v] },toks:=tk }:=by
 refine wpAny_pyIter_range (IsRange.new ..) (small_one h1 h2 h3 h4) ?_
 have I1:Inv X pins σ H { s with heap:=s.heap.push { cls:=.type "range",data:=.fields #[.int lo t,.int hi u,.int 1 v] },toks:=tk }:=I.kept fun b o e=>Heap.get?_push_of_some _ e
 refine⟨(s.heap.push { cls:=.type "range",data:=.fields #[.int lo t,.int hi u,.int 1 v] }).objs.size,[(s.heap.push { cls:=.type "range",data:=.fields #[.int lo t,.int hi u,.int 1 v] }).objs.size],_,_,H,rfl,
  I1.kept (t':=tk) fun b o e=>Heap.get?_push_of_some _ e,turn_rangeH _ lo (hi-lo).toNat,?_,fun b hb=>?_,q⟩
 ·have e1:lo+((0:Nat):Int)*1=lo:=by simp
  have e2:(((hi-lo).toNat:Nat):Int)-((0:Nat):Int)=Builtin.Range.rangeSize lo hi 1:=by rw[rangeSize_one];split<;>omega
  show IsRangeIter _ _ (lo+((0:Nat):Int)*1) ((((hi-lo).toNat:Nat):Int)-((0:Nat):Int)) 1
  rw[e1,e2]
  exact Heap.get?_push_size _ rfl
 ·have e:b=(s.heap.push { cls:=.type "range",data:=.fields #[.int lo t,.int hi u,.int 1 v] }).objs.size:=by simpa using hb
  subst e
  exact I1.fpOk (Nat.le_refl _) (I1.hok.fresh (Nat.le_refl _))
theorem pih_range1 {a:Expr} {ta:TA} {p pos:Pos} (hg:Gl X "range") (hm:X.mg "range"=none) (ha:PA X [a] ta) (hs:starEach [a] X.env=[(false,eval a X.env)]:=by rfl):PIH ah oh X tg (.Call (.Name "range" p) [a] [] pos) (iRng1 ta):=by
 intro pins s σ H R I h
 refine Call_ (ld_blt I hg hm boot_range (PyProof.Rows.callWith_type1 (thn (ha pos pins s σ H _ I h) fun us s1 ⟨vs,H1,I1,r1,q1⟩=>?_) hs rfl))
 obtain⟨j,e,q1,q2,q⟩:=q1
 subst e
 cases r1 with
 | cons r rr=>
  cases rr
  obtain⟨t,rfl⟩:=r
  exact call_range_1 (range_itH I1 (by omega) (by omega) q1 q2 (by simpa using q))
end
section
variable {X:Cx} {e tg:Expr} {d:Nat} {acc:Value} {it:Addr} {WB:WBT} {tb:TS} {g:TG} {J:It} {fp:List Addr} {tn:Nat→Heap→Prop} {D:Ends} {pins:List (Addr×Obj)} {σ:St} {H:Hp} {s:Shared}
theorem comp_loopH {ah:Addr} {oh:Obj} (hxe:X.xe=NoE) (hc:CalmH ah oh X pins) (ht:HT X e d (.ref it) acc tg WB) (hfr:(Code.compLoop e d (.ref it) acc X.env).isFrame=false) (hun:X.A.under (.compLoop e d (.ref it) acc X.env)=X.A) (hqu:(Code.compLoop e d (.ref it) acc X.env).quiet=true)
  (T:TurnH ah oh X.prog X.w X.K tg J fp it tn) (hg:PG X tg g) (hb:PB X WB tb)
  (I:Inv X pins σ H s) (st:tn 0 s.heap) (f2:∀b∈fp,FpOk X pins H b) (h:loopR J g tb D σ H) :
  codeAny (model X.prog X.w) X.A (.compLoop e d (.ref it) acc X.env) (fun r s'=>r= .ok .next∧∃σ' H',Inv X pins σ' H' s'∧D.nx σ' H') s:=by
 obtain⟨W,⟨m0,w0⟩,turn⟩:=h
 have stat:∀{H':Hp},(∀b∈fp,H' b=none)→∀b∈fp,FpOk X pins H' b:=fun hn b hb=>⟨hn b hb,(f2 b hb).2⟩
 refine codeAny_loop hqu (fun n s'=>∃i σ' H',Inv X pins σ' H' s'∧tn i s'.heap∧(∀b∈fp,H' b=none)∧W i n σ' H') (fun n s3 hI=>?_) m0 ⟨0,σ,H,I,st,fun b hb=>(f2 b hb).1,w0⟩
 obtain⟨i,σ3,H3,I3,st3,fr3,w3⟩:=hI
 have hden:(model X.prog X.w).den (.compLoop e d (.ref it) acc X.env)=(compTurn e d (.ref it) acc X.env).onRaise (fun x=>do noteFrame x X.env;theTreesLotGoes x):=by
  show (if (Code.compLoop e d (.ref it) acc X.env).isFrame=true then _ else _)=_
  rw[hfr]
  rfl
 rw[hun,hden]
 refine wpAny_noted (nox_any ?_)
 rcases turn i n σ3 H3 w3 with⟨stop,qn⟩|⟨go,N,hN,step⟩
 ·refine wpAny_mono (ht s3 (fun s'=>∃σ' H',Inv X pins σ' H' s'∧D.nx σ' H') (fun _=>False) (thn (T.done X rfl rfl rfl i pins hc s3 σ3 H3 NoE I3 (stat fr3) st3 stop) fun r s4 ⟨hr,I4⟩=>?_)) (fun fin s' q=>?_) fun _ _ z=>z
  ·subst hr
   exact⟨σ3,H3,I4,qn⟩
  ·cases fin with
   | done f=>
    obtain⟨rfl,q⟩:=q
    exact⟨rfl,q⟩
   | again c'=>exact False.elim q.2
 ·refine wpAny_mono (ht s3 (fun _=>False) (fun s'=>∃m,m<n∧∃i σ' H',Inv X pins σ' H' s'∧tn i s'.heap∧(∀b∈fp,H' b=none)∧W i m σ' H') (thn (T.item X rfl rfl rfl i pins hc s3 σ3 H3 NoE I3 (stat fr3) st3 go) fun r s4 ⟨u,hr,h4⟩=>?_)) (fun fin s' q=>?_) fun _ _ z=>z
  ·subst hr
   refine thn h4 fun _ s5 ⟨x,H5,I5,r5,y5,st5,fr5⟩=>?_
   have I5':=I5.pinned (stat fr5) (T.obj _ _ st5)
   have hgx:=hg _ s5 σ3 H5 x u _ I5' r5 (step x H5 y5)
   rw[hxe] at hgx
   refine thn hgx fun _ s6 ⟨σ6,H6,I6,q6⟩=>?_
   have again:∀{s7:Shared},(∃σ7 H7,Inv X (pins++pinsAt fp s5.heap) σ7 H7 s7∧N σ7 H7)→∃m,m<n∧∃i σ' H',Inv X pins σ' H' s7∧tn i s7.heap∧(∀b∈fp,H' b=none)∧W i m σ' H':=fun {s7} ⟨σ7,H7,I7,n7⟩=>by
    obtain⟨m',hm,w7⟩:=hN σ7 H7 n7
    refine⟨m',hm,i+1,σ7,H7,I7.unpinned,T.keep _ _ _ st5 fun b hb o e=>(I7.pin (b,o) (List.mem_append_right _ (List.mem_append_right _ (mem_pinsAt hb e)))).1,fun b hb=>?_,w7⟩
    obtain⟨o,e,d⟩:=T.obj _ _ st5 b hb
    exact (I7.pin (b,o) (List.mem_append_right _ (List.mem_append_right _ (mem_pinsAt hb e)))).2.1
   exact hb.mono _ _ s6 (fun s7 q7=>again q7) (hb.run _ s6 σ6 H6 _ I6 q6)
  ·cases fin with
   | done f=>exact False.elim q.2
   | again c'=>exact q
end
def tCompH (oh:Obj) (wi:TI) (js:List (Option Nat)) (g:CC→TG) (tb:CC→Addr→TS):TE:=fun σ H Q=>NoCx oh∧tComp wi js g tb σ H Q
section
variable {X:Cx} {N:List Str} {scope:Scope} {cl:List (Str×Addr)} {js:List (Option Nat)} {elt tg iter:Expr} {ifs:List Expr} {rest:List Comprehension} {pos:Pos} {wi:TI} {g:CC→TG} {tb:CC→Addr→TS}
theorem pe_compGH {WB:CC→Value→WBT} {ah:Addr} {oh:Obj} (hxe:X.xe=NoE) (hh:X.A.handled=some (.ref ah)) (hpn:(ah,oh)∈X.pn) (hi:PIH ah oh X tg iter wi) (hs:∀x,foldedSetIterable iter X.env x=pure x) (hclos:closureFor scope X.env=pure cl) (hk:scope.kind= .function)
  (hnames:∀x∈scope.names,x.2= .local→scope.names.lookup x.1=some .local) (hcell:∀x∈scope.names,x.2≠.cell)
  (hcl:∀p∈cl,X.env.cells.lookup p.1=some p.2) (hcn:∀x,((relabel scope X.env).names.lookup x=some .cell∨(relabel scope X.env).names.lookup x=some .free)→∃c,cl.lookup x=some c)
  (hsh:shares X N scope js) (hl:js.length=N.length)
  (ht:∀c it ac,HT (X.cmp N scope cl c) (.ListComp elt (⟨tg,iter,ifs,0⟩::rest) scope pos) 0 it ac tg (WB c ac))
  (hg:∀c,PG (X.cmp N scope cl c) tg (g c)) (hb:∀c ac,PB (X.cmp N scope cl c) (WB c (.ref ac)) (tb c ac)) :
  PE X (.ListComp elt (⟨tg,iter,ifs,0⟩::rest) scope pos) (tCompH oh wi js g tb):=by
 intro pins s σ H Q I h
 obtain⟨hoh,h⟩:=h
 rw[eval_ListComp]
 have h0:=hi pins s σ H _ I h
 refine wpAny_comprehension_free (use:=none) (cl:=cl) rfl hs hclos hk hnames (thn h0 fun v s1 h1=>thn h1 fun itv s2 h2=>?_)
 obtain⟨it,fp,tn,J,H2,e,I2,T,st2,f2,hR⟩:=h2
 subst e
 refine wpAny_newObj_type (wpAny_newFunctionEnv hcell (by intro y hy;simp at hy) (fun h₁ hns₁ hsb₁=>?_) hk)
 dsimp only at hns₁ hsb₁ ⊢
 have I3:=I2.lnew (ys:=[]) (its:=[]) (t':=s2.toks) .nil (Nat.zero_le _)
 have fpl:∀b∈fp,b<s2.heap.objs.size:=fun b hb=>by
  obtain⟨o,e,_⟩:=T.obj 0 _ st2 b hb
  exact Heap.lt_size e
 have fpa:∀b∈fp,b≠s2.heap.objs.size:=fun b hb=>Nat.ne_of_lt (fpl b hb)
 have f3:∀b∈fp,FpOk X pins (upd H2 s2.heap.objs.size (.lst [])) b:=fun b hb=>⟨by rw[upd_ne (fpa b hb)];exact (f2 b hb).1,(f2 b hb).2⟩
 have hR':=hR ⟨{ s2 with heap:=s2.heap.push { cls:=.type "list",data:=.seq ([]:List Value).toArray } },upd H2 s2.heap.objs.size (.lst []),fp⟩ s2.heap.objs.size I2.fresh
 have I4:=I3.cmp (N:=N) (cl:=cl) (js:=js) (t':=s2.toks) f3 (fun b hb=>by
  show b<(s2.heap.push _).objs.size
  rw[Heap.size_push]
  exact Nat.lt_succ_of_lt (fpl b hb)) hk hcl hcn hsh hl hns₁ hsb₁
 have st4:tn 0 h₁:=T.keep 0 _ _ st2 fun b hb o e=>(hsb₁.2 b (by
  rw[Heap.size_push]
  exact Nat.ne_of_lt (Nat.lt_succ_of_lt (fpl b hb)))).trans (Heap.get?_push_of_some _ (Heap.get?_push_of_some _ e))
 have f4:∀b∈fp,FpOk (X.cmp N scope cl ⟨{ s2 with heap:=s2.heap.push { cls:=.type "list",data:=.seq ([]:List Value).toArray } },upd H2 s2.heap.objs.size (.lst []),fp⟩) [] (upd H2 s2.heap.objs.size (.lst [])) b:=fun b hb=>
  ⟨(f3 b hb).1,(I4.ok.exf b hb).1,I4.ok.exfs b hb,.inl hb,(I4.ok.exf b hb).2,fun p hp=>absurd (show p∈([]:List (Addr×Obj)) from hp) (by simp)⟩
 have hpa:=I2.pin (ah,oh) (List.mem_append_left _ hpn)
 have halt:ah<s2.heap.objs.size:=Heap.lt_size hpa.1
 have I4p:=I4.pins_of (pins':=[(ah,oh)]) fun p hp=>by
  rw[List.mem_singleton.mp hp]
  refine⟨?_,?_,?_,?_,hpa.2.2.2.2⟩
  ·exact (hsb₁.2 ah (by rw[Heap.size_push];exact Nat.ne_of_lt (Nat.lt_succ_of_lt halt))).trans (Heap.get?_push_of_some _ (Heap.get?_push_of_some _ hpa.1))
  ·exact (upd_ne (Nat.ne_of_lt halt)).trans hpa.2.1
  ·show ah≠(s2.heap.push _).objs.size
   rw[Heap.size_push]
   exact Nat.ne_of_lt (Nat.lt_succ_of_lt halt)
  ·intro z
   rcases List.mem_cons.mp (I2.stkSub ah z) with e | e
   ·exact hpa.2.2.1 e
   ·exact hpa.2.2.2.1 e
 have f4p:∀b∈fp,FpOk (X.cmp N scope cl ⟨{ s2 with heap:=s2.heap.push { cls:=.type "list",data:=.seq ([]:List Value).toArray } },upd H2 s2.heap.objs.size (.lst []),fp⟩) [(ah,oh)] (upd H2 s2.heap.objs.size (.lst [])) b:=fun b hb=>
  ⟨(f3 b hb).1,(I4.ok.exf b hb).1,I4.ok.exfs b hb,.inl hb,(I4.ok.exf b hb).2,fun p hp=>by
   rw[List.mem_singleton.mp (show p∈[(ah,oh)] from hp)]
   exact (f3 b hb).2.2.2.2.2 (ah,oh) (List.mem_append_left _ hpn)⟩
 have hcH:CalmH ah oh (X.cmp N scope cl ⟨{ s2 with heap:=s2.heap.push { cls:=.type "list",data:=.seq ([]:List Value).toArray } },upd H2 s2.heap.objs.size (.lst []),fp⟩) [(ah,oh)]:=⟨hh,List.mem_singleton.mpr rfl,hoh⟩
 have loop:=codeAny_mono (comp_loopH (X:=X.cmp N scope cl ⟨{ s2 with heap:=s2.heap.push { cls:=.type "list",data:=.seq ([]:List Value).toArray } },upd H2 s2.heap.objs.size (.lst []),fp⟩) (e:=.ListComp elt (⟨tg,iter,ifs,0⟩::rest) scope pos) (d:=0) (acc:=.ref s2.heap.objs.size) (pins:=[(ah,oh)]) hxe hcH (ht _ _ _) rfl rfl rfl T (hg _) (hb _ _) I4p st4 f4p hR') (R':=compPost (model X.prog X.w) X.A X.xe none (EP X pins σ Q) (.ref s2.heap.objs.size) (s2.heap.push { cls:=.type "list",data:=.seq ([]:List Value).toArray }).objs.size) (fun r s' hq=>by
  obtain⟨rfl,σ',H',J',q⟩:=hq
  obtain⟨m,hn,_⟩:=id J'.loc
  exact⟨m,hn,fun h'' hs''=>⟨.ref s2.heap.objs.size,H',I3.uncmp f3 (J'.pins_of (pins':=[]) fun p hp=>absurd hp (by simp)) hs'',rfl,q⟩⟩)
 exact comp_start (X:=X.cmp N scope cl ⟨{ s2 with heap:=s2.heap.push { cls:=.type "list",data:=.seq ([]:List Value).toArray } },upd H2 s2.heap.objs.size (.lst []),fp⟩) rfl rfl rfl (fun _=>rfl) True.intro loop (T.self _ 0 _ _ _ st4 loop)
theorem pe_comp1H {ah:Addr} {oh:Obj} {tc:CC→TT} {te:CC→TE} (h:CompOk X N scope cl js) (hi:PIH ah oh X tg iter wi) (hg:∀c,PG (X.cmp N scope cl c) tg (g c)) (hif:∀c,PTs (X.cmp N scope cl c) ifs (tc c)) (he:∀c,PE (X.cmp N scope cl c) elt (te c))
  (hxe:X.xe=NoE:=by rfl) (hh:X.A.handled=some (.ref ah):=by rfl) (hpn:(ah,oh)∈X.pn:=by exact List.mem_cons_self) (hs:∀x,foldedSetIterable iter X.env x=pure x:=by intro _;rfl) :
  PE X (.ListComp elt [⟨tg,iter,ifs,0⟩] scope pos) (tCompH oh wi js g fun c ac=>tIfC (tc c) (tEmit ac (te c))):=
 pe_compGH (WB:=fun c ac=>emitWB (X.cmp N scope cl c) ifs elt ac) hxe hh hpn hi hs h.clos h.kind h.names h.cell h.ccl h.hcn h.shr h.len (fun c it ac=>ht_one) hg fun c ac=>pb_emit hxe (hif c) (he c)
end
end L2
namespace L2
open PySem PySem.Spec PyProof.Rows
theorem emptyD {P:Program} {w:World} {H:Hp} (h:Heap) (hb:sysModules<h.objs.size):ObjOk P w H (h.push { cls:=.type "dict",data:=.dict #[] }) h.objs.size (.dK []):=by
 refine⟨Nat.zero_le _,?_,[],.nil,Heap.DictOf.new h⟩
 rw[beq_eq_false_iff_ne]
 exact fun z=>by rw[z] at hb;exact Nat.lt_irrefl _ hb
def tEmptyD:TE:=fun _ H Q=>∀d,H d=none→Q (.ref d) (upd H d (.dK []))
section
variable {X:Cx} {pos:Pos}
theorem pe_emptyD:PE X (.Dict [] [] pos) tEmptyD:=by
 intro pins s σ H Q I h
 have fr:H s.heap.objs.size=none:=I.hok.fresh (Nat.le_refl _)
 refine wpAny_Dict_empty ⟨.ref s.heap.objs.size,upd H s.heap.objs.size (.dK []),?_,rfl,h _ fr⟩
 exact I.laid (t':=s.toks) (fun b o q=>Heap.get?_push_of_some _ q) (Nat.le_refl _) (emptyD s.heap (Nat.lt_trans (by decide:sysModules<mainGlobals) (I.mod.glob.keeps I.bk).lt))
theorem call_strI:CallR X (.type "str") (fun xs H Q=>∃i:Int,xs=[.int i]∧0≤i∧i<2^60∧Q (.str (toString i)) H):=by
 intro pins s σ H xs us Q I r h
 obtain⟨i,rfl,h0,h1,q⟩:=h
 obtain⟨u,rfl,ru⟩:=vals1 r
 obtain⟨t,rfl⟩:=ru
 refine P.str_of_int ?_ ⟨.str (toString i),H,?_,⟨_,rfl⟩,q⟩
 ·have:i.natAbs<2^60:=by omega
  have h2:i.natAbs.log2<61:=by
   by_cases c:i.natAbs=0
   ·rw[c];decide
   ·exact Nat.lt_of_lt_of_le ((Nat.log2_lt c).mpr this) (by decide)
  omega
 ·exact I.tok _
end
end L2
namespace L2
open PySem PySem.Spec PyProof.Rows
def dS (d:List (Str×V)):List (Key×V):=d.map fun p=>(Sum.inr p.1,p.2)
def dGet (d:List (Str×V)) (k:Str):Option V:=(d.find? fun p=>decide (p.1=k)).map (·.2)
def dOff (d:List (Str×V)) (k:Str):List (Str×V):=d.filter fun p=>decide (p.1≠k)
theorem dS_len (d:List (Str×V)):(dS d).length=d.length:=List.length_map _
theorem dS_app (d e:List (Str×V)):dS (d++e)=dS d++dS e:=List.map_append ..
theorem dS_at:∀{d:List (Str×V)} {vs:List (Key×Value)} (_:KV (dS d) vs) (k:Str),RelO (dGet d k) (valueAt vs (.inr k))
 | [],vs,r,k=>by cases r;exact True.intro
 | p::d,vs,r,k=>by
  cases r with
  | @cons _ q _ qs h t=>
   by_cases e:p.1=k
   ·have e':q.1=Sum.inr k:=by rw[←h.1];exact congrArg Sum.inr e
    have a:dGet (p::d) k=some p.2:=by simp[dGet,List.find?_cons,e]
    have b:valueAt (q::qs) (.inr k)=some q.2:=by simp[valueAt,List.find?_cons,e']
    rw[a,b];exact h.2
   ·have e':¬q.1=Sum.inr k:=by rw[←h.1];exact fun z=>e (Sum.inr.inj z)
    have a:dGet (p::d) k=dGet d k:=by simp[dGet,List.find?_cons,e]
    have b:valueAt (q::qs) (.inr k)=valueAt qs (.inr k):=by simp[valueAt,List.find?_cons,e']
    rw[a,b];exact dS_at t k
theorem dS_snoc:∀{d:List (Key×V)} {vs:List (Key×Value)} {k:Key} {v:V} {u:Value},KV d vs→RelV v u→KV (d++[(k,v)]) (vs++[(k,u)])
 | [],vs,k,v,u,r,ru=>by cases r;exact .cons ⟨rfl,ru⟩ .nil
 | p::d,vs,k,v,u,r,ru=>by cases r with | cons h t=>exact .cons h (dS_snoc t ru)
theorem dS_any:∀{d:List (Str×V)} {vs:List (Key×Value)} (_:KV (dS d) vs) {k:Str},dGet d k=none→(vs.any fun kv=>decide (kv.1=Sum.inr k))=false
 | [],vs,r,k,_=>by cases r;rfl
 | p::d,vs,r,k,h0=>by
  cases r with
  | @cons _ q _ qs h t=>
   by_cases e:p.1=k
   ·have a:dGet (p::d) k=some p.2:=by simp[dGet,List.find?_cons,e]
    rw[a] at h0;exact nomatch h0
   ·have e':¬q.1=Sum.inr k:=by rw[←h.1];exact fun z=>e (Sum.inr.inj z)
    have a:dGet (p::d) k=dGet d k:=by simp[dGet,List.find?_cons,e]
    rw[List.any_cons,decide_eq_false e',dS_any t (a ▸ h0)];rfl
theorem dS_off:∀{d:List (Str×V)} {vs:List (Key×Value)} (_:KV (dS d) vs) (k:Str),KV (dS (dOff d k)) (without vs (.inr k))
 | [],vs,r,k=>by cases r;exact .nil
 | p::d,vs,r,k=>by
  cases r with
  | @cons _ q _ qs h t=>
   unfold dOff without
   rw[List.filter_cons,List.filter_cons]
   by_cases e:p.1=k
   ·have e':q.1=Sum.inr k:=by rw[←h.1];exact congrArg Sum.inr e
    rw[if_neg (by simp[e]),if_neg (by simp[e'])];exact dS_off t k
   ·have e':¬q.1=Sum.inr k:=by rw[←h.1];exact fun z=>e (Sum.inr.inj z)
    rw[if_pos (by simp[e]),if_pos (by simp[e'])];exact .cons h (dS_off t k)
theorem dS_keys:∀{d:List (Str×V)} {vs:List (Key×Value)} (_:KV (dS d) vs) (j:Nat) (k:Key) (x:Value),vs[j]? = some (k,x)→∃p,d[j]? = some p∧k=Sum.inr p.1
 | [],vs,r,j,k,x,e=>by cases r;simp at e
 | p::d,vs,r,j,k,x,e=>by
  cases r with
  | @cons _ q _ qs h t=>
   cases j with
   | zero=>
    have e1:q=(k,x):=by simpa using e
    subst e1
    exact⟨p,rfl,h.1.symm⟩
   | succ j=>
    obtain⟨p',h1,h2⟩:=dS_keys t j k x (by simpa using e)
    exact⟨p',by simpa using h1,h2⟩
section
variable {X:Cx}
theorem dk_in {pins:List (Addr×Obj)} {σ:St} {H:Hp} {s:Shared} {a:Addr} {d:List (Str×V)} (I:Inv X pins σ H s) (h:H a=some (.dK (dS d))) :
  d.length≤sizeLine∧(a == sysModules)=false∧∃vs,KV (dS d) vs∧s.heap.DictOf (mixKind X.prog X.w) a vs:=by
 have:=(show ObjOk X.prog X.w H s.heap a (.dK (dS d)) from I.hok a _ h)
 obtain⟨z,m,r⟩:=this
 exact⟨by rw[←dS_len];exact z,m,r⟩
theorem dk_out {pins:List (Addr×Obj)} {σ:St} {H:Hp} {s:Shared} {a:Addr} {d d':List (Str×V)} {vs:List (Key×Value)} {h':Heap} {t':Nat} (I:Inv X pins σ H s) (h:H a=some (.dK (dS d))) (hm:(a == sysModules)=false)
  (hs:Heap.SameBut a s.heap h') (hd:h'.DictOf (mixKind X.prog X.w) a vs) (r:KV (dS d') vs) (hl:d'.length≤sizeLine):Inv X pins σ (upd H a (.dK (dS d'))) { s with heap:=h',toks:=t' }:=by
 have he:∃q,h'.get? a=some q:=let ⟨q,_,_,hq,_⟩:=hd;⟨q,hq⟩
 exact I.write (x:=a) (e:=a) (by rw[h];exact True.intro) (.inl rfl) (fun b q hb z=>(hs.2 b hb).trans z) he ⟨by rw[dS_len];exact hl,hm,vs,r,hd⟩
def rInD (neg:Bool):R2:=fun x y H Q=>∃(a:Addr) (d:List (Str×V)) (k:Str),x= .str k∧y= .ref a∧H a=some (.dK (dS d))∧Q (.bl (neg ^^ (dGet d k).isSome)) H
theorem relO_isSome {a:Option V} {b:Option Value} (r:RelO a b):a.isSome=b.isSome:=by
 cases a<;>cases b<;>first | rfl | exact False.elim r
theorem op_inD:OpR X (compareOp .In) (rInD false):=by
 intro pins s σ H x y v u Q I rx ry h
 obtain⟨a,d,k,rfl,rfl,hd,q⟩:=h
 obtain⟨t,rfl⟩:=rx
 cases ry
 obtain⟨_,hm,vs,r,D⟩:=dk_in I hd
 refine wpAny_in_of (mixKind_str _ _ k t) hm D.mapOf ⟨.bl _,H,I.tok _,?_,q⟩
 rw[Bool.false_xor,relO_isSome (dS_at r k)];rfl
theorem op_notInD:OpR X (compareOp .NotIn) (rInD true):=by
 intro pins s σ H x y v u Q I rx ry h
 obtain⟨a,d,k,rfl,rfl,hd,q⟩:=h
 obtain⟨t,rfl⟩:=rx
 cases ry
 obtain⟨_,hm,vs,r,D⟩:=dk_in I hd
 refine wpAny_notIn_of (mixKind_str _ _ k t) hm D.mapOf ⟨.bl _,H,I.tok _,?_,q⟩
 rw[Bool.true_xor,relO_isSome (dS_at r k)];rfl
def rIxD:R2:=fun x y H Q=>∃(a:Addr) (d:List (Str×V)) (k:Str) (z:V),x= .ref a∧y= .str k∧H a=some (.dK (dS d))∧dGet d k=some z∧Q z H
theorem ix_dict:IxR X rIxD:=by
 intro value slice pins s σ H x y v u Q I rx ry h hs
 obtain⟨a,d,k,z,rfl,rfl,hd,e,q⟩:=h
 cases rx
 obtain⟨t,rfl⟩:=ry
 obtain⟨_,hm,vs,r,D⟩:=dk_in I hd
 have hr:=dS_at r k
 rw[e] at hr
 cases ev:valueAt vs (Sum.inr k:Key) with
 | none=>rw[ev] at hr;exact False.elim hr
 | some u'=>
  rw[ev] at hr
  exact tail_any D.typeIs slot_dict_getitem.lookup (wpAny_getItem_of (mixKind_str _ _ k t) D.mapOf ev ⟨z,H,I.tok _,hr,q⟩) hs
def rSetD:V→V→V→Hp→(Hp→Prop)→Prop:=fun o i v H Q=>∃(a:Addr) (d:List (Str×V)) (k:Str),o= .ref a∧i= .str k∧H a=some (.dK (dS d))∧dGet d k=none∧d.length≤1000∧Q (upd H a (.dK (dS (d++[(k,v)]))))
theorem set_dict:PSet X rSetD:=by
 intro pins s σ H o i v ov iv u Q I ro ri rv h
 obtain⟨a,d,k,rfl,rfl,hd,hn,hl,q⟩:=h
 cases ro
 obtain⟨t,rfl⟩:=ri
 obtain⟨hz,hm,vs,r,D⟩:=dk_in I hd
 have hvl:vs.length=d.length:=by rw[←Paired.length r,dS_len]
 refine wpAny_setItem_pairs (hsz:=by rw[hvl];exact hz) (mixKind_str _ _ k t) D fun h' D' hs=>⟨_,dk_out I hd hm hs D' (d':=d++[(k,v)]) ?_ ?_,q⟩
 ·unfold stored
  rw[dS_any r hn,if_neg Bool.false_ne_true,dS_app]
  exact dS_snoc r rv
 ·rw[List.length_append]
  exact Nat.le_trans (show d.length+1≤1001 by omega) (by decide)
def rPopD:V→List V→Hp→VK→Prop:=fun x vs H Q=>∃(a:Addr) (d:List (Str×V)) (k:Str) (z:V),x= .ref a∧vs=[.str k]∧H a=some (.dK (dS d))∧dGet d k=some z∧Q z (upd H a (.dK (dS (dOff d k))))
theorem mt_popD:MtR X "dict.pop" rPopD:=by
 intro pins s σ H x vs v us Q I rx rv h
 obtain⟨a,d,k,z,rfl,rfl,hd,e,q⟩:=h
 cases rx
 obtain⟨u,rfl,ru⟩:=rv.one
 obtain⟨t,rfl⟩:=ru
 obtain⟨hz,hm,ws,r,D⟩:=dk_in I hd
 have hvl:ws.length=d.length:=by rw[←Paired.length r,dS_len]
 have hr:=dS_at r k
 rw[e] at hr
 cases ev:valueAt ws (Sum.inr k:Key) with
 | none=>rw[ev] at hr;exact False.elim hr
 | some u'=>
  rw[ev] at hr
  refine call_meetsIn PySem.F.slot_dict_pop D.typeIs PySem.F.entry_dict_pop (PySem.F.args_dict_pop_2 _ _) (meets_dict_pop_there (mixKind X.prog X.w) a (mixKind_str _ _ k t) [] (.inl rfl) rfl)
   ⟨ws,u',D,by rw[hvl];exact hz,ev,fun h' D' hs=>⟨z,_,dk_out I hd hm hs D' (d':=dOff d k) (dS_off r k) (Nat.le_trans (List.length_filter_le _ _) hz),hr,q⟩⟩
theorem call_listD (hc:X.calm=true):CallR X (.type "list") (fun xs H Q=>∃(a:Addr) (d:List (Str×V)),xs=[.ref a]∧H a=some (.dK (dS d))∧∀l,H l=none→Q (.ref l) (upd H l (.lst (d.map fun p=>V.str p.1)))):=by
 intro pins s σ H xs us Q I r h
 obtain⟨a,d,rfl,hd,q⟩:=h
 obtain⟨u,rfl,ru⟩:=vals1 r
 cases ru
 obtain⟨hz,hm,vs,rr,D⟩:=dk_in I hd
 have hvl:vs.length=d.length:=by rw[←Paired.length rr,dS_len]
 obtain⟨o,es,ep,h1,h2,h3,h4,h5,h6⟩:=D
 refine PySem.W.kdl_call (PySem.W.kdl_dict (knd:=mixKind X.prog X.w) (kvs:=vs) (ep:=ep) hm) (I.ok.hd hc) ⟨o,es,h1,h2,h3,h4,h5,h6⟩ (by rw[hvl];exact hz) fun h' tk acc c kk hl hi=>?_
 have lo:s.heap.objs.size≤s.heap.objs.size:=Nat.le_refl _
 have hv:Vals (d.map fun p=>V.str p.1) acc.toList:=by
  have hal:acc.toList.length=d.length:=by rw[Array.length_toList,hi.1,hvl]
  refine vals_at (by simp[hal]) fun i x u hx hu=>?_
  obtain⟨k,y,hk,his⟩:=hi.2 i u (by simpa using hu)
  obtain⟨p,hp,rfl⟩:=dS_keys rr i k y hk
  have ex:x= .str p.1:=by
   rw[List.getElem?_map,hp] at hx
   exact (Option.some.inj hx).symm
  subst ex
  rcases keyIs_shape (show keyIs (Sum.inr p.1) u=true from his) with⟨_,_,e,_⟩|⟨x,t,e,e'⟩
  ·exact nomatch e
  ·cases e;exact⟨t,e'⟩
 refine⟨.ref s.heap.objs.size,_,I.laid (t':=tk) (o:=.lst (d.map fun p=>V.str p.1)) kk lo ?_,rfl,q _ (I.hok.fresh lo)⟩
 exact⟨by rw[List.length_map];exact hz,acc.toList,c,hv,by rw[hl,Array.toArray_toList]⟩
end
end L2
namespace Toy
open PySem L2 HT2 PyProof.Rows
def top (i:Nat):Stmt:=PySem.Challenge.pw_holdtalk_k48_names.main.body.getD i (.Pass ⟨0,0,0,0⟩)
abbrev sNum:Stmt:=top 40
structure Bl (mg:Str→Option Value):Prop where
 abs:mg "abs"=none
 len:mg "len"=none
 range:mg "range"=none
def spNum (K:PySem.W.Frag):Sp:=fun vs H Q _=>∃(a:Addr) (ns:List Int) (k:Int),vs=[.ref a,.int k]∧SqL K H a (ns.map V.int)∧ns.length≤63∧0≤k∧k≤1000∧
 ∀(n:Int) (H':Hp),0≤n→Same H H'→Q (.int n) H'
section
variable {P:Program} {w:World} {K:PySem.W.Frag} {mg:Str→Option Value} {base:Heap} {f:Addr} {fd:FuncData}
theorem scNum:FnScope ["_law_script","_law_k","_law_cell","_law_one","_law_two"] ["_law_script","_law_k"] (defScope sNum):=⟨rfl,rfl,rfl,by decide +kernel,rfl,by decide +kernel,by decide +kernel⟩
theorem ok_num (F:Fun K "_law_num" "_law_num" sNum f fd) (B:Bl mg):FnOk P w K mg base CX0 1 f fd ["_law_script","_law_k"] (spNum K):=by
 refine F.ok scNum (fun vs H Q E h=>?_) (fun cdv A outer s H vs Q E hr h=>?_)
 ·obtain⟨a,ns,k,rfl,_⟩:=h
  rfl
 obtain⟨a,ns,k,rfl,hS,h63,hk0,hk1,q⟩:=h
 refine⟨_,pss_cons (ps_set (i:=2) scNum.nd rfl (Or.inl rfl) pe_int)
  (pss_cons (ps_if (pt_cmpR (op_neE hr.units0) (pv 0) (pe_lst pa_nil) (nomark _))
   (pss_one (ps_set (i:=2) scNum.nd rfl (Or.inl rfl) (pe_callB call_abs (by rfl) B.abs boot_abs (pa_cons (pe_ix ix_list (pv 0) (pe_op op_mod (pv 1) (pe_callB call_len_seq (by rfl) B.len PySem.boot_len (pa_cons (pv 0) pa_nil))) (fun _ _=>rfl)) pa_nil)))) pss_nil)
  (pss_cons (ps_if (pw_and (pt_cmpR op_lt (pv 1) (pe_callB call_len_seq (by rfl) B.len PySem.boot_len (pa_cons (pv 0) pa_nil)) (nomark _)) (pw_and1 (pt_cmpR op_ge (pv 2) (pe_op op_pow pe_int pe_int) (nomark _)))).pt
   (pss_one (ps_ret (pv 2))) pss_nil)
  (pss_cons (ps_set (i:=3) scNum.nd rfl (Or.inl rfl) (pe_op op_mod (pe_op op_add (pe_op op_add (pe_op op_mul (pv 2) pe_int) (pe_op op_mul pe_int (pv 1))) pe_int) pe_int))
  (pss_cons (ps_set (i:=4) scNum.nd rfl (Or.inl rfl) (pe_op op_mod (pe_op op_add (pe_op op_add (pe_op op_mul (pv 3) (pv 3)) (pe_op op_mul pe_int (pv 2))) pe_int) pe_int))
  (pss_one (ps_ret (pe_op op_add (pe_op op_mul (pv 3) pe_int) (pv 4)))))))),?_⟩
 refine⟨_,rfl,le0,fun p hp=>?_⟩
 have sm:Same H (upd H p (.lst [])):=same_new hp _
 refine⟨a,p,_,rfl,rfl,sm.seq hS,SqL.of upd_same,_,rfl,?_⟩
 have hl:(ns.map V.int).length=ns.length:=List.length_map _
 have fin:∀c:Int,0≤c→∀b:Int,0≤(c*48271+40692*k+11)%2147483647*2147483629+b%2147483629:=fun c hc b=>by
  have h1:=Int.emod_nonneg (c*48271+40692*k+11) (show (2147483647:Int)≠0 by decide)
  have h2:=Int.emod_nonneg b (show (2147483629:Int)≠0 by decide)
  omega
 have b64:∀b:Int,-(2^64)<b%2147483647∧b%2147483647<2^64:=fun b=>by omega
 refine ite2 (fun c0=>?_) (fun c0=>?_)
 ·have ne:ns≠[]:=by
   intro z
   subst z
   exact absurd c0 (by decide)
  have hp':0<ns.length:=List.length_pos_iff.mpr ne
  have hi:(k%(ns.length:Int)).toNat<ns.length:=by
   have h1:=Int.emod_nonneg k (show (ns.length:Int)≠0 by omega)
   have h2:=Int.emod_lt_of_pos k (show (0:Int)<ns.length by omega)
   omega
  have hat:atI (ns.map V.int) (k%(((ns.map V.int).length:Nat):Int))=some (.int ns[(k%(ns.length:Int)).toNat]):=by
   have e:k%(((ns.map V.int).length:Nat):Int)=(((k%(ns.length:Int)).toNat:Nat):Int):=by
    rw[hl]
    have h1:=Int.emod_nonneg k (show (ns.length:Int)≠0 by omega)
    omega
   rw[e]
   refine atI_nat ?_
   rw[List.getElem?_map,List.getElem?_eq_getElem hi]
   rfl
  refine⟨_,rfl,_,rfl,_,rfl,a,_,rfl,.inl (sm.seq hS),_,_,rfl,rfl,(by rw[hl];omega),a,_,_,_,rfl,rfl,sm.seq hS,hat,_,rfl,?_⟩
  generalize hc:(if ns[(k%(ns.length:Int)).toNat]<0 then -ns[(k%(ns.length:Int)).toNat] else ns[(k%(ns.length:Int)).toNat])=c
  have hc0:0≤c:=by
   rw[←hc]
   split<;>omega
  refine⟨_,rfl,_,rfl,a,_,rfl,.inl (sm.seq hS),_,_,rfl,rfl,_,rfl,?_⟩
  have tail:∀{G:Prop},(∀y:Int,0≤(c*48271+40692*k+11)%2147483647*2147483629+y%2147483629→Q (.int ((c*48271+40692*k+11)%2147483647*2147483629+y%2147483629)) (upd H p (.lst []))):=fun {G} y hy=>q _ _ hy sm
  refine ite2 (fun c1=>?_) (fun c1=>?_)
  ·refine⟨_,rfl,_,_,rfl,rfl,⟨by decide,by decide,by decide⟩,_,_,rfl,rfl,_,rfl,?_⟩
   refine ite2 (fun c2=>?_) (fun c2=>?_)
   ·exact⟨_,rfl,q c _ hc0 sm⟩
   ·refine⟨_,rfl,_,_,rfl,rfl,.inr ⟨by decide,by decide⟩,_,rfl,_,_,rfl,rfl,.inl ⟨by decide,by decide⟩,_,_,rfl,rfl,_,_,rfl,rfl,_,_,rfl,rfl,(by show (0:Int)<2147483647;decide),?_⟩
    refine⟨_,rfl,_,rfl,_,_,rfl,rfl,.inl (b64 _),_,rfl,_,_,rfl,rfl,.inl ⟨by decide,by decide⟩,_,_,rfl,rfl,_,_,rfl,rfl,_,_,rfl,rfl,(by show (0:Int)<2147483629;decide),?_⟩
    exact⟨_,rfl,_,_,rfl,rfl,.inl (b64 _),_,rfl,_,_,rfl,rfl,q _ _ (fin c hc0 _) sm⟩
  ·refine iteF ?_
   refine⟨_,rfl,_,_,rfl,rfl,.inr ⟨by decide,by decide⟩,_,rfl,_,_,rfl,rfl,.inl ⟨by decide,by decide⟩,_,_,rfl,rfl,_,_,rfl,rfl,_,_,rfl,rfl,(by show (0:Int)<2147483647;decide),?_⟩
   refine⟨_,rfl,_,rfl,_,_,rfl,rfl,.inl (b64 _),_,rfl,_,_,rfl,rfl,.inl ⟨by decide,by decide⟩,_,_,rfl,rfl,_,_,rfl,rfl,_,_,rfl,rfl,(by show (0:Int)<2147483629;decide),?_⟩
   exact⟨_,rfl,_,_,rfl,rfl,.inl (b64 _),_,rfl,_,_,rfl,rfl,q _ _ (fin c hc0 _) sm⟩
 ·have c:Int:=0
  refine⟨_,rfl,_,rfl,a,_,rfl,.inl (sm.seq hS),_,_,rfl,rfl,_,rfl,?_⟩
  refine ite2 (fun c1=>?_) (fun c1=>?_)
  ·refine⟨_,rfl,_,_,rfl,rfl,⟨by decide,by decide,by decide⟩,_,_,rfl,rfl,_,rfl,?_⟩
   refine ite2 (fun c2=>?_) (fun c2=>?_)
   ·exact⟨_,rfl,q 0 _ (Int.le_refl _) sm⟩
   ·refine⟨_,rfl,_,_,rfl,rfl,.inr ⟨by decide,by decide⟩,_,rfl,_,_,rfl,rfl,.inl ⟨by decide,by decide⟩,_,_,rfl,rfl,_,_,rfl,rfl,_,_,rfl,rfl,(by show (0:Int)<2147483647;decide),?_⟩
    refine⟨_,rfl,_,rfl,_,_,rfl,rfl,.inl (b64 _),_,rfl,_,_,rfl,rfl,.inl ⟨by decide,by decide⟩,_,_,rfl,rfl,_,_,rfl,rfl,_,_,rfl,rfl,(by show (0:Int)<2147483629;decide),?_⟩
    exact⟨_,rfl,_,_,rfl,rfl,.inl (b64 _),_,rfl,_,_,rfl,rfl,q _ _ (fin 0 (Int.le_refl _) _) sm⟩
  ·refine iteF ?_
   refine⟨_,rfl,_,_,rfl,rfl,.inr ⟨by decide,by decide⟩,_,rfl,_,_,rfl,rfl,.inl ⟨by decide,by decide⟩,_,_,rfl,rfl,_,_,rfl,rfl,_,_,rfl,rfl,(by show (0:Int)<2147483647;decide),?_⟩
   refine⟨_,rfl,_,rfl,_,_,rfl,rfl,.inl (b64 _),_,rfl,_,_,rfl,rfl,.inl ⟨by decide,by decide⟩,_,_,rfl,rfl,_,_,rfl,rfl,_,_,rfl,rfl,(by show (0:Int)<2147483629;decide),?_⟩
   exact⟨_,rfl,_,_,rfl,rfl,.inl (b64 _),_,rfl,_,_,rfl,rfl,q _ _ (fin 0 (Int.le_refl _) _) sm⟩
end
def jc:Nat→Nat
 | 0=>38
 | 1=>124
 | 2=>62
 | _=>61
def code:Tr→List Nat
 | .lt k=>[97+k]
 | .nt t=>45::code t
 | .bn j a b=>40::(code a++jc j::(code b++[41]))
theorem code_len:∀t:Tr,(code t).length≤4*t.size
 | .lt _=>by show 1≤4*1;decide
 | .nt t=>by
  have:=code_len t
  show (code t).length+1≤4*(t.size+1)
  omega
 | .bn j a b=>by
  have h1:=code_len a
  have h2:=code_len b
  show (code a++jc j::(code b++[41])).length+1≤4*(a.size+b.size+1)
  rw[List.length_append,List.length_cons,List.length_append]
  show (code a).length+((code b).length+1+1)+1≤_
  omega
abbrev cds (z:Str):List Nat:=z.cps.toList
theorem len_cds (z:Str):z.length=(cds z).length:=by
 show z.cps.size=z.cps.toList.length
 simp
theorem cds_app (a b:Str):cds (a++b)=cds a++cds b:=cps_toList_append a b
theorem letter_at {k:Nat} (h:k<5):atI (cds ("abcde":Str)) (k:Int)=some (97+k):=by
 refine atI_nat ?_
 match k,h with
 | 0,_=>rfl
 | 1,_=>rfl
 | 2,_=>rfl
 | 3,_=>rfl
 | 4,_=>rfl
theorem jn_let {j:Nat}:¬(V.str (jn j)=V.str "let"):=by
 match j with
 | 0=>decide
 | 1=>decide
 | 2=>decide
 | _+3=>show ¬(V.str "same"=V.str "let");decide
theorem jn_not {j:Nat}:¬(V.str (jn j)=V.str "not"):=by
 match j with
 | 0=>decide
 | 1=>decide
 | 2=>decide
 | _+3=>show ¬(V.str "same"=V.str "not");decide
theorem iteY {c A B:Prop} [Decidable c] (h:c) (a:A):if decide c=true then A else B:=by
 rw[decide_eq_true h,if_pos rfl]
 exact a
theorem iteN {c A B:Prop} [Decidable c] (h:¬c) (b:B):if decide c=true then A else B:=by
 rw[decide_eq_false h,if_neg Bool.false_ne_true]
 exact b
structure Cal (K:PySem.W.Frag) (mg:Str→Option Value) (x:Str) (f:Addr) (fd:FuncData) (ps:List Str):Prop where
 m:mg x=some (.ref f)
 k:PySem.W.keepIn K (.ref f)=true
 b:Binds K fd ps []
def kid:Tr→List Tr
 | .lt _=>[]
 | .nt t=>[t]
 | .bn _ a b=>[a,b]
def kids (ts:List Tr):List Tr:=ts.flatMap kid
theorem kids_app (a b:List Tr):kids (a++b)=kids a++kids b:=by
 unfold kids
 rw[List.flatMap_append]
theorem kids_one (t:Tr):kids [t]=kid t:=by
 unfold kids
 simp
theorem kids_take {ts:List Tr} {i:Nat} {t:Tr} (h:ts[i]? = some t):kids (ts.take (i+1))=kids (ts.take i)++kid t:=by
 rw[List.take_add_one,h,kids_app]
 congr 1
 exact kids_one t
theorem sz_app (a b:List Tr):sz (a++b)=sz a+sz b:=by
 unfold sz
 rw[List.map_append,List.sum_append]
theorem sz_kid:∀t:Tr,sz (kid t)+1=t.size
 | .lt _=>rfl
 | .nt t=>by
  have:sz [t]=t.size:=by unfold sz;simp
  show sz [t]+1=t.size+1
  rw[this]
 | .bn _ a b=>by
  have:sz [a,b]=a.size+b.size:=by unfold sz;simp
  show sz [a,b]+1=a.size+b.size+1
  rw[this]
theorem sz_cons (t:Tr) (r:List Tr):sz (t::r)=t.size+sz r:=by
 unfold sz
 rw[List.map_cons,List.sum_cons]
theorem sz_kids (ts:List Tr):sz (kids ts)+ts.length=sz ts:=by
 induction ts with
 | nil=>rfl
 | cons t r ih=>
  have h:=sz_kid t
  rw[sz_cons]
  show sz (kid t++kids r)+(r.length+1)=_
  rw[sz_app]
  omega
theorem len_sz (ts:List Tr):ts.length≤sz ts:=by
 induction ts with
 | nil=>exact Nat.le_refl _
 | cons t r ih=>
  have h:=t.size_pos
  rw[sz_cons]
  show r.length+1≤_
  omega
theorem kids_prefix {ts:List Tr} {i j:Nat} {t:Tr} (h:ts[i]? = some t):(kids (ts.take i)++(kid t).take j).length≤sz ts:=by
 have e1:ts=ts.take (i+1)++ts.drop (i+1):=(List.take_append_drop _ _).symm
 have h1:(kids (ts.take (i+1))).length≤(kids ts).length:=by
  have h2:(kids ts).length=(kids (ts.take (i+1))).length+(kids (ts.drop (i+1))).length:=by
   rw[←List.length_append,←kids_app,List.take_append_drop]
  omega
 have h3:=len_sz (kids ts)
 have h4:=sz_kids ts
 rw[kids_take h,List.length_append] at h1
 rw[List.length_append,List.length_take]
 omega
theorem pile_get {H:Hp}:∀{xs:List V} {ts:List Tr} {i:Nat} {x:V},Pile H xs ts→xs[i]? = some x→∃t,ts[i]? = some t∧Tr.At H t x
 | _,_,_,_,.nil,e=>by simp at e
 | _,_,0,_,.cons r _,e=>by
  simp at e
  subst e
  exact⟨_,rfl,r⟩
 | _,_,i+1,x,.cons _ q,e=>by
  obtain⟨t,h1,h2⟩:=pile_get (i:=i) q (by simpa using e)
  exact⟨t,by simpa using h1,h2⟩
theorem kid_at {H:Hp} {t:Tr} {v:V} (h:t.At H v):∃p z cs,v= .ref p∧H p=some (.tup (z::cs))∧((z= .str "let"∧kid t=[])∨(¬(z= .str "let")∧(∃x,z= .str x)∧Pile H cs (kid t)∧0<cs.length∧cs.length≤2)):=by
 cases t with
 | lt k=>
  obtain⟨p,e,hp⟩:=h
  exact⟨p,_,_,e,hp,.inl ⟨rfl,rfl⟩⟩
 | nt t=>
  obtain⟨p,u,e,hp,ha⟩:=h
  exact⟨p,_,_,e,hp,.inr ⟨by decide,⟨_,rfl⟩,.cons ha .nil,Nat.succ_pos _,by show 1≤2;decide⟩⟩
 | bn j a b=>
  obtain⟨p,x,y,e,hp,ha,hb⟩:=h
  exact⟨p,_,_,e,hp,.inr ⟨jn_let,⟨_,rfl⟩,.cons ha (.cons hb .nil),Nat.succ_pos _,Nat.le_refl _⟩⟩
theorem cut1 (z:V) (cs:List V):cutV (z::cs) (some 1) none=cs:=by
 unfold cutV
 have e1:HT.sIx (z::cs).length 0 (some 1)=1:=by
  have:=HT.sIx_nat (z::cs).length 0 1
  show HT.sIx (z::cs).length 0 (some ((1:Nat):Int))=1
  rw[this,List.length_cons]
  omega
 rw[e1,HT.sIx_none]
 show ((z::cs).drop 1).take (cs.length+1-1)=cs
 simp
theorem cut1_not {z:V} {cs:List V}:¬(HT.sIx (z::cs).length 0 (some 1)=0∧HT.sIx (z::cs).length (z::cs).length none=(z::cs).length):=by
 rintro⟨h,_⟩
 have:=HT.sIx_nat (z::cs).length 0 1
 rw[show (some (1:Int))=some ((1:Nat):Int) from rfl,this,List.length_cons] at h
 omega
theorem iteNN {c A B:Prop} [Decidable c] (hc:¬c) (h:A):if (!decide c)=true then A else B:=by
 rw[decide_eq_false hc]
 exact iteT h
def bitv (k:Nat) (w:Int):Bool:=decide (w / 2^k%2=1)
def jv:Nat→Bool→Bool→Bool
 | 0,a,b=>a && b
 | 1,a,b=>a || b
 | 2,a,b=>!a || b
 | _,a,b=>decide (a=b)
def tv:Tr→Int→Bool
 | .lt k,w=>bitv k w
 | .nt t,w=>!tv t w
 | .bn j a b,w=>jv j (tv a w) (tv b w)
theorem pow_pos (k:Nat):(0:Int)<2^k:=Int.pow_pos (by decide)
theorem bit_is (k:Nat) (w:Int):decide (V.int (w / 2^k%2)=V.int 1)=bitv k w:=by
 unfold bitv
 rw[Bool.eq_iff_iff,decide_eq_true_eq,decide_eq_true_eq]
 exact⟨fun h=>by injection h,fun h=>by rw[h]⟩
theorem bl_is (a b:Bool):decide (V.bl a=V.bl b)=decide (a=b):=by cases a<;>cases b<;>rfl
theorem jn0 {j:Nat} (h:V.str (jn j)=V.str "and"):j=0:=by
 match j with
 | 0=>rfl
 | 1=>exact absurd h (by decide)
 | 2=>exact absurd h (by decide)
 | _+3=>exact absurd (show V.str "same"=V.str "and" from h) (by decide)
theorem jn1 {j:Nat} (h:V.str (jn j)=V.str "or"):j=1:=by
 match j with
 | 0=>exact absurd h (by decide)
 | 1=>rfl
 | 2=>exact absurd h (by decide)
 | _+3=>exact absurd (show V.str "same"=V.str "or" from h) (by decide)
theorem jn2 {j:Nat} (h:V.str (jn j)=V.str "if"):j=2:=by
 match j with
 | 0=>exact absurd h (by decide)
 | 1=>exact absurd h (by decide)
 | 2=>rfl
 | _+3=>exact absurd (show V.str "same"=V.str "if" from h) (by decide)
theorem jv3 {j:Nat} (h0:¬V.str (jn j)=V.str "and") (h1:¬V.str (jn j)=V.str "or") (h2:¬V.str (jn j)=V.str "if") (a b:Bool):jv j a b=decide (a=b):=by
 match j with
 | 0=>exact absurd rfl h0
 | 1=>exact absurd rfl h1
 | 2=>exact absurd rfl h2
 | _+3=>rfl
structure BTx (mg:Str→Option Value):Prop where
 isi:mg "isinstance"=none
 int:mg "int"=none
 bool:mg "bool"=none
 str:mg "str"=none
 tup:mg "tuple"=none
 lst:mg "list"=none
 set:mg "set"=none
 sorted:mg "sorted"=none
 rng:mg "range"=none
 any:mg "any"=none
 all:mg "all"=none
theorem boot_lst:bootBuiltins "list"=some (.type "list"):=by decide +kernel
abbrev RowAt (H:Hp) (p:Addr) (row:List Int):Prop:=H p=some (.lst (row.map V.int))
abbrev RowsAt (H:Hp):List V→List (List Int)→Prop:=Paired fun (v:V) (row:List Int)=>∃p,v= .ref p∧RowAt H p row
theorem RowsAt.keep {H H':Hp} (s:Same H H'):∀{xs:List V} {rs:List (List Int)},RowsAt H xs rs→RowsAt H' xs rs
 | _,_,.nil=>.nil
 | _,_,.cons ⟨p,e,h⟩ q=>.cons ⟨p,e,s _ _ h⟩ (RowsAt.keep s q)
theorem RowsAt.get {H:Hp}:∀{xs:List V} {rs:List (List Int)} {i:Nat} {x:V},RowsAt H xs rs→xs[i]? = some x→∃row p,rs[i]? = some row∧x= .ref p∧RowAt H p row
 | _,_,_,_,.nil,e=>by simp at e
 | _,_,0,_,.cons ⟨p,e1,h⟩ _,e=>by
  simp at e
  subst e
  exact⟨_,p,rfl,e1,h⟩
 | _,_,i+1,x,.cons _ q,e=>by
  obtain⟨row,p,h1,h2⟩:=RowsAt.get (i:=i) q (by simpa using e)
  exact⟨row,p,by simpa using h1,h2⟩
theorem RowsAt.len {H:Hp} {xs:List V} {rs:List (List Int)} (h:RowsAt H xs rs):xs.length=rs.length:=Paired.length h
theorem two_le {m:Nat} (h:m≤5):2^m≤32:=Nat.pow_le_pow_right (n:=2) (by decide) h
theorem upto_len (n:Nat):(upto n).length=n:=by unfold upto;simp
theorem upto_up (n:Nat):(upto n).Pairwise (· < ·):=by
 unfold upto
 rw[List.pairwise_map]
 exact List.pairwise_lt_range.imp fun h=>by omega
theorem mem_upto {n:Nat} {k:Int}:k∈upto n↔0≤k∧k<n:=by
 unfold upto
 rw[List.mem_map]
 constructor
 ·rintro⟨a,ha,rfl⟩
  have:=List.mem_range.mp ha
  omega
 ·rintro⟨h0,h1⟩
  exact⟨k.toNat,List.mem_range.mpr (by omega),by omega⟩
def spWorlds:Sp:=fun vs H Q _=>∃(m:Nat),vs=[.int (m:Int)]∧1≤m∧m≤5∧∀(l:Addr) (H':Hp),Same H H'→H l=none→RowAt H' l (upto (2^m))→Q (.ref l) H'
def insR (b:Bool) (t:Tr) (row:List Int):List Int:=row.filter fun k=>tv t k == b
theorem ins_outs (t:Tr) (row:List Int):(insR true t row).length+(insR false t row).length=row.length:=by
 unfold insR
 induction row with
 | nil=>rfl
 | cons k r ih=>
  cases h:tv t k with
  | true=>simp[h] at ih ⊢;omega
  | false=>simp[h] at ih ⊢;omega
def sidesR (z:Str) (t:Tr) (row:List Int):List (List Int):=if z="true" then[insR true t row] else if z="false" then[insR false t row] else[insR true t row,insR false t row]
def baseR (row:List Int) (sides:List (List Int)):List Int:=row.filter fun k=>sides.any fun s=>decide (k∈s)
theorem dec_strs (a b:Str):decide (V.str a=V.str b)=decide (a=b):=by
 rw[Bool.eq_iff_iff,decide_eq_true_eq,decide_eq_true_eq]
 exact⟨fun h=>by injection h,fun h=>by rw[h]⟩
abbrev sSays:Stmt:=top 45
def spSays:Sp:=fun vs H Q _=>∃(z:Str),vs=[.str z,.str z]∧Q (.bl true) H
section
variable {P:Program} {w:World} {K:PySem.W.Frag} {mg:Str→Option Value} {base:Heap} {f:Addr} {fd:FuncData}
theorem scSays:FnScope ["_law_found","_law_due_here"] ["_law_found","_law_due_here"] (defScope sSays):=⟨rfl,rfl,rfl,by decide +kernel,rfl,by decide +kernel,by decide +kernel⟩
theorem ok_lsays (F:Fun K "_law_says" "_law_says" sSays f fd) (T:BTx mg):FnOk P w K mg base CX0 1 f fd ["_law_found","_law_due_here"] spSays:=by
 refine F.ok scSays (fun vs H Q E h=>?_) (fun cdv A outer s H vs Q E hr h=>?_)
 ·obtain⟨z,rfl,_⟩:=h
  rfl
 obtain⟨z,rfl,q⟩:=h
 refine⟨_,pss_one (ps_ret (pe_and (pe_callB call_isinst (by rfl) T.isi boot_isinstance (pa_cons (pv 0) (pa_cons (pe_bltn (v:=.ty "str") (by rfl) T.str boot_str rfl) pa_nil))) (pe_one (pe_cmpR op_eq (pv 0) (pv 1) (nomark _))))),?_⟩
 refine⟨_,rfl,_,_,_,_,rfl,.str _,kit_same _ _,_,rfl,?_⟩
 refine iteT ?_
 refine⟨_,rfl,_,rfl,rfl,?_⟩
 rw[decide_eq_true rfl]
 exact q
end
theorem comp_go {i:Nat} {v:V} {σ σ' σ0:L2.St} {H:Hp} {N B C:L2.St→Hp→Prop} {R:VK} (e:σ.set i (some v)=σ') (h:N σ' H):({ nx:=fun _ H'=>(fun x H1=>gName i x σ H1 N) v H',rt:=R,bk:=B,ct:=C }:Ends).nx σ0 H:=by
 subst e
 exact h
theorem nx_mid {t u:L2.TS} {D:Ends} {R:VK} {B C:L2.St→Hp→Prop} {σ:L2.St} {H:Hp} (Mid:L2.St→Hp→Prop) (h2:∀σ' H',Mid σ' H'→u D σ' H') (h1:(∀σ' H',Mid σ' H'→u D σ' H')→t { D with nx:=u D } σ H):({ nx:=tSeq t u D,rt:=R,bk:=B,ct:=C }:Ends).nx σ H:=h1 h2
theorem set_go {i:Nat} {v:V} {σ σ':L2.St} {H:Hp} {N:L2.St→Hp→Prop} (e:σ.set i (some v)=σ') (h:N σ' H):gName i v σ H N:=by
 subst e
 exact h
theorem seq_mid {t u:L2.TS} {D:Ends} {σ:L2.St} {H:Hp} (Mid:L2.St→Hp→Prop) (h2:∀σ' H',Mid σ' H'→u D σ' H') (h1:(∀σ' H',Mid σ' H'→u D σ' H')→t { D with nx:=u D } σ H):tSeq t u D σ H:=h1 h2
def Wr (row:List Int):Prop:=row.Pairwise (· < ·)∧∀k∈row,0≤k∧k<32
theorem Wr.sub {a b:List Int} (h:Wr b) (s:a.Sublist b):Wr a:=⟨h.1.sublist s,fun k hk=>h.2 k (s.subset hk)⟩
theorem wr_upto {m:Nat} (h:m≤5):Wr (upto (2^m)):=⟨upto_up _,fun k hk=>by
 have:=mem_upto.mp hk
 have h2:=two_le h
 have:((2^m:Nat):Int)≤32:=by omega
 omega⟩
theorem Wr.len {row:List Int} (h:Wr row):row.length≤32:=by
 have nd:row.Nodup:=h.1.imp fun h=>by omega
 have:=nodup_sub (l2:=upto 32) nd fun k hk=>mem_upto.mpr (h.2 k hk)
 rw[upto_len] at this
 exact this
theorem sides_sub {z:Str} {t:Tr} {row s:List Int} (h:s∈sidesR z t row):s.Sublist row:=by
 unfold sidesR at h
 split at h
 ·rw[List.mem_singleton.mp h];exact List.filter_sublist
 ·split at h
  ·rw[List.mem_singleton.mp h];exact List.filter_sublist
  ·simp only[List.mem_cons,List.not_mem_nil,or_false] at h
   rcases h with rfl | rfl
   ·exact List.filter_sublist
   ·exact List.filter_sublist
theorem base_sub {row:List Int} {sides:List (List Int)}:(baseR row sides).Sublist row:=List.filter_sublist
abbrev sParts:Stmt:=top 16
def spParts (K:PySem.W.Frag):Sp:=fun vs H Q _=>∃(a:Addr) (xs:List V) (ts:List Tr),vs=[.ref a]∧SqL K H a xs∧Pile H xs ts∧sz ts≤900∧
 ∀(r:Addr) (ys:List V) (H':Hp),Same H H'→H' r=some (.lst ys)→Pile H' ys (kids ts)→Q (.ref r) H'
section
variable {P:Program} {w:World} {K:PySem.W.Frag} {mg:Str→Option Value} {base:Heap} {f:Addr} {fd:FuncData}
theorem scParts:FnScope ["layer"] ["layer"] (defScope sParts):=⟨rfl,rfl,rfl,by decide +kernel,rfl,by decide +kernel,by decide +kernel⟩
theorem ndSP:(["sentence","part"]:List Str).Nodup:=by decide +kernel
set_option maxHeartbeats 4000000 in
theorem ok_parts (F:Fun K "parts_of" "parts_of" sParts f fd):FnOk P w K mg base CX0 1 f fd ["layer"] (spParts K):=by
 refine F.ok scParts (fun vs H Q E h=>?_) (fun cdv A outer s H vs Q E hr h=>?_)
 ·obtain⟨a,xs,ts,rfl,_⟩:=h
  rfl
 obtain⟨a,xs,ts,rfl,hS,hp,hsz,q⟩:=h
 refine⟨_,pss_one (ps_ret (pe_comp2 (N:=["sentence","part"]) (js:=[none,none]) (cl:=[]) ⟨rfl,rfl,rfl,List.forall_mem_nil _,rfl,rfl,rfl⟩ (pi_list (pv 0)) (fun _=>pg_name (i:=0) ndSP rfl (Or.inl rfl))
  (fun _=>pts_one (pt_cmpR op_ne (pe_ix ix_tup (pv 0) pe_int (fun _ _=>rfl)) pe_str (nomark _))) (fun _=>pi_tup (pe_slice sl_tup (pv 0) (po_some pe_int) po_none)) (fun _=>pg_name (i:=1) ndSP rfl (Or.inl rfl)) (fun _=>pts_nil) (fun _=>pv 1))),?_⟩
 refine⟨_,rfl,a,rfl,⟨_,hS⟩,fun cc acc hacc=>for_list (K:=K) (a:=a) (xs:=xs) (fun i σ H2=>∃(v0 v1:Option V) (ys:List V),σ=[v0,v1]∧Same H H2∧H2 acc=some (.lst ys)∧Pile H2 ys (kids (ts.take i))) ?_ ?_ ?_ ?_⟩
 ·exact⟨none,none,[],rfl,same_new hacc _,upd_same,.nil⟩
 ·rintro i σ H2 _ ⟨v0,v1,ys,rfl,s2,_,_⟩
  exact s2.seq hS
 ·rintro i x σ H2 hx ⟨v0,v1,ys,rfl,s2,ha2,hp2⟩
  obtain⟨t,ht,hat⟩:=pile_get hp hx
  have hat2:=hat.keep (TS.same s2)
  obtain⟨p,z,cs,rfl,hpt,hk⟩:=kid_at hat2
  have zstr:∃y,z= .str y:=by
   rcases hk with⟨e,_⟩|⟨_,e,_⟩
   ·exact⟨_,e⟩
   ·exact e
  obtain⟨y,rfl⟩:=zstr
  refine⟨_,rfl,p,_,_,_,rfl,rfl,SqT.of hpt,atI_nat (j:=0) rfl,rfl,_,rfl,?_⟩
  rcases hk with⟨e,ek⟩|⟨ne,_,hcs,_,_⟩
  ·refine iteNS e ?_
   refine⟨_,_,ys,rfl,s2,ha2,?_⟩
   rw[kids_take ht,ek,List.append_nil]
   exact hp2
  ·refine iteNN ne ?_
   refine⟨_,rfl,_,rfl,p,_,rfl,SqT.of hpt,cut1_not,fun c hc=>⟨c,rfl,⟨_,SqT.of upd_same⟩,for_tup (K:=K) (a:=c) (xs:=cutV (V.str y::cs) (some 1) none) (fun j σ H3=>∃(v1:Option V) (ys:List V),σ=[some (.ref p),v1]∧Same H H3∧H3 acc=some (.lst ys)∧H3 c=some (.tup (cutV (V.str y::cs) (some 1) none))∧Pile H3 cs (kid t)∧Pile H3 ys (kids (ts.take i)++(kid t).take j)) ?_ ?_ ?_ ?_⟩⟩
   ·refine⟨_,ys,rfl,s2.trans (same_new hc _),(same_new hc _) _ _ ha2,upd_same,hcs.keep (TS.new hc),?_⟩
    rw[List.take_zero,List.append_nil]
    exact hp2.keep (TS.new hc)
   ·rintro j σ H3 _ ⟨v1,ys,rfl,s3,_,hc3,_⟩
    exact SqT.of hc3
   ·rintro j u σ H3 hu ⟨v1,ys,rfl,s3,ha3,hc3,hcs3,hp3⟩
    rw[cut1] at hu
    obtain⟨t2,ht2,hat3⟩:=pile_get hcs3 hu
    have hlen:=hp3.len
    have hb:=kids_prefix (j:=j) ht
    show tEmit acc (tVar 1) _ _ _
    refine⟨_,rfl,ys,ha3,small1000 (by omega),?_⟩
    have k3:TS H3 (upd H3 acc (.lst (ys++[u]))):=TS.lst ha3
    refine⟨_,ys++[u],rfl,same_put s3 hacc _,upd_same,by rw[upd_ne (ne_of hc3 ha3 (by intro z;cases z))];exact hc3,hcs3.keep k3,?_⟩
    rw[List.take_add_one,ht2,←List.append_assoc]
    exact (hp3.keep k3).snoc (hat3.keep k3)
   ·rintro σ H3 ⟨v1,ys,rfl,s3,ha3,hc3,hcs3,hp3⟩
    refine⟨_,_,ys,rfl,s3,ha3,?_⟩
    rw[cut1] at hp3
    have hl:=hcs3.len
    rw[hl,List.take_length] at hp3
    rw[kids_take ht]
    exact hp3
 ·rintro σ H2 ⟨v0,v1,ys,rfl,s2,ha2,hp2⟩
  rw[hp.len,List.take_length] at hp2
  exact q acc ys H2 s2 ha2 hp2
end
abbrev sHolds:Stmt:=top 20
def spHolds:Sp:=fun vs H Q _=>∃(k:Nat) (w:Int),vs=[.int (k:Int),.int w]∧Q (.bl (bitv k w)) H
theorem bit_shr (k:Nat) (w:Int):decide (V.int (Builtin.bitAnd (w / 2^((k:Int)).toNat) 1)=V.int 1)=bitv k w:=by
 rw[bitAnd_m1,Int.toNat_natCast]
 exact bit_is k w
section
variable {P:Program} {w:World} {K:PySem.W.Frag} {mg:Str→Option Value} {base:Heap} {f:Addr} {fd:FuncData}
theorem scHolds:FnScope ["letter","world"] ["letter","world"] (defScope sHolds):=⟨rfl,rfl,rfl,by decide +kernel,rfl,by decide +kernel,by decide +kernel⟩
theorem ok_holds (F:Fun K "letter_holds" "letter_holds" sHolds f fd):FnOk P w K mg base CX0 1 f fd ["letter","world"] spHolds:=by
 refine F.ok scHolds (fun vs H Q E h=>?_) (fun cdv A outer s H vs Q E hr h=>?_)
 ·obtain⟨k,w,rfl,_⟩:=h
  rfl
 obtain⟨k,wd,rfl,q⟩:=h
 refine⟨_,pss_one (ps_ret (pe_cmpR op_eq (pe_op op_and (pe_op op_shr (pv 1) (pv 0)) pe_int) pe_int (nomark _))),?_⟩
 refine⟨_,rfl,_,rfl,_,_,rfl,rfl,Int.natCast_nonneg k,_,_,rfl,rfl,rfl,?_⟩
 rw[←bit_shr] at q
 exact q
end
abbrev sJoined:Stmt:=top 21
abbrev sSteps:Stmt:=top 22
abbrev sTrueBy:Stmt:=top 23
def spJoined:Sp:=fun vs H Q _=>∃(j:Nat) (a b:Bool),vs=[.str (jn j),.bl a,.bl b]∧Q (.bl (jv j a b)) H
def post:Tr→List Tr
 | .lt k=>[.lt k]
 | .nt t=>post t++[.nt t]
 | .bn j a b=>post a++(post b++[.bn j a b])
theorem post_kid:∀t:Tr,post t=(kid t).flatMap post++[t]
 | .lt k=>rfl
 | .nt t=>by show post t++[.nt t]=(post t++[])++[.nt t];rw[List.append_nil]
 | .bn j a b=>by show post a++(post b++[.bn j a b])=(post a++(post b++[]))++[.bn j a b];rw[List.append_nil,List.append_assoc]
theorem post_len:∀t:Tr,(post t).length=t.size
 | .lt k=>rfl
 | .nt t=>by show (post t++[Tr.nt t]).length=t.size+1;rw[List.length_append,post_len t];rfl
 | .bn j a b=>by
  show (post a++(post b++[Tr.bn j a b])).length=a.size+b.size+1
  rw[List.length_append,List.length_append,post_len a,post_len b]
  show a.size+(b.size+1)=_
  omega
def stp (w:Int) (rs:List Bool):Tr→Option (List Bool)
 | .lt k=>some (bitv k w::rs)
 | .nt _=>match rs with
  | a::r=>some ((!a)::r)
  | []=>none
 | .bn j _ _=>match rs with
  | b::a::r=>some (jv j a b::r)
  | _=>none
def run (w:Int):List Tr→List Bool→Option (List Bool)
 | [],rs=>some rs
 | u::r,rs=>match stp w rs u with
  | some rs'=>run w r rs'
  | none=>none
theorem run_app (w:Int):∀(a b:List Tr) (rs rs':List Bool),run w a rs=some rs'→run w (a++b) rs=run w b rs'
 | [],b,rs,rs',h=>by cases h;rfl
 | u::r,b,rs,rs',h=>by
  unfold run at h
  show (match stp w rs u with | some rs'=>run w (r++b) rs' | none=>none)=run w b rs'
  cases e:stp w rs u with
  | none=>rw[e] at h;cases h
  | some z=>rw[e] at h;exact run_app w r b z rs' h
theorem run_post (w:Int):∀(t:Tr) (rs:List Bool),run w (post t) rs=some (tv t w::rs)
 | .lt k,rs=>rfl
 | .nt t,rs=>by
  show run w (post t++[.nt t]) rs=_
  rw[run_app w _ _ _ _ (run_post w t rs)]
  rfl
 | .bn j a b,rs=>by
  show run w (post a++(post b++[.bn j a b])) rs=_
  rw[run_app w _ _ _ _ (run_post w a rs),run_app w _ _ _ _ (run_post w b _)]
  rfl
def spSteps:Sp:=fun vs H Q _=>∃(v:V) (t:Tr),vs=[v]∧t.At H v∧t.size≤800∧∀(l:Addr) (ys:List V) (H':Hp),Same H H'→H l=none→H' l=some (.lst ys)→Pile H' ys (post t)→Q (.ref l) H'
def spTrueBy:Sp:=fun vs H Q _=>∃(l:Addr) (ys:List V) (t:Tr) (w:Int),vs=[.ref l,.int w]∧H l=some (.lst ys)∧Pile H ys (post t)∧t.ok 5∧t.size≤800∧∀(H':Hp),Same H H'→Q (.bl (tv t w)) H'
section
variable {P:Program} {w:World} {K:PySem.W.Frag} {mg:Str→Option Value} {base:Heap} {f:Addr} {fd:FuncData}
theorem scJoined:FnScope ["kind","one","other"] ["kind","one","other"] (defScope sJoined):=⟨rfl,rfl,rfl,by decide +kernel,rfl,by decide +kernel,by decide +kernel⟩
theorem ok_joined (F:Fun K "joined" "joined" sJoined f fd):FnOk P w K mg base CX0 1 f fd ["kind","one","other"] spJoined:=by
 refine F.ok scJoined (fun vs H Q E h=>?_) (fun cdv A outer s H vs Q E hr h=>?_)
 ·obtain⟨j,a,b,rfl,_⟩:=h
  rfl
 obtain⟨j,va,vb,rfl,q2⟩:=h
 refine⟨_,pss_cons (ps_if (pt_cmpR op_eq (pv 0) pe_str (nomark _))
   (pss_one (ps_ret (pe_and (pv 1) (pe_one (pv 2)))))
   pss_nil)
  (pss_cons (ps_if (pt_cmpR op_eq (pv 0) pe_str (nomark _))
   (pss_one (ps_ret (pe_or (pv 1) (pe_one (pv 2)))))
   pss_nil)
  (pss_cons (ps_if (pt_cmpR op_eq (pv 0) pe_str (nomark _))
   (pss_one (ps_ret (pe_or (pe_not (pv 1)) (pe_one (pv 2)))))
   pss_nil)
  (pss_one (ps_ret (pe_cmpR op_eq (pv 1) (pv 2) (nomark _)))))),?_⟩
 refine⟨_,rfl,rfl,_,rfl,?_⟩
 by_cases h0:V.str (jn j)=V.str "and"
 ·refine iteY h0 ?_
  obtain rfl:=jn0 h0
  cases va with
  | false=>exact⟨_,rfl,_,rfl,iteF q2⟩
  | true=>exact⟨_,rfl,_,rfl,iteT ⟨_,rfl,q2⟩⟩
 refine iteN h0 ?_
 refine⟨_,rfl,rfl,_,rfl,?_⟩
 by_cases h1:V.str (jn j)=V.str "or"
 ·refine iteY h1 ?_
  obtain rfl:=jn1 h1
  cases va with
  | false=>exact⟨_,rfl,_,rfl,iteF ⟨_,rfl,q2⟩⟩
  | true=>exact⟨_,rfl,_,rfl,iteT q2⟩
 refine iteN h1 ?_
 refine⟨_,rfl,rfl,_,rfl,?_⟩
 by_cases h2:V.str (jn j)=V.str "if"
 ·refine iteY h2 ?_
  obtain rfl:=jn2 h2
  cases va with
  | false=>exact⟨_,rfl,_,rfl,_,rfl,iteT q2⟩
  | true=>exact⟨_,rfl,_,rfl,_,rfl,iteF ⟨_,rfl,q2⟩⟩
 refine iteN h2 ?_
 rw[jv3 h0 h1 h2] at q2
 refine⟨_,rfl,_,rfl,rfl,?_⟩
 rw[bl_is]
 exact q2
def StW (H:Hp) (v:V) (t:Tr) (sl wl:Addr) (m:Nat):L2.St→Hp→Prop:=fun σ H3=>∃(ys zs:List V) (ss ws:List Tr) (pp:Option V),σ=[some v,some (.ref sl),some (.ref wl),pp]∧Same H H3∧
 H3 sl=some (.lst ys)∧H3 wl=some (.lst zs)∧Pile H3 ys ss∧Pile H3 zs ws∧ws.flatMap post++ss.reverse=post t∧m=sz ws
theorem scSteps:FnScope ["sentence","steps","waiting","step"] ["sentence"] (defScope sSteps):=⟨rfl,rfl,rfl,by decide +kernel,rfl,by decide +kernel,by decide +kernel⟩
theorem pile_rev {H:Hp}:∀{xs:List V} {ts:List Tr},Pile H xs ts→Pile H xs.reverse ts.reverse
 | _,_,.nil=>.nil
 | _,_,.cons r q=>by
  rw[List.reverse_cons,List.reverse_cons]
  exact (pile_rev q).snoc r
theorem pile_app {H:Hp}:∀{xs ys:List V} {ts us:List Tr},Pile H xs ts→Pile H ys us→Pile H (xs++ys) (ts++us)
 | _,_,_,_,.nil,q=>q
 | _,_,_,_,.cons r q,q2=>.cons r (pile_app q q2)
set_option maxHeartbeats 4000000 in
theorem ok_steps {g:Addr} {gd:FuncData} (F:Fun K "steps_of" "steps_of" sSteps f fd) (GP:FnOk P w K mg base CX0 1 g gd ["layer"] (spParts K)) (CP:Cal K mg "parts_of" g gd ["layer"]):FnOk P w K mg base CX0 2 f fd ["sentence"] spSteps:=by
 refine F.ok scSteps (fun vs H Q E h=>?_) (fun cdv A outer s H vs Q E hr h=>?_)
 ·obtain⟨v,t,rfl,_⟩:=h
  rfl
 obtain⟨v,t,rfl,ha,hs,q⟩:=h
 refine⟨_,pss_cons (ps_set (i:=1) scSteps.nd rfl (Or.inl rfl) (pe_lst pa_nil))
  (pss_cons (ps_set (i:=2) scSteps.nd rfl (Or.inl rfl) (pe_lst (pa_cons (pv 0) pa_nil)))
  (pss_cons (ps_while PassesOwn.never (pt_truth (pv 2) (fun _=>rfl))
   (pss_cons (ps_set (i:=3) scSteps.nd rfl (Or.inl rfl) (pe_bm0 PySem.F.plainAttrs_list PySem.F.slot_list_pop PySem.F.type_list_pop mt_pop (pv 2)))
   (pss_cons (ps_expr (pe_bm PySem.F.plainAttrs_list PySem.F.slot_list_append PySem.F.type_list_append mt_append (pv 1) (pa_cons (pv 3) pa_nil)))
   (pss_one (ps_expr (pe_bm PySem.F.plainAttrs_list PySem.F.slot_list_extend PySem.F.type_list_extend mt_extend (pv 2) (pa_cons (pe_call GP hr (by rfl) CP.m CP.k CP.b .nil pass0 (pa_cons (pe_lst (pa_cons (pv 3) pa_nil)) pa_nil)) pa_nil)))))))
  (pss_cons (ps_expr (pe_bm0 PySem.F.plainAttrs_list PySem.F.slot_list_reverse PySem.F.type_list_reverse mt_reverse (pv 1)))
  (pss_one (ps_ret (pv 1)))))),?_⟩
 refine⟨le0,fun sl hsl=>?_⟩
 have s1:=same_new hsl (.lst [])
 refine⟨_,rfl,le1,fun wl hwl=>?_⟩
 have s2:=same_new hwl (.lst [v])
 have nsw:sl≠wl:=ne_of_none (upd_same (H:=H) (a:=sl) (o:=.lst [])) hwl
 have hwl0:H wl=none:=s1.free hwl
 have e1:sz [t]=t.size:=by unfold sz;simp
 refine⟨StW H v t sl wl,⟨_,[],[v],[],[t],none,rfl,s1.trans s2,s2 _ _ upd_same,upd_same,.nil,.cons (ha.keep ((TS.same s1).trans (TS.same s2))) .nil,by simp,rfl⟩,?_⟩
 rintro m σ H3 ⟨ys,zs,ss,ws,pp,rfl,s3,hs3,hw3,p3,z3,e3,rfl⟩
 have bnd:sz ws+ss.length≤800:=by
  have h1:(ws.flatMap post).length=sz ws:=by
   clear e3 z3
   induction ws with
   | nil=>rfl
   | cons u r ih=>
    show (post u++r.flatMap post).length=_
    rw[List.length_append,post_len,ih,sz_cons]
  have h2:=congrArg List.length e3
  rw[List.length_append,List.length_reverse,h1,post_len] at h2
  omega
 refine⟨_,rfl,_,.inl ⟨zs,SqL.of hw3,rfl⟩,?_⟩
 refine ite2 (fun c=>?_) (fun c=>?_)
 ·refine⟨fun σ' H'=>∃m',m'<sz ws∧StW H v t sl wl m' σ' H',fun _ _ h=>h,?_⟩
  have hpos:0<ws.length:=by
   rw[←z3.len]
   cases zs with
   | nil=>exact absurd c (by decide)
   | cons _ _=>exact Nat.succ_pos _
  obtain⟨zs',y,ws',u,rfl,rfl,q3,a3⟩:=z3.last hpos
  have hsw:=sz_snoc ws' u
  have hku:=sz_kid u
  have hwl':=len_sz ws'
  have hl1:=p3.len
  have hl2:=q3.len
  refine⟨_,rfl,.inl ⟨rfl,_,SqL.of hw3⟩,wl,_,y,rfl,rfl,hw3,last_at _ _,?_⟩
  have t4:HT2.TS H3 (upd H3 wl (.lst (zs'++[y]).dropLast)):=TS.lst hw3
  have s4:Same H (upd H3 wl (.lst (zs'++[y]).dropLast)):=same_put s3 hwl0 _
  rw[List.dropLast_concat] at t4 s4
  have hs4:(upd H3 wl (.lst zs')) sl=some (.lst ys):=by rw[upd_ne nsw];exact hs3
  rw[List.dropLast_concat]
  refine⟨_,rfl,.inl ⟨rfl,_,SqL.of hs4⟩,_,rfl,sl,_,_,rfl,rfl,hs4,small1000 (by omega),?_⟩
  have t5:HT2.TS (upd H3 wl (.lst zs')) (upd (upd H3 wl (.lst zs')) sl (.lst (ys++[y]))):=TS.lst hs4
  have s5:Same H (upd (upd H3 wl (.lst zs')) sl (.lst (ys++[y]))):=same_put s4 hsl _
  have hw5:(upd (upd H3 wl (.lst zs')) sl (.lst (ys++[y]))) wl=some (.lst zs'):=by rw[upd_ne nsw.symm,upd_same]
  have hs5:(upd (upd H3 wl (.lst zs')) sl (.lst (ys++[y]))) sl=some (.lst (ys++[y])):=upd_same
  have a5:=a3.keep (t4.trans t5)
  have p5:=(p3.snoc a3).keep (t4.trans t5)
  have q5:=q3.keep (t4.trans t5)
  revert s5 hw5 hs5 a5 p5 q5
  generalize (upd (upd H3 wl (.lst zs')) sl (.lst (ys++[y])))=H5
  intro s5 hw5 hs5 a5 p5 q5
  refine⟨_,rfl,.inl ⟨rfl,_,SqL.of hw5⟩,_,rfl,le1,fun pl hpl=>?_⟩
  have s6:=same_new hpl (.lst [y])
  have e1:sz [u]=u.size:=by unfold sz;simp
  refine⟨pl,[y],[u],rfl,SqL.of upd_same,.cons (a5.keep (TS.same s6)) .nil,by omega,fun r ks H7 s7 hr7 p7=>?_⟩
  have hl3:=p7.len
  rw[kids_one] at p7 hl3
  have hlk:=len_sz (kid u)
  have hw7:=s7 _ _ (s6 _ _ hw5)
  refine⟨wl,r,zs',ks,rfl,rfl,hw7,hr7,small (by omega),?_⟩
  have t8:HT2.TS H7 (upd H7 wl (.lst (zs'++ks))):=TS.lst hw7
  have k57:=(TS.same s6).trans (TS.same s7)
  refine⟨_,?_,ys++[y],zs'++ks,ss++[u],ws'++kid u,_,rfl,same_put (s5.trans (s6.trans s7)) hwl0 _,?_,upd_same,p5.keep (k57.trans t8),(pile_app (q5.keep k57) p7).keep t8,?_,rfl⟩
  ·rw[sz_app];omega
  ·rw[upd_ne nsw];exact s7 _ _ (s6 _ _ hs5)
  ·rw[←e3,List.flatMap_append,List.flatMap_append,List.reverse_append]
   show ((ws'.flatMap post++(kid u).flatMap post)++([u]++ss.reverse))=(ws'.flatMap post++(post u++[]))++ss.reverse
   rw[List.append_nil,post_kid u]
   simp only[List.append_assoc]
 ·have e:ws=[]:=by
   cases z3 with
   | nil=>rfl
   | cons h1 h2=>exact absurd rfl c
  subst e
  refine⟨_,rfl,.inl ⟨rfl,_,SqL.of hs3⟩,sl,ys,rfl,rfl,hs3,?_⟩
  refine⟨_,rfl,q sl ys.reverse _ (same_put s3 hsl _) hsl upd_same ?_⟩
  have e4:ss.reverse=post t:=e3
  rw[←e4]
  exact (pile_rev p3).keep (TS.lst hs3)
theorem scTrueBy:FnScope ["steps","world","truths","step","other","one"] ["steps","world"] (defScope sTrueBy):=⟨rfl,rfl,rfl,by decide +kernel,rfl,by decide +kernel,by decide +kernel⟩
def tl (rs:List Bool):List V:=rs.reverse.map V.bl
theorem tl_cons (b:Bool) (rs:List Bool):tl (b::rs)=tl rs++[.bl b]:=by unfold tl;simp
theorem tl_len (rs:List Bool):(tl rs).length=rs.length:=by unfold tl;simp
set_option maxHeartbeats 4000000 in
theorem ok_trueby {g g2:Addr} {gd gd2:FuncData} (F:Fun K "true_by" "true_by" sTrueBy f fd) (GH:FnOk P w K mg base CX0 1 g gd ["letter","world"] spHolds) (CH:Cal K mg "letter_holds" g gd ["letter","world"])
  (GJ:FnOk P w K mg base CX0 1 g2 gd2 ["kind","one","other"] spJoined) (CJ:Cal K mg "joined" g2 gd2 ["kind","one","other"]):FnOk P w K mg base CX0 2 f fd ["steps","world"] spTrueBy:=by
 refine F.ok scTrueBy (fun vs H Q E h=>?_) (fun cdv A outer s H vs Q E hr h=>?_)
 ·obtain⟨v,ys,t,wd,rfl,_⟩:=h
  rfl
 obtain⟨l,ys,t,wd,rfl,hl,hp,hok,hsz,q⟩:=h
 have hr1:Room 1 _:=hr
 refine⟨_,pss_cons (ps_set (i:=2) scTrueBy.nd rfl (Or.inl rfl) (pe_lst pa_nil))
  (pss_cons (ps_for PassesOwn.never rfl (pi_list (pv 0)) (pg_name (i:=3) scTrueBy.nd rfl (Or.inl rfl))
   (pss_one (ps_if (pt_cmpR op_eq (pe_ix ix_tup (pv 3) pe_int (fun _ _=>rfl)) pe_str (nomark _))
    (pss_one (ps_expr (pe_bm PySem.F.plainAttrs_list PySem.F.slot_list_append PySem.F.type_list_append mt_append (pv 2) (pa_cons (pe_call GH hr1 (by rfl) CH.m CH.k CH.b .nil pass0 (pa_cons (pe_ix ix_tup (pv 3) pe_int (fun _ _=>rfl)) (pa_cons (pv 1) pa_nil))) pa_nil))))
    (pss_one (ps_if (pt_cmpR op_eq (pe_ix ix_tup (pv 3) pe_int (fun _ _=>rfl)) pe_str (nomark _))
     (pss_one (ps_expr (pe_bm PySem.F.plainAttrs_list PySem.F.slot_list_append PySem.F.type_list_append mt_append (pv 2) (pa_cons (pe_not (pe_bm0 PySem.F.plainAttrs_list PySem.F.slot_list_pop PySem.F.type_list_pop mt_pop (pv 2))) pa_nil))))
     (pss_cons (ps_set (i:=4) scTrueBy.nd rfl (Or.inl rfl) (pe_bm0 PySem.F.plainAttrs_list PySem.F.slot_list_pop PySem.F.type_list_pop mt_pop (pv 2)))
     (pss_cons (ps_set (i:=5) scTrueBy.nd rfl (Or.inl rfl) (pe_bm0 PySem.F.plainAttrs_list PySem.F.slot_list_pop PySem.F.type_list_pop mt_pop (pv 2)))
     (pss_one (ps_expr (pe_bm PySem.F.plainAttrs_list PySem.F.slot_list_append PySem.F.type_list_append mt_append (pv 2) (pa_cons (pe_call GJ hr1 (by rfl) CJ.m CJ.k CJ.b .nil pass0 (pa_cons (pe_ix ix_tup (pv 3) pe_int (fun _ _=>rfl)) (pa_cons (pv 5) (pa_cons (pv 4) pa_nil)))) pa_nil)))))))))))
  (pss_one (ps_ret (pe_ix ix_list (pv 2) pe_int (fun _ _=>rfl))))),?_⟩
 refine⟨le0,fun tr htr=>?_⟩
 have s1:=same_new htr (.lst [])
 have hlen:=hp.len
 have hpl:=post_len t
 refine⟨_,rfl,l,rfl,⟨_,SqL.of (s1 _ _ hl)⟩,for_list (K:=K) (a:=l) (xs:=ys) (fun i σ H3=>∃(v0 v1 v2:Option V) (rs:List Bool),σ=[some (.ref l),some (.int wd),some (.ref tr),v0,v1,v2]∧Same H H3∧H3 tr=some (.lst (tl rs))∧rs.length≤i∧run wd ((post t).drop i) rs=some [tv t wd]) ?_ ?_ ?_ ?_⟩
 ·exact⟨_,_,_,[],rfl,s1,upd_same,Nat.le_refl _,run_post wd t []⟩
 ·rintro i σ H3 _ ⟨v0,v1,v2,rs,rfl,s3,_⟩
  exact SqL.of (s3 _ _ hl)
 ·rintro i x σ H3 hx ⟨v0,v1,v2,rs,rfl,s3,h3,hlr,hrun⟩
  obtain⟨u,hu,hat⟩:=pile_get hp hx
  have hat3:=hat.keep (TS.same s3)
  have hi:i<ys.length:=(List.getElem?_eq_some_iff.mp hx).1
  obtain⟨hi2,eu⟩:=List.getElem?_eq_some_iff.mp hu
  rw[List.drop_eq_getElem_cons hi2,eu] at hrun
  unfold run at hrun
  cases u with
  | lt k=>
   obtain⟨p,rfl,hpt⟩:=hat3
   refine⟨_,rfl,p,_,_,_,rfl,rfl,SqT.of hpt,atI_nat (j:=0) rfl,rfl,_,rfl,?_⟩
   refine iteY rfl ?_
   refine⟨_,rfl,.inl ⟨rfl,_,SqL.of h3⟩,_,rfl,p,_,_,_,rfl,rfl,SqT.of hpt,atI_nat (j:=1) rfl,_,rfl,k,wd,rfl,?_⟩
   refine⟨tr,_,_,rfl,rfl,h3,small1000 (by rw[tl_len];omega),?_⟩
   refine⟨_,_,_,bitv k wd::rs,rfl,same_put s3 htr _,?_,by show rs.length+1≤i+1;omega,hrun⟩
   rw[upd_same,tl_cons]
  | nt u=>
   obtain⟨p,c,rfl,hpt,_⟩:=hat3
   refine⟨_,rfl,p,_,_,_,rfl,rfl,SqT.of hpt,atI_nat (j:=0) rfl,rfl,_,rfl,?_⟩
   refine iteN (by decide) ?_
   refine⟨_,rfl,p,_,_,_,rfl,rfl,SqT.of hpt,atI_nat (j:=0) rfl,rfl,_,rfl,?_⟩
   refine iteY rfl ?_
   cases rs with
   | nil=>cases hrun
   | cons a r=>
    rw[tl_cons] at h3
    have hlr':r.length+1≤i:=hlr
    refine⟨_,rfl,.inl ⟨rfl,_,SqL.of h3⟩,_,rfl,.inl ⟨rfl,_,SqL.of h3⟩,tr,_,_,rfl,rfl,h3,last_at _ _,_,rfl,?_⟩
    refine⟨tr,_,_,rfl,rfl,upd_same,?_,?_⟩
    ·rw[List.dropLast_concat];exact small1000 (by rw[tl_len];omega)
    refine⟨_,_,_,(!a)::r,rfl,same_put (same_put s3 htr _) htr _,?_,by show r.length+1≤i+1;omega,hrun⟩
    rw[upd_same,tl_cons,List.dropLast_concat]
  | bn j u1 u2=>
   obtain⟨p,c1,c2,rfl,hpt,_⟩:=hat3
   refine⟨_,rfl,p,_,_,_,rfl,rfl,SqT.of hpt,atI_nat (j:=0) rfl,rfl,_,rfl,?_⟩
   refine iteN jn_let ?_
   refine⟨_,rfl,p,_,_,_,rfl,rfl,SqT.of hpt,atI_nat (j:=0) rfl,rfl,_,rfl,?_⟩
   refine iteN jn_not ?_
   match rs,hrun,h3,hlr with
   | [],hrun,_,_=>cases hrun
   | [_],hrun,_,_=>cases hrun
   | b::a::r,hrun,h3,hlr=>
    rw[tl_cons,tl_cons] at h3
    have hlr':r.length+1+1≤i:=hlr
    refine⟨_,rfl,.inl ⟨rfl,_,SqL.of h3⟩,tr,_,_,rfl,rfl,h3,last_at _ _,?_⟩
    have h4:(upd H3 tr (.lst ((tl r++[V.bl a])++[V.bl b]).dropLast)) tr=some (.lst (tl r++[V.bl a])):=by rw[upd_same,List.dropLast_concat]
    have s4:Same H (upd H3 tr (.lst ((tl r++[V.bl a])++[V.bl b]).dropLast)):=same_put s3 htr _
    have p4:(upd H3 tr (.lst ((tl r++[V.bl a])++[V.bl b]).dropLast)) p=some (.tup [.str (jn j),c1,c2]):=by rw[upd_ne (ne_of hpt h3 (by intro z;cases z))];exact hpt
    revert h4 s4 p4
    generalize upd H3 tr (.lst ((tl r++[V.bl a])++[V.bl b]).dropLast)=H4
    intro h4 s4 p4
    refine⟨_,rfl,.inl ⟨rfl,_,SqL.of h4⟩,tr,_,_,rfl,rfl,h4,last_at _ _,?_⟩
    have h5:(upd H4 tr (.lst (tl r++[V.bl a]).dropLast)) tr=some (.lst (tl r)):=by rw[upd_same,List.dropLast_concat]
    have s5:Same H (upd H4 tr (.lst (tl r++[V.bl a]).dropLast)):=same_put s4 htr _
    have p5:(upd H4 tr (.lst (tl r++[V.bl a]).dropLast)) p=some (.tup [.str (jn j),c1,c2]):=by rw[upd_ne (ne_of p4 h4 (by intro z;cases z))];exact p4
    revert h5 s5 p5
    generalize upd H4 tr (.lst (tl r++[V.bl a]).dropLast)=H5
    intro h5 s5 p5
    refine⟨_,rfl,.inl ⟨rfl,_,SqL.of h5⟩,_,rfl,p,_,_,_,rfl,rfl,SqT.of p5,atI_nat (j:=0) rfl,_,rfl,_,rfl,j,a,b,rfl,?_⟩
    refine⟨tr,_,_,rfl,rfl,h5,small1000 (by rw[tl_len];omega),?_⟩
    refine⟨_,_,_,jv j a b::r,rfl,same_put s5 htr _,?_,by show r.length+1≤i+1;omega,hrun⟩
    rw[upd_same,tl_cons]
 ·rintro σ H3 ⟨v0,v1,v2,rs,rfl,s3,h3,hlr,hrun⟩
  rw[hlen,List.drop_length] at hrun
  cases hrun
  exact⟨_,rfl,tr,_,_,_,rfl,rfl,SqL.of h3,atI_nat (j:=0) rfl,q _ s3⟩
end
abbrev sWorldsOf:Stmt:=top 24
def spWorldsOfP (K:PySem.W.Frag):Sp:=fun vs H Q _=>∃(v:V) (t:Tr) (r:Addr) (row:List Int),vs=[v,.ref r]∧t.At H v∧t.ok 5∧t.size≤800∧SqL K H r (row.map V.int)∧Wr row∧∀(l:Addr) (H':Hp),Same H H'→H l=none→RowAt H' l (row.filter fun k=>tv t k == true)→Q (.ref l) H'
section
variable {P:Program} {w:World} {K:PySem.W.Frag} {mg:Str→Option Value} {base:Heap} {f:Addr} {fd:FuncData}
theorem scWorldsOf:FnScope ["sentence","room","steps"] ["sentence","room"] (defScope sWorldsOf):=⟨rfl,rfl,rfl,by decide +kernel,rfl,by decide +kernel,by decide +kernel⟩
theorem ok_worldsof {g g2:Addr} {gd gd2:FuncData} (F:Fun K "worlds_of" "worlds_of" sWorldsOf f fd) (GS:FnOk P w K mg base CX0 2 g gd ["sentence"] spSteps) (CS:Cal K mg "steps_of" g gd ["sentence"])
  (GB:FnOk P w K mg base CX0 2 g2 gd2 ["steps","world"] spTrueBy) (CB:Cal K mg "true_by" g2 gd2 ["steps","world"]):FnOk P w K mg base CX0 3 f fd ["sentence","room"] (spWorldsOfP K):=by
 refine F.ok scWorldsOf (fun vs H Q E h=>?_) (fun cdv A outer s H vs Q E hr h=>?_)
 ·obtain⟨v,t,r,row,rfl,_⟩:=h
  rfl
 obtain⟨v,t,r,row,rfl,ha,hok,hs,hS,hwr,q⟩:=h
 have hl:=hwr.len
 refine⟨_,pss_cons (ps_set (i:=2) scWorldsOf.nd rfl (Or.inr rfl) (pe_call GS hr (by rfl) CS.m CS.k CS.b .nil pass0 (pa_cons (pv 0) pa_nil)))
  (pss_one (ps_ret (pe_comp1 (N:=["world","steps"]) (js:=[none,some 2]) (cl:=[("steps",s.heap.objs.size+1)]) ⟨rfl,rfl,rfl,(by intro p hp;simp at hp;rcases hp with rfl<;>rfl),rfl,rfl,rfl⟩ (pi_list (pv 1)) (fun c1=>(pg_name (i:=0) (show (["world","steps"]:List Str).Nodup by decide +kernel) rfl (Or.inl rfl))) (fun c1=>(pts_one (pt_val (pe_call GB hr (by rfl) CB.m CB.k CB.b .nil pass0 (pa_cons (pv 1) (pa_cons (pv 0) pa_nil)))))) (fun c1=>(pv 0))))),?_⟩
 refine⟨_,rfl,v,t,rfl,ha,hs,fun st ys H1 s1 hst0 hst hp=>?_⟩
 refine⟨_,rfl,r,rfl,⟨_,s1.seq hS⟩,fun cc acc hacc=>comp_filter (p:=fun k=>tv t k == true) (rest:=[some (.ref st)]) (s1.seq hS) hacc (by omega) (fun k hk H2 s2 R hR=>?_) (fun v0 H2 s2 h2=>q acc H2 (s1.trans s2) (s1.free hacc) h2) none⟩
 refine⟨_,rfl,_,rfl,st,ys,t,k,rfl,s2 _ _ hst,hp.keep (TS.same s2),hok,hs,fun H3 s3=>⟨_,rfl,?_⟩⟩
 have:=hR H3 s3
 rw[show (tv t k == true)=tv t k by cases tv t k<;>rfl] at this
 exact this
end
abbrev sAllW:Stmt:=top 25
section
variable {P:Program} {w:World} {K:PySem.W.Frag} {mg:Str→Option Value} {base:Heap} {f:Addr} {fd:FuncData}
theorem scAllW:FnScope ["many"] ["many"] (defScope sAllW):=⟨rfl,rfl,rfl,by decide +kernel,rfl,by decide +kernel,by decide +kernel⟩
theorem ok_allw (F:Fun K "all_worlds" "all_worlds" sAllW f fd) (T:BTx mg):FnOk P w K mg base CX0 1 f fd ["many"] spWorlds:=by
 refine F.ok scAllW (fun vs H Q E h=>?_) (fun cdv A outer s H vs Q E hr h=>?_)
 ·obtain⟨m,rfl,_⟩:=h
  rfl
 obtain⟨m,rfl,h1,h5,q⟩:=h
 refine⟨_,pss_one (ps_ret (pe_callTy (call_listR rfl) (by rfl) T.lst boot_lst (pa_cons (pe_callTy call_rng1 (by rfl) T.rng boot_range (pa_cons (pe_op op_shl pe_int (pv 0)) pa_nil)) pa_nil))),?_⟩
 have e:(1:Int)*2^((m:Int)).toNat=((2^m:Nat):Int):=by rw[Int.one_mul,Int.toNat_natCast,Int.natCast_pow];rfl
 refine⟨_,rfl,_,_,rfl,rfl,⟨by omega,by omega,by decide⟩,_,rfl,fun r hr2=>?_⟩
 have s2:=same_new hr2 (.rng 0 ((1:Int)*2^((m:Int)).toNat))
 refine⟨r,2^m,rfl,(by rw[upd_same];show some (HO.rng 0 ((1:Int)*2^((m:Int)).toNat))=_;rw[e]),Nat.le_trans (two_le h5) (by decide),fun l2 hl2=>?_⟩
 have s3:=same_new hl2 (.lst ((upto (2^m)).map V.int))
 exact q l2 _ (s2.trans s3) (s2.free hl2) upd_same
end
abbrev sFirst:Stmt:=top 11
def spFirst (K:PySem.W.Frag):Sp:=fun vs H Q _=>∃(a b:Addr) (one other:List Int),vs=[.ref a,.ref b]∧SqL K H a (one.map V.int)∧SqL K H b (other.map V.int)∧one.length≤32∧(∀k∈one,0≤k∧k<32)∧other.length≤900∧
 ∀(l:Addr) (H':Hp) (ns:List Int),Same H H'→H l=none→ns.Pairwise (· < ·)→(∀k,k∈ns↔k∈one∧k∉other)→RowAt H' l ns→Q (.ref l) H'
section
variable {P:Program} {w:World} {K:PySem.W.Frag} {mg:Str→Option Value} {base:Heap} {f:Addr} {fd:FuncData}
theorem scFirst:FnScope ["one","other"] ["one","other"] (defScope sFirst):=⟨rfl,rfl,rfl,by decide +kernel,rfl,by decide +kernel,by decide +kernel⟩
theorem ok_first (F:Fun K "in_first_only" "in_first_only" sFirst f fd) (T:BTx mg):FnOk P w K mg base CX0 1 f fd ["one","other"] (spFirst K):=by
 refine F.ok scFirst (fun vs H Q E h=>?_) (fun cdv A outer s H vs Q E hr h=>?_)
 ·obtain⟨a,b,one,other,rfl,_⟩:=h
  rfl
 obtain⟨a,b,one,other,rfl,ha,hb,hl1,h32,hl2,q⟩:=h
 refine⟨_,pss_one (ps_ret (pe_callB (call_sortedR rfl) (by rfl) T.sorted boot_sorted (pa_cons (pe_op op_subS (pe_callTy (call_setL rfl) (by rfl) T.set boot_set (pa_cons (pv 0) pa_nil)) (pe_callTy (call_setL rfl) (by rfl) T.set boot_set (pa_cons (pv 1) pa_nil))) pa_nil))),?_⟩
 refine⟨_,rfl,a,one,rfl,ha,by omega,fun a1 ha1=>?_⟩
 have s1:=same_new ha1 (SetO w a1 (fun k=>decide (k∈one)) one.length)
 refine⟨_,rfl,b,other,rfl,s1.seq hb,by omega,fun b1 hb1=>?_⟩
 have s2:=same_new hb1 (SetO w b1 (fun k=>decide (k∈other)) other.length)
 refine⟨a1,b1,_,_,_,_,rfl,rfl,s2 _ _ upd_same,upd_same,fun e=>?_,hl1,by omega,fun k hk=>h32 k (of_decide_eq_true hk),fun r hr1=>?_⟩
 ·subst e
  rw[upd_same] at hb1
  cases hb1
 have s3:=same_new hr1 (SetR w r (fun k=>decide (k∈one) && !decide (k∈other)) one.length)
 refine⟨r,_,_,rfl,upd_same,by omega,fun l ns hl hp hm=>?_⟩
 have s4:=same_new hl (.lst (ns.map V.int))
 exact q l _ ns (s1.trans (s2.trans (s3.trans s4))) ((s1.trans (s2.trans s3)).free hl) hp (fun k=>by rw[hm k,Bool.and_eq_true,decide_eq_true_eq,Bool.not_eq_true',decide_eq_false_iff_not]) upd_same
end
abbrev sAny:Stmt:=top 12
def lens (rs:List (List Int)):Nat:=(rs.map List.length).sum
def spAny (K:PySem.W.Frag):Sp:=fun vs H Q _=>∃(a:Addr) (xs:List V) (rs:List (List Int)),vs=[.ref a]∧SqL K H a xs∧RowsAt H xs rs∧lens rs<64∧
 ∀(l:Addr) (H':Hp) (ns:List Int),Same H H'→H l=none→ns.Pairwise (· < ·)→(∀k,k∈ns↔∃row∈rs,k∈row)→RowAt H' l ns→Q (.ref l) H'
theorem yesC {tb:TS} {D:Ends} {σ:L2.St} {H:Hp} (h:tb D σ H):tIfC tYes tb D σ H:=by
 show if true=true then tb D σ H else D.nx σ H
 rw[if_pos rfl]
 exact h
theorem lens_take {rs:List (List Int)} {i:Nat} {row:List Int} (h:rs[i]? = some row):lens (rs.take (i+1))=lens (rs.take i)+row.length:=by
 have e:rs.take (i+1)=rs.take i++[row]:=by rw[List.take_add_one,h];rfl
 unfold lens
 rw[e,List.map_append,List.sum_append]
 simp
theorem lens_le {rs:List (List Int)} {i:Nat}:lens (rs.take i)≤lens rs:=by
 have e:=List.take_append_drop i rs
 have:lens rs=lens (rs.take i)+lens (rs.drop i):=by
  conv=>lhs;rw[←e]
  unfold lens
  rw[List.map_append,List.sum_append]
 omega
section
variable {P:Program} {w:World} {K:PySem.W.Frag} {mg:Str→Option Value} {base:Heap} {f:Addr} {fd:FuncData}
theorem scAny:FnScope ["rows"] ["rows"] (defScope sAny):=⟨rfl,rfl,rfl,by decide +kernel,rfl,by decide +kernel,by decide +kernel⟩
set_option maxHeartbeats 4000000 in
theorem ok_any (F:Fun K "in_any" "in_any" sAny f fd) (T:BTx mg):FnOk P w K mg base CX0 1 f fd ["rows"] (spAny K):=by
 refine F.ok scAny (fun vs H Q E h=>?_) (fun cdv A outer s H vs Q E hr h=>?_)
 ·obtain⟨a,xs,rs,rfl,_⟩:=h
  rfl
 obtain⟨a,xs,rs,rfl,hS,hR,h64,q⟩:=h
 refine⟨_,pss_one (ps_ret (pe_callB (call_sortedS rfl) (by rfl) T.sorted boot_sorted (pa_cons (pe_scomp2 (N:=["row","world"]) (js:=[none,none]) (cl:=[]) ⟨rfl,rfl,rfl,List.forall_mem_nil _,rfl,rfl,rfl⟩ (pi_list (pv 0)) (fun c1=>(pg_name (i:=0) (show (["row","world"]:List Str).Nodup by decide +kernel) rfl (Or.inl rfl))) (fun c1=>pts_nil) (fun c1=>(pi_list (pv 0))) (fun c1=>(pg_name (i:=1) (show (["row","world"]:List Str).Nodup by decide +kernel) rfl (Or.inl rfl))) (fun c1=>pts_nil) (fun c1=>(pv 1))) pa_nil))),?_⟩
 refine⟨_,rfl,a,rfl,⟨_,hS⟩,fun cc acc hacc=>for_list (K:=K) (a:=a) (xs:=xs) (fun i σ H2=>∃(v0 v1:Option V) (S:Int→Bool) (n:Nat),σ=[v0,v1]∧Same H H2∧H2 acc=some (SetO w acc S n)∧(∀k,S k=true↔∃row∈rs.take i,k∈row)∧n≤lens (rs.take i)) ?_ ?_ ?_ ?_⟩
 ·exact⟨none,none,_,0,rfl,same_new hacc _,upd_same,fun k=>by simp,Nat.zero_le _⟩
 ·rintro i σ H2 _ ⟨v0,v1,S,n,rfl,s2,_⟩
  exact s2.seq hS
 ·rintro i x σ H2 hx ⟨v0,v1,S,n,rfl,s2,ha2,hm2,hn2⟩
  obtain⟨row,p,hrow,rfl,hp⟩:=hR.get hx
  have hlt:=lens_take hrow
  have hle:=lens_le (rs:=rs) (i:=i+1)
  refine yesC ?_
  refine⟨_,rfl,p,rfl,⟨_,SqL.of (s2 _ _ hp)⟩,for_list (K:=K) (a:=p) (xs:=row.map V.int) (fun j σ H3=>∃(v1:Option V) (S:Int→Bool) (n:Nat),σ=[some (.ref p),v1]∧Same H H3∧H3 acc=some (SetO w acc S n)∧(∀k,S k=true↔(∃row∈rs.take i,k∈row)∨k∈row.take j)∧n≤lens (rs.take i)+j) ?_ ?_ ?_ ?_⟩
  ·exact⟨_,S,n,rfl,s2,ha2,fun k=>by rw[hm2 k];simp,hn2⟩
  ·rintro j σ H3 _ ⟨v1,S,n,rfl,s3,_⟩
   exact SqL.of (s3 _ _ hp)
  ·rintro j u σ H3 hu ⟨v1,S,n,rfl,s3,ha3,hm3,hn3⟩
   rw[List.getElem?_map] at hu
   obtain⟨k0,hk0,rfl⟩:=Option.map_eq_some_iff.mp hu
   have hj:=(List.getElem?_eq_some_iff.mp hk0).1
   have et:row.take (j+1)=row.take j++[k0]:=by rw[List.take_add_one,hk0];rfl
   show tEmitS w acc (tVar 1) _ _ _
   refine⟨_,rfl,k0,S,n,rfl,ha3,by omega,?_⟩
   refine⟨_,_,n+1,rfl,same_put s3 hacc _,upd_same,fun k=>?_,by omega⟩
   rw[Bool.or_eq_true,hm3 k,decide_eq_true_eq,et,List.mem_append,List.mem_singleton,or_assoc]
  ·rintro σ H3 ⟨v1,S,n,rfl,s3,ha3,hm3,hn3⟩
   rw[List.length_map] at hm3 hn3
   rw[List.take_length] at hm3
   refine⟨_,_,S,n,rfl,s3,ha3,fun k=>?_,by omega⟩
   have e:rs.take (i+1)=rs.take i++[row]:=by rw[List.take_add_one,hrow];rfl
   rw[hm3 k,e]
   constructor
   ·rintro (⟨r,h1,h2⟩|h)
    ·exact⟨r,List.mem_append_left _ h1,h2⟩
    ·exact⟨row,List.mem_append_right _ List.mem_cons_self,h⟩
   ·rintro⟨r,h1,h2⟩
    rcases List.mem_append.mp h1 with z | z
    ·exact .inl ⟨r,z,h2⟩
    ·rw[List.mem_singleton.mp z] at h2;exact .inr h2
 ·rintro σ H2 ⟨v0,v1,S,n,rfl,s2,ha2,hm2,hn2⟩
  rw[hR.len,List.take_length] at hm2 hn2
  refine⟨acc,S,n,rfl,ha2,by omega,fun l ns hl hp hm=>?_⟩
  have s4:=same_new hl (.lst (ns.map V.int))
  exact q l _ ns (s2.trans s4) (s2.free hl) hp (fun k=>by rw[hm k,hm2 k]) upd_same
end
def mkV:Option Bool→V
 | none=>.non
 | some b=>.bl b
def mok (w:Int) (i:Nat):Option Bool→Bool
 | none=>true
 | some b=>decide (b=bitv i w)
def agr (marks:List (Option Bool)) (w:Int):Bool:=(marks.mapIdx (mok w)).all id
abbrev sBaseOf:Stmt:=top 30
section
variable {P:Program} {w:World} {K:PySem.W.Frag} {mg:Str→Option Value} {base:Heap} {f:Addr} {fd:FuncData}
theorem scBaseOf:FnScope ["sides"] ["sides"] (defScope sBaseOf):=⟨rfl,rfl,rfl,by decide +kernel,rfl,by decide +kernel,by decide +kernel⟩
theorem ok_baseof {g:Addr} {gd:FuncData} (F:Fun K "base_of" "base_of" sBaseOf f fd) (GA:FnOk P w K mg base CX0 1 g gd ["rows"] (spAny K)) (CA:Cal K mg "in_any" g gd ["rows"]):FnOk P w K mg base CX0 2 f fd ["sides"] (spAny K):=by
 refine F.ok scBaseOf (fun vs H Q E h=>?_) (fun cdv A outer s H vs Q E hr h=>?_)
 ·obtain⟨a,xs,rs,rfl,_⟩:=h
  rfl
 obtain⟨a,xs,rs,rfl,hS,hR,h64,q⟩:=h
 refine⟨_,pss_one (ps_ret (pe_call GA hr (by rfl) CA.m CA.k CA.b .nil pass0 (pa_cons (pv 0) pa_nil))),?_⟩
 exact⟨_,rfl,a,xs,rs,rfl,hS,hR,h64,q⟩
end
theorem lens_sides {z:Str} {t:Tr} {row:List Int}:lens (sidesR z t row)≤row.length:=by
 have h:=ins_outs t row
 unfold sidesR lens
 split
 ·simp only[List.map_cons,List.map_nil,List.sum_cons,List.sum_nil];omega
 ·split
  ·simp only[List.map_cons,List.map_nil,List.sum_cons,List.sum_nil];omega
  ·simp only[List.map_cons,List.map_nil,List.sum_cons,List.sum_nil];omega
theorem baseR_is {room ns:List Int} {sides:List (List Int)} (hr:Wr room) (hs:∀s∈sides,s.Sublist room) (hp:ns.Pairwise (· < ·)) (hm:∀k,k∈ns↔∃row∈sides,k∈row):ns=baseR room sides:=
 up_same hp (hr.1.sublist List.filter_sublist) fun k=>by
  rw[hm k]
  unfold baseR
  rw[List.mem_filter,List.any_eq_true]
  constructor
  ·rintro⟨r,h1,h2⟩
   exact⟨(hs r h1).subset h2,r,h1,decide_eq_true h2⟩
  ·rintro⟨_,r,h1,h2⟩
   exact⟨r,h1,of_decide_eq_true h2⟩
structure OwnX (K:PySem.W.Frag) (mg:Str→Option Value) (nm:Str) (C cT:Addr):Prop where
 at_:XAt K C cT
 cls:XCls K C cT none
 m:mg nm=some (.ref C)
 ty:PySem.W.typeIn K (.ref C)=some (.type "type")
 ic:(PySem.W.clsIn K C).isSome=true
 bs:PySem.W.mroIn K C (.type "BaseException")=some true
 slf:PySem.W.mroIn K C (.ref C)=some true
 up:PySem.W.mroIn K C (.ref cT)=some true
 kv:PySem.W.kitOne K (.ref C) (.type "ValueError")=some true
structure TopX (K:PySem.W.Frag) (mg:Str→Option Value) (cT:Addr):Prop where
 m:mg "TalkError"=some (.ref cT)
 ty:PySem.W.typeIn K (.ref cT)=some (.type "type")
 ic:(PySem.W.clsIn K cT).isSome=true
 bs:PySem.W.mroIn K cT (.type "BaseException")=some true
 mV:mg "ValueError"=none
 isi:mg "isinstance"=none
structure ApX (K:PySem.W.Frag) (C D:Addr):Prop where
 mro:PySem.W.mroIn K C (.ref D)=some false
 kit:PySem.W.kitOne K (.ref C) (.ref D)=some false
theorem xcls_mk0 {K:PySem.W.Frag} {C cT N NT:Addr} {nm q nm2 q2:Str} {bs bs2:List Value} {hd2:Bool} {sn sn2:List Str} {sub sub2:List Value} {ab ab2:Bool} {col col2:Option Bool} {dd dd2:Option Addr} {k0 k1 k2 k3 k5:Option Value} {j0 j1 j2 j3 j4 j5:Option Value}
  {oc oc2:Value} {od od2:Option Addr} {es es2:Array DictEntry} {ep ep2:Nat} {sl sl2:Array (Option Value)}
  (lC:K.lookup C=some (excClassObj nm q C N bs (.ref cT::bmV) true sn sub ab col dd k0 k1 k2 k3 k5 "ValueError.__new__")) (lN:K.lookup N=some ⟨oc,od,.dict es ep,sl⟩) (sN:(es.all fun e=>match e.key with | .str _ _=>true | _=>false)=true)
  (iN:PySem.W.nsIn K N "__init__"=some none) (lT:K.lookup cT=some ⟨.type "type",dd2,.cls { name:=nm2,bases:=bs2,mro:=.ref cT::bmV,ns:=NT,qualname:=q2,hasDict:=hd2,slotNames:=sn2,subclasses:=sub2,abstract:=ab2,collection:=col2,hasDel:=false },#[j0,j1,j2,j3,j4,j5]⟩)
  (lNT:K.lookup NT=some ⟨oc2,od2,.dict es2 ep2,sl2⟩) (sNT:(es2.all fun e=>match e.key with | .str _ _=>true | _=>false)=true) (iNT:PySem.W.nsIn K NT "__init__"=some none) (kp:PySem.W.keepIn K (.ref C)=true):XCls K C cT none:=
 ⟨⟨nm,q,N,bs,true,sn,sub,ab,col,dd,k0,k1,k2,k3,k5,lC,nsOk_of lN sN,iN⟩,tail_one lT (nsOk_of lNT sNT) iNT,kp⟩
theorem Fun.okX {P:Program} {w:World} {K:PySem.W.Frag} {mg:Str→Option Value} {base:Heap} {f:Addr} {fd:FuncData} {x qual:Str} {st:Stmt} {N ps:List Str} {k:Nat} {sp:Sp} (F:Fun K x qual st f fd) (S:FnScope N ps (defScope st)) (len:∀vs H Q E,sp vs H Q E→vs.length=ps.length)
  (hbody:∀(cdv:Value) (A:Around) (outer:List Env) (s:Shared) (H:Hp) (vs:List V) (Q:VK) (E:XK),Room k (A.deeper (envOfC qual (defScope st) s.heap.objs.size f cdv))→sp vs H Q E→
   ∃t,PSs (cxOf (CXE P w) P w K mg base N qual (defScope st) f cdv A outer s H E) (defBody st) t∧t { nx:=fun _ H'=>Q .non H',rt:=Q } (start N vs) H):FnOk P w K mg base (CXE P w) (k+1) f fd ps sp:=by
 obtain⟨oc,od,kV,doc,pm,an,cdv,ct,osl,rfl,lk,hcd⟩:=F.ex
 exact fn_of lk hcd S len fun A outer s H vs Q E hr hsp=>hbody cdv A outer s H vs Q E hr hsp
abbrev sSidesOf:Stmt:=top 29
def isKind (z:Str):Prop:=z="true"∨z="false"∨z="doubt"
instance (z:Str):Decidable (isKind z):=by unfold isKind;infer_instance
abbrev RowsNew (H H':Hp):List V→List (List Int)→Prop:=Paired fun (v:V) (row:List Int)=>∃p,v= .ref p∧H p=none∧RowAt H' p row
theorem RowsNew.at {H H':Hp}:∀{xs:List V} {rs:List (List Int)},RowsNew H H' xs rs→RowsAt H' xs rs
 | _,_,.nil=>.nil
 | _,_,.cons ⟨p,e,_,h⟩ q=>.cons ⟨p,e,h⟩ (RowsNew.at q)
theorem RowsNew.keep {H H' H2:Hp} (s:Same H' H2):∀{xs:List V} {rs:List (List Int)},RowsNew H H' xs rs→RowsNew H H2 xs rs
 | _,_,.nil=>.nil
 | _,_,.cons ⟨p,e,n,h⟩ q=>.cons ⟨p,e,n,s _ _ h⟩ (RowsNew.keep s q)
def spSidesOf (K:PySem.W.Frag) (cB cN:Addr):Sp:=fun vs H Q E=>∃(r:Addr) (z:Str) (v:V) (t:Tr) (row:List Int),vs=[.ref r,.str z,v]∧t.At H v∧t.ok 5∧t.size≤800∧SqL K H r (row.map V.int)∧Wr row∧
 (¬isKind z→∀H',Same H H'→E (.ref cB) none H')∧(isKind z→[]∈sidesR z t row→∀H',Same H H'→E (.ref cN) none H')∧
 (isKind z→[]∉sidesR z t row→∀(l:Addr) (xs:List V) (H':Hp),Same H H'→H l=none→H' l=some (.lst xs)→RowsNew H H' xs (sidesR z t row)→(∀x∈xs,x≠.ref l)→Q (.ref l) H')
def kindsP:List V:=[.str "true",.str "false",.str "doubt"]
theorem kindsP_in (z:Str):inV (.str z) kindsP=decide (isKind z):=by
 unfold inV kindsP isKind
 simp only[List.any_cons,List.any_nil,Bool.or_false]
 have e:∀y:Str,eqV (.str y) (.str z)=decide (z=y):=fun y=>by
  show (y == z)=decide (z=y)
  by_cases h:z=y
  ·subst h;simp
  ·rw[decide_eq_false h]
   exact beq_false_of_ne fun q=>h q.symm
 rw[e,e,e,Bool.eq_iff_iff]
 simp only[Bool.or_eq_true,decide_eq_true_eq]
 exact decide_eq_true_iff.symm
theorem outs_is {t:Tr} {row ns:List Int} (hr:Wr row) (hp:ns.Pairwise (· < ·)) (hm:∀k,k∈ns↔k∈row∧k∉row.filter fun k=>tv t k == true):ns=insR false t row:=
 up_same hp (hr.1.sublist List.filter_sublist) fun k=>by
  rw[hm k]
  unfold insR
  rw[List.mem_filter,List.mem_filter]
  constructor
  ·rintro⟨h1,h2⟩
   refine⟨h1,?_⟩
   cases h:tv t k with
   | false=>rfl
   | true=>exact absurd ⟨h1,by rw[h];rfl⟩ h2
  ·rintro⟨h1,h2⟩
   refine⟨h1,fun h3=>?_⟩
   have e1:=h3.2
   have e2:tv t k=false:=eq_of_beq h2
   rw[e2] at e1
   cases e1
theorem empty_ints {r:List Int}:(r.map V.int).isEmpty=r.isEmpty:=by cases r<;>rfl
theorem any_empty (rs:List (List Int)):(rs.map List.isEmpty).any id=decide ([]∈rs):=by
 induction rs with
 | nil=>rfl
 | cons r rs ih=>
  rw[List.map_cons,List.any_cons,ih]
  cases r with
  | nil=>simp
  | cons a b=>simp
theorem rows_emp {K:PySem.W.Frag} {H:Hp} {xs:List V} {rs:List (List Int)} (h:RowsAt H xs rs):∀(i:Nat) v b,xs[i]? = some v→(rs.map List.isEmpty)[i]? = some b→∃a zs,v= .ref a∧SqL K H a zs∧b=zs.isEmpty:=fun i v b hv hb=>by
 obtain⟨row,p,hr,rfl,hp⟩:=h.get hv
 rw[List.getElem?_map,hr] at hb
 refine⟨p,_,rfl,SqL.of hp,?_⟩
 rw[empty_ints]
 exact (Option.some.inj hb).symm
section
variable {P:Program} {w:World} {K:PySem.W.Frag} {mg:Str→Option Value} {base:Heap} {f:Addr} {fd:FuncData} {cB cN cT:Addr}
theorem scSidesOf:FnScope ["room","kind","sentence","inside","outside","sides"] ["room","kind","sentence"] (defScope sSidesOf):=⟨rfl,rfl,rfl,by decide +kernel,rfl,by decide +kernel,by decide +kernel⟩
set_option maxHeartbeats 4000000 in
theorem ok_sidesof {g g2:Addr} {gd gd2:FuncData} (F:Fun K "sides_of" "sides_of" sSidesOf f fd) (XB:OwnX K mg "BadWord" cB cT) (XN:OwnX K mg "NoStanding" cN cT)
  (GW:FnOk P w K mg base CX0 3 g gd ["sentence","room"] (spWorldsOfP K)) (CW:Cal K mg "worlds_of" g gd ["sentence","room"])
  (GF:FnOk P w K mg base CX0 1 g2 gd2 ["one","other"] (spFirst K)) (CF:Cal K mg "in_first_only" g2 gd2 ["one","other"]):FnOk P w K mg base (CXE P w) 4 f fd ["room","kind","sentence"] (spSidesOf K cB cN):=by
 refine Fun.okX F scSidesOf (fun vs H Q E h=>?_) (fun cdv A outer s H vs Q E hr h=>?_)
 ·obtain⟨r,z,v,t,row,rfl,_⟩:=h
  rfl
 obtain⟨r,z,v,t,row,rfl,ha,hok,hsz,hS,hwr,qB,qN,qO⟩:=h
 have hr1:Room 1 _:=hr.mono (by decide)
 have hl:=hwr.len
 refine⟨_,pss_cons (ps_if (pt_cmpR op_notIn_seq (pv 1) (pe_tup (pa_cons pe_str (pa_cons pe_str (pa_cons pe_str pa_nil)))) (by with_unfolding_all rfl))
   (pss_one (ps_raise0 (Ex:=E) lets_own rfl XB.cls XB.at_ XB.ty (by rfl) XB.m (pa_cons pe_str pa_nil) (hvl:=fun _ _ _ h=>⟨by decide,h⟩)))
   pss_nil)
  (pss_cons (ps_set (i:=3) scSidesOf.nd rfl (Or.inl rfl) (pe_call GW hr (by rfl) CW.m CW.k CW.b .nil pass0 (pa_cons (pv 2) (pa_cons (pv 0) pa_nil))))
  (pss_cons (ps_set (i:=4) scSidesOf.nd rfl (Or.inl rfl) (pe_call GF hr1 (by rfl) CF.m CF.k CF.b .nil pass0 (pa_cons (pv 0) (pa_cons (pv 3) pa_nil))))
  (pss_cons (ps_if (pt_cmpR op_eq (pv 1) pe_str (nomark _))
   (pss_one (ps_set (i:=5) scSidesOf.nd rfl (Or.inl rfl) (pe_lst (pa_cons (pv 3) pa_nil))))
   (pss_one (ps_if (pt_cmpR op_eq (pv 1) pe_str (nomark _))
    (pss_one (ps_set (i:=5) scSidesOf.nd rfl (Or.inl rfl) (pe_lst (pa_cons (pv 4) pa_nil))))
    (pss_one (ps_set (i:=5) scSidesOf.nd rfl (Or.inl rfl) (pe_lst (pa_cons (pv 3) (pa_cons (pv 4) pa_nil))))))))
  (pss_cons (ps_if (pt_cmpR (op_inE hr.units9) (pe_lst pa_nil) (pv 5) (by with_unfolding_all rfl))
   (pss_one (ps_raise0 (Ex:=E) lets_own rfl XN.cls XN.at_ XN.ty (by rfl) XN.m (pa_cons pe_str pa_nil) (hvl:=fun _ _ _ h=>⟨by decide,h⟩)))
   pss_nil)
  (pss_one (ps_ret (pv 5))))))),?_⟩
 refine⟨_,rfl,le3,fun kt hkt=>?_⟩
 have s1:=same_new hkt (.tup kindsP)
 refine⟨kt,kindsP,rfl,.inr (SqT.of upd_same),rfl,rfl,_,rfl,?_⟩
 show if (!inV (.str z) kindsP)=true then _ else _
 rw[kindsP_in]
 by_cases hk:isKind z
 rotate_left
 ·refine iteNN hk ?_
  exact qB hk _ s1
 refine iteNS hk ?_
 have a1:=ha.keep (TS.same s1)
 refine⟨_,rfl,_,rfl,v,t,r,row,rfl,a1,hok,hsz,s1.seq hS,hwr,fun il H2 s2 hil0 hil=>?_⟩
 have t2:=s1.trans s2
 have hfl:(row.filter fun k=>tv t k == true).length≤32:=Nat.le_trans (List.length_filter_le _ _) hl
 refine⟨_,rfl,_,rfl,r,il,row,_,rfl,t2.seq hS,SqL.of hil,hl,hwr.2,by omega,fun ol H3 ns s3 hol0 hp hm hol=>?_⟩
 have en:=outs_is hwr hp hm
 subst en
 have t3:=t2.trans s3
 have hil3:RowAt H3 il (insR true t row):=s3 _ _ hil
 have nil0:H il=none:=s1.free hil0
 have nol0:H ol=none:=t2.free hol0
 have nio:il≠ol:=ne_of_none hil hol0
 have fin:∀(sl:Addr) (xs:List V) (H4:Hp),Same H3 H4→H3 sl=none→H4 sl=some (.lst xs)→RowsNew H H4 xs (sidesR z t row)→(∀x∈xs,x≠.ref sl)→∀(e:Addr),H4 e=none→∀(G:Bool→Hp→Prop),(∀H',E (.ref cN) none H'→G true H')→(∀H',Q (.ref sl) H'→G false H')→
   rInE K (.ref e) (.ref sl) (upd H4 e (.lst [])) (fun x H'=>∃k,x=V.bl k∧G k H'):=fun sl xs H4 s4 hsl0 hsl hR hne e he G g1 g2=>by
  have s5:=same_new he (.lst [])
  refine⟨e,sl,xs,(sidesR z t row).map List.isEmpty,rfl,rfl,SqL.of upd_same,SqL.of (s5 _ _ hsl),?_,rows_emp (hR.at.keep s5),_,rfl,?_⟩
  ·rw[List.length_map];exact hR.at.len.symm
  ·rw[any_empty]
   by_cases hm0:[]∈sidesR z t row
   ·rw[decide_eq_true hm0]
    exact g1 _ (qN hk hm0 _ (t3.trans (s4.trans s5)))
   ·rw[decide_eq_false hm0]
    refine g2 _ ?_
    exact qO hk hm0 sl xs _ (t3.trans (s4.trans s5)) (t3.free hsl0) (s5 _ _ hsl) (hR.keep s5) hne
 refine⟨_,rfl,rfl,_,rfl,?_⟩
 by_cases h0:z="true"
 ·refine iteY (by rw[h0]) ?_
  refine⟨_,rfl,le1,fun sl hsl=>?_⟩
  have s4:=same_new hsl (.lst [.ref il])
  refine⟨le0,fun e he=>?_⟩
  have eR:sidesR z t row=[insR true t row]:=by unfold sidesR;rw[if_pos h0]
  exact⟨_,rfl,fin sl [.ref il] _ s4 hsl upd_same (by rw[eR];exact .cons ⟨il,rfl,nil0,s4 _ _ hil3⟩ .nil) (fun x hx=>by rw[List.mem_singleton.mp hx];intro q;exact ne_of_none hil3 hsl (V.ref.inj q)) e he _ (fun H' h=>iteT h) (fun H' h=>iteF ⟨_,rfl,h⟩)⟩
 refine iteN (fun q=>h0 (by injection q)) ?_
 refine⟨_,rfl,rfl,_,rfl,?_⟩
 by_cases h1:z="false"
 ·refine iteY (by rw[h1]) ?_
  refine⟨_,rfl,le1,fun sl hsl=>?_⟩
  have s4:=same_new hsl (.lst [.ref ol])
  refine⟨le0,fun e he=>?_⟩
  have eR:sidesR z t row=[insR false t row]:=by unfold sidesR;rw[if_neg h0,if_pos h1]
  exact⟨_,rfl,fin sl [.ref ol] _ s4 hsl upd_same (by rw[eR];exact .cons ⟨ol,rfl,nol0,s4 _ _ hol⟩ .nil) (fun x hx=>by rw[List.mem_singleton.mp hx];intro q;exact ne_of_none hol hsl (V.ref.inj q)) e he _ (fun H' h=>iteT h) (fun H' h=>iteF ⟨_,rfl,h⟩)⟩
 refine iteN (fun q=>h1 (by injection q)) ?_
 refine⟨_,rfl,_,rfl,le2,fun sl hsl=>?_⟩
 have s4:=same_new hsl (.lst [.ref il,.ref ol])
 refine⟨le0,fun e he=>?_⟩
 have eR:sidesR z t row=[insR true t row,insR false t row]:=by unfold sidesR;rw[if_neg h0,if_neg h1]
 refine⟨_,rfl,fin sl [.ref il,.ref ol] _ s4 hsl upd_same (by rw[eR];exact .cons ⟨il,rfl,nil0,s4 _ _ hil3⟩ (.cons ⟨ol,rfl,nol0,s4 _ _ hol⟩ .nil)) (fun x hx=>by
  rcases List.mem_cons.mp hx with q | q
  ·rw[q];intro q;exact ne_of_none hil3 hsl (V.ref.inj q)
  ·rw[List.mem_singleton.mp q];intro q;exact ne_of_none hol hsl (V.ref.inj q)) e he _ (fun H' h=>iteT h) (fun H' h=>iteF ⟨_,rfl,h⟩)⟩
end
abbrev sLetters:Stmt:=top 17
def lets:Tr→List Int
 | .lt k=>[(k:Int)]
 | .nt t=>lets t
 | .bn _ a b=>lets a++lets b
def letsL (ts:List Tr):List Int:=ts.flatMap lets
def top1:Tr→List Int
 | .lt k=>[(k:Int)]
 | _=>[]
def tops (ts:List Tr):List Int:=ts.flatMap top1
theorem lets_kid:∀t:Tr,lets t=top1 t++letsL (kid t)
 | .lt _=>rfl
 | .nt t=>by show lets t=[]++(lets t++[]);simp
 | .bn _ a b=>by show lets a++lets b=[]++(lets a++(lets b++[]));simp
theorem letsL_app (a b:List Tr):letsL (a++b)=letsL a++letsL b:=by unfold letsL;rw[List.flatMap_append]
theorem mem_letsL (ts:List Tr) (k:Int):k∈letsL ts↔k∈tops ts∨k∈letsL (kids ts):=by
 induction ts with
 | nil=>simp[letsL,tops,kids]
 | cons t r ih=>
  have e1:letsL (t::r)=lets t++letsL r:=rfl
  have e2:tops (t::r)=top1 t++tops r:=rfl
  have e3:kids (t::r)=kid t++kids r:=rfl
  rw[e1,e2,e3,letsL_app,lets_kid]
  simp only[List.mem_append,ih]
  constructor
  ·rintro ((h | h) | (h | h))
   ·exact .inl (.inl h)
   ·exact .inr (.inl h)
   ·exact .inl (.inr h)
   ·exact .inr (.inr h)
  ·rintro ((h | h) | (h | h))
   ·exact .inl (.inl h)
   ·exact .inr (.inl h)
   ·exact .inl (.inr h)
   ·exact .inr (.inr h)
theorem tops_take {ts:List Tr} {i:Nat} {t:Tr} (h:ts[i]? = some t):tops (ts.take (i+1))=tops (ts.take i)++top1 t:=by
 unfold tops
 rw[List.take_add_one,h,List.flatMap_append]
 simp
theorem TS.ext {H:Hp} {l:Addr} {o u:HO} (h:H l=some o) (n:∀xs,o≠.tup xs):TS H (upd H l u):=fun p ys e=>by
 rw[upd_ne (ne_of e h fun z=>n ys z.symm)]
 exact e
def spLetters:Sp:=fun vs H Q _=>∃(v:V) (t:Tr),vs=[v]∧t.At H v∧t.size≤60∧∀(l:Addr) (ns:List Int) (H':Hp),Same H H'→H l=none→H' l=some (.lst (ns.map V.int))→ns.Pairwise (· < ·)→(∀k,k∈ns↔k∈lets t)→Q (.ref l) H'
section
variable {P:Program} {w:World} {K:PySem.W.Frag} {mg:Str→Option Value} {base:Heap} {f:Addr} {fd:FuncData}
theorem scLetters:FnScope ["sentence","found","layer","part"] ["sentence"] (defScope sLetters):=⟨rfl,rfl,rfl,by decide +kernel,rfl,by decide +kernel,by decide +kernel⟩
def LeW (w:World) (H:Hp) (v:V) (t:Tr) (fa:Addr) (m:Nat):L2.St→Hp→Prop:=fun σ H3=>∃(S:Int→Bool) (n:Nat) (r:Addr) (ys:List V) (ts:List Tr) (pp:Option V),σ=[some v,some (.ref fa),some (.ref r),pp]∧Same H H3∧H3 fa=some (SetO w fa S n)∧H3 r=some (.lst ys)∧Pile H3 ys ts∧n+sz ts≤60∧(∀k,k∈lets t↔S k=true∨k∈letsL ts)∧sz ts=m
set_option maxHeartbeats 4000000 in
theorem ok_letters {g:Addr} {gd:FuncData} (F:Fun K "letters" "letters" sLetters f fd) (T:BTx mg) (GP:FnOk P w K mg base CX0 1 g gd ["layer"] (spParts K)) (CP:Cal K mg "parts_of" g gd ["layer"]):FnOk P w K mg base CX0 2 f fd ["sentence"] spLetters:=by
 refine F.ok scLetters (fun vs H Q E h=>?_) (fun cdv A outer s H vs Q E hr h=>?_)
 ·obtain⟨v,t,rfl,_⟩:=h
  rfl
 obtain⟨v,t,rfl,ha,hs,q⟩:=h
 refine⟨_,pss_cons (ps_set (i:=1) scLetters.nd rfl (Or.inl rfl) (pe_callTy0 call_set0 (by rfl) T.set boot_set))
  (pss_cons (ps_set (i:=2) scLetters.nd rfl (Or.inl rfl) (pe_lst (pa_cons (pv 0) pa_nil)))
  (pss_cons (ps_while PassesOwn.never (pt_truth (pv 2) (fun _=>rfl))
   (pss_cons (ps_for PassesOwn.never rfl (pi_list (pv 2)) (pg_name (i:=3) scLetters.nd rfl (Or.inl rfl))
    (pss_one (ps_if (pt_cmpR op_eq (pe_ix ix_tup (pv 3) pe_int (fun _ _=>rfl)) pe_str (nomark _))
     (pss_one (ps_expr (pe_sadd (pv 1) (pa_cons (pe_ix ix_tup (pv 3) pe_int (fun _ _=>rfl)) pa_nil))))
     pss_nil)))
   (pss_one (ps_set (i:=2) scLetters.nd rfl (Or.inl rfl) (pe_call GP hr (by rfl) CP.m CP.k CP.b .nil pass0 (pa_cons (pv 2) pa_nil))))))
  (pss_one (ps_ret (pe_callB (call_sortedS rfl) (by rfl) T.sorted boot_sorted (pa_cons (pv 1) pa_nil)))))),?_⟩
 refine⟨rfl,fun fa hfa=>?_⟩
 have s1:=same_new hfa (SetO w fa (fun _=>false) 0)
 refine⟨_,rfl,le1,fun l hl=>?_⟩
 have s2:=same_new hl (.lst [v])
 have e1:sz [t]=t.size:=by unfold sz;simp
 refine⟨LeW w H v t fa,⟨_,fun _=>false,0,l,[v],[t],none,rfl,s1.trans s2,s2 _ _ upd_same,upd_same,.cons (ha.keep ((TS.same s1).trans (TS.same s2))) .nil,by omega,fun k=>?_,rfl⟩,?_⟩
 ·have:letsL [t]=lets t:=by unfold letsL;simp
  rw[this]
  simp
 rintro m σ H3 ⟨S,n,r,ys,ts,pp,rfl,s3,hf3,hr3,p3,hn3,hm3,rfl⟩
 refine⟨_,rfl,_,.inl ⟨ys,SqL.of hr3,rfl⟩,?_⟩
 refine ite2 (fun c=>?_) (fun c=>?_)
 ·refine⟨fun σ' H'=>∃m',m'<sz ts∧LeW w H v t fa m' σ' H',fun _ _ h=>h,?_⟩
  have hlen:=p3.len
  have hpos:0<ts.length:=by
   rw[←hlen]
   cases ys with
   | nil=>exact absurd c (by decide)
   | cons _ _=>exact Nat.succ_pos _
  refine⟨_,rfl,r,rfl,⟨_,SqL.of hr3⟩,for_list (K:=K) (a:=r) (xs:=ys) (fun i σ H4=>∃(S2:Int→Bool) (n2:Nat) (pp:Option V),σ=[some v,some (.ref fa),some (.ref r),pp]∧Same H H4∧H4 fa=some (SetO w fa S2 n2)∧H4 r=some (.lst ys)∧Pile H4 ys ts∧n2≤n+i∧∀k,S2 k=true↔S k=true∨k∈tops (ts.take i)) ?_ ?_ ?_ ?_⟩
  ·exact⟨S,n,pp,rfl,s3,hf3,hr3,p3,Nat.le_refl _,fun k=>by simp[tops]⟩
  ·rintro i σ H4 _ ⟨S2,n2,pp,rfl,s4,_,hr4,_⟩
   exact SqL.of hr4
  ·rintro i x σ H4 hx ⟨S2,n2,pp,rfl,s4,hf4,hr4,p4,hn4,hm4⟩
   obtain⟨t2,ht2,hat⟩:=pile_get p4 hx
   have hi:i<ys.length:=(List.getElem?_eq_some_iff.mp hx).1
   have hsz:=len_sz ts
   cases t2 with
   | lt j=>
    obtain⟨p,rfl,hp⟩:=hat
    refine⟨_,rfl,p,_,_,_,rfl,rfl,SqT.of hp,atI_nat (j:=0) rfl,rfl,_,rfl,?_⟩
    refine iteY rfl ?_
    refine⟨_,rfl,fa,S2,n2,rfl,hf4,_,rfl,p,_,_,_,rfl,rfl,SqT.of hp,atI_nat (j:=1) rfl,_,S2,n2,rfl,hf4,by omega,?_⟩
    have kk:TS H4 (upd H4 fa (SetO w fa (fun k=>S2 k || decide (k=(j:Int))) (n2+1))):=TS.ext hf4 (fun xs z=>by cases z)
    refine⟨_,n2+1,_,rfl,same_put s4 hfa _,upd_same,by rw[upd_ne (ne_of hr4 hf4 (by intro z;cases z))];exact hr4,p4.keep kk,by omega,fun k=>?_⟩
    rw[Bool.or_eq_true,decide_eq_true_eq,hm4 k,tops_take ht2,List.mem_append]
    show (_∨_)∨k=(j:Int)↔_∨_∨k∈[(j:Int)]
    rw[List.mem_singleton,or_assoc]
   | nt t3=>
    obtain⟨p,u,rfl,hp,_⟩:=hat
    refine⟨_,rfl,p,_,_,_,rfl,rfl,SqT.of hp,atI_nat (j:=0) rfl,rfl,_,rfl,?_⟩
    refine iteN (by decide) ?_
    refine⟨S2,n2,_,rfl,s4,hf4,hr4,p4,by omega,fun k=>?_⟩
    rw[hm4 k,tops_take ht2]
    show _↔_∨k∈tops (ts.take i)++[]
    rw[List.append_nil]
   | bn j a b=>
    obtain⟨p,u,u2,rfl,hp,_⟩:=hat
    refine⟨_,rfl,p,_,_,_,rfl,rfl,SqT.of hp,atI_nat (j:=0) rfl,rfl,_,rfl,?_⟩
    refine iteN jn_let ?_
    refine⟨S2,n2,_,rfl,s4,hf4,hr4,p4,by omega,fun k=>?_⟩
    rw[hm4 k,tops_take ht2]
    show _↔_∨k∈tops (ts.take i)++[]
    rw[List.append_nil]
  ·rintro σ H4 ⟨S2,n2,pp,rfl,s4,hf4,hr4,p4,hn4,hm4⟩
   rw[hlen,List.take_length] at hm4
   have hk:=sz_kids ts
   refine⟨_,rfl,r,ys,ts,rfl,SqL.of hr4,p4,by omega,fun r2 zs H5 s5 hr5 p5=>?_⟩
   refine⟨sz (kids ts),by omega,S2,n2,r2,zs,kids ts,_,rfl,s4.trans s5,s5 _ _ hf4,hr5,p5,by omega,fun k=>?_,rfl⟩
   rw[hm3 k,mem_letsL,hm4 k,or_assoc]
 ·have e:ts=[]:=by
   cases p3 with
   | nil=>rfl
   | cons h1 h2=>exact absurd rfl c
  subst e
  refine⟨_,rfl,fa,S,n,rfl,hf3,by omega,fun l2 ns hl2 hp hm=>?_⟩
  refine q l2 ns _ (s3.trans (same_new hl2 _)) (s3.free hl2) upd_same hp fun k=>?_
  rw[hm k,hm3 k]
  simp[letsL]
end
theorem vs1_of {us:List Value} (h:us.length=1):∃a0:Value,us=[a0]:=by
 cases us with
 | nil=>exact absurd h (by simp)
 | cons a0 us=>
  have h:us.length=0:=Nat.succ.inj h
  cases us with
  | nil=>exact⟨a0,rfl⟩
  | cons _ _=>exact absurd h (by simp)
theorem vs2_of {us:List Value} (h:us.length=2):∃a0 a1:Value,us=[a0,a1]:=by
 cases us with
 | nil=>exact absurd h (by simp)
 | cons a0 us=>
  have h:us.length=1:=Nat.succ.inj h
  cases us with
  | nil=>exact absurd h (by simp)
  | cons a1 us=>
   have h:us.length=0:=Nat.succ.inj h
   cases us with
   | nil=>exact⟨a0,a1,rfl⟩
   | cons _ _=>exact absurd h (by simp)
theorem vs3_of {us:List Value} (h:us.length=3):∃a0 a1 a2:Value,us=[a0,a1,a2]:=by
 cases us with
 | nil=>exact absurd h (by simp)
 | cons a0 us=>
  have h:us.length=2:=Nat.succ.inj h
  cases us with
  | nil=>exact absurd h (by simp)
  | cons a1 us=>
   have h:us.length=1:=Nat.succ.inj h
   cases us with
   | nil=>exact absurd h (by simp)
   | cons a2 us=>
    have h:us.length=0:=Nat.succ.inj h
    cases us with
    | nil=>exact⟨a0,a1,a2,rfl⟩
    | cons _ _=>exact absurd h (by simp)
theorem vs4_of {us:List Value} (h:us.length=4):∃a0 a1 a2 a3:Value,us=[a0,a1,a2,a3]:=by
 cases us with
 | nil=>exact absurd h (by simp)
 | cons a0 us=>
  have h:us.length=3:=Nat.succ.inj h
  cases us with
  | nil=>exact absurd h (by simp)
  | cons a1 us=>
   have h:us.length=2:=Nat.succ.inj h
   cases us with
   | nil=>exact absurd h (by simp)
   | cons a2 us=>
    have h:us.length=1:=Nat.succ.inj h
    cases us with
    | nil=>exact absurd h (by simp)
    | cons a3 us=>
     have h:us.length=0:=Nat.succ.inj h
     cases us with
     | nil=>exact⟨a0,a1,a2,a3,rfl⟩
     | cons _ _=>exact absurd h (by simp)
theorem vs5_of {us:List Value} (h:us.length=5):∃a0 a1 a2 a3 a4:Value,us=[a0,a1,a2,a3,a4]:=by
 cases us with
 | nil=>exact absurd h (by simp)
 | cons a0 us=>
  have h:us.length=4:=Nat.succ.inj h
  cases us with
  | nil=>exact absurd h (by simp)
  | cons a1 us=>
   have h:us.length=3:=Nat.succ.inj h
   cases us with
   | nil=>exact absurd h (by simp)
   | cons a2 us=>
    have h:us.length=2:=Nat.succ.inj h
    cases us with
    | nil=>exact absurd h (by simp)
    | cons a3 us=>
     have h:us.length=1:=Nat.succ.inj h
     cases us with
     | nil=>exact absurd h (by simp)
     | cons a4 us=>
      have h:us.length=0:=Nat.succ.inj h
      cases us with
      | nil=>exact⟨a0,a1,a2,a3,a4,rfl⟩
      | cons _ _=>exact absurd h (by simp)
theorem vs6_of {us:List Value} (h:us.length=6):∃a0 a1 a2 a3 a4 a5:Value,us=[a0,a1,a2,a3,a4,a5]:=by
 cases us with
 | nil=>exact absurd h (by simp)
 | cons a0 us=>
  have h:us.length=5:=Nat.succ.inj h
  cases us with
  | nil=>exact absurd h (by simp)
  | cons a1 us=>
   have h:us.length=4:=Nat.succ.inj h
   cases us with
   | nil=>exact absurd h (by simp)
   | cons a2 us=>
    have h:us.length=3:=Nat.succ.inj h
    cases us with
    | nil=>exact absurd h (by simp)
    | cons a3 us=>
     have h:us.length=2:=Nat.succ.inj h
     cases us with
     | nil=>exact absurd h (by simp)
     | cons a4 us=>
      have h:us.length=1:=Nat.succ.inj h
      cases us with
      | nil=>exact absurd h (by simp)
      | cons a5 us=>
       have h:us.length=0:=Nat.succ.inj h
       cases us with
       | nil=>exact⟨a0,a1,a2,a3,a4,a5,rfl⟩
       | cons _ _=>exact absurd h (by simp)
abbrev sRefuseS:Stmt:=top 26
theorem ok_lets:∀{t:Tr} {m:Nat},t.ok 5→(t.ok m↔∀k∈lets t,k<(m:Int))
 | .lt j,m,_=>by
  show j<m↔∀k∈[(j:Int)],k<(m:Int)
  simp
 | .nt t,m,h=>ok_lets (t:=t) h
 | .bn j a b,m,h=>by
  have h1:=ok_lets (m:=m) h.2.1
  have h2:=ok_lets (m:=m) h.2.2
  show (j<4∧a.ok m∧b.ok m)↔∀k∈lets a++lets b,k<(m:Int)
  rw[h1,h2]
  constructor
  ·rintro⟨_,q1,q2⟩ k hk
   rcases List.mem_append.mp hk with z | z
   ·exact q1 k z
   ·exact q2 k z
  ·intro q
   exact⟨h.1,fun k hk=>q k (List.mem_append_left _ hk),fun k hk=>q k (List.mem_append_right _ hk)⟩
theorem lets_ne:∀t:Tr,∃k,k∈lets t
 | .lt j=>⟨(j:Int),by simp[lets]⟩
 | .nt t=>lets_ne t
 | .bn _ a b=>by
  obtain⟨k,hk⟩:=lets_ne a
  exact⟨k,List.mem_append_left _ hk⟩
theorem up_last {ns:List Int} {x:Int} (h:(ns++[x]).Pairwise (· < ·)):∀k∈ns++[x],k≤x:=fun k hk=>by
 rcases List.mem_append.mp hk with z | z
 ·exact Int.le_of_lt ((List.pairwise_append.mp h).2.2 k z x (by simp))
 ·rw[List.mem_singleton.mp z]
  exact Int.le_refl _
theorem atI_last {α:Type} (xs:List α) (x:α):atI (xs++[x]) (-1)=some x:=by
 have e:ixN (xs++[x]).length (-1)=some xs.length:=by
  unfold ixN
  rw[if_neg (by decide),List.length_append]
  show (if _ then _ else _)=_
  rw[if_pos (by show -(((xs.length+1:Nat)):Int)≤-1;omega)]
  congr 1
  show (((xs.length+1:Nat):Int) + -1).toNat=xs.length
  omega
 unfold atI
 rw[e]
 show (xs++[x])[xs.length]? = some x
 simp
def spRefuse (cS:Addr):Sp:=fun vs H Q E=>∃(v:V) (t:Tr) (m:Nat),vs=[v,.int m]∧t.At H v∧t.ok 5∧t.size≤60∧(¬t.ok m→∀H',Same H H'→E (.ref cS) none H')∧(t.ok m→∀H',Same H H'→Q .non H')
section
variable {P:Program} {w:World} {K:PySem.W.Frag} {mg:Str→Option Value} {base:Heap} {f:Addr} {fd:FuncData} {cS cT:Addr}
theorem scRefuseS:FnScope ["sentence","many"] ["sentence","many"] (defScope sRefuseS):=⟨rfl,rfl,rfl,by decide +kernel,rfl,by decide +kernel,by decide +kernel⟩
set_option maxHeartbeats 4000000 in
theorem ok_refuse {g:Addr} {gd:FuncData} (F:Fun K "refuse_strange" "refuse_strange" sRefuseS f fd) (XS:OwnX K mg "StrangeLetter" cS cT) (GL:FnOk P w K mg base CX0 2 g gd ["sentence"] spLetters) (CL:Cal K mg "letters" g gd ["sentence"]):FnOk P w K mg base (CXE P w) 3 f fd ["sentence","many"] (spRefuse cS):=by
 refine Fun.okX F scRefuseS (fun vs H Q E h=>?_) (fun cdv A outer s H vs Q E hr h=>?_)
 ·obtain⟨v,t,m,rfl,_⟩:=h
  rfl
 obtain⟨v,t,m,rfl,ha,hok,hsz,qE,q⟩:=h
 refine⟨_,pss_one (ps_if (pt_cmpR op_ge (pe_ix ix_list (pe_call GL hr (by rfl) CL.m CL.k CL.b .nil pass0 (pa_cons (pv 0) pa_nil)) (pe_un un_neg pe_int) (fun _ _=>rfl)) (pv 1) (nomark _))
   (pss_one (ps_raise0 (Ex:=E) lets_own rfl XS.cls XS.at_ XS.ty (by rfl) XS.m (pa_cons pe_str pa_nil) (hvl:=fun _ _ _ h=>⟨by decide,h⟩)))
   pss_nil),?_⟩
 refine⟨_,rfl,v,t,rfl,ha,hsz,fun l ns H1 s1 hl0 hl hp hm=>?_⟩
 obtain⟨k0,hk0⟩:=lets_ne t
 have hne:ns≠[]:=List.ne_nil_of_mem ((hm k0).mpr hk0)
 obtain⟨ms,x,rfl⟩:∃ms x,ns=ms++[x]:=⟨ns.dropLast,ns.getLast hne,(List.dropLast_concat_getLast hne).symm⟩
 have hmax:=up_last hp
 have hx:x∈lets t:=(hm x).mp (by simp)
 have hiff:=ok_lets (m:=m) hok
 have hat:atI ((ms++[x]).map V.int) (-1)=some (.int x):=by rw[List.map_append];exact atI_last _ _
 refine⟨_,rfl,l,_,_,_,rfl,rfl,SqL.of hl,hat,_,rfl,_,_,rfl,rfl,_,rfl,?_⟩
 by_cases c:t.ok m
 ·refine iteN (fun z=>?_) (q c _ s1)
  have:=hiff.mp c x hx
  have z':x≥(m:Int):=z
  omega
 ·refine iteY ?_ (qE c _ s1)
  show x≥(m:Int)
  refine Int.not_lt.mp fun z=>c (hiff.mpr fun k hk=>?_)
  have:=hmax k ((hm k).mpr hk)
  omega
end
def cut (M:List Addr) (H:Hp):Hp:=fun b=>if b∈M then none else H b
section
variable {M N:List Addr} {H H' H0 H1:Hp} {a b l:Addr} {o:HO}
theorem cut_get (h:cut M H b=some o):H b=some o∧b∉M:=by
 unfold cut at h
 by_cases c:b∈M
 ·rw[if_pos c] at h;cases h
 ·rw[if_neg c] at h;exact⟨h,c⟩
theorem cut_of (h:H b=some o) (n:b∉M):cut M H b=some o:=by unfold cut;rw[if_neg n];exact h
theorem cut_same:Same (cut M H) H:=fun b o h=>(cut_get h).1
theorem cut_mono (s:Same H H'):Same (cut M H) (cut M H'):=fun b o h=>cut_of (s _ _ (cut_get h).1) (cut_get h).2
theorem cut_upd (h:a∈M):cut M (upd H a o)=cut M H:=by
 funext b
 unfold cut
 by_cases c:b∈M
 ·rw[if_pos c,if_pos c]
 ·rw[if_neg c,if_neg c,upd_ne (fun z=>c (by rw[z];exact h))]
abbrev But (M:List Addr) (H H':Hp):Prop:=Same (cut M H) (cut M H')
theorem But.upd (h:a∈M):But M H (upd H a o):=by
 show Same (cut M H) (cut M (L2.upd H a o))
 rw[cut_upd h]
 exact Same.refl _
theorem But.same (off:∀m∈M,H0 m=none) (s0:Same H0 H) (s:But M H H'):Same H0 H':=fun b o e=>
 (cut_get (s b o (cut_of (s0 _ _ e) fun z=>by rw[off b z] at e;cases e))).1
theorem But.at (s:But M H H') (h:H b=some o) (n:b∉M):H' b=some o:=(cut_get (s b o (cut_of h n))).1
end
structure Tk where
 dx:Addr
 sp:Addr
 pt:Addr
 gv:Addr
 lf:Addr
 sv:V
 pxs:List V
 ges:List V
 lfs:List V
structure Ta where
 many:Nat
 kind:Str
 rule:Str
 t:Tr
 room:List Int
 ents:List (V×Tr×Str)
 lefts:List (List Int)
 ended:Bool
def Ta.sides (W:Ta):List (List Int):=sidesR W.kind W.t W.room
def tkF (U:Tk) (W:Ta):List (Str×V):=[("many",.int W.many),("kind",.str W.kind),("sentence",U.sv),("rule",.str W.rule),("space",.ref U.sp),("parts",.ref U.pt),("given",.ref U.gv),("left",.ref U.lf),("ended",.bl W.ended)]
abbrev EntsAt (H:Hp):List V→List (V×Tr×Str)→Prop:=Paired fun (v:V) (e:V×Tr×Str)=>∃p,v= .ref p∧H p=some (.tup [e.1,.str e.2.2])∧e.2.1.At H e.1
theorem EntsAt.keep {H H':Hp} (s:Same H H'):∀{xs:List V} {es:List (V×Tr×Str)},EntsAt H xs es→EntsAt H' xs es
 | _,_,.nil=>.nil
 | _,_,.cons ⟨p,e,h,a⟩ q=>.cons ⟨p,e,s _ _ h,a.keep (TS.same s)⟩ (EntsAt.keep s q)
structure TalkAt (M:List Addr) (C:Addr) (H:Hp) (a:Addr) (U:Tk) (W:Ta):Prop where
 ob:H a=some (.ins C U.dx (tkF U W))
 gv:H U.gv=some (.lst U.ges)
 lf:H U.lf=some (.lst U.lfs)
 ma:a∈M
 mg:U.gv∈M
 ml:U.lf∈M
 ne:U.gv≠U.lf
 room:RowAt (cut M H) U.sp W.room
 tr:W.t.At (cut M H) U.sv
 pt:cut M H U.pt=some (.lst U.pxs)
 sd:RowsAt (cut M H) U.pxs W.sides
 en:EntsAt (cut M H) U.ges W.ents
 lr:RowsAt (cut M H) U.lfs W.lefts
 wr:Wr W.room
 wl:∀l∈W.lefts,l.Sublist W.room
 ln:W.lefts≠[]
 l9:W.lefts.length≤900
 e9:W.ents.length≤900
 tok:W.t.ok W.many
 m5:W.many≤5
 tsz:W.t.size≤23
 kd:isKind W.kind
 ns:[]∉W.sides
 rl:W.rule="elder"∨W.rule="newer"
section
variable {M:List Addr} {C:Addr} {H H':Hp} {a:Addr} {U:Tk} {W:Ta}
theorem TalkAt.keep (s:Same H H') (h:TalkAt M C H a U W):TalkAt M C H' a U W:=
 ⟨s _ _ h.ob,s _ _ h.gv,s _ _ h.lf,h.ma,h.mg,h.ml,h.ne,cut_mono s _ _ h.room,h.tr.keep (TS.same (cut_mono s)),cut_mono s _ _ h.pt,h.sd.keep (cut_mono s),h.en.keep (cut_mono s),h.lr.keep (cut_mono s),h.wr,h.wl,h.ln,h.l9,h.e9,h.tok,h.m5,h.tsz,h.kd,h.ns,h.rl⟩
theorem TalkAt.but (b:But M H H') (ha:H' a=H a) (hg:H' U.gv=H U.gv) (hl:H' U.lf=H U.lf) (h:TalkAt M C H a U W):TalkAt M C H' a U W:=
 ⟨ha.trans h.ob,hg.trans h.gv,hl.trans h.lf,h.ma,h.mg,h.ml,h.ne,b _ _ h.room,h.tr.keep (TS.same b),b _ _ h.pt,h.sd.keep b,h.en.keep b,h.lr.keep b,h.wr,h.wl,h.ln,h.l9,h.e9,h.tok,h.m5,h.tsz,h.kd,h.ns,h.rl⟩
theorem lk_many:(tkF U W).lookup ("many":Str)=some (.int W.many):=by with_unfolding_all rfl
theorem lk_kind:(tkF U W).lookup ("kind":Str)=some (.str W.kind):=by with_unfolding_all rfl
theorem lk_sentence:(tkF U W).lookup ("sentence":Str)=some U.sv:=by with_unfolding_all rfl
theorem lk_rule:(tkF U W).lookup ("rule":Str)=some (.str W.rule):=by with_unfolding_all rfl
theorem lk_space:(tkF U W).lookup ("space":Str)=some (.ref U.sp):=by with_unfolding_all rfl
theorem lk_given:(tkF U W).lookup ("given":Str)=some (.ref U.gv):=by with_unfolding_all rfl
theorem lk_left:(tkF U W).lookup ("left":Str)=some (.ref U.lf):=by with_unfolding_all rfl
theorem lk_ended:(tkF U W).lookup ("ended":Str)=some (.bl W.ended):=by with_unfolding_all rfl
theorem no_fork:(tkF U W).lookup ("fork":Str)=none:=by with_unfolding_all rfl
end
structure CalM (K:PySem.W.Frag) (C:Addr) (nm:Str) (f:Addr) (fd:FuncData) (ps:List Str):Prop where
 m:Meth K C nm f
 b:Binds K fd ps []
structure CalI (K:PySem.W.Frag) (mg:Str→Option Value) (C:Addr) (nm:Str) (f:Addr) (fd:FuncData) (ps:List Str):Prop where
 make:Mk K C f
 m:mg nm=some (.ref C)
 b:Binds K fd ps []
structure TkX (K:PySem.W.Frag) (C:Addr):Prop where
 cl:Cls K C
 many:NoAttr K C "many"
 kind:NoAttr K C "kind"
 sentence:NoAttr K C "sentence"
 rule:NoAttr K C "rule"
 space:NoAttr K C "space"
 parts:NoAttr K C "parts"
 given:NoAttr K C "given"
 left:NoAttr K C "left"
 ended:NoAttr K C "ended"
abbrev sTInit:Stmt:=inClass (top 32) 0
def isRule (z:Str):Prop:=z="elder"∨z="newer"
instance (z:Str):Decidable (isRule z):=by unfold isRule;infer_instance
def rules:List V:=[.str "elder",.str "newer"]
theorem rules_in (z:Str):inV (.str z) rules=decide (isRule z):=by
 unfold inV rules isRule
 simp only[List.any_cons,List.any_nil,Bool.or_false]
 have e:∀y:Str,eqV (.str y) (.str z)=decide (z=y):=fun y=>by
  show (y == z)=decide (z=y)
  by_cases h:z=y
  ·subst h;simp
  ·rw[decide_eq_false h]
   exact beq_false_of_ne fun q=>h q.symm
 rw[e,e,Bool.eq_iff_iff]
 simp only[Bool.or_eq_true,decide_eq_true_eq]
 exact decide_eq_true_iff.symm
def newTa (many:Nat) (kind rule:Str) (t:Tr) (room:List Int):Ta:=⟨many,kind,rule,t,room,[],[baseR room (sidesR kind t room)],false⟩
def spTInit (C cS cB cN:Addr):Sp:=fun vs H Q E=>∃(x dx rm:Addr) (many:Nat) (kind rule:Str) (v:V) (t:Tr) (room:List Int) (M:List Addr),vs=[.ref x,.int many,.ref rm,.str kind,v,.str rule]∧H x=some (.ins C dx [])∧x∉M∧(∀m∈M,H m≠none)∧
 t.At (cut M H) v∧t.ok 5∧t.size≤23∧many≤5∧RowAt H rm room∧Wr room∧
 (¬t.ok many→∀H',But [x] H H'→E (.ref cS) none H')∧(t.ok many→¬(isRule rule∧isKind kind)→∀H',But [x] H H'→E (.ref cB) none H')∧(t.ok many→isRule rule→isKind kind→[]∈sidesR kind t room→∀H',But [x] H H'→E (.ref cN) none H')∧
 (t.ok many→isRule rule→isKind kind→[]∉sidesR kind t room→∀(U:Tk) (H':Hp),But [x] H H'→H U.gv=none→H U.lf=none→H U.sp=none→U.sv=v→TalkAt (x::U.gv::U.lf::M) C H' x U (newTa many kind rule t room)→Q .non H')
theorem fld_step {H0 H:Hp} {x C dx:Addr} {fs fs':List (Str×V)} {f:Str} {v:V} (e:putF f v fs=fs') (b:But [x] H0 H) :
  But [x] H0 (upd H x (.ins C dx (putF f v fs)))∧upd H x (.ins C dx (putF f v fs)) x=some (.ins C dx fs')∧But [x] H (upd H x (.ins C dx (putF f v fs))):=
 ⟨b.trans (But.upd (by simp)),upd_same.trans (congrArg (fun l=>some (HO.ins C dx l)) e),But.upd (by simp)⟩
theorem not1 {x b:Addr} (h:b≠x):b∉[x]:=by simpa using h
abbrev RowsNe (H:Hp) (x:Addr):List V→List (List Int)→Prop:=Paired fun (v:V) (row:List Int)=>∃p,v= .ref p∧p≠x∧RowAt H p row
theorem rows_new_ne {H H':Hp} {x:Addr} {o:HO} (hx:H x=some o):∀{xs:List V} {rs:List (List Int)},RowsNew H H' xs rs→RowsNe H' x xs rs
 | _,_,.nil=>.nil
 | _,_,.cons ⟨p,e,n,h⟩ q=>.cons ⟨p,e,(ne_of_none hx n).symm,h⟩ (rows_new_ne hx q)
theorem rows_ne_but {H H':Hp} {x:Addr} (b:But [x] H H'):∀{xs:List V} {rs:List (List Int)},RowsNe H x xs rs→RowsNe H' x xs rs
 | _,_,.nil=>.nil
 | _,_,.cons ⟨p,e,n,h⟩ q=>.cons ⟨p,e,n,b.at h (not1 n)⟩ (rows_ne_but b q)
theorem rows_ne_keep {H H':Hp} {x:Addr} (b:Same H H'):∀{xs:List V} {rs:List (List Int)},RowsNe H x xs rs→RowsNe H' x xs rs
 | _,_,.nil=>.nil
 | _,_,.cons ⟨p,e,n,h⟩ q=>.cons ⟨p,e,n,b _ _ h⟩ (rows_ne_keep b q)
theorem rows_but {H H':Hp} {x:Addr} (b:But [x] H H'):∀{xs:List V} {rs:List (List Int)},RowsNe H x xs rs→RowsAt H' xs rs
 | _,_,.nil=>.nil
 | _,_,.cons ⟨p,e,n,h⟩ q=>.cons ⟨p,e,b.at h (not1 n)⟩ (rows_but b q)
theorem rows_cut {H0 H1 G:Hp} (k:∀p row,H0 p=none→RowAt H1 p row→RowAt G p row):∀{xs:List V} {rs:List (List Int)},RowsNew H0 H1 xs rs→RowsAt G xs rs
 | _,_,.nil=>.nil
 | _,_,.cons ⟨p,e,n,h⟩ q=>.cons ⟨p,e,k p _ n h⟩ (rows_cut k q)
section
variable {P:Program} {w:World} {K:PySem.W.Frag} {mg:Str→Option Value} {base:Heap} {f:Addr} {fd:FuncData} {cK cS cB cN cT:Addr}
theorem scTInit:FnScope ["self","many","room","kind","sentence","rule"] ["self","many","room","kind","sentence","rule"] (defScope sTInit):=⟨rfl,rfl,rfl,by decide +kernel,rfl,by decide +kernel,by decide +kernel⟩
set_option maxHeartbeats 4000000 in
theorem ok_tinit {g1 g2 g3:Addr} {d1 d2 d3:FuncData} (F:Fun K "__init__" "Talk.__init__" sTInit f fd) (TX:TkX K cK) (T:BTx mg) (XB:OwnX K mg "BadWord" cB cT)
  (GR:FnOk P w K mg base (CXE P w) 3 g1 d1 ["sentence","many"] (spRefuse cS)) (CR:Cal K mg "refuse_strange" g1 d1 ["sentence","many"])
  (GD:FnOk P w K mg base (CXE P w) 4 g2 d2 ["room","kind","sentence"] (spSidesOf K cB cN)) (CD:Cal K mg "sides_of" g2 d2 ["room","kind","sentence"])
  (GB:FnOk P w K mg base CX0 2 g3 d3 ["sides"] (spAny K)) (CB:Cal K mg "base_of" g3 d3 ["sides"]):FnOk P w K mg base (CXE P w) 5 f fd ["self","many","room","kind","sentence","rule"] (spTInit cK cS cB cN):=by
 refine Fun.okX F scTInit (fun vs H Q E h=>?_) (fun cdv A outer s H vs Q E hr h=>?_)
 ·obtain⟨x,dx,rm,many,kind,rule,v,t,room,M,rfl,_⟩:=h
  rfl
 obtain⟨x,dx,rm,many,kind,rule,v,t,room,M,rfl,hx,nxM,hM,ha,hok,hsz,hm5,hrm,hwr,qS,qB,qN,q⟩:=h
 have hr3:Room 3 _:=hr.mono (by decide)
 have hr2:Room 2 _:=hr.mono (by decide)
 have nrx:rm≠x:=ne_of hrm hx (by intro z;cases z)
 have haH:=ha.keep (TS.same cut_same)
 have kt:∀{H1:Hp},But [x] H H1→TS H H1:=fun b p xs e=>b.at e (not1 (ne_of e hx (by intro z;cases z)))
 refine⟨_,pss_cons (ps_expr (pe_call GR hr3 (by rfl) CR.m CR.k CR.b .nil (pass_own (E1:=E) fun _ _ _ h=>h) (pa_cons (pv 4) (pa_cons (pv 1) pa_nil))))
  (pss_cons (ps_if (pt_cmpR op_notIn_seq (pv 5) (pe_tup (pa_cons pe_str (pa_cons pe_str pa_nil))) (by with_unfolding_all rfl))
   (pss_one (ps_raise0 (Ex:=E) lets_own rfl XB.cls XB.at_ XB.ty (by rfl) XB.m (pa_cons pe_str pa_nil) (hvl:=fun _ _ _ h=>⟨by decide,h⟩)))
   pss_nil)
  (pss_cons (ps_fld (pv 0) (pv 1) rfl)
  (pss_cons (ps_fld (pv 0) (pv 3) rfl)
  (pss_cons (ps_fld (pv 0) (pv 4) rfl)
  (pss_cons (ps_fld (pv 0) (pv 5) rfl)
  (pss_cons (ps_fld (pv 0) (pe_callTy call_list_of (by rfl) T.lst boot_lst (pa_cons (pv 2) pa_nil)) rfl)
  (pss_cons (ps_fld (pv 0) (pe_call GD hr (by rfl) CD.m CD.k CD.b .nil (pass_own (E1:=E) fun _ _ _ h=>h) (pa_cons (pv 2) (pa_cons (pv 3) (pa_cons (pv 4) pa_nil)))) rfl)
  (pss_cons (ps_fld (pv 0) (pe_lst pa_nil) rfl)
  (pss_cons (ps_fld (pv 0) (pe_lst (pa_cons (pe_call GB hr2 (by rfl) CB.m CB.k CB.b .nil pass0 (pa_cons (pe_fld (pv 0) rfl) pa_nil)) pa_nil)) rfl)
  (pss_one (ps_fld (pv 0) pe_bl rfl))))))))))),?_⟩
 refine⟨_,rfl,_,rfl,v,t,many,rfl,haH,hok,by omega,fun hn H1 s1=>qS hn H1 (cut_mono s1),fun hmany H1 s1=>?_⟩
 refine⟨_,rfl,le2,fun rt hrt=>?_⟩
 have s2:=s1.trans (same_new hrt (.tup [.str "elder",.str "newer"]))
 refine⟨rt,rules,rfl,.inr (SqT.of upd_same),rfl,rfl,_,rfl,?_⟩
 show if (!inV (.str rule) rules)=true then _ else _
 rw[rules_in]
 generalize upd H1 rt _=H2 at *
 by_cases hrl:isRule rule
 rotate_left
 ·exact iteNN hrl (qB hmany (fun z=>hrl z.1) _ (cut_mono s2))
 refine iteNS hrl ?_
 have b2:But [x] H H2:=cut_mono s2
 have x2:=s2 _ _ hx
 refine⟨_,rfl,_,rfl,x,cK,dx,_,rfl,x2,TX.cl,TX.many,(by decide),?_⟩
 obtain⟨b3,x3,_⟩:=fld_step (C:=cK) (dx:=dx) (f:="many") (v:=.int many) (fs:=[]) (fs':=[("many",.int many)]) (by with_unfolding_all rfl) b2
 generalize upd H2 x _=H3 at *
 refine⟨_,rfl,_,rfl,x,cK,dx,_,rfl,x3,TX.cl,TX.kind,(by show 1<1000;decide),?_⟩
 obtain⟨b4,x4,_⟩:=fld_step (C:=cK) (dx:=dx) (f:="kind") (v:=.str kind) (fs:=[("many",.int many)]) (fs':=[("many",.int many),("kind",.str kind)]) (by with_unfolding_all rfl) b3
 generalize upd H3 x _=H4 at *
 refine⟨_,rfl,_,rfl,x,cK,dx,_,rfl,x4,TX.cl,TX.sentence,(by show 2<1000;decide),?_⟩
 obtain⟨b5,x5,_⟩:=fld_step (C:=cK) (dx:=dx) (f:="sentence") (v:=v) (fs:=[("many",.int many),("kind",.str kind)]) (fs':=[("many",.int many),("kind",.str kind),("sentence",v)]) (by with_unfolding_all rfl) b4
 generalize upd H4 x _=H5 at *
 refine⟨_,rfl,_,rfl,x,cK,dx,_,rfl,x5,TX.cl,TX.rule,(by show 3<1000;decide),?_⟩
 obtain⟨b6,x6,_⟩:=fld_step (C:=cK) (dx:=dx) (f:="rule") (v:=.str rule) (fs:=[("many",.int many),("kind",.str kind),("sentence",v)]) (fs':=[("many",.int many),("kind",.str kind),("sentence",v),("rule",.str rule)]) (by with_unfolding_all rfl) b5
 generalize upd H5 x _=H6 at *
 have rm6:=b6.at hrm (not1 nrx)
 refine⟨_,rfl,rm,_,rfl,.inl (SqL.of rm6),fun sp hsp=>?_⟩
 have s7:=same_new hsp (.lst (room.map V.int))
 have b7:But [x] H (upd H6 sp (.lst (room.map V.int))):=b6.trans (cut_mono s7)
 have x7:=s7 _ _ x6
 have sp7:RowAt (upd H6 sp (.lst (room.map V.int))) sp room:=upd_same
 have nsx:sp≠x:=(ne_of_none x6 hsp).symm
 have sp0:H sp=none:=by
  cases e:H sp with
  | none=>rfl
  | some o=>rw[b6.at e (not1 nsx)] at hsp;cases hsp
 generalize upd H6 sp _=H7 at *
 refine⟨_,rfl,x,cK,dx,_,rfl,x7,TX.cl,TX.space,(by show 4<1000;decide),?_⟩
 obtain⟨b8,x8,c8⟩:=fld_step (C:=cK) (dx:=dx) (f:="space") (v:=.ref sp) (fs:=[("many",.int many),("kind",.str kind),("sentence",v),("rule",.str rule)]) (fs':=[("many",.int many),("kind",.str kind),("sentence",v),("rule",.str rule),("space",.ref sp)]) (by with_unfolding_all rfl) b7
 generalize upd H7 x _=H8 at *
 have sp8:=c8.at sp7 (not1 nsx)
 have rm8:=b8.at hrm (not1 nrx)
 refine⟨_,rfl,_,rfl,_,rfl,rm,kind,v,t,room,rfl,haH.keep (kt b8),hok,by omega,SqL.of rm8,hwr,fun hk H9 s9=>qB hmany (fun z=>hk z.2) _ (b8.trans (cut_mono s9)),fun hk hem H9 s9=>qN hmany hrl hk hem _ (b8.trans (cut_mono s9)),fun hk hem pt pxs H9 s9 pt0 pt9 hR9 hne9=>?_⟩
 have b9:But [x] H H9:=b8.trans (cut_mono s9)
 have x9:=s9 _ _ x8
 have npx:pt≠x:=(ne_of_none x8 pt0).symm
 refine⟨_,rfl,x,cK,dx,_,rfl,x9,TX.cl,TX.parts,(by show 5<1000;decide),?_⟩
 obtain⟨b10,x10,c10⟩:=fld_step (C:=cK) (dx:=dx) (f:="parts") (v:=.ref pt) (fs:=[("many",.int many),("kind",.str kind),("sentence",v),("rule",.str rule),("space",.ref sp)]) (fs':=[("many",.int many),("kind",.str kind),("sentence",v),("rule",.str rule),("space",.ref sp),("parts",.ref pt)]) (by with_unfolding_all rfl) b9
 have e10:cut [x] (upd H9 x (.ins cK dx (putF "parts" (.ref pt) [("many",.int many),("kind",.str kind),("sentence",v),("rule",.str rule),("space",.ref sp)])))=cut [x] H9:=cut_upd (by simp)
 generalize upd H9 x _=H10 at *
 have pt10:=c10.at pt9 (not1 npx)
 have sp10:=c10.at (s9 _ _ sp8) (not1 nsx)
 have R10:RowsAt H10 pxs (sidesR kind t room):=rows_but c10 (rows_new_ne x8 hR9)
 refine⟨le0,fun gv hgv=>?_⟩
 have s11:=same_new hgv (.lst [])
 have b11:But [x] H (upd H10 gv (.lst [])):=b10.trans (cut_mono s11)
 have gv11:upd H10 gv (.lst []) gv=some (.lst []):=upd_same
 have x11:=s11 _ _ x10
 have ngx:gv≠x:=(ne_of_none x10 hgv).symm
 generalize upd H10 gv _=H11 at *
 refine⟨_,rfl,x,cK,dx,_,rfl,x11,TX.cl,TX.given,(by show 6<1000;decide),?_⟩
 obtain⟨b12,x12,c12⟩:=fld_step (C:=cK) (dx:=dx) (f:="given") (v:=.ref gv) (fs:=[("many",.int many),("kind",.str kind),("sentence",v),("rule",.str rule),("space",.ref sp),("parts",.ref pt)]) (fs':=[("many",.int many),("kind",.str kind),("sentence",v),("rule",.str rule),("space",.ref sp),("parts",.ref pt),("given",.ref gv)]) (by with_unfolding_all rfl) b11
 generalize upd H11 x _=H12 at *
 have gv12:=c12.at gv11 (not1 ngx)
 have pt12:=c12.at (s11 _ _ pt10) (not1 npx)
 have sp12:=c12.at (s11 _ _ sp10) (not1 nsx)
 have R12:RowsAt H12 pxs (sidesR kind t room):=rows_but c12 (rows_ne_keep s11 (rows_ne_but c10 (rows_new_ne x8 hR9)))
 have hl2:lens (sidesR kind t room)<64:=by
  have:=lens_sides (z:=kind) (t:=t) (row:=room)
  have:=hwr.len
  omega
 refine⟨_,rfl,x,cK,dx,_,_,rfl,x12,TX.cl,TX.parts,(by with_unfolding_all rfl),pt,pxs,_,rfl,SqL.of pt12,R12,hl2,fun bl H13 ns s13 hbl0 hp hm hbl=>⟨le1,fun lf hlf=>?_⟩⟩
 have en:=baseR_is hwr (fun s hs=>sides_sub hs) hp hm
 subst en
 have s14:=s13.trans (same_new hlf (.lst [.ref bl]))
 have bl14:=same_new hlf (.lst [.ref bl]) _ _ hbl
 have lf14:upd H13 lf (.lst [.ref bl]) lf=some (.lst [.ref bl]):=upd_same
 have lf12:H12 lf=none:=s13.free hlf
 generalize upd H13 lf _=H14 at *
 have x14:=s14 _ _ x12
 have b14:But [x] H H14:=b12.trans (cut_mono s14)
 have nlx:lf≠x:=(ne_of_none x12 lf12).symm
 have nbx:bl≠x:=(ne_of_none x12 hbl0).symm
 refine⟨_,rfl,x,cK,dx,_,rfl,x14,TX.cl,TX.left,(by show 7<1000;decide),?_⟩
 obtain⟨b15,x15,c15⟩:=fld_step (C:=cK) (dx:=dx) (f:="left") (v:=.ref lf) (fs:=[("many",.int many),("kind",.str kind),("sentence",v),("rule",.str rule),("space",.ref sp),("parts",.ref pt),("given",.ref gv)]) (fs':=[("many",.int many),("kind",.str kind),("sentence",v),("rule",.str rule),("space",.ref sp),("parts",.ref pt),("given",.ref gv),("left",.ref lf)]) (by with_unfolding_all rfl) b14
 generalize upd H14 x _=H15 at *
 refine⟨_,rfl,x,cK,dx,_,rfl,x15,TX.cl,TX.ended,(by show 8<1000;decide),?_⟩
 obtain⟨b16,x16,c16⟩:=fld_step (C:=cK) (dx:=dx) (f:="ended") (v:=.bl false) (fs:=[("many",.int many),("kind",.str kind),("sentence",v),("rule",.str rule),("space",.ref sp),("parts",.ref pt),("given",.ref gv),("left",.ref lf)]) (fs':=[("many",.int many),("kind",.str kind),("sentence",v),("rule",.str rule),("space",.ref sp),("parts",.ref pt),("given",.ref gv),("left",.ref lf),("ended",.bl false)]) (by with_unfolding_all rfl) b15
 generalize upd H15 x _=H16 at *
 have c17:But [x] H14 H16:=c15.trans c16
 have gv16:=c17.at (s14 _ _ gv12) (not1 ngx)
 have lf16:=c17.at lf14 (not1 nlx)
 have bl16:=c17.at bl14 (not1 nbx)
 have pt16:=c17.at (s14 _ _ pt12) (not1 npx)
 have sp16:=c17.at (s14 _ _ sp12) (not1 nsx)
 have ngl:gv≠lf:=ne_of_none gv12 lf12
 have gv0:H gv=none:=by
  cases e:H gv with
  | none=>rfl
  | some o=>rw[b10.at e (not1 ngx)] at hgv;cases hgv
 have lf0:H lf=none:=by
  cases e:H lf with
  | none=>rfl
  | some o=>rw[b12.at e (not1 nlx)] at lf12;cases lf12
 have pt0':H pt=none:=by
  cases e:H pt with
  | none=>rfl
  | some o=>rw[b8.at e (not1 npx)] at pt0;cases pt0
 have bl0:H bl=none:=by
  cases e:H bl with
  | none=>rfl
  | some o=>rw[b12.at e (not1 nbx)] at hbl0;cases hbl0
 have nM:∀{b:Addr},H b=none→b∉M:=fun e z=>hM _ z e
 have n3:∀{b:Addr},b≠x→b≠gv→b≠lf→H b=none→b∉x::gv::lf::M:=fun e1 e2 e3 e4 z=>by
  rcases List.mem_cons.mp z with q1 | q1
  ·exact e1 q1
  ·rcases List.mem_cons.mp q1 with q2 | q2
   ·exact e2 q2
   ·rcases List.mem_cons.mp q2 with q3 | q3
    ·exact e3 q3
    ·exact nM e4 q3
 have nsg:sp≠gv:=ne_of_none sp10 hgv
 have nsl:sp≠lf:=ne_of_none sp12 lf12
 have npg:pt≠gv:=ne_of_none pt10 hgv
 have npl:pt≠lf:=ne_of_none pt12 lf12
 have nbg:bl≠gv:=(ne_of_none gv12 hbl0).symm
 have nbl:bl≠lf:=ne_of_none hbl hlf
 have hR16:RowsAt (cut (x::gv::lf::M) H16) pxs (sidesR kind t room):=rows_cut (fun p row h1 h2=>by
  have pne:p≠x:=(ne_of_none x8 h1).symm
  have p10:=c10.at h2 (not1 pne)
  have p0:H p=none:=by
   cases e:H p with
   | none=>rfl
   | some o=>rw[b8.at e (not1 pne)] at h1;cases h1
  have p12:=c12.at (s11 _ _ p10) (not1 pne)
  exact cut_of (c17.at (s14 _ _ p12) (not1 pne)) (n3 pne (ne_of_none p10 hgv) (ne_of_none p12 lf12) p0)) hR9
 refine q hmany hrl hk hem ⟨dx,sp,pt,gv,lf,v,pxs,[],[.ref bl]⟩ H16 b16 gv0 lf0 sp0 rfl ⟨x16,gv16,lf16,by simp,by simp,by simp,ngl,cut_of sp16 (n3 nsx nsg nsl sp0),?_,cut_of pt16 (n3 npx npg npl pt0'),hR16,.nil,.cons ⟨bl,rfl,cut_of bl16 (n3 nbx nbg nbl bl0)⟩ .nil,hwr,fun l hl=>?_,List.cons_ne_nil _ _,by show 1≤900;decide,by show 0≤900;decide,hmany,hm5,hsz,hk,hem,hrl⟩
 ·refine ha.keep fun p xs e=>?_
  obtain⟨e1,e2⟩:=cut_get e
  have pne:p≠x:=ne_of e1 hx (by intro z;cases z)
  refine cut_of (b16.at e1 (not1 pne)) fun z=>?_
  rcases List.mem_cons.mp z with q1 | q1
  ·exact pne q1
  ·rcases List.mem_cons.mp q1 with q2 | q2
   ·rw[q2,gv0] at e1;cases e1
   ·rcases List.mem_cons.mp q2 with q3 | q3
    ·rw[q3,lf0] at e1;cases e1
    ·exact e2 q3
 ·rw[List.mem_singleton.mp hl]
  exact base_sub
end
theorem made_same {H H':Hp} {x dx C:Addr} (hx:H x=none) (hd:H dx=none) (ne:dx≠x) (b:But [x] (upd (upd H dx (.own x)) x (.ins C dx [])) H'):Same H H':=by
 refine But.same (M:=[x]) (fun m hm=>by rw[List.mem_singleton.mp hm];exact hx) ?_ b
 have s1:=same_new hd (.own x)
 exact s1.trans (same_new (by rw[upd_ne ne.symm];exact hx) _)
theorem made_none {H:Hp} {x dx C b:Addr} {o:HO} (h:upd (upd H dx (.own x)) x o b=none):H b=none∧b≠x∧b≠dx:=by
 by_cases e:b=x
 ·rw[e,upd_same] at h;cases h
 ·rw[upd_ne e] at h
  by_cases e2:b=dx
  ·rw[e2,upd_same] at h;cases h
  ·rw[upd_ne e2] at h
   exact⟨h,e,e2⟩
theorem passX0 {P:Program} {w:World} {X:Cx}:Passes (CXE P w) X E0:=fun _ _ _ _ _ _ _ h=>by
 obtain⟨_,_,_,_,_,_,_,_,_,_,_,_,_,_,_,q⟩:=h
 exact q.elim
section
variable {M N:List Addr} {C:Addr} {H H':Hp} {a:Addr} {U:Tk} {W:Ta}
theorem TalkAt.cutmore (h:TalkAt M C H a U W) (s:Same H H') (hn:∀n∈N,H n=none):TalkAt (N++M) C H' a U W:=by
 have k:Same (cut M H) (cut (N++M) H'):=fun p u e=>by
  obtain⟨e1,e2⟩:=cut_get e
  refine cut_of (s _ _ e1) fun z=>?_
  rcases List.mem_append.mp z with q | q
  ·rw[hn p q] at e1;cases e1
  ·exact e2 q
 exact⟨s _ _ h.ob,s _ _ h.gv,s _ _ h.lf,List.mem_append_right _ h.ma,List.mem_append_right _ h.mg,List.mem_append_right _ h.ml,h.ne,k _ _ h.room,h.tr.keep (TS.same k),k _ _ h.pt,h.sd.keep k,h.en.keep k,h.lr.keep k,h.wr,h.wl,h.ln,h.l9,h.e9,h.tok,h.m5,h.tsz,h.kd,h.ns,h.rl⟩
end
abbrev sTFork:Stmt:=inClass (top 32) 12
def spTFork (C:Addr):Sp:=fun vs H Q _=>∃(a:Addr) (M:List Addr) (U:Tk) (W:Ta),vs=[.ref a]∧TalkAt M C H a U W∧(∀m∈M,H m≠none)∧
 ∀(b:Addr) (U':Tk) (H':Hp),Same H H'→H b=none→H U'.gv=none→H U'.lf=none→TalkAt (b::U'.gv::U'.lf::M) C H' b U' W→Q (.ref b) H'
section
variable {P:Program} {w:World} {K:PySem.W.Frag} {mg:Str→Option Value} {base:Heap} {f:Addr} {fd:FuncData} {cK cS cO cG cT cB cN:Addr}
theorem scTFork:FnScope ["self","other"] ["self"] (defScope sTFork):=⟨rfl,rfl,rfl,by decide +kernel,rfl,by decide +kernel,by decide +kernel⟩
set_option maxHeartbeats 8000000 in
theorem ok_tfork {fI:Addr} {dI:FuncData} (F:Fun K "fork" "Talk.fork" sTFork f fd) (TX:TkX K cK) (T:BTx mg) (GI:FnOk P w K mg base (CXE P w) 5 fI dI ["self","many","room","kind","sentence","rule"] (spTInit cK cS cB cN)) (CI:CalI K mg cK "Talk" fI dI ["self","many","room","kind","sentence","rule"]):FnOk P w K mg base CX0 7 f fd ["self"] (spTFork cK):=by
 refine F.ok scTFork (fun vs H Q E h=>?_) (fun cdv A outer s H vs Q E hr h=>?_)
 ·obtain⟨a,M,U,W,rfl,_⟩:=h
  rfl
 obtain⟨a,M,U,W,rfl,hT,hM,q⟩:=h
 refine⟨_,pss_cons (ps_set (i:=1) scTFork.nd rfl (Or.inl rfl) (pe_make CI.make GI hr (by rfl) CI.m CI.b .nil passX0 (pa_cons (pe_fld (pv 0) rfl) (pa_cons (pe_fld (pv 0) rfl) (pa_cons (pe_fld (pv 0) rfl) (pa_cons (pe_fld (pv 0) rfl) (pa_cons (pe_fld (pv 0) rfl) pa_nil)))))))
  (pss_cons (ps_fld (pv 1) (pe_callTy call_list_of (by rfl) T.lst boot_lst (pa_cons (pe_fld (pv 0) rfl) pa_nil)) rfl)
  (pss_cons (ps_fld (pv 1) (pe_callTy call_list_of (by rfl) T.lst boot_lst (pa_cons (pe_fld (pv 0) rfl) pa_nil)) rfl)
  (pss_cons (ps_fld (pv 1) (pe_fld (pv 0) rfl) rfl)
  (pss_one (ps_ret (pv 1)))))),?_⟩
 refine⟨_,rfl,a,cK,_,_,_,rfl,hT.ob,TX.cl,TX.many,lk_many,_,rfl,a,cK,_,_,_,rfl,hT.ob,TX.cl,TX.space,lk_space,_,rfl,a,cK,_,_,_,rfl,hT.ob,TX.cl,TX.kind,lk_kind,_,rfl,a,cK,_,_,_,rfl,hT.ob,TX.cl,TX.sentence,lk_sentence,_,rfl,a,cK,_,_,_,rfl,hT.ob,TX.cl,TX.rule,lk_rule,fun x dx hx hdx nex=>?_⟩
 have sM:Same H (upd (upd H dx (.own x)) x (.ins cK dx [])):=(same_new hdx _).trans (same_new (by rw[upd_ne nex.symm];exact hx) _)
 have xM:x∉M:=fun z=>hM x z hx
 refine⟨x,dx,U.sp,W.many,W.kind,W.rule,U.sv,W.t,W.room,M,rfl,upd_same,xM,fun m hm z=>hM m hm (sM.free z),hT.tr.keep (TS.same (cut_mono sM)),Tr.ok.mono hT.m5 hT.tok,hT.tsz,hT.m5,sM _ _ (cut_same _ _ hT.room),hT.wr,fun hn=>absurd hT.tok hn,fun _ hn=>absurd ⟨hT.rl,hT.kd⟩ hn,fun _ _ _ he=>absurd he hT.ns,fun _ _ _ _ V1 H1 b1 gv0 lf0 sp0 esv T1=>⟨rfl,?_⟩⟩
 have s1:Same H H1:=made_same hx hdx nex b1
 obtain⟨gvH,ngx,ngd⟩:=made_none (C:=cK) gv0
 obtain⟨lfH,nlx,nld⟩:=made_none (C:=cK) lf0
 have T0:=hT.keep s1
 refine⟨_,rfl,a,cK,_,_,_,rfl,T0.ob,TX.cl,TX.given,lk_given,_,_,rfl,.inl (SqL.of T0.gv),fun g2 hg2=>?_⟩
 have s2:=same_new hg2 (.lst U.ges)
 have g22:upd H1 g2 (.lst U.ges) g2=some (.lst U.ges):=upd_same
 generalize upd H1 g2 _=H2 at *
 have T2:=T1.keep s2
 have ng2x:g2≠x:=(ne_of_none T1.ob hg2).symm
 refine⟨_,rfl,x,cK,_,_,rfl,T2.ob,TX.cl,TX.given,(by show 9<1000;decide),?_⟩
 have e3:putF "given" (.ref g2) (tkF V1 (newTa W.many W.kind W.rule W.t W.room))=tkF { V1 with gv:=g2 } (newTa W.many W.kind W.rule W.t W.room):=by with_unfolding_all rfl
 have x3:upd H2 x (.ins cK V1.dx (putF "given" (.ref g2) (tkF V1 (newTa W.many W.kind W.rule W.t W.room)))) x=some (.ins cK V1.dx (tkF { V1 with gv:=g2 } (newTa W.many W.kind W.rule W.t W.room))):=upd_same.trans (congrArg (fun l=>some (HO.ins cK V1.dx l)) e3)
 have b3:But [x] H2 (upd H2 x (.ins cK V1.dx (putF "given" (.ref g2) (tkF V1 (newTa W.many W.kind W.rule W.t W.room))))):=But.upd (by simp)
 generalize upd H2 x _=H3 at *
 have nax:a≠x:=fun z=>by
  have h:=hT.ob
  rw[z,hx] at h
  cases h
 have nlfx:U.lf≠x:=fun z=>by
  have h:=hT.lf
  rw[z,hx] at h
  cases h
 have lf3:=b3.at (s2 _ _ T0.lf) (not1 nlfx)
 have ob3:=b3.at (s2 _ _ T0.ob) (not1 nax)
 refine⟨_,rfl,a,cK,_,_,_,rfl,ob3,TX.cl,TX.left,lk_left,_,_,rfl,.inl (SqL.of lf3),fun l2 hl2=>?_⟩
 have s4:=same_new hl2 (.lst U.lfs)
 have l24:upd H3 l2 (.lst U.lfs) l2=some (.lst U.lfs):=upd_same
 generalize upd H3 l2 _=H4 at *
 have nl2x:l2≠x:=(ne_of_none x3 hl2).symm
 refine⟨_,rfl,x,cK,_,_,rfl,s4 _ _ x3,TX.cl,TX.left,(by show 9<1000;decide),?_⟩
 have e5:putF "left" (.ref l2) (tkF { V1 with gv:=g2 } (newTa W.many W.kind W.rule W.t W.room))=tkF { V1 with gv:=g2,lf:=l2 } (newTa W.many W.kind W.rule W.t W.room):=by with_unfolding_all rfl
 have x5:upd H4 x (.ins cK V1.dx (putF "left" (.ref l2) (tkF { V1 with gv:=g2 } (newTa W.many W.kind W.rule W.t W.room)))) x=some (.ins cK V1.dx (tkF { V1 with gv:=g2,lf:=l2 } (newTa W.many W.kind W.rule W.t W.room))):=upd_same.trans (congrArg (fun l=>some (HO.ins cK V1.dx l)) e5)
 have b5:But [x] H4 (upd H4 x (.ins cK V1.dx (putF "left" (.ref l2) (tkF { V1 with gv:=g2 } (newTa W.many W.kind W.rule W.t W.room))))):=But.upd (by simp)
 generalize upd H4 x _=H5 at *
 have ob5:=b5.at (s4 _ _ ob3) (not1 nax)
 refine⟨_,rfl,a,cK,_,_,_,rfl,ob5,TX.cl,TX.ended,lk_ended,_,rfl,x,cK,_,_,rfl,x5,TX.cl,TX.ended,(by show 9<1000;decide),?_⟩
 have e6:putF "ended" (.bl W.ended) (tkF { V1 with gv:=g2,lf:=l2 } (newTa W.many W.kind W.rule W.t W.room))=tkF { V1 with gv:=g2,lf:=l2,ges:=U.ges,lfs:=U.lfs } W:=by with_unfolding_all rfl
 have x6:upd H5 x (.ins cK V1.dx (putF "ended" (.bl W.ended) (tkF { V1 with gv:=g2,lf:=l2 } (newTa W.many W.kind W.rule W.t W.room)))) x=some (.ins cK V1.dx (tkF { V1 with gv:=g2,lf:=l2,ges:=U.ges,lfs:=U.lfs } W)):=upd_same.trans (congrArg (fun l=>some (HO.ins cK V1.dx l)) e6)
 have b6:But [x] H5 (upd H5 x (.ins cK V1.dx (putF "ended" (.bl W.ended) (tkF { V1 with gv:=g2,lf:=l2 } (newTa W.many W.kind W.rule W.t W.room))))):=But.upd (by simp)
 generalize upd H5 x _=H6 at *
 have b16:But [x] H1 H6:=Same.trans (cut_mono s2) (Same.trans b3 (Same.trans (cut_mono s4) (Same.trans b5 b6)))
 have off:∀m∈[x],H m=none:=fun m hm=>by rw[List.mem_singleton.mp hm];exact hx
 have s6:Same H H6:=But.same off s1 b16
 have g20:H g2=none:=s1.free hg2
 have l23:H2 l2=none:=by
  cases e:H2 l2 with
  | none=>rfl
  | some o=>rw[b3.at e (not1 nl2x)] at hl2;cases hl2
 have l20:H l2=none:=s1.free (s2.free l23)
 have g26:H6 g2=some (.lst U.ges):=b6.at (b5.at (s4 _ _ (b3.at g22 (not1 ng2x))) (not1 ng2x)) (not1 ng2x)
 have l26:H6 l2=some (.lst U.lfs):=b6.at (b5.at l24 (not1 nl2x)) (not1 nl2x)
 have ngl:g2≠l2:=ne_of_none g22 l23
 have k1:Same (cut (x::V1.gv::V1.lf::M) H1) (cut (x::g2::l2::M) H6):=fun p o e=>by
  obtain⟨e1,e2⟩:=cut_get e
  have n1:p≠x:=fun z=>e2 (by rw[z];simp)
  refine cut_of (b16.at e1 (not1 n1)) fun z=>?_
  simp only[List.mem_cons] at z e2
  rcases z with q1 | q1 | q1 | q1
  ·exact n1 q1
  ·rw[q1,hg2] at e1;cases e1
  ·rw[q1] at e1;rw[s2 _ _ e1] at l23;cases l23
  ·exact e2 (.inr (.inr (.inr q1)))
 have k0:Same (cut M H) (cut (x::g2::l2::M) H6):=fun p o e=>by
  obtain⟨e1,e2⟩:=cut_get e
  refine cut_of (s6 _ _ e1) fun z=>?_
  simp only[List.mem_cons] at z
  rcases z with q1 | q1 | q1 | q1
  ·rw[q1,hx] at e1;cases e1
  ·rw[q1,g20] at e1;cases e1
  ·rw[q1,l20] at e1;cases e1
  ·exact e2 q1
 refine⟨_,rfl,?_⟩
 exact q x { V1 with gv:=g2,lf:=l2,ges:=U.ges,lfs:=U.lfs } H6 s6 hx g20 l20 ⟨x6,g26,l26,by simp,by simp,by simp,ngl,k1 _ _ T1.room,T1.tr.keep (TS.same k1),k1 _ _ T1.pt,T1.sd.keep k1,hT.en.keep k0,hT.lr.keep k0,hT.wr,hT.wl,hT.ln,hT.l9,hT.e9,hT.tok,hT.m5,hT.tsz,hT.kd,hT.ns,hT.rl⟩
end
structure HsX (K:PySem.W.Frag) (C:Addr):Prop where
 cl:Cls K C
 space:NoAttr K C "space"
 many:NoAttr K C "many"
 marks:NoAttr K C "marks"
 talks:NoAttr K C "talks"
 lines:NoAttr K C "lines"
abbrev sShown:Stmt:=top 18
abbrev It2:=Sum Str Tr
def IAt (H:Hp) (v:V):It2→Prop
 | .inl z=>v= .str z
 | .inr t=>t.At H v
abbrev Items (H:Hp):List V→List It2→Prop:=Paired (IAt H)
theorem IAt.keep {H H':Hp} (s:TS H H') {v:V}:∀{i:It2},IAt H v i→IAt H' v i
 | .inl _,h=>h
 | .inr _,h=>Tr.At.keep s h
theorem Items.keep {H H':Hp} (s:TS H H'):∀{xs:List V} {is:List It2},Items H xs is→Items H' xs is
 | _,_,.nil=>.nil
 | _,_,.cons r q=>.cons (IAt.keep s r) (Items.keep s q)
theorem Items.app {H:Hp}:∀{xs ys:List V} {is js:List It2},Items H xs is→Items H ys js→Items H (xs++ys) (is++js)
 | _,_,_,_,.nil,h=>h
 | _,_,_,_,.cons r q,h=>.cons r (Items.app q h)
theorem Items.last {H:Hp}:∀{xs:List V} {ts:List It2},Items H xs ts→xs≠[]→∃xs' y ts' t,xs=xs'++[y]∧ts=ts'++[t]∧Items H xs' ts'∧IAt H y t
 | _,_,.nil,h=>absurd rfl h
 | _,_,.cons (a:=v) (b:=t) r .nil,_=>⟨[],v,[],t,rfl,rfl,.nil,r⟩
 | _,_,.cons (a:=v) (b:=t) r (.cons r' q'),_=>by
  obtain⟨xs',y,ts',u,e1,e2,q,a⟩:=Items.last (Paired.cons r' q') (by intro z;cases z)
  exact⟨v::xs',y,t::ts',u,by rw[e1];rfl,by rw[e2];rfl,.cons r q,a⟩
theorem itS {H:Hp} {z:Str} {ys:List V} {js:List It2} (h:Items H ys js):Items H (.str z::ys) (.inl z::js):=.cons (show IAt H (.str z) (.inl z) from rfl) h
theorem itT {H:Hp} {t:Tr} {v:V} {ys:List V} {js:List It2} (a:t.At H v) (h:Items H ys js):Items H (v::ys) (.inr t::js):=.cons (show IAt H v (.inr t) from a) h
def form:It2→List Nat
 | .inl z=>cds z
 | .inr t=>code t
def wt:Tr→Nat
 | .lt _=>1
 | .nt t=>wt t+2
 | .bn _ a b=>wt a+wt b+4
def wi:It2→Nat
 | .inl _=>1
 | .inr t=>wt t
def iok:It2→Prop
 | .inl z=>z.length=1
 | .inr t=>t.ok 5
theorem wt_pos:∀t:Tr,1≤wt t
 | .lt _=>Nat.le_refl _
 | .nt _=>Nat.le_add_left 1 (wt _+1)
 | .bn _ a b=>Nat.le_add_left 1 (wt a+wt b+3)
theorem wt_le:∀t:Tr,wt t≤4*t.size
 | .lt _=>by show 1≤4*1;decide
 | .nt t=>by
  have:=wt_le t
  show wt t+2≤4*(t.size+1)
  omega
 | .bn _ a b=>by
  have h1:=wt_le a
  have h2:=wt_le b
  show wt a+wt b+4≤4*(a.size+b.size+1)
  omega
theorem wi_pos:∀i:It2,1≤wi i
 | .inl _=>Nat.le_refl _
 | .inr t=>wt_pos t
def ws (is:List It2):Nat:=(is.map wi).sum
theorem ws_app (a b:List It2):ws (a++b)=ws a+ws b:=by
 unfold ws
 rw[List.map_append,List.sum_append]
theorem ws_len:∀is:List It2,is.length≤ws is
 | []=>Nat.le_refl _
 | i::r=>by
  have h1:=wi_pos i
  have h2:=ws_len r
  show r.length+1≤(((i::r).map wi).sum)
  rw[List.map_cons,List.sum_cons]
  show r.length+1≤wi i+ws r
  omega
def flat (ys:List Str):List Nat:=(ys.map cds).flatten
def rev (is:List It2):List Nat:=(is.reverse.map form).flatten
theorem flat_snoc (ys:List Str) (z:Str):flat (ys++[z])=flat ys++cds z:=by
 unfold flat
 simp
theorem rev_app (a b:List It2):rev (a++b)=rev b++rev a:=by
 unfold rev
 simp
theorem rev_one (i:It2):rev [i]=form i:=by
 unfold rev
 simp
theorem flat_len:∀ys:List Str,(ys.map (·.length)).sum=(flat ys).length
 | []=>rfl
 | z::r=>by
  have h:=flat_len r
  rw[List.map_cons,List.sum_cons,h]
  show z.length+(flat r).length=(cds z++flat r).length
  rw[List.length_append,←len_cds]
theorem join_cds:∀ys:List Str,cds (Str.join ⟨#[]⟩ ys)=flat ys
 | []=>rfl
 | z::r=>by
  rw[join_nil_cons,cds_app,join_cds r]
  rfl
theorem tjoin_cds (ys:List Str):cds (Txt.join "" ys)=flat ys:=by
 have e:Txt.join "" ys=Str.join "" ys:=eq_of_beq (join_plain_closes "" ys)
 rw[e]
 exact join_cds ys
structure ShInv (H H2:Hp) (sl wl:Addr) (t0:Tr) (ys:List Str) (xs:List V) (is:List It2):Prop where
 sm:Same H H2
 s:H2 sl=some (.lst (ys.map V.str))
 w:H2 wl=some (.lst xs)
 it:Items H2 xs is
 ok:∀i∈is,iok i
 eq:flat ys++rev is=code t0
 le:ys.length+ws is≤92
theorem ShInv.pop {H H2:Hp} {sl wl:Addr} {t0:Tr} {ys:List Str} {xs:List V} {is:List It2} (nw:H wl=none) (ne:sl≠wl) (p:ShInv H H2 sl wl t0 ys xs is) (h:xs≠[]) :
  ∃y is' i,xs[xs.length-1]? = some y∧is=is'++[i]∧iok i∧IAt (upd H2 wl (.lst xs.dropLast)) y i∧Same H (upd H2 wl (.lst xs.dropLast))∧(upd H2 wl (.lst xs.dropLast)) sl=some (.lst (ys.map V.str))∧
   Items (upd H2 wl (.lst xs.dropLast)) xs.dropLast is'∧(∀i∈is',iok i)∧flat ys++(form i++rev is')=code t0∧ys.length+(ws is'+wi i)≤92∧ws is=ws is'+wi i:=by
 obtain⟨xs',y,is',i,rfl,rfl,q,a⟩:=p.it.last h
 have k:TS H2 (upd H2 wl (.lst (xs'++[y]).dropLast)):=TS.lst p.w
 refine⟨y,is',i,last_at _ _,rfl,p.ok i (by simp),a.keep k,same_put p.sm nw _,by rw[upd_ne ne];exact p.s,?_,fun j hj=>p.ok j (by simp[hj]),?_,?_,?_⟩
 ·rw[List.dropLast_concat] at k ⊢
  exact q.keep k
 ·rw[←p.eq,rev_app,rev_one]
 ·have:=p.le
  rw[ws_app] at this
  have e:ws [i]=wi i:=by unfold ws;simp
  omega
 ·rw[ws_app]
  have e:ws [i]=wi i:=by unfold ws;simp
  omega
def spShown:Sp:=fun vs H Q _=>∃(v:V) (t:Tr),vs=[v]∧t.At H v∧t.ok 5∧t.size≤23∧∀(z:Str) (H':Hp),cds z=code t→Same H H'→Q (.str z) H'
def jtab (k:Str):Option V:=if k="and" then some (.str "&") else if k="or" then some (.str "|") else if k="if" then some (.str ">") else if k="same" then some (.str "=") else none
theorem jtab_at {j:Nat} (h:j<4):∃z:Str,jtab (jn j)=some (.str z)∧cds z=[jc j]:=by
 match j,h with
 | 0,_=>exact⟨"&",by decide,rfl⟩
 | 1,_=>exact⟨"|",by decide,rfl⟩
 | 2,_=>exact⟨">",by decide,rfl⟩
 | 3,_=>exact⟨"=",by decide,rfl⟩
structure ShTxt (P:Program) (w:World) (K:PySem.W.Frag) (mg:Str→Option Value):Prop where
 isi:mg "isinstance"=none
 str:mg "str"=none
 let':∃t,mg "LETTERS"=some (.str "abcde" t)
 jo:∃d,mg "JOINTS"=some (.ref d)∧ModD P w K d jtab
section
variable {P:Program} {w:World} {K:PySem.W.Frag} {mg:Str→Option Value} {base:Heap} {f:Addr} {fd:FuncData}
theorem scShown:FnScope ["sentence","signs","waiting","part"] ["sentence"] (defScope sShown):=⟨rfl,rfl,rfl,by decide +kernel,rfl,by decide +kernel,by decide +kernel⟩
set_option maxHeartbeats 4000000 in
theorem ok_shown (F:Fun K "shown" "shown" sShown f fd) (T:ShTxt P w K mg):FnOk P w K mg base CX0 1 f fd ["sentence"] spShown:=by
 refine F.ok scShown (fun vs H Q E h=>?_) (fun cdv A outer s H vs Q E hr h=>?_)
 ·obtain⟨v,t,rfl,_⟩:=h
  rfl
 obtain⟨v,t,rfl,ha,hok,hs,q⟩:=h
 obtain⟨tL,mL⟩:=T.let'
 obtain⟨dJ,mJ,hJ⟩:=T.jo
 refine⟨_,pss_cons (ps_set (i:=1) scShown.nd rfl (Or.inl rfl) (pe_lst pa_nil))
  (pss_cons (ps_set (i:=2) scShown.nd rfl (Or.inl rfl) (pe_lst (pa_cons (pv 0) pa_nil)))
  (pss_cons (ps_while PassesOwn.never (pt_truth (pv 2) (fun _=>rfl))
   (pss_cons (ps_set (i:=3) scShown.nd rfl (Or.inl rfl) (pe_bm0 PySem.F.plainAttrs_list PySem.F.slot_list_pop PySem.F.type_list_pop mt_pop (pv 2)))
   (pss_one (ps_if (pt_val (pe_callB call_isinst (by rfl) T.isi boot_isinstance (pa_cons (pv 3) (pa_cons (pe_bltn (v:=.ty "str") (by rfl) T.str boot_str rfl) pa_nil))))
    (pss_one (ps_expr (pe_bm PySem.F.plainAttrs_list PySem.F.slot_list_append PySem.F.type_list_append mt_append (pv 1) (pa_cons (pv 3) pa_nil))))
    (pss_one (ps_if (pt_cmpR op_eq (pe_ix ix_tup (pv 3) pe_int (fun _ _=>rfl)) pe_str (nomark _))
     (pss_one (ps_expr (pe_bm PySem.F.plainAttrs_list PySem.F.slot_list_append PySem.F.type_list_append mt_append (pv 1) (pa_cons (pe_ix ix_str (pe_glob (v:=.str "abcde") (by rfl) mL ⟨_,rfl⟩) (pe_ix ix_tup (pv 3) pe_int (fun _ _=>rfl)) (fun _ _=>rfl)) pa_nil))))
     (pss_one (ps_if (pt_cmpR op_eq (pe_ix ix_tup (pv 3) pe_int (fun _ _=>rfl)) pe_str (nomark _))
      (pss_one (ps_expr (pe_bm PySem.F.plainAttrs_list PySem.F.slot_list_extend PySem.F.type_list_extend mt_extend (pv 2) (pa_cons (pe_lst (pa_cons (pe_ix ix_tup (pv 3) pe_int (fun _ _=>rfl)) (pa_cons pe_str pa_nil))) pa_nil))))
      (pss_one (ps_expr (pe_bm PySem.F.plainAttrs_list PySem.F.slot_list_extend PySem.F.type_list_extend mt_extend (pv 2) (pa_cons (pe_lst (pa_cons pe_str (pa_cons (pe_ix ix_tup (pv 3) pe_int (fun _ _=>rfl)) (pa_cons (pe_ix ix_mod (pe_glob (v:=.ref dJ) (by rfl) mJ rfl) (pe_ix ix_tup (pv 3) pe_int (fun _ _=>rfl)) (fun _ _=>rfl)) (pa_cons (pe_ix ix_tup (pv 3) pe_int (fun _ _=>rfl)) (pa_cons pe_str pa_nil)))))) pa_nil))))))))))))
  (pss_one (ps_ret (pe_bm PySem.F.plainAttrs_str PySem.F.slot_str_join PySem.F.type_str_join mt_join pe_str (pa_cons (pv 1) pa_nil)))))),?_⟩
 refine⟨le0,fun sl hsl=>⟨_,rfl,le1,fun wl hwl=>?_⟩⟩
 have ne:sl≠wl:=ne_of_none (upd_same (H:=H) (a:=sl) (o:=.lst [])) hwl
 have nw:H wl=none:=(same_new hsl (.lst [])).free hwl
 have sm0:Same H (upd (upd H sl (.lst [])) wl (.lst [v])):=(same_new hsl _).trans (same_new hwl _)
 have lt9:∀{k:Nat},k≤999→k<sizeLine:=fun h=>small1000 (Nat.le_trans h (by decide))
 refine⟨fun m σ H2=>∃(pv':Option V) (ys:List Str) (xs:List V) (is:List It2),σ=[some v,some (.ref sl),some (.ref wl),pv']∧ShInv H H2 sl wl t ys xs is∧ws is=m,⟨_,none,[],[v],[.inr t],rfl,⟨sm0,by rw[upd_ne ne,upd_same];rfl,upd_same,.cons (ha.keep (TS.same sm0)) .nil,fun i hi=>?_,by rw[rev_one];rfl,?_⟩,rfl⟩,?_⟩
 ·rw[List.mem_singleton.mp hi]
  exact hok
 ·have:=wt_le t
  have e:ws [.inr t]=wt t:=by unfold ws;simp[wi]
  show 0+ws [.inr t]≤92
  omega
 rintro m σ H2 ⟨pv',ys,xs,is,rfl,p,rfl⟩
 refine⟨_,rfl,_,.inl ⟨xs,SqL.of p.w,rfl⟩,?_⟩
 refine ite2 (fun c=>?_) (fun c=>?_)
 ·have hx:xs≠[]:=by
   intro z
   subst z
   exact absurd c (by decide)
  refine⟨fun σ' H'=>∃m',m'<ws is∧∃(pv':Option V) (ys:List Str) (xs:List V) (is:List It2),σ'=[some v,some (.ref sl),some (.ref wl),pv']∧ShInv H H' sl wl t ys xs is∧ws is=m',fun _ _ h=>h,?_⟩
  obtain⟨y,is',i,ey,rfl,oki,ai,sm1,s1,it1,ok1,eq1,le1',we⟩:=p.pop nw ne hx
  have w1:(upd H2 wl (.lst xs.dropLast)) wl=some (.lst xs.dropLast):=upd_same
  have nsl:∀{o:HO},TS (upd H2 wl (.lst xs.dropLast)) (upd (upd H2 wl (.lst xs.dropLast)) sl o):=TS.lst s1
  have nsl0:H sl=none:=hsl
  have hyl:ys.length≤92:=by omega
  have hil:is'.length≤92:=by
   have:=ws_len is'
   omega
  have hxl:xs.dropLast.length≤92:=by
   have e:xs.dropLast.length=is'.length:=Paired.length it1
   omega
  refine⟨_,rfl,.inl ⟨rfl,_,SqL.of p.w⟩,wl,_,y,rfl,rfl,p.w,ey,?_⟩
  have hms:ys.map V.str=ys.map V.str:=rfl
  cases i with
  | inl z=>
   cases ai
   refine⟨_,rfl,_,_,_,_,rfl,.str _,kit_same _ _,_,rfl,?_⟩
   refine iteT ?_
   refine⟨_,rfl,.inl ⟨rfl,_,SqL.of s1⟩,_,rfl,sl,_,_,rfl,rfl,s1,lt9 (by rw[List.length_map];omega),?_⟩
   refine⟨ws is',by rw[we];show ws is'<ws is'+1;omega,_,ys++[z],xs.dropLast,is',rfl,⟨same_put sm1 nsl0 _,by rw[upd_same,List.map_append];rfl,by rw[upd_ne ne.symm];exact w1,it1.keep nsl,ok1,?_,?_⟩,rfl⟩
   ·rw[flat_snoc,List.append_assoc]
    exact eq1
   ·rw[List.length_append]
    have:ys.length+(ws is'+1)≤92:=le1'
    show ys.length+1+ws is'≤92
    omega
  | inr u=>
   cases u with
   | lt k=>
    obtain⟨b,rfl,hb⟩:=ai
    refine⟨_,rfl,_,_,_,_,rfl,.tup hb,kit_tup_str _,_,rfl,?_⟩
    refine iteF ?_
    refine⟨_,rfl,b,_,_,_,rfl,rfl,SqT.of hb,atI_nat (j:=0) rfl,rfl,_,rfl,?_⟩
    refine iteY rfl ?_
    refine⟨_,rfl,.inl ⟨rfl,_,SqL.of s1⟩,_,rfl,b,_,_,_,rfl,rfl,SqT.of hb,atI_nat (j:=1) rfl,_,_,_,rfl,rfl,le5,letter_at oki,sl,_,_,rfl,rfl,s1,lt9 (by rw[List.length_map];omega),?_⟩
    refine⟨ws is',by rw[we];show ws is'<ws is'+1;omega,_,ys++[⟨#[97+k]⟩],xs.dropLast,is',rfl,⟨same_put sm1 nsl0 _,by rw[upd_same,List.map_append];rfl,by rw[upd_ne ne.symm];exact w1,it1.keep nsl,ok1,?_,?_⟩,rfl⟩
    ·rw[flat_snoc,List.append_assoc]
     exact eq1
    ·rw[List.length_append]
     have:ys.length+(ws is'+1)≤92:=le1'
     show ys.length+1+ws is'≤92
     omega
   | nt u=>
    obtain⟨b,x,rfl,hb,hx'⟩:=ai
    refine⟨_,rfl,_,_,_,_,rfl,.tup hb,kit_tup_str _,_,rfl,?_⟩
    refine iteF ?_
    refine⟨_,rfl,b,_,_,_,rfl,rfl,SqT.of hb,atI_nat (j:=0) rfl,rfl,_,rfl,?_⟩
    refine iteN (by decide) ?_
    refine⟨_,rfl,b,_,_,_,rfl,rfl,SqT.of hb,atI_nat (j:=0) rfl,rfl,_,rfl,?_⟩
    refine iteY rfl ?_
    have le2':ys.length+(ws is'+(wt u+2))≤92:=le1'
    refine⟨_,rfl,.inl ⟨rfl,_,SqL.of w1⟩,_,rfl,b,_,_,_,rfl,rfl,SqT.of hb,atI_nat (j:=1) rfl,le2,fun nl hnl=>?_⟩
    have kp:TS (upd H2 wl (.lst xs.dropLast)) (upd (upd (upd H2 wl (.lst xs.dropLast)) nl (.lst [x,.str "-"])) wl (.lst (xs.dropLast++[x,.str "-"]))):=(TS.new hnl).trans (TS.lst ((same_new hnl _) _ _ w1))
    refine⟨wl,nl,_,_,rfl,rfl,(same_new hnl _) _ _ w1,upd_same,small (by show xs.dropLast.length+2≤1000;omega),?_⟩
    have ew:ws (is'++[.inr u,.inl "-"])=ws is'+(wt u+1):=by
     rw[ws_app]
     unfold ws
     simp[wi]
    refine⟨_,?_,_,ys,xs.dropLast++[x,.str "-"],is'++[.inr u,.inl "-"],rfl,⟨same_put (sm1.trans (same_new hnl _)) nw _,by rw[upd_ne ne];exact (same_new hnl _) _ _ s1,upd_same,(it1.keep kp).app (itT (hx'.keep kp) (itS .nil)),?_,?_,?_⟩,rfl⟩
    ·rw[we,ew]
     show ws is'+(wt u+1)<ws is'+(wt u+2)
     omega
    ·intro j hj
     rcases List.mem_append.mp hj with z | z
     ·exact ok1 j z
     ·rcases List.mem_cons.mp z with z | z
      ·subst z;exact oki
      ·rw[List.mem_singleton.mp z];rfl
    ·rw[rev_app,←eq1]
     congr 1
     unfold rev
     simp[form,code]
     rfl
    ·rw[ew]
     omega
   | bn j a b'=>
    obtain⟨b,x,x2,rfl,hb,hx',hx2⟩:=ai
    obtain⟨hj,oka,okb⟩:=oki
    obtain⟨zj,ej,cj⟩:=jtab_at hj
    refine⟨_,rfl,_,_,_,_,rfl,.tup hb,kit_tup_str _,_,rfl,?_⟩
    refine iteF ?_
    refine⟨_,rfl,b,_,_,_,rfl,rfl,SqT.of hb,atI_nat (j:=0) rfl,rfl,_,rfl,?_⟩
    refine iteN jn_let ?_
    refine⟨_,rfl,b,_,_,_,rfl,rfl,SqT.of hb,atI_nat (j:=0) rfl,rfl,_,rfl,?_⟩
    refine iteN jn_not ?_
    have le2':ys.length+(ws is'+(wt a+wt b'+4))≤92:=le1'
    refine⟨_,rfl,.inl ⟨rfl,_,SqL.of w1⟩,_,rfl,b,_,_,_,rfl,rfl,SqT.of hb,atI_nat (j:=2) rfl,_,rfl,b,_,_,_,rfl,rfl,SqT.of hb,atI_nat (j:=0) rfl,dJ,_,_,_,rfl,rfl,hJ,ej,_,rfl,b,_,_,_,rfl,rfl,SqT.of hb,atI_nat (j:=1) rfl,le5,fun nl hnl=>?_⟩
    have kp:TS (upd H2 wl (.lst xs.dropLast)) (upd (upd (upd H2 wl (.lst xs.dropLast)) nl (.lst [.str ")",x2,.str zj,x,.str "("])) wl (.lst (xs.dropLast++[.str ")",x2,.str zj,x,.str "("]))):=(TS.new hnl).trans (TS.lst ((same_new hnl _) _ _ w1))
    refine⟨wl,nl,_,_,rfl,rfl,(same_new hnl _) _ _ w1,upd_same,small (by show xs.dropLast.length+5≤1000;omega),?_⟩
    have ew:ws (is'++[.inl ")",.inr b',.inl zj,.inr a,.inl "("])=ws is'+(wt a+wt b'+3):=by
     rw[ws_app]
     unfold ws
     simp[wi]
     omega
    refine⟨_,?_,_,ys,xs.dropLast++[.str ")",x2,.str zj,x,.str "("],is'++[.inl ")",.inr b',.inl zj,.inr a,.inl "("],rfl,⟨same_put (sm1.trans (same_new hnl _)) nw _,by rw[upd_ne ne];exact (same_new hnl _) _ _ s1,upd_same,(it1.keep kp).app (itS (itT (hx2.keep kp) (itS (itT (hx'.keep kp) (itS .nil))))),?_,?_,?_⟩,rfl⟩
    ·rw[we,ew]
     show ws is'+(wt a+wt b'+3)<ws is'+(wt a+wt b'+4)
     omega
    ·intro i' hi'
     rcases List.mem_append.mp hi' with z | z
     ·exact ok1 i' z
     ·have e5:i'= .inl ")"∨i'= .inr b'∨i'= .inl zj∨i'= .inr a∨i'= .inl "(":=by simpa using z
      rcases e5 with e | e | e | e | e
      ·subst e;rfl
      ·subst e;exact okb
      ·subst e
       show zj.length=1
       rw[len_cds,cj]
       rfl
      ·subst e;exact oka
      ·subst e;rfl
    ·rw[rev_app,←eq1]
     congr 1
     have e3:rev [.inl ")",.inr b',.inl zj,.inr a,.inl "("]=cds "("++(code a++(cds zj++(code b'++cds ")"))):=by
      unfold rev
      simp[form]
     rw[e3,cj]
     rfl
    ·rw[ew]
     omega
 ·have hx:xs=[]:=by
   cases xs with
   | nil=>rfl
   | cons a r=>exact absurd rfl c
  subst hx
  have eq1:=p.eq
  cases p.it
  have eq2:flat ys=code t:=by
   have:rev []=[]:=rfl
   rw[this,List.append_nil] at eq1
   exact eq1
  refine⟨rfl,_,rfl,_,_,ys,rfl,rfl,SqL.of p.s,?_,?_⟩
  ·rw[flat_len,eq2]
   have:=code_len t
   show (code t).length+ys.length*0≤16777216
   omega
  ·exact q _ H2 (by rw[tjoin_cds];exact eq2) p.sm
end
theorem modD4 {P:Program} {w:World} {K:PySem.W.Frag} {dd:Addr} {a b c d x y z u:Str} {t1 t2 t3 t4 t5 t6 t7 t8:Tok} {ep:Nat} {f:Str→Option V}
  (l:K.lookup dd=some ⟨.type "dict",none,.dict #[⟨hashStr w a,.str a t1,.str x t2⟩,⟨hashStr w b,.str b t3,.str y t4⟩,⟨hashStr w c,.str c t5,.str z t6⟩,⟨hashStr w d,.str d t7,.str u t8⟩] ep,#[]⟩)
  (nd:[a,b,c,d].Nodup) (nm:(dd == sysModules)=false) (hf:∀k,f k=if k=a then some (.str x) else if k=b then some (.str y) else if k=c then some (.str z) else if k=d then some (.str u) else none):ModD P w K dd f:=by
 refine⟨nm,_,[(a,.str x t2),(b,.str y t4),(c,.str z t6),(d,.str u t8)],l,⟨_,_,⟨rfl,rfl,rfl⟩,rfl,fun e he=>?_,?_,nd⟩,fun k=>?_⟩
 ·have he':e=⟨hashStr w a,.str a t1,.str x t2⟩∨e=⟨hashStr w b,.str b t3,.str y t4⟩∨e=⟨hashStr w c,.str c t5,.str z t6⟩∨e=⟨hashStr w d,.str d t7,.str u t8⟩:=by simpa using he
  rcases he' with e1 | e1 | e1 | e1
  ·subst e1;exact⟨a,strKind_is _ _ _ _,rfl⟩
  ·subst e1;exact⟨b,strKind_is _ _ _ _,rfl⟩
  ·subst e1;exact⟨c,strKind_is _ _ _ _,rfl⟩
  ·subst e1;exact⟨d,strKind_is _ _ _ _,rfl⟩
 ·exact .cons (strKind_is _ _ _ _) rfl (.cons (strKind_is _ _ _ _) rfl (.cons (strKind_is _ _ _ _) rfl (.cons (strKind_is _ _ _ _) rfl .nil)))
 ·rw[hf]
  unfold valueAt
  by_cases h1:k=a
  ·subst h1
   rw[if_pos rfl,List.find?_cons_of_pos (by simp)]
   exact⟨_,rfl⟩
  rw[if_neg h1,List.find?_cons_of_neg (by simpa using fun q=>h1 q.symm)]
  by_cases h2:k=b
  ·subst h2
   rw[if_pos rfl,List.find?_cons_of_pos (by simp)]
   exact⟨_,rfl⟩
  rw[if_neg h2,List.find?_cons_of_neg (by simpa using fun q=>h2 q.symm)]
  by_cases h3:k=c
  ·subst h3
   rw[if_pos rfl,List.find?_cons_of_pos (by simp)]
   exact⟨_,rfl⟩
  rw[if_neg h3,List.find?_cons_of_neg (by simpa using fun q=>h3 q.symm)]
  by_cases h4:k=d
  ·subst h4
   rw[if_pos rfl,List.find?_cons_of_pos (by simp)]
   exact⟨_,rfl⟩
  rw[if_neg h4,List.find?_cons_of_neg (by simpa using fun q=>h4 q.symm)]
  exact True.intro
abbrev sRoomOf:Stmt:=top 27
def roomR (m:Nat) (ts:List Tr):List Int:=ts.foldl (fun r t=>r.filter fun k=>tv t k == true) (upto (2^m))
theorem room_snoc {m:Nat} {ts:List Tr} {t:Tr}:roomR m (ts++[t])=(roomR m ts).filter fun k=>tv t k == true:=by
 unfold roomR
 rw[List.foldl_append]
 rfl
theorem fold_sub:∀(ts:List Tr) (r:List Int),(ts.foldl (fun r t=>r.filter fun k=>tv t k == true) r).Sublist r
 | [],r=>List.Sublist.refl r
 | t::ts,r=>(fold_sub ts _).trans List.filter_sublist
theorem room_wr {m:Nat} (h:m≤5) (ts:List Tr):Wr (roomR m ts):=(wr_upto h).sub (fold_sub ts _)
def spRoomOf (cS cW:Addr):Sp:=fun vs H Q E=>∃(st:Addr) (m:Nat) (xs:List V) (ts:List Tr),vs=[.int m,.ref st]∧H st=some (.lst xs)∧Pile H xs ts∧(∀t∈ts,t.ok 5∧t.size≤60)∧1≤m∧m≤5∧
 ((∃t∈ts,¬t.ok m)→∀H',Same H H'→E (.ref cS) none H')∧((∀t∈ts,t.ok m)→roomR m ts=[]→∀H',Same H H'→E (.ref cW) none H')∧
 ((∀t∈ts,t.ok m)→roomR m ts≠[]→∀(l:Addr) (H':Hp),Same H H'→H l=none→RowAt H' l (roomR m ts)→Q (.ref l) H')
section
variable {P:Program} {w:World} {K:PySem.W.Frag} {mg:Str→Option Value} {base:Heap} {f:Addr} {fd:FuncData} {cS cW cT:Addr}
theorem scRoomOf:FnScope ["many","standing","sentence","room"] ["many","standing"] (defScope sRoomOf):=⟨rfl,rfl,rfl,by decide +kernel,rfl,by decide +kernel,by decide +kernel⟩
set_option maxHeartbeats 4000000 in
theorem ok_roomof {g1 g2 g3:Addr} {d1 d2 d3:FuncData} (F:Fun K "room_of" "room_of" sRoomOf f fd) (T:BTx mg) (XW:OwnX K mg "NoWorld" cW cT)
  (GR:FnOk P w K mg base (CXE P w) 3 g1 d1 ["sentence","many"] (spRefuse cS)) (CR:Cal K mg "refuse_strange" g1 d1 ["sentence","many"])
  (GA:FnOk P w K mg base CX0 1 g2 d2 ["many"] spWorlds) (CA:Cal K mg "all_worlds" g2 d2 ["many"])
  (GW:FnOk P w K mg base CX0 3 g3 d3 ["sentence","room"] (spWorldsOfP K)) (CW:Cal K mg "worlds_of" g3 d3 ["sentence","room"]):FnOk P w K mg base (CXE P w) 4 f fd ["many","standing"] (spRoomOf cS cW):=by
 refine Fun.okX F scRoomOf (fun vs H Q E h=>?_) (fun cdv A outer s H vs Q E hr h=>?_)
 ·obtain⟨st,m,xs,ts,rfl,_⟩:=h
  rfl
 obtain⟨st,m,xs,ts,rfl,hS,hP,hok,hm1,hm5,qS,qW,q⟩:=h
 have hr1:Room 1 _:=hr.mono (by decide)
 have hr3:Room 3 _:=hr.mono (by decide)
 have hpl:=hP.len
 refine⟨_,pss_cons (ps_for PassesOwn.leaving rfl (pi_list (pv 1)) (pg_name (i:=2) scRoomOf.nd rfl (Or.inl rfl))
   (pss_one (ps_expr (pe_call GR hr3 (by rfl) CR.m CR.k CR.b .nil (pass_own (E1:=E) fun _ _ _ h=>h) (pa_cons (pv 2) (pa_cons (pv 0) pa_nil))))))
  (pss_cons (ps_set (i:=3) scRoomOf.nd rfl (Or.inl rfl) (pe_call GA hr1 (by rfl) CA.m CA.k CA.b .nil pass0 (pa_cons (pv 0) pa_nil)))
  (pss_cons (ps_for PassesOwn.leaving rfl (pi_list (pv 1)) (pg_name (i:=2) scRoomOf.nd rfl (Or.inl rfl))
   (pss_one (ps_set (i:=3) scRoomOf.nd rfl (Or.inl rfl) (pe_call GW hr3 (by rfl) CW.m CW.k CW.b .nil pass0 (pa_cons (pv 2) (pa_cons (pv 3) pa_nil))))))
  (pss_cons (ps_if (pt_not (pt_truth (pv 3) (fun _=>rfl)))
   (pss_one (ps_raise0 (Ex:=E) lets_own rfl XW.cls XW.at_ XW.ty (by rfl) XW.m (pa_cons pe_str pa_nil) (hvl:=fun _ _ _ h=>⟨by decide,h⟩)))
   pss_nil)
  (pss_one (ps_ret (pv 3)))))),?_⟩
 refine⟨_,rfl,st,rfl,⟨_,SqL.of hS⟩,for_list (K:=K) (a:=st) (xs:=xs) (fun i σ H2=>∃v0,σ=[some (.int (m:Int)),some (.ref st),v0,none]∧Same H H2∧∀t∈ts.take i,t.ok m) ⟨_,rfl,Same.refl _,fun t ht=>by simp at ht⟩ ?_ ?_ ?_⟩
 ·rintro i σ H2 _ ⟨v0,rfl,s2,_⟩
  exact SqL.of (s2 _ _ hS)
 ·rintro i x σ H2 hx ⟨v0,rfl,s2,hall⟩
  obtain⟨t,ht,hat⟩:=pile_get hP hx
  obtain⟨o1,o2⟩:=hok t (List.mem_of_getElem? ht)
  refine⟨_,rfl,_,rfl,x,t,m,rfl,hat.keep (TS.same s2),o1,o2,fun hn H3 s3=>qS ⟨t,List.mem_of_getElem? ht,hn⟩ H3 (s2.trans s3),fun hy H3 s3=>?_⟩
  refine⟨_,rfl,s2.trans s3,fun u hu=>?_⟩
  rw[List.take_add_one,ht] at hu
  rcases List.mem_append.mp hu with h1 | h1
  ·exact hall u h1
  ·have:u=t:=by simpa using h1
   rw[this]
   exact hy
 rintro σ H2 ⟨v0,rfl,s2,hall⟩
 rw[hpl,List.take_length] at hall
 refine⟨_,rfl,m,rfl,hm1,hm5,fun r H3 s3 r0 hr3'=>?_⟩
 have s23:=s2.trans s3
 refine⟨_,rfl,st,rfl,⟨_,SqL.of (s23 _ _ hS)⟩,for_list (K:=K) (a:=st) (xs:=xs) (fun i σ H4=>∃(v0:Option V) (r:Addr),σ=[some (.int (m:Int)),some (.ref st),v0,some (.ref r)]∧Same H H4∧H r=none∧RowAt H4 r (roomR m (ts.take i))) ⟨_,r,rfl,s23,s2.free r0,hr3'⟩ ?_ ?_ ?_⟩
 ·rintro i σ H4 _ ⟨v0,r,rfl,s4,_⟩
  exact SqL.of (s4 _ _ hS)
 ·rintro i x σ H4 hx ⟨v0,r,rfl,s4,r0',hr4⟩
  obtain⟨t,ht,hat⟩:=pile_get hP hx
  obtain⟨o1,o2⟩:=hok t (List.mem_of_getElem? ht)
  refine⟨_,rfl,_,rfl,x,t,r,_,rfl,hat.keep (TS.same s4),o1,by omega,SqL.of hr4,room_wr hm5 _,fun l H5 s5 l0 hl=>?_⟩
  refine⟨_,l,rfl,s4.trans s5,s4.free l0,?_⟩
  rw[List.take_add_one,ht]
  show RowAt H5 l (roomR m (ts.take i++[t]))
  rw[room_snoc]
  exact hl
 rintro σ H4 ⟨v0,r,rfl,s4,r0',hr4⟩
 rw[hpl,List.take_length] at hr4
 refine⟨_,rfl,_,.inl ⟨_,SqL.of hr4,rfl⟩,?_⟩
 by_cases c:roomR m ts=[]
 ·rw[c]
  exact iteT (qW hall c H4 s4)
 ·have e:(!((roomR m ts).map V.int).isEmpty)=true:=by
   cases h:roomR m ts with
   | nil=>exact absurd h c
   | cons _ _=>rfl
  rw[e]
  exact iteF ⟨_,rfl,q hall c r H4 s4 r0' hr4⟩
end
abbrev sLineOf:Stmt:=top 34
abbrev sHInit:Stmt:=inClass (top 38) 0
abbrev sHWrite:Stmt:=inClass (top 38) 24
structure Hk where
 dx:Addr
 sp:Addr
 mks:Addr
 tk:Addr
 ln:Addr
def hkF (U:Hk) (m:Nat):List (Str×V):=[("space",.ref U.sp),("many",.int m),("marks",.ref U.mks),("talks",.ref U.tk),("lines",.ref U.ln)]
theorem hk_space {U:Hk} {m:Nat}:(hkF U m).lookup ("space":Str)=some (.ref U.sp):=by with_unfolding_all rfl
theorem hk_lines {U:Hk} {m:Nat}:(hkF U m).lookup ("lines":Str)=some (.ref U.ln):=by with_unfolding_all rfl
theorem ho_write {U:Hk} {m:Nat}:(hkF U m).lookup ("write":Str)=none:=by with_unfolding_all rfl
def lineT (ws:List Str):Str:=Txt.join " " ws
def spLineOf:Sp:=fun vs H Q _=>∃(l:Addr) (ws:List Str),vs=[.ref l]∧H l=some (.lst (ws.map V.str))∧(ws.map (·.length)).sum+ws.length≤100000∧Q (.str (lineT ws)) H
def spHWrite (C:Addr):Sp:=fun vs H Q _=>∃(x l:Addr) (U:Hk) (m:Nat) (ws:List Str) (ls:List V),vs=[.ref x,.ref l]∧H x=some (.ins C U.dx (hkF U m))∧H U.ln=some (.lst ls)∧ls.length≤900∧H l=some (.lst (ws.map V.str))∧(ws.map (·.length)).sum+ws.length≤100000∧Q .non (upd H U.ln (.lst (ls++[.str (lineT ws)])))
section
variable {P:Program} {w:World} {K:PySem.W.Frag} {mg:Str→Option Value} {base:Heap} {f:Addr} {fd:FuncData} {cH cS cW cT:Addr}
theorem scLineOf:FnScope ["words"] ["words"] (defScope sLineOf):=⟨rfl,rfl,rfl,by decide +kernel,rfl,by decide +kernel,by decide +kernel⟩
theorem scHWrite:FnScope ["self","words"] ["self","words"] (defScope sHWrite):=⟨rfl,rfl,rfl,by decide +kernel,rfl,by decide +kernel,by decide +kernel⟩
theorem ok_lineof (F:Fun K "line_of" "line_of" sLineOf f fd):FnOk P w K mg base CX0 1 f fd ["words"] spLineOf:=by
 refine F.ok scLineOf (fun vs H Q E h=>?_) (fun cdv A outer s H vs Q E hr h=>?_)
 ·obtain⟨l,ws,rfl,_⟩:=h
  rfl
 obtain⟨l,ws,rfl,hl,hz,q⟩:=h
 refine⟨_,pss_one (ps_ret (pe_bm PySem.F.plainAttrs_str PySem.F.slot_str_join PySem.F.type_str_join mt_join pe_str (pa_cons (pv 0) pa_nil))),?_⟩
 exact⟨rfl,_,rfl," ",l,ws,rfl,rfl,SqL.of hl,by show (ws.map (·.length)).sum+ws.length*1≤16777216;omega,q⟩
set_option maxHeartbeats 4000000 in
theorem ok_hwrite {g:Addr} {gd:FuncData} (F:Fun K "write" "House.write" sHWrite f fd) (HX:HsX K cH) (GL:FnOk P w K mg base CX0 1 g gd ["words"] spLineOf) (CL:Cal K mg "line_of" g gd ["words"]):FnOk P w K mg base CX0 2 f fd ["self","words"] (spHWrite cH):=by
 refine F.ok scHWrite (fun vs H Q E h=>?_) (fun cdv A outer s H vs Q E hr h=>?_)
 ·obtain⟨x,l,U,m,ws,ls,rfl,_⟩:=h
  rfl
 obtain⟨x,l,U,m,ws,ls,rfl,hx,hln,hls,hl,hz,q⟩:=h
 have hr1:Room 1 _:=hr.mono (by decide)
 refine⟨_,pss_one (ps_expr (pe_bm PySem.F.plainAttrs_list PySem.F.slot_list_append PySem.F.type_list_append mt_append (pe_fld (pv 0) rfl) (pa_cons (pe_call GL hr1 (by rfl) CL.m CL.k CL.b .nil pass0 (pa_cons (pv 1) pa_nil)) pa_nil))),?_⟩
 exact⟨_,rfl,x,cH,_,_,_,rfl,hx,HX.cl,HX.lines,hk_lines,.inl ⟨rfl,_,SqL.of hln⟩,_,rfl,l,ws,rfl,hl,hz,U.ln,_,_,rfl,rfl,hln,small1000 (by omega),q⟩
end
theorem comp_vals {K:PySem.W.Frag} {a acc:Addr} {xs vs:List V} {te:TE} {rest:L2.St} {D:Ends} {H:Hp} (hr:SqL K H a xs) (hacc:H acc=none) (hlen:xs.length≤900) (hb:vs.length=xs.length)
  (ht:∀(i:Nat) (x b:V),xs[i]? = some x→vs[i]? = some b→∀H2,Same H H2→∀R:V→Hp→Prop,(∀H3,Same H2 H3→R b H3)→te (some x::rest) H2 R)
  (hd:∀v0 H2,Same H H2→H2 acc=some (.lst vs)→D.nx (v0::rest) H2) (v:Option V) :
  loopR (Itl K a) (gName 0) (tIfC tYes (tEmit acc te)) D (v::rest) (upd H acc (.lst [])):=by
 refine for_list (K:=K) (a:=a) (xs:=xs) (fun i σ H2=>∃v0,σ=v0::rest∧Same H H2∧H2 acc=some (.lst (vs.take i))) ⟨v,rfl,same_new hacc _,upd_same⟩ ?_ ?_ ?_
 ·rintro i σ H2 _ ⟨v0,rfl,s2,_⟩
  exact s2.seq hr
 ·rintro i x σ H2 hx ⟨v0,rfl,s2,ha2⟩
  have hi:i<vs.length:=by
   have:=(List.getElem?_eq_some_iff.mp hx).1
   omega
  have hbi:vs[i]? = some vs[i]:=List.getElem?_eq_getElem hi
  have et:vs.take (i+1)=vs.take i++[vs[i]]:=by rw[List.take_add_one,hbi];rfl
  show tEmit acc te _ _ _
  refine ht i x _ hx hbi H2 s2 _ fun H3 s3=>?_
  refine⟨_,s3 _ _ ha2,small1000 ?_,?_⟩
  ·rw[List.length_take]
   omega
  refine⟨_,rfl,same_put (s2.trans s3) hacc _,?_⟩
  rw[upd_same,et]
 ·rintro σ H2 ⟨v0,rfl,s2,ha2⟩
  rw[←hb,List.take_length] at ha2
  exact hd v0 H2 s2 ha2
def shS (t:Tr):Str:=⟨(code t).toArray⟩
theorem shS_of {z:Str} {t:Tr} (h:cds z=code t):z=shS t:=by
 unfold shS
 rw[←h]
theorem shS_len (t:Tr):(shS t).length≤4*t.size:=by
 have:=code_len t
 have e:(shS t).length=(code t).length:=by
  show (code t).toArray.size=_
  rw[List.size_toArray]
 omega
def houseL (m:Nat) (ts:List Tr):Str:=lineT (Str.ofString "house"::Str.ofString (toString (m:Int))::ts.map shS)
theorem shlens_le:∀{ts:List Tr},(∀t∈ts,t.size≤60)→((ts.map shS).map (·.length)).sum≤240*ts.length
 | [],_=>Nat.le_refl _
 | t::ts,h=>by
  have h1:=shS_len t
  have h2:=h t List.mem_cons_self
  have h3:=shlens_le (ts:=ts) fun u hu=>h u (List.mem_cons_of_mem _ hu)
  rw[List.map_cons,List.map_cons,List.sum_cons,List.length_cons]
  omega
theorem digit_len {m:Nat} (h:m≤5):(Str.ofString (toString (m:Int))).length≤10:=by
 match m,h with
 | 0,_=>decide
 | 1,_=>decide
 | 2,_=>decide
 | 3,_=>decide
 | 4,_=>decide
 | 5,_=>decide
theorem flat_rep (m:Nat):(List.replicate ((m:Int)).toNat [V.non]).flatten=List.replicate m V.non:=by
 rw[Int.toNat_natCast]
 induction m with
 | zero=>rfl
 | succ m ih=>rw[List.replicate_succ,List.flatten_cons,ih];rfl
def spHInit (C cS cW:Addr):Sp:=fun vs H Q E=>∃(x dx st:Addr) (m:Nat) (xs:List V) (ts:List Tr),vs=[.ref x,.int m,.ref st]∧H x=some (.ins C dx [])∧H st=some (.lst xs)∧Pile H xs ts∧(∀t∈ts,t.ok 5∧t.size≤23)∧ts.length≤100∧1≤m∧m≤5∧
 ((∃t∈ts,¬t.ok m)→∀H',But [x] H H'→E (.ref cS) none H')∧((∀t∈ts,t.ok m)→roomR m ts=[]→∀H',But [x] H H'→E (.ref cW) none H')∧
 ((∀t∈ts,t.ok m)→roomR m ts≠[]→∀(U:Hk) (H':Hp),But [x] H H'→H U.sp=none→H U.mks=none→H U.tk=none→H U.ln=none→H' x=some (.ins C U.dx (hkF U m))→RowAt H' U.sp (roomR m ts)→H' U.mks=some (.lst (List.replicate m .non))→H' U.tk=some (.dK [])→H' U.ln=some (.lst [.str (houseL m ts)])→Q .non H')
section
variable {P:Program} {w:World} {K:PySem.W.Frag} {mg:Str→Option Value} {base:Heap} {f:Addr} {fd:FuncData} {cH cS cW cT:Addr}
theorem scHInit:FnScope ["self","many","standing"] ["self","many","standing"] (defScope sHInit):=⟨rfl,rfl,rfl,by decide +kernel,rfl,by decide +kernel,by decide +kernel⟩
set_option maxHeartbeats 4000000 in
theorem ok_hinit {g1 g2 m1:Addr} {d1 d2 e1:FuncData} (F:Fun K "__init__" "House.__init__" sHInit f fd) (HX:HsX K cH) (T:BTx mg)
  (GR:FnOk P w K mg base (CXE P w) 4 g1 d1 ["many","standing"] (spRoomOf cS cW)) (CR:Cal K mg "room_of" g1 d1 ["many","standing"])
  (GS:FnOk P w K mg base CX0 1 g2 d2 ["sentence"] spShown) (CS:Cal K mg "shown" g2 d2 ["sentence"])
  (G1:FnOk P w K mg base CX0 2 m1 e1 ["self","words"] (spHWrite cH)) (C1:CalM K cH "write" m1 e1 ["self","words"]):FnOk P w K mg base (CXE P w) 5 f fd ["self","many","standing"] (spHInit cH cS cW):=by
 refine Fun.okX F scHInit (fun vs H Q E h=>?_) (fun cdv A outer s H vs Q E hr h=>?_)
 ·obtain⟨x,dx,st,m,xs,ts,rfl,_⟩:=h
  rfl
 obtain⟨x,dx,st,m,xs,ts,rfl,hx,hS,hP,hok,hlen,hm1,hm5,qS,qW,q⟩:=h
 have hr1:Room 1 _:=hr.mono (by decide)
 have hr2:Room 2 _:=hr.mono (by decide)
 have hpl:=hP.len
 have nsx:st≠x:=ne_of hS hx (by intro z;cases z)
 have kt:∀{H1:Hp},But [x] H H1→TS H H1:=fun b p xs e=>b.at e (not1 (ne_of e hx (by intro z;cases z)))
 refine⟨_,pss_cons (ps_fld (pv 0) (pe_call GR hr (by rfl) CR.m CR.k CR.b .nil (pass_own (E1:=E) fun _ _ _ h=>h) (pa_cons (pv 1) (pa_cons (pv 2) pa_nil))) rfl)
  (pss_cons (ps_fld (pv 0) (pv 1) rfl)
  (pss_cons (ps_fld (pv 0) (pe_op op_rep (pe_lst (pa_cons pe_non pa_nil)) (pv 1)) rfl)
  (pss_cons (ps_fld (pv 0) pe_emptyD rfl)
  (pss_cons (ps_fld (pv 0) (pe_lst pa_nil) rfl)
  (pss_one (ps_expr (pe_meth (pv 0) HX.cl C1.m G1 hr2 C1.b .nil pass0 (pa_cons (pe_op op_cat (pe_lst (pa_cons pe_str (pa_cons (pe_callTy call_strI (by rfl) T.str boot_str (pa_cons (pv 1) pa_nil)) pa_nil))) (PE.nox (pe_comp1 (N:=["sentence"]) (js:=[none]) (cl:=[]) ⟨rfl,rfl,rfl,List.forall_mem_nil _,rfl,rfl,rfl⟩ (pi_list (pv 2)) (fun c1=>(pg_name (i:=0) (show (["sentence"]:List Str).Nodup by decide +kernel) rfl (Or.inl rfl))) (fun c1=>pts_nil) (fun c1=>(pe_call GS hr1 (by rfl) CS.m CS.k CS.b .nil pass0 (pa_cons (pv 0) pa_nil)))))) pa_nil)))))))),?_⟩
 refine⟨_,rfl,_,rfl,st,m,xs,ts,rfl,hS,hP,fun t ht=>⟨(hok t ht).1,by have:=(hok t ht).2;omega⟩,hm1,hm5,fun h1 H' s'=>qS h1 H' (cut_mono s'),fun h1 h2 H' s'=>qW h1 h2 H' (cut_mono s'),fun h1 h2 sp H2 s2 sp0 hsp=>?_⟩
 have b2:But [x] H H2:=cut_mono s2
 have x2:=s2 _ _ hx
 have nspx:sp≠x:=(ne_of_none hx sp0).symm
 refine⟨_,rfl,x,cH,dx,_,rfl,x2,HX.cl,HX.space,(by decide),?_⟩
 obtain⟨b3,x3,c3⟩:=fld_step (C:=cH) (dx:=dx) (f:="space") (v:=.ref sp) (fs:=[]) (fs':=[("space",.ref sp)]) (by with_unfolding_all rfl) b2
 generalize upd H2 x _=H3 at *
 have sp3:=c3.at hsp (not1 nspx)
 refine⟨_,rfl,_,rfl,x,cH,dx,_,rfl,x3,HX.cl,HX.many,(by show 1<1000;decide),?_⟩
 obtain⟨b4,x4,c4⟩:=fld_step (C:=cH) (dx:=dx) (f:="many") (v:=.int m) (fs:=[("space",.ref sp)]) (fs':=[("space",.ref sp),("many",.int m)]) (by with_unfolding_all rfl) b3
 generalize upd H3 x _=H4 at *
 have sp4:=c4.at sp3 (not1 nspx)
 refine⟨le1,fun nl hnl=>?_⟩
 have s5:=same_new hnl (.lst [.non])
 have nl5:upd H4 nl (.lst [.non]) nl=some (.lst [.non]):=upd_same
 generalize upd H4 nl _=H5 at *
 refine⟨_,rfl,nl,(m:Int),_,rfl,rfl,nl5,by omega,by omega,by show 1*((m:Int)).toNat≤sizeLine;exact Nat.le_trans (by omega:1*((m:Int)).toNat≤5) (by decide),fun mk hmk=>?_⟩
 rw[flat_rep]
 have s6:=same_new hmk (.lst (List.replicate m .non))
 have mk6:upd H5 mk (.lst (List.replicate m .non)) mk=some (.lst (List.replicate m .non)):=upd_same
 generalize upd H5 mk _=H6 at *
 have s46:=s5.trans s6
 have x6:=s46 _ _ x4
 have nmx:mk≠x:=(ne_of_none (s5 _ _ x4) hmk).symm
 have b6:But [x] H H6:=b4.trans (cut_mono s46)
 refine⟨_,rfl,x,cH,dx,_,rfl,x6,HX.cl,HX.marks,(by show 2<1000;decide),?_⟩
 obtain⟨b7,x7,c7⟩:=fld_step (C:=cH) (dx:=dx) (f:="marks") (v:=.ref mk) (fs:=[("space",.ref sp),("many",.int m)]) (fs':=[("space",.ref sp),("many",.int m),("marks",.ref mk)]) (by with_unfolding_all rfl) b6
 generalize upd H6 x _=H7 at *
 have sp7:=c7.at (s46 _ _ sp4) (not1 nspx)
 have mk7:=c7.at mk6 (not1 nmx)
 refine fun tk htk=>?_
 have s8:=same_new htk (.dK [])
 have tk8:upd H7 tk (.dK []) tk=some (.dK []):=upd_same
 generalize upd H7 tk _=H8 at *
 have x8:=s8 _ _ x7
 have ntx:tk≠x:=(ne_of_none x7 htk).symm
 have b8:But [x] H H8:=b7.trans (cut_mono s8)
 refine⟨_,rfl,x,cH,dx,_,rfl,x8,HX.cl,HX.talks,(by show 3<1000;decide),?_⟩
 obtain⟨b9,x9,c9⟩:=fld_step (C:=cH) (dx:=dx) (f:="talks") (v:=.ref tk) (fs:=[("space",.ref sp),("many",.int m),("marks",.ref mk)]) (fs':=[("space",.ref sp),("many",.int m),("marks",.ref mk),("talks",.ref tk)]) (by with_unfolding_all rfl) b8
 generalize upd H8 x _=H9 at *
 have sp9:=c9.at (s8 _ _ sp7) (not1 nspx)
 have mk9:=c9.at (s8 _ _ mk7) (not1 nmx)
 have tk9:=c9.at tk8 (not1 ntx)
 refine⟨le0,fun ln hln=>?_⟩
 have s10:=same_new hln (.lst [])
 have ln10:upd H9 ln (.lst []) ln=some (.lst []):=upd_same
 generalize upd H9 ln _=H10 at *
 have x10:=s10 _ _ x9
 have nlx:ln≠x:=(ne_of_none x9 hln).symm
 have b10:But [x] H H10:=b9.trans (cut_mono s10)
 refine⟨_,rfl,x,cH,dx,_,rfl,x10,HX.cl,HX.lines,(by show 4<1000;decide),?_⟩
 obtain⟨b11,x11,c11⟩:=fld_step (C:=cH) (dx:=dx) (f:="lines") (v:=.ref ln) (fs:=[("space",.ref sp),("many",.int m),("marks",.ref mk),("talks",.ref tk)]) (fs':=[("space",.ref sp),("many",.int m),("marks",.ref mk),("talks",.ref tk),("lines",.ref ln)]) (by with_unfolding_all rfl) b10
 generalize upd H10 x _=H11 at *
 have sp11:=c11.at (s10 _ _ sp9) (not1 nspx)
 have mk11:=c11.at (s10 _ _ mk9) (not1 nmx)
 have tk11:=c11.at (s10 _ _ tk9) (not1 ntx)
 have ln11:=c11.at ln10 (not1 nlx)
 have st11:=b11.at hS (not1 nsx)
 obtain⟨U,hU⟩:∃U:Hk,U=⟨dx,sp,mk,tk,ln⟩:=⟨_,rfl⟩
 have x11:H11 x=some (.ins cH U.dx (hkF U m)):=by rw[hU];exact x11
 refine⟨_,rfl,x,_,_,rfl,x11,ho_write,?_⟩
 refine⟨_,rfl,(m:Int),rfl,by omega,by omega,le2,fun al hal=>?_⟩
 have s12:=same_new hal (.lst [.str "house",.str (toString (m:Int):String)])
 have al12:upd H11 al (.lst [.str "house",.str (toString (m:Int):String)]) al=some (.lst [.str "house",.str (toString (m:Int):String)]):=upd_same
 generalize upd H11 al _=H12 at *
 have b12:But [x] H H12:=b11.trans (cut_mono s12)
 have hP12:=Pile.keep (kt b12) hP
 refine⟨_,rfl,st,rfl,⟨_,SqL.of (s12 _ _ st11)⟩,fun cc acc hacc=>comp_vals (vs:=ts.map fun t=>V.str (shS t)) (rest:=[]) (SqL.of (s12 _ _ st11)) hacc (by omega) (by rw[List.length_map];omega) (fun i y b hy hb H13 s13 R hR=>?_) (fun v0 H13 s13 hac=>?_) none⟩
 ·obtain⟨t,ht,hat⟩:=pile_get hP12 hy
  obtain⟨o1,o2⟩:=hok t (List.mem_of_getElem? ht)
  rw[List.getElem?_map,ht] at hb
  cases hb
  refine⟨_,rfl,y,t,rfl,hat.keep (TS.same s13),o1,o2,fun z H14 hz s14=>?_⟩
  rw[shS_of hz]
  exact hR H14 s14
 have al13:=s13 _ _ al12
 have l2:([V.str "house",.str (toString (m:Int):String)]++ts.map fun t=>V.str (shS t)).length≤1000:=by
  rw[List.length_append,List.length_map]
  show 2+ts.length≤1000
  omega
 refine⟨al,acc,_,_,rfl,rfl,al13,hac,small (by rw[List.length_append] at l2;exact l2),fun cl hcl=>?_⟩
 have s14:=same_new hcl (.lst ([V.str "house",.str (toString (m:Int):String)]++ts.map fun t=>V.str (shS t)))
 have cl14:upd H13 cl (.lst ([V.str "house",.str (toString (m:Int):String)]++ts.map fun t=>V.str (shS t))) cl=some (.lst ([V.str "house",.str (toString (m:Int):String)]++ts.map fun t=>V.str (shS t))):=upd_same
 generalize upd H13 cl _=H14 at *
 have s1114:=s12.trans (s13.trans s14)
 have b14:But [x] H H14:=b11.trans (cut_mono s1114)
 have ew:([V.str "house",.str (toString (m:Int):String)]++ts.map fun t=>V.str (shS t))=(Str.ofString "house"::Str.ofString (toString (m:Int))::ts.map shS).map V.str:=by
  rw[List.map_cons,List.map_cons,List.map_map]
  rfl
 rw[ew] at cl14
 have hsum:=shlens_le (ts:=ts) fun t ht=>Nat.le_trans (hok t ht).2 (by decide)
 have hdig:=digit_len hm5
 have eU:U.ln=ln:=by rw[hU]
 refine⟨x,cl,U,m,_,[],rfl,s1114 _ _ x11,by rw[eU];exact s1114 _ _ ln11,by decide,cl14,?_,?_⟩
 ·rw[List.map_cons,List.map_cons,List.sum_cons,List.sum_cons,List.length_cons,List.length_cons,List.length_map]
  have e5:(Str.ofString "house").length=5:=rfl
  show (Str.ofString "house").length+((Str.ofString (toString (m:Int))).length+((ts.map shS).map (·.length)).sum)+(ts.length+1+1)≤100000
  omega
 have back:∀{H1:Hp} {c:Addr},But [x] H H1→c≠x→H1 c=none→H c=none:=fun {H1 c} b n e=>by
  cases e0:H c with
  | none=>rfl
  | some o=>rw[b.at e0 (not1 n)] at e;cases e
 have mk0:H mk=none:=back (b4.trans (cut_mono s5)) nmx hmk
 have tk0:H tk=none:=back b7 ntx htk
 have ln0:H ln=none:=back b9 nlx hln
 have nls:sp≠ln:=ne_of_none sp9 hln
 have nlm:mk≠ln:=ne_of_none mk9 hln
 have nlt:tk≠ln:=ne_of_none tk9 hln
 have bq:But [x] H (upd H14 U.ln (.lst ([]++[.str (houseL m ts)]))):=fun b o e=>by
  obtain⟨e1,e2⟩:=cut_get e
  rw[eU]
  exact cut_of (by rw[upd_ne (fun z=>by rw[z,ln0] at e1;cases e1)];exact b14.at e1 e2) e2
 refine q h1 h2 U _ bq (by rw[hU];exact sp0) (by rw[hU];exact mk0) (by rw[hU];exact tk0) (by rw[hU];exact ln0) ?_ ?_ ?_ ?_ upd_same
 ·rw[upd_ne (by rw[eU];exact nlx.symm)]
  exact s1114 _ _ x11
 ·rw[hU]
  show upd H14 ln _ sp=_
  rw[upd_ne nls]
  exact s1114 _ _ sp11
 ·rw[hU]
  show upd H14 ln _ mk=_
  rw[upd_ne nlm]
  exact s1114 _ _ mk11
 ·rw[hU]
  show upd H14 ln _ tk=_
  rw[upd_ne nlt]
  exact s1114 _ _ tk11
end
structure HouseAt (N:List Addr) (C:Addr) (H:Hp) (x:Addr) (U:Hk) (m:Nat) (room:List Int) (marks:List (Option Bool)) (ls:List V):Prop where
 ob:H x=some (.ins C U.dx (hkF U m))
 ln:H U.ln=some (.lst ls)
 mx:x∈N
 ml:U.ln∈N
 sp:RowAt (cut N H) U.sp room
 mkm:cut N H U.mks=some (.lst (marks.map mkV))
 len:marks.length=m
 m1:1≤m
 m5:m≤5
 wr:Wr room
 ne:room.filter (agr marks)≠[]
 l9:ls.length≤900
section
variable {N:List Addr} {C:Addr} {H H':Hp} {x:Addr} {U:Hk} {m:Nat} {room:List Int} {marks:List (Option Bool)} {ls:List V}
theorem HouseAt.keep (s:Same H H') (h:HouseAt N C H x U m room marks ls):HouseAt N C H' x U m room marks ls:=
 ⟨s _ _ h.ob,s _ _ h.ln,h.mx,h.ml,cut_mono s _ _ h.sp,cut_mono s _ _ h.mkm,h.len,h.m1,h.m5,h.wr,h.ne,h.l9⟩
theorem HouseAt.sp' (h:HouseAt N C H x U m room marks ls):RowAt H U.sp room:=cut_same _ _ h.sp
theorem HouseAt.xl (h:HouseAt N C H x U m room marks ls):x≠U.ln:=ne_of h.ob h.ln (by intro z;cases z)
end
theorem hk_many {U:Hk} {m:Nat}:(hkF U m).lookup ("many":Str)=some (.int m):=by with_unfolding_all rfl
structure Tw where
 nm:Str
 a:Addr
 u:Tk
 w:Ta
structure HSt where
 x:Addr
 U:Hk
 m:Nat
 room:List Int
 marks:List (Option Bool)
 ls:List V
 ts:List Tw
def twD (ts:List Tw):List (Str×V):=ts.map fun p=>(p.nm,.ref p.a)
def twL (ts:List Tw):List Addr:=ts.flatMap fun p=>[p.u.gv,p.u.lf]
def nms (ts:List Tw):List Str:=ts.map (·.nm)
theorem mem_twL {ts:List Tw} {p:Tw} (h:p∈ts):p.u.gv∈twL ts∧p.u.lf∈twL ts:=
 ⟨List.mem_flatMap.mpr ⟨p,h,by simp⟩,List.mem_flatMap.mpr ⟨p,h,by simp⟩⟩
theorem twL_sub {a b:List Tw} (h:a.Sublist b):(twL a).Sublist (twL b):=by
 induction h with
 | slnil=>exact List.Sublist.refl _
 | cons x _ ih=>exact List.Sublist.trans ih (List.sublist_append_right [x.u.gv,x.u.lf] _)
 | cons_cons x _ ih=>exact List.Sublist.append (List.Sublist.refl [x.u.gv,x.u.lf]) ih
theorem tw_get:∀{ts:List Tw} {k:Str},k∈nms ts→∃p∈ts,p.nm=k∧dGet (twD ts) k=some (.ref p.a)
 | [],_,h=>nomatch h
 | p::ts,k,h=>by
  by_cases e:p.nm=k
  ·exact⟨p,List.mem_cons_self,e,by simp[dGet,twD,e]⟩
  ·obtain⟨q,hq,e1,e2⟩:=tw_get (ts:=ts) (k:=k) (by
    rcases List.mem_cons.mp h with z | z
    ·exact absurd z.symm e
    ·exact z)
   refine⟨q,List.mem_cons_of_mem _ hq,e1,?_⟩
   have:dGet (twD (p::ts)) k=dGet (twD ts) k:=by simp[dGet,twD,List.find?_cons,e]
   rw[this];exact e2
theorem tw_none:∀{ts:List Tw} {k:Str},k∉nms ts→dGet (twD ts) k=none
 | [],_,_=>rfl
 | p::ts,k,h=>by
  have e:¬p.nm=k:=fun z=>h (by rw[←z];exact List.mem_cons_self)
  have:dGet (twD (p::ts)) k=dGet (twD ts) k:=by simp[dGet,twD,List.find?_cons,e]
  rw[this]
  exact tw_none fun z=>h (List.mem_cons_of_mem _ z)
theorem tw_some (ts:List Tw) (k:Str):(dGet (twD ts) k).isSome=decide (k∈nms ts):=by
 by_cases h:k∈nms ts
 ·obtain⟨p,_,_,e⟩:=tw_get h
  rw[e,decide_eq_true h];rfl
 ·rw[tw_none h,decide_eq_false h];rfl
theorem tw_off (ts:List Tw) (k:Str):dOff (twD ts) k=twD (ts.filter fun p=>decide (p.nm≠k)):=by
 unfold dOff twD
 rw[List.filter_map]
 rfl
structure HouseT (M:List Addr) (C cK:Addr) (H:Hp) (S:HSt):Prop where
 h:HouseAt M C H S.x S.U S.m S.room S.marks S.ls
 tk:H S.U.tk=some (.dK (dS (twD S.ts)))
 mt:S.U.tk∈M
 tt:∀p∈S.ts,TalkAt M cK H p.a p.u p.w∧p.w.room=S.room∧p.w.many=S.m
 nl:(S.U.ln::twL S.ts).Nodup
 na:(nms S.ts).Nodup
 aa:(S.ts.map (·.a)).Nodup
 fr:∀b∈M,H b≠none
 tl:S.ts.length≤900
section
variable {M N:List Addr} {C cK:Addr} {H H':Hp} {S:HSt} {x:Addr} {U:Hk} {m:Nat} {room:List Int} {marks:List (Option Bool)} {ls:List V}
theorem cut_more (s:Same H H') (hn:∀n∈N,H n=none):Same (cut M H) (cut (N++M) H'):=fun p u e=>by
 obtain⟨e1,e2⟩:=cut_get e
 refine cut_of (s _ _ e1) fun z=>?_
 rcases List.mem_append.mp z with q | q
 ·rw[hn p q] at e1;cases e1
 ·exact e2 q
theorem HouseAt.more (h:HouseAt M C H x U m room marks ls) (s:Same H H') (hn:∀n∈N,H n=none):HouseAt (N++M) C H' x U m room marks ls:=by
 have k:=cut_more (M:=M) s hn
 exact⟨s _ _ h.ob,s _ _ h.ln,List.mem_append_right _ h.mx,List.mem_append_right _ h.ml,k _ _ h.sp,k _ _ h.mkm,h.len,h.m1,h.m5,h.wr,h.ne,h.l9⟩
theorem HouseT.keep (s:Same H H') (h:HouseT M C cK H S):HouseT M C cK H' S:=
 ⟨h.h.keep s,s _ _ h.tk,h.mt,fun p hp=>⟨(h.tt p hp).1.keep s,(h.tt p hp).2⟩,h.nl,h.na,h.aa,fun b hb z=>h.fr b hb (s.free z),h.tl⟩
theorem HouseT.wrote (h:HouseT M C cK H S) (l:V) (hl:S.ls.length<900):HouseT M C cK (upd H S.U.ln (.lst (S.ls++[l]))) { S with ls:=S.ls++[l] }:=by
 have hx:=h.h
 have eu:cut M (upd H S.U.ln (.lst (S.ls++[l])))=cut M H:=cut_upd hx.ml
 refine⟨⟨by rw[upd_ne hx.xl];exact hx.ob,upd_same,hx.mx,hx.ml,by rw[eu];exact hx.sp,by rw[eu];exact hx.mkm,hx.len,hx.m1,hx.m5,hx.wr,hx.ne,by show (S.ls++[l]).length≤900;rw[List.length_append];exact hl⟩,?_,h.mt,fun p hp=>⟨?_,(h.tt p hp).2⟩,h.nl,h.na,h.aa,fun b hb=>?_,h.tl⟩
 ·exact (upd_ne (ne_of h.tk hx.ln (by intro z;cases z))).trans h.tk
 ·have ht:=(h.tt p hp).1
  have nl:=(List.nodup_cons.mp h.nl).1
  have n1:p.u.gv≠S.U.ln:=fun z=>nl (by rw[←z];exact (mem_twL hp).1)
  have n2:p.u.lf≠S.U.ln:=fun z=>nl (by rw[←z];exact (mem_twL hp).2)
  exact ht.but (But.upd hx.ml) (upd_ne (ne_of ht.ob hx.ln (by intro z;cases z))) (upd_ne n1) (upd_ne n2)
 ·by_cases e:b=S.U.ln
  ·rw[e,upd_same];exact fun z=>by cases z
  ·rw[upd_ne e];exact h.fr b hb
theorem HouseT.put {d0:List (Key×V)} {ts:List Tw} (h:HouseAt M C H S.x S.U S.m S.room S.marks S.ls) (e:H S.U.tk=some (.dK d0)) (mt:S.U.tk∈M) (tt:∀p∈ts,TalkAt M cK H p.a p.u p.w∧p.w.room=S.room∧p.w.many=S.m)
  (nl:(S.U.ln::twL ts).Nodup) (na:(nms ts).Nodup) (aa:(ts.map (·.a)).Nodup) (fr:∀b∈M,H b≠none) (tl:ts.length≤900):HouseT M C cK (upd H S.U.tk (.dK (dS (twD ts)))) { S with ts:=ts }:=by
 have eu:cut M (upd H S.U.tk (.dK (dS (twD ts))))=cut M H:=cut_upd mt
 refine⟨⟨(upd_ne (ne_of h.ob e (by intro z;cases z))).trans h.ob,(upd_ne (ne_of h.ln e (by intro z;cases z))).trans h.ln,h.mx,h.ml,by rw[eu];exact h.sp,by rw[eu];exact h.mkm,h.len,h.m1,h.m5,h.wr,h.ne,h.l9⟩,upd_same,mt,fun p hp=>⟨?_,(tt p hp).2⟩,nl,na,aa,fun b hb=>?_,tl⟩
 ·have ht:=(tt p hp).1
  exact ht.but (But.upd mt) (upd_ne (ne_of ht.ob e (by intro z;cases z))) (upd_ne (ne_of ht.gv e (by intro z;cases z))) (upd_ne (ne_of ht.lf e (by intro z;cases z)))
 ·by_cases c:b=S.U.tk
  ·rw[c,upd_same];exact fun z=>by cases z
  ·rw[upd_ne c];exact fr b hb
theorem HouseT.more {n:Str} {a:Addr} {u:Tk} {w:Ta} (h:HouseT M C cK H S) (s:Same H H') (a0:H a=none) (g0:H u.gv=none) (l0:H u.lf=none) (ht:TalkAt (a::u.gv::u.lf::M) cK H' a u w) (hr:w.room=S.room) (hm:w.many=S.m) (hn:n∉nms S.ts) (hl:S.ts.length<900) :
  HouseT (a::u.gv::u.lf::M) C cK (upd H' S.U.tk (.dK (dS (twD (S.ts++[⟨n,a,u,w⟩]))))) { S with ts:=S.ts++[⟨n,a,u,w⟩] }:=by
 have hN:∀b∈[a,u.gv,u.lf],H b=none:=fun b hb=>by
  simp only[List.mem_cons,List.not_mem_nil,or_false] at hb
  rcases hb with rfl | rfl | rfl
  ·exact a0
  ·exact g0
  ·exact l0
 have old:∀p∈S.ts,H p.u.gv≠none∧H p.u.lf≠none∧H p.a≠none:=fun p hp=>by
  have t:=(h.tt p hp).1
  refine⟨?_,?_,?_⟩<;>intro z
  ·rw[t.gv] at z;cases z
  ·rw[t.lf] at z;cases z
  ·rw[t.ob] at z;cases z
 refine HouseT.put (S:=S) (h.h.more (N:=[a,u.gv,u.lf]) s hN) (s _ _ h.tk) (List.mem_append_right [a,u.gv,u.lf] h.mt) (fun p hp=>?_) ?_ ?_ ?_ (fun b hb=>?_) ?_
 ·rcases List.mem_append.mp hp with q | q
  ·exact⟨(h.tt p q).1.cutmore (N:=[a,u.gv,u.lf]) s hN,(h.tt p q).2⟩
  ·rw[List.mem_singleton.mp q];exact⟨ht,hr,hm⟩
 ·have e:S.U.ln::twL (S.ts++[⟨n,a,u,w⟩])=(S.U.ln::twL S.ts)++[u.gv,u.lf]:=by
   unfold twL
   rw[List.flatMap_append];rfl
  rw[e]
  have hin:∀b∈S.U.ln::twL S.ts,H b≠none:=fun b hb z=>by
   rcases List.mem_cons.mp hb with q | q
   ·rw[q,h.h.ln] at z;cases z
   ·obtain⟨p,hp,q2⟩:=List.mem_flatMap.mp q
    simp only[List.mem_cons,List.not_mem_nil,or_false] at q2
    rcases q2 with rfl | rfl
    ·exact (old p hp).1 z
    ·exact (old p hp).2.1 z
  refine List.nodup_append.mpr ⟨h.nl,?_,fun b hb c hc=>?_⟩
  ·exact List.nodup_cons.mpr ⟨fun z=>ht.ne (List.mem_singleton.mp z),List.nodup_cons.mpr ⟨(fun z=>by cases z),List.nodup_nil⟩⟩
  ·rintro rfl
   simp only[List.mem_cons,List.not_mem_nil,or_false] at hc
   rcases hc with rfl | rfl
   ·exact hin _ hb g0
   ·exact hin _ hb l0
 ·show ((S.ts++[(⟨n,a,u,w⟩:Tw)]).map Tw.nm).Nodup
  rw[List.map_append]
  refine List.nodup_append.mpr ⟨h.na,List.nodup_cons.mpr ⟨(fun z=>by cases z),List.nodup_nil⟩,fun b hb c hc=>?_⟩
  rintro rfl
  rw[List.mem_singleton.mp hc] at hb
  exact hn hb
 ·rw[List.map_append]
  refine List.nodup_append.mpr ⟨h.aa,List.nodup_cons.mpr ⟨(fun z=>by cases z),List.nodup_nil⟩,fun b hb c hc=>?_⟩
  rintro rfl
  rw[List.mem_singleton.mp hc] at hb
  obtain⟨p,hp,e⟩:=List.mem_map.mp hb
  exact (old p hp).2.2 (by rw[e];exact a0)
 ·intro z
  simp only[List.mem_cons] at hb
  rcases hb with rfl | rfl | rfl | hb
  ·rw[ht.ob] at z;cases z
  ·rw[ht.gv] at z;cases z
  ·rw[ht.lf] at z;cases z
  ·exact h.fr b hb (s.free z)
 ·rw[List.length_append];exact hl
theorem HouseT.less (h:HouseT M C cK H S) (k:Str):HouseT M C cK (upd H S.U.tk (.dK (dS (twD (S.ts.filter fun p=>decide (p.nm≠k)))))) { S with ts:=S.ts.filter fun p=>decide (p.nm≠k) }:=by
 have sub:(S.ts.filter fun p=>decide (p.nm≠k)).Sublist S.ts:=List.filter_sublist
 refine HouseT.put (S:=S) h.h h.tk h.mt (fun p hp=>h.tt p (sub.subset hp)) ?_ ((sub.map _).nodup h.na) ((sub.map _).nodup h.aa) h.fr (Nat.le_trans sub.length_le h.tl)
 exact (List.Sublist.cons_cons _ (twL_sub sub)).nodup h.nl
end
theorem hk_talks {U:Hk} {m:Nat}:(hkF U m).lookup ("talks":Str)=some (.ref U.tk):=by with_unfolding_all rfl
abbrev sHNewName:Stmt:=inClass (top 38) 27
abbrev sHNoTalk:Stmt:=inClass (top 38) 26
abbrev sHTalkOf:Stmt:=inClass (top 38) 25
abbrev sHNames:Stmt:=inClass (top 38) 9
abbrev sHDrop:Stmt:=inClass (top 38) 8
theorem ho_newname {U:Hk} {m:Nat}:(hkF U m).lookup ("refuse_new_name":Str)=none:=by with_unfolding_all rfl
theorem ho_notalk {U:Hk} {m:Nat}:(hkF U m).lookup ("refuse_no_talk":Str)=none:=by with_unfolding_all rfl
theorem ho_talkof {U:Hk} {m:Nat}:(hkF U m).lookup ("talk_of":Str)=none:=by with_unfolding_all rfl
theorem ho_names {U:Hk} {m:Nat}:(hkF U m).lookup ("names":Str)=none:=by with_unfolding_all rfl
theorem ho_drop {U:Hk} {m:Nat}:(hkF U m).lookup ("drop":Str)=none:=by with_unfolding_all rfl
theorem ho_begin {U:Hk} {m:Nat}:(hkF U m).lookup ("begin":Str)=none:=by with_unfolding_all rfl
theorem ho_fork {U:Hk} {m:Nat}:(hkF U m).lookup ("fork":Str)=none:=by with_unfolding_all rfl
def small (c:Nat):Bool:=decide (97≤c∧c≤122)
def goodN (k:Str):Prop:=1≤k.length∧k.length≤8∧k.cps.toList.all small=true
instance (k:Str):Decidable (goodN k):=by unfold goodN;infer_instance
theorem nm_in:∀c:Nat,c<128→(!(Builtin.Str.occurrences ("abcdefghijklmnopqrstuvwxyz":Str) (⟨#[c]⟩:Str) 0 ("abcdefghijklmnopqrstuvwxyz":Str).length 1).isEmpty)=small c:=by decide +kernel
theorem comp_signs {acc:Addr} {z:Str} {f:Nat→Bool} {te:TE} {rest:L2.St} {D:Ends} {H:Hp} (hacc:H acc=none) (hlen:z.length≤900)
  (ht:∀c,c∈z.cps.toList→∀H2,Same H H2→∀R:V→Hp→Prop,(∀H3,Same H2 H3→R (.bl (f c)) H3)→te (some (.str ⟨#[c]⟩)::rest) H2 R)
  (hd:∀v0 H2,Same H H2→H2 acc=some (.lst ((z.cps.toList.map f).map V.bl))→D.nx (v0::rest) H2) (v:Option V) :
  loopR (Its z) (gName 0) (tIfC tYes (tEmit acc te)) D (v::rest) (upd H acc (.lst [])):=by
 refine for_str (z:=z) (fun i σ H2=>∃v0,σ=v0::rest∧Same H H2∧H2 acc=some (.lst (((z.cps.toList.take i).map f).map V.bl))) ⟨v,rfl,same_new hacc _,upd_same⟩ ?_ ?_
 ·rintro i c σ H2 hx ⟨v0,rfl,s2,ha2⟩
  have hc:z.cps.toList[i]? = some c:=by simpa using hx
  have hi:i<z.cps.toList.length:=(List.getElem?_eq_some_iff.mp hc).1
  have hlz:z.cps.toList.length=z.length:=by simp[Str.length]
  show tEmit acc te _ _ _
  refine ht c (List.mem_of_getElem? hc) H2 s2 _ fun H3 s3=>?_
  refine⟨_,s3 _ _ ha2,small1000 ?_,?_⟩
  ·rw[List.length_map,List.length_map,List.length_take]
   omega
  refine⟨_,rfl,same_put (s2.trans s3) hacc _,?_⟩
  rw[upd_same,List.take_add_one,hc,List.map_append,List.map_append]
  rfl
 ·rintro σ H2 ⟨v0,rfl,s2,ha2⟩
  have hlz:z.length=z.cps.toList.length:=by simp[Str.length]
  rw[hlz,List.take_length] at ha2
  exact hd v0 H2 s2 ha2
def spHNewName (C cK cBN cNT:Addr):Sp:=fun vs H Q E=>∃(M:List Addr) (S:HSt) (k:Str),vs=[.ref S.x,.str k]∧HouseT M C cK H S∧k.length≤100∧(∀c∈k.cps.toList,c<128)∧(¬goodN k→∀H',Same H H'→E (.ref cBN) none H')∧(goodN k→k∈nms S.ts→∀H',Same H H'→E (.ref cNT) none H')∧(goodN k→k∉nms S.ts→∀H',Same H H'→Q .non H')
def spHNoTalk (C cK cNK:Addr):Sp:=fun vs H Q E=>∃(M:List Addr) (S:HSt) (k:Str),vs=[.ref S.x,.str k]∧HouseT M C cK H S∧(k∉nms S.ts→E (.ref cNK) none H)∧(k∈nms S.ts→Q .non H)
def spHTalkOf (C cK cNK:Addr):Sp:=fun vs H Q E=>∃(M:List Addr) (S:HSt) (k:Str),vs=[.ref S.x,.str k]∧HouseT M C cK H S∧(k∉nms S.ts→E (.ref cNK) none H)∧(∀p∈S.ts,p.nm=k→Q (.ref p.a) H)
def spHNames (C cK:Addr):Sp:=fun vs H Q _=>∃(M:List Addr) (S:HSt),vs=[.ref S.x]∧HouseT M C cK H S∧∀(l:Addr) (H':Hp),Same H H'→H l=none→H' l=some (.lst ((nms S.ts).map V.str))→Q (.ref l) H'
def dropSt (S:HSt) (k:Str):HSt:={ S with ts:=S.ts.filter fun p=>decide (p.nm≠k),ls:=S.ls++[.str (lineT ["drop",k])] }
def spHDrop (C cK cNK:Addr):Sp:=fun vs H Q E=>∃(M:List Addr) (S:HSt) (k:Str),vs=[.ref S.x,.str k]∧HouseT M C cK H S∧k.length≤100∧S.ls.length<900∧(k∉nms S.ts→E (.ref cNK) none H)∧(k∈nms S.ts→∀H',But [S.U.tk,S.U.ln] H H'→HouseT M C cK H' (dropSt S k)→Q .non H')
section
variable {P:Program} {w:World} {K:PySem.W.Frag} {mg:Str→Option Value} {base:Heap} {f:Addr} {fd:FuncData} {cH cK cS cW cL cT cBN cNT cNK:Addr}
theorem scHNewName:FnScope ["self","name"] ["self","name"] (defScope sHNewName):=⟨rfl,rfl,rfl,by decide +kernel,rfl,by decide +kernel,by decide +kernel⟩
theorem scHNoTalk:FnScope ["self","name"] ["self","name"] (defScope sHNoTalk):=⟨rfl,rfl,rfl,by decide +kernel,rfl,by decide +kernel,by decide +kernel⟩
theorem scHTalkOf:FnScope ["self","name"] ["self","name"] (defScope sHTalkOf):=⟨rfl,rfl,rfl,by decide +kernel,rfl,by decide +kernel,by decide +kernel⟩
theorem scHNames:FnScope ["self"] ["self"] (defScope sHNames):=⟨rfl,rfl,rfl,by decide +kernel,rfl,by decide +kernel,by decide +kernel⟩
theorem scHDrop:FnScope ["self","name"] ["self","name"] (defScope sHDrop):=⟨rfl,rfl,rfl,by decide +kernel,rfl,by decide +kernel,by decide +kernel⟩
theorem ok_hnotalk (F:Fun K "refuse_no_talk" "House.refuse_no_talk" sHNoTalk f fd) (HX:HsX K cH) (XNK:OwnX K mg "NoTalk" cNK cT):FnOk P w K mg base (CXE P w) 2 f fd ["self","name"] (spHNoTalk cH cK cNK):=by
 refine Fun.okX F scHNoTalk (fun vs H Q E h=>?_) (fun cdv A outer s H vs Q E hr h=>?_)
 ·obtain⟨M,S,k,rfl,_⟩:=h
  rfl
 obtain⟨M,S,k,rfl,hT,qE,q⟩:=h
 refine⟨_,pss_one (ps_if (pt_cmpR op_notInD (pv 1) (pe_fld (pv 0) rfl) (by with_unfolding_all rfl))
   (pss_one (ps_raise0 (Ex:=E) lets_own rfl XNK.cls XNK.at_ XNK.ty (by rfl) XNK.m (pa_cons pe_str pa_nil) (hvl:=fun _ _ _ h=>⟨by decide,h⟩)))
   pss_nil),?_⟩
 refine⟨_,rfl,_,rfl,S.x,cH,_,_,_,rfl,hT.h.ob,HX.cl,HX.talks,hk_talks,S.U.tk,_,k,rfl,rfl,hT.tk,_,rfl,?_⟩
 rw[tw_some]
 by_cases c:k∈nms S.ts
 ·rw[decide_eq_true c]
  exact iteF (q c)
 ·rw[decide_eq_false c]
  exact iteT (qE c)
theorem ok_htalkof {m1:Addr} {e1:FuncData} (F:Fun K "talk_of" "House.talk_of" sHTalkOf f fd) (HX:HsX K cH) (G1:FnOk P w K mg base (CXE P w) 2 m1 e1 ["self","name"] (spHNoTalk cH cK cNK)) (C1:CalM K cH "refuse_no_talk" m1 e1 ["self","name"]):FnOk P w K mg base (CXE P w) 3 f fd ["self","name"] (spHTalkOf cH cK cNK):=by
 refine Fun.okX F scHTalkOf (fun vs H Q E h=>?_) (fun cdv A outer s H vs Q E hr h=>?_)
 ·obtain⟨M,S,k,rfl,_⟩:=h
  rfl
 obtain⟨M,S,k,rfl,hT,qE,q⟩:=h
 refine⟨_,pss_cons (ps_expr (pe_meth (pv 0) HX.cl C1.m G1 hr C1.b .nil (pass_own (E1:=E) fun _ _ _ h=>h) (pa_cons (pv 1) pa_nil)))
  (pss_one (ps_ret (pe_ix ix_dict (pe_fld (pv 0) rfl) (pv 1) (fun _ _=>rfl)))),?_⟩
 refine⟨_,rfl,S.x,_,_,rfl,hT.h.ob,ho_notalk,_,rfl,M,S,k,rfl,hT,fun c=>qE c,fun c=>?_⟩
 obtain⟨p,hp,e1,e2⟩:=tw_get c
 exact⟨_,rfl,S.x,cH,_,_,_,rfl,hT.h.ob,HX.cl,HX.talks,hk_talks,_,rfl,S.U.tk,_,k,_,rfl,rfl,hT.tk,e2,q p hp e1⟩
theorem ok_hnames (F:Fun K "names" "House.names" sHNames f fd) (HX:HsX K cH) (T:BTx mg):FnOk P w K mg base CX0 1 f fd ["self"] (spHNames cH cK):=by
 refine F.ok scHNames (fun vs H Q E h=>?_) (fun cdv A outer s H vs Q E hr h=>?_)
 ·obtain⟨M,S,rfl,_⟩:=h
  rfl
 obtain⟨M,S,rfl,hT,q⟩:=h
 refine⟨_,pss_one (ps_ret (pe_callTy (call_listD rfl) (by rfl) T.lst boot_lst (pa_cons (pe_fld (pv 0) rfl) pa_nil))),?_⟩
 refine⟨_,rfl,S.x,cH,_,_,_,rfl,hT.h.ob,HX.cl,HX.talks,hk_talks,S.U.tk,_,rfl,hT.tk,fun l hl=>q l _ (same_new hl _) hl ?_⟩
 rw[upd_same]
 unfold twD nms
 rw[List.map_map,List.map_map]
 rfl
theorem ok_hdrop {m1 m2:Addr} {e1 e2:FuncData} (F:Fun K "drop" "House.drop" sHDrop f fd) (HX:HsX K cH) (G1:FnOk P w K mg base (CXE P w) 2 m1 e1 ["self","name"] (spHNoTalk cH cK cNK)) (C1:CalM K cH "refuse_no_talk" m1 e1 ["self","name"])
  (G2:FnOk P w K mg base CX0 2 m2 e2 ["self","words"] (spHWrite cH)) (C2:CalM K cH "write" m2 e2 ["self","words"]):FnOk P w K mg base (CXE P w) 3 f fd ["self","name"] (spHDrop cH cK cNK):=by
 refine Fun.okX F scHDrop (fun vs H Q E h=>?_) (fun cdv A outer s H vs Q E hr h=>?_)
 ·obtain⟨M,S,k,rfl,_⟩:=h
  rfl
 obtain⟨M,S,k,rfl,hT,hk1,hl9,qE,q⟩:=h
 refine⟨_,pss_cons (ps_expr (pe_meth (pv 0) HX.cl C1.m G1 hr C1.b .nil (pass_own (E1:=E) fun _ _ _ h=>h) (pa_cons (pv 1) pa_nil)))
  (pss_cons (ps_expr (pe_bm PySem.F.plainAttrs_dict PySem.F.slot_dict_pop PySem.F.type_dict_pop mt_popD (pe_fld (pv 0) rfl) (pa_cons (pv 1) pa_nil)))
  (pss_one (ps_expr (pe_meth (pv 0) HX.cl C2.m G2 hr C2.b .nil pass0 (pa_cons (pe_lst (pa_cons pe_str (pa_cons (pv 1) pa_nil))) pa_nil))))),?_⟩
 refine⟨_,rfl,S.x,_,_,rfl,hT.h.ob,ho_notalk,_,rfl,M,S,k,rfl,hT,fun c=>qE c,fun c=>?_⟩
 obtain⟨p,hp,e1,e2⟩:=tw_get c
 refine⟨_,rfl,S.x,cH,_,_,_,rfl,hT.h.ob,HX.cl,HX.talks,hk_talks,?_,_,rfl,S.U.tk,_,k,_,rfl,rfl,hT.tk,e2,?_⟩
 ·exact .inr (.inr (.inl ⟨rfl,.inl ⟨_,hT.tk⟩⟩))
 rw[tw_off]
 have hT1:=hT.less k
 have b1:But [S.U.tk,S.U.ln] H (upd H S.U.tk (.dK (dS (twD (S.ts.filter fun p=>decide (p.nm≠k)))))):=But.upd (by simp)
 generalize upd H S.U.tk _=H1 at *
 refine⟨_,rfl,S.x,_,_,rfl,hT1.h.ob,ho_write,_,rfl,le2,fun l hl=>?_⟩
 have s2:=same_new hl (.lst [.str "drop",.str k])
 have l2:upd H1 l (.lst [.str "drop",.str k]) l=some (.lst ([("drop":Str),k].map V.str)):=upd_same
 generalize upd H1 l _=H2 at *
 have hT2:=hT1.keep s2
 refine⟨S.x,l,S.U,S.m,[("drop":Str),k],S.ls,rfl,hT2.h.ob,hT2.h.ln,by omega,l2,?_,?_⟩
 ·show ("drop":Str).length+(k.length+0)+2≤100000
  have:("drop":Str).length=4:=rfl
  omega
 have hT3:=hT2.wrote (.str (lineT ["drop",k])) hl9
 exact q c _ ((b1.trans (cut_mono s2)).trans (But.upd (by simp))) hT3
set_option maxHeartbeats 4000000 in
theorem ok_hnewname (F:Fun K "refuse_new_name" "House.refuse_new_name" sHNewName f fd) (HX:HsX K cH) (T:BTx mg) (B:Bl mg) (XBN:OwnX K mg "BadName" cBN cT) (XNT:OwnX K mg "NameTaken" cNT cT) {tN tI:Tok} (mNS:mg "NAME_SIGNS"=some (.str "abcdefghijklmnopqrstuvwxyz" tN)) (mLN:mg "LONGEST_NAME"=some (.int 8 tI)):FnOk P w K mg base (CXE P w) 2 f fd ["self","name"] (spHNewName cH cK cBN cNT):=by
 refine Fun.okX F scHNewName (fun vs H Q E h=>?_) (fun cdv A outer s H vs Q E hr h=>?_)
 ·obtain⟨M,S,k,rfl,_⟩:=h
  rfl
 obtain⟨M,S,k,rfl,hT,hk1,h128,qB,qN,q⟩:=h
 refine⟨_,pss_cons (ps_if (PW.pt (pw_or (pt_not (pt_chain op_le op_le pe_int (pe_callB call_len_str (by rfl) B.len PySem.boot_len (pa_cons (pv 1) pa_nil)) (pe_glob (v:=.int 8) (by rfl) mLN ⟨_,rfl⟩))) (pw_or1 (pt_not (pt_val (pe_callB (call_allL rfl) (by rfl) T.all boot_all (pa_cons (PE.nox (pe_comp1 (N:=["sign"]) (js:=[none]) (cl:=[]) ⟨rfl,rfl,rfl,List.forall_mem_nil _,rfl,rfl,rfl⟩ (pi_str (pv 1)) (fun c1=>(pg_name (i:=0) (show (["sign"]:List Str).Nodup by decide +kernel) rfl (Or.inl rfl))) (fun c1=>pts_nil) (fun c1=>(pe_cmpR op_in_str (pv 0) (pe_glob (v:=.str "abcdefghijklmnopqrstuvwxyz") (by rfl) mNS ⟨_,rfl⟩) (by with_unfolding_all rfl))))) pa_nil)))))))
   (pss_one (ps_raise0 (Ex:=E) lets_own rfl XBN.cls XBN.at_ XBN.ty (by rfl) XBN.m (pa_cons pe_str pa_nil) (hvl:=fun _ _ _ h=>⟨by decide,h⟩)))
   pss_nil)
  (pss_one (ps_if (pt_cmpR op_inD (pv 1) (pe_fld (pv 0) rfl) (by with_unfolding_all rfl))
   (pss_one (ps_raise0 (Ex:=E) lets_own rfl XNT.cls XNT.at_ XNT.ty (by rfl) XNT.m (pa_cons pe_str pa_nil) (hvl:=fun _ _ _ h=>⟨by decide,h⟩)))
   pss_nil)),?_⟩
 have hlen:k.length≤sizeLine:=Nat.le_trans hk1 (by decide)
 have nogood:¬(1≤k.length∧k.length≤8)→¬goodN k:=fun h g=>h ⟨g.1,g.2.1⟩
 refine⟨_,rfl,k,rfl,hlen,_,_,rfl,rfl,_,rfl,ite2 (fun c1=>?_) (fun c1=>?_)⟩
 ·refine⟨_,_,rfl,rfl,_,rfl,ite2 (fun c2=>?_) (fun c2=>?_)⟩
  ·exact qB (nogood fun z=>by simp at c2;omega) H (Same.refl _)
  ·have hin:1≤k.length∧k.length≤8:=by simp at c1 c2;omega
   refine⟨_,rfl,k,rfl,fun cc acc hacc=>comp_signs (f:=small) hacc (Nat.le_trans hk1 (by decide)) (fun c hc H2 s2 R hR=>?_) (fun v0 H2 s2 ha=>?_) _⟩
   ·refine⟨_,rfl,_,_,rfl,rfl,?_⟩
    rw[nm_in c (h128 c hc)]
    exact hR H2 (Same.refl _)
   refine⟨acc,_,rfl,SqL.of ha,_,rfl,ite2 (fun c3=>?_) (fun c3=>?_)⟩
   ·exact qB (fun g=>by
     have:=g.2.2
     rw[List.all_map] at c3
     simp at c3 this
     obtain⟨c,hc,hc2⟩:=c3
     rw[this c hc] at hc2
     cases hc2) H2 s2
   have hg:goodN k:=⟨hin.1,hin.2,by
    rw[List.all_map] at c3
    simp at c3
    simpa using c3⟩
   have hT2:=hT.keep s2
   refine⟨_,rfl,_,rfl,S.x,cH,_,_,_,rfl,hT2.h.ob,HX.cl,HX.talks,hk_talks,S.U.tk,_,k,rfl,rfl,hT2.tk,_,rfl,?_⟩
   rw[tw_some]
   by_cases c:k∈nms S.ts
   ·rw[decide_eq_true c]
    exact iteT (qN hg c H2 s2)
   ·rw[decide_eq_false c]
    exact iteF (q hg c H2 s2)
 ·exact⟨_,rfl,iteT (qB (nogood fun z=>by simp at c1;omega) H (Same.refl _))⟩
end
abbrev sHBegin:Stmt:=inClass (top 38) 6
abbrev sHFork:Stmt:=inClass (top 38) 7
def addSt (S:HSt) (p:Tw) (l:Str):HSt:={ S with ts:=S.ts++[p],ls:=S.ls++[.str l] }
def spHBegin (C cK cBN cNT cS cB cN:Addr):Sp:=fun vs H Q E=>∃(M:List Addr) (S:HSt) (n kind rule:Str) (v:V) (t:Tr),vs=[.ref S.x,.str n,.str kind,v,.str rule]∧HouseT M C cK H S∧n.length≤100∧(∀c∈n.cps.toList,c<128)∧t.At (cut M H) v∧t.ok 5∧t.size≤23∧kind.length≤100∧rule.length≤100∧S.ls.length<900∧S.ts.length<900∧
 (¬goodN n→∀H',Same H H'→E (.ref cBN) none H')∧(goodN n→n∈nms S.ts→∀H',Same H H'→E (.ref cNT) none H')∧
 (goodN n→n∉nms S.ts→¬t.ok S.m→∀H',Same H H'→E (.ref cS) none H')∧(goodN n→n∉nms S.ts→t.ok S.m→¬(isRule rule∧isKind kind)→∀H',Same H H'→E (.ref cB) none H')∧
 (goodN n→n∉nms S.ts→t.ok S.m→isRule rule→isKind kind→[]∈sidesR kind t S.room→∀H',Same H H'→E (.ref cN) none H')∧
 (goodN n→n∉nms S.ts→t.ok S.m→isRule rule→isKind kind→[]∉sidesR kind t S.room→∀(a:Addr) (u:Tk) (H':Hp),But [S.U.tk,S.U.ln] H H'→H a=none→H u.gv=none→H u.lf=none→
  HouseT (a::u.gv::u.lf::M) C cK H' (addSt S ⟨n,a,u,newTa S.m kind rule t S.room⟩ (lineT ["begin",n,rule,kind,shS t]))→Q .non H')
def spHFork (C cK cNK cBN cNT:Addr):Sp:=fun vs H Q E=>∃(M:List Addr) (S:HSt) (k n:Str),vs=[.ref S.x,.str k,.str n]∧HouseT M C cK H S∧k.length≤100∧n.length≤100∧(∀c∈n.cps.toList,c<128)∧S.ls.length<900∧S.ts.length<900∧
 (k∉nms S.ts→E (.ref cNK) none H)∧(k∈nms S.ts→¬goodN n→∀H',Same H H'→E (.ref cBN) none H')∧(k∈nms S.ts→goodN n→n∈nms S.ts→∀H',Same H H'→E (.ref cNT) none H')∧
 (∀p∈S.ts,p.nm=k→goodN n→n∉nms S.ts→∀(a:Addr) (u:Tk) (H':Hp),But [S.U.tk,S.U.ln] H H'→H a=none→H u.gv=none→H u.lf=none→
  HouseT (a::u.gv::u.lf::M) C cK H' (addSt S ⟨n,a,u,p.w⟩ (lineT ["fork",k,n]))→Q .non H')
section
variable {P:Program} {w:World} {K:PySem.W.Frag} {mg:Str→Option Value} {base:Heap} {f:Addr} {fd:FuncData} {cH cK cS cB cN cT cBN cNT cNK:Addr}
theorem scHBegin:FnScope ["self","name","kind","sentence","rule"] ["self","name","kind","sentence","rule"] (defScope sHBegin):=⟨rfl,rfl,rfl,by decide +kernel,rfl,by decide +kernel,by decide +kernel⟩
theorem scHFork:FnScope ["self","name","other","talk"] ["self","name","other"] (defScope sHFork):=⟨rfl,rfl,rfl,by decide +kernel,rfl,by decide +kernel,by decide +kernel⟩
set_option maxHeartbeats 4000000 in
theorem ok_hbegin {m1 m2 fI gS:Addr} {e1 e2 dI dSh:FuncData} (F:Fun K "begin" "House.begin" sHBegin f fd) (HX:HsX K cH)
  (G1:FnOk P w K mg base (CXE P w) 2 m1 e1 ["self","name"] (spHNewName cH cK cBN cNT)) (C1:CalM K cH "refuse_new_name" m1 e1 ["self","name"])
  (GI:FnOk P w K mg base (CXE P w) 5 fI dI ["self","many","room","kind","sentence","rule"] (spTInit cK cS cB cN)) (CI:CalI K mg cK "Talk" fI dI ["self","many","room","kind","sentence","rule"])
  (GS:FnOk P w K mg base CX0 1 gS dSh ["sentence"] spShown) (CS:Cal K mg "shown" gS dSh ["sentence"])
  (G2:FnOk P w K mg base CX0 2 m2 e2 ["self","words"] (spHWrite cH)) (C2:CalM K cH "write" m2 e2 ["self","words"]):FnOk P w K mg base (CXE P w) 7 f fd ["self","name","kind","sentence","rule"] (spHBegin cH cK cBN cNT cS cB cN):=by
 refine Fun.okX F scHBegin (fun vs H Q E h=>?_) (fun cdv A outer s H vs Q E hr h=>?_)
 ·obtain⟨M,S,n,kind,rule,v,t,rfl,_⟩:=h
  rfl
 obtain⟨M,S,n,kind,rule,v,t,rfl,hT,hn1,h128,ha,ok5,hsz,hk1,hr1',hl9,ht9,qB,qN,qS,qW,qG,q⟩:=h
 have hr1:Room 1 _:=hr.mono (by decide)
 have hr2:Room 2 _:=hr.mono (by decide)
 refine⟨_,pss_cons (ps_expr (pe_meth (pv 0) HX.cl C1.m G1 hr2 C1.b .nil (pass_own (E1:=E) fun _ _ _ h=>h) (pa_cons (pv 1) pa_nil)))
  (pss_cons (ps_asg (pe_make CI.make GI hr (by rfl) CI.m CI.b .nil (pass_own (E1:=E) fun _ _ _ h=>h) (pa_cons (pe_fld (pv 0) rfl) (pa_cons (pe_fld (pv 0) rfl) (pa_cons (pv 2) (pa_cons (pv 3) (pa_cons (pv 4) pa_nil)))))) (pg_sub (pe_fld (pv 0) rfl) (pv 1) set_dict))
  (pss_one (ps_expr (pe_meth (pv 0) HX.cl C2.m G2 hr2 C2.b .nil pass0 (pa_cons (pe_lst (pa_cons pe_str (pa_cons (pv 1) (pa_cons (pv 4) (pa_cons (pv 2) (pa_cons (pe_call GS hr1 (by rfl) CS.m CS.k CS.b .nil pass0 (pa_cons (pv 3) pa_nil)) pa_nil)))))) pa_nil))))),?_⟩
 refine⟨_,rfl,S.x,_,_,rfl,hT.h.ob,ho_newname,_,rfl,M,S,n,rfl,hT,hn1,h128,fun c=>qB c,fun c c2=>qN c c2,fun hg hnn H1 s1=>?_⟩
 have hT1:=hT.keep s1
 have ha1:=ha.keep (TS.same (cut_mono s1))
 refine⟨_,rfl,S.x,cH,_,_,_,rfl,hT1.h.ob,HX.cl,HX.many,hk_many,_,rfl,S.x,cH,_,_,_,rfl,hT1.h.ob,HX.cl,HX.space,hk_space,_,rfl,_,rfl,_,rfl,fun x dx hx hdx nex=>?_⟩
 have sM:Same H1 (upd (upd H1 dx (.own x)) x (.ins cK dx [])):=(same_new hdx _).trans (same_new (by rw[upd_ne nex.symm];exact hx) _)
 have xM:x∉M:=fun z=>hT1.fr x z hx
 refine⟨x,dx,S.U.sp,S.m,kind,rule,v,t,S.room,M,rfl,upd_same,xM,fun m hm z=>hT1.fr m hm (sM.free z),ha1.keep (TS.same (cut_mono sM)),ok5,hsz,hT.h.m5,sM _ _ hT1.h.sp',hT.h.wr,
  fun c H' b=>qS hg hnn c H' (s1.trans (made_same hx hdx nex b)),fun c c2 H' b=>qW hg hnn c c2 H' (s1.trans (made_same hx hdx nex b)),fun c c2 c3 c4 H' b=>qG hg hnn c c2 c3 c4 H' (s1.trans (made_same hx hdx nex b)),fun c c2 c3 c4 u H2 b2 gv0 lf0 sp0 esv ht=>⟨rfl,?_⟩⟩
 have s2:Same H1 H2:=made_same hx hdx nex b2
 obtain⟨gv1,_,_⟩:=made_none (C:=cK) gv0
 obtain⟨lf1,_,_⟩:=made_none (C:=cK) lf0
 have hT2:=hT1.keep s2
 refine⟨_,rfl,S.x,cH,_,_,_,rfl,hT2.h.ob,HX.cl,HX.talks,hk_talks,_,rfl,S.U.tk,_,n,rfl,rfl,hT2.tk,tw_none hnn,(by show (S.ts.map _).length≤1000;rw[List.length_map];omega),?_⟩
 have ed:twD S.ts++[(n,V.ref x)]=twD (S.ts++[⟨n,x,u,newTa S.m kind rule t S.room⟩]):=by unfold twD;rw[List.map_append];rfl
 rw[ed]
 have hT3:=hT1.more (n:=n) s2 hx gv1 lf1 ht rfl rfl hnn ht9
 have b3:But [S.U.tk,S.U.ln] H (upd H2 S.U.tk (.dK (dS (twD (S.ts++[⟨n,x,u,newTa S.m kind rule t S.room⟩]))))):=(cut_mono (s1.trans s2)).trans (But.upd (by simp))
 have ha3:t.At (upd H2 S.U.tk (.dK (dS (twD (S.ts++[⟨n,x,u,newTa S.m kind rule t S.room⟩]))))) v:=by
  have k:Same (cut M H) (cut M (upd H2 S.U.tk (.dK (dS (twD (S.ts++[⟨n,x,u,newTa S.m kind rule t S.room⟩])))))):=(cut_mono (s1.trans s2)).trans (But.upd hT.mt)
  exact ha.keep (TS.same (k.trans cut_same))
 generalize upd H2 S.U.tk _=H3 at *
 refine⟨_,rfl,S.x,_,_,rfl,hT3.h.ob,ho_write,_,rfl,_,rfl,_,rfl,_,rfl,v,t,rfl,ha3,ok5,hsz,fun z H4 hz s4=>?_⟩
 have ez:=shS_of hz
 subst ez
 refine⟨le5,fun l hl=>?_⟩
 have s5:=same_new hl (.lst [.str "begin",.str n,.str rule,.str kind,.str (shS t)])
 have l5:upd H4 l (.lst [.str "begin",.str n,.str rule,.str kind,.str (shS t)]) l=some (.lst ([("begin":Str),n,rule,kind,shS t].map V.str)):=upd_same
 generalize upd H4 l _=H5 at *
 have hT5:=hT3.keep (s4.trans s5)
 refine⟨S.x,l,S.U,S.m,[("begin":Str),n,rule,kind,shS t],S.ls,rfl,hT5.h.ob,hT5.h.ln,by omega,l5,?_,?_⟩
 ·show ("begin":Str).length+(n.length+(rule.length+(kind.length+((shS t).length+0))))+5≤100000
  have:("begin":Str).length=5:=rfl
  have:=shS_len t
  omega
 have hT6:=hT5.wrote (.str (lineT ["begin",n,rule,kind,shS t])) hl9
 exact q hg hnn c c2 c3 c4 x u _ ((b3.trans (cut_mono (s4.trans s5))).trans (But.upd (by simp))) (s1.free hx) (s1.free gv1) (s1.free lf1) hT6
set_option maxHeartbeats 4000000 in
theorem ok_hfork {m1 m2 m3 m4:Addr} {e1 e2 e3 e4:FuncData} (F:Fun K "fork" "House.fork" sHFork f fd) (HX:HsX K cH) (TX:TkX K cK)
  (G1:FnOk P w K mg base (CXE P w) 3 m1 e1 ["self","name"] (spHTalkOf cH cK cNK)) (C1:CalM K cH "talk_of" m1 e1 ["self","name"])
  (G2:FnOk P w K mg base (CXE P w) 2 m2 e2 ["self","name"] (spHNewName cH cK cBN cNT)) (C2:CalM K cH "refuse_new_name" m2 e2 ["self","name"])
  (G3:FnOk P w K mg base CX0 7 m3 e3 ["self"] (spTFork cK)) (C3:CalM K cK "fork" m3 e3 ["self"])
  (G4:FnOk P w K mg base CX0 2 m4 e4 ["self","words"] (spHWrite cH)) (C4:CalM K cH "write" m4 e4 ["self","words"]):FnOk P w K mg base (CXE P w) 8 f fd ["self","name","other"] (spHFork cH cK cNK cBN cNT):=by
 refine Fun.okX F scHFork (fun vs H Q E h=>?_) (fun cdv A outer s H vs Q E hr h=>?_)
 ·obtain⟨M,S,k,n,rfl,_⟩:=h
  rfl
 obtain⟨M,S,k,n,rfl,hT,hk1,hn1,h128,hl9,ht9,qK,qB,qN,q⟩:=h
 have hr2:Room 2 _:=hr.mono (by decide)
 have hr3:Room 3 _:=hr.mono (by decide)
 refine⟨_,pss_cons (ps_set (i:=3) scHFork.nd rfl (Or.inl rfl) (pe_meth (pv 0) HX.cl C1.m G1 hr3 C1.b .nil (pass_own (E1:=E) fun _ _ _ h=>h) (pa_cons (pv 1) pa_nil)))
  (pss_cons (ps_expr (pe_meth (pv 0) HX.cl C2.m G2 hr2 C2.b .nil (pass_own (E1:=E) fun _ _ _ h=>h) (pa_cons (pv 2) pa_nil)))
  (pss_cons (ps_asg (pe_meth0 (pv 3) TX.cl C3.m G3 hr C3.b .nil pass0) (pg_sub (pe_fld (pv 0) rfl) (pv 2) set_dict))
  (pss_one (ps_expr (pe_meth (pv 0) HX.cl C4.m G4 hr2 C4.b .nil pass0 (pa_cons (pe_lst (pa_cons pe_str (pa_cons (pv 1) (pa_cons (pv 2) pa_nil)))) pa_nil)))))),?_⟩
 refine⟨_,rfl,S.x,_,_,rfl,hT.h.ob,ho_talkof,_,rfl,M,S,k,rfl,hT,fun c=>qK c,fun p hp ep=>?_⟩
 have hkin:k∈nms S.ts:=by rw[←ep];exact List.mem_map_of_mem hp
 refine⟨_,rfl,S.x,_,_,rfl,hT.h.ob,ho_newname,_,rfl,M,S,n,rfl,hT,hn1,h128,fun c=>qB hkin c,fun c c2=>qN hkin c c2,fun hg hnn H1 s1=>?_⟩
 have hT1:=hT.keep s1
 have tp:=(hT1.tt p hp)
 refine⟨_,rfl,p.a,_,_,rfl,tp.1.ob,no_fork,p.a,M,p.u,p.w,rfl,tp.1,hT1.fr,fun a u H2 s2 a0 g0 l0 ht=>?_⟩
 have hT2:=hT1.keep s2
 refine⟨_,rfl,S.x,cH,_,_,_,rfl,hT2.h.ob,HX.cl,HX.talks,hk_talks,_,rfl,S.U.tk,_,n,rfl,rfl,hT2.tk,tw_none hnn,(by show (S.ts.map _).length≤1000;rw[List.length_map];omega),?_⟩
 have ed:twD S.ts++[(n,V.ref a)]=twD (S.ts++[⟨n,a,u,p.w⟩]):=by unfold twD;rw[List.map_append];rfl
 rw[ed]
 have hT3:=hT1.more (n:=n) s2 a0 g0 l0 ht tp.2.1 tp.2.2 hnn ht9
 have b3:But [S.U.tk,S.U.ln] H (upd H2 S.U.tk (.dK (dS (twD (S.ts++[⟨n,a,u,p.w⟩]))))):=(cut_mono (s1.trans s2)).trans (But.upd (by simp))
 generalize upd H2 S.U.tk _=H3 at *
 refine⟨_,rfl,S.x,_,_,rfl,hT3.h.ob,ho_write,_,rfl,_,rfl,le3,fun l hl=>?_⟩
 have s4:=same_new hl (.lst [.str "fork",.str k,.str n])
 have l4:upd H3 l (.lst [.str "fork",.str k,.str n]) l=some (.lst ([("fork":Str),k,n].map V.str)):=upd_same
 generalize upd H3 l _=H4 at *
 have hT4:=hT3.keep s4
 refine⟨S.x,l,S.U,S.m,[("fork":Str),k,n],S.ls,rfl,hT4.h.ob,hT4.h.ln,by omega,l4,?_,?_⟩
 ·show ("fork":Str).length+(k.length+(n.length+0))+3≤100000
  have:("fork":Str).length=4:=rfl
  omega
 have hT5:=hT4.wrote (.str (lineT ["fork",k,n])) hl9
 exact q p hp ep hg hnn a u _ ((b3.trans (cut_mono s4)).trans (But.upd (by simp))) (s1.free a0) (s1.free g0) (s1.free l0) hT5
end
abbrev sLname:Stmt:=top 43
abbrev sLnames:Stmt:=top 44
abbrev sLbad:Stmt:=top 47
abbrev sLtexts:Stmt:=top 46
theorem op_fdivW {X:Cx}:OpR X (binaryOp .FloorDiv) (rI (fun _ j=>0<j∧j.natAbs.log2<9000) fun i j=>.int (i / j)):=opI fun i j _ _ _ _ _ hc q=>
 have h1:(0:Int)<j:=hc.1
 floordiv_int (by omega) (by rw[Int.fdiv_eq_ediv_of_nonneg i (by omega)];exact q) (.inl (PyProof.noPylong_of_log2 hc.2))
abbrev alph:Str:="abcdefghijklmnopqrstuvwxyz"
theorem alph_at:∀j:Nat,j<26→atI alph.cps.toList (j:Int)=some (97+j):=by decide +kernel
theorem alph_len:alph.length≤sizeLine:=by decide
abbrev odds:Str:="AZ09_ -.{`~a"
theorem odd_at:∀j:Nat,j<12→∃c,atI odds.cps.toList (j:Int)=some c∧c<128∧(c=97∨small c=false):=by
 intro j hj
 match j,hj with
 | 0,_=>exact⟨65,by decide,by decide,.inr (by decide)⟩
 | 1,_=>exact⟨90,by decide,by decide,.inr (by decide)⟩
 | 2,_=>exact⟨48,by decide,by decide,.inr (by decide)⟩
 | 3,_=>exact⟨57,by decide,by decide,.inr (by decide)⟩
 | 4,_=>exact⟨95,by decide,by decide,.inr (by decide)⟩
 | 5,_=>exact⟨32,by decide,by decide,.inr (by decide)⟩
 | 6,_=>exact⟨45,by decide,by decide,.inr (by decide)⟩
 | 7,_=>exact⟨46,by decide,by decide,.inr (by decide)⟩
 | 8,_=>exact⟨123,by decide,by decide,.inr (by decide)⟩
 | 9,_=>exact⟨96,by decide,by decide,.inr (by decide)⟩
 | 10,_=>exact⟨126,by decide,by decide,.inr (by decide)⟩
 | 11,_=>exact⟨97,by decide,by decide,.inl rfl⟩
def smalls (z:Str):Prop:=(cds z).all small=true
theorem smalls_app {z:Str} {c:Nat} (h:smalls z) (hc:97≤c∧c≤122):smalls (z++⟨#[c]⟩):=by
 unfold smalls at *
 rw[cds_app,List.all_append,h]
 show (true && (small c && true))=true
 unfold small
 rw[decide_eq_true hc];rfl
theorem smalls_lt {z:Str} (h:smalls z):∀c∈z.cps.toList,c<128:=fun c hc=>by
 have:=List.all_eq_true.mp h c hc
 unfold small at this
 have:=of_decide_eq_true this
 omega
theorem goodN.lt {z:Str} (h:goodN z):∀c∈z.cps.toList,c<128:=smalls_lt h.2.2
theorem strs_in (z:Str) (zs:List Str):inV (.str z) (zs.map V.str)=decide (z∈zs):=by
 unfold inV
 rw[List.any_map,Bool.eq_iff_iff,List.any_eq_true,decide_eq_true_iff]
 constructor
 ·rintro⟨y,hy,e⟩
  have e:(y == z)=true:=e
  rw[←eq_of_beq e];exact hy
 ·intro h
  exact⟨z,h,beq_self_eq_true z⟩
def cnt (zs:List Str) (k:Nat):Nat:=(zs.filter fun y=>decide (k≤y.length)).length
theorem cnt_le (zs:List Str) (k:Nat):cnt zs k≤zs.length:=List.length_filter_le _ _
theorem cnt_mono (k:Nat):∀zs:List Str,cnt zs (k+1)≤cnt zs k
 | []=>Nat.le_refl _
 | y::zs=>by
  have ih:=cnt_mono k zs
  unfold cnt at *
  rw[List.filter_cons,List.filter_cons]
  by_cases h1:k+1≤y.length
  ·rw[if_pos (decide_eq_true h1),if_pos (decide_eq_true (by omega))]
   simp only[List.length_cons]
   omega
  ·rw[if_neg (by simpa using h1)]
   split
   ·simp only[List.length_cons];omega
   ·exact ih
theorem cnt_lt:∀{zs:List Str} {n:Str},n∈zs→cnt zs (n.length+1)<cnt zs n.length
 | [],_,h=>nomatch h
 | y::zs,n,h=>by
  have hm:=cnt_mono n.length zs
  by_cases e:y=n
  ·subst e
   unfold cnt at *
   rw[List.filter_cons,List.filter_cons,if_neg (by simp),if_pos (by simp)]
   simp only[List.length_cons]
   omega
  ·have ih:=cnt_lt (zs:=zs) (n:=n) (by
    rcases List.mem_cons.mp h with z | z
    ·exact absurd z.symm e
    ·exact z)
   unfold cnt at *
   rw[List.filter_cons,List.filter_cons]
   by_cases h1:n.length+1≤y.length
   ·rw[if_pos (decide_eq_true h1),if_pos (decide_eq_true (by omega))]
    simp only[List.length_cons]
    omega
   ·rw[if_neg (by simpa using h1)]
    split
    ·simp only[List.length_cons];omega
    ·exact ih
theorem sq_mid {t u:L2.TS} {D:Ends} {σ:L2.St} {H:Hp} (Mid:L2.St→Hp→Prop) (h2:∀σ' H',Mid σ' H'→u D σ' H') (h1:(∀σ' H',Mid σ' H'→u D σ' H')→t { D with nx:=u D } σ H):tSeq t u D σ H:=h1 h2
def spLname:Sp:=fun vs H Q _=>∃(n:Int),vs=[.int n]∧0≤n∧∀z:Str,goodN z→Q (.str z) H
def spLnames (K:PySem.W.Frag):Sp:=fun vs H Q _=>∃(a:Addr) (ns:List Int),vs=[.ref a]∧SqL K H a (ns.map V.int)∧ns.length≤63∧∀(l:Addr) (zs:List Str) (H':Hp),Same H H'→H l=none→H' l=some (.lst (zs.map V.str))→zs.length=3→(∀z∈zs,goodN z)→Q (.ref l) H'
def spLbad:Sp:=fun vs H Q _=>∃(n:Int) (z:Str),vs=[.int n,.str z]∧0≤n∧goodN z∧∀z':Str,¬goodN z'→(∀c∈z'.cps.toList,c<128)→z'.length≤100→Q (.str z') H
def spLtexts (K:PySem.W.Frag):Sp:=fun vs H Q _=>∃(a b:Addr) (zs:List Str),vs=[.ref a,.ref b]∧H a=some (.lst (zs.map V.str))∧SqL K H b (zs.map V.str)∧zs.length≤900∧Q (.bl true) H
section
variable {P:Program} {w:World} {K:PySem.W.Frag} {mg:Str→Option Value} {base:Heap} {f:Addr} {fd:FuncData}
theorem scLname:FnScope ["_law_n","_law_size","_law_found","_law_turn"] ["_law_n"] (defScope sLname):=⟨rfl,rfl,rfl,by decide +kernel,rfl,by decide +kernel,by decide +kernel⟩
theorem scLnames:FnScope ["_law_script","_law_found","_law_k","_law_name_here"] ["_law_script"] (defScope sLnames):=⟨rfl,rfl,rfl,by decide +kernel,rfl,by decide +kernel,by decide +kernel⟩
theorem scLbad:FnScope ["_law_n","_law_name_here","_law_odd","_law_at"] ["_law_n","_law_name_here"] (defScope sLbad):=⟨rfl,rfl,rfl,by decide +kernel,rfl,by decide +kernel,by decide +kernel⟩
theorem scLtexts:FnScope ["_law_found","_law_due_here","_law_k"] ["_law_found","_law_due_here"] (defScope sLtexts):=⟨rfl,rfl,rfl,by decide +kernel,rfl,by decide +kernel,by decide +kernel⟩
theorem ok_lname (F:Fun K "_law_name" "_law_name" sLname f fd) (B:Bl mg):FnOk P w K mg base CX0 1 f fd ["_law_n"] spLname:=by
 refine F.ok scLname (fun vs H Q E h=>?_) (fun cdv A outer s H vs Q E hr h=>?_)
 ·obtain⟨n,rfl,_⟩:=h
  rfl
 obtain⟨n,rfl,hn,q⟩:=h
 refine⟨_,pss_cons (ps_set (i:=1) scLname.nd rfl (Or.inl rfl) (pe_op op_add pe_int (pe_op op_mod (pv 0) pe_int)))
  (pss_cons (ps_set (i:=0) scLname.nd rfl (Or.inl rfl) (pe_op op_fdiv (pv 0) pe_int))
  (pss_cons (ps_set (i:=2) scLname.nd rfl (Or.inl rfl) pe_str)
  (pss_cons (ps_for PassesOwn.never rfl (pi_range1 (by rfl) B.range (pa_cons (pv 1) pa_nil)) (pg_name (i:=3) scLname.nd rfl (Or.inl rfl))
   (pss_cons (ps_set (i:=2) scLname.nd rfl (Or.inl rfl) (pe_op op_add_str (pv 2) (pe_ix ix_str pe_str (pe_op op_mod (pv 0) pe_int) (fun _ _=>rfl))))
   (pss_one (ps_set (i:=0) scLname.nd rfl (Or.inl rfl) (pe_op op_fdiv (pv 0) pe_int)))))
  (pss_one (ps_ret (pv 2)))))),?_⟩
 have e0:=Int.emod_nonneg n (show (8:Int)≠0 by decide)
 have e1:=Int.emod_lt_of_pos n (show (0:Int)<8 by decide)
 refine⟨_,rfl,_,_,rfl,rfl,(by show (0:Int)<8;decide),_,_,rfl,rfl,_,rfl,_,_,rfl,rfl,⟨by decide,by decide⟩,?_⟩
 refine⟨_,rfl,_,rfl,(by omega),(by omega),for_range (fun i σ H1=>H1=H∧∃(k:Int) (z:Str) (v0:Option V),σ=[some (.int k),some (.int (1+n%8)),some (.str z),v0]∧0≤k∧z.length=i∧smalls z) ⟨rfl,_,_,_,rfl,Int.ediv_nonneg hn (by decide),rfl,rfl⟩ ?_ ?_⟩
 ·rintro i σ H1 hi ⟨rfl,k,z,v0,rfl,hk,hz,hs⟩
  have hi8:i<8:=by omega
  have e2:=Int.emod_nonneg k (show (26:Int)≠0 by decide)
  have e3:=Int.emod_lt_of_pos k (show (0:Int)<26 by decide)
  obtain⟨j,hj⟩:=Int.eq_ofNat_of_zero_le e2
  have hj26:j<26:=by omega
  refine⟨_,rfl,_,rfl,_,_,rfl,rfl,(by show (0:Int)<26;decide),_,_,_,rfl,rfl,alph_len,(by show atI alph.cps.toList (k%26)=_;rw[hj];exact alph_at j hj26),_,_,rfl,rfl,?_,?_⟩
  ·show z.length+1≤sizeLine
   rw[hz]
   exact Nat.le_trans (show i+1≤8 by omega) (by decide)
  refine⟨_,rfl,_,_,rfl,rfl,⟨by decide,by decide⟩,rfl,_,_,_,rfl,Int.ediv_nonneg hk (by decide),?_,smalls_app hs (by omega)⟩
  rw[len_cds,cds_app,List.length_append,←len_cds,hz];rfl
 ·rintro σ H1 ⟨rfl,k,z,v0,rfl,hk,hz,hs⟩
  refine⟨_,rfl,q z ⟨?_,?_,hs⟩⟩<;>omega
theorem ok_ltexts {g:Addr} {gd:FuncData} (F:Fun K "_law_texts_are" "_law_texts_are" sLtexts f fd) (T:BTx mg) (B:Bl mg) (GY:FnOk P w K mg base CX0 1 g gd ["_law_found","_law_due_here"] spSays) (CY:Cal K mg "_law_says" g gd ["_law_found","_law_due_here"]):FnOk P w K mg base CX0 2 f fd ["_law_found","_law_due_here"] (spLtexts K):=by
 refine F.ok scLtexts (fun vs H Q E h=>?_) (fun cdv A outer s H vs Q E hr h=>?_)
 ·obtain⟨a,b,zs,rfl,_⟩:=h
  rfl
 obtain⟨a,b,zs,rfl,ha,hb,hl,q⟩:=h
 refine⟨_,pss_cons (ps_if (pw_or (pt_not (pt_val (pe_callB call_isinst (by rfl) T.isi boot_isinstance (pa_cons (pv 0) (pa_cons (pe_bltn (v:=.ty "list") (by rfl) T.lst boot_lst rfl) pa_nil))))) (pw_or1 (pt_cmpR op_ne (pe_callB call_len_seq (by rfl) B.len PySem.boot_len (pa_cons (pv 0) pa_nil)) (pe_callB call_len_seq (by rfl) B.len PySem.boot_len (pa_cons (pv 1) pa_nil)) (nomark _)))).pt
   (pss_one (ps_ret pe_bl))
   pss_nil)
  (pss_cons (ps_for PassesOwn.never rfl (pi_range1 (by rfl) B.range (pa_cons (pe_callB call_len_seq (by rfl) B.len PySem.boot_len (pa_cons (pv 1) pa_nil)) pa_nil)) (pg_name (i:=2) scLtexts.nd rfl (Or.inl rfl))
   (pss_one (ps_if (pt_not (pt_val (pe_call GY hr (by rfl) CY.m CY.k CY.b .nil pass0 (pa_cons (pe_ix ix_list (pv 0) (pv 2) (fun _ _=>rfl)) (pa_cons (pe_ix ix_list (pv 1) (pv 2) (fun _ _=>rfl)) pa_nil)))))
    (pss_one (ps_ret pe_bl))
    pss_nil)))
  (pss_one (ps_ret pe_bl))),?_⟩
 have hlen:(zs.map V.str).length=zs.length:=List.length_map _
 refine⟨_,rfl,_,_,_,_,rfl,.lst ha,kit_same _ _,_,rfl,?_⟩
 refine iteF ?_
 refine⟨_,rfl,a,_,rfl,.inl (SqL.of ha),_,rfl,b,_,rfl,.inl hb,rfl,_,rfl,?_⟩
 refine iteNS rfl ?_
 refine⟨_,rfl,b,_,rfl,.inl hb,_,rfl,(by show -(2^62)≤(((zs.map V.str).length:Nat):Int);omega),(by show (((zs.map V.str).length:Nat):Int)<2^62;omega),for_range (fun i σ H2=>∃kv,σ=[some (.ref a),some (.ref b),kv]∧H2=H) ⟨_,rfl,rfl⟩ ?_ ?_⟩
 ·rintro i σ H2 hi ⟨kv,rfl,rfl⟩
  have hi':i<zs.length:=by
   have h0:i<(((zs.map V.str).length:Nat):Int).toNat:=hi
   omega
  rw[Int.zero_add]
  have hat:atI (zs.map V.str) (i:Int)=some (.str zs[i]):=atI_nat (by rw[List.getElem?_map,List.getElem?_eq_getElem hi'];rfl)
  exact⟨_,rfl,_,rfl,a,_,_,_,rfl,rfl,SqL.of ha,hat,_,rfl,_,rfl,b,_,_,_,rfl,rfl,hb,hat,_,rfl,_,rfl,iteF ⟨_,rfl,rfl⟩⟩
 ·rintro σ H2 ⟨kv,rfl,rfl⟩
  exact q
theorem ok_lbad (F:Fun K "_law_bad_name" "_law_bad_name" sLbad f fd) (B:Bl mg):FnOk P w K mg base CX0 1 f fd ["_law_n","_law_name_here"] spLbad:=by
 refine F.ok scLbad (fun vs H Q E h=>?_) (fun cdv A outer s H vs Q E hr h=>?_)
 ·obtain⟨n,z,rfl,_⟩:=h
  rfl
 obtain⟨n,z,rfl,hn,hg,q⟩:=h
 refine⟨_,pss_cons (ps_set (i:=2) scLbad.nd rfl (Or.inl rfl) (pe_ix ix_str pe_str (pe_op op_mod (pv 0) pe_int) (fun _ _=>rfl)))
  (pss_cons (ps_set (i:=3) scLbad.nd rfl (Or.inl rfl) (pe_op op_mod (pe_op op_fdiv (pv 0) pe_int) (pe_callB call_len_str (by rfl) B.len PySem.boot_len (pa_cons (pv 1) pa_nil))))
  (pss_cons (ps_if (pt_cmpR op_eq (pe_op op_mod (pe_op op_fdiv (pv 0) pe_int) pe_int) pe_int (nomark _))
   (pss_one (ps_ret pe_str))
   pss_nil)
  (pss_cons (ps_if (pt_cmpR op_eq (pe_op op_mod (pe_op op_fdiv (pv 0) pe_int) pe_int) pe_int (nomark _))
   (pss_one (ps_ret (pe_slice sl_str (pe_op op_add_str (pv 1) pe_str) po_none (po_some pe_int))))
   pss_nil)
  (pss_cons (ps_if (pt_cmpR op_eq (pv 2) pe_str (nomark _))
   (pss_one (ps_set (i:=2) scLbad.nd rfl (Or.inl rfl) pe_str))
   pss_nil)
  (pss_one (ps_ret (pe_op op_add_str (pe_op op_add_str (pe_slice sl_str (pv 1) po_none (po_some (pv 3))) (pv 2)) (pe_slice sl_str (pv 1) (po_some (pe_op op_add (pv 3) pe_int)) po_none)))))))),?_⟩
 have hzl:(z.length:Int)≠0:=by have:=hg.1;omega
 have e0:=Int.emod_nonneg n (show (12:Int)≠0 by decide)
 have e1:=Int.emod_lt_of_pos n (show (0:Int)<12 by decide)
 obtain⟨j,hj⟩:=Int.eq_ofNat_of_zero_le e0
 obtain⟨c,hc,hodd⟩:=odd_at j (by omega)
 have hz100:z.length≤sizeLine:=Nat.le_trans hg.2.1 (by decide)
 refine⟨_,rfl,_,_,rfl,rfl,(by show (0:Int)<12;decide),_,_,_,rfl,rfl,(by decide),(by show atI odds.cps.toList (n%12)=some c;rw[hj];exact hc),?_⟩
 refine⟨_,rfl,_,_,rfl,rfl,⟨by decide,by decide⟩,_,rfl,z,rfl,hz100,_,_,rfl,rfl,(by have:=hg.1;omega),?_⟩
 have hlz:(cds z).length=z.length:=(len_cds z).symm
 have hsm:smalls z:=hg.2.2
 obtain⟨p,hp⟩:=Int.eq_ofNat_of_zero_le (Int.emod_nonneg (n / 12) hzl)
 have hpl:p<z.length:=by
  have:=Int.emod_lt_of_pos (n / 12) (show (0:Int)<z.length by have:=hg.1;omega)
  omega
 refine⟨_,rfl,_,_,rfl,rfl,⟨by decide,by decide⟩,_,_,rfl,rfl,(by show (0:Int)<4;decide),rfl,_,rfl,ite2 (fun _=>?_) (fun _=>?_)⟩
 ·exact q "" (fun h=>absurd h.1 (by decide)) (by decide) (by decide)
 refine⟨_,rfl,_,_,rfl,rfl,⟨by decide,by decide⟩,_,_,rfl,rfl,(by show (0:Int)<4;decide),rfl,_,rfl,ite2 (fun _=>?_) (fun _=>?_)⟩
 ·have l9:("abcdefghi":Str).length=9:=rfl
  have l17:(z++("abcdefghi":Str)).length=z.length+9:=by rw[len_cds,cds_app,List.length_append,←len_cds,←len_cds,l9]
  have hz17:(z++("abcdefghi":Str)).length≤sizeLine:=by rw[l17];exact Nat.le_trans (show z.length+9≤17 by have:=hg.2.1;omega) (by decide)
  have ec:cds (Txt.slice (z++("abcdefghi":Str)) none (some ((9:Nat):Int)))=(cds (z++("abcdefghi":Str))).take 9:=slice_to (by show 9≤(cds _).length;rw[←len_cds,l17];omega)
  have el:(Txt.slice (z++("abcdefghi":Str)) none (some ((9:Nat):Int))).length=9:=by rw[len_cds,ec,List.length_take,←len_cds,l17];omega
  refine⟨_,rfl,_,_,rfl,rfl,(by rw[l9];exact Nat.le_trans (show z.length+9≤17 by have:=hg.2.1;omega) (by decide)),_,rfl,_,rfl,hz17,q _ (fun h=>?_) (fun d hd=>?_) ?_⟩
  ·have h8:(Txt.slice (z++("abcdefghi":Str)) none (some ((9:Nat):Int))).length≤8:=h.2.1
   omega
  ·have hd':d∈cds (Txt.slice (z++("abcdefghi":Str)) none (some ((9:Nat):Int))):=hd
   rw[ec,cds_app] at hd'
   rcases List.mem_append.mp (List.mem_of_mem_take hd') with h | h
   ·exact hg.lt d h
   ·have:∀d∈cds ("abcdefghi":Str),d<128:=by decide
    exact this d h
  ·show (Txt.slice (z++("abcdefghi":Str)) none (some ((9:Nat):Int))).length≤100
   omega
 refine nx_mid (fun σ H1=>H1=H∧∃c:Nat,c<128∧small c=false∧σ=[some (.int n),some (.str z),some (.str ⟨#[c]⟩),some (.int (n / 12%(z.length:Int)))]) ?_ ?_
 ·rintro σ H1 ⟨rfl,c,hc1,hc2,rfl⟩
  rw[hp]
  have ea:cds (Txt.slice z none (some (p:Int)))=(cds z).take p:=slice_to (by show p≤(cds z).length;omega)
  have eb:cds (Txt.slice z (some (((p+1:Nat)):Int)) none)=(cds z).drop (p+1):=slice_from (by show p+1≤(cds z).length;omega)
  have la:(Txt.slice z none (some (p:Int))).length=p:=by rw[len_cds,ea,List.length_take];omega
  have lb:(Txt.slice z (some (((p+1:Nat)):Int)) none).length=z.length-(p+1):=by rw[len_cds,eb,List.length_drop];omega
  have ep:(p:Int)+1=((p+1:Nat):Int):=by omega
  have hlen:z.length≤8:=hg.2.1
  have lc:(⟨#[c]⟩:Str).length=1:=rfl
  have lab:(Txt.slice z none (some (p:Int))++(⟨#[c]⟩:Str)).length=p+1:=by rw[len_cds,cds_app,List.length_append,←len_cds,la];rfl
  refine⟨_,rfl,_,rfl,_,rfl,_,rfl,hz100,_,rfl,_,_,rfl,rfl,?_,_,rfl,_,rfl,_,_,rfl,rfl,_,rfl,_,rfl,hz100,_,_,rfl,rfl,?_,?_⟩
  ·rw[la,lc];exact Nat.le_trans (show p+1≤9 by omega) (by decide)
  ·rw[ep,lab,lb];exact Nat.le_trans (show p+1+(z.length-(p+1))≤9 by omega) (by decide)
  rw[ep]
  have ecc:cds (Txt.slice z none (some (p:Int))++(⟨#[c]⟩:Str)++Txt.slice z (some (((p+1:Nat)):Int)) none)=(cds z).take p++[c]++(cds z).drop (p+1):=by rw[cds_app,cds_app,ea,eb]
  refine q _ (fun h=>?_) (fun d hd=>?_) ?_
  ·have h3:(cds (Txt.slice z none (some (p:Int))++(⟨#[c]⟩:Str)++Txt.slice z (some (((p+1:Nat)):Int)) none)).all small=true:=h.2.2
   rw[ecc] at h3
   have:=List.all_eq_true.mp h3 c (by simp)
   rw[hc2] at this
   cases this
  ·have hd':d∈cds (Txt.slice z none (some (p:Int))++(⟨#[c]⟩:Str)++Txt.slice z (some (((p+1:Nat)):Int)) none):=hd
   rw[ecc] at hd'
   rcases List.mem_append.mp hd' with h | h
   ·rcases List.mem_append.mp h with h | h
    ·exact hg.lt d (List.mem_of_mem_take h)
    ·rw[List.mem_singleton.mp h];exact hc1
   ·exact hg.lt d (List.mem_of_mem_drop h)
  ·rw[len_cds,ecc,List.length_append,List.length_append,List.length_take,List.length_drop]
   show min p (cds z).length+1+((cds z).length-(p+1))≤100
   omega
 ·intro next
  refine⟨_,rfl,rfl,_,rfl,ite2 (fun h=>?_) (fun h=>?_)⟩
  ·exact next _ _ ⟨rfl,33,by decide,by decide,rfl⟩
  ·refine next _ _ ⟨rfl,c,hodd.1,?_,rfl⟩
   rcases hodd.2 with e | e
   ·exact absurd (by rw[e];decide) h
   ·exact e
set_option maxHeartbeats 4000000 in
theorem ok_lnames {g1 g2:Addr} {d1 d2:FuncData} (F:Fun K "_law_names" "_law_names" sLnames f fd) (B:Bl mg) (GN:FnOk P w K mg base CX0 1 g1 d1 ["_law_script","_law_k"] (spNum K)) (CN:Cal K mg "_law_num" g1 d1 ["_law_script","_law_k"]) (GM:FnOk P w K mg base CX0 1 g2 d2 ["_law_n"] spLname) (CM:Cal K mg "_law_name" g2 d2 ["_law_n"]):FnOk P w K mg base CX0 2 f fd ["_law_script"] (spLnames K):=by
 refine F.ok scLnames (fun vs H Q E h=>?_) (fun cdv A outer s H vs Q E hr h=>?_)
 ·obtain⟨a,ns,rfl,_⟩:=h
  rfl
 obtain⟨a,ns,rfl,hS,h63,q⟩:=h
 have hr1:Room 1 _:=hr.mono (by decide)
 refine⟨_,pss_cons (ps_set (i:=1) scLnames.nd rfl (Or.inl rfl) (pe_lst pa_nil))
  (pss_cons (ps_for PassesOwn.never rfl (pi_range1 (by rfl) B.range (pa_cons pe_int pa_nil)) (pg_name (i:=2) scLnames.nd rfl (Or.inl rfl))
   (pss_cons (ps_set (i:=3) scLnames.nd rfl (Or.inl rfl) (pe_call GM hr1 (by rfl) CM.m CM.k CM.b .nil pass0 (pa_cons (pe_op op_fdivW (pe_call GN hr1 (by rfl) CN.m CN.k CN.b .nil pass0 (pa_cons (pv 0) (pa_cons pe_int pa_nil))) (pe_ix ix_list (pe_lst (pa_cons pe_int (pa_cons (pe_op op_pow pe_int pe_int) (pa_cons (pe_op op_pow pe_int pe_int) pa_nil)))) (pv 2) (fun _ _=>rfl))) pa_nil)))
   (pss_cons (ps_if (pt_cmpR op_in_seq (pv 3) (pv 1) (by with_unfolding_all rfl))
    (pss_one (ps_set (i:=3) scLnames.nd rfl (Or.inl rfl) (pe_ix ix_list (pe_lst (pa_cons pe_str (pa_cons pe_str (pa_cons pe_str pa_nil)))) (pv 2) (fun _ _=>rfl))))
    pss_nil)
   (pss_cons (ps_while PassesOwn.never (pt_cmpR op_in_seq (pv 3) (pv 1) (by with_unfolding_all rfl))
    (pss_one (ps_set (i:=3) scLnames.nd rfl (Or.inl rfl) (pe_op op_add_str (pv 3) pe_str))))
   (pss_one (ps_expr (pe_bm PySem.F.plainAttrs_list PySem.F.slot_list_append PySem.F.type_list_append mt_append (pv 1) (pa_cons (pv 3) pa_nil))))))))
  (pss_one (ps_ret (pv 1)))),?_⟩
 refine⟨le0,fun fo hfo=>?_⟩
 have s1:=same_new hfo (.lst [])
 have fo1:upd H fo (.lst []) fo=some (.lst (([]:List Str).map V.str)):=upd_same
 generalize upd H fo _=H1 at *
 refine⟨_,rfl,by decide,by decide,for_range (fun i σ H2=>∃(v0 v1:Option V) (zs:List Str),σ=[some (.ref a),some (.ref fo),v0,v1]∧Same H H2∧H2 fo=some (.lst (zs.map V.str))∧zs.length=i∧∀z∈zs,goodN z) ⟨_,_,[],rfl,s1,fo1,rfl,fun z hz=>by simp at hz⟩ ?_ ?_⟩
 ·rintro i σ H2 hi ⟨v0,v1,zs,rfl,s2,fo2,lz,hgz⟩
  have hi3:i<3:=by
   have h0:i<(3:Int).toNat:=hi
   exact h0
  rw[Int.zero_add]
  obtain⟨y,hy0,hy1,hya⟩:∃y:Int,0<y∧y.natAbs.log2<9000∧atI [V.int 1,V.int (10^(5:Int).toNat),V.int (10^(11:Int).toNat)] (i:Int)=some (.int y):=by
   match i,hi3 with
   | 0,_=>exact⟨1,by decide,by decide,atI_nat (j:=0) rfl⟩
   | 1,_=>exact⟨_,by decide,by decide,atI_nat (j:=1) rfl⟩
   | 2,_=>exact⟨_,by decide,by decide,atI_nat (j:=2) rfl⟩
  refine⟨_,rfl,a,ns,5,rfl,s2.seq hS,h63,by decide,by decide,fun n H3 hn s3=>?_⟩
  refine⟨_,_,rfl,rfl,⟨by decide,by decide,by decide⟩,_,_,rfl,rfl,⟨by decide,by decide,by decide⟩,le3,fun L hL=>?_⟩
  have s4:=same_new hL (.lst [V.int 1,V.int (10^(5:Int).toNat),V.int (10^(11:Int).toNat)])
  have L4:upd H3 L (.lst [V.int 1,V.int (10^(5:Int).toNat),V.int (10^(11:Int).toNat)]) L=some (.lst [V.int 1,V.int (10^(5:Int).toNat),V.int (10^(11:Int).toNat)]):=upd_same
  dsimp only
  generalize upd H3 L _=H4 at *
  refine⟨_,rfl,L,_,_,_,rfl,rfl,SqL.of L4,hya,_,_,rfl,rfl,⟨hy0,hy1⟩,_,rfl,Int.ediv_nonneg hn (Int.le_of_lt hy0),fun z hz=>?_⟩
  have u4:=s2.trans (s3.trans s4)
  have fo4:=s4 _ _ (s3 _ _ fo2)
  have flz:(zs.map V.str).all flatV=true:=by rw[List.all_map];exact List.all_eq_true.mpr fun _ _=>rfl
  have nfo:∀{H':Hp},Same H4 H'→H' fo=some (.lst (zs.map V.str)):=fun s=>s _ _ fo4
  refine set_go (σ':=[some (.ref a),some (.ref fo),some (.int (i:Int)),some (.str z)]) rfl ?_
  refine sq_mid (fun σ H5=>∃nm:Str,σ=[some (.ref a),some (.ref fo),some (.int (i:Int)),some (.str nm)]∧Same H4 H5∧goodN nm∧(nm∉zs∨nm.length+cnt zs nm.length≤3)) ?_ ?_
  ·rintro σ H5 ⟨nm,rfl,s5,hg5,hc5⟩
   refine sq_mid (fun σ H6=>∃nm:Str,σ=[some (.ref a),some (.ref fo),some (.int (i:Int)),some (.str nm)]∧Same H4 H6∧goodN nm) ?_ ?_
   ·rintro σ H6 ⟨nm,rfl,s6,hg6⟩
    refine⟨_,rfl,.inl ⟨rfl,_,SqL.of (nfo s6)⟩,_,rfl,fo,_,_,rfl,rfl,nfo s6,small1000 (by rw[List.length_map];omega),?_⟩
    refine⟨_,_,zs++[nm],rfl,same_put (u4.trans s6) hfo _,by rw[upd_same,List.map_append];rfl,by rw[List.length_append,lz];rfl,fun z' hz'=>?_⟩
    rcases List.mem_append.mp hz' with h | h
    ·exact hgz z' h
    ·rw[List.mem_singleton.mp h];exact hg6
   ·intro next
    refine⟨fun m σ H6=>∃nm:Str,σ=[some (.ref a),some (.ref fo),some (.int (i:Int)),some (.str nm)]∧Same H4 H6∧goodN nm∧(nm∉zs∨nm.length+cnt zs nm.length≤3)∧m=cnt zs nm.length,⟨_,nm,rfl,s5,hg5,hc5,rfl⟩,?_⟩
    rintro m σ H6 ⟨nm,rfl,s6,hg6,hc6,rfl⟩
    refine⟨_,rfl,_,rfl,fo,_,rfl,.inl (SqL.of (nfo s6)),rfl,flz,_,rfl,?_⟩
    show if inV (.str nm) (zs.map V.str)=true then _ else _
    rw[strs_in]
    by_cases c:nm∈zs
    ·rw[if_pos (decide_eq_true c)]
     have h3:nm.length+cnt zs nm.length≤3:=by
      rcases hc6 with h | h
      ·exact absurd c h
      ·exact h
     have lt:=cnt_lt c
     have ln:(nm++("z":Str)).length=nm.length+1:=by rw[len_cds,cds_app,List.length_append,←len_cds];rfl
     refine⟨fun σ' H'=>∃m',m'<cnt zs nm.length∧∃nm:Str,σ'=[some (.ref a),some (.ref fo),some (.int (i:Int)),some (.str nm)]∧Same H4 H'∧goodN nm∧(nm∉zs∨nm.length+cnt zs nm.length≤3)∧m'=cnt zs nm.length,fun _ _ h=>h,?_⟩
     refine⟨_,rfl,_,_,rfl,rfl,?_,_,?_,nm++("z":Str),rfl,s6,⟨by omega,by omega,smalls_app (c:=122) hg6.2.2 (by decide)⟩,.inr (by rw[ln];omega),rfl⟩
     ·show nm.length+1≤sizeLine
      exact Nat.le_trans (show nm.length+1≤9 by have:=hg6.2.1;omega) (by decide)
     ·rw[ln];exact lt
    ·rw[if_neg (by rw[decide_eq_false c];decide)]
     exact next _ _ ⟨nm,rfl,s6,hg6⟩
  ·intro next
   refine⟨_,rfl,_,rfl,fo,_,rfl,.inl (SqL.of fo4),rfl,flz,_,rfl,?_⟩
   show if inV (.str z) (zs.map V.str)=true then _ else _
   rw[strs_in]
   by_cases c:z∈zs
   ·rw[if_pos (decide_eq_true c)]
    refine⟨le3,fun M hM=>?_⟩
    obtain⟨y,hy,hg⟩:∃y:Str,atI [V.str "a",V.str "b",V.str "c"] (i:Int)=some (.str y)∧goodN y∧y.length=1:=by
     match i,hi3 with
     | 0,_=>exact⟨"a",atI_nat (j:=0) rfl,by decide,rfl⟩
     | 1,_=>exact⟨"b",atI_nat (j:=1) rfl,by decide,rfl⟩
     | 2,_=>exact⟨"c",atI_nat (j:=2) rfl,by decide,rfl⟩
    refine⟨_,rfl,M,_,_,_,rfl,rfl,SqL.of upd_same,hy,next _ _ ⟨y,rfl,same_new hM _,hg.1,.inr ?_⟩⟩
    have:=cnt_le zs y.length
    omega
   ·rw[if_neg (by rw[decide_eq_false c];decide)]
    exact next _ _ ⟨z,rfl,Same.refl _,hz,.inl c⟩
 ·rintro σ H2 ⟨v0,v1,zs,rfl,s2,fo2,lz,hgz⟩
  exact⟨_,rfl,q fo zs H2 s2 hfo fo2 lz hgz⟩
end
inductive Deed where
 | beg (n kd rl:Str) (v:V) (t:Tr)
 | frk (k n:Str)
 | drp (k:Str)
def Deed.tup:Deed→List V
 | .beg n kd rl v _=>[.str "begin",.str n,.str kd,v,.str rl]
 | .frk k n=>[.str "fork",.str k,.str n]
 | .drp k=>[.str "drop",.str k]
def nmOk (n:Str):Prop:=n.length≤100∧∀c∈n.cps.toList,c<128
def Deed.Ok (G:Hp):Deed→Prop
 | .beg n kd rl v t=>nmOk n∧t.At G v∧t.ok 5∧t.size≤23∧kd.length≤100∧rl.length≤100
 | .frk k n=>nmOk k∧nmOk n
 | .drp k=>nmOk k
def Refd (S:HSt):Deed→Nat→Prop
 | .beg n kd rl _ t,y=>(¬goodN n∧y=0)∨(goodN n∧n∈nms S.ts∧y=1)∨(goodN n∧n∉nms S.ts∧¬t.ok S.m∧y=3)∨(goodN n∧n∉nms S.ts∧t.ok S.m∧¬(isRule rl∧isKind kd)∧y=4)∨(goodN n∧n∉nms S.ts∧t.ok S.m∧isRule rl∧isKind kd∧[]∈sidesR kd t S.room∧y=5)
 | .frk k n,y=>(k∉nms S.ts∧y=2)∨(k∈nms S.ts∧¬goodN n∧y=0)∨(k∈nms S.ts∧goodN n∧n∈nms S.ts∧y=1)
 | .drp k,y=>k∉nms S.ts∧y=2
def Fine (S:HSt):Deed→Prop
 | .beg n kd rl _ t=>goodN n∧n∉nms S.ts∧t.ok S.m∧isRule rl∧isKind kd∧[]∉sidesR kd t S.room
 | .frk k n=>k∈nms S.ts∧goodN n∧n∉nms S.ts
 | .drp k=>k∈nms S.ts
def aft (names:List Str):Deed→List Str
 | .beg n _ _ _ _=>names++[n]
 | .frk _ n=>names++[n]
 | .drp k=>names.filter fun z=>decide (z≠k)
def NoTup (M:List Addr) (H:Hp):Prop:=∀b∈M,∀ys,H b≠some (.tup ys)
theorem NoTup.keep {M:List Addr} {H H':Hp} (s:Same H H') (fr:∀b∈M,H b≠none) (h:NoTup M H):NoTup M H':=fun b hb ys e=>by
 cases e2:H b with
 | none=>exact fr b hb e2
 | some o=>
  rw[s _ _ e2] at e
  exact h b hb ys (by rw[e2,e])
theorem NoTup.more {M N:List Addr} {x y:Addr} {H H':Hp} (b:But [x,y] H H') (fr:∀b∈M,H b≠none) (h:NoTup M H) (h1:∀ys,H' x≠some (.tup ys)) (h2:∀ys,H' y≠some (.tup ys)) (hN:NoTup N H'):NoTup (N++M) H':=fun c hc ys e=>by
 rcases List.mem_append.mp hc with q | q
 ·exact hN c q ys e
 by_cases e1:c=x
 ·rw[e1] at e;exact h1 ys e
 by_cases e2:c=y
 ·rw[e2] at e;exact h2 ys e
 cases e3:H c with
 | none=>exact fr c q e3
 | some o=>
  have e4:cut [x,y] H c=some o:=cut_of e3 fun z=>by
   simp only[List.mem_cons,List.not_mem_nil,or_false] at z
   rcases z with z | z
   ·exact e1 z
   ·exact e2 z
  have:=(cut_get (b _ _ e4)).1
  rw[this] at e
  exact h c q ys (by rw[e3,e])
theorem NoTup.ts {M:List Addr} {H:Hp} (h:NoTup M H):TS H (cut M H):=fun p ys e=>cut_of e fun z=>h p z ys e
structure GoOn (C cK:Addr) (M:List Addr) (H:Hp) (S:HSt) (D:Deed) (M':List Addr) (H':Hp) (S':HSt):Prop where
 h:HouseT M' C cK H' S'
 s:Same (cut M H) (cut M' H')
 nm:nms S'.ts=aft (nms S.ts) D
 x:S'.x=S.x
 m:S'.m=S.m
 room:S'.room=S.room
 ls:S'.ls.length=S.ls.length+1
 ts:S'.ts.length≤S.ts.length+1
 nt:NoTup M H→NoTup M' H'
def spLcalled (C cK:Addr) (adr:Nat→Addr):Sp:=fun vs H Q E=>∃(M:List Addr) (S:HSt) (D:Deed) (d:Addr),vs=[.ref S.x,.ref d]∧H d=some (.tup D.tup)∧HouseT M C cK H S∧D.Ok (cut M H)∧S.ls.length<900∧S.ts.length<900∧(∀y H',Refd S D y→Same H H'→E (.ref (adr y)) none H')∧(Fine S D→∀M' H' S',GoOn C cK M H S D M' H' S'→Q .non H')
def wordsL:List Str:=["BadName","NameTaken","NoTalk","StrangeLetter","BadWord","NoStanding"]
def wordOf (y:Nat):Str:=wordsL.getD y ""
def spLword (C cK:Addr):Sp:=fun vs H Q E=>∃(M:List Addr) (S:HSt) (D:Deed) (d:Addr),vs=[.ref S.x,.ref d]∧H d=some (.tup D.tup)∧HouseT M C cK H S∧D.Ok (cut M H)∧S.ls.length<900∧S.ts.length<900∧(∀y H',Refd S D y→Same H H'→Q (.str (wordOf y)) H')∧(Fine S D→∀M' H' S',GoOn C cK M H S D M' H' S'→Q (.str "") H')
abbrev sLcalled:Stmt:=top 48
abbrev sLword:Stmt:=top 49
theorem more_same {M N:List Addr} {x y:Addr} {H H':Hp} (b:But [x,y] H H') (hx:x∈M) (hy:y∈M) (hn:∀n∈N,H n=none):Same (cut M H) (cut (N++M) H'):=fun p u e=>by
 obtain⟨e1,e2⟩:=cut_get e
 have e3:cut [x,y] H p=some u:=cut_of e1 fun z=>by
  simp only[List.mem_cons,List.not_mem_nil,or_false] at z
  rcases z with rfl | rfl
  ·exact e2 hx
  ·exact e2 hy
 refine cut_of (cut_get (b _ _ e3)).1 fun z=>?_
 rcases List.mem_append.mp z with q | q
 ·rw[hn p q] at e1;cases e1
 ·exact e2 q
theorem nms_app (ts:List Tw) (p:Tw):nms (ts++[p])=nms ts++[p.nm]:=by unfold nms;rw[List.map_append];rfl
theorem nms_filter (ts:List Tw) (k:Str):nms (ts.filter fun p=>decide (p.nm≠k))=(nms ts).filter fun z=>decide (z≠k):=by
 unfold nms
 rw[List.filter_map]
 rfl
theorem ntN {M:List Addr} {C cK:Addr} {H':Hp} {S:HSt} {n l:Str} {a:Addr} {u:Tk} {w:Ta} (h:HouseT (a::u.gv::u.lf::M) C cK H' (addSt S ⟨n,a,u,w⟩ l)):NoTup [a,u.gv,u.lf] H':=fun b hb ys e=>by
 have t:=(h.tt ⟨n,a,u,w⟩ (List.mem_append_right _ List.mem_cons_self)).1
 simp only[List.mem_cons,List.not_mem_nil,or_false] at hb
 rcases hb with rfl | rfl | rfl
 ·have:=t.ob;rw[e] at this;cases this
 ·have:=t.gv;rw[e] at this;cases this
 ·have:=t.lf;rw[e] at this;cases this
section
variable {P:Program} {w:World} {K:PySem.W.Frag} {mg:Str→Option Value} {base:Heap} {f:Addr} {fd:FuncData} {cH cK cT:Addr} {adr:Nat→Addr}
theorem scLcalled:FnScope ["_law_house","_law_deed"] ["_law_house","_law_deed"] (defScope sLcalled):=⟨rfl,rfl,rfl,by decide +kernel,rfl,by decide +kernel,by decide +kernel⟩
theorem scLword:FnScope ["_law_house","_law_deed","_law_found","e","_law_flags","_law_words"] ["_law_house","_law_deed"] (defScope sLword):=⟨rfl,rfl,rfl,by decide +kernel,rfl,by decide +kernel,by decide +kernel⟩
set_option maxHeartbeats 4000000 in
theorem ok_lcalled {m1 m2 m3:Addr} {e1 e2 e3:FuncData} (F:Fun K "_law_called" "_law_called" sLcalled f fd) (HX:HsX K cH)
  (G1:FnOk P w K mg base (CXE P w) 7 m1 e1 ["self","name","kind","sentence","rule"] (spHBegin cH cK (adr 0) (adr 1) (adr 3) (adr 4) (adr 5))) (C1:CalM K cH "begin" m1 e1 ["self","name","kind","sentence","rule"])
  (G2:FnOk P w K mg base (CXE P w) 8 m2 e2 ["self","name","other"] (spHFork cH cK (adr 2) (adr 0) (adr 1))) (C2:CalM K cH "fork" m2 e2 ["self","name","other"])
  (G3:FnOk P w K mg base (CXE P w) 3 m3 e3 ["self","name"] (spHDrop cH cK (adr 2))) (C3:CalM K cH "drop" m3 e3 ["self","name"]):FnOk P w K mg base (CXE P w) 9 f fd ["_law_house","_law_deed"] (spLcalled cH cK adr):=by
 refine Fun.okX F scLcalled (fun vs H Q E h=>?_) (fun cdv A outer s H vs Q E hr h=>?_)
 ·obtain⟨M,S,D,d,rfl,_⟩:=h
  rfl
 obtain⟨M,S,D,d,rfl,hd,hT,hok,hl9,ht9,qE,q⟩:=h
 have hr7:Room 7 _:=hr.mono (by decide)
 have hr3:Room 3 _:=hr.mono (by decide)
 refine⟨_,pss_cons (ps_if (pt_cmpR op_eq (pe_ix ix_tup (pv 1) pe_int (fun _ _=>rfl)) pe_str (nomark _))
   (pss_one (ps_ret (pe_meth (pv 0) HX.cl C1.m G1 hr7 C1.b .nil (pass_own (E1:=E) fun _ _ _ h=>h) (pa_cons (pe_ix ix_tup (pv 1) pe_int (fun _ _=>rfl)) (pa_cons (pe_ix ix_tup (pv 1) pe_int (fun _ _=>rfl)) (pa_cons (pe_ix ix_tup (pv 1) pe_int (fun _ _=>rfl)) (pa_cons (pe_ix ix_tup (pv 1) pe_int (fun _ _=>rfl)) pa_nil)))))))
   pss_nil)
  (pss_cons (ps_if (pt_cmpR op_eq (pe_ix ix_tup (pv 1) pe_int (fun _ _=>rfl)) pe_str (nomark _))
   (pss_one (ps_ret (pe_meth (pv 0) HX.cl C2.m G2 hr C2.b .nil (pass_own (E1:=E) fun _ _ _ h=>h) (pa_cons (pe_ix ix_tup (pv 1) pe_int (fun _ _=>rfl)) (pa_cons (pe_ix ix_tup (pv 1) pe_int (fun _ _=>rfl)) pa_nil)))))
   pss_nil)
  (pss_one (ps_ret (pe_meth (pv 0) HX.cl C3.m G3 hr3 C3.b .nil (pass_own (E1:=E) fun _ _ _ h=>h) (pa_cons (pe_ix ix_tup (pv 1) pe_int (fun _ _=>rfl)) pa_nil))))),?_⟩
 cases D with
 | beg n kd rl v t=>
  obtain⟨⟨n1,n2⟩,at_,ok5,sz,kl,rll⟩:=hok
  refine⟨_,rfl,d,_,_,_,rfl,rfl,SqT.of hd,atI_nat (j:=0) rfl,rfl,_,rfl,iteT ?_⟩
  refine⟨_,rfl,S.x,_,_,rfl,hT.h.ob,ho_begin,_,rfl,d,_,_,_,rfl,rfl,SqT.of hd,atI_nat (j:=1) rfl,_,rfl,d,_,_,_,rfl,rfl,SqT.of hd,atI_nat (j:=2) rfl,_,rfl,d,_,_,_,rfl,rfl,SqT.of hd,atI_nat (j:=3) rfl,_,rfl,d,_,_,_,rfl,rfl,SqT.of hd,atI_nat (j:=4) rfl,?_⟩
  refine⟨M,S,n,kd,rl,v,t,rfl,hT,n1,n2,at_,ok5,sz,kl,rll,hl9,ht9,fun c H' s'=>qE 0 H' (.inl ⟨c,rfl⟩) s',fun c c2 H' s'=>qE 1 H' (.inr (.inl ⟨c,c2,rfl⟩)) s',fun c c2 c3 H' s'=>qE 3 H' (.inr (.inr (.inl ⟨c,c2,c3,rfl⟩))) s',fun c c2 c3 c4 H' s'=>qE 4 H' (.inr (.inr (.inr (.inl ⟨c,c2,c3,c4,rfl⟩)))) s',fun c c2 c3 c4 c5 c6 H' s'=>qE 5 H' (.inr (.inr (.inr (.inr ⟨c,c2,c3,c4,c5,c6,rfl⟩)))) s',fun c c2 c3 c4 c5 c6 a u H' b a0 g0 l0 hT'=>?_⟩
  have hN:∀b∈[a,u.gv,u.lf],H b=none:=fun b hb=>by
   simp only[List.mem_cons,List.not_mem_nil,or_false] at hb
   rcases hb with rfl | rfl | rfl
   ·exact a0
   ·exact g0
   ·exact l0
  exact q ⟨c,c2,c3,c4,c5,c6⟩ _ H' _ ⟨hT',more_same (N:=[a,u.gv,u.lf]) b hT.mt hT.h.ml hN,nms_app _ _,rfl,rfl,rfl,by show (S.ls++[_]).length=_;rw[List.length_append];rfl,by show (S.ts++[_]).length≤_;rw[List.length_append];exact Nat.le_refl _,fun nt=>NoTup.more (N:=[a,u.gv,u.lf]) b hT.fr nt (fun ys e=>by have:=hT'.tk;rw[show (addSt S _ _).U.tk=S.U.tk from rfl,e] at this;cases this) (fun ys e=>by have:=hT'.h.ln;rw[show (addSt S _ _).U.ln=S.U.ln from rfl,e] at this;cases this) (ntN hT')⟩
 | frk k n=>
  obtain⟨⟨k1,k2⟩,n1,n2⟩:=hok
  refine⟨_,rfl,d,_,_,_,rfl,rfl,SqT.of hd,atI_nat (j:=0) rfl,rfl,_,rfl,iteF ?_⟩
  refine⟨_,rfl,d,_,_,_,rfl,rfl,SqT.of hd,atI_nat (j:=0) rfl,rfl,_,rfl,iteT ?_⟩
  refine⟨_,rfl,S.x,_,_,rfl,hT.h.ob,ho_fork,_,rfl,d,_,_,_,rfl,rfl,SqT.of hd,atI_nat (j:=1) rfl,_,rfl,d,_,_,_,rfl,rfl,SqT.of hd,atI_nat (j:=2) rfl,?_⟩
  refine⟨M,S,k,n,rfl,hT,k1,n1,n2,hl9,ht9,fun c=>qE 2 H (.inl ⟨c,rfl⟩) (Same.refl _),fun c c2 H' s'=>qE 0 H' (.inr (.inl ⟨c,c2,rfl⟩)) s',fun c c2 c3 H' s'=>qE 1 H' (.inr (.inr ⟨c,c2,c3,rfl⟩)) s',fun p hp ep c c2 a u H' b a0 g0 l0 hT'=>?_⟩
  have hkin:k∈nms S.ts:=by rw[←ep];exact List.mem_map_of_mem hp
  have hN:∀b∈[a,u.gv,u.lf],H b=none:=fun b hb=>by
   simp only[List.mem_cons,List.not_mem_nil,or_false] at hb
   rcases hb with rfl | rfl | rfl
   ·exact a0
   ·exact g0
   ·exact l0
  exact q ⟨hkin,c,c2⟩ _ H' _ ⟨hT',more_same (N:=[a,u.gv,u.lf]) b hT.mt hT.h.ml hN,nms_app _ _,rfl,rfl,rfl,by show (S.ls++[_]).length=_;rw[List.length_append];rfl,by show (S.ts++[_]).length≤_;rw[List.length_append];exact Nat.le_refl _,fun nt=>NoTup.more (N:=[a,u.gv,u.lf]) b hT.fr nt (fun ys e=>by have:=hT'.tk;rw[show (addSt S _ _).U.tk=S.U.tk from rfl,e] at this;cases this) (fun ys e=>by have:=hT'.h.ln;rw[show (addSt S _ _).U.ln=S.U.ln from rfl,e] at this;cases this) (ntN hT')⟩
 | drp k=>
  obtain⟨k1,k2⟩:=hok
  refine⟨_,rfl,d,_,_,_,rfl,rfl,SqT.of hd,atI_nat (j:=0) rfl,rfl,_,rfl,iteF ?_⟩
  refine⟨_,rfl,d,_,_,_,rfl,rfl,SqT.of hd,atI_nat (j:=0) rfl,rfl,_,rfl,iteF ?_⟩
  refine⟨_,rfl,S.x,_,_,rfl,hT.h.ob,ho_drop,_,rfl,d,_,_,_,rfl,rfl,SqT.of hd,atI_nat (j:=1) rfl,?_⟩
  refine⟨M,S,k,rfl,hT,k1,hl9,fun c=>qE 2 H ⟨c,rfl⟩ (Same.refl _),fun c H' b hT'=>?_⟩
  exact q c M H' _ ⟨hT',more_same (N:=[]) b hT.mt hT.h.ml (fun _ z=>nomatch z),nms_filter _ _,rfl,rfl,rfl,by show (S.ls++[_]).length=_;rw[List.length_append];rfl,Nat.le_trans (List.length_filter_le _ _) (Nat.le_succ _),fun nt=>NoTup.more (N:=[]) b hT.fr nt (fun ys e=>by have:=hT'.tk;rw[show (dropSt S k).U.tk=S.U.tk from rfl,e] at this;cases this) (fun ys e=>by have:=hT'.h.ln;rw[show (dropSt S k).U.ln=S.U.ln from rfl,e] at this;cases this) (fun _ z=>nomatch z)⟩
end
structure Six (K:PySem.W.Frag) (adr:Nat→Addr) (cT:Addr):Prop where
 at_:∀y,y<6→XAt K (adr y) cT
 up:∀y,y<6→PySem.W.mroIn K (adr y) (.ref cT)=some true
 kv:∀y,y<6→PySem.W.kitOne K (.ref (adr y)) (.type "ValueError")=some true
 ap:∀y j,y<6→j<6→PySem.W.kitOne K (.ref (adr y)) (.ref (adr j))=some (decide (y=j))
def adr6 (a b c d e f:Addr):Nat→Addr
 | 0=>a
 | 1=>b
 | 2=>c
 | 3=>d
 | 4=>e
 | _=>f
theorem lt6 {p:Nat→Prop} (h0:p 0) (h1:p 1) (h2:p 2) (h3:p 3) (h4:p 4) (h5:p 5) (y:Nat) (h:y<6):p y:=by
 rcases (show y=0∨y=1∨y=2∨y=3∨y=4∨y=5 by omega) with rfl | rfl | rfl | rfl | rfl | rfl<;>assumption
theorem kit_self (K:PySem.W.Frag) (C:Addr):PySem.W.kitOne K (.ref C) (.ref C)=some true:=by
 unfold PySem.W.kitOne
 rw[if_pos (beq_self_eq_true _)]
theorem six_mk {K:PySem.W.Frag} {mg:Str→Option Value} {a b c d e f cT:Addr} (X0:OwnX K mg "BadName" a cT) (X1:OwnX K mg "NameTaken" b cT) (X2:OwnX K mg "NoTalk" c cT) (X3:OwnX K mg "StrangeLetter" d cT) (X4:OwnX K mg "BadWord" e cT) (X5:OwnX K mg "NoStanding" f cT)
  (A01:ApX K a b) (A02:ApX K a c) (A03:ApX K a d) (A04:ApX K a e) (A05:ApX K a f) (A10:ApX K b a) (A12:ApX K b c) (A13:ApX K b d) (A14:ApX K b e) (A15:ApX K b f) (A20:ApX K c a) (A21:ApX K c b) (A23:ApX K c d) (A24:ApX K c e) (A25:ApX K c f) (A30:ApX K d a) (A31:ApX K d b) (A32:ApX K d c) (A34:ApX K d e) (A35:ApX K d f) (A40:ApX K e a) (A41:ApX K e b) (A42:ApX K e c) (A43:ApX K e d) (A45:ApX K e f) (A50:ApX K f a) (A51:ApX K f b) (A52:ApX K f c) (A53:ApX K f d) (A54:ApX K f e):Six K (adr6 a b c d e f) cT where
 at_:=lt6 X0.at_ X1.at_ X2.at_ X3.at_ X4.at_ X5.at_
 up:=lt6 X0.up X1.up X2.up X3.up X4.up X5.up
 kv:=lt6 X0.kv X1.kv X2.kv X3.kv X4.kv X5.kv
 ap:=fun y j hy hj=>lt6 (p:=fun y=>PySem.W.kitOne K (.ref (adr6 a b c d e f y)) (.ref (adr6 a b c d e f j))=some (decide (y=j)))
  (lt6 (p:=fun j=>PySem.W.kitOne K (.ref (adr6 a b c d e f 0)) (.ref (adr6 a b c d e f j))=some (decide (0=j))) (kit_self K a) A01.kit A02.kit A03.kit A04.kit A05.kit j hj)
  (lt6 (p:=fun j=>PySem.W.kitOne K (.ref (adr6 a b c d e f 1)) (.ref (adr6 a b c d e f j))=some (decide (1=j))) A10.kit (kit_self K b) A12.kit A13.kit A14.kit A15.kit j hj)
  (lt6 (p:=fun j=>PySem.W.kitOne K (.ref (adr6 a b c d e f 2)) (.ref (adr6 a b c d e f j))=some (decide (2=j))) A20.kit A21.kit (kit_self K c) A23.kit A24.kit A25.kit j hj)
  (lt6 (p:=fun j=>PySem.W.kitOne K (.ref (adr6 a b c d e f 3)) (.ref (adr6 a b c d e f j))=some (decide (3=j))) A30.kit A31.kit A32.kit (kit_self K d) A34.kit A35.kit j hj)
  (lt6 (p:=fun j=>PySem.W.kitOne K (.ref (adr6 a b c d e f 4)) (.ref (adr6 a b c d e f j))=some (decide (4=j))) A40.kit A41.kit A42.kit A43.kit (kit_self K e) A45.kit j hj)
  (lt6 (p:=fun j=>PySem.W.kitOne K (.ref (adr6 a b c d e f 5)) (.ref (adr6 a b c d e f j))=some (decide (5=j))) A50.kit A51.kit A52.kit A53.kit A54.kit (kit_self K f) j hj)
  y hy
theorem Refd.lt {S:HSt} {D:Deed} {y:Nat} (h:Refd S D y):y<6:=by
 cases D with
 | beg n kd rl v t=>rcases h with⟨_,rfl⟩|⟨_,_,rfl⟩|⟨_,_,_,rfl⟩|⟨_,_,_,_,rfl⟩|⟨_,_,_,_,_,_,rfl⟩<;>decide
 | frk k n=>rcases h with⟨_,rfl⟩|⟨_,_,rfl⟩|⟨_,_,_,rfl⟩<;>decide
 | drp k=>obtain⟨_,rfl⟩:=h;decide
theorem le6:6≤sizeLine:=by decide
theorem word_join:∀y,y<6→Txt.join "" [wordOf y]=wordOf y:=by decide
theorem word_len:∀y,y<6→(wordOf y).length≤20:=by decide
theorem words_at:∀i,i<6→wordsL[i]? = some (wordOf i):=by decide
section
variable {P:Program} {w:World} {K:PySem.W.Frag} {mg:Str→Option Value} {base:Heap} {f:Addr} {fd:FuncData} {cH cK cT:Addr} {adr:Nat→Addr}
set_option maxHeartbeats 8000000 in
theorem ok_lword {gC:Addr} {dC:FuncData} (F:Fun K "_law_word" "_law_word" sLword f fd) (T:BTx mg) (B:Bl mg) (XT:TopX K mg cT) (SX:Six K adr cT)
  (X0:OwnX K mg "BadName" (adr 0) cT) (X1:OwnX K mg "NameTaken" (adr 1) cT) (X2:OwnX K mg "NoTalk" (adr 2) cT) (X3:OwnX K mg "StrangeLetter" (adr 3) cT) (X4:OwnX K mg "BadWord" (adr 4) cT) (X5:OwnX K mg "NoStanding" (adr 5) cT)
  (GC:FnOk P w K mg base (CXE P w) 9 gC dC ["_law_house","_law_deed"] (spLcalled cH cK adr)) (CC:Cal K mg "_law_called" gC dC ["_law_house","_law_deed"]):FnOk P w K mg base CX0 10 f fd ["_law_house","_law_deed"] (spLword cH cK):=by
 refine F.ok scLword (fun vs H Q E h=>?_) (fun cdv A outer s H vs Q E hr h=>?_)
 ·obtain⟨M,S,D,d,rfl,_⟩:=h
  rfl
 obtain⟨M,S,D,d,rfl,hd,hT,hok,hl9,ht9,qE,q⟩:=h
 refine⟨_,pss_cons (ps_set (i:=2) scLword.nd rfl (Or.inl rfl) pe_str)
  (pss_cons (ps_tryH (fun E1 pn1 Ex1 hp=>(pss_one (ps_if (pt_cmp (pc_notN (pe_call GC hr (by rfl) CC.m CC.k CC.b .nil hp (pa_cons (pv 0) (pa_cons (pv 1) pa_nil)))))
    (pss_one (ps_set (i:=2) scLword.nd rfl (Or.inl rfl) pe_str))
    pss_nil)))
   (phs_asX (i:=3) (fun a oe=>(pss_cons (ps_set (i:=4) scLword.nd rfl (Or.inr rfl) (pe_lst (pa_cons (pe_callB call_isx0 (by rfl) T.isi boot_isinstance (pa_cons (pv 3) (pa_cons (pe_glob (v:=.ref (adr 0)) (by rfl) X0.m rfl) pa_nil))) (pa_cons (pe_callB call_isx0 (by rfl) T.isi boot_isinstance (pa_cons (pv 3) (pa_cons (pe_glob (v:=.ref (adr 1)) (by rfl) X1.m rfl) pa_nil))) (pa_cons (pe_callB call_isx0 (by rfl) T.isi boot_isinstance (pa_cons (pv 3) (pa_cons (pe_glob (v:=.ref (adr 2)) (by rfl) X2.m rfl) pa_nil))) (pa_cons (pe_callB call_isx0 (by rfl) T.isi boot_isinstance (pa_cons (pv 3) (pa_cons (pe_glob (v:=.ref (adr 3)) (by rfl) X3.m rfl) pa_nil))) pa_nil))))))
   (pss_cons (ps_set (i:=4) scLword.nd rfl (Or.inr rfl) (pe_op op_cat (pv 4) (pe_lst (pa_cons (pe_callB call_isx0 (by rfl) T.isi boot_isinstance (pa_cons (pv 3) (pa_cons (pe_glob (v:=.ref (adr 4)) (by rfl) X4.m rfl) pa_nil))) (pa_cons (pe_callB call_isx0 (by rfl) T.isi boot_isinstance (pa_cons (pv 3) (pa_cons (pe_glob (v:=.ref (adr 5)) (by rfl) X5.m rfl) pa_nil))) pa_nil)))))
   (pss_cons (ps_set (i:=5) scLword.nd rfl (Or.inr rfl) (pe_lst (pa_cons pe_str (pa_cons pe_str (pa_cons pe_str (pa_cons pe_str (pa_cons pe_str (pa_cons pe_str pa_nil))))))))
   (pss_cons (ps_set (i:=2) scLword.nd rfl (Or.inl rfl) (pe_bm PySem.F.plainAttrs_str PySem.F.slot_str_join PySem.F.type_str_join mt_join pe_str (pa_cons (pe_comp1H (ah:=a) (oh:=oe) (N:=["_law_k","_law_flags","_law_words"]) (js:=[none,some 4,some 5]) (cl:=[("_law_words",s.heap.objs.size+2),("_law_flags",s.heap.objs.size+1)]) ⟨rfl,rfl,rfl,(by intro p hp;simp at hp;rcases hp with rfl | rfl<;>rfl),rfl,rfl,rfl⟩ (pih_range1 (by rfl) B.range (pa_cons pe_int pa_nil)) (fun c1=>(pg_name (i:=0) (show (["_law_k","_law_flags","_law_words"]:List Str).Nodup by decide +kernel) rfl (Or.inl rfl))) (fun c1=>(pts_one (pt_truth (pe_ix ix_list (pv 1) (pv 0) (fun _ _=>rfl)) (fun _=>rfl)))) (fun c1=>(pe_ix ix_list (pv 2) (pv 0) (fun _ _=>rfl)))) pa_nil)))
   (pss_one (ps_if (pt_not (pt_val (pe_callB call_isx0 (by rfl) T.isi boot_isinstance (pa_cons (pv 3) (pa_cons (pe_bltn (v:=.ty "ValueError") (by rfl) XT.mV PyProof.Rows.Boot.«ValueError» rfl) pa_nil)))))
    (pss_one (ps_set (i:=2) scLword.nd rfl (Or.inl rfl) pe_str))
    pss_nil))))))) phs_nil (by rfl) XT.m XT.ty XT.ic XT.bs scLword.nd rfl rfl (Or.inl rfl)) rfl rfl)
  (pss_one (ps_ret (pv 2)))),?_⟩
 refine⟨fun cls dx H'=>dx=none∧Same H H'∧∃y,Refd S D y∧cls= .ref (adr y),⟨_,rfl,_,rfl,M,S,D,d,rfl,hd,hT,hok,hl9,ht9,fun y H' hy s'=>⟨rfl,s',y,hy,rfl⟩,fun hf M' H' S' g=>⟨_,rfl,?_⟩⟩,?_⟩
 ·refine iteF ?_
  exact⟨_,rfl,q hf M' H' S' g⟩
 rintro cls dx H1 ⟨rfl,s1,y,hy,rfl⟩
 have y6:=hy.lt
 refine⟨adr y,rfl,true,SX.up y y6,iteT fun a vs sl hcx hna=>?_⟩
 refine⟨_,rfl,a,adr y,cT,_,_,_,rfl,SX.at_ y y6,⟨vs,sl,List.mem_cons_self⟩,(fun u r=>r),SX.ap y 0 y6 (by decide),_,rfl,a,adr y,cT,_,_,_,rfl,SX.at_ y y6,⟨vs,sl,List.mem_cons_self⟩,(fun u r=>r),SX.ap y 1 y6 (by decide),_,rfl,a,adr y,cT,_,_,_,rfl,SX.at_ y y6,⟨vs,sl,List.mem_cons_self⟩,(fun u r=>r),SX.ap y 2 y6 (by decide),_,rfl,a,adr y,cT,_,_,_,rfl,SX.at_ y y6,⟨vs,sl,List.mem_cons_self⟩,(fun u r=>r),SX.ap y 3 y6 (by decide),le4,fun f1 hf1=>?_⟩
 have s2:=same_new hf1 (.lst [.bl (decide (y=0)),.bl (decide (y=1)),.bl (decide (y=2)),.bl (decide (y=3))])
 have e2:upd H1 f1 (.lst [.bl (decide (y=0)),.bl (decide (y=1)),.bl (decide (y=2)),.bl (decide (y=3))]) f1=some (.lst [.bl (decide (y=0)),.bl (decide (y=1)),.bl (decide (y=2)),.bl (decide (y=3))]):=upd_same
 generalize upd H1 f1 _=H2 at *
 refine⟨_,rfl,_,rfl,a,adr y,cT,_,_,_,rfl,SX.at_ y y6,⟨vs,sl,List.mem_cons_self⟩,(fun u r=>r),SX.ap y 4 y6 (by decide),_,rfl,a,adr y,cT,_,_,_,rfl,SX.at_ y y6,⟨vs,sl,List.mem_cons_self⟩,(fun u r=>r),SX.ap y 5 y6 (by decide),le2,fun f2 hf2=>?_⟩
 have s3:=same_new hf2 (.lst [.bl (decide (y=4)),.bl (decide (y=5))])
 have e3:upd H2 f2 (.lst [.bl (decide (y=4)),.bl (decide (y=5))]) f2=some (.lst [.bl (decide (y=4)),.bl (decide (y=5))]):=upd_same
 generalize upd H2 f2 _=H3 at *
 refine⟨f1,f2,_,_,rfl,rfl,s3 _ _ e2,e3,(show 4+2≤sizeLine from le6),fun f3 hf3=>?_⟩
 have s4:=same_new hf3 (.lst ((List.range 6).map fun j=>V.bl (decide (y=j))))
 have e4:upd H3 f3 (.lst ((List.range 6).map fun j=>V.bl (decide (y=j)))) f3=some (.lst ((List.range 6).map fun j=>V.bl (decide (y=j)))):=upd_same
 have ee:[V.bl (decide (y=0)),.bl (decide (y=1)),.bl (decide (y=2)),.bl (decide (y=3))]++[V.bl (decide (y=4)),.bl (decide (y=5))]=(List.range 6).map fun j=>V.bl (decide (y=j)):=rfl
 rw[ee]
 generalize upd H3 f3 _=H4 at *
 refine⟨le6,fun wd hwd=>?_⟩
 have s5:=same_new hwd (.lst (wordsL.map V.str))
 have e5:upd H4 wd (.lst (wordsL.map V.str)) wd=some (.lst (wordsL.map V.str)):=upd_same
 have ew:[V.str "BadName",.str "NameTaken",.str "NoTalk",.str "StrangeLetter",.str "BadWord",.str "NoStanding"]=wordsL.map V.str:=rfl
 rw[ew]
 generalize upd H4 wd _=H5 at *
 have u5:Same H H5:=s1.trans (s2.trans (s3.trans (s4.trans s5)))
 have e45:=s5 _ _ e4
 refine⟨rfl,⟨vs,rfl,hcx⟩,_,rfl,by decide,by decide,fun cc acc hacc=>for_range (fun i σ Hi=>∃v0,σ=[v0,some (.ref f3),some (.ref wd)]∧Same H5 Hi∧Hi acc=some (.lst (if y<i then[V.str (wordOf y)] else[]))) ⟨_,rfl,same_new hacc _,by rw[if_neg (Nat.not_lt_zero _)];exact upd_same⟩ ?_ ?_⟩
 ·rintro i σ Hi hi ⟨v0,rfl,si,ha⟩
  have hi6:i<6:=by
   have h0:i<(6:Int).toNat:=hi
   exact h0
  rw[Int.zero_add]
  have at1:atI ((List.range 6).map fun j=>V.bl (decide (y=j))) (i:Int)=some (.bl (decide (y=i))):=atI_nat (by rw[List.getElem?_map,List.getElem?_range hi6];rfl)
  refine⟨_,rfl,_,rfl,f3,_,_,_,rfl,rfl,SqL.of (si _ _ e45),at1,decide (y=i),rfl,?_⟩
  by_cases c:y=i
  ·refine iteY c ?_
   have at2:atI (wordsL.map V.str) (i:Int)=some (.str (wordOf y)):=atI_nat (by rw[List.getElem?_map,words_at i hi6,c];rfl)
   refine⟨_,rfl,_,rfl,wd,_,_,_,rfl,rfl,SqL.of (si _ _ e5),at2,_,ha,?_,_,rfl,same_put si hacc _,?_⟩
   ·rw[if_neg (by omega)];decide
   ·rw[upd_same,if_neg (by omega),if_pos (by omega)];rfl
  ·refine iteN c ⟨_,rfl,si,?_⟩
   rw[ha]
   by_cases c2:y<i
   ·rw[if_pos c2,if_pos (by omega)]
   ·rw[if_neg c2,if_neg (by omega)]
 ·rintro σ Hi ⟨v0,rfl,si,ha⟩
  have ha':Hi acc=some (.lst ([wordOf y].map V.str)):=by
   rw[ha]
   show some (HO.lst (if y<6 then _ else _))=_
   rw[if_pos y6];rfl
  refine⟨_,acc,[wordOf y],rfl,rfl,SqL.of ha',?_,?_⟩
  ·have:=word_len y y6
   show (wordOf y).length+0+1*("":Str).length≤16777216
   have:("":Str).length=0:=rfl
   omega
  rw[word_join y y6]
  refine⟨_,rfl,a,adr y,cT,_,_,_,rfl,SX.at_ y y6,⟨vs,sl,List.mem_cons_self⟩,(fun u r=>r),SX.kv y y6,_,rfl,iteF ?_⟩
  exact⟨_,rfl,qE y _ hy (u5.trans si)⟩
end
def dueW (zs bs:List Str) (D:Deed) (du:Str):Str:=match D with
 | .beg n _ _ _ _=>if n∈bs then "BadName" else if n∈zs then "NameTaken" else du
 | .frk k n=>if k∉zs then "NoTalk" else if n∈bs then "BadName" else if n∈zs then "NameTaken" else ""
 | .drp k=>if k∉zs then "NoTalk" else ""
def FootOk (m:Nat) (room:List Int) (kd rl:Str) (t:Tr) (du:Str):Prop:=
 (¬t.ok m∧du="StrangeLetter")∨(t.ok m∧¬(isRule rl∧isKind kd)∧du="BadWord")∨(t.ok m∧isRule rl∧isKind kd∧[]∈sidesR kd t room∧du="NoStanding")∨(t.ok m∧isRule rl∧isKind kd∧[]∉sidesR kd t room∧du="")
def spLdue:Sp:=fun vs H Q _=>∃(nl bl d:Addr) (zs bs:List Str) (D:Deed) (du:Str),vs=[.ref nl,.ref bl,.ref d,.str du]∧H nl=some (.lst (zs.map V.str))∧H bl=some (.lst (bs.map V.str))∧H d=some (.tup D.tup)∧Q (.str (dueW zs bs D du)) H
def spLfoot:Sp:=fun vs H Q _=>∃(n:Int) (m:Nat),vs=[.int n,.int m]∧0≤n∧1≤m∧m≤5∧∀(p:Addr) (kd rl du:Str) (v:V) (t:Tr) (H':Hp),Same H H'→H' p=some (.tup [.str kd,v,.str rl,.str du])→t.At H' v→t.ok 5→t.size≤23→kd.length≤100→rl.length≤100→FootOk m (upto (2^m)) kd rl t du→Q (.ref p) H'
abbrev sLdue:Stmt:=top 50
abbrev sLfoot:Stmt:=top 51
def neverT:Tr:=.bn 0 (.lt 0) (.nt (.lt 0))
theorem never_ins (row:List Int):insR true neverT row=[]:=by
 unfold insR
 rw[List.filter_eq_nil_iff]
 intro k _
 show ¬((bitv 0 k && !bitv 0 k) == true)=true
 cases bitv 0 k<;>decide
theorem let_ins {m j:Nat} (h:j<m) (h5:m≤5) (b:Bool):insR b (.lt j) (upto (2^m))≠[]:=fun e=>by
 have hp:(2:Nat)^j<2^m:=Nat.pow_lt_pow_right (by decide) h
 cases b with
 | true=>
  have hm:((2:Int)^j)∈insR true (.lt j) (upto (2^m)):=by
   unfold insR
   rw[List.mem_filter]
   refine⟨mem_upto.mpr ⟨Int.le_of_lt (pow_pos j),?_⟩,?_⟩
   ·have:((2^j:Nat):Int)<((2^m:Nat):Int):=by omega
    simpa using this
   ·show (bitv j (2^j) == true)=true
    unfold bitv
    rw[Int.ediv_self (Int.ne_of_gt (pow_pos j))]
    decide
  rw[e] at hm;cases hm
 | false=>
  have hm:(0:Int)∈insR false (.lt j) (upto (2^m)):=by
   unfold insR
   rw[List.mem_filter]
   refine⟨mem_upto.mpr ⟨Int.le_refl _,?_⟩,?_⟩
   ·have:0<2^m:=Nat.pow_pos (by decide)
    omega
   ·show (bitv j 0 == false)=true
    unfold bitv
    rw[Int.zero_ediv]
    decide
  rw[e] at hm;cases hm
section
variable {P:Program} {w:World} {K:PySem.W.Frag} {mg:Str→Option Value} {base:Heap} {f:Addr} {fd:FuncData}
theorem scLdue:FnScope ["_law_names_here","_law_bad","_law_deed","_law_due_here","_law_new"] ["_law_names_here","_law_bad","_law_deed","_law_due_here"] (defScope sLdue):=⟨rfl,rfl,rfl,by decide +kernel,rfl,by decide +kernel,by decide +kernel⟩
theorem scLfoot:FnScope ["_law_n","_law_many","_law_never"] ["_law_n","_law_many"] (defScope sLfoot):=⟨rfl,rfl,rfl,by decide +kernel,rfl,by decide +kernel,by decide +kernel⟩
theorem flat_strs (zs:List Str):(zs.map V.str).all flatV=true:=by rw[List.all_map];exact List.all_eq_true.mpr fun _ _=>rfl
set_option maxHeartbeats 4000000 in
theorem ok_ldue (F:Fun K "_law_due" "_law_due" sLdue f fd):FnOk P w K mg base CX0 1 f fd ["_law_names_here","_law_bad","_law_deed","_law_due_here"] spLdue:=by
 refine F.ok scLdue (fun vs H Q E h=>?_) (fun cdv A outer s H vs Q E hr h=>?_)
 ·obtain⟨nl,bl,d,zs,bs,D,du,rfl,_⟩:=h
  rfl
 obtain⟨nl,bl,d,zs,bs,D,du,rfl,hz,hb,hd,q⟩:=h
 refine⟨_,pss_cons (ps_if (pw_and (pt_cmpR op_ne (pe_ix ix_tup (pv 2) pe_int (fun _ _=>rfl)) pe_str (nomark _)) (pw_and1 (pt_cmpR op_notIn_seq (pe_ix ix_tup (pv 2) pe_int (fun _ _=>rfl)) (pv 0) (by with_unfolding_all rfl)))).pt
   (pss_one (ps_ret pe_str))
   pss_nil)
  (pss_cons (ps_if (pt_cmpR op_eq (pe_ix ix_tup (pv 2) pe_int (fun _ _=>rfl)) pe_str (nomark _))
   (pss_one (ps_ret pe_str))
   pss_nil)
  (pss_cons (ps_set (i:=4) scLdue.nd rfl (Or.inl rfl) (pe_ifExp (pt_cmpR op_eq (pe_ix ix_tup (pv 2) pe_int (fun _ _=>rfl)) pe_str (nomark _)) (pe_ix ix_tup (pv 2) pe_int (fun _ _=>rfl)) (pe_ix ix_tup (pv 2) pe_int (fun _ _=>rfl))))
  (pss_cons (ps_if (pt_cmpR op_in_seq (pv 4) (pv 1) (by with_unfolding_all rfl))
   (pss_one (ps_ret pe_str))
   pss_nil)
  (pss_cons (ps_if (pt_cmpR op_in_seq (pv 4) (pv 0) (by with_unfolding_all rfl))
   (pss_one (ps_ret pe_str))
   pss_nil)
  (pss_one (ps_ret (pe_ifExp (pt_cmpR op_eq (pe_ix ix_tup (pv 2) pe_int (fun _ _=>rfl)) pe_str (nomark _)) (pv 3) pe_str))))))),?_⟩
 have fz:=flat_strs zs
 have fb:=flat_strs bs
 cases D with
 | beg n kd rl v t=>
  refine⟨_,rfl,d,_,_,_,rfl,rfl,SqT.of hd,atI_nat (j:=0) rfl,rfl,_,rfl,iteF (iteF ?_)⟩
  refine⟨_,rfl,d,_,_,_,rfl,rfl,SqT.of hd,atI_nat (j:=0) rfl,rfl,_,rfl,iteF ?_⟩
  refine⟨_,rfl,d,_,_,_,rfl,rfl,SqT.of hd,atI_nat (j:=0) rfl,rfl,_,rfl,iteT ?_⟩
  refine⟨_,rfl,d,_,_,_,rfl,rfl,SqT.of hd,atI_nat (j:=1) rfl,?_⟩
  refine⟨_,rfl,_,rfl,bl,_,rfl,.inl (SqL.of hb),rfl,fb,_,rfl,?_⟩
  show if inV (.str n) (bs.map V.str)=true then _ else _
  rw[strs_in]
  have q:Q (.str (if n∈bs then "BadName" else if n∈zs then "NameTaken" else du)) H:=q
  by_cases c:n∈bs
  ·rw[if_pos c] at q
   exact iteY c q
  rw[if_neg c] at q
  refine iteN c ⟨_,rfl,_,rfl,nl,_,rfl,.inl (SqL.of hz),rfl,fz,_,rfl,?_⟩
  show if inV (.str n) (zs.map V.str)=true then _ else _
  rw[strs_in]
  by_cases c2:n∈zs
  ·rw[if_pos c2] at q
   exact iteY c2 q
  rw[if_neg c2] at q
  exact iteN c2 ⟨_,rfl,d,_,_,_,rfl,rfl,SqT.of hd,atI_nat (j:=0) rfl,rfl,_,rfl,iteT ⟨_,rfl,q⟩⟩
 | frk k n=>
  refine⟨_,rfl,d,_,_,_,rfl,rfl,SqT.of hd,atI_nat (j:=0) rfl,rfl,_,rfl,iteT ?_⟩
  refine⟨_,rfl,d,_,_,_,rfl,rfl,SqT.of hd,atI_nat (j:=1) rfl,_,rfl,nl,_,rfl,.inl (SqL.of hz),rfl,fz,_,rfl,?_⟩
  show if (!inV (.str k) (zs.map V.str))=true then _ else _
  rw[strs_in]
  have q:Q (.str (if k∉zs then "NoTalk" else if n∈bs then "BadName" else if n∈zs then "NameTaken" else "")) H:=q
  by_cases c0:k∈zs
  ·rw[if_neg (not_not_intro c0)] at q
   rw[decide_eq_true c0]
   refine iteF ?_
   refine⟨_,rfl,d,_,_,_,rfl,rfl,SqT.of hd,atI_nat (j:=0) rfl,rfl,_,rfl,iteF ?_⟩
   refine⟨_,rfl,d,_,_,_,rfl,rfl,SqT.of hd,atI_nat (j:=0) rfl,rfl,_,rfl,iteF ?_⟩
   refine⟨_,rfl,d,_,_,_,rfl,rfl,SqT.of hd,atI_nat (j:=2) rfl,?_⟩
   refine⟨_,rfl,_,rfl,bl,_,rfl,.inl (SqL.of hb),rfl,fb,_,rfl,?_⟩
   show if inV (.str n) (bs.map V.str)=true then _ else _
   rw[strs_in]
   by_cases c:n∈bs
   ·rw[if_pos c] at q
    exact iteY c q
   rw[if_neg c] at q
   refine iteN c ⟨_,rfl,_,rfl,nl,_,rfl,.inl (SqL.of hz),rfl,fz,_,rfl,?_⟩
   show if inV (.str n) (zs.map V.str)=true then _ else _
   rw[strs_in]
   by_cases c2:n∈zs
   ·rw[if_pos c2] at q
    exact iteY c2 q
   rw[if_neg c2] at q
   exact iteN c2 ⟨_,rfl,d,_,_,_,rfl,rfl,SqT.of hd,atI_nat (j:=0) rfl,rfl,_,rfl,iteF q⟩
  ·rw[if_pos c0] at q
   rw[decide_eq_false c0]
   exact iteT q
 | drp k=>
  refine⟨_,rfl,d,_,_,_,rfl,rfl,SqT.of hd,atI_nat (j:=0) rfl,rfl,_,rfl,iteT ?_⟩
  refine⟨_,rfl,d,_,_,_,rfl,rfl,SqT.of hd,atI_nat (j:=1) rfl,_,rfl,nl,_,rfl,.inl (SqL.of hz),rfl,fz,_,rfl,?_⟩
  show if (!inV (.str k) (zs.map V.str))=true then _ else _
  rw[strs_in]
  have q:Q (.str (if k∉zs then "NoTalk" else "")) H:=q
  by_cases c0:k∈zs
  ·rw[if_neg (not_not_intro c0)] at q
   rw[decide_eq_true c0]
   refine iteF ?_
   exact⟨_,rfl,d,_,_,_,rfl,rfl,SqT.of hd,atI_nat (j:=0) rfl,rfl,_,rfl,iteT q⟩
  ·rw[if_pos c0] at q
   rw[decide_eq_false c0]
   exact iteT q
end
def orT:Tr:=.bn 1 (.lt 4) (.lt 0)
theorem or_ok:orT.ok 5:=⟨show 1<4 by decide,show 4<5 by decide,show 0<5 by decide⟩
theorem sides_no {kd:Str} {t:Tr} {row:List Int} (h1:insR true t row≠[]) (h2:insR false t row≠[]):[]∉sidesR kd t row:=by
 unfold sidesR
 intro z
 split at z
 ·rw[List.mem_singleton] at z;exact h1 z.symm
 ·split at z
  ·rw[List.mem_singleton] at z;exact h2 z.symm
  ·simp only[List.mem_cons,List.not_mem_nil,or_false] at z
   rcases z with z | z
   ·exact h1 z.symm
   ·exact h2 z.symm
theorem or_sides:[]∉sidesR "true" orT (upto (2^5)):=by
 refine sides_no (fun e=>?_) (fun e=>?_)
 ·have hm:(1:Int)∈insR true orT (upto (2^5)):=by
   unfold insR
   rw[List.mem_filter]
   exact⟨mem_upto.mpr ⟨by decide,by decide⟩,by decide⟩
  rw[e] at hm;cases hm
 ·have hm:(0:Int)∈insR false orT (upto (2^5)):=by
   unfold insR
   rw[List.mem_filter]
   exact⟨mem_upto.mpr ⟨by decide,by decide⟩,by decide⟩
  rw[e] at hm;cases hm
section
variable {P:Program} {w:World} {K:PySem.W.Frag} {mg:Str→Option Value} {base:Heap} {f:Addr} {fd:FuncData}
set_option maxHeartbeats 4000000 in
theorem ok_lfoot (F:Fun K "_law_footing" "_law_footing" sLfoot f fd):FnOk P w K mg base CX0 1 f fd ["_law_n","_law_many"] spLfoot:=by
 refine F.ok scLfoot (fun vs H Q E h=>?_) (fun cdv A outer s H vs Q E hr h=>?_)
 ·obtain⟨n,m,rfl,_⟩:=h
  rfl
 obtain⟨n,m,rfl,hn,hm1,hm5,q⟩:=h
 refine⟨_,pss_cons (ps_set (i:=2) scLfoot.nd rfl (Or.inl rfl) (pe_tup (pa_cons pe_str (pa_cons (pe_tup (pa_cons pe_str (pa_cons pe_int pa_nil))) (pa_cons (pe_tup (pa_cons pe_str (pa_cons (pe_tup (pa_cons pe_str (pa_cons pe_int pa_nil))) pa_nil))) pa_nil)))))
  (pss_cons (ps_if (pt_cmpR op_eq (pe_op op_mod (pv 0) pe_int) pe_int (nomark _))
   (pss_one (ps_ret (pe_tup (pa_cons pe_str (pa_cons (pe_tup (pa_cons pe_str (pa_cons (pe_tup (pa_cons pe_str (pa_cons pe_int pa_nil))) (pa_cons (pe_tup (pa_cons pe_str (pa_cons pe_int pa_nil))) pa_nil)))) (pa_cons pe_str (pa_cons (pe_ifExp (pt_cmpR op_lt (pv 1) pe_int (nomark _)) pe_str pe_str) pa_nil)))))))
   pss_nil)
  (pss_cons (ps_if (pt_cmpR op_eq (pe_op op_mod (pv 0) pe_int) pe_int (nomark _))
   (pss_one (ps_ret (pe_tup (pa_cons (pe_ix ix_list (pe_lst (pa_cons pe_str (pa_cons pe_str pa_nil))) (pe_op op_mod (pe_op op_fdiv (pv 0) pe_int) pe_int) (fun _ _=>rfl)) (pa_cons (pv 2) (pa_cons pe_str (pa_cons pe_str pa_nil)))))))
   pss_nil)
  (pss_cons (ps_if (pt_cmpR op_eq (pe_op op_mod (pv 0) pe_int) pe_int (nomark _))
   (pss_one (ps_ret (pe_tup (pa_cons pe_str (pa_cons (pv 2) (pa_cons (pe_ix ix_list (pe_lst (pa_cons pe_str (pa_cons pe_str pa_nil))) (pe_op op_mod (pe_op op_fdiv (pv 0) pe_int) pe_int) (fun _ _=>rfl)) (pa_cons pe_str pa_nil)))))))
   pss_nil)
  (pss_cons (ps_if (pt_cmpR op_eq (pe_op op_mod (pv 0) pe_int) pe_int (nomark _))
   (pss_one (ps_ret (pe_tup (pa_cons (pe_ix ix_list (pe_lst (pa_cons pe_str (pa_cons pe_str pa_nil))) (pe_op op_mod (pe_op op_fdiv (pv 0) pe_int) pe_int) (fun _ _=>rfl)) (pa_cons (pv 2) (pa_cons pe_str (pa_cons pe_str pa_nil)))))))
   pss_nil)
  (pss_one (ps_ret (pe_tup (pa_cons (pe_ix ix_list (pe_lst (pa_cons pe_str (pa_cons pe_str (pa_cons pe_str pa_nil)))) (pe_op op_mod (pe_op op_fdiv (pv 0) pe_int) pe_int) (fun _ _=>rfl)) (pa_cons (pe_tup (pa_cons pe_str (pa_cons (pe_op op_mod (pe_op op_fdiv (pv 0) pe_int) (pv 1)) pa_nil))) (pa_cons pe_str (pa_cons pe_str pa_nil))))))))))),?_⟩
 refine⟨le2,fun p1 hp1=>?_⟩
 have s1:=same_new hp1 (.tup [.str "let",.int 0])
 have e1:upd H p1 (.tup [.str "let",.int 0]) p1=some (.tup [.str "let",.int 0]):=upd_same
 generalize upd H p1 _=H1 at *
 refine⟨le2,fun p2 hp2=>?_⟩
 have s2:=same_new hp2 (.tup [.str "let",.int 0])
 have e2:upd H1 p2 (.tup [.str "let",.int 0]) p2=some (.tup [.str "let",.int 0]):=upd_same
 generalize upd H1 p2 _=H2 at *
 refine⟨le2,fun p3 hp3=>?_⟩
 have s3:=same_new hp3 (.tup [.str "not",.ref p2])
 have e3:upd H2 p3 (.tup [.str "not",.ref p2]) p3=some (.tup [.str "not",.ref p2]):=upd_same
 generalize upd H2 p3 _=H3 at *
 refine⟨le3,fun p4 hp4=>?_⟩
 have s4:=same_new hp4 (.tup [.str "and",.ref p1,.ref p3])
 have e4:upd H3 p4 (.tup [.str "and",.ref p1,.ref p3]) p4=some (.tup [.str "and",.ref p1,.ref p3]):=upd_same
 generalize upd H3 p4 _=H4 at *
 have nv:neverT.At H4 (.ref p4):=⟨p4,_,_,rfl,e4,⟨p1,rfl,s4 _ _ (s3 _ _ (s2 _ _ e1))⟩,p3,_,rfl,s4 _ _ e3,p2,rfl,s4 _ _ (s3 _ _ e2)⟩
 have t4:Same H H4:=s1.trans (s2.trans (s3.trans s4))
 have nok:∀k,1≤k→neverT.ok k:=fun k hk=>⟨by decide,hk,hk⟩
 have mod2:∀k:Int,k%2=0∨k%2=1:=fun k=>by omega
 have mod3:∀k:Int,k%3=0∨k%3=1∨k%3=2:=fun k=>by omega
 refine⟨_,rfl,_,_,rfl,rfl,(by show (0:Int)<6;decide),rfl,_,rfl,ite2 (fun c=>?_) (fun c=>?_)⟩
 ·refine⟨le2,fun q1 hq1=>?_⟩
  have r1:=same_new hq1 (.tup [.str "let",.int 4])
  have f1:upd H4 q1 (.tup [.str "let",.int 4]) q1=some (.tup [.str "let",.int 4]):=upd_same
  generalize upd H4 q1 _=H5 at *
  refine⟨le2,fun q2 hq2=>?_⟩
  have r2:=same_new hq2 (.tup [.str "let",.int 0])
  have f2:upd H5 q2 (.tup [.str "let",.int 0]) q2=some (.tup [.str "let",.int 0]):=upd_same
  generalize upd H5 q2 _=H6 at *
  refine⟨le3,fun q3 hq3=>?_⟩
  have r3:=same_new hq3 (.tup [.str "or",.ref q1,.ref q2])
  have f3:upd H6 q3 (.tup [.str "or",.ref q1,.ref q2]) q3=some (.tup [.str "or",.ref q1,.ref q2]):=upd_same
  generalize upd H6 q3 _=H7 at *
  have tt:orT.At H7 (.ref q3):=⟨q3,_,_,rfl,f3,⟨q1,rfl,r3 _ _ (r2 _ _ f1)⟩,q2,rfl,r3 _ _ f2⟩
  have t7:Same H H7:=t4.trans (r1.trans (r2.trans r3))
  refine⟨_,rfl,_,_,rfl,rfl,_,rfl,ite2 (fun c5=>?_) (fun c5=>?_)⟩
  ·have hm:(m:Int)<5:=by simpa using c5
   exact⟨le4,fun p hp=>q p "true" "elder" "StrangeLetter" (.ref q3) orT _ (t7.trans (same_new hp _)) upd_same (tt.keep (TS.same (same_new hp _))) or_ok (by decide) (by decide) (by decide) (.inl ⟨fun z=>by have:=z.2.1;have:4<m:=this;omega,rfl⟩)⟩
  ·have hm:m=5:=by
    have:¬(m:Int)<5:=by simpa using c5
    omega
   subst hm
   exact⟨le4,fun p hp=>q p "true" "elder" "" (.ref q3) orT _ (t7.trans (same_new hp _)) upd_same (tt.keep (TS.same (same_new hp _))) or_ok (by decide) (by decide) (by decide) (.inr (.inr (.inr ⟨or_ok,by decide,by decide,or_sides,rfl⟩)))⟩
 refine⟨_,rfl,_,_,rfl,rfl,(by show (0:Int)<6;decide),rfl,_,rfl,ite2 (fun c=>?_) (fun c=>?_)⟩
 ·refine⟨le2,fun L hL=>?_⟩
  obtain⟨kd,hat,hk,hkl⟩:∃kd:Str,atI [V.str "held",V.str ""] (n / 6%2)=some (.str kd)∧¬isKind kd∧kd.length≤100:=by
   rcases mod2 (n / 6) with e | e<;>rw[e]
   ·exact⟨"held",(atI_nat (j:=0) rfl:atI _ ((0:Nat):Int)=_),by decide,by decide⟩
   ·exact⟨"",(atI_nat (j:=1) rfl:atI _ ((1:Nat):Int)=_),by decide,by decide⟩
  refine⟨_,rfl,_,_,rfl,rfl,⟨by decide,by decide⟩,_,_,rfl,rfl,(by show (0:Int)<2;decide),L,_,_,_,rfl,rfl,SqL.of upd_same,hat,_,rfl,le4,fun p hp=>?_⟩
  have u:=(same_new hL _).trans (same_new hp (.tup [.str kd,.ref p4,.str "newer",.str "BadWord"]))
  exact q p kd "newer" "BadWord" (.ref p4) neverT _ (t4.trans u) upd_same (nv.keep (TS.same u)) (nok 5 (by decide)) (by decide) hkl (by decide) (.inr (.inl ⟨nok m hm1,fun z=>hk z.2,rfl⟩))
 refine⟨_,rfl,_,_,rfl,rfl,(by show (0:Int)<6;decide),rfl,_,rfl,ite2 (fun c=>?_) (fun c=>?_)⟩
 ·refine⟨_,rfl,le2,fun L hL=>?_⟩
  obtain⟨rl,hat,hk,hkl⟩:∃rl:Str,atI [V.str "newest",V.str "true"] (n / 6%2)=some (.str rl)∧¬isRule rl∧rl.length≤100:=by
   rcases mod2 (n / 6) with e | e<;>rw[e]
   ·exact⟨"newest",(atI_nat (j:=0) rfl:atI _ ((0:Nat):Int)=_),by decide,by decide⟩
   ·exact⟨"true",(atI_nat (j:=1) rfl:atI _ ((1:Nat):Int)=_),by decide,by decide⟩
  refine⟨_,rfl,_,_,rfl,rfl,⟨by decide,by decide⟩,_,_,rfl,rfl,(by show (0:Int)<2;decide),L,_,_,_,rfl,rfl,SqL.of upd_same,hat,le4,fun p hp=>?_⟩
  have u:=(same_new hL _).trans (same_new hp (.tup [.str "doubt",.ref p4,.str rl,.str "BadWord"]))
  exact q p "doubt" rl "BadWord" (.ref p4) neverT _ (t4.trans u) upd_same (nv.keep (TS.same u)) (nok 5 (by decide)) (by decide) (by decide) hkl (.inr (.inl ⟨nok m hm1,fun z=>hk z.1,rfl⟩))
 refine⟨_,rfl,_,_,rfl,rfl,(by show (0:Int)<6;decide),rfl,_,rfl,ite2 (fun c=>?_) (fun c=>?_)⟩
 ·refine⟨le2,fun L hL=>?_⟩
  obtain⟨kd,hat,hk,hkl,hs⟩:∃kd:Str,atI [V.str "true",V.str "doubt"] (n / 6%2)=some (.str kd)∧isKind kd∧kd.length≤100∧[]∈sidesR kd neverT (upto (2^m)):=by
   rcases mod2 (n / 6) with e | e<;>rw[e]
   ·refine⟨"true",(atI_nat (j:=0) rfl:atI _ ((0:Nat):Int)=_),by decide,by decide,?_⟩
    show[]∈[insR true neverT (upto (2^m))]
    rw[never_ins];exact List.mem_cons_self
   ·refine⟨"doubt",(atI_nat (j:=1) rfl:atI _ ((1:Nat):Int)=_),by decide,by decide,?_⟩
    show[]∈[insR true neverT (upto (2^m)),insR false neverT (upto (2^m))]
    rw[never_ins];exact List.mem_cons_self
  refine⟨_,rfl,_,_,rfl,rfl,⟨by decide,by decide⟩,_,_,rfl,rfl,(by show (0:Int)<2;decide),L,_,_,_,rfl,rfl,SqL.of upd_same,hat,_,rfl,le4,fun p hp=>?_⟩
  have u:=(same_new hL _).trans (same_new hp (.tup [.str kd,.ref p4,.str "elder",.str "NoStanding"]))
  exact q p kd "elder" "NoStanding" (.ref p4) neverT _ (t4.trans u) upd_same (nv.keep (TS.same u)) (nok 5 (by decide)) (by decide) hkl (by decide) (.inr (.inr (.inl ⟨nok m hm1,by decide,hk,hs,rfl⟩)))
 refine⟨le3,fun L hL=>?_⟩
 obtain⟨kd,hat,hk,hkl⟩:∃kd:Str,atI [V.str "true",V.str "false",V.str "doubt"] (n / 6%3)=some (.str kd)∧isKind kd∧kd.length≤100:=by
  rcases mod3 (n / 6) with e | e | e<;>rw[e]
  ·exact⟨"true",(atI_nat (j:=0) rfl:atI _ ((0:Nat):Int)=_),by decide,by decide⟩
  ·exact⟨"false",(atI_nat (j:=1) rfl:atI _ ((1:Nat):Int)=_),by decide,by decide⟩
  ·exact⟨"doubt",(atI_nat (j:=2) rfl:atI _ ((2:Nat):Int)=_),by decide,by decide⟩
 obtain⟨j,hj⟩:=Int.eq_ofNat_of_zero_le (Int.emod_nonneg (n / 18) (show (m:Int)≠0 by omega))
 have hjm:j<m:=by
  have:=Int.emod_lt_of_pos (n / 18) (show (0:Int)<m by omega)
  omega
 refine⟨_,rfl,_,_,rfl,rfl,⟨by decide,by decide⟩,_,_,rfl,rfl,(by show (0:Int)<3;decide),L,_,_,_,rfl,rfl,SqL.of upd_same,hat,_,rfl,_,_,rfl,rfl,⟨by decide,by decide⟩,_,rfl,_,_,rfl,rfl,(by show (0:Int)<m;omega),le2,fun q1 hq1=>?_⟩
 dsimp only at hq1 ⊢
 rw[hj]
 have r1:=same_new hL (.lst [.str "true",.str "false",.str "doubt"])
 generalize upd H4 L _=H5 at *
 have r2:=same_new hq1 (.tup [.str "let",.int j])
 have f2:upd H5 q1 (.tup [.str "let",.int j]) q1=some (.tup [.str "let",.int j]):=upd_same
 generalize upd H5 q1 _=H6 at *
 refine⟨le4,fun p hp=>?_⟩
 have u:=same_new hp (.tup [.str kd,.ref q1,.str "newer",.str ""])
 exact q p kd "newer" "" (.ref q1) (.lt j) _ (t4.trans (r1.trans (r2.trans u))) upd_same ⟨q1,rfl,u _ _ f2⟩ (by show j<5;omega) (by show 1≤23;decide) hkl (by decide) (.inr (.inr (.inr ⟨hjm,by decide,hk,sides_no (let_ins hjm hm5 true) (let_ins hjm hm5 false),rfl⟩)))
end
abbrev sLlast:Stmt:=top 41
def spLlast (K:PySem.W.Frag):Sp:=fun vs H Q _=>∃(a:Addr) (ns:List Int) (st n:Int),vs=[.ref a,.int st,.int n]∧SqL K H a (ns.map V.int)∧ns.length≤63∧0≤st∧st≤100∧∀(m:Int),0≤m→m≤200→Q (.int m) H
section
variable {P:Program} {w:World} {K:PySem.W.Frag} {mg:Str→Option Value} {base:Heap} {f:Addr} {fd:FuncData}
theorem scLlast:FnScope ["_law_script","_law_start","_law_n"] ["_law_script","_law_start","_law_n"] (defScope sLlast):=⟨rfl,rfl,rfl,by decide +kernel,rfl,by decide +kernel,by decide +kernel⟩
theorem ok_llast (F:Fun K "_law_last" "_law_last" sLlast f fd) (B:Bl mg):FnOk P w K mg base CX0 1 f fd ["_law_script","_law_start","_law_n"] (spLlast K):=by
 refine F.ok scLlast (fun vs H Q E h=>?_) (fun cdv A outer s H vs Q E hr h=>?_)
 ·obtain⟨a,ns,st,n,rfl,_⟩:=h
  rfl
 obtain⟨a,ns,st,n,rfl,hS,h63,h0,h1,q⟩:=h
 refine⟨_,pss_cons (ps_if (pt_cmpR op_gt (pe_callB call_len_seq (by rfl) B.len PySem.boot_len (pa_cons (pv 0) pa_nil)) (pv 1) (nomark _))
   (pss_one (ps_ret (pe_callB call_len_seq (by rfl) B.len PySem.boot_len (pa_cons (pv 0) pa_nil))))
   pss_nil)
  (pss_one (ps_ret (pe_op op_add (pv 1) (pe_op op_mod (pv 2) pe_int)))),?_⟩
 have hl:(ns.map V.int).length=ns.length:=List.length_map _
 refine⟨_,rfl,a,_,rfl,.inl hS,_,rfl,_,_,rfl,rfl,_,rfl,?_⟩
 refine ite2 (fun c=>?_) (fun c=>?_)
 ·exact⟨_,rfl,a,_,rfl,.inl hS,q _ (by omega) (by rw[hl];omega)⟩
 ·have e0:=Int.emod_nonneg n (show (6:Int)≠0 by decide)
  have e1:=Int.emod_lt_of_pos n (show (0:Int)<6 by decide)
  exact⟨_,rfl,_,rfl,_,_,rfl,rfl,(by show (0:Int)<6;decide),_,_,rfl,rfl,q _ (by omega) (by omega)⟩
end
theorem agr_none (m:Nat) (wd:Int):agr (List.replicate m none) wd=true:=by
 unfold agr
 rw[List.all_eq_true]
 intro b hb
 rw[List.mem_mapIdx] at hb
 obtain⟨i,hi,rfl⟩:=hb
 rw[List.getElem_replicate]
 rfl
theorem upto_ne (m:Nat):upto (2^m)≠[]:=fun e=>by
 have:(0:Int)∈upto (2^m):=mem_upto.mpr ⟨Int.le_refl _,by have:0<2^m:=Nat.pow_pos (by decide);omega⟩
 rw[e] at this
 cases this
theorem house_new {C cK x:Addr} {U:Hk} {H4 H5:Hp} {m:Nat} {ts:List Tr} (s5:Same H4 H5) (hx:H4 x=none) (tk4:H4 U.tk=none) (ln4:H4 U.ln=none) (nspx:U.sp≠x) (nmkx:U.mks≠x) (hm1:1≤m) (hm5:m≤5) (hne:roomR m ts≠[]) (hx5:H5 x=some (.ins C U.dx (hkF U m))) (hsp5:RowAt H5 U.sp (roomR m ts)) (hmk5:H5 U.mks=some (.lst (List.replicate m .non))) (htk5:H5 U.tk=some (.dK [])) (hln5:H5 U.ln=some (.lst [.str (houseL m ts)])) :
  HouseT [x,U.ln,U.tk] C cK H5 ⟨x,U,m,roomR m ts,List.replicate m none,[.str (houseL m ts)],[]⟩∧Same H4 (cut [x,U.ln,U.tk] H5)∧NoTup [x,U.ln,U.tk] H5:=by
 have nsl:U.sp≠U.ln:=fun e=>by
  have h1:H5 U.sp=some (.lst ((roomR m ts).map V.int)):=hsp5
  rw[e,hln5] at h1
  have h2:=Option.some.inj h1
  injection h2 with h2
  cases hr0:roomR m ts with
  | nil=>exact hne hr0
  | cons k0 _=>rw[hr0] at h2;injection h2 with h2;cases h2
 have nml:U.mks≠U.ln:=fun e=>by
  rw[e,hln5] at hmk5
  have h2:=Option.some.inj hmk5
  injection h2 with h2
  match m,hm1,h2 with
  | k+1,_,h2=>rw[List.replicate_succ] at h2;injection h2 with h2;cases h2
 have nst:U.sp≠U.tk:=ne_of hsp5 htk5 (by intro z;cases z)
 have nmt:U.mks≠U.tk:=ne_of hmk5 htk5 (by intro z;cases z)
 have notN:∀{b:Addr},b≠x→b≠U.ln→b≠U.tk→b∉[x,U.ln,U.tk]:=fun h1 h2 h3 hb=>by
  simp only[List.mem_cons,List.not_mem_nil,or_false] at hb
  rcases hb with h | h | h
  ·exact h1 h
  ·exact h2 h
  ·exact h3 h
 have fne:(roomR m ts).filter (agr (List.replicate m none))≠[]:=by
  rw[List.filter_eq_self.mpr fun wd _=>agr_none m wd]
  exact hne
 refine⟨⟨⟨hx5,hln5,by simp,by simp,cut_of hsp5 (notN nspx nsl nst),cut_of (by rw[hmk5,List.map_replicate];rfl) (notN nmkx nml nmt),List.length_replicate,hm1,hm5,room_wr hm5 ts,fne,by show 1≤900;decide⟩,htk5,by simp,(fun p hp=>nomatch hp),by show[U.ln].Nodup;simp,List.nodup_nil,List.nodup_nil,fun b hb=>?_,by show 0≤900;decide⟩,fun b o e=>cut_of (s5 _ _ e) fun z=>?_,fun b hb ys e=>?_⟩
 ·simp only[List.mem_cons,List.not_mem_nil,or_false] at hb
  rcases hb with rfl | rfl | rfl
  ·rw[hx5];intro z;cases z
  ·rw[hln5];intro z;cases z
  ·rw[htk5];intro z;cases z
 ·simp only[List.mem_cons,List.not_mem_nil,or_false] at z
  rcases z with rfl | rfl | rfl
  ·rw[hx] at e;cases e
  ·rw[ln4] at e;cases e
  ·rw[tk4] at e;cases e
 ·simp only[List.mem_cons,List.not_mem_nil,or_false] at hb
  rcases hb with rfl | rfl | rfl
  ·rw[hx5] at e;cases e
  ·rw[hln5] at e;cases e
  ·rw[htk5] at e;cases e
theorem comp_filterS {K:PySem.W.Frag} {a acc:Addr} {row:List Str} {p:Str→Bool} {tc:TT} {rest:L2.St} {D:Ends} {H:Hp} (hr:SqL K H a (row.map V.str)) (hacc:H acc=none) (hlen:row.length≤900)
  (ht:∀k,k∈row→∀H2,Same H H2→∀R:Bool→Hp→Prop,(∀H3,Same H2 H3→R (p k) H3)→tc (some (.str k)::rest) H2 R)
  (hd:∀v0 H2,Same H H2→H2 acc=some (.lst ((row.filter p).map V.str))→D.nx (v0::rest) H2) (v:Option V) :
  loopR (Itl K a) (gName 0) (tIfC tc (tEmit acc (tVar 0))) D (v::rest) (upd H acc (.lst [])):=by
 refine for_list (K:=K) (a:=a) (xs:=row.map V.str) (fun i σ H2=>∃v0,σ=v0::rest∧Same H H2∧H2 acc=some (.lst (((row.take i).filter p).map V.str))) ⟨v,rfl,same_new hacc _,upd_same⟩ ?_ ?_ ?_
 ·rintro i σ H2 _ ⟨v0,rfl,s2,_⟩
  exact s2.seq hr
 ·rintro i x σ H2 hx ⟨v0,rfl,s2,ha2⟩
  rw[List.getElem?_map] at hx
  obtain⟨k,hk,rfl⟩:=Option.map_eq_some_iff.mp hx
  have et:row.take (i+1)=row.take i++[k]:=by rw[List.take_add_one,hk];rfl
  refine ht k (List.mem_of_getElem? hk) H2 s2 _ fun H3 s3=>?_
  have ha3:=s3 _ _ ha2
  cases e:p k with
  | false=>
   refine⟨_,rfl,s2.trans s3,?_⟩
   rw[et,List.filter_append,List.filter_cons_of_neg (by rw[e];simp),List.filter_nil,List.append_nil]
   exact ha3
  | true=>
   refine⟨_,rfl,_,ha3,small1000 ?_,?_⟩
   ·rw[List.length_map]
    refine Nat.le_trans (List.length_filter_le _ _) ?_
    rw[List.length_take]
    omega
   refine⟨_,rfl,same_put (s2.trans s3) hacc _,?_⟩
   rw[upd_same,et,List.filter_append,List.filter_cons_of_pos e,List.filter_nil,List.map_append]
   rfl
 ·rintro σ H2 ⟨v0,rfl,s2,ha2⟩
  rw[List.length_map,List.take_length] at ha2
  exact hd v0 H2 s2 ha2
abbrev sLaw:Stmt:=top 52
def spLaw (K:PySem.W.Frag):Sp:=fun vs H Q _=>∃(a:Addr) (ns:List Int),vs=[.ref a]∧SqL K H a (ns.map V.int)∧ns.length≤63∧∀H',Q (.bl true) H'
theorem bad_iff {gs bs:List Str} (hg:∀z∈gs,goodN z) (hb:∀z∈bs,¬goodN z) {z:Str} (h:z∈gs++bs++gs):z∈bs↔¬goodN z:=by
 refine⟨hb z,fun hn=>?_⟩
 rcases List.mem_append.mp h with h | h
 ·rcases List.mem_append.mp h with h | h
  ·exact absurd (hg z h) hn
  ·exact h
 ·exact absurd (hg z h) hn
def Deed.In (all:List Str):Deed→Prop
 | .beg n _ _ _ _=>n∈all
 | .frk k n=>k∈all∧n∈all
 | .drp k=>k∈all
def DFoot (S:HSt) (du:Str):Deed→Prop
 | .beg _ kd rl _ t=>FootOk S.m S.room kd rl t du
 | _=>True
theorem due_refd {gs bs:List Str} (hg:∀z∈gs,goodN z) (hb:∀z∈bs,¬goodN z) {S:HSt} {D:Deed} {du:Str} {y:Nat} (hi:D.In (gs++bs++gs)) (hf:DFoot S du D) (h:Refd S D y):dueW (nms S.ts) bs D du=wordOf y:=by
 cases D with
 | beg n kd rl v t=>
  have hn:=bad_iff hg hb hi
  show (if n∈bs then ("BadName":Str) else if n∈nms S.ts then "NameTaken" else du)=_
  rcases h with⟨c,rfl⟩|⟨c,c2,rfl⟩|⟨c,c2,c3,rfl⟩|⟨c,c2,c3,c4,rfl⟩|⟨c,c2,c3,c4,c5,c6,rfl⟩
  ·rw[if_pos (hn.mpr c)];rfl
  all_goals rw[if_neg (fun z=>hn.mp z c)]
  ·rw[if_pos c2];rfl
  all_goals rw[if_neg c2]
  ·rcases hf with⟨_,e⟩|⟨f1,_⟩|⟨f1,_⟩|⟨f1,_⟩
   ·exact e
   all_goals exact absurd f1 c3
  ·rcases hf with⟨f1,_⟩|⟨_,_,e⟩|⟨_,f2,f3,_⟩|⟨_,f2,f3,_⟩
   ·exact absurd c3 f1
   ·exact e
   all_goals exact absurd ⟨f2,f3⟩ c4
  ·rcases hf with⟨f1,_⟩|⟨_,f2,_⟩|⟨_,_,_,_,e⟩|⟨_,_,_,f4,_⟩
   ·exact absurd c3 f1
   ·exact absurd ⟨c4,c5⟩ f2
   ·exact e
   ·exact absurd c6 f4
 | frk k n=>
  have hn:=bad_iff hg hb hi.2
  show (if k∉nms S.ts then ("NoTalk":Str) else if n∈bs then "BadName" else if n∈nms S.ts then "NameTaken" else "")=_
  rcases h with⟨c,rfl⟩|⟨c,c2,rfl⟩|⟨c,c2,c3,rfl⟩
  ·rw[if_pos c];rfl
  ·rw[if_neg (not_not_intro c),if_pos (hn.mpr c2)];rfl
  ·rw[if_neg (not_not_intro c),if_neg (fun z=>hn.mp z c2),if_pos c3];rfl
 | drp k=>
  obtain⟨c,rfl⟩:=h
  show (if k∉nms S.ts then ("NoTalk":Str) else "")=_
  rw[if_pos c];rfl
theorem due_fine {gs bs:List Str} (hg:∀z∈gs,goodN z) (hb:∀z∈bs,¬goodN z) {S:HSt} {D:Deed} {du:Str} (hi:D.In (gs++bs++gs)) (hf:DFoot S du D) (h:Fine S D):dueW (nms S.ts) bs D du="":=by
 cases D with
 | beg n kd rl v t=>
  have hn:=bad_iff hg hb hi
  obtain⟨c,c2,c3,c4,c5,c6⟩:=h
  show (if n∈bs then ("BadName":Str) else if n∈nms S.ts then "NameTaken" else du)=_
  rw[if_neg (fun z=>hn.mp z c),if_neg c2]
  rcases hf with⟨f1,_⟩|⟨_,f2,_⟩|⟨_,_,_,f4,_⟩|⟨_,_,_,_,e⟩
  ·exact absurd c3 f1
  ·exact absurd ⟨c4,c5⟩ f2
  ·exact absurd f4 c6
  ·exact e
 | frk k n=>
  have hn:=bad_iff hg hb hi.2
  obtain⟨c,c2,c3⟩:=h
  show (if k∉nms S.ts then ("NoTalk":Str) else if n∈bs then "BadName" else if n∈nms S.ts then "NameTaken" else "")=_
  rw[if_neg (not_not_intro c),if_neg (fun z=>hn.mp z c2),if_neg c3]
 | drp k=>
  show (if k∉nms S.ts then ("NoTalk":Str) else "")=_
  have h:k∈nms S.ts:=h
  rw[if_neg (not_not_intro h)]
theorem word_ne:∀y,y<6→wordOf y≠"":=by decide
theorem pick8 {all:List Str} (h:all.length=8) (n:Int):∃z∈all,atI (all.map V.str) (n%8)=some (.str z):=by
 obtain⟨j,hj⟩:=Int.eq_ofNat_of_zero_le (Int.emod_nonneg n (show (8:Int)≠0 by decide))
 have hl:=Int.emod_lt_of_pos n (show (0:Int)<8 by decide)
 have hj8:j<all.length:=by omega
 refine⟨all[j],List.getElem_mem hj8,?_⟩
 rw[hj]
 exact atI_nat (by rw[List.getElem?_map,List.getElem?_eq_getElem hj8];rfl)
section
variable {P:Program} {w:World} {K:PySem.W.Frag} {mg:Str→Option Value} {base:Heap} {f:Addr} {fd:FuncData}
theorem scLaw:FnScope ["_law_script","_law_many","_law_house","_law_good","_law_bad","_law_names_here","_law_k","_law_n","_law_kind","_law_sentence","_law_rule","_law_due_here","_law_one","_law_other","_law_deed"] ["_law_script"] (defScope sLaw):=⟨rfl,rfl,rfl,by decide +kernel,rfl,by decide +kernel,by decide +kernel⟩
set_option maxHeartbeats 64000000 in
theorem ok_law {fN fL fA fB fF fD fW fT fI m1 cH cK cS cW':Addr} {dN dL dA dB dF dD dW dT dI e1:FuncData} (F:Fun K "law" "law" sLaw f fd) (B:Bl mg) (T:BTx mg) (HX:HsX K cH)
  (GN:FnOk P w K mg base CX0 1 fN dN ["_law_script","_law_k"] (spNum K)) (CN:Cal K mg "_law_num" fN dN ["_law_script","_law_k"])
  (GL:FnOk P w K mg base CX0 1 fL dL ["_law_script","_law_start","_law_n"] (spLlast K)) (CL:Cal K mg "_law_last" fL dL ["_law_script","_law_start","_law_n"])
  (GA:FnOk P w K mg base CX0 2 fA dA ["_law_script"] (spLnames K)) (CA:Cal K mg "_law_names" fA dA ["_law_script"])
  (GB:FnOk P w K mg base CX0 1 fB dB ["_law_n","_law_name_here"] spLbad) (CB:Cal K mg "_law_bad_name" fB dB ["_law_n","_law_name_here"])
  (GF:FnOk P w K mg base CX0 1 fF dF ["_law_n","_law_many"] spLfoot) (CF:Cal K mg "_law_footing" fF dF ["_law_n","_law_many"])
  (GD:FnOk P w K mg base CX0 1 fD dD ["_law_names_here","_law_bad","_law_deed","_law_due_here"] spLdue) (CD:Cal K mg "_law_due" fD dD ["_law_names_here","_law_bad","_law_deed","_law_due_here"])
  (GW:FnOk P w K mg base CX0 10 fW dW ["_law_house","_law_deed"] (spLword cH cK)) (CW:Cal K mg "_law_word" fW dW ["_law_house","_law_deed"])
  (GT:FnOk P w K mg base CX0 2 fT dT ["_law_found","_law_due_here"] (spLtexts K)) (CT:Cal K mg "_law_texts_are" fT dT ["_law_found","_law_due_here"])
  (GI:FnOk P w K mg base (CXE P w) 5 fI dI ["self","many","standing"] (spHInit cH cS cW')) (CI:CalI K mg cH "House" fI dI ["self","many","standing"])
  (G1:FnOk P w K mg base CX0 1 m1 e1 ["self"] (spHNames cH cK)) (C1:CalM K cH "names" m1 e1 ["self"]):FnOk P w K mg base CX0 11 f fd ["_law_script"] (spLaw K):=by
 refine F.ok scLaw (fun vs H Q E h=>?_) (fun cdv A outer s H vs Q E hr h=>?_)
 ·obtain⟨a,ns,rfl,_⟩:=h
  rfl
 obtain⟨a,ns,rfl,hS,h63,q⟩:=h
 have hr1:Room 1 _:=hr.mono (by decide)
 have hr2:Room 2 _:=hr.mono (by decide)
 have hr5:Room 6 _:=hr.mono (by decide)
 refine⟨_,pss_cons (ps_set (i:=1) scLaw.nd rfl (Or.inl rfl) (pe_op op_add pe_int (pe_op op_mod (pe_call GN hr1 (by rfl) CN.m CN.k CN.b .nil pass0 (pa_cons (pv 0) (pa_cons pe_int pa_nil))) pe_int)))
  (pss_cons (ps_set (i:=2) scLaw.nd rfl (Or.inl rfl) (pe_make CI.make GI hr5 (by rfl) CI.m CI.b .nil passX0 (pa_cons (pv 1) (pa_cons (pe_lst pa_nil) pa_nil))))
  (pss_cons (ps_set (i:=3) scLaw.nd rfl (Or.inr rfl) (pe_call GA hr2 (by rfl) CA.m CA.k CA.b .nil pass0 (pa_cons (pv 0) pa_nil)))
  (pss_cons (ps_comp1 (i:=4) scLaw.nd rfl (Or.inl rfl) (N:=["_law_k","_law_good","_law_script"]) (js:=[none,some 3,some 0]) (cl:=[("_law_script",s.heap.objs.size+1),("_law_good",s.heap.objs.size+2)]) ⟨rfl,rfl,rfl,(by intro p hp;simp at hp;rcases hp with rfl | rfl<;>rfl),rfl,rfl,rfl⟩ (pi_range1 (by rfl) B.range (pa_cons pe_int pa_nil)) (fun c1=>(pg_name (i:=0) (show (["_law_k","_law_good","_law_script"]:List Str).Nodup by decide +kernel) rfl (Or.inl rfl))) (fun c1=>pts_nil) (fun c1=>(pe_call GB hr1 (by rfl) CB.m CB.k CB.b .nil pass0 (pa_cons (pe_op op_fdivW (pe_call GN hr1 (by rfl) CN.m CN.k CN.b .nil pass0 (pa_cons (pv 2) (pa_cons pe_int pa_nil))) (pe_ix ix_list (pe_lst (pa_cons pe_int (pa_cons (pe_op op_pow pe_int pe_int) pa_nil))) (pv 0) (fun _ _=>rfl))) (pa_cons (pe_ix ix_list (pv 1) (pv 0) (fun _ _=>rfl)) pa_nil)))))
  (pss_cons (ps_set (i:=5) scLaw.nd rfl (Or.inl rfl) (pe_lst pa_nil))
  (pss_cons (ps_for PassesOwn.never rfl (pi_range2 (by rfl) B.range (pa_cons pe_int (pa_cons (pe_call GL hr1 (by rfl) CL.m CL.k CL.b .nil pass0 (pa_cons (pv 0) (pa_cons pe_int (pa_cons (pe_op op_fdiv (pe_call GN hr1 (by rfl) CN.m CN.k CN.b .nil pass0 (pa_cons (pv 0) (pa_cons pe_int pa_nil))) pe_int) pa_nil)))) pa_nil))) (pg_name (i:=6) scLaw.nd rfl (Or.inl rfl))
   (pss_cons (ps_set (i:=7) scLaw.nd rfl (Or.inl rfl) (pe_call GN hr1 (by rfl) CN.m CN.k CN.b .nil pass0 (pa_cons (pv 0) (pa_cons (pv 6) pa_nil))))
   (pss_cons (ps_asg (pe_call GF hr1 (by rfl) CF.m CF.k CF.b .nil pass0 (pa_cons (pe_op op_fdiv (pv 7) pe_int) (pa_cons (pv 1) pa_nil))) (pg_tup rfl (pgs_cons (pg_name (i:=8) scLaw.nd rfl (Or.inl rfl)) (pgs_cons (pg_name (i:=9) scLaw.nd rfl (Or.inl rfl)) (pgs_cons (pg_name (i:=10) scLaw.nd rfl (Or.inl rfl)) (pgs_cons (pg_name (i:=11) scLaw.nd rfl (Or.inl rfl)) pgs_nil))))))
   (pss_cons (ps_set (i:=12) scLaw.nd rfl (Or.inr rfl) (pe_ix ix_list (pe_op op_cat (pe_op op_cat (pv 3) (pv 4)) (pv 3)) (pe_op op_mod (pv 7) pe_int) (fun _ _=>rfl)))
   (pss_cons (ps_set (i:=13) scLaw.nd rfl (Or.inl rfl) (pe_ix ix_list (pe_op op_cat (pe_op op_cat (pv 3) (pv 4)) (pv 3)) (pe_op op_mod (pe_op op_fdiv (pv 7) pe_int) pe_int) (fun _ _=>rfl)))
   (pss_cons (ps_set (i:=14) scLaw.nd rfl (Or.inl rfl) (pe_tup (pa_cons pe_str (pa_cons (pv 12) (pa_cons (pv 8) (pa_cons (pv 9) (pa_cons (pv 10) pa_nil)))))))
   (pss_cons (ps_if (pt_cmpR op_eq (pe_op op_mod (pe_op op_fdiv (pv 7) pe_int) pe_int) pe_int (nomark _))
    (pss_one (ps_set (i:=14) scLaw.nd rfl (Or.inl rfl) (pe_tup (pa_cons pe_str (pa_cons (pv 12) (pa_cons (pv 13) pa_nil))))))
    pss_nil)
   (pss_cons (ps_if (pt_cmpR op_eq (pe_op op_mod (pe_op op_fdiv (pv 7) pe_int) pe_int) pe_int (nomark _))
    (pss_one (ps_set (i:=14) scLaw.nd rfl (Or.inl rfl) (pe_tup (pa_cons pe_str (pa_cons (pv 12) pa_nil)))))
    pss_nil)
   (pss_cons (ps_set (i:=11) scLaw.nd rfl (Or.inl rfl) (pe_call GD hr1 (by rfl) CD.m CD.k CD.b .nil pass0 (pa_cons (pv 5) (pa_cons (pv 4) (pa_cons (pv 14) (pa_cons (pv 11) pa_nil))))))
   (pss_cons (ps_if (pt_cmpR op_ne (pe_call GW hr (by rfl) CW.m CW.k CW.b .nil pass0 (pa_cons (pv 2) (pa_cons (pv 14) pa_nil))) (pv 11) (nomark _))
    (pss_one (ps_ret pe_bl))
    pss_nil)
   (pss_cons (ps_if (pw_and (pt_cmpR op_eq (pv 11) pe_str (nomark _)) (pw_and1 (pt_cmpR op_eq (pe_ix ix_tup (pv 14) pe_int (fun _ _=>rfl)) pe_str (nomark _)))).pt
    (pss_one (ps_comp1 (i:=5) scLaw.nd rfl (Or.inl rfl) (N:=["_law_name_here","_law_one"]) (js:=[none,some 12]) (cl:=[("_law_one",s.heap.objs.size+3)]) ⟨rfl,rfl,rfl,(by intro p hp;simp at hp;rcases hp with rfl<;>rfl),rfl,rfl,rfl⟩ (pi_list (pv 5)) (fun c1=>(pg_name (i:=0) (show (["_law_name_here","_law_one"]:List Str).Nodup by decide +kernel) rfl (Or.inl rfl))) (fun c1=>(pts_one (pt_cmpR op_ne (pv 0) (pv 1) (nomark _)))) (fun c1=>(pv 0))))
    (pss_one (ps_if (pt_cmpR op_eq (pv 11) pe_str (nomark _))
     (pss_one (ps_set (i:=5) scLaw.nd rfl (Or.inl rfl) (pe_op op_cat (pv 5) (pe_lst (pa_cons (pe_ifExp (pt_cmpR op_eq (pe_ix ix_tup (pv 14) pe_int (fun _ _=>rfl)) pe_str (nomark _)) (pv 12) (pv 13)) pa_nil)))))
     pss_nil)))
   (pss_cons (ps_if (pt_not (pt_val (pe_call GT hr2 (by rfl) CT.m CT.k CT.b .nil pass0 (pa_cons (pe_meth0 (pv 2) HX.cl C1.m G1 hr1 C1.b .nil pass0) (pa_cons (pv 5) pa_nil)))))
    (pss_one (ps_ret pe_bl))
    pss_nil)
   (pss_one (ps_expr (pe_bm PySem.F.plainAttrs_list PySem.F.slot_list_append PySem.F.type_list_append mt_append (pe_meth0 (pv 2) HX.cl C1.m G1 hr1 C1.b .nil pass0) (pa_cons pe_str pa_nil))))))))))))))))
  (pss_one (ps_ret (pe_call GT hr2 (by rfl) CT.m CT.k CT.b .nil pass0 (pa_cons (pe_meth0 (pv 2) HX.cl C1.m G1 hr1 C1.b .nil pass0) (pa_cons (pv 5) pa_nil)))))))))),?_⟩
 refine⟨_,rfl,a,ns,0,rfl,hS,h63,by decide,by decide,fun n0 H1 hn0 s1=>?_⟩
 refine⟨_,_,rfl,rfl,(by show (0:Int)<5;decide),_,_,rfl,rfl,?_⟩
 have e0:=Int.emod_nonneg n0 (show (5:Int)≠0 by decide)
 have e1:=Int.emod_lt_of_pos n0 (show (0:Int)<5 by decide)
 obtain⟨m,hm⟩:=Int.eq_ofNat_of_zero_le (show 0≤1+n0%5 by omega)
 have hm1:1≤m:=by omega
 have hm5:m≤5:=by omega
 dsimp only
 rw[hm]
 refine⟨_,rfl,le0,fun st hst=>?_⟩
 have s2:=same_new hst (.lst [])
 have st2:upd H1 st (.lst []) st=some (.lst []):=upd_same
 generalize upd H1 st _=H2 at *
 have t2:=s1.trans s2
 intro x dx hx hdx nex
 have sM:Same H2 (upd (upd H2 dx (.own x)) x (.ins cH dx [])):=(same_new hdx _).trans (same_new (by rw[upd_ne nex.symm];exact hx) _)
 refine⟨x,dx,st,m,[],[],rfl,upd_same,sM _ _ st2,.nil,(fun t ht=>nomatch ht),(by show 0≤100;decide),hm1,hm5,(fun⟨t,ht,_⟩=>nomatch ht),(fun _ he=>absurd he (upto_ne m)),fun _ _ U H3 b3 sp0 mk0 tk0 ln0 hx3 hsp3 hmk3 htk3 hln3=>⟨rfl,?_⟩⟩
 have s3:Same H2 H3:=made_same hx hdx nex b3
 obtain⟨sp2,nspx,_⟩:=made_none (C:=cH) sp0
 obtain⟨mk2,nmkx,_⟩:=made_none (C:=cH) mk0
 obtain⟨tk2,_,_⟩:=made_none (C:=cH) tk0
 obtain⟨ln2,_,_⟩:=made_none (C:=cH) ln0
 obtain⟨M,S,hT3,c3,nt3,Sx,Sm,Sr,Sl,St⟩:∃(M:List Addr) (S:HSt),HouseT M cH cK H3 S∧Same H2 (cut M H3)∧NoTup M H3∧S.x=x∧S.m=m∧S.room=upto (2^m)∧S.ls.length=1∧S.ts=[]:=by
  obtain⟨h1,h2,h3⟩:=house_new (cK:=cK) (ts:=[]) s3 hx tk2 ln2 nspx nmkx hm1 hm5 (upto_ne m) hx3 hsp3 hmk3 htk3 hln3
  exact⟨_,_,h1,h2,h3,rfl,rfl,rfl,rfl,rfl⟩
 have t3:=t2.trans s3
 refine⟨_,rfl,a,ns,rfl,t3.seq hS,h63,fun g gs H4 s4 g0 hg lg hgs=>?_⟩
 have t4:=t3.trans s4
 refine⟨_,rfl,by decide,by decide,fun cc bl hbl=>for_range (fun i σ Hi=>∃(v0:Option V) (bs:List Str),σ=[v0,some (.ref g),some (.ref a)]∧Same H4 Hi∧Hi bl=some (.lst (bs.map V.str))∧bs.length=i∧∀z∈bs,¬goodN z∧nmOk z) ⟨_,[],rfl,same_new hbl _,upd_same,rfl,fun z hz=>nomatch hz⟩ ?_ ?_⟩
 ·rintro i σ Hi hi ⟨v0,bs,rfl,si,hbi,lb,hbz⟩
  have hi2:i<2:=by
   have h0:i<(2:Int).toNat:=hi
   exact h0
  rw[Int.zero_add]
  obtain⟨y,hy0,hy1,hya⟩:∃y:Int,0<y∧y.natAbs.log2<9000∧atI [V.int 1,V.int (10^(5:Int).toNat)] (i:Int)=some (.int y):=by
   match i,hi2 with
   | 0,_=>exact⟨1,by decide,by decide,atI_nat (j:=0) rfl⟩
   | 1,_=>exact⟨_,by decide,by decide,atI_nat (j:=1) rfl⟩
  have hil:i<gs.length:=by omega
  have hga:atI (gs.map V.str) (i:Int)=some (.str gs[i]):=atI_nat (by rw[List.getElem?_map,List.getElem?_eq_getElem hil];rfl)
  refine⟨_,rfl,a,ns,6,rfl,(t4.trans si).seq hS,h63,by decide,by decide,fun n6 H5 hn6 s5=>?_⟩
  refine⟨_,_,rfl,rfl,⟨by decide,by decide,by decide⟩,le2,fun L hL=>?_⟩
  have s6:=same_new hL (.lst [V.int 1,V.int (10^(5:Int).toNat)])
  have L6:upd H5 L (.lst [V.int 1,V.int (10^(5:Int).toNat)]) L=some (.lst [V.int 1,V.int (10^(5:Int).toNat)]):=upd_same
  dsimp only
  generalize upd H5 L _=H6 at *
  have u6:=s5.trans s6
  refine⟨_,rfl,L,_,_,_,rfl,rfl,SqL.of L6,hya,_,_,rfl,rfl,⟨hy0,hy1⟩,_,rfl,_,rfl,g,_,_,_,rfl,rfl,SqL.of (u6 _ _ (si _ _ hg)),hga,_,_,rfl,Int.ediv_nonneg hn6 (Int.le_of_lt hy0),hgs _ (List.getElem_mem hil),fun z' hz1 hz2 hz3=>?_⟩
  refine⟨_,u6 _ _ hbi,small1000 (by rw[List.length_map];omega),?_⟩
  refine⟨_,bs++[z'],rfl,same_put (si.trans u6) hbl _,by rw[upd_same,List.map_append];rfl,by rw[List.length_append,lb];rfl,fun z hz=>?_⟩
  rcases List.mem_append.mp hz with h | h
  ·exact hbz z h
  ·rw[List.mem_singleton.mp h];exact⟨hz1,hz3,hz2⟩
 rintro σ H5 ⟨v0,bs,rfl,s5,hb5,lb,hbz⟩
 have lb:bs.length=2:=lb
 refine comp_go rfl ?_
 refine⟨le0,fun nl hnl=>?_⟩
 have s6:=same_new hnl (.lst [])
 have nl6:upd H5 nl (.lst []) nl=some (.lst []):=upd_same
 generalize upd H5 nl _=H6 at *
 have u6:Same H3 H6:=s4.trans (s5.trans s6)
 have hT6:=hT3.keep u6
 have offM:∀{b:Addr} {H':Hp},Same H3 H'→H' b=none→b∉M:=fun s' e z=>hT3.fr _ z (s'.free e)
 have c6:Same H (cut M H6):=(t2.trans c3).trans (cut_mono u6)
 have g6:cut M H6 g=some (.lst (gs.map V.str)):=cut_of ((s5.trans s6) _ _ hg) (offM (Same.refl _) g0)
 have bl6:cut M H6 bl=some (.lst (bs.map V.str)):=cut_of (s6 _ _ hb5) (offM s4 hbl)
 have nl6':cut M H6 nl=some (.lst []):=cut_of nl6 (offM (s4.trans s5) hnl)
 have hbn:∀z∈bs,¬goodN z:=fun z hz=>(hbz z hz).1
 have hall:∀z∈gs++bs++gs,nmOk z:=fun z hz=>by
  rcases List.mem_append.mp hz with h | h
  ·rcases List.mem_append.mp h with h | h
   ·exact⟨Nat.le_trans (hgs z h).2.1 (by decide),(hgs z h).lt⟩
   ·exact (hbz z h).2
  ·exact⟨Nat.le_trans (hgs z h).2.1 (by decide),(hgs z h).lt⟩
 have lall:(gs++bs++gs).length=8:=by rw[List.length_append,List.length_append,lg,lb]
 refine⟨_,rfl,_,rfl,a,ns,0,rfl,(c6.trans cut_same).seq hS,h63,by decide,by decide,fun n3 H7 hn3 s7=>?_⟩
 refine⟨_,_,rfl,rfl,⟨by decide,by decide⟩,a,ns,8,_,rfl,((c6.trans cut_same).trans s7).seq hS,h63,by decide,by decide,fun lm l0 l200=>?_⟩
 refine⟨_,_,rfl,⟨by decide,by decide,by omega,by omega⟩,for_range (fun i σ Hi=>∃(v6 v7 v8 v9 v10 v11 v12 v13 v14:Option V) (nl:Addr) (M':List Addr) (S':HSt),σ=[some (.ref a),some (.int (m:Int)),some (.ref x),some (.ref g),some (.ref bl),some (.ref nl),v6,v7,v8,v9,v10,v11,v12,v13,v14]∧HouseT M' cH cK Hi S'∧Same (cut M H6) (cut M' Hi)∧NoTup M' Hi∧S'.x=x∧S'.m=m∧S'.room=upto (2^m)∧S'.ls.length≤1+i∧S'.ts.length≤i∧cut M' Hi nl=some (.lst ((nms S'.ts).map V.str))) ⟨_,_,_,_,_,_,_,_,_,nl,M,S,rfl,hT6.keep s7,cut_mono s7,nt3.keep (u6.trans s7) hT3.fr,Sx,Sm,Sr,by omega,by rw[St];exact Nat.le_refl _,by rw[St];exact cut_mono s7 _ _ nl6'⟩ ?_ ?_⟩
 rotate_left
 ·rintro σ Hi ⟨v6,v7,v8,v9,v10,v11,v12,v13,v14,nl,M',S',rfl,hTi,ci,nti,ex,em,er,lls,lts,hnl'⟩
  have obi:=hTi.h.ob
  rw[ex] at obi
  refine⟨_,rfl,x,_,_,rfl,obi,ho_names,M',S',by rw[ex];rfl,hTi,fun l H' s' l00 hl=>?_⟩
  exact⟨_,rfl,l,nl,_,rfl,hl,SqL.of (s' _ _ (cut_same _ _ hnl')),by unfold nms;rw[List.length_map];exact hTi.tl,q _⟩
 rintro i σ Hi hi ⟨v6,v7,v8,v9,v10,v11,v12,v13,v14,nl,M',S',rfl,hTi,ci,nti,ex,em,er,lls,lts,hnl'⟩
 have hi200:i≤200:=by omega
 have wi:Same H Hi:=(c6.trans ci).trans cut_same
 have gi:=cut_same _ _ (ci _ _ g6)
 have bi:=cut_same _ _ (ci _ _ bl6)
 refine⟨_,rfl,_,rfl,a,ns,_,rfl,wi.seq hS,h63,(by show (0:Int)≤8+((i:Nat):Int);omega),(by show 8+((i:Nat):Int)≤1000;omega),fun n H8 hn s8=>?_⟩
 refine⟨_,rfl,_,_,rfl,rfl,⟨by decide,by decide⟩,_,rfl,_,m,rfl,Int.ediv_nonneg hn (by decide),hm1,hm5,fun p kd rl du v t H9 s9 hp hat ok5 sz kl rll foot=>?_⟩
 refine⟨p,_,rfl,SqT.of hp,rfl,_,_,rfl,_,_,rfl,_,_,rfl,_,_,rfl,rfl,?_⟩
 have w9:=s8.trans s9
 obtain⟨one,hone,at1⟩:=pick8 lall n
 obtain⟨oth,hoth,at2⟩:=pick8 lall (n / 8)
 refine⟨_,rfl,_,rfl,g,bl,_,_,rfl,rfl,w9 _ _ gi,w9 _ _ bi,(by rw[List.length_map,List.length_map,lg,lb];decide),fun L1 hL1=>?_⟩
 have s10:=same_new hL1 (.lst (gs.map V.str++bs.map V.str))
 have L10:upd H9 L1 (.lst (gs.map V.str++bs.map V.str)) L1=some (.lst (gs.map V.str++bs.map V.str)):=upd_same
 generalize upd H9 L1 _=H10 at *
 have w10:=w9.trans s10
 refine⟨_,rfl,L1,g,_,_,rfl,rfl,L10,w10 _ _ gi,(by rw[List.length_append,List.length_map,List.length_map,lg,lb];decide),fun L2 hL2=>?_⟩
 have eall:(gs.map V.str++bs.map V.str)++gs.map V.str=(gs++bs++gs).map V.str:=by rw[List.map_append,List.map_append]
 rw[eall]
 have s11:=same_new hL2 (.lst ((gs++bs++gs).map V.str))
 have L11:upd H10 L2 (.lst ((gs++bs++gs).map V.str)) L2=some (.lst ((gs++bs++gs).map V.str)):=upd_same
 generalize upd H10 L2 _=H11 at *
 have w11:=w10.trans s11
 refine⟨_,rfl,_,_,rfl,rfl,(by show (0:Int)<8;decide),L2,_,_,_,rfl,rfl,SqL.of L11,at1,?_⟩
 refine⟨_,rfl,_,rfl,g,bl,_,_,rfl,rfl,w11 _ _ gi,w11 _ _ bi,(by rw[List.length_map,List.length_map,lg,lb];decide),fun L3 hL3=>?_⟩
 have s12:=same_new hL3 (.lst (gs.map V.str++bs.map V.str))
 have L12:upd H11 L3 (.lst (gs.map V.str++bs.map V.str)) L3=some (.lst (gs.map V.str++bs.map V.str)):=upd_same
 generalize upd H11 L3 _=H12 at *
 have w12:=w11.trans s12
 refine⟨_,rfl,L3,g,_,_,rfl,rfl,L12,w12 _ _ gi,(by rw[List.length_append,List.length_map,List.length_map,lg,lb];decide),fun L4 hL4=>?_⟩
 rw[eall]
 have s13:=same_new hL4 (.lst ((gs++bs++gs).map V.str))
 have L13:upd H12 L4 (.lst ((gs++bs++gs).map V.str)) L4=some (.lst ((gs++bs++gs).map V.str)):=upd_same
 generalize upd H12 L4 _=H13 at *
 have w13:=w12.trans s13
 refine⟨_,rfl,_,_,rfl,rfl,⟨by decide,by decide⟩,_,_,rfl,rfl,(by show (0:Int)<8;decide),L4,_,_,_,rfl,rfl,SqL.of L13,at2,?_⟩
 have hat13:t.At H13 v:=hat.keep (TS.same (s10.trans (s11.trans (s12.trans s13))))
 refine⟨_,rfl,_,rfl,_,rfl,_,rfl,le5,fun d0 hd0=>?_⟩
 have s14:=same_new hd0 (.tup (Deed.beg one kd rl v t).tup)
 have d14:upd H13 d0 (.tup (Deed.beg one kd rl v t).tup) d0=some (.tup (Deed.beg one kd rl v t).tup):=upd_same
 have ed:([V.str "begin",V.str one,V.str kd,v,V.str rl]:List V)=(Deed.beg one kd rl v t).tup:=rfl
 rw[ed]
 generalize upd H13 d0 _=H14 at *
 have w14:=w13.trans s14
 have eD:∀{D:Deed},(D= .beg one kd rl v t∨D= .frk one oth∨D= .drp one)→D.In (gs++bs++gs)∧DFoot S' du D:=fun h=>by
  rcases h with rfl | rfl | rfl
  ·refine⟨hone,?_⟩
   show FootOk S'.m S'.room kd rl t du
   rw[em,er];exact foot
  ·exact⟨⟨hone,hoth⟩,True.intro⟩
  ·exact⟨hone,True.intro⟩
 refine nx_mid (fun σ H'=>∃(d:Addr) (D:Deed),σ=[some (.ref a),some (.int (m:Int)),some (.ref x),some (.ref g),some (.ref bl),some (.ref nl),some (.int (8+((i:Nat):Int))),some (.int n),some (.str kd),some v,some (.str rl),some (.str du),some (.str one),some (.str oth),some (.ref d)]∧Same H14 H'∧H' d=some (.tup D.tup)∧(D= .beg one kd rl v t∨D= .frk one oth∨D= .drp one)) ?_ (fun next=>?_)
 rotate_left
 ·refine⟨_,rfl,_,_,rfl,rfl,⟨by decide,by decide⟩,_,_,rfl,rfl,(by show (0:Int)<4;decide),rfl,_,rfl,ite2 (fun _=>?_) (fun _=>?_)⟩
  ·refine⟨_,rfl,_,rfl,le3,fun d1 hd1=>?_⟩
   exact next _ _ ⟨d1,.frk one oth,rfl,same_new hd1 _,upd_same,.inr (.inl rfl)⟩
  ·exact next _ _ ⟨d0,_,rfl,Same.refl _,d14,.inl rfl⟩
 rintro σ H15 ⟨d1,D1,rfl,s15,d15,hD1⟩
 refine seq_mid (fun σ H'=>∃(d:Addr) (D:Deed),σ=[some (.ref a),some (.int (m:Int)),some (.ref x),some (.ref g),some (.ref bl),some (.ref nl),some (.int (8+((i:Nat):Int))),some (.int n),some (.str kd),some v,some (.str rl),some (.str du),some (.str one),some (.str oth),some (.ref d)]∧Same H14 H'∧H' d=some (.tup D.tup)∧(D= .beg one kd rl v t∨D= .frk one oth∨D= .drp one)) ?_ (fun next=>?_)
 rotate_left
 ·refine⟨_,rfl,_,_,rfl,rfl,⟨by decide,by decide⟩,_,_,rfl,rfl,(by show (0:Int)<4;decide),rfl,_,rfl,ite2 (fun _=>?_) (fun _=>?_)⟩
  ·refine⟨_,rfl,le2,fun d1 hd1=>?_⟩
   exact next _ _ ⟨d1,.drp one,rfl,s15.trans (same_new hd1 _),upd_same,.inr (.inr rfl)⟩
  ·exact next _ _ ⟨d1,D1,rfl,s15,d15,hD1⟩
 clear d15 hD1 s15
 rintro σ H16 ⟨d,D,rfl,s16,d16,hD⟩
 have w16:Same Hi H16:=w14.trans s16
 obtain⟨hDin,hDf⟩:=eD hD
 have hT16:=hTi.keep w16
 have offi:∀{b:Addr} {H':Hp},Same Hi H'→H' b=none→b∉M':=fun s' e z=>hTi.fr _ z (s'.free e)
 have nt16:=nti.keep w16 hTi.fr
 have tsc:TS H16 (cut M' H16):=nt16.ts
 have hDok:D.Ok (cut M' H16):=by
  rcases hD with rfl | rfl | rfl
  ·exact⟨hall _ hone,(hat13.keep (TS.same (s14.trans s16))).keep tsc,ok5,sz,kl,rll⟩
  ·exact⟨hall _ hone,hall _ hoth⟩
  ·exact hall _ hone
 have lzs:(nms S'.ts).length≤900:=by unfold nms;rw[List.length_map];exact hTi.tl
 have nl16:=cut_mono w16 _ _ hnl'
 refine⟨_,rfl,_,rfl,_,rfl,_,rfl,nl,bl,d,nms S'.ts,bs,D,du,rfl,cut_same _ _ nl16,w16 _ _ bi,d16,?_⟩
 obtain⟨dw,hdw⟩:∃dw,dueW (nms S'.ts) bs D du=dw:=⟨_,rfl⟩
 rw[hdw]
 refine nx_mid (fun σ H'=>∃(M2:List Addr) (S2:HSt),σ=[some (.ref a),some (.int (m:Int)),some (.ref x),some (.ref g),some (.ref bl),some (.ref nl),some (.int (8+((i:Nat):Int))),some (.int n),some (.str kd),some v,some (.str rl),some (.str dw),some (.str one),some (.str oth),some (.ref d)]∧HouseT M2 cH cK H' S2∧Same (cut M' H16) (cut M2 H')∧NoTup M2 H'∧S2.x=x∧S2.m=m∧S2.room=upto (2^m)∧S2.ls.length≤1+(i+1)∧S2.ts.length≤i+1∧((dw≠""∧nms S2.ts=nms S'.ts)∨(dw=""∧nms S2.ts=aft (nms S'.ts) D))) ?_ (fun next=>?_)
 rotate_left
 ·refine⟨_,rfl,_,rfl,M',S',D,d,by rw[ex];rfl,d16,hT16,hDok,by omega,by omega,fun y H' hy s'=>?_,fun hf M2 H' S2 go=>?_⟩
  ·have e:=due_refd hgs hbn hDin hDf hy
   rw[hdw] at e
   refine⟨_,rfl,rfl,_,rfl,iteNS (by rw[e]) ?_⟩
   exact next _ _ ⟨M',S',rfl,hT16.keep s',cut_mono s',nt16.keep s' hT16.fr,ex,em,er,by omega,by omega,.inl ⟨by rw[e];exact word_ne y hy.lt,rfl⟩⟩
  ·have e:=due_fine hgs hbn hDin hDf hf
   rw[hdw] at e
   refine⟨_,rfl,rfl,_,rfl,iteNS (by rw[e]) ?_⟩
   exact next _ _ ⟨M2,S2,rfl,go.h,go.s,go.nt nt16,go.x.trans ex,go.m.trans em,go.room.trans er,by rw[go.ls];omega,Nat.le_trans go.ts (by omega),.inr ⟨e,go.nm⟩⟩
 rintro σ H17 ⟨M2,S2,rfl,hT17,c17,nt17,ex2,em2,er2,lls2,lts2,hdn⟩
 have nl17:=c17 _ _ nl16
 have nl17':=cut_same _ _ nl17
 have d17:H17 d=some (.tup D.tup):=cut_same _ _ (c17 _ _ (cut_of d16 (fun z=>nt16 d z _ d16)))
 have off2:∀{b:Addr} {H':Hp},Same H17 H'→H' b=none→b∉M2:=fun s' e z=>hT17.fr _ z (s'.free e)
 refine seq_mid (fun σ H'=>∃(nl2:Addr),σ=[some (.ref a),some (.int (m:Int)),some (.ref x),some (.ref g),some (.ref bl),some (.ref nl2),some (.int (8+((i:Nat):Int))),some (.int n),some (.str kd),some v,some (.str rl),some (.str dw),some (.str one),some (.str oth),some (.ref d)]∧Same H17 H'∧cut M2 H' nl2=some (.lst ((nms S2.ts).map V.str))) ?_ (fun next=>?_)
 rotate_left
 ·rcases hdn with⟨hne,enm⟩|⟨he,enm⟩
  ·have hne':¬V.str dw=V.str "":=fun z=>hne (by injection z)
   refine⟨_,rfl,rfl,_,rfl,iteN hne' (iteF ⟨_,rfl,rfl,_,rfl,iteN hne' ?_⟩)⟩
   exact next _ _ ⟨nl,rfl,Same.refl _,by rw[enm];exact nl17⟩
  ·have he':V.str dw=V.str "":=by rw[he]
   refine⟨_,rfl,rfl,_,rfl,iteY he' ?_⟩
   rcases hD with rfl | rfl | rfl
   ·refine⟨_,rfl,d,_,_,_,rfl,rfl,SqT.of d17,atI_nat (j:=0) rfl,rfl,_,rfl,iteF ?_⟩
    refine⟨_,rfl,rfl,_,rfl,iteY he' ?_⟩
    refine⟨_,rfl,_,rfl,d,_,_,_,rfl,rfl,SqT.of d17,atI_nat (j:=0) rfl,rfl,_,rfl,iteT ?_⟩
    refine⟨_,rfl,le1,fun l1 hl1=>?_⟩
    have s18:=same_new hl1 (.lst [.str one])
    have l18:upd H17 l1 (.lst [.str one]) l1=some (.lst [.str one]):=upd_same
    generalize upd H17 l1 _=H18 at *
    refine⟨nl,l1,_,_,rfl,rfl,s18 _ _ nl17',l18,(by rw[List.length_map];exact Nat.le_trans (show (nms S'.ts).length+1≤1000 by omega) (by decide)),fun n2 hn2=>?_⟩
    refine next _ _ ⟨n2,rfl,s18.trans (same_new hn2 _),cut_of ?_ (off2 s18 hn2)⟩
    rw[upd_same,enm]
    show _=some (HO.lst ((nms S'.ts++[one]).map V.str))
    rw[List.map_append];rfl
   ·refine⟨_,rfl,d,_,_,_,rfl,rfl,SqT.of d17,atI_nat (j:=0) rfl,rfl,_,rfl,iteF ?_⟩
    refine⟨_,rfl,rfl,_,rfl,iteY he' ?_⟩
    refine⟨_,rfl,_,rfl,d,_,_,_,rfl,rfl,SqT.of d17,atI_nat (j:=0) rfl,rfl,_,rfl,iteF ?_⟩
    refine⟨_,rfl,le1,fun l1 hl1=>?_⟩
    have s18:=same_new hl1 (.lst [.str oth])
    have l18:upd H17 l1 (.lst [.str oth]) l1=some (.lst [.str oth]):=upd_same
    generalize upd H17 l1 _=H18 at *
    refine⟨nl,l1,_,_,rfl,rfl,s18 _ _ nl17',l18,(by rw[List.length_map];exact Nat.le_trans (show (nms S'.ts).length+1≤1000 by omega) (by decide)),fun n2 hn2=>?_⟩
    refine next _ _ ⟨n2,rfl,s18.trans (same_new hn2 _),cut_of ?_ (off2 s18 hn2)⟩
    rw[upd_same,enm]
    show _=some (HO.lst ((nms S'.ts++[oth]).map V.str))
    rw[List.map_append];rfl
   ·refine⟨_,rfl,d,_,_,_,rfl,rfl,SqT.of d17,atI_nat (j:=0) rfl,rfl,_,rfl,iteT ?_⟩
    refine⟨_,rfl,nl,rfl,⟨_,SqL.of nl17'⟩,fun cc acc hacc=>comp_filterS (K:=K) (p:=fun z=>!decide (V.str z=V.str one)) (SqL.of nl17') hacc lzs (fun k hk H2 s2 R hR=>?_) (fun v0 H18 s18 ha=>?_) _⟩
    ·exact⟨_,rfl,_,rfl,rfl,_,rfl,hR H2 (Same.refl _)⟩
    ·refine comp_go rfl (next _ _ ⟨acc,rfl,s18,cut_of ?_ (off2 (Same.refl _) hacc)⟩)
     rw[ha,enm]
     show _=some (HO.lst (((nms S'.ts).filter fun z=>decide (z≠one)).map V.str))
     have ef:(fun z:Str=>!decide (V.str z=V.str one))=fun z=>decide (z≠one):=funext fun z=>by rw[dec_strs,decide_not]
     rw[ef]
 rintro σ H18 ⟨nl2,rfl,s18,hn18⟩
 have hT18:=hT17.keep s18
 have ob18:=hT18.h.ob
 rw[ex2] at ob18
 refine⟨_,rfl,x,_,_,rfl,ob18,ho_names,M2,S2,by rw[ex2];rfl,hT18,fun l H19 s19 l00 hl=>?_⟩
 refine⟨_,rfl,l,nl2,_,rfl,hl,SqL.of (s19 _ _ (cut_same _ _ hn18)),by unfold nms;rw[List.length_map];exact hT18.tl,_,rfl,iteF ?_⟩
 have hT19:=hT18.keep s19
 have ob19:=hT19.h.ob
 rw[ex2] at ob19
 refine⟨_,rfl,x,_,_,rfl,ob19,ho_names,M2,S2,by rw[ex2];rfl,hT19,fun l2 H20 s20 l20 hl2=>?_⟩
 refine⟨.inl ⟨rfl,_,SqL.of hl2⟩,l2,_,_,rfl,rfl,hl2,small1000 (by rw[List.length_map];unfold nms;rw[List.length_map];have:=hT18.tl;omega),?_⟩
 have s21:Same H18 (upd H20 l2 (.lst ((nms S2.ts).map V.str++[.str "zz"]))):=s19.trans (same_put s20 l20 _)
 exact⟨_,_,_,_,_,_,_,_,_,nl2,M2,S2,rfl,hT18.keep s21,((ci.trans (cut_mono w16)).trans c17).trans (cut_mono (s18.trans s21)),nt17.keep (s18.trans s21) hT17.fr,ex2,em2,er2,by omega,by omega,cut_mono s21 _ _ hn18⟩
end
set_option maxHeartbeats 8000000 in
theorem all_mk {l:PySem.W.OpenLaw} {w:World} {K:PySem.W.Frag} {h:Heap} {mg:Str→Option Value} {fa f1 f2 f3 f4 f5 f6 f7 f8 f9 f10 f11 f12 f13 f14 f15 f16 f17 f18 f19 f20 f21 f22 f23 f24 f25 f26 f27 f28 f29 f30 f31 f32 f33 f34 f35 f36 f37 f38 f39:Addr} (X:K.In h) (G:h.Ns mainGlobals mg) (hfa:mg "law"=some (.ref fa))
  {od1 an1 od2 an2 od3 an3 od4 an4 od5 an5 od6 an6 od7 an7 od8 an8 od9 an9 od10 an10 od11 an11 od12 an12 od13 an13 od14 an14 od15 an15 od16 an16 od17 an17 od18 an18 od19 an19 od20 an20 od21 an21 od22 an22 od23 an23 od24 an24 od25 an25 od26 an26 od27 an27 od28 an28 od29 an29 od30 an30 od31 an31 od32 an32 od33 an33 od34 an34 od35 an35 od36 an36 od37 an37 od38 an38 od39 an39:Option Addr} {sl1 sl2 sl3 sl4 sl5 sl6 sl7 sl8 sl9 sl10 sl11 sl12 sl13 sl14 sl15 sl16 sl17 sl18 sl19 sl20 sl21 sl22 sl23 sl24 sl25 sl26 sl27 sl28 sl29 sl30 sl31 sl32 sl33 sl34 sl35 sl36 sl37 sl38 sl39:Array (Option Value)} {oc1 kV1 dc1 pm1 cd1 ct1 oc2 kV2 dc2 pm2 cd2 ct2 oc3 kV3 dc3 pm3 cd3 ct3 oc4 kV4 dc4 pm4 cd4 ct4 oc5 kV5 dc5 pm5 cd5 ct5 oc6 kV6 dc6 pm6 cd6 ct6 oc7 kV7 dc7 pm7 cd7 ct7 oc8 kV8 dc8 pm8 cd8 ct8 oc9 kV9 dc9 pm9 cd9 ct9 oc10 kV10 dc10 pm10 cd10 ct10 oc11 kV11 dc11 pm11 cd11 ct11 oc12 kV12 dc12 pm12 cd12 ct12 oc13 kV13 dc13 pm13 cd13 ct13 oc14 kV14 dc14 pm14 cd14 ct14 oc15 kV15 dc15 pm15 cd15 ct15 oc16 kV16 dc16 pm16 cd16 ct16 oc17 kV17 dc17 pm17 cd17 ct17 oc18 kV18 dc18 pm18 cd18 ct18 oc19 kV19 dc19 pm19 cd19 ct19 oc20 kV20 dc20 pm20 cd20 ct20 oc21 kV21 dc21 pm21 cd21 ct21 oc22 kV22 dc22 pm22 cd22 ct22 oc23 kV23 dc23 pm23 cd23 ct23 oc24 kV24 dc24 pm24 cd24 ct24 oc25 kV25 dc25 pm25 cd25 ct25 oc26 kV26 dc26 pm26 cd26 ct26 oc27 kV27 dc27 pm27 cd27 ct27 oc28 kV28 dc28 pm28 cd28 ct28 oc29 kV29 dc29 pm29 cd29 ct29 oc30 kV30 dc30 pm30 cd30 ct30 oc31 kV31 dc31 pm31 cd31 ct31 oc32 kV32 dc32 pm32 cd32 ct32 oc33 kV33 dc33 pm33 cd33 ct33 oc34 kV34 dc34 pm34 cd34 ct34 oc35 kV35 dc35 pm35 cd35 ct35 oc36 kV36 dc36 pm36 cd36 ct36 oc37 kV37 dc37 pm37 cd37 ct37 oc38 kV38 dc38 pm38 cd38 ct38 oc39 kV39 dc39 pm39 cd39 ct39:Value} {cT NT:Addr} {xTnm xTq:Str} {xTbs:List Value} {xThd:Bool} {xTsn:List Str} {xTsub:List Value} {xTab:Bool} {xTcol:Option Bool} {xTdd:Option Addr} {xTa xTb xTc xTd xTe xTf:Option Value} {xToc:Value} {xTod:Option Addr} {xTes:Array DictEntry} {xTep:Nat} {xTsl:Array (Option Value)} {XDT:ClassData} {cBN NcBN:Addr} {xnm0 xq0:Str} {xbs0:List Value} {xsn0:List Str} {xsub0:List Value} {xab0:Bool} {xcol0:Option Bool} {xdd0:Option Addr} {xka0 xkb0 xkc0 xkd0 xkf0:Option Value} {xoc0:Value} {xod0:Option Addr} {xes0:Array DictEntry} {xep0:Nat} {xsl0:Array (Option Value)} {XD0:ClassData} {cNT NcNT:Addr} {xnm1 xq1:Str} {xbs1:List Value} {xsn1:List Str} {xsub1:List Value} {xab1:Bool} {xcol1:Option Bool} {xdd1:Option Addr} {xka1 xkb1 xkc1 xkd1 xkf1:Option Value} {xoc1:Value} {xod1:Option Addr} {xes1:Array DictEntry} {xep1:Nat} {xsl1:Array (Option Value)} {XD1:ClassData} {cNK NcNK:Addr} {xnm2 xq2:Str} {xbs2:List Value} {xsn2:List Str} {xsub2:List Value} {xab2:Bool} {xcol2:Option Bool} {xdd2:Option Addr} {xka2 xkb2 xkc2 xkd2 xkf2:Option Value} {xoc2:Value} {xod2:Option Addr} {xes2:Array DictEntry} {xep2:Nat} {xsl2:Array (Option Value)} {XD2:ClassData} {cS NcS:Addr} {xnm3 xq3:Str} {xbs3:List Value} {xsn3:List Str} {xsub3:List Value} {xab3:Bool} {xcol3:Option Bool} {xdd3:Option Addr} {xka3 xkb3 xkc3 xkd3 xkf3:Option Value} {xoc3:Value} {xod3:Option Addr} {xes3:Array DictEntry} {xep3:Nat} {xsl3:Array (Option Value)} {XD3:ClassData} {cB NcB:Addr} {xnm4 xq4:Str} {xbs4:List Value} {xsn4:List Str} {xsub4:List Value} {xab4:Bool} {xcol4:Option Bool} {xdd4:Option Addr} {xka4 xkb4 xkc4 xkd4 xkf4:Option Value} {xoc4:Value} {xod4:Option Addr} {xes4:Array DictEntry} {xep4:Nat} {xsl4:Array (Option Value)} {XD4:ClassData} {cN NcN:Addr} {xnm5 xq5:Str} {xbs5:List Value} {xsn5:List Str} {xsub5:List Value} {xab5:Bool} {xcol5:Option Bool} {xdd5:Option Addr} {xka5 xkb5 xkc5 xkd5 xkf5:Option Value} {xoc5:Value} {xod5:Option Addr} {xes5:Array DictEntry} {xep5:Nat} {xsl5:Array (Option Value)} {XD5:ClassData} {cW NcW:Addr} {xnm6 xq6:Str} {xbs6:List Value} {xsn6:List Str} {xsub6:List Value} {xab6:Bool} {xcol6:Option Bool} {xdd6:Option Addr} {xka6 xkb6 xkc6 xkd6 xkf6:Option Value} {xoc6:Value} {xod6:Option Addr} {xes6:Array DictEntry} {xep6:Nat} {xsl6:Array (Option Value)} {XD6:ClassData} {cK:Addr} {cH:Addr} {dJ:Addr} {tL t1 t2 t3 t4 t5 t6 t7 t8:Tok} {ep:Nat} {tNS tLN:Tok}
  (a1:PySem.W.nsIn K mainGlobals "_law_num"=some (some (.ref f1))) (l1:K.lookup f1=some ⟨oc1,od1,.func (PySem.W.fnOf "_law_num" "_law_num" (defArgs sNum) (defBody sNum) (defScope sNum) .none kV1 dc1 pm1 an1 cd1 ct1),sl1⟩) (c1:PySem.W.codeIn K cd1 "_law_num"=true) (k1:PySem.W.keepIn K (.ref f1)=true)
  (a2:PySem.W.nsIn K mainGlobals "_law_last"=some (some (.ref f2))) (l2:K.lookup f2=some ⟨oc2,od2,.func (PySem.W.fnOf "_law_last" "_law_last" (defArgs sLlast) (defBody sLlast) (defScope sLlast) .none kV2 dc2 pm2 an2 cd2 ct2),sl2⟩) (c2:PySem.W.codeIn K cd2 "_law_last"=true) (k2:PySem.W.keepIn K (.ref f2)=true)
  (a3:PySem.W.nsIn K mainGlobals "_law_name"=some (some (.ref f3))) (l3:K.lookup f3=some ⟨oc3,od3,.func (PySem.W.fnOf "_law_name" "_law_name" (defArgs sLname) (defBody sLname) (defScope sLname) .none kV3 dc3 pm3 an3 cd3 ct3),sl3⟩) (c3:PySem.W.codeIn K cd3 "_law_name"=true) (k3:PySem.W.keepIn K (.ref f3)=true)
  (a4:PySem.W.nsIn K mainGlobals "_law_names"=some (some (.ref f4))) (l4:K.lookup f4=some ⟨oc4,od4,.func (PySem.W.fnOf "_law_names" "_law_names" (defArgs sLnames) (defBody sLnames) (defScope sLnames) .none kV4 dc4 pm4 an4 cd4 ct4),sl4⟩) (c4:PySem.W.codeIn K cd4 "_law_names"=true) (k4:PySem.W.keepIn K (.ref f4)=true)
  (a5:PySem.W.nsIn K mainGlobals "_law_bad_name"=some (some (.ref f5))) (l5:K.lookup f5=some ⟨oc5,od5,.func (PySem.W.fnOf "_law_bad_name" "_law_bad_name" (defArgs sLbad) (defBody sLbad) (defScope sLbad) .none kV5 dc5 pm5 an5 cd5 ct5),sl5⟩) (c5:PySem.W.codeIn K cd5 "_law_bad_name"=true) (k5:PySem.W.keepIn K (.ref f5)=true)
  (a6:PySem.W.nsIn K mainGlobals "_law_footing"=some (some (.ref f6))) (l6:K.lookup f6=some ⟨oc6,od6,.func (PySem.W.fnOf "_law_footing" "_law_footing" (defArgs sLfoot) (defBody sLfoot) (defScope sLfoot) .none kV6 dc6 pm6 an6 cd6 ct6),sl6⟩) (c6:PySem.W.codeIn K cd6 "_law_footing"=true) (k6:PySem.W.keepIn K (.ref f6)=true)
  (a7:PySem.W.nsIn K mainGlobals "_law_due"=some (some (.ref f7))) (l7:K.lookup f7=some ⟨oc7,od7,.func (PySem.W.fnOf "_law_due" "_law_due" (defArgs sLdue) (defBody sLdue) (defScope sLdue) .none kV7 dc7 pm7 an7 cd7 ct7),sl7⟩) (c7:PySem.W.codeIn K cd7 "_law_due"=true) (k7:PySem.W.keepIn K (.ref f7)=true)
  (a8:PySem.W.findIn K (.ref cH) "refuse_new_name"=some (some (.ref f8))) (i8:PySem.W.isFn K (.ref f8)=true) (l8:K.lookup f8=some ⟨oc8,od8,.func (PySem.W.fnOf "refuse_new_name" "House.refuse_new_name" (defArgs sHNewName) (defBody sHNewName) (defScope sHNewName) .none kV8 dc8 pm8 an8 cd8 ct8),sl8⟩) (c8:PySem.W.codeIn K cd8 "House.refuse_new_name"=true) (k8:PySem.W.keepIn K (.ref f8)=true)
  (a9:PySem.W.nsIn K mainGlobals "parts_of"=some (some (.ref f9))) (l9:K.lookup f9=some ⟨oc9,od9,.func (PySem.W.fnOf "parts_of" "parts_of" (defArgs sParts) (defBody sParts) (defScope sParts) .none kV9 dc9 pm9 an9 cd9 ct9),sl9⟩) (c9:PySem.W.codeIn K cd9 "parts_of"=true) (k9:PySem.W.keepIn K (.ref f9)=true)
  (a10:PySem.W.nsIn K mainGlobals "letters"=some (some (.ref f10))) (l10:K.lookup f10=some ⟨oc10,od10,.func (PySem.W.fnOf "letters" "letters" (defArgs sLetters) (defBody sLetters) (defScope sLetters) .none kV10 dc10 pm10 an10 cd10 ct10),sl10⟩) (c10:PySem.W.codeIn K cd10 "letters"=true) (k10:PySem.W.keepIn K (.ref f10)=true)
  (a11:PySem.W.nsIn K mainGlobals "refuse_strange"=some (some (.ref f11))) (l11:K.lookup f11=some ⟨oc11,od11,.func (PySem.W.fnOf "refuse_strange" "refuse_strange" (defArgs sRefuseS) (defBody sRefuseS) (defScope sRefuseS) .none kV11 dc11 pm11 an11 cd11 ct11),sl11⟩) (c11:PySem.W.codeIn K cd11 "refuse_strange"=true) (k11:PySem.W.keepIn K (.ref f11)=true)
  (a12:PySem.W.nsIn K mainGlobals "steps_of"=some (some (.ref f12))) (l12:K.lookup f12=some ⟨oc12,od12,.func (PySem.W.fnOf "steps_of" "steps_of" (defArgs sSteps) (defBody sSteps) (defScope sSteps) .none kV12 dc12 pm12 an12 cd12 ct12),sl12⟩) (c12:PySem.W.codeIn K cd12 "steps_of"=true) (k12:PySem.W.keepIn K (.ref f12)=true)
  (a13:PySem.W.nsIn K mainGlobals "letter_holds"=some (some (.ref f13))) (l13:K.lookup f13=some ⟨oc13,od13,.func (PySem.W.fnOf "letter_holds" "letter_holds" (defArgs sHolds) (defBody sHolds) (defScope sHolds) .none kV13 dc13 pm13 an13 cd13 ct13),sl13⟩) (c13:PySem.W.codeIn K cd13 "letter_holds"=true) (k13:PySem.W.keepIn K (.ref f13)=true)
  (a14:PySem.W.nsIn K mainGlobals "joined"=some (some (.ref f14))) (l14:K.lookup f14=some ⟨oc14,od14,.func (PySem.W.fnOf "joined" "joined" (defArgs sJoined) (defBody sJoined) (defScope sJoined) .none kV14 dc14 pm14 an14 cd14 ct14),sl14⟩) (c14:PySem.W.codeIn K cd14 "joined"=true) (k14:PySem.W.keepIn K (.ref f14)=true)
  (a15:PySem.W.nsIn K mainGlobals "true_by"=some (some (.ref f15))) (l15:K.lookup f15=some ⟨oc15,od15,.func (PySem.W.fnOf "true_by" "true_by" (defArgs sTrueBy) (defBody sTrueBy) (defScope sTrueBy) .none kV15 dc15 pm15 an15 cd15 ct15),sl15⟩) (c15:PySem.W.codeIn K cd15 "true_by"=true) (k15:PySem.W.keepIn K (.ref f15)=true)
  (a16:PySem.W.nsIn K mainGlobals "worlds_of"=some (some (.ref f16))) (l16:K.lookup f16=some ⟨oc16,od16,.func (PySem.W.fnOf "worlds_of" "worlds_of" (defArgs sWorldsOf) (defBody sWorldsOf) (defScope sWorldsOf) .none kV16 dc16 pm16 an16 cd16 ct16),sl16⟩) (c16:PySem.W.codeIn K cd16 "worlds_of"=true) (k16:PySem.W.keepIn K (.ref f16)=true)
  (a17:PySem.W.nsIn K mainGlobals "in_first_only"=some (some (.ref f17))) (l17:K.lookup f17=some ⟨oc17,od17,.func (PySem.W.fnOf "in_first_only" "in_first_only" (defArgs sFirst) (defBody sFirst) (defScope sFirst) .none kV17 dc17 pm17 an17 cd17 ct17),sl17⟩) (c17:PySem.W.codeIn K cd17 "in_first_only"=true) (k17:PySem.W.keepIn K (.ref f17)=true)
  (a18:PySem.W.nsIn K mainGlobals "sides_of"=some (some (.ref f18))) (l18:K.lookup f18=some ⟨oc18,od18,.func (PySem.W.fnOf "sides_of" "sides_of" (defArgs sSidesOf) (defBody sSidesOf) (defScope sSidesOf) .none kV18 dc18 pm18 an18 cd18 ct18),sl18⟩) (c18:PySem.W.codeIn K cd18 "sides_of"=true) (k18:PySem.W.keepIn K (.ref f18)=true)
  (a19:PySem.W.nsIn K mainGlobals "in_any"=some (some (.ref f19))) (l19:K.lookup f19=some ⟨oc19,od19,.func (PySem.W.fnOf "in_any" "in_any" (defArgs sAny) (defBody sAny) (defScope sAny) .none kV19 dc19 pm19 an19 cd19 ct19),sl19⟩) (c19:PySem.W.codeIn K cd19 "in_any"=true) (k19:PySem.W.keepIn K (.ref f19)=true)
  (a20:PySem.W.nsIn K mainGlobals "base_of"=some (some (.ref f20))) (l20:K.lookup f20=some ⟨oc20,od20,.func (PySem.W.fnOf "base_of" "base_of" (defArgs sBaseOf) (defBody sBaseOf) (defScope sBaseOf) .none kV20 dc20 pm20 an20 cd20 ct20),sl20⟩) (c20:PySem.W.codeIn K cd20 "base_of"=true) (k20:PySem.W.keepIn K (.ref f20)=true)
  (a21:PySem.W.findIn K (.ref cK) "__init__"=some (some (.ref f21))) (i21:PySem.W.isFn K (.ref f21)=true) (l21:K.lookup f21=some ⟨oc21,od21,.func (PySem.W.fnOf "__init__" "Talk.__init__" (defArgs sTInit) (defBody sTInit) (defScope sTInit) .none kV21 dc21 pm21 an21 cd21 ct21),sl21⟩) (c21:PySem.W.codeIn K cd21 "Talk.__init__"=true) (k21:PySem.W.keepIn K (.ref f21)=true)
  (a22:PySem.W.nsIn K mainGlobals "shown"=some (some (.ref f22))) (l22:K.lookup f22=some ⟨oc22,od22,.func (PySem.W.fnOf "shown" "shown" (defArgs sShown) (defBody sShown) (defScope sShown) .none kV22 dc22 pm22 an22 cd22 ct22),sl22⟩) (c22:PySem.W.codeIn K cd22 "shown"=true) (k22:PySem.W.keepIn K (.ref f22)=true)
  (a23:PySem.W.nsIn K mainGlobals "line_of"=some (some (.ref f23))) (l23:K.lookup f23=some ⟨oc23,od23,.func (PySem.W.fnOf "line_of" "line_of" (defArgs sLineOf) (defBody sLineOf) (defScope sLineOf) .none kV23 dc23 pm23 an23 cd23 ct23),sl23⟩) (c23:PySem.W.codeIn K cd23 "line_of"=true) (k23:PySem.W.keepIn K (.ref f23)=true)
  (a24:PySem.W.findIn K (.ref cH) "write"=some (some (.ref f24))) (i24:PySem.W.isFn K (.ref f24)=true) (l24:K.lookup f24=some ⟨oc24,od24,.func (PySem.W.fnOf "write" "House.write" (defArgs sHWrite) (defBody sHWrite) (defScope sHWrite) .none kV24 dc24 pm24 an24 cd24 ct24),sl24⟩) (c24:PySem.W.codeIn K cd24 "House.write"=true) (k24:PySem.W.keepIn K (.ref f24)=true)
  (a25:PySem.W.findIn K (.ref cH) "begin"=some (some (.ref f25))) (i25:PySem.W.isFn K (.ref f25)=true) (l25:K.lookup f25=some ⟨oc25,od25,.func (PySem.W.fnOf "begin" "House.begin" (defArgs sHBegin) (defBody sHBegin) (defScope sHBegin) .none kV25 dc25 pm25 an25 cd25 ct25),sl25⟩) (c25:PySem.W.codeIn K cd25 "House.begin"=true) (k25:PySem.W.keepIn K (.ref f25)=true)
  (a26:PySem.W.findIn K (.ref cH) "refuse_no_talk"=some (some (.ref f26))) (i26:PySem.W.isFn K (.ref f26)=true) (l26:K.lookup f26=some ⟨oc26,od26,.func (PySem.W.fnOf "refuse_no_talk" "House.refuse_no_talk" (defArgs sHNoTalk) (defBody sHNoTalk) (defScope sHNoTalk) .none kV26 dc26 pm26 an26 cd26 ct26),sl26⟩) (c26:PySem.W.codeIn K cd26 "House.refuse_no_talk"=true) (k26:PySem.W.keepIn K (.ref f26)=true)
  (a27:PySem.W.findIn K (.ref cH) "talk_of"=some (some (.ref f27))) (i27:PySem.W.isFn K (.ref f27)=true) (l27:K.lookup f27=some ⟨oc27,od27,.func (PySem.W.fnOf "talk_of" "House.talk_of" (defArgs sHTalkOf) (defBody sHTalkOf) (defScope sHTalkOf) .none kV27 dc27 pm27 an27 cd27 ct27),sl27⟩) (c27:PySem.W.codeIn K cd27 "House.talk_of"=true) (k27:PySem.W.keepIn K (.ref f27)=true)
  (a28:PySem.W.findIn K (.ref cK) "fork"=some (some (.ref f28))) (i28:PySem.W.isFn K (.ref f28)=true) (l28:K.lookup f28=some ⟨oc28,od28,.func (PySem.W.fnOf "fork" "Talk.fork" (defArgs sTFork) (defBody sTFork) (defScope sTFork) .none kV28 dc28 pm28 an28 cd28 ct28),sl28⟩) (c28:PySem.W.codeIn K cd28 "Talk.fork"=true) (k28:PySem.W.keepIn K (.ref f28)=true)
  (a29:PySem.W.findIn K (.ref cH) "fork"=some (some (.ref f29))) (i29:PySem.W.isFn K (.ref f29)=true) (l29:K.lookup f29=some ⟨oc29,od29,.func (PySem.W.fnOf "fork" "House.fork" (defArgs sHFork) (defBody sHFork) (defScope sHFork) .none kV29 dc29 pm29 an29 cd29 ct29),sl29⟩) (c29:PySem.W.codeIn K cd29 "House.fork"=true) (k29:PySem.W.keepIn K (.ref f29)=true)
  (a30:PySem.W.findIn K (.ref cH) "drop"=some (some (.ref f30))) (i30:PySem.W.isFn K (.ref f30)=true) (l30:K.lookup f30=some ⟨oc30,od30,.func (PySem.W.fnOf "drop" "House.drop" (defArgs sHDrop) (defBody sHDrop) (defScope sHDrop) .none kV30 dc30 pm30 an30 cd30 ct30),sl30⟩) (c30:PySem.W.codeIn K cd30 "House.drop"=true) (k30:PySem.W.keepIn K (.ref f30)=true)
  (a31:PySem.W.nsIn K mainGlobals "_law_called"=some (some (.ref f31))) (l31:K.lookup f31=some ⟨oc31,od31,.func (PySem.W.fnOf "_law_called" "_law_called" (defArgs sLcalled) (defBody sLcalled) (defScope sLcalled) .none kV31 dc31 pm31 an31 cd31 ct31),sl31⟩) (c31:PySem.W.codeIn K cd31 "_law_called"=true) (k31:PySem.W.keepIn K (.ref f31)=true)
  (a32:PySem.W.nsIn K mainGlobals "_law_word"=some (some (.ref f32))) (l32:K.lookup f32=some ⟨oc32,od32,.func (PySem.W.fnOf "_law_word" "_law_word" (defArgs sLword) (defBody sLword) (defScope sLword) .none kV32 dc32 pm32 an32 cd32 ct32),sl32⟩) (c32:PySem.W.codeIn K cd32 "_law_word"=true) (k32:PySem.W.keepIn K (.ref f32)=true)
  (a33:PySem.W.nsIn K mainGlobals "_law_says"=some (some (.ref f33))) (l33:K.lookup f33=some ⟨oc33,od33,.func (PySem.W.fnOf "_law_says" "_law_says" (defArgs sSays) (defBody sSays) (defScope sSays) .none kV33 dc33 pm33 an33 cd33 ct33),sl33⟩) (c33:PySem.W.codeIn K cd33 "_law_says"=true) (k33:PySem.W.keepIn K (.ref f33)=true)
  (a34:PySem.W.nsIn K mainGlobals "_law_texts_are"=some (some (.ref f34))) (l34:K.lookup f34=some ⟨oc34,od34,.func (PySem.W.fnOf "_law_texts_are" "_law_texts_are" (defArgs sLtexts) (defBody sLtexts) (defScope sLtexts) .none kV34 dc34 pm34 an34 cd34 ct34),sl34⟩) (c34:PySem.W.codeIn K cd34 "_law_texts_are"=true) (k34:PySem.W.keepIn K (.ref f34)=true)
  (a35:PySem.W.nsIn K mainGlobals "all_worlds"=some (some (.ref f35))) (l35:K.lookup f35=some ⟨oc35,od35,.func (PySem.W.fnOf "all_worlds" "all_worlds" (defArgs sAllW) (defBody sAllW) (defScope sAllW) .none kV35 dc35 pm35 an35 cd35 ct35),sl35⟩) (c35:PySem.W.codeIn K cd35 "all_worlds"=true) (k35:PySem.W.keepIn K (.ref f35)=true)
  (a36:PySem.W.nsIn K mainGlobals "room_of"=some (some (.ref f36))) (l36:K.lookup f36=some ⟨oc36,od36,.func (PySem.W.fnOf "room_of" "room_of" (defArgs sRoomOf) (defBody sRoomOf) (defScope sRoomOf) .none kV36 dc36 pm36 an36 cd36 ct36),sl36⟩) (c36:PySem.W.codeIn K cd36 "room_of"=true) (k36:PySem.W.keepIn K (.ref f36)=true)
  (a37:PySem.W.findIn K (.ref cH) "__init__"=some (some (.ref f37))) (i37:PySem.W.isFn K (.ref f37)=true) (l37:K.lookup f37=some ⟨oc37,od37,.func (PySem.W.fnOf "__init__" "House.__init__" (defArgs sHInit) (defBody sHInit) (defScope sHInit) .none kV37 dc37 pm37 an37 cd37 ct37),sl37⟩) (c37:PySem.W.codeIn K cd37 "House.__init__"=true) (k37:PySem.W.keepIn K (.ref f37)=true)
  (a38:PySem.W.findIn K (.ref cH) "names"=some (some (.ref f38))) (i38:PySem.W.isFn K (.ref f38)=true) (l38:K.lookup f38=some ⟨oc38,od38,.func (PySem.W.fnOf "names" "House.names" (defArgs sHNames) (defBody sHNames) (defScope sHNames) .none kV38 dc38 pm38 an38 cd38 ct38),sl38⟩) (c38:PySem.W.codeIn K cd38 "House.names"=true) (k38:PySem.W.keepIn K (.ref f38)=true)
  (a39:PySem.W.nsIn K mainGlobals "law"=some (some (.ref f39))) (l39:K.lookup f39=some ⟨oc39,od39,.func (PySem.W.fnOf "law" "law" (defArgs sLaw) (defBody sLaw) (defScope sLaw) .none kV39 dc39 pm39 an39 cd39 ct39),sl39⟩) (c39:PySem.W.codeIn K cd39 "law"=true) (k39:PySem.W.keepIn K (.ref f39)=true)
  (yabs:PySem.W.nsIn K mainGlobals "abs"=some none)
  (ylen:PySem.W.nsIn K mainGlobals "len"=some none)
  (yrange:PySem.W.nsIn K mainGlobals "range"=some none)
  (yisinstance:PySem.W.nsIn K mainGlobals "isinstance"=some none)
  (yint:PySem.W.nsIn K mainGlobals "int"=some none)
  (ybool:PySem.W.nsIn K mainGlobals "bool"=some none)
  (ystr:PySem.W.nsIn K mainGlobals "str"=some none)
  (ytuple:PySem.W.nsIn K mainGlobals "tuple"=some none)
  (ylist:PySem.W.nsIn K mainGlobals "list"=some none)
  (yset:PySem.W.nsIn K mainGlobals "set"=some none)
  (ysorted:PySem.W.nsIn K mainGlobals "sorted"=some none)
  (yany:PySem.W.nsIn K mainGlobals "any"=some none)
  (yall:PySem.W.nsIn K mainGlobals "all"=some none)
  (yValueError:PySem.W.nsIn K mainGlobals "ValueError"=some none)
  (yenumerate:PySem.W.nsIn K mainGlobals "enumerate"=some none)
  (xTn:PySem.W.nsIn K mainGlobals "TalkError"=some (some (.ref cT)))
  (xTl:K.lookup cT=some ⟨.type "type",xTdd,.cls { name:=xTnm,bases:=xTbs,mro:=.ref cT::bmV,ns:=NT,qualname:=xTq,hasDict:=xThd,slotNames:=xTsn,subclasses:=xTsub,abstract:=xTab,collection:=xTcol,hasDel:=false },#[xTa,xTb,xTc,xTd,xTe,xTf]⟩)
  (xTm:K.lookup NT=some ⟨xToc,xTod,.dict xTes xTep,xTsl⟩)
  (nTs:(xTes.all (fun e=>match e.key with | .str _ _=>true | _=>false))=true)
  (xTi:PySem.W.nsIn K NT "__init__"=some none)
  (xTc1:PySem.W.clsIn K cT=some XDT)
  (xTt:PySem.W.typeIn K (.ref cT)=some (.type "type"))
  (xTbse:PySem.W.mroIn K cT (.type "BaseException")=some true)
  (nuV:PySem.W.kitMeta "ValueError"=true)
  (xcg:PySem.W.specialIn K (.builtin "object.__class__") "__get__"=some (some (.builtin "getset_descriptor.__get__")))
  (xct:PySem.W.takesIn K (.builtin "object.__class__")=some true)
  (xn0:PySem.W.nsIn K mainGlobals "BadName"=some (some (.ref cBN)))
  (xl0:K.lookup cBN=some (excClassObj xnm0 xq0 cBN NcBN xbs0 (.ref cT::bmV) true xsn0 xsub0 xab0 xcol0 xdd0 xka0 xkb0 xkc0 xkd0 xkf0 "ValueError.__new__"))
  (xm0:K.lookup NcBN=some ⟨xoc0,xod0,.dict xes0 xep0,xsl0⟩)
  (nxs0:(xes0.all (fun e=>match e.key with | .str _ _=>true | _=>false))=true)
  (xi0:PySem.W.nsIn K NcBN "__init__"=some none)
  (xkp0:PySem.W.keepIn K (.ref cBN)=true)
  (xcd0:PySem.W.clsIn K cBN=some XD0)
  (nxm0:XD0.mro= .ref cBN::.ref cT::bmV)
  (nxd0:XD0.hasDict=true)
  (xsa0:PySem.W.findIn K (.ref cBN) "__setattr__"=some (some (.builtin "object.__setattr__")))
  (xga0:PySem.W.findIn K (.ref cBN) "__getattribute__"=some (some (.builtin "BaseException.__getattribute__")))
  (xgn0:PySem.W.findIn K (.ref cBN) "__getattr__"=some none)
  (xca0:PySem.W.findIn K (.ref cBN) "__class__"=some (some (.builtin "object.__class__")))
  (xt0:PySem.W.typeIn K (.ref cBN)=some (.type "type"))
  (xb0:PySem.W.mroIn K cBN (.type "BaseException")=some true)
  (xs0:PySem.W.mroIn K cBN (.ref cBN)=some true)
  (xu0:PySem.W.mroIn K cBN (.ref cT)=some true)
  (xv0:PySem.W.subIn K (.ref cBN) (.type "ValueError")=some true)
  (xn1:PySem.W.nsIn K mainGlobals "NameTaken"=some (some (.ref cNT)))
  (xl1:K.lookup cNT=some (excClassObj xnm1 xq1 cNT NcNT xbs1 (.ref cT::bmV) true xsn1 xsub1 xab1 xcol1 xdd1 xka1 xkb1 xkc1 xkd1 xkf1 "ValueError.__new__"))
  (xm1:K.lookup NcNT=some ⟨xoc1,xod1,.dict xes1 xep1,xsl1⟩)
  (nxs1:(xes1.all (fun e=>match e.key with | .str _ _=>true | _=>false))=true)
  (xi1:PySem.W.nsIn K NcNT "__init__"=some none)
  (xkp1:PySem.W.keepIn K (.ref cNT)=true)
  (xcd1:PySem.W.clsIn K cNT=some XD1)
  (nxm1:XD1.mro= .ref cNT::.ref cT::bmV)
  (nxd1:XD1.hasDict=true)
  (xsa1:PySem.W.findIn K (.ref cNT) "__setattr__"=some (some (.builtin "object.__setattr__")))
  (xga1:PySem.W.findIn K (.ref cNT) "__getattribute__"=some (some (.builtin "BaseException.__getattribute__")))
  (xgn1:PySem.W.findIn K (.ref cNT) "__getattr__"=some none)
  (xca1:PySem.W.findIn K (.ref cNT) "__class__"=some (some (.builtin "object.__class__")))
  (xt1:PySem.W.typeIn K (.ref cNT)=some (.type "type"))
  (xb1:PySem.W.mroIn K cNT (.type "BaseException")=some true)
  (xs1:PySem.W.mroIn K cNT (.ref cNT)=some true)
  (xu1:PySem.W.mroIn K cNT (.ref cT)=some true)
  (xv1:PySem.W.subIn K (.ref cNT) (.type "ValueError")=some true)
  (xn2:PySem.W.nsIn K mainGlobals "NoTalk"=some (some (.ref cNK)))
  (xl2:K.lookup cNK=some (excClassObj xnm2 xq2 cNK NcNK xbs2 (.ref cT::bmV) true xsn2 xsub2 xab2 xcol2 xdd2 xka2 xkb2 xkc2 xkd2 xkf2 "ValueError.__new__"))
  (xm2:K.lookup NcNK=some ⟨xoc2,xod2,.dict xes2 xep2,xsl2⟩)
  (nxs2:(xes2.all (fun e=>match e.key with | .str _ _=>true | _=>false))=true)
  (xi2:PySem.W.nsIn K NcNK "__init__"=some none)
  (xkp2:PySem.W.keepIn K (.ref cNK)=true)
  (xcd2:PySem.W.clsIn K cNK=some XD2)
  (nxm2:XD2.mro= .ref cNK::.ref cT::bmV)
  (nxd2:XD2.hasDict=true)
  (xsa2:PySem.W.findIn K (.ref cNK) "__setattr__"=some (some (.builtin "object.__setattr__")))
  (xga2:PySem.W.findIn K (.ref cNK) "__getattribute__"=some (some (.builtin "BaseException.__getattribute__")))
  (xgn2:PySem.W.findIn K (.ref cNK) "__getattr__"=some none)
  (xca2:PySem.W.findIn K (.ref cNK) "__class__"=some (some (.builtin "object.__class__")))
  (xt2:PySem.W.typeIn K (.ref cNK)=some (.type "type"))
  (xb2:PySem.W.mroIn K cNK (.type "BaseException")=some true)
  (xs2:PySem.W.mroIn K cNK (.ref cNK)=some true)
  (xu2:PySem.W.mroIn K cNK (.ref cT)=some true)
  (xv2:PySem.W.subIn K (.ref cNK) (.type "ValueError")=some true)
  (xn3:PySem.W.nsIn K mainGlobals "StrangeLetter"=some (some (.ref cS)))
  (xl3:K.lookup cS=some (excClassObj xnm3 xq3 cS NcS xbs3 (.ref cT::bmV) true xsn3 xsub3 xab3 xcol3 xdd3 xka3 xkb3 xkc3 xkd3 xkf3 "ValueError.__new__"))
  (xm3:K.lookup NcS=some ⟨xoc3,xod3,.dict xes3 xep3,xsl3⟩)
  (nxs3:(xes3.all (fun e=>match e.key with | .str _ _=>true | _=>false))=true)
  (xi3:PySem.W.nsIn K NcS "__init__"=some none)
  (xkp3:PySem.W.keepIn K (.ref cS)=true)
  (xcd3:PySem.W.clsIn K cS=some XD3)
  (nxm3:XD3.mro= .ref cS::.ref cT::bmV)
  (nxd3:XD3.hasDict=true)
  (xsa3:PySem.W.findIn K (.ref cS) "__setattr__"=some (some (.builtin "object.__setattr__")))
  (xga3:PySem.W.findIn K (.ref cS) "__getattribute__"=some (some (.builtin "BaseException.__getattribute__")))
  (xgn3:PySem.W.findIn K (.ref cS) "__getattr__"=some none)
  (xca3:PySem.W.findIn K (.ref cS) "__class__"=some (some (.builtin "object.__class__")))
  (xt3:PySem.W.typeIn K (.ref cS)=some (.type "type"))
  (xb3:PySem.W.mroIn K cS (.type "BaseException")=some true)
  (xs3:PySem.W.mroIn K cS (.ref cS)=some true)
  (xu3:PySem.W.mroIn K cS (.ref cT)=some true)
  (xv3:PySem.W.subIn K (.ref cS) (.type "ValueError")=some true)
  (xn4:PySem.W.nsIn K mainGlobals "BadWord"=some (some (.ref cB)))
  (xl4:K.lookup cB=some (excClassObj xnm4 xq4 cB NcB xbs4 (.ref cT::bmV) true xsn4 xsub4 xab4 xcol4 xdd4 xka4 xkb4 xkc4 xkd4 xkf4 "ValueError.__new__"))
  (xm4:K.lookup NcB=some ⟨xoc4,xod4,.dict xes4 xep4,xsl4⟩)
  (nxs4:(xes4.all (fun e=>match e.key with | .str _ _=>true | _=>false))=true)
  (xi4:PySem.W.nsIn K NcB "__init__"=some none)
  (xkp4:PySem.W.keepIn K (.ref cB)=true)
  (xcd4:PySem.W.clsIn K cB=some XD4)
  (nxm4:XD4.mro= .ref cB::.ref cT::bmV)
  (nxd4:XD4.hasDict=true)
  (xsa4:PySem.W.findIn K (.ref cB) "__setattr__"=some (some (.builtin "object.__setattr__")))
  (xga4:PySem.W.findIn K (.ref cB) "__getattribute__"=some (some (.builtin "BaseException.__getattribute__")))
  (xgn4:PySem.W.findIn K (.ref cB) "__getattr__"=some none)
  (xca4:PySem.W.findIn K (.ref cB) "__class__"=some (some (.builtin "object.__class__")))
  (xt4:PySem.W.typeIn K (.ref cB)=some (.type "type"))
  (xb4:PySem.W.mroIn K cB (.type "BaseException")=some true)
  (xs4:PySem.W.mroIn K cB (.ref cB)=some true)
  (xu4:PySem.W.mroIn K cB (.ref cT)=some true)
  (xv4:PySem.W.subIn K (.ref cB) (.type "ValueError")=some true)
  (xn5:PySem.W.nsIn K mainGlobals "NoStanding"=some (some (.ref cN)))
  (xl5:K.lookup cN=some (excClassObj xnm5 xq5 cN NcN xbs5 (.ref cT::bmV) true xsn5 xsub5 xab5 xcol5 xdd5 xka5 xkb5 xkc5 xkd5 xkf5 "ValueError.__new__"))
  (xm5:K.lookup NcN=some ⟨xoc5,xod5,.dict xes5 xep5,xsl5⟩)
  (nxs5:(xes5.all (fun e=>match e.key with | .str _ _=>true | _=>false))=true)
  (xi5:PySem.W.nsIn K NcN "__init__"=some none)
  (xkp5:PySem.W.keepIn K (.ref cN)=true)
  (xcd5:PySem.W.clsIn K cN=some XD5)
  (nxm5:XD5.mro= .ref cN::.ref cT::bmV)
  (nxd5:XD5.hasDict=true)
  (xsa5:PySem.W.findIn K (.ref cN) "__setattr__"=some (some (.builtin "object.__setattr__")))
  (xga5:PySem.W.findIn K (.ref cN) "__getattribute__"=some (some (.builtin "BaseException.__getattribute__")))
  (xgn5:PySem.W.findIn K (.ref cN) "__getattr__"=some none)
  (xca5:PySem.W.findIn K (.ref cN) "__class__"=some (some (.builtin "object.__class__")))
  (xt5:PySem.W.typeIn K (.ref cN)=some (.type "type"))
  (xb5:PySem.W.mroIn K cN (.type "BaseException")=some true)
  (xs5:PySem.W.mroIn K cN (.ref cN)=some true)
  (xu5:PySem.W.mroIn K cN (.ref cT)=some true)
  (xv5:PySem.W.subIn K (.ref cN) (.type "ValueError")=some true)
  (xn6:PySem.W.nsIn K mainGlobals "NoWorld"=some (some (.ref cW)))
  (xl6:K.lookup cW=some (excClassObj xnm6 xq6 cW NcW xbs6 (.ref cT::bmV) true xsn6 xsub6 xab6 xcol6 xdd6 xka6 xkb6 xkc6 xkd6 xkf6 "ValueError.__new__"))
  (xm6:K.lookup NcW=some ⟨xoc6,xod6,.dict xes6 xep6,xsl6⟩)
  (nxs6:(xes6.all (fun e=>match e.key with | .str _ _=>true | _=>false))=true)
  (xi6:PySem.W.nsIn K NcW "__init__"=some none)
  (xkp6:PySem.W.keepIn K (.ref cW)=true)
  (xcd6:PySem.W.clsIn K cW=some XD6)
  (nxm6:XD6.mro= .ref cW::.ref cT::bmV)
  (nxd6:XD6.hasDict=true)
  (xsa6:PySem.W.findIn K (.ref cW) "__setattr__"=some (some (.builtin "object.__setattr__")))
  (xga6:PySem.W.findIn K (.ref cW) "__getattribute__"=some (some (.builtin "BaseException.__getattribute__")))
  (xgn6:PySem.W.findIn K (.ref cW) "__getattr__"=some none)
  (xca6:PySem.W.findIn K (.ref cW) "__class__"=some (some (.builtin "object.__class__")))
  (xt6:PySem.W.typeIn K (.ref cW)=some (.type "type"))
  (xb6:PySem.W.mroIn K cW (.type "BaseException")=some true)
  (xs6:PySem.W.mroIn K cW (.ref cW)=some true)
  (xu6:PySem.W.mroIn K cW (.ref cT)=some true)
  (xv6:PySem.W.subIn K (.ref cW) (.type "ValueError")=some true)
  (xp0_1:PySem.W.subIn K (.ref cBN) (.ref cNT)=some false)
  (nq0_1:(Value.ref cBN == Value.ref cNT)=false)
  (xr0_1:PySem.W.mroIn K cBN (.ref cNT)=some false)
  (xp0_2:PySem.W.subIn K (.ref cBN) (.ref cNK)=some false)
  (nq0_2:(Value.ref cBN == Value.ref cNK)=false)
  (xr0_2:PySem.W.mroIn K cBN (.ref cNK)=some false)
  (xp0_3:PySem.W.subIn K (.ref cBN) (.ref cS)=some false)
  (nq0_3:(Value.ref cBN == Value.ref cS)=false)
  (xr0_3:PySem.W.mroIn K cBN (.ref cS)=some false)
  (xp0_4:PySem.W.subIn K (.ref cBN) (.ref cB)=some false)
  (nq0_4:(Value.ref cBN == Value.ref cB)=false)
  (xr0_4:PySem.W.mroIn K cBN (.ref cB)=some false)
  (xp0_5:PySem.W.subIn K (.ref cBN) (.ref cN)=some false)
  (nq0_5:(Value.ref cBN == Value.ref cN)=false)
  (xr0_5:PySem.W.mroIn K cBN (.ref cN)=some false)
  (xp0_6:PySem.W.subIn K (.ref cBN) (.ref cW)=some false)
  (nq0_6:(Value.ref cBN == Value.ref cW)=false)
  (xr0_6:PySem.W.mroIn K cBN (.ref cW)=some false)
  (xp1_0:PySem.W.subIn K (.ref cNT) (.ref cBN)=some false)
  (nq1_0:(Value.ref cNT == Value.ref cBN)=false)
  (xr1_0:PySem.W.mroIn K cNT (.ref cBN)=some false)
  (xp1_2:PySem.W.subIn K (.ref cNT) (.ref cNK)=some false)
  (nq1_2:(Value.ref cNT == Value.ref cNK)=false)
  (xr1_2:PySem.W.mroIn K cNT (.ref cNK)=some false)
  (xp1_3:PySem.W.subIn K (.ref cNT) (.ref cS)=some false)
  (nq1_3:(Value.ref cNT == Value.ref cS)=false)
  (xr1_3:PySem.W.mroIn K cNT (.ref cS)=some false)
  (xp1_4:PySem.W.subIn K (.ref cNT) (.ref cB)=some false)
  (nq1_4:(Value.ref cNT == Value.ref cB)=false)
  (xr1_4:PySem.W.mroIn K cNT (.ref cB)=some false)
  (xp1_5:PySem.W.subIn K (.ref cNT) (.ref cN)=some false)
  (nq1_5:(Value.ref cNT == Value.ref cN)=false)
  (xr1_5:PySem.W.mroIn K cNT (.ref cN)=some false)
  (xp1_6:PySem.W.subIn K (.ref cNT) (.ref cW)=some false)
  (nq1_6:(Value.ref cNT == Value.ref cW)=false)
  (xr1_6:PySem.W.mroIn K cNT (.ref cW)=some false)
  (xp2_0:PySem.W.subIn K (.ref cNK) (.ref cBN)=some false)
  (nq2_0:(Value.ref cNK == Value.ref cBN)=false)
  (xr2_0:PySem.W.mroIn K cNK (.ref cBN)=some false)
  (xp2_1:PySem.W.subIn K (.ref cNK) (.ref cNT)=some false)
  (nq2_1:(Value.ref cNK == Value.ref cNT)=false)
  (xr2_1:PySem.W.mroIn K cNK (.ref cNT)=some false)
  (xp2_3:PySem.W.subIn K (.ref cNK) (.ref cS)=some false)
  (nq2_3:(Value.ref cNK == Value.ref cS)=false)
  (xr2_3:PySem.W.mroIn K cNK (.ref cS)=some false)
  (xp2_4:PySem.W.subIn K (.ref cNK) (.ref cB)=some false)
  (nq2_4:(Value.ref cNK == Value.ref cB)=false)
  (xr2_4:PySem.W.mroIn K cNK (.ref cB)=some false)
  (xp2_5:PySem.W.subIn K (.ref cNK) (.ref cN)=some false)
  (nq2_5:(Value.ref cNK == Value.ref cN)=false)
  (xr2_5:PySem.W.mroIn K cNK (.ref cN)=some false)
  (xp2_6:PySem.W.subIn K (.ref cNK) (.ref cW)=some false)
  (nq2_6:(Value.ref cNK == Value.ref cW)=false)
  (xr2_6:PySem.W.mroIn K cNK (.ref cW)=some false)
  (xp3_0:PySem.W.subIn K (.ref cS) (.ref cBN)=some false)
  (nq3_0:(Value.ref cS == Value.ref cBN)=false)
  (xr3_0:PySem.W.mroIn K cS (.ref cBN)=some false)
  (xp3_1:PySem.W.subIn K (.ref cS) (.ref cNT)=some false)
  (nq3_1:(Value.ref cS == Value.ref cNT)=false)
  (xr3_1:PySem.W.mroIn K cS (.ref cNT)=some false)
  (xp3_2:PySem.W.subIn K (.ref cS) (.ref cNK)=some false)
  (nq3_2:(Value.ref cS == Value.ref cNK)=false)
  (xr3_2:PySem.W.mroIn K cS (.ref cNK)=some false)
  (xp3_4:PySem.W.subIn K (.ref cS) (.ref cB)=some false)
  (nq3_4:(Value.ref cS == Value.ref cB)=false)
  (xr3_4:PySem.W.mroIn K cS (.ref cB)=some false)
  (xp3_5:PySem.W.subIn K (.ref cS) (.ref cN)=some false)
  (nq3_5:(Value.ref cS == Value.ref cN)=false)
  (xr3_5:PySem.W.mroIn K cS (.ref cN)=some false)
  (xp3_6:PySem.W.subIn K (.ref cS) (.ref cW)=some false)
  (nq3_6:(Value.ref cS == Value.ref cW)=false)
  (xr3_6:PySem.W.mroIn K cS (.ref cW)=some false)
  (xp4_0:PySem.W.subIn K (.ref cB) (.ref cBN)=some false)
  (nq4_0:(Value.ref cB == Value.ref cBN)=false)
  (xr4_0:PySem.W.mroIn K cB (.ref cBN)=some false)
  (xp4_1:PySem.W.subIn K (.ref cB) (.ref cNT)=some false)
  (nq4_1:(Value.ref cB == Value.ref cNT)=false)
  (xr4_1:PySem.W.mroIn K cB (.ref cNT)=some false)
  (xp4_2:PySem.W.subIn K (.ref cB) (.ref cNK)=some false)
  (nq4_2:(Value.ref cB == Value.ref cNK)=false)
  (xr4_2:PySem.W.mroIn K cB (.ref cNK)=some false)
  (xp4_3:PySem.W.subIn K (.ref cB) (.ref cS)=some false)
  (nq4_3:(Value.ref cB == Value.ref cS)=false)
  (xr4_3:PySem.W.mroIn K cB (.ref cS)=some false)
  (xp4_5:PySem.W.subIn K (.ref cB) (.ref cN)=some false)
  (nq4_5:(Value.ref cB == Value.ref cN)=false)
  (xr4_5:PySem.W.mroIn K cB (.ref cN)=some false)
  (xp4_6:PySem.W.subIn K (.ref cB) (.ref cW)=some false)
  (nq4_6:(Value.ref cB == Value.ref cW)=false)
  (xr4_6:PySem.W.mroIn K cB (.ref cW)=some false)
  (xp5_0:PySem.W.subIn K (.ref cN) (.ref cBN)=some false)
  (nq5_0:(Value.ref cN == Value.ref cBN)=false)
  (xr5_0:PySem.W.mroIn K cN (.ref cBN)=some false)
  (xp5_1:PySem.W.subIn K (.ref cN) (.ref cNT)=some false)
  (nq5_1:(Value.ref cN == Value.ref cNT)=false)
  (xr5_1:PySem.W.mroIn K cN (.ref cNT)=some false)
  (xp5_2:PySem.W.subIn K (.ref cN) (.ref cNK)=some false)
  (nq5_2:(Value.ref cN == Value.ref cNK)=false)
  (xr5_2:PySem.W.mroIn K cN (.ref cNK)=some false)
  (xp5_3:PySem.W.subIn K (.ref cN) (.ref cS)=some false)
  (nq5_3:(Value.ref cN == Value.ref cS)=false)
  (xr5_3:PySem.W.mroIn K cN (.ref cS)=some false)
  (xp5_4:PySem.W.subIn K (.ref cN) (.ref cB)=some false)
  (nq5_4:(Value.ref cN == Value.ref cB)=false)
  (xr5_4:PySem.W.mroIn K cN (.ref cB)=some false)
  (xp5_6:PySem.W.subIn K (.ref cN) (.ref cW)=some false)
  (nq5_6:(Value.ref cN == Value.ref cW)=false)
  (xr5_6:PySem.W.mroIn K cN (.ref cW)=some false)
  (xp6_0:PySem.W.subIn K (.ref cW) (.ref cBN)=some false)
  (nq6_0:(Value.ref cW == Value.ref cBN)=false)
  (xr6_0:PySem.W.mroIn K cW (.ref cBN)=some false)
  (xp6_1:PySem.W.subIn K (.ref cW) (.ref cNT)=some false)
  (nq6_1:(Value.ref cW == Value.ref cNT)=false)
  (xr6_1:PySem.W.mroIn K cW (.ref cNT)=some false)
  (xp6_2:PySem.W.subIn K (.ref cW) (.ref cNK)=some false)
  (nq6_2:(Value.ref cW == Value.ref cNK)=false)
  (xr6_2:PySem.W.mroIn K cW (.ref cNK)=some false)
  (xp6_3:PySem.W.subIn K (.ref cW) (.ref cS)=some false)
  (nq6_3:(Value.ref cW == Value.ref cS)=false)
  (xr6_3:PySem.W.mroIn K cW (.ref cS)=some false)
  (xp6_4:PySem.W.subIn K (.ref cW) (.ref cB)=some false)
  (nq6_4:(Value.ref cW == Value.ref cB)=false)
  (xr6_4:PySem.W.mroIn K cW (.ref cB)=some false)
  (xp6_5:PySem.W.subIn K (.ref cW) (.ref cN)=some false)
  (nq6_5:(Value.ref cW == Value.ref cN)=false)
  (xr6_5:PySem.W.mroIn K cW (.ref cN)=some false)
  (aCTalk:PySem.W.nsIn K mainGlobals "Talk"=some (some (.ref cK)))
  (pgTalk:PySem.W.plainGet K cK Str.empty=true)
  (hdTalk:PySem.W.hasDictIn K cK=true)
  (poTalk:PySem.W.plainOver K cK=true)
  (saTalk:PySem.W.findIn K (.ref cK) "__setattr__"=some (some (.builtin "object.__setattr__")))
  (mkTalk:PySem.W.makesIn K cK=true)
  (kcTalk:PySem.W.keepIn K (.ref cK)=true)
  (wTalk_many:PySem.W.findIn K (.ref cK) "many"=some none)
  (wTalk_kind:PySem.W.findIn K (.ref cK) "kind"=some none)
  (wTalk_sentence:PySem.W.findIn K (.ref cK) "sentence"=some none)
  (wTalk_rule:PySem.W.findIn K (.ref cK) "rule"=some none)
  (wTalk_space:PySem.W.findIn K (.ref cK) "space"=some none)
  (wTalk_parts:PySem.W.findIn K (.ref cK) "parts"=some none)
  (wTalk_given:PySem.W.findIn K (.ref cK) "given"=some none)
  (wTalk_left:PySem.W.findIn K (.ref cK) "left"=some none)
  (wTalk_ended:PySem.W.findIn K (.ref cK) "ended"=some none)
  (aCHouse:PySem.W.nsIn K mainGlobals "House"=some (some (.ref cH)))
  (pgHouse:PySem.W.plainGet K cH Str.empty=true)
  (hdHouse:PySem.W.hasDictIn K cH=true)
  (poHouse:PySem.W.plainOver K cH=true)
  (saHouse:PySem.W.findIn K (.ref cH) "__setattr__"=some (some (.builtin "object.__setattr__")))
  (mkHouse:PySem.W.makesIn K cH=true)
  (kcHouse:PySem.W.keepIn K (.ref cH)=true)
  (wHouse_space:PySem.W.findIn K (.ref cH) "space"=some none)
  (wHouse_many:PySem.W.findIn K (.ref cH) "many"=some none)
  (wHouse_marks:PySem.W.findIn K (.ref cH) "marks"=some none)
  (wHouse_talks:PySem.W.findIn K (.ref cH) "talks"=some none)
  (wHouse_lines:PySem.W.findIn K (.ref cH) "lines"=some none)
  (aL:PySem.W.nsIn K mainGlobals "LETTERS"=some (some (.str "abcde" tL)))
  (aJ:PySem.W.nsIn K mainGlobals "JOINTS"=some (some (.ref dJ)))
  (lJ:K.lookup dJ=some ⟨.type "dict",none,.dict #[⟨hashStr w "and",.str "and" t1,.str "&" t2⟩,⟨hashStr w "or",.str "or" t3,.str "|" t4⟩,⟨hashStr w "if",.str "if" t5,.str ">" t6⟩,⟨hashStr w "same",.str "same" t7,.str "=" t8⟩] ep,#[]⟩)
  (nJ:(dJ == sysModules)=false)
  (aNS:PySem.W.nsIn K mainGlobals "NAME_SIGNS"=some (some (.str "abcdefghijklmnopqrstuvwxyz" tNS)))
  (aLN:PySem.W.nsIn K mainGlobals "LONGEST_NAME"=some (some (.int 8 tLN)))
  : ∃fd:FuncData,(∀(s:Shared) (v:Value),BindsTo s fd ⟨[v],[]⟩ [("_law_script",v)])∧∀base:Heap,K.In base→base.Ns mainGlobals mg→FnOk l.prog w K mg base CX0 11 fa fd ["_law_script"] (spLaw K):=by
 have e:=hfa.symm.trans (PySem.W.mg_of X G a39)
 cases e
 have F1:=fun_mk (st:=sNum) l1 c1 k1
 have F2:=fun_mk (st:=sLlast) l2 c2 k2
 have F3:=fun_mk (st:=sLname) l3 c3 k3
 have F4:=fun_mk (st:=sLnames) l4 c4 k4
 have F5:=fun_mk (st:=sLbad) l5 c5 k5
 have F6:=fun_mk (st:=sLfoot) l6 c6 k6
 have F7:=fun_mk (st:=sLdue) l7 c7 k7
 have F8:=fun_mk (st:=sHNewName) l8 c8 k8
 have F9:=fun_mk (st:=sParts) l9 c9 k9
 have F10:=fun_mk (st:=sLetters) l10 c10 k10
 have F11:=fun_mk (st:=sRefuseS) l11 c11 k11
 have F12:=fun_mk (st:=sSteps) l12 c12 k12
 have F13:=fun_mk (st:=sHolds) l13 c13 k13
 have F14:=fun_mk (st:=sJoined) l14 c14 k14
 have F15:=fun_mk (st:=sTrueBy) l15 c15 k15
 have F16:=fun_mk (st:=sWorldsOf) l16 c16 k16
 have F17:=fun_mk (st:=sFirst) l17 c17 k17
 have F18:=fun_mk (st:=sSidesOf) l18 c18 k18
 have F19:=fun_mk (st:=sAny) l19 c19 k19
 have F20:=fun_mk (st:=sBaseOf) l20 c20 k20
 have F21:=fun_mk (st:=sTInit) l21 c21 k21
 have F22:=fun_mk (st:=sShown) l22 c22 k22
 have F23:=fun_mk (st:=sLineOf) l23 c23 k23
 have F24:=fun_mk (st:=sHWrite) l24 c24 k24
 have F25:=fun_mk (st:=sHBegin) l25 c25 k25
 have F26:=fun_mk (st:=sHNoTalk) l26 c26 k26
 have F27:=fun_mk (st:=sHTalkOf) l27 c27 k27
 have F28:=fun_mk (st:=sTFork) l28 c28 k28
 have F29:=fun_mk (st:=sHFork) l29 c29 k29
 have F30:=fun_mk (st:=sHDrop) l30 c30 k30
 have F31:=fun_mk (st:=sLcalled) l31 c31 k31
 have F32:=fun_mk (st:=sLword) l32 c32 k32
 have F33:=fun_mk (st:=sSays) l33 c33 k33
 have F34:=fun_mk (st:=sLtexts) l34 c34 k34
 have F35:=fun_mk (st:=sAllW) l35 c35 k35
 have F36:=fun_mk (st:=sRoomOf) l36 c36 k36
 have F37:=fun_mk (st:=sHInit) l37 c37 k37
 have F38:=fun_mk (st:=sHNames) l38 c38 k38
 have FLAW:=fun_mk (st:=sLaw) l39 c39 k39
 have C1:Cal K mg "_law_num" f1 _ ["_law_script","_law_k"]:=⟨PySem.W.mg_of X G a1,k1,F1.binds (ps:=["_law_script","_law_k"]) fun _ _ _ _ _ _ us hl=>(by obtain⟨_,_,rfl⟩:=vs2_of hl;rfl)⟩
 have C2:Cal K mg "_law_last" f2 _ ["_law_script","_law_start","_law_n"]:=⟨PySem.W.mg_of X G a2,k2,F2.binds (ps:=["_law_script","_law_start","_law_n"]) fun _ _ _ _ _ _ us hl=>(by obtain⟨_,_,_,rfl⟩:=vs3_of hl;rfl)⟩
 have C3:Cal K mg "_law_name" f3 _ ["_law_n"]:=⟨PySem.W.mg_of X G a3,k3,F3.binds (ps:=["_law_n"]) fun _ _ _ _ _ _ us hl=>(by obtain⟨_,rfl⟩:=vs1_of hl;rfl)⟩
 have C4:Cal K mg "_law_names" f4 _ ["_law_script"]:=⟨PySem.W.mg_of X G a4,k4,F4.binds (ps:=["_law_script"]) fun _ _ _ _ _ _ us hl=>(by obtain⟨_,rfl⟩:=vs1_of hl;rfl)⟩
 have C5:Cal K mg "_law_bad_name" f5 _ ["_law_n","_law_name_here"]:=⟨PySem.W.mg_of X G a5,k5,F5.binds (ps:=["_law_n","_law_name_here"]) fun _ _ _ _ _ _ us hl=>(by obtain⟨_,_,rfl⟩:=vs2_of hl;rfl)⟩
 have C6:Cal K mg "_law_footing" f6 _ ["_law_n","_law_many"]:=⟨PySem.W.mg_of X G a6,k6,F6.binds (ps:=["_law_n","_law_many"]) fun _ _ _ _ _ _ us hl=>(by obtain⟨_,_,rfl⟩:=vs2_of hl;rfl)⟩
 have C7:Cal K mg "_law_due" f7 _ ["_law_names_here","_law_bad","_law_deed","_law_due_here"]:=⟨PySem.W.mg_of X G a7,k7,F7.binds (ps:=["_law_names_here","_law_bad","_law_deed","_law_due_here"]) fun _ _ _ _ _ _ us hl=>(by obtain⟨_,_,_,_,rfl⟩:=vs4_of hl;rfl)⟩
 have C8:CalM K cH "refuse_new_name" f8 _ ["self","name"]:=⟨⟨a8,i8,k8⟩,F8.binds (ps:=["self","name"]) fun _ _ _ _ _ _ us hl=>(by obtain⟨_,_,rfl⟩:=vs2_of hl;rfl)⟩
 have C9:Cal K mg "parts_of" f9 _ ["layer"]:=⟨PySem.W.mg_of X G a9,k9,F9.binds (ps:=["layer"]) fun _ _ _ _ _ _ us hl=>(by obtain⟨_,rfl⟩:=vs1_of hl;rfl)⟩
 have C10:Cal K mg "letters" f10 _ ["sentence"]:=⟨PySem.W.mg_of X G a10,k10,F10.binds (ps:=["sentence"]) fun _ _ _ _ _ _ us hl=>(by obtain⟨_,rfl⟩:=vs1_of hl;rfl)⟩
 have C11:Cal K mg "refuse_strange" f11 _ ["sentence","many"]:=⟨PySem.W.mg_of X G a11,k11,F11.binds (ps:=["sentence","many"]) fun _ _ _ _ _ _ us hl=>(by obtain⟨_,_,rfl⟩:=vs2_of hl;rfl)⟩
 have C12:Cal K mg "steps_of" f12 _ ["sentence"]:=⟨PySem.W.mg_of X G a12,k12,F12.binds (ps:=["sentence"]) fun _ _ _ _ _ _ us hl=>(by obtain⟨_,rfl⟩:=vs1_of hl;rfl)⟩
 have C13:Cal K mg "letter_holds" f13 _ ["letter","world"]:=⟨PySem.W.mg_of X G a13,k13,F13.binds (ps:=["letter","world"]) fun _ _ _ _ _ _ us hl=>(by obtain⟨_,_,rfl⟩:=vs2_of hl;rfl)⟩
 have C14:Cal K mg "joined" f14 _ ["kind","one","other"]:=⟨PySem.W.mg_of X G a14,k14,F14.binds (ps:=["kind","one","other"]) fun _ _ _ _ _ _ us hl=>(by obtain⟨_,_,_,rfl⟩:=vs3_of hl;rfl)⟩
 have C15:Cal K mg "true_by" f15 _ ["steps","world"]:=⟨PySem.W.mg_of X G a15,k15,F15.binds (ps:=["steps","world"]) fun _ _ _ _ _ _ us hl=>(by obtain⟨_,_,rfl⟩:=vs2_of hl;rfl)⟩
 have C16:Cal K mg "worlds_of" f16 _ ["sentence","room"]:=⟨PySem.W.mg_of X G a16,k16,F16.binds (ps:=["sentence","room"]) fun _ _ _ _ _ _ us hl=>(by obtain⟨_,_,rfl⟩:=vs2_of hl;rfl)⟩
 have C17:Cal K mg "in_first_only" f17 _ ["one","other"]:=⟨PySem.W.mg_of X G a17,k17,F17.binds (ps:=["one","other"]) fun _ _ _ _ _ _ us hl=>(by obtain⟨_,_,rfl⟩:=vs2_of hl;rfl)⟩
 have C18:Cal K mg "sides_of" f18 _ ["room","kind","sentence"]:=⟨PySem.W.mg_of X G a18,k18,F18.binds (ps:=["room","kind","sentence"]) fun _ _ _ _ _ _ us hl=>(by obtain⟨_,_,_,rfl⟩:=vs3_of hl;rfl)⟩
 have C19:Cal K mg "in_any" f19 _ ["rows"]:=⟨PySem.W.mg_of X G a19,k19,F19.binds (ps:=["rows"]) fun _ _ _ _ _ _ us hl=>(by obtain⟨_,rfl⟩:=vs1_of hl;rfl)⟩
 have C20:Cal K mg "base_of" f20 _ ["sides"]:=⟨PySem.W.mg_of X G a20,k20,F20.binds (ps:=["sides"]) fun _ _ _ _ _ _ us hl=>(by obtain⟨_,rfl⟩:=vs1_of hl;rfl)⟩
 have C21:CalI K mg cK "Talk" f21 _ ["self","many","room","kind","sentence","rule"]:=⟨⟨mkTalk,a21,i21,kcTalk⟩,PySem.W.mg_of X G aCTalk,F21.binds (ps:=["self","many","room","kind","sentence","rule"]) fun _ _ _ _ _ _ us hl=>(by obtain⟨_,_,_,_,_,_,rfl⟩:=vs6_of hl;rfl)⟩
 have C22:Cal K mg "shown" f22 _ ["sentence"]:=⟨PySem.W.mg_of X G a22,k22,F22.binds (ps:=["sentence"]) fun _ _ _ _ _ _ us hl=>(by obtain⟨_,rfl⟩:=vs1_of hl;rfl)⟩
 have C23:Cal K mg "line_of" f23 _ ["words"]:=⟨PySem.W.mg_of X G a23,k23,F23.binds (ps:=["words"]) fun _ _ _ _ _ _ us hl=>(by obtain⟨_,rfl⟩:=vs1_of hl;rfl)⟩
 have C24:CalM K cH "write" f24 _ ["self","words"]:=⟨⟨a24,i24,k24⟩,F24.binds (ps:=["self","words"]) fun _ _ _ _ _ _ us hl=>(by obtain⟨_,_,rfl⟩:=vs2_of hl;rfl)⟩
 have C25:CalM K cH "begin" f25 _ ["self","name","kind","sentence","rule"]:=⟨⟨a25,i25,k25⟩,F25.binds (ps:=["self","name","kind","sentence","rule"]) fun _ _ _ _ _ _ us hl=>(by obtain⟨_,_,_,_,_,rfl⟩:=vs5_of hl;rfl)⟩
 have C26:CalM K cH "refuse_no_talk" f26 _ ["self","name"]:=⟨⟨a26,i26,k26⟩,F26.binds (ps:=["self","name"]) fun _ _ _ _ _ _ us hl=>(by obtain⟨_,_,rfl⟩:=vs2_of hl;rfl)⟩
 have C27:CalM K cH "talk_of" f27 _ ["self","name"]:=⟨⟨a27,i27,k27⟩,F27.binds (ps:=["self","name"]) fun _ _ _ _ _ _ us hl=>(by obtain⟨_,_,rfl⟩:=vs2_of hl;rfl)⟩
 have C28:CalM K cK "fork" f28 _ ["self"]:=⟨⟨a28,i28,k28⟩,F28.binds (ps:=["self"]) fun _ _ _ _ _ _ us hl=>(by obtain⟨_,rfl⟩:=vs1_of hl;rfl)⟩
 have C29:CalM K cH "fork" f29 _ ["self","name","other"]:=⟨⟨a29,i29,k29⟩,F29.binds (ps:=["self","name","other"]) fun _ _ _ _ _ _ us hl=>(by obtain⟨_,_,_,rfl⟩:=vs3_of hl;rfl)⟩
 have C30:CalM K cH "drop" f30 _ ["self","name"]:=⟨⟨a30,i30,k30⟩,F30.binds (ps:=["self","name"]) fun _ _ _ _ _ _ us hl=>(by obtain⟨_,_,rfl⟩:=vs2_of hl;rfl)⟩
 have C31:Cal K mg "_law_called" f31 _ ["_law_house","_law_deed"]:=⟨PySem.W.mg_of X G a31,k31,F31.binds (ps:=["_law_house","_law_deed"]) fun _ _ _ _ _ _ us hl=>(by obtain⟨_,_,rfl⟩:=vs2_of hl;rfl)⟩
 have C32:Cal K mg "_law_word" f32 _ ["_law_house","_law_deed"]:=⟨PySem.W.mg_of X G a32,k32,F32.binds (ps:=["_law_house","_law_deed"]) fun _ _ _ _ _ _ us hl=>(by obtain⟨_,_,rfl⟩:=vs2_of hl;rfl)⟩
 have C33:Cal K mg "_law_says" f33 _ ["_law_found","_law_due_here"]:=⟨PySem.W.mg_of X G a33,k33,F33.binds (ps:=["_law_found","_law_due_here"]) fun _ _ _ _ _ _ us hl=>(by obtain⟨_,_,rfl⟩:=vs2_of hl;rfl)⟩
 have C34:Cal K mg "_law_texts_are" f34 _ ["_law_found","_law_due_here"]:=⟨PySem.W.mg_of X G a34,k34,F34.binds (ps:=["_law_found","_law_due_here"]) fun _ _ _ _ _ _ us hl=>(by obtain⟨_,_,rfl⟩:=vs2_of hl;rfl)⟩
 have C35:Cal K mg "all_worlds" f35 _ ["many"]:=⟨PySem.W.mg_of X G a35,k35,F35.binds (ps:=["many"]) fun _ _ _ _ _ _ us hl=>(by obtain⟨_,rfl⟩:=vs1_of hl;rfl)⟩
 have C36:Cal K mg "room_of" f36 _ ["many","standing"]:=⟨PySem.W.mg_of X G a36,k36,F36.binds (ps:=["many","standing"]) fun _ _ _ _ _ _ us hl=>(by obtain⟨_,_,rfl⟩:=vs2_of hl;rfl)⟩
 have C37:CalI K mg cH "House" f37 _ ["self","many","standing"]:=⟨⟨mkHouse,a37,i37,kcHouse⟩,PySem.W.mg_of X G aCHouse,F37.binds (ps:=["self","many","standing"]) fun _ _ _ _ _ _ us hl=>(by obtain⟨_,_,_,rfl⟩:=vs3_of hl;rfl)⟩
 have C38:CalM K cH "names" f38 _ ["self"]:=⟨⟨a38,i38,k38⟩,F38.binds (ps:=["self"]) fun _ _ _ _ _ _ us hl=>(by obtain⟨_,rfl⟩:=vs1_of hl;rfl)⟩
 have zabs:=PySem.W.mg_none_of X G yabs
 have zlen:=PySem.W.mg_none_of X G ylen
 have zrange:=PySem.W.mg_none_of X G yrange
 have zisinstance:=PySem.W.mg_none_of X G yisinstance
 have zint:=PySem.W.mg_none_of X G yint
 have zbool:=PySem.W.mg_none_of X G ybool
 have zstr:=PySem.W.mg_none_of X G ystr
 have ztuple:=PySem.W.mg_none_of X G ytuple
 have zlist:=PySem.W.mg_none_of X G ylist
 have zset:=PySem.W.mg_none_of X G yset
 have zsorted:=PySem.W.mg_none_of X G ysorted
 have zany:=PySem.W.mg_none_of X G yany
 have zall:=PySem.W.mg_none_of X G yall
 have zValueError:=PySem.W.mg_none_of X G yValueError
 have zenumerate:=PySem.W.mg_none_of X G yenumerate
 refine⟨PySem.W.fnOf "law" "law" (defArgs sLaw) (defBody sLaw) (defScope sLaw) .none kV39 dc39 pm39 an39 cd39 ct39,fun s v=>.of_eq rfl,fun base _ _=>?_⟩
 have B:Bl mg:=⟨zabs,zlen,zrange⟩
 have T:BTx mg:=⟨zisinstance,zint,zbool,zstr,ztuple,zlist,zset,zsorted,zrange,zany,zall⟩
 have XT:TopX K mg cT:=⟨PySem.W.mg_of X G xTn,xTt,by rw[xTc1];rfl,xTbse,zValueError,zisinstance⟩
 have X_BadName:OwnX K mg "BadName" cBN cT:=⟨⟨⟨_,xcd0,nxm0,nxd0⟩,xsa0,xga0,xgn0,xca0,xcg,xct⟩,xcls_mk0 xl0 xm0 nxs0 xi0 xTl xTm nTs xTi xkp0,PySem.W.mg_of X G xn0,xt0,by rw[xcd0];rfl,xb0,xs0,xu0,kit_ty nuV xv0⟩
 have X_NameTaken:OwnX K mg "NameTaken" cNT cT:=⟨⟨⟨_,xcd1,nxm1,nxd1⟩,xsa1,xga1,xgn1,xca1,xcg,xct⟩,xcls_mk0 xl1 xm1 nxs1 xi1 xTl xTm nTs xTi xkp1,PySem.W.mg_of X G xn1,xt1,by rw[xcd1];rfl,xb1,xs1,xu1,kit_ty nuV xv1⟩
 have X_NoTalk:OwnX K mg "NoTalk" cNK cT:=⟨⟨⟨_,xcd2,nxm2,nxd2⟩,xsa2,xga2,xgn2,xca2,xcg,xct⟩,xcls_mk0 xl2 xm2 nxs2 xi2 xTl xTm nTs xTi xkp2,PySem.W.mg_of X G xn2,xt2,by rw[xcd2];rfl,xb2,xs2,xu2,kit_ty nuV xv2⟩
 have X_StrangeLetter:OwnX K mg "StrangeLetter" cS cT:=⟨⟨⟨_,xcd3,nxm3,nxd3⟩,xsa3,xga3,xgn3,xca3,xcg,xct⟩,xcls_mk0 xl3 xm3 nxs3 xi3 xTl xTm nTs xTi xkp3,PySem.W.mg_of X G xn3,xt3,by rw[xcd3];rfl,xb3,xs3,xu3,kit_ty nuV xv3⟩
 have X_BadWord:OwnX K mg "BadWord" cB cT:=⟨⟨⟨_,xcd4,nxm4,nxd4⟩,xsa4,xga4,xgn4,xca4,xcg,xct⟩,xcls_mk0 xl4 xm4 nxs4 xi4 xTl xTm nTs xTi xkp4,PySem.W.mg_of X G xn4,xt4,by rw[xcd4];rfl,xb4,xs4,xu4,kit_ty nuV xv4⟩
 have X_NoStanding:OwnX K mg "NoStanding" cN cT:=⟨⟨⟨_,xcd5,nxm5,nxd5⟩,xsa5,xga5,xgn5,xca5,xcg,xct⟩,xcls_mk0 xl5 xm5 nxs5 xi5 xTl xTm nTs xTi xkp5,PySem.W.mg_of X G xn5,xt5,by rw[xcd5];rfl,xb5,xs5,xu5,kit_ty nuV xv5⟩
 have X_NoWorld:OwnX K mg "NoWorld" cW cT:=⟨⟨⟨_,xcd6,nxm6,nxd6⟩,xsa6,xga6,xgn6,xca6,xcg,xct⟩,xcls_mk0 xl6 xm6 nxs6 xi6 xTl xTm nTs xTi xkp6,PySem.W.mg_of X G xn6,xt6,by rw[xcd6];rfl,xb6,xs6,xu6,kit_ty nuV xv6⟩
 have A_BadName_NameTaken:ApX K cBN cNT:=⟨xr0_1,kit_cl nq0_1 (by rw[xcd1];rfl) xt1 xp0_1⟩
 have A_BadName_NoTalk:ApX K cBN cNK:=⟨xr0_2,kit_cl nq0_2 (by rw[xcd2];rfl) xt2 xp0_2⟩
 have A_BadName_StrangeLetter:ApX K cBN cS:=⟨xr0_3,kit_cl nq0_3 (by rw[xcd3];rfl) xt3 xp0_3⟩
 have A_BadName_BadWord:ApX K cBN cB:=⟨xr0_4,kit_cl nq0_4 (by rw[xcd4];rfl) xt4 xp0_4⟩
 have A_BadName_NoStanding:ApX K cBN cN:=⟨xr0_5,kit_cl nq0_5 (by rw[xcd5];rfl) xt5 xp0_5⟩
 have A_BadName_NoWorld:ApX K cBN cW:=⟨xr0_6,kit_cl nq0_6 (by rw[xcd6];rfl) xt6 xp0_6⟩
 have A_NameTaken_BadName:ApX K cNT cBN:=⟨xr1_0,kit_cl nq1_0 (by rw[xcd0];rfl) xt0 xp1_0⟩
 have A_NameTaken_NoTalk:ApX K cNT cNK:=⟨xr1_2,kit_cl nq1_2 (by rw[xcd2];rfl) xt2 xp1_2⟩
 have A_NameTaken_StrangeLetter:ApX K cNT cS:=⟨xr1_3,kit_cl nq1_3 (by rw[xcd3];rfl) xt3 xp1_3⟩
 have A_NameTaken_BadWord:ApX K cNT cB:=⟨xr1_4,kit_cl nq1_4 (by rw[xcd4];rfl) xt4 xp1_4⟩
 have A_NameTaken_NoStanding:ApX K cNT cN:=⟨xr1_5,kit_cl nq1_5 (by rw[xcd5];rfl) xt5 xp1_5⟩
 have A_NameTaken_NoWorld:ApX K cNT cW:=⟨xr1_6,kit_cl nq1_6 (by rw[xcd6];rfl) xt6 xp1_6⟩
 have A_NoTalk_BadName:ApX K cNK cBN:=⟨xr2_0,kit_cl nq2_0 (by rw[xcd0];rfl) xt0 xp2_0⟩
 have A_NoTalk_NameTaken:ApX K cNK cNT:=⟨xr2_1,kit_cl nq2_1 (by rw[xcd1];rfl) xt1 xp2_1⟩
 have A_NoTalk_StrangeLetter:ApX K cNK cS:=⟨xr2_3,kit_cl nq2_3 (by rw[xcd3];rfl) xt3 xp2_3⟩
 have A_NoTalk_BadWord:ApX K cNK cB:=⟨xr2_4,kit_cl nq2_4 (by rw[xcd4];rfl) xt4 xp2_4⟩
 have A_NoTalk_NoStanding:ApX K cNK cN:=⟨xr2_5,kit_cl nq2_5 (by rw[xcd5];rfl) xt5 xp2_5⟩
 have A_NoTalk_NoWorld:ApX K cNK cW:=⟨xr2_6,kit_cl nq2_6 (by rw[xcd6];rfl) xt6 xp2_6⟩
 have A_StrangeLetter_BadName:ApX K cS cBN:=⟨xr3_0,kit_cl nq3_0 (by rw[xcd0];rfl) xt0 xp3_0⟩
 have A_StrangeLetter_NameTaken:ApX K cS cNT:=⟨xr3_1,kit_cl nq3_1 (by rw[xcd1];rfl) xt1 xp3_1⟩
 have A_StrangeLetter_NoTalk:ApX K cS cNK:=⟨xr3_2,kit_cl nq3_2 (by rw[xcd2];rfl) xt2 xp3_2⟩
 have A_StrangeLetter_BadWord:ApX K cS cB:=⟨xr3_4,kit_cl nq3_4 (by rw[xcd4];rfl) xt4 xp3_4⟩
 have A_StrangeLetter_NoStanding:ApX K cS cN:=⟨xr3_5,kit_cl nq3_5 (by rw[xcd5];rfl) xt5 xp3_5⟩
 have A_StrangeLetter_NoWorld:ApX K cS cW:=⟨xr3_6,kit_cl nq3_6 (by rw[xcd6];rfl) xt6 xp3_6⟩
 have A_BadWord_BadName:ApX K cB cBN:=⟨xr4_0,kit_cl nq4_0 (by rw[xcd0];rfl) xt0 xp4_0⟩
 have A_BadWord_NameTaken:ApX K cB cNT:=⟨xr4_1,kit_cl nq4_1 (by rw[xcd1];rfl) xt1 xp4_1⟩
 have A_BadWord_NoTalk:ApX K cB cNK:=⟨xr4_2,kit_cl nq4_2 (by rw[xcd2];rfl) xt2 xp4_2⟩
 have A_BadWord_StrangeLetter:ApX K cB cS:=⟨xr4_3,kit_cl nq4_3 (by rw[xcd3];rfl) xt3 xp4_3⟩
 have A_BadWord_NoStanding:ApX K cB cN:=⟨xr4_5,kit_cl nq4_5 (by rw[xcd5];rfl) xt5 xp4_5⟩
 have A_BadWord_NoWorld:ApX K cB cW:=⟨xr4_6,kit_cl nq4_6 (by rw[xcd6];rfl) xt6 xp4_6⟩
 have A_NoStanding_BadName:ApX K cN cBN:=⟨xr5_0,kit_cl nq5_0 (by rw[xcd0];rfl) xt0 xp5_0⟩
 have A_NoStanding_NameTaken:ApX K cN cNT:=⟨xr5_1,kit_cl nq5_1 (by rw[xcd1];rfl) xt1 xp5_1⟩
 have A_NoStanding_NoTalk:ApX K cN cNK:=⟨xr5_2,kit_cl nq5_2 (by rw[xcd2];rfl) xt2 xp5_2⟩
 have A_NoStanding_StrangeLetter:ApX K cN cS:=⟨xr5_3,kit_cl nq5_3 (by rw[xcd3];rfl) xt3 xp5_3⟩
 have A_NoStanding_BadWord:ApX K cN cB:=⟨xr5_4,kit_cl nq5_4 (by rw[xcd4];rfl) xt4 xp5_4⟩
 have A_NoStanding_NoWorld:ApX K cN cW:=⟨xr5_6,kit_cl nq5_6 (by rw[xcd6];rfl) xt6 xp5_6⟩
 have A_NoWorld_BadName:ApX K cW cBN:=⟨xr6_0,kit_cl nq6_0 (by rw[xcd0];rfl) xt0 xp6_0⟩
 have A_NoWorld_NameTaken:ApX K cW cNT:=⟨xr6_1,kit_cl nq6_1 (by rw[xcd1];rfl) xt1 xp6_1⟩
 have A_NoWorld_NoTalk:ApX K cW cNK:=⟨xr6_2,kit_cl nq6_2 (by rw[xcd2];rfl) xt2 xp6_2⟩
 have A_NoWorld_StrangeLetter:ApX K cW cS:=⟨xr6_3,kit_cl nq6_3 (by rw[xcd3];rfl) xt3 xp6_3⟩
 have A_NoWorld_BadWord:ApX K cW cB:=⟨xr6_4,kit_cl nq6_4 (by rw[xcd4];rfl) xt4 xp6_4⟩
 have A_NoWorld_NoStanding:ApX K cW cN:=⟨xr6_5,kit_cl nq6_5 (by rw[xcd5];rfl) xt5 xp6_5⟩
 have TX:TkX K cK:=⟨⟨pgTalk,hdTalk,poTalk,saTalk⟩,wTalk_many,wTalk_kind,wTalk_sentence,wTalk_rule,wTalk_space,wTalk_parts,wTalk_given,wTalk_left,wTalk_ended⟩
 have HX:HsX K cH:=⟨⟨pgHouse,hdHouse,poHouse,saHouse⟩,wHouse_space,wHouse_many,wHouse_marks,wHouse_talks,wHouse_lines⟩
 have SHT:ShTxt l.prog w K mg:=⟨zisinstance,zstr,⟨_,PySem.W.mg_of X G aL⟩,dJ,PySem.W.mg_of X G aJ,modD4 lJ (by decide) nJ (fun _=>rfl)⟩
 have SX:=six_mk X_BadName X_NameTaken X_NoTalk X_StrangeLetter X_BadWord X_NoStanding A_BadName_NameTaken A_BadName_NoTalk A_BadName_StrangeLetter A_BadName_BadWord A_BadName_NoStanding A_NameTaken_BadName A_NameTaken_NoTalk A_NameTaken_StrangeLetter A_NameTaken_BadWord A_NameTaken_NoStanding A_NoTalk_BadName A_NoTalk_NameTaken A_NoTalk_StrangeLetter A_NoTalk_BadWord A_NoTalk_NoStanding A_StrangeLetter_BadName A_StrangeLetter_NameTaken A_StrangeLetter_NoTalk A_StrangeLetter_BadWord A_StrangeLetter_NoStanding A_BadWord_BadName A_BadWord_NameTaken A_BadWord_NoTalk A_BadWord_StrangeLetter A_BadWord_NoStanding A_NoStanding_BadName A_NoStanding_NameTaken A_NoStanding_NoTalk A_NoStanding_StrangeLetter A_NoStanding_BadWord
 have G1:=ok_num (P:=l.prog) (w:=w) (mg:=mg) (base:=base) F1 B
 have G2:=ok_llast (P:=l.prog) (w:=w) (mg:=mg) (base:=base) F2 B
 have G3:=ok_lname (P:=l.prog) (w:=w) (mg:=mg) (base:=base) F3 B
 have G4:=ok_lnames (P:=l.prog) (w:=w) (mg:=mg) (base:=base) F4 B G1 C1 G3 C3
 have G5:=ok_lbad (P:=l.prog) (w:=w) (mg:=mg) (base:=base) F5 B
 have G6:=ok_lfoot (P:=l.prog) (w:=w) (mg:=mg) (base:=base) F6
 have G7:=ok_ldue (P:=l.prog) (w:=w) (mg:=mg) (base:=base) F7
 have G8:=ok_hnewname (P:=l.prog) (w:=w) (mg:=mg) (base:=base) F8 (cK:=cK) HX T B X_BadName X_NameTaken (PySem.W.mg_of X G aNS) (PySem.W.mg_of X G aLN)
 have G9:=ok_parts (P:=l.prog) (w:=w) (mg:=mg) (base:=base) F9
 have G10:=ok_letters (P:=l.prog) (w:=w) (mg:=mg) (base:=base) F10 T G9 C9
 have G11:=ok_refuse (P:=l.prog) (w:=w) (mg:=mg) (base:=base) F11 X_StrangeLetter G10 C10
 have G12:=ok_steps (P:=l.prog) (w:=w) (mg:=mg) (base:=base) F12 G9 C9
 have G13:=ok_holds (P:=l.prog) (w:=w) (mg:=mg) (base:=base) F13
 have G14:=ok_joined (P:=l.prog) (w:=w) (mg:=mg) (base:=base) F14
 have G15:=ok_trueby (P:=l.prog) (w:=w) (mg:=mg) (base:=base) F15 G13 C13 G14 C14
 have G16:=ok_worldsof (P:=l.prog) (w:=w) (mg:=mg) (base:=base) F16 G12 C12 G15 C15
 have G17:=ok_first (P:=l.prog) (w:=w) (mg:=mg) (base:=base) F17 T
 have G18:=ok_sidesof (P:=l.prog) (w:=w) (mg:=mg) (base:=base) F18 X_BadWord X_NoStanding G16 C16 G17 C17
 have G19:=ok_any (P:=l.prog) (w:=w) (mg:=mg) (base:=base) F19 T
 have G20:=ok_baseof (P:=l.prog) (w:=w) (mg:=mg) (base:=base) F20 G19 C19
 have G21:=ok_tinit (P:=l.prog) (w:=w) (mg:=mg) (base:=base) F21 TX T X_BadWord G11 C11 G18 C18 G20 C20
 have G22:=ok_shown (P:=l.prog) (w:=w) (mg:=mg) (base:=base) F22 SHT
 have G23:=ok_lineof (P:=l.prog) (w:=w) (mg:=mg) (base:=base) F23
 have G24:=ok_hwrite (P:=l.prog) (w:=w) (mg:=mg) (base:=base) F24 HX G23 C23
 have G25:=ok_hbegin (P:=l.prog) (w:=w) (mg:=mg) (base:=base) F25 HX G8 C8 G21 C21 G22 C22 G24 C24
 have G26:=ok_hnotalk (P:=l.prog) (w:=w) (mg:=mg) (base:=base) F26 (cK:=cK) HX X_NoTalk
 have G27:=ok_htalkof (P:=l.prog) (w:=w) (mg:=mg) (base:=base) F27 HX G26 C26
 have G28:=ok_tfork (P:=l.prog) (w:=w) (mg:=mg) (base:=base) F28 TX T G21 C21
 have G29:=ok_hfork (P:=l.prog) (w:=w) (mg:=mg) (base:=base) F29 HX TX G27 C27 G8 C8 G28 C28 G24 C24
 have G30:=ok_hdrop (P:=l.prog) (w:=w) (mg:=mg) (base:=base) F30 HX G26 C26 G24 C24
 have G31:=ok_lcalled (P:=l.prog) (w:=w) (mg:=mg) (base:=base) F31 (adr:=adr6 cBN cNT cNK cS cB cN) HX G25 C25 G29 C29 G30 C30
 have G32:=ok_lword (P:=l.prog) (w:=w) (mg:=mg) (base:=base) F32 T B XT SX X_BadName X_NameTaken X_NoTalk X_StrangeLetter X_BadWord X_NoStanding G31 C31
 have G33:=ok_lsays (P:=l.prog) (w:=w) (mg:=mg) (base:=base) F33 T
 have G34:=ok_ltexts (P:=l.prog) (w:=w) (mg:=mg) (base:=base) F34 T B G33 C33
 have G35:=ok_allw (P:=l.prog) (w:=w) (mg:=mg) (base:=base) F35 T
 have G36:=ok_roomof (P:=l.prog) (w:=w) (mg:=mg) (base:=base) F36 T X_NoWorld G11 C11 G35 C35 G16 C16
 have G37:=ok_hinit (P:=l.prog) (w:=w) (mg:=mg) (base:=base) F37 HX T G36 C36 G22 C22 G24 C24
 have G38:=ok_hnames (P:=l.prog) (w:=w) (mg:=mg) (base:=base) F38 (cK:=cK) HX T
 exact ok_law FLAW B T HX (G1.mono (by decide)) C1 (G2.mono (by decide)) C2 (G4.mono (by decide)) C4 (G5.mono (by decide)) C5 (G6.mono (by decide)) C6 (G7.mono (by decide)) C7 (G32.mono (by decide)) C32 (G34.mono (by decide)) C34 (G37.mono (by decide)) C37 (G38.mono (by decide)) C38
theorem walk {l:PySem.W.OpenLaw} {q:Program} {loose:List Str} {XP:(Str→Option Value)→Heap→Prop} {YP:World→Heap→Prop} {d:DefRec} {K:Params→PySem.W.Frag} (hn:l.most=some 63) (hdf:d.params.defaults=[])
  (hY:∀(w:World) (h:Heap),YP w h→(K w.params).In h)
  (F:∀(w:World) (mg:Str→Option Value) (fa:Addr) (h:Heap),(K w.params).In h→h.Ns mainGlobals mg→mg d.name=some (.ref fa)→
   ∃fd:FuncData,(∀(s:Shared) (u:Value),BindsTo s fd ⟨[u],[]⟩ [("_law_script",u)])∧∀base:Heap,(K w.params).In base→base.Ns mainGlobals mg→FnOk l.prog w (K w.params) mg base CX0 11 fa fd ["_law_script"] (spLaw (K w.params))) :
  PySem.W.WalkO q loose XP YP l.row.toRowW d [] (fun f vs=>PySem.call f vs):=
 L2.walk_of (n:=63) (k:=11) (x:="_law_script") (CX:=fun _=>CX0) (sp:=fun w=>spLaw (K w.params)) hn (by decide) hdf ⟨rfl,by decide,by decide⟩ hY F (fun _ _ a ns hl _ hS=>⟨a,ns,rfl,hS,hl,fun _=>rfl⟩) fun _ _ _ _ _ z=>z
end Toy
namespace PySem.W.Fast
def tw14105151224026294565:=0
def tw16867486478034125305:=0
def tw8618495286087725453:=0
def tw17885782789321057706:=0
def tw11341574514852120515:=0
def tw3294884833936287140:=0
def tw3848646102669488059:=0
def tw13511227939400866822:=0
def tw14678273865827399850:=0
def tw14263908530243370235:=0
def tw13760048552732111882:=0
def tw5519078925481575491:=0
def tw15766333432411937772:=0
def tw16081729380081185272:=0
def tw6387949830433102318:=0
def tw3783494358671678405:=0
def tw11185431226286365248:=0
def tw2408937087303479781:=0
def tw688431403677130225:=0
def tw716875558426796076:=0
def tw2199409666111944013:=0
def tw4422125124318182863:=0
def tw9965166712516348987:=0
def tw11840384115922211287:=0
def tw15831982604582088100:=0
def tw13211141524287146484:=0
def tw5112628331020910243:=0
def tw14886420827466677821:=0
def tw1468157803404540400:=0
def tw16404995275257991568:=0
def tw15203532157828178655:=0
def tw3718043468626147284:=0
def tw2520191857203137250:=0
def tw6538967643042797683:=0
def tw16747547084647696632:=0
def tw14456445307565878666:=0
def tw16317869245995169196:=0
def tw5021296528389152826:=0
def tw13373723162688030932:=0
def tw17776380912158930165:=0
def tw7347759479938083780:=0
def tw8076358408079934800:=0
def tw7432299959215113416:=0
def tw16865482015071265359:=0
def tw6905011726714565191:=0
def tw2057680957512691552:=0
def tw5380454662932874414:=0
def tw5619272140403480801:=0
def tw3289789374443170278:=0
def tw11394468452748603514:=0
def tw15034607038969889099:=0
def tw16001780356855923572:=0
def tw4495211720662912980:=0
def tw16535428429881213764:=0
def tw6161600804409433261:=0
def tw18062965700629697085:=0
def tw12200637014061415235:=0
def tw12242032958911326793:=0
def tw3519448631031999269:=0
def tw8858121003524531427:=0
def tw8415362741170185277:=0
def tw13795104848758999219:=0
def tw18277359403660760297:=0
def tw11628248500115444515:=0
def tw877792949159747134:=0
def tw5877859502238212584:=0
def tw11709909323976628396:=0
def tw14091373367620294955:=0
def tw16343105367600004903:=0
def tw15743341270032043181:=0
def tw11974139926566449533:=0
def tw14294574526063953899:=0
def tw11730065128905569076:=0
def tw10216162916607023847:=0
def tw9873819782214411680:=0
def tw1688818142420293858:=0
def tw13806388811652210765:=0
def tw5731029384127170358:=0
def tw14937277216598268932:=0
def tw11174343410029802238:=0
def tw11392939580648753296:=0
def tw1523543876085520528:=0
def tw12943713600504310817:=0
def tw9158735373295091552:=0
def tw14232416040582893145:=0
def tw4290958246530145684:=0
def tw2125657123351156690:=0
def tw9465745990468683759:=0
def tw15592726458382008876:=0
def tw1180058445880132770:=0
def tw9346694288644767949:=0
def tw1211382985674449054:=0
def tw12274934063681175631:=0
def tw5300493941877375658:=0
def tw364463401853012097:=0
def tw4674226169280630851:=0
def tw10423122046837615678:=0
def tw10898961479233611039:=0
def tw3374360309941249079:=0
def tw1762182785468017898:=0
def tw1375754825926639171:=0
def tw6672254268719841747:=0
def tw1884350571441829337:=0
def tw10813179814019660658:=0
def tw17858415937719602558:=0
def tw11916294744764337211:=0
def tw7124547736808006051:=0
def tw14314263057939648500:=0
def tw5430915768527698300:=0
def tw3884706476914324163:=0
def tw7434549963903428070:=0
def tw11248657269723123387:=0
def tw15544637628749888242:=0
def tw6572153426971879211:=0
def tw2595595241057506323:=0
def tw6165073110808195015:=0
def tw18056582561504902152:=0
def tw11049099142003832000:=0
def tw17191556377377877316:=0
def tw13217835356520418398:=0
def tw2137320726732548970:=0
def tw16698552187509057362:=0
def tw5968290940800214490:=0
def tw7732215398279413033:=0
def tw6813954062720619738:=0
def tw15750682810708469466:=0
def tw2916734476622383493:=0
def tw10307258928618408930:=0
def tw4920691818167128924:=0
def tw17777143776274503852:=0
def tw9673367870959289692:=0
def tw9912173401596523193:=0
def tw3542229339092412259:=0
def tw4892535608949187265:=0
def tw3504772173734601290:=0
def tw13323696835975503138:=0
def tw3209143295328402787:=0
def tw15891606351598001852:=0
def tw10353996500636339213:=0
def tw428406863240451347:=0
def tw7736009648271209244:=0
def tw10895183948377962687:=0
def tw11240091044982380979:=0
def tw1951751534011357076:=0
def tw7688149376296535599:=0
def tw16170187992294436543:=0
def tw8369356557201093072:=0
def tw18023729971476163705:=0
def tw11248324648622748537:=0
def tw7446715408592980317:=0
def tw6480936552994929341:=0
def tw8285211573270541007:=0
def tw8342010395027895188:=0
def tw17080712036340139068:=0
def tw17933302539250822078:=0
def tw15222895413711713359:=0
def tw2288163796232244965:=0
def tw1482223238501299891:=0
def tw16180603788244287926:=0
def tw16397957032705037295:=0
def tw315630810272875391:=0
def tw14896103794261503803:=0
def tw9611811295380306405:=0
def tw18215210375801474592:=0
def tw1382545838696252735:=0
def tw3320168977972194377:=0
def tw14327937209729132724:=0
def tw16159482202538533372:=0
def tw10079357337672676196:=0
def tw17908101784805545546:=0
def tw17722149310872193372:=0
def tw13538933213346555756:=0
def tw16778664411917216179:=0
def tw5283698424966173265:=0
def tw8224586017075731796:=0
def tw5929410502268917752:=0
def tw5580544540443824066:=0
def tw7246828364753492597:=0
def tw17348397612279770481:=0
def tw16493496518189757551:=0
def tw8707393101203172500:=0
def tw242439060992366973:=0
def tw1582729348190047803:=0
def tw1610650247406384602:=0
def tw3915131044114204177:=0
def tw16128940662250974307:=0
def tw2211971215597388974:=0
def tw15911240621981127480:=0
def tw7249485297809056845:=0
def tw4373086613361389523:=0
def tw8235495296048331407:=0
def tw10804002371592034470:=0
def tw4547532003357210193:=0
def tw1608794026258360453:=0
def tw5686122609005279642:=0
def tw12666487807309999202:=0
def tw11339398432513481620:=0
def tw7413577358692800924:=0
def tw2826689668490299139:=0
def tw11728188087516319486:=0
def tw10689710137592139245:=0
def tw4188633357267602550:=0
def tw3928345282853282279:=0
def tw8763655520931681314:=0
def tw6537519345078776035:=0
def tw10064980632354907769:=0
def tw5316102184426291068:=0
def tw6370941936156303956:=0
def tw17745751268884919220:=0
def tw10694370806029071566:=0
def tw3038330183119782496:=0
def tw13578007971970040103:=0
def tw8118107791167225192:=0
def tw11297397534646272719:=0
def tw2386321008673421705:=0
def tw2705722854580961420:=0
def tw8469005634903463118:=0
def tw2277988093213947776:=0
def tw16201259180097318648:=0
def tw2672576258624766202:=0
def tw482140670240719638:=0
def tw445132401777791667:=0
def tw6294780619431458495:=0
def tw7392299286502757043:=0
def tw10633303258707636451:=0
def tw16764254974275628975:=0
def tw14001740395451244513:=0
def tw10150754858817277375:=0
def tw4895245682723917637:=0
def tw15020403504448459934:=0
def tw10012202814417465284:=0
def tw16817388751006556786:=0
def tw14181812903423850800:=0
def tw14908097135219624557:=0
def tw4843093211431351031:=0
def tw15181819327370197209:=0
def tw280989706292574705:=0
def tw17072609999546934170:=0
def tw8492195609492618144:=0
def tw847906591938788773:=0
def tw1396017519652804172:=0
def tw17889453150903359254:=0
def tw3371749783600679235:=0
def tw5226644425994115225:=0
def tw12840335667437986788:=0
def tw17673992924403334026:=0
def tw14645966637044599429:=0
def tw9793249673839018693:=0
def tw6252250088719096813:=0
def tw10537059383591534732:=0
def tw12942565556810029193:=0
def tw10245450875764405388:=0
def tw11060319320584822965:=0
def tw2392613580661687660:=0
def tw5745723777446334426:=0
def tw9230540632504002956:=0
def tw10510167870486723252:=0
def tw3637289108410558539:=0
def tw11317070120609079318:=0
def tw9535996750100905002:=0
def tw13824330707331203118:=0
def tw5276944249336478003:=0
def tw1362123178161734625:=0
def tw2489476719841487556:=0
def tw15079522549835443235:=0
def tw10296862902853949379:=0
def tw5234696557871214138:=0
def tw18062361364291175:=0
def tw13154473291765859412:=0
def tw1297474785251645760:=0
def tw15062217635413815084:=0
def tw931449559694070959:=0
def tw9292970229039467100:=0
def tw11487068743328842167:=0
def tw3956378236328015857:=0
def tw963056336886377151:=0
def tw13944228085693776975:=0
def tw11609958269733891260:=0
def tw5981483227101214116:=0
def tw6102125059030050176:=0
def tw15873434817544884213:=0
def tw2231627872252402930:=0
def tw17121991659617351390:=0
def tw2152853210780909376:=0
def tw3894177914569539401:=0
def tw16191635331059760731:=0
def tw2818221933297510897:=0
def tw9812378694019052890:=0
def tw13492706478659923827:=0
def tw17841096958578236900:=0
def tw17192345500854930286:=0
def tw6442440596946346347:=0
def tw130918589345603268:=0
def tw18254454243069696022:=0
def tw14286444792796647496:=0
def tw10209806177483868714:=0
def tw9602892801955924656:=0
end PySem.W.Fast
open PySem PySem.W PyProof.Rows
set_option maxRecDepth 100000 in
set_option maxHeartbeats 0 in
theorem PySem.Challenge.cw_holdtalk_k48_names_holds : PySem.Challenge.rw_holdtalk_k48_names.Holds := by
 w_on;o_law;k_head;(case hw=>w_witness2)
 k_fill
 refine Toy.walk (l:=PySem.Challenge.rw_holdtalk_k48_names) rfl rfl (fun w h Y=>PySem.W.kIn_of Y) ?F
 case F=>
  intro w mg fa h KX G hmg
  refine' Toy.all_mk KX G hmg ?a1 ?l1 ?c1 ?k1 ?a2 ?l2 ?c2 ?k2 ?a3 ?l3 ?c3 ?k3 ?a4 ?l4 ?c4 ?k4 ?a5 ?l5 ?c5 ?k5 ?a6 ?l6 ?c6 ?k6 ?a7 ?l7 ?c7 ?k7 ?a8 ?i8 ?l8 ?c8 ?k8 ?a9 ?l9 ?c9 ?k9 ?a10 ?l10 ?c10 ?k10 ?a11 ?l11 ?c11 ?k11 ?a12 ?l12 ?c12 ?k12 ?a13 ?l13 ?c13 ?k13 ?a14 ?l14 ?c14 ?k14 ?a15 ?l15 ?c15 ?k15 ?a16 ?l16 ?c16 ?k16 ?a17 ?l17 ?c17 ?k17 ?a18 ?l18 ?c18 ?k18 ?a19 ?l19 ?c19 ?k19 ?a20 ?l20 ?c20 ?k20 ?a21 ?i21 ?l21 ?c21 ?k21 ?a22 ?l22 ?c22 ?k22 ?a23 ?l23 ?c23 ?k23 ?a24 ?i24 ?l24 ?c24 ?k24 ?a25 ?i25 ?l25 ?c25 ?k25 ?a26 ?i26 ?l26 ?c26 ?k26 ?a27 ?i27 ?l27 ?c27 ?k27 ?a28 ?i28 ?l28 ?c28 ?k28 ?a29 ?i29 ?l29 ?c29 ?k29 ?a30 ?i30 ?l30 ?c30 ?k30 ?a31 ?l31 ?c31 ?k31 ?a32 ?l32 ?c32 ?k32 ?a33 ?l33 ?c33 ?k33 ?a34 ?l34 ?c34 ?k34 ?a35 ?l35 ?c35 ?k35 ?a36 ?l36 ?c36 ?k36 ?a37 ?i37 ?l37 ?c37 ?k37 ?a38 ?i38 ?l38 ?c38 ?k38 ?a39 ?l39 ?c39 ?k39 ?yabs ?ylen ?yrange ?yisinstance ?yint ?ybool ?ystr ?ytuple ?ylist ?yset ?ysorted ?yany ?yall ?yValueError ?yenumerate ?xTn ?xTl ?xTm ?nTs ?xTi ?xTc1 ?xTt ?xTbse ?nuV ?xcg ?xct ?xn0 ?xl0 ?xm0 ?nxs0 ?xi0 ?xkp0 ?xcd0 ?nxm0 ?nxd0 ?xsa0 ?xga0 ?xgn0 ?xca0 ?xt0 ?xb0 ?xs0 ?xu0 ?xv0 ?xn1 ?xl1 ?xm1 ?nxs1 ?xi1 ?xkp1 ?xcd1 ?nxm1 ?nxd1 ?xsa1 ?xga1 ?xgn1 ?xca1 ?xt1 ?xb1 ?xs1 ?xu1 ?xv1 ?xn2 ?xl2 ?xm2 ?nxs2 ?xi2 ?xkp2 ?xcd2 ?nxm2 ?nxd2 ?xsa2 ?xga2 ?xgn2 ?xca2 ?xt2 ?xb2 ?xs2 ?xu2 ?xv2 ?xn3 ?xl3 ?xm3 ?nxs3 ?xi3 ?xkp3 ?xcd3 ?nxm3 ?nxd3 ?xsa3 ?xga3 ?xgn3 ?xca3 ?xt3 ?xb3 ?xs3 ?xu3 ?xv3 ?xn4 ?xl4 ?xm4 ?nxs4 ?xi4 ?xkp4 ?xcd4 ?nxm4 ?nxd4 ?xsa4 ?xga4 ?xgn4 ?xca4 ?xt4 ?xb4 ?xs4 ?xu4 ?xv4 ?xn5 ?xl5 ?xm5 ?nxs5 ?xi5 ?xkp5 ?xcd5 ?nxm5 ?nxd5 ?xsa5 ?xga5 ?xgn5 ?xca5 ?xt5 ?xb5 ?xs5 ?xu5 ?xv5 ?xn6 ?xl6 ?xm6 ?nxs6 ?xi6 ?xkp6 ?xcd6 ?nxm6 ?nxd6 ?xsa6 ?xga6 ?xgn6 ?xca6 ?xt6 ?xb6 ?xs6 ?xu6 ?xv6 ?xp0_1 ?nq0_1 ?xr0_1 ?xp0_2 ?nq0_2 ?xr0_2 ?xp0_3 ?nq0_3 ?xr0_3 ?xp0_4 ?nq0_4 ?xr0_4 ?xp0_5 ?nq0_5 ?xr0_5 ?xp0_6 ?nq0_6 ?xr0_6 ?xp1_0 ?nq1_0 ?xr1_0 ?xp1_2 ?nq1_2 ?xr1_2 ?xp1_3 ?nq1_3 ?xr1_3 ?xp1_4 ?nq1_4 ?xr1_4 ?xp1_5 ?nq1_5 ?xr1_5 ?xp1_6 ?nq1_6 ?xr1_6 ?xp2_0 ?nq2_0 ?xr2_0 ?xp2_1 ?nq2_1 ?xr2_1 ?xp2_3 ?nq2_3 ?xr2_3 ?xp2_4 ?nq2_4 ?xr2_4 ?xp2_5 ?nq2_5 ?xr2_5 ?xp2_6 ?nq2_6 ?xr2_6 ?xp3_0 ?nq3_0 ?xr3_0 ?xp3_1 ?nq3_1 ?xr3_1 ?xp3_2 ?nq3_2 ?xr3_2 ?xp3_4 ?nq3_4 ?xr3_4 ?xp3_5 ?nq3_5 ?xr3_5 ?xp3_6 ?nq3_6 ?xr3_6 ?xp4_0 ?nq4_0 ?xr4_0 ?xp4_1 ?nq4_1 ?xr4_1 ?xp4_2 ?nq4_2 ?xr4_2 ?xp4_3 ?nq4_3 ?xr4_3 ?xp4_5 ?nq4_5 ?xr4_5 ?xp4_6 ?nq4_6 ?xr4_6 ?xp5_0 ?nq5_0 ?xr5_0 ?xp5_1 ?nq5_1 ?xr5_1 ?xp5_2 ?nq5_2 ?xr5_2 ?xp5_3 ?nq5_3 ?xr5_3 ?xp5_4 ?nq5_4 ?xr5_4 ?xp5_6 ?nq5_6 ?xr5_6 ?xp6_0 ?nq6_0 ?xr6_0 ?xp6_1 ?nq6_1 ?xr6_1 ?xp6_2 ?nq6_2 ?xr6_2 ?xp6_3 ?nq6_3 ?xr6_3 ?xp6_4 ?nq6_4 ?xr6_4 ?xp6_5 ?nq6_5 ?xr6_5 ?aCTalk ?pgTalk ?hdTalk ?poTalk ?saTalk ?mkTalk ?kcTalk ?wTalk_many ?wTalk_kind ?wTalk_sentence ?wTalk_rule ?wTalk_space ?wTalk_parts ?wTalk_given ?wTalk_left ?wTalk_ended ?aCHouse ?pgHouse ?hdHouse ?poHouse ?saHouse ?mkHouse ?kcHouse ?wHouse_space ?wHouse_many ?wHouse_marks ?wHouse_talks ?wHouse_lines ?aL ?aJ ?lJ ?nJ ?aNS ?aLN
  (case aCTalk=>k_is)
  (case aCHouse=>k_is)
  (case a1=>k_is)
  (case l1=>k_is)
  (case c1=>k_is)
  (case k1=>k_is)
  (case a2=>k_is)
  (case l2=>k_is)
  (case c2=>k_is)
  (case k2=>k_is)
  (case a3=>k_is)
  (case l3=>k_is)
  (case c3=>k_is)
  (case k3=>k_is)
  (case a4=>k_is)
  (case l4=>k_is)
  (case c4=>k_is)
  (case k4=>k_is)
  (case a5=>k_is)
  (case l5=>k_is)
  (case c5=>k_is)
  (case k5=>k_is)
  (case a6=>k_is)
  (case l6=>k_is)
  (case c6=>k_is)
  (case k6=>k_is)
  (case a7=>k_is)
  (case l7=>k_is)
  (case c7=>k_is)
  (case k7=>k_is)
  (case a8=>k_is)
  (case i8=>k_is)
  (case l8=>k_is)
  (case c8=>k_is)
  (case k8=>k_is)
  (case a9=>k_is)
  (case l9=>k_is)
  (case c9=>k_is)
  (case k9=>k_is)
  (case a10=>k_is)
  (case l10=>k_is)
  (case c10=>k_is)
  (case k10=>k_is)
  (case a11=>k_is)
  (case l11=>k_is)
  (case c11=>k_is)
  (case k11=>k_is)
  (case a12=>k_is)
  (case l12=>k_is)
  (case c12=>k_is)
  (case k12=>k_is)
  (case a13=>k_is)
  (case l13=>k_is)
  (case c13=>k_is)
  (case k13=>k_is)
  (case a14=>k_is)
  (case l14=>k_is)
  (case c14=>k_is)
  (case k14=>k_is)
  (case a15=>k_is)
  (case l15=>k_is)
  (case c15=>k_is)
  (case k15=>k_is)
  (case a16=>k_is)
  (case l16=>k_is)
  (case c16=>k_is)
  (case k16=>k_is)
  (case a17=>k_is)
  (case l17=>k_is)
  (case c17=>k_is)
  (case k17=>k_is)
  (case a18=>k_is)
  (case l18=>k_is)
  (case c18=>k_is)
  (case k18=>k_is)
  (case a19=>k_is)
  (case l19=>k_is)
  (case c19=>k_is)
  (case k19=>k_is)
  (case a20=>k_is)
  (case l20=>k_is)
  (case c20=>k_is)
  (case k20=>k_is)
  (case a21=>k_is)
  (case i21=>k_is)
  (case l21=>k_is)
  (case c21=>k_is)
  (case k21=>k_is)
  (case a22=>k_is)
  (case l22=>k_is)
  (case c22=>k_is)
  (case k22=>k_is)
  (case a23=>k_is)
  (case l23=>k_is)
  (case c23=>k_is)
  (case k23=>k_is)
  (case a24=>k_is)
  (case i24=>k_is)
  (case l24=>k_is)
  (case c24=>k_is)
  (case k24=>k_is)
  (case a25=>k_is)
  (case i25=>k_is)
  (case l25=>k_is)
  (case c25=>k_is)
  (case k25=>k_is)
  (case a26=>k_is)
  (case i26=>k_is)
  (case l26=>k_is)
  (case c26=>k_is)
  (case k26=>k_is)
  (case a27=>k_is)
  (case i27=>k_is)
  (case l27=>k_is)
  (case c27=>k_is)
  (case k27=>k_is)
  (case a28=>k_is)
  (case i28=>k_is)
  (case l28=>k_is)
  (case c28=>k_is)
  (case k28=>k_is)
  (case a29=>k_is)
  (case i29=>k_is)
  (case l29=>k_is)
  (case c29=>k_is)
  (case k29=>k_is)
  (case a30=>k_is)
  (case i30=>k_is)
  (case l30=>k_is)
  (case c30=>k_is)
  (case k30=>k_is)
  (case a31=>k_is)
  (case l31=>k_is)
  (case c31=>k_is)
  (case k31=>k_is)
  (case a32=>k_is)
  (case l32=>k_is)
  (case c32=>k_is)
  (case k32=>k_is)
  (case a33=>k_is)
  (case l33=>k_is)
  (case c33=>k_is)
  (case k33=>k_is)
  (case a34=>k_is)
  (case l34=>k_is)
  (case c34=>k_is)
  (case k34=>k_is)
  (case a35=>k_is)
  (case l35=>k_is)
  (case c35=>k_is)
  (case k35=>k_is)
  (case a36=>k_is)
  (case l36=>k_is)
  (case c36=>k_is)
  (case k36=>k_is)
  (case a37=>k_is)
  (case i37=>k_is)
  (case l37=>k_is)
  (case c37=>k_is)
  (case k37=>k_is)
  (case a38=>k_is)
  (case i38=>k_is)
  (case l38=>k_is)
  (case c38=>k_is)
  (case k38=>k_is)
  (case a39=>k_is)
  (case l39=>k_is)
  (case c39=>k_is)
  (case k39=>k_is)
  (case yabs=>k_is)
  (case ylen=>k_is)
  (case yrange=>k_is)
  (case yisinstance=>k_is)
  (case yint=>k_is)
  (case ybool=>k_is)
  (case ystr=>k_is)
  (case ytuple=>k_is)
  (case ylist=>k_is)
  (case yset=>k_is)
  (case ysorted=>k_is)
  (case yany=>k_is)
  (case yall=>k_is)
  (case yValueError=>k_is)
  (case yenumerate=>k_is)
  (case xTn=>k_is)
  (case xTl=>k_is)
  (case xTm=>k_is)
  (case nTs=>first | k_is | rfl | decide | simp)
  (case xTi=>k_is)
  (case xTc1=>k_is)
  (case xTt=>k_is)
  (case xTbse=>k_is)
  (case nuV=>first | k_is | rfl | decide | simp)
  (case xcg=>k_is)
  (case xct=>k_is)
  (case xn0=>k_is)
  (case xl0=>k_is)
  (case xm0=>k_is)
  (case nxs0=>first | k_is | rfl | decide | simp)
  (case xi0=>k_is)
  (case xkp0=>k_is)
  (case xcd0=>k_is)
  (case nxm0=>first | k_is | rfl | decide | simp)
  (case nxd0=>first | k_is | rfl | decide | simp)
  (case xsa0=>k_is)
  (case xga0=>k_is)
  (case xgn0=>k_is)
  (case xca0=>k_is)
  (case xt0=>k_is)
  (case xb0=>k_is)
  (case xs0=>k_is)
  (case xu0=>k_is)
  (case xv0=>k_is)
  (case xn1=>k_is)
  (case xl1=>k_is)
  (case xm1=>k_is)
  (case nxs1=>first | k_is | rfl | decide | simp)
  (case xi1=>k_is)
  (case xkp1=>k_is)
  (case xcd1=>k_is)
  (case nxm1=>first | k_is | rfl | decide | simp)
  (case nxd1=>first | k_is | rfl | decide | simp)
  (case xsa1=>k_is)
  (case xga1=>k_is)
  (case xgn1=>k_is)
  (case xca1=>k_is)
  (case xt1=>k_is)
  (case xb1=>k_is)
  (case xs1=>k_is)
  (case xu1=>k_is)
  (case xv1=>k_is)
  (case xn2=>k_is)
  (case xl2=>k_is)
  (case xm2=>k_is)
  (case nxs2=>first | k_is | rfl | decide | simp)
  (case xi2=>k_is)
  (case xkp2=>k_is)
  (case xcd2=>k_is)
  (case nxm2=>first | k_is | rfl | decide | simp)
  (case nxd2=>first | k_is | rfl | decide | simp)
  (case xsa2=>k_is)
  (case xga2=>k_is)
  (case xgn2=>k_is)
  (case xca2=>k_is)
  (case xt2=>k_is)
  (case xb2=>k_is)
  (case xs2=>k_is)
  (case xu2=>k_is)
  (case xv2=>k_is)
  (case xn3=>k_is)
  (case xl3=>k_is)
  (case xm3=>k_is)
  (case nxs3=>first | k_is | rfl | decide | simp)
  (case xi3=>k_is)
  (case xkp3=>k_is)
  (case xcd3=>k_is)
  (case nxm3=>first | k_is | rfl | decide | simp)
  (case nxd3=>first | k_is | rfl | decide | simp)
  (case xsa3=>k_is)
  (case xga3=>k_is)
  (case xgn3=>k_is)
  (case xca3=>k_is)
  (case xt3=>k_is)
  (case xb3=>k_is)
  (case xs3=>k_is)
  (case xu3=>k_is)
  (case xv3=>k_is)
  (case xn4=>k_is)
  (case xl4=>k_is)
  (case xm4=>k_is)
  (case nxs4=>first | k_is | rfl | decide | simp)
  (case xi4=>k_is)
  (case xkp4=>k_is)
  (case xcd4=>k_is)
  (case nxm4=>first | k_is | rfl | decide | simp)
  (case nxd4=>first | k_is | rfl | decide | simp)
  (case xsa4=>k_is)
  (case xga4=>k_is)
  (case xgn4=>k_is)
  (case xca4=>k_is)
  (case xt4=>k_is)
  (case xb4=>k_is)
  (case xs4=>k_is)
  (case xu4=>k_is)
  (case xv4=>k_is)
  (case xn5=>k_is)
  (case xl5=>k_is)
  (case xm5=>k_is)
  (case nxs5=>first | k_is | rfl | decide | simp)
  (case xi5=>k_is)
  (case xkp5=>k_is)
  (case xcd5=>k_is)
  (case nxm5=>first | k_is | rfl | decide | simp)
  (case nxd5=>first | k_is | rfl | decide | simp)
  (case xsa5=>k_is)
  (case xga5=>k_is)
  (case xgn5=>k_is)
  (case xca5=>k_is)
  (case xt5=>k_is)
  (case xb5=>k_is)
  (case xs5=>k_is)
  (case xu5=>k_is)
  (case xv5=>k_is)
  (case xn6=>k_is)
  (case xl6=>k_is)
  (case xm6=>k_is)
  (case nxs6=>first | k_is | rfl | decide | simp)
  (case xi6=>k_is)
  (case xkp6=>k_is)
  (case xcd6=>k_is)
  (case nxm6=>first | k_is | rfl | decide | simp)
  (case nxd6=>first | k_is | rfl | decide | simp)
  (case xsa6=>k_is)
  (case xga6=>k_is)
  (case xgn6=>k_is)
  (case xca6=>k_is)
  (case xt6=>k_is)
  (case xb6=>k_is)
  (case xs6=>k_is)
  (case xu6=>k_is)
  (case xv6=>k_is)
  (case xp0_1=>k_is)
  (case nq0_1=>first | k_is | rfl | decide | simp)
  (case xr0_1=>k_is)
  (case xp0_2=>k_is)
  (case nq0_2=>first | k_is | rfl | decide | simp)
  (case xr0_2=>k_is)
  (case xp0_3=>k_is)
  (case nq0_3=>first | k_is | rfl | decide | simp)
  (case xr0_3=>k_is)
  (case xp0_4=>k_is)
  (case nq0_4=>first | k_is | rfl | decide | simp)
  (case xr0_4=>k_is)
  (case xp0_5=>k_is)
  (case nq0_5=>first | k_is | rfl | decide | simp)
  (case xr0_5=>k_is)
  (case xp0_6=>k_is)
  (case nq0_6=>first | k_is | rfl | decide | simp)
  (case xr0_6=>k_is)
  (case xp1_0=>k_is)
  (case nq1_0=>first | k_is | rfl | decide | simp)
  (case xr1_0=>k_is)
  (case xp1_2=>k_is)
  (case nq1_2=>first | k_is | rfl | decide | simp)
  (case xr1_2=>k_is)
  (case xp1_3=>k_is)
  (case nq1_3=>first | k_is | rfl | decide | simp)
  (case xr1_3=>k_is)
  (case xp1_4=>k_is)
  (case nq1_4=>first | k_is | rfl | decide | simp)
  (case xr1_4=>k_is)
  (case xp1_5=>k_is)
  (case nq1_5=>first | k_is | rfl | decide | simp)
  (case xr1_5=>k_is)
  (case xp1_6=>k_is)
  (case nq1_6=>first | k_is | rfl | decide | simp)
  (case xr1_6=>k_is)
  (case xp2_0=>k_is)
  (case nq2_0=>first | k_is | rfl | decide | simp)
  (case xr2_0=>k_is)
  (case xp2_1=>k_is)
  (case nq2_1=>first | k_is | rfl | decide | simp)
  (case xr2_1=>k_is)
  (case xp2_3=>k_is)
  (case nq2_3=>first | k_is | rfl | decide | simp)
  (case xr2_3=>k_is)
  (case xp2_4=>k_is)
  (case nq2_4=>first | k_is | rfl | decide | simp)
  (case xr2_4=>k_is)
  (case xp2_5=>k_is)
  (case nq2_5=>first | k_is | rfl | decide | simp)
  (case xr2_5=>k_is)
  (case xp2_6=>k_is)
  (case nq2_6=>first | k_is | rfl | decide | simp)
  (case xr2_6=>k_is)
  (case xp3_0=>k_is)
  (case nq3_0=>first | k_is | rfl | decide | simp)
  (case xr3_0=>k_is)
  (case xp3_1=>k_is)
  (case nq3_1=>first | k_is | rfl | decide | simp)
  (case xr3_1=>k_is)
  (case xp3_2=>k_is)
  (case nq3_2=>first | k_is | rfl | decide | simp)
  (case xr3_2=>k_is)
  (case xp3_4=>k_is)
  (case nq3_4=>first | k_is | rfl | decide | simp)
  (case xr3_4=>k_is)
  (case xp3_5=>k_is)
  (case nq3_5=>first | k_is | rfl | decide | simp)
  (case xr3_5=>k_is)
  (case xp3_6=>k_is)
  (case nq3_6=>first | k_is | rfl | decide | simp)
  (case xr3_6=>k_is)
  (case xp4_0=>k_is)
  (case nq4_0=>first | k_is | rfl | decide | simp)
  (case xr4_0=>k_is)
  (case xp4_1=>k_is)
  (case nq4_1=>first | k_is | rfl | decide | simp)
  (case xr4_1=>k_is)
  (case xp4_2=>k_is)
  (case nq4_2=>first | k_is | rfl | decide | simp)
  (case xr4_2=>k_is)
  (case xp4_3=>k_is)
  (case nq4_3=>first | k_is | rfl | decide | simp)
  (case xr4_3=>k_is)
  (case xp4_5=>k_is)
  (case nq4_5=>first | k_is | rfl | decide | simp)
  (case xr4_5=>k_is)
  (case xp4_6=>k_is)
  (case nq4_6=>first | k_is | rfl | decide | simp)
  (case xr4_6=>k_is)
  (case xp5_0=>k_is)
  (case nq5_0=>first | k_is | rfl | decide | simp)
  (case xr5_0=>k_is)
  (case xp5_1=>k_is)
  (case nq5_1=>first | k_is | rfl | decide | simp)
  (case xr5_1=>k_is)
  (case xp5_2=>k_is)
  (case nq5_2=>first | k_is | rfl | decide | simp)
  (case xr5_2=>k_is)
  (case xp5_3=>k_is)
  (case nq5_3=>first | k_is | rfl | decide | simp)
  (case xr5_3=>k_is)
  (case xp5_4=>k_is)
  (case nq5_4=>first | k_is | rfl | decide | simp)
  (case xr5_4=>k_is)
  (case xp5_6=>k_is)
  (case nq5_6=>first | k_is | rfl | decide | simp)
  (case xr5_6=>k_is)
  (case xp6_0=>k_is)
  (case nq6_0=>first | k_is | rfl | decide | simp)
  (case xr6_0=>k_is)
  (case xp6_1=>k_is)
  (case nq6_1=>first | k_is | rfl | decide | simp)
  (case xr6_1=>k_is)
  (case xp6_2=>k_is)
  (case nq6_2=>first | k_is | rfl | decide | simp)
  (case xr6_2=>k_is)
  (case xp6_3=>k_is)
  (case nq6_3=>first | k_is | rfl | decide | simp)
  (case xr6_3=>k_is)
  (case xp6_4=>k_is)
  (case nq6_4=>first | k_is | rfl | decide | simp)
  (case xr6_4=>k_is)
  (case xp6_5=>k_is)
  (case nq6_5=>first | k_is | rfl | decide | simp)
  (case xr6_5=>k_is)
  (case pgTalk=>k_is)
  (case hdTalk=>k_is)
  (case poTalk=>k_is)
  (case saTalk=>k_is)
  (case mkTalk=>k_is)
  (case kcTalk=>k_is)
  (case wTalk_many=>k_is)
  (case wTalk_kind=>k_is)
  (case wTalk_sentence=>k_is)
  (case wTalk_rule=>k_is)
  (case wTalk_space=>k_is)
  (case wTalk_parts=>k_is)
  (case wTalk_given=>k_is)
  (case wTalk_left=>k_is)
  (case wTalk_ended=>k_is)
  (case pgHouse=>k_is)
  (case hdHouse=>k_is)
  (case poHouse=>k_is)
  (case saHouse=>k_is)
  (case mkHouse=>k_is)
  (case kcHouse=>k_is)
  (case wHouse_space=>k_is)
  (case wHouse_many=>k_is)
  (case wHouse_marks=>k_is)
  (case wHouse_talks=>k_is)
  (case wHouse_lines=>k_is)
  (case aL=>k_is)
  (case aJ=>k_is)
  (case lJ=>k_is)
  (case nJ=>first | k_is | rfl | decide | simp)
  (case aNS=>k_is)
  (case aLN=>k_is)
