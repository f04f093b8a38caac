import PyProof.Rows.All
import Wide.All
import OpenK.AllK
import Wide.FinOn
import Lean
import PyProof.EqAt
import PyProof.EqKinds
import PyProof.TupleCall
import PyProof.NeKinds
import PyProof.EnumMake
import PyProof.EnumStmt
import PyProof.Draws
import PyProof.WalksT
import PyProof.StrWalks
import PyProof.Rows.EnumRows
import PyProof.StrLawsIdx
import PyProof.StrBlockI
import PyProof.StationsW
import PyProof.ExcInit
import PyProof.ExcBaseAll.ValueError
import PyProof.ExcAttrAll.ValueError
import PyProof.Rows.CatchOwn
import PyProof.CompUse
import PyProof.CompFree
import PyProof.SetKind
import PyProof.SetScanFacts
import PyProof.SetRoads
import PyProof.SetNew
import PyProof.Rows.SetFrom
import PyProof.CollectWalk
import PyProof.Rows.SortShell
import PyProof.Cells
import PyProof.ListRange
import PyProof.ConsumeWalk
import PyProof.Tail
import KE.KRevIter
import PyProof.CallStr
import PyProof.AutoSeq1
import PyProof.SeqRoads2
import PyProof.FactsAll.bool_1
import PyProof.FactsAll.NoneType_1
import PyProof.FactsAll.range_1
import KE.KDictList
import PySem.Challenge.RW_holdtalk_k32_papers_judged
set_option Elab.async false
set_option linter.all false
set_option maxRecDepth 100000
set_option autoImplicit true
set_option relaxedAutoImplicit true
namespace Aq
abbrev zA:=@List.length_append
abbrev zAA:=@Nat.le_refl
abbrev zAB:=@PySem.Heap.lt_size
abbrev zAC:=@Bool.false_ne_true
abbrev zAD:=@PySem.F.plainAttrs_list
abbrev zAE:=@Nat.ne_of_lt
abbrev zAF:=@Array.length_toList
abbrev zAG:=@List.size_toArray
abbrev zAH:=@Nat.le_trans
abbrev zAI:=@List.length_cons
abbrev zAJ:=@Nat.lt_of_lt_of_le
abbrev zAK:=@PySem.F.slot_list_append
abbrev zAL:=@PySem.F.type_list_append
abbrev zAM:=@List.map_append
abbrev zAN:=@Bool.and_eq_true
abbrev zAO:=@List.filter_sublist
abbrev zAP:=@Option.some.inj
abbrev zAQ:=@List.mem_of_getElem?
abbrev zAR:=@List.not_mem_nil
abbrev zAS:=@List.mem_cons
abbrev zAT:=@List.take_add_one
abbrev zAU:=@PySem.Heap.size_push
abbrev zAV:=@PySem.Heap.SameBut.update
abbrev zAW:=@PySem.PassesOwn.never
abbrev zAX:=@List.take_length
abbrev zAY:=@List.mem_append_right
abbrev zAZ:=@List.length_filter_le
abbrev zA0:=@List.all_eq_true
abbrev zA1:=@Nat.succ.inj
abbrev zA2:=@Classical.byContradiction
abbrev zA3:=@List.getElem_mem
abbrev zA4:=@Nat.lt_succ_of_lt
abbrev zA5:=@PySem.mem_of_lookup
abbrev zA6:=@Bool.eq_iff_iff
abbrev zA7:=@Ne.symm
abbrev zA8:=@Int.emod_nonneg
abbrev zA9:=@Nat.zero_le
abbrev zB:=@Bool.true_and
abbrev zBA:=@List.Sublist.refl
abbrev zBB:=@Int.emod_lt_of_pos
abbrev zBC:=@List.filterMap_cons_some
abbrev zBD:=@PyProof.Rows.callWith_type1
abbrev zBE:=@PySem.F.slot_list_pop
abbrev zBF:=@PySem.F.type_list_pop
abbrev zBG:=@PySem.Heap.SameBut.refl
abbrev zBH:=@Int.eq_ofNat_of_zero_le
abbrev zBI:=@PySem.Obj.data_mapFields
abbrev zBJ:=@Bool.or_eq_true
abbrev zBK:=@List.drop_eq_getElem_cons
abbrev zBL:=@List.map_cons
abbrev zBM:=@Nat.succ_pos
abbrev zBN:=@List.filterMap_cons_none
abbrev zBO:=@PySem.W.kia_one
abbrev zBP:=@List.append_nil
abbrev zBQ:=@Nat.le_of_lt
abbrev zBR:=@Nat.ne_of_gt
abbrev zBS:=@Bool.false_and
abbrev zBT:=@Nat.le_succ
abbrev zBU:=@List.mem_append_left
abbrev zBV:=@List.Perm.refl
abbrev zBW:=@List.dropLast_concat
abbrev zBX:=@List.take_of_length_le
abbrev zBY:=@Nat.lt_irrefl
abbrev zBZ:=@List.any_eq_true
abbrev zB0:=@PySem.Obj.isFreed_of_fields
abbrev zB1:=@List.mem_singleton
abbrev zB2:=@Bool.false_eq_true
abbrev zB3:=@List.map_map
abbrev zB4:=@PySem.Paired.length
abbrev zB5:=@List.all_cons
abbrev zB6:=@List.any_cons
abbrev zB7:=@Nat.lt_succ_self
abbrev zB8:=@List.take_append_drop
abbrev zB9:=@Int.toNat_natCast
abbrev zC:=@List.reverse_cons
abbrev zCA:=@PySem.Around.under_plainId
abbrev zCB:=@List.length_drop
abbrev zCC:=@List.eraseIdx_eq_take_drop_succ
abbrev zCD:=@PySem.SeqAt.EqAt.same
abbrev zCE:=@Nat.not_lt_zero
abbrev zCF:=@List.append_assoc
abbrev zCG:=@List.filter_congr
abbrev zCH:=@Bool.and_false
abbrev zCI:=@Nat.lt_trans
abbrev zCJ:=@List.any_map
abbrev zCK:=@List.ext_getElem
abbrev zCL:=@List.drop_length
abbrev zCM:=@Int.fdiv_eq_ediv_of_nonneg
abbrev zCN:=@List.length_reverse
abbrev zCO:=@List.forall_mem_nil
abbrev zCP:=@PySem.W.callWith_K
abbrev zCQ:=@PySem.SeqAt.RcAt.lists_lengths
abbrev zCR:=@PySem.Code.quiet_builtin
abbrev zCS:=@PySem.SeqAt.EqAt.of_refs
abbrev zCT:=@List.filter_append
abbrev zCU:=@PyProof.Rows.F.plain_set_update_loop
abbrev zCV:=@List.filter_cons_of_neg
abbrev zCW:=@List.filter_cons_of_pos
abbrev zCX:=@PySem.Calls.callWith_builtin
abbrev zCY:=@List.pairwise_lt_range
abbrev zCZ:=@Nat.lt_of_succ_lt_succ
abbrev zC0:=@List.length_pos_of_mem
abbrev zC1:=@Bool.not_true
abbrev zC2:=@PySem.SeqAt.RcAt.lists
abbrev zC3:=@List.lookup_cons
abbrev zC4:=@List.cons_ne_nil
abbrev zC5:=@List.map_nil
abbrev zC6:=@List.sum_append
abbrev zC7:=@List.mem_append
abbrev zC8:=@List.length_eraseIdx
abbrev zC9:=@Array.toArray_toList
abbrev zD:=@List.range_succ
abbrev zDA:=@Int.ediv_nonneg
abbrev zDB:=@List.all_append
abbrev zDC:=@PySem.W.plainGet_of
abbrev zDD:=@List.toList_toArray
abbrev zDE:=@List.mem_map_of_mem
abbrev zDF:=@PySem.SeqAt.EqAt.int_str
abbrev zDG:=@PySem.SeqAt.EqAt.str_int
abbrev zDH:=@PySem.SeqAt.EqAt.int_int
abbrev zDI:=@Nat.lt_of_le_of_lt
abbrev zDJ:=@PySem.SeqAt.RcNeAt.lists
abbrev zDK:=@List.map_filterMap
abbrev zDL:=@Bool.or_false
abbrev zDM:=@Bool.and_true
abbrev zDN:=@List.sum_cons
abbrev zDO:=@List.any_eq_false
abbrev zDP:=@PySem.Obj.cls_mapFields
abbrev zDQ:=@List.all_map
end Aq
open Aq
namespace L2
open PySem PySem.Spec PyProof.Rows
abbrev JZ:=Sum Int Str
def Sf:JZ->Value->Bool
 | .inl k,v=>Value.isInt k v
 | .inr x,v=>Value.isStrOf x v
def UM(w:World):JZ->Int
 | .inl k=>hashInt k
 | .inr x=>hashStr w x
theorem Bj:∀{k:JZ}{v:Value},Sf k v=true->(∃i t,k=Sum.inl i/\v=Value.int i t)\/(∃x t,k=Sum.inr x/\v=Value.str x t)
 | .inl i,v,h=>by
  obtain⟨t,e⟩:=Value.isInt_shape (k:=i) (v:=v) h
  exact .inl ⟨i,t,rfl,e⟩
 | .inr x,v,h=>by
  obtain⟨t,e⟩:=Value.isStrOf_shape (x:=x) (v:=v) h
  exact .inr ⟨x,t,rfl,e⟩
theorem S8(a b:Int):decide ((Sum.inl a:JZ)=Sum.inl b)=(a == b):=by
 by_cases e:a=b
 ·subst e;simp
 ·have h:¬(Sum.inl a:JZ)=Sum.inl b:=fun q=>e (Sum.inl.inj q)
  rw[decide_eq_false h]
  exact (beq_eq_false_iff_ne.mpr e).symm
theorem SU(a b:Str):decide ((Sum.inr a:JZ)=Sum.inr b)=decide (a=b):=by
 by_cases e:a=b
 ·subst e;simp
 ·have h:¬(Sum.inr a:JZ)=Sum.inr b:=fun q=>e (Sum.inr.inj q)
  rw[decide_eq_false h,decide_eq_false e]
theorem S1(a:Int)(b:Str):decide ((Sum.inl a:JZ)=Sum.inr b)=false:=decide_eq_false (fun q=>nomatch q)
theorem Su(a:Str)(b:Int):decide ((Sum.inr a:JZ)=Sum.inl b)=false:=decide_eq_false (fun q=>nomatch q)
def Ju(prog:Program)(w:World):PySem.KeyKind prog w JZ where
 is:=Sf
 hash:=UM w
 inj:=fun v a b ha hb=>by
  rcases Bj ha with⟨i,t,rfl,rfl⟩|⟨x,t,rfl,rfl⟩
  ·rcases Bj hb with⟨j,u,rfl,e⟩|⟨y,u,rfl,e⟩
   ·injection e with e1 _;rw[e1]
   ·exact nomatch e
  ·rcases Bj hb with⟨j,u,rfl,e⟩|⟨y,u,rfl,e⟩
   ·exact nomatch e
   ·injection e with e1 _;rw[e1]
 byValue:=fun k v h=>by
  rcases Bj h with⟨i,t,rfl,rfl⟩|⟨x,t,rfl,rfl⟩<;>rfl
 pyHash:=fun hv h=>by
  rcases Bj hv with⟨i,t,rfl,rfl⟩|⟨x,t,rfl,rfl⟩
  ·exact wpAny_pyHash_int h
  ·exact wpAny_pyHash_str h
 eqBool:=fun hu hv h=>by
  rcases Bj hu with⟨i,t,rfl,rfl⟩|⟨x,t,rfl,rfl⟩
  ·rcases Bj hv with⟨j,u,rfl,rfl⟩|⟨y,u,rfl,rfl⟩
   ·rw[S8] at h;exact wpAny_eqBool_int h
   ·rw[S1] at h;exact zDF i t y u _ _ _ _ h
  ·rcases Bj hv with⟨j,u,rfl,rfl⟩|⟨y,u,rfl,rfl⟩
   ·rw[Su] at h;exact zDG x t j u _ _ _ _ h
   ·rw[SU] at h;exact wpAny_eqBool_str h
 «strs»:=fun k x t v h=>by
  rcases Bj h with⟨i,u,rfl,e⟩|⟨y,u,rfl,e⟩
  ·exact nomatch e
  ·injection e with e1 _
   subst e1
   cases v<;>rfl
end L2
namespace L2
open PySem PySem.Spec PyProof.Rows
inductive V where
 | non | bl (b:Bool) | int (i:Int) | str (x:Str) | byt (b:Array UInt8) | flt (b:UInt64) | ref (a:Addr) | ty (n:String)
 deriving DecidableEq
def RelV:V->Value->Prop
 | .non,u=>u=Value.none
 | .bl b,u=>u=Value.bool b
 | .int i,u=>∃t,u=Value.int i t
 | .str x,u=>∃t,u=Value.str x t
 | .byt b,u=>∃t,u=Value.bytes b t
 | .flt b,u=>∃t,u=Value.float b t
 | .ref a,u=>u=Value.ref a
 | .ty n,u=>u=Value.type n
abbrev Vals:List V->List Value->Prop:=Paired RelV
theorem Vals.length(r:Vals xs us):xs.length=us.length:=zB4 r
theorem Vals.get:∀{xs:List V}{us:List Value}{i:Nat}{x:V},Vals xs us->xs[i]? = some x->∃u,us[i]? = some u/\RelV x u
 | _,_,_,_,.nil,e=>by simp at e
 | _,_,0,_,.cons r _,e=>by simp at e;subst e;exact⟨_,rfl,r⟩
 | _,_,i+1,x,.cons _ t,e=>by
  obtain⟨u,h1,h2⟩:=Vals.get (i:=i) (x:=x) t (by simpa using e)
  exact⟨u,by simpa using h1,h2⟩
theorem Vals.append:∀{xs ys:List V}{us ws:List Value},Vals xs us->Vals ys ws->Vals (xs++ys) (us++ws)
 | _,_,_,_,.nil,s=>s
 | _,_,_,_,.cons r t,s=>.cons r (Vals.append t s)
theorem Vals.take:∀{xs:List V}{us:List Value}(n:Nat),Vals xs us->Vals (xs.take n) (us.take n)
 | _,_,0,_=>.nil
 | _,_,_+1,.nil=>.nil
 | _,_,n+1,.cons r t=>.cons r (Vals.take n t)
theorem Vals.drop:∀{xs:List V}{us:List Value}(n:Nat),Vals xs us->Vals (xs.drop n) (us.drop n)
 | _,_,0,r=>r
 | _,_,_+1,.nil=>.nil
 | _,_,n+1,.cons _ t=>Vals.drop n t
def RelO:Option V->Option Value->Prop
 | some v,some u=>RelV v u
 | none,none=>True
 | _,_=>False
def KV{κ:Type}:List (κ×V)->List (κ×Value)->Prop:=Paired fun(p:κ×V)(q:κ×Value)=>p.1=q.1/\RelV p.2 q.2
def kV:JZ->V
 | .inl i=>.int i
 | .inr x=>.str x
inductive HO where
 | lst (xs:List V)
 | tup (xs:List V)
 | dK (aS:List (JZ×V)) | dT (aS:List (List JZ×V))
 | set (S:Int->Bool) (n:Nat)
 | ins (C dx:Addr) (fs:List (Str×V))
 | own (x:Addr)
 | xd (fs:List (Str×V))
 | met (f x:Addr)
 | rng (lo hi:Int)
 | frz (o:Obj) (u:HO)
 | tbl (ps:Array Value)
 | ext (φ:Heap->Prop)
abbrev Hp:=Addr->Option HO
def upd(H:Hp)(a:Addr)(o:HO):Hp:=fun b=>if b=a then some o else H b
theorem upd_same:upd H a o a=some o:=by unfold upd;rw[if_pos rfl]
theorem Ax(h:b≠a):upd H a o b=H b:=by unfold upd;rw[if_neg h]
theorem DU{H:Hp}{a b:Addr}{o u:HO}(h:H a=some o)(h':H b=some u)(d:o≠u):a≠b:=by
 intro e;subst e;rw[h] at h';exact d (zAP h')
theorem An{H:Hp}{a b:Addr}{o:HO}(h:H a=some o)(h':H b=none):a≠b:=by
 intro e;subst e;rw[h] at h';cases h'
section
variable (P:Program)(w:World)
def ObjOk(H:Hp)(h:Heap)(a:Addr):HO->Prop
 | .lst xs=>xs.length<=sizeLine/\∃(its:List Value)(n:Nat),Vals xs its/\h.get? a=some { cls:=.type "list",data:=.seq its.toArray n }
 | .tup xs=>xs.length<=sizeLine/\∃its:List Value,Vals xs its/\IsTup h a its.toArray
 | .dK aS=>aS.length<=sizeLine/\(a == sysModules)=false/\∃vs,KV aS vs/\h.DictOf (Ju P w) a vs
 | .dT aS=>aS.length<=sizeLine/\(a == sysModules)=false/\∃xs:List (List JZ×Addr×Value),
   Paired (fun(p:List JZ×V)(q:List JZ×Addr×Value)=>p.1=q.1/\H q.2.1=some (.tup (p.1.map kV))/\RelV p.2 q.2.2) aS xs/\
   ∃o es ep,h.get? a=some o/\o.ExactDict/\o.data= .dict es ep/\es.toList=xs.map (entryOfKey (tupleKind (Ju P w)))/\(xs.map (·.1)).Nodup
 | .set S n=>h.SetOf (intKind P w) a S n
 | .ins C dx fs=>H dx=some (.own a)/\fs.length<=1000/\dx≠a/\h.get? a=some (PySem.W.instObj C dx)/\
   ∃mA,h.Ns1 dx mA/\(∀f,RelO (fs.lookup f) (mA f))/\PySem.Within mA (fs.map (·.1))
 | .own _=>∃o,h.get? a=some o
 | .xd fs=>∃mA,h.Ns1 a mA/\∀f,RelO (fs.lookup f) (mA f)
 | .rng lo hi=>∃t u v,h.get? a=some { cls:=.type "range",data:=.fields #[.int lo t,.int hi u,.int 1 v] }
 | .frz o u=>h.get? a=some o/\ObjOk H h a u
 | .tbl ps=>h.get? a=some { cls:=.none,data:=.fields ps }
 | .met f x=>h.get? a=some (PySem.W.methodObj (.ref f) (.ref x))
 | .ext φ=>φ h/\(∃o,h.get? a=some o)/\∀h1 h2:Heap,φ h1->(∀o,h1.get? a=some o->h2.get? a=some o)->φ h2
def HOk(H:Hp)(h:Heap):Prop:=∀a o,H a=some o->ObjOk P w H h a o
end
section
variable {P:Program}{w:World}{H H':Hp}{h h':Heap}{a:Addr}{o:HO}
theorem ObjOk.lt(x:ObjOk P w H h a o):a<h.objs.size:=by
 cases o with
 | lst xs=>obtain⟨_,_,_,_,e⟩:=x;exact zAB e
 | tup xs=>obtain⟨_,_,_,p⟩:=x;exact p.lt
 | dK aS=>obtain⟨_,_,_,_,o,_,_,e,_⟩:=x;exact zAB e
 | dT aS=>obtain⟨_,_,_,_,o,_,_,e,_⟩:=x;exact zAB e
 | set S n=>obtain⟨o,_,_,_,e,_⟩:=x;exact zAB e
 | ins C dx fs=>obtain⟨_,_,_,e,_⟩:=x;exact zAB e
 | own y=>obtain⟨_,e⟩:=x;exact zAB e
 | xd fs=>obtain⟨_,⟨_,_,_,e,_⟩,_⟩:=x;exact zAB e
 | rng lo hi=>obtain⟨_,_,_,e⟩:=x;exact zAB e
 | frz ob u=>obtain⟨e,_⟩:=x;exact zAB e
 | tbl ps=>exact zAB (show h.get? a=some _ from x)
 | met f y=>exact zAB (show h.get? a=some _ from x)
 | ext φ=>obtain⟨_,⟨_,e⟩,_⟩:=x;exact zAB e
theorem Paired.mapP{α β:Type}{F G:α->β->Prop}:∀{l₁:List α}{l₂:List β},Paired F l₁ l₂->(∀a b,F a b->G a b)->Paired G l₁ l₂
 | _,_,.nil,_=>.nil
 | _,_,.cons r t,f=>.cons (f _ _ r) (Paired.mapP t f)
theorem ObjOk.stay(x:ObjOk P w H h a o)(k:∀b u,(b=a\/H b=some (.own a))->h.get? b=some u->h'.get? b=some u)(ho:∀b,H b=some (.own a)->H' b=some (.own a))(ht:∀b xs,H b=some (.tup xs)->H' b=some (.tup xs)):ObjOk P w H' h' a o:=by
 induction o with
 | lst xs=>obtain⟨z,its,n,r,e⟩:=x;exact⟨z,its,n,r,k _ _ (.inl rfl) e⟩
 | tup xs=>obtain⟨z,its,r,ob,e,c⟩:=x;exact⟨z,its,r,ob,k _ _ (.inl rfl) e,c⟩
 | dK aS=>obtain⟨z,y,vs,r,ob,es,ep,e,c⟩:=x;exact⟨z,y,vs,r,ob,es,ep,k _ _ (.inl rfl) e,c⟩
 | dT aS=>
  obtain⟨z,y,xs,r,ob,es,ep,e,c⟩:=x
  exact⟨z,y,xs,Paired.mapP r fun p q z=>⟨z.1,ht _ _ z.2.1,z.2.2⟩,ob,es,ep,k _ _ (.inl rfl) e,c⟩
 | set S n=>obtain⟨ob,es,ep,t,e,c⟩:=x;exact⟨ob,es,ep,t,k _ _ (.inl rfl) e,c⟩
 | ins C dx fs=>
  obtain⟨d,z,ne,e,mA,⟨od,es,ep,e2,c⟩,r⟩:=x
  exact⟨ho _ d,z,ne,k _ _ (.inl rfl) e,mA,⟨od,es,ep,k _ _ (.inr d) e2,c⟩,r⟩
 | own y=>obtain⟨ob,e⟩:=x;exact⟨ob,k _ _ (.inl rfl) e⟩
 | xd fs=>obtain⟨mA,⟨od,es,ep,e,c⟩,r⟩:=x;exact⟨mA,⟨od,es,ep,k _ _ (.inl rfl) e,c⟩,r⟩
 | rng lo hi=>obtain⟨t,u,v,e⟩:=x;exact⟨t,u,v,k _ _ (.inl rfl) e⟩
 | frz ob u ih=>obtain⟨e,q⟩:=x;exact⟨k _ _ (.inl rfl) e,ih q⟩
 | tbl ps=>
  have e:h.get? a=some { cls:=.none,data:=.fields ps }:=x
  show h'.get? a=some { cls:=.none,data:=.fields ps }
  exact k a _ (.inl rfl) e
 | met f y=>
  have e:h.get? a=some (PySem.W.methodObj (.ref f) (.ref y)):=x
  show h'.get? a=some (PySem.W.methodObj (.ref f) (.ref y))
  exact k a _ (.inl rfl) e
 | ext φ=>obtain⟨p,⟨o,e⟩,st⟩:=x;exact⟨st _ _ p fun o q=>k _ _ (.inl rfl) q,⟨o,k _ _ (.inl rfl) e⟩,st⟩
theorem HOk.lt(x:HOk P w H h)(e:H a=some o):a<h.objs.size:=(x a o e).lt
theorem HOk.fresh(x:HOk P w H h)(e:h.objs.size<=a):H a=none:=by
 cases q:H a with
 | none=>rfl
 | some u=>exact absurd (zAJ (x.lt q) e) (zBY _)
theorem HOk.kept(x:HOk P w H h)(k:∀b u,h.get? b=some u->h'.get? b=some u):HOk P w H h':=fun a o e=>
 (x a o e).stay (fun b u _ q=>k b u q) (fun _ q=>q) fun _ _ q=>q
theorem HOk.laid(x:HOk P w H h)(k:∀b u,h.get? b=some u->h'.get? b=some u)(hp:h.objs.size<=a)(new:ObjOk P w (upd H a o) h' a o):HOk P w (upd H a o) h':=fun b u e=>by
 have hn:=x.fresh hp
 by_cases hb:b=a
 ·subst hb;rw[upd_same] at e;cases e;exact new
 ·rw[Ax hb] at e
  exact (x b u e).stay (fun c v _ q=>k c v q) (fun c q=>by rw[Ax (An q hn)];exact q) fun c xs q=>by rw[Ax (An q hn)];exact q
end
def Rd(H:Hp)(a:Addr)(u:HO):Prop:=H a=some u\/∃o,H a=some (.frz o u)
theorem Rd.ok(r:Rd H a u)(x:HOk P w H h):ObjOk P w H h a u:=by
 rcases r with r | ⟨o,r⟩
 ·exact x a u r
 ·obtain⟨_,q⟩:=x a _ r
  exact q
def Tq:Option HO->Prop
 | some (.lst _)=>True
 | some (.dK _)=>True
 | some (.dT _)=>True
 | some (.set _ _)=>True
 | some (.ins _ _ _)=>True
 | some (.ext _)=>True
 | _=>False
section
variable {P:Program}{w:World}{H:Hp}{h h':Heap}{x e:Addr}{o':HO}
theorem HOk.write(ok:HOk P w H h)(mu:Tq (H x))(he:e=x\/H e=some (.own x))(k:∀b u,b≠e->h.get? b=some u->h'.get? b=some u)(heo:∃u,h'.get? e=some u)(new:ObjOk P w (upd H x o') h' x o'):HOk P w (upd H x o') h':=fun b u q=>by
 have nown:∀c y,H c=some (.own y)->c≠x:=fun c y r z=>by subst z;rw[r] at mu;exact mu
 have ntup:∀c xs,H c=some (.tup xs)->c≠x:=fun c xs r z=>by subst z;rw[r] at mu;exact mu
 by_cases hb:b=x
 ·subst hb;rw[upd_same] at q;cases q;exact new
 ·rw[Ax hb] at q
  by_cases hbe:b=e
  ·have q':H b=some (.own x):=by
    rcases he with z | z
    ·exact absurd (hbe.trans z) hb
    ·rw[hbe];exact z
   rw[q] at q';cases q'
   obtain⟨v,hv⟩:=heo
   exact⟨v,by rw[hbe];exact hv⟩
  ·refine (ok b u q).stay (fun c v hc r=>k c v ?_ r) (fun c r=>by rw[Ax (nown c b r)];exact r) fun c xs r=>by rw[Ax (ntup c xs r)];exact r
   rcases hc with rfl | hc
   ·exact hbe
   ·rintro rfl
    rcases he with z | z
    ·exact nown c b hc z
    ·rw[hc] at z;cases z;exact hb rfl
end
structure Un(fs ex:List Addr)(H H':Hp)(h h':Heap):Prop where
 keep:∀b o,h.get? b=some o->H b=none->b∉fs->b∉ex->h'.get? b=some o
 slot:∀b o,h.get? b=some o->H b=none->b∈fs->b∉ex->∃sl,h'.get? b=some { o with slots:=sl }
 free:∀b o,h.get? b=some o->H b=none->b∉ex->H' b=none
 there:∀b o,h.get? b=some o->b∉ex->∃o',h'.get? b=some o'
 tups:∀b xs,H b=some (.tup xs)->H' b=some (.tup xs)
 frzs:∀b o u,H b=some (.frz o u)->H' b=some (.frz o u)
 tbls:∀b ps,H b=some (.tbl ps)->∃more,H' b=some (.tbl (ps++more))
section
variable {fs fs' ex ex':List Addr}{H H1 H2:Hp}{h h1 h2 h':Heap}{a x e:Addr}{o:HO}
theorem Un.any(u:Un fs ex H H1 h h1)(q:h.get? b=some ob)(n:H b=none)(hx:b∉ex):∃sl,h1.get? b=some { ob with slots:=sl }:=by
 by_cases hb:b∈fs
 ·exact u.slot b ob q n hb hx
 ·exact⟨ob.slots,u.keep b ob q n hb hx⟩
theorem Un.kept(k:∀b u,h.get? b=some u->h'.get? b=some u):Un fs ex H H h h':=
 ⟨fun b ob q _ _ _=>k b ob q,fun b ob q _ _ _=>⟨ob.slots,k b ob q⟩,fun _ _ _ n _=>n,fun b ob q _=>⟨ob,k b ob q⟩,fun _ _ q=>q,fun _ _ _ q=>q,fun _ ps q=>⟨#[],by rw[q];simp⟩⟩
theorem Un.refl:Un fs ex H H h h:=Un.kept fun _ _ q=>q
theorem Un.laid(k:∀b u,h.get? b=some u->h'.get? b=some u)(hp:h.objs.size<=a)(hn:H a=none):Un fs ex H (upd H a o) h h' where
 keep:=fun b u q _ _ _=>k b u q
 slot:=fun b u q _ _ _=>⟨u.slots,k b u q⟩
 free:=fun b u q n _=>by rw[Ax (zAE (zAJ (zAB q) hp))];exact n
 there:=fun b u q _=>⟨u,k b u q⟩
 tups:=fun b xs q=>by rw[Ax (An q hn)];exact q
 frzs:=fun b u xs q=>by rw[Ax (An q hn)];exact q
 tbls:=fun b ps q=>⟨#[],by rw[Ax (An q hn),q];simp⟩
theorem Un.write(mu:Tq (H x))(he:e=x\/H e=some (.own x))(k:∀b u,b≠e->h.get? b=some u->h'.get? b=some u)(heo:∃u,h'.get? e=some u):Un fs ex H (upd H x o) h h':=by
 have hx:∀b,H b=none->b≠x:=fun b n z=>by subst z;rw[n] at mu;exact mu
 have hb:∀b,H b=none->b≠e:=fun b n z=>by
  subst z
  rcases he with r | r
  ·exact hx b n r
  ·rw[n] at r;cases r
 have hm:∀b u,H b=some u->¬Tq (some u)->b≠x:=fun b u q nm z=>by subst z;rw[q] at mu;exact nm mu
 refine⟨fun b u q n _ _=>k b u (hb b n) q,fun b u q n _ _=>⟨u.slots,k b u (hb b n) q⟩,fun b u q n _=>by rw[Ax (hx b n)];exact n,fun b u q _=>?_,
  fun b xs q=>by rw[Ax (hm b _ q fun z=>z)];exact q,fun b u xs q=>by rw[Ax (hm b _ q fun z=>z)];exact q,fun b ps q=>⟨#[],by rw[Ax (hm b _ q fun z=>z),q];simp⟩⟩
 by_cases hbe:b=e
 ·subst hbe;exact heo
 ·exact⟨u,k b u hbe q⟩
end
def Ut(h:Heap)(H:Hp):List Addr:=(List.range h.objs.size).filter fun a=>(H a).isSome
def Jr(h:Heap)(H:Hp):Heap:=PySem.W.hideAll h (Ut h H)
theorem On(h:Heap)(H:Hp):(Jr h H).objs.size=h.objs.size:=PySem.W.hideAll_size _ _
theorem Oz(e:h.get? b=some o)(n:H b=none):(Jr h H).get? b=some o:=
 PySem.W.hideAll_get _ e fun hm=>by
  have q:(H b).isSome=true:=(List.mem_filter.mp hm).2
  rw[n] at q;simp at q
theorem QR(e:(Jr h H).get? b=some o):h.get? b=some o/\H b=none:=by
 have e':h.get? b=some o:=PySem.W.of_hideAll (Ut h H) e
 refine⟨e',?_⟩
 cases q:H b with
 | none=>rfl
 | some x=>
  have hm:b∈Ut h H:=List.mem_filter.mpr ⟨List.mem_range.mpr (zAB e'),by simp[q]⟩
  have z:(Jr h H).get? b=none:=PySem.W.hideAll_none (Ut h H) hm
  rw[z] at e;cases e
end L2
namespace L2
open PySem PySem.Spec PyProof.Rows
structure Mod(K:PySem.W.Frag)(mg:Str->Option Value)(base:Heap):Prop where
 kin:K.In base
 glob:base.Ns mainGlobals mg
 blt:∃mb,base.Ns builtinsNs mb/\∀x:Str,x≠"__name__"->mb x=bootBuiltins x
 nolimit:base.NoLimit
structure Cx where
 prog:Program
 w:World
 K:PySem.W.Frag
 mg:Str->Option Value
 base:Heap
 A:Around
 N:List Str
 s₀:Shared
 H₀:Hp
 env:Env
 outer:List Env
 stack:List Env
 ex:List Addr
 fn:Str->Bool
 calm:Bool
 pn:List (Addr×Obj)
 xe:Value->Shared->Prop
def Ib(l:List Env):List Addr:=l.filterMap (·.frame)
abbrev Cx.fs(X:Cx):List Addr:=Ib X.outer
def UW(sc:Scope)(x:Str):Prop:=sc.names.lookup x=some .local\/sc.names.lookup x=some .cell\/sc.names.lookup x=some .free
def Sm(sc:Scope)(x:Str):Prop:=sc.names.lookup x=some .local\/sc.names.lookup x=some .cell
def U1(env:Env)(h:Heap)(m:Str->Option Value)(x:Str)(u:Value):Prop:=
 (env.kindOf x=some .local/\m x=some u)\/((env.kindOf x=some .cell\/env.kindOf x=some .free)/\∃c,env.cells.lookup x=some c/\h.IsCell c (some u))
structure Cx.Ok(X:Cx):Prop where
 mod:Mod X.K X.mg X.base
 kind:X.env.scope.kind= .function
 glob:X.env.globals=mainGlobals
 blt:X.env.builtins=builtinsNs
 above:X.s₀.heap.objs.size<=X.env.locals
 inj:∀x y c,X.env.cells.lookup x=some c->X.env.cells.lookup y=some c->x=y
 has:∀x,(X.env.kindOf x=some .cell\/X.env.kindOf x=some .free)->∃c,X.env.cells.lookup x=some c
 cab:∀x c,X.fn x=true->X.env.cells.lookup x=some c->X.s₀.heap.objs.size<=c
 hd:X.calm=true->X.A.handled=none
 frames:X.A.frames=some X.stack
 stk:X.stack=X.outer\/(X.stack=X.env::X.outer/\X.env.frame=some X.env.locals)
 exf:∀b∈X.ex,b≠X.env.locals/\∀x c,X.env.cells.lookup x=some c->c≠b
 bs:∀b o,X.base.get? b=some o->X.s₀.heap.get? b=some o/\X.H₀ b=none
 bsz:X.base.objs.size<=X.s₀.heap.objs.size
 noex:∀b o,X.base.get? b=some o->b∉X.ex
 exfs:∀b∈X.ex,b∉X.fs
 funs:X.s₀.heap.FunFrames X.base X.outer
 frf:∀b∈X.fs,X.H₀ b=none
structure Inv(X:Cx)(pins:List (Addr×Obj))(σ:List (Option V))(H:Hp)(s:Shared):Prop where
 ok:X.Ok
 os:s.os=X.s₀.os
 bare:AllBare s.gens
 base:Un X.fs X.ex X.H₀ H X.s₀.heap s.heap
 loc:∃m,s.heap.Ns X.env.locals m/\∀(i:Nat)(x:Str)(v:V),X.N[i]? = some x->σ[i]? = some (some v)->UW X.env.scope x->∃u,RelV v u/\U1 X.env s.heap m x u
 cell:∀x c,X.env.cells.lookup x=some c->∃v,s.heap.IsCell c v
 free:H X.env.locals=none
 freeC:∀x c,X.env.cells.lookup x=some c->H c=none
 pin:∀p∈X.pn++pins,s.heap.get? p.1=some p.2/\H p.1=none/\p.1≠X.env.locals/\p.1∉X.fs/\∀v,p.2.data≠.cell v
 hok:HOk X.prog X.w H s.heap
 len:σ.length=X.N.length
section
variable {X:Cx}{pins:List (Addr×Obj)}{σ:List (Option V)}{H H':Hp}{s:Shared}{h':Heap}
theorem Cx.Ok.nofr(ok:X.Ok)(e:X.base.get? b=some o):b∉X.fs:=fun hb=>by
 have:=(ok.funs.mem hb).1
 rw[e] at this;cases this
theorem Inv.bs(I:Inv X pins σ H s):∀b o,X.base.get? b=some o->s.heap.get? b=some o/\H b=none:=fun b o e=>
 ⟨I.base.keep b o (I.ok.bs b o e).1 (I.ok.bs b o e).2 (I.ok.nofr e) (I.ok.noex b o e),I.base.free b o (I.ok.bs b o e).1 (I.ok.bs b o e).2 (I.ok.noex b o e)⟩
theorem Inv.bk(I:Inv X pins σ H s):∀b o,X.base.get? b=some o->s.heap.get? b=some o:=fun b o e=>(I.bs b o e).1
theorem Inv.mod(I:Inv X pins σ H s):Mod X.K X.mg X.base:=I.ok.mod
theorem Inv.kIn(I:Inv X pins σ H s):X.K.In s.heap:=I.ok.mod.kin.keeps I.bk
theorem Inv.lt(I:Inv X pins σ H s):X.env.locals<s.heap.objs.size:=let ⟨_,hn,_⟩:=I.loc;hn.lt
theorem Inv.sz(I:Inv X pins σ H s):X.s₀.heap.objs.size<=s.heap.objs.size:=zAH I.ok.above (zBQ I.lt)
theorem Inv.nofs(I:Inv X pins σ H s)(h:s.heap.objs.size<=a):a∉X.fs:=fun hb=>by
 obtain⟨_,o,ho,_⟩:=I.ok.funs.mem hb
 exact absurd (zAJ (zAB ho) (zAH I.sz h)) (zBY _)
theorem Inv.cne(I:Inv X pins σ H s):∀x c,X.env.cells.lookup x=some c->c≠X.env.locals:=fun x c e z=>by
 obtain⟨v,o,ho,hd⟩:=I.cell x c e
 obtain⟨m,⟨o',es,ep,fq,hd',_⟩,_⟩:=I.loc
 rw[z,fq] at ho;cases ho;rw[hd'] at hd;cases hd
theorem Inv.funs(I:Inv X pins σ H s):s.heap.FunFrames X.base X.outer:=by
 have all:∀(l:List Env),(∀b∈Ib l,b∈X.fs)->X.s₀.heap.FunFrames X.base l->s.heap.FunFrames X.base l:=by
  intro l
  induction l with
  | nil=>intro _ _;trivial
  | cons env r ih=>
   intro hs hl
   obtain⟨hk,⟨L,o,hf,hn,ho,hd⟩,hr⟩:=hl
   have hL:L∈X.fs:=hs L (by unfold Ib;rw[List.filterMap_cons,hf];exact List.mem_cons_self)
   obtain⟨sl,e⟩:=I.base.slot L o ho (I.ok.frf L hL) hL fun z=>I.ok.exfs L z hL
   exact⟨hk,⟨L,_,hf,hn,e,hd⟩,ih (fun b hb=>hs b (by unfold Ib;rw[List.filterMap_cons,hf];exact List.mem_cons_of_mem _ hb)) hr⟩
 exact all X.outer (fun _ hb=>hb) I.ok.funs
theorem Inv.stack(I:Inv X pins σ H s):s.heap.FunFrames X.base X.stack:=by
 rcases I.ok.stk with e | ⟨e,hf⟩
 ·rw[e];exact I.funs
 ·rw[e]
  obtain⟨m,hn,_⟩:=I.loc
  refine .cons (by rw[I.ok.kind];decide) hf hn ?_ I.funs
  exact Heap.get?_none_of_le (zAH I.ok.bsz I.ok.above)
theorem Inv.stkSub(I:Inv X pins σ H s):∀b∈Ib X.stack,b∈X.env.locals::X.fs:=fun b hb=>by
 rcases I.ok.stk with e | ⟨e,hf⟩
 ·rw[e] at hb;exact List.mem_cons_of_mem _ hb
 ·rw[e] at hb
  unfold Ib at hb
  rw[List.filterMap_cons,hf] at hb
  exact hb
theorem Inv.stkFree(I:Inv X pins σ H s):∀b∈Ib X.stack,H b=none:=fun b hb=>by
 rcases List.mem_cons.mp (I.stkSub b hb) with e | hb
 ·rw[e];exact I.free
 ·obtain⟨_,o,ho,_⟩:=I.ok.funs.mem hb
  exact I.base.free b o ho (I.ok.frf b hb) fun z=>I.ok.exfs b z hb
theorem Inv.step{t':Nat}{ch:List Addr}(I:Inv X pins σ H s)(gq:∀b∈ch,(b∈X.ex\/X.s₀.heap.objs.size<=b)/\b≠X.env.locals/\(∀x c,X.env.cells.lookup x=some c->c≠b)/\∀p∈X.pn++pins,p.1≠b)(keep:∀b o,b≠X.env.locals->b∉X.fs->b∉ch->s.heap.get? b=some o->H b=none->h'.get? b=some o)(slot:∀b o,b≠X.env.locals->b∈X.fs->b∉ch->s.heap.get? b=some o->H b=none->∃sl,h'.get? b=some { o with slots:=sl })(free:∀b o,b∉ch->s.heap.get? b=some o->H b=none->H' b=none)(there:∀b o,b∉ch->s.heap.get? b=some o->∃o',h'.get? b=some o')(tups:∀b xs,H b=some (.tup xs)->H' b=some (.tup xs))(frzs:∀b o u,H b=some (.frz o u)->H' b=some (.frz o u))(tbls:∀b ps,H b=some (.tbl ps)->∃more,H' b=some (.tbl (ps++more)))(ns:∀m,s.heap.Ns X.env.locals m->h'.Ns X.env.locals m)(hok:HOk X.prog X.w H' h')(hg:AllBare g'):
  Inv X pins σ H' { s with heap:=h',gens:=g',drawn:=d',toks:=t' }:=by
 have neL:∀b o,X.s₀.heap.get? b=some o->b≠X.env.locals:=fun b o e=>zAE (zAJ (zAB e) I.ok.above)
 have neC:∀b o,X.s₀.heap.get? b=some o->b∉X.ex->b∉ch:=fun b o e hx hb=>by
  rcases (gq b hb).1 with z | z
  ·exact hx z
  ·exact absurd (zAJ (zAB e) z) (zBY _)
 have ja:∀x c,X.env.cells.lookup x=some c->∀v,s.heap.IsCell c v->h'.IsCell c v:=fun x c e v ⟨o,ho,hd⟩=>by
  have nch:c∉ch:=fun z=>(gq c z).2.2.1 x c e rfl
  by_cases hc:c∈X.fs
  ·obtain⟨sl,q⟩:=slot c o (I.cne x c e) hc nch ho (I.freeC x c e)
   exact⟨_,q,hd⟩
  ·exact⟨o,keep c o (I.cne x c e) hc nch ho (I.freeC x c e),hd⟩
 refine⟨I.ok,I.os,hg,⟨fun b o e n hb hx=>?_,fun b o e n hb hx=>?_,fun b o e n hx=>?_,fun b o e hx=>?_,fun b xs e=>tups b xs (I.base.tups b xs e),fun b o xs e=>frzs b o xs (I.base.frzs b o xs e),fun b ps e=>?_⟩,?_,fun x c e=>?_,?_,fun x c e=>?_,fun p hp=>?_,hok,I.len⟩
 ·exact keep b o (neL b o e) hb (neC b o e hx) (I.base.keep b o e n hb hx) (I.base.free b o e n hx)
 ·obtain⟨sl,e1⟩:=I.base.slot b o e n hb hx
  obtain⟨sl',e2⟩:=slot b _ (neL b o e) hb (neC b o e hx) e1 (I.base.free b o e n hx)
  exact⟨sl',e2⟩
 ·obtain⟨o',e1⟩:=I.base.there b o e hx
  exact free b o' (neC b o e hx) e1 (I.base.free b o e n hx)
 ·obtain⟨o',e1⟩:=I.base.there b o e hx
  exact there b o' (neC b o e hx) e1
 ·obtain⟨m1,e1⟩:=I.base.tbls b ps e
  obtain⟨m2,e2⟩:=tbls b _ e1
  exact⟨m1++m2,by rw[e2,Array.append_assoc]⟩
 ·obtain⟨m,hn,hl⟩:=I.loc
  refine⟨m,ns m hn,fun i x v e1 e2 e3=>?_⟩
  obtain⟨u,r,l⟩:=hl i x v e1 e2 e3
  refine⟨u,r,?_⟩
  rcases l with l | ⟨k,c,e,z⟩
  ·exact .inl l
  ·exact .inr ⟨k,c,e,ja x c e _ z⟩
 ·obtain⟨v,z⟩:=I.cell x c e
  exact⟨v,ja x c e v z⟩
 ·obtain⟨m,⟨o,_,_,ho,_⟩,_⟩:=I.loc
  exact free _ o (fun z=>(gq _ z).2.1 rfl) ho I.free
 ·obtain⟨v,o,ho,hd⟩:=I.cell x c e
  exact free c o (fun z=>(gq c z).2.2.1 x c e rfl) ho (I.freeC x c e)
 ·obtain⟨e,n,ne,nf,d⟩:=I.pin p hp
  have nch:p.1∉ch:=fun z=>(gq p.1 z).2.2.2 p hp rfl
  exact⟨keep p.1 p.2 ne nf nch e n,free p.1 p.2 nch e n,ne,nf,d⟩
theorem Inv.un(I:Inv X pins σ H s)(u:Un X.fs [] H H' s.heap h')(hok:HOk X.prog X.w H' h'):Inv X pins σ H' { s with heap:=h',toks:=t' }:=by
 obtain⟨m,⟨o,es,ep,ho,r⟩,_⟩:=id I.loc
 obtain⟨sl,hL⟩:=u.any ho I.free (by simp)
 exact I.step (g':=s.gens) (d':=s.drawn) (ch:=[]) (fun _ z=>nomatch z) (fun b o _ hb _ e n=>u.keep b o e n hb (by simp)) (fun b o _ hb _ e n=>u.slot b o e n hb (by simp)) (fun b o _ e n=>u.free b o e n (by simp)) (fun b o _ e=>u.there b o e (by simp)) u.tups u.frzs u.tbls (fun m' hm=>by
  obtain⟨o',aD,ep',fq,r'⟩:=hm
  rw[ho] at fq;cases fq
  exact⟨_,aD,ep',hL,r'⟩) hok I.bare
theorem Inv.call(I:Inv X pins σ H s)(u:Un (Ib X.stack) ch H H' s.heap h')(hok:HOk X.prog X.w H' h')(hg:AllBare g')(gq:∀b∈ch,(b∈X.ex\/X.s₀.heap.objs.size<=b)/\b≠X.env.locals/\(∀x c,X.env.cells.lookup x=some c->c≠b)/\∀p∈X.pn++pins,p.1≠b):
  Inv X pins σ H' { s with heap:=h',gens:=g',drawn:=d',toks:=t' }:=by
 obtain⟨m,⟨o,es,ep,ho,r⟩,_⟩:=id I.loc
 obtain⟨sl,hL⟩:=u.any ho I.free fun z=>(gq _ z).2.1 rfl
 exact I.step (ch:=ch) gq (fun b o hL hb hc e n=>u.keep b o e n (fun z=>(List.mem_cons.mp (I.stkSub b z)).elim hL hb) hc) (fun b o _ _ hc e n=>u.any e n hc) (fun b o hc e n=>u.free b o e n hc) (fun b o hc e=>u.there b o e hc) u.tups u.frzs u.tbls (fun m' hm=>by
  obtain⟨o',aD,ep',fq,r'⟩:=hm
  rw[ho] at fq;cases fq
  exact⟨_,aD,ep',hL,r'⟩) hok hg
theorem Inv.turned(I:Inv X pins σ H s)(k:∀b o,b≠it->s.heap.get? b=some o->h'.get? b=some o)(hn:H it=none)(hL:it≠X.env.locals)(h1:it∈X.ex\/X.s₀.heap.objs.size<=it)(h2:∀x c,X.env.cells.lookup x=some c->c≠it)(h3:∀p∈X.pn++pins,p.1≠it):Inv X pins σ H { s with heap:=h',toks:=t' }:=by
 have nit:∀b u,H b=some u->b≠it:=fun b u e z=>by rw[z,hn] at e;cases e
 refine I.step (g':=s.gens) (d':=s.drawn) (ch:=[it]) (fun b hb=>?_) (fun b o _ _ hc e _=>k b o (fun z=>hc (by simp[z])) e) (fun b o _ _ hc e _=>⟨o.slots,k b o (fun z=>hc (by simp[z])) e⟩) (fun _ _ _ _ n=>n)
  (fun b o hc e=>⟨o,k b o (fun z=>hc (by simp[z])) e⟩) (fun _ _ e=>e) (fun _ _ _ e=>e) (fun b ps e=>⟨#[],by rw[e];simp⟩) (fun m hm=>?_) (fun b u e=>?_) I.bare
 ·have e:b=it:=by simpa using hb
  subst e
  exact⟨h1,hL,h2,h3⟩
 ·obtain⟨o,es,ep,ho,r⟩:=hm
  exact⟨o,es,ep,k _ o (zA7 hL) ho,r⟩
 ·refine (I.hok b u e).stay (fun c v hc q=>k c v ?_ q) (fun _ q=>q) fun _ _ q=>q
  rcases hc with z | z
  ·rw[z];exact nit b u e
  ·exact nit c _ z
theorem Inv.tok(I:Inv X pins σ H s)(t:Nat):Inv X pins σ H { s with toks:=t }:=I.un (h':=s.heap) (t':=t) Un.refl I.hok
theorem Inv.kept(I:Inv X pins σ H s)(k:∀b u,s.heap.get? b=some u->h'.get? b=some u):Inv X pins σ H { s with heap:=h',toks:=t' }:=I.un (Un.kept k) (I.hok.kept k)
theorem Inv.laid(I:Inv X pins σ H s)(k:∀b u,s.heap.get? b=some u->h'.get? b=some u)(hp:s.heap.objs.size<=a)(new:ObjOk X.prog X.w (upd H a o) h' a o):
  Inv X pins σ (upd H a o) { s with heap:=h',toks:=t' }:=I.un (Un.laid k hp (I.hok.fresh hp)) (I.hok.laid k hp new)
theorem Inv.write(I:Inv X pins σ H s)(mu:Tq (H x))(he:e=x\/H e=some (.own x))(k:∀b u,b≠e->s.heap.get? b=some u->h'.get? b=some u)(heo:∃u,h'.get? e=some u)(new:ObjOk X.prog X.w (upd H x o) h' x o):Inv X pins σ (upd H x o) { s with heap:=h',toks:=t' }:=I.un (Un.write mu he k heo) (I.hok.write mu he k heo new)
theorem Inv.pins_of(I:Inv X pins σ H s)(h:∀p∈jb,s.heap.get? p.1=some p.2/\H p.1=none/\p.1≠X.env.locals/\p.1∉X.fs/\∀v,p.2.data≠.cell v):Inv X jb σ H s:=
 ⟨I.ok,I.os,I.bare,I.base,I.loc,I.cell,I.free,I.freeC,fun p hp=>(List.mem_append.mp hp).elim (fun z=>I.pin p (zBU _ z)) (h p),I.hok,I.len⟩
theorem KW{N:List Str}(hN:N.Nodup){i j:Nat}{x:Str}(a:N[i]? = some x)(b:N[j]? = some x):i=j:=by
 obtain⟨h1,e1⟩:=List.getElem?_eq_some_iff.mp a
 obtain⟨h2,e2⟩:=List.getElem?_eq_some_iff.mp b
 exact (List.getElem_inj hN).mp (e1.trans e2.symm)
theorem Gc(I:Inv X pins σ H s)(hN:X.N.Nodup)(hi:X.N[i]? = some x)(hx:Sm X.env.scope x)(r:RelV v u)(h:∀s',Inv X pins (σ.set i (some v)) H s'->(∃a,Heap.SameBut a s.heap s'.heap/\(a=X.env.locals\/X.env.cells.lookup x=some a))->Q () s')(hf:X.fn x=true\/X.env.scope.names.lookup x=some .local:=by first | exact .inl rfl | exact .inr rfl | assumption):wpAny M A (storeName X.env x u) Q E s:=by
 obtain⟨m,hn,hl⟩:=id I.loc
 have hcls:(X.env.scope.kind == .class || (X.env.scope.kind == .module && X.env.locals != X.env.globals))=false:=by rw[I.ok.kind];rfl
 have hiσ:i<σ.length:=by rw[I.len];exact (List.getElem?_eq_some_iff.mp hi).1
 have cne:=I.cne
 have eW:∀{a:Addr}{h':Heap},(∃o,s.heap.get? a=some o/\H a=none)->Heap.SameBut a s.heap h'->HOk X.prog X.w H h':=fun {a h'} ha hs b ob e=>by
  obtain⟨_,_,bD⟩:=ha
  refine (I.hok b ob e).stay (fun c w' hc q=>(hs.2 c ?_).trans q) (fun _ q=>q) fun _ _ q=>q
  rintro rfl
  rcases hc with rfl | hc
  ·rw[bD] at e;cases e
  ·rw[bD] at hc;cases hc
 rcases hx with hk | hk
 ·refine wpAny_storeName_local hk hn (fun h' hn' hs=>?_) hcls
  obtain⟨oL,_,_,hoL,_⟩:=id hn
  refine h _ ⟨I.ok,I.os,I.bare,⟨fun b o e n hb hx=>?_,fun b o e n hb hx=>?_,I.base.free,fun b o e hx=>?_,I.base.tups,I.base.frzs,I.base.tbls⟩,⟨_,hn',fun j y v' e1 e2 e3=>?_⟩,fun y c e=>?_,I.free,I.freeC,fun p hp=>?_,eW ⟨oL,hoL,I.free⟩ hs,by simpa using I.len⟩ ⟨_,hs,.inl rfl⟩
  ·exact (hs.2 b (zAE (zAJ (zAB e) I.ok.above))).trans (I.base.keep b o e n hb hx)
  ·obtain⟨sl,e1⟩:=I.base.slot b o e n hb hx
   exact⟨sl,(hs.2 b (zAE (zAJ (zAB e) I.ok.above))).trans e1⟩
  ·obtain⟨o',e1⟩:=I.base.there b o e hx
   exact⟨o',(hs.2 b (zAE (zAJ (zAB e) I.ok.above))).trans e1⟩
  ·by_cases hj:j=i
   ·subst hj
    rw[hi] at e1;cases e1
    rw[List.getElem?_set_self hiσ] at e2
    cases e2
    exact⟨u,r,.inl ⟨hk,by simp⟩⟩
   ·rw[List.getElem?_set_ne (zA7 hj)] at e2
    obtain⟨u',r',q⟩:=hl j y v' e1 e2 e3
    refine⟨u',r',?_⟩
    rcases q with⟨k,e⟩|⟨k,c,e,z⟩
    ·refine .inl ⟨k,?_⟩
     have:y≠x:=fun e=>hj (KW hN e1 (e ▸ hi))
     simp[this,e]
    ·exact .inr ⟨k,c,e,z.sameBut hs (cne y c e)⟩
  ·obtain⟨w',z⟩:=I.cell y c e
   exact⟨w',z.sameBut hs (cne y c e)⟩
  ·obtain⟨e,n,ne,nf,d⟩:=I.pin p hp
   exact⟨(hs.2 p.1 ne).trans e,n,ne,nf,d⟩
 ·have hfn:X.fn x=true:=by
   rcases hf with z | z
   ·exact z
   ·rw[z] at hk;cases hk
  obtain⟨c,hc⟩:=I.ok.has x (.inl hk)
  obtain⟨w',z⟩:=I.cell x c hc
  refine wpAny_storeName_cell I.ok.kind hk hc z (fun h' hc' hs=>?_)
  obtain⟨oc,hoc,hocd⟩:=id z
  refine h { s with heap:=h' } ⟨I.ok,I.os,I.bare,⟨fun b o e n hb hx=>?_,fun b o e n hb hx=>?_,I.base.free,fun b o e hx=>?_,I.base.tups,I.base.frzs,I.base.tbls⟩,⟨m,hn.sameBut hs (zA7 (cne x c hc)),fun j y v' e1 e2 e3=>?_⟩,fun y c' e=>?_,I.free,I.freeC,fun p hp=>?_,eW ⟨oc,hoc,I.freeC x c hc⟩ hs,by simpa using I.len⟩ ⟨c,hs,.inr hc⟩
  ·exact (hs.2 b (zAE (zAJ (zAB e) (I.ok.cab x c hfn hc)))).trans (I.base.keep b o e n hb hx)
  ·obtain⟨sl,e1⟩:=I.base.slot b o e n hb hx
   exact⟨sl,(hs.2 b (zAE (zAJ (zAB e) (I.ok.cab x c hfn hc)))).trans e1⟩
  ·obtain⟨o',e1⟩:=I.base.there b o e hx
   exact⟨o',(hs.2 b (zAE (zAJ (zAB e) (I.ok.cab x c hfn hc)))).trans e1⟩
  ·by_cases hj:j=i
   ·subst hj
    rw[hi] at e1;cases e1
    rw[List.getElem?_set_self hiσ] at e2
    cases e2
    exact⟨u,r,.inr ⟨.inl hk,c,hc,hc'⟩⟩
   ·rw[List.getElem?_set_ne (zA7 hj)] at e2
    obtain⟨u',r',q⟩:=hl j y v' e1 e2 e3
    refine⟨u',r',?_⟩
    rcases q with q | ⟨k,c',e,z'⟩
    ·exact .inl q
    ·refine .inr ⟨k,c',e,z'.sameBut hs ?_⟩
     rintro rfl
     exact hj (KW hN e1 (I.ok.inj _ _ _ e hc ▸ hi))
  ·by_cases hcc:c'=c
   ·subst hcc;exact⟨_,hc'⟩
   ·obtain⟨w2,z2⟩:=I.cell y c' e
    exact⟨w2,z2.sameBut hs hcc⟩
  ·obtain⟨e,n,ne,nf,d⟩:=I.pin p hp
   refine⟨(hs.2 p.1 ?_).trans e,n,ne,nf,d⟩
   intro q
   rw[q,hoc] at e
   have q':oc=p.2:=zAP e
   exact d w' (by rw[<-q'];exact hocd)
theorem Kt(I:Inv X pins σ H s)(hN:X.N.Nodup)(hi:X.N[i]? = some x)(hx:Sm X.env.scope x)(r:RelV v u)(h:∀s',Inv X pins (σ.set i (some v)) H s'->Q () s')(hf:X.fn x=true\/X.env.scope.names.lookup x=some .local:=by first | exact .inl rfl | exact .inr rfl | assumption):wpAny M A (storeName X.env x u) Q E s:=
 Gc I hN hi hx r (fun s' I' _=>h s' I') hf
theorem Inv.call'(I:Inv X pins σ H s)(ho:s'.os=s.os)(u:Un (Ib X.stack) ch H H' s.heap s'.heap)(hok:HOk X.prog X.w H' s'.heap)(hg:AllBare s'.gens)(gq:∀b∈ch,(b∈X.ex\/X.s₀.heap.objs.size<=b)/\b≠X.env.locals/\(∀x c,X.env.cells.lookup x=some c->c≠b)/\∀p∈X.pn++pins,p.1≠b):Inv X pins σ H' s':=by
 obtain⟨h',g',d',t',o'⟩:=s'
 have e:o'=s.os:=ho
 subst e
 exact I.call (g':=g') (t':=t') (d':=d') u hok hg gq
end
abbrev XK:=Value->Option Addr->Hp->Prop
abbrev St:=List (Option V)
abbrev VK:=V->Hp->Prop
abbrev TE:=St->Hp->VK->Prop
abbrev TT:=St->Hp->(Bool->Hp->Prop)->Prop
abbrev TA:=St->Hp->(List V->Hp->Prop)->Prop
structure Ck where
 nx:St->Hp->Prop
 rt:VK
 bk:St->Hp->Prop:=fun _ _=>False
 ct:St->Hp->Prop:=fun _ _=>False
abbrev TS:=Ck->St->Hp->Prop
def EP(X:Cx)(pins:List (Addr×Obj))(σ:St)(Q:VK)(u:Value)(s':Shared):Prop:=∃v H',Inv X pins σ H' s'/\RelV v u/\Q v H'
def TP(X:Cx)(pins:List (Addr×Obj))(σ:St)(Q:Bool->Hp->Prop)(b:Bool)(s':Shared):Prop:=∃H',Inv X pins σ H' s'/\Q b H'
def AP(X:Cx)(pins:List (Addr×Obj))(σ:St)(Q:List V->Hp->Prop)(us:List Value)(s':Shared):Prop:=∃vs H',Inv X pins σ H' s'/\Vals vs us/\Q vs H'
def SP(X:Cx)(pins:List (Addr×Obj))(D:Ck)(f:Flow)(s':Shared):Prop:=
 match f with
 | .next=>∃σ' H',Inv X pins σ' H' s'/\D.nx σ' H'
 | .brk=>∃σ' H',Inv X pins σ' H' s'/\D.bk σ' H'
 | .cont=>∃σ' H',Inv X pins σ' H' s'/\D.ct σ' H'
 | .ret u=>∃v σ' H',Inv X pins σ' H' s'/\RelV v u/\D.rt v H'
def PE(X:Cx)(e:Expr)(t:TE):Prop:=
 ∀(pins:List (Addr×Obj))(s:Shared)(σ:St)(H:Hp)(Q:VK),Inv X pins σ H s->t σ H Q->wpAny (model X.prog X.w) X.A (eval e X.env) (EP X pins σ Q) X.xe s
def PT(X:Cx)(e:Expr)(t:TT):Prop:=
 ∀(pins:List (Addr×Obj))(s:Shared)(σ:St)(H:Hp)(Q:Bool->Hp->Prop),Inv X pins σ H s->t σ H Q->wpAny (model X.prog X.w) X.A (isTrue e X.env (eval e X.env)) (TP X pins σ Q) X.xe s
def PW(X:Cx)(e:Expr)(t:TT):Prop:=
 ∀(bO:Sem Value)(pins:List (Addr×Obj))(s:Shared)(σ:St)(H:Hp)(Q:Bool->Hp->Prop),Inv X pins σ H s->t σ H Q->wpAny (model X.prog X.w) X.A (isTrue e X.env bO) (TP X pins σ Q) X.xe s
theorem PW.pt(h:PW X e t):PT X e t:=h _
def PA(X:Cx)(es:List Expr)(t:TA):Prop:=
 ∀(pos:Pos)(pins:List (Addr×Obj))(s:Shared)(σ:St)(H:Hp)(Q:List V->Hp->Prop),Inv X pins σ H s->t σ H Q->wpAny (model X.prog X.w) X.A (spliced (backTo pos (starEach es X.env))) (AP X pins σ Q) X.xe s
def PS(X:Cx)(st:Stmt)(t:TS):Prop:=
 ∀(pins:List (Addr×Obj))(s:Shared)(σ:St)(H:Hp)(D:Ck),Inv X pins σ H s->t D σ H->wpAny (model X.prog X.w) X.A (exec st X.env) (SP X pins D) X.xe s
def PSs(X:Cx)(st:List Stmt)(t:TS):Prop:=
 ∀(pins:List (Addr×Obj))(s:Shared)(σ:St)(H:Hp)(D:Ck),Inv X pins σ H s->t D σ H->wpAny (model X.prog X.w) X.A (execs st X.env) (SP X pins D) X.xe s
theorem AX{α:Type}{t:Sem α}{Q Q':α->Shared->Prop}(h:wpAny M A t Q E s)(hQ:∀a s,Q a s->Q' a s):wpAny M A t Q' E s:=wpAny_mono h hQ fun _ _ x=>x
end L2
namespace L2
open PySem PySem.Spec PyProof.Rows
section
variable {X:Cx}
def Ow(i:Nat):TE:=fun σ H Q=>∃v,σ[i]? = some (some v)/\Q v H
def tC(v:V):TE:=fun _ H Q=>Q v H
theorem SD(hN:X.N[i]? = some x)(hv:UW X.env.scope x)(hd:(x == ("__debug__":Str))=false:=by decide)(ft:(x == ("__classdict__":Str))=false:=by decide):PE X (.Name x pos) (Ow i):=by
 intro pins s σ H Q I h
 obtain⟨v,e,h⟩:=h
 obtain⟨m,hn,hl⟩:=I.loc
 obtain⟨u,r,l⟩:=hl i x v hN e hv
 have aF:EP X pins σ Q u s:=⟨v,H,I,r,h⟩
 rcases l with⟨hk,hm⟩|⟨hk,c,hc,aT⟩
 ·exact wpAny_Name (wpAny_loadName_local I.ok.kind hk hn hm aF) hd
 ·rcases hk with hk | hk
  ·exact wpAny_Name (wpAny_loadName_cell I.ok.kind hk hc aT aF) hd
  ·exact wpAny_Name (wpAny_loadName_free I.ok.kind hk hc aT aF ft) hd
theorem Ag {i j pos}:PE X (.Constant (.int i) j pos) (tC (.int i)):=fun _ _ _ H _ I h=>wpAny_Constant_int ⟨.int i,H,I.tok _,⟨_,rfl⟩,h⟩
theorem BQ {b j pos}:PE X (.Constant (.bool b) j pos) (tC (.bl b)):=fun _ _ _ H _ I h=>Constant_bool ⟨.bl b,H,I,rfl,h⟩
theorem LK {j pos}:PE X (.Constant .none j pos) (tC .non):=fun _ _ _ H _ I h=>Constant_none ⟨.non,H,I,rfl,h⟩
theorem Av {x j pos}:PE X (.Constant (.str x) j pos) (tC (.str x)):=fun _ _ _ H _ I h=>Calls.Constant_str ⟨.str x,H,I.tok _,⟨_,rfl⟩,h⟩
def Gl(X:Cx)(x:Str):Prop:=X.env.kindOf x=some .globalImplicit
theorem Jk(I:Inv X pins σ H s)(hg:Gl X x)(hm:X.mg x=some u)(h:Q u s)(hd:(x == ("__debug__":Str))=false:=by decide):wpAny (model X.prog X.w) X.A (eval (.Name x pos) X.env) Q E s:=
 Calls.Name_function_global I.ok.kind hg (Calls.loadGlobal_global (by rw[I.ok.glob];exact I.mod.glob.keeps I.bk) hm h) hd
theorem Cr(I:Inv X pins σ H s)(hg:Gl X x)(hm:X.mg x=none)(hv:bootBuiltins x=some u)(h:Q u s)(hn:x≠"__name__":=by decide)(hd:(x == ("__debug__":Str))=false:=by decide):wpAny (model X.prog X.w) X.A (eval (.Name x pos) X.env) Q E s:=by
 obtain⟨mb,h1,h2⟩:=I.mod.blt
 exact Calls.Name_function_global I.ok.kind hg (Calls.loadGlobal_builtin (by rw[I.ok.glob];exact I.mod.glob.keeps I.bk) hm (by rw[I.ok.blt];exact h1.keeps I.bk) ((h2 x hn).trans hv) h) hd
theorem Hd(hg:Gl X x)(hm:X.mg x=none)(hv:bootBuiltins x=some u)(r:RelV v u)(hn:x≠"__name__":=by decide)(hd:(x == ("__debug__":Str))=false:=by decide):PE X (.Name x pos) (tC v):=
 fun _ _ _ H _ I h=>Cr I hg hm hv ⟨v,H,I,r,h⟩ hn hd
variable {a b:Expr}{ta tb:TE}{pos:Pos}
def PC(X:Cx)(op:CmpOp)(a b:Expr)(t:TE):Prop:=
 ∀(pins:List (Addr×Obj))(s:Shared)(σ:St)(H:Hp)(Q:VK),Inv X pins σ H s->t σ H Q->
  wpAny (model X.prog X.w) X.A (eval a X.env) (fun v s₁=>wpAny (model X.prog X.w) X.A (eval b X.env) (fun u s₂=>wpAny (model X.prog X.w) X.A (compareOp op v u) (EP X pins σ Q) X.xe s₂) X.xe s₁) X.xe s
theorem K2(b:Expr)(h:op≠.In)(h2:op≠.NotIn):behindInMarks op b=false:=by
 have e1:(op == CmpOp.In)=false:=by cases op<;>first | rfl | exact absurd rfl h
 have e2:(op == CmpOp.NotIn)=false:=by cases op<;>first | rfl | exact absurd rfl h2
 cases b<;>simp[behindInMarks,e1,e2]
def Uv(ta:TE):TE:=fun σ H Q=>ta σ H fun x H1=>Q (.bl (decide (x= .non))) H1
def Ue(ta:TE):TE:=fun σ H Q=>ta σ H fun x H1=>Q (.bl (!decide (x= .non))) H1
theorem RelV.none_iff(r:RelV x v):(v == Value.none)=decide (x= .non):=by
 cases x with
 | non=>cases r;rfl
 | bl _=>cases r;rfl
 | int _=>obtain⟨t,rfl⟩:=r;rfl
 | str _=>obtain⟨t,rfl⟩:=r;rfl
 | byt _=>obtain⟨t,rfl⟩:=r;rfl
 | flt _=>obtain⟨t,rfl⟩:=r;rfl
 | ref _=>cases r;rfl
 | ty _=>cases r;rfl
theorem Lv {j ck} (ha:PE X a ta):PC X .Is a (.Constant .none j ck) (Uv ta):=by
 intro pins s σ H Q I h
 refine AX (ha pins s σ H _ I h) fun v s1 ⟨x,H1,I1,r1,q1⟩=>?_
 exact Constant_none (is_none_gen ⟨.bl _,H1,I1,by rw[r1.none_iff];rfl,q1⟩)
theorem Ro {j ck} (ha:PE X a ta):PC X .IsNot a (.Constant .none j ck) (Ue ta):=by
 intro pins s σ H Q I h
 refine AX (ha pins s σ H _ I h) fun v s1 ⟨x,H1,I1,r1,q1⟩=>?_
 exact Constant_none (isnot_none_gen ⟨.bl _,H1,I1,by rw[r1.none_iff];rfl,q1⟩)
def tB(t:TE):TT:=fun σ H Q=>t σ H fun x H1=>∃c,x= .bl c/\Q c H1
theorem Pu(h:PC X op a b t)(h1:behindInMarks op b=false:=by first | exact K2 _ (by decide) (by decide) | rfl):PE X (.Compare a [op] [b] pos) t:=fun pins s σ H Q I hw=>wpAny_Compare1 (h pins s σ H Q I hw) h1
theorem O1(h:PC X op a b t)(h1:behindInMarks op b=false:=by first | exact K2 _ (by decide) (by decide) | rfl):PT X (.Compare a [op] [b] pos) (tB t):=by
 intro pins s σ H Q I hw
 refine wpAny_isTrue_Compare1 (AX (h pins s σ H _ I hw) fun v s1 h1=>AX h1 fun u s2 h2=>AX h2 fun c s3 ⟨x,H1,I1,r1,q1⟩=>?_) h1
 obtain⟨d,rfl,q⟩:=q1
 cases r1
 exact wpAny_truthy_bool ⟨H1,I1,q⟩
theorem Bg(h:PE X e t)(he:∀bO,isTrue e X.env bO=(do let v <-bO;standAt e.pos;holding [v] (truthy v)):=by intro _;rfl):PT X e (tB t):=by
 intro pins s σ H Q I hw
 refine isTrue_plain (AX (h pins s σ H _ I hw) fun v s1 ⟨x,H1,I1,r1,q1⟩=>?_) (he _)
 obtain⟨d,rfl,q⟩:=q1
 cases r1
 exact wpAny_truthy_bool ⟨H1,I1,q⟩
variable {tA tB':TT}{rest:List Expr}
def UO(t u:TT):TT:=fun σ H Q=>t σ H fun c H1=>if c=true then u σ H1 Q else Q false H1
def Vs(t u:TT):TT:=fun σ H Q=>t σ H fun c H1=>if c=true then Q true H1 else u σ H1 Q
def Ux(t:TT):TT:=fun σ H Q=>t σ H fun c H1=>Q (!c) H1
theorem EZ(ha:PT X a tA):PW X (.BoolOp .And [a] pos) tA:=by
 intro wh pins s σ H Q I h
 refine isTrue_and (AX (ha pins s σ H Q I h) fun c s1 e=>?_)
 cases c with
 | true=>exact isTrue_and_nil e
 | false=>exact e
theorem EU(ha:PT X a tA):PW X (.BoolOp .Or [a] pos) tA:=by
 intro wh pins s σ H Q I h
 refine isTrue_or (AX (ha pins s σ H Q I h) fun c s1 e=>?_)
 cases c with
 | false=>exact isTrue_or_nil e
 | true=>exact e
theorem HG(ha:PT X a tA)(hb:PW X (.BoolOp .And (b::rest) pos) tB'):PW X (.BoolOp .And (a::b::rest) pos) (UO tA tB'):=by
 intro wh pins s σ H Q I h
 refine isTrue_and (AX (ha pins s σ H _ I h) fun c s1 ⟨H1,I1,q1⟩=>?_)
 cases c with
 | true=>exact hb wh pins s1 σ H1 Q I1 q1
 | false=>exact⟨H1,I1,q1⟩
theorem Gx(ha:PT X a tA)(hb:PW X (.BoolOp .Or (b::rest) pos) tB'):PW X (.BoolOp .Or (a::b::rest) pos) (Vs tA tB'):=by
 intro wh pins s σ H Q I h
 refine isTrue_or (AX (ha pins s σ H _ I h) fun c s1 ⟨H1,I1,q1⟩=>?_)
 cases c with
 | true=>exact⟨H1,I1,q1⟩
 | false=>exact hb wh pins s1 σ H1 Q I1 q1
theorem BO(ha:PT X a tA):PT X (.UnaryOp .Not a pos) (Ux tA):=by
 intro pins s σ H Q I h
 exact isTrue_not (ha pins s σ H (fun c H1=>Q (!c) H1) I h)
def Uj(ta tb:TE):TE:=fun σ H Q=>ta σ H fun x H1=>∃c,x= .bl c/\if c=true then tb σ H1 Q else Q (.bl false) H1
def U3(ta tb:TE):TE:=fun σ H Q=>ta σ H fun x H1=>∃c,x= .bl c/\if c=true then Q (.bl true) H1 else tb σ H1 Q
def Ui(ta:TE):TE:=fun σ H Q=>ta σ H fun x H1=>∃c,x= .bl c/\Q (.bl (!c)) H1
theorem DB{op}(h:PE X a t):PE X (.BoolOp op [a] pos) t:=fun pins s σ H Q I hw=>BoolOp_one (h pins s σ H Q I hw)
theorem HJ(ha:PE X a ta)(hb:PE X (.BoolOp .And (b::rest) pos) tb):PE X (.BoolOp .And (a::b::rest) pos) (Uj ta tb):=by
 intro pins s σ H Q I h
 refine BoolOp_and (AX (ha pins s σ H _ I h) fun v s1 ⟨x,H1,I1,r1,q1⟩=>?_)
 obtain⟨c,rfl,q1⟩:=q1
 cases r1
 refine wpAny_truthy_bool ?_
 cases c with
 | true=>exact hb pins s1 σ H1 Q I1 q1
 | false=>exact⟨.bl false,H1,I1,rfl,q1⟩
theorem Mv(ha:PE X a ta)(hb:PE X (.BoolOp .Or (b::rest) pos) tb):PE X (.BoolOp .Or (a::b::rest) pos) (U3 ta tb):=by
 intro pins s σ H Q I h
 refine BoolOp_or (AX (ha pins s σ H _ I h) fun v s1 ⟨x,H1,I1,r1,q1⟩=>?_)
 obtain⟨c,rfl,q1⟩:=q1
 cases r1
 refine wpAny_truthy_bool ?_
 cases c with
 | false=>exact hb pins s1 σ H1 Q I1 q1
 | true=>exact⟨.bl true,H1,I1,rfl,q1⟩
theorem Hu(ha:PE X a ta):PE X (.UnaryOp .Not a pos) (Ui ta):=by
 intro pins s σ H Q I h
 refine UnaryOp_ (AX (ha pins s σ H _ I h) fun v s1 ⟨x,H1,I1,r1,q1⟩=>?_)
 obtain⟨c,rfl,q1⟩:=q1
 cases r1
 exact not_of (wpAny_truthy_bool ⟨.bl (!c),H1,I1,rfl,q1⟩)
def Vm(t:TT)(ta tb:TE):TE:=fun σ H Q=>t σ H fun c H1=>if c=true then ta σ H1 Q else tb σ H1 Q
theorem QK(hc:PT X c tA)(ha:PE X a ta)(hb:PE X b tb):PE X (.IfExp c a b pos) (Vm tA ta tb):=by
 intro pins s σ H Q I h
 refine wpAny_IfExp (AX (hc pins s σ H _ I h) fun d s1 ⟨H1,I1,q1⟩=>?_)
 cases d with
 | true=>exact ha pins s1 σ H1 Q I1 q1
 | false=>exact hb pins s1 σ H1 Q I1 q1
end
end L2
namespace L2
open PySem PySem.Spec PyProof.Rows
def SqL(K:PySem.W.Frag)(H:Hp)(a:Addr)(xs:List V):Prop:=
 Rd H a (.lst xs)\/
  ∃(o:Obj)(its:Array Value)(n:Nat),K.lookup a=some o/\o.cls= .type "list"/\o.dict=none/\o.data= .seq its n/\its.size<=sizeLine/\Vals xs its.toList
def SqT(K:PySem.W.Frag)(H:Hp)(a:Addr)(xs:List V):Prop:=
 Rd H a (.tup xs)\/
  ∃(o:Obj)(its:Array Value)(n:Nat),K.lookup a=some o/\o.cls= .type "tuple"/\o.data= .seq its n/\its.size<=sizeLine/\Vals xs its.toList
def UI:Value->Option V
 | .none=>some .non
 | .bool b=>some (.bl b)
 | .int i _=>some (.int i)
 | .str x _=>some (.str x)
 | .bytes b _=>some (.byt b)
 | .float b _=>some (.flt b)
 | .ref a=>some (.ref a)
 | .type n=>some (.ty n)
 | _=>none
theorem RelV.abs(r:RelV x u):UI u=some x:=by
 cases x with
 | non=>cases r;rfl
 | bl _=>cases r;rfl
 | int _=>obtain⟨t,rfl⟩:=r;rfl
 | str _=>obtain⟨t,rfl⟩:=r;rfl
 | byt _=>obtain⟨t,rfl⟩:=r;rfl
 | flt _=>obtain⟨t,rfl⟩:=r;rfl
 | ref _=>cases r;rfl
 | ty _=>cases r;rfl
theorem RelV.inj(r:RelV x u)(q:RelV y u):x=y:=zAP (r.abs.symm.trans q.abs)
theorem Vals.inj:∀{xs ys:List V}{us:List Value},Vals xs us->Vals ys us->xs=ys
 | _,_,_,.nil,.nil=>rfl
 | _,_,_,.cons r t,.cons r' t'=>by rw[r.inj r',Vals.inj t t']
section
variable {X:Cx}{pins:List (Addr×Obj)}{σ:St}{H:Hp}{s:Shared}{a:Addr}{xs ys:List V}
theorem SqL.of{K:PySem.W.Frag}(h:H a=some (.lst xs)):SqL K H a xs:=.inl (.inl h)
theorem SqT.of{K:PySem.W.Frag}(h:H a=some (.tup xs)):SqT K H a xs:=.inl (.inl h)
theorem Inv.list(I:Inv X pins σ H s)(h:SqL X.K H a xs):∃its:List Value,Vals xs its/\PlainL s.heap a its.toArray/\xs.length<=sizeLine:=by
 rcases h with h | ⟨o,its,n,hk,hc,hd,hs,hz,r⟩
 ·obtain⟨z,its,n,r,e⟩:=h.ok I.hok
  exact⟨its,r,⟨_,n,e,rfl,rfl,rfl⟩,z⟩
 ·refine⟨its.toList,r,⟨o,n,I.kIn a o hk,hc,hd,by simpa using hs⟩,?_⟩
  have e:=r.length
  simp only[zAF] at e
  omega
theorem Inv.tuple(I:Inv X pins σ H s)(h:SqT X.K H a xs):∃its:List Value,Vals xs its/\IsTup s.heap a its.toArray/\xs.length<=sizeLine:=by
 rcases h with h | ⟨o,its,n,hk,hc,hs,hz,r⟩
 ·obtain⟨z,its,r,p⟩:=h.ok I.hok
  exact⟨its,r,p,z⟩
 ·refine⟨its.toList,r,⟨o,I.kIn a o hk,hc,n,by simpa using hs⟩,?_⟩
  have e:=r.length
  simp only[zAF] at e
  omega
theorem Inv.list_inj(I:Inv X pins σ H s)(h:SqL X.K H a xs)(h':SqL X.K H a ys):xs=ys:=by
 obtain⟨its,r,⟨o,n,e,_,_,d⟩,_⟩:=I.list h
 obtain⟨its',r',⟨o',n',e',_,_,d'⟩,_⟩:=I.list h'
 rw[e] at e';cases e'
 rw[d] at d'
 injection d' with d1 _
 have:its=its':=by simpa using congrArg Array.toList d1
 subst this
 exact r.inj r'
theorem Inv.tuple_inj(I:Inv X pins σ H s)(h:SqT X.K H a xs)(h':SqT X.K H a ys):xs=ys:=by
 obtain⟨its,r,⟨o,e,_,n,d⟩,_⟩:=I.tuple h
 obtain⟨its',r',⟨o',e',_,n',d'⟩,_⟩:=I.tuple h'
 rw[e] at e';cases e'
 rw[d] at d'
 injection d' with d1 _
 have:its=its':=by simpa using congrArg Array.toList d1
 subst this
 exact r.inj r'
end
abbrev Cx.wish(X:Cx)(E:Value->Shared->Prop):Cx:={ X with xe:=E }
abbrev Cx.nox(X:Cx):Cx:=X.wish fun _ _=>False
theorem Cx.Ok.wish{X:Cx}(ok:X.Ok)(E:Value->Shared->Prop):(X.wish E).Ok:=
 ⟨ok.mod,ok.kind,ok.glob,ok.blt,ok.above,ok.inj,ok.has,ok.cab,ok.hd,ok.frames,ok.stk,ok.exf,ok.bs,ok.bsz,ok.noex,ok.exfs,ok.funs,ok.frf⟩
theorem Cx.Ok.unwish{X:Cx}{E:Value->Shared->Prop}(ok:(X.wish E).Ok):X.Ok:=
 ⟨ok.mod,ok.kind,ok.glob,ok.blt,ok.above,ok.inj,ok.has,ok.cab,ok.hd,ok.frames,ok.stk,ok.exf,ok.bs,ok.bsz,ok.noex,ok.exfs,ok.funs,ok.frf⟩
section
variable {X:Cx}{pins:List (Addr×Obj)}{σ:St}{H:Hp}{s:Shared}{E:Value->Shared->Prop}
theorem Inv.wish(I:Inv X pins σ H s)(E:Value->Shared->Prop):Inv (X.wish E) pins σ H s:=⟨I.ok.wish E,I.os,I.bare,I.base,I.loc,I.cell,I.free,I.freeC,I.pin,I.hok,I.len⟩
theorem Inv.unwish(I:Inv (X.wish E) pins σ H s):Inv X pins σ H s:=⟨I.ok.unwish,I.os,I.bare,I.base,I.loc,I.cell,I.free,I.freeC,I.pin,I.hok,I.len⟩
theorem SP.unwish(h:SP (X.wish E) pins D f s'):SP X pins D f s':=by
 cases f with
 | next=>obtain⟨σ',H',I,q⟩:=h;exact⟨σ',H',I.unwish,q⟩
 | brk=>obtain⟨σ',H',I,q⟩:=h;exact⟨σ',H',I.unwish,q⟩
 | cont=>obtain⟨σ',H',I,q⟩:=h;exact⟨σ',H',I.unwish,q⟩
 | ret u=>obtain⟨v,σ',H',I,r,q⟩:=h;exact⟨v,σ',H',I.unwish,r,q⟩
theorem PSs.nox{st:List Stmt}(h:PSs X.nox st t):PSs X st t:=fun pins s σ H D I hw=>
 wpAny_mono (h pins s σ H D (I.wish _) hw) (fun _ _ q=>q.unwish) fun _ _ z=>False.elim z
end
section
variable {X:Cx}{st:Stmt}{rest:List Stmt}{t u:TS}{e:Expr}{te:TE}{pos:Pos}
def Sn:TS:=fun D σ H=>D.nx σ H
def Sy(t u:TS):TS:=fun D σ H=>t { D with nx:=u D } σ H
theorem Ap:PSs X [] Sn:=fun _ _ σ H _ I h=>wpAny_execs_nil ⟨σ,H,I,h⟩
theorem Ac(h1:PS X st t)(h2:PSs X rest u):PSs X (st::rest) (Sy t u):=by
 intro pins s σ H D I h
 refine wpAny_execs_cons (AX (h1 pins s σ H { D with nx:=u D } I h) fun f s1 q=>?_)
 cases f with
 | next=>
  obtain⟨σ',H',I',q⟩:=q
  exact h2 pins s1 σ' H' D I' q
 | ret v=>exact q
 | brk=>exact q
 | cont=>exact q
theorem Ae(h1:PS X st t):PSs X [st] t:=by
 intro pins s σ H D I h
 refine wpAny_execs_cons (AX (h1 pins s σ H D I h) fun f s1 q=>?_)
 cases f with
 | next=>exact wpAny_execs_nil q
 | ret v=>exact q
 | brk=>exact q
 | cont=>exact q
theorem Inv.quiet(I:Inv X pins σ H s):interactive X.env=false:=by simp[interactive,I.ok.kind]
def Um(te:TE):TS:=fun D σ H=>te σ H fun _ H1=>D.nx σ H1
theorem AW(he:PE X e te)(hs:swapsWith e none pos.line X.env=pure false:=by rfl):PS X (.Expr e pos) (Um te):=by
 intro pins s σ H D I h
 exact wpAny_Expr_any (AX (he pins s σ H _ I h) fun v s1 ⟨x,H1,I1,r1,q1⟩=>⟨σ,H1,I1,q1⟩) I.quiet hs
def U6(te:TE):TS:=fun D σ H=>te σ H D.rt
theorem Ai(he:PE X e te):PS X (.Return (some e) pos) (U6 te):=by
 intro pins s σ H D I h
 exact wpAny_Return_some (AX (he pins s σ H _ I h) fun v s1 ⟨x,H1,I1,r1,q1⟩=>⟨x,σ,H1,I1,r1,q1⟩)
def UX(c:TT)(t u:TS):TS:=fun D σ H=>c σ H fun b H1=>if b=true then t D σ H1 else u D σ H1
theorem AB(hc:PT X c tc)(ha:PSs X a t)(hb:PSs X b u):PS X (.If c a b pos) (UX tc t u):=by
 intro pins s σ H D I h
 refine wpAny_If (AX (hc pins s σ H _ I h) fun d s1 ⟨H1,I1,q1⟩=>?_)
 cases d with
 | true=>exact ha pins s1 σ H1 D I1 q1
 | false=>exact hb pins s1 σ H1 D I1 q1
end
abbrev TG:=V->St->Hp->(St->Hp->Prop)->Prop
abbrev SE:=List V->St->Hp->(St->Hp->Prop)->Prop
def PG(X:Cx)(aa:Expr)(t:TG):Prop:=
 ∀(pins:List (Addr×Obj))(s:Shared)(σ:St)(H:Hp)(v:V)(u:Value)(Q:St->Hp->Prop),Inv X pins σ H s->RelV v u->t v σ H Q->
  wpAny (model X.prog X.w) X.A (assign aa X.env u) (fun _ s'=>∃σ' H',Inv X pins σ' H' s'/\Q σ' H') X.xe s
def Ur(X:Cx)(ts:List Expr)(t:SE):Prop:=
 ∀(pins:List (Addr×Obj))(s:Shared)(σ:St)(H:Hp)(vs:List V)(us:List Value)(Q:St->Hp->Prop),Inv X pins σ H s->Vals vs us->t vs σ H Q->
  wpAny (model X.prog X.w) X.A (assignInOrder ((assignEach ts X.env).map (·.2)) us) (fun _ s'=>∃σ' H',Inv X pins σ' H' s'/\Q σ' H') X.xe s
section
variable {X:Cx}{pos:Pos}
def DM(i:Nat):TG:=fun v σ H Q=>Q (σ.set i (some v)) H
theorem AC(hN:X.N.Nodup)(hi:X.N[i]? = some x)(hx:Sm X.env.scope x)(hf:X.fn x=true\/X.env.scope.names.lookup x=some .local:=by first | exact .inl rfl | exact .inr rfl | assumption):PG X (.Name x pos) (DM i):=by
 intro pins s σ H v u Q I r h
 exact wpAny_assign_Name (Kt I hN hi hx r (fun s' I'=>⟨_,H,I',h⟩) hf)
def UA:SE:=fun vs σ H Q=>vs=[]/\Q σ H
def TL(t:TG)(u:SE):SE:=fun vs σ H Q=>∃v r,vs=v::r/\t v σ H fun σ' H'=>u r σ' H' Q
theorem Dw:Ur X [] UA:=by
 intro pins s σ H vs us Q I r h
 obtain⟨e,h⟩:=h
 subst e
 cases r
 exact assignInOrder_nil ⟨σ,H,I,h⟩
theorem Bf(h1:PG X e t)(h2:Ur X es u)(hs:(assignEach (e::es) X.env).map (·.2)=assign e X.env::(assignEach es X.env).map (·.2):=by rfl):Ur X (e::es) (TL t u):=by
 intro pins s σ H vs us Q I r h
 obtain⟨v,vr,e1,h⟩:=h
 subst e1
 cases r with
 | cons r rr=>
  rw[hs]
  refine assignInOrder_cons (AX (h1 pins s σ H _ _ _ I r h) fun _ s1 ⟨σ1,H1,I1,q1⟩=>?_)
  exact h2 pins s1 σ1 H1 _ _ Q I1 rr q1
def UF(K:PySem.W.Frag)(n:Nat)(t:SE):TG:=fun v σ H Q=>∃a xs,v= .ref a/\SqT K H a xs/\xs.length=n/\t xs σ H Q
theorem EQ(hc:X.calm=true)(h:Ur X es t)(hn:(assignEach es X.env).length=n:=by rfl)(gD:(assignEach es X.env).findIdx? (·.1)=none:=by rfl):PG X (.Tuple es k pos) (UF X.K n t):=by
 intro pins s σ H v u Q I r hw
 obtain⟨a,xs,e1,hq,hl,hw⟩:=hw
 subst e1
 cases r
 obtain⟨its,rv,ht,hz⟩:=I.tuple hq
 refine assign_Tuple_tuple (I.ok.hd hc) ht (by simp[hn,<-hl,rv.length]) gD fun h' hx=>?_
 have I1:Inv X pins σ H { s with heap:=h' }:=I.kept (t':=s.toks) fun b o e=>hx b o (zAE (zAB e)) e
 exact h pins _ σ H xs _ Q I1 (by simpa using rv) hw
def Ob(te:TE)(g:TG):TS:=fun D σ H=>te σ H fun x H1=>g x σ H1 D.nx
theorem OJ(he:PE X e te)(hg:PG X tg g)(hs:swapsWithSole [tg] e pos.line X.env=pure false:=by rfl)(hw:swappedStores [tg] e X.env=pure none:=by rfl)(h1:(assignEach [tg] X.env).map (·.2)=[assign tg X.env]:=by rfl):PS X (.Assign [tg] e pos) (Ob te g):=by
 intro pins s σ H D I h
 refine wpAny_Assign_stores (AX (he pins s σ H _ I h) fun v s1 ⟨x,H1,I1,r1,q1⟩=>?_) hs hw
 rw[h1]
 exact AX (hg pins s1 σ H1 x v _ I1 r1 q1) fun _ s2 q=>q
theorem Ar(hN:X.N.Nodup)(hi:X.N[i]? = some x)(hx:Sm X.env.scope x)(he:PE X e te)(hs:swapsWith e (some (.Name x ck)) pos.line X.env=pure false:=by rfl)(hf:X.fn x=true\/X.env.scope.names.lookup x=some .local:=by first | exact .inl rfl | exact .inr rfl | assumption):
  PS X (.Assign [.Name x ck] e pos) (Ob te (DM i)):=by
 intro pins s σ H D I h
 refine wpAny_Assign_Name (AX (he pins s σ H _ I h) fun v s1 ⟨y,H1,I1,r1,q1⟩=>?_) hs
 exact Kt I1 hN hi hx r1 (fun s2 I2=>⟨_,H1,I2,q1⟩) hf
end
section
variable {X:Cx}{pos:Pos}
def SK(c:TT)(tb:TS):TS:=fun D σ H=>∃W:Nat->St->Hp->Prop,(∃m,W m σ H)/\∀m σ H,W m σ H->
 c σ H fun b H1=>if b=true then ∃N:St->Hp->Prop,(∀σ' H',N σ' H'->∃m',m'<m/\W m' σ' H')/\tb { D with nx:=N,ct:=N,bk:=D.nx } σ H1 else D.nx σ H1
theorem HM(hp:PassesOwn (model X.prog X.w) X.A X.env X.xe)(hc:PT X c tc)(hb:PSs X body tb):PS X (.While c body [] pos) (SK tc tb):=by
 intro pins s σ H D I h
 obtain⟨W,⟨m0,w0⟩,gE⟩:=h
 refine wpAny_While (codeAny_whileLoop (fun n s'=>∃σ' H',Inv X pins σ' H' s'/\W n σ' H') ?_ m0 ⟨σ,H,I,w0⟩)
 rintro n s1 ⟨σ1,H1,I1,w1⟩
 refine wpAny_passesOwn hp (AX (hc pins s1 σ1 H1 _ I1 (gE n σ1 H1 w1)) fun b s2 ⟨H2,I2,q2⟩=>?_)
 cases b with
 | true=>
  obtain⟨N,hN,q2⟩:=q2
  rw[if_pos rfl]
  refine wpAny_passesOwn hp (AX (hb pins s2 σ1 H2 _ I2 q2) fun f s3 q3=>?_)
  cases f with
  | next=>
   obtain⟨σ3,H3,I3,n3⟩:=q3
   obtain⟨m',hm,w3⟩:=hN σ3 H3 n3
   exact⟨m',hm,σ3,H3,I3,w3⟩
  | cont=>
   obtain⟨σ3,H3,I3,n3⟩:=q3
   obtain⟨m',hm,w3⟩:=hN σ3 H3 n3
   exact⟨m',hm,σ3,H3,I3,w3⟩
  | brk=>exact q3
  | ret v=>exact q3
 | false=>
  rw[if_neg zAC]
  exact wpAny_execs_nil ⟨σ1,H2,I2,q2⟩
end
structure It where
 go:Nat->Hp->Prop
 yld:Nat->Hp->V->Hp->Prop
 stop:Nat->Hp->Prop
def B3(X:Cx)(pins:List (Addr×Obj))(H:Hp)(b:Addr):Prop:=
 H b=none/\b≠X.env.locals/\b∉X.fs/\(b∈X.ex\/X.s₀.heap.objs.size<=b)/\(∀x c,X.env.cells.lookup x=some c->c≠b)/\∀p∈X.pn++pins,p.1≠b
theorem Inv.fpOk(I:Inv X pins σ H s)(hb:s.heap.objs.size<=b)(hn:H' b=none):B3 X pins H' b:=by
 refine⟨hn,zBR (zAJ I.lt hb),I.nofs hb,.inr (zAH I.sz hb),fun x c e z=>?_,fun p hp z=>?_⟩
 ·obtain⟨v,q⟩:=I.cell x c e
  exact absurd (zAJ q.lt (by rw[z];exact hb)) (zBY _)
 ·exact absurd (zAJ (zAB (I.pin p hp).1) (by rw[z];exact hb)) (zBY _)
structure LR(P:Program)(w:World)(K:PySem.W.Frag)(tg:Expr)(J:It)(fp:List Addr)(it:Addr)(tn:Nat->Heap->Prop):Prop where
 mem:it∈fp
 obj:∀i h,tn i h->∀b∈fp,∃o,h.get? b=some o/\∀v,o.data≠.cell v
 keep:∀i h h',tn i h->(∀b∈fp,∀o,h.get? b=some o->h'.get? b=some o)->tn i h'
 item:∀(X:Cx),X.prog=P->X.w=w->X.K=K->X.calm=true->∀(i:Nat)(pins:List (Addr×Obj))(s:Shared)(σ:St)(H:Hp)(E:Value->Shared->Prop),Inv X pins σ H s->(∀b∈fp,B3 X pins H b)->tn i s.heap->J.go i H->
  wpAny (model P w) X.A (pyNext (.ref it)) (fun r s1=>∃u,r=some u/\
   wpAny (model P w) X.A (letOwnedTupleGo tg (.ref it) u) (fun _ s2=>∃x H',Inv X pins σ H' s2/\RelV x u/\J.yld i H x H'/\tn (i+1) s2.heap/\∀b∈fp,H' b=none) E s1) E s
 done:∀(X:Cx),X.prog=P->X.w=w->X.K=K->X.calm=true->∀(i:Nat)(pins:List (Addr×Obj))(s:Shared)(σ:St)(H:Hp)(E:Value->Shared->Prop),Inv X pins σ H s->(∀b∈fp,B3 X pins H b)->tn i s.heap->J.stop i H->
  wpAny (model P w) X.A (pyNext (.ref it)) (fun r s1=>r=none/\Inv X pins σ H s1) E s
 self:∀(A:Around)(i:Nat)(s:Shared)(Q:Value->Shared->Prop)(E:Value->Shared->Prop),tn i s.heap->Q (.ref it) s->wpAny (model P w) A (pyIter (.ref it)) Q E s
abbrev TI:=St->Hp->(It->Hp->Prop)->Prop
def Vg(X:Cx)(pins:List (Addr×Obj))(σ:St)(tg:Expr)(R:It->Hp->Prop)(bA:Value)(s2:Shared):Prop:=
 ∃(it:Addr)(fp:List Addr)(tn:Nat->Heap->Prop)(J:It)(H':Hp),bA= .ref it/\Inv X pins σ H' s2/\LR X.prog X.w X.K tg J fp it tn/\tn 0 s2.heap/\(∀b∈fp,B3 X pins H' b)/\R J H'
def PI(X:Cx)(tg ae:Expr)(wi:TI):Prop:=
 ∀(pins:List (Addr×Obj))(s:Shared)(σ:St)(H:Hp)(R:It->Hp->Prop),Inv X pins σ H s->wi σ H R->
  wpAny (model X.prog X.w) X.A (eval ae X.env) (fun v s1=>wpAny (model X.prog X.w) X.A (pyIter v) (Vg X pins σ tg R) X.xe s1) X.xe s
theorem MC(ho:s.heap.get? it=some o)(hc:o.cls= .type n)(hd:o.data= .fields vs)(hn:["enumerate","zip","dict_itemiterator","dict_reverseitemiterator","odict_iterator","itertools.zip_longest","itertools.pairwise"].contains n=false)(hQ:Q () s):wpAny M A (letOwnedTupleGo tg (.ref it) u) Q E s:=by
  unfold letOwnedTupleGo
  cases tg<;>first
    | exact wpAny_pure hQ
    | (cases u<;>first
        | exact wpAny_pure hQ
        | (refine wpAny_bind (wpAny_load ho ?_)
           rw[hc,hd]
           show wpAny M A (if (["enumerate","zip","dict_itemiterator","dict_reverseitemiterator","odict_iterator","itertools.zip_longest","itertools.pairwise"].contains n && vs[0]? == some (rawInt _))=true then _ else _) Q E s
           rw[if_neg (by intro h;rw[hn,zBS] at h;cases h)]
           exact wpAny_pure hQ))
def R8(K:PySem.W.Frag)(a:Addr):It:=
 ⟨fun i H=>∃xs x,SqL K H a xs/\xs[i]? = some x,fun i H x H'=>H'=H/\∀xs,SqL K H a xs->xs[i]? = some x,fun i H=>∃xs,SqL K H a xs/\xs.length<=i⟩
def Ug(K:PySem.W.Frag)(a:Addr):It:=
 ⟨fun i H=>∃xs x,SqT K H a xs/\xs[i]? = some x,fun i H x H'=>H'=H/\∀xs,SqT K H a xs->xs[i]? = some x,fun i H=>∃xs,SqT K H a xs/\xs.length<=i⟩
def SO(lo:Int)(n:Nat):It:=⟨fun i _=>i<n,fun i H x H'=>H'=H/\x= .int (lo+i),fun i _=>n<=i⟩
theorem Nx{P:Program}{w:World}{K:PySem.W.Frag}{tg:Expr}(a it:Addr):LR P w K tg (R8 K a) [it] it (fun i h=>h.IsListIter it a i) where
 mem:=by simp
 obj:=fun i h st b hb=>by
  have e:b=it:=by simpa using hb
  subst e
  obtain⟨o,e,c,d⟩:=st
  exact⟨o,e,fun v z=>by rw[d] at z;cases z⟩
 keep:=fun i h h' st k=>st.at fun o e=>k it (by simp) o e
 item:=by
  intro X hP hw hK hc i pins s σ H E I hf st hg
  subst hP hw hK
  obtain⟨xs,x,hq,hx⟩:=hg
  obtain⟨its,rv,p,hz⟩:=I.list hq
  obtain⟨u,hu,ru⟩:=rv.get hx
  obtain⟨f0,f1,f2,f3,f4,f5⟩:=hf it (by simp)
  refine wpAny_pyNext_list_item st p.isList (x:=u) (by simpa using hu) fun h' gr sb=>?_
  have I1:Inv X pins σ H { s with heap:=h' }:=I.turned (t':=s.toks) (fun b o hb e=>(sb.2 b hb).trans e) f0 f1 f3 f4 f5
  obtain⟨o,e,c,d⟩:=id gr
  exact⟨u,rfl,MC (s:={ s with heap:=h' }) e c d (by decide) ⟨x,H,I1,ru,⟨rfl,fun ys hy=>by rw[I.list_inj hy hq];exact hx⟩,gr,fun b hb=>(hf b hb).1⟩⟩
 done:=by
  intro X hP hw hK hc i pins s σ H E I hf st hg
  subst hP hw hK
  obtain⟨xs,hq,hx⟩:=hg
  obtain⟨its,rv,p,hz⟩:=I.list hq
  obtain⟨f0,f1,f2,f3,f4,f5⟩:=hf it (by simp)
  have hl:=rv.length
  exact wpAny_pyNext_list_end (I.ok.hd hc) st p.isList (by simp;omega) fun h' eb=>⟨rfl,I.turned (t':=s.toks) (fun b o hb e=>eb b o hb e) f0 f1 f3 f4 f5⟩
 self:=fun _ _ _ _ _ st h=>wpAny_pyIter_listiter st h
theorem LA{P:Program}{w:World}{K:PySem.W.Frag}{tg:Expr}(a it:Addr):LR P w K tg (Ug K a) [it] it (fun i h=>h.IsTupleIter it a i) where
 mem:=by simp
 obj:=fun i h st b hb=>by
  have e:b=it:=by simpa using hb
  subst e
  obtain⟨o,e,c,d⟩:=st
  exact⟨o,e,fun v z=>by rw[d] at z;cases z⟩
 keep:=fun i h h' st k=>st.at fun o e=>k it (by simp) o e
 item:=by
  intro X hP hw hK hc i pins s σ H E I hf st hg
  subst hP hw hK
  obtain⟨xs,x,hq,hx⟩:=hg
  obtain⟨its,rv,p,hz⟩:=I.tuple hq
  obtain⟨u,hu,ru⟩:=rv.get hx
  obtain⟨f0,f1,f2,f3,f4,f5⟩:=hf it (by simp)
  refine wpAny_pyNext_tuple_item st (show s.heap.IsTuple a its.toArray from p) (x:=u) (by simpa using hu) fun h' gr sb=>?_
  have I1:Inv X pins σ H { s with heap:=h' }:=I.turned (t':=s.toks) (fun b o hb e=>(sb.2 b hb).trans e) f0 f1 f3 f4 f5
  obtain⟨o,e,c,d⟩:=id gr
  exact⟨u,rfl,MC (s:={ s with heap:=h' }) e c d (by decide) ⟨x,H,I1,ru,⟨rfl,fun ys hy=>by rw[I.tuple_inj hy hq];exact hx⟩,gr,fun b hb=>(hf b hb).1⟩⟩
 done:=by
  intro X hP hw hK hc i pins s σ H E I hf st hg
  subst hP hw hK
  obtain⟨xs,hq,hx⟩:=hg
  obtain⟨its,rv,p,hz⟩:=I.tuple hq
  obtain⟨f0,f1,f2,f3,f4,f5⟩:=hf it (by simp)
  have hl:=rv.length
  exact wpAny_pyNext_tuple_end (I.ok.hd hc) st (show s.heap.IsTuple a its.toArray from p) (by simp;omega) fun h' eb=>⟨rfl,I.turned (t':=s.toks) (fun b o hb e=>eb b o hb e) f0 f1 f3 f4 f5⟩
 self:=fun _ _ _ _ _ st h=>wpAny_pyIter_tupleiter st h
theorem Lf{P:Program}{w:World}{K:PySem.W.Frag}{tg:Expr}(it:Addr)(lo:Int)(n:Nat):LR P w K tg (SO lo n) [it] it (fun i h=>IsRangeIter h it (lo+(i:Nat)*1) ((n:Int)-(i:Nat)) 1) where
 mem:=by simp
 obj:=fun i h st b hb=>by
  have e:b=it:=by simpa using hb
  subst e
  exact⟨_,st,fun v z=>by
   have z':Data.fields _=Data.cell v:=z
   cases z'⟩
 keep:=fun i h h' st k=>k it (by simp) _ st
 item:=by
  intro X hP hw hK hc i pins s σ H E I hf st hg
  subst hP hw hK
  obtain⟨f0,f1,f2,f3,f4,f5⟩:=hf it (by simp)
  have W:=Walks.range (prog:=X.prog) (w:=X.w) (I.ok.hd hc) it lo 1 n
  refine W.item i s _ _ hg st fun v h' tk hv gr kk=>?_
  obtain⟨t,rfl⟩:=hv
  have I1:Inv X pins σ H { s with heap:=h',toks:=tk }:=I.turned (fun b o hb e=>kk b o (by simpa using hb) e) f0 f1 f3 f4 f5
  refine⟨_,rfl,MC (s:={ s with heap:=h',toks:=tk }) (n:="range_iterator") gr rfl rfl (by decide) ⟨.int (lo+i),H,I1,⟨t,?_⟩,⟨rfl,rfl⟩,gr,fun b hb=>(hf b hb).1⟩⟩
  rw[Int.mul_one]
 done:=by
  intro X hP hw hK hc i pins s σ H E I hf st hg
  subst hP hw hK
  obtain⟨f0,f1,f2,f3,f4,f5⟩:=hf it (by simp)
  exact wpAny_pyNext_range_end (I.ok.hd hc) st (by have:n<=i:=hg;omega) fun h' eb=>⟨rfl,I.turned (t':=s.toks) (fun b o hb e=>eb b o hb e) f0 f1 f3 f4 f5⟩
 self:=fun _ _ _ _ _ st h=>wpAny_pyIter_rangeiter st h
end L2
namespace L2
open PySem PySem.Spec PyProof.Rows
section
variable {X:Cx}{tg:Expr}
def TK(K:PySem.W.Frag)(tl:TE):TI:=fun σ H R=>tl σ H fun x H1=>∃a,x= .ref a/\(∃xs,SqL K H1 a xs)/\R (R8 K a) H1
def UC(K:PySem.W.Frag)(tl:TE):TI:=fun σ H R=>tl σ H fun x H1=>∃a,x= .ref a/\(∃xs,SqT K H1 a xs)/\R (Ug K a) H1
theorem AS{tl:TE}(hl:PE X l tl):PI X tg l (TK X.K tl):=by
 intro pins s σ H R I h
 refine AX (hl pins s σ H _ I h) fun v s1 ⟨x,H1,I1,r1,q1⟩=>?_
 obtain⟨a,e,⟨xs,hq⟩,q⟩:=q1
 subst e
 cases r1
 obtain⟨its,rv,p,hz⟩:=I1.list hq
 refine wpAny_pyIter_list p.isList ?_
 refine⟨s1.heap.objs.size,[s1.heap.objs.size],_,_,H1,rfl,I1.kept (t':=s1.toks) fun b o e=>Heap.get?_push_of_some _ e,Nx a _,⟨_,Heap.get?_push_size _ rfl,rfl,rfl⟩,fun b hb=>?_,q⟩
 have e:b=s1.heap.objs.size:=by simpa using hb
 subst e
 exact I1.fpOk (zAA _) (I1.hok.fresh (zAA _))
theorem SH{tl:TE}(hl:PE X l tl):PI X tg l (UC X.K tl):=by
 intro pins s σ H R I h
 refine AX (hl pins s σ H _ I h) fun v s1 ⟨x,H1,I1,r1,q1⟩=>?_
 obtain⟨a,e,⟨xs,hq⟩,q⟩:=q1
 subst e
 cases r1
 obtain⟨its,rv,p,hz⟩:=I1.tuple hq
 refine wpAny_pyIter_tuple (show s1.heap.IsTuple a its.toArray from p) ?_
 refine⟨s1.heap.objs.size,[s1.heap.objs.size],_,_,H1,rfl,I1.kept (t':=s1.toks) fun b o e=>Heap.get?_push_of_some _ e,LA a _,⟨_,Heap.get?_push_size _ rfl,rfl,rfl⟩,fun b hb=>?_,q⟩
 have e:b=s1.heap.objs.size:=by simpa using hb
 subst e
 exact I1.fpOk (zAA _) (I1.hok.fresh (zAA _))
theorem KU{lo hi:Int}(I:Inv X pins σ H s)(h1 : -(2^62)<=lo)(h2:lo<2^62)(h3 : -(2^62)<=hi)(h4:hi<2^62)(q:R (SO lo (hi-lo).toNat) H):wpAny (model X.prog X.w) X.A (pyIter (.ref s.heap.objs.size)) (Vg X pins σ tg R) E { s with heap:=s.heap.push { cls:=.type "range",data:=.fields #[.int lo t,.int hi u,.int 1 v] },toks:=tk }:=by
 refine wpAny_pyIter_range (IsRange.new ..) (small_one h1 h2 h3 h4) ?_
 have I1:Inv X pins σ H { s with heap:=s.heap.push { cls:=.type "range",data:=.fields #[.int lo t,.int hi u,.int 1 v] },toks:=tk }:=I.kept fun b o e=>Heap.get?_push_of_some _ e
 refine⟨(s.heap.push { cls:=.type "range",data:=.fields #[.int lo t,.int hi u,.int 1 v] }).objs.size,[(s.heap.push { cls:=.type "range",data:=.fields #[.int lo t,.int hi u,.int 1 v] }).objs.size],_,_,H,rfl,
  I1.kept (t':=tk) fun b o e=>Heap.get?_push_of_some _ e,Lf _ lo (hi-lo).toNat,?_,fun b hb=>?_,q⟩
 ·have e1:lo+((0:Nat):Int)*1=lo:=by simp
  have e2:(((hi-lo).toNat:Nat):Int)-((0:Nat):Int)=Builtin.Range.rangeSize lo hi 1:=by rw[rangeSize_one];split<;>omega
  show IsRangeIter _ _ (lo+((0:Nat):Int)*1) ((((hi-lo).toNat:Nat):Int)-((0:Nat):Int)) 1
  rw[e1,e2]
  exact Heap.get?_push_size _ rfl
 ·have e:b=(s.heap.push { cls:=.type "range",data:=.fields #[.int lo t,.int hi u,.int 1 v] }).objs.size:=by simpa using hb
  subst e
  exact I1.fpOk (zAA _) (I1.hok.fresh (zAA _))
def TW(ta:TA):TI:=fun σ H R=>ta σ H fun vs H1=>∃j:Int,vs=[.int j]/\-(2^62)<=j/\j<2^62/\R (SO 0 j.toNat) H1
def Tw(ta:TA):TI:=fun σ H R=>ta σ H fun vs H1=>∃i j:Int,vs=[.int i,.int j]/\(-(2^62)<=i/\i<2^62/\-(2^62)<=j/\j<2^62)/\R (SO i (j-i).toNat) H1
theorem ED(hg:Gl X "range")(hm:X.mg "range"=none)(ha:PA X [a] ta)(hs:starEach [a] X.env=[(false,eval a X.env)]:=by rfl):PI X tg (.Call (.Name "range" p) [a] [] pos) (TW ta):=by
 intro pins s σ H R I h
 refine Call_ (Cr I hg hm boot_range (zBD (AX (ha pos pins s σ H _ I h) fun us s1 ⟨vs,H1,I1,r1,q1⟩=>?_) hs rfl))
 obtain⟨j,e,q1,q2,q⟩:=q1
 subst e
 cases r1 with
 | cons r rr=>
  cases rr
  obtain⟨t,rfl⟩:=r
  exact call_range_1 (KU I1 (by omega) (by omega) q1 q2 (by simpa using q))
theorem N2(hg:Gl X "range")(hm:X.mg "range"=none)(ha:PA X [a,b] ta)(hs:starEach [a,b] X.env=[(false,eval a X.env),(false,eval b X.env)]:=by rfl)(jc:starEach [b] X.env=[(false,eval b X.env)]:=by rfl):
  PI X tg (.Call (.Name "range" p) [a,b] [] pos) (Tw ta):=by
 intro pins s σ H R I h
 refine Call_ (Cr I hg hm boot_range (zBD (AX (ha pos pins s σ H _ I h) fun us s1 ⟨vs,H1,I1,r1,q1⟩=>?_) (by rw[hs,jc]) (by rw[jc];rfl)))
 obtain⟨i,j,e,⟨q1,q2,q3,q4⟩,q⟩:=q1
 subst e
 cases r1 with
 | cons r rr=>
  cases rr with
  | cons r' rr=>
   cases rr
   obtain⟨t,rfl⟩:=r
   obtain⟨t',rfl⟩:=r'
   exact call_range_2 (KU I1 q1 q2 q3 q4 q)
def LD(wi:TI)(g:TG)(tb:TS):TS:=fun D σ H=>wi σ H fun J H1=>∃W:Nat->Nat->St->Hp->Prop,(∃m,W 0 m σ H1)/\∀i m σ H,W i m σ H->
 (J.stop i H/\D.nx σ H)\/(J.go i H/\∃N:St->Hp->Prop,(∀σ' H',N σ' H'->∃m',m'<m/\W (i+1) m' σ' H')/\∀x H',J.yld i H x H'->g x σ H' fun σ2 H2=>tb { D with nx:=N,ct:=N,bk:=D.nx } σ2 H2)
def HF(fp:List Addr)(h:Heap):List (Addr×Obj):=fp.filterMap fun b=>(h.get? b).map fun o=>(b,o)
theorem DF(hb:b∈fp)(e:h.get? b=some o):(b,o)∈HF fp h:=List.mem_filterMap.mpr ⟨b,hb,by rw[e];rfl⟩
theorem NL(hp:p∈HF fp h):p.1∈fp/\h.get? p.1=some p.2:=by
 obtain⟨b,hb,e⟩:=List.mem_filterMap.mp hp
 cases q:h.get? b with
 | none=>rw[q] at e;cases e
 | some o=>
  rw[q] at e
  have e':(b,o)=p:=zAP e
  subst e'
  exact⟨hb,q⟩
theorem Inv.pinned(I:Inv X pins σ H s)(hf:∀b∈fp,B3 X pins H b)(ho:∀b∈fp,∃o,s.heap.get? b=some o/\∀v,o.data≠.cell v):Inv X (pins++HF fp s.heap) σ H s:=
 I.pins_of fun p hp=>(List.mem_append.mp hp).elim (fun z=>I.pin p (zAY _ z)) fun z=>by
  obtain⟨hb,e⟩:=NL z
  obtain⟨f0,f1,f2,_⟩:=hf p.1 hb
  obtain⟨o,e',d⟩:=ho p.1 hb
  rw[e] at e';cases e'
  exact⟨e,f0,f1,f2,d⟩
theorem Inv.unpinned(I:Inv X (pins++pl) σ H s):Inv X pins σ H s:=I.pins_of fun p hp=>I.pin p (zAY _ (zBU _ hp))
theorem Bz(hp:PassesOwn (model X.prog X.w) X.A X.env X.xe)(hc:X.calm=true)(hi:PI X tg ae wi)(hg:PG X tg g)(hb:PSs X body tb)(hs:∀x,foldedSetIterable ae X.env x=pure x:=by intro _;rfl):PS X (.For tg ae body [] pos) (LD wi g tb):=by
 intro pins s σ H D I h
 refine wpAny_For (AX (hi pins s σ H _ I h) fun v s1 h1=>AX h1 fun bA s2 h2=>?_) hs
 obtain⟨it,fp,tn,J,H2,e,I2,T,cH,f2,W,⟨m0,w0⟩,gE⟩:=h2
 subst e
 have eB:∀{H':Hp},(∀b∈fp,H' b=none)->∀b∈fp,B3 X pins H' b:=fun hn b hb=>⟨hn b hb,(f2 b hb).2⟩
 refine codeAny_forLoop_any (fun n s'=>∃i σ' H',Inv X pins σ' H' s'/\tn i s'.heap/\(∀b∈fp,H' b=none)/\W i n σ' H') ?_ m0 ⟨0,σ,H2,I2,cH,fun b hb=>(f2 b hb).1,w0⟩
 rintro n s3 ⟨i,σ3,H3,I3,gF,fr3,w3⟩
 rcases gE i n σ3 H3 w3 with⟨stop,qn⟩|⟨go,N,hN,step⟩
 ·refine wpAny_passesOwn hp (AX (T.done X rfl rfl rfl hc i pins s3 σ3 H3 X.xe I3 (eB fr3) gF stop) fun r s4 ⟨hr,I4⟩=>?_)
  subst hr
  exact wpAny_execs_nil ⟨σ3,H3,I4,qn⟩
 ·refine wpAny_passesOwn hp (AX (T.item X rfl rfl rfl hc i pins s3 σ3 H3 X.xe I3 (eB fr3) gF go) fun r s4 ⟨u,hr,h4⟩=>?_)
  subst hr
  refine wpAny_passesOwn hp (AX h4 fun _ s5 ⟨x,H5,I5,r5,y5,st5,fr5⟩=>?_)
  have I5':=I5.pinned (eB fr5) (T.obj _ _ st5)
  refine wpAny_passesOwn hp (AX (hg _ s5 σ3 H5 x u _ I5' r5 (step x H5 y5)) fun _ s6 ⟨σ6,H6,I6,q6⟩=>?_)
  refine wpAny_passesOwn hp (AX (hb _ s6 σ6 H6 _ I6 q6) fun f s7 q7=>?_)
  have again:∀{σ7:St}{H7:Hp},Inv X (pins++HF fp s5.heap) σ7 H7 s7->N σ7 H7->∃m,m<n/\∃i σ' H',Inv X pins σ' H' s7/\tn i s7.heap/\(∀b∈fp,H' b=none)/\W i m σ' H':=fun {σ7 H7} I7 n7=>by
   obtain⟨m',hm,w7⟩:=hN σ7 H7 n7
   refine⟨m',hm,i+1,σ7,H7,I7.unpinned,T.keep _ _ _ st5 fun b hb o e=>(I7.pin (b,o) (zAY _ (zAY _ (DF hb e)))).1,fun b hb=>?_,w7⟩
   obtain⟨o,e,d⟩:=T.obj _ _ st5 b hb
   exact (I7.pin (b,o) (zAY _ (zAY _ (DF hb e)))).2.1
  cases f with
  | next=>obtain⟨σ7,H7,I7,n7⟩:=q7;exact again I7 n7
  | cont=>obtain⟨σ7,H7,I7,n7⟩:=q7;exact again I7 n7
  | brk=>obtain⟨σ7,H7,I7,q7⟩:=q7;exact⟨σ7,H7,I7.unpinned,q7⟩
  | ret v=>obtain⟨x7,σ7,H7,I7,r7,q7⟩:=q7;exact⟨x7,σ7,H7,I7.unpinned,r7,q7⟩
end
theorem A1{K:PySem.W.Frag}{a:Addr}{xs:List V}{g:TG}{tb:TS}{D:Ck}{σ:St}{H:Hp}(Pv:Nat->St->Hp->Prop)(h0:Pv 0 σ H)(hl:∀i σ H,i<=xs.length->Pv i σ H->SqL K H a xs)(hs:∀i x σ H,xs[i]? = some x->Pv i σ H->g x σ H fun σ2 H2=>tb { D with nx:=Pv (i+1),ct:=Pv (i+1),bk:=D.nx } σ2 H2)(hd:∀σ H,Pv xs.length σ H->D.nx σ H):
  ∃W:Nat->Nat->St->Hp->Prop,(∃m,W 0 m σ H)/\∀i m σ H,W i m σ H->
   ((R8 K a).stop i H/\D.nx σ H)\/((R8 K a).go i H/\∃N:St->Hp->Prop,(∀σ' H',N σ' H'->∃m',m'<m/\W (i+1) m' σ' H')/\∀x H',(R8 K a).yld i H x H'->g x σ H' fun σ2 H2=>tb { D with nx:=N,ct:=N,bk:=D.nx } σ2 H2):=by
 refine⟨fun i m σ H=>m=xs.length-i/\i<=xs.length/\Pv i σ H,⟨xs.length,by simp,zA9 _,h0⟩,?_⟩
 rintro i m σ H ⟨rfl,hi,p⟩
 have q:=hl i σ H hi p
 by_cases aO:i<xs.length
 ·refine .inr ⟨⟨xs,xs[i],q,by simp[aO]⟩,Pv (i+1),fun σ' H' p'=>⟨xs.length-(i+1),by omega,rfl,aO,p'⟩,fun x H' y=>?_⟩
  obtain⟨e,y⟩:=y
  subst e
  exact hs i x σ _ (y xs q) p
 ·have e:i=xs.length:=by omega
  subst e
  exact .inl ⟨⟨xs,q,zAA _⟩,hd σ H p⟩
theorem Q2{K:PySem.W.Frag}{a:Addr}{xs:List V}{g:TG}{tb:TS}{D:Ck}{σ:St}{H:Hp}(Pv:Nat->St->Hp->Prop)(h0:Pv 0 σ H)(hl:∀i σ H,i<=xs.length->Pv i σ H->SqT K H a xs)(hs:∀i x σ H,xs[i]? = some x->Pv i σ H->g x σ H fun σ2 H2=>tb { D with nx:=Pv (i+1),ct:=Pv (i+1),bk:=D.nx } σ2 H2)(hd:∀σ H,Pv xs.length σ H->D.nx σ H):
  ∃W:Nat->Nat->St->Hp->Prop,(∃m,W 0 m σ H)/\∀i m σ H,W i m σ H->
   ((Ug K a).stop i H/\D.nx σ H)\/((Ug K a).go i H/\∃N:St->Hp->Prop,(∀σ' H',N σ' H'->∃m',m'<m/\W (i+1) m' σ' H')/\∀x H',(Ug K a).yld i H x H'->g x σ H' fun σ2 H2=>tb { D with nx:=N,ct:=N,bk:=D.nx } σ2 H2):=by
 refine⟨fun i m σ H=>m=xs.length-i/\i<=xs.length/\Pv i σ H,⟨xs.length,by simp,zA9 _,h0⟩,?_⟩
 rintro i m σ H ⟨rfl,hi,p⟩
 have q:=hl i σ H hi p
 by_cases aO:i<xs.length
 ·refine .inr ⟨⟨xs,xs[i],q,by simp[aO]⟩,Pv (i+1),fun σ' H' p'=>⟨xs.length-(i+1),by omega,rfl,aO,p'⟩,fun x H' y=>?_⟩
  obtain⟨e,y⟩:=y
  subst e
  exact hs i x σ _ (y xs q) p
 ·have e:i=xs.length:=by omega
  subst e
  exact .inl ⟨⟨xs,q,zAA _⟩,hd σ H p⟩
theorem Db{lo:Int}{n:Nat}{g:TG}{tb:TS}{D:Ck}{σ:St}{H:Hp}(Pv:Nat->St->Hp->Prop)(h0:Pv 0 σ H)(hs:∀i σ H,i<n->Pv i σ H->g (.int (lo+i)) σ H fun σ2 H2=>tb { D with nx:=Pv (i+1),ct:=Pv (i+1),bk:=D.nx } σ2 H2)(hd:∀σ H,Pv n σ H->D.nx σ H):
  ∃W:Nat->Nat->St->Hp->Prop,(∃m,W 0 m σ H)/\∀i m σ H,W i m σ H->
   ((SO lo n).stop i H/\D.nx σ H)\/((SO lo n).go i H/\∃N:St->Hp->Prop,(∀σ' H',N σ' H'->∃m',m'<m/\W (i+1) m' σ' H')/\∀x H',(SO lo n).yld i H x H'->g x σ H' fun σ2 H2=>tb { D with nx:=N,ct:=N,bk:=D.nx } σ2 H2):=by
 refine⟨fun i m σ H=>m=n-i/\i<=n/\Pv i σ H,⟨n,by simp,zA9 _,h0⟩,?_⟩
 rintro i m σ H ⟨rfl,hi,p⟩
 by_cases aO:i<n
 ·refine .inr ⟨aO,Pv (i+1),fun σ' H' p'=>⟨n-(i+1),by omega,rfl,aO,p'⟩,fun x H' y=>?_⟩
  obtain⟨e,y⟩:=y
  subst e y
  exact hs i σ _ aO p
 ·have e:i=n:=by omega
  subst e
  exact .inl ⟨zAA _,hd σ H p⟩
end L2
namespace L2
open PySem PySem.Spec PyProof.Rows
abbrev R2:=V->V->Hp->VK->Prop
def D3(X:Cx)(f:Value->Value->Sem Value)(r:R2):Prop:=
 ∀(pins:List (Addr×Obj))(s:Shared)(σ:St)(H:Hp)(x y:V)(v u:Value)(Q:VK),Inv X pins σ H s->RelV x v->RelV y u->r x y H Q->
  wpAny (model X.prog X.w) X.A (f v u) (EP X pins σ Q) X.xe s
def UD(X:Cx)(f:Value->Sem Value)(r:V->Hp->VK->Prop):Prop:=
 ∀(pins:List (Addr×Obj))(s:Shared)(σ:St)(H:Hp)(x:V)(v:Value)(Q:VK),Inv X pins σ H s->RelV x v->r x H Q->
  wpAny (model X.prog X.w) X.A (f v) (EP X pins σ Q) X.xe s
def BP(X:Cx)(f:Value)(r:List V->Hp->VK->Prop):Prop:=
 ∀(pins:List (Addr×Obj))(s:Shared)(σ:St)(H:Hp)(xs:List V)(us:List Value)(Q:VK),Inv X pins σ H s->Vals xs us->r xs H Q->
  wpAny (model X.prog X.w) X.A (call f us) (EP X pins σ Q) X.xe s
def UK(X:Cx)(r:V->Hp->(Bool->Hp->Prop)->Prop):Prop:=
 ∀(pins:List (Addr×Obj))(s:Shared)(σ:St)(H:Hp)(x:V)(v:Value)(Q:Bool->Hp->Prop),Inv X pins σ H s->RelV x v->r x H Q->
  wpAny (model X.prog X.w) X.A (truthy v) (TP X pins σ Q) X.xe s
def Uu(r:R2)(ta tb:TE):TE:=fun σ H Q=>ta σ H fun x H1=>tb σ H1 fun y H2=>r x y H2 Q
def Vo(r:V->Hp->VK->Prop)(ta:TE):TE:=fun σ H Q=>ta σ H fun x H1=>r x H1 Q
def rI(C:Int->Int->Prop)(g:Int->Int->V):R2:=fun x y H Q=>∃i j,x= .int i/\y= .int j/\C i j/\Q (g i j) H
def R0(g:Int->Int->V):R2:=fun x y H Q=>∃i j,x= .int i/\y= .int j/\Q (g i j) H
def rU(g:Int->V):V->Hp->VK->Prop:=fun x H Q=>∃i,x= .int i/\Q (g i) H
section
variable {X:Cx}{a b c:Expr}{ta tb tc:TE}{pos:Pos}
theorem Sw(ha:PE X a ta)(hb:PE X b tb){pins:List (Addr×Obj)}{s:Shared}{σ:St}{H:Hp}{R:V->V->Hp->Prop}(I:Inv X pins σ H s)(h:ta σ H fun x H1=>tb σ H1 fun y H2=>R x y H2){Q:Value->Shared->Prop}{f:Value->Value->Sem Value}(hf:∀v u s2 x y H2,Inv X pins σ H2 s2->RelV x v->RelV y u->R x y H2->wpAny (model X.prog X.w) X.A (f v u) Q X.xe s2):
  wpAny (model X.prog X.w) X.A (eval a X.env) (fun v s₁=>wpAny (model X.prog X.w) X.A (eval b X.env) (fun u s₂=>wpAny (model X.prog X.w) X.A (f v u) Q X.xe s₂) X.xe s₁) X.xe s:=by
 refine AX (ha pins s σ H _ I h) fun v s1 ⟨x,H1,I1,r1,q1⟩=>?_
 refine AX (hb pins s1 σ H1 _ I1 q1) fun u s2 ⟨y,H2,I2,r2,q2⟩=>?_
 exact hf v u s2 x y H2 I2 r1 r2 q2
theorem Au(ho:D3 X (binaryOp op) r)(ha:PE X a ta)(hb:PE X b tb):PE X (.BinOp a op b pos) (Uu r ta tb):=by
 intro pins s σ H Q I h
 exact wpAny_BinOp (Sw ha hb I h fun v u s2 x y H2 I2 rx ry q=>ho pins s2 σ H2 x y v u Q I2 rx ry q)
theorem Kq(ho:UD X (unaryOp op) r)(ha:PE X a ta):PE X (.UnaryOp op a pos) (Vo r ta):=by
 intro pins s σ H Q I h
 exact UnaryOp_ (AX (ha pins s σ H _ I h) fun v s1 ⟨x,H1,I1,r1,q1⟩=>ho pins s1 σ H1 x v Q I1 r1 q1)
theorem To{C:Int->Int->Prop}{g:Int->Int->Int}(rule:∀(i j:Int) (t u:Tok) (s:Shared) (Q:Value->Shared->Prop) (E:Value->Shared->Prop),C i j->Q (.int (g i j) s.toks) { s with toks:=s.toks+1 }->wpAny (model X.prog X.w) X.A (f (.int i t) (.int j u)) Q E s):
  D3 X f (rI C fun i j=>.int (g i j)):=by
 intro pins s σ H x y v u Q I rx ry h
 obtain⟨i,j,rfl,rfl,hc,q⟩:=h
 obtain⟨t,rfl⟩:=rx
 obtain⟨t',rfl⟩:=ry
 exact rule i j t t' s _ _ hc ⟨.int (g i j),H,I.tok _,⟨_,rfl⟩,q⟩
theorem Tb{g:Int->Int->Int}(rule:∀(i j:Int) (t u:Tok) (s:Shared) (Q:Value->Shared->Prop) (E:Value->Shared->Prop),Q (.int (g i j) s.toks) { s with toks:=s.toks+1 }->wpAny (model X.prog X.w) X.A (f (.int i t) (.int j u)) Q E s):
  D3 X f (R0 fun i j=>.int (g i j)):=by
 intro pins s σ H x y v u Q I rx ry h
 obtain⟨i,j,rfl,rfl,q⟩:=h
 obtain⟨t,rfl⟩:=rx
 obtain⟨t',rfl⟩:=ry
 exact rule i j t t' s _ _ ⟨.int (g i j),H,I.tok _,⟨_,rfl⟩,q⟩
theorem RT{g:Int->Int->Bool}(rule:∀(i j:Int) (t u:Tok) (s:Shared) (Q:Value->Shared->Prop) (E:Value->Shared->Prop),Q (.bool (g i j)) s->wpAny (model X.prog X.w) X.A (f (.int i t) (.int j u)) Q E s):
  D3 X f (R0 fun i j=>.bl (g i j)):=by
 intro pins s σ H x y v u Q I rx ry h
 obtain⟨i,j,rfl,rfl,q⟩:=h
 obtain⟨t,rfl⟩:=rx
 obtain⟨t',rfl⟩:=ry
 exact rule i j t t' s _ _ ⟨.bl (g i j),H,I,rfl,q⟩
def UP(i j:Int):Prop:=0<j/\j<1073741824
def US(i j:Int):Prop:=0<=j/\j<=1000000/\i.natAbs<2^64
def CMul(i j:Int):Prop:=(-(2^64)<i/\i<2^64)\/(-(2^64)<j/\j<2^64)
theorem CMul.ok(h:CMul i j):IntMulOk i j:=by
 rcases h with⟨h1,h2⟩|⟨h1,h2⟩
 ·exact .of_left (intBits_le_64 h1 h2)
 ·exact .of_right (intBits_le_64 h1 h2)
theorem LZ(k:Nat):(0:Int)<=2^k:=by
 rw[two_pow_cast]
 exact Int.natCast_nonneg _
theorem Ch:D3 X (binaryOp .Add) (R0 fun i j=>.int (i+j)):=Tb fun _ _ _ _ _ _ _ q=>add_int q
theorem DG:D3 X (binaryOp .Sub) (R0 fun i j=>.int (i-j)):=Tb fun _ _ _ _ _ _ _ q=>sub_int q
theorem Hz:D3 X (binaryOp .Mult) (rI CMul fun i j=>.int (i*j)):=To fun _ _ _ _ _ _ _ hc q=>mul_int q hc.ok
theorem AY:D3 X (binaryOp .FloorDiv) (rI UP fun i j=>.int (i / j)):=To fun i j _ _ _ _ _ hc q=>by
 have h1:(0:Int)<j:=hc.1
 have h2:j<1073741824:=hc.2
 exact floordiv_int (by omega) (by rw[zCM i (by omega)];exact q) (.inl (PyProof.noPylong_small (by omega)))
theorem AO:D3 X (binaryOp .Mod) (rI (fun _ j=>0<j) fun i j=>.int (i%j)):=To fun i j _ _ _ _ _ hc q=>by
 have h1:(0:Int)<j:=hc
 exact mod_int' (by omega) (by rw[Int.fmod_eq_emod_of_nonneg i (by omega)];exact q)
theorem JM:D3 X (binaryOp .Pow) (rI US fun i j=>.int (i^j.toNat)):=To fun _ _ _ _ _ _ _ hc q=>pow_int_small hc.1 hc.2.1 hc.2.2 q
theorem S5:D3 X (binaryOp .RShift) (rI (fun _ j=>0<=j) fun i j=>.int (i / 2^j.toNat)):=To fun i j _ _ _ _ _ hc q=>
 rshift_int hc (by rw[zCM i (LZ _)];exact q)
theorem SA:D3 X (binaryOp .BitAnd) (R0 fun i j=>.int (Builtin.bitAnd i j)):=Tb fun _ _ _ _ _ _ _ q=>and_int q
theorem Vq{g:Int->Int}(rule:∀(i:Int) (t:Tok) (s:Shared) (Q:Value->Shared->Prop) (E:Value->Shared->Prop),Q (.int (g i) s.toks) { s with toks:=s.toks+1 }->wpAny (model X.prog X.w) X.A (f (.int i t)) Q E s):
  UD X f (rU fun i=>.int (g i)):=by
 intro pins s σ H x v Q I rx h
 obtain⟨i,rfl,q⟩:=h
 obtain⟨t,rfl⟩:=rx
 exact rule i t s _ _ ⟨.int (g i),H,I.tok _,⟨_,rfl⟩,q⟩
theorem HQ:UD X (unaryOp .USub) (rU fun i=>.int (-i)):=Vq fun _ _ _ _ _ q=>neg_int q
end
def TC:V->V->Bool
 | .non,.non=>true | .non,.int _=>true | .int _,.non=>true | .non,.bl _=>true | .bl _,.non=>true | .non,.str _=>true | .str _,.non=>true
 | .int _,.int _=>true | .bl _,.bl _=>true | .str _,.str _=>true | .byt _,.byt _=>true
 | .int _,.str _=>true | .str _,.int _=>true | .bl _,.str _=>true | .str _,.bl _=>true
 | _,_=>false
def Vj:R2:=fun x y H Q=>TC x y=true/\Q (.bl (decide (x=y))) H
def Vk:R2:=fun x y H Q=>TC x y=true/\Q (.bl (!decide (x=y))) H
theorem JO:decide (V.int i=V.int j)=(i == j):=by
 rw[zA6]
 simp
theorem OA:decide (V.bl i=V.bl j)=(i == j):=by
 rw[zA6]
 simp
theorem My:decide (V.str i=V.str j)=(i == j):=by
 rw[zA6]
 simp
theorem Mj:decide (V.byt i=V.byt j)=(i.toList == j.toList):=by
 rw[zA6]
 cases i
 cases j
 simp
section
variable {X:Cx}{a b c:Expr}{ta tb tc:TE}{pos:Pos}
theorem A3(I:Inv X pins σ H s)(q:Q (.bl k) H)(e:k=k'):EP X pins σ Q (.bool k') s:=by
 subst e
 exact⟨.bl k,H,I,rfl,q⟩
theorem AQ:D3 X (compareOp .Eq) Vj:=by
 intro pins s σ H x y v u Q I rx ry h
 obtain⟨hs,q⟩:=h
 cases x with
 | non=>
  cases rx
  cases y with
  | non=>cases ry;exact PySem.EqNone.eq_none_none (A3 I q (by simp))
  | bl j=>cases ry;exact PySem.EqNone.eq_none_bool (A3 I q (by simp))
  | int j=>obtain⟨t',rfl⟩:=ry;exact PySem.EqNone.eq_none_int (A3 I q (by simp))
  | str j=>obtain⟨t',rfl⟩:=ry;exact PySem.EqNone.eq_none_str (A3 I q (by simp))
  | _=>exact absurd (show false=true from hs) zAC
 | bl i=>
  cases rx
  cases y with
  | non=>cases ry;exact PySem.EqNone.eq_bool_none (A3 I q (by simp))
  | bl j=>cases ry;exact eq_bool (A3 I q OA)
  | str j=>obtain⟨t',rfl⟩:=ry;exact PySem.EqMixed.eq_bool_str (A3 I q (by simp))
  | _=>exact absurd (show false=true from hs) zAC
 | int i=>
  obtain⟨t,rfl⟩:=rx
  cases y with
  | non=>cases ry;exact PySem.EqNone.eq_int_none (A3 I q (by simp))
  | int j=>obtain⟨t',rfl⟩:=ry;exact eq_int (A3 I q JO)
  | str j=>obtain⟨t',rfl⟩:=ry;exact PySem.EqMixed.eq_int_str (A3 I q (by simp))
  | _=>exact absurd (show false=true from hs) zAC
 | str i=>
  obtain⟨t,rfl⟩:=rx
  cases y with
  | non=>cases ry;exact PySem.EqNone.eq_str_none (A3 I q (by simp))
  | bl j=>cases ry;exact PySem.EqMixed.eq_str_bool (A3 I q (by simp))
  | int j=>obtain⟨t',rfl⟩:=ry;exact PySem.EqMixed.eq_str_int (A3 I q (by simp))
  | str j=>obtain⟨t',rfl⟩:=ry;exact eq_str (A3 I q My)
  | _=>exact absurd (show false=true from hs) zAC
 | byt i=>
  obtain⟨t,rfl⟩:=rx
  cases y with
  | byt j=>obtain⟨t',rfl⟩:=ry;exact PySem.W.eq_bytes (A3 I q Mj)
  | _=>exact absurd (show false=true from hs) zAC
 | _=>cases y<;>exact absurd (show false=true from hs) zAC
theorem Mu:D3 X (compareOp .NotEq) Vk:=by
 intro pins s σ H x y v u Q I rx ry h
 obtain⟨hs,q⟩:=h
 cases x with
 | non=>
  cases rx
  cases y with
  | non=>cases ry;exact PySem.EqNone.ne_none_none (A3 I q (by simp))
  | bl j=>cases ry;exact PySem.EqNone.ne_none_bool (A3 I q (by simp))
  | int j=>obtain⟨t',rfl⟩:=ry;exact PySem.EqNone.ne_none_int (A3 I q (by simp))
  | str j=>obtain⟨t',rfl⟩:=ry;exact PySem.EqNone.ne_none_str (A3 I q (by simp))
  | _=>exact absurd (show false=true from hs) zAC
 | bl i=>
  cases rx
  cases y with
  | non=>cases ry;exact PySem.EqNone.ne_bool_none (A3 I q (by simp))
  | bl j=>cases ry;exact ne_bool (A3 I q (congrArg not OA))
  | str j=>obtain⟨t',rfl⟩:=ry;exact PySem.EqMixed.ne_bool_str (A3 I q (by simp))
  | _=>exact absurd (show false=true from hs) zAC
 | int i=>
  obtain⟨t,rfl⟩:=rx
  cases y with
  | non=>cases ry;exact PySem.EqNone.ne_int_none (A3 I q (by simp))
  | int j=>obtain⟨t',rfl⟩:=ry;exact ne_int (A3 I q (congrArg not JO))
  | str j=>obtain⟨t',rfl⟩:=ry;exact PySem.EqMixed.ne_int_str (A3 I q (by simp))
  | _=>exact absurd (show false=true from hs) zAC
 | str i=>
  obtain⟨t,rfl⟩:=rx
  cases y with
  | non=>cases ry;exact PySem.EqNone.ne_str_none (A3 I q (by simp))
  | bl j=>cases ry;exact PySem.EqMixed.ne_str_bool (A3 I q (by simp))
  | int j=>obtain⟨t',rfl⟩:=ry;exact PySem.EqMixed.ne_str_int (A3 I q (by simp))
  | str j=>obtain⟨t',rfl⟩:=ry;exact ne_str (A3 I q (congrArg not My))
  | _=>exact absurd (show false=true from hs) zAC
 | byt i=>
  obtain⟨t,rfl⟩:=rx
  cases y with
  | byt j=>obtain⟨t',rfl⟩:=ry;exact PySem.W.ne_bytes (A3 I q (congrArg not Mj))
  | _=>exact absurd (show false=true from hs) zAC
 | _=>cases y<;>exact absurd (show false=true from hs) zAC
theorem So:D3 X (compareOp .Lt) (R0 fun i j=>.bl (decide (i<j))):=RT fun _ _ _ _ _ _ _ q=>lt_int q
theorem Tx:D3 X (compareOp .LtE) (R0 fun i j=>.bl (decide (i<=j))):=RT fun _ _ _ _ _ _ _ q=>le_int q
theorem Fo:D3 X (compareOp .Gt) (R0 fun i j=>.bl (decide (j<i))):=RT fun _ _ _ _ _ _ _ q=>gt_int q
theorem Qz:D3 X (compareOp .GtE) (R0 fun i j=>.bl (decide (j<=i))):=RT fun _ _ _ _ _ _ _ q=>ge_int q
theorem As(b:Expr)(h:op≠.In:=by decide)(h2:op≠.NotIn:=by decide):behindInMarks op b=false:=by
 have e1:(op == CmpOp.In)=false:=by cases op<;>first | rfl | exact absurd rfl h
 have e2:(op == CmpOp.NotIn)=false:=by cases op<;>first | rfl | exact absurd rfl h2
 cases b<;>simp[behindInMarks,e1,e2]
theorem Bo(ho:D3 X (compareOp op) r)(ha:PE X a ta)(hb:PE X b tb)(hm:behindInMarks op b=false):PE X (.Compare a [op] [b] pos) (Uu r ta tb):=by
 intro pins s σ H Q I h
 exact wpAny_Compare1 (Sw ha hb I h fun v u s2 x y H2 I2 rx ry q=>ho pins s2 σ H2 x y v u Q I2 rx ry q) hm
def Tu(t:TE):TT:=fun σ H Q=>t σ H fun x H'=>∃k,x= .bl k/\Q k H'
theorem Al(ho:D3 X (compareOp op) r)(ha:PE X a ta)(hb:PE X b tb)(hm:behindInMarks op b=false):PT X (.Compare a [op] [b] pos) (Tu (Uu r ta tb)):=by
 intro pins s σ H Q I h
 refine wpAny_isTrue_Compare1 (AX (ha pins s σ H _ I h) fun v s1 ⟨x,H1,I1,r1,q1⟩=>AX (hb pins s1 σ H1 _ I1 q1) fun u s2 ⟨y,H2,I2,r2,q2⟩=>
  AX (ho pins s2 σ H2 x y v u _ I2 r1 r2 q2) fun c s3 ⟨z,H3,I3,r3,k,e,q3⟩=>?_) hm
 subst e
 cases r3
 exact wpAny_truthy_bool ⟨H3,I3,q3⟩
def Ub(K:PySem.W.Frag)(x:V)(H:Hp)(k:Bool):Prop:=
 match x with
 | .non=>k=false
 | .bl b=>k=b
 | .int i=>k=(i != 0)
 | .str y=>y.length<=sizeLine/\k=((y.length:Int) != 0)
 | .byt y=>y.size<=sizeLine/\k=((y.size:Int) != 0)
 | .ref p=>(∃xs,SqL K H p xs/\k = !xs.isEmpty)\/(∃xs,SqT K H p xs/\k = !xs.isEmpty)\/∃aS,H p=some (.dK aS)/\k = !aS.isEmpty
 | _=>False
theorem LQ{κ:Type}{aS:List (κ×V)}{vs:List (κ×Value)}(r:KV aS vs):(!vs.isEmpty) = !aS.isEmpty:=by
 cases r<;>rfl
theorem Ic(r:Vals xs its):(!its.toArray.isEmpty) = !xs.isEmpty:=by
 cases r<;>simp
theorem Js:(sizeLine:Nat)<2^63:=by rw[sizeLine_eq];decide
theorem Sz:UK X (fun x H Q=>∃k,Ub X.K x H k/\Q k H):=by
 intro pins s σ H x v Q I rx h
 obtain⟨k,e,q⟩:=h
 have hl:=Js
 have hs:sizeLine=16777216:=sizeLine_eq
 cases x with
 | non=>
  cases rx
  have e':k=false:=e
  subst e'
  exact truthy_none ⟨H,I,q⟩
 | bl b=>
  cases rx
  have e':k=b:=e
  subst e'
  exact wpAny_truthy_bool ⟨H,I,q⟩
 | int i=>
  obtain⟨t,rfl⟩:=rx
  have e':k=(i != 0):=e
  subst e'
  exact PySem.P.truthy_int ⟨H,I,q⟩
 | str y=>
  obtain⟨t,rfl⟩:=rx
  obtain⟨hy,e'⟩:y.length<=sizeLine/\k=((y.length:Int) != 0):=e
  subst e'
  exact PySem.P.truthy_str (by omega) ⟨H,I.tok _,q⟩
 | byt y=>
  obtain⟨t,rfl⟩:=rx
  obtain⟨hy,e'⟩:y.size<=sizeLine/\k=((y.size:Int) != 0):=e
  subst e'
  exact PySem.W.truthy_bytes (by omega) ⟨H,I.tok _,q⟩
 | ref p=>
  cases rx
  have e':(∃xs,SqL X.K H p xs/\k = !xs.isEmpty)\/(∃xs,SqT X.K H p xs/\k = !xs.isEmpty)\/∃aS,H p=some (.dK aS)/\k = !aS.isEmpty:=e
  rcases e' with⟨xs,hx,e'⟩|⟨xs,hx,e'⟩|⟨aS,hx,e'⟩
  ·subst e'
   obtain⟨its,r,pl,hz⟩:=I.list hx
   have ag:=r.length
   exact wpAny_truthy_list pl.isList (by simp only[zAG];omega) ⟨H,I.tok _,by rw[Ic r];exact q⟩
  ·subst e'
   obtain⟨its,r,pl,hz⟩:=I.tuple hx
   have ag:=r.length
   exact truthy_tuple pl (by simp only[zAG];omega) ⟨H,I.tok _,by rw[Ic r];exact q⟩
  ·subst e'
   obtain⟨hz,hS,vs,r,m⟩:aS.length<=sizeLine/\(p == sysModules)=false/\∃vs,KV aS vs/\s.heap.DictOf (Ju X.prog X.w) p vs:=I.hok p _ hx
   have ag:aS.length=vs.length:=zB4 r
   exact wpAny_truthy_dict hS m (by omega) ⟨H,I.tok _,by rw[LQ r];exact q⟩
 | _=>exact (show False from e).elim
theorem D4(ha:PE X a ta)(he:∀bO,isTrue a X.env bO=(do let v <-bO;standAt a.pos;holding [v] (truthy v))):
  PT X a (fun σ H Q=>ta σ H fun x H'=>∃k,Ub X.K x H' k/\Q k H'):=by
 intro pins s σ H Q I h
 exact isTrue_plain (AX (ha pins s σ H _ I h) fun v s1 ⟨x,H1,I1,r1,q1⟩=>Sz pins s1 σ H1 x v Q I1 r1 q1) (he _)
theorem Ci(r:Vals [x] us):∃u,us=[u]/\RelV x u:=by
 cases r with
 | cons r1 r2=>cases r2;exact⟨_,rfl,r1⟩
theorem Sh(r:Vals [x,y] us):∃u w',us=[u,w']/\RelV x u/\RelV y w':=by
 cases r with
 | cons r1 r2=>
  cases r2 with
  | cons r3 r4=>cases r4;exact⟨_,_,rfl,r1,r3⟩
theorem Qf:BP X (.builtin "abs") (fun xs H Q=>∃i,xs=[.int i]/\Q (.int (if i<0 then -i else i)) H):=by
 intro pins s σ H xs us Q I r h
 obtain⟨i,rfl,q⟩:=h
 obtain⟨u,rfl,t,rfl⟩:=Ci r
 exact call_abs_int fun u tk=>⟨.int (if i<0 then -i else i),H,I.tok _,⟨_,rfl⟩,q⟩
theorem Nw(hc:X.calm=true):BP X (.builtin "min") (fun xs H Q=>∃i j,xs=[.int i,.int j]/\Q (.int (if j<i then j else i)) H):=by
 intro pins s σ H xs us Q I r h
 obtain⟨i,j,rfl,q⟩:=h
 obtain⟨u,w',rfl,⟨t,rfl⟩,⟨t',rfl⟩⟩:=Sh r
 refine min_two_ints (I.ok.hd hc) fun h' tk k=>⟨_,H,I.kept k,?_,q⟩
 by_cases hj:j<i
 ·rw[if_pos hj,if_pos hj];exact⟨_,rfl⟩
 ·rw[if_neg hj,if_neg hj];exact⟨_,rfl⟩
end
end L2
namespace L2
open PySem PySem.Spec PyProof.Rows
structure ObjM(h:Heap)(x dx C:Addr)(mA:Str->Option Value):Prop where
 obj:h.get? x=some (PySem.W.instObj C dx)
 ns:h.Ns1 dx mA
 ne:dx≠x
theorem N7{h:Heap}{dx:Addr}{mA:Str->Option Value}(n:h.Ns1 dx mA):∃od,h.get? dx=some od/\∀name,PySem.W.lookIn name od=some (mA name):=by
 obtain⟨o,es,ep,ho,hd,hk,_,hm⟩:=n
 refine⟨o,ho,fun name=>?_⟩
 have e:=hm name
 unfold nsFind findBy at e
 rw[<-Array.find?_toList] at e
 unfold PySem.W.lookIn
 rw[hd]
 dsimp only
 split
 ·rename_i y q
  rw[q] at e
  exact congrArg some e
 ·rename_i q
  rw[q] at e
  have a:es.toList.any (·.refKey)=false:=by
   rw[zDO]
   intro y hy
   obtain⟨z,t,gG⟩:=hk y (Array.mem_toList_iff.mp hy)
   simp[DictEntry.refKey,gG]
  have a':¬es.toList.any (·.refKey)=true:=by rw[a];exact zAC
  rw[if_neg a']
  exact congrArg some e
theorem ObjM.look(I:ObjM h x dx C mA):∃od,PySem.W.InstAt h x (PySem.W.instObj C dx) C (some od)/\∀name,PySem.W.lookIn name od=some (mA name):=
 let ⟨od,ho,hl⟩:=N7 I.ns
 ⟨od,⟨I.obj,rfl,rfl,ho⟩,hl⟩
section
variable {prog:Program}{w:World}{A:Around}{E:Value->Shared->Prop}{s:Shared}{K:PySem.W.Frag}{x dx C f:Addr}{mA:Str->Option Value}{name:Str}{v:Value}
theorem Rv(X:K.In s.heap)(I:ObjM s.heap x dx C mA)(hg:PySem.W.plainGet K C name=true)(hh:PySem.W.hasDictIn K C=true)(ha:PySem.W.findIn K (.ref C) name=some none)(hv:mA name=some v)(hv':PySem.W.handedIn v=true)(h:Q v { s with toks:=s.toks+1 }):
  wpAny (model prog w) A (getAttr (.ref x) name expr) Q E s:=by
 obtain⟨od,J,hl⟩:=I.look
 exact PySem.W.get_value X J (zDC hg).1 (PySem.W.findObj_own hh ha rfl (by rw[hl,hv])) hv' h
theorem PM(X:K.In s.heap)(I:ObjM s.heap x dx C mA)(hg:PySem.W.plainGet K C name=true)(hf:PySem.W.findIn K (.ref C) name=some (some (.ref f)))(ht:PySem.W.isFn K (.ref f)=true)(hv:mA name=none)(h:Q (.ref f,[.ref x]) s):
  wpAny (model prog w) A (getMethod (.ref x) name pl) Q E s:=by
 obtain⟨od,J,hl⟩:=I.look
 exact PySem.W.method_fn X J (zDC hg).1 (zDC hg).2 hf (beq_iff_eq.mp ht) (by show (PySem.W.lookIn name od).map (·.isSome)=some false;rw[hl,hv];rfl) h
theorem RS(X:K.In s.heap)(I:ObjM s.heap x dx C mA)(hs:PySem.W.findIn K (.ref C) "__setattr__"=some (some (.builtin "object.__setattr__")))(hp:PySem.W.plainOver K C=true)(ht:PySem.W.takerIn K C name=some none)(hh:PySem.W.hasDictIn K C=true)(hw:PySem.Within mA ns)(aw:ns.length<=sizeLine)(h:∀h',ObjM h' x dx C (fun y=>if y=name then some v else mA y)->Heap.SameBut dx s.heap h'->Q () { s with heap:=h',toks:=s.toks+2 }):
  wpAny (model prog w) A (setAttr (.ref x) name v) Q E s:=by
 obtain⟨od,J,hl⟩:=I.look
 refine PySem.W.set_plain X J hs (PySem.W.osa_open (s:={ s with toks:=s.toks+1 }) (r:=none) X J hp ht fun b=>?_)
 obtain⟨cd,hc,hd'⟩:=PySem.W.any_some hh
 have hx:s.heap.get? x=some ⟨.ref C,some dx,.plain,#[]⟩:=I.obj
 refine wpAny_bind (wpAny_pure (wpAny_bind (wpAny_bind (wpAny_loadPart hx (wpAny_bind (PySem.W.Looks.here (s:={ s with toks:=s.toks+1 }) (PySem.W.looks_clsIn X hc) ?_))))))
 rw[hd']
 refine wpAny_pure (a:=some dx) (wpAny_bind (wpAny_pure (wpAny_bind ?_)))
 refine wpAny_nsSet1 (s:={ s with toks:=s.toks+1 }) I.ns fun h' gs jc=>?_
 obtain⟨oD,esD,epD,hoD,hdD,hcD⟩:=gs.count (PySem.Within.cons name v hw)
 refine wpAny_bind (wpAny_lookBehind hoD (by rw[hdD];exact pastItsLine_dict (zAH hcD (by rw[zAI];omega))) ?_)
 exact wpAny_pure (h _ ⟨(jc.2 _ (zA7 I.ne)).trans I.obj,gs,I.ne⟩ jc)
theorem Pb(X:K.In s.heap)(hm:PySem.W.makesIn K C=true)(hi:PySem.W.findIn K (.ref C) "__init__"=some (some (.ref f)))(hf:PySem.W.typeIn K (.ref f)=some (.type "function"))(h:codeAny (model prog w) (A.under (.builtin "type.__call__" ⟨.ref C::vs,kw⟩)) (.call (.ref f) ⟨.ref (s.heap.objs.size+1)::vs,kw⟩) (PySem.W.InitBack (s.heap.objs.size+1) R)
   { s with heap:=(s.heap.push PySem.W.emptyDict).push (PySem.W.instObj C s.heap.objs.size) }):
  codeAny (model prog w) A (.call (.ref C) ⟨vs,kw⟩) R s:=by
 obtain⟨hh,g,d,t,os⟩:=s
 exact PySem.W.make_core (PySem.W.makes_of X hm) (PySem.W.looks_findIn X hi) (fun self=>PySem.W.bind_fn X self hf) (.inl rfl) h
end
def Ct(f:Str)(v:V):List (Str×V)->List (Str×V)
 | []=>[(f,v)]
 | (g,x)::r=>if g=f then (g,v)::r else (g,x)::Ct f v r
theorem Gw(f g:Str)(v:V):∀fs:List (Str×V),(Ct f v fs).lookup g=if g=f then some v else fs.lookup g
 | []=>by
  show List.lookup g [(f,v)]=_
  by_cases h:g=f
  ·have hb:(g == f)=true:=beq_iff_eq.mpr h
   simp only[List.lookup,hb,if_pos h]
  ·have hb:(g == f)=false:=beq_eq_false_iff_ne.mpr h
   simp only[List.lookup,hb,if_neg h]
 | (k,x)::r=>by
  have ih:=Gw f g v r
  rw[show Ct f v ((k,x)::r)=(if k=f then (k,v)::r else (k,x)::Ct f v r) from rfl]
  by_cases hk:k=f
  ·rw[if_pos hk]
   by_cases h:g=k
   ·have hb:(g == k)=true:=beq_iff_eq.mpr h
    simp only[List.lookup,hb,if_pos (h.trans hk)]
   ·have hb:(g == k)=false:=beq_eq_false_iff_ne.mpr h
    simp only[List.lookup,hb,if_neg (fun e:g=f=>h (e.trans hk.symm))]
  ·rw[if_neg hk]
   by_cases h:g=k
   ·have hb:(g == k)=true:=beq_iff_eq.mpr h
    simp only[List.lookup,hb,if_neg (fun e:g=f=>hk (h.symm.trans e))]
   ·have hb:(g == k)=false:=beq_eq_false_iff_ne.mpr h
    simp only[List.lookup,hb]
    exact ih
theorem Gg(f:Str)(v:V):∀fs:List (Str×V),f∈(Ct f v fs).map (·.1)/\∀g,g∈fs.map (·.1)->g∈(Ct f v fs).map (·.1)
 | []=>⟨by simp[Ct],fun g h=>by simp at h⟩
 | (k,x)::r=>by
  obtain⟨i1,i2⟩:=Gg f v r
  rw[show Ct f v ((k,x)::r)=(if k=f then (k,v)::r else (k,x)::Ct f v r) from rfl]
  by_cases hk:k=f
  ·rw[if_pos hk]
   subst hk
   exact⟨by simp,fun g h=>by simpa using h⟩
  ·rw[if_neg hk]
   refine⟨?_,fun g h=>?_⟩
   ·rw[zBL]
    exact List.mem_cons_of_mem _ i1
   ·rw[zBL] at h ⊢
    rcases List.mem_cons.mp h with e | e
    ·exact List.mem_cons.mpr (.inl e)
    ·exact List.mem_cons_of_mem _ (i2 g e)
theorem Gq(f:Str)(v:V):∀fs:List (Str×V),(Ct f v fs).length<=fs.length+1
 | []=>by simp[Ct]
 | (k,x)::r=>by
  have ih:=Gq f v r
  rw[show Ct f v ((k,x)::r)=(if k=f then (k,v)::r else (k,x)::Ct f v r) from rfl]
  by_cases hk:k=f
  ·rw[if_pos hk,zAI,zAI];omega
  ·rw[if_neg hk,zAI,zAI];omega
theorem RelO.some_of(r:RelO (some v) o):∃u,o=some u/\RelV v u:=by
 cases o with
 | none=>exact (show False from r).elim
 | some u=>exact⟨u,rfl,r⟩
theorem RelO.none_of(r:RelO none o):o=none:=by
 cases o with
 | none=>rfl
 | some u=>exact (show False from r).elim
theorem NF(r:RelV v u):PySem.W.handedIn u=true:=by
 cases v with
 | non=>cases (show u=Value.none from r);rfl
 | bl b=>cases (show u=Value.bool b from r);rfl
 | int i=>obtain⟨t,e⟩:=(show ∃t,u=Value.int i t from r);cases e;rfl
 | str x=>obtain⟨t,e⟩:=(show ∃t,u=Value.str x t from r);cases e;rfl
 | byt b=>obtain⟨t,e⟩:=(show ∃t,u=Value.bytes b t from r);cases e;rfl
 | flt b=>obtain⟨t,e⟩:=(show ∃t,u=Value.float b t from r);cases e;rfl
 | ref a=>cases (show u=Value.ref a from r);rfl
 | ty n=>cases (show u=Value.type n from r);rfl
section
variable {P:Program}{w:World}{H H':Hp}{h h':Heap}{a C dx:Addr}{fs fs':List (Str×V)}
theorem Hk(hok:HOk P w H h)(e:H a=some (.ins C dx fs)):∃mA,ObjM h a dx C mA/\(∀f,RelO (fs.lookup f) (mA f))/\PySem.Within mA (fs.map (·.1))/\fs.length<=1000/\H dx=some (.own a):=by
 obtain⟨d,z,ne,ob,mA,n,r,q⟩:=(show ObjOk P w H h a (.ins C dx fs) from hok a _ e)
 exact⟨mA,⟨ob,n,ne⟩,r,q,z,d⟩
end
structure Cls(K:PySem.W.Frag)(C:Addr):Prop where
 pg:PySem.W.plainGet K C Str.empty=true
 hd:PySem.W.hasDictIn K C=true
 po:PySem.W.plainOver K C=true
 sa:PySem.W.findIn K (.ref C) "__setattr__"=some (some (.builtin "object.__setattr__"))
theorem Cls.get{K:PySem.W.Frag}(c:Cls K C)(f:Str):PySem.W.plainGet K C f=true:=c.pg
def NoAttr(K:PySem.W.Frag)(C:Addr)(f:Str):Prop:=PySem.W.findIn K (.ref C) f=some none
theorem NoAttr.taker{K:PySem.W.Frag}(n:NoAttr K C f):PySem.W.takerIn K C f=some none:=by
 unfold PySem.W.takerIn
 rw[show PySem.W.findIn K (.ref C) f=some none from n]
 rfl
structure RR(K:PySem.W.Frag)(C:Addr)(m:Str)(f:Addr):Prop where
 at_:PySem.W.findIn K (.ref C) m=some (some (.ref f))
 fn:PySem.W.isFn K (.ref f)=true
 kp:PySem.W.keepIn K (.ref f)=true
section
variable {X:Cx}{pins:List (Addr×Obj)}{σ:St}{H:Hp}{s:Shared}{a C dx:Addr}{fs:List (Str×V)}{f:Str}{v:V}{A:Around}{E:Value->Shared->Prop}
theorem Ls(I:Inv X pins σ H s)(e:H a=some (.ins C dx fs))(c:Cls X.K C)(n:NoAttr X.K C f)(l:fs.lookup f=some v)(h:∀u s',Inv X pins σ H s'->RelV v u->Q u s'):wpAny (model X.prog X.w) A (getAttr (.ref a) f b) Q E s:=by
 obtain⟨mA,O,r,_,_,_⟩:=Hk I.hok e
 obtain⟨u,hu,ru⟩:=RelO.some_of (v:=v) (o:=mA f) (by rw[<-l];exact r f)
 exact Rv I.kIn O (c.get f) c.hd n hu (NF ru) (h u _ (I.tok _) ru)
theorem Hy(I:Inv X pins σ H s)(e:H a=some (.ins C dx fs))(c:Cls X.K C)(k:RR X.K C m g)(l:fs.lookup m=none)(h:Q (.ref g,[.ref a]) s):wpAny (model X.prog X.w) A (getMethod (.ref a) m pl) Q E s:=by
 obtain⟨mA,O,r,_,_,_⟩:=Hk I.hok e
 have hn:mA m=none:=RelO.none_of (by rw[<-l];exact r m)
 exact PM I.kIn O (c.get m) k.at_ k.fn hn h
theorem LG(I:Inv X pins σ H s)(e:H a=some (.ins C dx fs))(c:Cls X.K C)(n:NoAttr X.K C f)(hl:fs.length<1000)(ry:RelV y u)(h:∀s',Inv X pins σ (upd H a (.ins C dx (Ct f y fs))) s'->Q () s'):wpAny (model X.prog X.w) A (setAttr (.ref a) f u) Q E s:=by
 obtain⟨mA,O,r,wi,_,ho⟩:=Hk I.hok e
 have hz:(fs.map (·.1)).length<=sizeLine:=by rw[List.length_map,sizeLine_eq];omega
 refine RS I.kIn O c.sa c.po n.taker c.hd wi hz fun h' O' sb=>h _ ?_
 have hd:∃o,h'.get? dx=some o:=let ⟨o,_,_,e',_⟩:=O'.ns;⟨o,e'⟩
 refine I.write (x:=a) (e:=dx) (by rw[e];exact True.intro) (.inr ho) (fun b q hb z=>(sb.2 b hb).trans z) hd ?_
 refine⟨by rw[Ax O.ne];exact ho,?_,O.ne,O'.obj,_,O'.ns,fun g=>?_,fun g hg=>?_⟩
 ·have:=Gq f y fs;omega
 ·show RelO ((Ct f y fs).lookup g) (if g=f then some u else mA g)
  rw[Gw]
  by_cases q:g=f
  ·rw[if_pos q,if_pos q];exact ry
  ·rw[if_neg q,if_neg q];exact r g
 ·by_cases q:g=f
  ·rw[q];exact (Gg f y fs).1
  ·refine (Gg f y fs).2 g (wi g fun z=>hg ?_)
   show (if g=f then some u else mA g)=none
   rw[if_neg q];exact z
theorem Inv.made(I:Inv X pins σ H s):Inv X pins σ (upd (upd H s.heap.objs.size (.own (s.heap.objs.size+1))) (s.heap.objs.size+1) (.ins C s.heap.objs.size []))
  { s with heap:=(s.heap.push PySem.W.emptyDict).push (PySem.W.instObj C s.heap.objs.size) }:=by
 have e1:(s.heap.push PySem.W.emptyDict).get? s.heap.objs.size=some PySem.W.emptyDict:=Heap.get?_push_size s.heap rfl
 have e2:((s.heap.push PySem.W.emptyDict).push (PySem.W.instObj C s.heap.objs.size)).get? (s.heap.objs.size+1)=some (PySem.W.instObj C s.heap.objs.size):=by
  have:=Heap.get?_push_size (s.heap.push PySem.W.emptyDict) (o:=PySem.W.instObj C s.heap.objs.size) rfl
  rwa [zAU] at this
 have e3:(s.heap.push PySem.W.emptyDict).Ns s.heap.objs.size (fun _=>none):=⟨PySem.W.emptyDict,#[],_,e1,rfl,(fun e he=>absurd he (by simp)),fun _=>rfl⟩
 have I1:=I.laid (a:=s.heap.objs.size) (o:=.own (s.heap.objs.size+1)) (h':=s.heap.push PySem.W.emptyDict) (t':=s.toks) (fun b u q=>Heap.get?_push_of_some _ q) (zAA _) ⟨_,e1⟩
 refine I1.laid (a:=s.heap.objs.size+1) (o:=.ins C s.heap.objs.size []) (t':=s.toks) (fun b u q=>Heap.get?_push_of_some _ q) (Nat.le_of_eq (zAU _ _)) ?_
 have ne:s.heap.objs.size≠s.heap.objs.size+1:=zAE (zB7 _)
 refine⟨by rw[Ax ne,upd_same],zA9 _,ne,e2,fun _=>none,(Heap.Ns1.of_empty e3).at fun o q=>Heap.get?_push_of_some _ q,fun _=>True.intro,fun y hy=>absurd rfl hy⟩
theorem Rs(hb:attributeBase e f env (eval e env)=eval e env)(h:wpAny (model prog w) A (eval e env) (fun o s₁=>wpAny (model prog w) A (getAttr o f true) Q E s₁) E s):wpAny (model prog w) A (eval (.Attribute e f pos) env) Q E s:=
 Attribute_any_ h (by rw[arm_eval_Attribute,hb])
end
def UE(K:PySem.W.Frag)(ta:TE)(f:Str):TE:=fun σ H Q=>ta σ H fun x H1=>∃a C dx fs v,x= .ref a/\H1 a=some (.ins C dx fs)/\Cls K C/\NoAttr K C f/\fs.lookup f=some v/\Q v H1
def U7(K:PySem.W.Frag)(ta tv:TE)(f:Str):TS:=fun D σ H=>tv σ H fun y H1=>ta σ H1 fun x H2=>∃a C dx fs,x= .ref a/\H2 a=some (.ins C dx fs)/\Cls K C/\NoAttr K C f/\fs.length<1000/\
 D.nx σ (upd H2 a (.ins C dx (Ct f y fs)))
section
variable {X:Cx}{o e value:Expr}{f:Str}{pos ck tpos:Pos}{ta tv:TE}
theorem Bp(he:PE X e ta)(hb:attributeBase e f X.env (eval e X.env)=eval e X.env):PE X (.Attribute e f pos) (UE X.K ta f):=by
 intro pins s σ H Q I h
 refine Rs hb (AX (he pins s σ H _ I h) fun u s1 ⟨x,H1,I1,rx,a,C,dx,fs,v,ex,ea,c,n,l,q⟩=>?_)
 subst ex
 obtain rfl:u=Value.ref a:=rx
 exact Ls I1 ea c n l fun u' s2 I2 ru=>⟨v,H1,I2,ru,q⟩
theorem DD(ha:PE X o ta)(hv:PE X value tv)(hs:swapsWith value (some (.Attribute o f ck)) pos.line X.env=pure false):PS X (.Assign [.Attribute o f ck] value pos) (U7 X.K ta tv f):=by
 intro pins s σ H D I h
 refine plainObj_wpAny_Assign_Attribute (AX (hv pins s σ H _ I h) fun u s1 ⟨y,H1,I1,ry,q⟩=>AX (ha pins s1 σ H1 _ I1 q) fun ov s2 ⟨x,H2,I2,rx,a,C,dx,fs,ex,ea,c,n,l,q2⟩=>?_) hs
 subst ex
 obtain rfl:ov=Value.ref a:=rx
 exact LG I2 ea c n l ry fun s3 I3=>⟨σ,_,I3,q2⟩
end
section
variable {X:Cx}{pins:List (Addr×Obj)}{σ:St}{H:Hp}{s:Shared}{A:Around}{E:Value->Shared->Prop}{Q:Value->Shared->Prop}{c:Value}{b:Bool}
inductive Gf(K:PySem.W.Frag)(H:Hp):V->Value->Prop where
 | non:Gf K H .non (.type "NoneType")
 | bl (x:Bool):Gf K H (.bl x) (.type "bool")
 | int (i:Int):Gf K H (.int i) (.type "int")
 | str (x:Str):Gf K H (.str x) (.type "str")
 | flt (x:UInt64):Gf K H (.flt x) (.type "float")
 | lst {a:Addr} {xs:List V} (e:H a=some (.lst xs)):Gf K H (.ref a) (.type "list")
 | frz {a:Addr} {o:Obj} {xs:List V} (e:H a=some (.frz o (.lst xs))):Gf K H (.ref a) (.type "list")
 | tup {a:Addr} {xs:List V} (e:H a=some (.tup xs)):Gf K H (.ref a) (.type "tuple")
 | dK {a:Addr} {aS:List (JZ×V)} (e:H a=some (.dK aS)):Gf K H (.ref a) (.type "dict")
 | dT {a:Addr} {aS:List (List JZ×V)} (e:H a=some (.dT aS)):Gf K H (.ref a) (.type "dict")
 | ins {a C dx:Addr} {fs:List (Str×V)} (e:H a=some (.ins C dx fs)) (cl:Cls K C) (ha:PySem.W.findIn K (.ref C) "__class__"=some (some (.builtin "object.__class__")))
   (hn:PySem.W.specialIn K (.builtin "object.__class__") "__get__"=some (some (.builtin "getset_descriptor.__get__"))) (htk:PySem.W.takesIn K (.builtin "object.__class__")=some true)
   (hm:PySem.W.mroIn K C (.type "object")=some true):Gf K H (.ref a) (.ref C)
theorem Nr(I:Inv X pins σ H s)(rx:RelV x u)(ty:Gf X.K H x t)(e:PySem.W.kitOne X.K t c=some b)(h:∀tk,Q (.bool b) { s with toks:=tk }):
  wpAny (model X.prog X.w) A (call (.builtin "isinstance") [u,c]) Q E s:=by
 cases ty with
 | non=>cases (show u=Value.none from rx);exact zBO PySem.W.kitx_none I.kIn True.intro e (fun z=>nomatch z) h
 | bl y=>cases (show u=Value.bool y from rx);exact zBO PySem.W.kitx_bool I.kIn True.intro e (fun z=>nomatch z) h
 | int i=>obtain⟨t,q⟩:=(show ∃t,u=Value.int i t from rx);cases q;exact zBO PySem.W.kitx_int I.kIn True.intro e (fun z=>nomatch z) h
 | str y=>obtain⟨t,q⟩:=(show ∃t,u=Value.str y t from rx);cases q;exact zBO PySem.W.kitx_str I.kIn True.intro e (fun z=>nomatch z) h
 | flt y=>obtain⟨t,q⟩:=(show ∃t,u=Value.float y t from rx);cases q;exact zBO PySem.W.kitx_float I.kIn True.intro e (fun z=>nomatch z) h
 | @lst a xs ea=>
  cases (show u=Value.ref a from rx)
  obtain⟨_,_,n,_,h1⟩:=(show ObjOk X.prog X.w H s.heap a (.lst xs) from I.hok a _ ea)
  exact zBO PySem.W.kitx_list I.kIn ⟨_,h1,rfl⟩ e (fun z=>nomatch z) h
 | @frz a ob xs ea=>
  cases (show u=Value.ref a from rx)
  obtain⟨_,_,_,n,_,h1⟩:=(show ObjOk X.prog X.w H s.heap a (.frz ob (.lst xs)) from I.hok a _ ea)
  exact zBO PySem.W.kitx_list I.kIn ⟨_,h1,rfl⟩ e (fun z=>nomatch z) h
 | @tup a xs ea=>
  cases (show u=Value.ref a from rx)
  obtain⟨_,_,_,p⟩:=(show ObjOk X.prog X.w H s.heap a (.tup xs) from I.hok a _ ea)
  obtain⟨o,h1,h2,_⟩:=p
  exact zBO PySem.W.kitx_tuple I.kIn ⟨o,h1,h2⟩ e (fun z=>nomatch z) h
 | @dK a aS ea=>
  cases (show u=Value.ref a from rx)
  obtain⟨_,_,vs,_,p⟩:=(show ObjOk X.prog X.w H s.heap a (.dK aS) from I.hok a _ ea)
  obtain⟨o,es,ep,h1,h2,_⟩:=p
  exact zBO PySem.W.kitx_dict I.kIn ⟨o,h1,h2.1⟩ e (fun z=>nomatch z) h
 | @dT a aS ea=>
  cases (show u=Value.ref a from rx)
  obtain⟨_,_,xs,_,o,es,ep,h1,h2,_⟩:=(show ObjOk X.prog X.w H s.heap a (.dT aS) from I.hok a _ ea)
  exact zBO PySem.W.kitx_dict I.kIn ⟨o,h1,h2.1⟩ e (fun z=>nomatch z) h
 | @ins a C dx fs ea cl ha hn htk hm=>
  cases (show u=Value.ref a from rx)
  obtain⟨mA,O,_⟩:=Hk I.hok ea
  obtain⟨od,J,_⟩:=O.look
  exact zBO (PySem.W.kitx_own (cl.get _) cl.hd ha hn htk hm) I.kIn J e (fun z=>nomatch z) h
end
end L2
namespace L2
open PySem PySem.Spec PyProof.Rows
structure Room(k:Nat)(A:Around):Prop where
 hd:A.handled=none
 dp:A.depth+3*k+5<recursionLimit
 un:A.units+16*k+200<cLine
theorem Room.mono(r:Room k A)(h:j<=k):Room j A:=⟨r.hd,by have:=r.dp;omega,by have:=r.un;omega⟩
theorem Room.deeper(r:Room (k+1) A)(env:Env):Room k (A.deeper env):=
 ⟨r.hd,by have:=r.dp;show A.depth+1+3*k+5<_;omega,by have:=r.un;show A.units+3+16*k+200<_;omega⟩
theorem Lm{A:Around}{C:Addr}{us:List Value}{kw:List (Str×Value)}:(A.under (.builtin "type.__call__" ⟨.ref C::us,kw⟩)).depth=A.depth+1:=by
 first | rfl | simp[Around.under,Code.weight,Code.isCreation,Code.isGuard,Code.isCaller,Code.frames,Code.isFrame,guardIds]
theorem Le{A:Around}{C:Addr}{us:List Value}{kw:List (Str×Value)}:(A.under (.builtin "type.__call__" ⟨.ref C::us,kw⟩)).units=A.units+1:=by
 first | rfl | simp[Around.under,Code.cUnits,Code.frames,Code.isFrame]
theorem Room.make(r:Room (k+1) A)(C:Addr)(us:List Value)(kw:List (Str×Value)):Room k (A.under (.builtin "type.__call__" ⟨.ref C::us,kw⟩)):=
 ⟨r.hd,by have:=r.dp;rw[Lm];omega,by have:=r.un;rw[Le];omega⟩
theorem Room.depth(r:Room k A):A.depth<recursionLimit:=by have:=r.dp;omega
theorem Room.units0(r:Room k A):A.units<cLine:=by have:=r.un;omega
def SF:TA:=fun _ H Q=>Q [] H
def TR(ta:TE)(tr:TA):TA:=fun σ H Q=>ta σ H fun x H1=>tr σ H1 fun xs H2=>Q (x::xs) H2
section
variable {X:Cx}{e:Expr}{es:List Expr}{te:TE}{t:TA}{pos:Pos}
theorem Ab:PA X [] SF:=fun _ _ _ _ H Q I h=>Calls.spliced_nil ⟨[],H,I,.nil,h⟩
theorem Aa(ha:PE X e te)(hr:PA X es t)(hs:starEach (e::es) X.env=(false,eval e X.env)::starEach es X.env:=by rfl):PA X (e::es) (TR te t):=by
 intro pos pins s σ H Q I h
 rw[hs]
 show wpAny _ _ (spliced ((false,eval e X.env)::backTo pos (starEach es X.env))) _ _ s
 refine Calls.spliced_cons (AX (ha pins s σ H _ I h) fun u s1 ⟨x,H1,I1,r1,q1⟩=>?_)
 exact AX (hr pos pins s1 σ H1 _ I1 q1) fun us s2 ⟨xs,H2,I2,r2,q2⟩=>⟨x::xs,H2,I2,.cons r1 r2,q2⟩
def UT(t:TA):TE:=fun σ H Q=>t σ H fun xs H1=>xs.length<=sizeLine/\∀p,H1 p=none->Q (.ref p) (upd H1 p (.tup xs))
def U4(t:TA):TE:=fun σ H Q=>t σ H fun xs H1=>xs.length<=sizeLine/\∀p,H1 p=none->Q (.ref p) (upd H1 p (.lst xs))
theorem Bc {x1} (h:PA X es t):PE X (.Tuple es x1 pos) (UT t):=by
 intro pins s σ H Q I hq
 refine wpAny_Tuple_spliced (AX (h pos pins s σ H _ I hq) fun us s1 ⟨xs,H1,I1,r,z,q⟩=>⟨by rw[<-r.length];exact z,?_⟩)
 have hf:H1 s1.heap.objs.size=none:=I1.hok.fresh (zAA _)
 refine⟨.ref s1.heap.objs.size,upd H1 s1.heap.objs.size (.tup xs),I1.laid (t':=s1.toks) (fun b u e=>Heap.get?_push_of_some _ e) (zAA _) ?_,rfl,q _ hf⟩
 exact⟨z,us,r,⟨_,Heap.get?_push_size _ rfl,rfl,_,rfl⟩⟩
theorem AI(h:PA X es t):PE X (.List es pos) (U4 t):=by
 intro pins s σ H Q I hq
 refine wpAny_List_spliced (AX (h pos pins s σ H _ I hq) fun us s1 ⟨xs,H1,I1,r,z,q⟩=>⟨by rw[<-r.length];exact z,?_⟩)
 have hf:H1 s1.heap.objs.size=none:=I1.hok.fresh (zAA _)
 refine⟨.ref s1.heap.objs.size,upd H1 s1.heap.objs.size (.lst xs),I1.laid (t':=s1.toks) (fun b u e=>Heap.get?_push_of_some _ e) (zAA _) ?_,rfl,q _ hf⟩
 exact⟨z,us,0,r,Heap.get?_push_size _ rfl⟩
end
abbrev Sp:=List V->Hp->VK->XK->Prop
abbrev Mi:=List Env->Hp->Shared->XK->Value->Shared->Prop
structure Env0(P:Program)(w:World)(K:PySem.W.Frag)(mg:Str->Option Value)(base:Heap)(A:Around)(outer:List Env)(s:Shared)(H:Hp):Prop where
 frames:A.frames=some outer
 mod:Mod K mg base
 bs:∀b o,base.get? b=some o->s.heap.get? b=some o/\H b=none
 bsz:base.objs.size<=s.heap.objs.size
 funs:s.heap.FunFrames base outer
 frf:∀b∈Ib outer,H b=none
 hok:HOk P w H s.heap
 bare:AllBare s.gens
def CE(outer:List Env)(P:Program)(w:World)(H:Hp)(s:Shared)(Q:VK)(u:Value)(s':Shared):Prop:=
 ∃v H',s'.os=s.os/\AllBare s'.gens/\Un (Ib outer) [] H H' s.heap s'.heap/\HOk P w H' s'.heap/\RelV v u/\Q v H'
def CR(CX:Mi)(outer:List Env)(P:Program)(w:World)(H:Hp)(s:Shared)(Q:VK)(E:XK)(r:Result)(s':Shared):Prop:=
 match r with
 | .ok (.ret u)=>CE outer P w H s Q u s'
 | .ok _=>False
 | .error e=>CX outer H s E e s'
structure FnOk(P:Program)(w:World)(K:PySem.W.Frag)(mg:Str->Option Value)(base:Heap)(CX:Mi)(k:Nat)(f:Addr)(fd:FuncData)(ps:List Str)(sp:Sp):Prop where
 len:∀vs H Q E,sp vs H Q E->vs.length=ps.length
 run:∀(A:Around)(outer:List Env)(s:Shared)(H:Hp)(args:Args)(us:List Value)(vs:List V)(Q:VK)(E:XK),Room k A->Env0 P w K mg base A outer s H->BindsTo s fd args (ps.zip us)->Vals vs us->sp vs H Q E->
  codeAny (model P w) A (.call (.ref f) args) (CR CX outer P w H s Q E) s
theorem FnOk.mono{K:PySem.W.Frag}(F:FnOk P w K mg base CX j f fd ps sp)(h:j<=k):
  FnOk P w K mg base CX k f fd ps sp:=⟨F.len,fun A outer s H args us vs Q E hr=>F.run A outer s H args us vs Q E (hr.mono h)⟩
theorem FnOk.imp{K:PySem.W.Frag}(F:FnOk P w K mg base CX k f fd ps sp)(h:∀vs H Q E,sp' vs H Q E->sp vs H Q E):FnOk P w K mg base CX k f fd ps sp':=
 ⟨fun vs H Q E q=>F.len vs H Q E (h _ _ _ _ q),fun A outer s H args us vs Q E hr he hb hv hs=>F.run A outer s H args us vs Q E hr he hb hv (h _ _ _ _ hs)⟩
theorem Env0.make{K:PySem.W.Frag}(e:Env0 P w K mg base A outer s H)(C:Addr)(us:List Value)(kw:List (Str×Value)):
  Env0 P w K mg base (A.under (.builtin "type.__call__" ⟨.ref C::us,kw⟩)) outer s H:=⟨by first | exact e.frames | (simpa [Around.under,Code.envs,Code.isFrame,pushEnvs] using e.frames),e.mod,e.bs,e.bsz,e.funs,e.frf,e.hok,e.bare⟩
section
variable {X:Cx}{pins:List (Addr×Obj)}{σ:St}{H:Hp}{s s':Shared}
theorem Inv.env0(I:Inv X pins σ H s):Env0 X.prog X.w X.K X.mg X.base X.A X.stack s H:=
 ⟨I.ok.frames,I.ok.mod,I.bs,zAH I.ok.bsz I.sz,I.stack,I.stkFree,I.hok,I.bare⟩
theorem Inv.after(I:Inv X pins σ H s)(h:CE X.stack X.prog X.w H s Q u s'):EP X pins σ Q u s':=by
 obtain⟨v,H',os,bare,un,hok,r,q⟩:=h
 obtain⟨hh,g,d,t,os'⟩:=s'
 obtain rfl:os'=s.os:=os
 exact⟨v,H',I.call (h':=hh) (g':=g) (d':=d) (t':=t) (ch:=[]) un hok bare (fun b z=>absurd z (by simp)),r,q⟩
end
def Ty(sp:Sp)(bd:List V)(E:XK)(t:TA):TE:=fun σ H Q=>t σ H fun vs H1=>sp (vs++bd) H1 Q E
def Si(C:Addr)(m:Str)(sp:Sp)(bd:List V)(E:XK)(ta:TE)(t:TA):TE:=fun σ H Q=>ta σ H fun x H1=>∃a dx fs,x= .ref a/\H1 a=some (.ins C dx fs)/\fs.lookup m=none/\
 t σ H1 fun vs H2=>sp (x::(vs++bd)) H2 Q E
def Uh(C:Addr)(sp:Sp)(bd:List V)(E:XK)(t:TA):TE:=fun σ H Q=>t σ H fun vs H1=>∀x dx,H1 x=none->H1 dx=none->dx≠x->
 sp (.ref x::(vs++bd)) (upd (upd H1 dx (.own x)) x (.ins C dx [])) (fun v H2=>v= .non/\Q (.ref x) H2) E
def Binds(K:PySem.W.Frag)(fd:FuncData)(ps:List Str)(ds:List Value):Prop:=
 ∀(s:Shared)(us:List Value),K.In s.heap->(us++ds).length=ps.length->BindsTo s fd ⟨us,[]⟩ (ps.zip (us++ds))
theorem Binds.all{K:PySem.W.Frag}(h:∀us:List Value,us.length=ps.length->bindArgs fd ⟨us,[]⟩=pure (ps.zip us)):Binds K fd ps []:=fun s us _ hl=>by
 rw[zBP] at hl ⊢
 exact .of_eq (h us hl)
def Ds(CX:Mi)(X:Cx)(E:XK):Prop:=∀(pins:List (Addr×Obj))(σ:St)(H:Hp)(s:Shared)(e:Value)(s':Shared),Inv X pins σ H s->CX X.stack H s E e s'->X.xe e s'
section
variable {X:Cx}{CX:Mi}{k:Nat}{f C:Addr}{fd:FuncData}{ps:List Str}{sp:Sp}{bd:List V}{ds:List Value}{E:XK}{x m:Str}{p pos bj:Pos}{e o:Expr}{es:List Expr}{ta:TE}{t:TA}
theorem LU(F:FnOk X.prog X.w X.K X.mg X.base CX k f fd ps sp)(hr:Room k X.A)(hb:Binds X.K fd ps ds)(hd:Vals bd ds)(hx:Ds CX X E)(I:Inv X pins σ H s)(r:Vals vs us)(h:sp (vs++bd) H Q E):wpAny (model X.prog X.w) X.A (call (.ref f) us) (EP X pins σ Q) X.xe s:=by
 have r2:Vals (vs++bd) (us++ds):=r.append hd
 have hl:(us++ds).length=ps.length:=by rw[<-r2.length];exact F.len _ _ _ _ h
 refine wpAny_call (codeAny_mono (F.run X.A X.stack s H ⟨us,[]⟩ (us++ds) (vs++bd) Q E hr I.env0 (hb s us I.kIn hl) r2 h) fun r s' hq=>?_)
 cases r with
 | error e=>exact hx pins σ H s e s' I hq
 | ok fl=>
  cases fl with
  | ret u=>exact I.after hq
  | next=>exact False.elim hq
  | brk=>exact False.elim hq
  | cont=>exact False.elim hq
theorem Ah(F:FnOk X.prog X.w X.K X.mg X.base CX k f fd ps sp)(hr:Room k X.A)(hg:Gl X x)(hm:X.mg x=some (.ref f))(hk:PySem.W.keepIn X.K (.ref f)=true)(hb:Binds X.K fd ps ds)(hd:Vals bd ds)(hx:Ds CX X E)(ha:PA X (e::es) t)(gH:(x == ("__debug__":Str))=false:=by decide)(he:starEach (e::es) X.env=(false,eval e X.env)::starEach es X.env:=by rfl)(ar:(backTo pos (starEach es X.env)).any (·.1)=false:=by rfl):
  PE X (.Call (.Name x p) (e::es) [] pos) (Ty sp bd E t):=by
 intro pins s σ H Q I h
 refine wpAny_Call_Name_kw (Jk I hg hm ?_ gH)
 refine zCP (h₀:=X.base) I.ok.mod.kin hk (AX (ha pos pins s σ H _ I h) fun us s1 ⟨vs,H1,I1,r,q⟩=>⟨I1.kIn,?_⟩) he ar
 exact LU F hr hb hd hx I1 r q
theorem Ms(he:PE X o ta)(c:Cls X.K C)(hm:RR X.K C m f)(F:FnOk X.prog X.w X.K X.mg X.base CX k f fd ps sp)(hr:Room k X.A)(hb:Binds X.K fd ps ds)(hd:Vals bd ds)(hx:Ds CX X E)(ha:PA X (e::es) t)(gD:starEach (e::es) X.env=(false,eval e X.env)::starEach es X.env:=by rfl)(ar:(backTo pos (starEach es X.env)).any (·.1)=false:=by rfl)(ht:eval (.Call (.Attribute o m bj) (e::es) [] pos) X.env=(do
   let ov <-eval o X.env
   standAt bj.atName
   let (f,first) <-holding [ov] (getMethod ov m pl)
   callWith pos f first (backTo pos (starEach (e::es) X.env)) (backToKw pos (keywordEach [] X.env))):=by rfl):
  PE X (.Call (.Attribute o m bj) (e::es) [] pos) (Si C m sp bd E ta t):=by
 intro pins s σ H Q I h
 refine PySem.W.methodCall_KW (pl:=pl) (AX (he pins s σ H _ I h) fun u s1 ⟨x,H1,I1,rx,a,dx,fs,ex,ea,l,q⟩=>?_) ht
 subst ex
 obtain rfl:u=Value.ref a:=rx
 refine Hy I1 ea c hm l ?_
 refine zCP (first:=[.ref a]) (h₀:=X.base) I.ok.mod.kin hm.kp (AX (ha pos pins s1 σ H1 _ I1 q) fun us s2 ⟨vs,H2,I2,r,q2⟩=>⟨I2.kIn,?_⟩) gD ar
 exact LU (us:=.ref a::us) (vs:=.ref a::vs) F hr hb hd hx I2 (.cons rfl r) q2
theorem A0(he:PE X o ta)(c:Cls X.K C)(hm:RR X.K C m f)(F:FnOk X.prog X.w X.K X.mg X.base CX k f fd ps sp)(hr:Room k X.A)(hb:Binds X.K fd ps ds)(hd:Vals bd ds)(hx:Ds CX X E)(ht:eval (.Call (.Attribute o m bj) [] [] pos) X.env=(do
   let ov <-eval o X.env
   standAt bj.atName
   let (f,first) <-holding [ov] (getMethod ov m pl)
   callWith pos f first (backTo pos (starEach [] X.env)) (backToKw pos (keywordEach [] X.env))):=by rfl):
  PE X (.Call (.Attribute o m bj) [] [] pos) (Si C m sp bd E ta SF):=by
 intro pins s σ H Q I h
 refine PySem.W.methodCall_KW (pl:=pl) (AX (he pins s σ H _ I h) fun u s1 ⟨x,H1,I1,rx,a,dx,fs,ex,ea,l,q⟩=>?_) ht
 subst ex
 obtain rfl:u=Value.ref a:=rx
 refine Hy I1 ea c hm l ?_
 exact PySem.W.callWith_K0 (first:=[.ref a]) I1.kIn hm.kp (LU (us:=[.ref a]) (vs:=[.ref a]) F hr hb hd hx I1 (.cons rfl .nil) q)
structure Mk(K:PySem.W.Frag)(C f:Addr):Prop where
 makes:PySem.W.makesIn K C=true
 init:PySem.W.findIn K (.ref C) "__init__"=some (some (.ref f))
 fn:PySem.W.isFn K (.ref f)=true
 kp:PySem.W.keepIn K (.ref C)=true
theorem OK(M:Mk X.K C f)(F:FnOk X.prog X.w X.K X.mg X.base CX k f fd ps sp)(hr:Room (k+1) X.A)(hb:Binds X.K fd ps ds)(hd:Vals bd ds)(hx:Ds CX X E)(I:Inv X pins σ H s)(r:Vals vs us)(h:∀x dx,H x=none->H dx=none->dx≠x->sp (.ref x::(vs++bd)) (upd (upd H dx (.own x)) x (.ins C dx [])) (fun v H2=>v= .non/\Q (.ref x) H2) E):
  wpAny (model X.prog X.w) X.A (call (.ref C) us) (EP X pins σ Q) X.xe s:=by
 have hq:=h (s.heap.objs.size+1) s.heap.objs.size (I.hok.fresh (zBT _)) (I.hok.fresh (zAA _)) (zAE (zB7 _))
 have I2:=Inv.made (C:=C) I
 have r2:Vals (V.ref (s.heap.objs.size+1)::(vs++bd)) (Value.ref (s.heap.objs.size+1)::(us++ds)):=.cons rfl (r.append hd)
 have hl:(Value.ref (s.heap.objs.size+1)::us++ds).length=ps.length:=by
  have e:=r2.length
  rw[F.len _ _ _ _ hq] at e
  exact e.symm
 refine wpAny_call (Pb (f:=f) I.kIn M.makes M.init (beq_iff_eq.mp M.fn) (codeAny_mono (F.run _ X.stack _ _ ⟨Value.ref (s.heap.objs.size+1)::us,[]⟩ (Value.ref (s.heap.objs.size+1)::(us++ds)) _ _ E (hr.make C us [])
  (I2.env0.make C us []) (hb _ (Value.ref (s.heap.objs.size+1)::us) I2.kIn hl) r2 hq) fun r s' hq'=>?_))
 cases r with
 | error e=>exact hx pins σ _ _ e s' I2 hq'
 | ok fl=>
  cases fl with
  | ret u=>
   obtain⟨v,H',I3,rv,ev,q3⟩:=I2.after hq'
   subst ev
   exact⟨rv,⟨V.ref (s.heap.objs.size+1),H',I3,rfl,q3⟩⟩
  | next=>exact False.elim hq'
  | brk=>exact False.elim hq'
  | cont=>exact False.elim hq'
theorem RF(M:Mk X.K C f)(F:FnOk X.prog X.w X.K X.mg X.base CX k f fd ps sp)(hr:Room (k+1) X.A)(hg:Gl X x)(hm:X.mg x=some (.ref C))(hb:Binds X.K fd ps ds)(hd:Vals bd ds)(hx:Ds CX X E)(ha:PA X (e::es) t)(gH:(x == ("__debug__":Str))=false:=by decide)(he:starEach (e::es) X.env=(false,eval e X.env)::starEach es X.env:=by rfl)(ar:(backTo pos (starEach es X.env)).any (·.1)=false:=by rfl):
  PE X (.Call (.Name x p) (e::es) [] pos) (Uh C sp bd E t):=by
 intro pins s σ H Q I h
 refine wpAny_Call_Name_kw (Jk I hg hm ?_ gH)
 refine zCP (h₀:=X.base) I.ok.mod.kin M.kp (AX (ha pos pins s σ H _ I h) fun us s1 ⟨vs,H1,I1,r,q⟩=>⟨I1.kIn,?_⟩) he ar
 exact OK M F hr hb hd hx I1 r q
end
section
variable {X:Cx}{CX:Mi}{k:Nat}{f C:Addr}{fd:FuncData}{ps ks:List Str}{sp:Sp}{E:XK}{x m:Str}{p pos bj kpos:Pos}{e o:Expr}{es:List Expr}{kws:List Keyword}{te ta:TE}{t tk:TA}{nm:Option Str}
variable {g:List Value->List Value->List Value}{gV:List V->List V->List V}
end
structure Ao(N P:List Str)(sc:Scope):Prop where
 kind:sc.kind= .function
 co:sc.isCoroutine=false
 gen:sc.isGenerator=false
 nd:N.Nodup
 pre:N.take P.length=P
 par:∀x∈P,sc.names.lookup x=some .local\/sc.names.lookup x=some .cell
 nofree:∀y∈sc.names,y.2≠.free
theorem IZ{kindOf:Str->Option NameKind}{x:Str}:∀{binds:List (Str×Value)}{m:Str->Option Value},(∀v,(x,v)∉binds)->bindL kindOf binds m x=m x
 | [],_,_=>rfl
 | (n,v)::r,m,h=>by
  unfold bindL
  rw[IZ fun w hw=>h w (List.mem_cons_of_mem _ hw)]
  split
  ·have:x≠n:=by rintro rfl;exact h v List.mem_cons_self
   simp[this]
  ·rfl
theorem I0{kindOf:Str->Option NameKind}{x:Str}:∀{binds:List (Str×Value)}{m:Str->Option Value},(∀v,(x,v)∉binds)->bindC kindOf binds m x=m x
 | [],_,_=>rfl
 | (n,v)::r,m,h=>by
  unfold bindC
  rw[I0 fun w hw=>h w (List.mem_cons_of_mem _ hw)]
  split
  ·rfl
  ·have:x≠n:=by rintro rfl;exact h v List.mem_cons_self
   simp[this]
theorem IO{kindOf:Str->Option NameKind}{x:Str}{v:Value}:∀{P:List Str}{vs:List Value}{i:Nat}{m:Str->Option Value},P.Nodup->P[i]? = some x->vs[i]? = some v->kindOf x=some .local->
  bindL kindOf (P.zip vs) m x=some v
 | [],_,_,_,_,h,_,_=>by simp at h
 | _::_,[],_,_,_,_,h,_=>by simp at h
 | p::P,w::vs,0,m,nd,h1,h2,hk=>by
  simp at h1 h2;subst h1;subst h2
  show bindL kindOf ((p,w)::P.zip vs) m p=_
  unfold bindL
  rw[IZ fun v hv=>(List.nodup_cons.mp nd).1 (List.of_mem_zip hv).1,if_pos hk]
  simp
 | p::P,w::vs,i+1,m,nd,h1,h2,hk=>by
  show bindL kindOf ((p,w)::P.zip vs) m x=_
  unfold bindL
  exact IO (i:=i) (List.nodup_cons.mp nd).2 (by simpa using h1) (by simpa using h2) hk
theorem Iw{kindOf:Str->Option NameKind}{x:Str}{v:Value}:∀{P:List Str}{vs:List Value}{i:Nat}{m:Str->Option Value},P.Nodup->P[i]? = some x->vs[i]? = some v->kindOf x≠some .local->
  bindC kindOf (P.zip vs) m x=some v
 | [],_,_,_,_,h,_,_=>by simp at h
 | _::_,[],_,_,_,_,h,_=>by simp at h
 | p::P,w::vs,0,m,nd,h1,h2,hk=>by
  simp at h1 h2;subst h1;subst h2
  show bindC kindOf ((p,w)::P.zip vs) m p=_
  unfold bindC
  rw[I0 fun v hv=>(List.nodup_cons.mp nd).1 (List.of_mem_zip hv).1,if_neg hk]
  simp
 | p::P,w::vs,i+1,m,nd,h1,h2,hk=>by
  show bindC kindOf ((p,w)::P.zip vs) m x=_
  unfold bindC
  exact Iw (i:=i) (List.nodup_cons.mp nd).2 (by simpa using h1) (by simpa using h2) hk
def E8(N:List Str)(vs:List V):St:=vs.map some++List.replicate (N.length-vs.length) none
def JG(CX:Mi)(P:Program)(w:World)(K:PySem.W.Frag)(mg:Str->Option Value)(base:Heap)(N:List Str)(ap:Str)(scope:Scope)(f:Addr)(cd:Value)(A:Around)(outer:List Env)(s:Shared)(H:Hp)(E:XK):Cx where
 prog:=P
 w:=w
 K:=K
 mg:=mg
 base:=base
 A:=A.deeper (envOfC ap scope s.heap.objs.size f cd)
 N:=N
 s₀:=s
 H₀:=H
 env:=envOfC ap scope s.heap.objs.size f cd
 outer:=outer
 stack:=envOfC ap scope s.heap.objs.size f cd::outer
 ex:=[]
 calm:=true
 fn:=fun _=>true
 pn:=[]
 xe:=fun e s'=>wpAny (model P w) (A.deeper (envOfC ap scope s.heap.objs.size f cd)) (leaving (envOfC ap scope s.heap.objs.size f cd) e) (fun _ s''=>CX outer H s E e s'') (fun e' s''=>CX outer H s E e' s'') s'
theorem Ke{sc:Scope}{n:Nat}{x:Str}(h:sc.names.lookup x=some .cell):∃c,(cellsFrom n sc.names []).lookup x=some c:=by
 have q:=PySem.W.cellsFrom_some sc.names n [] (.inl h)
 exact Option.isSome_iff_exists.mp q
theorem Nu{K:PySem.W.Frag}(S:Ao N ps scope)(hd:A.handled=none)(e0:Env0 P w K mg base A outer s H)(hl:vs.length=ps.length)(r:Vals vs us)(x:InCallC s s.heap.objs.size (bindL (envOfC ap scope s.heap.objs.size f cd).kindOf (ps.zip us) fun _=>none) (cellsFrom (s.heap.objs.size+1) scope.names []) (bindC (envOfC ap scope s.heap.objs.size f cd).kindOf (ps.zip us) fun _=>none) s1):
  Inv (JG CX P w K mg base N ap scope f cd A outer s H E) [] (E8 N vs) H s1:=by
 have ar:ps.length<=N.length:=by have:=congrArg List.length S.pre;rw[List.length_take] at this;omega
 obtain⟨h1,tk,rfl,hk⟩:=x.done
 have noA:∀b:Addr,b∉(JG CX P w K mg base N ap scope f cd A outer s H E).ex:=fun b z=>absurd (show b∈([]:List Addr) from z) (by simp)
 refine⟨⟨e0.mod,S.kind,rfl,rfl,zAA _,fun y z c h1 h2=>?_,fun y hy=>?_,fun y c _ h=>?_,fun _=>hd,Around.frames_deeper e0.frames,.inr ⟨rfl,rfl⟩,fun b z=>absurd z (noA b),e0.bs,e0.bsz,fun b _ _=>noA b,fun b z=>absurd z (noA b),e0.funs,e0.frf⟩,
  rfl,e0.bare,Un.kept hk,⟨_,x.toInCall.ns,fun i y v h1 h2 h3=>?_⟩,fun y c h=>⟨_,x.cell y c h⟩,e0.hok.fresh (zAA _),fun y c h=>?_,fun p hp=>absurd (show p∈([]:List (Addr×Obj)) from hp) (by simp),e0.hok.kept hk,?_⟩
 ·exact name_of_addr x.apart (zA5 h1) (zA5 h2)
 ·have hy:scope.names.lookup y=some .cell\/scope.names.lookup y=some .free:=hy
  rcases hy with hy | hy
  ·exact Ke hy
  ·exact absurd rfl (S.nofree _ (zA5 hy))
 ·exact zBQ (x.above y c (zA5 h))
 ·have hi:i<vs.length:=by
   unfold E8 at h2
   by_cases hi:i<vs.length
   ·exact hi
   ·rw[List.getElem?_append_right (by simpa using hi)] at h2
    rw[List.getElem?_replicate] at h2
    split at h2<;>cases h2
  have ha:vs[i]? = some v:=by
   unfold E8 at h2
   rw[List.getElem?_append_left (by simpa using hi),List.getElem?_map] at h2
   cases e:vs[i]? with
   | none=>rw[e] at h2;cases h2
   | some a=>rw[e] at h2;cases h2;rfl
  obtain⟨u,hu,rv⟩:=r.get ha
  have hp:ps[i]? = some y:=by
   rw[<-S.pre,List.getElem?_take_of_lt (by omega)];exact h1
  have ndP:ps.Nodup:=by rw[<-S.pre];exact S.nd.sublist (List.take_sublist _ _)
  refine⟨u,rv,?_⟩
  rcases S.par y (zAQ hp) with k | k
  ·exact .inl ⟨k,IO ndP hp hu k⟩
  ·obtain⟨c,e⟩:=Ke (n:=s.heap.objs.size+1) k
   refine .inr ⟨.inl k,c,e,?_⟩
   have q:=x.cell y c e
   rw[Iw ndP hp hu (by show scope.names.lookup y≠_;rw[k];decide)] at q
   exact q
 ·exact e0.hok.fresh (zBQ (x.above y c (zA5 h)))
 ·unfold E8
  show _=N.length
  rw[zA,List.length_map,List.length_replicate]
  omega
theorem Sk{K:PySem.W.Frag}{dV kV cI pm ai ct oc:Value}(lk:K.lookup f=some ⟨oc,od,.func (PySem.W.fnOf name ap params body scope dV kV cI pm an ai ct),iA⟩)(ft:PySem.W.codeIn K ai ap=true)(S:Ao N ps scope)(len:∀vs H Q E,sp vs H Q E->vs.length=ps.length)(bP:∀(A:Around) (outer:List Env) (s:Shared) (H:Hp) (vs:List V) (Q:VK) (E:XK),Room k (A.deeper (envOfC ap scope s.heap.objs.size f ai))->sp vs H Q E->
   ∃t,PSs (JG CX P w K mg base N ap scope f ai A outer s H E) body t/\t { nx:=fun _ H'=>Q .non H',rt:=Q } (E8 N vs) H):
  FnOk P w K mg base CX (k+1) f (PySem.W.fnOf name ap params body scope dV kV cI pm an ai ct) ps sp:=by
 refine⟨len,fun A outer s H args us vs Q E hr e0 hb r cY=>?_⟩
 have hl:=len _ _ _ _ cY
 have KX:K.In s.heap:=e0.mod.kin.keeps fun b o e=>(e0.bs b o e).1
 have lim:s.heap.NoLimit:=e0.mod.nolimit.keeps fun b o e=>(e0.bs b o e).1
 have hkind:∀y∈ps.zip us,scope.names.lookup y.1=some .local\/(scope.names.lookup y.1=some .cell/\((cellsFrom (s.heap.objs.size+1) scope.names []).lookup y.1).isSome=true):=fun⟨n,v⟩ hy=>by
  rcases S.par n (List.of_mem_zip hy).1 with q | q
  ·exact .inl q
  ·exact .inr ⟨q,PySem.W.cellsFrom_some _ _ _ (.inl q)⟩
 refine codeAny_call_function hr.depth (KX _ _ lk) rfl S.co S.gen rfl (PySem.W.codeRec_of KX ft) (hb _ _ _ _ ?_)
 refine wpAny_newFunctionEnv_cells S.kind hkind fun env he s1 x=>?_
 subst he
 refine⟨lim.keeps x.toInCall.keep,codeAny_func ?_⟩
 obtain⟨t,ht,hq⟩:=bP A outer s H vs Q E (hr.deeper _) cY
 have I:Inv (JG CX P w K mg base N ap scope f ai A outer s H E) [] (E8 N vs) H s1:=Nu S hr.hd e0 hl r x
 refine wpAny_mono (ht [] s1 (E8 N vs) H _ I hq) (fun fl s' hs=>?_) fun e s' hs=>hs
 have aF:∀{σ':St}{H':Hp}{v:V}{u:Value},Inv (JG CX P w K mg base N ap scope f ai A outer s H E) [] σ' H' s'->RelV v u->Q v H'->CE outer P w H s Q u s':=
  fun {σ' H' v u} J rv q=>⟨v,H',J.os,J.bare,J.base,J.hok,rv,q⟩
 cases fl with
 | ret u=>
  obtain⟨v,σ',H',J,rv,q⟩:=hs
  exact aF J rv q
 | next=>
  obtain⟨σ',H',J,q⟩:=hs
  exact aF (v:=V.non) (u:=Value.none) J rfl q
 | brk=>
  obtain⟨_,_,_,q⟩:=hs
  exact False.elim q
 | cont=>
  obtain⟨_,_,_,q⟩:=hs
  exact False.elim q
end L2
namespace L2
open PySem PySem.Spec PyProof.Rows
section
variable {X:Cx}{x:Str}{p pos:Pos}{e:Expr}{es:List Expr}{t:TA}{id T:String}{r:List V->Hp->VK->Prop}
def UZ(r:List V->Hp->VK->Prop)(t:TA):TE:=fun σ H Q=>t σ H fun vs H1=>r vs H1 Q
theorem Az(hc:BP X (.builtin id) r)(hg:Gl X x)(hm:X.mg x=none)(hv:bootBuiltins x=some (.builtin id))(ha:PA X (e::es) t)(hn:x≠"__name__":=by decide)(gH:(x == ("__debug__":Str))=false:=by decide)(he:starEach (e::es) X.env=(false,eval e X.env)::starEach es X.env:=by rfl)(ar:(backTo pos (starEach es X.env)).any (·.1)=false:=by rfl):PE X (.Call (.Name x p) (e::es) [] pos) (UZ r t):=by
 intro pins s σ H Q I h
 refine wpAny_Call_Name_kw (Cr I hg hm hv ?_ hn gH)
 exact PyProof.Rows.callWith_builtin1 (AX (ha pos pins s σ H _ I h) fun us s1 ⟨vs,H1,I1,r1,q1⟩=>hc pins s1 σ H1 vs us Q I1 r1 q1) he ar
theorem AF(hc:BP X (.type T) r)(hg:Gl X x)(hm:X.mg x=none)(hv:bootBuiltins x=some (.type T))(ha:PA X (e::es) t)(hn:x≠"__name__":=by decide)(gH:(x == ("__debug__":Str))=false:=by decide)(he:starEach (e::es) X.env=(false,eval e X.env)::starEach es X.env:=by rfl)(ar:(backTo pos (starEach es X.env)).any (·.1)=false:=by rfl):PE X (.Call (.Name x p) (e::es) [] pos) (UZ r t):=by
 intro pins s σ H Q I h
 refine wpAny_Call_Name_kw (Cr I hg hm hv ?_ hn gH)
 exact zBD (AX (ha pos pins s σ H _ I h) fun us s1 ⟨vs,H1,I1,r1,q1⟩=>hc pins s1 σ H1 vs us Q I1 r1 q1) he ar
theorem Lp(hc:BP X (.type T) r)(hg:Gl X x)(hm:X.mg x=none)(hv:bootBuiltins x=some (.type T))(hn:x≠"__name__":=by decide)(gH:(x == ("__debug__":Str))=false:=by decide):
  PE X (.Call (.Name x p) [] [] pos) (UZ r SF):=by
 intro pins s σ H Q I h
 refine wpAny_Call_Name_kw (Cr I hg hm hv ?_ hn gH)
 exact PyProof.Rows.callWith_type0 (hc pins s σ H [] [] Q I .nil h)
end
end L2
namespace HT
open PySem PyProof.Rows
section
open PySem.SeqAt
open PySem.AutoSeq1 (wpAny_loadPart')
open PySem.MeetsSeq PySem.MeetsSeq2 PySem.MeetsSeq3
end
section
variable {prog:Program}{w:World}{A:Around}{E:Value->Shared->Prop}{s:Shared}
def sIx(n d:Nat):Option Int->Nat
 | none=>d
 | some v=>if v<0 then (v+(n:Int)).toNat else min v.toNat n
theorem sIx_none(n d:Nat):sIx n d none=d:=rfl
theorem sIx_nat(n d k:Nat):sIx n d (some (k:Int))=min k n:=by
 show (if (k:Int)<0 then ((k:Int)+(n:Int)).toNat else min (k:Int).toNat n)=min k n
 rw[if_neg (by omega),zB9]
theorem SL(n d:Nat)(hd:d<=n)(o:Option Int):sIx n d o<=n:=by
 cases o with
 | none=>exact hd
 | some v=>
  show (if v<0 then (v+(n:Int)).toNat else min v.toNat n)<=n
  by_cases hv:v<0
  ·rw[if_pos hv];omega
  ·rw[if_neg hv];exact Nat.min_le_right _ _
theorem MN(v:Int)(n d:Nat):(if v<0 then max (v+(n:Int)) 0 else min v (n:Int))=((sIx n d (some v):Nat):Int):=by
 show (if v<0 then max (v+(n:Int)) 0 else min v (n:Int))=(((if v<0 then (v+(n:Int)).toNat else min v.toNat n):Nat):Int)
 by_cases hv:v<0
 ·simp only[if_pos hv];omega
 ·simp only[if_neg hv];omega
theorem Lk(lo hi:Option Int)(n:Nat):Builtin.Slice.sliceAdjust lo hi 1 (n:Int)=(((sIx n 0 lo:Nat):Int),((sIx n n hi:Nat):Int)):=by
 have h1:¬((1:Int)<0):=by omega
 unfold Builtin.Slice.sliceAdjust
 simp only[h1,if_false]
 refine Prod.ext ?_ ?_
 ·cases lo with
  | none=>rfl
  | some v=>exact MN v n 0
 ·cases hi with
  | none=>rfl
  | some v=>exact MN v n n
theorem Lu(i j:Nat):Builtin.Slice.slicePlaces (i:Int) (j:Int) 1=j-i:=by
 unfold Builtin.Slice.slicePlaces
 have h1:(1:Int)>0:=by omega
 simp only[h1,if_true,Int.ediv_one]
 split<;>omega
theorem HP(p:IsPart v o)(h:Q o s):wpAny (model prog w) A (Builtin.Slice.slicePartIndex v) Q E s:=by
 cases p with
 | none=>exact slicePart_none h
 | int i t=>exact slicePart_int h
theorem FJ{lo hi:Option Int}{n:Nat}{Q:Int×Int×Nat->Shared->Prop}(hs:s.heap.IsSliceOf sl vl vu .none)(pl:IsPart vl lo)(pu:IsPart vu hi)(h:Q (((sIx n 0 lo:Nat):Int),1,sIx n n hi-sIx n 0 lo) s):wpAny (model prog w) A (Builtin.Slice.sliceApplied (.ref sl) (pure (n:Int))) Q E s:=by
 obtain⟨os,hos,hcs,hds⟩:=id hs
 unfold Builtin.Slice.sliceApplied Builtin.Slice.sliceFields
 refine wpAny_bind (wpAny_bind (wpAny_field hos hds (x:=vl) rfl (wpAny_bind (wpAny_field hos hds (x:=vu) rfl (wpAny_bind (wpAny_field hos hds (x:=.none) rfl (wpAny_pure ?_)))))))
 refine wpAny_bind (slicePart_none ?_)
 show wpAny _ _ (if ((1:Int) == 0)=true then _ else _) _ _ s
 rw[if_neg (by decide)]
 refine wpAny_bind (HP pl (wpAny_bind (HP pu (wpAny_bind (wpAny_pure ?_)))))
 show wpAny _ _ (match Builtin.Slice.sliceAdjust lo hi 1 (n:Int) with | (lo,hi)=>pure (lo,(1:Int),Builtin.Slice.slicePlaces lo hi 1)) _ _ s
 rw[Lk lo hi n]
 show wpAny _ _ (pure (((sIx n 0 lo:Nat):Int),(1:Int),Builtin.Slice.slicePlaces ((sIx n 0 lo:Nat):Int) ((sIx n n hi:Nat):Int) 1)) _ _ s
 rw[Lu]
 exact wpAny_pure h
theorem OG(xs:Array Value)(i k:Nat):((List.range k).filterMap fun(m:Nat)=>xs[((i:Int)+(m:Int)*1).toNat]?).toArray=((xs.toList.drop i).take k).toArray:=by
 have e:(fun(m:Nat)=>xs[((i:Int)+(m:Int)*1).toNat]?)=fun m=>xs[i+m]? :=by
  funext m
  have:((i:Int)+(m:Int)*1).toNat=i+m:=by omega
  rw[this]
 rw[e]
 have:=pick_run xs i k
 rw[List.filterMap_map] at this
 have e2:((fun x=>xs[x]?) ∘ fun x=>i+x)=fun m=>xs[i+m]? :=rfl
 rw[e2] at this
 rw[this]
theorem getItem_tuple_cut{lo hi:Option Int}(ht:IsTup s.heap t items)(hs:s.heap.IsSliceOf sl vl vu .none)(pl:IsPart vl lo)(pu:IsPart vu hi)(hw:¬(sIx items.size 0 lo=0/\sIx items.size items.size hi=items.size))(h:Q (.ref s.heap.objs.size) { s with heap:=s.heap.push { cls:=.type "tuple",data:=.seq ((items.toList.drop (sIx items.size 0 lo)).take (sIx items.size items.size hi-sIx items.size 0 lo)).toArray } })(aw:items.size<=sizeLine):wpAny (model prog w) A (getItem (.ref t) (.ref sl)) Q E s:=by
 have eX:sizeOk (.seq ((items.toList.drop (sIx items.size 0 lo)).take (sIx items.size items.size hi-sIx items.size 0 lo)).toArray):=by
  show ((items.toList.drop (sIx items.size 0 lo)).take (sIx items.size items.size hi-sIx items.size 0 lo)).toArray.size<=sizeLine
  rw[zAG,List.length_take,zCB,zAF]
  omega
 have hj:sIx items.size items.size hi<=items.size:=SL _ _ (zAA _) hi
 obtain⟨os,hos,hcs,hds⟩:=id hs
 have hTs:s.TypeIs (.ref sl) "slice":=⟨os,hos,hcs⟩
 unfold getItem
 try with_reducible refine wpAny_holding ?_
 first | refine wpAny_bind (wpAny_pure ?_) | skip
 refine wpAny_bind (wpAny_sequenceKey ht.typeIs (by decide) ?_)
 refine wpAny_bind (wpAny_callSpecial?_slot (name:=Str.ofString "__getitem__") ht.typeIs PyProof.Rows.slot_tuple_getitem
  (wpAny_call_entry PyProof.Rows.slot_tuple_getitem ht.typeIs entry_tuple_getitem ?_ (args_tuple_getitem _ _)))
 show wpAny _ _ (Builtin.Tuple.tupleItemsOf (.ref t) >>= _) _ _ s
 refine wpAny_bind (tupleItemsOf_ ht ?_)
 refine wpAny_bind (wpAny_typeOf hTs ?_)
 rw[if_pos (by decide)]
 refine wpAny_bind (FJ hs pl pu ?_)
 have hno:¬((((sIx items.size 0 lo:Nat):Int) == 0 && (1:Int) == 1 && (sIx items.size items.size hi-sIx items.size 0 lo) == items.size)=true):=by
  intro q
  rw[zAN,zAN] at q
  have q1:((sIx items.size 0 lo:Nat):Int)=0:=eq_of_beq q.1.1
  have q2:sIx items.size items.size hi-sIx items.size 0 lo=items.size:=eq_of_beq q.2
  exact hw ⟨by omega,by omega⟩
 show wpAny _ _ (if (((sIx items.size 0 lo:Nat):Int) == 0 && (1:Int) == 1 && (sIx items.size items.size hi-sIx items.size 0 lo) == items.size)=true then _ else _) _ _ s
 rw[if_neg hno,OG]
 first
  | exact wpAny_bind (m:=Builtin.Tuple.tupleExact _) (wpAny_newObj_type (wpAny_pure ⟨_,rfl,wpAny_pure h⟩) eX)
  | exact wpAny_bind (m:=Builtin.Tuple.tupleExact _) (wpAny_newObj_type (wpAny_bind (wpAny_pure (wpAny_pure ⟨_,rfl,wpAny_pure h⟩))) eX)
  | exact wpAny_bind (wpAny_bind (m:=Builtin.Tuple.tupleExact _) (wpAny_newObj_type (wpAny_pure (wpAny_pure ⟨_,rfl,wpAny_pure h⟩)) eX))
  | exact wpAny_bind (wpAny_bind (m:=Builtin.Tuple.tupleExact _) (wpAny_newObj_type (wpAny_pure ⟨_,rfl,wpAny_pure h⟩) eX))
end
end HT
namespace L2
open PySem PySem.Spec PyProof.Rows
abbrev TO:=St->Hp->(Option Int->Hp->Prop)->Prop
def PO(X:Cx)(e:Option Expr)(t:TO):Prop:=
 ∀(pins:List (Addr×Obj))(s:Shared)(σ:St)(H:Hp)(Q:Option Int->Hp->Prop),Inv X pins σ H s->t σ H Q->
  wpAny (model X.prog X.w) X.A (evalPart e X.env) (fun u s'=>∃o H',Inv X pins σ H' s'/\IsPart u o/\Q o H') X.xe s
def RL:TO:=fun _ H Q=>Q none H
def Tz(t:TE):TO:=fun σ H Q=>t σ H fun x H1=>∃i,x= .int i/\Q (some i) H1
section
variable {X:Cx}{e:Expr}{te:TE}{lo hi:Option Expr}{tl th:TO}{pos p2:Pos}
theorem Jo:PO X none RL:=by
 intro pins s σ H Q I h
 rw[evalPart_none]
 exact wpAny_pure ⟨none,H,I,.none,h⟩
theorem Fc(h:PE X e te):PO X (some e) (Tz te):=by
 intro pins s σ H Q I hw
 rw[evalPart_some]
 refine AX (h pins s σ H _ I hw) fun u s1 ⟨x,H1,I1,r1,q1⟩=>?_
 obtain⟨i,rfl,q⟩:=q1
 obtain⟨t,rfl⟩:=r1
 exact⟨some i,H1,I1,.int i t,q⟩
def UH(X:Cx)(r:V->Option Int->Option Int->Hp->VK->Prop):Prop:=
 ∀(pins:List (Addr×Obj))(s:Shared)(σ:St)(H:Hp)(x:V)(v vl vu:Value)(lo hi:Option Int)(sl:Addr)(Q:VK),Inv X pins σ H s->RelV x v->s.heap.IsSliceOf sl vl vu .none->IsPart vl lo->IsPart vu hi->r x lo hi H Q->
  ∃T id,typeLookup (.type T) "__getitem__"=pure (some (.builtin id))/\s.TypeIs v T/\wpAny (model X.prog X.w) X.A (getItem v (.ref sl)) (EP X pins σ Q) X.xe s
def Vl(r:V->Option Int->Option Int->Hp->VK->Prop)(te:TE)(tl th:TO):TE:=fun σ H Q=>te σ H fun x H1=>tl σ H1 fun l H2=>th σ H2 fun u H3=>r x l u H3 Q
theorem E6(hr:UH X r)(he:PE X e te)(hl:PO X lo tl)(hu:PO X hi th):PE X (.Subscript e (.Slice lo hi none p2) pos) (Vl r te tl th):=by
 intro pins s σ H Q I h
 refine Subscript_ (AX (he pins s σ H _ I h) fun v s1 ⟨x,H1,I1,r1,q1⟩=>?_)
 refine wpAny_Slice (AX (hl pins s1 σ H1 _ I1 q1) fun vl s2 ⟨l,H2,I2,pl,q2⟩=>AX (hu pins s2 σ H2 _ I2 q2) fun vu s3 ⟨u,H3,I3,pu,q3⟩=>?_)
 rw[evalPart_none]
 refine wpAny_pure ?_
 have I4:Inv X pins σ H3 { s3 with heap:=s3.heap.push { cls:=.type "slice",data:=.fields #[vl,vu,.none] } }:=I3.kept (t':=s3.toks) fun b ob q=>Heap.get?_push_of_some _ q
 obtain⟨T,id,hT,ht,hg⟩:=hr pins { s3 with heap:=s3.heap.push { cls:=.type "slice",data:=.fields #[vl,vu,.none] } } σ H3 x v vl vu l u s3.heap.objs.size Q I4 r1 (Heap.IsSliceOf.new ..) pl pu q3
 show wpAny (model X.prog X.w) X.A (subscriptTail e (.Slice lo hi none p2) v (.ref s3.heap.objs.size)) (EP X pins σ Q) X.xe { s3 with heap:=s3.heap.push { cls:=.type "slice",data:=.fields #[vl,vu,.none] } }
 exact tail_any (ops:=[.ref s3.heap.objs.size,v]) ht hT hg (by with_unfolding_all rfl)
def DX(xs:List V)(lo hi:Option Int):List V:=(xs.drop (HT.sIx xs.length 0 lo)).take (HT.sIx xs.length xs.length hi-HT.sIx xs.length 0 lo)
theorem Gu(xs:List V)(lo hi:Option Int):(DX xs lo hi).length<=xs.length:=by
 unfold DX
 rw[List.length_take,zCB]
 omega
def UV(K:PySem.W.Frag):V->Option Int->Option Int->Hp->VK->Prop:=fun x lo hi H Q=>∃a xs,x= .ref a/\SqT K H a xs/\
 ¬(HT.sIx xs.length 0 lo=0/\HT.sIx xs.length xs.length hi=xs.length)/\∀p,H p=none->Q (.ref p) (upd H p (.tup (DX xs lo hi)))
theorem QE:UH X (UV X.K):=by
 intro pins s σ H x v vl vu lo hi sl Q I rx hs pl pu h
 obtain⟨a,xs,rfl,hx,hw,q⟩:=h
 cases rx
 obtain⟨its,r,ht,hz⟩:=I.tuple hx
 have ag:its.toArray.size=xs.length:=by rw[zAG];exact r.length.symm
 refine⟨"tuple",_,PyProof.Rows.slot_tuple_getitem.lookup,ht.typeIs,?_⟩
 refine HT.getItem_tuple_cut ht hs pl pu (by rw[ag];exact hw) ?_ (by rw[ag];exact hz)
 rw[ag]
 refine⟨.ref s.heap.objs.size,_,I.laid (t':=s.toks) (o:=.tup (DX xs lo hi)) (fun b ob q=>Heap.get?_push_of_some _ q) (zAA _) ?_,rfl,q _ (I.hok.fresh (zAA _))⟩
 exact⟨zAH (Gu xs lo hi) hz,_,(r.drop (HT.sIx xs.length 0 lo)).take (HT.sIx xs.length xs.length hi-HT.sIx xs.length 0 lo),IsTup.new _ _⟩
end
end L2
namespace L2
open PySem PySem.Spec PyProof.Rows
def Sg(n:Nat)(i:Int):Option Nat:=if 0<=i then (if i<n then some i.toNat else none) else if -(n:Int)<=i then some (i+n).toNat else none
def HZ{α:Type}(xs:List α)(i:Int):Option α:=(Sg xs.length i).bind fun j=>xs[j]?
theorem RK(h:Sg n i=some j):seqIndex? i n=some j/\j<n/\-(n:Int)<=i/\i<n:=by
 unfold Sg at h
 by_cases h0:0<=i
 ·rw[if_pos h0] at h
  by_cases h1:i<n
  ·rw[if_pos h1] at h
   have e:i.toNat=j:=zAP h
   exact⟨by rw[seqIndex_of h0 h1,e],by omega,by omega,h1⟩
  ·rw[if_neg h1] at h;cases h
 ·rw[if_neg h0] at h
  by_cases h1 : -(n:Int)<=i
  ·rw[if_pos h1] at h
   have e:(i+n).toNat=j:=zAP h
   exact⟨by rw[seqIndex_neg (by omega) h1,e],by omega,h1,by omega⟩
  ·rw[if_neg h1] at h;cases h
theorem MF{α:Type}{xs:List α}{v:α}(h:HZ xs i=some v):∃j,seqIndex? i xs.length=some j/\xs[j]? = some v/\j<xs.length/\-(xs.length:Int)<=i/\i<xs.length:=by
 unfold HZ at h
 cases e:Sg xs.length i with
 | none=>rw[e] at h;cases h
 | some j=>
  rw[e] at h
  obtain⟨h1,h2,h3,h4⟩:=RK e
  exact⟨j,h1,h,h2,h3,h4⟩
theorem Aj{α:Type}{xs:List α}{j:Nat}{v:α}(h:xs[j]? = some v):HZ xs (j:Int)=some v:=by
 have hj:j<xs.length:=(List.getElem?_eq_some_iff.mp h).1
 have e:Sg xs.length (j:Int)=some j:=by
  unfold Sg
  rw[if_pos (by omega),if_pos (by omega)];simp
 unfold HZ;rw[e];exact h
def Sb(b:Expr):Prop:=∀o i,subscripted b false o i=operate [o,i] (getItem o i)
def UL(X:Cx)(r:R2):Prop:=
 ∀(value eY:Expr)(pins:List (Addr×Obj))(s:Shared)(σ:St)(H:Hp)(x y:V)(v u:Value)(Q:VK),Inv X pins σ H s->RelV x v->RelV y u->r x y H Q->
  subscripted eY false v u=operate [v,u] (getItem v u)->wpAny (model X.prog X.w) X.A (subscriptTail value eY v u) (EP X pins σ Q) X.xe s
def Ve(X:Cx)(id:String)(r:V->List V->Hp->VK->Prop):Prop:=
 ∀(pins:List (Addr×Obj))(s:Shared)(σ:St)(H:Hp)(x:V)(xs:List V)(v:Value)(us:List Value)(Q:VK),Inv X pins σ H s->RelV x v->Vals xs us->r x xs H Q->
  wpAny (model X.prog X.w) X.A (call (.builtin id) (v::us)) (EP X pins σ Q) X.xe s
section
variable {X:Cx}{a b:Expr}{ta tb:TE}{pos:Pos}
theorem AD(hr:UL X r)(ha:PE X a ta)(hb:PE X b tb)(hs:Sb b):PE X (.Subscript a b pos) (Uu r ta tb):=by
 intro pins s σ H Q I h
 exact Subscript_ (Sw ha hb I h fun v u s2 x y H2 I2 rx ry q=>hr a b pins s2 σ H2 x y v u Q I2 rx ry q (hs _ _))
def Ud(K:PySem.W.Frag):R2:=fun x y H Q=>∃p xs i v,x= .ref p/\y= .int i/\SqL K H p xs/\HZ xs i=some v/\Q v H
def UQ(K:PySem.W.Frag):R2:=fun x y H Q=>∃p xs i v,x= .ref p/\y= .int i/\SqT K H p xs/\HZ xs i=some v/\Q v H
theorem AK:UL X (Ud X.K):=by
 intro value eY pins s σ H x y v u Q I rx ry h hs
 obtain⟨p,xs,i,z,rfl,rfl,hq,he,q⟩:=h
 cases rx
 obtain⟨t,rfl⟩:=ry
 obtain⟨its,r,pl,hz⟩:=I.list hq
 obtain⟨j,h1,h2,h3,h4,h5⟩:=MF he
 obtain⟨w,ew,rw'⟩:=r.get h2
 have hl:=r.length
 have hn:=Js
 have aF:EP X pins σ Q w s:=⟨z,H,I,rw',q⟩
 by_cases h0:0<=i
 ·have hj:i.toNat=j:=by
   rw[seqIndex_of h0 h5] at h1
   exact zAP h1
  exact item_listR pl.isList h0 (by omega) (by rw[hj];simpa using ew) aF hs
 ·have hj:(i+(its.toArray.size:Int)).toNat=j:=by
   rw[seqIndex_neg (by omega) h4] at h1
   rw[zAG,<-hl]
   exact zAP h1
  exact subscriptTail_builtinR (x:=w) pl.isList.typeIs slot_list_getitem.lookup
   (wpAny_getItem_list_neg (Q:=fun r s'=>r=w/\EP X pins σ Q r s') pl.isList (by omega) (by rw[zAG]<;>omega) (by omega) (by rw[hj];simpa using ew) ⟨rfl,aF⟩) hs
theorem AN:UL X (UQ X.K):=by
 intro value eY pins s σ H x y v u Q I rx ry h hs
 obtain⟨p,xs,i,z,rfl,rfl,hq,he,q⟩:=h
 cases rx
 obtain⟨t,rfl⟩:=ry
 obtain⟨its,r,pl,hz⟩:=I.tuple hq
 obtain⟨j,h1,h2,h3,h4,h5⟩:=MF he
 obtain⟨w,ew,rw'⟩:=r.get h2
 have hl:=r.length
 have hn:=Js
 have aF:EP X pins σ Q w s:=⟨z,H,I,rw',q⟩
 exact subscriptTail_builtinR (x:=w) pl.typeIs slot_tuple_getitem.lookup
  (getItem_tuple (j:=j) (Q:=fun r s'=>r=w/\EP X pins σ Q r s') pl (by omega) (by omega) (by rw[zAG,<-hl];exact h1) (by simpa using ew) ⟨rfl,aF⟩) hs
theorem Jy(lo hi:Option Int)(n:Nat):(sliceBounds lo hi none n).1=((HT.sIx n 0 lo:Nat):Int)/\(sliceBounds lo hi none n).2.1=((HT.sIx n n hi:Nat):Int)/\(sliceBounds lo hi none n).2.2=1:=by
 refine⟨?_,?_,rfl⟩
 ·cases lo with
  | none=>simp[sliceBounds,HT.sIx]
  | some i=>
   simp only[sliceBounds,HT.sIx,Option.getD_none,show (1:Int)>0 by decide,if_true]
   by_cases h:i<0
   ·simp only[h,if_true]<;>omega
   ·simp only[h,if_false]<;>omega
 ·cases hi with
  | none=>simp[sliceBounds,HT.sIx]
  | some i=>
   simp only[sliceBounds,HT.sIx,Option.getD_none,show (1:Int)>0 by decide,if_true]
   by_cases h:i<0
   ·simp only[h,if_true]<;>omega
   ·simp only[h,if_false]<;>omega
theorem Io(its:List Value)(lo hi:Option Int):slicePick its.toArray lo hi none=((its.drop (HT.sIx its.length 0 lo)).take (HT.sIx its.length its.length hi-HT.sIx its.length 0 lo)).toArray:=by
 obtain⟨h1,h2,h3⟩:=Jy lo hi its.toArray.size
 unfold slicePick
 rw[h1,h2,h3]
 simp only[sliceRange_one,pick_run,zAG]<;>rfl
def UG(K:PySem.W.Frag):V->Option Int->Option Int->Hp->VK->Prop:=fun x lo hi H Q=>∃a xs,x= .ref a/\SqL K H a xs/\∀p,H p=none->Q (.ref p) (upd H p (.lst (DX xs lo hi)))
theorem M4:UH X (UG X.K):=by
 intro pins s σ H x v vl vu lo hi sl Q I rx hs pl pu h
 obtain⟨a,xs,rfl,hx,q⟩:=h
 cases rx
 obtain⟨its,r,ht,hz⟩:=I.list hx
 have ag:=r.length
 refine⟨"list",_,slot_list_getitem.lookup,ht.isList.typeIs,?_⟩
 refine wpAny_getItem_list_slice ht.isList hs pl pu .none (by simp) ?_ (by rw[zAG]<;>omega)
 rw[Io,<-ag]
 refine⟨.ref s.heap.objs.size,_,I.laid (t':=s.toks) (o:=.lst (DX xs lo hi)) (fun b ob q=>Heap.get?_push_of_some _ q) (zAA _) ?_,rfl,q _ (I.hok.fresh (zAA _))⟩
 exact⟨zAH (Gu xs lo hi) hz,_,0,(r.drop (HT.sIx xs.length 0 lo)).take (HT.sIx xs.length xs.length hi-HT.sIx xs.length 0 lo),Heap.get?_push_size _ rfl⟩
def E9:V->Bool
 | .non=>true
 | .bl _=>true
 | .int _=>true
 | .str _=>true
 | _=>false
def OR:V->V->Bool
 | .non,.non=>true
 | .bl a,.bl b=>a == b
 | .bl a,.int b=>(if a then 1 else 0) == b
 | .int a,.bl b=>a == (if b then 1 else 0)
 | .int a,.int b=>a == b
 | .str a,.str b=>a == b
 | _,_=>false
theorem S9(ry:RelV y u)(rx:RelV x v)(fy:E9 y=true)(fx:E9 x=true):SeqAt.EqAt A s u v (OR y x):=by
 cases y with
 | non=>
  cases ry
  cases x with
  | non=>cases rx;exact zCD _
  | bl b=>cases rx;exact SeqAt.EqAt.none_bool b
  | int b=>obtain⟨t,rfl⟩:=rx;exact SeqAt.EqAt.none_int b t
  | str b=>obtain⟨t,rfl⟩:=rx;exact SeqAt.EqAt.none_str b t
  | _=>exact absurd (show false=true from fx) zAC
 | bl a=>
  cases ry
  cases x with
  | non=>cases rx;exact SeqAt.EqAt.bool_none a
  | bl b=>cases rx;exact SeqAt.EqAt.bool_bool a b
  | int b=>obtain⟨t,rfl⟩:=rx;exact SeqAt.EqAt.bool_int a b t
  | str b=>obtain⟨t,rfl⟩:=rx;exact SeqAt.EqAt.bool_str a b t
  | _=>exact absurd (show false=true from fx) zAC
 | int a=>
  obtain⟨t',rfl⟩:=ry
  cases x with
  | non=>cases rx;exact SeqAt.EqAt.int_none a t'
  | bl b=>cases rx;exact SeqAt.EqAt.int_bool a t' b
  | int b=>obtain⟨t,rfl⟩:=rx;exact zDH a t' b t
  | str b=>obtain⟨t,rfl⟩:=rx;exact zDF a t' b t
  | _=>exact absurd (show false=true from fx) zAC
 | str a=>
  obtain⟨t',rfl⟩:=ry
  cases x with
  | non=>cases rx;exact SeqAt.EqAt.str_none a t'
  | bl b=>cases rx;exact SeqAt.EqAt.str_bool a t' b
  | int b=>obtain⟨t,rfl⟩:=rx;exact zDG a t' b t
  | str b=>obtain⟨t,rfl⟩:=rx;exact SeqAt.EqAt.str_str a t' b t
  | _=>exact absurd (show false=true from fx) zAC
 | _=>exact absurd (show false=true from fy) zAC
def L0(x:V)(u:Value):Bool:=match u with
 | .none=>OR .non x
 | .bool b=>OR (.bl b) x
 | .int i _=>OR (.int i) x
 | .str z _=>OR (.str z) x
 | _=>false
theorem O9(r:RelV y u)(f:E9 y=true):L0 x u=OR y x:=by
 cases y with
 | non=>cases r;rfl
 | bl b=>cases r;rfl
 | int i=>obtain⟨t,rfl⟩:=r;rfl
 | str z=>obtain⟨t,rfl⟩:=r;rfl
 | _=>exact absurd (show false=true from f) zAC
theorem Fh{x:V}:∀{xs:List V}{us:List Value},Vals xs us->xs.all E9=true->us.any (L0 x)=xs.any fun y=>OR y x
 | _,_,.nil,_=>rfl
 | y::xs,u::us,.cons r t,f=>by
  rw[zB5,zAN] at f
  rw[zB6,zB6,O9 r f.1,Fh t f.2]
theorem DY{A:Around}{s:Shared}{x:V}{v:Value}(rx:RelV x v)(fx:E9 x=true):∀{xs:List V}{us:List Value},Vals xs us->xs.all E9=true->∀u∈us,SeqAt.EqAt A s u v (L0 x u)
 | _,_,.nil,_=>fun u hu=>by cases hu
 | y::xs,u::us,.cons r t,f=>fun u' hu=>by
  rw[zB5,zAN] at f
  rcases List.mem_cons.mp hu with rfl | hu
  ·rw[O9 r f.1];exact S9 r rx f.1 fx
  ·exact DY rx fx t f.2 u' hu
def QN(x:V)(xs:List V):Bool:=xs.any fun y=>OR y x
def Us(K:PySem.W.Frag)(neg:Bool):R2:=fun x y H Q=>∃p xs,y= .ref p/\(SqL K H p xs\/SqT K H p xs)/\E9 x=true/\xs.all E9=true/\Q (.bl (if neg then !QN x xs else QN x xs)) H
theorem Ec:D3 X (compareOp .In) (Us X.K false):=by
 intro pins s σ H x y v u Q I rx ry h
 obtain⟨p,xs,rfl,hq,fx,fs,q⟩:=h
 cases ry
 rcases hq with hq | hq
 ·obtain⟨its,r,pl,hz⟩:=I.list hq
  refine SeqAt.in_listAt (L0 x) pl.isList (fun w hw=>DY rx fx r fs w (by simpa using hw)) ⟨.bl _,H,I,rfl,?_⟩
  rw[show its.toArray.any (L0 x)=its.any (L0 x) by simp,Fh r fs]
  exact q
 ·obtain⟨its,r,pl,hz⟩:=I.tuple hq
  refine SeqAt.in_tupleAt (L0 x) pl (fun w hw=>DY rx fx r fs w (by simpa using hw)) ⟨.bl _,H,I,rfl,?_⟩
  rw[show its.toArray.any (L0 x)=its.any (L0 x) by simp,Fh r fs]
  exact q
theorem Bb:D3 X (compareOp .NotIn) (Us X.K true):=by
 intro pins s σ H x y v u Q I rx ry h
 obtain⟨p,xs,rfl,hq,fx,fs,q⟩:=h
 cases ry
 rcases hq with hq | hq
 ·obtain⟨its,r,pl,hz⟩:=I.list hq
  refine SeqAt.notIn_listAt (L0 x) pl.isList (fun w hw=>DY rx fx r fs w (by simpa using hw)) ⟨.bl _,H,I,rfl,?_⟩
  rw[show its.toArray.any (L0 x)=its.any (L0 x) by simp,Fh r fs]
  exact q
 ·obtain⟨its,r,pl,hz⟩:=I.tuple hq
  refine SeqAt.notIn_tupleAt (L0 x) pl (fun w hw=>DY rx fx r fs w (by simpa using hw)) ⟨.bl _,H,I,rfl,?_⟩
  rw[show its.toArray.any (L0 x)=its.any (L0 x) by simp,Fh r fs]
  exact q
theorem Ay:BP X (.builtin "len") (fun xs H Q=>∃p ys,xs=[.ref p]/\(SqL X.K H p ys\/SqT X.K H p ys)/\Q (.int ys.length) H):=by
 intro pins s σ H xs us Q I r h
 obtain⟨p,ys,rfl,hq,q⟩:=h
 obtain⟨u,rfl,rx⟩:=Ci r
 cases rx
 have hn:=Js
 rcases hq with hq | hq
 ·obtain⟨its,r',pl,hz⟩:=I.list hq
  have ag:=r'.length
  exact Calls.call_len_list pl.isList (by simp only[zAG]<;>omega) ⟨.int ys.length,H,I.tok _,⟨s.toks+1,by rw[zAG,ag]⟩,q⟩
 ·obtain⟨its,r',pl,hz⟩:=I.tuple hq
  have ag:=r'.length
  exact len_tuple pl (by simp only[zAG]<;>omega) ⟨.int ys.length,H,I.tok _,⟨s.toks+1,by rw[zAG,ag]⟩,q⟩
theorem AR:BP X (.type "list") (fun xs H Q=>∃p ys,xs=[.ref p]/\(SqL X.K H p ys\/SqT X.K H p ys)/\∀l,H l=none->Q (.ref l) (upd H l (.lst ys))):=by
 intro pins s σ H xs us Q I r h
 obtain⟨p,ys,rfl,hq,q⟩:=h
 obtain⟨u,rfl,rx⟩:=Ci r
 cases rx
 have aF:∀(its:List Value),Vals ys its->ys.length<=sizeLine->∀(h':Heap)(c':Nat),(∀b o',s.heap.get? b=some o'->h'.get? b=some o')->
   h'.get? s.heap.objs.size=some { cls:=.type "list",dict:=none,data:=.seq its.toArray c',slots:=#[] }->EP X pins σ Q (.ref s.heap.objs.size) { s with heap:=h' }:=fun its r' hz h' c' kp e=>
  ⟨.ref s.heap.objs.size,_,I.laid (t':=s.toks) kp (zAA _) (show ObjOk X.prog X.w _ h' _ (.lst ys) from⟨hz,its,c',r',e⟩),rfl,q _ (I.hok.fresh (zAA _))⟩
 rcases hq with hq | hq
 ·obtain⟨its,r',pl,hz⟩:=I.list hq
  have ag:=r'.length
  obtain⟨o,ho,hc,n,hd⟩:=pl.isList
  exact call_list_seq p (.inl rfl) ho hc hd (fun h' c' kp e=>aF its r' hz h' c' kp e) (by simp only[zAG]<;>omega)
 ·obtain⟨its,r',pl,hz⟩:=I.tuple hq
  have ag:=r'.length
  obtain⟨o,ho,hc,n,hd⟩:=pl
  exact call_list_seq p (.inr rfl) ho hc hd (fun h' c' kp e=>aF its r' hz h' c' kp e) (by simp only[zAG]<;>omega)
def Uz(K:PySem.W.Frag)(T:String)(x:V)(H:Hp):Prop:=match x with
 | .str _=>T="str"
 | .int _=>T="int"
 | .ref p=>(T="list"/\∃xs,SqL K H p xs)\/(T="tuple"/\∃o,K.lookup p=some o/\o.cls= .type "tuple"/\o.dict=none)\/
   (T="dict"/\((∃aS,H p=some (.dK aS))\/∃aS,H p=some (.dT aS)))\/(T="set"/\∃S n,H p=some (.set S n))
 | _=>False
theorem PF(I:Inv X pins σ H s)(r:RelV x v)(ty:Uz X.K T x H):
  s.TypeIs v T/\∀a,v= .ref a->∃ob,s.heap.get? a=some ob/\ob.dict=none:=by
 cases x with
 | str z=>
  obtain⟨t,rfl⟩:=r
  cases (show T="str" from ty)
  exact⟨typeIs_str s z t,fun _ e=>nomatch e⟩
 | int i=>
  obtain⟨t,rfl⟩:=r
  cases (show T="int" from ty)
  exact⟨typeIs_int s i t,fun _ e=>nomatch e⟩
 | ref p=>
  cases r
  rcases ty with⟨rfl,xs,hq⟩|⟨rfl,o,hk,hc,hd⟩|⟨rfl,hk⟩|⟨rfl,S,n,hk⟩
  ·obtain⟨its,_,pl,_⟩:=I.list hq
   refine⟨pl.isList.typeIs,fun a e=>?_⟩
   cases e
   obtain⟨o,n,e,c,hd,_⟩:=pl
   exact⟨o,e,hd⟩
  ·refine⟨⟨o,I.kIn p o hk,hc⟩,fun a e=>?_⟩
   cases e
   exact⟨o,I.kIn _ o hk,hd⟩
  ·have z:∃o,s.heap.get? p=some o/\o.ExactDict:=by
    rcases hk with⟨aS,hk⟩|⟨aS,hk⟩
    ·obtain⟨_,_,_,_,o,_,_,e,ex,_⟩:=I.hok p _ hk
     exact⟨o,e,ex⟩
    ·obtain⟨_,_,_,_,o,_,_,e,ex,_⟩:=I.hok p _ hk
     exact⟨o,e,ex⟩
   obtain⟨o,e,ex⟩:=z
   refine⟨⟨o,e,ex.1⟩,fun a e2=>?_⟩
   cases e2
   exact⟨o,e,ex.2.1⟩
  ·obtain⟨o,_,_,_,e,ex,_⟩:=I.hok p _ hk
   refine⟨⟨o,e,ex.1⟩,fun a e2=>?_⟩
   cases e2
   exact⟨o,e,ex.2.1⟩
 | _=>exact False.elim ty
def UU(K:PySem.W.Frag)(T:String)(r:V->List V->Hp->VK->Prop)(to:TE):TE:=fun σ H Q=>to σ H fun x H1=>Uz K T x H1/\r x [] H1 Q
def Vr(K:PySem.W.Frag)(T:String)(r:V->List V->Hp->VK->Prop)(to:TE)(t:TA):TE:=fun σ H Q=>to σ H fun x H1=>Uz K T x H1/\t σ H1 fun xs H2=>r x xs H2 Q
variable {o e:Expr}{es:List Expr}{to:TE}{t:TA}{name:Str}{bj aK:Pos}{T id:String}{r:V->List V->Hp->VK->Prop}
theorem Cl(pa:PlainAttrs T)(slot:Slot T name id)(hty:typeOf (.builtin id)=pure (.type "method_descriptor"))(hm:Ve X id r)(ho:PE X o to)(bt:attributeBase o name X.env (eval o X.env)=eval o X.env:=by rfl)(cZ:(bj.endLine == aK.line)=true:=by rfl):PE X (.Call (.Attribute o name bj) [] [] aK) (UU X.K T r to):=by
 intro pins s σ H Q I h
 refine wpAny_Call_method0_late bt cZ (AX (ho pins s σ H _ I h) fun v s1 ⟨x,H1,I1,r1,ty,q1⟩=>?_)
 obtain⟨h1,h2⟩:=PF I1 r1 ty
 exact⟨T,id,pa,slot,hty,h1,h2,zCX rfl (PySem.evalArgs_none (hm pins s1 σ H1 x [] v [] Q I1 r1 .nil q1))⟩
theorem B1(pa:PlainAttrs T)(slot:Slot T name id)(hty:typeOf (.builtin id)=pure (.type "method_descriptor"))(hm:Ve X id r)(ho:PE X o to)(ha:PA X (e::es) t)(bt:attributeBase o name X.env (eval o X.env)=eval o X.env:=by rfl)(hfew:((backTo aK (starEach (e::es) X.env)).all (fun x=>!x.1) && (backToKw aK (keywordEach [] X.env)).all (fun x=>x.1.isSome)
   && decide ((e::es).length+([]:List Keyword).length+(if ([]:List Keyword).isEmpty then 0 else 1)<30))=true:=by rfl)(cZ:(bj.endLine == aK.line)=true:=by rfl)(hs:starEach (e::es) X.env=(false,eval e X.env)::starEach es X.env:=by rfl)(eD:(backTo aK (starEach es X.env)).any (·.1)=false:=by rfl):
  PE X (.Call (.Attribute o name bj) (e::es) [] aK) (Vr X.K T r to t):=by
 intro pins s σ H Q I h
 refine wpAny_Call_method_late bt hfew cZ rfl (AX (ho pins s σ H _ I h) fun v s1 ⟨x,H1,I1,r1,ty,q1⟩=>?_)
 obtain⟨h1,h2⟩:=PF I1 r1 ty
 refine⟨T,id,pa,slot,hty,h1,h2,?_⟩
 have hA:=ha aK pins s1 σ H1 _ I1 q1
 rw[hs] at hA ⊢
 refine zCX (by show (false || (backTo aK (starEach es X.env)).any (·.1))=false;rw[eD]<;>rfl) (Calls.evalArgs_plain ?_)
 exact AX hA fun us s2 ⟨vs,H2,I2,r2,q2⟩=>hm pins s2 σ H2 x vs v us Q I2 r1 r2 q2
end
end L2
namespace L2
open PySem PySem.Spec PyProof.Rows
def Uq(X:Cx)(id:String)(r:V->List V->Hp->VK->Prop):Prop:=
 ∀(pins:List (Addr×Obj))(s:Shared)(σ:St)(H:Hp)(x:V)(xs:List V)(v:Value)(us:List Value)(Q:VK),Inv X pins σ H s->RelV x v->Vals xs us->r x xs H Q->
  wpAny (model X.prog X.w) X.A (call (.builtin id) (v::us)) (EP X pins σ Q) X.xe s
theorem Vals.one:∀{x:V}{us:List Value},Vals [x] us->∃u,us=[u]/\RelV x u
 | _,_,.cons r .nil=>⟨_,rfl,r⟩
theorem Vals.zero:∀{us:List Value},Vals [] us->us=[]
 | _,.nil=>rfl
theorem Vals.dropLast(h:Vals xs us):Vals xs.dropLast us.dropLast:=by
 induction h with
 | nil=>exact .nil
 | cons r t ih=>
  cases t with
  | nil=>exact .nil
  | cons q t'=>exact .cons r ih
theorem Vals.reverse(h:Vals xs us):Vals xs.reverse us.reverse:=by
 induction h with
 | nil=>exact .nil
 | cons r t ih=>rw[zC,zC];exact Vals.append ih (.cons r .nil)
theorem LW{α:Type}(l:List α):l.eraseIdx (l.length-1)=l.dropLast:=by
 induction l with
 | nil=>rfl
 | cons a r ih=>
  cases r with
  | nil=>rfl
  | cons b r=>
   have e:(a::b::r).length-1=((b::r).length-1)+1:=by
    have h1:(a::b::r).length=r.length+2:=rfl
    have h2:(b::r).length=r.length+1:=rfl
    omega
   rw[e,List.eraseIdx_cons_succ,ih]
   all_goals rfl
section
variable {X:Cx}{pins:List (Addr×Obj)}{σ:St}{H:Hp}{s:Shared}{l b:Addr}{xs ys zs:List V}
theorem Inv.lset{its its':List Value}{n:Nat}{t':Nat}(I:Inv X pins σ H s)(hH:H l=some (.lst xs))(e:s.heap.get? l=some { cls:=.type "list",data:=.seq its.toArray n })(hf:f its.toArray=its'.toArray)(hv:Vals ys its')(hz:ys.length<=sizeLine):
  Inv X pins σ (upd H l (.lst ys)) { s with heap:=s.heap.update l (Obj.mapSeq f),toks:=t' }:=by
 have q:=PySem.IsL.update e f
 rw[hf] at q
 refine I.write (x:=l) (e:=l) (by rw[hH];exact trivial) (.inl rfl) (fun b' u hb hu=>(Heap.get?_update_other s.heap (Obj.mapSeq f) (zA7 hb)).trans hu) ⟨_,q⟩ ?_
 exact⟨hz,its',_,hv,q⟩
theorem Inv.lnew(I:Inv X pins σ H s)(hv:Vals ys its)(hz:ys.length<=sizeLine):
  Inv X pins σ (upd H s.heap.objs.size (.lst ys)) { s with heap:=s.heap.push { cls:=.type "list",data:=.seq its.toArray },toks:=t' }:=
 I.laid (fun _ _ q=>Heap.get?_push_of_some _ q) (zAA _) ⟨hz,its,0,hv,Heap.get?_push_size _ rfl⟩
theorem Inv.fresh(I:Inv X pins σ H s):H s.heap.objs.size=none:=I.hok.fresh (zAA _)
theorem Inv.lstM(I:Inv X pins σ H s)(hH:H l=some (.lst xs)):xs.length<=sizeLine/\∃(its:List Value)(n:Nat),Vals xs its/\xs.length=its.length/\s.heap.get? l=some { cls:=.type "list",data:=.seq its.toArray n }:=by
 obtain⟨z,its,n,r,e⟩:=I.hok l _ hH
 exact⟨z,its,n,r,r.length,e⟩
theorem Pz(h:n<=sizeLine):Builtin.List.listTooLong n=false:=by
 unfold Builtin.List.listTooLong
 exact decide_eq_false (by omega)
end
section
variable {X:Cx}
def R1:V->List V->Hp->VK->Prop:=fun x vs H Q=>∃l xs y,x= .ref l/\vs=[y]/\H l=some (.lst xs)/\xs.length<sizeLine/\Q .non (upd H l (.lst (xs++[y])))
theorem A4:Uq X "list.append" R1:=by
 intro pins s σ H x vs v us Q I rx rv h
 obtain⟨l,xs,y,rfl,rfl,hH,hz,q⟩:=h
 cases rx
 obtain⟨u,rfl,ru⟩:=rv.one
 obtain⟨z,its,n,r,hl,e⟩:=I.lstM hH
 refine call_meets F.slot_list_append ⟨_,e,rfl⟩ F.entry_list_append (F.args_list_append_2 _ _) (PySem.list_append l its.toArray n u (by rw[zAG];omega)) ⟨e,?_⟩
 refine⟨.non,_,I.lset (its':=its++[u]) hH e (by simp) (r.append (.cons ru .nil)) ?_,rfl,q⟩
 rw[zA,List.length_singleton]
 omega
def RV:V->List V->Hp->VK->Prop:=fun x vs H Q=>∃l b xs zs,x= .ref l/\vs=[.ref b]/\H l=some (.lst xs)/\H b=some (.lst zs)/\xs.length+zs.length<=sizeLine/\Q .non (upd H l (.lst (xs++zs)))
theorem NM:Uq X "list.extend" RV:=by
 intro pins s σ H x vs v us Q I rx rv h
 obtain⟨l,b,xs,zs,rfl,rfl,hH,hB,hz,q⟩:=h
 cases rx
 obtain⟨u,rfl,ru⟩:=rv.one
 cases ru
 obtain⟨z,its,n,r,hl,e⟩:=I.lstM hH
 obtain⟨z2,az,n2,r2,aC,e2⟩:=I.lstM hB
 have aw:its.toArray.size+az.toArray.size<=sizeLine:=by rw[zAG,zAG];omega
 have hlong:¬(!its.toArray.isEmpty && Builtin.List.listTooLong (its.toArray.size+az.toArray.size))=true:=by
  rw[Pz aw,zCH]
  exact zAC
 refine call_meets F.slot_list_extend ⟨_,e,rfl⟩ F.entry_list_extend (F.args_list_extend_2 _ _)
  (AutoSeq1.list_extend_list_list_0 l its.toArray n b az.toArray n2 hlong (by rw[zAG];omega) (by omega)) ⟨e,e2,?_⟩
 refine⟨.non,_,I.lset (its':=its++az) hH e (by simp) (r.append r2) ?_,rfl,q⟩
 rw[zA]
 omega
def U8:V->List V->Hp->VK->Prop:=fun x vs H Q=>∃l xs y,x= .ref l/\vs=[]/\H l=some (.lst xs)/\xs[xs.length-1]? = some y/\Q y (upd H l (.lst xs.dropLast))
theorem Dv:Uq X "list.pop" U8:=by
 intro pins s σ H x vs v us Q I rx rv h
 obtain⟨l,xs,y,rfl,rfl,hH,hy,q⟩:=h
 cases rx
 have hus:=rv.zero
 subst hus
 obtain⟨z,its,n,r,hl,e⟩:=I.lstM hH
 obtain⟨u,hu,ru⟩:=r.get hy
 have hy':its.toArray[its.toArray.size-1]? = some u:=by
  show its.toArray[its.length-1]? = some u
  rw[<-Array.getElem?_toList,<-hl]
  exact hu
 refine call_meets F.slot_list_pop ⟨_,e,rfl⟩ F.entry_list_pop (F.args_list_pop_1 _) (MeetsSeq.list_pop_last l its.toArray n u hy' (by rw[zAG];omega)) ⟨e,?_⟩
 refine⟨y,_,I.lset (its':=its.dropLast) hH e ?_ r.dropLast ?_,ru,q⟩
 ·show its.toArray.eraseIdxIfInBounds (its.toArray.size-1)=its.dropLast.toArray
  rw[zAG,List.eraseIdxIfInBounds_toArray,LW]
 ·rw[List.length_dropLast]
  omega
def Pn:V->List V->Hp->VK->Prop:=fun x vs H Q=>∃l xs,x= .ref l/\vs=[]/\H l=some (.lst xs)/\Q .non (upd H l (.lst xs.reverse))
theorem HS:Uq X "list.reverse" Pn:=by
 intro pins s σ H x vs v us Q I rx rv h
 obtain⟨l,xs,rfl,rfl,hH,q⟩:=h
 cases rx
 have hus:=rv.zero
 subst hus
 obtain⟨z,its,n,r,hl,e⟩:=I.lstM hH
 refine call_meets F.slot_list_reverse ⟨_,e,rfl⟩ F.entry_list_reverse (F.args_list_reverse_1 _) (AutoSeq1.list_reverse_list_0 l its.toArray n (by rw[zAG];omega)) ⟨e,?_⟩
 refine⟨.non,_,I.lset (its':=its.reverse) hH e (by simp) r.reverse ?_,rfl,q⟩
 rw[zCN]
 omega
def UN:R2:=fun x y H Q=>∃l b xs zs,x= .ref l/\y= .ref b/\H l=some (.lst xs)/\H b=some (.lst zs)/\xs.length+zs.length<=sizeLine/\∀p,H p=none->Q (.ref p) (upd H p (.lst (xs++zs)))
theorem FT:D3 X (binaryOp .Add) UN:=by
 intro pins s σ H x y v u Q I rx ry h
 obtain⟨l,b,xs,zs,rfl,rfl,hH,hB,hz,q⟩:=h
 cases rx
 cases ry
 obtain⟨z,its,n,r,hl,e⟩:=I.lstM hH
 obtain⟨z2,az,n2,r2,aC,e2⟩:=I.lstM hB
 refine PySem.P.add_list e e2 ?_ (by rw[zAG,zAG];omega)
 have ea:its.toArray++az.toArray=(its++az).toArray:=by simp
 rw[ea]
 exact⟨.ref _,_,I.lnew (t':=s.toks) (r.append r2) (by rw[zA];omega),rfl,q _ I.fresh⟩
end
section
variable {prog:Program}{w:World}{A:Around}{E:Value->Shared->Prop}{s:Shared}
end
section
variable {X:Cx}
end
end L2
namespace Att
open PySem PySem.W PySem.Calls PyProof.Rows
theorem Gz:∀(ns:List Int)(vs:List Value),WellAll P h vs (ns.map WData.int)->IntsAre vs ns:=by
 intro ns
 induction ns with
 | nil=>
  intro vs w
  rw[zC5] at w
  cases w
  exact .nil
 | cons n ns ih=>
  intro vs w
  rw[zBL] at w
  cases w with
  | cons a b=>
   cases a
   exact .cons _ _ (ih _ b)
theorem Nl{l:OpenLaw}{n:Nat}(hn:l.most=some n){P:Params}{h:Heap}{args:List WData}{iB:List Value}(iC:l.row.toRowW.claim.pre args=true)(cx:WellAll P h iB args):
  ∃a vs ns,iB=[Value.ref a]/\args=[WData.list (ns.map WData.int)]/\h.get? a=some { cls:=.type "list",data:=.seq vs.toArray }/\IntsAre vs ns/\ns.length<=n:=by
 have gI:WShape.hasAll [] args [.list .int]=true:=(pre_splitW iC).1
 have hc:l.pre.holds [] { args:=args }=true:=(pre_splitW iC).2
 obtain⟨d,r,rfl,h1,h2⟩:=hasAllW_cons gI
 obtain rfl:=hasAllW_nil h2
 obtain⟨xs,rfl,h3⟩:=hasW_list h1
 obtain⟨ns,rfl⟩:=items_int h3
 have ag:ns.length<=n:=by
  unfold OpenLaw.pre at hc
  have h4:(WTm.not (.lt (.lit (.int (n:Int))) (.len (.arg 0)))).holds [] { args:=[.list (ns.map .int)] }=true:=by
   have h4:=(holds_andW hc).1
   rw[hn] at h4
   exact h4
  have h5:=condW_of h4 (w_not (w_lt w_lit (w_len_list (w_arg rfl))))
  rw[List.length_map] at h5
  refine Nat.le_of_not_lt fun q=>?_
  have q':(n:Int)<((ns.length:Nat):Int):=by omega
  first
   | (rw[decide_eq_true q'] at h5;exact absurd h5 (by decide))
   | (simp at h5;omega)
 cases cx with
 | cons w1 w2=>
  cases w2
  cases w1 with
  | list ho aq=>exact⟨_,_,ns,rfl,rfl,ho,Gz ns _ aq,ag⟩
theorem Of(l:OpenLaw)(args:List WData):l.row.toRowW.claim.post args (.bool true) args=true:=
 postW_of (r:=l.row.toRowW) (X:=(true == true))
  (show WShape.has [] (.bool true) .bool=true by first | rfl | decide | simp[WShape.has,WShape.arms,WShape.armsAll])
  (show (WTm.eq .res (.lit (.bool true))).value [] { args:=args,res:=some (.bool true),after:=args }=some (.bool (true == true)) from w_eq_bool (w_res rfl) w_lit) rfl
theorem attach_call{l:OpenLaw}{n:Nat}{q:Program}{cy:List Str}{XP:(Str->Option Value)->Heap->Prop}{YP:World->Heap->Prop}{d:DefRec}(hn:l.most=some n)(iD:d.params.defaults=[])(call:∀(w:World) (s₀ s₁:Shared) (mg mb:Str->Option Value) (fa:Addr) (o:Obj) (pm cd cI:Value) (a:Addr) (vs:List Value) (ns:List Int),
   Ground q cy [] XP w s₀ mg mb s₁.heap->YP w s₁.heap->
   s₁.heap.get? fa=some o->o.data= .func (docDef d.name d.params d.body d.scope pm cd cI)->s₁.heap.CodeRec cd d.name->mg d.name=some (.ref fa)->
   s₁.heap.get? a=some { cls:=.type "list",data:=.seq vs.toArray }->IntsAre vs ns->ns.length<=n->s₁.gens = #[]->
   codeAny (model l.prog w) callerA (.call (.ref fa) ⟨[.ref a],[]⟩) (fun r s'=>r= .ok (.ret (.bool true))/\OldK s₁.heap s'.heap/\s'.os=s₁.os/\AllBare s'.gens) s₁):
  WalkO q cy XP YP l.row.toRowW d [] (fun f vs=>PySem.call f vs):=by
 intro w s₀ s₁ mg mb G Y fa o pm cd cI dV kV ho hd ft hD hmg hg args iB as iC hlay hrd cx hlo
 obtain rfl:dV= .none:=Dflts.none hD iD
 obtain rfl:kV= .none:=Dflts.noKw hD
 obtain⟨a,vs,ns,rfl,rfl,hobj,gJ,ag⟩:=Nl hn iC cx
 refine enter_call (codeAny_mono (call w s₀ s₁ mg mb fa o pm cd cI a vs ns G Y ho (fd_plain hd) ft hmg hobj gJ ag hg) fun r s' hq=>?_)
 obtain⟨rfl,h2,h3,h4⟩:=hq
 exact⟨.inl ⟨.bool true,.bool true,[],rfl,fun _=>rfl,.bool true,Of l _,fun _=>⟨List.Pairwise.nil,fun _ hm=>(nomatch hm)⟩⟩,h2,h3,h4⟩
section
variable {prog:Program}{w:World}{A:Around}{E:Value->Shared->Prop}{s:Shared}{K:Frag}
end
end Att
namespace L2
open PySem PySem.Spec PyProof.Rows
theorem FC:∀{vs:List Value}{ns:List Int},IntsAre vs ns->Vals (ns.map V.int) vs
 | _,_,.nil=>.nil
 | _,_,.cons n t h=>.cons ⟨t,rfl⟩ (FC h)
def Tj(H:Hp):Prop:=∀b,H b=none\/∃o xs,H b=some (.frz o (.lst xs))
theorem PP{K:PySem.W.Frag}(KX:K.In s₁.heap)(hns:s₁.heap.Ns mainGlobals mg)(hb:s₁.heap.Ns builtinsNs mb)(hbb:∀x:Str,x≠"__name__"->mb x=bootBuiltins x)(hlim:s₁.heap.NoLimit)(hg:s₁.gens = #[])(ha:s₁.heap.get? a=some { cls:=.type "list",data:=.seq vs.toArray })(hi:IntsAre vs ns)(hl:ns.length<=sizeLine)(hr:Room k callerA)(F:∀base:Heap,K.In base->base.Ns mainGlobals mg->FnOk P w K mg base CX k fa fd [x] sp)(hbind:∀(s:Shared) (u:Value),BindsTo s fd ⟨[u],[]⟩ [(x,u)])(cY:∀H:Hp,Tj H->SqL K H a (ns.map V.int)->sp [.ref a] H (fun v _=>v= .bl true) fun _ _ _=>False)(hCX:∀H e s',CX [] H s₁ (fun _ _ _=>False) e s'->False):
  codeAny (model P w) callerA (.call (.ref fa) ⟨[.ref a],[]⟩) (fun r s'=>r= .ok (.ret (.bool true))/\OldK s₁.heap s'.heap/\s'.os=s₁.os/\AllBare s'.gens) s₁:=by
 have rv:=FC hi
 have lenV:=hi.length
 have core:∀H:Hp,Tj H->SqL K H a (ns.map V.int)->HOk P w H s₁.heap->(∀b,H b≠none->b=a)->(H a≠none->K.lookup a=none)->
   codeAny (model P w) callerA (.call (.ref fa) ⟨[.ref a],[]⟩) (fun r s'=>r= .ok (.ret (.bool true))/\OldK s₁.heap s'.heap/\s'.os=s₁.os/\AllBare s'.gens) s₁:=by
  intro H hO hS hok hA hK
  have EG:∀{b:Addr}{o:Obj},s₁.heap.get? b=some o->H b=none->(Jr s₁.heap H).get? b=some o:=fun e n=>Oz e n
  have noA:∀{b:Addr}{o:Obj}{es:Array DictEntry}{ep:Nat},s₁.heap.get? b=some o->o.data= .dict es ep->H b=none:=fun {b o es ep} e d=>by
   cases q:H b with
   | none=>rfl
   | some u=>
    have e':b=a:=hA b (by rw[q];simp)
    subst e'
    rw[ha] at e;cases e
    have d':Data.seq vs.toArray _=Data.dict es ep:=d
    cases d'
  have nsK:∀{b:Addr}{m:Str->Option Value},s₁.heap.Ns b m->(Jr s₁.heap H).Ns b m:=fun {b m} ⟨o,es,ep,e,d,r⟩=>⟨o,es,ep,EG e (noA e d),d,r⟩
  have hKb:K.In (Jr s₁.heap H):=fun b o e=>EG (KX b o e) (by
   cases q:H b with
   | none=>rfl
   | some u=>
    have e':b=a:=hA b (by rw[q];simp)
    subst e'
    rw[hK (by rw[q];simp)] at e;cases e)
  have hM:Mod K mg (Jr s₁.heap H):=⟨hKb,nsK hns,⟨mb,nsK hb,hbb⟩,let ⟨mc,h1,h2⟩:=hlim;⟨mc,nsK h1,h2⟩⟩
  have e0:Env0 P w K mg (Jr s₁.heap H) callerA [] s₁ H:=⟨rfl,hM,fun b o e=>QR e,Nat.le_of_eq (On _ _),trivial,fun b hb=>absurd (show b∈([]:List Addr) from hb) (by simp),hok,.of_eq hg⟩
  refine codeAny_mono ((F _ hKb (nsK hns)).run callerA [] s₁ H ⟨[.ref a],[]⟩ [.ref a] [.ref a] _ _ hr e0 (hbind s₁ (.ref a)) (.cons rfl .nil) (cY H hO hS)) fun r s' h=>?_
  cases r with
  | error e=>exact (hCX H e s' h).elim
  | ok fl=>
   cases fl with
   | next=>exact False.elim h
   | brk=>exact False.elim h
   | cont=>exact False.elim h
   | ret u=>
    obtain⟨v,H',os,bare,un,eE,r',q⟩:=h
    have q':v= .bl true:=q
    subst q'
    obtain rfl:u=Value.bool true:=r'
    refine⟨rfl,OldK.of_keep fun b o e=>?_,os,bare⟩
    cases q:H b with
    | none=>exact un.keep b o e q (by intro z;exact absurd (show b∈([]:List Addr) from z) (by simp)) (by simp)
    | some u=>
     rcases hO b with z | ⟨ob,xs,z⟩
     ·rw[q] at z;cases z
     ·have z2:=un.frzs b ob _ z
      obtain⟨e1,_⟩:=hok b _ z
      obtain⟨e2,_⟩:=eE b _ z2
      rw[e] at e1;cases e1
      exact e2
 cases hk:K.lookup a with
 | some o=>
  have e:=KX a o hk
  rw[ha] at e
  cases e
  refine core (fun _=>none) (fun _=>.inl rfl) (.inr ⟨_,vs.toArray,_,hk,rfl,rfl,rfl,by rw[zAG,lenV];exact hl,by simpa using rv⟩) (fun b u z=>by have z':(none:Option HO)=some u:=z;cases z') (fun b z=>absurd rfl z) fun z=>absurd rfl z
 | none=>
  refine core (fun b=>if b=a then some (.frz { cls:=.type "list",data:=.seq vs.toArray } (.lst (ns.map V.int))) else none) (fun b=>?_) (.inl (.inr ⟨{ cls:=.type "list",data:=.seq vs.toArray },if_pos rfl⟩)) (fun b u z=>?_) (fun b z=>?_) fun _=>hk
  ·by_cases hb:b=a
   ·exact .inr ⟨_,_,if_pos hb⟩
   ·exact .inl (if_neg hb)
  ·by_cases hb:b=a
   ·have z':=(if_pos hb).symm.trans z
    cases z'
    subst hb
    exact⟨ha,by rw[List.length_map];exact hl,vs,_,rv,ha⟩
   ·have z':=(if_neg hb).symm.trans z
    cases z'
  ·by_cases hb:b=a
   ·exact hb
   ·exact absurd (if_neg hb) z
end L2
namespace L2
open PySem PySem.Spec PyProof.Rows
theorem walk_of{l:PySem.W.OpenLaw}{n k:Nat}{q:Program}{cy:List Str}{XP:(Str->Option Value)->Heap->Prop}{YP:World->Heap->Prop}{d:DefRec}{K:Params->PySem.W.Frag}{CX:World->Mi}{sp:World->Sp}{x:Str}(hn:l.most=some n)(gs:n<=sizeLine)(iD:d.params.defaults=[])(hr:Room k callerA)(hY:∀(w:World) (h:Heap),YP w h->(K w.params).In h)(F:∀(w:World) (mg:Str->Option Value) (fa:Addr) (h:Heap),(K w.params).In h->h.Ns mainGlobals mg->mg d.name=some (.ref fa)->
   ∃fd:FuncData,(∀(s:Shared) (u:Value),BindsTo s fd ⟨[u],[]⟩ [(x,u)])/\
    ∀base:Heap,(K w.params).In base->base.Ns mainGlobals mg->FnOk l.prog w (K w.params) mg base (CX w) k fa fd [x] (sp w))(cY:∀(w:World) (H:Hp) (a:Addr) (ns:List Int),ns.length<=n->Tj H->SqL (K w.params) H a (ns.map V.int)->sp w [.ref a] H (fun v _=>v= .bl true) fun _ _ _=>False)(hCX:∀(w:World) (H:Hp) (s:Shared) (e:Value) (s':Shared),CX w [] H s (fun _ _ _=>False) e s'->False):
  PySem.W.WalkO q cy XP YP l.row.toRowW d [] (fun f vs=>PySem.call f vs):=by
 refine Att.attach_call hn iD fun w s₀ s₁ mg mb fa o pm cd cI a vs ns G Y ho hd ft hmg hobj gJ ag hg=>?_
 have KX:=hY w _ Y
 obtain⟨fd,hb,hF⟩:=F w mg fa _ KX G.T.g hmg
 exact PP KX G.T.g G.T.b G.T.builtins G.T.nolimit hg hobj gJ (zAH ag gs) hr hF hb (fun H hO hS=>cY w H a ns ag hO hS) fun H e s'=>hCX w H s₁ e s'
end L2
namespace L2
open PySem PySem.Spec PyProof.Rows
def BX(s:Stmt)(j:Nat):Stmt:=match s with
 | .ClassDef _ _ _ body _ _ _ _ _ _ _=>body.getD j (.Pass ⟨0,0,0,0⟩)
 | _=>.Pass ⟨0,0,0,0⟩
def Aq(s:Stmt):Arguments:=match s with
 | .FunctionDef _ a _ _ _ _ _ _ _ _=>a
 | _=>{ posonlyargs:=[],args:=[],vararg:=none,kwonlyargs:=[],kw_defaults:=[],kwarg:=none,defaults:=[] }
def Am(s:Stmt):List Stmt:=match s with
 | .FunctionDef _ _ b _ _ _ _ _ _ _=>b
 | _=>[]
def Ad(s:Stmt):Scope:=match s with
 | .FunctionDef _ _ _ _ _ _ sc _ _ _=>sc
 | _=>{ kind:=.function,names:=[],isGenerator:=false,isCoroutine:=false }
abbrev AH:Mi:=fun _ _ _ _ _ _=>False
abbrev E0:XK:=fun _ _ _=>False
theorem Ak:Ds AH X E0:=fun _ _ _ _ _ _ _ h=>h.elim
structure Fun(K:PySem.W.Frag)(x ap:Str)(st:Stmt)(f:Addr)(fd:FuncData):Prop where
 ex:∃(oc:Value)(od:Option Addr)(kV cI pm:Value)(an:Option Addr)(ai ct:Value)(iA:Array (Option Value)),
  fd=PySem.W.fnOf x ap (Aq st) (Am st) (Ad st) .none kV cI pm an ai ct/\K.lookup f=some ⟨oc,od,.func fd,iA⟩/\PySem.W.codeIn K ai ap=true
 kp:PySem.W.keepIn K (.ref f)=true
section
variable {P:Program}{w:World}{K:PySem.W.Frag}{mg:Str->Option Value}{base:Heap}
theorem Fun.ok{st:Stmt}(F:Fun K x ap st f fd)(S:Ao N ps (Ad st))(len:∀vs H Q E,sp vs H Q E->vs.length=ps.length)(bP:∀(ai:Value) (A:Around) (outer:List Env) (s:Shared) (H:Hp) (vs:List V) (Q:VK) (E:XK),Room k (A.deeper (envOfC ap (Ad st) s.heap.objs.size f ai))->sp vs H Q E->
   ∃t,PSs (JG AH P w K mg base N ap (Ad st) f ai A outer s H E).nox (Am st) t/\t { nx:=fun _ H'=>Q .non H',rt:=Q } (E8 N vs) H):FnOk P w K mg base AH (k+1) f fd ps sp:=by
 obtain⟨oc,od,kV,cI,pm,an,ai,ct,iA,rfl,lk,ft⟩:=F.ex
 refine Sk lk ft S len fun A outer s H vs Q E hr cY=>?_
 obtain⟨t,h,q⟩:=bP ai A outer s H vs Q E hr cY
 exact⟨t,h.nox,q⟩
theorem Fun.binds{st:Stmt}(F:Fun K x ap st f fd)(h:∀(kV cI pm:Value) (an:Option Addr) (ai ct:Value) (us:List Value),us.length=ps.length->bindArgs (PySem.W.fnOf x ap (Aq st) (Am st) (Ad st) .none kV cI pm an ai ct) ⟨us,[]⟩=pure (ps.zip us)):Binds K fd ps []:=by
 obtain⟨oc,od,kV,cI,pm,an,ai,ct,iA,rfl,lk,ft⟩:=F.ex
 exact .all (h kV cI pm an ai ct)
theorem Aw{st:Stmt}{kV cI pm ai ct:Value}(l:K.lookup f=some ⟨oc,od,.func (PySem.W.fnOf x ap (Aq st) (Am st) (Ad st) .none kV cI pm an ai ct),iA⟩)(c:PySem.W.codeIn K ai ap=true)(k:PySem.W.keepIn K (.ref f)=true):Fun K x ap st f (PySem.W.fnOf x ap (Aq st) (Am st) (Ad st) .none kV cI pm an ai ct):=⟨⟨oc,od,kV,cI,pm,an,ai,ct,iA,rfl,l,c⟩,k⟩
end
theorem AG(h:n<=1000):n<sizeLine:=zDI h (by decide)
section
variable {X:Cx}
theorem pv(i:Nat)(hN:X.N[i]? = some x:=by rfl)(hv:UW X.env.scope x:=by first | exact Or.inl rfl | exact Or.inr (Or.inl rfl) | exact Or.inr (Or.inr rfl))(hd:(x == ("__debug__":Str))=false:=by decide)(ft:(x == ("__classdict__":Str))=false:=by decide):PE X (.Name x pos) (Ow i):=SD hN hv hd ft
end
theorem A7{A B:Prop}(h:B):if false=true then A else B:=by
 rw[if_neg zAC]
 exact h
theorem Bh{A B:Prop}(h:A):if true=true then A else B:=by
 rw[if_pos rfl]
 exact h
theorem B9{c A B:Prop}[Decidable c](h1:c->A)(h2:¬c->B):if c then A else B:=by
 by_cases h:c
 ·rw[if_pos h]
  exact h1 h
 ·rw[if_neg h]
  exact h2 h
theorem IP{c A B:Prop}[Decidable c](hc:c)(h:B):if (!decide c)=true then A else B:=by
 rw[decide_eq_true hc]
 exact A7 h
def Same(H H':Hp):Prop:=∀b o,H b=some o->H' b=some o
theorem Same.refl(H:Hp):Same H H:=fun _ _ h=>h
theorem Same.trans(a:Same H H1)(b:Same H1 H2):Same H H2:=fun c o h=>b c o (a c o h)
theorem Same.free(e:Same H H')(h:H' l=Option.none):H l=Option.none:=by
 cases q:H l with
 | none=>rfl
 | some o=>
  rw[e l o q] at h
  cases h
theorem Same.seq{K:PySem.W.Frag}(e:Same H H')(h:SqL K H a xs):SqL K H' a xs:=by
 rcases h with (h | ⟨o,h⟩) | h
 ·exact .inl (.inl (e _ _ h))
 ·exact .inl (.inr ⟨o,e _ _ h⟩)
 ·exact .inr h
end L2
namespace L2
open PySem PySem.Spec PyProof.Rows
section
variable {X:Cx}
theorem Cp:BP X (.builtin "isinstance") (fun xs H Q=>∃x T t b,xs=[x,.ty T]/\Gf X.K H x t/\PySem.W.kitOne X.K t (.type T)=some b/\Q (.bl b) H):=by
 intro pins s σ H xs us Q I r h
 obtain⟨x,T,t,b,rfl,ty,e,q⟩:=h
 obtain⟨u,w',rfl,rx,ry⟩:=Sh r
 cases ry
 exact Nr I rx ty e fun tk=>⟨.bl b,H,I.tok _,rfl,q⟩
theorem HI(K:PySem.W.Frag)(T:String):PySem.W.kitOne K (.type T) (.type T)=some true:=by
 unfold PySem.W.kitOne
 rw[if_pos (beq_self_eq_true _)]
theorem JF(K:PySem.W.Frag):PySem.W.kitOne K (.type "int") (.type "bool")=some false:=by
 with_unfolding_all rfl
def Uw(K:PySem.W.Frag):R2:=fun x y H Q=>∃a b xs,x= .ref a/\y= .ref b/\SqL K H a xs/\SqL K H b []/\Q (.bl (!xs.isEmpty)) H
theorem LO(hu:X.A.units<cLine):D3 X (compareOp .NotEq) (Uw X.K):=by
 intro pins s σ H x y v u Q I rx ry h
 obtain⟨a,b,xs,rfl,rfl,ha,hb,q⟩:=h
 cases rx
 cases ry
 obtain⟨its,r,pl,hz⟩:=I.list ha
 obtain⟨az,r2,be,hz2⟩:=I.list hb
 cases r2
 cases r with
 | nil=>exact zDJ (e:=fun _=>true) pl.isList be.isList rfl hu (fun j h1=>absurd h1 (zCE _)) _ _ _ _ ⟨.bl false,H,I,rfl,q⟩
 | cons r1 r2=>exact SeqAt.RcNeAt.lists_lengths pl.isList be.isList (by simp) hu _ _ _ _ ⟨.bl true,H,I,rfl,q⟩
def UB(K:PySem.W.Frag):R2:=fun x y H Q=>∃a b xs,x= .ref a/\y= .ref b/\SqL K H a xs/\SqL K H b []/\Q (.bl xs.isEmpty) H
theorem Pf(hu:X.A.units<cLine):D3 X (compareOp .Eq) (UB X.K):=by
 intro pins s σ H x y v u Q I rx ry h
 obtain⟨a,b,xs,rfl,rfl,ha,hb,q⟩:=h
 cases rx
 cases ry
 obtain⟨its,r,pl,hz⟩:=I.list ha
 obtain⟨az,r2,be,hz2⟩:=I.list hb
 cases r2
 cases r with
 | nil=>exact zC2 (e:=fun _=>true) pl.isList be.isList rfl hu (fun j h1=>absurd h1 (zCE _)) _ _ _ _ ⟨.bl true,H,I,rfl,q⟩
 | cons r1 r2=>exact zCQ pl.isList be.isList (by simp) hu _ _ _ _ ⟨.bl false,H,I,rfl,q⟩
end
end L2
namespace HT2
open PySem L2
def TS(H H':Hp):Prop:=∀p xs,H p=some (.tup xs)->H' p=some (.tup xs)
theorem TS.trans(a:TS H H1)(b:TS H1 H2):TS H H2:=fun p xs e=>b p xs (a p xs e)
theorem TS.same(s:Same H H'):TS H H':=fun p xs e=>s p _ e
theorem TS.lst{H:Hp}{l:Addr}{xs:List V}{o:HO}(h:H l=some (.lst xs)):TS H (upd H l o):=fun p ys e=>by
 rw[Ax (DU e h (by intro z;cases z))]
 exact e
theorem TS.new(h:H l=none):TS H (upd H l o):=fun p ys e=>by
 rw[Ax (An e h)]
 exact e
theorem Af(h:H p=none)(o:HO):Same H (upd H p o):=fun b u q=>by rw[Ax (An q h)];exact q
theorem AJ(s:Same H0 H)(h:H0 p=none)(o:HO):Same H0 (upd H p o):=fun b u q=>by rw[Ax (An q h)];exact s b u q
inductive Tr where
 | lt (k:Nat)
 | nt (t:Tr)
 | bn (j:Nat) (a b:Tr)
 deriving DecidableEq
def jn:Nat->Str
 | 0=>"and"
 | 1=>"or"
 | 2=>"if"
 | _=>"same"
def Tr.At(H:Hp):Tr->V->Prop
 | .lt k,v=>∃p,v= .ref p/\H p=some (.tup [.str "let",.int k])
 | .nt t,v=>∃p u,v= .ref p/\H p=some (.tup [.str "not",u])/\t.At H u
 | .bn j a b,v=>∃p x y,v= .ref p/\H p=some (.tup [.str (jn j),x,y])/\a.At H x/\b.At H y
def Tr.size:Tr->Nat
 | .lt _=>1
 | .nt t=>t.size+1
 | .bn _ a b=>a.size+b.size+1
def Tr.ok(m:Nat):Tr->Prop
 | .lt k=>k<m
 | .nt t=>t.ok m
 | .bn j a b=>j<4/\a.ok m/\b.ok m
theorem Tr.size_pos:∀t:Tr,0<t.size
 | .lt _=>Nat.one_pos
 | .nt _=>zBM _
 | .bn _ _ _=>zBM _
theorem Tr.At.keep{H H':Hp}(s:TS H H'):∀{t:Tr}{v:V},t.At H v->t.At H' v
 | .lt k,v,h=>by
  obtain⟨p,e,h⟩:=h
  exact⟨p,e,s _ _ h⟩
 | .nt t,v,h=>by
  obtain⟨p,u,e,h,q⟩:=h
  exact⟨p,u,e,s _ _ h,Tr.At.keep s q⟩
 | .bn j a b,v,h=>by
  obtain⟨p,x,y,e,h,q,r⟩:=h
  exact⟨p,x,y,e,s _ _ h,Tr.At.keep s q,Tr.At.keep s r⟩
theorem Tr.ok.mono{m n:Nat}(h:m<=n):∀{t:Tr},t.ok m->t.ok n
 | .lt k,q=>zAJ q h
 | .nt t,q=>Tr.ok.mono (t:=t) h q
 | .bn j a b,q=>⟨q.1,Tr.ok.mono (t:=a) h q.2.1,Tr.ok.mono (t:=b) h q.2.2⟩
abbrev Pile(H:Hp):List V->List Tr->Prop:=Paired fun(v:V)(t:Tr)=>t.At H v
theorem Pile.keep{H H':Hp}(s:TS H H'):∀{xs:List V}{ts:List Tr},Pile H xs ts->Pile H' xs ts
 | _,_,.nil=>.nil
 | _,_,.cons r q=>.cons (Tr.At.keep s r) (Pile.keep s q)
theorem Pile.len{H:Hp}:∀{xs:List V}{ts:List Tr},Pile H xs ts->xs.length=ts.length
 | _,_,.nil=>rfl
 | _,_,.cons _ q=>congrArg (· + 1) (Pile.len q)
theorem Pile.snoc{H:Hp}{y:V}{t:Tr}(h:t.At H y):∀{xs:List V}{ts:List Tr},Pile H xs ts->Pile H (xs++[y]) (ts++[t])
 | _,_,.nil=>.cons h .nil
 | _,_,.cons r q=>.cons r (Pile.snoc h q)
theorem Pile.last{H:Hp}:∀{xs:List V}{ts:List Tr},Pile H xs ts->0<ts.length->∃gK y dO t,xs=gK++[y]/\ts=dO++[t]/\Pile H gK dO/\Tr.At H t y
 | _,_,.nil,h=>absurd h (zBY _)
 | _,_,.cons (a:=v) (b:=t) r .nil,_=>⟨[],v,[],t,rfl,rfl,.nil,r⟩
 | _,_,.cons (a:=v) (b:=t) r (.cons r' q'),_=>by
  obtain⟨gK,y,dO,u,e1,e2,q,a⟩:=Pile.last (Paired.cons r' q') (zBM _)
  exact⟨v::gK,y,t::dO,u,by rw[e1];rfl,by rw[e2];rfl,.cons r q,a⟩
def sz(ts:List Tr):Nat:=(ts.map Tr.size).sum
theorem BM(ts:List Tr)(t:Tr):sz (ts++[t])=sz ts+t.size:=by
 unfold sz
 rw[zAM,zC6]
 simp
theorem Fl(xs:List V)(y:V):(xs++[y])[(xs++[y]).length-1]? = some y:=by
 simp
theorem K5(h:n<=1000):n<=sizeLine:=zBQ (AG h)
theorem Ig:2<=sizeLine:=by decide
theorem K9:3<=sizeLine:=by decide
theorem Tn:4<=sizeLine:=by decide
theorem Vc:5<=sizeLine:=by decide
theorem Jq:1<=sizeLine:=by decide
theorem J1:0<=sizeLine:=by decide
def Dx:List V:=[.str "and",.str "or",.str "if",.str "same"]
theorem KS(h0:0<=i)(h1:i<4):HZ Dx i=some (.str (jn i.toNat)):=by
 obtain⟨n,rfl⟩:=zBH h0
 have hn:n<4:=by omega
 rw[zB9]
 refine Aj ?_
 match n,hn with
 | 0,_=>rfl
 | 1,_=>rfl
 | 2,_=>rfl
 | 3,_=>rfl
end HT2
namespace L2
open PySem PySem.Spec PyProof.Rows
abbrev Ew:Value->Shared->Prop:=fun _ _=>False
theorem MU{α:Type}{t:Sem α}{Q:α->Shared->Prop}(h:wpAny M A t Q Ew s):wpAny M A t Q E s:=wpAny_mono h (fun _ _ q=>q) fun _ _ z=>False.elim z
def EY(J:It)(g:TG)(tb:TS)(D:Ck)(σ:St)(H:Hp):Prop:=∃W:Nat->Nat->St->Hp->Prop,(∃m,W 0 m σ H)/\∀i m σ H,W i m σ H->
 (J.stop i H/\D.nx σ H)\/(J.go i H/\∃N:St->Hp->Prop,(∀σ' H',N σ' H'->∃m',m'<m/\W (i+1) m' σ' H')/\∀x H',J.yld i H x H'->g x σ H' fun σ2 H2=>tb { D with nx:=N,ct:=N,bk:=D.nx } σ2 H2)
abbrev Qw:=(Shared->Prop)->Shared->Prop
structure PB(X:Cx)(WB:Qw)(tb:TS):Prop where
 mono:∀(Qa Qb:Shared->Prop)(s:Shared),(∀s,Qa s->Qb s)->WB Qa s->WB Qb s
 run:∀(pins:List (Addr×Obj))(s:Shared)(σ:St)(H:Hp)(D:Ck),Inv X pins σ H s->tb D σ H->WB (fun s'=>∃σ' H',Inv X pins σ' H' s'/\D.nx σ' H') s
def HT(X:Cx)(e:Expr)(d:Nat)(it acc:Value)(tg:Expr)(WB:Qw):Prop:=∀(s:Shared)(Qd Qa:Shared->Prop),
 wpAny (model X.prog X.w) X.A (pyNext it) (fun r s1=>match r with | none=>Qd s1 | some v=>wpAny (model X.prog X.w) X.A (letOwnedTupleGo tg it v) (fun _ s2=>wpAny (model X.prog X.w) X.A (assign tg X.env v) (fun _ s3=>WB Qa s3) Ew s2) Ew s1) Ew s->
 wpAny (model X.prog X.w) X.A (compTurn e d it acc X.env) (fun aF s'=>match aF with | .done f=>f= .next/\Qd s' | .again c'=>c'= .compLoop e d it acc X.env/\Qa s') Ew s
section
variable {X:Cx}{e tg:Expr}{d:Nat}{acc:Value}{it:Addr}{WB:Qw}{tb:TS}{g:TG}{J:It}{fp:List Addr}{tn:Nat->Heap->Prop}{D:Ck}{pins:List (Addr×Obj)}{σ:St}{H:Hp}{s:Shared}
theorem BS(aI:X.xe=Ew)(hc:X.calm=true)(ht:HT X e d (.ref it) acc tg WB)(bB:(Code.compLoop e d (.ref it) acc X.env).isFrame=false)(hun:X.A.under (.compLoop e d (.ref it) acc X.env)=X.A)(hqu:(Code.compLoop e d (.ref it) acc X.env).quiet=true)(T:LR X.prog X.w X.K tg J fp it tn)(hg:PG X tg g)(hb:PB X WB tb)(I:Inv X pins σ H s)(st:tn 0 s.heap)(f2:∀b∈fp,B3 X pins H b)(h:EY J g tb D σ H):
  codeAny (model X.prog X.w) X.A (.compLoop e d (.ref it) acc X.env) (fun r s'=>r= .ok .next/\∃σ' H',Inv X pins σ' H' s'/\D.nx σ' H') s:=by
 obtain⟨W,⟨m0,w0⟩,gE⟩:=h
 have eB:∀{H':Hp},(∀b∈fp,H' b=none)->∀b∈fp,B3 X pins H' b:=fun hn b hb=>⟨hn b hb,(f2 b hb).2⟩
 refine codeAny_loop hqu (fun n s'=>∃i σ' H',Inv X pins σ' H' s'/\tn i s'.heap/\(∀b∈fp,H' b=none)/\W i n σ' H') (fun n s3 hI=>?_) m0 ⟨0,σ,H,I,st,fun b hb=>(f2 b hb).1,w0⟩
 obtain⟨i,σ3,H3,I3,gF,fr3,w3⟩:=hI
 have hden:(model X.prog X.w).den (.compLoop e d (.ref it) acc X.env)=(compTurn e d (.ref it) acc X.env).onRaise (fun x=>do noteFrame x X.env;theTreesLotGoes x):=by
  show (if (Code.compLoop e d (.ref it) acc X.env).isFrame=true then _ else _)=_
  rw[bB]
  rfl
 rw[hun,hden]
 refine wpAny_noted (MU ?_)
 rcases gE i n σ3 H3 w3 with⟨stop,qn⟩|⟨go,N,hN,step⟩
 ·refine wpAny_mono (ht s3 (fun s'=>∃σ' H',Inv X pins σ' H' s'/\D.nx σ' H') (fun _=>False) (AX (T.done X rfl rfl rfl hc i pins s3 σ3 H3 Ew I3 (eB fr3) gF stop) fun r s4 ⟨hr,I4⟩=>?_)) (fun aF s' q=>?_) fun _ _ z=>z
  ·subst hr
   exact⟨σ3,H3,I4,qn⟩
  ·cases aF with
   | done f=>
    obtain⟨rfl,q⟩:=q
    exact⟨rfl,q⟩
   | again c'=>exact False.elim q.2
 ·refine wpAny_mono (ht s3 (fun _=>False) (fun s'=>∃m,m<n/\∃i σ' H',Inv X pins σ' H' s'/\tn i s'.heap/\(∀b∈fp,H' b=none)/\W i m σ' H') (AX (T.item X rfl rfl rfl hc i pins s3 σ3 H3 Ew I3 (eB fr3) gF go) fun r s4 ⟨u,hr,h4⟩=>?_)) (fun aF s' q=>?_) fun _ _ z=>z
  ·subst hr
   refine AX h4 fun _ s5 ⟨x,H5,I5,r5,y5,st5,fr5⟩=>?_
   have I5':=I5.pinned (eB fr5) (T.obj _ _ st5)
   have hgx:=hg _ s5 σ3 H5 x u _ I5' r5 (step x H5 y5)
   rw[aI] at hgx
   refine AX hgx fun _ s6 ⟨σ6,H6,I6,q6⟩=>?_
   have again:∀{s7:Shared},(∃σ7 H7,Inv X (pins++HF fp s5.heap) σ7 H7 s7/\N σ7 H7)->∃m,m<n/\∃i σ' H',Inv X pins σ' H' s7/\tn i s7.heap/\(∀b∈fp,H' b=none)/\W i m σ' H':=fun {s7} ⟨σ7,H7,I7,n7⟩=>by
    obtain⟨m',hm,w7⟩:=hN σ7 H7 n7
    refine⟨m',hm,i+1,σ7,H7,I7.unpinned,T.keep _ _ _ st5 fun b hb o e=>(I7.pin (b,o) (zAY _ (zAY _ (DF hb e)))).1,fun b hb=>?_,w7⟩
    obtain⟨o,e,d⟩:=T.obj _ _ st5 b hb
    exact (I7.pin (b,o) (zAY _ (zAY _ (DF hb e)))).2.1
   exact hb.mono _ _ s6 (fun s7 q7=>again q7) (hb.run _ s6 σ6 H6 _ I6 q6)
  ·cases aF with
   | done f=>exact False.elim q.2
   | again c'=>exact q
def Hl(aj:List Expr)(env:Env):Sem Bool:=forIn aj true fun c r=>if r=true then do let ok <-isTrue c env (eval c env);pure (ForInStep.yield ok) else pure (ForInStep.yield r)
def MP(X:Cx)(aj:List Expr)(t:TT):Prop:=
 ∀(pins:List (Addr×Obj))(s:Shared)(σ:St)(H:Hp)(Q:Bool->Hp->Prop),Inv X pins σ H s->t σ H Q->wpAny (model X.prog X.w) X.A (Hl aj X.env) (TP X pins σ Q) X.xe s
def NH:TT:=fun _ H Q=>Q true H
theorem Bx:MP X [] NH:=fun pins s σ H Q I h=>wpAny_tests_nil ⟨H,I,h⟩
theorem BW(h:PT X c tc):MP X [c] tc:=fun pins s σ H Q I q=>wpAny_tests_one (h pins s σ H Q I q)
def DW(X:Cx)(aj:List Expr)(ao:Expr)(acc:Value):Qw:=fun Qa s=>wpAny (model X.prog X.w) X.A (Hl aj X.env) (fun ok s1=>if ok=true then wpAny (model X.prog X.w) X.A (eval ao X.env) (fun x s2=>wpAny (model X.prog X.w) X.A (call (.builtin "list.append") [acc,x]) (fun _ s3=>Qa s3) Ew s2) Ew s1 else Qa s1) Ew s
def Cg(acc:Addr)(te:TE):TS:=fun D σ H=>te σ H fun x H1=>∃xs,H1 acc=some (.lst xs)/\xs.length<sizeLine/\D.nx σ (upd H1 acc (.lst (xs++[x])))
def DO(tc:TT)(tb:TS):TS:=fun D σ H=>tc σ H fun b H1=>if b=true then tb D σ H1 else D.nx σ H1
theorem Fa{aj:List Expr}{ao:Expr}{ac:Addr}{tc:TT}{te:TE}(aI:X.xe=Ew)(hi:MP X aj tc)(he:PE X ao te):PB X (DW X aj ao (.ref ac)) (DO tc (Cg ac te)) where
 mono:=fun Qa Qb s hq h=>AX h fun ok s1 h1=>by
  cases ok with
  | false=>exact hq _ h1
  | true=>exact AX h1 fun x s2 h2=>AX h2 fun _ s3 h3=>hq _ h3
 run:=fun pins s σ H D I h=>by
  have h1:=hi pins s σ H _ I h
  rw[aI] at h1
  refine AX h1 fun ok s1 ⟨H1,I1,q1⟩=>?_
  cases ok with
  | false=>exact⟨σ,H1,I1,q1⟩
  | true=>
   have q1':Cg ac te D σ H1:=q1
   have h2:=he pins s1 σ H1 _ I1 q1'
   rw[aI] at h2
   refine AX h2 fun u s2 ⟨x,H2,I2,r2,xs,hl,hz,q2⟩=>?_
   have h3:=A4 (X:=X) pins s2 σ H2 (.ref ac) [x] (.ref ac) [u] (fun _ H'=>D.nx σ H') I2 rfl (.cons r2 .nil) ⟨ac,xs,x,rfl,rfl,hl,hz,q2⟩
   rw[aI] at h3
   exact AX h3 fun _ s3 ⟨_,H3,I3,_,q3⟩=>⟨σ,H3,I3,q3⟩
theorem Jc:HT X (.ListComp ao [⟨tg,ae,aj,0⟩] scope pos) 0 bA acc tg (DW X aj ao acc):=by
 intro s Qd Qa h
 rw[compTurn_list]
 refine wpAny_bind (wpAny_standAt (wpAny_bind (AX h fun r s₁ h₁=>?_)))
 cases r with
 | none=>exact wpAny_pure ⟨rfl,h₁⟩
 | some v=>
  refine wpAny_bind (AX h₁ fun _ s2 h2=>wpAny_bind (AX h2 fun _ s3 h3=>wpAny_bind (AX h3 fun ok s4 h4=>?_)))
  cases ok with
  | false=>exact wpAny_pure ⟨rfl,h4⟩
  | true=>exact wpAny_bind (wpAny_bind (AX h4 fun x s₄ h₄=>wpAny_bind (AX h₄ fun _ s₅ h₅=>wpAny_pure (wpAny_pure ⟨rfl,h₅⟩))))
theorem Kj(ao iE bu tg ae:Expr)(cJ aj:List Expr)(scope:Scope)(pos:Pos)(it acc:Value)(env:Env):
  compTurn (.ListComp ao [⟨iE,bu,cJ,0⟩,⟨tg,ae,aj,0⟩] scope pos) 1 it acc env=(do
   standAt ae.pos
   match <-pyNext it with
   | none=>pure (.done .next)
   | some v=>
    letOwnedTupleGo tg it v
    assign tg env v
    let mut ok:=true
    for c in aj do
     if ok then ok <-isTrue c env (eval c env)
    if ok then
     (do let _ <-call (.builtin "list.append") [acc,<-eval ao env])
    again (.compLoop (.ListComp ao [⟨iE,bu,cJ,0⟩,⟨tg,ae,aj,0⟩] scope pos) 1 it acc env)):=by rfl
theorem TZ:HT X (.ListComp ao [⟨iE,bu,cJ,0⟩,⟨tg,ae,aj,0⟩] scope pos) 1 bA acc tg (DW X aj ao acc):=by
 intro s Qd Qa h
 rw[Kj]
 refine wpAny_bind (wpAny_standAt (wpAny_bind (AX h fun r s₁ h₁=>?_)))
 cases r with
 | none=>exact wpAny_pure ⟨rfl,h₁⟩
 | some v=>
  refine wpAny_bind (AX h₁ fun _ s2 h2=>wpAny_bind (AX h2 fun _ s3 h3=>wpAny_bind (AX h3 fun ok s4 h4=>?_)))
  cases ok with
  | false=>exact wpAny_pure ⟨rfl,h4⟩
  | true=>exact wpAny_bind (wpAny_bind (AX h4 fun x s₄ h₄=>wpAny_bind (AX h₄ fun _ s₅ h₅=>wpAny_pure (wpAny_pure ⟨rfl,h₅⟩))))
theorem JL(ao tg ae aY af:Expr)(aj ay:List Expr)(scope:Scope)(pos:Pos)(it acc:Value)(env:Env):
  compTurn (.ListComp ao [⟨tg,ae,aj,0⟩,⟨aY,af,ay,0⟩] scope pos) 0 it acc env=(do
   standAt ae.pos
   match <-pyNext it with
   | none=>pure (.done .next)
   | some v=>
    letOwnedTupleGo tg it v
    assign tg env v
    let mut ok:=true
    for c in aj do
     if ok then ok <-isTrue c env (eval c env)
    if ok then
     let x <-eval af env
     standAt af.pos
     let x <-foldedSetIterable af env x
     let _ <-runOwn (.compStart (.ListComp ao [⟨tg,ae,aj,0⟩,⟨aY,af,ay,0⟩] scope pos) 1 (<-holding [x] (pyIter x)) acc env) env
    again (.compLoop (.ListComp ao [⟨tg,ae,aj,0⟩,⟨aY,af,ay,0⟩] scope pos) 0 it acc env)):=by rfl
def IU(X:Cx)(aj:List Expr)(e af:Expr)(acc:Value):Qw:=fun Qa s=>wpAny (model X.prog X.w) X.A (Hl aj X.env) (fun ok s1=>if ok=true then
 wpAny (model X.prog X.w) X.A (eval af X.env) (fun x s2=>wpAny (model X.prog X.w) X.A (pyIter x) (fun it s3=>codeAny (model X.prog X.w) X.A (.compStart e 1 it acc X.env) (fun r s4=>r= .ok .next/\Qa s4) s3) Ew s2) Ew s1 else Qa s1) Ew s
theorem SY(hs:∀x,foldedSetIterable af X.env x=pure x):
  HT X (.ListComp ao [⟨tg,ae,aj,0⟩,⟨aY,af,ay,0⟩] scope pos) 0 bA acc tg (IU X aj (.ListComp ao [⟨tg,ae,aj,0⟩,⟨aY,af,ay,0⟩] scope pos) af acc):=by
 intro s Qd Qa h
 rw[JL]
 refine wpAny_bind (wpAny_standAt (wpAny_bind (AX h fun r s₁ h₁=>?_)))
 cases r with
 | none=>exact wpAny_pure ⟨rfl,h₁⟩
 | some v=>
  refine wpAny_bind (AX h₁ fun _ s2 h2=>wpAny_bind (AX h2 fun _ s3 h3=>wpAny_bind (AX h3 fun ok s4 h4=>?_)))
  cases ok with
  | false=>exact wpAny_pure ⟨rfl,h4⟩
  | true=>
   refine wpAny_bind (AX h4 fun x s₄ h₄=>wpAny_bind (wpAny_standAt (wpAny_bind (wpAny_of_eq (hs x) (wpAny_bind (wpAny_holding (AX h₄ fun it s₅ h₅=>?_)))))))
   refine wpAny_bind (wpAny_runOwn (codeAny_mono h₅ fun r s₆ h₆=>?_))
   obtain⟨rfl,h₆⟩:=h₆
   exact wpAny_pure ⟨rfl,h₆⟩
theorem BF(bE:((clausesOf e)[d]?).elim false (·.is_async != 0)=false)(bB:(Code.compStart e d bA acc X.env).isFrame=false)(hun:X.A.under (.compStart e d bA acc X.env)=X.A)(hqu:∀it',(Code.compLoop e d it' acc X.env).quiet=true)(hposR:True)(h0:codeAny (model X.prog X.w) X.A (.compLoop e d bA acc X.env) R s)(h:wpAny (model X.prog X.w) X.A (pyIter bA) (fun it' s'=>codeAny (model X.prog X.w) X.A (.compLoop e d it' acc X.env) R s') Ew s):
  codeAny (model X.prog X.w) X.A (.compStart e d bA acc X.env) R s:=by
 refine codeAny_of_tree ?_
 have hden:(model X.prog X.w).den (.compStart e d bA acc X.env)=(compStart e d bA acc X.env).onRaise (fun x=>do noteFrame x X.env;standAt theWindowsPlace):=by
  show (if (Code.compStart e d bA acc X.env).isFrame=true then _ else _)=_
  rw[bB]
  rfl
 rw[hun,hden]
 refine wpAny_notedAt (MU ?_)
 unfold compStart
 rw[bE]
 show wpAny _ _ (ask >>= _) _ _ s
 refine wpAny_bind (wpAny_askSetting (wpAny_ite ?_))
 split
 ·first
   | exact wpAny_bind (wpAny_pure (wpAny_pure (And.intro (hqu _) h0)))
   | exact wpAny_pure (And.intro (hqu _) h0)
 ·refine wpAny_bind (wpAny_rule ?_)
  cases hg:(clausesOf e)[d]? with
  | none=>exact wpAny_bind (AX h fun it' s' h'=>wpAny_pure (And.intro (hqu _) h'))
  | some g'=>exact wpAny_bind (wpAny_standAt (wpAny_bind (AX h fun it' s' h'=>wpAny_pure (And.intro (hqu _) h'))))
theorem SJ{ao ae aY af:Expr}{aj ay:List Expr}{scope:Scope}{pos:Pos}{ac:Addr}{tc:TT}{eF:TI}{g1:TG}{tb1:TS}(aI:X.xe=Ew)(hc:X.calm=true)(hi:MP X aj tc)(hI:PI X aY af eF)(gL:PG X aY g1)(bh:PB X (DW X ay ao (.ref ac)) tb1):
  PB X (IU X aj (.ListComp ao [⟨tg,ae,aj,0⟩,⟨aY,af,ay,0⟩] scope pos) af (.ref ac)) (DO tc (LD eF g1 tb1)) where
 mono:=fun Qa Qb s hq h=>AX h fun ok s1 h1=>by
  cases ok with
  | false=>exact hq _ h1
  | true=>exact AX h1 fun x s2 h2=>AX h2 fun it s3 h3=>codeAny_mono h3 fun r s4 h4=>⟨h4.1,hq _ h4.2⟩
 run:=fun pins s σ H D I h=>by
  have h1:=hi pins s σ H _ I h
  rw[aI] at h1
  refine AX h1 fun ok s1 ⟨H1,I1,q1⟩=>?_
  cases ok with
  | false=>exact⟨σ,H1,I1,q1⟩
  | true=>
   have q1':LD eF g1 tb1 D σ H1:=q1
   have h2:=hI pins s1 σ H1 _ I1 q1'
   rw[aI] at h2
   refine AX h2 fun u s2 h3=>AX h3 fun bA s3 h4=>?_
   obtain⟨it,fp,tn,J,H3,e,I3,T,gF,f3,hR⟩:=h4
   subst e
   have aP:=BS (e:=.ListComp ao [⟨tg,ae,aj,0⟩,⟨aY,af,ay,0⟩] scope pos) (d:=1) (D:=D) aI hc TZ rfl rfl rfl T gL bh I3 gF f3 hR
   exact BF (X:=X) rfl rfl rfl (fun _=>rfl) True.intro aP (T.self _ 0 s3 _ _ gF aP)
end
structure CC where
 s:Shared
 H:Hp
 fp:List Addr
def Cx.cmp(X:Cx)(N:List Str)(scope:Scope)(cl:List (Str×Addr))(c:CC):Cx:=
 { X with N:=N,s₀:=c.s,H₀:=c.H,env:=compEnvC scope cl c.s.heap.objs.size X.env,outer:=X.stack,ex:=c.fp,fn:=fun _=>false,pn:=[] }
def sub(js:List (Option Nat))(σ:St):St:=js.map fun o=>o.bind fun j=>(σ[j]?).join
def Fu(X:Cx)(N:List Str)(scope:Scope)(js:List (Option Nat)):Prop:=
 ∀(i:Nat)(x:Str)(j:Nat),N[i]? = some x->js[i]? = some (some j)->X.N[j]? = some x/\X.env.kindOf x=some .cell/\(relabel scope X.env).names.lookup x=some .cell
section
variable {X:Cx}{N:List Str}{scope:Scope}{cl:List (Str×Addr)}{js:List (Option Nat)}{pins:List (Addr×Obj)}{σ:St}{H:Hp}{s:Shared}{fp:List Addr}
theorem Inv.cmp(I:Inv X pins σ H s)(hf:∀b∈fp,B3 X pins H b)(jd:∀b∈fp,b<s.heap.objs.size)(hk:scope.kind= .function)(bE:∀p∈cl,X.env.cells.lookup p.1=some p.2)(hcn:∀x,((relabel scope X.env).names.lookup x=some .cell\/(relabel scope X.env).names.lookup x=some .free)->∃c,cl.lookup x=some c)(gI:Fu X N scope js)(hl:js.length=N.length)(hns:h'.Ns s.heap.objs.size (fun _=>none))(bF:Heap.SameBut s.heap.objs.size (s.heap.push ob) h'):
  Inv (X.cmp N scope cl ⟨s,H,fp⟩) [] (sub js σ) H { s with heap:=h',toks:=t' }:=by
 have aL:∀x c,cl.lookup x=some c->X.env.cells.lookup x=some c:=fun x c e=>bE (x,c) (zA5 e)
 have bv:∀b o,s.heap.get? b=some o->h'.get? b=some o:=fun b o e=>(bF.2 b (zAE (zAB e))).trans (Heap.get?_push_of_some _ e)
 refine⟨⟨I.ok.mod,?_,I.ok.glob,I.ok.blt,zAA _,fun x y c h1 h2=>I.ok.inj x y c (aL x c h1) (aL y c h2),fun x hx=>hcn x hx,fun x c h=>?_,I.ok.hd,I.ok.frames,.inl rfl,fun b hb=>⟨zAE (jd b hb),fun x c e=>(hf b hb).2.2.2.2.1 x c (aL x c e)⟩,
   I.bs,zAH I.ok.bsz I.sz,fun b o e hb=>?_,fun b hb hs=>?_,I.stack,I.stkFree⟩,rfl,I.bare,Un.kept bv,⟨_,hns,fun i x v e1 e2 e3=>?_⟩,fun x c e=>?_,I.hok.fresh (zAA _),fun x c e=>I.freeC x c (aL x c e),fun p hp=>?_,I.hok.kept bv,?_⟩
 ·show (relabel scope X.env).kind= .function
  exact hk
 ·exact absurd (show false=true from h) zAC
 ·rcases (hf b hb).2.2.2.1 with z | z
  ·exact I.ok.noex b o e z
  ·exact absurd (zAJ (zAB (I.ok.bs b o e).1) z) (zBY _)
 ·rcases List.mem_cons.mp (I.stkSub b hs) with z | z
  ·exact (hf b hb).2.1 z
  ·exact (hf b hb).2.2.1 z
 ·have cp:(sub js σ)[i]? = some (some v):=e2
  unfold sub at cp
  rw[List.getElem?_map] at cp
  cases ej:js[i]? with
  | none=>rw[ej] at cp;cases cp
  | some o=>
   rw[ej] at cp
   cases o with
   | none=>cases cp
   | some j=>
    obtain⟨a1,a2,a3⟩:=gI i x j e1 ej
    have e4:(σ[j]?).join=some v:=zAP cp
    have e5:σ[j]? = some (some v):=by
     cases q:σ[j]? with
     | none=>rw[q] at e4;cases e4
     | some o=>
      rw[q] at e4
      have:o=some v:=e4
      rw[this]
    obtain⟨m,hn,hloc⟩:=I.loc
    obtain⟨u,r,l⟩:=hloc j x v a1 e5 (.inr (.inl a2))
    refine⟨u,r,.inr ⟨.inl a3,?_⟩⟩
    obtain⟨c,hc⟩:=hcn x (.inl a3)
    refine⟨c,hc,?_⟩
    rcases l with⟨k,_⟩|⟨_,c',hc',aT⟩
    ·rw[k] at a2;cases a2
    ·have:c'=c:=by
      have:=aL x c hc
      rw[hc'] at this
      exact zAP this
     subst this
     obtain⟨o,ho,hd⟩:=aT
     exact⟨o,bv _ _ ho,hd⟩
 ·obtain⟨v,o,ho,hd⟩:=I.cell x c (aL x c e)
  exact⟨v,o,bv _ _ ho,hd⟩
 ·exact absurd (show p∈([]:List (Addr×Obj)) from hp) (by simp)
 ·unfold sub
  rw[List.length_map]
  exact hl
theorem Inv.uncmp(I:Inv X pins σ H s)(hf:∀b∈fp,B3 X pins H b)(J:Inv (X.cmp N scope cl ⟨s,H,fp⟩) [] σ' H' s')(bF:Heap.SameBut s.heap.objs.size s'.heap dU):
  Inv X pins σ H' { s' with heap:=dU }:=by
 have u:Un (Ib X.stack) fp H H' s.heap s'.heap:=J.base
 have ne:∀b o,s.heap.get? b=some o->b≠s.heap.objs.size:=fun b o e=>zAE (zAB e)
 have bD:H' s.heap.objs.size=none:=J.free
 refine I.call' (ch:=fp) (s':={ s' with heap:=dU }) J.os ⟨fun b o e n hb hx=>(bF.2 b (ne b o e)).trans (u.keep b o e n hb hx),fun b o e n hb hx=>?_,u.free,fun b o e hx=>?_,u.tups,u.frzs,u.tbls⟩ (fun b ob e=>?_) J.bare fun b hb=>⟨(hf b hb).2.2.2.1,(hf b hb).2.1,(hf b hb).2.2.2.2.1,(hf b hb).2.2.2.2.2⟩
 ·obtain⟨sl,e1⟩:=u.slot b o e n hb hx
  exact⟨sl,(bF.2 b (ne b o e)).trans e1⟩
 ·obtain⟨o',e1⟩:=u.there b o e hx
  exact⟨o',(bF.2 b (ne b o e)).trans e1⟩
 ·refine (J.hok b ob e).stay (fun c w' hc q=>(bF.2 c ?_).trans q) (fun _ q=>q) fun _ _ q=>q
  rintro rfl
  rcases hc with z | z
  ·rw[<-z,bD] at e;cases e
  ·rw[bD] at z;cases z
end
def EX(wi:TI)(js:List (Option Nat))(g:CC->TG)(tb:CC->Addr->TS):TE:=fun σ H Q=>wi σ H fun J H1=>∀(c:CC)(acc:Addr),H1 acc=none->
 EY J (g c) (tb c acc) { nx:=fun _ H'=>Q (.ref acc) H',rt:=fun _ _=>False } (sub js σ) (upd H1 acc (.lst []))
section
variable {X:Cx}{N:List Str}{scope:Scope}{cl:List (Str×Addr)}{js:List (Option Nat)}{ao tg ae:Expr}{aj:List Expr}{rest:List Comprehension}{pos:Pos}{wi:TI}{g:CC->TG}{tb:CC->Addr->TS}
theorem KM{WB:CC->Value->Qw}(aI:X.xe=Ew)(hc:X.calm=true)(hi:PI X tg ae wi)(hs:∀x,foldedSetIterable ae X.env x=pure x)(da:closureFor scope X.env=pure cl)(hk:scope.kind= .function)(bQ:∀x∈scope.names,x.2= .local->scope.names.lookup x.1=some .local)(aT:∀x∈scope.names,x.2≠.cell)(bE:∀p∈cl,X.env.cells.lookup p.1=some p.2)(hcn:∀x,((relabel scope X.env).names.lookup x=some .cell\/(relabel scope X.env).names.lookup x=some .free)->∃c,cl.lookup x=some c)(gI:Fu X N scope js)(hl:js.length=N.length)(ht:∀c it ac,HT (X.cmp N scope cl c) (.ListComp ao (⟨tg,ae,aj,0⟩::rest) scope pos) 0 it ac tg (WB c ac))(hg:∀c,PG (X.cmp N scope cl c) tg (g c))(hb:∀c ac,PB (X.cmp N scope cl c) (WB c (.ref ac)) (tb c ac)):
  PE X (.ListComp ao (⟨tg,ae,aj,0⟩::rest) scope pos) (EX wi js g tb):=by
 intro pins s σ H Q I h
 rw[eval_ListComp]
 have h0:=hi pins s σ H _ I h
 refine wpAny_comprehension_free (use:=none) (cl:=cl) rfl hs da hk bQ (AX h0 fun v s1 h1=>AX h1 fun bA s2 h2=>?_)
 obtain⟨it,fp,tn,J,H2,e,I2,T,cH,f2,hR⟩:=h2
 subst e
 refine wpAny_newObj_type (wpAny_newFunctionEnv aT (by intro y hy;simp at hy) (fun h₁ db bR=>?_) hk)
 dsimp only at db bR ⊢
 have I3:=I2.lnew (ys:=[]) (its:=[]) (t':=s2.toks) .nil (zA9 _)
 have dc:∀b∈fp,b<s2.heap.objs.size:=fun b hb=>by
  obtain⟨o,e,_⟩:=T.obj 0 _ cH b hb
  exact zAB e
 have iF:∀b∈fp,b≠s2.heap.objs.size:=fun b hb=>zAE (dc b hb)
 have f3:∀b∈fp,B3 X pins (upd H2 s2.heap.objs.size (.lst [])) b:=fun b hb=>⟨by rw[Ax (iF b hb)];exact (f2 b hb).1,(f2 b hb).2⟩
 have iG:=hR ⟨{ s2 with heap:=s2.heap.push { cls:=.type "list",data:=.seq ([]:List Value).toArray } },upd H2 s2.heap.objs.size (.lst []),fp⟩ s2.heap.objs.size I2.fresh
 have I4:=I3.cmp (N:=N) (cl:=cl) (js:=js) (t':=s2.toks) f3 (fun b hb=>by
  show b<(s2.heap.push _).objs.size
  rw[zAU]
  exact zA4 (dc b hb)) hk bE hcn gI hl db bR
 have eZ:tn 0 h₁:=T.keep 0 _ _ cH fun b hb o e=>(bR.2 b (by
  rw[zAU]
  exact zAE (zA4 (dc b hb)))).trans (Heap.get?_push_of_some _ (Heap.get?_push_of_some _ e))
 have f4:∀b∈fp,B3 (X.cmp N scope cl ⟨{ s2 with heap:=s2.heap.push { cls:=.type "list",data:=.seq ([]:List Value).toArray } },upd H2 s2.heap.objs.size (.lst []),fp⟩) [] (upd H2 s2.heap.objs.size (.lst [])) b:=fun b hb=>
  ⟨(f3 b hb).1,(I4.ok.exf b hb).1,I4.ok.exfs b hb,.inl hb,(I4.ok.exf b hb).2,fun p hp=>absurd (show p∈([]:List (Addr×Obj)) from hp) (by simp)⟩
 have aP:=codeAny_mono (BS (X:=X.cmp N scope cl ⟨{ s2 with heap:=s2.heap.push { cls:=.type "list",data:=.seq ([]:List Value).toArray } },upd H2 s2.heap.objs.size (.lst []),fp⟩) (e:=.ListComp ao (⟨tg,ae,aj,0⟩::rest) scope pos) (d:=0) (acc:=.ref s2.heap.objs.size) (pins:=[]) aI hc (ht _ _ _) rfl rfl rfl T (hg _) (hb _ _) I4 eZ f4 iG) (R':=compPost (model X.prog X.w) X.A X.xe none (EP X pins σ Q) (.ref s2.heap.objs.size) (s2.heap.push { cls:=.type "list",data:=.seq ([]:List Value).toArray }).objs.size) (fun r s' hq=>by
  obtain⟨rfl,σ',H',J',q⟩:=hq
  obtain⟨m,hn,_⟩:=id J'.loc
  exact⟨m,hn,fun dU gM=>⟨.ref s2.heap.objs.size,H',I3.uncmp f3 J' gM,rfl,q⟩⟩)
 exact BF (X:=X.cmp N scope cl ⟨{ s2 with heap:=s2.heap.push { cls:=.type "list",data:=.seq ([]:List Value).toArray } },upd H2 s2.heap.objs.size (.lst []),fp⟩) rfl rfl rfl (fun _=>rfl) True.intro aP (T.self _ 0 _ _ _ eZ aP)
end
structure CompOk(X:Cx)(N:List Str)(scope:Scope)(cl:List (Str×Addr))(js:List (Option Nat)):Prop where
 clos:closureFor scope X.env=pure cl
 kind:scope.kind= .function
 loc:(scope.names.all fun x=>(x.2 != .local || scope.names.lookup x.1 == some .local) && x.2 != .cell)=true
 ccl:∀p∈cl,X.env.cells.lookup p.1=some p.2
 cn:((relabel scope X.env).names.all fun p=>!(p.2 == .cell || p.2 == .free) || (cl.lookup p.1).isSome)=true
 sh:((N.zip js).all fun p=>match p.2 with | none=>true | some j=>X.N[j]? == some p.1 && X.env.kindOf p.1 == some .cell && (relabel scope X.env).names.lookup p.1 == some .cell)=true
 len:js.length=N.length
section
variable {X:Cx}{N:List Str}{scope:Scope}{cl:List (Str×Addr)}{js:List (Option Nat)}
theorem CompOk.names(h:CompOk X N scope cl js):∀x∈scope.names,x.2= .local->scope.names.lookup x.1=some .local:=fun x hx e=>by
 have q:=(List.all_eq_true.mp h.loc) x hx
 rw[zAN] at q
 rw[e] at q
 simpa using q.1
theorem CompOk.cell(h:CompOk X N scope cl js):∀x∈scope.names,x.2≠.cell:=fun x hx e=>by
 have q:=(List.all_eq_true.mp h.loc) x hx
 rw[zAN,e] at q
 exact absurd q.2 (by decide)
theorem CompOk.hcn(h:CompOk X N scope cl js):∀x,((relabel scope X.env).names.lookup x=some .cell\/(relabel scope X.env).names.lookup x=some .free)->∃c,cl.lookup x=some c:=fun x hx=>by
 rcases hx with e | e
 ·have q:=(List.all_eq_true.mp h.cn) _ (zA5 e)
  exact Option.isSome_iff_exists.mp (by simpa using q)
 ·have q:=(List.all_eq_true.mp h.cn) _ (zA5 e)
  exact Option.isSome_iff_exists.mp (by simpa using q)
theorem CompOk.shr(h:CompOk X N scope cl js):Fu X N scope js:=fun i x j e1 e2=>by
 have hm:(x,some j)∈N.zip js:=by
  have:(N.zip js)[i]? = some (x,some j):=by rw[List.getElem?_zip_eq_some];exact⟨e1,e2⟩
  exact zAQ this
 have q:=(List.all_eq_true.mp h.sh) _ hm
 simp only[zAN] at q
 exact⟨eq_of_beq q.1.1,eq_of_beq q.1.2,eq_of_beq q.2⟩
variable {ao tg ae aY af:Expr}{aj ay:List Expr}{pos:Pos}{wi:TI}{eF:CC->TI}{g g1:CC->TG}{tc tc1:CC->TT}{te:CC->TE}
theorem Bi(h:CompOk X N scope cl js)(hi:PI X tg ae wi)(hg:∀c,PG (X.cmp N scope cl c) tg (g c))(gN:∀c,MP (X.cmp N scope cl c) aj (tc c))(he:∀c,PE (X.cmp N scope cl c) ao (te c))(aI:X.xe=Ew:=by rfl)(hc:X.calm=true:=by rfl)(hs:∀x,foldedSetIterable ae X.env x=pure x:=by intro _;rfl):
  PE X (.ListComp ao [⟨tg,ae,aj,0⟩] scope pos) (EX wi js g fun c ac=>DO (tc c) (Cg ac (te c))):=
 KM (WB:=fun c ac=>DW (X.cmp N scope cl c) aj ao ac) aI hc hi hs h.clos h.kind h.names h.cell h.ccl h.hcn h.shr h.len (fun c it ac=>Jc) hg fun c ac=>Fa aI (gN c) (he c)
theorem Qm(h:CompOk X N scope cl js)(hi:PI X tg ae wi)(hg:∀c,PG (X.cmp N scope cl c) tg (g c))(gN:∀c,MP (X.cmp N scope cl c) aj (tc c))(hi1:∀c,PI (X.cmp N scope cl c) aY af (eF c))(gL:∀c,PG (X.cmp N scope cl c) aY (g1 c))(hif1:∀c,MP (X.cmp N scope cl c) ay (tc1 c))(he:∀c,PE (X.cmp N scope cl c) ao (te c))(hs1:∀c x,foldedSetIterable af (X.cmp N scope cl c).env x=pure x:=by intro _ _;rfl)(aI:X.xe=Ew:=by rfl)(hc:X.calm=true:=by rfl)(hs:∀x,foldedSetIterable ae X.env x=pure x:=by intro _;rfl):
  PE X (.ListComp ao [⟨tg,ae,aj,0⟩,⟨aY,af,ay,0⟩] scope pos) (EX wi js g fun c ac=>DO (tc c) (LD (eF c) (g1 c) (DO (tc1 c) (Cg ac (te c))))):=
 KM (WB:=fun c ac=>IU (X.cmp N scope cl c) aj (.ListComp ao [⟨tg,ae,aj,0⟩,⟨aY,af,ay,0⟩] scope pos) af ac) aI hc hi hs h.clos h.kind h.names h.cell h.ccl h.hcn h.shr h.len (fun c it ac=>SY (hs1 c)) hg
  fun c ac=>SJ aI hc (gN c) (hi1 c) (gL c) (Fa aI (hif1 c) (he c))
end
end L2
namespace L2
open PySem PySem.Spec PyProof.Rows
section
variable {X:Cx}{pins:List (Addr×Obj)}{σ:St}{H:Hp}{s:Shared}{fp:List Addr}{h':Heap}
theorem Inv.turnedL(I:Inv X pins σ H s)(hf:∀b∈fp,B3 X pins H b)(k:∀b o,b∉fp->s.heap.get? b=some o->h'.get? b=some o):Inv X pins σ H { s with heap:=h',toks:=t' }:=by
 have nfp:∀b u,H b=some u->b∉fp:=fun b u e z=>by rw[(hf b z).1] at e;cases e
 refine I.call' (ch:=fp) (s':={ s with heap:=h',toks:=t' }) rfl ⟨fun b o e _ _ hx=>k b o hx e,fun b o e _ _ hx=>⟨o.slots,k b o hx e⟩,fun _ _ _ n _=>n,fun b o e hx=>⟨o,k b o hx e⟩,fun _ _ q=>q,fun _ _ _ q=>q,fun _ ps q=>⟨#[],by rw[q];simp⟩⟩ (fun b u e=>?_) I.bare
  fun b hb=>⟨(hf b hb).2.2.2.1,(hf b hb).2.1,(hf b hb).2.2.2.2.1,(hf b hb).2.2.2.2.2⟩
 refine (I.hok b u e).stay (fun c v hc q=>k c v ?_ q) (fun _ q=>q) fun _ _ q=>q
 rcases hc with z | z
 ·rw[z];exact nfp b u e
 ·exact nfp c _ z
theorem Inv.turnedT(I:Inv X pins σ H s)(hf:∀b∈fp,B3 X pins H b)(k:∀b o,b∉fp->s.heap.get? b=some o->h'.get? b=some o)(hT:s.heap.objs.size<=T)(hz:xs.length<=sizeLine)(rv:Vals xs its)(ht:IsTup h' T its.toArray):Inv X pins σ (upd H T (.tup xs)) { s with heap:=h',toks:=t' }:=by
 have nfp:∀b u,H b=some u->b∉fp:=fun b u e z=>by rw[(hf b z).1] at e;cases e
 have hn:H T=none:=I.hok.fresh hT
 refine I.call' (ch:=fp) (s':={ s with heap:=h',toks:=t' }) rfl ⟨fun b o e _ _ hx=>k b o hx e,fun b o e _ _ hx=>⟨o.slots,k b o hx e⟩,fun b o e n _=>?_,fun b o e hx=>⟨o,k b o hx e⟩,fun b q e=>?_,fun b o u e=>?_,fun b ps e=>⟨#[],?_⟩⟩ (fun b u e=>?_) I.bare
  fun b hb=>⟨(hf b hb).2.2.2.1,(hf b hb).2.1,(hf b hb).2.2.2.2.1,(hf b hb).2.2.2.2.2⟩
 ·rw[Ax (zAE (zAJ (zAB e) hT))];exact n
 ·rw[Ax (An e hn)];exact e
 ·rw[Ax (An e hn)];exact e
 ·rw[Ax (An e hn),e];simp
 ·by_cases hb:b=T
  ·subst hb
   rw[upd_same] at e
   cases e
   exact⟨hz,its,rv,ht⟩
  ·rw[Ax hb] at e
   refine (I.hok b u e).stay (fun c v hc q=>k c v ?_ q) (fun c q=>?_) fun c xs q=>?_
   ·rcases hc with z | z
    ·rw[z];exact nfp b u e
    ·exact nfp c _ z
   ·rw[Ax (An q hn)];exact q
   ·rw[Ax (An q hn)];exact q
end
section
variable {X:Cx}{tg:Expr}
end
end L2
namespace L2
open PySem PySem.Spec PyProof.Rows
section
variable {X:Cx}
end
end L2
namespace L2
open PySem PySem.Spec PyProof.Rows
def Th(a:Addr):It:=
 ⟨fun i H=>∃xs x,H a=some (.lst xs)/\xs[i]? = some x,fun i H x H'=>∃T y,H T=none/\(∀xs,H a=some (.lst xs)->xs[i]? = some y)/\x= .ref T/\H'=upd H T (.tup [.int (i:Nat),y]),fun i H=>∃xs,H a=some (.lst xs)/\xs.length=i⟩
theorem FA(Pv:Nat->St->Hp->Prop)(h0:Pv 0 σ H)(hl:∀i σ H,i<=xs.length->Pv i σ H->H a=some (.lst xs))(hs:∀i y T σ H,xs[i]? = some y->H T=none->Pv i σ H->g (.ref T) σ (upd H T (.tup [.int (i:Nat),y])) fun σ2 H2=>tb { D with nx:=Pv (i+1),ct:=Pv (i+1),bk:=D.nx } σ2 H2)(hd:∀σ H,Pv xs.length σ H->D.nx σ H):EY (Th a) g tb D σ H:=by
 refine⟨fun i m σ H=>m=xs.length-i/\i<=xs.length/\Pv i σ H,⟨xs.length,by simp,zA9 _,h0⟩,?_⟩
 rintro i m σ H ⟨rfl,hi,p⟩
 have q:=hl i σ H hi p
 by_cases aO:i<xs.length
 ·refine .inr ⟨⟨xs,xs[i],q,by simp[aO]⟩,Pv (i+1),fun σ' H' p'=>⟨xs.length-(i+1),by omega,rfl,aO,p'⟩,fun x H' y=>?_⟩
  obtain⟨T,y,hT,hy,e1,e2⟩:=y
  subst e1 e2
  exact hs i y T σ _ (hy xs q) hT p
 ·have e:i=xs.length:=by omega
  subst e
  exact .inl ⟨⟨xs,q,rfl⟩,hd σ H p⟩
theorem LJ{P:Program}{w:World}{K:PySem.W.Frag}{iH:List Expr}{k:Nat}{tp:Pos}(a e it:Addr)(hei:e≠it):
  LR P w K (.Tuple iH k tp) (Th a) [e,it] e (fun i h=>(∃fu,IsEnum h e it i fu)/\h.IsListIter it a i) where
 mem:=by simp
 obj:=fun i h st b hb=>by
  obtain⟨⟨fu,he⟩,o,ho,c,d⟩:=st
  rcases List.mem_cons.mp hb with q | q
  ·subst q
   exact⟨_,he,fun v z=>by
    have z':Data.fields _=Data.cell v:=z
    cases z'⟩
  ·have q':b=it:=by simpa using q
   subst q'
   exact⟨o,ho,fun v z=>by rw[d] at z;cases z⟩
 keep:=fun i h h' st k=>by
  obtain⟨⟨fu,he⟩,hi⟩:=st
  exact⟨⟨fu,k e (by simp) _ he⟩,hi.at fun o e=>k it (by simp) o e⟩
 item:=by
  intro X hP hw hK hc i pins s σ H E I hf st hg
  subst hP hw hK
  obtain⟨xs,x,hq,hx⟩:=hg
  obtain⟨its,rv,p,hz⟩:=I.list (SqL.of hq)
  obtain⟨u,hu,ru⟩:=rv.get hx
  have ag:=rv.length
  have hi:i<xs.length:=(List.getElem?_eq_some_iff.mp hx).1
  have nai:a≠it:=An hq (hf it (by simp)).1
  have nae:a≠e:=An hq (hf e (by simp)).1
  have D:=Draws.list (prog:=X.prog) (w:=X.w) (A:=X.A.in1) (I.ok.hd hc) it a nai its.toArray
  have WT:=WalksT.enumerateD (A:=X.A) D e hei (by simp[hei,nae.symm]) (by simp)
  refine WT.item i s _ _ (by simp;omega) ⟨st.1,st.2,p.isList⟩ fun T iB h1 tk hv hT htup hmid kk=>?_
  obtain⟨t',x2,hx2,rfl⟩:=hv
  have hx2':its[i]? = some x2:=by simpa using hx2
  have ex:x2=u:=by rw[hu] at hx2';exact (zAP hx2').symm
  subst ex
  have I1:Inv X pins σ (upd H T (.tup [.int (i:Nat),x])) { s with heap:=h1,toks:=tk }:=I.turnedT (its:=[.int i t',x2]) hf kk hT (by show 2<=sizeLine;decide) (.cons ⟨_,rfl⟩ (.cons ru .nil)) htup
  have nT:∀b∈[e,it],b≠T:=fun b hb z=>by
   subst z
   exact WT.apart _ _ _ hmid hb
  have hf1:∀b∈[e,it],B3 X pins (upd H T (.tup [.int (i:Nat),x])) b:=fun b hb=>⟨by rw[Ax (nT b hb)];exact (hf b hb).1,(hf b hb).2⟩
  refine⟨_,rfl,WT.go iH k tp i T _ _ _ hmid fun h2 cH kk2=>?_⟩
  refine⟨.ref T,_,I1.turnedL (t':=tk) hf1 kk2,rfl,⟨T,x,I.hok.fresh hT,fun zs hzs=>?_,rfl,rfl⟩,⟨cH.1,cH.2.1⟩,fun b hb=>(hf1 b hb).1⟩
  rw[hq] at hzs
  cases hzs
  exact hx
 done:=by
  intro X hP hw hK hc i pins s σ H E I hf st hg
  subst hP hw hK
  obtain⟨xs,hq,rfl⟩:=hg
  obtain⟨its,rv,p,hz⟩:=I.list (SqL.of hq)
  have ag:=rv.length
  have nai:a≠it:=An hq (hf it (by simp)).1
  have nae:a≠e:=An hq (hf e (by simp)).1
  have D:=Draws.list (prog:=X.prog) (w:=X.w) (A:=X.A.in1) (I.ok.hd hc) it a nai its.toArray
  have WT:=WalksT.enumerateD (A:=X.A) D e hei (by simp[hei,nae.symm]) (by simp)
  refine WT.done s _ _ ?_ fun h' tk kk=>⟨rfl,I.turnedL hf kk⟩
  have e1:its.toArray.size=xs.length:=by simp;omega
  rw[e1]
  exact⟨st.1,st.2,p.isList⟩
 self:=fun A i s Q E st h=>by
  obtain⟨⟨fu,he⟩,_⟩:=st
  exact wpAny_pyIter_enum he h
section
variable {X:Cx}{tg:Expr}
def Tm(ta:TA):TI:=fun σ H R=>ta σ H fun vs H1=>∃a xs,vs=[.ref a]/\H1 a=some (.lst xs)/\R (Th a) H1
theorem Ie(hg:Gl X "enumerate")(hm:X.mg "enumerate"=none)(ha:PA X [a] ta)(hs:starEach [a] X.env=[(false,eval a X.env)]:=by rfl):PI X (.Tuple iH k tp) (.Call (.Name "enumerate" p) [a] [] pos) (Tm ta):=by
 intro pins s σ H R I h
 refine Call_ (Cr I hg hm boot_enumerate (zBD (AX (ha pos pins s σ H _ I h) fun us s1 ⟨vs,H1,I1,r1,q1⟩=>?_) hs rfl))
 obtain⟨l,xs,e,hq,q⟩:=q1
 subst e
 cases r1 with
 | cons r rr=>
  cases rr
  cases r
  obtain⟨its,rv,pl,hz⟩:=I1.list (SqL.of hq)
  refine call_enumerate_list pl.isList fun h' he e8 aw hk=>wpAny_pyIter_enum he ?_
  have I2:Inv X pins σ H1 { s1 with heap:=h' }:=I1.kept (t':=s1.toks) hk
  have fp2:∀b∈[s1.heap.objs.size+1,s1.heap.objs.size],B3 X pins H1 b:=fun b hb=>by
   have hle:s1.heap.objs.size<=b:=by
    rcases List.mem_cons.mp hb with q | q
    ·omega
    ·have:b=s1.heap.objs.size:=by simpa using q
     omega
   exact I1.fpOk hle (I1.hok.fresh hle)
  exact⟨_,_,_,_,H1,rfl,I2,LJ l (s1.heap.objs.size+1) s1.heap.objs.size (Nat.succ_ne_self _),⟨⟨_,he⟩,e8⟩,fp2,q⟩
end
end L2
namespace L2
open PySem PySem.Spec PyProof.Rows
structure Stp(fr ch:List Addr)(h h':Heap):Prop where
 keep:∀b o,b∉fr->b∉ch->h.get? b=some o->h'.get? b=some o
 slot:∀b o,b∉ch->h.get? b=some o->∃sl,h'.get? b=some { o with slots:=sl }
theorem Stp.more(x:Stp fr ch h h')(m:∀b∈ch,b∈ch'):Stp fr ch' h h':=
 ⟨fun b o hb hc=>x.keep b o hb fun z=>hc (m b z),fun b o hc=>x.slot b o fun z=>hc (m b z)⟩
theorem Stp.trans(x:Stp fr ch h h1)(y:Stp fr ch h1 h2):Stp fr ch h h2:=
 ⟨fun b o hb hc e=>y.keep b o hb hc (x.keep b o hb hc e),fun b o hc e=>let ⟨_,e1⟩:=x.slot b o hc e;let ⟨sl,e2⟩:=y.slot b _ hc e1;⟨sl,e2⟩⟩
theorem Stp.hok(x:Stp fr ch h h')(ok:HOk P w H h)(hf:∀b∈fr,H b=none)(hc:∀b∈ch,H b=none):HOk P w H h':=fun b u e=>by
 have nf:∀c v,H c=some v->c∉fr/\c∉ch:=fun c v q=>⟨(fun z=>nomatch (hf c z).symm.trans q),(fun z=>nomatch (hc c z).symm.trans q)⟩
 refine (ok b u e).stay (fun c v hb q=>?_) (fun _ q=>q) fun _ _ q=>q
 rcases hb with z | z
 ·subst z;exact x.keep c v (nf c u e).1 (nf c u e).2 q
 ·exact x.keep c v (nf c _ z).1 (nf c _ z).2 q
def RU(h:Heap)(e:Addr)(cls:Value)(dx:Option Addr)(T:Addr)(fl:Value):Prop:=
 ∃vs sl oT ts,h.get? e=some ⟨cls,dx,.fields vs,sl⟩/\vs[1]? = some (.ref T)/\T≠e/\h.get? T=some oT/\oT.data= .fields ts/\ts[3]? = some fl/\vs[2]? = some .none
section
variable {M:Model}{A:Around}{E:Value->Shared->Prop}{s:Shared}{base:Heap}{env:Env}{outer:List Env}{L e:Addr}{cls:Value}{dx:Option Addr}{vs:Array Value}{sl:Array (Option Value)}{Q:Unit->Shared->Prop}
theorem KK(bB:A.frames=some (env::outer))(hl:s.heap.FunFrames base (env::outer))(hf:env.frame=some L)(he:s.heap.get? e=some ⟨cls,dx,.fields vs,sl⟩)(aw:1<vs.size)(hv2:vs[2]? = some .none)(k:∀h' T,s.heap.objs.size<=T->Stp (Ib (env::outer)) [e] s.heap h'->RU h' e cls dx T (rawInt L)->Q () { s with heap:=h' }):
  wpAny M A (do let a <-frameOf env;let pl <-entryPlaceOf L iI;let b <-EntryCells.newEntry head a .none (rawInt L) .none pl;setField (.ref e) 1 b) Q E s:=by
 have nfr:e∉Ib (env::outer):=fun z=>by
  obtain⟨_,o,ho,nd⟩:=hl.mem z
  rw[he] at ho;cases ho
  exact nd vs rfl
 refine wpAny_bind (wpAny_frameOf_fun bB hl hf fun h1 so=>wpAny_bind (wpAny_entryPlaceOf fun pl ar=>?_))
 obtain⟨_,so1,so2⟩:=so
 unfold EntryCells.newEntry newFields
 refine wpAny_bind (wpAny_newObj_type ?_ (ar.sizeOk5 _ _ _ _ _))
 have e1:h1.get? e=some ⟨cls,dx,.fields vs,sl⟩:=(so1 e nfr).trans he
 have e2:=Heap.get?_push_of_some (h:=h1) { cls:=.type "traceback",dict:=none,data:=.fields ([head,.ref L,.none,rawInt L,.none]++(if pl.isEmpty then List.replicate 6 Value.none else pl)).toArray } e1
 refine wpAny_setField e2 rfl aw (k _ h1.objs.size (by omega) ?_ ?_)
 ·have other:∀b o,b∉[e]->h1.get? b=some o->∀(ob:Obj)(f:Obj->Obj),((h1.push ob).update e f).get? b=some o:=fun b o hb q ob f=>
   (Heap.get?_update_other _ _ (zA7 (List.ne_of_not_mem_cons hb))).trans (Heap.get?_push_of_some _ q)
  refine⟨fun b o hb hc q=>other b o hc ((so1 b hb).trans q) _ _,fun b o hc q=>?_⟩
  obtain⟨sl',z⟩:=so2 b o q
  exact⟨sl',other b _ hc z _ _⟩
 ·have ne:h1.objs.size≠e:=zBR (zAB e1)
  refine⟨_,sl,_,_,Heap.get?_update_self _ e2 rfl,?_,ne,(Heap.get?_update_other _ _ (zA7 ne)).trans (Heap.get?_push_size h1 rfl),rfl,?_,?_⟩
  ·simp[aw]
  ·rcases ar with rfl | ⟨_,_,_,_,_,_,_,rfl⟩<;>simp
  ·rw[Array.getElem?_setIfInBounds_ne (by decide)];exact hv2
theorem Ps(bB:A.frames=some (env::outer))(hl:s.heap.FunFrames base (env::outer))(hf:env.frame=some L)(he:s.heap.get? e=some ⟨cls,dx,.fields vs,sl⟩)(h1:vs[1]? = some .none)(hv2:vs[2]? = some .none)(k:∀h' T,s.heap.objs.size<=T->Stp (Ib (env::outer)) [e] s.heap h'->RU h' e cls dx T (rawInt L)->Q () { s with heap:=h' }):wpAny M A (noteFrame (.ref e) env) Q E s:=by
 unfold noteFrame
 simp only[hf]
 refine wpAny_bind (wpAny_field he rfl h1 ?_)
 rw[if_neg (by decide)]
 exact KK bB hl hf he (Array.getElem?_eq_some_iff.mp h1).1 hv2 k
theorem Ml(hF:RU s.heap e cls dx T fl):Stp [] [T] s.heap (s.heap.update T (Obj.mapFields (·.setIfInBounds 3 fl')))/\RU (s.heap.update T (Obj.mapFields (·.setIfInBounds 3 fl'))) e cls dx T fl':=by
 obtain⟨ws,sl,oT,ts,he,h1,ne,hT,hd,h3,hv2⟩:=hF
 have other:∀b o,b∉[T]->s.heap.get? b=some o->(s.heap.update T (Obj.mapFields (·.setIfInBounds 3 fl'))).get? b=some o:=fun b o hb q=>(Heap.get?_update_other _ _ (zA7 (List.ne_of_not_mem_cons hb))).trans q
 refine⟨⟨fun b o _ hc q=>other b o hc q,fun b o hc q=>⟨_,other b o hc q⟩⟩,ws,sl,_,_,other e _ (by simpa using zA7 ne) he,h1,ne,Heap.get?_update_self _ hT (zB0 (zBI hd _)),zBI hd _,?_,hv2⟩
 simp[(Array.getElem?_eq_some_iff.mp h3).1]
theorem RG(bB:A.frames=some (env::outer))(hl:s.heap.FunFrames base (env::outer))(hf:env.frame=some L)(hF:RU s.heap e cls dx T .none)(k:∀h' T',s.heap.objs.size<=T'->Stp (Ib (env::outer)) [e,T] s.heap h'->RU h' e cls dx T' (rawInt L)->Q () { s with heap:=h' }):wpAny M A (noteFrame (.ref e) env) Q E s:=by
 obtain⟨S,F2⟩:=Ml (fl':=.none) hF
 obtain⟨ws,sl,oT,ts,he,h1,ne,hT,hd,h3,hv2⟩:=hF
 unfold noteFrame
 simp only[hf]
 refine wpAny_bind (wpAny_field he rfl h1 ?_)
 rw[if_pos (show (Value.ref T != Value.none)=true by simp)]
 refine wpAny_bind (wpAny_field hT hd h3 ?_)
 rw[if_neg (show ¬((Value.none == rawInt L)=true) by simp[rawInt])]
 refine wpAny_bind (wpAny_setField hT hd (Array.getElem?_eq_some_iff.mp h3).1 ?_)
 obtain⟨ws',sl',_,_,iJ,h1',_,_,_,_,hv2'⟩:=F2
 refine KK bB (hl.of_keeps fun b o q nd=>?_) hf iJ (Array.getElem?_eq_some_iff.mp h1').1 hv2' fun h' T' hle S' F'=>k h' T' (by simpa using hle) ?_ F'
 ·obtain⟨iK,z⟩:=S.slot b o (fun z=>by
   have z':b=T:=by simpa using z
   subst z'
   rw[hT] at q;cases q
   exact nd ts hd) q
  exact⟨_,z,rfl⟩
 ·refine Stp.trans (h1:=s.heap.update T (Obj.mapFields (·.setIfInBounds 3 Value.none))) ⟨fun b o _ hc q=>S.keep b o (by simp) (fun z=>hc (List.mem_cons_of_mem _ z)) q,fun b o hc q=>S.slot b o (fun z=>hc (List.mem_cons_of_mem _ z)) q⟩ (S'.more fun b hb=>?_)
  rw[List.mem_singleton.mp hb]
  exact List.mem_cons_self
theorem Uo(hF:RU s.heap e cls dx T fl)(k:∀h',Stp [] [T] s.heap h'->RU h' e cls dx T .none->Q () { s with heap:=h' }):wpAny M A (setFlight (.ref e) none) Q E s:=by
 obtain⟨S,F2⟩:=Ml (fl':=.none) hF
 obtain⟨ws,sl,oT,ts,he,h1,ne,hT,hd,h3,hv2⟩:=hF
 unfold setFlight
 refine wpAny_bind (wpAny_field he rfl h1 ?_)
 rw[if_pos (show (Value.ref T != Value.none)=true by simp)]
 exact wpAny_setField hT hd (Array.getElem?_eq_some_iff.mp h3).1 (k _ S F2)
end
end L2
namespace L2
open PySem PySem.Spec PyProof.Rows
def Ia:List Value:=[.type "ValueError",.type "Exception",.type "BaseException",.type "object"]
structure Sx(K:PySem.W.Frag)(C cT:Addr)(ini:Option Addr):Prop where
 cls:∃nm q N bs fv sn sub ab iL dd k0 k1 k2 k3 k5,K.lookup C=some (excClassObj nm q C N bs (.ref cT::Ia) fv sn sub ab iL dd k0 k1 k2 k3 k5 "ValueError.__new__")/\PySem.W.nsOkIn K N=true/\
  PySem.W.nsIn K N "__init__"=some (ini.map Value.ref)
 tail:PySem.W.tailIn K Ia (.ref cT::Ia)=true
 kp:PySem.W.keepIn K (.ref C)=true
theorem MR{K:PySem.W.Frag}(l:K.lookup N=some ⟨oc,od,.dict es ep,sl⟩)(s:(es.all fun e=>match e.key with | .str _ _=>true | _=>false)=true):PySem.W.nsOkIn K N=true:=by
 unfold PySem.W.nsOkIn
 rw[l]
 exact s
theorem QG{K:PySem.W.Frag}(l:K.lookup cT=some ⟨c0,d0,.cls cd,sl⟩)(o:PySem.W.nsOkIn K cd.ns=true)(n:PySem.W.nsIn K cd.ns "__init__"=some none):
  PySem.W.tailIn K Ia (.ref cT::Ia)=true:=by
 have t0:PySem.W.tailIn K Ia Ia=true:=by
  unfold PySem.W.tailIn Ia
  simp
 unfold PySem.W.tailIn
 refine Bool.or_eq_true_iff.mpr (.inr ?_)
 simp only[l,o,n,t0]
 rfl
section
variable {prog:Program}{w:World}{A:Around}{E:Value->Shared->Prop}{h:Heap}{g:Array GenState}{d:Drawn}{t:Nat}{os:OsState}
variable {nm q:Str}{C N:Addr}{bs bm:List Value}{fv:Bool}{sn:List Str}{sub:List Value}{ab:Bool}{iL:Option Bool}{dd:Option Addr}{k0 k1 k2 k3 k5:Option Value}
abbrev Mz(C t:Addr)(dx:Option Addr):Obj:=⟨.ref C,dx,.fields #[.ref t,.none,.none,.none,.bool false,.none],#[]⟩
end
end L2
namespace L2
open PySem PySem.Spec PyProof.Rows
structure XAt(K:PySem.W.Frag)(C cT:Addr):Prop where
 cd:∃cd,PySem.W.clsIn K C=some cd/\cd.mro= .ref C::.ref cT::Ia/\cd.hasDict=true
 sa:PySem.W.findIn K (.ref C) "__setattr__"=some (some (.builtin "object.__setattr__"))
 ga:PySem.W.findIn K (.ref C) "__getattribute__"=some (some (.builtin "BaseException.__getattribute__"))
 gn:PySem.W.findIn K (.ref C) "__getattr__"=some none
 ca:PySem.W.findIn K (.ref C) "__class__"=some (some (.builtin "object.__class__"))
 cg:PySem.W.specialIn K (.builtin "object.__class__") "__get__"=some (some (.builtin "getset_descriptor.__get__"))
 ct:PySem.W.takesIn K (.builtin "object.__class__")=some true
section
variable {prog:Program}{w:World}{A:Around}{E:Value->Shared->Prop}{s:Shared}{K:PySem.W.Frag}{C cT x t:Addr}{f:Str}{u:Value}
theorem XAt.sub(a:XAt K C cT)(X:K.In h)(b:Value)(e:(Value.ref C::.ref cT::Ia).contains b=r):PySem.W.Looks M h (isSubtype (.ref C) b) r:=by
 obtain⟨cd,h1,h2,_⟩:=a.cd
 refine PySem.W.looks_mroIn X ?_
 unfold PySem.W.mroIn
 rw[h1,Option.bind_some,h2,if_neg (by simp),e]
end
end L2
namespace L2
open PySem PySem.Spec PyProof.Rows
open Builtin Builtin.ObjectAttr
section
variable {prog:Program}{w:World}{A:Around}{E:Value->Shared->Prop}{s:Shared}{K:PySem.W.Frag}{C cT x:Addr}{ox:Obj}{od:Option Obj}{name:Str}{tk:Tok}{fill expr:Bool}{v:Value}
end
end L2
namespace L2
open PySem PySem.Spec PyProof.Rows
def Gd(P:Program)(w:World):Mi:=fun outer H s E e s'=>∃(a T:Addr)(cls:Value)(dx:Option Addr)(H':Hp),e= .ref a/\s'.os=s.os/\AllBare s'.gens/\Un (Ib outer) [] H H' s.heap s'.heap/\HOk P w H' s'.heap/\
 RU s'.heap a cls dx T .none/\H' a=none/\H' T=none/\s.heap.objs.size<=a/\s.heap.objs.size<=T/\E cls dx H'
theorem Un.stp(u:Un fs [] H0 H h0 h)(S:Stp fr ch h h')(bB:∀b∈fr,b∈fs\/h0.objs.size<=b)(gq:∀b∈ch,h0.objs.size<=b):Un fs [] H0 H h0 h':=by
 have nc:∀b o,h0.get? b=some o->b∉ch:=fun b o e z=>absurd (zAB e) (Nat.not_lt.mpr (gq b z))
 refine⟨fun b o e n hb hx=>S.keep b o (fun z=>?_) (nc b o e) (u.keep b o e n hb hx),fun b o e n hb hx=>?_,u.free,fun b o e hx=>?_,u.tups,u.frzs,u.tbls⟩
 ·rcases bB b z with q | q
  ·exact hb q
  ·exact absurd (zAB e) (Nat.not_lt.mpr q)
 ·obtain⟨sl,e1⟩:=u.slot b o e n hb hx
  obtain⟨iK,e2⟩:=S.slot b _ (nc b o e) e1
  exact⟨iK,e2⟩
 ·obtain⟨o1,e1⟩:=u.there b o e hx
  obtain⟨iK,e2⟩:=S.slot b _ (nc b o e) e1
  exact⟨_,e2⟩
section
variable {P:Program}{w:World}{K:PySem.W.Frag}{mg:Str->Option Value}{base:Heap}{N:List Str}{ap:Str}{scope:Scope}{f:Addr}{ai:Value}{A:Around}{outer:List Env}{s:Shared}{H:Hp}{E:XK}
def TU(X:Cx)(E:XK):Prop:=∀(pins:List (Addr×Obj))(σ:St)(H':Hp)(s':Shared)(a:Addr)(cls:Value)(dx:Option Addr)(vs:Array Value)(sl:Array (Option Value)),Inv X pins σ H' s'->H' a=none->
 s'.heap.get? a=some ⟨cls,dx,.fields vs,sl⟩->(vs[1]? = some .none/\vs[2]? = some .none)->X.s₀.heap.objs.size<=a->E cls dx H'->X.xe (.ref a) s'
theorem D6:TU (JG (Gd P w) P w K mg base N ap scope f ai A outer s H E) E:=by
 intro pins σ H' s' a cls dx vs sl I ha he h1 aw q
 have bB:=I.ok.frames
 have hl:=I.stack
 have lt:s.heap.objs.size<=s'.heap.objs.size:=I.sz
 have fr2:∀b∈Ib (envOfC ap scope s.heap.objs.size f ai::outer),b∈Ib outer\/s.heap.objs.size<=b:=fun b hb=>by
  rcases List.mem_cons.mp (I.stkSub b hb) with z | z
  ·exact .inr (by rw[z];exact I.ok.above)
  ·exact .inl z
 show wpAny _ _ (leaving _ _) _ _ _
 unfold leaving
 refine wpAny_bind (Ps bB hl rfl he h1.1 h1.2 fun h2 T hT S F=>Uo F fun h3 S3 F3=>?_)
 have u2:=Un.stp I.base S fr2 (fun b hb=>by rw[List.mem_singleton.mp hb];exact aw)
 have u3:=Un.stp u2 S3 (fun b hb=>absurd hb (by simp)) (fun b hb=>by rw[List.mem_singleton.mp hb];exact zAH lt hT)
 have hTn:H' T=none:=I.hok.fresh hT
 refine⟨a,T,cls,dx,H',rfl,I.os,I.bare,u3,?_,F3,ha,hTn,aw,zAH lt hT,q⟩
 exact S3.hok (S.hok I.hok I.stkFree fun b hb=>by rw[List.mem_singleton.mp hb];exact ha) (fun b hb=>absurd hb (by simp)) fun b hb=>by rw[List.mem_singleton.mp hb];exact hTn
theorem BN(le:∀cls dx H',E1 cls dx H'->E cls dx H'):Ds (Gd P w) (JG (Gd P w) P w K mg base N ap scope f ai A outer s H E) E1:=by
 intro pins σ H1 s1 e s' I h
 obtain⟨a,T,cls,dx,H',rfl,os,bare,un,hok,F,ha,hT,la,lT,q⟩:=h
 have I2:=I.call' os un hok bare (fun b z=>absurd z (by simp))
 have lt:s.heap.objs.size<=s1.heap.objs.size:=I.sz
 have fr2:∀b∈Ib (envOfC ap scope s.heap.objs.size f ai::outer),b∈Ib outer\/s.heap.objs.size<=b:=fun b hb=>by
  rcases List.mem_cons.mp (I2.stkSub b hb) with z | z
  ·exact .inr (by rw[z];exact I2.ok.above)
  ·exact .inl z
 show wpAny _ _ (leaving _ _) _ _ _
 unfold leaving
 refine wpAny_bind (RG I2.ok.frames I2.stack rfl F fun h2 T2 je S F2=>Uo F2 fun h3 S3 F3=>?_)
 have l2:s.heap.objs.size<=T2:=zAH I2.sz je
 have two:∀b∈[a,T],s.heap.objs.size<=b/\H' b=none:=fun b hb=>by
  rcases List.mem_cons.mp hb with z | z
  ·rw[z];exact⟨zAH lt la,ha⟩
  ·rw[List.mem_singleton.mp z];exact⟨zAH lt lT,hT⟩
 have u2:=Un.stp I2.base S fr2 (fun b hb=>(two b hb).1)
 have u3:=Un.stp u2 S3 (fun b hb=>absurd hb (by simp)) (fun b hb=>by rw[List.mem_singleton.mp hb];exact l2)
 have hTn:H' T2=none:=I2.hok.fresh je
 refine⟨a,T2,cls,dx,H',rfl,I2.os,I2.bare,u3,?_,F3,ha,hTn,zAH lt la,l2,le _ _ _ q⟩
 exact S3.hok (S.hok I2.hok I2.stkFree fun b hb=>(two b hb).2) (fun b hb=>absurd hb (by simp)) fun b hb=>by rw[List.mem_singleton.mp hb];exact hTn
end
end L2
namespace L2
open PySem PySem.Spec PyProof.Rows
section
variable {X:Cx}{k:Nat}{fI C cT:Addr}{fd:FuncData}{ps:List Str}{sp:Sp}{Ex:XK}{x:Str}{p pos aK:Pos}{e:Expr}{es:List Expr}{t:TA}
theorem LM{K:PySem.W.Frag}(a:XAt K C cT)(ty:PySem.W.typeIn K (.ref C)=some (.type "type"))(hh:A.handled=none)(h:wpAny M A xs (fun v s1=>∃b tp dx,v= .ref b/\K.In s1.heap/\s1.heap.get? b=some (Mz C tp dx)/\E (.ref b) s1) E s):wpAny M A (raiseStmt env (some xs) none) Q E s:=by
 unfold raiseStmt
 refine wpAny_bind (wpAny_mono h (fun v s1 h1=>?_) fun _ _ z=>z)
 obtain⟨b,tp,dx,rfl,KX,hb,q⟩:=h1
 have bh:s1.heap.get? b=some ⟨.ref C,dx,.fields #[.ref tp,.none,.none,.none,.bool false,.none],#[]⟩:=hb
 have T0:PySem.W.Looks M s1.heap (typeOf (.ref b)) (.ref C):=(PySem.W.Looks.ld bh).andThen .now
 have T1:PySem.W.Looks M s1.heap (isType (.ref b)) false:=by
  unfold isType loadHead
  exact (PySem.W.Looks.ld bh).andThen .now
 have T2:PySem.W.Looks M s1.heap (isExcClass (.ref b)) false:=by
  unfold isExcClass
  exact T1.andThen .now
 have T3:PySem.W.Looks M s1.heap (isInstance (.ref b) (.type "BaseException")) true:=T0.andThen (a.sub KX _ rfl)
 have T4:PySem.W.Looks M s1.heap (excFromValue (.ref b) "exceptions must derive from BaseException") (.ref b):=by
  unfold excFromValue
  exact T2.andThen (T3.andThen .now)
 have T5:PySem.W.Looks M s1.heap (raisedInstance (.ref b)) (.ref b):=by
  unfold raisedInstance
  exact T0.andThen ((PySem.W.looks_typeIn KX ty).andThen .now)
 refine wpAny_bind (wpAny_pure (wpAny_bind (wpAny_holding (T4.here ?_))))
 refine wpAny_bind (T1.here ?_)
 refine wpAny_bind (T5.here ?_)
 refine wpAny_bind ?_
 unfold setFlight
 refine wpAny_bind (wpAny_field bh rfl (x:=.none) rfl ?_)
 rw[if_neg (by decide)]
 exact wpAny_pure (wpAny_raiseNew_none hh q)
end
end L2
namespace L2
open PySem PySem.Spec PyProof.Rows
section
variable {X:Cx}{C cT:Addr}{o value:Expr}{ta tv:TE}{f:Str}{pos ck:Pos}
end
end L2
namespace L2
open PySem PySem.Spec PyProof.Rows
section
variable {X:Cx}{pins:List (Addr×Obj)}{σ:St}{H:Hp}{s:Shared}{a:Addr}{oe:Obj}
end
end L2
namespace L2
open PySem PySem.Spec PyProof.Rows
section
variable {X:Cx}{pins:List (Addr×Obj)}{σ:St}{H:Hp}{s:Shared}
end
section
variable {X:Cx}{C Dc:Addr}{i:Nat}{x n:Str}{np fw pos:Pos}{body suite:List Stmt}{b0:Stmt}{tb:XK->TS}{th:Addr->Obj->TS}
end
end L2
namespace L2
open PySem PySem.Spec PyProof.Rows
section
variable {X:Cx}{C cT:Addr}{e:Expr}{f:Str}{pos:Pos}{ta:TE}
end
end L2
namespace L2
open PySem PySem.Spec PyProof.Rows
theorem JX{K:PySem.W.Frag}(hm:PySem.W.kitMeta T=true)(h:PySem.W.subIn K (.ref C) (.type T)=some b):PySem.W.kitOne K (.ref C) (.type T)=some b:=by
 unfold PySem.W.kitOne
 rw[if_neg (show ¬((Value.ref C == Value.type T)=true) by intro z;cases beq_iff_eq.mp z)]
 show (if PySem.W.kitMeta T=true then _ else _)=_
 rw[if_pos hm,h]
theorem B7{K:PySem.W.Frag}(ne:(Value.ref C == Value.ref D)=false)(hc:(PySem.W.clsIn K D).isSome=true)(ht:PySem.W.typeIn K (.ref D)=some (.type "type"))(h:PySem.W.subIn K (.ref C) (.ref D)=some b):PySem.W.kitOne K (.ref C) (.ref D)=some b:=by
 unfold PySem.W.kitOne
 rw[ne,if_neg zAC]
 show (if ((PySem.W.clsIn K D).isSome && PySem.W.typeIn K (.ref D) == some (.type "type"))=true then _ else _)=_
 rw[hc,ht,if_pos (by simp),h]
end L2
namespace L2
open PySem PySem.Spec PyProof.Rows
theorem Q1{K:PySem.W.Frag}(X:K.In h)(G:h.Ns N mg)(e:PySem.W.nsIn K N n=some none):mg n=none:=by
 obtain⟨o,es,ep,ho,hd,_,hf⟩:=G
 unfold PySem.W.nsIn at e
 split at e
 ·rename_i c d es2 n2 sl q
  have z:=X _ _ q
  rw[ho] at z
  cases z
  cases hd
  split at e
  ·cases e
  ·rename_i he
   rw[<-hf]
   unfold nsFind findBy
   rw[<-Array.find?_toList,he]
   rfl
 ·cases e
section
variable {prog:Program}{w:World}{A:Around}{E:Value->Shared->Prop}{h:Heap}{g:Array GenState}{d:Drawn}{t:Nat}{os:OsState}
variable {nm q:Str}{C N:Addr}{bs bm:List Value}{fv:Bool}{sn:List Str}{sub:List Value}{ab:Bool}{iL:Option Bool}{dd:Option Addr}{k0 k1 k2 k3 k5:Option Value}
theorem Lo(T:OwnTail h Ia bm)(hC:h.get? C=some (excClassObj nm q C N bs bm fv sn sub ab iL dd k0 k1 k2 k3 k5 "ValueError.__new__"))(hn:h.Ns N mN)(hi:mN "__init__"=none)(hu:us.length<=sizeLine)(k:∀h',(∀b o,h.get? b=some o->h'.get? b=some o)->h'.get? (h.objs.size+1)=some (Mz C (h.objs.size+2) none)->Q (.done (.ret (.ref (h.objs.size+1)))) ⟨h',g,d,t,os⟩):
  wpAny (model prog w) A2 (Builtin.«type.__call__» ⟨.ref C::us,[]⟩) Q E ⟨h,g,d,t,os⟩:=by
 have VF:=PySem.F.excBase_ValueError
 repeat (first | with_reducible refine wpAny_madeBy_exc hC ?_ | with_reducible refine wpAny_loadPart_at hC ?_ | wp_step)
 refine codeAny_call_builtin_code (zCR _ VF.quiet) (wpAny_check_new_subT VF T hC (codeAny_exc_new_subT VF T hC ?_ hu))
 show wpAny _ _ _ _ _ _
 have kk:∀b o,h.get? b=some o->((h.push { cls:=.type "tuple",data:=.seq us.toArray }).push { cls:=.ref C,data:=.fields #[.ref h.objs.size,.none,.none,.none,.bool false,.none] }).get? b=some o:=fun b o e=>Heap.get?_push_of_some _ (Heap.get?_push_of_some _ e)
 have hE:((h.push { cls:=.type "tuple",data:=.seq us.toArray }).push { cls:=.ref C,data:=.fields #[.ref h.objs.size,.none,.none,.none,.bool false,.none] }).get? (h.objs.size+1)=some { cls:=.ref C,data:=.fields #[.ref h.objs.size,.none,.none,.none,.bool false,.none] }:=by heap_get
 have hself:(Value.ref C::bm).contains (.ref C)=true:=by simp
 have hC2:=kk _ _ hC
 have T2:=T.keeps kk
 unfold isInstance
 repeat (first | with_reducible refine wpAny_loadPart_at hE ?_ | (with_reducible refine wpAny_isSubtype_exc hC2 ?_;rw[hself]) | wp_step)
 show wpAny _ _ (typeLookup (.ref C) _) _ _ _
 refine wpAny_typeLookup_tail hC2 (hn.keeps kk) T2 VF.mroIs VF.init.lookup ?_
 rw[hi]
 refine wpAny_holding (wpAny_bind (wpAny_of_eq (VF.init.bind _) (wpAny_bind (wpAny_call (codeAny_call_builtin VF.init.plain VF.initEntry (wpAny_check_init_subT VF T2 hC2 hE rfl ?_))))))
 wp_walk
 refine k _ (fun b o hb=>?_) ?_
 ·have lt:=zAB hb
  rw[Heap.get?_update_other _ _ (zBR (zA4 lt))]
  exact Heap.get?_push_of_some _ (kk b o hb)
 ·rw[Heap.get?_update_self _ (Heap.get?_push_of_some (h:=_) _ hE) rfl]
  simp only[zAU]
  rfl
theorem Oo(T:OwnTail h Ia bm)(hC:h.get? C=some (excClassObj nm q C N bs bm fv sn sub ab iL dd k0 k1 k2 k3 k5 "ValueError.__new__"))(hn:h.Ns N mN)(hi:mN "__init__"=none)(hu:us.length<=sizeLine)(k:∀h',(∀b o,h.get? b=some o->h'.get? b=some o)->h'.get? (h.objs.size+1)=some (Mz C (h.objs.size+2) none)->Q (.ref (h.objs.size+1)) ⟨h',g,d,t,os⟩):
  wpAny (model prog w) A (call (.ref C) us) Q E ⟨h,g,d,t,os⟩:=by
 have z1:=tc_lookup
 have z2:=tc_bind (.ref C)
 have z3:(⟨h,g,d,t,os⟩:Shared).TypeIs (.ref C) "type":=⟨_,hC,rfl⟩
 refine wpAny_call (codeAny_of_tree ?_)
 show wpAny _ _ (callAny (.ref C) ⟨us,[]⟩) _ _ _
 repeat (any_goals (first | assumption | with_reducible refine wpAny_loadPart_at hC ?_ | wp_step))
 exact⟨rfl,codeAny_call_builtin_at (zCR _ (by decide +kernel)) entry_typeCall (wpAny_check_type_call_sub hC (Lo T hC hn hi hu k))⟩
end
def RD(C:Addr)(Ex:XK)(t:TA):TS:=fun _ σ H=>t σ H fun _ H1=>Ex (.ref C) none H1
section
variable {X:Cx}{C cT:Addr}{Ex:XK}{x:Str}{p pos aK:Pos}{e:Expr}{es:List Expr}{t:TA}
theorem C0(hx:TU X Ex)(hc:X.calm=true)(M:Sx X.K C cT none)(at_:XAt X.K C cT)(ty:PySem.W.typeIn X.K (.ref C)=some (.type "type"))(hg:Gl X x)(hm:X.mg x=some (.ref C))(ha:PA X (e::es) t)(ag:(e::es).length<=1000:=by decide)(gH:(x == ("__debug__":Str))=false:=by decide)(he:starEach (e::es) X.env=(false,eval e X.env)::starEach es X.env:=by rfl)(ar:(backTo aK (starEach es X.env)).any (·.1)=false:=by rfl)(hvl:∀σ H (Q:List V->Hp->Prop),t σ H Q->t σ H (fun vs H1=>vs.length<=1000/\Q vs H1)):
  PS X (.Raise (some (.Call (.Name x p) (e::es) [] aK)) none pos) (RD C Ex t):=by
 intro pins s σ H D I h
 rw[arm_exec_Raise]
 refine wpAny_bind (wpAny_standAt (LM (K:=X.K) at_ ty (I.ok.hd hc) ?_))
 refine wpAny_bind (AX (Q:=fun v s1=>∃b tp dx,v= .ref b/\X.K.In s1.heap/\s1.heap.get? b=some (Mz C tp dx)/\X.xe (.ref b) s1) ?_ fun v s1 q=>wpAny_bind (wpAny_standAt (wpAny_pure q)))
 refine wpAny_Call_Name_kw (Jk I hg hm ?_ gH)
 refine zCP (h₀:=X.base) I.ok.mod.kin M.kp (AX (ha aK pins s σ H _ I (hvl _ _ _ h)) fun us s1 ⟨vs,H1,I1,r,hl,q⟩=>⟨I1.kIn,?_⟩) he ar
 show wpAny _ _ (call (.ref C) us) _ _ _
 obtain⟨nm,q0,N,bs,fv,sn,sub,ab,iL,dd,k0,k1,k2,k3,k5,lC,oN,iN⟩:=M.cls
 have KX:=I1.kIn
 have nsN:=Heap.Ns.of_isNs (PySem.W.isNs_of_in KX oN)
 have hul:us.length<=sizeLine:=by rw[<-r.length];exact zBQ (AG hl)
 obtain⟨hh,g,d,tk,os⟩:=s1
 refine Oo (PySem.W.tail_of_in KX M.tail) (KX _ _ lC) nsN (Q1 KX nsN iN) hul fun h' kk e'=>?_
 have I2:Inv X pins σ H1 ⟨h',g,d,tk,os⟩:=I1.kept (t':=tk) kk
 refine⟨_,_,none,rfl,I2.kIn,e',?_⟩
 exact hx pins σ H1 _ _ _ none _ _ I2 (I1.hok.fresh (zBT _)) e' ⟨rfl,rfl⟩ (zAH I1.sz (zBT _)) q
end
section
variable {X:Cx}{Dc:Addr}{i:Nat}{x n:Str}{np fw pos:Pos}{body suite:List Stmt}{b0:Stmt}{tb:XK->TS}{th:Addr->Obj->TS}{hs:List ExceptHandler}{tr:THs}
end
section
variable {X:Cx}{C cT:Addr}
def TY(K:PySem.W.Frag):R2:=fun x y H Q=>∃(e p:Addr)(xs:List V)(bs:List Bool),x= .ref e/\y= .ref p/\SqL K H e []/\SqL K H p xs/\bs.length=xs.length/\(∀(i:Nat) v b,xs[i]? = some v->bs[i]? = some b->∃a zs,v= .ref a/\SqL K H a zs/\b=zs.isEmpty)/\Q (.bl (bs.any id)) H
theorem Sq(hu:X.A.units+9<cLine):D3 X (compareOp .In) (TY X.K):=by
 intro pins s σ H x y v u Q I rx ry h
 obtain⟨e,p,xs,bs,rfl,rfl,he,hp,hl,hx,q⟩:=h
 cases rx
 cases ry
 obtain⟨its,r,pl,hz⟩:=I.list hp
 obtain⟨its0,r0,jf,hz0⟩:=I.list he
 cases r0
 have lr:=r.length
 have at':∀(i:Nat)(u:Value),its[i]? = some u->∃b,bs[i]? = some b/\SeqAt.EqAt X.A.in1 s u (.ref e) b:=fun i u hi=>by
  have aZ:i<its.length:=(List.getElem?_eq_some_iff.mp hi).1
  have gO:xs[i]? = some xs[i]:=List.getElem?_eq_getElem (by omega)
  have d9:bs[i]? = some bs[i]:=List.getElem?_eq_getElem (by omega)
  obtain⟨u2,hu2,ru2⟩:=r.get gO
  rw[hi] at hu2
  cases hu2
  obtain⟨a,zs,ev,hq,eb⟩:=hx i _ _ gO d9
  rw[ev] at ru2
  cases ru2
  refine⟨_,d9,?_⟩
  obtain⟨itz,rz,plz,_⟩:=I.list hq
  rw[eb]
  by_cases hae:a=e
  ·subst hae
   have hz1:itz=[]:=by
    have h1:=plz.isList
    have h2:=jf.isList
    obtain⟨o1,g1,_,n1,d1⟩:=h1
    obtain⟨o2,g2,_,n2,d2⟩:=h2
    rw[g1] at g2
    cases g2
    rw[d1] at d2
    cases itz with
    | nil=>rfl
    | cons c r=>cases d2
   subst hz1
   cases rz
   exact zCD _
  ·refine zCS hae ?_
   cases rz with
   | nil=>exact zC2 (e:=fun _=>true) plz.isList jf.isList rfl (by show X.A.units+1<cLine;omega) (fun j h1=>absurd h1 (zCE _))
   | cons r1 r2=>exact zCQ plz.isList jf.isList (by simp) (by show X.A.units+1<cLine;omega)
 let f:Value->Bool:=fun u=>(List.range its.length).any fun i=>its[i]? == some u && bs[i]? == some true
 have uniq:∀(i j:Nat)(u:Value),its[i]? = some u->its[j]? = some u->bs[i]? = bs[j]? :=fun i j u hi hj=>by
  have aZ:i<its.length:=(List.getElem?_eq_some_iff.mp hi).1
  have hjl:j<its.length:=(List.getElem?_eq_some_iff.mp hj).1
  have gO:xs[i]? = some xs[i]:=List.getElem?_eq_getElem (by omega)
  have d9:bs[i]? = some bs[i]:=List.getElem?_eq_getElem (by omega)
  have hxj:xs[j]? = some xs[j]:=List.getElem?_eq_getElem (by omega)
  have hbj:bs[j]? = some bs[j]:=List.getElem?_eq_getElem (by omega)
  obtain⟨u2,hu2,ru2⟩:=r.get gO
  obtain⟨u3,hu3,ru3⟩:=r.get hxj
  rw[hi] at hu2
  cases hu2
  rw[hj] at hu3
  cases hu3
  obtain⟨a,zs,ev,hq,eb⟩:=hx i _ _ gO d9
  obtain⟨a2,zs2,ev2,gP,eb2⟩:=hx j _ _ hxj hbj
  rw[ev] at ru2
  rw[ev2] at ru3
  cases ru2
  have ea:a=a2:=Value.ref.inj (show Value.ref a=Value.ref a2 from ru3)
  subst ea
  rw[d9,hbj,eb,eb2]
  obtain⟨it1,rz1,p1,_⟩:=I.list hq
  obtain⟨it2,rz2,p2,_⟩:=I.list gP
  obtain⟨o1,g1,_,n1,d1⟩:=p1.isList
  obtain⟨o2,g2,_,n2,d2⟩:=p2.isList
  rw[g1] at g2
  cases g2
  rw[d1] at d2
  have eit:it1.toArray=it2.toArray:=by cases d2;rfl
  have eit':it1=it2:=by simpa using eit
  have l1:=rz1.length
  have l2:=rz2.length
  rw[eit'] at l1
  cases zs with
  | nil=>cases zs2 with
   | nil=>rfl
   | cons c d=>simp at l1 l2;omega
  | cons c d=>cases zs2 with
   | nil=>simp at l1 l2;omega
   | cons c2 d2=>rfl
 have ff:∀(i:Nat)(u:Value)(b:Bool),its[i]? = some u->bs[i]? = some b->f u=b:=fun i u b hi hb=>by
  have aZ:i<its.length:=(List.getElem?_eq_some_iff.mp hi).1
  cases b with
  | true=>exact List.any_eq_true.mpr ⟨i,List.mem_range.mpr aZ,by rw[hi,hb];simp⟩
  | false=>
   refine List.any_eq_false.mpr fun j hj z=>?_
   rw[zAN] at z
   have z1:its[j]? = some u:=eq_of_beq z.1
   have z2:bs[j]? = some true:=eq_of_beq z.2
   have:=uniq i j u hi z1
   rw[hb,z2] at this
   cases this
 refine SeqAt.in_listAt f pl.isList (fun u hu=>?_) ⟨.bl _,H,I,rfl,?_⟩
 ·have hu':u∈its:=by simpa using hu
  obtain⟨i,hi⟩:=List.getElem?_of_mem hu'
  obtain⟨b,hb,eq⟩:=at' i u hi
  rw[ff i u b hi hb]
  first | exact eq | exact eq.of_in1
 ·have ea:its.toArray.any f=bs.any id:=by
   rw[show its.toArray.any f=its.any f by simp,zA6,zBZ,zBZ]
   constructor
   ·rintro⟨u,hu,hf⟩
    obtain⟨i,hi⟩:=List.getElem?_of_mem hu
    obtain⟨b,hb,_⟩:=at' i u hi
    rw[ff i u b hi hb] at hf
    exact⟨b,zAQ hb,hf⟩
   ·rintro⟨b,hb,hf⟩
    obtain⟨i,hi⟩:=List.getElem?_of_mem hb
    have aZ:i<bs.length:=(List.getElem?_eq_some_iff.mp hi).1
    have hii:its[i]? = some its[i]:=List.getElem?_eq_getElem (by omega)
    exact⟨its[i],zAQ hii,by rw[ff i _ b hii hi];exact hf⟩
  rw[ea]
  exact q
end
end L2
namespace L2
open PySem PySem.Spec PyProof.Rows
section
variable {X:Cx}{N:List Str}{scope:Scope}{cl:List (Str×Addr)}{js:List (Option Nat)}{ao tg ae:Expr}{aj:List Expr}{rest:List Comprehension}{pos cL bo:Pos}{wi:TI}{g:CC->TG}{tb:CC->Addr->TS}{i:Nat}{y:Str}
theorem OM{WB:CC->Value->Qw}(aI:X.xe=Ew)(hc:X.calm=true)(hi:PI X tg ae wi)(hs:∀x,foldedSetIterable ae X.env x=pure x)(da:closureFor scope X.env=pure cl)(hk:scope.kind= .function)(bQ:∀x∈scope.names,x.2= .local->scope.names.lookup x.1=some .local)(aT:∀x∈scope.names,x.2≠.cell)(bE:∀p∈cl,X.env.cells.lookup p.1=some p.2)(hcn:∀x,((relabel scope X.env).names.lookup x=some .cell\/(relabel scope X.env).names.lookup x=some .free)->∃c,cl.lookup x=some c)(gI:Fu X N scope js)(hl:js.length=N.length)(ht:∀c it ac,HT (X.cmp N scope cl c) (.ListComp ao (⟨tg,ae,aj,0⟩::rest) scope pos) 0 it ac tg (WB c ac))(hg:∀c,PG (X.cmp N scope cl c) tg (g c))(hb:∀c ac,PB (X.cmp N scope cl c) (WB c (.ref ac)) (tb c ac))(hN:X.N.Nodup)(hy:X.N[i]? = some y)(gQ:Sm X.env.scope y)(jg:swapsWith (.ListComp ao (⟨tg,ae,aj,0⟩::rest) scope pos) (some (.Name y bo)) cL.line X.env=pure true)(hf:X.fn y=true\/X.env.scope.names.lookup y=some .local):
  PS X (.Assign [.Name y bo] (.ListComp ao (⟨tg,ae,aj,0⟩::rest) scope pos) cL) (Ob (EX wi js g tb) (DM i)):=by
 intro pins s σ H D I h
 rw[exec_Assign_Name_used _ _ _ _ jg]
 refine wpAny_bind (wpAny_standAt (wpAny_bind ?_))
 rw[arm_evalThenUse_ListComp]
 have h0:=hi pins s σ H _ I h
 refine wpAny_bind (wpAny_mono (wpAny_comprehension_free (use:=some (assign (.Name y bo) X.env)) (Q:=fun _ s'=>SP X pins D .next s') (cl:=cl) rfl hs da hk bQ (AX h0 fun v s1 h1=>AX h1 fun bA s2 h2=>?_)) (fun _ s' hq=>wpAny_pure (wpAny_pure hq)) fun _ _ z=>z)
 obtain⟨it,fp,tn,J,H2,e,I2,T,cH,f2,hR⟩:=h2
 subst e
 refine wpAny_newObj_type (wpAny_newFunctionEnv aT (by intro y hy;simp at hy) (fun h₁ db bR=>?_) hk)
 dsimp only at db bR ⊢
 have I3:=I2.lnew (ys:=[]) (its:=[]) (t':=s2.toks) .nil (zA9 _)
 have dc:∀b∈fp,b<s2.heap.objs.size:=fun b hb=>by
  obtain⟨o,e,_⟩:=T.obj 0 _ cH b hb
  exact zAB e
 have iF:∀b∈fp,b≠s2.heap.objs.size:=fun b hb=>zAE (dc b hb)
 have f3:∀b∈fp,B3 X pins (upd H2 s2.heap.objs.size (.lst [])) b:=fun b hb=>⟨by rw[Ax (iF b hb)];exact (f2 b hb).1,(f2 b hb).2⟩
 have iG:=hR ⟨{ s2 with heap:=s2.heap.push { cls:=.type "list",data:=.seq ([]:List Value).toArray } },upd H2 s2.heap.objs.size (.lst []),fp⟩ s2.heap.objs.size I2.fresh
 have I4:=I3.cmp (N:=N) (cl:=cl) (js:=js) (t':=s2.toks) f3 (fun b hb=>by
  show b<(s2.heap.push _).objs.size
  rw[zAU]
  exact zA4 (dc b hb)) hk bE hcn gI hl db bR
 have eZ:tn 0 h₁:=T.keep 0 _ _ cH fun b hb o e=>(bR.2 b (by
  rw[zAU]
  exact zAE (zA4 (dc b hb)))).trans (Heap.get?_push_of_some _ (Heap.get?_push_of_some _ e))
 have f4:∀b∈fp,B3 (X.cmp N scope cl ⟨{ s2 with heap:=s2.heap.push { cls:=.type "list",data:=.seq ([]:List Value).toArray } },upd H2 s2.heap.objs.size (.lst []),fp⟩) [] (upd H2 s2.heap.objs.size (.lst [])) b:=fun b hb=>
  ⟨(f3 b hb).1,(I4.ok.exf b hb).1,I4.ok.exfs b hb,.inl hb,(I4.ok.exf b hb).2,fun p hp=>absurd (show p∈([]:List (Addr×Obj)) from hp) (by simp)⟩
 have lt3:∀b ob,({ s2 with heap:=s2.heap.push { cls:=.type "list",data:=.seq ([]:List Value).toArray } }:Shared).heap.get? b=some ob->b<(s2.heap.push { cls:=.type "list",data:=.seq ([]:List Value).toArray }).objs.size:=fun b ob e=>zAB e
 have aP:=codeAny_mono (BS (X:=X.cmp N scope cl ⟨{ s2 with heap:=s2.heap.push { cls:=.type "list",data:=.seq ([]:List Value).toArray } },upd H2 s2.heap.objs.size (.lst []),fp⟩) (e:=.ListComp ao (⟨tg,ae,aj,0⟩::rest) scope pos) (d:=0) (acc:=.ref s2.heap.objs.size) (pins:=[]) aI hc (ht _ _ _) rfl rfl rfl T (hg _) (hb _ _) I4 eZ f4 iG) (R':=compPost (model X.prog X.w) X.A X.xe (some (assign (.Name y bo) X.env)) (fun _ s'=>SP X pins D .next s') (.ref s2.heap.objs.size) (s2.heap.push { cls:=.type "list",data:=.seq ([]:List Value).toArray }).objs.size) (fun r s' hq=>by
  obtain⟨rfl,σ',H',J',q⟩:=hq
  obtain⟨m,hn,_⟩:=id J'.loc
  have I5:Inv X pins σ H' s':=I3.uncmp f3 J' (zBG _ _)
  have nL:(s2.heap.push { cls:=.type "list",data:=.seq ([]:List Value).toArray }).objs.size≠X.env.locals:=zBR I3.lt
  have nC:∀x c,X.env.cells.lookup x=some c->c≠(s2.heap.push { cls:=.type "list",data:=.seq ([]:List Value).toArray }).objs.size:=fun x c e=>by
   obtain⟨v,o,ho,_⟩:=I3.cell x c e
   exact zAE (lt3 _ _ ho)
  show wpAny _ _ (assign (.Name y bo) X.env (.ref s2.heap.objs.size)) _ _ _
  refine wpAny_assign_Name (Gc I5 hN hy gQ (v:=.ref s2.heap.objs.size) rfl (fun s6 I6 ⟨a,sb,ha⟩=>?_) hf)
  have na:(s2.heap.push { cls:=.type "list",data:=.seq ([]:List Value).toArray }).objs.size≠a:=by
   rcases ha with z | z
   ·rw[z];exact nL
   ·exact zA7 (nC _ _ z)
  refine⟨m,hn.sameBut sb na,fun h7 sb7=>?_⟩
  refine⟨_,H',I6.turned (t':=s6.toks) (it:=(s2.heap.push { cls:=.type "list",data:=.seq ([]:List Value).toArray }).objs.size) (fun b ob nb e=>(sb7.2 b nb).trans e) J'.free nL (.inr (zAH I3.sz (zAA _))) nC (fun p hp=>zAE (lt3 _ _ (I3.pin p hp).1)),q⟩)
 exact BF (X:=X.cmp N scope cl ⟨{ s2 with heap:=s2.heap.push { cls:=.type "list",data:=.seq ([]:List Value).toArray } },upd H2 s2.heap.objs.size (.lst []),fp⟩) rfl rfl rfl (fun _=>rfl) True.intro aP (T.self _ 0 _ _ _ eZ aP)
variable {aY af:Expr}{ay:List Expr}{eF:CC->TI}{g1:CC->TG}{tc tc1:CC->TT}{te:CC->TE}
theorem Fr(hN:X.N.Nodup)(hy:X.N[i]? = some y)(gQ:Sm X.env.scope y)(h:CompOk X N scope cl js)(hi:PI X tg ae wi)(hg:∀c,PG (X.cmp N scope cl c) tg (g c))(gN:∀c,MP (X.cmp N scope cl c) aj (tc c))(he:∀c,PE (X.cmp N scope cl c) ao (te c))(aI:X.xe=Ew:=by rfl)(hc:X.calm=true:=by rfl)(hs:∀x,foldedSetIterable ae X.env x=pure x:=by intro _;rfl)(jg:swapsWith (.ListComp ao [⟨tg,ae,aj,0⟩] scope pos) (some (.Name y bo)) cL.line X.env=pure true:=by rfl)(hf:X.fn y=true\/X.env.scope.names.lookup y=some .local:=by first | exact .inl rfl | exact .inr rfl):
  PS X (.Assign [.Name y bo] (.ListComp ao [⟨tg,ae,aj,0⟩] scope pos) cL) (Ob (EX wi js g fun c ac=>DO (tc c) (Cg ac (te c))) (DM i)):=
 OM (WB:=fun c ac=>DW (X.cmp N scope cl c) aj ao ac) aI hc hi hs h.clos h.kind h.names h.cell h.ccl h.hcn h.shr h.len (fun c it ac=>Jc) hg (fun c ac=>Fa aI (gN c) (he c)) hN hy gQ jg hf
end
end L2
namespace L2
open PySem PySem.Spec PyProof.Rows
abbrev Up(xs:Array Nat):Prop:=xs.toList.Pairwise (· < ·)
theorem Up.lt(u:Up xs){i j:Nat}{a b:Nat}(h:i<j)(ha:xs[i]? = some a)(hb:xs[j]? = some b):a<b:=by
 have iM:xs.toList[i]? = some a:=by simpa using ha
 have hb':xs.toList[j]? = some b:=by simpa using hb
 obtain⟨h1,e1⟩:=List.getElem?_eq_some_iff.mp iM
 obtain⟨h2,e2⟩:=List.getElem?_eq_some_iff.mp hb'
 have:=List.pairwise_iff_getElem.mp u i j h1 h2 h
 omega
structure U9(xs:Array Nat)(j p:Nat):Prop where
 le:p<=xs.size
 lo:∀i a,i<p->xs[i]? = some a->a<j
 hi:∀i a,p<=i->xs[i]? = some a->j<=a
theorem HC{xs:Array Nat}(u:Up xs)(j:Nat):∀(fuel lo hi:Nat),hi-lo<=fuel->lo<=hi->hi<=xs.size->(∀i a,i<lo->xs[i]? = some a->a<j)->(∀i a,hi<=i->xs[i]? = some a->j<=a)->
  U9 xs j (SetTable.below.go xs j fuel lo hi)
 | 0,lo,hi,h1,h2,h3,h4,h5=>by
  have e:lo=hi:=by omega
  subst e
  exact⟨h3,h4,h5⟩
 | fuel+1,lo,hi,h1,h2,h3,h4,h5=>by
  unfold SetTable.below.go
  by_cases aO:lo<hi
  ·rw[if_pos aO]
   have hm:(lo+hi) / 2<xs.size:=by omega
   have eg:xs[(lo+hi) / 2]? = some xs[(lo+hi) / 2]:=Array.getElem?_eq_getElem hm
   have ed:xs.getD ((lo+hi) / 2) j=xs[(lo+hi) / 2]:=by simp[Array.getD,hm]
   show U9 xs j (if xs.getD ((lo+hi) / 2) j<j then _ else _)
   rw[ed]
   split
   ·rename_i hl
    refine HC u j fuel ((lo+hi) / 2+1) hi (by omega) (by omega) h3 (fun i a de ha=>?_) h5
    by_cases e:i=(lo+hi) / 2
    ·subst e;rw[eg] at ha;cases ha;exact hl
    ·exact zCI (u.lt (show i<(lo+hi) / 2 by omega) ha eg) hl
   ·rename_i hl
    refine HC u j fuel lo ((lo+hi) / 2) (by omega) (by omega) (by omega) h4 (fun i a de ha=>?_)
    by_cases e:i=(lo+hi) / 2
    ·subst e;rw[eg] at ha;cases ha;omega
    ·have:=u.lt (show (lo+hi) / 2<i by omega) eg ha
     omega
  ·rw[if_neg aO]
   have e:lo=hi:=by omega
   subst e
   exact⟨h3,h4,h5⟩
theorem HX(u:Up xs)(j:Nat):U9 xs j (SetTable.below xs j):=
 HC u j xs.size 0 xs.size (by omega) (zA9 _) (zAA _) (fun i a h=>absurd h (zCE _)) fun i a h e=>by
  have:=(Array.getElem?_eq_some_iff.mp e).1
  omega
theorem Ln(u:Up xs)(h:xs[i]? = some a):SetTable.below xs (a+1)=i+1:=by
 have b:=HX u (a+1)
 have hi:i<xs.size:=(Array.getElem?_eq_some_iff.mp h).1
 have h1:i<SetTable.below xs (a+1):=by
  rcases Nat.lt_or_ge i (SetTable.below xs (a+1)) with q | q
  ·exact q
  ·have:=b.hi i a q h
   omega
 rcases Nat.lt_or_ge (i+1) (SetTable.below xs (a+1)) with q | q
 ·have hs:i+1<xs.size:=zAJ q b.le
  have e2:=Array.getElem?_eq_getElem hs
  have:=b.lo (i+1) _ q e2
  have:=u.lt (zB7 i) h e2
  omega
 ·omega
theorem Lz(u:Up xs):SetTable.below xs 0=0:=by
 have b:=HX u 0
 rcases Nat.eq_zero_or_pos (SetTable.below xs 0) with q | q
 ·exact q
 ·have hs:0<xs.size:=zAJ q b.le
  have:=b.lo 0 _ q (Array.getElem?_eq_getElem hs)
  omega
theorem ND(u:Up xs)(h:xs[SetTable.below xs j]?≠some j):Up (SetTable.insertAt xs (SetTable.below xs j) j):=by
 have b:=HX u j
 generalize SetTable.below xs j=p at b h
 unfold Up
 rw[SetTable.toList_insertAt]
 have e1:∀x∈xs.toList.take p,x<j:=fun x hx=>by
  obtain⟨i,hi⟩:=List.mem_iff_getElem?.mp hx
  rw[List.getElem?_take] at hi
  split at hi
  ·rename_i aO
   exact b.lo i x aO (by simpa using hi)
  ·cases hi
 have e2:∀x∈xs.toList.drop p,j<x:=fun x hx=>by
  obtain⟨i,hi⟩:=List.mem_iff_getElem?.mp hx
  rw[List.getElem?_drop] at hi
  have de:xs[p+i]? = some x:=by simpa using hi
  have:=b.hi (p+i) x (Nat.le_add_right _ _) de
  have ne:x≠j:=fun e=>by
   subst e
   cases i with
   | zero=>exact h de
   | succ i=>
    have hp:p<xs.size:=by
     have:=(Array.getElem?_eq_some_iff.mp de).1
     omega
    have eg:=Array.getElem?_eq_getElem hp
    have h3:=b.hi p _ (zAA _) eg
    have h4:=u.lt (show p<p+(i+1) by omega) eg de
    omega
  omega
 have u':(xs.toList.take p++xs.toList.drop p).Pairwise (· < ·):=by rw[zB8];exact u
 obtain⟨p1,p2,p3⟩:=List.pairwise_append.mp u'
 refine List.pairwise_append.mpr ⟨p1,List.pairwise_cons.mpr ⟨e2,p2⟩,fun x hx y hy=>?_⟩
 rcases List.mem_cons.mp hy with q | q
 ·rw[q];exact e1 x hx
 ·exact zCI (e1 x hx) (e2 y q)
theorem PY(n:Nat):Up (Array.range n):=by
 unfold Up
 rw[Array.toList_range]
 exact zCY
end L2
namespace L2
open PySem PySem.Spec PyProof.Rows
structure TabOk(BH:Bool)(t:SetTable):Prop where
 dum:t.dummies = #[]
 led:t.led = !BH
 up:Up t.place
structure Gp(BH:Bool)(t:SetTable):Prop where
 led:t.led = !BH
 up:Up t.place
theorem TabOk.it{BH:Bool}(h:TabOk BH t):Gp BH t:=⟨h.led,h.up⟩
theorem TabOk.plain_off{BH:Bool}(h:TabOk BH t):TabOk BH { t with plain:=false }:=⟨h.dum,h.led,h.up⟩
theorem TabOk.standIn{BH:Bool}(h:TabOk BH t)(n:Nat):TabOk BH (t.standIn n):=⟨rfl,h.led,PY n⟩
theorem TabOk.orStandIn{BH:Bool}(h:TabOk BH t)(n:Nat):TabOk BH (t.orStandIn n):=by
 unfold SetTable.orStandIn
 split
 ·exact h
 ·exact h.standIn n
theorem TabOk.fresh(BH:Bool)(led:Bool)(e:led = !BH):TabOk BH (.fresh 0 0 led):=⟨rfl,e,List.Pairwise.nil⟩
theorem MK(j:Nat):SetTable.has #[] j=false:=by
 unfold SetTable.has
 simp
theorem Ih(t:SetTable)(p:SetTable.Probe):(t.advance p).dummy=p.dummy:=by
 unfold SetTable.advance
 split
 ·rfl
 ·rfl
theorem Kf{t:SetTable}(hd:t.dummies = #[]){hashAt:Nat->Int}{h:Int}{j:Nat}{d:Option Nat}:∀(fuel:Nat)(p:SetTable.Probe),p.dummy=none->SetTable.probe.go t hashAt h fuel p=some (.empty j d)->d=none/\t.place[SetTable.below t.place j]?≠some j
 | 0,_,_,e=>by cases e
 | fuel+1,p,hp,e=>by
  unfold SetTable.probe.go at e
  have hs:∀j,t.slot j=if t.place[SetTable.below t.place j]? == some j then .live (SetTable.below t.place j) else .empty:=fun j=>by
   unfold SetTable.slot
   rw[hd,MK]
   rfl
  rw[hs] at e
  split at e
  ·rename_i hlive
   split at hlive
   ·cases hlive
   ·rename_i av
    injection e with e
    injection e with e1 e2
    subst e1
    refine⟨by rw[<-e2,hp],fun z=>av (by rw[z];simp)⟩
  ·rename_i hlive
   split at hlive<;>cases hlive
  ·split at e
   ·cases e
   ·exact Kf hd fuel _ (by rw[Ih];exact hp) e
theorem TabOk.layNew{BH:Bool}{t:SetTable}(ok:TabOk BH t)(es:Array (Int×Value))(h:Int)(x:Value):TabOk BH (layNew t es h x).2.1:=by
 unfold PySem.layNew
 cases ef:t.freeSlot h with
 | none=>exact ok.standIn _
 | some sw=>
  obtain⟨slot,wd⟩:=sw
  show TabOk BH ((t.put slot).1.orStandIn _)
  refine TabOk.orStandIn ?_ _
  unfold SetTable.freeSlot at ef
  split at ef
  ·rename_i j dummy eq
   have:=Kf ok.dum _ _ rfl eq
   obtain⟨rfl,av⟩:=this
   injection ef with ef
   injection ef with e1 e2
   have e1':j=slot:=e1
   subst e1'
   unfold SetTable.put
   refine⟨?_,ok.led,ND ok.up av⟩
   show (if SetTable.has t.dummies j then _ else t.dummies) = #[]
   rw[ok.dum,MK]
   rfl
  ·cases ef
theorem TabOk.relayAll{BH:Bool}{t:SetTable}(ok:TabOk BH t)(es:Array (Int×Value))(cM:Nat):TabOk BH (relayAll t es cM).2.1:=by
 unfold PySem.relayAll
 cases er:t.relaid (es.map (·.1)) cM with
 | none=>exact ok.standIn _
 | some to=>
  obtain⟨t',order⟩:=to
  dsimp only
  split
  ·unfold SetTable.relaid SetTable.laid at er
   cases eo:SetTable.layClean (SetTable.sizeAbove cM-1) (es.map (·.1)) with
   | none=>rw[eo] at er;cases er
   | some owner=>
    rw[eo] at er
    injection er with er
    injection er with e1 e2
    subst e1
    refine⟨rfl,ok.led,?_⟩
    show (List.map (fun x:Nat×Nat=>x.fst) (List.filterMap (fun j=>Option.map (fun x=>(j,x)) (owner.getD j none)) (List.range (SetTable.sizeAbove cM-1+1)))).toArray.toList.Pairwise (· < ·)
    rw[zDD]
    rw[zDK]
    refine List.Pairwise.filterMap _ (R:=(· < ·)) ?_ zCY
    intro a a' aO b hb b' hb'
    have f:∀{a b:Nat},Option.map (fun x:Nat×Nat=>x.1) (Option.map (fun x=>(a,x)) (owner.getD a none))=some b->b=a:=fun {a b} e=>by
     cases q:owner.getD a none with
     | none=>rw[q] at e;cases e
     | some y=>rw[q] at e;injection e with e;exact e.symm
    rw[f hb,f hb']
    exact aO
  ·exact ok.standIn _
end L2
namespace L2
open PySem PySem.Spec PyProof.Rows
def A8(e:Int×Value):Int:=match e.2 with | .int k _=>k | _=>0
def EGood(l:List (Int×Value)):Prop:=∀e∈l,e.1=hashInt (A8 e)/\∃t,e.2= .int (A8 e) t
abbrev BH(w:World):Bool:=w.params.followText "set-order"
def SetIs(w:World)(h:Heap)(a:Addr)(ks:List Int):Prop:=
 ∃o es ep t,h.get? a=some o/\o.ExactSet/\o.data= .set es ep t/\EGood es.toList/\es.toList.map A8=ks/\ks.Nodup/\ks.length<2000/\TabOk (BH w) t/\t.fits es.size=true
theorem SetIs.keep(x:SetIs w h a ks)(k:∀o,h.get? a=some o->h'.get? a=some o):SetIs w h' a ks:=by
 obtain⟨o,es,ep,t,ho,r⟩:=x
 exact⟨o,es,ep,t,k o ho,r⟩
def SetIt(w:World)(h:Heap)(a:Addr)(ks:List Int):Prop:=
 ∃o es ep t,h.get? a=some o/\o.ExactSet/\o.data= .set es ep t/\EGood es.toList/\es.toList.map A8=ks/\ks.Nodup/\ks.length<2000/\Gp (BH w) t/\t.fits es.size=true
theorem SetIs.it(x:SetIs w h a ks):SetIt w h a ks:=by
 obtain⟨o,es,ep,t,h1,h2,h3,h4,h5,h6,h7,h8,h9⟩:=x
 exact⟨o,es,ep,t,h1,h2,h3,h4,h5,h6,h7,h8.it,h9⟩
theorem SetIt.keep(x:SetIt w h a ks)(k:∀o,h.get? a=some o->h'.get? a=some o):SetIt w h' a ks:=by
 obtain⟨o,es,ep,t,ho,r⟩:=x
 exact⟨o,es,ep,t,k o ho,r⟩
section
variable {prog:Program}{w:World}{A:Around}{E:Value->Shared->Prop}{s:Shared}{a:Addr}{ks:List Int}{k:Int}{tk:Tok}
theorem EGood.elems(h:EGood l):ElemsOf (intKind prog w) l:=fun e he=>by
 obtain⟨h1,t,h2⟩:=h e he
 refine⟨⟨A8 e,?_,h1⟩,?_⟩
 ·rw[h2];exact intKind_is _ _ _ _
 ·rw[h2];rfl
theorem EGood.is(h:EGood l)(he:e∈l):(intKind prog w).is j e.2=true↔j=A8 e:=by
 obtain⟨_,t,h2⟩:=h e he
 constructor
 ·intro q
  exact (intKind prog w).inj e.2 j (A8 e) q (by rw[h2];exact intKind_is _ _ _ _)
 ·rintro rfl
  rw[h2]
  exact intKind_is _ _ _ _
theorem DK{es:Array (Int×Value)}(e:es.toList.map A8=ks):es.size=ks.length:=by rw[<-e,List.length_map,zAF]
theorem EM{h:Heap}{o:Obj}{es aD:Array (Int×Value)}{ep:Nat}{t t':SetTable}(ho:h.get? a=some o)(bY:o.ExactSet)(hd:o.data= .set es ep t)(g:EGood aD.toList)(nd:(aD.toList.map A8).Nodup)(hl:aD.size<2000)(ok:TabOk (BH w) t')(hf:t'.fits aD.size=true):
  (h.update a (Obj.putSet aD t')).get? a=some { o with data:=.set aD (ep+1) t' }/\SetIs w (h.update a (Obj.putSet aD t')) a (aD.toList.map A8):=by
 have hg:(h.update a (Obj.putSet aD t')).get? a=some { o with data:=.set aD (ep+1) t' }:=by
  have:=Heap.get?_update_self (Obj.putSet aD t') ho (by rw[putSet_of aD t' hd];rfl)
  rw[putSet_of aD t' hd] at this;exact this
 exact⟨hg,_,aD,ep+1,t',hg,bY,rfl,g,rfl,nd,by rw[List.length_map,zAF];exact hl,ok,hf⟩
theorem Cm(h:n<2000):n<scanBound:=by unfold scanBound;omega
theorem KA{g:Bool->Sem Unit}(hg:∀(b:Bool) (s₁:Shared) (Q':Unit->Shared->Prop),Q' () s₁->wpAny (model prog w) A (g b) Q' E s₁){ep:Nat}(ho:s.heap.get? a=some o)(bY:o.ExactSet)(hd:o.data= .set es ep t)(g1:EGood bw.toList)(nd:(bw.toList.map A8).Nodup)(hl:bw.size<2000)(ok:TabOk (BH w) t2)(hf:t2.fits bw.size=true){df:Bool}(h:∀h' bf,Heap.SameBut a s.heap h'->SetIs w h' a bf->bf.Perm (bw.toList.map A8)->R (some true) { s with heap:=h' }):
  wpAny (model prog w) A (do
    storeSet a bw t2
    if (!df && t2.tooFull)=true then do
      g (relayAll t2 bw (SetTable.grown bw.size)).2.2
      storeSet a (relayAll t2 bw (SetTable.grown bw.size)).1 (relayAll t2 bw (SetTable.grown bw.size)).2.1
      pure (some true)
     else pure (some true)) R E s:=by
 refine wpAny_bind (wpAny_storeSet_of ho hd ?_ (fits_of_scanBound (Cm hl)))
 obtain⟨dg,fz⟩:=EM (w:=w) ho bY hd g1 nd hl ok hf
 have hsb1:=zAV s.heap a (Obj.putSet bw t2)
 split
 ·have hp:=relayAll_perm t2 bw (SetTable.grown bw.size)
  have bB:=relayAll_fits t2 bw (SetTable.grown bw.size)
  have okr:=ok.relayAll bw (SetTable.grown bw.size)
  generalize hRl:relayAll t2 bw (SetTable.grown bw.size)=Rl at hp bB okr ⊢
  obtain⟨es2,t3,gave2⟩:=Rl
  dsimp only at hp bB okr ⊢
  have aw:es2.size=bw.size:=by rw[<-zAF,hp.length_eq,zAF]
  have fb:es2.size<2000:=by rw[aw];exact hl
  have g2:EGood es2.toList:=fun e he=>g1 e (hp.mem_iff.mp he)
  refine wpAny_bind (hg _ _ _ ?_)
  refine wpAny_bind (wpAny_storeSet_of dg rfl ?_ (fits_of_scanBound (Cm fb)))
  obtain⟨_,bZ⟩:=EM (w:=w) dg bY rfl g2 ((hp.map A8).nodup_iff.mpr nd) fb okr bB
  exact wpAny_pure (h _ _ (hsb1.trans (zAV _ a _)) bZ (hp.map A8))
 ·exact wpAny_pure (h _ _ hsb1 fz (zBV _))
theorem Hc(hS:SetIs w s.heap a ks)(gR:ks.length+1<2000)(h:∀h' bf,Heap.SameBut a s.heap h'->SetIs w h' a bf->(∀j,j∈bf↔j∈ks\/j=k)->bf.length<=ks.length+1->Q (!decide (k∈ks)) { s with heap:=h' }):
  wpAny (model prog w) A (setAddHashed a (.int k tk) (hashInt k)) Q E s:=by
 obtain⟨o,es,ep,t,ho,bY,hd,hg,hk,nd,hl,ok,hf⟩:=id hS
 have aw:=DK hk
 have gG:(intKind prog w).is k (.int k tk)=true:=intKind_is _ _ _ _
 unfold setAddHashed setAddHashedIn
 refine wpAny_holding (wpAny_bind (wpAny_setState_of ho hd hf ?_))
 dsimp only
 rw[byScan_of (knd:=intKind prog w) rfl (by rw[aw];exact Cm hl) hg.elems]
 simp only[↓reduceIte]
 unfold setAddByScan
 refine wpAny_bind ?_
 refine wpAny_bind (wpAny_rule ?_)
 refine wpAny_bind (wpAny_setScan_of (knd:=intKind prog w) gG ho hd hf hg.elems ?_)
 cases hr:List.findIdx? (fun e=>(intKind prog w).is k e.2) es.toList with
 | some j=>
  dsimp only
  obtain⟨hj,jh,_⟩:=List.findIdx?_eq_some_iff_getElem.mp hr
  have hmem:k∈ks:=by
   rw[<-hk,(hg.is (zA3 hj)).mp jh]
   exact zDE (zA3 hj)
  refine wpAny_pure (wpAny_pure ?_)
  have e:s={ s with heap:=s.heap }:=by cases s;rfl
  have:=h s.heap ks (zBG a s.heap) hS (fun j=>⟨.inl,fun z=>z.elim id fun z=>z ▸ hmem⟩) (zBT _)
  rw[decide_eq_true hmem] at this;rw[e];exact this
 | none=>
  dsimp only
  have hmem:k∉ks:=fun z=>by
   rw[<-hk] at z
   obtain⟨e,he,rfl⟩:=List.mem_map.mp z
   have:=List.findIdx?_eq_none_iff.mp hr e he
   rw[(hg.is he).mpr rfl] at this
   cases this
  have hgw:∀(b:Bool){s₁:Shared}{Q':Unit->Shared->Prop},Q' () s₁->wpAny (model prog w) A (match b with | true=>rule "set.scan.the-table-gave-way" | false=>pure ()) Q' E s₁:=
   fun b s₁ Q' hq=>by cases b<;>first | exact wpAny_pure hq | exact wpAny_rule hq
  have dh:=layNew_perm t es (hashInt k) (.int k tk)
  have di:=layNew_fits t es (hashInt k) (.int k tk)
  have ok1:=ok.layNew es (hashInt k) (.int k tk)
  generalize hL:layNew t es (hashInt k) (.int k tk)=L at dh di ok1
  have hL':layNew t es ((intKind prog w).hash k) (.int k tk)=L:=hL
  show wpAny (model prog w) A _ _ E s
  obtain⟨bw,t1,df,gave⟩:=L
  simp only[hL]
  dsimp only at dh di ok1 ⊢
  rw[Array.toList_push] at dh
  have gL:EGood bw.toList:=fun e he=>by
   rcases List.mem_append.mp (dh.mem_iff.mp he) with z | z
   ·exact hg e z
   ·rw[List.mem_singleton.mp z]
    exact⟨rfl,tk,rfl⟩
  have hpk:(bw.toList.map A8).Perm (ks++[k]):=by
   have:=dh.map A8
   rw[zAM,hk] at this
   exact this
  have nd1:(bw.toList.map A8).Nodup:=hpk.nodup_iff.mpr (List.nodup_append.mpr ⟨nd,List.nodup_cons.mpr ⟨by simp,List.nodup_nil⟩,fun x hx y hy=>by rw[List.mem_singleton.mp hy];intro z;subst z;exact hmem hx⟩)
  have aJ:bw.size<2000:=by
   have:=hpk.length_eq
   rw[List.length_map,zAF,zA] at this
   rw[this]
   exact gR
  refine wpAny_bind (hgw _ ?_)
  have hend:∀h' bf,Heap.SameBut a s.heap h'->SetIs w h' a bf->bf.Perm (bw.toList.map A8)->Q true { s with heap:=h' }:=by
   intro h' bf bF aQ hp'
   have hq:=hp'.trans hpk
   have:=h h' bf bF aQ (fun j=>by rw[hq.mem_iff,zC7,zB1]) (by rw[hq.length_eq,zA];exact zAA _)
   rw[decide_eq_false hmem] at this
   exact this
  split
  ·refine wpAny_bind ?_
   rw[hashByValue_scannable 8 (x:=.int k tk) rfl]
   refine wpAny_pure ?_
   refine KA ?_ ho bY hd gL nd1 aJ ?_ ?_ ?_
   ·intro b s₁ Q' hq;cases b<;>first | exact wpAny_pure hq | exact wpAny_rule hq
   ·split
    ·exact ok1
    ·exact ok1.plain_off
   ·split
    ·exact di
    ·exact SetTable.fits_plain_off di
   ·intro h' bf bF aQ hp';dsimp only;exact wpAny_pure (hend h' bf bF aQ hp')
  ·refine wpAny_bind (wpAny_pure ?_)
   simp only[↓reduceIte]
   refine KA ?_ ho bY hd gL nd1 aJ ok1 di ?_
   ·intro b s₁ Q' hq;cases b<;>first | exact wpAny_pure hq | exact wpAny_rule hq
   ·intro h' bf bF aQ hp';dsimp only;exact wpAny_pure (hend h' bf bF aQ hp')
end
end L2
namespace L2
open PySem PySem.Spec PyProof.Rows
abbrev Bk(w:World):Obj:={ cls:=.type "set",dict:=none,data:=.set #[] 0 (.fresh 0 0 (!BH w)) }
theorem set0_is{w:World}{h:Heap}:SetIs w (h.push (Bk w)) h.objs.size []:=
 ⟨_,#[],0,_,Heap.get?_push_size _ rfl,⟨rfl,rfl,rfl⟩,rfl,fun e he=>absurd he (by simp),rfl,List.nodup_nil,by decide,TabOk.fresh _ _ rfl,rfl⟩
section
variable {prog:Program}{w:World}{A:Around}{E:Value->Shared->Prop}{s:Shared}{a:Addr}{ks:List Int}{k:Int}{tk:Tok}
theorem SetIs.typeIs(hS:SetIs w s.heap a ks):s.TypeIs (.ref a) "set":=let ⟨o,_,_,_,ho,hc,_⟩:=hS;⟨o,ho,hc.1⟩
theorem SetIs.noDict(hS:SetIs w s.heap a ks):∀b,Value.ref a= .ref b->∃ob,s.heap.get? b=some ob/\ob.dict=none:=
 fun b e=>by injection e with e;subst e;exact let ⟨o,_,_,_,ho,hc,_⟩:=hS;⟨o,ho,hc.2.1⟩
theorem SetIt.typeIs(hS:SetIt w s.heap a ks):s.TypeIs (.ref a) "set":=let ⟨o,_,_,_,ho,hc,_⟩:=hS;⟨o,ho,hc.1⟩
theorem Ki(hv:vs=[]\/∃x,vs=[x])(h:Q₁ (.ref s.heap.objs.size) { s with heap:=s.heap.push (Bk w) }):
  codeAny (model prog w) A (.call (.builtin "set.__new__") ⟨.type "set"::vs,[]⟩) (wants Q₁ E) s:=by
 have hn:checkBuiltinCall "set.__new__" ⟨.type "set"::vs,[]⟩=pure ():=by
  rcases hv with rfl | ⟨x,rfl⟩
  ·exact F.newCall_set_0
  ·exact F.newCall_set_1 x
 refine codeAny_of_tree ?_
 show wpAny _ A.in1 (do checkBuiltinCall "set.__new__" ⟨.type "set"::vs,[]⟩;again (.builtin "set.__new__" ⟨.type "set"::vs,[]⟩)) _ _ s
 refine wpAny_bind (wpAny_of_eq hn (wpAny_pure ⟨plainId_quiet F.plain_set_new _,codeAny_builtin F.entry_set_new ?_⟩))
 rw[zCA F.plain_set_new _]
 have ax:=sub_set_self
 obtain⟨hp,g,d,tk,os⟩:=s
 rcases hv with rfl | ⟨x,rfl⟩
 all_goals
  unfold Builtin.«set.__new__» Builtin.Frozenset.newClass
  dsimp only
  wp_walk
  refine wpAny_askSetting (wpAny_pure ?_)
  dsimp only
  simp only[newObj]
  refine wpAny_bind (wpAny_alloc (wpAny_pure ?_))
  exact wpAny_pure h
set_option maxHeartbeats 1000000 in
theorem Ox(h:Q (.ref s.heap.objs.size) { s with heap:=s.heap.push (Bk w) }):wpAny (model prog w) A (call (.type "set") []) Q E s:=by
 obtain⟨c,tl,hmro⟩:=F.called_set.mro
 have hmade:=F.called_set.made
 have ax:=F.called_set.sub
 refine wpAny_call (codeAny_of_tree ?_)
 show wpAny _ _ (callAny (.type "set") _) _ _ _
 refine wpAny_pure ⟨zCR _ (by decide +kernel),codeAny_builtin F.entry_type_call ?_⟩
 rw[Around.under_plain (weight_type_call_type "set" [] []) rfl]
 have h1:=F.called_set.notType
 have h2:=F.called_set.canCreate
 have hct:=F.typeCall_set_0
 repeat (any_goals (first | assumption | wp_step))
 refine codeAny_mono (Ki (E:=E) (.inl rfl) (Q₁:=fun obj s₁=>obj= .ref s.heap.objs.size/\s₁={ s with heap:=s.heap.push (Bk w) }) ⟨rfl,rfl⟩) fun r s₁ hr=>?_
 cases r with
 | error e=>exact hr
 | ok fl=>
  cases fl with
  | ret obj=>
   obtain⟨rfl,rfl⟩:=hr
   have hS:(s.heap.push (Bk w)).get? s.heap.objs.size=some (Bk w):=Heap.get?_push_size _ rfl
   have hT:Shared.TypeIs { s with heap:=s.heap.push (Bk w) } (.ref s.heap.objs.size) "set":=⟨_,hS,rfl⟩
   have hli:=F.called_set.init.lookup
   have d9:=F.called_set.init.bind (.ref s.heap.objs.size)
   repeat (any_goals (first | assumption | wp_step))
   refine codeAny_mono (codeAny_call_builtin (R:=wants (fun r s₂=>r= .none/\Q (.ref s.heap.objs.size) s₂) E) F.called_set.init.plain F.entry_set_init (check_set_init hT ?_)) fun r₂ s₂ hr₂=>?_
   ·unfold Builtin.«set.__init__» noKeywords
    wp_walk
    exact⟨rfl,h⟩
   ·cases r₂ with
    | error e=>exact hr₂
    | ok fl₂=>
     cases fl₂ with
     | ret r=>
      obtain⟨rfl,hQ⟩:=hr₂
      repeat (any_goals (first | assumption | wp_step))
     | _=>exact hr₂.elim
  | _=>exact hr.elim
theorem J7(hS:SetIs w s.heap a ks)(gR:ks.length+1<2000)(h:∀h' bf,Heap.SameBut a s.heap h'->SetIs w h' a bf->(∀j,j∈bf↔j∈ks\/j=k)->bf.length<=ks.length+1->Q .none { s with heap:=h',toks:=s.toks+1 }):
  wpAny (model prog w) A (call (.builtin "set.add") [.ref a,.int k tk]) Q E s:=by
 refine wpAny_call_entry F.slot_set_add hS.typeIs F.entry_set_add ?_ (F.args_set_add_2 _ _)
 unfold Builtin.«set.add» Builtin.Frozenset.oneOther
 simp only[List.isEmpty_nil,bind_assoc]
 unfold Builtin.Frozenset.addrOf setAdd
 refine wpAny_bind (wpAny_pure ?_)
 try dsimp only
 refine wpAny_bind (wpAny_pure ?_)
 try dsimp only
 refine wpAny_bind ?_
 refine wpAny_holding ?_
 refine wpAny_bind ((intKind prog w).pyHash (k:=k) (intKind_is _ _ _ _) ?_)
 refine Hc (s:={ s with toks:=s.toks+1 }) hS gR fun h' bf bF aQ hm hl=>?_
 show wpAny _ _ (ret Value.none) _ _ _
 exact wpAny_pure ⟨_,rfl,h h' bf bF aQ hm hl⟩
end
end L2
namespace L2
open PySem PySem.Spec PyProof.Rows
theorem slot_setit_next:Slot "set_iterator" "__next__" "set_iterator.__next__":=
 .of (owner:="set_iterator") (n:="__next__") (by rw[typeLookup_type,builtinLookup_eq_fast];kernel_rfl) (by decide +kernel) (by decide +kernel) (by decide +kernel)
  (by first | exact .inl (by decide +kernel) | exact .inr (by decide +kernel)) (by rw[isSubtype_type];kernel_rfl)
theorem Cz:entryFor table "set_iterator.__next__"=some Builtin.«set_iterator.__next__»:=entryFor_of_tree (by kernel_rfl)
theorem DL(a:Value):argsOk "set_iterator.__next__" ⟨[a],[]⟩:=by unfold argsOk;kernel_rfl
theorem Hv:entryFor table "set.__iter__"=some Builtin.«frozenset.__iter__»:=entryFor_alias (id':="frozenset.__iter__") (by kernel_rfl) rfl (by decide +kernel) (by kernel_rfl)
theorem DN:Slot "set_iterator" "__iter__" "set_iterator.__iter__":=
 .of (owner:="set_iterator") (n:="__iter__") (by rw[typeLookup_type,builtinLookup_eq_fast];kernel_rfl) (by decide +kernel) (by decide +kernel) (by decide +kernel)
  (by first | exact .inl (by decide +kernel) | exact .inr (by decide +kernel)) (by rw[isSubtype_type];kernel_rfl)
theorem FY:entryFor table "set_iterator.__iter__"=some Builtin.«dict_keyiterator.__iter__»:=entryFor_alias (id':="dict_keyiterator.__iter__") (by kernel_rfl) rfl (by decide +kernel) (by kernel_rfl)
theorem GU(a:Value):argsOk "set_iterator.__iter__" ⟨[a],[]⟩:=by unfold argsOk;kernel_rfl
theorem slot_set_len':Slot "set" "__len__" "set.__len__":=
 .of (owner:="set") (n:="__len__") (by rw[typeLookup_type,builtinLookup_eq_fast];kernel_rfl) (by decide +kernel) (by decide +kernel) (by decide +kernel)
  (by first | exact .inl (by decide +kernel) | exact .inr (by decide +kernel)) (by rw[isSubtype_type];kernel_rfl)
end L2
namespace L2
open PySem PySem.Spec PyProof.Rows
inductive Np(w:World)(a:Addr)(es:Array (Int×Value))(ep:Nat)(t:SetTable)(h:Heap):(Nat->Value)->List Value->Prop where
 | text:BH w=true->Np w a es ep t h (fun _=>rawInt 0) ((pickOrder (w.params.setOrder a ep) es).toList.map (·.2))
 | led:BH w=false->(!t.plain && decide (es.size>1))=false->Np w a es ep t h (fun i=>rawInt (((if i=0 then 0 else t.place.getD (i-1) 0+1:Nat)):Int)) (es.toList.map (·.2))
 | drw (T:Addr) (o:Obj) (c:Nat) (ps:List Nat):BH w=false->h.get? T=some o->o.data= .seq (ps.map fun(i:Nat)=>rawInt i).toArray c->(∀p∈ps,p<es.size)->Np w a es ep t h (fun _=>.ref T) (ps.map fun p=>(es.getD p (0,.none)).2)
def ItAt(h:Heap)(it a:Addr)(first:Value)(i n ep:Nat):Prop:=∃o,h.get? it=some o/\o.cls= .type "set_iterator"/\o.data= .fields #[first,rawInt i,.ref a,rawInt n,rawInt ep]
theorem ItAt.typeIs{s:Shared}{it a:Addr}{first:Value}{i n ep:Nat}(x:ItAt s.heap it a first i n ep):s.TypeIs (.ref it) "set_iterator":=let ⟨o,ho,hc,_⟩:=x;⟨o,ho,hc⟩
section
variable {prog:Program}{w:World}{A:Around}{E:Value->Shared->Prop}{s:Shared}{a it:Addr}{o:Obj}{es:Array (Int×Value)}{ep i:Nat}{t:SetTable}{fst:Nat->Value}{bG:List Value}
theorem Mw(x:ItAt h it a first i n ep):ItAt ((h.update it (Obj.mapFields (·.setIfInBounds 0 f2))).update it (Obj.mapFields (·.setIfInBounds 1 (rawInt ((i:Int)+1))))) it a f2 (i+1) n ep:=by
 obtain⟨o,ho,hc,hd⟩:=x
 have h1:=Heap.get?_update_self (Obj.mapFields (·.setIfInBounds 0 f2)) ho (zB0 (zBI hd _))
 have cb:=zBI hd (·.setIfInBounds 0 f2)
 refine⟨_,Heap.get?_update_self _ h1 (zB0 (zBI cb _)),(zDP ..).trans ((zDP ..).trans hc),?_⟩
 rw[zBI cb]
 simp
theorem Re(x:ItAt h it a first i n ep):ItAt (h.update it (Obj.mapFields (·.setIfInBounds 1 (rawInt ((i:Int)+1))))) it a first (i+1) n ep:=by
 obtain⟨o,ho,hc,hd⟩:=x
 refine⟨_,Heap.get?_update_self _ ho (zB0 (zBI hd _)),(zDP ..).trans hc,?_⟩
 rw[zBI hd]
 simp
theorem KG(ho:s.heap.get? a=some o)(hd:o.data= .set es ep t)(ok:Gp (BH w) t)(hf:t.fits es.size=true)(hb:BH w=false)(hn:(!t.plain && decide (es.size>1))=false)(hs:slot=if i=0 then 0 else t.place.getD (i-1) 0+1)(hi:i<=es.size)(q:Q (match es[i]?,t.place[i]? with | some (_,x),some j=>some (x,j+1) | _,_=>none) s):wpAny (model prog w) A (setNext a slot i ep) Q E s:=by
 have ar:t.place.size=es.size:=by
  unfold SetTable.fits at hf
  exact beq_iff_eq.mp (Bool.and_eq_true_iff.mp hf).1
 have hbel:SetTable.below t.place slot=i:=by
  rw[hs]
  split
  ·rename_i e;rw[e];exact Lz ok.up
  ·rename_i e
   have h1:i-1<t.place.size:=by omega
   have eg:=Array.getElem?_eq_getElem h1
   have ed:t.place.getD (i-1) 0=t.place[i-1]:=by simp[Array.getD,h1]
   rw[ed,Ln ok.up eg]
   omega
 unfold setNext setsByText
 refine wpAny_bind (wpAny_setState_of ho hd hf ?_)
 dsimp only
 refine wpAny_bind (wpAny_bind (wpAny_askSetting (wpAny_pure ?_)))
 show wpAny _ _ (if BH w=true then _ else _) _ _ _
 rw[hb,if_neg zAC]
 show wpAny _ _ (if (!t.plain && decide (es.size>1))=true then _ else _) _ _ _
 rw[hn,if_neg zAC]
 refine wpAny_bind ?_
 show wpAny _ _ (if (!t.led && !es.isEmpty)=true then _ else _) _ _ _
 rw[ok.led,hb,if_neg (by simp)]
 refine wpAny_pure ?_
 rw[hbel]
 exact wpAny_pure q
theorem IW(ho:s.heap.get? a=some o)(hd:o.data= .set es ep t)(hf:t.fits es.size=true)(hb:BH w=true)(q:Q (((pickOrder (w.params.setOrder a ep) es)[i]?).map fun e=>(e.2,slot)) s):wpAny (model prog w) A (setNext a slot i ep) Q E s:=by
 unfold setNext setsByText
 refine wpAny_bind (wpAny_setState_of ho hd hf ?_)
 dsimp only
 refine wpAny_bind (wpAny_bind (wpAny_askSetting (wpAny_pure ?_)))
 show wpAny _ _ (if BH w=true then _ else _) _ _ _
 rw[hb,if_pos rfl]
 show wpAny _ _ (if (ep != ep)=true then _ else _) _ _ _
 rw[if_neg (by simp)]
 refine wpAny_bind ?_
 unfold setWalk setsByText
 refine wpAny_bind (wpAny_setState_of ho hd hf ?_)
 dsimp only
 refine wpAny_bind (wpAny_bind (wpAny_askSetting (wpAny_pure ?_)))
 show wpAny _ _ (if BH w=true then _ else _) _ _ _
 rw[hb,if_pos rfl]
 refine wpAny_bind (wpAny_askSetting ?_)
 exact wpAny_pure (wpAny_pure q)
theorem N1(ho:s.heap.get? a=some o)(hd:o.data= .set es ep t)(hf:t.fits es.size=true)(hp:es[p]? = some e)(q:Q e.2 s):wpAny (model prog w) A (setNextDrawn a p ep) Q E s:=by
 unfold setNextDrawn
 refine wpAny_bind (wpAny_setState_of ho hd hf ?_)
 dsimp only
 show wpAny _ _ (if (ep != ep)=true then _ else _) _ _ _
 rw[if_neg (by simp)]
 simp only[hp]
 exact wpAny_pure q
theorem NW(e8:ItAt s.heap it a (fst i) i es.size ep)(ho:s.heap.get? a=some o)(hd:o.data= .set es ep t)(ok:Gp (BH w) t)(hf:t.fits es.size=true)(M:Np w a es ep t s.heap fst bG)(hx:bG[i]? = some x)(hl:bG.length=es.size)(hQ:∀h',ItAt h' it a (fst (i+1)) (i+1) es.size ep->Heap.SameBut it s.heap h'->Q (some x) { s with heap:=h' }):wpAny (model prog w) A (pyNext (.ref it)) Q E s:=by
 obtain⟨oi,hoi,hci,hdi⟩:=id e8
 have hix:i<es.size:=by rw[<-hl];exact (List.getElem?_eq_some_iff.mp hx).1
 unfold pyNext
 refine wpAny_bind (wpAny_attempt (wpAny_callSpecial?_slot (name:=Str.ofString "__next__") e8.typeIs slot_setit_next
  (wpAny_call_entry slot_setit_next e8.typeIs Cz ?_ (DL _))))
 show wpAny _ _ (fieldsOf (.ref it) >>= _) _ _ s
 refine wpAny_bind (wpAny_fieldsOf hoi hdi ?_)
 show wpAny _ _ (setEntries a >>= _) _ _ s
 refine wpAny_bind (wpAny_setEntries_of ho hd hf ?_)
 show wpAny _ _ (if (((es.size:Nat):Int) != ((es.size:Nat):Int))=true then _ else _) _ _ _
 rw[if_neg (by simp)]
 have cb:=fun f2:Value=>zBI hdi (·.setIfInBounds 0 f2)
 have dg:=fun f2:Value=>Heap.get?_update_self (Obj.mapFields (·.setIfInBounds 0 f2)) hoi (zB0 (cb f2))
 cases M with
 | text hb=>
  rw[List.getElem?_map] at hx
  obtain⟨e,he,rfl⟩:=Option.map_eq_some_iff.mp hx
  have iJ:(pickOrder (w.params.setOrder a ep) es)[i]? = some e:=by simpa using he
  refine wpAny_bind (IW (i:=i) (ep:=ep) ho hd hf hb ?_)
  rw[iJ]
  refine wpAny_bind (wpAny_setField hoi hdi (by simp) ?_)
  refine wpAny_bind (wpAny_setField (dg _) (cb _) (by simp) (wpAny_pure ⟨e.2,rfl,wpAny_pure (hQ _ (Mw e8) ((zAV ..).trans (zAV ..)))⟩))
 | led hb hn=>
  rw[List.getElem?_map] at hx
  obtain⟨e,he,rfl⟩:=Option.map_eq_some_iff.mp hx
  have iJ:es[i]? = some e:=by simpa using he
  have ar:t.place.size=es.size:=by
   unfold SetTable.fits at hf
   exact beq_iff_eq.mp (Bool.and_eq_true_iff.mp hf).1
  have eG:i<t.place.size:=by omega
  have hp:t.place[i]? = some t.place[i]:=Array.getElem?_eq_getElem eG
  have ed:t.place.getD i 0=t.place[i]:=by simp[Array.getD,eG]
  refine wpAny_bind (KG (i:=i) (ep:=ep) ho hd ok hf hb hn rfl (zBQ hix) ?_)
  rw[iJ,hp]
  refine wpAny_bind (wpAny_setField hoi hdi (by simp) ?_)
  refine wpAny_bind (wpAny_setField (dg _) (cb _) (by simp) (wpAny_pure ⟨e.2,rfl,wpAny_pure (hQ _ ?_ ((zAV ..).trans (zAV ..)))⟩))
  have e2:rawInt (((if i+1=0 then 0 else t.place.getD (i+1-1) 0+1:Nat)):Int)=rawInt ((t.place[i]+1:Nat):Int):=by rw[if_neg (by omega),Nat.add_sub_cancel,ed]
  show ItAt _ it a (rawInt (((if i+1=0 then 0 else t.place.getD (i+1-1) 0+1:Nat)):Int)) (i+1) es.size ep
  rw[e2]
  exact Mw e8
 | drw T oT c ps hb hT hdT dj=>
  rw[List.getElem?_map] at hx
  obtain⟨p,hp,rfl⟩:=Option.map_eq_some_iff.mp hx
  have hpe:p<es.size:=dj p (zAQ hp)
  have ee:es[p]? = some es[p]:=Array.getElem?_eq_getElem hpe
  have ed:es.getD p (0,.none)=es[p]:=by simp[Array.getD,hpe]
  show wpAny _ _ (seqItems? (.ref T) >>= _) _ _ _
  refine wpAny_bind (wpAny_seqItems hT hdT ?_)
  have hpi:((ps.map fun(i:Nat)=>rawInt i).toArray)[i]? = some (rawInt p):=by simp[hp]
  simp only[zB9,hpi]
  refine wpAny_bind (N1 (p:=p) ho hd hf ee ?_)
  refine wpAny_bind (wpAny_setField hoi hdi (by simp) (wpAny_pure ⟨_,rfl,wpAny_pure ?_⟩))
  rw[ed] at hQ
  exact hQ _ (Re e8) (zAV ..)
theorem P0(hh:A.handled=none)(e8:ItAt s.heap it a (fst es.size) es.size es.size ep)(ho:s.heap.get? a=some o)(hd:o.data= .set es ep t)(ok:Gp (BH w) t)(hf:t.fits es.size=true)(M:Np w a es ep t s.heap fst bG)(hl:bG.length=es.size)(hQ:∀h',Heap.ExtBut it s.heap h'->Q none { s with heap:=h' }):wpAny (model prog w) A (pyNext (.ref it)) Q E s:=by
 obtain⟨oi,hoi,hci,hdi⟩:=id e8
 unfold pyNext
 refine wpAny_bind (wpAny_attempt (wpAny_callSpecial?_slot (name:=Str.ofString "__next__") e8.typeIs slot_setit_next
  (wpAny_call_entry slot_setit_next e8.typeIs Cz ?_ (DL _))))
 show wpAny _ _ (fieldsOf (.ref it) >>= _) _ _ s
 refine wpAny_bind (wpAny_fieldsOf hoi hdi ?_)
 show wpAny _ _ (setEntries a >>= _) _ _ s
 refine wpAny_bind (wpAny_setEntries_of ho hd hf ?_)
 show wpAny _ _ (if (((es.size:Nat):Int) != ((es.size:Nat):Int))=true then _ else _) _ _ _
 rw[if_neg (by simp)]
 have cb:=fun f2:Value=>zBI hdi (·.setIfInBounds 0 f2)
 have dg:=fun f2:Value=>Heap.get?_update_self (Obj.mapFields (·.setIfInBounds 0 f2)) hoi (zB0 (cb f2))
 cases M with
 | text hb=>
  have iJ:(pickOrder (w.params.setOrder a ep) es)[es.size]? = none:=by
   rw[List.length_map,zAF] at hl
   simp[hl]
  refine wpAny_bind (IW (i:=es.size) (ep:=ep) ho hd hf hb ?_)
  rw[iJ]
  refine wpAny_bind (wpAny_setField hoi hdi (by simp) ?_)
  refine wpAny_bind ?_
  simp only[newExc,newTuple]
  refine wpAny_bind (wpAny_newObj_type ?_ (by size_fits))
  refine wpAny_bind (m:=firstArgMember _ _) (wpAny_of_eq (a:=Value.none) (by first | rfl | (simp only[firstArgMember];rfl)) ?_)
  refine wpAny_newObj_type ?_ (by size_fits)
  simp only[raiseNew]
  refine wpAny_bind (wpAny_handled ?_)
  rw[show A.in1.handled=none from hh]
  refine wpAny_bind (wpAny_pure (wpAny_throw ?_))
  refine wpAny_bind (wpAny_isInstance (T:="StopIteration") (b:=true) ⟨_,Heap.get?_push_size _ rfl,rfl⟩ isSubtype_stop ?_)
  exact wpAny_pure (hQ _ (((zAV ..).extBut.push _).push _))
 | led hb hn=>
  have iJ:es[es.size]? = none:=by simp
  refine wpAny_bind (KG (i:=es.size) (ep:=ep) ho hd ok hf hb hn rfl (zAA _) ?_)
  rw[iJ]
  refine wpAny_bind (wpAny_setField hoi hdi (by simp) ?_)
  refine wpAny_bind ?_
  simp only[newExc,newTuple]
  refine wpAny_bind (wpAny_newObj_type ?_ (by size_fits))
  refine wpAny_bind (m:=firstArgMember _ _) (wpAny_of_eq (a:=Value.none) (by first | rfl | (simp only[firstArgMember];rfl)) ?_)
  refine wpAny_newObj_type ?_ (by size_fits)
  simp only[raiseNew]
  refine wpAny_bind (wpAny_handled ?_)
  rw[show A.in1.handled=none from hh]
  refine wpAny_bind (wpAny_pure (wpAny_throw ?_))
  refine wpAny_bind (wpAny_isInstance (T:="StopIteration") (b:=true) ⟨_,Heap.get?_push_size _ rfl,rfl⟩ isSubtype_stop ?_)
  exact wpAny_pure (hQ _ (((zAV ..).extBut.push _).push _))
 | drw T oT c ps hb hT hdT dj=>
  rw[List.length_map] at hl
  show wpAny _ _ (seqItems? (.ref T) >>= _) _ _ _
  refine wpAny_bind (wpAny_seqItems hT hdT ?_)
  have hpi:((ps.map fun(i:Nat)=>rawInt i).toArray)[es.size]? = none:=by simp[hl]
  simp only[zB9,hpi]
  refine wpAny_bind (wpAny_setField hoi hdi (by simp) ?_)
  refine wpAny_bind (wpAny_setField (dg _) (cb _) (by simp) ?_)
  refine wpAny_bind ?_
  simp only[newExc,newTuple]
  refine wpAny_bind (wpAny_newObj_type ?_ (by size_fits))
  refine wpAny_bind (m:=firstArgMember _ _) (wpAny_of_eq (a:=Value.none) (by first | rfl | (simp only[firstArgMember];rfl)) ?_)
  refine wpAny_newObj_type ?_ (by size_fits)
  simp only[raiseNew]
  refine wpAny_bind (wpAny_handled ?_)
  rw[show A.in1.handled=none from hh]
  refine wpAny_bind (wpAny_pure (wpAny_throw ?_))
  refine wpAny_bind (wpAny_isInstance (T:="StopIteration") (b:=true) ⟨_,Heap.get?_push_size _ rfl,rfl⟩ isSubtype_stop ?_)
  exact wpAny_pure (hQ _ ((((zAV ..).trans (zAV ..)).extBut.push _).push _))
end
end L2
namespace L2
open PySem PySem.Spec PyProof.Rows
theorem DA{α:Type}:∀(l:List α)(i:Nat)(h:i<l.length),(l[i]::l.eraseIdx i).Perm l
 | x::xs,0,_=>zBV _
 | x::xs,i+1,h=>by
  have h':i<xs.length:=zCZ h
  exact (List.Perm.swap x xs[i] (xs.eraseIdx i)).trans (List.Perm.cons x (DA xs i h'))
theorem I9{α:Type}(next:Nat->Nat):∀(fuel k:Nat)(left:List α)(gu:Array α),fuel=left.length->(pickOrder.go next fuel k left gu).toList.Perm (gu.toList++left)
 | 0,_,left,gu,h=>by
  have e:left=[]:=List.length_eq_zero_iff.mp h.symm
  subst e
  unfold pickOrder.go
  simp
 | fuel+1,k,left,gu,h=>by
  unfold pickOrder.go
  have hp:0<left.length:=by omega
  have hi:next k%left.length<left.length:=Nat.mod_lt _ hp
  rw[List.getElem?_eq_getElem hi]
  have hl:fuel=(left.eraseIdx (next k%left.length)).length:=by rw[zC8,if_pos hi];omega
  refine (I9 next fuel (k+1) _ _ hl).trans ?_
  rw[Array.toList_push,zCF]
  exact List.Perm.append_left _ (DA _ _ hi)
theorem D5{α:Type}(next:Nat->Nat)(xs:Array α):(pickOrder next xs).toList.Perm xs.toList:=by
 unfold pickOrder
 have:=I9 next xs.size 0 xs.toList #[] (zAF).symm
 simpa using this
section
variable {prog:Program}{w:World}{A:Around}{E:Value->Shared->Prop}{s:Shared}{a it T0:Addr}{o oT:Obj}{es:Array (Int×Value)}{ep i:Nat}{t:SetTable}{fst:Nat->Value}{bG:List Value}{ks:List Int}
theorem Jm(hn:n≠0)(h:∀i,i<n->Q i { s with drawn:=s.drawn.bump src }):wpAny M A (choose src n) Q E s:=
 fun Γ p _=>⟨hn,h _ (Nat.mod_lt _ (Nat.pos_of_ne_zero hn))⟩
theorem Lx{α:Type}:∀(n:Nat)(xs:List α)(s:Shared)(Q:List α->Shared->Prop),xs.length=n->(∀ys d',ys.Perm xs->Q ys { s with drawn:=d' })->wpAny M A (drawOrder n xs) Q E s:=by
 intro n
 induction n with
 | zero=>
  intro xs s Q h q
  have e:xs=[]:=List.length_eq_zero_iff.mp h
  subst e
  exact wpAny_pure (q [] s.drawn (zBV _))
 | succ n ih=>
  intro xs s Q h q
  cases xs with
  | nil=>exact absurd h (Nat.succ_ne_zero n).symm
  | cons x xs=>
   unfold drawOrder
   refine wpAny_bind (Jm (by simp) fun i hi=>?_)
   rw[List.getElem?_eq_getElem hi]
   have hl:((x::xs).eraseIdx i).length=n:=by rw[zC8,if_pos hi,h];rfl
   refine wpAny_bind (ih _ _ _ hl fun ys d' hp=>?_)
   exact wpAny_pure (q _ d' ((List.Perm.cons _ hp).trans (DA _ _ hi)))
structure TJ(w:World)(s:Shared)(a:Addr)(ks:List Int)(h':Heap)(it T0:Addr)(o oT:Obj)(es:Array (Int×Value))(ep:Nat)(t:SetTable)(fst:Nat->Value)(bG:List Value):Prop where
 lo:s.heap.objs.size<=it
 kk:∀b o,s.heap.get? b=some o->h'.get? b=some o
 at':ItAt h' it a (fst 0) 0 es.size ep
 ho:h'.get? a=some o
 hd:o.data= .set es ep t
 ok:Gp (BH w) t
 hf:t.fits es.size=true
 hT:h'.get? T0=some oT
 ne:T0≠it
 md:∀dU,dU.get? T0=some oT->Np w a es ep t dU fst bG
 pm:bG.Perm (es.toList.map (·.2))
 eg:EGood es.toList
 ek:es.toList.map A8=ks
 tl:T0=a\/s.heap.objs.size<=T0
theorem OI(hS:SetIt w s.heap a ks)(hQ:∀h' d' it T0 o oT es ep t fst bG,TJ w s a ks h' it T0 o oT es ep t fst bG->Q (.ref it) { s with heap:=h',drawn:=d' }):wpAny (model prog w) A (pyIter (.ref a)) Q E s:=by
 obtain⟨o,es,ep,t,ho,bY,hd,hg,hk,nd,hl,ok,hf⟩:=id hS
 have hna:a<s.heap.objs.size:=zAB ho
 refine wpAny_pyIter_slot hS.typeIs PySem.F.slot_set_iter (wpAny_call_entry PySem.F.slot_set_iter hS.typeIs Hv ?_ (PySem.F.args_set_iter_1 _))
 show wpAny _ _ (Builtin.Frozenset.sizeOf a >>= _) _ _ s
 refine wpAny_bind ?_
 unfold Builtin.Frozenset.sizeOf
 refine wpAny_bind (wpAny_setEntries_of ho hd hf (wpAny_pure ?_))
 refine wpAny_bind ?_
 unfold setDrawn setsByText
 refine wpAny_bind (wpAny_setState_of ho hd hf ?_)
 dsimp only
 refine wpAny_bind (wpAny_bind (wpAny_askSetting (wpAny_pure (wpAny_pure ?_))))
 show wpAny _ _ (if (!BH w && (!t.plain && decide (es.size>1)))=true then _ else _) _ _ _
 by_cases hdr:(!BH w && (!t.plain && decide (es.size>1)))=true
 ·rw[if_pos hdr]
  have hb:BH w=false:=by
   cases q:BH w with
   | false=>rfl
   | true=>rw[q] at hdr;cases hdr
  refine wpAny_bind (Lx _ _ _ _ (List.length_range) fun ps d' hp=>?_)
  refine wpAny_bind (wpAny_newTuple ?_ (by rw[List.length_map,hp.length_eq,List.length_range,DK hk];exact zBQ (zCI hl (by decide))))
  have kk:∀b ob,s.heap.get? b=some ob->(s.heap.push { cls:=.type "tuple",data:=.seq (ps.map fun(i:Nat)=>rawInt i).toArray }).get? b=some ob:=fun b ob e=>Heap.get?_push_of_some _ e
  refine wpAny_bind ?_
  unfold setEpoch
  refine wpAny_bind (wpAny_setState_of (kk _ _ ho) hd hf (wpAny_pure ?_))
  refine wpAny_bind (wpAny_newObj_type (wpAny_pure ⟨_,rfl,"set_iterator",_,⟨_,Heap.get?_push_size _ rfl,rfl⟩,slot_setit_next.lookup,?_⟩))
  refine hQ _ d' _ s.heap.objs.size o _ es ep t (fun _=>.ref s.heap.objs.size) _ ⟨?_,fun b ob e=>Heap.get?_push_of_some _ (kk b ob e),⟨_,Heap.get?_push_size _ rfl,rfl,rfl⟩,Heap.get?_push_of_some _ (kk _ _ ho),hd,ok,hf,Heap.get?_push_of_some _ (Heap.get?_push_size _ rfl),?_,fun dU e=>.drw _ _ _ ps hb e rfl ?_,?_,hg,hk,.inr (zAA _)⟩
  ·rw[zAU];exact zBT _
  ·rw[zAU];exact zAE (zB7 _)
  ·exact fun p hp'=>List.mem_range.mp (hp.mem_iff.mp hp')
  ·refine (hp.map _).trans ?_
   have e:(List.range es.size).map (fun p=>(es.getD p (0,.none)).2)=es.toList.map (·.2):=by
    refine zCK (by simp) fun n h1 h2=>?_
    have hn:n<es.size:=by simpa using h1
    simp[Array.getD,hn]
   rw[e]
 ·rw[if_neg hdr]
  refine wpAny_bind (wpAny_pure ?_)
  refine wpAny_bind ?_
  unfold setEpoch
  refine wpAny_bind (wpAny_setState_of ho hd hf (wpAny_pure ?_))
  refine wpAny_bind (wpAny_newObj_type (wpAny_pure ⟨_,rfl,"set_iterator",_,⟨_,Heap.get?_push_size _ rfl,rfl⟩,slot_setit_next.lookup,?_⟩))
  have kk:∀b ob,s.heap.get? b=some ob->(s.heap.push { cls:=.type "set_iterator",data:=.fields #[rawInt 0,rawInt 0,.ref a,rawInt es.size,rawInt ep] }).get? b=some ob:=fun b ob e=>Heap.get?_push_of_some _ e
  cases hb:BH w with
  | true=>
   refine hQ _ s.drawn _ a o o es ep t (fun _=>rawInt 0) _ ⟨zAA _,kk,⟨_,Heap.get?_push_size _ rfl,rfl,rfl⟩,kk _ _ ho,hd,ok,hf,kk _ _ ho,zAE hna,fun dU e=>.text hb,(D5 _ _).map _,hg,hk,.inl rfl⟩
  | false=>
   rw[hb] at hdr
   refine hQ _ s.drawn _ a o o es ep t (fun i=>rawInt (((if i=0 then 0 else t.place.getD (i-1) 0+1:Nat)):Int)) _ ⟨zAA _,kk,⟨_,Heap.get?_push_size _ rfl,rfl,rfl⟩,kk _ _ ho,hd,ok,hf,kk _ _ ho,zAE hna,fun dU e=>.led hb (by simpa using hdr),zBV _,hg,hk,.inl rfl⟩
theorem Ou(hh:A.handled=none)(I:TJ w s0 a ks h0 it T0 o oT es ep t fst bG):Walks prog w A it [it,a,T0] [it] es.size (fun i v=>bG[i]? = some v) (fun i h=>ItAt h it a (fst i) i es.size ep/\h.get? a=some o/\h.get? T0=some oT):=by
 have hl:bG.length=es.size:=by rw[I.pm.length_eq,List.length_map,zAF]
 have na:a≠it:=fun e=>by
  obtain⟨oi,h1,_,h3⟩:=I.at'
  subst e
  rw[I.ho] at h1;cases h1
  rw[I.hd] at h3;cases h3
 refine⟨fun b hb=>by simp at hb;simp[hb],fun i h h' st k=>?_,fun i s Q E hi st hQ=>?_,fun s Q E st hQ=>?_,fun i s Q E st hQ=>?_⟩
 ·obtain⟨⟨oi,h1,r⟩,h2,h3⟩:=st
  exact⟨⟨oi,k it (by simp) _ h1,r⟩,k a (by simp) _ h2,k T0 (by simp) _ h3⟩
 ·obtain⟨h1,h2,h3⟩:=st
  have hx:bG[i]? = some bG[i]:=List.getElem?_eq_getElem (by omega)
  refine NW h1 h2 I.hd I.ok I.hf (I.md _ h3) hx hl fun h' it' sb=>?_
  exact hQ _ h' s.toks hx ⟨it',(sb.2 a na).trans h2,(sb.2 T0 I.ne).trans h3⟩ fun b ob hb e=>(sb.2 b (by simpa using hb)).trans e
 ·obtain⟨h1,h2,h3⟩:=st
  refine P0 hh h1 h2 I.hd I.ok I.hf (I.md _ h3) hl fun h' eb=>?_
  exact hQ h' s.toks fun b ob hb e=>eb b ob (by simpa using hb) e
 ·obtain⟨h1,h2,h3⟩:=st
  refine wpAny_pyIter_slot h1.typeIs DN (wpAny_call_entry DN h1.typeIs FY ?_ (GU _))
  exact wpAny_pure ⟨_,rfl,"set_iterator",_,h1.typeIs,slot_setit_next.lookup,hQ⟩
end
end L2
namespace L2
open PySem PySem.Spec PyProof.Rows
theorem Qo{es:Array (Int×Value)}{bG:List Value}{ks:List Int}(pm:bG.Perm (es.toList.map (·.2)))(eg:EGood es.toList)(ek:es.toList.map A8=ks):∃ns,IntsAre bG ns/\ns.Perm ks:=by
 let vk:Value->Int:=fun v=>match v with | .int k _=>k | _=>0
 have each:∀v∈bG,∃t,v= .int (vk v) t:=fun v hv=>by
  obtain⟨e,he,rfl⟩:=List.mem_map.mp (pm.mem_iff.mp hv)
  obtain⟨_,t,h2⟩:=eg e he
  exact⟨t,h2⟩
 refine⟨bG.map vk,?_,?_⟩
 ·clear pm
  induction bG with
  | nil=>exact .nil
  | cons v r ih=>
   obtain⟨t,e⟩:=each v List.mem_cons_self
   have:=ih fun x hx=>each x (List.mem_cons_of_mem _ hx)
   rw[zBL]
   generalize vk v=k at e
   subst e
   exact .cons k t this
 ·refine (pm.map vk).trans ?_
  rw[zB3,<-ek]
  exact zBV _
section
variable {prog:Program}{w:World}{A:Around}{E:Value->Shared->Prop}{s:Shared}{a:Addr}{ks:List Int}
theorem OB(hS:SetIt w s.heap a ks)(q:Q false s):wpAny (model prog w) A (Builtin.List.listLengthHint (.ref a)) Q E s:=by
 unfold Builtin.List.listLengthHint
 refine wpAny_bind (wpAny_specialOf hS.typeIs slot_set_len'.lookup ?_)
 have cY:splitId "set.__len__"=some ("set","__len__"):=by decide +kernel
 simp only[cY]
 refine wpAny_bind (wpAny_isInstance hS.typeIs sub_set_self ?_)
 rw[if_neg (by simp)]
 show wpAny _ _ (typeOf (.ref a) >>= _) _ _ _
 refine wpAny_bind (wpAny_typeOf hS.typeIs ?_)
 exact wpAny_pure q
theorem Ks(hh:A.handled=none)(hS:SetIt w s.heap a ks)(hQ:∀(s':Shared) (acc:List Value) (ns:List Int),s.heap.objs.size<=s'.heap.objs.size->(∀b o,s.heap.get? b=some o->s'.heap.get? b=some o)->s'.gens=s.gens->s'.os=s.os->IntsAre acc ns->ns.Perm ks->Q acc s'):
  wpAny (model prog w) A (collect (.ref a)) Q E s:=by
 obtain⟨o0,es0,ep0,t0,ho0,_,_,_,ir,_,aU,_⟩:=id hS
 have aO:a<s.heap.objs.size:=zAB ho0
 unfold collect
 refine wpAny_bind (wpAny_runValue (codeAny_builtin F.entry_proto_collect ?_))
 rw[zCA F.plain_proto_collect _]
 show wpAny _ A.in1 (newList [] >>= fun l=>again (.builtin "list.__iadd__" ⟨[l,.ref a],[]⟩)) _ _ s
 refine wpAny_bind (wpAny_newObj_type ?_)
 refine wpAny_pure ⟨plainId_quiet F.plain_list_iadd _,codeAny_builtin F.entry_list_iadd ?_⟩
 rw[zCA F.plain_list_iadd _]
 have kk1:∀b ob,s.heap.get? b=some ob->(s.heap.push { cls:=.type "list",data:=.seq ([]:List Value).toArray }).get? b=some ob:=fun b ob e=>Heap.get?_push_of_some _ e
 have fz:SetIt w ({ s with heap:=s.heap.push { cls:=.type "list",data:=.seq ([]:List Value).toArray } }:Shared).heap a ks:=hS.keep fun ob e=>kk1 _ _ e
 show wpAny _ A.in1 (Builtin.List.listExtendWith (.ref s.heap.objs.size) (.ref a) (.ref s.heap.objs.size)) _ _ _
 unfold Builtin.List.listExtendWith
 refine wpAny_bind (wpAny_typeOf fz.typeIs ?_)
 have h1:Builtin.List.listSameRef (.ref s.heap.objs.size) (.ref a)=false:=by simp[Builtin.List.listSameRef];exact zBR aO
 have h2:(Value.type "set" == Value.type "list")=false:=by decide
 have h3:(Value.type "set" == Value.type "tuple")=false:=by decide
 simp only[h1,h2,h3,zDL,zB2,if_false]
 refine wpAny_bind (OI fz fun h' d' it T0 o oT es ep t fst bG I=>?_)
 have bZ:SetIt w ({ s with heap:=h',drawn:=d' }:Shared).heap a ks:=fz.keep fun ob e=>I.kk _ _ e
 refine wpAny_bind (wpAny_holding (OB (s:={ s with heap:=h',drawn:=d' }) bZ ?_))
 show wpAny _ A.in1 (rule "list.extend.makes-room" >>= fun _=>Builtin.List.listTouch (.ref s.heap.objs.size) >>= fun _=>
  again (.builtin "list.extend.loop" ⟨[.ref s.heap.objs.size,.ref it,.ref s.heap.objs.size],[]⟩)) _ _ _
 refine wpAny_bind (wpAny_rule ?_)
 have hS₁:h'.get? s.heap.objs.size=some { cls:=.type "list",data:=.seq ([]:List Value).toArray }:=I.kk _ _ (Heap.get?_push_size _ rfl)
 refine wpAny_bind ?_
 show wpAny _ A.in1 (updateSeq s.heap.objs.size (·.push .none) >>= fun _=>updateSeq s.heap.objs.size (·.pop)) _ _ _
 refine wpAny_bind (wpAny_updateSeq hS₁ rfl ?_)
 have hS₂:=Heap.get?_update_self (Obj.mapSeq (·.push Value.none)) hS₁ rfl
 refine wpAny_updateSeq hS₂ rfl ?_
 have hS₃:=Heap.get?_update_self (Obj.mapSeq (·.pop)) hS₂ rfl
 have ji:∀b ob,b≠s.heap.objs.size->h'.get? b=some ob->((h'.update s.heap.objs.size (Obj.mapSeq (·.push Value.none))).update s.heap.objs.size (Obj.mapSeq (·.pop))).get? b=some ob:=
  fun b ob hb e=>(Heap.get?_update_other _ _ (zA7 hb)).trans ((Heap.get?_update_other _ _ (zA7 hb)).trans e)
 have esz:({ s with heap:=s.heap.push { cls:=.type "list",data:=.seq ([]:List Value).toArray } }:Shared).heap.objs.size=s.heap.objs.size+1:=zAU _ _
 have nit:it≠s.heap.objs.size:=zBR (by have:=I.lo;rw[esz] at this;exact this)
 have nT:T0≠s.heap.objs.size:=by
  rcases I.tl with z | z
  ·rw[z];exact zAE aO
  ·exact zBR (by rw[esz] at z;exact z)
 have hSf:s.heap.objs.size∉[it,a,T0]:=by
  simp only[zAS,zAR,or_false,not_or]
  exact⟨zA7 nit,zBR aO,zA7 nT⟩
 have W:=(Ou (prog:=prog) (A:=A.in1) (by simpa using hh) I).toS
 have hn:es.size<=sizeLine:=by rw[DK I.ek];exact zBQ (zCI aU (by decide))
 obtain⟨oi,hoi,ri⟩:=I.at'
 refine wpAny_pure ⟨plainId_quiet F.plain_extend_loop _,codeAny_extend_loopS W hn _ hSf _ es.size 0 _ _ _ rfl (zA9 _) ⟨⟨oi,ji _ _ nit hoi,ri⟩,ji _ _ (zAE aO) I.ho,ji _ _ nT I.hT⟩ hS₃ (ItemsOf.nil _) fun s' aR c' hm aQ ah=>?_⟩
 show wpAny _ A (load s.heap.objs.size >>= _) _ _ s'
 refine wpAny_bind (wpAny_load aQ ?_)
 have hl:bG.length=es.size:=by rw[I.pm.length_eq,List.length_map,zAF]
 have eo:aR.toList=bG:=by
  refine zCK (by rw[zAF,ah.1,hl]) fun n h1 h2=>?_
  have hn1:n<aR.size:=by simpa using h1
  have:bG[n]? = some aR[n]:=ah.2 n _ (Array.getElem?_eq_getElem hn1)
  rw[List.getElem?_eq_getElem h2] at this
  have:=zAP this
  simpa using this.symm
 obtain⟨ns,hi,hp⟩:=Qo I.pm I.eg I.ek
 refine wpAny_pure (hQ s' aR.toList ns (zBQ (zAB aQ)) (fun b ob e=>?_) hm.gens hm.os (by rw[eo];exact hi) hp)
 have hb:b<s.heap.objs.size:=zAB e
 refine hm.heap b ob ?_ (ji b ob (zAE hb) (I.kk _ _ (kk1 _ _ e)))
 simp only[zAS,zAR,or_false,not_or]
 exact⟨zAE hb,zAE (zCI hb (by have:=I.lo;rw[esz] at this;exact this))⟩
theorem Lq(hh:A.handled=none)(hS:SetIt w s.heap a ks)(h64:ks.length<64)(h:∀(s':Shared) (l:Addr) (gu:Array Value) (n:Nat) (ns:List Int),(∀b o,s.heap.get? b=some o->s'.heap.get? b=some o)->s'.gens=s.gens->s'.os=s.os->s.heap.objs.size<=l->s'.heap.get? l=some (seqObj "list" gu n)->IntsAre gu.toList ns->ns.Perm ks->ns.Pairwise (· <= ·)->Q (.ref l) s'):
  wpAny (model prog w) A (call (.builtin "sorted") [.ref a]) Q E s:=by
 refine Calls.call_function_entry kind_sorted plain_sorted entry_sorted (args_sorted1 _) ?_
 unfold Builtin.«sorted»
 refine wpAny_bind (m:=checkCount "sorted" 1 1 _) (wpAny_pure ?_)
 refine wpAny_bind (Ks (by simpa using hh) hS fun s1 vs ns1 lo kk eg eo hi hp=>?_)
 have ag:vs.length<64:=by rw[IntsAre.length hi,hp.length_eq];exact h64
 refine wpAny_bind (wpAny_newList ?_ (zBQ (zCI ag (by decide))))
 have hoL:(s1.heap.push (seqObj "list" vs.toArray 0)).get? s1.heap.objs.size=some (seqObj "list" vs.toArray 0):=Heap.get?_push_size _ rfl
 show wpAny _ _ _ _ _ { s1 with heap:=s1.heap.push (seqObj "list" vs.toArray 0) }
 refine wpAny_bind (wpAny_holding (wpAny_call_entry slot_list_sort ⟨_,hoL,rfl⟩ entry_list_sort (list_sort_tree hoL hi ag fun gu ns' a1 a2 a3=>⟨_,rfl,?_⟩) (args_list_sort _)))
 refine wpAny_pure ⟨_,rfl,?_⟩
 obtain⟨e1,dg⟩:∃e1,((s1.heap.push (seqObj "list" vs.toArray 0)).update s1.heap.objs.size (Obj.mapSeq fun _=>#[])).get? s1.heap.objs.size=some (seqObj "list" #[] e1):=⟨_,get?_update_seq hoL (fun _=>#[])⟩
 have ho2:((((s1.heap.push (seqObj "list" vs.toArray 0)).update s1.heap.objs.size (Obj.mapSeq fun _=>#[])).push (seqObj "tuple" vs.toArray 0)).push (seqObj "list" #[] 0)).get? s1.heap.objs.size=some (seqObj "list" #[] e1):=Heap.get?_push_of_some _ (Heap.get?_push_of_some _ dg)
 refine h _ s1.heap.objs.size gu _ ns' (fun b ob e=>?_) eg eo lo (get?_update_seq ho2 (fun _=>gu)) a1 (a2.trans hp) a3
 have e2:=kk b ob e
 have nb:b≠s1.heap.objs.size:=zAE (zAB e2)
 exact (Heap.get?_update_other _ _ (zA7 nb)).trans (Heap.get?_push_of_some _ (Heap.get?_push_of_some _ ((Heap.get?_update_other _ _ (zA7 nb)).trans (Heap.get?_push_of_some _ e2))))
end
end L2
namespace L2
open PySem PySem.Spec PyProof.Rows
abbrev Bn(w:World)(a:Addr)(S:Int->Bool)(n:Nat):HO:=.ext fun h=>∃ks,SetIs w h a ks/\(∀k,S k=true↔k∈ks)/\ks.length<=n
theorem El(x:SetIs w h a ks)(m:∀k,S k=true↔k∈ks)(hl:ks.length<=n):ObjOk P w H h a (Bn w a S n):=
 ⟨⟨ks,x,m,hl⟩,let ⟨o,_,_,_,ho,_⟩:=x;⟨o,ho⟩,fun h1 h2 ⟨ks,y,r⟩ k=>⟨ks,y.keep k,r⟩⟩
section
variable {X:Cx}
theorem Inv.setO(I:Inv X pins σ H s)(h:H a=some (Bn X.w a S n)):∃ks,SetIs X.w s.heap a ks/\(∀k,S k=true↔k∈ks)/\ks.length<=n:=(I.hok _ _ h).1
theorem NR:BP X (.type "set") (fun xs H Q=>xs=[]/\∀a,H a=none->Q (.ref a) (upd H a (Bn X.w a (fun _=>false) 0))):=by
 intro pins s σ H xs us Q I r h
 obtain⟨rfl,q⟩:=h
 cases r
 refine Ox (w:=X.w) ⟨.ref s.heap.objs.size,_,I.laid (t':=s.toks) (o:=Bn X.w s.heap.objs.size (fun _=>false) 0) (fun b ob e=>Heap.get?_push_of_some _ e) (zAA _) ?_,rfl,q _ (I.hok.fresh (zAA _))⟩
 exact El set0_is (fun k=>by simp) (zAA _)
abbrev Om(w:World)(a:Addr)(S:Int->Bool)(n:Nat):HO:=.ext fun h=>∃ks,SetIt w h a ks/\(∀k,S k=true↔k∈ks)/\ks.length<=n
theorem QU(x:SetIt w h a ks)(m:∀k,S k=true↔k∈ks)(hl:ks.length<=n):ObjOk P w H h a (Om w a S n):=
 ⟨⟨ks,x,m,hl⟩,let ⟨o,_,_,_,ho,_⟩:=x;⟨o,ho⟩,fun h1 h2 ⟨ks,y,r⟩ k=>⟨ks,y.keep k,r⟩⟩
theorem Inv.setR(I:Inv X pins σ H s)(h:H a=some (Om X.w a S n)):∃ks,SetIt X.w s.heap a ks/\(∀k,S k=true↔k∈ks)/\ks.length<=n:=(I.hok _ _ h).1
theorem DT(hc:X.calm=true){pins:List (Addr×Obj)}{ks:List Int}{S:Int->Bool}{n:Nat}(I:Inv X pins σ H s)(hS:SetIt X.w s.heap a ks)(hm:∀k,S k=true↔k∈ks)(hl:ks.length<=n)(hn:n<64)(q:∀(l:Addr) (ns:List Int),H l=none->ns.Pairwise (· < ·)->(∀k,k∈ns↔S k=true)->Q (.ref l) (upd H l (.lst (ns.map V.int)))):wpAny (model X.prog X.w) X.A (call (.builtin "sorted") [.ref a]) (EP X pins σ Q) X.xe s:=by
 have ndk:ks.Nodup:=let ⟨_,_,_,_,_,_,_,_,_,nd,_⟩:=hS;nd
 refine Lq (w:=X.w) (I.ok.hd hc) hS (by omega) fun s' l gu c ns kk eg eo lo cq hi hp hs=>?_
 have nd:ns.Nodup:=hp.nodup_iff.mpr ndk
 have lt:ns.Pairwise (· < ·):=(List.Pairwise.and hs nd).imp fun {x y} h=>by have h1:=h.1;have h2:=h.2;omega
 have jj:H l=none:=I.hok.fresh lo
 have fu:∀b u,H b=some u->upd H l (.lst (ns.map V.int)) b=some u:=fun b u e=>by rw[Ax (An e jj)];exact e
 have len:(ns.map V.int).length<=sizeLine:=by
  rw[List.length_map,hp.length_eq]
  exact zBQ (zDI hl (zCI hn (by decide)))
 have un:Un (Ib X.stack) [] H (upd H l (.lst (ns.map V.int))) s.heap s'.heap:=
  ⟨fun b o e _ _ _=>kk b o e,fun b o e _ _ _=>⟨o.slots,kk b o e⟩,fun b o e n _=>by rw[Ax (zAE (zAJ (zAB e) lo))];exact n,fun b o e _=>⟨o,kk b o e⟩,fun b xs e=>fu b _ e,fun b o u e=>fu b _ e,fun b ps e=>⟨#[],by rw[fu b _ e];simp⟩⟩
 have hok:HOk X.prog X.w (upd H l (.lst (ns.map V.int))) s'.heap:=fun b u e=>by
  by_cases z:b=l
  ·subst z
   rw[upd_same] at e
   cases e
   exact⟨len,gu.toList,c,FC hi,by rw[cq,zC9]⟩
  ·rw[Ax z] at e
   exact (I.hok b u e).stay (fun c v _ e=>kk c v e) (fun c e=>fu c _ e) fun c xs e=>fu c _ e
 exact⟨.ref l,_,I.call' (ch:=[]) eo un hok (by rw[eg];exact I.bare) (fun b hb=>absurd hb (by simp)),rfl,q l ns jj lt fun k=>by rw[hp.mem_iff];exact (hm k).symm⟩
theorem DI(hc:X.calm=true):BP X (.builtin "sorted") (fun xs H Q=>∃a S n,xs=[.ref a]/\H a=some (Bn X.w a S n)/\n<64/\∀(l:Addr)(ns:List Int),H l=none->ns.Pairwise (· < ·)->(∀k,k∈ns↔S k=true)->Q (.ref l) (upd H l (.lst (ns.map V.int)))):=by
 intro pins s σ H xs us Q I r h
 obtain⟨a,S,n,rfl,ha,hn,q⟩:=h
 obtain⟨u,rfl,ru⟩:=Ci r
 cases ru
 obtain⟨ks,hS,hm,hl⟩:=I.setO ha
 exact DT hc I hS.it hm hl hn q
theorem JW(hc:X.calm=true):BP X (.builtin "sorted") (fun xs H Q=>∃a S n,xs=[.ref a]/\H a=some (Om X.w a S n)/\n<64/\∀(l:Addr)(ns:List Int),H l=none->ns.Pairwise (· < ·)->(∀k,k∈ns↔S k=true)->Q (.ref l) (upd H l (.lst (ns.map V.int)))):=by
 intro pins s σ H xs us Q I r h
 obtain⟨a,S,n,rfl,ha,hn,q⟩:=h
 obtain⟨u,rfl,ru⟩:=Ci r
 cases ru
 obtain⟨ks,hS,hm,hl⟩:=I.setR ha
 exact DT hc I hS hm hl hn q
variable {o e:Expr}{es:List Expr}{to:TE}{t:TA}{bj aK:Pos}
def Uc(X:Cx)(to:TE)(t:TA):TE:=fun σ H Q=>to σ H fun x H1=>∃a S n,x= .ref a/\H1 a=some (Bn X.w a S n)/\t σ H1 fun xs H2=>∃k S2 n2,xs=[.int k]/\H2 a=some (Bn X.w a S2 n2)/\n2+1<2000/\Q .non (upd H2 a (Bn X.w a (fun j=>S2 j || decide (j=k)) (n2+1)))
theorem QT(ho:PE X o to)(hp:PA X (e::es) t)(bt:attributeBase o "add" X.env (eval o X.env)=eval o X.env:=by rfl)(hfew:((backTo aK (starEach (e::es) X.env)).all (fun x=>!x.1) && (backToKw aK (keywordEach [] X.env)).all (fun x=>x.1.isSome)
   && decide ((e::es).length+([]:List Keyword).length+(if ([]:List Keyword).isEmpty then 0 else 1)<30))=true:=by rfl)(cZ:(bj.endLine == aK.line)=true:=by rfl)(hs:starEach (e::es) X.env=(false,eval e X.env)::starEach es X.env:=by rfl)(eD:(backTo aK (starEach es X.env)).any (·.1)=false:=by rfl):
  PE X (.Call (.Attribute o "add" bj) (e::es) [] aK) (Uc X to t):=by
 intro pins s σ H Q I h
 refine wpAny_Call_method_late bt hfew cZ rfl (AX (ho pins s σ H _ I h) fun v s1 ⟨x,H1,I1,r1,a,S,n,ex,ha,q1⟩=>?_)
 subst ex
 cases r1
 obtain⟨ks,hS,hm,hl⟩:=I1.setO ha
 refine⟨"set","set.add",PySem.F.plainAttrs_set,PySem.F.slot_set_add,PySem.F.type_set_add,hS.typeIs,fun b eb=>hS.noDict b eb,?_⟩
 have hA:=hp aK pins s1 σ H1 _ I1 q1
 rw[hs] at hA ⊢
 refine zCX (by show (false || (backTo aK (starEach es X.env)).any (·.1))=false;rw[eD]<;>rfl) (Calls.evalArgs_plain ?_)
 refine AX hA fun us s2 ⟨vs,H2,I2,r2,k,S2,n2,ek,ha2,gs,q2⟩=>?_
 subst ek
 obtain⟨u,rfl,ru⟩:=Ci r2
 obtain⟨tk,rfl⟩:=ru
 obtain⟨ks2,bZ,aW,aC⟩:=I2.setO ha2
 refine J7 (w:=X.w) bZ (by omega) fun h' bf bF aQ cz cq=>?_
 have mu:Tq (H2 a):=by rw[ha2];exact True.intro
 refine⟨.non,_,I2.write (x:=a) (e:=a) (t':=s2.toks+1) mu (.inl rfl) (fun b ob nb eb=>(bF.2 b nb).trans eb) (let ⟨o,_,_,_,ho,_⟩:=aQ;⟨o,ho⟩) (El aQ (fun j=>?_) (by omega)),rfl,q2⟩
 rw[cz j,zBJ,decide_eq_true_eq,aW j]
end
end L2
namespace L2
open PySem PySem.Spec PyProof.Rows
theorem JT:∀(names:List (Str×NameKind))(h:Heap)(acc:List (Str×Addr))(n:Str)(c:Addr),(cellsFrom h.objs.size names acc).lookup n=some c->acc.lookup n=some c\/(h.objs.size<=c/\(pushCells h names).IsCell c none)
 | [],_,_,_,_,e=>.inl e
 | (name,kind)::r,h,acc,n,c,e=>by
  unfold cellsFrom at e
  unfold pushCells
  split at e
  ·rename_i hk
   rw[if_pos hk]
   have e':(cellsFrom (h.push { cls:=.type "cell",data:=.cell none }).objs.size r ((name,h.objs.size)::acc)).lookup n=some c:=by rw[zAU];exact e
   rcases JT r _ _ n c e' with z | ⟨z1,z2⟩
   ·rw[zC3] at z
    cases hb:n == name with
    | true=>
     rw[hb] at z
     cases z
     exact .inr ⟨zAA _,_,pushCells_keeps r _ _ _ (Heap.get?_push_size _ rfl),rfl⟩
    | false=>rw[hb] at z;exact .inl z
   ·rw[zAU] at z1
    exact .inr ⟨by omega,z2⟩
  ·rename_i hk
   rw[if_neg hk]
   exact JT r h acc n c e
theorem Ma:∀(names:List (Str×NameKind))(k:Nat)(acc:List (Str×Addr)),(∀x y c,acc.lookup x=some c->acc.lookup y=some c->x=y)->(∀x c,acc.lookup x=some c->c<k)->∀x y c,(cellsFrom k names acc).lookup x=some c->(cellsFrom k names acc).lookup y=some c->x=y
 | [],_,_,hi,_,x,y,c,e1,e2=>hi x y c e1 e2
 | (name,kind)::r,k,acc,hi,hl,x,y,c,e1,e2=>by
  unfold cellsFrom at e1 e2
  split at e1
  ·rename_i hk
   rw[if_pos hk] at e2
   have look:∀x c,((name,k)::acc).lookup x=some c->(x=name/\c=k)\/acc.lookup x=some c:=fun x c e=>by
    rw[zC3] at e
    cases hb:x == name with
    | true=>rw[hb] at e;cases e;exact .inl ⟨beq_iff_eq.mp hb,rfl⟩
    | false=>rw[hb] at e;exact .inr e
   refine Ma r (k+1) _ (fun x y c h1 h2=>?_) (fun x c h=>?_) x y c e1 e2
   ·rcases look x c h1 with⟨a,b⟩|a<;>rcases look y c h2 with⟨a',b'⟩|a'
    ·rw[a,a']
    ·have:=hl y c a';rw[b] at this;exact absurd this (zBY _)
    ·have:=hl x c a;rw[b'] at this;exact absurd this (zBY _)
    ·exact hi x y c a a'
   ·rcases look x c h with⟨_,b⟩|a
    ·rw[b];exact zB7 _
    ·exact zA4 (hl x c a)
  ·rename_i hk
   rw[if_neg hk] at e2
   exact Ma r k acc hi hl x y c e1 e2
theorem Ld:∀(names:List (Str×NameKind))(k:Nat)(acc:List (Str×Addr))(x:Str),(names.any fun p=>p.1 == x && p.2 == .cell)=true\/(∃c,acc.lookup x=some c)->∃c,(cellsFrom k names acc).lookup x=some c
 | [],_,_,_,h=>by
  rcases h with z | z
  ·cases z
  ·exact z
 | (name,kind)::r,k,acc,x,h=>by
  unfold cellsFrom
  by_cases hk:(kind == NameKind.cell)=true
  ·rw[if_pos hk]
   refine Ld r (k+1) _ x ?_
   rw[zC3]
   cases hb:x == name with
   | true=>exact .inr ⟨_,rfl⟩
   | false=>
    rcases h with z | z
    ·rw[zB6,zBJ] at z
     rcases z with z | z
     ·rw[zAN] at z
      have:x == name:=by rw[beq_iff_eq];exact (beq_iff_eq.mp z.1).symm
      rw[hb] at this
      cases this
     ·exact .inl z
    ·exact .inr z
  ·rw[if_neg hk]
   refine Ld r k acc x ?_
   rcases h with z | z
   ·rw[zB6,zBJ] at z
    rcases z with z | z
    ·rw[zAN] at z
     exact absurd z.2 hk
    ·exact .inl z
   ·exact .inr z
theorem Km(h:Q (newEnv scope s.heap.objs.size globals (cellsFrom (s.heap.objs.size+1) scope.names cl) ap none .none (some env) builtinsNs) { s with heap:=pushCells (s.heap.push { cls:=.type "dict",data:=.dict #[] }) scope.names }):
  wpAny M A (newFunctionEnv scope globals cl [] ap none .none (some env)) Q E s:=by
 simp only[newFunctionEnv,Option.isSome_some,if_true]
 refine wpAny_bind (wpAny_alloc ?_)
 refine wpAny_bind (wpAny_layCells _ (fun name kind cells=>by cases hkc:kind == NameKind.cell<;>simp[hkc]) _ _ _ _ ?_)
 rw[show ({ s with heap:=s.heap.push { cls:=.type "dict",data:=.dict #[] } }:Shared).heap.objs.size=s.heap.objs.size+1 from zAU ..]
 exact wpAny_bind (wpAny_pure (wpAny_pure h))
def Cx.cmk(X:Cx)(N:List Str)(scope:Scope)(cl:List (Str×Addr))(c:CC):Cx:=
 { X with N:=N,s₀:=c.s,H₀:=c.H,env:=compEnvC scope (cellsFrom (c.s.heap.objs.size+1) scope.names cl) c.s.heap.objs.size X.env,outer:=X.stack,ex:=c.fp,fn:=fun x=>(scope.names.any fun p=>p.1 == x && p.2 == .cell) && !(cl.any fun p=>p.1 == x),pn:=[] }
section
variable {X:Cx}{N:List Str}{scope:Scope}{cl:List (Str×Addr)}{js:List (Option Nat)}{pins:List (Addr×Obj)}{σ:St}{H:Hp}{s:Shared}{fp:List Addr}
theorem Inv.cmk(I:Inv X pins σ H s)(hf:∀b∈fp,B3 X pins H b)(jd:∀b∈fp,b<s.heap.objs.size)(hk:scope.kind= .function)(bE:∀p∈cl,X.env.cells.lookup p.1=some p.2)(hcn:∀x,((relabel scope X.env).names.lookup x=some .cell\/(relabel scope X.env).names.lookup x=some .free)->∃c,(cellsFrom (s.heap.objs.size+1) scope.names cl).lookup x=some c)(gI:Fu X N scope js)(hsc:∀(i:Nat) (x:Str) (j:Nat),N[i]? = some x->js[i]? = some (some j)->∀k,(cellsFrom k scope.names cl).lookup x=cl.lookup x)(hl:js.length=N.length)(e:h'=pushCells (s.heap.push { cls:=.type "dict",data:=.dict #[] }) scope.names):
  Inv (X.cmk N scope cl ⟨s,H,fp⟩) [] (sub js σ) H { s with heap:=h',toks:=t' }:=by
 have aL:∀x c,cl.lookup x=some c->X.env.cells.lookup x=some c:=fun x c e=>bE (x,c) (zA5 e)
 have bv:∀b o,s.heap.get? b=some o->h'.get? b=some o:=fun b o q=>by rw[e];exact pushCells_keeps _ _ b o (Heap.get?_push_of_some _ q)
 have clt:∀x c,cl.lookup x=some c->c<s.heap.objs.size:=fun x c q=>by
  obtain⟨v,o,ho,_⟩:=I.cell x c (aL x c q)
  exact zAB ho
 have hc:∀x c,(cellsFrom (s.heap.objs.size+1) scope.names cl).lookup x=some c->cl.lookup x=some c\/(s.heap.objs.size+1<=c/\h'.IsCell c none):=fun x c q=>by
  have q':(cellsFrom (s.heap.push { cls:=.type "dict",data:=.dict #[] }).objs.size scope.names cl).lookup x=some c:=by rw[zAU];exact q
  have:=JT _ _ _ x c q'
  rw[zAU] at this
  rw[e]
  exact this
 have hL:h'.Ns s.heap.objs.size (fun _=>none):=by
  rw[e]
  exact (Heap.Ns.new s.heap (.type "dict")).keeps (pushCells_keeps _ _)
 refine⟨⟨I.ok.mod,?_,I.ok.glob,I.ok.blt,zAA _,?_,fun x hx=>hcn x hx,fun x c hx q=>?_,I.ok.hd,I.ok.frames,.inl rfl,fun b hb=>⟨zAE (jd b hb),fun x c q=>?_⟩,
   I.bs,zAH I.ok.bsz I.sz,fun b o q hb=>?_,fun b hb hs=>?_,I.stack,I.stkFree⟩,rfl,I.bare,Un.kept bv,⟨_,hL,fun i x v e1 e2 e3=>?_⟩,fun x c q=>?_,I.hok.fresh (zAA _),fun x c q=>?_,fun p hp=>?_,I.hok.kept bv,?_⟩
 ·show (relabel scope X.env).kind= .function
  exact hk
 ·refine Ma scope.names (s.heap.objs.size+1) cl (fun x y c h1 h2=>I.ok.inj x y c (aL x c h1) (aL y c h2)) fun x c q=>zA4 (clt x c q)
 ·have iO:((scope.names.any fun p=>p.1 == x && p.2 == .cell) && !(cl.any fun p=>p.1 == x))=true:=hx
  rw[zAN] at iO
  rcases hc x c q with z | ⟨z,_⟩
  ·have hm:(cl.any fun p=>p.1 == x)=true:=List.any_eq_true.mpr ⟨(x,c),zA5 z,by simp⟩
   rw[hm] at iO
   cases iO.2
  ·exact zAH (zBT _) z
 ·rcases hc x c q with z | ⟨z,_⟩
  ·exact (hf b hb).2.2.2.2.1 x c (aL x c z)
  ·exact zBR (zAJ (jd b hb) (zAH (zBT _) z))
 ·rcases (hf b hb).2.2.2.1 with z | z
  ·exact I.ok.noex b o q z
  ·exact absurd (zAJ (zAB (I.ok.bs b o q).1) z) (zBY _)
 ·rcases List.mem_cons.mp (I.stkSub b hs) with z | z
  ·exact (hf b hb).2.1 z
  ·exact (hf b hb).2.2.1 z
 ·have cp:(sub js σ)[i]? = some (some v):=e2
  unfold sub at cp
  rw[List.getElem?_map] at cp
  cases ej:js[i]? with
  | none=>rw[ej] at cp;cases cp
  | some o=>
   rw[ej] at cp
   cases o with
   | none=>cases cp
   | some j=>
    obtain⟨a1,a2,a3⟩:=gI i x j e1 ej
    have e4:(σ[j]?).join=some v:=zAP cp
    have e5:σ[j]? = some (some v):=by
     cases q:σ[j]? with
     | none=>rw[q] at e4;cases e4
     | some o=>
      rw[q] at e4
      have:o=some v:=e4
      rw[this]
    obtain⟨m,hn,hloc⟩:=I.loc
    obtain⟨u,r,l⟩:=hloc j x v a1 e5 (.inr (.inl a2))
    refine⟨u,r,.inr ⟨.inl a3,?_⟩⟩
    obtain⟨c,hc1⟩:=hcn x (.inl a3)
    have hc2:cl.lookup x=some c:=by rw[<-hsc i x j e1 ej (s.heap.objs.size+1)];exact hc1
    refine⟨c,hc1,?_⟩
    rcases l with⟨k,_⟩|⟨_,c',hc',aT⟩
    ·rw[k] at a2;cases a2
    ·have:c'=c:=by
      have:=aL x c hc2
      rw[hc'] at this
      exact zAP this
     subst this
     obtain⟨o,ho,hd⟩:=aT
     exact⟨o,bv _ _ ho,hd⟩
 ·rcases hc x c q with z | ⟨_,z⟩
  ·obtain⟨v,o,ho,hd⟩:=I.cell x c (aL x c z)
   exact⟨v,o,bv _ _ ho,hd⟩
  ·exact⟨none,z⟩
 ·rcases hc x c q with z | ⟨z,_⟩
  ·exact I.freeC x c (aL x c z)
  ·exact I.hok.fresh (zAH (zBT _) z)
 ·exact absurd (show p∈([]:List (Addr×Obj)) from hp) (by simp)
 ·unfold sub
  rw[List.length_map]
  exact hl
theorem Inv.uncmk(I:Inv X pins σ H s)(hf:∀b∈fp,B3 X pins H b)(J:Inv (X.cmk N scope cl ⟨s,H,fp⟩) [] σ' H' s')(bF:Heap.SameBut s.heap.objs.size s'.heap dU):
  Inv X pins σ H' { s' with heap:=dU }:=by
 have u:Un (Ib X.stack) fp H H' s.heap s'.heap:=J.base
 have ne:∀b o,s.heap.get? b=some o->b≠s.heap.objs.size:=fun b o e=>zAE (zAB e)
 have bD:H' s.heap.objs.size=none:=J.free
 refine I.call' (ch:=fp) (s':={ s' with heap:=dU }) J.os ⟨fun b o e n hb hx=>(bF.2 b (ne b o e)).trans (u.keep b o e n hb hx),fun b o e n hb hx=>?_,u.free,fun b o e hx=>?_,u.tups,u.frzs,u.tbls⟩ (fun b ob e=>?_) J.bare fun b hb=>⟨(hf b hb).2.2.2.1,(hf b hb).2.1,(hf b hb).2.2.2.2.1,(hf b hb).2.2.2.2.2⟩
 ·obtain⟨sl,e1⟩:=u.slot b o e n hb hx
  exact⟨sl,(bF.2 b (ne b o e)).trans e1⟩
 ·obtain⟨o',e1⟩:=u.there b o e hx
  exact⟨o',(bF.2 b (ne b o e)).trans e1⟩
 ·refine (J.hok b ob e).stay (fun c w' hc q=>(bF.2 c ?_).trans q) (fun _ q=>q) fun _ _ q=>q
  rintro rfl
  rcases hc with z | z
  ·rw[<-z,bD] at e;cases e
  ·rw[bD] at z;cases z
end
structure CompK(X:Cx)(N:List Str)(scope:Scope)(cl:List (Str×Addr))(js:List (Option Nat)):Prop where
 clos:closureFor scope X.env=pure cl
 kind:scope.kind= .function
 loc:(scope.names.all fun x=>x.2 != .local || scope.names.lookup x.1 == some .local)=true
 ccl:∀p∈cl,X.env.cells.lookup p.1=some p.2
 cn:((relabel scope X.env).names.all fun p=>!(p.2 == .cell || p.2 == .free) || (scope.names.any fun q=>q.1 == p.1 && q.2 == .cell) || (cl.lookup p.1).isSome)=true
 sh:((N.zip js).all fun p=>match p.2 with | none=>true | some j=>X.N[j]? == some p.1 && X.env.kindOf p.1 == some .cell && (relabel scope X.env).names.lookup p.1 == some .cell && !(scope.names.any fun q=>q.1 == p.1 && q.2 == .cell))=true
 len:js.length=N.length
theorem E5:∀(names:List (Str×NameKind))(k:Nat)(acc:List (Str×Addr))(x:Str),(names.any fun q=>q.1 == x && q.2 == .cell)=false->(cellsFrom k names acc).lookup x=acc.lookup x
 | [],_,_,_,_=>rfl
 | (name,kind)::r,k,acc,x,h=>by
  rw[zB6,Bool.or_eq_false_iff] at h
  unfold cellsFrom
  by_cases hk:(kind == NameKind.cell)=true
  ·rw[if_pos hk,E5 r (k+1) _ x h.2,zC3]
   have:(x == name)=false:=by
    have h1:=h.1
    rw[hk,zDM] at h1
    have:name≠x:=fun e=>by rw[e] at h1;simp at h1
    exact beq_false_of_ne (zA7 this)
   rw[this]
  ·rw[if_neg hk,E5 r k acc x h.2]
section
variable {X:Cx}{N:List Str}{scope:Scope}{cl:List (Str×Addr)}{js:List (Option Nat)}
theorem CompK.names(h:CompK X N scope cl js):∀x∈scope.names,x.2= .local->scope.names.lookup x.1=some .local:=fun x hx e=>by
 have q:=(List.all_eq_true.mp h.loc) x hx
 rw[e] at q
 simpa using q
theorem CompK.hcn(h:CompK X N scope cl js)(k:Nat):∀x,((relabel scope X.env).names.lookup x=some .cell\/(relabel scope X.env).names.lookup x=some .free)->∃c,(cellsFrom k scope.names cl).lookup x=some c:=fun x hx=>by
 refine Ld _ _ _ _ ?_
 rcases hx with e | e
 ·have q:=(List.all_eq_true.mp h.cn) _ (zA5 e)
  simp only[zBJ] at q
  rcases q with (q | q) | q
  ·simp at q
  ·exact .inl q
  ·exact .inr (Option.isSome_iff_exists.mp q)
 ·have q:=(List.all_eq_true.mp h.cn) _ (zA5 e)
  simp only[zBJ] at q
  rcases q with (q | q) | q
  ·simp at q
  ·exact .inl q
  ·exact .inr (Option.isSome_iff_exists.mp q)
theorem CompK.mem(h:CompK X N scope cl js){i:Nat}{x:Str}{j:Nat}(e1:N[i]? = some x)(e2:js[i]? = some (some j)):(X.N[j]? = some x/\X.env.kindOf x=some .cell/\(relabel scope X.env).names.lookup x=some .cell)/\(scope.names.any fun q=>q.1 == x && q.2 == .cell)=false:=by
 have hm:(x,some j)∈N.zip js:=by
  have:(N.zip js)[i]? = some (x,some j):=by rw[List.getElem?_zip_eq_some];exact⟨e1,e2⟩
  exact zAQ this
 have q:=(List.all_eq_true.mp h.sh) _ hm
 simp only[zAN] at q
 exact⟨⟨eq_of_beq q.1.1.1,eq_of_beq q.1.1.2,eq_of_beq q.1.2⟩,by simpa using q.2⟩
variable {ao tg ae:Expr}{aj:List Expr}{rest:List Comprehension}{pos:Pos}{wi:TI}{g:CC->TG}{tb:CC->Addr->TS}
theorem Od{WB:CC->Value->Qw}(aI:X.xe=Ew)(hc:X.calm=true)(hi:PI X tg ae wi)(hs:∀x,foldedSetIterable ae X.env x=pure x)(K:CompK X N scope cl js)(ht:∀c it ac,HT (X.cmk N scope cl c) (.ListComp ao (⟨tg,ae,aj,0⟩::rest) scope pos) 0 it ac tg (WB c ac))(hg:∀c,PG (X.cmk N scope cl c) tg (g c))(hb:∀c ac,PB (X.cmk N scope cl c) (WB c (.ref ac)) (tb c ac)):
  PE X (.ListComp ao (⟨tg,ae,aj,0⟩::rest) scope pos) (EX wi js g tb):=by
 intro pins s σ H Q I h
 rw[eval_ListComp]
 have h0:=hi pins s σ H _ I h
 refine wpAny_comprehension_free (use:=none) (cl:=cl) rfl hs K.clos K.kind K.names (AX h0 fun v s1 h1=>AX h1 fun bA s2 h2=>?_)
 obtain⟨it,fp,tn,J,H2,e,I2,T,cH,f2,hR⟩:=h2
 subst e
 refine wpAny_newObj_type (Km ?_)
 have I3:=I2.lnew (ys:=[]) (its:=[]) (t':=s2.toks) .nil (zA9 _)
 have dc:∀b∈fp,b<s2.heap.objs.size:=fun b hb=>by
  obtain⟨o,e,_⟩:=T.obj 0 _ cH b hb
  exact zAB e
 have iF:∀b∈fp,b≠s2.heap.objs.size:=fun b hb=>zAE (dc b hb)
 have f3:∀b∈fp,B3 X pins (upd H2 s2.heap.objs.size (.lst [])) b:=fun b hb=>⟨by rw[Ax (iF b hb)];exact (f2 b hb).1,(f2 b hb).2⟩
 have iG:=hR ⟨{ s2 with heap:=s2.heap.push { cls:=.type "list",data:=.seq ([]:List Value).toArray } },upd H2 s2.heap.objs.size (.lst []),fp⟩ s2.heap.objs.size I2.fresh
 have I4:=I3.cmk (N:=N) (cl:=cl) (js:=js) (scope:=scope) (t':=s2.toks) f3 (fun b hb=>by
  show b<(s2.heap.push _).objs.size
  rw[zAU]
  exact zA4 (dc b hb)) K.kind K.ccl (K.hcn _) (fun i x j e1 e2=>(K.mem e1 e2).1) (fun i x j e1 e2 k=>E5 _ _ _ _ (K.mem e1 e2).2) K.len rfl
 have eZ:tn 0 (pushCells ((s2.heap.push { cls:=.type "list",data:=.seq ([]:List Value).toArray }).push { cls:=.type "dict",data:=.dict #[] }) scope.names):=T.keep 0 _ _ cH fun b hb o e=>pushCells_keeps _ _ _ _ (Heap.get?_push_of_some _ (Heap.get?_push_of_some _ e))
 have f4:∀b∈fp,B3 (X.cmk N scope cl ⟨{ s2 with heap:=s2.heap.push { cls:=.type "list",data:=.seq ([]:List Value).toArray } },upd H2 s2.heap.objs.size (.lst []),fp⟩) [] (upd H2 s2.heap.objs.size (.lst [])) b:=fun b hb=>
  ⟨(f3 b hb).1,(I4.ok.exf b hb).1,I4.ok.exfs b hb,.inl hb,(I4.ok.exf b hb).2,fun p hp=>absurd (show p∈([]:List (Addr×Obj)) from hp) (by simp)⟩
 have aP:=codeAny_mono (BS (X:=X.cmk N scope cl ⟨{ s2 with heap:=s2.heap.push { cls:=.type "list",data:=.seq ([]:List Value).toArray } },upd H2 s2.heap.objs.size (.lst []),fp⟩) (e:=.ListComp ao (⟨tg,ae,aj,0⟩::rest) scope pos) (d:=0) (acc:=.ref s2.heap.objs.size) (pins:=[]) aI hc (ht _ _ _) rfl rfl rfl T (hg _) (hb _ _) I4 eZ f4 iG) (R':=compPost (model X.prog X.w) X.A X.xe none (EP X pins σ Q) (.ref s2.heap.objs.size) (s2.heap.push { cls:=.type "list",data:=.seq ([]:List Value).toArray }).objs.size) (fun r s' hq=>by
  obtain⟨rfl,σ',H',J',q⟩:=hq
  obtain⟨m,hn,_⟩:=id J'.loc
  exact⟨m,hn,fun dU gM=>⟨.ref s2.heap.objs.size,H',I3.uncmk f3 J' gM,rfl,q⟩⟩)
 exact BF (X:=X.cmk N scope cl ⟨{ s2 with heap:=s2.heap.push { cls:=.type "list",data:=.seq ([]:List Value).toArray } },upd H2 s2.heap.objs.size (.lst []),fp⟩) rfl rfl rfl (fun _=>rfl) True.intro aP (T.self _ 0 _ _ _ eZ aP)
variable {aY af:Expr}{ay:List Expr}{eF:CC->TI}{g1:CC->TG}{tc tc1:CC->TT}{te:CC->TE}
theorem NP(h:CompK X N scope cl js)(hi:PI X tg ae wi)(hg:∀c,PG (X.cmk N scope cl c) tg (g c))(gN:∀c,MP (X.cmk N scope cl c) aj (tc c))(he:∀c,PE (X.cmk N scope cl c) ao (te c))(aI:X.xe=Ew:=by rfl)(hc:X.calm=true:=by rfl)(hs:∀x,foldedSetIterable ae X.env x=pure x:=by intro _;rfl):
  PE X (.ListComp ao [⟨tg,ae,aj,0⟩] scope pos) (EX wi js g fun c ac=>DO (tc c) (Cg ac (te c))):=
 Od (WB:=fun c ac=>DW (X.cmk N scope cl c) aj ao ac) aI hc hi hs h (fun c it ac=>Jc) hg fun c ac=>Fa aI (gN c) (he c)
end
end L2
namespace L2
open PySem PySem.Spec PyProof.Rows
theorem Jv:∀{xs:List V}{us:List Value},xs.length=us.length->(∀(i:Nat)(x:V)(u:Value),xs[i]? = some x->us[i]? = some u->RelV x u)->Vals xs us
 | [],[],_,_=>.nil
 | [],_::_,h,_=>by cases h
 | _::_,[],h,_=>by cases h
 | x::xs,u::us,h,f=>.cons (f 0 x u rfl rfl) (Jv (zA1 h) fun i y v hy hv=>f (i+1) y v (by simpa using hy) (by simpa using hv))
theorem FR{α:Type}(bs:List α)(d:α):(List.range bs.length).map (fun i=>bs.getD i d)=bs:=by
 refine zCK (by simp) fun n h1 h2=>?_
 simp[List.getD,h2]
theorem NX(bs:List Bool):(List.range bs.length).any (fun i=>bs.getD i false)=bs.any id:=by
 have:=FR bs false
 conv=>rhs;rw[<-this]
 rw[zCJ]
 rfl
theorem Nh(bs:List Bool):(List.range bs.length).all (fun i=>bs.getD i false)=bs.all id:=by
 have:=FR bs false
 conv=>rhs;rw[<-this]
 rw[zDQ]
 rfl
theorem KZ{bs:List Bool}{its:List Value}(rv:Vals (bs.map V.bl) its):TruthOf prog w A (fun i v=>its.toArray[i]? = some v) (fun i=>bs.getD i false):=by
 intro i v s Q E hv q
 have hv':its[i]? = some v:=by simpa using hv
 have hi:i<bs.length:=by
  have h1:=(List.getElem?_eq_some_iff.mp hv').1
  have:=rv.length
  rw[List.length_map] at this
  omega
 have hx:(bs.map V.bl)[i]? = some (.bl bs[i]):=by rw[List.getElem?_map,List.getElem?_eq_getElem hi];rfl
 obtain⟨u,hu,ru⟩:=rv.get hx
 rw[hv'] at hu
 cases hu
 cases (show v=Value.bool bs[i] from ru)
 refine wpAny_truthy_bool ?_
 have e:bs.getD i false=bs[i]:=by simp[List.getD,hi]
 rw[<-e]
 exact q
section
variable {X:Cx}
theorem CU:BP X (.type "range") (fun xs H Q=>∃j:Int,xs=[.int j]/\∀r,H r=none->Q (.ref r) (upd H r (.rng 0 j))):=by
 intro pins s σ H xs us Q I r h
 obtain⟨j,rfl,q⟩:=h
 obtain⟨u,rfl,ru⟩:=Ci r
 obtain⟨t,rfl⟩:=ru
 refine call_range_1 ⟨.ref s.heap.objs.size,_,I.laid (o:=.rng 0 j) (fun b ob e=>Heap.get?_push_of_some _ e) (zAA _) ?_,rfl,q _ (I.hok.fresh (zAA _))⟩
 exact⟨_,_,_,Heap.get?_push_size _ rfl⟩
def BC(n:Nat):List Int:=(List.range n).map fun(k:Nat)=>(k:Int)
theorem Du(hc:X.calm=true):BP X (.type "list") (fun xs H Q=>∃(r:Addr)(n:Nat),xs=[.ref r]/\H r=some (.rng 0 (n:Int))/\n<=1000/\∀l,H l=none->Q (.ref l) (upd H l (.lst ((BC n).map V.int)))):=by
 intro pins s σ H xs us Q I r h
 obtain⟨rr,n,rfl,hr,hn,q⟩:=h
 obtain⟨u,rfl,ru⟩:=Ci r
 cases ru
 obtain⟨t,u,v,ho⟩:=(show ObjOk X.prog X.w H s.heap rr (.rng 0 (n:Int)) from I.hok rr _ hr)
 have aw:Builtin.Range.rangeSize 0 (n:Int) 1=n:=by rw[rangeSize_one];split<;>omega
 refine call_list_range (n:=n) (I.ok.hd hc) ho (small_one (by omega) (by omega) (by omega) (by omega)) aw (by omega) fun h' tk acc c kk hl hi=>?_
 have lo:s.heap.objs.size<=s.heap.objs.size:=zAA _
 have hv:Vals ((BC n).map V.int) acc.toList:=by
  have gS:acc.toList.length=n:=by rw[zAF,hi.1]
  refine Jv (by unfold BC;simp[gS]) fun i x u hx hu=>?_
  have iP:i<n:=by
   have:=(List.getElem?_eq_some_iff.mp hu).1
   omega
  obtain⟨t,e⟩:=hi.2 i u (by simpa using hu)
  have ex:x= .int (i:Int):=by
   unfold BC at hx
   rw[zB3,List.getElem?_map,List.getElem?_range iP] at hx
   exact (zAP hx).symm
  subst ex
  refine⟨t,?_⟩
  rw[e]
  congr 1
  omega
 refine⟨.ref s.heap.objs.size,_,I.laid (t':=tk) (o:=.lst ((BC n).map V.int)) kk lo ?_,rfl,q _ (I.hok.fresh lo)⟩
 refine⟨?_,acc.toList,c,hv,by rw[hl,zC9]⟩
 unfold BC
 rw[List.length_map,List.length_map,List.length_range]
 exact zAH hn (by decide)
theorem Dg(hc:X.calm=true):BP X (.builtin "any") (fun xs H Q=>∃(l:Addr)(bs:List Bool),xs=[.ref l]/\SqL X.K H l (bs.map V.bl)/\Q (.bl (bs.any id)) H):=by
 intro pins s σ H xs us Q I r h
 obtain⟨l,bs,rfl,hq,q⟩:=h
 obtain⟨u,rfl,ru⟩:=Ci r
 cases ru
 obtain⟨its,rv,pl,hz⟩:=I.list hq
 have aO:l<s.heap.objs.size:=let ⟨o,ho,_⟩:=pl.isList;zAB ho
 have ag:its.length=bs.length:=by rw[<-rv.length,List.length_map]
 refine call_any_walk (wpAny_pyIter_list pl.isList ⟨s.heap.objs.size,_,_,_,_,_,fun i=>bs.getD i false,rfl,Walks.list (by have:=I.ok.hd hc;simpa using this) s.heap.objs.size l (zAE aO) its.toArray,⟨⟨_,Heap.get?_push_size _ rfl,rfl,rfl⟩,pl.isList.push _⟩,KZ rv,fun h' tk kk=>?_⟩)
 have e:(List.range its.toArray.size).any (fun i=>bs.getD i false)=bs.any id:=by rw[zAG,ag,NX]
 rw[e]
 exact⟨.bl _,H,I.kept (t':=tk) fun b ob eb=>kk b ob (by simp only[zB1];exact zAE (zAB eb)) (Heap.get?_push_of_some _ eb),rfl,q⟩
theorem Iq(hc:X.calm=true):BP X (.builtin "all") (fun xs H Q=>∃(l:Addr)(bs:List Bool),xs=[.ref l]/\SqL X.K H l (bs.map V.bl)/\Q (.bl (bs.all id)) H):=by
 intro pins s σ H xs us Q I r h
 obtain⟨l,bs,rfl,hq,q⟩:=h
 obtain⟨u,rfl,ru⟩:=Ci r
 cases ru
 obtain⟨its,rv,pl,hz⟩:=I.list hq
 have aO:l<s.heap.objs.size:=let ⟨o,ho,_⟩:=pl.isList;zAB ho
 have ag:its.length=bs.length:=by rw[<-rv.length,List.length_map]
 refine call_all_walk (wpAny_pyIter_list pl.isList ⟨s.heap.objs.size,_,_,_,_,_,fun i=>bs.getD i false,rfl,Walks.list (by have:=I.ok.hd hc;simpa using this) s.heap.objs.size l (zAE aO) its.toArray,⟨⟨_,Heap.get?_push_size _ rfl,rfl,rfl⟩,pl.isList.push _⟩,KZ rv,fun h' tk kk=>?_⟩)
 have e:(List.range its.toArray.size).all (fun i=>bs.getD i false)=bs.all id:=by rw[zAG,ag,Nh]
 rw[e]
 exact⟨.bl _,H,I.kept (t':=tk) fun b ob eb=>kk b ob (by simp only[zB1];exact zAE (zAB eb)) (Heap.get?_push_of_some _ eb),rfl,q⟩
end
end L2
namespace L2
open PySem PySem.Spec PyProof.Rows
section
variable {prog:Program}{w:World}{A:Around}{R:Result->Shared->Prop}{I:Addr}{fp wr:List Addr}{G:Array GenState->Array GenState->Prop}{n:Nat}{P:Nat->Value->Prop}{St:Nat->Shared->Prop}
theorem OL(W:WalksS prog w A.in1 I fp wr G n P St)(S:Addr)(hSf:S∉fp)(val:Nat->Int)(hval:∀i v,P i v->∃t,v= .int (val i) t)(hb:n<1000):
  ∀(k i:Nat)(s:Shared)(ks:List Int),n-i=k->i<=n->St i s->SetIs w s.heap S ks->(∀j,j∈ks↔∃m,m<i/\val m=j)->ks.length<=i->
   (∀s' bf,Moved (S::wr) G s s'->SetIs w s'.heap S bf->(∀j,j∈bf↔∃m,m<n/\val m=j)->bf.length<=n->R (.ok (.ret .none)) s')->
   codeAny (model prog w) A (.builtin "set.update.loop" ⟨[.ref S,.ref I],[]⟩) R s:=by
 have hSw:S∉wr:=fun h=>hSf (W.sub _ h)
 have ax:∀b∈wr,b∈S::wr:=fun b hb=>List.mem_cons_of_mem _ hb
 intro k
 induction k with
 | zero=>
  intro i s ks hk hi gD hS gw aU hR
  have iP:i=n:=by omega
  subst iP
  refine codeAny_builtin F.entry_set_update_loop ?_
  rw[zCA zCU _]
  show wpAny _ A.in1 (pyNext (.ref I) >>= _) _ _ s
  refine wpAny_bind (W.done s _ _ gD fun s' hm=>?_)
  show wpAny _ A.in1 (ret Value.none) _ _ s'
  exact wpAny_pure (hR s' ks (hm.mono ax) (hS.keep fun o e=>hm.heap S _ hSw e) gw aU)
 | succ k ih=>
  intro i s ks hk hi gD hS gw aU hR
  have aO:i<n:=by omega
  refine codeAny_builtin F.entry_set_update_loop ?_
  rw[zCA zCU _]
  show wpAny _ A.in1 (pyNext (.ref I) >>= _) _ _ s
  refine wpAny_bind (W.item i s _ _ aO gD fun v s' hP hst' hm=>?_)
  obtain⟨t,rfl⟩:=hval i v hP
  have aQ:SetIs w s'.heap S ks:=hS.keep fun o e=>hm.heap S _ hSw e
  show wpAny _ A.in1 (holding [Value.int (val i) t] (setAdd S (.int (val i) t)) >>= _) _ _ s'
  refine wpAny_bind (wpAny_holding ?_)
  unfold setAdd
  refine wpAny_holding ?_
  refine wpAny_bind ((intKind prog w).pyHash (k:=val i) (intKind_is _ _ _ _) ?_)
  refine Hc (s:={ s' with toks:=s'.toks+1 }) aQ (by omega) fun h' bf bF bZ aW aC=>?_
  refine wpAny_pure ⟨plainId_quiet zCU _,ih (i+1) _ bf (by omega) aO (W.frame _ s' _ _ hst' (zBT _) fun b hb o e=>?_) bZ (fun j=>?_) (by omega) fun s'' ks'' hm'' hS'' hmm hll=>?_⟩
  ·rw[bF.2 b (fun h:b=S=>hSf (by rw[<-h];exact hb))];exact e
  ·rw[aW j,gw j]
   constructor
   ·rintro (⟨m,h1,h2⟩|h)
    ·exact⟨m,zA4 h1,h2⟩
    ·exact⟨i,zB7 _,h.symm⟩
   ·rintro⟨m,h1,h2⟩
    rcases Nat.lt_succ_iff_lt_or_eq.mp h1 with z | z
    ·exact .inl ⟨m,z,h2⟩
    ·subst z;exact .inr h2.symm
  ·refine hR s'' ks'' (Moved.trans W.gtrans ((hm.mono ax).then_heap (zBT _) fun b o hb e=>?_) hm'') hS'' hmm hll
   rw[bF.2 b (fun h:b=S=>hb (by rw[h];exact List.mem_cons_self))];exact e
end
section
variable {prog:Program}{w:World}{A:Around}{E:Value->Shared->Prop}{s:Shared}
set_option maxHeartbeats 3200000 in
theorem Nc(hh:A.handled=none)(hl:s.heap.IsList l items)(hi:IntsAre items.toList ns)(hb:items.size<1000)(h:∀(h':Heap) (tk:Nat) (ks:List Int),SetIs w h' s.heap.objs.size ks->(∀j,j∈ks↔j∈ns)->ks.length<=ns.length->
   (∀b o,s.heap.get? b=some o->h'.get? b=some o)->Q (.ref s.heap.objs.size) { s with heap:=h',toks:=tk }):
  wpAny (model prog w) A (call (.type "set") [.ref l]) Q E s:=by
 have ag:ns.length=items.size:=by rw[<-zAF];exact (IntsAre.length hi).symm
 obtain⟨c,tl,hmro⟩:=F.called_set.mro
 have hmade:=F.called_set.made
 have ax:=F.called_set.sub
 refine wpAny_call (codeAny_of_tree ?_)
 show wpAny _ _ (callAny (.type "set") _) _ _ _
 refine wpAny_pure ⟨zCR _ (by decide +kernel),codeAny_builtin F.entry_type_call ?_⟩
 rw[Around.under_plain (weight_type_call_type "set" [.ref l] []) rfl]
 have h1:=F.called_set.notType
 have h2:=F.called_set.canCreate
 have hct:=F.typeCall_set_1 (.ref l)
 repeat (any_goals (first | assumption | wp_step))
 refine codeAny_mono (Ki (E:=E) (.inr ⟨.ref l,rfl⟩) (Q₁:=fun obj s₁=>obj= .ref s.heap.objs.size/\s₁={ s with heap:=s.heap.push (Bk w) }) ⟨rfl,rfl⟩) fun r s₁ hr=>?_
 cases r with
 | error e=>exact hr
 | ok fl=>
  cases fl with
  | ret obj=>
   obtain⟨rfl,rfl⟩:=hr
   have hS:(s.heap.push (Bk w)).get? s.heap.objs.size=some (Bk w):=Heap.get?_push_size _ rfl
   have hT:Shared.TypeIs { s with heap:=s.heap.push (Bk w) } (.ref s.heap.objs.size) "set":=⟨_,hS,rfl⟩
   have hli:=F.called_set.init.lookup
   have d9:=F.called_set.init.bind (.ref s.heap.objs.size)
   repeat (any_goals (first | assumption | wp_step))
   refine codeAny_mono (codeAny_call_builtin (R:=wants (fun r s₂=>r= .none/\∃h' tk ks,s₂={ s with heap:=h',toks:=tk }/\SetIs w h' s.heap.objs.size ks/\(∀j,j∈ks↔j∈ns)/\ks.length<=ns.length/\
     (∀b o,s.heap.get? b=some o->h'.get? b=some o)) E) F.called_set.init.plain F.entry_set_init (check_set_init_1 hT ?_)) fun r₂ s₂ hr₂=>?_
   ·obtain⟨ol,bK,bE,nl,jk⟩:=hl
    obtain⟨ocls,odict,odata,oslots⟩:=ol
    simp only at bE jk
    subst bE;subst jk
    have hol':(s.heap.push (Bk w)).get? l=some { cls:=.type "list",dict:=odict,data:=.seq items nl,slots:=oslots }:=Heap.get?_push_of_some _ bK
    have hsls:=F.sub_list_set
    have hslf:=F.sub_list_frozenset
    have av:(Value.type "list" == Value.type "dict")=false:=by decide
    have aJ:(s.heap.push (Bk w)).IsList l items:=⟨_,hol',rfl,nl,rfl⟩
    unfold Builtin.«set.__init__» noKeywords Builtin.Frozenset.updateFrom
    generalize hPI:pyIter=PI
    wp_walk
    subst hPI
    refine wpAny_pyIter_list aJ ?_
    refine wpAny_bind (wpAny_runValue ?_)
    have hlS:l<s.heap.objs.size:=zAB bK
    have hh3:A.in1.in1.in1.handled=none:=by simp[hh]
    have hneI:l≠(s.heap.push (Bk w)).objs.size:=by
     rw[zAU];exact zAE (zA4 hlS)
    have hSf:s.heap.objs.size∉[(s.heap.push (Bk w)).objs.size,l]:=by
     rw[zAU];simp only[zAS,zB1,zAR,or_false,not_or]
     exact⟨zAE (zB7 _),zBR hlS⟩
    have hval:∀(i:Nat)(v:Value),items[i]? = some v->∃t,v= .int ((fun i=>ns.getD i 0) i) t:=fun i v hv=>
     IntsAre.int_at hi i v (by rw[Array.getElem?_toList];exact hv)
    refine OL ((Walks.list hh3 _ l hneI items).toS) s.heap.objs.size
     hSf (fun i=>ns.getD i 0) hval hb (items.size-0) 0 _ [] (by omega) (zA9 _)
     ⟨⟨_,Heap.get?_push_size _ rfl,rfl,rfl⟩,(aJ.push _)⟩ ?hS0 (fun j=>by simp) (zAA _) ?hR
    case hS0=>exact set0_is.keep fun o e=>Heap.get?_push_of_some _ e
    case hR=>
     intro s' ks hm aQ hmm hll
     obtain⟨h',g',d',tk',os'⟩:=s'
     have eg:g'=s.gens:=hm.gens
     have ed:d'=s.drawn:=hm.drawn
     have eo:os'=s.os:=hm.os
     subst eg;subst ed;subst eo
     show wpAny _ _ _ _ _ _
     refine wpAny_pure ?_
     show wpAny _ _ (ret Value.none) _ _ _
     refine wpAny_pure ⟨rfl,h',tk',ks,rfl,aQ,fun j=>?_,by omega,fun b o e=>?_⟩
     ·rw[hmm j,<-ag,List.mem_iff_getElem]
      constructor
      ·rintro⟨m,hm,e⟩
       exact⟨m,hm,by rw[<-e,List.getD_eq_getElem?_getD,List.getElem?_eq_getElem hm];rfl⟩
      ·rintro⟨m,hm,e⟩
       exact⟨m,hm,by rw[<-e,List.getD_eq_getElem?_getD,List.getElem?_eq_getElem hm];rfl⟩
     ·have hb:=zAB e
      have bh:b≠s.heap.objs.size:=zAE hb
      have fb:b≠(s.heap.push (Bk w)).objs.size:=by
       rw[zAU];exact zAE (zA4 hb)
      exact hm.heap b o (by simp only[zAS,zB1,zAR,or_false,not_or];exact⟨bh,fb⟩) (Heap.get?_push_of_some _ (Heap.get?_push_of_some _ e))
   ·cases r₂ with
    | error e=>exact hr₂
    | ok fl₂=>
     cases fl₂ with
     | ret r=>
      obtain⟨rfl,h',tk,ks,rfl,aQ,cz,cq,hk'⟩:=hr₂
      repeat (any_goals (first | assumption | wp_step))
      exact h _ _ _ aQ cz cq hk'
     | _=>exact hr₂.elim
  | _=>exact hr.elim
end
end L2
namespace L2
open PySem PySem.Spec PyProof.Rows
section
variable {prog:Program}{w:World}{A:Around}{E:Value->Shared->Prop}{s:Shared}{a:Addr}{ks:List Int}{k:Int}{tk:Tok}
theorem HK(hS:SetIt w s.heap a ks)(h:∀r:Option Nat,r.isSome=decide (k∈ks)->(∀i,r=some i->ks[i]? = some k)->Q r s):
  wpAny (model prog w) A (setFind a (.int k tk) (hashInt k)) Q E s:=by
 obtain⟨o,es,ep,t,ho,bY,hd,hg,hk,nd,hl,ok,hf⟩:=hS
 have aw:=DK hk
 have gG:(intKind prog w).is k (.int k tk)=true:=intKind_is _ _ _ _
 unfold setFind setFindIn
 refine wpAny_bind (wpAny_setState_of ho hd hf ?_)
 dsimp only
 rw[byScan_of (knd:=intKind prog w) rfl (by rw[aw];exact Cm hl) hg.elems]
 simp only[↓reduceIte]
 refine wpAny_bind (wpAny_rule ?_)
 refine wpAny_bind (wpAny_setScan_of (knd:=intKind prog w) gG ho hd hf hg.elems ?_)
 cases hr:List.findIdx? (fun e=>(intKind prog w).is k e.2) es.toList with
 | none=>
  dsimp only
  have hmem:k∉ks:=fun z=>by
   rw[<-hk] at z
   obtain⟨e,he,rfl⟩:=List.mem_map.mp z
   have:=List.findIdx?_eq_none_iff.mp hr e he
   rw[(hg.is he).mpr rfl] at this
   cases this
  exact wpAny_pure (h none (by rw[decide_eq_false hmem];rfl) fun i e=>by cases e)
 | some j=>
  dsimp only
  obtain⟨hj,jh,_⟩:=List.findIdx?_eq_some_iff_getElem.mp hr
  have e1:A8 es.toList[j]=k:=((hg.is (zA3 hj)).mp jh).symm
  have hmem:k∈ks:=by
   rw[<-hk,<-e1]
   exact zDE (zA3 hj)
  refine wpAny_pure (h (some (0+j)) (by rw[decide_eq_true hmem];rfl) fun i e=>?_)
  have e':j=i:=by injection e with e;omega
  subst e'
  rw[<-hk,List.getElem?_map,List.getElem?_eq_getElem hj,<-e1]
  rfl
theorem IV(hl:∀b∈l,∃kb,SetIt w s.heap b kb)(h:Q true s):wpAny (model prog w) A (setsQuiet l) Q E s:=by
 unfold setsQuiet
 refine wpAny_bind ?_
 refine wpAny_forIn_list _ (fun rest r s'=>r.1=none/\s'=s/\∀b∈rest,∃kb,SetIt w s.heap b kb) _ ?_ ?_ _ _ ⟨rfl,rfl,hl⟩
 ·rintro b rest r s' ⟨hr,rfl,aq⟩
  obtain⟨kb,o,es,ep,t,ho,bY,hd,hg,hk,nd,hl,ok,hf⟩:=aq b List.mem_cons_self
  unfold setEntries
  refine wpAny_bind (wpAny_bind (wpAny_setState_of ho hd hf (wpAny_pure ?_)))
  refine wpAny_bind ?_
  refine wpAny_forIn_array' _ (fun jm r' s''=>r'.1=none/\s''=s'/\EGood jm) _ ?_ ?_ _ _ ⟨rfl,rfl,hg⟩
  ·rintro⟨hh,x⟩ jm r' s' ⟨hr',rfl,g⟩
   obtain⟨_,t',e⟩:=g _ List.mem_cons_self
   have e':x= .int (A8 (hh,x)) t':=e
   rw[e']
   exact wpAny_pure ⟨rfl,rfl,fun y hy=>g y (List.mem_cons_of_mem _ hy)⟩
  ·rintro⟨r1,r2⟩ s' ⟨hr',rfl,_⟩
   simp only at hr'
   subst hr'
   exact wpAny_pure ⟨rfl,rfl,fun c hc=>aq c (List.mem_cons_of_mem _ hc)⟩
 ·rintro⟨r1,r2⟩ s' ⟨hr,rfl,_⟩
  simp only at hr
  subst hr
  exact wpAny_pure h
theorem Kg(ho:s.heap.get? a=some o)(hd:o.data= .set es ep t)(ok:Gp (BH w) t)(hf:t.fits es.size=true)(hc:(BH w || (t.led && t.plain) || decide (es.size<=1))=true)(h:∀aD:Array (Int×Value),aD.toList.Perm es.toList->Q aD s):wpAny (model prog w) A (setWalk a) Q E s:=by
 unfold setWalk setsByText
 refine wpAny_bind (wpAny_setState_of ho hd hf ?_)
 dsimp only
 refine wpAny_bind (wpAny_bind (wpAny_askSetting (wpAny_pure ?_)))
 show wpAny _ _ (if BH w=true then _ else _) _ _ _
 cases hb:BH w with
 | true=>
  rw[if_pos rfl]
  refine wpAny_bind (wpAny_askSetting ?_)
  exact wpAny_pure (h _ (D5 _ _))
 | false=>
  rw[if_neg zAC]
  have hn:(!t.plain && decide (es.size>1))=false:=by
   rw[hb,Bool.false_or] at hc
   cases hp:t.plain with
   | true=>rfl
   | false=>
    rw[hp,zCH,Bool.false_or] at hc
    have:=of_decide_eq_true hc
    simp
    omega
  show wpAny _ _ (if (!t.plain && decide (es.size>1))=true then _ else _) _ _ _
  rw[hn,if_neg zAC]
  refine wpAny_bind ?_
  show wpAny _ _ (if (!t.led && decide (es.size>1))=true then _ else _) _ _ _
  rw[ok.led,hb,if_neg (by simp)]
  exact wpAny_pure (wpAny_pure (h es (zBV _)))
theorem Ix(hS:SetIt w s.heap a ks)(hF:SetIs w s.heap f kf)(hO:∀b∈bS,∃kb,SetIt w s.heap b kb)(h:∀(aD:Array (Int×Value)) (h':Heap),EGood aD.toList->(aD.toList.map A8).Perm ks->Heap.SameBut f s.heap h'->SetIs w h' f kf->Q aD { s with heap:=h' }):wpAny (model prog w) A (setWalkUnseen a bS (some f)) Q E s:=by
 obtain⟨o,es,ep,t,ho,bY,hd,hg,hk,nd,hl,ok,hf⟩:=id hS
 have stay:∀aD:Array (Int×Value),aD.toList.Perm es.toList->Q aD s:=fun aD hp=>by
  have:=h aD s.heap (fun e he=>hg e (hp.mem_iff.mp he)) (by rw[<-hk];exact hp.map A8) (zBG _ _) hF
  have e:s={ s with heap:=s.heap }:=by cases s;rfl
  rw[e];exact this
 unfold setWalkUnseen setsByText
 refine wpAny_bind (wpAny_setState_of ho hd hf ?_)
 dsimp only
 refine wpAny_bind (wpAny_bind (wpAny_askSetting (wpAny_pure ?_)))
 show wpAny _ _ (if (BH w || (t.led && t.plain) || decide (es.size<=1))=true then _ else _) _ _ _
 split
 ·rename_i hc
  exact Kg ho hd ok hf hc stay
 ·rename_i hc
  have hb:BH w=false:=by
   cases q:BH w with
   | true=>rw[q] at hc;exact absurd rfl hc
   | false=>rfl
  refine wpAny_bind (IV (fun b hb=>?_) ?_)
  ·rcases List.mem_cons.mp hb with e | e
   ·subst e;exact⟨_,hS⟩
   ·exact hO b e
  simp only[zC1,zB2,if_false]
  refine wpAny_bind (wpAny_rule ?_)
  obtain⟨of,ef,epf,tf,hof,hexf,iD,hgf,hkf,ndf,gT,okf,hff⟩:=id hF
  refine wpAny_bind (wpAny_setState_of hof iD hff ?_)
  dsimp only
  split
  ·refine wpAny_bind (wpAny_storeSet_of hof iD ?_ ?_)
   rotate_left
   exact (fits_of_scanBound (by rw[DK hkf];exact Cm gT))
   have:=(EM (w:=w) (t':={ tf with led:=tf.led && t.led,plain:=tf.plain && t.plain }) hof hexf iD hgf (by rw[hkf];exact ndf) (by rw[DK hkf];exact gT) ⟨okf.dum,by show (tf.led && t.led)=_;rw[okf.led,ok.led,Bool.and_self],okf.up⟩ hff).2
   rw[hkf] at this
   exact wpAny_pure (h es _ hg (by rw[hk]) (zAV _ _ _) this)
  ·exact wpAny_pure ((stay es (zBV _)))
theorem Ng(hS:SetIt w s.heap a ks)(hO:∀b∈bS,∃kb,SetIt w s.heap b kb)(h:∀(aD:Array (Int×Value)),EGood aD.toList->(aD.toList.map A8).Perm ks->Q aD s):wpAny (model prog w) A (setWalkUnseen a bS none) Q E s:=by
 obtain⟨o,es,ep,t,ho,bY,hd,hg,hk,nd,hl,ok,hf⟩:=id hS
 have stay:∀aD:Array (Int×Value),aD.toList.Perm es.toList->Q aD s:=fun aD hp=>
  h aD (fun e he=>hg e (hp.mem_iff.mp he)) (by rw[<-hk];exact hp.map A8)
 unfold setWalkUnseen setsByText
 refine wpAny_bind (wpAny_setState_of ho hd hf ?_)
 dsimp only
 refine wpAny_bind (wpAny_bind (wpAny_askSetting (wpAny_pure ?_)))
 show wpAny _ _ (if (BH w || (t.led && t.plain) || decide (es.size<=1))=true then _ else _) _ _ _
 split
 ·rename_i hc
  exact Kg ho hd ok hf hc stay
 ·refine wpAny_bind (IV (fun b hb=>?_) ?_)
  ·rcases List.mem_cons.mp hb with e | e
   ·subst e;exact⟨_,hS⟩
   ·exact hO b e
  simp only[zC1,zB2,if_false]
  refine wpAny_bind (wpAny_rule ?_)
  exact wpAny_pure (stay es (zBV _))
end
end L2
namespace L2
open PySem PySem.Spec PyProof.Rows
namespace F
theorem entry_set_and:entryFor table "set.__and__"=some Builtin.«frozenset.__and__»:=entryFor_alias (id':="frozenset.__and__") (by kernel_rfl) rfl (by decide +kernel) (by kernel_rfl)
theorem entry_set_sub:entryFor table "set.__sub__"=some Builtin.«frozenset.__sub__»:=entryFor_alias (id':="frozenset.__sub__") (by kernel_rfl) rfl (by decide +kernel) (by kernel_rfl)
end F
section
variable {prog:Program}{w:World}{A:Around}{E:Value->Shared->Prop}{s:Shared}{a b r:Addr}{ka kb:List Int}{k:Int}{tk:Tok}
theorem Es(hS:SetIt w s.heap a ka)(h:Q ka.length s):wpAny (model prog w) A (Builtin.Frozenset.sizeOf a) Q E s:=by
 obtain⟨o,es,ep,t,ho,bY,hd,hg,hk,nd,hl,ok,hf⟩:=hS
 unfold Builtin.Frozenset.sizeOf setEntries
 refine wpAny_bind (wpAny_bind (wpAny_setState_of ho hd hf (wpAny_pure ?_)))
 rw[DK hk]
 exact wpAny_pure h
theorem Dz(hS:SetIt w s.heap a ka)(h:Q true s):wpAny (model prog w) A (Builtin.Frozenset.isAnySet (.ref a)) Q E s:=by
 unfold Builtin.Frozenset.isAnySet
 show wpAny _ _ (isInstance (.ref a) (.type "set") >>= _) _ _ _
 refine wpAny_bind (wpAny_isInstance hS.typeIs sub_set_self ?_)
 exact wpAny_pure h
theorem EG(hS:SetIt w s.heap a ka)(h:Q (.type "set") s):wpAny (model prog w) A (Builtin.Frozenset.baseOf a) Q E s:=by
 unfold Builtin.Frozenset.baseOf
 refine wpAny_bind (wpAny_isInstance hS.typeIs sub_set_self ?_)
 exact wpAny_pure h
theorem Hr(h:Q (.ref s.heap.objs.size) { s with heap:=s.heap.push (Bk w) }):wpAny (model prog w) A (newSet (.type "set")) Q E s:=by
 unfold newSet setsByText
 refine wpAny_bind (wpAny_bind (wpAny_askSetting (wpAny_pure ?_)))
 simp only[newObj]
 refine wpAny_bind (wpAny_alloc (wpAny_pure ?_))
 exact h
theorem E3(ho:s.heap.get? a=some o)(hd:o.data= .set es ep t)(hf:t.fits es.size=true)(h:Q ep s):wpAny (model prog w) A (setEpoch a) Q E s:=by
 unfold setEpoch
 exact wpAny_bind (wpAny_setState_of ho hd hf (wpAny_pure h))
theorem Dt{id:String}(ho:s.heap.get? a=some o)(hd:o.data= .set es ep t)(hf:t.fits es.size=true)(h:Q () s):wpAny (model prog w) A (Builtin.Frozenset.unchanged id a ep) Q E s:=by
 unfold Builtin.Frozenset.unchanged
 refine wpAny_bind (E3 ho hd hf ?_)
 rw[if_neg (by simp)]
 exact wpAny_pure h
theorem IX{body:(Int×Value)->PUnit->Sem (ForInStep PUnit)}{p:Int->Bool}{R:PUnit->Shared->Prop}{es:Array (Int×Value)}{kr:List Int}(bP:∀(k:Int) (tk:Tok) (h1:Heap) (k1:List Int) (Q':ForInStep PUnit->Shared->Prop),Heap.SameBut r s.heap h1->SetIs w h1 r k1->k1.length+1<2000->
   (∀h' k2,Heap.SameBut r h1 h'->SetIs w h' r k2->(∀j,j∈k2↔j∈k1\/(p k=true/\j=k))->k2.length<=k1.length+1->Q' (.yield ⟨⟩) { s with heap:=h' })->
   wpAny (model prog w) A (body (hashInt k,.int k tk) ⟨⟩) Q' E { s with heap:=h1 })(hg:EGood es.toList)(hR:SetIs w s.heap r kr)(hn:kr.length+es.size<1999)(h:∀h' k2,Heap.SameBut r s.heap h'->SetIs w h' r k2->(∀j,j∈k2↔j∈kr\/(p j=true/\j∈es.toList.map A8))->k2.length<=kr.length+es.size->R ⟨⟩ { s with heap:=h' }):
  wpAny (model prog w) A (forIn es PUnit.unit body) R E s:=by
 refine wpAny_forIn_array' _ (fun rest _ s'=>∃h1 k1,s'={ s with heap:=h1 }/\Heap.SameBut r s.heap h1/\SetIs w h1 r k1/\EGood rest/\k1.length+rest.length<=kr.length+es.size/\
  (∀j,(j∈k1\/(p j=true/\j∈rest.map A8))↔j∈kr\/(p j=true/\j∈es.toList.map A8))) _ ?_ ?_ _ _ ⟨s.heap,kr,by cases s;rfl,zBG _ _,hR,hg,by rw[zAF];exact zAA _,fun j=>Iff.rfl⟩
 ·rintro⟨hh,x⟩ rest u s' ⟨h1,k1,rfl,sb,hS,g,hl,hm⟩
  obtain⟨e1,t',e2⟩:=g _ List.mem_cons_self
  generalize hk:A8 (hh,x)=k at e1 e2
  dsimp only at e1 e2
  subst e1;subst e2
  rw[zAI] at hl
  refine bP k t' h1 k1 _ sb hS (by omega) fun h' k2 iu bZ aW aC=>?_
  refine⟨h',k2,rfl,sb.trans iu,bZ,fun y hy=>g y (List.mem_cons_of_mem _ hy),by omega,fun j=>?_⟩
  rw[<-hm j,aW j,zBL,zAS]
  constructor
  ·rintro ((z | ⟨z1,z2⟩) | ⟨z1,z2⟩)
   ·exact .inl z
   ·exact .inr ⟨by rw[z2];exact z1,.inl (by rw[hk];exact z2)⟩
   ·exact .inr ⟨z1,.inr z2⟩
  ·rintro (z | ⟨z1,z2 | z2⟩)
   ·exact .inl (.inl z)
   ·exact .inl (.inr ⟨by rw[<-hk,<-z2];exact z1,by rw[<-hk];exact z2⟩)
   ·exact .inr ⟨z1,z2⟩
 ·rintro u s' ⟨h1,k1,rfl,sb,hS,g,hl,hm⟩
  refine h h1 k1 sb hS (fun j=>?_) (by simpa using hl)
  rw[<-hm j]
  simp
theorem Ep{h:Heap}{o:Obj}(e:h.get? a=some o):a≠h.objs.size:=zAE (zAB e)
theorem Q0(ha:SetIt w s.heap a ka)(hb:SetIt w s.heap b kb)(cP:a≠b)(hl:ka.length+kb.length<1990)(h:∀h' k2,SetIs w h' s.heap.objs.size k2->(∀j,j∈k2↔j∈ka/\j∈kb)->k2.length<=ka.length+kb.length->(∀c o,s.heap.get? c=some o->h'.get? c=some o)->Q (.ref s.heap.objs.size) { s with heap:=h' }):
  wpAny (model prog w) A (binaryOp .BitAnd (.ref a) (.ref b)) Q E s:=by
 refine wpAny_binaryOp_same ha.typeIs hb.typeIs PySem.F.fills_set_and PySem.F.slot_set_and ?_
 refine wpAny_call_entry PySem.F.slot_set_and ha.typeIs F.entry_set_and ?_ (PySem.F.args_set_and_2 _ _)
 show wpAny _ _ (do
  let (self,other) <-Builtin.Frozenset.slot1 "__and__" ⟨[.ref a,.ref b],[]⟩
  let (l,r):=if false=true then (other,self) else (self,other)
  if !(<-Builtin.Frozenset.isAnySet l <&&> Builtin.Frozenset.isAnySet r) then rule s!"frozenset.{"__and__"}.declined";return <-ret .notImplemented
  ret (<-Builtin.Frozenset.intersection s!"frozenset.{"__and__"}" (<-Builtin.Frozenset.addrOf l) r)) _ _ _
 generalize s!"frozenset.{"__and__"}"=id0
 generalize s!"frozenset.{"__and__"}.declined"=id1
 show wpAny _ _ ((Builtin.Frozenset.isAnySet (.ref a) <&&> Builtin.Frozenset.isAnySet (.ref b)) >>= _) _ _ _
 refine wpAny_bind ?_
 show wpAny _ _ (Builtin.Frozenset.isAnySet (.ref a) >>= _) _ _ _
 refine wpAny_bind (Dz ha ?_)
 show wpAny _ _ (Builtin.Frozenset.isAnySet (.ref b)) _ _ _
 refine Dz hb ?_
 simp only[zC1,zB2,if_false]
 show wpAny _ _ (Builtin.Frozenset.intersection id0 a (.ref b) >>= _) _ _ _
 refine wpAny_bind ?_
 unfold Builtin.Frozenset.intersection
 rw[if_neg (by intro z;have:=beq_iff_eq.mp z;injection this with this;exact cP this.symm)]
 refine wpAny_bind (EG ha (wpAny_bind (Hr ?_)))
 show wpAny _ _ (holding _ _ >>= _) _ _ _
 refine wpAny_bind (wpAny_holding ?_)
 have kk:∀c o,s.heap.get? c=some o->(s.heap.push (Bk w)).get? c=some o:=fun c o e=>Heap.get?_push_of_some _ e
 have dk:=ha.keep (h':=s.heap.push (Bk w)) fun o e=>kk _ _ e
 have bh:=hb.keep (h':=s.heap.push (Bk w)) fun o e=>kk _ _ e
 have ak:SetIs w (s.heap.push (Bk w)) s.heap.objs.size []:=set0_is
 have na:a≠s.heap.objs.size:=let ⟨o,_,_,_,ho,_⟩:=ha;Ep ho
 have nb:b≠s.heap.objs.size:=let ⟨o,_,_,_,ho,_⟩:=hb;Ep ho
 generalize er:s.heap.objs.size=r at *
 refine wpAny_bind (Dz bh ?_)
 simp only[if_true]
 show wpAny _ _ (Builtin.Frozenset.sizeOf b >>= _) _ _ _
 refine wpAny_bind (Es bh ?_)
 refine wpAny_bind (Es dk ?_)
 have hp:∃pa pw kpa kpw,(if kb.length>ka.length then (b,a) else (a,b))=(pa,pw)/\SetIt w (s.heap.push (Bk w)) pa kpa/\SetIt w (s.heap.push (Bk w)) pw kpw/\pa≠r/\pw≠r/\(∀j,j∈kpa/\j∈kpw↔j∈ka/\j∈kb)/\kpw.length<=ka.length+kb.length:=by
  by_cases z:kb.length>ka.length
  ·exact⟨b,a,kb,ka,if_pos z,bh,dk,nb,na,fun j=>and_comm,Nat.le_add_right _ _⟩
  ·exact⟨a,b,ka,kb,if_neg z,dk,bh,na,nb,fun j=>Iff.rfl,Nat.le_add_left _ _⟩
 obtain⟨pa,pw,kpa,kpw,e,hpa,hpw,npa,npw,hj,hlw⟩:=hp
 rw[e]
 dsimp only
 obtain⟨o,es,ep,t,ho,bY,hd,hg,hk,nd,jo,ok,hf⟩:=id hpw
 refine wpAny_bind (E3 ho hd hf ?_)
 refine wpAny_bind (Ix hpw ak (fun c hc=>?_) fun aD h' hg' hp' sb hr'=>?_)
 ·simp only[zAS,zAR,or_false] at hc
  rcases hc with rfl | rfl
  ·exact⟨_,hpa⟩
  ·exact⟨_,ak.it⟩
 have aw:aD.size=kpw.length:=by rw[<-hp'.length_eq,List.length_map,zAF]
 refine wpAny_bind (wpAny_mono (IX (r:=r) (p:=fun j=>decide (j∈kpa)) (R:=fun _ s'=>∃h' k2,s'={ s with heap:=h' }/\Heap.SameBut r (s.heap.push (Bk w)) h'/\SetIs w h' r k2/\(∀j,j∈k2↔j∈ka/\j∈kb)/\k2.length<=ka.length+kb.length) ?_ hg' hr' (by rw[aw];simp;omega) fun h2 k2 iu bZ aW aC=>⟨h2,k2,rfl,sb.trans iu,bZ,fun j=>?_,by rw[aw] at aC;simp at aC;omega⟩) ?_ fun _ _ h'=>h')
 ·intro k tk h1 k1 Q' gx fz aJ hQ
  have hpa1:SetIt w h1 pa kpa:=hpa.keep fun o e=>by rw[gx.2 _ npa,sb.2 _ npa];exact e
  refine wpAny_bind ?_
  refine wpAny_holding ?_
  refine wpAny_bind (HK (s:={ s with heap:=h1 }) hpa1 fun rr iv _=>?_)
  have aF:∀h' k2,Heap.SameBut r h1 h'->SetIs w h' r k2->(∀j,j∈k2↔j∈k1\/(decide (k∈kpa)=true/\j=k))->k2.length<=k1.length+1->wpAny (model prog w) A.in1 (Builtin.Frozenset.unchanged id0 pw ep >>= fun _=>pure (ForInStep.yield PUnit.unit)) Q' E { s with heap:=h' }:=fun h' k2 fC aQ cz cq=>by
   have fq:h'.get? pw=some o:=by rw[fC.2 _ npw,gx.2 _ npw,sb.2 _ npw];exact ho
   exact wpAny_bind (Dt (s:={ s with heap:=h' }) fq hd hf (wpAny_pure (hQ h' k2 fC aQ cz cq)))
  by_cases hmem:k∈kpa
  ·rw[iv,decide_eq_true hmem,if_pos rfl]
   refine wpAny_bind (Hc (s:={ s with heap:=h1 }) fz aJ fun h' k2 fC aQ cz cq=>wpAny_pure ?_)
   exact aF h' k2 fC aQ (fun j=>by rw[cz j,decide_eq_true hmem];simp) cq
  ·rw[iv,decide_eq_false hmem,if_neg zAC]
   refine wpAny_pure ?_
   exact aF h1 k1 (zBG _ _) fz (fun j=>by rw[decide_eq_false hmem];simp) (zBT _)
 ·rw[aW j]
  rw[hp'.mem_iff,decide_eq_true_eq,<-hj j]
  simp
 ·rintro u s' ⟨h',k2,rfl,fC,aQ,cz,cq⟩
  refine wpAny_pure ?_
  refine wpAny_pure ?_
  refine wpAny_pure ⟨_,rfl,by simp,?_⟩
  exact h h' k2 aQ cz cq fun c o e=>by
   have:c≠r:=by rw[<-er];exact Ep e
   rw[fC.2 _ this];exact kk c o e
end
end L2
namespace L2
open PySem PySem.Spec PyProof.Rows
theorem KQ{f g:Nat->Option Nat}:∀l:List Nat,(∀x∈l,g x=f x)->l.filterMap g=l.filterMap f
 | [],_=>rfl
 | x::l,h=>by
  have ih:=KQ l fun y hy=>h y (List.mem_cons_of_mem _ hy)
  have e:=h x List.mem_cons_self
  cases q:f x with
  | none=>rw[zBN (e.trans q),zBN q,ih]
  | some v=>rw[zBC (e.trans q),zBC q,ih]
theorem O6{f g:Nat->Option Nat}{j k:Nat}(hf:f j=none)(hg:g j=some k)(av:∀x,x≠j->g x=f x):∀l:List Nat,l.Nodup->j∈l->(l.filterMap g).Perm (k::l.filterMap f)
 | [],_,h=>by cases h
 | x::l,nd,h=>by
  have jp:=List.nodup_cons.mp nd
  by_cases e:x=j
  ·subst e
   have:l.filterMap g=l.filterMap f:=KQ l fun y hy=>av y fun z=>jp.1 (z ▸ hy)
   rw[zBC hg,zBN hf,this]
  ·have hj:j∈l:=by
    rcases List.mem_cons.mp h with z | z
    ·exact absurd z.symm e
    ·exact z
   have ih:=O6 hf hg av l jp.2 hj
   have ex:=av x e
   cases q:f x with
   | none=>rw[zBN (ex.trans q),zBN q];exact ih
   | some v=>rw[zBC (ex.trans q),zBC q];exact (ih.cons v).trans (List.Perm.swap _ _ _)
theorem OQ{f:Nat->Option Nat}:∀l:List Nat,(∀x∈l,f x≠none)->(l.filterMap f).length=l.length
 | [],_=>rfl
 | x::l,h=>by
  cases q:f x with
  | none=>exact absurd q (h x List.mem_cons_self)
  | some v=>rw[zBC q,zAI,zAI,OQ l fun y hy=>h y (List.mem_cons_of_mem _ hy)]
abbrev Nm(n:Nat)(owner:Array (Option Nat)):List Nat:=(List.range n).filterMap fun j=>owner.getD j none
def Tp(mask:Nat):Nat->Nat×Nat->Nat×Nat
 | 0,x=>x
 | t+1,x=>Tp mask t (SetTable.leap mask x.1 x.2)
theorem IF{mask:Nat}{owner:Array (Option Nat)}{j:Nat}:∀(fuel i p:Nat),SetTable.layClean.free mask owner fuel i p=some j->owner.getD j (some 0)=none
 | 0,_,_,h=>by cases h
 | fuel+1,i,p,h=>by
  unfold SetTable.layClean.free at h
  split at h
  ·rename_i k e
   injection h with h
   subst h
   exact Option.isNone_iff_eq_none.mp (List.find?_some (p:=fun k=>(owner.getD (i+k) (some 0)).isNone) e)
  ·exact IF fuel _ _ h
theorem II{mask:Nat}{owner:Array (Option Nat)}:∀(fuel i p t:Nat),t<fuel->owner.getD (Tp mask t (i,p)).1 (some 0)=none->∃j,SetTable.layClean.free mask owner fuel i p=some j
 | 0,_,_,t,h,_=>absurd h (zCE _)
 | fuel+1,i,p,t,h,e=>by
  unfold SetTable.layClean.free
  split
  ·exact⟨_,rfl⟩
  ·rename_i q
   cases t with
   | zero=>
    have:=List.find?_eq_none.mp q 0 (List.mem_range.mpr (by unfold SetTable.runEnd;split<;>omega))
    rw[Nat.add_zero] at this
    have e':owner.getD i (some 0)=none:=e
    rw[e'] at this
    exact absurd rfl this
   | succ t=>exact II fuel _ _ t (zCZ h) e
def Mt(mask:Nat):Nat->Nat->Nat->Nat
 | 0,_,acc=>acc
 | n+1,i,acc=>Mt mask n ((i*5+1)%(mask+1)) (acc ||| 1 <<< i)
theorem Ka{mask j:Nat}:∀(n i acc:Nat),(Mt mask n i acc).testBit j=true->acc.testBit j=true\/∃t,t<n/\(Tp mask t (i,0)).1=j
 | 0,_,_,h=>.inl h
 | n+1,i,acc,h=>by
  rcases Ka n _ _ h with z | ⟨t,h1,h2⟩
  ·rw[Nat.testBit_or,zBJ] at z
   rcases z with z | z
   ·exact .inl z
   ·rw[Nat.shiftLeft_eq,Nat.one_mul,Nat.testBit_two_pow] at z
    exact .inr ⟨0,zBM _,of_decide_eq_true z⟩
  ·refine .inr ⟨t+1,Nat.succ_lt_succ h1,?_⟩
   show (Tp mask t (SetTable.leap mask i 0)).1=j
   unfold SetTable.leap
   rw[Nat.zero_div,Nat.add_zero]
   exact h2
def QM(mask:Nat):Prop:=∀i j,i<=mask->j<=mask->∃t,t<mask+1/\(Tp mask t (i,0)).1=j
theorem HH(h:(List.range (mask+1)).all (fun i=>Mt mask (mask+1) i 0 == 2^(mask+1)-1)=true):QM mask:=fun i j hi hj=>by
 have:=List.all_eq_true.mp h i (List.mem_range.mpr (Nat.lt_succ_of_le hi))
 have e:=beq_iff_eq.mp this
 have:(Mt mask (mask+1) i 0).testBit j=true:=by
  rw[e,Nat.testBit_two_pow_sub_one]
  exact decide_eq_true (Nat.lt_succ_of_le hj)
 rcases Ka _ _ _ this with z | z
 ·rw[Nat.zero_testBit] at z;cases z
 ·exact z
theorem UY:QM 7:=HH (by decide +kernel)
theorem Ts:QM 15:=HH (by decide +kernel)
theorem TH:QM 31:=HH (by decide +kernel)
theorem TM:QM 63:=HH (by decide +kernel)
theorem S7:QM 127:=HH (by decide +kernel)
theorem getD_none{owner:Array (Option Nat)}{j:Nat}:owner.getD j (some 0)=none->j<owner.size/\owner.getD j none=none:=fun h=>by
 by_cases z:j<owner.size
 ·refine⟨z,?_⟩
  simp[Array.getD,z] at h ⊢
  exact h
 ·simp[Array.getD,z] at h
theorem Pj{mask:Nat}(iQ:QM mask):∀(hs:List Int)(owner:Array (Option Nat))(k:Nat),owner.size=mask+1->(Nm (mask+1) owner).Perm (List.range k)->k+hs.length<=mask+1->(∀h∈hs,SetTable.bits h<32)->
  ∃eH:Array (Option Nat),hs.foldl (fun(acc:Option (Array (Option Nat)×Nat)) h=>(do
   let (owner,k) <-acc
   let j <-SetTable.layClean.free mask owner (SetTable.turns mask) (SetTable.bits h%(mask+1)) (SetTable.bits h)
   pure (owner.setIfInBounds j (some k),k+1))) (some (owner,k))=some (eH,k+hs.length)/\eH.size=mask+1/\(Nm (mask+1) eH).Perm (List.range (k+hs.length))
 | [],owner,k,hz,hp,_,_=>⟨owner,rfl,hz,hp⟩
 | h::hs,owner,k,hz,hp,hl,hb=>by
  rw[zAI] at hl
  have bY:∃j,j<=mask/\owner.getD j none=none:=zA2 fun z=>by
   have:=OQ (f:=fun j=>owner.getD j none) (List.range (mask+1)) fun x hx e=>z ⟨x,Nat.le_of_lt_succ (List.mem_range.mp hx),e⟩
   have e2:=hp.length_eq
   rw[List.length_range] at this e2
   change (Nm (mask+1) owner).length=_ at this
   omega
  obtain⟨j0,hj0,e0⟩:=bY
  have e0':owner.getD j0 (some 0)=none:=by
   have:j0<owner.size:=by omega
   simp[Array.getD,this] at e0 ⊢
   exact e0
  have hb0:=hb h List.mem_cons_self
  have hd:SetTable.bits h / 32=0:=Nat.div_eq_of_lt hb0
  obtain⟨t,ht,et⟩:=iQ ((SetTable.bits h%(mask+1)*5+1)%(mask+1)) j0 (Nat.le_of_lt_succ (Nat.mod_lt _ (zBM _))) hj0
  obtain⟨j,ej⟩:=II (mask:=mask) (owner:=owner) (SetTable.turns mask) (SetTable.bits h%(mask+1)) (SetTable.bits h) (t+1) (by unfold SetTable.turns;omega) (by
   show owner.getD (Tp mask t (SetTable.leap mask _ _)).1 (some 0)=none
   unfold SetTable.leap
   rw[hd,Nat.add_zero,et]
   exact e0')
  obtain⟨jl,jn⟩:=getD_none (IF _ _ _ ej)
  have hp':(Nm (mask+1) (owner.setIfInBounds j (some k))).Perm (List.range (k+1)):=by
   refine (O6 (f:=fun j=>owner.getD j none) (g:=fun x=>(owner.setIfInBounds j (some k)).getD x none) (j:=j) (k:=k) jn ?_ (fun x hx=>?_) _ List.nodup_range (List.mem_range.mpr (by omega))).trans ?_
   ·simp[Array.getD,jl]
   ·simp only[Array.getD_eq_getD_getElem?]
    rw[Array.getElem?_setIfInBounds_ne (zA7 hx)]
   ·refine (hp.cons k).trans ?_
    rw[zD (n:=k)]
    exact List.perm_append_comm (l₁:=[k])
  obtain⟨o',h1,h2,h3⟩:=Pj iQ hs (owner.setIfInBounds j (some k)) (k+1) (by rw[Array.size_setIfInBounds];exact hz) hp' (by omega) fun y hy=>hb y (List.mem_cons_of_mem _ hy)
  have ek:k+1+hs.length=k+(hs.length+1):=by omega
  refine⟨o',?_,h2,?_⟩
  ·rw[List.foldl_cons]
   show List.foldl _ (SetTable.layClean.free mask owner (SetTable.turns mask) (SetTable.bits h%(mask+1)) (SetTable.bits h) >>= _) hs=_
   rw[ej,zAI,<-ek]
   exact h1
  ·rw[zAI,<-ek];exact h3
theorem MB(iQ:QM mask)(finger moves:Nat)(led plain:Bool)(hs:Array Int)(hl:hs.size<=mask)(hb:∀h∈hs.toList,SetTable.bits h<32):
  ∃t order,SetTable.laid mask finger moves led plain hs=some (t,order)/\order.toList.Perm (List.range hs.size)/\t.dummies = #[]/\t.led=led/\Up t.place/\t.place.size=hs.size/\t.mask=mask:=by
 have hr:(Nm (mask+1) (Array.replicate (mask+1) none)).Perm (List.range 0):=by
  have:Nm (mask+1) (Array.replicate (mask+1) none)=[]:=by
   refine List.filterMap_eq_nil_iff.mpr fun x hx=>?_
   simp[Array.getD]
  rw[this]
  exact zBV _
 obtain⟨owner,h1,h2,h3⟩:=Pj iQ hs.toList _ 0 Array.size_replicate hr (by rw[zAF];omega) hb
 rw[Nat.zero_add,zAF] at h1 h3
 have e:SetTable.layClean mask hs=some owner:=by
  unfold SetTable.layClean
  rw[<-Array.foldl_toList]
  exact congrArg (Option.map (·.1)) h1
 unfold SetTable.laid
 rw[e]
 refine⟨_,_,rfl,?_,rfl,rfl,?_,?_,rfl⟩
 ·show (List.map (fun x:Nat×Nat=>x.2) (List.filterMap (fun j=>Option.map (fun x=>(j,x)) (owner.getD j none)) (List.range (mask+1)))).Perm _
  rw[zDK]
  have:(fun j=>Option.map (fun x:Nat×Nat=>x.2) (Option.map (fun x=>(j,x)) (owner.getD j none)))=fun j=>owner.getD j none:=by
   funext j
   cases owner.getD j none<;>rfl
  rw[this]
  exact h3
 ·show (List.map (fun x:Nat×Nat=>x.fst) (List.filterMap (fun j=>Option.map (fun x=>(j,x)) (owner.getD j none)) (List.range (mask+1)))).toArray.toList.Pairwise (· < ·)
  rw[zDD]
  rw[zDK]
  refine List.Pairwise.filterMap _ (R:=(· < ·)) ?_ zCY
  intro a a' aO b hb b' hb'
  have f:∀{a b:Nat},Option.map (fun x:Nat×Nat=>x.1) (Option.map (fun x=>(a,x)) (owner.getD a none))=some b->b=a:=fun {a b} e=>by
   cases q:owner.getD a none with
   | none=>rw[q] at e;cases e
   | some y=>rw[q] at e;injection e with e;exact e.symm
  rw[f hb,f hb']
  exact aO
 ·show (List.map (fun x:Nat×Nat=>x.fst) (List.filterMap (fun j=>Option.map (fun x=>(j,x)) (owner.getD j none)) (List.range (mask+1)))).toArray.size=_
  have e3:=h3.length_eq
  rw[List.length_range] at e3
  rw[zAG,List.length_map,<-e3]
  have:∀l:List Nat,(List.filterMap (fun j=>Option.map (fun x=>(j,x)) (owner.getD j none)) l).length=(List.filterMap (fun j=>owner.getD j none) l).length:=fun l=>by
   induction l with
   | nil=>rfl
   | cons x l ih=>cases q:owner.getD x none with
    | none=>rw[zBN (by rw[q];rfl),zBN (f:=fun j=>owner.getD j none) q];exact ih
    | some v=>rw[zBC (by rw[q];rfl),zBC (f:=fun j=>owner.getD j none) q,zAI,zAI,ih]
  exact this _
end L2
namespace L2
open PySem PySem.Spec PyProof.Rows
theorem BJ{α:Type}(xs:Array α)(p:Nat):(SetTable.eraseAt xs p).toList=xs.toList.eraseIdx p:=by
 simp[SetTable.eraseAt,List.extract_eq_take_drop,zCC,zBX]
def SetDr(w:World)(h:Heap)(a:Addr)(ks:List Int)(m d:Nat):Prop:=
 ∃o es ep t,h.get? a=some o/\o.ExactSet/\o.data= .set es ep t/\EGood es.toList/\es.toList.map A8=ks/\ks.Nodup/\ks.length<2000/\Gp (BH w) t/\t.fits es.size=true/\t.mask=m/\t.dummies.size<=d
theorem SetDr.it(x:SetDr w h a ks m d):SetIt w h a ks:=by
 obtain⟨o,es,ep,t,h1,h2,h3,h4,h5,h6,h7,h8,h9,_⟩:=x
 exact⟨o,es,ep,t,h1,h2,h3,h4,h5,h6,h7,h8,h9⟩
theorem Hf{h:Heap}{o:Obj}{a:Addr}{es aD:Array (Int×Value)}{ep:Nat}{t t':SetTable}(ho:h.get? a=some o)(hd:o.data= .set es ep t):
  (h.update a (Obj.putSet aD t')).get? a=some { o with data:=.set aD (ep+1) t' }:=by
 have:=Heap.get?_update_self (Obj.putSet aD t') ho (by rw[putSet_of aD t' hd];rfl)
 rw[putSet_of aD t' hd] at this;exact this
theorem LN(h0:0<=k)(h1:k<32):SetTable.bits (hashInt k)<32:=by
 obtain⟨n,rfl⟩:=zBH h0
 have hn:n<32:=by omega
 have:∀n:Fin 32,SetTable.bits (hashInt (n.val:Int))<32:=by decide +kernel
 exact this ⟨n,hn⟩
section
variable {prog:Program}{w:World}{A:Around}{E:Value->Shared->Prop}{s:Shared}{a b r:Addr}{ka kb ks:List Int}{k:Int}{tk:Tok}
theorem Ky(hS:SetDr w s.heap a ks m d)(h:∀(bb:Bool) h' bf,Heap.SameBut a s.heap h'->SetDr w h' a bf m (d+1)->(∀j,j∈bf↔j∈ks/\j≠k)->bf.length<=ks.length->Q bb { s with heap:=h' }):
  wpAny (model prog w) A (setDiscardHashed a (.int k tk) (hashInt k)) Q E s:=by
 obtain⟨o,es,ep,t,ho,bY,hd,hg,hk,nd,hl,ok,hf,em,ed⟩:=id hS
 unfold setDiscardHashed
 refine wpAny_bind (HK hS.it fun rr iv bH=>?_)
 cases rr with
 | none=>
  have hmem:k∉ks:=by
   intro z
   rw[decide_eq_true z] at iv
   cases iv
  have e:s={ s with heap:=s.heap }:=by cases s;rfl
  have:=h false s.heap ks (zBG _ _) ⟨o,es,ep,t,ho,bY,hd,hg,hk,nd,hl,ok,hf,em,Nat.le_succ_of_le ed⟩ (fun j=>⟨fun z=>⟨z,fun e=>hmem (e ▸ z)⟩,fun z=>z.1⟩) (zAA _)
  rw[e]
  exact wpAny_pure this
 | some i=>
  have hki:=bH i rfl
  obtain⟨hi,eki⟩:=List.getElem?_eq_some_iff.mp hki
  have aw:=DK hk
  have ar:t.place.size=es.size:=by
   unfold SetTable.fits at hf
   exact beq_iff_eq.mp (Bool.and_eq_true_iff.mp hf).1
  have bC:t.place.size+t.dummies.size<=t.mask:=by
   unfold SetTable.fits at hf
   exact of_decide_eq_true (Bool.and_eq_true_iff.mp hf).2
  have hip:i<t.place.size:=by omega
  have fc:t.drop i={ t with place:=SetTable.eraseAt t.place i,dummies:=SetTable.insertAt t.dummies (SetTable.below t.dummies t.place[i]) t.place[i] }:=by
   unfold SetTable.drop
   rw[Array.getElem?_eq_getElem hip]
  have jq:(SetTable.eraseAt es i).toList.map A8=ks.eraseIdx i:=by
   rw[BJ,<-hk,zCC,zCC,zAM,List.map_take,List.map_drop]
  have hpm:=DA ks i hi
  rw[eki] at hpm
  have jp:=hpm.nodup_iff.mpr nd
  have ag:(ks.eraseIdx i).length+1=ks.length:=by rw[<-hpm.length_eq,zAI]
  have fF:(SetTable.eraseAt es i).size=(ks.eraseIdx i).length:=by rw[<-jq,List.length_map,zAF]
  have dj:(SetTable.eraseAt t.place i).size+1=t.place.size:=by
   rw[<-zAF,BJ,zC8,zAF,if_pos hip];omega
  have hds:(SetTable.insertAt t.dummies (SetTable.below t.dummies t.place[i]) t.place[i]).size=t.dummies.size+1:=by
   rw[<-zAF,(SetTable.insertAt_perm _ _ _).length_eq]
   simp
  dsimp only
  refine wpAny_bind (wpAny_setState_of ho hd hf ?_)
  dsimp only
  refine wpAny_bind (wpAny_storeSet_of ho hd ?_ (fits_of_scanBound (by rw[fF];exact Cm (by omega))))
  refine wpAny_bind (wpAny_point (wpAny_pure ?_))
  refine h true _ (ks.eraseIdx i) (zAV _ _ _) ⟨_,_,_,_,Hf ho hd,bY,rfl,?_,jq,(List.nodup_cons.mp jp).2,by omega,?_,?_,?_,?_⟩ (fun j=>?_) (by omega)
  ·intro e he
   rw[BJ] at he
   exact hg e (List.mem_of_mem_eraseIdx he)
  ·rw[fc]
   refine⟨ok.led,?_⟩
   show (SetTable.eraseAt t.place i).toList.Pairwise (· < ·)
   rw[BJ]
   exact List.Pairwise.sublist (List.eraseIdx_sublist _ _) ok.up
  ·rw[fc]
   unfold SetTable.fits SetTable.fill
   show ((SetTable.eraseAt t.place i).size == _ && decide ((SetTable.eraseAt t.place i).size+(SetTable.insertAt t.dummies _ _).size<=t.mask))=true
   rw[hds,Bool.and_eq_true_iff]
   exact⟨beq_iff_eq.mpr (by omega),decide_eq_true (by omega)⟩
  ·rw[fc];exact em
  ·rw[fc]
   show (SetTable.insertAt t.dummies _ _).size<=d+1
   rw[hds];omega
  ·rw[<-hpm.mem_iff,zAS]
   have hn:=(List.nodup_cons.mp jp).1
   constructor
   ·intro z;exact⟨.inr z,fun e=>hn (e ▸ z)⟩
   ·rintro⟨z | z,ne⟩
    ·exact absurd z ne
    ·exact z
theorem MS{es:Array (Int×Value)}{t:SetTable}{order:Array Nat}(hp:order.toList.Perm (List.range es.size)):(order.filterMap (es[·]?)).toList.Perm es.toList:=by
 rw[Array.toList_filterMap]
 exact (hp.filterMap _).trans (by rw[filterMap_getElem?_range])
end
end L2
namespace L2
open PySem PySem.Spec PyProof.Rows
theorem RZ(n:Nat)(hn:n<=32):∃m,(∀led:Bool,(SetTable.fresh 0 0 led).roomFor n=if m=7 then none else some (2*n))/\(m≠7->SetTable.sizeAbove (2*n)-1=m)/\n<=m/\QM m/\SetTable.sizeAbove (2*n)<=128:=by
 have key:∀n:Fin 33,(decide (n.val<=4) && decide (n.val*5<21)) || (decide (4<n.val) && decide (21<=n.val*5) && (SetTable.sizeAbove (2*n.val)-1 == 15 || SetTable.sizeAbove (2*n.val)-1 == 31 || SetTable.sizeAbove (2*n.val)-1 == 63 || SetTable.sizeAbove (2*n.val)-1 == 127) && decide (n.val<=SetTable.sizeAbove (2*n.val)-1))=true:=by decide +kernel
 have key2:∀n:Fin 33,SetTable.sizeAbove (2*n.val)<=128:=by decide +kernel
 have hk:=key ⟨n,by omega⟩
 have gy:=key2 ⟨n,by omega⟩
 dsimp only at hk gy
 have fe:∀led:Bool,(SetTable.fresh 0 0 led).roomFor n=if (0+n)*5>=7*3 then some ((0+n)*2) else none:=fun led=>rfl
 by_cases h4:n<=4
 ·refine⟨7,fun led=>?_,fun h=>absurd rfl h,by omega,UY,gy⟩
  rw[fe,if_neg (by omega),if_pos rfl]
 ·have hgt:¬decide (n<=4)=true:=by simpa using h4
  simp only[zBJ,zAN,decide_eq_true_eq,beq_iff_eq] at hk
  rcases hk with⟨z,_⟩|⟨⟨⟨_,h21⟩,hm⟩,hnm⟩
  ·exact absurd z h4
  ·have hf:∀m,m≠7->∀led:Bool,(SetTable.fresh 0 0 led).roomFor n=if m=7 then none else some (2*n):=fun m hm led=>by
    rw[fe,if_pos (by omega),if_neg hm,Nat.zero_add,Nat.mul_comm]
   rcases hm with ((e | e) | e) | e
   ·exact⟨15,hf 15 (by decide),fun _=>e,by omega,Ts,gy⟩
   ·exact⟨31,hf 31 (by decide),fun _=>e,by omega,TH,gy⟩
   ·exact⟨63,hf 63 (by decide),fun _=>e,by omega,TM,gy⟩
   ·exact⟨127,hf 127 (by decide),fun _=>e,by omega,S7,gy⟩
section
variable {prog:Program}{w:World}{A:Around}{E:Value->Shared->Prop}{s:Shared}{a b r:Addr}{ka kb ks:List Int}{k:Int}{tk:Tok}
theorem Pr(ho:s.heap.get? r=some (Bk w))(hr:∀led:Bool,(SetTable.fresh 0 0 led).roomFor n=if m=7 then none else some (2*n))(hm:m≠7->SetTable.sizeAbove (2*n)-1=m)(iQ:QM m)(h128:SetTable.sizeAbove (2*n)<=128)(h:∀h' o' ep t,Heap.SameBut r s.heap h'->h'.get? r=some o'->o'.ExactSet->o'.data= .set #[] ep t->t.fits 0=true->t.mask=m->t.place.size=0->t.dummies = #[]->t.led = !BH w->Q () { s with heap:=h' }):
  wpAny (model prog w) A (setRoomFor r n) Q E s:=by
 unfold setRoomFor
 refine wpAny_bind (wpAny_setState_of ho rfl rfl ?_)
 dsimp only
 rw[hr]
 by_cases z:m=7
 ·rw[if_pos z]
  dsimp only
  have e:s={ s with heap:=s.heap }:=by cases s;rfl
  rw[e]
  exact wpAny_pure (h s.heap _ 0 _ (zBG _ _) ho ⟨rfl,rfl,rfl⟩ rfl rfl z.symm rfl rfl rfl)
 ·rw[if_neg z]
  dsimp only
  unfold setRelay
  refine wpAny_bind (wpAny_setState_of ho rfl rfl ?_)
  dsimp only
  rw[if_neg (by have:=sizeLine_eq;omega)]
  have cz:=hm z
  obtain⟨t,order,e1,hp,hdm,hld,dm,dj,hmk⟩:=MB iQ 0 ((SetTable.fresh 0 0 (!BH w)).movedTo m) (!BH w) true #[] (zA9 _) (fun h hh=>by simp at hh)
  have e2:(SetTable.fresh 0 0 (!BH w)).relaid (Array.map (·.1) (#[]:Array (Int×Value))) (2*n)=some (t,order):=by
   have em:Array.map (·.1) (#[]:Array (Int×Value)) = #[]:=by simp
   unfold SetTable.relaid
   rw[cz,em]
   exact e1
  have hop:(order.filterMap ((#[]:Array (Int×Value))[·]?)) = #[]:=by
   have:=MS (t:=t) (es:=#[]) (order:=order) hp
   exact Array.toList_inj.mp (List.perm_nil.mp this)
  have hft:t.fits 0=true:=by
   unfold SetTable.fits SetTable.fill
   rw[dj,hdm]
   rfl
  refine wpAny_bind ?_
  rw[e2]
  show wpAny _ _ (if (order.filterMap ((#[]:Array (Int×Value))[·]?)).size != (#[]:Array (Int×Value)).size then _ else _) _ _ _
  rw[hop,if_neg (by simp)]
  refine wpAny_pure ?_
  dsimp only
  refine wpAny_storeSet_of ho rfl ?_ (by simp)
  exact h _ _ _ _ (zAV _ _ _) (Hf ho rfl) ⟨rfl,rfl,rfl⟩ rfl hft hmk dj hdm hld
theorem LI(ha:SetIt w s.heap a ka)(ho:s.heap.get? r=some (Bk w))(av:r≠a)(iw:∀j∈ka,0<=j/\j<32)(hl:ka.length<=32)(h:∀h' k2 m,Heap.SameBut r s.heap h'->SetDr w h' r k2 m 0->k2.Perm ka->ka.length<=m->Q () { s with heap:=h' }):
  wpAny (model prog w) A (setMerge r a) Q E s:=by
 obtain⟨o,es,ep,t,hoa,bY,hd,hg,hk,nd,jo,ok,hf⟩:=id ha
 have aw:=DK hk
 unfold setMerge
 rw[if_neg (by simpa using av)]
 refine wpAny_bind (wpAny_setState_of hoa hd hf ?_)
 dsimp only
 by_cases jr:es.isEmpty=true
 ·rw[if_pos jr]
  have e0:ka=[]:=List.eq_nil_of_length_eq_zero (by rw[<-aw];exact Array.isEmpty_iff_size_eq_zero.mp jr)
  have e:s={ s with heap:=s.heap }:=by cases s;rfl
  have:=h s.heap [] 7 (zBG _ _) ⟨_,#[],0,_,ho,⟨rfl,rfl,rfl⟩,rfl,fun e he=>absurd he (by simp),rfl,List.nodup_nil,by decide,⟨rfl,List.Pairwise.nil⟩,rfl,rfl,zAA _⟩ (by rw[e0]) (by rw[e0];decide)
  rw[e]
  exact wpAny_pure this
 ·rw[if_neg jr]
  obtain⟨m,hr,hm,hnm,iQ,h128⟩:=RZ es.size (by omega)
  refine wpAny_bind (Pr ho hr hm iQ h128 fun h1 o1 ep1 t1 gx dg hex1 cb hf1 cu eG hdm1 aJ=>?_)
  have hoa1:h1.get? a=some o:=by rw[gx.2 _ (zA7 av)];exact hoa
  refine wpAny_bind (wpAny_setState_of (s:={ s with heap:=h1 }) dg cb hf1 ?_)
  dsimp only
  have fe:(t1.fill != 0)=false:=by
   unfold SetTable.fill
   rw[eG,hdm1]
   rfl
  unfold SetTable.road
  rw[fe,if_neg zAC]
  by_cases hc:(t1.mask == t.mask && t.dummies.isEmpty)=true
  ·rw[if_pos hc]
   dsimp only
   obtain⟨c1,c2⟩:=Bool.and_eq_true_iff.mp hc
   refine wpAny_storeSet_of (s:={ s with heap:=h1 }) dg cb ?_ (fits_of_scanBound (by rw[aw];exact Cm jo))
   refine h _ ka m (gx.trans (zAV _ _ _)) ⟨_,_,_,_,Hf dg cb,hex1,rfl,hg,hk,nd,jo,⟨?_,ok.up⟩,hf,?_,?_⟩ (zBV _) (by omega)
   ·show (t1.led && t.led)=_
    rw[aJ,ok.led,Bool.and_self]
   ·show t.mask=m
    rw[<-cu]
    exact (beq_iff_eq.mp c1).symm
   ·show t.dummies.size<=0
    rw[Array.isEmpty_iff_size_eq_zero.mp c2]
    exact zAA _
  ·rw[if_neg hc]
   dsimp only
   have hsm:(es.map (·.1)).size=es.size:=Array.size_map
   obtain⟨t2,order,e1,hp,hdm,hld,dm,dj,hmk⟩:=MB iQ t1.finger t1.moves (t1.led && t.led) (t1.plain && t.plain) (es.map (·.1)) (by rw[hsm];exact hnm) (fun hh iP=>by
    rw[Array.toList_map] at iP
    obtain⟨e,he,rfl⟩:=List.mem_map.mp iP
    rw[(hg e he).1]
    have:=iw (A8 e) (by rw[<-hk];exact zDE he)
    exact LN this.1 this.2)
   rw[hsm] at hp dj
   rw[cu]
   have hpe:=MS (t:=t2) (es:=es) hp
   refine wpAny_bind ?_
   rw[e1]
   have hsz2:(order.filterMap (es[·]?)).size=es.size:=by rw[<-zAF,hpe.length_eq,zAF]
   show wpAny _ _ (if (order.filterMap (es[·]?)).size != es.size then _ else _) _ _ _
   rw[if_neg (by rw[hsz2];simp)]
   refine wpAny_pure ?_
   dsimp only
   have gz:=hpe.map A8
   rw[hk] at gz
   refine wpAny_storeSet_of (s:={ s with heap:=h1 }) dg cb ?_ (fits_of_scanBound (by rw[hsz2,aw];exact Cm jo))
   refine h _ _ m (gx.trans (zAV _ _ _)) ⟨_,_,_,_,Hf dg cb,hex1,rfl,fun e he=>hg e (hpe.mem_iff.mp he),rfl,gz.nodup_iff.mpr nd,by rw[gz.length_eq];exact jo,⟨by rw[hld,aJ,ok.led,Bool.and_self],dm⟩,?_,hmk,by rw[hdm];exact zAA _⟩ gz (by omega)
   unfold SetTable.fits SetTable.fill
   rw[dj,hdm,hsz2,hmk,Bool.and_eq_true_iff]
   exact⟨beq_self_eq_true _,decide_eq_true (by simpa using hnm)⟩
end
end L2
namespace L2
open PySem PySem.Spec PyProof.Rows
section
variable {prog:Program}{w:World}{A:Around}{E:Value->Shared->Prop}{s:Shared}{a b r:Addr}{ka kb kr ks:List Int}{k:Int}{tk:Tok}
theorem Ku(hr:SetDr w s.heap r kr m 0)(hb:SetIt w s.heap b kb)(av:r≠b)(aO:kb.length<kr.length / 4)(hm:kr.length<=m)(h:∀h' k2,Heap.SameBut r s.heap h'->SetIt w h' r k2->(∀j,j∈k2↔j∈kr/\j∉kb)->k2.length<=kr.length->Q () { s with heap:=h' }):
  wpAny (model prog w) A (Builtin.Frozenset.differenceUpdate id0 r (.ref b)) Q E s:=by
 unfold Builtin.Frozenset.differenceUpdate
 rw[if_neg (by intro z;have:=beq_iff_eq.mp z;injection this with this;exact av this.symm)]
 refine wpAny_bind (Dz hb ?_)
 rw[if_pos rfl]
 obtain⟨o,es,ep,t,ho,bY,hd,hg,hk,nd,jo,ok,hf⟩:=id hb
 show wpAny _ _ (Builtin.Frozenset.sizeOf b >>= _) _ _ _
 refine wpAny_bind (Es hb ?_)
 refine wpAny_bind (Es hr.it ?_)
 rw[if_neg (by omega)]
 refine wpAny_bind (E3 ho hd hf ?_)
 refine wpAny_bind (wpAny_holding ?_)
 refine wpAny_bind (Ng hb (fun c hc=>?_) fun aD hg' hp'=>?_)
 ·simp only[zAS,zAR,or_false] at hc
  subst hc
  exact⟨_,hr.it⟩
 have aw:aD.size=kb.length:=by rw[<-hp'.length_eq,List.length_map,zAF]
 refine wpAny_bind ?_
 refine wpAny_forIn_array' _ (fun rest _ s'=>∃h1 k1 d,s'={ s with heap:=h1 }/\Heap.SameBut r s.heap h1/\SetDr w h1 r k1 m d/\d+rest.length=kb.length/\EGood rest/\k1.length<=kr.length/\
  (∀j,(j∈k1/\j∉rest.map A8)↔j∈kr/\j∉kb)) _ ?_ ?_ _ _ ⟨s.heap,kr,0,by cases s;rfl,zBG _ _,hr,by rw[zAF,aw];omega,hg',zAA _,fun j=>by rw[hp'.mem_iff]⟩
 ·rintro⟨hh,x⟩ rest u s' ⟨h1,k1,d,rfl,sb,hS,jk,g,hl,hm⟩
  obtain⟨e1,t',e2⟩:=g _ List.mem_cons_self
  generalize hk:A8 (hh,x)=k at e1 e2
  dsimp only at e1 e2
  subst e1;subst e2
  rw[zAI] at jk
  refine wpAny_bind (wpAny_holding ?_)
  refine Ky (s:={ s with heap:=h1 }) hS fun bb h2 k2 iu bZ aW aC=>?_
  have fq:h2.get? b=some o:=by rw[iu.2 _ (zA7 av),sb.2 _ (zA7 av)];exact ho
  refine wpAny_bind (Dt (s:={ s with heap:=h2 }) fq hd hf (wpAny_pure ?_))
  refine⟨h2,k2,d+1,rfl,sb.trans iu,bZ,by omega,fun y hy=>g y (List.mem_cons_of_mem _ hy),zAH aC hl,fun j=>?_⟩
  rw[<-hm j,aW j,zBL,zAS,hk]
  constructor
  ·rintro⟨⟨z1,z2⟩,z3⟩
   exact⟨z1,fun z=>z.elim z2 z3⟩
  ·rintro⟨z1,z2⟩
   exact⟨⟨z1,fun e=>z2 (.inl e)⟩,fun e=>z2 (.inr e)⟩
 ·rintro u s' ⟨h1,k1,d,rfl,sb,hS,jk,g,hl,aW⟩
  refine wpAny_pure ?_
  obtain⟨o1,bw,ep1,t1,dg,hex1,cb,gL,hk1,nd1,hlk1,ok1,hf1,em1,ed1⟩:=id hS
  unfold setTidy
  refine wpAny_bind (wpAny_setState_of (s:={ s with heap:=h1 }) dg cb hf1 ?_)
  dsimp only
  rw[if_neg (by
   unfold SetTable.tooManyDummies
   rw[em1]
   simp only[List.length_nil] at jk
   have:¬t1.dummies.size>m / 4:=by omega
   simpa using this)]
  exact wpAny_pure (h h1 k1 sb hS.it (fun j=>by rw[<-aW j];simp) hl)
theorem Rg(ha:SetIt w s.heap a ka)(hb:SetIt w s.heap b kb)(cP:a≠b)(iw:∀j∈ka,0<=j/\j<32)(hl:ka.length<=32)(hlb:kb.length<=1000)(h:∀h' k2,SetIt w h' s.heap.objs.size k2->(∀j,j∈k2↔j∈ka/\j∉kb)->k2.length<=ka.length->(∀c o,s.heap.get? c=some o->h'.get? c=some o)->Q (.ref s.heap.objs.size) { s with heap:=h' }):
  wpAny (model prog w) A (binaryOp .Sub (.ref a) (.ref b)) Q E s:=by
 refine wpAny_binaryOp_same ha.typeIs hb.typeIs PySem.F.fills_set_sub PySem.F.slot_set_sub ?_
 refine wpAny_call_entry PySem.F.slot_set_sub ha.typeIs F.entry_set_sub ?_ (PySem.F.args_set_sub_2 _ _)
 show wpAny _ _ (do
  let (self,other) <-Builtin.Frozenset.slot1 "__sub__" ⟨[.ref a,.ref b],[]⟩
  let (l,r):=if false=true then (other,self) else (self,other)
  if !(<-Builtin.Frozenset.isAnySet l <&&> Builtin.Frozenset.isAnySet r) then rule s!"frozenset.{"__sub__"}.declined";return <-ret .notImplemented
  ret (<-Builtin.Frozenset.difference s!"frozenset.{"__sub__"}" (<-Builtin.Frozenset.addrOf l) r)) _ _ _
 generalize s!"frozenset.{"__sub__"}"=id0
 generalize s!"frozenset.{"__sub__"}.declined"=id1
 show wpAny _ _ ((Builtin.Frozenset.isAnySet (.ref a) <&&> Builtin.Frozenset.isAnySet (.ref b)) >>= _) _ _ _
 refine wpAny_bind ?_
 show wpAny _ _ (Builtin.Frozenset.isAnySet (.ref a) >>= _) _ _ _
 refine wpAny_bind (Dz ha ?_)
 show wpAny _ _ (Builtin.Frozenset.isAnySet (.ref b)) _ _ _
 refine Dz hb ?_
 simp only[zC1,zB2,if_false]
 show wpAny _ _ (Builtin.Frozenset.difference id0 a (.ref b) >>= _) _ _ _
 refine wpAny_bind ?_
 have kk:∀c o,s.heap.get? c=some o->(s.heap.push (Bk w)).get? c=some o:=fun c o e=>Heap.get?_push_of_some _ e
 have dk:=ha.keep (h':=s.heap.push (Bk w)) fun o e=>kk _ _ e
 have bh:=hb.keep (h':=s.heap.push (Bk w)) fun o e=>kk _ _ e
 have ak:SetIs w (s.heap.push (Bk w)) s.heap.objs.size []:=set0_is
 have hr0:(s.heap.push (Bk w)).get? s.heap.objs.size=some (Bk w):=Heap.get?_push_size _ rfl
 have na:a≠s.heap.objs.size:=let ⟨o,_,_,_,ho,_⟩:=ha;Ep ho
 have nb:b≠s.heap.objs.size:=let ⟨o,_,_,_,ho,_⟩:=hb;Ep ho
 have keep:∀h',Heap.SameBut s.heap.objs.size (s.heap.push (Bk w)) h'->∀c o,s.heap.get? c=some o->h'.get? c=some o:=fun h' sb c o e=>by
  rw[sb.2 _ (Ep e)];exact kk c o e
 unfold Builtin.Frozenset.difference
 refine wpAny_bind (Dz hb ?_)
 simp only[zC1,zB2,if_false]
 show wpAny _ _ (Builtin.Frozenset.sizeOf b >>= _) _ _ _
 refine wpAny_bind (Es hb ?_)
 refine wpAny_bind (Es ha ?_)
 by_cases hbig:ka.length / 4>kb.length
 ·rw[if_pos hbig]
  refine wpAny_bind (wpAny_rule ?_)
  unfold Builtin.Frozenset.copyOf
  refine wpAny_bind (wpAny_bind (EG ha (wpAny_bind (Hr ?_))))
  show wpAny _ _ (setMerge s.heap.objs.size a >>= _) _ _ _
  refine wpAny_bind (LI (s:={ s with heap:=s.heap.push (Bk w) }) dk hr0 (zA7 na) iw hl fun h1 k1 m gx fz eG cu=>?_)
  refine wpAny_pure ?_
  have fb:SetIt w h1 b kb:=bh.keep fun o e=>by rw[gx.2 _ nb];exact e
  refine wpAny_bind (m:=Builtin.Frozenset.addrOf (Value.ref s.heap.objs.size)) (wpAny_pure ?_)
  refine wpAny_bind (wpAny_holding ?_)
  show wpAny _ _ (Builtin.Frozenset.differenceUpdate id0 s.heap.objs.size (.ref b)) _ _ _
  refine Ku (s:={ s with heap:=h1 }) fz fb (zA7 nb) (by rw[eG.length_eq];exact hbig) (by rw[eG.length_eq];exact cu) fun h2 k2 iu bZ aW aC=>?_
  refine wpAny_pure ?_
  refine wpAny_pure ⟨_,rfl,by simp,?_⟩
  exact h h2 k2 bZ (fun j=>by rw[aW j,eG.mem_iff]) (by rw[<-eG.length_eq];exact aC) (keep _ (gx.trans iu))
 ·rw[if_neg hbig]
  refine wpAny_bind (EG ha (wpAny_bind (Hr ?_)))
  show wpAny _ _ (setEpoch a >>= _) _ _ _
  obtain⟨o,es,ep,t,ho,bY,hd,hg,hk,nd,jo,ok,hf⟩:=id dk
  refine wpAny_bind (E3 (s:={ s with heap:=s.heap.push (Bk w) }) ho hd hf ?_)
  refine wpAny_bind (wpAny_holding ?_)
  simp only[if_true]
  refine wpAny_bind (Ix (s:={ s with heap:=s.heap.push (Bk w) }) dk ak (fun c hc=>?_) fun aD h' hg' hp' sb hr'=>?_)
  ·simp only[zAS,zAR,or_false] at hc
   rcases hc with rfl | rfl
   ·exact⟨_,bh⟩
   ·exact⟨_,ak.it⟩
  have aw:aD.size=ka.length:=by rw[<-hp'.length_eq,List.length_map,zAF]
  refine wpAny_bind (wpAny_mono (IX (s:={ s with heap:=h' }) (r:=s.heap.objs.size) (p:=fun j=>decide (j∉kb)) (R:=fun _ s'=>∃h' k2,s'={ s with heap:=h' }/\Heap.SameBut s.heap.objs.size (s.heap.push (Bk w)) h'/\SetIs w h' s.heap.objs.size k2/\(∀j,j∈k2↔j∈ka/\j∉kb)/\k2.length<=ka.length) ?_ hg' hr' (by rw[aw];simp;omega) fun h2 k2 iu bZ aW aC=>⟨h2,k2,rfl,sb.trans iu,bZ,fun j=>?_,by rw[aw] at aC;simpa using aC⟩) ?_ fun _ _ h'=>h')
  ·intro k tk h1 k1 Q' gx fz aJ hQ
   have fb:SetIt w h1 b kb:=bh.keep fun o e=>by rw[gx.2 _ nb,sb.2 _ nb];exact e
   refine wpAny_bind ?_
   refine wpAny_holding ?_
   refine wpAny_bind (HK (s:={ s with heap:=h1 }) fb fun rr iv _=>wpAny_bind (wpAny_pure ?_))
   have aF:∀h2 k2,Heap.SameBut s.heap.objs.size h1 h2->SetIs w h2 s.heap.objs.size k2->(∀j,j∈k2↔j∈k1\/(decide (k∉kb)=true/\j=k))->k2.length<=k1.length+1->wpAny (model prog w) A.in1 (Builtin.Frozenset.unchanged id0 a ep >>= fun _=>pure (ForInStep.yield PUnit.unit)) Q' E { s with heap:=h2 }:=fun h2 k2 fC aQ cz cq=>by
    have fq:h2.get? a=some o:=by rw[fC.2 _ na,gx.2 _ na,sb.2 _ na];exact ho
    exact wpAny_bind (Dt (s:={ s with heap:=h2 }) fq hd hf (wpAny_pure (hQ h2 k2 fC aQ cz cq)))
   by_cases hmem:k∈kb
   ·rw[iv,decide_eq_true hmem,if_neg (by decide)]
    refine wpAny_pure ?_
    exact aF h1 k1 (zBG _ _) fz (fun j=>by rw[decide_eq_false (fun z=>z hmem)];simp) (zBT _)
   ·rw[iv,decide_eq_false hmem,if_pos (by decide)]
    refine wpAny_bind (Hc (s:={ s with heap:=h1 }) fz aJ fun h2 k2 fC aQ cz cq=>wpAny_pure ?_)
    exact aF h2 k2 fC aQ (fun j=>by rw[cz j,decide_eq_true hmem];simp) cq
  ·rw[aW j,hp'.mem_iff,decide_eq_true_eq]
   simp[and_comm]
  ·rintro u s' ⟨h2,k2,rfl,fC,aQ,cz,cq⟩
   refine wpAny_pure ?_
   refine wpAny_pure ?_
   refine wpAny_pure ⟨_,rfl,by simp,?_⟩
   exact h h2 k2 aQ.it cz cq (keep _ fC)
end
end L2
namespace L2
open PySem PySem.Spec PyProof.Rows
theorem Fb:∀{us:List Value}{ns:List Int},Vals (ns.map V.int) us->IntsAre us ns
 | _,[],h=>by cases h;exact .nil
 | _,n::ns,h=>by
  cases h with
  | cons r t=>obtain⟨k,rfl⟩:=r;exact .cons n k (Fb t)
theorem BV:∀{l1 l2:List Int},l1.Nodup->(∀x∈l1,x∈l2)->l1.length<=l2.length
 | [],_,_,_=>zA9 _
 | x::l1,l2,nd,h=>by
  have jp:=List.nodup_cons.mp nd
  have hx:=h x List.mem_cons_self
  have ih:=BV (l1:=l1) (l2:=l2.erase x) jp.2 fun y hy=>(List.mem_erase_of_ne (show y≠x from fun e=>jp.1 (e ▸ hy))).mpr (h y (List.mem_cons_of_mem _ hy))
  rw[List.length_erase_of_mem hx] at ih
  have:0<l2.length:=zC0 hx
  rw[zAI]
  omega
theorem SetIs.nd(x:SetIs w h a ks):ks.Nodup:=let ⟨_,_,_,_,_,_,_,_,_,nd,_⟩:=x;nd
section
variable {X:Cx}
theorem Ca(hc:X.calm=true):BP X (.type "set") (fun xs H Q=>∃(l:Addr)(ns:List Int),xs=[.ref l]/\SqL X.K H l (ns.map V.int)/\ns.length<1000/\∀a,H a=none->Q (.ref a) (upd H a (Bn X.w a (fun k=>decide (k∈ns)) ns.length))):=by
 intro pins s σ H xs us Q I r h
 obtain⟨l,ns,rfl,hq,hn,q⟩:=h
 obtain⟨u,rfl,ru⟩:=Ci r
 cases ru
 obtain⟨its,rv,pl,hz⟩:=I.list hq
 have ag:its.length=ns.length:=by rw[<-rv.length,List.length_map]
 refine Nc (w:=X.w) (ns:=ns) (I.ok.hd hc) pl.isList (by rw[zDD];exact Fb rv) (by rw[zAG];omega) fun h' tk ks hS hm hl kk=>?_
 refine⟨.ref s.heap.objs.size,_,I.laid (t':=tk) (o:=Bn X.w s.heap.objs.size (fun k=>decide (k∈ns)) ns.length) kk (zAA _) ?_,rfl,q _ (I.hok.fresh (zAA _))⟩
 exact El hS (fun k=>by rw[decide_eq_true_eq];exact (hm k).symm) hl
theorem RP:D3 X (binaryOp .BitAnd) (fun x y H Q=>∃(a b:Addr)(S T:Int->Bool)(n m:Nat),x= .ref a/\y= .ref b/\H a=some (Bn X.w a S n)/\H b=some (Bn X.w b T m)/\a≠b/\n+m<1990/\
  ∀r,H r=none->Q (.ref r) (upd H r (Bn X.w r (fun k=>S k && T k) n))):=by
 intro pins s σ H x y v u Q I rx ry h
 obtain⟨a,b,S,T,n,m,rfl,rfl,ha,hb,av,hnm,q⟩:=h
 cases rx
 cases ry
 obtain⟨ka,hSa,hma,hla⟩:=I.setO ha
 obtain⟨kb,hSb,hmb,hlb⟩:=I.setO hb
 refine Q0 (w:=X.w) hSa.it hSb.it av (by omega) fun h' k2 hS hm hl kk=>?_
 refine⟨.ref s.heap.objs.size,_,I.laid (t':=s.toks) (o:=Bn X.w s.heap.objs.size (fun k=>S k && T k) n) kk (zAA _) ?_,rfl,q _ (I.hok.fresh (zAA _))⟩
 refine El hS (fun k=>by rw[zAN,hma,hmb,hm k]) (zAH (BV hS.nd fun y hy=>((hm y).mp hy).1) hla)
theorem QP:D3 X (binaryOp .Sub) (fun x y H Q=>∃(a b:Addr)(S T:Int->Bool)(n m:Nat),x= .ref a/\y= .ref b/\H a=some (Bn X.w a S n)/\H b=some (Bn X.w b T m)/\a≠b/\n<=32/\m<=1000/\(∀k,S k=true->0<=k/\k<32)/\
  ∀r,H r=none->Q (.ref r) (upd H r (Om X.w r (fun k=>S k && !T k) n))):=by
 intro pins s σ H x y v u Q I rx ry h
 obtain⟨a,b,S,T,n,m,rfl,rfl,ha,hb,av,hn,cz,iw,q⟩:=h
 cases rx
 cases ry
 obtain⟨ka,hSa,hma,hla⟩:=I.setO ha
 obtain⟨kb,hSb,hmb,hlb⟩:=I.setO hb
 refine Rg (w:=X.w) hSa.it hSb.it av (fun j hj=>iw j ((hma j).mpr hj)) (by omega) (by omega) fun h' k2 hS hm hl kk=>?_
 refine⟨.ref s.heap.objs.size,_,I.laid (t':=s.toks) (o:=Om X.w s.heap.objs.size (fun k=>S k && !T k) n) kk (zAA _) ?_,rfl,q _ (I.hok.fresh (zAA _))⟩
 refine QU hS (fun k=>?_) (by omega)
 rw[zAN,hma,hm k,Bool.not_eq_true',<-Bool.not_eq_true,hmb]
end
end L2
namespace L2
open PySem PySem.Spec PyProof.Rows
section
variable {X:Cx}{tg:Expr}{acc:Value}
theorem QD(I:Inv X pins σ H s)(ha:H a=some (Bn X.w a S n))(hn:n+1<2000):
  wpAny (model X.prog X.w) X.A (call (.builtin "set.add") [.ref a,.int k tk]) (fun _ s'=>Inv X pins σ (upd H a (Bn X.w a (fun j=>S j || decide (j=k)) (n+1))) s') E s:=by
 obtain⟨ks2,bZ,aW,aC⟩:=I.setO ha
 refine J7 (w:=X.w) bZ (by omega) fun h' bf bF aQ cz cq=>?_
 have mu:Tq (H a):=by rw[ha];exact True.intro
 refine I.write (x:=a) (e:=a) (t':=s.toks+1) mu (.inl rfl) (fun b ob nb eb=>(bF.2 b nb).trans eb) (let ⟨o,_,_,_,ho,_⟩:=aQ;⟨o,ho⟩) (El aQ (fun j=>?_) (by omega))
 rw[cz j,zBJ,decide_eq_true_eq,aW j]
def Jl(X:Cx)(aj:List Expr)(ao:Expr)(acc:Value):Qw:=fun Qa s=>wpAny (model X.prog X.w) X.A (Hl aj X.env) (fun ok s1=>if ok=true then wpAny (model X.prog X.w) X.A (eval ao X.env) (fun x s2=>wpAny (model X.prog X.w) X.A (call (.builtin "set.add") [acc,x]) (fun _ s3=>Qa s3) Ew s2) Ew s1 else Qa s1) Ew s
def Jf(w:World)(acc:Addr)(te:TE):TS:=fun D σ H=>te σ H fun x H1=>∃k S n,x= .int k/\H1 acc=some (Bn w acc S n)/\n+1<2000/\D.nx σ (upd H1 acc (Bn w acc (fun j=>S j || decide (j=k)) (n+1)))
theorem Qi{aj:List Expr}{ao:Expr}{ac:Addr}{tc:TT}{te:TE}(aI:X.xe=Ew)(hi:MP X aj tc)(he:PE X ao te):PB X (Jl X aj ao (.ref ac)) (DO tc (Jf X.w ac te)) where
 mono:=fun Qa Qb s hq h=>AX h fun ok s1 h1=>by
  cases ok with
  | false=>exact hq _ h1
  | true=>exact AX h1 fun x s2 h2=>AX h2 fun _ s3 h3=>hq _ h3
 run:=fun pins s σ H D I h=>by
  have h1:=hi pins s σ H _ I h
  rw[aI] at h1
  refine AX h1 fun ok s1 ⟨H1,I1,q1⟩=>?_
  cases ok with
  | false=>exact⟨σ,H1,I1,q1⟩
  | true=>
   have q1':Jf X.w ac te D σ H1:=q1
   have h2:=he pins s1 σ H1 _ I1 q1'
   rw[aI] at h2
   refine AX h2 fun u s2 ⟨x,H2,I2,r2,k,S,n,ex,hl,hz,q2⟩=>?_
   subst ex
   obtain⟨tk,rfl⟩:=r2
   exact AX (QD (E:=Ew) I2 hl hz) fun _ s3 I3=>⟨σ,_,I3,q2⟩
theorem Jp(ao iE bu tg ae:Expr)(cJ aj:List Expr)(scope:Scope)(pos:Pos)(it acc:Value)(env:Env):
  compTurn (.SetComp ao [⟨iE,bu,cJ,0⟩,⟨tg,ae,aj,0⟩] scope pos) 1 it acc env=(do
   standAt ae.pos
   match <-pyNext it with
   | none=>pure (.done .next)
   | some v=>
    letOwnedTupleGo tg it v
    assign tg env v
    let mut ok:=true
    for c in aj do
     if ok then ok <-isTrue c env (eval c env)
    if ok then
     (do let v <-eval ao env;standAt ao.pos;let _ <-call (.builtin "set.add") [acc,v])
    again (.compLoop (.SetComp ao [⟨iE,bu,cJ,0⟩,⟨tg,ae,aj,0⟩] scope pos) 1 it acc env)):=by rfl
theorem Ss:HT X (.SetComp ao [⟨iE,bu,cJ,0⟩,⟨tg,ae,aj,0⟩] scope pos) 1 bA acc tg (Jl X aj ao acc):=by
 intro s Qd Qa h
 rw[Jp]
 refine wpAny_bind (wpAny_standAt (wpAny_bind (AX h fun r s₁ h₁=>?_)))
 cases r with
 | none=>exact wpAny_pure ⟨rfl,h₁⟩
 | some v=>
  refine wpAny_bind (AX h₁ fun _ s2 h2=>wpAny_bind (AX h2 fun _ s3 h3=>wpAny_bind (AX h3 fun ok s4 h4=>?_)))
  cases ok with
  | false=>exact wpAny_pure ⟨rfl,h4⟩
  | true=>exact wpAny_bind (wpAny_bind (AX h4 fun x s₄ h₄=>wpAny_bind (wpAny_standAt (wpAny_bind (AX h₄ fun _ s₅ h₅=>wpAny_pure (wpAny_pure ⟨rfl,h₅⟩))))))
theorem Ij(ao tg ae aY af:Expr)(aj ay:List Expr)(scope:Scope)(pos:Pos)(it acc:Value)(env:Env):
  compTurn (.SetComp ao [⟨tg,ae,aj,0⟩,⟨aY,af,ay,0⟩] scope pos) 0 it acc env=(do
   standAt ae.pos
   match <-pyNext it with
   | none=>pure (.done .next)
   | some v=>
    letOwnedTupleGo tg it v
    assign tg env v
    let mut ok:=true
    for c in aj do
     if ok then ok <-isTrue c env (eval c env)
    if ok then
     let x <-eval af env
     standAt af.pos
     let x <-foldedSetIterable af env x
     let _ <-runOwn (.compStart (.SetComp ao [⟨tg,ae,aj,0⟩,⟨aY,af,ay,0⟩] scope pos) 1 (<-holding [x] (pyIter x)) acc env) env
    again (.compLoop (.SetComp ao [⟨tg,ae,aj,0⟩,⟨aY,af,ay,0⟩] scope pos) 0 it acc env)):=by rfl
theorem QQ(hs:∀x,foldedSetIterable af X.env x=pure x):
  HT X (.SetComp ao [⟨tg,ae,aj,0⟩,⟨aY,af,ay,0⟩] scope pos) 0 bA acc tg (IU X aj (.SetComp ao [⟨tg,ae,aj,0⟩,⟨aY,af,ay,0⟩] scope pos) af acc):=by
 intro s Qd Qa h
 rw[Ij]
 refine wpAny_bind (wpAny_standAt (wpAny_bind (AX h fun r s₁ h₁=>?_)))
 cases r with
 | none=>exact wpAny_pure ⟨rfl,h₁⟩
 | some v=>
  refine wpAny_bind (AX h₁ fun _ s2 h2=>wpAny_bind (AX h2 fun _ s3 h3=>wpAny_bind (AX h3 fun ok s4 h4=>?_)))
  cases ok with
  | false=>exact wpAny_pure ⟨rfl,h4⟩
  | true=>
   refine wpAny_bind (AX h4 fun x s₄ h₄=>wpAny_bind (wpAny_standAt (wpAny_bind (wpAny_of_eq (hs x) (wpAny_bind (wpAny_holding (AX h₄ fun it s₅ h₅=>?_)))))))
   refine wpAny_bind (wpAny_runOwn (codeAny_mono h₅ fun r s₆ h₆=>?_))
   obtain⟨rfl,h₆⟩:=h₆
   exact wpAny_pure ⟨rfl,h₆⟩
theorem Q4{ao ae aY af:Expr}{aj ay:List Expr}{scope:Scope}{pos:Pos}{ac:Addr}{tc:TT}{eF:TI}{g1:TG}{tb1:TS}(aI:X.xe=Ew)(hc:X.calm=true)(hi:MP X aj tc)(hI:PI X aY af eF)(gL:PG X aY g1)(bh:PB X (Jl X ay ao (.ref ac)) tb1):
  PB X (IU X aj (.SetComp ao [⟨tg,ae,aj,0⟩,⟨aY,af,ay,0⟩] scope pos) af (.ref ac)) (DO tc (LD eF g1 tb1)) where
 mono:=fun Qa Qb s hq h=>AX h fun ok s1 h1=>by
  cases ok with
  | false=>exact hq _ h1
  | true=>exact AX h1 fun x s2 h2=>AX h2 fun it s3 h3=>codeAny_mono h3 fun r s4 h4=>⟨h4.1,hq _ h4.2⟩
 run:=fun pins s σ H D I h=>by
  have h1:=hi pins s σ H _ I h
  rw[aI] at h1
  refine AX h1 fun ok s1 ⟨H1,I1,q1⟩=>?_
  cases ok with
  | false=>exact⟨σ,H1,I1,q1⟩
  | true=>
   have q1':LD eF g1 tb1 D σ H1:=q1
   have h2:=hI pins s1 σ H1 _ I1 q1'
   rw[aI] at h2
   refine AX h2 fun u s2 h3=>AX h3 fun bA s3 h4=>?_
   obtain⟨it,fp,tn,J,H3,e,I3,T,gF,f3,hR⟩:=h4
   subst e
   have aP:=BS (e:=.SetComp ao [⟨tg,ae,aj,0⟩,⟨aY,af,ay,0⟩] scope pos) (d:=1) (D:=D) aI hc Ss rfl rfl rfl T gL bh I3 gF f3 hR
   exact BF (X:=X) rfl rfl rfl (fun _=>rfl) True.intro aP (T.self _ 0 s3 _ _ gF aP)
end
def Pd(w:World)(wi:TI)(js:List (Option Nat))(g:CC->TG)(tb:CC->Addr->TS):TE:=fun σ H Q=>wi σ H fun J H1=>∀(c:CC)(acc:Addr),H1 acc=none->
 EY J (g c) (tb c acc) { nx:=fun _ H'=>Q (.ref acc) H',rt:=fun _ _=>False } (sub js σ) (upd H1 acc (Bn w acc (fun _=>false) 0))
section
variable {X:Cx}{N:List Str}{scope:Scope}{cl:List (Str×Addr)}{js:List (Option Nat)}{ao tg ae:Expr}{aj:List Expr}{rest:List Comprehension}{pos:Pos}{wi:TI}{g:CC->TG}{tb:CC->Addr->TS}
theorem Op{WB:CC->Value->Qw}(aI:X.xe=Ew)(hc:X.calm=true)(hi:PI X tg ae wi)(hs:∀x,foldedSetIterable ae X.env x=pure x)(da:closureFor scope X.env=pure cl)(hk:scope.kind= .function)(bQ:∀x∈scope.names,x.2= .local->scope.names.lookup x.1=some .local)(aT:∀x∈scope.names,x.2≠.cell)(bE:∀p∈cl,X.env.cells.lookup p.1=some p.2)(hcn:∀x,((relabel scope X.env).names.lookup x=some .cell\/(relabel scope X.env).names.lookup x=some .free)->∃c,cl.lookup x=some c)(gI:Fu X N scope js)(hl:js.length=N.length)(ht:∀c it ac,HT (X.cmp N scope cl c) (.SetComp ao (⟨tg,ae,aj,0⟩::rest) scope pos) 0 it ac tg (WB c ac))(hg:∀c,PG (X.cmp N scope cl c) tg (g c))(hb:∀c ac,PB (X.cmp N scope cl c) (WB c (.ref ac)) (tb c ac)):
  PE X (.SetComp ao (⟨tg,ae,aj,0⟩::rest) scope pos) (Pd X.w wi js g tb):=by
 intro pins s σ H Q I h
 rw[arm_eval_SetComp]
 have h0:=hi pins s σ H _ I h
 refine wpAny_comprehension_free (use:=none) (cl:=cl) rfl hs da hk bQ (AX h0 fun v s1 h1=>AX h1 fun bA s2 h2=>?_)
 obtain⟨it,fp,tn,J,H2,e,I2,T,cH,f2,hR⟩:=h2
 subst e
 refine Hr (wpAny_newFunctionEnv aT (by intro y hy;simp at hy) (fun h₁ db bR=>?_) hk)
 dsimp only at db bR ⊢
 have I3:=I2.laid (t':=s2.toks) (h':=s2.heap.push (Bk X.w)) (o:=Bn X.w s2.heap.objs.size (fun _=>false) 0) (fun b ob e=>Heap.get?_push_of_some _ e) (zAA _) (El set0_is (fun k=>by simp) (zAA _))
 have dc:∀b∈fp,b<s2.heap.objs.size:=fun b hb=>by
  obtain⟨o,e,_⟩:=T.obj 0 _ cH b hb
  exact zAB e
 have iF:∀b∈fp,b≠s2.heap.objs.size:=fun b hb=>zAE (dc b hb)
 have f3:∀b∈fp,B3 X pins (upd H2 s2.heap.objs.size (Bn X.w s2.heap.objs.size (fun _=>false) 0)) b:=fun b hb=>⟨by rw[Ax (iF b hb)];exact (f2 b hb).1,(f2 b hb).2⟩
 have iG:=hR ⟨{ s2 with heap:=s2.heap.push (Bk X.w) },upd H2 s2.heap.objs.size (Bn X.w s2.heap.objs.size (fun _=>false) 0),fp⟩ s2.heap.objs.size I2.fresh
 have I4:=I3.cmp (N:=N) (cl:=cl) (js:=js) (t':=s2.toks) f3 (fun b hb=>by
  show b<(s2.heap.push _).objs.size
  rw[zAU]
  exact zA4 (dc b hb)) hk bE hcn gI hl db bR
 have eZ:tn 0 h₁:=T.keep 0 _ _ cH fun b hb o e=>(bR.2 b (by
  rw[zAU]
  exact zAE (zA4 (dc b hb)))).trans (Heap.get?_push_of_some _ (Heap.get?_push_of_some _ e))
 have f4:∀b∈fp,B3 (X.cmp N scope cl ⟨{ s2 with heap:=s2.heap.push (Bk X.w) },upd H2 s2.heap.objs.size (Bn X.w s2.heap.objs.size (fun _=>false) 0),fp⟩) [] (upd H2 s2.heap.objs.size (Bn X.w s2.heap.objs.size (fun _=>false) 0)) b:=fun b hb=>
  ⟨(f3 b hb).1,(I4.ok.exf b hb).1,I4.ok.exfs b hb,.inl hb,(I4.ok.exf b hb).2,fun p hp=>absurd (show p∈([]:List (Addr×Obj)) from hp) (by simp)⟩
 have aP:=codeAny_mono (BS (X:=X.cmp N scope cl ⟨{ s2 with heap:=s2.heap.push (Bk X.w) },upd H2 s2.heap.objs.size (Bn X.w s2.heap.objs.size (fun _=>false) 0),fp⟩) (e:=.SetComp ao (⟨tg,ae,aj,0⟩::rest) scope pos) (d:=0) (acc:=.ref s2.heap.objs.size) (pins:=[]) aI hc (ht _ _ _) rfl rfl rfl T (hg _) (hb _ _) I4 eZ f4 iG) (R':=compPost (model X.prog X.w) X.A X.xe none (EP X pins σ Q) (.ref s2.heap.objs.size) (s2.heap.push (Bk X.w)).objs.size) (fun r s' hq=>by
  obtain⟨rfl,σ',H',J',q⟩:=hq
  obtain⟨m,hn,_⟩:=id J'.loc
  exact⟨m,hn,fun dU gM=>⟨.ref s2.heap.objs.size,H',I3.uncmp f3 J' gM,rfl,q⟩⟩)
 exact BF (X:=X.cmp N scope cl ⟨{ s2 with heap:=s2.heap.push (Bk X.w) },upd H2 s2.heap.objs.size (Bn X.w s2.heap.objs.size (fun _=>false) 0),fp⟩) rfl rfl rfl (fun _=>rfl) True.intro aP (T.self _ 0 _ _ _ eZ aP)
variable {aY af:Expr}{ay:List Expr}{eF:CC->TI}{g1:CC->TG}{tc tc1:CC->TT}{te:CC->TE}
theorem Ol(h:CompOk X N scope cl js)(hi:PI X tg ae wi)(hg:∀c,PG (X.cmp N scope cl c) tg (g c))(gN:∀c,MP (X.cmp N scope cl c) aj (tc c))(hi1:∀c,PI (X.cmp N scope cl c) aY af (eF c))(gL:∀c,PG (X.cmp N scope cl c) aY (g1 c))(hif1:∀c,MP (X.cmp N scope cl c) ay (tc1 c))(he:∀c,PE (X.cmp N scope cl c) ao (te c))(hs1:∀c x,foldedSetIterable af (X.cmp N scope cl c).env x=pure x:=by intro _ _;rfl)(aI:X.xe=Ew:=by rfl)(hc:X.calm=true:=by rfl)(hs:∀x,foldedSetIterable ae X.env x=pure x:=by intro _;rfl):
  PE X (.SetComp ao [⟨tg,ae,aj,0⟩,⟨aY,af,ay,0⟩] scope pos) (Pd X.w wi js g fun c ac=>DO (tc c) (LD (eF c) (g1 c) (DO (tc1 c) (Jf X.w ac (te c))))):=
 Op (WB:=fun c ac=>IU (X.cmp N scope cl c) aj (.SetComp ao [⟨tg,ae,aj,0⟩,⟨aY,af,ay,0⟩] scope pos) af ac) aI hc hi hs h.clos h.kind h.names h.cell h.ccl h.hcn h.shr h.len (fun c it ac=>QQ (hs1 c)) hg
  fun c ac=>Q4 (X:=X.cmp N scope cl c) aI hc (gN c) (hi1 c) (gL c) (Qi (X:=X.cmp N scope cl c) aI (hif1 c) (he c))
end
end L2
namespace L2
open PySem PySem.Spec PyProof.Rows
section
variable {X:Cx}
end
end L2
namespace L2
open PySem PySem.Spec PyProof.Rows
def DS(K:PySem.W.Frag)(H:Hp):Nat->V->V->Prop
 | 0,v,u=>v=u/\((∃k,v= .int k)\/(∃b,v= .bl b)\/v= .non)
 | n+1,v,u=>(v=u/\((∃k,v= .int k)\/(∃b,v= .bl b)\/v= .non))\/∃a b xs ys,v= .ref a/\u= .ref b/\xs.length=ys.length/\(∀(i:Nat) x y,xs[i]? = some x->ys[i]? = some y->DS K H n x y)/\((SqL K H a xs/\SqL K H b ys)\/(SqT K H a xs/\SqT K H b ys))
section
variable {X:Cx}{pins:List (Addr×Obj)}{σ:St}{H:Hp}{s:Shared}
theorem M6(e:v=u)(h:(∃k,v= .int k)\/(∃b,v= .bl b)\/v= .non)(r1:RelV v v')(r2:RelV u u'):SeqAt.EqAt A s v' u' true:=by
 subst e
 rcases h with⟨k,rfl⟩|⟨b,rfl⟩|rfl
 ·obtain⟨t,rfl⟩:=r1
  obtain⟨t2,rfl⟩:=r2
  intro prog w E Q hq
  exact wpAny_eqBool_int (by rw[beq_self_eq_true];exact hq)
 ·cases r1
  cases r2
  exact zCD _
 ·cases r1
  cases r2
  exact zCD _
theorem E2(n:Nat):(List.range n).all (fun _=>true)=true:=by simp
theorem Sd:∀(n:Nat){A:Around},A.units+n<cLine->Inv X pins σ H s->(∀(v u:V)(v' u':Value),DS X.K H n v u->RelV v v'->RelV u u'->SeqAt.EqAt A s v' u' true)
 | 0,A,hu,I=>fun v u v' u' h r1 r2=>M6 h.1 h.2 r1 r2
 | n+1,A,hu,I=>fun v u v' u' h r1 r2=>by
  rcases h with h | ⟨a,b,xs,ys,rfl,rfl,hl,hx,hk⟩
  ·exact M6 h.1 h.2 r1 r2
  cases r1
  cases r2
  by_cases cP:a=b
  ·subst cP
   exact zCD _
  have ih:=Sd n (A:=A.in1) (by show A.units+1+n<cLine;omega) I
  rcases hk with⟨h1,h2⟩|⟨h1,h2⟩
  ·obtain⟨its,q1,pl,_⟩:=I.list h1
   obtain⟨az,q2,be,_⟩:=I.list h2
   have l1:=q1.length
   have l2:=q2.length
   have:=zC2 (e:=fun _=>true) (A:=A) pl.isList be.isList (by simp;omega) (by omega) (fun j j1 j2=>by
    have iR:j<its.length:=by simpa using j1
    have j2':j<az.length:=by simpa using j2
    have jt:xs[j]? = some xs[j]:=List.getElem?_eq_getElem (by omega)
    have eh:ys[j]? = some ys[j]:=List.getElem?_eq_getElem (by omega)
    obtain⟨u1,e1,ru1⟩:=q1.get jt
    obtain⟨u2,e2,ru2⟩:=q2.get eh
    have e1':its.toArray[j]=u1:=by
     have:=List.getElem?_eq_getElem iR
     rw[this] at e1
     simpa using zAP e1
    have cp:az.toArray[j]=u2:=by
     have:=List.getElem?_eq_getElem j2'
     rw[this] at e2
     simpa using zAP e2
    rw[e1',cp]
    exact ih _ _ _ _ (hx j _ _ jt eh) ru1 ru2)
   rw[E2] at this
   exact zCS cP this
  ·obtain⟨its,q1,pl,_⟩:=I.tuple h1
   obtain⟨az,q2,be,_⟩:=I.tuple h2
   have l1:=q1.length
   have l2:=q2.length
   have:=SeqAt.RcAt.tuples (e:=fun _=>true) (A:=A) pl be (by omega) (fun j j1 j2=>by
    have iR:j<its.length:=by simpa using j1
    have j2':j<az.length:=by simpa using j2
    have jt:xs[j]? = some xs[j]:=List.getElem?_eq_getElem (by omega)
    have eh:ys[j]? = some ys[j]:=List.getElem?_eq_getElem (by omega)
    obtain⟨u1,e1,ru1⟩:=q1.get jt
    obtain⟨u2,e2,ru2⟩:=q2.get eh
    have e1':its.toArray[j]=u1:=by
     have:=List.getElem?_eq_getElem iR
     rw[this] at e1
     simpa using zAP e1
    have cp:az.toArray[j]=u2:=by
     have:=List.getElem?_eq_getElem j2'
     rw[this] at e2
     simpa using zAP e2
    rw[e1',cp]
    exact ih _ _ _ _ (hx j _ _ jt eh) ru1 ru2)
   rw[E2,zB,show (its.toArray.size == az.toArray.size)=true by simp;omega] at this
   exact zCS cP this
theorem Qs(hu:A.units+n<cLine)(I:Inv X pins σ H s)(q1:Vals xs its)(q2:Vals ys az)(hl:xs.length=ys.length)(hx:∀(i:Nat) x y,xs[i]? = some x->ys[i]? = some y->DS X.K H n x y):
  ∀j (h1:j<its.toArray.size) (h2:j<az.toArray.size),SeqAt.EqAt A s its.toArray[j] az.toArray[j] true:=fun j j1 j2=>by
 have l1:=q1.length
 have l2:=q2.length
 have iR:j<its.length:=by simpa using j1
 have j2':j<az.length:=by simpa using j2
 have jt:xs[j]? = some xs[j]:=List.getElem?_eq_getElem (by omega)
 have eh:ys[j]? = some ys[j]:=List.getElem?_eq_getElem (by omega)
 obtain⟨u1,e1,ru1⟩:=q1.get jt
 obtain⟨u2,e2,ru2⟩:=q2.get eh
 have e1':its.toArray[j]=u1:=by
  have:=List.getElem?_eq_getElem iR
  rw[this] at e1
  simpa using zAP e1
 have cp:az.toArray[j]=u2:=by
  have:=List.getElem?_eq_getElem j2'
  rw[this] at e2
  simpa using zAP e2
 rw[e1',cp]
 exact Sd n hu I _ _ _ _ (hx j _ _ jt eh) ru1 ru2
def Vp(K:PySem.W.Frag)(r:Bool):R2:=fun x y H Q=>∃a b xs ys,x= .ref a/\y= .ref b/\xs.length=ys.length/\(∀(i:Nat) x y,xs[i]? = some x->ys[i]? = some y->DS K H 3 x y)/\((SqL K H a xs/\SqL K H b ys)\/(SqT K H a xs/\SqT K H b ys))/\Q (.bl r) H
theorem LV(hu:X.A.units+9<cLine):D3 X (compareOp .NotEq) (Vp X.K false):=by
 intro pins s σ H x y v u Q I rx ry h
 obtain⟨a,b,xs,ys,rfl,rfl,hl,hx,hk,q⟩:=h
 cases rx
 cases ry
 rcases hk with⟨h1,h2⟩|⟨h1,h2⟩
 ·obtain⟨its,q1,pl,_⟩:=I.list h1
  obtain⟨az,q2,be,_⟩:=I.list h2
  have l1:=q1.length
  have l2:=q2.length
  refine zDJ (e:=fun _=>true) pl.isList be.isList (by simp;omega) (by omega) (Qs (A:=X.A.in1) (by show X.A.units+1+3<cLine;omega) I q1 q2 hl hx) _ _ _ _ ?_
  rw[E2]
  exact⟨.bl false,H,I,rfl,q⟩
 ·obtain⟨its,q1,pl,_⟩:=I.tuple h1
  obtain⟨az,q2,be,_⟩:=I.tuple h2
  have l1:=q1.length
  have l2:=q2.length
  refine SeqAt.RcNeAt.tuples (e:=fun _=>true) pl be (by omega) (Qs (A:=X.A.in1) (by show X.A.units+1+3<cLine;omega) I q1 q2 hl hx) _ _ _ _ ?_
  rw[E2,zB,show (its.toArray.size == az.toArray.size)=true by simp;omega]
  exact⟨.bl false,H,I,rfl,q⟩
theorem Room.units9(r:Room k A):A.units+9<cLine:=by have:=r.un;omega
theorem JQ{K:PySem.W.Frag}{row:List Int}{n:Nat}:∀(i:Nat) x y,(row.map V.int)[i]? = some x->(row.map V.int)[i]? = some y->DS K H n x y:=fun i x y hx hy=>by
 rw[hx] at hy
 cases hy
 rw[List.getElem?_map] at hx
 obtain⟨k,_,rfl⟩:=Option.map_eq_some_iff.mp hx
 cases n with
 | zero=>exact⟨rfl,.inl ⟨k,rfl⟩⟩
 | succ n=>exact .inl ⟨rfl,.inl ⟨k,rfl⟩⟩
end
end L2
namespace HT2
open PySem L2 PyProof.Rows
theorem Ul{b:Bool}{A B:Prop}(e:b=false)(h:B):if b=true then A else B:=by
 rw[e,if_neg zAC]
 exact h
theorem TD{b:Bool}{A B:Prop}(e:b=true)(h:A):if b=true then A else B:=by
 rw[e,if_pos rfl]
 exact h
theorem BG{K:PySem.W.Frag}{row:List Int}{p:Int->Bool}(hr:SqL K H a (row.map V.int))(ah:H acc=none)(ag:row.length<=900)(ht:∀k,k∈row->∀H2,Same H H2->∀R:Bool->Hp->Prop,(∀H3,Same H2 H3->R (p k) H3)->tc (some (.int k)::rest) H2 R)(hd:∀v0 H2,Same H H2->H2 acc=some (.lst ((row.filter p).map V.int))->D.nx (v0::rest) H2)(v:Option V):
  EY (R8 K a) (DM 0) (DO tc (Cg acc (Ow 0))) D (v::rest) (upd H acc (.lst [])):=by
 refine A1 (K:=K) (a:=a) (xs:=row.map V.int) (fun i σ H2=>∃v0,σ=v0::rest/\Same H H2/\H2 acc=some (.lst (((row.take i).filter p).map V.int))) ⟨v,rfl,Af ah _,upd_same⟩ ?_ ?_ ?_
 ·rintro i σ H2 _ ⟨v0,rfl,s2,_⟩
  exact s2.seq hr
 ·rintro i x σ H2 hx ⟨v0,rfl,s2,ha2⟩
  rw[List.getElem?_map] at hx
  obtain⟨k,hk,rfl⟩:=Option.map_eq_some_iff.mp hx
  have et:row.take (i+1)=row.take i++[k]:=by rw[zAT,hk];rfl
  refine ht k (zAQ hk) H2 s2 _ fun H3 s3=>?_
  have cV:=s3 _ _ ha2
  cases e:p k with
  | false=>
   refine⟨_,rfl,s2.trans s3,?_⟩
   rw[et,zCT,zCV (by rw[e];simp),List.filter_nil,zBP]
   exact cV
  | true=>
   refine⟨_,rfl,_,cV,AG ?_,?_⟩
   ·rw[List.length_map]
    refine zAH (zAZ _ _) ?_
    rw[List.length_take]
    omega
   refine⟨_,rfl,AJ (s2.trans s3) ah _,?_⟩
   rw[upd_same,et,zCT,zCW e,List.filter_nil,zAM]
   rfl
 ·rintro σ H2 ⟨v0,rfl,s2,ha2⟩
  rw[List.length_map,zAX] at ha2
  exact hd v0 H2 s2 ha2
theorem K4{K:PySem.W.Frag}{xs:List V}{bs:List Bool}(hr:SqL K H a xs)(ah:H acc=none)(ag:xs.length<=900)(hb:bs.length=xs.length)(ht:∀(i:Nat) (x:V) (b:Bool),xs[i]? = some x->bs[i]? = some b->∀H2,Same H H2->∀R:V->Hp->Prop,(∀H3,Same H2 H3->R (.bl b) H3)->te (some x::rest) H2 R)(hd:∀v0 H2,Same H H2->H2 acc=some (.lst (bs.map V.bl))->D.nx (v0::rest) H2)(v:Option V):
  EY (R8 K a) (DM 0) (DO NH (Cg acc te)) D (v::rest) (upd H acc (.lst [])):=by
 refine A1 (K:=K) (a:=a) (xs:=xs) (fun i σ H2=>∃v0,σ=v0::rest/\Same H H2/\H2 acc=some (.lst ((bs.take i).map V.bl))) ⟨v,rfl,Af ah _,upd_same⟩ ?_ ?_ ?_
 ·rintro i σ H2 _ ⟨v0,rfl,s2,_⟩
  exact s2.seq hr
 ·rintro i x σ H2 hx ⟨v0,rfl,s2,ha2⟩
  have hi:i<bs.length:=by
   have:=(List.getElem?_eq_some_iff.mp hx).1
   omega
  have d9:bs[i]? = some bs[i]:=List.getElem?_eq_getElem hi
  have et:bs.take (i+1)=bs.take i++[bs[i]]:=by rw[zAT,d9];rfl
  show Cg acc te _ _ _
  refine ht i x _ hx d9 H2 s2 _ fun H3 s3=>?_
  refine⟨_,s3 _ _ ha2,AG ?_,?_⟩
  ·rw[List.length_map,List.length_take]
   omega
  refine⟨_,rfl,AJ (s2.trans s3) ah _,?_⟩
  rw[upd_same,et,zAM]
  rfl
 ·rintro σ H2 ⟨v0,rfl,s2,ha2⟩
  rw[<-hb,zAX] at ha2
  exact hd v0 H2 s2 ha2
theorem BR{K:PySem.W.Frag}{row:List Int}{f:Int->Bool}(hr:SqL K H a (row.map V.int))(ah:H acc=none)(ag:row.length<=900)(ht:∀k,k∈row->∀H2,Same H H2->∀R:V->Hp->Prop,(∀H3,Same H2 H3->R (.bl (f k)) H3)->te (some (.int k)::rest) H2 R)(hd:∀v0 H2,Same H H2->H2 acc=some (.lst ((row.map f).map V.bl))->D.nx (v0::rest) H2)(v:Option V):
  EY (R8 K a) (DM 0) (DO NH (Cg acc te)) D (v::rest) (upd H acc (.lst [])):=by
 refine A1 (K:=K) (a:=a) (xs:=row.map V.int) (fun i σ H2=>∃v0,σ=v0::rest/\Same H H2/\H2 acc=some (.lst (((row.take i).map f).map V.bl))) ⟨v,rfl,Af ah _,upd_same⟩ ?_ ?_ ?_
 ·rintro i σ H2 _ ⟨v0,rfl,s2,_⟩
  exact s2.seq hr
 ·rintro i x σ H2 hx ⟨v0,rfl,s2,ha2⟩
  rw[List.getElem?_map] at hx
  obtain⟨k,hk,rfl⟩:=Option.map_eq_some_iff.mp hx
  have et:row.take (i+1)=row.take i++[k]:=by rw[zAT,hk];rfl
  show Cg acc te _ _ _
  refine ht k (zAQ hk) H2 s2 _ fun H3 s3=>?_
  refine⟨_,s3 _ _ ha2,AG ?_,?_⟩
  ·rw[List.length_map,List.length_map,List.length_take]
   omega
  refine⟨_,rfl,AJ (s2.trans s3) ah _,?_⟩
  rw[upd_same,et,zAM,zAM]
  rfl
 ·rintro σ H2 ⟨v0,rfl,s2,ha2⟩
  rw[List.length_map,zAX] at ha2
  exact hd v0 H2 s2 ha2
theorem Mf(k:Int)(xs:List Int):QN (.int k) (xs.map V.int)=decide (k∈xs):=by
 unfold QN
 induction xs with
 | nil=>simp
 | cons x r ih=>
  rw[zBL,zB6,ih]
  have e:OR (.int x) (.int k)=decide (x=k):=by
   show (x == k)=decide (x=k)
   rfl
  rw[e]
  by_cases h:x=k
  ·subst h;simp
  ·have h':¬k=x:=fun z=>h z.symm
   simp[h,h']
theorem Ip(xs:List Int):(xs.map V.int).all E9=true:=by
 induction xs with
 | nil=>rfl
 | cons x r ih=>rw[zBL,zB5,ih];rfl
theorem DJ{a b:List Int}(ha:a.Pairwise (· < ·))(hb:b.Pairwise (· < ·))(h:∀k,k∈a↔k∈b):a=b:=by
 have na:a.Nodup:=ha.imp fun h=>by omega
 have nb:b.Nodup:=hb.imp fun h=>by omega
 have hp:a.Perm b:=(List.perm_ext_iff_of_nodup na nb).mpr h
 exact PySem.W.ksm_same hp (ha.imp fun h=>by omega) (hb.imp fun h=>by omega)
theorem Jn{K:PySem.W.Frag}{k:Int}{row:List Int}(h:SqL K H r (row.map V.int))(q:Q (.bl (decide (k∈row))) H):Us K false (.int k) (.ref r) H Q:=
 ⟨r,_,rfl,.inl h,rfl,Ip _,by rw[<-Mf] at q;exact q⟩
theorem Bq{K:PySem.W.Frag}{k:Int}{row:List Int}(h:SqL K H r (row.map V.int))(q:Q (.bl (!decide (k∈row))) H):Us K true (.int k) (.ref r) H Q:=
 ⟨r,_,rfl,.inl h,rfl,Ip _,by rw[<-Mf] at q;exact q⟩
end HT2
namespace L2
open PySem PySem.Spec PyProof.Rows
section
variable {X:Cx}{N:List Str}{scope:Scope}{cl:List (Str×Addr)}{js:List (Option Nat)}{ao tg ae:Expr}{aj:List Expr}{rest:List Comprehension}{pos cL bo:Pos}{wi:TI}{g:CC->TG}{tb:CC->Addr->TS}{i:Nat}{y:Str}
theorem Nj{WB:CC->Value->Qw}(aI:X.xe=Ew)(hc:X.calm=true)(hi:PI X tg ae wi)(hs:∀x,foldedSetIterable ae X.env x=pure x)(K:CompK X N scope cl js)(ht:∀c it ac,HT (X.cmk N scope cl c) (.ListComp ao (⟨tg,ae,aj,0⟩::rest) scope pos) 0 it ac tg (WB c ac))(hg:∀c,PG (X.cmk N scope cl c) tg (g c))(hb:∀c ac,PB (X.cmk N scope cl c) (WB c (.ref ac)) (tb c ac))(hN:X.N.Nodup)(hy:X.N[i]? = some y)(gQ:Sm X.env.scope y)(jg:swapsWith (.ListComp ao (⟨tg,ae,aj,0⟩::rest) scope pos) (some (.Name y bo)) cL.line X.env=pure true)(hf:X.fn y=true\/X.env.scope.names.lookup y=some .local):
  PS X (.Assign [.Name y bo] (.ListComp ao (⟨tg,ae,aj,0⟩::rest) scope pos) cL) (Ob (EX wi js g tb) (DM i)):=by
 intro pins s σ H D I h
 rw[exec_Assign_Name_used _ _ _ _ jg]
 refine wpAny_bind (wpAny_standAt (wpAny_bind ?_))
 rw[arm_evalThenUse_ListComp]
 have h0:=hi pins s σ H _ I h
 refine wpAny_bind (wpAny_mono (wpAny_comprehension_free (use:=some (assign (.Name y bo) X.env)) (Q:=fun _ s'=>SP X pins D .next s') (cl:=cl) rfl hs K.clos K.kind K.names (AX h0 fun v s1 h1=>AX h1 fun bA s2 h2=>?_)) (fun _ s' hq=>wpAny_pure (wpAny_pure hq)) fun _ _ z=>z)
 obtain⟨it,fp,tn,J,H2,e,I2,T,cH,f2,hR⟩:=h2
 subst e
 refine wpAny_newObj_type (Km ?_)
 have I3:=I2.lnew (ys:=[]) (its:=[]) (t':=s2.toks) .nil (zA9 _)
 have dc:∀b∈fp,b<s2.heap.objs.size:=fun b hb=>by
  obtain⟨o,e,_⟩:=T.obj 0 _ cH b hb
  exact zAB e
 have iF:∀b∈fp,b≠s2.heap.objs.size:=fun b hb=>zAE (dc b hb)
 have f3:∀b∈fp,B3 X pins (upd H2 s2.heap.objs.size (.lst [])) b:=fun b hb=>⟨by rw[Ax (iF b hb)];exact (f2 b hb).1,(f2 b hb).2⟩
 have iG:=hR ⟨{ s2 with heap:=s2.heap.push { cls:=.type "list",data:=.seq ([]:List Value).toArray } },upd H2 s2.heap.objs.size (.lst []),fp⟩ s2.heap.objs.size I2.fresh
 have I4:=I3.cmk (N:=N) (cl:=cl) (js:=js) (scope:=scope) (t':=s2.toks) f3 (fun b hb=>by
  show b<(s2.heap.push _).objs.size
  rw[zAU]
  exact zA4 (dc b hb)) K.kind K.ccl (K.hcn _) (fun i x j e1 e2=>(K.mem e1 e2).1) (fun i x j e1 e2 k=>E5 _ _ _ _ (K.mem e1 e2).2) K.len rfl
 have eZ:tn 0 (pushCells ((s2.heap.push { cls:=.type "list",data:=.seq ([]:List Value).toArray }).push { cls:=.type "dict",data:=.dict #[] }) scope.names):=T.keep 0 _ _ cH fun b hb o e=>pushCells_keeps _ _ _ _ (Heap.get?_push_of_some _ (Heap.get?_push_of_some _ e))
 have f4:∀b∈fp,B3 (X.cmk N scope cl ⟨{ s2 with heap:=s2.heap.push { cls:=.type "list",data:=.seq ([]:List Value).toArray } },upd H2 s2.heap.objs.size (.lst []),fp⟩) [] (upd H2 s2.heap.objs.size (.lst [])) b:=fun b hb=>
  ⟨(f3 b hb).1,(I4.ok.exf b hb).1,I4.ok.exfs b hb,.inl hb,(I4.ok.exf b hb).2,fun p hp=>absurd (show p∈([]:List (Addr×Obj)) from hp) (by simp)⟩
 have lt3:∀b ob,({ s2 with heap:=s2.heap.push { cls:=.type "list",data:=.seq ([]:List Value).toArray } }:Shared).heap.get? b=some ob->b<(s2.heap.push { cls:=.type "list",data:=.seq ([]:List Value).toArray }).objs.size:=fun b ob e=>zAB e
 have aP:=codeAny_mono (BS (X:=X.cmk N scope cl ⟨{ s2 with heap:=s2.heap.push { cls:=.type "list",data:=.seq ([]:List Value).toArray } },upd H2 s2.heap.objs.size (.lst []),fp⟩) (e:=.ListComp ao (⟨tg,ae,aj,0⟩::rest) scope pos) (d:=0) (acc:=.ref s2.heap.objs.size) (pins:=[]) aI hc (ht _ _ _) rfl rfl rfl T (hg _) (hb _ _) I4 eZ f4 iG) (R':=compPost (model X.prog X.w) X.A X.xe (some (assign (.Name y bo) X.env)) (fun _ s'=>SP X pins D .next s') (.ref s2.heap.objs.size) (s2.heap.push { cls:=.type "list",data:=.seq ([]:List Value).toArray }).objs.size) (fun r s' hq=>by
  obtain⟨rfl,σ',H',J',q⟩:=hq
  obtain⟨m,hn,_⟩:=id J'.loc
  have I5:Inv X pins σ H' s':=I3.uncmk f3 J' (zBG _ _)
  have nL:(s2.heap.push { cls:=.type "list",data:=.seq ([]:List Value).toArray }).objs.size≠X.env.locals:=zBR I3.lt
  have nC:∀x c,X.env.cells.lookup x=some c->c≠(s2.heap.push { cls:=.type "list",data:=.seq ([]:List Value).toArray }).objs.size:=fun x c e=>by
   obtain⟨v,o,ho,_⟩:=I3.cell x c e
   exact zAE (lt3 _ _ ho)
  show wpAny _ _ (assign (.Name y bo) X.env (.ref s2.heap.objs.size)) _ _ _
  refine wpAny_assign_Name (Gc I5 hN hy gQ (v:=.ref s2.heap.objs.size) rfl (fun s6 I6 ⟨a,sb,ha⟩=>?_) hf)
  have na:(s2.heap.push { cls:=.type "list",data:=.seq ([]:List Value).toArray }).objs.size≠a:=by
   rcases ha with z | z
   ·rw[z];exact nL
   ·exact zA7 (nC _ _ z)
  refine⟨m,hn.sameBut sb na,fun h7 sb7=>?_⟩
  refine⟨_,H',I6.turned (t':=s6.toks) (it:=(s2.heap.push { cls:=.type "list",data:=.seq ([]:List Value).toArray }).objs.size) (fun b ob nb e=>(sb7.2 b nb).trans e) J'.free nL (.inr (zAH I3.sz (zAA _))) nC (fun p hp=>zAE (lt3 _ _ (I3.pin p hp).1)),q⟩)
 exact BF (X:=X.cmk N scope cl ⟨{ s2 with heap:=s2.heap.push { cls:=.type "list",data:=.seq ([]:List Value).toArray } },upd H2 s2.heap.objs.size (.lst []),fp⟩) rfl rfl rfl (fun _=>rfl) True.intro aP (T.self _ 0 _ _ _ eZ aP)
theorem M8{tc:CC->TT}{te:CC->TE}(hN:X.N.Nodup)(hy:X.N[i]? = some y)(gQ:Sm X.env.scope y)(h:CompK X N scope cl js)(hi:PI X tg ae wi)(hg:∀c,PG (X.cmk N scope cl c) tg (g c))(gN:∀c,MP (X.cmk N scope cl c) aj (tc c))(he:∀c,PE (X.cmk N scope cl c) ao (te c))(aI:X.xe=Ew:=by rfl)(hc:X.calm=true:=by rfl)(hs:∀x,foldedSetIterable ae X.env x=pure x:=by intro _;rfl)(jg:swapsWith (.ListComp ao [⟨tg,ae,aj,0⟩] scope pos) (some (.Name y bo)) cL.line X.env=pure true:=by rfl)(hf:X.fn y=true\/X.env.scope.names.lookup y=some .local:=by first | exact .inl rfl | exact .inr rfl):
  PS X (.Assign [.Name y bo] (.ListComp ao [⟨tg,ae,aj,0⟩] scope pos) cL) (Ob (EX wi js g fun c ac=>DO (tc c) (Cg ac (te c))) (DM i)):=
 Nj (WB:=fun c ac=>DW (X.cmk N scope cl c) aj ao ac) aI hc hi hs h (fun c it ac=>Jc) hg (fun c ac=>Fa aI (gN c) (he c)) hN hy gQ jg hf
end
end L2
namespace L2
open PySem PySem.Spec PyProof.Rows
section
variable {X:Cx}{pos:Pos}
end
end L2
namespace L2
open PySem PySem.Spec PyProof.Rows
section
variable {prog:Program}{w:World}{A:Around}{E:Value->Shared->Prop}{s:Shared}
end
section
variable {X:Cx}
theorem NB(i j:Int):(Builtin.Range.rangePlace? 0 j 1 i).isSome=decide (0<=i/\i<j):=by
 unfold Builtin.Range.rangePlace?
 by_cases h1:0<=i
 ·by_cases h2:i<j
  ·simp[h1,h2]
  ·simp[h1,h2]
 ·simp[h1]
end
end L2
namespace L2
open PySem PySem.Spec PyProof.Rows
section
variable {X:Cx}
theorem Jx(hc:X.calm=true):BP X (.builtin "sorted") (fun xs H Q=>∃a S n,xs=[.ref a]/\H a=some (Bn X.w a S n)/\(∀k,S k=true->-1<=k/\k<62)/\∀(l:Addr)(ns:List Int),H l=none->ns.Pairwise (· < ·)->(∀k,k∈ns↔S k=true)->Q (.ref l) (upd H l (.lst (ns.map V.int)))):=by
 intro pins s σ H xs us Q I r h
 obtain⟨a,S,n,rfl,ha,hn,q⟩:=h
 obtain⟨u,rfl,ru⟩:=Ci r
 cases ru
 obtain⟨ks,hS,hm,hl⟩:=I.setO ha
 have bx:ks.length<=63:=by
  have:=BV (l2:=(List.range 63).map fun m=>Int.ofNat m-1) hS.nd fun y hy=>by
   obtain⟨h1,h2⟩:=hn y ((hm y).mpr hy)
   obtain⟨m,e⟩:=zBH (show 0<=y+1 by omega)
   exact List.mem_map.mpr ⟨m,List.mem_range.mpr (by omega),by show (m:Int)-1=y;omega⟩
  rw[List.length_map,List.length_range] at this
  exact this
 exact DT (n:=63) hc I hS.it hm bx (by decide) q
theorem Nz:BP X (.builtin "len") (fun xs H Q=>∃a S n,xs=[.ref a]/\H a=some (Bn X.w a S n)/\∀(ks:List Int),ks.Nodup->(∀k,k∈ks↔S k=true)->Q (.int (ks.length:Nat)) H):=by
 intro pins s σ H xs us Q I r h
 obtain⟨a,S,n,rfl,ha,q⟩:=h
 obtain⟨u,rfl,ru⟩:=Ci r
 cases ru
 obtain⟨ks,⟨o,es,ep,t,h1,h2,h3,h4,h5,h6,h7,h8,h9⟩,hm,hl⟩:=I.setO ha
 have el:es.size=ks.length:=by rw[<-h5,List.length_map,zAF]
 refine PySem.call_len_set h1 h2 h3 h9 (by omega) ⟨.int (ks.length:Nat),H,I.tok _,⟨_,by rw[el]⟩,q ks h6 fun k=>(hm k).symm⟩
def RQ(K:PySem.W.Frag):R2:=fun x y H Q=>∃(e p:Addr)(xs:List V)(bs:List Bool),x= .ref e/\y= .ref p/\SqL K H e []/\SqL K H p xs/\bs.length=xs.length/\(∀(i:Nat) v b,xs[i]? = some v->bs[i]? = some b->∃a zs,v= .ref a/\SqL K H a zs/\b=zs.isEmpty)/\Q (.bl (!bs.any id)) H
theorem N8(hu:X.A.units+9<cLine):D3 X (compareOp .NotIn) (RQ X.K):=by
 intro pins s σ H x y v u Q I rx ry h
 obtain⟨e,p,xs,bs,rfl,rfl,he,hp,hl,hx,q⟩:=h
 cases rx
 cases ry
 obtain⟨its,r,pl,hz⟩:=I.list hp
 obtain⟨its0,r0,jf,hz0⟩:=I.list he
 cases r0
 have lr:=r.length
 have at':∀(i:Nat)(u:Value),its[i]? = some u->∃b,bs[i]? = some b/\SeqAt.EqAt X.A.in1 s u (.ref e) b:=fun i u hi=>by
  have aZ:i<its.length:=(List.getElem?_eq_some_iff.mp hi).1
  have gO:xs[i]? = some xs[i]:=List.getElem?_eq_getElem (by omega)
  have d9:bs[i]? = some bs[i]:=List.getElem?_eq_getElem (by omega)
  obtain⟨u2,hu2,ru2⟩:=r.get gO
  rw[hi] at hu2
  cases hu2
  obtain⟨a,zs,ev,hq,eb⟩:=hx i _ _ gO d9
  rw[ev] at ru2
  cases ru2
  refine⟨_,d9,?_⟩
  obtain⟨itz,rz,plz,_⟩:=I.list hq
  rw[eb]
  by_cases hae:a=e
  ·subst hae
   have hz1:itz=[]:=by
    have h1:=plz.isList
    have h2:=jf.isList
    obtain⟨o1,g1,_,n1,d1⟩:=h1
    obtain⟨o2,g2,_,n2,d2⟩:=h2
    rw[g1] at g2
    cases g2
    rw[d1] at d2
    cases itz with
    | nil=>rfl
    | cons c r=>cases d2
   subst hz1
   cases rz
   exact zCD _
  ·refine zCS hae ?_
   cases rz with
   | nil=>exact zC2 (e:=fun _=>true) plz.isList jf.isList rfl (by show X.A.units+1<cLine;omega) (fun j h1=>absurd h1 (zCE _))
   | cons r1 r2=>exact zCQ plz.isList jf.isList (by simp) (by show X.A.units+1<cLine;omega)
 let f:Value->Bool:=fun u=>(List.range its.length).any fun i=>its[i]? == some u && bs[i]? == some true
 have uniq:∀(i j:Nat)(u:Value),its[i]? = some u->its[j]? = some u->bs[i]? = bs[j]? :=fun i j u hi hj=>by
  have aZ:i<its.length:=(List.getElem?_eq_some_iff.mp hi).1
  have hjl:j<its.length:=(List.getElem?_eq_some_iff.mp hj).1
  have gO:xs[i]? = some xs[i]:=List.getElem?_eq_getElem (by omega)
  have d9:bs[i]? = some bs[i]:=List.getElem?_eq_getElem (by omega)
  have hxj:xs[j]? = some xs[j]:=List.getElem?_eq_getElem (by omega)
  have hbj:bs[j]? = some bs[j]:=List.getElem?_eq_getElem (by omega)
  obtain⟨u2,hu2,ru2⟩:=r.get gO
  obtain⟨u3,hu3,ru3⟩:=r.get hxj
  rw[hi] at hu2
  cases hu2
  rw[hj] at hu3
  cases hu3
  obtain⟨a,zs,ev,hq,eb⟩:=hx i _ _ gO d9
  obtain⟨a2,zs2,ev2,gP,eb2⟩:=hx j _ _ hxj hbj
  rw[ev] at ru2
  rw[ev2] at ru3
  cases ru2
  have ea:a=a2:=Value.ref.inj (show Value.ref a=Value.ref a2 from ru3)
  subst ea
  rw[d9,hbj,eb,eb2]
  obtain⟨it1,rz1,p1,_⟩:=I.list hq
  obtain⟨it2,rz2,p2,_⟩:=I.list gP
  obtain⟨o1,g1,_,n1,d1⟩:=p1.isList
  obtain⟨o2,g2,_,n2,d2⟩:=p2.isList
  rw[g1] at g2
  cases g2
  rw[d1] at d2
  have eit:it1.toArray=it2.toArray:=by cases d2;rfl
  have eit':it1=it2:=by simpa using eit
  have l1:=rz1.length
  have l2:=rz2.length
  rw[eit'] at l1
  cases zs with
  | nil=>cases zs2 with
   | nil=>rfl
   | cons c d=>simp at l1 l2;omega
  | cons c d=>cases zs2 with
   | nil=>simp at l1 l2;omega
   | cons c2 d2=>rfl
 have ff:∀(i:Nat)(u:Value)(b:Bool),its[i]? = some u->bs[i]? = some b->f u=b:=fun i u b hi hb=>by
  have aZ:i<its.length:=(List.getElem?_eq_some_iff.mp hi).1
  cases b with
  | true=>exact List.any_eq_true.mpr ⟨i,List.mem_range.mpr aZ,by rw[hi,hb];simp⟩
  | false=>
   refine List.any_eq_false.mpr fun j hj z=>?_
   rw[zAN] at z
   have z1:its[j]? = some u:=eq_of_beq z.1
   have z2:bs[j]? = some true:=eq_of_beq z.2
   have:=uniq i j u hi z1
   rw[hb,z2] at this
   cases this
 refine SeqAt.notIn_listAt f pl.isList (fun u hu=>?_) ⟨.bl _,H,I,rfl,?_⟩
 ·have hu':u∈its:=by simpa using hu
  obtain⟨i,hi⟩:=List.getElem?_of_mem hu'
  obtain⟨b,hb,eq⟩:=at' i u hi
  rw[ff i u b hi hb]
  first | exact eq | exact eq.of_in1
 ·have ea:its.toArray.any f=bs.any id:=by
   rw[show its.toArray.any f=its.any f by simp,zA6,zBZ,zBZ]
   constructor
   ·rintro⟨u,hu,hf⟩
    obtain⟨i,hi⟩:=List.getElem?_of_mem hu
    obtain⟨b,hb,_⟩:=at' i u hi
    rw[ff i u b hi hb] at hf
    exact⟨b,zAQ hb,hf⟩
   ·rintro⟨b,hb,hf⟩
    obtain⟨i,hi⟩:=List.getElem?_of_mem hb
    have aZ:i<bs.length:=(List.getElem?_eq_some_iff.mp hi).1
    have hii:its[i]? = some its[i]:=List.getElem?_eq_getElem (by omega)
    exact⟨its[i],zAQ hii,by rw[ff i _ b hii hi];exact hf⟩
  rw[ea]
  exact q
def S4:R2:=fun x y H Q=>∃(i j:Int)(r:Addr),x= .int i/\y= .ref r/\H r=some (.rng 0 j)/\Q (.bl (decide (0<=i/\i<j))) H
theorem Pt:D3 X (compareOp .In) S4:=by
 intro pins s σ H x y v u Q I rx ry h
 obtain⟨i,j,r,rfl,rfl,hr,q⟩:=h
 obtain⟨t,rfl⟩:=rx
 cases ry
 obtain⟨t1,t2,t3,ho⟩:=(show ObjOk X.prog X.w H s.heap r (.rng 0 j) from I.hok r _ hr)
 have g:Meets (Builtin.«range.__contains__» ⟨[.ref r,.int i t],[]⟩) (fun _ R s=>s.heap.get? r=some { cls:=.type "range",data:=.fields #[.int 0 t1,.int j t2,.int 1 t3] }/\R (.ok (.ret (.bool (decide (0<=i/\i<j))))) s):=.of_wp fun prog w A R s h=>by
  obtain⟨hl,h⟩:=h
  unfold Builtin.«range.__contains__»
  refine wpAny_bind (wpAny_of_eq rfl ?_)
  show wpAny _ _ (do rule "range.contains.reckoned";let (a,b,c) <-Builtin.Range.rangeFields (.ref r);ret (.bool (Builtin.Range.rangePlace? a b c i).isSome)) _ _ _
  refine wpAny_bind (wpAny_rule ?_)
  refine wpAny_bind ?_
  unfold Builtin.Range.rangeFields
  refine wpAny_bind (wpAny_field hl rfl rfl ?_)
  refine wpAny_bind (wpAny_of_eq rfl ?_)
  refine wpAny_bind (wpAny_field hl rfl rfl ?_)
  refine wpAny_bind (wpAny_of_eq rfl ?_)
  refine wpAny_bind (wpAny_field hl rfl rfl ?_)
  refine wpAny_bind (wpAny_of_eq rfl ?_)
  refine wpAny_pure ?_
  show wpAny _ _ (ret (.bool (Builtin.Range.rangePlace? 0 j 1 i).isSome)) _ _ _
  rw[NB]
  exact wpAny_pure ⟨_,rfl,h⟩
 exact PySem.SeqRoads2.in_meets ⟨_,ho,rfl⟩ F.slot_range_contains F.entry_range_contains (F.args_range_contains_2 _ _) g ⟨ho,_,rfl,.bl _,H,I,rfl,q⟩
theorem JK{its:List Value}{j:Nat}(j1:j<its.toArray.size)(e:its[j]? = some u):its.toArray[j]=u:=by
 have iR:j<its.length:=by simpa using j1
 have:=List.getElem?_eq_getElem iR
 rw[this] at e
 simpa using zAP e
theorem OY{as bs:List Int}(h:as.length=bs.length):((List.range as.length).all fun j=>as.getD j 0 == bs.getD j 0)=decide (as=bs):=by
 rw[zA6,zA0,decide_eq_true_iff]
 constructor
 ·intro hh
  refine zCK h fun j h1 h2=>?_
  have:=hh j (List.mem_range.mpr h1)
  rw[List.getD_eq_getElem?_getD,List.getD_eq_getElem?_getD,List.getElem?_eq_getElem h1,List.getElem?_eq_getElem h2] at this
  exact eq_of_beq this
 ·rintro rfl j _
  exact beq_self_eq_true _
def Uy(K:PySem.W.Frag):R2:=fun x y H Q=>∃(a b:Addr)(as bs:List Int),x= .ref a/\y= .ref b/\SqL K H a (as.map V.int)/\SqL K H b (bs.map V.int)/\Q (.bl (!decide (as=bs))) H
theorem Sv(hu:X.A.units+9<cLine):D3 X (compareOp .NotEq) (Uy X.K):=by
 intro pins s σ H x y v u Q I rx ry h
 obtain⟨a,b,as,bs,rfl,rfl,h1,h2,q⟩:=h
 cases rx
 cases ry
 obtain⟨its,q1,pl,_⟩:=I.list h1
 obtain⟨az,q2,be,_⟩:=I.list h2
 have l1:=q1.length
 have l2:=q2.length
 rw[List.length_map] at l1 l2
 by_cases hl:as.length=bs.length
 ·have R:=zDJ (A:=X.A) (e:=fun j=>as.getD j 0 == bs.getD j 0) pl.isList be.isList (by simp;omega) (by omega) (fun j j1 j2=>by
   have iR:j<its.length:=by simpa using j1
   have dk:as[j]? = some as[j]:=List.getElem?_eq_getElem (by omega)
   have bh:bs[j]? = some bs[j]:=List.getElem?_eq_getElem (by omega)
   obtain⟨u1,f1,ru1⟩:=q1.get (i:=j) (x:=.int as[j]) (by rw[List.getElem?_map,dk];rfl)
   obtain⟨u2,f2,ru2⟩:=q2.get (i:=j) (x:=.int bs[j]) (by rw[List.getElem?_map,bh];rfl)
   rw[JK j1 f1,JK j2 f2]
   obtain⟨t1,rfl⟩:=ru1
   obtain⟨t2,rfl⟩:=ru2
   rw[List.getD_eq_getElem?_getD,List.getD_eq_getElem?_getD,dk,bh]
   exact zDH _ _ _ _)
  rw[show its.toArray.size=as.length by simp;omega,OY hl] at R
  exact R _ _ _ _ ⟨.bl _,H,I,rfl,q⟩
 ·have R:=SeqAt.RcNeAt.lists_lengths (A:=X.A) pl.isList be.isList (by simp;omega) (by omega)
  rw[decide_eq_false (fun e=>hl (by rw[e]))] at q
  exact R _ _ _ _ ⟨.bl true,H,I,rfl,q⟩
theorem P5{xs ys:List V}:((List.range (min xs.length ys.length)).all (fun j=>decide (xs.getD j .non=ys.getD j .non)) && xs.length == ys.length)=decide (xs=ys):=by
 rw[zA6,zAN,zA0,decide_eq_true_iff]
 constructor
 ·rintro⟨hh,hl⟩
  have hl:=eq_of_beq hl
  refine zCK hl fun j h1 h2=>?_
  have:=of_decide_eq_true (hh j (List.mem_range.mpr (by omega)))
  rw[List.getD_eq_getElem?_getD,List.getD_eq_getElem?_getD,List.getElem?_eq_getElem h1,List.getElem?_eq_getElem h2] at this
  exact this
 ·rintro rfl
  exact⟨fun j _=>decide_eq_true rfl,beq_self_eq_true _⟩
def SI(v:V):Prop:=(∃k,v= .int k)\/∃z,v= .str z
theorem Tv(hv:SI v)(hu:SI u)(rv:RelV v x)(ru:RelV u y):SeqAt.EqAt A s x y (decide (v=u)):=by
 rcases hv with⟨k,rfl⟩|⟨z,rfl⟩<;>rcases hu with⟨k',rfl⟩|⟨z',rfl⟩<;>obtain⟨t1,rfl⟩:=rv<;>obtain⟨t2,rfl⟩:=ru
 ·have e:decide (V.int k=V.int k')=(k == k'):=JO
  rw[e]
  exact zDH _ _ _ _
 ·have e:decide (V.int k=V.str z')=false:=decide_eq_false fun z=>by cases z
  rw[e]
  exact zDF _ _ _ _
 ·have e:decide (V.str z=V.int k')=false:=decide_eq_false fun z=>by cases z
  rw[e]
  exact zDG _ _ _ _
 ·have e:decide (V.str z=V.str z')=(z == z'):=by
   by_cases c:z=z'
   ·rw[c,beq_self_eq_true,decide_eq_true rfl]
   ·rw[decide_eq_false (fun h=>c (by injection h)),beq_eq_false_iff_ne.mpr c]
  rw[e]
  exact SeqAt.EqAt.str_str _ _ _ _
def Uk(K:PySem.W.Frag):R2:=fun x y H Q=>∃(a b:Addr)(xs ys:List V),x= .ref a/\y= .ref b/\SqT K H a xs/\SqT K H b ys/\(∀v∈xs,SI v)/\(∀v∈ys,SI v)/\Q (.bl (decide (xs=ys))) H
theorem RH(hu:X.A.units+9<cLine):D3 X (compareOp .Eq) (Uk X.K):=by
 intro pins s σ H x y v u Q I rx ry h
 obtain⟨a,b,xs,ys,rfl,rfl,h1,h2,hx,hy,q⟩:=h
 cases rx
 cases ry
 obtain⟨its,q1,pl,_⟩:=I.tuple h1
 obtain⟨az,q2,be,_⟩:=I.tuple h2
 have l1:=q1.length
 have l2:=q2.length
 have R:=SeqAt.RcAt.tuples (A:=X.A) (e:=fun j=>decide (xs.getD j .non=ys.getD j .non)) pl be (by omega) (fun j j1 j2=>by
  have iR:j<its.length:=by simpa using j1
  have j2':j<az.length:=by simpa using j2
  have dk:xs[j]? = some xs[j]:=List.getElem?_eq_getElem (by omega)
  have bh:ys[j]? = some ys[j]:=List.getElem?_eq_getElem (by omega)
  obtain⟨u1,f1,ru1⟩:=q1.get dk
  obtain⟨u2,f2,ru2⟩:=q2.get bh
  rw[JK j1 f1,JK j2 f2,List.getD_eq_getElem?_getD,List.getD_eq_getElem?_getD,dk,bh]
  exact Tv (hx _ (zA3 _)) (hy _ (zA3 _)) ru1 ru2)
 rw[show its.toArray.size=xs.length by simp;omega,show az.toArray.size=ys.length by simp;omega,P5] at R
 exact R _ _ _ _ ⟨.bl _,H,I,rfl,q⟩
end
end L2
namespace L2
open PySem PySem.Spec PyProof.Rows
theorem HD(e8:s.heap.IsRevIter it l i)(h:Q (.ref it) s):wpAny (model prog w) A (pyIter (.ref it)) Q E s:=by
 obtain⟨o,ho,hc,_⟩:=id e8
 have hT:s.TypeIs (.ref it) "list_reverseiterator":=⟨o,ho,hc⟩
 refine wpAny_pyIter_slot hT F.slot_lri_iter (wpAny_call_entry F.slot_lri_iter hT F.entry_lri_iter ?_ (F.args_lri_iter_1 (.ref it)))
 exact wpAny_pure ⟨.ref it,rfl,"list_reverseiterator",.builtin "list_reverseiterator.__next__",hT,F.slot_lri_next.lookup,h⟩
def S6(K:PySem.W.Frag)(a:Addr)(n:Nat):It:=
 ⟨fun i H=>i<n/\∃xs,SqL K H a xs/\xs.length=n,fun i H x H'=>H'=H/\∀xs,SqL K H a xs->xs[n-1-i]? = some x,fun i _=>i=n⟩
theorem P2{K:PySem.W.Frag}(Pv:Nat->St->Hp->Prop)(h0:Pv 0 σ H)(hl:∀i σ H,i<xs.length->Pv i σ H->SqL K H a xs)(hs:∀i x σ H,i<xs.length->xs[xs.length-1-i]? = some x->Pv i σ H->g x σ H fun σ2 H2=>tb { D with nx:=Pv (i+1),ct:=Pv (i+1),bk:=D.nx } σ2 H2)(hd:∀σ H,Pv xs.length σ H->D.nx σ H):EY (S6 K a xs.length) g tb D σ H:=by
 refine⟨fun i m σ H=>m=xs.length-i/\i<=xs.length/\Pv i σ H,⟨xs.length,by simp,zA9 _,h0⟩,?_⟩
 rintro i m σ H ⟨rfl,hi,p⟩
 by_cases aO:i<xs.length
 ·have q:=hl i σ H aO p
  refine .inr ⟨⟨aO,xs,q,rfl⟩,Pv (i+1),fun σ' H' p'=>⟨xs.length-(i+1),by omega,rfl,aO,p'⟩,fun x H' y=>?_⟩
  obtain⟨e1,e2⟩:=y
  subst e1
  exact hs i x σ _ aO (e2 xs q) p
 ·have e:i=xs.length:=by omega
  subst e
  exact .inl ⟨rfl,hd σ H p⟩
theorem N4{P:Program}{w:World}{K:PySem.W.Frag}{tg:Expr}(a it:Addr)(n:Nat):LR P w K tg (S6 K a n) [it] it (fun i h=>h.IsRevIter it a ((n:Int)-1-(i:Nat))) where
 mem:=by simp
 obj:=fun i h st b hb=>by
  have e:b=it:=by simpa using hb
  subst e
  obtain⟨o,e,c,d⟩:=st
  exact⟨o,e,fun v z=>by rw[d] at z;cases z⟩
 keep:=fun i h h' st k=>by
  obtain⟨o,e,c,d⟩:=st
  exact⟨o,k it (by simp) _ e,c,d⟩
 item:=by
  intro X hP hw hK hc i pins s σ H E I hf st hg
  subst hP hw hK
  obtain⟨iP,xs,hq,hn⟩:=hg
  obtain⟨its,rv,p,hz⟩:=I.list hq
  obtain⟨x,hx⟩:∃x,xs[n-1-i]? = some x:=⟨xs[n-1-i],List.getElem?_eq_getElem (by omega)⟩
  obtain⟨u,hu,ru⟩:=rv.get hx
  obtain⟨f0,f1,f2,f3,f4,f5⟩:=hf it (by simp)
  have ei:(n:Int)-1-(i:Nat)=((n-1-i:Nat):Int):=by omega
  rw[ei] at st
  refine wpAny_pyNext_rev_item st p.isList (x:=u) (by simpa using hu) fun h' gr sb=>?_
  have I1:Inv X pins σ H { s with heap:=h' }:=I.turned (t':=s.toks) (fun b o hb e=>(sb.2 b hb).trans e) f0 f1 f3 f4 f5
  obtain⟨o,e,c,d⟩:=id gr
  have e2:((n-1-i:Nat):Int)-1=(n:Int)-1-((i+1:Nat):Int):=by omega
  rw[e2] at gr
  exact⟨u,rfl,MC (s:={ s with heap:=h' }) e c d (by decide) ⟨x,H,I1,ru,⟨rfl,fun ys hy=>by rw[I.list_inj hy hq];exact hx⟩,gr,fun b hb=>(hf b hb).1⟩⟩
 done:=by
  intro X hP hw hK hc i pins s σ H E I hf st hg
  subst hP hw hK
  have hg:i=n:=hg
  subst hg
  have e1:(i:Int)-1-(i:Nat) = -1:=by omega
  rw[e1] at st
  obtain⟨f0,f1,f2,f3,f4,f5⟩:=hf it (by simp)
  exact wpAny_pyNext_rev_end (I.ok.hd hc) st fun h' eb=>⟨rfl,I.turned (t':=s.toks) (fun b o hb e=>eb b o hb e) f0 f1 f3 f4 f5⟩
 self:=fun _ _ _ _ _ st h=>HD st h
section
variable {X:Cx}{tg:Expr}
def Ua(K:PySem.W.Frag)(ta:TA):TI:=fun σ H R=>ta σ H fun vs H1=>∃(a:Addr)(xs:List V),vs=[.ref a]/\SqL K H1 a xs/\R (S6 K a xs.length) H1
theorem Rt(hg:Gl X "reversed")(hm:X.mg "reversed"=none)(ha:PA X [a] ta)(hs:starEach [a] X.env=[(false,eval a X.env)]:=by rfl):
  PI X tg (.Call (.Name "reversed" p) [a] [] pos) (Ua X.K ta):=by
 intro pins s σ H R I h
 refine Call_ (Cr I hg hm boot_reversed (zBD (AX (ha pos pins s σ H _ I h) fun us s1 ⟨vs,H1,I1,r1,q1⟩=>?_) hs rfl))
 obtain⟨a',xs,e,hq,q⟩:=q1
 subst e
 obtain⟨u,rfl,ru⟩:=Ci r1
 cases ru
 obtain⟨its,rv,p,hz⟩:=I1.list hq
 have ag:=rv.length
 refine call_reversed_list p.isList ?_
 have st:(s1.heap.push (revObj a' ((its.toArray.size:Int)-1))).IsRevIter s1.heap.objs.size a' ((xs.length:Int)-1-((0:Nat):Int)):=by
  have e:(its.toArray.size:Int)-1=(xs.length:Int)-1-((0:Nat):Int):=by
   rw[zAG]
   omega
  rw[e]
  exact⟨_,Heap.get?_push_size _ rfl,rfl,rfl⟩
 refine HD st ?_
 refine⟨s1.heap.objs.size,[s1.heap.objs.size],_,_,H1,rfl,I1.kept (t':=s1.toks) fun b o e=>Heap.get?_push_of_some _ e,N4 a' _ xs.length,st,fun b hb=>?_,q⟩
 have e:b=s1.heap.objs.size:=by simpa using hb
 subst e
 exact I1.fpOk (zAA _) (I1.hok.fresh (zAA _))
end
end L2
namespace L2
open PySem PySem.Spec PyProof.Rows
theorem Rb:typeLookup (.type "list_reverseiterator") "__len__"=pure none:=by rw[typeLookup_type,builtinLookup_eq_fast];kernel_rfl
theorem Qv:typeLookup (.type "list_reverseiterator") "__length_hint__"=pure (some (.builtin "list_reverseiterator.__length_hint__")):=by rw[typeLookup_type,builtinLookup_eq_fast];kernel_rfl
section
variable {prog:Program}{w:World}{A:Around}{E:Value->Shared->Prop}{s:Shared}{r d:Addr}{items:Array Value}
theorem P1(hT:s.TypeIs (.ref r) "list_reverseiterator")(h:Q false s):wpAny (model prog w) A (Builtin.List.listLengthHint (.ref r)) Q E s:=by
 unfold Builtin.List.listLengthHint
 refine wpAny_bind (wpAny_specialOf hT Rb ?_)
 refine wpAny_ite_split (fun cP=>absurd cP (by decide)) (fun _=>?_)
 refine wpAny_ite_split (fun cP=>absurd cP (by decide)) (fun _=>?_)
 refine wpAny_bind (wpAny_specialOf hT Qv ?_)
 generalize hid:("list_reverseiterator.__length_hint__":String)=id0
 wp_delta
 rw[show splitId id0=some ("list_reverseiterator","__length_hint__") from by subst hid;decide +kernel]
 subst hid
 refine wpAny_bind (wpAny_isInstance (T:="list_reverseiterator") (b:=true) hT (by rw[isSubtype_type];kernel_rfl) ?_)
 refine wpAny_ite_split (fun cP=>absurd cP (by decide)) (fun _=>?_)
 refine wpAny_ite_split (fun _=>?_) (fun cP=>absurd (by decide +kernel) cP)
 refine wpAny_ite_split (fun cP=>absurd cP (by decide +kernel)) (fun _=>?_)
 exact wpAny_pure h
def MJ(r d:Addr)(items:Array Value)(i:Nat)(h:Heap):Prop:=i<=items.size/\h.IsRevIter r d ((items.size:Int)-1-(i:Int))/\h.IsList d items
theorem Ll(hh:A.handled=none)(hrd:d≠r)(st:MJ r d items 0 s.heap)(S:Addr)(hSr:S≠r)(hSd:S≠d)(res:Value)(c₀:Nat)(hS:s.heap.get? S=some { cls:=.type "list",data:=.seq #[] c₀ })(hR:∀h' tk aR c',(∀b o,b≠S->b≠r->s.heap.get? b=some o->h'.get? b=some o)->h'.get? S=some { cls:=.type "list",dict:=none,data:=.seq aR c',slots:=#[] }->ItemsOf (fun i v=>items[items.size-1-i]? = some v) aR items.size->R (.ok (.ret res)) { s with heap:=h',toks:=tk })(hn:items.size<=sizeLine):
  wpAny (model prog w) A.in1 (Builtin.List.listExtendWith (.ref S) (.ref r) res)
   (fun aF s'=>match aF with | .done f=>R (.ok f) s' | .again c'=>c'.quiet=true/\codeAny (model prog w) A c' R s') (fun e s'=>R (.error e) s') s:=by
 have hSf:S∉[r,d]:=by simp only[zAS,zAR,or_false,not_or];exact⟨hSr,hSd⟩
 have W:=Walks.listRev (prog:=prog) (w:=w) (A:=A.in1) hh r d hrd items
 have key:∀(h:Heap)(c₁ tk:Nat),MJ r d items 0 h->(∀b o,b≠S->s.heap.get? b=some o->h.get? b=some o)->
   h.get? S=some { cls:=.type "list",data:=.seq #[] c₁ }->codeAny (model prog w) A (.builtin "list.extend.loop" ⟨[.ref S,.ref r,res],[]⟩) R { s with heap:=h,toks:=tk }:=by
  intro h c₁ tk gD hk hS₁
  refine codeAny_extend_loopS W.toS hn S hSf res items.size 0 _ #[] c₁ rfl (zA9 _) gD hS₁ (ItemsOf.nil _) fun s' aR c' hm aQ ah=>?_
  rw[Moved.eq_with hm]
  refine hR s'.heap s'.toks aR c' (fun b o hb fb e=>hm.heap b o (fun hmem=>?_) (hk b o hb e)) aQ ah
  rcases List.mem_cons.mp hmem with e' | hmem
  ·exact hb e'
  ·exact fb (List.mem_singleton.mp hmem)
 unfold Builtin.List.listExtendWith
 refine wpAny_bind (wpAny_typeOf (T:="list_reverseiterator") st.2.1.typeIs ?_)
 have h1:Builtin.List.listSameRef (.ref S) (.ref r)=false:=by simp[Builtin.List.listSameRef,hSr]
 have h2:(Value.type "list_reverseiterator" == Value.type "list")=false:=by decide
 have h3:(Value.type "list_reverseiterator" == Value.type "tuple")=false:=by decide
 simp only[h1,h2,h3,zDL,zB2,if_false]
 refine wpAny_bind (HD st.2.1 ?_)
 refine wpAny_bind (wpAny_holding (P1 st.2.1.typeIs ?_))
 refine wpAny_ite_split (fun cP=>?_) (fun _=>wpAny_pure ⟨plainId_quiet PySem.F.plain_extend_loop _,key _ c₀ _ st (fun b o _ e=>e) hS⟩)
 refine wpAny_bind (wpAny_rule ?_)
 refine wpAny_bind ?_
 show wpAny _ _ (updateSeq S (·.push .none) >>= fun _=>updateSeq S (·.pop)) _ _ _
 refine wpAny_bind (wpAny_updateSeq hS rfl ?_)
 have hS₂:=Heap.get?_update_self (Obj.mapSeq (·.push Value.none)) hS rfl
 refine wpAny_updateSeq (hz:=by seq_fits) hS₂ rfl ?_
 have hS₃:=Heap.get?_update_self (Obj.mapSeq (·.pop)) hS₂ rfl
 have ot:∀b o,b≠S->s.heap.get? b=some o->((s.heap.update S (Obj.mapSeq (·.push Value.none))).update S (Obj.mapSeq (·.pop))).get? b=some o:=fun b o hb e=>(Heap.get?_update_other _ _ (zA7 hb)).trans ((Heap.get?_update_other _ _ (zA7 hb)).trans e)
 refine wpAny_pure ⟨plainId_quiet PySem.F.plain_extend_loop _,key _ _ _ ⟨st.1,st.2.1.at fun o e=>ot r o (zA7 hSr) e,st.2.2.at fun o e=>ot d o (zA7 hSd) e⟩ ot hS₃⟩
theorem Pe(hh:A.handled=none)(hrd:d≠r)(st:MJ r d items 0 s.heap)(S:Addr)(hSr:S≠r)(hSd:S≠d)(hS:s.heap.get? S=some { cls:=.type "list",data:=.seq #[] })(hR:∀h' tk aR c',(∀b o,b≠S->b≠r->s.heap.get? b=some o->h'.get? b=some o)->h'.get? S=some { cls:=.type "list",dict:=none,data:=.seq aR c',slots:=#[] }->ItemsOf (fun i v=>items[items.size-1-i]? = some v) aR items.size->R (.ok (.ret .none)) { s with heap:=h',toks:=tk })(hn:items.size<=sizeLine):
  wpAny (model prog w) A.in1 (Builtin.«list.__init__» ⟨[.ref S,.ref r],[]⟩)
   (fun aF s'=>match aF with | .done f=>R (.ok f) s' | .again c'=>c'.quiet=true/\codeAny (model prog w) A c' R s') (fun e s'=>R (.error e) s') s:=by
 show wpAny _ _ (do let fu <-Builtin.List.listItems (.ref S);Builtin.List.listUpdate (.ref S) (fun _=>#[]);letGo fu.toList.reverse;Builtin.List.listExtendWith (.ref S) (.ref r) .none) _ _ s
 refine wpAny_bind ?_
 unfold Builtin.List.listItems
 refine wpAny_bind (wpAny_seqItems hS rfl (wpAny_pure ?_))
 show wpAny _ _ (updateSeq S (fun _=>#[]) >>= fun _=>letGo (#[]:Array Value).toList.reverse >>= fun _=>Builtin.List.listExtendWith (.ref S) (.ref r) .none) _ _ s
 refine wpAny_bind (wpAny_updateSeq hS rfl ?_)
 have hS₂:=Heap.get?_update_self (Obj.mapSeq (fun _=>(#[]:Array Value))) hS rfl
 have ji:∀b o,b≠S->s.heap.get? b=some o->(s.heap.update S (Obj.mapSeq (fun _=>(#[]:Array Value)))).get? b=some o:=
  fun b o hb e=>(Heap.get?_update_other _ _ (zA7 hb)).trans e
 refine wpAny_bind (wpAny_letGo ?_)
 refine Ll hh hrd ⟨st.1,st.2.1.at fun o e=>ji r o (zA7 hSr) e,st.2.2.at fun o e=>ji d o (zA7 hSd) e⟩ S hSr hSd .none _ hS₂ (fun h' tk aR c' hk aQ ah=>?_) hn
 exact hR h' tk aR c' (fun b o hb fb e=>hk b o hb fb (ji b o hb e)) aQ ah
theorem Qq(hh:A.handled=none)(hrd:d≠r)(st:MJ r d items 0 s.heap)(hn:items.size<=sizeLine)(hQ:∀h' tk aR c',(∀b o,b≠r->s.heap.get? b=some o->h'.get? b=some o)->h'.get? s.heap.objs.size=some { cls:=.type "list",dict:=none,data:=.seq aR c',slots:=#[] }->ItemsOf (fun i v=>items[items.size-1-i]? = some v) aR items.size->Q (.ref s.heap.objs.size) { s with heap:=h',toks:=tk }):
  wpAny (model prog w) A (call (.type "list") [.ref r]) Q E s:=by
 refine callType_codes (Q₁:=fun obj s₁=>obj= .ref s.heap.objs.size/\s₁={ s with heap:=s.heap.push { cls:=.type "list",data:=.seq #[] } }) PySem.F.called_list (PySem.F.typeCall_list_1 _) PySem.F.entry_list_init
  (code_list_new _ ⟨rfl,rfl⟩) fun obj s₁ h₁=>?_
 obtain⟨rfl,rfl⟩:=h₁
 have hS:(s.heap.push { cls:=.type "list",data:=.seq #[] }).get? s.heap.objs.size=some { cls:=.type "list",data:=.seq #[] }:=Heap.get?_push_size _ rfl
 have hr:r<s.heap.objs.size:=let ⟨o,ho,_⟩:=st.2.1;zAB ho
 have hd:d<s.heap.objs.size:=let ⟨o,ho,_⟩:=st.2.2;zAB ho
 refine⟨⟨_,hS,rfl⟩,PySem.F.args_list_init_2 _ _,Pe (A:=A.in1) hh hrd ⟨st.1,st.2.1.at fun o e=>Heap.get?_push_of_some _ e,st.2.2.at fun o e=>Heap.get?_push_of_some _ e⟩ _ (zBR hr) (zBR hd) hS (fun h' tk aR c' hk aQ ah=>?_) hn⟩
 exact⟨rfl,hQ h' tk aR c' (fun b o hb e=>hk b o (zAE (zAB e)) hb (Heap.get?_push_of_some _ e)) aQ ah⟩
end
def Po(K:PySem.W.Frag)(ta:TA):TE:=fun σ H Q=>ta σ H fun vs H1=>∃(a:Addr)(xs:List V),vs=[.ref a]/\SqL K H1 a xs/\∀d,H1 d=none->Q (.ref d) (upd H1 d (.lst xs.reverse))
theorem LC(hc:X.calm=true)(hg:Gl X "list")(hm:X.mg "list"=none)(hv:bootBuiltins "list"=some (.type "list"))(hg2:Gl X "reversed")(aW:X.mg "reversed"=none)(ha:PA X [a] ta)(jc:starEach [a] X.env=[(false,eval a X.env)]:=by rfl)(he:starEach [(.Call (.Name "reversed" p2) [a] [] gU)] X.env=(false,eval (.Call (.Name "reversed" p2) [a] [] gU) X.env)::starEach [] X.env:=by rfl)(ar:(backTo pos (starEach ([]:List Expr) X.env)).any (·.1)=false:=by rfl):
  PE X (.Call (.Name "list" p) [.Call (.Name "reversed" p2) [a] [] gU] [] pos) (Po X.K ta):=by
 intro pins s σ H Q I h
 refine wpAny_Call_Name_kw (Cr I hg hm hv ?_ (by decide) (by decide))
 refine zBD ?_ he ar
 rw[he]
 show wpAny _ _ (spliced ((false,eval (.Call (.Name "reversed" p2) [a] [] gU) X.env)::backTo pos (starEach ([]:List Expr) X.env))) _ _ s
 refine Calls.spliced_cons ?_
 refine Call_ (Cr I hg2 aW boot_reversed (zBD (AX (ha gU pins s σ H _ I h) fun us s1 ⟨vs,H1,I1,r1,q1⟩=>?_) jc rfl))
 obtain⟨l,xs,rfl,hq,q⟩:=q1
 obtain⟨u,rfl,ru⟩:=Ci r1
 cases ru
 obtain⟨its,rv,pl,hz⟩:=I1.list hq
 have ag:=rv.length
 refine call_reversed_list pl.isList (Calls.spliced_nil ?_)
 have hl:l<s1.heap.objs.size:=let ⟨o,ho,_⟩:=pl.isList;zAB ho
 have e0:(its.toArray.size:Int)-1=(its.toArray.size:Int)-1-((0:Nat):Int):=by omega
 refine Qq (s:={ s1 with heap:=s1.heap.push (revObj l ((its.toArray.size:Int)-1)) }) (items:=its.toArray) (r:=s1.heap.objs.size) (d:=l) (I1.ok.hd hc) (zAE hl) ⟨zA9 _,⟨_,Heap.get?_push_size _ rfl,rfl,by rw[<-e0];rfl⟩,pl.isList.at fun o e=>Heap.get?_push_of_some _ e⟩ (by rw[zAG,<-ag];exact hz) fun h' tk acc c kk hD hi=>?_
 have esz:(s1.heap.push (revObj l ((its.toArray.size:Int)-1))).objs.size=s1.heap.objs.size+1:=zAU ..
 have hv:Vals xs.reverse acc.toList:=by
  have gS:acc.toList.length=xs.length:=by rw[zAF,hi.1,zAG,ag]
  refine Jv (by simp[gS]) fun i x u hx hu=>?_
  have iP:i<xs.length:=by
   have:=(List.getElem?_eq_some_iff.mp hu).1
   omega
  have h1:=hi.2 i u (by simpa using hu)
  rw[zAG,<-ag] at h1
  rw[List.getElem?_reverse iP] at hx
  obtain⟨u',hu',ru'⟩:=rv.get hx
  have h2:its[xs.length-1-i]? = some u:=by simpa using h1
  rw[h2] at hu'
  cases hu'
  exact ru'
 have lo:s1.heap.objs.size<=(s1.heap.push (revObj l ((its.toArray.size:Int)-1))).objs.size:=by rw[esz];exact zBT _
 refine⟨.ref _,_,I1.laid (t':=tk) (o:=.lst xs.reverse) (fun b o e=>kk b o (zAE (zAB e)) (Heap.get?_push_of_some _ e)) lo ?_,rfl,q _ (I1.hok.fresh lo)⟩
 exact⟨by rw[zCN];exact hz,acc.toList,c,hv,by rw[hD,zC9]⟩
end L2
namespace Toy
open PySem L2 HT2 PyProof.Rows
open PySem.W (clsIn codeIn findIn fnOf isFn keepIn mg_none_of mg_of mroIn nsIn subIn typeIn)
theorem Bt(x:c.kind=.function:=by exact rfl)(y:c.isCoroutine=false:=by exact rfl)(z:c.isGenerator=false:=by exact rfl)(d:N.Nodup:=by decide +kernel)(e:N.take P.length=P:=by exact rfl)(g:∀x∈P,c.names.lookup x=some .local\/c.names.lookup x=some .cell:=by decide +kernel)(h:∀y∈c.names,y.2≠.free:=by decide +kernel):Ao N P c:=⟨x,y,z,d,e,g,h⟩
variable {P:Program}{w:World}{K:PySem.W.Frag}{mg:Str->Option Value}{bz:Heap}{f:Addr}{fd:FuncData}
set_option maxHeartbeats 64000000
def Bu(i:Nat):Stmt:=PySem.Challenge.pw_holdtalk_k32_papers_judged.main.body.getD i (.Pass ⟨0,0,0,0⟩)
abbrev NK:Stmt:=Bu 47
abbrev NU:Stmt:=Bu 57
abbrev IG:Stmt:=Bu 52
structure Bl(mg:Str->Option Value):Prop where
 abs:mg "abs"=none
 len:mg "len"=none
 range:mg "range"=none
def MZ(K:PySem.W.Frag):Sp:=fun vs H Q _=>∃(a:Addr)(ns:List Int)(k:Int),vs=[.ref a,.int k]/\SqL K H a (ns.map V.int)/\ns.length<=63/\0<=k/\k<=1000/\
 ∀(n:Int)(H':Hp),0<=n->Same H H'->Q (.int n) H'
def JJ:Sp:=fun vs H Q _=>∃(n:Int)(most many:Nat),vs=[.int n,.int most,.int many]/\0<=n/\1<=most/\most<=12/\1<=many/\many<=5/\
 ∀(v:V)(t:Tr)(H':Hp),Same H H'->t.At H' v->t.ok many->t.size+1<=2*most->Q v H'
section
theorem scNum:Ao ["_law_script","_law_k","_law_cell","_law_one","_law_two"] ["_law_script","_law_k"] (Ad NK):=Bt
theorem TV:Ao ["_law_n"] ["_law_n"] (Ad NU):=Bt
def Sj:Sp:=fun vs H Q _=>∃(n:Int),vs=[.int n]/\0<=n/\∀(m:Nat)(H':Hp),1<=m->m<=5->Same H H'->Q (.int m) H'
def fews:List Int:=[3,2,3,1,3,2,4,5]
theorem Vn:8<=sizeLine:=by decide
theorem S0(h:i<8):∃m:Nat,1<=m/\m<=5/\(fews.map V.int)[i]? = some (.int m):=by
 match i,h with
 | 0,_=>exact⟨3,by decide,by decide,rfl⟩
 | 1,_=>exact⟨2,by decide,by decide,rfl⟩
 | 2,_=>exact⟨3,by decide,by decide,rfl⟩
 | 3,_=>exact⟨1,by decide,by decide,rfl⟩
 | 4,_=>exact⟨3,by decide,by decide,rfl⟩
 | 5,_=>exact⟨2,by decide,by decide,rfl⟩
 | 6,_=>exact⟨4,by decide,by decide,rfl⟩
 | 7,_=>exact⟨5,by decide,by decide,rfl⟩
theorem ST(F:Fun K "_law_few" "_law_few" NU f fd):FnOk P w K mg bz AH 1 f fd ["_law_n"] Sj:=by
 refine F.ok TV (fun vs H Q E h=>?_) (fun ai A outer s H vs Q E hr h=>?_)
 ·obtain⟨n,rfl,_⟩:=h
  rfl
 obtain⟨n,rfl,h0,q⟩:=h
 refine⟨_,Ae (Ai (AD AK (AI (Aa Ag (Aa Ag (Aa Ag (Aa Ag (Aa Ag (Aa Ag (Aa Ag (Aa Ag Ab))))))))) (Au AO (pv 0) Ag) (fun _ _=>rfl))),?_⟩
 have h1:=zA8 n (show (8:Int)≠0 by decide)
 have h2:=zBB n (show (0:Int)<8 by decide)
 obtain⟨m,m1,m5,hm⟩:=S0 (i:=(n%8).toNat) (by omega)
 have bH:HZ (fews.map V.int) (n%8)=some (.int m):=by
  have e:n%8=(((n%8).toNat:Nat):Int):=by omega
  rw[e]
  exact Aj (j:=(n%8).toNat) hm
 refine⟨Vn,fun l hl=>?_⟩
 refine⟨_,rfl,_,_,rfl,rfl,(by show (0:Int)<8;decide),l,fews.map V.int,_,_,rfl,rfl,SqL.of upd_same,bH,?_⟩
 exact q m _ m1 m5 (Af hl _)
end
section
theorem scSent:Ao ["_law_n","_law_most","_law_many","_law_joints","_law_pile","_law_size","_law_turn","_law_digit","_law_right"] ["_law_n","_law_most","_law_many"] (Ad IG):=Bt
structure PileAt(H1 H2:Hp)(pl:Addr)(xs:List V)(ts:List Tr)(many:Nat):Prop where
 sm:Same H1 H2
 at':H2 pl=some (.lst xs)
 pile:Pile H2 xs ts
 ok:∀t∈ts,t.ok many
theorem PileAt.len(p:PileAt H1 H2 pl xs ts many):xs.length=ts.length:=p.pile.len
theorem PileAt.pop(np:H1 pl=none)(p:PileAt H1 H2 pl xs ts many)(h:0<ts.length):
  ∃y dO t,xs[xs.length-1]? = some y/\ts=dO++[t]/\t.ok many/\t.At (upd H2 pl (.lst xs.dropLast)) y/\PileAt H1 (upd H2 pl (.lst xs.dropLast)) pl xs.dropLast dO many:=by
 obtain⟨gK,y,dO,t,rfl,rfl,q,a⟩:=p.pile.last h
 refine⟨y,dO,t,Fl _ _,rfl,p.ok t (by simp),a.keep (TS.lst p.at'),⟨AJ p.sm np _,upd_same,?_,fun u hu=>p.ok u (by simp[hu])⟩⟩
 rw[zBW]
 exact q.keep (TS.lst p.at')
theorem PileAt.new(p:PileAt H1 H2 pl xs ts many)(he:H2 e=none):PileAt H1 (upd H2 e o) pl xs ts many:=
 ⟨p.sm.trans (Af he _),(Af he _) _ _ p.at',p.pile.keep (TS.new he),p.ok⟩
theorem PileAt.put(np:H1 pl=none)(p:PileAt H1 H2 pl xs ts many)(hc:H2 c=none)(ht:t.ok many)(ha:t.At (upd (upd H2 c (.tup ys)) pl (.lst (xs++[.ref c]))) (.ref c)):PileAt H1 (upd (upd H2 c (.tup ys)) pl (.lst (xs++[.ref c]))) pl (xs++[.ref c]) (ts++[t]) many:=by
 have k:TS H2 (upd (upd H2 c (.tup ys)) pl (.lst (xs++[.ref c]))):=(TS.new hc).trans (TS.lst (xs:=xs) (by rw[Ax (An p.at' hc)];exact p.at'))
 refine⟨AJ (p.sm.trans (Af hc _)) np _,upd_same,(p.pile.keep k).snoc ha,fun u hu=>?_⟩
 rcases List.mem_append.mp hu with z | z
 ·exact p.ok u z
 ·rw[List.mem_singleton.mp z]
  exact ht
theorem JC(hp:H2 pl=some (.lst zs))(hc:H2 c=none):(upd (upd H2 c (.tup ys)) pl (.lst xs)) c=some (.tup ys):=by
 rw[Ax (An hp hc).symm,upd_same]
theorem D0(hp:H2 pl=some (.lst zs))(hc:H2 c=none):TS H2 (upd (upd H2 c (.tup ys)) pl (.lst xs)):=
 (TS.new hc).trans (TS.lst (xs:=zs) (by rw[Ax (An hp hc)];exact hp))
def R9(H1:Hp)(jl pl:Addr)(most many:Nat)(size:Int)(i:Nat):L2.St->Hp->Prop:=fun σ H2=>∃(m:Int)(tv dv rv:Option V)(xs:List V)(ts:List Tr),
 σ=[some (.int m),some (.int most),some (.int many),some (.ref jl),some (.ref pl),some (.int size),tv,dv,rv]/\0<=m/\PileAt H1 H2 pl xs ts many/\sz ts<=i/\ts.length<=i/\(0<i->0<ts.length)
theorem Fd{tv rv:Option V}(np:H1 pl=none)(p:PileAt H1 H3 pl xs ts many)(hc:H3 c=none)(h1:1<=many)(hm:0<=m2)(z1:sz ts<=i)(z2:ts.length<=i):
  R9 H1 jl pl most many size (i+1) [some (.int m2),some (.int most),some (.int many),some (.ref jl),some (.ref pl),some (.int size),tv,some (.int d),rv] (upd (upd H3 c (.tup [.str "let",.int (d%(many:Int))])) pl (.lst (xs++[.ref c]))):=by
 have e1:=zA8 d (show (many:Int)≠0 by omega)
 have e2:=zBB d (show (0:Int)<many by omega)
 have e3:d%(many:Int)=(((d%(many:Int)).toNat:Nat):Int):=by omega
 refine⟨m2,_,_,_,_,ts++[.lt (d%(many:Int)).toNat],rfl,hm,p.put (t:=.lt (d%(many:Int)).toNat) np hc (by show (d%(many:Int)).toNat<many;omega) ⟨c,rfl,?_⟩,?_,?_,?_⟩
 ·rw[JC p.at' hc,<-e3]
 ·rw[BM];show sz ts+1<=i+1;omega
 ·rw[zA];show ts.length+1<=i+1;omega
 ·intro _;rw[zA];exact zBM _
theorem OD{tv dv rv:Option V}(np:H1 pl=none)(p:PileAt H1 H3 pl xs ts many)(hc:H3 c=none)(hm:0<=m2)(ht:t.ok many)(ha:t.At H3 y)(z1:sz (ts++[t])<=i)(z2:(ts++[t]).length<=i):
  R9 H1 jl pl most many size (i+1) [some (.int m2),some (.int most),some (.int many),some (.ref jl),some (.ref pl),some (.int size),tv,dv,rv] (upd (upd H3 c (.tup [.str "not",y])) pl (.lst (xs++[.ref c]))):=by
 rw[BM] at z1
 rw[zA] at z2
 have z2':ts.length+1<=i:=z2
 refine⟨m2,_,_,_,_,ts++[.nt t],rfl,hm,p.put (t:=.nt t) np hc ht ⟨c,y,rfl,JC p.at' hc,ha.keep (D0 p.at' hc)⟩,?_,?_,?_⟩
 ·rw[BM];show sz ts+(t.size+1)<=i+1;omega
 ·rw[zA];show ts.length+1<=i+1;omega
 ·intro _;rw[zA];exact zBM _
theorem Ru{most many i:Nat}{size m2 j:Int}{xs:List V}{ts:List Tr}{tv dv rv:Option V}(np:H1 pl=none)(p:PileAt H1 H3 pl xs ts many)(hc:H3 c=none)(hm:0<=m2)(hj0:0<=j)(hj:j<4)(ht:t.ok many)(hu:u.ok many)(ha:t.At H3 y)(hx:u.At H3 x)(z1:sz (ts++[u]++[t])<=i)(z2:(ts++[u]++[t]).length<=i):
  R9 H1 jl pl most many size (i+1) [some (.int m2),some (.int most),some (.int many),some (.ref jl),some (.ref pl),some (.int size),tv,dv,rv] (upd (upd H3 c (.tup [.str (jn j.toNat),x,y])) pl (.lst (xs++[.ref c]))):=by
 rw[BM,BM] at z1
 rw[zA,zA] at z2
 have z2':ts.length+1+1<=i:=z2
 refine⟨m2,_,_,_,_,ts++[.bn j.toNat u t],rfl,hm,p.put (t:=.bn j.toNat u t) np hc ⟨by omega,hu,ht⟩ ⟨c,x,y,rfl,JC p.at' hc,hx.keep (D0 p.at' hc),ha.keep (D0 p.at' hc)⟩,?_,?_,?_⟩
 ·rw[BM];show sz ts+(u.size+t.size+1)<=i+1;omega
 ·rw[zA];show ts.length+1<=i+1;omega
 ·intro _;rw[zA];exact zBM _
theorem UR(h:sz ([]++[t])+([]++[t]:List Tr).length<=2*most):t.size+1<=2*most:=by
 rw[BM] at h
 have h':0+t.size+1<=2*most:=h
 omega
def SZ(H1:Hp)(jl pl:Addr)(most many:Nat)(size:Int)(k:Nat):L2.St->Hp->Prop:=fun σ H2=>∃(m:Int)(tv dv rv:Option V)(xs:List V)(ts:List Tr),
 σ=[some (.int m),some (.int most),some (.int many),some (.ref jl),some (.ref pl),some (.int size),tv,dv,rv]/\0<=m/\PileAt H1 H2 pl xs ts many/\sz ts+ts.length<=2*most/\ts.length=k/\0<k
theorem SB{most many k:Nat}{size m2 j:Int}{xs:List V}{ts:List Tr}{tv dv rv:Option V}(np:H1 pl=none)(p:PileAt H1 H3 pl xs ts many)(hc:H3 c=none)(hm:0<=m2)(hj0:0<=j)(hj:j<4)(ht:t.ok many)(hu:u.ok many)(ha:t.At H3 y)(hx:u.At H3 x)(z1:sz (ts++[u]++[t])+(ts++[u]++[t]).length<=2*most)(z2:(ts++[u]++[t]).length=k):
  ∃k',k'<k/\SZ H1 jl pl most many size k' [some (.int m2),some (.int most),some (.int many),some (.ref jl),some (.ref pl),some (.int size),tv,dv,rv] (upd (upd H3 c (.tup [.str (jn j.toNat),x,y])) pl (.lst (xs++[.ref c]))):=by
 rw[BM,BM,zA,zA] at z1
 rw[zA,zA] at z2
 have z2':ts.length+1+1=k:=z2
 have z1':sz ts+u.size+t.size+(ts.length+1+1)<=2*most:=z1
 refine⟨ts.length+1,by omega,m2,_,_,_,_,ts++[.bn j.toNat u t],rfl,hm,p.put (t:=.bn j.toNat u t) np hc ⟨by omega,hu,ht⟩ ⟨c,x,y,rfl,JC p.at' hc,hx.keep (D0 p.at' hc),ha.keep (D0 p.at' hc)⟩,?_,?_,zBM _⟩
 ·rw[BM,zA];show sz ts+(u.size+t.size+1)+(ts.length+1)<=2*most;omega
 ·rw[zA];rfl
theorem RA(F:Fun K "_law_sentence" "_law_sentence" IG f fd)(B:Bl mg):FnOk P w K mg bz AH 1 f fd ["_law_n","_law_most","_law_many"] JJ:=by
 refine F.ok scSent (fun vs H Q E h=>?_) (fun ai A outer s H vs Q E hr h=>?_)
 ·obtain⟨n,most,many,rfl,_⟩:=h
  rfl
 obtain⟨n,most,many,rfl,h0,cu,aW,eh,hy2,q⟩:=h
 refine⟨_,Ac (Ar (i:=3) scSent.nd rfl (Or.inl rfl) (AI (Aa Av (Aa Av (Aa Av (Aa Av Ab))))))
  (Ac (Ar (i:=4) scSent.nd rfl (Or.inl rfl) (AI Ab))
  (Ac (Ar (i:=5) scSent.nd rfl (Or.inl rfl) (Au Ch Ag (Au AO (pv 0) (pv 1))))
  (Ac (Ar (i:=0) scSent.nd rfl (Or.inl rfl) (Au AY (pv 0) (pv 1)))
  (Ac (Bz zAW rfl (ED (by rfl) B.range (Aa (pv 5) Ab)) (AC (i:=6) scSent.nd rfl (Or.inl rfl))
   (Ac (Ar (i:=7) scSent.nd rfl (Or.inl rfl) (Au AO (pv 0) Ag))
   (Ac (Ar (i:=0) scSent.nd rfl (Or.inl rfl) (Au AY (pv 0) Ag))
   (Ae (AB (HG (Al AQ (pv 7) Ag (As _)) (EZ (Al (LO hr.units0) (pv 4) (AI Ab) (As _)))).pt
    (Ae (AW (B1 zAD zAK zAL A4 (pv 4) (Aa (Bc (Aa Av (Aa (Cl zAD zBE zBF Dv (pv 4)) Ab))) Ab))))
    (Ae (AB (HG (Al Fo (pv 7) Ag (As _)) (EZ (Al Fo (Az Ay (by rfl) B.len PySem.boot_len (Aa (pv 4) Ab)) Ag (As _)))).pt
     (Ac (Ar (i:=8) scSent.nd rfl (Or.inl rfl) (Cl zAD zBE zBF Dv (pv 4)))
     (Ae (AW (B1 zAD zAK zAL A4 (pv 4) (Aa (Bc (Aa (AD AK (pv 3) (Au DG (pv 7) Ag) (fun _ _=>rfl)) (Aa (Cl zAD zBE zBF Dv (pv 4)) (Aa (pv 8) Ab)))) Ab)))))
     (Ae (AW (B1 zAD zAK zAL A4 (pv 4) (Aa (Bc (Aa Av (Aa (Au AO (pv 7) (pv 2)) Ab))) Ab)))))))))))
  (Ac (HM zAW (Al Fo (Az Ay (by rfl) B.len PySem.boot_len (Aa (pv 4) Ab)) Ag (As _))
   (Ac (Ar (i:=8) scSent.nd rfl (Or.inl rfl) (Cl zAD zBE zBF Dv (pv 4)))
   (Ac (AW (B1 zAD zAK zAL A4 (pv 4) (Aa (Bc (Aa (AD AK (pv 3) (Au AO (pv 0) Ag) (fun _ _=>rfl)) (Aa (Cl zAD zBE zBF Dv (pv 4)) (Aa (pv 8) Ab)))) Ab)))
   (Ae (Ar (i:=0) scSent.nd rfl (Or.inl rfl) (Au AY (pv 0) Ag))))))
  (Ae (Ai (AD AK (pv 4) Ag (fun _ _=>rfl))))))))),?_⟩
 refine⟨Tn,fun jl hjl=>⟨J1,fun pl ar=>?_⟩⟩
 have sJ:Same H (upd H jl (.lst Dx)):=Af hjl _
 have nJ:jl≠pl:=An (upd_same (H:=H) (a:=jl) (o:=.lst Dx)) ar
 refine⟨_,rfl,_,rfl,_,_,rfl,rfl,(by omega),_,_,rfl,rfl,_,rfl,_,rfl,_,_,rfl,rfl,⟨by omega,by omega⟩,?_⟩
 have hsz0:=zA8 n (show (most:Int)≠0 by omega)
 have hsz1:=zBB n (show (0:Int)<most by omega)
 have hn0:0<=n / (most:Int):=zDA h0 (by omega)
 have hs1:1<=1+n%(most:Int):=by omega
 have jc:1+n%(most:Int)<=most:=by omega
 refine⟨_,rfl,_,rfl,(by omega),(by omega),Db (n:=(1+n%(most:Int)).toNat) (R9 (upd H jl (.lst Dx)) jl pl most many (1+n%(most:Int))) ?_ ?_ ?_⟩
 ·exact⟨_,none,none,none,[],[],rfl,hn0,⟨Af ar _,upd_same,.nil,fun t ht=>absurd ht (by simp)⟩,zAA _,zAA _,fun z=>z⟩
 ·rintro i σ H2 hi ⟨m,tv,dv,rv,xs,ts,rfl,hm,p,z1,z2,z3⟩
  have ag:=p.len
  have de:i<12:=by omega
  have aW:0<=m / 10:=by omega
  have hd0:0<=m%10:=by omega
  have cb:m%10<10:=by omega
  have dn:∀{k:Nat},k<=12->k<sizeLine:=fun h=>AG (zAH h (by decide))
  refine⟨_,rfl,_,_,rfl,rfl,(by show (0:Int)<10;decide),_,rfl,_,_,rfl,rfl,⟨by decide,by decide⟩,?_⟩
  refine⟨_,rfl,rfl,_,rfl,?_⟩
  refine B9 (fun c1=>?_) (fun c1=>?_)
  ·refine⟨_,rfl,J1,fun e he=>?_⟩
   have p3:PileAt (upd H jl (.lst Dx)) (upd H2 e (.lst [])) pl xs ts many:=p.new he
   refine⟨pl,e,xs,rfl,rfl,SqL.of p3.at',SqL.of upd_same,_,rfl,?_⟩
   refine B9 (fun c2=>?_) (fun c2=>?_)
   ·have fw:0<ts.length:=by
     cases xs with
     | nil=>exact absurd c2 (by decide)
     | cons x r=>rw[<-ag];exact zBM _
    obtain⟨y,dO,t,ey,rfl,okt,ha,p4⟩:=p3.pop ar fw
    have hl4:=p4.len
    rw[zA] at z2
    have z2':dO.length+1<=i:=z2
    refine⟨_,rfl,.inl ⟨rfl,_,SqL.of p3.at'⟩,_,rfl,.inl ⟨rfl,_,SqL.of p3.at'⟩,pl,_,y,rfl,rfl,p3.at',ey,Ig,fun c hc=>⟨pl,_,_,rfl,rfl,(Af hc _) _ _ p4.at',dn (by omega),?_⟩⟩
    exact OD ar p4 hc aW okt ha z1 (by rw[zA];exact z2)
   ·
    refine⟨_,rfl,_,_,rfl,rfl,_,rfl,?_⟩
    refine B9 (fun c3=>?_) (fun c3=>?_)
    ·refine⟨_,rfl,pl,xs,rfl,.inl (SqL.of p3.at'),_,_,rfl,rfl,_,rfl,?_⟩
     refine B9 (fun c4=>?_) (fun c4=>?_)
     ·exfalso
      have:xs=[]:=by
       cases xs with
       | nil=>rfl
       | cons x r=>exact absurd rfl c2
      subst this
      exact absurd c4 (by decide)
     ·refine⟨_,rfl,.inl ⟨rfl,_,SqL.of p3.at'⟩,_,rfl,_,rfl,_,_,rfl,rfl,(by omega),Ig,fun c hc=>⟨pl,_,_,rfl,rfl,(Af hc _) _ _ p3.at',dn (by omega),?_⟩⟩
      exact Fd ar p3 hc eh aW z1 z2
    ·refine A7 ?_
     refine⟨_,rfl,.inl ⟨rfl,_,SqL.of p3.at'⟩,_,rfl,_,rfl,_,_,rfl,rfl,(by omega),Ig,fun c hc=>⟨pl,_,_,rfl,rfl,(Af hc _) _ _ p3.at',dn (by omega),?_⟩⟩
     exact Fd ar p3 hc eh aW z1 z2
  ·refine A7 ?_
   refine⟨_,rfl,_,_,rfl,rfl,_,rfl,?_⟩
   refine B9 (fun c3=>?_) (fun c3=>?_)
   ·have c3':(5:Int)<m%10:=of_decide_eq_true c3
    refine⟨_,rfl,pl,xs,rfl,.inl (SqL.of p.at'),_,_,rfl,rfl,_,rfl,?_⟩
    refine B9 (fun c4=>?_) (fun c4=>?_)
    ·have c4':(1:Int)<(xs.length:Nat):=of_decide_eq_true c4
     obtain⟨y,dO,t,ey,rfl,okt,ha,p4⟩:=p.pop ar (by omega)
     rw[zA] at ag
     have hlen':xs.length=dO.length+1:=ag
     obtain⟨x,ts2,u,ex,rfl,oku,hax,p5⟩:=p4.pop ar (by omega)
     have hl5:=p5.len
     rw[zA,zA] at z2
     have z2':ts2.length+1+1<=i:=z2
     refine⟨_,rfl,.inl ⟨rfl,_,SqL.of p.at'⟩,pl,_,y,rfl,rfl,p.at',ey,?_⟩
     refine⟨_,rfl,.inl ⟨rfl,_,SqL.of p4.at'⟩,_,rfl,_,rfl,_,_,rfl,rfl,jl,Dx,_,_,rfl,rfl,SqL.of (p4.sm _ _ upd_same),KS (by omega) (by omega),_,rfl,.inl ⟨rfl,_,SqL.of p4.at'⟩,pl,_,x,rfl,rfl,p4.at',ex,_,rfl,K9,fun c hc=>⟨pl,_,_,rfl,rfl,(Af hc _) _ _ p5.at',dn (by omega),?_⟩⟩
     exact Ru ar p5 hc aW (by omega) (by omega) okt oku (ha.keep (TS.lst p4.at')) hax z1 (by rw[zA,zA];exact z2)
    ·refine⟨_,rfl,.inl ⟨rfl,_,SqL.of p.at'⟩,_,rfl,_,rfl,_,_,rfl,rfl,(by omega),Ig,fun c hc=>⟨pl,_,_,rfl,rfl,(Af hc _) _ _ p.at',dn (by omega),?_⟩⟩
     exact Fd ar p hc eh aW z1 z2
   ·refine A7 ?_
    refine⟨_,rfl,.inl ⟨rfl,_,SqL.of p.at'⟩,_,rfl,_,rfl,_,_,rfl,rfl,(by omega),Ig,fun c hc=>⟨pl,_,_,rfl,rfl,(Af hc _) _ _ p.at',dn (by omega),?_⟩⟩
    exact Fd ar p hc eh aW z1 z2
 ·rintro σ H2 ⟨m,tv,dv,rv,xs,ts,rfl,hm,p,z1,z2,z3⟩
  have z3':=z3 (by omega)
  refine⟨SZ (upd H jl (.lst Dx)) jl pl most many (1+n%(most:Int)),⟨ts.length,m,tv,dv,rv,xs,ts,rfl,hm,p,by omega,rfl,z3'⟩,?_⟩
  rintro k σ H3 ⟨m,tv,dv,rv,xs,ts,rfl,hm,p,z1,z2,z3⟩
  have ag:=p.len
  have aW:0<=m / 4:=by omega
  have dn:∀{k:Nat},k<=24->k<sizeLine:=fun h=>AG (zAH h (by decide))
  refine⟨_,rfl,pl,xs,rfl,.inl (SqL.of p.at'),_,_,rfl,rfl,_,rfl,?_⟩
  refine B9 (fun c4=>?_) (fun c4=>?_)
  ·have c4':(1:Int)<(xs.length:Nat):=of_decide_eq_true c4
   refine⟨fun σ' H'=>∃k',k'<k/\SZ (upd H jl (.lst Dx)) jl pl most many (1+n%(most:Int)) k' σ' H',fun _ _ h=>h,?_⟩
   obtain⟨y,dO,t,ey,rfl,okt,ha,p4⟩:=p.pop ar (by omega)
   rw[zA] at ag
   have hlen':xs.length=dO.length+1:=ag
   obtain⟨x,ts2,u,ex,rfl,oku,hax,p5⟩:=p4.pop ar (by omega)
   have hl5:=p5.len
   have z2':ts2.length+1+1=k:=by
    rw[zA,zA] at z2
    exact z2
   refine⟨_,rfl,.inl ⟨rfl,_,SqL.of p.at'⟩,pl,_,y,rfl,rfl,p.at',ey,?_⟩
   refine⟨_,rfl,.inl ⟨rfl,_,SqL.of p4.at'⟩,_,rfl,_,rfl,_,_,rfl,rfl,(by show (0:Int)<4;decide),jl,Dx,_,_,rfl,rfl,SqL.of (p4.sm _ _ upd_same),KS (by omega) (by omega),_,rfl,.inl ⟨rfl,_,SqL.of p4.at'⟩,pl,_,x,rfl,rfl,p4.at',ex,_,rfl,K9,fun c hc=>⟨pl,_,_,rfl,rfl,(Af hc _) _ _ p5.at',dn (by omega),?_⟩⟩
   refine⟨_,rfl,_,_,rfl,rfl,⟨by decide,by decide⟩,?_⟩
   exact SB ar p5 hc aW (by omega) (by omega) okt oku (ha.keep (TS.lst p4.at')) hax z1 z2
  ·have c4':¬(1:Int)<(xs.length:Nat):=of_decide_eq_false (Bool.eq_false_iff.mpr c4)
   obtain⟨gK,y,dO,t,rfl,rfl,q1,a⟩:=p.pile.last (by omega)
   rw[zA] at c4'
   have e0:gK=[]:=by
    have c5:¬(1:Int)<((gK.length+1:Nat):Int):=c4'
    exact List.length_eq_zero_iff.mp (by omega)
   subst e0
   cases q1
   refine⟨_,rfl,pl,_,_,y,rfl,rfl,SqL.of p.at',Aj (j:=0) rfl,?_⟩
   exact q y t _ (sJ.trans p.sm) a (p.ok t (by simp)) (UR z1)
end
theorem JU:¬(V.str (jn j)=V.str "let"):=by
 match j with
 | 0=>decide
 | 1=>decide
 | 2=>decide
 | _+3=>show ¬(V.str "same"=V.str "let");decide
theorem Oy:¬(V.str (jn j)=V.str "not"):=by
 match j with
 | 0=>decide
 | 1=>decide
 | 2=>decide
 | _+3=>show ¬(V.str "same"=V.str "not");decide
theorem Bd{c A B:Prop}[Decidable c](h:c)(a:A):if decide c=true then A else B:=by
 rw[decide_eq_true h,if_pos rfl]
 exact a
theorem A6{c A B:Prop}[Decidable c](h:¬c)(b:B):if decide c=true then A else B:=by
 rw[decide_eq_false h,if_neg zAC]
 exact b
structure AL(K:PySem.W.Frag)(mg:Str->Option Value)(x:Str)(f:Addr)(fd:FuncData)(ps:List Str):Prop where
 m:mg x=some (.ref f)
 k:keepIn K (.ref f)=true
 b:Binds K fd ps []
def La:Tr->List Tr
 | .lt _=>[]
 | .nt t=>[t]
 | .bn _ a b=>[a,b]
def B0(ts:List Tr):List Tr:=ts.flatMap La
theorem KF(a b:List Tr):B0 (a++b)=B0 a++B0 b:=by
 unfold B0
 rw[List.flatMap_append]
theorem KR(t:Tr):B0 [t]=La t:=by
 unfold B0
 simp
theorem FN{ts:List Tr}{i:Nat}(h:ts[i]? = some t):B0 (ts.take (i+1))=B0 (ts.take i)++La t:=by
 rw[zAT,h,KF]
 congr 1
 exact KR t
theorem P9(a b:List Tr):sz (a++b)=sz a+sz b:=by
 unfold sz
 rw[zAM,zC6]
theorem Pk:∀t:Tr,sz (La t)+1=t.size
 | .lt _=>rfl
 | .nt t=>by
  have:sz [t]=t.size:=by unfold sz;simp
  show sz [t]+1=t.size+1
  rw[this]
 | .bn _ a b=>by
  have:sz [a,b]=a.size+b.size:=by unfold sz;simp
  show sz [a,b]+1=a.size+b.size+1
  rw[this]
theorem Jw(t:Tr)(r:List Tr):sz (t::r)=t.size+sz r:=by
 unfold sz
 rw[zBL,zDN]
theorem MM(ts:List Tr):sz (B0 ts)+ts.length=sz ts:=by
 induction ts with
 | nil=>rfl
 | cons t r ih=>
  have h:=Pk t
  rw[Jw]
  show sz (La t++B0 r)+(r.length+1)=_
  rw[P9]
  omega
theorem JP(ts:List Tr):ts.length<=sz ts:=by
 induction ts with
 | nil=>exact zAA _
 | cons t r ih=>
  have h:=t.size_pos
  rw[Jw]
  show r.length+1<=_
  omega
theorem Kl(h:ts[i]? = some t):(B0 (ts.take i)++(La t).take j).length<=sz ts:=by
 have e1:ts=ts.take (i+1)++ts.drop (i+1):=(zB8 _ _).symm
 have h1:(B0 (ts.take (i+1))).length<=(B0 ts).length:=by
  have h2:(B0 ts).length=(B0 (ts.take (i+1))).length+(B0 (ts.drop (i+1))).length:=by
   rw[<-zA,<-KF,zB8]
  omega
 have h3:=JP (B0 ts)
 have h4:=MM ts
 rw[FN h,zA] at h1
 rw[zA,List.length_take]
 omega
theorem D2{H:Hp}:∀{xs:List V}{ts:List Tr}{i:Nat}{x:V},Pile H xs ts->xs[i]? = some x->∃t,ts[i]? = some t/\Tr.At H t x
 | _,_,_,_,.nil,e=>by simp at e
 | _,_,0,_,.cons r _,e=>by
  simp at e
  subst e
  exact⟨_,rfl,r⟩
 | _,_,i+1,x,.cons _ q,e=>by
  obtain⟨t,h1,h2⟩:=D2 (i:=i) q (by simpa using e)
  exact⟨t,by simpa using h1,h2⟩
theorem Sr(h:t.At H v):∃p z cs,v= .ref p/\H p=some (.tup (z::cs))/\((z= .str "let"/\La t=[])\/(¬(z= .str "let")/\(∃x,z= .str x)/\Pile H cs (La t)/\0<cs.length/\cs.length<=2)):=by
 cases t with
 | lt k=>
  obtain⟨p,e,hp⟩:=h
  exact⟨p,_,_,e,hp,.inl ⟨rfl,rfl⟩⟩
 | nt t=>
  obtain⟨p,u,e,hp,ha⟩:=h
  exact⟨p,_,_,e,hp,.inr ⟨by decide,⟨_,rfl⟩,.cons ha .nil,zBM _,by show 1<=2;decide⟩⟩
 | bn j a b=>
  obtain⟨p,x,y,e,hp,ha,hb⟩:=h
  exact⟨p,_,_,e,hp,.inr ⟨JU,⟨_,rfl⟩,.cons ha (.cons hb .nil),zBM _,zAA _⟩⟩
theorem TB(z:V)(cs:List V):DX (z::cs) (some 1) none=cs:=by
 unfold DX
 have e1:HT.sIx (z::cs).length 0 (some 1)=1:=by
  have:=HT.sIx_nat (z::cs).length 0 1
  show HT.sIx (z::cs).length 0 (some ((1:Nat):Int))=1
  rw[this,zAI]
  omega
 rw[e1,HT.sIx_none]
 show ((z::cs).drop 1).take (cs.length+1-1)=cs
 simp
theorem QJ{cs:List V}:¬(HT.sIx (z::cs).length 0 (some 1)=0/\HT.sIx (z::cs).length (z::cs).length none=(z::cs).length):=by
 rintro⟨h,_⟩
 have:=HT.sIx_nat (z::cs).length 0 1
 rw[show (some (1:Int))=some ((1:Nat):Int) from rfl,this,zAI] at h
 omega
theorem MG{c A B:Prop}[Decidable c](hc:¬c)(h:A):if (!decide c)=true then A else B:=by
 rw[decide_eq_false hc]
 exact Bh h
def K3(k:Nat)(w:Int):Bool:=decide (w / 2^k%2=1)
def jv:Nat->Bool->Bool->Bool
 | 0,a,b=>a && b
 | 1,a,b=>a || b
 | 2,a,b=>!a || b
 | _,a,b=>decide (a=b)
def tv:Tr->Int->Bool
 | .lt k,w=>K3 k w
 | .nt t,w=>!tv t w
 | .bn j a b,w=>jv j (tv a w) (tv b w)
def Tg:List V:=[.int 1,.int 2,.int 4,.int 8,.int 16]
theorem Td(h:k<5):HZ Tg ((k:Nat):Int)=some (.int (2^k)):=by
 refine Aj ?_
 match k,h with
 | 0,_=>rfl
 | 1,_=>rfl
 | 2,_=>rfl
 | 3,_=>rfl
 | 4,_=>rfl
theorem pow_pos(k:Nat):(0:Int)<2^k:=Int.pow_pos (by decide)
theorem SS(h:k<5):(2:Int)^k<1073741824:=by
 match k,h with
 | 0,_=>decide
 | 1,_=>decide
 | 2,_=>decide
 | 3,_=>decide
 | 4,_=>decide
theorem Qn(k:Nat)(w:Int):decide (V.int (w / 2^k%2)=V.int 1)=K3 k w:=by
 unfold K3
 rw[zA6,decide_eq_true_eq,decide_eq_true_eq]
 exact⟨fun h=>by injection h,fun h=>by rw[h]⟩
theorem Se(a b:Bool):decide (V.bl a=V.bl b)=decide (a=b):=by cases a<;>cases b<;>rfl
theorem Vd(h:V.str (jn j)=V.str "and"):j=0:=by
 match j with
 | 0=>rfl
 | 1=>exact absurd h (by decide)
 | 2=>exact absurd h (by decide)
 | _+3=>exact absurd (show V.str "same"=V.str "and" from h) (by decide)
theorem Va(h:V.str (jn j)=V.str "or"):j=1:=by
 match j with
 | 0=>exact absurd h (by decide)
 | 1=>rfl
 | 2=>exact absurd h (by decide)
 | _+3=>exact absurd (show V.str "same"=V.str "or" from h) (by decide)
theorem Vf(h:V.str (jn j)=V.str "if"):j=2:=by
 match j with
 | 0=>exact absurd h (by decide)
 | 1=>exact absurd h (by decide)
 | 2=>rfl
 | _+3=>exact absurd (show V.str "same"=V.str "if" from h) (by decide)
theorem Vh(h0:¬V.str (jn j)=V.str "and")(h1:¬V.str (jn j)=V.str "or")(h2:¬V.str (jn j)=V.str "if")(a b:Bool):jv j a b=decide (a=b):=by
 match j with
 | 0=>exact absurd rfl h0
 | 1=>exact absurd rfl h1
 | 2=>exact absurd rfl h2
 | _+3=>rfl
structure EV(mg:Str->Option Value):Prop where
 isi:mg "isinstance"=none
 int:mg "int"=none
 bool:mg "bool"=none
 str:mg "str"=none
 tup:mg "tuple"=none
 lst:mg "list"=none
 set:mg "set"=none
 sorted:mg "sorted"=none
 rng:mg "range"=none
 any:mg "any"=none
 all:mg "all"=none
theorem AZ:bootBuiltins "list"=some (.type "list"):=by decide +kernel
abbrev AM(H:Hp)(p:Addr)(row:List Int):Prop:=H p=some (.lst (row.map V.int))
abbrev RowsAt(H:Hp):List V->List (List Int)->Prop:=Paired fun(v:V)(row:List Int)=>∃p,v= .ref p/\AM H p row
theorem RowsAt.keep{H H':Hp}(s:Same H H'):∀{xs:List V}{rs:List (List Int)},RowsAt H xs rs->RowsAt H' xs rs
 | _,_,.nil=>.nil
 | _,_,.cons ⟨p,e,h⟩ q=>.cons ⟨p,e,s _ _ h⟩ (RowsAt.keep s q)
theorem RowsAt.get{H:Hp}:∀{xs:List V}{rs:List (List Int)}{i:Nat}{x:V},RowsAt H xs rs->xs[i]? = some x->∃row p,rs[i]? = some row/\x= .ref p/\AM H p row
 | _,_,_,_,.nil,e=>by simp at e
 | _,_,0,_,.cons ⟨p,e1,h⟩ _,e=>by
  simp at e
  subst e
  exact⟨_,p,rfl,e1,h⟩
 | _,_,i+1,x,.cons _ q,e=>by
  obtain⟨row,p,h1,h2⟩:=RowsAt.get (i:=i) q (by simpa using e)
  exact⟨row,p,by simpa using h1,h2⟩
theorem RowsAt.len(h:RowsAt H xs rs):xs.length=rs.length:=zB4 h
abbrev Dh:Stmt:=Bu 50
def OC:List V:=[.int 2,.int 4,.int 8,.int 16,.int 32]
theorem Rn{m:Nat}(h1:1<=m)(h5:m<=5):HZ OC ((m:Int)-1)=some (.int ((2^m:Nat):Int)):=by
 match m,h1,h5 with
 | 1,_,_=>exact Aj (j:=0) rfl
 | 2,_,_=>exact Aj (j:=1) rfl
 | 3,_,_=>exact Aj (j:=2) rfl
 | 4,_,_=>exact Aj (j:=3) rfl
 | 5,_,_=>exact Aj (j:=4) rfl
theorem LY(h:m<=5):2^m<=32:=Nat.pow_le_pow_right (n:=2) (by decide) h
theorem Ht(n:Nat):(BC n).length=n:=by unfold BC;simp
theorem Rp(n:Nat):(BC n).Pairwise (· < ·):=by
 unfold BC
 rw[List.pairwise_map]
 exact List.pairwise_lt_range.imp fun h=>by omega
theorem mem_upto:k∈BC n↔0<=k/\k<n:=by
 unfold BC
 rw[List.mem_map]
 constructor
 ·rintro⟨a,ha,rfl⟩
  have:=List.mem_range.mp ha
  omega
 ·rintro⟨h0,h1⟩
  exact⟨k.toNat,List.mem_range.mpr (by omega),by omega⟩
def Kp:Sp:=fun vs H Q _=>∃(m:Nat),vs=[.int (m:Int)]/\1<=m/\m<=5/\∀(l:Addr)(H':Hp),Same H H'->H l=none->AM H' l (BC (2^m))->Q (.ref l) H'
section
theorem N6:Ao ["_law_many"] ["_law_many"] (Ad Dh):=Bt
theorem L4(F:Fun K "_law_worlds" "_law_worlds" Dh f fd)(T:EV mg):FnOk P w K mg bz AH 1 f fd ["_law_many"] Kp:=by
 refine F.ok N6 (fun vs H Q E h=>?_) (fun ai A outer s H vs Q E hr h=>?_)
 ·obtain⟨m,rfl,_⟩:=h
  rfl
 obtain⟨m,rfl,h1,h5,q⟩:=h
 refine⟨_,Ae (Ai (AF (Du rfl) (by rfl) T.lst AZ (Aa (AF CU (by rfl) T.rng boot_range (Aa (AD AK (AI (Aa Ag (Aa Ag (Aa Ag (Aa Ag (Aa Ag Ab)))))) (Au DG (pv 0) Ag) (fun _ _=>rfl)) Ab)) Ab))),?_⟩
 refine⟨Vc,fun l hl=>?_⟩
 have s1:=Af hl (.lst OC)
 refine⟨_,rfl,_,_,rfl,rfl,l,OC,_,_,rfl,rfl,SqL.of upd_same,Rn h1 h5,_,rfl,fun r aE=>?_⟩
 have s2:=Af aE (.rng 0 ((2^m:Nat):Int))
 refine⟨r,2^m,rfl,upd_same,zAH (LY h5) (by decide),fun l2 aC=>?_⟩
 have s3:=Af aC (.lst ((BC (2^m)).map V.int))
 exact q l2 _ (s1.trans (s2.trans s3)) ((s1.trans s2).free aC) upd_same
end
abbrev EL:Stmt:=Bu 53
def D7(n:Nat):Sp:=fun vs H Q _=>∃(v:V)(t:Tr)(w:Int),vs=[v,.int w]/\t.At H v/\t.ok 5/\t.size<=n/\∀(H':Hp),Same H H'->Q (.bl (tv t w)) H'
section
theorem scLtrue:Ao ["_law_sentence_here","_law_world","_law_left_here","_law_right"] ["_law_sentence_here","_law_world"] (Ad EL):=Bt
theorem Qx(F:Fun K "_law_true" "_law_true" EL f fd)(G:FnOk P w K mg bz AH n f fd ["_law_sentence_here","_law_world"] (D7 n))(C:AL K mg "_law_true" f fd ["_law_sentence_here","_law_world"]):FnOk P w K mg bz AH (n+1) f fd ["_law_sentence_here","_law_world"] (D7 (n+1)):=by
 refine F.ok scLtrue (fun vs H Q E h=>?_) (fun ai A outer s H vs Q E hr h=>?_)
 ·obtain⟨v,t,k,rfl,_⟩:=h
  rfl
 obtain⟨v,t,k,rfl,ha,hok,hs,q⟩:=h
 refine⟨_,Ac (AB (Al AQ (AD AN (pv 0) Ag (fun _ _=>rfl)) Av (As _))
   (Ae (Ai (Bo AQ (Au AO (Au AY (pv 1) (AD AK (AI (Aa Ag (Aa Ag (Aa Ag (Aa Ag (Aa Ag Ab)))))) (AD AN (pv 0) Ag (fun _ _=>rfl)) (fun _ _=>rfl))) Ag) Ag (As _))))
   Ap)
  (Ac (AB (Al AQ (AD AN (pv 0) Ag (fun _ _=>rfl)) Av (As _))
   (Ae (Ai (Hu (Ah G hr (by rfl) C.m C.k C.b .nil Ak (Aa (AD AN (pv 0) Ag (fun _ _=>rfl)) (Aa (pv 1) Ab))))))
   Ap)
  (Ac (Ar (i:=2) scLtrue.nd rfl (Or.inl rfl) (Ah G hr (by rfl) C.m C.k C.b .nil Ak (Aa (AD AN (pv 0) Ag (fun _ _=>rfl)) (Aa (pv 1) Ab))))
  (Ac (Ar (i:=3) scLtrue.nd rfl (Or.inl rfl) (Ah G hr (by rfl) C.m C.k C.b .nil Ak (Aa (AD AN (pv 0) Ag (fun _ _=>rfl)) (Aa (pv 1) Ab))))
  (Ac (AB (Al AQ (AD AN (pv 0) Ag (fun _ _=>rfl)) Av (As _))
   (Ae (Ai (HJ (pv 2) (DB (pv 3)))))
   Ap)
  (Ac (AB (Al AQ (AD AN (pv 0) Ag (fun _ _=>rfl)) Av (As _))
   (Ae (Ai (Mv (pv 2) (DB (pv 3)))))
   Ap)
  (Ac (AB (Al AQ (AD AN (pv 0) Ag (fun _ _=>rfl)) Av (As _))
   (Ae (Ai (Mv (Hu (pv 2)) (DB (pv 3)))))
   Ap)
  (Ae (Ai (Bo AQ (pv 2) (pv 3) (As _)))))))))),?_⟩
 cases t with
 | lt j=>
  obtain⟨p,rfl,hp⟩:=ha
  refine⟨_,rfl,p,_,_,_,rfl,rfl,SqT.of hp,Aj (j:=0) rfl,rfl,_,rfl,?_⟩
  refine Bd rfl ?_
  refine⟨_,rfl,Vc,fun l hl=>?_⟩
  have s1:=Af hl (.lst Tg)
  refine⟨_,rfl,p,_,_,_,rfl,rfl,SqT.of (s1 _ _ hp),Aj (j:=1) rfl,l,Tg,_,_,rfl,rfl,SqL.of upd_same,Td hok,_,_,rfl,rfl,⟨pow_pos j,SS hok⟩,_,_,rfl,rfl,(by show (0:Int)<2;decide),rfl,?_⟩
  have:=q _ s1
  rw[show tv (.lt j) k=K3 j k from rfl,<-Qn] at this
  exact this
 | nt t=>
  obtain⟨p,u,rfl,hp,hu⟩:=ha
  have hs':t.size+1<=n+1:=hs
  refine⟨_,rfl,p,_,_,_,rfl,rfl,SqT.of hp,Aj (j:=0) rfl,rfl,_,rfl,?_⟩
  refine A6 (by decide) ?_
  refine⟨_,rfl,p,_,_,_,rfl,rfl,SqT.of hp,Aj (j:=0) rfl,rfl,_,rfl,?_⟩
  refine Bd rfl ?_
  exact⟨_,rfl,p,_,_,_,rfl,rfl,SqT.of hp,Aj (j:=1) rfl,_,rfl,u,t,k,rfl,hu,hok,by omega,fun H' s'=>⟨_,rfl,q H' s'⟩⟩
 | bn j a b=>
  obtain⟨p,x,y,rfl,hp,hx,hy⟩:=ha
  have hs':a.size+b.size+1<=n+1:=hs
  obtain⟨hj,oa,ob⟩:=hok
  refine⟨_,rfl,p,_,_,_,rfl,rfl,SqT.of hp,Aj (j:=0) rfl,rfl,_,rfl,?_⟩
  refine A6 JU ?_
  refine⟨_,rfl,p,_,_,_,rfl,rfl,SqT.of hp,Aj (j:=0) rfl,rfl,_,rfl,?_⟩
  refine A6 Oy ?_
  refine⟨_,rfl,p,_,_,_,rfl,rfl,SqT.of hp,Aj (j:=1) rfl,_,rfl,x,a,k,rfl,hx,oa,by omega,fun H1 s1=>?_⟩
  refine⟨_,rfl,p,_,_,_,rfl,rfl,SqT.of (s1 _ _ hp),Aj (j:=2) rfl,_,rfl,y,b,k,rfl,hy.keep (TS.same s1),ob,by omega,fun H2 s2=>?_⟩
  have cf:=s2 _ _ (s1 _ _ hp)
  have q2:=q H2 (s1.trans s2)
  have etv:tv (.bn j a b) k=jv j (tv a k) (tv b k):=rfl
  rw[etv] at q2
  generalize tv a k=va at q2
  generalize tv b k=vb at q2
  refine⟨_,rfl,p,_,_,_,rfl,rfl,SqT.of cf,Aj (j:=0) rfl,rfl,_,rfl,?_⟩
  by_cases h0:V.str (jn j)=V.str "and"
  ·refine Bd h0 ?_
   obtain rfl:=Vd h0
   cases va with
   | false=>exact⟨_,rfl,_,rfl,A7 q2⟩
   | true=>exact⟨_,rfl,_,rfl,Bh ⟨_,rfl,q2⟩⟩
  refine A6 h0 ?_
  refine⟨_,rfl,p,_,_,_,rfl,rfl,SqT.of cf,Aj (j:=0) rfl,rfl,_,rfl,?_⟩
  by_cases h1:V.str (jn j)=V.str "or"
  ·refine Bd h1 ?_
   obtain rfl:=Va h1
   cases va with
   | false=>exact⟨_,rfl,_,rfl,A7 ⟨_,rfl,q2⟩⟩
   | true=>exact⟨_,rfl,_,rfl,Bh q2⟩
  refine A6 h1 ?_
  refine⟨_,rfl,p,_,_,_,rfl,rfl,SqT.of cf,Aj (j:=0) rfl,rfl,_,rfl,?_⟩
  by_cases h2:V.str (jn j)=V.str "if"
  ·refine Bd h2 ?_
   obtain rfl:=Vf h2
   cases va with
   | false=>exact⟨_,rfl,_,rfl,_,rfl,Bh q2⟩
   | true=>exact⟨_,rfl,_,rfl,_,rfl,A7 ⟨_,rfl,q2⟩⟩
  refine A6 h2 ?_
  rw[Vh h0 h1 h2] at q2
  refine⟨_,rfl,_,rfl,rfl,?_⟩
  rw[Se]
  exact q2
theorem SR:FnOk P w K mg bz AH 0 f fd ["_law_sentence_here","_law_world"] (D7 0):=by
 have no:∀vs H Q E,¬D7 0 vs H Q E:=fun vs H Q E h=>by
  obtain⟨v,t,k,_,_,_,h1,_⟩:=h
  have:=t.size_pos
  omega
 exact⟨fun vs H Q E h=>absurd h (no vs H Q E),fun A outer s H args us vs Q E _ _ _ _ h=>absurd h (no vs H Q E)⟩
theorem IR(F:Fun K "_law_true" "_law_true" EL f fd)(C:AL K mg "_law_true" f fd ["_law_sentence_here","_law_world"]):∀n:Nat,FnOk P w K mg bz AH n f fd ["_law_sentence_here","_law_world"] (D7 n)
 | 0=>SR
 | n+1=>Qx F (IR F C n) C
end
abbrev Iu:Stmt:=Bu 54
def Fm(K:PySem.W.Frag)(b:Bool):Sp:=fun vs H Q _=>∃(v:V)(t:Tr)(r:Addr)(row:List Int),vs=[v,.ref r]/\t.At H v/\t.ok 5/\t.size<=60/\SqL K H r (row.map V.int)/\row.length<=900/\∀(l:Addr)(H':Hp),Same H H'->H l=none->AM H' l (row.filter fun k=>tv t k == b)->Q (.ref l) H'
section
theorem SG:Ao ["_law_sentence_here","_law_row"] ["_law_sentence_here","_law_row"] (Ad Iu):=Bt
theorem Q6(F:Fun K "_law_ins" "_law_ins" Iu f fd)(GT:FnOk P w K mg bz AH 60 g gd ["_law_sentence_here","_law_world"] (D7 60))(CT:AL K mg "_law_true" g gd ["_law_sentence_here","_law_world"]):FnOk P w K mg bz AH 61 f fd ["_law_sentence_here","_law_row"] (Fm K true):=by
 refine F.ok SG (fun vs H Q E h=>?_) (fun ai A outer s H vs Q E hr h=>?_)
 ·obtain⟨v,t,r,row,rfl,_⟩:=h
  rfl
 obtain⟨v,t,r,row,rfl,ha,hok,hs,hS,hl,q⟩:=h
 refine⟨_,Ae (Ai (Bi (N:=["_law_world","_law_sentence_here"]) (js:=[none,some 0]) (cl:=[("_law_sentence_here",s.heap.objs.size+1)]) ⟨rfl,rfl,rfl,(by intro p hp;simp at hp;rcases hp with rfl<;>rfl),rfl,rfl,rfl⟩ (AS (pv 1)) (fun c1=>(AC (i:=0) (show (["_law_world","_law_sentence_here"]:List Str).Nodup by decide +kernel) rfl (Or.inl rfl))) (fun c1=>(BW (Bg (Ah GT hr (by rfl) CT.m CT.k CT.b .nil Ak (Aa (pv 1) (Aa (pv 0) Ab)))))) (fun c1=>(pv 0)))),?_⟩
 refine⟨_,rfl,r,rfl,⟨_,hS⟩,fun cc acc ah=>BG (p:=fun k=>tv t k == true) (rest:=[some v]) hS ah hl (fun k hk H2 s2 R hR=>?_) (fun v0 H2 s2 h2=>q acc H2 s2 ah h2) none⟩
 refine⟨_,rfl,_,rfl,v,t,k,rfl,ha.keep (TS.same s2),hok,hs,fun H3 s3=>⟨_,rfl,?_⟩⟩
 have:=hR H3 s3
 rw[show (tv t k == true)=tv t k by cases tv t k<;>rfl] at this
 exact this
end
abbrev FL:Stmt:=Bu 59
section
theorem Q7:Ao ["_law_sentence_here","_law_row"] ["_law_sentence_here","_law_row"] (Ad FL):=Bt
theorem QF(F:Fun K "_law_outs" "_law_outs" FL f fd)(GT:FnOk P w K mg bz AH 60 g gd ["_law_sentence_here","_law_world"] (D7 60))(CT:AL K mg "_law_true" g gd ["_law_sentence_here","_law_world"]):FnOk P w K mg bz AH 61 f fd ["_law_sentence_here","_law_row"] (Fm K false):=by
 refine F.ok Q7 (fun vs H Q E h=>?_) (fun ai A outer s H vs Q E hr h=>?_)
 ·obtain⟨v,t,r,row,rfl,_⟩:=h
  rfl
 obtain⟨v,t,r,row,rfl,ha,hok,hs,hS,hl,q⟩:=h
 refine⟨_,Ae (Ai (Bi (N:=["_law_world","_law_sentence_here"]) (js:=[none,some 0]) (cl:=[("_law_sentence_here",s.heap.objs.size+1)]) ⟨rfl,rfl,rfl,(by intro p hp;simp at hp;rcases hp with rfl<;>rfl),rfl,rfl,rfl⟩ (AS (pv 1)) (fun c1=>(AC (i:=0) (show (["_law_world","_law_sentence_here"]:List Str).Nodup by decide +kernel) rfl (Or.inl rfl))) (fun c1=>(BW (BO (Bg (Ah GT hr (by rfl) CT.m CT.k CT.b .nil Ak (Aa (pv 1) (Aa (pv 0) Ab))))))) (fun c1=>(pv 0)))),?_⟩
 refine⟨_,rfl,r,rfl,⟨_,hS⟩,fun cc acc ah=>BG (p:=fun k=>tv t k == false) (rest:=[some v]) hS ah hl (fun k hk H2 s2 R hR=>?_) (fun v0 H2 s2 h2=>q acc H2 s2 ah h2) none⟩
 refine⟨_,rfl,_,rfl,v,t,k,rfl,ha.keep (TS.same s2),hok,hs,fun H3 s3=>⟨_,rfl,?_⟩⟩
 have:=hR H3 s3
 rw[show (tv t k == false) = !tv t k by cases tv t k<;>rfl] at this
 exact this
end
abbrev Go:Stmt:=Bu 48
def LX(K:PySem.W.Frag):Sp:=fun vs H Q _=>∃(n:Int)(r:Addr)(row:List Int),vs=[.int n,.ref r]/\SqL K H r (row.map V.int)/\row.length<=900/\∀(l:Addr)(aA:List Int)(H':Hp),Same H H'->H l=none->AM H' l aA->aA.Sublist row->Q (.ref l) H'
section
theorem scLsome:Ao ["_law_n","_law_row","_law_found","_law_one"] ["_law_n","_law_row"] (Ad Go):=Bt
theorem P7(F:Fun K "_law_some" "_law_some" Go f fd):FnOk P w K mg bz AH 1 f fd ["_law_n","_law_row"] (LX K):=by
 refine F.ok scLsome (fun vs H Q E h=>?_) (fun ai A outer s H vs Q E hr h=>?_)
 ·obtain⟨n,r,row,rfl,_⟩:=h
  rfl
 obtain⟨n,r,row,rfl,hS,hl,q⟩:=h
 refine⟨_,Ac (Ar (i:=2) scLsome.nd rfl (Or.inl rfl) (AI Ab))
  (Ac (Bz zAW rfl (AS (pv 1)) (AC (i:=3) scLsome.nd rfl (Or.inl rfl))
   (Ac (AB (Al AQ (Au AO (pv 0) Ag) Ag (As _))
    (Ae (AW (B1 zAD zAK zAL A4 (pv 2) (Aa (pv 3) Ab))))
    Ap)
   (Ae (Ar (i:=0) scLsome.nd rfl (Or.inl rfl) (Au AY (pv 0) Ag)))))
  (Ae (Ai (pv 2)))),?_⟩
 refine⟨J1,fun l gT=>?_⟩
 have s1:=Af gT (.lst [])
 refine⟨_,rfl,r,rfl,⟨_,s1.seq hS⟩,A1 (K:=K) (a:=r) (xs:=row.map V.int) (fun i σ H2=>∃(m:Int)(ov:Option V)(aA:List Int),σ=[some (.int m),some (.ref r),some (.ref l),ov]/\Same H H2/\AM H2 l aA/\aA.Sublist (row.take i)) ⟨_,_,[],rfl,s1,upd_same,zBA _⟩ ?_ ?_ ?_⟩
 ·rintro i σ H2 _ ⟨m,ov,aA,rfl,s2,_,_⟩
  exact s2.seq hS
 ·rintro i x σ H2 hx ⟨m,ov,aA,rfl,s2,aC,ax⟩
  rw[List.getElem?_map] at hx
  obtain⟨k,hk,rfl⟩:=Option.map_eq_some_iff.mp hx
  have et:row.take (i+1)=row.take i++[k]:=by rw[zAT,hk];rfl
  refine⟨_,rfl,_,_,rfl,rfl,(by show (0:Int)<2;decide),rfl,_,rfl,?_⟩
  refine B9 (fun _=>?_) (fun _=>?_)
  ·refine⟨_,rfl,.inl ⟨rfl,_,SqL.of aC⟩,_,rfl,l,_,_,rfl,rfl,aC,AG ?_,?_⟩
   ·rw[List.length_map]
    have:=ax.length_le
    rw[List.length_take] at this
    omega
   refine⟨_,rfl,_,_,rfl,rfl,⟨by decide,by decide⟩,?_⟩
   refine⟨_,_,aA++[k],rfl,AJ s2 gT _,?_,?_⟩
   ·show _=some (HO.lst ((aA++[k]).map V.int))
    rw[upd_same,zAM]
    rfl
   ·rw[et]
    exact ax.append (zBA _)
  ·refine⟨_,rfl,_,_,rfl,rfl,⟨by decide,by decide⟩,?_⟩
   refine⟨_,_,aA,rfl,s2,aC,?_⟩
   rw[et]
   exact ax.trans (List.sublist_append_left _ _)
 ·rintro σ H2 ⟨m,ov,aA,rfl,s2,aC,ax⟩
  rw[List.length_map,zAX] at ax
  exact⟨_,rfl,q l aA H2 s2 gT aC ax⟩
end
abbrev Cd:Stmt:=Bu 49
def Cf(K:PySem.W.Frag):Sp:=fun vs H Q _=>∃(n:Int)(r:Addr)(row:List Int),vs=[.int n,.ref r]/\SqL K H r (row.map V.int)/\row.length<=900/\row≠[]/\∀(l:Addr)(aA:List Int)(H':Hp),Same H H'->H l=none->AM H' l aA->aA.Sublist row->aA≠[]->Q (.ref l) H'
theorem Ji(h:row≠[]):∃k,HZ (row.map V.int) (n%((row.map V.int).length:Int))=some (.int k)/\k∈row:=by
 have hp:0<row.length:=List.length_pos_iff.mpr h
 rw[List.length_map]
 have h1:=zA8 n (show (row.length:Int)≠0 by omega)
 have h2:=zBB n (show (0:Int)<row.length by omega)
 obtain⟨i,ei⟩:=zBH h1
 have hi:i<row.length:=by omega
 rw[ei]
 refine⟨row[i],Aj ?_,zA3 hi⟩
 rw[List.getElem?_map,List.getElem?_eq_getElem hi]
 rfl
section
theorem scLsomeone:Ao ["_law_n","_law_row","_law_found"] ["_law_n","_law_row"] (Ad Cd):=Bt
theorem J3(F:Fun K "_law_some_one" "_law_some_one" Cd f fd)(B:Bl mg)(G:FnOk P w K mg bz AH 1 g gd ["_law_n","_law_row"] (LX K))(C:AL K mg "_law_some" g gd ["_law_n","_law_row"]):FnOk P w K mg bz AH 2 f fd ["_law_n","_law_row"] (Cf K):=by
 refine F.ok scLsomeone (fun vs H Q E h=>?_) (fun ai A outer s H vs Q E hr h=>?_)
 ·obtain⟨n,r,row,rfl,_⟩:=h
  rfl
 obtain⟨n,r,row,rfl,hS,hl,av,q⟩:=h
 refine⟨_,Ac (Ar (i:=2) scLsomeone.nd rfl (Or.inl rfl) (Ah G hr (by rfl) C.m C.k C.b .nil Ak (Aa (pv 0) (Aa (pv 1) Ab))))
  (Ac (AB (Al (Pf hr.units0) (pv 2) (AI Ab) (As _))
   (Ae (Ai (AI (Aa (AD AK (pv 1) (Au AO (Au AY (pv 0) Ag) (Az Ay (by rfl) B.len PySem.boot_len (Aa (pv 1) Ab))) (fun _ _=>rfl)) Ab))))
   Ap)
  (Ae (Ai (pv 2)))),?_⟩
 refine⟨_,rfl,_,rfl,n,r,row,rfl,hS,hl,fun l aA H1 s1 aJ ak ax=>?_⟩
 refine⟨_,rfl,J1,fun e he=>?_⟩
 have s2:=Af he (.lst [])
 refine⟨l,e,_,rfl,rfl,SqL.of (s2 _ _ ak),SqL.of upd_same,_,rfl,?_⟩
 have hp:0<row.length:=List.length_pos_iff.mpr av
 cases hrow:aA with
 | nil=>
  refine TD rfl ?_
  have bZ:=(s1.trans s2).seq hS
  obtain⟨k,hk,hm⟩:=Ji (n:=n / 64) av
  refine⟨_,rfl,_,rfl,_,_,rfl,rfl,⟨by decide,by decide⟩,_,rfl,r,_,rfl,.inl bZ,_,_,rfl,rfl,(by show (0:Int)<(((row.map V.int).length:Nat):Int);rw[List.length_map];omega),r,_,_,_,rfl,rfl,bZ,hk,Jq,fun d hd=>?_⟩
  have s3:=Af hd (.lst [.int k])
  exact q d [k] _ (s1.trans (s2.trans s3)) ((s1.trans s2).free hd) upd_same (List.singleton_sublist.mpr hm) (by simp)
 | cons k rest=>
  refine Ul rfl ?_
  exact⟨_,rfl,q l aA _ (s1.trans s2) aJ (s2 _ _ ak) ax (by rw[hrow];simp)⟩
end
abbrev FB:Stmt:=Bu 51
def PZ:Sp:=fun vs H Q _=>∃(n:Int)(m:Nat),vs=[.int n,.int (m:Int)]/\1<=m/\m<=5/\∀(l:Addr)(row:List Int)(H':Hp),Same H H'->H l=none->AM H' l row->row.Sublist (BC (2^m))->row≠[]->Q (.ref l) H'
section
theorem QS:Ao ["_law_n","_law_many"] ["_law_n","_law_many"] (Ad FB):=Bt
theorem Mq:BC (2^m)≠[]:=fun h=>by
 have:=Ht (2^m)
 rw[h] at this
 have h2:0<2^m:=Nat.pow_pos (by decide)
 have h3:([]:List Int).length=0:=rfl
 omega
theorem PR(F:Fun K "_law_room" "_law_room" FB f fd)(GW:FnOk P w K mg bz AH 1 g gd ["_law_many"] Kp)(CW:AL K mg "_law_worlds" g gd ["_law_many"])(GO:FnOk P w K mg bz AH 2 e ed ["_law_n","_law_row"] (Cf K))(CO:AL K mg "_law_some_one" e ed ["_law_n","_law_row"]):FnOk P w K mg bz AH 3 f fd ["_law_n","_law_many"] PZ:=by
 refine F.ok QS (fun vs H Q E h=>?_) (fun ai A outer s H vs Q E hr h=>?_)
 ·obtain⟨n,m,rfl,_⟩:=h
  rfl
 obtain⟨n,m,rfl,h1,h5,q⟩:=h
 have ak:Room 1 _:=hr.mono (by decide)
 refine⟨_,Ac (AB (Al AQ (Au AO (pv 0) Ag) Ag (As _))
   (Ae (Ai (Ah GW ak (by rfl) CW.m CW.k CW.b .nil Ak (Aa (pv 1) Ab))))
   Ap)
  (Ae (Ai (Ah GO hr (by rfl) CO.m CO.k CO.b .nil Ak (Aa (Au AY (pv 0) Ag) (Aa (Ah GW ak (by rfl) CW.m CW.k CW.b .nil Ak (Aa (pv 1) Ab)) Ab))))),?_⟩
 have iw:=LY h5
 refine⟨_,rfl,_,_,rfl,rfl,(by show (0:Int)<3;decide),rfl,_,rfl,?_⟩
 refine B9 (fun _=>?_) (fun _=>?_)
 ·exact⟨_,rfl,m,rfl,h1,h5,fun l H' s' hl hr'=>q l _ H' s' hl hr' (zBA _) Mq⟩
 ·refine⟨_,rfl,_,_,rfl,rfl,⟨by decide,by decide⟩,_,rfl,m,rfl,h1,h5,fun l H1 s1 hl ak=>?_⟩
  exact⟨_,l,_,rfl,SqL.of ak,by rw[Ht];omega,Mq,fun l2 aA H2 s2 aC aE ax av=>q l2 aA H2 (s1.trans s2) (s1.free aC) aE ax av⟩
end
abbrev FE:Stmt:=Bu 75
def MA:Sp:=fun vs H Q _=>∃(n:Int),vs=[.int n]/\Q (.bl true) H
section
theorem Q3:Ao ["_law_found"] ["_law_found"] (Ad FE):=Bt
theorem O0(F:Fun K "_law_whole" "_law_whole" FE f fd)(T:EV mg):FnOk P w K mg bz AH 1 f fd ["_law_found"] MA:=by
 refine F.ok Q3 (fun vs H Q E h=>?_) (fun ai A outer s H vs Q E hr h=>?_)
 ·obtain⟨n,rfl,_⟩:=h
  rfl
 obtain⟨n,rfl,q⟩:=h
 refine⟨_,Ae (Ai (HJ (Az Cp (by rfl) T.isi boot_isinstance (Aa (pv 0) (Aa (Hd (v:=.ty "int") (by rfl) T.int boot_int rfl) Ab))) (DB (Hu (Az Cp (by rfl) T.isi boot_isinstance (Aa (pv 0) (Aa (Hd (v:=.ty "bool") (by rfl) T.bool boot_bool rfl) Ab))))))),?_⟩
 refine⟨_,rfl,_,_,_,_,rfl,.int _,HI _ _,_,rfl,?_⟩
 refine Bh ?_
 exact⟨_,rfl,_,_,_,_,rfl,.int _,JF _,_,rfl,q⟩
end
def AA(b:Bool)(t:Tr)(row:List Int):List Int:=row.filter fun k=>tv t k == b
theorem J5(t:Tr)(row:List Int):(AA true t row).length+(AA false t row).length=row.length:=by
 unfold AA
 induction row with
 | nil=>rfl
 | cons k r ih=>
  cases h:tv t k with
  | true=>simp[h] at ih ⊢;omega
  | false=>simp[h] at ih ⊢;omega
def Gm(z:Str)(t:Tr)(row:List Int):Prop:=(z="true"/\AA true t row≠[])\/(z="false"/\AA false t row≠[])\/(z="doubt"/\AA true t row≠[]/\AA false t row≠[])
def AE(z:Str)(t:Tr)(row:List Int):List (List Int):=if z="true" then[AA true t row] else if z="false" then[AA false t row] else[AA true t row,AA false t row]
def IN(row:List Int)(sides:List (List Int)):List Int:=row.filter fun k=>sides.any fun s=>decide (k∈s)
def By(sides:List (List Int))(row:List Int):Bool:=sides.all fun s=>s.any fun k=>decide (k∈row)
abbrev Gh:Stmt:=Bu 55
def Qe(K:PySem.W.Frag):Sp:=fun vs H Q _=>∃(n:Int)(r:Addr)(row:List Int)(v:V)(t:Tr),vs=[.int n,.ref r,v]/\t.At H v/\t.ok 5/\t.size<=60/\SqL K H r (row.map V.int)/\row.length<=900/\row≠[]/\∀(z:Str)(H':Hp),Same H H'->Gm z t row->Q (.str z) H'
def MX:List V:=[.str "true",.str "false",.str "doubt"]
section
theorem scLkind:Ao ["_law_n","_law_room_here","_law_sentence_here","_law_ins_here"] ["_law_n","_law_room_here","_law_sentence_here"] (Ad Gh):=Bt
theorem QA(F:Fun K "_law_kind" "_law_kind" Gh f fd)(B:Bl mg)(GI:FnOk P w K mg bz AH 61 g gd ["_law_sentence_here","_law_row"] (Fm K true))(CI:AL K mg "_law_ins" g gd ["_law_sentence_here","_law_row"]):FnOk P w K mg bz AH 62 f fd ["_law_n","_law_room_here","_law_sentence_here"] (Qe K):=by
 refine F.ok scLkind (fun vs H Q E h=>?_) (fun ai A outer s H vs Q E hr h=>?_)
 ·obtain⟨n,r,row,v,t,rfl,_⟩:=h
  rfl
 obtain⟨n,r,row,v,t,rfl,ha,hok,hs,hS,hl,av,q⟩:=h
 refine⟨_,Ac (Ar (i:=3) scLkind.nd rfl (Or.inl rfl) (Ah GI hr (by rfl) CI.m CI.k CI.b .nil Ak (Aa (pv 2) (Aa (pv 1) Ab))))
  (Ac (AB (Al (Pf hr.units0) (pv 3) (AI Ab) (As _))
   (Ae (Ai Av))
   Ap)
  (Ac (AB (Al AQ (Az Ay (by rfl) B.len PySem.boot_len (Aa (pv 3) Ab)) (Az Ay (by rfl) B.len PySem.boot_len (Aa (pv 1) Ab)) (As _))
   (Ae (Ai Av))
   Ap)
  (Ae (Ai (AD AK (AI (Aa Av (Aa Av (Aa Av Ab)))) (Au AO (pv 0) Ag) (fun _ _=>rfl)))))),?_⟩
 have hio:=J5 t row
 have hp:0<row.length:=List.length_pos_iff.mpr av
 refine⟨_,rfl,_,rfl,v,t,r,row,rfl,ha,hok,hs,hS,hl,fun l H1 s1 aJ ak=>?_⟩
 refine⟨_,rfl,J1,fun e he=>?_⟩
 have s2:=Af he (.lst [])
 refine⟨l,e,_,rfl,rfl,SqL.of (s2 _ _ ak),SqL.of upd_same,_,rfl,?_⟩
 change AM H1 l (AA true t row) at ak
 by_cases h0:AA true t row=[]
 ·refine TD (by show ((AA true t row).map V.int).isEmpty=true;rw[h0];rfl) ?_
  refine q _ _ (s1.trans s2) (.inr (.inl ⟨rfl,fun z=>?_⟩))
  rw[h0,z] at hio
  have:([]:List Int).length=0:=rfl
  omega
 refine Ul (by show ((AA true t row).map V.int).isEmpty=false;cases hq:AA true t row with | nil=>exact absurd hq h0 | cons _ _=>rfl) ?_
 refine⟨_,rfl,l,_,rfl,.inl (SqL.of (s2 _ _ ak)),_,rfl,r,_,rfl,.inl ((s1.trans s2).seq hS),rfl,_,rfl,?_⟩
 by_cases h1:AA false t row=[]
 ·have e1:((AA true t row).map V.int).length=(row.map V.int).length:=by
   rw[List.length_map,List.length_map]
   rw[h1] at hio
   have:([]:List Int).length=0:=rfl
   omega
  refine Bd (by rw[e1]) ?_
  exact q _ _ (s1.trans s2) (.inl ⟨rfl,h0⟩)
 ·have e1:¬(V.int (((AA true t row).map V.int).length:Int)=V.int ((row.map V.int).length:Int)):=by
   rw[List.length_map,List.length_map]
   intro z
   injection z with z
   have:=List.length_pos_iff.mpr h1
   omega
  refine A6 e1 ?_
  refine⟨K9,fun c hc=>?_⟩
  have s3:=Af hc (.lst MX)
  have h2:=zA8 n (show (3:Int)≠0 by decide)
  have h3:=zBB n (show (0:Int)<3 by decide)
  obtain⟨j,ej⟩:=zBH h2
  have hj:j<3:=by omega
  refine⟨_,rfl,_,_,rfl,rfl,(by show (0:Int)<3;decide),?_⟩
  have aF:∀z:Str,MX[j]? = some (.str z)->Gm z t row->Ud K (.ref c) (.int (n%3)) (upd (upd H1 e (.lst [])) c (.lst MX)) Q:=fun z hz hk=>by
   rw[ej]
   exact⟨c,MX,_,_,rfl,rfl,SqL.of upd_same,Aj hz,q z _ (s1.trans (s2.trans s3)) hk⟩
  match j,hj,aF with
  | 0,_,aF=>exact aF "true" rfl (.inl ⟨rfl,h0⟩)
  | 1,_,aF=>exact aF "false" rfl (.inr (.inl ⟨rfl,h1⟩))
  | 2,_,aF=>exact aF "doubt" rfl (.inr (.inr ⟨rfl,h0,h1⟩))
end
abbrev Eh:Stmt:=Bu 60
def M0(K:PySem.W.Frag):Sp:=fun vs H Q _=>∃(r:Addr)(row:List Int)(z:Str)(v:V)(t:Tr),vs=[.ref r,.str z,v]/\t.At H v/\t.ok 5/\t.size<=60/\SqL K H r (row.map V.int)/\row.length<=900/\∀(l:Addr)(xs:List V)(H':Hp),Same H H'->H l=none->H' l=some (.lst xs)->RowsAt H' xs (AE z t row)->Q (.ref l) H'
section
theorem O2:Ao ["_law_room_here","_law_kind_here","_law_sentence_here"] ["_law_room_here","_law_kind_here","_law_sentence_here"] (Ad Eh):=Bt
theorem Oj(F:Fun K "_law_sides" "_law_sides" Eh f fd)(GI:FnOk P w K mg bz AH 61 g gd ["_law_sentence_here","_law_row"] (Fm K true))(CI:AL K mg "_law_ins" g gd ["_law_sentence_here","_law_row"])(GO:FnOk P w K mg bz AH 61 e ed ["_law_sentence_here","_law_row"] (Fm K false))(CO:AL K mg "_law_outs" e ed ["_law_sentence_here","_law_row"]):FnOk P w K mg bz AH 62 f fd ["_law_room_here","_law_kind_here","_law_sentence_here"] (M0 K):=by
 refine F.ok O2 (fun vs H Q E h=>?_) (fun ai A outer s H vs Q E hr h=>?_)
 ·obtain⟨r,row,z,v,t,rfl,_⟩:=h
  rfl
 obtain⟨r,row,z,v,t,rfl,ha,hok,hs,hS,hl,q⟩:=h
 refine⟨_,Ac (AB (Al AQ (pv 1) Av (As _))
   (Ae (Ai (AI (Aa (Ah GI hr (by rfl) CI.m CI.k CI.b .nil Ak (Aa (pv 2) (Aa (pv 0) Ab))) Ab))))
   Ap)
  (Ac (AB (Al AQ (pv 1) Av (As _))
   (Ae (Ai (AI (Aa (Ah GO hr (by rfl) CO.m CO.k CO.b .nil Ak (Aa (pv 2) (Aa (pv 0) Ab))) Ab))))
   Ap)
  (Ae (Ai (AI (Aa (Ah GI hr (by rfl) CI.m CI.k CI.b .nil Ak (Aa (pv 2) (Aa (pv 0) Ab))) (Aa (Ah GO hr (by rfl) CO.m CO.k CO.b .nil Ak (Aa (pv 2) (Aa (pv 0) Ab))) Ab)))))),?_⟩
 refine⟨_,rfl,rfl,_,rfl,?_⟩
 by_cases h0:z="true"
 ·refine Bd (by rw[h0]) ?_
  refine⟨_,rfl,_,rfl,v,t,r,row,rfl,ha,hok,hs,hS,hl,fun l H1 s1 aJ ak=>⟨Jq,fun c hc=>?_⟩⟩
  have s2:=Af hc (.lst [.ref l])
  refine q c _ _ (s1.trans s2) (s1.free hc) upd_same ?_
  unfold AE
  rw[if_pos h0]
  exact .cons ⟨l,rfl,s2 _ _ ak⟩ .nil
 refine A6 (fun e=>h0 (by injection e)) ?_
 refine⟨_,rfl,rfl,_,rfl,?_⟩
 by_cases h1:z="false"
 ·refine Bd (by rw[h1]) ?_
  refine⟨_,rfl,_,rfl,v,t,r,row,rfl,ha,hok,hs,hS,hl,fun l H1 s1 aJ ak=>⟨Jq,fun c hc=>?_⟩⟩
  have s2:=Af hc (.lst [.ref l])
  refine q c _ _ (s1.trans s2) (s1.free hc) upd_same ?_
  unfold AE
  rw[if_neg h0,if_pos h1]
  exact .cons ⟨l,rfl,s2 _ _ ak⟩ .nil
 refine A6 (fun e=>h1 (by injection e)) ?_
 refine⟨_,rfl,_,rfl,v,t,r,row,rfl,ha,hok,hs,hS,hl,fun l H1 s1 aJ ak=>?_⟩
 refine⟨_,rfl,_,rfl,v,t,r,row,rfl,ha.keep (TS.same s1),hok,hs,s1.seq hS,hl,fun l2 H2 s2 aC aE=>⟨Ig,fun c hc=>?_⟩⟩
 have s3:=Af hc (.lst [.ref l,.ref l2])
 refine q c _ _ (s1.trans (s2.trans s3)) ((s1.trans s2).free hc) upd_same ?_
 unfold AE
 rw[if_neg h0,if_neg h1]
 exact .cons ⟨l,rfl,s3 _ _ (s2 _ _ ak)⟩ (.cons ⟨l2,rfl,s3 _ _ aE⟩ .nil)
end
abbrev Fs:Stmt:=Bu 61
def Pm(K:PySem.W.Frag):Sp:=fun vs H Q _=>∃(r sd:Addr)(row:List Int)(xs:List V)(sides:List (List Int)),vs=[.ref r,.ref sd]/\SqL K H r (row.map V.int)/\row.length<=900/\SqL K H sd xs/\RowsAt H xs sides/\sides.length<=900/\∀(l:Addr)(H':Hp),Same H H'->H l=none->AM H' l (IN row sides)->Q (.ref l) H'
section
theorem Rk:Ao ["_law_room_here","_law_sides_here"] ["_law_room_here","_law_sides_here"] (Ad Fs):=Bt
theorem Pa(F:Fun K "_law_base" "_law_base" Fs f fd)(T:EV mg):FnOk P w K mg bz AH 1 f fd ["_law_room_here","_law_sides_here"] (Pm K):=by
 refine F.ok Rk (fun vs H Q E h=>?_) (fun ai A outer s H vs Q E hr h=>?_)
 ·obtain⟨r,sd,row,xs,sides,rfl,_⟩:=h
  rfl
 obtain⟨r,sd,row,xs,sides,rfl,hS,hl,hX,hR,aX,q⟩:=h
 have ag:=hR.len
 refine⟨_,Ae (Ai (NP (N:=["_law_world","_law_sides_here"]) (js:=[none,some 1]) (cl:=[("_law_sides_here",s.heap.objs.size+1)]) ⟨rfl,rfl,rfl,(by intro p hp;simp at hp;rcases hp with rfl<;>rfl),rfl,rfl,rfl⟩ (AS (pv 0)) (fun c1=>(AC (i:=0) (show (["_law_world","_law_sides_here"]:List Str).Nodup by decide +kernel) rfl (Or.inr rfl))) (fun c1=>(BW (Bg (Az (Dg rfl) (by rfl) T.any boot_any (Aa (Bi (N:=["_law_side","_law_world"]) (js:=[none,some 0]) (cl:=[("_law_world",c1.s.heap.objs.size+1+0)]) ⟨rfl,rfl,rfl,(by intro p hp;simp at hp;rcases hp with rfl<;>rfl),rfl,rfl,rfl⟩ (AS (pv 1)) (fun c2=>(AC (i:=0) (show (["_law_side","_law_world"]:List Str).Nodup by decide +kernel) rfl (Or.inl rfl))) (fun c2=>Bx) (fun c2=>(Bo Ec (pv 1) (pv 0) (by with_unfolding_all rfl)))) Ab))))) (fun c1=>(pv 0)))),?_⟩
 refine⟨_,rfl,r,rfl,⟨_,hS⟩,fun c1 acc ah=>BG (p:=fun k=>sides.any fun s=>decide (k∈s)) (rest:=[some (.ref sd)]) hS ah hl (fun k hk H2 s2 R hR2=>?_) (fun v0 H2 s2 h2=>q acc H2 s2 ah h2) none⟩
 refine⟨_,rfl,sd,rfl,⟨_,s2.seq hX⟩,fun c2 ac2 fH=>K4 (bs:=sides.map fun s=>decide (k∈s)) (rest:=[some (.int k)]) (s2.seq hX) fH (by omega) (by rw[List.length_map];omega) (fun i x b hx hb H3 s3 R3 gW=>?_) (fun v0 H3 s3 h3=>?_) none⟩
 ·obtain⟨row2,p,aE,rfl,hp⟩:=hR.get hx
  rw[List.getElem?_map,aE] at hb
  have eb:decide (k∈row2)=b:=zAP hb
  refine⟨_,rfl,_,rfl,Jn (SqL.of ((s2.trans s3) _ _ hp)) ?_⟩
  rw[eb]
  exact gW H3 (Same.refl _)
 ·refine⟨ac2,_,rfl,SqL.of h3,_,rfl,?_⟩
  have e:(sides.map fun s=>decide (k∈s)).any id=sides.any fun s=>decide (k∈s):=by rw[zCJ];rfl
  rw[e]
  exact hR2 H3 s3
end
abbrev Cy:Stmt:=Bu 69
def KD(K:PySem.W.Frag):Sp:=fun vs H Q _=>∃(sd r:Addr)(row:List Int)(xs:List V)(sides:List (List Int)),vs=[.ref sd,.ref r]/\SqL K H r (row.map V.int)/\row.length<=900/\SqL K H sd xs/\RowsAt H xs sides/\(∀s∈sides,s.length<=900)/\∀(H':Hp),Same H H'->Q (.bl (By sides row)) H'
section
theorem scLstands:Ao ["_law_sides_here","_law_row","_law_side"] ["_law_sides_here","_law_row"] (Ad Cy):=Bt
theorem Lb(F:Fun K "_law_stands" "_law_stands" Cy f fd)(T:EV mg):FnOk P w K mg bz AH 1 f fd ["_law_sides_here","_law_row"] (KD K):=by
 refine F.ok scLstands (fun vs H Q E h=>?_) (fun ai A outer s H vs Q E hr h=>?_)
 ·obtain⟨sd,r,row,xs,sides,rfl,_⟩:=h
  rfl
 obtain⟨sd,r,row,xs,sides,rfl,hS,hl,hX,hR,aX,q⟩:=h
 refine⟨_,Ac (Bz zAW rfl (AS (pv 0)) (AC (i:=2) scLstands.nd rfl (Or.inl rfl))
   (Ae (AB (BO (Bg (Az (Dg rfl) (by rfl) T.any boot_any (Aa (Bi (N:=["_law_world","_law_row"]) (js:=[none,some 1]) (cl:=[("_law_row",s.heap.objs.size+1)]) ⟨rfl,rfl,rfl,(by intro p hp;simp at hp;rcases hp with rfl<;>rfl),rfl,rfl,rfl⟩ (AS (pv 2)) (fun c1=>(AC (i:=0) (show (["_law_world","_law_row"]:List Str).Nodup by decide +kernel) rfl (Or.inl rfl))) (fun c1=>Bx) (fun c1=>(Bo Ec (pv 0) (pv 1) (by with_unfolding_all rfl)))) Ab))))
    (Ae (Ai BQ))
    Ap)))
  (Ae (Ai BQ)),?_⟩
 refine⟨_,rfl,sd,rfl,⟨_,hX⟩,A1 (K:=K) (a:=sd) (xs:=xs) (fun i σ H2=>∃sv,σ=[some (.ref sd),some (.ref r),sv]/\Same H H2/\(sides.take i).all (fun s=>s.any fun k=>decide (k∈row))=true) ⟨_,rfl,Same.refl _,rfl⟩ ?_ ?_ ?_⟩
 ·rintro i σ H2 _ ⟨sv,rfl,s2,_⟩
  exact s2.seq hX
 ·rintro i x σ H2 hx ⟨sv,rfl,s2,aq⟩
  obtain⟨cQ,p,aE,rfl,hp⟩:=hR.get hx
  have cf:=s2 _ _ hp
  have et:sides.take (i+1)=sides.take i++[cQ]:=by rw[zAT,aE];rfl
  refine⟨_,rfl,p,rfl,⟨_,SqL.of cf⟩,fun c1 acc ah=>BR (f:=fun k=>decide (k∈row)) (rest:=[some (.ref r)]) (SqL.of cf) ah (aX cQ (zAQ aE)) (fun k hk H3 s3 R3 gW=>?_) (fun v0 H3 s3 h3=>?_) none⟩
  ·exact⟨_,rfl,_,rfl,Jn ((s2.trans s3).seq hS) (gW H3 (Same.refl _))⟩
  ·refine⟨acc,_,rfl,SqL.of h3,_,rfl,?_⟩
   have e:(cQ.map fun k=>decide (k∈row)).any id=cQ.any fun k=>decide (k∈row):=by rw[zCJ];rfl
   rw[e]
   cases hq:cQ.any fun k=>decide (k∈row) with
   | false=>
    refine Bh ?_
    have ef:By sides row=false:=by
     unfold By
     rw[<-zB8 (i+1) sides,et,zDB,zDB,zB5,hq]
     simp
    have:=q H3 (s2.trans s3)
    rw[ef] at this
    exact this
   | true=>
    refine A7 ?_
    refine⟨_,rfl,s2.trans s3,?_⟩
    rw[et,zDB,aq,zB5,hq]
    rfl
 ·rintro σ H2 ⟨sv,rfl,s2,aq⟩
  rw[hR.len,zAX] at aq
  have:=q H2 s2
  unfold By at this
  rw[aq] at this
  exact this
end
abbrev FO:Stmt:=Bu 65
section
theorem QV:Ao ["_law_n","_law_room_here"] ["_law_n","_law_room_here"] (Ad FO):=Bt
theorem Qj(F:Fun K "_law_seen" "_law_seen" FO f fd)(T:EV mg)(B:Bl mg)(GO:FnOk P w K mg bz AH 2 e ed ["_law_n","_law_row"] (Cf K))(CO:AL K mg "_law_some_one" e ed ["_law_n","_law_row"]):FnOk P w K mg bz AH 3 f fd ["_law_n","_law_room_here"] (Cf K):=by
 refine F.ok QV (fun vs H Q E h=>?_) (fun ai A outer s H vs Q E hr h=>?_)
 ·obtain⟨n,r,row,rfl,_⟩:=h
  rfl
 obtain⟨n,r,row,rfl,hS,hl,av,q⟩:=h
 have hp:0<row.length:=List.length_pos_iff.mpr av
 refine⟨_,Ac (AB (Al So (Au AO (pv 0) Ag) Ag (As _))
   (Ae (Ai (AI (Aa (AD AK (pv 1) (Au AO (Au AY (pv 0) Ag) (Az Ay (by rfl) B.len PySem.boot_len (Aa (pv 1) Ab))) (fun _ _=>rfl)) Ab))))
   Ap)
  (Ac (AB (Al AQ (Au AO (pv 0) Ag) Ag (As _))
   (Ae (Ai (AF AR (by rfl) T.lst AZ (Aa (pv 1) Ab))))
   Ap)
  (Ae (Ai (Ah GO hr (by rfl) CO.m CO.k CO.b .nil Ak (Aa (Au AY (pv 0) Ag) (Aa (pv 1) Ab)))))),?_⟩
 refine⟨_,rfl,_,_,rfl,rfl,(by show (0:Int)<5;decide),_,_,rfl,rfl,_,rfl,?_⟩
 refine B9 (fun _=>?_) (fun _=>?_)
 ·obtain⟨k,hk,hm⟩:=Ji (n:=n / 5) av
  refine⟨_,rfl,_,rfl,_,_,rfl,rfl,⟨by decide,by decide⟩,_,rfl,r,_,rfl,.inl hS,_,_,rfl,rfl,(by show (0:Int)<(((row.map V.int).length:Nat):Int);rw[List.length_map];omega),r,_,_,_,rfl,rfl,hS,hk,Jq,fun d hd=>?_⟩
  exact q d [k] _ (Af hd _) hd upd_same (List.singleton_sublist.mpr hm) (by simp)
 refine⟨_,rfl,_,_,rfl,rfl,(by show (0:Int)<5;decide),rfl,_,rfl,?_⟩
 refine B9 (fun _=>?_) (fun _=>?_)
 ·exact⟨_,rfl,r,_,rfl,.inl hS,fun d hd=>q d row _ (Af hd _) hd upd_same (zBA _) av⟩
 ·exact⟨_,rfl,_,_,rfl,rfl,⟨by decide,by decide⟩,_,rfl,n / 5,r,row,rfl,hS,hl,av,q⟩
end
def Bs(seen row:List Int):Str:=if (seen.all fun k=>decide (k∈row))=true then "grant" else if (seen.any fun k=>decide (k∈row))=true then "doubt" else "deny"
def Fk(xs row:List Int):List Int:=xs.filter fun k=>decide (k∈row)
def BL(xs row:List Int):List Int:=xs.filter fun k=>!decide (k∈row)
theorem Mm(xs row:List Int):Fk xs row=[]↔(xs.any fun k=>decide (k∈row))=false:=by
 unfold Fk
 rw[List.filter_eq_nil_iff]
 constructor
 ·intro h
  rw[Bool.eq_false_iff]
  intro z
  obtain⟨k,hk,gy⟩:=List.any_eq_true.mp z
  exact h k hk gy
 ·intro h k hk gy
  have:(xs.any fun k=>decide (k∈row))=true:=List.any_eq_true.mpr ⟨k,hk,gy⟩
  rw[h] at this
  cases this
theorem Tl(xs row:List Int):(Fk xs row).length<=xs.length:=zAZ _ _
theorem RM(xs row:List Int):(BL xs row).length<=xs.length:=zAZ _ _
def Ea(sides:List (List Int))(going seen row:List Int):Str:=
 if BL going row=[] then "grant" else if Fk going row=[] then "deny"
 else if Bs seen row="grant"/\By sides (Fk going row)=false then "doubt"
 else if Bs seen row="deny"/\By sides (BL going row)=false then "doubt" else Bs seen row
theorem E4(e:σ.set i (some v)=σ')(h:N σ' H):({ nx:=fun _ H'=>(fun x H1=>DM i x σ H1 N) v H',rt:=R,bk:=B,ct:=C }:Ck).nx σ0 H:=by
 subst e
 exact h
theorem FV(Mid:L2.St->Hp->Prop)(h2:∀σ' H',Mid σ' H'->u D σ' H')(h1:(∀σ' H',Mid σ' H'->u D σ' H')->t { D with nx:=u D } σ H):({ nx:=Sy t u D,rt:=R,bk:=B,ct:=C }:Ck).nx σ H:=h1 h2
theorem SV(e:σ.set i (some v)=σ')(h:N σ' H):DM i v σ H N:=by
 subst e
 exact h
theorem Ev(Mid:L2.St->Hp->Prop)(h2:∀σ' H',Mid σ' H'->u D σ' H')(h1:(∀σ' H',Mid σ' H'->u D σ' H')->t { D with nx:=u D } σ H):Sy t u D σ H:=h1 h2
theorem RY(h:N σ H):Sn { nx:=N,rt:=R,bk:=B,ct:=C } σ H:=h
def Wr(row:List Int):Prop:=row.Pairwise (· < ·)/\∀k∈row,0<=k/\k<32
theorem Wr.sub(h:Wr b)(s:a.Sublist b):Wr a:=⟨h.1.sublist s,fun k hk=>h.2 k (s.subset hk)⟩
theorem MV(h:m<=5):Wr (BC (2^m)):=⟨Rp _,fun k hk=>by
 have:=mem_upto.mp hk
 have h2:=LY h
 have:((2^m:Nat):Int)<=32:=by omega
 omega⟩
theorem Wr.len(h:Wr row):row.length<=32:=by
 have nd:row.Nodup:=h.1.imp fun h=>by omega
 have:=BV (l2:=BC 32) nd fun k hk=>mem_upto.mpr (h.2 k hk)
 rw[Ht] at this
 exact this
theorem Fy(h:s∈AE z t row):s.Sublist row:=by
 unfold AE at h
 split at h
 ·rw[List.mem_singleton.mp h];exact zAO
 ·split at h
  ·rw[List.mem_singleton.mp h];exact zAO
  ·simp only[zAS,zAR,or_false] at h
   rcases h with rfl | rfl
   ·exact zAO
   ·exact zAO
theorem Ph(k:Gm z t row)(h:s∈AE z t row):s≠[]:=by
 unfold AE at h
 rcases k with⟨rfl,k⟩|⟨rfl,k⟩|⟨rfl,k1,k2⟩
 ·rw[if_pos rfl] at h
  rw[List.mem_singleton.mp h];exact k
 ·rw[if_neg (by decide),if_pos rfl] at h
  rw[List.mem_singleton.mp h];exact k
 ·rw[if_neg (by decide),if_neg (by decide)] at h
  simp only[zAS,zAR,or_false] at h
  rcases h with rfl | rfl
  ·exact k1
  ·exact k2
theorem Di:(∃a,AE z t row=[a])\/∃a b,AE z t row=[a,b]:=by
 unfold AE
 split
 ·exact .inl ⟨_,rfl⟩
 ·split
  ·exact .inl ⟨_,rfl⟩
  ·exact .inr ⟨_,_,rfl⟩
theorem base_sub:(IN row sides).Sublist row:=zAO
abbrev Gk:Stmt:=Bu 14
def Jh(K:PySem.W.Frag):Sp:=fun vs H Q _=>∃(a:Addr)(xs:List V)(ts:List Tr),vs=[.ref a]/\SqL K H a xs/\Pile H xs ts/\sz ts<=900/\
 ∀(r:Addr)(ys:List V)(H':Hp),Same H H'->H' r=some (.lst ys)->Pile H' ys (B0 ts)->Q (.ref r) H'
section
theorem QY:Ao ["layer"] ["layer"] (Ad Gk):=Bt
theorem Uf:(["sentence","part"]:List Str).Nodup:=by decide +kernel
theorem OT(F:Fun K "parts_of" "parts_of" Gk f fd):FnOk P w K mg bz AH 1 f fd ["layer"] (Jh K):=by
 refine F.ok QY (fun vs H Q E h=>?_) (fun ai A outer s H vs Q E hr h=>?_)
 ·obtain⟨a,xs,ts,rfl,_⟩:=h
  rfl
 obtain⟨a,xs,ts,rfl,hS,hp,aw,q⟩:=h
 refine⟨_,Ae (Ai (Qm (N:=["sentence","part"]) (js:=[none,none]) (cl:=[]) ⟨rfl,rfl,rfl,zCO _,rfl,rfl,rfl⟩ (AS (pv 0)) (fun _=>AC (i:=0) Uf rfl (Or.inl rfl))
  (fun _=>BW (Al Mu (AD AN (pv 0) Ag (fun _ _=>rfl)) Av (As _))) (fun _=>SH (E6 QE (pv 0) (Fc Ag) Jo)) (fun _=>AC (i:=1) Uf rfl (Or.inl rfl)) (fun _=>Bx) (fun _=>pv 1))),?_⟩
 refine⟨_,rfl,a,rfl,⟨_,hS⟩,fun cc acc ah=>A1 (K:=K) (a:=a) (xs:=xs) (fun i σ H2=>∃(v0 v1:Option V)(ys:List V),σ=[v0,v1]/\Same H H2/\H2 acc=some (.lst ys)/\Pile H2 ys (B0 (ts.take i))) ?_ ?_ ?_ ?_⟩
 ·exact⟨none,none,[],rfl,Af ah _,upd_same,.nil⟩
 ·rintro i σ H2 _ ⟨v0,v1,ys,rfl,s2,_,_⟩
  exact s2.seq hS
 ·rintro i x σ H2 hx ⟨v0,v1,ys,rfl,s2,ha2,cf⟩
  obtain⟨t,ht,bH⟩:=D2 hp hx
  have hat2:=bH.keep (TS.same s2)
  obtain⟨p,z,cs,rfl,au,hk⟩:=Sr hat2
  have zstr:∃y,z= .str y:=by
   rcases hk with⟨e,_⟩|⟨_,e,_⟩
   ·exact⟨_,e⟩
   ·exact e
  obtain⟨y,rfl⟩:=zstr
  refine⟨_,rfl,p,_,_,_,rfl,rfl,SqT.of au,Aj (j:=0) rfl,rfl,_,rfl,?_⟩
  rcases hk with⟨e,ek⟩|⟨ne,_,hcs,_,_⟩
  ·refine IP e ?_
   refine⟨_,_,ys,rfl,s2,ha2,?_⟩
   rw[FN ht,ek,zBP]
   exact cf
  ·refine MG ne ?_
   refine⟨_,rfl,_,rfl,p,_,rfl,SqT.of au,QJ,fun c hc=>⟨c,rfl,⟨_,SqT.of upd_same⟩,Q2 (K:=K) (a:=c) (xs:=DX (V.str y::cs) (some 1) none) (fun j σ H3=>∃(v1:Option V)(ys:List V),σ=[some (.ref p),v1]/\Same H H3/\H3 acc=some (.lst ys)/\H3 c=some (.tup (DX (V.str y::cs) (some 1) none))/\Pile H3 cs (La t)/\Pile H3 ys (B0 (ts.take i)++(La t).take j)) ?_ ?_ ?_ ?_⟩⟩
   ·refine⟨_,ys,rfl,s2.trans (Af hc _),(Af hc _) _ _ ha2,upd_same,hcs.keep (TS.new hc),?_⟩
    rw[List.take_zero,zBP]
    exact cf.keep (TS.new hc)
   ·rintro j σ H3 _ ⟨v1,ys,rfl,s3,_,hc3,_⟩
    exact SqT.of hc3
   ·rintro j u σ H3 hu ⟨v1,ys,rfl,s3,cV,hc3,hcs3,fJ⟩
    rw[TB] at hu
    obtain⟨t2,ht2,gX⟩:=D2 hcs3 hu
    have ag:=fJ.len
    have hb:=Kl (j:=j) ht
    show Cg acc (Ow 1) _ _ _
    refine⟨_,rfl,ys,cV,AG (by omega),?_⟩
    have k3:TS H3 (upd H3 acc (.lst (ys++[u]))):=TS.lst cV
    refine⟨_,ys++[u],rfl,AJ s3 ah _,upd_same,by rw[Ax (DU hc3 cV (by intro z;cases z))];exact hc3,hcs3.keep k3,?_⟩
    rw[zAT,ht2,<-zCF]
    exact (fJ.keep k3).snoc (gX.keep k3)
   ·rintro σ H3 ⟨v1,ys,rfl,s3,cV,hc3,hcs3,fJ⟩
    refine⟨_,_,ys,rfl,s3,cV,?_⟩
    rw[TB] at fJ
    have hl:=hcs3.len
    rw[hl,zAX] at fJ
    rw[FN ht]
    exact fJ
 ·rintro σ H2 ⟨v0,v1,ys,rfl,s2,ha2,cf⟩
  rw[hp.len,zAX] at cf
  exact q acc ys H2 s2 ha2 cf
end
abbrev Ge:Stmt:=Bu 17
def Mc:Sp:=fun vs H Q _=>∃(k:Nat)(w:Int),vs=[.int (k:Int),.int w]/\Q (.bl (K3 k w)) H
theorem QO(k:Nat)(w:Int):decide (V.int (Builtin.bitAnd (w / 2^((k:Int)).toNat) 1)=V.int 1)=K3 k w:=by
 rw[bitAnd_m1,zB9]
 exact Qn k w
section
theorem QZ:Ao ["letter","world"] ["letter","world"] (Ad Ge):=Bt
theorem Ql(F:Fun K "letter_holds" "letter_holds" Ge f fd):FnOk P w K mg bz AH 1 f fd ["letter","world"] Mc:=by
 refine F.ok QZ (fun vs H Q E h=>?_) (fun ai A outer s H vs Q E hr h=>?_)
 ·obtain⟨k,w,rfl,_⟩:=h
  rfl
 obtain⟨k,wd,rfl,q⟩:=h
 refine⟨_,Ae (Ai (Bo AQ (Au SA (Au S5 (pv 1) (pv 0)) Ag) Ag (As _))),?_⟩
 refine⟨_,rfl,_,rfl,_,_,rfl,rfl,Int.natCast_nonneg k,_,_,rfl,rfl,rfl,?_⟩
 rw[<-QO] at q
 exact q
end
abbrev Et:Stmt:=Bu 18
abbrev FZ:Stmt:=Bu 19
abbrev Eb:Stmt:=Bu 20
def KJ:Sp:=fun vs H Q _=>∃(j:Nat)(a b:Bool),vs=[.str (jn j),.bl a,.bl b]/\Q (.bl (jv j a b)) H
def post:Tr->List Tr
 | .lt k=>[.lt k]
 | .nt t=>post t++[.nt t]
 | .bn j a b=>post a++(post b++[.bn j a b])
theorem OP:∀t:Tr,post t=(La t).flatMap post++[t]
 | .lt k=>rfl
 | .nt t=>by show post t++[.nt t]=(post t++[])++[.nt t];rw[zBP]
 | .bn j a b=>by show post a++(post b++[.bn j a b])=(post a++(post b++[]))++[.bn j a b];rw[zBP,zCF]
theorem De:∀t:Tr,(post t).length=t.size
 | .lt k=>rfl
 | .nt t=>by show (post t++[Tr.nt t]).length=t.size+1;rw[zA,De t];rfl
 | .bn j a b=>by
  show (post a++(post b++[Tr.bn j a b])).length=a.size+b.size+1
  rw[zA,zA,De a,De b]
  show a.size+(b.size+1)=_
  omega
def stp(w:Int)(rs:List Bool):Tr->Option (List Bool)
 | .lt k=>some (K3 k w::rs)
 | .nt _=>match rs with
  | a::r=>some ((!a)::r)
  | []=>none
 | .bn j _ _=>match rs with
  | b::a::r=>some (jv j a b::r)
  | _=>none
def run(w:Int):List Tr->List Bool->Option (List Bool)
 | [],rs=>some rs
 | u::r,rs=>match stp w rs u with
  | some ix=>run w r ix
  | none=>none
theorem He(w:Int):∀(a b:List Tr)(rs ix:List Bool),run w a rs=some ix->run w (a++b) rs=run w b ix
 | [],b,rs,ix,h=>by cases h;rfl
 | u::r,b,rs,ix,h=>by
  unfold run at h
  show (match stp w rs u with | some ix=>run w (r++b) ix | none=>none)=run w b ix
  cases e:stp w rs u with
  | none=>rw[e] at h;cases h
  | some z=>rw[e] at h;exact He w r b z ix h
theorem Fe(w:Int):∀(t:Tr)(rs:List Bool),run w (post t) rs=some (tv t w::rs)
 | .lt k,rs=>rfl
 | .nt t,rs=>by
  show run w (post t++[.nt t]) rs=_
  rw[He w _ _ _ _ (Fe w t rs)]
  rfl
 | .bn j a b,rs=>by
  show run w (post a++(post b++[.bn j a b])) rs=_
  rw[He w _ _ _ _ (Fe w a rs),He w _ _ _ _ (Fe w b _)]
  rfl
def M1:Sp:=fun vs H Q _=>∃(v:V)(t:Tr),vs=[v]/\t.At H v/\t.size<=800/\∀(l:Addr)(ys:List V)(H':Hp),Same H H'->H l=none->H' l=some (.lst ys)->Pile H' ys (post t)->Q (.ref l) H'
def K8:Sp:=fun vs H Q _=>∃(l:Addr)(ys:List V)(t:Tr)(w:Int),vs=[.ref l,.int w]/\H l=some (.lst ys)/\Pile H ys (post t)/\t.ok 5/\t.size<=800/\∀(H':Hp),Same H H'->Q (.bl (tv t w)) H'
section
theorem OH:Ao ["kind","one","other"] ["kind","one","other"] (Ad Et):=Bt
theorem Nn(F:Fun K "joined" "joined" Et f fd):FnOk P w K mg bz AH 1 f fd ["kind","one","other"] KJ:=by
 refine F.ok OH (fun vs H Q E h=>?_) (fun ai A outer s H vs Q E hr h=>?_)
 ·obtain⟨j,a,b,rfl,_⟩:=h
  rfl
 obtain⟨j,va,vb,rfl,q2⟩:=h
 refine⟨_,Ac (AB (Al AQ (pv 0) Av (As _))
   (Ae (Ai (HJ (pv 1) (DB (pv 2)))))
   Ap)
  (Ac (AB (Al AQ (pv 0) Av (As _))
   (Ae (Ai (Mv (pv 1) (DB (pv 2)))))
   Ap)
  (Ac (AB (Al AQ (pv 0) Av (As _))
   (Ae (Ai (Mv (Hu (pv 1)) (DB (pv 2)))))
   Ap)
  (Ae (Ai (Bo AQ (pv 1) (pv 2) (As _)))))),?_⟩
 refine⟨_,rfl,rfl,_,rfl,?_⟩
 by_cases h0:V.str (jn j)=V.str "and"
 ·refine Bd h0 ?_
  obtain rfl:=Vd h0
  cases va with
  | false=>exact⟨_,rfl,_,rfl,A7 q2⟩
  | true=>exact⟨_,rfl,_,rfl,Bh ⟨_,rfl,q2⟩⟩
 refine A6 h0 ?_
 refine⟨_,rfl,rfl,_,rfl,?_⟩
 by_cases h1:V.str (jn j)=V.str "or"
 ·refine Bd h1 ?_
  obtain rfl:=Va h1
  cases va with
  | false=>exact⟨_,rfl,_,rfl,A7 ⟨_,rfl,q2⟩⟩
  | true=>exact⟨_,rfl,_,rfl,Bh q2⟩
 refine A6 h1 ?_
 refine⟨_,rfl,rfl,_,rfl,?_⟩
 by_cases h2:V.str (jn j)=V.str "if"
 ·refine Bd h2 ?_
  obtain rfl:=Vf h2
  cases va with
  | false=>exact⟨_,rfl,_,rfl,_,rfl,Bh q2⟩
  | true=>exact⟨_,rfl,_,rfl,_,rfl,A7 ⟨_,rfl,q2⟩⟩
 refine A6 h2 ?_
 rw[Vh h0 h1 h2] at q2
 refine⟨_,rfl,_,rfl,rfl,?_⟩
 rw[Se]
 exact q2
def Vb(H:Hp)(v:V)(t:Tr)(sl wl:Addr)(m:Nat):L2.St->Hp->Prop:=fun σ H3=>∃(ys zs:List V)(ss ws:List Tr)(pp:Option V),σ=[some v,some (.ref sl),some (.ref wl),pp]/\Same H H3/\
 H3 sl=some (.lst ys)/\H3 wl=some (.lst zs)/\Pile H3 ys ss/\Pile H3 zs ws/\ws.flatMap post++ss.reverse=post t/\m=sz ws
theorem scSteps:Ao ["sentence","steps","waiting","step"] ["sentence"] (Ad FZ):=Bt
theorem KN{H:Hp}:∀{xs:List V}{ts:List Tr},Pile H xs ts->Pile H xs.reverse ts.reverse
 | _,_,.nil=>.nil
 | _,_,.cons r q=>by
  rw[zC,zC]
  exact (KN q).snoc r
theorem J2{H:Hp}:∀{xs ys:List V}{ts us:List Tr},Pile H xs ts->Pile H ys us->Pile H (xs++ys) (ts++us)
 | _,_,_,_,.nil,q=>q
 | _,_,_,_,.cons r q,q2=>.cons r (J2 q q2)
theorem OE(F:Fun K "steps_of" "steps_of" FZ f fd)(GP:FnOk P w K mg bz AH 1 g gd ["layer"] (Jh K))(CP:AL K mg "parts_of" g gd ["layer"]):FnOk P w K mg bz AH 2 f fd ["sentence"] M1:=by
 refine F.ok scSteps (fun vs H Q E h=>?_) (fun ai A outer s H vs Q E hr h=>?_)
 ·obtain⟨v,t,rfl,_⟩:=h
  rfl
 obtain⟨v,t,rfl,ha,hs,q⟩:=h
 refine⟨_,Ac (Ar (i:=1) scSteps.nd rfl (Or.inl rfl) (AI Ab))
  (Ac (Ar (i:=2) scSteps.nd rfl (Or.inl rfl) (AI (Aa (pv 0) Ab)))
  (Ac (HM zAW (D4 (pv 2) (fun _=>rfl))
   (Ac (Ar (i:=3) scSteps.nd rfl (Or.inl rfl) (Cl zAD zBE zBF Dv (pv 2)))
   (Ac (AW (B1 zAD zAK zAL A4 (pv 1) (Aa (pv 3) Ab)))
   (Ae (AW (B1 zAD PySem.F.slot_list_extend PySem.F.type_list_extend NM (pv 2) (Aa (Ah GP hr (by rfl) CP.m CP.k CP.b .nil Ak (Aa (AI (Aa (pv 3) Ab)) Ab)) Ab)))))))
  (Ac (AW (Cl zAD PySem.F.slot_list_reverse PySem.F.type_list_reverse HS (pv 1)))
  (Ae (Ai (pv 1)))))),?_⟩
 refine⟨J1,fun sl aX=>?_⟩
 have s1:=Af aX (.lst [])
 refine⟨_,rfl,Jq,fun wl cx=>?_⟩
 have s2:=Af cx (.lst [v])
 have nsw:sl≠wl:=An (upd_same (H:=H) (a:=sl) (o:=.lst [])) cx
 have iS:H wl=none:=s1.free cx
 have e1:sz [t]=t.size:=by unfold sz;simp
 refine⟨Vb H v t sl wl,⟨_,[],[v],[],[t],none,rfl,s1.trans s2,s2 _ _ upd_same,upd_same,.nil,.cons (ha.keep ((TS.same s1).trans (TS.same s2))) .nil,by simp,rfl⟩,?_⟩
 rintro m σ H3 ⟨ys,zs,ss,ws,pp,rfl,s3,hs3,hw3,p3,z3,e3,rfl⟩
 have bnd:sz ws+ss.length<=800:=by
  have h1:(ws.flatMap post).length=sz ws:=by
   clear e3 z3
   induction ws with
   | nil=>rfl
   | cons u r ih=>
    show (post u++r.flatMap post).length=_
    rw[zA,De,ih,Jw]
  have h2:=congrArg List.length e3
  rw[zA,zCN,h1,De] at h2
  omega
 refine⟨_,rfl,_,.inl ⟨zs,SqL.of hw3,rfl⟩,?_⟩
 refine B9 (fun c=>?_) (fun c=>?_)
 ·refine⟨fun σ' H'=>∃m',m'<sz ws/\Vb H v t sl wl m' σ' H',fun _ _ h=>h,?_⟩
  have fw:0<ws.length:=by
   rw[<-z3.len]
   cases zs with
   | nil=>exact absurd c (by decide)
   | cons _ _=>exact zBM _
  obtain⟨fL,y,ws',u,rfl,rfl,q3,a3⟩:=z3.last fw
  have jg:=BM ws' u
  have hku:=Pk u
  have hwl':=JP ws'
  have aJ:=p3.len
  have aC:=q3.len
  refine⟨_,rfl,.inl ⟨rfl,_,SqL.of hw3⟩,wl,_,y,rfl,rfl,hw3,Fl _ _,?_⟩
  have t4:HT2.TS H3 (upd H3 wl (.lst (fL++[y]).dropLast)):=TS.lst hw3
  have s4:Same H (upd H3 wl (.lst (fL++[y]).dropLast)):=AJ s3 iS _
  rw[zBW] at t4 s4
  have hs4:(upd H3 wl (.lst fL)) sl=some (.lst ys):=by rw[Ax nsw];exact hs3
  rw[zBW]
  refine⟨_,rfl,.inl ⟨rfl,_,SqL.of hs4⟩,_,rfl,sl,_,_,rfl,rfl,hs4,AG (by omega),?_⟩
  have t5:HT2.TS (upd H3 wl (.lst fL)) (upd (upd H3 wl (.lst fL)) sl (.lst (ys++[y]))):=TS.lst hs4
  have s5:Same H (upd (upd H3 wl (.lst fL)) sl (.lst (ys++[y]))):=AJ s4 aX _
  have hw5:(upd (upd H3 wl (.lst fL)) sl (.lst (ys++[y]))) wl=some (.lst fL):=by rw[Ax nsw.symm,upd_same]
  have hs5:(upd (upd H3 wl (.lst fL)) sl (.lst (ys++[y]))) sl=some (.lst (ys++[y])):=upd_same
  have a5:=a3.keep (t4.trans t5)
  have p5:=(p3.snoc a3).keep (t4.trans t5)
  have q5:=q3.keep (t4.trans t5)
  revert s5 hw5 hs5 a5 p5 q5
  generalize (upd (upd H3 wl (.lst fL)) sl (.lst (ys++[y])))=H5
  intro s5 hw5 hs5 a5 p5 q5
  refine⟨_,rfl,.inl ⟨rfl,_,SqL.of hw5⟩,_,rfl,Jq,fun pl ar=>?_⟩
  have s6:=Af ar (.lst [y])
  have e1:sz [u]=u.size:=by unfold sz;simp
  refine⟨pl,[y],[u],rfl,SqL.of upd_same,.cons (a5.keep (TS.same s6)) .nil,by omega,fun r ks H7 s7 hr7 p7=>?_⟩
  have ju:=p7.len
  rw[KR] at p7 ju
  have jo:=JP (La u)
  have hw7:=s7 _ _ (s6 _ _ hw5)
  refine⟨wl,r,fL,ks,rfl,rfl,hw7,hr7,K5 (by omega),?_⟩
  have t8:HT2.TS H7 (upd H7 wl (.lst (fL++ks))):=TS.lst hw7
  have k57:=(TS.same s6).trans (TS.same s7)
  refine⟨_,?_,ys++[y],fL++ks,ss++[u],ws'++La u,_,rfl,AJ (s5.trans (s6.trans s7)) iS _,?_,upd_same,p5.keep (k57.trans t8),(J2 (q5.keep k57) p7).keep t8,?_,rfl⟩
  ·rw[P9];omega
  ·rw[Ax nsw];exact s7 _ _ (s6 _ _ hs5)
  ·rw[<-e3,List.flatMap_append,List.flatMap_append,List.reverse_append]
   show ((ws'.flatMap post++(La u).flatMap post)++([u]++ss.reverse))=(ws'.flatMap post++(post u++[]))++ss.reverse
   rw[zBP,OP u]
   simp only[zCF]
 ·have e:ws=[]:=by
   cases z3 with
   | nil=>rfl
   | cons h1 h2=>exact absurd rfl c
  subst e
  refine⟨_,rfl,.inl ⟨rfl,_,SqL.of hs3⟩,sl,ys,rfl,rfl,hs3,?_⟩
  refine⟨_,rfl,q sl ys.reverse _ (AJ s3 aX _) aX upd_same ?_⟩
  have e4:ss.reverse=post t:=e3
  rw[<-e4]
  exact (KN p3).keep (TS.lst hs3)
theorem scTrueBy:Ao ["steps","world","truths","step","other","one"] ["steps","world"] (Ad Eb):=Bt
def tl(rs:List Bool):List V:=rs.reverse.map V.bl
theorem Ey(b:Bool)(rs:List Bool):tl (b::rs)=tl rs++[.bl b]:=by unfold tl;simp
theorem L9(rs:List Bool):(tl rs).length=rs.length:=by unfold tl;simp
theorem Oe(F:Fun K "true_by" "true_by" Eb f fd)(GH:FnOk P w K mg bz AH 1 g gd ["letter","world"] Mc)(CH:AL K mg "letter_holds" g gd ["letter","world"])(GJ:FnOk P w K mg bz AH 1 g2 cA ["kind","one","other"] KJ)(CJ:AL K mg "joined" g2 cA ["kind","one","other"]):FnOk P w K mg bz AH 2 f fd ["steps","world"] K8:=by
 refine F.ok scTrueBy (fun vs H Q E h=>?_) (fun ai A outer s H vs Q E hr h=>?_)
 ·obtain⟨v,ys,t,wd,rfl,_⟩:=h
  rfl
 obtain⟨l,ys,t,wd,rfl,hl,hp,hok,aw,q⟩:=h
 have ak:Room 1 _:=hr
 refine⟨_,Ac (Ar (i:=2) scTrueBy.nd rfl (Or.inl rfl) (AI Ab))
  (Ac (Bz zAW rfl (AS (pv 0)) (AC (i:=3) scTrueBy.nd rfl (Or.inl rfl))
   (Ae (AB (Al AQ (AD AN (pv 3) Ag (fun _ _=>rfl)) Av (As _))
    (Ae (AW (B1 zAD zAK zAL A4 (pv 2) (Aa (Ah GH ak (by rfl) CH.m CH.k CH.b .nil Ak (Aa (AD AN (pv 3) Ag (fun _ _=>rfl)) (Aa (pv 1) Ab))) Ab))))
    (Ae (AB (Al AQ (AD AN (pv 3) Ag (fun _ _=>rfl)) Av (As _))
     (Ae (AW (B1 zAD zAK zAL A4 (pv 2) (Aa (Hu (Cl zAD zBE zBF Dv (pv 2))) Ab))))
     (Ac (Ar (i:=4) scTrueBy.nd rfl (Or.inl rfl) (Cl zAD zBE zBF Dv (pv 2)))
     (Ac (Ar (i:=5) scTrueBy.nd rfl (Or.inl rfl) (Cl zAD zBE zBF Dv (pv 2)))
     (Ae (AW (B1 zAD zAK zAL A4 (pv 2) (Aa (Ah GJ ak (by rfl) CJ.m CJ.k CJ.b .nil Ak (Aa (AD AN (pv 3) Ag (fun _ _=>rfl)) (Aa (pv 5) (Aa (pv 4) Ab)))) Ab)))))))))))
  (Ae (Ai (AD AK (pv 2) Ag (fun _ _=>rfl))))),?_⟩
 refine⟨J1,fun tr htr=>?_⟩
 have s1:=Af htr (.lst [])
 have ag:=hp.len
 have ar:=De t
 refine⟨_,rfl,l,rfl,⟨_,SqL.of (s1 _ _ hl)⟩,A1 (K:=K) (a:=l) (xs:=ys) (fun i σ H3=>∃(v0 v1 v2:Option V)(rs:List Bool),σ=[some (.ref l),some (.int wd),some (.ref tr),v0,v1,v2]/\Same H H3/\H3 tr=some (.lst (tl rs))/\rs.length<=i/\run wd ((post t).drop i) rs=some [tv t wd]) ?_ ?_ ?_ ?_⟩
 ·exact⟨_,_,_,[],rfl,s1,upd_same,zAA _,Fe wd t []⟩
 ·rintro i σ H3 _ ⟨v0,v1,v2,rs,rfl,s3,_⟩
  exact SqL.of (s3 _ _ hl)
 ·rintro i x σ H3 hx ⟨v0,v1,v2,rs,rfl,s3,h3,hlr,hrun⟩
  obtain⟨u,hu,bH⟩:=D2 hp hx
  have gX:=bH.keep (TS.same s3)
  have hi:i<ys.length:=(List.getElem?_eq_some_iff.mp hx).1
  obtain⟨hi2,eu⟩:=List.getElem?_eq_some_iff.mp hu
  rw[zBK hi2,eu] at hrun
  unfold run at hrun
  cases u with
  | lt k=>
   obtain⟨p,rfl,au⟩:=gX
   refine⟨_,rfl,p,_,_,_,rfl,rfl,SqT.of au,Aj (j:=0) rfl,rfl,_,rfl,?_⟩
   refine Bd rfl ?_
   refine⟨_,rfl,.inl ⟨rfl,_,SqL.of h3⟩,_,rfl,p,_,_,_,rfl,rfl,SqT.of au,Aj (j:=1) rfl,_,rfl,k,wd,rfl,?_⟩
   refine⟨tr,_,_,rfl,rfl,h3,AG (by rw[L9];omega),?_⟩
   refine⟨_,_,_,K3 k wd::rs,rfl,AJ s3 htr _,?_,by show rs.length+1<=i+1;omega,hrun⟩
   rw[upd_same,Ey]
  | nt u=>
   obtain⟨p,c,rfl,au,_⟩:=gX
   refine⟨_,rfl,p,_,_,_,rfl,rfl,SqT.of au,Aj (j:=0) rfl,rfl,_,rfl,?_⟩
   refine A6 (by decide) ?_
   refine⟨_,rfl,p,_,_,_,rfl,rfl,SqT.of au,Aj (j:=0) rfl,rfl,_,rfl,?_⟩
   refine Bd rfl ?_
   cases rs with
   | nil=>cases hrun
   | cons a r=>
    rw[Ey] at h3
    have hlr':r.length+1<=i:=hlr
    refine⟨_,rfl,.inl ⟨rfl,_,SqL.of h3⟩,_,rfl,.inl ⟨rfl,_,SqL.of h3⟩,tr,_,_,rfl,rfl,h3,Fl _ _,_,rfl,?_⟩
    refine⟨tr,_,_,rfl,rfl,upd_same,?_,?_⟩
    ·rw[zBW];exact AG (by rw[L9];omega)
    refine⟨_,_,_,(!a)::r,rfl,AJ (AJ s3 htr _) htr _,?_,by show r.length+1<=i+1;omega,hrun⟩
    rw[upd_same,Ey,zBW]
  | bn j u1 u2=>
   obtain⟨p,c1,c2,rfl,au,_⟩:=gX
   refine⟨_,rfl,p,_,_,_,rfl,rfl,SqT.of au,Aj (j:=0) rfl,rfl,_,rfl,?_⟩
   refine A6 JU ?_
   refine⟨_,rfl,p,_,_,_,rfl,rfl,SqT.of au,Aj (j:=0) rfl,rfl,_,rfl,?_⟩
   refine A6 Oy ?_
   match rs,hrun,h3,hlr with
   | [],hrun,_,_=>cases hrun
   | [_],hrun,_,_=>cases hrun
   | b::a::r,hrun,h3,hlr=>
    rw[Ey,Ey] at h3
    have hlr':r.length+1+1<=i:=hlr
    refine⟨_,rfl,.inl ⟨rfl,_,SqL.of h3⟩,tr,_,_,rfl,rfl,h3,Fl _ _,?_⟩
    have h4:(upd H3 tr (.lst ((tl r++[V.bl a])++[V.bl b]).dropLast)) tr=some (.lst (tl r++[V.bl a])):=by rw[upd_same,zBW]
    have s4:Same H (upd H3 tr (.lst ((tl r++[V.bl a])++[V.bl b]).dropLast)):=AJ s3 htr _
    have p4:(upd H3 tr (.lst ((tl r++[V.bl a])++[V.bl b]).dropLast)) p=some (.tup [.str (jn j),c1,c2]):=by rw[Ax (DU au h3 (by intro z;cases z))];exact au
    revert h4 s4 p4
    generalize upd H3 tr (.lst ((tl r++[V.bl a])++[V.bl b]).dropLast)=H4
    intro h4 s4 p4
    refine⟨_,rfl,.inl ⟨rfl,_,SqL.of h4⟩,tr,_,_,rfl,rfl,h4,Fl _ _,?_⟩
    have h5:(upd H4 tr (.lst (tl r++[V.bl a]).dropLast)) tr=some (.lst (tl r)):=by rw[upd_same,zBW]
    have s5:Same H (upd H4 tr (.lst (tl r++[V.bl a]).dropLast)):=AJ s4 htr _
    have p5:(upd H4 tr (.lst (tl r++[V.bl a]).dropLast)) p=some (.tup [.str (jn j),c1,c2]):=by rw[Ax (DU p4 h4 (by intro z;cases z))];exact p4
    revert h5 s5 p5
    generalize upd H4 tr (.lst (tl r++[V.bl a]).dropLast)=H5
    intro h5 s5 p5
    refine⟨_,rfl,.inl ⟨rfl,_,SqL.of h5⟩,_,rfl,p,_,_,_,rfl,rfl,SqT.of p5,Aj (j:=0) rfl,_,rfl,_,rfl,j,a,b,rfl,?_⟩
    refine⟨tr,_,_,rfl,rfl,h5,AG (by rw[L9];omega),?_⟩
    refine⟨_,_,_,jv j a b::r,rfl,AJ s5 htr _,?_,by show r.length+1<=i+1;omega,hrun⟩
    rw[upd_same,Ey]
 ·rintro σ H3 ⟨v0,v1,v2,rs,rfl,s3,h3,hlr,hrun⟩
  rw[ag,zCL] at hrun
  cases hrun
  exact⟨_,rfl,tr,_,_,_,rfl,rfl,SqL.of h3,Aj (j:=0) rfl,q _ s3⟩
end
abbrev Cc:Stmt:=Bu 21
def BB(K:PySem.W.Frag):Sp:=fun vs H Q _=>∃(v:V)(t:Tr)(r:Addr)(row:List Int),vs=[v,.ref r]/\t.At H v/\t.ok 5/\t.size<=800/\SqL K H r (row.map V.int)/\Wr row/\∀(l:Addr)(H':Hp),Same H H'->H l=none->AM H' l (row.filter fun k=>tv t k == true)->Q (.ref l) H'
section
theorem scWorldsOf:Ao ["sentence","room","steps"] ["sentence","room"] (Ad Cc):=Bt
theorem Kv(F:Fun K "worlds_of" "worlds_of" Cc f fd)(GS:FnOk P w K mg bz AH 2 g gd ["sentence"] M1)(CS:AL K mg "steps_of" g gd ["sentence"])(GB:FnOk P w K mg bz AH 2 g2 cA ["steps","world"] K8)(CB:AL K mg "true_by" g2 cA ["steps","world"]):FnOk P w K mg bz AH 3 f fd ["sentence","room"] (BB K):=by
 refine F.ok scWorldsOf (fun vs H Q E h=>?_) (fun ai A outer s H vs Q E hr h=>?_)
 ·obtain⟨v,t,r,row,rfl,_⟩:=h
  rfl
 obtain⟨v,t,r,row,rfl,ha,hok,hs,hS,hwr,q⟩:=h
 have hl:=hwr.len
 refine⟨_,Ac (Ar (i:=2) scWorldsOf.nd rfl (Or.inr rfl) (Ah GS hr (by rfl) CS.m CS.k CS.b .nil Ak (Aa (pv 0) Ab)))
  (Ae (Ai (Bi (N:=["world","steps"]) (js:=[none,some 2]) (cl:=[("steps",s.heap.objs.size+1)]) ⟨rfl,rfl,rfl,(by intro p hp;simp at hp;rcases hp with rfl<;>rfl),rfl,rfl,rfl⟩ (AS (pv 1)) (fun c1=>(AC (i:=0) (show (["world","steps"]:List Str).Nodup by decide +kernel) rfl (Or.inl rfl))) (fun c1=>(BW (Bg (Ah GB hr (by rfl) CB.m CB.k CB.b .nil Ak (Aa (pv 1) (Aa (pv 0) Ab)))))) (fun c1=>(pv 0))))),?_⟩
 refine⟨_,rfl,v,t,rfl,ha,hs,fun st ys H1 s1 hst0 gD hp=>?_⟩
 refine⟨_,rfl,r,rfl,⟨_,s1.seq hS⟩,fun cc acc ah=>BG (p:=fun k=>tv t k == true) (rest:=[some (.ref st)]) (s1.seq hS) ah (by omega) (fun k hk H2 s2 R hR=>?_) (fun v0 H2 s2 h2=>q acc H2 (s1.trans s2) (s1.free ah) h2) none⟩
 refine⟨_,rfl,_,rfl,st,ys,t,k,rfl,s2 _ _ gD,hp.keep (TS.same s2),hok,hs,fun H3 s3=>⟨_,rfl,?_⟩⟩
 have:=hR H3 s3
 rw[show (tv t k == true)=tv t k by cases tv t k<;>rfl] at this
 exact this
end
abbrev IL:Stmt:=Bu 8
def EO(K:PySem.W.Frag):Sp:=fun vs H Q _=>∃(a b:Addr)(one other:List Int),vs=[.ref a,.ref b]/\SqL K H a (one.map V.int)/\SqL K H b (other.map V.int)/\one.length<64/\other.length<=900/\
 ∀(l:Addr)(H':Hp)(ns:List Int),Same H H'->H l=none->ns.Pairwise (· < ·)->(∀k,k∈ns↔k∈one/\k∈other)->AM H' l ns->Q (.ref l) H'
section
theorem SW:Ao ["one","other"] ["one","other"] (Ad IL):=Bt
theorem Ri(F:Fun K "in_both" "in_both" IL f fd)(T:EV mg):FnOk P w K mg bz AH 1 f fd ["one","other"] (EO K):=by
 refine F.ok SW (fun vs H Q E h=>?_) (fun ai A outer s H vs Q E hr h=>?_)
 ·obtain⟨a,b,one,other,rfl,_⟩:=h
  rfl
 obtain⟨a,b,one,other,rfl,ha,hb,aJ,aC,q⟩:=h
 refine⟨_,Ae (Ai (Az (DI rfl) (by rfl) T.sorted boot_sorted (Aa (Au RP (AF (Ca rfl) (by rfl) T.set boot_set (Aa (pv 0) Ab)) (AF (Ca rfl) (by rfl) T.set boot_set (Aa (pv 1) Ab))) Ab))),?_⟩
 refine⟨_,rfl,a,one,rfl,ha,by omega,fun a1 dk=>?_⟩
 have s1:=Af dk (Bn w a1 (fun k=>decide (k∈one)) one.length)
 refine⟨_,rfl,b,other,rfl,s1.seq hb,by omega,fun b1 bh=>?_⟩
 have s2:=Af bh (Bn w b1 (fun k=>decide (k∈other)) other.length)
 refine⟨a1,b1,_,_,_,_,rfl,rfl,s2 _ _ upd_same,upd_same,fun e=>?_,by omega,fun r ak=>?_⟩
 ·subst e
  rw[upd_same] at bh
  cases bh
 have s3:=Af ak (Bn w r (fun k=>decide (k∈one) && decide (k∈other)) one.length)
 refine⟨r,_,_,rfl,upd_same,aJ,fun l ns hl hp hm=>?_⟩
 have s4:=Af hl (.lst (ns.map V.int))
 exact q l _ ns (s1.trans (s2.trans (s3.trans s4))) ((s1.trans (s2.trans s3)).free hl) hp (fun k=>by rw[hm k,zAN,decide_eq_true_eq,decide_eq_true_eq]) upd_same
end
abbrev Fv:Stmt:=Bu 9
def Dy(K:PySem.W.Frag):Sp:=fun vs H Q _=>∃(a b:Addr)(one other:List Int),vs=[.ref a,.ref b]/\SqL K H a (one.map V.int)/\SqL K H b (other.map V.int)/\one.length<=32/\(∀k∈one,0<=k/\k<32)/\other.length<=900/\
 ∀(l:Addr)(H':Hp)(ns:List Int),Same H H'->H l=none->ns.Pairwise (· < ·)->(∀k,k∈ns↔k∈one/\k∉other)->AM H' l ns->Q (.ref l) H'
section
theorem Rj:Ao ["one","other"] ["one","other"] (Ad Fv):=Bt
theorem Px(F:Fun K "in_first_only" "in_first_only" Fv f fd)(T:EV mg):FnOk P w K mg bz AH 1 f fd ["one","other"] (Dy K):=by
 refine F.ok Rj (fun vs H Q E h=>?_) (fun ai A outer s H vs Q E hr h=>?_)
 ·obtain⟨a,b,one,other,rfl,_⟩:=h
  rfl
 obtain⟨a,b,one,other,rfl,ha,hb,aJ,iw,aC,q⟩:=h
 refine⟨_,Ae (Ai (Az (JW rfl) (by rfl) T.sorted boot_sorted (Aa (Au QP (AF (Ca rfl) (by rfl) T.set boot_set (Aa (pv 0) Ab)) (AF (Ca rfl) (by rfl) T.set boot_set (Aa (pv 1) Ab))) Ab))),?_⟩
 refine⟨_,rfl,a,one,rfl,ha,by omega,fun a1 dk=>?_⟩
 have s1:=Af dk (Bn w a1 (fun k=>decide (k∈one)) one.length)
 refine⟨_,rfl,b,other,rfl,s1.seq hb,by omega,fun b1 bh=>?_⟩
 have s2:=Af bh (Bn w b1 (fun k=>decide (k∈other)) other.length)
 refine⟨a1,b1,_,_,_,_,rfl,rfl,s2 _ _ upd_same,upd_same,fun e=>?_,aJ,by omega,fun k hk=>iw k (of_decide_eq_true hk),fun r ak=>?_⟩
 ·subst e
  rw[upd_same] at bh
  cases bh
 have s3:=Af ak (Om w r (fun k=>decide (k∈one) && !decide (k∈other)) one.length)
 refine⟨r,_,_,rfl,upd_same,by omega,fun l ns hl hp hm=>?_⟩
 have s4:=Af hl (.lst (ns.map V.int))
 exact q l _ ns (s1.trans (s2.trans (s3.trans s4))) ((s1.trans (s2.trans s3)).free hl) hp (fun k=>by rw[hm k,zAN,decide_eq_true_eq,Bool.not_eq_true',decide_eq_false_iff_not]) upd_same
end
abbrev FS:Stmt:=Bu 12
def Hb(K:PySem.W.Frag):Sp:=fun vs H Q _=>∃(a b:Addr)(one other:List Int),vs=[.ref a,.ref b]/\SqL K H a (one.map V.int)/\SqL K H b (other.map V.int)/\one.length<64/\other.length<=900/\
 ∀(H':Hp),Same H H'->Q (.bl (one.any fun k=>decide (k∈other))) H'
section
theorem RN:Ao ["one","other"] ["one","other"] (Ad FS):=Bt
theorem PK(F:Fun K "some_within" "some_within" FS f fd)(B:Bl mg)(GB:FnOk P w K mg bz AH 1 g gd ["one","other"] (EO K))(CB:AL K mg "in_both" g gd ["one","other"]):FnOk P w K mg bz AH 2 f fd ["one","other"] (Hb K):=by
 refine F.ok RN (fun vs H Q E h=>?_) (fun ai A outer s H vs Q E hr h=>?_)
 ·obtain⟨a,b,one,other,rfl,_⟩:=h
  rfl
 obtain⟨a,b,one,other,rfl,ha,hb,aJ,aC,q⟩:=h
 refine⟨_,Ae (Ai (Bo Fo (Az Ay (by rfl) B.len PySem.boot_len (Aa (Ah GB hr (by rfl) CB.m CB.k CB.b .nil Ak (Aa (pv 0) (Aa (pv 1) Ab))) Ab)) Ag (As _))),?_⟩
 refine⟨_,rfl,_,rfl,a,b,one,other,rfl,ha,hb,aJ,aC,fun l H' ns s1 hl hp hm ak=>?_⟩
 refine⟨l,_,rfl,.inl (SqL.of ak),_,_,rfl,rfl,?_⟩
 have e:decide ((((ns.map V.int).length:Nat):Int)>0)=one.any fun k=>decide (k∈other):=by
  rw[List.length_map]
  cases h:one.any fun k=>decide (k∈other) with
  | true=>
   obtain⟨k,h1,h2⟩:=List.any_eq_true.mp h
   have:=zC0 ((hm k).mpr ⟨h1,of_decide_eq_true h2⟩)
   exact decide_eq_true (by omega)
  | false=>
   cases ns with
   | nil=>rfl
   | cons k ns=>
    obtain⟨h1,h2⟩:=(hm k).mp List.mem_cons_self
    rw[zDO] at h
    exact absurd (decide_eq_true h2) (h k h1)
 have:=q H' s1
 rw[<-e] at this
 exact this
end
abbrev Nd:Stmt:=Bu 10
def ES(rs:List (List Int)):Nat:=(rs.map List.length).sum
def M7(K:PySem.W.Frag):Sp:=fun vs H Q _=>∃(a:Addr)(xs:List V)(rs:List (List Int)),vs=[.ref a]/\SqL K H a xs/\RowsAt H xs rs/\ES rs<64/\
 ∀(l:Addr)(H':Hp)(ns:List Int),Same H H'->H l=none->ns.Pairwise (· < ·)->(∀k,k∈ns↔∃row∈rs,k∈row)->AM H' l ns->Q (.ref l) H'
theorem U5(h:tb D σ H):DO NH tb D σ H:=by
 show if true=true then tb D σ H else D.nx σ H
 rw[if_pos rfl]
 exact h
theorem NO{rs:List (List Int)}{i:Nat}{row:List Int}(h:rs[i]? = some row):ES (rs.take (i+1))=ES (rs.take i)+row.length:=by
 have e:rs.take (i+1)=rs.take i++[row]:=by rw[zAT,h];rfl
 unfold ES
 rw[e,zAM,zC6]
 simp
theorem Q8:ES (rs.take i)<=ES rs:=by
 have e:=zB8 i rs
 have:ES rs=ES (rs.take i)+ES (rs.drop i):=by
  conv=>lhs;rw[<-e]
  unfold ES
  rw[zAM,zC6]
 omega
section
theorem TN:Ao ["rows"] ["rows"] (Ad Nd):=Bt
theorem Te(F:Fun K "in_any" "in_any" Nd f fd)(T:EV mg):FnOk P w K mg bz AH 1 f fd ["rows"] (M7 K):=by
 refine F.ok TN (fun vs H Q E h=>?_) (fun ai A outer s H vs Q E hr h=>?_)
 ·obtain⟨a,xs,rs,rfl,_⟩:=h
  rfl
 obtain⟨a,xs,rs,rfl,hS,hR,h64,q⟩:=h
 refine⟨_,Ae (Ai (Az (DI rfl) (by rfl) T.sorted boot_sorted (Aa (Ol (N:=["row","world"]) (js:=[none,none]) (cl:=[]) ⟨rfl,rfl,rfl,zCO _,rfl,rfl,rfl⟩ (AS (pv 0)) (fun c1=>(AC (i:=0) (show (["row","world"]:List Str).Nodup by decide +kernel) rfl (Or.inl rfl))) (fun c1=>Bx) (fun c1=>(AS (pv 0))) (fun c1=>(AC (i:=1) (show (["row","world"]:List Str).Nodup by decide +kernel) rfl (Or.inl rfl))) (fun c1=>Bx) (fun c1=>(pv 1))) Ab))),?_⟩
 refine⟨_,rfl,a,rfl,⟨_,hS⟩,fun cc acc ah=>A1 (K:=K) (a:=a) (xs:=xs) (fun i σ H2=>∃(v0 v1:Option V)(S:Int->Bool)(n:Nat),σ=[v0,v1]/\Same H H2/\H2 acc=some (Bn w acc S n)/\(∀k,S k=true↔∃row∈rs.take i,k∈row)/\n<=ES (rs.take i)) ?_ ?_ ?_ ?_⟩
 ·exact⟨none,none,_,0,rfl,Af ah _,upd_same,fun k=>by simp,zA9 _⟩
 ·rintro i σ H2 _ ⟨v0,v1,S,n,rfl,s2,_⟩
  exact s2.seq hS
 ·rintro i x σ H2 hx ⟨v0,v1,S,n,rfl,s2,ha2,aW,gs⟩
  obtain⟨row,p,hrow,rfl,hp⟩:=hR.get hx
  have aO:=NO hrow
  have hle:=Q8 (rs:=rs) (i:=i+1)
  refine U5 ?_
  refine⟨_,rfl,p,rfl,⟨_,SqL.of (s2 _ _ hp)⟩,A1 (K:=K) (a:=p) (xs:=row.map V.int) (fun j σ H3=>∃(v1:Option V)(S:Int->Bool)(n:Nat),σ=[some (.ref p),v1]/\Same H H3/\H3 acc=some (Bn w acc S n)/\(∀k,S k=true↔(∃row∈rs.take i,k∈row)\/k∈row.take j)/\n<=ES (rs.take i)+j) ?_ ?_ ?_ ?_⟩
  ·exact⟨_,S,n,rfl,s2,ha2,fun k=>by rw[aW k];simp,gs⟩
  ·rintro j σ H3 _ ⟨v1,S,n,rfl,s3,_⟩
   exact SqL.of (s3 _ _ hp)
  ·rintro j u σ H3 hu ⟨v1,S,n,rfl,s3,cV,hm3,gY⟩
   rw[List.getElem?_map] at hu
   obtain⟨k0,ir,rfl⟩:=Option.map_eq_some_iff.mp hu
   have hj:=(List.getElem?_eq_some_iff.mp ir).1
   have et:row.take (j+1)=row.take j++[k0]:=by rw[zAT,ir];rfl
   show Jf w acc (Ow 1) _ _ _
   refine⟨_,rfl,k0,S,n,rfl,cV,by omega,?_⟩
   refine⟨_,_,n+1,rfl,AJ s3 ah _,upd_same,fun k=>?_,by omega⟩
   rw[zBJ,hm3 k,decide_eq_true_eq,et,zC7,zB1,or_assoc]
  ·rintro σ H3 ⟨v1,S,n,rfl,s3,cV,hm3,gY⟩
   rw[List.length_map] at hm3 gY
   rw[zAX] at hm3
   refine⟨_,_,S,n,rfl,s3,cV,fun k=>?_,by omega⟩
   have e:rs.take (i+1)=rs.take i++[row]:=by rw[zAT,hrow];rfl
   rw[hm3 k,e]
   constructor
   ·rintro (⟨r,h1,h2⟩|h)
    ·exact⟨r,zBU _ h1,h2⟩
    ·exact⟨row,zAY _ List.mem_cons_self,h⟩
   ·rintro⟨r,h1,h2⟩
    rcases List.mem_append.mp h1 with z | z
    ·exact .inl ⟨r,z,h2⟩
    ·rw[List.mem_singleton.mp z] at h2;exact .inr h2
 ·rintro σ H2 ⟨v0,v1,S,n,rfl,s2,ha2,aW,gs⟩
  rw[hR.len,zAX] at aW gs
  refine⟨acc,S,n,rfl,ha2,by omega,fun l ns hl hp hm=>?_⟩
  have s4:=Af hl (.lst (ns.map V.int))
  exact q l _ ns (s2.trans s4) (s2.free hl) hp (fun k=>by rw[hm k,aW k]) upd_same
end
abbrev FD:Stmt:=Bu 11
abbrev FG:Stmt:=Bu 28
def Hm(K:PySem.W.Frag):Sp:=fun vs H Q _=>∃(a b:Addr)(one other:List Int),vs=[.ref a,.ref b]/\SqL K H a (one.map V.int)/\SqL K H b (other.map V.int)/\one.length<=32/\(∀k∈one,0<=k/\k<32)/\other.length<=900/\
 ∀(H':Hp),Same H H'->Q (.bl (one.all fun k=>decide (k∈other))) H'
def Fn(K:PySem.W.Frag):Sp:=fun vs H Q _=>∃(s r:Addr)(seen row:List Int),vs=[.ref s,.ref r]/\SqL K H s (seen.map V.int)/\Wr seen/\seen≠[]/\SqL K H r (row.map V.int)/\Wr row/\∀(H':Hp),Same H H'->Q (.str (Bs seen row)) H'
section
theorem Rh:Ao ["one","other"] ["one","other"] (Ad FD):=Bt
theorem PV(F:Fun K "all_within" "all_within" FD f fd)(B:Bl mg)(GF:FnOk P w K mg bz AH 1 g gd ["one","other"] (Dy K))(CF:AL K mg "in_first_only" g gd ["one","other"]):FnOk P w K mg bz AH 2 f fd ["one","other"] (Hm K):=by
 refine F.ok Rh (fun vs H Q E h=>?_) (fun ai A outer s H vs Q E hr h=>?_)
 ·obtain⟨a,b,one,other,rfl,_⟩:=h
  rfl
 obtain⟨a,b,one,other,rfl,ha,hb,aJ,iw,aC,q⟩:=h
 refine⟨_,Ae (Ai (Bo AQ (Az Ay (by rfl) B.len PySem.boot_len (Aa (Ah GF hr (by rfl) CF.m CF.k CF.b .nil Ak (Aa (pv 0) (Aa (pv 1) Ab))) Ab)) Ag (As _))),?_⟩
 refine⟨_,rfl,_,rfl,a,b,one,other,rfl,ha,hb,aJ,iw,aC,fun l H' ns s1 hl hp hm ak=>?_⟩
 refine⟨l,_,rfl,.inl (SqL.of ak),rfl,?_⟩
 have e:decide (V.int (((ns.map V.int).length:Nat):Int)=V.int 0)=one.all fun k=>decide (k∈other):=by
  rw[List.length_map]
  cases h:one.all fun k=>decide (k∈other) with
  | true=>
   cases ns with
   | nil=>rfl
   | cons k ns=>
    obtain⟨h1,h2⟩:=(hm k).mp List.mem_cons_self
    exact absurd (of_decide_eq_true (List.all_eq_true.mp h k h1)) h2
  | false=>
   obtain⟨k,h1,h2⟩:=List.all_eq_false.mp h
   have:=zC0 ((hm k).mpr ⟨h1,fun z=>h2 (decide_eq_true z)⟩)
   exact decide_eq_false fun z=>by
    injection z with z
    omega
 have:=q H' s1
 rw[<-e] at this
 exact this
theorem Sa:Ao ["seen","worlds"] ["seen","worlds"] (Ad FG):=Bt
theorem O3(F:Fun K "plain" "plain" FG f fd)(GA:FnOk P w K mg bz AH 2 g gd ["one","other"] (Hm K))(CA:AL K mg "all_within" g gd ["one","other"])(GS:FnOk P w K mg bz AH 2 g2 cA ["one","other"] (Hb K))(CS:AL K mg "some_within" g2 cA ["one","other"]):FnOk P w K mg bz AH 3 f fd ["seen","worlds"] (Fn K):=by
 refine F.ok Sa (fun vs H Q E h=>?_) (fun ai A outer s H vs Q E hr h=>?_)
 ·obtain⟨s,r,seen,row,rfl,_⟩:=h
  rfl
 obtain⟨sn,r,seen,row,rfl,hN,wN,av,hS,wS,q⟩:=h
 have l1:=wN.len
 have l2:=wS.len
 refine⟨_,Ac (AB (Bg (Ah GA hr (by rfl) CA.m CA.k CA.b .nil Ak (Aa (pv 0) (Aa (pv 1) Ab))))
   (Ae (Ai Av))
   Ap)
  (Ac (AB (Bg (Ah GS hr (by rfl) CS.m CS.k CS.b .nil Ak (Aa (pv 0) (Aa (pv 1) Ab))))
   (Ae (Ai Av))
   Ap)
  (Ae (Ai Av))),?_⟩
 unfold Bs at q
 refine⟨_,rfl,_,rfl,sn,r,seen,row,rfl,hN,hS,l1,wN.2,by omega,fun H1 s1=>⟨_,rfl,?_⟩⟩
 cases h0:seen.all fun k=>decide (k∈row) with
 | true=>
  refine Bh ?_
  have:=q _ s1
  rw[h0,if_pos rfl] at this
  exact this
 | false=>
  refine A7 ?_
  simp only[h0,if_neg zAC] at q
  refine⟨_,rfl,_,rfl,sn,r,seen,row,rfl,s1.seq hN,s1.seq hS,by omega,by omega,fun H2 s2=>⟨_,rfl,?_⟩⟩
  have q2:=q _ (s1.trans s2)
  cases h1:seen.any fun k=>decide (k∈row) with
  | true=>
   refine Bh ?_
   rw[h1,if_pos rfl] at q2
   exact q2
  | false=>
   refine A7 ?_
   rw[h1,if_neg zAC] at q2
   exact q2
end
abbrev EF:Stmt:=Bu 26
def SQ:Option Nat->V
 | none=>.non
 | some i=>.int i
def B2(sides:List (List Int))(row:List Int):Option Nat:=sides.findIdx? fun s=>!(s.any fun k=>decide (k∈row))
theorem miss_none:B2 sides row=none↔By sides row=true:=by
 unfold B2 By
 rw[List.findIdx?_eq_none_iff,zA0]
 exact⟨fun h s hs=>by have:=h s hs;simpa using this,fun h s hs=>by have:=h s hs;simpa using this⟩
theorem Mx(hb:∀s∈sides.take i,(s.any fun k=>decide (k∈row))=true)(hi:sides[i]? = some s)(hs:(s.any fun k=>decide (k∈row))=false):B2 sides row=some i:=by
 unfold B2
 obtain⟨aO,rfl⟩:=List.getElem?_eq_some_iff.mp hi
 rw[List.findIdx?_eq_some_iff_getElem]
 refine⟨aO,by simp[hs],fun j hj=>?_⟩
 have hm:sides[j]∈sides.take i:=List.mem_take_iff_getElem.mpr ⟨j,by omega,rfl⟩
 rw[hb _ hm]
 decide
theorem J9(hb:∀s∈sides,(s.any fun k=>decide (k∈row))=true):B2 sides row=none:=by
 rw[miss_none]
 unfold By
 rw[zA0]
 exact hb
theorem Iz{α:Type}{xs:List α}{x y:α}(hx:xs[i]? = some x)(h:y∈xs.take (i+1)):y∈xs.take i\/y=x:=by
 rw[List.take_succ,hx] at h
 rcases List.mem_append.mp h with h | h
 ·exact .inl h
 ·exact .inr (by simpa using h)
def K6(K:PySem.W.Frag):Sp:=fun vs H Q _=>∃(sd r:Addr)(row:List Int)(xs:List V)(sides:List (List Int)),vs=[.ref sd,.ref r]/\SqL K H r (row.map V.int)/\row.length<=900/\H sd=some (.lst xs)/\RowsAt H xs sides/\(∀s∈sides,s.length<64)/\sides.length<=900/\∀(H':Hp),Same H H'->Q (SQ (B2 sides row)) H'
section
theorem scMissed:Ao ["sides","worlds","at","side"] ["sides","worlds"] (Ad EF):=Bt
theorem Ni(F:Fun K "missed_side" "missed_side" EF f fd)(HE:mg "enumerate"=none)(GS:FnOk P w K mg bz AH 2 g gd ["one","other"] (Hb K))(CS:AL K mg "some_within" g gd ["one","other"]):FnOk P w K mg bz AH 3 f fd ["sides","worlds"] (K6 K):=by
 refine F.ok scMissed (fun vs H Q E h=>?_) (fun ai A outer s H vs Q E hr h=>?_)
 ·obtain⟨sd,r,row,xs,sides,rfl,_⟩:=h
  rfl
 obtain⟨sd,r,row,xs,sides,rfl,hS,hl,hX,hR,aX,iT,q⟩:=h
 refine⟨_,Ac (Bz zAW rfl (Ie (by rfl) HE (Aa (pv 0) Ab)) (EQ rfl (Bf (AC (i:=2) scMissed.nd rfl (Or.inl rfl)) (Bf (AC (i:=3) scMissed.nd rfl (Or.inl rfl)) Dw)))
   (Ae (AB (BO (Bg (Ah GS hr (by rfl) CS.m CS.k CS.b .nil Ak (Aa (pv 3) (Aa (pv 1) Ab)))))
    (Ae (Ai (pv 2)))
    Ap)))
  (Ae (Ai LK)),?_⟩
 have ag:=hR.len
 refine⟨_,rfl,sd,_,rfl,hX,FA (a:=sd) (xs:=xs) (fun i σ H3=>∃(v0 v1:Option V),σ=[some (.ref sd),some (.ref r),v0,v1]/\Same H H3/\∀s∈sides.take i,(s.any fun k=>decide (k∈row))=true) ?_ ?_ ?_ ?_⟩
 ·exact⟨_,_,rfl,Same.refl _,fun s hs=>by simp at hs⟩
 ·rintro i σ H3 _ ⟨v0,v1,rfl,s3,h3⟩
  exact s3 _ _ hX
 ·rintro i y T2 σ H3 hy je ⟨v0,v1,rfl,s3,h3⟩
  obtain⟨cQ,p,aE,rfl,hp⟩:=hR.get hy
  have sT:=Af je (.tup [.int (i:Nat),.ref p])
  have s4:=s3.trans sT
  refine⟨T2,_,rfl,SqT.of upd_same,rfl,_,_,rfl,_,_,rfl,rfl,?_⟩
  refine⟨_,rfl,_,rfl,p,r,cQ,row,rfl,SqL.of (s4 _ _ hp),s4.seq hS,aX cQ (zAQ aE),hl,fun H4 s5=>⟨_,rfl,?_⟩⟩
  cases hb:cQ.any fun k=>decide (k∈row) with
  | true=>
   refine A7 ?_
   refine⟨_,_,rfl,s4.trans s5,fun s hs=>?_⟩
   rcases Iz aE hs with h | rfl
   ·exact h3 s h
   ·exact hb
  | false=>
   refine Bh ?_
   have:=q H4 (s4.trans s5)
   rw[Mx h3 aE hb] at this
   exact⟨_,rfl,this⟩
 ·rintro σ H3 ⟨v0,v1,rfl,s3,h3⟩
  rw[ag,zAX] at h3
  have:=q H3 s3
  rw[J9 h3] at this
  exact this
end
abbrev Ej:Stmt:=Bu 30
abbrev Dm:Stmt:=Bu 31
abbrev Eg:Stmt:=Bu 32
def Jb(K:PySem.W.Frag):Sp:=fun vs H Q _=>∃(sd g s r:Addr)(xs:List V)(sides:List (List Int))(going seen row:List Int),vs=[.ref sd,.ref g,.ref s,.ref r]/\H sd=some (.lst xs)/\RowsAt H xs sides/\(∀s∈sides,Wr s)/\sides.length<=2/\
 SqL K H g (going.map V.int)/\Wr going/\SqL K H s (seen.map V.int)/\Wr seen/\seen≠[]/\SqL K H r (row.map V.int)/\Wr row/\∀(H':Hp),Same H H'->Q (.str (Ea sides going seen row)) H'
def BZ(z:Str)(g r:List Int):List Int:=if z="grant" then Fk g r else if z="deny" then BL g r else g
def Il(sides:List (List Int))(going seen row:List Int):Option Nat:=if Bs seen row="doubt" then none else B2 sides (BZ (Bs seen row) going row)
def Fz(K:PySem.W.Frag):Sp:=fun vs H Q _=>∃(sd g s r:Addr)(xs:List V)(sides:List (List Int))(going seen row:List Int),vs=[.ref sd,.ref g,.ref s,.ref r]/\H sd=some (.lst xs)/\RowsAt H xs sides/\(∀s∈sides,Wr s)/\sides.length<=2/\
 SqL K H g (going.map V.int)/\Wr going/\SqL K H s (seen.map V.int)/\Wr seen/\seen≠[]/\SqL K H r (row.map V.int)/\Wr row/\∀(H':Hp),Same H H'->Q (SQ (Il sides going seen row)) H'
def JH(K:PySem.W.Frag):Sp:=fun vs H Q _=>∃(z:Str)(g r:Addr)(going row:List Int),vs=[.str z,.ref g,.ref r]/\SqL K H g (going.map V.int)/\Wr going/\SqL K H r (row.map V.int)/\row.length<=900/\
 ∀(l:Addr)(H':Hp),Same H H'->H l=none->AM H' l (BZ z going row)->Q (.ref l) H'
theorem EN(hg:Wr g)(hp:ns.Pairwise (· < ·))(hm:∀k,k∈ns↔k∈g/\k∈r):ns=Fk g r:=
 DJ hp (hg.1.sublist zAO) fun k=>by rw[hm k];unfold Fk;rw[List.mem_filter,decide_eq_true_eq]
theorem DC(hg:Wr g)(hp:ns.Pairwise (· < ·))(hm:∀k,k∈ns↔k∈g/\k∉r):ns=BL g r:=
 DJ hp (hg.1.sublist zAO) fun k=>by rw[hm k];unfold BL;rw[List.mem_filter,Bool.not_eq_true',decide_eq_false_iff_not]
theorem Kn(xs row:List Int):BL xs row=[]↔(xs.all fun k=>decide (k∈row))=true:=by
 unfold BL
 rw[List.filter_eq_nil_iff,zA0]
 exact⟨fun h k hk=>by have:=h k hk;simpa using this,fun h k hk=>by have:=h k hk;simpa using this⟩
theorem Tc(seen row:List Int):Bs seen row="grant"\/Bs seen row="deny"\/Bs seen row="doubt":=by
 unfold Bs
 split
 ·exact .inl rfl
 ·split
  ·exact .inr (.inr rfl)
  ·exact .inr (.inl rfl)
theorem RO(z:Str)(g r:List Int):(BZ z g r).length<=g.length:=by
 have h1:=Tl g r
 have h2:=RM g r
 unfold BZ
 split
 ·omega
 ·split<;>omega
theorem HY{going seen row:List Int}(n0:¬BL going row=[])(n1:¬Fk going row=[]):Ea sides going seen row=match Il sides going seen row with | none=>Bs seen row | some _=>"doubt":=by
 unfold Ea Il BZ
 rw[if_neg n0,if_neg n1]
 rcases Tc seen row with e | e | e
 ·rw[e,if_neg (show ¬("grant":Str)="doubt" by decide),if_pos (show ("grant":Str)="grant" from rfl)]
  cases hs:By sides (Fk going row) with
  | true=>
   rw[miss_none.mpr hs,if_neg (by rintro⟨_,z⟩;cases z),if_neg (by rintro⟨z,_⟩;exact absurd z (by decide))]
  | false=>
   rw[if_pos ⟨rfl,rfl⟩]
   cases hm:B2 sides (Fk going row) with
   | none=>rw[miss_none.mp hm] at hs;cases hs
   | some i=>rfl
 ·rw[e,if_neg (show ¬("deny":Str)="doubt" by decide),if_neg (show ¬("deny":Str)="grant" by decide),if_pos (show ("deny":Str)="deny" from rfl)]
  cases hs:By sides (BL going row) with
  | true=>
   rw[miss_none.mpr hs,if_neg (by rintro⟨z,_⟩;exact absurd z (by decide)),if_neg (by rintro⟨_,z⟩;cases z)]
  | false=>
   rw[if_neg (by rintro⟨z,_⟩;exact absurd z (by decide)),if_pos ⟨rfl,rfl⟩]
   cases hm:B2 sides (BL going row) with
   | none=>rw[miss_none.mp hm] at hs;cases hs
   | some i=>rfl
 ·rw[e,if_neg (by rintro⟨z,_⟩;exact absurd z (by decide)),if_neg (by rintro⟨z,_⟩;exact absurd z (by decide)),if_pos rfl]
section
theorem P8:Ao ["word","row","worlds"] ["word","row","worlds"] (Ad Ej):=Bt
theorem No(F:Fun K "left_by" "left_by" Ej f fd)(T:EV mg)(GB:FnOk P w K mg bz AH 1 g gd ["one","other"] (EO K))(CB:AL K mg "in_both" g gd ["one","other"])(GF:FnOk P w K mg bz AH 1 g2 cA ["one","other"] (Dy K))(CF:AL K mg "in_first_only" g2 cA ["one","other"]):FnOk P w K mg bz AH 2 f fd ["word","row","worlds"] (JH K):=by
 refine F.ok P8 (fun vs H Q E h=>?_) (fun ai A outer s H vs Q E hr h=>?_)
 ·obtain⟨z,g,r,going,row,rfl,_⟩:=h
  rfl
 obtain⟨z,gg,r,going,row,rfl,hG,wG,hS,hl,q⟩:=h
 have l1:=wG.len
 refine⟨_,Ac (AB (Al AQ (pv 0) Av (As _))
   (Ae (Ai (Ah GB hr (by rfl) CB.m CB.k CB.b .nil Ak (Aa (pv 1) (Aa (pv 2) Ab)))))
   Ap)
  (Ac (AB (Al AQ (pv 0) Av (As _))
   (Ae (Ai (Ah GF hr (by rfl) CF.m CF.k CF.b .nil Ak (Aa (pv 1) (Aa (pv 2) Ab)))))
   Ap)
  (Ae (Ai (AF AR (by rfl) T.lst AZ (Aa (pv 1) Ab))))),?_⟩
 unfold BZ at q
 refine⟨_,rfl,rfl,_,rfl,?_⟩
 by_cases h0:z="grant"
 ·refine Bd (by rw[h0]) ?_
  refine⟨_,rfl,_,rfl,gg,r,going,row,rfl,hG,hS,by omega,by omega,fun l H' ns s1 aU hp hm ak=>?_⟩
  have:=EN wG hp hm
  subst this
  have q1:=q l H' s1 aU
  rw[if_pos h0] at q1
  exact q1 ak
 refine A6 (fun e=>h0 (by injection e)) ?_
 refine⟨_,rfl,rfl,_,rfl,?_⟩
 by_cases h1:z="deny"
 ·refine Bd (by rw[h1]) ?_
  refine⟨_,rfl,_,rfl,gg,r,going,row,rfl,hG,hS,l1,wG.2,by omega,fun l H' ns s1 aU hp hm ak=>?_⟩
  have:=DC wG hp hm
  subst this
  have q1:=q l H' s1 aU
  rw[if_neg h0,if_pos h1] at q1
  exact q1 ak
 refine A6 (fun e=>h1 (by injection e)) ?_
 refine⟨_,rfl,gg,_,rfl,.inl hG,fun l aU=>?_⟩
 have q1:=q l _ (Af aU (.lst (going.map V.int))) aU
 rw[if_neg h0,if_neg h1] at q1
 exact q1 upd_same
theorem scBarring:Ao ["sides","going","seen","worlds","word"] ["sides","going","seen","worlds"] (Ad Dm):=Bt
theorem LF(F:Fun K "barring_side" "barring_side" Dm f fd)(GP:FnOk P w K mg bz AH 3 g3 d3 ["seen","worlds"] (Fn K))(CP:AL K mg "plain" g3 d3 ["seen","worlds"])(GL:FnOk P w K mg bz AH 2 g4 d4 ["word","row","worlds"] (JH K))(CL:AL K mg "left_by" g4 d4 ["word","row","worlds"])(GT:FnOk P w K mg bz AH 3 g5 d5 ["sides","worlds"] (K6 K))(CT:AL K mg "missed_side" g5 d5 ["sides","worlds"]):FnOk P w K mg bz AH 4 f fd ["sides","going","seen","worlds"] (Fz K):=by
 refine F.ok scBarring (fun vs H Q E h=>?_) (fun ai A outer s H vs Q E hr h=>?_)
 ·obtain⟨sd,g,s,r,xs,sides,going,seen,row,rfl,_⟩:=h
  rfl
 obtain⟨sd,gg,sn,r,xs,sides,going,seen,row,rfl,hX,hR,wX,gZ,hG,wG,hN,wN,ci,hS,wS,q⟩:=h
 have aE:Room 2 _:=hr.mono (by decide)
 have l1:=wG.len
 have l3:=wS.len
 refine⟨_,Ac (Ar (i:=4) scBarring.nd rfl (Or.inl rfl) (Ah GP hr (by rfl) CP.m CP.k CP.b .nil Ak (Aa (pv 2) (Aa (pv 3) Ab))))
  (Ac (AB (Al AQ (pv 4) Av (As _))
   (Ae (Ai LK))
   Ap)
  (Ae (Ai (Ah GT hr (by rfl) CT.m CT.k CT.b .nil Ak (Aa (pv 0) (Aa (Ah GL aE (by rfl) CL.m CL.k CL.b .nil Ak (Aa (pv 4) (Aa (pv 1) (Aa (pv 3) Ab)))) Ab)))))),?_⟩
 unfold Il at q
 refine⟨_,rfl,_,rfl,sn,r,seen,row,rfl,hN,wN,ci,hS,wS,fun H3 s3=>?_⟩
 refine⟨_,rfl,rfl,_,rfl,?_⟩
 by_cases e:Bs seen row="doubt"
 ·refine Bd (by rw[e]) ?_
  have q3:=q _ s3
  rw[if_pos e] at q3
  exact q3
 refine A6 (fun z=>e (by injection z)) ?_
 refine⟨_,rfl,_,rfl,_,rfl,_,rfl,Bs seen row,gg,r,going,row,rfl,s3.seq hG,wG,s3.seq hS,by omega,fun l H4 s4 aU hl4=>?_⟩
 have fg:=s3.trans s4
 have hll:(BZ (Bs seen row) going row).length<=900:=by
  have:=RO (Bs seen row) going row
  omega
 refine⟨sd,l,_,xs,sides,rfl,SqL.of hl4,hll,fg _ _ hX,hR.keep fg,fun s hs=>zDI (wX s hs).len (by decide),by omega,fun H5 s5=>?_⟩
 have q5:=q _ (fg.trans s5)
 rw[if_neg e] at q5
 exact q5
theorem O7:Ao ["sides","going","seen","worlds"] ["sides","going","seen","worlds"] (Ad Eg):=Bt
theorem NE(F:Fun K "answer" "answer" Eg f fd)(GA:FnOk P w K mg bz AH 2 g1 d1 ["one","other"] (Hm K))(CA:AL K mg "all_within" g1 d1 ["one","other"])(GS:FnOk P w K mg bz AH 2 g2 d2 ["one","other"] (Hb K))(CS:AL K mg "some_within" g2 d2 ["one","other"])(GP:FnOk P w K mg bz AH 3 g3 d3 ["seen","worlds"] (Fn K))(CP:AL K mg "plain" g3 d3 ["seen","worlds"])(GT:FnOk P w K mg bz AH 4 g5 d5 ["sides","going","seen","worlds"] (Fz K))(CT:AL K mg "barring_side" g5 d5 ["sides","going","seen","worlds"]):FnOk P w K mg bz AH 5 f fd ["sides","going","seen","worlds"] (Jb K):=by
 refine F.ok O7 (fun vs H Q E h=>?_) (fun ai A outer s H vs Q E hr h=>?_)
 ·obtain⟨sd,g,s,r,xs,sides,going,seen,row,rfl,_⟩:=h
  rfl
 obtain⟨sd,gg,sn,r,xs,sides,going,seen,row,rfl,hX,hR,wX,gZ,hG,wG,hN,wN,ci,hS,wS,q⟩:=h
 have aE:Room 2 _:=hr.mono (by decide)
 have ba:Room 3 _:=hr.mono (by decide)
 have l1:=wG.len
 have l2:=wN.len
 have l3:=wS.len
 refine⟨_,Ac (AB (Bg (Ah GA aE (by rfl) CA.m CA.k CA.b .nil Ak (Aa (pv 1) (Aa (pv 3) Ab))))
   (Ae (Ai Av))
   Ap)
  (Ac (AB (BO (Bg (Ah GS aE (by rfl) CS.m CS.k CS.b .nil Ak (Aa (pv 1) (Aa (pv 3) Ab)))))
   (Ae (Ai Av))
   Ap)
  (Ac (AB (O1 (Lv (Ah GT hr (by rfl) CT.m CT.k CT.b .nil Ak (Aa (pv 0) (Aa (pv 1) (Aa (pv 2) (Aa (pv 3) Ab)))))))
   (Ae (Ai (Ah GP ba (by rfl) CP.m CP.k CP.b .nil Ak (Aa (pv 2) (Aa (pv 3) Ab)))))
   Ap)
  (Ae (Ai Av)))),?_⟩
 refine⟨_,rfl,_,rfl,gg,r,going,row,rfl,hG,hS,l1,wG.2,by omega,fun H1 s1=>⟨_,rfl,?_⟩⟩
 cases h0:going.all fun k=>decide (k∈row) with
 | true=>
  refine Bh ?_
  have:=q _ s1
  unfold Ea at this
  rw[if_pos ((Kn _ _).mpr h0)] at this
  exact this
 | false=>
  refine A7 ?_
  have n0:¬BL going row=[]:=fun z=>by rw[(Kn _ _).mp z] at h0;cases h0
  refine⟨_,rfl,_,rfl,gg,r,going,row,rfl,s1.seq hG,s1.seq hS,by omega,by omega,fun H2 s2=>⟨_,rfl,?_⟩⟩
  have gA:=s1.trans s2
  cases h1:going.any fun k=>decide (k∈row) with
  | false=>
   refine Bh ?_
   have:=q _ gA
   unfold Ea at this
   rw[if_neg n0,if_pos ((Mm _ _).mpr h1)] at this
   exact this
  | true=>
   refine A7 ?_
   have n1:¬Fk going row=[]:=fun z=>by rw[(Mm _ _).mp z] at h1;cases h1
   refine⟨_,rfl,_,rfl,_,rfl,_,rfl,sd,gg,sn,r,xs,sides,going,seen,row,rfl,gA _ _ hX,hR.keep gA,wX,gZ,gA.seq hG,wG,gA.seq hN,wN,ci,gA.seq hS,wS,fun H3 s3=>⟨_,rfl,?_⟩⟩
   have g0:=gA.trans s3
   cases hb:Il sides going seen row with
   | none=>
    refine Bd rfl ?_
    refine⟨_,rfl,_,rfl,sn,r,seen,row,rfl,g0.seq hN,wN,ci,g0.seq hS,wS,fun H4 s4=>?_⟩
    have q5:=q _ (g0.trans s4)
    rw[HY n0 n1,hb] at q5
    exact q5
   | some i=>
    refine A6 (fun z=>V.noConfusion z) ?_
    have q5:=q _ g0
    rw[HY n0 n1,hb] at q5
    exact q5
end
abbrev EE:Stmt:=Bu 25
section
theorem Py:Ao ["sides"] ["sides"] (Ad EE):=Bt
theorem NC(F:Fun K "base_of" "base_of" EE f fd)(GA:FnOk P w K mg bz AH 1 g gd ["rows"] (M7 K))(CA:AL K mg "in_any" g gd ["rows"]):FnOk P w K mg bz AH 2 f fd ["sides"] (M7 K):=by
 refine F.ok Py (fun vs H Q E h=>?_) (fun ai A outer s H vs Q E hr h=>?_)
 ·obtain⟨a,xs,rs,rfl,_⟩:=h
  rfl
 obtain⟨a,xs,rs,rfl,hS,hR,h64,q⟩:=h
 refine⟨_,Ae (Ai (Ah GA hr (by rfl) CA.m CA.k CA.b .nil Ak (Aa (pv 0) Ab))),?_⟩
 exact⟨_,rfl,a,xs,rs,rfl,hS,hR,h64,q⟩
end
theorem L7:ES (AE z t row)<=row.length:=by
 have h:=J5 t row
 unfold AE ES
 split
 ·simp only[zBL,zC5,zDN,List.sum_nil];omega
 ·split
  ·simp only[zBL,zC5,zDN,List.sum_nil];omega
  ·simp only[zBL,zC5,zDN,List.sum_nil];omega
theorem PQ(hr:Wr room)(hs:∀s∈sides,s.Sublist room)(hp:ns.Pairwise (· < ·))(hm:∀k,k∈ns↔∃row∈sides,k∈row):ns=IN room sides:=
 DJ hp (hr.1.sublist zAO) fun k=>by
  rw[hm k]
  unfold IN
  rw[List.mem_filter,zBZ]
  constructor
  ·rintro⟨r,h1,h2⟩
   exact⟨(hs r h1).subset h2,r,h1,decide_eq_true h2⟩
  ·rintro⟨_,r,h1,h2⟩
   exact⟨r,h1,of_decide_eq_true h2⟩
structure Jj(K:PySem.W.Frag)(mg:Str->Option Value)(nm:Str)(C cT:Addr):Prop where
 at_:XAt K C cT
 cls:Sx K C cT none
 m:mg nm=some (.ref C)
 ty:typeIn K (.ref C)=some (.type "type")
 ic:(clsIn K C).isSome=true
 bs:mroIn K C (.type "BaseException")=some true
 slf:mroIn K C (.ref C)=some true
 up:mroIn K C (.ref cT)=some true
 kv:PySem.W.kitOne K (.ref C) (.type "ValueError")=some true
structure UJ(K:PySem.W.Frag)(mg:Str->Option Value)(cT:Addr):Prop where
 m:mg "TalkError"=some (.ref cT)
 ty:typeIn K (.ref cT)=some (.type "type")
 ic:(clsIn K cT).isSome=true
 bs:mroIn K cT (.type "BaseException")=some true
 mV:mg "ValueError"=none
 isi:mg "isinstance"=none
structure Ot(K:PySem.W.Frag)(C D:Addr):Prop where
 mro:mroIn K C (.ref D)=some false
 kit:PySem.W.kitOne K (.ref C) (.ref D)=some false
theorem EW{K:PySem.W.Frag}{sub sub2:List Value}(lC:K.lookup C=some (excClassObj nm q C N bs (.ref cT::Ia) true sn sub ab iL dd k0 k1 k2 k3 k5 "ValueError.__new__"))(lN:K.lookup N=some ⟨oc,od,.dict es ep,sl⟩)(sN:(es.all fun e=>match e.key with | .str _ _=>true | _=>false)=true)(iN:nsIn K N "__init__"=some none)(lT:K.lookup cT=some ⟨.type "type",dd2,.cls { name:=nm2,bases:=bs2,mro:=.ref cT::Ia,ns:=NT,qualname:=q2,hasDict:=hd2,slotNames:=sn2,subclasses:=sub2,abstract:=ab2,collection:=col2,hasDel:=false },#[j0,j1,j2,j3,j4,j5]⟩)(lNT:K.lookup NT=some ⟨oc2,od2,.dict es2 ep2,iK⟩)(sNT:(es2.all fun e=>match e.key with | .str _ _=>true | _=>false)=true)(iNT:nsIn K NT "__init__"=some none)(kp:keepIn K (.ref C)=true):Sx K C cT none:=
 ⟨⟨nm,q,N,bs,true,sn,sub,ab,iL,dd,k0,k1,k2,k3,k5,lC,MR lN sN,iN⟩,QG lT (MR lNT sNT) iNT,kp⟩
theorem Fun.okX{K:PySem.W.Frag}{st:Stmt}(F:Fun K x ap st f fd)(S:Ao N ps (Ad st))(len:∀vs H Q E,sp vs H Q E->vs.length=ps.length)(bP:∀(ai:Value) (A:Around) (outer:List Env) (s:Shared) (H:Hp) (vs:List V) (Q:VK) (E:XK),Room k (A.deeper (envOfC ap (Ad st) s.heap.objs.size f ai))->sp vs H Q E->
   ∃t,PSs (JG (Gd P w) P w K mg bz N ap (Ad st) f ai A outer s H E) (Am st) t/\t { nx:=fun _ H'=>Q .non H',rt:=Q } (E8 N vs) H):FnOk P w K mg bz (Gd P w) (k+1) f fd ps sp:=by
 obtain⟨oc,od,kV,cI,pm,an,ai,ct,iA,rfl,lk,ft⟩:=F.ex
 exact Sk lk ft S len fun A outer s H vs Q E hr cY=>bP ai A outer s H vs Q E hr cY
abbrev Dj:Stmt:=Bu 24
def BU(z:Str):Prop:=z="true"\/z="false"\/z="doubt"
instance(z:Str):Decidable (BU z):=by unfold BU;infer_instance
abbrev RowsNew(H H':Hp):List V->List (List Int)->Prop:=Paired fun(v:V)(row:List Int)=>∃p,v= .ref p/\H p=none/\AM H' p row
theorem RowsNew.at{H H':Hp}:∀{xs:List V}{rs:List (List Int)},RowsNew H H' xs rs->RowsAt H' xs rs
 | _,_,.nil=>.nil
 | _,_,.cons ⟨p,e,_,h⟩ q=>.cons ⟨p,e,h⟩ (RowsNew.at q)
theorem RowsNew.keep{H H' H2:Hp}(s:Same H' H2):∀{xs:List V}{rs:List (List Int)},RowsNew H H' xs rs->RowsNew H H2 xs rs
 | _,_,.nil=>.nil
 | _,_,.cons ⟨p,e,n,h⟩ q=>.cons ⟨p,e,n,s _ _ h⟩ (RowsNew.keep s q)
def IK(K:PySem.W.Frag)(cB cN:Addr):Sp:=fun vs H Q E=>∃(r:Addr)(z:Str)(v:V)(t:Tr)(row:List Int),vs=[.ref r,.str z,v]/\t.At H v/\t.ok 5/\t.size<=800/\SqL K H r (row.map V.int)/\Wr row/\
 (¬BU z->∀H',Same H H'->E (.ref cB) none H')/\(BU z->[]∈AE z t row->∀H',Same H H'->E (.ref cN) none H')/\
 (BU z->[]∉AE z t row->∀(l:Addr)(xs:List V)(H':Hp),Same H H'->H l=none->H' l=some (.lst xs)->RowsNew H H' xs (AE z t row)->(∀x∈xs,x≠.ref l)->Q (.ref l) H')
def HA:List V:=[.str "true",.str "false",.str "doubt"]
theorem Oa(z:Str):QN (.str z) HA=decide (BU z):=by
 unfold QN HA BU
 simp only[zB6,List.any_nil,zDL]
 have e:∀y:Str,OR (.str y) (.str z)=decide (z=y):=fun y=>by
  show (y == z)=decide (z=y)
  by_cases h:z=y
  ·subst h;simp
  ·rw[decide_eq_false h]
   exact beq_false_of_ne fun q=>h q.symm
 rw[e,e,e,zA6]
 simp only[zBJ,decide_eq_true_eq]
 exact decide_eq_true_iff.symm
theorem RW(hr:Wr row)(hp:ns.Pairwise (· < ·))(hm:∀k,k∈ns↔k∈row/\k∉row.filter fun k=>tv t k == true):ns=AA false t row:=
 DJ hp (hr.1.sublist zAO) fun k=>by
  rw[hm k]
  unfold AA
  rw[List.mem_filter,List.mem_filter]
  constructor
  ·rintro⟨h1,h2⟩
   refine⟨h1,?_⟩
   cases h:tv t k with
   | false=>rfl
   | true=>exact absurd ⟨h1,by rw[h];rfl⟩ h2
  ·rintro⟨h1,h2⟩
   refine⟨h1,fun h3=>?_⟩
   have e1:=h3.2
   have e2:tv t k=false:=eq_of_beq h2
   rw[e2] at e1
   cases e1
theorem Ly{r:List Int}:(r.map V.int).isEmpty=r.isEmpty:=by cases r<;>rfl
theorem Oh(rs:List (List Int)):(rs.map List.isEmpty).any id=decide ([]∈rs):=by
 induction rs with
 | nil=>rfl
 | cons r rs ih=>
  rw[zBL,zB6,ih]
  cases r with
  | nil=>simp
  | cons a b=>simp
theorem ON{K:PySem.W.Frag}(h:RowsAt H xs rs):∀(i:Nat) v b,xs[i]? = some v->(rs.map List.isEmpty)[i]? = some b->∃a zs,v= .ref a/\SqL K H a zs/\b=zs.isEmpty:=fun i v b hv hb=>by
 obtain⟨row,p,hr,rfl,hp⟩:=h.get hv
 rw[List.getElem?_map,hr] at hb
 refine⟨p,_,rfl,SqL.of hp,?_⟩
 rw[Ly]
 exact (zAP hb).symm
section
variable {cB cN cT:Addr}
theorem scSidesOf:Ao ["room","kind","sentence","inside","outside","sides"] ["room","kind","sentence"] (Ad Dj):=Bt
theorem L8(F:Fun K "sides_of" "sides_of" Dj f fd)(XB:Jj K mg "BadWord" cB cT)(XN:Jj K mg "NoStanding" cN cT)(GW:FnOk P w K mg bz AH 3 g gd ["sentence","room"] (BB K))(CW:AL K mg "worlds_of" g gd ["sentence","room"])(GF:FnOk P w K mg bz AH 1 g2 cA ["one","other"] (Dy K))(CF:AL K mg "in_first_only" g2 cA ["one","other"]):FnOk P w K mg bz (Gd P w) 4 f fd ["room","kind","sentence"] (IK K cB cN):=by
 refine Fun.okX F scSidesOf (fun vs H Q E h=>?_) (fun ai A outer s H vs Q E hr h=>?_)
 ·obtain⟨r,z,v,t,row,rfl,_⟩:=h
  rfl
 obtain⟨r,z,v,t,row,rfl,ha,hok,aw,hS,hwr,qB,qN,qO⟩:=h
 have ak:Room 1 _:=hr.mono (by decide)
 have hl:=hwr.len
 refine⟨_,Ac (AB (Al Bb (pv 1) (Bc (Aa Av (Aa Av (Aa Av Ab)))) (by with_unfolding_all rfl))
   (Ae (C0 (Ex:=E) D6 rfl XB.cls XB.at_ XB.ty (by rfl) XB.m (Aa Av Ab) (hvl:=fun _ _ _ h=>⟨by decide,h⟩)))
   Ap)
  (Ac (Ar (i:=3) scSidesOf.nd rfl (Or.inl rfl) (Ah GW hr (by rfl) CW.m CW.k CW.b .nil Ak (Aa (pv 2) (Aa (pv 0) Ab))))
  (Ac (Ar (i:=4) scSidesOf.nd rfl (Or.inl rfl) (Ah GF ak (by rfl) CF.m CF.k CF.b .nil Ak (Aa (pv 0) (Aa (pv 3) Ab))))
  (Ac (AB (Al AQ (pv 1) Av (As _))
   (Ae (Ar (i:=5) scSidesOf.nd rfl (Or.inl rfl) (AI (Aa (pv 3) Ab))))
   (Ae (AB (Al AQ (pv 1) Av (As _))
    (Ae (Ar (i:=5) scSidesOf.nd rfl (Or.inl rfl) (AI (Aa (pv 4) Ab))))
    (Ae (Ar (i:=5) scSidesOf.nd rfl (Or.inl rfl) (AI (Aa (pv 3) (Aa (pv 4) Ab))))))))
  (Ac (AB (Al (Sq hr.units9) (AI Ab) (pv 5) (by with_unfolding_all rfl))
   (Ae (C0 (Ex:=E) D6 rfl XN.cls XN.at_ XN.ty (by rfl) XN.m (Aa Av Ab) (hvl:=fun _ _ _ h=>⟨by decide,h⟩)))
   Ap)
  (Ae (Ai (pv 5))))))),?_⟩
 refine⟨_,rfl,K9,fun kt hkt=>?_⟩
 have s1:=Af hkt (.tup HA)
 refine⟨kt,HA,rfl,.inr (SqT.of upd_same),rfl,rfl,_,rfl,?_⟩
 show if (!QN (.str z) HA)=true then _ else _
 rw[Oa]
 by_cases hk:BU z
 rotate_left
 ·refine MG hk ?_
  exact qB hk _ s1
 refine IP hk ?_
 have a1:=ha.keep (TS.same s1)
 refine⟨_,rfl,_,rfl,v,t,r,row,rfl,a1,hok,aw,s1.seq hS,hwr,fun il H2 s2 hil0 aZ=>?_⟩
 have t2:=s1.trans s2
 have bC:(row.filter fun k=>tv t k == true).length<=32:=zAH (zAZ _ _) hl
 refine⟨_,rfl,_,rfl,r,il,row,_,rfl,t2.seq hS,SqL.of aZ,hl,hwr.2,by omega,fun ol H3 ns s3 hol0 hp hm bK=>?_⟩
 have en:=RW hwr hp hm
 subst en
 have t3:=t2.trans s3
 have iU:AM H3 il (AA true t row):=s3 _ _ aZ
 have nil0:H il=none:=s1.free hil0
 have nol0:H ol=none:=t2.free hol0
 have nio:il≠ol:=An aZ hol0
 have aF:∀(sl:Addr)(xs:List V)(H4:Hp),Same H3 H4->H3 sl=none->H4 sl=some (.lst xs)->RowsNew H H4 xs (AE z t row)->(∀x∈xs,x≠.ref sl)->∀(e:Addr),H4 e=none->∀(G:Bool->Hp->Prop),(∀H',E (.ref cN) none H'->G true H')->(∀H',Q (.ref sl) H'->G false H')->
   TY K (.ref e) (.ref sl) (upd H4 e (.lst [])) (fun x H'=>∃k,x=V.bl k/\G k H'):=fun sl xs H4 s4 hsl0 aX hR av e he G g1 g2=>by
  have s5:=Af he (.lst [])
  refine⟨e,sl,xs,(AE z t row).map List.isEmpty,rfl,rfl,SqL.of upd_same,SqL.of (s5 _ _ aX),?_,ON (hR.at.keep s5),_,rfl,?_⟩
  ·rw[List.length_map];exact hR.at.len.symm
  ·rw[Oh]
   by_cases gw:[]∈AE z t row
   ·rw[decide_eq_true gw]
    exact g1 _ (qN hk gw _ (t3.trans (s4.trans s5)))
   ·rw[decide_eq_false gw]
    refine g2 _ ?_
    exact qO hk gw sl xs _ (t3.trans (s4.trans s5)) (t3.free hsl0) (s5 _ _ aX) (hR.keep s5) av
 refine⟨_,rfl,rfl,_,rfl,?_⟩
 by_cases h0:z="true"
 ·refine Bd (by rw[h0]) ?_
  refine⟨_,rfl,Jq,fun sl aX=>?_⟩
  have s4:=Af aX (.lst [.ref il])
  refine⟨J1,fun e he=>?_⟩
  have eR:AE z t row=[AA true t row]:=by unfold AE;rw[if_pos h0]
  exact⟨_,rfl,aF sl [.ref il] _ s4 aX upd_same (by rw[eR];exact .cons ⟨il,rfl,nil0,s4 _ _ iU⟩ .nil) (fun x hx=>by rw[List.mem_singleton.mp hx];intro q;exact An iU aX (V.ref.inj q)) e he _ (fun H' h=>Bh h) (fun H' h=>A7 ⟨_,rfl,h⟩)⟩
 refine A6 (fun q=>h0 (by injection q)) ?_
 refine⟨_,rfl,rfl,_,rfl,?_⟩
 by_cases h1:z="false"
 ·refine Bd (by rw[h1]) ?_
  refine⟨_,rfl,Jq,fun sl aX=>?_⟩
  have s4:=Af aX (.lst [.ref ol])
  refine⟨J1,fun e he=>?_⟩
  have eR:AE z t row=[AA false t row]:=by unfold AE;rw[if_neg h0,if_pos h1]
  exact⟨_,rfl,aF sl [.ref ol] _ s4 aX upd_same (by rw[eR];exact .cons ⟨ol,rfl,nol0,s4 _ _ bK⟩ .nil) (fun x hx=>by rw[List.mem_singleton.mp hx];intro q;exact An bK aX (V.ref.inj q)) e he _ (fun H' h=>Bh h) (fun H' h=>A7 ⟨_,rfl,h⟩)⟩
 refine A6 (fun q=>h1 (by injection q)) ?_
 refine⟨_,rfl,_,rfl,Ig,fun sl aX=>?_⟩
 have s4:=Af aX (.lst [.ref il,.ref ol])
 refine⟨J1,fun e he=>?_⟩
 have eR:AE z t row=[AA true t row,AA false t row]:=by unfold AE;rw[if_neg h0,if_neg h1]
 refine⟨_,rfl,aF sl [.ref il,.ref ol] _ s4 aX upd_same (by rw[eR];exact .cons ⟨il,rfl,nil0,s4 _ _ iU⟩ (.cons ⟨ol,rfl,nol0,s4 _ _ bK⟩ .nil)) (fun x hx=>by
  rcases List.mem_cons.mp hx with q | q
  ·rw[q];intro q;exact An iU aX (V.ref.inj q)
  ·rw[List.mem_singleton.mp q];intro q;exact An bK aX (V.ref.inj q)) e he _ (fun H' h=>Bh h) (fun H' h=>A7 ⟨_,rfl,h⟩)⟩
end
abbrev Df:Stmt:=Bu 15
def Cq:Tr->List Int
 | .lt k=>[(k:Int)]
 | .nt t=>Cq t
 | .bn _ a b=>Cq a++Cq b
def Cn(ts:List Tr):List Int:=ts.flatMap Cq
def RX:Tr->List Int
 | .lt k=>[(k:Int)]
 | _=>[]
def Hw(ts:List Tr):List Int:=ts.flatMap RX
theorem Pl:∀t:Tr,Cq t=RX t++Cn (La t)
 | .lt _=>rfl
 | .nt t=>by show Cq t=[]++(Cq t++[]);simp
 | .bn _ a b=>by show Cq a++Cq b=[]++(Cq a++(Cq b++[]));simp
theorem N3(a b:List Tr):Cn (a++b)=Cn a++Cn b:=by unfold Cn;rw[List.flatMap_append]
theorem NJ(ts:List Tr)(k:Int):k∈Cn ts↔k∈Hw ts\/k∈Cn (B0 ts):=by
 induction ts with
 | nil=>simp[Cn,Hw,B0]
 | cons t r ih=>
  have e1:Cn (t::r)=Cq t++Cn r:=rfl
  have e2:Hw (t::r)=RX t++Hw r:=rfl
  have e3:B0 (t::r)=La t++B0 r:=rfl
  rw[e1,e2,e3,N3,Pl]
  simp only[zC7,ih]
  constructor
  ·rintro ((h | h) | (h | h))
   ·exact .inl (.inl h)
   ·exact .inr (.inl h)
   ·exact .inl (.inr h)
   ·exact .inr (.inr h)
  ·rintro ((h | h) | (h | h))
   ·exact .inl (.inl h)
   ·exact .inr (.inl h)
   ·exact .inl (.inr h)
   ·exact .inr (.inr h)
theorem Gn{ts:List Tr}{i:Nat}(h:ts[i]? = some t):Hw (ts.take (i+1))=Hw (ts.take i)++RX t:=by
 unfold Hw
 rw[zAT,h,List.flatMap_append]
 simp
theorem TS.ext(h:H l=some o)(n:∀xs,o≠.tup xs):TS H (upd H l u):=fun p ys e=>by
 rw[Ax (DU e h fun z=>n ys z.symm)]
 exact e
def IE:Sp:=fun vs H Q _=>∃(v:V)(t:Tr),vs=[v]/\t.At H v/\t.size<=60/\∀(l:Addr)(ns:List Int)(H':Hp),Same H H'->H l=none->H' l=some (.lst (ns.map V.int))->ns.Pairwise (· < ·)->(∀k,k∈ns↔k∈Cq t)->Q (.ref l) H'
section
theorem scLetters:Ao ["sentence","found","layer","part"] ["sentence"] (Ad Df):=Bt
def Vi(w:World)(H:Hp)(v:V)(t:Tr)(fa:Addr)(m:Nat):L2.St->Hp->Prop:=fun σ H3=>∃(S:Int->Bool)(n:Nat)(r:Addr)(ys:List V)(ts:List Tr)(pp:Option V),σ=[some v,some (.ref fa),some (.ref r),pp]/\Same H H3/\H3 fa=some (Bn w fa S n)/\H3 r=some (.lst ys)/\Pile H3 ys ts/\n+sz ts<=60/\(∀k,k∈Cq t↔S k=true\/k∈Cn ts)/\sz ts=m
theorem Lg(F:Fun K "letters" "letters" Df f fd)(T:EV mg)(GP:FnOk P w K mg bz AH 1 g gd ["layer"] (Jh K))(CP:AL K mg "parts_of" g gd ["layer"]):FnOk P w K mg bz AH 2 f fd ["sentence"] IE:=by
 refine F.ok scLetters (fun vs H Q E h=>?_) (fun ai A outer s H vs Q E hr h=>?_)
 ·obtain⟨v,t,rfl,_⟩:=h
  rfl
 obtain⟨v,t,rfl,ha,hs,q⟩:=h
 refine⟨_,Ac (Ar (i:=1) scLetters.nd rfl (Or.inl rfl) (Lp NR (by rfl) T.set boot_set))
  (Ac (Ar (i:=2) scLetters.nd rfl (Or.inl rfl) (AI (Aa (pv 0) Ab)))
  (Ac (HM zAW (D4 (pv 2) (fun _=>rfl))
   (Ac (Bz zAW rfl (AS (pv 2)) (AC (i:=3) scLetters.nd rfl (Or.inl rfl))
    (Ae (AB (Al AQ (AD AN (pv 3) Ag (fun _ _=>rfl)) Av (As _))
     (Ae (AW (QT (pv 1) (Aa (AD AN (pv 3) Ag (fun _ _=>rfl)) Ab))))
     Ap)))
   (Ae (Ar (i:=2) scLetters.nd rfl (Or.inl rfl) (Ah GP hr (by rfl) CP.m CP.k CP.b .nil Ak (Aa (pv 2) Ab))))))
  (Ae (Ai (Az (DI rfl) (by rfl) T.sorted boot_sorted (Aa (pv 1) Ab)))))),?_⟩
 refine⟨rfl,fun fa hfa=>?_⟩
 have s1:=Af hfa (Bn w fa (fun _=>false) 0)
 refine⟨_,rfl,Jq,fun l hl=>?_⟩
 have s2:=Af hl (.lst [v])
 have e1:sz [t]=t.size:=by unfold sz;simp
 refine⟨Vi w H v t fa,⟨_,fun _=>false,0,l,[v],[t],none,rfl,s1.trans s2,s2 _ _ upd_same,upd_same,.cons (ha.keep ((TS.same s1).trans (TS.same s2))) .nil,by omega,fun k=>?_,rfl⟩,?_⟩
 ·have:Cn [t]=Cq t:=by unfold Cn;simp
  rw[this]
  simp
 rintro m σ H3 ⟨S,n,r,ys,ts,pp,rfl,s3,hf3,ba,p3,gY,hm3,rfl⟩
 refine⟨_,rfl,_,.inl ⟨ys,SqL.of ba,rfl⟩,?_⟩
 refine B9 (fun c=>?_) (fun c=>?_)
 ·refine⟨fun σ' H'=>∃m',m'<sz ts/\Vi w H v t fa m' σ' H',fun _ _ h=>h,?_⟩
  have ag:=p3.len
  have fw:0<ts.length:=by
   rw[<-ag]
   cases ys with
   | nil=>exact absurd c (by decide)
   | cons _ _=>exact zBM _
  refine⟨_,rfl,r,rfl,⟨_,SqL.of ba⟩,A1 (K:=K) (a:=r) (xs:=ys) (fun i σ H4=>∃(S2:Int->Bool)(n2:Nat)(pp:Option V),σ=[some v,some (.ref fa),some (.ref r),pp]/\Same H H4/\H4 fa=some (Bn w fa S2 n2)/\H4 r=some (.lst ys)/\Pile H4 ys ts/\n2<=n+i/\∀k,S2 k=true↔S k=true\/k∈Hw (ts.take i)) ?_ ?_ ?_ ?_⟩
  ·exact⟨S,n,pp,rfl,s3,hf3,ba,p3,zAA _,fun k=>by simp[Hw]⟩
  ·rintro i σ H4 _ ⟨S2,n2,pp,rfl,s4,_,dq,_⟩
   exact SqL.of dq
  ·rintro i x σ H4 hx ⟨S2,n2,pp,rfl,s4,hf4,dq,p4,hn4,hm4⟩
   obtain⟨t2,ht2,bH⟩:=D2 p4 hx
   have hi:i<ys.length:=(List.getElem?_eq_some_iff.mp hx).1
   have aw:=JP ts
   cases t2 with
   | lt j=>
    obtain⟨p,rfl,hp⟩:=bH
    refine⟨_,rfl,p,_,_,_,rfl,rfl,SqT.of hp,Aj (j:=0) rfl,rfl,_,rfl,?_⟩
    refine Bd rfl ?_
    refine⟨_,rfl,fa,S2,n2,rfl,hf4,_,rfl,p,_,_,_,rfl,rfl,SqT.of hp,Aj (j:=1) rfl,_,S2,n2,rfl,hf4,by omega,?_⟩
    have kk:TS H4 (upd H4 fa (Bn w fa (fun k=>S2 k || decide (k=(j:Int))) (n2+1))):=TS.ext hf4 (fun xs z=>by cases z)
    refine⟨_,n2+1,_,rfl,AJ s4 hfa _,upd_same,by rw[Ax (DU dq hf4 (by intro z;cases z))];exact dq,p4.keep kk,by omega,fun k=>?_⟩
    rw[zBJ,decide_eq_true_eq,hm4 k,Gn ht2,zC7]
    show (_\/_)\/k=(j:Int)↔_\/_\/k∈[(j:Int)]
    rw[zB1,or_assoc]
   | nt t3=>
    obtain⟨p,u,rfl,hp,_⟩:=bH
    refine⟨_,rfl,p,_,_,_,rfl,rfl,SqT.of hp,Aj (j:=0) rfl,rfl,_,rfl,?_⟩
    refine A6 (by decide) ?_
    refine⟨S2,n2,_,rfl,s4,hf4,dq,p4,by omega,fun k=>?_⟩
    rw[hm4 k,Gn ht2]
    show _↔_\/k∈Hw (ts.take i)++[]
    rw[zBP]
   | bn j a b=>
    obtain⟨p,u,u2,rfl,hp,_⟩:=bH
    refine⟨_,rfl,p,_,_,_,rfl,rfl,SqT.of hp,Aj (j:=0) rfl,rfl,_,rfl,?_⟩
    refine A6 JU ?_
    refine⟨S2,n2,_,rfl,s4,hf4,dq,p4,by omega,fun k=>?_⟩
    rw[hm4 k,Gn ht2]
    show _↔_\/k∈Hw (ts.take i)++[]
    rw[zBP]
  ·rintro σ H4 ⟨S2,n2,pp,rfl,s4,hf4,dq,p4,hn4,hm4⟩
   rw[ag,zAX] at hm4
   have hk:=MM ts
   refine⟨_,rfl,r,ys,ts,rfl,SqL.of dq,p4,by omega,fun r2 zs H5 s5 iV p5=>?_⟩
   refine⟨sz (B0 ts),by omega,S2,n2,r2,zs,B0 ts,_,rfl,s4.trans s5,s5 _ _ hf4,iV,p5,by omega,fun k=>?_,rfl⟩
   rw[hm3 k,NJ,hm4 k,or_assoc]
 ·have e:ts=[]:=by
   cases p3 with
   | nil=>rfl
   | cons h1 h2=>exact absurd rfl c
  subst e
  refine⟨_,rfl,fa,S,n,rfl,hf3,by omega,fun l2 ns aC hp hm=>?_⟩
  refine q l2 ns _ (s3.trans (Af aC _)) (s3.free aC) upd_same hp fun k=>?_
  rw[hm k,hm3 k]
  simp[Cn]
end
theorem Bv(h:us.length=1):∃a0:Value,us=[a0]:=by
 cases us with
 | nil=>exact absurd h (by simp)
 | cons a0 us=>
  have h:us.length=0:=zA1 h
  cases us with
  | nil=>exact⟨a0,rfl⟩
  | cons _ _=>exact absurd h (by simp)
theorem Ba(h:us.length=2):∃a0 a1:Value,us=[a0,a1]:=by
 cases us with
 | nil=>exact absurd h (by simp)
 | cons a0 us=>
  have h:us.length=1:=zA1 h
  cases us with
  | nil=>exact absurd h (by simp)
  | cons a1 us=>
   have h:us.length=0:=zA1 h
   cases us with
   | nil=>exact⟨a0,a1,rfl⟩
   | cons _ _=>exact absurd h (by simp)
theorem Br(h:us.length=3):∃a0 a1 a2:Value,us=[a0,a1,a2]:=by
 cases us with
 | nil=>exact absurd h (by simp)
 | cons a0 us=>
  have h:us.length=2:=zA1 h
  cases us with
  | nil=>exact absurd h (by simp)
  | cons a1 us=>
   have h:us.length=1:=zA1 h
   cases us with
   | nil=>exact absurd h (by simp)
   | cons a2 us=>
    have h:us.length=0:=zA1 h
    cases us with
    | nil=>exact⟨a0,a1,a2,rfl⟩
    | cons _ _=>exact absurd h (by simp)
theorem ET(h:us.length=4):∃a0 a1 a2 a3:Value,us=[a0,a1,a2,a3]:=by
 cases us with
 | nil=>exact absurd h (by simp)
 | cons a0 us=>
  have h:us.length=3:=zA1 h
  cases us with
  | nil=>exact absurd h (by simp)
  | cons a1 us=>
   have h:us.length=2:=zA1 h
   cases us with
   | nil=>exact absurd h (by simp)
   | cons a2 us=>
    have h:us.length=1:=zA1 h
    cases us with
    | nil=>exact absurd h (by simp)
    | cons a3 us=>
     have h:us.length=0:=zA1 h
     cases us with
     | nil=>exact⟨a0,a1,a2,a3,rfl⟩
     | cons _ _=>exact absurd h (by simp)
theorem JB(h:us.length=5):∃a0 a1 a2 a3 a4:Value,us=[a0,a1,a2,a3,a4]:=by
 cases us with
 | nil=>exact absurd h (by simp)
 | cons a0 us=>
  have h:us.length=4:=zA1 h
  cases us with
  | nil=>exact absurd h (by simp)
  | cons a1 us=>
   have h:us.length=3:=zA1 h
   cases us with
   | nil=>exact absurd h (by simp)
   | cons a2 us=>
    have h:us.length=2:=zA1 h
    cases us with
    | nil=>exact absurd h (by simp)
    | cons a3 us=>
     have h:us.length=1:=zA1 h
     cases us with
     | nil=>exact absurd h (by simp)
     | cons a4 us=>
      have h:us.length=0:=zA1 h
      cases us with
      | nil=>exact⟨a0,a1,a2,a3,a4,rfl⟩
      | cons _ _=>exact absurd h (by simp)
theorem Pc(h:us.length=6):∃a0 a1 a2 a3 a4 a5:Value,us=[a0,a1,a2,a3,a4,a5]:=by
 cases us with
 | nil=>exact absurd h (by simp)
 | cons a0 us=>
  have h:us.length=5:=zA1 h
  cases us with
  | nil=>exact absurd h (by simp)
  | cons a1 us=>
   have h:us.length=4:=zA1 h
   cases us with
   | nil=>exact absurd h (by simp)
   | cons a2 us=>
    have h:us.length=3:=zA1 h
    cases us with
    | nil=>exact absurd h (by simp)
    | cons a3 us=>
     have h:us.length=2:=zA1 h
     cases us with
     | nil=>exact absurd h (by simp)
     | cons a4 us=>
      have h:us.length=1:=zA1 h
      cases us with
      | nil=>exact absurd h (by simp)
      | cons a5 us=>
       have h:us.length=0:=zA1 h
       cases us with
       | nil=>exact⟨a0,a1,a2,a3,a4,a5,rfl⟩
       | cons _ _=>exact absurd h (by simp)
def Fq(ns:List Int)(k:Int):Int:=if h:(k%(ns.length:Int)).toNat<ns.length then (if ns[(k%(ns.length:Int)).toNat]<0 then -ns[(k%(ns.length:Int)).toNat] else ns[(k%(ns.length:Int)).toNat]) else 0
def Sc(c k:Int):Int:=(c*48271+40692*k+11)%2147483647*2147483629+((c*48271+40692*k+11)%2147483647*((c*48271+40692*k+11)%2147483647)+69621*c+17)%2147483629
def Kh(ns:List Int)(k:Int):Int:=if k<(ns.length:Int)/\Fq ns k>=1000000000000 then Fq ns k else Sc (Fq ns k) k
def Jd(K:PySem.W.Frag):Sp:=fun vs H Q _=>∃(a:Addr)(ns:List Int)(k:Int),vs=[.ref a,.int k]/\SqL K H a (ns.map V.int)/\ns.length<=63/\0<=k/\k<=1000/\∀(H':Hp),0<=Kh ns k->Same H H'->Q (.int (Kh ns k)) H'
theorem SC(e:Fq ns k=c)(h1:k<(ns.length:Int))(h2:c>=1000000000000):c=Kh ns k:=by
 unfold Kh
 rw[e,if_pos ⟨h1,h2⟩]
theorem Jz(e:Fq ns k=c)(h:¬(k<(ns.length:Int)/\c>=1000000000000)):Sc c k=Kh ns k:=by
 unfold Kh
 rw[e,if_neg h]
section
theorem Lw(G:FnOk P w K mg bz AH 1 f fd ["_law_script","_law_k"] (Jd K)):FnOk P w K mg bz AH 1 f fd ["_law_script","_law_k"] (MZ K):=G.imp fun vs H Q E h=>by
 obtain⟨a,ns,k,e,h1,h2,h3,h4,q⟩:=h
 exact⟨a,ns,k,e,h1,h2,h3,h4,fun H' h0 s=>q _ H' h0 s⟩
theorem Rf(F:Fun K "_law_num" "_law_num" NK f fd)(B:Bl mg):FnOk P w K mg bz AH 1 f fd ["_law_script","_law_k"] (Jd K):=by
 refine F.ok scNum (fun vs H Q E h=>?_) (fun ai A outer s H vs Q E hr h=>?_)
 ·obtain⟨a,ns,k,rfl,_⟩:=h
  rfl
 obtain⟨a,ns,k,rfl,hS,bx,ir,hk1,q⟩:=h
 refine⟨_,Ac (Ar (i:=2) scNum.nd rfl (Or.inl rfl) Ag)
  (Ac (AB (Al (LO hr.units0) (pv 0) (AI Ab) (As _))
   (Ae (Ar (i:=2) scNum.nd rfl (Or.inl rfl) (Az Qf (by rfl) B.abs boot_abs (Aa (AD AK (pv 0) (Au AO (pv 1) (Az Ay (by rfl) B.len PySem.boot_len (Aa (pv 0) Ab))) (fun _ _=>rfl)) Ab)))) Ap)
  (Ac (AB (HG (Al So (pv 1) (Az Ay (by rfl) B.len PySem.boot_len (Aa (pv 0) Ab)) (As _)) (EZ (Al Qz (pv 2) (Au JM Ag Ag) (As _)))).pt
   (Ae (Ai (pv 2))) Ap)
  (Ac (Ar (i:=3) scNum.nd rfl (Or.inl rfl) (Au AO (Au Ch (Au Ch (Au Hz (pv 2) Ag) (Au Hz Ag (pv 1))) Ag) Ag))
  (Ac (Ar (i:=4) scNum.nd rfl (Or.inl rfl) (Au AO (Au Ch (Au Ch (Au Hz (pv 3) (pv 3)) (Au Hz Ag (pv 2))) Ag) Ag))
  (Ae (Ai (Au Ch (Au Hz (pv 3) Ag) (pv 4)))))))),?_⟩
 refine⟨_,rfl,J1,fun p hp=>?_⟩
 have sm:Same H (upd H p (.lst [])):=Af hp _
 refine⟨a,p,_,rfl,rfl,sm.seq hS,SqL.of upd_same,_,rfl,?_⟩
 have hl:(ns.map V.int).length=ns.length:=List.length_map _
 have aF:∀c:Int,0<=c->∀b:Int,0<=(c*48271+40692*k+11)%2147483647*2147483629+b%2147483629:=fun c hc b=>by
  have h1:=zA8 (c*48271+40692*k+11) (show (2147483647:Int)≠0 by decide)
  have h2:=zA8 b (show (2147483629:Int)≠0 by decide)
  omega
 have jw:∀b:Int,-(2^64)<b%2147483647/\b%2147483647<2^64:=fun b=>by omega
 refine B9 (fun c0=>?_) (fun c0=>?_)
 ·have ne:ns≠[]:=by
   intro z
   subst z
   exact absurd c0 (by decide)
  have hp':0<ns.length:=List.length_pos_iff.mpr ne
  have hi:(k%(ns.length:Int)).toNat<ns.length:=by
   have h1:=zA8 k (show (ns.length:Int)≠0 by omega)
   have h2:=zBB k (show (0:Int)<ns.length by omega)
   omega
  have bH:HZ (ns.map V.int) (k%(((ns.map V.int).length:Nat):Int))=some (.int ns[(k%(ns.length:Int)).toNat]):=by
   have e:k%(((ns.map V.int).length:Nat):Int)=(((k%(ns.length:Int)).toNat:Nat):Int):=by
    rw[hl]
    have h1:=zA8 k (show (ns.length:Int)≠0 by omega)
    omega
   rw[e]
   refine Aj ?_
   rw[List.getElem?_map,List.getElem?_eq_getElem hi]
   rfl
  refine⟨_,rfl,_,rfl,_,rfl,a,_,rfl,.inl (sm.seq hS),_,_,rfl,rfl,(by rw[hl];omega),a,_,_,_,rfl,rfl,sm.seq hS,bH,_,rfl,?_⟩
  generalize hc:(if ns[(k%(ns.length:Int)).toNat]<0 then -ns[(k%(ns.length:Int)).toNat] else ns[(k%(ns.length:Int)).toNat])=c
  have hc0:0<=c:=by
   rw[<-hc]
   split<;>omega
  have eC:Fq ns k=c:=by
   unfold Fq
   rw[dif_pos hi]
   exact hc
  refine⟨_,rfl,_,rfl,a,_,rfl,.inl (sm.seq hS),_,_,rfl,rfl,_,rfl,?_⟩
  refine B9 (fun c1=>?_) (fun c1=>?_)
  ·refine⟨_,rfl,_,_,rfl,rfl,⟨by decide,by decide,by decide⟩,_,_,rfl,rfl,_,rfl,?_⟩
   refine B9 (fun c2=>?_) (fun c2=>?_)
   ·have e1:=SC eC (by have z:=of_decide_eq_true c1;rw[hl] at z;exact z) (of_decide_eq_true c2)
    rw[<-e1] at q
    exact⟨_,rfl,q _ hc0 sm⟩
   ·refine⟨_,rfl,_,_,rfl,rfl,.inr ⟨by decide,by decide⟩,_,rfl,_,_,rfl,rfl,.inl ⟨by decide,by decide⟩,_,_,rfl,rfl,_,_,rfl,rfl,_,_,rfl,rfl,(by show (0:Int)<2147483647;decide),?_⟩
    refine⟨_,rfl,_,rfl,_,_,rfl,rfl,.inl (jw _),_,rfl,_,_,rfl,rfl,.inl ⟨by decide,by decide⟩,_,_,rfl,rfl,_,_,rfl,rfl,_,_,rfl,rfl,(by show (0:Int)<2147483629;decide),?_⟩
    have e1:=Jz (k:=k) eC (fun z=>c2 (decide_eq_true z.2))
    rw[<-e1] at q
    exact⟨_,rfl,_,_,rfl,rfl,.inl (jw _),_,rfl,_,_,rfl,rfl,q _ (aF c hc0 _) sm⟩
  ·refine A7 ?_
   refine⟨_,rfl,_,_,rfl,rfl,.inr ⟨by decide,by decide⟩,_,rfl,_,_,rfl,rfl,.inl ⟨by decide,by decide⟩,_,_,rfl,rfl,_,_,rfl,rfl,_,_,rfl,rfl,(by show (0:Int)<2147483647;decide),?_⟩
   refine⟨_,rfl,_,rfl,_,_,rfl,rfl,.inl (jw _),_,rfl,_,_,rfl,rfl,.inl ⟨by decide,by decide⟩,_,_,rfl,rfl,_,_,rfl,rfl,_,_,rfl,rfl,(by show (0:Int)<2147483629;decide),?_⟩
   have e1:=Jz (k:=k) eC (fun z=>c1 (decide_eq_true (by rw[hl];exact z.1)))
   rw[<-e1] at q
   exact⟨_,rfl,_,_,rfl,rfl,.inl (jw _),_,rfl,_,_,rfl,rfl,q _ (aF c hc0 _) sm⟩
 ·have en:ns=[]:=by
   cases ns with
   | nil=>rfl
   | cons x r=>exact absurd (by rfl) c0
  subst en
  have eC:Fq [] k=0:=by
   unfold Fq
   rw[dif_neg (by simp)]
  refine⟨_,rfl,_,rfl,a,_,rfl,.inl (sm.seq hS),_,_,rfl,rfl,_,rfl,?_⟩
  refine B9 (fun c1=>?_) (fun c1=>?_)
  ·refine⟨_,rfl,_,_,rfl,rfl,⟨by decide,by decide,by decide⟩,_,_,rfl,rfl,_,rfl,?_⟩
   refine B9 (fun c2=>?_) (fun c2=>?_)
   ·exact absurd (of_decide_eq_true c2) (by decide)
   ·refine⟨_,rfl,_,_,rfl,rfl,.inr ⟨by decide,by decide⟩,_,rfl,_,_,rfl,rfl,.inl ⟨by decide,by decide⟩,_,_,rfl,rfl,_,_,rfl,rfl,_,_,rfl,rfl,(by show (0:Int)<2147483647;decide),?_⟩
    refine⟨_,rfl,_,rfl,_,_,rfl,rfl,.inl (jw _),_,rfl,_,_,rfl,rfl,.inl ⟨by decide,by decide⟩,_,_,rfl,rfl,_,_,rfl,rfl,_,_,rfl,rfl,(by show (0:Int)<2147483629;decide),?_⟩
    have e1:=Jz (k:=k) eC (fun z=>absurd z.2 (by decide))
    rw[<-e1] at q
    exact⟨_,rfl,_,_,rfl,rfl,.inl (jw _),_,rfl,_,_,rfl,rfl,q _ (aF 0 (Int.le_refl _) _) sm⟩
  ·refine A7 ?_
   refine⟨_,rfl,_,_,rfl,rfl,.inr ⟨by decide,by decide⟩,_,rfl,_,_,rfl,rfl,.inl ⟨by decide,by decide⟩,_,_,rfl,rfl,_,_,rfl,rfl,_,_,rfl,rfl,(by show (0:Int)<2147483647;decide),?_⟩
   refine⟨_,rfl,_,rfl,_,_,rfl,rfl,.inl (jw _),_,rfl,_,_,rfl,rfl,.inl ⟨by decide,by decide⟩,_,_,rfl,rfl,_,_,rfl,rfl,_,_,rfl,rfl,(by show (0:Int)<2147483629;decide),?_⟩
   have e1:=Jz (k:=k) eC (fun z=>absurd z.2 (by decide))
   rw[<-e1] at q
   exact⟨_,rfl,_,_,rfl,rfl,.inl (jw _),_,rfl,_,_,rfl,rfl,q _ (aF 0 (Int.le_refl _) _) sm⟩
end
abbrev Dk:Stmt:=Bu 22
theorem Hq:∀{t:Tr}{m:Nat},t.ok 5->(t.ok m↔∀k∈Cq t,k<(m:Int))
 | .lt j,m,_=>by
  show j<m↔∀k∈[(j:Int)],k<(m:Int)
  simp
 | .nt t,m,h=>Hq (t:=t) h
 | .bn j a b,m,h=>by
  have h1:=Hq (m:=m) h.2.1
  have h2:=Hq (m:=m) h.2.2
  show (j<4/\a.ok m/\b.ok m)↔∀k∈Cq a++Cq b,k<(m:Int)
  rw[h1,h2]
  constructor
  ·rintro⟨_,q1,q2⟩ k hk
   rcases List.mem_append.mp hk with z | z
   ·exact q1 k z
   ·exact q2 k z
  ·intro q
   exact⟨h.1,fun k hk=>q k (zBU _ hk),fun k hk=>q k (zAY _ hk)⟩
theorem JR:∀t:Tr,∃k,k∈Cq t
 | .lt j=>⟨(j:Int),by simp[Cq]⟩
 | .nt t=>JR t
 | .bn _ a b=>by
  obtain⟨k,hk⟩:=JR a
  exact⟨k,zBU _ hk⟩
theorem RE{ns:List Int}{x:Int}(h:(ns++[x]).Pairwise (· < ·)):∀k∈ns++[x],k<=x:=fun k hk=>by
 rcases List.mem_append.mp hk with z | z
 ·exact Int.le_of_lt ((List.pairwise_append.mp h).2.2 k z x (by simp))
 ·rw[List.mem_singleton.mp z]
  exact Int.le_refl _
theorem J4{α:Type}(xs:List α)(x:α):HZ (xs++[x]) (-1)=some x:=by
 have e:Sg (xs++[x]).length (-1)=some xs.length:=by
  unfold Sg
  rw[if_neg (by decide),zA]
  show (if _ then _ else _)=_
  rw[if_pos (by show -(((xs.length+1:Nat)):Int)<=-1;omega)]
  congr 1
  show (((xs.length+1:Nat):Int) + -1).toNat=xs.length
  omega
 unfold HZ
 rw[e]
 show (xs++[x])[xs.length]? = some x
 simp
def DR(cS:Addr):Sp:=fun vs H Q E=>∃(v:V)(t:Tr)(m:Nat),vs=[v,.int m]/\t.At H v/\t.ok 5/\t.size<=60/\(¬t.ok m->∀H',Same H H'->E (.ref cS) none H')/\(t.ok m->∀H',Same H H'->Q .non H')
section
variable {cS cT:Addr}
theorem Oc:Ao ["sentence","many"] ["sentence","many"] (Ad Dk):=Bt
theorem NG(F:Fun K "refuse_strange" "refuse_strange" Dk f fd)(XS:Jj K mg "StrangeLetter" cS cT)(GL:FnOk P w K mg bz AH 2 g gd ["sentence"] IE)(CL:AL K mg "letters" g gd ["sentence"]):FnOk P w K mg bz (Gd P w) 3 f fd ["sentence","many"] (DR cS):=by
 refine Fun.okX F Oc (fun vs H Q E h=>?_) (fun ai A outer s H vs Q E hr h=>?_)
 ·obtain⟨v,t,m,rfl,_⟩:=h
  rfl
 obtain⟨v,t,m,rfl,ha,hok,aw,qE,q⟩:=h
 refine⟨_,Ae (AB (Al Qz (AD AK (Ah GL hr (by rfl) CL.m CL.k CL.b .nil Ak (Aa (pv 0) Ab)) (Kq HQ Ag) (fun _ _=>rfl)) (pv 1) (As _))
   (Ae (C0 (Ex:=E) D6 rfl XS.cls XS.at_ XS.ty (by rfl) XS.m (Aa Av Ab) (hvl:=fun _ _ _ h=>⟨by decide,h⟩)))
   Ap),?_⟩
 refine⟨_,rfl,v,t,rfl,ha,aw,fun l ns H1 s1 aU hl hp hm=>?_⟩
 obtain⟨k0,ir⟩:=JR t
 have av:ns≠[]:=List.ne_nil_of_mem ((hm k0).mpr ir)
 obtain⟨ms,x,rfl⟩:∃ms x,ns=ms++[x]:=⟨ns.dropLast,ns.getLast av,(List.dropLast_concat_getLast av).symm⟩
 have hmax:=RE hp
 have hx:x∈Cq t:=(hm x).mp (by simp)
 have hiff:=Hq (m:=m) hok
 have bH:HZ ((ms++[x]).map V.int) (-1)=some (.int x):=by rw[zAM];exact J4 _ _
 refine⟨_,rfl,l,_,_,_,rfl,rfl,SqL.of hl,bH,_,rfl,_,_,rfl,rfl,_,rfl,?_⟩
 by_cases c:t.ok m
 ·refine A6 (fun z=>?_) (q c _ s1)
  have:=hiff.mp c x hx
  have z':x>=(m:Int):=z
  omega
 ·refine Bd ?_ (qE c _ s1)
  show x>=(m:Int)
  refine Int.not_lt.mp fun z=>c (hiff.mpr fun k hk=>?_)
  have:=hmax k ((hm k).mpr hk)
  omega
end
def BA(M:List Addr)(H:Hp):Hp:=fun b=>if b∈M then none else H b
section
variable {M N:List Addr}{H H' H0 H1:Hp}{a b l:Addr}{o:HO}
theorem Co(h:BA M H b=some o):H b=some o/\b∉M:=by
 unfold BA at h
 by_cases c:b∈M
 ·rw[if_pos c] at h;cases h
 ·rw[if_neg c] at h;exact⟨h,c⟩
theorem Bw(h:H b=some o)(n:b∉M):BA M H b=some o:=by unfold BA;rw[if_neg n];exact h
theorem cut_same:Same (BA M H) H:=fun b o h=>(Co h).1
theorem AU(s:Same H H'):Same (BA M H) (BA M H'):=fun b o h=>Bw (s _ _ (Co h).1) (Co h).2
theorem Ho(h:a∈M):BA M (upd H a o)=BA M H:=by
 funext b
 unfold BA
 by_cases c:b∈M
 ·rw[if_pos c,if_pos c]
 ·rw[if_neg c,if_neg c,Ax (fun z=>c (by rw[z];exact h))]
abbrev But(M:List Addr)(H H':Hp):Prop:=Same (BA M H) (BA M H')
theorem But.upd(h:a∈M):But M H (upd H a o):=by
 show Same (BA M H) (BA M (L2.upd H a o))
 rw[Ho h]
 exact Same.refl _
theorem But.wide(h:∀x∈M,x∈N)(s:But M H H'):But N H H':=fun b o e=>by
 obtain⟨e1,n⟩:=Co e
 exact Bw (Co (s b o (Bw e1 fun z=>n (h b z)))).1 n
theorem But.same(off:∀m∈M,H0 m=none)(s0:Same H0 H)(s:But M H H'):Same H0 H':=fun b o e=>
 (Co (s b o (Bw (s0 _ _ e) fun z=>by rw[off b z] at e;cases e))).1
theorem But.at(s:But M H H')(h:H b=some o)(n:b∉M):H' b=some o:=(Co (s b o (Bw h n))).1
end
structure Tk where
 dx:Addr
 sp:Addr
 pt:Addr
 gv:Addr
 lf:Addr
 sv:V
 pxs:List V
 ges:List V
 lfs:List V
structure Ta where
 many:Nat
 kind:Str
 rule:Str
 t:Tr
 room:List Int
 ents:List (V×Tr×Str)
 lefts:List (List Int)
 ended:Bool
def Ta.sides(W:Ta):List (List Int):=AE W.kind W.t W.room
def Ta.base(W:Ta):List Int:=W.lefts.headD []
def Ta.held(W:Ta):List Int:=W.lefts.getLastD []
def Ta.going(W:Ta):List Int:=if W.rule="elder" then W.held else W.base
def Kw(U:Tk)(W:Ta):List (Str×V):=[("many",.int W.many),("kind",.str W.kind),("sentence",U.sv),("rule",.str W.rule),("space",.ref U.sp),("parts",.ref U.pt),("given",.ref U.gv),("left",.ref U.lf),("ended",.bl W.ended)]
abbrev EntsAt(H:Hp):List V->List (V×Tr×Str)->Prop:=Paired fun(v:V)(e:V×Tr×Str)=>∃p,v= .ref p/\H p=some (.tup [e.1,.str e.2.2])/\e.2.1.At H e.1
theorem EntsAt.keep{H H':Hp}(s:Same H H'):∀{xs:List V}{es:List (V×Tr×Str)},EntsAt H xs es->EntsAt H' xs es
 | _,_,.nil=>.nil
 | _,_,.cons ⟨p,e,h,a⟩ q=>.cons ⟨p,e,s _ _ h,a.keep (TS.same s)⟩ (EntsAt.keep s q)
structure TalkAt(M:List Addr)(C:Addr)(H:Hp)(a:Addr)(U:Tk)(W:Ta):Prop where
 ob:H a=some (.ins C U.dx (Kw U W))
 gv:H U.gv=some (.lst U.ges)
 lf:H U.lf=some (.lst U.lfs)
 ma:a∈M
 mg:U.gv∈M
 ml:U.lf∈M
 ne:U.gv≠U.lf
 room:AM (BA M H) U.sp W.room
 tr:W.t.At (BA M H) U.sv
 pt:BA M H U.pt=some (.lst U.pxs)
 sd:RowsAt (BA M H) U.pxs W.sides
 en:EntsAt (BA M H) U.ges W.ents
 lr:RowsAt (BA M H) U.lfs W.lefts
 wr:Wr W.room
 wl:∀l∈W.lefts,l.Sublist W.room
 ln:W.lefts≠[]
 l9:W.lefts.length<=900
 e9:W.ents.length<=900
 tok:W.t.ok W.many
 m5:W.many<=5
 tsz:W.t.size<=23
 kd:BU W.kind
 ns:[]∉W.sides
 rl:W.rule="elder"\/W.rule="newer"
section
variable {M:List Addr}{C:Addr}{H H':Hp}{a:Addr}{U:Tk}{W:Ta}
theorem TalkAt.keep(s:Same H H')(h:TalkAt M C H a U W):TalkAt M C H' a U W:=
 ⟨s _ _ h.ob,s _ _ h.gv,s _ _ h.lf,h.ma,h.mg,h.ml,h.ne,AU s _ _ h.room,h.tr.keep (TS.same (AU s)),AU s _ _ h.pt,h.sd.keep (AU s),h.en.keep (AU s),h.lr.keep (AU s),h.wr,h.wl,h.ln,h.l9,h.e9,h.tok,h.m5,h.tsz,h.kd,h.ns,h.rl⟩
theorem TalkAt.ws(h:TalkAt M C H a U W):∀s∈W.sides,Wr s:=fun s hs=>h.wr.sub (Fy hs)
theorem JS:(Kw U W).lookup ("many":Str)=some (.int W.many):=by with_unfolding_all rfl
theorem JD:(Kw U W).lookup ("rule":Str)=some (.str W.rule):=by with_unfolding_all rfl
theorem Id:(Kw U W).lookup ("space":Str)=some (.ref U.sp):=by with_unfolding_all rfl
theorem Kz:(Kw U W).lookup ("parts":Str)=some (.ref U.pt):=by with_unfolding_all rfl
theorem Kd:(Kw U W).lookup ("given":Str)=some (.ref U.gv):=by with_unfolding_all rfl
theorem Hs:(Kw U W).lookup ("left":Str)=some (.ref U.lf):=by with_unfolding_all rfl
theorem KT:(Kw U W).lookup ("ended":Str)=some (.bl W.ended):=by with_unfolding_all rfl
theorem Jt:(Kw U W).lookup ("room":Str)=none:=by with_unfolding_all rfl
theorem Jg:(Kw U W).lookup ("base":Str)=none:=by with_unfolding_all rfl
theorem JA:(Kw U W).lookup ("held":Str)=none:=by with_unfolding_all rfl
theorem B5:(Kw U W).lookup ("going":Str)=none:=by with_unfolding_all rfl
theorem P6:(Kw U W).lookup ("sides":Str)=none:=by with_unfolding_all rfl
theorem DH:(Kw U W).lookup ("entries":Str)=none:=by with_unfolding_all rfl
theorem QX:(Kw U W).lookup ("over":Str)=none:=by with_unfolding_all rfl
theorem SM:(Kw U W).lookup ("ask":Str)=none:=by with_unfolding_all rfl
theorem SX:(Kw U W).lookup ("say":Str)=none:=by with_unfolding_all rfl
end
structure BY(K:PySem.W.Frag)(C:Addr)(nm:Str)(f:Addr)(fd:FuncData)(ps:List Str):Prop where
 m:RR K C nm f
 b:Binds K fd ps []
structure TF(K:PySem.W.Frag)(mg:Str->Option Value)(C:Addr)(nm:Str)(f:Addr)(fd:FuncData)(ps:List Str):Prop where
 make:Mk K C f
 m:mg nm=some (.ref C)
 b:Binds K fd ps []
structure J0(K:PySem.W.Frag)(C:Addr):Prop where
 cl:Cls K C
 many:NoAttr K C "many"
 kind:NoAttr K C "kind"
 sentence:NoAttr K C "sentence"
 rule:NoAttr K C "rule"
 space:NoAttr K C "space"
 parts:NoAttr K C "parts"
 given:NoAttr K C "given"
 left:NoAttr K C "left"
 ended:NoAttr K C "ended"
theorem Nq(h:RowsAt H xs rs)(ne:rs≠[]):∃p,HZ xs 0=some (.ref p)/\AM H p (rs.headD []):=by
 cases h with
 | nil=>exact absurd rfl ne
 | cons r q=>
  obtain⟨p,rfl,hp⟩:=r
  exact⟨p,Aj (j:=0) rfl,hp⟩
theorem IQ{H:Hp}:∀{xs:List V}{rs:List (List Int)},RowsAt H xs rs->rs≠[]->∃ys p,xs=ys++[.ref p]/\RowsAt H ys rs.dropLast/\AM H p (rs.getLastD [])
 | _,_,.nil,ne=>absurd rfl ne
 | [_],[_],.cons ⟨p,rfl,hp⟩ .nil,_=>⟨[],p,rfl,.nil,hp⟩
 | x::_::_,_::_::_,.cons hx (.cons h2 q),_=>by
  obtain⟨ys,p,e,h1,h3⟩:=IQ (.cons h2 q) (zC4 _ _)
  exact⟨x::ys,p,by rw[e];rfl,.cons hx h1,h3⟩
theorem Ff(h:RowsAt H xs rs)(ne:rs≠[]):∃p,HZ xs (-1)=some (.ref p)/\AM H p (rs.getLastD []):=by
 obtain⟨ys,p,rfl,_,hp⟩:=IQ h ne
 exact⟨p,J4 _ _,hp⟩
theorem TalkAt.held_in(h:TalkAt M C H a U W):W.held∈W.lefts:=by
 unfold Ta.held
 have:=h.ln
 cases e:W.lefts with
 | nil=>exact absurd e this
 | cons x r=>
  rw[List.getLastD_eq_getLast?,List.getLast?_eq_some_getLast (zC4 x r)]
  exact List.getLast_mem _
theorem TalkAt.base_in(h:TalkAt M C H a U W):W.base∈W.lefts:=by
 unfold Ta.base
 have:=h.ln
 cases e:W.lefts with
 | nil=>exact absurd e this
 | cons x r=>exact List.mem_cons_self
theorem TalkAt.held_wr(h:TalkAt M C H a U W):Wr W.held:=h.wr.sub (h.wl _ h.held_in)
theorem TalkAt.base_wr(h:TalkAt M C H a U W):Wr W.base:=h.wr.sub (h.wl _ h.base_in)
theorem TalkAt.going_wr(h:TalkAt M C H a U W):Wr W.going:=by
 unfold Ta.going
 split
 ·exact h.held_wr
 ·exact h.base_wr
theorem Fg{H0 H:Hp}{v:V}{row:List Int}(h:∃p,v= .ref p/\H0 p=none/\AM H p row):∀{xs:List V}{rs:List (List Int)},RowsNew H0 H xs rs->RowsNew H0 H (xs++[v]) (rs++[row])
 | _,_,.nil=>.cons h .nil
 | _,_,.cons x q=>.cons x (Fg h q)
theorem Gy{H0 H H':Hp}{acc:Addr}:∀{xs:List V}{rs:List (List Int)},RowsNew H0 H xs rs->(∀y∈xs,y≠.ref acc)->(∀p row,p≠acc->AM H p row->AM H' p row)->RowsNew H0 H' xs rs
 | _,_,.nil,_,_=>.nil
 | _,_,.cons ⟨p,e,n,h⟩ q,ho,k=>.cons ⟨p,e,n,k p _ (fun z=>ho _ List.mem_cons_self (by rw[e,z])) h⟩ (Gy q (fun y hy=>ho y (List.mem_cons_of_mem _ hy)) k)
theorem Je{K:PySem.W.Frag}(hr:SqL K H a xs)(hR:RowsAt H xs rs)(ah:H acc=none)(ag:xs.length<=900)(ht:∀(p:Addr) (row:List Int) H2,AM H2 p row->∀R:V->Hp->Prop,(∀l,H2 l=none->R (.ref l) (upd H2 l (.lst (row.map V.int))))->te (some (.ref p)::rest) H2 R)(hd:∀v0 ys H2,Same H H2->H2 acc=some (.lst ys)->RowsNew H H2 ys rs->(∀y∈ys,y≠.ref acc)->D.nx (v0::rest) H2)(v:Option V):
  EY (R8 K a) (DM 0) (DO NH (Cg acc te)) D (v::rest) (upd H acc (.lst [])):=by
 refine A1 (K:=K) (a:=a) (xs:=xs) (fun i σ H2=>∃v0 ys,σ=v0::rest/\Same H H2/\H2 acc=some (.lst ys)/\(∀y∈ys,y≠.ref acc)/\RowsNew H H2 ys (rs.take i)) ⟨v,[],rfl,Af ah _,upd_same,fun y hy=>by simp at hy,.nil⟩ ?_ ?_ ?_
 ·rintro i σ H2 _ ⟨v0,ys,rfl,s2,_⟩
  exact s2.seq hr
 ·rintro i x σ H2 hx ⟨v0,ys,rfl,s2,ha2,ho,hy2⟩
  obtain⟨row,p,hrow,rfl,hp⟩:=hR.get hx
  have et:rs.take (i+1)=rs.take i++[row]:=by rw[zAT,hrow];rfl
  show Cg acc te _ _ _
  refine ht p row H2 (s2 _ _ hp) _ fun l hl=>?_
  have s3:=Af hl (.lst (row.map V.int))
  have nl:l≠acc:=fun e=>by rw[e,ha2] at hl;cases hl
  have hylen:=hy2.at.len
  refine⟨ys,s3 _ _ ha2,AG (by rw[hylen,List.length_take];have:=hR.len;omega),?_⟩
  refine⟨_,ys++[.ref l],rfl,AJ (s2.trans s3) ah _,upd_same,fun y hy=>?_,?_⟩
  ·rcases List.mem_append.mp hy with z | z
   ·exact ho y z
   ·rw[List.mem_singleton.mp z]
    exact fun q=>nl (V.ref.inj q)
  ·rw[et]
   refine Fg ⟨l,rfl,s2.free hl,by show upd _ _ _ l=_;rw[Ax nl];exact upd_same⟩ (Gy hy2 ho fun p' aA n' h'=>?_)
   show upd _ _ _ p'=_
   rw[Ax n']
   exact s3 _ _ h'
 ·rintro σ H2 ⟨v0,ys,rfl,s2,ha2,ho,hy2⟩
  rw[hR.len,zAX] at hy2
  exact hd v0 ys H2 s2 ha2 hy2 ho
section
variable {cK:Addr}
abbrev FI:Stmt:=BX (Bu 34) 1
def Hi(C:Addr):Sp:=fun vs H Q _=>∃(a:Addr)(M:List Addr)(U:Tk)(W:Ta),vs=[.ref a]/\TalkAt M C H a U W/\∀(l:Addr)(H':Hp),Same H H'->H l=none->AM H' l W.room->Q (.ref l) H'
theorem Rw:Ao ["self"] ["self"] (Ad FI):=Bt
theorem PN(F:Fun K "room" "Talk.room" FI f fd)(TX:J0 K cK)(T:EV mg):FnOk P w K mg bz AH 1 f fd ["self"] (Hi cK):=by
 refine F.ok Rw (fun vs H Q E h=>?_) (fun ai A outer s H vs Q E hr h=>?_)
 ·obtain⟨a,M,U,W,rfl,_⟩:=h
  rfl
 obtain⟨a,M,U,W,rfl,h,q⟩:=h
 refine⟨_,Ae (Ai (AF AR (by rfl) T.lst AZ (Aa (Bp (pv 0) rfl) Ab))),?_⟩
 exact⟨_,rfl,a,cK,_,_,_,rfl,h.ob,TX.cl,TX.space,Id,_,_,rfl,.inl (SqL.of (cut_same _ _ h.room)),fun l hl=>q l _ (Af hl _) hl upd_same⟩
abbrev FK:Stmt:=BX (Bu 34) 2
def JV(C:Addr):Sp:=fun vs H Q _=>∃(a:Addr)(M:List Addr)(U:Tk)(W:Ta),vs=[.ref a]/\TalkAt M C H a U W/\∀(l:Addr)(H':Hp),Same H H'->H l=none->AM H' l W.base->Q (.ref l) H'
theorem Q9:Ao ["self"] ["self"] (Ad FK):=Bt
theorem QH(F:Fun K "base" "Talk.base" FK f fd)(TX:J0 K cK)(T:EV mg):FnOk P w K mg bz AH 1 f fd ["self"] (JV cK):=by
 refine F.ok Q9 (fun vs H Q E h=>?_) (fun ai A outer s H vs Q E hr h=>?_)
 ·obtain⟨a,M,U,W,rfl,_⟩:=h
  rfl
 obtain⟨a,M,U,W,rfl,h,q⟩:=h
 refine⟨_,Ae (Ai (AF AR (by rfl) T.lst AZ (Aa (AD AK (Bp (pv 0) rfl) Ag (fun _ _=>rfl)) Ab))),?_⟩
 obtain⟨p,eG,cf⟩:=Nq h.lr h.ln
 exact⟨_,rfl,a,cK,_,_,_,rfl,h.ob,TX.cl,TX.left,Hs,_,_,_,_,rfl,rfl,SqL.of h.lf,eG,p,_,rfl,.inl (SqL.of (cut_same _ _ cf)),fun l hl=>q l _ (Af hl _) hl upd_same⟩
abbrev Gi:Stmt:=BX (Bu 34) 3
def JY(C:Addr):Sp:=fun vs H Q _=>∃(a:Addr)(M:List Addr)(U:Tk)(W:Ta),vs=[.ref a]/\TalkAt M C H a U W/\∀(l:Addr)(H':Hp),Same H H'->H l=none->AM H' l W.held->Q (.ref l) H'
theorem R4:Ao ["self"] ["self"] (Ad Gi):=Bt
theorem Ov(F:Fun K "held" "Talk.held" Gi f fd)(TX:J0 K cK)(T:EV mg):FnOk P w K mg bz AH 1 f fd ["self"] (JY cK):=by
 refine F.ok R4 (fun vs H Q E h=>?_) (fun ai A outer s H vs Q E hr h=>?_)
 ·obtain⟨a,M,U,W,rfl,_⟩:=h
  rfl
 obtain⟨a,M,U,W,rfl,h,q⟩:=h
 refine⟨_,Ae (Ai (AF AR (by rfl) T.lst AZ (Aa (AD AK (Bp (pv 0) rfl) (Kq HQ Ag) (fun _ _=>rfl)) Ab))),?_⟩
 obtain⟨p,eG,cf⟩:=Ff h.lr h.ln
 exact⟨_,rfl,a,cK,_,_,_,rfl,h.ob,TX.cl,TX.left,Hs,_,rfl,_,_,_,_,rfl,rfl,SqL.of h.lf,eG,p,_,rfl,.inl (SqL.of (cut_same _ _ cf)),fun l hl=>q l _ (Af hl _) hl upd_same⟩
abbrev Ef:Stmt:=BX (Bu 34) 4
def DZ(C:Addr):Sp:=fun vs H Q _=>∃(a:Addr)(M:List Addr)(U:Tk)(W:Ta),vs=[.ref a]/\TalkAt M C H a U W/\∀(l:Addr)(H':Hp),Same H H'->H l=none->AM H' l W.going->Q (.ref l) H'
theorem QI:Ao ["self"] ["self"] (Ad Ef):=Bt
theorem Og(F:Fun K "going" "Talk.going" Ef f fd)(TX:J0 K cK)(GH:FnOk P w K mg bz AH 1 g1 d1 ["self"] (JY cK))(CH:BY K cK "held" g1 d1 ["self"])(GB:FnOk P w K mg bz AH 1 g2 d2 ["self"] (JV cK))(CB:BY K cK "base" g2 d2 ["self"]):FnOk P w K mg bz AH 2 f fd ["self"] (DZ cK):=by
 refine F.ok QI (fun vs H Q E h=>?_) (fun ai A outer s H vs Q E hr h=>?_)
 ·obtain⟨a,M,U,W,rfl,_⟩:=h
  rfl
 obtain⟨a,M,U,W,rfl,h,q⟩:=h
 refine⟨_,Ac (AB (Al AQ (Bp (pv 0) rfl) Av (As _))
   (Ae (Ai (A0 (pv 0) TX.cl CH.m GH hr CH.b .nil Ak)))
   Ap)
  (Ae (Ai (A0 (pv 0) TX.cl CB.m GB hr CB.b .nil Ak))),?_⟩
 unfold Ta.going at q
 refine⟨_,rfl,a,cK,_,_,_,rfl,h.ob,TX.cl,TX.rule,JD,rfl,_,rfl,?_⟩
 by_cases c:W.rule="elder"
 ·refine Bd (by rw[c]) ?_
  rw[if_pos c] at q
  exact⟨_,rfl,a,_,_,rfl,h.ob,JA,a,M,U,W,rfl,h,q⟩
 ·refine A6 (fun z=>c (by injection z)) ?_
  rw[if_neg c] at q
  exact⟨_,rfl,a,_,_,rfl,h.ob,Jg,a,M,U,W,rfl,h,q⟩
abbrev Ee:Stmt:=BX (Bu 34) 5
def KP(C:Addr):Sp:=fun vs H Q _=>∃(a:Addr)(M:List Addr)(U:Tk)(W:Ta),vs=[.ref a]/\TalkAt M C H a U W/\∀(l:Addr)(xs:List V)(H':Hp),Same H H'->H l=none->H' l=some (.lst xs)->RowsNew H H' xs W.sides->(∀x∈xs,x≠.ref l)->Q (.ref l) H'
theorem O8:Ao ["self"] ["self"] (Ad Ee):=Bt
theorem NV(F:Fun K "sides" "Talk.sides" Ee f fd)(TX:J0 K cK)(T:EV mg):FnOk P w K mg bz AH 1 f fd ["self"] (KP cK):=by
 refine F.ok O8 (fun vs H Q E h=>?_) (fun ai A outer s H vs Q E hr h=>?_)
 ·obtain⟨a,M,U,W,rfl,_⟩:=h
  rfl
 obtain⟨a,M,U,W,rfl,h,q⟩:=h
 refine⟨_,Ae (Ai (Bi (N:=["side"]) (js:=[none]) (cl:=[]) ⟨rfl,rfl,rfl,zCO _,rfl,rfl,rfl⟩ (AS (Bp (pv 0) rfl)) (fun c1=>(AC (i:=0) (show (["side"]:List Str).Nodup by decide +kernel) rfl (Or.inl rfl))) (fun c1=>Bx) (fun c1=>(AF AR (by rfl) T.lst AZ (Aa (pv 0) Ab))))),?_⟩
 have ag:=h.sd.len
 have h2:W.sides.length<=2:=by
  unfold Ta.sides
  rcases Di (z:=W.kind) (t:=W.t) (row:=W.room) with⟨x,e⟩|⟨x,y,e⟩<;>rw[e]<;>simp
 refine⟨_,rfl,a,cK,_,_,_,rfl,h.ob,TX.cl,TX.parts,Kz,U.pt,rfl,⟨_,SqL.of (cut_same _ _ h.pt)⟩,fun cc acc ah=>Je (rest:=[]) (SqL.of (cut_same _ _ h.pt)) (h.sd.keep cut_same) ah (by omega) (fun p row H2 hp R hR=>⟨_,rfl,p,_,rfl,.inl (SqL.of hp),fun l hl=>hR l hl⟩) (fun v0 ys H2 s2 h2 hN av=>q acc ys H2 s2 ah h2 hN av) none⟩
abbrev Ce:Stmt:=BX (Bu 34) 6
def ER(C:Addr):Sp:=fun vs H Q _=>∃(a:Addr)(M:List Addr)(U:Tk)(W:Ta),vs=[.ref a]/\TalkAt M C H a U W/\∀(l:Addr)(H':Hp),Same H H'->H l=none->H' l=some (.lst U.ges)->Q (.ref l) H'
theorem LE:Ao ["self"] ["self"] (Ad Ce):=Bt
theorem KC(F:Fun K "entries" "Talk.entries" Ce f fd)(TX:J0 K cK)(T:EV mg):FnOk P w K mg bz AH 1 f fd ["self"] (ER cK):=by
 refine F.ok LE (fun vs H Q E h=>?_) (fun ai A outer s H vs Q E hr h=>?_)
 ·obtain⟨a,M,U,W,rfl,_⟩:=h
  rfl
 obtain⟨a,M,U,W,rfl,h,q⟩:=h
 refine⟨_,Ae (Ai (AF AR (by rfl) T.lst AZ (Aa (Bp (pv 0) rfl) Ab))),?_⟩
 exact⟨_,rfl,a,cK,_,_,_,rfl,h.ob,TX.cl,TX.given,Kd,_,_,rfl,.inl (SqL.of h.gv),fun l hl=>q l _ (Af hl _) hl upd_same⟩
abbrev FW:Stmt:=BX (Bu 34) 8
def Me(C:Addr):Sp:=fun vs H Q _=>∃(a:Addr)(M:List Addr)(U:Tk)(W:Ta),vs=[.ref a]/\TalkAt M C H a U W/\Q (.bl W.ended) H
theorem R6:Ao ["self"] ["self"] (Ad FW):=Bt
theorem OZ(F:Fun K "over" "Talk.over" FW f fd)(TX:J0 K cK):FnOk P w K mg bz AH 1 f fd ["self"] (Me cK):=by
 refine F.ok R6 (fun vs H Q E h=>?_) (fun ai A outer s H vs Q E hr h=>?_)
 ·obtain⟨a,M,U,W,rfl,_⟩:=h
  rfl
 obtain⟨a,M,U,W,rfl,h,q⟩:=h
 refine⟨_,Ae (Ai (Bp (pv 0) rfl)),?_⟩
 exact⟨_,rfl,a,cK,_,_,_,rfl,h.ob,TX.cl,TX.ended,KT,q⟩
end
abbrev Fx:Stmt:=BX (Bu 34) 0
def Cs(z:Str):Prop:=z="elder"\/z="newer"
instance(z:Str):Decidable (Cs z):=by unfold Cs;infer_instance
def MY:List V:=[.str "elder",.str "newer"]
theorem Pp(z:Str):QN (.str z) MY=decide (Cs z):=by
 unfold QN MY Cs
 simp only[zB6,List.any_nil,zDL]
 have e:∀y:Str,OR (.str y) (.str z)=decide (z=y):=fun y=>by
  show (y == z)=decide (z=y)
  by_cases h:z=y
  ·subst h;simp
  ·rw[decide_eq_false h]
   exact beq_false_of_ne fun q=>h q.symm
 rw[e,e,zA6]
 simp only[zBJ,decide_eq_true_eq]
 exact decide_eq_true_iff.symm
def Tt(many:Nat)(kind rule:Str)(t:Tr)(room:List Int):Ta:=⟨many,kind,rule,t,room,[],[IN room (AE kind t room)],false⟩
def MI(C cS cB cN:Addr):Sp:=fun vs H Q E=>∃(x dx rm:Addr)(many:Nat)(kind rule:Str)(v:V)(t:Tr)(room:List Int)(M:List Addr),vs=[.ref x,.int many,.ref rm,.str kind,v,.str rule]/\H x=some (.ins C dx [])/\x∉M/\(∀m∈M,H m≠none)/\
 t.At (BA M H) v/\t.ok 5/\t.size<=23/\many<=5/\AM H rm room/\Wr room/\
 (¬t.ok many->∀H',But [x] H H'->E (.ref cS) none H')/\(t.ok many->¬(Cs rule/\BU kind)->∀H',But [x] H H'->E (.ref cB) none H')/\(t.ok many->Cs rule->BU kind->[]∈AE kind t room->∀H',But [x] H H'->E (.ref cN) none H')/\
 (t.ok many->Cs rule->BU kind->[]∉AE kind t room->∀(U:Tk)(H':Hp),But [x] H H'->H U.gv=none->H U.lf=none->H U.sp=none->U.sv=v->TalkAt (x::U.gv::U.lf::M) C H' x U (Tt many kind rule t room)->Q .non H')
theorem BI{fs fs':List (Str×V)}{f:Str}(e:Ct f v fs=fs')(b:But [x] H0 H):
  But [x] H0 (upd H x (.ins C dx (Ct f v fs)))/\upd H x (.ins C dx (Ct f v fs)) x=some (.ins C dx fs')/\But [x] H (upd H x (.ins C dx (Ct f v fs))):=
 ⟨b.trans (But.upd (by simp)),upd_same.trans (congrArg (fun l=>some (HO.ins C dx l)) e),But.upd (by simp)⟩
theorem B4{x b:Addr}(h:b≠x):b∉[x]:=by simpa using h
abbrev FM(H:Hp)(x:Addr):List V->List (List Int)->Prop:=Paired fun(v:V)(row:List Int)=>∃p,v= .ref p/\p≠x/\AM H p row
theorem DP{H H':Hp}{x:Addr}{o:HO}(hx:H x=some o):∀{xs:List V}{rs:List (List Int)},RowsNew H H' xs rs->FM H' x xs rs
 | _,_,.nil=>.nil
 | _,_,.cons ⟨p,e,n,h⟩ q=>.cons ⟨p,e,(An hx n).symm,h⟩ (DP hx q)
theorem Gv{H H':Hp}{x:Addr}(b:But [x] H H'):∀{xs:List V}{rs:List (List Int)},FM H x xs rs->FM H' x xs rs
 | _,_,.nil=>.nil
 | _,_,.cons ⟨p,e,n,h⟩ q=>.cons ⟨p,e,n,b.at h (B4 n)⟩ (Gv b q)
theorem Fp{H H':Hp}{x:Addr}(b:Same H H'):∀{xs:List V}{rs:List (List Int)},FM H x xs rs->FM H' x xs rs
 | _,_,.nil=>.nil
 | _,_,.cons ⟨p,e,n,h⟩ q=>.cons ⟨p,e,n,b _ _ h⟩ (Fp b q)
theorem HV{H H':Hp}{x:Addr}(b:But [x] H H'):∀{xs:List V}{rs:List (List Int)},FM H x xs rs->RowsAt H' xs rs
 | _,_,.nil=>.nil
 | _,_,.cons ⟨p,e,n,h⟩ q=>.cons ⟨p,e,b.at h (B4 n)⟩ (HV b q)
theorem KL{H0 H1 G:Hp}(k:∀p row,H0 p=none->AM H1 p row->AM G p row):∀{xs:List V}{rs:List (List Int)},RowsNew H0 H1 xs rs->RowsAt G xs rs
 | _,_,.nil=>.nil
 | _,_,.cons ⟨p,e,n,h⟩ q=>.cons ⟨p,e,k p _ n h⟩ (KL k q)
section
variable {cK cS cB cN cT:Addr}
theorem RI:Ao ["self","many","room","kind","sentence","rule"] ["self","many","room","kind","sentence","rule"] (Ad Fx):=Bt
theorem Qk(F:Fun K "__init__" "Talk.__init__" Fx f fd)(TX:J0 K cK)(T:EV mg)(XB:Jj K mg "BadWord" cB cT)(GR:FnOk P w K mg bz (Gd P w) 3 g1 d1 ["sentence","many"] (DR cS))(CR:AL K mg "refuse_strange" g1 d1 ["sentence","many"])(GD:FnOk P w K mg bz (Gd P w) 4 g2 d2 ["room","kind","sentence"] (IK K cB cN))(CD:AL K mg "sides_of" g2 d2 ["room","kind","sentence"])(GB:FnOk P w K mg bz AH 2 g3 d3 ["sides"] (M7 K))(CB:AL K mg "base_of" g3 d3 ["sides"]):FnOk P w K mg bz (Gd P w) 5 f fd ["self","many","room","kind","sentence","rule"] (MI cK cS cB cN):=by
 refine Fun.okX F RI (fun vs H Q E h=>?_) (fun ai A outer s H vs Q E hr h=>?_)
 ·obtain⟨x,dx,rm,many,kind,rule,v,t,room,M,rfl,_⟩:=h
  rfl
 obtain⟨x,dx,rm,many,kind,rule,v,t,room,M,rfl,hx,nxM,hM,ha,hok,aw,bI,cj,hwr,qS,qB,qN,q⟩:=h
 have ba:Room 3 _:=hr.mono (by decide)
 have aE:Room 2 _:=hr.mono (by decide)
 have nrx:rm≠x:=DU cj hx (by intro z;cases z)
 have haH:=ha.keep (TS.same cut_same)
 have kt:∀{H1:Hp},But [x] H H1->TS H H1:=fun b p xs e=>b.at e (B4 (DU e hx (by intro z;cases z)))
 refine⟨_,Ac (AW (Ah GR ba (by rfl) CR.m CR.k CR.b .nil (BN (E1:=E) fun _ _ _ h=>h) (Aa (pv 4) (Aa (pv 1) Ab))))
  (Ac (AB (Al Bb (pv 5) (Bc (Aa Av (Aa Av Ab))) (by with_unfolding_all rfl))
   (Ae (C0 (Ex:=E) D6 rfl XB.cls XB.at_ XB.ty (by rfl) XB.m (Aa Av Ab) (hvl:=fun _ _ _ h=>⟨by decide,h⟩)))
   Ap)
  (Ac (DD (pv 0) (pv 1) rfl)
  (Ac (DD (pv 0) (pv 3) rfl)
  (Ac (DD (pv 0) (pv 4) rfl)
  (Ac (DD (pv 0) (pv 5) rfl)
  (Ac (DD (pv 0) (AF AR (by rfl) T.lst AZ (Aa (pv 2) Ab)) rfl)
  (Ac (DD (pv 0) (Ah GD hr (by rfl) CD.m CD.k CD.b .nil (BN (E1:=E) fun _ _ _ h=>h) (Aa (pv 2) (Aa (pv 3) (Aa (pv 4) Ab)))) rfl)
  (Ac (DD (pv 0) (AI Ab) rfl)
  (Ac (DD (pv 0) (AI (Aa (Ah GB aE (by rfl) CB.m CB.k CB.b .nil Ak (Aa (Bp (pv 0) rfl) Ab)) Ab)) rfl)
  (Ae (DD (pv 0) BQ rfl))))))))))),?_⟩
 refine⟨_,rfl,_,rfl,v,t,many,rfl,haH,hok,by omega,fun hn H1 s1=>qS hn H1 (AU s1),fun aG H1 s1=>?_⟩
 refine⟨_,rfl,Ig,fun rt hrt=>?_⟩
 have s2:=s1.trans (Af hrt (.tup [.str "elder",.str "newer"]))
 refine⟨rt,MY,rfl,.inr (SqT.of upd_same),rfl,rfl,_,rfl,?_⟩
 show if (!QN (.str rule) MY)=true then _ else _
 rw[Pp]
 generalize upd H1 rt _=H2 at *
 by_cases aM:Cs rule
 rotate_left
 ·exact MG aM (qB aG (fun z=>aM z.1) _ (AU s2))
 refine IP aM ?_
 have b2:But [x] H H2:=AU s2
 have x2:=s2 _ _ hx
 refine⟨_,rfl,_,rfl,x,cK,dx,_,rfl,x2,TX.cl,TX.many,(by decide),?_⟩
 obtain⟨b3,x3,_⟩:=BI (C:=cK) (dx:=dx) (f:="many") (v:=.int many) (fs:=[]) (fs':=[("many",.int many)]) (by with_unfolding_all rfl) b2
 generalize upd H2 x _=H3 at *
 refine⟨_,rfl,_,rfl,x,cK,dx,_,rfl,x3,TX.cl,TX.kind,(by show 1<1000;decide),?_⟩
 obtain⟨b4,x4,_⟩:=BI (C:=cK) (dx:=dx) (f:="kind") (v:=.str kind) (fs:=[("many",.int many)]) (fs':=[("many",.int many),("kind",.str kind)]) (by with_unfolding_all rfl) b3
 generalize upd H3 x _=H4 at *
 refine⟨_,rfl,_,rfl,x,cK,dx,_,rfl,x4,TX.cl,TX.sentence,(by show 2<1000;decide),?_⟩
 obtain⟨b5,x5,_⟩:=BI (C:=cK) (dx:=dx) (f:="sentence") (v:=v) (fs:=[("many",.int many),("kind",.str kind)]) (fs':=[("many",.int many),("kind",.str kind),("sentence",v)]) (by with_unfolding_all rfl) b4
 generalize upd H4 x _=H5 at *
 refine⟨_,rfl,_,rfl,x,cK,dx,_,rfl,x5,TX.cl,TX.rule,(by show 3<1000;decide),?_⟩
 obtain⟨b6,x6,_⟩:=BI (C:=cK) (dx:=dx) (f:="rule") (v:=.str rule) (fs:=[("many",.int many),("kind",.str kind),("sentence",v)]) (fs':=[("many",.int many),("kind",.str kind),("sentence",v),("rule",.str rule)]) (by with_unfolding_all rfl) b5
 generalize upd H5 x _=H6 at *
 have rm6:=b6.at cj (B4 nrx)
 refine⟨_,rfl,rm,_,rfl,.inl (SqL.of rm6),fun sp cY=>?_⟩
 have s7:=Af cY (.lst (room.map V.int))
 have b7:But [x] H (upd H6 sp (.lst (room.map V.int))):=b6.trans (AU s7)
 have x7:=s7 _ _ x6
 have sp7:AM (upd H6 sp (.lst (room.map V.int))) sp room:=upd_same
 have nsx:sp≠x:=(An x6 cY).symm
 have sp0:H sp=none:=by
  cases e:H sp with
  | none=>rfl
  | some o=>rw[b6.at e (B4 nsx)] at cY;cases cY
 generalize upd H6 sp _=H7 at *
 refine⟨_,rfl,x,cK,dx,_,rfl,x7,TX.cl,TX.space,(by show 4<1000;decide),?_⟩
 obtain⟨b8,x8,c8⟩:=BI (C:=cK) (dx:=dx) (f:="space") (v:=.ref sp) (fs:=[("many",.int many),("kind",.str kind),("sentence",v),("rule",.str rule)]) (fs':=[("many",.int many),("kind",.str kind),("sentence",v),("rule",.str rule),("space",.ref sp)]) (by with_unfolding_all rfl) b7
 generalize upd H7 x _=H8 at *
 have sp8:=c8.at sp7 (B4 nsx)
 have rm8:=b8.at cj (B4 nrx)
 refine⟨_,rfl,_,rfl,_,rfl,rm,kind,v,t,room,rfl,haH.keep (kt b8),hok,by omega,SqL.of rm8,hwr,fun hk H9 s9=>qB aG (fun z=>hk z.2) _ (b8.trans (AU s9)),fun hk jr H9 s9=>qN aG aM hk jr _ (b8.trans (AU s9)),fun hk jr pt pxs H9 s9 pt0 pt9 hR9 hne9=>?_⟩
 have b9:But [x] H H9:=b8.trans (AU s9)
 have x9:=s9 _ _ x8
 have npx:pt≠x:=(An x8 pt0).symm
 refine⟨_,rfl,x,cK,dx,_,rfl,x9,TX.cl,TX.parts,(by show 5<1000;decide),?_⟩
 obtain⟨b10,x10,iy⟩:=BI (C:=cK) (dx:=dx) (f:="parts") (v:=.ref pt) (fs:=[("many",.int many),("kind",.str kind),("sentence",v),("rule",.str rule),("space",.ref sp)]) (fs':=[("many",.int many),("kind",.str kind),("sentence",v),("rule",.str rule),("space",.ref sp),("parts",.ref pt)]) (by with_unfolding_all rfl) b9
 have e10:BA [x] (upd H9 x (.ins cK dx (Ct "parts" (.ref pt) [("many",.int many),("kind",.str kind),("sentence",v),("rule",.str rule),("space",.ref sp)])))=BA [x] H9:=Ho (by simp)
 generalize upd H9 x _=gB at *
 have pt10:=iy.at pt9 (B4 npx)
 have sp10:=iy.at (s9 _ _ sp8) (B4 nsx)
 have R10:RowsAt gB pxs (AE kind t room):=HV iy (DP x8 hR9)
 refine⟨J1,fun gv hgv=>?_⟩
 have ez:=Af hgv (.lst [])
 have b11:But [x] H (upd gB gv (.lst [])):=b10.trans (AU ez)
 have gv11:upd gB gv (.lst []) gv=some (.lst []):=upd_same
 have x11:=ez _ _ x10
 have ngx:gv≠x:=(An x10 hgv).symm
 generalize upd gB gv _=H11 at *
 refine⟨_,rfl,x,cK,dx,_,rfl,x11,TX.cl,TX.given,(by show 6<1000;decide),?_⟩
 obtain⟨b12,x12,c12⟩:=BI (C:=cK) (dx:=dx) (f:="given") (v:=.ref gv) (fs:=[("many",.int many),("kind",.str kind),("sentence",v),("rule",.str rule),("space",.ref sp),("parts",.ref pt)]) (fs':=[("many",.int many),("kind",.str kind),("sentence",v),("rule",.str rule),("space",.ref sp),("parts",.ref pt),("given",.ref gv)]) (by with_unfolding_all rfl) b11
 generalize upd H11 x _=H12 at *
 have gv12:=c12.at gv11 (B4 ngx)
 have pt12:=c12.at (ez _ _ pt10) (B4 npx)
 have sp12:=c12.at (ez _ _ sp10) (B4 nsx)
 have R12:RowsAt H12 pxs (AE kind t room):=HV c12 (Fp ez (Gv iy (DP x8 hR9)))
 have aC:ES (AE kind t room)<64:=by
  have:=L7 (z:=kind) (t:=t) (row:=room)
  have:=hwr.len
  omega
 refine⟨_,rfl,x,cK,dx,_,_,rfl,x12,TX.cl,TX.parts,(by with_unfolding_all rfl),pt,pxs,_,rfl,SqL.of pt12,R12,aC,fun bl H13 ns g0 iW hp hm jx=>⟨Jq,fun lf gT=>?_⟩⟩
 have en:=PQ hwr (fun s hs=>Fy hs) hp hm
 subst en
 have fg:=g0.trans (Af gT (.lst [.ref bl]))
 have bl14:=Af gT (.lst [.ref bl]) _ _ jx
 have lf14:upd H13 lf (.lst [.ref bl]) lf=some (.lst [.ref bl]):=upd_same
 have eI:H12 lf=none:=g0.free gT
 generalize upd H13 lf _=H14 at *
 have x14:=fg _ _ x12
 have b14:But [x] H H14:=b12.trans (AU fg)
 have nlx:lf≠x:=(An x12 eI).symm
 have nbx:bl≠x:=(An x12 iW).symm
 refine⟨_,rfl,x,cK,dx,_,rfl,x14,TX.cl,TX.left,(by show 7<1000;decide),?_⟩
 obtain⟨b15,x15,c15⟩:=BI (C:=cK) (dx:=dx) (f:="left") (v:=.ref lf) (fs:=[("many",.int many),("kind",.str kind),("sentence",v),("rule",.str rule),("space",.ref sp),("parts",.ref pt),("given",.ref gv)]) (fs':=[("many",.int many),("kind",.str kind),("sentence",v),("rule",.str rule),("space",.ref sp),("parts",.ref pt),("given",.ref gv),("left",.ref lf)]) (by with_unfolding_all rfl) b14
 generalize upd H14 x _=H15 at *
 refine⟨_,rfl,x,cK,dx,_,rfl,x15,TX.cl,TX.ended,(by show 8<1000;decide),?_⟩
 obtain⟨b16,x16,c16⟩:=BI (C:=cK) (dx:=dx) (f:="ended") (v:=.bl false) (fs:=[("many",.int many),("kind",.str kind),("sentence",v),("rule",.str rule),("space",.ref sp),("parts",.ref pt),("given",.ref gv),("left",.ref lf)]) (fs':=[("many",.int many),("kind",.str kind),("sentence",v),("rule",.str rule),("space",.ref sp),("parts",.ref pt),("given",.ref gv),("left",.ref lf),("ended",.bl false)]) (by with_unfolding_all rfl) b15
 generalize upd H15 x _=H16 at *
 have jy:But [x] H14 H16:=c15.trans c16
 have gv16:=jy.at (fg _ _ gv12) (B4 ngx)
 have lf16:=jy.at lf14 (B4 nlx)
 have bl16:=jy.at bl14 (B4 nbx)
 have pt16:=jy.at (fg _ _ pt12) (B4 npx)
 have sp16:=jy.at (fg _ _ sp12) (B4 nsx)
 have ngl:gv≠lf:=An gv12 eI
 have gv0:H gv=none:=by
  cases e:H gv with
  | none=>rfl
  | some o=>rw[b10.at e (B4 ngx)] at hgv;cases hgv
 have lf0:H lf=none:=by
  cases e:H lf with
  | none=>rfl
  | some o=>rw[b12.at e (B4 nlx)] at eI;cases eI
 have pt0':H pt=none:=by
  cases e:H pt with
  | none=>rfl
  | some o=>rw[b8.at e (B4 npx)] at pt0;cases pt0
 have bl0:H bl=none:=by
  cases e:H bl with
  | none=>rfl
  | some o=>rw[b12.at e (B4 nbx)] at iW;cases iW
 have nM:∀{b:Addr},H b=none->b∉M:=fun e z=>hM _ z e
 have n3:∀{b:Addr},b≠x->b≠gv->b≠lf->H b=none->b∉x::gv::lf::M:=fun e1 e2 e3 e4 z=>by
  rcases List.mem_cons.mp z with q1 | q1
  ·exact e1 q1
  ·rcases List.mem_cons.mp q1 with q2 | q2
   ·exact e2 q2
   ·rcases List.mem_cons.mp q2 with q3 | q3
    ·exact e3 q3
    ·exact nM e4 q3
 have nsg:sp≠gv:=An sp10 hgv
 have nsl:sp≠lf:=An sp12 eI
 have npg:pt≠gv:=An pt10 hgv
 have npl:pt≠lf:=An pt12 eI
 have nbg:bl≠gv:=(An gv12 iW).symm
 have nbl:bl≠lf:=An jx gT
 have hR16:RowsAt (BA (x::gv::lf::M) H16) pxs (AE kind t room):=KL (fun p row h1 h2=>by
  have jz:p≠x:=(An x8 h1).symm
  have p10:=iy.at h2 (B4 jz)
  have p0:H p=none:=by
   cases e:H p with
   | none=>rfl
   | some o=>rw[b8.at e (B4 jz)] at h1;cases h1
  have p12:=c12.at (ez _ _ p10) (B4 jz)
  exact Bw (jy.at (fg _ _ p12) (B4 jz)) (n3 jz (An p10 hgv) (An p12 eI) p0)) hR9
 refine q aG aM hk jr ⟨dx,sp,pt,gv,lf,v,pxs,[],[.ref bl]⟩ H16 b16 gv0 lf0 sp0 rfl ⟨x16,gv16,lf16,by simp,by simp,by simp,ngl,Bw sp16 (n3 nsx nsg nsl sp0),?_,Bw pt16 (n3 npx npg npl pt0'),hR16,.nil,.cons ⟨bl,rfl,Bw bl16 (n3 nbx nbg nbl bl0)⟩ .nil,hwr,fun l hl=>?_,zC4 _ _,by show 1<=900;decide,by show 0<=900;decide,aG,bI,aw,hk,jr,aM⟩
 ·refine ha.keep fun p xs e=>?_
  obtain⟨e1,e2⟩:=Co e
  have jz:p≠x:=DU e1 hx (by intro z;cases z)
  refine Bw (b16.at e1 (B4 jz)) fun z=>?_
  rcases List.mem_cons.mp z with q1 | q1
  ·exact jz q1
  ·rcases List.mem_cons.mp q1 with q2 | q2
   ·rw[q2,gv0] at e1;cases e1
   ·rcases List.mem_cons.mp q2 with q3 | q3
    ·rw[q3,lf0] at e1;cases e1
    ·exact e2 q3
 ·rw[List.mem_singleton.mp hl]
  exact base_sub
end
theorem Rm(h:Gm z t row):BU z:=by
 rcases h with⟨rfl,_⟩|⟨rfl,_⟩|⟨rfl,_⟩
 ·exact .inl rfl
 ·exact .inr (.inl rfl)
 ·exact .inr (.inr rfl)
theorem Mr(h:Gm z t row):[]∉AE z t row:=fun e=>Ph h e rfl
theorem Nt(hx:H x=none)(hd:H dx=none)(ne:dx≠x)(b:But [x] (upd (upd H dx (.own x)) x (.ins C dx [])) H'):Same H H':=by
 refine But.same (M:=[x]) (fun m hm=>by rw[List.mem_singleton.mp hm];exact hx) ?_ b
 have s1:=Af hd (.own x)
 exact s1.trans (Af (by rw[Ax ne.symm];exact hx) _)
theorem Ja{H:Hp}{x dx C b:Addr}{o:HO}(h:upd (upd H dx (.own x)) x o b=none):H b=none/\b≠x/\b≠dx:=by
 by_cases e:b=x
 ·rw[e,upd_same] at h;cases h
 ·rw[Ax e] at h
  by_cases e2:b=dx
  ·rw[e2,upd_same] at h;cases h
  ·rw[Ax e2] at h
   exact⟨h,e,e2⟩
theorem HR:Ds (Gd P w) X E0:=fun _ _ _ _ _ _ _ h=>by
 obtain⟨_,_,_,_,_,_,_,_,_,_,_,_,_,_,_,q⟩:=h
 exact q.elim
section
variable {X:Cx}
theorem Tf:D3 X (compareOp .Is) (fun x y H Q=>∃a b,x= .bl a/\y= .bl b/\Q (.bl (decide (a=b))) H):=by
 intro pins s σ H x y v u Q I rx ry h
 obtain⟨a,b,rfl,rfl,q⟩:=h
 cases rx
 cases ry
 have e:compareOp .Is (.bool a) (.bool b)=pure (.bool (decide (a=b))):=by cases a<;>cases b<;>rfl
 exact PySem.wpAny_of_eq e (A3 I q rfl)
end
def LL(W:Ta)(seen:List Int)(t:Tr):Str:=if W.ended=true then Bs seen (AA true t W.room) else Ea W.sides W.going seen (AA true t W.room)
theorem TalkAt.two(h:TalkAt M C H a U W):W.sides.length<=2:=by
 unfold Ta.sides
 rcases Di (z:=W.kind) (t:=W.t) (row:=W.room) with⟨x,e⟩|⟨x,y,e⟩<;>rw[e]<;>simp
theorem Ei(h:Wr room):Wr (AA b t room):=h.sub zAO
abbrev IM:Stmt:=BX (Bu 34) 9
def Qr(K:PySem.W.Frag)(C cS:Addr):Sp:=fun vs H Q E=>∃(a sn:Addr)(v:V)(M:List Addr)(U:Tk)(W:Ta)(t:Tr)(seen:List Int),vs=[.ref a,v,.ref sn]/\TalkAt M C H a U W/\t.At H v/\t.ok 5/\t.size<=60/\SqL K H sn (seen.map V.int)/\Wr seen/\seen≠[]/\
 (¬t.ok W.many->∀H',Same H H'->E (.ref cS) none H')/\(t.ok W.many->∀H',Same H H'->Q (.str (LL W seen t)) H')
section
variable {cK cS cO cT:Addr}
theorem scTAsk:Ao ["self","sentence","seen","worlds"] ["self","sentence","seen"] (Ad IM):=Bt
theorem Q5(F:Fun K "ask" "Talk.ask" IM f fd)(TX:J0 K cK)(GR:FnOk P w K mg bz (Gd P w) 3 g1 d1 ["sentence","many"] (DR cS))(CR:AL K mg "refuse_strange" g1 d1 ["sentence","many"])(GW:FnOk P w K mg bz AH 3 g2 d2 ["sentence","room"] (BB K))(CW:AL K mg "worlds_of" g2 d2 ["sentence","room"])(GP:FnOk P w K mg bz AH 3 g3 d3 ["seen","worlds"] (Fn K))(CP:AL K mg "plain" g3 d3 ["seen","worlds"])(GA:FnOk P w K mg bz AH 5 g4 d4 ["sides","going","seen","worlds"] (Jb K))(CA:AL K mg "answer" g4 d4 ["sides","going","seen","worlds"])(G1:FnOk P w K mg bz AH 2 m1 e1 ["self"] (DZ cK))(C1:BY K cK "going" m1 e1 ["self"]):FnOk P w K mg bz (Gd P w) 6 f fd ["self","sentence","seen"] (Qr K cK cS):=by
 refine Fun.okX F scTAsk (fun vs H Q E h=>?_) (fun ai A outer s H vs Q E hr h=>?_)
 ·obtain⟨a,sn,v,M,U,W,t,seen,rfl,_⟩:=h
  rfl
 obtain⟨a,sn,v,M,U,W,t,seen,rfl,hT,ha,bL,aw,hN,wN,ci,qE,q⟩:=h
 have ba:Room 3 _:=hr.mono (by decide)
 have aE:Room 2 _:=hr.mono (by decide)
 refine⟨_,Ac (AW (Ah GR ba (by rfl) CR.m CR.k CR.b .nil (BN (E1:=E) fun _ _ _ h=>h) (Aa (pv 1) (Aa (Bp (pv 0) rfl) Ab))))
  (Ac (Ar (i:=3) scTAsk.nd rfl (Or.inl rfl) (Ah GW ba (by rfl) CW.m CW.k CW.b .nil Ak (Aa (pv 1) (Aa (Bp (pv 0) rfl) Ab))))
  (Ac (AB (D4 (Bp (pv 0) rfl) (fun _=>rfl))
   (Ae (Ai (Ah GP ba (by rfl) CP.m CP.k CP.b .nil Ak (Aa (pv 2) (Aa (pv 3) Ab)))))
   Ap)
  (Ae (Ai (Ah GA hr (by rfl) CA.m CA.k CA.b .nil Ak (Aa (Bp (pv 0) rfl) (Aa (A0 (pv 0) TX.cl C1.m G1 aE C1.b .nil Ak) (Aa (pv 2) (Aa (pv 3) Ab))))))))),?_⟩
 refine⟨_,rfl,_,rfl,a,cK,_,_,_,rfl,hT.ob,TX.cl,TX.many,JS,v,t,W.many,rfl,ha,bL,aw,qE,fun aG H1 s1=>?_⟩
 have q:=q aG
 have T1:=hT.keep s1
 refine⟨_,rfl,_,rfl,a,cK,_,_,_,rfl,T1.ob,TX.cl,TX.space,Id,v,t,U.sp,W.room,rfl,ha.keep (TS.same s1),bL,by omega,SqL.of (cut_same _ _ T1.room),hT.wr,fun wl H2 s2 iS cx=>?_⟩
 have T2:=T1.keep s2
 have t2:=s1.trans s2
 have cx:AM H2 wl (AA true t W.room):=cx
 have wwl:Wr (AA true t W.room):=Ei hT.wr
 refine⟨_,rfl,a,cK,_,_,_,rfl,T2.ob,TX.cl,TX.ended,KT,_,rfl,?_⟩
 unfold LL at q
 cases he:W.ended with
 | true=>
  refine Bh ?_
  rw[he,if_pos rfl] at q
  exact⟨_,rfl,_,rfl,sn,wl,seen,_,rfl,t2.seq hN,wN,ci,SqL.of cx,wwl,fun H3 s3=>q _ (t2.trans s3)⟩
 | false=>
  refine A7 ?_
  rw[he,if_neg zAC] at q
  refine⟨_,rfl,a,cK,_,_,_,rfl,T2.ob,TX.cl,TX.parts,Kz,_,rfl,a,_,_,rfl,T2.ob,B5,a,M,U,W,rfl,T2,fun gl H3 s3 hgl0 fh=>?_⟩
  have T3:=T2.keep s3
  have t3:=t2.trans s3
  exact⟨_,rfl,_,rfl,U.pt,gl,sn,wl,U.pxs,W.sides,W.going,seen,_,rfl,cut_same _ _ T3.pt,T3.sd.keep cut_same,T3.ws,T3.two,SqL.of fh,T3.going_wr,t3.seq hN,wN,ci,SqL.of (s3 _ _ cx),wwl,fun H4 s4=>q _ (t3.trans s4)⟩
end
abbrev Cu:Stmt:=Bu 35
def D9(C cO:Addr):Sp:=fun vs H Q E=>∃(a:Addr)(M:List Addr)(U:Tk)(W:Ta),vs=[.ref a]/\TalkAt M C H a U W/\(W.ended=true->E (.ref cO) none H)/\(W.ended=false->Q .non H)
section
variable {cK cS cO cT:Addr}
theorem N9:Ao ["talk"] ["talk"] (Ad Cu):=Bt
theorem Lr(F:Fun K "refuse_over" "refuse_over" Cu f fd)(TX:J0 K cK)(XO:Jj K mg "TalkOver" cO cT)(G1:FnOk P w K mg bz AH 1 m1 e1 ["self"] (Me cK))(C1:BY K cK "over" m1 e1 ["self"]):FnOk P w K mg bz (Gd P w) 2 f fd ["talk"] (D9 cK cO):=by
 refine Fun.okX F N9 (fun vs H Q E h=>?_) (fun ai A outer s H vs Q E hr h=>?_)
 ·obtain⟨a,M,U,W,rfl,_⟩:=h
  rfl
 obtain⟨a,M,U,W,rfl,hT,qE,q⟩:=h
 refine⟨_,Ae (AB (Bg (A0 (pv 0) TX.cl C1.m G1 hr C1.b .nil Ak))
   (Ae (C0 (Ex:=E) D6 rfl XO.cls XO.at_ XO.ty (by rfl) XO.m (Aa Av Ab) (hvl:=fun _ _ _ h=>⟨by decide,h⟩)))
   Ap),?_⟩
 refine⟨_,rfl,a,_,_,rfl,hT.ob,QX,a,M,U,W,rfl,hT,_,rfl,?_⟩
 cases he:W.ended with
 | true=>exact Bh (qE he)
 | false=>exact A7 (q he)
end
def Pw(W:Ta)(v:V)(t:Tr)(bT:Str):Ta:={ W with ents:=W.ents++[(v,t,bT)],lefts:=W.lefts++[BZ bT W.held (AA true t W.room)] }
theorem EntsAt.snoc{H:Hp}{v:V}{e:V×Tr×Str}(h:∃p,v= .ref p/\H p=some (.tup [e.1,.str e.2.2])/\e.2.1.At H e.1):∀{xs:List V}{es:List (V×Tr×Str)},EntsAt H xs es->EntsAt H (xs++[v]) (es++[e])
 | _,_,.nil=>.cons h .nil
 | _,_,.cons x q=>.cons x (EntsAt.snoc h q)
theorem EntsAt.len(h:EntsAt H xs es):xs.length=es.length:=zB4 h
theorem Gr{H:Hp}{v:V}{row:List Int}(h:∃p,v= .ref p/\AM H p row):∀{xs:List V}{rs:List (List Int)},RowsAt H xs rs->RowsAt H (xs++[v]) (rs++[row])
 | _,_,.nil=>.cons h .nil
 | _,_,.cons x q=>.cons x (Gr h q)
theorem Qu(z:Str)(g r:List Int):(BZ z g r).Sublist g:=by
 unfold BZ Fk BL
 split
 ·exact zAO
 ·split
  ·exact zAO
  ·exact zBA _
section
variable {M:List Addr}{C:Addr}{H H':Hp}{a:Addr}{U:Tk}{W:Ta}
theorem TalkAt.a_gv(h:TalkAt M C H a U W):a≠U.gv:=DU h.ob h.gv (by intro z;cases z)
theorem TalkAt.a_lf(h:TalkAt M C H a U W):a≠U.lf:=DU h.ob h.lf (by intro z;cases z)
theorem TalkAt.gave(h:TalkAt M C H a U W)(hp:BA M H p=some (.tup [v,.str bT]))(ha:t.At (BA M H) v)(hl:W.ents.length<900):
  TalkAt M C (upd H U.gv (.lst (U.ges++[.ref p]))) a { U with ges:=U.ges++[.ref p] } { W with ents:=W.ents++[(v,t,bT)] }:=by
 have e:=Ho (H:=H) (o:=.lst (U.ges++[.ref p])) h.mg
 refine⟨by rw[Ax h.a_gv];exact h.ob,upd_same,by rw[Ax h.ne.symm];exact h.lf,h.ma,h.mg,h.ml,h.ne,?_,?_,?_,?_,?_,?_,h.wr,h.wl,h.ln,h.l9,?_,h.tok,h.m5,h.tsz,h.kd,h.ns,h.rl⟩
 ·show AM (BA M (upd H U.gv _)) _ _;rw[e];exact h.room
 ·show Tr.At (BA M (upd H U.gv _)) _ _;rw[e];exact h.tr
 ·show BA M (upd H U.gv _) _=_;rw[e];exact h.pt
 ·show RowsAt (BA M (upd H U.gv _)) _ _;rw[e];exact h.sd
 ·show EntsAt (BA M (upd H U.gv _)) _ _;rw[e];exact h.en.snoc ⟨p,rfl,hp,ha⟩
 ·show RowsAt (BA M (upd H U.gv _)) _ _;rw[e];exact h.lr
 ·show (W.ents++[(v,t,bT)]).length<=900;rw[zA];exact hl
theorem TalkAt.gone(h:TalkAt M C H a U W)(hp:AM (BA M H) l row)(hs:row.Sublist W.room)(hl:W.lefts.length<900):
  TalkAt M C (upd H U.lf (.lst (U.lfs++[.ref l]))) a { U with lfs:=U.lfs++[.ref l] } { W with lefts:=W.lefts++[row] }:=by
 have e:=Ho (H:=H) (o:=.lst (U.lfs++[.ref l])) h.ml
 refine⟨by rw[Ax h.a_lf];exact h.ob,by rw[Ax h.ne];exact h.gv,upd_same,h.ma,h.mg,h.ml,h.ne,?_,?_,?_,?_,?_,?_,h.wr,?_,?_,?_,h.e9,h.tok,h.m5,h.tsz,h.kd,h.ns,h.rl⟩
 ·show AM (BA M (upd H U.lf _)) _ _;rw[e];exact h.room
 ·show Tr.At (BA M (upd H U.lf _)) _ _;rw[e];exact h.tr
 ·show BA M (upd H U.lf _) _=_;rw[e];exact h.pt
 ·show RowsAt (BA M (upd H U.lf _)) _ _;rw[e];exact h.sd
 ·show EntsAt (BA M (upd H U.lf _)) _ _;rw[e];exact h.en
 ·show RowsAt (BA M (upd H U.lf _)) _ _;rw[e];exact Gr ⟨l,rfl,hp⟩ h.lr
 ·intro x hx
  rcases List.mem_append.mp hx with z | z
  ·exact h.wl x z
  ·rw[List.mem_singleton.mp z];exact hs
 ·show W.lefts++[row]≠[];simp
 ·show (W.lefts++[row]).length<=900;rw[zA];exact hl
end
abbrev IC:Stmt:=BX (Bu 34) 10
def Qy(K:PySem.W.Frag)(C cS cO:Addr):Sp:=fun vs H Q E=>∃(a sn:Addr)(v:V)(M:List Addr)(U:Tk)(W:Ta)(t:Tr)(seen:List Int),vs=[.ref a,v,.ref sn]/\TalkAt M C H a U W/\(∀m∈M,H m≠none)/\t.At (BA M H) v/\t.ok 5/\t.size<=60/\SqL K H sn (seen.map V.int)/\Wr seen/\seen≠[]/\W.ents.length<900/\W.lefts.length<900/\
 (W.ended=true->∀H',Same H H'->E (.ref cO) none H')/\(W.ended=false->¬t.ok W.many->∀H',Same H H'->E (.ref cS) none H')/\
 (W.ended=false->t.ok W.many->∀(U':Tk)(H':Hp),But [U.gv,U.lf] H H'->U'.gv=U.gv->U'.lf=U.lf->(∀b,H b≠none->H' b≠none)->TalkAt M C H' a U' (Pw W v t (LL W seen t))->Q (.str (LL W seen t)) H')
section
variable {cK cS cO cT:Addr}
theorem scTSay:Ao ["self","sentence","seen","word"] ["self","sentence","seen"] (Ad IC):=Bt
theorem Ry(F:Fun K "say" "Talk.say" IC f fd)(TX:J0 K cK)(GO:FnOk P w K mg bz (Gd P w) 2 g1 d1 ["talk"] (D9 cK cO))(CO:AL K mg "refuse_over" g1 d1 ["talk"])(G1:FnOk P w K mg bz (Gd P w) 6 m1 e1 ["self","sentence","seen"] (Qr K cK cS))(C1:BY K cK "ask" m1 e1 ["self","sentence","seen"])(GL:FnOk P w K mg bz AH 2 g2 d2 ["word","row","worlds"] (JH K))(CL:AL K mg "left_by" g2 d2 ["word","row","worlds"])(GW:FnOk P w K mg bz AH 3 g3 d3 ["sentence","room"] (BB K))(CW:AL K mg "worlds_of" g3 d3 ["sentence","room"]):FnOk P w K mg bz (Gd P w) 7 f fd ["self","sentence","seen"] (Qy K cK cS cO):=by
 refine Fun.okX F scTSay (fun vs H Q E h=>?_) (fun ai A outer s H vs Q E hr h=>?_)
 ·obtain⟨a,sn,v,M,U,W,t,seen,rfl,_⟩:=h
  rfl
 obtain⟨a,sn,v,M,U,W,t,seen,rfl,hT,hM,ha,bL,aw,hN,wN,ci,le,ll,qO,qS,q⟩:=h
 have ba:Room 3 _:=hr.mono (by decide)
 have aE:Room 2 _:=hr.mono (by decide)
 refine⟨_,Ac (AW (Ah GO aE (by rfl) CO.m CO.k CO.b .nil (BN (E1:=E) fun _ _ _ h=>h) (Aa (pv 0) Ab)))
  (Ac (Ar (i:=3) scTSay.nd rfl (Or.inl rfl) (Ms (pv 0) TX.cl C1.m G1 hr C1.b .nil (BN (E1:=E) fun _ _ _ h=>h) (Aa (pv 1) (Aa (pv 2) Ab))))
  (Ac (AW (B1 zAD zAK zAL A4 (Bp (pv 0) rfl) (Aa (Bc (Aa (pv 1) (Aa (pv 3) Ab))) Ab)))
  (Ac (AW (B1 zAD zAK zAL A4 (Bp (pv 0) rfl) (Aa (Ah GL aE (by rfl) CL.m CL.k CL.b .nil Ak (Aa (pv 3) (Aa (AD AK (Bp (pv 0) rfl) (Kq HQ Ag) (fun _ _=>rfl)) (Aa (Ah GW ba (by rfl) CW.m CW.k CW.b .nil Ak (Aa (pv 1) (Aa (Bp (pv 0) rfl) Ab))) Ab)))) Ab)))
  (Ae (Ai (pv 3)))))),?_⟩
 refine⟨_,rfl,a,M,U,W,rfl,hT,fun he=>qO he _ (Same.refl _),fun he=>?_⟩
 have haH:=ha.keep (TS.same cut_same)
 refine⟨_,rfl,a,_,_,rfl,hT.ob,SM,_,rfl,_,rfl,a,sn,v,M,U,W,t,seen,rfl,hT,haH,bL,aw,hN,wN,ci,fun hn H' s'=>qS he hn H' s',fun aG H2 s2=>?_⟩
 have q:=q he aG
 generalize LL W seen t=bT at *
 have T2:=hT.keep s2
 refine⟨_,rfl,a,cK,_,_,_,rfl,T2.ob,TX.cl,TX.given,Kd,.inl ⟨rfl,_,SqL.of T2.gv⟩,_,rfl,_,rfl,Ig,fun p hp=>?_⟩
 have s3:=Af hp (.tup [v,.str bT])
 have p3:upd H2 p (.tup [v,.str bT]) p=some (.tup [v,.str bT]):=upd_same
 have T3:=T2.keep s3
 have p0:H p=none:=s2.free hp
 have pM:p∉M:=fun z=>hM p z p0
 have t3:=s2.trans s3
 generalize upd H2 p _=H3 at *
 have fh:U.ges.length=W.ents.length:=T3.en.len
 refine⟨U.gv,U.ges,.ref p,rfl,rfl,T3.gv,AG (by omega),?_⟩
 have T4:=T3.gave (Bw p3 pM) (ha.keep (TS.same (AU t3))) le
 have b4:But [U.gv,U.lf] H (upd H3 U.gv (.lst (U.ges++[.ref p]))):=Same.trans (AU t3) (But.upd (by simp))
 have k4:∀b,H3 b≠none->upd H3 U.gv (.lst (U.ges++[.ref p])) b≠none:=fun b hb=>by
  by_cases c:b=U.gv
  ·rw[c,upd_same];exact fun z=>by cases z
  ·rw[Ax c];exact hb
 have ts4:TS H3 (upd H3 U.gv (.lst (U.ges++[.ref p]))):=TS.lst T3.gv
 generalize upd H3 U.gv _=H4 at *
 have lf4:H4 U.lf=some (.lst U.lfs):=T4.lf
 obtain⟨hl,aJ,aC⟩:=Ff T4.lr T4.ln
 refine⟨_,rfl,a,cK,_,_,_,rfl,T4.ob,TX.cl,TX.left,Hs,.inl ⟨rfl,_,SqL.of lf4⟩,?_⟩
 refine⟨_,rfl,_,rfl,a,cK,_,_,_,rfl,T4.ob,TX.cl,TX.left,Hs,_,rfl,_,_,_,_,rfl,rfl,SqL.of lf4,aJ,?_⟩
 refine⟨_,rfl,_,rfl,a,cK,_,_,_,rfl,T4.ob,TX.cl,TX.space,Id,v,t,U.sp,W.room,rfl,(haH.keep (TS.same t3)).keep ts4,bL,by omega,SqL.of (cut_same _ _ T4.room),hT.wr,fun wl H5 s5 iS cx=>?_⟩
 have T5:=T4.keep s5
 have cx:AM H5 wl (AA true t W.room):=cx
 have wwl:Wr (AA true t W.room):=Ei hT.wr
 have lwl:=wwl.len
 refine⟨bT,hl,wl,W.held,_,rfl,SqL.of (s5 _ _ (cut_same _ _ aC)),hT.held_wr,SqL.of cx,by omega,fun l H6 s6 aU hl6=>?_⟩
 have T6:=T5.keep s6
 have hll:U.lfs.length=W.lefts.length:=T6.lr.len
 refine⟨U.lf,U.lfs,.ref l,rfl,rfl,T6.lf,AG (by omega),?_⟩
 have l4:H4 l=none:=s5.free aU
 have lM:l∉M:=fun z=>by
  have h3:H3 l≠none:=fun z3=>hM l z (t3.free z3)
  exact k4 l h3 l4
 have T7:=T6.gone (Bw hl6 lM) ((Qu _ _ _).trans (hT.wl _ hT.held_in)) ll
 have b7:But [U.gv,U.lf] H (upd H6 U.lf (.lst (U.lfs++[.ref l]))):=Same.trans b4 (Same.trans (AU (s5.trans s6)) (But.upd (by simp)))
 have k7:∀b,H b≠none->upd H6 U.lf (.lst (U.lfs++[.ref l])) b≠none:=fun b hb=>by
  by_cases c:b=U.lf
  ·rw[c,upd_same];exact fun z=>by cases z
  ·rw[Ax c]
   have h3:H3 b≠none:=fun z3=>hb (t3.free z3)
   exact fun z6=>k4 b h3 ((s5.trans s6).free z6)
 refine⟨_,rfl,?_⟩
 exact q { U with ges:=U.ges++[.ref p],lfs:=U.lfs++[.ref l] } _ b7 rfl rfl k7 T7
end
abbrev Ez:Stmt:=Bu 56
def Mh(K:PySem.W.Frag):Sp:=fun vs H Q _=>∃(a:Addr)(ns:List Int)(many:Nat),vs=[.ref a,.int many]/\SqL K H a (ns.map V.int)/\ns.length<=63/\1<=many/\many<=5/\∀(tp rm:Addr)(room:List Int)(z:Str)(v:V)(t:Tr)(H':Hp),Same H H'->H' tp=some (.tup [.ref rm,.str z,v])->H rm=none->AM H' rm room->room.Sublist (BC (2^many))->room≠[]->t.At H' v->t.ok many->t.size<=20->Gm z t room->Q (.ref tp) H'
section
theorem scLstart:Ao ["_law_script","_law_many","_law_room_here","_law_sentence_here"] ["_law_script","_law_many"] (Ad Ez):=Bt
theorem NZ(F:Fun K "_law_start" "_law_start" Ez f fd)(GN:FnOk P w K mg bz AH 1 fN dN ["_law_script","_law_k"] (MZ K))(CN:AL K mg "_law_num" fN dN ["_law_script","_law_k"])(GS:FnOk P w K mg bz AH 1 fS dS ["_law_n","_law_most","_law_many"] JJ)(CS:AL K mg "_law_sentence" fS dS ["_law_n","_law_most","_law_many"])(GR:FnOk P w K mg bz AH 3 fR dR ["_law_n","_law_many"] PZ)(CR:AL K mg "_law_room" fR dR ["_law_n","_law_many"])(GK:FnOk P w K mg bz AH 62 fK dK ["_law_n","_law_room_here","_law_sentence_here"] (Qe K))(CK:AL K mg "_law_kind" fK dK ["_law_n","_law_room_here","_law_sentence_here"]):FnOk P w K mg bz AH 63 f fd ["_law_script","_law_many"] (Mh K):=by
 refine F.ok scLstart (fun vs H Q E h=>?_) (fun ai A outer s H vs Q E hr h=>?_)
 ·obtain⟨a,ns,many,rfl,_⟩:=h
  rfl
 obtain⟨a,ns,many,rfl,hS,bx,cu,bI,q⟩:=h
 have ak:Room 1 _:=hr.mono (by decide)
 have ba:Room 3 _:=hr.mono (by decide)
 refine⟨_,Ac (Ar (i:=2) scLstart.nd rfl (Or.inl rfl) (Ah GR ba (by rfl) CR.m CR.k CR.b .nil Ak (Aa (Ah GN ak (by rfl) CN.m CN.k CN.b .nil Ak (Aa (pv 0) (Aa Ag Ab))) (Aa (pv 1) Ab))))
  (Ac (Ar (i:=3) scLstart.nd rfl (Or.inl rfl) (Ah GS ak (by rfl) CS.m CS.k CS.b .nil Ak (Aa (Ah GN ak (by rfl) CN.m CN.k CN.b .nil Ak (Aa (pv 0) (Aa Ag Ab))) (Aa Ag (Aa (pv 1) Ab)))))
  (Ae (Ai (Bc (Aa (pv 2) (Aa (Ah GK hr (by rfl) CK.m CK.k CK.b .nil Ak (Aa (Ah GN ak (by rfl) CN.m CN.k CN.b .nil Ak (Aa (pv 0) (Aa Ag Ab))) (Aa (pv 2) (Aa (pv 3) Ab)))) (Aa (pv 3) Ab))))))),?_⟩
 refine⟨_,rfl,a,ns,1,rfl,hS,bx,by decide,by decide,fun n1 H2 hn1 s2=>?_⟩
 refine⟨_,rfl,n1,many,rfl,cu,bI,fun rm room H3 s3 hrm0 cj ax av=>?_⟩
 have t3:=s2.trans s3
 have aV:Wr room:=(MV bI).sub ax
 have jA:=aV.len
 refine⟨_,rfl,a,ns,2,rfl,t3.seq hS,bx,by decide,by decide,fun n2 H4 gs s4=>?_⟩
 refine⟨_,rfl,n2,8,many,rfl,gs,by decide,by decide,cu,bI,fun v t H5 s5 ha hok dr=>?_⟩
 have aw:t.size<=60:=by omega
 have bL:t.ok 5:=Tr.ok.mono bI hok
 have t5:=t3.trans (s4.trans s5)
 have g9:=s5 _ _ (s4 _ _ cj)
 refine⟨_,rfl,_,rfl,a,ns,3,rfl,t5.seq hS,bx,by decide,by decide,fun n3 H6 gY s6=>?_⟩
 have t6:=t5.trans s6
 have hrm6:=s6 _ _ g9
 have ha6:=ha.keep (TS.same s6)
 refine⟨_,rfl,_,rfl,n3,rm,room,v,t,rfl,ha6,bL,aw,SqL.of hrm6,by omega,av,fun z H7 s7 hz=>?_⟩
 refine⟨_,rfl,K9,fun tp htp=>?_⟩
 have s8:=s7.trans (Af htp (.tup [.ref rm,.str z,v]))
 exact q tp rm room z v t _ (t6.trans s8) upd_same (s2.free hrm0) (s8 _ _ hrm6) ax av (ha6.keep (TS.same s8)) hok (by omega) hz
end
def Bm(seen:List Int)(t:Tr):Str:=if (seen.all fun k=>tv t k)=true then "grant" else if (seen.any fun k=>tv t k)=true then "doubt" else "deny"
def Cj(z:Str)(g:List Int)(t:Tr):List Int:=if z="grant" then AA true t g else if z="deny" then AA false t g else g
theorem Do(hk:k∈room):decide (k∈AA true t room)=tv t k:=by
 unfold AA
 rw[zA6,decide_eq_true_eq,List.mem_filter]
 constructor
 ·rintro⟨_,h⟩
  exact eq_of_beq h
 ·intro h
  exact⟨hk,by rw[h];rfl⟩
theorem HL(h:g.Sublist room):Fk g (AA true t room)=AA true t g:=by
 unfold Fk
 refine (zCG fun k hk=>?_)
 rw[Do (h.subset hk)]
 cases tv t k<;>rfl
theorem DE(h:g.Sublist room):BL g (AA true t room)=AA false t g:=by
 unfold BL
 refine (zCG fun k hk=>?_)
 rw[Do (h.subset hk)]
 cases tv t k<;>rfl
theorem N0(h:g.Sublist room):Bs g (AA true t room)=Bm g t:=by
 have e1:(g.all fun k=>decide (k∈AA true t room))=g.all fun k=>tv t k:=by
  rw[zA6,zA0,zA0]
  exact⟨fun q k hk=>by rw[<-Do (h.subset hk)];exact q k hk,fun q k hk=>by rw[Do (h.subset hk)];exact q k hk⟩
 have e2:(g.any fun k=>decide (k∈AA true t room))=g.any fun k=>tv t k:=by
  rw[zA6,zBZ,zBZ]
  exact⟨fun⟨k,hk,q⟩=>⟨k,hk,by rw[<-Do (h.subset hk)];exact q⟩,fun⟨k,hk,q⟩=>⟨k,hk,by rw[Do (h.subset hk)];exact q⟩⟩
 unfold Bs Bm
 rw[e1,e2]
theorem RJ(seen:List Int)(t:Tr):Bm seen t="grant"\/Bm seen t="deny"\/Bm seen t="doubt":=by
 unfold Bm
 split
 ·exact .inl rfl
 ·split
  ·exact .inr (.inr rfl)
  ·exact .inr (.inl rfl)
theorem Mo(h:g.Sublist room):BZ z g (AA true t room)=Cj z g t:=by
 unfold BZ Cj
 rw[HL h,DE h]
theorem IS(z:Str)(g:List Int)(t:Tr):(Cj z g t).Sublist g:=by
 unfold Cj
 split
 ·exact zAO
 ·split
  ·exact zAO
  ·exact zBA _
abbrev Eo:Stmt:=Bu 70
def KB(K:PySem.W.Frag):Sp:=fun vs H Q _=>∃(s:Addr)(v:V)(t:Tr)(seen:List Int),vs=[.ref s,v]/\t.At H v/\t.ok 5/\t.size<=60/\SqL K H s (seen.map V.int)/\seen.length<=900/\∀(H':Hp),Same H H'->Q (.str (Bm seen t)) H'
section
theorem OF:Ao ["_law_seen_here","_law_sentence_here"] ["_law_seen_here","_law_sentence_here"] (Ad Eo):=Bt
theorem Ny(F:Fun K "_law_plain" "_law_plain" Eo f fd)(T:EV mg)(GT:FnOk P w K mg bz AH 60 g gd ["_law_sentence_here","_law_world"] (D7 60))(CT:AL K mg "_law_true" g gd ["_law_sentence_here","_law_world"]):FnOk P w K mg bz AH 61 f fd ["_law_seen_here","_law_sentence_here"] (KB K):=by
 refine F.ok OF (fun vs H Q E h=>?_) (fun ai A outer s H vs Q E hr h=>?_)
 ·obtain⟨s,v,t,seen,rfl,_⟩:=h
  rfl
 obtain⟨sn,v,t,seen,rfl,ha,hok,hs,hN,hl,q⟩:=h
 refine⟨_,Ac (AB (Bg (Az (Iq rfl) (by rfl) T.all boot_all (Aa (Bi (N:=["_law_world","_law_sentence_here"]) (js:=[none,some 1]) (cl:=[("_law_sentence_here",s.heap.objs.size+1)]) ⟨rfl,rfl,rfl,(by intro p hp;simp at hp;rcases hp with rfl<;>rfl),rfl,rfl,rfl⟩ (AS (pv 0)) (fun c1=>(AC (i:=0) (show (["_law_world","_law_sentence_here"]:List Str).Nodup by decide +kernel) rfl (Or.inl rfl))) (fun c1=>Bx) (fun c1=>(Ah GT hr (by rfl) CT.m CT.k CT.b .nil Ak (Aa (pv 1) (Aa (pv 0) Ab))))) Ab)))
   (Ae (Ai Av))
   Ap)
  (Ac (AB (Bg (Az (Dg rfl) (by rfl) T.any boot_any (Aa (Bi (N:=["_law_world","_law_sentence_here"]) (js:=[none,some 1]) (cl:=[("_law_sentence_here",s.heap.objs.size+1)]) ⟨rfl,rfl,rfl,(by intro p hp;simp at hp;rcases hp with rfl<;>rfl),rfl,rfl,rfl⟩ (AS (pv 0)) (fun c1=>(AC (i:=0) (show (["_law_world","_law_sentence_here"]:List Str).Nodup by decide +kernel) rfl (Or.inl rfl))) (fun c1=>Bx) (fun c1=>(Ah GT hr (by rfl) CT.m CT.k CT.b .nil Ak (Aa (pv 1) (Aa (pv 0) Ab))))) Ab)))
   (Ae (Ai Av))
   Ap)
  (Ae (Ai Av))),?_⟩
 refine⟨_,rfl,sn,rfl,⟨_,hN⟩,fun c1 acc ah=>BR (f:=fun k=>tv t k) (rest:=[some v]) hN ah hl (fun k hk H3 s3 R3 gW=>?_) (fun v0 H3 s3 h3=>?_) none⟩
 ·exact⟨_,rfl,_,rfl,v,t,k,rfl,ha.keep (TS.same s3),hok,hs,fun H4 s4=>gW H4 s4⟩
 refine⟨acc,_,rfl,SqL.of h3,_,rfl,?_⟩
 have e1:(seen.map fun k=>tv t k).all id=seen.all fun k=>tv t k:=by rw[zDQ];rfl
 have e2:(seen.map fun k=>tv t k).any id=seen.any fun k=>tv t k:=by rw[zCJ];rfl
 rw[e1]
 unfold Bm at q
 cases h0:seen.all fun k=>tv t k with
 | true=>
  refine Bh ?_
  rw[h0,if_pos rfl] at q
  exact q _ s3
 | false=>
  refine A7 ?_
  rw[h0,if_neg zAC] at q
  refine⟨_,rfl,sn,rfl,⟨_,s3.seq hN⟩,fun c1 ac2 fH=>BR (f:=fun k=>tv t k) (rest:=[some v]) (s3.seq hN) fH hl (fun k hk H4 s4 R3 gW=>?_) (fun v0 H4 s4 h4=>?_) none⟩
  ·exact⟨_,rfl,_,rfl,v,t,k,rfl,(ha.keep (TS.same s3)).keep (TS.same s4),hok,hs,fun H5 s5=>gW H5 s5⟩
  refine⟨ac2,_,rfl,SqL.of h4,_,rfl,?_⟩
  rw[e2]
  cases h1:seen.any fun k=>tv t k with
  | true=>
   refine Bh ?_
   rw[h1,if_pos rfl] at q
   exact q _ (s3.trans s4)
  | false=>
   refine A7 ?_
   rw[h1,if_neg zAC] at q
   exact q _ (s3.trans s4)
end
abbrev Ga:Stmt:=Bu 72
def M2(K:PySem.W.Frag):Sp:=fun vs H Q _=>∃(r:Addr)(z:Str)(v:V)(t:Tr)(row:List Int),vs=[.ref r,v,.str z]/\t.At H v/\t.ok 5/\t.size<=60/\SqL K H r (row.map V.int)/\row.length<=900/\∀(l:Addr)(H':Hp),Same H H'->H l=none->AM H' l (Cj z row t)->Q (.ref l) H'
section
theorem Rr:Ao ["_law_row","_law_sentence_here","_law_said"] ["_law_row","_law_sentence_here","_law_said"] (Ad Ga):=Bt
theorem Pi(F:Fun K "_law_left" "_law_left" Ga f fd)(T:EV mg)(GI:FnOk P w K mg bz AH 61 g gd ["_law_sentence_here","_law_row"] (Fm K true))(CI:AL K mg "_law_ins" g gd ["_law_sentence_here","_law_row"])(GO:FnOk P w K mg bz AH 61 g2 cA ["_law_sentence_here","_law_row"] (Fm K false))(CO:AL K mg "_law_outs" g2 cA ["_law_sentence_here","_law_row"]):FnOk P w K mg bz AH 62 f fd ["_law_row","_law_sentence_here","_law_said"] (M2 K):=by
 refine F.ok Rr (fun vs H Q E h=>?_) (fun ai A outer s H vs Q E hr h=>?_)
 ·obtain⟨r,z,v,t,row,rfl,_⟩:=h
  rfl
 obtain⟨r,z,v,t,row,rfl,ha,hok,hs,hS,hl,q⟩:=h
 refine⟨_,Ac (AB (Al AQ (pv 2) Av (As _))
   (Ae (Ai (Ah GI hr (by rfl) CI.m CI.k CI.b .nil Ak (Aa (pv 1) (Aa (pv 0) Ab)))))
   Ap)
  (Ac (AB (Al AQ (pv 2) Av (As _))
   (Ae (Ai (Ah GO hr (by rfl) CO.m CO.k CO.b .nil Ak (Aa (pv 1) (Aa (pv 0) Ab)))))
   Ap)
  (Ae (Ai (AF AR (by rfl) T.lst AZ (Aa (pv 0) Ab))))),?_⟩
 unfold Cj at q
 refine⟨_,rfl,rfl,_,rfl,?_⟩
 by_cases h0:z="grant"
 ·refine Bd (by rw[h0]) ?_
  simp only[if_pos h0] at q
  exact⟨_,rfl,_,rfl,v,t,r,row,rfl,ha,hok,hs,hS,hl,fun l H' s' aU hr'=>q l H' s' aU hr'⟩
 refine A6 (fun e=>h0 (by injection e)) ?_
 simp only[if_neg h0] at q
 refine⟨_,rfl,rfl,_,rfl,?_⟩
 by_cases h1:z="deny"
 ·refine Bd (by rw[h1]) ?_
  simp only[if_pos h1] at q
  exact⟨_,rfl,_,rfl,v,t,r,row,rfl,ha,hok,hs,hS,hl,fun l H' s' aU hr'=>q l H' s' aU hr'⟩
 refine A6 (fun e=>h1 (by injection e)) ?_
 simp only[if_neg h1] at q
 exact⟨_,rfl,r,_,rfl,.inl hS,fun l aU=>q l _ (Af aU _) aU upd_same⟩
end
abbrev En:Stmt:=Bu 62
abbrev FreshAt(H:Hp)(many:Nat):List V->List Tr->Prop:=Paired fun(v:V)(t:Tr)=>t.At H v/\t.ok many/\t.size<=20
theorem FreshAt.keep{H H':Hp}{many:Nat}(s:TS H H'):∀{xs:List V}{ts:List Tr},FreshAt H many xs ts->FreshAt H' many xs ts
 | _,_,.nil=>.nil
 | _,_,.cons ⟨h,o,z⟩ q=>.cons ⟨h.keep s,o,z⟩ (FreshAt.keep s q)
theorem FreshAt.get{H:Hp}{many:Nat}:∀{xs:List V}{ts:List Tr}{i:Nat},FreshAt H many xs ts->i<xs.length->∃(v:V)(t:Tr),xs[i]? = some v/\t.At H v/\t.ok many/\t.size<=20
 | _,_,0,.cons h _,_=>⟨_,_,rfl,h⟩
 | _,_,i+1,.cons _ q,hi=>FreshAt.get (i:=i) q (zCZ hi)
def HB(K:PySem.W.Frag):Sp:=fun vs H Q _=>∃(n:Int)(fr:Addr)(many:Nat)(xs:List V)(ts:List Tr),vs=[.int n,.ref fr,.int many]/\0<=n/\1<=many/\many<=5/\H fr=some (.lst xs)/\FreshAt H many xs ts/\xs≠[]/\xs.length<=900/\
 ∀(v:V)(t:Tr)(H':Hp),Same H H'->t.At H' v->t.ok many->t.size<=21->(1<n%6->t.size<=20)->Q v H'
section
theorem QB:Ao ["_law_n","_law_fresh","_law_many"] ["_law_n","_law_fresh","_law_many"] (Ad En):=Bt
theorem Nk(F:Fun K "_law_asked" "_law_asked" En f fd)(B:Bl mg)(GS:FnOk P w K mg bz AH 1 g gd ["_law_n","_law_most","_law_many"] JJ)(CS:AL K mg "_law_sentence" g gd ["_law_n","_law_most","_law_many"]):FnOk P w K mg bz AH 2 f fd ["_law_n","_law_fresh","_law_many"] (HB K):=by
 refine F.ok QB (fun vs H Q E h=>?_) (fun ai A outer s H vs Q E hr h=>?_)
 ·obtain⟨n,fr,many,xs,ts,rfl,_⟩:=h
  rfl
 obtain⟨n,fr,many,xs,ts,rfl,hn,cu,bI,bB,hF,av,hl,q⟩:=h
 have hp:0<xs.length:=List.length_pos_iff.mpr av
 refine⟨_,Ac (AB (Al AQ (Au AO (pv 0) Ag) Ag (As _))
   (Ae (Ai (AD AK (pv 1) (Au AO (Au AY (pv 0) Ag) (Az Ay (by rfl) B.len PySem.boot_len (Aa (pv 1) Ab))) (fun _ _=>rfl))))
   Ap)
  (Ac (AB (Al AQ (Au AO (pv 0) Ag) Ag (As _))
   (Ae (Ai (Bc (Aa Av (Aa (AD AK (pv 1) (Au AO (Au AY (pv 0) Ag) (Az Ay (by rfl) B.len PySem.boot_len (Aa (pv 1) Ab))) (fun _ _=>rfl)) Ab)))))
   Ap)
  (Ae (Ai (Ah GS hr (by rfl) CS.m CS.k CS.b .nil Ak (Aa (Au AY (pv 0) Ag) (Aa Ag (Aa (pv 2) Ab))))))),?_⟩
 have e0:=zA8 (n / 6) (show (xs.length:Int)≠0 by omega)
 have e1:=zBB (n / 6) (show (0:Int)<xs.length by omega)
 obtain⟨v,t,hv,ha,hok,aw⟩:=FreshAt.get hF (i:=(n / 6%(xs.length:Int)).toNat) (by omega)
 have bH:HZ xs (n / 6%(xs.length:Int))=some v:=by
  have e:n / 6%(xs.length:Int)=(((n / 6%(xs.length:Int)).toNat:Nat):Int):=by omega
  rw[e]
  exact Aj hv
 refine⟨_,rfl,_,_,rfl,rfl,(by show (0:Int)<6;decide),rfl,_,rfl,?_⟩
 refine B9 (fun c=>?_) (fun c=>?_)
 ·have c':n%6=0:=by
   have c2:=of_decide_eq_true c
   injection c2
  refine⟨_,rfl,_,rfl,_,_,rfl,rfl,⟨by decide,by decide⟩,_,rfl,fr,_,rfl,.inl (SqL.of bB),_,_,rfl,rfl,(by show (0:Int)<((xs.length:Nat):Int);omega),fr,_,_,_,rfl,rfl,SqL.of bB,bH,?_⟩
  exact q v t H (Same.refl _) ha hok (by omega) (fun z=>by omega)
 refine⟨_,rfl,_,_,rfl,rfl,(by show (0:Int)<6;decide),rfl,_,rfl,?_⟩
 refine B9 (fun c=>?_) (fun c=>?_)
 ·have c':n%6=1:=by
   have c2:=of_decide_eq_true c
   injection c2
  refine⟨_,rfl,_,rfl,_,_,rfl,rfl,⟨by decide,by decide⟩,_,rfl,fr,_,rfl,.inl (SqL.of bB),_,_,rfl,rfl,(by show (0:Int)<((xs.length:Nat):Int);omega),fr,_,_,_,rfl,rfl,SqL.of bB,bH,Ig,fun p hp0=>?_⟩
  have s2:=Af hp0 (.tup [.str "not",v])
  exact q (.ref p) (.nt t) _ s2 ⟨p,v,rfl,upd_same,ha.keep (TS.same s2)⟩ hok (by show t.size+1<=21;omega) (fun z=>by omega)
 ·refine⟨_,rfl,_,_,rfl,rfl,⟨by decide,by decide⟩,_,rfl,n / 6,6,many,rfl,by omega,by decide,by decide,cu,bI,fun v t H' s' iM eE dr=>?_⟩
  exact q v t H' s' iM eE (by omega) (fun _=>by omega)
end
theorem QC:bootBuiltins "min"=some (.builtin "min"):=by decide +kernel
theorem Kc:D3 X (binaryOp .FloorDiv) (rI (fun _ j=>0<j/\j.natAbs.log2<9000) fun i j=>.int (i / j)):=To fun i j _ _ _ _ _ hc q=>by
 have h1:(0:Int)<j:=hc.1
 exact floordiv_int (by omega) (by rw[zCM i (by omega)];exact q) (.inl (PyProof.noPylong_of_log2 hc.2))
abbrev Cw:Stmt:=Bu 66
abbrev F0:Stmt:=Bu 63
abbrev FH:Stmt:=Bu 64
def IB(K:PySem.W.Frag):Sp:=fun vs H Q _=>∃(a rm:Addr)(ns room:List Int)(k:Int),vs=[.ref a,.int k,.ref rm]/\SqL K H a (ns.map V.int)/\ns.length<=63/\0<=k/\k<=1000/\SqL K H rm (room.map V.int)/\room.length<=900/\room≠[]/\∀(l:Addr)(seen:List Int)(H':Hp),Same H H'->H l=none->AM H' l seen->seen.Sublist room->seen≠[]->Q (.ref l) H'
def M5(K:PySem.W.Frag):Sp:=fun vs H Q _=>∃(a:Addr)(ns:List Int)(st n:Int),vs=[.ref a,.int st,.int n]/\SqL K H a (ns.map V.int)/\ns.length<=63/\0<=st/\st<=58/\∀(m:Int),0<=m->m<=63->Q (.int m) H
abbrev AskedAt(H:Hp)(many:Nat):List V->List Tr->Prop:=Paired fun(v:V)(t:Tr)=>t.At H v/\t.ok many/\t.size<=21
theorem AskedAt.keep{H H':Hp}{many:Nat}(s:TS H H'):∀{xs:List V}{ts:List Tr},AskedAt H many xs ts->AskedAt H' many xs ts
 | _,_,.nil=>.nil
 | _,_,.cons ⟨h,o,z⟩ q=>.cons ⟨h.keep s,o,z⟩ (AskedAt.keep s q)
theorem AskedAt.snoc{H:Hp}{many:Nat}{v:V}{t:Tr}(h:t.At H v/\t.ok many/\t.size<=21):∀{xs:List V}{ts:List Tr},AskedAt H many xs ts->AskedAt H many (xs++[v]) (ts++[t])
 | _,_,.nil=>.cons h .nil
 | _,_,.cons x q=>.cons x (AskedAt.snoc h q)
theorem FreshAt.snoc{H:Hp}{many:Nat}{v:V}{t:Tr}(h:t.At H v/\t.ok many/\t.size<=20):∀{xs:List V}{ts:List Tr},FreshAt H many xs ts->FreshAt H many (xs++[v]) (ts++[t])
 | _,_,.nil=>.cons h .nil
 | _,_,.cons x q=>.cons x (FreshAt.snoc h q)
theorem AskedAt.get{H:Hp}{many:Nat}:∀{xs:List V}{ts:List Tr}{i:Nat}{v:V},AskedAt H many xs ts->xs[i]? = some v->∃t:Tr,t.At H v/\t.ok many/\t.size<=21
 | _,_,0,v,.cons h _,e=>by cases e;exact⟨_,h⟩
 | _,_,i+1,v,.cons _ q,e=>AskedAt.get (i:=i) q e
def Mp(K:PySem.W.Frag):Sp:=fun vs H Q _=>∃(a:Addr)(ns:List Int)(st:Int)(many:Nat)(v:V)(t:Tr),vs=[.ref a,.int st,.int many,v]/\SqL K H a (ns.map V.int)/\ns.length<=63/\0<=st/\st<=58/\1<=many/\many<=5/\t.At H v/\t.ok many/\t.size<=20/\
 ∀(l:Addr)(xs:List V)(ts:List Tr)(H':Hp),Same H H'->H l=none->H' l=some (.lst xs)->AskedAt H' many xs ts->xs.length<=(63-st).toNat->Q (.ref l) H'
section
abbrev FQ:Stmt:=Bu 58
def Mg(K:PySem.W.Frag):Sp:=fun vs H Q _=>∃(a:Addr)(ns:List Int),vs=[.ref a]/\SqL K H a (ns.map V.int)/\ns.length<=63/\∀(z:Str)(H':Hp),Same H H'->Cs z->Q (.str z) H'
theorem QW:Ao ["_law_script"] ["_law_script"] (Ad FQ):=Bt
theorem QL(F:Fun K "_law_rule" "_law_rule" FQ f fd)(GN:FnOk P w K mg bz AH 1 g gd ["_law_script","_law_k"] (MZ K))(CN:AL K mg "_law_num" g gd ["_law_script","_law_k"]):FnOk P w K mg bz AH 2 f fd ["_law_script"] (Mg K):=by
 refine F.ok QW (fun vs H Q E h=>?_) (fun ai A outer s H vs Q E hr h=>?_)
 ·obtain⟨a,ns,rfl,_⟩:=h
  rfl
 obtain⟨a,ns,rfl,hS,bx,q⟩:=h
 refine⟨_,Ae (Ai (AD AK (AI (Aa Av (Aa Av Ab))) (Au AO (Au AY (Ah GN hr (by rfl) CN.m CN.k CN.b .nil Ak (Aa (pv 0) (Aa Ag Ab))) Ag) Ag) (fun _ _=>rfl))),?_⟩
 refine⟨Ig,fun l hl=>?_⟩
 have s1:=Af hl (.lst [.str "elder",.str "newer"])
 refine⟨_,rfl,a,ns,3,rfl,s1.seq hS,bx,by decide,by decide,fun n H2 hn s2=>?_⟩
 have e0:=zA8 (n / 3) (show (2:Int)≠0 by decide)
 have e1:=zBB (n / 3) (show (0:Int)<2 by decide)
 have l2:=s2 _ _ (show upd H l (.lst [.str "elder",.str "newer"]) l=_ from upd_same)
 have two:n / 3%2=((0:Nat):Int)\/n / 3%2=((1:Nat):Int):=by omega
 have bH:∃z,Cs z/\HZ [V.str "elder",V.str "newer"] (n / 3%2)=some (.str z):=by
  rcases two with e | e<;>rw[e]
  ·exact⟨_,.inl rfl,Aj (j:=0) rfl⟩
  ·exact⟨_,.inr rfl,Aj (j:=1) rfl⟩
 obtain⟨z,hz,bH⟩:=bH
 exact⟨_,_,rfl,rfl,⟨by decide,by decide⟩,_,_,rfl,rfl,(by show (0:Int)<2;decide),l,_,_,_,rfl,rfl,SqL.of l2,bH,q z _ (s1.trans s2) hz⟩
theorem scLseenat:Ao ["_law_script","_law_k","_law_room_here","_law_n"] ["_law_script","_law_k","_law_room_here"] (Ad Cw):=Bt
theorem LT(F:Fun K "_law_seen_at" "_law_seen_at" Cw f fd)(GN:FnOk P w K mg bz AH 1 g gd ["_law_script","_law_k"] (MZ K))(CN:AL K mg "_law_num" g gd ["_law_script","_law_k"])(GS:FnOk P w K mg bz AH 3 g2 cA ["_law_n","_law_room_here"] (Cf K))(CS:AL K mg "_law_seen" g2 cA ["_law_n","_law_room_here"]):FnOk P w K mg bz AH 4 f fd ["_law_script","_law_k","_law_room_here"] (IB K):=by
 refine F.ok scLseenat (fun vs H Q E h=>?_) (fun ai A outer s H vs Q E hr h=>?_)
 ·obtain⟨a,rm,ns,room,k,rfl,_⟩:=h
  rfl
 obtain⟨a,rm,ns,room,k,rfl,hS,bx,ir,hk1,hR,hl,av,q⟩:=h
 have ak:Room 1 _:=hr.mono (by decide)
 refine⟨_,Ac (Ar (i:=3) scLseenat.nd rfl (Or.inl rfl) (Ah GN ak (by rfl) CN.m CN.k CN.b .nil Ak (Aa (pv 0) (Aa Ag Ab))))
  (Ac (AB (Al AQ (Au AO (pv 3) Ag) Ag (As _))
   (Ae (Ai (Ah GS hr (by rfl) CS.m CS.k CS.b .nil Ak (Aa (Au AY (pv 3) Ag) (Aa (pv 2) Ab)))))
   Ap)
  (Ae (Ai (Ah GS hr (by rfl) CS.m CS.k CS.b .nil Ak (Aa (Au Kc (Ah GN ak (by rfl) CN.m CN.k CN.b .nil Ak (Aa (pv 0) (Aa (pv 1) Ab))) (Au JM Ag Ag)) (Aa (pv 2) Ab)))))),?_⟩
 refine⟨_,rfl,a,ns,4,rfl,hS,bx,by decide,by decide,fun n H2 hn s2=>?_⟩
 refine⟨_,rfl,_,_,rfl,rfl,(by show (0:Int)<2;decide),rfl,_,rfl,?_⟩
 refine B9 (fun c=>?_) (fun c=>?_)
 ·refine⟨_,rfl,_,_,rfl,rfl,⟨by decide,by decide⟩,_,rfl,n / 2,rm,room,rfl,s2.seq hR,hl,av,fun l seen H3 s3 aU ju ax gY=>?_⟩
  exact q l seen _ (s2.trans s3) (s2.free aU) ju ax gY
 ·refine⟨_,rfl,_,rfl,a,ns,k,rfl,s2.seq hS,bx,ir,hk1,fun n2 H3 gs s3=>?_⟩
  refine⟨_,_,rfl,rfl,⟨by decide,by decide,by decide⟩,_,_,rfl,rfl,⟨by decide,by decide +kernel⟩,_,rfl,_,rm,room,rfl,(s2.trans s3).seq hR,hl,av,fun l seen H4 s4 aU hl4 ax hn4=>?_⟩
  exact q l seen _ (s2.trans (s3.trans s4)) ((s2.trans s3).free aU) hl4 ax hn4
theorem Rz:Ao ["_law_script","_law_start_here","_law_n"] ["_law_script","_law_start_here","_law_n"] (Ad F0):=Bt
theorem O4(F:Fun K "_law_last" "_law_last" F0 f fd)(B:Bl mg):FnOk P w K mg bz AH 1 f fd ["_law_script","_law_start_here","_law_n"] (M5 K):=by
 refine F.ok Rz (fun vs H Q E h=>?_) (fun ai A outer s H vs Q E hr h=>?_)
 ·obtain⟨a,ns,st,n,rfl,_⟩:=h
  rfl
 obtain⟨a,ns,st,n,rfl,hS,bx,h0,h1,q⟩:=h
 refine⟨_,Ac (AB (Al Fo (Az Ay (by rfl) B.len PySem.boot_len (Aa (pv 0) Ab)) (pv 1) (As _))
   (Ae (Ai (Az Ay (by rfl) B.len PySem.boot_len (Aa (pv 0) Ab))))
   Ap)
  (Ae (Ai (Au Ch (pv 1) (Au AO (pv 2) Ag)))),?_⟩
 have hl:(ns.map V.int).length=ns.length:=List.length_map _
 refine⟨_,rfl,a,_,rfl,.inl hS,_,rfl,_,_,rfl,rfl,_,rfl,?_⟩
 refine B9 (fun c=>?_) (fun c=>?_)
 ·exact⟨_,rfl,a,_,rfl,.inl hS,q _ (by omega) (by rw[hl];omega)⟩
 ·have e0:=zA8 n (show (6:Int)≠0 by decide)
  have e1:=zBB n (show (0:Int)<6 by decide)
  exact⟨_,rfl,_,rfl,_,_,rfl,rfl,(by show (0:Int)<6;decide),_,_,rfl,rfl,q _ (by omega) (by omega)⟩
theorem scLasks:Ao ["_law_script","_law_start_here","_law_many","_law_first","_law_fresh","_law_found","_law_last_here","_law_k","_law_sentence_here"] ["_law_script","_law_start_here","_law_many","_law_first"] (Ad FH):=Bt
theorem Qp(F:Fun K "_law_asks" "_law_asks" FH f fd)(B:Bl mg)(HMIN:mg "min"=none)(GN:FnOk P w K mg bz AH 1 g1 d1 ["_law_script","_law_k"] (Jd K))(CN:AL K mg "_law_num" g1 d1 ["_law_script","_law_k"])(GL:FnOk P w K mg bz AH 1 g2 d2 ["_law_script","_law_start_here","_law_n"] (M5 K))(CL:AL K mg "_law_last" g2 d2 ["_law_script","_law_start_here","_law_n"])(GA:FnOk P w K mg bz AH 2 g3 d3 ["_law_n","_law_fresh","_law_many"] (HB K))(CA:AL K mg "_law_asked" g3 d3 ["_law_n","_law_fresh","_law_many"]):FnOk P w K mg bz AH 3 f fd ["_law_script","_law_start_here","_law_many","_law_first"] (Mp K):=by
 refine F.ok scLasks (fun vs H Q E h=>?_) (fun ai A outer s H vs Q E hr h=>?_)
 ·obtain⟨a,ns,st,many,v,t,rfl,_⟩:=h
  rfl
 obtain⟨a,ns,st,many,v,t,rfl,hS,bx,h0,h1,cu,bI,ha,hok,aw,q⟩:=h
 have ak:Room 1 _:=hr.mono (by decide)
 refine⟨_,Ac (Ar (i:=4) scLasks.nd rfl (Or.inl rfl) (AI (Aa (pv 3) Ab)))
  (Ac (Ar (i:=5) scLasks.nd rfl (Or.inl rfl) (AI Ab))
  (Ac (Ar (i:=6) scLasks.nd rfl (Or.inl rfl) (Ah GL ak (by rfl) CL.m CL.k CL.b .nil Ak (Aa (pv 0) (Aa (pv 1) (Aa (Au AY (Ah GN ak (by rfl) CN.m CN.k CN.b .nil Ak (Aa (pv 0) (Aa Ag Ab))) Ag) Ab)))))
  (Ac (AB (Al Fo (pv 2) Ag (As _))
   (Ae (Ar (i:=6) scLasks.nd rfl (Or.inl rfl) (Az (Nw rfl) (by rfl) HMIN QC (Aa (pv 6) (Aa (Au Ch (pv 1) (AD AK (AI (Aa Ag (Aa Ag Ab))) (Au DG (pv 2) Ag) (fun _ _=>rfl))) Ab)))))
   Ap)
  (Ac (Bz zAW rfl (N2 (by rfl) B.range (Aa (pv 1) (Aa (pv 6) Ab))) (AC (i:=7) scLasks.nd rfl (Or.inl rfl))
   (Ac (Ar (i:=8) scLasks.nd rfl (Or.inl rfl) (Ah GA hr (by rfl) CA.m CA.k CA.b .nil Ak (Aa (Ah GN ak (by rfl) CN.m CN.k CN.b .nil Ak (Aa (pv 0) (Aa (pv 7) Ab))) (Aa (pv 4) (Aa (pv 2) Ab)))))
   (Ac (AB (Al Fo (Au AO (Ah GN ak (by rfl) CN.m CN.k CN.b .nil Ak (Aa (pv 0) (Aa (pv 7) Ab))) Ag) Ag (As _))
    (Ae (AW (B1 zAD zAK zAL A4 (pv 4) (Aa (pv 8) Ab))))
    Ap)
   (Ae (AW (B1 zAD zAK zAL A4 (pv 5) (Aa (pv 8) Ab)))))))
  (Ae (Ai (pv 5))))))),?_⟩
 refine⟨_,rfl,Jq,fun fr bB=>?_⟩
 have s1:=Af bB (.lst [v])
 have fr1:upd H fr (.lst [v]) fr=some (.lst [v]):=upd_same
 generalize upd H fr _=H1 at *
 refine⟨J1,fun fo jd=>?_⟩
 have s2:=Af jd (.lst [])
 have fo2:upd H1 fo (.lst []) fo=some (.lst []):=upd_same
 generalize upd H1 fo _=H2 at *
 have nff:fr≠fo:=An fr1 jd
 have t2:=s1.trans s2
 have fo0:H fo=none:=s1.free jd
 refine⟨_,rfl,_,rfl,_,rfl,a,ns,0,rfl,t2.seq hS,bx,by decide,by decide,fun H3 hn0 s3=>?_⟩
 refine⟨_,_,rfl,rfl,⟨by decide,by decide⟩,a,ns,st,_,rfl,(t2.trans s3).seq hS,bx,h0,h1,fun m gw aW=>?_⟩
 have t3:=t2.trans s3
 have fr3:=s3 _ _ (s2 _ _ fr1)
 have fo3:=s3 _ _ fo2
 refine FV (fun σ H4=>∃last:Int,0<=last/\last<=63/\σ=[some (.ref a),some (.int st),some (.int (many:Int)),some v,some (.ref fr),some (.ref fo),some (.int last),none,none]/\Same H3 H4) ?_ ?_
 ·rintro σ H4 ⟨last,aU,aC,rfl,s4⟩
  have t4:=t3.trans s4
  refine⟨_,rfl,_,rfl,_,_,rfl,⟨by omega,by omega,by omega,by omega⟩,Db (lo:=st) (n:=(last-st).toNat) (fun i σ H5=>∃(v0 v1:Option V)(fs xs:List V)(jB ts:List Tr),σ=[some (.ref a),some (.int st),some (.int (many:Int)),some v,some (.ref fr),some (.ref fo),some (.int last),v0,v1]/\Same H H5/\H5 fr=some (.lst fs)/\FreshAt H5 many fs jB/\fs≠[]/\fs.length<=1+i/\H5 fo=some (.lst xs)/\AskedAt H5 many xs ts/\xs.length=i) ?_ ?_ ?_⟩
  ·exact⟨_,_,[v],[],[t],[],rfl,t4,s4 _ _ fr3,.cons ⟨ha.keep (TS.same t4),hok,aw⟩ .nil,by simp,by simp,s4 _ _ fo3,.nil,rfl⟩
  ·rintro i σ H5 hi ⟨v0,v1,fs,xs,jB,ts,rfl,s5,fr5,F5,ne5,l5,fo5,A5,x5⟩
   have de:i<200:=by omega
   have hk1:st+(i:Int)<=1000:=by omega
   refine⟨_,rfl,_,rfl,a,ns,_,rfl,s5.seq hS,bx,by omega,hk1,fun H6 jC s6=>?_⟩
   refine⟨_,rfl,_,rfl,_,fr,many,fs,jB,rfl,jC,cu,bI,s6 _ _ fr5,F5.keep (TS.same s6),ne5,by omega,fun v2 t2' H7 s7 ha7 hok7 hsz7 hlt7=>?_⟩
   have u7:=s6.trans s7
   refine FV (fun σ H9=>∃(fs:List V)(jB:List Tr),σ=[some (.ref a),some (.int st),some (.int (many:Int)),some v,some (.ref fr),some (.ref fo),some (.int last),some (.int (st+(i:Int))),some v2]/\Same H H9/\H9 fr=some (.lst fs)/\FreshAt H9 many fs jB/\fs≠[]/\fs.length<=1+(i+1)/\H9 fo=some (.lst xs)/\AskedAt H9 many xs ts/\t2'.At H9 v2) ?_ ?_
   ·rintro σ H9 ⟨fs9,fts9,rfl,s9,fr9,F9,ne9,l9,fo9,A9,ha9⟩
    refine⟨_,rfl,.inl ⟨rfl,_,SqL.of fo9⟩,_,rfl,fo,_,_,rfl,rfl,fo9,AG (by omega),?_⟩
    have jD:TS H9 (upd H9 fo (.lst (xs++[v2]))):=TS.lst fo9
    exact⟨_,_,fs9,xs++[v2],fts9,ts++[t2'],rfl,AJ s9 fo0 _,by rw[Ax nff];exact fr9,F9.keep jD,ne9,l9,upd_same,(A9.keep jD).snoc ⟨ha9.keep jD,hok7,hsz7⟩,by rw[zA,x5];rfl⟩
   ·intro next
    refine⟨_,rfl,_,rfl,a,ns,_,rfl,(s5.trans u7).seq hS,bx,by omega,hk1,fun H8 hn8 s8=>?_⟩
    refine⟨_,_,rfl,rfl,(by show (0:Int)<6;decide),_,_,rfl,rfl,_,rfl,?_⟩
    have u8:=u7.trans s8
    have fr8:=u8 _ _ fr5
    have fo8:=u8 _ _ fo5
    refine B9 (fun c=>?_) (fun c=>?_)
    ·have c':1<Kh ns (st+(i:Int))%6:=of_decide_eq_true c
     refine⟨_,rfl,.inl ⟨rfl,_,SqL.of fr8⟩,_,rfl,fr,_,_,rfl,rfl,fr8,AG (by omega),?_⟩
     have jD:TS H8 (upd H8 fr (.lst (fs++[v2]))):=TS.lst fr8
     refine next _ _ ⟨fs++[v2],jB++[t2'],rfl,AJ (s5.trans u8) bB _,upd_same,FreshAt.snoc ⟨(ha7.keep (TS.same s8)).keep jD,hok7,hlt7 c'⟩ ((F5.keep (TS.same u8)).keep jD),by simp,by rw[zA];show fs.length+1<=_;omega,by rw[Ax nff.symm];exact fo8,(A5.keep (TS.same u8)).keep jD,(ha7.keep (TS.same s8)).keep jD⟩
    ·exact next _ _ ⟨fs,jB,rfl,s5.trans u8,fr8,F5.keep (TS.same u8),ne5,by omega,fo8,A5.keep (TS.same u8),ha7.keep (TS.same s8)⟩
  ·rintro σ H5 ⟨v0,v1,fs,xs,jB,ts,rfl,s5,fr5,F5,ne5,l5,fo5,A5,x5⟩
   exact⟨_,rfl,q fo xs ts H5 s5 fo0 fo5 A5 (by omega)⟩
 ·intro next
  refine⟨_,rfl,_,_,rfl,rfl,_,rfl,?_⟩
  refine B9 (fun c=>?_) (fun c=>?_)
  ·have c':3<(many:Int):=of_decide_eq_true c
   have two:(many:Int)-4=((0:Nat):Int)\/(many:Int)-4=((1:Nat):Int):=by omega
   have bH:∃y:Int,0<=y/\y<=24/\HZ [V.int 24,V.int 16] ((many:Int)-4)=some (.int y):=by
    rcases two with e | e<;>rw[e]
    ·exact⟨24,by decide,by decide,Aj (j:=0) rfl⟩
    ·exact⟨16,by decide,by decide,Aj (j:=1) rfl⟩
   obtain⟨y,hy0,eh,bH⟩:=bH
   refine⟨_,rfl,_,rfl,Ig,fun L hL=>⟨_,rfl,_,_,rfl,rfl,L,_,_,_,rfl,rfl,SqL.of upd_same,bH,_,_,rfl,rfl,_,_,rfl,?_⟩⟩
   refine next _ _ ⟨_,?_,?_,rfl,Af hL _⟩
   ·split<;>omega
   ·split<;>omega
  ·exact next _ _ ⟨m,gw,aW,rfl,Same.refl _⟩
end
@[reducible]
def tw(many:Nat)(z rule:Str)(t:Tr)(room:List Int)(es:List (V×Tr×Str))(aB:List Int)(ls:List (List Int)):Ta:=⟨many,z,rule,t,room,es,aB::ls,false⟩
theorem Pg{many:Nat}{z rule:Str}{room:List Int}{es:List (V×Tr×Str)}{aB:List Int}{ls:List (List Int)}{w:Str}:
  Pw (tw many z rule t room es aB ls) v u w=tw many z rule t room (es++[(v,u,w)]) aB (ls++[BZ w (tw many z rule t room es aB ls).held (AA true u room)]):=rfl
theorem Lh(W:Ta)(v:V)(t:Tr)(z:Str):(Pw W v t z).held=BZ z W.held (AA true t W.room):=by
 show (W.lefts++[BZ z W.held (AA true t W.room)]).getLastD []=_
 simp
theorem TalkAt.held_sub(h:TalkAt M C H a U W):W.held.Sublist W.room:=h.wl _ h.held_in
theorem TalkAt.base_sub(h:TalkAt M C H a U W):W.base.Sublist W.room:=h.wl _ h.base_in
theorem TalkAt.going_sub(h:TalkAt M C H a U W):W.going.Sublist W.room:=by
 unfold Ta.going
 split
 ·exact h.held_sub
 ·exact h.base_sub
theorem LS{t:Tr}{H:Hp}{v:V}(h:t.At H v):t.At (BA [] H) v:=h.keep fun p xs e=>Bw e (by simp)
def Full(M:List Addr)(H:Hp):Prop:=∀m∈M,H m≠none
theorem Full.keep(s:Same H H')(h:Full M H):Full M H':=fun m hm z=>h m hm (s.free z)
theorem Full.no(h:Full M H)(hl:H l=none):l∉M:=fun z=>h l z hl
theorem mem_ins:k∈AA b t g↔k∈g/\tv t k=b:=by
 unfold AA
 rw[List.mem_filter]
 exact⟨fun h=>⟨h.1,eq_of_beq h.2⟩,fun h=>⟨h.1,by rw[h.2];cases b<;>rfl⟩⟩
theorem Kx{z rule:Str}(c:rule="elder"):(tw many z rule t room es aB ls).going=(tw many z rule t room es aB ls).held:=by
 unfold Ta.going
 rw[if_pos (show (tw many z rule t room es aB ls).rule="elder" from c)]
def PairAt(H:Hp)(x:V)(t:Tr)(z:Str):Prop:=∃p v,x= .ref p/\H p=some (.tup [v,.str z])/\t.At H v
theorem PairAt.keep(s:Same H H')(h:PairAt H x t z):PairAt H' x t z:=by
 obtain⟨p,v,e,h1,h2⟩:=h
 exact⟨p,v,e,s _ _ h1,h2.keep (TS.same s)⟩
abbrev PairsAt(H:Hp):List V->List (Tr×Str)->Prop:=Paired fun(x:V)(e:Tr×Str)=>PairAt H x e.1 e.2
theorem PairsAt.keep{H H':Hp}(s:Same H H'):∀{xs:List V}{es:List (Tr×Str)},PairsAt H xs es->PairsAt H' xs es
 | _,_,.nil=>.nil
 | _,_,.cons h q=>.cons (h.keep s) (PairsAt.keep s q)
theorem PairsAt.len(h:PairsAt H xs es):xs.length=es.length:=zB4 h
theorem PairsAt.get{H:Hp}:∀{xs:List V}{es:List (Tr×Str)}{i:Nat}{e:Tr×Str},PairsAt H xs es->es[i]? = some e->∃x,xs[i]? = some x/\PairAt H x e.1 e.2
 | _,_,0,e,.cons h _,hi=>by cases hi;exact⟨_,rfl,h⟩
 | _,_,i+1,e,.cons _ q,hi=>PairsAt.get (i:=i) q hi
theorem EK{H:Hp}:∀{xs:List V}{es:List (V×Tr×Str)},EntsAt H xs es->PairsAt H xs (es.map fun e=>(e.2.1,e.2.2))
 | _,_,.nil=>.nil
 | _,_,.cons ⟨p,e,h,a⟩ q=>.cons ⟨p,_,e,h,a⟩ (EK q)
abbrev Gb:Stmt:=Bu 37
abbrev Ek:Stmt:=Bu 39
def Be(room:List Int)(es:List (Tr×Str)):List (List Int):=es.map fun e=>Cj e.2 room e.1
def AV(room:List Int)(rs:List (List Int)):List Int:=room.filter fun k=>rs.all fun r=>decide (k∈r)
theorem Md(room:List Int):AV room []=room:=by
 unfold AV
 rw[List.filter_eq_self]
 intro k _
 rfl
theorem mem_com:k∈AV room rs↔k∈room/\∀r∈rs,k∈r:=by
 unfold AV
 rw[List.mem_filter,zA0]
 exact⟨fun h=>⟨h.1,fun r hr=>by have:=h.2 r hr;simpa using this⟩,fun h=>⟨h.1,fun r hr=>decide_eq_true (h.2 r hr)⟩⟩
theorem Hg(room:List Int)(rs:List (List Int)):(AV room rs).Sublist room:=zAO
theorem PL(room r:List Int)(rs:List (List Int)):Fk (AV room rs) r=AV room (r::rs):=by
 unfold Fk AV
 rw[List.filter_filter]
 refine zCG fun k _=>?_
 rw[zB5]
def Hh(room:List Int)(rows:List (List Int)):List (List Int):=((List.range (rows.length+1)).map fun j=>AV room (rows.drop (rows.length-j))).reverse
theorem Oq(hi:i<=rows.length):(Hh room rows)[i]? = some (AV room (rows.drop i)):=by
 unfold Hh
 have hl:((List.range (rows.length+1)).map fun j=>AV room (rows.drop (rows.length-j))).length=rows.length+1:=by rw[List.length_map,List.length_range]
 rw[List.getElem?_reverse (by rw[hl];omega),hl,List.getElem?_map,List.getElem?_range (by omega)]
 show some (AV room (rows.drop (rows.length-(rows.length+1-1-i))))=_
 rw[show rows.length-(rows.length+1-1-i)=i by omega]
theorem rows_rev{H:Hp}:∀{xs:List V}{rs:List (List Int)},RowsAt H xs rs->RowsAt H xs.reverse rs.reverse
 | _,_,.nil=>.nil
 | _,_,.cons h q=>by
  rw[zC,zC]
  exact rows_add h (rows_rev q)
where
 rows_add {H:Hp} {v:V} {r:List Int} (h:∃p,v= .ref p/\AM H p r):∀{xs:List V}{rs:List (List Int)},RowsAt H xs rs->RowsAt H (xs++[v]) (rs++[r])
 | _,_,.nil=>.cons h .nil
 | _,_,.cons x q=>.cons x (rows_add h q)
theorem Dp{H H':Hp}{acc:Addr}:∀{xs:List V}{rs:List (List Int)},RowsAt H xs rs->(∀y∈xs,y≠.ref acc)->(∀p row,p≠acc->AM H p row->AM H' p row)->RowsAt H' xs rs
 | _,_,.nil,_,_=>.nil
 | _,_,.cons ⟨p,e,h⟩ q,ho,k=>.cons ⟨p,e,k p _ (fun z=>ho _ List.mem_cons_self (by rw[e,z])) h⟩ (Dp q (fun y hy=>ho y (List.mem_cons_of_mem _ hy)) k)
theorem D1{H:Hp}:∀{xs:List V}{rs:List (List Int)}{i:Nat}{r:List Int},RowsAt H xs rs->rs[i]? = some r->∃p,xs[i]? = some (.ref p)/\AM H p r
 | _,_,0,r,.cons ⟨a,e,h⟩ _,hi=>by cases hi;exact⟨a,by rw[e];rfl,h⟩
 | _,_,i+1,r,.cons _ q,hi=>D1 (i:=i) q hi
def MH(K:PySem.W.Frag):Sp:=fun vs H Q _=>∃(rm en:Addr)(room:List Int)(ps:List V)(es:List (Tr×Str)),vs=[.ref rm,.ref en]/\SqL K H rm (room.map V.int)/\Wr room/\SqL K H en ps/\PairsAt H ps es/\(∀e∈es,e.1.ok 5/\e.1.size<=800)/\es.length<=900/\
 ∀(l:Addr)(xs:List V)(H':Hp),Same H H'->H l=none->H' l=some (.lst xs)->RowsAt H' xs (Be room es)->Q (.ref l) H'
def Ko(K:PySem.W.Frag):Sp:=fun vs H Q _=>∃(rl rm:Addr)(room:List Int)(xs:List V)(rows:List (List Int)),vs=[.ref rl,.ref rm]/\AM H rm room/\Wr room/\SqL K H rl xs/\RowsAt H xs rows/\(∀r∈rows,r.length<=900)/\rows.length<=900/\
 ∀(l:Addr)(ys:List V)(H':Hp),Same H H'->H l=none->H' l=some (.lst ys)->RowsAt H' ys (Hh room rows)->Q (.ref l) H'
section
theorem Rc:Ao ["room","row"] ["room","row"] (Ad Gb):=Bt
theorem PH(F:Fun K "worlds_left" "worlds_left" Gb f fd)(GL:FnOk P w K mg bz AH 2 g1 d1 ["word","row","worlds"] (JH K))(CL:AL K mg "left_by" g1 d1 ["word","row","worlds"])(GW:FnOk P w K mg bz AH 3 g2 d2 ["sentence","room"] (BB K))(CW:AL K mg "worlds_of" g2 d2 ["sentence","room"]):FnOk P w K mg bz AH 4 f fd ["room","row"] (MH K):=by
 refine F.ok Rc (fun vs H Q E h=>?_) (fun ai A outer s H vs Q E hr h=>?_)
 ·obtain⟨rm,en,room,ps,es,rfl,_⟩:=h
  rfl
 obtain⟨rm,en,room,ps,es,rfl,hR,wr,hP,hE,hok,ag,q⟩:=h
 have aE:Room 2 _:=hr.mono (by decide)
 have ba:Room 3 _:=hr.mono (by decide)
 have ar:=hE.len
 refine⟨_,Ae (Ai (Bi (N:=["sentence","word","room"]) (js:=[none,none,some 0]) (cl:=[("room",s.heap.objs.size+1)]) ⟨rfl,rfl,rfl,(by intro p hp;simp at hp;rcases hp with rfl<;>rfl),rfl,rfl,rfl⟩ (AS (pv 1)) (fun c1=>(EQ rfl (Bf (AC (i:=0) (show (["sentence","word","room"]:List Str).Nodup by decide +kernel) rfl (Or.inl rfl)) (Bf (AC (i:=1) (show (["sentence","word","room"]:List Str).Nodup by decide +kernel) rfl (Or.inl rfl)) Dw)))) (fun c1=>Bx) (fun c1=>(Ah GL aE (by rfl) CL.m CL.k CL.b .nil Ak (Aa (pv 1) (Aa (pv 2) (Aa (Ah GW ba (by rfl) CW.m CW.k CW.b .nil Ak (Aa (pv 0) (Aa (pv 2) Ab))) Ab))))))),?_⟩
 refine⟨_,rfl,en,rfl,⟨_,hP⟩,fun cc acc ah=>?_⟩
 refine A1 (K:=K) (a:=en) (xs:=ps) (fun i σ H2=>∃v0 v1 ys,σ=[v0,v1,some (.ref rm)]/\Same H H2/\H2 acc=some (.lst ys)/\(∀y∈ys,y≠.ref acc)/\RowsAt H2 ys ((Be room es).take i)) ⟨none,none,[],rfl,Af ah _,upd_same,fun y hy=>by simp at hy,.nil⟩ ?_ ?_ ?_
 ·rintro i σ H2 _ ⟨v0,v1,ys,rfl,s2,_⟩
  exact s2.seq hP
 ·rintro i x σ H2 hx ⟨v0,v1,ys,rfl,s2,ha2,ho,hy2⟩
  have hi:i<es.length:=by
   have:=(List.getElem?_eq_some_iff.mp hx).1
   omega
  obtain⟨x',iO,hpx⟩:=hE.get (List.getElem?_eq_getElem hi)
  rw[hx] at iO
  cases iO
  obtain⟨p,v,rfl,hp,hv⟩:=hpx
  obtain⟨hok5,aw⟩:=hok _ (zA3 hi)
  refine⟨p,_,rfl,SqT.of (s2 _ _ hp),rfl,_,_,rfl,_,_,rfl,rfl,?_⟩
  refine⟨_,rfl,_,rfl,_,rfl,_,rfl,v,_,rm,room,rfl,hv.keep (TS.same s2),hok5,aw,s2.seq hR,wr,fun wl H3 s3 wl0 cx=>?_⟩
  refine⟨_,rm,wl,room,_,rfl,(s2.trans s3).seq hR,wr,SqL.of cx,zAH (zAZ _ _) (zAH wr.len (by decide)),fun l H4 s4 aU hl=>?_⟩
  have hl0':H2 l=none:=s3.free aU
  have nl:l≠acc:=(An ha2 hl0').symm
  have jE:=s3.trans s4
  have et:(Be room es).take (i+1)=(Be room es).take i++[Cj es[i].2 room es[i].1]:=by
   unfold Be
   rw[zAT,List.getElem?_map,List.getElem?_eq_getElem hi]
   rfl
  refine⟨ys,jE _ _ ha2,AG (by rw[hy2.len,List.length_take];omega),?_⟩
  refine⟨_,_,ys++[.ref l],rfl,AJ (s2.trans jE) ah _,upd_same,fun y hy=>?_,?_⟩
  ·rcases List.mem_append.mp hy with z | z
   ·exact ho y z
   ·rw[List.mem_singleton.mp z]
    exact fun q=>nl (V.ref.inj q)
  ·rw[et]
   refine rows_rev.rows_add ⟨l,rfl,?_⟩ (Dp hy2 ho fun p' aA n' h'=>?_)
   ·show upd _ _ _ l=_
    rw[Ax nl,<-Mo (zBA room)]
    exact hl
   ·show upd _ _ _ p'=_
    rw[Ax n']
    exact jE _ _ h'
 ·rintro σ H2 ⟨v0,v1,ys,rfl,s2,ha2,ho,hy2⟩
  rw[zBX (by unfold Be;rw[List.length_map];omega)] at hy2
  exact q acc ys H2 s2 ah ha2 hy2
theorem scCommon:Ao ["rows","room","commons","row"] ["rows","room"] (Ad Ek):=Bt
theorem Nb(F:Fun K "common_behind" "common_behind" Ek f fd)(HREV:mg "reversed"=none)(GB:FnOk P w K mg bz AH 1 g1 d1 ["one","other"] (EO K))(CB:AL K mg "in_both" g1 d1 ["one","other"]):FnOk P w K mg bz AH 2 f fd ["rows","room"] (Ko K):=by
 refine F.ok scCommon (fun vs H Q E h=>?_) (fun ai A outer s H vs Q E hr h=>?_)
 ·obtain⟨rl,rm,room,xs,rows,rfl,_⟩:=h
  rfl
 obtain⟨rl,rm,room,xs,rows,rfl,cj,wr,hX,hR,aM,ag,q⟩:=h
 have ak:Room 1 _:=hr.mono (by decide)
 have gZ:=hR.len
 refine⟨_,Ac (Ar (i:=2) scCommon.nd rfl (Or.inl rfl) (AI (Aa (pv 1) Ab)))
  (Ac (Bz zAW rfl (Rt (by rfl) HREV (Aa (pv 0) Ab)) (AC (i:=3) scCommon.nd rfl (Or.inl rfl))
   (Ae (AW (B1 zAD zAK zAL A4 (pv 2) (Aa (Ah GB ak (by rfl) CB.m CB.k CB.b .nil Ak (Aa (AD AK (pv 2) (Kq HQ Ag) (fun _ _=>rfl)) (Aa (pv 3) Ab))) Ab)))))
  (Ac (AW (Cl zAD PySem.F.slot_list_reverse PySem.F.type_list_reverse HS (pv 2)))
  (Ae (Ai (pv 2))))),?_⟩
 refine⟨_,rfl,Jq,fun cl bE=>?_⟩
 have s1:=Af bE (.lst [.ref rm])
 have ncl:cl≠rm:=(An cj bE).symm
 refine⟨_,rfl,rl,xs,rfl,s1.seq hX,P2 (K:=K) (a:=rl) (xs:=xs) (fun i σ H2=>∃v0 ys,σ=[some (.ref rl),some (.ref rm),some (.ref cl),v0]/\Same H H2/\H2 cl=some (.lst ys)/\(∀y∈ys,y≠.ref cl)/\RowsAt H2 ys ((List.range (i+1)).map fun j=>AV room (rows.drop (rows.length-j))))
  ⟨_,[.ref rm],rfl,s1,upd_same,fun y hy=>?_,.cons ⟨rm,rfl,?_⟩ .nil⟩ ?_ ?_ ?_⟩
 ·rw[List.mem_singleton.mp hy]
  exact fun q=>ncl (V.ref.inj q).symm
 ·show upd _ _ _ rm=some (HO.lst ((AV room (rows.drop (rows.length-0))).map V.int))
  rw[Ax ncl.symm,Nat.sub_zero,zCL,Md]
  exact cj
 ·rintro i σ H2 _ ⟨v0,ys,rfl,s2,_⟩
  exact s2.seq hX
 ·rintro i x σ H2 hi hx ⟨v0,ys,rfl,s2,ha2,ho,hy2⟩
  obtain⟨row,p,hrow,rfl,hp⟩:=hR.get hx
  have gQ:=hy2.len
  rw[List.length_map,List.length_range] at gQ
  obtain⟨lp,hlp1,hlp2⟩:=Ff hy2 (by simp)
  have elast:((List.range (i+1)).map fun j=>AV room (rows.drop (rows.length-j))).getLastD []=AV room (rows.drop (rows.length-i)):=by
   rw[zD,zAM]
   simp
  rw[elast] at hlp2
  have lcom:=(wr.sub (Hg room (rows.drop (rows.length-i)))).len
  refine⟨_,rfl,.inl ⟨rfl,_,SqL.of ha2⟩,_,rfl,_,rfl,cl,_,_,_,rfl,rfl,SqL.of ha2,hlp1,_,rfl,lp,p,_,row,rfl,SqL.of hlp2,SqL.of (s2 _ _ hp),by omega,aM row (zAQ hrow),fun l H3 ns s3 aU dm hmem hl=>?_⟩
  have hl0':H l=none:=s2.free aU
  have nl:l≠cl:=(An ha2 aU).symm
  have fO:ns=AV room (rows.drop (rows.length-(i+1))):=by
   rw[EN (wr.sub (Hg room (rows.drop (rows.length-i)))) dm hmem,PL]
   have hj:rows.length-1-i<rows.length:=by omega
   rw[gZ] at hrow
   obtain⟨_,e⟩:=List.getElem?_eq_some_iff.mp hrow
   rw[show rows.length-(i+1)=rows.length-1-i by omega,zBK hj,e,show rows.length-1-i+1=rows.length-i by omega]
  rw[fO] at hl
  refine⟨cl,ys,_,rfl,rfl,s3 _ _ ha2,AG (by omega),?_⟩
  refine⟨_,ys++[.ref l],rfl,AJ (s2.trans s3) bE _,upd_same,fun y hy=>?_,?_⟩
  ·rcases List.mem_append.mp hy with z | z
   ·exact ho y z
   ·rw[List.mem_singleton.mp z]
    exact fun q=>nl (V.ref.inj q)
  ·rw[zD,zAM]
   refine rows_rev.rows_add ⟨l,rfl,?_⟩ (Dp hy2 ho fun p' aA n' h'=>?_)
   ·show upd _ _ _ l=_
    rw[Ax nl]
    exact hl
   ·show upd _ _ _ p'=_
    rw[Ax n']
    exact s3 _ _ h'
 ·rintro σ H2 ⟨v0,ys,rfl,s2,ha2,ho,hy2⟩
  refine⟨_,rfl,.inl ⟨rfl,_,SqL.of ha2⟩,cl,ys,rfl,rfl,ha2,?_⟩
  refine⟨_,rfl,q cl _ _ (AJ s2 bE _) bE upd_same ?_⟩
  unfold Hh
  rw[gZ] at hy2
  refine Dp (rows_rev hy2) (fun y hy=>ho y (List.mem_reverse.mp hy)) fun p' aA n' h'=>?_
  show upd _ _ _ p'=_
  rw[Ax n']
  exact h'
end
abbrev Em:Stmt:=Bu 40
def BT(aa room:List Int):List Int->Nat->List (List Int)->List Nat
 | _,_,[]=>[]
 | c,i,r::rs=>if ((Fk c (AV room rs)).all fun k=>decide (k∈aa))=true then BT aa room c (i+1) rs else i::BT aa room (Fk c r) (i+1) rs
theorem Gs(aa room c r:List Int)(i:Nat)(rs:List (List Int)):BT aa room c i (r::rs)=if ((Fk c (AV room rs)).all fun k=>decide (k∈aa))=true then BT aa room c (i+1) rs else i::BT aa room (Fk c r) (i+1) rs:=rfl
def B6(aa room:List Int)(rows:List (List Int)):List Nat:=BT aa room room 0 rows
def Kb(K:PySem.W.Frag):Sp:=fun vs H Q _=>∃(rl rm tg:Addr)(room aa:List Int)(xs:List V)(rows:List (List Int)),vs=[.ref rl,.ref rm,.ref tg]/\AM H rm room/\Wr room/\H rl=some (.lst xs)/\RowsAt H xs rows/\(∀r∈rows,r.length<=900)/\rows.length<=900/\SqL K H tg (aa.map V.int)/\aa.length<=900/\
 ∀(l:Addr)(H':Hp),Same H H'->H l=none->H' l=some (.lst ((B6 aa room rows).map fun p=>V.int (p:Nat)))->Q (.ref l) H'
section
theorem scNeeded:Ao ["rows","room","target","behind","needed","common","at","row"] ["rows","room","target"] (Ad Em):=Bt
theorem N5(F:Fun K "needed_rows" "needed_rows" Em f fd)(HE:mg "enumerate"=none)(GC:FnOk P w K mg bz AH 2 g1 d1 ["rows","room"] (Ko K))(CC:AL K mg "common_behind" g1 d1 ["rows","room"])(GA:FnOk P w K mg bz AH 2 g2 d2 ["one","other"] (Hm K))(CA:AL K mg "all_within" g2 d2 ["one","other"])(GB:FnOk P w K mg bz AH 1 g3 d3 ["one","other"] (EO K))(CB:AL K mg "in_both" g3 d3 ["one","other"]):FnOk P w K mg bz AH 4 f fd ["rows","room","target"] (Kb K):=by
 refine F.ok scNeeded (fun vs H Q E h=>?_) (fun ai A outer s H vs Q E hr h=>?_)
 ·obtain⟨rl,rm,tg,room,aa,xs,rows,rfl,_⟩:=h
  rfl
 obtain⟨rl,rm,tg,room,aa,xs,rows,rfl,cj,wr,hX,hR,aM,ag,hT,htl,q⟩:=h
 have ak:Room 1 _:=hr.mono (by decide)
 have aE:Room 2 _:=hr.mono (by decide)
 have gZ:=hR.len
 refine⟨_,Ac (Ar (i:=3) scNeeded.nd rfl (Or.inl rfl) (Ah GC aE (by rfl) CC.m CC.k CC.b .nil Ak (Aa (pv 0) (Aa (pv 1) Ab))))
  (Ac (Ar (i:=4) scNeeded.nd rfl (Or.inl rfl) (AI Ab))
  (Ac (Ar (i:=5) scNeeded.nd rfl (Or.inl rfl) (pv 1))
  (Ac (Bz zAW rfl (Ie (by rfl) HE (Aa (pv 0) Ab)) (EQ rfl (Bf (AC (i:=6) scNeeded.nd rfl (Or.inl rfl)) (Bf (AC (i:=7) scNeeded.nd rfl (Or.inl rfl)) Dw)))
   (Ae (AB (BO (Bg (Ah GA aE (by rfl) CA.m CA.k CA.b .nil Ak (Aa (Ah GB ak (by rfl) CB.m CB.k CB.b .nil Ak (Aa (pv 5) (Aa (AD AK (pv 3) (Au Ch (pv 6) Ag) (fun _ _=>rfl)) Ab))) (Aa (pv 2) Ab)))))
    (Ac (AW (B1 zAD zAK zAL A4 (pv 4) (Aa (pv 6) Ab)))
    (Ae (Ar (i:=5) scNeeded.nd rfl (Or.inl rfl) (Ah GB ak (by rfl) CB.m CB.k CB.b .nil Ak (Aa (pv 5) (Aa (pv 7) Ab))))))
    Ap)))
  (Ae (Ai (pv 4)))))),?_⟩
 refine⟨_,rfl,_,rfl,rl,rm,room,xs,rows,rfl,cj,wr,SqL.of hX,hR,aM,ag,fun bl bys H1 s1 bl0 jx hBR=>?_⟩
 refine⟨J1,fun nl fU=>?_⟩
 have hnl0:H nl=none:=s1.free fU
 have c2:Same H1 (BA [nl] (upd H1 nl (.lst []))):=fun b o e=>Bw ((Af fU (.lst [])) _ _ e) fun z=>by
  rw[List.mem_singleton.mp z,fU] at e
  cases e
 have nl2:upd H1 nl (.lst []) nl=some (.lst []):=upd_same
 generalize upd H1 nl _=H2 at *
 have back:∀{H':Hp},Same H1 (BA [nl] H')->∀{l:Addr},H' l=none->H l=none:=fun {H'} k {l} hl=>(s1.trans (k.trans cut_same)).free hl
 refine⟨_,rfl,?_⟩
 refine⟨_,rfl,rl,_,rfl,cut_same _ _ (c2 _ _ (s1 _ _ hX)),FA (a:=rl) (xs:=xs) (fun i σ H3=>∃(v0 v1:Option V)(cm:Addr)(c:List Int)(nd:List Nat),σ=[some (.ref rl),some (.ref rm),some (.ref tg),some (.ref bl),some (.ref nl),some (.ref cm),v0,v1]/\Same H1 (BA [nl] H3)/\H3 nl=some (.lst (nd.map fun p=>V.int (p:Nat)))/\AM (BA [nl] H3) cm c/\c.Sublist room/\B6 aa room rows=nd++BT aa room c i (rows.drop i)/\nd.length<=i) ?_ ?_ ?_ ?_⟩
 ·exact⟨_,_,rm,room,[],rfl,c2,nl2,c2 _ _ (s1 _ _ cj),zBA _,rfl,zAA _⟩
 ·rintro i σ H3 _ ⟨v0,v1,cm,c,nd,rfl,c3,_⟩
  exact cut_same _ _ (c3 _ _ (s1 _ _ hX))
 ·rintro i y T2 σ H3 hy je ⟨v0,v1,cm,c,nd,rfl,c3,gY,hcm,ax,hneed,hnd⟩
  have hi:i<rows.length:=by
   have:=(List.getElem?_eq_some_iff.mp hy).1
   omega
  obtain⟨row,p,hrow,rfl,hp⟩:=hR.get hy
  have iX:rows[i]=row:=(List.getElem?_eq_some_iff.mp hrow).2
  rw[zBK hi,iX,Gs] at hneed
  have sT:=Af je (.tup [.int (i:Nat),.ref p])
  have T2t:upd H3 T2 (.tup [.int (i:Nat),.ref p]) T2=_:=upd_same
  generalize upd H3 T2 _=H4 at *
  have d34:Same (BA [nl] H3) (BA [nl] H4):=AU sT
  have wc:=wr.sub ax
  have lc:=wc.len
  refine⟨T2,_,rfl,SqT.of T2t,rfl,_,_,rfl,_,_,rfl,rfl,?_⟩
  obtain⟨bp,hbp,hbrow⟩:=D1 ((hBR.keep c3).keep d34) (Oq (room:=room) (rows:=rows) (i:=i+1) (by omega))
  have c4:=c3.trans d34
  refine⟨_,rfl,_,rfl,_,rfl,_,_,rfl,rfl,bl,_,_,_,rfl,rfl,SqL.of (cut_same _ _ (c4 _ _ jx)),Aj hbp,cm,bp,c,_,rfl,SqL.of (cut_same _ _ (d34 _ _ hcm)),SqL.of (cut_same _ _ hbrow),by omega,zAH (wr.sub (Hg _ _)).len (by decide),fun l1 H5 ns s5 l10 dm hmem aJ=>?_⟩
  have fO:=EN wc dm hmem
  have wns:Wr ns:=by rw[fO];exact wc.sub zAO
  have d45:Same (BA [nl] H4) (BA [nl] H5):=AU s5
  refine⟨_,rfl,l1,tg,ns,aa,rfl,SqL.of aJ,((s1.trans (c4.trans d45)).trans cut_same).seq hT,wns.len,wns.2,htl,fun H6 s6=>⟨_,rfl,?_⟩⟩
  have d46:=d45.trans (AU (M:=[nl]) s6)
  have jC:=(sT.trans (s5.trans s6)) _ _ gY
  rw[fO]
  by_cases cc:((Fk c (AV room (rows.drop (i+1)))).all fun k=>decide (k∈aa))=true
  ·rw[if_pos cc] at hneed
   rw[cc]
   refine A7 ?_
   exact⟨_,_,cm,c,nd,rfl,c4.trans d46,jC,(d34.trans d46) _ _ hcm,ax,hneed,by omega⟩
  ·rw[if_neg cc] at hneed
   rw[Bool.not_eq_true] at cc
   rw[cc]
   refine Bh ?_
   refine⟨_,rfl,.inl ⟨rfl,_,SqL.of jC⟩,_,rfl,nl,_,_,rfl,rfl,jC,AG (by rw[List.length_map];omega),?_⟩
   have d67:Same (BA [nl] H6) (BA [nl] (upd H6 nl (.lst ((nd.map fun p=>V.int (p:Nat))++[.int (i:Nat)])))):=But.upd (by simp)
   have hn7:upd H6 nl (.lst ((nd.map fun p=>V.int (p:Nat))++[.int (i:Nat)])) nl=some (.lst ((nd++[i]).map fun p=>V.int (p:Nat))):=by rw[upd_same,zAM];rfl
   generalize upd H6 nl _=H7 at *
   have d37:=d34.trans (d46.trans d67)
   have c7:=c3.trans d37
   refine⟨_,rfl,_,rfl,cm,p,c,row,rfl,SqL.of (cut_same _ _ (d37 _ _ hcm)),SqL.of (cut_same _ _ (c7 _ _ (s1 _ _ hp))),by omega,aM row (zAQ hrow),fun l2 H8 ns2 s8 l20 eJ bU aC=>?_⟩
   have eK:=EN wc eJ bU
   rw[eK] at aC
   have d78:Same (BA [nl] H7) (BA [nl] H8):=AU s8
   have l2n:l2∉[nl]:=fun z=>by
    rw[List.mem_singleton.mp z,hn7] at l20
    cases l20
   exact⟨_,_,l2,Fk c row,nd++[i],rfl,c7.trans d78,s8 _ _ hn7,Bw aC l2n,(zAO (l:=c)).trans ax,by rw[zCF];exact hneed,by rw[zA];show nd.length+1<=i+1;omega⟩
 ·rintro σ H3 ⟨v0,v1,cm,c,nd,rfl,c3,gY,hcm,ax,hneed,hnd⟩
  rw[gZ,zCL] at hneed
  have e:B6 aa room rows=nd:=by rw[hneed];unfold BT;simp
  rw[<-e] at gY
  exact⟨_,rfl,q nl H3 (s1.trans (c3.trans cut_same)) hnl0 gY⟩
end
def PJ(k:Int)(e:Tr×Str):Bool:=if e.2="grant" then tv e.1 k else if e.2="deny" then !tv e.1 k else true
def JI(k:Int)(es:List (Tr×Str)):Bool:=es.all (PJ k)
theorem mem_leftT:k∈Cj z g t↔k∈g/\PJ k (t,z)=true:=by
 unfold Cj PJ
 by_cases c:z="grant"
 ·rw[if_pos c,if_pos (show (t,z).2="grant" from c),mem_ins]
 rw[if_neg c,if_neg (show ¬(t,z).2="grant" from c)]
 by_cases c2:z="deny"
 ·rw[if_pos c2,if_pos (show (t,z).2="deny" from c2),mem_ins]
  show k∈g/\tv t k=false↔k∈g/\(!tv t k)=true
  rw[Bool.not_eq_true']
 ·rw[if_neg c2,if_neg (show ¬(t,z).2="deny" from c2)]
  exact⟨fun h=>⟨h,rfl⟩,fun h=>h.1⟩
def EI(g:List Int)(es:List (Tr×Str)):List Int:=es.foldl (fun g e=>Cj e.2 g e.1) g
theorem M9(g:List Int)(es:List (Tr×Str))(e:Tr×Str):EI g (es++[e])=Cj e.2 (EI g es) e.1:=by
 unfold EI
 rw[List.foldl_append]
 rfl
theorem IT:∀(es:List (Tr×Str))(g:List Int),(EI g es).Sublist g
 | [],g=>zBA _
 | e::es,g=>(IT es (Cj e.2 g e.1)).trans (IS _ _ _)
theorem Kk:∀(es:List (Tr×Str))(g:List Int)(k:Int),k∈EI g es↔k∈g/\JI k es=true
 | [],g,k=>⟨fun h=>⟨h,rfl⟩,fun h=>h.1⟩
 | e::es,g,k=>by
  show k∈EI (Cj e.2 g e.1) es↔_
  rw[Kk es,mem_leftT]
  unfold JI
  rw[zB5,zAN]
  exact⟨fun h=>⟨h.1.1,h.1.2,h.2⟩,fun h=>⟨⟨h.1,h.2.1⟩,h.2.2⟩⟩
theorem I8(h:k∈room):(∀r∈Be room es,k∈r)↔JI k es=true:=by
 unfold Be JI
 rw[zA0]
 exact⟨fun q e he=>(mem_leftT.mp (q _ (List.mem_map.mpr ⟨e,he,rfl⟩))).2,fun q r hr=>by
  obtain⟨e,he,rfl⟩:=List.mem_map.mp hr
  exact mem_leftT.mpr ⟨h,q e he⟩⟩
theorem O5(wr:Wr room)(hb:aB.Sublist room):EI aB es=AV room (aB::Be room es):=by
 refine DJ ((wr.sub hb).1.sublist (IT es aB)) (wr.1.sublist (Hg _ _)) fun k=>?_
 rw[Kk,mem_com]
 constructor
 ·rintro⟨h1,h2⟩
  refine⟨hb.subset h1,fun r hr=>?_⟩
  rcases List.mem_cons.mp hr with rfl | hr
  ·exact h1
  ·exact (I8 (hb.subset h1)).mpr h2 r hr
 ·rintro⟨h1,h2⟩
  exact⟨h2 aB List.mem_cons_self,(I8 h1).mp fun r hr=>h2 r (List.mem_cons_of_mem _ hr)⟩
abbrev Ft:Stmt:=Bu 38
abbrev EC:Stmt:=Bu 43
abbrev Dr:Stmt:=Bu 44
def AT(W:Ta):List (List Int):=if W.rule="newer" then[W.base] else W.base::Be W.room (W.ents.map fun e=>(e.2.1,e.2.2))
theorem Nv(h:TalkAt M C H a U W):(∀r∈AT W,r.Sublist W.room)/\(AT W).length<=901:=by
 have hl:∀r∈Be W.room (W.ents.map fun e=>(e.2.1,e.2.2)),r.Sublist W.room:=fun r hr=>by
  obtain⟨e,_,rfl⟩:=List.mem_map.mp hr
  exact IS _ _ _
 unfold AT
 split
 ·refine⟨fun r hr=>?_,by simp⟩
  rw[List.mem_singleton.mp hr]
  exact h.wl _ h.base_in
 ·refine⟨fun r hr=>?_,?_⟩
  ·rcases List.mem_cons.mp hr with rfl | hr
   ·exact h.wl _ h.base_in
   ·exact hl r hr
  ·rw[zAI]
   unfold Be
   rw[List.length_map,List.length_map]
   have:=h.e9
   omega
def BE(sides:List (List Int))(going seen aH:List Int)(one other:Int):List V:=match Il sides going seen aH with
 | none=>[.str "free",.int one,.int other]
 | some i=>[.str "barred",.int one,.int other,.int (i:Nat)]
def JE(C:Addr):Sp:=fun vs H Q _=>∃(a:Addr)(M:List Addr)(U:Tk)(W:Ta),vs=[.ref a]/\TalkAt M C H a U W/\(∀e∈W.ents,e.2.1.ok 5/\e.2.1.size<=800)/\∀(l:Addr)(xs:List V)(H':Hp),Same H H'->H l=none->H' l=some (.lst xs)->RowsAt H' xs (AT W)->Q (.ref l) H'
def HU(K:PySem.W.Frag)(C:Addr):Sp:=fun vs H Q _=>∃(a sn il:Addr)(one other:Int)(M:List Addr)(U:Tk)(W:Ta)(seen aH:List Int),vs=[.ref a,.ref sn,.ref il,.int one,.int other]/\TalkAt M C H a U W/\SqL K H sn (seen.map V.int)/\Wr seen/\seen≠[]/\SqL K H il (aH.map V.int)/\Wr aH/\
 ∀(p:Addr)(H':Hp),Same H H'->H p=none->H' p=some (.tup (BE W.sides W.going seen aH one other))->Q (.ref p) H'
def IJ(K:PySem.W.Frag)(C cS cO:Addr):Sp:=fun vs H Q E=>∃(a sn:Addr)(v:V)(M:List Addr)(U:Tk)(W:Ta)(t:Tr)(seen:List Int),vs=[.ref a,v,.ref sn]/\TalkAt M C H a U W/\(∀e∈W.ents,e.2.1.ok 5/\e.2.1.size<=800)/\t.At H v/\t.ok 5/\t.size<=60/\SqL K H sn (seen.map V.int)/\Wr seen/\seen≠[]/\W.ents.length<900/\
 (W.ended=true->E (.ref cO) none H)/\(W.ended=false->¬t.ok W.many->∀H',Same H H'->E (.ref cS) none H')/\
 (W.ended=false->t.ok W.many->AA false t W.going=[]->∀(p l:Addr)(H':Hp),Same H H'->H p=none->H l=none->H' p=some (.tup [.str "follows",.ref l])->H' l=some (.lst ((B6 (AA true t W.room) W.room (AT W)).map fun p=>V.int (p:Nat)))->Q (.ref p) H')/\
 (W.ended=false->t.ok W.many->AA false t W.going≠[]->AA true t W.going=[]->∀(p l:Addr)(H':Hp),Same H H'->H p=none->H l=none->H' p=some (.tup [.str "contrary",.ref l])->H' l=some (.lst ((B6 (AA false t W.room) W.room (AT W)).map fun p=>V.int (p:Nat)))->Q (.ref p) H')/\
 (W.ended=false->t.ok W.many->∀(one other:Int)(ins bg:List Int),AA true t W.going=one::ins->AA false t W.going=other::bg->∀(p:Addr)(H':Hp),Same H H'->H p=none->H' p=some (.tup (BE W.sides W.going seen (AA true t W.room) one other))->Q (.ref p) H')
theorem Tn:4<=sizeLine:=by decide
section
variable {cK cS cO:Addr}
theorem Rq:Ao ["talk"] ["talk"] (Ad Ft):=Bt
theorem Pq(F:Fun K "open_places" "open_places" Ft f fd)(TX:J0 K cK)(GW:FnOk P w K mg bz AH 4 g1 d1 ["room","row"] (MH K))(CW:AL K mg "worlds_left" g1 d1 ["room","row"])(G1:FnOk P w K mg bz AH 1 m1 e1 ["self"] (JV cK))(C1:BY K cK "base" m1 e1 ["self"])(G2:FnOk P w K mg bz AH 1 m2 e2 ["self"] (Hi cK))(C2:BY K cK "room" m2 e2 ["self"])(G3:FnOk P w K mg bz AH 1 m3 e3 ["self"] (ER cK))(C3:BY K cK "entries" m3 e3 ["self"]):FnOk P w K mg bz AH 5 f fd ["talk"] (JE cK):=by
 refine F.ok Rq (fun vs H Q E h=>?_) (fun ai A outer s H vs Q E hr h=>?_)
 ·obtain⟨a,M,U,W,rfl,_⟩:=h
  rfl
 obtain⟨a,M,U,W,rfl,hT,hok,q⟩:=h
 have ak:Room 1 _:=hr.mono (by decide)
 have dq:Room 4 _:=hr.mono (by decide)
 refine⟨_,Ac (AB (Al AQ (Bp (pv 0) rfl) Av (As _))
   (Ae (Ai (AI (Aa (A0 (pv 0) TX.cl C1.m G1 ak C1.b .nil Ak) Ab))))
   Ap)
  (Ae (Ai (Au FT (AI (Aa (A0 (pv 0) TX.cl C1.m G1 ak C1.b .nil Ak) Ab)) (Ah GW dq (by rfl) CW.m CW.k CW.b .nil Ak (Aa (A0 (pv 0) TX.cl C2.m G2 ak C2.b .nil Ak) (Aa (A0 (pv 0) TX.cl C3.m G3 ak C3.b .nil Ak) Ab)))))),?_⟩
 refine⟨_,rfl,a,cK,_,_,_,rfl,hT.ob,TX.cl,TX.rule,JD,rfl,_,rfl,?_⟩
 unfold AT at q
 by_cases c:W.rule="newer"
 ·rw[if_pos c] at q
  refine Bd (by rw[c]) ?_
  refine⟨_,rfl,a,_,_,rfl,hT.ob,Jg,a,M,U,W,rfl,hT,fun bl H1 s1 bl0 jx=>?_⟩
  refine⟨Jq,fun l hl=>?_⟩
  have s2:=Af hl (.lst [.ref bl])
  exact q l _ _ (s1.trans s2) (s1.free hl) upd_same (.cons ⟨bl,rfl,s2 _ _ jx⟩ .nil)
 ·rw[if_neg c] at q
  refine A6 (fun z=>c (by injection z)) ?_
  refine⟨_,rfl,a,_,_,rfl,hT.ob,Jg,a,M,U,W,rfl,hT,fun bl H1 s1 bl0 jx=>?_⟩
  refine⟨Jq,fun l hl=>?_⟩
  have s2:=Af hl (.lst [.ref bl])
  have aC:upd H1 l (.lst [.ref bl]) l=some (.lst [.ref bl]):=upd_same
  generalize upd H1 l _=H2 at *
  have t2:=s1.trans s2
  have T2:=hT.keep t2
  refine⟨_,rfl,a,_,_,rfl,T2.ob,Jt,a,M,U,W,rfl,T2,fun r1 H3 s3 r10 hr1'=>?_⟩
  have T3:=T2.keep s3
  refine⟨_,rfl,a,_,_,rfl,T3.ob,DH,a,M,U,W,rfl,T3,fun k2 H4 s4 k20 gy=>?_⟩
  have hE:=PairsAt.keep s4 (EK (T3.en.keep cut_same))
  refine⟨r1,k2,W.room,_,_,rfl,SqL.of (s4 _ _ hr1'),hT.wr,SqL.of gy,hE,fun e he=>by
   obtain⟨e0,h0,rfl⟩:=List.mem_map.mp he
   exact hok e0 h0,by rw[List.length_map];exact hT.e9,fun ll lxs H5 s5 ll0 hll hLR=>?_⟩
  have iY:=s3.trans (s4.trans s5)
  refine⟨l,ll,_,_,rfl,rfl,iY _ _ aC,hll,?_,fun p hp=>?_⟩
  ·have h1:=hLR.len
   have h2:=hT.e9
   unfold Be at h1
   rw[List.length_map,List.length_map] at h1
   rw[h1]
   exact zBQ (AG (by show 1+W.ents.length<=1000;omega))
  ·have s6:=Af hp (.lst ([.ref bl]++lxs))
   refine q p _ _ (t2.trans (iY.trans s6)) ((t2.trans iY).free hp) upd_same ?_
   exact .cons ⟨bl,rfl,(s2.trans (iY.trans s6)) _ _ jx⟩ (hLR.keep s6)
theorem scWPaper:Ao ["talk","seen","inside","one","other","side"] ["talk","seen","inside","one","other"] (Ad EC):=Bt
theorem Os(F:Fun K "worlds_paper" "worlds_paper" EC f fd)(TX:J0 K cK)(GB:FnOk P w K mg bz AH 4 g1 d1 ["sides","going","seen","worlds"] (Fz K))(CB:AL K mg "barring_side" g1 d1 ["sides","going","seen","worlds"])(G1:FnOk P w K mg bz AH 1 m1 e1 ["self"] (KP cK))(C1:BY K cK "sides" m1 e1 ["self"])(G2:FnOk P w K mg bz AH 2 m2 e2 ["self"] (DZ cK))(C2:BY K cK "going" m2 e2 ["self"]):FnOk P w K mg bz AH 5 f fd ["talk","seen","inside","one","other"] (HU K cK):=by
 refine F.ok scWPaper (fun vs H Q E h=>?_) (fun ai A outer s H vs Q E hr h=>?_)
 ·obtain⟨a,sn,il,one,other,M,U,W,seen,aH,rfl,_⟩:=h
  rfl
 obtain⟨a,sn,il,one,other,M,U,W,seen,aH,rfl,hT,hN,wN,ci,hI,wI,q⟩:=h
 have ak:Room 1 _:=hr.mono (by decide)
 have aE:Room 2 _:=hr.mono (by decide)
 have dq:Room 4 _:=hr.mono (by decide)
 refine⟨_,Ac (Ar (i:=5) scWPaper.nd rfl (Or.inl rfl) (Ah GB dq (by rfl) CB.m CB.k CB.b .nil Ak (Aa (A0 (pv 0) TX.cl C1.m G1 ak C1.b .nil Ak) (Aa (A0 (pv 0) TX.cl C2.m G2 aE C2.b .nil Ak) (Aa (pv 1) (Aa (pv 2) Ab))))))
  (Ac (AB (O1 (Lv (pv 5)))
   (Ae (Ai (Bc (Aa Av (Aa (pv 3) (Aa (pv 4) Ab))))))
   Ap)
  (Ae (Ai (Bc (Aa Av (Aa (pv 3) (Aa (pv 4) (Aa (pv 5) Ab)))))))),?_⟩
 refine⟨_,rfl,a,_,_,rfl,hT.ob,P6,a,M,U,W,rfl,hT,fun l1 xs1 H1 s1 l10 aJ rn1 _=>?_⟩
 have T1:=hT.keep s1
 refine⟨_,rfl,a,_,_,rfl,T1.ob,B5,a,M,U,W,rfl,T1,fun gl H2 s2 gl0 fh=>?_⟩
 have t2:=s1.trans s2
 refine⟨_,rfl,_,rfl,l1,gl,sn,il,xs1,W.sides,W.going,seen,aH,rfl,s2 _ _ aJ,(rn1.at).keep s2,hT.ws,hT.two,SqL.of fh,hT.going_wr,t2.seq hN,wN,ci,t2.seq hI,wI,fun H3 s3=>?_⟩
 have t3:=t2.trans s3
 unfold BE at q
 refine⟨_,rfl,_,rfl,?_⟩
 cases hb:Il W.sides W.going seen aH with
 | none=>
  rw[hb] at q
  refine Bh ?_
  refine⟨_,rfl,_,rfl,K9,fun p hp=>q p _ (t3.trans (Af hp _)) (t3.free hp) upd_same⟩
 | some i=>
  rw[hb] at q
  refine A7 ?_
  refine⟨_,rfl,_,rfl,_,rfl,Tn,fun p hp=>q p _ (t3.trans (Af hp _)) (t3.free hp) upd_same⟩
theorem scPaperOf:Ao ["talk","sentence","seen","room","inside","going_inside","going_outside"] ["talk","sentence","seen"] (Ad Dr):=Bt
theorem Lc(F:Fun K "paper_of" "paper_of" Dr f fd)(TX:J0 K cK)(GO:FnOk P w K mg bz (Gd P w) 2 g1 d1 ["talk"] (D9 cK cO))(CO:AL K mg "refuse_over" g1 d1 ["talk"])(GR:FnOk P w K mg bz (Gd P w) 3 g2 d2 ["sentence","many"] (DR cS))(CR:AL K mg "refuse_strange" g2 d2 ["sentence","many"])(GW:FnOk P w K mg bz AH 3 g3 d3 ["sentence","room"] (BB K))(CW:AL K mg "worlds_of" g3 d3 ["sentence","room"])(GB:FnOk P w K mg bz AH 1 g4 d4 ["one","other"] (EO K))(CB:AL K mg "in_both" g4 d4 ["one","other"])(GF:FnOk P w K mg bz AH 1 g5 d5 ["one","other"] (Dy K))(CF:AL K mg "in_first_only" g5 d5 ["one","other"])(GN:FnOk P w K mg bz AH 4 g6 d6 ["rows","room","target"] (Kb K))(CN:AL K mg "needed_rows" g6 d6 ["rows","room","target"])(GP:FnOk P w K mg bz AH 5 g7 d7 ["talk"] (JE cK))(CP:AL K mg "open_places" g7 d7 ["talk"])(GX:FnOk P w K mg bz AH 5 g8 d8 ["talk","seen","inside","one","other"] (HU K cK))(CX:AL K mg "worlds_paper" g8 d8 ["talk","seen","inside","one","other"])(G1:FnOk P w K mg bz AH 1 m1 e1 ["self"] (Hi cK))(C1:BY K cK "room" m1 e1 ["self"])(G2:FnOk P w K mg bz AH 2 m2 e2 ["self"] (DZ cK))(C2:BY K cK "going" m2 e2 ["self"]):FnOk P w K mg bz (Gd P w) 6 f fd ["talk","sentence","seen"] (IJ K cK cS cO):=by
 refine Fun.okX F scPaperOf (fun vs H Q E h=>?_) (fun ai A outer s H vs Q E hr h=>?_)
 ·obtain⟨a,sn,v,M,U,W,t,seen,rfl,_⟩:=h
  rfl
 obtain⟨a,sn,v,M,U,W,t,seen,rfl,hT,hok,ha,bL,aw,hN,wN,ci,h9,qO,qS,qF,qC,qW⟩:=h
 have ak:Room 1 _:=hr.mono (by decide)
 have aE:Room 2 _:=hr.mono (by decide)
 have ba:Room 3 _:=hr.mono (by decide)
 have dq:Room 4 _:=hr.mono (by decide)
 have iV:Room 5 _:=hr.mono (by decide)
 refine⟨_,Ac (AW (Ah GO aE (by rfl) CO.m CO.k CO.b .nil (BN (E1:=E) fun _ _ _ h=>h) (Aa (pv 0) Ab)))
  (Ac (AW (Ah GR ba (by rfl) CR.m CR.k CR.b .nil (BN (E1:=E) fun _ _ _ h=>h) (Aa (pv 1) (Aa (Bp (pv 0) rfl) Ab))))
  (Ac (Ar (i:=3) scPaperOf.nd rfl (Or.inl rfl) (A0 (pv 0) TX.cl C1.m G1 ak C1.b .nil Ak))
  (Ac (Ar (i:=4) scPaperOf.nd rfl (Or.inl rfl) (Ah GW ba (by rfl) CW.m CW.k CW.b .nil Ak (Aa (pv 1) (Aa (pv 3) Ab))))
  (Ac (Ar (i:=5) scPaperOf.nd rfl (Or.inl rfl) (Ah GB ak (by rfl) CB.m CB.k CB.b .nil Ak (Aa (A0 (pv 0) TX.cl C2.m G2 aE C2.b .nil Ak) (Aa (pv 4) Ab))))
  (Ac (Ar (i:=6) scPaperOf.nd rfl (Or.inl rfl) (Ah GF ak (by rfl) CF.m CF.k CF.b .nil Ak (Aa (A0 (pv 0) TX.cl C2.m G2 aE C2.b .nil Ak) (Aa (pv 4) Ab))))
  (Ac (AB (BO (D4 (pv 6) (fun _=>rfl)))
   (Ae (Ai (Bc (Aa Av (Aa (Ah GN dq (by rfl) CN.m CN.k CN.b .nil Ak (Aa (Ah GP iV (by rfl) CP.m CP.k CP.b .nil Ak (Aa (pv 0) Ab)) (Aa (pv 3) (Aa (pv 4) Ab)))) Ab)))))
   Ap)
  (Ac (AB (BO (D4 (pv 5) (fun _=>rfl)))
   (Ae (Ai (Bc (Aa Av (Aa (Ah GN dq (by rfl) CN.m CN.k CN.b .nil Ak (Aa (Ah GP iV (by rfl) CP.m CP.k CP.b .nil Ak (Aa (pv 0) Ab)) (Aa (pv 3) (Aa (Ah GF ak (by rfl) CF.m CF.k CF.b .nil Ak (Aa (pv 3) (Aa (pv 4) Ab))) Ab)))) Ab)))))
   Ap)
  (Ae (Ai (Ah GX iV (by rfl) CX.m CX.k CX.b .nil Ak (Aa (pv 0) (Aa (pv 2) (Aa (pv 4) (Aa (AD AK (pv 5) Ag (fun _ _=>rfl)) (Aa (AD AK (pv 6) Ag (fun _ _=>rfl)) Ab))))))))))))))),?_⟩
 refine⟨_,rfl,a,M,U,W,rfl,hT,qO,fun he=>?_⟩
 refine⟨_,rfl,_,rfl,a,cK,_,_,_,rfl,hT.ob,TX.cl,TX.many,JS,v,t,W.many,rfl,ha,bL,aw,qS he,fun aG H1 s1=>?_⟩
 have qF:=qF he aG
 have qC:=qC he aG
 have qW:=qW he aG
 have T1:=hT.keep s1
 refine⟨_,rfl,a,_,_,rfl,T1.ob,Jt,a,M,U,W,rfl,T1,fun rm H2 s2 rm0 cj=>?_⟩
 have t2:=s1.trans s2
 refine⟨_,rfl,_,rfl,v,t,rm,W.room,rfl,ha.keep (TS.same t2),bL,by omega,SqL.of cj,hT.wr,fun il H3 s3 il0 aZ=>?_⟩
 have aZ:AM H3 il (AA true t W.room):=aZ
 have wil:Wr (AA true t W.room):=Ei hT.wr
 have lil:=wil.len
 have t3:=t2.trans s3
 have T3:=hT.keep t3
 have bM:=hT.going_sub
 have wg:=hT.going_wr
 have lg:=wg.len
 refine⟨_,rfl,a,_,_,rfl,T3.ob,B5,a,M,U,W,rfl,T3,fun gl H4 s4 gl0 fh=>?_⟩
 refine⟨_,rfl,gl,il,W.going,_,rfl,SqL.of fh,SqL.of (s4 _ _ aZ),by omega,by omega,fun gi H5 ns s5 gi0 dm hmem jF=>?_⟩
 have fO:ns=AA true t W.going:=(EN wg dm hmem).trans (HL bM)
 rw[fO] at jF
 have t5:=t3.trans (s4.trans s5)
 have T5:=hT.keep t5
 refine⟨_,rfl,a,_,_,rfl,T5.ob,B5,a,M,U,W,rfl,T5,fun gl2 H6 s6 gl20 hJ=>?_⟩
 have s36:=s4.trans (s5.trans s6)
 refine⟨_,rfl,gl2,il,W.going,_,rfl,SqL.of hJ,SqL.of (s36 _ _ aZ),lg,wg.2,by omega,fun go H7 ns2 s7 go0 eJ bU gb=>?_⟩
 have eK:ns2=AA false t W.going:=(DC wg eJ bU).trans (DE bM)
 rw[eK] at gb
 have t7:=t5.trans (s6.trans s7)
 have T7:=hT.keep t7
 have s37:=s36.trans s7
 have hrm7:=(s3.trans s37) _ _ cj
 have hil7:=s37 _ _ aZ
 have hgi7:=(s6.trans s7) _ _ jF
 obtain⟨pw,pl⟩:=Nv hT
 have pl9:(AT W).length<=900:=by
  unfold AT
  split
  ·simp
  ·rw[zAI]
   unfold Be
   rw[List.length_map,List.length_map]
   omega
 have pw9:∀r∈AT W,r.length<=900:=fun r hr'=>zAH (hT.wr.sub (pw r hr')).len (by decide)
 refine⟨_,rfl,_,.inl ⟨_,SqL.of gb,rfl⟩,?_⟩
 cases hO:AA false t W.going with
 | nil=>
  refine Bh ?_
  refine⟨_,rfl,a,M,U,W,rfl,T7,hok,fun ol oxs H8 s8 ol0 bK hoR=>?_⟩
  refine⟨_,rfl,_,rfl,ol,rm,il,W.room,_,oxs,_,rfl,s8 _ _ hrm7,hT.wr,bK,hoR,pw9,pl9,SqL.of (s8 _ _ hil7),by omega,fun nl H9 s9 nl0 fU=>?_⟩
  have t9:=t7.trans (s8.trans s9)
  refine⟨Ig,fun p hp=>?_⟩
  have eA:=Af hp (.tup [.str "follows",.ref nl])
  exact qF hO p nl _ (t9.trans eA) (t9.free hp) ((t7.trans s8).free nl0) upd_same (eA _ _ fU)
 | cons other bg=>
  refine A7 ?_
  refine⟨_,rfl,_,.inl ⟨_,SqL.of hgi7,rfl⟩,?_⟩
  cases hI:AA true t W.going with
  | nil=>
   refine Bh ?_
   refine⟨_,rfl,a,M,U,W,rfl,T7,hok,fun ol oxs H8 s8 ol0 bK hoR=>?_⟩
   refine⟨_,rfl,_,rfl,_,rfl,rm,il,W.room,_,rfl,SqL.of (s8 _ _ hrm7),SqL.of (s8 _ _ hil7),hT.wr.len,hT.wr.2,by omega,fun fl H9 ns3 s9 eL hup3 hV bC=>?_⟩
   have ens3:ns3=AA false t W.room:=(DC hT.wr hup3 hV).trans (DE (zBA _))
   rw[ens3] at bC
   have lfl:=(Ei (b:=false) (t:=t) hT.wr).len
   refine⟨ol,rm,fl,W.room,_,oxs,_,rfl,(s8.trans s9) _ _ hrm7,hT.wr,s9 _ _ bK,hoR.keep s9,pw9,pl9,SqL.of bC,by omega,fun nl gB eA nl0 fU=>?_⟩
   have t9:=t7.trans (s8.trans s9)
   have t10:=t9.trans eA
   refine⟨Ig,fun p hp=>?_⟩
   have ez:=Af hp (.tup [.str "contrary",.ref nl])
   exact qC (by rw[hO];simp) hI p nl _ (t10.trans ez) (t10.free hp) (t9.free nl0) upd_same (ez _ _ fU)
  | cons one ins=>
   refine A7 ?_
   rw[hI] at hgi7
   rw[hO] at gb
   refine⟨_,rfl,_,rfl,_,rfl,_,rfl,gi,_,_,_,rfl,rfl,SqL.of hgi7,Aj (j:=0) rfl,_,rfl,go,_,_,_,rfl,rfl,SqL.of gb,Aj (j:=0) rfl,a,sn,il,one,other,M,U,W,seen,_,rfl,T7,t7.seq hN,wN,ci,SqL.of hil7,wil,fun p H8 s8 hp0 hp=>?_⟩
   exact qW one other ins bg hI hO p _ (t7.trans s8) (t7.free hp0) hp
end
abbrev Dd:Stmt:=Bu 67
def Ir(K:PySem.W.Frag)(C:Addr):Sp:=fun vs H Q _=>∃(x a rm:Addr)(many:Nat)(z rule:Str)(v:V)(t:Tr)(room aB ns:List Int)(N:List Addr)(U:Tk),vs=[.ref x,.ref a,.int many,.ref rm,v]/\N=x::U.gv::U.lf::[]/\TalkAt N C H x U (tw many z rule t room [] aB [])/\SqL K (BA N H) a (ns.map V.int)/\ns.length<=63/\1<=many/\many<=5/\AM (BA N H) rm room/\room≠[]/\t.At (BA N H) v/\t.ok many/\t.size<=20/\
 ∀(U':Tk)(es:List (V×Tr×Str))(ls:List (List Int))(H':Hp),Same (BA N H) (BA N H')->TalkAt N C H' x U' (tw many z rule t room es aB ls)->U'.gv=U.gv->U'.lf=U.lf->ls.length=es.length->es.length<=55->(∀e∈es,e.2.1.ok many/\e.2.1.size<=21)->(tw many z rule t room es aB ls).held=EI aB (es.map fun e=>(e.2.1,e.2.2))->Q (.ref x) H'
theorem MD{K:PySem.W.Frag}(h:SqL K (BA N H) a xs):SqL K H a xs:=cut_same.seq h
theorem FU{x:Addr}{U:Tk}{N:List Addr}{C:Addr}{H:Hp}{U':Tk}{W:Ta}(hN:N=x::U.gv::U.lf::[])(hT:TalkAt N C H x U' W)(eg:U'.gv=U.gv)(el:U'.lf=U.lf):∀m∈N,∃o,H m=some o/\∀ys,o≠.tup ys:=fun m hm=>by
 have g1:=hT.gv
 have g2:=hT.lf
 rw[eg] at g1
 rw[el] at g2
 rw[hN] at hm
 simp only[zAS,zAR,or_false] at hm
 rcases hm with rfl | rfl | rfl
 ·exact⟨_,hT.ob,fun ys z=>by cases z⟩
 ·exact⟨_,g1,fun ys z=>by cases z⟩
 ·exact⟨_,g2,fun ys z=>by cases z⟩
theorem MW(h:∀m∈N,∃o,H m=some o/\∀ys,o≠.tup ys):Full N H:=fun m hm z=>by
 obtain⟨o,e1,_⟩:=h m hm
 rw[z] at e1
 cases e1
theorem OW(h:∀m∈N,∃o,H m=some o/\∀ys,o≠.tup ys):TS H (BA N H):=fun p ys e=>Bw e fun hm=>by
 obtain⟨o,e1,e2⟩:=h p hm
 rw[e] at e1
 cases e1
 exact e2 _ rfl
section
variable {cK cS cO:Addr}
theorem scLdriven:Ao ["_law_talk","_law_script","_law_many","_law_room_here","_law_first","_law_place","_law_asked_here"] ["_law_talk","_law_script","_law_many","_law_room_here","_law_first"] (Ad Dd):=Bt
theorem LP(F:Fun K "_law_driven" "_law_driven" Dd f fd)(TX:J0 K cK)(GA:FnOk P w K mg bz AH 3 fA dA ["_law_script","_law_start_here","_law_many","_law_first"] (Mp K))(CA:AL K mg "_law_asks" fA dA ["_law_script","_law_start_here","_law_many","_law_first"])(GS:FnOk P w K mg bz AH 4 fS dS ["_law_script","_law_k","_law_room_here"] (IB K))(CS:AL K mg "_law_seen_at" fS dS ["_law_script","_law_k","_law_room_here"])(G9:FnOk P w K mg bz (Gd P w) 7 m9 e9 ["self","sentence","seen"] (Qy K cK cS cO))(C9:BY K cK "say" m9 e9 ["self","sentence","seen"]):FnOk P w K mg bz AH 8 f fd ["_law_talk","_law_script","_law_many","_law_room_here","_law_first"] (Ir K cK):=by
 refine F.ok scLdriven (fun vs H Q E h=>?_) (fun ai A outer s H vs Q E hr h=>?_)
 ·obtain⟨x,a,rm,many,z,rule,v,t,room,aB,ns,N,U,rfl,_⟩:=h
  rfl
 obtain⟨x,a,rm,many,z,rule,v,t,room,aB,ns,N,U0,rfl,hN,T0,hS,bx,cu,bI,cj,av,ha,hok,dr,q⟩:=h
 have ba:Room 3 _:=hr.mono (by decide)
 have dq:Room 4 _:=hr.mono (by decide)
 have hr7:Room 7 _:=hr.mono (by decide)
 have aV:Wr room:=T0.wr
 have jA:=aV.len
 refine⟨_,Ac (Ar (i:=5) scLdriven.nd rfl (Or.inl rfl) Ag)
  (Ac (Bz zAW rfl (AS (Ah GA ba (by rfl) CA.m CA.k CA.b .nil Ak (Aa (pv 1) (Aa Ag (Aa (pv 2) (Aa (pv 4) Ab)))))) (AC (i:=6) scLdriven.nd rfl (Or.inl rfl))
   (Ac (AW (Ms (pv 0) TX.cl C9.m G9 hr7 C9.b .nil HR (Aa (pv 6) (Aa (Ah GS dq (by rfl) CS.m CS.k CS.b .nil Ak (Aa (pv 1) (Aa (pv 5) (Aa (pv 3) Ab)))) Ab))))
   (Ae (Ar (i:=5) scLdriven.nd rfl (Or.inl rfl) (Au Ch (pv 5) Ag)))))
  (Ae (Ai (pv 0)))),?_⟩
 refine⟨_,rfl,_,rfl,_,rfl,a,ns,8,many,v,t,rfl,(MD hS),bx,by decide,by decide,cu,bI,ha.keep (TS.same cut_same),hok,dr,fun al iZ ats H1 s1 hal0 gS hA ag=>?_⟩
 have T1:=T0.keep s1
 have f0:=FU hN T0 rfl rfl
 have alN:al∉N:=(MW f0).no hal0
 have al1:BA N H1 al=some (.lst iZ):=Bw gS alN
 have hA1:AskedAt (BA N H1) many iZ ats:=AskedAt.keep (OW (FU hN T1 rfl rfl)) hA
 have c1:Same (BA N H) (BA N H1):=AU s1
 have gvN:U0.gv∈N:=by rw[hN];simp
 have lfN:U0.lf∈N:=by rw[hN];simp
 refine⟨al,rfl,⟨_,SqL.of gS⟩,A1 (K:=K) (a:=al) (xs:=iZ) (fun i σ H9=>∃(v1:Option V)(U:Tk)(es:List (V×Tr×Str))(ls:List (List Int)),σ=[some (.ref x),some (.ref a),some (.int (many:Int)),some (.ref rm),some v,some (.int (8+(i:Nat))),v1]/\
   Same (BA N H1) (BA N H9)/\TalkAt N cK H9 x U (tw many z rule t room es aB ls)/\U.gv=U0.gv/\U.lf=U0.lf/\es.length=i/\ls.length=i/\(∀e∈es,e.2.1.ok many/\e.2.1.size<=21)/\(tw many z rule t room es aB ls).held=EI aB (es.map fun e=>(e.2.1,e.2.2)))
  ⟨_,U0,[],[],rfl,Same.refl _,T1,rfl,rfl,rfl,rfl,fun e he=>by simp at he,rfl⟩ ?_ ?_ ?_⟩
 ·rintro i σ H9 _ ⟨v1,U,es,ls,rfl,s9,_⟩
  exact SqL.of (cut_same _ _ (s9 _ _ al1))
 ·rintro i y σ H9 hy ⟨v1,U,es,ls,rfl,s9,T9,eg,el,les,lls,fF,hhd⟩
  have hi:i<iZ.length:=(List.getElem?_eq_some_iff.mp hy).1
  have full9:=MW (FU hN T9 eg el)
  obtain⟨u,hau,gc,gf⟩:=AskedAt.get (AskedAt.keep (TS.same s9) hA1) hy
  have gh:u.ok 5:=Tr.ok.mono bI gc
  have c9:=c1.trans s9
  refine⟨_,rfl,x,_,_,rfl,T9.ob,SX,_,rfl,_,rfl,_,rfl,_,rfl,a,rm,ns,room,_,rfl,(MD (c9.seq hS)),bx,by omega,by omega,SqL.of (cut_same _ _ (c9 _ _ cj)),by omega,av,fun sn seen gB eA hsn0 iT i0 ci=>?_⟩
  have iy:Same (BA N H9) (BA N gB):=AU eA
  refine⟨x,sn,y,N,U,_,u,seen,rfl,T9.keep eA,full9.keep eA,hau.keep (TS.same iy),gh,by omega,SqL.of iT,aV.sub i0,ci,by show es.length<900;omega,by show ls.length+1<900;omega,fun z=>absurd z zAC,fun _ hn=>absurd gc hn,fun _ _ U2 H13 b13 eg2 el2 kk13 T13=>?_⟩
  rw[Pg] at T13
  have c13:Same (BA N gB) (BA N H13):=But.wide (fun m hm=>by
   simp only[zAS,zAR,or_false,eg,el] at hm
   rcases hm with rfl | rfl
   ·exact gvN
   ·exact lfN) b13
  refine⟨_,rfl,_,_,rfl,rfl,?_⟩
  refine⟨some y,U2,_,_,?_,s9.trans (iy.trans c13),T13,eg2.trans eg,el2.trans el,by rw[zA,les];rfl,by rw[zA,lls];rfl,fun e he=>?_,?_⟩
  ·show[some (V.ref x),some (.ref a),some (.int (many:Int)),some (.ref rm),some v,some (.int (8+(i:Nat)+1)),some y]=_
   rw[Int.add_assoc]
   rfl
  ·rcases List.mem_append.mp he with q1 | q1
   ·exact fF e q1
   ·rw[List.mem_singleton.mp q1]
    exact⟨gc,gf⟩
  ·have e1:=Lh (tw many z rule t room es aB ls) y u (LL (tw many z rule t room es aB ls) seen u)
   rw[Pg] at e1
   rw[e1,zAM]
   show BZ _ _ (AA true u room)=EI aB (es.map (fun e=>(e.2.1,e.2.2))++[(u,LL (tw many z rule t room es aB ls) seen u)])
   rw[M9,<-hhd]
   exact Mo T9.held_sub
 ·rintro σ H9 ⟨v1,U,es,ls,rfl,s9,T9,eg,el,les,lls,fF,hhd⟩
  exact⟨_,rfl,q U es ls H9 (c1.trans s9) T9 eg el (by omega) (by omega) fF hhd⟩
end
abbrev FP:Stmt:=Bu 68
def Mn(K:PySem.W.Frag):Sp:=fun vs H Q _=>∃(n:Int)(v:V)(t:Tr)(en:Addr)(ps:List V)(es:List (Tr×Str))(many:Nat),vs=[.int n,v,.ref en,.int many]/\0<=n/\t.At H v/\t.ok many/\t.size<=20/\SqL K H en ps/\PairsAt H ps es/\(∀e∈es,e.1.ok many/\e.1.size<=21)/\1<=many/\many<=5/\
 ∀(v':V)(t':Tr)(H':Hp),Same H H'->t'.At H' v'->t'.ok many->t'.size<=60->Q v' H'
section
theorem RC:Ao ["_law_n","_law_sentence_here","_law_entries","_law_many"] ["_law_n","_law_sentence_here","_law_entries","_law_many"] (Ad FP):=Bt
theorem OX(F:Fun K "_law_goal" "_law_goal" FP f fd)(B:Bl mg)(GS:FnOk P w K mg bz AH 1 fS dS ["_law_n","_law_most","_law_many"] JJ)(CS:AL K mg "_law_sentence" fS dS ["_law_n","_law_most","_law_many"])(GA:FnOk P w K mg bz AH 2 fA dA ["_law_n","_law_fresh","_law_many"] (HB K))(CA:AL K mg "_law_asked" fA dA ["_law_n","_law_fresh","_law_many"]):FnOk P w K mg bz AH 3 f fd ["_law_n","_law_sentence_here","_law_entries","_law_many"] (Mn K):=by
 refine F.ok RC (fun vs H Q E h=>?_) (fun ai A outer s H vs Q E hr h=>?_)
 ·obtain⟨n,v,t,en,ps,es,many,rfl,_⟩:=h
  rfl
 obtain⟨n,v,t,en,ps,es,many,rfl,hn,ha,hok,aw,hP,hE,fF,cu,bI,q⟩:=h
 have ak:Room 1 _:=hr.mono (by decide)
 have aE:Room 2 _:=hr.mono (by decide)
 have ar:=hE.len
 have n5:0<=n / 5:=zDA hn (by decide)
 refine⟨_,Ac (AB (HG (Al AQ (Au AO (pv 0) Ag) Ag (As _)) (EZ (Al (LO hr.units0) (pv 2) (AI Ab) (As _)))).pt
   (Ae (Ai (AD AN (AD AK (pv 2) (Au AO (Au AY (pv 0) Ag) (Az Ay (by rfl) B.len PySem.boot_len (Aa (pv 2) Ab))) (fun _ _=>rfl)) Ag (fun _ _=>rfl))))
   Ap)
  (Ac (AB (Al AQ (Au AO (pv 0) Ag) Ag (As _))
   (Ae (Ai (Bc (Aa Av (Aa (pv 1) (Aa (Ah GS ak (by rfl) CS.m CS.k CS.b .nil Ak (Aa (Au AY (pv 0) Ag) (Aa Ag (Aa (pv 3) Ab)))) Ab))))))
   Ap)
  (Ae (Ai (Ah GA aE (by rfl) CA.m CA.k CA.b .nil Ak (Aa (Au AY (pv 0) Ag) (Aa (AI (Aa (pv 1) Ab)) (Aa (pv 3) Ab))))))),?_⟩
 refine Ev (fun σ H'=>σ=[some (.int n),some v,some (.ref en),some (.int (many:Int))]/\Same H H') ?_ (fun next=>?_)
 rotate_left
 ·refine⟨_,rfl,_,_,rfl,rfl,(by show (0:Int)<5;decide),rfl,_,rfl,?_⟩
  by_cases c:n%5=0
  ·refine Bd (by show V.int (n%5)=V.int 0;rw[c]) ?_
   refine⟨_,rfl,J1,fun e he=>?_⟩
   have s1:=Af he (.lst [])
   refine⟨en,e,_,rfl,rfl,s1.seq hP,SqL.of upd_same,_,rfl,?_⟩
   by_cases ce:ps=[]
   ·rw[ce]
    exact A7 (next _ _ ⟨rfl,s1⟩)
   ·have av:(!ps.isEmpty)=true:=by cases ps with
     | nil=>exact absurd rfl ce
     | cons _ _=>rfl
    rw[av]
    refine Bh ?_
    have hp:0<ps.length:=List.length_pos_iff.mpr ce
    have m0:=zA8 (n / 5) (show (ps.length:Int)≠0 by omega)
    have m1:=zBB (n / 5) (show (0:Int)<ps.length by omega)
    obtain⟨j,ej⟩:=zBH m0
    have hj:j<es.length:=by omega
    obtain⟨x,hx,p,v',rfl,hp',iM⟩:=hE.get (List.getElem?_eq_getElem hj)
    refine⟨_,rfl,_,rfl,_,_,rfl,rfl,⟨by decide,by decide⟩,_,rfl,en,_,rfl,.inl (s1.seq hP),_,_,rfl,rfl,(by show (0:Int)<((ps.length:Nat):Int);omega),en,_,_,_,rfl,rfl,s1.seq hP,(by show HZ ps (n / 5%((ps.length:Nat):Int))=_;rw[ej];exact Aj hx),p,_,_,_,rfl,rfl,SqT.of (s1 _ _ hp'),Aj (j:=0) rfl,?_⟩
    obtain⟨h1,h2⟩:=fF _ (zA3 hj)
    exact q v' _ _ s1 (iM.keep (TS.same s1)) h1 (by omega)
  ·refine A6 (fun z=>c (by have z:V.int (n%5)=V.int 0:=z;injection z)) ?_
   exact A7 (next _ _ ⟨rfl,Same.refl _⟩)
 rintro σ H1 ⟨rfl,s1⟩
 refine⟨_,rfl,_,_,rfl,rfl,(by show (0:Int)<5;decide),rfl,_,rfl,?_⟩
 by_cases c:n%5=1
 ·refine Bd (by show V.int (n%5)=V.int 1;rw[c]) ?_
  refine⟨_,rfl,_,rfl,_,_,rfl,rfl,⟨by decide,by decide⟩,_,rfl,n / 5,6,many,rfl,n5,by decide,by decide,cu,bI,fun v' t' H2 s2 iM eE dr=>?_⟩
  refine⟨K9,fun p hp=>?_⟩
  have s3:=Af hp (.tup [.str "or",v,v'])
  have t3:=s1.trans (s2.trans s3)
  exact q (.ref p) (.bn 1 t t') _ t3 ⟨p,v,v',rfl,upd_same,ha.keep (TS.same t3),iM.keep (TS.same s3)⟩ ⟨by decide,hok,eE⟩ (by show t.size+t'.size+1<=60;omega)
 ·refine A6 (fun z=>c (by have z:V.int (n%5)=V.int 1:=z;injection z)) ?_
  refine⟨_,rfl,_,_,rfl,rfl,⟨by decide,by decide⟩,_,rfl,Jq,fun fr bB=>?_⟩
  have s2:=Af bB (.lst [v])
  exact⟨_,rfl,n / 5,fr,many,[v],[t],rfl,n5,cu,bI,upd_same,.cons ⟨ha.keep (TS.same (s1.trans s2)),hok,aw⟩ .nil,by simp,by show 1<=900;decide,fun v' t' H' s' iM eE dr _=>q v' t' H' (s1.trans (s2.trans s')) iM eE (by omega)⟩
end
abbrev Gj:Stmt:=Bu 73
abbrev Cv:Stmt:=Bu 74
def ML(K:PySem.W.Frag):Sp:=fun vs H Q _=>∃(rm bs en:Addr)(room aB:List Int)(ps:List V)(es:List (Tr×Str)),vs=[.ref rm,.ref bs,.ref en]/\SqL K H rm (room.map V.int)/\room.length<=900/\SqL K H bs (aB.map V.int)/\SqL K H en ps/\PairsAt H ps es/\(∀e∈es,e.1.ok 5/\e.1.size<=23)/\es.length<=900/\
 ∀(l:Addr)(xs:List V)(H':Hp),Same H H'->H l=none->H' l=some (.lst xs)->RowsAt H' xs (aB::Be room es)->Q (.ref l) H'
def Fw(K:PySem.W.Frag):Sp:=fun vs H Q _=>∃(rm rl pl:Addr)(room:List Int)(xs:List V)(rows:List (List Int))(pn:List Nat),vs=[.ref rm,.ref rl,.ref pl]/\SqL K H rm (room.map V.int)/\room.length<=900/\SqL K H rl xs/\RowsAt H xs rows/\SqL K H pl (pn.map fun p=>V.int (p:Nat))/\(∀p∈pn,p<rows.length)/\
 ∀(l:Addr)(H':Hp),Same H H'->H l=none->AM H' l (AV room (pn.map fun p=>rows.getD p []))->Q (.ref l) H'
theorem PX(room r:List Int)(rs:List (List Int)):(AV room rs).filter (fun k=>decide (k∈r))=AV room (rs++[r]):=by
 unfold AV
 rw[List.filter_filter]
 refine zCG fun k _=>?_
 rw[zDB,zB5,List.all_nil,zDM,Bool.and_comm]
section
theorem scLrows:Ao ["_law_room_here","_law_base_here","_law_entries","_law_rows_here","_law_asked_here","_law_given"] ["_law_room_here","_law_base_here","_law_entries"] (Ad Gj):=Bt
theorem OS(F:Fun K "_law_rows" "_law_rows" Gj f fd)(T:EV mg)(GL:FnOk P w K mg bz AH k g gd ["_law_row","_law_sentence_here","_law_said"] (M2 K))(CL:AL K mg "_law_left" g gd ["_law_row","_law_sentence_here","_law_said"]):FnOk P w K mg bz AH (k+1) f fd ["_law_room_here","_law_base_here","_law_entries"] (ML K):=by
 refine F.ok scLrows (fun vs H Q E h=>?_) (fun ai A outer s H vs Q E hr h=>?_)
 ·obtain⟨rm,bs,en,room,aB,ps,es,rfl,_⟩:=h
  rfl
 obtain⟨rm,bs,en,room,aB,ps,es,rfl,hR,aM,hB,hP,hE,hok,ag,q⟩:=h
 have ar:=hE.len
 refine⟨_,Ac (Ar (i:=3) scLrows.nd rfl (Or.inl rfl) (AI (Aa (AF AR (by rfl) T.lst AZ (Aa (pv 1) Ab)) Ab)))
  (Ac (Bz zAW rfl (AS (pv 2)) (EQ rfl (Bf (AC (i:=4) scLrows.nd rfl (Or.inl rfl)) (Bf (AC (i:=5) scLrows.nd rfl (Or.inl rfl)) Dw)))
   (Ae (AW (B1 zAD zAK zAL A4 (pv 3) (Aa (Ah GL hr (by rfl) CL.m CL.k CL.b .nil Ak (Aa (pv 0) (Aa (pv 4) (Aa (pv 5) Ab)))) Ab)))))
  (Ae (Ai (pv 3)))),?_⟩
 refine⟨_,rfl,bs,_,rfl,.inl hB,fun bc hbc=>?_⟩
 have s1:=Af hbc (.lst (aB.map V.int))
 have hbc1:upd H bc (.lst (aB.map V.int)) bc=_:=upd_same
 generalize upd H bc _=H1 at *
 refine⟨Jq,fun acc fi=>?_⟩
 have ah:H acc=none:=s1.free fi
 have nba:bc≠acc:=An hbc1 fi
 have s2:=s1.trans (Af fi (.lst [.ref bc]))
 have cR:upd H1 acc (.lst [.ref bc]) acc=some (.lst [.ref bc]):=upd_same
 have hbc2:AM (upd H1 acc (.lst [.ref bc])) bc aB:=(Af fi (.lst [.ref bc])) _ _ hbc1
 generalize upd H1 acc _=H2 at *
 refine⟨_,rfl,en,rfl,⟨_,s2.seq hP⟩,A1 (K:=K) (a:=en) (xs:=ps) (fun i σ H3=>∃v0 v1 ys,σ=[some (.ref rm),some (.ref bs),some (.ref en),some (.ref acc),v0,v1]/\Same H H3/\H3 acc=some (.lst ys)/\(∀y∈ys,y≠.ref acc)/\RowsAt H3 ys (aB::(Be room es).take i)) ⟨none,none,[.ref bc],rfl,s2,cR,fun y hy=>?_,.cons ⟨bc,rfl,hbc2⟩ .nil⟩ ?_ ?_ ?_⟩
 ·rw[List.mem_singleton.mp hy]
  exact fun q=>nba (V.ref.inj q)
 ·rintro i σ H3 _ ⟨v0,v1,ys,rfl,s3,_⟩
  exact s3.seq hP
 ·rintro i x σ H3 hx ⟨v0,v1,ys,rfl,s3,cV,ho,hy3⟩
  have hi:i<es.length:=by
   have:=(List.getElem?_eq_some_iff.mp hx).1
   omega
  obtain⟨x',iO,hpx⟩:=hE.get (List.getElem?_eq_getElem hi)
  rw[hx] at iO
  cases iO
  obtain⟨p,v,rfl,hp,hv⟩:=hpx
  obtain⟨hok5,aw⟩:=hok _ (zA3 hi)
  refine⟨p,_,rfl,SqT.of (s3 _ _ hp),rfl,_,_,rfl,_,_,rfl,rfl,?_⟩
  refine⟨_,rfl,.inl ⟨rfl,_,SqL.of cV⟩,_,rfl,_,rfl,_,rfl,rm,_,v,_,room,rfl,hv.keep (TS.same s3),hok5,by omega,s3.seq hR,aM,fun l H4 s4 aU hl=>?_⟩
  have nl:l≠acc:=(An cV aU).symm
  have et:(Be room es).take (i+1)=(Be room es).take i++[Cj es[i].2 room es[i].1]:=by
   unfold Be
   rw[zAT,List.getElem?_map,List.getElem?_eq_getElem hi]
   rfl
  have gQ:=hy3.len
  rw[zAI,List.length_take] at gQ
  refine⟨acc,ys,_,rfl,rfl,s4 _ _ cV,AG (by omega),?_⟩
  refine⟨_,_,ys++[.ref l],rfl,AJ (s3.trans s4) ah _,upd_same,fun y hy=>?_,?_⟩
  ·rcases List.mem_append.mp hy with z | z
   ·exact ho y z
   ·rw[List.mem_singleton.mp z]
    exact fun q=>nl (V.ref.inj q)
  ·rw[et,<-List.cons_append]
   refine rows_rev.rows_add ⟨l,rfl,?_⟩ (Dp hy3 ho fun p' aA n' h'=>?_)
   ·show upd _ _ _ l=_
    rw[Ax nl]
    exact hl
   ·show upd _ _ _ p'=_
    rw[Ax n']
    exact s4 _ _ h'
 ·rintro σ H3 ⟨v0,v1,ys,rfl,s3,cV,ho,hy3⟩
  rw[zBX (by unfold Be;rw[List.length_map];omega)] at hy3
  exact⟨_,rfl,q acc ys H3 s3 ah cV hy3⟩
theorem scLcommon:Ao ["_law_room_here","_law_rows_here","_law_places_here","_law_found","_law_place"] ["_law_room_here","_law_rows_here","_law_places_here"] (Ad Cv):=Bt
theorem LH(F:Fun K "_law_common" "_law_common" Cv f fd)(T:EV mg):FnOk P w K mg bz AH 1 f fd ["_law_room_here","_law_rows_here","_law_places_here"] (Fw K):=by
 refine F.ok scLcommon (fun vs H Q E h=>?_) (fun ai A outer s H vs Q E hr h=>?_)
 ·obtain⟨rm,rl,pl,room,xs,rows,pn,rfl,_⟩:=h
  rfl
 obtain⟨rm,rl,pl,room,xs,rows,pn,rfl,hR,aM,hX,hRs,hPl,hpn,q⟩:=h
 refine⟨_,Ac (Ar (i:=3) scLcommon.nd rfl (Or.inl rfl) (AF AR (by rfl) T.lst AZ (Aa (pv 0) Ab)))
  (Ac (Bz zAW rfl (AS (pv 2)) (AC (i:=4) scLcommon.nd rfl (Or.inr rfl))
   (Ae (Fr (i:=3) scLcommon.nd rfl (Or.inl rfl) (N:=["_law_world","_law_place","_law_rows_here"]) (js:=[none,some 4,some 1]) (cl:=[("_law_rows_here",s.heap.objs.size+1),("_law_place",s.heap.objs.size+2)]) ⟨rfl,rfl,rfl,(by intro p hp;simp at hp;rcases hp with rfl | rfl<;>rfl),rfl,rfl,rfl⟩ (AS (pv 3)) (fun c1=>(AC (i:=0) (show (["_law_world","_law_place","_law_rows_here"]:List Str).Nodup by decide +kernel) rfl (Or.inl rfl))) (fun c1=>(BW (Al Ec (pv 0) (AD AK (pv 2) (pv 1) (fun _ _=>rfl)) (by with_unfolding_all rfl)))) (fun c1=>(pv 0)))))
  (Ae (Ai (pv 3)))),?_⟩
 refine⟨_,rfl,rm,_,rfl,.inl hR,fun fl bC=>?_⟩
 have s1:=Af bC (.lst (room.map V.int))
 have hfl1:upd H fl (.lst (room.map V.int)) fl=_:=upd_same
 generalize upd H fl _=H1 at *
 refine⟨_,rfl,pl,rfl,⟨_,s1.seq hPl⟩,A1 (K:=K) (a:=pl) (xs:=pn.map fun p=>V.int (p:Nat)) (fun i σ H3=>∃(v0:Option V)(l:Addr),σ=[some (.ref rm),some (.ref rl),some (.ref pl),some (.ref l),v0]/\Same H H3/\H l=none/\AM H3 l (AV room ((pn.take i).map fun p=>rows.getD p []))) ⟨none,fl,rfl,s1,bC,?_⟩ ?_ ?_ ?_⟩
 ·show H1 fl=_
  rw[List.take_zero,zC5,Md]
  exact hfl1
 ·rintro i σ H3 _ ⟨v0,l,rfl,s3,_⟩
  exact s3.seq hPl
 ·rintro i x σ H3 hx ⟨v0,l,rfl,s3,aU,hl⟩
  rw[List.getElem?_map] at hx
  obtain⟨p,hp,rfl⟩:=Option.map_eq_some_iff.mp hx
  have hpr:=hpn p (zAQ hp)
  obtain⟨rp,hrp,hrow⟩:=D1 hRs (List.getElem?_eq_getElem hpr)
  have eg:rows.getD p []=rows[p]:=by rw[List.getD_eq_getElem?_getD,List.getElem?_eq_getElem hpr];rfl
  have et:(pn.take (i+1)).map (fun p=>rows.getD p [])=(pn.take i).map (fun p=>rows.getD p [])++[rows[p]]:=by
   rw[zAT,hp,zAM]
   show _++[rows.getD p []]=_
   rw[eg]
  have bE:(AV room ((pn.take i).map fun p=>rows.getD p [])).length<=900:=zAH (zAZ _ _) aM
  refine⟨_,rfl,l,rfl,⟨_,SqL.of hl⟩,fun cc acc ah=>BG (p:=fun k=>decide (k∈rows[p])) (rest:=[some (.int (p:Nat)),some (.ref rl)]) (SqL.of hl) ah bE (fun k hk H4 s4 R hR4=>?_) (fun v0 H4 s4 h4=>?_) none⟩
  ·exact⟨_,rfl,_,rfl,_,rfl,rl,_,_,_,rfl,rfl,(s3.trans s4).seq hX,Aj hrp,Jn (SqL.of ((s3.trans s4) _ _ hrow)) ⟨_,rfl,hR4 H4 (Same.refl _)⟩⟩
  ·refine E4 rfl ?_
   refine⟨_,acc,rfl,s3.trans s4,s3.free ah,?_⟩
   rw[et,<-PX]
   exact h4
 ·rintro σ H3 ⟨v0,l,rfl,s3,aU,hl⟩
  rw[List.length_map,zAX] at hl
  exact⟨_,rfl,q l H3 s3 aU hl⟩
end
abbrev Dq:Stmt:=Bu 71
def Ik(sides:List (List Int))(ins bg:List Int)(z:Str):List Int:=if z="deny" then bg else if z="grant" then ins else sides.headD []++sides.getLastD []
theorem SN{room going seen:List Int}(hg:going.Sublist room)(hs:seen.Sublist room)(av:[]∉AE z t room):Il (AE z t room) going seen (AA true u room)=B2 (AE z t room) (Ik (AE z t room) (AA true u going) (AA false u going) (Bm seen u)):=by
 have g1:¬("grant":Str)="deny":=by decide
 have g2:¬("deny":Str)="grant":=by decide
 have g3:¬("doubt":Str)="grant":=by decide
 have g4:¬("doubt":Str)="deny":=by decide
 have g5:¬("grant":Str)="doubt":=by decide
 have g6:¬("deny":Str)="doubt":=by decide
 unfold Il Ik BZ
 rw[N0 hs,HL hg,DE hg]
 rcases RJ seen u with e | e | e<;>rw[e]
 ·rw[if_neg g5,if_pos rfl,if_neg g1,if_pos rfl]
 ·rw[if_neg g6,if_neg g2,if_pos rfl,if_pos rfl]
 ·rw[if_pos rfl,if_neg g4,if_neg g3]
  refine (miss_none.mpr ?_).symm
  unfold By
  rw[zA0]
  intro s hs
  have iT:s≠[]:=fun e=>av (e ▸ hs)
  obtain⟨k,hk⟩:=List.exists_mem_of_ne_nil s iT
  refine List.any_eq_true.mpr ⟨k,hk,decide_eq_true ?_⟩
  rcases Di (z:=z) (t:=t) (row:=room) with⟨a,e⟩|⟨a,b,e⟩<;>rw[e] at hs ⊢
  ·rw[List.mem_singleton.mp hs] at hk
   exact zBU _ hk
  ·simp only[zAS,zAR,or_false] at hs
   rcases hs with rfl | rfl
   ·exact zBU _ hk
   ·exact zAY _ hk
def ID(K:PySem.W.Frag):Sp:=fun vs H Q _=>∃(sd il ol sn:Addr)(v:V)(t:Tr)(xs:List V)(sides:List (List Int))(ins bg seen:List Int),vs=[.ref sd,.ref il,.ref ol,.ref sn,v]/\SqL K H sd xs/\RowsAt H xs sides/\(∀s∈sides,s.length<=400)/\sides≠[]/\sides.length<=2/\SqL K H il (ins.map V.int)/\ins.length<=900/\SqL K H ol (bg.map V.int)/\bg.length<=900/\t.At H v/\t.ok 5/\t.size<=60/\SqL K H sn (seen.map V.int)/\seen.length<=900/\
 ∀(H':Hp),Same H H'->Q (SQ (B2 sides (Ik sides ins bg (Bm seen t)))) H'
section
theorem scLbarred:Ao ["_law_sides_here","_law_ins_here","_law_outs_here","_law_seen_here","_law_sentence_here","_law_wish","_law_row","_law_k"] ["_law_sides_here","_law_ins_here","_law_outs_here","_law_seen_here","_law_sentence_here"] (Ad Dq):=Bt
theorem L5(F:Fun K "_law_barred" "_law_barred" Dq f fd)(B:Bl mg)(GP:FnOk P w K mg bz AH 61 g1 d1 ["_law_seen_here","_law_sentence_here"] (KB K))(CP:AL K mg "_law_plain" g1 d1 ["_law_seen_here","_law_sentence_here"])(GS:FnOk P w K mg bz AH 1 g2 d2 ["_law_sides_here","_law_row"] (KD K))(CS:AL K mg "_law_stands" g2 d2 ["_law_sides_here","_law_row"]):FnOk P w K mg bz AH 62 f fd ["_law_sides_here","_law_ins_here","_law_outs_here","_law_seen_here","_law_sentence_here"] (ID K):=by
 refine F.ok scLbarred (fun vs H Q E h=>?_) (fun ai A outer s H vs Q E hr h=>?_)
 ·obtain⟨sd,il,ol,sn,v,t,xs,sides,ins,bg,seen,rfl,_⟩:=h
  rfl
 obtain⟨sd,il,ol,sn,v,t,xs,sides,ins,bg,seen,rfl,hX,hR,aX,sne,s2l,hI,lI,hO,lO,ha,bL,aw,hN,lN,q⟩:=h
 have ak:Room 1 _:=hr.mono (by decide)
 have gZ:=hR.len
 refine⟨_,Ac (Ar (i:=5) scLbarred.nd rfl (Or.inl rfl) (Ah GP hr (by rfl) CP.m CP.k CP.b .nil Ak (Aa (pv 3) (Aa (pv 4) Ab))))
  (Ac (Ar (i:=6) scLbarred.nd rfl (Or.inl rfl) (Au FT (AD AK (pv 0) Ag (fun _ _=>rfl)) (AD AK (pv 0) (Kq HQ Ag) (fun _ _=>rfl))))
  (Ac (AB (Al AQ (pv 5) Av (As _))
   (Ae (Ar (i:=6) scLbarred.nd rfl (Or.inl rfl) (pv 1)))
   Ap)
  (Ac (AB (Al AQ (pv 5) Av (As _))
   (Ae (Ar (i:=6) scLbarred.nd rfl (Or.inl rfl) (pv 2)))
   Ap)
  (Ac (Bz zAW rfl (ED (by rfl) B.range (Aa (Az Ay (by rfl) B.len PySem.boot_len (Aa (pv 0) Ab)) Ab)) (AC (i:=7) scLbarred.nd rfl (Or.inl rfl))
   (Ae (AB (BO (Bg (Ah GS ak (by rfl) CS.m CS.k CS.b .nil Ak (Aa (AI (Aa (AD AK (pv 0) (pv 7) (fun _ _=>rfl)) Ab)) (Aa (pv 6) Ab)))))
    (Ae (Ai (pv 7)))
    Ap)))
  (Ae (Ai LK)))))),?_⟩
 refine⟨_,rfl,_,rfl,sn,v,t,seen,rfl,ha,bL,aw,hN,lN,fun H1 s1=>?_⟩
 obtain⟨s0,rest,rfl⟩:∃s0 rest,sides=s0::rest:=by cases sides with
  | nil=>exact absurd rfl sne
  | cons a b=>exact⟨a,b,rfl⟩
 obtain⟨p0,hp0,hrow0⟩:=D1 hR (i:=0) rfl
 obtain⟨pl,ar,hrowl⟩:=Ff hR sne
 have l0:=aX s0 List.mem_cons_self
 have hlm:(s0::rest).getLastD []∈s0::rest:=by
  rw[List.getLastD_eq_getLast?,List.getLast?_eq_some_getLast (zC4 _ _)]
  exact List.getLast_mem _
 have ll:=aX _ hlm
 generalize hsl':(s0::rest).getLastD []=sl at *
 refine⟨_,rfl,sd,_,_,_,rfl,rfl,s1.seq hX,Aj (j:=0) hp0,_,rfl,_,rfl,sd,_,_,_,rfl,rfl,s1.seq hX,ar,p0,pl,_,_,rfl,rfl,s1 _ _ hrow0,s1 _ _ hrowl,(by rw[List.length_map,List.length_map];exact zBQ (AG (by omega))),fun cr hcr=>?_⟩
 have s2:=Af hcr (.lst (s0.map V.int++sl.map V.int))
 have hcr2:upd H1 cr (.lst (s0.map V.int++sl.map V.int)) cr=some (.lst ((s0++sl).map V.int)):=by rw[upd_same,zAM]
 generalize upd H1 cr _=H2 at *
 have t2:=s1.trans s2
 refine FV (fun σ H'=>∃(r:Addr)(row:List Int),σ=[some (.ref sd),some (.ref il),some (.ref ol),some (.ref sn),some v,some (.str (Bm seen t)),some (.ref r),none]/\Same H H'/\SqL K H' r (row.map V.int)/\row=if Bm seen t="grant" then ins else s0++sl) ?_ (fun next=>?_)
 rotate_left
 ·refine⟨_,rfl,rfl,_,rfl,?_⟩
  by_cases c:Bm seen t="grant"
  ·refine Bd (by rw[c]) ?_
   exact⟨_,rfl,next _ _ ⟨il,ins,rfl,t2,t2.seq hI,by rw[if_pos c]⟩⟩
  ·refine A6 (fun z=>c (by injection z)) ?_
   exact next _ _ ⟨cr,s0++sl,rfl,t2,SqL.of hcr2,by rw[if_neg c]⟩
 rintro σ H3 ⟨r1,row1,rfl,t3,hr1',erow1⟩
 refine Ev (fun σ H'=>∃(r:Addr)(row:List Int),σ=[some (.ref sd),some (.ref il),some (.ref ol),some (.ref sn),some v,some (.str (Bm seen t)),some (.ref r),none]/\Same H H'/\SqL K H' r (row.map V.int)/\row=Ik (s0::rest) ins bg (Bm seen t)) ?_ (fun next=>?_)
 rotate_left
 ·refine⟨_,rfl,rfl,_,rfl,?_⟩
  unfold Ik at next
  by_cases c:Bm seen t="deny"
  ·refine Bd (by rw[c]) ?_
   exact⟨_,rfl,next _ _ ⟨ol,bg,rfl,t3,t3.seq hO,by rw[if_pos c]⟩⟩
  ·refine A6 (fun z=>c (by injection z)) ?_
   exact next _ _ ⟨r1,row1,rfl,t3,hr1',by rw[if_neg c,erow1,hsl'];rfl⟩
 rintro σ H4 ⟨r,row,rfl,t4,iv,iX⟩
 rw[<-iX] at q
 have lrow:row.length<=900:=by
  rw[iX]
  unfold Ik
  split
  ·exact lO
  ·split
   ·exact lI
   ·rw[hsl',zA]
    show s0.length+sl.length<=900
    omega
 refine⟨_,rfl,sd,_,rfl,.inl (t4.seq hX),_,rfl,(by show -(2^62)<=((xs.length:Nat):Int);omega),(by show ((xs.length:Nat):Int)<2^62;omega),Db (fun i σ H5=>∃(kv:Option V),σ=[some (.ref sd),some (.ref il),some (.ref ol),some (.ref sn),some v,some (.str (Bm seen t)),some (.ref r),kv]/\Same H4 H5/\∀s∈(s0::rest).take i,(s.any fun k=>decide (k∈row))=true) ⟨_,rfl,Same.refl _,fun s hs=>by simp at hs⟩ ?_ ?_⟩
 ·rintro i σ H5 hi ⟨kv,rfl,s5,aq⟩
  have de:i<(s0::rest).length:=by
   have h0:i<((xs.length:Nat):Int).toNat:=hi
   omega
  rw[Int.zero_add]
  have t5:=t4.trans s5
  obtain⟨pi,hpi,hrowi⟩:=D1 hR (List.getElem?_eq_getElem de)
  refine⟨_,rfl,_,rfl,sd,_,_,_,rfl,rfl,t5.seq hX,Aj hpi,Jq,fun nl fU=>?_⟩
  have s6:=Af fU (.lst [.ref pi])
  have t6:=t5.trans s6
  refine⟨_,rfl,nl,r,row,[.ref pi],[(s0::rest)[i]],rfl,(s5.trans s6).seq iv,lrow,SqL.of upd_same,.cons ⟨pi,rfl,t6 _ _ hrowi⟩ .nil,fun s hs=>?_,fun H7 s7=>⟨_,rfl,?_⟩⟩
  ·rw[List.mem_singleton.mp hs]
   exact zAH (aX _ (zA3 de)) (by decide)
  have est:By [(s0::rest)[i]] row=((s0::rest)[i].any fun k=>decide (k∈row)):=by
   unfold By
   rw[zB5,List.all_nil,zDM]
  rw[est]
  cases hb:(s0::rest)[i].any fun k=>decide (k∈row) with
  | true=>
   refine A7 ?_
   refine⟨_,rfl,s5.trans (s6.trans s7),fun s hs=>?_⟩
   rcases Iz (List.getElem?_eq_getElem de) hs with h | rfl
   ·exact aq s h
   ·exact hb
  | false=>
   refine Bh ?_
   have:=q H7 (t6.trans s7)
   rw[Mx aq (List.getElem?_eq_getElem de) hb] at this
   exact⟨_,rfl,this⟩
 ·rintro σ H5 ⟨kv,rfl,s5,aq⟩
  have:=q H5 (t4.trans s5)
  rw[J9 (by
   have e:(s0::rest).take ((xs.length:Nat):Int).toNat=s0::rest:=by rw[zB9,gZ,zAX]
   rw[e] at aq
   exact aq)] at this
  exact this
end
theorem NN{rows rs:List (List Int)}{i p:Nat}(h:rows.drop i=rs)(h1:i<=p)(h2:p<i+rs.length):rows.getD p []∈rs:=by
 have hp:p<rows.length:=by
  have:=congrArg List.length h
  rw[zCB] at this
  omega
 rw[List.getD_eq_getElem?_getD,List.getElem?_eq_getElem hp]
 show rows[p]∈rs
 rw[<-h]
 have e:(rows.drop i)[p-i]? = some rows[p]:=by
  rw[List.getElem?_drop,show i+(p-i)=p by omega,List.getElem?_eq_getElem hp]
 exact zAQ e
theorem FX(aa room:List Int)(rows:List (List Int)):∀(rs:List (List Int))(c:List Int)(i:Nat),rows.drop i=rs->(∀k∈c,k∈room)->(∀k∈c,(∀r∈rs,k∈r)->k∈aa)->
  ((BT aa room c i rs).Pairwise (· < ·)/\∀p∈BT aa room c i rs,i<=p/\p<i+rs.length)/\
  (∀k∈c,(∀p∈BT aa room c i rs,k∈rows.getD p [])->k∈aa)/\
  (∀p∈BT aa room c i rs,∃k∈c,k∉aa/\∀p'∈BT aa room c i rs,p'≠p->k∈rows.getD p' [])
 | [],c,i,_,_,h=>⟨⟨List.Pairwise.nil,fun p hp=>by cases hp⟩,fun k hk _=>h k hk (fun r hr=>by cases hr),fun p hp=>by cases hp⟩
 | r::rs,c,i,hd,hc,h=>by
  have aZ:i<rows.length:=by
   have:=congrArg List.length hd
   rw[zCB,zAI] at this
   omega
  have cb:rows.drop (i+1)=rs:=by
   rw[zBK aZ] at hd
   exact (List.cons.inj hd).2
  have hr0:rows.getD i []=r:=by
   rw[zBK aZ] at hd
   rw[List.getD_eq_getElem?_getD,List.getElem?_eq_getElem aZ]
   exact (List.cons.inj hd).1
  rw[Gs]
  by_cases cc:((Fk c (AV room rs)).all fun k=>decide (k∈aa))=true
  ·rw[if_pos cc]
   have h':∀k∈c,(∀r∈rs,k∈r)->k∈aa:=fun k hk hr=>by
    have hm:k∈Fk c (AV room rs):=List.mem_filter.mpr ⟨hk,decide_eq_true (mem_com.mpr ⟨hc k hk,hr⟩)⟩
    exact of_decide_eq_true (List.all_eq_true.mp cc k hm)
   obtain⟨⟨a1,a2⟩,b,d⟩:=FX aa room rows rs c (i+1) cb hc h'
   exact⟨⟨a1,fun p hp=>⟨by have:=(a2 p hp).1;omega,by have:=(a2 p hp).2;rw[zAI];omega⟩⟩,b,d⟩
  ·rw[if_neg cc]
   have mi:∀{k:Int},k∈Fk c r↔k∈c/\k∈r:=fun {k}=>by
    unfold Fk
    rw[List.mem_filter,decide_eq_true_eq]
   obtain⟨⟨a1,a2⟩,b,d⟩:=FX aa room rows rs (Fk c r) (i+1) cb (fun k hk=>hc k (mi.mp hk).1) (fun k hk hr=>h k (mi.mp hk).1 fun r' hr'=>by
    rcases List.mem_cons.mp hr' with rfl | hr'
    ·exact (mi.mp hk).2
    ·exact hr r' hr')
   refine⟨⟨List.pairwise_cons.mpr ⟨fun p hp=>by have:=(a2 p hp).1;omega,a1⟩,fun p hp=>?_⟩,fun k hk aq=>?_,fun p hp=>?_⟩
   ·rcases List.mem_cons.mp hp with rfl | hp
    ·rw[zAI];omega
    ·exact⟨by have:=(a2 p hp).1;omega,by have:=(a2 p hp).2;rw[zAI];omega⟩
   ·refine b k (mi.mpr ⟨hk,?_⟩) fun p hp=>aq p (List.mem_cons_of_mem _ hp)
    rw[<-hr0]
    exact aq i List.mem_cons_self
   ·rcases List.mem_cons.mp hp with rfl | hp
    ·rw[zA0] at cc
     obtain⟨k,hk,hn⟩:∃k∈Fk c (AV room rs),k∉aa:=by
      refine zA2 fun hno=>cc fun k hk=>decide_eq_true ?_
      exact zA2 fun hn=>hno ⟨k,hk,hn⟩
     have hm:=List.mem_filter.mp hk
     refine⟨k,hm.1,hn,fun p' hp' av=>?_⟩
     rcases List.mem_cons.mp hp' with rfl | hp'
     ·exact absurd rfl av
     ·have:=a2 p' hp'
      exact (mem_com.mp (of_decide_eq_true hm.2)).2 _ (NN cb this.1 this.2)
    ·obtain⟨k,hk,hn,aq⟩:=d p hp
     refine⟨k,(mi.mp hk).1,hn,fun p' hp' av=>?_⟩
     rcases List.mem_cons.mp hp' with rfl | hp'
     ·rw[hr0]
      exact (mi.mp hk).2
     ·exact aq p' hp' av
def PD(room:List Int)(rows:List (List Int))(pn:List Nat)(aN:List Int):Prop:=
 (∀k∈AV room (pn.map fun p=>rows.getD p []),k∈aN)/\∀p∈pn,∃k∈AV room ((pn.filter fun p'=>decide (p'≠p)).map fun p=>rows.getD p []),k∉aN
theorem HW(h:∀k∈AV room rows,k∈aa):(B6 aa room rows).Pairwise (· < ·)/\(∀p∈B6 aa room rows,p<rows.length)/\PD room rows (B6 aa room rows) aa:=by
 obtain⟨⟨a1,a2⟩,b,d⟩:=FX aa room rows rows room 0 (List.drop_zero ..) (fun k hk=>hk) (fun k hk hr=>h k (mem_com.mpr ⟨hk,hr⟩))
 refine⟨a1,fun p hp=>by have:=(a2 p hp).2;omega,fun k hk=>?_,fun p hp=>?_⟩
 ·obtain⟨h1,h2⟩:=mem_com.mp hk
  exact b k h1 fun p hp=>h2 _ (List.mem_map.mpr ⟨p,hp,rfl⟩)
 ·obtain⟨k,hk,hn,aq⟩:=d p hp
  refine⟨k,mem_com.mpr ⟨hk,fun r hr=>?_⟩,hn⟩
  obtain⟨p',hp',rfl⟩:=List.mem_map.mp hr
  obtain⟨h1,h2⟩:=List.mem_filter.mp hp'
  exact aq p' h1 (of_decide_eq_true h2)
abbrev Cb:Stmt:=Bu 41
abbrev Eu:Stmt:=Bu 42
def DV(rows:List (List Int))(k:Int)(n:Nat):List Int:=((List.range n).filter fun i=>!decide (k∈rows.getD i [])).map fun i=>((i:Nat):Int)
def BD(rows:List (List Int))(k:Int):List Int:=DV rows k rows.length
theorem NA(rows:List (List Int))(k:Int)(n:Nat):DV rows k (n+1)=DV rows k n++(if k∈rows.getD n [] then[] else[(n:Int)]):=by
 unfold DV
 rw[zD,zCT,zAM]
 congr 1
 by_cases c:k∈rows.getD n []
 ·rw[if_pos c,zCV (by rw[decide_eq_true c];decide)]
  rfl
 ·rw[if_neg c,zCW (by rw[decide_eq_false c];rfl)]
  rfl
theorem PU(rows:List (List Int))(k:Int)(n:Nat):(DV rows k n).length<=n:=by
 unfold DV
 rw[List.length_map]
 exact zAH (zAZ _ _) (by rw[List.length_range];exact zAA _)
theorem Sl(h:tb D σ H):DO NH tb D σ H:=by
 show if true=true then tb D σ H else D.nx σ H
 rw[if_pos rfl]
 exact h
theorem P3{ks al:List Int}{n:Nat}(nd:ks.Nodup)(hk:∀k,k∈ks↔decide (k∈al)=true)(hb:∀k∈al,0<=k/\k<n):ks.length=n↔∀i,i<n->(i:Int)∈al:=by
 have ndr:((List.range n).map fun i=>((i:Nat):Int)).Nodup:=by
  exact List.Pairwise.map _ (fun a b h e=>h (by omega)) List.nodup_range
 have mr:∀k∈ks,k∈(List.range n).map fun i=>((i:Nat):Int):=fun k hk'=>by
  obtain⟨h1,h2⟩:=hb k (of_decide_eq_true ((hk k).mp hk'))
  obtain⟨m,e⟩:=zBH h1
  exact List.mem_map.mpr ⟨m,List.mem_range.mpr (by omega),e.symm⟩
 constructor
 ·intro hl i hi
  refine zA2 fun hn=>?_
  have:=BV (l2:=((List.range n).map fun i=>((i:Nat):Int)).erase (i:Int)) nd fun y hy=>by
   refine (List.mem_erase_of_ne fun e=>?_).mpr (mr y hy)
   rw[e] at hy
   exact hn (of_decide_eq_true ((hk _).mp hy))
  rw[List.length_erase_of_mem (List.mem_map.mpr ⟨i,List.mem_range.mpr hi,rfl⟩),List.length_map,List.length_range] at this
  omega
 ·intro aq
  have h1:=BV (l2:=(List.range n).map fun i=>((i:Nat):Int)) nd mr
  have h2:=BV (l2:=ks) ndr fun y hy=>by
   obtain⟨i,hi,rfl⟩:=List.mem_map.mp hy
   exact (hk _).mpr (decide_eq_true (aq i (List.mem_range.mp hi)))
  rw[List.length_map,List.length_range] at h1 h2
  omega
def BK(ls:List (List Int)):List Int:=(ls.filter fun l=>decide (l.length=1)).map fun l=>l.headD 0
theorem L3{ls:List (List Int)}{i:Nat}{l:List Int}(h:ls[i]? = some l):BK (ls.take (i+1))=BK (ls.take i)++(if l.length=1 then[l.headD 0] else[]):=by
 unfold BK
 rw[zAT,h,zCT,zAM]
 congr 1
 by_cases c:l.length=1
 ·rw[if_pos c,Option.toList_some,zCW (p:=fun l:List Int=>decide (l.length=1)) (decide_eq_true c)]
  rfl
 ·rw[if_neg c,Option.toList_some,zCV (by rw[decide_eq_false c];decide)]
  rfl
theorem Iy(ls:List (List Int)):(BK ls).length<=ls.length:=by
 unfold BK
 rw[List.length_map]
 exact zAZ _ _
theorem Qt{rows:List (List Int)}{ns:List Int}:∀k∈BK (ns.map (BD rows)),0<=k/\k<rows.length:=fun k hk=>by
 unfold BK at hk
 obtain⟨l,hl,rfl⟩:=List.mem_map.mp hk
 obtain⟨h1,h2⟩:=List.mem_filter.mp hl
 obtain⟨w,_,rfl⟩:=List.mem_map.mp h1
 have h3:=of_decide_eq_true h2
 have h4:(BD rows w).headD 0∈BD rows w:=by
  match BD rows w,h3 with
  | a::r,_=>exact List.mem_cons_self
 unfold BD DV at h4
 obtain⟨i,hi,e⟩:=List.mem_map.mp h4
 have:=List.mem_range.mp (List.mem_filter.mp hi).1
 unfold BD DV
 omega
def Fi(rows:List (List Int))(ns:List Int):Bool:=!((ns.map (BD rows)).any List.isEmpty) && decide (∀i,i<rows.length->(i:Int)∈BK (ns.map (BD rows)))
def HN(K:PySem.W.Frag):Sp:=fun vs H Q _=>∃(rl rm tg:Addr)(xs:List V)(rows:List (List Int))(room aa:List Int),vs=[.ref rl,.ref rm,.ref tg]/\H rl=some (.lst xs)/\RowsAt H xs rows/\rows.length<=300/\SqL K H rm (room.map V.int)/\Wr room/\SqL K H tg (aa.map V.int)/\aa.length<=900/\∀H',Same H H'->Q (.bl (Fi rows (BL room aa))) H'
section
theorem scRowsLead:Ao ["rows","room","target","lacking","alone"] ["rows","room","target"] (Ad Cb):=Bt
theorem KI(F:Fun K "rows_lead" "rows_lead" Cb f fd)(T:EV mg)(B:Bl mg)(HE:mg "enumerate"=none)(GF:FnOk P w K mg bz AH 1 g1 d1 ["one","other"] (Dy K))(CF:AL K mg "in_first_only" g1 d1 ["one","other"]):FnOk P w K mg bz AH 2 f fd ["rows","room","target"] (HN K):=by
 refine F.ok scRowsLead (fun vs H Q E h=>?_) (fun ai A outer s H vs Q E hr h=>?_)
 ·obtain⟨rl,rm,tg,xs,rows,room,aa,rfl,_⟩:=h
  rfl
 obtain⟨rl,rm,tg,xs,rows,room,aa,rfl,aM,hX,ag,hR,wr,hT,htl,q⟩:=h
 have lr:=wr.len
 have lx:=hX.len
 refine⟨_,Ac (M8 (i:=3) scRowsLead.nd rfl (Or.inl rfl) (N:=["world","rows"]) (js:=[none,some 0]) (cl:=[("rows",s.heap.objs.size+1)]) ⟨rfl,rfl,rfl,(by intro p hp;simp at hp;rcases hp with rfl<;>rfl),rfl,rfl,rfl⟩ (AS (Ah GF hr (by rfl) CF.m CF.k CF.b .nil Ak (Aa (pv 1) (Aa (pv 2) Ab)))) (fun c1=>(AC (i:=0) (show (["world","rows"]:List Str).Nodup by decide +kernel) rfl (Or.inr rfl))) (fun c1=>Bx) (fun c1=>(Bi (N:=["at","row","world"]) (js:=[none,none,some 0]) (cl:=[("world",c1.s.heap.objs.size+1+0)]) ⟨rfl,rfl,rfl,(by intro p hp;simp at hp;rcases hp with rfl<;>rfl),rfl,rfl,rfl⟩ (Ie (by rfl) HE (Aa (pv 1) Ab)) (fun c2=>(EQ rfl (Bf (AC (i:=0) (show (["at","row","world"]:List Str).Nodup by decide +kernel) rfl (Or.inl rfl)) (Bf (AC (i:=1) (show (["at","row","world"]:List Str).Nodup by decide +kernel) rfl (Or.inl rfl)) Dw)))) (fun c2=>(BW (Al Bb (pv 2) (pv 1) (by with_unfolding_all rfl)))) (fun c2=>(pv 0)))))
  (Ac (Fr (i:=4) scRowsLead.nd rfl (Or.inl rfl) (N:=["lacks"]) (js:=[none]) (cl:=[]) ⟨rfl,rfl,rfl,zCO _,rfl,rfl,rfl⟩ (AS (pv 3)) (fun c1=>(AC (i:=0) (show (["lacks"]:List Str).Nodup by decide +kernel) rfl (Or.inl rfl))) (fun c1=>(BW (Al AQ (Az Ay (by rfl) B.len PySem.boot_len (Aa (pv 0) Ab)) Ag (As _)))) (fun c1=>(AD AK (pv 0) Ag (fun _ _=>rfl))))
  (Ae (Ai (HJ (Bo (N8 hr.units9) (AI Ab) (pv 3) (by with_unfolding_all rfl)) (DB (Bo AQ (Az Nz (by rfl) B.len PySem.boot_len (Aa (AF (Ca rfl) (by rfl) T.set boot_set (Aa (pv 4) Ab)) Ab)) (Az Ay (by rfl) B.len PySem.boot_len (Aa (pv 0) Ab)) (As _))))))),?_⟩
 refine⟨_,rfl,_,rfl,rm,tg,room,aa,rfl,hR,hT,by omega,wr.2,htl,fun ol H1 ns s1 ol0 dm hmem bK=>?_⟩
 have fO:=DC wr dm hmem
 have lns:ns.length<=32:=by rw[fO];exact zAH (zAZ _ _) lr
 refine⟨ol,rfl,⟨_,SqL.of bK⟩,fun cc acc ah=>A1 (K:=K) (a:=ol) (xs:=ns.map V.int) (fun i σ H2=>∃v0 ys,σ=[v0,some (.ref rl)]/\Same H1 H2/\H2 acc=some (.lst ys)/\(∀y∈ys,y≠.ref acc)/\RowsAt H2 ys ((ns.map (BD rows)).take i)) ⟨none,[],rfl,Af ah _,upd_same,fun y hy=>by simp at hy,.nil⟩ ?_ ?_ ?_⟩
 ·rintro i σ H2 _ ⟨v0,ys,rfl,s2,_⟩
  exact SqL.of (s2 _ _ bK)
 ·rintro i x σ H2 hx ⟨v0,ys,rfl,s2,ha2,ho,hy2⟩
  rw[List.getElem?_map] at hx
  obtain⟨k,hk,rfl⟩:=Option.map_eq_some_iff.mp hx
  have hi:i<ns.length:=(List.getElem?_eq_some_iff.mp hk).1
  have t2:=s1.trans s2
  refine Sl ?_
  refine⟨_,rfl,rl,_,rfl,t2 _ _ aM,fun cc2 cR dt=>FA (a:=rl) (xs:=xs) (fun j σ H3=>∃v0 v1,σ=[v0,v1,some (.int k)]/\Same H2 H3/\H3 cR=some (.lst ((DV rows k j).map V.int))) ⟨none,none,rfl,Af dt _,upd_same⟩ ?_ ?_ ?_⟩
  ·rintro j σ H3 _ ⟨v0,v1,rfl,s3,_⟩
   exact (t2.trans s3) _ _ aM
  ·rintro j y T2 σ H3 hy je ⟨v0,v1,rfl,s3,h3⟩
   obtain⟨row,p,hrow,rfl,hp⟩:=hX.get hy
   have hj:j<rows.length:=(List.getElem?_eq_some_iff.mp hrow).1
   have sT:=Af je (.tup [.int (j:Nat),.ref p])
   have T2t:upd H3 T2 (.tup [.int (j:Nat),.ref p]) T2=some (.tup [.int (j:Nat),.ref p]):=upd_same
   generalize upd H3 T2 _=H4 at *
   have s4:=s3.trans sT
   refine⟨T2,_,rfl,SqT.of T2t,rfl,_,_,rfl,_,_,rfl,rfl,?_⟩
   have egd:rows.getD j []=row:=by rw[List.getD_eq_getElem?_getD,hrow];rfl
   refine⟨_,rfl,_,rfl,Bq (SqL.of ((t2.trans s4) _ _ hp)) ⟨_,rfl,?_⟩⟩
   rw[NA,egd]
   by_cases c:k∈row
   ·rw[decide_eq_true c,if_pos c,zBP]
    exact A7 ⟨_,_,rfl,s4,sT _ _ h3⟩
   ·rw[decide_eq_false c,if_neg c,zAM]
    refine Bh ⟨_,rfl,_,sT _ _ h3,AG ?_,_,_,rfl,AJ s4 dt _,upd_same⟩
    rw[List.length_map]
    have:=PU rows k j
    omega
  ·rintro σ H3 ⟨v0,v1,rfl,s3,h3⟩
   rw[lx] at h3
   have nacc:cR≠acc:=(An ha2 dt).symm
   refine⟨ys,s3 _ _ ha2,AG (by rw[hy2.len,List.length_take];omega),_,ys++[.ref cR],rfl,AJ (s2.trans s3) ah _,upd_same,fun y hy=>?_,?_⟩
   ·rcases List.mem_append.mp hy with z | z
    ·exact ho y z
    ·rw[List.mem_singleton.mp z]
     exact fun q=>nacc (V.ref.inj q)
   ·rw[zAT,List.getElem?_map,hk]
    refine rows_rev.rows_add ⟨cR,rfl,?_⟩ (Dp hy2 ho fun p' aA n' h'=>?_)
    ·show upd _ _ _ cR=_
     rw[Ax nacc]
     exact h3
    ·show upd _ _ _ p'=_
     rw[Ax n']
     exact s3 _ _ h'
 rintro σ H2 ⟨v0,ys,rfl,s2,ha2,ho,hy2⟩
 rw[List.length_map,zBX (by rw[List.length_map];exact zAA _)] at hy2
 refine E4 rfl ?_
 have t2:=s1.trans s2
 have ly:=hy2.len
 rw[List.length_map] at ly
 have ens':BL room aa=ns:=fO.symm
 rw[ens'] at q
 obtain⟨ls,hls⟩:∃ls,ls=ns.map (BD rows):=⟨_,rfl⟩
 have lls:ls.length=ns.length:=by rw[hls,List.length_map]
 rw[<-hls] at hy2
 refine⟨_,rfl,acc,rfl,⟨_,SqL.of ha2⟩,fun cc2 al gS=>A1 (K:=K) (a:=acc) (xs:=ys) (fun i σ H3=>∃v0,σ=[v0]/\Same H2 H3/\H3 al=some (.lst ((BK (ls.take i)).map V.int))) ⟨none,rfl,Af gS _,upd_same⟩ ?_ ?_ ?_⟩
 ·rintro i σ H3 _ ⟨v0,rfl,s3,_⟩
  exact SqL.of (s3 _ _ ha2)
 ·rintro i x σ H3 hx ⟨v0,rfl,s3,h3⟩
  obtain⟨l,p,hl,rfl,hp⟩:=hy2.get hx
  have hi:i<ys.length:=(List.getElem?_eq_some_iff.mp hx).1
  have fJ:=s3 _ _ hp
  refine⟨_,rfl,p,_,rfl,.inl (SqL.of fJ),rfl,_,rfl,?_⟩
  rw[L3 hl,List.length_map]
  by_cases c:l.length=1
  ·refine Bd (by rw[c];rfl) ?_
   rw[if_pos c,zAM]
   have h0:(l.map V.int)[0]? = some (.int (l.headD 0)):=by
    match l,c with
    | a::r,_=>rfl
   refine⟨_,rfl,p,_,_,_,rfl,rfl,SqL.of fJ,Aj (j:=0) h0,_,h3,AG ?_,_,rfl,AJ s3 gS _,upd_same⟩
   rw[List.length_map]
   have:=Iy (ls.take i)
   rw[List.length_take] at this
   omega
  ·refine A6 (fun e=>c (by injection e with e;omega)) ?_
   rw[if_neg c,zBP]
   exact⟨_,rfl,s3,h3⟩
 rintro σ H3 ⟨v0,rfl,s3,h3⟩
 rw[zBX (by omega)] at h3
 refine E4 rfl ?_
 refine⟨J1,fun e0 he0=>?_⟩
 have s4:=Af he0 (.lst [])
 have e04:upd H3 e0 (.lst []) e0=some (.lst []):=upd_same
 generalize upd H3 e0 _=H4 at *
 have t4:=s3.trans s4
 refine⟨_,rfl,e0,acc,ys,ls.map List.isEmpty,rfl,rfl,SqL.of e04,SqL.of (t4 _ _ ha2),by rw[List.length_map];omega,fun i v b hv hb=>?_,_,rfl,?_⟩
 ·obtain⟨l,p,hl,rfl,hp⟩:=hy2.get hv
  rw[List.getElem?_map,hl] at hb
  cases hb
  exact⟨p,_,rfl,SqL.of (t4 _ _ hp),by cases l<;>rfl⟩
 ·have eany:(ls.map List.isEmpty).any id=ls.any List.isEmpty:=by rw[zCJ];rfl
  rw[eany]
  cases hany:ls.any List.isEmpty with
  | true=>
   refine A7 ?_
   have e:Fi rows ns=false:=by unfold Fi;rw[<-hls,hany];rfl
   rw[e] at q
   exact q _ (t2.trans t4)
  | false=>
   refine Bh ?_
   refine⟨_,rfl,al,BK ls,rfl,SqL.of (s4 _ _ h3),(by have:=Iy ls;omega),fun sa hsa=>?_⟩
   refine⟨sa,_,_,rfl,upd_same,fun ks nd hk=>?_⟩
   have s5:=Af hsa (Bn w sa (fun k=>decide (k∈BK ls)) (BK ls).length)
   refine⟨_,rfl,rl,_,rfl,.inl (SqL.of ((t2.trans (t4.trans s5)) _ _ aM)),rfl,?_⟩
   have e:decide (V.int ((ks.length:Nat):Int)=V.int ((xs.length:Nat):Int))=Fi rows ns:=by
    unfold Fi
    rw[<-hls,hany]
    show _=(true && _)
    rw[zB]
    refine decide_eq_decide.mpr ?_
    have h:=P3 (n:=rows.length) nd hk (by rw[hls];exact Qt)
    constructor
    ·intro e
     injection e with e
     exact h.mp (by omega)
    ·intro e
     rw[h.mpr e,lx]
   rw[e]
   exact q _ (t2.trans (t4.trans s5))
end
def G0(ps:List Int)(n:Nat):Prop:=ps.Pairwise (· < ·)/\∀p∈ps,0<=p/\p<n
instance(ps:List Int)(n:Nat):Decidable (G0 ps n):=inferInstanceAs (Decidable (_/\_))
def Ha(rows:List (List Int))(ps:List Int):List (List Int):=ps.map fun p=>rows.getD p.toNat []
def DQ(ps:List Int)(rows:List (List Int))(ns:List Int):Bool:=decide (G0 ps rows.length) && Fi (Ha rows ps) ns
def K1(K:PySem.W.Frag):Sp:=fun vs H Q _=>∃(pl rl rm tg:Addr)(ps:List Int)(xs:List V)(rows:List (List Int))(room aa:List Int),vs=[.ref pl,.ref rl,.ref rm,.ref tg]/\SqL K H pl (ps.map V.int)/\ps.length<=200/\(∀p∈ps,-1<=p/\p<62)/\H rl=some (.lst xs)/\RowsAt H xs rows/\SqL K H rm (room.map V.int)/\Wr room/\SqL K H tg (aa.map V.int)/\aa.length<=900/\∀H',Same H H'->Q (.bl (DQ ps rows (BL room aa))) H'
section
theorem OU:Ao ["places","rows","room","target"] ["places","rows","room","target"] (Ad Eu):=Bt
theorem Nf(F:Fun K "places_hold" "places_hold" Eu f fd)(T:EV mg)(B:Bl mg)(GL:FnOk P w K mg bz AH 2 g1 d1 ["rows","room","target"] (HN K))(CL:AL K mg "rows_lead" g1 d1 ["rows","room","target"]):FnOk P w K mg bz AH 3 f fd ["places","rows","room","target"] (K1 K):=by
 refine F.ok OU (fun vs H Q E h=>?_) (fun ai A outer s H vs Q E hr h=>?_)
 ·obtain⟨pl,rl,rm,tg,ps,xs,rows,room,aa,rfl,_⟩:=h
  rfl
 obtain⟨pl,rl,rm,tg,ps,xs,rows,room,aa,rfl,ar,hZ,hpb,aM,hX,hR,wr,hT,htl,q⟩:=h
 have lx:=hX.len
 refine⟨_,Ac (AB (PW.pt (Gx (Al (Sv hr.units9) (pv 0) (Az (Jx rfl) (by rfl) T.sorted boot_sorted (Aa (AF (Ca rfl) (by rfl) T.set boot_set (Aa (pv 0) Ab)) Ab)) (As _)) (EU (BO (Bg (Az (Iq rfl) (by rfl) T.all boot_all (Aa (Bi (N:=["place","rows"]) (js:=[none,some 1]) (cl:=[("rows",s.heap.objs.size+1)]) ⟨rfl,rfl,rfl,(by intro p hp;simp at hp;rcases hp with rfl<;>rfl),rfl,rfl,rfl⟩ (AS (pv 0)) (fun c1=>(AC (i:=0) (show (["place","rows"]:List Str).Nodup by decide +kernel) rfl (Or.inl rfl))) (fun c1=>Bx) (fun c1=>(Bo Pt (pv 0) (AF CU (by rfl) T.rng boot_range (Aa (Az Ay (by rfl) B.len PySem.boot_len (Aa (pv 1) Ab)) Ab)) (by with_unfolding_all rfl)))) Ab)))))))
   (Ae (Ai BQ))
   Ap)
  (Ae (Ai (Ah GL hr (by rfl) CL.m CL.k CL.b .nil Ak (Aa (Bi (N:=["place","rows"]) (js:=[none,some 1]) (cl:=[("rows",s.heap.objs.size+1)]) ⟨rfl,rfl,rfl,(by intro p hp;simp at hp;rcases hp with rfl<;>rfl),rfl,rfl,rfl⟩ (AS (pv 0)) (fun c1=>(AC (i:=0) (show (["place","rows"]:List Str).Nodup by decide +kernel) rfl (Or.inl rfl))) (fun c1=>Bx) (fun c1=>(AD AK (pv 1) (pv 0) (fun _ _=>rfl)))) (Aa (pv 2) (Aa (pv 3) Ab)))))),?_⟩
 refine⟨_,rfl,_,rfl,pl,ps,rfl,ar,by omega,fun sa hsa=>?_⟩
 generalize hU:upd H sa _=H1
 have s1:Same H H1:=by rw[<-hU];exact Af hsa _
 have sa1:H1 sa=some (Bn w sa (fun k=>decide (k∈ps)) ps.length):=by rw[<-hU];exact upd_same
 refine⟨sa,_,_,rfl,sa1,fun k hk=>hpb k (of_decide_eq_true hk),fun sl ns aX dm hmem=>?_⟩
 have s2:=Af aX (.lst (ns.map V.int))
 have iK:upd H1 sl (.lst (ns.map V.int)) sl=some (.lst (ns.map V.int)):=upd_same
 generalize upd H1 sl _=H2 at *
 have t2:=s1.trans s2
 refine⟨pl,sl,ps,ns,rfl,rfl,t2.seq ar,SqL.of iK,_,rfl,?_⟩
 by_cases c:ps=ns
 ·refine IP c ?_
  have hup':ps.Pairwise (· < ·):=by rw[c];exact dm
  refine⟨_,rfl,pl,rfl,⟨_,t2.seq ar⟩,fun cc acc ah=>BR (f:=fun k=>decide (0<=k/\k<((xs.length:Nat):Int))) (rest:=[some (.ref rl)]) (t2.seq ar) ah (by omega) (fun k hk H3 s3 R3 gW=>?_) (fun v0 H3 s3 h3=>?_) none⟩
  ·exact⟨_,rfl,_,rfl,rl,_,rfl,.inl (SqL.of ((t2.trans s3) _ _ aM)),_,rfl,fun r aE=>⟨k,_,r,rfl,rfl,upd_same,gW _ (Af aE _)⟩⟩
  have t3:=t2.trans s3
  refine⟨acc,_,rfl,SqL.of h3,_,rfl,?_⟩
  by_cases aq:∀p∈ps,0<=p/\p<((xs.length:Nat):Int)
  ·have e1:(ps.map fun k=>decide (0<=k/\k<((xs.length:Nat):Int))).all id=true:=by
    rw[zDQ,zA0]
    intro k hk
    exact decide_eq_true (aq k hk)
   rw[e1]
   refine A7 ?_
   refine⟨_,rfl,pl,rfl,⟨_,t3.seq ar⟩,fun cc2 ac2 fH=>A1 (K:=K) (a:=pl) (xs:=ps.map V.int) (fun i σ H4=>∃v0 zs,σ=[v0,some (.ref rl)]/\Same H3 H4/\H4 ac2=some (.lst zs)/\RowsAt H3 zs (Ha rows (ps.take i))) ⟨none,[],rfl,Af fH _,upd_same,.nil⟩ ?_ ?_ ?_⟩
   ·rintro i σ H4 _ ⟨v0,zs,rfl,s4,_⟩
    exact (t3.trans s4).seq ar
   ·rintro i x σ H4 hx ⟨v0,zs,rfl,s4,h4,hz⟩
    rw[List.getElem?_map] at hx
    obtain⟨k,hk,rfl⟩:=Option.map_eq_some_iff.mp hx
    have hi:i<ps.length:=(List.getElem?_eq_some_iff.mp hk).1
    obtain⟨ir,hk1⟩:=aq k (zAQ hk)
    obtain⟨n,hn⟩:=zBH ir
    have fU:n<xs.length:=by omega
    have hxn:xs[n]? = some xs[n]:=List.getElem?_eq_getElem fU
    obtain⟨row,p,hrow,hxp,hp⟩:=hX.get hxn
    rw[hxp] at hxn
    have lz:=hz.len
    have lp:(Ha rows (ps.take i)).length<=200:=by unfold Ha;rw[List.length_map,List.length_take];omega
    refine Sl ?_
    refine⟨_,rfl,_,rfl,rl,_,_,_,rfl,rfl,SqL.of ((t3.trans s4) _ _ aM),(by rw[hn];exact Aj hxn),zs,h4,AG (by omega),_,zs++[.ref p],rfl,AJ s4 fH _,upd_same,?_⟩
    have et:Ha rows (ps.take (i+1))=Ha rows (ps.take i)++[row]:=by
     unfold Ha
     rw[zAT,hk,zAM]
     show _++[rows.getD k.toNat []]=_
     rw[show k.toNat=n by omega,List.getD_eq_getElem?_getD,hrow]
     rfl
    rw[et]
    exact rows_rev.rows_add ⟨p,rfl,t3 _ _ hp⟩ hz
   ·rintro σ H4 ⟨v0,zs,rfl,s4,h4,hz⟩
    rw[List.length_map,zAX] at hz
    have t4:=t3.trans s4
    refine⟨_,rfl,_,rfl,ac2,rm,tg,zs,Ha rows ps,room,aa,rfl,h4,hz.keep s4,(by unfold Ha;rw[List.length_map];omega),t4.seq hR,wr,t4.seq hT,htl,fun H5 s5=>?_⟩
    have e:DQ ps rows (BL room aa)=Fi (Ha rows ps) (BL room aa):=by
     unfold DQ
     rw[decide_eq_true (p:=G0 ps rows.length) (⟨hup',fun p hp=>by have:=aq p hp;rw[lx] at this;exact this⟩:G0 ps rows.length),zB]
    rw[<-e]
    exact q _ (t4.trans s5)
  ·have e1:(ps.map fun k=>decide (0<=k/\k<((xs.length:Nat):Int))).all id=false:=by
    rw[zDQ,List.all_eq_false]
    refine zA2 fun hn=>aq fun p hp=>zA2 fun hc=>hn ⟨p,hp,?_⟩
    show ¬decide _=true
    rw[decide_eq_false hc]
    decide
   rw[e1]
   refine Bh ?_
   have e:DQ ps rows (BL room aa)=false:=by
    unfold DQ
    rw[decide_eq_false fun z:G0 ps rows.length=>aq fun p hp=>by have:=z.2 p hp;rw[lx];exact this]
    rfl
   rw[e] at q
   exact q _ t3
 ·refine MG c ?_
  refine Bh ?_
  have e:DQ ps rows (BL room aa)=false:=by
   unfold DQ
   rw[decide_eq_false fun z=>c (DJ z.1 dm fun k=>by rw[hmem k,decide_eq_true_iff])]
   rfl
  rw[e] at q
  exact q _ t2
end
abbrev Dl:Stmt:=Bu 45
inductive Pap where
 | pl (z:Str) (ps:List Int)
 | fr (one other:Int)
 | br (one other k:Int)
def PapAt(H:Hp)(p:Addr):Pap->Prop
 | .pl z ps=>∃l,H p=some (.tup [.str z,.ref l])/\H l=some (.lst (ps.map V.int))
 | .fr a b=>H p=some (.tup [.str "free",.int a,.int b])
 | .br a b k=>H p=some (.tup [.str "barred",.int a,.int b,.int k])
def Pap.ok:Pap->Prop
 | .pl z ps=>(z="follows"\/z="contrary")/\ps.length<=200/\∀p∈ps,-1<=p/\p<62
 | _=>True
theorem PapAt.keep(s:Same H H')(h:PapAt H p x):PapAt H' p x:=by
 cases x with
 | pl z ps=>
  obtain⟨l,h1,h2⟩:=h
  exact⟨l,s _ _ h1,s _ _ h2⟩
 | fr a b=>exact s _ _ h
 | br a b k=>exact s _ _ h
def EH(W:Ta)(t:Tr)(seen:List Int):Pap->Bool
 | .pl z ps=>DQ ps (AT W) (BL W.room (if z="follows" then AA true t W.room else AA false t W.room))
 | .fr a b=>decide (a∈AA true t W.going) && (decide (b∈AA false t W.going) && decide ([V.str "free",.int a,.int b]=BE W.sides W.going seen (AA true t W.room) a b))
 | .br a b k=>decide (a∈AA true t W.going) && (decide (b∈AA false t W.going) && decide ([V.str "barred",.int a,.int b,.int k]=BE W.sides W.going seen (AA true t W.room) a b))
def IH(K:PySem.W.Frag)(C:Addr):Sp:=fun vs H Q _=>∃(a sn p:Addr)(v:V)(M:List Addr)(U:Tk)(W:Ta)(t:Tr)(seen:List Int)(x:Pap),vs=[.ref a,v,.ref sn,.ref p]/\TalkAt M C H a U W/\(∀e∈W.ents,e.2.1.ok 5/\e.2.1.size<=800)/\t.At H v/\t.ok 5/\t.size<=60/\SqL K H sn (seen.map V.int)/\Wr seen/\seen≠[]/\W.ended=false/\t.ok W.many/\PapAt H p x/\x.ok/\∀H',Same H H'->Q (.bl (EH W t seen x)) H'
theorem K0(sides:List (List Int))(going seen aH:List Int)(one other:Int):∀v∈BE sides going seen aH one other,SI v:=by
 unfold BE
 split<;>intro v hv<;>simp only[zAS,zAR,or_false] at hv
 ·rcases hv with rfl | rfl | rfl
  ·exact .inr ⟨_,rfl⟩
  ·exact .inl ⟨_,rfl⟩
  ·exact .inl ⟨_,rfl⟩
 ·rcases hv with rfl | rfl | rfl | rfl
  ·exact .inr ⟨_,rfl⟩
  ·exact .inl ⟨_,rfl⟩
  ·exact .inl ⟨_,rfl⟩
  ·exact .inl ⟨_,rfl⟩
section
variable {cK cS cO:Addr}
theorem scPapHold:Ao ["talk","sentence","seen","paper","room","inside","one","other"] ["talk","sentence","seen","paper"] (Ad Dl):=Bt
theorem Mb(F:Fun K "paper_holds" "paper_holds" Dl f fd)(TX:J0 K cK)(GO:FnOk P w K mg bz (Gd P w) 2 g1 d1 ["talk"] (D9 cK cO))(CO:AL K mg "refuse_over" g1 d1 ["talk"])(GR:FnOk P w K mg bz (Gd P w) 3 g2 d2 ["sentence","many"] (DR cS))(CR:AL K mg "refuse_strange" g2 d2 ["sentence","many"])(GW:FnOk P w K mg bz AH 3 g3 d3 ["sentence","room"] (BB K))(CW:AL K mg "worlds_of" g3 d3 ["sentence","room"])(GB:FnOk P w K mg bz AH 1 g4 d4 ["one","other"] (EO K))(CB:AL K mg "in_both" g4 d4 ["one","other"])(GF:FnOk P w K mg bz AH 1 g5 d5 ["one","other"] (Dy K))(CF:AL K mg "in_first_only" g5 d5 ["one","other"])(GL:FnOk P w K mg bz AH 3 g6 d6 ["places","rows","room","target"] (K1 K))(CL:AL K mg "places_hold" g6 d6 ["places","rows","room","target"])(GP:FnOk P w K mg bz AH 5 g7 d7 ["talk"] (JE cK))(CP:AL K mg "open_places" g7 d7 ["talk"])(GX:FnOk P w K mg bz AH 5 g8 d8 ["talk","seen","inside","one","other"] (HU K cK))(CX:AL K mg "worlds_paper" g8 d8 ["talk","seen","inside","one","other"])(G1:FnOk P w K mg bz AH 1 m1 e1 ["self"] (Hi cK))(C1:BY K cK "room" m1 e1 ["self"])(G2:FnOk P w K mg bz AH 2 m2 e2 ["self"] (DZ cK))(C2:BY K cK "going" m2 e2 ["self"]):FnOk P w K mg bz (Gd P w) 6 f fd ["talk","sentence","seen","paper"] (IH K cK):=by
 refine Fun.okX F scPapHold (fun vs H Q E h=>?_) (fun ai A outer s H vs Q E hr h=>?_)
 ·obtain⟨a,sn,p,v,M,U,W,t,seen,x,rfl,_⟩:=h
  rfl
 obtain⟨a,sn,p,v,M,U,W,t,seen,x,rfl,hT,hok,ha,bL,aw,hN,wN,ci,hen,aG,hp,hx,q⟩:=h
 have ak:Room 1 _:=hr.mono (by decide)
 have aE:Room 2 _:=hr.mono (by decide)
 have ba:Room 3 _:=hr.mono (by decide)
 have iV:Room 5 _:=hr.mono (by decide)
 refine⟨_,Ac (AW (Ah GO aE (by rfl) CO.m CO.k CO.b .nil (BN (E1:=E) fun _ _ _ h=>h) (Aa (pv 0) Ab)))
  (Ac (AW (Ah GR ba (by rfl) CR.m CR.k CR.b .nil (BN (E1:=E) fun _ _ _ h=>h) (Aa (pv 1) (Aa (Bp (pv 0) rfl) Ab))))
  (Ac (Ar (i:=4) scPapHold.nd rfl (Or.inl rfl) (A0 (pv 0) TX.cl C1.m G1 ak C1.b .nil Ak))
  (Ac (Ar (i:=5) scPapHold.nd rfl (Or.inl rfl) (Ah GW ba (by rfl) CW.m CW.k CW.b .nil Ak (Aa (pv 1) (Aa (pv 4) Ab))))
  (Ac (AB (Al AQ (AD AN (pv 3) Ag (fun _ _=>rfl)) Av (As _))
   (Ae (Ai (Ah GL ba (by rfl) CL.m CL.k CL.b .nil Ak (Aa (AD AN (pv 3) Ag (fun _ _=>rfl)) (Aa (Ah GP iV (by rfl) CP.m CP.k CP.b .nil Ak (Aa (pv 0) Ab)) (Aa (pv 4) (Aa (pv 5) Ab)))))))
   Ap)
  (Ac (AB (Al AQ (AD AN (pv 3) Ag (fun _ _=>rfl)) Av (As _))
   (Ae (Ai (Ah GL ba (by rfl) CL.m CL.k CL.b .nil Ak (Aa (AD AN (pv 3) Ag (fun _ _=>rfl)) (Aa (Ah GP iV (by rfl) CP.m CP.k CP.b .nil Ak (Aa (pv 0) Ab)) (Aa (pv 4) (Aa (Ah GF ak (by rfl) CF.m CF.k CF.b .nil Ak (Aa (pv 4) (Aa (pv 5) Ab))) Ab)))))))
   Ap)
  (Ac (OJ (E6 QE (pv 3) (Fc Ag) (Fc Ag)) (EQ rfl (Bf (AC (i:=6) scPapHold.nd rfl (Or.inl rfl)) (Bf (AC (i:=7) scPapHold.nd rfl (Or.inl rfl)) Dw))))
  (Ac (AB (Gx (Al Bb (pv 6) (Ah GB ak (by rfl) CB.m CB.k CB.b .nil Ak (Aa (A0 (pv 0) TX.cl C2.m G2 aE C2.b .nil Ak) (Aa (pv 5) Ab))) (by with_unfolding_all rfl)) (EU (Al Bb (pv 7) (Ah GF ak (by rfl) CF.m CF.k CF.b .nil Ak (Aa (A0 (pv 0) TX.cl C2.m G2 aE C2.b .nil Ak) (Aa (pv 5) Ab))) (by with_unfolding_all rfl)))).pt
   (Ae (Ai BQ))
   Ap)
  (Ae (Ai (Bo (RH hr.units9) (pv 3) (Ah GX iV (by rfl) CX.m CX.k CX.b .nil Ak (Aa (pv 0) (Aa (pv 2) (Aa (pv 5) (Aa (pv 6) (Aa (pv 7) Ab)))))) (As _))))))))))),?_⟩
 refine⟨_,rfl,a,M,U,W,rfl,hT,(fun z=>by rw[hen] at z;cases z),fun he=>?_⟩
 refine⟨_,rfl,_,rfl,a,cK,_,_,_,rfl,hT.ob,TX.cl,TX.many,JS,v,t,W.many,rfl,ha,bL,aw,(fun z=>absurd aG z),fun _ H1 s1=>?_⟩
 have T1:=hT.keep s1
 refine⟨_,rfl,a,_,_,rfl,T1.ob,Jt,a,M,U,W,rfl,T1,fun rm H2 s2 rm0 cj=>?_⟩
 have t2:=s1.trans s2
 refine⟨_,rfl,_,rfl,v,t,rm,W.room,rfl,ha.keep (TS.same t2),bL,by omega,SqL.of cj,hT.wr,fun il H3 s3 il0 aZ=>?_⟩
 have aZ:AM H3 il (AA true t W.room):=aZ
 have wil:Wr (AA true t W.room):=Ei hT.wr
 have lil:=wil.len
 have t3:=t2.trans s3
 have T3:=hT.keep t3
 have bM:=hT.going_sub
 have wg:=hT.going_wr
 have lg:=wg.len
 have fJ:=hp.keep t3
 have hrm3:=s3 _ _ cj
 cases x with
 | pl z ps=>
  obtain⟨l,au,ar⟩:=fJ
  obtain⟨hz,dj,hpb⟩:=hx
  refine⟨_,rfl,p,_,_,_,rfl,rfl,SqT.of au,Aj (j:=0) rfl,rfl,_,rfl,?_⟩
  rcases hz with rfl | rfl
  ·refine Bd rfl ?_
   refine⟨_,rfl,p,_,_,_,rfl,rfl,SqT.of au,Aj (j:=1) rfl,_,rfl,a,M,U,W,rfl,T3,hok,fun ol oxs H4 s4 ol0 bK hoR=>?_⟩
   exact⟨_,rfl,_,rfl,l,ol,rm,il,ps,oxs,AT W,W.room,_,rfl,SqL.of (s4 _ _ ar),dj,hpb,bK,hoR,SqL.of (s4 _ _ hrm3),hT.wr,SqL.of (s4 _ _ aZ),by omega,fun H5 s5=>q _ (t3.trans (s4.trans s5))⟩
  ·refine A6 (fun z=>by injection z with z;revert z;decide) ?_
   refine⟨_,rfl,p,_,_,_,rfl,rfl,SqT.of au,Aj (j:=0) rfl,rfl,_,rfl,?_⟩
   refine Bd rfl ?_
   refine⟨_,rfl,p,_,_,_,rfl,rfl,SqT.of au,Aj (j:=1) rfl,_,rfl,a,M,U,W,rfl,T3,hok,fun ol oxs H4 s4 ol0 bK hoR=>?_⟩
   refine⟨_,rfl,_,rfl,_,rfl,rm,il,W.room,_,rfl,SqL.of (s4 _ _ hrm3),SqL.of (s4 _ _ aZ),hT.wr.len,hT.wr.2,by omega,fun fl H5 ns3 s5 eL hup3 hV bC=>?_⟩
   have ens3:ns3=AA false t W.room:=(DC hT.wr hup3 hV).trans (DE (zBA _))
   rw[ens3] at bC
   have lfl:=(Ei (b:=false) (t:=t) hT.wr).len
   have s45:=s4.trans s5
   exact⟨l,ol,rm,fl,ps,oxs,AT W,W.room,_,rfl,SqL.of (s45 _ _ ar),dj,hpb,s5 _ _ bK,hoR.keep s5,SqL.of (s45 _ _ hrm3),hT.wr,SqL.of bC,by omega,fun H6 s6=>q _ (t3.trans (s45.trans s6))⟩
 | fr one other=>
  have au:H3 p=some (.tup [.str "free",.int one,.int other]):=fJ
  have scx:∀v∈([.str "free",.int one,.int other]:List V),SI v:=fun v hv=>by
   simp only[zAS,zAR,or_false] at hv
   rcases hv with rfl | rfl | rfl
   ·exact .inr ⟨_,rfl⟩
   ·exact .inl ⟨_,rfl⟩
   ·exact .inl ⟨_,rfl⟩
  refine⟨_,rfl,p,_,_,_,rfl,rfl,SqT.of au,Aj (j:=0) rfl,rfl,_,rfl,A6 (fun z=>by injection z with z;revert z;decide) ?_⟩
  refine⟨_,rfl,p,_,_,_,rfl,rfl,SqT.of au,Aj (j:=0) rfl,rfl,_,rfl,A6 (fun z=>by injection z with z;revert z;decide) ?_⟩
  refine⟨_,rfl,1,rfl,3,rfl,p,_,rfl,SqT.of au,(by rintro⟨z,_⟩;revert z;show ¬HT.sIx 3 0 (some 1)=0;decide),fun tp htp=>?_⟩
  rw[show DX [V.str "free",.int one,.int other] (some 1) (some 3)=[.int one,.int other] from rfl]
  have s4:=Af htp (.tup [.int one,.int other])
  refine⟨tp,[.int one,.int other],rfl,SqT.of upd_same,rfl,_,_,rfl,_,_,rfl,rfl,?_⟩
  have t4:=t3.trans s4
  have eM:=s4 _ _ aZ
  have hpt4:=s4 _ _ au
  generalize upd H3 tp _=H4 at *
  have T4:=hT.keep t4
  refine⟨_,rfl,_,rfl,a,_,_,rfl,T4.ob,B5,a,M,U,W,rfl,T4,fun gl H5 s5 gl0 fh=>?_⟩
  refine⟨_,rfl,gl,il,W.going,_,rfl,SqL.of fh,SqL.of (s5 _ _ eM),by omega,by omega,fun gi H6 ns s6 gi0 dm hmem jF=>?_⟩
  have fO:ns=AA true t W.going:=(EN wg dm hmem).trans (HL bM)
  rw[fO] at jF
  have s46:=s5.trans s6
  have T6:=T4.keep s46
  refine Bq (SqL.of jF) ⟨_,rfl,?_⟩
  by_cases c1:one∈AA true t W.going
  ·rw[decide_eq_true c1]
   refine A7 ?_
   refine⟨_,rfl,_,rfl,a,_,_,rfl,T6.ob,B5,a,M,U,W,rfl,T6,fun gl2 H7 s7 gl20 hJ=>?_⟩
   have s47:=s46.trans s7
   refine⟨_,rfl,gl2,il,W.going,_,rfl,SqL.of hJ,SqL.of (s47 _ _ eM),lg,wg.2,by omega,fun go H8 ns2 s8 go0 eJ bU gb=>?_⟩
   have eK:ns2=AA false t W.going:=(DC wg eJ bU).trans (DE bM)
   rw[eK] at gb
   have gj:=s47.trans s8
   have T8:=T4.keep gj
   refine Bq (SqL.of gb) ⟨_,rfl,?_⟩
   by_cases c2:other∈AA false t W.going
   ·rw[decide_eq_true c2]
    refine A7 ?_
    refine⟨_,rfl,_,rfl,_,rfl,_,rfl,_,rfl,_,rfl,a,sn,il,one,other,M,U,W,seen,_,rfl,T8,(t4.trans gj).seq hN,wN,ci,SqL.of (gj _ _ eM),wil,fun p2 H9 s9 p20 cf=>?_⟩
    refine⟨p,p2,_,_,rfl,rfl,SqT.of ((gj.trans s9) _ _ hpt4),SqT.of cf,scx,K0 _ _ _ _ _ _,?_⟩
    have e:=q _ (t4.trans (gj.trans s9))
    simp only[EH] at e
    rw[decide_eq_true c1,decide_eq_true c2,zB,zB] at e
    exact e
   ·rw[decide_eq_false c2]
    refine Bh ?_
    have e:=q _ (t4.trans gj)
    simp only[EH] at e
    rw[decide_eq_false c2,zBS,zCH] at e
    exact e
  ·rw[decide_eq_false c1]
   refine Bh ?_
   have e:=q _ (t4.trans s46)
   simp only[EH] at e
   rw[decide_eq_false c1,zBS] at e
   exact e
 | br one other k=>
  have au:H3 p=some (.tup [.str "barred",.int one,.int other,.int k]):=fJ
  have scx:∀v∈([.str "barred",.int one,.int other,.int k]:List V),SI v:=fun v hv=>by
   simp only[zAS,zAR,or_false] at hv
   rcases hv with rfl | rfl | rfl | rfl
   ·exact .inr ⟨_,rfl⟩
   ·exact .inl ⟨_,rfl⟩
   ·exact .inl ⟨_,rfl⟩
   ·exact .inl ⟨_,rfl⟩
  refine⟨_,rfl,p,_,_,_,rfl,rfl,SqT.of au,Aj (j:=0) rfl,rfl,_,rfl,A6 (fun z=>by injection z with z;revert z;decide) ?_⟩
  refine⟨_,rfl,p,_,_,_,rfl,rfl,SqT.of au,Aj (j:=0) rfl,rfl,_,rfl,A6 (fun z=>by injection z with z;revert z;decide) ?_⟩
  refine⟨_,rfl,1,rfl,3,rfl,p,_,rfl,SqT.of au,(by rintro⟨z,_⟩;revert z;show ¬HT.sIx 4 0 (some 1)=0;decide),fun tp htp=>?_⟩
  rw[show DX [V.str "barred",.int one,.int other,.int k] (some 1) (some 3)=[.int one,.int other] from rfl]
  have s4:=Af htp (.tup [.int one,.int other])
  refine⟨tp,[.int one,.int other],rfl,SqT.of upd_same,rfl,_,_,rfl,_,_,rfl,rfl,?_⟩
  have t4:=t3.trans s4
  have eM:=s4 _ _ aZ
  have hpt4:=s4 _ _ au
  generalize upd H3 tp _=H4 at *
  have T4:=hT.keep t4
  refine⟨_,rfl,_,rfl,a,_,_,rfl,T4.ob,B5,a,M,U,W,rfl,T4,fun gl H5 s5 gl0 fh=>?_⟩
  refine⟨_,rfl,gl,il,W.going,_,rfl,SqL.of fh,SqL.of (s5 _ _ eM),by omega,by omega,fun gi H6 ns s6 gi0 dm hmem jF=>?_⟩
  have fO:ns=AA true t W.going:=(EN wg dm hmem).trans (HL bM)
  rw[fO] at jF
  have s46:=s5.trans s6
  have T6:=T4.keep s46
  refine Bq (SqL.of jF) ⟨_,rfl,?_⟩
  by_cases c1:one∈AA true t W.going
  ·rw[decide_eq_true c1]
   refine A7 ?_
   refine⟨_,rfl,_,rfl,a,_,_,rfl,T6.ob,B5,a,M,U,W,rfl,T6,fun gl2 H7 s7 gl20 hJ=>?_⟩
   have s47:=s46.trans s7
   refine⟨_,rfl,gl2,il,W.going,_,rfl,SqL.of hJ,SqL.of (s47 _ _ eM),lg,wg.2,by omega,fun go H8 ns2 s8 go0 eJ bU gb=>?_⟩
   have eK:ns2=AA false t W.going:=(DC wg eJ bU).trans (DE bM)
   rw[eK] at gb
   have gj:=s47.trans s8
   have T8:=T4.keep gj
   refine Bq (SqL.of gb) ⟨_,rfl,?_⟩
   by_cases c2:other∈AA false t W.going
   ·rw[decide_eq_true c2]
    refine A7 ?_
    refine⟨_,rfl,_,rfl,_,rfl,_,rfl,_,rfl,_,rfl,a,sn,il,one,other,M,U,W,seen,_,rfl,T8,(t4.trans gj).seq hN,wN,ci,SqL.of (gj _ _ eM),wil,fun p2 H9 s9 p20 cf=>?_⟩
    refine⟨p,p2,_,_,rfl,rfl,SqT.of ((gj.trans s9) _ _ hpt4),SqT.of cf,scx,K0 _ _ _ _ _ _,?_⟩
    have e:=q _ (t4.trans (gj.trans s9))
    simp only[EH] at e
    rw[decide_eq_true c1,decide_eq_true c2,zB,zB] at e
    exact e
   ·rw[decide_eq_false c2]
    refine Bh ?_
    have e:=q _ (t4.trans gj)
    simp only[EH] at e
    rw[decide_eq_false c2,zBS,zCH] at e
    exact e
  ·rw[decide_eq_false c1]
   refine Bh ?_
   have e:=q _ (t4.trans s46)
   simp only[EH] at e
   rw[decide_eq_false c1,zBS] at e
   exact e
end
abbrev Dn:Stmt:=Bu 76
abbrev Ed:Stmt:=Bu 77
abbrev Fj(pn:List Nat):List V:=pn.map fun p=>V.int (p:Nat)
def Rl(n last:Int)(qs:List Int):Prop:=qs.Pairwise (· < ·)/\∀p∈qs,last<p/\p<n
theorem MQ:Rl n last (p::qs)↔(last<p/\p<n)/\Rl n p qs:=by
 constructor
 ·rintro⟨h1,h2⟩
  obtain⟨h3,h4⟩:=List.pairwise_cons.mp h1
  exact⟨h2 p List.mem_cons_self,h4,fun a ha=>⟨h3 a ha,(h2 a (List.mem_cons_of_mem _ ha)).2⟩⟩
 ·rintro⟨⟨h1,h2⟩,h3,h4⟩
  refine⟨List.pairwise_cons.mpr ⟨fun a ha=>(h4 a ha).1,h3⟩,fun a ha=>?_⟩
  rcases List.mem_cons.mp ha with rfl | ha
  ·exact⟨h1,h2⟩
  ·have:=h4 a ha
   omega
theorem RB:G0 ps n↔Rl n (-1) ps:=by
 constructor
 ·rintro⟨h1,h2⟩
  exact⟨h1,fun p hp=>by have:=h2 p hp;omega⟩
 ·rintro⟨h1,h2⟩
  exact⟨h1,fun p hp=>by have:=h2 p hp;omega⟩
theorem Hx:∀{ps:List Int},(∀p∈ps,0<=p)->ps=(ps.map Int.toNat).map fun p=>((p:Nat):Int)
 | [],_=>rfl
 | p::ps,h=>by
  show p::ps=((p.toNat:Nat):Int)::(ps.map Int.toNat).map _
  rw[<-Hx fun q hq=>h q (List.mem_cons_of_mem _ hq),Int.toNat_of_nonneg (h p List.mem_cons_self)]
def B8(room:List Int)(rows:List (List Int))(pn:List Nat)(aN:List Int):Bool:=((AV room (pn.map fun p=>rows.getD p [])).all fun k=>decide (k∈aN)) && pn.all fun p=>(AV room ((pn.filter fun p'=>decide (p'≠p)).map fun p=>rows.getD p [])).any fun k=>!decide (k∈aN)
def EJ(ps:List Int)(rows:List (List Int))(room aN:List Int):Bool:=decide (G0 ps rows.length) && B8 room rows (ps.map Int.toNat) aN
def IY:Sp:=fun vs H Q _=>∃(pl:Addr)(ps:List Int)(n:Nat),vs=[.ref pl,.int 0,.int (n:Nat)]/\H pl=some (.lst (ps.map V.int))/\Q (.bl (decide (G0 ps n))) H
def J6(K:PySem.W.Frag):Sp:=fun vs H Q _=>∃(rm rl pl am:Addr)(room aN:List Int)(xs:List V)(rows:List (List Int))(ps:List Int),vs=[.ref rm,.ref rl,.ref pl,.ref am,.int 0]/\SqL K H rm (room.map V.int)/\room.length<=900/\SqL K H rl xs/\RowsAt H xs rows/\H pl=some (.lst (ps.map V.int))/\ps.length<=900/\SqL K H am (aN.map V.int)/\∀(H':Hp),Same H H'->Q (.bl (EJ ps rows room aN)) H'
section
theorem scLrising:Ao ["_law_places_here","_law_low","_law_bound","_law_last_here","_law_place"] ["_law_places_here","_law_low","_law_bound"] (Ad Dn):=Bt
theorem Lj(F:Fun K "_law_rising" "_law_rising" Dn f fd)(T:EV mg)(GW:FnOk P w K mg bz AH 1 g gd ["_law_found"] MA)(CW:AL K mg "_law_whole" g gd ["_law_found"]):FnOk P w K mg bz AH 2 f fd ["_law_places_here","_law_low","_law_bound"] IY:=by
 refine F.ok scLrising (fun vs H Q E h=>?_) (fun ai A outer s H vs Q E hr h=>?_)
 ·obtain⟨pl,ps,n,rfl,_⟩:=h
  rfl
 obtain⟨pl,ps,n,rfl,ar,q⟩:=h
 have ak:Room 1 _:=hr.mono (by decide)
 refine⟨_,Ac (AB (BO (Bg (Az Cp (by rfl) T.isi boot_isinstance (Aa (pv 0) (Aa (Hd (v:=.ty "list") (by rfl) T.lst AZ rfl) Ab)))))
   (Ae (Ai BQ))
   Ap)
  (Ac (Ar (i:=3) scLrising.nd rfl (Or.inl rfl) (Au DG (pv 1) Ag))
  (Ac (Bz zAW rfl (AS (pv 0)) (AC (i:=4) scLrising.nd rfl (Or.inl rfl))
   (Ac (AB (Gx (BO (Bg (Ah GW ak (by rfl) CW.m CW.k CW.b .nil Ak (Aa (pv 4) Ab)))) (Gx (Al Tx (pv 4) (pv 3) (As _)) (EU (Al Qz (pv 4) (pv 2) (As _))))).pt
    (Ae (Ai BQ))
    Ap)
   (Ae (Ar (i:=3) scLrising.nd rfl (Or.inl rfl) (pv 4)))))
  (Ae (Ai BQ)))),?_⟩
 refine⟨_,rfl,_,_,_,_,rfl,.lst ar,HI _ _,_,rfl,?_⟩
 refine A7 ?_
 refine⟨_,rfl,_,_,rfl,rfl,?_⟩
 have no:∀{i:Nat}{p last:Int},ps[i]? = some p->(G0 ps n↔Rl n last (ps.drop i))->¬(last<p/\p<n)->Q (.bl false) H:=fun {i p last} hp hl hn=>by
  obtain⟨hi,ep⟩:=List.getElem?_eq_some_iff.mp hp
  rw[zBK hi,ep,MQ] at hl
  rw[decide_eq_false (fun z=>hn (hl.mp z).1)] at q
  exact q
 refine⟨_,rfl,pl,rfl,⟨_,SqL.of ar⟩,A1 (K:=K) (a:=pl) (xs:=ps.map V.int) (fun i σ H2=>∃(last:Int)(v:Option V),σ=[some (.ref pl),some (.int 0),some (.int (n:Nat)),some (.int last),v]/\H2=H/\(G0 ps n↔Rl n last (ps.drop i))) ⟨0-1,none,rfl,rfl,RB⟩ ?_ ?_ ?_⟩
 ·rintro i σ H2 _ ⟨last,v,rfl,rfl,_⟩
  exact SqL.of ar
 ·rintro i x σ H2 hx ⟨last,v,rfl,rfl,hl⟩
  rw[List.getElem?_map] at hx
  obtain⟨p,hp,rfl⟩:=Option.map_eq_some_iff.mp hx
  have no:=no hp hl
  refine⟨_,rfl,p,rfl,_,rfl,?_⟩
  refine A7 ?_
  refine⟨_,rfl,_,rfl,_,_,rfl,rfl,_,rfl,?_⟩
  by_cases c1:p<=last
  ·refine Bd c1 ?_
   refine Bh ?_
   exact no (by omega)
  refine A6 c1 ?_
  refine⟨_,rfl,_,rfl,_,_,rfl,rfl,_,rfl,?_⟩
  by_cases c2:p>=((n:Nat):Int)
  ·refine Bd c2 ?_
   exact no (by omega)
  refine A6 c2 ?_
  refine⟨_,rfl,_,_,rfl,rfl,?_⟩
  obtain⟨hi,ep⟩:=List.getElem?_eq_some_iff.mp hp
  rw[hl,zBK hi,ep,MQ]
  exact⟨fun z=>z.2,fun z=>⟨by omega,z⟩⟩
 ·rintro σ H2 ⟨last,v,rfl,rfl,hl⟩
  rw[List.length_map,zCL] at hl
  rw[decide_eq_true (hl.mpr ⟨.nil,fun p hp=>nomatch hp⟩)] at q
  exact q
theorem scLleads:Ao ["_law_room_here","_law_rows_here","_law_places_here","_law_aim","_law_low","_law_place","_law_fewer"] ["_law_room_here","_law_rows_here","_law_places_here","_law_aim","_law_low"] (Ad Ed):=Bt
theorem NQ(F:Fun K "_law_leads" "_law_leads" Ed f fd)(T:EV mg)(B:Bl mg)(GR:FnOk P w K mg bz AH 2 g1 d1 ["_law_places_here","_law_low","_law_bound"] IY)(CR:AL K mg "_law_rising" g1 d1 ["_law_places_here","_law_low","_law_bound"])(GC:FnOk P w K mg bz AH 1 g2 d2 ["_law_room_here","_law_rows_here","_law_places_here"] (Fw K))(CC:AL K mg "_law_common" g2 d2 ["_law_room_here","_law_rows_here","_law_places_here"]):FnOk P w K mg bz AH 3 f fd ["_law_room_here","_law_rows_here","_law_places_here","_law_aim","_law_low"] (J6 K):=by
 refine F.ok scLleads (fun vs H Q E h=>?_) (fun ai A outer s H vs Q E hr h=>?_)
 ·obtain⟨rm,rl,pl,am,room,aN,xs,rows,ps,rfl,_⟩:=h
  rfl
 obtain⟨rm,rl,pl,am,room,aN,xs,rows,ps,rfl,hR,aM,hX,hRs,ar,hps9,hA,q⟩:=h
 have ak:Room 1 _:=hr.mono (by decide)
 have aE:Room 2 _:=hr.mono (by decide)
 have gZ:=hRs.len
 refine⟨_,Ac (AB (BO (Bg (Ah GR aE (by rfl) CR.m CR.k CR.b .nil Ak (Aa (pv 2) (Aa (pv 4) (Aa (Az Ay (by rfl) B.len PySem.boot_len (Aa (pv 1) Ab)) Ab))))))
   (Ae (Ai BQ))
   Ap)
  (Ac (AB (Bg (Az (Dg rfl) (by rfl) T.any boot_any (Aa (Bi (N:=["_law_world","_law_aim"]) (js:=[none,some 3]) (cl:=[("_law_aim",s.heap.objs.size+1)]) ⟨rfl,rfl,rfl,(by intro p hp;simp at hp;rcases hp with rfl<;>rfl),rfl,rfl,rfl⟩ (AS (Ah GC ak (by rfl) CC.m CC.k CC.b .nil Ak (Aa (pv 0) (Aa (pv 1) (Aa (pv 2) Ab))))) (fun c1=>(AC (i:=0) (show (["_law_world","_law_aim"]:List Str).Nodup by decide +kernel) rfl (Or.inl rfl))) (fun c1=>Bx) (fun c1=>(Bo Bb (pv 0) (pv 1) (by with_unfolding_all rfl)))) Ab)))
   (Ae (Ai BQ))
   Ap)
  (Ac (Bz zAW rfl (AS (pv 2)) (AC (i:=5) scLleads.nd rfl (Or.inr rfl))
   (Ac (Fr (i:=6) scLleads.nd rfl (Or.inl rfl) (N:=["_law_other","_law_place"]) (js:=[none,some 5]) (cl:=[("_law_place",s.heap.objs.size+2)]) ⟨rfl,rfl,rfl,(by intro p hp;simp at hp;rcases hp with rfl<;>rfl),rfl,rfl,rfl⟩ (AS (pv 2)) (fun c1=>(AC (i:=0) (show (["_law_other","_law_place"]:List Str).Nodup by decide +kernel) rfl (Or.inl rfl))) (fun c1=>(BW (Al Mu (pv 0) (pv 1) (As _)))) (fun c1=>(pv 0)))
   (Ae (AB (BO (Bg (Az (Dg rfl) (by rfl) T.any boot_any (Aa (Bi (N:=["_law_world","_law_aim"]) (js:=[none,some 3]) (cl:=[("_law_aim",s.heap.objs.size+1)]) ⟨rfl,rfl,rfl,(by intro p hp;simp at hp;rcases hp with rfl<;>rfl),rfl,rfl,rfl⟩ (AS (Ah GC ak (by rfl) CC.m CC.k CC.b .nil Ak (Aa (pv 0) (Aa (pv 1) (Aa (pv 6) Ab))))) (fun c1=>(AC (i:=0) (show (["_law_world","_law_aim"]:List Str).Nodup by decide +kernel) rfl (Or.inl rfl))) (fun c1=>Bx) (fun c1=>(Bo Bb (pv 0) (pv 1) (by with_unfolding_all rfl)))) Ab))))
    (Ae (Ai BQ))
    Ap))))
  (Ae (Ai BQ)))),?_⟩
 refine⟨_,rfl,_,rfl,_,rfl,rl,_,rfl,.inl hX,pl,ps,xs.length,rfl,ar,_,rfl,?_⟩
 rw[gZ]
 by_cases hRise:G0 ps rows.length
 case neg=>
  rw[decide_eq_false hRise]
  refine Bh ?_
  have e:EJ ps rows room aN=false:=by
   unfold EJ
   rw[decide_eq_false hRise]
   rfl
  rw[e] at q
  exact q _ (Same.refl _)
 rw[decide_eq_true hRise]
 refine A7 ?_
 obtain⟨pn,hpn⟩:∃pn:List Nat,ps=pn.map fun p=>((p:Nat):Int):=⟨ps.map Int.toNat,Hx fun p hp=>(hRise.2 p hp).1⟩
 have epn:ps.map Int.toNat=pn:=by
  rw[hpn,zB3]
  exact (List.map_congr_left fun p _=>by show ((p:Nat):Int).toNat=p;omega).trans (List.map_id _)
 have e:EJ ps rows room aN=B8 room rows pn aN:=by
  unfold EJ
  rw[decide_eq_true hRise,zB,epn]
 rw[e] at q
 have hb:∀p∈pn,p<rows.length:=fun p hp=>by
  have:=hRise.2 (p:Int) (by rw[hpn];exact List.mem_map.mpr ⟨p,hp,rfl⟩)
  omega
 have hpl9:pn.length<=900:=by rw[hpn,List.length_map] at hps9;exact hps9
 have ar:H pl=some (.lst (Fj pn)):=by
  rw[ar,hpn,zB3]
  rfl
 have comb:∀(p2:List Nat){l:Addr}{H1:Hp},AM H1 l (AV room (p2.map fun p=>rows.getD p []))->(AV room (p2.map fun p=>rows.getD p [])).length<=900:=fun p2 {l} {H1} _=>zAH (zAZ _ _) aM
 refine⟨_,rfl,_,rfl,_,rfl,rm,rl,pl,room,xs,rows,pn,rfl,hR,aM,hX,hRs,SqL.of ar,hb,fun cl H1 s1 cl0 bE=>?_⟩
 refine⟨cl,rfl,⟨_,SqL.of bE⟩,fun cc acc ah=>BR (f:=fun k=>!decide (k∈aN)) (rest:=[some (.ref am)]) (SqL.of bE) ah (comb pn bE) (fun k hk H3 s3 R3 gW=>?_) (fun v0 H3 s3 h3=>?_) none⟩
 ·exact⟨_,rfl,_,rfl,Bq ((s1.trans s3).seq hA) (gW H3 (Same.refl _))⟩
 have t3:=s1.trans s3
 refine⟨acc,_,rfl,SqL.of h3,_,rfl,?_⟩
 have e1:((AV room (pn.map fun p=>rows.getD p [])).map fun k=>!decide (k∈aN)).any id = !((AV room (pn.map fun p=>rows.getD p [])).all fun k=>decide (k∈aN)):=by
  rw[zCJ,List.not_all_eq_any_not]
  rfl
 rw[e1]
 cases aq:(AV room (pn.map fun p=>rows.getD p [])).all fun k=>decide (k∈aN) with
 | false=>
  refine Bh ?_
  have e:B8 room rows pn aN=false:=by unfold B8;rw[aq];rfl
  rw[e] at q
  exact q _ t3
 | true=>
 refine A7 ?_
 refine⟨_,rfl,pl,rfl,⟨_,SqL.of (t3 _ _ ar)⟩,A1 (K:=K) (a:=pl) (xs:=Fj pn) (fun i σ H4=>∃(v1 v2:Option V),σ=[some (.ref rm),some (.ref rl),some (.ref pl),some (.ref am),some (.int 0),v1,v2]/\Same H H4/\∀p∈pn.take i,((AV room ((pn.filter fun p'=>decide (p'≠p)).map fun p=>rows.getD p [])).any fun k=>!decide (k∈aN))=true) ⟨none,none,rfl,t3,fun p hp=>nomatch hp⟩ ?_ ?_ ?_⟩
 ·rintro i σ H4 _ ⟨v1,v2,rfl,s4,_⟩
  exact SqL.of (s4 _ _ ar)
 ·rintro i x σ H4 hx ⟨v1,v2,rfl,s4,hbef⟩
  rw[List.getElem?_map] at hx
  obtain⟨p,hp,rfl⟩:=Option.map_eq_some_iff.mp hx
  have hpm:=zAQ hp
  have epl:Fj pn=(pn.map fun p=>((p:Nat):Int)).map V.int:=by
   show pn.map _=_
   rw[zB3]
   rfl
  have hpl4:H4 pl=some (.lst ((pn.map fun p=>((p:Nat):Int)).map V.int)):=by rw[<-epl];exact s4 _ _ ar
  refine⟨_,rfl,pl,rfl,⟨_,SqL.of hpl4⟩,fun cc2 cR dt=>BG (p:=fun k=>!decide (V.int k=V.int ((p:Nat):Int))) (rest:=[some (.int ((p:Nat):Int))]) (SqL.of hpl4) dt (by rw[List.length_map];exact hpl9) (fun k hk H5 s5 R5 hR5=>?_) (fun v0 H5 s5 h5=>?_) none⟩
  ·exact⟨_,rfl,_,rfl,rfl,_,rfl,hR5 H5 (Same.refl _)⟩
  ·refine E4 rfl ?_
   have ef:((pn.map fun p=>((p:Nat):Int)).filter fun k=>!decide (V.int k=V.int ((p:Nat):Int))).map V.int=Fj (pn.filter fun p'=>decide (p'≠p)):=by
    show _=(pn.filter _).map _
    rw[List.filter_map,zB3]
    congr 1
    refine zCG fun p' _=>?_
    show (!decide (V.int ((p':Nat):Int)=V.int ((p:Nat):Int)))=decide (p'≠p)
    by_cases c:p'=p
    ·subst c
     simp
    ·rw[decide_eq_true c,decide_eq_false (fun z=>c (by injection z with z;omega))]
     rfl
   rw[ef] at h5
   have t5:=s4.trans s5
   have fb:∀p'∈pn.filter (fun p'=>decide (p'≠p)),p'<rows.length:=fun p' hp'=>hb p' (List.mem_filter.mp hp').1
   refine⟨_,rfl,_,rfl,_,rfl,rm,rl,cR,room,xs,rows,_,rfl,t5.seq hR,aM,t5.seq hX,hRs.keep t5,SqL.of h5,fb,fun cl2 H6 s6 cl20 hcl2=>?_⟩
   refine⟨cl2,rfl,⟨_,SqL.of hcl2⟩,fun cc3 acc3 hacc3=>BR (f:=fun k=>!decide (k∈aN)) (rest:=[some (.ref am)]) (SqL.of hcl2) hacc3 (comb _ hcl2) (fun k hk H7 s7 R7 hR7=>?_) (fun v0 H7 s7 h7=>?_) none⟩
   ·exact⟨_,rfl,_,rfl,Bq ((t5.trans (s6.trans s7)).seq hA) (hR7 H7 (Same.refl _))⟩
   refine⟨acc3,_,rfl,SqL.of h7,_,rfl,?_⟩
   have e2:((AV room ((pn.filter fun p'=>decide (p'≠p)).map fun p=>rows.getD p [])).map fun k=>!decide (k∈aN)).any id=(AV room ((pn.filter fun p'=>decide (p'≠p)).map fun p=>rows.getD p [])).any fun k=>!decide (k∈aN):=by
    rw[zCJ]
    rfl
   rw[e2]
   cases hany:(AV room ((pn.filter fun p'=>decide (p'≠p)).map fun p=>rows.getD p [])).any fun k=>!decide (k∈aN) with
   | true=>
    refine A7 ⟨_,_,rfl,t5.trans (s6.trans s7),fun p' hp'=>?_⟩
    rw[zAT,hp] at hp'
    rcases List.mem_append.mp hp' with z | z
    ·exact hbef p' z
    ·rw[List.mem_singleton.mp z]
     exact hany
   | false=>
    refine Bh ?_
    have e:B8 room rows pn aN=false:=by
     unfold B8
     rw[Bool.and_eq_false_iff]
     refine .inr (List.all_eq_false.mpr ⟨p,hpm,?_⟩)
     rw[hany]
     decide
    rw[e] at q
    exact q _ (t5.trans (s6.trans s7))
 ·rintro σ H4 ⟨v1,v2,rfl,s4,hbef⟩
  rw[show (Fj pn).length=pn.length from List.length_map _,zAX] at hbef
  have e:B8 room rows pn aN=true:=by
   unfold B8
   rw[aq,zB,zA0]
   exact hbef
  rw[e] at q
  exact q _ s4
end
theorem alone_mem:x∈BK ls↔[x]∈ls:=by
 unfold BK
 constructor
 ·intro h
  obtain⟨l,hl,e⟩:=List.mem_map.mp h
  obtain⟨h1,h2⟩:=List.mem_filter.mp hl
  have h3:=of_decide_eq_true h2
  match l,h3,e,h1 with
  | [a],_,e,h1=>
   have e:a=x:=e
   rw[<-e]
   exact h1
 ·intro h
  exact List.mem_map.mpr ⟨[x],List.mem_filter.mpr ⟨h,rfl⟩,rfl⟩
theorem mem_lack:x∈BD rs k↔∃j:Nat,x=(j:Int)/\j<rs.length/\k∉rs.getD j []:=by
 unfold BD DV
 rw[List.mem_map]
 constructor
 ·rintro⟨j,hj,rfl⟩
  obtain⟨h1,h2⟩:=List.mem_filter.mp hj
  exact⟨j,rfl,List.mem_range.mp h1,by simpa using h2⟩
 ·rintro⟨j,rfl,h1,h2⟩
  exact⟨j,List.mem_filter.mpr ⟨List.mem_range.mpr h1,by simpa using h2⟩,rfl⟩
theorem Ra(rs:List (List Int))(k:Int):(BD rs k).Nodup:=by
 unfold BD DV
 exact List.Pairwise.map _ (fun a b h e=>h (by omega)) (List.nodup_range.sublist zAO)
theorem Qg{l:List Int}{a:Int}(nd:l.Nodup)(ha:a∈l)(h:∀b∈l,b=a):l=[a]:=by
 match l,nd,ha,h with
 | [b],_,ha,h=>rw[h b List.mem_cons_self]
 | b::c::r,nd,_,h=>
  have e1:=h b List.mem_cons_self
  have e2:=h c (List.mem_cons_of_mem _ List.mem_cons_self)
  exact absurd (show b∈c::r by rw[e1,<-e2];exact List.mem_cons_self) (List.nodup_cons.mp nd).1
theorem lack_nil:BD rs k=[]↔∀r∈rs,k∈r:=by
 constructor
 ·intro h r hr
  obtain⟨j,hj⟩:=List.getElem?_of_mem hr
  refine zA2 fun hn=>?_
  have:(j:Int)∈BD rs k:=mem_lack.mpr ⟨j,rfl,(List.getElem?_eq_some_iff.mp hj).1,by rw[List.getD_eq_getElem?_getD,hj];exact hn⟩
  rw[h] at this
  cases this
 ·intro h
  refine List.eq_nil_iff_forall_not_mem.mpr fun x hx=>?_
  obtain⟨j,_,h1,h2⟩:=mem_lack.mp hx
  refine h2 (h _ ?_)
  rw[List.getD_eq_getElem?_getD,List.getElem?_eq_getElem h1]
  exact zA3 h1
theorem Oi(nd:pn.Nodup):Fi (pn.map fun p=>rows.getD p []) (BL room aN)=B8 room rows pn aN:=by
 generalize hrs:pn.map (fun p=>rows.getD p [])=rs
 have lrs:rs.length=pn.length:=by rw[<-hrs,List.length_map]
 have rsat:∀j (h:j<pn.length),rs.getD j []=rows.getD pn[j] []:=fun j h=>by
  rw[<-hrs,List.getD_eq_getElem?_getD,List.getElem?_map,List.getElem?_eq_getElem h]
  rfl
 have i3:∀k,k∈BL room aN↔k∈room/\k∉aN:=fun k=>by
  unfold BL
  rw[List.mem_filter,Bool.not_eq_true',decide_eq_false_iff_not]
 rw[zA6]
 unfold Fi B8
 rw[hrs,zAN,zAN]
 have hA:(!((BL room aN).map (BD rs)).any List.isEmpty)=true↔((AV room rs).all fun k=>decide (k∈aN))=true:=by
  rw[Bool.not_eq_true',zDO,zA0]
  constructor
  ·intro h k hk
   obtain⟨h1,h2⟩:=mem_com.mp hk
   refine zA2 fun hn=>?_
   have hn:k∉aN:=fun z=>hn (decide_eq_true z)
   refine h (BD rs k) (List.mem_map.mpr ⟨k,(i3 k).mpr ⟨h1,hn⟩,rfl⟩) ?_
   rw[lack_nil.mpr h2]
   rfl
  ·intro h l hl
   obtain⟨k,hk,rfl⟩:=List.mem_map.mp hl
   obtain⟨h1,h2⟩:=(i3 k).mp hk
   intro he
   have he:BD rs k=[]:=List.isEmpty_iff.mp he
   exact h2 (of_decide_eq_true (h k (mem_com.mpr ⟨h1,lack_nil.mp he⟩)))
 rw[hA]
 refine and_congr_right fun aq=>?_
 have aq:∀k∈room,k∉aN->BD rs k≠[]:=fun k h1 h2 h3=>h2 (of_decide_eq_true (List.all_eq_true.mp aq k (mem_com.mpr ⟨h1,lack_nil.mp h3⟩)))
 rw[decide_eq_true_iff,zA0]
 have few:∀(i:Nat)(hi:i<pn.length)(k:Int),(∀r∈(pn.filter fun p'=>decide (p'≠pn[i])).map (fun p=>rows.getD p []),k∈r)↔∀j (hj:j<pn.length),j≠i->k∈rs.getD j []:=fun i hi k=>by
  constructor
  ·intro h j hj av
   rw[rsat j hj]
   refine h _ (List.mem_map.mpr ⟨pn[j],List.mem_filter.mpr ⟨zA3 hj,decide_eq_true fun e=>av ?_⟩,rfl⟩)
   exact (List.getElem_inj nd).mp e
  ·intro h r hr
   obtain⟨p,hp,rfl⟩:=List.mem_map.mp hr
   obtain⟨h1,h2⟩:=List.mem_filter.mp hp
   have h2:=of_decide_eq_true h2
   obtain⟨j,hj,e⟩:=List.getElem_of_mem h1
   rw[<-e,<-rsat j hj]
   exact h j hj fun z=>h2 (by subst z;exact e.symm)
 constructor
 ·intro h p hp
  obtain⟨i,hi,e⟩:=List.getElem_of_mem hp
  subst e
  have h1:=alone_mem.mp (h i (by omega))
  obtain⟨k,hk,ek⟩:=List.mem_map.mp h1
  obtain⟨h2,h3⟩:=(i3 k).mp hk
  rw[zBZ]
  refine⟨k,mem_com.mpr ⟨h2,(few i hi k).mpr fun j hj av=>zA2 fun hn=>?_⟩,by rw[decide_eq_false h3];rfl⟩
  have h4:(j:Int)∈BD rs k:=mem_lack.mpr ⟨j,rfl,by omega,hn⟩
  rw[ek] at h4
  have:=List.mem_singleton.mp h4
  omega
 ·intro h i hi
  have de:i<pn.length:=by omega
  have h1:=h pn[i] (zA3 de)
  obtain⟨k,hk,hn⟩:=List.any_eq_true.mp h1
  obtain⟨h2,h3⟩:=mem_com.mp hk
  have hn:k∉aN:=fun z=>by rw[decide_eq_true z] at hn;cases hn
  refine alone_mem.mpr (List.mem_map.mpr ⟨k,(i3 k).mpr ⟨h2,hn⟩,?_⟩)
  have h3:=(few i de k).mp h3
  have only:∀b∈BD rs k,b=(i:Int):=fun b hb=>by
   obtain⟨j,rfl,h4,h5⟩:=mem_lack.mp hb
   refine zA2 fun av=>h5 (h3 j (by omega) fun z=>av (by rw[z]))
  obtain⟨b,hb⟩:=List.exists_mem_of_ne_nil _ (aq k h2 hn)
  have eb:=only b hb
  rw[eb] at hb
  exact Qg (Ra rs k) hb only
theorem Iv:DQ ps rows (BL room aN)=EJ ps rows room aN:=by
 unfold DQ EJ
 by_cases h:G0 ps rows.length
 ·rw[decide_eq_true h,zB,zB]
  have hp:=Hx fun p hp=>(h.2 p hp).1
  have e:Ha rows ps=(ps.map Int.toNat).map fun p=>rows.getD p []:=by
   unfold Ha
   rw[zB3]
   rfl
  rw[e]
  refine Oi ?_
  have h1:=h.1
  rw[hp] at h1
  refine (List.pairwise_map.mp h1).imp fun {a b} cP=>?_
  omega
 ·rw[decide_eq_false h,zBS,zBS]
abbrev D8:Stmt:=Bu 78
def TQ(o:Option Nat)(k:Int):Bool:=match o with
 | none=>false
 | some i=>decide (V.int ((i:Nat):Int)=V.int k)
def Ii(sides:List (List Int))(room:List Int)(rows:List (List Int))(seen:List Int)(t:Tr):Pap->Bool
 | .pl z ps=>EJ ps rows room (if z="follows" then AA true t room else AA false t room)
 | .fr a b=>decide (a∈AA true t (AV room rows)) && (decide (b∈AA false t (AV room rows)) && (B2 sides (Ik sides (AA true t (AV room rows)) (AA false t (AV room rows)) (Bm seen t))).isNone)
 | .br a b k=>decide (a∈AA true t (AV room rows)) && (decide (b∈AA false t (AV room rows)) && TQ (B2 sides (Ik sides (AA true t (AV room rows)) (AA false t (AV room rows)) (Bm seen t))) k)
def Kr(K:PySem.W.Frag):Sp:=fun vs H Q _=>∃(p sd rm rl sn:Addr)(v:V)(t:Tr)(x:Pap)(jG xs:List V)(sides rows:List (List Int))(room seen:List Int),vs=[.ref p,.ref sd,.ref rm,.ref rl,.ref sn,v]/\SqL K H sd jG/\RowsAt H jG sides/\(∀s∈sides,s.length<=400)/\sides≠[]/\sides.length<=2/\SqL K H rm (room.map V.int)/\room.length<=900/\SqL K H rl xs/\RowsAt H xs rows/\rows.length<=900/\t.At H v/\t.ok 5/\t.size<=60/\SqL K H sn (seen.map V.int)/\seen.length<=900/\PapAt H p x/\x.ok/\∀H',Same H H'->Q (.bl (Ii sides room rows seen t x)) H'
section
theorem scLholds:Ao ["_law_paper","_law_sides_here","_law_room_here","_law_rows_here","_law_seen_here","_law_asked_here","_law_going","_law_ins_here","_law_outs_here","_law_side"] ["_law_paper","_law_sides_here","_law_room_here","_law_rows_here","_law_seen_here","_law_asked_here"] (Ad D8):=Bt
theorem NY(F:Fun K "_law_holds" "_law_holds" D8 f fd)(T:EV mg)(B:Bl mg)(GC:FnOk P w K mg bz AH 1 g1 d1 ["_law_room_here","_law_rows_here","_law_places_here"] (Fw K))(CC:AL K mg "_law_common" g1 d1 ["_law_room_here","_law_rows_here","_law_places_here"])(GX:FnOk P w K mg bz AH 61 g2 d2 ["_law_sentence_here","_law_row"] (Fm K true))(CX:AL K mg "_law_ins" g2 d2 ["_law_sentence_here","_law_row"])(GO:FnOk P w K mg bz AH 61 g3 d3 ["_law_sentence_here","_law_row"] (Fm K false))(CO:AL K mg "_law_outs" g3 d3 ["_law_sentence_here","_law_row"])(GL:FnOk P w K mg bz AH 3 g4 d4 ["_law_room_here","_law_rows_here","_law_places_here","_law_aim","_law_low"] (J6 K))(CL:AL K mg "_law_leads" g4 d4 ["_law_room_here","_law_rows_here","_law_places_here","_law_aim","_law_low"])(GB:FnOk P w K mg bz AH 62 g5 d5 ["_law_sides_here","_law_ins_here","_law_outs_here","_law_seen_here","_law_sentence_here"] (ID K))(CB:AL K mg "_law_barred" g5 d5 ["_law_sides_here","_law_ins_here","_law_outs_here","_law_seen_here","_law_sentence_here"]):FnOk P w K mg bz AH 63 f fd ["_law_paper","_law_sides_here","_law_room_here","_law_rows_here","_law_seen_here","_law_asked_here"] (Kr K):=by
 refine F.ok scLholds (fun vs H Q E h=>?_) (fun ai A outer s H vs Q E hr h=>?_)
 ·obtain⟨p,sd,rm,rl,sn,v,t,x,jG,xs,sides,rows,room,seen,rfl,_⟩:=h
  rfl
 obtain⟨p,sd,rm,rl,sn,v,t,x,jG,xs,sides,rows,room,seen,rfl,hX,hS,aX,sne,s2l,hR,aM,hL,hRs,hrow9,ha,bL,aw,hN,lN,hp,hx,q⟩:=h
 have ak:Room 1 _:=hr.mono (by decide)
 have ba:Room 3 _:=hr.mono (by decide)
 have i4:Room 61 _:=hr.mono (by decide)
 have lx:=hRs.len
 refine⟨_,Ac (Ar (i:=6) scLholds.nd rfl (Or.inl rfl) (Ah GC ak (by rfl) CC.m CC.k CC.b .nil Ak (Aa (pv 2) (Aa (pv 3) (Aa (AF (Du rfl) (by rfl) T.lst AZ (Aa (AF CU (by rfl) T.rng boot_range (Aa (Az Ay (by rfl) B.len PySem.boot_len (Aa (pv 3) Ab)) Ab)) Ab)) Ab)))))
  (Ac (Ar (i:=7) scLholds.nd rfl (Or.inl rfl) (Ah GX i4 (by rfl) CX.m CX.k CX.b .nil Ak (Aa (pv 5) (Aa (pv 6) Ab))))
  (Ac (Ar (i:=8) scLholds.nd rfl (Or.inl rfl) (Ah GO i4 (by rfl) CO.m CO.k CO.b .nil Ak (Aa (pv 5) (Aa (pv 6) Ab))))
  (Ac (AB (Al AQ (AD AN (pv 0) Ag (fun _ _=>rfl)) Av (As _))
   (Ae (Ai (Ah GL ba (by rfl) CL.m CL.k CL.b .nil Ak (Aa (pv 2) (Aa (pv 3) (Aa (AD AN (pv 0) Ag (fun _ _=>rfl)) (Aa (Ah GX i4 (by rfl) CX.m CX.k CX.b .nil Ak (Aa (pv 5) (Aa (pv 2) Ab))) (Aa Ag Ab))))))))
   Ap)
  (Ac (AB (Al AQ (AD AN (pv 0) Ag (fun _ _=>rfl)) Av (As _))
   (Ae (Ai (Ah GL ba (by rfl) CL.m CL.k CL.b .nil Ak (Aa (pv 2) (Aa (pv 3) (Aa (AD AN (pv 0) Ag (fun _ _=>rfl)) (Aa (Ah GO i4 (by rfl) CO.m CO.k CO.b .nil Ak (Aa (pv 5) (Aa (pv 2) Ab))) (Aa Ag Ab))))))))
   Ap)
  (Ac (AB (Gx (Al Bb (AD AN (pv 0) Ag (fun _ _=>rfl)) (pv 7) (by with_unfolding_all rfl)) (EU (Al Bb (AD AN (pv 0) Ag (fun _ _=>rfl)) (pv 8) (by with_unfolding_all rfl)))).pt
   (Ae (Ai BQ))
   Ap)
  (Ac (Ar (i:=9) scLholds.nd rfl (Or.inl rfl) (Ah GB hr (by rfl) CB.m CB.k CB.b .nil Ak (Aa (pv 1) (Aa (pv 7) (Aa (pv 8) (Aa (pv 4) (Aa (pv 5) Ab)))))))
  (Ac (AB (Al AQ (AD AN (pv 0) Ag (fun _ _=>rfl)) Av (As _))
   (Ae (Ai (Pu (Lv (pv 9)))))
   Ap)
  (Ae (Ai (HJ (Pu (Ro (pv 9))) (DB (Bo AQ (pv 9) (AD AN (pv 0) Ag (fun _ _=>rfl)) (As _))))))))))))),?_⟩
 refine⟨_,rfl,_,rfl,_,rfl,rl,_,rfl,.inl hL,_,rfl,fun rg hrg=>?_⟩
 have s1:=Af hrg (.rng 0 ((xs.length:Nat):Int))
 have rg1:upd H rg (.rng 0 ((xs.length:Nat):Int)) rg=some (.rng 0 ((xs.length:Nat):Int)):=upd_same
 generalize upd H rg _=H1 at *
 refine⟨rg,xs.length,rfl,rg1,by omega,fun pl ar=>?_⟩
 have s2:=Af ar (.lst ((BC xs.length).map V.int))
 have be:upd H1 pl (.lst ((BC xs.length).map V.int)) pl=some (.lst ((BC xs.length).map V.int)):=upd_same
 generalize upd H1 pl _=H2 at *
 have t2:=s1.trans s2
 have eu:(BC xs.length).map V.int=(List.range xs.length).map fun p=>V.int ((p:Nat):Int):=by
  unfold BC
  rw[zB3]
  rfl
 rw[eu] at be
 refine⟨rm,rl,pl,room,xs,rows,List.range xs.length,rfl,t2.seq hR,aM,t2.seq hL,hRs.keep t2,SqL.of be,fun p hp=>by rw[<-lx];exact List.mem_range.mp hp,fun gl H3 s3 gl0 fh=>?_⟩
 have ec:(List.range xs.length).map (fun p=>rows.getD p [])=rows:=by
  rw[lx]
  exact FR _ _
 rw[ec] at fh
 have lg:(AV room rows).length<=900:=zAH (zAZ _ _) aM
 have t3:=t2.trans s3
 refine⟨_,rfl,_,rfl,v,t,gl,AV room rows,rfl,ha.keep (TS.same t3),bL,aw,SqL.of fh,lg,fun il H4 s4 il0 aZ=>?_⟩
 have aZ:AM H4 il (AA true t (AV room rows)):=aZ
 refine⟨_,rfl,_,rfl,v,t,gl,AV room rows,rfl,ha.keep (TS.same (t3.trans s4)),bL,aw,SqL.of (s4 _ _ fh),lg,fun ol H5 s5 ol0 bK=>?_⟩
 have bK:AM H5 ol (AA false t (AV room rows)):=bK
 have t5:=t3.trans (s4.trans s5)
 have i5:=s5 _ _ aZ
 have hp5:=hp.keep t5
 have lI:(AA true t (AV room rows)).length<=900:=zAH (zAZ _ _) lg
 have lO:(AA false t (AV room rows)).length<=900:=zAH (zAZ _ _) lg
 cases x with
 | pl z ps=>
  obtain⟨l,au,hpl0⟩:=hp5
  obtain⟨hz,dj,hpb⟩:=hx
  refine⟨_,rfl,p,_,_,_,rfl,rfl,SqT.of au,Aj (j:=0) rfl,rfl,_,rfl,?_⟩
  rcases hz with rfl | rfl
  ·refine Bd rfl ?_
   refine⟨_,rfl,_,rfl,_,rfl,p,_,_,_,rfl,rfl,SqT.of au,Aj (j:=1) rfl,_,rfl,_,rfl,v,t,rm,room,rfl,ha.keep (TS.same t5),bL,aw,t5.seq hR,aM,fun am H6 s6 am0 ham=>?_⟩
   have t6:=t5.trans s6
   exact⟨rm,rl,l,am,room,_,xs,rows,ps,rfl,t6.seq hR,aM,t6.seq hL,hRs.keep t6,s6 _ _ hpl0,by omega,SqL.of ham,fun H7 s7=>q _ (t6.trans s7)⟩
  ·refine A6 (fun z=>by injection z with z;revert z;decide) ?_
   refine⟨_,rfl,p,_,_,_,rfl,rfl,SqT.of au,Aj (j:=0) rfl,rfl,_,rfl,?_⟩
   refine Bd rfl ?_
   refine⟨_,rfl,_,rfl,_,rfl,p,_,_,_,rfl,rfl,SqT.of au,Aj (j:=1) rfl,_,rfl,_,rfl,v,t,rm,room,rfl,ha.keep (TS.same t5),bL,aw,t5.seq hR,aM,fun am H6 s6 am0 ham=>?_⟩
   have t6:=t5.trans s6
   exact⟨rm,rl,l,am,room,_,xs,rows,ps,rfl,t6.seq hR,aM,t6.seq hL,hRs.keep t6,s6 _ _ hpl0,by omega,SqL.of ham,fun H7 s7=>q _ (t6.trans s7)⟩
 | fr one other=>
  have au:H5 p=some (.tup [.str "free",.int one,.int other]):=hp5
  refine⟨_,rfl,p,_,_,_,rfl,rfl,SqT.of au,Aj (j:=0) rfl,rfl,_,rfl,A6 (fun z=>by injection z with z;revert z;decide) ?_⟩
  refine⟨_,rfl,p,_,_,_,rfl,rfl,SqT.of au,Aj (j:=0) rfl,rfl,_,rfl,A6 (fun z=>by injection z with z;revert z;decide) ?_⟩
  refine⟨_,rfl,p,_,_,_,rfl,rfl,SqT.of au,Aj (j:=1) rfl,_,rfl,Bq (SqL.of i5) ⟨_,rfl,?_⟩⟩
  by_cases c1:one∈AA true t (AV room rows)
  ·rw[decide_eq_true c1]
   refine A7 ?_
   refine⟨_,rfl,p,_,_,_,rfl,rfl,SqT.of au,Aj (j:=2) rfl,_,rfl,Bq (SqL.of bK) ⟨_,rfl,?_⟩⟩
   by_cases c2:other∈AA false t (AV room rows)
   ·rw[decide_eq_true c2]
    refine A7 ?_
    refine⟨_,rfl,_,rfl,_,rfl,_,rfl,_,rfl,sd,il,ol,sn,v,t,jG,sides,_,_,seen,rfl,t5.seq hX,hS.keep t5,aX,sne,s2l,SqL.of i5,lI,SqL.of bK,lO,ha.keep (TS.same t5),bL,aw,t5.seq hN,lN,fun H6 s6=>?_⟩
    refine⟨_,rfl,p,_,_,_,rfl,rfl,SqT.of (s6 _ _ au),Aj (j:=0) rfl,rfl,_,rfl,Bd rfl ?_⟩
    have e:=q _ (t5.trans s6)
    simp only[Ii] at e
    rw[decide_eq_true c1,decide_eq_true c2,zB,zB] at e
    generalize B2 sides _=o at *
    refine⟨_,rfl,?_⟩
    cases o<;>exact e
   ·rw[decide_eq_false c2]
    refine Bh ?_
    have e:=q _ t5
    simp only[Ii] at e
    rw[decide_eq_false c2,zBS,zCH] at e
    exact e
  ·rw[decide_eq_false c1]
   refine Bh ?_
   have e:=q _ t5
   simp only[Ii] at e
   rw[decide_eq_false c1,zBS] at e
   exact e
 | br one other k=>
  have au:H5 p=some (.tup [.str "barred",.int one,.int other,.int k]):=hp5
  refine⟨_,rfl,p,_,_,_,rfl,rfl,SqT.of au,Aj (j:=0) rfl,rfl,_,rfl,A6 (fun z=>by injection z with z;revert z;decide) ?_⟩
  refine⟨_,rfl,p,_,_,_,rfl,rfl,SqT.of au,Aj (j:=0) rfl,rfl,_,rfl,A6 (fun z=>by injection z with z;revert z;decide) ?_⟩
  refine⟨_,rfl,p,_,_,_,rfl,rfl,SqT.of au,Aj (j:=1) rfl,_,rfl,Bq (SqL.of i5) ⟨_,rfl,?_⟩⟩
  by_cases c1:one∈AA true t (AV room rows)
  ·rw[decide_eq_true c1]
   refine A7 ?_
   refine⟨_,rfl,p,_,_,_,rfl,rfl,SqT.of au,Aj (j:=2) rfl,_,rfl,Bq (SqL.of bK) ⟨_,rfl,?_⟩⟩
   by_cases c2:other∈AA false t (AV room rows)
   ·rw[decide_eq_true c2]
    refine A7 ?_
    refine⟨_,rfl,_,rfl,_,rfl,_,rfl,_,rfl,sd,il,ol,sn,v,t,jG,sides,_,_,seen,rfl,t5.seq hX,hS.keep t5,aX,sne,s2l,SqL.of i5,lI,SqL.of bK,lO,ha.keep (TS.same t5),bL,aw,t5.seq hN,lN,fun H6 s6=>?_⟩
    refine⟨_,rfl,p,_,_,_,rfl,rfl,SqT.of (s6 _ _ au),Aj (j:=0) rfl,rfl,_,rfl,A6 (fun z=>by injection z with z;revert z;decide) ?_⟩
    have e:=q _ (t5.trans s6)
    simp only[Ii] at e
    rw[decide_eq_true c1,decide_eq_true c2,zB,zB] at e
    generalize B2 sides _=o at *
    cases o with
    | none=>exact⟨_,rfl,_,rfl,A7 e⟩
    | some i=>exact⟨_,rfl,_,rfl,Bh ⟨_,rfl,_,rfl,p,_,_,_,rfl,rfl,SqT.of (s6 _ _ au),Aj (j:=3) rfl,rfl,e⟩⟩
   ·rw[decide_eq_false c2]
    refine Bh ?_
    have e:=q _ t5
    simp only[Ii] at e
    rw[decide_eq_false c2,zBS,zCH] at e
    exact e
  ·rw[decide_eq_false c1]
   refine Bh ?_
   have e:=q _ t5
   simp only[Ii] at e
   rw[decide_eq_false c1,zBS] at e
   exact e
end
abbrev Da:Stmt:=Bu 79
def J8(m:Nat)(ps:List Int):Prop:=ps.length<=m/\∀p∈ps,-1<=p/\p<62
def IA:Sp:=fun vs H Q _=>∃(n:Int)(cnt:Nat),vs=[.int n,.int (cnt:Nat)]/\0<=n/\1<=cnt/\cnt<=56/\∀(l:Addr)(ps:List Int)(H':Hp),Same H H'->H l=none->H' l=some (.lst (ps.map V.int))->J8 120 ps->Q (.ref l) H'
theorem KH{cnt:Nat}(h:cnt<=56)(s:ps.Sublist (BC cnt)):J8 60 ps:=by
 have l:=s.length_le
 have e:(BC cnt).length=cnt:=by unfold BC;rw[List.length_map,List.length_range]
 refine⟨by omega,fun p hp=>?_⟩
 have:=s.subset hp
 unfold BC at this
 obtain⟨i,hi,rfl⟩:=List.mem_map.mp this
 have:=List.mem_range.mp hi
 show -1<=((i:Nat):Int)/\((i:Nat):Int)<62
 omega
section
theorem scLplaces:Ao ["_law_n","_law_count","_law_found"] ["_law_n","_law_count"] (Ad Da):=Bt
theorem LB(F:Fun K "_law_places" "_law_places" Da f fd)(T:EV mg)(B:Bl mg)(HREV:mg "reversed"=none)(GS:FnOk P w K mg bz AH 1 g1 d1 ["_law_n","_law_row"] (LX K))(CS:AL K mg "_law_some" g1 d1 ["_law_n","_law_row"]):FnOk P w K mg bz AH 2 f fd ["_law_n","_law_count"] IA:=by
 refine F.ok scLplaces (fun vs H Q E h=>?_) (fun ai A outer s H vs Q E hr h=>?_)
 ·obtain⟨n,cnt,rfl,_⟩:=h
  rfl
 obtain⟨n,cnt,rfl,h0,hc1,hc56,q⟩:=h
 have lu:(BC cnt).length=cnt:=by unfold BC;rw[List.length_map,List.length_range]
 have n8:(0:Int)<8:=by decide
 refine⟨_,Ac (Ar (i:=2) scLplaces.nd rfl (Or.inl rfl) (Ah GS hr (by rfl) CS.m CS.k CS.b .nil Ak (Aa (Au AY (pv 0) Ag) (Aa (AF (Du rfl) (by rfl) T.lst AZ (Aa (AF CU (by rfl) T.rng boot_range (Aa (pv 1) Ab)) Ab)) Ab))))
  (Ac (AB (Al AQ (Au AO (pv 0) Ag) Ag (As _))
   (Ae (Ar (i:=2) scLplaces.nd rfl (Or.inl rfl) (AF (Du rfl) (by rfl) T.lst AZ (Aa (AF CU (by rfl) T.rng boot_range (Aa (pv 1) Ab)) Ab))))
   Ap)
  (Ac (AB (Al AQ (Au AO (pv 0) Ag) Ag (As _))
   (Ae (Ar (i:=2) scLplaces.nd rfl (Or.inl rfl) (AI (Aa (Au DG (Au AO (Au AY (pv 0) Ag) (Au Ch (pv 1) Ag)) Ag) Ab))))
   Ap)
  (Ac (AB (Al AQ (Au AO (pv 0) Ag) Ag (As _))
   (Ae (Ar (i:=2) scLplaces.nd rfl (Or.inl rfl) (Au FT (pv 2) (pv 2))))
   Ap)
  (Ac (AB (Al AQ (Au AO (pv 0) Ag) Ag (As _))
   (Ae (Ar (i:=2) scLplaces.nd rfl (Or.inl rfl) (LC rfl (by rfl) T.lst AZ (by rfl) HREV (Aa (pv 2) Ab))))
   Ap)
  (Ae (Ai (pv 2))))))),?_⟩
 refine⟨_,rfl,_,_,rfl,rfl,⟨by decide,by decide⟩,_,rfl,_,rfl,fun rg hrg=>?_⟩
 have s1:=Af hrg (.rng 0 ((cnt:Nat):Int))
 have rg1:upd H rg (.rng 0 ((cnt:Nat):Int)) rg=some (.rng 0 ((cnt:Nat):Int)):=upd_same
 generalize upd H rg _=H1 at *
 refine⟨rg,cnt,rfl,rg1,by omega,fun pl ar=>?_⟩
 have s2:=Af ar (.lst ((BC cnt).map V.int))
 have be:upd H1 pl (.lst ((BC cnt).map V.int)) pl=some (.lst ((BC cnt).map V.int)):=upd_same
 generalize upd H1 pl _=H2 at *
 refine⟨_,pl,BC cnt,rfl,SqL.of be,by omega,fun fl ps H3 s3 eL bC ax=>?_⟩
 have t2:=s1.trans s2
 have t3:=t2.trans s3
 refine FV (fun σ H'=>∃(fl:Addr)(ps:List Int),σ=[some (.int n),some (.int (cnt:Nat)),some (.ref fl)]/\Same H H'/\H fl=none/\H' fl=some (.lst (ps.map V.int))/\J8 60 ps) ?_ (fun next=>?_)
 rotate_left
 ·refine⟨_,rfl,_,_,rfl,rfl,n8,rfl,_,rfl,?_⟩
  by_cases c:n%8=1
  ·refine Bd (by show V.int _=V.int 1;rw[c]) ?_
   refine⟨_,rfl,_,rfl,fun rg2 hrg2=>?_⟩
   have s4:=Af hrg2 (.rng 0 ((cnt:Nat):Int))
   have rg4:upd H3 rg2 (.rng 0 ((cnt:Nat):Int)) rg2=some (.rng 0 ((cnt:Nat):Int)):=upd_same
   generalize upd H3 rg2 _=H4 at *
   refine⟨rg2,cnt,rfl,rg4,by omega,fun be hZ=>?_⟩
   exact next _ _ ⟨be,BC cnt,rfl,(t3.trans s4).trans (Af hZ _),(t3.trans s4).free hZ,upd_same,KH hc56 (zBA _)⟩
  ·refine A6 (fun e=>c (by injection e)) ?_
   exact next _ _ ⟨fl,ps,rfl,t3,t2.free eL,bC,KH hc56 ax⟩
 clear eL bC ax
 rintro σ H4 ⟨fl,ps,rfl,t4,eL,bC,hok⟩
 refine Ev (fun σ H'=>∃(fl:Addr)(ps:List Int),σ=[some (.int n),some (.int (cnt:Nat)),some (.ref fl)]/\Same H H'/\H fl=none/\H' fl=some (.lst (ps.map V.int))/\J8 60 ps) ?_ (fun next=>?_)
 rotate_left
 ·refine⟨_,rfl,_,_,rfl,rfl,n8,rfl,_,rfl,?_⟩
  by_cases c:n%8=2
  ·refine Bd (by show V.int _=V.int 2;rw[c]) ?_
   have hb:(0:Int)<((cnt:Nat):Int)+2:=by omega
   refine⟨_,rfl,_,_,rfl,rfl,⟨by decide,by decide⟩,_,rfl,_,_,rfl,rfl,_,_,rfl,rfl,hb,_,_,rfl,rfl,Jq,fun l1 aJ=>?_⟩
   refine next _ _ ⟨l1,[n / 8%(((cnt:Nat):Int)+2)-1],rfl,t4.trans (Af aJ _),t4.free aJ,upd_same,by simp,fun p hp=>?_⟩
   rw[List.mem_singleton.mp hp]
   have e0:=zA8 (n / 8) (show ((cnt:Nat):Int)+2≠0 by omega)
   have e1:=zBB (n / 8) hb
   omega
  ·refine A6 (fun e=>c (by injection e)) ?_
   exact next _ _ ⟨fl,ps,rfl,t4,eL,bC,hok⟩
 clear eL bC hok
 rintro σ H5 ⟨fl,ps,rfl,t5,eL,bC,hok⟩
 refine Ev (fun σ H'=>∃(fl:Addr)(ps:List Int),σ=[some (.int n),some (.int (cnt:Nat)),some (.ref fl)]/\Same H H'/\H fl=none/\H' fl=some (.lst (ps.map V.int))/\J8 120 ps) ?_ (fun next=>?_)
 rotate_left
 ·refine⟨_,rfl,_,_,rfl,rfl,n8,rfl,_,rfl,?_⟩
  have l60:=hok.1
  by_cases c:n%8=3
  ·refine Bd (by show V.int _=V.int 3;rw[c]) ?_
   refine⟨_,rfl,_,rfl,fl,fl,_,_,rfl,rfl,bC,bC,K5 (by rw[List.length_map];omega),fun l1 aJ=>?_⟩
   rw[<-zAM]
   refine next _ _ ⟨l1,ps++ps,rfl,t5.trans (Af aJ _),t5.free aJ,upd_same,by rw[zA];omega,fun p hp=>?_⟩
   rcases List.mem_append.mp hp with h | h<;>exact hok.2 p h
  ·refine A6 (fun e=>c (by injection e)) ?_
   exact next _ _ ⟨fl,ps,rfl,t5,eL,bC,by omega,hok.2⟩
 clear eL bC hok
 rintro σ H6 ⟨fl,ps,rfl,t6,eL,bC,hok⟩
 refine⟨_,rfl,_,_,rfl,rfl,n8,rfl,_,rfl,?_⟩
 by_cases c:n%8=4
 ·refine Bd (by show V.int _=V.int 4;rw[c]) ?_
  refine⟨_,rfl,fl,_,rfl,SqL.of bC,fun l1 aJ=>?_⟩
  rw[<-List.map_reverse]
  exact⟨_,rfl,q l1 ps.reverse _ (t6.trans (Af aJ _)) (t6.free aJ) upd_same ⟨by rw[zCN];exact hok.1,fun p hp=>hok.2 p (List.mem_reverse.mp hp)⟩⟩
 ·refine A6 (fun e=>c (by injection e)) ?_
  exact⟨_,rfl,q fl ps _ t6 eL bC hok⟩
end
abbrev Er:Stmt:=Bu 80
abbrev FF:Stmt:=Bu 81
abbrev PapsAt(H:Hp):List V->List Pap->Prop:=Paired fun(v:V)(x:Pap)=>∃p,v= .ref p/\PapAt H p x
theorem PapsAt.keep{H H':Hp}(s:Same H H'):∀{vs:List V}{xs:List Pap},PapsAt H vs xs->PapsAt H' vs xs
 | _,_,.nil=>.nil
 | _,_,.cons ⟨p,e,h⟩ q=>.cons ⟨p,e,h.keep s⟩ (PapsAt.keep s q)
theorem Hn{α β:Type}{R:α->β->Prop}:∀{xs gK:List α}{ys ys':List β},Paired R xs ys->Paired R gK ys'->Paired R (xs++gK) (ys++ys')
 | _,_,_,_,.nil,h=>h
 | _,_,_,_,.cons a q,h=>.cons a (Hn q h)
def K7(K:PySem.W.Frag):Sp:=fun vs H Q _=>∃(n more:Int)(rm:Addr)(room:List Int)(cnt:Nat),vs=[.int n,.int more,.ref rm,.int (cnt:Nat)]/\0<=n/\0<=more/\SqL K H rm (room.map V.int)/\room≠[]/\1<=cnt/\cnt<=56/\∀(l:Addr)(vs:List V)(xs:List Pap)(H':Hp),Same H H'->H l=none->H' l=some (.lst vs)->PapsAt H' vs xs->(∀x∈xs,x.ok)->xs.length<=20->Q (.ref l) H'
def MO(K:PySem.W.Frag):Sp:=fun vs H Q _=>∃(p:Addr)(x:Pap)(cnt:Nat)(n:Int),vs=[.ref p,.int (cnt:Nat),.int n]/\PapAt H p x/\x.ok/\0<=n/\1<=cnt/\cnt<=56/\∀(l:Addr)(vs:List V)(xs:List Pap)(H':Hp),Same H H'->H l=none->H' l=some (.lst vs)->PapsAt H' vs xs->(∀x∈xs,x.ok)->xs.length<=20->Q (.ref l) H'
theorem Rx(xs:List V):xs.drop 1=DX xs (some 1) none:=by
 unfold DX
 rw[HT.sIx_none,show (1:Int)=((1:Nat):Int) from rfl,HT.sIx_nat]
 show _=(xs.drop (min 1 xs.length)).take (xs.length-min 1 xs.length)
 rw[<-zCB,zAX]
 rcases Nat.le_total 1 xs.length with h | h
 ·rw[Nat.min_eq_left h]
 ·rw[Nat.min_eq_right h,zCL,List.drop_eq_nil_of_le h]
section
theorem scLdrawn:Ao ["_law_n","_law_more","_law_room_here","_law_count","_law_one","_law_other","_law_found","_law_k","_law_places_here"] ["_law_n","_law_more","_law_room_here","_law_count"] (Ad Er):=Bt
theorem scLnear:Ao ["_law_told","_law_count","_law_n","_law_more"] ["_law_told","_law_count","_law_n"] (Ad FF):=Bt
theorem Na(F:Fun K "_law_drawn" "_law_drawn" Er f fd)(T:EV mg)(B:Bl mg)(GP:FnOk P w K mg bz AH 2 g1 d1 ["_law_n","_law_count"] IA)(CP:AL K mg "_law_places" g1 d1 ["_law_n","_law_count"]):FnOk P w K mg bz AH 3 f fd ["_law_n","_law_more","_law_room_here","_law_count"] (K7 K):=by
 refine F.ok scLdrawn (fun vs H Q E h=>?_) (fun ai A outer s H vs Q E hr h=>?_)
 ·obtain⟨n,more,rm,room,cnt,rfl,_⟩:=h
  rfl
 obtain⟨n,more,rm,room,cnt,rfl,h0,gw,hR,rne,hc1,hc56,q⟩:=h
 have n35:(0:Int)<35:=by decide
 have lpos:0<room.length:=List.length_pos_iff.mpr rne
 refine⟨_,Ac (Ar (i:=4) scLdrawn.nd rfl (Or.inl rfl) (Au DG (Au AO (pv 0) Ag) Ag))
  (Ac (Ar (i:=5) scLdrawn.nd rfl (Or.inl rfl) (Au DG (Au AO (Au AY (pv 0) Ag) Ag) Ag))
  (Ac (AB (Al Fo (Au AO (Au AY (pv 0) Ag) Ag) Ag (As _))
   (Ac (Ar (i:=4) scLdrawn.nd rfl (Or.inl rfl) (AD AK (pv 2) (Au AO (pv 0) (Az Ay (by rfl) B.len PySem.boot_len (Aa (pv 2) Ab))) (fun _ _=>rfl)))
   (Ae (Ar (i:=5) scLdrawn.nd rfl (Or.inl rfl) (AD AK (pv 2) (Au AO (Au AY (pv 0) Ag) (Az Ay (by rfl) B.len PySem.boot_len (Aa (pv 2) Ab))) (fun _ _=>rfl)))))
   Ap)
  (Ac (Ar (i:=6) scLdrawn.nd rfl (Or.inl rfl) (AI (Aa (Bc (Aa Av (Aa (pv 4) (Aa (pv 5) Ab)))) (Aa (Bc (Aa Av (Aa (pv 4) (Aa (pv 5) (Aa (Au DG (Au AO (Au AY (pv 0) Ag) Ag) Ag) Ab))))) Ab))))
  (Ac (Bz zAW rfl (ED (by rfl) B.range (Aa Ag Ab)) (AC (i:=7) scLdrawn.nd rfl (Or.inl rfl))
   (Ac (Ar (i:=8) scLdrawn.nd rfl (Or.inl rfl) (Ah GP hr (by rfl) CP.m CP.k CP.b .nil Ak (Aa (Au Kc (pv 1) (AD AK (AI (Aa Ag (Aa (Au JM Ag Ag) (Aa (Au JM Ag Ag) Ab)))) (pv 7) (fun _ _=>rfl))) (Aa (pv 3) Ab))))
   (Ae (Ar (i:=6) scLdrawn.nd rfl (Or.inl rfl) (Au FT (pv 6) (AI (Aa (Bc (Aa Av (Aa (pv 8) Ab))) (Aa (Bc (Aa Av (Aa (AF AR (by rfl) T.lst AZ (Aa (pv 8) Ab)) Ab))) Ab))))))))
  (Ae (Ai (pv 6))))))),?_⟩
 refine⟨_,rfl,_,_,rfl,rfl,n35,_,_,rfl,rfl,?_⟩
 refine⟨_,rfl,_,_,rfl,rfl,⟨by decide,by decide⟩,_,_,rfl,rfl,n35,_,_,rfl,rfl,?_⟩
 refine FV (fun σ H'=>∃(one other:Int),σ=[some (.int n),some (.int more),some (.ref rm),some (.int (cnt:Nat)),some (.int one),some (.int other),none,none,none]/\H'=H) ?_ (fun next=>?_)
 rotate_left
 ·refine⟨_,rfl,_,_,rfl,rfl,⟨by decide,by decide⟩,_,_,rfl,rfl,(by show (0:Int)<3;decide),_,_,rfl,rfl,_,rfl,?_⟩
  by_cases c:(0:Int)<n / 1225%3
  ·refine Bd c ?_
   obtain⟨k1,e1,_⟩:=Ji (n:=n) rne
   obtain⟨k2,e2,_⟩:=Ji (n:=n / 35) rne
   refine⟨_,rfl,_,rfl,_,rfl,rm,_,rfl,.inl hR,_,_,rfl,rfl,(by rw[List.length_map];omega),rm,_,_,_,rfl,rfl,hR,e1,?_⟩
   refine⟨_,rfl,_,rfl,_,_,rfl,rfl,⟨by decide,by decide⟩,_,rfl,rm,_,rfl,.inl hR,_,_,rfl,rfl,(by rw[List.length_map];omega),rm,_,_,_,rfl,rfl,hR,e2,?_⟩
   exact next _ _ ⟨k1,k2,rfl,rfl⟩
  ·refine A6 c ?_
   exact next _ _ ⟨_,_,rfl,rfl⟩
 rintro σ H1 ⟨one,other,rfl,rfl⟩
 refine⟨_,rfl,_,rfl,K9,fun p1 eG=>?_⟩
 have s1:=Af eG (.tup [.str "free",.int one,.int other])
 have g1:upd H1 p1 (.tup [.str "free",.int one,.int other]) p1=some (.tup [.str "free",.int one,.int other]):=upd_same
 generalize upd H1 p1 _=H2 at *
 refine⟨_,rfl,_,rfl,_,rfl,_,_,rfl,rfl,⟨by decide,by decide⟩,_,_,rfl,rfl,(by show (0:Int)<4;decide),_,_,rfl,rfl,Tn,fun p2 cf=>?_⟩
 have s2:=Af cf (.tup [.str "barred",.int one,.int other,.int (n / 3675%4-1)])
 have g2:upd H2 p2 (.tup [.str "barred",.int one,.int other,.int (n / 3675%4-1)]) p2=some (.tup [.str "barred",.int one,.int other,.int (n / 3675%4-1)]):=upd_same
 generalize upd H2 p2 _=H3 at *
 refine⟨Ig,fun fl bC=>?_⟩
 have s3:=Af bC (.lst [.ref p1,.ref p2])
 have g3:upd H3 fl (.lst [.ref p1,.ref p2]) fl=some (.lst [.ref p1,.ref p2]):=upd_same
 generalize upd H3 fl _=H4 at *
 have t3:=s1.trans (s2.trans s3)
 have P4:PapsAt H4 [.ref p1,.ref p2] [.fr one other,.br one other (n / 3675%4-1)]:=.cons ⟨p1,rfl,(s2.trans s3) _ _ g1⟩ (.cons ⟨p2,rfl,s3 _ _ g2⟩ .nil)
 refine⟨_,rfl,by decide,by decide,Db (fun i σ H5=>∃(v7 v8:Option V)(fl:Addr)(vs:List V)(xs:List Pap),σ=[some (.int n),some (.int more),some (.ref rm),some (.int (cnt:Nat)),some (.int one),some (.int other),some (.ref fl),v7,v8]/\Same H1 H5/\H1 fl=none/\H5 fl=some (.lst vs)/\PapsAt H5 vs xs/\(∀x∈xs,x.ok)/\xs.length=2+2*i) ⟨_,_,fl,_,_,rfl,t3,(s1.trans s2).free bC,g3,P4,(fun x hx=>by simp only[zAS,zAR,or_false] at hx;rcases hx with rfl | rfl<;>trivial),rfl⟩ ?_ ?_⟩
 ·rintro i σ H5 hi ⟨v7,v8,fl,vs,xs,rfl,s5,eL,hfl5,hP5,hx5,lx5⟩
  have hi3:i<3:=by
   have h0:i<(3:Int).toNat:=hi
   exact h0
  rw[Int.zero_add]
  obtain⟨y,hy0,eh,hya⟩:∃y:Int,0<y/\y.natAbs.log2<9000/\HZ [V.int 1,V.int (10^(6:Int).toNat),V.int (10^(12:Int).toNat)] (i:Int)=some (.int y):=by
   match i,hi3 with
   | 0,_=>exact⟨1,by decide,by decide,Aj (j:=0) rfl⟩
   | 1,_=>exact⟨_,by decide,by decide,Aj (j:=1) rfl⟩
   | 2,_=>exact⟨_,by decide,by decide,Aj (j:=2) rfl⟩
  refine⟨_,rfl,_,_,rfl,rfl,⟨by decide,by decide,by decide⟩,_,_,rfl,rfl,⟨by decide,by decide,by decide⟩,K9,fun L hL=>?_⟩
  have s6:=Af hL (.lst [V.int 1,V.int (10^(6:Int).toNat),V.int (10^(12:Int).toNat)])
  have L6:upd H5 L (.lst [V.int 1,V.int (10^(6:Int).toNat),V.int (10^(12:Int).toNat)]) L=some (.lst [V.int 1,V.int (10^(6:Int).toNat),V.int (10^(12:Int).toNat)]):=upd_same
  dsimp only
  generalize upd H5 L _=H6 at *
  refine⟨_,rfl,L,_,_,_,rfl,rfl,SqL.of L6,hya,_,_,rfl,rfl,⟨hy0,eh⟩,_,rfl,_,cnt,rfl,zDA gw (Int.le_of_lt hy0),hc1,hc56,fun pl ps H7 s7 jf ar hok=>?_⟩
  have dj:(Pap.pl "follows" ps).ok:=⟨.inl rfl,by have:=hok.1;omega,hok.2⟩
  have hps2:(Pap.pl "contrary" ps).ok:=⟨.inr rfl,by have:=hok.1;omega,hok.2⟩
  have t7:=s6.trans s7
  refine⟨_,rfl,_,rfl,Ig,fun q1 hq1=>?_⟩
  have s8:=Af hq1 (.tup [.str "follows",.ref pl])
  have e1:upd H7 q1 (.tup [.str "follows",.ref pl]) q1=some (.tup [.str "follows",.ref pl]):=upd_same
  generalize upd H7 q1 _=H8 at *
  refine⟨_,rfl,pl,_,rfl,.inl (SqL.of (s8 _ _ ar)),fun be hZ=>?_⟩
  have s9:=Af hZ (.lst (ps.map V.int))
  have e2:upd H8 be (.lst (ps.map V.int)) be=some (.lst (ps.map V.int)):=upd_same
  generalize upd H8 be _=H9 at *
  refine⟨Ig,fun q2 gP=>?_⟩
  have eA:=Af gP (.tup [.str "contrary",.ref be])
  have e3:upd H9 q2 (.tup [.str "contrary",.ref be]) q2=some (.tup [.str "contrary",.ref be]):=upd_same
  generalize upd H9 q2 _=gB at *
  refine⟨Ig,fun l2 aC=>?_⟩
  have ez:=Af aC (.lst [.ref q1,.ref q2])
  have e4:upd gB l2 (.lst [.ref q1,.ref q2]) l2=some (.lst [.ref q1,.ref q2]):=upd_same
  generalize upd gB l2 _=H11 at *
  have t11:=t7.trans (s8.trans (s9.trans (eA.trans ez)))
  have lv:=zB4 hP5
  refine⟨fl,l2,_,_,rfl,rfl,t11 _ _ hfl5,e4,K5 (by show vs.length+2<=1000;omega),fun l3 ju=>?_⟩
  have gA:=Af ju (.lst (vs++[.ref q1,.ref q2]))
  have t12:=t11.trans gA
  have u12:=ez.trans gA
  have F1:PapAt (upd H11 l3 (.lst (vs++[.ref q1,.ref q2]))) q1 (.pl "follows" ps):=⟨pl,(s9.trans (eA.trans u12)) _ _ e1,(s8.trans (s9.trans (eA.trans u12))) _ _ ar⟩
  have F2:PapAt (upd H11 l3 (.lst (vs++[.ref q1,.ref q2]))) q2 (.pl "contrary" ps):=⟨be,u12 _ _ e3,(eA.trans u12) _ _ e2⟩
  refine⟨_,_,l3,_,xs++[.pl "follows" ps,.pl "contrary" ps],rfl,s5.trans t12,(s5.trans t11).free ju,upd_same,Hn (PapsAt.keep t12 hP5) (.cons ⟨q1,rfl,F1⟩ (.cons ⟨q2,rfl,F2⟩ .nil)),fun x hx=>?_,by rw[zA,lx5];show 2+2*i+2=_;omega⟩
  rcases List.mem_append.mp hx with h | h
  ·exact hx5 x h
  ·simp only[zAS,zAR,or_false] at h
   rcases h with rfl | rfl
   ·exact dj
   ·exact hps2
 ·rintro σ H5 ⟨v7,v8,fl,vs,xs,rfl,s5,eL,hfl5,hP5,hx5,lx5⟩
  exact⟨_,rfl,q fl vs xs _ s5 eL hfl5 hP5 hx5 (by rw[lx5];decide)⟩
theorem Qc(F:Fun K "_law_near" "_law_near" FF f fd)(T:EV mg)(B:Bl mg):FnOk P w K mg bz AH 1 f fd ["_law_told","_law_count","_law_n"] (MO K):=by
 refine F.ok scLnear (fun vs H Q E h=>?_) (fun ai A outer s H vs Q E hr h=>?_)
 ·obtain⟨p,x,cnt,n,rfl,_⟩:=h
  rfl
 obtain⟨p,x,cnt,n,rfl,hp,hx,h0,hc1,hc56,q⟩:=h
 refine⟨_,Ac (AB (Al Fo (Az Ay (by rfl) B.len PySem.boot_len (Aa (pv 0) Ab)) Ag (As _))
   (Ae (Ai (AI (Aa (Bc (Aa Av (Aa (AD AN (pv 0) Ag (fun _ _=>rfl)) (Aa (AD AN (pv 0) Ag (fun _ _=>rfl)) Ab)))) (Aa (Bc (Aa Av (Aa (AD AN (pv 0) Ag (fun _ _=>rfl)) (Aa (AD AN (pv 0) Ag (fun _ _=>rfl)) Ab)))) (Aa (Bc (Aa Av (Aa (AD AN (pv 0) Ag (fun _ _=>rfl)) (Aa (AD AN (pv 0) Ag (fun _ _=>rfl)) (Aa (Au AO (pv 2) Ag) Ab))))) Ab))))))
   Ap)
  (Ac (Fr (i:=3) scLnear.nd rfl (Or.inl rfl) (N:=["_law_place","_law_count","_law_n","_law_told"]) (js:=[none,some 1,some 2,some 0]) (cl:=[("_law_told",s.heap.objs.size+1),("_law_n",s.heap.objs.size+3),("_law_count",s.heap.objs.size+2)]) ⟨rfl,rfl,rfl,(by intro p hp;simp at hp;rcases hp with rfl | rfl | rfl<;>rfl),rfl,rfl,rfl⟩ (ED (by rfl) B.range (Aa (pv 1) Ab)) (fun c1=>(AC (i:=0) (show (["_law_place","_law_count","_law_n","_law_told"]:List Str).Nodup by decide +kernel) rfl (Or.inl rfl))) (fun c1=>(BW (Gx (Al Ec (pv 0) (AD AN (pv 3) Ag (fun _ _=>rfl)) (by with_unfolding_all rfl)) (EU (Al AQ (pv 0) (Au AO (Au AY (pv 2) Ag) (pv 1)) (As _)))).pt)) (fun c1=>(pv 0)))
  (Ae (Ai (AI (Aa (Bc (Aa (AD AN (pv 0) Ag (fun _ _=>rfl)) (Aa (pv 3) Ab))) (Aa (Bc (Aa (AD AN (pv 0) Ag (fun _ _=>rfl)) (Aa (E6 M4 (AD AN (pv 0) Ag (fun _ _=>rfl)) (Fc Ag) Jo) Ab))) (Aa (Bc (Aa (AD AK (AI (Aa Av (Aa Av Ab))) (Au AO (pv 2) Ag) (fun _ _=>rfl)) (Aa (AF AR (by rfl) T.lst AZ (Aa (AD AN (pv 0) Ag (fun _ _=>rfl)) Ab)) Ab))) Ab))))))),?_⟩
 cases x with
 | pl z ps=>
  obtain⟨l,au,hl⟩:=hp
  obtain⟨hz,dj,hpb⟩:=hx
  refine⟨_,rfl,p,_,rfl,.inr (SqT.of au),_,_,rfl,rfl,_,rfl,A6 (by show ¬(2:Int)<((2:Nat):Int);decide) ?_⟩
  refine⟨_,rfl,_,rfl,(by show -(2^62)<=((cnt:Nat):Int);omega),(by show ((cnt:Nat):Int)<2^62;omega),fun cc acc ah=>Db (fun i σ H2=>∃(v0:Option V)(zs:List Int),σ=[v0,some (.int (cnt:Nat)),some (.int n),some (.ref p)]/\Same H H2/\H2 acc=some (.lst (zs.map V.int))/\zs.length<=i/\∀k∈zs,0<=k/\k<60) ⟨none,[],rfl,Af ah _,upd_same,zAA _,fun k hk=>nomatch hk⟩ ?_ ?_⟩
  ·rintro i σ H2 hi ⟨v0,zs,rfl,s2,h2,lz,hzs⟩
   have de:i<cnt:=by
    have h0:i<((cnt:Nat):Int).toNat:=hi
    omega
   rw[Int.zero_add]
   have emit:∃xs,H2 acc=some (.lst xs)/\xs.length<sizeLine/\∃(v0:Option V)(zs:List Int),[some (V.int (i:Int)),some (.int (cnt:Nat)),some (.int n),some (.ref p)]=[v0,some (.int (cnt:Nat)),some (.int n),some (.ref p)]/\Same H (upd H2 acc (.lst (xs++[V.int (i:Int)])))/\upd H2 acc (.lst (xs++[V.int (i:Int)])) acc=some (.lst (zs.map V.int))/\zs.length<=i+1/\∀k∈zs,0<=k/\k<60:=by
    refine⟨_,h2,AG (by rw[List.length_map];omega),_,zs++[(i:Int)],rfl,AJ s2 ah _,?_,by rw[zA];show zs.length+1<=_;omega,fun k hk=>?_⟩
    ·rw[upd_same,zAM]
     rfl
    ·rcases List.mem_append.mp hk with h | h
     ·exact hzs k h
     ·rw[List.mem_singleton.mp h]
      omega
   refine⟨_,rfl,_,rfl,p,_,_,_,rfl,rfl,SqT.of (s2 _ _ au),Aj (j:=1) rfl,Jn (SqL.of (s2 _ _ hl)) ⟨_,rfl,?_⟩⟩
   by_cases c1:((i:Nat):Int)∈ps
   ·refine Bd c1 (Bh ?_)
    exact⟨_,rfl,emit⟩
   ·refine A6 c1 ?_
    refine⟨_,rfl,_,rfl,_,_,rfl,rfl,⟨by decide,by decide⟩,_,rfl,_,_,rfl,rfl,(by show (0:Int)<((cnt:Nat):Int);omega),rfl,_,rfl,?_⟩
    by_cases c2:V.int ((i:Nat):Int)=V.int (n / 2%((cnt:Nat):Int))
    ·refine Bd c2 ?_
     exact⟨_,rfl,emit⟩
    ·refine A6 c2 ?_
     exact⟨_,zs,rfl,s2,h2,by omega,hzs⟩
  rintro σ H2 ⟨v0,zs,rfl,s2,h2,lz,hzs⟩
  have lz:zs.length<=56:=by
   have:zs.length<=((cnt:Nat):Int).toNat:=lz
   omega
  refine E4 rfl ?_
  have aC:=s2 _ _ hl
  have i6:=s2 _ _ au
  refine⟨_,rfl,p,_,_,_,rfl,rfl,SqT.of i6,Aj (j:=0) rfl,_,rfl,Ig,fun q1 hq1=>?_⟩
  have s3:=Af hq1 (.tup [.str z,.ref acc])
  have e1:upd H2 q1 (.tup [.str z,.ref acc]) q1=some (.tup [.str z,.ref acc]):=upd_same
  generalize upd H2 q1 _=H3 at *
  refine⟨_,rfl,p,_,_,_,rfl,rfl,SqT.of (s3 _ _ i6),Aj (j:=0) rfl,_,rfl,p,_,_,_,rfl,rfl,SqT.of (s3 _ _ i6),Aj (j:=1) rfl,1,rfl,l,_,rfl,SqL.of (s3 _ _ aC),fun sl aX=>?_⟩
  rw[show DX (ps.map V.int) (some 1) none=(ps.drop 1).map V.int by rw[<-Rx,List.map_drop]]
  have s4:=Af aX (.lst ((ps.drop 1).map V.int))
  have e2:upd H3 sl (.lst ((ps.drop 1).map V.int)) sl=some (.lst ((ps.drop 1).map V.int)):=upd_same
  generalize upd H3 sl _=H4 at *
  refine⟨Ig,fun q2 gP=>?_⟩
  have s5:=Af gP (.tup [.str z,.ref sl])
  have e3:upd H4 q2 (.tup [.str z,.ref sl]) q2=some (.tup [.str z,.ref sl]):=upd_same
  generalize upd H4 q2 _=H5 at *
  have t5:=s3.trans (s4.trans s5)
  refine⟨Ig,fun L hL=>?_⟩
  have s6:=Af hL (.lst [.str "contrary",.str "follows"])
  have e4:upd H5 L (.lst [.str "contrary",.str "follows"]) L=some (.lst [.str "contrary",.str "follows"]):=upd_same
  generalize upd H5 L _=H6 at *
  obtain⟨z3,hz3,hix⟩:∃z3:Str,(z3="follows"\/z3="contrary")/\HZ [V.str "contrary",.str "follows"] (n%2)=some (.str z3):=by
   have e:n%2=0\/n%2=1:=by omega
   rcases e with e | e<;>rw[e]
   ·exact⟨"contrary",.inr rfl,rfl⟩
   ·exact⟨"follows",.inl rfl,rfl⟩
  have t6:=t5.trans s6
  refine⟨_,rfl,_,_,rfl,rfl,(by show (0:Int)<2;decide),L,_,_,_,rfl,rfl,SqL.of e4,hix,_,rfl,p,_,_,_,rfl,rfl,SqT.of (t6 _ _ i6),Aj (j:=1) rfl,l,_,rfl,.inl (SqL.of (t6 _ _ aC)),fun l3 ju=>?_⟩
  have s7:=Af ju (.lst (ps.map V.int))
  have e5:upd H6 l3 (.lst (ps.map V.int)) l3=some (.lst (ps.map V.int)):=upd_same
  generalize upd H6 l3 _=H7 at *
  refine⟨Ig,fun q3 hq3=>?_⟩
  have s8:=Af hq3 (.tup [.str z3,.ref l3])
  have e6:upd H7 q3 (.tup [.str z3,.ref l3]) q3=some (.tup [.str z3,.ref l3]):=upd_same
  generalize upd H7 q3 _=H8 at *
  refine⟨K9,fun rl aM=>?_⟩
  have s9:=Af aM (.lst [.ref q1,.ref q2,.ref q3])
  have e7:upd H8 rl (.lst [.ref q1,.ref q2,.ref q3]) rl=some (.lst [.ref q1,.ref q2,.ref q3]):=upd_same
  have t8:=s2.trans (t6.trans (s7.trans s8))
  have frl:H rl=none:=t8.free aM
  generalize upd H8 rl _=H9 at *
  have u79:=s7.trans (s8.trans s9)
  have u49:=s5.trans (s6.trans u79)
  have F1:PapAt H9 q1 (.pl z zs):=⟨acc,(s4.trans u49) _ _ e1,(s3.trans (s4.trans u49)) _ _ h2⟩
  have F2:PapAt H9 q2 (.pl z (ps.drop 1)):=⟨sl,(s6.trans u79) _ _ e3,u49 _ _ e2⟩
  have F3:PapAt H9 q3 (.pl z3 ps):=⟨l3,s9 _ _ e6,(s8.trans s9) _ _ e5⟩
  refine q rl _ [.pl z zs,.pl z (ps.drop 1),.pl z3 ps] _ (t8.trans s9) frl e7 (.cons ⟨q1,rfl,F1⟩ (.cons ⟨q2,rfl,F2⟩ (.cons ⟨q3,rfl,F3⟩ .nil))) (fun x hx=>?_) (show 3<=20 by decide)
  simp only[zAS,zAR,or_false] at hx
  rcases hx with rfl | rfl | rfl
  ·exact⟨hz,by omega,fun k hk=>by have:=hzs k hk;omega⟩
  ·exact⟨hz,by rw[zCB];omega,fun k hk=>hpb k (List.mem_of_mem_drop hk)⟩
  ·exact⟨hz3,dj,hpb⟩
 | fr one other=>
  have au:H p=some (.tup [.str "free",.int one,.int other]):=hp
  refine⟨_,rfl,p,_,rfl,.inr (SqT.of au),_,_,rfl,rfl,_,rfl,Bd (by show (2:Int)<((3:Nat):Int);decide) ?_⟩
  refine⟨_,rfl,p,_,_,_,rfl,rfl,SqT.of au,Aj (j:=2) rfl,_,rfl,p,_,_,_,rfl,rfl,SqT.of au,Aj (j:=1) rfl,K9,fun q1 hq1=>?_⟩
  have s3:=Af hq1 (.tup [.str "free",.int other,.int one])
  have e1:upd H q1 (.tup [.str "free",.int other,.int one]) q1=some (.tup [.str "free",.int other,.int one]):=upd_same
  generalize upd H q1 _=H3 at *
  refine⟨_,rfl,p,_,_,_,rfl,rfl,SqT.of (s3 _ _ au),Aj (j:=1) rfl,_,rfl,p,_,_,_,rfl,rfl,SqT.of (s3 _ _ au),Aj (j:=2) rfl,K9,fun q2 gP=>?_⟩
  have s4:=Af gP (.tup [.str "free",.int one,.int other])
  have e2:upd H3 q2 (.tup [.str "free",.int one,.int other]) q2=some (.tup [.str "free",.int one,.int other]):=upd_same
  generalize upd H3 q2 _=H4 at *
  have t4:=s3.trans s4
  refine⟨_,rfl,p,_,_,_,rfl,rfl,SqT.of (t4 _ _ au),Aj (j:=1) rfl,_,rfl,p,_,_,_,rfl,rfl,SqT.of (t4 _ _ au),Aj (j:=2) rfl,_,rfl,_,_,rfl,rfl,(by show (0:Int)<2;decide),Tn,fun q3 hq3=>?_⟩
  have s5:=Af hq3 (.tup [.str "barred",.int one,.int other,.int (n%2)])
  have e3:upd H4 q3 (.tup [.str "barred",.int one,.int other,.int (n%2)]) q3=some (.tup [.str "barred",.int one,.int other,.int (n%2)]):=upd_same
  generalize upd H4 q3 _=H5 at *
  refine⟨K9,fun rl aM=>?_⟩
  have s6:=Af aM (.lst [.ref q1,.ref q2,.ref q3])
  have e4:upd H5 rl (.lst [.ref q1,.ref q2,.ref q3]) rl=some (.lst [.ref q1,.ref q2,.ref q3]):=upd_same
  have t5:=t4.trans s5
  have frl:H rl=none:=t5.free aM
  generalize upd H5 rl _=H6 at *
  have F1:PapAt H6 q1 (.fr other one):=(s4.trans (s5.trans s6)) _ _ e1
  have F2:PapAt H6 q2 (.fr one other):=(s5.trans s6) _ _ e2
  have F3:PapAt H6 q3 (.br one other (n%2)):=s6 _ _ e3
  refine q rl _ [.fr other one,.fr one other,.br one other (n%2)] _ (t5.trans s6) frl e4 (.cons ⟨q1,rfl,F1⟩ (.cons ⟨q2,rfl,F2⟩ (.cons ⟨q3,rfl,F3⟩ .nil))) (fun x hx=>?_) (show 3<=20 by decide)
  simp only[zAS,zAR,or_false] at hx
  rcases hx with rfl | rfl | rfl<;>trivial
 | br one other k=>
  have au:H p=some (.tup [.str "barred",.int one,.int other,.int k]):=hp
  refine⟨_,rfl,p,_,rfl,.inr (SqT.of au),_,_,rfl,rfl,_,rfl,Bd (by show (2:Int)<((4:Nat):Int);decide) ?_⟩
  refine⟨_,rfl,p,_,_,_,rfl,rfl,SqT.of au,Aj (j:=2) rfl,_,rfl,p,_,_,_,rfl,rfl,SqT.of au,Aj (j:=1) rfl,K9,fun q1 hq1=>?_⟩
  have s3:=Af hq1 (.tup [.str "free",.int other,.int one])
  have e1:upd H q1 (.tup [.str "free",.int other,.int one]) q1=some (.tup [.str "free",.int other,.int one]):=upd_same
  generalize upd H q1 _=H3 at *
  refine⟨_,rfl,p,_,_,_,rfl,rfl,SqT.of (s3 _ _ au),Aj (j:=1) rfl,_,rfl,p,_,_,_,rfl,rfl,SqT.of (s3 _ _ au),Aj (j:=2) rfl,K9,fun q2 gP=>?_⟩
  have s4:=Af gP (.tup [.str "free",.int one,.int other])
  have e2:upd H3 q2 (.tup [.str "free",.int one,.int other]) q2=some (.tup [.str "free",.int one,.int other]):=upd_same
  generalize upd H3 q2 _=H4 at *
  have t4:=s3.trans s4
  refine⟨_,rfl,p,_,_,_,rfl,rfl,SqT.of (t4 _ _ au),Aj (j:=1) rfl,_,rfl,p,_,_,_,rfl,rfl,SqT.of (t4 _ _ au),Aj (j:=2) rfl,_,rfl,_,_,rfl,rfl,(by show (0:Int)<2;decide),Tn,fun q3 hq3=>?_⟩
  have s5:=Af hq3 (.tup [.str "barred",.int one,.int other,.int (n%2)])
  have e3:upd H4 q3 (.tup [.str "barred",.int one,.int other,.int (n%2)]) q3=some (.tup [.str "barred",.int one,.int other,.int (n%2)]):=upd_same
  generalize upd H4 q3 _=H5 at *
  refine⟨K9,fun rl aM=>?_⟩
  have s6:=Af aM (.lst [.ref q1,.ref q2,.ref q3])
  have e4:upd H5 rl (.lst [.ref q1,.ref q2,.ref q3]) rl=some (.lst [.ref q1,.ref q2,.ref q3]):=upd_same
  have t5:=t4.trans s5
  have frl:H rl=none:=t5.free aM
  generalize upd H5 rl _=H6 at *
  have F1:PapAt H6 q1 (.fr other one):=(s4.trans (s5.trans s6)) _ _ e1
  have F2:PapAt H6 q2 (.fr one other):=(s5.trans s6) _ _ e2
  have F3:PapAt H6 q3 (.br one other (n%2)):=s6 _ _ e3
  refine q rl _ [.fr other one,.fr one other,.br one other (n%2)] _ (t5.trans s6) frl e4 (.cons ⟨q1,rfl,F1⟩ (.cons ⟨q2,rfl,F2⟩ (.cons ⟨q3,rfl,F3⟩ .nil))) (fun x hx=>?_) (show 3<=20 by decide)
  simp only[zAS,zAR,or_false] at hx
  rcases hx with rfl | rfl | rfl<;>trivial
end
theorem KY:∀(l:List Nat)(n:Nat),l.Pairwise (· < ·)->(∀p∈l,p<n)->l.length<=n:=by
 have key:∀(l:List Nat)(lo n:Nat),l.Pairwise (· < ·)->(∀p∈l,lo<=p/\p<n)->lo+l.length<=max lo n:=by
  intro l
  induction l with
  | nil=>intro lo n _ _;simp;omega
  | cons a l ih=>
   intro lo n hp hb
   obtain⟨h1,h2⟩:=List.pairwise_cons.mp hp
   have ha:=hb a List.mem_cons_self
   have:=ih (a+1) n h2 fun p hp'=>⟨h1 p hp',(hb p (List.mem_cons_of_mem _ hp')).2⟩
   rw[zAI]
   omega
 intro l n hp hb
 have:=key l 0 n hp fun p hp'=>⟨zA9 _,hb p hp'⟩
 omega
theorem OO(wr:Wr room)(hb:aB.Sublist room):AV room [aB]=aB:=by
 refine DJ (wr.1.sublist zAO) (wr.1.sublist hb) fun k=>?_
 rw[mem_com]
 constructor
 ·intro h
  exact h.2 aB List.mem_cons_self
 ·intro h
  exact⟨hb.subset h,fun r hr=>by rw[List.mem_singleton.mp hr];exact h⟩
theorem OV{seen:List Int}(hs:W.sides=AE z t W.room)(av:[]∉AE z t W.room)(hg:AV W.room (AT W)=W.going)(hgs:W.going.Sublist W.room)(iT:seen.Sublist W.room)(x:Pap):EH W u seen x=Ii (AE z t W.room) W.room (AT W) seen u x:=by
 have hb:=SN (z:=z) (t:=t) (u:=u) hgs iT av
 cases x with
 | pl z ps=>exact Iv
 | fr a b=>
  simp only[EH,Ii]
  rw[hg,hs]
  congr 2
  unfold BE
  rw[hb]
  cases B2 (AE z t W.room) (Ik (AE z t W.room) (AA true u W.going) (AA false u W.going) (Bm seen u)) with
  | none=>exact decide_eq_true rfl
  | some i=>exact decide_eq_false fun e=>by injection e with e;revert e;decide
 | br a b k=>
  simp only[EH,Ii]
  rw[hg,hs]
  congr 2
  unfold BE
  rw[hb]
  cases B2 (AE z t W.room) (Ik (AE z t W.room) (AA true u W.going) (AA false u W.going) (Bm seen u)) with
  | none=>exact decide_eq_false fun e=>by injection e with e;revert e;decide
  | some i=>
   refine decide_eq_decide.mpr ⟨fun e=>?_,fun e=>?_⟩
   ·simp only[List.cons.injEq,and_true,true_and] at e
    exact e.symm
   ·show _=[V.str "barred",.int a,.int b,.int (i:Nat)]
    rw[e]
theorem L1(h:PD room rows pn aN):B8 room rows pn aN=true:=by
 unfold B8
 rw[zAN,zA0,zA0]
 refine⟨fun k hk=>decide_eq_true (h.1 k hk),fun p hp=>?_⟩
 obtain⟨k,hk,hn⟩:=h.2 p hp
 exact List.any_eq_true.mpr ⟨k,hk,by rw[decide_eq_false hn];rfl⟩
def Im(pn:List Nat):List Int:=pn.map fun p=>((p:Nat):Int)
theorem Li(h:∀k∈AV room rows,k∈aa):EJ (Im (B6 aa room rows)) rows room aa=true:=by
 obtain⟨h1,h2,h3⟩:=HW h
 unfold EJ
 have e:(Im (B6 aa room rows)).map Int.toNat=B6 aa room rows:=by
  unfold Im
  rw[zB3]
  exact (List.map_congr_left fun p _=>by show ((p:Nat):Int).toNat=p;omega).trans (List.map_id _)
 rw[e,L1 h3,zDM]
 refine decide_eq_true ⟨?_,fun p hp=>?_⟩
 ·unfold Im
  exact List.pairwise_map.mpr (h1.imp fun {a b} cP=>by omega)
 ·unfold Im at hp
  obtain⟨q,hq,rfl⟩:=List.mem_map.mp hp
  have:=h2 q hq
  omega
theorem Qh(h:∀k∈AV room rows,k∈aa)(h56:rows.length<=56):(Im (B6 aa room rows)).length<=200/\∀p∈Im (B6 aa room rows),-1<=p/\p<62:=by
 obtain⟨h1,h2,h3⟩:=HW h
 have:=KY _ _ h1 h2
 unfold Im
 refine⟨by rw[List.length_map];omega,fun p hp=>?_⟩
 obtain⟨q,hq,rfl⟩:=List.mem_map.mp hp
 have:=h2 q hq
 omega
theorem KO{seen:List Int}(h1:one∈AA true u W.going)(h2:other∈AA false u W.going)(hp:H p=some (.tup (BE W.sides W.going seen (AA true u W.room) one other))):∃x:Pap,PapAt H p x/\x.ok/\EH W u seen x=true:=by
 cases hb:Il W.sides W.going seen (AA true u W.room) with
 | none=>
  have e:BE W.sides W.going seen (AA true u W.room) one other=[V.str "free",.int one,.int other]:=by unfold BE;rw[hb]
  rw[e] at hp
  refine⟨.fr one other,hp,trivial,?_⟩
  simp only[EH]
  rw[decide_eq_true h1,decide_eq_true h2,e,decide_eq_true rfl]
  rfl
 | some i=>
  have e:BE W.sides W.going seen (AA true u W.room) one other=[V.str "barred",.int one,.int other,.int (i:Nat)]:=by unfold BE;rw[hb]
  rw[e] at hp
  refine⟨.br one other (i:Nat),hp,trivial,?_⟩
  simp only[EH]
  rw[decide_eq_true h1,decide_eq_true h2,e,decide_eq_true rfl]
  rfl
theorem E7{seen:List Int}(hg:AV W.room (AT W)=W.going)(hgs:W.going.Sublist W.room)(hb:AA (!b) u W.going=[])(h56:(AT W).length<=56)(hp:H p=some (.tup [.str (if b then "follows" else "contrary"),.ref l]))(hl:H l=some (.lst ((B6 (AA b u W.room) W.room (AT W)).map fun p=>V.int (p:Nat)))):∃x:Pap,PapAt H p x/\x.ok/\EH W u seen x=true:=by
 have aq:∀k∈AV W.room (AT W),k∈AA b u W.room:=fun k hk=>by
  rw[hg] at hk
  have h1:¬(tv u k=(!b)):=fun e=>by
   have:k∈AA (!b) u W.going:=mem_ins.mpr ⟨hk,e⟩
   rw[hb] at this
   cases this
  refine mem_ins.mpr ⟨hgs.subset hk,?_⟩
  cases h2:tv u k<;>cases b<;>simp_all
 have ar:=Qh aq h56
 refine⟨.pl (if b then "follows" else "contrary") (Im (B6 (AA b u W.room) W.room (AT W))),⟨l,hp,?_⟩,⟨?_,ar⟩,?_⟩
 ·rw[hl]
  unfold Im
  rw[zB3]
  rfl
 ·cases b
  ·exact .inr rfl
  ·exact .inl rfl
 ·show DQ _ _ (BL _ _)=true
  rw[Iv]
  have e:(if (if b then ("follows":Str) else "contrary")="follows" then AA true u W.room else AA false u W.room)=AA b u W.room:=by
   cases b
   ·exact if_neg (by decide)
   ·exact if_pos rfl
  rw[e]
  exact Li aq
theorem MT{α β:Type}{R:α->β->Prop}:∀(n:Nat){xs:List α}{ys:List β},Paired R xs ys->Paired R (xs.take n) (ys.take n)
 | 0,_,_,_=>.nil
 | _+1,_,_,.nil=>.nil
 | n+1,_,_,.cons a q=>.cons a (MT n q)
theorem NI(xs:List V):DX xs none (some 1)=xs.take 1:=by
 unfold DX
 rw[HT.sIx_none,show (1:Int)=((1:Nat):Int) from rfl,HT.sIx_nat]
 show (xs.drop 0).take (min 1 xs.length-0)=_
 rw[List.drop_zero,Nat.sub_zero]
 rcases Nat.le_total 1 xs.length with h | h
 ·rw[Nat.min_eq_left h]
 ·rw[Nat.min_eq_right h,zAX,zBX h]
theorem NS{C a:Addr}{M:List Addr}{U:Tk}{W:Ta}{t:Tr}{seen:List Int}{H:Hp}{Q:Addr->Hp->Prop}{EA:Prop}{EB:Hp->Prop}(hT:TalkAt M C H a U W)(he:W.ended=false)(hm:t.ok W.many)(hg:AV W.room (AT W)=W.going)(h56:(AT W).length<=56)(q:∀(p:Addr) (x:Pap) (H':Hp),Same H H'->PapAt H' p x->x.ok->EH W t seen x=true->Q p H'):
 (W.ended=true->EA)/\(W.ended=false->¬t.ok W.many->∀H',Same H H'->EB H')/\
 (W.ended=false->t.ok W.many->AA false t W.going=[]->∀(p l:Addr)(H':Hp),Same H H'->H p=none->H l=none->H' p=some (.tup [.str "follows",.ref l])->H' l=some (.lst ((B6 (AA true t W.room) W.room (AT W)).map fun p=>V.int (p:Nat)))->Q p H')/\
 (W.ended=false->t.ok W.many->AA false t W.going≠[]->AA true t W.going=[]->∀(p l:Addr)(H':Hp),Same H H'->H p=none->H l=none->H' p=some (.tup [.str "contrary",.ref l])->H' l=some (.lst ((B6 (AA false t W.room) W.room (AT W)).map fun p=>V.int (p:Nat)))->Q p H')/\
 (W.ended=false->t.ok W.many->∀(one other:Int)(ins bg:List Int),AA true t W.going=one::ins->AA false t W.going=other::bg->∀(p:Addr)(H':Hp),Same H H'->H p=none->H' p=some (.tup (BE W.sides W.going seen (AA true t W.room) one other))->Q p H'):=by
 have bM:=hT.going_sub
 refine⟨(fun z=>by rw[he] at z;cases z),(fun _ hn=>absurd hm hn),fun _ _ hO p l H' s' _ _ hp hl=>?_,fun _ _ _ hI p l H' s' _ _ hp hl=>?_,fun _ _ one other ins bg hI hO p H' s' _ hp=>?_⟩
 ·obtain⟨x,h1,h2,h3⟩:=E7 (seen:=seen) (b:=true) hg bM hO h56 hp hl
  exact q p x H' s' h1 h2 h3
 ·obtain⟨x,h1,h2,h3⟩:=E7 (seen:=seen) (b:=false) hg bM hI h56 hp hl
  exact q p x H' s' h1 h2 h3
 ·obtain⟨x,h1,h2,h3⟩:=KO (one:=one) (other:=other) (by rw[hI];exact List.mem_cons_self) (by rw[hO];exact List.mem_cons_self) hp
  exact q p x H' s' h1 h2 h3
theorem M3{α β:Type}{R:α->β->Prop}:∀{xs:List α}{ys:List β}{i:Nat}{x:α}{y:β},Paired R xs ys->xs[i]? = some x->ys[i]? = some y->R x y
 | _,_,0,_,_,.cons a _,hx,hy=>by cases hx;cases hy;exact a
 | _,_,i+1,_,_,.cons _ q,hx,hy=>M3 (i:=i) q hx hy
abbrev JN:Stmt:=Bu 82
def ME(K:PySem.W.Frag):Sp:=fun vs H Q _=>∃(a:Addr)(ns:List Int),vs=[.ref a]/\SqL K H a (ns.map V.int)/\ns.length<=63/\∀H',Q (.bl true) H'
section
variable {cK:Addr}
theorem scLaw:Ao ["_law_script","_law_many","_law_room_here","_law_kind_here","_law_sentence_here","_law_sides_here","_law_talk","_law_rows_here","_law_asked_here","_law_n","_law_held","_law_seen_here","_law_count","_law_papers","_law_paper","_law_kept","_law_worlds_here","_law_found"] ["_law_script"] (Ad JN):=Bt
theorem Ti(F:Fun K "law" "law" JN f fd)(B:Bl mg)(T:EV mg)(TX:J0 K cK)(GN:FnOk P w K mg bz AH 1 fN dN ["_law_script","_law_k"] (Jd K))(CN:AL K mg "_law_num" fN dN ["_law_script","_law_k"])(GM:FnOk P w K mg bz AH 1 fM dM ["_law_n"] Sj)(CM:AL K mg "_law_few" fM dM ["_law_n"])(GT:FnOk P w K mg bz AH 63 fT dT ["_law_script","_law_many"] (Mh K))(CT:AL K mg "_law_start" fT dT ["_law_script","_law_many"])(GD:FnOk P w K mg bz AH 62 fD dD ["_law_room_here","_law_kind_here","_law_sentence_here"] (M0 K))(CD:AL K mg "_law_sides" fD dD ["_law_room_here","_law_kind_here","_law_sentence_here"])(GB:FnOk P w K mg bz AH 1 fB dB ["_law_room_here","_law_sides_here"] (Pm K))(CB:AL K mg "_law_base" fB dB ["_law_room_here","_law_sides_here"])(GV:FnOk P w K mg bz AH 8 fV dV ["_law_talk","_law_script","_law_many","_law_room_here","_law_first"] (Ir K cK))(CV:AL K mg "_law_driven" fV dV ["_law_talk","_law_script","_law_many","_law_room_here","_law_first"])(GR:FnOk P w K mg bz AH 2 fR dR ["_law_script"] (Mg K))(CR:AL K mg "_law_rule" fR dR ["_law_script"])(GW:FnOk P w K mg bz AH 63 fW dW ["_law_room_here","_law_base_here","_law_entries"] (ML K))(CW:AL K mg "_law_rows" fW dW ["_law_room_here","_law_base_here","_law_entries"])(GG:FnOk P w K mg bz AH 3 fG dG ["_law_n","_law_sentence_here","_law_entries","_law_many"] (Mn K))(CG:AL K mg "_law_goal" fG dG ["_law_n","_law_sentence_here","_law_entries","_law_many"])(GE:FnOk P w K mg bz AH 3 fE dE ["_law_n","_law_room_here"] (Cf K))(CE:AL K mg "_law_seen" fE dE ["_law_n","_law_room_here"])(GX:FnOk P w K mg bz AH 3 fX dX ["_law_n","_law_more","_law_room_here","_law_count"] (K7 K))(CX:AL K mg "_law_drawn" fX dX ["_law_n","_law_more","_law_room_here","_law_count"])(GY:FnOk P w K mg bz AH 1 fY dY ["_law_told","_law_count","_law_n"] (MO K))(CY:AL K mg "_law_near" fY dY ["_law_told","_law_count","_law_n"])(GZ:FnOk P w K mg bz AH 63 fZ dZ ["_law_paper","_law_sides_here","_law_room_here","_law_rows_here","_law_seen_here","_law_asked_here"] (Kr K))(CZ:AL K mg "_law_holds" fZ dZ ["_law_paper","_law_sides_here","_law_room_here","_law_rows_here","_law_seen_here","_law_asked_here"])(GP:FnOk P w K mg bz (Gd P w) 6 fP dP ["talk","sentence","seen"] (IJ K cK cS cO))(CP:AL K mg "paper_of" fP dP ["talk","sentence","seen"])(GQ:FnOk P w K mg bz (Gd P w) 6 fQ dQ ["talk","sentence","seen","paper"] (IH K cK))(CQ:AL K mg "paper_holds" fQ dQ ["talk","sentence","seen","paper"])(GI:FnOk P w K mg bz (Gd P w) 5 fI dI ["self","many","room","kind","sentence","rule"] (MI cK cS cB cN))(CI:TF K mg cK "Talk" fI dI ["self","many","room","kind","sentence","rule"])(G2:FnOk P w K mg bz AH 1 m2 e2 ["self"] (JY cK))(C2:BY K cK "held" m2 e2 ["self"])(G6:FnOk P w K mg bz AH 1 m6 e6 ["self"] (ER cK))(C6:BY K cK "entries" m6 e6 ["self"]):FnOk P w K mg bz AH 64 f fd ["_law_script"] (ME K):=by
 refine F.ok scLaw (fun vs H Q E h=>?_) (fun ai A outer s H vs Q E hr h=>?_)
 ·obtain⟨a,ns,rfl,_⟩:=h
  rfl
 obtain⟨a,ns,rfl,hS,bx,q⟩:=h
 have ak:Room 1 _:=hr.mono (by decide)
 have aE:Room 2 _:=hr.mono (by decide)
 have ba:Room 3 _:=hr.mono (by decide)
 have hr6:Room 6 _:=hr.mono (by decide)
 have hr8:Room 8 _:=hr.mono (by decide)
 have hr62:Room 62 _:=hr.mono (by decide)
 have hr63:Room 63 _:=hr.mono (by decide)
 refine⟨_,Ac (Ar (i:=1) scLaw.nd rfl (Or.inl rfl) (Ah GM ak (by rfl) CM.m CM.k CM.b .nil Ak (Aa (Ah GN ak (by rfl) CN.m CN.k CN.b .nil Ak (Aa (pv 0) (Aa Ag Ab))) Ab)))
  (Ac (OJ (Ah GT hr63 (by rfl) CT.m CT.k CT.b .nil Ak (Aa (pv 0) (Aa (pv 1) Ab))) (EQ rfl (Bf (AC (i:=2) scLaw.nd rfl (Or.inl rfl)) (Bf (AC (i:=3) scLaw.nd rfl (Or.inl rfl)) (Bf (AC (i:=4) scLaw.nd rfl (Or.inl rfl)) Dw)))))
  (Ac (Ar (i:=5) scLaw.nd rfl (Or.inl rfl) (Ah GD hr62 (by rfl) CD.m CD.k CD.b .nil Ak (Aa (pv 2) (Aa (pv 3) (Aa (pv 4) Ab)))))
  (Ac (Ar (i:=6) scLaw.nd rfl (Or.inl rfl) (Ah GV hr8 (by rfl) CV.m CV.k CV.b .nil Ak (Aa (RF CI.make GI hr6 (by rfl) CI.m CI.b .nil HR (Aa (pv 1) (Aa (pv 2) (Aa (pv 3) (Aa (pv 4) (Aa (Ah GR aE (by rfl) CR.m CR.k CR.b .nil Ak (Aa (pv 0) Ab)) Ab)))))) (Aa (pv 0) (Aa (pv 1) (Aa (pv 2) (Aa (pv 4) Ab)))))))
  (Ac (Ar (i:=7) scLaw.nd rfl (Or.inl rfl) (Ah GW hr63 (by rfl) CW.m CW.k CW.b .nil Ak (Aa (pv 2) (Aa (Ah GB ak (by rfl) CB.m CB.k CB.b .nil Ak (Aa (pv 2) (Aa (pv 5) Ab))) (Aa (A0 (pv 6) TX.cl C6.m G6 ak C6.b .nil Ak) Ab)))))
  (Ac (Ar (i:=8) scLaw.nd rfl (Or.inl rfl) (Ah GG ba (by rfl) CG.m CG.k CG.b .nil Ak (Aa (Ah GN ak (by rfl) CN.m CN.k CN.b .nil Ak (Aa (pv 0) (Aa Ag Ab))) (Aa (pv 4) (Aa (A0 (pv 6) TX.cl C6.m G6 ak C6.b .nil Ak) (Aa (pv 1) Ab))))))
  (Ac (Ar (i:=9) scLaw.nd rfl (Or.inl rfl) (Ah GN ak (by rfl) CN.m CN.k CN.b .nil Ak (Aa (pv 0) (Aa Ag Ab))))
  (Ac (Ar (i:=10) scLaw.nd rfl (Or.inl rfl) (A0 (pv 6) TX.cl C2.m G2 ak C2.b .nil Ak))
  (Ac (Ar (i:=11) scLaw.nd rfl (Or.inl rfl) (Ah GE ba (by rfl) CE.m CE.k CE.b .nil Ak (Aa (Au AY (Ah GN ak (by rfl) CN.m CN.k CN.b .nil Ak (Aa (pv 0) (Aa Ag Ab))) Ag) (Aa (pv 2) Ab))))
  (Ac (Ar (i:=12) scLaw.nd rfl (Or.inl rfl) (Az Ay (by rfl) B.len PySem.boot_len (Aa (pv 7) Ab)))
  (Ac (AB (Al AQ (Bp (pv 6) rfl) Av (As _))
   (Ae (Ar (i:=7) scLaw.nd rfl (Or.inl rfl) (E6 M4 (pv 7) Jo (Fc Ag))))
   Ap)
  (Ac (Ar (i:=13) scLaw.nd rfl (Or.inl rfl) (Au FT (AI (Aa (Ah GP hr6 (by rfl) CP.m CP.k CP.b .nil HR (Aa (pv 6) (Aa (pv 8) (Aa (pv 11) Ab)))) Ab)) (Ah GX ba (by rfl) CX.m CX.k CX.b .nil Ak (Aa (pv 9) (Aa (Ah GN ak (by rfl) CN.m CN.k CN.b .nil Ak (Aa (pv 0) (Aa Ag Ab))) (Aa (pv 2) (Aa (pv 12) Ab)))))))
  (Ac (Bz zAW rfl (AS (Au FT (pv 13) (Ah GY ak (by rfl) CY.m CY.k CY.b .nil Ak (Aa (AD AK (pv 13) Ag (fun _ _=>rfl)) (Aa (pv 12) (Aa (Au AY (pv 9) Ag) Ab)))))) (AC (i:=14) scLaw.nd rfl (Or.inl rfl))
   (Ac (Ar (i:=15) scLaw.nd rfl (Or.inl rfl) (QK (Al AQ (Az Ay (by rfl) B.len PySem.boot_len (Aa (pv 14) Ab)) Ag (As _)) (AF AR (by rfl) T.lst AZ (Aa (AD AN (pv 14) Ag (fun _ _=>rfl)) Ab)) (AI Ab)))
   (Ac (Ar (i:=16) scLaw.nd rfl (Or.inl rfl) (AF AR (by rfl) T.lst AZ (Aa (pv 11) Ab)))
   (Ac (Ar (i:=17) scLaw.nd rfl (Or.inl rfl) (Ah GQ hr6 (by rfl) CQ.m CQ.k CQ.b .nil HR (Aa (pv 6) (Aa (pv 8) (Aa (pv 16) (Aa (pv 14) Ab))))))
   (Ac (AB (Al (LV hr.units9) (pv 16) (pv 11) (As _))
    (Ae (Ai BQ))
    Ap)
   (Ac (AB (Gx (BO (Bg (Az Cp (by rfl) T.isi boot_isinstance (Aa (pv 17) (Aa (Hd (v:=.ty "bool") (by rfl) T.bool boot_bool rfl) Ab))))) (EU (HG (Al AQ (Az Ay (by rfl) B.len PySem.boot_len (Aa (pv 14) Ab)) Ag (As _)) (EZ (Al (LV hr.units9) (AD AN (pv 14) Ag (fun _ _=>rfl)) (pv 15) (As _)))).pt)).pt
    (Ae (Ai BQ))
    Ap)
   (Ae (AB (Al Mu (pv 17) (Ah GZ hr63 (by rfl) CZ.m CZ.k CZ.b .nil Ak (Aa (pv 14) (Aa (pv 5) (Aa (pv 2) (Aa (pv 7) (Aa (pv 11) (Aa (pv 8) Ab))))))) (As _))
    (Ae (Ai BQ))
    Ap))))))))
  (Ac (AB (Gx (Al (LV hr.units9) (A0 (pv 6) TX.cl C2.m G2 ak C2.b .nil Ak) (pv 10) (As _)) (EU (Al Mu (Az Ay (by rfl) B.len PySem.boot_len (Aa (A0 (pv 6) TX.cl C6.m G6 ak C6.b .nil Ak) Ab)) (Au DG (pv 12) Ag) (As _)))).pt
   (Ae (Ai BQ))
   Ap)
  (Ae (Ai (Bo Tf (Ah GQ hr6 (by rfl) CQ.m CQ.k CQ.b .nil HR (Aa (pv 6) (Aa (pv 8) (Aa (pv 11) (Aa (AD AK (pv 13) Ag (fun _ _=>rfl)) Ab))))) BQ (As _))))))))))))))))),?_⟩
 refine⟨_,rfl,a,ns,0,rfl,hS,bx,by decide,by decide,fun H1 hn0 s1=>⟨_,rfl,hn0,fun many H2 cu bI s2=>?_⟩⟩
 have t2:=s1.trans s2
 refine⟨_,rfl,_,rfl,a,ns,many,rfl,t2.seq hS,bx,cu,bI,fun tp rm room z v t H3 s3 htp hrm0 cj ax av ha hok dr hz=>⟨tp,_,rfl,SqT.of htp,rfl,_,_,rfl,_,_,rfl,_,_,rfl,rfl,?_⟩⟩
 have t3:=t2.trans s3
 have bL:t.ok 5:=Tr.ok.mono bI hok
 have aV:Wr room:=(MV bI).sub ax
 have jA:=aV.len
 refine⟨_,rfl,_,rfl,_,rfl,rm,room,z,v,t,rfl,ha,bL,by omega,SqL.of cj,by omega,fun sd xs H4 s4 hsd0 hsd4 hR4=>?_⟩
 have t4:=t3.trans s4
 have ssub:=fun s (hs:s∈AE z t room)=>Fy hs
 have sw4:∀s∈AE z t room,s.length<=400:=fun s hs=>zAH (aV.sub (ssub s hs)).len (by decide)
 have sne:AE z t room≠[]:=by
  rcases Di (z:=z) (t:=t) (row:=room) with⟨_,e⟩|⟨_,_,e⟩<;>rw[e]<;>simp
 have s2l:(AE z t room).length<=2:=by
  rcases Di (z:=z) (t:=t) (row:=room) with⟨_,e⟩|⟨_,_,e⟩<;>rw[e]<;>simp
 refine⟨_,rfl,_,rfl,_,rfl,_,rfl,_,rfl,a,ns,rfl,t4.seq hS,bx,fun rule H5 s5 jH=>fun x dx hx hdx nex=>?_⟩
 have t5:=t4.trans s5
 have g9:=(s4.trans s5) _ _ cj
 have ha5:=ha.keep (TS.same (s4.trans s5))
 have sM:Same H5 (upd (upd H5 dx (.own x)) x (.ins cK dx [])):=(Af hdx _).trans (Af (by rw[Ax nex.symm];exact hx) _)
 refine⟨x,dx,rm,many,z,rule,v,t,room,[],rfl,upd_same,by simp,fun m hm=>by simp at hm,LS (ha5.keep (TS.same sM)),bL,by omega,bI,sM _ _ g9,aV,fun hn=>absurd hok hn,fun _ hn=>absurd ⟨jH,Rm hz⟩ hn,fun _ _ _ he=>absurd he (Mr hz),fun _ _ _ _ U0 H6 b6 gv0 lf0 sp0 esv hT=>⟨rfl,?_⟩⟩
 have s6:Same H5 H6:=Nt hx hdx nex b6
 obtain⟨gv5,ngx,ngd⟩:=Ja (C:=cK) gv0
 obtain⟨lf5,nlx,nld⟩:=Ja (C:=cK) lf0
 generalize bt:IN room (AE z t room)=aB at *
 have bsub:aB.Sublist room:=by rw[<-bt];exact base_sub
 have hT:TalkAt (x::U0.gv::U0.lf::[]) cK H6 x U0 (tw many z rule t room [] aB []):=by rw[<-bt];exact hT
 obtain⟨N,hN⟩:∃N,N=x::U0.gv::U0.lf::[]:=⟨_,rfl⟩
 rw[<-hN] at hT
 have offN:∀m∈N,H5 m=none:=fun m hm=>by
  rw[hN] at hm
  simp only[zAS,zAR,or_false] at hm
  rcases hm with rfl | rfl | rfl
  ·exact hx
  ·exact gv5
  ·exact lf5
 have s56:Same H5 (BA N H6):=fun b o e=>Bw (s6 _ _ e) fun z=>by rw[offN b z] at e;cases e
 refine⟨_,rfl,_,rfl,_,rfl,_,rfl,x,a,rm,many,z,rule,v,t,room,aB,ns,N,U0,rfl,hN,hT,(t5.trans s56).seq hS,bx,cu,bI,s56 _ _ g9,av,ha5.keep (TS.same s56),hok,dr,fun U es ls H9 c9 T9 eg el lls hl55 fF hheld=>?_⟩
 have s59:Same H5 H9:=(s56.trans c9).trans cut_same
 have t9:=t5.trans s59
 have ia:=s59 _ _ g9
 have ha9:=ha5.keep (TS.same s59)
 have hsd9:=(s5.trans s59) _ _ hsd4
 have hR9:=hR4.keep (s5.trans s59)
 have ib:∀e∈es,e.2.1.ok 5/\e.2.1.size<=800:=fun e he=>⟨Tr.ok.mono bI (fF e he).1,zAH (fF e he).2 (by decide)⟩
 have lents:(es.map fun e=>(e.2.1,e.2.2)).length=es.length:=List.length_map _
 refine⟨_,rfl,_,rfl,_,rfl,rm,sd,room,xs,_,rfl,SqL.of ia,by omega,SqL.of hsd9,hR9,by omega,fun bs gB eA hbs0 hbs=>?_⟩
 rw[bt] at hbs
 have T10:=T9.keep eA
 refine⟨_,rfl,x,_,_,rfl,T10.ob,DH,x,N,U,_,rfl,T10,fun en H11 ez en0 hen=>?_⟩
 have T11:=T10.keep ez
 have s911:=eA.trans ez
 have hE9:PairsAt H9 U.ges (es.map fun e=>(e.2.1,e.2.2)):=EK (T9.en.keep cut_same)
 have lbas:=(aV.sub bsub).len
 refine⟨rm,bs,en,room,aB,_,_,rfl,SqL.of (s911 _ _ ia),by omega,SqL.of (ez _ _ hbs),SqL.of hen,PairsAt.keep s911 hE9,fun e he=>?_,by omega,fun rl gC H12 gA rl0 aM hRL=>?_⟩
 ·obtain⟨e0,h0,rfl⟩:=List.mem_map.mp he
  exact⟨Tr.ok.mono bI (fF e0 h0).1,zAH (fF e0 h0).2 (by decide)⟩
 have k12:=s911.trans gA
 have lrl:gC.length=es.length+1:=by
  rw[hRL.len,zAI]
  unfold Be
  rw[List.length_map,List.length_map]
 refine⟨_,rfl,a,ns,5,rfl,(t9.trans k12).seq hS,bx,by decide,by decide,fun H13 hn5 g0=>?_⟩
 have k13:=k12.trans g0
 have T13:=T9.keep k13
 refine⟨_,rfl,_,rfl,x,_,_,rfl,T13.ob,DH,x,N,U,_,rfl,T13,fun en2 H14 fg en20 hen2=>?_⟩
 have k14:=k13.trans fg
 refine⟨_,rfl,_,v,t,en2,_,_,many,rfl,hn5,ha9.keep (TS.same k14),hok,dr,SqL.of hen2,PairsAt.keep k14 hE9,fun e he=>?_,cu,bI,fun v' u H15 s15 hau gc gf=>?_⟩
 ·obtain⟨e0,h0,rfl⟩:=List.mem_map.mp he
  exact fF e0 h0
 have gh:u.ok 5:=Tr.ok.mono bI gc
 have k15:=k14.trans s15
 refine⟨_,rfl,a,ns,6,rfl,(t9.trans k15).seq hS,bx,by decide,by decide,fun H16 jC s16=>?_⟩
 generalize Kh ns 6=n6 at *
 have k16:=k15.trans s16
 have T16:=T9.keep k16
 refine⟨_,rfl,x,_,_,rfl,T16.ob,JA,x,N,U,_,rfl,T16,fun hl H17 s17 aU hhl=>?_⟩
 have k17:=k16.trans s17
 refine⟨_,rfl,a,ns,4,rfl,(t9.trans k17).seq hS,bx,by decide,by decide,fun H18 hn4 s18=>?_⟩
 have k18:=k17.trans s18
 refine⟨_,_,rfl,rfl,⟨by decide,by decide⟩,_,rfl,_,rm,room,rfl,SqL.of (k18 _ _ ia),by omega,av,fun sn seen H19 s19 sn0 iT i0 ci=>?_⟩
 have k19:=k18.trans s19
 have fj:=aV.sub i0
 have lseen:=fj.len
 have ie:=(g0.trans (fg.trans (s15.trans (s16.trans (s17.trans (s18.trans s19)))))) _ _ aM
 have jI:=hRL.keep (g0.trans (fg.trans (s15.trans (s16.trans (s17.trans (s18.trans s19))))))
 have jJ:=hau.keep (TS.same (s16.trans (s17.trans (s18.trans s19))))
 have hhl19:=(s18.trans s19) _ _ hhl
 refine⟨_,rfl,rl,_,rfl,.inl (SqL.of ie),?_⟩
 obtain⟨W,hW⟩:∃W,W=tw many z rule t room es aB ls:=⟨_,rfl⟩
 have bi:W.room=room:=by rw[hW]<;>rfl
 have ig:W.ents=es:=by rw[hW]<;>rfl
 have Wsides:W.sides=AE z t W.room:=by rw[hW]<;>rfl
 have Wmany:W.many=many:=by rw[hW]<;>rfl
 have Wend:W.ended=false:=by rw[hW]<;>rfl
 have fk:W.rule=rule:=by rw[hW]<;>rfl
 have jK:W.base=aB:=by rw[hW]<;>rfl
 have Wpl:AT W=if rule="newer" then[aB] else aB::Be room (es.map fun e=>(e.2.1,e.2.2)):=by
  unfold AT
  rw[fk,jK,bi,ig]
 have bM:W.going.Sublist W.room:=by rw[hW];exact T9.going_sub
 have gb:AV W.room (AT W)=W.going:=by
  rw[Wpl,bi]
  rcases jH with c | c
  ·rw[if_neg (by rw[c];decide),<-O5 aV bsub,<-hheld,hW]
   exact (Kx c).symm
  ·rw[if_pos c,OO aV bsub]
   unfold Ta.going
   rw[if_neg (by rw[fk,c];decide),jK]
 have T19:TalkAt N cK H19 x U W:=by rw[hW];exact T9.keep k19
 have ib:∀e∈W.ents,e.2.1.ok 5/\e.2.1.size<=800:=by rw[ig];exact ib
 have pl56:(AT W).length<=56:=by
  rw[Wpl]
  split
  ·simp
  ·rw[zAI]
   unfold Be
   rw[List.length_map,List.length_map]
   omega
 have hmW:u.ok W.many:=by rw[Wmany];exact gc
 have h9W:W.ents.length<900:=by rw[ig];omega
 have nS:[]∉AE z t W.room:=by rw[bi];exact Mr hz
 have lg56:gC.length<=56:=by omega
 refine FV (fun σ H'=>∃(r2:Addr)(ys:List V),σ=[some (.ref a),some (.int (many:Int)),some (.ref rm),some (.str z),some v,some (.ref sd),some (.ref x),some (.ref r2),some v',some (.int n6),some (.ref hl),some (.ref sn),some (.int ((gC.length:Nat):Int)),none,none,none,none,none]/\Same H19 H'/\H' r2=some (.lst ys)/\RowsAt H' ys (AT W)) ?_ (fun next=>?_)
 rotate_left
 ·refine⟨_,rfl,x,cK,_,_,_,rfl,T19.ob,TX.cl,TX.rule,JD,rfl,_,rfl,?_⟩
  by_cases c:rule="newer"
  ·refine Bd (by show V.str W.rule=V.str "newer";rw[fk,c]) ?_
   refine⟨_,rfl,1,rfl,rl,gC,rfl,SqL.of ie,fun l1 aJ=>?_⟩
   rw[NI]
   have iz:=Af aJ (.lst (gC.take 1))
   refine next _ _ ⟨l1,_,rfl,iz,upd_same,?_⟩
   rw[Wpl,if_pos c]
   exact RowsAt.keep iz (MT 1 jI)
  ·refine A6 (fun e=>c (by have e:V.str W.rule=V.str "newer":=e;rw[fk] at e;injection e)) ?_
   refine next _ _ ⟨rl,gC,rfl,Same.refl _,ie,?_⟩
   rw[Wpl,if_neg c]
   exact jI
 rintro σ H20 ⟨r2,ys,rfl,iz,aE,hRR⟩
 have k20:=k19.trans iz
 have T20:=T19.keep iz
 refine⟨_,rfl,_,rfl,_,rfl,x,sn,v',N,U,W,u,seen,rfl,T20,ib,jJ.keep (TS.same iz),gh,gf,SqL.of (iz _ _ iT),fj,ci,h9W,NS T20 Wend hmW gb pl56 fun p0 x0 H21 s21 hp0 ok0 true0=>?_⟩
 refine⟨Jq,fun l1 aJ=>?_⟩
 have s22:=Af aJ (.lst [.ref p0])
 have l122:upd H21 l1 (.lst [.ref p0]) l1=some (.lst [.ref p0]):=upd_same
 generalize upd H21 l1 _=H22 at *
 have k22:=k20.trans (s21.trans s22)
 refine⟨_,rfl,_,rfl,a,ns,7,rfl,(t9.trans k22).seq hS,bx,by decide,by decide,fun H23 hn7 s23=>?_⟩
 have k23:=k22.trans s23
 refine⟨_,rfl,_,rfl,n6,_,rm,room,gC.length,rfl,jC,hn7,SqL.of (k23 _ _ ia),av,by omega,lg56,fun dl bd dxs H24 jE dl0 jk hDP hDok hDl=>?_⟩
 have k24:=k23.trans jE
 have ldv:=zB4 hDP
 refine⟨l1,dl,_,_,rfl,rfl,(s23.trans jE) _ _ l122,jk,K5 (by show 1+bd.length<=1000;omega),fun pp hpp=>?_⟩
 have iY:=Af hpp (.lst ([.ref p0]++bd))
 have pp25:upd H24 pp (.lst ([.ref p0]++bd)) pp=some (.lst ([.ref p0]++bd)):=upd_same
 generalize upd H24 pp _=H25 at *
 have ii:=hp0.keep (s22.trans (s23.trans (jE.trans iY)))
 have k25:=k24.trans iY
 refine⟨_,rfl,_,rfl,pp,_,_,_,rfl,rfl,SqL.of pp25,Aj (j:=0) rfl,_,rfl,_,rfl,_,_,rfl,rfl,⟨by decide,by decide⟩,p0,x0,gC.length,_,rfl,ii,ok0,zDA jC (by decide),by omega,lg56,fun nl nvs nxs H26 s26 nl0 fU hNP hNok hNl=>?_⟩
 have lnv:=zB4 hNP
 refine⟨pp,nl,_,_,rfl,rfl,s26 _ _ pp25,fU,K5 (by show ([V.ref p0]++bd).length+nvs.length<=1000;rw[zA];show 1+bd.length+nvs.length<=1000;omega),fun al gS=>?_⟩
 have s27:=Af gS (.lst ([.ref p0]++bd++nvs))
 have al27:upd H26 al (.lst ([.ref p0]++bd++nvs)) al=some (.lst ([.ref p0]++bd++nvs)):=upd_same
 generalize upd H26 al _=H27 at *
 have gk:=s26.trans s27
 have k27:=k25.trans gk
 have cC:Same H20 H27:=s21.trans (s22.trans (s23.trans (jE.trans (iY.trans gk))))
 have hP27:PapsAt H27 ([.ref p0]++bd++nvs) ([x0]++dxs++nxs):=Hn (Hn (.cons ⟨p0,rfl,ii.keep gk⟩ .nil) (PapsAt.keep (iY.trans gk) hDP)) (PapsAt.keep s27 hNP)
 have hok27:∀y∈[x0]++dxs++nxs,y.ok:=fun y hy=>by
  rcases List.mem_append.mp hy with h | h
  ·rcases List.mem_append.mp h with h | h
   ·rw[List.mem_singleton.mp h];exact ok0
   ·exact hDok y h
  ·exact hNok y h
 generalize [V.ref p0]++bd++nvs=avs at *
 generalize [x0]++dxs++nxs=iZ at *
 have T27:=T20.keep cC
 have ij:=jJ.keep (TS.same (iz.trans cC))
 have fm:=(iz.trans cC) _ _ iT
 have hhl27:=(iz.trans cC) _ _ hhl19
 have hr227:=cC _ _ aE
 have hRR27:=hRR.keep cC
 have pp27:=gk _ _ pp25
 have hp027:=ii.keep gk
 refine⟨al,rfl,⟨_,SqL.of al27⟩,A1 (K:=K) (a:=al) (xs:=avs) (fun j σ Hj=>∃(v14 v15 v16 v17:Option V),σ=[some (.ref a),some (.int (many:Int)),some (.ref rm),some (.str z),some v,some (.ref sd),some (.ref x),some (.ref r2),some v',some (.int n6),some (.ref hl),some (.ref sn),some (.int ((gC.length:Nat):Int)),some (.ref pp),v14,v15,v16,v17]/\Same H27 Hj) ⟨_,_,_,_,rfl,Same.refl _⟩ ?_ ?_ ?_⟩
 ·rintro j σ Hj _ ⟨v14,v15,v16,v17,rfl,sj⟩
  exact SqL.of (sj _ _ al27)
 ·rintro j y σ Hj hy ⟨v14,v15,v16,v17,rfl,sj⟩
  have hjl:j<iZ.length:=by
   have h1:=(List.getElem?_eq_some_iff.mp hy).1
   have h2:=zB4 hP27
   omega
  have hpx:iZ[j]? = some iZ[j]:=List.getElem?_eq_getElem hjl
  have hyok:=hok27 _ (zA3 hjl)
  generalize iZ[j]=pap at *
  obtain⟨p,rfl,hp⟩:=M3 hP27 hy hpx
  have jh:=hp.keep sj
  refine SV rfl ?_
  refine Ev (fun σ H'=>∃(kp:Addr),σ=[some (.ref a),some (.int (many:Int)),some (.ref rm),some (.str z),some v,some (.ref sd),some (.ref x),some (.ref r2),some v',some (.int n6),some (.ref hl),some (.ref sn),some (.int ((gC.length:Nat):Int)),some (.ref pp),some (.ref p),some (.ref kp),v16,v17]/\Same Hj H'/\∀zz ps,pap= .pl zz ps->H' kp=some (.lst (ps.map V.int))) ?_ (fun next=>?_)
  rotate_left
  ·cases pap with
   | pl zz ps=>
    obtain⟨l,au,cq⟩:=jh
    refine⟨_,rfl,p,_,rfl,.inr (SqT.of au),rfl,_,rfl,Bd rfl ?_⟩
    refine⟨_,rfl,p,_,_,_,rfl,rfl,SqT.of au,Aj (j:=1) rfl,l,_,rfl,.inl (SqL.of cq),fun kp gz=>?_⟩
    exact next _ _ ⟨kp,rfl,Af gz _,fun z2 p2 e=>by cases e;exact upd_same⟩
   | fr one other=>
    refine⟨_,rfl,p,_,rfl,.inr (SqT.of (show Hj p=some (.tup [.str "free",.int one,.int other]) from jh)),rfl,_,rfl,A6 (by intro e;injection e with e;revert e;show ¬((3:Nat):Int)=2;decide) ?_⟩
    exact⟨J1,fun kp gz=>next _ _ ⟨kp,rfl,Af gz _,fun z2 p2 e=>by cases e⟩⟩
   | br one other k=>
    refine⟨_,rfl,p,_,rfl,.inr (SqT.of (show Hj p=some (.tup [.str "barred",.int one,.int other,.int k]) from jh)),rfl,_,rfl,A6 (by intro e;injection e with e;revert e;show ¬((4:Nat):Int)=2;decide) ?_⟩
    exact⟨J1,fun kp gz=>next _ _ ⟨kp,rfl,Af gz _,fun z2 p2 e=>by cases e⟩⟩
  rintro σ H30 ⟨kp,rfl,s30,gz⟩
  have m30:=sj.trans s30
  have hp30:=jh.keep s30
  refine⟨_,rfl,sn,_,rfl,.inl (SqL.of (m30 _ _ fm)),fun wl cx=>?_⟩
  have s31:=Af cx (.lst (seen.map V.int))
  have wl31:upd H30 wl (.lst (seen.map V.int)) wl=some (.lst (seen.map V.int)):=upd_same
  generalize upd H30 wl _=H31 at *
  have m31:=m30.trans s31
  refine⟨_,rfl,_,rfl,_,rfl,_,rfl,x,wl,p,v',N,U,W,u,seen,pap,rfl,T27.keep m31,ib,ij.keep (TS.same m31),gh,gf,SqL.of wl31,fj,ci,Wend,hmW,hp30.keep s31,hyok,fun H32 s32=>?_⟩
  have gm:=m31.trans s32
  have i7:=hp30.keep (s31.trans s32)
  refine⟨_,rfl,_,rfl,wl,sn,_,_,rfl,rfl,rfl,JQ,.inl ⟨SqL.of (s32 _ _ wl31),SqL.of (gm _ _ fm)⟩,_,rfl,A7 ?_⟩
  refine RY ?_
  refine Ev (fun σ H'=>σ=[some (.ref a),some (.int (many:Int)),some (.ref rm),some (.str z),some v,some (.ref sd),some (.ref x),some (.ref r2),some v',some (.int n6),some (.ref hl),some (.ref sn),some (.int ((gC.length:Nat):Int)),some (.ref pp),some (.ref p),some (.ref kp),some (.ref wl),some (.bl (EH W u seen pap))]/\H'=H32) ?_ (fun next=>?_)
  rotate_left
  ·refine⟨_,rfl,_,_,_,_,rfl,.bl _,HI _ _,_,rfl,A7 ?_⟩
   cases pap with
   | pl zz ps=>
    obtain⟨l,au,cq⟩:=i7
    have hk32:=(s31.trans s32) _ _ (gz zz ps rfl)
    refine⟨_,rfl,p,_,rfl,.inr (SqT.of au),rfl,_,rfl,Bd rfl ?_⟩
    refine⟨_,rfl,p,_,_,_,rfl,rfl,SqT.of au,Aj (j:=1) rfl,_,rfl,l,kp,_,_,rfl,rfl,rfl,JQ,.inl ⟨SqL.of cq,SqL.of hk32⟩,_,rfl,A7 ?_⟩
    exact next _ _ ⟨rfl,rfl⟩
   | fr one other=>
    refine⟨_,rfl,p,_,rfl,.inr (SqT.of (show H32 p=some (.tup [.str "free",.int one,.int other]) from i7)),rfl,_,rfl,A6 (by intro e;injection e with e;revert e;show ¬((3:Nat):Int)=2;decide) ?_⟩
    exact A7 (next _ _ ⟨rfl,rfl⟩)
   | br one other k=>
    refine⟨_,rfl,p,_,rfl,.inr (SqT.of (show H32 p=some (.tup [.str "barred",.int one,.int other,.int k]) from i7)),rfl,_,rfl,A6 (by intro e;injection e with e;revert e;show ¬((4:Nat):Int)=2;decide) ?_⟩
    exact A7 (next _ _ ⟨rfl,rfl⟩)
  rintro σ H33 ⟨rfl,rfl⟩
  have m9:=k27.trans gm
  have hsl400:∀s∈AE z t W.room,s.length<=400:=by rw[bi];exact sw4
  refine⟨_,rfl,_,rfl,_,rfl,_,rfl,_,rfl,_,rfl,_,rfl,p,sd,rm,r2,sn,v',u,pap,xs,ys,AE z t W.room,AT W,W.room,seen,rfl,SqL.of (m9 _ _ hsd9),(by rw[bi];exact hR9.keep m9),hsl400,(by rw[bi];exact sne),(by rw[bi];exact s2l),(by rw[bi];exact SqL.of (m9 _ _ ia)),(by rw[bi];omega),SqL.of (gm _ _ hr227),hRR27.keep gm,by omega,ij.keep (TS.same gm),gh,gf,SqL.of (gm _ _ fm),by omega,i7,hyok,fun H34 s34=>?_⟩
  refine⟨rfl,_,rfl,?_⟩
  refine IP (by rw[OV Wsides nS gb bM (by rw[bi];exact i0) pap]) ?_
  exact⟨_,_,_,_,rfl,gm.trans s34⟩
 ·rintro σ H30 ⟨v14,v15,v16,v17,rfl,s30⟩
  have T30:=T27.keep s30
  refine⟨_,rfl,x,_,_,rfl,T30.ob,JA,x,N,U,_,rfl,T30,fun h2 H31 s31 h20 hh2=>?_⟩
  have m31:=s30.trans s31
  have ehl:W.held=(tw many z rule t room es aB ls).held:=by rw[hW]
  rw[ehl] at hh2
  refine⟨_,rfl,h2,hl,_,_,rfl,rfl,rfl,JQ,.inl ⟨SqL.of hh2,SqL.of (m31 _ _ hhl27)⟩,_,rfl,A7 ?_⟩
  have T31:=T27.keep m31
  refine⟨_,rfl,x,_,_,rfl,T31.ob,DH,x,N,U,_,rfl,T31,fun en3 H32 s32 en30 hen3=>?_⟩
  have lge:U.ges.length=es.length:=by rw[hE9.len,List.length_map]
  refine⟨en3,_,rfl,.inl (SqL.of hen3),_,rfl,_,_,rfl,rfl,rfl,_,rfl,?_⟩
  refine IP (by show V.int ((U.ges.length:Nat):Int)=V.int (((gC.length:Nat):Int)-1);rw[lge,lrl];congr 1;omega) ?_
  have gm:=m31.trans s32
  refine⟨_,rfl,_,rfl,_,rfl,_,rfl,pp,_,_,_,rfl,rfl,SqL.of (gm _ _ pp27),Aj (j:=0) rfl,x,sn,p0,v',N,U,W,u,seen,x0,rfl,T27.keep gm,ib,ij.keep (TS.same gm),gh,gf,SqL.of (gm _ _ fm),fj,ci,Wend,hmW,hp027.keep gm,ok0,fun H33 s33=>?_⟩
  rw[true0]
  exact⟨true,true,rfl,rfl,q _⟩
end
theorem all_mk{l:PySem.W.OpenLaw}{w:World}{K:PySem.W.Frag}{h:Heap}{mg:Str->Option Value}{fa f1 f2 f3 f4 f5 f6 f7 f8 f9 f10 f11 f12 f13 f14 f15 f16 f17 f18 f19 f20 f21 f22 f23 f24 f25 f26 f27 f28 f29 f30 f31 f32 f33 f34 f35 f36 f37 f38 f39 f40 f41 f42 f43 f44 f45 f46 f47 f48 f49 f50 f51 f52 f53 f54 f55 f56 f57 f58 f59 f60 f61 f62 f63 f64 f65 f66 f67 f68 f69 f70 f71 f72 f73 f74 f75 f76:Addr}(X:K.In h)(G:h.Ns mainGlobals mg)(hfa:mg "law"=some (.ref fa)){od1 an1 od2 an2 od3 an3 od4 an4 od5 an5 od6 an6 od7 an7 od8 an8 od9 an9 od10 an10 od11 an11 od12 an12 od13 an13 od14 an14 od15 an15 od16 an16 od17 an17 od18 an18 od19 an19 od20 an20 od21 an21 od22 an22 od23 an23 od24 an24 od25 an25 od26 an26 od27 an27 od28 an28 od29 an29 od30 an30 od31 an31 od32 an32 od33 an33 od34 an34 od35 an35 od36 an36 od37 an37 od38 an38 od39 an39 od40 an40 od41 an41 od42 an42 od43 an43 od44 an44 od45 an45 od46 an46 od47 an47 od48 an48 od49 an49 od50 an50 od51 an51 od52 an52 od53 an53 od54 an54 od55 an55 od56 an56 od57 an57 od58 an58 od59 an59 od60 an60 od61 an61 od62 an62 od63 an63 od64 an64 od65 an65 od66 an66 od67 an67 od68 an68 od69 an69 od70 an70 od71 an71 od72 an72 od73 an73 od74 an74 od75 an75 od76 an76:Option Addr}{sl1 iK sl3 sl4 sl5 sl6 sl7 sl8 sl9 sl10 sl11 sl12 sl13 sl14 sl15 sl16 sl17 sl18 sl19 sl20 sl21 sl22 sl23 sl24 sl25 sl26 sl27 sl28 sl29 sl30 sl31 sl32 sl33 sl34 sl35 sl36 sl37 sl38 sl39 sl40 sl41 sl42 sl43 sl44 sl45 sl46 sl47 sl48 sl49 sl50 sl51 sl52 sl53 sl54 sl55 sl56 sl57 sl58 sl59 sl60 sl61 sl62 sl63 sl64 sl65 sl66 sl67 sl68 sl69 sl70 sl71 sl72 sl73 sl74 sl75 sl76:Array (Option Value)}{oc1 kV1 dc1 pm1 cd1 ct1 oc2 kV2 dc2 pm2 cd2 ct2 oc3 kV3 dc3 pm3 cd3 ct3 oc4 kV4 dc4 pm4 cd4 ct4 oc5 kV5 dc5 pm5 cd5 ct5 oc6 kV6 dc6 pm6 cd6 ct6 oc7 kV7 dc7 pm7 cd7 ct7 oc8 kV8 dc8 pm8 cd8 ct8 oc9 kV9 dc9 pm9 cd9 ct9 oc10 kV10 dc10 pm10 cd10 ct10 oc11 kV11 dc11 pm11 cd11 ct11 oc12 kV12 dc12 pm12 cd12 ct12 oc13 kV13 dc13 pm13 cd13 ct13 oc14 kV14 dc14 pm14 cd14 ct14 oc15 kV15 dc15 pm15 cd15 ct15 oc16 kV16 dc16 pm16 cd16 ct16 oc17 kV17 dc17 pm17 cd17 ct17 oc18 kV18 dc18 pm18 cd18 ct18 oc19 kV19 dc19 pm19 cd19 ct19 oc20 kV20 dc20 pm20 cd20 ct20 oc21 kV21 dc21 pm21 cd21 ct21 oc22 kV22 dc22 pm22 cd22 ct22 oc23 kV23 dc23 pm23 cd23 ct23 oc24 kV24 dc24 pm24 cd24 ct24 oc25 kV25 dc25 pm25 cd25 ct25 oc26 kV26 dc26 pm26 cd26 ct26 oc27 kV27 dc27 pm27 cd27 ct27 oc28 kV28 dc28 pm28 cd28 ct28 oc29 kV29 dc29 pm29 cd29 ct29 oc30 kV30 dc30 pm30 cd30 ct30 oc31 kV31 dc31 pm31 cd31 ct31 oc32 kV32 dc32 pm32 cd32 ct32 oc33 kV33 dc33 pm33 cd33 ct33 oc34 kV34 dc34 pm34 cd34 ct34 oc35 kV35 dc35 pm35 cd35 ct35 oc36 kV36 dc36 pm36 cd36 ct36 oc37 kV37 dc37 pm37 cd37 ct37 oc38 kV38 dc38 pm38 cd38 ct38 oc39 kV39 dc39 pm39 cd39 ct39 oc40 kV40 dc40 pm40 cd40 ct40 oc41 kV41 dc41 pm41 cd41 ct41 oc42 kV42 dc42 pm42 cd42 ct42 oc43 kV43 dc43 pm43 cd43 ct43 oc44 kV44 dc44 pm44 cd44 ct44 oc45 kV45 dc45 pm45 cd45 ct45 oc46 kV46 dc46 pm46 cd46 ct46 oc47 kV47 dc47 pm47 cd47 ct47 oc48 kV48 dc48 pm48 cd48 ct48 oc49 kV49 dc49 pm49 cd49 ct49 oc50 kV50 dc50 pm50 cd50 ct50 oc51 kV51 dc51 pm51 cd51 ct51 oc52 kV52 dc52 pm52 cd52 ct52 oc53 kV53 dc53 pm53 cd53 ct53 oc54 kV54 dc54 pm54 cd54 ct54 oc55 kV55 dc55 pm55 cd55 ct55 oc56 kV56 dc56 pm56 cd56 ct56 oc57 kV57 dc57 pm57 cd57 ct57 oc58 kV58 dc58 pm58 cd58 ct58 oc59 kV59 dc59 pm59 cd59 ct59 oc60 kV60 dc60 pm60 cd60 ct60 oc61 kV61 dc61 pm61 cd61 ct61 oc62 kV62 dc62 pm62 cd62 ct62 oc63 kV63 dc63 pm63 cd63 ct63 oc64 kV64 dc64 pm64 cd64 ct64 oc65 kV65 dc65 pm65 cd65 ct65 oc66 kV66 dc66 pm66 cd66 ct66 oc67 kV67 dc67 pm67 cd67 ct67 oc68 kV68 dc68 pm68 cd68 ct68 oc69 kV69 dc69 pm69 cd69 ct69 oc70 kV70 dc70 pm70 cd70 ct70 oc71 kV71 dc71 pm71 cd71 ct71 oc72 kV72 dc72 pm72 cd72 ct72 oc73 kV73 dc73 pm73 cd73 ct73 oc74 kV74 dc74 pm74 cd74 ct74 oc75 kV75 dc75 pm75 cd75 ct75 oc76 kV76 dc76 pm76 cd76 ct76:Value}{cT NT:Addr}{xTnm xTq:Str}{xTbs:List Value}{xThd:Bool}{xTsn:List Str}{xTsub:List Value}{xTab:Bool}{xTcol:Option Bool}{xTdd:Option Addr}{xTa xTb xTc xTd xTe xTf:Option Value}{xToc:Value}{xTod:Option Addr}{xTes:Array DictEntry}{xTep:Nat}{xTsl:Array (Option Value)}{XDT:ClassData}{cS NcS:Addr}{xnm0 xq0:Str}{xbs0:List Value}{xsn0:List Str}{xsub0:List Value}{xab0:Bool}{xcol0:Option Bool}{xdd0:Option Addr}{xka0 xkb0 xkc0 xkd0 xkf0:Option Value}{xoc0:Value}{xod0:Option Addr}{xes0:Array DictEntry}{xep0:Nat}{xsl0:Array (Option Value)}{XD0:ClassData}{cB NcB:Addr}{xnm1 xq1:Str}{xbs1:List Value}{xsn1:List Str}{xsub1:List Value}{xab1:Bool}{xcol1:Option Bool}{xdd1:Option Addr}{xka1 xkb1 xkc1 xkd1 xkf1:Option Value}{xoc1:Value}{xod1:Option Addr}{xes1:Array DictEntry}{xep1:Nat}{xsl1:Array (Option Value)}{XD1:ClassData}{cN NcN:Addr}{xnm2 xq2:Str}{xbs2:List Value}{xsn2:List Str}{xsub2:List Value}{xab2:Bool}{xcol2:Option Bool}{xdd2:Option Addr}{xka2 xkb2 xkc2 xkd2 xkf2:Option Value}{xoc2:Value}{xod2:Option Addr}{xes2:Array DictEntry}{xep2:Nat}{xsl2:Array (Option Value)}{XD2:ClassData}{cO NcO:Addr}{xnm3 xq3:Str}{xbs3:List Value}{xsn3:List Str}{xsub3:List Value}{xab3:Bool}{xcol3:Option Bool}{xdd3:Option Addr}{xka3 xkb3 xkc3 xkd3 xkf3:Option Value}{xoc3:Value}{xod3:Option Addr}{xes3:Array DictEntry}{xep3:Nat}{xsl3:Array (Option Value)}{XD3:ClassData}{cK:Addr}(a1:nsIn K mainGlobals "_law_num"=some (some (.ref f1)))(l1:K.lookup f1=some ⟨oc1,od1,.func (fnOf "_law_num" "_law_num" (Aq NK) (Am NK) (Ad NK) .none kV1 dc1 pm1 an1 cd1 ct1),sl1⟩)(c1:codeIn K cd1 "_law_num"=true)(k1:keepIn K (.ref f1)=true)(a2:nsIn K mainGlobals "_law_few"=some (some (.ref f2)))(l2:K.lookup f2=some ⟨oc2,od2,.func (fnOf "_law_few" "_law_few" (Aq NU) (Am NU) (Ad NU) .none kV2 dc2 pm2 an2 cd2 ct2),iK⟩)(c2:codeIn K cd2 "_law_few"=true)(k2:keepIn K (.ref f2)=true)(a3:nsIn K mainGlobals "_law_sentence"=some (some (.ref f3)))(l3:K.lookup f3=some ⟨oc3,od3,.func (fnOf "_law_sentence" "_law_sentence" (Aq IG) (Am IG) (Ad IG) .none kV3 dc3 pm3 an3 cd3 ct3),sl3⟩)(c3:codeIn K cd3 "_law_sentence"=true)(k3:keepIn K (.ref f3)=true)(a4:nsIn K mainGlobals "_law_worlds"=some (some (.ref f4)))(l4:K.lookup f4=some ⟨oc4,od4,.func (fnOf "_law_worlds" "_law_worlds" (Aq Dh) (Am Dh) (Ad Dh) .none kV4 dc4 pm4 an4 cd4 ct4),sl4⟩)(c4:codeIn K cd4 "_law_worlds"=true)(k4:keepIn K (.ref f4)=true)(a5:nsIn K mainGlobals "_law_some"=some (some (.ref f5)))(l5:K.lookup f5=some ⟨oc5,od5,.func (fnOf "_law_some" "_law_some" (Aq Go) (Am Go) (Ad Go) .none kV5 dc5 pm5 an5 cd5 ct5),sl5⟩)(c5:codeIn K cd5 "_law_some"=true)(k5:keepIn K (.ref f5)=true)(a6:nsIn K mainGlobals "_law_some_one"=some (some (.ref f6)))(l6:K.lookup f6=some ⟨oc6,od6,.func (fnOf "_law_some_one" "_law_some_one" (Aq Cd) (Am Cd) (Ad Cd) .none kV6 dc6 pm6 an6 cd6 ct6),sl6⟩)(c6:codeIn K cd6 "_law_some_one"=true)(k6:keepIn K (.ref f6)=true)(a7:nsIn K mainGlobals "_law_room"=some (some (.ref f7)))(l7:K.lookup f7=some ⟨oc7,od7,.func (fnOf "_law_room" "_law_room" (Aq FB) (Am FB) (Ad FB) .none kV7 dc7 pm7 an7 cd7 ct7),sl7⟩)(c7:codeIn K cd7 "_law_room"=true)(k7:keepIn K (.ref f7)=true)(a8:nsIn K mainGlobals "_law_true"=some (some (.ref f8)))(l8:K.lookup f8=some ⟨oc8,od8,.func (fnOf "_law_true" "_law_true" (Aq EL) (Am EL) (Ad EL) .none kV8 dc8 pm8 an8 cd8 ct8),sl8⟩)(c8:codeIn K cd8 "_law_true"=true)(k8:keepIn K (.ref f8)=true)(a9:nsIn K mainGlobals "_law_ins"=some (some (.ref f9)))(l9:K.lookup f9=some ⟨oc9,od9,.func (fnOf "_law_ins" "_law_ins" (Aq Iu) (Am Iu) (Ad Iu) .none kV9 dc9 pm9 an9 cd9 ct9),sl9⟩)(c9:codeIn K cd9 "_law_ins"=true)(k9:keepIn K (.ref f9)=true)(a10:nsIn K mainGlobals "_law_kind"=some (some (.ref f10)))(l10:K.lookup f10=some ⟨oc10,od10,.func (fnOf "_law_kind" "_law_kind" (Aq Gh) (Am Gh) (Ad Gh) .none kV10 dc10 pm10 an10 cd10 ct10),sl10⟩)(iy:codeIn K cd10 "_law_kind"=true)(k10:keepIn K (.ref f10)=true)(a11:nsIn K mainGlobals "_law_start"=some (some (.ref f11)))(l11:K.lookup f11=some ⟨oc11,od11,.func (fnOf "_law_start" "_law_start" (Aq Ez) (Am Ez) (Ad Ez) .none kV11 dc11 pm11 an11 cd11 ct11),sl11⟩)(c11:codeIn K cd11 "_law_start"=true)(k11:keepIn K (.ref f11)=true)(a12:nsIn K mainGlobals "_law_outs"=some (some (.ref f12)))(l12:K.lookup f12=some ⟨oc12,od12,.func (fnOf "_law_outs" "_law_outs" (Aq FL) (Am FL) (Ad FL) .none kV12 dc12 pm12 an12 cd12 ct12),sl12⟩)(c12:codeIn K cd12 "_law_outs"=true)(k12:keepIn K (.ref f12)=true)(a13:nsIn K mainGlobals "_law_sides"=some (some (.ref f13)))(l13:K.lookup f13=some ⟨oc13,od13,.func (fnOf "_law_sides" "_law_sides" (Aq Eh) (Am Eh) (Ad Eh) .none kV13 dc13 pm13 an13 cd13 ct13),sl13⟩)(c13:codeIn K cd13 "_law_sides"=true)(k13:keepIn K (.ref f13)=true)(a14:nsIn K mainGlobals "_law_base"=some (some (.ref f14)))(l14:K.lookup f14=some ⟨oc14,od14,.func (fnOf "_law_base" "_law_base" (Aq Fs) (Am Fs) (Ad Fs) .none kV14 dc14 pm14 an14 cd14 ct14),sl14⟩)(c14:codeIn K cd14 "_law_base"=true)(k14:keepIn K (.ref f14)=true)(a15:nsIn K mainGlobals "_law_last"=some (some (.ref f15)))(l15:K.lookup f15=some ⟨oc15,od15,.func (fnOf "_law_last" "_law_last" (Aq F0) (Am F0) (Ad F0) .none kV15 dc15 pm15 an15 cd15 ct15),sl15⟩)(c15:codeIn K cd15 "_law_last"=true)(k15:keepIn K (.ref f15)=true)(a16:nsIn K mainGlobals "_law_asked"=some (some (.ref f16)))(l16:K.lookup f16=some ⟨oc16,od16,.func (fnOf "_law_asked" "_law_asked" (Aq En) (Am En) (Ad En) .none kV16 dc16 pm16 an16 cd16 ct16),sl16⟩)(c16:codeIn K cd16 "_law_asked"=true)(k16:keepIn K (.ref f16)=true)(a17:nsIn K mainGlobals "_law_asks"=some (some (.ref f17)))(l17:K.lookup f17=some ⟨oc17,od17,.func (fnOf "_law_asks" "_law_asks" (Aq FH) (Am FH) (Ad FH) .none kV17 dc17 pm17 an17 cd17 ct17),sl17⟩)(jy:codeIn K cd17 "_law_asks"=true)(k17:keepIn K (.ref f17)=true)(a18:nsIn K mainGlobals "_law_seen"=some (some (.ref f18)))(l18:K.lookup f18=some ⟨oc18,od18,.func (fnOf "_law_seen" "_law_seen" (Aq FO) (Am FO) (Ad FO) .none kV18 dc18 pm18 an18 cd18 ct18),sl18⟩)(c18:codeIn K cd18 "_law_seen"=true)(k18:keepIn K (.ref f18)=true)(a19:nsIn K mainGlobals "_law_seen_at"=some (some (.ref f19)))(l19:K.lookup f19=some ⟨oc19,od19,.func (fnOf "_law_seen_at" "_law_seen_at" (Aq Cw) (Am Cw) (Ad Cw) .none kV19 dc19 pm19 an19 cd19 ct19),sl19⟩)(c19:codeIn K cd19 "_law_seen_at"=true)(k19:keepIn K (.ref f19)=true)(a20:findIn K (.ref cK) "over"=some (some (.ref f20)))(i20:isFn K (.ref f20)=true)(l20:K.lookup f20=some ⟨oc20,od20,.func (fnOf "over" "Talk.over" (Aq FW) (Am FW) (Ad FW) .none kV20 dc20 pm20 an20 cd20 ct20),sl20⟩)(c20:codeIn K cd20 "Talk.over"=true)(k20:keepIn K (.ref f20)=true)(a21:nsIn K mainGlobals "refuse_over"=some (some (.ref f21)))(l21:K.lookup f21=some ⟨oc21,od21,.func (fnOf "refuse_over" "refuse_over" (Aq Cu) (Am Cu) (Ad Cu) .none kV21 dc21 pm21 an21 cd21 ct21),sl21⟩)(c21:codeIn K cd21 "refuse_over"=true)(k21:keepIn K (.ref f21)=true)(a22:nsIn K mainGlobals "parts_of"=some (some (.ref f22)))(l22:K.lookup f22=some ⟨oc22,od22,.func (fnOf "parts_of" "parts_of" (Aq Gk) (Am Gk) (Ad Gk) .none kV22 dc22 pm22 an22 cd22 ct22),sl22⟩)(c22:codeIn K cd22 "parts_of"=true)(k22:keepIn K (.ref f22)=true)(a23:nsIn K mainGlobals "letters"=some (some (.ref f23)))(l23:K.lookup f23=some ⟨oc23,od23,.func (fnOf "letters" "letters" (Aq Df) (Am Df) (Ad Df) .none kV23 dc23 pm23 an23 cd23 ct23),sl23⟩)(c23:codeIn K cd23 "letters"=true)(k23:keepIn K (.ref f23)=true)(a24:nsIn K mainGlobals "refuse_strange"=some (some (.ref f24)))(l24:K.lookup f24=some ⟨oc24,od24,.func (fnOf "refuse_strange" "refuse_strange" (Aq Dk) (Am Dk) (Ad Dk) .none kV24 dc24 pm24 an24 cd24 ct24),sl24⟩)(c24:codeIn K cd24 "refuse_strange"=true)(k24:keepIn K (.ref f24)=true)(a25:nsIn K mainGlobals "steps_of"=some (some (.ref f25)))(l25:K.lookup f25=some ⟨oc25,od25,.func (fnOf "steps_of" "steps_of" (Aq FZ) (Am FZ) (Ad FZ) .none kV25 dc25 pm25 an25 cd25 ct25),sl25⟩)(c25:codeIn K cd25 "steps_of"=true)(k25:keepIn K (.ref f25)=true)(a26:nsIn K mainGlobals "letter_holds"=some (some (.ref f26)))(l26:K.lookup f26=some ⟨oc26,od26,.func (fnOf "letter_holds" "letter_holds" (Aq Ge) (Am Ge) (Ad Ge) .none kV26 dc26 pm26 an26 cd26 ct26),sl26⟩)(c26:codeIn K cd26 "letter_holds"=true)(k26:keepIn K (.ref f26)=true)(a27:nsIn K mainGlobals "joined"=some (some (.ref f27)))(l27:K.lookup f27=some ⟨oc27,od27,.func (fnOf "joined" "joined" (Aq Et) (Am Et) (Ad Et) .none kV27 dc27 pm27 an27 cd27 ct27),sl27⟩)(c27:codeIn K cd27 "joined"=true)(k27:keepIn K (.ref f27)=true)(a28:nsIn K mainGlobals "true_by"=some (some (.ref f28)))(l28:K.lookup f28=some ⟨oc28,od28,.func (fnOf "true_by" "true_by" (Aq Eb) (Am Eb) (Ad Eb) .none kV28 dc28 pm28 an28 cd28 ct28),sl28⟩)(c28:codeIn K cd28 "true_by"=true)(k28:keepIn K (.ref f28)=true)(a29:nsIn K mainGlobals "worlds_of"=some (some (.ref f29)))(l29:K.lookup f29=some ⟨oc29,od29,.func (fnOf "worlds_of" "worlds_of" (Aq Cc) (Am Cc) (Ad Cc) .none kV29 dc29 pm29 an29 cd29 ct29),sl29⟩)(c29:codeIn K cd29 "worlds_of"=true)(k29:keepIn K (.ref f29)=true)(a30:nsIn K mainGlobals "in_first_only"=some (some (.ref f30)))(l30:K.lookup f30=some ⟨oc30,od30,.func (fnOf "in_first_only" "in_first_only" (Aq Fv) (Am Fv) (Ad Fv) .none kV30 dc30 pm30 an30 cd30 ct30),sl30⟩)(c30:codeIn K cd30 "in_first_only"=true)(k30:keepIn K (.ref f30)=true)(a31:nsIn K mainGlobals "all_within"=some (some (.ref f31)))(l31:K.lookup f31=some ⟨oc31,od31,.func (fnOf "all_within" "all_within" (Aq FD) (Am FD) (Ad FD) .none kV31 dc31 pm31 an31 cd31 ct31),sl31⟩)(c31:codeIn K cd31 "all_within"=true)(k31:keepIn K (.ref f31)=true)(a32:nsIn K mainGlobals "in_both"=some (some (.ref f32)))(l32:K.lookup f32=some ⟨oc32,od32,.func (fnOf "in_both" "in_both" (Aq IL) (Am IL) (Ad IL) .none kV32 dc32 pm32 an32 cd32 ct32),sl32⟩)(c32:codeIn K cd32 "in_both"=true)(k32:keepIn K (.ref f32)=true)(a33:nsIn K mainGlobals "some_within"=some (some (.ref f33)))(l33:K.lookup f33=some ⟨oc33,od33,.func (fnOf "some_within" "some_within" (Aq FS) (Am FS) (Ad FS) .none kV33 dc33 pm33 an33 cd33 ct33),sl33⟩)(c33:codeIn K cd33 "some_within"=true)(k33:keepIn K (.ref f33)=true)(a34:nsIn K mainGlobals "plain"=some (some (.ref f34)))(l34:K.lookup f34=some ⟨oc34,od34,.func (fnOf "plain" "plain" (Aq FG) (Am FG) (Ad FG) .none kV34 dc34 pm34 an34 cd34 ct34),sl34⟩)(c34:codeIn K cd34 "plain"=true)(k34:keepIn K (.ref f34)=true)(a35:nsIn K mainGlobals "left_by"=some (some (.ref f35)))(l35:K.lookup f35=some ⟨oc35,od35,.func (fnOf "left_by" "left_by" (Aq Ej) (Am Ej) (Ad Ej) .none kV35 dc35 pm35 an35 cd35 ct35),sl35⟩)(c35:codeIn K cd35 "left_by"=true)(k35:keepIn K (.ref f35)=true)(a36:nsIn K mainGlobals "missed_side"=some (some (.ref f36)))(l36:K.lookup f36=some ⟨oc36,od36,.func (fnOf "missed_side" "missed_side" (Aq EF) (Am EF) (Ad EF) .none kV36 dc36 pm36 an36 cd36 ct36),sl36⟩)(c36:codeIn K cd36 "missed_side"=true)(k36:keepIn K (.ref f36)=true)(a37:nsIn K mainGlobals "barring_side"=some (some (.ref f37)))(l37:K.lookup f37=some ⟨oc37,od37,.func (fnOf "barring_side" "barring_side" (Aq Dm) (Am Dm) (Ad Dm) .none kV37 dc37 pm37 an37 cd37 ct37),sl37⟩)(c37:codeIn K cd37 "barring_side"=true)(k37:keepIn K (.ref f37)=true)(a38:nsIn K mainGlobals "answer"=some (some (.ref f38)))(l38:K.lookup f38=some ⟨oc38,od38,.func (fnOf "answer" "answer" (Aq Eg) (Am Eg) (Ad Eg) .none kV38 dc38 pm38 an38 cd38 ct38),sl38⟩)(c38:codeIn K cd38 "answer"=true)(k38:keepIn K (.ref f38)=true)(a39:findIn K (.ref cK) "held"=some (some (.ref f39)))(i39:isFn K (.ref f39)=true)(l39:K.lookup f39=some ⟨oc39,od39,.func (fnOf "held" "Talk.held" (Aq Gi) (Am Gi) (Ad Gi) .none kV39 dc39 pm39 an39 cd39 ct39),sl39⟩)(c39:codeIn K cd39 "Talk.held"=true)(k39:keepIn K (.ref f39)=true)(a40:findIn K (.ref cK) "base"=some (some (.ref f40)))(i40:isFn K (.ref f40)=true)(l40:K.lookup f40=some ⟨oc40,od40,.func (fnOf "base" "Talk.base" (Aq FK) (Am FK) (Ad FK) .none kV40 dc40 pm40 an40 cd40 ct40),sl40⟩)(c40:codeIn K cd40 "Talk.base"=true)(k40:keepIn K (.ref f40)=true)(a41:findIn K (.ref cK) "going"=some (some (.ref f41)))(i41:isFn K (.ref f41)=true)(l41:K.lookup f41=some ⟨oc41,od41,.func (fnOf "going" "Talk.going" (Aq Ef) (Am Ef) (Ad Ef) .none kV41 dc41 pm41 an41 cd41 ct41),sl41⟩)(c41:codeIn K cd41 "Talk.going"=true)(k41:keepIn K (.ref f41)=true)(a42:findIn K (.ref cK) "ask"=some (some (.ref f42)))(i42:isFn K (.ref f42)=true)(l42:K.lookup f42=some ⟨oc42,od42,.func (fnOf "ask" "Talk.ask" (Aq IM) (Am IM) (Ad IM) .none kV42 dc42 pm42 an42 cd42 ct42),sl42⟩)(c42:codeIn K cd42 "Talk.ask"=true)(k42:keepIn K (.ref f42)=true)(a43:findIn K (.ref cK) "say"=some (some (.ref f43)))(i43:isFn K (.ref f43)=true)(l43:K.lookup f43=some ⟨oc43,od43,.func (fnOf "say" "Talk.say" (Aq IC) (Am IC) (Ad IC) .none kV43 dc43 pm43 an43 cd43 ct43),sl43⟩)(c43:codeIn K cd43 "Talk.say"=true)(k43:keepIn K (.ref f43)=true)(a44:nsIn K mainGlobals "_law_driven"=some (some (.ref f44)))(l44:K.lookup f44=some ⟨oc44,od44,.func (fnOf "_law_driven" "_law_driven" (Aq Dd) (Am Dd) (Ad Dd) .none kV44 dc44 pm44 an44 cd44 ct44),sl44⟩)(c44:codeIn K cd44 "_law_driven"=true)(k44:keepIn K (.ref f44)=true)(a45:nsIn K mainGlobals "_law_rule"=some (some (.ref f45)))(l45:K.lookup f45=some ⟨oc45,od45,.func (fnOf "_law_rule" "_law_rule" (Aq FQ) (Am FQ) (Ad FQ) .none kV45 dc45 pm45 an45 cd45 ct45),sl45⟩)(c45:codeIn K cd45 "_law_rule"=true)(k45:keepIn K (.ref f45)=true)(a46:nsIn K mainGlobals "_law_left"=some (some (.ref f46)))(l46:K.lookup f46=some ⟨oc46,od46,.func (fnOf "_law_left" "_law_left" (Aq Ga) (Am Ga) (Ad Ga) .none kV46 dc46 pm46 an46 cd46 ct46),sl46⟩)(c46:codeIn K cd46 "_law_left"=true)(k46:keepIn K (.ref f46)=true)(a47:nsIn K mainGlobals "_law_rows"=some (some (.ref f47)))(l47:K.lookup f47=some ⟨oc47,od47,.func (fnOf "_law_rows" "_law_rows" (Aq Gj) (Am Gj) (Ad Gj) .none kV47 dc47 pm47 an47 cd47 ct47),sl47⟩)(c47:codeIn K cd47 "_law_rows"=true)(k47:keepIn K (.ref f47)=true)(a48:nsIn K mainGlobals "_law_goal"=some (some (.ref f48)))(l48:K.lookup f48=some ⟨oc48,od48,.func (fnOf "_law_goal" "_law_goal" (Aq FP) (Am FP) (Ad FP) .none kV48 dc48 pm48 an48 cd48 ct48),sl48⟩)(c48:codeIn K cd48 "_law_goal"=true)(k48:keepIn K (.ref f48)=true)(a49:nsIn K mainGlobals "_law_places"=some (some (.ref f49)))(l49:K.lookup f49=some ⟨oc49,od49,.func (fnOf "_law_places" "_law_places" (Aq Da) (Am Da) (Ad Da) .none kV49 dc49 pm49 an49 cd49 ct49),sl49⟩)(c49:codeIn K cd49 "_law_places"=true)(k49:keepIn K (.ref f49)=true)(a50:nsIn K mainGlobals "_law_drawn"=some (some (.ref f50)))(l50:K.lookup f50=some ⟨oc50,od50,.func (fnOf "_law_drawn" "_law_drawn" (Aq Er) (Am Er) (Ad Er) .none kV50 dc50 pm50 an50 cd50 ct50),sl50⟩)(c50:codeIn K cd50 "_law_drawn"=true)(k50:keepIn K (.ref f50)=true)(a51:nsIn K mainGlobals "_law_near"=some (some (.ref f51)))(l51:K.lookup f51=some ⟨oc51,od51,.func (fnOf "_law_near" "_law_near" (Aq FF) (Am FF) (Ad FF) .none kV51 dc51 pm51 an51 cd51 ct51),sl51⟩)(c51:codeIn K cd51 "_law_near"=true)(k51:keepIn K (.ref f51)=true)(a52:nsIn K mainGlobals "_law_common"=some (some (.ref f52)))(l52:K.lookup f52=some ⟨oc52,od52,.func (fnOf "_law_common" "_law_common" (Aq Cv) (Am Cv) (Ad Cv) .none kV52 dc52 pm52 an52 cd52 ct52),sl52⟩)(c52:codeIn K cd52 "_law_common"=true)(k52:keepIn K (.ref f52)=true)(a53:nsIn K mainGlobals "_law_whole"=some (some (.ref f53)))(l53:K.lookup f53=some ⟨oc53,od53,.func (fnOf "_law_whole" "_law_whole" (Aq FE) (Am FE) (Ad FE) .none kV53 dc53 pm53 an53 cd53 ct53),sl53⟩)(c53:codeIn K cd53 "_law_whole"=true)(k53:keepIn K (.ref f53)=true)(a54:nsIn K mainGlobals "_law_rising"=some (some (.ref f54)))(l54:K.lookup f54=some ⟨oc54,od54,.func (fnOf "_law_rising" "_law_rising" (Aq Dn) (Am Dn) (Ad Dn) .none kV54 dc54 pm54 an54 cd54 ct54),sl54⟩)(c54:codeIn K cd54 "_law_rising"=true)(k54:keepIn K (.ref f54)=true)(a55:nsIn K mainGlobals "_law_leads"=some (some (.ref f55)))(l55:K.lookup f55=some ⟨oc55,od55,.func (fnOf "_law_leads" "_law_leads" (Aq Ed) (Am Ed) (Ad Ed) .none kV55 dc55 pm55 an55 cd55 ct55),sl55⟩)(c55:codeIn K cd55 "_law_leads"=true)(k55:keepIn K (.ref f55)=true)(a56:nsIn K mainGlobals "_law_plain"=some (some (.ref f56)))(l56:K.lookup f56=some ⟨oc56,od56,.func (fnOf "_law_plain" "_law_plain" (Aq Eo) (Am Eo) (Ad Eo) .none kV56 dc56 pm56 an56 cd56 ct56),sl56⟩)(c56:codeIn K cd56 "_law_plain"=true)(k56:keepIn K (.ref f56)=true)(a57:nsIn K mainGlobals "_law_stands"=some (some (.ref f57)))(l57:K.lookup f57=some ⟨oc57,od57,.func (fnOf "_law_stands" "_law_stands" (Aq Cy) (Am Cy) (Ad Cy) .none kV57 dc57 pm57 an57 cd57 ct57),sl57⟩)(c57:codeIn K cd57 "_law_stands"=true)(k57:keepIn K (.ref f57)=true)(a58:nsIn K mainGlobals "_law_barred"=some (some (.ref f58)))(l58:K.lookup f58=some ⟨oc58,od58,.func (fnOf "_law_barred" "_law_barred" (Aq Dq) (Am Dq) (Ad Dq) .none kV58 dc58 pm58 an58 cd58 ct58),sl58⟩)(c58:codeIn K cd58 "_law_barred"=true)(k58:keepIn K (.ref f58)=true)(a59:nsIn K mainGlobals "_law_holds"=some (some (.ref f59)))(l59:K.lookup f59=some ⟨oc59,od59,.func (fnOf "_law_holds" "_law_holds" (Aq D8) (Am D8) (Ad D8) .none kV59 dc59 pm59 an59 cd59 ct59),sl59⟩)(c59:codeIn K cd59 "_law_holds"=true)(k59:keepIn K (.ref f59)=true)(a60:nsIn K mainGlobals "common_behind"=some (some (.ref f60)))(l60:K.lookup f60=some ⟨oc60,od60,.func (fnOf "common_behind" "common_behind" (Aq Ek) (Am Ek) (Ad Ek) .none kV60 dc60 pm60 an60 cd60 ct60),sl60⟩)(c60:codeIn K cd60 "common_behind"=true)(k60:keepIn K (.ref f60)=true)(a61:nsIn K mainGlobals "needed_rows"=some (some (.ref f61)))(l61:K.lookup f61=some ⟨oc61,od61,.func (fnOf "needed_rows" "needed_rows" (Aq Em) (Am Em) (Ad Em) .none kV61 dc61 pm61 an61 cd61 ct61),sl61⟩)(c61:codeIn K cd61 "needed_rows"=true)(k61:keepIn K (.ref f61)=true)(a62:nsIn K mainGlobals "worlds_left"=some (some (.ref f62)))(l62:K.lookup f62=some ⟨oc62,od62,.func (fnOf "worlds_left" "worlds_left" (Aq Gb) (Am Gb) (Ad Gb) .none kV62 dc62 pm62 an62 cd62 ct62),sl62⟩)(c62:codeIn K cd62 "worlds_left"=true)(k62:keepIn K (.ref f62)=true)(a63:findIn K (.ref cK) "room"=some (some (.ref f63)))(i63:isFn K (.ref f63)=true)(l63:K.lookup f63=some ⟨oc63,od63,.func (fnOf "room" "Talk.room" (Aq FI) (Am FI) (Ad FI) .none kV63 dc63 pm63 an63 cd63 ct63),sl63⟩)(c63:codeIn K cd63 "Talk.room"=true)(k63:keepIn K (.ref f63)=true)(a64:findIn K (.ref cK) "entries"=some (some (.ref f64)))(i64:isFn K (.ref f64)=true)(l64:K.lookup f64=some ⟨oc64,od64,.func (fnOf "entries" "Talk.entries" (Aq Ce) (Am Ce) (Ad Ce) .none kV64 dc64 pm64 an64 cd64 ct64),sl64⟩)(c64:codeIn K cd64 "Talk.entries"=true)(k64:keepIn K (.ref f64)=true)(a65:nsIn K mainGlobals "open_places"=some (some (.ref f65)))(l65:K.lookup f65=some ⟨oc65,od65,.func (fnOf "open_places" "open_places" (Aq Ft) (Am Ft) (Ad Ft) .none kV65 dc65 pm65 an65 cd65 ct65),sl65⟩)(c65:codeIn K cd65 "open_places"=true)(k65:keepIn K (.ref f65)=true)(a66:findIn K (.ref cK) "sides"=some (some (.ref f66)))(i66:isFn K (.ref f66)=true)(l66:K.lookup f66=some ⟨oc66,od66,.func (fnOf "sides" "Talk.sides" (Aq Ee) (Am Ee) (Ad Ee) .none kV66 dc66 pm66 an66 cd66 ct66),sl66⟩)(c66:codeIn K cd66 "Talk.sides"=true)(k66:keepIn K (.ref f66)=true)(a67:nsIn K mainGlobals "worlds_paper"=some (some (.ref f67)))(l67:K.lookup f67=some ⟨oc67,od67,.func (fnOf "worlds_paper" "worlds_paper" (Aq EC) (Am EC) (Ad EC) .none kV67 dc67 pm67 an67 cd67 ct67),sl67⟩)(c67:codeIn K cd67 "worlds_paper"=true)(k67:keepIn K (.ref f67)=true)(a68:nsIn K mainGlobals "paper_of"=some (some (.ref f68)))(l68:K.lookup f68=some ⟨oc68,od68,.func (fnOf "paper_of" "paper_of" (Aq Dr) (Am Dr) (Ad Dr) .none kV68 dc68 pm68 an68 cd68 ct68),sl68⟩)(c68:codeIn K cd68 "paper_of"=true)(k68:keepIn K (.ref f68)=true)(a69:nsIn K mainGlobals "rows_lead"=some (some (.ref f69)))(l69:K.lookup f69=some ⟨oc69,od69,.func (fnOf "rows_lead" "rows_lead" (Aq Cb) (Am Cb) (Ad Cb) .none kV69 dc69 pm69 an69 cd69 ct69),sl69⟩)(c69:codeIn K cd69 "rows_lead"=true)(k69:keepIn K (.ref f69)=true)(a70:nsIn K mainGlobals "places_hold"=some (some (.ref f70)))(l70:K.lookup f70=some ⟨oc70,od70,.func (fnOf "places_hold" "places_hold" (Aq Eu) (Am Eu) (Ad Eu) .none kV70 dc70 pm70 an70 cd70 ct70),sl70⟩)(c70:codeIn K cd70 "places_hold"=true)(k70:keepIn K (.ref f70)=true)(a71:nsIn K mainGlobals "paper_holds"=some (some (.ref f71)))(l71:K.lookup f71=some ⟨oc71,od71,.func (fnOf "paper_holds" "paper_holds" (Aq Dl) (Am Dl) (Ad Dl) .none kV71 dc71 pm71 an71 cd71 ct71),sl71⟩)(c71:codeIn K cd71 "paper_holds"=true)(k71:keepIn K (.ref f71)=true)(a72:nsIn K mainGlobals "sides_of"=some (some (.ref f72)))(l72:K.lookup f72=some ⟨oc72,od72,.func (fnOf "sides_of" "sides_of" (Aq Dj) (Am Dj) (Ad Dj) .none kV72 dc72 pm72 an72 cd72 ct72),sl72⟩)(c72:codeIn K cd72 "sides_of"=true)(k72:keepIn K (.ref f72)=true)(a73:nsIn K mainGlobals "in_any"=some (some (.ref f73)))(l73:K.lookup f73=some ⟨oc73,od73,.func (fnOf "in_any" "in_any" (Aq Nd) (Am Nd) (Ad Nd) .none kV73 dc73 pm73 an73 cd73 ct73),sl73⟩)(c73:codeIn K cd73 "in_any"=true)(k73:keepIn K (.ref f73)=true)(a74:nsIn K mainGlobals "base_of"=some (some (.ref f74)))(l74:K.lookup f74=some ⟨oc74,od74,.func (fnOf "base_of" "base_of" (Aq EE) (Am EE) (Ad EE) .none kV74 dc74 pm74 an74 cd74 ct74),sl74⟩)(c74:codeIn K cd74 "base_of"=true)(k74:keepIn K (.ref f74)=true)(a75:findIn K (.ref cK) "__init__"=some (some (.ref f75)))(i75:isFn K (.ref f75)=true)(l75:K.lookup f75=some ⟨oc75,od75,.func (fnOf "__init__" "Talk.__init__" (Aq Fx) (Am Fx) (Ad Fx) .none kV75 dc75 pm75 an75 cd75 ct75),sl75⟩)(c75:codeIn K cd75 "Talk.__init__"=true)(k75:keepIn K (.ref f75)=true)(a76:nsIn K mainGlobals "law"=some (some (.ref f76)))(l76:K.lookup f76=some ⟨oc76,od76,.func (fnOf "law" "law" (Aq JN) (Am JN) (Ad JN) .none kV76 dc76 pm76 an76 cd76 ct76),sl76⟩)(c76:codeIn K cd76 "law"=true)(k76:keepIn K (.ref f76)=true)(yabs:nsIn K mainGlobals "abs"=some none)(ylen:nsIn K mainGlobals "len"=some none)(yrange:nsIn K mainGlobals "range"=some none)(du:nsIn K mainGlobals "isinstance"=some none)(yint:nsIn K mainGlobals "int"=some none)(ybool:nsIn K mainGlobals "bool"=some none)(ystr:nsIn K mainGlobals "str"=some none)(ytuple:nsIn K mainGlobals "tuple"=some none)(ylist:nsIn K mainGlobals "list"=some none)(yset:nsIn K mainGlobals "set"=some none)(i8:nsIn K mainGlobals "sorted"=some none)(yany:nsIn K mainGlobals "any"=some none)(yall:nsIn K mainGlobals "all"=some none)(dw:nsIn K mainGlobals "ValueError"=some none)(eN:nsIn K mainGlobals "enumerate"=some none)(ymin:nsIn K mainGlobals "min"=some none)(gp:nsIn K mainGlobals "reversed"=some none)(xTn:nsIn K mainGlobals "TalkError"=some (some (.ref cT)))(xTl:K.lookup cT=some ⟨.type "type",xTdd,.cls { name:=xTnm,bases:=xTbs,mro:=.ref cT::Ia,ns:=NT,qualname:=xTq,hasDict:=xThd,slotNames:=xTsn,subclasses:=xTsub,abstract:=xTab,collection:=xTcol,hasDel:=false },#[xTa,xTb,xTc,xTd,xTe,xTf]⟩)(xTm:K.lookup NT=some ⟨xToc,xTod,.dict xTes xTep,xTsl⟩)(nTs:(xTes.all (fun e=>match e.key with | .str _ _=>true | _=>false))=true)(xTi:nsIn K NT "__init__"=some none)(xTc1:clsIn K cT=some XDT)(xTt:typeIn K (.ref cT)=some (.type "type"))(xTbse:mroIn K cT (.type "BaseException")=some true)(nuV:PySem.W.kitMeta "ValueError"=true)(xcg:PySem.W.specialIn K (.builtin "object.__class__") "__get__"=some (some (.builtin "getset_descriptor.__get__")))(xct:PySem.W.takesIn K (.builtin "object.__class__")=some true)(xn0:nsIn K mainGlobals "StrangeLetter"=some (some (.ref cS)))(xl0:K.lookup cS=some (excClassObj xnm0 xq0 cS NcS xbs0 (.ref cT::Ia) true xsn0 xsub0 xab0 xcol0 xdd0 xka0 xkb0 xkc0 xkd0 xkf0 "ValueError.__new__"))(xm0:K.lookup NcS=some ⟨xoc0,xod0,.dict xes0 xep0,xsl0⟩)(nxs0:(xes0.all (fun e=>match e.key with | .str _ _=>true | _=>false))=true)(xi0:nsIn K NcS "__init__"=some none)(xkp0:keepIn K (.ref cS)=true)(ik:clsIn K cS=some XD0)(nxm0:XD0.mro= .ref cS::.ref cT::Ia)(nxd0:XD0.hasDict=true)(xsa0:findIn K (.ref cS) "__setattr__"=some (some (.builtin "object.__setattr__")))(xga0:findIn K (.ref cS) "__getattribute__"=some (some (.builtin "BaseException.__getattribute__")))(xgn0:findIn K (.ref cS) "__getattr__"=some none)(xca0:findIn K (.ref cS) "__class__"=some (some (.builtin "object.__class__")))(xt0:typeIn K (.ref cS)=some (.type "type"))(xb0:mroIn K cS (.type "BaseException")=some true)(jG:mroIn K cS (.ref cS)=some true)(xu0:mroIn K cS (.ref cT)=some true)(xv0:subIn K (.ref cS) (.type "ValueError")=some true)(xn1:nsIn K mainGlobals "BadWord"=some (some (.ref cB)))(xl1:K.lookup cB=some (excClassObj xnm1 xq1 cB NcB xbs1 (.ref cT::Ia) true xsn1 xsub1 xab1 xcol1 xdd1 xka1 xkb1 xkc1 xkd1 xkf1 "ValueError.__new__"))(xm1:K.lookup NcB=some ⟨xoc1,xod1,.dict xes1 xep1,xsl1⟩)(nxs1:(xes1.all (fun e=>match e.key with | .str _ _=>true | _=>false))=true)(xi1:nsIn K NcB "__init__"=some none)(xkp1:keepIn K (.ref cB)=true)(im:clsIn K cB=some XD1)(nxm1:XD1.mro= .ref cB::.ref cT::Ia)(nxd1:XD1.hasDict=true)(xsa1:findIn K (.ref cB) "__setattr__"=some (some (.builtin "object.__setattr__")))(xga1:findIn K (.ref cB) "__getattribute__"=some (some (.builtin "BaseException.__getattribute__")))(xgn1:findIn K (.ref cB) "__getattr__"=some none)(xca1:findIn K (.ref cB) "__class__"=some (some (.builtin "object.__class__")))(xt1:typeIn K (.ref cB)=some (.type "type"))(xb1:mroIn K cB (.type "BaseException")=some true)(xs1:mroIn K cB (.ref cB)=some true)(xu1:mroIn K cB (.ref cT)=some true)(xv1:subIn K (.ref cB) (.type "ValueError")=some true)(xn2:nsIn K mainGlobals "NoStanding"=some (some (.ref cN)))(xl2:K.lookup cN=some (excClassObj xnm2 xq2 cN NcN xbs2 (.ref cT::Ia) true xsn2 xsub2 xab2 xcol2 xdd2 xka2 xkb2 xkc2 xkd2 xkf2 "ValueError.__new__"))(xm2:K.lookup NcN=some ⟨xoc2,xod2,.dict xes2 xep2,xsl2⟩)(nxs2:(xes2.all (fun e=>match e.key with | .str _ _=>true | _=>false))=true)(xi2:nsIn K NcN "__init__"=some none)(xkp2:keepIn K (.ref cN)=true)(io:clsIn K cN=some XD2)(nxm2:XD2.mro= .ref cN::.ref cT::Ia)(nxd2:XD2.hasDict=true)(xsa2:findIn K (.ref cN) "__setattr__"=some (some (.builtin "object.__setattr__")))(xga2:findIn K (.ref cN) "__getattribute__"=some (some (.builtin "BaseException.__getattribute__")))(xgn2:findIn K (.ref cN) "__getattr__"=some none)(xca2:findIn K (.ref cN) "__class__"=some (some (.builtin "object.__class__")))(xt2:typeIn K (.ref cN)=some (.type "type"))(xb2:mroIn K cN (.type "BaseException")=some true)(xs2:mroIn K cN (.ref cN)=some true)(xu2:mroIn K cN (.ref cT)=some true)(xv2:subIn K (.ref cN) (.type "ValueError")=some true)(xn3:nsIn K mainGlobals "TalkOver"=some (some (.ref cO)))(xl3:K.lookup cO=some (excClassObj xnm3 xq3 cO NcO xbs3 (.ref cT::Ia) true xsn3 xsub3 xab3 xcol3 xdd3 xka3 xkb3 xkc3 xkd3 xkf3 "ValueError.__new__"))(xm3:K.lookup NcO=some ⟨xoc3,xod3,.dict xes3 xep3,xsl3⟩)(nxs3:(xes3.all (fun e=>match e.key with | .str _ _=>true | _=>false))=true)(xi3:nsIn K NcO "__init__"=some none)(xkp3:keepIn K (.ref cO)=true)(ip:clsIn K cO=some XD3)(nxm3:XD3.mro= .ref cO::.ref cT::Ia)(nxd3:XD3.hasDict=true)(xsa3:findIn K (.ref cO) "__setattr__"=some (some (.builtin "object.__setattr__")))(xga3:findIn K (.ref cO) "__getattribute__"=some (some (.builtin "BaseException.__getattribute__")))(xgn3:findIn K (.ref cO) "__getattr__"=some none)(xca3:findIn K (.ref cO) "__class__"=some (some (.builtin "object.__class__")))(xt3:typeIn K (.ref cO)=some (.type "type"))(xb3:mroIn K cO (.type "BaseException")=some true)(xs3:mroIn K cO (.ref cO)=some true)(xu3:mroIn K cO (.ref cT)=some true)(xv3:subIn K (.ref cO) (.type "ValueError")=some true)(xp0_1:subIn K (.ref cS) (.ref cB)=some false)(nq0_1:(Value.ref cS == Value.ref cB)=false)(xr0_1:mroIn K cS (.ref cB)=some false)(xp0_2:subIn K (.ref cS) (.ref cN)=some false)(nq0_2:(Value.ref cS == Value.ref cN)=false)(xr0_2:mroIn K cS (.ref cN)=some false)(xp0_3:subIn K (.ref cS) (.ref cO)=some false)(nq0_3:(Value.ref cS == Value.ref cO)=false)(xr0_3:mroIn K cS (.ref cO)=some false)(xp1_0:subIn K (.ref cB) (.ref cS)=some false)(nq1_0:(Value.ref cB == Value.ref cS)=false)(xr1_0:mroIn K cB (.ref cS)=some false)(xp1_2:subIn K (.ref cB) (.ref cN)=some false)(nq1_2:(Value.ref cB == Value.ref cN)=false)(xr1_2:mroIn K cB (.ref cN)=some false)(xp1_3:subIn K (.ref cB) (.ref cO)=some false)(nq1_3:(Value.ref cB == Value.ref cO)=false)(xr1_3:mroIn K cB (.ref cO)=some false)(xp2_0:subIn K (.ref cN) (.ref cS)=some false)(nq2_0:(Value.ref cN == Value.ref cS)=false)(xr2_0:mroIn K cN (.ref cS)=some false)(xp2_1:subIn K (.ref cN) (.ref cB)=some false)(nq2_1:(Value.ref cN == Value.ref cB)=false)(xr2_1:mroIn K cN (.ref cB)=some false)(xp2_3:subIn K (.ref cN) (.ref cO)=some false)(nq2_3:(Value.ref cN == Value.ref cO)=false)(xr2_3:mroIn K cN (.ref cO)=some false)(xp3_0:subIn K (.ref cO) (.ref cS)=some false)(nq3_0:(Value.ref cO == Value.ref cS)=false)(xr3_0:mroIn K cO (.ref cS)=some false)(xp3_1:subIn K (.ref cO) (.ref cB)=some false)(nq3_1:(Value.ref cO == Value.ref cB)=false)(xr3_1:mroIn K cO (.ref cB)=some false)(xp3_2:subIn K (.ref cO) (.ref cN)=some false)(nq3_2:(Value.ref cO == Value.ref cN)=false)(xr3_2:mroIn K cO (.ref cN)=some false)(aCTalk:nsIn K mainGlobals "Talk"=some (some (.ref cK)))(pgTalk:PySem.W.plainGet K cK Str.empty=true)(hdTalk:PySem.W.hasDictIn K cK=true)(poTalk:PySem.W.plainOver K cK=true)(saTalk:findIn K (.ref cK) "__setattr__"=some (some (.builtin "object.__setattr__")))(mkTalk:PySem.W.makesIn K cK=true)(kcTalk:keepIn K (.ref cK)=true)(eO:findIn K (.ref cK) "many"=some none)(eP:findIn K (.ref cK) "kind"=some none)(bV:findIn K (.ref cK) "sentence"=some none)(eQ:findIn K (.ref cK) "rule"=some none)(dy:findIn K (.ref cK) "space"=some none)(dz:findIn K (.ref cK) "parts"=some none)(dC:findIn K (.ref cK) "given"=some none)(eS:findIn K (.ref cK) "left"=some none)(dF:findIn K (.ref cK) "ended"=some none): ∃fd:FuncData,(∀(s:Shared)(v:Value),BindsTo s fd ⟨[v],[]⟩ [("_law_script",v)])/\∀bz:Heap,K.In bz->bz.Ns mainGlobals mg->FnOk l.prog w K mg bz AH 64 fa fd ["_law_script"] (ME K):=by
 have e:=hfa.symm.trans (mg_of X G a76)
 cases e
 have F1:=Aw (st:=NK) l1 c1 k1
 have F2:=Aw (st:=NU) l2 c2 k2
 have F3:=Aw (st:=IG) l3 c3 k3
 have F4:=Aw (st:=Dh) l4 c4 k4
 have F5:=Aw (st:=Go) l5 c5 k5
 have F6:=Aw (st:=Cd) l6 c6 k6
 have F7:=Aw (st:=FB) l7 c7 k7
 have F8:=Aw (st:=EL) l8 c8 k8
 have F9:=Aw (st:=Iu) l9 c9 k9
 have F10:=Aw (st:=Gh) l10 iy k10
 have F11:=Aw (st:=Ez) l11 c11 k11
 have F12:=Aw (st:=FL) l12 c12 k12
 have F13:=Aw (st:=Eh) l13 c13 k13
 have F14:=Aw (st:=Fs) l14 c14 k14
 have F15:=Aw (st:=F0) l15 c15 k15
 have F16:=Aw (st:=En) l16 c16 k16
 have F17:=Aw (st:=FH) l17 jy k17
 have F18:=Aw (st:=FO) l18 c18 k18
 have F19:=Aw (st:=Cw) l19 c19 k19
 have F20:=Aw (st:=FW) l20 c20 k20
 have F21:=Aw (st:=Cu) l21 c21 k21
 have F22:=Aw (st:=Gk) l22 c22 k22
 have F23:=Aw (st:=Df) l23 c23 k23
 have F24:=Aw (st:=Dk) l24 c24 k24
 have F25:=Aw (st:=FZ) l25 c25 k25
 have F26:=Aw (st:=Ge) l26 c26 k26
 have F27:=Aw (st:=Et) l27 c27 k27
 have F28:=Aw (st:=Eb) l28 c28 k28
 have F29:=Aw (st:=Cc) l29 c29 k29
 have F30:=Aw (st:=Fv) l30 c30 k30
 have F31:=Aw (st:=FD) l31 c31 k31
 have F32:=Aw (st:=IL) l32 c32 k32
 have F33:=Aw (st:=FS) l33 c33 k33
 have F34:=Aw (st:=FG) l34 c34 k34
 have F35:=Aw (st:=Ej) l35 c35 k35
 have F36:=Aw (st:=EF) l36 c36 k36
 have F37:=Aw (st:=Dm) l37 c37 k37
 have F38:=Aw (st:=Eg) l38 c38 k38
 have F39:=Aw (st:=Gi) l39 c39 k39
 have F40:=Aw (st:=FK) l40 c40 k40
 have F41:=Aw (st:=Ef) l41 c41 k41
 have F42:=Aw (st:=IM) l42 c42 k42
 have F43:=Aw (st:=IC) l43 c43 k43
 have F44:=Aw (st:=Dd) l44 c44 k44
 have F45:=Aw (st:=FQ) l45 c45 k45
 have F46:=Aw (st:=Ga) l46 c46 k46
 have F47:=Aw (st:=Gj) l47 c47 k47
 have F48:=Aw (st:=FP) l48 c48 k48
 have F49:=Aw (st:=Da) l49 c49 k49
 have F50:=Aw (st:=Er) l50 c50 k50
 have F51:=Aw (st:=FF) l51 c51 k51
 have F52:=Aw (st:=Cv) l52 c52 k52
 have F53:=Aw (st:=FE) l53 c53 k53
 have F54:=Aw (st:=Dn) l54 c54 k54
 have F55:=Aw (st:=Ed) l55 c55 k55
 have F56:=Aw (st:=Eo) l56 c56 k56
 have F57:=Aw (st:=Cy) l57 c57 k57
 have F58:=Aw (st:=Dq) l58 c58 k58
 have F59:=Aw (st:=D8) l59 c59 k59
 have F60:=Aw (st:=Ek) l60 c60 k60
 have F61:=Aw (st:=Em) l61 c61 k61
 have F62:=Aw (st:=Gb) l62 c62 k62
 have F63:=Aw (st:=FI) l63 c63 k63
 have F64:=Aw (st:=Ce) l64 c64 k64
 have F65:=Aw (st:=Ft) l65 c65 k65
 have F66:=Aw (st:=Ee) l66 c66 k66
 have F67:=Aw (st:=EC) l67 c67 k67
 have F68:=Aw (st:=Dr) l68 c68 k68
 have F69:=Aw (st:=Cb) l69 c69 k69
 have F70:=Aw (st:=Eu) l70 c70 k70
 have F71:=Aw (st:=Dl) l71 c71 k71
 have F72:=Aw (st:=Dj) l72 c72 k72
 have F73:=Aw (st:=Nd) l73 c73 k73
 have F74:=Aw (st:=EE) l74 c74 k74
 have F75:=Aw (st:=Fx) l75 c75 k75
 have FLAW:=Aw (st:=JN) l76 c76 k76
 have C1:AL K mg "_law_num" f1 _ ["_law_script","_law_k"]:=⟨mg_of X G a1,k1,F1.binds fun _ _ _ _ _ _ us hl=>(by obtain⟨_,_,rfl⟩:=Ba hl;rfl)⟩
 have C2:AL K mg "_law_few" f2 _ ["_law_n"]:=⟨mg_of X G a2,k2,F2.binds fun _ _ _ _ _ _ us hl=>(by obtain⟨_,rfl⟩:=Bv hl;rfl)⟩
 have C3:AL K mg "_law_sentence" f3 _ ["_law_n","_law_most","_law_many"]:=⟨mg_of X G a3,k3,F3.binds fun _ _ _ _ _ _ us hl=>(by obtain⟨_,_,_,rfl⟩:=Br hl;rfl)⟩
 have C4:AL K mg "_law_worlds" f4 _ ["_law_many"]:=⟨mg_of X G a4,k4,F4.binds fun _ _ _ _ _ _ us hl=>(by obtain⟨_,rfl⟩:=Bv hl;rfl)⟩
 have C5:AL K mg "_law_some" f5 _ ["_law_n","_law_row"]:=⟨mg_of X G a5,k5,F5.binds fun _ _ _ _ _ _ us hl=>(by obtain⟨_,_,rfl⟩:=Ba hl;rfl)⟩
 have C6:AL K mg "_law_some_one" f6 _ ["_law_n","_law_row"]:=⟨mg_of X G a6,k6,F6.binds fun _ _ _ _ _ _ us hl=>(by obtain⟨_,_,rfl⟩:=Ba hl;rfl)⟩
 have C7:AL K mg "_law_room" f7 _ ["_law_n","_law_many"]:=⟨mg_of X G a7,k7,F7.binds fun _ _ _ _ _ _ us hl=>(by obtain⟨_,_,rfl⟩:=Ba hl;rfl)⟩
 have C8:AL K mg "_law_true" f8 _ ["_law_sentence_here","_law_world"]:=⟨mg_of X G a8,k8,F8.binds fun _ _ _ _ _ _ us hl=>(by obtain⟨_,_,rfl⟩:=Ba hl;rfl)⟩
 have C9:AL K mg "_law_ins" f9 _ ["_law_sentence_here","_law_row"]:=⟨mg_of X G a9,k9,F9.binds fun _ _ _ _ _ _ us hl=>(by obtain⟨_,_,rfl⟩:=Ba hl;rfl)⟩
 have C10:AL K mg "_law_kind" f10 _ ["_law_n","_law_room_here","_law_sentence_here"]:=⟨mg_of X G a10,k10,F10.binds fun _ _ _ _ _ _ us hl=>(by obtain⟨_,_,_,rfl⟩:=Br hl;rfl)⟩
 have C11:AL K mg "_law_start" f11 _ ["_law_script","_law_many"]:=⟨mg_of X G a11,k11,F11.binds fun _ _ _ _ _ _ us hl=>(by obtain⟨_,_,rfl⟩:=Ba hl;rfl)⟩
 have C12:AL K mg "_law_outs" f12 _ ["_law_sentence_here","_law_row"]:=⟨mg_of X G a12,k12,F12.binds fun _ _ _ _ _ _ us hl=>(by obtain⟨_,_,rfl⟩:=Ba hl;rfl)⟩
 have C13:AL K mg "_law_sides" f13 _ ["_law_room_here","_law_kind_here","_law_sentence_here"]:=⟨mg_of X G a13,k13,F13.binds fun _ _ _ _ _ _ us hl=>(by obtain⟨_,_,_,rfl⟩:=Br hl;rfl)⟩
 have C14:AL K mg "_law_base" f14 _ ["_law_room_here","_law_sides_here"]:=⟨mg_of X G a14,k14,F14.binds fun _ _ _ _ _ _ us hl=>(by obtain⟨_,_,rfl⟩:=Ba hl;rfl)⟩
 have C15:AL K mg "_law_last" f15 _ ["_law_script","_law_start_here","_law_n"]:=⟨mg_of X G a15,k15,F15.binds fun _ _ _ _ _ _ us hl=>(by obtain⟨_,_,_,rfl⟩:=Br hl;rfl)⟩
 have C16:AL K mg "_law_asked" f16 _ ["_law_n","_law_fresh","_law_many"]:=⟨mg_of X G a16,k16,F16.binds fun _ _ _ _ _ _ us hl=>(by obtain⟨_,_,_,rfl⟩:=Br hl;rfl)⟩
 have C17:AL K mg "_law_asks" f17 _ ["_law_script","_law_start_here","_law_many","_law_first"]:=⟨mg_of X G a17,k17,F17.binds fun _ _ _ _ _ _ us hl=>(by obtain⟨_,_,_,_,rfl⟩:=ET hl;rfl)⟩
 have C18:AL K mg "_law_seen" f18 _ ["_law_n","_law_room_here"]:=⟨mg_of X G a18,k18,F18.binds fun _ _ _ _ _ _ us hl=>(by obtain⟨_,_,rfl⟩:=Ba hl;rfl)⟩
 have C19:AL K mg "_law_seen_at" f19 _ ["_law_script","_law_k","_law_room_here"]:=⟨mg_of X G a19,k19,F19.binds fun _ _ _ _ _ _ us hl=>(by obtain⟨_,_,_,rfl⟩:=Br hl;rfl)⟩
 have C20:BY K cK "over" f20 _ ["self"]:=⟨⟨a20,i20,k20⟩,F20.binds fun _ _ _ _ _ _ us hl=>(by obtain⟨_,rfl⟩:=Bv hl;rfl)⟩
 have C21:AL K mg "refuse_over" f21 _ ["talk"]:=⟨mg_of X G a21,k21,F21.binds fun _ _ _ _ _ _ us hl=>(by obtain⟨_,rfl⟩:=Bv hl;rfl)⟩
 have C22:AL K mg "parts_of" f22 _ ["layer"]:=⟨mg_of X G a22,k22,F22.binds fun _ _ _ _ _ _ us hl=>(by obtain⟨_,rfl⟩:=Bv hl;rfl)⟩
 have C23:AL K mg "letters" f23 _ ["sentence"]:=⟨mg_of X G a23,k23,F23.binds fun _ _ _ _ _ _ us hl=>(by obtain⟨_,rfl⟩:=Bv hl;rfl)⟩
 have C24:AL K mg "refuse_strange" f24 _ ["sentence","many"]:=⟨mg_of X G a24,k24,F24.binds fun _ _ _ _ _ _ us hl=>(by obtain⟨_,_,rfl⟩:=Ba hl;rfl)⟩
 have C25:AL K mg "steps_of" f25 _ ["sentence"]:=⟨mg_of X G a25,k25,F25.binds fun _ _ _ _ _ _ us hl=>(by obtain⟨_,rfl⟩:=Bv hl;rfl)⟩
 have C26:AL K mg "letter_holds" f26 _ ["letter","world"]:=⟨mg_of X G a26,k26,F26.binds fun _ _ _ _ _ _ us hl=>(by obtain⟨_,_,rfl⟩:=Ba hl;rfl)⟩
 have C27:AL K mg "joined" f27 _ ["kind","one","other"]:=⟨mg_of X G a27,k27,F27.binds fun _ _ _ _ _ _ us hl=>(by obtain⟨_,_,_,rfl⟩:=Br hl;rfl)⟩
 have C28:AL K mg "true_by" f28 _ ["steps","world"]:=⟨mg_of X G a28,k28,F28.binds fun _ _ _ _ _ _ us hl=>(by obtain⟨_,_,rfl⟩:=Ba hl;rfl)⟩
 have C29:AL K mg "worlds_of" f29 _ ["sentence","room"]:=⟨mg_of X G a29,k29,F29.binds fun _ _ _ _ _ _ us hl=>(by obtain⟨_,_,rfl⟩:=Ba hl;rfl)⟩
 have C30:AL K mg "in_first_only" f30 _ ["one","other"]:=⟨mg_of X G a30,k30,F30.binds fun _ _ _ _ _ _ us hl=>(by obtain⟨_,_,rfl⟩:=Ba hl;rfl)⟩
 have C31:AL K mg "all_within" f31 _ ["one","other"]:=⟨mg_of X G a31,k31,F31.binds fun _ _ _ _ _ _ us hl=>(by obtain⟨_,_,rfl⟩:=Ba hl;rfl)⟩
 have C32:AL K mg "in_both" f32 _ ["one","other"]:=⟨mg_of X G a32,k32,F32.binds fun _ _ _ _ _ _ us hl=>(by obtain⟨_,_,rfl⟩:=Ba hl;rfl)⟩
 have C33:AL K mg "some_within" f33 _ ["one","other"]:=⟨mg_of X G a33,k33,F33.binds fun _ _ _ _ _ _ us hl=>(by obtain⟨_,_,rfl⟩:=Ba hl;rfl)⟩
 have C34:AL K mg "plain" f34 _ ["seen","worlds"]:=⟨mg_of X G a34,k34,F34.binds fun _ _ _ _ _ _ us hl=>(by obtain⟨_,_,rfl⟩:=Ba hl;rfl)⟩
 have C35:AL K mg "left_by" f35 _ ["word","row","worlds"]:=⟨mg_of X G a35,k35,F35.binds fun _ _ _ _ _ _ us hl=>(by obtain⟨_,_,_,rfl⟩:=Br hl;rfl)⟩
 have C36:AL K mg "missed_side" f36 _ ["sides","worlds"]:=⟨mg_of X G a36,k36,F36.binds fun _ _ _ _ _ _ us hl=>(by obtain⟨_,_,rfl⟩:=Ba hl;rfl)⟩
 have C37:AL K mg "barring_side" f37 _ ["sides","going","seen","worlds"]:=⟨mg_of X G a37,k37,F37.binds fun _ _ _ _ _ _ us hl=>(by obtain⟨_,_,_,_,rfl⟩:=ET hl;rfl)⟩
 have C38:AL K mg "answer" f38 _ ["sides","going","seen","worlds"]:=⟨mg_of X G a38,k38,F38.binds fun _ _ _ _ _ _ us hl=>(by obtain⟨_,_,_,_,rfl⟩:=ET hl;rfl)⟩
 have C39:BY K cK "held" f39 _ ["self"]:=⟨⟨a39,i39,k39⟩,F39.binds fun _ _ _ _ _ _ us hl=>(by obtain⟨_,rfl⟩:=Bv hl;rfl)⟩
 have C40:BY K cK "base" f40 _ ["self"]:=⟨⟨a40,i40,k40⟩,F40.binds fun _ _ _ _ _ _ us hl=>(by obtain⟨_,rfl⟩:=Bv hl;rfl)⟩
 have C41:BY K cK "going" f41 _ ["self"]:=⟨⟨a41,i41,k41⟩,F41.binds fun _ _ _ _ _ _ us hl=>(by obtain⟨_,rfl⟩:=Bv hl;rfl)⟩
 have C42:BY K cK "ask" f42 _ ["self","sentence","seen"]:=⟨⟨a42,i42,k42⟩,F42.binds fun _ _ _ _ _ _ us hl=>(by obtain⟨_,_,_,rfl⟩:=Br hl;rfl)⟩
 have C43:BY K cK "say" f43 _ ["self","sentence","seen"]:=⟨⟨a43,i43,k43⟩,F43.binds fun _ _ _ _ _ _ us hl=>(by obtain⟨_,_,_,rfl⟩:=Br hl;rfl)⟩
 have C44:AL K mg "_law_driven" f44 _ ["_law_talk","_law_script","_law_many","_law_room_here","_law_first"]:=⟨mg_of X G a44,k44,F44.binds fun _ _ _ _ _ _ us hl=>(by obtain⟨_,_,_,_,_,rfl⟩:=JB hl;rfl)⟩
 have C45:AL K mg "_law_rule" f45 _ ["_law_script"]:=⟨mg_of X G a45,k45,F45.binds fun _ _ _ _ _ _ us hl=>(by obtain⟨_,rfl⟩:=Bv hl;rfl)⟩
 have C46:AL K mg "_law_left" f46 _ ["_law_row","_law_sentence_here","_law_said"]:=⟨mg_of X G a46,k46,F46.binds fun _ _ _ _ _ _ us hl=>(by obtain⟨_,_,_,rfl⟩:=Br hl;rfl)⟩
 have C47:AL K mg "_law_rows" f47 _ ["_law_room_here","_law_base_here","_law_entries"]:=⟨mg_of X G a47,k47,F47.binds fun _ _ _ _ _ _ us hl=>(by obtain⟨_,_,_,rfl⟩:=Br hl;rfl)⟩
 have C48:AL K mg "_law_goal" f48 _ ["_law_n","_law_sentence_here","_law_entries","_law_many"]:=⟨mg_of X G a48,k48,F48.binds fun _ _ _ _ _ _ us hl=>(by obtain⟨_,_,_,_,rfl⟩:=ET hl;rfl)⟩
 have C49:AL K mg "_law_places" f49 _ ["_law_n","_law_count"]:=⟨mg_of X G a49,k49,F49.binds fun _ _ _ _ _ _ us hl=>(by obtain⟨_,_,rfl⟩:=Ba hl;rfl)⟩
 have C50:AL K mg "_law_drawn" f50 _ ["_law_n","_law_more","_law_room_here","_law_count"]:=⟨mg_of X G a50,k50,F50.binds fun _ _ _ _ _ _ us hl=>(by obtain⟨_,_,_,_,rfl⟩:=ET hl;rfl)⟩
 have C51:AL K mg "_law_near" f51 _ ["_law_told","_law_count","_law_n"]:=⟨mg_of X G a51,k51,F51.binds fun _ _ _ _ _ _ us hl=>(by obtain⟨_,_,_,rfl⟩:=Br hl;rfl)⟩
 have C52:AL K mg "_law_common" f52 _ ["_law_room_here","_law_rows_here","_law_places_here"]:=⟨mg_of X G a52,k52,F52.binds fun _ _ _ _ _ _ us hl=>(by obtain⟨_,_,_,rfl⟩:=Br hl;rfl)⟩
 have C53:AL K mg "_law_whole" f53 _ ["_law_found"]:=⟨mg_of X G a53,k53,F53.binds fun _ _ _ _ _ _ us hl=>(by obtain⟨_,rfl⟩:=Bv hl;rfl)⟩
 have C54:AL K mg "_law_rising" f54 _ ["_law_places_here","_law_low","_law_bound"]:=⟨mg_of X G a54,k54,F54.binds fun _ _ _ _ _ _ us hl=>(by obtain⟨_,_,_,rfl⟩:=Br hl;rfl)⟩
 have C55:AL K mg "_law_leads" f55 _ ["_law_room_here","_law_rows_here","_law_places_here","_law_aim","_law_low"]:=⟨mg_of X G a55,k55,F55.binds fun _ _ _ _ _ _ us hl=>(by obtain⟨_,_,_,_,_,rfl⟩:=JB hl;rfl)⟩
 have C56:AL K mg "_law_plain" f56 _ ["_law_seen_here","_law_sentence_here"]:=⟨mg_of X G a56,k56,F56.binds fun _ _ _ _ _ _ us hl=>(by obtain⟨_,_,rfl⟩:=Ba hl;rfl)⟩
 have C57:AL K mg "_law_stands" f57 _ ["_law_sides_here","_law_row"]:=⟨mg_of X G a57,k57,F57.binds fun _ _ _ _ _ _ us hl=>(by obtain⟨_,_,rfl⟩:=Ba hl;rfl)⟩
 have C58:AL K mg "_law_barred" f58 _ ["_law_sides_here","_law_ins_here","_law_outs_here","_law_seen_here","_law_sentence_here"]:=⟨mg_of X G a58,k58,F58.binds fun _ _ _ _ _ _ us hl=>(by obtain⟨_,_,_,_,_,rfl⟩:=JB hl;rfl)⟩
 have C59:AL K mg "_law_holds" f59 _ ["_law_paper","_law_sides_here","_law_room_here","_law_rows_here","_law_seen_here","_law_asked_here"]:=⟨mg_of X G a59,k59,F59.binds fun _ _ _ _ _ _ us hl=>(by obtain⟨_,_,_,_,_,_,rfl⟩:=Pc hl;rfl)⟩
 have C60:AL K mg "common_behind" f60 _ ["rows","room"]:=⟨mg_of X G a60,k60,F60.binds fun _ _ _ _ _ _ us hl=>(by obtain⟨_,_,rfl⟩:=Ba hl;rfl)⟩
 have C61:AL K mg "needed_rows" f61 _ ["rows","room","target"]:=⟨mg_of X G a61,k61,F61.binds fun _ _ _ _ _ _ us hl=>(by obtain⟨_,_,_,rfl⟩:=Br hl;rfl)⟩
 have C62:AL K mg "worlds_left" f62 _ ["room","row"]:=⟨mg_of X G a62,k62,F62.binds fun _ _ _ _ _ _ us hl=>(by obtain⟨_,_,rfl⟩:=Ba hl;rfl)⟩
 have C63:BY K cK "room" f63 _ ["self"]:=⟨⟨a63,i63,k63⟩,F63.binds fun _ _ _ _ _ _ us hl=>(by obtain⟨_,rfl⟩:=Bv hl;rfl)⟩
 have C64:BY K cK "entries" f64 _ ["self"]:=⟨⟨a64,i64,k64⟩,F64.binds fun _ _ _ _ _ _ us hl=>(by obtain⟨_,rfl⟩:=Bv hl;rfl)⟩
 have C65:AL K mg "open_places" f65 _ ["talk"]:=⟨mg_of X G a65,k65,F65.binds fun _ _ _ _ _ _ us hl=>(by obtain⟨_,rfl⟩:=Bv hl;rfl)⟩
 have C66:BY K cK "sides" f66 _ ["self"]:=⟨⟨a66,i66,k66⟩,F66.binds fun _ _ _ _ _ _ us hl=>(by obtain⟨_,rfl⟩:=Bv hl;rfl)⟩
 have C67:AL K mg "worlds_paper" f67 _ ["talk","seen","inside","one","other"]:=⟨mg_of X G a67,k67,F67.binds fun _ _ _ _ _ _ us hl=>(by obtain⟨_,_,_,_,_,rfl⟩:=JB hl;rfl)⟩
 have C68:AL K mg "paper_of" f68 _ ["talk","sentence","seen"]:=⟨mg_of X G a68,k68,F68.binds fun _ _ _ _ _ _ us hl=>(by obtain⟨_,_,_,rfl⟩:=Br hl;rfl)⟩
 have C69:AL K mg "rows_lead" f69 _ ["rows","room","target"]:=⟨mg_of X G a69,k69,F69.binds fun _ _ _ _ _ _ us hl=>(by obtain⟨_,_,_,rfl⟩:=Br hl;rfl)⟩
 have C70:AL K mg "places_hold" f70 _ ["places","rows","room","target"]:=⟨mg_of X G a70,k70,F70.binds fun _ _ _ _ _ _ us hl=>(by obtain⟨_,_,_,_,rfl⟩:=ET hl;rfl)⟩
 have C71:AL K mg "paper_holds" f71 _ ["talk","sentence","seen","paper"]:=⟨mg_of X G a71,k71,F71.binds fun _ _ _ _ _ _ us hl=>(by obtain⟨_,_,_,_,rfl⟩:=ET hl;rfl)⟩
 have C72:AL K mg "sides_of" f72 _ ["room","kind","sentence"]:=⟨mg_of X G a72,k72,F72.binds fun _ _ _ _ _ _ us hl=>(by obtain⟨_,_,_,rfl⟩:=Br hl;rfl)⟩
 have C73:AL K mg "in_any" f73 _ ["rows"]:=⟨mg_of X G a73,k73,F73.binds fun _ _ _ _ _ _ us hl=>(by obtain⟨_,rfl⟩:=Bv hl;rfl)⟩
 have C74:AL K mg "base_of" f74 _ ["sides"]:=⟨mg_of X G a74,k74,F74.binds fun _ _ _ _ _ _ us hl=>(by obtain⟨_,rfl⟩:=Bv hl;rfl)⟩
 have C75:TF K mg cK "Talk" f75 _ ["self","many","room","kind","sentence","rule"]:=⟨⟨mkTalk,a75,i75,kcTalk⟩,mg_of X G aCTalk,F75.binds fun _ _ _ _ _ _ us hl=>(by obtain⟨_,_,_,_,_,_,rfl⟩:=Pc hl;rfl)⟩
 have zabs:=mg_none_of X G yabs
 have zlen:=mg_none_of X G ylen
 have iq:=mg_none_of X G yrange
 have bJ:=mg_none_of X G du
 have zint:=mg_none_of X G yint
 have zbool:=mg_none_of X G ybool
 have zstr:=mg_none_of X G ystr
 have ztuple:=mg_none_of X G ytuple
 have zlist:=mg_none_of X G ylist
 have zset:=mg_none_of X G yset
 have i9:=mg_none_of X G i8
 have zany:=mg_none_of X G yany
 have zall:=mg_none_of X G yall
 have dH:=mg_none_of X G dw
 have bq:=mg_none_of X G eN
 have zmin:=mg_none_of X G ymin
 have cD:=mg_none_of X G gp
 refine⟨fnOf "law" "law" (Aq JN) (Am JN) (Ad JN) .none kV76 dc76 pm76 an76 cd76 ct76,fun s v=>.of_eq rfl,fun bz _ _=>?_⟩
 have B:Bl mg:=⟨zabs,zlen,iq⟩
 have T:EV mg:=⟨bJ,zint,zbool,zstr,ztuple,zlist,zset,i9,iq,zany,zall⟩
 have XT:UJ K mg cT:=⟨mg_of X G xTn,xTt,by rw[xTc1];rfl,xTbse,dH,bJ⟩
 have bN:Jj K mg "StrangeLetter" cS cT:=⟨⟨⟨_,ik,nxm0,nxd0⟩,xsa0,xga0,xgn0,xca0,xcg,xct⟩,EW xl0 xm0 nxs0 xi0 xTl xTm nTs xTi xkp0,mg_of X G xn0,xt0,by rw[ik];rfl,xb0,jG,xu0,JX nuV xv0⟩
 have cE:Jj K mg "BadWord" cB cT:=⟨⟨⟨_,im,nxm1,nxd1⟩,xsa1,xga1,xgn1,xca1,xcg,xct⟩,EW xl1 xm1 nxs1 xi1 xTl xTm nTs xTi xkp1,mg_of X G xn1,xt1,by rw[im];rfl,xb1,xs1,xu1,JX nuV xv1⟩
 have cU:Jj K mg "NoStanding" cN cT:=⟨⟨⟨_,io,nxm2,nxd2⟩,xsa2,xga2,xgn2,xca2,xcg,xct⟩,EW xl2 xm2 nxs2 xi2 xTl xTm nTs xTi xkp2,mg_of X G xn2,xt2,by rw[io];rfl,xb2,xs2,xu2,JX nuV xv2⟩
 have eT:Jj K mg "TalkOver" cO cT:=⟨⟨⟨_,ip,nxm3,nxd3⟩,xsa3,xga3,xgn3,xca3,xcg,xct⟩,EW xl3 xm3 nxs3 xi3 xTl xTm nTs xTi xkp3,mg_of X G xn3,xt3,by rw[ip];rfl,xb3,xs3,xu3,JX nuV xv3⟩
 have cF:Ot K cS cB:=⟨xr0_1,B7 nq0_1 (by rw[im];rfl) xt1 xp0_1⟩
 have bW:Ot K cS cN:=⟨xr0_2,B7 nq0_2 (by rw[io];rfl) xt2 xp0_2⟩
 have cv:Ot K cS cO:=⟨xr0_3,B7 nq0_3 (by rw[ip];rfl) xt3 xp0_3⟩
 have cG:Ot K cB cS:=⟨xr1_0,B7 nq1_0 (by rw[ik];rfl) xt0 xp1_0⟩
 have dJ:Ot K cB cN:=⟨xr1_2,B7 nq1_2 (by rw[io];rfl) xt2 xp1_2⟩
 have eU:Ot K cB cO:=⟨xr1_3,B7 nq1_3 (by rw[ip];rfl) xt3 xp1_3⟩
 have bX:Ot K cN cS:=⟨xr2_0,B7 nq2_0 (by rw[ik];rfl) xt0 xp2_0⟩
 have dL:Ot K cN cB:=⟨xr2_1,B7 nq2_1 (by rw[im];rfl) xt1 xp2_1⟩
 have cW:Ot K cN cO:=⟨xr2_3,B7 nq2_3 (by rw[ip];rfl) xt3 xp2_3⟩
 have cw:Ot K cO cS:=⟨xr3_0,B7 nq3_0 (by rw[ik];rfl) xt0 xp3_0⟩
 have eV:Ot K cO cB:=⟨xr3_1,B7 nq3_1 (by rw[im];rfl) xt1 xp3_1⟩
 have cX:Ot K cO cN:=⟨xr3_2,B7 nq3_2 (by rw[io];rfl) xt2 xp3_2⟩
 have TX:J0 K cK:=⟨⟨pgTalk,hdTalk,poTalk,saTalk⟩,eO,eP,bV,eQ,dy,dz,dC,eS,dF⟩
 have G1:=Rf (P:=l.prog) (w:=w) (mg:=mg) (bz:=bz) F1 B
 have G2:=ST (P:=l.prog) (w:=w) (mg:=mg) (bz:=bz) F2
 have G3:=RA (P:=l.prog) (w:=w) (mg:=mg) (bz:=bz) F3 B
 have G4:=L4 (P:=l.prog) (w:=w) (mg:=mg) (bz:=bz) F4 T
 have G5:=P7 (P:=l.prog) (w:=w) (mg:=mg) (bz:=bz) F5
 have G6:=J3 F6 B G5 C5
 have G7:=PR F7 G4 C4 G6 C6
 have G8:=IR (P:=l.prog) (w:=w) (mg:=mg) (bz:=bz) F8 C8 60
 have G9:=Q6 F9 G8 C8
 have G10:=QA F10 B G9 C9
 have G11:=NZ F11 (Lw G1) C1 G3 C3 (G7.mono (by decide)) C7 (G10.mono (by decide)) C10
 have G12:=QF F12 G8 C8
 have G13:=Oj F13 G9 C9 G12 C12
 have G14:=Pa (P:=l.prog) (w:=w) (mg:=mg) (bz:=bz) F14 T
 have G15:=O4 (P:=l.prog) (w:=w) (mg:=mg) (bz:=bz) F15 B
 have G16:=Nk F16 B G3 C3
 have G17:=Qp F17 B zmin G1 C1 G15 C15 G16 C16
 have G18:=Qj F18 T B G6 C6
 have G19:=LT F19 (Lw G1) C1 G18 C18
 have G20:=OZ (P:=l.prog) (w:=w) (mg:=mg) (bz:=bz) F20 TX
 have G21:=Lr F21 TX eT G20 C20
 have G22:=OT (P:=l.prog) (w:=w) (mg:=mg) (bz:=bz) F22
 have G23:=Lg F23 T G22 C22
 have G24:=NG F24 bN G23 C23
 have G25:=OE F25 G22 C22
 have G26:=Ql (P:=l.prog) (w:=w) (mg:=mg) (bz:=bz) F26
 have G27:=Nn (P:=l.prog) (w:=w) (mg:=mg) (bz:=bz) F27
 have G28:=Oe F28 G26 C26 G27 C27
 have G29:=Kv F29 G25 C25 G28 C28
 have G30:=Px (P:=l.prog) (w:=w) (mg:=mg) (bz:=bz) F30 T
 have G31:=PV F31 B G30 C30
 have G32:=Ri (P:=l.prog) (w:=w) (mg:=mg) (bz:=bz) F32 T
 have G33:=PK F33 B G32 C32
 have G34:=O3 F34 G31 C31 G33 C33
 have G35:=No F35 T G32 C32 G30 C30
 have G36:=Ni F36 bq G33 C33
 have G37:=LF F37 G34 C34 G35 C35 G36 C36
 have G38:=NE F38 G31 C31 G33 C33 G34 C34 G37 C37
 have G39:=Ov (P:=l.prog) (w:=w) (mg:=mg) (bz:=bz) F39 TX T
 have G40:=QH (P:=l.prog) (w:=w) (mg:=mg) (bz:=bz) F40 TX T
 have G41:=Og F41 TX G39 C39 G40 C40
 have G42:=Q5 F42 TX G24 C24 G29 C29 G34 C34 G38 C38 G41 C41
 have G43:=Ry F43 TX G21 C21 G42 C42 G35 C35 G29 C29
 have G44:=LP F44 TX G17 C17 G19 C19 G43 C43
 have G45:=QL (P:=l.prog) (w:=w) (mg:=mg) (bz:=bz) F45 (Lw G1) C1
 have G46:=Pi F46 T G9 C9 G12 C12
 have G47:=OS F47 T G46 C46
 have G48:=OX F48 B G3 C3 G16 C16
 have G49:=LB F49 T B cD G5 C5
 have G50:=Na F50 T B G49 C49
 have G51:=Qc (P:=l.prog) (w:=w) (mg:=mg) (bz:=bz) F51 T B
 have G52:=LH (P:=l.prog) (w:=w) (mg:=mg) (bz:=bz) F52 T
 have G53:=O0 (P:=l.prog) (w:=w) (mg:=mg) (bz:=bz) F53 T
 have G54:=Lj F54 T G53 C53
 have G55:=NQ F55 T B G54 C54 G52 C52
 have G56:=Ny F56 T G8 C8
 have G57:=Lb (P:=l.prog) (w:=w) (mg:=mg) (bz:=bz) F57 T
 have G58:=L5 F58 B G56 C56 G57 C57
 have G59:=NY F59 T B G52 C52 G9 C9 G12 C12 G55 C55 G58 C58
 have G60:=Nb F60 cD G32 C32
 have G61:=N5 F61 bq G60 C60 G31 C31 G32 C32
 have G62:=PH F62 G35 C35 G29 C29
 have G63:=PN (P:=l.prog) (w:=w) (mg:=mg) (bz:=bz) F63 TX T
 have G64:=KC (P:=l.prog) (w:=w) (mg:=mg) (bz:=bz) F64 TX T
 have G65:=Pq F65 TX G62 C62 G40 C40 G63 C63 G64 C64
 have G66:=NV (P:=l.prog) (w:=w) (mg:=mg) (bz:=bz) F66 TX T
 have G67:=Os F67 TX G37 C37 G66 C66 G41 C41
 have G68:=Lc F68 TX G21 C21 G24 C24 G29 C29 G32 C32 G30 C30 G61 C61 G65 C65 G67 C67 G63 C63 G41 C41
 have G69:=KI F69 T B bq G30 C30
 have G70:=Nf F70 T B G69 C69
 have G71:=Mb F71 TX G21 C21 G24 C24 G29 C29 G32 C32 G30 C30 G70 C70 G65 C65 G67 C67 G63 C63 G41 C41
 have G72:=L8 F72 cE cU G29 C29 G30 C30
 have G73:=Te (P:=l.prog) (w:=w) (mg:=mg) (bz:=bz) F73 T
 have G74:=NC F74 G73 C73
 have G75:=Qk F75 TX T cE G24 C24 G72 C72 G74 C74
 exact Ti FLAW B T TX (G1.mono (by decide)) C1 (G2.mono (by decide)) C2 (G11.mono (by decide)) C11 (G13.mono (by decide)) C13 (G14.mono (by decide)) C14 (G44.mono (by decide)) C44 (G45.mono (by decide)) C45 (G47.mono (by decide)) C47 (G48.mono (by decide)) C48 (G18.mono (by decide)) C18 (G50.mono (by decide)) C50 (G51.mono (by decide)) C51 (G59.mono (by decide)) C59 (G68.mono (by decide)) C68 (G71.mono (by decide)) C71 (G75.mono (by decide)) C75 (G39.mono (by decide)) C39 (G64.mono (by decide)) C64
theorem walk{l:PySem.W.OpenLaw}{q:Program}{cy:List Str}{XP:(Str->Option Value)->Heap->Prop}{YP:World->Heap->Prop}{d:DefRec}{K:Params->PySem.W.Frag}(hn:l.most=some 63)(iD:d.params.defaults=[])(hY:∀(w:World) (h:Heap),YP w h->(K w.params).In h)(F:∀(w:World) (mg:Str->Option Value) (fa:Addr) (h:Heap),(K w.params).In h->h.Ns mainGlobals mg->mg d.name=some (.ref fa)->
   ∃fd:FuncData,(∀(s:Shared) (u:Value),BindsTo s fd ⟨[u],[]⟩ [("_law_script",u)])/\∀bz:Heap,(K w.params).In bz->bz.Ns mainGlobals mg->FnOk l.prog w (K w.params) mg bz AH 64 fa fd ["_law_script"] (ME (K w.params))):
  PySem.W.WalkO q cy XP YP l.row.toRowW d [] (fun f vs=>PySem.call f vs):=
 L2.walk_of (n:=63) (k:=64) (x:="_law_script") (CX:=fun _=>AH) (sp:=fun w=>ME (K w.params)) hn (by decide) iD ⟨rfl,by decide,by decide⟩ hY F (fun _ _ a ns hl _ hS=>⟨a,ns,rfl,hS,hl,fun _=>rfl⟩) fun _ _ _ _ _ z=>z
end Toy
namespace PySem.W.Fast
def tw13699861000690567061:=0
def tw14628076269401362129:=0
def tw4323231811131546246:=0
def tw13868732557895136593:=0
def tw13595325121605777446:=0
def tw6374609113622361310:=0
def tw10895755204319648758:=0
def tw12645635980587356907:=0
def tw9990259027832789243:=0
def tw4343516613699637184:=0
def tw11534557509701963905:=0
def tw10922266153812489695:=0
def tw16526694520365088552:=0
def tw160188712447479810:=0
def tw5476128122845570460:=0
def tw2512993813136286639:=0
def tw8304092336161384144:=0
def tw13184885311376965911:=0
def tw14472445801463096158:=0
def tw9458321319816067536:=0
def tw2485879597519204196:=0
def tw16053135128832629018:=0
def tw17257810200473924852:=0
def tw15625357854136277143:=0
def tw1903902236407687340:=0
def tw7876728303767543786:=0
def tw8664294009178497082:=0
def tw12656984658391941747:=0
def tw6246425934169771425:=0
def tw97402953530016650:=0
def tw2836786616965186483:=0
def tw16436413556457140272:=0
def tw15061912036493775917:=0
def tw10750668353527685505:=0
def tw16021495799148562297:=0
def tw7978913396629284885:=0
def tw5957650350241632708:=0
def tw7707512544509737227:=0
def tw8084387248263407510:=0
def tw2710601518771846226:=0
def tw14082577911278612161:=0
def tw11417039712167799100:=0
def tw10383804655620777827:=0
def tw17868962114985154899:=0
def tw718411089767356183:=0
def tw12234277425797961836:=0
def tw3238111070080071832:=0
def tw16280762839592440085:=0
def tw16149433540197664162:=0
def tw2620075558292318194:=0
def tw3650104209095532472:=0
def tw14888463241323639517:=0
def tw3103130191049676208:=0
def tw15013876898973142133:=0
def tw15148853062768278092:=0
def tw11599159742239676075:=0
def tw2882638412872156740:=0
def tw3485572697488659366:=0
def tw6950004241299299090:=0
def tw12233596921564755635:=0
def tw7017142440319909772:=0
def tw13822545941586902742:=0
def tw6118039226438821689:=0
def tw6599386130450554564:=0
def tw6013692195771089074:=0
def tw1088144392848356909:=0
def tw2431135436677351047:=0
def tw11521372009426115302:=0
def tw16432763570624984605:=0
def tw16841189764967777148:=0
def tw4188844557627522776:=0
def tw9686088492792370341:=0
def tw179843722815486443:=0
def tw15809026734002939077:=0
def tw2249539468736713902:=0
def tw16170496911593807966:=0
def tw13527066368072971564:=0
def tw10032925796063363817:=0
def tw207214315172540653:=0
def tw15731723317107208474:=0
def tw4680141762524666172:=0
def tw5793219599750069282:=0
def tw159006773715214868:=0
def tw17896520289472973792:=0
def tw7169581207828195829:=0
def tw12472719747969732511:=0
def tw7199433824534792231:=0
def tw2309433573042077801:=0
def tw15671333984632548829:=0
def tw1312240721014117246:=0
def tw11581639263152941426:=0
def tw3215321789743211835:=0
def tw3222938261479902803:=0
def tw5776586895265339847:=0
def tw9851850088147680192:=0
def tw1660065257446910659:=0
def tw17732794599083322602:=0
def tw17145529035363544880:=0
def tw6492231497857657315:=0
def tw10256326539980446397:=0
def tw6496808655605543681:=0
def tw10786194755342128671:=0
def tw3158881638201786080:=0
def tw2259207681133809407:=0
def tw12497976212632289797:=0
def tw12714316854281222997:=0
def tw15208316183740801200:=0
def tw15612106252992549834:=0
def tw13968993954972493985:=0
def tw16217486962123316061:=0
def tw3032301368298242352:=0
def tw10916184649591233016:=0
def tw5232498043975008947:=0
def tw5776114831189553168:=0
def tw16700624809836754703:=0
def tw15705758347585523640:=0
def tw13716763563215962571:=0
def tw17256001190924524947:=0
def tw14293538503762014150:=0
def tw327447024865799450:=0
def tw184581368072550769:=0
def tw9120013419808101308:=0
def tw4841454087233818931:=0
def tw4802020419794774040:=0
def tw17330967141663813730:=0
def tw1754314476440990052:=0
def tw2656698619141413333:=0
def tw13763527187449923332:=0
def tw4591959750895865771:=0
def tw14284066425928184711:=0
def tw18392847827413392178:=0
def tw10899771001231869258:=0
def tw6936007692940402217:=0
def tw748467247673299182:=0
def tw5629421950633401022:=0
def tw16093820888389496782:=0
def tw6242095015289793695:=0
def tw3390275525951133518:=0
def tw10306462822431986739:=0
def tw9693584002871392922:=0
def tw4128640086586104245:=0
def tw7484577846767602352:=0
def tw386741066247761818:=0
def tw5858573008059764219:=0
def tw8561940514957793248:=0
def tw15587527659799854398:=0
def tw7293044712958485843:=0
def tw17855221603229401631:=0
def tw3916200267603793842:=0
def tw15713829674929299680:=0
def tw1387774924672393605:=0
def tw13811243769251679670:=0
def tw13105800656978254802:=0
def tw4206572359004546778:=0
def tw10003091072060312736:=0
def tw4389502012296865005:=0
def tw3417434848232172051:=0
def tw8161000587671980595:=0
def tw9749891716165561690:=0
def tw12616885640846806606:=0
def tw10443639776798546908:=0
def tw2970061930808595597:=0
def tw18336493938132788486:=0
def tw6416679588414821342:=0
def tw13459179824758237000:=0
def tw15217792840672466555:=0
def tw14487276304195151762:=0
def tw7106604209964445060:=0
def tw13327350975479675493:=0
def tw17543238596927882031:=0
def tw16089557731848409819:=0
def tw15892111187694286994:=0
def tw5043627621940099437:=0
def tw974763461474601961:=0
def tw11379532882363405374:=0
def tw8956893584566394999:=0
def tw8093836108518360929:=0
def tw297609290426456620:=0
def tw853834105317272538:=0
def tw7018717337741194529:=0
def tw2456381171318542604:=0
def tw3588924839907308631:=0
def tw2179634741217256664:=0
def tw5886336154725802135:=0
def tw17089669122455880993:=0
def tw455155932377357565:=0
def tw10922847526027838395:=0
def tw2623888898198072849:=0
def tw4715480666662012829:=0
def tw16866386930008210482:=0
def tw10572862268751607022:=0
def tw650604123367000572:=0
def tw3385159993999764664:=0
def tw1394256717344478801:=0
def tw3291399976291619296:=0
def tw2036228640281754682:=0
def tw12387658330558729737:=0
def tw11199031575811068059:=0
def tw11898749641979388663:=0
def tw7178523450572197588:=0
def tw12026491023867361673:=0
def tw345358770233788081:=0
def tw5830506772666866740:=0
def tw6219347494417532355:=0
def tw5200193756214642658:=0
def tw16706823770787119152:=0
def tw6529908347649316400:=0
def tw5687674061649206515:=0
def tw13249104102180035154:=0
def tw3857702575581062174:=0
def tw5274336768368629813:=0
def tw18329542411724079025:=0
def tw4167070361686636726:=0
def tw9037489443130040819:=0
def tw2262232457083417450:=0
def tw14506118039050568520:=0
def tw554994259485342476:=0
def tw9066471913874677594:=0
def tw294759516615839708:=0
def tw8456896850582852160:=0
def tw860329970631683608:=0
def tw4948377661421965237:=0
def tw1259353691031070623:=0
def tw15042546250524559783:=0
def tw818953451943733692:=0
def tw13417061946136217749:=0
def tw9079254906685191795:=0
def tw5576441773693193562:=0
def tw1369221054187316376:=0
def tw7427125317044863040:=0
def tw10063509908805631081:=0
def tw1707187108689808365:=0
def tw13445634451998623262:=0
def tw13630998861393489071:=0
def tw2669437569912583816:=0
def tw1561131505318095946:=0
def tw8057520963588445518:=0
def tw11236907713389511870:=0
def tw6994998907344771818:=0
def tw13284409759495351587:=0
def tw7894557018859433718:=0
def tw7394453743225283818:=0
def tw7160977144274026734:=0
def tw12589718931496011027:=0
def tw2867538857170954370:=0
def tw10184778739909662467:=0
def tw7648797943502974194:=0
def tw3872055775636808101:=0
def tw13311228922368231816:=0
def tw5785812066831777368:=0
def tw7962056305916830687:=0
def tw5196212740062365249:=0
def tw7820503698814854620:=0
def tw6560110466927085911:=0
def tw16987039847698302733:=0
def tw15519477984377114232:=0
def tw8930063695558547799:=0
end PySem.W.Fast
open PySem PySem.W PyProof.Rows
set_option maxRecDepth 100000 in
set_option maxHeartbeats 0 in
theorem PySem.Challenge.cw_holdtalk_k32_papers_judged_holds : PySem.Challenge.rw_holdtalk_k32_papers_judged.Holds := by
 w_on;o_law;k_head;(case hw=>w_witness2)
 k_fill
 refine Toy.walk (l:=PySem.Challenge.rw_holdtalk_k32_papers_judged) rfl rfl (fun w h Y=>PySem.W.kIn_of Y) ?F
 case F=>
  intro w mg fa h KX G hmg
  refine' Toy.all_mk KX G hmg ?a1 ?l1 ?c1 ?k1 ?a2 ?l2 ?c2 ?k2 ?a3 ?l3 ?c3 ?k3 ?a4 ?l4 ?c4 ?k4 ?a5 ?l5 ?c5 ?k5 ?a6 ?l6 ?c6 ?k6 ?a7 ?l7 ?c7 ?k7 ?a8 ?l8 ?c8 ?k8 ?a9 ?l9 ?c9 ?k9 ?a10 ?l10 ?c10 ?k10 ?a11 ?l11 ?c11 ?k11 ?a12 ?l12 ?c12 ?k12 ?a13 ?l13 ?c13 ?k13 ?a14 ?l14 ?c14 ?k14 ?a15 ?l15 ?c15 ?k15 ?a16 ?l16 ?c16 ?k16 ?a17 ?l17 ?c17 ?k17 ?a18 ?l18 ?c18 ?k18 ?a19 ?l19 ?c19 ?k19 ?a20 ?i20 ?l20 ?c20 ?k20 ?a21 ?l21 ?c21 ?k21 ?a22 ?l22 ?c22 ?k22 ?a23 ?l23 ?c23 ?k23 ?a24 ?l24 ?c24 ?k24 ?a25 ?l25 ?c25 ?k25 ?a26 ?l26 ?c26 ?k26 ?a27 ?l27 ?c27 ?k27 ?a28 ?l28 ?c28 ?k28 ?a29 ?l29 ?c29 ?k29 ?a30 ?l30 ?c30 ?k30 ?a31 ?l31 ?c31 ?k31 ?a32 ?l32 ?c32 ?k32 ?a33 ?l33 ?c33 ?k33 ?a34 ?l34 ?c34 ?k34 ?a35 ?l35 ?c35 ?k35 ?a36 ?l36 ?c36 ?k36 ?a37 ?l37 ?c37 ?k37 ?a38 ?l38 ?c38 ?k38 ?a39 ?i39 ?l39 ?c39 ?k39 ?a40 ?i40 ?l40 ?c40 ?k40 ?a41 ?i41 ?l41 ?c41 ?k41 ?a42 ?i42 ?l42 ?c42 ?k42 ?a43 ?i43 ?l43 ?c43 ?k43 ?a44 ?l44 ?c44 ?k44 ?a45 ?l45 ?c45 ?k45 ?a46 ?l46 ?c46 ?k46 ?a47 ?l47 ?c47 ?k47 ?a48 ?l48 ?c48 ?k48 ?a49 ?l49 ?c49 ?k49 ?a50 ?l50 ?c50 ?k50 ?a51 ?l51 ?c51 ?k51 ?a52 ?l52 ?c52 ?k52 ?a53 ?l53 ?c53 ?k53 ?a54 ?l54 ?c54 ?k54 ?a55 ?l55 ?c55 ?k55 ?a56 ?l56 ?c56 ?k56 ?a57 ?l57 ?c57 ?k57 ?a58 ?l58 ?c58 ?k58 ?a59 ?l59 ?c59 ?k59 ?a60 ?l60 ?c60 ?k60 ?a61 ?l61 ?c61 ?k61 ?a62 ?l62 ?c62 ?k62 ?a63 ?i63 ?l63 ?c63 ?k63 ?a64 ?i64 ?l64 ?c64 ?k64 ?a65 ?l65 ?c65 ?k65 ?a66 ?i66 ?l66 ?c66 ?k66 ?a67 ?l67 ?c67 ?k67 ?a68 ?l68 ?c68 ?k68 ?a69 ?l69 ?c69 ?k69 ?a70 ?l70 ?c70 ?k70 ?a71 ?l71 ?c71 ?k71 ?a72 ?l72 ?c72 ?k72 ?a73 ?l73 ?c73 ?k73 ?a74 ?l74 ?c74 ?k74 ?a75 ?i75 ?l75 ?c75 ?k75 ?a76 ?l76 ?c76 ?k76 ?yabs ?ylen ?yrange ?yisinstance ?yint ?ybool ?ystr ?ytuple ?ylist ?yset ?ysorted ?yany ?yall ?yValueError ?yenumerate ?ymin ?yreversed ?xTn ?xTl ?xTm ?nTs ?xTi ?xTc1 ?xTt ?xTbse ?nuV ?xcg ?xct ?xn0 ?xl0 ?xm0 ?nxs0 ?xi0 ?xkp0 ?xcd0 ?nxm0 ?nxd0 ?xsa0 ?xga0 ?xgn0 ?xca0 ?xt0 ?xb0 ?xs0 ?xu0 ?xv0 ?xn1 ?xl1 ?xm1 ?nxs1 ?xi1 ?xkp1 ?xcd1 ?nxm1 ?nxd1 ?xsa1 ?xga1 ?xgn1 ?xca1 ?xt1 ?xb1 ?xs1 ?xu1 ?xv1 ?xn2 ?xl2 ?xm2 ?nxs2 ?xi2 ?xkp2 ?xcd2 ?nxm2 ?nxd2 ?xsa2 ?xga2 ?xgn2 ?xca2 ?xt2 ?xb2 ?xs2 ?xu2 ?xv2 ?xn3 ?xl3 ?xm3 ?nxs3 ?xi3 ?xkp3 ?xcd3 ?nxm3 ?nxd3 ?xsa3 ?xga3 ?xgn3 ?xca3 ?xt3 ?xb3 ?xs3 ?xu3 ?xv3 ?xp0_1 ?nq0_1 ?xr0_1 ?xp0_2 ?nq0_2 ?xr0_2 ?xp0_3 ?nq0_3 ?xr0_3 ?xp1_0 ?nq1_0 ?xr1_0 ?xp1_2 ?nq1_2 ?xr1_2 ?xp1_3 ?nq1_3 ?xr1_3 ?xp2_0 ?nq2_0 ?xr2_0 ?xp2_1 ?nq2_1 ?xr2_1 ?xp2_3 ?nq2_3 ?xr2_3 ?xp3_0 ?nq3_0 ?xr3_0 ?xp3_1 ?nq3_1 ?xr3_1 ?xp3_2 ?nq3_2 ?xr3_2 ?aCTalk ?pgTalk ?hdTalk ?poTalk ?saTalk ?mkTalk ?kcTalk ?wTalk_many ?wTalk_kind ?wTalk_sentence ?wTalk_rule ?wTalk_space ?wTalk_parts ?wTalk_given ?wTalk_left ?wTalk_ended
  (case aCTalk=>k_is)
  (case a1=>k_is)
  (case l1=>k_is)
  (case c1=>k_is)
  (case k1=>k_is)
  (case a2=>k_is)
  (case l2=>k_is)
  (case c2=>k_is)
  (case k2=>k_is)
  (case a3=>k_is)
  (case l3=>k_is)
  (case c3=>k_is)
  (case k3=>k_is)
  (case a4=>k_is)
  (case l4=>k_is)
  (case c4=>k_is)
  (case k4=>k_is)
  (case a5=>k_is)
  (case l5=>k_is)
  (case c5=>k_is)
  (case k5=>k_is)
  (case a6=>k_is)
  (case l6=>k_is)
  (case c6=>k_is)
  (case k6=>k_is)
  (case a7=>k_is)
  (case l7=>k_is)
  (case c7=>k_is)
  (case k7=>k_is)
  (case a8=>k_is)
  (case l8=>k_is)
  (case c8=>k_is)
  (case k8=>k_is)
  (case a9=>k_is)
  (case l9=>k_is)
  (case c9=>k_is)
  (case k9=>k_is)
  (case a10=>k_is)
  (case l10=>k_is)
  (case c10=>k_is)
  (case k10=>k_is)
  (case a11=>k_is)
  (case l11=>k_is)
  (case c11=>k_is)
  (case k11=>k_is)
  (case a12=>k_is)
  (case l12=>k_is)
  (case c12=>k_is)
  (case k12=>k_is)
  (case a13=>k_is)
  (case l13=>k_is)
  (case c13=>k_is)
  (case k13=>k_is)
  (case a14=>k_is)
  (case l14=>k_is)
  (case c14=>k_is)
  (case k14=>k_is)
  (case a15=>k_is)
  (case l15=>k_is)
  (case c15=>k_is)
  (case k15=>k_is)
  (case a16=>k_is)
  (case l16=>k_is)
  (case c16=>k_is)
  (case k16=>k_is)
  (case a17=>k_is)
  (case l17=>k_is)
  (case c17=>k_is)
  (case k17=>k_is)
  (case a18=>k_is)
  (case l18=>k_is)
  (case c18=>k_is)
  (case k18=>k_is)
  (case a19=>k_is)
  (case l19=>k_is)
  (case c19=>k_is)
  (case k19=>k_is)
  (case a20=>k_is)
  (case i20=>k_is)
  (case l20=>k_is)
  (case c20=>k_is)
  (case k20=>k_is)
  (case a21=>k_is)
  (case l21=>k_is)
  (case c21=>k_is)
  (case k21=>k_is)
  (case a22=>k_is)
  (case l22=>k_is)
  (case c22=>k_is)
  (case k22=>k_is)
  (case a23=>k_is)
  (case l23=>k_is)
  (case c23=>k_is)
  (case k23=>k_is)
  (case a24=>k_is)
  (case l24=>k_is)
  (case c24=>k_is)
  (case k24=>k_is)
  (case a25=>k_is)
  (case l25=>k_is)
  (case c25=>k_is)
  (case k25=>k_is)
  (case a26=>k_is)
  (case l26=>k_is)
  (case c26=>k_is)
  (case k26=>k_is)
  (case a27=>k_is)
  (case l27=>k_is)
  (case c27=>k_is)
  (case k27=>k_is)
  (case a28=>k_is)
  (case l28=>k_is)
  (case c28=>k_is)
  (case k28=>k_is)
  (case a29=>k_is)
  (case l29=>k_is)
  (case c29=>k_is)
  (case k29=>k_is)
  (case a30=>k_is)
  (case l30=>k_is)
  (case c30=>k_is)
  (case k30=>k_is)
  (case a31=>k_is)
  (case l31=>k_is)
  (case c31=>k_is)
  (case k31=>k_is)
  (case a32=>k_is)
  (case l32=>k_is)
  (case c32=>k_is)
  (case k32=>k_is)
  (case a33=>k_is)
  (case l33=>k_is)
  (case c33=>k_is)
  (case k33=>k_is)
  (case a34=>k_is)
  (case l34=>k_is)
  (case c34=>k_is)
  (case k34=>k_is)
  (case a35=>k_is)
  (case l35=>k_is)
  (case c35=>k_is)
  (case k35=>k_is)
  (case a36=>k_is)
  (case l36=>k_is)
  (case c36=>k_is)
  (case k36=>k_is)
  (case a37=>k_is)
  (case l37=>k_is)
  (case c37=>k_is)
  (case k37=>k_is)
  (case a38=>k_is)
  (case l38=>k_is)
  (case c38=>k_is)
  (case k38=>k_is)
  (case a39=>k_is)
  (case i39=>k_is)
  (case l39=>k_is)
  (case c39=>k_is)
  (case k39=>k_is)
  (case a40=>k_is)
  (case i40=>k_is)
  (case l40=>k_is)
  (case c40=>k_is)
  (case k40=>k_is)
  (case a41=>k_is)
  (case i41=>k_is)
  (case l41=>k_is)
  (case c41=>k_is)
  (case k41=>k_is)
  (case a42=>k_is)
  (case i42=>k_is)
  (case l42=>k_is)
  (case c42=>k_is)
  (case k42=>k_is)
  (case a43=>k_is)
  (case i43=>k_is)
  (case l43=>k_is)
  (case c43=>k_is)
  (case k43=>k_is)
  (case a44=>k_is)
  (case l44=>k_is)
  (case c44=>k_is)
  (case k44=>k_is)
  (case a45=>k_is)
  (case l45=>k_is)
  (case c45=>k_is)
  (case k45=>k_is)
  (case a46=>k_is)
  (case l46=>k_is)
  (case c46=>k_is)
  (case k46=>k_is)
  (case a47=>k_is)
  (case l47=>k_is)
  (case c47=>k_is)
  (case k47=>k_is)
  (case a48=>k_is)
  (case l48=>k_is)
  (case c48=>k_is)
  (case k48=>k_is)
  (case a49=>k_is)
  (case l49=>k_is)
  (case c49=>k_is)
  (case k49=>k_is)
  (case a50=>k_is)
  (case l50=>k_is)
  (case c50=>k_is)
  (case k50=>k_is)
  (case a51=>k_is)
  (case l51=>k_is)
  (case c51=>k_is)
  (case k51=>k_is)
  (case a52=>k_is)
  (case l52=>k_is)
  (case c52=>k_is)
  (case k52=>k_is)
  (case a53=>k_is)
  (case l53=>k_is)
  (case c53=>k_is)
  (case k53=>k_is)
  (case a54=>k_is)
  (case l54=>k_is)
  (case c54=>k_is)
  (case k54=>k_is)
  (case a55=>k_is)
  (case l55=>k_is)
  (case c55=>k_is)
  (case k55=>k_is)
  (case a56=>k_is)
  (case l56=>k_is)
  (case c56=>k_is)
  (case k56=>k_is)
  (case a57=>k_is)
  (case l57=>k_is)
  (case c57=>k_is)
  (case k57=>k_is)
  (case a58=>k_is)
  (case l58=>k_is)
  (case c58=>k_is)
  (case k58=>k_is)
  (case a59=>k_is)
  (case l59=>k_is)
  (case c59=>k_is)
  (case k59=>k_is)
  (case a60=>k_is)
  (case l60=>k_is)
  (case c60=>k_is)
  (case k60=>k_is)
  (case a61=>k_is)
  (case l61=>k_is)
  (case c61=>k_is)
  (case k61=>k_is)
  (case a62=>k_is)
  (case l62=>k_is)
  (case c62=>k_is)
  (case k62=>k_is)
  (case a63=>k_is)
  (case i63=>k_is)
  (case l63=>k_is)
  (case c63=>k_is)
  (case k63=>k_is)
  (case a64=>k_is)
  (case i64=>k_is)
  (case l64=>k_is)
  (case c64=>k_is)
  (case k64=>k_is)
  (case a65=>k_is)
  (case l65=>k_is)
  (case c65=>k_is)
  (case k65=>k_is)
  (case a66=>k_is)
  (case i66=>k_is)
  (case l66=>k_is)
  (case c66=>k_is)
  (case k66=>k_is)
  (case a67=>k_is)
  (case l67=>k_is)
  (case c67=>k_is)
  (case k67=>k_is)
  (case a68=>k_is)
  (case l68=>k_is)
  (case c68=>k_is)
  (case k68=>k_is)
  (case a69=>k_is)
  (case l69=>k_is)
  (case c69=>k_is)
  (case k69=>k_is)
  (case a70=>k_is)
  (case l70=>k_is)
  (case c70=>k_is)
  (case k70=>k_is)
  (case a71=>k_is)
  (case l71=>k_is)
  (case c71=>k_is)
  (case k71=>k_is)
  (case a72=>k_is)
  (case l72=>k_is)
  (case c72=>k_is)
  (case k72=>k_is)
  (case a73=>k_is)
  (case l73=>k_is)
  (case c73=>k_is)
  (case k73=>k_is)
  (case a74=>k_is)
  (case l74=>k_is)
  (case c74=>k_is)
  (case k74=>k_is)
  (case a75=>k_is)
  (case i75=>k_is)
  (case l75=>k_is)
  (case c75=>k_is)
  (case k75=>k_is)
  (case a76=>k_is)
  (case l76=>k_is)
  (case c76=>k_is)
  (case k76=>k_is)
  (case yabs=>k_is)
  (case ylen=>k_is)
  (case yrange=>k_is)
  (case yisinstance=>k_is)
  (case yint=>k_is)
  (case ybool=>k_is)
  (case ystr=>k_is)
  (case ytuple=>k_is)
  (case ylist=>k_is)
  (case yset=>k_is)
  (case ysorted=>k_is)
  (case yany=>k_is)
  (case yall=>k_is)
  (case yValueError=>k_is)
  (case yenumerate=>k_is)
  (case ymin=>k_is)
  (case yreversed=>k_is)
  (case xTn=>k_is)
  (case xTl=>k_is)
  (case xTm=>k_is)
  (case nTs=>first | k_is | rfl | decide | simp)
  (case xTi=>k_is)
  (case xTc1=>k_is)
  (case xTt=>k_is)
  (case xTbse=>k_is)
  (case nuV=>first | k_is | rfl | decide | simp)
  (case xcg=>k_is)
  (case xct=>k_is)
  (case xn0=>k_is)
  (case xl0=>k_is)
  (case xm0=>k_is)
  (case nxs0=>first | k_is | rfl | decide | simp)
  (case xi0=>k_is)
  (case xkp0=>k_is)
  (case xcd0=>k_is)
  (case nxm0=>first | k_is | rfl | decide | simp)
  (case nxd0=>first | k_is | rfl | decide | simp)
  (case xsa0=>k_is)
  (case xga0=>k_is)
  (case xgn0=>k_is)
  (case xca0=>k_is)
  (case xt0=>k_is)
  (case xb0=>k_is)
  (case xs0=>k_is)
  (case xu0=>k_is)
  (case xv0=>k_is)
  (case xn1=>k_is)
  (case xl1=>k_is)
  (case xm1=>k_is)
  (case nxs1=>first | k_is | rfl | decide | simp)
  (case xi1=>k_is)
  (case xkp1=>k_is)
  (case xcd1=>k_is)
  (case nxm1=>first | k_is | rfl | decide | simp)
  (case nxd1=>first | k_is | rfl | decide | simp)
  (case xsa1=>k_is)
  (case xga1=>k_is)
  (case xgn1=>k_is)
  (case xca1=>k_is)
  (case xt1=>k_is)
  (case xb1=>k_is)
  (case xs1=>k_is)
  (case xu1=>k_is)
  (case xv1=>k_is)
  (case xn2=>k_is)
  (case xl2=>k_is)
  (case xm2=>k_is)
  (case nxs2=>first | k_is | rfl | decide | simp)
  (case xi2=>k_is)
  (case xkp2=>k_is)
  (case xcd2=>k_is)
  (case nxm2=>first | k_is | rfl | decide | simp)
  (case nxd2=>first | k_is | rfl | decide | simp)
  (case xsa2=>k_is)
  (case xga2=>k_is)
  (case xgn2=>k_is)
  (case xca2=>k_is)
  (case xt2=>k_is)
  (case xb2=>k_is)
  (case xs2=>k_is)
  (case xu2=>k_is)
  (case xv2=>k_is)
  (case xn3=>k_is)
  (case xl3=>k_is)
  (case xm3=>k_is)
  (case nxs3=>first | k_is | rfl | decide | simp)
  (case xi3=>k_is)
  (case xkp3=>k_is)
  (case xcd3=>k_is)
  (case nxm3=>first | k_is | rfl | decide | simp)
  (case nxd3=>first | k_is | rfl | decide | simp)
  (case xsa3=>k_is)
  (case xga3=>k_is)
  (case xgn3=>k_is)
  (case xca3=>k_is)
  (case xt3=>k_is)
  (case xb3=>k_is)
  (case xs3=>k_is)
  (case xu3=>k_is)
  (case xv3=>k_is)
  (case xp0_1=>k_is)
  (case nq0_1=>first | k_is | rfl | decide | simp)
  (case xr0_1=>k_is)
  (case xp0_2=>k_is)
  (case nq0_2=>first | k_is | rfl | decide | simp)
  (case xr0_2=>k_is)
  (case xp0_3=>k_is)
  (case nq0_3=>first | k_is | rfl | decide | simp)
  (case xr0_3=>k_is)
  (case xp1_0=>k_is)
  (case nq1_0=>first | k_is | rfl | decide | simp)
  (case xr1_0=>k_is)
  (case xp1_2=>k_is)
  (case nq1_2=>first | k_is | rfl | decide | simp)
  (case xr1_2=>k_is)
  (case xp1_3=>k_is)
  (case nq1_3=>first | k_is | rfl | decide | simp)
  (case xr1_3=>k_is)
  (case xp2_0=>k_is)
  (case nq2_0=>first | k_is | rfl | decide | simp)
  (case xr2_0=>k_is)
  (case xp2_1=>k_is)
  (case nq2_1=>first | k_is | rfl | decide | simp)
  (case xr2_1=>k_is)
  (case xp2_3=>k_is)
  (case nq2_3=>first | k_is | rfl | decide | simp)
  (case xr2_3=>k_is)
  (case xp3_0=>k_is)
  (case nq3_0=>first | k_is | rfl | decide | simp)
  (case xr3_0=>k_is)
  (case xp3_1=>k_is)
  (case nq3_1=>first | k_is | rfl | decide | simp)
  (case xr3_1=>k_is)
  (case xp3_2=>k_is)
  (case nq3_2=>first | k_is | rfl | decide | simp)
  (case xr3_2=>k_is)
  (case pgTalk=>k_is)
  (case hdTalk=>k_is)
  (case poTalk=>k_is)
  (case saTalk=>k_is)
  (case mkTalk=>k_is)
  (case kcTalk=>k_is)
  (case wTalk_many=>k_is)
  (case wTalk_kind=>k_is)
  (case wTalk_sentence=>k_is)
  (case wTalk_rule=>k_is)
  (case wTalk_space=>k_is)
  (case wTalk_parts=>k_is)
  (case wTalk_given=>k_is)
  (case wTalk_left=>k_is)
  (case wTalk_ended=>k_is)
