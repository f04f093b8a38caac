import PyProof.Rows.All
import Wide.All
import OpenK.AllK
import Wide.FinOn
import Lean
import PyProof.EqAt
import PyProof.EqKinds
import PyProof.TupleCall
import PyProof.NeKinds
import PyProof.EnumMake
import PyProof.EnumStmt
import PyProof.Draws
import PyProof.WalksT
import PyProof.StrWalks
import PyProof.Rows.EnumRows
import PyProof.StrLawsIdx
import PyProof.StrBlockI
import PyProof.StationsW
import PyProof.ExcInit
import PyProof.ExcBaseAll.ValueError
import PyProof.ExcAttrAll.ValueError
import PyProof.Rows.CatchOwn
import PyProof.CompUse
import PyProof.CompFree
import PyProof.SetKind
import PyProof.SetScanFacts
import PyProof.SetRoads
import PyProof.SetNew
import PyProof.Rows.SetFrom
import PyProof.CollectWalk
import PyProof.Rows.SortShell
import PyProof.Cells
import PyProof.ListRange
import PyProof.ConsumeWalk
import PyProof.Tail
import PyProof.Rows.Range3
import KE.KRevIter
import PyProof.NsDelKeeps
import PyProof.RangeIter
import PyProof.TableTree
import PySem.Challenge.RW_holdtalk_k46_doors_of_a_talk
set_option Elab.async false
set_option linter.all false
set_option maxRecDepth 100000
set_option autoImplicit true
set_option relaxedAutoImplicit true
namespace Aq
abbrev zA:=@List.length_append
abbrev zAA:=@Nat.le_refl
abbrev zAB:=@Bool.false_ne_true
abbrev zAC:=@Nat.le_trans
abbrev zAD:=@PySem.Heap.lt_size
abbrev zAE:=@Option.some.inj
abbrev zAF:=@Array.length_toList
abbrev zAG:=@List.size_toArray
abbrev zAH:=@Nat.ne_of_lt
abbrev zAI:=@List.take_add_one
abbrev zAJ:=@List.mem_of_getElem?
abbrev zAK:=@List.filter_sublist
abbrev zAL:=@Nat.lt_of_lt_of_le
abbrev zAM:=@List.length_take
abbrev zAN:=@List.take_length
abbrev zAO:=@PySem.boot_len
abbrev zAP:=@List.map_append
abbrev zAQ:=@List.length_cons
abbrev zAR:=@PySem.PassesOwn.never
abbrev zAS:=@List.mem_cons
abbrev zAT:=@List.not_mem_nil
abbrev zAU:=@List.append_nil
abbrev zAV:=@Int.emod_nonneg
abbrev zAW:=@PySem.Heap.SameBut.update
abbrev zAX:=@List.mem_append_right
abbrev zAY:=@Int.emod_lt_of_pos
abbrev zAZ:=@Nat.le_of_lt
abbrev zA0:=@List.length_filter_le
abbrev zA1:=@PySem.Paired.length
abbrev zA2:=@List.Sublist.refl
abbrev zA3:=@Bool.and_eq_true
abbrev zA4:=@Nat.zero_le
abbrev zA5:=@Bool.eq_iff_iff
abbrev zA6:=@PySem.Heap.size_push
abbrev zA7:=@List.map_cons
abbrev zA8:=@List.getElem_mem
abbrev zA9:=@List.append_assoc
abbrev zB:=@List.mem_append_left
abbrev zBA:=@List.filterMap_cons_some
abbrev zBB:=@PySem.W.kia_one
abbrev zBC:=@PySem.Obj.data_mapFields
abbrev zBD:=@Ne.symm
abbrev zBE:=@Nat.lt_succ_of_lt
abbrev zBF:=@PySem.Heap.SameBut.refl
abbrev zBG:=@Nat.succ_pos
abbrev zBH:=@List.filterMap_cons_none
abbrev zBI:=@PyProof.Rows.callWith_type1
abbrev zBJ:=@List.take_of_length_le
abbrev zBK:=@PySem.mem_of_lookup
abbrev zBL:=@Nat.lt_of_le_of_lt
abbrev zBM:=@Bool.false_eq_true
abbrev zBN:=@List.all_eq_true
abbrev zBO:=@List.Perm.refl
abbrev zBP:=@List.dropLast_concat
abbrev zBQ:=@List.length_range
abbrev zBR:=@Bool.or_eq_true
abbrev zBS:=@List.range_succ
abbrev zBT:=@List.cons.injEq
abbrev zBU:=@List.any_eq_true
abbrev zBV:=@PySem.Obj.isFreed_of_fields
abbrev zBW:=@Nat.ne_of_gt
abbrev zBX:=@Nat.not_lt_zero
abbrev zBY:=@List.any_cons
abbrev zBZ:=@PySem.F.plainAttrs_list
abbrev zB0:=@List.forall_mem_nil
abbrev zB1:=@List.nodup_nil
abbrev zB2:=@List.mem_singleton
abbrev zB3:=@List.take_append_drop
abbrev zB4:=@Nat.lt_irrefl
abbrev zB5:=@Int.toNat_natCast
abbrev zB6:=@List.reverse_cons
abbrev zB7:=@PySem.PassesOwn.leaving
abbrev zB8:=@PySem.Around.under_plainId
abbrev zB9:=@Nat.le_succ
abbrev zC:=@Nat.lt_succ_self
abbrev zCA:=@List.length_drop
abbrev zCB:=@List.eraseIdx_eq_take_drop_succ
abbrev zCC:=@Int.eq_ofNat_of_zero_le
abbrev zCD:=@PySem.W.callWith_K
abbrev zCE:=@List.eq_nil_of_length_eq_zero
abbrev zCF:=@Nat.lt_trans
abbrev zCG:=@List.take_zero
abbrev zCH:=@List.mem_of_mem_take
abbrev zCI:=@Int.fdiv_eq_ediv_of_nonneg
abbrev zCJ:=@Bool.not_true
abbrev zCK:=@List.drop_eq_getElem_cons
abbrev zCL:=@List.map_nil
abbrev zCM:=@PySem.Code.quiet_builtin
abbrev zCN:=@List.filter_append
abbrev zCO:=@PyProof.Rows.F.plain_set_update_loop
abbrev zCP:=@PySem.Calls.callWith_builtin
abbrev zCQ:=@List.pairwise_lt_range
abbrev zCR:=@Nat.lt_of_succ_lt_succ
abbrev zCS:=@List.length_pos_of_mem
abbrev zCT:=@List.filter_eq_nil_iff
abbrev zCU:=@List.all_cons
abbrev zCV:=@Option.bind_some
abbrev zCW:=@PySem.W.Looks.ld
abbrev zCX:=@List.ext_getElem
abbrev zCY:=@PySem.W.looks_findIn
abbrev zCZ:=@List.sum_append
abbrev zC0:=@List.mem_append
abbrev zC1:=@List.length_eraseIdx
abbrev zC2:=@Int.mul_comm
abbrev zC3:=@Int.ne_of_gt
abbrev zC4:=@PySem.W.plainGet_of
abbrev zC5:=@PySem.W.looks_mroIn
abbrev zC6:=@List.toList_toArray
abbrev zC7:=@List.mem_map_of_mem
abbrev zC8:=@PySem.W.Looks.here
abbrev zC9:=@List.map_filterMap
abbrev zD:=@List.sum_cons
abbrev zDA:=@PySem.Obj.cls_mapFields
abbrev zDB:=@Int.emod_eq_of_lt
abbrev zDC:=@List.filter_congr
abbrev zDD:=@List.foldl_append
abbrev zDE:=@List.flatMap_cons
abbrev zDF:=@List.drop_length
abbrev zDG:=@List.cons_ne_nil
end Aq
open Aq
universe u1 u2 u3 u4 u5 u6 u7 u8 u9 u10 u11 u12 dz dA u15 u16
inductive BF{α1:Sort u1}{α2:Sort u2}(p:α1->α2->Prop):Prop where
 | mk (x1:α1) (x2:α2) (_:p x1 x2)
inductive D0{α1:Sort u1}{α2:Sort u2}{α3:Sort u3}(p:α1->α2->α3->Prop):Prop where
 | mk (x1:α1) (x2:α2) (x3:α3) (_:p x1 x2 x3)
inductive TK{α1:Sort u1}{α2:Sort u2}{α3:Sort u3}{α4:Sort u4}(p:α1->α2->α3->α4->Prop):Prop where
 | mk (x1:α1) (x2:α2) (x3:α3) (x4:α4) (_:p x1 x2 x3 x4)
inductive Wd{α1:Sort u1}{α2:Sort u2}{α3:Sort u3}{α4:Sort u4}{α5:Sort u5}(p:α1->α2->α3->α4->α5->Prop):Prop where
 | mk (x1:α1) (x2:α2) (x3:α3) (x4:α4) (x5:α5) (_:p x1 x2 x3 x4 x5)
inductive Xt{α1:Sort u1}{α2:Sort u2}{α3:Sort u3}{α4:Sort u4}{α5:Sort u5}{α6:Sort u6}(p:α1->α2->α3->α4->α5->α6->Prop):Prop where
 | mk (x1:α1) (x2:α2) (x3:α3) (x4:α4) (x5:α5) (x6:α6) (_:p x1 x2 x3 x4 x5 x6)
inductive Yg{α1:Sort u1}{α2:Sort u2}{α3:Sort u3}{α4:Sort u4}{α5:Sort u5}{α6:Sort u6}{α7:Sort u7}(p:α1->α2->α3->α4->α5->α6->α7->Prop):Prop where
 | mk (x1:α1) (x2:α2) (x3:α3) (x4:α4) (x5:α5) (x6:α6) (x7:α7) (_:p x1 x2 x3 x4 x5 x6 x7)
inductive X5{α1:Sort u1}{α2:Sort u2}{α3:Sort u3}{α4:Sort u4}{α5:Sort u5}{α6:Sort u6}{α7:Sort u7}{α8:Sort u8}{α9:Sort u9}(p:α1->α2->α3->α4->α5->α6->α7->α8->α9->Prop):Prop where
 | mk (x1:α1) (x2:α2) (x3:α3) (x4:α4) (x5:α5) (x6:α6) (x7:α7) (x8:α8) (x9:α9) (_:p x1 x2 x3 x4 x5 x6 x7 x8 x9)
inductive XO{α1:Sort u1}{α2:Sort u2}{α3:Sort u3}{α4:Sort u4}{α5:Sort u5}{α6:Sort u6}{α7:Sort u7}{α8:Sort u8}{α9:Sort u9}{α10:Sort u10}{α11:Sort u11}{α12:Sort u12}{α13:Sort dz}{α14:Sort dA}{α15:Sort u15}(p:α1->α2->α3->α4->α5->α6->α7->α8->α9->α10->α11->α12->α13->α14->α15->Prop):Prop where
 | mk (x1:α1) (x2:α2) (x3:α3) (x4:α4) (x5:α5) (x6:α6) (x7:α7) (x8:α8) (x9:α9) (x10:α10) (x11:α11) (x12:α12) (x13:α13) (x14:α14) (x15:α15) (_:p x1 x2 x3 x4 x5 x6 x7 x8 x9 x10 x11 x12 x13 x14 x15)
inductive Cc(p1 p2 p3:Prop):Prop where
 | mk (_:p1) (_:p2) (_:p3)
inductive Hw(p1 p2 p3 p4:Prop):Prop where
 | mk (_:p1) (_:p2) (_:p3) (_:p4)
inductive Fs(p1 p2 p3 p4 p5:Prop):Prop where
 | mk (_:p1) (_:p2) (_:p3) (_:p4) (_:p5)
inductive TB(p1 p2 p3 p4 p5 p6:Prop):Prop where
 | mk (_:p1) (_:p2) (_:p3) (_:p4) (_:p5) (_:p6)
inductive U9(p1 p2 p3 p4 p5 p6 p7:Prop):Prop where
 | mk (_:p1) (_:p2) (_:p3) (_:p4) (_:p5) (_:p6) (_:p7)
inductive Xu(p1 p2 p3 p4 p5 p6 p7 p8 p9:Prop):Prop where
 | mk (_:p1) (_:p2) (_:p3) (_:p4) (_:p5) (_:p6) (_:p7) (_:p8) (_:p9)
inductive Vh(p1 p2 p3 p4 p5 p6 p7 p8 p9 p10:Prop):Prop where
 | mk (_:p1) (_:p2) (_:p3) (_:p4) (_:p5) (_:p6) (_:p7) (_:p8) (_:p9) (_:p10)
inductive XM(p1 p2 p3 p4 p5 p6 p7 p8 p9 p10 p11:Prop):Prop where
 | mk (_:p1) (_:p2) (_:p3) (_:p4) (_:p5) (_:p6) (_:p7) (_:p8) (_:p9) (_:p10) (_:p11)
namespace L2
open PySem PySem.Spec PyProof.Rows
abbrev Jr:=Sum Int Str
def Uy:Jr->Value->Bool
 | .inl k,v=>Value.isInt k v
 | .inr x,v=>Value.isStrOf x v
def Xz(w:World):Jr->Int
 | .inl k=>hashInt k
 | .inr x=>hashStr w x
theorem Be:∀{k:Jr}{v:Value},Uy k v=true->(BF fun i t=>k=Sum.inl i/\v=Value.int i t)\/(BF fun x t=>k=Sum.inr x/\v=Value.str x t)
 | .inl i,v,h=>by
  obtain⟨t,e⟩:=Value.isInt_shape (k:=i) (v:=v) h
  exact .inl ⟨i,t,rfl,e⟩
 | .inr x,v,h=>by
  obtain⟨t,e⟩:=Value.isStrOf_shape (x:=x) (v:=v) h
  exact .inr ⟨x,t,rfl,e⟩
theorem VL(a b:Int):decide ((Sum.inl a:Jr)=Sum.inl b)=(a == b):=by
 by_cases e:a=b
 ·subst e;simp
 ·have h:¬(Sum.inl a:Jr)=Sum.inl b:=fun q=>e (Sum.inl.inj q)
  rw[decide_eq_false h]
  exact (beq_eq_false_iff_ne.mpr e).symm
theorem VR(a b:Str):decide ((Sum.inr a:Jr)=Sum.inr b)=decide (a=b):=by
 by_cases e:a=b
 ·subst e;simp
 ·have h:¬(Sum.inr a:Jr)=Sum.inr b:=fun q=>e (Sum.inr.inj q)
  rw[decide_eq_false h,decide_eq_false e]
theorem Vy(a:Int)(b:Str):decide ((Sum.inl a:Jr)=Sum.inr b)=false:=decide_eq_false (fun q=>nomatch q)
theorem Vc(a:Str)(b:Int):decide ((Sum.inr a:Jr)=Sum.inl b)=false:=decide_eq_false (fun q=>nomatch q)
def Ja(prog:Program)(w:World):PySem.KeyKind prog w Jr where
 is:=Uy
 hash:=Xz w
 inj:=fun v a b ha hb=>by
  rcases Be ha with⟨i,t,rfl,rfl⟩|⟨x,t,rfl,rfl⟩
  ·rcases Be hb with⟨j,u,rfl,e⟩|⟨y,u,rfl,e⟩
   ·injection e with e1 _;rw[e1]
   ·exact nomatch e
  ·rcases Be hb with⟨j,u,rfl,e⟩|⟨y,u,rfl,e⟩
   ·exact nomatch e
   ·injection e with e1 _;rw[e1]
 byValue:=fun k v h=>by
  rcases Be h with⟨i,t,rfl,rfl⟩|⟨x,t,rfl,rfl⟩<;>rfl
 pyHash:=fun hv h=>by
  rcases Be hv with⟨i,t,rfl,rfl⟩|⟨x,t,rfl,rfl⟩
  ·exact wpAny_pyHash_int h
  ·exact wpAny_pyHash_str h
 eqBool:=fun hu hv h=>by
  rcases Be hu with⟨i,t,rfl,rfl⟩|⟨x,t,rfl,rfl⟩
  ·rcases Be hv with⟨j,u,rfl,rfl⟩|⟨y,u,rfl,rfl⟩
   ·rw[VL] at h;exact wpAny_eqBool_int h
   ·rw[Vy] at h;exact SeqAt.EqAt.int_str i t y u _ _ _ _ h
  ·rcases Be hv with⟨j,u,rfl,rfl⟩|⟨y,u,rfl,rfl⟩
   ·rw[Vc] at h;exact SeqAt.EqAt.str_int x t j u _ _ _ _ h
   ·rw[VR] at h;exact wpAny_eqBool_str h
 «strs»:=fun k x t v h=>by
  rcases Be h with⟨i,u,rfl,e⟩|⟨y,u,rfl,e⟩
  ·exact nomatch e
  ·injection e with e1 _
   subst e1
   cases v<;>rfl
end L2
namespace L2
open PySem PySem.Spec PyProof.Rows
inductive V where
 | non | bl (b:Bool) | int (i:Int) | str (x:Str) | byt (b:Array UInt8) | flt (b:UInt64) | ref (a:Addr) | ty (n:String)
 deriving DecidableEq
def RelV:V->Value->Prop
 | .non,u=>u=Value.none
 | .bl b,u=>u=Value.bool b
 | .int i,u=>∃t,u=Value.int i t
 | .str x,u=>∃t,u=Value.str x t
 | .byt b,u=>∃t,u=Value.bytes b t
 | .flt b,u=>∃t,u=Value.float b t
 | .ref a,u=>u=Value.ref a
 | .ty n,u=>u=Value.type n
abbrev Vals:List V->List Value->Prop:=Paired RelV
theorem Vals.length(r:Vals xs us):xs.length=us.length:=zA1 r
theorem Vals.get:∀{xs:List V}{us:List Value}{i:Nat}{x:V},Vals xs us->xs[i]? = some x->∃u,us[i]? = some u/\RelV x u
 | _,_,_,_,.nil,e=>by simp at e
 | _,_,0,_,.cons r _,e=>by simp at e;subst e;exact⟨_,rfl,r⟩
 | _,_,i+1,x,.cons _ t,e=>by
  obtain⟨u,h1,h2⟩:=Vals.get (i:=i) (x:=x) t (by simpa using e)
  exact⟨u,by simpa using h1,h2⟩
theorem Vals.append:∀{xs ys:List V}{us ws:List Value},Vals xs us->Vals ys ws->Vals (xs++ys) (us++ws)
 | _,_,_,_,.nil,s=>s
 | _,_,_,_,.cons r t,s=>.cons r (Vals.append t s)
theorem Vals.take:∀{xs:List V}{us:List Value}(n:Nat),Vals xs us->Vals (xs.take n) (us.take n)
 | _,_,0,_=>.nil
 | _,_,_+1,.nil=>.nil
 | _,_,n+1,.cons r t=>.cons r (Vals.take n t)
theorem Vals.drop:∀{xs:List V}{us:List Value}(n:Nat),Vals xs us->Vals (xs.drop n) (us.drop n)
 | _,_,0,r=>r
 | _,_,_+1,.nil=>.nil
 | _,_,n+1,.cons _ t=>Vals.drop n t
def RelO:Option V->Option Value->Prop
 | some v,some u=>RelV v u
 | none,none=>True
 | _,_=>False
def KV{κ:Type}:List (κ×V)->List (κ×Value)->Prop:=Paired fun(p:κ×V)(q:κ×Value)=>p.1=q.1/\RelV p.2 q.2
def kV:Jr->V
 | .inl i=>.int i
 | .inr x=>.str x
inductive HO where
 | lst (xs:List V)
 | tup (xs:List V)
 | dK (aQ:List (Jr×V)) | dT (aQ:List (List Jr×V))
 | set (S:Int->Bool) (n:Nat)
 | ins (C dx:Addr) (fs:List (Str×V))
 | own (x:Addr)
 | xd (fs:List (Str×V))
 | met (f x:Addr)
 | rng (lo hi:Int)
 | frz (o:Obj) (u:HO)
 | tbl (ps:Array Value)
 | ext (φ:Heap->Prop)
abbrev Hp:=Addr->Option HO
def upd(H:Hp)(a:Addr)(o:HO):Hp:=fun b=>if b=a then some o else H b
theorem upd_same:upd H a o a=some o:=by unfold upd;rw[if_pos rfl]
theorem Al(h:b≠a):upd H a o b=H b:=by unfold upd;rw[if_neg h]
theorem CI{H:Hp}{a b:Addr}{o u:HO}(h:H a=some o)(h':H b=some u)(d:o≠u):a≠b:=by
 intro e;subst e;rw[h] at h';exact d (zAE h')
theorem Ah{H:Hp}{a b:Addr}{o:HO}(h:H a=some o)(h':H b=none):a≠b:=by
 intro e;subst e;rw[h] at h';cases h'
section
variable (P:Program)(w:World)
def ObjOk(H:Hp)(h:Heap)(a:Addr):HO->Prop
 | .lst xs=>xs.length<=sizeLine/\BF fun(its:List Value)(n:Nat)=>Vals xs its/\h.get? a=some { cls:=.type "list",data:=.seq its.toArray n }
 | .tup xs=>xs.length<=sizeLine/\∃its:List Value,Vals xs its/\IsTup h a its.toArray
 | .dK aQ=>aQ.length<=sizeLine/\(a == sysModules)=false/\∃vs,KV aQ vs/\h.DictOf (Ja P w) a vs
 | .dT aQ=>aQ.length<=sizeLine/\(a == sysModules)=false/\∃xs:List (List Jr×Addr×Value),
   Paired (fun(p:List Jr×V)(q:List Jr×Addr×Value)=>p.1=q.1/\H q.2.1=some (.tup (p.1.map kV))/\RelV p.2 q.2.2) aQ xs/\
   D0 fun o es ep=>Fs (h.get? a=some o) (o.ExactDict) (o.data= .dict es ep) (es.toList=xs.map (entryOfKey (tupleKind (Ja P w)))) ((xs.map (·.1)).Nodup)
 | .set S n=>h.SetOf (intKind P w) a S n
 | .ins C dx fs=>H dx=some (.own a)/\fs.length<=1000/\dx≠a/\h.get? a=some (PySem.W.instObj C dx)/\
   ∃mA,Cc (h.Ns1 dx mA) (∀f,RelO (fs.lookup f) (mA f)) (PySem.Within mA (fs.map (·.1)))
 | .own _=>∃o,h.get? a=some o
 | .xd fs=>∃mA,h.Ns1 a mA/\∀f,RelO (fs.lookup f) (mA f)
 | .rng lo hi=>D0 fun t u v=>h.get? a=some { cls:=.type "range",data:=.fields #[.int lo t,.int hi u,.int 1 v] }
 | .frz o u=>h.get? a=some o/\ObjOk H h a u
 | .tbl ps=>h.get? a=some { cls:=.none,data:=.fields ps }
 | .met f x=>h.get? a=some (PySem.W.methodObj (.ref f) (.ref x))
 | .ext φ=>φ h/\(∃o,h.get? a=some o)/\∀h1 h2:Heap,φ h1->(∀o,h1.get? a=some o->h2.get? a=some o)->φ h2
def HOk(H:Hp)(h:Heap):Prop:=∀a o,H a=some o->ObjOk P w H h a o
end
section
variable {P:Program}{w:World}{H H':Hp}{h h':Heap}{a:Addr}{o:HO}
theorem ObjOk.lt(x:ObjOk P w H h a o):a<h.objs.size:=by
 cases o with
 | lst xs=>obtain⟨_,_,_,_,e⟩:=x;exact zAD e
 | tup xs=>obtain⟨_,_,_,p⟩:=x;exact p.lt
 | dK aQ=>obtain⟨_,_,_,_,o,_,_,e,_⟩:=x;exact zAD e
 | dT aQ=>obtain⟨_,_,_,_,o,_,_,e,_⟩:=x;exact zAD e
 | set S n=>obtain⟨o,_,_,_,e,_⟩:=x;exact zAD e
 | ins C dx fs=>obtain⟨_,_,_,e,_⟩:=x;exact zAD e
 | own y=>obtain⟨_,e⟩:=x;exact zAD e
 | xd fs=>obtain⟨_,⟨_,_,_,e,_⟩,_⟩:=x;exact zAD e
 | rng lo hi=>obtain⟨_,_,_,e⟩:=x;exact zAD e
 | frz ob u=>obtain⟨e,_⟩:=x;exact zAD e
 | tbl ps=>exact zAD (show h.get? a=some _ from x)
 | met f y=>exact zAD (show h.get? a=some _ from x)
 | ext φ=>obtain⟨_,⟨_,e⟩,_⟩:=x;exact zAD e
theorem Paired.mapP{α β:Type}{F G:α->β->Prop}:∀{l₁:List α}{l₂:List β},Paired F l₁ l₂->(∀a b,F a b->G a b)->Paired G l₁ l₂
 | _,_,.nil,_=>.nil
 | _,_,.cons r t,f=>.cons (f _ _ r) (Paired.mapP t f)
theorem ObjOk.stay(x:ObjOk P w H h a o)(k:∀b u,(b=a\/H b=some (.own a))->h.get? b=some u->h'.get? b=some u)(ho:∀b,H b=some (.own a)->H' b=some (.own a))(ht:∀b xs,H b=some (.tup xs)->H' b=some (.tup xs)):ObjOk P w H' h' a o:=by
 induction o with
 | lst xs=>obtain⟨z,its,n,r,e⟩:=x;exact⟨z,its,n,r,k _ _ (.inl rfl) e⟩
 | tup xs=>obtain⟨z,its,r,ob,e,c⟩:=x;exact⟨z,its,r,ob,k _ _ (.inl rfl) e,c⟩
 | dK aQ=>obtain⟨z,y,vs,r,ob,es,ep,e,c⟩:=x;exact⟨z,y,vs,r,ob,es,ep,k _ _ (.inl rfl) e,c⟩
 | dT aQ=>
  obtain⟨z,y,xs,r,ob,es,ep,e,c1,c2,c3,c4⟩:=x
  exact⟨z,y,xs,Paired.mapP r fun p q z=>⟨z.1,ht _ _ z.2.1,z.2.2⟩,ob,es,ep,k _ _ (.inl rfl) e,c1,c2,c3,c4⟩
 | set S n=>obtain⟨ob,es,ep,t,e,c⟩:=x;exact⟨ob,es,ep,t,k _ _ (.inl rfl) e,c⟩
 | ins C dx fs=>
  obtain⟨d,z,ne,e,mA,⟨od,es,ep,e2,c⟩,r,r2⟩:=x
  exact⟨ho _ d,z,ne,k _ _ (.inl rfl) e,mA,⟨od,es,ep,k _ _ (.inr d) e2,c⟩,r,r2⟩
 | own y=>obtain⟨ob,e⟩:=x;exact⟨ob,k _ _ (.inl rfl) e⟩
 | xd fs=>obtain⟨mA,⟨od,es,ep,e,c⟩,r⟩:=x;exact⟨mA,⟨od,es,ep,k _ _ (.inl rfl) e,c⟩,r⟩
 | rng lo hi=>obtain⟨t,u,v,e⟩:=x;exact⟨t,u,v,k _ _ (.inl rfl) e⟩
 | frz ob u ih=>obtain⟨e,q⟩:=x;exact⟨k _ _ (.inl rfl) e,ih q⟩
 | tbl ps=>
  have e:h.get? a=some { cls:=.none,data:=.fields ps }:=x
  show h'.get? a=some { cls:=.none,data:=.fields ps }
  exact k a _ (.inl rfl) e
 | met f y=>
  have e:h.get? a=some (PySem.W.methodObj (.ref f) (.ref y)):=x
  show h'.get? a=some (PySem.W.methodObj (.ref f) (.ref y))
  exact k a _ (.inl rfl) e
 | ext φ=>obtain⟨p,⟨o,e⟩,st⟩:=x;exact⟨st _ _ p fun o q=>k _ _ (.inl rfl) q,⟨o,k _ _ (.inl rfl) e⟩,st⟩
theorem HOk.lt(x:HOk P w H h)(e:H a=some o):a<h.objs.size:=(x a o e).lt
theorem HOk.fresh(x:HOk P w H h)(e:h.objs.size<=a):H a=none:=by
 cases q:H a with
 | none=>rfl
 | some u=>exact absurd (zAL (x.lt q) e) (zB4 _)
theorem HOk.kept(x:HOk P w H h)(k:∀b u,h.get? b=some u->h'.get? b=some u):HOk P w H h':=fun a o e=>
 (x a o e).stay (fun b u _ q=>k b u q) (fun _ q=>q) fun _ _ q=>q
theorem HOk.laid(x:HOk P w H h)(k:∀b u,h.get? b=some u->h'.get? b=some u)(hp:h.objs.size<=a)(new:ObjOk P w (upd H a o) h' a o):HOk P w (upd H a o) h':=fun b u e=>by
 have hn:=x.fresh hp
 by_cases hb:b=a
 ·subst hb;rw[upd_same] at e;cases e;exact new
 ·rw[Al hb] at e
  exact (x b u e).stay (fun c v _ q=>k c v q) (fun c q=>by rw[Al (Ah q hn)];exact q) fun c xs q=>by rw[Al (Ah q hn)];exact q
end
def Rd(H:Hp)(a:Addr)(u:HO):Prop:=H a=some u\/∃o,H a=some (.frz o u)
theorem Rd.ok(r:Rd H a u)(x:HOk P w H h):ObjOk P w H h a u:=by
 rcases r with r | ⟨o,r⟩
 ·exact x a u r
 ·obtain⟨_,q⟩:=x a _ r
  exact q
def We:Option HO->Prop
 | some (.lst _)=>True
 | some (.dK _)=>True
 | some (.dT _)=>True
 | some (.set _ _)=>True
 | some (.ins _ _ _)=>True
 | some (.ext _)=>True
 | _=>False
section
variable {P:Program}{w:World}{H:Hp}{h h':Heap}{x e:Addr}{o':HO}
theorem HOk.write(ok:HOk P w H h)(mu:We (H x))(he:e=x\/H e=some (.own x))(k:∀b u,b≠e->h.get? b=some u->h'.get? b=some u)(heo:∃u,h'.get? e=some u)(new:ObjOk P w (upd H x o') h' x o'):HOk P w (upd H x o') h':=fun b u q=>by
 have nown:∀c y,H c=some (.own y)->c≠x:=fun c y r z=>by subst z;rw[r] at mu;exact mu
 have ntup:∀c xs,H c=some (.tup xs)->c≠x:=fun c xs r z=>by subst z;rw[r] at mu;exact mu
 by_cases hb:b=x
 ·subst hb;rw[upd_same] at q;cases q;exact new
 ·rw[Al hb] at q
  by_cases hbe:b=e
  ·have q':H b=some (.own x):=by
    rcases he with z | z
    ·exact absurd (hbe.trans z) hb
    ·rw[hbe];exact z
   rw[q] at q';cases q'
   obtain⟨v,hv⟩:=heo
   exact⟨v,by rw[hbe];exact hv⟩
  ·refine (ok b u q).stay (fun c v hc r=>k c v ?_ r) (fun c r=>by rw[Al (nown c b r)];exact r) fun c xs r=>by rw[Al (ntup c xs r)];exact r
   rcases hc with rfl | hc
   ·exact hbe
   ·rintro rfl
    rcases he with z | z
    ·exact nown c b hc z
    ·rw[hc] at z;cases z;exact hb rfl
end
structure Un(fs ex:List Addr)(H H':Hp)(h h':Heap):Prop where
 keep:∀b o,h.get? b=some o->H b=none->b∉fs->b∉ex->h'.get? b=some o
 slot:∀b o,h.get? b=some o->H b=none->b∈fs->b∉ex->∃sl,h'.get? b=some { o with slots:=sl }
 free:∀b o,h.get? b=some o->H b=none->b∉ex->H' b=none
 there:∀b o,h.get? b=some o->b∉ex->∃o',h'.get? b=some o'
 tups:∀b xs,H b=some (.tup xs)->H' b=some (.tup xs)
 frzs:∀b o u,H b=some (.frz o u)->H' b=some (.frz o u)
 tbls:∀b ps,H b=some (.tbl ps)->∃more,H' b=some (.tbl (ps++more))
section
variable {fs fs' ex ex':List Addr}{H H1 H2:Hp}{h h1 h2 h':Heap}{a x e:Addr}{o:HO}
theorem Un.any(u:Un fs ex H H1 h h1)(q:h.get? b=some ob)(n:H b=none)(hx:b∉ex):∃sl,h1.get? b=some { ob with slots:=sl }:=by
 by_cases hb:b∈fs
 ·exact u.slot b ob q n hb hx
 ·exact⟨ob.slots,u.keep b ob q n hb hx⟩
theorem Un.kept(k:∀b u,h.get? b=some u->h'.get? b=some u):Un fs ex H H h h':=
 ⟨fun b ob q _ _ _=>k b ob q,fun b ob q _ _ _=>⟨ob.slots,k b ob q⟩,fun _ _ _ n _=>n,fun b ob q _=>⟨ob,k b ob q⟩,fun _ _ q=>q,fun _ _ _ q=>q,fun _ ps q=>⟨#[],by rw[q];simp⟩⟩
theorem Un.refl:Un fs ex H H h h:=Un.kept fun _ _ q=>q
theorem Un.laid(k:∀b u,h.get? b=some u->h'.get? b=some u)(hp:h.objs.size<=a)(hn:H a=none):Un fs ex H (upd H a o) h h' where
 keep:=fun b u q _ _ _=>k b u q
 slot:=fun b u q _ _ _=>⟨u.slots,k b u q⟩
 free:=fun b u q n _=>by rw[Al (zAH (zAL (zAD q) hp))];exact n
 there:=fun b u q _=>⟨u,k b u q⟩
 tups:=fun b xs q=>by rw[Al (Ah q hn)];exact q
 frzs:=fun b u xs q=>by rw[Al (Ah q hn)];exact q
 tbls:=fun b ps q=>⟨#[],by rw[Al (Ah q hn),q];simp⟩
theorem Un.write(mu:We (H x))(he:e=x\/H e=some (.own x))(k:∀b u,b≠e->h.get? b=some u->h'.get? b=some u)(heo:∃u,h'.get? e=some u):Un fs ex H (upd H x o) h h':=by
 have hx:∀b,H b=none->b≠x:=fun b n z=>by subst z;rw[n] at mu;exact mu
 have hb:∀b,H b=none->b≠e:=fun b n z=>by
  subst z
  rcases he with r | r
  ·exact hx b n r
  ·rw[n] at r;cases r
 have hm:∀b u,H b=some u->¬We (some u)->b≠x:=fun b u q nm z=>by subst z;rw[q] at mu;exact nm mu
 refine⟨fun b u q n _ _=>k b u (hb b n) q,fun b u q n _ _=>⟨u.slots,k b u (hb b n) q⟩,fun b u q n _=>by rw[Al (hx b n)];exact n,fun b u q _=>?_,
  fun b xs q=>by rw[Al (hm b _ q fun z=>z)];exact q,fun b u xs q=>by rw[Al (hm b _ q fun z=>z)];exact q,fun b ps q=>⟨#[],by rw[Al (hm b _ q fun z=>z),q];simp⟩⟩
 by_cases hbe:b=e
 ·subst hbe;exact heo
 ·exact⟨u,k b u hbe q⟩
theorem Un.mono(u:Un fs ex H H1 h h1)(hs:∀b∈fs,b∈fs')(hx:∀b∈ex,b∈ex'):Un fs' ex' H H1 h h1:=
 ⟨fun b ob q n hb he=>u.keep b ob q n (fun z=>hb (hs b z)) fun z=>he (hx b z),fun _ _ q n _ he=>u.any q n fun z=>he (hx _ z),fun b ob q n he=>u.free b ob q n fun z=>he (hx b z),fun b ob q he=>u.there b ob q fun z=>he (hx b z),u.tups,u.frzs,u.tbls⟩
end
def Xk(h:Heap)(H:Hp):List Addr:=(List.range h.objs.size).filter fun a=>(H a).isSome
def IP(h:Heap)(H:Hp):Heap:=PySem.W.hideAll h (Xk h H)
theorem Oh(h:Heap)(H:Hp):(IP h H).objs.size=h.objs.size:=PySem.W.hideAll_size _ _
theorem Pl(e:h.get? b=some o)(n:H b=none):(IP h H).get? b=some o:=
 PySem.W.hideAll_get _ e fun hm=>by
  have q:(H b).isSome=true:=(List.mem_filter.mp hm).2
  rw[n] at q;simp at q
theorem To(e:(IP h H).get? b=some o):h.get? b=some o/\H b=none:=by
 have e':h.get? b=some o:=PySem.W.of_hideAll (Xk h H) e
 refine⟨e',?_⟩
 cases q:H b with
 | none=>rfl
 | some x=>
  have hm:b∈Xk h H:=List.mem_filter.mpr ⟨List.mem_range.mpr (zAD e'),by simp[q]⟩
  have z:(IP h H).get? b=none:=PySem.W.hideAll_none (Xk h H) hm
  rw[z] at e;cases e
end L2
namespace L2
open PySem PySem.Spec PyProof.Rows
structure Mod(K:PySem.W.Frag)(mg:Str->Option Value)(base:Heap):Prop where
 kin:K.In base
 glob:base.Ns mainGlobals mg
 blt:∃mb,base.Ns builtinsNs mb/\∀x:Str,x≠"__name__"->mb x=bootBuiltins x
 nolimit:base.NoLimit
structure Cx where
 prog:Program
 w:World
 K:PySem.W.Frag
 mg:Str->Option Value
 base:Heap
 A:Around
 N:List Str
 s₀:Shared
 H₀:Hp
 env:Env
 outer:List Env
 stack:List Env
 ex:List Addr
 fn:Str->Bool
 calm:Bool
 pn:List (Addr×Obj)
 xe:Value->Shared->Prop
def Gn(l:List Env):List Addr:=l.filterMap (·.frame)
abbrev Cx.fs(X:Cx):List Addr:=Gn X.outer
def XG(sc:Scope)(x:Str):Prop:=sc.names.lookup x=some .local\/sc.names.lookup x=some .cell\/sc.names.lookup x=some .free
def So(sc:Scope)(x:Str):Prop:=sc.names.lookup x=some .local\/sc.names.lookup x=some .cell
def XD(env:Env)(h:Heap)(m:Str->Option Value)(x:Str)(u:Value):Prop:=
 (env.kindOf x=some .local/\m x=some u)\/((env.kindOf x=some .cell\/env.kindOf x=some .free)/\∃c,env.cells.lookup x=some c/\h.IsCell c (some u))
structure Cx.Ok(X:Cx):Prop where
 mod:Mod X.K X.mg X.base
 kind:X.env.scope.kind= .function
 glob:X.env.globals=mainGlobals
 blt:X.env.builtins=builtinsNs
 above:X.s₀.heap.objs.size<=X.env.locals
 inj:∀x y c,X.env.cells.lookup x=some c->X.env.cells.lookup y=some c->x=y
 has:∀x,(X.env.kindOf x=some .cell\/X.env.kindOf x=some .free)->∃c,X.env.cells.lookup x=some c
 cab:∀x c,X.fn x=true->X.env.cells.lookup x=some c->X.s₀.heap.objs.size<=c
 hd:X.calm=true->X.A.handled=none
 frames:X.A.frames=some X.stack
 stk:X.stack=X.outer\/(X.stack=X.env::X.outer/\X.env.frame=some X.env.locals)
 exf:∀b∈X.ex,b≠X.env.locals/\∀x c,X.env.cells.lookup x=some c->c≠b
 bs:∀b o,X.base.get? b=some o->X.s₀.heap.get? b=some o/\X.H₀ b=none
 bsz:X.base.objs.size<=X.s₀.heap.objs.size
 noex:∀b o,X.base.get? b=some o->b∉X.ex
 exfs:∀b∈X.ex,b∉X.fs
 funs:X.s₀.heap.FunFrames X.base X.outer
 frf:∀b∈X.fs,X.H₀ b=none
structure Inv(X:Cx)(pins:List (Addr×Obj))(σ:List (Option V))(H:Hp)(s:Shared):Prop where
 ok:X.Ok
 os:s.os=X.s₀.os
 bare:AllBare s.gens
 base:Un X.fs X.ex X.H₀ H X.s₀.heap s.heap
 loc:∃m,s.heap.Ns X.env.locals m/\∀(i:Nat)(x:Str)(v:V),X.N[i]? = some x->σ[i]? = some (some v)->XG X.env.scope x->∃u,RelV v u/\XD X.env s.heap m x u
 cell:∀x c,X.env.cells.lookup x=some c->∃v,s.heap.IsCell c v
 free:H X.env.locals=none
 freeC:∀x c,X.env.cells.lookup x=some c->H c=none
 pin:∀p∈X.pn++pins,s.heap.get? p.1=some p.2/\H p.1=none/\p.1≠X.env.locals/\p.1∉X.fs/\∀v,p.2.data≠.cell v
 hok:HOk X.prog X.w H s.heap
 len:σ.length=X.N.length
section
variable {X:Cx}{pins:List (Addr×Obj)}{σ:List (Option V)}{H H':Hp}{s:Shared}{h':Heap}
theorem Cx.Ok.nofr(ok:X.Ok)(e:X.base.get? b=some o):b∉X.fs:=fun hb=>by
 have:=(ok.funs.mem hb).1
 rw[e] at this;cases this
theorem Inv.bs(I:Inv X pins σ H s):∀b o,X.base.get? b=some o->s.heap.get? b=some o/\H b=none:=fun b o e=>
 ⟨I.base.keep b o (I.ok.bs b o e).1 (I.ok.bs b o e).2 (I.ok.nofr e) (I.ok.noex b o e),I.base.free b o (I.ok.bs b o e).1 (I.ok.bs b o e).2 (I.ok.noex b o e)⟩
theorem Inv.bk(I:Inv X pins σ H s):∀b o,X.base.get? b=some o->s.heap.get? b=some o:=fun b o e=>(I.bs b o e).1
theorem Inv.mod(I:Inv X pins σ H s):Mod X.K X.mg X.base:=I.ok.mod
theorem Inv.kIn(I:Inv X pins σ H s):X.K.In s.heap:=I.ok.mod.kin.keeps I.bk
theorem Inv.lt(I:Inv X pins σ H s):X.env.locals<s.heap.objs.size:=let ⟨_,hn,_⟩:=I.loc;hn.lt
theorem Inv.sz(I:Inv X pins σ H s):X.s₀.heap.objs.size<=s.heap.objs.size:=zAC I.ok.above (zAZ I.lt)
theorem Inv.nofs(I:Inv X pins σ H s)(h:s.heap.objs.size<=a):a∉X.fs:=fun hb=>by
 obtain⟨_,o,ho,_⟩:=I.ok.funs.mem hb
 exact absurd (zAL (zAD ho) (zAC I.sz h)) (zB4 _)
theorem Inv.cne(I:Inv X pins σ H s):∀x c,X.env.cells.lookup x=some c->c≠X.env.locals:=fun x c e z=>by
 obtain⟨v,o,ho,hd⟩:=I.cell x c e
 obtain⟨m,⟨o',es,ep,eA,hd',_⟩,_⟩:=I.loc
 rw[z,eA] at ho;cases ho;rw[hd'] at hd;cases hd
theorem Inv.funs(I:Inv X pins σ H s):s.heap.FunFrames X.base X.outer:=by
 have all:∀(l:List Env),(∀b∈Gn l,b∈X.fs)->X.s₀.heap.FunFrames X.base l->s.heap.FunFrames X.base l:=by
  intro l
  induction l with
  | nil=>intro _ _;trivial
  | cons env r ih=>
   intro hs hl
   obtain⟨hk,⟨L,o,hf,hn,ho,hd⟩,hr⟩:=hl
   have hL:L∈X.fs:=hs L (by unfold Gn;rw[List.filterMap_cons,hf];exact List.mem_cons_self)
   obtain⟨sl,e⟩:=I.base.slot L o ho (I.ok.frf L hL) hL fun z=>I.ok.exfs L z hL
   exact⟨hk,⟨L,_,hf,hn,e,hd⟩,ih (fun b hb=>hs b (by unfold Gn;rw[List.filterMap_cons,hf];exact List.mem_cons_of_mem _ hb)) hr⟩
 exact all X.outer (fun _ hb=>hb) I.ok.funs
theorem Inv.stack(I:Inv X pins σ H s):s.heap.FunFrames X.base X.stack:=by
 rcases I.ok.stk with e | ⟨e,hf⟩
 ·rw[e];exact I.funs
 ·rw[e]
  obtain⟨m,hn,_⟩:=I.loc
  refine .cons (by rw[I.ok.kind];decide) hf hn ?_ I.funs
  exact Heap.get?_none_of_le (zAC I.ok.bsz I.ok.above)
theorem Inv.stkSub(I:Inv X pins σ H s):∀b∈Gn X.stack,b∈X.env.locals::X.fs:=fun b hb=>by
 rcases I.ok.stk with e | ⟨e,hf⟩
 ·rw[e] at hb;exact List.mem_cons_of_mem _ hb
 ·rw[e] at hb
  unfold Gn at hb
  rw[List.filterMap_cons,hf] at hb
  exact hb
theorem Inv.stkFree(I:Inv X pins σ H s):∀b∈Gn X.stack,H b=none:=fun b hb=>by
 rcases List.mem_cons.mp (I.stkSub b hb) with e | hb
 ·rw[e];exact I.free
 ·obtain⟨_,o,ho,_⟩:=I.ok.funs.mem hb
  exact I.base.free b o ho (I.ok.frf b hb) fun z=>I.ok.exfs b z hb
theorem Inv.step{t':Nat}{ch:List Addr}(I:Inv X pins σ H s)(eP:∀b∈ch,(b∈X.ex\/X.s₀.heap.objs.size<=b)/\b≠X.env.locals/\(∀x c,X.env.cells.lookup x=some c->c≠b)/\∀p∈X.pn++pins,p.1≠b)(keep:∀b o,b≠X.env.locals->b∉X.fs->b∉ch->s.heap.get? b=some o->H b=none->h'.get? b=some o)(slot:∀b o,b≠X.env.locals->b∈X.fs->b∉ch->s.heap.get? b=some o->H b=none->∃sl,h'.get? b=some { o with slots:=sl })(free:∀b o,b∉ch->s.heap.get? b=some o->H b=none->H' b=none)(there:∀b o,b∉ch->s.heap.get? b=some o->∃o',h'.get? b=some o')(tups:∀b xs,H b=some (.tup xs)->H' b=some (.tup xs))(frzs:∀b o u,H b=some (.frz o u)->H' b=some (.frz o u))(tbls:∀b ps,H b=some (.tbl ps)->∃more,H' b=some (.tbl (ps++more)))(ns:∀m,s.heap.Ns X.env.locals m->h'.Ns X.env.locals m)(hok:HOk X.prog X.w H' h')(hg:AllBare g'):
  Inv X pins σ H' { s with heap:=h',gens:=g',drawn:=d',toks:=t' }:=by
 have neL:∀b o,X.s₀.heap.get? b=some o->b≠X.env.locals:=fun b o e=>zAH (zAL (zAD e) I.ok.above)
 have neC:∀b o,X.s₀.heap.get? b=some o->b∉X.ex->b∉ch:=fun b o e hx hb=>by
  rcases (eP b hb).1 with z | z
  ·exact hx z
  ·exact absurd (zAL (zAD e) z) (zB4 _)
 have gY:∀x c,X.env.cells.lookup x=some c->∀v,s.heap.IsCell c v->h'.IsCell c v:=fun x c e v ⟨o,ho,hd⟩=>by
  have nch:c∉ch:=fun z=>(eP c z).2.2.1 x c e rfl
  by_cases hc:c∈X.fs
  ·obtain⟨sl,q⟩:=slot c o (I.cne x c e) hc nch ho (I.freeC x c e)
   exact⟨_,q,hd⟩
  ·exact⟨o,keep c o (I.cne x c e) hc nch ho (I.freeC x c e),hd⟩
 refine⟨I.ok,I.os,hg,⟨fun b o e n hb hx=>?_,fun b o e n hb hx=>?_,fun b o e n hx=>?_,fun b o e hx=>?_,fun b xs e=>tups b xs (I.base.tups b xs e),fun b o xs e=>frzs b o xs (I.base.frzs b o xs e),fun b ps e=>?_⟩,?_,fun x c e=>?_,?_,fun x c e=>?_,fun p hp=>?_,hok,I.len⟩
 ·exact keep b o (neL b o e) hb (neC b o e hx) (I.base.keep b o e n hb hx) (I.base.free b o e n hx)
 ·obtain⟨sl,e1⟩:=I.base.slot b o e n hb hx
  obtain⟨sl',e2⟩:=slot b _ (neL b o e) hb (neC b o e hx) e1 (I.base.free b o e n hx)
  exact⟨sl',e2⟩
 ·obtain⟨o',e1⟩:=I.base.there b o e hx
  exact free b o' (neC b o e hx) e1 (I.base.free b o e n hx)
 ·obtain⟨o',e1⟩:=I.base.there b o e hx
  exact there b o' (neC b o e hx) e1
 ·obtain⟨m1,e1⟩:=I.base.tbls b ps e
  obtain⟨m2,e2⟩:=tbls b _ e1
  exact⟨m1++m2,by rw[e2,Array.append_assoc]⟩
 ·obtain⟨m,hn,hl⟩:=I.loc
  refine⟨m,ns m hn,fun i x v e1 e2 e3=>?_⟩
  obtain⟨u,r,l⟩:=hl i x v e1 e2 e3
  refine⟨u,r,?_⟩
  rcases l with l | ⟨k,c,e,z⟩
  ·exact .inl l
  ·exact .inr ⟨k,c,e,gY x c e _ z⟩
 ·obtain⟨v,z⟩:=I.cell x c e
  exact⟨v,gY x c e v z⟩
 ·obtain⟨m,⟨o,_,_,ho,_⟩,_⟩:=I.loc
  exact free _ o (fun z=>(eP _ z).2.1 rfl) ho I.free
 ·obtain⟨v,o,ho,hd⟩:=I.cell x c e
  exact free c o (fun z=>(eP c z).2.2.1 x c e rfl) ho (I.freeC x c e)
 ·obtain⟨e,n,ne,nf,d⟩:=I.pin p hp
  have nch:p.1∉ch:=fun z=>(eP p.1 z).2.2.2 p hp rfl
  exact⟨keep p.1 p.2 ne nf nch e n,free p.1 p.2 nch e n,ne,nf,d⟩
theorem Inv.un(I:Inv X pins σ H s)(u:Un X.fs [] H H' s.heap h')(hok:HOk X.prog X.w H' h'):Inv X pins σ H' { s with heap:=h',toks:=t' }:=by
 obtain⟨m,⟨o,es,ep,ho,r⟩,_⟩:=id I.loc
 obtain⟨sl,hL⟩:=u.any ho I.free (by simp)
 exact I.step (g':=s.gens) (d':=s.drawn) (ch:=[]) (fun _ z=>nomatch z) (fun b o _ hb _ e n=>u.keep b o e n hb (by simp)) (fun b o _ hb _ e n=>u.slot b o e n hb (by simp)) (fun b o _ e n=>u.free b o e n (by simp)) (fun b o _ e=>u.there b o e (by simp)) u.tups u.frzs u.tbls (fun m' hm=>by
  obtain⟨o',aB,ep',eA,r'⟩:=hm
  rw[ho] at eA;cases eA
  exact⟨_,aB,ep',hL,r'⟩) hok I.bare
theorem Inv.call(I:Inv X pins σ H s)(u:Un (Gn X.stack) ch H H' s.heap h')(hok:HOk X.prog X.w H' h')(hg:AllBare g')(eP:∀b∈ch,(b∈X.ex\/X.s₀.heap.objs.size<=b)/\b≠X.env.locals/\(∀x c,X.env.cells.lookup x=some c->c≠b)/\∀p∈X.pn++pins,p.1≠b):
  Inv X pins σ H' { s with heap:=h',gens:=g',drawn:=d',toks:=t' }:=by
 obtain⟨m,⟨o,es,ep,ho,r⟩,_⟩:=id I.loc
 obtain⟨sl,hL⟩:=u.any ho I.free fun z=>(eP _ z).2.1 rfl
 exact I.step (ch:=ch) eP (fun b o hL hb hc e n=>u.keep b o e n (fun z=>(List.mem_cons.mp (I.stkSub b z)).elim hL hb) hc) (fun b o _ _ hc e n=>u.any e n hc) (fun b o hc e n=>u.free b o e n hc) (fun b o hc e=>u.there b o e hc) u.tups u.frzs u.tbls (fun m' hm=>by
  obtain⟨o',aB,ep',eA,r'⟩:=hm
  rw[ho] at eA;cases eA
  exact⟨_,aB,ep',hL,r'⟩) hok hg
theorem Inv.turned(I:Inv X pins σ H s)(k:∀b o,b≠it->s.heap.get? b=some o->h'.get? b=some o)(hn:H it=none)(hL:it≠X.env.locals)(h1:it∈X.ex\/X.s₀.heap.objs.size<=it)(h2:∀x c,X.env.cells.lookup x=some c->c≠it)(h3:∀p∈X.pn++pins,p.1≠it):Inv X pins σ H { s with heap:=h',toks:=t' }:=by
 have nit:∀b u,H b=some u->b≠it:=fun b u e z=>by rw[z,hn] at e;cases e
 refine I.step (g':=s.gens) (d':=s.drawn) (ch:=[it]) (fun b hb=>?_) (fun b o _ _ hc e _=>k b o (fun z=>hc (by simp[z])) e) (fun b o _ _ hc e _=>⟨o.slots,k b o (fun z=>hc (by simp[z])) e⟩) (fun _ _ _ _ n=>n)
  (fun b o hc e=>⟨o,k b o (fun z=>hc (by simp[z])) e⟩) (fun _ _ e=>e) (fun _ _ _ e=>e) (fun b ps e=>⟨#[],by rw[e];simp⟩) (fun m hm=>?_) (fun b u e=>?_) I.bare
 ·have e:b=it:=by simpa using hb
  subst e
  exact⟨h1,hL,h2,h3⟩
 ·obtain⟨o,es,ep,ho,r⟩:=hm
  exact⟨o,es,ep,k _ o (zBD hL) ho,r⟩
 ·refine (I.hok b u e).stay (fun c v hc q=>k c v ?_ q) (fun _ q=>q) fun _ _ q=>q
  rcases hc with z | z
  ·rw[z];exact nit b u e
  ·exact nit c _ z
theorem Inv.tok(I:Inv X pins σ H s)(t:Nat):Inv X pins σ H { s with toks:=t }:=I.un (h':=s.heap) (t':=t) Un.refl I.hok
theorem Inv.kept(I:Inv X pins σ H s)(k:∀b u,s.heap.get? b=some u->h'.get? b=some u):Inv X pins σ H { s with heap:=h',toks:=t' }:=I.un (Un.kept k) (I.hok.kept k)
theorem Inv.laid(I:Inv X pins σ H s)(k:∀b u,s.heap.get? b=some u->h'.get? b=some u)(hp:s.heap.objs.size<=a)(new:ObjOk X.prog X.w (upd H a o) h' a o):
  Inv X pins σ (upd H a o) { s with heap:=h',toks:=t' }:=I.un (Un.laid k hp (I.hok.fresh hp)) (I.hok.laid k hp new)
theorem Inv.write(I:Inv X pins σ H s)(mu:We (H x))(he:e=x\/H e=some (.own x))(k:∀b u,b≠e->s.heap.get? b=some u->h'.get? b=some u)(heo:∃u,h'.get? e=some u)(new:ObjOk X.prog X.w (upd H x o) h' x o):Inv X pins σ (upd H x o) { s with heap:=h',toks:=t' }:=I.un (Un.write mu he k heo) (I.hok.write mu he k heo new)
theorem Inv.pins_of(I:Inv X pins σ H s)(h:∀p∈gZ,s.heap.get? p.1=some p.2/\H p.1=none/\p.1≠X.env.locals/\p.1∉X.fs/\∀v,p.2.data≠.cell v):Inv X gZ σ H s:=
 ⟨I.ok,I.os,I.bare,I.base,I.loc,I.cell,I.free,I.freeC,fun p hp=>(List.mem_append.mp hp).elim (fun z=>I.pin p (zB _ z)) (h p),I.hok,I.len⟩
theorem G1{N:List Str}(hN:N.Nodup){i j:Nat}{x:Str}(a:N[i]? = some x)(b:N[j]? = some x):i=j:=by
 obtain⟨h1,e1⟩:=List.getElem?_eq_some_iff.mp a
 obtain⟨h2,e2⟩:=List.getElem?_eq_some_iff.mp b
 exact (List.getElem_inj hN).mp (e1.trans e2.symm)
theorem HX(I:Inv X pins σ H s)(hN:X.N.Nodup)(hi:X.N[i]? = some x)(hx:So X.env.scope x)(r:RelV v u)(h:∀s',Inv X pins (σ.set i (some v)) H s'->(∃a,Heap.SameBut a s.heap s'.heap/\(a=X.env.locals\/X.env.cells.lookup x=some a))->Q () s')(hf:X.fn x=true\/X.env.scope.names.lookup x=some .local:=by first | exact .inl rfl | exact .inr rfl | assumption):wpAny M A (storeName X.env x u) Q E s:=by
 obtain⟨m,hn,hl⟩:=id I.loc
 have hcls:(X.env.scope.kind == .class || (X.env.scope.kind == .module && X.env.locals != X.env.globals))=false:=by rw[I.ok.kind];rfl
 have hiσ:i<σ.length:=by rw[I.len];exact (List.getElem?_eq_some_iff.mp hi).1
 have cne:=I.cne
 have dP:∀{a:Addr}{h':Heap},(∃o,s.heap.get? a=some o/\H a=none)->Heap.SameBut a s.heap h'->HOk X.prog X.w H h':=fun {a h'} ha hs b ob e=>by
  obtain⟨_,_,cY⟩:=ha
  refine (I.hok b ob e).stay (fun c w' hc q=>(hs.2 c ?_).trans q) (fun _ q=>q) fun _ _ q=>q
  rintro rfl
  rcases hc with rfl | hc
  ·rw[cY] at e;cases e
  ·rw[cY] at hc;cases hc
 rcases hx with hk | hk
 ·refine wpAny_storeName_local hk hn (fun h' hn' hs=>?_) hcls
  obtain⟨oL,_,_,hoL,_⟩:=id hn
  refine h _ ⟨I.ok,I.os,I.bare,⟨fun b o e n hb hx=>?_,fun b o e n hb hx=>?_,I.base.free,fun b o e hx=>?_,I.base.tups,I.base.frzs,I.base.tbls⟩,⟨_,hn',fun j y v' e1 e2 e3=>?_⟩,fun y c e=>?_,I.free,I.freeC,fun p hp=>?_,dP ⟨oL,hoL,I.free⟩ hs,by simpa using I.len⟩ ⟨_,hs,.inl rfl⟩
  ·exact (hs.2 b (zAH (zAL (zAD e) I.ok.above))).trans (I.base.keep b o e n hb hx)
  ·obtain⟨sl,e1⟩:=I.base.slot b o e n hb hx
   exact⟨sl,(hs.2 b (zAH (zAL (zAD e) I.ok.above))).trans e1⟩
  ·obtain⟨o',e1⟩:=I.base.there b o e hx
   exact⟨o',(hs.2 b (zAH (zAL (zAD e) I.ok.above))).trans e1⟩
  ·by_cases hj:j=i
   ·subst hj
    rw[hi] at e1;cases e1
    rw[List.getElem?_set_self hiσ] at e2
    cases e2
    exact⟨u,r,.inl ⟨hk,by simp⟩⟩
   ·rw[List.getElem?_set_ne (zBD hj)] at e2
    obtain⟨u',r',q⟩:=hl j y v' e1 e2 e3
    refine⟨u',r',?_⟩
    rcases q with⟨k,e⟩|⟨k,c,e,z⟩
    ·refine .inl ⟨k,?_⟩
     have:y≠x:=fun e=>hj (G1 hN e1 (e ▸ hi))
     simp[this,e]
    ·exact .inr ⟨k,c,e,z.sameBut hs (cne y c e)⟩
  ·obtain⟨w',z⟩:=I.cell y c e
   exact⟨w',z.sameBut hs (cne y c e)⟩
  ·obtain⟨e,n,ne,nf,d⟩:=I.pin p hp
   exact⟨(hs.2 p.1 ne).trans e,n,ne,nf,d⟩
 ·have hfn:X.fn x=true:=by
   rcases hf with z | z
   ·exact z
   ·rw[z] at hk;cases hk
  obtain⟨c,hc⟩:=I.ok.has x (.inl hk)
  obtain⟨w',z⟩:=I.cell x c hc
  refine wpAny_storeName_cell I.ok.kind hk hc z (fun h' hc' hs=>?_)
  obtain⟨oc,hoc,hocd⟩:=id z
  refine h { s with heap:=h' } ⟨I.ok,I.os,I.bare,⟨fun b o e n hb hx=>?_,fun b o e n hb hx=>?_,I.base.free,fun b o e hx=>?_,I.base.tups,I.base.frzs,I.base.tbls⟩,⟨m,hn.sameBut hs (zBD (cne x c hc)),fun j y v' e1 e2 e3=>?_⟩,fun y c' e=>?_,I.free,I.freeC,fun p hp=>?_,dP ⟨oc,hoc,I.freeC x c hc⟩ hs,by simpa using I.len⟩ ⟨c,hs,.inr hc⟩
  ·exact (hs.2 b (zAH (zAL (zAD e) (I.ok.cab x c hfn hc)))).trans (I.base.keep b o e n hb hx)
  ·obtain⟨sl,e1⟩:=I.base.slot b o e n hb hx
   exact⟨sl,(hs.2 b (zAH (zAL (zAD e) (I.ok.cab x c hfn hc)))).trans e1⟩
  ·obtain⟨o',e1⟩:=I.base.there b o e hx
   exact⟨o',(hs.2 b (zAH (zAL (zAD e) (I.ok.cab x c hfn hc)))).trans e1⟩
  ·by_cases hj:j=i
   ·subst hj
    rw[hi] at e1;cases e1
    rw[List.getElem?_set_self hiσ] at e2
    cases e2
    exact⟨u,r,.inr ⟨.inl hk,c,hc,hc'⟩⟩
   ·rw[List.getElem?_set_ne (zBD hj)] at e2
    obtain⟨u',r',q⟩:=hl j y v' e1 e2 e3
    refine⟨u',r',?_⟩
    rcases q with q | ⟨k,c',e,z'⟩
    ·exact .inl q
    ·refine .inr ⟨k,c',e,z'.sameBut hs ?_⟩
     rintro rfl
     exact hj (G1 hN e1 (I.ok.inj _ _ _ e hc ▸ hi))
  ·by_cases hcc:c'=c
   ·subst hcc;exact⟨_,hc'⟩
   ·obtain⟨w2,z2⟩:=I.cell y c' e
    exact⟨w2,z2.sameBut hs hcc⟩
  ·obtain⟨e,n,ne,nf,d⟩:=I.pin p hp
   refine⟨(hs.2 p.1 ?_).trans e,n,ne,nf,d⟩
   intro q
   rw[q,hoc] at e
   have q':oc=p.2:=zAE e
   exact d w' (by rw[<-q'];exact hocd)
theorem G9(I:Inv X pins σ H s)(hN:X.N.Nodup)(hi:X.N[i]? = some x)(hx:So X.env.scope x)(r:RelV v u)(h:∀s',Inv X pins (σ.set i (some v)) H s'->Q () s')(hf:X.fn x=true\/X.env.scope.names.lookup x=some .local:=by first | exact .inl rfl | exact .inr rfl | assumption):wpAny M A (storeName X.env x u) Q E s:=
 HX I hN hi hx r (fun s' I' _=>h s' I') hf
theorem Inv.call'(I:Inv X pins σ H s)(ho:s'.os=s.os)(u:Un (Gn X.stack) ch H H' s.heap s'.heap)(hok:HOk X.prog X.w H' s'.heap)(hg:AllBare s'.gens)(eP:∀b∈ch,(b∈X.ex\/X.s₀.heap.objs.size<=b)/\b≠X.env.locals/\(∀x c,X.env.cells.lookup x=some c->c≠b)/\∀p∈X.pn++pins,p.1≠b):Inv X pins σ H' s':=by
 obtain⟨h',g',d',t',o'⟩:=s'
 have e:o'=s.os:=ho
 subst e
 exact I.call (g':=g') (t':=t') (d':=d') u hok hg eP
end
abbrev XK:=Value->Option Addr->Hp->Prop
abbrev St:=List (Option V)
abbrev VK:=V->Hp->Prop
abbrev TE:=St->Hp->VK->Prop
abbrev TT:=St->Hp->(Bool->Hp->Prop)->Prop
abbrev TA:=St->Hp->(List V->Hp->Prop)->Prop
structure Ends where
 nx:St->Hp->Prop
 rt:VK
 bk:St->Hp->Prop:=fun _ _=>False
 ct:St->Hp->Prop:=fun _ _=>False
abbrev TS:=Ends->St->Hp->Prop
inductive EP(X:Cx)(pins:List (Addr×Obj))(σ:St)(Q:VK)(u:Value)(s':Shared):Prop where
 | mk (v H') (_:Inv X pins σ H' s') (_:RelV v u) (_:Q v H')
inductive TP(X:Cx)(pins:List (Addr×Obj))(σ:St)(Q:Bool->Hp->Prop)(b:Bool)(s':Shared):Prop where
 | mk (H') (_:Inv X pins σ H' s') (_:Q b H')
inductive AP(X:Cx)(pins:List (Addr×Obj))(σ:St)(Q:List V->Hp->Prop)(us:List Value)(s':Shared):Prop where
 | mk (vs H') (_:Inv X pins σ H' s') (_:Vals vs us) (_:Q vs H')
def SP(X:Cx)(pins:List (Addr×Obj))(D:Ends)(f:Flow)(s':Shared):Prop:=
 match f with
 | .next=>BF fun σ' H'=>Inv X pins σ' H' s'/\D.nx σ' H'
 | .brk=>BF fun σ' H'=>Inv X pins σ' H' s'/\D.bk σ' H'
 | .cont=>BF fun σ' H'=>Inv X pins σ' H' s'/\D.ct σ' H'
 | .ret u=>D0 fun v σ' H'=>Cc (Inv X pins σ' H' s') (RelV v u) (D.rt v H')
def PE(X:Cx)(e:Expr)(t:TE):Prop:=
 ∀(pins:List (Addr×Obj))(s:Shared)(σ:St)(H:Hp)(Q:VK),Inv X pins σ H s->t σ H Q->wpAny (model X.prog X.w) X.A (eval e X.env) (EP X pins σ Q) X.xe s
def PT(X:Cx)(e:Expr)(t:TT):Prop:=
 ∀(pins:List (Addr×Obj))(s:Shared)(σ:St)(H:Hp)(Q:Bool->Hp->Prop),Inv X pins σ H s->t σ H Q->wpAny (model X.prog X.w) X.A (isTrue e X.env (eval e X.env)) (TP X pins σ Q) X.xe s
def PW(X:Cx)(e:Expr)(t:TT):Prop:=
 ∀(bJ:Sem Value)(pins:List (Addr×Obj))(s:Shared)(σ:St)(H:Hp)(Q:Bool->Hp->Prop),Inv X pins σ H s->t σ H Q->wpAny (model X.prog X.w) X.A (isTrue e X.env bJ) (TP X pins σ Q) X.xe s
theorem PW.pt(h:PW X e t):PT X e t:=h _
def PA(X:Cx)(es:List Expr)(t:TA):Prop:=
 ∀(pos:Pos)(pins:List (Addr×Obj))(s:Shared)(σ:St)(H:Hp)(Q:List V->Hp->Prop),Inv X pins σ H s->t σ H Q->wpAny (model X.prog X.w) X.A (spliced (backTo pos (starEach es X.env))) (AP X pins σ Q) X.xe s
def PS(X:Cx)(st:Stmt)(t:TS):Prop:=
 ∀(pins:List (Addr×Obj))(s:Shared)(σ:St)(H:Hp)(D:Ends),Inv X pins σ H s->t D σ H->wpAny (model X.prog X.w) X.A (exec st X.env) (SP X pins D) X.xe s
def PSs(X:Cx)(st:List Stmt)(t:TS):Prop:=
 ∀(pins:List (Addr×Obj))(s:Shared)(σ:St)(H:Hp)(D:Ends),Inv X pins σ H s->t D σ H->wpAny (model X.prog X.w) X.A (execs st X.env) (SP X pins D) X.xe s
theorem AO{α:Type}{t:Sem α}{Q Q':α->Shared->Prop}(h:wpAny M A t Q E s)(hQ:∀a s,Q a s->Q' a s):wpAny M A t Q' E s:=wpAny_mono h hQ fun _ _ x=>x
end L2
namespace L2
open PySem PySem.Spec PyProof.Rows
section
variable {X:Cx}
def vB(k:Bool->Prop)(v:V):Prop:=V.rec (motive:=fun _=>Prop) False k (fun _=>False) (fun _=>False) (fun _=>False) (fun _=>False) (fun _=>False) (fun _=>False) v
def vI(k:Int->Prop)(v:V):Prop:=V.rec (motive:=fun _=>Prop) False (fun _=>False) k (fun _=>False) (fun _=>False) (fun _=>False) (fun _=>False) (fun _=>False) v
def vS(k:Str->Prop)(v:V):Prop:=V.rec (motive:=fun _=>Prop) False (fun _=>False) (fun _=>False) k (fun _=>False) (fun _=>False) (fun _=>False) (fun _=>False) v
def vR(k:Addr->Prop)(v:V):Prop:=V.rec (motive:=fun _=>Prop) False (fun _=>False) (fun _=>False) (fun _=>False) (fun _=>False) (fun _=>False) k (fun _=>False) v
def oV(k:V->Prop)(o:Option (Option V)):Prop:=Option.rec (motive:=fun _=>Prop) False (fun o=>Option.rec (motive:=fun _=>Prop) False k o) o
def l0(k:Prop)(vs:List V):Prop:=List.rec (motive:=fun _=>Prop) k (fun _ _ _=>False) vs
def lC(k:V->List V->Prop)(vs:List V):Prop:=List.rec (motive:=fun _=>Prop) False (fun v r _=>k v r) vs
def l1(k:V->Prop)(vs:List V):Prop:=lC (fun v r=>l0 (k v) r) vs
theorem Iv(h:vB k v):∃i,v= .bl i/\k i:=by cases v<;>first | exact⟨_,rfl,h⟩|exact False.elim h
theorem Ew(h:vI k v):∃i,v= .int i/\k i:=by cases v<;>first | exact⟨_,rfl,h⟩|exact False.elim h
theorem Us(h:vS k v):∃i,v= .str i/\k i:=by cases v<;>first | exact⟨_,rfl,h⟩|exact False.elim h
theorem CM(h:vR k v):∃i,v= .ref i/\k i:=by cases v<;>first | exact⟨_,rfl,h⟩|exact False.elim h
theorem WF(h:oV k o):∃v,o=some (some v)/\k v:=by
 cases o with
 | none=>exact False.elim h
 | some o=>
  cases o with
  | none=>exact False.elim h
  | some v=>exact⟨v,rfl,h⟩
theorem UN(h:l0 k vs):vs=[]/\k:=by
 cases vs with
 | nil=>exact⟨rfl,h⟩
 | cons v r=>exact False.elim h
theorem UE(h:lC k vs):BF fun v r=>vs=v::r/\k v r:=by
 cases vs with
 | nil=>exact False.elim h
 | cons v r=>exact⟨v,r,rfl,h⟩
theorem MK(h:l1 k vs):∃v,vs=[v]/\k v:=by
 obtain⟨v,r,rfl,h1⟩:=UE h
 obtain⟨rfl,h2⟩:=UN h1
 exact⟨v,rfl,h2⟩
inductive If(b:Bool)(A B:Prop):Prop where
 | tt (_:b=true) (_:A)
 | ff (_:b=false) (_:B)
theorem If.t{A B:Prop}:If true A B->A
 | .tt _ h=>h
theorem If.f{A B:Prop}:If false A B->B
 | .ff _ h=>h
def Hx(i:Nat):TE:=fun σ H Q=>oV (fun v=>Q v H) σ[i]?
def tC(v:V):TE:=fun _ H Q=>Q v H
theorem VN(hN:X.N[i]? = some x)(hv:XG X.env.scope x)(hd:(x == ("__debug__":Str))=false:=by decide)(cZ:(x == ("__classdict__":Str))=false:=by decide):PE X (.Name x pos) (Hx i):=by
 intro pins s σ H Q I h
 obtain⟨v,e,h⟩:=WF h
 obtain⟨m,hn,hl⟩:=I.loc
 obtain⟨u,r,l⟩:=hl i x v hN e hv
 have aJ:EP X pins σ Q u s:=⟨v,H,I,r,h⟩
 rcases l with⟨hk,hm⟩|⟨hk,c,hc,a9⟩
 ·exact wpAny_Name (wpAny_loadName_local I.ok.kind hk hn hm aJ) hd
 ·rcases hk with hk | hk
  ·exact wpAny_Name (wpAny_loadName_cell I.ok.kind hk hc a9 aJ) hd
  ·exact wpAny_Name (wpAny_loadName_free I.ok.kind hk hc a9 aJ cZ) hd
theorem Ad {i j pos}:PE X (.Constant (.int i) j pos) (tC (.int i)):=fun _ _ _ H _ I h=>wpAny_Constant_int ⟨.int i,H,I.tok _,⟨_,rfl⟩,h⟩
theorem BQ {b j pos}:PE X (.Constant (.bool b) j pos) (tC (.bl b)):=fun _ _ _ H _ I h=>Constant_bool ⟨.bl b,H,I,rfl,h⟩
theorem Dd {j pos}:PE X (.Constant .none j pos) (tC .non):=fun _ _ _ H _ I h=>Constant_none ⟨.non,H,I,rfl,h⟩
theorem Ae {x j pos}:PE X (.Constant (.str x) j pos) (tC (.str x)):=fun _ _ _ H _ I h=>Calls.Constant_str ⟨.str x,H,I.tok _,⟨_,rfl⟩,h⟩
def Gl(X:Cx)(x:Str):Prop:=X.env.kindOf x=some .globalImplicit
theorem C8(I:Inv X pins σ H s)(hg:Gl X x)(hm:X.mg x=some u)(h:Q u s)(hd:(x == ("__debug__":Str))=false:=by decide):wpAny (model X.prog X.w) X.A (eval (.Name x pos) X.env) Q E s:=
 Calls.Name_function_global I.ok.kind hg (Calls.loadGlobal_global (by rw[I.ok.glob];exact I.mod.glob.keeps I.bk) hm h) hd
theorem Ch(I:Inv X pins σ H s)(hg:Gl X x)(hm:X.mg x=none)(hv:bootBuiltins x=some u)(h:Q u s)(hn:x≠"__name__":=by decide)(hd:(x == ("__debug__":Str))=false:=by decide):wpAny (model X.prog X.w) X.A (eval (.Name x pos) X.env) Q E s:=by
 obtain⟨mb,h1,h2⟩:=I.mod.blt
 exact Calls.Name_function_global I.ok.kind hg (Calls.loadGlobal_builtin (by rw[I.ok.glob];exact I.mod.glob.keeps I.bk) hm (by rw[I.ok.blt];exact h1.keeps I.bk) ((h2 x hn).trans hv) h) hd
theorem BK(hg:Gl X x)(hm:X.mg x=some u)(r:RelV v u)(hd:(x == ("__debug__":Str))=false:=by decide):PE X (.Name x pos) (tC v):=
 fun _ _ _ H _ I h=>C8 I hg hm ⟨v,H,I,r,h⟩ hd
theorem Co(hg:Gl X x)(hm:X.mg x=none)(hv:bootBuiltins x=some u)(r:RelV v u)(hn:x≠"__name__":=by decide)(hd:(x == ("__debug__":Str))=false:=by decide):PE X (.Name x pos) (tC v):=
 fun _ _ _ H _ I h=>Ch I hg hm hv ⟨v,H,I,r,h⟩ hn hd
variable {a b:Expr}{ta tb:TE}{pos:Pos}
def PC(X:Cx)(op:CmpOp)(a b:Expr)(t:TE):Prop:=
 ∀(pins:List (Addr×Obj))(s:Shared)(σ:St)(H:Hp)(Q:VK),Inv X pins σ H s->t σ H Q->
  wpAny (model X.prog X.w) X.A (eval a X.env) (fun v s₁=>wpAny (model X.prog X.w) X.A (eval b X.env) (fun u s₂=>wpAny (model X.prog X.w) X.A (compareOp op v u) (EP X pins σ Q) X.xe s₂) X.xe s₁) X.xe s
theorem KG(b:Expr)(h:op≠.In)(h2:op≠.NotIn):behindInMarks op b=false:=by
 have e1:(op == CmpOp.In)=false:=by cases op<;>first | rfl | exact absurd rfl h
 have e2:(op == CmpOp.NotIn)=false:=by cases op<;>first | rfl | exact absurd rfl h2
 cases b<;>simp[behindInMarks,e1,e2]
def XQ(ta:TE):TE:=fun σ H Q=>ta σ H fun x H1=>Q (.bl (decide (x= .non))) H1
theorem RelV.none_iff(r:RelV x v):(v == Value.none)=decide (x= .non):=by
 cases x with
 | non=>cases r;rfl
 | bl _=>cases r;rfl
 | int _=>obtain⟨t,rfl⟩:=r;rfl
 | str _=>obtain⟨t,rfl⟩:=r;rfl
 | byt _=>obtain⟨t,rfl⟩:=r;rfl
 | flt _=>obtain⟨t,rfl⟩:=r;rfl
 | ref _=>cases r;rfl
 | ty _=>cases r;rfl
theorem IN {j bK} (ha:PE X a ta):PC X .Is a (.Constant .none j bK) (XQ ta):=by
 intro pins s σ H Q I h
 refine AO (ha pins s σ H _ I h) fun v s1 ⟨x,H1,I1,r1,q1⟩=>?_
 exact Constant_none (is_none_gen ⟨.bl _,H1,I1,by rw[r1.none_iff];rfl,q1⟩)
def Yc(Q:Bool->Hp->Prop)(x:V)(H1:Hp):Prop:=vB (fun c=>Q c H1) x
def tB(t:TE):TT:=fun σ H Q=>t σ H (Yc Q)
theorem Pm(h:PC X op a b t)(h1:behindInMarks op b=false:=by first | exact KG _ (by decide) (by decide) | rfl):PE X (.Compare a [op] [b] pos) t:=fun pins s σ H Q I hw=>wpAny_Compare1 (h pins s σ H Q I hw) h1
theorem P2(h:PC X op a b t)(h1:behindInMarks op b=false:=by first | exact KG _ (by decide) (by decide) | rfl):PT X (.Compare a [op] [b] pos) (tB t):=by
 intro pins s σ H Q I hw
 refine wpAny_isTrue_Compare1 (AO (h pins s σ H _ I hw) fun v s1 h1=>AO h1 fun u s2 h2=>AO h2 fun c s3 ⟨x,H1,I1,r1,q1⟩=>?_) h1
 obtain⟨d,rfl,q⟩:=Iv q1
 cases r1
 exact wpAny_truthy_bool ⟨H1,I1,q⟩
theorem A6(h:PE X e t)(he:∀bJ,isTrue e X.env bJ=(do let v <-bJ;standAt e.pos;holding [v] (truthy v)):=by intro _;rfl):PT X e (tB t):=by
 intro pins s σ H Q I hw
 refine isTrue_plain (AO (h pins s σ H _ I hw) fun v s1 ⟨x,H1,I1,r1,q1⟩=>?_) (he _)
 obtain⟨d,rfl,q⟩:=Iv q1
 cases r1
 exact wpAny_truthy_bool ⟨H1,I1,q⟩
variable {tA tB':TT}{rest:List Expr}
def Xq(t u:TT):TT:=fun σ H Q=>t σ H fun c H1=>If c (u σ H1 Q) (Q false H1)
def Yf(t u:TT):TT:=fun σ H Q=>t σ H fun c H1=>If c (Q true H1) (u σ H1 Q)
def Xr(t:TT):TT:=fun σ H Q=>t σ H fun c H1=>Q (!c) H1
theorem FY(ha:PT X a tA):PW X (.BoolOp .And [a] pos) tA:=by
 intro wh pins s σ H Q I h
 refine isTrue_and (AO (ha pins s σ H Q I h) fun c s1 e=>?_)
 cases c with
 | true=>exact isTrue_and_nil e
 | false=>exact e
theorem Eg(ha:PT X a tA):PW X (.BoolOp .Or [a] pos) tA:=by
 intro wh pins s σ H Q I h
 refine isTrue_or (AO (ha pins s σ H Q I h) fun c s1 e=>?_)
 cases c with
 | false=>exact isTrue_or_nil e
 | true=>exact e
theorem IO(ha:PT X a tA)(hb:PW X (.BoolOp .And (b::rest) pos) tB'):PW X (.BoolOp .And (a::b::rest) pos) (Xq tA tB'):=by
 intro wh pins s σ H Q I h
 refine isTrue_and (AO (ha pins s σ H _ I h) fun c s1 ⟨H1,I1,q1⟩=>?_)
 cases c with
 | true=>exact hb wh pins s1 σ H1 Q I1 q1.t
 | false=>exact⟨H1,I1,q1.f⟩
theorem GQ(ha:PT X a tA)(hb:PW X (.BoolOp .Or (b::rest) pos) tB'):PW X (.BoolOp .Or (a::b::rest) pos) (Yf tA tB'):=by
 intro wh pins s σ H Q I h
 refine isTrue_or (AO (ha pins s σ H _ I h) fun c s1 ⟨H1,I1,q1⟩=>?_)
 cases c with
 | true=>exact⟨H1,I1,q1.t⟩
 | false=>exact hb wh pins s1 σ H1 Q I1 q1.f
theorem B3(ha:PT X a tA):PT X (.UnaryOp .Not a pos) (Xr tA):=by
 intro pins s σ H Q I h
 exact isTrue_not (AO (ha pins s σ H (fun c H1=>Q (!c) H1) I h) fun _ _ ⟨H1,I1,q⟩=>⟨H1,I1,q⟩)
def Ve(tb:TE)(σ:St)(Q:VK)(x:V)(H1:Hp):Prop:=vB (fun c=>If c (tb σ H1 Q) (Q (.bl false) H1)) x
def WE(ta tb:TE):TE:=fun σ H Q=>ta σ H (Ve tb σ Q)
def Wt(tb:TE)(σ:St)(Q:VK)(x:V)(H1:Hp):Prop:=vB (fun c=>If c (Q (.bl true) H1) (tb σ H1 Q)) x
def XN(ta tb:TE):TE:=fun σ H Q=>ta σ H (Wt tb σ Q)
def VV(Q:VK)(x:V)(H1:Hp):Prop:=vB (fun c=>Q (.bl (!c)) H1) x
def W3(ta:TE):TE:=fun σ H Q=>ta σ H (VV Q)
theorem B5{op}(h:PE X a t):PE X (.BoolOp op [a] pos) t:=fun pins s σ H Q I hw=>BoolOp_one (h pins s σ H Q I hw)
theorem Ec(ha:PE X a ta)(hb:PE X (.BoolOp .And (b::rest) pos) tb):PE X (.BoolOp .And (a::b::rest) pos) (WE ta tb):=by
 intro pins s σ H Q I h
 refine BoolOp_and (AO (ha pins s σ H _ I h) fun v s1 ⟨x,H1,I1,r1,q1⟩=>?_)
 obtain⟨c,rfl,dB⟩:=Iv q1
 cases r1
 refine wpAny_truthy_bool ?_
 cases c with
 | true=>exact hb pins s1 σ H1 Q I1 dB.t
 | false=>exact⟨.bl false,H1,I1,rfl,dB.f⟩
theorem K3(ha:PE X a ta)(hb:PE X (.BoolOp .Or (b::rest) pos) tb):PE X (.BoolOp .Or (a::b::rest) pos) (XN ta tb):=by
 intro pins s σ H Q I h
 refine BoolOp_or (AO (ha pins s σ H _ I h) fun v s1 ⟨x,H1,I1,r1,q1⟩=>?_)
 obtain⟨c,rfl,dB⟩:=Iv q1
 cases r1
 refine wpAny_truthy_bool ?_
 cases c with
 | false=>exact hb pins s1 σ H1 Q I1 dB.f
 | true=>exact⟨.bl true,H1,I1,rfl,dB.t⟩
theorem E6(ha:PE X a ta):PE X (.UnaryOp .Not a pos) (W3 ta):=by
 intro pins s σ H Q I h
 refine UnaryOp_ (AO (ha pins s σ H _ I h) fun v s1 ⟨x,H1,I1,r1,q1⟩=>?_)
 obtain⟨c,rfl,dB⟩:=Iv q1
 cases r1
 exact not_of (wpAny_truthy_bool ⟨.bl (!c),H1,I1,rfl,dB⟩)
def Xh(t:TT)(ta tb:TE):TE:=fun σ H Q=>t σ H fun c H1=>If c (ta σ H1 Q) (tb σ H1 Q)
theorem Dl(hc:PT X c tA)(ha:PE X a ta)(hb:PE X b tb):PE X (.IfExp c a b pos) (Xh tA ta tb):=by
 intro pins s σ H Q I h
 refine wpAny_IfExp (AO (hc pins s σ H _ I h) fun d s1 ⟨H1,I1,q1⟩=>?_)
 cases d with
 | true=>exact ha pins s1 σ H1 Q I1 q1.t
 | false=>exact hb pins s1 σ H1 Q I1 q1.f
end
end L2
namespace L2
open PySem PySem.Spec PyProof.Rows
def SqL(K:PySem.W.Frag)(H:Hp)(a:Addr)(xs:List V):Prop:=
 Rd H a (.lst xs)\/
  D0 fun(o:Obj)(its:Array Value)(n:Nat)=>TB (K.lookup a=some o) (o.cls= .type "list") (o.dict=none) (o.data= .seq its n) (its.size<=sizeLine) (Vals xs its.toList)
def SqT(K:PySem.W.Frag)(H:Hp)(a:Addr)(xs:List V):Prop:=
 Rd H a (.tup xs)\/
  D0 fun(o:Obj)(its:Array Value)(n:Nat)=>Fs (K.lookup a=some o) (o.cls= .type "tuple") (o.data= .seq its n) (its.size<=sizeLine) (Vals xs its.toList)
def XL:Value->Option V
 | .none=>some .non
 | .bool b=>some (.bl b)
 | .int i _=>some (.int i)
 | .str x _=>some (.str x)
 | .bytes b _=>some (.byt b)
 | .float b _=>some (.flt b)
 | .ref a=>some (.ref a)
 | .type n=>some (.ty n)
 | _=>none
theorem RelV.abs(r:RelV x u):XL u=some x:=by
 cases x with
 | non=>cases r;rfl
 | bl _=>cases r;rfl
 | int _=>obtain⟨t,rfl⟩:=r;rfl
 | str _=>obtain⟨t,rfl⟩:=r;rfl
 | byt _=>obtain⟨t,rfl⟩:=r;rfl
 | flt _=>obtain⟨t,rfl⟩:=r;rfl
 | ref _=>cases r;rfl
 | ty _=>cases r;rfl
theorem RelV.inj(r:RelV x u)(q:RelV y u):x=y:=zAE (r.abs.symm.trans q.abs)
theorem Vals.inj:∀{xs ys:List V}{us:List Value},Vals xs us->Vals ys us->xs=ys
 | _,_,_,.nil,.nil=>rfl
 | _,_,_,.cons r t,.cons r' t'=>by rw[r.inj r',Vals.inj t t']
section
variable {X:Cx}{pins:List (Addr×Obj)}{σ:St}{H:Hp}{s:Shared}{a:Addr}{xs ys:List V}
theorem SqL.of{K:PySem.W.Frag}(h:H a=some (.lst xs)):SqL K H a xs:=.inl (.inl h)
theorem SqT.of{K:PySem.W.Frag}(h:H a=some (.tup xs)):SqT K H a xs:=.inl (.inl h)
theorem Inv.list(I:Inv X pins σ H s)(h:SqL X.K H a xs):∃its:List Value,Cc (Vals xs its) (PlainL s.heap a its.toArray) (xs.length<=sizeLine):=by
 rcases h with h | ⟨o,its,n,hk,hc,hd,hs,hz,r⟩
 ·obtain⟨z,its,n,r,e⟩:=h.ok I.hok
  exact⟨its,r,⟨_,n,e,rfl,rfl,rfl⟩,z⟩
 ·refine⟨its.toList,r,⟨o,n,I.kIn a o hk,hc,hd,by simpa using hs⟩,?_⟩
  have e:=r.length
  simp only[zAF] at e
  omega
theorem Inv.tuple(I:Inv X pins σ H s)(h:SqT X.K H a xs):∃its:List Value,Cc (Vals xs its) (IsTup s.heap a its.toArray) (xs.length<=sizeLine):=by
 rcases h with h | ⟨o,its,n,hk,hc,hs,hz,r⟩
 ·obtain⟨z,its,r,p⟩:=h.ok I.hok
  exact⟨its,r,p,z⟩
 ·refine⟨its.toList,r,⟨o,I.kIn a o hk,hc,n,by simpa using hs⟩,?_⟩
  have e:=r.length
  simp only[zAF] at e
  omega
theorem Inv.list_inj(I:Inv X pins σ H s)(h:SqL X.K H a xs)(h':SqL X.K H a ys):xs=ys:=by
 obtain⟨its,r,⟨o,n,e,_,_,d⟩,_⟩:=I.list h
 obtain⟨its',r',⟨o',n',e',_,_,d'⟩,_⟩:=I.list h'
 rw[e] at e';cases e'
 rw[d] at d'
 injection d' with d1 _
 have:its=its':=by simpa using congrArg Array.toList d1
 subst this
 exact r.inj r'
theorem Inv.tuple_inj(I:Inv X pins σ H s)(h:SqT X.K H a xs)(h':SqT X.K H a ys):xs=ys:=by
 obtain⟨its,r,⟨o,e,_,n,d⟩,_⟩:=I.tuple h
 obtain⟨its',r',⟨o',e',_,n',d'⟩,_⟩:=I.tuple h'
 rw[e] at e';cases e'
 rw[d] at d'
 injection d' with d1 _
 have:its=its':=by simpa using congrArg Array.toList d1
 subst this
 exact r.inj r'
end
abbrev Cx.wish(X:Cx)(E:Value->Shared->Prop):Cx:={ X with xe:=E }
abbrev Cx.nox(X:Cx):Cx:=X.wish fun _ _=>False
theorem Cx.Ok.wish{X:Cx}(ok:X.Ok)(E:Value->Shared->Prop):(X.wish E).Ok:=
 ⟨ok.mod,ok.kind,ok.glob,ok.blt,ok.above,ok.inj,ok.has,ok.cab,ok.hd,ok.frames,ok.stk,ok.exf,ok.bs,ok.bsz,ok.noex,ok.exfs,ok.funs,ok.frf⟩
theorem Cx.Ok.unwish{X:Cx}{E:Value->Shared->Prop}(ok:(X.wish E).Ok):X.Ok:=
 ⟨ok.mod,ok.kind,ok.glob,ok.blt,ok.above,ok.inj,ok.has,ok.cab,ok.hd,ok.frames,ok.stk,ok.exf,ok.bs,ok.bsz,ok.noex,ok.exfs,ok.funs,ok.frf⟩
section
variable {X:Cx}{pins:List (Addr×Obj)}{σ:St}{H:Hp}{s:Shared}{E:Value->Shared->Prop}
theorem Inv.wish(I:Inv X pins σ H s)(E:Value->Shared->Prop):Inv (X.wish E) pins σ H s:=⟨I.ok.wish E,I.os,I.bare,I.base,I.loc,I.cell,I.free,I.freeC,I.pin,I.hok,I.len⟩
theorem Inv.unwish(I:Inv (X.wish E) pins σ H s):Inv X pins σ H s:=⟨I.ok.unwish,I.os,I.bare,I.base,I.loc,I.cell,I.free,I.freeC,I.pin,I.hok,I.len⟩
theorem SP.unwish(h:SP (X.wish E) pins D f s'):SP X pins D f s':=by
 cases f with
 | next=>obtain⟨σ',H',I,q⟩:=h;exact⟨σ',H',I.unwish,q⟩
 | brk=>obtain⟨σ',H',I,q⟩:=h;exact⟨σ',H',I.unwish,q⟩
 | cont=>obtain⟨σ',H',I,q⟩:=h;exact⟨σ',H',I.unwish,q⟩
 | ret u=>obtain⟨v,σ',H',I,r,q⟩:=h;exact⟨v,σ',H',I.unwish,r,q⟩
theorem PE.nox(h:PE X.nox e t):PE X e t:=fun pins s σ H Q I hw=>
 wpAny_mono (h pins s σ H Q (I.wish _) hw) (fun _ _ ⟨v,H',I',r,q⟩=>⟨v,H',I'.unwish,r,q⟩) fun _ _ z=>False.elim z
theorem PSs.nox{st:List Stmt}(h:PSs X.nox st t):PSs X st t:=fun pins s σ H D I hw=>
 wpAny_mono (h pins s σ H D (I.wish _) hw) (fun _ _ q=>q.unwish) fun _ _ z=>False.elim z
end
section
variable {X:Cx}{st:Stmt}{rest:List Stmt}{t u:TS}{e:Expr}{te:TE}{pos:Pos}
def RA:TS:=fun D σ H=>D.nx σ H
def Qc(t u:TS):TS:=fun D σ H=>t { D with nx:=u D } σ H
theorem Ag:PSs X [] RA:=fun _ _ σ H _ I h=>wpAny_execs_nil ⟨σ,H,I,h⟩
theorem Aa(h1:PS X st t)(h2:PSs X rest u):PSs X (st::rest) (Qc t u):=by
 intro pins s σ H D I h
 refine wpAny_execs_cons (AO (h1 pins s σ H { D with nx:=u D } I h) fun f s1 q=>?_)
 cases f with
 | next=>
  obtain⟨σ',H',I',q⟩:=q
  exact h2 pins s1 σ' H' D I' q
 | ret v=>exact q
 | brk=>exact q
 | cont=>exact q
theorem Aj(h1:PS X st t):PSs X [st] t:=by
 intro pins s σ H D I h
 refine wpAny_execs_cons (AO (h1 pins s σ H D I h) fun f s1 q=>?_)
 cases f with
 | next=>exact wpAny_execs_nil q
 | ret v=>exact q
 | brk=>exact q
 | cont=>exact q
def WL:TS:=fun D σ H=>D.ct σ H
theorem Kz:PS X (.Continue pos) WL:=fun _ _ σ H _ I h=>wpAny_Continue ⟨σ,H,I,h⟩
theorem Inv.quiet(I:Inv X pins σ H s):interactive X.env=false:=by simp[interactive,I.ok.kind]
def Sg(te:TE):TS:=fun D σ H=>te σ H fun _ H1=>D.nx σ H1
theorem AC(he:PE X e te)(hs:swapsWith e none pos.line X.env=pure false:=by rfl):PS X (.Expr e pos) (Sg te):=by
 intro pins s σ H D I h
 exact wpAny_Expr_any (AO (he pins s σ H _ I h) fun v s1 ⟨x,H1,I1,r1,q1⟩=>⟨σ,H1,I1,q1⟩) I.quiet hs
def Wh(te:TE):TS:=fun D σ H=>te σ H D.rt
theorem R8(he:PE X e te):PS X (.Return (some e) pos) (Wh te):=by
 intro pins s σ H D I h
 exact wpAny_Return_some (AO (he pins s σ H _ I h) fun v s1 ⟨x,H1,I1,r1,q1⟩=>⟨x,σ,H1,I1,r1,q1⟩)
def V9(c:TT)(t u:TS):TS:=fun D σ H=>c σ H fun b H1=>If b (t D σ H1) (u D σ H1)
theorem An(hc:PT X c tc)(ha:PSs X a t)(hb:PSs X b u):PS X (.If c a b pos) (V9 tc t u):=by
 intro pins s σ H D I h
 refine wpAny_If (AO (hc pins s σ H _ I h) fun d s1 ⟨H1,I1,q1⟩=>?_)
 cases d with
 | true=>exact ha pins s1 σ H1 D I1 q1.t
 | false=>exact hb pins s1 σ H1 D I1 q1.f
def Vq:TS:=fun _ _ _=>False
theorem Fb:PSs X sts Vq:=fun _ _ _ _ _ _ h=>h.elim
end
abbrev TG:=V->St->Hp->(St->Hp->Prop)->Prop
abbrev Ut:=List V->St->Hp->(St->Hp->Prop)->Prop
def PG(X:Cx)(ao:Expr)(t:TG):Prop:=
 ∀(pins:List (Addr×Obj))(s:Shared)(σ:St)(H:Hp)(v:V)(u:Value)(Q:St->Hp->Prop),Inv X pins σ H s->RelV v u->t v σ H Q->
  wpAny (model X.prog X.w) X.A (assign ao X.env u) (fun _ s'=>BF fun σ' H'=>Inv X pins σ' H' s'/\Q σ' H') X.xe s
def Xl(X:Cx)(ts:List Expr)(t:Ut):Prop:=
 ∀(pins:List (Addr×Obj))(s:Shared)(σ:St)(H:Hp)(vs:List V)(us:List Value)(Q:St->Hp->Prop),Inv X pins σ H s->Vals vs us->t vs σ H Q->
  wpAny (model X.prog X.w) X.A (assignInOrder ((assignEach ts X.env).map (·.2)) us) (fun _ s'=>BF fun σ' H'=>Inv X pins σ' H' s'/\Q σ' H') X.xe s
section
variable {X:Cx}{pos:Pos}
def Dh(i:Nat):TG:=fun v σ H Q=>Q (σ.set i (some v)) H
theorem Jb(hN:X.N.Nodup)(hi:X.N[i]? = some x)(hx:So X.env.scope x)(hf:X.fn x=true\/X.env.scope.names.lookup x=some .local:=by first | exact .inl rfl | exact .inr rfl | assumption):PG X (.Name x pos) (Dh i):=by
 intro pins s σ H v u Q I r h
 exact wpAny_assign_Name (G9 I hN hi hx r (fun s' I'=>⟨_,H,I',h⟩) hf)
def Xo:Ut:=fun vs σ H Q=>vs=[]/\Q σ H
def W2(t:TG)(u:Ut):Ut:=fun vs σ H Q=>lC (fun v r=>t v σ H fun σ' H'=>u r σ' H' Q) vs
theorem Br:Xl X [] Xo:=by
 intro pins s σ H vs us Q I r h
 obtain⟨e,h⟩:=h
 subst e
 cases r
 exact assignInOrder_nil ⟨σ,H,I,h⟩
theorem AE(h1:PG X e t)(h2:Xl X es u)(hs:(assignEach (e::es) X.env).map (·.2)=assign e X.env::(assignEach es X.env).map (·.2):=by rfl):Xl X (e::es) (W2 t u):=by
 intro pins s σ H vs us Q I r h
 obtain⟨v,vr,rfl,h'⟩:=UE h
 cases r with
 | cons r rr=>
  rw[hs]
  refine assignInOrder_cons (AO (h1 pins s σ H _ _ _ I r h') fun _ s1 ⟨σ1,H1,I1,q1⟩=>?_)
  exact h2 pins s1 σ1 H1 _ _ Q I1 rr q1
inductive Um(K:PySem.W.Frag)(n:Nat)(t:Ut)(a:Addr)(σ:St)(H:Hp)(Q:St->Hp->Prop):Prop where
 | mk {xs} (_:SqT K H a xs) (_:xs.length=n) (_:t xs σ H Q):Um K n t a σ H Q
def XE(K:PySem.W.Frag)(n:Nat)(t:Ut):TG:=fun v σ H Q=>vR (fun a=>Um K n t a σ H Q) v
theorem BI(hc:X.calm=true)(h:Xl X es t)(hn:(assignEach es X.env).length=n:=by rfl)(cC:(assignEach es X.env).findIdx? (·.1)=none:=by rfl):PG X (.Tuple es k pos) (XE X.K n t):=by
 intro pins s σ H v u Q I r hw
 obtain⟨a,rfl,@⟨xs,hq,hl,hw'⟩⟩:=CM hw
 cases r
 obtain⟨its,rv,ht,hz⟩:=I.tuple hq
 refine assign_Tuple_tuple (I.ok.hd hc) ht (by simp[hn,<-hl,rv.length]) cC fun h' hx=>?_
 have I1:Inv X pins σ H { s with heap:=h' }:=I.kept (t':=s.toks) fun b o e=>hx b o (zAH (zAD e)) e
 exact h pins _ σ H xs _ Q I1 (by simpa using rv) hw'
def Lv(te:TE)(g:TG):TS:=fun D σ H=>te σ H fun x H1=>g x σ H1 D.nx
theorem Mj(he:PE X e te)(hg:PG X tg g)(hs:swapsWithSole [tg] e pos.line X.env=pure false:=by rfl)(hw:swappedStores [tg] e X.env=pure none:=by rfl)(h1:(assignEach [tg] X.env).map (·.2)=[assign tg X.env]:=by rfl):PS X (.Assign [tg] e pos) (Lv te g):=by
 intro pins s σ H D I h
 refine wpAny_Assign_stores (AO (he pins s σ H _ I h) fun v s1 ⟨x,H1,I1,r1,q1⟩=>?_) hs hw
 rw[h1]
 exact AO (hg pins s1 σ H1 x v _ I1 r1 q1) fun _ s2 q=>q
theorem VS(hN:X.N.Nodup)(hi:X.N[i]? = some x)(hx:So X.env.scope x)(he:PE X e te)(hs:swapsWith e (some (.Name x bK)) pos.line X.env=pure false:=by rfl)(hf:X.fn x=true\/X.env.scope.names.lookup x=some .local:=by first | exact .inl rfl | exact .inr rfl | assumption):
  PS X (.Assign [.Name x bK] e pos) (Lv te (Dh i)):=by
 intro pins s σ H D I h
 refine wpAny_Assign_Name (AO (he pins s σ H _ I h) fun v s1 ⟨y,H1,I1,r1,q1⟩=>?_) hs
 exact G9 I1 hN hi hx r1 (fun s2 I2=>⟨_,H1,I2,q1⟩) hf
end
section
variable {X:Cx}{pos:Pos}
def Vl(c:TT)(tb:TS):TS:=fun D σ H=>∃W:Nat->St->Hp->Prop,(∃m,W m σ H)/\∀m σ H,W m σ H->
 c σ H fun b H1=>If b (∃N:St->Hp->Prop,(∀σ' H',N σ' H'->∃m',m'<m/\W m' σ' H')/\tb { D with nx:=N,ct:=N,bk:=D.nx } σ H1) (D.nx σ H1)
theorem Gs(hp:PassesOwn (model X.prog X.w) X.A X.env X.xe)(hc:PT X c tc)(hb:PSs X body tb):PS X (.While c body [] pos) (Vl tc tb):=by
 intro pins s σ H D I h
 obtain⟨W,⟨m0,w0⟩,eW⟩:=h
 refine wpAny_While (codeAny_whileLoop (fun n s'=>BF fun σ' H'=>Inv X pins σ' H' s'/\W n σ' H') ?_ m0 ⟨σ,H,I,w0⟩)
 rintro n s1 ⟨σ1,H1,I1,w1⟩
 refine wpAny_passesOwn hp (AO (hc pins s1 σ1 H1 _ I1 (eW n σ1 H1 w1)) fun b s2 ⟨H2,I2,q2⟩=>?_)
 cases b with
 | true=>
  obtain⟨N,hN,q2⟩:=q2.t
  rw[if_pos rfl]
  refine wpAny_passesOwn hp (AO (hb pins s2 σ1 H2 _ I2 q2) fun f s3 q3=>?_)
  cases f with
  | next=>
   obtain⟨σ3,H3,I3,n3⟩:=q3
   obtain⟨m',hm,w3⟩:=hN σ3 H3 n3
   exact⟨m',hm,σ3,H3,I3,w3⟩
  | cont=>
   obtain⟨σ3,H3,I3,n3⟩:=q3
   obtain⟨m',hm,w3⟩:=hN σ3 H3 n3
   exact⟨m',hm,σ3,H3,I3,w3⟩
  | brk=>exact q3
  | ret v=>exact q3
 | false=>
  rw[if_neg zAB]
  exact wpAny_execs_nil ⟨σ1,H2,I2,q2.f⟩
end
structure It where
 go:Nat->Hp->Prop
 yld:Nat->Hp->V->Hp->Prop
 stop:Nat->Hp->Prop
def CL(X:Cx)(pins:List (Addr×Obj))(H:Hp)(b:Addr):Prop:=
 H b=none/\b≠X.env.locals/\b∉X.fs/\(b∈X.ex\/X.s₀.heap.objs.size<=b)/\(∀x c,X.env.cells.lookup x=some c->c≠b)/\∀p∈X.pn++pins,p.1≠b
theorem Inv.fpOk(I:Inv X pins σ H s)(hb:s.heap.objs.size<=b)(hn:H' b=none):CL X pins H' b:=by
 refine⟨hn,zBW (zAL I.lt hb),I.nofs hb,.inr (zAC I.sz hb),fun x c e z=>?_,fun p hp z=>?_⟩
 ·obtain⟨v,q⟩:=I.cell x c e
  exact absurd (zAL q.lt (by rw[z];exact hb)) (zB4 _)
 ·exact absurd (zAL (zAD (I.pin p hp).1) (by rw[z];exact hb)) (zB4 _)
structure Ld(P:Program)(w:World)(K:PySem.W.Frag)(tg:Expr)(J:It)(fp:List Addr)(it:Addr)(tn:Nat->Heap->Prop):Prop where
 mem:it∈fp
 obj:∀i h,tn i h->∀b∈fp,∃o,h.get? b=some o/\∀v,o.data≠.cell v
 keep:∀i h h',tn i h->(∀b∈fp,∀o,h.get? b=some o->h'.get? b=some o)->tn i h'
 item:∀(X:Cx),X.prog=P->X.w=w->X.K=K->X.calm=true->∀(i:Nat)(pins:List (Addr×Obj))(s:Shared)(σ:St)(H:Hp)(E:Value->Shared->Prop),Inv X pins σ H s->(∀b∈fp,CL X pins H b)->tn i s.heap->J.go i H->
  wpAny (model P w) X.A (pyNext (.ref it)) (fun r s1=>∃u,r=some u/\
   wpAny (model P w) X.A (letOwnedTupleGo tg (.ref it) u) (fun _ s2=>BF fun x H'=>Fs (Inv X pins σ H' s2) (RelV x u) (J.yld i H x H') (tn (i+1) s2.heap) (∀b∈fp,H' b=none)) E s1) E s
 done:∀(X:Cx),X.prog=P->X.w=w->X.K=K->X.calm=true->∀(i:Nat)(pins:List (Addr×Obj))(s:Shared)(σ:St)(H:Hp)(E:Value->Shared->Prop),Inv X pins σ H s->(∀b∈fp,CL X pins H b)->tn i s.heap->J.stop i H->
  wpAny (model P w) X.A (pyNext (.ref it)) (fun r s1=>r=none/\Inv X pins σ H s1) E s
 self:∀(A:Around)(i:Nat)(s:Shared)(Q:Value->Shared->Prop)(E:Value->Shared->Prop),tn i s.heap->Q (.ref it) s->wpAny (model P w) A (pyIter (.ref it)) Q E s
abbrev TI:=St->Hp->(It->Hp->Prop)->Prop
inductive XY(X:Cx)(pins:List (Addr×Obj))(σ:St)(tg:Expr)(R:It->Hp->Prop)(bD:Value)(s2:Shared):Prop where
 | mk (it:Addr) (fp:List Addr) (tn:Nat->Heap->Prop) (J:It) (H':Hp) (_:bD= .ref it) (_:Inv X pins σ H' s2) (_:Ld X.prog X.w X.K tg J fp it tn) (_:tn 0 s2.heap) (_:(∀b∈fp,CL X pins H' b)) (_:R J H')
def PI(X:Cx)(tg ae:Expr)(wi:TI):Prop:=
 ∀(pins:List (Addr×Obj))(s:Shared)(σ:St)(H:Hp)(R:It->Hp->Prop),Inv X pins σ H s->wi σ H R->
  wpAny (model X.prog X.w) X.A (eval ae X.env) (fun v s1=>wpAny (model X.prog X.w) X.A (pyIter v) (XY X pins σ tg R) X.xe s1) X.xe s
theorem KP(ho:s.heap.get? it=some o)(hc:o.cls= .type n)(hd:o.data= .fields vs)(hn:["enumerate","zip","dict_itemiterator","dict_reverseitemiterator","odict_iterator","itertools.zip_longest","itertools.pairwise"].contains n=false)(hQ:Q () s):wpAny M A (letOwnedTupleGo tg (.ref it) u) Q E s:=by
  unfold letOwnedTupleGo
  cases tg<;>first
    | exact wpAny_pure hQ
    | (cases u<;>first
        | exact wpAny_pure hQ
        | (refine wpAny_bind (wpAny_load ho ?_)
           rw[hc,hd]
           show wpAny M A (if (["enumerate","zip","dict_itemiterator","dict_reverseitemiterator","odict_iterator","itertools.zip_longest","itertools.pairwise"].contains n && vs[0]? == some (rawInt _))=true then _ else _) Q E s
           rw[if_neg (by intro h;rw[hn,Bool.false_and] at h;cases h)]
           exact wpAny_pure hQ))
def Uo(K:PySem.W.Frag)(a:Addr):It:=
 ⟨fun i H=>BF fun xs x=>SqL K H a xs/\xs[i]? = some x,fun i H x H'=>H'=H/\∀xs,SqL K H a xs->xs[i]? = some x,fun i H=>∃xs,SqL K H a xs/\xs.length<=i⟩
def WX(K:PySem.W.Frag)(a:Addr):It:=
 ⟨fun i H=>BF fun xs x=>SqT K H a xs/\xs[i]? = some x,fun i H x H'=>H'=H/\∀xs,SqT K H a xs->xs[i]? = some x,fun i H=>∃xs,SqT K H a xs/\xs.length<=i⟩
def VM(lo:Int)(n:Nat):It:=⟨fun i _=>i<n,fun i H x H'=>H'=H/\x= .int (lo+i),fun i _=>n<=i⟩
theorem OG{P:Program}{w:World}{K:PySem.W.Frag}{tg:Expr}(a it:Addr):Ld P w K tg (Uo K a) [it] it (fun i h=>h.IsListIter it a i) where
 mem:=by simp
 obj:=fun i h st b hb=>by
  have e:b=it:=by simpa using hb
  subst e
  obtain⟨o,e,c,d⟩:=st
  exact⟨o,e,fun v z=>by rw[d] at z;cases z⟩
 keep:=fun i h h' st k=>st.at fun o e=>k it (by simp) o e
 item:=by
  intro X hP hw hK hc i pins s σ H E I hf st hg
  subst hP hw hK
  obtain⟨xs,x,hq,hx⟩:=hg
  obtain⟨its,rv,p,hz⟩:=I.list hq
  obtain⟨u,hu,ru⟩:=rv.get hx
  obtain⟨f0,f1,f2,f3,f4,f5⟩:=hf it (by simp)
  refine wpAny_pyNext_list_item st p.isList (x:=u) (by simpa using hu) fun h' dC sb=>?_
  have I1:Inv X pins σ H { s with heap:=h' }:=I.turned (t':=s.toks) (fun b o hb e=>(sb.2 b hb).trans e) f0 f1 f3 f4 f5
  obtain⟨o,e,c,d⟩:=id dC
  exact⟨u,rfl,KP (s:={ s with heap:=h' }) e c d (by decide) ⟨x,H,I1,ru,⟨rfl,fun ys hy=>by rw[I.list_inj hy hq];exact hx⟩,dC,fun b hb=>(hf b hb).1⟩⟩
 done:=by
  intro X hP hw hK hc i pins s σ H E I hf st hg
  subst hP hw hK
  obtain⟨xs,hq,hx⟩:=hg
  obtain⟨its,rv,p,hz⟩:=I.list hq
  obtain⟨f0,f1,f2,f3,f4,f5⟩:=hf it (by simp)
  have hl:=rv.length
  exact wpAny_pyNext_list_end (I.ok.hd hc) st p.isList (by simp;omega) fun h' eb=>⟨rfl,I.turned (t':=s.toks) (fun b o hb e=>eb b o hb e) f0 f1 f3 f4 f5⟩
 self:=fun _ _ _ _ _ st h=>wpAny_pyIter_listiter st h
theorem LZ{P:Program}{w:World}{K:PySem.W.Frag}{tg:Expr}(a it:Addr):Ld P w K tg (WX K a) [it] it (fun i h=>h.IsTupleIter it a i) where
 mem:=by simp
 obj:=fun i h st b hb=>by
  have e:b=it:=by simpa using hb
  subst e
  obtain⟨o,e,c,d⟩:=st
  exact⟨o,e,fun v z=>by rw[d] at z;cases z⟩
 keep:=fun i h h' st k=>st.at fun o e=>k it (by simp) o e
 item:=by
  intro X hP hw hK hc i pins s σ H E I hf st hg
  subst hP hw hK
  obtain⟨xs,x,hq,hx⟩:=hg
  obtain⟨its,rv,p,hz⟩:=I.tuple hq
  obtain⟨u,hu,ru⟩:=rv.get hx
  obtain⟨f0,f1,f2,f3,f4,f5⟩:=hf it (by simp)
  refine wpAny_pyNext_tuple_item st (show s.heap.IsTuple a its.toArray from p) (x:=u) (by simpa using hu) fun h' dC sb=>?_
  have I1:Inv X pins σ H { s with heap:=h' }:=I.turned (t':=s.toks) (fun b o hb e=>(sb.2 b hb).trans e) f0 f1 f3 f4 f5
  obtain⟨o,e,c,d⟩:=id dC
  exact⟨u,rfl,KP (s:={ s with heap:=h' }) e c d (by decide) ⟨x,H,I1,ru,⟨rfl,fun ys hy=>by rw[I.tuple_inj hy hq];exact hx⟩,dC,fun b hb=>(hf b hb).1⟩⟩
 done:=by
  intro X hP hw hK hc i pins s σ H E I hf st hg
  subst hP hw hK
  obtain⟨xs,hq,hx⟩:=hg
  obtain⟨its,rv,p,hz⟩:=I.tuple hq
  obtain⟨f0,f1,f2,f3,f4,f5⟩:=hf it (by simp)
  have hl:=rv.length
  exact wpAny_pyNext_tuple_end (I.ok.hd hc) st (show s.heap.IsTuple a its.toArray from p) (by simp;omega) fun h' eb=>⟨rfl,I.turned (t':=s.toks) (fun b o hb e=>eb b o hb e) f0 f1 f3 f4 f5⟩
 self:=fun _ _ _ _ _ st h=>wpAny_pyIter_tupleiter st h
theorem LG{P:Program}{w:World}{K:PySem.W.Frag}{tg:Expr}(it:Addr)(lo:Int)(n:Nat):Ld P w K tg (VM lo n) [it] it (fun i h=>IsRangeIter h it (lo+(i:Nat)*1) ((n:Int)-(i:Nat)) 1) where
 mem:=by simp
 obj:=fun i h st b hb=>by
  have e:b=it:=by simpa using hb
  subst e
  exact⟨_,st,fun v z=>by
   have z':Data.fields _=Data.cell v:=z
   cases z'⟩
 keep:=fun i h h' st k=>k it (by simp) _ st
 item:=by
  intro X hP hw hK hc i pins s σ H E I hf st hg
  subst hP hw hK
  obtain⟨f0,f1,f2,f3,f4,f5⟩:=hf it (by simp)
  have W:=Walks.range (prog:=X.prog) (w:=X.w) (I.ok.hd hc) it lo 1 n
  refine W.item i s _ _ hg st fun v h' tk hv dC kk=>?_
  obtain⟨t,rfl⟩:=hv
  have I1:Inv X pins σ H { s with heap:=h',toks:=tk }:=I.turned (fun b o hb e=>kk b o (by simpa using hb) e) f0 f1 f3 f4 f5
  refine⟨_,rfl,KP (s:={ s with heap:=h',toks:=tk }) (n:="range_iterator") dC rfl rfl (by decide) ⟨.int (lo+i),H,I1,⟨t,?_⟩,⟨rfl,rfl⟩,dC,fun b hb=>(hf b hb).1⟩⟩
  rw[Int.mul_one]
 done:=by
  intro X hP hw hK hc i pins s σ H E I hf st hg
  subst hP hw hK
  obtain⟨f0,f1,f2,f3,f4,f5⟩:=hf it (by simp)
  exact wpAny_pyNext_range_end (I.ok.hd hc) st (by have:n<=i:=hg;omega) fun h' eb=>⟨rfl,I.turned (t':=s.toks) (fun b o hb e=>eb b o hb e) f0 f1 f3 f4 f5⟩
 self:=fun _ _ _ _ _ st h=>wpAny_pyIter_rangeiter st h
end L2
namespace L2
open PySem PySem.Spec PyProof.Rows
section
variable {X:Cx}{tg:Expr}
def VG(K:PySem.W.Frag)(R:It->Hp->Prop)(x:V)(H1:Hp):Prop:=vR (fun a=>(∃xs,SqL K H1 a xs)/\R (Uo K a) H1) x
def Wx(K:PySem.W.Frag)(tl:TE):TI:=fun σ H R=>tl σ H (VG K R)
def Xe(K:PySem.W.Frag)(R:It->Hp->Prop)(x:V)(H1:Hp):Prop:=vR (fun a=>(∃xs,SqT K H1 a xs)/\R (WX K a) H1) x
def Xn(K:PySem.W.Frag)(tl:TE):TI:=fun σ H R=>tl σ H (Xe K R)
theorem AJ{tl:TE}(hl:PE X l tl):PI X tg l (Wx X.K tl):=by
 intro pins s σ H R I h
 refine AO (hl pins s σ H _ I h) fun v s1 ⟨x,H1,I1,r1,q1⟩=>?_
 obtain⟨a,e,⟨xs,hq⟩,q⟩:=CM q1
 subst e
 cases r1
 obtain⟨its,rv,p,hz⟩:=I1.list hq
 refine wpAny_pyIter_list p.isList ?_
 refine⟨s1.heap.objs.size,[s1.heap.objs.size],_,_,H1,rfl,I1.kept (t':=s1.toks) fun b o e=>Heap.get?_push_of_some _ e,OG a _,⟨_,Heap.get?_push_size _ rfl,rfl,rfl⟩,fun b hb=>?_,q⟩
 have e:b=s1.heap.objs.size:=by simpa using hb
 subst e
 exact I1.fpOk (zAA _) (I1.hok.fresh (zAA _))
theorem L8{tl:TE}(hl:PE X l tl):PI X tg l (Xn X.K tl):=by
 intro pins s σ H R I h
 refine AO (hl pins s σ H _ I h) fun v s1 ⟨x,H1,I1,r1,q1⟩=>?_
 obtain⟨a,e,⟨xs,hq⟩,q⟩:=CM q1
 subst e
 cases r1
 obtain⟨its,rv,p,hz⟩:=I1.tuple hq
 refine wpAny_pyIter_tuple (show s1.heap.IsTuple a its.toArray from p) ?_
 refine⟨s1.heap.objs.size,[s1.heap.objs.size],_,_,H1,rfl,I1.kept (t':=s1.toks) fun b o e=>Heap.get?_push_of_some _ e,LZ a _,⟨_,Heap.get?_push_size _ rfl,rfl,rfl⟩,fun b hb=>?_,q⟩
 have e:b=s1.heap.objs.size:=by simpa using hb
 subst e
 exact I1.fpOk (zAA _) (I1.hok.fresh (zAA _))
theorem Lg{lo hi:Int}(I:Inv X pins σ H s)(h1 : -(2^62)<=lo)(h2:lo<2^62)(h3 : -(2^62)<=hi)(h4:hi<2^62)(q:R (VM lo (hi-lo).toNat) H):wpAny (model X.prog X.w) X.A (pyIter (.ref s.heap.objs.size)) (XY X pins σ tg R) E { s with heap:=s.heap.push { cls:=.type "range",data:=.fields #[.int lo t,.int hi u,.int 1 v] },toks:=tk }:=by
 refine wpAny_pyIter_range (IsRange.new ..) (small_one h1 h2 h3 h4) ?_
 have I1:Inv X pins σ H { s with heap:=s.heap.push { cls:=.type "range",data:=.fields #[.int lo t,.int hi u,.int 1 v] },toks:=tk }:=I.kept fun b o e=>Heap.get?_push_of_some _ e
 refine⟨(s.heap.push { cls:=.type "range",data:=.fields #[.int lo t,.int hi u,.int 1 v] }).objs.size,[(s.heap.push { cls:=.type "range",data:=.fields #[.int lo t,.int hi u,.int 1 v] }).objs.size],_,_,H,rfl,
  I1.kept (t':=tk) fun b o e=>Heap.get?_push_of_some _ e,LG _ lo (hi-lo).toNat,?_,fun b hb=>?_,q⟩
 ·have e1:lo+((0:Nat):Int)*1=lo:=by simp
  have e2:(((hi-lo).toNat:Nat):Int)-((0:Nat):Int)=Builtin.Range.rangeSize lo hi 1:=by rw[rangeSize_one];split<;>omega
  show IsRangeIter _ _ (lo+((0:Nat):Int)*1) ((((hi-lo).toNat:Nat):Int)-((0:Nat):Int)) 1
  rw[e1,e2]
  exact Heap.get?_push_size _ rfl
 ·have e:b=(s.heap.push { cls:=.type "range",data:=.fields #[.int lo t,.int hi u,.int 1 v] }).objs.size:=by simpa using hb
  subst e
  exact I1.fpOk (zAA _) (I1.hok.fresh (zAA _))
def Va(R:It->Hp->Prop)(vs:List V)(H1:Hp):Prop:=l1 (vI fun j=>-(2^62)<=j/\j<2^62/\R (VM 0 j.toNat) H1) vs
def W4(ta:TA):TI:=fun σ H R=>ta σ H (Va R)
inductive Rc(R:It->Hp->Prop)(vs:List V)(H1:Hp):Prop where
 | mk (i j:Int) (_:vs=[.int i,.int j]) (_:(-(2^62)<=i/\i<2^62/\-(2^62)<=j/\j<2^62)) (_:R (VM i (j-i).toNat) H1):Rc R vs H1
def WS(ta:TA):TI:=fun σ H R=>ta σ H (Rc R)
theorem DR(hg:Gl X "range")(hm:X.mg "range"=none)(ha:PA X [a] ta)(hs:starEach [a] X.env=[(false,eval a X.env)]:=by rfl):PI X tg (.Call (.Name "range" p) [a] [] pos) (W4 ta):=by
 intro pins s σ H R I h
 refine Call_ (Ch I hg hm boot_range (zBI (AO (ha pos pins s σ H _ I h) fun us s1 ⟨vs,H1,I1,r1,q1⟩=>?_) hs rfl))
 obtain⟨_,rfl,q0⟩:=MK q1
 obtain⟨j,rfl,q1,q2,q⟩:=Ew q0
 cases r1 with
 | cons r rr=>
  cases rr
  obtain⟨t,rfl⟩:=r
  exact call_range_1 (Lg I1 (by omega) (by omega) q1 q2 (by simpa using q))
theorem Il(hg:Gl X "range")(hm:X.mg "range"=none)(ha:PA X [a,b] ta)(hs:starEach [a,b] X.env=[(false,eval a X.env),(false,eval b X.env)]:=by rfl)(gd:starEach [b] X.env=[(false,eval b X.env)]:=by rfl):
  PI X tg (.Call (.Name "range" p) [a,b] [] pos) (WS ta):=by
 intro pins s σ H R I h
 refine Call_ (Ch I hg hm boot_range (zBI (AO (ha pos pins s σ H _ I h) fun us s1 ⟨vs,H1,I1,r1,q1⟩=>?_) (by rw[hs,gd]) (by rw[gd];rfl)))
 obtain⟨i,j,e,⟨q1,q2,q3,q4⟩,q⟩:=q1
 subst e
 cases r1 with
 | cons r rr=>
  cases rr with
  | cons r' rr=>
   cases rr
   obtain⟨t,rfl⟩:=r
   obtain⟨t',rfl⟩:=r'
   exact call_range_2 (Lg I1 q1 q2 q3 q4 q)
def Kf(wi:TI)(g:TG)(tb:TS):TS:=fun D σ H=>wi σ H fun J H1=>∃W:Nat->Nat->St->Hp->Prop,(∃m,W 0 m σ H1)/\∀i m σ H,W i m σ H->
 (J.stop i H/\D.nx σ H)\/(J.go i H/\∃N:St->Hp->Prop,(∀σ' H',N σ' H'->∃m',m'<m/\W (i+1) m' σ' H')/\∀x H',J.yld i H x H'->g x σ H' fun σ2 H2=>tb { D with nx:=N,ct:=N,bk:=D.nx } σ2 H2)
def Gi(fp:List Addr)(h:Heap):List (Addr×Obj):=fp.filterMap fun b=>(h.get? b).map fun o=>(b,o)
theorem De(hb:b∈fp)(e:h.get? b=some o):(b,o)∈Gi fp h:=List.mem_filterMap.mpr ⟨b,hb,by rw[e];rfl⟩
theorem Pe(hp:p∈Gi fp h):p.1∈fp/\h.get? p.1=some p.2:=by
 obtain⟨b,hb,e⟩:=List.mem_filterMap.mp hp
 cases q:h.get? b with
 | none=>rw[q] at e;cases e
 | some o=>
  rw[q] at e
  have e':(b,o)=p:=zAE e
  subst e'
  exact⟨hb,q⟩
theorem Inv.pinned(I:Inv X pins σ H s)(hf:∀b∈fp,CL X pins H b)(ho:∀b∈fp,∃o,s.heap.get? b=some o/\∀v,o.data≠.cell v):Inv X (pins++Gi fp s.heap) σ H s:=
 I.pins_of fun p hp=>(List.mem_append.mp hp).elim (fun z=>I.pin p (zAX _ z)) fun z=>by
  obtain⟨hb,e⟩:=Pe z
  obtain⟨f0,f1,f2,_⟩:=hf p.1 hb
  obtain⟨o,e',d⟩:=ho p.1 hb
  rw[e] at e';cases e'
  exact⟨e,f0,f1,f2,d⟩
theorem Inv.unpinned(I:Inv X (pins++pl) σ H s):Inv X pins σ H s:=I.pins_of fun p hp=>I.pin p (zAX _ (zB _ hp))
theorem A7(hp:PassesOwn (model X.prog X.w) X.A X.env X.xe)(hc:X.calm=true)(hi:PI X tg ae wi)(hg:PG X tg g)(hb:PSs X body tb)(hs:∀x,foldedSetIterable ae X.env x=pure x:=by intro _;rfl):PS X (.For tg ae body [] pos) (Kf wi g tb):=by
 intro pins s σ H D I h
 refine wpAny_For (AO (hi pins s σ H _ I h) fun v s1 h1=>AO h1 fun bD s2 h2=>?_) hs
 obtain⟨it,fp,tn,J,H2,e,I2,T,eB,f2,W,⟨m0,w0⟩,eW⟩:=h2
 subst e
 have dD:∀{H':Hp},(∀b∈fp,H' b=none)->∀b∈fp,CL X pins H' b:=fun hn b hb=>⟨hn b hb,(f2 b hb).2⟩
 refine codeAny_forLoop_any (fun n s'=>D0 fun i σ' H'=>Hw (Inv X pins σ' H' s') (tn i s'.heap) (∀b∈fp,H' b=none) (W i n σ' H')) ?_ m0 ⟨0,σ,H2,I2,eB,fun b hb=>(f2 b hb).1,w0⟩
 rintro n s3 ⟨i,σ3,H3,I3,eX,fr3,w3⟩
 rcases eW i n σ3 H3 w3 with⟨stop,qn⟩|⟨go,N,hN,step⟩
 ·refine wpAny_passesOwn hp (AO (T.done X rfl rfl rfl hc i pins s3 σ3 H3 X.xe I3 (dD fr3) eX stop) fun r s4 ⟨hr,I4⟩=>?_)
  subst hr
  exact wpAny_execs_nil ⟨σ3,H3,I4,qn⟩
 ·refine wpAny_passesOwn hp (AO (T.item X rfl rfl rfl hc i pins s3 σ3 H3 X.xe I3 (dD fr3) eX go) fun r s4 ⟨u,hr,h4⟩=>?_)
  subst hr
  refine wpAny_passesOwn hp (AO h4 fun _ s5 ⟨x,H5,I5,r5,y5,st5,fr5⟩=>?_)
  have I5':=I5.pinned (dD fr5) (T.obj _ _ st5)
  refine wpAny_passesOwn hp (AO (hg _ s5 σ3 H5 x u _ I5' r5 (step x H5 y5)) fun _ s6 ⟨σ6,H6,I6,q6⟩=>?_)
  refine wpAny_passesOwn hp (AO (hb _ s6 σ6 H6 _ I6 q6) fun f s7 q7=>?_)
  have again:∀{σ7:St}{H7:Hp},Inv X (pins++Gi fp s5.heap) σ7 H7 s7->N σ7 H7->∃m,m<n/\D0 fun i σ' H'=>Hw (Inv X pins σ' H' s7) (tn i s7.heap) (∀b∈fp,H' b=none) (W i m σ' H'):=fun {σ7 H7} I7 n7=>by
   obtain⟨m',hm,w7⟩:=hN σ7 H7 n7
   refine⟨m',hm,i+1,σ7,H7,I7.unpinned,T.keep _ _ _ st5 fun b hb o e=>(I7.pin (b,o) (zAX _ (zAX _ (De hb e)))).1,fun b hb=>?_,w7⟩
   obtain⟨o,e,d⟩:=T.obj _ _ st5 b hb
   exact (I7.pin (b,o) (zAX _ (zAX _ (De hb e)))).2.1
  cases f with
  | next=>obtain⟨σ7,H7,I7,n7⟩:=q7;exact again I7 n7
  | cont=>obtain⟨σ7,H7,I7,n7⟩:=q7;exact again I7 n7
  | brk=>obtain⟨σ7,H7,I7,q7⟩:=q7;exact⟨σ7,H7,I7.unpinned,q7⟩
  | ret v=>obtain⟨x7,σ7,H7,I7,r7,q7⟩:=q7;exact⟨x7,σ7,H7,I7.unpinned,r7,q7⟩
end
theorem AG{K:PySem.W.Frag}{a:Addr}{xs:List V}{g:TG}{tb:TS}{D:Ends}{σ:St}{H:Hp}(Pv:Nat->St->Hp->Prop)(h0:Pv 0 σ H)(hl:∀i σ H,i<=xs.length->Pv i σ H->SqL K H a xs)(hs:∀i x σ H,xs[i]? = some x->Pv i σ H->g x σ H fun σ2 H2=>tb { D with nx:=Pv (i+1),ct:=Pv (i+1),bk:=D.nx } σ2 H2)(hd:∀σ H,Pv xs.length σ H->D.nx σ H):
  ∃W:Nat->Nat->St->Hp->Prop,(∃m,W 0 m σ H)/\∀i m σ H,W i m σ H->
   ((Uo K a).stop i H/\D.nx σ H)\/((Uo K a).go i H/\∃N:St->Hp->Prop,(∀σ' H',N σ' H'->∃m',m'<m/\W (i+1) m' σ' H')/\∀x H',(Uo K a).yld i H x H'->g x σ H' fun σ2 H2=>tb { D with nx:=N,ct:=N,bk:=D.nx } σ2 H2):=by
 refine⟨fun i m σ H=>m=xs.length-i/\i<=xs.length/\Pv i σ H,⟨xs.length,by simp,zA4 _,h0⟩,?_⟩
 rintro i m σ H ⟨rfl,hi,p⟩
 have q:=hl i σ H hi p
 by_cases aK:i<xs.length
 ·refine .inr ⟨⟨xs,xs[i],q,by simp[aK]⟩,Pv (i+1),fun σ' H' p'=>⟨xs.length-(i+1),by omega,rfl,aK,p'⟩,fun x H' y=>?_⟩
  obtain⟨e,y⟩:=y
  subst e
  exact hs i x σ _ (y xs q) p
 ·have e:i=xs.length:=by omega
  subst e
  exact .inl ⟨⟨xs,q,zAA _⟩,hd σ H p⟩
theorem Jq{K:PySem.W.Frag}{a:Addr}{xs:List V}{g:TG}{tb:TS}{D:Ends}{σ:St}{H:Hp}(Pv:Nat->St->Hp->Prop)(h0:Pv 0 σ H)(hl:∀i σ H,i<=xs.length->Pv i σ H->SqT K H a xs)(hs:∀i x σ H,xs[i]? = some x->Pv i σ H->g x σ H fun σ2 H2=>tb { D with nx:=Pv (i+1),ct:=Pv (i+1),bk:=D.nx } σ2 H2)(hd:∀σ H,Pv xs.length σ H->D.nx σ H):
  ∃W:Nat->Nat->St->Hp->Prop,(∃m,W 0 m σ H)/\∀i m σ H,W i m σ H->
   ((WX K a).stop i H/\D.nx σ H)\/((WX K a).go i H/\∃N:St->Hp->Prop,(∀σ' H',N σ' H'->∃m',m'<m/\W (i+1) m' σ' H')/\∀x H',(WX K a).yld i H x H'->g x σ H' fun σ2 H2=>tb { D with nx:=N,ct:=N,bk:=D.nx } σ2 H2):=by
 refine⟨fun i m σ H=>m=xs.length-i/\i<=xs.length/\Pv i σ H,⟨xs.length,by simp,zA4 _,h0⟩,?_⟩
 rintro i m σ H ⟨rfl,hi,p⟩
 have q:=hl i σ H hi p
 by_cases aK:i<xs.length
 ·refine .inr ⟨⟨xs,xs[i],q,by simp[aK]⟩,Pv (i+1),fun σ' H' p'=>⟨xs.length-(i+1),by omega,rfl,aK,p'⟩,fun x H' y=>?_⟩
  obtain⟨e,y⟩:=y
  subst e
  exact hs i x σ _ (y xs q) p
 ·have e:i=xs.length:=by omega
  subst e
  exact .inl ⟨⟨xs,q,zAA _⟩,hd σ H p⟩
theorem BU{lo:Int}{n:Nat}{g:TG}{tb:TS}{D:Ends}{σ:St}{H:Hp}(Pv:Nat->St->Hp->Prop)(h0:Pv 0 σ H)(hs:∀i σ H,i<n->Pv i σ H->g (.int (lo+i)) σ H fun σ2 H2=>tb { D with nx:=Pv (i+1),ct:=Pv (i+1),bk:=D.nx } σ2 H2)(hd:∀σ H,Pv n σ H->D.nx σ H):
  ∃W:Nat->Nat->St->Hp->Prop,(∃m,W 0 m σ H)/\∀i m σ H,W i m σ H->
   ((VM lo n).stop i H/\D.nx σ H)\/((VM lo n).go i H/\∃N:St->Hp->Prop,(∀σ' H',N σ' H'->∃m',m'<m/\W (i+1) m' σ' H')/\∀x H',(VM lo n).yld i H x H'->g x σ H' fun σ2 H2=>tb { D with nx:=N,ct:=N,bk:=D.nx } σ2 H2):=by
 refine⟨fun i m σ H=>m=n-i/\i<=n/\Pv i σ H,⟨n,by simp,zA4 _,h0⟩,?_⟩
 rintro i m σ H ⟨rfl,hi,p⟩
 by_cases aK:i<n
 ·refine .inr ⟨aK,Pv (i+1),fun σ' H' p'=>⟨n-(i+1),by omega,rfl,aK,p'⟩,fun x H' y=>?_⟩
  obtain⟨e,y⟩:=y
  subst e y
  exact hs i σ _ aK p
 ·have e:i=n:=by omega
  subst e
  exact .inl ⟨zAA _,hd σ H p⟩
end L2
namespace L2
open PySem PySem.Spec PyProof.Rows
abbrev R2:=V->V->Hp->VK->Prop
def D1(X:Cx)(f:Value->Value->Sem Value)(r:R2):Prop:=
 ∀(pins:List (Addr×Obj))(s:Shared)(σ:St)(H:Hp)(x y:V)(v u:Value)(Q:VK),Inv X pins σ H s->RelV x v->RelV y u->r x y H Q->
  wpAny (model X.prog X.w) X.A (f v u) (EP X pins σ Q) X.xe s
def Xs(X:Cx)(f:Value->Sem Value)(r:V->Hp->VK->Prop):Prop:=
 ∀(pins:List (Addr×Obj))(s:Shared)(σ:St)(H:Hp)(x:V)(v:Value)(Q:VK),Inv X pins σ H s->RelV x v->r x H Q->
  wpAny (model X.prog X.w) X.A (f v) (EP X pins σ Q) X.xe s
def B6(X:Cx)(f:Value)(r:List V->Hp->VK->Prop):Prop:=
 ∀(pins:List (Addr×Obj))(s:Shared)(σ:St)(H:Hp)(xs:List V)(us:List Value)(Q:VK),Inv X pins σ H s->Vals xs us->r xs H Q->
  wpAny (model X.prog X.w) X.A (call f us) (EP X pins σ Q) X.xe s
def Xv(X:Cx)(r:V->Hp->(Bool->Hp->Prop)->Prop):Prop:=
 ∀(pins:List (Addr×Obj))(s:Shared)(σ:St)(H:Hp)(x:V)(v:Value)(Q:Bool->Hp->Prop),Inv X pins σ H s->RelV x v->r x H Q->
  wpAny (model X.prog X.w) X.A (truthy v) (TP X pins σ Q) X.xe s
def Sn(r:R2)(ta tb:TE):TE:=fun σ H Q=>ta σ H fun x H1=>tb σ H1 fun y H2=>r x y H2 Q
def X9(r:V->Hp->VK->Prop)(ta:TE):TE:=fun σ H Q=>ta σ H fun x H1=>r x H1 Q
def rI(C:Int->Int->Prop)(g:Int->Int->V):R2:=fun x y H Q=>vI (fun i=>vI (fun j=>C i j/\Q (g i j) H) y) x
def Ss(g:Int->Int->V):R2:=fun x y H Q=>vI (fun i=>vI (fun j=>Q (g i j) H) y) x
inductive rU(g:Int->V)(x:V)(H:Hp)(Q:VK):Prop where
 | mk (i) (_:x= .int i) (_:Q (g i) H):rU g x H Q
section
variable {X:Cx}{a b c:Expr}{ta tb tc:TE}{pos:Pos}
theorem Vn(ha:PE X a ta)(hb:PE X b tb){pins:List (Addr×Obj)}{s:Shared}{σ:St}{H:Hp}{R:V->V->Hp->Prop}(I:Inv X pins σ H s)(h:ta σ H fun x H1=>tb σ H1 fun y H2=>R x y H2){Q:Value->Shared->Prop}{f:Value->Value->Sem Value}(hf:∀v u s2 x y H2,Inv X pins σ H2 s2->RelV x v->RelV y u->R x y H2->wpAny (model X.prog X.w) X.A (f v u) Q X.xe s2):
  wpAny (model X.prog X.w) X.A (eval a X.env) (fun v s₁=>wpAny (model X.prog X.w) X.A (eval b X.env) (fun u s₂=>wpAny (model X.prog X.w) X.A (f v u) Q X.xe s₂) X.xe s₁) X.xe s:=by
 refine AO (ha pins s σ H _ I h) fun v s1 ⟨x,H1,I1,r1,q1⟩=>?_
 refine AO (hb pins s1 σ H1 _ I1 q1) fun u s2 ⟨y,H2,I2,r2,q2⟩=>?_
 exact hf v u s2 x y H2 I2 r1 r2 q2
theorem Ak(ho:D1 X (binaryOp op) r)(ha:PE X a ta)(hb:PE X b tb):PE X (.BinOp a op b pos) (Sn r ta tb):=by
 intro pins s σ H Q I h
 exact wpAny_BinOp (Vn ha hb I h fun v u s2 x y H2 I2 rx ry q=>ho pins s2 σ H2 x y v u Q I2 rx ry q)
theorem Ks(ho:Xs X (unaryOp op) r)(ha:PE X a ta):PE X (.UnaryOp op a pos) (X9 r ta):=by
 intro pins s σ H Q I h
 exact UnaryOp_ (AO (ha pins s σ H _ I h) fun v s1 ⟨x,H1,I1,r1,q1⟩=>ho pins s1 σ H1 x v Q I1 r1 q1)
theorem VQ{C:Int->Int->Prop}{g:Int->Int->Int}(rule:∀(i j:Int) (t u:Tok) (s:Shared) (Q:Value->Shared->Prop) (E:Value->Shared->Prop),C i j->Q (.int (g i j) s.toks) { s with toks:=s.toks+1 }->wpAny (model X.prog X.w) X.A (f (.int i t) (.int j u)) Q E s):
  D1 X f (rI C fun i j=>.int (g i j)):=by
 intro pins s σ H x y v u Q I rx ry h
 obtain⟨i,rfl,h0⟩:=Ew h
 obtain⟨j,rfl,hc,q⟩:=Ew h0
 obtain⟨t,rfl⟩:=rx
 obtain⟨t',rfl⟩:=ry
 exact rule i j t t' s _ _ hc ⟨.int (g i j),H,I.tok _,⟨_,rfl⟩,q⟩
theorem Vf{g:Int->Int->Int}(rule:∀(i j:Int) (t u:Tok) (s:Shared) (Q:Value->Shared->Prop) (E:Value->Shared->Prop),Q (.int (g i j) s.toks) { s with toks:=s.toks+1 }->wpAny (model X.prog X.w) X.A (f (.int i t) (.int j u)) Q E s):
  D1 X f (Ss fun i j=>.int (g i j)):=by
 intro pins s σ H x y v u Q I rx ry h
 obtain⟨i,rfl,h0⟩:=Ew h
 obtain⟨j,rfl,q⟩:=Ew h0
 obtain⟨t,rfl⟩:=rx
 obtain⟨t',rfl⟩:=ry
 exact rule i j t t' s _ _ ⟨.int (g i j),H,I.tok _,⟨_,rfl⟩,q⟩
theorem Wc{g:Int->Int->Bool}(rule:∀(i j:Int) (t u:Tok) (s:Shared) (Q:Value->Shared->Prop) (E:Value->Shared->Prop),Q (.bool (g i j)) s->wpAny (model X.prog X.w) X.A (f (.int i t) (.int j u)) Q E s):
  D1 X f (Ss fun i j=>.bl (g i j)):=by
 intro pins s σ H x y v u Q I rx ry h
 obtain⟨i,rfl,h0⟩:=Ew h
 obtain⟨j,rfl,q⟩:=Ew h0
 obtain⟨t,rfl⟩:=rx
 obtain⟨t',rfl⟩:=ry
 exact rule i j t t' s _ _ ⟨.bl (g i j),H,I,rfl,q⟩
def Xy(i j:Int):Prop:=0<j/\j<1073741824
def Wi(i j:Int):Prop:=0<=j/\j<=1000000/\i.natAbs<2^64
def CMul(i j:Int):Prop:=(-(2^64)<i/\i<2^64)\/(-(2^64)<j/\j<2^64)
theorem CMul.ok(h:CMul i j):IntMulOk i j:=by
 rcases h with⟨h1,h2⟩|⟨h1,h2⟩
 ·exact .of_left (intBits_le_64 h1 h2)
 ·exact .of_right (intBits_le_64 h1 h2)
theorem Lp(k:Nat):(0:Int)<=2^k:=by
 rw[two_pow_cast]
 exact Int.natCast_nonneg _
theorem BB:D1 X (binaryOp .Add) (Ss fun i j=>.int (i+j)):=Vf fun _ _ _ _ _ _ _ q=>add_int q
theorem Jk:D1 X (binaryOp .Sub) (Ss fun i j=>.int (i-j)):=Vf fun _ _ _ _ _ _ _ q=>sub_int q
theorem Gu:D1 X (binaryOp .Mult) (rI CMul fun i j=>.int (i*j)):=VQ fun _ _ _ _ _ _ _ hc q=>mul_int q hc.ok
theorem AT:D1 X (binaryOp .FloorDiv) (rI Xy fun i j=>.int (i / j)):=VQ fun i j _ _ _ _ _ hc q=>by
 have h1:(0:Int)<j:=hc.1
 have h2:j<1073741824:=hc.2
 exact floordiv_int (by omega) (by rw[zCI i (by omega)];exact q) (.inl (PyProof.noPylong_small (by omega)))
theorem AL:D1 X (binaryOp .Mod) (rI (fun _ j=>0<j) fun i j=>.int (i%j)):=VQ fun i j _ _ _ _ _ hc q=>by
 have h1:(0:Int)<j:=hc
 exact mod_int' (by omega) (by rw[Int.fmod_eq_emod_of_nonneg i (by omega)];exact q)
theorem PR:D1 X (binaryOp .Pow) (rI Wi fun i j=>.int (i^j.toNat)):=VQ fun _ _ _ _ _ _ _ hc q=>pow_int_small hc.1 hc.2.1 hc.2.2 q
theorem Vs:D1 X (binaryOp .LShift) (rI Wi fun i j=>.int (i*2^j.toNat)):=VQ fun _ _ _ _ _ _ _ hc q=>lshift_int_small hc.1 hc.2.1 hc.2.2 q
theorem V7:D1 X (binaryOp .RShift) (rI (fun _ j=>0<=j) fun i j=>.int (i / 2^j.toNat)):=VQ fun i j _ _ _ _ _ hc q=>
 rshift_int hc (by rw[zCI i (Lp _)];exact q)
theorem VZ:D1 X (binaryOp .BitAnd) (Ss fun i j=>.int (Builtin.bitAnd i j)):=Vf fun _ _ _ _ _ _ _ q=>and_int q
theorem Ya{g:Int->Int}(rule:∀(i:Int) (t:Tok) (s:Shared) (Q:Value->Shared->Prop) (E:Value->Shared->Prop),Q (.int (g i) s.toks) { s with toks:=s.toks+1 }->wpAny (model X.prog X.w) X.A (f (.int i t)) Q E s):
  Xs X f (rU fun i=>.int (g i)):=by
 intro pins s σ H x v Q I rx h
 obtain⟨i,rfl,q⟩:=h
 obtain⟨t,rfl⟩:=rx
 exact rule i t s _ _ ⟨.int (g i),H,I.tok _,⟨_,rfl⟩,q⟩
theorem GX:Xs X (unaryOp .USub) (rU fun i=>.int (-i)):=Ya fun _ _ _ _ _ q=>neg_int q
end
def Wv:V->V->Bool
 | .non,.non=>true | .non,.int _=>true | .int _,.non=>true | .non,.bl _=>true | .bl _,.non=>true | .non,.str _=>true | .str _,.non=>true
 | .int _,.int _=>true | .bl _,.bl _=>true | .str _,.str _=>true | .byt _,.byt _=>true
 | .int _,.str _=>true | .str _,.int _=>true | .bl _,.str _=>true | .str _,.bl _=>true
 | _,_=>false
def Yd:R2:=fun x y H Q=>Wv x y=true/\Q (.bl (decide (x=y))) H
def XI:R2:=fun x y H Q=>Wv x y=true/\Q (.bl (!decide (x=y))) H
theorem Nb:decide (V.int i=V.int j)=(i == j):=by
 rw[zA5]
 simp
theorem R0:decide (V.bl i=V.bl j)=(i == j):=by
 rw[zA5]
 simp
theorem Nd:decide (V.str i=V.str j)=(i == j):=by
 rw[zA5]
 simp
theorem NM:decide (V.byt i=V.byt j)=(i.toList == j.toList):=by
 rw[zA5]
 cases i
 cases j
 simp
section
variable {X:Cx}{a b c:Expr}{ta tb tc:TE}{pos:Pos}
theorem AW(I:Inv X pins σ H s)(q:Q (.bl k) H)(e:k=k'):EP X pins σ Q (.bool k') s:=by
 subst e
 exact⟨.bl k,H,I,rfl,q⟩
theorem AI:D1 X (compareOp .Eq) Yd:=by
 intro pins s σ H x y v u Q I rx ry h
 obtain⟨hs,q⟩:=h
 cases x with
 | non=>
  cases rx
  cases y with
  | non=>cases ry;exact PySem.EqNone.eq_none_none (AW I q (by simp))
  | bl j=>cases ry;exact PySem.EqNone.eq_none_bool (AW I q (by simp))
  | int j=>obtain⟨t',rfl⟩:=ry;exact PySem.EqNone.eq_none_int (AW I q (by simp))
  | str j=>obtain⟨t',rfl⟩:=ry;exact PySem.EqNone.eq_none_str (AW I q (by simp))
  | _=>exact absurd (show false=true from hs) zAB
 | bl i=>
  cases rx
  cases y with
  | non=>cases ry;exact PySem.EqNone.eq_bool_none (AW I q (by simp))
  | bl j=>cases ry;exact eq_bool (AW I q R0)
  | str j=>obtain⟨t',rfl⟩:=ry;exact PySem.EqMixed.eq_bool_str (AW I q (by simp))
  | _=>exact absurd (show false=true from hs) zAB
 | int i=>
  obtain⟨t,rfl⟩:=rx
  cases y with
  | non=>cases ry;exact PySem.EqNone.eq_int_none (AW I q (by simp))
  | int j=>obtain⟨t',rfl⟩:=ry;exact eq_int (AW I q Nb)
  | str j=>obtain⟨t',rfl⟩:=ry;exact PySem.EqMixed.eq_int_str (AW I q (by simp))
  | _=>exact absurd (show false=true from hs) zAB
 | str i=>
  obtain⟨t,rfl⟩:=rx
  cases y with
  | non=>cases ry;exact PySem.EqNone.eq_str_none (AW I q (by simp))
  | bl j=>cases ry;exact PySem.EqMixed.eq_str_bool (AW I q (by simp))
  | int j=>obtain⟨t',rfl⟩:=ry;exact PySem.EqMixed.eq_str_int (AW I q (by simp))
  | str j=>obtain⟨t',rfl⟩:=ry;exact eq_str (AW I q Nd)
  | _=>exact absurd (show false=true from hs) zAB
 | byt i=>
  obtain⟨t,rfl⟩:=rx
  cases y with
  | byt j=>obtain⟨t',rfl⟩:=ry;exact PySem.W.eq_bytes (AW I q NM)
  | _=>exact absurd (show false=true from hs) zAB
 | _=>cases y<;>exact absurd (show false=true from hs) zAB
theorem Cl:D1 X (compareOp .NotEq) XI:=by
 intro pins s σ H x y v u Q I rx ry h
 obtain⟨hs,q⟩:=h
 cases x with
 | non=>
  cases rx
  cases y with
  | non=>cases ry;exact PySem.EqNone.ne_none_none (AW I q (by simp))
  | bl j=>cases ry;exact PySem.EqNone.ne_none_bool (AW I q (by simp))
  | int j=>obtain⟨t',rfl⟩:=ry;exact PySem.EqNone.ne_none_int (AW I q (by simp))
  | str j=>obtain⟨t',rfl⟩:=ry;exact PySem.EqNone.ne_none_str (AW I q (by simp))
  | _=>exact absurd (show false=true from hs) zAB
 | bl i=>
  cases rx
  cases y with
  | non=>cases ry;exact PySem.EqNone.ne_bool_none (AW I q (by simp))
  | bl j=>cases ry;exact ne_bool (AW I q (congrArg not R0))
  | str j=>obtain⟨t',rfl⟩:=ry;exact PySem.EqMixed.ne_bool_str (AW I q (by simp))
  | _=>exact absurd (show false=true from hs) zAB
 | int i=>
  obtain⟨t,rfl⟩:=rx
  cases y with
  | non=>cases ry;exact PySem.EqNone.ne_int_none (AW I q (by simp))
  | int j=>obtain⟨t',rfl⟩:=ry;exact ne_int (AW I q (congrArg not Nb))
  | str j=>obtain⟨t',rfl⟩:=ry;exact PySem.EqMixed.ne_int_str (AW I q (by simp))
  | _=>exact absurd (show false=true from hs) zAB
 | str i=>
  obtain⟨t,rfl⟩:=rx
  cases y with
  | non=>cases ry;exact PySem.EqNone.ne_str_none (AW I q (by simp))
  | bl j=>cases ry;exact PySem.EqMixed.ne_str_bool (AW I q (by simp))
  | int j=>obtain⟨t',rfl⟩:=ry;exact PySem.EqMixed.ne_str_int (AW I q (by simp))
  | str j=>obtain⟨t',rfl⟩:=ry;exact ne_str (AW I q (congrArg not Nd))
  | _=>exact absurd (show false=true from hs) zAB
 | byt i=>
  obtain⟨t,rfl⟩:=rx
  cases y with
  | byt j=>obtain⟨t',rfl⟩:=ry;exact PySem.W.ne_bytes (AW I q (congrArg not NM))
  | _=>exact absurd (show false=true from hs) zAB
 | _=>cases y<;>exact absurd (show false=true from hs) zAB
theorem MV:D1 X (compareOp .Lt) (Ss fun i j=>.bl (decide (i<j))):=Wc fun _ _ _ _ _ _ _ q=>lt_int q
theorem FJ:D1 X (compareOp .Gt) (Ss fun i j=>.bl (decide (j<i))):=Wc fun _ _ _ _ _ _ _ q=>gt_int q
theorem Uk:D1 X (compareOp .GtE) (Ss fun i j=>.bl (decide (j<=i))):=Wc fun _ _ _ _ _ _ _ q=>ge_int q
theorem Cf(b:Expr)(h:op≠.In:=by decide)(h2:op≠.NotIn:=by decide):behindInMarks op b=false:=by
 have e1:(op == CmpOp.In)=false:=by cases op<;>first | rfl | exact absurd rfl h
 have e2:(op == CmpOp.NotIn)=false:=by cases op<;>first | rfl | exact absurd rfl h2
 cases b<;>simp[behindInMarks,e1,e2]
theorem BW(ho:D1 X (compareOp op) r)(ha:PE X a ta)(hb:PE X b tb)(hm:behindInMarks op b=false):PE X (.Compare a [op] [b] pos) (Sn r ta tb):=by
 intro pins s σ H Q I h
 exact wpAny_Compare1 (Vn ha hb I h fun v u s2 x y H2 I2 rx ry q=>ho pins s2 σ H2 x y v u Q I2 rx ry q) hm
def Rk(Q:Bool->Hp->Prop)(x:V)(H':Hp):Prop:=vB (fun k=>Q k H') x
def Iw(t:TE):TT:=fun σ H Q=>t σ H (Rk Q)
theorem DI(ho:D1 X (compareOp op) r)(ha:PE X a ta)(hb:PE X b tb)(hm:behindInMarks op b=false):PT X (.Compare a [op] [b] pos) (Iw (Sn r ta tb)):=by
 intro pins s σ H Q I h
 refine wpAny_isTrue_Compare1 (AO (ha pins s σ H _ I h) fun v s1 ⟨x,H1,I1,r1,q1⟩=>AO (hb pins s1 σ H1 _ I1 q1) fun u s2 ⟨y,H2,I2,r2,q2⟩=>
  AO (ho pins s2 σ H2 x y v u _ I2 r1 r2 q2) fun c s3 ⟨z,H3,I3,r3,q3⟩=>?_) hm
 obtain⟨k,rfl,q3'⟩:=Iv q3
 cases r3
 exact wpAny_truthy_bool ⟨H3,I3,q3'⟩
def Wq(K:PySem.W.Frag)(x:V)(H:Hp)(k:Bool):Prop:=
 match x with
 | .non=>k=false
 | .bl b=>k=b
 | .int i=>k=(i != 0)
 | .str y=>y.length<=sizeLine/\k=((y.length:Int) != 0)
 | .byt y=>y.size<=sizeLine/\k=((y.size:Int) != 0)
 | .ref p=>(∃xs,SqL K H p xs/\k = !xs.isEmpty)\/(∃xs,SqT K H p xs/\k = !xs.isEmpty)\/∃aQ,H p=some (.dK aQ)/\k = !aQ.isEmpty
 | _=>False
theorem LV{κ:Type}{aQ:List (κ×V)}{vs:List (κ×Value)}(r:KV aQ vs):(!vs.isEmpty) = !aQ.isEmpty:=by
 cases r<;>rfl
theorem G7(r:Vals xs its):(!its.toArray.isEmpty) = !xs.isEmpty:=by
 cases r<;>simp
theorem GK:(sizeLine:Nat)<2^63:=by rw[sizeLine_eq];decide
theorem V5:Xv X (fun x H Q=>∃k,Wq X.K x H k/\Q k H):=by
 intro pins s σ H x v Q I rx h
 obtain⟨k,e,q⟩:=h
 have hl:=GK
 have hs:sizeLine=16777216:=sizeLine_eq
 cases x with
 | non=>
  cases rx
  have e':k=false:=e
  subst e'
  exact truthy_none ⟨H,I,q⟩
 | bl b=>
  cases rx
  have e':k=b:=e
  subst e'
  exact wpAny_truthy_bool ⟨H,I,q⟩
 | int i=>
  obtain⟨t,rfl⟩:=rx
  have e':k=(i != 0):=e
  subst e'
  exact PySem.P.truthy_int ⟨H,I,q⟩
 | str y=>
  obtain⟨t,rfl⟩:=rx
  obtain⟨hy,e'⟩:y.length<=sizeLine/\k=((y.length:Int) != 0):=e
  subst e'
  exact PySem.P.truthy_str (by omega) ⟨H,I.tok _,q⟩
 | byt y=>
  obtain⟨t,rfl⟩:=rx
  obtain⟨hy,e'⟩:y.size<=sizeLine/\k=((y.size:Int) != 0):=e
  subst e'
  exact PySem.W.truthy_bytes (by omega) ⟨H,I.tok _,q⟩
 | ref p=>
  cases rx
  have e':(∃xs,SqL X.K H p xs/\k = !xs.isEmpty)\/(∃xs,SqT X.K H p xs/\k = !xs.isEmpty)\/∃aQ,H p=some (.dK aQ)/\k = !aQ.isEmpty:=e
  rcases e' with⟨xs,hx,e'⟩|⟨xs,hx,e'⟩|⟨aQ,hx,e'⟩
  ·subst e'
   obtain⟨its,r,pl,hz⟩:=I.list hx
   have aj:=r.length
   exact wpAny_truthy_list pl.isList (by simp only[zAG];omega) ⟨H,I.tok _,by rw[G7 r];exact q⟩
  ·subst e'
   obtain⟨its,r,pl,hz⟩:=I.tuple hx
   have aj:=r.length
   exact truthy_tuple pl (by simp only[zAG];omega) ⟨H,I.tok _,by rw[G7 r];exact q⟩
  ·subst e'
   obtain⟨hz,hS,vs,r,m⟩:aQ.length<=sizeLine/\(p == sysModules)=false/\∃vs,KV aQ vs/\s.heap.DictOf (Ja X.prog X.w) p vs:=I.hok p _ hx
   have aj:aQ.length=vs.length:=zA1 r
   exact wpAny_truthy_dict hS m (by omega) ⟨H,I.tok _,by rw[LV r];exact q⟩
 | _=>exact (show False from e).elim
theorem CO(ha:PE X a ta)(he:∀bJ,isTrue a X.env bJ=(do let v <-bJ;standAt a.pos;holding [v] (truthy v))):
  PT X a (fun σ H Q=>ta σ H fun x H'=>∃k,Wq X.K x H' k/\Q k H'):=by
 intro pins s σ H Q I h
 exact isTrue_plain (AO (ha pins s σ H _ I h) fun v s1 ⟨x,H1,I1,r1,q1⟩=>V5 pins s1 σ H1 x v Q I1 r1 q1) (he _)
def IY:R2:=fun x y H Q=>vS (fun i=>vS (fun j=>i.length+j.length<=sizeLine/\Q (.str (i++j)) H) y) x
theorem CW:D1 X (binaryOp .Add) (IY):=by
 intro pins s σ H x y v u Q I rx ry h
 obtain⟨i,rfl,h0⟩:=Us h
 obtain⟨j,rfl,hz,q⟩:=Us h0
 obtain⟨t,rfl⟩:=rx
 obtain⟨t',rfl⟩:=ry
 exact add_str (fun t' tk=>⟨.str (i++j),H,I.tok _,⟨_,rfl⟩,q⟩) hz
theorem Df(r:Vals [x] us):∃u,us=[u]/\RelV x u:=by
 cases r with
 | cons r1 r2=>cases r2;exact⟨_,rfl,r1⟩
theorem PD(r:Vals [x,y] us):BF fun u w'=>Cc (us=[u,w']) (RelV x u) (RelV y w'):=by
 cases r with
 | cons r1 r2=>
  cases r2 with
  | cons r3 r4=>cases r4;exact⟨_,_,rfl,r1,r3⟩
inductive GU(xs:List V)(H:Hp)(Q:VK):Prop where
 | mk (i) (_:xs=[.int i]) (_:Q (.int (if i<0 then -i else i)) H):GU xs H Q
theorem Rs:B6 X (.builtin "abs") (GU):=by
 intro pins s σ H xs us Q I r h
 obtain⟨i,rfl,q⟩:=h
 obtain⟨u,rfl,t,rfl⟩:=Df r
 exact call_abs_int fun u tk=>⟨.int (if i<0 then -i else i),H,I.tok _,⟨_,rfl⟩,q⟩
inductive FA(xs:List V)(H:Hp)(Q:VK):Prop where
 | mk (i j) (_:xs=[.int i,.int j]) (_:Q (.int (if j<i then j else i)) H):FA xs H Q
theorem Ii(hc:X.calm=true):B6 X (.builtin "min") (FA):=by
 intro pins s σ H xs us Q I r h
 obtain⟨i,j,rfl,q⟩:=h
 obtain⟨u,w',rfl,⟨t,rfl⟩,⟨t',rfl⟩⟩:=PD r
 refine min_two_ints (I.ok.hd hc) fun h' tk k=>⟨_,H,I.kept k,?_,q⟩
 by_cases hj:j<i
 ·rw[if_pos hj,if_pos hj];exact⟨_,rfl⟩
 ·rw[if_neg hj,if_neg hj];exact⟨_,rfl⟩
end
end L2
namespace L2
open PySem PySem.Spec PyProof.Rows
structure ObjM(h:Heap)(x dx C:Addr)(mA:Str->Option Value):Prop where
 obj:h.get? x=some (PySem.W.instObj C dx)
 ns:h.Ns1 dx mA
 ne:dx≠x
theorem OH{h:Heap}{dx:Addr}{mA:Str->Option Value}(n:h.Ns1 dx mA):∃od,h.get? dx=some od/\∀name,PySem.W.lookIn name od=some (mA name):=by
 obtain⟨o,es,ep,ho,hd,hk,_,hm⟩:=n
 refine⟨o,ho,fun name=>?_⟩
 have e:=hm name
 unfold nsFind findBy at e
 rw[<-Array.find?_toList] at e
 unfold PySem.W.lookIn
 rw[hd]
 dsimp only
 split
 ·rename_i y q
  rw[q] at e
  exact congrArg some e
 ·rename_i q
  rw[q] at e
  have a:es.toList.any (·.refKey)=false:=by
   rw[List.any_eq_false]
   intro y hy
   obtain⟨z,t,eY⟩:=hk y (Array.mem_toList_iff.mp hy)
   simp[DictEntry.refKey,eY]
  have a':¬es.toList.any (·.refKey)=true:=by rw[a];exact zAB
  rw[if_neg a']
  exact congrArg some e
theorem ObjM.look(I:ObjM h x dx C mA):∃od,PySem.W.InstAt h x (PySem.W.instObj C dx) C (some od)/\∀name,PySem.W.lookIn name od=some (mA name):=
 let ⟨od,ho,hl⟩:=OH I.ns
 ⟨od,⟨I.obj,rfl,rfl,ho⟩,hl⟩
section
variable {prog:Program}{w:World}{A:Around}{E:Value->Shared->Prop}{s:Shared}{K:PySem.W.Frag}{x dx C f:Addr}{mA:Str->Option Value}{name:Str}{v:Value}
theorem SB(X:K.In s.heap)(I:ObjM s.heap x dx C mA)(hg:PySem.W.plainGet K C name=true)(hh:PySem.W.hasDictIn K C=true)(ha:PySem.W.findIn K (.ref C) name=some none)(hv:mA name=some v)(hJ:PySem.W.handedIn v=true)(h:Q v { s with toks:=s.toks+1 }):
  wpAny (model prog w) A (getAttr (.ref x) name gf) Q E s:=by
 obtain⟨od,J,hl⟩:=I.look
 exact PySem.W.get_value X J (zC4 hg).1 (PySem.W.findObj_own hh ha rfl (by rw[hl,hv])) hJ h
theorem RV(X:K.In s.heap)(I:ObjM s.heap x dx C mA)(hg:PySem.W.plainGet K C name=true)(hf:PySem.W.findIn K (.ref C) name=some (some (.ref f)))(ht:PySem.W.isFn K (.ref f)=true)(hv:mA name=none)(h:Q (.ref f,[.ref x]) s):
  wpAny (model prog w) A (getMethod (.ref x) name pl) Q E s:=by
 obtain⟨od,J,hl⟩:=I.look
 exact PySem.W.method_fn X J (zC4 hg).1 (zC4 hg).2 hf (beq_iff_eq.mp ht) (by show (PySem.W.lookIn name od).map (·.isSome)=some false;rw[hl,hv];rfl) h
theorem Ua(X:K.In s.heap)(I:ObjM s.heap x dx C mA)(hs:PySem.W.findIn K (.ref C) "__setattr__"=some (some (.builtin "object.__setattr__")))(hp:PySem.W.plainOver K C=true)(ht:PySem.W.takerIn K C name=some none)(hh:PySem.W.hasDictIn K C=true)(hw:PySem.Within mA ns)(ay:ns.length<=sizeLine)(h:∀h',ObjM h' x dx C (fun y=>if y=name then some v else mA y)->Heap.SameBut dx s.heap h'->Q () { s with heap:=h',toks:=s.toks+2 }):
  wpAny (model prog w) A (setAttr (.ref x) name v) Q E s:=by
 obtain⟨od,J,hl⟩:=I.look
 refine PySem.W.set_plain X J hs (PySem.W.osa_open (s:={ s with toks:=s.toks+1 }) (r:=none) X J hp ht fun b=>?_)
 obtain⟨cd,hc,hd'⟩:=PySem.W.any_some hh
 have hx:s.heap.get? x=some ⟨.ref C,some dx,.plain,#[]⟩:=I.obj
 refine wpAny_bind (wpAny_pure (wpAny_bind (wpAny_bind (wpAny_loadPart hx (wpAny_bind (zC8 (s:={ s with toks:=s.toks+1 }) (PySem.W.looks_clsIn X hc) ?_))))))
 rw[hd']
 refine wpAny_pure (a:=some dx) (wpAny_bind (wpAny_pure (wpAny_bind ?_)))
 refine wpAny_nsSet1 (s:={ s with toks:=s.toks+1 }) I.ns fun h' dQ gd=>?_
 obtain⟨oD,esD,epD,hoD,hdD,hcD⟩:=dQ.count (PySem.Within.cons name v hw)
 refine wpAny_bind (wpAny_lookBehind hoD (by rw[hdD];exact pastItsLine_dict (zAC hcD (by rw[zAQ];omega))) ?_)
 exact wpAny_pure (h _ ⟨(gd.2 _ (zBD I.ne)).trans I.obj,dQ,I.ne⟩ gd)
theorem Sd(X:K.In s.heap)(hm:PySem.W.makesIn K C=true)(hi:PySem.W.findIn K (.ref C) "__init__"=some (some (.ref f)))(hf:PySem.W.typeIn K (.ref f)=some (.type "function"))(h:codeAny (model prog w) (A.under (.builtin "type.__call__" ⟨.ref C::vs,kw⟩)) (.call (.ref f) ⟨.ref (s.heap.objs.size+1)::vs,kw⟩) (PySem.W.InitBack (s.heap.objs.size+1) R)
   { s with heap:=(s.heap.push PySem.W.emptyDict).push (PySem.W.instObj C s.heap.objs.size) }):
  codeAny (model prog w) A (.call (.ref C) ⟨vs,kw⟩) R s:=by
 obtain⟨hh,g,d,t,os⟩:=s
 exact PySem.W.make_core (PySem.W.makes_of X hm) (zCY X hi) (fun self=>PySem.W.bind_fn X self hf) (.inl rfl) h
end
def BC(f:Str)(v:V):List (Str×V)->List (Str×V)
 | []=>[(f,v)]
 | (g,x)::r=>if g=f then (g,v)::r else (g,x)::BC f v r
theorem Ft(f g:Str)(v:V):∀fs:List (Str×V),(BC f v fs).lookup g=if g=f then some v else fs.lookup g
 | []=>by
  show List.lookup g [(f,v)]=_
  by_cases h:g=f
  ·have hb:(g == f)=true:=beq_iff_eq.mpr h
   simp only[List.lookup,hb,if_pos h]
  ·have hb:(g == f)=false:=beq_eq_false_iff_ne.mpr h
   simp only[List.lookup,hb,if_neg h]
 | (k,x)::r=>by
  have ih:=Ft f g v r
  rw[show BC f v ((k,x)::r)=(if k=f then (k,v)::r else (k,x)::BC f v r) from rfl]
  by_cases hk:k=f
  ·rw[if_pos hk]
   by_cases h:g=k
   ·have hb:(g == k)=true:=beq_iff_eq.mpr h
    simp only[List.lookup,hb,if_pos (h.trans hk)]
   ·have hb:(g == k)=false:=beq_eq_false_iff_ne.mpr h
    simp only[List.lookup,hb,if_neg (fun e:g=f=>h (e.trans hk.symm))]
  ·rw[if_neg hk]
   by_cases h:g=k
   ·have hb:(g == k)=true:=beq_iff_eq.mpr h
    simp only[List.lookup,hb,if_neg (fun e:g=f=>hk (h.symm.trans e))]
   ·have hb:(g == k)=false:=beq_eq_false_iff_ne.mpr h
    simp only[List.lookup,hb]
    exact ih
theorem E7(f:Str)(v:V):∀fs:List (Str×V),f∈(BC f v fs).map (·.1)/\∀g,g∈fs.map (·.1)->g∈(BC f v fs).map (·.1)
 | []=>⟨by simp[BC],fun g h=>by simp at h⟩
 | (k,x)::r=>by
  obtain⟨i1,i2⟩:=E7 f v r
  rw[show BC f v ((k,x)::r)=(if k=f then (k,v)::r else (k,x)::BC f v r) from rfl]
  by_cases hk:k=f
  ·rw[if_pos hk]
   subst hk
   exact⟨by simp,fun g h=>by simpa using h⟩
  ·rw[if_neg hk]
   refine⟨?_,fun g h=>?_⟩
   ·rw[zA7]
    exact List.mem_cons_of_mem _ i1
   ·rw[zA7] at h ⊢
    rcases List.mem_cons.mp h with e | e
    ·exact List.mem_cons.mpr (.inl e)
    ·exact List.mem_cons_of_mem _ (i2 g e)
theorem FK(f:Str)(v:V):∀fs:List (Str×V),(BC f v fs).length<=fs.length+1
 | []=>by simp[BC]
 | (k,x)::r=>by
  have ih:=FK f v r
  rw[show BC f v ((k,x)::r)=(if k=f then (k,v)::r else (k,x)::BC f v r) from rfl]
  by_cases hk:k=f
  ·rw[if_pos hk,zAQ,zAQ];omega
  ·rw[if_neg hk,zAQ,zAQ];omega
theorem RelO.some_of(r:RelO (some v) o):∃u,o=some u/\RelV v u:=by
 cases o with
 | none=>exact (show False from r).elim
 | some u=>exact⟨u,rfl,r⟩
theorem RelO.none_of(r:RelO none o):o=none:=by
 cases o with
 | none=>rfl
 | some u=>exact (show False from r).elim
theorem O9(r:RelV v u):PySem.W.handedIn u=true:=by
 cases v with
 | non=>cases (show u=Value.none from r);rfl
 | bl b=>cases (show u=Value.bool b from r);rfl
 | int i=>obtain⟨t,e⟩:=(show ∃t,u=Value.int i t from r);cases e;rfl
 | str x=>obtain⟨t,e⟩:=(show ∃t,u=Value.str x t from r);cases e;rfl
 | byt b=>obtain⟨t,e⟩:=(show ∃t,u=Value.bytes b t from r);cases e;rfl
 | flt b=>obtain⟨t,e⟩:=(show ∃t,u=Value.float b t from r);cases e;rfl
 | ref a=>cases (show u=Value.ref a from r);rfl
 | ty n=>cases (show u=Value.type n from r);rfl
section
variable {P:Program}{w:World}{H H':Hp}{h h':Heap}{a C dx:Addr}{fs fs':List (Str×V)}
theorem Gb(hok:HOk P w H h)(e:H a=some (.ins C dx fs)):∃mA,Fs (ObjM h a dx C mA) (∀f,RelO (fs.lookup f) (mA f)) (PySem.Within mA (fs.map (·.1))) (fs.length<=1000) (H dx=some (.own a)):=by
 obtain⟨d,z,ne,ob,mA,n,r,q⟩:=(show ObjOk P w H h a (.ins C dx fs) from hok a _ e)
 exact⟨mA,⟨ob,n,ne⟩,r,q,z,d⟩
end
structure Cls(K:PySem.W.Frag)(C:Addr):Prop where
 pg:PySem.W.plainGet K C Str.empty=true
 hd:PySem.W.hasDictIn K C=true
 po:PySem.W.plainOver K C=true
 sa:PySem.W.findIn K (.ref C) "__setattr__"=some (some (.builtin "object.__setattr__"))
theorem Cls.get{K:PySem.W.Frag}(c:Cls K C)(f:Str):PySem.W.plainGet K C f=true:=c.pg
def NoAttr(K:PySem.W.Frag)(C:Addr)(f:Str):Prop:=PySem.W.findIn K (.ref C) f=some none
theorem NoAttr.taker{K:PySem.W.Frag}(n:NoAttr K C f):PySem.W.takerIn K C f=some none:=by
 unfold PySem.W.takerIn
 rw[show PySem.W.findIn K (.ref C) f=some none from n]
 rfl
structure Ph(K:PySem.W.Frag)(C:Addr)(m:Str)(f:Addr):Prop where
 at_:PySem.W.findIn K (.ref C) m=some (some (.ref f))
 fn:PySem.W.isFn K (.ref f)=true
 kp:PySem.W.keepIn K (.ref f)=true
section
variable {X:Cx}{pins:List (Addr×Obj)}{σ:St}{H:Hp}{s:Shared}{a C dx:Addr}{fs:List (Str×V)}{f:Str}{v:V}{A:Around}{E:Value->Shared->Prop}
theorem LM(I:Inv X pins σ H s)(e:H a=some (.ins C dx fs))(c:Cls X.K C)(n:NoAttr X.K C f)(l:fs.lookup f=some v)(h:∀u s',Inv X pins σ H s'->RelV v u->Q u s'):wpAny (model X.prog X.w) A (getAttr (.ref a) f b) Q E s:=by
 obtain⟨mA,O,r,_,_,_⟩:=Gb I.hok e
 obtain⟨u,hu,ru⟩:=RelO.some_of (v:=v) (o:=mA f) (by rw[<-l];exact r f)
 exact SB I.kIn O (c.get f) c.hd n hu (O9 ru) (h u _ (I.tok _) ru)
theorem G2(I:Inv X pins σ H s)(e:H a=some (.ins C dx fs))(c:Cls X.K C)(k:Ph X.K C m g)(l:fs.lookup m=none)(h:Q (.ref g,[.ref a]) s):wpAny (model X.prog X.w) A (getMethod (.ref a) m pl) Q E s:=by
 obtain⟨mA,O,r,_,_,_⟩:=Gb I.hok e
 have hn:mA m=none:=RelO.none_of (by rw[<-l];exact r m)
 exact RV I.kIn O (c.get m) k.at_ k.fn hn h
theorem L7(I:Inv X pins σ H s)(e:H a=some (.ins C dx fs))(c:Cls X.K C)(n:NoAttr X.K C f)(hl:fs.length<1000)(ry:RelV y u)(h:∀s',Inv X pins σ (upd H a (.ins C dx (BC f y fs))) s'->Q () s'):wpAny (model X.prog X.w) A (setAttr (.ref a) f u) Q E s:=by
 obtain⟨mA,O,r,wi,_,ho⟩:=Gb I.hok e
 have hz:(fs.map (·.1)).length<=sizeLine:=by rw[List.length_map,sizeLine_eq];omega
 refine Ua I.kIn O c.sa c.po n.taker c.hd wi hz fun h' O' sb=>h _ ?_
 have hd:∃o,h'.get? dx=some o:=let ⟨o,_,_,e',_⟩:=O'.ns;⟨o,e'⟩
 refine I.write (x:=a) (e:=dx) (by rw[e];exact True.intro) (.inr ho) (fun b q hb z=>(sb.2 b hb).trans z) hd ?_
 refine⟨by rw[Al O.ne];exact ho,?_,O.ne,O'.obj,_,O'.ns,fun g=>?_,fun g hg=>?_⟩
 ·have:=FK f y fs;omega
 ·show RelO ((BC f y fs).lookup g) (if g=f then some u else mA g)
  rw[Ft]
  by_cases q:g=f
  ·rw[if_pos q,if_pos q];exact ry
  ·rw[if_neg q,if_neg q];exact r g
 ·by_cases q:g=f
  ·rw[q];exact (E7 f y fs).1
  ·refine (E7 f y fs).2 g (wi g fun z=>hg ?_)
   show (if g=f then some u else mA g)=none
   rw[if_neg q];exact z
theorem Inv.made(I:Inv X pins σ H s):Inv X pins σ (upd (upd H s.heap.objs.size (.own (s.heap.objs.size+1))) (s.heap.objs.size+1) (.ins C s.heap.objs.size []))
  { s with heap:=(s.heap.push PySem.W.emptyDict).push (PySem.W.instObj C s.heap.objs.size) }:=by
 have e1:(s.heap.push PySem.W.emptyDict).get? s.heap.objs.size=some PySem.W.emptyDict:=Heap.get?_push_size s.heap rfl
 have e2:((s.heap.push PySem.W.emptyDict).push (PySem.W.instObj C s.heap.objs.size)).get? (s.heap.objs.size+1)=some (PySem.W.instObj C s.heap.objs.size):=by
  have:=Heap.get?_push_size (s.heap.push PySem.W.emptyDict) (o:=PySem.W.instObj C s.heap.objs.size) rfl
  rwa [zA6] at this
 have e3:(s.heap.push PySem.W.emptyDict).Ns s.heap.objs.size (fun _=>none):=⟨PySem.W.emptyDict,#[],_,e1,rfl,(fun e he=>absurd he (by simp)),fun _=>rfl⟩
 have I1:=I.laid (a:=s.heap.objs.size) (o:=.own (s.heap.objs.size+1)) (h':=s.heap.push PySem.W.emptyDict) (t':=s.toks) (fun b u q=>Heap.get?_push_of_some _ q) (zAA _) ⟨_,e1⟩
 refine I1.laid (a:=s.heap.objs.size+1) (o:=.ins C s.heap.objs.size []) (t':=s.toks) (fun b u q=>Heap.get?_push_of_some _ q) (Nat.le_of_eq (zA6 _ _)) ?_
 have ne:s.heap.objs.size≠s.heap.objs.size+1:=zAH (zC _)
 refine⟨by rw[Al ne,upd_same],zA4 _,ne,e2,fun _=>none,(Heap.Ns1.of_empty e3).at fun o q=>Heap.get?_push_of_some _ q,fun _=>True.intro,fun y hy=>absurd rfl hy⟩
theorem Ug(hb:attributeBase e f env (eval e env)=eval e env)(h:wpAny (model prog w) A (eval e env) (fun o s₁=>wpAny (model prog w) A (getAttr o f true) Q E s₁) E s):wpAny (model prog w) A (eval (.Attribute e f pos) env) Q E s:=
 Attribute_any_ h (by rw[arm_eval_Attribute,hb])
end
inductive UD(K:PySem.W.Frag)(f:Str)(Q:VK)(a:Addr)(H1:Hp):Prop where
 | mk {C dx fs v} (_:H1 a=some (.ins C dx fs)) (_:Cls K C) (_:NoAttr K C f) (_:fs.lookup f=some v) (_:Q v H1):UD K f Q a H1
def Wo(K:PySem.W.Frag)(f:Str)(Q:VK)(x:V)(H1:Hp):Prop:=vR (fun a=>UD K f Q a H1) x
def WP(K:PySem.W.Frag)(ta:TE)(f:Str):TE:=fun σ H Q=>ta σ H (Wo K f Q)
inductive UB(K:PySem.W.Frag)(f:Str)(D:Ends)(σ:St)(y:V)(a:Addr)(H2:Hp):Prop where
 | mk {C dx fs} (_:H2 a=some (.ins C dx fs)) (_:Cls K C) (_:NoAttr K C f) (_:fs.length<1000) (_:D.nx σ (upd H2 a (.ins C dx (BC f y fs)))):UB K f D σ y a H2
def Xc(K:PySem.W.Frag)(f:Str)(D:Ends)(σ:St)(y:V)(x:V)(H2:Hp):Prop:=vR (fun a=>UB K f D σ y a H2) x
def XS(K:PySem.W.Frag)(ta tv:TE)(f:Str):TS:=fun D σ H=>tv σ H fun y H1=>ta σ H1 (Xc K f D σ y)
section
variable {X:Cx}{o e value:Expr}{f:Str}{pos bK tpos:Pos}{ta tv:TE}
theorem AF(he:PE X e ta)(hb:attributeBase e f X.env (eval e X.env)=eval e X.env):PE X (.Attribute e f pos) (WP X.K ta f):=by
 intro pins s σ H Q I h
 refine Ug hb (AO (he pins s σ H _ I h) fun u s1 ⟨x,H1,I1,rx,h1⟩=>?_)
 obtain⟨a,rfl,@⟨C,dx,fs,v,ea,c,n,l,q⟩⟩:=CM h1
 obtain rfl:u=Value.ref a:=rx
 exact LM I1 ea c n l fun u' s2 I2 ru=>⟨v,H1,I2,ru,q⟩
theorem BV(ha:PE X o ta)(hv:PE X value tv)(hs:swapsWith value (some (.Attribute o f bK)) pos.line X.env=pure false):PS X (.Assign [.Attribute o f bK] value pos) (XS X.K ta tv f):=by
 intro pins s σ H D I h
 refine plainObj_wpAny_Assign_Attribute (AO (hv pins s σ H _ I h) fun u s1 ⟨y,H1,I1,ry,q⟩=>AO (ha pins s1 σ H1 _ I1 q) fun ov s2 ⟨x,H2,I2,rx,h2⟩=>?_) hs
 obtain⟨a,rfl,@⟨C,dx,fs,ea,c,n,l,q2⟩⟩:=CM h2
 obtain rfl:ov=Value.ref a:=rx
 exact L7 I2 ea c n l ry fun s3 I3=>⟨σ,_,I3,q2⟩
end
section
variable {X:Cx}{pins:List (Addr×Obj)}{σ:St}{H:Hp}{s:Shared}{A:Around}{E:Value->Shared->Prop}{Q:Value->Shared->Prop}{c:Value}{b:Bool}
inductive Fo(K:PySem.W.Frag)(H:Hp):V->Value->Prop where
 | non:Fo K H .non (.type "NoneType")
 | bl (x:Bool):Fo K H (.bl x) (.type "bool")
 | int (i:Int):Fo K H (.int i) (.type "int")
 | str (x:Str):Fo K H (.str x) (.type "str")
 | flt (x:UInt64):Fo K H (.flt x) (.type "float")
 | lst {a:Addr} {xs:List V} (e:H a=some (.lst xs)):Fo K H (.ref a) (.type "list")
 | frz {a:Addr} {o:Obj} {xs:List V} (e:H a=some (.frz o (.lst xs))):Fo K H (.ref a) (.type "list")
 | tup {a:Addr} {xs:List V} (e:H a=some (.tup xs)):Fo K H (.ref a) (.type "tuple")
 | dK {a:Addr} {aQ:List (Jr×V)} (e:H a=some (.dK aQ)):Fo K H (.ref a) (.type "dict")
 | dT {a:Addr} {aQ:List (List Jr×V)} (e:H a=some (.dT aQ)):Fo K H (.ref a) (.type "dict")
 | ins {a C dx:Addr} {fs:List (Str×V)} (e:H a=some (.ins C dx fs)) (cl:Cls K C) (ha:PySem.W.findIn K (.ref C) "__class__"=some (some (.builtin "object.__class__")))
   (hn:PySem.W.specialIn K (.builtin "object.__class__") "__get__"=some (some (.builtin "getset_descriptor.__get__"))) (htk:PySem.W.takesIn K (.builtin "object.__class__")=some true)
   (hm:PySem.W.mroIn K C (.type "object")=some true):Fo K H (.ref a) (.ref C)
theorem OU(I:Inv X pins σ H s)(rx:RelV x u)(ty:Fo X.K H x t)(e:PySem.W.kitOne X.K t c=some b)(h:∀tk,Q (.bool b) { s with toks:=tk }):
  wpAny (model X.prog X.w) A (call (.builtin "isinstance") [u,c]) Q E s:=by
 cases ty with
 | non=>cases (show u=Value.none from rx);exact zBB PySem.W.kitx_none I.kIn True.intro e (fun z=>nomatch z) h
 | bl y=>cases (show u=Value.bool y from rx);exact zBB PySem.W.kitx_bool I.kIn True.intro e (fun z=>nomatch z) h
 | int i=>obtain⟨t,q⟩:=(show ∃t,u=Value.int i t from rx);cases q;exact zBB PySem.W.kitx_int I.kIn True.intro e (fun z=>nomatch z) h
 | str y=>obtain⟨t,q⟩:=(show ∃t,u=Value.str y t from rx);cases q;exact zBB PySem.W.kitx_str I.kIn True.intro e (fun z=>nomatch z) h
 | flt y=>obtain⟨t,q⟩:=(show ∃t,u=Value.float y t from rx);cases q;exact zBB PySem.W.kitx_float I.kIn True.intro e (fun z=>nomatch z) h
 | @lst a xs ea=>
  cases (show u=Value.ref a from rx)
  obtain⟨_,_,n,_,h1⟩:=(show ObjOk X.prog X.w H s.heap a (.lst xs) from I.hok a _ ea)
  exact zBB PySem.W.kitx_list I.kIn ⟨_,h1,rfl⟩ e (fun z=>nomatch z) h
 | @frz a ob xs ea=>
  cases (show u=Value.ref a from rx)
  obtain⟨_,_,_,n,_,h1⟩:=(show ObjOk X.prog X.w H s.heap a (.frz ob (.lst xs)) from I.hok a _ ea)
  exact zBB PySem.W.kitx_list I.kIn ⟨_,h1,rfl⟩ e (fun z=>nomatch z) h
 | @tup a xs ea=>
  cases (show u=Value.ref a from rx)
  obtain⟨_,_,_,p⟩:=(show ObjOk X.prog X.w H s.heap a (.tup xs) from I.hok a _ ea)
  obtain⟨o,h1,h2,_⟩:=p
  exact zBB PySem.W.kitx_tuple I.kIn ⟨o,h1,h2⟩ e (fun z=>nomatch z) h
 | @dK a aQ ea=>
  cases (show u=Value.ref a from rx)
  obtain⟨_,_,vs,_,p⟩:=(show ObjOk X.prog X.w H s.heap a (.dK aQ) from I.hok a _ ea)
  obtain⟨o,es,ep,h1,h2,_⟩:=p
  exact zBB PySem.W.kitx_dict I.kIn ⟨o,h1,h2.1⟩ e (fun z=>nomatch z) h
 | @dT a aQ ea=>
  cases (show u=Value.ref a from rx)
  obtain⟨_,_,xs,_,o,es,ep,h1,h2,_⟩:=(show ObjOk X.prog X.w H s.heap a (.dT aQ) from I.hok a _ ea)
  exact zBB PySem.W.kitx_dict I.kIn ⟨o,h1,h2.1⟩ e (fun z=>nomatch z) h
 | @ins a C dx fs ea cl ha hn htk hm=>
  cases (show u=Value.ref a from rx)
  obtain⟨mA,O,_⟩:=Gb I.hok ea
  obtain⟨od,J,_⟩:=O.look
  exact zBB (PySem.W.kitx_own (cl.get _) cl.hd ha hn htk hm) I.kIn J e (fun z=>nomatch z) h
end
end L2
namespace L2
open PySem PySem.Spec PyProof.Rows
structure Room(k:Nat)(A:Around):Prop where
 hd:A.handled=none
 dp:A.depth+3*k+5<recursionLimit
 un:A.units+16*k+200<cLine
theorem Room.mono(r:Room k A)(h:j<=k):Room j A:=⟨r.hd,by have:=r.dp;omega,by have:=r.un;omega⟩
theorem Room.deeper(r:Room (k+1) A)(env:Env):Room k (A.deeper env):=
 ⟨r.hd,by have:=r.dp;show A.depth+1+3*k+5<_;omega,by have:=r.un;show A.units+3+16*k+200<_;omega⟩
theorem Lu{A:Around}{C:Addr}{us:List Value}{kw:List (Str×Value)}:(A.under (.builtin "type.__call__" ⟨.ref C::us,kw⟩)).depth=A.depth+1:=by
 first | rfl | simp[Around.under,Code.weight,Code.isCreation,Code.isGuard,Code.isCaller,Code.frames,Code.isFrame,guardIds]
theorem Mi{A:Around}{C:Addr}{us:List Value}{kw:List (Str×Value)}:(A.under (.builtin "type.__call__" ⟨.ref C::us,kw⟩)).units=A.units+1:=by
 first | rfl | simp[Around.under,Code.cUnits,Code.frames,Code.isFrame]
theorem Room.make(r:Room (k+1) A)(C:Addr)(us:List Value)(kw:List (Str×Value)):Room k (A.under (.builtin "type.__call__" ⟨.ref C::us,kw⟩)):=
 ⟨r.hd,by have:=r.dp;rw[Lu];omega,by have:=r.un;rw[Mi];omega⟩
theorem Room.depth(r:Room k A):A.depth<recursionLimit:=by have:=r.dp;omega
theorem Room.units0(r:Room k A):A.units<cLine:=by have:=r.un;omega
def Gx:TA:=fun _ H Q=>Q [] H
def D4(ta:TE)(tr:TA):TA:=fun σ H Q=>ta σ H fun x H1=>tr σ H1 fun xs H2=>Q (x::xs) H2
section
variable {X:Cx}{e:Expr}{es:List Expr}{te:TE}{t:TA}{pos:Pos}
theorem Bk:PA X [] Gx:=fun _ _ _ _ H Q I h=>Calls.spliced_nil ⟨[],H,I,.nil,h⟩
theorem Ac(ha:PE X e te)(hr:PA X es t)(hs:starEach (e::es) X.env=(false,eval e X.env)::starEach es X.env:=by rfl):PA X (e::es) (D4 te t):=by
 intro pos pins s σ H Q I h
 rw[hs]
 show wpAny _ _ (spliced ((false,eval e X.env)::backTo pos (starEach es X.env))) _ _ s
 refine Calls.spliced_cons (AO (ha pins s σ H _ I h) fun u s1 ⟨x,H1,I1,r1,q1⟩=>?_)
 exact AO (hr pos pins s1 σ H1 _ I1 q1) fun us s2 ⟨xs,H2,I2,r2,q2⟩=>⟨x::xs,H2,I2,.cons r1 r2,q2⟩
def XB(t:TA):TE:=fun σ H Q=>t σ H fun xs H1=>xs.length<=sizeLine/\∀p,H1 p=none->Q (.ref p) (upd H1 p (.tup xs))
def Qk(t:TA):TE:=fun σ H Q=>t σ H fun xs H1=>xs.length<=sizeLine/\∀p,H1 p=none->Q (.ref p) (upd H1 p (.lst xs))
theorem Aw {x1} (h:PA X es t):PE X (.Tuple es x1 pos) (XB t):=by
 intro pins s σ H Q I hq
 refine wpAny_Tuple_spliced (AO (h pos pins s σ H _ I hq) fun us s1 ⟨xs,H1,I1,r,z,q⟩=>⟨by rw[<-r.length];exact z,?_⟩)
 have hf:H1 s1.heap.objs.size=none:=I1.hok.fresh (zAA _)
 refine⟨.ref s1.heap.objs.size,upd H1 s1.heap.objs.size (.tup xs),I1.laid (t':=s1.toks) (fun b u e=>Heap.get?_push_of_some _ e) (zAA _) ?_,rfl,q _ hf⟩
 exact⟨z,us,r,⟨_,Heap.get?_push_size _ rfl,rfl,_,rfl⟩⟩
theorem Ar(h:PA X es t):PE X (.List es pos) (Qk t):=by
 intro pins s σ H Q I hq
 refine wpAny_List_spliced (AO (h pos pins s σ H _ I hq) fun us s1 ⟨xs,H1,I1,r,z,q⟩=>⟨by rw[<-r.length];exact z,?_⟩)
 have hf:H1 s1.heap.objs.size=none:=I1.hok.fresh (zAA _)
 refine⟨.ref s1.heap.objs.size,upd H1 s1.heap.objs.size (.lst xs),I1.laid (t':=s1.toks) (fun b u e=>Heap.get?_push_of_some _ e) (zAA _) ?_,rfl,q _ hf⟩
 exact⟨z,us,0,r,Heap.get?_push_size _ rfl⟩
end
abbrev Sp:=List V->Hp->VK->XK->Prop
abbrev Hv:=List Env->Hp->Shared->XK->Value->Shared->Prop
structure Env0(P:Program)(w:World)(K:PySem.W.Frag)(mg:Str->Option Value)(base:Heap)(A:Around)(outer:List Env)(s:Shared)(H:Hp):Prop where
 frames:A.frames=some outer
 mod:Mod K mg base
 bs:∀b o,base.get? b=some o->s.heap.get? b=some o/\H b=none
 bsz:base.objs.size<=s.heap.objs.size
 funs:s.heap.FunFrames base outer
 frf:∀b∈Gn outer,H b=none
 hok:HOk P w H s.heap
 bare:AllBare s.gens
inductive CE(outer:List Env)(P:Program)(w:World)(H:Hp)(s:Shared)(Q:VK)(u:Value)(s':Shared):Prop where
 | mk (v H') (_:s'.os=s.os) (_:AllBare s'.gens) (_:Un (Gn outer) [] H H' s.heap s'.heap) (_:HOk P w H' s'.heap) (_:RelV v u) (_:Q v H')
def CR(CX:Hv)(outer:List Env)(P:Program)(w:World)(H:Hp)(s:Shared)(Q:VK)(E:XK)(r:Result)(s':Shared):Prop:=
 match r with
 | .ok (.ret u)=>CE outer P w H s Q u s'
 | .ok _=>False
 | .error e=>CX outer H s E e s'
structure FnOk(P:Program)(w:World)(K:PySem.W.Frag)(mg:Str->Option Value)(base:Heap)(CX:Hv)(k:Nat)(f:Addr)(fd:FuncData)(ps:List Str)(sp:Sp):Prop where
 len:∀vs H Q E,sp vs H Q E->vs.length=ps.length
 run:∀(A:Around)(outer:List Env)(s:Shared)(H:Hp)(args:Args)(us:List Value)(vs:List V)(Q:VK)(E:XK),Room k A->Env0 P w K mg base A outer s H->BindsTo s fd args (ps.zip us)->Vals vs us->sp vs H Q E->
  codeAny (model P w) A (.call (.ref f) args) (CR CX outer P w H s Q E) s
theorem FnOk.imp{K:PySem.W.Frag}(F:FnOk P w K mg base CX k f fd ps sp)(h:∀vs H Q E,sp' vs H Q E->sp vs H Q E):FnOk P w K mg base CX k f fd ps sp':=
 ⟨fun vs H Q E q=>F.len vs H Q E (h _ _ _ _ q),fun A outer s H args us vs Q E hr he hb hv hs=>F.run A outer s H args us vs Q E hr he hb hv (h _ _ _ _ hs)⟩
theorem Env0.make{K:PySem.W.Frag}(e:Env0 P w K mg base A outer s H)(C:Addr)(us:List Value)(kw:List (Str×Value)):
  Env0 P w K mg base (A.under (.builtin "type.__call__" ⟨.ref C::us,kw⟩)) outer s H:=⟨by first | exact e.frames | (simpa [Around.under,Code.envs,Code.isFrame,pushEnvs] using e.frames),e.mod,e.bs,e.bsz,e.funs,e.frf,e.hok,e.bare⟩
section
variable {X:Cx}{pins:List (Addr×Obj)}{σ:St}{H:Hp}{s s':Shared}
theorem Inv.env0(I:Inv X pins σ H s):Env0 X.prog X.w X.K X.mg X.base X.A X.stack s H:=
 ⟨I.ok.frames,I.ok.mod,I.bs,zAC I.ok.bsz I.sz,I.stack,I.stkFree,I.hok,I.bare⟩
theorem Inv.after(I:Inv X pins σ H s)(h:CE X.stack X.prog X.w H s Q u s'):EP X pins σ Q u s':=by
 obtain⟨v,H',os,bare,un,hok,r,q⟩:=h
 obtain⟨hh,g,d,t,os'⟩:=s'
 obtain rfl:os'=s.os:=os
 exact⟨v,H',I.call (h':=hh) (g':=g) (d':=d) (t':=t) (ch:=[]) un hok bare (fun b z=>absurd z (by simp)),r,q⟩
end
def M5(sp:Sp)(aZ:List V)(E:XK)(t:TA):TE:=fun σ H Q=>t σ H fun vs H1=>sp (vs++aZ) H1 Q E
inductive QM(C:Addr)(m:Str)(sp:Sp)(aZ:List V)(E:XK)(t:TA)(σ:St)(Q:VK)(a:Addr)(H1:Hp):Prop where
 | mk {dx fs} (_:H1 a=some (.ins C dx fs)) (_:fs.lookup m=none) (_:t σ H1 fun vs H2=>sp (.ref a::(vs++aZ)) H2 Q E):QM C m sp aZ E t σ Q a H1
def Vw(C:Addr)(m:Str)(sp:Sp)(aZ:List V)(E:XK)(t:TA)(σ:St)(Q:VK)(x:V)(H1:Hp):Prop:=vR (fun a=>QM C m sp aZ E t σ Q a H1) x
def Ki(C:Addr)(m:Str)(sp:Sp)(aZ:List V)(E:XK)(ta:TE)(t:TA):TE:=fun σ H Q=>ta σ H (Vw C m sp aZ E t σ Q)
def UK(C:Addr)(sp:Sp)(aZ:List V)(E:XK)(t:TA):TE:=fun σ H Q=>t σ H fun vs H1=>∀x dx,H1 x=none->H1 dx=none->dx≠x->
 sp (.ref x::(vs++aZ)) (upd (upd H1 dx (.own x)) x (.ins C dx [])) (fun v H2=>v= .non/\Q (.ref x) H2) E
def Binds(K:PySem.W.Frag)(fd:FuncData)(ps:List Str)(ds:List Value):Prop:=
 ∀(s:Shared)(us:List Value),K.In s.heap->(us++ds).length=ps.length->BindsTo s fd ⟨us,[]⟩ (ps.zip (us++ds))
theorem Binds.all{K:PySem.W.Frag}(h:∀us:List Value,us.length=ps.length->bindArgs fd ⟨us,[]⟩=pure (ps.zip us)):Binds K fd ps []:=fun s us _ hl=>by
 rw[zAU] at hl ⊢
 exact .of_eq (h us hl)
def BS(CX:Hv)(X:Cx)(E:XK):Prop:=∀(pins:List (Addr×Obj))(σ:St)(H:Hp)(s:Shared)(e:Value)(s':Shared),Inv X pins σ H s->CX X.stack H s E e s'->X.xe e s'
section
variable {X:Cx}{CX:Hv}{k:Nat}{f C:Addr}{fd:FuncData}{ps:List Str}{sp:Sp}{aZ:List V}{ds:List Value}{E:XK}{x m:Str}{p pos aG:Pos}{e o:Expr}{es:List Expr}{ta:TE}{t:TA}
theorem LE(F:FnOk X.prog X.w X.K X.mg X.base CX k f fd ps sp)(hr:Room k X.A)(hb:Binds X.K fd ps ds)(hd:Vals aZ ds)(hx:BS CX X E)(I:Inv X pins σ H s)(r:Vals vs us)(h:sp (vs++aZ) H Q E):wpAny (model X.prog X.w) X.A (call (.ref f) us) (EP X pins σ Q) X.xe s:=by
 have r2:Vals (vs++aZ) (us++ds):=r.append hd
 have hl:(us++ds).length=ps.length:=by rw[<-r2.length];exact F.len _ _ _ _ h
 refine wpAny_call (codeAny_mono (F.run X.A X.stack s H ⟨us,[]⟩ (us++ds) (vs++aZ) Q E hr I.env0 (hb s us I.kIn hl) r2 h) fun r s' hq=>?_)
 cases r with
 | error e=>exact hx pins σ H s e s' I hq
 | ok fl=>
  cases fl with
  | ret u=>exact I.after hq
  | next=>exact False.elim hq
  | brk=>exact False.elim hq
  | cont=>exact False.elim hq
theorem TQ(F:FnOk X.prog X.w X.K X.mg X.base CX k f fd ps sp)(hr:Room k X.A)(hg:Gl X x)(hm:X.mg x=some (.ref f))(hk:PySem.W.keepIn X.K (.ref f)=true)(hb:Binds X.K fd ps ds)(hd:Vals aZ ds)(hx:BS CX X E)(ha:PA X (e::es) t)(bL:(x == ("__debug__":Str))=false:=by decide)(he:starEach (e::es) X.env=(false,eval e X.env)::starEach es X.env:=by rfl)(aD:(backTo pos (starEach es X.env)).any (·.1)=false:=by rfl):
  PE X (.Call (.Name x p) (e::es) [] pos) (M5 sp aZ E t):=by
 intro pins s σ H Q I h
 refine wpAny_Call_Name_kw (C8 I hg hm ?_ bL)
 refine zCD (h₀:=X.base) I.ok.mod.kin hk (AO (ha pos pins s σ H _ I h) fun us s1 ⟨vs,H1,I1,r,q⟩=>⟨I1.kIn,?_⟩) he aD
 exact LE F hr hb hd hx I1 r q
theorem Tm(he:PE X o ta)(c:Cls X.K C)(hm:Ph X.K C m f)(F:FnOk X.prog X.w X.K X.mg X.base CX k f fd ps sp)(hr:Room k X.A)(hb:Binds X.K fd ps ds)(hd:Vals aZ ds)(hx:BS CX X E)(ha:PA X (e::es) t)(cC:starEach (e::es) X.env=(false,eval e X.env)::starEach es X.env:=by rfl)(aD:(backTo pos (starEach es X.env)).any (·.1)=false:=by rfl)(ht:eval (.Call (.Attribute o m aG) (e::es) [] pos) X.env=(do
   let ov <-eval o X.env
   standAt aG.atName
   let (f,first) <-holding [ov] (getMethod ov m pl)
   callWith pos f first (backTo pos (starEach (e::es) X.env)) (backToKw pos (keywordEach [] X.env))):=by rfl):
  PE X (.Call (.Attribute o m aG) (e::es) [] pos) (Ki C m sp aZ E ta t):=by
 intro pins s σ H Q I h
 refine PySem.W.methodCall_KW (pl:=pl) (AO (he pins s σ H _ I h) fun u s1 ⟨x,H1,I1,rx,h1⟩=>?_) ht
 obtain⟨a,rfl,@⟨dx,fs,ea,l,q⟩⟩:=CM h1
 obtain rfl:u=Value.ref a:=rx
 refine G2 I1 ea c hm l ?_
 refine zCD (first:=[.ref a]) (h₀:=X.base) I.ok.mod.kin hm.kp (AO (ha pos pins s1 σ H1 _ I1 q) fun us s2 ⟨vs,H2,I2,r,q2⟩=>⟨I2.kIn,?_⟩) cC aD
 exact LE (us:=.ref a::us) (vs:=.ref a::vs) F hr hb hd hx I2 (.cons rfl r) q2
theorem Pq(he:PE X o ta)(c:Cls X.K C)(hm:Ph X.K C m f)(F:FnOk X.prog X.w X.K X.mg X.base CX k f fd ps sp)(hr:Room k X.A)(hb:Binds X.K fd ps ds)(hd:Vals aZ ds)(hx:BS CX X E)(ht:eval (.Call (.Attribute o m aG) [] [] pos) X.env=(do
   let ov <-eval o X.env
   standAt aG.atName
   let (f,first) <-holding [ov] (getMethod ov m pl)
   callWith pos f first (backTo pos (starEach [] X.env)) (backToKw pos (keywordEach [] X.env))):=by rfl):
  PE X (.Call (.Attribute o m aG) [] [] pos) (Ki C m sp aZ E ta Gx):=by
 intro pins s σ H Q I h
 refine PySem.W.methodCall_KW (pl:=pl) (AO (he pins s σ H _ I h) fun u s1 ⟨x,H1,I1,rx,h1⟩=>?_) ht
 obtain⟨a,rfl,@⟨dx,fs,ea,l,q⟩⟩:=CM h1
 obtain rfl:u=Value.ref a:=rx
 refine G2 I1 ea c hm l ?_
 exact PySem.W.callWith_K0 (first:=[.ref a]) I1.kIn hm.kp (LE (us:=[.ref a]) (vs:=[.ref a]) F hr hb hd hx I1 (.cons rfl .nil) q)
structure Mk(K:PySem.W.Frag)(C f:Addr):Prop where
 makes:PySem.W.makesIn K C=true
 init:PySem.W.findIn K (.ref C) "__init__"=some (some (.ref f))
 fn:PySem.W.isFn K (.ref f)=true
 kp:PySem.W.keepIn K (.ref C)=true
theorem Ru(M:Mk X.K C f)(F:FnOk X.prog X.w X.K X.mg X.base CX k f fd ps sp)(hr:Room (k+1) X.A)(hb:Binds X.K fd ps ds)(hd:Vals aZ ds)(hx:BS CX X E)(I:Inv X pins σ H s)(r:Vals vs us)(h:∀x dx,H x=none->H dx=none->dx≠x->sp (.ref x::(vs++aZ)) (upd (upd H dx (.own x)) x (.ins C dx [])) (fun v H2=>v= .non/\Q (.ref x) H2) E):
  wpAny (model X.prog X.w) X.A (call (.ref C) us) (EP X pins σ Q) X.xe s:=by
 have hq:=h (s.heap.objs.size+1) s.heap.objs.size (I.hok.fresh (zB9 _)) (I.hok.fresh (zAA _)) (zAH (zC _))
 have I2:=Inv.made (C:=C) I
 have r2:Vals (V.ref (s.heap.objs.size+1)::(vs++aZ)) (Value.ref (s.heap.objs.size+1)::(us++ds)):=.cons rfl (r.append hd)
 have hl:(Value.ref (s.heap.objs.size+1)::us++ds).length=ps.length:=by
  have e:=r2.length
  rw[F.len _ _ _ _ hq] at e
  exact e.symm
 refine wpAny_call (Sd (f:=f) I.kIn M.makes M.init (beq_iff_eq.mp M.fn) (codeAny_mono (F.run _ X.stack _ _ ⟨Value.ref (s.heap.objs.size+1)::us,[]⟩ (Value.ref (s.heap.objs.size+1)::(us++ds)) _ _ E (hr.make C us [])
  (I2.env0.make C us []) (hb _ (Value.ref (s.heap.objs.size+1)::us) I2.kIn hl) r2 hq) fun r s' hq'=>?_))
 cases r with
 | error e=>exact hx pins σ _ _ e s' I2 hq'
 | ok fl=>
  cases fl with
  | ret u=>
   obtain⟨v,H',I3,rv,ev,q3⟩:=I2.after hq'
   subst ev
   exact⟨rv,⟨V.ref (s.heap.objs.size+1),H',I3,rfl,q3⟩⟩
  | next=>exact False.elim hq'
  | brk=>exact False.elim hq'
  | cont=>exact False.elim hq'
theorem SE(M:Mk X.K C f)(F:FnOk X.prog X.w X.K X.mg X.base CX k f fd ps sp)(hr:Room (k+1) X.A)(hg:Gl X x)(hm:X.mg x=some (.ref C))(hb:Binds X.K fd ps ds)(hd:Vals aZ ds)(hx:BS CX X E)(ha:PA X (e::es) t)(bL:(x == ("__debug__":Str))=false:=by decide)(he:starEach (e::es) X.env=(false,eval e X.env)::starEach es X.env:=by rfl)(aD:(backTo pos (starEach es X.env)).any (·.1)=false:=by rfl):
  PE X (.Call (.Name x p) (e::es) [] pos) (UK C sp aZ E t):=by
 intro pins s σ H Q I h
 refine wpAny_Call_Name_kw (C8 I hg hm ?_ bL)
 refine zCD (h₀:=X.base) I.ok.mod.kin M.kp (AO (ha pos pins s σ H _ I h) fun us s1 ⟨vs,H1,I1,r,q⟩=>⟨I1.kIn,?_⟩) he aD
 exact Ru M F hr hb hd hx I1 r q
end
section
variable {X:Cx}{CX:Hv}{k:Nat}{f C:Addr}{fd:FuncData}{ps ks:List Str}{sp:Sp}{E:XK}{x m:Str}{p pos aG kpos:Pos}{e o:Expr}{es:List Expr}{kws:List Keyword}{te ta:TE}{t tk:TA}{nm:Option Str}
variable {g:List Value->List Value->List Value}{gV:List V->List V->List V}
end
structure DK(N P:List Str)(sc:Scope):Prop where
 kind:sc.kind= .function
 co:sc.isCoroutine=false
 gen:sc.isGenerator=false
 nd:N.Nodup
 pre:N.take P.length=P
 par:∀x∈P,sc.names.lookup x=some .local\/sc.names.lookup x=some .cell
 nofree:∀y∈sc.names,y.2≠.free
theorem Ic{kindOf:Str->Option NameKind}{x:Str}:∀{binds:List (Str×Value)}{m:Str->Option Value},(∀v,(x,v)∉binds)->bindL kindOf binds m x=m x
 | [],_,_=>rfl
 | (n,v)::r,m,h=>by
  unfold bindL
  rw[Ic fun w hw=>h w (List.mem_cons_of_mem _ hw)]
  split
  ·have:x≠n:=by rintro rfl;exact h v List.mem_cons_self
   simp[this]
  ·rfl
theorem HB{kindOf:Str->Option NameKind}{x:Str}:∀{binds:List (Str×Value)}{m:Str->Option Value},(∀v,(x,v)∉binds)->bindC kindOf binds m x=m x
 | [],_,_=>rfl
 | (n,v)::r,m,h=>by
  unfold bindC
  rw[HB fun w hw=>h w (List.mem_cons_of_mem _ hw)]
  split
  ·rfl
  ·have:x≠n:=by rintro rfl;exact h v List.mem_cons_self
   simp[this]
theorem Ip{kindOf:Str->Option NameKind}{x:Str}{v:Value}:∀{P:List Str}{vs:List Value}{i:Nat}{m:Str->Option Value},P.Nodup->P[i]? = some x->vs[i]? = some v->kindOf x=some .local->
  bindL kindOf (P.zip vs) m x=some v
 | [],_,_,_,_,h,_,_=>by simp at h
 | _::_,[],_,_,_,_,h,_=>by simp at h
 | p::P,w::vs,0,m,nd,h1,h2,hk=>by
  simp at h1 h2;subst h1;subst h2
  show bindL kindOf ((p,w)::P.zip vs) m p=_
  unfold bindL
  rw[Ic fun v hv=>(List.nodup_cons.mp nd).1 (List.of_mem_zip hv).1,if_pos hk]
  simp
 | p::P,w::vs,i+1,m,nd,h1,h2,hk=>by
  show bindL kindOf ((p,w)::P.zip vs) m x=_
  unfold bindL
  exact Ip (i:=i) (List.nodup_cons.mp nd).2 (by simpa using h1) (by simpa using h2) hk
theorem HZ{kindOf:Str->Option NameKind}{x:Str}{v:Value}:∀{P:List Str}{vs:List Value}{i:Nat}{m:Str->Option Value},P.Nodup->P[i]? = some x->vs[i]? = some v->kindOf x≠some .local->
  bindC kindOf (P.zip vs) m x=some v
 | [],_,_,_,_,h,_,_=>by simp at h
 | _::_,[],_,_,_,_,h,_=>by simp at h
 | p::P,w::vs,0,m,nd,h1,h2,hk=>by
  simp at h1 h2;subst h1;subst h2
  show bindC kindOf ((p,w)::P.zip vs) m p=_
  unfold bindC
  rw[HB fun v hv=>(List.nodup_cons.mp nd).1 (List.of_mem_zip hv).1,if_neg hk]
  simp
 | p::P,w::vs,i+1,m,nd,h1,h2,hk=>by
  show bindC kindOf ((p,w)::P.zip vs) m x=_
  unfold bindC
  exact HZ (i:=i) (List.nodup_cons.mp nd).2 (by simpa using h1) (by simpa using h2) hk
def D3(N:List Str)(vs:List V):St:=vs.map some++List.replicate (N.length-vs.length) none
def Hu(CX:Hv)(P:Program)(w:World)(K:PySem.W.Frag)(mg:Str->Option Value)(base:Heap)(N:List Str)(av:Str)(scope:Scope)(f:Addr)(cd:Value)(A:Around)(outer:List Env)(s:Shared)(H:Hp)(E:XK):Cx where
 prog:=P
 w:=w
 K:=K
 mg:=mg
 base:=base
 A:=A.deeper (envOfC av scope s.heap.objs.size f cd)
 N:=N
 s₀:=s
 H₀:=H
 env:=envOfC av scope s.heap.objs.size f cd
 outer:=outer
 stack:=envOfC av scope s.heap.objs.size f cd::outer
 ex:=[]
 calm:=true
 fn:=fun _=>true
 pn:=[]
 xe:=fun e s'=>wpAny (model P w) (A.deeper (envOfC av scope s.heap.objs.size f cd)) (leaving (envOfC av scope s.heap.objs.size f cd) e) (fun _ s''=>CX outer H s E e s'') (fun e' s''=>CX outer H s E e' s'') s'
theorem J0{sc:Scope}{n:Nat}{x:Str}(h:sc.names.lookup x=some .cell):∃c,(cellsFrom n sc.names []).lookup x=some c:=by
 have q:=PySem.W.cellsFrom_some sc.names n [] (.inl h)
 exact Option.isSome_iff_exists.mp q
theorem Os{K:PySem.W.Frag}(S:DK N ps scope)(hd:A.handled=none)(e0:Env0 P w K mg base A outer s H)(hl:vs.length=ps.length)(r:Vals vs us)(x:InCallC s s.heap.objs.size (bindL (envOfC av scope s.heap.objs.size f cd).kindOf (ps.zip us) fun _=>none) (cellsFrom (s.heap.objs.size+1) scope.names []) (bindC (envOfC av scope s.heap.objs.size f cd).kindOf (ps.zip us) fun _=>none) s1):
  Inv (Hu CX P w K mg base N av scope f cd A outer s H E) [] (D3 N vs) H s1:=by
 have aD:ps.length<=N.length:=by have:=congrArg List.length S.pre;rw[zAM] at this;omega
 obtain⟨h1,tk,rfl,hk⟩:=x.done
 have noA:∀b:Addr,b∉(Hu CX P w K mg base N av scope f cd A outer s H E).ex:=fun b z=>absurd (show b∈([]:List Addr) from z) (by simp)
 refine⟨⟨e0.mod,S.kind,rfl,rfl,zAA _,fun y z c h1 h2=>?_,fun y hy=>?_,fun y c _ h=>?_,fun _=>hd,Around.frames_deeper e0.frames,.inr ⟨rfl,rfl⟩,fun b z=>absurd z (noA b),e0.bs,e0.bsz,fun b _ _=>noA b,fun b z=>absurd z (noA b),e0.funs,e0.frf⟩,
  rfl,e0.bare,Un.kept hk,⟨_,x.toInCall.ns,fun i y v h1 h2 h3=>?_⟩,fun y c h=>⟨_,x.cell y c h⟩,e0.hok.fresh (zAA _),fun y c h=>?_,fun p hp=>absurd (show p∈([]:List (Addr×Obj)) from hp) (by simp),e0.hok.kept hk,?_⟩
 ·exact name_of_addr x.apart (zBK h1) (zBK h2)
 ·have hy:scope.names.lookup y=some .cell\/scope.names.lookup y=some .free:=hy
  rcases hy with hy | hy
  ·exact J0 hy
  ·exact absurd rfl (S.nofree _ (zBK hy))
 ·exact zAZ (x.above y c (zBK h))
 ·have hi:i<vs.length:=by
   unfold D3 at h2
   by_cases hi:i<vs.length
   ·exact hi
   ·rw[List.getElem?_append_right (by simpa using hi)] at h2
    rw[List.getElem?_replicate] at h2
    split at h2<;>cases h2
  have ha:vs[i]? = some v:=by
   unfold D3 at h2
   rw[List.getElem?_append_left (by simpa using hi),List.getElem?_map] at h2
   cases e:vs[i]? with
   | none=>rw[e] at h2;cases h2
   | some a=>rw[e] at h2;cases h2;rfl
  obtain⟨u,hu,rv⟩:=r.get ha
  have hp:ps[i]? = some y:=by
   rw[<-S.pre,List.getElem?_take_of_lt (by omega)];exact h1
  have ndP:ps.Nodup:=by rw[<-S.pre];exact S.nd.sublist (List.take_sublist _ _)
  refine⟨u,rv,?_⟩
  rcases S.par y (zAJ hp) with k | k
  ·exact .inl ⟨k,Ip ndP hp hu k⟩
  ·obtain⟨c,e⟩:=J0 (n:=s.heap.objs.size+1) k
   refine .inr ⟨.inl k,c,e,?_⟩
   have q:=x.cell y c e
   rw[HZ ndP hp hu (by show scope.names.lookup y≠_;rw[k];decide)] at q
   exact q
 ·exact e0.hok.fresh (zAZ (x.above y c (zBK h)))
 ·unfold D3
  show _=N.length
  rw[zA,List.length_map,List.length_replicate]
  omega
theorem Uz{K:PySem.W.Frag}{dV kV bM pm ak ct oc:Value}(lk:K.lookup f=some ⟨oc,od,.func (PySem.W.fnOf name av params body scope dV kV bM pm an ak ct),gh⟩)(cZ:PySem.W.codeIn K ak av=true)(S:DK N ps scope)(len:∀vs H Q E,sp vs H Q E->vs.length=ps.length)(c6:∀(A:Around) (outer:List Env) (s:Shared) (H:Hp) (vs:List V) (Q:VK) (E:XK),Room k (A.deeper (envOfC av scope s.heap.objs.size f ak))->sp vs H Q E->
   ∃t,PSs (Hu CX P w K mg base N av scope f ak A outer s H E) body t/\t { nx:=fun _ H'=>Q .non H',rt:=Q } (D3 N vs) H):
  FnOk P w K mg base CX (k+1) f (PySem.W.fnOf name av params body scope dV kV bM pm an ak ct) ps sp:=by
 refine⟨len,fun A outer s H args us vs Q E hr e0 hb r ce=>?_⟩
 have hl:=len _ _ _ _ ce
 have KX:K.In s.heap:=e0.mod.kin.keeps fun b o e=>(e0.bs b o e).1
 have lim:s.heap.NoLimit:=e0.mod.nolimit.keeps fun b o e=>(e0.bs b o e).1
 have hkind:∀y∈ps.zip us,scope.names.lookup y.1=some .local\/(scope.names.lookup y.1=some .cell/\((cellsFrom (s.heap.objs.size+1) scope.names []).lookup y.1).isSome=true):=fun⟨n,v⟩ hy=>by
  rcases S.par n (List.of_mem_zip hy).1 with q | q
  ·exact .inl q
  ·exact .inr ⟨q,PySem.W.cellsFrom_some _ _ _ (.inl q)⟩
 refine codeAny_call_function hr.depth (KX _ _ lk) rfl S.co S.gen rfl (PySem.W.codeRec_of KX cZ) (hb _ _ _ _ ?_)
 refine wpAny_newFunctionEnv_cells S.kind hkind fun env he s1 x=>?_
 subst he
 refine⟨lim.keeps x.toInCall.keep,codeAny_func ?_⟩
 obtain⟨t,ht,hq⟩:=c6 A outer s H vs Q E (hr.deeper _) ce
 have I:Inv (Hu CX P w K mg base N av scope f ak A outer s H E) [] (D3 N vs) H s1:=Os S hr.hd e0 hl r x
 refine wpAny_mono (ht [] s1 (D3 N vs) H _ I hq) (fun fl s' hs=>?_) fun e s' hs=>hs
 have aJ:∀{σ':St}{H':Hp}{v:V}{u:Value},Inv (Hu CX P w K mg base N av scope f ak A outer s H E) [] σ' H' s'->RelV v u->Q v H'->CE outer P w H s Q u s':=
  fun {σ' H' v u} J rv q=>⟨v,H',J.os,J.bare,J.base,J.hok,rv,q⟩
 cases fl with
 | ret u=>
  obtain⟨v,σ',H',J,rv,q⟩:=hs
  exact aJ J rv q
 | next=>
  obtain⟨σ',H',J,q⟩:=hs
  exact aJ (v:=V.non) (u:=Value.none) J rfl q
 | brk=>
  obtain⟨_,_,_,q⟩:=hs
  exact False.elim q
 | cont=>
  obtain⟨_,_,_,q⟩:=hs
  exact False.elim q
end L2
namespace L2
open PySem PySem.Spec PyProof.Rows
section
variable {X:Cx}{x:Str}{p pos:Pos}{e:Expr}{es:List Expr}{t:TA}{id T:String}{r:List V->Hp->VK->Prop}
def Xx(r:List V->Hp->VK->Prop)(t:TA):TE:=fun σ H Q=>t σ H fun vs H1=>r vs H1 Q
theorem Ao(hc:B6 X (.builtin id) r)(hg:Gl X x)(hm:X.mg x=none)(hv:bootBuiltins x=some (.builtin id))(ha:PA X (e::es) t)(hn:x≠"__name__":=by decide)(bL:(x == ("__debug__":Str))=false:=by decide)(he:starEach (e::es) X.env=(false,eval e X.env)::starEach es X.env:=by rfl)(aD:(backTo pos (starEach es X.env)).any (·.1)=false:=by rfl):PE X (.Call (.Name x p) (e::es) [] pos) (Xx r t):=by
 intro pins s σ H Q I h
 refine wpAny_Call_Name_kw (Ch I hg hm hv ?_ hn bL)
 exact PyProof.Rows.callWith_builtin1 (AO (ha pos pins s σ H _ I h) fun us s1 ⟨vs,H1,I1,r1,q1⟩=>hc pins s1 σ H1 vs us Q I1 r1 q1) he aD
theorem AS(hc:B6 X (.type T) r)(hg:Gl X x)(hm:X.mg x=none)(hv:bootBuiltins x=some (.type T))(ha:PA X (e::es) t)(hn:x≠"__name__":=by decide)(bL:(x == ("__debug__":Str))=false:=by decide)(he:starEach (e::es) X.env=(false,eval e X.env)::starEach es X.env:=by rfl)(aD:(backTo pos (starEach es X.env)).any (·.1)=false:=by rfl):PE X (.Call (.Name x p) (e::es) [] pos) (Xx r t):=by
 intro pins s σ H Q I h
 refine wpAny_Call_Name_kw (Ch I hg hm hv ?_ hn bL)
 exact zBI (AO (ha pos pins s σ H _ I h) fun us s1 ⟨vs,H1,I1,r1,q1⟩=>hc pins s1 σ H1 vs us Q I1 r1 q1) he aD
theorem Ly(hc:B6 X (.type T) r)(hg:Gl X x)(hm:X.mg x=none)(hv:bootBuiltins x=some (.type T))(hn:x≠"__name__":=by decide)(bL:(x == ("__debug__":Str))=false:=by decide):
  PE X (.Call (.Name x p) [] [] pos) (Xx r Gx):=by
 intro pins s σ H Q I h
 refine wpAny_Call_Name_kw (Ch I hg hm hv ?_ hn bL)
 exact PyProof.Rows.callWith_type0 (hc pins s σ H [] [] Q I .nil h)
end
end L2
namespace HT
open PySem PyProof.Rows
section
open PySem.SeqAt
open PySem.AutoSeq1 (wpAny_loadPart')
open PySem.MeetsSeq PySem.MeetsSeq2 PySem.MeetsSeq3
end
section
variable {prog:Program}{w:World}{A:Around}{E:Value->Shared->Prop}{s:Shared}
def sIx(n d:Nat):Option Int->Nat
 | none=>d
 | some v=>if v<0 then (v+(n:Int)).toNat else min v.toNat n
theorem sIx_none(n d:Nat):sIx n d none=d:=rfl
theorem sIx_nat(n d k:Nat):sIx n d (some (k:Int))=min k n:=by
 show (if (k:Int)<0 then ((k:Int)+(n:Int)).toNat else min (k:Int).toNat n)=min k n
 rw[if_neg (by omega),zB5]
theorem V3(n d:Nat)(hd:d<=n)(o:Option Int):sIx n d o<=n:=by
 cases o with
 | none=>exact hd
 | some v=>
  show (if v<0 then (v+(n:Int)).toNat else min v.toNat n)<=n
  by_cases hv:v<0
  ·rw[if_pos hv];omega
  ·rw[if_neg hv];exact Nat.min_le_right _ _
theorem Mu(v:Int)(n d:Nat):(if v<0 then max (v+(n:Int)) 0 else min v (n:Int))=((sIx n d (some v):Nat):Int):=by
 show (if v<0 then max (v+(n:Int)) 0 else min v (n:Int))=(((if v<0 then (v+(n:Int)).toNat else min v.toNat n):Nat):Int)
 by_cases hv:v<0
 ·simp only[if_pos hv];omega
 ·simp only[if_neg hv];omega
theorem LB(lo hi:Option Int)(n:Nat):Builtin.Slice.sliceAdjust lo hi 1 (n:Int)=(((sIx n 0 lo:Nat):Int),((sIx n n hi:Nat):Int)):=by
 have h1:¬((1:Int)<0):=by omega
 unfold Builtin.Slice.sliceAdjust
 simp only[h1,if_false]
 refine Prod.ext ?_ ?_
 ·cases lo with
  | none=>rfl
  | some v=>exact Mu v n 0
 ·cases hi with
  | none=>rfl
  | some v=>exact Mu v n n
theorem LL(i j:Nat):Builtin.Slice.slicePlaces (i:Int) (j:Int) 1=j-i:=by
 unfold Builtin.Slice.slicePlaces
 have h1:(1:Int)>0:=by omega
 simp only[h1,if_true,Int.ediv_one]
 split<;>omega
theorem Gz(p:IsPart v o)(h:Q o s):wpAny (model prog w) A (Builtin.Slice.slicePartIndex v) Q E s:=by
 cases p with
 | none=>exact slicePart_none h
 | int i t=>exact slicePart_int h
theorem Fn{lo hi:Option Int}{n:Nat}{Q:Int×Int×Nat->Shared->Prop}(hs:s.heap.IsSliceOf sl vl vu .none)(pl:IsPart vl lo)(pu:IsPart vu hi)(h:Q (((sIx n 0 lo:Nat):Int),1,sIx n n hi-sIx n 0 lo) s):wpAny (model prog w) A (Builtin.Slice.sliceApplied (.ref sl) (pure (n:Int))) Q E s:=by
 obtain⟨os,hos,hcs,hds⟩:=id hs
 unfold Builtin.Slice.sliceApplied Builtin.Slice.sliceFields
 refine wpAny_bind (wpAny_bind (wpAny_field hos hds (x:=vl) rfl (wpAny_bind (wpAny_field hos hds (x:=vu) rfl (wpAny_bind (wpAny_field hos hds (x:=.none) rfl (wpAny_pure ?_)))))))
 refine wpAny_bind (slicePart_none ?_)
 show wpAny _ _ (if ((1:Int) == 0)=true then _ else _) _ _ s
 rw[if_neg (by decide)]
 refine wpAny_bind (Gz pl (wpAny_bind (Gz pu (wpAny_bind (wpAny_pure ?_)))))
 show wpAny _ _ (match Builtin.Slice.sliceAdjust lo hi 1 (n:Int) with | (lo,hi)=>pure (lo,(1:Int),Builtin.Slice.slicePlaces lo hi 1)) _ _ s
 rw[LB lo hi n]
 show wpAny _ _ (pure (((sIx n 0 lo:Nat):Int),(1:Int),Builtin.Slice.slicePlaces ((sIx n 0 lo:Nat):Int) ((sIx n n hi:Nat):Int) 1)) _ _ s
 rw[LL]
 exact wpAny_pure h
theorem PL(xs:Array Value)(i k:Nat):((List.range k).filterMap fun(m:Nat)=>xs[((i:Int)+(m:Int)*1).toNat]?).toArray=((xs.toList.drop i).take k).toArray:=by
 have e:(fun(m:Nat)=>xs[((i:Int)+(m:Int)*1).toNat]?)=fun m=>xs[i+m]? :=by
  funext m
  have:((i:Int)+(m:Int)*1).toNat=i+m:=by omega
  rw[this]
 rw[e]
 have:=pick_run xs i k
 rw[List.filterMap_map] at this
 have e2:((fun x=>xs[x]?) ∘ fun x=>i+x)=fun m=>xs[i+m]? :=rfl
 rw[e2] at this
 rw[this]
theorem getItem_tuple_cut{lo hi:Option Int}(ht:IsTup s.heap t ag)(hs:s.heap.IsSliceOf sl vl vu .none)(pl:IsPart vl lo)(pu:IsPart vu hi)(hw:¬(sIx ag.size 0 lo=0/\sIx ag.size ag.size hi=ag.size))(h:Q (.ref s.heap.objs.size) { s with heap:=s.heap.push { cls:=.type "tuple",data:=.seq ((ag.toList.drop (sIx ag.size 0 lo)).take (sIx ag.size ag.size hi-sIx ag.size 0 lo)).toArray } })(ay:ag.size<=sizeLine):wpAny (model prog w) A (getItem (.ref t) (.ref sl)) Q E s:=by
 have dR:sizeOk (.seq ((ag.toList.drop (sIx ag.size 0 lo)).take (sIx ag.size ag.size hi-sIx ag.size 0 lo)).toArray):=by
  show ((ag.toList.drop (sIx ag.size 0 lo)).take (sIx ag.size ag.size hi-sIx ag.size 0 lo)).toArray.size<=sizeLine
  rw[zAG,zAM,zCA,zAF]
  omega
 have hj:sIx ag.size ag.size hi<=ag.size:=V3 _ _ (zAA _) hi
 obtain⟨os,hos,hcs,hds⟩:=id hs
 have hTs:s.TypeIs (.ref sl) "slice":=⟨os,hos,hcs⟩
 unfold getItem
 try with_reducible refine wpAny_holding ?_
 first | refine wpAny_bind (wpAny_pure ?_) | skip
 refine wpAny_bind (wpAny_sequenceKey ht.typeIs (by decide) ?_)
 refine wpAny_bind (wpAny_callSpecial?_slot (name:=Str.ofString "__getitem__") ht.typeIs PyProof.Rows.slot_tuple_getitem
  (wpAny_call_entry PyProof.Rows.slot_tuple_getitem ht.typeIs entry_tuple_getitem ?_ (args_tuple_getitem _ _)))
 show wpAny _ _ (Builtin.Tuple.tupleItemsOf (.ref t) >>= _) _ _ s
 refine wpAny_bind (tupleItemsOf_ ht ?_)
 refine wpAny_bind (wpAny_typeOf hTs ?_)
 rw[if_pos (by decide)]
 refine wpAny_bind (Fn hs pl pu ?_)
 have hno:¬((((sIx ag.size 0 lo:Nat):Int) == 0 && (1:Int) == 1 && (sIx ag.size ag.size hi-sIx ag.size 0 lo) == ag.size)=true):=by
  intro q
  rw[zA3,zA3] at q
  have q1:((sIx ag.size 0 lo:Nat):Int)=0:=eq_of_beq q.1.1
  have q2:sIx ag.size ag.size hi-sIx ag.size 0 lo=ag.size:=eq_of_beq q.2
  exact hw ⟨by omega,by omega⟩
 show wpAny _ _ (if (((sIx ag.size 0 lo:Nat):Int) == 0 && (1:Int) == 1 && (sIx ag.size ag.size hi-sIx ag.size 0 lo) == ag.size)=true then _ else _) _ _ s
 rw[if_neg hno,PL]
 first
  | exact wpAny_bind (m:=Builtin.Tuple.tupleExact _) (wpAny_newObj_type (wpAny_pure ⟨_,rfl,wpAny_pure h⟩) dR)
  | exact wpAny_bind (m:=Builtin.Tuple.tupleExact _) (wpAny_newObj_type (wpAny_bind (wpAny_pure (wpAny_pure ⟨_,rfl,wpAny_pure h⟩))) dR)
  | exact wpAny_bind (wpAny_bind (m:=Builtin.Tuple.tupleExact _) (wpAny_newObj_type (wpAny_pure (wpAny_pure ⟨_,rfl,wpAny_pure h⟩)) dR))
  | exact wpAny_bind (wpAny_bind (m:=Builtin.Tuple.tupleExact _) (wpAny_newObj_type (wpAny_pure ⟨_,rfl,wpAny_pure h⟩) dR))
end
end HT
namespace L2
open PySem PySem.Spec PyProof.Rows
abbrev TO:=St->Hp->(Option Int->Hp->Prop)->Prop
def PO(X:Cx)(e:Option Expr)(t:TO):Prop:=
 ∀(pins:List (Addr×Obj))(s:Shared)(σ:St)(H:Hp)(Q:Option Int->Hp->Prop),Inv X pins σ H s->t σ H Q->
  wpAny (model X.prog X.w) X.A (evalPart e X.env) (fun u s'=>BF fun o H'=>Cc (Inv X pins σ H' s') (IsPart u o) (Q o H')) X.xe s
def SV:TO:=fun _ H Q=>Q none H
inductive P6(Q:Option Int->Hp->Prop)(x:V)(H1:Hp):Prop where
 | mk (i) (_:x= .int i) (_:Q (some i) H1):P6 Q x H1
def WK(t:TE):TO:=fun σ H Q=>t σ H (P6 Q)
section
variable {X:Cx}{e:Expr}{te:TE}{lo hi:Option Expr}{tl th:TO}{pos p2:Pos}
theorem CZ:PO X none SV:=by
 intro pins s σ H Q I h
 rw[evalPart_none]
 exact wpAny_pure ⟨none,H,I,.none,h⟩
theorem CV(h:PE X e te):PO X (some e) (WK te):=by
 intro pins s σ H Q I hw
 rw[evalPart_some]
 refine AO (h pins s σ H _ I hw) fun u s1 ⟨x,H1,I1,r1,q1⟩=>?_
 obtain⟨i,rfl,q⟩:=q1
 obtain⟨t,rfl⟩:=r1
 exact⟨some i,H1,I1,.int i t,q⟩
def XJ(X:Cx)(r:V->Option Int->Option Int->Hp->VK->Prop):Prop:=
 ∀(pins:List (Addr×Obj))(s:Shared)(σ:St)(H:Hp)(x:V)(v vl vu:Value)(lo hi:Option Int)(sl:Addr)(Q:VK),Inv X pins σ H s->RelV x v->s.heap.IsSliceOf sl vl vu .none->IsPart vl lo->IsPart vu hi->r x lo hi H Q->
  BF fun T id=>Cc (typeLookup (.type T) "__getitem__"=pure (some (.builtin id))) (s.TypeIs v T) (wpAny (model X.prog X.w) X.A (getItem v (.ref sl)) (EP X pins σ Q) X.xe s)
def Yb(r:V->Option Int->Option Int->Hp->VK->Prop)(te:TE)(tl th:TO):TE:=fun σ H Q=>te σ H fun x H1=>tl σ H1 fun l H2=>th σ H2 fun u H3=>r x l u H3 Q
theorem Cj(hr:XJ X r)(he:PE X e te)(hl:PO X lo tl)(hu:PO X hi th):PE X (.Subscript e (.Slice lo hi none p2) pos) (Yb r te tl th):=by
 intro pins s σ H Q I h
 refine Subscript_ (AO (he pins s σ H _ I h) fun v s1 ⟨x,H1,I1,r1,q1⟩=>?_)
 refine wpAny_Slice (AO (hl pins s1 σ H1 _ I1 q1) fun vl s2 ⟨l,H2,I2,pl,q2⟩=>AO (hu pins s2 σ H2 _ I2 q2) fun vu s3 ⟨u,H3,I3,pu,q3⟩=>?_)
 rw[evalPart_none]
 refine wpAny_pure ?_
 have I4:Inv X pins σ H3 { s3 with heap:=s3.heap.push { cls:=.type "slice",data:=.fields #[vl,vu,.none] } }:=I3.kept (t':=s3.toks) fun b ob q=>Heap.get?_push_of_some _ q
 obtain⟨T,id,hT,ht,hg⟩:=hr pins { s3 with heap:=s3.heap.push { cls:=.type "slice",data:=.fields #[vl,vu,.none] } } σ H3 x v vl vu l u s3.heap.objs.size Q I4 r1 (Heap.IsSliceOf.new ..) pl pu q3
 show wpAny (model X.prog X.w) X.A (subscriptTail e (.Slice lo hi none p2) v (.ref s3.heap.objs.size)) (EP X pins σ Q) X.xe { s3 with heap:=s3.heap.push { cls:=.type "slice",data:=.fields #[vl,vu,.none] } }
 exact tail_any (ops:=[.ref s3.heap.objs.size,v]) ht hT hg (by with_unfolding_all rfl)
def Dj(xs:List V)(lo hi:Option Int):List V:=(xs.drop (HT.sIx xs.length 0 lo)).take (HT.sIx xs.length xs.length hi-HT.sIx xs.length 0 lo)
theorem FN(xs:List V)(lo hi:Option Int):(Dj xs lo hi).length<=xs.length:=by
 unfold Dj
 rw[zAM,zCA]
 omega
inductive WO(K:PySem.W.Frag)(x:V)(lo:Option Int)(hi:Option Int)(H:Hp)(Q:VK):Prop where
 | mk (a xs) (_:x= .ref a) (_:SqT K H a xs) (_:¬(HT.sIx xs.length 0 lo=0/\HT.sIx xs.length xs.length hi=xs.length)) (_:∀p,H p=none->Q (.ref p) (upd H p (.tup (Dj xs lo hi)))):WO K x lo hi H Q
theorem UY:XJ X (WO X.K):=by
 intro pins s σ H x v vl vu lo hi sl Q I rx hs pl pu h
 obtain⟨a,xs,rfl,hx,hw,q⟩:=h
 cases rx
 obtain⟨its,r,ht,hz⟩:=I.tuple hx
 have aj:its.toArray.size=xs.length:=by rw[zAG];exact r.length.symm
 refine⟨"tuple",_,PyProof.Rows.slot_tuple_getitem.lookup,ht.typeIs,?_⟩
 refine HT.getItem_tuple_cut ht hs pl pu (by rw[aj];exact hw) ?_ (by rw[aj];exact hz)
 rw[aj]
 refine⟨.ref s.heap.objs.size,_,I.laid (t':=s.toks) (o:=.tup (Dj xs lo hi)) (fun b ob q=>Heap.get?_push_of_some _ q) (zAA _) ?_,rfl,q _ (I.hok.fresh (zAA _))⟩
 exact⟨zAC (FN xs lo hi) hz,_,(r.drop (HT.sIx xs.length 0 lo)).take (HT.sIx xs.length xs.length hi-HT.sIx xs.length 0 lo),IsTup.new _ _⟩
end
end L2
namespace L2
open PySem PySem.Spec PyProof.Rows
def Uj(n:Nat)(i:Int):Option Nat:=if 0<=i then (if i<n then some i.toNat else none) else if -(n:Int)<=i then some (i+n).toNat else none
def EF{α:Type}(xs:List α)(i:Int):Option α:=(Uj xs.length i).bind fun j=>xs[j]?
theorem TW(h:Uj n i=some j):seqIndex? i n=some j/\j<n/\-(n:Int)<=i/\i<n:=by
 unfold Uj at h
 by_cases h0:0<=i
 ·rw[if_pos h0] at h
  by_cases h1:i<n
  ·rw[if_pos h1] at h
   have e:i.toNat=j:=zAE h
   exact⟨by rw[seqIndex_of h0 h1,e],by omega,by omega,h1⟩
  ·rw[if_neg h1] at h;cases h
 ·rw[if_neg h0] at h
  by_cases h1 : -(n:Int)<=i
  ·rw[if_pos h1] at h
   have e:(i+n).toNat=j:=zAE h
   exact⟨by rw[seqIndex_neg (by omega) h1,e],by omega,h1,by omega⟩
  ·rw[if_neg h1] at h;cases h
theorem Mr{α:Type}{xs:List α}{v:α}(h:EF xs i=some v):∃j,Fs (seqIndex? i xs.length=some j) (xs[j]? = some v) (j<xs.length) (-(xs.length:Int)<=i) (i<xs.length):=by
 unfold EF at h
 cases e:Uj xs.length i with
 | none=>rw[e] at h;cases h
 | some j=>
  rw[e] at h
  obtain⟨h1,h2,h3,h4⟩:=TW e
  exact⟨j,h1,h,h2,h3,h4⟩
theorem Af{α:Type}{xs:List α}{j:Nat}{v:α}(h:xs[j]? = some v):EF xs (j:Int)=some v:=by
 have hj:j<xs.length:=(List.getElem?_eq_some_iff.mp h).1
 have e:Uj xs.length (j:Int)=some j:=by
  unfold Uj
  rw[if_pos (by omega),if_pos (by omega)];simp
 unfold EF;rw[e];exact h
def MW(b:Expr):Prop:=∀o i,subscripted b false o i=operate [o,i] (getItem o i)
def Wu(X:Cx)(r:R2):Prop:=
 ∀(value dS:Expr)(pins:List (Addr×Obj))(s:Shared)(σ:St)(H:Hp)(x y:V)(v u:Value)(Q:VK),Inv X pins σ H s->RelV x v->RelV y u->r x y H Q->
  subscripted dS false v u=operate [v,u] (getItem v u)->wpAny (model X.prog X.w) X.A (subscriptTail value dS v u) (EP X pins σ Q) X.xe s
def XZ(X:Cx)(id:String)(r:V->List V->Hp->VK->Prop):Prop:=
 ∀(pins:List (Addr×Obj))(s:Shared)(σ:St)(H:Hp)(x:V)(xs:List V)(v:Value)(us:List Value)(Q:VK),Inv X pins σ H s->RelV x v->Vals xs us->r x xs H Q->
  wpAny (model X.prog X.w) X.A (call (.builtin id) (v::us)) (EP X pins σ Q) X.xe s
section
variable {X:Cx}{a b:Expr}{ta tb:TE}{pos:Pos}
theorem WQ(hr:Wu X r)(ha:PE X a ta)(hb:PE X b tb)(hs:MW b):PE X (.Subscript a b pos) (Sn r ta tb):=by
 intro pins s σ H Q I h
 exact Subscript_ (Vn ha hb I h fun v u s2 x y H2 I2 rx ry q=>hr a b pins s2 σ H2 x y v u Q I2 rx ry q (hs _ _))
inductive UQ(K:PySem.W.Frag)(p:Addr)(i:Int)(H:Hp)(Q:VK):Prop where
 | mk {xs v} (_:SqL K H p xs) (_:EF xs i=some v) (_:Q v H):UQ K p i H Q
def W5(K:PySem.W.Frag):R2:=fun x y H Q=>vR (fun p=>vI (fun i=>UQ K p i H Q) y) x
inductive UH(K:PySem.W.Frag)(p:Addr)(i:Int)(H:Hp)(Q:VK):Prop where
 | mk {xs v} (_:SqT K H p xs) (_:EF xs i=some v) (_:Q v H):UH K p i H Q
def WR(K:PySem.W.Frag):R2:=fun x y H Q=>vR (fun p=>vI (fun i=>UH K p i H Q) y) x
theorem AD:Wu X (W5 X.K):=by
 intro value dS pins s σ H x y v u Q I rx ry h hs
 obtain⟨p,rfl,h0⟩:=CM h
 obtain⟨i,rfl,@⟨xs,z,hq,he,q⟩⟩:=Ew h0
 cases rx
 obtain⟨t,rfl⟩:=ry
 obtain⟨its,r,pl,hz⟩:=I.list hq
 obtain⟨j,h1,h2,h3,h4,h5⟩:=Mr he
 obtain⟨w,ew,rw'⟩:=r.get h2
 have hl:=r.length
 have hn:=GK
 have aJ:EP X pins σ Q w s:=⟨z,H,I,rw',q⟩
 by_cases h0:0<=i
 ·have hj:i.toNat=j:=by
   rw[seqIndex_of h0 h5] at h1
   exact zAE h1
  exact item_listR pl.isList h0 (by omega) (by rw[hj];simpa using ew) aJ hs
 ·have hj:(i+(its.toArray.size:Int)).toNat=j:=by
   rw[seqIndex_neg (by omega) h4] at h1
   rw[zAG,<-hl]
   exact zAE h1
  exact subscriptTail_builtinR (x:=w) pl.isList.typeIs slot_list_getitem.lookup
   (wpAny_getItem_list_neg (Q:=fun r s'=>r=w/\EP X pins σ Q r s') pl.isList (by omega) (by rw[zAG]<;>omega) (by omega) (by rw[hj];simpa using ew) ⟨rfl,aJ⟩) hs
theorem AU:Wu X (WR X.K):=by
 intro value dS pins s σ H x y v u Q I rx ry h hs
 obtain⟨p,rfl,h0⟩:=CM h
 obtain⟨i,rfl,@⟨xs,z,hq,he,q⟩⟩:=Ew h0
 cases rx
 obtain⟨t,rfl⟩:=ry
 obtain⟨its,r,pl,hz⟩:=I.tuple hq
 obtain⟨j,h1,h2,h3,h4,h5⟩:=Mr he
 obtain⟨w,ew,rw'⟩:=r.get h2
 have hl:=r.length
 have hn:=GK
 have aJ:EP X pins σ Q w s:=⟨z,H,I,rw',q⟩
 exact subscriptTail_builtinR (x:=w) pl.typeIs slot_tuple_getitem.lookup
  (getItem_tuple (j:=j) (Q:=fun r s'=>r=w/\EP X pins σ Q r s') pl (by omega) (by omega) (by rw[zAG,<-hl];exact h1) (by simpa using ew) ⟨rfl,aJ⟩) hs
theorem IR(lo hi:Option Int)(n:Nat):(sliceBounds lo hi none n).1=((HT.sIx n 0 lo:Nat):Int)/\(sliceBounds lo hi none n).2.1=((HT.sIx n n hi:Nat):Int)/\(sliceBounds lo hi none n).2.2=1:=by
 refine⟨?_,?_,rfl⟩
 ·cases lo with
  | none=>simp[sliceBounds,HT.sIx]
  | some i=>
   simp only[sliceBounds,HT.sIx,Option.getD_none,show (1:Int)>0 by decide,if_true]
   by_cases h:i<0
   ·simp only[h,if_true]<;>omega
   ·simp only[h,if_false]<;>omega
 ·cases hi with
  | none=>simp[sliceBounds,HT.sIx]
  | some i=>
   simp only[sliceBounds,HT.sIx,Option.getD_none,show (1:Int)>0 by decide,if_true]
   by_cases h:i<0
   ·simp only[h,if_true]<;>omega
   ·simp only[h,if_false]<;>omega
theorem Hr(its:List Value)(lo hi:Option Int):slicePick its.toArray lo hi none=((its.drop (HT.sIx its.length 0 lo)).take (HT.sIx its.length its.length hi-HT.sIx its.length 0 lo)).toArray:=by
 obtain⟨h1,h2,h3⟩:=IR lo hi its.toArray.size
 unfold slicePick
 rw[h1,h2,h3]
 simp only[sliceRange_one,pick_run,zAG]<;>rfl
inductive Wp(K:PySem.W.Frag)(x:V)(lo:Option Int)(hi:Option Int)(H:Hp)(Q:VK):Prop where
 | mk (a xs) (_:x= .ref a) (_:SqL K H a xs) (_:∀p,H p=none->Q (.ref p) (upd H p (.lst (Dj xs lo hi)))):Wp K x lo hi H Q
theorem DY:XJ X (Wp X.K):=by
 intro pins s σ H x v vl vu lo hi sl Q I rx hs pl pu h
 obtain⟨a,xs,rfl,hx,q⟩:=h
 cases rx
 obtain⟨its,r,ht,hz⟩:=I.list hx
 have aj:=r.length
 refine⟨"list",_,slot_list_getitem.lookup,ht.isList.typeIs,?_⟩
 refine wpAny_getItem_list_slice ht.isList hs pl pu .none (by simp) ?_ (by rw[zAG]<;>omega)
 rw[Hr,<-aj]
 refine⟨.ref s.heap.objs.size,_,I.laid (t':=s.toks) (o:=.lst (Dj xs lo hi)) (fun b ob q=>Heap.get?_push_of_some _ q) (zAA _) ?_,rfl,q _ (I.hok.fresh (zAA _))⟩
 exact⟨zAC (FN xs lo hi) hz,_,0,(r.drop (HT.sIx xs.length 0 lo)).take (HT.sIx xs.length xs.length hi-HT.sIx xs.length 0 lo),Heap.get?_push_size _ rfl⟩
def Er:V->Bool
 | .non=>true
 | .bl _=>true
 | .int _=>true
 | .str _=>true
 | _=>false
def OR:V->V->Bool
 | .non,.non=>true
 | .bl a,.bl b=>a == b
 | .bl a,.int b=>(if a then 1 else 0) == b
 | .int a,.bl b=>a == (if b then 1 else 0)
 | .int a,.int b=>a == b
 | .str a,.str b=>a == b
 | _,_=>false
theorem Vb(ry:RelV y u)(rx:RelV x v)(fy:Er y=true)(fx:Er x=true):SeqAt.EqAt A s u v (OR y x):=by
 cases y with
 | non=>
  cases ry
  cases x with
  | non=>cases rx;exact SeqAt.EqAt.same _
  | bl b=>cases rx;exact SeqAt.EqAt.none_bool b
  | int b=>obtain⟨t,rfl⟩:=rx;exact SeqAt.EqAt.none_int b t
  | str b=>obtain⟨t,rfl⟩:=rx;exact SeqAt.EqAt.none_str b t
  | _=>exact absurd (show false=true from fx) zAB
 | bl a=>
  cases ry
  cases x with
  | non=>cases rx;exact SeqAt.EqAt.bool_none a
  | bl b=>cases rx;exact SeqAt.EqAt.bool_bool a b
  | int b=>obtain⟨t,rfl⟩:=rx;exact SeqAt.EqAt.bool_int a b t
  | str b=>obtain⟨t,rfl⟩:=rx;exact SeqAt.EqAt.bool_str a b t
  | _=>exact absurd (show false=true from fx) zAB
 | int a=>
  obtain⟨t',rfl⟩:=ry
  cases x with
  | non=>cases rx;exact SeqAt.EqAt.int_none a t'
  | bl b=>cases rx;exact SeqAt.EqAt.int_bool a t' b
  | int b=>obtain⟨t,rfl⟩:=rx;exact SeqAt.EqAt.int_int a t' b t
  | str b=>obtain⟨t,rfl⟩:=rx;exact SeqAt.EqAt.int_str a t' b t
  | _=>exact absurd (show false=true from fx) zAB
 | str a=>
  obtain⟨t',rfl⟩:=ry
  cases x with
  | non=>cases rx;exact SeqAt.EqAt.str_none a t'
  | bl b=>cases rx;exact SeqAt.EqAt.str_bool a t' b
  | int b=>obtain⟨t,rfl⟩:=rx;exact SeqAt.EqAt.str_int a t' b t
  | str b=>obtain⟨t,rfl⟩:=rx;exact SeqAt.EqAt.str_str a t' b t
  | _=>exact absurd (show false=true from fx) zAB
 | _=>exact absurd (show false=true from fy) zAB
def L5(x:V)(u:Value):Bool:=match u with
 | .none=>OR .non x
 | .bool b=>OR (.bl b) x
 | .int i _=>OR (.int i) x
 | .str z _=>OR (.str z) x
 | _=>false
theorem Pn(r:RelV y u)(f:Er y=true):L5 x u=OR y x:=by
 cases y with
 | non=>cases r;rfl
 | bl b=>cases r;rfl
 | int i=>obtain⟨t,rfl⟩:=r;rfl
 | str z=>obtain⟨t,rfl⟩:=r;rfl
 | _=>exact absurd (show false=true from f) zAB
theorem Eu{x:V}:∀{xs:List V}{us:List Value},Vals xs us->xs.all Er=true->us.any (L5 x)=xs.any fun y=>OR y x
 | _,_,.nil,_=>rfl
 | y::xs,u::us,.cons r t,f=>by
  rw[zCU,zA3] at f
  rw[zBY,zBY,Pn r f.1,Eu t f.2]
theorem Dt{A:Around}{s:Shared}{x:V}{v:Value}(rx:RelV x v)(fx:Er x=true):∀{xs:List V}{us:List Value},Vals xs us->xs.all Er=true->∀u∈us,SeqAt.EqAt A s u v (L5 x u)
 | _,_,.nil,_=>fun u hu=>by cases hu
 | y::xs,u::us,.cons r t,f=>fun u' hu=>by
  rw[zCU,zA3] at f
  rcases List.mem_cons.mp hu with rfl | hu
  ·rw[Pn r f.1];exact Vb r rx f.1 fx
  ·exact Dt rx fx t f.2 u' hu
def OW(x:V)(xs:List V):Bool:=xs.any fun y=>OR y x
inductive Xi(K:PySem.W.Frag)(neg:Bool)(x:V)(y:V)(H:Hp)(Q:VK):Prop where
 | mk (p xs) (_:y= .ref p) (_:(SqL K H p xs\/SqT K H p xs)) (_:Er x=true) (_:xs.all Er=true) (_:Q (.bl (if neg then !OW x xs else OW x xs)) H):Xi K neg x y H Q
theorem OL:D1 X (compareOp .In) (Xi X.K false):=by
 intro pins s σ H x y v u Q I rx ry h
 obtain⟨p,xs,rfl,hq,fx,fs,q⟩:=h
 cases ry
 rcases hq with hq | hq
 ·obtain⟨its,r,pl,hz⟩:=I.list hq
  refine SeqAt.in_listAt (L5 x) pl.isList (fun w hw=>Dt rx fx r fs w (by simpa using hw)) ⟨.bl _,H,I,rfl,?_⟩
  rw[show its.toArray.any (L5 x)=its.any (L5 x) by simp,Eu r fs]
  exact q
 ·obtain⟨its,r,pl,hz⟩:=I.tuple hq
  refine SeqAt.in_tupleAt (L5 x) pl (fun w hw=>Dt rx fx r fs w (by simpa using hw)) ⟨.bl _,H,I,rfl,?_⟩
  rw[show its.toArray.any (L5 x)=its.any (L5 x) by simp,Eu r fs]
  exact q
theorem C0:D1 X (compareOp .NotIn) (Xi X.K true):=by
 intro pins s σ H x y v u Q I rx ry h
 obtain⟨p,xs,rfl,hq,fx,fs,q⟩:=h
 cases ry
 rcases hq with hq | hq
 ·obtain⟨its,r,pl,hz⟩:=I.list hq
  refine SeqAt.notIn_listAt (L5 x) pl.isList (fun w hw=>Dt rx fx r fs w (by simpa using hw)) ⟨.bl _,H,I,rfl,?_⟩
  rw[show its.toArray.any (L5 x)=its.any (L5 x) by simp,Eu r fs]
  exact q
 ·obtain⟨its,r,pl,hz⟩:=I.tuple hq
  refine SeqAt.notIn_tupleAt (L5 x) pl (fun w hw=>Dt rx fx r fs w (by simpa using hw)) ⟨.bl _,H,I,rfl,?_⟩
  rw[show its.toArray.any (L5 x)=its.any (L5 x) by simp,Eu r fs]
  exact q
inductive Ws(K:PySem.W.Frag)(p:Addr)(H:Hp)(Q:VK):Prop where
 | mk {ys} (_:(SqL K H p ys\/SqT K H p ys)) (_:Q (.int ys.length) H):Ws K p H Q
def GE(K:PySem.W.Frag)(xs:List V)(H:Hp)(Q:VK):Prop:=l1 (vR fun p=>Ws K p H Q) xs
theorem Aq:B6 X (.builtin "len") (GE X.K):=by
 intro pins s σ H xs us Q I r h
 obtain⟨_,rfl,h0⟩:=MK h
 obtain⟨p,rfl,@⟨ys,hq,q⟩⟩:=CM h0
 obtain⟨u,rfl,rx⟩:=Df r
 cases rx
 have hn:=GK
 rcases hq with hq | hq
 ·obtain⟨its,r',pl,hz⟩:=I.list hq
  have aj:=r'.length
  exact Calls.call_len_list pl.isList (by simp only[zAG]<;>omega) ⟨.int ys.length,H,I.tok _,⟨s.toks+1,by rw[zAG,aj]⟩,q⟩
 ·obtain⟨its,r',pl,hz⟩:=I.tuple hq
  have aj:=r'.length
  exact len_tuple pl (by simp only[zAG]<;>omega) ⟨.int ys.length,H,I.tok _,⟨s.toks+1,by rw[zAG,aj]⟩,q⟩
inductive Uu(K:PySem.W.Frag)(p:Addr)(H:Hp)(Q:VK):Prop where
 | mk {ys} (_:(SqL K H p ys\/SqT K H p ys)) (_:∀l,H l=none->Q (.ref l) (upd H l (.lst ys))):Uu K p H Q
def GN(K:PySem.W.Frag)(xs:List V)(H:Hp)(Q:VK):Prop:=l1 (vR fun p=>Uu K p H Q) xs
theorem A3:B6 X (.type "list") (GN X.K):=by
 intro pins s σ H xs us Q I r h
 obtain⟨_,rfl,h0⟩:=MK h
 obtain⟨p,rfl,@⟨ys,hq,q⟩⟩:=CM h0
 obtain⟨u,rfl,rx⟩:=Df r
 cases rx
 have aJ:∀(its:List Value),Vals ys its->ys.length<=sizeLine->∀(h':Heap)(c':Nat),(∀b o',s.heap.get? b=some o'->h'.get? b=some o')->
   h'.get? s.heap.objs.size=some { cls:=.type "list",dict:=none,data:=.seq its.toArray c',slots:=#[] }->EP X pins σ Q (.ref s.heap.objs.size) { s with heap:=h' }:=fun its r' hz h' c' kp e=>
  ⟨.ref s.heap.objs.size,_,I.laid (t':=s.toks) kp (zAA _) (show ObjOk X.prog X.w _ h' _ (.lst ys) from⟨hz,its,c',r',e⟩),rfl,q _ (I.hok.fresh (zAA _))⟩
 rcases hq with hq | hq
 ·obtain⟨its,r',pl,hz⟩:=I.list hq
  have aj:=r'.length
  obtain⟨o,ho,hc,n,hd⟩:=pl.isList
  exact call_list_seq p (.inl rfl) ho hc hd (fun h' c' kp e=>aJ its r' hz h' c' kp e) (by simp only[zAG]<;>omega)
 ·obtain⟨its,r',pl,hz⟩:=I.tuple hq
  have aj:=r'.length
  obtain⟨o,ho,hc,n,hd⟩:=pl
  exact call_list_seq p (.inr rfl) ho hc hd (fun h' c' kp e=>aJ its r' hz h' c' kp e) (by simp only[zAG]<;>omega)
def XU(K:PySem.W.Frag)(T:String)(x:V)(H:Hp):Prop:=match x with
 | .str _=>T="str"
 | .int _=>T="int"
 | .ref p=>(T="list"/\∃xs,SqL K H p xs)\/(T="tuple"/\∃o,Cc (K.lookup p=some o) (o.cls= .type "tuple") (o.dict=none))\/
   (T="dict"/\((∃aQ,H p=some (.dK aQ))\/∃aQ,H p=some (.dT aQ)))\/(T="set"/\BF fun S n=>H p=some (.set S n))
 | _=>False
theorem QB(I:Inv X pins σ H s)(r:RelV x v)(ty:XU X.K T x H):
  s.TypeIs v T/\∀a,v= .ref a->∃ob,s.heap.get? a=some ob/\ob.dict=none:=by
 cases x with
 | str z=>
  obtain⟨t,rfl⟩:=r
  cases (show T="str" from ty)
  exact⟨typeIs_str s z t,fun _ e=>nomatch e⟩
 | int i=>
  obtain⟨t,rfl⟩:=r
  cases (show T="int" from ty)
  exact⟨typeIs_int s i t,fun _ e=>nomatch e⟩
 | ref p=>
  cases r
  rcases ty with⟨rfl,xs,hq⟩|⟨rfl,o,hk,hc,hd⟩|⟨rfl,hk⟩|⟨rfl,S,n,hk⟩
  ·obtain⟨its,_,pl,_⟩:=I.list hq
   refine⟨pl.isList.typeIs,fun a e=>?_⟩
   cases e
   obtain⟨o,n,e,c,hd,_⟩:=pl
   exact⟨o,e,hd⟩
  ·refine⟨⟨o,I.kIn p o hk,hc⟩,fun a e=>?_⟩
   cases e
   exact⟨o,I.kIn _ o hk,hd⟩
  ·have z:∃o,s.heap.get? p=some o/\o.ExactDict:=by
    rcases hk with⟨aQ,hk⟩|⟨aQ,hk⟩
    ·obtain⟨_,_,_,_,o,_,_,e,ex,_⟩:=I.hok p _ hk
     exact⟨o,e,ex⟩
    ·obtain⟨_,_,_,_,o,_,_,e,ex,_⟩:=I.hok p _ hk
     exact⟨o,e,ex⟩
   obtain⟨o,e,ex⟩:=z
   refine⟨⟨o,e,ex.1⟩,fun a e2=>?_⟩
   cases e2
   exact⟨o,e,ex.2.1⟩
  ·obtain⟨o,_,_,_,e,ex,_⟩:=I.hok p _ hk
   refine⟨⟨o,e,ex.1⟩,fun a e2=>?_⟩
   cases e2
   exact⟨o,e,ex.2.1⟩
 | _=>exact False.elim ty
def Wy(K:PySem.W.Frag)(T:String)(r:V->List V->Hp->VK->Prop)(to:TE):TE:=fun σ H Q=>to σ H fun x H1=>XU K T x H1/\r x [] H1 Q
def X2(K:PySem.W.Frag)(T:String)(r:V->List V->Hp->VK->Prop)(to:TE)(t:TA):TE:=fun σ H Q=>to σ H fun x H1=>XU K T x H1/\t σ H1 fun xs H2=>r x xs H2 Q
variable {o e:Expr}{es:List Expr}{to:TE}{t:TA}{name:Str}{aG aC:Pos}{T id:String}{r:V->List V->Hp->VK->Prop}
theorem LN(pa:PlainAttrs T)(slot:Slot T name id)(hty:typeOf (.builtin id)=pure (.type "method_descriptor"))(hm:XZ X id r)(ho:PE X o to)(bN:attributeBase o name X.env (eval o X.env)=eval o X.env:=by rfl)(da:(aG.endLine == aC.line)=true:=by rfl):PE X (.Call (.Attribute o name aG) [] [] aC) (Wy X.K T r to):=by
 intro pins s σ H Q I h
 refine wpAny_Call_method0_late bN da (AO (ho pins s σ H _ I h) fun v s1 ⟨x,H1,I1,r1,ty,q1⟩=>?_)
 obtain⟨h1,h2⟩:=QB I1 r1 ty
 exact⟨T,id,pa,slot,hty,h1,h2,zCP rfl (PySem.evalArgs_none (hm pins s1 σ H1 x [] v [] Q I1 r1 .nil q1))⟩
theorem Ur(pa:PlainAttrs T)(slot:Slot T name id)(hty:typeOf (.builtin id)=pure (.type "method_descriptor"))(hm:XZ X id r)(ho:PE X o to)(ha:PA X (e::es) t)(bN:attributeBase o name X.env (eval o X.env)=eval o X.env:=by rfl)(hfew:((backTo aC (starEach (e::es) X.env)).all (fun x=>!x.1) && (backToKw aC (keywordEach [] X.env)).all (fun x=>x.1.isSome)
   && decide ((e::es).length+([]:List Keyword).length+(if ([]:List Keyword).isEmpty then 0 else 1)<30))=true:=by rfl)(da:(aG.endLine == aC.line)=true:=by rfl)(hs:starEach (e::es) X.env=(false,eval e X.env)::starEach es X.env:=by rfl)(dE:(backTo aC (starEach es X.env)).any (·.1)=false:=by rfl):
  PE X (.Call (.Attribute o name aG) (e::es) [] aC) (X2 X.K T r to t):=by
 intro pins s σ H Q I h
 refine wpAny_Call_method_late bN hfew da rfl (AO (ho pins s σ H _ I h) fun v s1 ⟨x,H1,I1,r1,ty,q1⟩=>?_)
 obtain⟨h1,h2⟩:=QB I1 r1 ty
 refine⟨T,id,pa,slot,hty,h1,h2,?_⟩
 have hA:=ha aC pins s1 σ H1 _ I1 q1
 rw[hs] at hA ⊢
 refine zCP (by show (false || (backTo aC (starEach es X.env)).any (·.1))=false;rw[dE]<;>rfl) (Calls.evalArgs_plain ?_)
 exact AO hA fun us s2 ⟨vs,H2,I2,r2,q2⟩=>hm pins s2 σ H2 x vs v us Q I2 r1 r2 q2
end
end L2
namespace L2
open PySem PySem.Spec PyProof.Rows
def Xj(X:Cx)(id:String)(r:V->List V->Hp->VK->Prop):Prop:=
 ∀(pins:List (Addr×Obj))(s:Shared)(σ:St)(H:Hp)(x:V)(xs:List V)(v:Value)(us:List Value)(Q:VK),Inv X pins σ H s->RelV x v->Vals xs us->r x xs H Q->
  wpAny (model X.prog X.w) X.A (call (.builtin id) (v::us)) (EP X pins σ Q) X.xe s
theorem Vals.one:∀{x:V}{us:List Value},Vals [x] us->∃u,us=[u]/\RelV x u
 | _,_,.cons r .nil=>⟨_,rfl,r⟩
theorem Vals.zero:∀{us:List Value},Vals [] us->us=[]
 | _,.nil=>rfl
theorem Vals.dropLast(h:Vals xs us):Vals xs.dropLast us.dropLast:=by
 induction h with
 | nil=>exact .nil
 | cons r t ih=>
  cases t with
  | nil=>exact .nil
  | cons q t'=>exact .cons r ih
theorem Vals.reverse(h:Vals xs us):Vals xs.reverse us.reverse:=by
 induction h with
 | nil=>exact .nil
 | cons r t ih=>rw[zB6,zB6];exact Vals.append ih (.cons r .nil)
theorem LF{α:Type}(l:List α):l.eraseIdx (l.length-1)=l.dropLast:=by
 induction l with
 | nil=>rfl
 | cons a r ih=>
  cases r with
  | nil=>rfl
  | cons b r=>
   have e:(a::b::r).length-1=((b::r).length-1)+1:=by
    have h1:(a::b::r).length=r.length+2:=rfl
    have h2:(b::r).length=r.length+1:=rfl
    omega
   rw[e,List.eraseIdx_cons_succ,ih]
   all_goals rfl
section
variable {X:Cx}{pins:List (Addr×Obj)}{σ:St}{H:Hp}{s:Shared}{l b:Addr}{xs ys zs:List V}
theorem Inv.lset{its its':List Value}{n:Nat}{t':Nat}(I:Inv X pins σ H s)(hH:H l=some (.lst xs))(e:s.heap.get? l=some { cls:=.type "list",data:=.seq its.toArray n })(hf:f its.toArray=its'.toArray)(hv:Vals ys its')(hz:ys.length<=sizeLine):
  Inv X pins σ (upd H l (.lst ys)) { s with heap:=s.heap.update l (Obj.mapSeq f),toks:=t' }:=by
 have q:=PySem.IsL.update e f
 rw[hf] at q
 refine I.write (x:=l) (e:=l) (by rw[hH];exact trivial) (.inl rfl) (fun b' u hb hu=>(Heap.get?_update_other s.heap (Obj.mapSeq f) (zBD hb)).trans hu) ⟨_,q⟩ ?_
 exact⟨hz,its',_,hv,q⟩
theorem Inv.lnew(I:Inv X pins σ H s)(hv:Vals ys its)(hz:ys.length<=sizeLine):
  Inv X pins σ (upd H s.heap.objs.size (.lst ys)) { s with heap:=s.heap.push { cls:=.type "list",data:=.seq its.toArray },toks:=t' }:=
 I.laid (fun _ _ q=>Heap.get?_push_of_some _ q) (zAA _) ⟨hz,its,0,hv,Heap.get?_push_size _ rfl⟩
theorem Inv.fresh(I:Inv X pins σ H s):H s.heap.objs.size=none:=I.hok.fresh (zAA _)
theorem Inv.lstM(I:Inv X pins σ H s)(hH:H l=some (.lst xs)):xs.length<=sizeLine/\BF fun(its:List Value)(n:Nat)=>Cc (Vals xs its) (xs.length=its.length) (s.heap.get? l=some { cls:=.type "list",data:=.seq its.toArray n }):=by
 obtain⟨z,its,n,r,e⟩:=I.hok l _ hH
 exact⟨z,its,n,r,r.length,e⟩
theorem P5(h:n<=sizeLine):Builtin.List.listTooLong n=false:=by
 unfold Builtin.List.listTooLong
 exact decide_eq_false (by omega)
end
section
variable {X:Cx}
inductive Ul(l:Addr)(y:V)(H:Hp)(Q:VK):Prop where
 | mk {xs} (_:H l=some (.lst xs)) (_:xs.length<sizeLine) (_:Q .non (upd H l (.lst (xs++[y])))):Ul l y H Q
def ND(x:V)(vs:List V)(H:Hp)(Q:VK):Prop:=vR (fun l=>l1 (fun y=>Ul l y H Q) vs) x
theorem Id:Xj X "list.append" ND:=by
 intro pins s σ H x vs v us Q I rx rv h
 obtain⟨l,rfl,h0⟩:=CM h
 obtain⟨y,rfl,@⟨xs,hH,hz,q⟩⟩:=MK h0
 cases rx
 obtain⟨u,rfl,ru⟩:=rv.one
 obtain⟨z,its,n,r,hl,e⟩:=I.lstM hH
 refine call_meets F.slot_list_append ⟨_,e,rfl⟩ F.entry_list_append (F.args_list_append_2 _ _) (PySem.list_append l its.toArray n u (by rw[zAG];omega)) ⟨e,?_⟩
 refine⟨.non,_,I.lset (its':=its++[u]) hH e (by simp) (r.append (.cons ru .nil)) ?_,rfl,q⟩
 rw[zA,List.length_singleton]
 omega
inductive Nw(x:V)(vs:List V)(H:Hp)(Q:VK):Prop where
 | mk (l b xs zs) (_:x= .ref l) (_:vs=[.ref b]) (_:H l=some (.lst xs)) (_:H b=some (.lst zs)) (_:xs.length+zs.length<=sizeLine) (_:Q .non (upd H l (.lst (xs++zs)))):Nw x vs H Q
theorem OI:Xj X "list.extend" Nw:=by
 intro pins s σ H x vs v us Q I rx rv h
 obtain⟨l,b,xs,zs,rfl,rfl,hH,hB,hz,q⟩:=h
 cases rx
 obtain⟨u,rfl,ru⟩:=rv.one
 cases ru
 obtain⟨z,its,n,r,hl,e⟩:=I.lstM hH
 obtain⟨z2,aT,n2,r2,aF,e2⟩:=I.lstM hB
 have ay:its.toArray.size+aT.toArray.size<=sizeLine:=by rw[zAG,zAG];omega
 have hlong:¬(!its.toArray.isEmpty && Builtin.List.listTooLong (its.toArray.size+aT.toArray.size))=true:=by
  rw[P5 ay,Bool.and_false]
  exact zAB
 refine call_meets F.slot_list_extend ⟨_,e,rfl⟩ F.entry_list_extend (F.args_list_extend_2 _ _)
  (AutoSeq1.list_extend_list_list_0 l its.toArray n b aT.toArray n2 hlong (by rw[zAG];omega) (by omega)) ⟨e,e2,?_⟩
 refine⟨.non,_,I.lset (its':=its++aT) hH e (by simp) (r.append r2) ?_,rfl,q⟩
 rw[zA]
 omega
inductive UC(l:Addr)(H:Hp)(Q:VK):Prop where
 | mk {xs y} (_:H l=some (.lst xs)) (_:xs[xs.length-1]? = some y) (_:Q y (upd H l (.lst xs.dropLast))):UC l H Q
def WU(x:V)(vs:List V)(H:Hp)(Q:VK):Prop:=vR (fun l=>l0 (UC l H Q) vs) x
theorem UW:Xj X "list.pop" WU:=by
 intro pins s σ H x vs v us Q I rx rv h
 obtain⟨l,rfl,h0⟩:=CM h
 obtain⟨rfl,@⟨xs,y,hH,hy,q⟩⟩:=UN h0
 cases rx
 have hus:=rv.zero
 subst hus
 obtain⟨z,its,n,r,hl,e⟩:=I.lstM hH
 obtain⟨u,hu,ru⟩:=r.get hy
 have eZ:its.toArray[its.toArray.size-1]? = some u:=by
  show its.toArray[its.length-1]? = some u
  rw[<-Array.getElem?_toList,<-hl]
  exact hu
 refine call_meets F.slot_list_pop ⟨_,e,rfl⟩ F.entry_list_pop (F.args_list_pop_1 _) (MeetsSeq.list_pop_last l its.toArray n u eZ (by rw[zAG];omega)) ⟨e,?_⟩
 refine⟨y,_,I.lset (its':=its.dropLast) hH e ?_ r.dropLast ?_,ru,q⟩
 ·show its.toArray.eraseIdxIfInBounds (its.toArray.size-1)=its.dropLast.toArray
  rw[zAG,List.eraseIdxIfInBounds_toArray,LF]
 ·rw[List.length_dropLast]
  omega
inductive KT(x:V)(vs:List V)(H:Hp)(Q:VK):Prop where
 | mk (l xs) (_:x= .ref l) (_:vs=[]) (_:H l=some (.lst xs)) (_:Q .non (upd H l (.lst xs.reverse))):KT x vs H Q
theorem G3:Xj X "list.reverse" KT:=by
 intro pins s σ H x vs v us Q I rx rv h
 obtain⟨l,xs,rfl,rfl,hH,q⟩:=h
 cases rx
 have hus:=rv.zero
 subst hus
 obtain⟨z,its,n,r,hl,e⟩:=I.lstM hH
 refine call_meets F.slot_list_reverse ⟨_,e,rfl⟩ F.entry_list_reverse (F.args_list_reverse_1 _) (AutoSeq1.list_reverse_list_0 l its.toArray n (by rw[zAG];omega)) ⟨e,?_⟩
 refine⟨.non,_,I.lset (its':=its.reverse) hH e (by simp) r.reverse ?_,rfl,q⟩
 rw[List.length_reverse]
 omega
inductive Wj(x:V)(y:V)(H:Hp)(Q:VK):Prop where
 | mk (l b xs zs) (_:x= .ref l) (_:y= .ref b) (_:H l=some (.lst xs)) (_:H b=some (.lst zs)) (_:xs.length+zs.length<=sizeLine) (_:∀p,H p=none->Q (.ref p) (upd H p (.lst (xs++zs)))):Wj x y H Q
theorem Ek:D1 X (binaryOp .Add) Wj:=by
 intro pins s σ H x y v u Q I rx ry h
 obtain⟨l,b,xs,zs,rfl,rfl,hH,hB,hz,q⟩:=h
 cases rx
 cases ry
 obtain⟨z,its,n,r,hl,e⟩:=I.lstM hH
 obtain⟨z2,aT,n2,r2,aF,e2⟩:=I.lstM hB
 refine PySem.P.add_list e e2 ?_ (by rw[zAG,zAG];omega)
 have ea:its.toArray++aT.toArray=(its++aT).toArray:=by simp
 rw[ea]
 exact⟨.ref _,_,I.lnew (t':=s.toks) (r.append r2) (by rw[zA];omega),rfl,q _ I.fresh⟩
end
section
variable {prog:Program}{w:World}{A:Around}{E:Value->Shared->Prop}{s:Shared}
end
section
variable {X:Cx}
end
end L2
namespace Att
open PySem PySem.W PySem.Calls PyProof.Rows
theorem FQ:∀(ns:List Int)(vs:List Value),WellAll P h vs (ns.map WData.int)->IntsAre vs ns:=by
 intro ns
 induction ns with
 | nil=>
  intro vs w
  rw[zCL] at w
  cases w
  exact .nil
 | cons n ns ih=>
  intro vs w
  rw[zA7] at w
  cases w with
  | cons a b=>
   cases a
   exact .cons _ _ (ih _ b)
theorem OK{l:OpenLaw}{n:Nat}(hn:l.most=some n){P:Params}{h:Heap}{args:List WData}{gi:List Value}(gj:l.row.toRowW.claim.pre args=true)(be:WellAll P h gi args):
  D0 fun a vs ns=>Fs (gi=[Value.ref a]) (args=[WData.list (ns.map WData.int)]) (h.get? a=some { cls:=.type "list",data:=.seq vs.toArray }) (IntsAre vs ns) (ns.length<=n):=by
 have gk:WShape.hasAll [] args [.list .int]=true:=(pre_splitW gj).1
 have hc:l.pre.holds [] { args:=args }=true:=(pre_splitW gj).2
 obtain⟨d,r,rfl,h1,h2⟩:=hasAllW_cons gk
 obtain rfl:=hasAllW_nil h2
 obtain⟨xs,rfl,h3⟩:=hasW_list h1
 obtain⟨ns,rfl⟩:=items_int h3
 have aj:ns.length<=n:=by
  unfold OpenLaw.pre at hc
  have h4:(WTm.not (.lt (.lit (.int (n:Int))) (.len (.arg 0)))).holds [] { args:=[.list (ns.map .int)] }=true:=by
   have h4:=(holds_andW hc).1
   rw[hn] at h4
   exact h4
  have h5:=condW_of h4 (w_not (w_lt w_lit (w_len_list (w_arg rfl))))
  rw[List.length_map] at h5
  refine Nat.le_of_not_lt fun q=>?_
  have q':(n:Int)<((ns.length:Nat):Int):=by omega
  first
   | (rw[decide_eq_true q'] at h5;exact absurd h5 (by decide))
   | (simp at h5;omega)
 cases be with
 | cons w1 w2=>
  cases w2
  cases w1 with
  | list ho hall=>exact⟨_,_,ns,rfl,rfl,ho,FQ ns _ hall,aj⟩
theorem N1(l:OpenLaw)(args:List WData):l.row.toRowW.claim.post args (.bool true) args=true:=
 postW_of (r:=l.row.toRowW) (X:=(true == true))
  (show WShape.has [] (.bool true) .bool=true by first | rfl | decide | simp[WShape.has,WShape.arms,WShape.armsAll])
  (show (WTm.eq .res (.lit (.bool true))).value [] { args:=args,res:=some (.bool true),after:=args }=some (.bool (true == true)) from w_eq_bool (w_res rfl) w_lit) rfl
theorem attach_call{l:OpenLaw}{n:Nat}{q:Program}{cu:List Str}{XP:(Str->Option Value)->Heap->Prop}{YP:World->Heap->Prop}{d:DefRec}(hn:l.most=some n)(gm:d.params.defaults=[])(call:∀(w:World) (s₀ s₁:Shared) (mg mb:Str->Option Value) (fa:Addr) (o:Obj) (pm cd bM:Value) (a:Addr) (vs:List Value) (ns:List Int),
   Ground q cu [] XP w s₀ mg mb s₁.heap->YP w s₁.heap->
   s₁.heap.get? fa=some o->o.data= .func (docDef d.name d.params d.body d.scope pm cd bM)->s₁.heap.CodeRec cd d.name->mg d.name=some (.ref fa)->
   s₁.heap.get? a=some { cls:=.type "list",data:=.seq vs.toArray }->IntsAre vs ns->ns.length<=n->s₁.gens = #[]->
   codeAny (model l.prog w) callerA (.call (.ref fa) ⟨[.ref a],[]⟩) (fun r s'=>r= .ok (.ret (.bool true))/\OldK s₁.heap s'.heap/\s'.os=s₁.os/\AllBare s'.gens) s₁):
  WalkO q cu XP YP l.row.toRowW d [] (fun f vs=>PySem.call f vs):=by
 intro w s₀ s₁ mg mb G Y fa o pm cd bM dV kV ho hd cZ hD hmg hg args gi as gj hlay hrd be hlo
 obtain rfl:dV= .none:=Dflts.none hD gm
 obtain rfl:kV= .none:=Dflts.noKw hD
 obtain⟨a,vs,ns,rfl,rfl,hobj,e7,aj⟩:=OK hn gj be
 refine enter_call (codeAny_mono (call w s₀ s₁ mg mb fa o pm cd bM a vs ns G Y ho (fd_plain hd) cZ hmg hobj e7 aj hg) fun r s' hq=>?_)
 obtain⟨rfl,h2,h3,h4⟩:=hq
 exact⟨.inl ⟨.bool true,.bool true,[],rfl,fun _=>rfl,.bool true,N1 l _,fun _=>⟨List.Pairwise.nil,fun _ hm=>(nomatch hm)⟩⟩,h2,h3,h4⟩
section
variable {prog:Program}{w:World}{A:Around}{E:Value->Shared->Prop}{s:Shared}{K:Frag}
end
end Att
namespace L2
open PySem PySem.Spec PyProof.Rows
theorem Fk:∀{vs:List Value}{ns:List Int},IntsAre vs ns->Vals (ns.map V.int) vs
 | _,_,.nil=>.nil
 | _,_,.cons n t h=>.cons ⟨t,rfl⟩ (Fk h)
def V8(H:Hp):Prop:=∀b,H b=none\/BF fun o xs=>H b=some (.frz o (.lst xs))
theorem Pj{K:PySem.W.Frag}(KX:K.In s₁.heap)(eQ:s₁.heap.Ns mainGlobals mg)(hb:s₁.heap.Ns builtinsNs mb)(hbb:∀x:Str,x≠"__name__"->mb x=bootBuiltins x)(hlim:s₁.heap.NoLimit)(hg:s₁.gens = #[])(ha:s₁.heap.get? a=some { cls:=.type "list",data:=.seq vs.toArray })(hi:IntsAre vs ns)(hl:ns.length<=sizeLine)(hr:Room k callerA)(F:∀base:Heap,K.In base->base.Ns mainGlobals mg->FnOk P w K mg base CX k fa fd [x] sp)(hbind:∀(s:Shared) (u:Value),BindsTo s fd ⟨[u],[]⟩ [(x,u)])(ce:∀H:Hp,V8 H->SqL K H a (ns.map V.int)->sp [.ref a] H (fun v _=>v= .bl true) fun _ _ _=>False)(hCX:∀H e s',CX [] H s₁ (fun _ _ _=>False) e s'->False):
  codeAny (model P w) callerA (.call (.ref fa) ⟨[.ref a],[]⟩) (fun r s'=>r= .ok (.ret (.bool true))/\OldK s₁.heap s'.heap/\s'.os=s₁.os/\AllBare s'.gens) s₁:=by
 have rv:=Fk hi
 have lenV:=hi.length
 have core:∀H:Hp,V8 H->SqL K H a (ns.map V.int)->HOk P w H s₁.heap->(∀b,H b≠none->b=a)->(H a≠none->K.lookup a=none)->
   codeAny (model P w) callerA (.call (.ref fa) ⟨[.ref a],[]⟩) (fun r s'=>r= .ok (.ret (.bool true))/\OldK s₁.heap s'.heap/\s'.os=s₁.os/\AllBare s'.gens) s₁:=by
  intro H hO hS hok hA hK
  have DF:∀{b:Addr}{o:Obj},s₁.heap.get? b=some o->H b=none->(IP s₁.heap H).get? b=some o:=fun e n=>Pl e n
  have noA:∀{b:Addr}{o:Obj}{es:Array DictEntry}{ep:Nat},s₁.heap.get? b=some o->o.data= .dict es ep->H b=none:=fun {b o es ep} e d=>by
   cases q:H b with
   | none=>rfl
   | some u=>
    have e':b=a:=hA b (by rw[q];simp)
    subst e'
    rw[ha] at e;cases e
    have d':Data.seq vs.toArray _=Data.dict es ep:=d
    cases d'
  have nsK:∀{b:Addr}{m:Str->Option Value},s₁.heap.Ns b m->(IP s₁.heap H).Ns b m:=fun {b m} ⟨o,es,ep,e,d,r⟩=>⟨o,es,ep,DF e (noA e d),d,r⟩
  have hKb:K.In (IP s₁.heap H):=fun b o e=>DF (KX b o e) (by
   cases q:H b with
   | none=>rfl
   | some u=>
    have e':b=a:=hA b (by rw[q];simp)
    subst e'
    rw[hK (by rw[q];simp)] at e;cases e)
  have hM:Mod K mg (IP s₁.heap H):=⟨hKb,nsK eQ,⟨mb,nsK hb,hbb⟩,let ⟨mc,h1,h2⟩:=hlim;⟨mc,nsK h1,h2⟩⟩
  have e0:Env0 P w K mg (IP s₁.heap H) callerA [] s₁ H:=⟨rfl,hM,fun b o e=>To e,Nat.le_of_eq (Oh _ _),trivial,fun b hb=>absurd (show b∈([]:List Addr) from hb) (by simp),hok,.of_eq hg⟩
  refine codeAny_mono ((F _ hKb (nsK eQ)).run callerA [] s₁ H ⟨[.ref a],[]⟩ [.ref a] [.ref a] _ _ hr e0 (hbind s₁ (.ref a)) (.cons rfl .nil) (ce H hO hS)) fun r s' h=>?_
  cases r with
  | error e=>exact (hCX H e s' h).elim
  | ok fl=>
   cases fl with
   | next=>exact False.elim h
   | brk=>exact False.elim h
   | cont=>exact False.elim h
   | ret u=>
    obtain⟨v,H',os,bare,un,hok',r',q⟩:=h
    have q':v= .bl true:=q
    subst q'
    obtain rfl:u=Value.bool true:=r'
    refine⟨rfl,OldK.of_keep fun b o e=>?_,os,bare⟩
    cases q:H b with
    | none=>exact un.keep b o e q (by intro z;exact absurd (show b∈([]:List Addr) from z) (by simp)) (by simp)
    | some u=>
     rcases hO b with z | ⟨ob,xs,z⟩
     ·rw[q] at z;cases z
     ·have z2:=un.frzs b ob _ z
      obtain⟨e1,_⟩:=hok b _ z
      obtain⟨e2,_⟩:=hok' b _ z2
      rw[e] at e1;cases e1
      exact e2
 cases hk:K.lookup a with
 | some o=>
  have e:=KX a o hk
  rw[ha] at e
  cases e
  refine core (fun _=>none) (fun _=>.inl rfl) (.inr ⟨_,vs.toArray,_,hk,rfl,rfl,rfl,by rw[zAG,lenV];exact hl,by simpa using rv⟩) (fun b u z=>by have z':(none:Option HO)=some u:=z;cases z') (fun b z=>absurd rfl z) fun z=>absurd rfl z
 | none=>
  refine core (fun b=>if b=a then some (.frz { cls:=.type "list",data:=.seq vs.toArray } (.lst (ns.map V.int))) else none) (fun b=>?_) (.inl (.inr ⟨{ cls:=.type "list",data:=.seq vs.toArray },if_pos rfl⟩)) (fun b u z=>?_) (fun b z=>?_) fun _=>hk
  ·by_cases hb:b=a
   ·exact .inr ⟨_,_,if_pos hb⟩
   ·exact .inl (if_neg hb)
  ·by_cases hb:b=a
   ·have z':=(if_pos hb).symm.trans z
    cases z'
    subst hb
    exact⟨ha,by rw[List.length_map];exact hl,vs,_,rv,ha⟩
   ·have z':=(if_neg hb).symm.trans z
    cases z'
  ·by_cases hb:b=a
   ·exact hb
   ·exact absurd (if_neg hb) z
end L2
namespace L2
open PySem PySem.Spec PyProof.Rows
theorem walk_of{l:PySem.W.OpenLaw}{n k:Nat}{q:Program}{cu:List Str}{XP:(Str->Option Value)->Heap->Prop}{YP:World->Heap->Prop}{d:DefRec}{K:Params->PySem.W.Frag}{CX:World->Hv}{sp:World->Sp}{x:Str}(hn:l.most=some n)(dQ:n<=sizeLine)(gm:d.params.defaults=[])(hr:Room k callerA)(hY:∀(w:World) (h:Heap),YP w h->(K w.params).In h)(F:∀(w:World) (mg:Str->Option Value) (fa:Addr) (h:Heap),(K w.params).In h->h.Ns mainGlobals mg->mg d.name=some (.ref fa)->
   ∃fd:FuncData,(∀(s:Shared) (u:Value),BindsTo s fd ⟨[u],[]⟩ [(x,u)])/\
    ∀base:Heap,(K w.params).In base->base.Ns mainGlobals mg->FnOk l.prog w (K w.params) mg base (CX w) k fa fd [x] (sp w))(ce:∀(w:World) (H:Hp) (a:Addr) (ns:List Int),ns.length<=n->V8 H->SqL (K w.params) H a (ns.map V.int)->sp w [.ref a] H (fun v _=>v= .bl true) fun _ _ _=>False)(hCX:∀(w:World) (H:Hp) (s:Shared) (e:Value) (s':Shared),CX w [] H s (fun _ _ _=>False) e s'->False):
  PySem.W.WalkO q cu XP YP l.row.toRowW d [] (fun f vs=>PySem.call f vs):=by
 refine Att.attach_call hn gm fun w s₀ s₁ mg mb fa o pm cd bM a vs ns G Y ho hd cZ hmg hobj e7 aj hg=>?_
 have KX:=hY w _ Y
 obtain⟨fd,hb,hF⟩:=F w mg fa _ KX G.T.g hmg
 exact Pj KX G.T.g G.T.b G.T.builtins G.T.nolimit hg hobj e7 (zAC aj dQ) hr hF hb (fun H hO hS=>ce w H a ns aj hO hS) fun H e s'=>hCX w H s₁ e s'
end L2
namespace L2
open PySem PySem.Spec PyProof.Rows
def Bx(s:Stmt)(j:Nat):Stmt:=match s with
 | .ClassDef _ _ _ body _ _ _ _ _ _ _=>body.getD j (.Pass ⟨0,0,0,0⟩)
 | _=>.Pass ⟨0,0,0,0⟩
def C6(s:Stmt):Arguments:=match s with
 | .FunctionDef _ a _ _ _ _ _ _ _ _=>a
 | _=>{ posonlyargs:=[],args:=[],vararg:=none,kwonlyargs:=[],kw_defaults:=[],kwarg:=none,defaults:=[] }
def BX(s:Stmt):List Stmt:=match s with
 | .FunctionDef _ _ b _ _ _ _ _ _ _=>b
 | _=>[]
def AZ(s:Stmt):Scope:=match s with
 | .FunctionDef _ _ _ _ _ _ sc _ _ _=>sc
 | _=>{ kind:=.function,names:=[],isGenerator:=false,isCoroutine:=false }
abbrev Bh:Hv:=fun _ _ _ _ _ _=>False
abbrev E0:XK:=fun _ _ _=>False
theorem Ai:BS Bh X E0:=fun _ _ _ _ _ _ _ h=>h.elim
structure Fun(K:PySem.W.Frag)(x av:Str)(st:Stmt)(f:Addr)(fd:FuncData):Prop where
 ex:X5 fun(oc:Value)(od:Option Addr)(kV bM pm:Value)(an:Option Addr)(ak ct:Value)(gh:Array (Option Value))=>Cc (fd=PySem.W.fnOf x av (C6 st) (BX st) (AZ st) .none kV bM pm an ak ct) (K.lookup f=some ⟨oc,od,.func fd,gh⟩) (PySem.W.codeIn K ak av=true)
 kp:PySem.W.keepIn K (.ref f)=true
section
variable {P:Program}{w:World}{K:PySem.W.Frag}{mg:Str->Option Value}{base:Heap}
theorem Fun.ok{st:Stmt}(F:Fun K x av st f fd)(S:DK N ps (AZ st))(c6:∀(ak:Value) (A:Around) (outer:List Env) (s:Shared) (H:Hp) (vs:List V) (Q:VK) (E:XK),Room k (A.deeper (envOfC av (AZ st) s.heap.objs.size f ak))->sp vs H Q E->
   ∃t,PSs (Hu Bh P w K mg base N av (AZ st) f ak A outer s H E).nox (BX st) t/\t { nx:=fun _ H'=>Q .non H',rt:=Q } (D3 N vs) H)(len:∀vs H Q E,sp vs H Q E->vs.length=ps.length:=by rintro _ _ _ _ ⟨⟩;subst_vars;rfl):FnOk P w K mg base Bh (k+1) f fd ps sp:=by
 obtain⟨oc,od,kV,bM,pm,an,ak,ct,gh,rfl,lk,cZ⟩:=F.ex
 refine Uz lk cZ S len fun A outer s H vs Q E hr ce=>?_
 obtain⟨t,h,q⟩:=c6 ak A outer s H vs Q E hr ce
 exact⟨t,h.nox,q⟩
theorem Fun.binds{st:Stmt}(F:Fun K x av st f fd)(h:∀(kV bM pm:Value) (an:Option Addr) (ak ct:Value) (us:List Value),us.length=ps.length->bindArgs (PySem.W.fnOf x av (C6 st) (BX st) (AZ st) .none kV bM pm an ak ct) ⟨us,[]⟩=pure (ps.zip us)):Binds K fd ps []:=by
 obtain⟨oc,od,kV,bM,pm,an,ak,ct,gh,rfl,lk,cZ⟩:=F.ex
 exact .all (h kV bM pm an ak ct)
theorem PV{st:Stmt}{kV bM pm ak ct:Value}(l:K.lookup f=some ⟨oc,od,.func (PySem.W.fnOf x av (C6 st) (BX st) (AZ st) .none kV bM pm an ak ct),gh⟩)(c:PySem.W.codeIn K ak av=true)(k:PySem.W.keepIn K (.ref f)=true):Fun K x av st f (PySem.W.fnOf x av (C6 st) (BX st) (AZ st) .none kV bM pm an ak ct):=⟨⟨oc,od,kV,bM,pm,an,ak,ct,gh,rfl,l,c⟩,k⟩
end
theorem Ap(h:n<=1000):n<sizeLine:=zBL h (by decide)
section
variable {X:Cx}
theorem pv(i:Nat)(hN:X.N[i]? = some x:=by rfl)(hv:XG X.env.scope x:=by first | exact Or.inl rfl | exact Or.inr (Or.inl rfl) | exact Or.inr (Or.inr rfl))(hd:(x == ("__debug__":Str))=false:=by decide)(cZ:(x == ("__classdict__":Str))=false:=by decide):PE X (.Name x pos) (Hx i):=VN hN hv hd cZ
end
theorem AY(h:B):If false A B:=.ff rfl h
theorem A8(h:A):If true A B:=.tt rfl h
theorem B9(h1:b=true->A)(h2:¬b=true->B):If b A B:=by
 cases b with
 | true=>exact .tt rfl (h1 rfl)
 | false=>exact .ff rfl (h2 zAB)
theorem DZ[Decidable c](hc:c)(h:B):If (!decide c) A B:=.ff (by rw[decide_eq_true hc];rfl) h
def Same(H H':Hp):Prop:=∀b o,H b=some o->H' b=some o
theorem Same.refl(H:Hp):Same H H:=fun _ _ h=>h
theorem Same.trans(a:Same H H1)(b:Same H1 H2):Same H H2:=fun c o h=>b c o (a c o h)
theorem Same.free(e:Same H H')(h:H' l=Option.none):H l=Option.none:=by
 cases q:H l with
 | none=>rfl
 | some o=>
  rw[e l o q] at h
  cases h
theorem Same.seq{K:PySem.W.Frag}(e:Same H H')(h:SqL K H a xs):SqL K H' a xs:=by
 rcases h with (h | ⟨o,h⟩) | h
 ·exact .inl (.inl (e _ _ h))
 ·exact .inl (.inr ⟨o,e _ _ h⟩)
 ·exact .inr h
end L2
namespace L2
open PySem PySem.Spec PyProof.Rows
section
variable {X:Cx}
inductive D2(K:PySem.W.Frag)(xs:List V)(H:Hp)(Q:VK):Prop where
 | mk (x T t b) (_:xs=[x,.ty T]) (_:Fo K H x t) (_:PySem.W.kitOne K t (.type T)=some b) (_:Q (.bl b) H):D2 K xs H Q
theorem Bt:B6 X (.builtin "isinstance") (D2 X.K):=by
 intro pins s σ H xs us Q I r h
 obtain⟨x,T,t,b,rfl,ty,e,q⟩:=h
 obtain⟨u,w',rfl,rx,ry⟩:=PD r
 cases ry
 exact OU I rx ty e fun tk=>⟨.bl b,H,I.tok _,rfl,q⟩
theorem CH(K:PySem.W.Frag)(T:String):PySem.W.kitOne K (.type T) (.type T)=some true:=by
 unfold PySem.W.kitOne
 rw[if_pos (beq_self_eq_true _)]
theorem Jm(K:PySem.W.Frag):PySem.W.kitOne K (.type "int") (.type "bool")=some false:=by
 with_unfolding_all rfl
inductive WD(K:PySem.W.Frag)(x:V)(y:V)(H:Hp)(Q:VK):Prop where
 | mk (a b xs) (_:x= .ref a) (_:y= .ref b) (_:SqL K H a xs) (_:SqL K H b []) (_:Q (.bl (!xs.isEmpty)) H):WD K x y H Q
theorem Sl(hu:X.A.units<cLine):D1 X (compareOp .NotEq) (WD X.K):=by
 intro pins s σ H x y v u Q I rx ry h
 obtain⟨a,b,xs,rfl,rfl,ha,hb,q⟩:=h
 cases rx
 cases ry
 obtain⟨its,r,pl,hz⟩:=I.list ha
 obtain⟨aT,r2,pl2,hz2⟩:=I.list hb
 cases r2
 cases r with
 | nil=>exact SeqAt.RcNeAt.lists (e:=fun _=>true) pl.isList pl2.isList rfl hu (fun j h1=>absurd h1 (zBX _)) _ _ _ _ ⟨.bl false,H,I,rfl,q⟩
 | cons r1 r2=>exact SeqAt.RcNeAt.lists_lengths pl.isList pl2.isList (by simp) hu _ _ _ _ ⟨.bl true,H,I,rfl,q⟩
inductive Wk(K:PySem.W.Frag)(x:V)(y:V)(H:Hp)(Q:VK):Prop where
 | mk (a b xs) (_:x= .ref a) (_:y= .ref b) (_:SqL K H a xs) (_:SqL K H b []) (_:Q (.bl xs.isEmpty) H):Wk K x y H Q
theorem PM(hu:X.A.units<cLine):D1 X (compareOp .Eq) (Wk X.K):=by
 intro pins s σ H x y v u Q I rx ry h
 obtain⟨a,b,xs,rfl,rfl,ha,hb,q⟩:=h
 cases rx
 cases ry
 obtain⟨its,r,pl,hz⟩:=I.list ha
 obtain⟨aT,r2,pl2,hz2⟩:=I.list hb
 cases r2
 cases r with
 | nil=>exact SeqAt.RcAt.lists (e:=fun _=>true) pl.isList pl2.isList rfl hu (fun j h1=>absurd h1 (zBX _)) _ _ _ _ ⟨.bl true,H,I,rfl,q⟩
 | cons r1 r2=>exact SeqAt.RcAt.lists_lengths pl.isList pl2.isList (by simp) hu _ _ _ _ ⟨.bl false,H,I,rfl,q⟩
end
end L2
namespace HT2
open PySem L2
def TS(H H':Hp):Prop:=∀p xs,H p=some (.tup xs)->H' p=some (.tup xs)
theorem TS.trans(a:TS H H1)(b:TS H1 H2):TS H H2:=fun p xs e=>b p xs (a p xs e)
theorem TS.same(s:Same H H'):TS H H':=fun p xs e=>s p _ e
theorem TS.lst{H:Hp}{l:Addr}{xs:List V}{o:HO}(h:H l=some (.lst xs)):TS H (upd H l o):=fun p ys e=>by
 rw[Al (CI e h (by intro z;cases z))]
 exact e
theorem TS.new(h:H l=none):TS H (upd H l o):=fun p ys e=>by
 rw[Al (Ah e h)]
 exact e
theorem Ab(h:H p=none)(o:HO):Same H (upd H p o):=fun b u q=>by rw[Al (Ah q h)];exact q
theorem AA(s:Same H0 H)(h:H0 p=none)(o:HO):Same H0 (upd H p o):=fun b u q=>by rw[Al (Ah q h)];exact s b u q
inductive Tr where
 | lt (k:Nat)
 | nt (t:Tr)
 | bn (j:Nat) (a b:Tr)
 deriving DecidableEq
def jn:Nat->Str
 | 0=>"and"
 | 1=>"or"
 | 2=>"if"
 | _=>"same"
def Tr.At(H:Hp):Tr->V->Prop
 | .lt k,v=>∃p,v= .ref p/\H p=some (.tup [.str "let",.int k])
 | .nt t,v=>BF fun p u=>Cc (v= .ref p) (H p=some (.tup [.str "not",u])) (t.At H u)
 | .bn j a b,v=>D0 fun p x y=>Hw (v= .ref p) (H p=some (.tup [.str (jn j),x,y])) (a.At H x) (b.At H y)
def Tr.size:Tr->Nat
 | .lt _=>1
 | .nt t=>t.size+1
 | .bn _ a b=>a.size+b.size+1
def Tr.ok(m:Nat):Tr->Prop
 | .lt k=>k<m
 | .nt t=>t.ok m
 | .bn j a b=>j<4/\a.ok m/\b.ok m
theorem Tr.size_pos:∀t:Tr,0<t.size
 | .lt _=>Nat.one_pos
 | .nt _=>zBG _
 | .bn _ _ _=>zBG _
theorem Tr.At.keep{H H':Hp}(s:TS H H'):∀{t:Tr}{v:V},t.At H v->t.At H' v
 | .lt k,v,h=>by
  obtain⟨p,e,h⟩:=h
  exact⟨p,e,s _ _ h⟩
 | .nt t,v,h=>by
  obtain⟨p,u,e,h,q⟩:=h
  exact⟨p,u,e,s _ _ h,Tr.At.keep s q⟩
 | .bn j a b,v,h=>by
  obtain⟨p,x,y,e,h,q,r⟩:=h
  exact⟨p,x,y,e,s _ _ h,Tr.At.keep s q,Tr.At.keep s r⟩
theorem Tr.ok.mono{m n:Nat}(h:m<=n):∀{t:Tr},t.ok m->t.ok n
 | .lt k,q=>zAL q h
 | .nt t,q=>Tr.ok.mono (t:=t) h q
 | .bn j a b,q=>⟨q.1,Tr.ok.mono (t:=a) h q.2.1,Tr.ok.mono (t:=b) h q.2.2⟩
abbrev Pile(H:Hp):List V->List Tr->Prop:=Paired fun(v:V)(t:Tr)=>t.At H v
theorem Pile.keep{H H':Hp}(s:TS H H'):∀{xs:List V}{ts:List Tr},Pile H xs ts->Pile H' xs ts
 | _,_,.nil=>.nil
 | _,_,.cons r q=>.cons (Tr.At.keep s r) (Pile.keep s q)
theorem Pile.len{H:Hp}:∀{xs:List V}{ts:List Tr},Pile H xs ts->xs.length=ts.length
 | _,_,.nil=>rfl
 | _,_,.cons _ q=>congrArg (· + 1) (Pile.len q)
theorem Pile.snoc{H:Hp}{y:V}{t:Tr}(h:t.At H y):∀{xs:List V}{ts:List Tr},Pile H xs ts->Pile H (xs++[y]) (ts++[t])
 | _,_,.nil=>.cons h .nil
 | _,_,.cons r q=>.cons r (Pile.snoc h q)
theorem Pile.last{H:Hp}:∀{xs:List V}{ts:List Tr},Pile H xs ts->0<ts.length->TK fun hU y dw t=>Hw (xs=hU++[y]) (ts=dw++[t]) (Pile H hU dw) (Tr.At H t y)
 | _,_,.nil,h=>absurd h (zB4 _)
 | _,_,.cons (a:=v) (b:=t) r .nil,_=>⟨[],v,[],t,rfl,rfl,.nil,r⟩
 | _,_,.cons (a:=v) (b:=t) r (.cons r' q'),_=>by
  obtain⟨hU,y,dw,u,e1,e2,q,a⟩:=Pile.last (Paired.cons r' q') (zBG _)
  exact⟨v::hU,y,t::dw,u,by rw[e1];rfl,by rw[e2];rfl,.cons r q,a⟩
def sz(ts:List Tr):Nat:=(ts.map Tr.size).sum
theorem BJ(ts:List Tr)(t:Tr):sz (ts++[t])=sz ts+t.size:=by
 unfold sz
 rw[zAP,zCZ]
 simp
theorem EX(xs:List V)(y:V):(xs++[y])[(xs++[y]).length-1]? = some y:=by
 simp
theorem small(h:n<=1000):n<=sizeLine:=zAZ (Ap h)
theorem BT:2<=sizeLine:=by decide
theorem E2:3<=sizeLine:=by decide
theorem X1:4<=sizeLine:=by decide
theorem Xp:5<=sizeLine:=by decide
theorem Gc:1<=sizeLine:=by decide
theorem IF:0<=sizeLine:=by decide
def Ed:List V:=[.str "and",.str "or",.str "if",.str "same"]
theorem Ju(h0:0<=i)(h1:i<4):EF Ed i=some (.str (jn i.toNat)):=by
 obtain⟨n,rfl⟩:=zCC h0
 have hn:n<4:=by omega
 rw[zB5]
 refine Af ?_
 match n,hn with
 | 0,_=>rfl
 | 1,_=>rfl
 | 2,_=>rfl
 | 3,_=>rfl
end HT2
namespace L2
open PySem PySem.Spec PyProof.Rows
abbrev D9:Value->Shared->Prop:=fun _ _=>False
theorem MB{α:Type}{t:Sem α}{Q:α->Shared->Prop}(h:wpAny M A t Q D9 s):wpAny M A t Q E s:=wpAny_mono h (fun _ _ q=>q) fun _ _ z=>False.elim z
def Es(J:It)(g:TG)(tb:TS)(D:Ends)(σ:St)(H:Hp):Prop:=∃W:Nat->Nat->St->Hp->Prop,(∃m,W 0 m σ H)/\∀i m σ H,W i m σ H->
 (J.stop i H/\D.nx σ H)\/(J.go i H/\∃N:St->Hp->Prop,(∀σ' H',N σ' H'->∃m',m'<m/\W (i+1) m' σ' H')/\∀x H',J.yld i H x H'->g x σ H' fun σ2 H2=>tb { D with nx:=N,ct:=N,bk:=D.nx } σ2 H2)
abbrev Sr:=(Shared->Prop)->Shared->Prop
structure PB(X:Cx)(WB:Sr)(tb:TS):Prop where
 mono:∀(Qa Qb:Shared->Prop)(s:Shared),(∀s,Qa s->Qb s)->WB Qa s->WB Qb s
 run:∀(pins:List (Addr×Obj))(s:Shared)(σ:St)(H:Hp)(D:Ends),Inv X pins σ H s->tb D σ H->WB (fun s'=>BF fun σ' H'=>Inv X pins σ' H' s'/\D.nx σ' H') s
def HT(X:Cx)(e:Expr)(d:Nat)(it acc:Value)(tg:Expr)(WB:Sr):Prop:=∀(s:Shared)(Qd Qa:Shared->Prop),
 wpAny (model X.prog X.w) X.A (pyNext it) (fun r s1=>match r with | none=>Qd s1 | some v=>wpAny (model X.prog X.w) X.A (letOwnedTupleGo tg it v) (fun _ s2=>wpAny (model X.prog X.w) X.A (assign tg X.env v) (fun _ s3=>WB Qa s3) D9 s2) D9 s1) D9 s->
 wpAny (model X.prog X.w) X.A (compTurn e d it acc X.env) (fun aJ s'=>match aJ with | .done f=>f= .next/\Qd s' | .again c'=>c'= .compLoop e d it acc X.env/\Qa s') D9 s
section
variable {X:Cx}{e tg:Expr}{d:Nat}{acc:Value}{it:Addr}{WB:Sr}{tb:TS}{g:TG}{J:It}{fp:List Addr}{tn:Nat->Heap->Prop}{D:Ends}{pins:List (Addr×Obj)}{σ:St}{H:Hp}{s:Shared}
theorem CJ(aM:X.xe=D9)(hc:X.calm=true)(ht:HT X e d (.ref it) acc tg WB)(bC:(Code.compLoop e d (.ref it) acc X.env).isFrame=false)(hun:X.A.under (.compLoop e d (.ref it) acc X.env)=X.A)(hqu:(Code.compLoop e d (.ref it) acc X.env).quiet=true)(T:Ld X.prog X.w X.K tg J fp it tn)(hg:PG X tg g)(hb:PB X WB tb)(I:Inv X pins σ H s)(st:tn 0 s.heap)(f2:∀b∈fp,CL X pins H b)(h:Es J g tb D σ H):
  codeAny (model X.prog X.w) X.A (.compLoop e d (.ref it) acc X.env) (fun r s'=>r= .ok .next/\BF fun σ' H'=>Inv X pins σ' H' s'/\D.nx σ' H') s:=by
 obtain⟨W,⟨m0,w0⟩,eW⟩:=h
 have dD:∀{H':Hp},(∀b∈fp,H' b=none)->∀b∈fp,CL X pins H' b:=fun hn b hb=>⟨hn b hb,(f2 b hb).2⟩
 refine codeAny_loop hqu (fun n s'=>D0 fun i σ' H'=>Hw (Inv X pins σ' H' s') (tn i s'.heap) (∀b∈fp,H' b=none) (W i n σ' H')) (fun n s3 hI=>?_) m0 ⟨0,σ,H,I,st,fun b hb=>(f2 b hb).1,w0⟩
 obtain⟨i,σ3,H3,I3,eX,fr3,w3⟩:=hI
 have hden:(model X.prog X.w).den (.compLoop e d (.ref it) acc X.env)=(compTurn e d (.ref it) acc X.env).onRaise (fun x=>do noteFrame x X.env;theTreesLotGoes x):=by
  show (if (Code.compLoop e d (.ref it) acc X.env).isFrame=true then _ else _)=_
  rw[bC]
  rfl
 rw[hun,hden]
 refine wpAny_noted (MB ?_)
 rcases eW i n σ3 H3 w3 with⟨stop,qn⟩|⟨go,N,hN,step⟩
 ·refine wpAny_mono (ht s3 (fun s'=>BF fun σ' H'=>Inv X pins σ' H' s'/\D.nx σ' H') (fun _=>False) (AO (T.done X rfl rfl rfl hc i pins s3 σ3 H3 D9 I3 (dD fr3) eX stop) fun r s4 ⟨hr,I4⟩=>?_)) (fun aJ s' q=>?_) fun _ _ z=>z
  ·subst hr
   exact⟨σ3,H3,I4,qn⟩
  ·cases aJ with
   | done f=>
    obtain⟨rfl,q⟩:=q
    exact⟨rfl,q⟩
   | again c'=>exact False.elim q.2
 ·refine wpAny_mono (ht s3 (fun _=>False) (fun s'=>∃m,m<n/\D0 fun i σ' H'=>Hw (Inv X pins σ' H' s') (tn i s'.heap) (∀b∈fp,H' b=none) (W i m σ' H')) (AO (T.item X rfl rfl rfl hc i pins s3 σ3 H3 D9 I3 (dD fr3) eX go) fun r s4 ⟨u,hr,h4⟩=>?_)) (fun aJ s' q=>?_) fun _ _ z=>z
  ·subst hr
   refine AO h4 fun _ s5 ⟨x,H5,I5,r5,y5,st5,fr5⟩=>?_
   have I5':=I5.pinned (dD fr5) (T.obj _ _ st5)
   have hgx:=hg _ s5 σ3 H5 x u _ I5' r5 (step x H5 y5)
   rw[aM] at hgx
   refine AO hgx fun _ s6 ⟨σ6,H6,I6,q6⟩=>?_
   have again:∀{s7:Shared},(BF fun σ7 H7=>Inv X (pins++Gi fp s5.heap) σ7 H7 s7/\N σ7 H7)->∃m,m<n/\D0 fun i σ' H'=>Hw (Inv X pins σ' H' s7) (tn i s7.heap) (∀b∈fp,H' b=none) (W i m σ' H'):=fun {s7} ⟨σ7,H7,I7,n7⟩=>by
    obtain⟨m',hm,w7⟩:=hN σ7 H7 n7
    refine⟨m',hm,i+1,σ7,H7,I7.unpinned,T.keep _ _ _ st5 fun b hb o e=>(I7.pin (b,o) (zAX _ (zAX _ (De hb e)))).1,fun b hb=>?_,w7⟩
    obtain⟨o,e,d⟩:=T.obj _ _ st5 b hb
    exact (I7.pin (b,o) (zAX _ (zAX _ (De hb e)))).2.1
   exact hb.mono _ _ s6 (fun s7 q7=>again q7) (hb.run _ s6 σ6 H6 _ I6 q6)
  ·cases aJ with
   | done f=>exact False.elim q.2
   | again c'=>exact q
def FS(aq:List Expr)(env:Env):Sem Bool:=forIn aq true fun c r=>if r=true then do let ok <-isTrue c env (eval c env);pure (ForInStep.yield ok) else pure (ForInStep.yield r)
def NG(X:Cx)(aq:List Expr)(t:TT):Prop:=
 ∀(pins:List (Addr×Obj))(s:Shared)(σ:St)(H:Hp)(Q:Bool->Hp->Prop),Inv X pins σ H s->t σ H Q->wpAny (model X.prog X.w) X.A (FS aq X.env) (TP X pins σ Q) X.xe s
def Ls:TT:=fun _ H Q=>Q true H
theorem Bi:NG X [] Ls:=fun pins s σ H Q I h=>wpAny_tests_nil ⟨H,I,h⟩
theorem EH(h:PT X c tc):NG X [c] tc:=fun pins s σ H Q I q=>wpAny_tests_one (h pins s σ H Q I q)
def E8(X:Cx)(aq:List Expr)(ar:Expr)(acc:Value):Sr:=fun Qa s=>wpAny (model X.prog X.w) X.A (FS aq X.env) (fun ok s1=>if ok=true then wpAny (model X.prog X.w) X.A (eval ar X.env) (fun x s2=>wpAny (model X.prog X.w) X.A (call (.builtin "list.append") [acc,x]) (fun _ s3=>Qa s3) D9 s2) D9 s1 else Qa s1) D9 s
inductive Rt(acc:Addr)(D:Ends)(σ:St)(x:V)(H1:Hp):Prop where
 | mk (xs) (_:H1 acc=some (.lst xs)) (_:xs.length<sizeLine) (_:D.nx σ (upd H1 acc (.lst (xs++[x])))):Rt acc D σ x H1
def Dq(acc:Addr)(te:TE):TS:=fun D σ H=>te σ H (Rt acc D σ)
def C7(tc:TT)(tb:TS):TS:=fun D σ H=>tc σ H fun b H1=>If b (tb D σ H1) (D.nx σ H1)
theorem F0{aq:List Expr}{ar:Expr}{ac:Addr}{tc:TT}{te:TE}(aM:X.xe=D9)(hi:NG X aq tc)(he:PE X ar te):PB X (E8 X aq ar (.ref ac)) (C7 tc (Dq ac te)) where
 mono:=fun Qa Qb s hq h=>AO h fun ok s1 h1=>by
  cases ok with
  | false=>exact hq _ h1
  | true=>exact AO h1 fun x s2 h2=>AO h2 fun _ s3 h3=>hq _ h3
 run:=fun pins s σ H D I h=>by
  have h1:=hi pins s σ H _ I h
  rw[aM] at h1
  refine AO h1 fun ok s1 ⟨H1,I1,q1⟩=>?_
  cases ok with
  | false=>exact⟨σ,H1,I1,q1.f⟩
  | true=>
   have dB:Dq ac te D σ H1:=q1.t
   have h2:=he pins s1 σ H1 _ I1 dB
   rw[aM] at h2
   refine AO h2 fun u s2 ⟨x,H2,I2,r2,xs,hl,hz,q2⟩=>?_
   have h3:=Id (X:=X) pins s2 σ H2 (.ref ac) [x] (.ref ac) [u] (fun _ H'=>D.nx σ H') I2 rfl (.cons r2 .nil) ⟨hl,hz,q2⟩
   rw[aM] at h3
   exact AO h3 fun _ s3 ⟨_,H3,I3,_,q3⟩=>⟨σ,H3,I3,q3⟩
theorem Rw:HT X (.ListComp ar [⟨tg,ae,aq,0⟩] scope pos) 0 bD acc tg (E8 X aq ar acc):=by
 intro s Qd Qa h
 rw[compTurn_list]
 refine wpAny_bind (wpAny_standAt (wpAny_bind (AO h fun r s₁ h₁=>?_)))
 cases r with
 | none=>exact wpAny_pure ⟨rfl,h₁⟩
 | some v=>
  refine wpAny_bind (AO h₁ fun _ s2 h2=>wpAny_bind (AO h2 fun _ s3 h3=>wpAny_bind (AO h3 fun ok s4 h4=>?_)))
  cases ok with
  | false=>exact wpAny_pure ⟨rfl,h4⟩
  | true=>exact wpAny_bind (wpAny_bind (AO h4 fun x s₄ h₄=>wpAny_bind (AO h₄ fun _ s₅ h₅=>wpAny_pure (wpAny_pure ⟨rfl,h₅⟩))))
theorem Li(ar gp bi tg ae:Expr)(cF aq:List Expr)(scope:Scope)(pos:Pos)(it acc:Value)(env:Env):
  compTurn (.ListComp ar [⟨gp,bi,cF,0⟩,⟨tg,ae,aq,0⟩] scope pos) 1 it acc env=(do
   standAt ae.pos
   match <-pyNext it with
   | none=>pure (.done .next)
   | some v=>
    letOwnedTupleGo tg it v
    assign tg env v
    let mut ok:=true
    for c in aq do
     if ok then ok <-isTrue c env (eval c env)
    if ok then
     (do let _ <-call (.builtin "list.append") [acc,<-eval ar env])
    again (.compLoop (.ListComp ar [⟨gp,bi,cF,0⟩,⟨tg,ae,aq,0⟩] scope pos) 1 it acc env)):=by rfl
theorem Xf:HT X (.ListComp ar [⟨gp,bi,cF,0⟩,⟨tg,ae,aq,0⟩] scope pos) 1 bD acc tg (E8 X aq ar acc):=by
 intro s Qd Qa h
 rw[Li]
 refine wpAny_bind (wpAny_standAt (wpAny_bind (AO h fun r s₁ h₁=>?_)))
 cases r with
 | none=>exact wpAny_pure ⟨rfl,h₁⟩
 | some v=>
  refine wpAny_bind (AO h₁ fun _ s2 h2=>wpAny_bind (AO h2 fun _ s3 h3=>wpAny_bind (AO h3 fun ok s4 h4=>?_)))
  cases ok with
  | false=>exact wpAny_pure ⟨rfl,h4⟩
  | true=>exact wpAny_bind (wpAny_bind (AO h4 fun x s₄ h₄=>wpAny_bind (AO h₄ fun _ s₅ h₅=>wpAny_pure (wpAny_pure ⟨rfl,h₅⟩))))
theorem Jg(ar tg ae aO af:Expr)(aq ax:List Expr)(scope:Scope)(pos:Pos)(it acc:Value)(env:Env):
  compTurn (.ListComp ar [⟨tg,ae,aq,0⟩,⟨aO,af,ax,0⟩] scope pos) 0 it acc env=(do
   standAt ae.pos
   match <-pyNext it with
   | none=>pure (.done .next)
   | some v=>
    letOwnedTupleGo tg it v
    assign tg env v
    let mut ok:=true
    for c in aq do
     if ok then ok <-isTrue c env (eval c env)
    if ok then
     let x <-eval af env
     standAt af.pos
     let x <-foldedSetIterable af env x
     let _ <-runOwn (.compStart (.ListComp ar [⟨tg,ae,aq,0⟩,⟨aO,af,ax,0⟩] scope pos) 1 (<-holding [x] (pyIter x)) acc env) env
    again (.compLoop (.ListComp ar [⟨tg,ae,aq,0⟩,⟨aO,af,ax,0⟩] scope pos) 0 it acc env)):=by rfl
def Gh(X:Cx)(aq:List Expr)(e af:Expr)(acc:Value):Sr:=fun Qa s=>wpAny (model X.prog X.w) X.A (FS aq X.env) (fun ok s1=>if ok=true then
 wpAny (model X.prog X.w) X.A (eval af X.env) (fun x s2=>wpAny (model X.prog X.w) X.A (pyIter x) (fun it s3=>codeAny (model X.prog X.w) X.A (.compStart e 1 it acc X.env) (fun r s4=>r= .ok .next/\Qa s4) s3) D9 s2) D9 s1 else Qa s1) D9 s
theorem RW(hs:∀x,foldedSetIterable af X.env x=pure x):
  HT X (.ListComp ar [⟨tg,ae,aq,0⟩,⟨aO,af,ax,0⟩] scope pos) 0 bD acc tg (Gh X aq (.ListComp ar [⟨tg,ae,aq,0⟩,⟨aO,af,ax,0⟩] scope pos) af acc):=by
 intro s Qd Qa h
 rw[Jg]
 refine wpAny_bind (wpAny_standAt (wpAny_bind (AO h fun r s₁ h₁=>?_)))
 cases r with
 | none=>exact wpAny_pure ⟨rfl,h₁⟩
 | some v=>
  refine wpAny_bind (AO h₁ fun _ s2 h2=>wpAny_bind (AO h2 fun _ s3 h3=>wpAny_bind (AO h3 fun ok s4 h4=>?_)))
  cases ok with
  | false=>exact wpAny_pure ⟨rfl,h4⟩
  | true=>
   refine wpAny_bind (AO h4 fun x s₄ h₄=>wpAny_bind (wpAny_standAt (wpAny_bind (wpAny_of_eq (hs x) (wpAny_bind (wpAny_holding (AO h₄ fun it s₅ h₅=>?_)))))))
   refine wpAny_bind (wpAny_runOwn (codeAny_mono h₅ fun r s₆ h₆=>?_))
   obtain⟨rfl,h₆⟩:=h₆
   exact wpAny_pure ⟨rfl,h₆⟩
theorem Cm(bO:((clausesOf e)[d]?).elim false (·.is_async != 0)=false)(bC:(Code.compStart e d bD acc X.env).isFrame=false)(hun:X.A.under (.compStart e d bD acc X.env)=X.A)(hqu:∀it',(Code.compLoop e d it' acc X.env).quiet=true)(hposR:True)(h0:codeAny (model X.prog X.w) X.A (.compLoop e d bD acc X.env) R s)(h:wpAny (model X.prog X.w) X.A (pyIter bD) (fun it' s'=>codeAny (model X.prog X.w) X.A (.compLoop e d it' acc X.env) R s') D9 s):
  codeAny (model X.prog X.w) X.A (.compStart e d bD acc X.env) R s:=by
 refine codeAny_of_tree ?_
 have hden:(model X.prog X.w).den (.compStart e d bD acc X.env)=(compStart e d bD acc X.env).onRaise (fun x=>do noteFrame x X.env;standAt theWindowsPlace):=by
  show (if (Code.compStart e d bD acc X.env).isFrame=true then _ else _)=_
  rw[bC]
  rfl
 rw[hun,hden]
 refine wpAny_notedAt (MB ?_)
 unfold compStart
 rw[bO]
 show wpAny _ _ (ask >>= _) _ _ s
 refine wpAny_bind (wpAny_askSetting (wpAny_ite ?_))
 split
 ·first
   | exact wpAny_bind (wpAny_pure (wpAny_pure (And.intro (hqu _) h0)))
   | exact wpAny_pure (And.intro (hqu _) h0)
 ·refine wpAny_bind (wpAny_rule ?_)
  cases hg:(clausesOf e)[d]? with
  | none=>exact wpAny_bind (AO h fun it' s' h'=>wpAny_pure (And.intro (hqu _) h'))
  | some g'=>exact wpAny_bind (wpAny_standAt (wpAny_bind (AO h fun it' s' h'=>wpAny_pure (And.intro (hqu _) h'))))
theorem Se{ar ae aO af:Expr}{aq ax:List Expr}{scope:Scope}{pos:Pos}{ac:Addr}{tc:TT}{db:TI}{g1:TG}{tb1:TS}(aM:X.xe=D9)(hc:X.calm=true)(hi:NG X aq tc)(hI:PI X aO af db)(eD:PG X aO g1)(bo:PB X (E8 X ax ar (.ref ac)) tb1):
  PB X (Gh X aq (.ListComp ar [⟨tg,ae,aq,0⟩,⟨aO,af,ax,0⟩] scope pos) af (.ref ac)) (C7 tc (Kf db g1 tb1)) where
 mono:=fun Qa Qb s hq h=>AO h fun ok s1 h1=>by
  cases ok with
  | false=>exact hq _ h1
  | true=>exact AO h1 fun x s2 h2=>AO h2 fun it s3 h3=>codeAny_mono h3 fun r s4 h4=>⟨h4.1,hq _ h4.2⟩
 run:=fun pins s σ H D I h=>by
  have h1:=hi pins s σ H _ I h
  rw[aM] at h1
  refine AO h1 fun ok s1 ⟨H1,I1,q1⟩=>?_
  cases ok with
  | false=>exact⟨σ,H1,I1,q1.f⟩
  | true=>
   have dB:Kf db g1 tb1 D σ H1:=q1.t
   have h2:=hI pins s1 σ H1 _ I1 dB
   rw[aM] at h2
   refine AO h2 fun u s2 h3=>AO h3 fun bD s3 h4=>?_
   obtain⟨it,fp,tn,J,H3,e,I3,T,eX,f3,hR⟩:=h4
   subst e
   have bq:=CJ (e:=.ListComp ar [⟨tg,ae,aq,0⟩,⟨aO,af,ax,0⟩] scope pos) (d:=1) (D:=D) aM hc Xf rfl rfl rfl T eD bo I3 eX f3 hR
   exact Cm (X:=X) rfl rfl rfl (fun _=>rfl) True.intro bq (T.self _ 0 s3 _ _ eX bq)
end
structure CC where
 s:Shared
 H:Hp
 fp:List Addr
def Cx.cmp(X:Cx)(N:List Str)(scope:Scope)(cl:List (Str×Addr))(c:CC):Cx:=
 { X with N:=N,s₀:=c.s,H₀:=c.H,env:=compEnvC scope cl c.s.heap.objs.size X.env,outer:=X.stack,ex:=c.fp,fn:=fun _=>false,pn:=[] }
def sub(js:List (Option Nat))(σ:St):St:=js.map fun o=>o.bind fun j=>(σ[j]?).join
def GJ(X:Cx)(N:List Str)(scope:Scope)(js:List (Option Nat)):Prop:=
 ∀(i:Nat)(x:Str)(j:Nat),N[i]? = some x->js[i]? = some (some j)->X.N[j]? = some x/\X.env.kindOf x=some .cell/\(relabel scope X.env).names.lookup x=some .cell
section
variable {X:Cx}{N:List Str}{scope:Scope}{cl:List (Str×Addr)}{js:List (Option Nat)}{pins:List (Addr×Obj)}{σ:St}{H:Hp}{s:Shared}{fp:List Addr}
theorem Inv.cmp(I:Inv X pins σ H s)(hf:∀b∈fp,CL X pins H b)(hfo:∀b∈fp,b<s.heap.objs.size)(hk:scope.kind= .function)(bO:∀p∈cl,X.env.cells.lookup p.1=some p.2)(hcn:∀x,((relabel scope X.env).names.lookup x=some .cell\/(relabel scope X.env).names.lookup x=some .free)->∃c,cl.lookup x=some c)(gk:GJ X N scope js)(hl:js.length=N.length)(eQ:h'.Ns s.heap.objs.size (fun _=>none))(cp:Heap.SameBut s.heap.objs.size (s.heap.push ob) h'):
  Inv (X.cmp N scope cl ⟨s,H,fp⟩) [] (sub js σ) H { s with heap:=h',toks:=t' }:=by
 have cv:∀x c,cl.lookup x=some c->X.env.cells.lookup x=some c:=fun x c e=>bO (x,c) (zBK e)
 have dU:∀b o,s.heap.get? b=some o->h'.get? b=some o:=fun b o e=>(cp.2 b (zAH (zAD e))).trans (Heap.get?_push_of_some _ e)
 refine⟨⟨I.ok.mod,?_,I.ok.glob,I.ok.blt,zAA _,fun x y c h1 h2=>I.ok.inj x y c (cv x c h1) (cv y c h2),fun x hx=>hcn x hx,fun x c h=>?_,I.ok.hd,I.ok.frames,.inl rfl,fun b hb=>⟨zAH (hfo b hb),fun x c e=>(hf b hb).2.2.2.2.1 x c (cv x c e)⟩,
   I.bs,zAC I.ok.bsz I.sz,fun b o e hb=>?_,fun b hb hs=>?_,I.stack,I.stkFree⟩,rfl,I.bare,Un.kept dU,⟨_,eQ,fun i x v e1 e2 e3=>?_⟩,fun x c e=>?_,I.hok.fresh (zAA _),fun x c e=>I.freeC x c (cv x c e),fun p hp=>?_,I.hok.kept dU,?_⟩
 ·show (relabel scope X.env).kind= .function
  exact hk
 ·exact absurd (show false=true from h) zAB
 ·rcases (hf b hb).2.2.2.1 with z | z
  ·exact I.ok.noex b o e z
  ·exact absurd (zAL (zAD (I.ok.bs b o e).1) z) (zB4 _)
 ·rcases List.mem_cons.mp (I.stkSub b hs) with z | z
  ·exact (hf b hb).2.1 z
  ·exact (hf b hb).2.2.1 z
 ·have gq:(sub js σ)[i]? = some (some v):=e2
  unfold sub at gq
  rw[List.getElem?_map] at gq
  cases ej:js[i]? with
  | none=>rw[ej] at gq;cases gq
  | some o=>
   rw[ej] at gq
   cases o with
   | none=>cases gq
   | some j=>
    obtain⟨a1,a2,a3⟩:=gk i x j e1 ej
    have e4:(σ[j]?).join=some v:=zAE gq
    have e5:σ[j]? = some (some v):=by
     cases q:σ[j]? with
     | none=>rw[q] at e4;cases e4
     | some o=>
      rw[q] at e4
      have:o=some v:=e4
      rw[this]
    obtain⟨m,hn,hloc⟩:=I.loc
    obtain⟨u,r,l⟩:=hloc j x v a1 e5 (.inr (.inl a2))
    refine⟨u,r,.inr ⟨.inl a3,?_⟩⟩
    obtain⟨c,hc⟩:=hcn x (.inl a3)
    refine⟨c,hc,?_⟩
    rcases l with⟨k,_⟩|⟨_,c',hc',a9⟩
    ·rw[k] at a2;cases a2
    ·have:c'=c:=by
      have:=cv x c hc
      rw[hc'] at this
      exact zAE this
     subst this
     obtain⟨o,ho,hd⟩:=a9
     exact⟨o,dU _ _ ho,hd⟩
 ·obtain⟨v,o,ho,hd⟩:=I.cell x c (cv x c e)
  exact⟨v,o,dU _ _ ho,hd⟩
 ·exact absurd (show p∈([]:List (Addr×Obj)) from hp) (by simp)
 ·unfold sub
  rw[List.length_map]
  exact hl
theorem Inv.uncmp(I:Inv X pins σ H s)(hf:∀b∈fp,CL X pins H b)(J:Inv (X.cmp N scope cl ⟨s,H,fp⟩) [] σ' H' s')(cp:Heap.SameBut s.heap.objs.size s'.heap e8):
  Inv X pins σ H' { s' with heap:=e8 }:=by
 have u:Un (Gn X.stack) fp H H' s.heap s'.heap:=J.base
 have ne:∀b o,s.heap.get? b=some o->b≠s.heap.objs.size:=fun b o e=>zAH (zAD e)
 have cY:H' s.heap.objs.size=none:=J.free
 refine I.call' (ch:=fp) (s':={ s' with heap:=e8 }) J.os ⟨fun b o e n hb hx=>(cp.2 b (ne b o e)).trans (u.keep b o e n hb hx),fun b o e n hb hx=>?_,u.free,fun b o e hx=>?_,u.tups,u.frzs,u.tbls⟩ (fun b ob e=>?_) J.bare fun b hb=>⟨(hf b hb).2.2.2.1,(hf b hb).2.1,(hf b hb).2.2.2.2.1,(hf b hb).2.2.2.2.2⟩
 ·obtain⟨sl,e1⟩:=u.slot b o e n hb hx
  exact⟨sl,(cp.2 b (ne b o e)).trans e1⟩
 ·obtain⟨o',e1⟩:=u.there b o e hx
  exact⟨o',(cp.2 b (ne b o e)).trans e1⟩
 ·refine (J.hok b ob e).stay (fun c w' hc q=>(cp.2 c ?_).trans q) (fun _ q=>q) fun _ _ q=>q
  rintro rfl
  rcases hc with z | z
  ·rw[<-z,cY] at e;cases e
  ·rw[cY] at z;cases z
end
def HV(wi:TI)(js:List (Option Nat))(g:CC->TG)(tb:CC->Addr->TS):TE:=fun σ H Q=>wi σ H fun J H1=>∀(c:CC)(acc:Addr),H1 acc=none->
 Es J (g c) (tb c acc) { nx:=fun _ H'=>Q (.ref acc) H',rt:=fun _ _=>False } (sub js σ) (upd H1 acc (.lst []))
section
variable {X:Cx}{N:List Str}{scope:Scope}{cl:List (Str×Addr)}{js:List (Option Nat)}{ar tg ae:Expr}{aq:List Expr}{rest:List Comprehension}{pos:Pos}{wi:TI}{g:CC->TG}{tb:CC->Addr->TS}
theorem Kv{WB:CC->Value->Sr}(aM:X.xe=D9)(hc:X.calm=true)(hi:PI X tg ae wi)(hs:∀x,foldedSetIterable ae X.env x=pure x)(de:closureFor scope X.env=pure cl)(hk:scope.kind= .function)(bP:∀x∈scope.names,x.2= .local->scope.names.lookup x.1=some .local)(a9:∀x∈scope.names,x.2≠.cell)(bO:∀p∈cl,X.env.cells.lookup p.1=some p.2)(hcn:∀x,((relabel scope X.env).names.lookup x=some .cell\/(relabel scope X.env).names.lookup x=some .free)->∃c,cl.lookup x=some c)(gk:GJ X N scope js)(hl:js.length=N.length)(ht:∀c it ac,HT (X.cmp N scope cl c) (.ListComp ar (⟨tg,ae,aq,0⟩::rest) scope pos) 0 it ac tg (WB c ac))(hg:∀c,PG (X.cmp N scope cl c) tg (g c))(hb:∀c ac,PB (X.cmp N scope cl c) (WB c (.ref ac)) (tb c ac)):
  PE X (.ListComp ar (⟨tg,ae,aq,0⟩::rest) scope pos) (HV wi js g tb):=by
 intro pins s σ H Q I h
 rw[eval_ListComp]
 have h0:=hi pins s σ H _ I h
 refine wpAny_comprehension_free (use:=none) (cl:=cl) rfl hs de hk bP (AO h0 fun v s1 h1=>AO h1 fun bD s2 h2=>?_)
 obtain⟨it,fp,tn,J,H2,e,I2,T,eB,f2,hR⟩:=h2
 subst e
 refine wpAny_newObj_type (wpAny_newFunctionEnv a9 (by intro y hy;simp at hy) (fun h₁ df bQ=>?_) hk)
 dsimp only at df bQ ⊢
 have I3:=I2.lnew (ys:=[]) (its:=[]) (t':=s2.toks) .nil (zA4 _)
 have fb:∀b∈fp,b<s2.heap.objs.size:=fun b hb=>by
  obtain⟨o,e,_⟩:=T.obj 0 _ eB b hb
  exact zAD e
 have fpa:∀b∈fp,b≠s2.heap.objs.size:=fun b hb=>zAH (fb b hb)
 have f3:∀b∈fp,CL X pins (upd H2 s2.heap.objs.size (.lst [])) b:=fun b hb=>⟨by rw[Al (fpa b hb)];exact (f2 b hb).1,(f2 b hb).2⟩
 have hR':=hR ⟨{ s2 with heap:=s2.heap.push { cls:=.type "list",data:=.seq ([]:List Value).toArray } },upd H2 s2.heap.objs.size (.lst []),fp⟩ s2.heap.objs.size I2.fresh
 have I4:=I3.cmp (N:=N) (cl:=cl) (js:=js) (t':=s2.toks) f3 (fun b hb=>by
  show b<(s2.heap.push _).objs.size
  rw[zA6]
  exact zBE (fb b hb)) hk bO hcn gk hl df bQ
 have hV:tn 0 h₁:=T.keep 0 _ _ eB fun b hb o e=>(bQ.2 b (by
  rw[zA6]
  exact zAH (zBE (fb b hb)))).trans (Heap.get?_push_of_some _ (Heap.get?_push_of_some _ e))
 have f4:∀b∈fp,CL (X.cmp N scope cl ⟨{ s2 with heap:=s2.heap.push { cls:=.type "list",data:=.seq ([]:List Value).toArray } },upd H2 s2.heap.objs.size (.lst []),fp⟩) [] (upd H2 s2.heap.objs.size (.lst [])) b:=fun b hb=>
  ⟨(f3 b hb).1,(I4.ok.exf b hb).1,I4.ok.exfs b hb,.inl hb,(I4.ok.exf b hb).2,fun p hp=>absurd (show p∈([]:List (Addr×Obj)) from hp) (by simp)⟩
 have bq:=codeAny_mono (CJ (X:=X.cmp N scope cl ⟨{ s2 with heap:=s2.heap.push { cls:=.type "list",data:=.seq ([]:List Value).toArray } },upd H2 s2.heap.objs.size (.lst []),fp⟩) (e:=.ListComp ar (⟨tg,ae,aq,0⟩::rest) scope pos) (d:=0) (acc:=.ref s2.heap.objs.size) (pins:=[]) aM hc (ht _ _ _) rfl rfl rfl T (hg _) (hb _ _) I4 hV f4 hR') (R':=compPost (model X.prog X.w) X.A X.xe none (EP X pins σ Q) (.ref s2.heap.objs.size) (s2.heap.push { cls:=.type "list",data:=.seq ([]:List Value).toArray }).objs.size) (fun r s' hq=>by
  obtain⟨rfl,σ',H',J',q⟩:=hq
  obtain⟨m,hn,_⟩:=id J'.loc
  exact⟨m,hn,fun e8 hs''=>⟨.ref s2.heap.objs.size,H',I3.uncmp f3 J' hs'',rfl,q⟩⟩)
 exact Cm (X:=X.cmp N scope cl ⟨{ s2 with heap:=s2.heap.push { cls:=.type "list",data:=.seq ([]:List Value).toArray } },upd H2 s2.heap.objs.size (.lst []),fp⟩) rfl rfl rfl (fun _=>rfl) True.intro bq (T.self _ 0 _ _ _ hV bq)
end
structure CompOk(X:Cx)(N:List Str)(scope:Scope)(cl:List (Str×Addr))(js:List (Option Nat)):Prop where
 clos:closureFor scope X.env=pure cl
 kind:scope.kind= .function
 loc:(scope.names.all fun x=>(x.2 != .local || scope.names.lookup x.1 == some .local) && x.2 != .cell)=true
 ccl:∀p∈cl,X.env.cells.lookup p.1=some p.2
 cn:((relabel scope X.env).names.all fun p=>!(p.2 == .cell || p.2 == .free) || (cl.lookup p.1).isSome)=true
 sh:((N.zip js).all fun p=>match p.2 with | none=>true | some j=>X.N[j]? == some p.1 && X.env.kindOf p.1 == some .cell && (relabel scope X.env).names.lookup p.1 == some .cell)=true
 len:js.length=N.length
section
variable {X:Cx}{N:List Str}{scope:Scope}{cl:List (Str×Addr)}{js:List (Option Nat)}
theorem CompOk.names(h:CompOk X N scope cl js):∀x∈scope.names,x.2= .local->scope.names.lookup x.1=some .local:=fun x hx e=>by
 have q:=(List.all_eq_true.mp h.loc) x hx
 rw[zA3] at q
 rw[e] at q
 simpa using q.1
theorem CompOk.cell(h:CompOk X N scope cl js):∀x∈scope.names,x.2≠.cell:=fun x hx e=>by
 have q:=(List.all_eq_true.mp h.loc) x hx
 rw[zA3,e] at q
 exact absurd q.2 (by decide)
theorem CompOk.hcn(h:CompOk X N scope cl js):∀x,((relabel scope X.env).names.lookup x=some .cell\/(relabel scope X.env).names.lookup x=some .free)->∃c,cl.lookup x=some c:=fun x hx=>by
 rcases hx with e | e
 ·have q:=(List.all_eq_true.mp h.cn) _ (zBK e)
  exact Option.isSome_iff_exists.mp (by simpa using q)
 ·have q:=(List.all_eq_true.mp h.cn) _ (zBK e)
  exact Option.isSome_iff_exists.mp (by simpa using q)
theorem CompOk.shr(h:CompOk X N scope cl js):GJ X N scope js:=fun i x j e1 e2=>by
 have hm:(x,some j)∈N.zip js:=by
  have:(N.zip js)[i]? = some (x,some j):=by rw[List.getElem?_zip_eq_some];exact⟨e1,e2⟩
  exact zAJ this
 have q:=(List.all_eq_true.mp h.sh) _ hm
 simp only[zA3] at q
 exact⟨eq_of_beq q.1.1,eq_of_beq q.1.2,eq_of_beq q.2⟩
variable {ar tg ae aO af:Expr}{aq ax:List Expr}{pos:Pos}{wi:TI}{db:CC->TI}{g g1:CC->TG}{tc gr:CC->TT}{te:CC->TE}
theorem BD(h:CompOk X N scope cl js)(hi:PI X tg ae wi)(hg:∀c,PG (X.cmp N scope cl c) tg (g c))(gu:∀c,NG (X.cmp N scope cl c) aq (tc c))(he:∀c,PE (X.cmp N scope cl c) ar (te c))(aM:X.xe=D9:=by rfl)(hc:X.calm=true:=by rfl)(hs:∀x,foldedSetIterable ae X.env x=pure x:=by intro _;rfl):
  PE X (.ListComp ar [⟨tg,ae,aq,0⟩] scope pos) (HV wi js g fun c ac=>C7 (tc c) (Dq ac (te c))):=
 Kv (WB:=fun c ac=>E8 (X.cmp N scope cl c) aq ar ac) aM hc hi hs h.clos h.kind h.names h.cell h.ccl h.hcn h.shr h.len (fun c it ac=>Rw) hg fun c ac=>F0 aM (gu c) (he c)
theorem Rn(h:CompOk X N scope cl js)(hi:PI X tg ae wi)(hg:∀c,PG (X.cmp N scope cl c) tg (g c))(gu:∀c,NG (X.cmp N scope cl c) aq (tc c))(hi1:∀c,PI (X.cmp N scope cl c) aO af (db c))(eD:∀c,PG (X.cmp N scope cl c) aO (g1 c))(fe:∀c,NG (X.cmp N scope cl c) ax (gr c))(he:∀c,PE (X.cmp N scope cl c) ar (te c))(hs1:∀c x,foldedSetIterable af (X.cmp N scope cl c).env x=pure x:=by intro _ _;rfl)(aM:X.xe=D9:=by rfl)(hc:X.calm=true:=by rfl)(hs:∀x,foldedSetIterable ae X.env x=pure x:=by intro _;rfl):
  PE X (.ListComp ar [⟨tg,ae,aq,0⟩,⟨aO,af,ax,0⟩] scope pos) (HV wi js g fun c ac=>C7 (tc c) (Kf (db c) (g1 c) (C7 (gr c) (Dq ac (te c))))):=
 Kv (WB:=fun c ac=>Gh (X.cmp N scope cl c) aq (.ListComp ar [⟨tg,ae,aq,0⟩,⟨aO,af,ax,0⟩] scope pos) af ac) aM hc hi hs h.clos h.kind h.names h.cell h.ccl h.hcn h.shr h.len (fun c it ac=>RW (hs1 c)) hg
  fun c ac=>Se aM hc (gu c) (hi1 c) (eD c) (F0 aM (fe c) (he c))
end
end L2
namespace L2
open PySem PySem.Spec PyProof.Rows
section
variable {X:Cx}{pins:List (Addr×Obj)}{σ:St}{H:Hp}{s:Shared}{fp:List Addr}{h':Heap}
theorem Inv.turnedL(I:Inv X pins σ H s)(hf:∀b∈fp,CL X pins H b)(k:∀b o,b∉fp->s.heap.get? b=some o->h'.get? b=some o):Inv X pins σ H { s with heap:=h',toks:=t' }:=by
 have nfp:∀b u,H b=some u->b∉fp:=fun b u e z=>by rw[(hf b z).1] at e;cases e
 refine I.call' (ch:=fp) (s':={ s with heap:=h',toks:=t' }) rfl ⟨fun b o e _ _ hx=>k b o hx e,fun b o e _ _ hx=>⟨o.slots,k b o hx e⟩,fun _ _ _ n _=>n,fun b o e hx=>⟨o,k b o hx e⟩,fun _ _ q=>q,fun _ _ _ q=>q,fun _ ps q=>⟨#[],by rw[q];simp⟩⟩ (fun b u e=>?_) I.bare
  fun b hb=>⟨(hf b hb).2.2.2.1,(hf b hb).2.1,(hf b hb).2.2.2.2.1,(hf b hb).2.2.2.2.2⟩
 refine (I.hok b u e).stay (fun c v hc q=>k c v ?_ q) (fun _ q=>q) fun _ _ q=>q
 rcases hc with z | z
 ·rw[z];exact nfp b u e
 ·exact nfp c _ z
theorem Inv.turnedT(I:Inv X pins σ H s)(hf:∀b∈fp,CL X pins H b)(k:∀b o,b∉fp->s.heap.get? b=some o->h'.get? b=some o)(hT:s.heap.objs.size<=T)(hz:xs.length<=sizeLine)(rv:Vals xs its)(ht:IsTup h' T its.toArray):Inv X pins σ (upd H T (.tup xs)) { s with heap:=h',toks:=t' }:=by
 have nfp:∀b u,H b=some u->b∉fp:=fun b u e z=>by rw[(hf b z).1] at e;cases e
 have hn:H T=none:=I.hok.fresh hT
 refine I.call' (ch:=fp) (s':={ s with heap:=h',toks:=t' }) rfl ⟨fun b o e _ _ hx=>k b o hx e,fun b o e _ _ hx=>⟨o.slots,k b o hx e⟩,fun b o e n _=>?_,fun b o e hx=>⟨o,k b o hx e⟩,fun b q e=>?_,fun b o u e=>?_,fun b ps e=>⟨#[],?_⟩⟩ (fun b u e=>?_) I.bare
  fun b hb=>⟨(hf b hb).2.2.2.1,(hf b hb).2.1,(hf b hb).2.2.2.2.1,(hf b hb).2.2.2.2.2⟩
 ·rw[Al (zAH (zAL (zAD e) hT))];exact n
 ·rw[Al (Ah e hn)];exact e
 ·rw[Al (Ah e hn)];exact e
 ·rw[Al (Ah e hn),e];simp
 ·by_cases hb:b=T
  ·subst hb
   rw[upd_same] at e
   cases e
   exact⟨hz,its,rv,ht⟩
  ·rw[Al hb] at e
   refine (I.hok b u e).stay (fun c v hc q=>k c v ?_ q) (fun c q=>?_) fun c xs q=>?_
   ·rcases hc with z | z
    ·rw[z];exact nfp b u e
    ·exact nfp c _ z
   ·rw[Al (Ah q hn)];exact q
   ·rw[Al (Ah q hn)];exact q
end
section
variable {X:Cx}{tg:Expr}
end
end L2
namespace L2
open PySem PySem.Spec PyProof.Rows
section
variable {X:Cx}
end
end L2
namespace L2
open PySem PySem.Spec PyProof.Rows
def VC(a:Addr):It:=
 ⟨fun i H=>BF fun xs x=>H a=some (.lst xs)/\xs[i]? = some x,fun i H x H'=>BF fun T y=>Hw (H T=none) (∀xs,H a=some (.lst xs)->xs[i]? = some y) (x= .ref T) (H'=upd H T (.tup [.int (i:Nat),y])),fun i H=>∃xs,H a=some (.lst xs)/\xs.length=i⟩
theorem CG(Pv:Nat->St->Hp->Prop)(h0:Pv 0 σ H)(hl:∀i σ H,i<=xs.length->Pv i σ H->H a=some (.lst xs))(hs:∀i y T σ H,xs[i]? = some y->H T=none->Pv i σ H->g (.ref T) σ (upd H T (.tup [.int (i:Nat),y])) fun σ2 H2=>tb { D with nx:=Pv (i+1),ct:=Pv (i+1),bk:=D.nx } σ2 H2)(hd:∀σ H,Pv xs.length σ H->D.nx σ H):Es (VC a) g tb D σ H:=by
 refine⟨fun i m σ H=>m=xs.length-i/\i<=xs.length/\Pv i σ H,⟨xs.length,by simp,zA4 _,h0⟩,?_⟩
 rintro i m σ H ⟨rfl,hi,p⟩
 have q:=hl i σ H hi p
 by_cases aK:i<xs.length
 ·refine .inr ⟨⟨xs,xs[i],q,by simp[aK]⟩,Pv (i+1),fun σ' H' p'=>⟨xs.length-(i+1),by omega,rfl,aK,p'⟩,fun x H' y=>?_⟩
  obtain⟨T,y,hT,hy,e1,e2⟩:=y
  subst e1 e2
  exact hs i y T σ _ (hy xs q) hT p
 ·have e:i=xs.length:=by omega
  subst e
  exact .inl ⟨⟨xs,q,rfl⟩,hd σ H p⟩
theorem Mg{P:Program}{w:World}{K:PySem.W.Frag}{gw:List Expr}{k:Nat}{tp:Pos}(a e it:Addr)(eE:e≠it):
  Ld P w K (.Tuple gw k tp) (VC a) [e,it] e (fun i h=>(∃fg,IsEnum h e it i fg)/\h.IsListIter it a i) where
 mem:=by simp
 obj:=fun i h st b hb=>by
  obtain⟨⟨fg,he⟩,o,ho,c,d⟩:=st
  rcases List.mem_cons.mp hb with q | q
  ·subst q
   exact⟨_,he,fun v z=>by
    have z':Data.fields _=Data.cell v:=z
    cases z'⟩
  ·have q':b=it:=by simpa using q
   subst q'
   exact⟨o,ho,fun v z=>by rw[d] at z;cases z⟩
 keep:=fun i h h' st k=>by
  obtain⟨⟨fg,he⟩,hi⟩:=st
  exact⟨⟨fg,k e (by simp) _ he⟩,hi.at fun o e=>k it (by simp) o e⟩
 item:=by
  intro X hP hw hK hc i pins s σ H E I hf st hg
  subst hP hw hK
  obtain⟨xs,x,hq,hx⟩:=hg
  obtain⟨its,rv,p,hz⟩:=I.list (SqL.of hq)
  obtain⟨u,hu,ru⟩:=rv.get hx
  have aj:=rv.length
  have hi:i<xs.length:=(List.getElem?_eq_some_iff.mp hx).1
  have nai:a≠it:=Ah hq (hf it (by simp)).1
  have nae:a≠e:=Ah hq (hf e (by simp)).1
  have D:=Draws.list (prog:=X.prog) (w:=X.w) (A:=X.A.in1) (I.ok.hd hc) it a nai its.toArray
  have WT:=WalksT.enumerateD (A:=X.A) D e eE (by simp[eE,nae.symm]) (by simp)
  refine WT.item i s _ _ (by simp;omega) ⟨st.1,st.2,p.isList⟩ fun T gi h1 tk hv hT htup hmid kk=>?_
  obtain⟨t',x2,hx2,rfl⟩:=hv
  have hx2':its[i]? = some x2:=by simpa using hx2
  have ex:x2=u:=by rw[hu] at hx2';exact (zAE hx2').symm
  subst ex
  have I1:Inv X pins σ (upd H T (.tup [.int (i:Nat),x])) { s with heap:=h1,toks:=tk }:=I.turnedT (its:=[.int i t',x2]) hf kk hT (by show 2<=sizeLine;decide) (.cons ⟨_,rfl⟩ (.cons ru .nil)) htup
  have nT:∀b∈[e,it],b≠T:=fun b hb z=>by
   subst z
   exact WT.apart _ _ _ hmid hb
  have fK:∀b∈[e,it],CL X pins (upd H T (.tup [.int (i:Nat),x])) b:=fun b hb=>⟨by rw[Al (nT b hb)];exact (hf b hb).1,(hf b hb).2⟩
  refine⟨_,rfl,WT.go gw k tp i T _ _ _ hmid fun h2 eB kk2=>?_⟩
  refine⟨.ref T,_,I1.turnedL (t':=tk) fK kk2,rfl,⟨T,x,I.hok.fresh hT,fun zs hzs=>?_,rfl,rfl⟩,⟨eB.1,eB.2.1⟩,fun b hb=>(fK b hb).1⟩
  rw[hq] at hzs
  cases hzs
  exact hx
 done:=by
  intro X hP hw hK hc i pins s σ H E I hf st hg
  subst hP hw hK
  obtain⟨xs,hq,rfl⟩:=hg
  obtain⟨its,rv,p,hz⟩:=I.list (SqL.of hq)
  have aj:=rv.length
  have nai:a≠it:=Ah hq (hf it (by simp)).1
  have nae:a≠e:=Ah hq (hf e (by simp)).1
  have D:=Draws.list (prog:=X.prog) (w:=X.w) (A:=X.A.in1) (I.ok.hd hc) it a nai its.toArray
  have WT:=WalksT.enumerateD (A:=X.A) D e eE (by simp[eE,nae.symm]) (by simp)
  refine WT.done s _ _ ?_ fun h' tk kk=>⟨rfl,I.turnedL hf kk⟩
  have e1:its.toArray.size=xs.length:=by simp;omega
  rw[e1]
  exact⟨st.1,st.2,p.isList⟩
 self:=fun A i s Q E st h=>by
  obtain⟨⟨fg,he⟩,_⟩:=st
  exact wpAny_pyIter_enum he h
section
variable {X:Cx}{tg:Expr}
inductive M6(R:It->Hp->Prop)(vs:List V)(H1:Hp):Prop where
 | mk (a xs) (_:vs=[.ref a]) (_:H1 a=some (.lst xs)) (_:R (VC a) H1):M6 R vs H1
def VE(ta:TA):TI:=fun σ H R=>ta σ H (M6 R)
theorem Dr(hg:Gl X "enumerate")(hm:X.mg "enumerate"=none)(ha:PA X [a] ta)(hs:starEach [a] X.env=[(false,eval a X.env)]:=by rfl):PI X (.Tuple gw k tp) (.Call (.Name "enumerate" p) [a] [] pos) (VE ta):=by
 intro pins s σ H R I h
 refine Call_ (Ch I hg hm boot_enumerate (zBI (AO (ha pos pins s σ H _ I h) fun us s1 ⟨vs,H1,I1,r1,q1⟩=>?_) hs rfl))
 obtain⟨l,xs,e,hq,q⟩:=q1
 subst e
 cases r1 with
 | cons r rr=>
  cases rr
  cases r
  obtain⟨its,rv,pl,hz⟩:=I1.list (SqL.of hq)
  refine call_enumerate_list pl.isList fun h' he dW ay hk=>wpAny_pyIter_enum he ?_
  have I2:Inv X pins σ H1 { s1 with heap:=h' }:=I1.kept (t':=s1.toks) hk
  have fp2:∀b∈[s1.heap.objs.size+1,s1.heap.objs.size],CL X pins H1 b:=fun b hb=>by
   have ia:s1.heap.objs.size<=b:=by
    rcases List.mem_cons.mp hb with q | q
    ·omega
    ·have:b=s1.heap.objs.size:=by simpa using q
     omega
   exact I1.fpOk ia (I1.hok.fresh ia)
  exact⟨_,_,_,_,H1,rfl,I2,Mg l (s1.heap.objs.size+1) s1.heap.objs.size (Nat.succ_ne_self _),⟨⟨_,he⟩,dW⟩,fp2,q⟩
end
end L2
namespace L2
open PySem PySem.Spec PyProof.Rows
structure Stp(fr ch:List Addr)(h h':Heap):Prop where
 keep:∀b o,b∉fr->b∉ch->h.get? b=some o->h'.get? b=some o
 slot:∀b o,b∉ch->h.get? b=some o->∃sl,h'.get? b=some { o with slots:=sl }
theorem Stp.more(x:Stp fr ch h h')(m:∀b∈ch,b∈ch'):Stp fr ch' h h':=
 ⟨fun b o hb hc=>x.keep b o hb fun z=>hc (m b z),fun b o hc=>x.slot b o fun z=>hc (m b z)⟩
theorem Stp.trans(x:Stp fr ch h h1)(y:Stp fr ch h1 h2):Stp fr ch h h2:=
 ⟨fun b o hb hc e=>y.keep b o hb hc (x.keep b o hb hc e),fun b o hc e=>let ⟨_,e1⟩:=x.slot b o hc e;let ⟨sl,e2⟩:=y.slot b _ hc e1;⟨sl,e2⟩⟩
theorem Stp.un(x:Stp fr ch h h')(H:Hp):Un fr ch H H h h':=
 ⟨fun b o e _ hb hx=>x.keep b o hb hx e,fun b o e _ _ hx=>x.slot b o hx e,fun _ _ _ n _=>n,fun b o e hx=>let ⟨_,z⟩:=x.slot b o hx e;⟨_,z⟩,fun _ _ q=>q,fun _ _ _ q=>q,fun _ ps q=>⟨#[],by rw[q];simp⟩⟩
theorem Stp.hok(x:Stp fr ch h h')(ok:HOk P w H h)(hf:∀b∈fr,H b=none)(hc:∀b∈ch,H b=none):HOk P w H h':=fun b u e=>by
 have nf:∀c v,H c=some v->c∉fr/\c∉ch:=fun c v q=>⟨(fun z=>nomatch (hf c z).symm.trans q),(fun z=>nomatch (hc c z).symm.trans q)⟩
 refine (ok b u e).stay (fun c v hb q=>?_) (fun _ q=>q) fun _ _ q=>q
 rcases hb with z | z
 ·subst z;exact x.keep c v (nf c u e).1 (nf c u e).2 q
 ·exact x.keep c v (nf c _ z).1 (nf c _ z).2 q
inductive Su(h:Heap)(e:Addr)(cls:Value)(dx:Option Addr)(T:Addr)(fl:Value):Prop where
 | mk (vs sl oT ts) (_:h.get? e=some ⟨cls,dx,.fields vs,sl⟩) (_:vs[1]? = some (.ref T)) (_:T≠e) (_:h.get? T=some oT) (_:oT.data= .fields ts) (_:ts[3]? = some fl) (_:vs[2]? = some .none)
section
variable {M:Model}{A:Around}{E:Value->Shared->Prop}{s:Shared}{base:Heap}{env:Env}{outer:List Env}{L e:Addr}{cls:Value}{dx:Option Addr}{vs:Array Value}{sl:Array (Option Value)}{Q:Unit->Shared->Prop}
theorem Lf(bC:A.frames=some (env::outer))(hl:s.heap.FunFrames base (env::outer))(hf:env.frame=some L)(he:s.heap.get? e=some ⟨cls,dx,.fields vs,sl⟩)(ay:1<vs.size)(gy:vs[2]? = some .none)(k:∀h' T,s.heap.objs.size<=T->Stp (Gn (env::outer)) [e] s.heap h'->Su h' e cls dx T (rawInt L)->Q () { s with heap:=h' }):
  wpAny M A (do let a <-frameOf env;let pl <-entryPlaceOf L gx;let b <-EntryCells.newEntry head a .none (rawInt L) .none pl;setField (.ref e) 1 b) Q E s:=by
 have nfr:e∉Gn (env::outer):=fun z=>by
  obtain⟨_,o,ho,nd⟩:=hl.mem z
  rw[he] at ho;cases ho
  exact nd vs rfl
 refine wpAny_bind (wpAny_frameOf_fun bC hl hf fun h1 so=>wpAny_bind (wpAny_entryPlaceOf fun pl aD=>?_))
 obtain⟨_,so1,so2⟩:=so
 unfold EntryCells.newEntry newFields
 refine wpAny_bind (wpAny_newObj_type ?_ (aD.sizeOk5 _ _ _ _ _))
 have e1:h1.get? e=some ⟨cls,dx,.fields vs,sl⟩:=(so1 e nfr).trans he
 have e2:=Heap.get?_push_of_some (h:=h1) { cls:=.type "traceback",dict:=none,data:=.fields ([head,.ref L,.none,rawInt L,.none]++(if pl.isEmpty then List.replicate 6 Value.none else pl)).toArray } e1
 refine wpAny_setField e2 rfl ay (k _ h1.objs.size (by omega) ?_ ?_)
 ·have ai:∀b o,b∉[e]->h1.get? b=some o->∀(ob:Obj)(f:Obj->Obj),((h1.push ob).update e f).get? b=some o:=fun b o hb q ob f=>
   (Heap.get?_update_other _ _ (zBD (List.ne_of_not_mem_cons hb))).trans (Heap.get?_push_of_some _ q)
  refine⟨fun b o hb hc q=>ai b o hc ((so1 b hb).trans q) _ _,fun b o hc q=>?_⟩
  obtain⟨sl',z⟩:=so2 b o q
  exact⟨sl',ai b _ hc z _ _⟩
 ·have ne:h1.objs.size≠e:=zBW (zAD e1)
  refine⟨_,sl,_,_,Heap.get?_update_self _ e2 rfl,?_,ne,(Heap.get?_update_other _ _ (zBD ne)).trans (Heap.get?_push_size h1 rfl),rfl,?_,?_⟩
  ·simp[ay]
  ·rcases aD with rfl | ⟨_,_,_,_,_,_,_,rfl⟩<;>simp
  ·rw[Array.getElem?_setIfInBounds_ne (by decide)];exact gy
theorem Q9(bC:A.frames=some (env::outer))(hl:s.heap.FunFrames base (env::outer))(hf:env.frame=some L)(he:s.heap.get? e=some ⟨cls,dx,.fields vs,sl⟩)(h1:vs[1]? = some .none)(gy:vs[2]? = some .none)(k:∀h' T,s.heap.objs.size<=T->Stp (Gn (env::outer)) [e] s.heap h'->Su h' e cls dx T (rawInt L)->Q () { s with heap:=h' }):wpAny M A (noteFrame (.ref e) env) Q E s:=by
 unfold noteFrame
 simp only[hf]
 refine wpAny_bind (wpAny_field he rfl h1 ?_)
 rw[if_neg (by decide)]
 exact Lf bC hl hf he (Array.getElem?_eq_some_iff.mp h1).1 gy k
theorem Mm(hF:Su s.heap e cls dx T fl):Stp [] [T] s.heap (s.heap.update T (Obj.mapFields (·.setIfInBounds 3 fl')))/\Su (s.heap.update T (Obj.mapFields (·.setIfInBounds 3 fl'))) e cls dx T fl':=by
 obtain⟨ws,sl,oT,ts,he,h1,ne,hT,hd,h3,gy⟩:=hF
 have ai:∀b o,b∉[T]->s.heap.get? b=some o->(s.heap.update T (Obj.mapFields (·.setIfInBounds 3 fl'))).get? b=some o:=fun b o hb q=>(Heap.get?_update_other _ _ (zBD (List.ne_of_not_mem_cons hb))).trans q
 refine⟨⟨fun b o _ hc q=>ai b o hc q,fun b o hc q=>⟨_,ai b o hc q⟩⟩,ws,sl,_,_,ai e _ (by simpa using zBD ne) he,h1,ne,Heap.get?_update_self _ hT (zBV (zBC hd _)),zBC hd _,?_,gy⟩
 simp[(Array.getElem?_eq_some_iff.mp h3).1]
theorem Ny(bC:A.frames=some (env::outer))(hl:s.heap.FunFrames base (env::outer))(hf:env.frame=some L)(hF:Su s.heap e cls dx T .none)(k:∀h' T',s.heap.objs.size<=T'->Stp (Gn (env::outer)) [e,T] s.heap h'->Su h' e cls dx T' (rawInt L)->Q () { s with heap:=h' }):wpAny M A (noteFrame (.ref e) env) Q E s:=by
 obtain⟨S,F2⟩:=Mm (fl':=.none) hF
 obtain⟨ws,sl,oT,ts,he,h1,ne,hT,hd,h3,gy⟩:=hF
 unfold noteFrame
 simp only[hf]
 refine wpAny_bind (wpAny_field he rfl h1 ?_)
 rw[if_pos (show (Value.ref T != Value.none)=true by simp)]
 refine wpAny_bind (wpAny_field hT hd h3 ?_)
 rw[if_neg (show ¬((Value.none == rawInt L)=true) by simp[rawInt])]
 refine wpAny_bind (wpAny_setField hT hd (Array.getElem?_eq_some_iff.mp h3).1 ?_)
 obtain⟨ws',sl',_,_,gz,h1',_,_,_,_,hv2'⟩:=F2
 refine Lf bC (hl.of_keeps fun b o q nd=>?_) hf gz (Array.getElem?_eq_some_iff.mp h1').1 hv2' fun h' T' ia S' F'=>k h' T' (by simpa using ia) ?_ F'
 ·obtain⟨eS,z⟩:=S.slot b o (fun z=>by
   have z':b=T:=by simpa using z
   subst z'
   rw[hT] at q;cases q
   exact nd ts hd) q
  exact⟨_,z,rfl⟩
 ·refine Stp.trans (h1:=s.heap.update T (Obj.mapFields (·.setIfInBounds 3 Value.none))) ⟨fun b o _ hc q=>S.keep b o (by simp) (fun z=>hc (List.mem_cons_of_mem _ z)) q,fun b o hc q=>S.slot b o (fun z=>hc (List.mem_cons_of_mem _ z)) q⟩ (S'.more fun b hb=>?_)
  rw[List.mem_singleton.mp hb]
  exact List.mem_cons_self
theorem QH(hF:Su s.heap e cls dx T fl)(k:∀h',Stp [] [T] s.heap h'->Su h' e cls dx T .none->Q () { s with heap:=h' }):wpAny M A (setFlight (.ref e) none) Q E s:=by
 obtain⟨S,F2⟩:=Mm (fl':=.none) hF
 obtain⟨ws,sl,oT,ts,he,h1,ne,hT,hd,h3,gy⟩:=hF
 unfold setFlight
 refine wpAny_bind (wpAny_field he rfl h1 ?_)
 rw[if_pos (show (Value.ref T != Value.none)=true by simp)]
 exact wpAny_setField hT hd (Array.getElem?_eq_some_iff.mp h3).1 (k _ S F2)
end
end L2
namespace L2
open PySem PySem.Spec PyProof.Rows
def KA:List Value:=[.type "ValueError",.type "Exception",.type "BaseException",.type "object"]
structure VP(K:PySem.W.Frag)(C cT:Addr)(ini:Option Addr):Prop where
 cls:XO fun nm q N bs eF sn sub ab gA dd k0 k1 k2 k3 k5=>Cc (K.lookup C=some (excClassObj nm q C N bs (.ref cT::KA) eF sn sub ab gA dd k0 k1 k2 k3 k5 "ValueError.__new__")) (PySem.W.nsOkIn K N=true) (PySem.W.nsIn K N "__init__"=some (ini.map Value.ref))
 tail:PySem.W.tailIn K KA (.ref cT::KA)=true
 kp:PySem.W.keepIn K (.ref C)=true
theorem M4{K:PySem.W.Frag}(l:K.lookup N=some ⟨oc,od,.dict es ep,sl⟩)(s:(es.all fun e=>match e.key with | .str _ _=>true | _=>false)=true):PySem.W.nsOkIn K N=true:=by
 unfold PySem.W.nsOkIn
 rw[l]
 exact s
theorem RY{K:PySem.W.Frag}(l:K.lookup cT=some ⟨c0,d0,.cls cd,sl⟩)(o:PySem.W.nsOkIn K cd.ns=true)(n:PySem.W.nsIn K cd.ns "__init__"=some none):
  PySem.W.tailIn K KA (.ref cT::KA)=true:=by
 have t0:PySem.W.tailIn K KA KA=true:=by
  unfold PySem.W.tailIn KA
  simp
 unfold PySem.W.tailIn
 refine Bool.or_eq_true_iff.mpr (.inr ?_)
 simp only[l,o,n,t0]
 rfl
section
variable {prog:Program}{w:World}{A:Around}{E:Value->Shared->Prop}{h:Heap}{g:Array GenState}{d:Drawn}{t:Nat}{os:OsState}
variable {nm q:Str}{C N:Addr}{bs bm:List Value}{eF:Bool}{sn:List Str}{sub:List Value}{ab:Bool}{gA:Option Bool}{dd:Option Addr}{k0 k1 k2 k3 k5:Option Value}
abbrev MS(C t:Addr)(dx:Option Addr):Obj:=⟨.ref C,dx,.fields #[.ref t,.none,.none,.none,.bool false,.none],#[]⟩
end
end L2
namespace L2
open PySem PySem.Spec PyProof.Rows
structure XAt(K:PySem.W.Frag)(C cT:Addr):Prop where
 cd:∃cd,Cc (PySem.W.clsIn K C=some cd) (cd.mro= .ref C::.ref cT::KA) (cd.hasDict=true)
 sa:PySem.W.findIn K (.ref C) "__setattr__"=some (some (.builtin "object.__setattr__"))
 ga:PySem.W.findIn K (.ref C) "__getattribute__"=some (some (.builtin "BaseException.__getattribute__"))
 gn:PySem.W.findIn K (.ref C) "__getattr__"=some none
 ca:PySem.W.findIn K (.ref C) "__class__"=some (some (.builtin "object.__class__"))
 cg:PySem.W.specialIn K (.builtin "object.__class__") "__get__"=some (some (.builtin "getset_descriptor.__get__"))
 ct:PySem.W.takesIn K (.builtin "object.__class__")=some true
section
variable {prog:Program}{w:World}{A:Around}{E:Value->Shared->Prop}{s:Shared}{K:PySem.W.Frag}{C cT x t:Addr}{f:Str}{u:Value}
theorem XAt.sub(a:XAt K C cT)(X:K.In h)(b:Value)(e:(Value.ref C::.ref cT::KA).contains b=r):PySem.W.Looks M h (isSubtype (.ref C) b) r:=by
 obtain⟨cd,h1,h2,_⟩:=a.cd
 refine zC5 X ?_
 unfold PySem.W.mroIn
 rw[h1,zCV,h2,if_neg (by simp),e]
end
end L2
namespace L2
open PySem PySem.Spec PyProof.Rows
open Builtin Builtin.ObjectAttr
section
variable {prog:Program}{w:World}{A:Around}{E:Value->Shared->Prop}{s:Shared}{K:PySem.W.Frag}{C cT x:Addr}{ox:Obj}{od:Option Obj}{name:Str}{tk:Tok}{fill gf:Bool}{v:Value}
theorem V0(X:K.In s.heap)(a:XAt K C cT)(J:PySem.W.InstAt s.heap x ox C od)(hf:PySem.W.findObj K C od name=some r)(k:wpAny (model prog w) A.in1 (match r with | .value v=>ret v | .bind g a=>bindTo g a (.ref x) (.ref C) | .missing=>noSuchAttribute (.ref x) name)
   (fun aJ s'=>match aJ with | .done f=>R (.ok f) s' | .again c'=>c'.quiet=true/\codeAny (model prog w) A c' R s') (fun e s'=>R (.error e) s') s)(hr:r≠.missing):
  codeAny (model prog w) A (.call (.builtin "BaseException.__getattribute__") ⟨[.ref x,.str name tk],[]⟩) R s:=by
 have FB:=PySem.F.attrBase_ValueError
 have sub:PySem.W.Looks (model prog w) s.heap (isInstance (.ref x) (.type "BaseException")) true:=J.type.andThen (a.sub X _ rfl)
 refine codeAny_call_builtin FB.ga.plain PySem.F.entry_bexc_ga (@PySem.W.check_slot (model prog w) _ _ s "BaseException.__getattribute__" "BaseException" "__getattribute__" (.ref x) [.str name tk] [] _ (by decide +kernel) (by decide +kernel) sub (PySem.F.args_bexc_ga _ _) ?_)
 obtain⟨h,g,d,t,os⟩:=s
 have L0:=J.type (M:=model prog w)
 have L1:=PySem.W.looks_find (M:=model prog w) X J hf
 refine wpAny_bind (wpAny_pure (wpAny_bind (wpAny_pure (wpAny_bind (L0.at (wpAny_bind (L1.at ?_)))))))
 cases r with
 | value v=>exact k
 | bind g a=>exact k
 | missing=>exact absurd rfl hr
theorem Pg(X:K.In s.heap)(a:XAt K C cT)(J:PySem.W.InstAt s.heap x ox C od)(k:codeAny (model prog w) A (.call (.builtin "BaseException.__getattribute__") ⟨[.ref x,.str name tk],[]⟩) (fun r s'=>match r with | .ok (.ret v)=>wpAny (model prog w) A (handedOut v) Q E s' | _=>False) s):
  wpAny (model prog w) A (getAttrBy (.ref x) (.str name tk) fill gf) Q E s:=by
 have FB:=PySem.F.attrBase_ValueError
 have b0:=FB.ga.bind (.ref x)
 have L0:=J.type (M:=model prog w)
 have L1:=zCY (M:=model prog w) X a.ga
 have L2:=zCY (M:=model prog w) X a.gn
 unfold getAttrBy
 refine wpAny_holding (wpAny_bind (L0.here (wpAny_bind (L1.here ?_))))
 show wpAny _ _ (if (onTheHeap (Value.ref C) && Value.builtin "BaseException.__getattribute__" == Value.builtin "object.__getattribute__")=true then _ else _) _ _ _
 have hx:(Value.builtin "BaseException.__getattribute__" == Value.builtin "object.__getattribute__")=false:=by decide +kernel
 rw[hx,Bool.and_false,if_neg zAB]
 unfold getAttrByItsOwn
 refine wpAny_bind ?_
 show wpAny _ _ (typeLookup (.ref C) "__getattr__") _ _ _
 refine L2.here (wpAny_bind (wpAny_attempt (wpAny_holding ?_)))
 unfold callGetattribute
 rw[if_neg (by cases gf<;>decide)]
 unfold boundAndCalled
 rw[b0]
 refine wpAny_bind (wpAny_pure (wpAny_call (codeAny_mono k fun r s' z=>?_)))
 rcases r with e | (v | _ | _ | _)<;>first | exact z | exact z.elim | skip
theorem XAt.found(a:XAt K C cT)(od:Option Obj):PySem.W.findObj K C od "__class__"=some (.bind (.builtin "getset_descriptor.__get__") (.builtin "object.__class__")):=by
 obtain⟨cd,hc,_,_⟩:=a.cd
 unfold PySem.W.findObj
 rw[hc,zCV,a.ca,zCV]
 simp[a.cg,a.ct]
theorem Pd(X:K.In s.heap)(a:XAt K C cT)(J:PySem.W.InstAt s.heap x ox C od)(k:Q (some (.ref C)) { s with toks:=s.toks+1 }):wpAny (model prog w) A (getAttr? (.ref x) "__class__") Q E s:=by
 have hm:PySem.W.mroIn K C (.type "object")=some true:=by
  obtain⟨cd,hc,hm,_⟩:=a.cd
  unfold PySem.W.mroIn
  rw[hc,zCV,hm]
  rfl
 unfold getAttr? getAttrBy?
 refine wpAny_bind (wpAny_mkText (wpAny_bind (wpAny_attempt (Pg (s:={ s with toks:=s.toks+1 }) X a J (V0 (s:={ s with toks:=s.toks+1 }) X a J (a.found od) ?_ (by intro z;cases z))))))
 show wpAny _ _ (holding [Value.builtin "object.__class__"] (call (.builtin "getset_descriptor.__get__") [.builtin "object.__class__",.ref x,.ref C]) >>= ret) _ _ _
 refine wpAny_bind (wpAny_holding (wpAny_call (PySem.W.class_get (s:={ s with toks:=s.toks+1 }) X J hm (wpAny_pure ?_))))
 show wpAny _ _ (handedOut (.ref C)) _ _ _
 exact wpAny_pure (wpAny_pure k)
theorem RQ(a:XAt K C cT):PySem.W.KitX K (.ref x) (.ref C) (fun h=>PySem.W.InstAt h x ox C od) where
 ty:=fun _ _ _ J=>J.type
 it:=fun _ _ X _=>by
  obtain⟨cd,hc,_,_⟩:=a.cd
  unfold PySem.W.clsIn at hc
  split at hc
  ·rename_i c1 d1 cd1 sl1 ho
   intro A1 Q1 E1 s1 k1 q1
   unfold isType loadHead
   exact wpAny_bind (wpAny_loadPart (k1 _ _ (X _ _ ho)) (wpAny_pure q1))
  ·cases hc
 ne:=fun h tp dd its n sl X eG=>by
  obtain⟨cd,hc,_,_⟩:=a.cd
  refine Bool.eq_false_iff.mpr fun z=>?_
  obtain rfl:C=tp:=Value.ref.inj (beq_iff_eq.mp z)
  unfold PySem.W.clsIn at hc
  split at hc
  ·rename_i c1 d1 cd1 sl1 ho
   exact nomatch (X _ _ ho).symm.trans eG
  ·cases hc
 ca:=fun X J k=>Pd X a J k
end
end L2
namespace L2
open PySem PySem.Spec PyProof.Rows
def GR(P:Program)(w:World):Hv:=fun outer H s E e s'=>Wd fun(a T:Addr)(cls:Value)(dx:Option Addr)(H':Hp)=>XM (e= .ref a) (s'.os=s.os) (AllBare s'.gens) (Un (Gn outer) [] H H' s.heap s'.heap) (HOk P w H' s'.heap) (Su s'.heap a cls dx T .none) (H' a=none) (H' T=none) (s.heap.objs.size<=a) (s.heap.objs.size<=T) (E cls dx H')
theorem Un.stp(u:Un fs [] H0 H h0 h)(S:Stp fr ch h h')(bC:∀b∈fr,b∈fs\/h0.objs.size<=b)(eP:∀b∈ch,h0.objs.size<=b):Un fs [] H0 H h0 h':=by
 have nc:∀b o,h0.get? b=some o->b∉ch:=fun b o e z=>absurd (zAD e) (Nat.not_lt.mpr (eP b z))
 refine⟨fun b o e n hb hx=>S.keep b o (fun z=>?_) (nc b o e) (u.keep b o e n hb hx),fun b o e n hb hx=>?_,u.free,fun b o e hx=>?_,u.tups,u.frzs,u.tbls⟩
 ·rcases bC b z with q | q
  ·exact hb q
  ·exact absurd (zAD e) (Nat.not_lt.mpr q)
 ·obtain⟨sl,e1⟩:=u.slot b o e n hb hx
  obtain⟨eS,e2⟩:=S.slot b _ (nc b o e) e1
  exact⟨eS,e2⟩
 ·obtain⟨o1,e1⟩:=u.there b o e hx
  obtain⟨eS,e2⟩:=S.slot b _ (nc b o e) e1
  exact⟨_,e2⟩
section
variable {P:Program}{w:World}{K:PySem.W.Frag}{mg:Str->Option Value}{base:Heap}{N:List Str}{av:Str}{scope:Scope}{f:Addr}{ak:Value}{A:Around}{outer:List Env}{s:Shared}{H:Hp}{E:XK}
def WC(X:Cx)(E:XK):Prop:=∀(pins:List (Addr×Obj))(σ:St)(H':Hp)(s':Shared)(a:Addr)(cls:Value)(dx:Option Addr)(vs:Array Value)(sl:Array (Option Value)),Inv X pins σ H' s'->H' a=none->
 s'.heap.get? a=some ⟨cls,dx,.fields vs,sl⟩->(vs[1]? = some .none/\vs[2]? = some .none)->X.s₀.heap.objs.size<=a->E cls dx H'->X.xe (.ref a) s'
theorem CQ:WC (Hu (GR P w) P w K mg base N av scope f ak A outer s H E) E:=by
 intro pins σ H' s' a cls dx vs sl I ha he h1 ay q
 have bC:=I.ok.frames
 have hl:=I.stack
 have lt:s.heap.objs.size<=s'.heap.objs.size:=I.sz
 have fr2:∀b∈Gn (envOfC av scope s.heap.objs.size f ak::outer),b∈Gn outer\/s.heap.objs.size<=b:=fun b hb=>by
  rcases List.mem_cons.mp (I.stkSub b hb) with z | z
  ·exact .inr (by rw[z];exact I.ok.above)
  ·exact .inl z
 show wpAny _ _ (leaving _ _) _ _ _
 unfold leaving
 refine wpAny_bind (Q9 bC hl rfl he h1.1 h1.2 fun h2 T hT S F=>QH F fun h3 S3 F3=>?_)
 have u2:=Un.stp I.base S fr2 (fun b hb=>by rw[List.mem_singleton.mp hb];exact ay)
 have u3:=Un.stp u2 S3 (fun b hb=>absurd hb (by simp)) (fun b hb=>by rw[List.mem_singleton.mp hb];exact zAC lt hT)
 have hTn:H' T=none:=I.hok.fresh hT
 refine⟨a,T,cls,dx,H',rfl,I.os,I.bare,u3,?_,F3,ha,hTn,ay,zAC lt hT,q⟩
 exact S3.hok (S.hok I.hok I.stkFree fun b hb=>by rw[List.mem_singleton.mp hb];exact ha) (fun b hb=>absurd hb (by simp)) fun b hb=>by rw[List.mem_singleton.mp hb];exact hTn
theorem Ax(le:∀cls dx H',E1 cls dx H'->E cls dx H'):BS (GR P w) (Hu (GR P w) P w K mg base N av scope f ak A outer s H E) E1:=by
 intro pins σ H1 s1 e s' I h
 obtain⟨a,T,cls,dx,H',rfl,os,bare,un,hok,F,ha,hT,la,lT,q⟩:=h
 have I2:=I.call' os un hok bare (fun b z=>absurd z (by simp))
 have lt:s.heap.objs.size<=s1.heap.objs.size:=I.sz
 have fr2:∀b∈Gn (envOfC av scope s.heap.objs.size f ak::outer),b∈Gn outer\/s.heap.objs.size<=b:=fun b hb=>by
  rcases List.mem_cons.mp (I2.stkSub b hb) with z | z
  ·exact .inr (by rw[z];exact I2.ok.above)
  ·exact .inl z
 show wpAny _ _ (leaving _ _) _ _ _
 unfold leaving
 refine wpAny_bind (Ny I2.ok.frames I2.stack rfl F fun h2 T2 cP S F2=>QH F2 fun h3 S3 F3=>?_)
 have l2:s.heap.objs.size<=T2:=zAC I2.sz cP
 have two:∀b∈[a,T],s.heap.objs.size<=b/\H' b=none:=fun b hb=>by
  rcases List.mem_cons.mp hb with z | z
  ·rw[z];exact⟨zAC lt la,ha⟩
  ·rw[List.mem_singleton.mp z];exact⟨zAC lt lT,hT⟩
 have u2:=Un.stp I2.base S fr2 (fun b hb=>(two b hb).1)
 have u3:=Un.stp u2 S3 (fun b hb=>absurd hb (by simp)) (fun b hb=>by rw[List.mem_singleton.mp hb];exact l2)
 have hTn:H' T2=none:=I2.hok.fresh cP
 refine⟨a,T2,cls,dx,H',rfl,I2.os,I2.bare,u3,?_,F3,ha,hTn,zAC lt la,l2,le _ _ _ q⟩
 exact S3.hok (S.hok I2.hok I2.stkFree fun b hb=>(two b hb).2) (fun b hb=>absurd hb (by simp)) fun b hb=>by rw[List.mem_singleton.mp hb];exact hTn
end
end L2
namespace L2
open PySem PySem.Spec PyProof.Rows
section
variable {X:Cx}{k:Nat}{fI C cT:Addr}{fd:FuncData}{ps:List Str}{sp:Sp}{Ex:XK}{x:Str}{p pos aC:Pos}{e:Expr}{es:List Expr}{t:TA}
theorem Mf{K:PySem.W.Frag}(a:XAt K C cT)(ty:PySem.W.typeIn K (.ref C)=some (.type "type"))(hh:A.handled=none)(h:wpAny M A xs (fun v s1=>D0 fun b tp dx=>Hw (v= .ref b) (K.In s1.heap) (s1.heap.get? b=some (MS C tp dx)) (E (.ref b) s1)) E s):wpAny M A (raiseStmt env (some xs) none) Q E s:=by
 unfold raiseStmt
 refine wpAny_bind (wpAny_mono h (fun v s1 h1=>?_) fun _ _ z=>z)
 obtain⟨b,tp,dx,rfl,KX,hb,q⟩:=h1
 have bo:s1.heap.get? b=some ⟨.ref C,dx,.fields #[.ref tp,.none,.none,.none,.bool false,.none],#[]⟩:=hb
 have T0:PySem.W.Looks M s1.heap (typeOf (.ref b)) (.ref C):=(zCW bo).andThen .now
 have T1:PySem.W.Looks M s1.heap (isType (.ref b)) false:=by
  unfold isType loadHead
  exact (zCW bo).andThen .now
 have T2:PySem.W.Looks M s1.heap (isExcClass (.ref b)) false:=by
  unfold isExcClass
  exact T1.andThen .now
 have T3:PySem.W.Looks M s1.heap (isInstance (.ref b) (.type "BaseException")) true:=T0.andThen (a.sub KX _ rfl)
 have T4:PySem.W.Looks M s1.heap (excFromValue (.ref b) "exceptions must derive from BaseException") (.ref b):=by
  unfold excFromValue
  exact T2.andThen (T3.andThen .now)
 have T5:PySem.W.Looks M s1.heap (raisedInstance (.ref b)) (.ref b):=by
  unfold raisedInstance
  exact T0.andThen ((PySem.W.looks_typeIn KX ty).andThen .now)
 refine wpAny_bind (wpAny_pure (wpAny_bind (wpAny_holding (T4.here ?_))))
 refine wpAny_bind (T1.here ?_)
 refine wpAny_bind (T5.here ?_)
 refine wpAny_bind ?_
 unfold setFlight
 refine wpAny_bind (wpAny_field bo rfl (x:=.none) rfl ?_)
 rw[if_neg (by decide)]
 exact wpAny_pure (wpAny_raiseNew_none hh q)
end
end L2
namespace L2
open PySem PySem.Spec PyProof.Rows
section
variable {X:Cx}{C cT:Addr}{o value:Expr}{ta tv:TE}{f:Str}{pos bK:Pos}
end
end L2
namespace L2
open PySem PySem.Spec PyProof.Rows
def Cx.caught(X:Cx)(a:Addr)(oe:Obj):Cx:={ X with A:=X.A.mark (some (.ref a)),calm:=false,pn:=(a,oe)::X.pn,xe:=fun _ _=>False }
theorem Cx.Ok.caught{X:Cx}(ok:X.Ok)(a:Addr)(oe:Obj):(X.caught a oe).Ok:=
 ⟨ok.mod,ok.kind,ok.glob,ok.blt,ok.above,ok.inj,ok.has,ok.cab,(fun z=>nomatch z),ok.frames,ok.stk,ok.exf,ok.bs,ok.bsz,ok.noex,ok.exfs,ok.funs,ok.frf⟩
section
variable {X:Cx}{pins:List (Addr×Obj)}{σ:St}{H:Hp}{s:Shared}{a:Addr}{oe:Obj}
theorem Inv.caught(I:Inv X pins σ H s)(e:s.heap.get? a=some oe)(n:H a=none)(h1:a≠X.env.locals)(h2:a∉X.fs)(h3:∀v,oe.data≠.cell v):Inv (X.caught a oe) pins σ H s:=
 ⟨I.ok.caught a oe,I.os,I.bare,I.base,I.loc,I.cell,I.free,I.freeC,fun p hp=>by
  rcases List.mem_cons.mp (show p∈(a,oe)::(X.pn++pins) from hp) with z | z
  ·subst z;exact⟨e,n,h1,h2,h3⟩
  ·exact I.pin p z,I.hok,I.len⟩
theorem Inv.uncaught{ok:X.Ok}(I:Inv (X.caught a oe) pins σ H s):Inv X pins σ H s:=
 ⟨ok,I.os,I.bare,I.base,I.loc,I.cell,I.free,I.freeC,fun p hp=>I.pin p (show p∈(a,oe)::(X.pn++pins) from List.mem_cons_of_mem _ hp),I.hok,I.len⟩
theorem Inv.mapGone(I:Inv X pins σ H s)(hn:h'.Ns X.env.locals m')(hs:Heap.SameBut X.env.locals s.heap h'):Inv X pins (List.replicate X.N.length none) H { s with heap:=h',toks:=t' }:=by
 have neL:∀b o,X.s₀.heap.get? b=some o->b≠X.env.locals:=fun b o e=>zAH (zAL (zAD e) I.ok.above)
 refine⟨I.ok,I.os,I.bare,⟨fun b o e n hb hx=>(hs.2 b (neL b o e)).trans (I.base.keep b o e n hb hx),fun b o e n hb hx=>?_,I.base.free,fun b o e hx=>?_,I.base.tups,I.base.frzs,I.base.tbls⟩,⟨m',hn,fun i x v _ e2 _=>?_⟩,fun x c e=>?_,I.free,I.freeC,fun p hp=>?_,fun b u e=>?_,by simp⟩
 ·obtain⟨sl,z⟩:=I.base.slot b o e n hb hx
  exact⟨sl,(hs.2 b (neL b o e)).trans z⟩
 ·obtain⟨o',z⟩:=I.base.there b o e hx
  exact⟨o',(hs.2 b (neL b o e)).trans z⟩
 ·rw[List.getElem?_replicate] at e2
  split at e2<;>cases e2
 ·obtain⟨v,z⟩:=I.cell x c e
  exact⟨v,z.sameBut hs (I.cne x c e)⟩
 ·obtain⟨e,n,ne,r⟩:=I.pin p hp
  exact⟨(hs.2 p.1 ne).trans e,n,ne,r⟩
 ·refine (I.hok b u e).stay (fun c v hc q=>(hs.2 c ?_).trans q) (fun _ q=>q) fun _ _ q=>q
  rcases hc with z | z
  ·rw[z];exact Ah e I.free
  ·exact Ah z I.free
end
theorem Ih{K:PySem.W.Frag}(X:K.In h)(hD:PySem.W.typeIn K (.ref D)=some (.type "type"))(cD:(PySem.W.clsIn K D).isSome=true)(hB:PySem.W.mroIn K D (.type "BaseException")=some true)(hs:PySem.W.mroIn K C (.ref D)=some r)(he:h.get? a=some oe)(hc:oe.cls= .ref C):PySem.W.Looks M h (excMatches (.ref a) (.ref D)) r:=by
 have T0:PySem.W.Looks M h (typeOf (.ref a)) (.ref C):=hc ▸ (zCW he).andThen .now
 have T1:PySem.W.Looks M h (isInstance (.ref D) (.type "tuple")) false:=(PySem.W.looks_typeIn X hD).andThen (PySem.W.Looks.of_pure tc_notTuple)
 have T2:PySem.W.Looks M h (isType (.ref D)) true:=by
  obtain⟨cd,cZ⟩:=Option.isSome_iff_exists.mp cD
  unfold PySem.W.clsIn at cZ
  split at cZ
  ·rename_i c1 d1 cd1 sl1 ho
   unfold isType loadHead
   exact (zCW (X _ _ ho)).andThen .now
  ·cases cZ
 have T3:PySem.W.Looks M h (isExcClass (.ref D)) true:=by
  unfold isExcClass
  exact T2.andThen (zC5 X hB)
 have T4:=zC5 (M:=M) X hs
 unfold excMatches
 refine T1.andThen ?_
 simp only[zBM,if_false,pure_bind,List.forIn_cons,List.forIn_nil,bind_assoc]
 refine T3.andThen ?_
 simp only[zCJ,zBM,if_false,pure_bind]
 refine T0.andThen (T4.andThen ?_)
 cases r<;>simp<;>exact .now
end L2
namespace L2
open PySem PySem.Spec PyProof.Rows
def Cx.within(X:Cx)(pn:List (Addr×Obj))(E:Value->Shared->Prop):Cx:={ X with pn:=pn,xe:=E }
section
variable {X:Cx}{pins:List (Addr×Obj)}{σ:St}{H:Hp}{s:Shared}
theorem Inv.within(I:Inv X pins σ H s)(E:Value->Shared->Prop):Inv (X.within (X.pn++pins) E) [] σ H s:=
 ⟨⟨I.ok.mod,I.ok.kind,I.ok.glob,I.ok.blt,I.ok.above,I.ok.inj,I.ok.has,I.ok.cab,I.ok.hd,I.ok.frames,I.ok.stk,I.ok.exf,I.ok.bs,I.ok.bsz,I.ok.noex,I.ok.exfs,I.ok.funs,I.ok.frf⟩,I.os,I.bare,I.base,I.loc,I.cell,I.free,I.freeC,
  fun p hp=>I.pin p (by rw[zAU] at hp;exact hp),I.hok,I.len⟩
theorem Inv.out(ok:X.Ok)(I:Inv (X.within (X.pn++pins) E) ib σ H s):Inv X pins σ H s:=
 ⟨ok,I.os,I.bare,I.base,I.loc,I.cell,I.free,I.freeC,fun p hp=>I.pin p (zB _ hp),I.hok,I.len⟩
theorem Inv.young(I:Inv X pins σ H s)(h:s.heap.objs.size<=b):(b∈X.ex\/X.s₀.heap.objs.size<=b)/\b≠X.env.locals/\(∀x c,X.env.cells.lookup x=some c->c≠b)/\∀p∈X.pn++pins,p.1≠b:=
 ⟨.inr (zAC I.sz h),zBW (zAL I.lt h),fun x c e=>by
  obtain⟨v,o,ho,_⟩:=I.cell x c e
  exact zAH (zAL (zAD ho) h),fun p hp=>zAH (zAL (zAD (I.pin p hp).1) h)⟩
end
section
variable {X:Cx}{C Dc:Addr}{i:Nat}{x n:Str}{np br pos:Pos}{body bv:List Stmt}{b0:Stmt}{tb:XK->TS}{th:Addr->Obj->TS}
end
end L2
namespace L2
open PySem PySem.Spec PyProof.Rows
section
variable {X:Cx}{C cT:Addr}{e:Expr}{f:Str}{pos:Pos}{ta:TE}
end
end L2
namespace L2
open PySem PySem.Spec PyProof.Rows
theorem VB{K:PySem.W.Frag}(hm:PySem.W.kitMeta T=true)(h:PySem.W.subIn K (.ref C) (.type T)=some b):PySem.W.kitOne K (.ref C) (.type T)=some b:=by
 unfold PySem.W.kitOne
 rw[if_neg (show ¬((Value.ref C == Value.type T)=true) by intro z;cases beq_iff_eq.mp z)]
 show (if PySem.W.kitMeta T=true then _ else _)=_
 rw[if_pos hm,h]
theorem Vo{K:PySem.W.Frag}(ne:(Value.ref C == Value.ref D)=false)(hc:(PySem.W.clsIn K D).isSome=true)(ht:PySem.W.typeIn K (.ref D)=some (.type "type"))(h:PySem.W.subIn K (.ref C) (.ref D)=some b):PySem.W.kitOne K (.ref C) (.ref D)=some b:=by
 unfold PySem.W.kitOne
 rw[ne,if_neg zAB]
 show (if ((PySem.W.clsIn K D).isSome && PySem.W.typeIn K (.ref D) == some (.type "type"))=true then _ else _)=_
 rw[hc,ht,if_pos (by simp),h]
end L2
namespace L2
open PySem PySem.Spec PyProof.Rows
theorem SU{K:PySem.W.Frag}(X:K.In h)(G:h.Ns N mg)(e:PySem.W.nsIn K N n=some none):mg n=none:=by
 obtain⟨o,es,ep,ho,hd,_,hf⟩:=G
 unfold PySem.W.nsIn at e
 split at e
 ·rename_i c d es2 n2 sl q
  have z:=X _ _ q
  rw[ho] at z
  cases z
  cases hd
  split at e
  ·cases e
  ·rename_i he
   rw[<-hf]
   unfold nsFind findBy
   rw[<-Array.find?_toList,he]
   rfl
 ·cases e
section
variable {prog:Program}{w:World}{A:Around}{E:Value->Shared->Prop}{h:Heap}{g:Array GenState}{d:Drawn}{t:Nat}{os:OsState}
variable {nm q:Str}{C N:Addr}{bs bm:List Value}{eF:Bool}{sn:List Str}{sub:List Value}{ab:Bool}{gA:Option Bool}{dd:Option Addr}{k0 k1 k2 k3 k5:Option Value}
theorem LR(T:OwnTail h KA bm)(hC:h.get? C=some (excClassObj nm q C N bs bm eF sn sub ab gA dd k0 k1 k2 k3 k5 "ValueError.__new__"))(hn:h.Ns N mN)(hi:mN "__init__"=none)(hu:us.length<=sizeLine)(k:∀h',(∀b o,h.get? b=some o->h'.get? b=some o)->h'.get? (h.objs.size+1)=some (MS C (h.objs.size+2) none)->Q (.done (.ret (.ref (h.objs.size+1)))) ⟨h',g,d,t,os⟩):
  wpAny (model prog w) A2 (Builtin.«type.__call__» ⟨.ref C::us,[]⟩) Q E ⟨h,g,d,t,os⟩:=by
 have VF:=PySem.F.excBase_ValueError
 repeat (first | with_reducible refine wpAny_madeBy_exc hC ?_ | with_reducible refine wpAny_loadPart_at hC ?_ | wp_step)
 refine codeAny_call_builtin_code (zCM _ VF.quiet) (wpAny_check_new_subT VF T hC (codeAny_exc_new_subT VF T hC ?_ hu))
 show wpAny _ _ _ _ _ _
 have kk:∀b o,h.get? b=some o->((h.push { cls:=.type "tuple",data:=.seq us.toArray }).push { cls:=.ref C,data:=.fields #[.ref h.objs.size,.none,.none,.none,.bool false,.none] }).get? b=some o:=fun b o e=>Heap.get?_push_of_some _ (Heap.get?_push_of_some _ e)
 have hE:((h.push { cls:=.type "tuple",data:=.seq us.toArray }).push { cls:=.ref C,data:=.fields #[.ref h.objs.size,.none,.none,.none,.bool false,.none] }).get? (h.objs.size+1)=some { cls:=.ref C,data:=.fields #[.ref h.objs.size,.none,.none,.none,.bool false,.none] }:=by heap_get
 have hself:(Value.ref C::bm).contains (.ref C)=true:=by simp
 have hC2:=kk _ _ hC
 have T2:=T.keeps kk
 unfold isInstance
 repeat (first | with_reducible refine wpAny_loadPart_at hE ?_ | (with_reducible refine wpAny_isSubtype_exc hC2 ?_;rw[hself]) | wp_step)
 show wpAny _ _ (typeLookup (.ref C) _) _ _ _
 refine wpAny_typeLookup_tail hC2 (hn.keeps kk) T2 VF.mroIs VF.init.lookup ?_
 rw[hi]
 refine wpAny_holding (wpAny_bind (wpAny_of_eq (VF.init.bind _) (wpAny_bind (wpAny_call (codeAny_call_builtin VF.init.plain VF.initEntry (wpAny_check_init_subT VF T2 hC2 hE rfl ?_))))))
 wp_walk
 refine k _ (fun b o hb=>?_) ?_
 ·have lt:=zAD hb
  rw[Heap.get?_update_other _ _ (zBW (zBE lt))]
  exact Heap.get?_push_of_some _ (kk b o hb)
 ·rw[Heap.get?_update_self _ (Heap.get?_push_of_some (h:=_) _ hE) rfl]
  simp only[zA6]
  rfl
theorem N2(T:OwnTail h KA bm)(hC:h.get? C=some (excClassObj nm q C N bs bm eF sn sub ab gA dd k0 k1 k2 k3 k5 "ValueError.__new__"))(hn:h.Ns N mN)(hi:mN "__init__"=none)(hu:us.length<=sizeLine)(k:∀h',(∀b o,h.get? b=some o->h'.get? b=some o)->h'.get? (h.objs.size+1)=some (MS C (h.objs.size+2) none)->Q (.ref (h.objs.size+1)) ⟨h',g,d,t,os⟩):
  wpAny (model prog w) A (call (.ref C) us) Q E ⟨h,g,d,t,os⟩:=by
 have z1:=tc_lookup
 have z2:=tc_bind (.ref C)
 have z3:(⟨h,g,d,t,os⟩:Shared).TypeIs (.ref C) "type":=⟨_,hC,rfl⟩
 refine wpAny_call (codeAny_of_tree ?_)
 show wpAny _ _ (callAny (.ref C) ⟨us,[]⟩) _ _ _
 repeat (any_goals (first | assumption | with_reducible refine wpAny_loadPart_at hC ?_ | wp_step))
 exact⟨rfl,codeAny_call_builtin_at (zCM _ (by decide +kernel)) entry_typeCall (wpAny_check_type_call_sub hC (LR T hC hn hi hu k))⟩
end
def SI(C:Addr)(Ex:XK)(t:TA):TS:=fun _ σ H=>t σ H fun _ H1=>Ex (.ref C) none H1
section
variable {X:Cx}{C cT:Addr}{Ex:XK}{x:Str}{p pos aC:Pos}{e:Expr}{es:List Expr}{t:TA}
theorem Ce(hx:WC X Ex)(hc:X.calm=true)(M:VP X.K C cT none)(at_:XAt X.K C cT)(ty:PySem.W.typeIn X.K (.ref C)=some (.type "type"))(hg:Gl X x)(hm:X.mg x=some (.ref C))(ha:PA X (e::es) t)(aj:(e::es).length<=1000:=by decide)(bL:(x == ("__debug__":Str))=false:=by decide)(he:starEach (e::es) X.env=(false,eval e X.env)::starEach es X.env:=by rfl)(aD:(backTo aC (starEach es X.env)).any (·.1)=false:=by rfl)(hvl:∀σ H (Q:List V->Hp->Prop),t σ H Q->t σ H (fun vs H1=>vs.length<=1000/\Q vs H1)):
  PS X (.Raise (some (.Call (.Name x p) (e::es) [] aC)) none pos) (SI C Ex t):=by
 intro pins s σ H D I h
 rw[arm_exec_Raise]
 refine wpAny_bind (wpAny_standAt (Mf (K:=X.K) at_ ty (I.ok.hd hc) ?_))
 refine wpAny_bind (AO (Q:=fun v s1=>D0 fun b tp dx=>Hw (v= .ref b) (X.K.In s1.heap) (s1.heap.get? b=some (MS C tp dx)) (X.xe (.ref b) s1)) ?_ fun v s1 q=>wpAny_bind (wpAny_standAt (wpAny_pure q)))
 refine wpAny_Call_Name_kw (C8 I hg hm ?_ bL)
 refine zCD (h₀:=X.base) I.ok.mod.kin M.kp (AO (ha aC pins s σ H _ I (hvl _ _ _ h)) fun us s1 ⟨vs,H1,I1,r,hl,q⟩=>⟨I1.kIn,?_⟩) he aD
 show wpAny _ _ (call (.ref C) us) _ _ _
 obtain⟨nm,q0,N,bs,eF,sn,sub,ab,gA,dd,k0,k1,k2,k3,k5,lC,oN,iN⟩:=M.cls
 have KX:=I1.kIn
 have nsN:=Heap.Ns.of_isNs (PySem.W.isNs_of_in KX oN)
 have hul:us.length<=sizeLine:=by rw[<-r.length];exact zAZ (Ap hl)
 obtain⟨hh,g,d,tk,os⟩:=s1
 refine N2 (PySem.W.tail_of_in KX M.tail) (KX _ _ lC) nsN (SU KX nsN iN) hul fun h' kk e'=>?_
 have I2:Inv X pins σ H1 ⟨h',g,d,tk,os⟩:=I1.kept (t':=tk) kk
 refine⟨_,_,none,rfl,I2.kIn,e',?_⟩
 exact hx pins σ H1 _ _ _ none _ _ I2 (I1.hok.fresh (zB9 _)) e' ⟨rfl,rfl⟩ (zAC I1.sz (zB9 _)) q
end
abbrev QC:=Ends->Addr->Option Addr->Hp->Prop
section
variable {X:Cx}{Dc:Addr}{i:Nat}{x n:Str}{np br pos:Pos}{body bv:List Stmt}{b0:Stmt}{tb:XK->TS}{th:Addr->Obj->TS}{hs:List ExceptHandler}{tr:QC}
end
inductive Held0(X:Cx)(C a:Addr):Prop where
 | mk (vs sl) (_:(a,(⟨.ref C,none,.fields vs,sl⟩:Obj))∈X.pn)
theorem Held0.inst(h:Held0 X C a)(I:Inv X pins σ H s):∃ox,PySem.W.InstAt s.heap a ox C none:=by
 obtain⟨vs,sl,hp⟩:=h
 obtain⟨e,_⟩:=I.pin _ (zB _ hp)
 exact⟨_,e,rfl,rfl,trivial⟩
section
variable {X:Cx}{C cT:Addr}
inductive Wz(X:Cx)(xs:List V)(H:Hp)(Q:VK):Prop where
 | mk (a C cT y c b) (_:xs=[.ref a,y]) (_:XAt X.K C cT) (_:Held0 X C a) (_:(∀u,RelV y u->u=c)) (_:PySem.W.kitOne X.K (.ref C) c=some b) (_:Q (.bl b) H):Wz X xs H Q
theorem CS:B6 X (.builtin "isinstance") (Wz X):=by
 intro pins s σ H xs us Q I r h
 obtain⟨a,C,cT,y,c,b,rfl,at_,hh,hc,hk,q⟩:=h
 obtain⟨u,w',rfl,rx,ry⟩:=PD r
 obtain rfl:=hc w' ry
 cases (show u=Value.ref a from rx)
 obtain⟨ox,J⟩:=hh.inst I
 exact zBB (RQ (x:=a) at_) I.kIn J hk (fun z=>nomatch z) fun tk=>⟨.bl b,H,I.tok _,rfl,q⟩
inductive UV(K:PySem.W.Frag)(x:V)(y:V)(H:Hp)(Q:VK):Prop where
 | mk (e p:Addr) (xs:List V) (bs:List Bool) (_:x= .ref e) (_:y= .ref p) (_:SqL K H e []) (_:SqL K H p xs) (_:bs.length=xs.length) (_:(∀(i:Nat) v b,xs[i]? = some v->bs[i]? = some b->BF fun a zs=>Cc (v= .ref a) (SqL K H a zs) (b=zs.isEmpty))) (_:Q (.bl (bs.any id)) H):UV K x y H Q
theorem U6(hu:X.A.units+9<cLine):D1 X (compareOp .In) (UV X.K):=by
 intro pins s σ H x y v u Q I rx ry h
 obtain⟨e,p,xs,bs,rfl,rfl,he,hp,hl,hx,q⟩:=h
 cases rx
 cases ry
 obtain⟨its,r,pl,hz⟩:=I.list hp
 obtain⟨its0,r0,pl0,hz0⟩:=I.list he
 cases r0
 have lr:=r.length
 have at':∀(i:Nat)(u:Value),its[i]? = some u->∃b,bs[i]? = some b/\SeqAt.EqAt X.A.in1 s u (.ref e) b:=fun i u hi=>by
  have fL:i<its.length:=(List.getElem?_eq_some_iff.mp hi).1
  have hxi:xs[i]? = some xs[i]:=List.getElem?_eq_getElem (by omega)
  have fM:bs[i]? = some bs[i]:=List.getElem?_eq_getElem (by omega)
  obtain⟨u2,hu2,ru2⟩:=r.get hxi
  rw[hi] at hu2
  cases hu2
  obtain⟨a,zs,ev,hq,eb⟩:=hx i _ _ hxi fM
  rw[ev] at ru2
  cases ru2
  refine⟨_,fM,?_⟩
  obtain⟨itz,rz,plz,_⟩:=I.list hq
  rw[eb]
  by_cases hae:a=e
  ·subst hae
   have hz1:itz=[]:=by
    have h1:=plz.isList
    have h2:=pl0.isList
    obtain⟨o1,g1,_,n1,d1⟩:=h1
    obtain⟨o2,g2,_,n2,d2⟩:=h2
    rw[g1] at g2
    cases g2
    rw[d1] at d2
    cases itz with
    | nil=>rfl
    | cons c r=>cases d2
   subst hz1
   cases rz
   exact SeqAt.EqAt.same _
  ·refine SeqAt.EqAt.of_refs hae ?_
   cases rz with
   | nil=>exact SeqAt.RcAt.lists (e:=fun _=>true) plz.isList pl0.isList rfl (by show X.A.units+1<cLine;omega) (fun j h1=>absurd h1 (zBX _))
   | cons r1 r2=>exact SeqAt.RcAt.lists_lengths plz.isList pl0.isList (by simp) (by show X.A.units+1<cLine;omega)
 let f:Value->Bool:=fun u=>(List.range its.length).any fun i=>its[i]? == some u && bs[i]? == some true
 have uniq:∀(i j:Nat)(u:Value),its[i]? = some u->its[j]? = some u->bs[i]? = bs[j]? :=fun i j u hi hj=>by
  have fL:i<its.length:=(List.getElem?_eq_some_iff.mp hi).1
  have hjl:j<its.length:=(List.getElem?_eq_some_iff.mp hj).1
  have hxi:xs[i]? = some xs[i]:=List.getElem?_eq_getElem (by omega)
  have fM:bs[i]? = some bs[i]:=List.getElem?_eq_getElem (by omega)
  have hxj:xs[j]? = some xs[j]:=List.getElem?_eq_getElem (by omega)
  have hbj:bs[j]? = some bs[j]:=List.getElem?_eq_getElem (by omega)
  obtain⟨u2,hu2,ru2⟩:=r.get hxi
  obtain⟨u3,hu3,ru3⟩:=r.get hxj
  rw[hi] at hu2
  cases hu2
  rw[hj] at hu3
  cases hu3
  obtain⟨a,zs,ev,hq,eb⟩:=hx i _ _ hxi fM
  obtain⟨a2,zs2,ev2,hq2,eb2⟩:=hx j _ _ hxj hbj
  rw[ev] at ru2
  rw[ev2] at ru3
  cases ru2
  have ea:a=a2:=Value.ref.inj (show Value.ref a=Value.ref a2 from ru3)
  subst ea
  rw[fM,hbj,eb,eb2]
  obtain⟨it1,rz1,p1,_⟩:=I.list hq
  obtain⟨it2,rz2,p2,_⟩:=I.list hq2
  obtain⟨o1,g1,_,n1,d1⟩:=p1.isList
  obtain⟨o2,g2,_,n2,d2⟩:=p2.isList
  rw[g1] at g2
  cases g2
  rw[d1] at d2
  have eit:it1.toArray=it2.toArray:=by cases d2;rfl
  have eit':it1=it2:=by simpa using eit
  have l1:=rz1.length
  have l2:=rz2.length
  rw[eit'] at l1
  cases zs with
  | nil=>cases zs2 with
   | nil=>rfl
   | cons c d=>simp at l1 l2;omega
  | cons c d=>cases zs2 with
   | nil=>simp at l1 l2;omega
   | cons c2 d2=>rfl
 have ff:∀(i:Nat)(u:Value)(b:Bool),its[i]? = some u->bs[i]? = some b->f u=b:=fun i u b hi hb=>by
  have fL:i<its.length:=(List.getElem?_eq_some_iff.mp hi).1
  cases b with
  | true=>exact List.any_eq_true.mpr ⟨i,List.mem_range.mpr fL,by rw[hi,hb];simp⟩
  | false=>
   refine List.any_eq_false.mpr fun j hj z=>?_
   rw[zA3] at z
   have z1:its[j]? = some u:=eq_of_beq z.1
   have z2:bs[j]? = some true:=eq_of_beq z.2
   have:=uniq i j u hi z1
   rw[hb,z2] at this
   cases this
 refine SeqAt.in_listAt f pl.isList (fun u hu=>?_) ⟨.bl _,H,I,rfl,?_⟩
 ·have hu':u∈its:=by simpa using hu
  obtain⟨i,hi⟩:=List.getElem?_of_mem hu'
  obtain⟨b,hb,eq⟩:=at' i u hi
  rw[ff i u b hi hb]
  first | exact eq | exact eq.of_in1
 ·have ea:its.toArray.any f=bs.any id:=by
   rw[show its.toArray.any f=its.any f by simp,zA5,zBU,zBU]
   constructor
   ·rintro⟨u,hu,hf⟩
    obtain⟨i,hi⟩:=List.getElem?_of_mem hu
    obtain⟨b,hb,_⟩:=at' i u hi
    rw[ff i u b hi hb] at hf
    exact⟨b,zAJ hb,hf⟩
   ·rintro⟨b,hb,hf⟩
    obtain⟨i,hi⟩:=List.getElem?_of_mem hb
    have fL:i<bs.length:=(List.getElem?_eq_some_iff.mp hi).1
    have hii:its[i]? = some its[i]:=List.getElem?_eq_getElem (by omega)
    exact⟨its[i],zAJ hii,by rw[ff i _ b hii hi];exact hf⟩
  rw[ea]
  exact q
end
end L2
namespace L2
open PySem PySem.Spec PyProof.Rows
def Ends.lost(D:Ends)(i:Nat):Ends:={ nx:=fun σ H=>D.nx (σ.set i none) H,rt:=D.rt,bk:=fun σ H=>D.bk (σ.set i none) H,ct:=fun σ H=>D.ct (σ.set i none) H }
section
variable {X:Cx}{Dc:Addr}{i:Nat}{x n:Str}{np br pos:Pos}{body bv:List Stmt}{b0:Stmt}{tb:XK->TS}{th:Addr->Obj->TS}{hs:List ExceptHandler}{tr:QC}{pins:List (Addr×Obj)}{σ:St}{H:Hp}{s:Shared}
theorem Inv.nameGone(I:Inv X pins σ H s)(hN:X.N.Nodup)(hi:X.N[i]? = some n)(hl:X.env.kindOf n=some .local)(hk:(X.env.scope.kind == .class || (X.env.scope.kind == .module && X.env.locals != X.env.globals))=false)(kk:∀ba,Inv X pins (σ.set i none) H ba->Q () ba):wpAny (model X.prog X.w) X.A (do bindName X.env n .none;unbindBehindTheSuite X.env n br) Q X.xe s:=by
 obtain⟨m,hn,bf⟩:=I.loc
 refine wpAny_nameGoes_keeps hl hn hk fun h' v hn' hs'=>kk _ ?_
 have J:=I.mapGone (t':=s.toks+1) hn' hs'
 refine⟨J.ok,J.os,J.bare,J.base,⟨_,hn',fun j y z e1 e2 e3=>?_⟩,J.cell,J.free,J.freeC,J.pin,J.hok,by rw[List.length_set];exact I.len⟩
 have hji:j≠i:=fun e=>by
  rw[e,List.getElem?_set] at e2
  rw[if_pos rfl] at e2
  split at e2<;>cases e2
 have hyn:y≠n:=fun e=>hji (G1 hN (e ▸ e1) hi)
 rw[List.getElem?_set,if_neg (fun e=>hji e.symm)] at e2
 obtain⟨u,ru,fN⟩:=bf j y z e1 e2 e3
 rcases fN with⟨k1,k2⟩|⟨k1,c,k2,k3⟩
 ·exact⟨u,ru,.inl ⟨k1,by simp only[if_neg hyn];exact k2⟩⟩
 ·exact⟨u,ru,.inr ⟨k1,c,k2,k3.sameBut hs' (I.cne y c k2)⟩⟩
end
end L2
namespace L2
open PySem PySem.Spec PyProof.Rows
section
variable {X:Cx}{N:List Str}{scope:Scope}{cl:List (Str×Addr)}{js:List (Option Nat)}{ar tg ae:Expr}{aq:List Expr}{rest:List Comprehension}{pos dF cq:Pos}{wi:TI}{g:CC->TG}{tb:CC->Addr->TS}{i:Nat}{y:Str}
theorem Kn{WB:CC->Value->Sr}(aM:X.xe=D9)(hc:X.calm=true)(hi:PI X tg ae wi)(hs:∀x,foldedSetIterable ae X.env x=pure x)(de:closureFor scope X.env=pure cl)(hk:scope.kind= .function)(bP:∀x∈scope.names,x.2= .local->scope.names.lookup x.1=some .local)(a9:∀x∈scope.names,x.2≠.cell)(bO:∀p∈cl,X.env.cells.lookup p.1=some p.2)(hcn:∀x,((relabel scope X.env).names.lookup x=some .cell\/(relabel scope X.env).names.lookup x=some .free)->∃c,cl.lookup x=some c)(gk:GJ X N scope js)(hl:js.length=N.length)(ht:∀c it ac,HT (X.cmp N scope cl c) (.ListComp ar (⟨tg,ae,aq,0⟩::rest) scope pos) 0 it ac tg (WB c ac))(hg:∀c,PG (X.cmp N scope cl c) tg (g c))(hb:∀c ac,PB (X.cmp N scope cl c) (WB c (.ref ac)) (tb c ac))(hN:X.N.Nodup)(hy:X.N[i]? = some y)(dG:So X.env.scope y)(hsw:swapsWith (.ListComp ar (⟨tg,ae,aq,0⟩::rest) scope pos) (some (.Name y cq)) dF.line X.env=pure true)(hf:X.fn y=true\/X.env.scope.names.lookup y=some .local):
  PS X (.Assign [.Name y cq] (.ListComp ar (⟨tg,ae,aq,0⟩::rest) scope pos) dF) (Lv (HV wi js g tb) (Dh i)):=by
 intro pins s σ H D I h
 rw[exec_Assign_Name_used _ _ _ _ hsw]
 refine wpAny_bind (wpAny_standAt (wpAny_bind ?_))
 rw[arm_evalThenUse_ListComp]
 have h0:=hi pins s σ H _ I h
 refine wpAny_bind (wpAny_mono (wpAny_comprehension_free (use:=some (assign (.Name y cq) X.env)) (Q:=fun _ s'=>SP X pins D .next s') (cl:=cl) rfl hs de hk bP (AO h0 fun v s1 h1=>AO h1 fun bD s2 h2=>?_)) (fun _ s' hq=>wpAny_pure (wpAny_pure hq)) fun _ _ z=>z)
 obtain⟨it,fp,tn,J,H2,e,I2,T,eB,f2,hR⟩:=h2
 subst e
 refine wpAny_newObj_type (wpAny_newFunctionEnv a9 (by intro y hy;simp at hy) (fun h₁ df bQ=>?_) hk)
 dsimp only at df bQ ⊢
 have I3:=I2.lnew (ys:=[]) (its:=[]) (t':=s2.toks) .nil (zA4 _)
 have fb:∀b∈fp,b<s2.heap.objs.size:=fun b hb=>by
  obtain⟨o,e,_⟩:=T.obj 0 _ eB b hb
  exact zAD e
 have fpa:∀b∈fp,b≠s2.heap.objs.size:=fun b hb=>zAH (fb b hb)
 have f3:∀b∈fp,CL X pins (upd H2 s2.heap.objs.size (.lst [])) b:=fun b hb=>⟨by rw[Al (fpa b hb)];exact (f2 b hb).1,(f2 b hb).2⟩
 have hR':=hR ⟨{ s2 with heap:=s2.heap.push { cls:=.type "list",data:=.seq ([]:List Value).toArray } },upd H2 s2.heap.objs.size (.lst []),fp⟩ s2.heap.objs.size I2.fresh
 have I4:=I3.cmp (N:=N) (cl:=cl) (js:=js) (t':=s2.toks) f3 (fun b hb=>by
  show b<(s2.heap.push _).objs.size
  rw[zA6]
  exact zBE (fb b hb)) hk bO hcn gk hl df bQ
 have hV:tn 0 h₁:=T.keep 0 _ _ eB fun b hb o e=>(bQ.2 b (by
  rw[zA6]
  exact zAH (zBE (fb b hb)))).trans (Heap.get?_push_of_some _ (Heap.get?_push_of_some _ e))
 have f4:∀b∈fp,CL (X.cmp N scope cl ⟨{ s2 with heap:=s2.heap.push { cls:=.type "list",data:=.seq ([]:List Value).toArray } },upd H2 s2.heap.objs.size (.lst []),fp⟩) [] (upd H2 s2.heap.objs.size (.lst [])) b:=fun b hb=>
  ⟨(f3 b hb).1,(I4.ok.exf b hb).1,I4.ok.exfs b hb,.inl hb,(I4.ok.exf b hb).2,fun p hp=>absurd (show p∈([]:List (Addr×Obj)) from hp) (by simp)⟩
 have lt3:∀b ob,({ s2 with heap:=s2.heap.push { cls:=.type "list",data:=.seq ([]:List Value).toArray } }:Shared).heap.get? b=some ob->b<(s2.heap.push { cls:=.type "list",data:=.seq ([]:List Value).toArray }).objs.size:=fun b ob e=>zAD e
 have bq:=codeAny_mono (CJ (X:=X.cmp N scope cl ⟨{ s2 with heap:=s2.heap.push { cls:=.type "list",data:=.seq ([]:List Value).toArray } },upd H2 s2.heap.objs.size (.lst []),fp⟩) (e:=.ListComp ar (⟨tg,ae,aq,0⟩::rest) scope pos) (d:=0) (acc:=.ref s2.heap.objs.size) (pins:=[]) aM hc (ht _ _ _) rfl rfl rfl T (hg _) (hb _ _) I4 hV f4 hR') (R':=compPost (model X.prog X.w) X.A X.xe (some (assign (.Name y cq) X.env)) (fun _ s'=>SP X pins D .next s') (.ref s2.heap.objs.size) (s2.heap.push { cls:=.type "list",data:=.seq ([]:List Value).toArray }).objs.size) (fun r s' hq=>by
  obtain⟨rfl,σ',H',J',q⟩:=hq
  obtain⟨m,hn,_⟩:=id J'.loc
  have I5:Inv X pins σ H' s':=I3.uncmp f3 J' (zBF _ _)
  have nL:(s2.heap.push { cls:=.type "list",data:=.seq ([]:List Value).toArray }).objs.size≠X.env.locals:=zBW I3.lt
  have nC:∀x c,X.env.cells.lookup x=some c->c≠(s2.heap.push { cls:=.type "list",data:=.seq ([]:List Value).toArray }).objs.size:=fun x c e=>by
   obtain⟨v,o,ho,_⟩:=I3.cell x c e
   exact zAH (lt3 _ _ ho)
  show wpAny _ _ (assign (.Name y cq) X.env (.ref s2.heap.objs.size)) _ _ _
  refine wpAny_assign_Name (HX I5 hN hy dG (v:=.ref s2.heap.objs.size) rfl (fun s6 I6 ⟨a,sb,ha⟩=>?_) hf)
  have na:(s2.heap.push { cls:=.type "list",data:=.seq ([]:List Value).toArray }).objs.size≠a:=by
   rcases ha with z | z
   ·rw[z];exact nL
   ·exact zBD (nC _ _ z)
  refine⟨m,hn.sameBut sb na,fun h7 sb7=>?_⟩
  refine⟨_,H',I6.turned (t':=s6.toks) (it:=(s2.heap.push { cls:=.type "list",data:=.seq ([]:List Value).toArray }).objs.size) (fun b ob nb e=>(sb7.2 b nb).trans e) J'.free nL (.inr (zAC I3.sz (zAA _))) nC (fun p hp=>zAH (lt3 _ _ (I3.pin p hp).1)),q⟩)
 exact Cm (X:=X.cmp N scope cl ⟨{ s2 with heap:=s2.heap.push { cls:=.type "list",data:=.seq ([]:List Value).toArray } },upd H2 s2.heap.objs.size (.lst []),fp⟩) rfl rfl rfl (fun _=>rfl) True.intro bq (T.self _ 0 _ _ _ hV bq)
variable {aO af:Expr}{ax:List Expr}{db:CC->TI}{g1:CC->TG}{tc gr:CC->TT}{te:CC->TE}
theorem Gr(hN:X.N.Nodup)(hy:X.N[i]? = some y)(dG:So X.env.scope y)(h:CompOk X N scope cl js)(hi:PI X tg ae wi)(hg:∀c,PG (X.cmp N scope cl c) tg (g c))(gu:∀c,NG (X.cmp N scope cl c) aq (tc c))(he:∀c,PE (X.cmp N scope cl c) ar (te c))(aM:X.xe=D9:=by rfl)(hc:X.calm=true:=by rfl)(hs:∀x,foldedSetIterable ae X.env x=pure x:=by intro _;rfl)(hsw:swapsWith (.ListComp ar [⟨tg,ae,aq,0⟩] scope pos) (some (.Name y cq)) dF.line X.env=pure true:=by rfl)(hf:X.fn y=true\/X.env.scope.names.lookup y=some .local:=by first | exact .inl rfl | exact .inr rfl):
  PS X (.Assign [.Name y cq] (.ListComp ar [⟨tg,ae,aq,0⟩] scope pos) dF) (Lv (HV wi js g fun c ac=>C7 (tc c) (Dq ac (te c))) (Dh i)):=
 Kn (WB:=fun c ac=>E8 (X.cmp N scope cl c) aq ar ac) aM hc hi hs h.clos h.kind h.names h.cell h.ccl h.hcn h.shr h.len (fun c it ac=>Rw) hg (fun c ac=>F0 aM (gu c) (he c)) hN hy dG hsw hf
theorem Lk(hN:X.N.Nodup)(hy:X.N[i]? = some y)(dG:So X.env.scope y)(h:CompOk X N scope cl js)(hi:PI X tg ae wi)(hg:∀c,PG (X.cmp N scope cl c) tg (g c))(gu:∀c,NG (X.cmp N scope cl c) aq (tc c))(hi1:∀c,PI (X.cmp N scope cl c) aO af (db c))(eD:∀c,PG (X.cmp N scope cl c) aO (g1 c))(fe:∀c,NG (X.cmp N scope cl c) ax (gr c))(he:∀c,PE (X.cmp N scope cl c) ar (te c))(hs1:∀c x,foldedSetIterable af (X.cmp N scope cl c).env x=pure x:=by intro _ _;rfl)(aM:X.xe=D9:=by rfl)(hc:X.calm=true:=by rfl)(hs:∀x,foldedSetIterable ae X.env x=pure x:=by intro _;rfl)(hsw:swapsWith (.ListComp ar [⟨tg,ae,aq,0⟩,⟨aO,af,ax,0⟩] scope pos) (some (.Name y cq)) dF.line X.env=pure true:=by rfl)(hf:X.fn y=true\/X.env.scope.names.lookup y=some .local:=by first | exact .inl rfl | exact .inr rfl):
  PS X (.Assign [.Name y cq] (.ListComp ar [⟨tg,ae,aq,0⟩,⟨aO,af,ax,0⟩] scope pos) dF) (Lv (HV wi js g fun c ac=>C7 (tc c) (Kf (db c) (g1 c) (C7 (gr c) (Dq ac (te c))))) (Dh i)):=
 Kn (WB:=fun c ac=>Gh (X.cmp N scope cl c) aq (.ListComp ar [⟨tg,ae,aq,0⟩,⟨aO,af,ax,0⟩] scope pos) af ac) aM hc hi hs h.clos h.kind h.names h.cell h.ccl h.hcn h.shr h.len (fun c it ac=>RW (hs1 c)) hg
  (fun c ac=>Se aM hc (gu c) (hi1 c) (eD c) (F0 aM (fe c) (he c))) hN hy dG hsw hf
end
end L2
namespace L2
open PySem PySem.Spec PyProof.Rows
abbrev Up(xs:Array Nat):Prop:=xs.toList.Pairwise (· < ·)
theorem Up.lt(u:Up xs){i j:Nat}{a b:Nat}(h:i<j)(ha:xs[i]? = some a)(hb:xs[j]? = some b):a<b:=by
 have ha':xs.toList[i]? = some a:=by simpa using ha
 have fO:xs.toList[j]? = some b:=by simpa using hb
 obtain⟨h1,e1⟩:=List.getElem?_eq_some_iff.mp ha'
 obtain⟨h2,e2⟩:=List.getElem?_eq_some_iff.mp fO
 have:=List.pairwise_iff_getElem.mp u i j h1 h2 h
 omega
structure Xw(xs:Array Nat)(j p:Nat):Prop where
 le:p<=xs.size
 lo:∀i a,i<p->xs[i]? = some a->a<j
 hi:∀i a,p<=i->xs[i]? = some a->j<=a
theorem Gg{xs:Array Nat}(u:Up xs)(j:Nat):∀(fuel lo hi:Nat),hi-lo<=fuel->lo<=hi->hi<=xs.size->(∀i a,i<lo->xs[i]? = some a->a<j)->(∀i a,hi<=i->xs[i]? = some a->j<=a)->
  Xw xs j (SetTable.below.go xs j fuel lo hi)
 | 0,lo,hi,h1,h2,h3,h4,h5=>by
  have e:lo=hi:=by omega
  subst e
  exact⟨h3,h4,h5⟩
 | fuel+1,lo,hi,h1,h2,h3,h4,h5=>by
  unfold SetTable.below.go
  by_cases aK:lo<hi
  ·rw[if_pos aK]
   have hm:(lo+hi) / 2<xs.size:=by omega
   have eg:xs[(lo+hi) / 2]? = some xs[(lo+hi) / 2]:=Array.getElem?_eq_getElem hm
   have ed:xs.getD ((lo+hi) / 2) j=xs[(lo+hi) / 2]:=by simp[Array.getD,hm]
   show Xw xs j (if xs.getD ((lo+hi) / 2) j<j then _ else _)
   rw[ed]
   split
   ·rename_i hl
    refine Gg u j fuel ((lo+hi) / 2+1) hi (by omega) (by omega) h3 (fun i a eH ha=>?_) h5
    by_cases e:i=(lo+hi) / 2
    ·subst e;rw[eg] at ha;cases ha;exact hl
    ·exact zCF (u.lt (show i<(lo+hi) / 2 by omega) ha eg) hl
   ·rename_i hl
    refine Gg u j fuel lo ((lo+hi) / 2) (by omega) (by omega) (by omega) h4 (fun i a eH ha=>?_)
    by_cases e:i=(lo+hi) / 2
    ·subst e;rw[eg] at ha;cases ha;omega
    ·have:=u.lt (show (lo+hi) / 2<i by omega) eg ha
     omega
  ·rw[if_neg aK]
   have e:lo=hi:=by omega
   subst e
   exact⟨h3,h4,h5⟩
theorem Hc(u:Up xs)(j:Nat):Xw xs j (SetTable.below xs j):=
 Gg u j xs.size 0 xs.size (by omega) (zA4 _) (zAA _) (fun i a h=>absurd h (zBX _)) fun i a h e=>by
  have:=(Array.getElem?_eq_some_iff.mp e).1
  omega
theorem LU(u:Up xs)(h:xs[i]? = some a):SetTable.below xs (a+1)=i+1:=by
 have b:=Hc u (a+1)
 have hi:i<xs.size:=(Array.getElem?_eq_some_iff.mp h).1
 have h1:i<SetTable.below xs (a+1):=by
  rcases Nat.lt_or_ge i (SetTable.below xs (a+1)) with q | q
  ·exact q
  ·have:=b.hi i a q h
   omega
 rcases Nat.lt_or_ge (i+1) (SetTable.below xs (a+1)) with q | q
 ·have hs:i+1<xs.size:=zAL q b.le
  have e2:=Array.getElem?_eq_getElem hs
  have:=b.lo (i+1) _ q e2
  have:=u.lt (zC i) h e2
  omega
 ·omega
theorem Lw(u:Up xs):SetTable.below xs 0=0:=by
 have b:=Hc u 0
 rcases Nat.eq_zero_or_pos (SetTable.below xs 0) with q | q
 ·exact q
 ·have hs:0<xs.size:=zAL q b.le
  have:=b.lo 0 _ q (Array.getElem?_eq_getElem hs)
  omega
theorem ON(u:Up xs)(h:xs[SetTable.below xs j]?≠some j):Up (SetTable.insertAt xs (SetTable.below xs j) j):=by
 have b:=Hc u j
 generalize SetTable.below xs j=p at b h
 unfold Up
 rw[SetTable.toList_insertAt]
 have e1:∀x∈xs.toList.take p,x<j:=fun x hx=>by
  obtain⟨i,hi⟩:=List.mem_iff_getElem?.mp hx
  rw[List.getElem?_take] at hi
  split at hi
  ·rename_i aK
   exact b.lo i x aK (by simpa using hi)
  ·cases hi
 have e2:∀x∈xs.toList.drop p,j<x:=fun x hx=>by
  obtain⟨i,hi⟩:=List.mem_iff_getElem?.mp hx
  rw[List.getElem?_drop] at hi
  have eH:xs[p+i]? = some x:=by simpa using hi
  have:=b.hi (p+i) x (Nat.le_add_right _ _) eH
  have ne:x≠j:=fun e=>by
   subst e
   cases i with
   | zero=>exact h eH
   | succ i=>
    have hp:p<xs.size:=by
     have:=(Array.getElem?_eq_some_iff.mp eH).1
     omega
    have eg:=Array.getElem?_eq_getElem hp
    have h3:=b.hi p _ (zAA _) eg
    have h4:=u.lt (show p<p+(i+1) by omega) eg eH
    omega
  omega
 have u':(xs.toList.take p++xs.toList.drop p).Pairwise (· < ·):=by rw[zB3];exact u
 obtain⟨p1,p2,p3⟩:=List.pairwise_append.mp u'
 refine List.pairwise_append.mpr ⟨p1,List.pairwise_cons.mpr ⟨e2,p2⟩,fun x hx y hy=>?_⟩
 rcases List.mem_cons.mp hy with q | q
 ·rw[q];exact e1 x hx
 ·exact zCF (e1 x hx) (e2 y q)
theorem Qz(n:Nat):Up (Array.range n):=by
 unfold Up
 rw[Array.toList_range]
 exact zCQ
end L2
namespace L2
open PySem PySem.Spec PyProof.Rows
structure TabOk(Bu:Bool)(t:SetTable):Prop where
 dum:t.dummies = #[]
 led:t.led = !Bu
 up:Up t.place
structure FD(Bu:Bool)(t:SetTable):Prop where
 led:t.led = !Bu
 up:Up t.place
theorem TabOk.it{Bu:Bool}(h:TabOk Bu t):FD Bu t:=⟨h.led,h.up⟩
theorem TabOk.plain_off{Bu:Bool}(h:TabOk Bu t):TabOk Bu { t with plain:=false }:=⟨h.dum,h.led,h.up⟩
theorem TabOk.standIn{Bu:Bool}(h:TabOk Bu t)(n:Nat):TabOk Bu (t.standIn n):=⟨rfl,h.led,Qz n⟩
theorem TabOk.orStandIn{Bu:Bool}(h:TabOk Bu t)(n:Nat):TabOk Bu (t.orStandIn n):=by
 unfold SetTable.orStandIn
 split
 ·exact h
 ·exact h.standIn n
theorem TabOk.fresh(Bu:Bool)(led:Bool)(e:led = !Bu):TabOk Bu (.fresh 0 0 led):=⟨rfl,e,List.Pairwise.nil⟩
theorem NH(j:Nat):SetTable.has #[] j=false:=by
 unfold SetTable.has
 simp
theorem Hs(t:SetTable)(p:SetTable.Probe):(t.advance p).dummy=p.dummy:=by
 unfold SetTable.advance
 split
 ·rfl
 ·rfl
theorem KI{t:SetTable}(hd:t.dummies = #[]){hashAt:Nat->Int}{h:Int}{j:Nat}{d:Option Nat}:∀(fuel:Nat)(p:SetTable.Probe),p.dummy=none->SetTable.probe.go t hashAt h fuel p=some (.empty j d)->d=none/\t.place[SetTable.below t.place j]?≠some j
 | 0,_,_,e=>by cases e
 | fuel+1,p,hp,e=>by
  unfold SetTable.probe.go at e
  have hs:∀j,t.slot j=if t.place[SetTable.below t.place j]? == some j then .live (SetTable.below t.place j) else .empty:=fun j=>by
   unfold SetTable.slot
   rw[hd,NH]
   rfl
  rw[hs] at e
  split at e
  ·rename_i hlive
   split at hlive
   ·cases hlive
   ·rename_i aE
    injection e with e
    injection e with e1 e2
    subst e1
    refine⟨by rw[<-e2,hp],fun z=>aE (by rw[z];simp)⟩
  ·rename_i hlive
   split at hlive<;>cases hlive
  ·split at e
   ·cases e
   ·exact KI hd fuel _ (by rw[Hs];exact hp) e
theorem TabOk.layNew{Bu:Bool}{t:SetTable}(ok:TabOk Bu t)(es:Array (Int×Value))(h:Int)(x:Value):TabOk Bu (layNew t es h x).2.1:=by
 unfold PySem.layNew
 cases ef:t.freeSlot h with
 | none=>exact ok.standIn _
 | some sw=>
  obtain⟨slot,wd⟩:=sw
  show TabOk Bu ((t.put slot).1.orStandIn _)
  refine TabOk.orStandIn ?_ _
  unfold SetTable.freeSlot at ef
  split at ef
  ·rename_i j dummy eq
   have:=KI ok.dum _ _ rfl eq
   obtain⟨rfl,aE⟩:=this
   injection ef with ef
   injection ef with e1 e2
   have e1':j=slot:=e1
   subst e1'
   unfold SetTable.put
   refine⟨?_,ok.led,ON ok.up aE⟩
   show (if SetTable.has t.dummies j then _ else t.dummies) = #[]
   rw[ok.dum,NH]
   rfl
  ·cases ef
theorem TabOk.relayAll{Bu:Bool}{t:SetTable}(ok:TabOk Bu t)(es:Array (Int×Value))(cI:Nat):TabOk Bu (relayAll t es cI).2.1:=by
 unfold PySem.relayAll
 cases er:t.relaid (es.map (·.1)) cI with
 | none=>exact ok.standIn _
 | some to=>
  obtain⟨t',order⟩:=to
  dsimp only
  split
  ·unfold SetTable.relaid SetTable.laid at er
   cases eo:SetTable.layClean (SetTable.sizeAbove cI-1) (es.map (·.1)) with
   | none=>rw[eo] at er;cases er
   | some owner=>
    rw[eo] at er
    injection er with er
    injection er with e1 e2
    subst e1
    refine⟨rfl,ok.led,?_⟩
    show (List.map (fun x:Nat×Nat=>x.fst) (List.filterMap (fun j=>Option.map (fun x=>(j,x)) (owner.getD j none)) (List.range (SetTable.sizeAbove cI-1+1)))).toArray.toList.Pairwise (· < ·)
    rw[zC6]
    rw[zC9]
    refine List.Pairwise.filterMap _ (R:=(· < ·)) ?_ zCQ
    intro a a' aK b hb b' fO
    have f:∀{a b:Nat},Option.map (fun x:Nat×Nat=>x.1) (Option.map (fun x=>(a,x)) (owner.getD a none))=some b->b=a:=fun {a b} e=>by
     cases q:owner.getD a none with
     | none=>rw[q] at e;cases e
     | some y=>rw[q] at e;injection e with e;exact e.symm
    rw[f hb,f fO]
    exact aK
  ·exact ok.standIn _
end L2
namespace L2
open PySem PySem.Spec PyProof.Rows
def A0(e:Int×Value):Int:=match e.2 with | .int k _=>k | _=>0
def EGood(l:List (Int×Value)):Prop:=∀e∈l,e.1=hashInt (A0 e)/\∃t,e.2= .int (A0 e) t
abbrev Bu(w:World):Bool:=w.params.followText "set-order"
inductive SetIs(w:World)(h:Heap)(a:Addr)(ks:List Int):Prop where
 | mk (o es ep t) (_:h.get? a=some o) (_:o.ExactSet) (_:o.data= .set es ep t) (_:EGood es.toList) (_:es.toList.map A0=ks) (_:ks.Nodup) (_:ks.length<2000) (_:TabOk (Bu w) t) (_:t.fits es.size=true)
theorem SetIs.keep(x:SetIs w h a ks)(k:∀o,h.get? a=some o->h'.get? a=some o):SetIs w h' a ks:=by
 cases x with | mk o es ep t ho=>exact⟨o,es,ep,t,k o ho,‹_›,‹_›,‹_›,‹_›,‹_›,‹_›,‹_›,‹_›⟩
inductive SetIt(w:World)(h:Heap)(a:Addr)(ks:List Int):Prop where
 | mk (o es ep t) (_:h.get? a=some o) (_:o.ExactSet) (_:o.data= .set es ep t) (_:EGood es.toList) (_:es.toList.map A0=ks) (_:ks.Nodup) (_:ks.length<2000) (_:FD (Bu w) t) (_:t.fits es.size=true)
theorem SetIs.it(x:SetIs w h a ks):SetIt w h a ks:=by
 obtain⟨o,es,ep,t,h1,h2,h3,h4,h5,h6,h7,h8,h9⟩:=x
 exact⟨o,es,ep,t,h1,h2,h3,h4,h5,h6,h7,h8.it,h9⟩
theorem SetIt.keep(x:SetIt w h a ks)(k:∀o,h.get? a=some o->h'.get? a=some o):SetIt w h' a ks:=by
 cases x with | mk o es ep t ho=>exact⟨o,es,ep,t,k o ho,‹_›,‹_›,‹_›,‹_›,‹_›,‹_›,‹_›,‹_›⟩
theorem SetIt.at_(x:SetIt w h a ks):∃o,h.get? a=some o:=by cases x;exact⟨_,‹_›⟩
theorem SetIs.nd(x:SetIs w h a ks):ks.Nodup:=by cases x;assumption
theorem SetIt.nd(x:SetIt w h a ks):ks.Nodup:=by cases x;assumption
section
variable {prog:Program}{w:World}{A:Around}{E:Value->Shared->Prop}{s:Shared}{a:Addr}{ks:List Int}{k:Int}{tk:Tok}
theorem EGood.elems(h:EGood l):ElemsOf (intKind prog w) l:=fun e he=>by
 obtain⟨h1,t,h2⟩:=h e he
 refine⟨⟨A0 e,?_,h1⟩,?_⟩
 ·rw[h2];exact intKind_is _ _ _ _
 ·rw[h2];rfl
theorem EGood.is(h:EGood l)(he:e∈l):(intKind prog w).is j e.2=true↔j=A0 e:=by
 obtain⟨_,t,h2⟩:=h e he
 constructor
 ·intro q
  exact (intKind prog w).inj e.2 j (A0 e) q (by rw[h2];exact intKind_is _ _ _ _)
 ·rintro rfl
  rw[h2]
  exact intKind_is _ _ _ _
theorem C4{es:Array (Int×Value)}(e:es.toList.map A0=ks):es.size=ks.length:=by rw[<-e,List.length_map,zAF]
theorem D7{h:Heap}{o:Obj}{es aB:Array (Int×Value)}{ep:Nat}{t t':SetTable}(ho:h.get? a=some o)(bX:o.ExactSet)(hd:o.data= .set es ep t)(g:EGood aB.toList)(nd:(aB.toList.map A0).Nodup)(hl:aB.size<2000)(ok:TabOk (Bu w) t')(hf:t'.fits aB.size=true):
  (h.update a (Obj.putSet aB t')).get? a=some { o with data:=.set aB (ep+1) t' }/\SetIs w (h.update a (Obj.putSet aB t')) a (aB.toList.map A0):=by
 have hg:(h.update a (Obj.putSet aB t')).get? a=some { o with data:=.set aB (ep+1) t' }:=by
  have:=Heap.get?_update_self (Obj.putSet aB t') ho (by rw[putSet_of aB t' hd];rfl)
  rw[putSet_of aB t' hd] at this;exact this
 exact⟨hg,_,aB,ep+1,t',hg,bX,rfl,g,rfl,nd,by rw[List.length_map,zAF];exact hl,ok,hf⟩
theorem Ct(h:n<2000):n<scanBound:=by unfold scanBound;omega
theorem JH{g:Bool->Sem Unit}(hg:∀(b:Bool) (s₁:Shared) (Q':Unit->Shared->Prop),Q' () s₁->wpAny (model prog w) A (g b) Q' E s₁){ep:Nat}(ho:s.heap.get? a=some o)(bX:o.ExactSet)(hd:o.data= .set es ep t)(g1:EGood bx.toList)(nd:(bx.toList.map A0).Nodup)(hl:bx.size<2000)(ok:TabOk (Bu w) t2)(hf:t2.fits bx.size=true){dg:Bool}(h:∀h' a7,Heap.SameBut a s.heap h'->SetIs w h' a a7->a7.Perm (bx.toList.map A0)->R (some true) { s with heap:=h' }):
  wpAny (model prog w) A (do
    storeSet a bx t2
    if (!dg && t2.tooFull)=true then do
      g (relayAll t2 bx (SetTable.grown bx.size)).2.2
      storeSet a (relayAll t2 bx (SetTable.grown bx.size)).1 (relayAll t2 bx (SetTable.grown bx.size)).2.1
      pure (some true)
     else pure (some true)) R E s:=by
 refine wpAny_bind (wpAny_storeSet_of ho hd ?_ (fits_of_scanBound (Ct hl)))
 obtain⟨dh,eI⟩:=D7 (w:=w) ho bX hd g1 nd hl ok hf
 have hsb1:=zAW s.heap a (Obj.putSet bx t2)
 split
 ·have hp:=relayAll_perm t2 bx (SetTable.grown bx.size)
  have bC:=relayAll_fits t2 bx (SetTable.grown bx.size)
  have okr:=ok.relayAll bx (SetTable.grown bx.size)
  generalize hRl:relayAll t2 bx (SetTable.grown bx.size)=Rl at hp bC okr ⊢
  obtain⟨es2,t3,gave2⟩:=Rl
  dsimp only at hp bC okr ⊢
  have ay:es2.size=bx.size:=by rw[<-zAF,hp.length_eq,zAF]
  have fP:es2.size<2000:=by rw[ay];exact hl
  have g2:EGood es2.toList:=fun e he=>g1 e (hp.mem_iff.mp he)
  refine wpAny_bind (hg _ _ _ ?_)
  refine wpAny_bind (wpAny_storeSet_of dh rfl ?_ (fits_of_scanBound (Ct fP)))
  obtain⟨_,bE⟩:=D7 (w:=w) dh bX rfl g2 ((hp.map A0).nodup_iff.mpr nd) fP okr bC
  exact wpAny_pure (h _ _ (hsb1.trans (zAW _ a _)) bE (hp.map A0))
 ·exact wpAny_pure (h _ _ hsb1 eI (zBO _))
theorem FX(hS:SetIs w s.heap a ks)(fh:ks.length+1<2000)(h:∀h' a7,Heap.SameBut a s.heap h'->SetIs w h' a a7->(∀j,j∈a7↔j∈ks\/j=k)->a7.length<=ks.length+1->Q (!decide (k∈ks)) { s with heap:=h' }):
  wpAny (model prog w) A (setAddHashed a (.int k tk) (hashInt k)) Q E s:=by
 obtain⟨o,es,ep,t,ho,bX,hd,hg,hk,nd,hl,ok,hf⟩:=id hS
 have ay:=C4 hk
 have eY:(intKind prog w).is k (.int k tk)=true:=intKind_is _ _ _ _
 unfold setAddHashed setAddHashedIn
 refine wpAny_holding (wpAny_bind (wpAny_setState_of ho hd hf ?_))
 dsimp only
 rw[byScan_of (knd:=intKind prog w) rfl (by rw[ay];exact Ct hl) hg.elems]
 simp only[↓reduceIte]
 unfold setAddByScan
 refine wpAny_bind ?_
 refine wpAny_bind (wpAny_rule ?_)
 refine wpAny_bind (wpAny_setScan_of (knd:=intKind prog w) eY ho hd hf hg.elems ?_)
 cases hr:List.findIdx? (fun e=>(intKind prog w).is k e.2) es.toList with
 | some j=>
  dsimp only
  obtain⟨hj,hpj,_⟩:=List.findIdx?_eq_some_iff_getElem.mp hr
  have au:k∈ks:=by
   rw[<-hk,(hg.is (zA8 hj)).mp hpj]
   exact zC7 (zA8 hj)
  refine wpAny_pure (wpAny_pure ?_)
  have e:s={ s with heap:=s.heap }:=by cases s;rfl
  have:=h s.heap ks (zBF a s.heap) hS (fun j=>⟨.inl,fun z=>z.elim id fun z=>z ▸ au⟩) (zB9 _)
  rw[decide_eq_true au] at this;rw[e];exact this
 | none=>
  dsimp only
  have au:k∉ks:=fun z=>by
   rw[<-hk] at z
   obtain⟨e,he,rfl⟩:=List.mem_map.mp z
   have:=List.findIdx?_eq_none_iff.mp hr e he
   rw[(hg.is he).mpr rfl] at this
   cases this
  have hgw:∀(b:Bool){s₁:Shared}{Q':Unit->Shared->Prop},Q' () s₁->wpAny (model prog w) A (match b with | true=>rule "set.scan.the-table-gave-way" | false=>pure ()) Q' E s₁:=
   fun b s₁ Q' hq=>by cases b<;>first | exact wpAny_pure hq | exact wpAny_rule hq
  have di:=layNew_perm t es (hashInt k) (.int k tk)
  have dj:=layNew_fits t es (hashInt k) (.int k tk)
  have ok1:=ok.layNew es (hashInt k) (.int k tk)
  generalize hL:layNew t es (hashInt k) (.int k tk)=L at di dj ok1
  have hL':layNew t es ((intKind prog w).hash k) (.int k tk)=L:=hL
  show wpAny (model prog w) A _ _ E s
  obtain⟨bx,t1,dg,gave⟩:=L
  simp only[hL]
  dsimp only at di dj ok1 ⊢
  rw[Array.toList_push] at di
  have eD:EGood bx.toList:=fun e he=>by
   rcases List.mem_append.mp (di.mem_iff.mp he) with z | z
   ·exact hg e z
   ·rw[List.mem_singleton.mp z]
    exact⟨rfl,tk,rfl⟩
  have hpk:(bx.toList.map A0).Perm (ks++[k]):=by
   have:=di.map A0
   rw[zAP,hk] at this
   exact this
  have nd1:(bx.toList.map A0).Nodup:=hpk.nodup_iff.mpr (List.nodup_append.mpr ⟨nd,List.nodup_cons.mpr ⟨by simp,zB1⟩,fun x hx y hy=>by rw[List.mem_singleton.mp hy];intro z;subst z;exact au hx⟩)
  have bc:bx.size<2000:=by
   have:=hpk.length_eq
   rw[List.length_map,zAF,zA] at this
   rw[this]
   exact fh
  refine wpAny_bind (hgw _ ?_)
  have cJ:∀h' a7,Heap.SameBut a s.heap h'->SetIs w h' a a7->a7.Perm (bx.toList.map A0)->Q true { s with heap:=h' }:=by
   intro h' a7 cp aX hp'
   have hq:=hp'.trans hpk
   have:=h h' a7 cp aX (fun j=>by rw[hq.mem_iff,zC0,zB2]) (by rw[hq.length_eq,zA];exact zAA _)
   rw[decide_eq_false au] at this
   exact this
  split
  ·refine wpAny_bind ?_
   rw[hashByValue_scannable 8 (x:=.int k tk) rfl]
   refine wpAny_pure ?_
   refine JH ?_ ho bX hd eD nd1 bc ?_ ?_ ?_
   ·intro b s₁ Q' hq;cases b<;>first | exact wpAny_pure hq | exact wpAny_rule hq
   ·split
    ·exact ok1
    ·exact ok1.plain_off
   ·split
    ·exact dj
    ·exact SetTable.fits_plain_off dj
   ·intro h' a7 cp aX hp';dsimp only;exact wpAny_pure (cJ h' a7 cp aX hp')
  ·refine wpAny_bind (wpAny_pure ?_)
   simp only[↓reduceIte]
   refine JH ?_ ho bX hd eD nd1 bc ok1 dj ?_
   ·intro b s₁ Q' hq;cases b<;>first | exact wpAny_pure hq | exact wpAny_rule hq
   ·intro h' a7 cp aX hp';dsimp only;exact wpAny_pure (cJ h' a7 cp aX hp')
end
end L2
namespace L2
open PySem PySem.Spec PyProof.Rows
abbrev Bg(w:World):Obj:={ cls:=.type "set",dict:=none,data:=.set #[] 0 (.fresh 0 0 (!Bu w)) }
theorem set0_is{w:World}{h:Heap}:SetIs w (h.push (Bg w)) h.objs.size []:=
 ⟨_,#[],0,_,Heap.get?_push_size _ rfl,⟨rfl,rfl,rfl⟩,rfl,fun e he=>absurd he (by simp),rfl,zB1,by decide,TabOk.fresh _ _ rfl,rfl⟩
section
variable {prog:Program}{w:World}{A:Around}{E:Value->Shared->Prop}{s:Shared}{a:Addr}{ks:List Int}{k:Int}{tk:Tok}
theorem SetIs.typeIs(hS:SetIs w s.heap a ks):s.TypeIs (.ref a) "set":=let ⟨o,_,_,_,ho,hc,_,_,_,_,_,_,_⟩:=hS;⟨o,ho,hc.1⟩
theorem SetIs.noDict(hS:SetIs w s.heap a ks):∀b,Value.ref a= .ref b->∃ob,s.heap.get? b=some ob/\ob.dict=none:=
 fun b e=>by injection e with e;subst e;exact let ⟨o,_,_,_,ho,hc,_,_,_,_,_,_,_⟩:=hS;⟨o,ho,hc.2.1⟩
theorem SetIt.typeIs(hS:SetIt w s.heap a ks):s.TypeIs (.ref a) "set":=let ⟨o,_,_,_,ho,hc,_,_,_,_,_,_,_⟩:=hS;⟨o,ho,hc.1⟩
theorem JN(hv:vs=[]\/∃x,vs=[x])(h:Q₁ (.ref s.heap.objs.size) { s with heap:=s.heap.push (Bg w) }):
  codeAny (model prog w) A (.call (.builtin "set.__new__") ⟨.type "set"::vs,[]⟩) (wants Q₁ E) s:=by
 have hn:checkBuiltinCall "set.__new__" ⟨.type "set"::vs,[]⟩=pure ():=by
  rcases hv with rfl | ⟨x,rfl⟩
  ·exact F.newCall_set_0
  ·exact F.newCall_set_1 x
 refine codeAny_of_tree ?_
 show wpAny _ A.in1 (do checkBuiltinCall "set.__new__" ⟨.type "set"::vs,[]⟩;again (.builtin "set.__new__" ⟨.type "set"::vs,[]⟩)) _ _ s
 refine wpAny_bind (wpAny_of_eq hn (wpAny_pure ⟨plainId_quiet F.plain_set_new _,codeAny_builtin F.entry_set_new ?_⟩))
 rw[zB8 F.plain_set_new _]
 have aw:=sub_set_self
 obtain⟨hp,g,d,tk,os⟩:=s
 rcases hv with rfl | ⟨x,rfl⟩
 all_goals
  unfold Builtin.«set.__new__» Builtin.Frozenset.newClass
  dsimp only
  wp_walk
  refine wpAny_askSetting (wpAny_pure ?_)
  dsimp only
  simp only[newObj]
  refine wpAny_bind (wpAny_alloc (wpAny_pure ?_))
  exact wpAny_pure h
set_option maxHeartbeats 1000000 in
theorem Qr(h:Q (.ref s.heap.objs.size) { s with heap:=s.heap.push (Bg w) }):wpAny (model prog w) A (call (.type "set") []) Q E s:=by
 obtain⟨c,tl,hmro⟩:=F.called_set.mro
 have hmade:=F.called_set.made
 have aw:=F.called_set.sub
 refine wpAny_call (codeAny_of_tree ?_)
 show wpAny _ _ (callAny (.type "set") _) _ _ _
 refine wpAny_pure ⟨zCM _ (by decide +kernel),codeAny_builtin F.entry_type_call ?_⟩
 rw[Around.under_plain (weight_type_call_type "set" [] []) rfl]
 have h1:=F.called_set.notType
 have h2:=F.called_set.canCreate
 have hct:=F.typeCall_set_0
 repeat (any_goals (first | assumption | wp_step))
 refine codeAny_mono (JN (E:=E) (.inl rfl) (Q₁:=fun obj s₁=>obj= .ref s.heap.objs.size/\s₁={ s with heap:=s.heap.push (Bg w) }) ⟨rfl,rfl⟩) fun r s₁ hr=>?_
 cases r with
 | error e=>exact hr
 | ok fl=>
  cases fl with
  | ret obj=>
   obtain⟨rfl,rfl⟩:=hr
   have hS:(s.heap.push (Bg w)).get? s.heap.objs.size=some (Bg w):=Heap.get?_push_size _ rfl
   have hT:Shared.TypeIs { s with heap:=s.heap.push (Bg w) } (.ref s.heap.objs.size) "set":=⟨_,hS,rfl⟩
   have hli:=F.called_set.init.lookup
   have fM:=F.called_set.init.bind (.ref s.heap.objs.size)
   repeat (any_goals (first | assumption | wp_step))
   refine codeAny_mono (codeAny_call_builtin (R:=wants (fun r s₂=>r= .none/\Q (.ref s.heap.objs.size) s₂) E) F.called_set.init.plain F.entry_set_init (check_set_init hT ?_)) fun r₂ s₂ hr₂=>?_
   ·unfold Builtin.«set.__init__» noKeywords
    wp_walk
    exact⟨rfl,h⟩
   ·cases r₂ with
    | error e=>exact hr₂
    | ok fl₂=>
     cases fl₂ with
     | ret r=>
      obtain⟨rfl,hQ⟩:=hr₂
      repeat (any_goals (first | assumption | wp_step))
     | _=>exact hr₂.elim
  | _=>exact hr.elim
theorem K1(hS:SetIs w s.heap a ks)(fh:ks.length+1<2000)(h:∀h' a7,Heap.SameBut a s.heap h'->SetIs w h' a a7->(∀j,j∈a7↔j∈ks\/j=k)->a7.length<=ks.length+1->Q .none { s with heap:=h',toks:=s.toks+1 }):
  wpAny (model prog w) A (call (.builtin "set.add") [.ref a,.int k tk]) Q E s:=by
 refine wpAny_call_entry F.slot_set_add hS.typeIs F.entry_set_add ?_ (F.args_set_add_2 _ _)
 unfold Builtin.«set.add» Builtin.Frozenset.oneOther
 simp only[List.isEmpty_nil,bind_assoc]
 unfold Builtin.Frozenset.addrOf setAdd
 refine wpAny_bind (wpAny_pure ?_)
 try dsimp only
 refine wpAny_bind (wpAny_pure ?_)
 try dsimp only
 refine wpAny_bind ?_
 refine wpAny_holding ?_
 refine wpAny_bind ((intKind prog w).pyHash (k:=k) (intKind_is _ _ _ _) ?_)
 refine FX (s:={ s with toks:=s.toks+1 }) hS fh fun h' a7 cp aX hm hl=>?_
 show wpAny _ _ (ret Value.none) _ _ _
 exact wpAny_pure ⟨_,rfl,h h' a7 cp aX hm hl⟩
end
end L2
namespace L2
open PySem PySem.Spec PyProof.Rows
theorem slot_setit_next:Slot "set_iterator" "__next__" "set_iterator.__next__":=
 .of (owner:="set_iterator") (n:="__next__") (by rw[typeLookup_type,builtinLookup_eq_fast];kernel_rfl) (by decide +kernel) (by decide +kernel) (by decide +kernel)
  (by first | exact .inl (by decide +kernel) | exact .inr (by decide +kernel)) (by rw[isSubtype_type];kernel_rfl)
theorem CF:entryFor table "set_iterator.__next__"=some Builtin.«set_iterator.__next__»:=entryFor_of_tree (by kernel_rfl)
theorem Di(a:Value):argsOk "set_iterator.__next__" ⟨[a],[]⟩:=by unfold argsOk;kernel_rfl
theorem Go:entryFor table "set.__iter__"=some Builtin.«frozenset.__iter__»:=entryFor_alias (id':="frozenset.__iter__") (by kernel_rfl) rfl (by decide +kernel) (by kernel_rfl)
theorem Dg:Slot "set_iterator" "__iter__" "set_iterator.__iter__":=
 .of (owner:="set_iterator") (n:="__iter__") (by rw[typeLookup_type,builtinLookup_eq_fast];kernel_rfl) (by decide +kernel) (by decide +kernel) (by decide +kernel)
  (by first | exact .inl (by decide +kernel) | exact .inr (by decide +kernel)) (by rw[isSubtype_type];kernel_rfl)
theorem Fj:entryFor table "set_iterator.__iter__"=some Builtin.«dict_keyiterator.__iter__»:=entryFor_alias (id':="dict_keyiterator.__iter__") (by kernel_rfl) rfl (by decide +kernel) (by kernel_rfl)
theorem FR(a:Value):argsOk "set_iterator.__iter__" ⟨[a],[]⟩:=by unfold argsOk;kernel_rfl
theorem slot_set_len':Slot "set" "__len__" "set.__len__":=
 .of (owner:="set") (n:="__len__") (by rw[typeLookup_type,builtinLookup_eq_fast];kernel_rfl) (by decide +kernel) (by decide +kernel) (by decide +kernel)
  (by first | exact .inl (by decide +kernel) | exact .inr (by decide +kernel)) (by rw[isSubtype_type];kernel_rfl)
end L2
namespace L2
open PySem PySem.Spec PyProof.Rows
inductive OP(w:World)(a:Addr)(es:Array (Int×Value))(ep:Nat)(t:SetTable)(h:Heap):(Nat->Value)->List Value->Prop where
 | text:Bu w=true->OP w a es ep t h (fun _=>rawInt 0) ((pickOrder (w.params.setOrder a ep) es).toList.map (·.2))
 | led:Bu w=false->(!t.plain && decide (es.size>1))=false->OP w a es ep t h (fun i=>rawInt (((if i=0 then 0 else t.place.getD (i-1) 0+1:Nat)):Int)) (es.toList.map (·.2))
 | drw (T:Addr) (o:Obj) (c:Nat) (ps:List Nat):Bu w=false->h.get? T=some o->o.data= .seq (ps.map fun(i:Nat)=>rawInt i).toArray c->(∀p∈ps,p<es.size)->OP w a es ep t h (fun _=>.ref T) (ps.map fun p=>(es.getD p (0,.none)).2)
inductive ItAt(h:Heap)(it a:Addr)(first:Value)(i n ep:Nat):Prop where
 | mk (o) (_:h.get? it=some o) (_:o.cls= .type "set_iterator") (_:o.data= .fields #[first,rawInt i,.ref a,rawInt n,rawInt ep])
theorem ItAt.typeIs{s:Shared}{it a:Addr}{first:Value}{i n ep:Nat}(x:ItAt s.heap it a first i n ep):s.TypeIs (.ref it) "set_iterator":=let ⟨o,ho,hc,_⟩:=x;⟨o,ho,hc⟩
section
variable {prog:Program}{w:World}{A:Around}{E:Value->Shared->Prop}{s:Shared}{a it:Addr}{o:Obj}{es:Array (Int×Value)}{ep i:Nat}{t:SetTable}{fst:Nat->Value}{bF:List Value}
theorem Nf(x:ItAt h it a first i n ep):ItAt ((h.update it (Obj.mapFields (·.setIfInBounds 0 f2))).update it (Obj.mapFields (·.setIfInBounds 1 (rawInt ((i:Int)+1))))) it a f2 (i+1) n ep:=by
 obtain⟨o,ho,hc,hd⟩:=x
 have h1:=Heap.get?_update_self (Obj.mapFields (·.setIfInBounds 0 f2)) ho (zBV (zBC hd _))
 have cQ:=zBC hd (·.setIfInBounds 0 f2)
 refine⟨_,Heap.get?_update_self _ h1 (zBV (zBC cQ _)),(zDA ..).trans ((zDA ..).trans hc),?_⟩
 rw[zBC cQ]
 simp
theorem Tn(x:ItAt h it a first i n ep):ItAt (h.update it (Obj.mapFields (·.setIfInBounds 1 (rawInt ((i:Int)+1))))) it a first (i+1) n ep:=by
 obtain⟨o,ho,hc,hd⟩:=x
 refine⟨_,Heap.get?_update_self _ ho (zBV (zBC hd _)),(zDA ..).trans hc,?_⟩
 rw[zBC hd]
 simp
theorem JE(ho:s.heap.get? a=some o)(hd:o.data= .set es ep t)(ok:FD (Bu w) t)(hf:t.fits es.size=true)(hb:Bu w=false)(hn:(!t.plain && decide (es.size>1))=false)(hs:slot=if i=0 then 0 else t.place.getD (i-1) 0+1)(hi:i<=es.size)(q:Q (match es[i]?,t.place[i]? with | some (_,x),some j=>some (x,j+1) | _,_=>none) s):wpAny (model prog w) A (setNext a slot i ep) Q E s:=by
 have aD:t.place.size=es.size:=by
  unfold SetTable.fits at hf
  exact beq_iff_eq.mp (Bool.and_eq_true_iff.mp hf).1
 have hbel:SetTable.below t.place slot=i:=by
  rw[hs]
  split
  ·rename_i e;rw[e];exact Lw ok.up
  ·rename_i e
   have h1:i-1<t.place.size:=by omega
   have eg:=Array.getElem?_eq_getElem h1
   have ed:t.place.getD (i-1) 0=t.place[i-1]:=by simp[Array.getD,h1]
   rw[ed,LU ok.up eg]
   omega
 unfold setNext setsByText
 refine wpAny_bind (wpAny_setState_of ho hd hf ?_)
 dsimp only
 refine wpAny_bind (wpAny_bind (wpAny_askSetting (wpAny_pure ?_)))
 show wpAny _ _ (if Bu w=true then _ else _) _ _ _
 rw[hb,if_neg zAB]
 show wpAny _ _ (if (!t.plain && decide (es.size>1))=true then _ else _) _ _ _
 rw[hn,if_neg zAB]
 refine wpAny_bind ?_
 show wpAny _ _ (if (!t.led && !es.isEmpty)=true then _ else _) _ _ _
 rw[ok.led,hb,if_neg (by simp)]
 refine wpAny_pure ?_
 rw[hbel]
 exact wpAny_pure q
theorem IG(ho:s.heap.get? a=some o)(hd:o.data= .set es ep t)(hf:t.fits es.size=true)(hb:Bu w=true)(q:Q (((pickOrder (w.params.setOrder a ep) es)[i]?).map fun e=>(e.2,slot)) s):wpAny (model prog w) A (setNext a slot i ep) Q E s:=by
 unfold setNext setsByText
 refine wpAny_bind (wpAny_setState_of ho hd hf ?_)
 dsimp only
 refine wpAny_bind (wpAny_bind (wpAny_askSetting (wpAny_pure ?_)))
 show wpAny _ _ (if Bu w=true then _ else _) _ _ _
 rw[hb,if_pos rfl]
 show wpAny _ _ (if (ep != ep)=true then _ else _) _ _ _
 rw[if_neg (by simp)]
 refine wpAny_bind ?_
 unfold setWalk setsByText
 refine wpAny_bind (wpAny_setState_of ho hd hf ?_)
 dsimp only
 refine wpAny_bind (wpAny_bind (wpAny_askSetting (wpAny_pure ?_)))
 show wpAny _ _ (if Bu w=true then _ else _) _ _ _
 rw[hb,if_pos rfl]
 refine wpAny_bind (wpAny_askSetting ?_)
 exact wpAny_pure (wpAny_pure q)
theorem Ox(ho:s.heap.get? a=some o)(hd:o.data= .set es ep t)(hf:t.fits es.size=true)(hp:es[p]? = some e)(q:Q e.2 s):wpAny (model prog w) A (setNextDrawn a p ep) Q E s:=by
 unfold setNextDrawn
 refine wpAny_bind (wpAny_setState_of ho hd hf ?_)
 dsimp only
 show wpAny _ _ (if (ep != ep)=true then _ else _) _ _ _
 rw[if_neg (by simp)]
 simp only[hp]
 exact wpAny_pure q
theorem N6(dW:ItAt s.heap it a (fst i) i es.size ep)(ho:s.heap.get? a=some o)(hd:o.data= .set es ep t)(ok:FD (Bu w) t)(hf:t.fits es.size=true)(M:OP w a es ep t s.heap fst bF)(hx:bF[i]? = some x)(hl:bF.length=es.size)(hQ:∀h',ItAt h' it a (fst (i+1)) (i+1) es.size ep->Heap.SameBut it s.heap h'->Q (some x) { s with heap:=h' }):wpAny (model prog w) A (pyNext (.ref it)) Q E s:=by
 obtain⟨oi,hoi,hci,hdi⟩:=id dW
 have hix:i<es.size:=by rw[<-hl];exact (List.getElem?_eq_some_iff.mp hx).1
 unfold pyNext
 refine wpAny_bind (wpAny_attempt (wpAny_callSpecial?_slot (name:=Str.ofString "__next__") dW.typeIs slot_setit_next
  (wpAny_call_entry slot_setit_next dW.typeIs CF ?_ (Di _))))
 show wpAny _ _ (fieldsOf (.ref it) >>= _) _ _ s
 refine wpAny_bind (wpAny_fieldsOf hoi hdi ?_)
 show wpAny _ _ (setEntries a >>= _) _ _ s
 refine wpAny_bind (wpAny_setEntries_of ho hd hf ?_)
 show wpAny _ _ (if (((es.size:Nat):Int) != ((es.size:Nat):Int))=true then _ else _) _ _ _
 rw[if_neg (by simp)]
 have cQ:=fun f2:Value=>zBC hdi (·.setIfInBounds 0 f2)
 have dh:=fun f2:Value=>Heap.get?_update_self (Obj.mapFields (·.setIfInBounds 0 f2)) hoi (zBV (cQ f2))
 cases M with
 | text hb=>
  rw[List.getElem?_map] at hx
  obtain⟨e,he,rfl⟩:=Option.map_eq_some_iff.mp hx
  have gz:(pickOrder (w.params.setOrder a ep) es)[i]? = some e:=by simpa using he
  refine wpAny_bind (IG (i:=i) (ep:=ep) ho hd hf hb ?_)
  rw[gz]
  refine wpAny_bind (wpAny_setField hoi hdi (by simp) ?_)
  refine wpAny_bind (wpAny_setField (dh _) (cQ _) (by simp) (wpAny_pure ⟨e.2,rfl,wpAny_pure (hQ _ (Nf dW) ((zAW ..).trans (zAW ..)))⟩))
 | led hb hn=>
  rw[List.getElem?_map] at hx
  obtain⟨e,he,rfl⟩:=Option.map_eq_some_iff.mp hx
  have gz:es[i]? = some e:=by simpa using he
  have aD:t.place.size=es.size:=by
   unfold SetTable.fits at hf
   exact beq_iff_eq.mp (Bool.and_eq_true_iff.mp hf).1
  have bI:i<t.place.size:=by omega
  have hp:t.place[i]? = some t.place[i]:=Array.getElem?_eq_getElem bI
  have ed:t.place.getD i 0=t.place[i]:=by simp[Array.getD,bI]
  refine wpAny_bind (JE (i:=i) (ep:=ep) ho hd ok hf hb hn rfl (zAZ hix) ?_)
  rw[gz,hp]
  refine wpAny_bind (wpAny_setField hoi hdi (by simp) ?_)
  refine wpAny_bind (wpAny_setField (dh _) (cQ _) (by simp) (wpAny_pure ⟨e.2,rfl,wpAny_pure (hQ _ ?_ ((zAW ..).trans (zAW ..)))⟩))
  have e2:rawInt (((if i+1=0 then 0 else t.place.getD (i+1-1) 0+1:Nat)):Int)=rawInt ((t.place[i]+1:Nat):Int):=by rw[if_neg (by omega),Nat.add_sub_cancel,ed]
  show ItAt _ it a (rawInt (((if i+1=0 then 0 else t.place.getD (i+1-1) 0+1:Nat)):Int)) (i+1) es.size ep
  rw[e2]
  exact Nf dW
 | drw T oT c ps hb hT hdT dk=>
  rw[List.getElem?_map] at hx
  obtain⟨p,hp,rfl⟩:=Option.map_eq_some_iff.mp hx
  have dH:p<es.size:=dk p (zAJ hp)
  have ee:es[p]? = some es[p]:=Array.getElem?_eq_getElem dH
  have ed:es.getD p (0,.none)=es[p]:=by simp[Array.getD,dH]
  show wpAny _ _ (seqItems? (.ref T) >>= _) _ _ _
  refine wpAny_bind (wpAny_seqItems hT hdT ?_)
  have ie:((ps.map fun(i:Nat)=>rawInt i).toArray)[i]? = some (rawInt p):=by simp[hp]
  simp only[zB5,ie]
  refine wpAny_bind (Ox (p:=p) ho hd hf ee ?_)
  refine wpAny_bind (wpAny_setField hoi hdi (by simp) (wpAny_pure ⟨_,rfl,wpAny_pure ?_⟩))
  rw[ed] at hQ
  exact hQ _ (Tn dW) (zAW ..)
theorem Rh(hh:A.handled=none)(dW:ItAt s.heap it a (fst es.size) es.size es.size ep)(ho:s.heap.get? a=some o)(hd:o.data= .set es ep t)(ok:FD (Bu w) t)(hf:t.fits es.size=true)(M:OP w a es ep t s.heap fst bF)(hl:bF.length=es.size)(hQ:∀h',Heap.ExtBut it s.heap h'->Q none { s with heap:=h' }):wpAny (model prog w) A (pyNext (.ref it)) Q E s:=by
 obtain⟨oi,hoi,hci,hdi⟩:=id dW
 unfold pyNext
 refine wpAny_bind (wpAny_attempt (wpAny_callSpecial?_slot (name:=Str.ofString "__next__") dW.typeIs slot_setit_next
  (wpAny_call_entry slot_setit_next dW.typeIs CF ?_ (Di _))))
 show wpAny _ _ (fieldsOf (.ref it) >>= _) _ _ s
 refine wpAny_bind (wpAny_fieldsOf hoi hdi ?_)
 show wpAny _ _ (setEntries a >>= _) _ _ s
 refine wpAny_bind (wpAny_setEntries_of ho hd hf ?_)
 show wpAny _ _ (if (((es.size:Nat):Int) != ((es.size:Nat):Int))=true then _ else _) _ _ _
 rw[if_neg (by simp)]
 have cQ:=fun f2:Value=>zBC hdi (·.setIfInBounds 0 f2)
 have dh:=fun f2:Value=>Heap.get?_update_self (Obj.mapFields (·.setIfInBounds 0 f2)) hoi (zBV (cQ f2))
 cases M with
 | text hb=>
  have gz:(pickOrder (w.params.setOrder a ep) es)[es.size]? = none:=by
   rw[List.length_map,zAF] at hl
   simp[hl]
  refine wpAny_bind (IG (i:=es.size) (ep:=ep) ho hd hf hb ?_)
  rw[gz]
  refine wpAny_bind (wpAny_setField hoi hdi (by simp) ?_)
  refine wpAny_bind ?_
  simp only[newExc,newTuple]
  refine wpAny_bind (wpAny_newObj_type ?_ (by size_fits))
  refine wpAny_bind (m:=firstArgMember _ _) (wpAny_of_eq (a:=Value.none) (by first | rfl | (simp only[firstArgMember];rfl)) ?_)
  refine wpAny_newObj_type ?_ (by size_fits)
  simp only[raiseNew]
  refine wpAny_bind (wpAny_handled ?_)
  rw[show A.in1.handled=none from hh]
  refine wpAny_bind (wpAny_pure (wpAny_throw ?_))
  refine wpAny_bind (wpAny_isInstance (T:="StopIteration") (b:=true) ⟨_,Heap.get?_push_size _ rfl,rfl⟩ isSubtype_stop ?_)
  exact wpAny_pure (hQ _ (((zAW ..).extBut.push _).push _))
 | led hb hn=>
  have gz:es[es.size]? = none:=by simp
  refine wpAny_bind (JE (i:=es.size) (ep:=ep) ho hd ok hf hb hn rfl (zAA _) ?_)
  rw[gz]
  refine wpAny_bind (wpAny_setField hoi hdi (by simp) ?_)
  refine wpAny_bind ?_
  simp only[newExc,newTuple]
  refine wpAny_bind (wpAny_newObj_type ?_ (by size_fits))
  refine wpAny_bind (m:=firstArgMember _ _) (wpAny_of_eq (a:=Value.none) (by first | rfl | (simp only[firstArgMember];rfl)) ?_)
  refine wpAny_newObj_type ?_ (by size_fits)
  simp only[raiseNew]
  refine wpAny_bind (wpAny_handled ?_)
  rw[show A.in1.handled=none from hh]
  refine wpAny_bind (wpAny_pure (wpAny_throw ?_))
  refine wpAny_bind (wpAny_isInstance (T:="StopIteration") (b:=true) ⟨_,Heap.get?_push_size _ rfl,rfl⟩ isSubtype_stop ?_)
  exact wpAny_pure (hQ _ (((zAW ..).extBut.push _).push _))
 | drw T oT c ps hb hT hdT dk=>
  rw[List.length_map] at hl
  show wpAny _ _ (seqItems? (.ref T) >>= _) _ _ _
  refine wpAny_bind (wpAny_seqItems hT hdT ?_)
  have ie:((ps.map fun(i:Nat)=>rawInt i).toArray)[es.size]? = none:=by simp[hl]
  simp only[zB5,ie]
  refine wpAny_bind (wpAny_setField hoi hdi (by simp) ?_)
  refine wpAny_bind (wpAny_setField (dh _) (cQ _) (by simp) ?_)
  refine wpAny_bind ?_
  simp only[newExc,newTuple]
  refine wpAny_bind (wpAny_newObj_type ?_ (by size_fits))
  refine wpAny_bind (m:=firstArgMember _ _) (wpAny_of_eq (a:=Value.none) (by first | rfl | (simp only[firstArgMember];rfl)) ?_)
  refine wpAny_newObj_type ?_ (by size_fits)
  simp only[raiseNew]
  refine wpAny_bind (wpAny_handled ?_)
  rw[show A.in1.handled=none from hh]
  refine wpAny_bind (wpAny_pure (wpAny_throw ?_))
  refine wpAny_bind (wpAny_isInstance (T:="StopIteration") (b:=true) ⟨_,Heap.get?_push_size _ rfl,rfl⟩ isSubtype_stop ?_)
  exact wpAny_pure (hQ _ ((((zAW ..).trans (zAW ..)).extBut.push _).push _))
end
end L2
namespace L2
open PySem PySem.Spec PyProof.Rows
theorem C2{α:Type}:∀(l:List α)(i:Nat)(h:i<l.length),(l[i]::l.eraseIdx i).Perm l
 | x::xs,0,_=>zBO _
 | x::xs,i+1,h=>by
  have h':i<xs.length:=zCR h
  exact (List.Perm.swap x xs[i] (xs.eraseIdx i)).trans (List.Perm.cons x (C2 xs i h'))
theorem Ij{α:Type}(next:Nat->Nat):∀(fuel k:Nat)(left:List α)(out:Array α),fuel=left.length->(pickOrder.go next fuel k left out).toList.Perm (out.toList++left)
 | 0,_,left,out,h=>by
  have e:left=[]:=List.length_eq_zero_iff.mp h.symm
  subst e
  unfold pickOrder.go
  simp
 | fuel+1,k,left,out,h=>by
  unfold pickOrder.go
  have hp:0<left.length:=by omega
  have hi:next k%left.length<left.length:=Nat.mod_lt _ hp
  rw[List.getElem?_eq_getElem hi]
  have hl:fuel=(left.eraseIdx (next k%left.length)).length:=by rw[zC1,if_pos hi];omega
  refine (Ij next fuel (k+1) _ _ hl).trans ?_
  rw[Array.toList_push,zA9]
  exact List.Perm.append_left _ (C2 _ _ hi)
theorem Dw{α:Type}(next:Nat->Nat)(xs:Array α):(pickOrder next xs).toList.Perm xs.toList:=by
 unfold pickOrder
 have:=Ij next xs.size 0 xs.toList #[] (zAF).symm
 simpa using this
section
variable {prog:Program}{w:World}{A:Around}{E:Value->Shared->Prop}{s:Shared}{a it T0:Addr}{o oT:Obj}{es:Array (Int×Value)}{ep i:Nat}{t:SetTable}{fst:Nat->Value}{bF:List Value}{ks:List Int}
theorem IZ(hn:n≠0)(h:∀i,i<n->Q i { s with drawn:=s.drawn.bump src }):wpAny M A (choose src n) Q E s:=
 fun Γ p _=>⟨hn,h _ (Nat.mod_lt _ (Nat.pos_of_ne_zero hn))⟩
theorem Me{α:Type}:∀(n:Nat)(xs:List α)(s:Shared)(Q:List α->Shared->Prop),xs.length=n->(∀ys d',ys.Perm xs->Q ys { s with drawn:=d' })->wpAny M A (drawOrder n xs) Q E s:=by
 intro n
 induction n with
 | zero=>
  intro xs s Q h q
  have e:xs=[]:=List.length_eq_zero_iff.mp h
  subst e
  exact wpAny_pure (q [] s.drawn (zBO _))
 | succ n ih=>
  intro xs s Q h q
  cases xs with
  | nil=>exact absurd h (Nat.succ_ne_zero n).symm
  | cons x xs=>
   unfold drawOrder
   refine wpAny_bind (IZ (by simp) fun i hi=>?_)
   rw[List.getElem?_eq_getElem hi]
   have hl:((x::xs).eraseIdx i).length=n:=by rw[zC1,if_pos hi,h];rfl
   refine wpAny_bind (ih _ _ _ hl fun ys d' hp=>?_)
   exact wpAny_pure (q _ d' ((List.Perm.cons _ hp).trans (C2 _ _ hi)))
structure WW(w:World)(s:Shared)(a:Addr)(ks:List Int)(h':Heap)(it T0:Addr)(o oT:Obj)(es:Array (Int×Value))(ep:Nat)(t:SetTable)(fst:Nat->Value)(bF:List Value):Prop where
 lo:s.heap.objs.size<=it
 kk:∀b o,s.heap.get? b=some o->h'.get? b=some o
 at':ItAt h' it a (fst 0) 0 es.size ep
 ho:h'.get? a=some o
 hd:o.data= .set es ep t
 ok:FD (Bu w) t
 hf:t.fits es.size=true
 hT:h'.get? T0=some oT
 ne:T0≠it
 md:∀e8,e8.get? T0=some oT->OP w a es ep t e8 fst bF
 pm:bF.Perm (es.toList.map (·.2))
 eg:EGood es.toList
 ek:es.toList.map A0=ks
 tl:T0=a\/s.heap.objs.size<=T0
theorem RP(hS:SetIt w s.heap a ks)(hQ:∀h' d' it T0 o oT es ep t fst bF,WW w s a ks h' it T0 o oT es ep t fst bF->Q (.ref it) { s with heap:=h',drawn:=d' }):wpAny (model prog w) A (pyIter (.ref a)) Q E s:=by
 obtain⟨o,es,ep,t,ho,bX,hd,hg,hk,nd,hl,ok,hf⟩:=id hS
 have eT:a<s.heap.objs.size:=zAD ho
 refine wpAny_pyIter_slot hS.typeIs PySem.F.slot_set_iter (wpAny_call_entry PySem.F.slot_set_iter hS.typeIs Go ?_ (PySem.F.args_set_iter_1 _))
 show wpAny _ _ (Builtin.Frozenset.sizeOf a >>= _) _ _ s
 refine wpAny_bind ?_
 unfold Builtin.Frozenset.sizeOf
 refine wpAny_bind (wpAny_setEntries_of ho hd hf (wpAny_pure ?_))
 refine wpAny_bind ?_
 unfold setDrawn setsByText
 refine wpAny_bind (wpAny_setState_of ho hd hf ?_)
 dsimp only
 refine wpAny_bind (wpAny_bind (wpAny_askSetting (wpAny_pure (wpAny_pure ?_))))
 show wpAny _ _ (if (!Bu w && (!t.plain && decide (es.size>1)))=true then _ else _) _ _ _
 by_cases hdr:(!Bu w && (!t.plain && decide (es.size>1)))=true
 ·rw[if_pos hdr]
  have hb:Bu w=false:=by
   cases q:Bu w with
   | false=>rfl
   | true=>rw[q] at hdr;cases hdr
  refine wpAny_bind (Me _ _ _ _ (zBQ) fun ps d' hp=>?_)
  refine wpAny_bind (wpAny_newTuple ?_ (by rw[List.length_map,hp.length_eq,zBQ,C4 hk];exact zAZ (zCF hl (by decide))))
  have kk:∀b ob,s.heap.get? b=some ob->(s.heap.push { cls:=.type "tuple",data:=.seq (ps.map fun(i:Nat)=>rawInt i).toArray }).get? b=some ob:=fun b ob e=>Heap.get?_push_of_some _ e
  refine wpAny_bind ?_
  unfold setEpoch
  refine wpAny_bind (wpAny_setState_of (kk _ _ ho) hd hf (wpAny_pure ?_))
  refine wpAny_bind (wpAny_newObj_type (wpAny_pure ⟨_,rfl,"set_iterator",_,⟨_,Heap.get?_push_size _ rfl,rfl⟩,slot_setit_next.lookup,?_⟩))
  refine hQ _ d' _ s.heap.objs.size o _ es ep t (fun _=>.ref s.heap.objs.size) _ ⟨?_,fun b ob e=>Heap.get?_push_of_some _ (kk b ob e),⟨_,Heap.get?_push_size _ rfl,rfl,rfl⟩,Heap.get?_push_of_some _ (kk _ _ ho),hd,ok,hf,Heap.get?_push_of_some _ (Heap.get?_push_size _ rfl),?_,fun e8 e=>.drw _ _ _ ps hb e rfl ?_,?_,hg,hk,.inr (zAA _)⟩
  ·rw[zA6];exact zB9 _
  ·rw[zA6];exact zAH (zC _)
  ·exact fun p hp'=>List.mem_range.mp (hp.mem_iff.mp hp')
  ·refine (hp.map _).trans ?_
   have e:(List.range es.size).map (fun p=>(es.getD p (0,.none)).2)=es.toList.map (·.2):=by
    refine zCX (by simp) fun n h1 h2=>?_
    have hn:n<es.size:=by simpa using h1
    simp[Array.getD,hn]
   rw[e]
 ·rw[if_neg hdr]
  refine wpAny_bind (wpAny_pure ?_)
  refine wpAny_bind ?_
  unfold setEpoch
  refine wpAny_bind (wpAny_setState_of ho hd hf (wpAny_pure ?_))
  refine wpAny_bind (wpAny_newObj_type (wpAny_pure ⟨_,rfl,"set_iterator",_,⟨_,Heap.get?_push_size _ rfl,rfl⟩,slot_setit_next.lookup,?_⟩))
  have kk:∀b ob,s.heap.get? b=some ob->(s.heap.push { cls:=.type "set_iterator",data:=.fields #[rawInt 0,rawInt 0,.ref a,rawInt es.size,rawInt ep] }).get? b=some ob:=fun b ob e=>Heap.get?_push_of_some _ e
  cases hb:Bu w with
  | true=>
   refine hQ _ s.drawn _ a o o es ep t (fun _=>rawInt 0) _ ⟨zAA _,kk,⟨_,Heap.get?_push_size _ rfl,rfl,rfl⟩,kk _ _ ho,hd,ok,hf,kk _ _ ho,zAH eT,fun e8 e=>.text hb,(Dw _ _).map _,hg,hk,.inl rfl⟩
  | false=>
   rw[hb] at hdr
   refine hQ _ s.drawn _ a o o es ep t (fun i=>rawInt (((if i=0 then 0 else t.place.getD (i-1) 0+1:Nat)):Int)) _ ⟨zAA _,kk,⟨_,Heap.get?_push_size _ rfl,rfl,rfl⟩,kk _ _ ho,hd,ok,hf,kk _ _ ho,zAH eT,fun e8 e=>.led hb (by simpa using hdr),zBO _,hg,hk,.inl rfl⟩
theorem Pz(hh:A.handled=none)(I:WW w s0 a ks h0 it T0 o oT es ep t fst bF):Walks prog w A it [it,a,T0] [it] es.size (fun i v=>bF[i]? = some v) (fun i h=>ItAt h it a (fst i) i es.size ep/\h.get? a=some o/\h.get? T0=some oT):=by
 have hl:bF.length=es.size:=by rw[I.pm.length_eq,List.length_map,zAF]
 have na:a≠it:=fun e=>by
  obtain⟨oi,h1,_,h3⟩:=I.at'
  subst e
  rw[I.ho] at h1;cases h1
  rw[I.hd] at h3;cases h3
 refine⟨fun b hb=>by simp at hb;simp[hb],fun i h h' st k=>?_,fun i s Q E hi st hQ=>?_,fun s Q E st hQ=>?_,fun i s Q E st hQ=>?_⟩
 ·obtain⟨⟨oi,h1,r,r2⟩,h2,h3⟩:=st
  exact⟨⟨oi,k it (by simp) _ h1,r,r2⟩,k a (by simp) _ h2,k T0 (by simp) _ h3⟩
 ·obtain⟨h1,h2,h3⟩:=st
  have hx:bF[i]? = some bF[i]:=List.getElem?_eq_getElem (by omega)
  refine N6 h1 h2 I.hd I.ok I.hf (I.md _ h3) hx hl fun h' it' sb=>?_
  exact hQ _ h' s.toks hx ⟨it',(sb.2 a na).trans h2,(sb.2 T0 I.ne).trans h3⟩ fun b ob hb e=>(sb.2 b (by simpa using hb)).trans e
 ·obtain⟨h1,h2,h3⟩:=st
  refine Rh hh h1 h2 I.hd I.ok I.hf (I.md _ h3) hl fun h' eb=>?_
  exact hQ h' s.toks fun b ob hb e=>eb b ob (by simpa using hb) e
 ·obtain⟨h1,h2,h3⟩:=st
  refine wpAny_pyIter_slot h1.typeIs Dg (wpAny_call_entry Dg h1.typeIs Fj ?_ (FR _))
  exact wpAny_pure ⟨_,rfl,"set_iterator",_,h1.typeIs,slot_setit_next.lookup,hQ⟩
end
end L2
namespace L2
open PySem PySem.Spec PyProof.Rows
theorem Rz{es:Array (Int×Value)}{bF:List Value}{ks:List Int}(pm:bF.Perm (es.toList.map (·.2)))(eg:EGood es.toList)(ek:es.toList.map A0=ks):∃ns,IntsAre bF ns/\ns.Perm ks:=by
 let vk:Value->Int:=fun v=>match v with | .int k _=>k | _=>0
 have each:∀v∈bF,∃t,v= .int (vk v) t:=fun v hv=>by
  obtain⟨e,he,rfl⟩:=List.mem_map.mp (pm.mem_iff.mp hv)
  obtain⟨_,t,h2⟩:=eg e he
  exact⟨t,h2⟩
 refine⟨bF.map vk,?_,?_⟩
 ·clear pm
  induction bF with
  | nil=>exact .nil
  | cons v r ih=>
   obtain⟨t,e⟩:=each v List.mem_cons_self
   have:=ih fun x hx=>each x (List.mem_cons_of_mem _ hx)
   rw[zA7]
   generalize vk v=k at e
   subst e
   exact .cons k t this
 ·refine (pm.map vk).trans ?_
  rw[List.map_map,<-ek]
  exact zBO _
section
variable {prog:Program}{w:World}{A:Around}{E:Value->Shared->Prop}{s:Shared}{a:Addr}{ks:List Int}
theorem Qm(hS:SetIt w s.heap a ks)(q:Q false s):wpAny (model prog w) A (Builtin.List.listLengthHint (.ref a)) Q E s:=by
 unfold Builtin.List.listLengthHint
 refine wpAny_bind (wpAny_specialOf hS.typeIs slot_set_len'.lookup ?_)
 have ce:splitId "set.__len__"=some ("set","__len__"):=by decide +kernel
 simp only[ce]
 refine wpAny_bind (wpAny_isInstance hS.typeIs sub_set_self ?_)
 rw[if_neg (by simp)]
 show wpAny _ _ (typeOf (.ref a) >>= _) _ _ _
 refine wpAny_bind (wpAny_typeOf hS.typeIs ?_)
 exact wpAny_pure q
theorem Kp(hh:A.handled=none)(hS:SetIt w s.heap a ks)(hQ:∀(s':Shared) (acc:List Value) (ns:List Int),s.heap.objs.size<=s'.heap.objs.size->(∀b o,s.heap.get? b=some o->s'.heap.get? b=some o)->s'.gens=s.gens->s'.os=s.os->IntsAre acc ns->ns.Perm ks->Q acc s'):
  wpAny (model prog w) A (collect (.ref a)) Q E s:=by
 obtain⟨o0,cR,ep0,t0,ho0,_,_,_,hk0,_,aY,_⟩:=id hS
 have aK:a<s.heap.objs.size:=zAD ho0
 unfold collect
 refine wpAny_bind (wpAny_runValue (codeAny_builtin F.entry_proto_collect ?_))
 rw[zB8 F.plain_proto_collect _]
 show wpAny _ A.in1 (newList [] >>= fun l=>again (.builtin "list.__iadd__" ⟨[l,.ref a],[]⟩)) _ _ s
 refine wpAny_bind (wpAny_newObj_type ?_)
 refine wpAny_pure ⟨plainId_quiet F.plain_list_iadd _,codeAny_builtin F.entry_list_iadd ?_⟩
 rw[zB8 F.plain_list_iadd _]
 have kk1:∀b ob,s.heap.get? b=some ob->(s.heap.push { cls:=.type "list",data:=.seq ([]:List Value).toArray }).get? b=some ob:=fun b ob e=>Heap.get?_push_of_some _ e
 have eI:SetIt w ({ s with heap:=s.heap.push { cls:=.type "list",data:=.seq ([]:List Value).toArray } }:Shared).heap a ks:=hS.keep fun ob e=>kk1 _ _ e
 show wpAny _ A.in1 (Builtin.List.listExtendWith (.ref s.heap.objs.size) (.ref a) (.ref s.heap.objs.size)) _ _ _
 unfold Builtin.List.listExtendWith
 refine wpAny_bind (wpAny_typeOf eI.typeIs ?_)
 have h1:Builtin.List.listSameRef (.ref s.heap.objs.size) (.ref a)=false:=by simp[Builtin.List.listSameRef];exact zBW aK
 have h2:(Value.type "set" == Value.type "list")=false:=by decide
 have h3:(Value.type "set" == Value.type "tuple")=false:=by decide
 simp only[h1,h2,h3,Bool.or_false,zBM,if_false]
 refine wpAny_bind (RP eI fun h' d' it T0 o oT es ep t fst bF I=>?_)
 have bE:SetIt w ({ s with heap:=h',drawn:=d' }:Shared).heap a ks:=eI.keep fun ob e=>I.kk _ _ e
 refine wpAny_bind (wpAny_holding (Qm (s:={ s with heap:=h',drawn:=d' }) bE ?_))
 show wpAny _ A.in1 (rule "list.extend.makes-room" >>= fun _=>Builtin.List.listTouch (.ref s.heap.objs.size) >>= fun _=>
  again (.builtin "list.extend.loop" ⟨[.ref s.heap.objs.size,.ref it,.ref s.heap.objs.size],[]⟩)) _ _ _
 refine wpAny_bind (wpAny_rule ?_)
 have hS₁:h'.get? s.heap.objs.size=some { cls:=.type "list",data:=.seq ([]:List Value).toArray }:=I.kk _ _ (Heap.get?_push_size _ rfl)
 refine wpAny_bind ?_
 show wpAny _ A.in1 (updateSeq s.heap.objs.size (·.push .none) >>= fun _=>updateSeq s.heap.objs.size (·.pop)) _ _ _
 refine wpAny_bind (wpAny_updateSeq hS₁ rfl ?_)
 have hS₂:=Heap.get?_update_self (Obj.mapSeq (·.push Value.none)) hS₁ rfl
 refine wpAny_updateSeq hS₂ rfl ?_
 have hS₃:=Heap.get?_update_self (Obj.mapSeq (·.pop)) hS₂ rfl
 have oth:∀b ob,b≠s.heap.objs.size->h'.get? b=some ob->((h'.update s.heap.objs.size (Obj.mapSeq (·.push Value.none))).update s.heap.objs.size (Obj.mapSeq (·.pop))).get? b=some ob:=
  fun b ob hb e=>(Heap.get?_update_other _ _ (zBD hb)).trans ((Heap.get?_update_other _ _ (zBD hb)).trans e)
 have esz:({ s with heap:=s.heap.push { cls:=.type "list",data:=.seq ([]:List Value).toArray } }:Shared).heap.objs.size=s.heap.objs.size+1:=zA6 _ _
 have nit:it≠s.heap.objs.size:=zBW (by have:=I.lo;rw[esz] at this;exact this)
 have nT:T0≠s.heap.objs.size:=by
  rcases I.tl with z | z
  ·rw[z];exact zAH aK
  ·exact zBW (by rw[esz] at z;exact z)
 have hSf:s.heap.objs.size∉[it,a,T0]:=by
  simp only[zAS,zAT,or_false,not_or]
  exact⟨zBD nit,zBW aK,zBD nT⟩
 have W:=(Pz (prog:=prog) (A:=A.in1) (by simpa using hh) I).toS
 have hn:es.size<=sizeLine:=by rw[C4 I.ek];exact zAZ (zCF aY (by decide))
 obtain⟨oi,hoi,ri,ri2⟩:=I.at'
 refine wpAny_pure ⟨plainId_quiet F.plain_extend_loop _,codeAny_extend_loopS W hn _ hSf _ es.size 0 _ _ _ rfl (zA4 _) ⟨⟨oi,oth _ _ nit hoi,ri,ri2⟩,oth _ _ (zAH aK) I.ho,oth _ _ nT I.hT⟩ hS₃ (ItemsOf.nil _) fun s' gB c' hm aX am=>?_⟩
 show wpAny _ A (load s.heap.objs.size >>= _) _ _ s'
 refine wpAny_bind (wpAny_load aX ?_)
 have hl:bF.length=es.size:=by rw[I.pm.length_eq,List.length_map,zAF]
 have eo:gB.toList=bF:=by
  refine zCX (by rw[zAF,am.1,hl]) fun n h1 h2=>?_
  have hn1:n<gB.size:=by simpa using h1
  have:bF[n]? = some gB[n]:=am.2 n _ (Array.getElem?_eq_getElem hn1)
  rw[List.getElem?_eq_getElem h2] at this
  have:=zAE this
  simpa using this.symm
 obtain⟨ns,hi,hp⟩:=Rz I.pm I.eg I.ek
 refine wpAny_pure (hQ s' gB.toList ns (zAZ (zAD aX)) (fun b ob e=>?_) hm.gens hm.os (by rw[eo];exact hi) hp)
 have hb:b<s.heap.objs.size:=zAD e
 refine hm.heap b ob ?_ (oth b ob (zAH hb) (I.kk _ _ (kk1 _ _ e)))
 simp only[zAS,zAT,or_false,not_or]
 exact⟨zAH hb,zAH (zCF hb (by have:=I.lo;rw[esz] at this;exact this))⟩
theorem Lq(hh:A.handled=none)(hS:SetIt w s.heap a ks)(h64:ks.length<64)(h:∀(s':Shared) (l:Addr) (out:Array Value) (n:Nat) (ns:List Int),(∀b o,s.heap.get? b=some o->s'.heap.get? b=some o)->s'.gens=s.gens->s'.os=s.os->s.heap.objs.size<=l->s'.heap.get? l=some (seqObj "list" out n)->IntsAre out.toList ns->ns.Perm ks->ns.Pairwise (· <= ·)->Q (.ref l) s'):
  wpAny (model prog w) A (call (.builtin "sorted") [.ref a]) Q E s:=by
 refine Calls.call_function_entry kind_sorted plain_sorted entry_sorted (args_sorted1 _) ?_
 unfold Builtin.«sorted»
 refine wpAny_bind (m:=checkCount "sorted" 1 1 _) (wpAny_pure ?_)
 refine wpAny_bind (Kp (by simpa using hh) hS fun s1 vs ns1 lo kk eg eo hi hp=>?_)
 have aj:vs.length<64:=by rw[IntsAre.length hi,hp.length_eq];exact h64
 refine wpAny_bind (wpAny_newList ?_ (zAZ (zCF aj (by decide))))
 have hoL:(s1.heap.push (seqObj "list" vs.toArray 0)).get? s1.heap.objs.size=some (seqObj "list" vs.toArray 0):=Heap.get?_push_size _ rfl
 show wpAny _ _ _ _ _ { s1 with heap:=s1.heap.push (seqObj "list" vs.toArray 0) }
 refine wpAny_bind (wpAny_holding (wpAny_call_entry slot_list_sort ⟨_,hoL,rfl⟩ entry_list_sort (list_sort_tree hoL hi aj fun out ns' a1 a2 a3=>⟨_,rfl,?_⟩) (args_list_sort _)))
 refine wpAny_pure ⟨_,rfl,?_⟩
 obtain⟨e1,dh⟩:∃e1,((s1.heap.push (seqObj "list" vs.toArray 0)).update s1.heap.objs.size (Obj.mapSeq fun _=>#[])).get? s1.heap.objs.size=some (seqObj "list" #[] e1):=⟨_,get?_update_seq hoL (fun _=>#[])⟩
 have ho2:((((s1.heap.push (seqObj "list" vs.toArray 0)).update s1.heap.objs.size (Obj.mapSeq fun _=>#[])).push (seqObj "tuple" vs.toArray 0)).push (seqObj "list" #[] 0)).get? s1.heap.objs.size=some (seqObj "list" #[] e1):=Heap.get?_push_of_some _ (Heap.get?_push_of_some _ dh)
 refine h _ s1.heap.objs.size out _ ns' (fun b ob e=>?_) eg eo lo (get?_update_seq ho2 (fun _=>out)) a1 (a2.trans hp) a3
 have e2:=kk b ob e
 have nb:b≠s1.heap.objs.size:=zAH (zAD e2)
 exact (Heap.get?_update_other _ _ (zBD nb)).trans (Heap.get?_push_of_some _ (Heap.get?_push_of_some _ ((Heap.get?_update_other _ _ (zBD nb)).trans (Heap.get?_push_of_some _ e2))))
end
end L2
namespace L2
open PySem PySem.Spec PyProof.Rows
abbrev Bo(w:World)(a:Addr)(S:Int->Bool)(n:Nat):HO:=.ext fun h=>∃ks,Cc (SetIs w h a ks) (∀k,S k=true↔k∈ks) (ks.length<=n)
theorem DN(x:SetIs w h a ks)(m:∀k,S k=true↔k∈ks)(hl:ks.length<=n):ObjOk P w H h a (Bo w a S n):=
 ⟨⟨ks,x,m,hl⟩,x.it.at_,fun h1 h2 ⟨ks,y,r,l⟩ k=>⟨ks,y.keep k,r,l⟩⟩
section
variable {X:Cx}
theorem Inv.setO(I:Inv X pins σ H s)(h:H a=some (Bo X.w a S n)):∃ks,Cc (SetIs X.w s.heap a ks) (∀k,S k=true↔k∈ks) (ks.length<=n):=(I.hok _ _ h).1
theorem O0:B6 X (.type "set") (fun xs H Q=>xs=[]/\∀a,H a=none->Q (.ref a) (upd H a (Bo X.w a (fun _=>false) 0))):=by
 intro pins s σ H xs us Q I r h
 obtain⟨rfl,q⟩:=h
 cases r
 refine Qr (w:=X.w) ⟨.ref s.heap.objs.size,_,I.laid (t':=s.toks) (o:=Bo X.w s.heap.objs.size (fun _=>false) 0) (fun b ob e=>Heap.get?_push_of_some _ e) (zAA _) ?_,rfl,q _ (I.hok.fresh (zAA _))⟩
 exact DN set0_is (fun k=>by simp) (zAA _)
abbrev N5(w:World)(a:Addr)(S:Int->Bool)(n:Nat):HO:=.ext fun h=>∃ks,Cc (SetIt w h a ks) (∀k,S k=true↔k∈ks) (ks.length<=n)
theorem SO(x:SetIt w h a ks)(m:∀k,S k=true↔k∈ks)(hl:ks.length<=n):ObjOk P w H h a (N5 w a S n):=
 ⟨⟨ks,x,m,hl⟩,x.at_,fun h1 h2 ⟨ks,y,r,l⟩ k=>⟨ks,y.keep k,r,l⟩⟩
theorem Inv.setR(I:Inv X pins σ H s)(h:H a=some (N5 X.w a S n)):∃ks,Cc (SetIt X.w s.heap a ks) (∀k,S k=true↔k∈ks) (ks.length<=n):=(I.hok _ _ h).1
theorem FG(hc:X.calm=true){pins:List (Addr×Obj)}{ks:List Int}{S:Int->Bool}{n:Nat}(I:Inv X pins σ H s)(hS:SetIt X.w s.heap a ks)(hm:∀k,S k=true↔k∈ks)(hl:ks.length<=n)(hn:n<64)(q:∀(l:Addr) (ns:List Int),H l=none->ns.Pairwise (· < ·)->(∀k,k∈ns↔S k=true)->Q (.ref l) (upd H l (.lst (ns.map V.int)))):wpAny (model X.prog X.w) X.A (call (.builtin "sorted") [.ref a]) (EP X pins σ Q) X.xe s:=by
 have ndk:ks.Nodup:=hS.nd
 refine Lq (w:=X.w) (I.ok.hd hc) hS (by omega) fun s' l out c ns kk eg eo lo bf hi hp hs=>?_
 have nd:ns.Nodup:=hp.nodup_iff.mpr ndk
 have lt:ns.Pairwise (· < ·):=(List.Pairwise.and hs nd).imp fun {x y} h=>by have h1:=h.1;have h2:=h.2;omega
 have dX:H l=none:=I.hok.fresh lo
 have fg:∀b u,H b=some u->upd H l (.lst (ns.map V.int)) b=some u:=fun b u e=>by rw[Al (Ah e dX)];exact e
 have len:(ns.map V.int).length<=sizeLine:=by
  rw[List.length_map,hp.length_eq]
  exact zAZ (zBL hl (zCF hn (by decide)))
 have un:Un (Gn X.stack) [] H (upd H l (.lst (ns.map V.int))) s.heap s'.heap:=
  ⟨fun b o e _ _ _=>kk b o e,fun b o e _ _ _=>⟨o.slots,kk b o e⟩,fun b o e n _=>by rw[Al (zAH (zAL (zAD e) lo))];exact n,fun b o e _=>⟨o,kk b o e⟩,fun b xs e=>fg b _ e,fun b o u e=>fg b _ e,fun b ps e=>⟨#[],by rw[fg b _ e];simp⟩⟩
 have hok:HOk X.prog X.w (upd H l (.lst (ns.map V.int))) s'.heap:=fun b u e=>by
  by_cases z:b=l
  ·subst z
   rw[upd_same] at e
   cases e
   exact⟨len,out.toList,c,Fk hi,by rw[bf,Array.toArray_toList]⟩
  ·rw[Al z] at e
   exact (I.hok b u e).stay (fun c v _ e=>kk c v e) (fun c e=>fg c _ e) fun c xs e=>fg c _ e
 exact⟨.ref l,_,I.call' (ch:=[]) eo un hok (by rw[eg];exact I.bare) (fun b hb=>absurd hb (by simp)),rfl,q l ns dX lt fun k=>by rw[hp.mem_iff];exact (hm k).symm⟩
inductive Dx(w:World)(xs:List V)(H:Hp)(Q:VK):Prop where
 | mk (a S n) (_:xs=[.ref a]) (_:H a=some (Bo w a S n)) (_:n<64) (_:∀(l:Addr)(ns:List Int),H l=none->ns.Pairwise (· < ·)->(∀k,k∈ns↔S k=true)->Q (.ref l) (upd H l (.lst (ns.map V.int)))):Dx w xs H Q
theorem Db(hc:X.calm=true):B6 X (.builtin "sorted") (Dx X.w):=by
 intro pins s σ H xs us Q I r h
 obtain⟨a,S,n,rfl,ha,hn,q⟩:=h
 obtain⟨u,rfl,ru⟩:=Df r
 cases ru
 obtain⟨ks,hS,hm,hl⟩:=I.setO ha
 exact FG hc I hS.it hm hl hn q
inductive Du(w:World)(xs:List V)(H:Hp)(Q:VK):Prop where
 | mk (a S n) (_:xs=[.ref a]) (_:H a=some (N5 w a S n)) (_:n<64) (_:∀(l:Addr)(ns:List Int),H l=none->ns.Pairwise (· < ·)->(∀k,k∈ns↔S k=true)->Q (.ref l) (upd H l (.lst (ns.map V.int)))):Du w xs H Q
theorem Jf(hc:X.calm=true):B6 X (.builtin "sorted") (Du X.w):=by
 intro pins s σ H xs us Q I r h
 obtain⟨a,S,n,rfl,ha,hn,q⟩:=h
 obtain⟨u,rfl,ru⟩:=Df r
 cases ru
 obtain⟨ks,hS,hm,hl⟩:=I.setR ha
 exact FG hc I hS hm hl hn q
variable {o e:Expr}{es:List Expr}{to:TE}{t:TA}{aG aC:Pos}
inductive M1(X:Cx)(Q:VK)(a:Addr)(xs:List V)(H2:Hp):Prop where
 | mk (k S2 n2) (_:xs=[.int k]) (_:H2 a=some (Bo X.w a S2 n2)) (_:n2+1<2000) (_:Q .non (upd H2 a (Bo X.w a (fun j=>S2 j || decide (j=k)) (n2+1)))):M1 X Q a xs H2
inductive RI(X:Cx)(t:TA)(σ:St)(Q:VK)(x:V)(H1:Hp):Prop where
 | mk (a S n) (_:x= .ref a) (_:H1 a=some (Bo X.w a S n)) (_:t σ H1 (M1 X Q a)):RI X t σ Q x H1
def WN(X:Cx)(to:TE)(t:TA):TE:=fun σ H Q=>to σ H (RI X t σ Q)
theorem TV(ho:PE X o to)(hp:PA X (e::es) t)(bN:attributeBase o "add" X.env (eval o X.env)=eval o X.env:=by rfl)(hfew:((backTo aC (starEach (e::es) X.env)).all (fun x=>!x.1) && (backToKw aC (keywordEach [] X.env)).all (fun x=>x.1.isSome)
   && decide ((e::es).length+([]:List Keyword).length+(if ([]:List Keyword).isEmpty then 0 else 1)<30))=true:=by rfl)(da:(aG.endLine == aC.line)=true:=by rfl)(hs:starEach (e::es) X.env=(false,eval e X.env)::starEach es X.env:=by rfl)(dE:(backTo aC (starEach es X.env)).any (·.1)=false:=by rfl):
  PE X (.Call (.Attribute o "add" aG) (e::es) [] aC) (WN X to t):=by
 intro pins s σ H Q I h
 refine wpAny_Call_method_late bN hfew da rfl (AO (ho pins s σ H _ I h) fun v s1 ⟨x,H1,I1,r1,a,S,n,ex,ha,q1⟩=>?_)
 subst ex
 cases r1
 obtain⟨ks,hS,hm,hl⟩:=I1.setO ha
 refine⟨"set","set.add",PySem.F.plainAttrs_set,PySem.F.slot_set_add,PySem.F.type_set_add,hS.typeIs,fun b eb=>hS.noDict b eb,?_⟩
 have hA:=hp aC pins s1 σ H1 _ I1 q1
 rw[hs] at hA ⊢
 refine zCP (by show (false || (backTo aC (starEach es X.env)).any (·.1))=false;rw[dE]<;>rfl) (Calls.evalArgs_plain ?_)
 refine AO hA fun us s2 ⟨vs,H2,I2,r2,k,S2,n2,ek,aH,dQ,q2⟩=>?_
 subst ek
 obtain⟨u,rfl,ru⟩:=Df r2
 obtain⟨tk,rfl⟩:=ru
 obtain⟨ks2,bE,aS,aF⟩:=I2.setO aH
 refine K1 (w:=X.w) bE (by omega) fun h' a7 cp aX bR bf=>?_
 have mu:We (H2 a):=by rw[aH];exact True.intro
 refine⟨.non,_,I2.write (x:=a) (e:=a) (t':=s2.toks+1) mu (.inl rfl) (fun b ob nb eb=>(cp.2 b nb).trans eb) (aX.it.at_) (DN aX (fun j=>?_) (by omega)),rfl,q2⟩
 rw[bR j,zBR,decide_eq_true_eq,aS j]
end
end L2
namespace L2
open PySem PySem.Spec PyProof.Rows
section
variable {X:Cx}{N:List Str}{scope:Scope}{cl:List (Str×Addr)}{js:List (Option Nat)}{pins:List (Addr×Obj)}{σ:St}{H:Hp}{s:Shared}{fp:List Addr}
end
section
variable {X:Cx}{N:List Str}{scope:Scope}{cl:List (Str×Addr)}{js:List (Option Nat)}
variable {ar tg ae:Expr}{aq:List Expr}{rest:List Comprehension}{pos:Pos}{wi:TI}{g:CC->TG}{tb:CC->Addr->TS}
variable {aO af:Expr}{ax:List Expr}{db:CC->TI}{g1:CC->TG}{tc gr:CC->TT}{te:CC->TE}
end
end L2
namespace L2
open PySem PySem.Spec PyProof.Rows
theorem NP:∀{xs:List V}{us:List Value},xs.length=us.length->(∀(i:Nat)(x:V)(u:Value),xs[i]? = some x->us[i]? = some u->RelV x u)->Vals xs us
 | [],[],_,_=>.nil
 | [],_::_,h,_=>by cases h
 | _::_,[],h,_=>by cases h
 | x::xs,u::us,h,f=>.cons (f 0 x u rfl rfl) (NP (Nat.succ.inj h) fun i y v hy hv=>f (i+1) y v (by simpa using hy) (by simpa using hv))
theorem Pa{α:Type}(bs:List α)(d:α):(List.range bs.length).map (fun i=>bs.getD i d)=bs:=by
 refine zCX (by simp) fun n h1 h2=>?_
 simp[List.getD,h2]
theorem Om(bs:List Bool):(List.range bs.length).all (fun i=>bs.getD i false)=bs.all id:=by
 have:=Pa bs false
 conv=>rhs;rw[<-this]
 rw[List.all_map]
 rfl
theorem P4{bs:List Bool}{its:List Value}(rv:Vals (bs.map V.bl) its):TruthOf prog w A (fun i v=>its.toArray[i]? = some v) (fun i=>bs.getD i false):=by
 intro i v s Q E hv q
 have hJ:its[i]? = some v:=by simpa using hv
 have hi:i<bs.length:=by
  have h1:=(List.getElem?_eq_some_iff.mp hJ).1
  have:=rv.length
  rw[List.length_map] at this
  omega
 have hx:(bs.map V.bl)[i]? = some (.bl bs[i]):=by rw[List.getElem?_map,List.getElem?_eq_getElem hi];rfl
 obtain⟨u,hu,ru⟩:=rv.get hx
 rw[hJ] at hu
 cases hu
 cases (show v=Value.bool bs[i] from ru)
 refine wpAny_truthy_bool ?_
 have e:bs.getD i false=bs[i]:=by simp[List.getD,hi]
 rw[<-e]
 exact q
section
variable {X:Cx}
inductive Fv(xs:List V)(H:Hp)(Q:VK):Prop where
 | mk (j:Int) (_:xs=[.int j]) (_:∀r,H r=none->Q (.ref r) (upd H r (.rng 0 j))):Fv xs H Q
theorem HH:B6 X (.type "range") (Fv):=by
 intro pins s σ H xs us Q I r h
 obtain⟨j,rfl,q⟩:=h
 obtain⟨u,rfl,ru⟩:=Df r
 obtain⟨t,rfl⟩:=ru
 refine call_range_1 ⟨.ref s.heap.objs.size,_,I.laid (o:=.rng 0 j) (fun b ob e=>Heap.get?_push_of_some _ e) (zAA _) ?_,rfl,q _ (I.hok.fresh (zAA _))⟩
 exact⟨_,_,_,Heap.get?_push_size _ rfl⟩
def B4(n:Nat):List Int:=(List.range n).map fun(k:Nat)=>(k:Int)
inductive EY(xs:List V)(H:Hp)(Q:VK):Prop where
 | mk (r:Addr) (n:Nat) (_:xs=[.ref r]) (_:H r=some (.rng 0 (n:Int))) (_:n<=1000) (_:∀l,H l=none->Q (.ref l) (upd H l (.lst ((B4 n).map V.int)))):EY xs H Q
theorem GI(hc:X.calm=true):B6 X (.type "list") (EY):=by
 intro pins s σ H xs us Q I r h
 obtain⟨rr,n,rfl,hr,hn,q⟩:=h
 obtain⟨u,rfl,ru⟩:=Df r
 cases ru
 obtain⟨t,u,v,ho⟩:=(show ObjOk X.prog X.w H s.heap rr (.rng 0 (n:Int)) from I.hok rr _ hr)
 have ay:Builtin.Range.rangeSize 0 (n:Int) 1=n:=by rw[rangeSize_one];split<;>omega
 refine call_list_range (n:=n) (I.ok.hd hc) ho (small_one (by omega) (by omega) (by omega) (by omega)) ay (by omega) fun h' tk acc c kk hl hi=>?_
 have lo:s.heap.objs.size<=s.heap.objs.size:=zAA _
 have hv:Vals ((B4 n).map V.int) acc.toList:=by
  have hal:acc.toList.length=n:=by rw[zAF,hi.1]
  refine NP (by unfold B4;simp[hal]) fun i x u hx hu=>?_
  have cw:i<n:=by
   have:=(List.getElem?_eq_some_iff.mp hu).1
   omega
  obtain⟨t,e⟩:=hi.2 i u (by simpa using hu)
  have ex:x= .int (i:Int):=by
   unfold B4 at hx
   rw[List.map_map,List.getElem?_map,List.getElem?_range cw] at hx
   exact (zAE hx).symm
  subst ex
  refine⟨t,?_⟩
  rw[e]
  congr 1
  omega
 refine⟨.ref s.heap.objs.size,_,I.laid (t':=tk) (o:=.lst ((B4 n).map V.int)) kk lo ?_,rfl,q _ (I.hok.fresh lo)⟩
 refine⟨?_,acc.toList,c,hv,by rw[hl,Array.toArray_toList]⟩
 unfold B4
 rw[List.length_map,List.length_map,zBQ]
 exact zAC hn (by decide)
inductive FO(K:PySem.W.Frag)(xs:List V)(H:Hp)(Q:VK):Prop where
 | mk (l:Addr) (bs:List Bool) (_:xs=[.ref l]) (_:SqL K H l (bs.map V.bl)) (_:Q (.bl (bs.all id)) H):FO K xs H Q
theorem N7(hc:X.calm=true):B6 X (.builtin "all") (FO X.K):=by
 intro pins s σ H xs us Q I r h
 obtain⟨l,bs,rfl,hq,q⟩:=h
 obtain⟨u,rfl,ru⟩:=Df r
 cases ru
 obtain⟨its,rv,pl,hz⟩:=I.list hq
 have aK:l<s.heap.objs.size:=let ⟨o,ho,_⟩:=pl.isList;zAD ho
 have aj:its.length=bs.length:=by rw[<-rv.length,List.length_map]
 refine call_all_walk (wpAny_pyIter_list pl.isList ⟨s.heap.objs.size,_,_,_,_,_,fun i=>bs.getD i false,rfl,Walks.list (by have:=I.ok.hd hc;simpa using this) s.heap.objs.size l (zAH aK) its.toArray,⟨⟨_,Heap.get?_push_size _ rfl,rfl,rfl⟩,pl.isList.push _⟩,P4 rv,fun h' tk kk=>?_⟩)
 have e:(List.range its.toArray.size).all (fun i=>bs.getD i false)=bs.all id:=by rw[zAG,aj,Om]
 rw[e]
 exact⟨.bl _,H,I.kept (t':=tk) fun b ob eb=>kk b ob (by simp only[zB2];exact zAH (zAD eb)) (Heap.get?_push_of_some _ eb),rfl,q⟩
end
end L2
namespace L2
open PySem PySem.Spec PyProof.Rows
section
variable {prog:Program}{w:World}{A:Around}{R:Result->Shared->Prop}{I:Addr}{fp wr:List Addr}{G:Array GenState->Array GenState->Prop}{n:Nat}{P:Nat->Value->Prop}{St:Nat->Shared->Prop}
theorem Pi(W:WalksS prog w A.in1 I fp wr G n P St)(S:Addr)(hSf:S∉fp)(val:Nat->Int)(hval:∀i v,P i v->∃t,v= .int (val i) t)(hb:n<1000):
  ∀(k i:Nat)(s:Shared)(ks:List Int),n-i=k->i<=n->St i s->SetIs w s.heap S ks->(∀j,j∈ks↔∃m,m<i/\val m=j)->ks.length<=i->
   (∀s' a7,Moved (S::wr) G s s'->SetIs w s'.heap S a7->(∀j,j∈a7↔∃m,m<n/\val m=j)->a7.length<=n->R (.ok (.ret .none)) s')->
   codeAny (model prog w) A (.builtin "set.update.loop" ⟨[.ref S,.ref I],[]⟩) R s:=by
 have hSw:S∉wr:=fun h=>hSf (W.sub _ h)
 have aw:∀b∈wr,b∈S::wr:=fun b hb=>List.mem_cons_of_mem _ hb
 intro k
 induction k with
 | zero=>
  intro i s ks hk hi cC hS fQ aY hR
  have cw:i=n:=by omega
  subst cw
  refine codeAny_builtin F.entry_set_update_loop ?_
  rw[zB8 zCO _]
  show wpAny _ A.in1 (pyNext (.ref I) >>= _) _ _ s
  refine wpAny_bind (W.done s _ _ cC fun s' hm=>?_)
  show wpAny _ A.in1 (ret Value.none) _ _ s'
  exact wpAny_pure (hR s' ks (hm.mono aw) (hS.keep fun o e=>hm.heap S _ hSw e) fQ aY)
 | succ k ih=>
  intro i s ks hk hi cC hS fQ aY hR
  have aK:i<n:=by omega
  refine codeAny_builtin F.entry_set_update_loop ?_
  rw[zB8 zCO _]
  show wpAny _ A.in1 (pyNext (.ref I) >>= _) _ _ s
  refine wpAny_bind (W.item i s _ _ aK cC fun v s' hP hst' hm=>?_)
  obtain⟨t,rfl⟩:=hval i v hP
  have aX:SetIs w s'.heap S ks:=hS.keep fun o e=>hm.heap S _ hSw e
  show wpAny _ A.in1 (holding [Value.int (val i) t] (setAdd S (.int (val i) t)) >>= _) _ _ s'
  refine wpAny_bind (wpAny_holding ?_)
  unfold setAdd
  refine wpAny_holding ?_
  refine wpAny_bind ((intKind prog w).pyHash (k:=val i) (intKind_is _ _ _ _) ?_)
  refine FX (s:={ s' with toks:=s'.toks+1 }) aX (by omega) fun h' a7 cp bE aS aF=>?_
  refine wpAny_pure ⟨plainId_quiet zCO _,ih (i+1) _ a7 (by omega) aK (W.frame _ s' _ _ hst' (zB9 _) fun b hb o e=>?_) bE (fun j=>?_) (by omega) fun s'' ks'' hm'' hS'' hmm gC=>?_⟩
  ·rw[cp.2 b (fun h:b=S=>hSf (by rw[<-h];exact hb))];exact e
  ·rw[aS j,fQ j]
   constructor
   ·rintro (⟨m,h1,h2⟩|h)
    ·exact⟨m,zBE h1,h2⟩
    ·exact⟨i,zC _,h.symm⟩
   ·rintro⟨m,h1,h2⟩
    rcases Nat.lt_succ_iff_lt_or_eq.mp h1 with z | z
    ·exact .inl ⟨m,z,h2⟩
    ·subst z;exact .inr h2.symm
  ·refine hR s'' ks'' (Moved.trans W.gtrans ((hm.mono aw).then_heap (zB9 _) fun b o hb e=>?_) hm'') hS'' hmm gC
   rw[cp.2 b (fun h:b=S=>hb (by rw[h];exact List.mem_cons_self))];exact e
end
section
variable {prog:Program}{w:World}{A:Around}{E:Value->Shared->Prop}{s:Shared}
set_option maxHeartbeats 3200000 in
theorem N4(hh:A.handled=none)(hl:s.heap.IsList l ag)(hi:IntsAre ag.toList ns)(hb:ag.size<1000)(h:∀(h':Heap) (tk:Nat) (ks:List Int),SetIs w h' s.heap.objs.size ks->(∀j,j∈ks↔j∈ns)->ks.length<=ns.length->
   (∀b o,s.heap.get? b=some o->h'.get? b=some o)->Q (.ref s.heap.objs.size) { s with heap:=h',toks:=tk }):
  wpAny (model prog w) A (call (.type "set") [.ref l]) Q E s:=by
 have aj:ns.length=ag.size:=by rw[<-zAF];exact (IntsAre.length hi).symm
 obtain⟨c,tl,hmro⟩:=F.called_set.mro
 have hmade:=F.called_set.made
 have aw:=F.called_set.sub
 refine wpAny_call (codeAny_of_tree ?_)
 show wpAny _ _ (callAny (.type "set") _) _ _ _
 refine wpAny_pure ⟨zCM _ (by decide +kernel),codeAny_builtin F.entry_type_call ?_⟩
 rw[Around.under_plain (weight_type_call_type "set" [.ref l] []) rfl]
 have h1:=F.called_set.notType
 have h2:=F.called_set.canCreate
 have hct:=F.typeCall_set_1 (.ref l)
 repeat (any_goals (first | assumption | wp_step))
 refine codeAny_mono (JN (E:=E) (.inr ⟨.ref l,rfl⟩) (Q₁:=fun obj s₁=>obj= .ref s.heap.objs.size/\s₁={ s with heap:=s.heap.push (Bg w) }) ⟨rfl,rfl⟩) fun r s₁ hr=>?_
 cases r with
 | error e=>exact hr
 | ok fl=>
  cases fl with
  | ret obj=>
   obtain⟨rfl,rfl⟩:=hr
   have hS:(s.heap.push (Bg w)).get? s.heap.objs.size=some (Bg w):=Heap.get?_push_size _ rfl
   have hT:Shared.TypeIs { s with heap:=s.heap.push (Bg w) } (.ref s.heap.objs.size) "set":=⟨_,hS,rfl⟩
   have hli:=F.called_set.init.lookup
   have fM:=F.called_set.init.bind (.ref s.heap.objs.size)
   repeat (any_goals (first | assumption | wp_step))
   refine codeAny_mono (codeAny_call_builtin (R:=wants (fun r s₂=>r= .none/\D0 fun h' tk ks=>Fs (s₂={ s with heap:=h',toks:=tk }) (SetIs w h' s.heap.objs.size ks) (∀j,j∈ks↔j∈ns) (ks.length<=ns.length) (∀b o,s.heap.get? b=some o->h'.get? b=some o)) E) F.called_set.init.plain F.entry_set_init (check_set_init_1 hT ?_)) fun r₂ s₂ hr₂=>?_
   ·obtain⟨ol,eJ,bO,nl,gD⟩:=hl
    obtain⟨ocls,odict,odata,oslots⟩:=ol
    simp only at bO gD
    subst bO;subst gD
    have hol':(s.heap.push (Bg w)).get? l=some { cls:=.type "list",dict:=odict,data:=.seq ag nl,slots:=oslots }:=Heap.get?_push_of_some _ eJ
    have hsls:=F.sub_list_set
    have hslf:=F.sub_list_frozenset
    have aE:(Value.type "list" == Value.type "dict")=false:=by decide
    have bc:(s.heap.push (Bg w)).IsList l ag:=⟨_,hol',rfl,nl,rfl⟩
    unfold Builtin.«set.__init__» noKeywords Builtin.Frozenset.updateFrom
    generalize hPI:pyIter=PI
    wp_walk
    subst hPI
    refine wpAny_pyIter_list bc ?_
    refine wpAny_bind (wpAny_runValue ?_)
    have hlS:l<s.heap.objs.size:=zAD eJ
    have hh3:A.in1.in1.in1.handled=none:=by simp[hh]
    have hneI:l≠(s.heap.push (Bg w)).objs.size:=by
     rw[zA6];exact zAH (zBE hlS)
    have hSf:s.heap.objs.size∉[(s.heap.push (Bg w)).objs.size,l]:=by
     rw[zA6];simp only[zAS,zB2,zAT,or_false,not_or]
     exact⟨zAH (zC _),zBW hlS⟩
    have hval:∀(i:Nat)(v:Value),ag[i]? = some v->∃t,v= .int ((fun i=>ns.getD i 0) i) t:=fun i v hv=>
     IntsAre.int_at hi i v (by rw[Array.getElem?_toList];exact hv)
    refine Pi ((Walks.list hh3 _ l hneI ag).toS) s.heap.objs.size
     hSf (fun i=>ns.getD i 0) hval hb (ag.size-0) 0 _ [] (by omega) (zA4 _)
     ⟨⟨_,Heap.get?_push_size _ rfl,rfl,rfl⟩,(bc.push _)⟩ ?hS0 (fun j=>by simp) (zAA _) ?hR
    case hS0=>exact set0_is.keep fun o e=>Heap.get?_push_of_some _ e
    case hR=>
     intro s' ks hm aX hmm gC
     obtain⟨h',g',d',tk',os'⟩:=s'
     have eg:g'=s.gens:=hm.gens
     have ed:d'=s.drawn:=hm.drawn
     have eo:os'=s.os:=hm.os
     subst eg;subst ed;subst eo
     show wpAny _ _ _ _ _ _
     refine wpAny_pure ?_
     show wpAny _ _ (ret Value.none) _ _ _
     refine wpAny_pure ⟨rfl,h',tk',ks,rfl,aX,fun j=>?_,by omega,fun b o e=>?_⟩
     ·rw[hmm j,<-aj,List.mem_iff_getElem]
      constructor
      ·rintro⟨m,hm,e⟩
       exact⟨m,hm,by rw[<-e,List.getD_eq_getElem?_getD,List.getElem?_eq_getElem hm];rfl⟩
      ·rintro⟨m,hm,e⟩
       exact⟨m,hm,by rw[<-e,List.getD_eq_getElem?_getD,List.getElem?_eq_getElem hm];rfl⟩
     ·have hb:=zAD e
      have bo:b≠s.heap.objs.size:=zAH hb
      have fP:b≠(s.heap.push (Bg w)).objs.size:=by
       rw[zA6];exact zAH (zBE hb)
      exact hm.heap b o (by simp only[zAS,zB2,zAT,or_false,not_or];exact⟨bo,fP⟩) (Heap.get?_push_of_some _ (Heap.get?_push_of_some _ e))
   ·cases r₂ with
    | error e=>exact hr₂
    | ok fl₂=>
     cases fl₂ with
     | ret r=>
      obtain⟨rfl,h',tk,ks,rfl,aX,bR,bf,hk'⟩:=hr₂
      repeat (any_goals (first | assumption | wp_step))
      exact h _ _ _ aX bR bf hk'
     | _=>exact hr₂.elim
  | _=>exact hr.elim
end
end L2
namespace L2
open PySem PySem.Spec PyProof.Rows
section
variable {prog:Program}{w:World}{A:Around}{E:Value->Shared->Prop}{s:Shared}{a:Addr}{ks:List Int}{k:Int}{tk:Tok}
theorem GC(hS:SetIt w s.heap a ks)(h:∀r:Option Nat,r.isSome=decide (k∈ks)->(∀i,r=some i->ks[i]? = some k)->Q r s):
  wpAny (model prog w) A (setFind a (.int k tk) (hashInt k)) Q E s:=by
 obtain⟨o,es,ep,t,ho,bX,hd,hg,hk,nd,hl,ok,hf⟩:=hS
 have ay:=C4 hk
 have eY:(intKind prog w).is k (.int k tk)=true:=intKind_is _ _ _ _
 unfold setFind setFindIn
 refine wpAny_bind (wpAny_setState_of ho hd hf ?_)
 dsimp only
 rw[byScan_of (knd:=intKind prog w) rfl (by rw[ay];exact Ct hl) hg.elems]
 simp only[↓reduceIte]
 refine wpAny_bind (wpAny_rule ?_)
 refine wpAny_bind (wpAny_setScan_of (knd:=intKind prog w) eY ho hd hf hg.elems ?_)
 cases hr:List.findIdx? (fun e=>(intKind prog w).is k e.2) es.toList with
 | none=>
  dsimp only
  have au:k∉ks:=fun z=>by
   rw[<-hk] at z
   obtain⟨e,he,rfl⟩:=List.mem_map.mp z
   have:=List.findIdx?_eq_none_iff.mp hr e he
   rw[(hg.is he).mpr rfl] at this
   cases this
  exact wpAny_pure (h none (by rw[decide_eq_false au];rfl) fun i e=>by cases e)
 | some j=>
  dsimp only
  obtain⟨hj,hpj,_⟩:=List.findIdx?_eq_some_iff_getElem.mp hr
  have e1:A0 es.toList[j]=k:=((hg.is (zA8 hj)).mp hpj).symm
  have au:k∈ks:=by
   rw[<-hk,<-e1]
   exact zC7 (zA8 hj)
  refine wpAny_pure (h (some (0+j)) (by rw[decide_eq_true au];rfl) fun i e=>?_)
  have e':j=i:=by injection e with e;omega
  subst e'
  rw[<-hk,List.getElem?_map,List.getElem?_eq_getElem hj,<-e1]
  rfl
theorem Iz(hl:∀b∈l,∃kb,SetIt w s.heap b kb)(h:Q true s):wpAny (model prog w) A (setsQuiet l) Q E s:=by
 unfold setsQuiet
 refine wpAny_bind ?_
 refine wpAny_forIn_list _ (fun rest r s'=>r.1=none/\s'=s/\∀b∈rest,∃kb,SetIt w s.heap b kb) _ ?_ ?_ _ _ ⟨rfl,rfl,hl⟩
 ·rintro b rest r s' ⟨hr,rfl,hall⟩
  obtain⟨kb,o,es,ep,t,ho,bX,hd,hg,hk,nd,hl,ok,hf⟩:=hall b List.mem_cons_self
  unfold setEntries
  refine wpAny_bind (wpAny_bind (wpAny_setState_of ho hd hf (wpAny_pure ?_)))
  refine wpAny_bind ?_
  refine wpAny_forIn_array' _ (fun ig r' s''=>r'.1=none/\s''=s'/\EGood ig) _ ?_ ?_ _ _ ⟨rfl,rfl,hg⟩
  ·rintro⟨hh,x⟩ ig r' s' ⟨dY,rfl,g⟩
   obtain⟨_,t',e⟩:=g _ List.mem_cons_self
   have e':x= .int (A0 (hh,x)) t':=e
   rw[e']
   exact wpAny_pure ⟨rfl,rfl,fun y hy=>g y (List.mem_cons_of_mem _ hy)⟩
  ·rintro⟨r1,r2⟩ s' ⟨dY,rfl,_⟩
   simp only at dY
   subst dY
   exact wpAny_pure ⟨rfl,rfl,fun c hc=>hall c (List.mem_cons_of_mem _ hc)⟩
 ·rintro⟨r1,r2⟩ s' ⟨hr,rfl,_⟩
  simp only at hr
  subst hr
  exact wpAny_pure h
theorem Lc(ho:s.heap.get? a=some o)(hd:o.data= .set es ep t)(ok:FD (Bu w) t)(hf:t.fits es.size=true)(hc:(Bu w || (t.led && t.plain) || decide (es.size<=1))=true)(h:∀aB:Array (Int×Value),aB.toList.Perm es.toList->Q aB s):wpAny (model prog w) A (setWalk a) Q E s:=by
 unfold setWalk setsByText
 refine wpAny_bind (wpAny_setState_of ho hd hf ?_)
 dsimp only
 refine wpAny_bind (wpAny_bind (wpAny_askSetting (wpAny_pure ?_)))
 show wpAny _ _ (if Bu w=true then _ else _) _ _ _
 cases hb:Bu w with
 | true=>
  rw[if_pos rfl]
  refine wpAny_bind (wpAny_askSetting ?_)
  exact wpAny_pure (h _ (Dw _ _))
 | false=>
  rw[if_neg zAB]
  have hn:(!t.plain && decide (es.size>1))=false:=by
   rw[hb,Bool.false_or] at hc
   cases hp:t.plain with
   | true=>rfl
   | false=>
    rw[hp,Bool.and_false,Bool.false_or] at hc
    have:=of_decide_eq_true hc
    simp
    omega
  show wpAny _ _ (if (!t.plain && decide (es.size>1))=true then _ else _) _ _ _
  rw[hn,if_neg zAB]
  refine wpAny_bind ?_
  show wpAny _ _ (if (!t.led && decide (es.size>1))=true then _ else _) _ _ _
  rw[ok.led,hb,if_neg (by simp)]
  exact wpAny_pure (wpAny_pure (h es (zBO _)))
theorem HL{kf:List Int}(hS:SetIt w s.heap a ks)(hF:SetIs w s.heap f kf)(hO:∀b∈bS,∃kb,SetIt w s.heap b kb)(h:∀(aB:Array (Int×Value)) (h':Heap),EGood aB.toList->(aB.toList.map A0).Perm ks->Heap.SameBut f s.heap h'->SetIs w h' f kf->Q aB { s with heap:=h' }):wpAny (model prog w) A (setWalkUnseen a bS (some f)) Q E s:=by
 obtain⟨o,es,ep,t,ho,bX,hd,hg,hk,nd,hl,ok,hf⟩:=id hS
 have stay:∀aB:Array (Int×Value),aB.toList.Perm es.toList->Q aB s:=fun aB hp=>by
  have:=h aB s.heap (fun e he=>hg e (hp.mem_iff.mp he)) (by rw[<-hk];exact hp.map A0) (zBF _ _) hF
  have e:s={ s with heap:=s.heap }:=by cases s;rfl
  rw[e];exact this
 unfold setWalkUnseen setsByText
 refine wpAny_bind (wpAny_setState_of ho hd hf ?_)
 dsimp only
 refine wpAny_bind (wpAny_bind (wpAny_askSetting (wpAny_pure ?_)))
 show wpAny _ _ (if (Bu w || (t.led && t.plain) || decide (es.size<=1))=true then _ else _) _ _ _
 split
 ·rename_i hc
  exact Lc ho hd ok hf hc stay
 ·rename_i hc
  have hb:Bu w=false:=by
   cases q:Bu w with
   | true=>rw[q] at hc;exact absurd rfl hc
   | false=>rfl
  refine wpAny_bind (Iz (fun b hb=>?_) ?_)
  ·rcases List.mem_cons.mp hb with e | e
   ·subst e;exact⟨_,hS⟩
   ·exact hO b e
  simp only[zCJ,zBM,if_false]
  refine wpAny_bind (wpAny_rule ?_)
  obtain⟨of,ef,epf,tf,hof,hexf,gm,hgf,hkf,ndf,fj,okf,hff⟩:=id hF
  refine wpAny_bind (wpAny_setState_of hof gm hff ?_)
  dsimp only
  split
  ·refine wpAny_bind (wpAny_storeSet_of hof gm ?_ ?_)
   rotate_left
   exact (fits_of_scanBound (by rw[C4 hkf];exact Ct fj))
   have:=(D7 (w:=w) (t':={ tf with led:=tf.led && t.led,plain:=tf.plain && t.plain }) hof hexf gm hgf (by rw[hkf];exact ndf) (by rw[C4 hkf];exact fj) ⟨okf.dum,by show (tf.led && t.led)=_;rw[okf.led,ok.led,Bool.and_self],okf.up⟩ hff).2
   rw[hkf] at this
   exact wpAny_pure (h es _ hg (by rw[hk]) (zAW _ _ _) this)
  ·exact wpAny_pure ((stay es (zBO _)))
theorem O8(hS:SetIt w s.heap a ks)(hO:∀b∈bS,∃kb,SetIt w s.heap b kb)(h:∀(aB:Array (Int×Value)),EGood aB.toList->(aB.toList.map A0).Perm ks->Q aB s):wpAny (model prog w) A (setWalkUnseen a bS none) Q E s:=by
 obtain⟨o,es,ep,t,ho,bX,hd,hg,hk,nd,hl,ok,hf⟩:=id hS
 have stay:∀aB:Array (Int×Value),aB.toList.Perm es.toList->Q aB s:=fun aB hp=>
  h aB (fun e he=>hg e (hp.mem_iff.mp he)) (by rw[<-hk];exact hp.map A0)
 unfold setWalkUnseen setsByText
 refine wpAny_bind (wpAny_setState_of ho hd hf ?_)
 dsimp only
 refine wpAny_bind (wpAny_bind (wpAny_askSetting (wpAny_pure ?_)))
 show wpAny _ _ (if (Bu w || (t.led && t.plain) || decide (es.size<=1))=true then _ else _) _ _ _
 split
 ·rename_i hc
  exact Lc ho hd ok hf hc stay
 ·refine wpAny_bind (Iz (fun b hb=>?_) ?_)
  ·rcases List.mem_cons.mp hb with e | e
   ·subst e;exact⟨_,hS⟩
   ·exact hO b e
  simp only[zCJ,zBM,if_false]
  refine wpAny_bind (wpAny_rule ?_)
  exact wpAny_pure (stay es (zBO _))
end
end L2
namespace L2
open PySem PySem.Spec PyProof.Rows
namespace F
theorem entry_set_and:entryFor table "set.__and__"=some Builtin.«frozenset.__and__»:=entryFor_alias (id':="frozenset.__and__") (by kernel_rfl) rfl (by decide +kernel) (by kernel_rfl)
theorem entry_set_sub:entryFor table "set.__sub__"=some Builtin.«frozenset.__sub__»:=entryFor_alias (id':="frozenset.__sub__") (by kernel_rfl) rfl (by decide +kernel) (by kernel_rfl)
end F
section
variable {prog:Program}{w:World}{A:Around}{E:Value->Shared->Prop}{s:Shared}{a b r:Addr}{ka kb:List Int}{k:Int}{tk:Tok}
theorem DD(hS:SetIt w s.heap a ka)(h:Q ka.length s):wpAny (model prog w) A (Builtin.Frozenset.sizeOf a) Q E s:=by
 obtain⟨o,es,ep,t,ho,bX,hd,hg,hk,nd,hl,ok,hf⟩:=hS
 unfold Builtin.Frozenset.sizeOf setEntries
 refine wpAny_bind (wpAny_bind (wpAny_setState_of ho hd hf (wpAny_pure ?_)))
 rw[C4 hk]
 exact wpAny_pure h
theorem C9(hS:SetIt w s.heap a ka)(h:Q true s):wpAny (model prog w) A (Builtin.Frozenset.isAnySet (.ref a)) Q E s:=by
 unfold Builtin.Frozenset.isAnySet
 show wpAny _ _ (isInstance (.ref a) (.type "set") >>= _) _ _ _
 refine wpAny_bind (wpAny_isInstance hS.typeIs sub_set_self ?_)
 exact wpAny_pure h
theorem DF(hS:SetIt w s.heap a ka)(h:Q (.type "set") s):wpAny (model prog w) A (Builtin.Frozenset.baseOf a) Q E s:=by
 unfold Builtin.Frozenset.baseOf
 refine wpAny_bind (wpAny_isInstance hS.typeIs sub_set_self ?_)
 exact wpAny_pure h
theorem F7(h:Q (.ref s.heap.objs.size) { s with heap:=s.heap.push (Bg w) }):wpAny (model prog w) A (newSet (.type "set")) Q E s:=by
 unfold newSet setsByText
 refine wpAny_bind (wpAny_bind (wpAny_askSetting (wpAny_pure ?_)))
 simp only[newObj]
 refine wpAny_bind (wpAny_alloc (wpAny_pure ?_))
 exact h
theorem EA(ho:s.heap.get? a=some o)(hd:o.data= .set es ep t)(hf:t.fits es.size=true)(h:Q ep s):wpAny (model prog w) A (setEpoch a) Q E s:=by
 unfold setEpoch
 exact wpAny_bind (wpAny_setState_of ho hd hf (wpAny_pure h))
theorem CY{id:String}(ho:s.heap.get? a=some o)(hd:o.data= .set es ep t)(hf:t.fits es.size=true)(h:Q () s):wpAny (model prog w) A (Builtin.Frozenset.unchanged id a ep) Q E s:=by
 unfold Builtin.Frozenset.unchanged
 refine wpAny_bind (EA ho hd hf ?_)
 rw[if_neg (by simp)]
 exact wpAny_pure h
theorem IH{body:(Int×Value)->PUnit->Sem (ForInStep PUnit)}{p:Int->Bool}{R:PUnit->Shared->Prop}{es:Array (Int×Value)}{kr:List Int}(c6:∀(k:Int) (tk:Tok) (h1:Heap) (k1:List Int) (Q':ForInStep PUnit->Shared->Prop),Heap.SameBut r s.heap h1->SetIs w h1 r k1->k1.length+1<2000->
   (∀h' k2,Heap.SameBut r h1 h'->SetIs w h' r k2->(∀j,j∈k2↔j∈k1\/(p k=true/\j=k))->k2.length<=k1.length+1->Q' (.yield ⟨⟩) { s with heap:=h' })->
   wpAny (model prog w) A (body (hashInt k,.int k tk) ⟨⟩) Q' E { s with heap:=h1 })(hg:EGood es.toList)(hR:SetIs w s.heap r kr)(hn:kr.length+es.size<1999)(h:∀h' k2,Heap.SameBut r s.heap h'->SetIs w h' r k2->(∀j,j∈k2↔j∈kr\/(p j=true/\j∈es.toList.map A0))->k2.length<=kr.length+es.size->R ⟨⟩ { s with heap:=h' }):
  wpAny (model prog w) A (forIn es PUnit.unit body) R E s:=by
 refine wpAny_forIn_array' _ (fun rest _ s'=>BF fun h1 k1=>TB (s'={ s with heap:=h1 }) (Heap.SameBut r s.heap h1) (SetIs w h1 r k1) (EGood rest) (k1.length+rest.length<=kr.length+es.size) (∀j,(j∈k1\/(p j=true/\j∈rest.map A0))↔j∈kr\/(p j=true/\j∈es.toList.map A0))) _ ?_ ?_ _ _ ⟨s.heap,kr,by cases s;rfl,zBF _ _,hR,hg,by rw[zAF];exact zAA _,fun j=>Iff.rfl⟩
 ·rintro⟨hh,x⟩ rest u s' ⟨h1,k1,rfl,sb,hS,g,hl,hm⟩
  obtain⟨e1,t',e2⟩:=g _ List.mem_cons_self
  generalize hk:A0 (hh,x)=k at e1 e2
  dsimp only at e1 e2
  subst e1;subst e2
  rw[zAQ] at hl
  refine c6 k t' h1 k1 _ sb hS (by omega) fun h' k2 fR bE aS aF=>?_
  refine⟨h',k2,rfl,sb.trans fR,bE,fun y hy=>g y (List.mem_cons_of_mem _ hy),by omega,fun j=>?_⟩
  rw[<-hm j,aS j,zA7,zAS]
  constructor
  ·rintro ((z | ⟨z1,z2⟩) | ⟨z1,z2⟩)
   ·exact .inl z
   ·exact .inr ⟨by rw[z2];exact z1,.inl (by rw[hk];exact z2)⟩
   ·exact .inr ⟨z1,.inr z2⟩
  ·rintro (z | ⟨z1,z2 | z2⟩)
   ·exact .inl (.inl z)
   ·exact .inl (.inr ⟨by rw[<-hk,<-z2];exact z1,by rw[<-hk];exact z2⟩)
   ·exact .inr ⟨z1,z2⟩
 ·rintro u s' ⟨h1,k1,rfl,sb,hS,g,hl,hm⟩
  refine h h1 k1 sb hS (fun j=>?_) (by simpa using hl)
  rw[<-hm j]
  simp
theorem DM{h:Heap}{o:Obj}(e:h.get? a=some o):a≠h.objs.size:=zAH (zAD e)
theorem SS(ha:SetIt w s.heap a ka)(hb:SetIt w s.heap b kb)(hab:a≠b)(hl:ka.length+kb.length<1990)(h:∀h' k2,SetIs w h' s.heap.objs.size k2->(∀j,j∈k2↔j∈ka/\j∈kb)->k2.length<=ka.length+kb.length->(∀c o,s.heap.get? c=some o->h'.get? c=some o)->Q (.ref s.heap.objs.size) { s with heap:=h' }):
  wpAny (model prog w) A (binaryOp .BitAnd (.ref a) (.ref b)) Q E s:=by
 refine wpAny_binaryOp_same ha.typeIs hb.typeIs PySem.F.fills_set_and PySem.F.slot_set_and ?_
 refine wpAny_call_entry PySem.F.slot_set_and ha.typeIs F.entry_set_and ?_ (PySem.F.args_set_and_2 _ _)
 show wpAny _ _ (do
  let (self,ai) <-Builtin.Frozenset.slot1 "__and__" ⟨[.ref a,.ref b],[]⟩
  let (l,r):=if false=true then (ai,self) else (self,ai)
  if !(<-Builtin.Frozenset.isAnySet l <&&> Builtin.Frozenset.isAnySet r) then rule s!"frozenset.{"__and__"}.declined";return <-ret .notImplemented
  ret (<-Builtin.Frozenset.intersection s!"frozenset.{"__and__"}" (<-Builtin.Frozenset.addrOf l) r)) _ _ _
 generalize s!"frozenset.{"__and__"}"=id0
 generalize s!"frozenset.{"__and__"}.declined"=id1
 show wpAny _ _ ((Builtin.Frozenset.isAnySet (.ref a) <&&> Builtin.Frozenset.isAnySet (.ref b)) >>= _) _ _ _
 refine wpAny_bind ?_
 show wpAny _ _ (Builtin.Frozenset.isAnySet (.ref a) >>= _) _ _ _
 refine wpAny_bind (C9 ha ?_)
 show wpAny _ _ (Builtin.Frozenset.isAnySet (.ref b)) _ _ _
 refine C9 hb ?_
 simp only[zCJ,zBM,if_false]
 show wpAny _ _ (Builtin.Frozenset.intersection id0 a (.ref b) >>= _) _ _ _
 refine wpAny_bind ?_
 unfold Builtin.Frozenset.intersection
 rw[if_neg (by intro z;have:=beq_iff_eq.mp z;injection this with this;exact hab this.symm)]
 refine wpAny_bind (DF ha (wpAny_bind (F7 ?_)))
 show wpAny _ _ (holding _ _ >>= _) _ _ _
 refine wpAny_bind (wpAny_holding ?_)
 have kk:∀c o,s.heap.get? c=some o->(s.heap.push (Bg w)).get? c=some o:=fun c o e=>Heap.get?_push_of_some _ e
 have dZ:=ha.keep (h':=s.heap.push (Bg w)) fun o e=>kk _ _ e
 have bo:=hb.keep (h':=s.heap.push (Bg w)) fun o e=>kk _ _ e
 have a8:SetIs w (s.heap.push (Bg w)) s.heap.objs.size []:=set0_is
 have na:a≠s.heap.objs.size:=let ⟨_,ho⟩:=ha.at_;DM ho
 have nb:b≠s.heap.objs.size:=let ⟨_,ho⟩:=hb.at_;DM ho
 generalize er:s.heap.objs.size=r at *
 refine wpAny_bind (C9 bo ?_)
 simp only[if_true]
 show wpAny _ _ (Builtin.Frozenset.sizeOf b >>= _) _ _ _
 refine wpAny_bind (DD bo ?_)
 refine wpAny_bind (DD dZ ?_)
 have hp:TK fun pa pw kpa kpw=>U9 ((if kb.length>ka.length then (b,a) else (a,b))=(pa,pw)) (SetIt w (s.heap.push (Bg w)) pa kpa) (SetIt w (s.heap.push (Bg w)) pw kpw) (pa≠r) (pw≠r) (∀j,j∈kpa/\j∈kpw↔j∈ka/\j∈kb) (kpw.length<=ka.length+kb.length):=by
  by_cases z:kb.length>ka.length
  ·exact⟨b,a,kb,ka,if_pos z,bo,dZ,nb,na,fun j=>and_comm,Nat.le_add_right _ _⟩
  ·exact⟨a,b,ka,kb,if_neg z,dZ,bo,na,nb,fun j=>Iff.rfl,Nat.le_add_left _ _⟩
 obtain⟨pa,pw,kpa,kpw,e,hpa,hpw,npa,npw,hj,hlw⟩:=hp
 rw[e]
 dsimp only
 obtain⟨o,es,ep,t,ho,bX,hd,hg,hk,nd,fN,ok,hf⟩:=id hpw
 refine wpAny_bind (EA ho hd hf ?_)
 refine wpAny_bind (HL hpw a8 (fun c hc=>?_) fun aB h' hg' hp' sb dY=>?_)
 ·simp only[zAS,zAT,or_false] at hc
  rcases hc with rfl | rfl
  ·exact⟨_,hpa⟩
  ·exact⟨_,a8.it⟩
 have ay:aB.size=kpw.length:=by rw[<-hp'.length_eq,List.length_map,zAF]
 refine wpAny_bind (wpAny_mono (IH (r:=r) (p:=fun j=>decide (j∈kpa)) (R:=fun _ s'=>BF fun h' k2=>Fs (s'={ s with heap:=h' }) (Heap.SameBut r (s.heap.push (Bg w)) h') (SetIs w h' r k2) (∀j,j∈k2↔j∈ka/\j∈kb) (k2.length<=ka.length+kb.length)) ?_ hg' dY (by rw[ay];simp;omega) fun h2 k2 fR bE aS aF=>⟨h2,k2,rfl,sb.trans fR,bE,fun j=>?_,by rw[ay] at aF;simp at aF;omega⟩) ?_ fun _ _ h'=>h')
 ·intro k tk h1 k1 Q' eU eI bc hQ
  have hpa1:SetIt w h1 pa kpa:=hpa.keep fun o e=>by rw[eU.2 _ npa,sb.2 _ npa];exact e
  refine wpAny_bind ?_
  refine wpAny_holding ?_
  refine wpAny_bind (GC (s:={ s with heap:=h1 }) hpa1 fun rr ii _=>?_)
  have aJ:∀h' k2,Heap.SameBut r h1 h'->SetIs w h' r k2->(∀j,j∈k2↔j∈k1\/(decide (k∈kpa)=true/\j=k))->k2.length<=k1.length+1->wpAny (model prog w) A.in1 (Builtin.Frozenset.unchanged id0 pw ep >>= fun _=>pure (ForInStep.yield PUnit.unit)) Q' E { s with heap:=h' }:=fun h' k2 eK aX bR bf=>by
   have eA:h'.get? pw=some o:=by rw[eK.2 _ npw,eU.2 _ npw,sb.2 _ npw];exact ho
   exact wpAny_bind (CY (s:={ s with heap:=h' }) eA hd hf (wpAny_pure (hQ h' k2 eK aX bR bf)))
  by_cases au:k∈kpa
  ·rw[ii,decide_eq_true au,if_pos rfl]
   refine wpAny_bind (FX (s:={ s with heap:=h1 }) eI bc fun h' k2 eK aX bR bf=>wpAny_pure ?_)
   exact aJ h' k2 eK aX (fun j=>by rw[bR j,decide_eq_true au];simp) bf
  ·rw[ii,decide_eq_false au,if_neg zAB]
   refine wpAny_pure ?_
   exact aJ h1 k1 (zBF _ _) eI (fun j=>by rw[decide_eq_false au];simp) (zB9 _)
 ·rw[aS j]
  rw[hp'.mem_iff,decide_eq_true_eq,<-hj j]
  simp
 ·rintro u s' ⟨h',k2,rfl,eK,aX,bR,bf⟩
  refine wpAny_pure ?_
  refine wpAny_pure ?_
  refine wpAny_pure ⟨_,rfl,by simp,?_⟩
  exact h h' k2 aX bR bf fun c o e=>by
   have:c≠r:=by rw[<-er];exact DM e
   rw[eK.2 _ this];exact kk c o e
end
end L2
namespace L2
open PySem PySem.Spec PyProof.Rows
theorem K6{f g:Nat->Option Nat}:∀l:List Nat,(∀x∈l,g x=f x)->l.filterMap g=l.filterMap f
 | [],_=>rfl
 | x::l,h=>by
  have ih:=K6 l fun y hy=>h y (List.mem_cons_of_mem _ hy)
  have e:=h x List.mem_cons_self
  cases q:f x with
  | none=>rw[zBH (e.trans q),zBH q,ih]
  | some v=>rw[zBA (e.trans q),zBA q,ih]
theorem RU{f g:Nat->Option Nat}{j k:Nat}(hf:f j=none)(hg:g j=some k)(aE:∀x,x≠j->g x=f x):∀l:List Nat,l.Nodup->j∈l->(l.filterMap g).Perm (k::l.filterMap f)
 | [],_,h=>by cases h
 | x::l,nd,h=>by
  have ij:=List.nodup_cons.mp nd
  by_cases e:x=j
  ·subst e
   have:l.filterMap g=l.filterMap f:=K6 l fun y hy=>aE y fun z=>ij.1 (z ▸ hy)
   rw[zBA hg,zBH hf,this]
  ·have hj:j∈l:=by
    rcases List.mem_cons.mp h with z | z
    ·exact absurd z.symm e
    ·exact z
   have ih:=RU hf hg aE l ij.2 hj
   have ex:=aE x e
   cases q:f x with
   | none=>rw[zBH (ex.trans q),zBH q];exact ih
   | some v=>rw[zBA (ex.trans q),zBA q];exact (ih.cons v).trans (List.Perm.swap _ _ _)
theorem Sb{f:Nat->Option Nat}:∀l:List Nat,(∀x∈l,f x≠none)->(l.filterMap f).length=l.length
 | [],_=>rfl
 | x::l,h=>by
  cases q:f x with
  | none=>exact absurd q (h x List.mem_cons_self)
  | some v=>rw[zBA q,zAQ,zAQ,Sb l fun y hy=>h y (List.mem_cons_of_mem _ hy)]
abbrev Ot(n:Nat)(owner:Array (Option Nat)):List Nat:=(List.range n).filterMap fun j=>owner.getD j none
def Wf(mask:Nat):Nat->Nat×Nat->Nat×Nat
 | 0,x=>x
 | t+1,x=>Wf mask t (SetTable.leap mask x.1 x.2)
theorem ID{mask:Nat}{owner:Array (Option Nat)}{j:Nat}:∀(fuel i p:Nat),SetTable.layClean.free mask owner fuel i p=some j->owner.getD j (some 0)=none
 | 0,_,_,h=>by cases h
 | fuel+1,i,p,h=>by
  unfold SetTable.layClean.free at h
  split at h
  ·rename_i k e
   injection h with h
   subst h
   exact Option.isNone_iff_eq_none.mp (List.find?_some (p:=fun k=>(owner.getD (i+k) (some 0)).isNone) e)
  ·exact ID fuel _ _ h
theorem HW{mask:Nat}{owner:Array (Option Nat)}:∀(fuel i p t:Nat),t<fuel->owner.getD (Wf mask t (i,p)).1 (some 0)=none->∃j,SetTable.layClean.free mask owner fuel i p=some j
 | 0,_,_,t,h,_=>absurd h (zBX _)
 | fuel+1,i,p,t,h,e=>by
  unfold SetTable.layClean.free
  split
  ·exact⟨_,rfl⟩
  ·rename_i q
   cases t with
   | zero=>
    have:=List.find?_eq_none.mp q 0 (List.mem_range.mpr (by unfold SetTable.runEnd;split<;>omega))
    rw[Nat.add_zero] at this
    have e':owner.getD i (some 0)=none:=e
    rw[e'] at this
    exact absurd rfl this
   | succ t=>exact HW fuel _ _ t (zCR h) e
def M9(mask:Nat):Nat->Nat->Nat->Nat
 | 0,_,acc=>acc
 | n+1,i,acc=>M9 mask n ((i*5+1)%(mask+1)) (acc ||| 1 <<< i)
theorem Kh{mask j:Nat}:∀(n i acc:Nat),(M9 mask n i acc).testBit j=true->acc.testBit j=true\/∃t,t<n/\(Wf mask t (i,0)).1=j
 | 0,_,_,h=>.inl h
 | n+1,i,acc,h=>by
  rcases Kh n _ _ h with z | ⟨t,h1,h2⟩
  ·rw[Nat.testBit_or,zBR] at z
   rcases z with z | z
   ·exact .inl z
   ·rw[Nat.shiftLeft_eq,Nat.one_mul,Nat.testBit_two_pow] at z
    exact .inr ⟨0,zBG _,of_decide_eq_true z⟩
  ·refine .inr ⟨t+1,Nat.succ_lt_succ h1,?_⟩
   show (Wf mask t (SetTable.leap mask i 0)).1=j
   unfold SetTable.leap
   rw[Nat.zero_div,Nat.add_zero]
   exact h2
def Sq(mask:Nat):Prop:=∀i j,i<=mask->j<=mask->∃t,t<mask+1/\(Wf mask t (i,0)).1=j
theorem GO(h:(List.range (mask+1)).all (fun i=>M9 mask (mask+1) i 0 == 2^(mask+1)-1)=true):Sq mask:=fun i j hi hj=>by
 have:=List.all_eq_true.mp h i (List.mem_range.mpr (Nat.lt_succ_of_le hi))
 have e:=beq_iff_eq.mp this
 have:(M9 mask (mask+1) i 0).testBit j=true:=by
  rw[e,Nat.testBit_two_pow_sub_one]
  exact decide_eq_true (Nat.lt_succ_of_le hj)
 rcases Kh _ _ _ this with z | z
 ·rw[Nat.zero_testBit] at z;cases z
 ·exact z
theorem XC:Sq 7:=GO (by decide +kernel)
theorem W7:Sq 15:=GO (by decide +kernel)
theorem Wg:Sq 31:=GO (by decide +kernel)
theorem Xb:Sq 63:=GO (by decide +kernel)
theorem VH:Sq 127:=GO (by decide +kernel)
theorem getD_none{owner:Array (Option Nat)}{j:Nat}:owner.getD j (some 0)=none->j<owner.size/\owner.getD j none=none:=fun h=>by
 by_cases z:j<owner.size
 ·refine⟨z,?_⟩
  simp[Array.getD,z] at h ⊢
  exact h
 ·simp[Array.getD,z] at h
theorem Qv{mask:Nat}(gE:Sq mask):∀(hs:List Int)(owner:Array (Option Nat))(k:Nat),owner.size=mask+1->(Ot (mask+1) owner).Perm (List.range k)->k+hs.length<=mask+1->(∀h∈hs,SetTable.bits h<32)->
  ∃dI:Array (Option Nat),Cc (hs.foldl (fun(acc:Option (Array (Option Nat)×Nat)) h=>(do
   let (owner,k) <-acc
   let j <-SetTable.layClean.free mask owner (SetTable.turns mask) (SetTable.bits h%(mask+1)) (SetTable.bits h)
   pure (owner.setIfInBounds j (some k),k+1))) (some (owner,k))=some (dI,k+hs.length)) (dI.size=mask+1) ((Ot (mask+1) dI).Perm (List.range (k+hs.length)))
 | [],owner,k,hz,hp,_,_=>⟨owner,rfl,hz,hp⟩
 | h::hs,owner,k,hz,hp,hl,hb=>by
  rw[zAQ] at hl
  have bX:∃j,j<=mask/\owner.getD j none=none:=Classical.byContradiction fun z=>by
   have:=Sb (f:=fun j=>owner.getD j none) (List.range (mask+1)) fun x hx e=>z ⟨x,Nat.le_of_lt_succ (List.mem_range.mp hx),e⟩
   have e2:=hp.length_eq
   rw[zBQ] at this e2
   change (Ot (mask+1) owner).length=_ at this
   omega
  obtain⟨j0,hj0,e0⟩:=bX
  have e0':owner.getD j0 (some 0)=none:=by
   have:j0<owner.size:=by omega
   simp[Array.getD,this] at e0 ⊢
   exact e0
  have hb0:=hb h List.mem_cons_self
  have hd:SetTable.bits h / 32=0:=Nat.div_eq_of_lt hb0
  obtain⟨t,ht,et⟩:=gE ((SetTable.bits h%(mask+1)*5+1)%(mask+1)) j0 (Nat.le_of_lt_succ (Nat.mod_lt _ (zBG _))) hj0
  obtain⟨j,ej⟩:=HW (mask:=mask) (owner:=owner) (SetTable.turns mask) (SetTable.bits h%(mask+1)) (SetTable.bits h) (t+1) (by unfold SetTable.turns;omega) (by
   show owner.getD (Wf mask t (SetTable.leap mask _ _)).1 (some 0)=none
   unfold SetTable.leap
   rw[hd,Nat.add_zero,et]
   exact e0')
  obtain⟨jl,jn⟩:=getD_none (ID _ _ _ ej)
  have hp':(Ot (mask+1) (owner.setIfInBounds j (some k))).Perm (List.range (k+1)):=by
   refine (RU (f:=fun j=>owner.getD j none) (g:=fun x=>(owner.setIfInBounds j (some k)).getD x none) (j:=j) (k:=k) jn ?_ (fun x hx=>?_) _ List.nodup_range (List.mem_range.mpr (by omega))).trans ?_
   ·simp[Array.getD,jl]
   ·simp only[Array.getD_eq_getD_getElem?]
    rw[Array.getElem?_setIfInBounds_ne (zBD hx)]
   ·refine (hp.cons k).trans ?_
    rw[zBS (n:=k)]
    exact List.perm_append_comm (l₁:=[k])
  obtain⟨o',h1,h2,h3⟩:=Qv gE hs (owner.setIfInBounds j (some k)) (k+1) (by rw[Array.size_setIfInBounds];exact hz) hp' (by omega) fun y hy=>hb y (List.mem_cons_of_mem _ hy)
  have ek:k+1+hs.length=k+(hs.length+1):=by omega
  refine⟨o',?_,h2,?_⟩
  ·rw[List.foldl_cons]
   show List.foldl _ (SetTable.layClean.free mask owner (SetTable.turns mask) (SetTable.bits h%(mask+1)) (SetTable.bits h) >>= _) hs=_
   rw[ej,zAQ,<-ek]
   exact h1
  ·rw[zAQ,<-ek];exact h3
theorem MJ(gE:Sq mask)(finger moves:Nat)(led plain:Bool)(hs:Array Int)(hl:hs.size<=mask)(hb:∀h∈hs.toList,SetTable.bits h<32):
  BF fun t order=>U9 (SetTable.laid mask finger moves led plain hs=some (t,order)) (order.toList.Perm (List.range hs.size)) (t.dummies = #[]) (t.led=led) (Up t.place) (t.place.size=hs.size) (t.mask=mask):=by
 have hr:(Ot (mask+1) (Array.replicate (mask+1) none)).Perm (List.range 0):=by
  have:Ot (mask+1) (Array.replicate (mask+1) none)=[]:=by
   refine List.filterMap_eq_nil_iff.mpr fun x hx=>?_
   simp[Array.getD]
  rw[this]
  exact zBO _
 obtain⟨owner,h1,h2,h3⟩:=Qv gE hs.toList _ 0 Array.size_replicate hr (by rw[zAF];omega) hb
 rw[Nat.zero_add,zAF] at h1 h3
 have e:SetTable.layClean mask hs=some owner:=by
  unfold SetTable.layClean
  rw[<-Array.foldl_toList]
  exact congrArg (Option.map (·.1)) h1
 unfold SetTable.laid
 rw[e]
 refine⟨_,_,rfl,?_,rfl,rfl,?_,?_,rfl⟩
 ·show (List.map (fun x:Nat×Nat=>x.2) (List.filterMap (fun j=>Option.map (fun x=>(j,x)) (owner.getD j none)) (List.range (mask+1)))).Perm _
  rw[zC9]
  have:(fun j=>Option.map (fun x:Nat×Nat=>x.2) (Option.map (fun x=>(j,x)) (owner.getD j none)))=fun j=>owner.getD j none:=by
   funext j
   cases owner.getD j none<;>rfl
  rw[this]
  exact h3
 ·show (List.map (fun x:Nat×Nat=>x.fst) (List.filterMap (fun j=>Option.map (fun x=>(j,x)) (owner.getD j none)) (List.range (mask+1)))).toArray.toList.Pairwise (· < ·)
  rw[zC6]
  rw[zC9]
  refine List.Pairwise.filterMap _ (R:=(· < ·)) ?_ zCQ
  intro a a' aK b hb b' fO
  have f:∀{a b:Nat},Option.map (fun x:Nat×Nat=>x.1) (Option.map (fun x=>(a,x)) (owner.getD a none))=some b->b=a:=fun {a b} e=>by
   cases q:owner.getD a none with
   | none=>rw[q] at e;cases e
   | some y=>rw[q] at e;injection e with e;exact e.symm
  rw[f hb,f fO]
  exact aK
 ·show (List.map (fun x:Nat×Nat=>x.fst) (List.filterMap (fun j=>Option.map (fun x=>(j,x)) (owner.getD j none)) (List.range (mask+1)))).toArray.size=_
  have e3:=h3.length_eq
  rw[zBQ] at e3
  rw[zAG,List.length_map,<-e3]
  have:∀l:List Nat,(List.filterMap (fun j=>Option.map (fun x=>(j,x)) (owner.getD j none)) l).length=(List.filterMap (fun j=>owner.getD j none) l).length:=fun l=>by
   induction l with
   | nil=>rfl
   | cons x l ih=>cases q:owner.getD x none with
    | none=>rw[zBH (by rw[q];rfl),zBH (f:=fun j=>owner.getD j none) q];exact ih
    | some v=>rw[zBA (by rw[q];rfl),zBA (f:=fun j=>owner.getD j none) q,zAQ,zAQ,ih]
  exact this _
end L2
namespace L2
open PySem PySem.Spec PyProof.Rows
theorem BL{α:Type}(xs:Array α)(p:Nat):(SetTable.eraseAt xs p).toList=xs.toList.eraseIdx p:=by
 simp[SetTable.eraseAt,List.extract_eq_take_drop,zCB,zBJ]
inductive SetDr(w:World)(h:Heap)(a:Addr)(ks:List Int)(m d:Nat):Prop where
 | mk (o es ep t) (_:h.get? a=some o) (_:o.ExactSet) (_:o.data= .set es ep t) (_:EGood es.toList) (_:es.toList.map A0=ks) (_:ks.Nodup) (_:ks.length<2000) (_:FD (Bu w) t) (_:t.fits es.size=true) (_:t.mask=m) (_:t.dummies.size<=d)
theorem SetDr.it(x:SetDr w h a ks m d):SetIt w h a ks:=by
 obtain⟨o,es,ep,t,h1,h2,h3,h4,h5,h6,h7,h8,h9,_⟩:=x
 exact⟨o,es,ep,t,h1,h2,h3,h4,h5,h6,h7,h8,h9⟩
theorem FW{h:Heap}{o:Obj}{a:Addr}{es aB:Array (Int×Value)}{ep:Nat}{t t':SetTable}(ho:h.get? a=some o)(hd:o.data= .set es ep t):
  (h.update a (Obj.putSet aB t')).get? a=some { o with data:=.set aB (ep+1) t' }:=by
 have:=Heap.get?_update_self (Obj.putSet aB t') ho (by rw[putSet_of aB t' hd];rfl)
 rw[putSet_of aB t' hd] at this;exact this
theorem LS(h0:0<=k)(h1:k<32):SetTable.bits (hashInt k)<32:=by
 obtain⟨n,rfl⟩:=zCC h0
 have hn:n<32:=by omega
 have:∀n:Fin 32,SetTable.bits (hashInt (n.val:Int))<32:=by decide +kernel
 exact this ⟨n,hn⟩
section
variable {prog:Program}{w:World}{A:Around}{E:Value->Shared->Prop}{s:Shared}{a b r:Addr}{ka kb ks:List Int}{k:Int}{tk:Tok}
theorem JF(hS:SetDr w s.heap a ks m d)(h:∀(bb:Bool) h' a7,Heap.SameBut a s.heap h'->SetDr w h' a a7 m (d+1)->(∀j,j∈a7↔j∈ks/\j≠k)->a7.length<=ks.length->Q bb { s with heap:=h' }):
  wpAny (model prog w) A (setDiscardHashed a (.int k tk) (hashInt k)) Q E s:=by
 obtain⟨o,es,ep,t,ho,bX,hd,hg,hk,nd,hl,ok,hf,em,ed⟩:=id hS
 unfold setDiscardHashed
 refine wpAny_bind (GC hS.it fun rr ii aU=>?_)
 cases rr with
 | none=>
  have au:k∉ks:=by
   intro z
   rw[decide_eq_true z] at ii
   cases ii
  have e:s={ s with heap:=s.heap }:=by cases s;rfl
  have:=h false s.heap ks (zBF _ _) ⟨o,es,ep,t,ho,bX,hd,hg,hk,nd,hl,ok,hf,em,Nat.le_succ_of_le ed⟩ (fun j=>⟨fun z=>⟨z,fun e=>au (e ▸ z)⟩,fun z=>z.1⟩) (zAA _)
  rw[e]
  exact wpAny_pure this
 | some i=>
  have hki:=aU i rfl
  obtain⟨hi,eki⟩:=List.getElem?_eq_some_iff.mp hki
  have ay:=C4 hk
  have aD:t.place.size=es.size:=by
   unfold SetTable.fits at hf
   exact beq_iff_eq.mp (Bool.and_eq_true_iff.mp hf).1
  have ik:t.place.size+t.dummies.size<=t.mask:=by
   unfold SetTable.fits at hf
   exact of_decide_eq_true (Bool.and_eq_true_iff.mp hf).2
  have hip:i<t.place.size:=by omega
  have d3:t.drop i={ t with place:=SetTable.eraseAt t.place i,dummies:=SetTable.insertAt t.dummies (SetTable.below t.dummies t.place[i]) t.place[i] }:=by
   unfold SetTable.drop
   rw[Array.getElem?_eq_getElem hip]
  have im:(SetTable.eraseAt es i).toList.map A0=ks.eraseIdx i:=by
   rw[BL,<-hk,zCB,zCB,zAP,List.map_take,List.map_drop]
  have hpm:=C2 ks i hi
  rw[eki] at hpm
  have ij:=hpm.nodup_iff.mpr nd
  have aj:(ks.eraseIdx i).length+1=ks.length:=by rw[<-hpm.length_eq,zAQ]
  have hes:(SetTable.eraseAt es i).size=(ks.eraseIdx i).length:=by rw[<-im,List.length_map,zAF]
  have dk:(SetTable.eraseAt t.place i).size+1=t.place.size:=by
   rw[<-zAF,BL,zC1,zAF,if_pos hip];omega
  have hds:(SetTable.insertAt t.dummies (SetTable.below t.dummies t.place[i]) t.place[i]).size=t.dummies.size+1:=by
   rw[<-zAF,(SetTable.insertAt_perm _ _ _).length_eq]
   simp
  dsimp only
  refine wpAny_bind (wpAny_setState_of ho hd hf ?_)
  dsimp only
  refine wpAny_bind (wpAny_storeSet_of ho hd ?_ (fits_of_scanBound (by rw[hes];exact Ct (by omega))))
  refine wpAny_bind (wpAny_point (wpAny_pure ?_))
  refine h true _ (ks.eraseIdx i) (zAW _ _ _) ⟨_,_,_,_,FW ho hd,bX,rfl,?_,im,(List.nodup_cons.mp ij).2,by omega,?_,?_,?_,?_⟩ (fun j=>?_) (by omega)
  ·intro e he
   rw[BL] at he
   exact hg e (List.mem_of_mem_eraseIdx he)
  ·rw[d3]
   refine⟨ok.led,?_⟩
   show (SetTable.eraseAt t.place i).toList.Pairwise (· < ·)
   rw[BL]
   exact List.Pairwise.sublist (List.eraseIdx_sublist _ _) ok.up
  ·rw[d3]
   unfold SetTable.fits SetTable.fill
   show ((SetTable.eraseAt t.place i).size == _ && decide ((SetTable.eraseAt t.place i).size+(SetTable.insertAt t.dummies _ _).size<=t.mask))=true
   rw[hds,Bool.and_eq_true_iff]
   exact⟨beq_iff_eq.mpr (by omega),decide_eq_true (by omega)⟩
  ·rw[d3];exact em
  ·rw[d3]
   show (SetTable.insertAt t.dummies _ _).size<=d+1
   rw[hds];omega
  ·rw[<-hpm.mem_iff,zAS]
   have hn:=(List.nodup_cons.mp ij).1
   constructor
   ·intro z;exact⟨.inr z,fun e=>hn (e ▸ z)⟩
   ·rintro⟨z | z,ne⟩
    ·exact absurd z ne
    ·exact z
theorem MU{es:Array (Int×Value)}{t:SetTable}{order:Array Nat}(hp:order.toList.Perm (List.range es.size)):(order.filterMap (es[·]?)).toList.Perm es.toList:=by
 rw[Array.toList_filterMap]
 exact (hp.filterMap _).trans (by rw[filterMap_getElem?_range])
end
end L2
namespace L2
open PySem PySem.Spec PyProof.Rows
theorem Ty(n:Nat)(hn:n<=32):∃m,Fs (∀led:Bool,(SetTable.fresh 0 0 led).roomFor n=if m=7 then none else some (2*n)) (m≠7->SetTable.sizeAbove (2*n)-1=m) (n<=m) (Sq m) (SetTable.sizeAbove (2*n)<=128):=by
 have key:∀n:Fin 33,(decide (n.val<=4) && decide (n.val*5<21)) || (decide (4<n.val) && decide (21<=n.val*5) && (SetTable.sizeAbove (2*n.val)-1 == 15 || SetTable.sizeAbove (2*n.val)-1 == 31 || SetTable.sizeAbove (2*n.val)-1 == 63 || SetTable.sizeAbove (2*n.val)-1 == 127) && decide (n.val<=SetTable.sizeAbove (2*n.val)-1))=true:=by decide +kernel
 have key2:∀n:Fin 33,SetTable.sizeAbove (2*n.val)<=128:=by decide +kernel
 have hk:=key ⟨n,by omega⟩
 have fS:=key2 ⟨n,by omega⟩
 dsimp only at hk fS
 have d5:∀led:Bool,(SetTable.fresh 0 0 led).roomFor n=if (0+n)*5>=7*3 then some ((0+n)*2) else none:=fun led=>rfl
 by_cases h4:n<=4
 ·refine⟨7,fun led=>?_,fun h=>absurd rfl h,by omega,XC,fS⟩
  rw[d5,if_neg (by omega),if_pos rfl]
 ·have hgt:¬decide (n<=4)=true:=by simpa using h4
  simp only[zBR,zA3,decide_eq_true_eq,beq_iff_eq] at hk
  rcases hk with⟨z,_⟩|⟨⟨⟨_,h21⟩,hm⟩,hnm⟩
  ·exact absurd z h4
  ·have hf:∀m,m≠7->∀led:Bool,(SetTable.fresh 0 0 led).roomFor n=if m=7 then none else some (2*n):=fun m hm led=>by
    rw[d5,if_pos (by omega),if_neg hm,Nat.zero_add,Nat.mul_comm]
   rcases hm with ((e | e) | e) | e
   ·exact⟨15,hf 15 (by decide),fun _=>e,by omega,W7,fS⟩
   ·exact⟨31,hf 31 (by decide),fun _=>e,by omega,Wg,fS⟩
   ·exact⟨63,hf 63 (by decide),fun _=>e,by omega,Xb,fS⟩
   ·exact⟨127,hf 127 (by decide),fun _=>e,by omega,VH,fS⟩
section
variable {prog:Program}{w:World}{A:Around}{E:Value->Shared->Prop}{s:Shared}{a b r:Addr}{ka kb ks:List Int}{k:Int}{tk:Tok}
theorem Q2(ho:s.heap.get? r=some (Bg w))(hr:∀led:Bool,(SetTable.fresh 0 0 led).roomFor n=if m=7 then none else some (2*n))(hm:m≠7->SetTable.sizeAbove (2*n)-1=m)(gE:Sq m)(h128:SetTable.sizeAbove (2*n)<=128)(h:∀h' o' ep t,Heap.SameBut r s.heap h'->h'.get? r=some o'->o'.ExactSet->o'.data= .set #[] ep t->t.fits 0=true->t.mask=m->t.place.size=0->t.dummies = #[]->t.led = !Bu w->Q () { s with heap:=h' }):
  wpAny (model prog w) A (setRoomFor r n) Q E s:=by
 unfold setRoomFor
 refine wpAny_bind (wpAny_setState_of ho rfl rfl ?_)
 dsimp only
 rw[hr]
 by_cases z:m=7
 ·rw[if_pos z]
  dsimp only
  have e:s={ s with heap:=s.heap }:=by cases s;rfl
  rw[e]
  exact wpAny_pure (h s.heap _ 0 _ (zBF _ _) ho ⟨rfl,rfl,rfl⟩ rfl rfl z.symm rfl rfl rfl)
 ·rw[if_neg z]
  dsimp only
  unfold setRelay
  refine wpAny_bind (wpAny_setState_of ho rfl rfl ?_)
  dsimp only
  rw[if_neg (by have:=sizeLine_eq;omega)]
  have bR:=hm z
  obtain⟨t,order,e1,hp,hdm,hld,cy,dk,hmk⟩:=MJ gE 0 ((SetTable.fresh 0 0 (!Bu w)).movedTo m) (!Bu w) true #[] (zA4 _) (fun h hh=>by simp at hh)
  have e2:(SetTable.fresh 0 0 (!Bu w)).relaid (Array.map (·.1) (#[]:Array (Int×Value))) (2*n)=some (t,order):=by
   have em:Array.map (·.1) (#[]:Array (Int×Value)) = #[]:=by simp
   unfold SetTable.relaid
   rw[bR,em]
   exact e1
  have hop:(order.filterMap ((#[]:Array (Int×Value))[·]?)) = #[]:=by
   have:=MU (t:=t) (es:=#[]) (order:=order) hp
   exact Array.toList_inj.mp (List.perm_nil.mp this)
  have hft:t.fits 0=true:=by
   unfold SetTable.fits SetTable.fill
   rw[dk,hdm]
   rfl
  refine wpAny_bind ?_
  rw[e2]
  show wpAny _ _ (if (order.filterMap ((#[]:Array (Int×Value))[·]?)).size != (#[]:Array (Int×Value)).size then _ else _) _ _ _
  rw[hop,if_neg (by simp)]
  refine wpAny_pure ?_
  dsimp only
  refine wpAny_storeSet_of ho rfl ?_ (by simp)
  exact h _ _ _ _ (zAW _ _ _) (FW ho rfl) ⟨rfl,rfl,rfl⟩ rfl hft hmk dk hdm hld
theorem Lr(ha:SetIt w s.heap a ka)(ho:s.heap.get? r=some (Bg w))(aE:r≠a)(h32:∀j∈ka,0<=j/\j<32)(hl:ka.length<=32)(h:∀h' k2 m,Heap.SameBut r s.heap h'->SetDr w h' r k2 m 0->k2.Perm ka->ka.length<=m->Q () { s with heap:=h' }):
  wpAny (model prog w) A (setMerge r a) Q E s:=by
 obtain⟨o,es,ep,t,hoa,bX,hd,hg,hk,nd,fN,ok,hf⟩:=id ha
 have ay:=C4 hk
 unfold setMerge
 rw[if_neg (by simpa using aE)]
 refine wpAny_bind (wpAny_setState_of hoa hd hf ?_)
 dsimp only
 by_cases fk:es.isEmpty=true
 ·rw[if_pos fk]
  have e0:ka=[]:=zCE (by rw[<-ay];exact Array.isEmpty_iff_size_eq_zero.mp fk)
  have e:s={ s with heap:=s.heap }:=by cases s;rfl
  have:=h s.heap [] 7 (zBF _ _) ⟨_,#[],0,_,ho,⟨rfl,rfl,rfl⟩,rfl,fun e he=>absurd he (by simp),rfl,zB1,by decide,⟨rfl,List.Pairwise.nil⟩,rfl,rfl,zAA _⟩ (by rw[e0]) (by rw[e0];decide)
  rw[e]
  exact wpAny_pure this
 ·rw[if_neg fk]
  obtain⟨m,hr,hm,hnm,gE,h128⟩:=Ty es.size (by omega)
  refine wpAny_bind (Q2 ho hr hm gE h128 fun h1 o1 ep1 t1 eU dh hex1 cQ fK bG bI hdm1 bc=>?_)
  have hoa1:h1.get? a=some o:=by rw[eU.2 _ (zBD aE)];exact hoa
  refine wpAny_bind (wpAny_setState_of (s:={ s with heap:=h1 }) dh cQ fK ?_)
  dsimp only
  have d5:(t1.fill != 0)=false:=by
   unfold SetTable.fill
   rw[bI,hdm1]
   rfl
  unfold SetTable.road
  rw[d5,if_neg zAB]
  by_cases hc:(t1.mask == t.mask && t.dummies.isEmpty)=true
  ·rw[if_pos hc]
   dsimp only
   obtain⟨c1,c2⟩:=Bool.and_eq_true_iff.mp hc
   refine wpAny_storeSet_of (s:={ s with heap:=h1 }) dh cQ ?_ (fits_of_scanBound (by rw[ay];exact Ct fN))
   refine h _ ka m (eU.trans (zAW _ _ _)) ⟨_,_,_,_,FW dh cQ,hex1,rfl,hg,hk,nd,fN,⟨?_,ok.up⟩,hf,?_,?_⟩ (zBO _) (by omega)
   ·show (t1.led && t.led)=_
    rw[bc,ok.led,Bool.and_self]
   ·show t.mask=m
    rw[<-bG]
    exact (beq_iff_eq.mp c1).symm
   ·show t.dummies.size<=0
    rw[Array.isEmpty_iff_size_eq_zero.mp c2]
    exact zAA _
  ·rw[if_neg hc]
   dsimp only
   have hsm:(es.map (·.1)).size=es.size:=Array.size_map
   obtain⟨t2,order,e1,hp,hdm,hld,cy,dk,hmk⟩:=MJ gE t1.finger t1.moves (t1.led && t.led) (t1.plain && t.plain) (es.map (·.1)) (by rw[hsm];exact hnm) (fun hh cw=>by
    rw[Array.toList_map] at cw
    obtain⟨e,he,rfl⟩:=List.mem_map.mp cw
    rw[(hg e he).1]
    have:=h32 (A0 e) (by rw[<-hk];exact zC7 he)
    exact LS this.1 this.2)
   rw[hsm] at hp dk
   rw[bG]
   have dH:=MU (t:=t2) (es:=es) hp
   refine wpAny_bind ?_
   rw[e1]
   have hsz2:(order.filterMap (es[·]?)).size=es.size:=by rw[<-zAF,dH.length_eq,zAF]
   show wpAny _ _ (if (order.filterMap (es[·]?)).size != es.size then _ else _) _ _ _
   rw[if_neg (by rw[hsz2];simp)]
   refine wpAny_pure ?_
   dsimp only
   have hkp:=dH.map A0
   rw[hk] at hkp
   refine wpAny_storeSet_of (s:={ s with heap:=h1 }) dh cQ ?_ (fits_of_scanBound (by rw[hsz2,ay];exact Ct fN))
   refine h _ _ m (eU.trans (zAW _ _ _)) ⟨_,_,_,_,FW dh cQ,hex1,rfl,fun e he=>hg e (dH.mem_iff.mp he),rfl,hkp.nodup_iff.mpr nd,by rw[hkp.length_eq];exact fN,⟨by rw[hld,bc,ok.led,Bool.and_self],cy⟩,?_,hmk,by rw[hdm];exact zAA _⟩ hkp (by omega)
   unfold SetTable.fits SetTable.fill
   rw[dk,hdm,hsz2,hmk,Bool.and_eq_true_iff]
   exact⟨beq_self_eq_true _,decide_eq_true (by simpa using hnm)⟩
end
end L2
namespace L2
open PySem PySem.Spec PyProof.Rows
section
variable {prog:Program}{w:World}{A:Around}{E:Value->Shared->Prop}{s:Shared}{a b r:Addr}{ka kb kr ks:List Int}{k:Int}{tk:Tok}
theorem Kw(hr:SetDr w s.heap r kr m 0)(hb:SetIt w s.heap b kb)(aE:r≠b)(aK:kb.length<kr.length / 4)(hm:kr.length<=m)(h:∀h' k2,Heap.SameBut r s.heap h'->SetIt w h' r k2->(∀j,j∈k2↔j∈kr/\j∉kb)->k2.length<=kr.length->Q () { s with heap:=h' }):
  wpAny (model prog w) A (Builtin.Frozenset.differenceUpdate id0 r (.ref b)) Q E s:=by
 unfold Builtin.Frozenset.differenceUpdate
 rw[if_neg (by intro z;have:=beq_iff_eq.mp z;injection this with this;exact aE this.symm)]
 refine wpAny_bind (C9 hb ?_)
 rw[if_pos rfl]
 obtain⟨o,es,ep,t,ho,bX,hd,hg,hk,nd,fN,ok,hf⟩:=id hb
 show wpAny _ _ (Builtin.Frozenset.sizeOf b >>= _) _ _ _
 refine wpAny_bind (DD hb ?_)
 refine wpAny_bind (DD hr.it ?_)
 rw[if_neg (by omega)]
 refine wpAny_bind (EA ho hd hf ?_)
 refine wpAny_bind (wpAny_holding ?_)
 refine wpAny_bind (O8 hb (fun c hc=>?_) fun aB hg' hp'=>?_)
 ·simp only[zAS,zAT,or_false] at hc
  subst hc
  exact⟨_,hr.it⟩
 have ay:aB.size=kb.length:=by rw[<-hp'.length_eq,List.length_map,zAF]
 refine wpAny_bind ?_
 refine wpAny_forIn_array' _ (fun rest _ s'=>D0 fun h1 k1 d=>U9 (s'={ s with heap:=h1 }) (Heap.SameBut r s.heap h1) (SetDr w h1 r k1 m d) (d+rest.length=kb.length) (EGood rest) (k1.length<=kr.length) (∀j,(j∈k1/\j∉rest.map A0)↔j∈kr/\j∉kb)) _ ?_ ?_ _ _ ⟨s.heap,kr,0,by cases s;rfl,zBF _ _,hr,by rw[zAF,ay];omega,hg',zAA _,fun j=>by rw[hp'.mem_iff]⟩
 ·rintro⟨hh,x⟩ rest u s' ⟨h1,k1,d,rfl,sb,hS,gD,g,hl,hm⟩
  obtain⟨e1,t',e2⟩:=g _ List.mem_cons_self
  generalize hk:A0 (hh,x)=k at e1 e2
  dsimp only at e1 e2
  subst e1;subst e2
  rw[zAQ] at gD
  refine wpAny_bind (wpAny_holding ?_)
  refine JF (s:={ s with heap:=h1 }) hS fun bb h2 k2 fR bE aS aF=>?_
  have eA:h2.get? b=some o:=by rw[fR.2 _ (zBD aE),sb.2 _ (zBD aE)];exact ho
  refine wpAny_bind (CY (s:={ s with heap:=h2 }) eA hd hf (wpAny_pure ?_))
  refine⟨h2,k2,d+1,rfl,sb.trans fR,bE,by omega,fun y hy=>g y (List.mem_cons_of_mem _ hy),zAC aF hl,fun j=>?_⟩
  rw[<-hm j,aS j,zA7,zAS,hk]
  constructor
  ·rintro⟨⟨z1,z2⟩,z3⟩
   exact⟨z1,fun z=>z.elim z2 z3⟩
  ·rintro⟨z1,z2⟩
   exact⟨⟨z1,fun e=>z2 (.inl e)⟩,fun e=>z2 (.inr e)⟩
 ·rintro u s' ⟨h1,k1,d,rfl,sb,hS,gD,g,hl,aS⟩
  refine wpAny_pure ?_
  obtain⟨o1,bx,ep1,t1,dh,hex1,cQ,eD,hk1,nd1,hlk1,ok1,fK,em1,ed1⟩:=id hS
  unfold setTidy
  refine wpAny_bind (wpAny_setState_of (s:={ s with heap:=h1 }) dh cQ fK ?_)
  dsimp only
  rw[if_neg (by
   unfold SetTable.tooManyDummies
   rw[em1]
   simp only[List.length_nil] at gD
   have:¬t1.dummies.size>m / 4:=by omega
   simpa using this)]
  exact wpAny_pure (h h1 k1 sb hS.it (fun j=>by rw[<-aS j];simp) hl)
theorem SX(ha:SetIt w s.heap a ka)(hb:SetIt w s.heap b kb)(hab:a≠b)(h32:∀j∈ka,0<=j/\j<32)(hl:ka.length<=32)(hlb:kb.length<=1000)(h:∀h' k2,SetIt w h' s.heap.objs.size k2->(∀j,j∈k2↔j∈ka/\j∉kb)->k2.length<=ka.length->(∀c o,s.heap.get? c=some o->h'.get? c=some o)->Q (.ref s.heap.objs.size) { s with heap:=h' }):
  wpAny (model prog w) A (binaryOp .Sub (.ref a) (.ref b)) Q E s:=by
 refine wpAny_binaryOp_same ha.typeIs hb.typeIs PySem.F.fills_set_sub PySem.F.slot_set_sub ?_
 refine wpAny_call_entry PySem.F.slot_set_sub ha.typeIs F.entry_set_sub ?_ (PySem.F.args_set_sub_2 _ _)
 show wpAny _ _ (do
  let (self,ai) <-Builtin.Frozenset.slot1 "__sub__" ⟨[.ref a,.ref b],[]⟩
  let (l,r):=if false=true then (ai,self) else (self,ai)
  if !(<-Builtin.Frozenset.isAnySet l <&&> Builtin.Frozenset.isAnySet r) then rule s!"frozenset.{"__sub__"}.declined";return <-ret .notImplemented
  ret (<-Builtin.Frozenset.difference s!"frozenset.{"__sub__"}" (<-Builtin.Frozenset.addrOf l) r)) _ _ _
 generalize s!"frozenset.{"__sub__"}"=id0
 generalize s!"frozenset.{"__sub__"}.declined"=id1
 show wpAny _ _ ((Builtin.Frozenset.isAnySet (.ref a) <&&> Builtin.Frozenset.isAnySet (.ref b)) >>= _) _ _ _
 refine wpAny_bind ?_
 show wpAny _ _ (Builtin.Frozenset.isAnySet (.ref a) >>= _) _ _ _
 refine wpAny_bind (C9 ha ?_)
 show wpAny _ _ (Builtin.Frozenset.isAnySet (.ref b)) _ _ _
 refine C9 hb ?_
 simp only[zCJ,zBM,if_false]
 show wpAny _ _ (Builtin.Frozenset.difference id0 a (.ref b) >>= _) _ _ _
 refine wpAny_bind ?_
 have kk:∀c o,s.heap.get? c=some o->(s.heap.push (Bg w)).get? c=some o:=fun c o e=>Heap.get?_push_of_some _ e
 have dZ:=ha.keep (h':=s.heap.push (Bg w)) fun o e=>kk _ _ e
 have bo:=hb.keep (h':=s.heap.push (Bg w)) fun o e=>kk _ _ e
 have a8:SetIs w (s.heap.push (Bg w)) s.heap.objs.size []:=set0_is
 have hr0:(s.heap.push (Bg w)).get? s.heap.objs.size=some (Bg w):=Heap.get?_push_size _ rfl
 have na:a≠s.heap.objs.size:=let ⟨_,ho⟩:=ha.at_;DM ho
 have nb:b≠s.heap.objs.size:=let ⟨_,ho⟩:=hb.at_;DM ho
 have keep:∀h',Heap.SameBut s.heap.objs.size (s.heap.push (Bg w)) h'->∀c o,s.heap.get? c=some o->h'.get? c=some o:=fun h' sb c o e=>by
  rw[sb.2 _ (DM e)];exact kk c o e
 unfold Builtin.Frozenset.difference
 refine wpAny_bind (C9 hb ?_)
 simp only[zCJ,zBM,if_false]
 show wpAny _ _ (Builtin.Frozenset.sizeOf b >>= _) _ _ _
 refine wpAny_bind (DD hb ?_)
 refine wpAny_bind (DD ha ?_)
 by_cases hbig:ka.length / 4>kb.length
 ·rw[if_pos hbig]
  refine wpAny_bind (wpAny_rule ?_)
  unfold Builtin.Frozenset.copyOf
  refine wpAny_bind (wpAny_bind (DF ha (wpAny_bind (F7 ?_))))
  show wpAny _ _ (setMerge s.heap.objs.size a >>= _) _ _ _
  refine wpAny_bind (Lr (s:={ s with heap:=s.heap.push (Bg w) }) dZ hr0 (zBD na) h32 hl fun h1 k1 m eU eI bI bG=>?_)
  refine wpAny_pure ?_
  have fP:SetIt w h1 b kb:=bo.keep fun o e=>by rw[eU.2 _ nb];exact e
  refine wpAny_bind (m:=Builtin.Frozenset.addrOf (Value.ref s.heap.objs.size)) (wpAny_pure ?_)
  refine wpAny_bind (wpAny_holding ?_)
  show wpAny _ _ (Builtin.Frozenset.differenceUpdate id0 s.heap.objs.size (.ref b)) _ _ _
  refine Kw (s:={ s with heap:=h1 }) eI fP (zBD nb) (by rw[bI.length_eq];exact hbig) (by rw[bI.length_eq];exact bG) fun h2 k2 fR bE aS aF=>?_
  refine wpAny_pure ?_
  refine wpAny_pure ⟨_,rfl,by simp,?_⟩
  exact h h2 k2 bE (fun j=>by rw[aS j,bI.mem_iff]) (by rw[<-bI.length_eq];exact aF) (keep _ (eU.trans fR))
 ·rw[if_neg hbig]
  refine wpAny_bind (DF ha (wpAny_bind (F7 ?_)))
  show wpAny _ _ (setEpoch a >>= _) _ _ _
  obtain⟨o,es,ep,t,ho,bX,hd,hg,hk,nd,fN,ok,hf⟩:=id dZ
  refine wpAny_bind (EA (s:={ s with heap:=s.heap.push (Bg w) }) ho hd hf ?_)
  refine wpAny_bind (wpAny_holding ?_)
  simp only[if_true]
  refine wpAny_bind (HL (s:={ s with heap:=s.heap.push (Bg w) }) dZ a8 (fun c hc=>?_) fun aB h' hg' hp' sb dY=>?_)
  ·simp only[zAS,zAT,or_false] at hc
   rcases hc with rfl | rfl
   ·exact⟨_,bo⟩
   ·exact⟨_,a8.it⟩
  have ay:aB.size=ka.length:=by rw[<-hp'.length_eq,List.length_map,zAF]
  refine wpAny_bind (wpAny_mono (IH (s:={ s with heap:=h' }) (r:=s.heap.objs.size) (p:=fun j=>decide (j∉kb)) (R:=fun _ s'=>BF fun h' k2=>Fs (s'={ s with heap:=h' }) (Heap.SameBut s.heap.objs.size (s.heap.push (Bg w)) h') (SetIs w h' s.heap.objs.size k2) (∀j,j∈k2↔j∈ka/\j∉kb) (k2.length<=ka.length)) ?_ hg' dY (by rw[ay];simp;omega) fun h2 k2 fR bE aS aF=>⟨h2,k2,rfl,sb.trans fR,bE,fun j=>?_,by rw[ay] at aF;simpa using aF⟩) ?_ fun _ _ h'=>h')
  ·intro k tk h1 k1 Q' eU eI bc hQ
   have fP:SetIt w h1 b kb:=bo.keep fun o e=>by rw[eU.2 _ nb,sb.2 _ nb];exact e
   refine wpAny_bind ?_
   refine wpAny_holding ?_
   refine wpAny_bind (GC (s:={ s with heap:=h1 }) fP fun rr ii _=>wpAny_bind (wpAny_pure ?_))
   have aJ:∀h2 k2,Heap.SameBut s.heap.objs.size h1 h2->SetIs w h2 s.heap.objs.size k2->(∀j,j∈k2↔j∈k1\/(decide (k∉kb)=true/\j=k))->k2.length<=k1.length+1->wpAny (model prog w) A.in1 (Builtin.Frozenset.unchanged id0 a ep >>= fun _=>pure (ForInStep.yield PUnit.unit)) Q' E { s with heap:=h2 }:=fun h2 k2 eK aX bR bf=>by
    have eA:h2.get? a=some o:=by rw[eK.2 _ na,eU.2 _ na,sb.2 _ na];exact ho
    exact wpAny_bind (CY (s:={ s with heap:=h2 }) eA hd hf (wpAny_pure (hQ h2 k2 eK aX bR bf)))
   by_cases au:k∈kb
   ·rw[ii,decide_eq_true au,if_neg (by decide)]
    refine wpAny_pure ?_
    exact aJ h1 k1 (zBF _ _) eI (fun j=>by rw[decide_eq_false (fun z=>z au)];simp) (zB9 _)
   ·rw[ii,decide_eq_false au,if_pos (by decide)]
    refine wpAny_bind (FX (s:={ s with heap:=h1 }) eI bc fun h2 k2 eK aX bR bf=>wpAny_pure ?_)
    exact aJ h2 k2 eK aX (fun j=>by rw[bR j,decide_eq_true au];simp) bf
  ·rw[aS j,hp'.mem_iff,decide_eq_true_eq]
   simp[and_comm]
  ·rintro u s' ⟨h2,k2,rfl,eK,aX,bR,bf⟩
   refine wpAny_pure ?_
   refine wpAny_pure ?_
   refine wpAny_pure ⟨_,rfl,by simp,?_⟩
   exact h h2 k2 aX.it bR bf (keep _ eK)
end
end L2
namespace L2
open PySem PySem.Spec PyProof.Rows
theorem EV:∀{us:List Value}{ns:List Int},Vals (ns.map V.int) us->IntsAre us ns
 | _,[],h=>by cases h;exact .nil
 | _,n::ns,h=>by
  cases h with
  | cons r t=>obtain⟨k,rfl⟩:=r;exact .cons n k (EV t)
theorem Ff:∀{l1 l2:List Int},l1.Nodup->(∀x∈l1,x∈l2)->l1.length<=l2.length
 | [],_,_,_=>zA4 _
 | x::l1,l2,nd,h=>by
  have ij:=List.nodup_cons.mp nd
  have hx:=h x List.mem_cons_self
  have ih:=Ff (l1:=l1) (l2:=l2.erase x) ij.2 fun y hy=>(List.mem_erase_of_ne (show y≠x from fun e=>ij.1 (e ▸ hy))).mpr (h y (List.mem_cons_of_mem _ hy))
  rw[List.length_erase_of_mem hx] at ih
  have:0<l2.length:=zCS hx
  rw[zAQ]
  omega
section
variable {X:Cx}
inductive Fy(w:World)(K:PySem.W.Frag)(xs:List V)(H:Hp)(Q:VK):Prop where
 | mk (l:Addr) (ns:List Int) (_:xs=[.ref l]) (_:SqL K H l (ns.map V.int)) (_:ns.length<1000) (_:∀a,H a=none->Q (.ref a) (upd H a (Bo w a (fun k=>decide (k∈ns)) ns.length))):Fy w K xs H Q
theorem DO(hc:X.calm=true):B6 X (.type "set") (Fy X.w X.K):=by
 intro pins s σ H xs us Q I r h
 obtain⟨l,ns,rfl,hq,hn,q⟩:=h
 obtain⟨u,rfl,ru⟩:=Df r
 cases ru
 obtain⟨its,rv,pl,hz⟩:=I.list hq
 have aj:its.length=ns.length:=by rw[<-rv.length,List.length_map]
 refine N4 (w:=X.w) (ns:=ns) (I.ok.hd hc) pl.isList (by rw[zC6];exact EV rv) (by rw[zAG];omega) fun h' tk ks hS hm hl kk=>?_
 refine⟨.ref s.heap.objs.size,_,I.laid (t':=tk) (o:=Bo X.w s.heap.objs.size (fun k=>decide (k∈ns)) ns.length) kk (zAA _) ?_,rfl,q _ (I.hok.fresh (zAA _))⟩
 exact DN hS (fun k=>by rw[decide_eq_true_eq];exact (hm k).symm) hl
inductive HE(w:World)(x:V)(y:V)(H:Hp)(Q:VK):Prop where
 | mk (a b:Addr) (S T:Int->Bool) (n m:Nat) (_:x= .ref a) (_:y= .ref b) (_:H a=some (Bo w a S n)) (_:H b=some (Bo w b T m)) (_:a≠b) (_:n+m<1990) (_:∀r,H r=none->Q (.ref r) (upd H r (Bo w r (fun k=>S k && T k) n))):HE w x y H Q
theorem Ud:D1 X (binaryOp .BitAnd) (HE X.w):=by
 intro pins s σ H x y v u Q I rx ry h
 obtain⟨a,b,S,T,n,m,rfl,rfl,ha,hb,aE,hnm,q⟩:=h
 cases rx
 cases ry
 obtain⟨ka,hSa,hma,hla⟩:=I.setO ha
 obtain⟨kb,hSb,hmb,hlb⟩:=I.setO hb
 refine SS (w:=X.w) hSa.it hSb.it aE (by omega) fun h' k2 hS hm hl kk=>?_
 refine⟨.ref s.heap.objs.size,_,I.laid (t':=s.toks) (o:=Bo X.w s.heap.objs.size (fun k=>S k && T k) n) kk (zAA _) ?_,rfl,q _ (I.hok.fresh (zAA _))⟩
 refine DN hS (fun k=>by rw[zA3,hma,hmb,hm k]) (zAC (Ff hS.nd fun y hy=>((hm y).mp hy).1) hla)
inductive Ie(w:World)(x:V)(y:V)(H:Hp)(Q:VK):Prop where
 | mk (a b:Addr) (S T:Int->Bool) (n m:Nat) (_:x= .ref a) (_:y= .ref b) (_:H a=some (Bo w a S n)) (_:H b=some (Bo w b T m)) (_:a≠b) (_:n<=32) (_:m<=1000) (_:(∀k,S k=true->0<=k/\k<32)) (_:∀r,H r=none->Q (.ref r) (upd H r (N5 w r (fun k=>S k && !T k) n))):Ie w x y H Q
theorem Te:D1 X (binaryOp .Sub) (Ie X.w):=by
 intro pins s σ H x y v u Q I rx ry h
 obtain⟨a,b,S,T,n,m,rfl,rfl,ha,hb,aE,hn,bR,h32,q⟩:=h
 cases rx
 cases ry
 obtain⟨ka,hSa,hma,hla⟩:=I.setO ha
 obtain⟨kb,hSb,hmb,hlb⟩:=I.setO hb
 refine SX (w:=X.w) hSa.it hSb.it aE (fun j hj=>h32 j ((hma j).mpr hj)) (by omega) (by omega) fun h' k2 hS hm hl kk=>?_
 refine⟨.ref s.heap.objs.size,_,I.laid (t':=s.toks) (o:=N5 X.w s.heap.objs.size (fun k=>S k && !T k) n) kk (zAA _) ?_,rfl,q _ (I.hok.fresh (zAA _))⟩
 refine SO hS (fun k=>?_) (by omega)
 rw[zA3,hma,hm k,Bool.not_eq_true',<-Bool.not_eq_true,hmb]
end
end L2
namespace L2
open PySem PySem.Spec PyProof.Rows
section
variable {X:Cx}{tg:Expr}{acc:Value}
theorem Qh(I:Inv X pins σ H s)(ha:H a=some (Bo X.w a S n))(hn:n+1<2000):
  wpAny (model X.prog X.w) X.A (call (.builtin "set.add") [.ref a,.int k tk]) (fun _ s'=>Inv X pins σ (upd H a (Bo X.w a (fun j=>S j || decide (j=k)) (n+1))) s') E s:=by
 obtain⟨ks2,bE,aS,aF⟩:=I.setO ha
 refine K1 (w:=X.w) bE (by omega) fun h' a7 cp aX bR bf=>?_
 have mu:We (H a):=by rw[ha];exact True.intro
 refine I.write (x:=a) (e:=a) (t':=s.toks+1) mu (.inl rfl) (fun b ob nb eb=>(cp.2 b nb).trans eb) (aX.it.at_) (DN aX (fun j=>?_) (by omega))
 rw[bR j,zBR,decide_eq_true_eq,aS j]
def IT(X:Cx)(aq:List Expr)(ar:Expr)(acc:Value):Sr:=fun Qa s=>wpAny (model X.prog X.w) X.A (FS aq X.env) (fun ok s1=>if ok=true then wpAny (model X.prog X.w) X.A (eval ar X.env) (fun x s2=>wpAny (model X.prog X.w) X.A (call (.builtin "set.add") [acc,x]) (fun _ s3=>Qa s3) D9 s2) D9 s1 else Qa s1) D9 s
inductive Ng(w:World)(acc:Addr)(D:Ends)(σ:St)(x:V)(H1:Hp):Prop where
 | mk (k S n) (_:x= .int k) (_:H1 acc=some (Bo w acc S n)) (_:n+1<2000) (_:D.nx σ (upd H1 acc (Bo w acc (fun j=>S j || decide (j=k)) (n+1)))):Ng w acc D σ x H1
def Md(w:World)(acc:Addr)(te:TE):TS:=fun D σ H=>te σ H (Ng w acc D σ)
theorem P3{aq:List Expr}{ar:Expr}{ac:Addr}{tc:TT}{te:TE}(aM:X.xe=D9)(hi:NG X aq tc)(he:PE X ar te):PB X (IT X aq ar (.ref ac)) (C7 tc (Md X.w ac te)) where
 mono:=fun Qa Qb s hq h=>AO h fun ok s1 h1=>by
  cases ok with
  | false=>exact hq _ h1
  | true=>exact AO h1 fun x s2 h2=>AO h2 fun _ s3 h3=>hq _ h3
 run:=fun pins s σ H D I h=>by
  have h1:=hi pins s σ H _ I h
  rw[aM] at h1
  refine AO h1 fun ok s1 ⟨H1,I1,q1⟩=>?_
  cases ok with
  | false=>exact⟨σ,H1,I1,q1.f⟩
  | true=>
   have dB:Md X.w ac te D σ H1:=q1.t
   have h2:=he pins s1 σ H1 _ I1 dB
   rw[aM] at h2
   refine AO h2 fun u s2 ⟨x,H2,I2,r2,k,S,n,ex,hl,hz,q2⟩=>?_
   subst ex
   obtain⟨tk,rfl⟩:=r2
   exact AO (Qh (E:=D9) I2 hl hz) fun _ s3 I3=>⟨σ,_,I3,q2⟩
theorem Jl(ar gp bi tg ae:Expr)(cF aq:List Expr)(scope:Scope)(pos:Pos)(it acc:Value)(env:Env):
  compTurn (.SetComp ar [⟨gp,bi,cF,0⟩,⟨tg,ae,aq,0⟩] scope pos) 1 it acc env=(do
   standAt ae.pos
   match <-pyNext it with
   | none=>pure (.done .next)
   | some v=>
    letOwnedTupleGo tg it v
    assign tg env v
    let mut ok:=true
    for c in aq do
     if ok then ok <-isTrue c env (eval c env)
    if ok then
     (do let v <-eval ar env;standAt ar.pos;let _ <-call (.builtin "set.add") [acc,v])
    again (.compLoop (.SetComp ar [⟨gp,bi,cF,0⟩,⟨tg,ae,aq,0⟩] scope pos) 1 it acc env)):=by rfl
theorem VX:HT X (.SetComp ar [⟨gp,bi,cF,0⟩,⟨tg,ae,aq,0⟩] scope pos) 1 bD acc tg (IT X aq ar acc):=by
 intro s Qd Qa h
 rw[Jl]
 refine wpAny_bind (wpAny_standAt (wpAny_bind (AO h fun r s₁ h₁=>?_)))
 cases r with
 | none=>exact wpAny_pure ⟨rfl,h₁⟩
 | some v=>
  refine wpAny_bind (AO h₁ fun _ s2 h2=>wpAny_bind (AO h2 fun _ s3 h3=>wpAny_bind (AO h3 fun ok s4 h4=>?_)))
  cases ok with
  | false=>exact wpAny_pure ⟨rfl,h4⟩
  | true=>exact wpAny_bind (wpAny_bind (AO h4 fun x s₄ h₄=>wpAny_bind (wpAny_standAt (wpAny_bind (AO h₄ fun _ s₅ h₅=>wpAny_pure (wpAny_pure ⟨rfl,h₅⟩))))))
theorem Ht(ar tg ae aO af:Expr)(aq ax:List Expr)(scope:Scope)(pos:Pos)(it acc:Value)(env:Env):
  compTurn (.SetComp ar [⟨tg,ae,aq,0⟩,⟨aO,af,ax,0⟩] scope pos) 0 it acc env=(do
   standAt ae.pos
   match <-pyNext it with
   | none=>pure (.done .next)
   | some v=>
    letOwnedTupleGo tg it v
    assign tg env v
    let mut ok:=true
    for c in aq do
     if ok then ok <-isTrue c env (eval c env)
    if ok then
     let x <-eval af env
     standAt af.pos
     let x <-foldedSetIterable af env x
     let _ <-runOwn (.compStart (.SetComp ar [⟨tg,ae,aq,0⟩,⟨aO,af,ax,0⟩] scope pos) 1 (<-holding [x] (pyIter x)) acc env) env
    again (.compLoop (.SetComp ar [⟨tg,ae,aq,0⟩,⟨aO,af,ax,0⟩] scope pos) 0 it acc env)):=by rfl
theorem SR(hs:∀x,foldedSetIterable af X.env x=pure x):
  HT X (.SetComp ar [⟨tg,ae,aq,0⟩,⟨aO,af,ax,0⟩] scope pos) 0 bD acc tg (Gh X aq (.SetComp ar [⟨tg,ae,aq,0⟩,⟨aO,af,ax,0⟩] scope pos) af acc):=by
 intro s Qd Qa h
 rw[Ht]
 refine wpAny_bind (wpAny_standAt (wpAny_bind (AO h fun r s₁ h₁=>?_)))
 cases r with
 | none=>exact wpAny_pure ⟨rfl,h₁⟩
 | some v=>
  refine wpAny_bind (AO h₁ fun _ s2 h2=>wpAny_bind (AO h2 fun _ s3 h3=>wpAny_bind (AO h3 fun ok s4 h4=>?_)))
  cases ok with
  | false=>exact wpAny_pure ⟨rfl,h4⟩
  | true=>
   refine wpAny_bind (AO h4 fun x s₄ h₄=>wpAny_bind (wpAny_standAt (wpAny_bind (wpAny_of_eq (hs x) (wpAny_bind (wpAny_holding (AO h₄ fun it s₅ h₅=>?_)))))))
   refine wpAny_bind (wpAny_runOwn (codeAny_mono h₅ fun r s₆ h₆=>?_))
   obtain⟨rfl,h₆⟩:=h₆
   exact wpAny_pure ⟨rfl,h₆⟩
theorem Tu{ar ae aO af:Expr}{aq ax:List Expr}{scope:Scope}{pos:Pos}{ac:Addr}{tc:TT}{db:TI}{g1:TG}{tb1:TS}(aM:X.xe=D9)(hc:X.calm=true)(hi:NG X aq tc)(hI:PI X aO af db)(eD:PG X aO g1)(bo:PB X (IT X ax ar (.ref ac)) tb1):
  PB X (Gh X aq (.SetComp ar [⟨tg,ae,aq,0⟩,⟨aO,af,ax,0⟩] scope pos) af (.ref ac)) (C7 tc (Kf db g1 tb1)) where
 mono:=fun Qa Qb s hq h=>AO h fun ok s1 h1=>by
  cases ok with
  | false=>exact hq _ h1
  | true=>exact AO h1 fun x s2 h2=>AO h2 fun it s3 h3=>codeAny_mono h3 fun r s4 h4=>⟨h4.1,hq _ h4.2⟩
 run:=fun pins s σ H D I h=>by
  have h1:=hi pins s σ H _ I h
  rw[aM] at h1
  refine AO h1 fun ok s1 ⟨H1,I1,q1⟩=>?_
  cases ok with
  | false=>exact⟨σ,H1,I1,q1.f⟩
  | true=>
   have dB:Kf db g1 tb1 D σ H1:=q1.t
   have h2:=hI pins s1 σ H1 _ I1 dB
   rw[aM] at h2
   refine AO h2 fun u s2 h3=>AO h3 fun bD s3 h4=>?_
   obtain⟨it,fp,tn,J,H3,e,I3,T,eX,f3,hR⟩:=h4
   subst e
   have bq:=CJ (e:=.SetComp ar [⟨tg,ae,aq,0⟩,⟨aO,af,ax,0⟩] scope pos) (d:=1) (D:=D) aM hc VX rfl rfl rfl T eD bo I3 eX f3 hR
   exact Cm (X:=X) rfl rfl rfl (fun _=>rfl) True.intro bq (T.self _ 0 s3 _ _ eX bq)
end
def PH(w:World)(wi:TI)(js:List (Option Nat))(g:CC->TG)(tb:CC->Addr->TS):TE:=fun σ H Q=>wi σ H fun J H1=>∀(c:CC)(acc:Addr),H1 acc=none->
 Es J (g c) (tb c acc) { nx:=fun _ H'=>Q (.ref acc) H',rt:=fun _ _=>False } (sub js σ) (upd H1 acc (Bo w acc (fun _=>false) 0))
section
variable {X:Cx}{N:List Str}{scope:Scope}{cl:List (Str×Addr)}{js:List (Option Nat)}{ar tg ae:Expr}{aq:List Expr}{rest:List Comprehension}{pos:Pos}{wi:TI}{g:CC->TG}{tb:CC->Addr->TS}
theorem N9{WB:CC->Value->Sr}(aM:X.xe=D9)(hc:X.calm=true)(hi:PI X tg ae wi)(hs:∀x,foldedSetIterable ae X.env x=pure x)(de:closureFor scope X.env=pure cl)(hk:scope.kind= .function)(bP:∀x∈scope.names,x.2= .local->scope.names.lookup x.1=some .local)(a9:∀x∈scope.names,x.2≠.cell)(bO:∀p∈cl,X.env.cells.lookup p.1=some p.2)(hcn:∀x,((relabel scope X.env).names.lookup x=some .cell\/(relabel scope X.env).names.lookup x=some .free)->∃c,cl.lookup x=some c)(gk:GJ X N scope js)(hl:js.length=N.length)(ht:∀c it ac,HT (X.cmp N scope cl c) (.SetComp ar (⟨tg,ae,aq,0⟩::rest) scope pos) 0 it ac tg (WB c ac))(hg:∀c,PG (X.cmp N scope cl c) tg (g c))(hb:∀c ac,PB (X.cmp N scope cl c) (WB c (.ref ac)) (tb c ac)):
  PE X (.SetComp ar (⟨tg,ae,aq,0⟩::rest) scope pos) (PH X.w wi js g tb):=by
 intro pins s σ H Q I h
 rw[arm_eval_SetComp]
 have h0:=hi pins s σ H _ I h
 refine wpAny_comprehension_free (use:=none) (cl:=cl) rfl hs de hk bP (AO h0 fun v s1 h1=>AO h1 fun bD s2 h2=>?_)
 obtain⟨it,fp,tn,J,H2,e,I2,T,eB,f2,hR⟩:=h2
 subst e
 refine F7 (wpAny_newFunctionEnv a9 (by intro y hy;simp at hy) (fun h₁ df bQ=>?_) hk)
 dsimp only at df bQ ⊢
 have I3:=I2.laid (t':=s2.toks) (h':=s2.heap.push (Bg X.w)) (o:=Bo X.w s2.heap.objs.size (fun _=>false) 0) (fun b ob e=>Heap.get?_push_of_some _ e) (zAA _) (DN set0_is (fun k=>by simp) (zAA _))
 have fb:∀b∈fp,b<s2.heap.objs.size:=fun b hb=>by
  obtain⟨o,e,_⟩:=T.obj 0 _ eB b hb
  exact zAD e
 have fpa:∀b∈fp,b≠s2.heap.objs.size:=fun b hb=>zAH (fb b hb)
 have f3:∀b∈fp,CL X pins (upd H2 s2.heap.objs.size (Bo X.w s2.heap.objs.size (fun _=>false) 0)) b:=fun b hb=>⟨by rw[Al (fpa b hb)];exact (f2 b hb).1,(f2 b hb).2⟩
 have hR':=hR ⟨{ s2 with heap:=s2.heap.push (Bg X.w) },upd H2 s2.heap.objs.size (Bo X.w s2.heap.objs.size (fun _=>false) 0),fp⟩ s2.heap.objs.size I2.fresh
 have I4:=I3.cmp (N:=N) (cl:=cl) (js:=js) (t':=s2.toks) f3 (fun b hb=>by
  show b<(s2.heap.push _).objs.size
  rw[zA6]
  exact zBE (fb b hb)) hk bO hcn gk hl df bQ
 have hV:tn 0 h₁:=T.keep 0 _ _ eB fun b hb o e=>(bQ.2 b (by
  rw[zA6]
  exact zAH (zBE (fb b hb)))).trans (Heap.get?_push_of_some _ (Heap.get?_push_of_some _ e))
 have f4:∀b∈fp,CL (X.cmp N scope cl ⟨{ s2 with heap:=s2.heap.push (Bg X.w) },upd H2 s2.heap.objs.size (Bo X.w s2.heap.objs.size (fun _=>false) 0),fp⟩) [] (upd H2 s2.heap.objs.size (Bo X.w s2.heap.objs.size (fun _=>false) 0)) b:=fun b hb=>
  ⟨(f3 b hb).1,(I4.ok.exf b hb).1,I4.ok.exfs b hb,.inl hb,(I4.ok.exf b hb).2,fun p hp=>absurd (show p∈([]:List (Addr×Obj)) from hp) (by simp)⟩
 have bq:=codeAny_mono (CJ (X:=X.cmp N scope cl ⟨{ s2 with heap:=s2.heap.push (Bg X.w) },upd H2 s2.heap.objs.size (Bo X.w s2.heap.objs.size (fun _=>false) 0),fp⟩) (e:=.SetComp ar (⟨tg,ae,aq,0⟩::rest) scope pos) (d:=0) (acc:=.ref s2.heap.objs.size) (pins:=[]) aM hc (ht _ _ _) rfl rfl rfl T (hg _) (hb _ _) I4 hV f4 hR') (R':=compPost (model X.prog X.w) X.A X.xe none (EP X pins σ Q) (.ref s2.heap.objs.size) (s2.heap.push (Bg X.w)).objs.size) (fun r s' hq=>by
  obtain⟨rfl,σ',H',J',q⟩:=hq
  obtain⟨m,hn,_⟩:=id J'.loc
  exact⟨m,hn,fun e8 hs''=>⟨.ref s2.heap.objs.size,H',I3.uncmp f3 J' hs'',rfl,q⟩⟩)
 exact Cm (X:=X.cmp N scope cl ⟨{ s2 with heap:=s2.heap.push (Bg X.w) },upd H2 s2.heap.objs.size (Bo X.w s2.heap.objs.size (fun _=>false) 0),fp⟩) rfl rfl rfl (fun _=>rfl) True.intro bq (T.self _ 0 _ _ _ hV bq)
variable {aO af:Expr}{ax:List Expr}{db:CC->TI}{g1:CC->TG}{tc gr:CC->TT}{te:CC->TE}
theorem OA(h:CompOk X N scope cl js)(hi:PI X tg ae wi)(hg:∀c,PG (X.cmp N scope cl c) tg (g c))(gu:∀c,NG (X.cmp N scope cl c) aq (tc c))(hi1:∀c,PI (X.cmp N scope cl c) aO af (db c))(eD:∀c,PG (X.cmp N scope cl c) aO (g1 c))(fe:∀c,NG (X.cmp N scope cl c) ax (gr c))(he:∀c,PE (X.cmp N scope cl c) ar (te c))(hs1:∀c x,foldedSetIterable af (X.cmp N scope cl c).env x=pure x:=by intro _ _;rfl)(aM:X.xe=D9:=by rfl)(hc:X.calm=true:=by rfl)(hs:∀x,foldedSetIterable ae X.env x=pure x:=by intro _;rfl):
  PE X (.SetComp ar [⟨tg,ae,aq,0⟩,⟨aO,af,ax,0⟩] scope pos) (PH X.w wi js g fun c ac=>C7 (tc c) (Kf (db c) (g1 c) (C7 (gr c) (Md X.w ac (te c))))):=
 N9 (WB:=fun c ac=>Gh (X.cmp N scope cl c) aq (.SetComp ar [⟨tg,ae,aq,0⟩,⟨aO,af,ax,0⟩] scope pos) af ac) aM hc hi hs h.clos h.kind h.names h.cell h.ccl h.hcn h.shr h.len (fun c it ac=>SR (hs1 c)) hg
  fun c ac=>Tu (X:=X.cmp N scope cl c) aM hc (gu c) (hi1 c) (eD c) (P3 (X:=X.cmp N scope cl c) aM (fe c) (he c))
end
end L2
namespace L2
open PySem PySem.Spec PyProof.Rows
section
variable {X:Cx}
end
end L2
namespace L2
open PySem PySem.Spec PyProof.Rows
section
variable {X:Cx}{pins:List (Addr×Obj)}{σ:St}{H:Hp}{s:Shared}
theorem Room.units9(r:Room k A):A.units+9<cLine:=by have:=r.un;omega
end
end L2
namespace HT2
open PySem L2 PyProof.Rows
theorem Xd(e:b=false)(h:B):If b A B:=.ff e h
theorem Wn(e:b=true)(h:A):If b A B:=.tt e h
theorem Dz{K:PySem.W.Frag}{row:List Int}{p:Int->Bool}(hr:SqL K H a (row.map V.int))(am:H acc=none)(aj:row.length<=900)(ht:∀k,k∈row->∀H2,Same H H2->∀R:Bool->Hp->Prop,(∀H3,Same H2 H3->R (p k) H3)->tc (some (.int k)::rest) H2 R)(hd:∀v0 H2,Same H H2->H2 acc=some (.lst ((row.filter p).map V.int))->D.nx (v0::rest) H2)(v:Option V):
  Es (Uo K a) (Dh 0) (C7 tc (Dq acc (Hx 0))) D (v::rest) (upd H acc (.lst [])):=by
 refine AG (K:=K) (a:=a) (xs:=row.map V.int) (fun i σ H2=>∃v0,Cc (σ=v0::rest) (Same H H2) (H2 acc=some (.lst (((row.take i).filter p).map V.int)))) ⟨v,rfl,Ab am _,upd_same⟩ ?_ ?_ ?_
 ·rintro i σ H2 _ ⟨v0,rfl,s2,_⟩
  exact s2.seq hr
 ·rintro i x σ H2 hx ⟨v0,rfl,s2,aH⟩
  rw[List.getElem?_map] at hx
  obtain⟨k,hk,rfl⟩:=Option.map_eq_some_iff.mp hx
  have et:row.take (i+1)=row.take i++[k]:=by rw[zAI,hk];rfl
  refine ht k (zAJ hk) H2 s2 _ fun H3 s3=>?_
  have dm:=s3 _ _ aH
  cases e:p k with
  | false=>
   refine AY ⟨_,rfl,s2.trans s3,?_⟩
   rw[et,zCN,List.filter_cons_of_neg (by rw[e];simp),List.filter_nil,zAU]
   exact dm
  | true=>
   refine A8 ⟨_,dm,Ap ?_,?_⟩
   ·rw[List.length_map]
    refine zAC (zA0 _ _) ?_
    rw[zAM]
    omega
   refine⟨_,rfl,AA (s2.trans s3) am _,?_⟩
   rw[upd_same,et,zCN,List.filter_cons_of_pos e,List.filter_nil,zAP]
   rfl
 ·rintro σ H2 ⟨v0,rfl,s2,aH⟩
  rw[List.length_map,zAN] at aH
  exact hd v0 H2 s2 aH
theorem Tx(k:Int)(xs:List Int):OW (.int k) (xs.map V.int)=decide (k∈xs):=by
 unfold OW
 induction xs with
 | nil=>simp
 | cons x r ih=>
  rw[zA7,zBY,ih]
  have e:OR (.int x) (.int k)=decide (x=k):=by
   show (x == k)=decide (x=k)
   rfl
  rw[e]
  by_cases h:x=k
  ·subst h;simp
  ·have h':¬k=x:=fun z=>h z.symm
   simp[h,h']
theorem Pf(xs:List Int):(xs.map V.int).all Er=true:=by
 induction xs with
 | nil=>rfl
 | cons x r ih=>rw[zA7,zCU,ih];rfl
theorem EM{a b:List Int}(ha:a.Pairwise (· < ·))(hb:b.Pairwise (· < ·))(h:∀k,k∈a↔k∈b):a=b:=by
 have na:a.Nodup:=ha.imp fun h=>by omega
 have nb:b.Nodup:=hb.imp fun h=>by omega
 have hp:a.Perm b:=(List.perm_ext_iff_of_nodup na nb).mpr h
 exact PySem.W.ksm_same hp (ha.imp fun h=>by omega) (hb.imp fun h=>by omega)
theorem VW{K:PySem.W.Frag}{k:Int}{row:List Int}(h:SqL K H r (row.map V.int))(q:Q (.bl (decide (k∈row))) H):Xi K false (.int k) (.ref r) H Q:=
 ⟨r,_,rfl,.inl h,rfl,Pf _,by rw[<-Tx] at q;exact q⟩
end HT2
namespace L2
open PySem PySem.Spec PyProof.Rows
section
variable {X:Cx}{N:List Str}{scope:Scope}{cl:List (Str×Addr)}{js:List (Option Nat)}{ar tg ae:Expr}{aq:List Expr}{rest:List Comprehension}{pos dF cq:Pos}{wi:TI}{g:CC->TG}{tb:CC->Addr->TS}{i:Nat}{y:Str}
end
end L2
namespace L2
open PySem PySem.Spec PyProof.Rows
def EZ(CX:Hv)(X:Cx)(E:XK)(σ:St):Prop:=∀(pins:List (Addr×Obj))(H:Hp)(s:Shared)(e:Value)(s':Shared),Inv X pins σ H s->CX X.stack H s E e s'->X.xe e s'
def Wb(X:Cx)(σ:St)(e:Expr)(t:TE):Prop:=
 ∀(pins:List (Addr×Obj))(s:Shared)(H:Hp)(Q:VK),Inv X pins σ H s->t σ H Q->wpAny (model X.prog X.w) X.A (eval e X.env) (EP X pins σ Q) X.xe s
def HY(X:Cx)(σ:St)(st:List Stmt)(t:TS):Prop:=
 ∀(pins:List (Addr×Obj))(s:Shared)(H:Hp)(D:Ends),Inv X pins σ H s->t D σ H->wpAny (model X.prog X.w) X.A (execs st X.env) (SP X pins D) X.xe s
section
variable {X:Cx}{CX:Hv}{k:Nat}{f:Addr}{fd:FuncData}{ps:List Str}{sp:Sp}{ds:List Value}{aZ:List V}{E:XK}{σ:St}{x:Str}{e:Expr}{es:List Expr}{t:TA}{p pos:Pos}
theorem RF(F:FnOk X.prog X.w X.K X.mg X.base CX k f fd ps sp)(hr:Room k X.A)(hb:Binds X.K fd ps ds)(hd:Vals aZ ds)(hx:EZ CX X E σ)(I:Inv X pins σ H s)(r:Vals vs us)(h:sp (vs++aZ) H Q E):wpAny (model X.prog X.w) X.A (call (.ref f) us) (EP X pins σ Q) X.xe s:=by
 have r2:Vals (vs++aZ) (us++ds):=r.append hd
 have hl:(us++ds).length=ps.length:=by rw[<-r2.length];exact F.len _ _ _ _ h
 refine wpAny_call (codeAny_mono (F.run X.A X.stack s H ⟨us,[]⟩ (us++ds) (vs++aZ) Q E hr I.env0 (hb s us I.kIn hl) r2 h) fun r s' hq=>?_)
 cases r with
 | error e=>exact hx pins H s e s' I hq
 | ok fl=>
  cases fl with
  | ret u=>exact I.after hq
  | next=>exact False.elim hq
  | brk=>exact False.elim hq
  | cont=>exact False.elim hq
theorem Of(F:FnOk X.prog X.w X.K X.mg X.base CX k f fd ps sp)(hr:Room k X.A)(hg:Gl X x)(hm:X.mg x=some (.ref f))(hk:PySem.W.keepIn X.K (.ref f)=true)(hb:Binds X.K fd ps ds)(hd:Vals aZ ds)(hx:EZ CX X E σ)(ha:PA X (e::es) t)(bL:(x == ("__debug__":Str))=false:=by decide)(he:starEach (e::es) X.env=(false,eval e X.env)::starEach es X.env:=by rfl)(aD:(backTo pos (starEach es X.env)).any (·.1)=false:=by rfl):
  Wb X σ (.Call (.Name x p) (e::es) [] pos) (M5 sp aZ E t):=by
 intro pins s H Q I h
 refine wpAny_Call_Name_kw (C8 I hg hm ?_ bL)
 refine zCD (h₀:=X.base) I.ok.mod.kin hk (AO (ha pos pins s σ H _ I h) fun us s1 ⟨vs,H1,I1,r,q⟩=>⟨I1.kIn,?_⟩) he aD
 exact RF F hr hb hd hx I1 r q
end
def Od(X:Cx)(hs:List ExceptHandler)(t:St->QC):Prop:=
 ∀(pins:List (Addr×Obj))(D:Ends)(σ:St)(a T C:Addr)(dx:Option Addr)(H:Hp)(s:Shared),Inv X pins σ H s->Su s.heap a (.ref C) dx T .none->H a=none->H T=none->a≠X.env.locals->a∉X.fs->
  ((T∈X.ex\/X.s₀.heap.objs.size<=T)/\T≠X.env.locals/\(∀x c,X.env.cells.lookup x=some c->c≠T)/\∀p∈X.pn++pins,p.1≠T)->t σ D C dx H->
  wpAny (model X.prog X.w) X.A (handleBy (.ref a) X.env hs) (SP X pins D) X.xe s
theorem MT:Od X [] (fun _ _ _ _ _=>False):=fun _ _ _ _ _ _ _ _ _ _ _ _ _ _ _ _ h=>h.elim
def Wl(K:PySem.W.Frag)(Dc:Addr)(th:Addr->Obj->TS)(tr:St->QC):St->QC:=fun σ D C dx H=>∃r,PySem.W.mroIn K C (.ref Dc)=some r/\
 If r (∀a vs sl,H a=none->th a ⟨.ref C,dx,.fields vs,sl⟩ D σ H) (tr σ D C dx H)
inductive Ux(tb:XK->TS)(th:St->QC)(D:Ends)(σ:St)(H:Hp):Prop where
 | mk (E:XK) (_:tb E D σ H) (_:∀cls dx H',E cls dx H'->∃C,cls= .ref C/\th σ D C dx H'):Ux tb th D σ H
section
variable {X:Cx}{Dc:Addr}{i:Nat}{x n:Str}{np br pos:Pos}{body bv:List Stmt}{b0:Stmt}{tb:XK->TS}{th:Addr->Obj->TS}{hs:List ExceptHandler}{tr:St->QC}
theorem LK(hth:∀a oe,PSs (X.caught a oe) (b0::bv) (th a oe))(hr:Od X hs tr)(hg:Gl X x)(hm:X.mg x=some (.ref Dc))(hD:PySem.W.typeIn X.K (.ref Dc)=some (.type "type"))(cD:(PySem.W.clsIn X.K Dc).isSome=true)(hB:PySem.W.mroIn X.K Dc (.type "BaseException")=some true)(bL:(x == ("__debug__":Str))=false:=by decide):
  Od X (.ExceptHandler (some (.Name x np)) none (b0::bv) br::hs) (Wl X.K Dc th tr):=by
 intro pins D σ a T C dx H s J F5 ha hT h1 h2 yT h
 obtain⟨r,bG,h⟩:=h
 have ok:=J.ok
 obtain⟨vs,sl,oT,ts,e5,e51,ne5,rest5⟩:=id F5
 have J6:=J.caught e5 ha h1 h2 (fun v z=>by cases z)
 refine wpAny_handleBy_cons (codeAny_handlers_test (C8 (X:=X.caught a ⟨.ref C,dx,.fields vs,sl⟩) J6 hg hm (zC8 (Ih J6.kIn hD cD hB bG e5 rfl) ?_) bL)) (by intro z;cases z)
 cases r with
 | false=>exact hr pins D σ a T C dx H s J F5 ha hT h1 h2 yT h.f
 | true=>
  refine codeAny_handlers_suite (QH F5 fun h6 S6 F6=>?_)
  have J7:Inv (X.caught a ⟨.ref C,dx,.fields vs,sl⟩) pins σ H { s with heap:=h6 }:=J6.call' (ch:=[T]) (s':={ s with heap:=h6 }) rfl ((S6.un H).mono (fun b hb=>absurd hb (by simp)) fun _ z=>z)
   (S6.hok J6.hok (fun b hb=>absurd hb (by simp)) fun b hb=>by rw[List.mem_singleton.mp hb];exact hT) J.bare fun b hb=>by
    rw[List.mem_singleton.mp hb]
    obtain⟨y1,y2,y3,y4⟩:=yT
    refine⟨y1,y2,y3,fun p hp=>?_⟩
    rcases List.mem_cons.mp (show p∈(a,(⟨.ref C,dx,.fields vs,sl⟩:Obj))::(X.pn++pins) from hp) with z | z
    ·rw[z];exact zBD ne5
    ·exact y4 p z
  refine wpAny_mono (hth a ⟨.ref C,dx,.fields vs,sl⟩ pins _ _ H D J7 (h.t a vs sl ha)) (fun f s9 q=>?_) fun _ _ z=>False.elim z
  cases f with
  | next=>obtain⟨σ9,H9,J9,q9⟩:=q;exact⟨σ9,H9,J9.uncaught (ok:=ok),q9⟩
  | brk=>obtain⟨σ9,H9,J9,q9⟩:=q;exact⟨σ9,H9,J9.uncaught (ok:=ok),q9⟩
  | cont=>obtain⟨σ9,H9,J9,q9⟩:=q;exact⟨σ9,H9,J9.uncaught (ok:=ok),q9⟩
  | ret u=>obtain⟨v,σ9,H9,J9,r9,q9⟩:=q;exact⟨v,σ9,H9,J9.uncaught (ok:=ok),r9,q9⟩
theorem MA(hb:∀(σ:St) (E:XK) (pn:List (Addr×Obj)) (Ex:Value->Shared->Prop),EZ (GR X.prog X.w) (X.within pn Ex) E σ->HY (X.within pn Ex) σ body (tb E))(hh:Od X (h0::hs) tt)(stk:X.stack=X.env::X.outer)(hf:X.env.frame=some X.env.locals):PS X (.Try body (h0::hs) [] [] pos) (Ux tb tt):=by
 intro pins s σ H D I h
 obtain⟨E,h1,h2⟩:=h
 have ok:=I.ok
 let Ex:Value->Shared->Prop:=fun e s1=>wpAny (model X.prog X.w) X.A (noteFrame e X.env) (fun _ s2=>wpAny (model X.prog X.w) X.A (setFlight e none) (fun _ s3=>
  wpAny (model X.prog X.w) X.A (handleBy e X.env (h0::hs)) (SP X pins D) X.xe s3) X.xe s2) X.xe s1
 refine wpAny_Try_except (wpAny_mono (hb σ E (X.pn++pins) Ex ?_ [] s H D (I.within Ex) h1) (fun f s1 q=>?_) fun e s1 q=>q)
 ·intro ib H2 s2 e s' I2 hx
  obtain⟨a,T,cls,dx,H',rfl,os,bare,un,hok,F,ha,hT,la,lT,qe⟩:=hx
  obtain⟨C,rfl,hsu⟩:=h2 cls dx H' qe
  have J2:=I2.out ok
  have un':Un (Gn X.stack) [] H2 H' s2.heap s'.heap:=un
  have J3:=J2.call' os un' hok bare (fun b z=>absurd z (by simp))
  have st:=J3.stack
  have frm:=ok.frames
  have fre:=J3.stkFree
  rw[stk] at st frm fre
  show wpAny _ _ (noteFrame _ _) _ _ _
  refine Ny frm st hf F fun h4 T4 hT4 S4 F4=>QH F4 fun h5 S5 F5=>?_
  have two:∀b∈[a,T],s2.heap.objs.size<=b/\H' b=none:=fun b hb=>by
   rcases List.mem_cons.mp hb with z | z
   ·rw[z];exact⟨la,ha⟩
   ·rw[List.mem_singleton.mp z];exact⟨lT,hT⟩
  have hT4n:H' T4=none:=J3.hok.fresh hT4
  have J4:Inv X pins σ H' { s' with heap:=h4 }:=J3.call' (ch:=[a,T]) (s':={ s' with heap:=h4 }) rfl (by rw[stk];exact S4.un H') (S4.hok J3.hok fre fun b hb=>(two b hb).2) J3.bare fun b hb=>J2.young (two b hb).1
  have J5:Inv X pins σ H' { s' with heap:=h5 }:=J4.call' (ch:=[T4]) (s':={ s' with heap:=h5 }) rfl ((S5.un H').mono (fun b hb=>absurd hb (by simp)) fun _ z=>z) (S5.hok J4.hok (fun b hb=>absurd hb (by simp)) fun b hb=>by rw[List.mem_singleton.mp hb];exact hT4n) J3.bare
   fun b hb=>by rw[List.mem_singleton.mp hb];exact J3.young hT4
  exact hh pins D σ a T4 C dx H' _ J5 F5 ha hT4n (J2.young la).2.1 (J2.nofs la) (J3.young hT4) hsu
 ·cases f with
  | next=>obtain⟨σ',H',I',q'⟩:=q;exact wpAny_execs_nil ⟨σ',H',I'.out ok,q'⟩
  | brk=>obtain⟨σ',H',I',q'⟩:=q;exact⟨σ',H',I'.out ok,q'⟩
  | cont=>obtain⟨σ',H',I',q'⟩:=q;exact⟨σ',H',I'.out ok,q'⟩
  | ret u=>obtain⟨v,σ',H',I',r',q'⟩:=q;exact⟨v,σ',H',I'.out ok,r',q'⟩
end
end L2
namespace L2
open PySem PySem.Spec PyProof.Rows
inductive QT(K:PySem.W.Frag)(Dc:Addr)(i:Nat)(th:Addr->Obj->TS)(tr:St->QC)(σ:St)(D:Ends)(C:Addr)(dx:Option Addr)(H:Hp):Prop where
 | mk (r) (_:PySem.W.mroIn K C (.ref Dc)=some r) (_:If r (∀a vs sl,H a=none->th a ⟨.ref C,dx,.fields vs,sl⟩ (D.lost i) (σ.set i (some (.ref a))) H) (tr σ D C dx H)):QT K Dc i th tr σ D C dx H
section
variable {X:Cx}{Dc:Addr}{i:Nat}{x n:Str}{np br pos:Pos}{body bv:List Stmt}{b0:Stmt}{tb:XK->TS}{th:Addr->Obj->TS}{hs:List ExceptHandler}{tr:St->QC}{σ:St}{e:Expr}{te:TE}
theorem E5(he:Wb X σ e te)(hs:swapsWith e none pos.line X.env=pure false:=by rfl):HY X σ [.Expr e pos] (Sg te):=by
 intro pins s H D I h
 exact wpAny_execs_cons (wpAny_Expr_any (AO (he pins s H _ I h) fun v s1 ⟨x,H1,I1,r1,q1⟩=>wpAny_execs_nil ⟨σ,H1,I1,q1⟩) I.quiet hs)
theorem Ue(hc:PT X c tc)(ha:HY X σ a t)(hb:HY X σ b u):HY X σ [.If c a b pos] (V9 tc t u):=by
 intro pins s H D I h
 refine wpAny_execs_cons (wpAny_If (AO (hc pins s σ H _ I h) fun d s1 ⟨H1,I1,q1⟩=>?_))
 have go:∀{l:List Stmt}{z:TS},HY X σ l z->z D σ H1->wpAny (model X.prog X.w) X.A (execs l X.env) (fun f s'=>match f with | .next=>wpAny (model X.prog X.w) X.A (execs [] X.env) (SP X pins D) X.xe s' | f=>SP X pins D f s') X.xe s1:=fun hl hz=>
  wpAny_mono (hl pins s1 H1 D I1 hz) (fun f s' q=>by cases f<;>first | exact wpAny_execs_nil q | exact q) fun _ _ z=>z
 cases d with
 | true=>exact go ha q1.t
 | false=>exact go hb q1.f
theorem Vm(hth:∀a oe,PSs (X.caught a oe) (b0::bv) (th a oe))(hr:Od X hs tr)(hg:Gl X x)(hm:X.mg x=some (.ref Dc))(hD:PySem.W.typeIn X.K (.ref Dc)=some (.type "type"))(cD:(PySem.W.clsIn X.K Dc).isSome=true)(hB:PySem.W.mroIn X.K Dc (.type "BaseException")=some true)(hN:X.N.Nodup)(hi:X.N[i]? = some n)(hl:X.env.kindOf n=some .local)(hlo:So X.env.scope n)(bL:(x == ("__debug__":Str))=false:=by decide)(ik:X.fn n=true\/X.env.scope.names.lookup n=some .local:=by first | exact .inl rfl | exact .inr rfl | assumption):
  Od X (.ExceptHandler (some (.Name x np)) (some n) (b0::bv) br::hs) (QT X.K Dc i th tr):=by
 intro pins D σ a T C dx H s J F5 ha hT h1 h2 yT h
 obtain⟨r,bG,h⟩:=h
 have ok:=J.ok
 obtain⟨vs,sl,oT,ts,e5,e51,ne5,rest5⟩:=id F5
 have J6:=J.caught e5 ha h1 h2 (fun v z=>by cases z)
 refine wpAny_handleBy_cons (codeAny_handlers_test (C8 (X:=X.caught a ⟨.ref C,dx,.fields vs,sl⟩) J6 hg hm (zC8 (Ih J6.kIn hD cD hB bG e5 rfl) ?_) bL)) (by intro z;cases z)
 cases r with
 | false=>exact hr pins D σ a T C dx H s J F5 ha hT h1 h2 yT h.f
 | true=>
  refine codeAny_handlers_suite_as (QH F5 fun h6 S6 F6=>?_)
  have J7:Inv (X.caught a ⟨.ref C,dx,.fields vs,sl⟩) pins σ H { s with heap:=h6 }:=J6.call' (ch:=[T]) (s':={ s with heap:=h6 }) rfl ((S6.un H).mono (fun b hb=>absurd hb (by simp)) fun _ z=>z)
   (S6.hok J6.hok (fun b hb=>absurd hb (by simp)) fun b hb=>by rw[List.mem_singleton.mp hb];exact hT) J.bare fun b hb=>by
    rw[List.mem_singleton.mp hb]
    obtain⟨y1,y2,y3,y4⟩:=yT
    refine⟨y1,y2,y3,fun p hp=>?_⟩
    rcases List.mem_cons.mp (show p∈(a,(⟨.ref C,dx,.fields vs,sl⟩:Obj))::(X.pn++pins) from hp) with z | z
    ·rw[z];exact zBD ne5
    ·exact y4 p z
  refine G9 (X:=X.caught a ⟨.ref C,dx,.fields vs,sl⟩) J7 hN hi hlo (v:=.ref a) rfl (fun s8 J8=>?_) ik
  refine wpAny_mono (hth a ⟨.ref C,dx,.fields vs,sl⟩ pins s8 _ H (D.lost i) J8 (h.t a vs sl ha)) (fun f s9 q=>?_) fun _ _ z=>False.elim z
  have go:∀{σ9:St}{H9:Hp}{Q:Unit->Shared->Prop},Inv (X.caught a ⟨.ref C,dx,.fields vs,sl⟩) pins σ9 H9 s9->(∀ba,Inv X pins (σ9.set i none) H9 ba->Q () ba)->wpAny (model X.prog X.w) X.A (do bindName X.env n .none;unbindBehindTheSuite X.env n br) Q X.xe s9:=fun J9 kk=>(J9.uncaught (ok:=ok)).nameGone hN hi hl (by rw[ok.kind];rfl) kk
  cases f with
  | next=>obtain⟨σ9,H9,J9,q9⟩:=q;exact go J9 fun ba J10=>⟨_,H9,J10,q9⟩
  | brk=>obtain⟨σ9,H9,J9,q9⟩:=q;exact go J9 fun ba J10=>⟨_,H9,J10,q9⟩
  | cont=>obtain⟨σ9,H9,J9,q9⟩:=q;exact go J9 fun ba J10=>⟨_,H9,J10,q9⟩
  | ret u=>obtain⟨v,σ9,H9,J9,r9,q9⟩:=q;exact go J9 fun ba J10=>⟨v,_,H9,J10,r9,q9⟩
end
end L2
namespace L2
open PySem PySem.Spec PyProof.Rows
section
variable {X:Cx}{Dc:Addr}{i:Nat}{x n:Str}{np br pos:Pos}{body bv:List Stmt}{b0:Stmt}{tb:XK->TS}{th:Addr->Obj->TS}{hs:List ExceptHandler}{tr:QC}{pins:List (Addr×Obj)}{σ:St}{H:Hp}{s:Shared}
end
end L2
namespace L2
open PySem PySem.Spec PyProof.Rows
section
variable {prog:Program}{w:World}{A:Around}{E:Value->Shared->Prop}{s:Shared}{env:Env}
end
end L2
namespace L2
open PySem PySem.Spec PyProof.Rows
section
variable {X:Cx}{tg:Expr}{ah:Addr}{oh:Obj}
end
section
variable {X:Cx}{e tg:Expr}{d:Nat}{acc:Value}{it:Addr}{WB:Sr}{tb:TS}{g:TG}{J:It}{fp:List Addr}{tn:Nat->Heap->Prop}{D:Ends}{pins:List (Addr×Obj)}{σ:St}{H:Hp}{s:Shared}
end
section
variable {X:Cx}{N:List Str}{scope:Scope}{cl:List (Str×Addr)}{js:List (Option Nat)}{ar tg ae:Expr}{aq:List Expr}{rest:List Comprehension}{pos:Pos}{wi:TI}{g:CC->TG}{tb:CC->Addr->TS}
end
end L2
namespace L2
open PySem PySem.Spec PyProof.Rows
theorem Ky(dW:s.heap.IsRevIter it l i)(h:Q (.ref it) s):wpAny (model prog w) A (pyIter (.ref it)) Q E s:=by
 obtain⟨o,ho,hc,_⟩:=id dW
 have hT:s.TypeIs (.ref it) "list_reverseiterator":=⟨o,ho,hc⟩
 refine wpAny_pyIter_slot hT F.slot_lri_iter (wpAny_call_entry F.slot_lri_iter hT F.entry_lri_iter ?_ (F.args_lri_iter_1 (.ref it)))
 exact wpAny_pure ⟨.ref it,rfl,"list_reverseiterator",.builtin "list_reverseiterator.__next__",hT,F.slot_lri_next.lookup,h⟩
def Vx(K:PySem.W.Frag)(a:Addr)(n:Nat):It:=
 ⟨fun i H=>i<n/\∃xs,SqL K H a xs/\xs.length=n,fun i H x H'=>H'=H/\∀xs,SqL K H a xs->xs[n-1-i]? = some x,fun i _=>i=n⟩
theorem Rf{K:PySem.W.Frag}(Pv:Nat->St->Hp->Prop)(h0:Pv 0 σ H)(hl:∀i σ H,i<xs.length->Pv i σ H->SqL K H a xs)(hs:∀i x σ H,i<xs.length->xs[xs.length-1-i]? = some x->Pv i σ H->g x σ H fun σ2 H2=>tb { D with nx:=Pv (i+1),ct:=Pv (i+1),bk:=D.nx } σ2 H2)(hd:∀σ H,Pv xs.length σ H->D.nx σ H):Es (Vx K a xs.length) g tb D σ H:=by
 refine⟨fun i m σ H=>m=xs.length-i/\i<=xs.length/\Pv i σ H,⟨xs.length,by simp,zA4 _,h0⟩,?_⟩
 rintro i m σ H ⟨rfl,hi,p⟩
 by_cases aK:i<xs.length
 ·have q:=hl i σ H aK p
  refine .inr ⟨⟨aK,xs,q,rfl⟩,Pv (i+1),fun σ' H' p'=>⟨xs.length-(i+1),by omega,rfl,aK,p'⟩,fun x H' y=>?_⟩
  obtain⟨e1,e2⟩:=y
  subst e1
  exact hs i x σ _ aK (e2 xs q) p
 ·have e:i=xs.length:=by omega
  subst e
  exact .inl ⟨rfl,hd σ H p⟩
theorem Ov{P:Program}{w:World}{K:PySem.W.Frag}{tg:Expr}(a it:Addr)(n:Nat):Ld P w K tg (Vx K a n) [it] it (fun i h=>h.IsRevIter it a ((n:Int)-1-(i:Nat))) where
 mem:=by simp
 obj:=fun i h st b hb=>by
  have e:b=it:=by simpa using hb
  subst e
  obtain⟨o,e,c,d⟩:=st
  exact⟨o,e,fun v z=>by rw[d] at z;cases z⟩
 keep:=fun i h h' st k=>by
  obtain⟨o,e,c,d⟩:=st
  exact⟨o,k it (by simp) _ e,c,d⟩
 item:=by
  intro X hP hw hK hc i pins s σ H E I hf st hg
  subst hP hw hK
  obtain⟨cw,xs,hq,hn⟩:=hg
  obtain⟨its,rv,p,hz⟩:=I.list hq
  obtain⟨x,hx⟩:∃x,xs[n-1-i]? = some x:=⟨xs[n-1-i],List.getElem?_eq_getElem (by omega)⟩
  obtain⟨u,hu,ru⟩:=rv.get hx
  obtain⟨f0,f1,f2,f3,f4,f5⟩:=hf it (by simp)
  have ei:(n:Int)-1-(i:Nat)=((n-1-i:Nat):Int):=by omega
  rw[ei] at st
  refine wpAny_pyNext_rev_item st p.isList (x:=u) (by simpa using hu) fun h' dC sb=>?_
  have I1:Inv X pins σ H { s with heap:=h' }:=I.turned (t':=s.toks) (fun b o hb e=>(sb.2 b hb).trans e) f0 f1 f3 f4 f5
  obtain⟨o,e,c,d⟩:=id dC
  have e2:((n-1-i:Nat):Int)-1=(n:Int)-1-((i+1:Nat):Int):=by omega
  rw[e2] at dC
  exact⟨u,rfl,KP (s:={ s with heap:=h' }) e c d (by decide) ⟨x,H,I1,ru,⟨rfl,fun ys hy=>by rw[I.list_inj hy hq];exact hx⟩,dC,fun b hb=>(hf b hb).1⟩⟩
 done:=by
  intro X hP hw hK hc i pins s σ H E I hf st hg
  subst hP hw hK
  have hg:i=n:=hg
  subst hg
  have e1:(i:Int)-1-(i:Nat) = -1:=by omega
  rw[e1] at st
  obtain⟨f0,f1,f2,f3,f4,f5⟩:=hf it (by simp)
  exact wpAny_pyNext_rev_end (I.ok.hd hc) st fun h' eb=>⟨rfl,I.turned (t':=s.toks) (fun b o hb e=>eb b o hb e) f0 f1 f3 f4 f5⟩
 self:=fun _ _ _ _ _ st h=>Ky st h
section
variable {X:Cx}{tg:Expr}
inductive PY(K:PySem.W.Frag)(R:It->Hp->Prop)(vs:List V)(H1:Hp):Prop where
 | mk (a:Addr) (xs:List V) (_:vs=[.ref a]) (_:SqL K H1 a xs) (_:R (Vx K a xs.length) H1):PY K R vs H1
def WI(K:PySem.W.Frag)(ta:TA):TI:=fun σ H R=>ta σ H (PY K R)
theorem TR(hg:Gl X "reversed")(hm:X.mg "reversed"=none)(ha:PA X [a] ta)(hs:starEach [a] X.env=[(false,eval a X.env)]:=by rfl):
  PI X tg (.Call (.Name "reversed" p) [a] [] pos) (WI X.K ta):=by
 intro pins s σ H R I h
 refine Call_ (Ch I hg hm boot_reversed (zBI (AO (ha pos pins s σ H _ I h) fun us s1 ⟨vs,H1,I1,r1,q1⟩=>?_) hs rfl))
 obtain⟨a',xs,e,hq,q⟩:=q1
 subst e
 obtain⟨u,rfl,ru⟩:=Df r1
 cases ru
 obtain⟨its,rv,p,hz⟩:=I1.list hq
 have aj:=rv.length
 refine call_reversed_list p.isList ?_
 have st:(s1.heap.push (revObj a' ((its.toArray.size:Int)-1))).IsRevIter s1.heap.objs.size a' ((xs.length:Int)-1-((0:Nat):Int)):=by
  have e:(its.toArray.size:Int)-1=(xs.length:Int)-1-((0:Nat):Int):=by
   rw[zAG]
   omega
  rw[e]
  exact⟨_,Heap.get?_push_size _ rfl,rfl,rfl⟩
 refine Ky st ?_
 refine⟨s1.heap.objs.size,[s1.heap.objs.size],_,_,H1,rfl,I1.kept (t':=s1.toks) fun b o e=>Heap.get?_push_of_some _ e,Ov a' _ xs.length,st,fun b hb=>?_,q⟩
 have e:b=s1.heap.objs.size:=by simpa using hb
 subst e
 exact I1.fpOk (zAA _) (I1.hok.fresh (zAA _))
end
end L2
namespace L2
open PySem PySem.Spec PyProof.Rows
section
variable {X:Cx}{pins:List (Addr×Obj)}{σ:St}{H:Hp}{s:Shared}
theorem Inv.keptL(I:Inv X pins σ H s)(k:∀b u,b≠X.env.locals->s.heap.get? b=some u->h'.get? b=some u)(hm:∀m,s.heap.Ns X.env.locals m->h'.Ns X.env.locals m):Inv X pins σ H { s with heap:=h',toks:=t' }:=by
 have lt:∀b o,X.s₀.heap.get? b=some o->b≠X.env.locals:=fun b o e z=>by
  have h1:=zAD e
  have h2:=I.ok.above
  rw[z] at h1
  exact absurd (zAL h1 h2) (zB4 _)
 have io:∀c v,s.heap.IsCell c v->h'.IsCell c v:=fun c v ⟨o,h1,h2⟩=>by
  obtain⟨m,⟨o2,es,ep,h3,h4,_⟩,_⟩:=I.loc
  refine⟨o,k c o (fun z=>?_) h1,h2⟩
  rw[z,h3] at h1
  cases h1
  rw[h4] at h2
  cases h2
 refine⟨I.ok,I.os,I.bare,⟨fun b o h1 h2 h3 h4=>k b o (lt b o h1) (I.base.keep b o h1 h2 h3 h4),fun b o h1 h2 h3 h4=>?_,I.base.free,fun b o h1 h2=>?_,I.base.tups,I.base.frzs,I.base.tbls⟩,?_,fun x c e=>?_,I.free,I.freeC,fun p hp=>?_,fun a o e=>?_,I.len⟩
 ·obtain⟨sl,h5⟩:=I.base.slot b o h1 h2 h3 h4
  exact⟨sl,k b _ (lt b o h1) h5⟩
 ·obtain⟨o',h5⟩:=I.base.there b o h1 h2
  exact⟨o',k b _ (lt b o h1) h5⟩
 ·obtain⟨m,h1,h2⟩:=I.loc
  refine⟨m,hm m h1,fun i x v e1 e2 e3=>?_⟩
  obtain⟨u,r,lk⟩:=h2 i x v e1 e2 e3
  refine⟨u,r,?_⟩
  rcases lk with h | ⟨h,c,h3,h4⟩
  ·exact .inl h
  ·exact .inr ⟨h,c,h3,io c _ h4⟩
 ·obtain⟨v,h1⟩:=I.cell x c e
  exact⟨v,io c v h1⟩
 ·obtain⟨h1,h2,h3,h4,h5⟩:=I.pin p hp
  exact⟨k _ _ h3 h1,h2,h3,h4,h5⟩
 ·refine (I.hok a o e).stay (fun c v hc q=>k c v (fun z=>?_) q) (fun _ q=>q) fun _ _ q=>q
  have hf:=I.free
  rcases hc with hc | hc
  ·rw[<-z,hc,e] at hf
   cases hf
  ·rw[<-z,hc] at hf
   cases hf
def Xa(ns:List Nat)(i:Nat):Prop:=∀j,j<ns.length->ns.getD i 0<=ns.getD j 0/\(j<i->ns.getD i 0<ns.getD j 0)
inductive My(K:PySem.W.Frag)(x:V)(H:Hp)(Q:VK):Prop where
 | mk (l:Addr) (xs:List V) (d6:List (List V)) (_:x= .ref l) (_:SqL K H l xs) (_:Paired (fun v ys=>∃p,v=V.ref p/\SqL K H p ys) xs d6) (_:xs≠[]) (_:∀i v,xs[i]? = some v->Xa (d6.map List.length) i->Q v H)
theorem Ck{α β:Type}{R:α->β->Prop}:∀{xs:List α}{ys:List β}{i:Nat}{x:α},Paired R xs ys->xs[i]? = some x->∃y,ys[i]? = some y/\R x y
 | _,_,_,_,.nil,e=>by simp at e
 | _,_,0,_,.cons r _,e=>by
  simp at e
  subst e
  exact⟨_,rfl,r⟩
 | _,_,i+1,x,.cons _ q,e=>by
  obtain⟨y,h1,h2⟩:=Ck (i:=i) q (by simpa using e)
  exact⟨y,by simpa using h1,h2⟩
theorem Je(hc:X.calm=true)(I:Inv X pins σ H s)(hx:RelV x (.ref l))(h:My X.K x H Q):wpAny (model X.prog X.w) X.A (call (.builtin "min") [.ref l] [("key",.builtin "len")]) (EP X pins σ Q) X.xe s:=by
 obtain⟨l',xs,d6,rfl,hq,hP,aE,q⟩:=h
 cases hx
 obtain⟨its,rv,pl,hz⟩:=I.list hq
 obtain⟨m,hn,hl⟩:=I.loc
 have hL:=X.env.locals
 obtain⟨news,hnews⟩:∃news:List (Addr×Obj),∀p,p∈news↔s.heap.get? p.1=some p.2/\p.1≠X.env.locals/\X.base.get? p.1=none:=by
  refine⟨(List.range s.heap.objs.size).filterMap fun b=>match s.heap.get? b with | some o=>if b≠X.env.locals/\X.base.get? b=none then some (b,o) else none | none=>none,fun p=>?_⟩
  rw[List.mem_filterMap]
  constructor
  ·rintro⟨b,_,h⟩
   cases e:s.heap.get? b with
   | none=>rw[e] at h;cases h
   | some o=>
    rw[e] at h
    dsimp at h
    by_cases c:b≠X.env.locals/\X.base.get? b=none
    ·rw[if_pos c] at h
     cases h
     exact⟨e,c⟩
    ·rw[if_neg c] at h
     cases h
  ·rintro⟨h1,h2⟩
   refine⟨p.1,List.mem_range.mpr (zAD h1),?_⟩
   rw[h1]
   dsimp
   rw[if_pos h2]
 have fr:Fr X.base X.env.locals s.heap m:=⟨hn,I.bk,zAC I.ok.bsz I.ok.above⟩
 have nw:News X.base X.env.locals s.heap news:=fun p hp=>(hnews p).mp hp
 have keep:∀h,Fr X.base X.env.locals h m->News X.base X.env.locals h news->∀b u,b≠X.env.locals->s.heap.get? b=some u->h.get? b=some u:=fun h f n b u hb e=>by
  cases c:X.base.get? b with
  | some o=>
   have h1:=f.keep b o c
   have h2:=I.bk b o c
   rw[e] at h2
   cases h2
   exact h1
  | none=>exact (n (b,u) ((hnews (b,u)).mpr ⟨e,hb,c⟩)).1
 have isl:∀{p:Addr}{arr:Array Value},s.heap.IsList p arr->∀h,Fr X.base X.env.locals h m->News X.base X.env.locals h news->h.IsList p arr:=fun {p arr} ⟨o,h1,h2,n,h3⟩ h f nn=>by
  refine⟨o,keep h f nn p o (fun z=>?_) h1,h2,n,h3⟩
  obtain⟨o2,es,ep,h4,h5,_⟩:=hn
  rw[z,h4] at h1
  cases h1
  rw[h5] at h3
  cases h3
 have aj:=rv.length
 have dG:xs.length=d6.length:=zA1 hP
 have hn63:=GK
 refine kmb_min (news:=news) (vs:=its) (fun i=>(((d6.map List.length).getD i 0:Nat):Int)) (I.ok.hd hc) fr nw (isl pl.isList) ?_ ?_ ?_
 ·have:0<xs.length:=List.length_pos_iff.mpr aE
  omega
 ·intro i v hv h tk own f n
  have hi:i<xs.length:=by
   have:=(List.getElem?_eq_some_iff.mp hv).1
   omega
  have fT:xs[i]? = some xs[i]:=List.getElem?_eq_getElem hi
  obtain⟨u1,e1,ru⟩:=rv.get fT
  rw[hv] at e1
  cases e1
  obtain⟨ys,hys,p,ep,hp⟩:=Ck hP fT
  rw[ep] at ru
  cases ru
  obtain⟨aT,rv2,pl2,hz2⟩:=I.list hp
  have n':News X.base X.env.locals h news:=fun p hp=>n p (zB _ hp)
  have l2:=rv2.length
  refine Calls.call_len_list (isl pl2.isList h f n') (by rw[zAG];omega) ⟨h,tk+1+1,tk+1,rfl,?_,f,n⟩
  rw[zAG,<-l2]
  have:(d6.map List.length).getD i 0=ys.length:=by
   rw[List.getD_eq_getElem?_getD,List.getElem?_map,hys]
   rfl
  rw[this]
 ·intro i v h' tk' hv hmin f n
  have hi:i<xs.length:=by
   have:=(List.getElem?_eq_some_iff.mp hv).1
   omega
  have fT:xs[i]? = some xs[i]:=List.getElem?_eq_getElem hi
  obtain⟨u1,e1,ru⟩:=rv.get fT
  rw[hv] at e1
  cases e1
  refine⟨xs[i],H,I.keptL (keep h' f n) (fun m' bR=>?_),ru,q i _ fT fun j hj=>?_⟩
  ·have e:m'=m:=by
    obtain⟨o,es,ep,h1,h2,_,h4⟩:=bR
    obtain⟨o',aB,ep',h1',h2',_,h4'⟩:=hn
    rw[h1] at h1'
    cases h1'
    rw[h2] at h2'
    cases h2'
    funext y
    rw[<-h4,<-h4']
   rw[e]
   exact f.ns
  ·have:=hmin j (by rw[List.length_map] at hj;omega)
   omega
end
section
variable {X:Cx}{e:Expr}{te:TE}{p p2 pos kpos:Pos}
inductive KL(K:PySem.W.Frag)(Q:VK)(vs:List V)(H1:Hp):Prop where
 | mk (x) (_:vs=[x]) (_:My K x H1 Q):KL K Q vs H1
def Tg(K:PySem.W.Frag)(t:TA):TE:=fun σ H Q=>t σ H (KL K Q)
theorem Oa(hc:X.calm=true)(hg:Gl X "min")(hm:X.mg "min"=none)(ip:Gl X "len")(aS:X.mg "len"=none)(ha:PA X [e] t)(hv:bootBuiltins "min"=some (.builtin "min"))(gy:bootBuiltins "len"=some (.builtin "len"))(he:backTo pos (starEach [e] X.env)=(false,eval e X.env)::backTo pos (starEach [] X.env):=by rfl)(aD:((backTo pos (starEach [e] X.env)).any (·.1))=false:=by rfl):
  PE X (.Call (.Name "min" p) [e] [⟨some "key",.Name "len" p2,kpos⟩] pos) (Tg X.K t):=by
 intro pins s σ H Q I h
 refine wpAny_Call_Name_kw (Ch I hg hm hv ?_ (by decide) (by decide))
 refine callWith_kw (AO (ha pos pins s σ H _ I h) fun us s1 ⟨vs,H1,I1,r,q⟩=>?_) he aD rfl rfl
 obtain⟨x,rfl,q⟩:=q
 obtain⟨u,rfl,ru⟩:=Df r
 show wpAny _ _ (evalAll ((do let v <-eval (.Name "len" p2) X.env;standAt pos;pure v)::[])) _ _ s1
 refine wpAny_evalAll_cons (wpAny_bind (Ch I1 ip aS gy (wpAny_bind (wpAny_standAt (wpAny_pure (wpAny_evalAll_nil ?_)))) (by decide) (by decide)))
 have q0:=q
 obtain⟨l,xs,d6,rfl,_⟩:=q0
 cases ru
 exact Je (x:=.ref l) hc I1 rfl q
end
end L2
namespace HT2
open PySem L2 PyProof.Rows
def XF(K:PySem.W.Frag)(a:Addr)(xs:List V):Prop:=D0 fun(o:Obj)(its:Array Value)(n:Nat)=>Fs (K.lookup a=some o) (o.cls= .type "tuple") (o.data= .seq its n) (its.size<=sizeLine) (Vals xs its.toList)
def TupAt(K:PySem.W.Frag)(H:Hp)(p:Addr)(xs:List V):Prop:=H p=some (.tup xs)\/XF K p xs
theorem TupAt.sq{K:PySem.W.Frag}(h:TupAt K H p xs):SqT K H p xs:=h.elim (fun e=>.inl (.inl e)) .inr
theorem TupAt.keep{K:PySem.W.Frag}(s:TS H H')(h:TupAt K H p xs):TupAt K H' p xs:=h.elim (fun e=>.inl (s _ _ e)) .inr
def Tr.AtK(K:PySem.W.Frag)(H:Hp):Tr->V->Prop
 | .lt k,v=>∃p,v= .ref p/\TupAt K H p [.str "let",.int k]
 | .nt t,v=>BF fun p u=>Cc (v= .ref p) (TupAt K H p [.str "not",u]) (t.AtK K H u)
 | .bn j a b,v=>D0 fun p x y=>Hw (v= .ref p) (TupAt K H p [.str (jn j),x,y]) (a.AtK K H x) (b.AtK K H y)
theorem Tr.AtK.keep{K:PySem.W.Frag}{H H':Hp}(s:TS H H'):∀{t:Tr}{v:V},t.AtK K H v->t.AtK K H' v
 | .lt k,v,h=>by
  obtain⟨p,e,h⟩:=h
  exact⟨p,e,h.keep s⟩
 | .nt t,v,h=>by
  obtain⟨p,u,e,h,q⟩:=h
  exact⟨p,u,e,h.keep s,Tr.AtK.keep s q⟩
 | .bn j a b,v,h=>by
  obtain⟨p,x,y,e,h,q,r⟩:=h
  exact⟨p,x,y,e,h.keep s,Tr.AtK.keep s q,Tr.AtK.keep s r⟩
theorem Tr.AtK.same{K:PySem.W.Frag}{H H':Hp}(s:Same H H'){t:Tr}{v:V}(h:t.AtK K H v):t.AtK K H' v:=h.keep (TS.same s)
theorem Tr.AtK.isRef{K:PySem.W.Frag}{H:Hp}{t:Tr}{v:V}(h:t.AtK K H v):BF fun p xs=>v= .ref p/\TupAt K H p xs:=by
 cases t with
 | lt k=>obtain⟨p,e,h⟩:=h;exact⟨p,_,e,h⟩
 | nt t=>obtain⟨p,u,e,h,_⟩:=h;exact⟨p,_,e,h⟩
 | bn j a b=>obtain⟨p,x,y,e,h,_⟩:=h;exact⟨p,_,e,h⟩
abbrev PileK(K:PySem.W.Frag)(H:Hp):List V->List Tr->Prop:=Paired fun(v:V)(t:Tr)=>t.AtK K H v
theorem PileK.keep{K:PySem.W.Frag}{H H':Hp}(s:TS H H'):∀{xs:List V}{ts:List Tr},PileK K H xs ts->PileK K H' xs ts
 | _,_,.nil=>.nil
 | _,_,.cons r q=>.cons (Tr.AtK.keep s r) (PileK.keep s q)
theorem PileK.len{K:PySem.W.Frag}{H:Hp}:∀{xs:List V}{ts:List Tr},PileK K H xs ts->xs.length=ts.length
 | _,_,.nil=>rfl
 | _,_,.cons _ q=>congrArg (· + 1) (PileK.len q)
theorem PileK.snoc{K:PySem.W.Frag}{H:Hp}{y:V}{t:Tr}(h:t.AtK K H y):∀{xs:List V}{ts:List Tr},PileK K H xs ts->PileK K H (xs++[y]) (ts++[t])
 | _,_,.nil=>.cons h .nil
 | _,_,.cons r q=>.cons r (PileK.snoc h q)
theorem PileK.get{K:PySem.W.Frag}{H:Hp}:∀{xs:List V}{ts:List Tr}{i:Nat}{x:V},PileK K H xs ts->xs[i]? = some x->∃t,ts[i]? = some t/\Tr.AtK K H t x
 | _,_,_,_,.nil,e=>by simp at e
 | _,_,0,_,.cons r _,e=>by
  simp at e
  subst e
  exact⟨_,rfl,r⟩
 | _,_,i+1,x,.cons _ q,e=>by
  obtain⟨t,h1,h2⟩:=PileK.get (i:=i) q (by simpa using e)
  exact⟨t,by simpa using h1,h2⟩
theorem PileK.at{K:PySem.W.Frag}{xs:List V}{ts:List Tr}{i:Nat}(h:PileK K H xs ts)(e:ts[i]? = some t):∃x,xs[i]? = some x/\Tr.AtK K H t x:=by
 have hl:=h.len
 have hi:i<ts.length:=(List.getElem?_eq_some_iff.mp e).1
 have hx:xs[i]? = some xs[i]:=List.getElem?_eq_getElem (by omega)
 obtain⟨t2,h1,h2⟩:=h.get hx
 rw[e] at h1
 cases h1
 exact⟨_,hx,h2⟩
section
variable {X:Cx}{pins:List (Addr×Obj)}{σ:L2.St}{H:Hp}{s:Shared}
theorem Ca(I:Inv X pins σ H s)(h1:TupAt X.K H p xs)(h2:TupAt X.K H p ys):xs=ys:=by
 obtain⟨its,r1,pl,_⟩:=I.tuple h1.sq
 obtain⟨aT,r2,pl2,_⟩:=I.tuple h2.sq
 obtain⟨o,e,_,n,d⟩:=pl
 obtain⟨o2,e2,_,n2,d2⟩:=pl2
 rw[e] at e2
 cases e2
 rw[d] at d2
 have ei:its.toArray=aT.toArray:=by cases d2;rfl
 have ei':its=aT:=by simpa using ei
 subst ei'
 exact Vals.inj r1 r2
theorem QV(hi:i<4)(hj:j<4)(h:jn i=jn j):i=j:=by
 have d:∀i:Fin 4,∀j:Fin 4,jn i.1=jn j.1->i.1=j.1:=by decide
 exact d ⟨i,hi⟩ ⟨j,hj⟩ h
theorem F8:jn j≠"let":=by
 match j with
 | 0=>decide
 | 1=>decide
 | 2=>decide
 | _+3=>show ("same":Str)≠"let";decide
theorem F1:jn j≠"not":=by
 match j with
 | 0=>decide
 | 1=>decide
 | 2=>decide
 | _+3=>show ("same":Str)≠"not";decide
theorem Gd(I:Inv X pins σ H s){m:Nat}:∀{t u:Tr}{v:V},t.ok m->u.ok m->t.AtK X.K H v->u.AtK X.K H v->t=u
 | .lt k,u,v,ht,hu,h1,h2=>by
  obtain⟨p,rfl,h1⟩:=h1
  cases u with
  | lt k2=>
   obtain⟨p2,e,h2⟩:=h2
   cases e
   have:=Ca I h1 h2
   simp only[zBT,V.int.injEq,and_true,true_and] at this
   have:k=k2:=by omega
   rw[this]
  | nt t2=>
   obtain⟨p2,x,e,h2,_⟩:=h2
   cases e
   have:=Ca I h1 h2
   simp only[zBT,V.str.injEq] at this
   exact absurd this.1 (by decide)
  | bn j a b=>
   obtain⟨p2,x,y,e,h2,_⟩:=h2
   cases e
   have:=Ca I h1 h2
   simp only[zBT,V.str.injEq] at this
   exact absurd this.1.symm F8
 | .nt t,u,v,ht,hu,h1,h2=>by
  obtain⟨p,x1,rfl,h1,a1⟩:=h1
  cases u with
  | lt k2=>
   obtain⟨p2,e,h2⟩:=h2
   cases e
   have:=Ca I h1 h2
   simp only[zBT,V.str.injEq] at this
   exact absurd this.1 (by decide)
  | nt t2=>
   obtain⟨p2,x,e,h2,a2⟩:=h2
   cases e
   have:=Ca I h1 h2
   simp only[zBT,and_true,true_and] at this
   subst this
   rw[Gd I (t:=t) (u:=t2) ht hu a1 a2]
  | bn j a b=>
   obtain⟨p2,x,y,e,h2,_⟩:=h2
   cases e
   have:=Ca I h1 h2
   simp only[zBT,V.str.injEq] at this
   exact absurd this.1.symm F1
 | .bn j a b,u,v,ht,hu,h1,h2=>by
  obtain⟨p,x1,y1,rfl,h1,a1,b1⟩:=h1
  cases u with
  | lt k2=>
   obtain⟨p2,e,h2⟩:=h2
   cases e
   have:=Ca I h1 h2
   simp only[zBT,V.str.injEq] at this
   exact absurd this.1 F8
  | nt t2=>
   obtain⟨p2,x,e,h2,a2⟩:=h2
   cases e
   have:=Ca I h1 h2
   simp only[zBT,V.str.injEq] at this
   exact absurd this.1 F1
  | bn j2 c d=>
   obtain⟨p2,x,y,e,h2,a2,b2⟩:=h2
   cases e
   have:=Ca I h1 h2
   simp only[zBT,V.str.injEq,and_true] at this
   obtain⟨ej,rfl,rfl⟩:=this
   obtain rfl:=QV ht.1 hu.1 ej
   rw[Gd I (t:=a) (u:=c) ht.2.1 hu.2.1 a1 a2,Gd I (t:=b) (u:=d) ht.2.2 hu.2.2 b1 b2]
end
end HT2
namespace HT2
open PySem L2 PyProof.Rows
def Tr.hgt:Tr->Nat
 | .lt _=>0
 | .nt t=>t.hgt+1
 | .bn _ a b=>max a.hgt b.hgt+1
section
variable {X:Cx}{pins:List (Addr×Obj)}{σ:L2.St}{H:Hp}{s:Shared}
theorem B8(I:Inv X pins σ H s)(h1:TupAt X.K H p xs)(h2:TupAt X.K H q ys)(hu:A.units<cLine)(e:Nat->Bool)(he:∀(j:Nat) (x y:V) (x' y':Value),xs[j]? = some x->ys[j]? = some y->L2.RelV x x'->L2.RelV y y'->SeqAt.EqAt A.in1 s x' y' (e j)):SeqAt.RcAt A s (.ref p) (.ref q) ((List.range (min xs.length ys.length)).all e && xs.length == ys.length):=by
 obtain⟨its,r1,pl,_⟩:=I.tuple h1.sq
 obtain⟨aT,r2,pl2,_⟩:=I.tuple h2.sq
 have l1:=r1.length
 have l2:=r2.length
 have hh:=SeqAt.RcAt.tuples (e:=e) (A:=A) pl pl2 hu (fun j j1 j2=>by
  have j1':j<its.length:=by simpa using j1
  have j2':j<aT.length:=by simpa using j2
  have fT:xs[j]? = some xs[j]:=List.getElem?_eq_getElem (by omega)
  have iq:ys[j]? = some ys[j]:=List.getElem?_eq_getElem (by omega)
  obtain⟨u1,e1,ru1⟩:=r1.get fT
  obtain⟨u2,e2,ru2⟩:=r2.get iq
  have e1':its.toArray[j]=u1:=by
   have:=List.getElem?_eq_getElem j1'
   rw[this] at e1
   simpa using zAE e1
  have gq:aT.toArray[j]=u2:=by
   have:=List.getElem?_eq_getElem j2'
   rw[this] at e2
   simpa using zAE e2
  rw[e1',gq]
  exact he j _ _ _ _ fT iq ru1 ru2)
 have ez:its.toArray.size=xs.length:=by simp;omega
 have ez2:aT.toArray.size=ys.length:=by simp;omega
 rw[ez,ez2] at hh
 exact hh
theorem Cb(h1:L2.RelV (.str a) x')(h2:L2.RelV (.str b) y'):SeqAt.EqAt A s x' y' (a == b):=by
 obtain⟨t,rfl⟩:=h1
 obtain⟨t2,rfl⟩:=h2
 exact SeqAt.EqAt.str_str _ _ _ _
theorem Ef{a b:Str}(h:a≠b):(a == b)=false:=beq_false_of_ne h
theorem Dk(I:Inv X pins σ H s){m:Nat}{t u:Tr}{v v':V}{x x':Value}{A:Around}(ht:t.ok m)(hu:u.ok m)(h1:t.AtK X.K H v)(h2:u.AtK X.K H v')(r1:L2.RelV v x)(r2:L2.RelV v' x')(h:SeqAt.RcAt A s x x' (decide (t=u))):SeqAt.EqAt A s x x' (decide (t=u)):=by
 obtain⟨p,_,rfl,_⟩:=h1.isRef
 obtain⟨q,_,rfl,_⟩:=h2.isRef
 cases r1
 cases r2
 by_cases hpq:p=q
 ·subst hpq
  rw[decide_eq_true (Gd I ht hu h1 h2)]
  exact SeqAt.EqAt.same _
 ·exact SeqAt.EqAt.of_refs hpq h
theorem DV(I:Inv X pins σ H s){m:Nat}:∀(t:Tr){u:Tr}{v v':V}{x x':Value}{A:Around},t.ok m->u.ok m->t.AtK X.K H v->u.AtK X.K H v'->L2.RelV v x->L2.RelV v' x'->A.units+t.hgt+2<cLine->SeqAt.RcAt A s x x' (decide (t=u))
 | .lt k,u,v,v',x,x',A,ht,hu,h1,h2,r1,r2,hc=>by
  have h1':=h1
  have h2':=h2
  obtain⟨p,rfl,h1⟩:=h1
  cases r1
  have fq:A.units<cLine:=by omega
  have hc2:A.in1.units<cLine:=by show A.units+1<cLine;omega
  obtain⟨q,_,rfl,_⟩:=h2.isRef
  cases r2
  cases u with
  | lt k2=>
   obtain⟨p2,e,h2⟩:=h2
   cases e
   have hh:=B8 I h1 h2 fq (fun j=>if j=0 then true else decide (k=k2)) (fun j x y x' y' hx hy rx ry=>by
    match j,hx,hy with
    | 0,hx,hy=>
     cases hx
     cases hy
     have:=Cb (s:=s) (A:=A.in1) rx ry
     rw[beq_self_eq_true] at this
     exact this
    | 1,hx,hy=>
     cases hx
     cases hy
     obtain⟨t1,rfl⟩:=rx
     obtain⟨t2,rfl⟩:=ry
     have:=SeqAt.EqAt.int_int (A:=A.in1) (s:=s) (k:Int) t1 (k2:Int) t2
     rw[show ((k:Int) == (k2:Int))=decide (k=k2) by rw[zA5,beq_iff_eq,decide_eq_true_eq];omega] at this
     exact this)
   have ev:((List.range (min [V.str "let",V.int k].length [V.str "let",V.int k2].length)).all (fun j=>if j=0 then true else decide (k=k2)) && [V.str "let",V.int k].length == [V.str "let",V.int k2].length)=decide (Tr.lt k=Tr.lt k2):=by
    by_cases z:k=k2
    ·subst z;simp[zBS]
    ·simp[zBS,z]
   rw[<-ev]
   exact hh
  | nt t2=>
   obtain⟨p2,x2,e,h2,a2⟩:=h2
   cases e
   have hh:=B8 I h1 h2 fq (fun _=>false) (fun j x y x' y' hx hy rx ry=>by
    match j,hx,hy with
    | 0,hx,hy=>
     cases hx
     cases hy
     have:=Cb (s:=s) (A:=A.in1) rx ry
     rw[Ef (by decide)] at this
     exact this
    | 1,hx,hy=>
     cases hx
     cases hy
     obtain⟨t1,rfl⟩:=rx
     obtain⟨q,_,rfl,hq⟩:=a2.isRef
     cases ry
     obtain⟨its,_,pl,_⟩:=I.tuple hq.sq
     exact SeqAt.EqAt.int_tuple _ _ pl hc2)
   rw[decide_eq_false (by intro z;cases z)]
   exact hh
  | bn j2 c d=>
   obtain⟨p2,x2,y2,e,h2,a2,b2⟩:=h2
   cases e
   have hh:=B8 I h1 h2 fq (fun _=>false) (fun j x y x' y' hx hy rx ry=>by
    match j,hx,hy with
    | 0,hx,hy=>
     cases hx
     cases hy
     have:=Cb (s:=s) (A:=A.in1) rx ry
     rw[Ef (fun z=>F8 z.symm)] at this
     exact this
    | 1,hx,hy=>
     cases hx
     cases hy
     obtain⟨t1,rfl⟩:=rx
     obtain⟨q,_,rfl,hq⟩:=a2.isRef
     cases ry
     obtain⟨its,_,pl,_⟩:=I.tuple hq.sq
     exact SeqAt.EqAt.int_tuple _ _ pl hc2)
   rw[decide_eq_false (by intro z;cases z)]
   exact hh
 | .nt t,u,v,v',x,x',A,ht,hu,h1,h2,r1,r2,hc=>by
  have h1':=h1
  have h2':=h2
  obtain⟨p,x1,rfl,h1,a1⟩:=h1
  cases r1
  have hc0:A.units+(t.hgt+1)+2<cLine:=hc
  have fq:A.units<cLine:=by omega
  have hc2:A.in1.units<cLine:=by show A.units+1<cLine;omega
  obtain⟨q,_,rfl,_⟩:=h2.isRef
  cases r2
  cases u with
  | lt k2=>
   obtain⟨p2,e,h2⟩:=h2
   cases e
   have hh:=B8 I h1 h2 fq (fun _=>false) (fun j x y x' y' hx hy rx ry=>by
    match j,hx,hy with
    | 0,hx,hy=>
     cases hx
     cases hy
     have:=Cb (s:=s) (A:=A.in1) rx ry
     rw[Ef (by decide)] at this
     exact this
    | 1,hx,hy=>
     cases hx
     cases hy
     obtain⟨t1,rfl⟩:=ry
     obtain⟨q,_,rfl,hq⟩:=a1.isRef
     cases rx
     obtain⟨its,_,pl,_⟩:=I.tuple hq.sq
     exact SeqAt.EqAt.tuple_int _ _ pl hc2)
   rw[decide_eq_false (by intro z;cases z)]
   exact hh
  | nt t2=>
   obtain⟨p2,x2,e,h2,a2⟩:=h2
   cases e
   have hh:=B8 I h1 h2 fq (fun j=>if j=0 then true else decide (t=t2)) (fun j x y x' y' hx hy rx ry=>by
    match j,hx,hy with
    | 0,hx,hy=>
     cases hx
     cases hy
     have:=Cb (s:=s) (A:=A.in1) rx ry
     rw[beq_self_eq_true] at this
     exact this
    | 1,hx,hy=>
     cases hx
     cases hy
     exact Dk I (t:=t) (u:=t2) ht hu a1 a2 rx ry (DV I t (u:=t2) ht hu a1 a2 rx ry (by show A.units+1+t.hgt+2<cLine;omega)))
   have ev:((List.range (min [V.str "not",x1].length [V.str "not",x2].length)).all (fun j=>if j=0 then true else decide (t=t2)) && [V.str "not",x1].length == [V.str "not",x2].length)=decide (Tr.nt t=Tr.nt t2):=by
    by_cases z:t=t2
    ·subst z;simp[zBS]
    ·simp[zBS,z]
   rw[<-ev]
   exact hh
  | bn j2 c d=>
   obtain⟨p2,x2,y2,e,h2,a2,b2⟩:=h2
   cases e
   have hh:=B8 I h1 h2 fq (fun j=>if j=0 then false else decide (t=c)) (fun j x y x' y' hx hy rx ry=>by
    match j,hx,hy with
    | 0,hx,hy=>
     cases hx
     cases hy
     have:=Cb (s:=s) (A:=A.in1) rx ry
     rw[Ef (fun z=>F1 z.symm)] at this
     exact this
    | 1,hx,hy=>
     cases hx
     cases hy
     exact Dk I (t:=t) (u:=c) ht hu.2.1 a1 a2 rx ry (DV I t (u:=c) ht hu.2.1 a1 a2 rx ry (by show A.units+1+t.hgt+2<cLine;omega)))
   rw[decide_eq_false (by intro z;cases z)]
   exact hh
 | .bn j a b,u,v,v',x,x',A,ht,hu,h1,h2,r1,r2,hc=>by
  have h1':=h1
  have h2':=h2
  obtain⟨p,x1,y1,rfl,h1,a1,b1⟩:=h1
  cases r1
  have hc0:A.units+(max a.hgt b.hgt+1)+2<cLine:=hc
  have fq:A.units<cLine:=by omega
  have hc2:A.in1.units<cLine:=by show A.units+1<cLine;omega
  obtain⟨q,_,rfl,_⟩:=h2.isRef
  cases r2
  cases u with
  | lt k2=>
   obtain⟨p2,e,h2⟩:=h2
   cases e
   have hh:=B8 I h1 h2 fq (fun _=>false) (fun j x y x' y' hx hy rx ry=>by
    match j,hx,hy with
    | 0,hx,hy=>
     cases hx
     cases hy
     have:=Cb (s:=s) (A:=A.in1) rx ry
     rw[Ef F8] at this
     exact this
    | 1,hx,hy=>
     cases hx
     cases hy
     obtain⟨t1,rfl⟩:=ry
     obtain⟨q,_,rfl,hq⟩:=a1.isRef
     cases rx
     obtain⟨its,_,pl,_⟩:=I.tuple hq.sq
     exact SeqAt.EqAt.tuple_int _ _ pl hc2)
   rw[decide_eq_false (by intro z;cases z)]
   exact hh
  | nt t2=>
   obtain⟨p2,x2,e,h2,a2⟩:=h2
   cases e
   have hh:=B8 I h1 h2 fq (fun j=>if j=0 then false else decide (a=t2)) (fun j x y x' y' hx hy rx ry=>by
    match j,hx,hy with
    | 0,hx,hy=>
     cases hx
     cases hy
     have:=Cb (s:=s) (A:=A.in1) rx ry
     rw[Ef F1] at this
     exact this
    | 1,hx,hy=>
     cases hx
     cases hy
     exact Dk I (t:=a) (u:=t2) ht.2.1 hu a1 a2 rx ry (DV I a (u:=t2) ht.2.1 hu a1 a2 rx ry (by show A.units+1+a.hgt+2<cLine;omega)))
   rw[decide_eq_false (by intro z;cases z)]
   exact hh
  | bn j2 c d=>
   obtain⟨p2,x2,y2,e,h2,a2,b2⟩:=h2
   cases e
   have hh:=B8 I h1 h2 fq (fun i=>if i=0 then decide (j=j2) else if i=1 then decide (a=c) else decide (b=d)) (fun i x y x' y' hx hy rx ry=>by
    match i,hx,hy with
    | 0,hx,hy=>
     cases hx
     cases hy
     have:=Cb (s:=s) (A:=A.in1) rx ry
     have e:(jn j == jn j2)=decide (j=j2):=by
      by_cases z:j=j2
      ·subst z;simp
      ·rw[decide_eq_false z];exact Ef fun q=>z (QV ht.1 hu.1 q)
     rw[e] at this
     exact this
    | 1,hx,hy=>
     cases hx
     cases hy
     exact Dk I (t:=a) (u:=c) ht.2.1 hu.2.1 a1 a2 rx ry (DV I a (u:=c) ht.2.1 hu.2.1 a1 a2 rx ry (by show A.units+1+a.hgt+2<cLine;omega))
    | 2,hx,hy=>
     cases hx
     cases hy
     exact Dk I (t:=b) (u:=d) ht.2.2 hu.2.2 b1 b2 rx ry (DV I b (u:=d) ht.2.2 hu.2.2 b1 b2 rx ry (by show A.units+1+b.hgt+2<cLine;omega)))
   have ev:((List.range (min [V.str (jn j),x1,y1].length [V.str (jn j2),x2,y2].length)).all (fun i=>if i=0 then decide (j=j2) else if i=1 then decide (a=c) else decide (b=d)) && [V.str (jn j),x1,y1].length == [V.str (jn j2),x2,y2].length)=decide (Tr.bn j a b=Tr.bn j2 c d):=by
    rw[zA5]
    simp[zBS]
   rw[<-ev]
   exact hh
inductive UO(K:PySem.W.Frag)(x:V)(y:V)(H:Hp)(Q:VK):Prop where
 | mk (t u:Tr) (m:Nat) (_:t.ok m) (_:u.ok m) (_:t.AtK K H x) (_:u.AtK K H y) (_:t.hgt<=100) (_:Q (.bl (decide (t=u))) H):UO K x y H Q
theorem DQ(hu:X.A.units+150<cLine):D1 X (compareOp .Eq) (UO X.K):=by
 intro pins s σ H x y v u Q I rx ry h
 obtain⟨t,u',m,ht,hu',h1,h2,hg,q⟩:=h
 exact DV I t ht hu' h1 h2 rx ry (by omega) _ _ _ _ ⟨.bl _,H,I,rfl,q⟩
theorem _root_.L2.Room.units150(r:Room k A):A.units+150<cLine:=by have:=r.un;omega
end
end HT2
namespace L2
open PySem PySem.Spec PyProof.Rows
def Vk(n:Nat):It:=⟨fun i _=>i<n,fun i H x H'=>H'=H/\x= .int (2*(i:Int)),fun i _=>n<=i⟩
theorem RO(Pv:Nat->St->Hp->Prop)(h0:Pv 0 σ H)(hs:∀i σ H,i<n->Pv i σ H->g (.int (2*(i:Int))) σ H fun σ2 H2=>tb { D with nx:=Pv (i+1),ct:=Pv (i+1),bk:=D.nx } σ2 H2)(hd:∀σ H,Pv n σ H->D.nx σ H):Es (Vk n) g tb D σ H:=by
 refine⟨fun i m σ H=>m=n-i/\i<=n/\Pv i σ H,⟨n,by simp,zA4 _,h0⟩,?_⟩
 rintro i m σ H ⟨rfl,hi,p⟩
 by_cases aK:i<n
 ·refine .inr ⟨aK,Pv (i+1),fun σ' H' p'=>⟨n-(i+1),by omega,rfl,aK,p'⟩,fun x H' y=>?_⟩
  obtain⟨e,e2⟩:=y
  subst e e2
  exact hs i σ _ aK p
 ·have e:i=n:=by omega
  subst e
  exact .inl ⟨zAA _,hd σ H p⟩
theorem OS{P:Program}{w:World}{K:PySem.W.Frag}{tg:Expr}(it:Addr)(n:Nat):Ld P w K tg (Vk n) [it] it (fun i h=>IsRangeIter h it (0+(i:Nat)*2) ((n:Int)-(i:Nat)) 2) where
 mem:=by simp
 obj:=fun i h st b hb=>by
  have e:b=it:=by simpa using hb
  subst e
  exact⟨_,st,fun v z=>by
   have z':Data.fields _=Data.cell v:=z
   cases z'⟩
 keep:=fun i h h' st k=>k it (by simp) _ st
 item:=by
  intro X hP hw hK hc i pins s σ H E I hf st hg
  subst hP hw hK
  obtain⟨f0,f1,f2,f3,f4,f5⟩:=hf it (by simp)
  have W:=Walks.range (prog:=X.prog) (w:=X.w) (I.ok.hd hc) it 0 2 n
  refine W.item i s _ _ hg st fun v h' tk hv dC kk=>?_
  obtain⟨t,rfl⟩:=hv
  have I1:Inv X pins σ H { s with heap:=h',toks:=tk }:=I.turned (fun b o hb e=>kk b o (by simpa using hb) e) f0 f1 f3 f4 f5
  refine⟨_,rfl,KP (s:={ s with heap:=h',toks:=tk }) (n:="range_iterator") dC rfl rfl (by decide) ⟨.int (2*(i:Int)),H,I1,⟨t,?_⟩,⟨rfl,rfl⟩,dC,fun b hb=>(hf b hb).1⟩⟩
  rw[Int.zero_add,zC2]
 done:=by
  intro X hP hw hK hc i pins s σ H E I hf st hg
  subst hP hw hK
  obtain⟨f0,f1,f2,f3,f4,f5⟩:=hf it (by simp)
  exact wpAny_pyNext_range_end (I.ok.hd hc) st (by have:n<=i:=hg;omega) fun h' eb=>⟨rfl,I.turned (t':=s.toks) (fun b o hb e=>eb b o hb e) f0 f1 f3 f4 f5⟩
 self:=fun _ _ _ _ _ st h=>wpAny_pyIter_rangeiter st h
section
variable {X:Cx}{tg:Expr}
inductive RS(R:It->Hp->Prop)(vs:List V)(H1:Hp):Prop where
 | mk (n:Nat) (_:vs=[.int 0,.int (2*(n:Int)),.int 2]) (_:n<=1000) (_:R (Vk n) H1):RS R vs H1
def WV(ta:TA):TI:=fun σ H R=>ta σ H (RS R)
theorem Ol(hg:Gl X "range")(hm:X.mg "range"=none)(ha:PA X [a,b,c] ta)(hs:starEach [a,b,c] X.env=[(false,eval a X.env),(false,eval b X.env),(false,eval c X.env)]:=by rfl)(gd:starEach [b,c] X.env=[(false,eval b X.env),(false,eval c X.env)]:=by rfl):
  PI X tg (.Call (.Name "range" p) [a,b,c] [] pos) (WV ta):=by
 intro pins s σ H R I h
 refine Call_ (Ch I hg hm boot_range (zBI (AO (ha pos pins s σ H _ I h) fun us s1 ⟨vs,H1,I1,r1,q1⟩=>?_) (by rw[hs,gd]) (by rw[gd];rfl)))
 obtain⟨n,e,hn,q⟩:=q1
 subst e
 cases r1 with
 | cons r rr=>
  cases rr with
  | cons r' rr=>
   cases rr with
   | cons r'' rr=>
    cases rr
    obtain⟨t,rfl⟩:=r
    obtain⟨t',rfl⟩:=r'
    obtain⟨t'',rfl⟩:=r''
    refine call_range_3 (by decide) ?_ (.inl (PyProof.noPylong_small (by decide)))
    have ez:Builtin.Range.rangeSize 0 (2*(n:Int)) 2=(n:Int):=by
     unfold Builtin.Range.rangeSize
     rw[if_pos (by decide)]
     by_cases h0:(0:Int)<2*(n:Int)
     ·rw[if_pos h0];omega
     ·rw[if_neg h0];omega
    have hsm:Builtin.Range.small 0 (2*(n:Int)) 2=true:=by
     unfold Builtin.Range.small
     rw[ez]
     have fit:∀i:Int,-4000<=i->i<4000->Builtin.Range.rangeFitsLong i=true:=fun i h1 h2=>by
      unfold Builtin.Range.rangeFitsLong
      rw[decide_eq_true (by omega),decide_eq_true (by omega)]
      rfl
     rw[if_pos (by decide),fit 0 (by decide) (by decide),fit _ (by omega) (by omega),fit 2 (by decide) (by decide),fit (n:Int) (by omega) (by omega),fit _ (by omega) (by omega)]
     simp
    refine wpAny_pyIter_range (IsRange.new ..) hsm ?_
    have I2:Inv X pins σ H1 { s1 with heap:=s1.heap.push { cls:=.type "range",data:=.fields #[.int 0 t,.int (2*(n:Int)) t',.int 2 t''] },toks:=s1.toks }:=I1.kept fun b o e=>Heap.get?_push_of_some _ e
    refine⟨(s1.heap.push { cls:=.type "range",data:=.fields #[.int 0 t,.int (2*(n:Int)) t',.int 2 t''] }).objs.size,[(s1.heap.push { cls:=.type "range",data:=.fields #[.int 0 t,.int (2*(n:Int)) t',.int 2 t''] }).objs.size],_,_,H1,rfl,
     I2.kept (t':=s1.toks) fun b o e=>Heap.get?_push_of_some _ e,OS _ n,?_,fun b hb=>?_,q⟩
    ·have e1:(0:Int)+((0:Nat):Int)*2=0:=by simp
     have e2:((n:Nat):Int)-((0:Nat):Int)=Builtin.Range.rangeSize 0 (2*(n:Int)) 2:=by rw[ez];omega
     show IsRangeIter _ _ ((0:Int)+((0:Nat):Int)*2) (((n:Nat):Int)-((0:Nat):Int)) 2
     rw[e1,e2]
     exact Heap.get?_push_size _ rfl
    ·have e:b=(s1.heap.push { cls:=.type "range",data:=.fields #[.int 0 t,.int (2*(n:Int)) t',.int 2 t''] }).objs.size:=by simpa using hb
     subst e
     exact I2.fpOk (zAA _) (I2.hok.fresh (zAA _))
end
end L2
namespace Toy
open PySem L2 HT2 PyProof.Rows
open PySem.W (clsIn findIn keepIn kitOne mg_of mroIn nsIn typeIn)
set_option maxHeartbeats 64000000
def Bf(i:Nat):Stmt:=PySem.Challenge.pw_holdtalk_k46_doors_of_a_talk.main.body.getD i (.Pass ⟨0,0,0,0⟩)
variable {P:Program}{w:World}{K:PySem.W.Frag}{mg:Str->Option Value}{cK cH cS cT cB cN cO cG cW cL cNK cBN cNT:Addr}
section
variable {CX:Hv}{R:Addr->Prop}{n q:Str}{st:Stmt}{N ps:List Str}{k:Nat}{sp:Sp}
inductive Fd(_:Program)(_:World)(K:PySem.W.Frag)(_:Str->Option Value)(n q:Str)(st:Stmt)(R:Addr->Prop):Prop where
 | mk (f d) (_:Fun K n q st f d) (_:R f)
inductive Fx(P:Program)(w:World)(K:PySem.W.Frag)(mg:Str->Option Value)(R:Addr->Prop)(CX:Hv)(k:Nat)(sp:Sp):Prop where
 | mk (f d ps) (_:∀bz,FnOk P w K mg bz CX k f d ps sp) (_:Binds K d ps []) (_:R f)
def gF(K:PySem.W.Frag)(mg:Str->Option Value)(n:Str)(f:Addr):Prop:=mg n=some (.ref f)/\keepIn K (.ref f)=true
def gI(K:PySem.W.Frag)(mg:Str->Option Value)(C:Addr)(n:Str)(f:Addr):Prop:=Mk K C f/\mg n=some (.ref C)
abbrev FT(P:Program)(w:World)(K:PySem.W.Frag)(mg:Str->Option Value)(n:Str)(st:Stmt):Prop:=Fd P w K mg n n st (gF K mg n)
abbrev FM(P:Program)(w:World)(K:PySem.W.Frag)(mg:Str->Option Value)(C:Addr)(n q:Str)(st:Stmt):Prop:=Fd P w K mg n q st (Ph K C n)
abbrev FI(P:Program)(w:World)(K:PySem.W.Frag)(mg:Str->Option Value)(C:Addr)(n q:Str)(st:Stmt):Prop:=Fd P w K mg "__init__" q st (gI K mg C n)
abbrev Fc(P:Program)(w:World)(K:PySem.W.Frag)(mg:Str->Option Value)(n:Str)(CX:Hv)(k:Nat)(sp:Sp):Prop:=Fx P w K mg (gF K mg n) CX k sp
abbrev Fm(P:Program)(w:World)(K:PySem.W.Frag)(mg:Str->Option Value)(C:Addr)(n:Str)(CX:Hv)(k:Nat)(sp:Sp):Prop:=Fx P w K mg (Ph K C n) CX k sp
abbrev Fi(P:Program)(w:World)(K:PySem.W.Frag)(mg:Str->Option Value)(C:Addr)(n:Str)(CX:Hv)(k:Nat)(sp:Sp):Prop:=Fx P w K mg (gI K mg C n) CX k sp
def Bd(n q:Str)(st:Stmt)(ps:List Str):Prop:=∀(a:Nat->Value)(kV bM pm:Value)(an:Option Addr)(ak ct:Value),
 bindArgs (PySem.W.fnOf n q (C6 st) (BX st) (AZ st) .none kV bM pm an ak ct) ⟨(List.range ps.length).map a,[]⟩=pure (ps.zip ((List.range ps.length).map a))
theorem WZ(us:List Value):us=(List.range us.length).map fun i=>us.getD i .none:=
 zCX (by simp) fun i h _=>by simp[h]
theorem Bd.of(h:Bd n q st ps)(F:Fun K n q st f fd):Binds K fd ps []:=F.binds fun kV bM pm an ak ct us hl=>by
 rw[WZ us,hl]
 exact h _ kV bM pm an ak ct
theorem Fd.okX(F:Fd P w K mg n q st R)(S:DK N ps (AZ st))(h:∀(bz:Heap) (f:Addr) (ak:Value) (A:Around) (outer:List Env) (s:Shared) (H:Hp) (vs:List V) (Q:VK) (E:XK),Room k (A.deeper (envOfC q (AZ st) s.heap.objs.size f ak))->sp vs H Q E->
   ∃t,PSs (Hu CX P w K mg bz N q (AZ st) f ak A outer s H E) (BX st) t/\t { nx:=fun _ H'=>Q .non H',rt:=Q } (D3 N vs) H)(len:∀vs H Q E,sp vs H Q E->vs.length=ps.length:=by rintro _ _ _ _ ⟨⟩;subst_vars;rfl)(hb:Bd n q st ps:=by intro _ _ _ _ _ _ _;rfl):Fx P w K mg R CX (k+1) sp:=by
 obtain⟨f,fd,F,r⟩:=F
 refine⟨f,fd,ps,fun bz=>?_,hb.of F,r⟩
 obtain⟨oc,od,kV,bM,pm,an,ak,ct,gh,rfl,lk,cZ⟩:=F.ex
 exact Uz lk cZ S len fun A outer s H vs Q E hr ce=>h bz f ak A outer s H vs Q E hr ce
theorem Fd.ok(F:Fd P w K mg n q st R)(S:DK N ps (AZ st))(h:∀(bz:Heap) (f:Addr) (ak:Value) (A:Around) (outer:List Env) (s:Shared) (H:Hp) (vs:List V) (Q:VK) (E:XK),Room k (A.deeper (envOfC q (AZ st) s.heap.objs.size f ak))->sp vs H Q E->
   ∃t,PSs (Hu Bh P w K mg bz N q (AZ st) f ak A outer s H E).nox (BX st) t/\t { nx:=fun _ H'=>Q .non H',rt:=Q } (D3 N vs) H)(len:∀vs H Q E,sp vs H Q E->vs.length=ps.length:=by rintro _ _ _ _ ⟨⟩;subst_vars;rfl)(hb:Bd n q st ps:=by intro _ _ _ _ _ _ _;rfl):Fx P w K mg R Bh (k+1) sp:=by
 refine F.okX S (fun bz f ak A outer s H vs Q E hr ce=>?_) len hb
 obtain⟨t,h,q⟩:=h bz f ak A outer s H vs Q E hr ce
 exact⟨t,h.nox,q⟩
theorem Fd.no(ps:List Str)(F:Fd P w K mg n q st R)(no:∀vs H Q E,¬sp vs H Q E)(hb:Bd n q st ps:=by intro _ _ _ _ _ _ _;rfl):Fx P w K mg R CX k sp:=by
 obtain⟨f,fd,F,r⟩:=F
 exact⟨f,fd,ps,fun bz=>⟨fun vs H Q E h=>absurd h (no vs H Q E),fun A outer s H args us vs Q E _ _ _ _ h=>absurd h (no vs H Q E)⟩,hb.of F,r⟩
end
section
variable {X:Cx}{CX:Hv}{x m:Str}{p aG pos:Pos}{j k:Nat}{sp:Sp}{E:XK}{e o:Expr}{es:List Expr}{t:TA}{ta:TE}{C:Addr}
theorem Am(G:Fc X.prog X.w X.K X.mg x CX j sp)(hr:Room k X.A)(hx:BS CX X E)(ha:PA X (e::es) t)(hg:Gl X x:=by rfl)(le:j<=k:=by first | exact zAA _ | decide)(bL:(x == ("__debug__":Str))=false:=by decide)(he:starEach (e::es) X.env=(false,eval e X.env)::starEach es X.env:=by rfl)(aD:(backTo pos (starEach es X.env)).any (·.1)=false:=by rfl):
  PE X (.Call (.Name x p) (e::es) [] pos) (M5 sp [] E t):=by
 obtain⟨_,_,_,g,b,m,k⟩:=G
 exact TQ (g X.base) (hr.mono le) hg m k b .nil hx ha bL he aD
theorem Ro(G:Fc X.prog X.w X.K X.mg x CX j sp)(hr:Room k X.A)(hx:EZ CX X E σ)(ha:PA X (e::es) t)(hg:Gl X x:=by rfl)(le:j<=k:=by first | exact zAA _ | decide)(bL:(x == ("__debug__":Str))=false:=by decide)(he:starEach (e::es) X.env=(false,eval e X.env)::starEach es X.env:=by rfl)(aD:(backTo pos (starEach es X.env)).any (·.1)=false:=by rfl):
  Wb X σ (.Call (.Name x p) (e::es) [] pos) (M5 sp [] E t):=by
 obtain⟨_,_,_,g,b,m,k⟩:=G
 exact Of (g X.base) (hr.mono le) hg m k b .nil hx ha bL he aD
theorem VU(G:Fi X.prog X.w X.K X.mg C x CX j sp)(hr:Room k X.A)(hx:BS CX X E)(ha:PA X (e::es) t)(hg:Gl X x:=by rfl)(le:j+1<=k:=by decide)(bL:(x == ("__debug__":Str))=false:=by decide)(he:starEach (e::es) X.env=(false,eval e X.env)::starEach es X.env:=by rfl)(aD:(backTo pos (starEach es X.env)).any (·.1)=false:=by rfl):
  PE X (.Call (.Name x p) (e::es) [] pos) (UK C sp [] E t):=by
 obtain⟨_,_,_,g,b,m,k⟩:=G
 exact SE m (g X.base) (hr.mono le) hg k b .nil hx ha bL he aD
theorem Oz(ho:PE X o ta)(c:Cls X.K C)(G:Fm X.prog X.w X.K X.mg C m CX j sp)(hr:Room k X.A)(hx:BS CX X E)(ha:PA X (e::es) t)(le:j<=k:=by decide)(cC:starEach (e::es) X.env=(false,eval e X.env)::starEach es X.env:=by rfl)(aD:(backTo pos (starEach es X.env)).any (·.1)=false:=by rfl)(ht:eval (.Call (.Attribute o m aG) (e::es) [] pos) X.env=(do
   let ov <-eval o X.env
   standAt aG.atName
   let (f,first) <-holding [ov] (getMethod ov m pl)
   callWith pos f first (backTo pos (starEach (e::es) X.env)) (backToKw pos (keywordEach [] X.env))):=by rfl):
  PE X (.Call (.Attribute o m aG) (e::es) [] pos) (Ki C m sp [] E ta t):=by
 obtain⟨_,_,_,g,b,m⟩:=G
 exact Tm ho c m (g X.base) (hr.mono le) b .nil hx ha cC aD ht
theorem BP(ho:PE X o ta)(c:Cls X.K C)(G:Fm X.prog X.w X.K X.mg C m CX j sp)(hr:Room k X.A)(hx:BS CX X E)(le:j<=k:=by decide)(ht:eval (.Call (.Attribute o m aG) [] [] pos) X.env=(do
   let ov <-eval o X.env
   standAt aG.atName
   let (f,first) <-holding [ov] (getMethod ov m pl)
   callWith pos f first (backTo pos (starEach [] X.env)) (backToKw pos (keywordEach [] X.env))):=by rfl):
  PE X (.Call (.Attribute o m aG) [] [] pos) (Ki C m sp [] E ta Gx):=by
 obtain⟨_,_,_,g,b,m⟩:=G
 exact Pq ho c m (g X.base) (hr.mono le) b .nil hx ht
end
def X7(N:List Str)(n:Nat)(sc:Scope):Bool:=decide (sc.kind= .function/\sc.isCoroutine=false/\sc.isGenerator=false/\N.Nodup/\(∀x∈N.take n,sc.names.lookup x=some .local\/sc.names.lookup x=some .cell)/\∀y∈sc.names,y.2≠.free)
theorem As(st:Stmt)(N:List Str)(n:Nat)(h:X7 N n (AZ st)=true:=by decide +kernel):DK N (N.take n) (AZ st):=by
 obtain⟨a,b,c,d,e,f⟩:=of_decide_eq_true h
 exact⟨a,b,c,d,by rw[zAM,<-List.take_take,zAN],e,f⟩
section
variable {X:Cx}{x:Str}{pos bK aG aC p:Pos}{e a b o:Expr}{es:List Expr}{te ta tb:TE}{t:TA}{r:R2}{op:CmpOp}{id:Str}
theorem Az(i:Nat)(hN:X.N.Nodup)(he:PE X e te)(hi:X.N[i]? = some x:=by rfl)(hx:So X.env.scope x:=by first | exact Or.inl rfl | exact Or.inr rfl)(hs:swapsWith e (some (.Name x bK)) pos.line X.env=pure false:=by rfl)(hf:X.fn x=true\/X.env.scope.names.lookup x=some .local:=by first | exact .inl rfl | exact .inr rfl | assumption):
  PS X (.Assign [.Name x bK] e pos) (Lv te (Dh i)):=VS hN hi hx he hs hf
theorem AV(i:Nat)(hN:X.N.Nodup:=by decide +kernel)(hi:X.N[i]? = some x:=by rfl)(hx:So X.env.scope x:=by first | exact Or.inl rfl | exact Or.inr rfl)(hf:X.fn x=true\/X.env.scope.names.lookup x=some .local:=by first | exact .inl rfl | exact .inr rfl | assumption):PG X (.Name x pos) (Dh i):=Jb hN hi hx hf
theorem AN(hr:Wu X r)(ha:PE X a ta)(hb:PE X b tb)(hs:MW b:=by exact fun _ _=>rfl):PE X (.Subscript a b pos) (Sn r ta tb):=WQ hr ha hb hs
theorem AH(ho:D1 X (compareOp op) r)(ha:PE X a ta)(hb:PE X b tb)(hm:behindInMarks op b=false:=by exact Cf _):PT X (.Compare a [op] [b] pos) (Iw (Sn r ta tb)):=DI ho ha hb hm
theorem AR(ha:PE X a ta)(hs:starEach [a] X.env=(false,eval a X.env)::starEach [] X.env:=by rfl):PA X [a] (D4 ta Gx):=Ac ha Bk hs
theorem Av(ha:PE X a ta)(hb:PE X b tb)(h1:starEach [b] X.env=(false,eval b X.env)::starEach [] X.env:=by rfl)(h2:starEach [a,b] X.env=(false,eval a X.env)::starEach [b] X.env:=by rfl):PA X [a,b] (D4 ta (D4 tb Gx)):=Ac ha (Ac hb Bk h1) h2
theorem AK(he:PE X e te):PSs X [.Return (some e) pos] (Wh te):=Aj (R8 he)
theorem BA(ho:PE X o to)(ha:PA X (e::es) t)(h1:attributeBase o "append" X.env (eval o X.env)=eval o X.env:=by rfl)(h2:((backTo aC (starEach (e::es) X.env)).all (fun x=>!x.1) && (backToKw aC (keywordEach [] X.env)).all (fun x=>x.1.isSome) && decide ((e::es).length+([]:List Keyword).length+(if ([]:List Keyword).isEmpty then 0 else 1)<30))=true:=by rfl)(h3:(aG.endLine == aC.line)=true:=by rfl)(h4:starEach (e::es) X.env=(false,eval e X.env)::starEach es X.env:=by rfl)(h5:(backTo aC (starEach es X.env)).any (·.1)=false:=by rfl):
  PE X (.Call (.Attribute o "append" aG) (e::es) [] aC) (X2 X.K "list" ND to t):=Ur zBZ PySem.F.slot_list_append PySem.F.type_list_append Id ho ha h1 h2 h3 h4 h5
theorem C5(ho:PE X o to)(h1:attributeBase o "pop" X.env (eval o X.env)=eval o X.env:=by rfl)(h3:(aG.endLine == aC.line)=true:=by rfl):
  PE X (.Call (.Attribute o "pop" aG) [] [] aC) (Wy X.K "list" WU to):=LN zBZ PySem.F.slot_list_pop PySem.F.type_list_pop UW ho h1 h3
end
structure Bl(mg:Str->Option Value):Prop where
 abs:mg "abs"=none
 len:mg "len"=none
 range:mg "range"=none
inductive UJ(K:PySem.W.Frag)(vs:List V)(H:Hp)(Q:VK)(E:XK):Prop where
 | mk (a:Addr) (ns:List Int) (k:Int) (_:vs=[.ref a,.int k]) (_:SqL K H a (ns.map V.int)) (_:ns.length<=63) (_:0<=k) (_:k<=1000) (_:∀(n:Int)(H':Hp),0<=n->Same H H'->Q (.int n) H'):UJ K vs H Q E
inductive Qt(vs:List V)(H:Hp)(Q:VK)(E:XK):Prop where
 | mk (n:Int) (most many:Nat) (_:vs=[.int n,.int most,.int many]) (_:0<=n) (_:1<=most) (_:most<=12) (_:1<=many) (_:many<=5) (_:∀(v:V)(t:Tr)(H':Hp),Same H H'->t.At H' v->t.ok many->t.size+1<=2*most->Q v H'):Qt  vs H Q E
abbrev W1:Stmt:=Bf 72
abbrev WM:Stmt:=Bf 82
abbrev Uv:Stmt:=Bf 77
abbrev JM:Stmt:=Bf 75
abbrev IV:Stmt:=Bf 78
abbrev UM:Stmt:=Bf 79
abbrev PK:Stmt:=Bf 73
abbrev Ia:Stmt:=Bf 74
abbrev Q5:Stmt:=Bf 76
abbrev Pr:Stmt:=Bf 90
abbrev QE:Stmt:=Bf 80
abbrev UR:Stmt:=Bf 93
abbrev Qg:Stmt:=Bf 87
abbrev US:Stmt:=Bf 24
abbrev QD:Stmt:=Bf 28
abbrev IA:Stmt:=Bf 27
abbrev Fu:Stmt:=Bf 26
abbrev Sh:Stmt:=Bf 14
abbrev Pw:Stmt:=Bf 19
abbrev MG:Stmt:=Bf 20
abbrev Rr:Stmt:=Bf 21
abbrev NV:Stmt:=Bf 22
abbrev HQ:Stmt:=Bf 23
abbrev Uw:Stmt:=Bf 8
abbrev Qe:Stmt:=Bf 9
abbrev QW:Stmt:=Bf 12
abbrev W8:Stmt:=Bf 10
abbrev Q3:Stmt:=Bf 11
abbrev Q7:Stmt:=Bf 37
abbrev NF:Stmt:=Bf 32
abbrev ME:Stmt:=Bf 33
abbrev Mx:Stmt:=Bf 39
abbrev K0:Stmt:=Bf 40
abbrev Nx:Stmt:=Bf 41
abbrev Nr:Stmt:=Bf 31
abbrev KM:Stmt:=Bf 30
abbrev Jv:Stmt:=Bf 15
abbrev Kd:Stmt:=Bf 25
abbrev Qi:Stmt:=Bx (Bf 43) 1
abbrev Q0:Stmt:=Bx (Bf 43) 2
abbrev QX:Stmt:=Bx (Bf 43) 3
abbrev NI:Stmt:=Bx (Bf 43) 4
abbrev ML:Stmt:=Bx (Bf 43) 5
abbrev Iu:Stmt:=Bx (Bf 43) 6
abbrev Lj:Stmt:=Bx (Bf 43) 7
abbrev QO:Stmt:=Bx (Bf 43) 8
abbrev Si:Stmt:=Bx (Bf 43) 0
abbrev Uq:Stmt:=Bx (Bf 43) 9
abbrev Kr:Stmt:=Bf 44
abbrev UP:Stmt:=Bx (Bf 43) 10
abbrev UL:Stmt:=Bx (Bf 43) 13
abbrev R5:Stmt:=Bx (Bf 43) 12
abbrev NS:Stmt:=Bf 81
abbrev NN:Stmt:=Bf 84
abbrev JX:Stmt:=Bf 88
abbrev RZ:Stmt:=Bf 85
abbrev P9:Stmt:=Bf 86
abbrev Sk:Stmt:=Bf 83
abbrev Mv:Stmt:=Bf 92
abbrev Rq:Stmt:=Bf 94
abbrev M3:Stmt:=Bf 95
abbrev Ra:Stmt:=Bf 46
abbrev MM:Stmt:=Bf 48
abbrev NJ:Stmt:=Bf 49
abbrev KZ:Stmt:=Bf 89
abbrev Km:Stmt:=Bf 55
abbrev MR:Stmt:=Bf 57
abbrev JC:Stmt:=Bf 59
abbrev QI:Stmt:=Bf 60
abbrev MO:Stmt:=Bf 70
abbrev Q4:Stmt:=Bf 69
abbrev Nt:Stmt:=Bf 58
abbrev Mq:Stmt:=Bf 35
abbrev Ni:Stmt:=Bf 36
abbrev HN:Stmt:=Bf 63
abbrev NK:Stmt:=Bf 64
abbrev KO:Stmt:=Bf 62
abbrev NU:Stmt:=Bf 68
abbrev Kg:Stmt:=Bf 67
abbrev K8:Stmt:=Bf 53
abbrev JS:Stmt:=Bf 54
abbrev Ri:Stmt:=Bf 66
abbrev WA:Stmt:=Bf 96
abbrev UG:Stmt:=Bf 97
abbrev Ml:Stmt:=Bf 99
abbrev JL:Stmt:=Bf 98
abbrev Vj:Stmt:=Bf 100
structure XX(mg:Str->Option Value):Prop where
 isi:mg "isinstance"=none
 int:mg "int"=none
 bool:mg "bool"=none
 str:mg "str"=none
 tup:mg "tuple"=none
 lst:mg "list"=none
 set:mg "set"=none
 sorted:mg "sorted"=none
 rng:mg "range"=none
 any:mg "any"=none
 all:mg "all"=none
def alw:Tr:=.bn 1 (.lt 0) (.nt (.lt 0))
def nev:Tr:=.bn 0 (.lt 0) (.nt (.lt 0))
structure KC(K:PySem.W.Frag)(mg:Str->Option Value)(aA aN:Addr):Prop where
 mA:mg "ALWAYS"=some (.ref aA)
 mN:mg "NEVER"=some (.ref aN)
 tA:∀H,alw.AtK K H (.ref aA)
 tN:∀H,nev.AtK K H (.ref aN)
structure OwnX(K:PySem.W.Frag)(mg:Str->Option Value)(nm:Str)(C cT:Addr):Prop where
 at_:XAt K C cT
 cls:VP K C cT none
 m:mg nm=some (.ref C)
 ty:typeIn K (.ref C)=some (.type "type")
 ic:(clsIn K C).isSome=true
 bs:mroIn K C (.type "BaseException")=some true
 slf:mroIn K C (.ref C)=some true
 up:mroIn K C (.ref cT)=some true
 kv:kitOne K (.ref C) (.type "ValueError")=some true
structure W9(K:PySem.W.Frag)(mg:Str->Option Value)(cT:Addr):Prop where
 m:mg "TalkError"=some (.ref cT)
 ty:typeIn K (.ref cT)=some (.type "type")
 ic:(clsIn K cT).isSome=true
 bs:mroIn K cT (.type "BaseException")=some true
 mV:mg "ValueError"=none
 isi:mg "isinstance"=none
def EU(ns:List Int)(k:Int):Int:=if h:(k%(ns.length:Int)).toNat<ns.length then (if ns[(k%(ns.length:Int)).toNat]<0 then -ns[(k%(ns.length:Int)).toNat] else ns[(k%(ns.length:Int)).toNat]) else 0
def UT(c k:Int):Int:=(c*48271+40692*k+11)%2147483647*2147483629+((c*48271+40692*k+11)%2147483647*((c*48271+40692*k+11)%2147483647)+69621*c+17)%2147483629
def KY(ns:List Int)(k:Int):Int:=if k<(ns.length:Int)/\EU ns k>=1000000000000 then EU ns k else UT (EU ns k) k
inductive L4(K:PySem.W.Frag)(vs:List V)(H:Hp)(Q:VK)(E:XK):Prop where
 | mk (a:Addr) (ns:List Int) (k:Int) (_:vs=[.ref a,.int k]) (_:SqL K H a (ns.map V.int)) (_:ns.length<=63) (_:0<=k) (_:k<=1000) (_:∀(H':Hp),0<=KY ns k->Same H H'->Q (.int (KY ns k)) H'):L4 K vs H Q E
theorem DU{K:PySem.W.Frag}(G:Fc P w K mg "_law_num" Bh 1 (L4 K)):Fc P w K mg "_law_num" Bh 1 (UJ K):=by
 obtain⟨f,fd,ps,g,b,r⟩:=G
 refine⟨f,fd,ps,fun bz=>(g bz).imp fun vs H Q E h=>?_,b,r⟩
 obtain⟨a,ns,k,e,h1,h2,h3,h4,q⟩:=h
 exact⟨a,ns,k,e,h1,h2,h3,h4,fun H' h0 s=>q _ H' h0 s⟩
structure X3(K:PySem.W.Frag)(C:Addr):Prop where
 cl:Cls K C
 many:NoAttr K C "many"
 kind:NoAttr K C "kind"
 sentence:NoAttr K C "sentence"
 rule:NoAttr K C "rule"
 space:NoAttr K C "space"
 parts:NoAttr K C "parts"
 given:NoAttr K C "given"
 left:NoAttr K C "left"
 ended:NoAttr K C "ended"
def KF(K:PySem.W.Frag)(mg:Str->Option Value)(n:Str)(c:Addr):Prop:=mg n=some (.ref c)/\PySem.W.makesIn K c=true/\keepIn K (.ref c)=true
theorem fi{K:PySem.W.Frag}{st:Stmt}(t:KF K mg cn C)(h:FM P w K mg C "__init__" q st):FI P w K mg C cn q st:=by
 obtain⟨f,d,F,m⟩:=h
 exact⟨f,d,F,⟨t.2.1,m.at_,m.fn,t.2.2⟩,t.1⟩
theorem ex_KCh(X:K.In h)(G:h.Ns mainGlobals mg)(lkcA:nsIn K mainGlobals "ALWAYS"=some (some (.ref aA)))(lkcN:nsIn K mainGlobals "NEVER"=some (some (.ref aN)))(lkdA:K.lookup aA=some ⟨.type "tuple",kdaA,.seq #[.str "or" ktaA,.ref fU,.ref kqA] knaA,ksaA⟩)(lkeA:K.lookup fU=some ⟨.type "tuple",kdbA,.seq #[.str "let" ktbA,.int 0 ktcA] knbA,ksbA⟩)(lkfA:K.lookup kqA=some ⟨.type "tuple",kdcA,.seq #[.str "not" ktdA,.ref krA] kncA,kscA⟩)(lkgA:K.lookup krA=some ⟨.type "tuple",kddA,.seq #[.str "let" kteA,.int 0 ktfA] kndA,ksdA⟩)(lkdN:K.lookup aN=some ⟨.type "tuple",kdaN,.seq #[.str "and" ktaN,.ref kpN,.ref kqN] knaN,ksaN⟩)(lkeN:K.lookup kpN=some ⟨.type "tuple",kdbN,.seq #[.str "let" ktbN,.int 0 ktcN] knbN,ksbN⟩)(lkfN:K.lookup kqN=some ⟨.type "tuple",kdcN,.seq #[.str "not" ktdN,.ref krN] kncN,kscN⟩)(lkgN:K.lookup krN=some ⟨.type "tuple",kddN,.seq #[.str "let" kteN,.int 0 ktfN] kndN,ksdN⟩):KC K mg aA aN:=⟨mg_of X G lkcA,mg_of X G lkcN,fun H=>⟨aA,.ref fU,.ref kqA,rfl,.inr ⟨_,_,_,lkdA,rfl,rfl,E2,.cons ⟨_,rfl⟩ (.cons rfl (.cons rfl .nil))⟩,⟨fU,rfl,.inr ⟨_,_,_,lkeA,rfl,rfl,BT,.cons ⟨_,rfl⟩ (.cons ⟨_,rfl⟩ .nil)⟩⟩,⟨kqA,.ref krA,rfl,.inr ⟨_,_,_,lkfA,rfl,rfl,BT,.cons ⟨_,rfl⟩ (.cons rfl .nil)⟩,⟨krA,rfl,.inr ⟨_,_,_,lkgA,rfl,rfl,BT,.cons ⟨_,rfl⟩ (.cons ⟨_,rfl⟩ .nil)⟩⟩⟩⟩,fun H=>⟨aN,.ref kpN,.ref kqN,rfl,.inr ⟨_,_,_,lkdN,rfl,rfl,E2,.cons ⟨_,rfl⟩ (.cons rfl (.cons rfl .nil))⟩,⟨kpN,rfl,.inr ⟨_,_,_,lkeN,rfl,rfl,BT,.cons ⟨_,rfl⟩ (.cons ⟨_,rfl⟩ .nil)⟩⟩,⟨kqN,.ref krN,rfl,.inr ⟨_,_,_,lkfN,rfl,rfl,BT,.cons ⟨_,rfl⟩ (.cons rfl .nil)⟩,⟨krN,rfl,.inr ⟨_,_,_,lkgN,rfl,rfl,BT,.cons ⟨_,rfl⟩ (.cons ⟨_,rfl⟩ .nil)⟩⟩⟩⟩⟩
variable {aA aN:Addr}
structure Ev(P:Program)(w:World)(K:PySem.W.Frag)(mg:Str->Option Value)(aA aN:Addr)(cK cT cS cB cN cO:Addr):Prop where
 h1:FT P w K mg "_law_num" W1
 h2:FT P w K mg "_law_few" WM
 h3:FT P w K mg "_law_sentence" Uv
 h4:FT P w K mg "_law_worlds" JM
 h5:FT P w K mg "_law_some" PK
 h6:FT P w K mg "_law_some_one" Ia
 h7:FT P w K mg "_law_room" Q5
 h8:FT P w K mg "_law_true" IV
 h9:FT P w K mg "_law_ins" UM
 h10:FT P w K mg "_law_kind" QE
 h11:FT P w K mg "_law_start" NS
 h12:FT P w K mg "_law_rule" Sk
 h13:FT P w K mg "_law_last" RZ
 h14:FT P w K mg "_law_asked" NN
 h15:FT P w K mg "_law_asks" P9
 h16:FT P w K mg "_law_seen" Qg
 h17:FT P w K mg "_law_seen_at" JX
 h19:FT P w K mg "refuse_over" Kr
 h20:FT P w K mg "parts_of" Sh
 h21:FT P w K mg "letters" Jv
 h22:FT P w K mg "refuse_strange" Kd
 h23:FT P w K mg "steps_of" Rr
 h24:FT P w K mg "letter_holds" Pw
 h25:FT P w K mg "joined" MG
 h26:FT P w K mg "true_by" NV
 h27:FT P w K mg "worlds_of" HQ
 h28:FT P w K mg "in_first_only" Qe
 h29:FT P w K mg "all_within" Q3
 h30:FT P w K mg "in_both" Uw
 h31:FT P w K mg "some_within" QW
 h32:FT P w K mg "plain" Q7
 h33:FT P w K mg "left_by" Mx
 h34:FT P w K mg "missed_side" NF
 h35:FT P w K mg "barring_side" K0
 h36:FT P w K mg "answer" Nx
 h42:FT P w K mg "_law_driven" KZ
 h43:FT P w K mg "_law_row" Ml
 h44:FT P w K mg "sides_of" KM
 h45:FT P w K mg "in_any" W8
 h46:FT P w K mg "base_of" Nr
 h49:FT P w K mg "paper_of" K8
 h50:FT P w K mg "paper_holds" JS
 h51:FT P w K mg "way_to" Ri
 h52:FT P w K mg "refuse_row" MR
 h53:FT P w K mg "judged" Nt
 h54:FT P w K mg "catching_parts" NU
 h55:FT P w K mg "all_worlds" US
 h56:FT P w K mg "both" QD
 h57:FT P w K mg "by_letter" IA
 h58:FT P w K mg "sentence_of" Fu
 h61:FT P w K mg "stands" ME
 h63:FT P w K mg "catch_by" Kg
 h64:FT P w K mg "least_granted" MO
 h65:FT P w K mg "apart_by" Q4
 h66:FT P w K mg "checked_sides" JC
 h67:FT P w K mg "worlds_left" Ra
 h68:FT P w K mg "common_behind" MM
 h69:FT P w K mg "needed_rows" NJ
 h70:FT P w K mg "clash_by" Km
 h71:FT P w K mg "falls" QI
 h72:FT P w K mg "all_marks" HN
 h73:FT P w K mg "agrees" Mq
 h74:FT P w K mg "seen_by" Ni
 h75:FT P w K mg "all_due" NK
 h76:FT P w K mg "guesses" KO
 h77:FT P w K mg "_law_do" WA
 h78:FT P w K mg "_law_refusal" UG
 h79:FT P w K mg "_law_footing_first" JL
 h80:FT P w K mg "_law_whole" Pr
 h81:FT P w K mg "_law_tree_is" Mv
 h82:FT P w K mg "_law_says" UR
 h83:FT P w K mg "_law_pair_is" Rq
 h84:FT P w K mg "_law_pairs_are" M3
 h87:FT P w K mg "law" Vj
 kTalk:KF K mg "Talk" cK
 TX:X3 K cK
 h18:FM P w K mg cK "over" "Talk.over" QO
 h37:FM P w K mg cK "held" "Talk.held" QX
 h38:FM P w K mg cK "base" "Talk.base" Q0
 h39:FM P w K mg cK "going" "Talk.going" NI
 h40:FM P w K mg cK "ask" "Talk.ask" Uq
 h41:FM P w K mg cK "say" "Talk.say" UP
 h47:FM P w K mg cK "__init__" "Talk.__init__" Si
 h48:FM P w K mg cK "fork" "Talk.fork" R5
 h59:FM P w K mg cK "room" "Talk.room" Qi
 h60:FM P w K mg cK "sides" "Talk.sides" ML
 h62:FM P w K mg cK "caught" "Talk.caught" Lj
 h85:FM P w K mg cK "end" "Talk.end" UL
 h86:FM P w K mg cK "entries" "Talk.entries" Iu
 XT:W9 K mg cT
 X_StrangeLetter:OwnX K mg "StrangeLetter" cS cT
 X_BadWord:OwnX K mg "BadWord" cB cT
 X_NoStanding:OwnX K mg "NoStanding" cN cT
 X_TalkOver:OwnX K mg "TalkOver" cO cT
 A_TalkOver_StrangeLetter:mroIn K cO (.ref cS)=some false
 A_TalkOver_BadWord:mroIn K cO (.ref cB)=some false
 A_TalkOver_NoStanding:mroIn K cO (.ref cN)=some false
 A_StrangeLetter_TalkOver:mroIn K cS (.ref cO)=some false
 A_StrangeLetter_BadWord:mroIn K cS (.ref cB)=some false
 A_StrangeLetter_NoStanding:mroIn K cS (.ref cN)=some false
 A_BadWord_TalkOver:mroIn K cB (.ref cO)=some false
 A_BadWord_StrangeLetter:mroIn K cB (.ref cS)=some false
 A_BadWord_NoStanding:mroIn K cB (.ref cN)=some false
 A_NoStanding_StrangeLetter:mroIn K cN (.ref cS)=some false
 A_NoStanding_BadWord:mroIn K cN (.ref cB)=some false
 zabs:mg "abs"=none
 zlen:mg "len"=none
 zrange:mg "range"=none
 zisinstance:mg "isinstance"=none
 zint:mg "int"=none
 zbool:mg "bool"=none
 zstr:mg "str"=none
 ztuple:mg "tuple"=none
 zlist:mg "list"=none
 zset:mg "set"=none
 zsorted:mg "sorted"=none
 zany:mg "any"=none
 zall:mg "all"=none
 zValueError:mg "ValueError"=none
 zenumerate:mg "enumerate"=none
 zmin:mg "min"=none
 zreversed:mg "reversed"=none
 KCh:KC K mg aA aN
theorem Ev.B(aa:Ev P w K mg aA aN cK cT cS cB cN cO):Bl mg:=⟨aa.zabs,aa.zlen,aa.zrange⟩
theorem Ev.T(aa:Ev P w K mg aA aN cK cT cS cB cN cO):XX mg:=⟨aa.zisinstance,aa.zint,aa.zbool,aa.zstr,aa.ztuple,aa.zlist,aa.zset,aa.zsorted,aa.zrange,aa.zany,aa.zall⟩
section
def scNum:=As W1 ["_law_script","_law_k","_law_cell","_law_one","_law_two"] 2
def WG:=As WM ["_law_n"] 1
inductive UI(vs:List V)(H:Hp)(Q:VK)(E:XK):Prop where
 | mk (n:Int) (_:vs=[.int n]) (_:0<=n) (_:∀(m:Nat)(H':Hp),1<=m->m<=5->Same H H'->Q (.int m) H'):UI  vs H Q E
def fews:List Int:=[3,2,3,1,3,2,4,5]
theorem Ye:8<=sizeLine:=by decide
theorem VD(h:i<8):∃m:Nat,Cc (1<=m) (m<=5) ((fews.map V.int)[i]? = some (.int m)):=by
 match i,h with
 | 0,_=>exact⟨3,by decide,by decide,rfl⟩
 | 1,_=>exact⟨2,by decide,by decide,rfl⟩
 | 2,_=>exact⟨3,by decide,by decide,rfl⟩
 | 3,_=>exact⟨1,by decide,by decide,rfl⟩
 | 4,_=>exact⟨3,by decide,by decide,rfl⟩
 | 5,_=>exact⟨2,by decide,by decide,rfl⟩
 | 6,_=>exact⟨4,by decide,by decide,rfl⟩
 | 7,_=>exact⟨5,by decide,by decide,rfl⟩
theorem Vu(aa:Ev P w K mg aA aN cK cT cS cB cN cO):Fc P w K mg "_law_few" Bh 1 UI:=by
 refine aa.h2.ok WG ?_
 rintro bz f ak A outer s H _ Q E hr ⟨n,rfl,h0,q⟩
 refine⟨_,AK (AN AD (Ar (Ac Ad (Ac Ad (Ac Ad (Ac Ad (Ac Ad (Ac Ad (Av Ad Ad)))))))) (Ak AL (pv 0) Ad)),?_⟩
 have h1:=zAV n (show (8:Int)≠0 by decide)
 have h2:=zAY n (show (0:Int)<8 by decide)
 obtain⟨m,m1,m5,hm⟩:=VD (i:=(n%8).toNat) (by omega)
 have aU:EF (fews.map V.int) (n%8)=some (.int m):=by
  have e:n%8=(((n%8).toNat:Nat):Int):=by omega
  rw[e]
  exact Af (j:=(n%8).toNat) hm
 refine⟨Ye,fun l hl=>?_⟩
 refine⟨(by show (0:Int)<8;decide),SqL.of upd_same,aU,?_⟩
 exact q m _ m1 m5 (Ab hl _)
end
section
def scSent:=As Uv ["_law_n","_law_most","_law_many","_law_joints","_law_pile","_law_size","_law_turn","_law_digit","_law_right"] 3
structure PileAt(H1 H2:Hp)(pl:Addr)(xs:List V)(ts:List Tr)(many:Nat):Prop where
 sm:Same H1 H2
 at':H2 pl=some (.lst xs)
 pile:Pile H2 xs ts
 ok:∀t∈ts,t.ok many
theorem PileAt.len(p:PileAt H1 H2 pl xs ts many):xs.length=ts.length:=p.pile.len
theorem PileAt.pop(np:H1 pl=none)(p:PileAt H1 H2 pl xs ts many)(h:0<ts.length):
  D0 fun y dw t=>Fs (xs[xs.length-1]? = some y) (ts=dw++[t]) (t.ok many) (t.At (upd H2 pl (.lst xs.dropLast)) y) (PileAt H1 (upd H2 pl (.lst xs.dropLast)) pl xs.dropLast dw many):=by
 obtain⟨hU,y,dw,t,rfl,rfl,q,a⟩:=p.pile.last h
 refine⟨y,dw,t,EX _ _,rfl,p.ok t (by simp),a.keep (TS.lst p.at'),⟨AA p.sm np _,upd_same,?_,fun u hu=>p.ok u (by simp[hu])⟩⟩
 rw[zBP]
 exact q.keep (TS.lst p.at')
theorem PileAt.new(p:PileAt H1 H2 pl xs ts many)(he:H2 e=none):PileAt H1 (upd H2 e o) pl xs ts many:=
 ⟨p.sm.trans (Ab he _),(Ab he _) _ _ p.at',p.pile.keep (TS.new he),p.ok⟩
theorem PileAt.put(np:H1 pl=none)(p:PileAt H1 H2 pl xs ts many)(hc:H2 c=none)(ht:t.ok many)(ha:t.At (upd (upd H2 c (.tup ys)) pl (.lst (xs++[.ref c]))) (.ref c)):PileAt H1 (upd (upd H2 c (.tup ys)) pl (.lst (xs++[.ref c]))) pl (xs++[.ref c]) (ts++[t]) many:=by
 have k:TS H2 (upd (upd H2 c (.tup ys)) pl (.lst (xs++[.ref c]))):=(TS.new hc).trans (TS.lst (xs:=xs) (by rw[Al (Ah p.at' hc)];exact p.at'))
 refine⟨AA (p.sm.trans (Ab hc _)) np _,upd_same,(p.pile.keep k).snoc ha,fun u hu=>?_⟩
 rcases List.mem_append.mp hu with z | z
 ·exact p.ok u z
 ·rw[List.mem_singleton.mp z]
  exact ht
theorem IK(hp:H2 pl=some (.lst zs))(hc:H2 c=none):(upd (upd H2 c (.tup ys)) pl (.lst xs)) c=some (.tup ys):=by
 rw[Al (Ah hp hc).symm,upd_same]
theorem Do(hp:H2 pl=some (.lst zs))(hc:H2 c=none):TS H2 (upd (upd H2 c (.tup ys)) pl (.lst xs)):=
 (TS.new hc).trans (TS.lst (xs:=zs) (by rw[Al (Ah hp hc)];exact hp))
inductive Qn(H1:Hp)(jl:Addr)(pl:Addr)(most:Nat)(many:Nat)(size:Int)(i:Nat)(σ:L2.St)(H2:Hp):Prop where
 | mk (m:Int) (tv dv rv:Option V) (xs:List V) (ts:List Tr) (_:σ=[some (.int m),some (.int most),some (.int many),some (.ref jl),some (.ref pl),some (.int size),tv,dv,rv]) (_:0<=m) (_:PileAt H1 H2 pl xs ts many) (_:sz ts<=i) (_:ts.length<=i) (_:(0<i->0<ts.length)):Qn H1 jl pl most many size i σ H2
theorem EE{tv rv:Option V}(np:H1 pl=none)(p:PileAt H1 H3 pl xs ts many)(hc:H3 c=none)(h1:1<=many)(hm:0<=m2)(z1:sz ts<=i)(z2:ts.length<=i):
  Qn H1 jl pl most many size (i+1) [some (.int m2),some (.int most),some (.int many),some (.ref jl),some (.ref pl),some (.int size),tv,some (.int d),rv] (upd (upd H3 c (.tup [.str "let",.int (d%(many:Int))])) pl (.lst (xs++[.ref c]))):=by
 have e1:=zAV d (show (many:Int)≠0 by omega)
 have e2:=zAY d (show (0:Int)<many by omega)
 have e3:d%(many:Int)=(((d%(many:Int)).toNat:Nat):Int):=by omega
 refine⟨m2,_,_,_,_,ts++[.lt (d%(many:Int)).toNat],rfl,hm,p.put (t:=.lt (d%(many:Int)).toNat) np hc (by show (d%(many:Int)).toNat<many;omega) ⟨c,rfl,?_⟩,?_,?_,?_⟩
 ·rw[IK p.at' hc,<-e3]
 ·rw[BJ];show sz ts+1<=i+1;omega
 ·rw[zA];show ts.length+1<=i+1;omega
 ·intro _;rw[zA];exact zBG _
theorem QR{tv dv rv:Option V}(np:H1 pl=none)(p:PileAt H1 H3 pl xs ts many)(hc:H3 c=none)(hm:0<=m2)(ht:t.ok many)(ha:t.At H3 y)(z1:sz (ts++[t])<=i)(z2:(ts++[t]).length<=i):
  Qn H1 jl pl most many size (i+1) [some (.int m2),some (.int most),some (.int many),some (.ref jl),some (.ref pl),some (.int size),tv,dv,rv] (upd (upd H3 c (.tup [.str "not",y])) pl (.lst (xs++[.ref c]))):=by
 rw[BJ] at z1
 rw[zA] at z2
 have z2':ts.length+1<=i:=z2
 refine⟨m2,_,_,_,_,ts++[.nt t],rfl,hm,p.put (t:=.nt t) np hc ht ⟨c,y,rfl,IK p.at' hc,ha.keep (Do p.at' hc)⟩,?_,?_,?_⟩
 ·rw[BJ];show sz ts+(t.size+1)<=i+1;omega
 ·rw[zA];show ts.length+1<=i+1;omega
 ·intro _;rw[zA];exact zBG _
theorem Uc{most many i:Nat}{size m2 j:Int}{xs:List V}{ts:List Tr}{tv dv rv:Option V}(np:H1 pl=none)(p:PileAt H1 H3 pl xs ts many)(hc:H3 c=none)(hm:0<=m2)(hj0:0<=j)(hj:j<4)(ht:t.ok many)(hu:u.ok many)(ha:t.At H3 y)(hx:u.At H3 x)(z1:sz (ts++[u]++[t])<=i)(z2:(ts++[u]++[t]).length<=i):
  Qn H1 jl pl most many size (i+1) [some (.int m2),some (.int most),some (.int many),some (.ref jl),some (.ref pl),some (.int size),tv,dv,rv] (upd (upd H3 c (.tup [.str (jn j.toNat),x,y])) pl (.lst (xs++[.ref c]))):=by
 rw[BJ,BJ] at z1
 rw[zA,zA] at z2
 have z2':ts.length+1+1<=i:=z2
 refine⟨m2,_,_,_,_,ts++[.bn j.toNat u t],rfl,hm,p.put (t:=.bn j.toNat u t) np hc ⟨by omega,hu,ht⟩ ⟨c,x,y,rfl,IK p.at' hc,hx.keep (Do p.at' hc),ha.keep (Do p.at' hc)⟩,?_,?_,?_⟩
 ·rw[BJ];show sz ts+(u.size+t.size+1)<=i+1;omega
 ·rw[zA];show ts.length+1<=i+1;omega
 ·intro _;rw[zA];exact zBG _
theorem XA(h:sz ([]++[t])+([]++[t]:List Tr).length<=2*most):t.size+1<=2*most:=by
 rw[BJ] at h
 have h':0+t.size+1<=2*most:=h
 omega
inductive Sv(H1:Hp)(jl:Addr)(pl:Addr)(most:Nat)(many:Nat)(size:Int)(k:Nat)(σ:L2.St)(H2:Hp):Prop where
 | mk (m:Int) (tv dv rv:Option V) (xs:List V) (ts:List Tr) (_:σ=[some (.int m),some (.int most),some (.int many),some (.ref jl),some (.ref pl),some (.int size),tv,dv,rv]) (_:0<=m) (_:PileAt H1 H2 pl xs ts many) (_:sz ts+ts.length<=2*most) (_:ts.length=k) (_:0<k):Sv H1 jl pl most many size k σ H2
theorem Vg{most many k:Nat}{size m2 j:Int}{xs:List V}{ts:List Tr}{tv dv rv:Option V}(np:H1 pl=none)(p:PileAt H1 H3 pl xs ts many)(hc:H3 c=none)(hm:0<=m2)(hj0:0<=j)(hj:j<4)(ht:t.ok many)(hu:u.ok many)(ha:t.At H3 y)(hx:u.At H3 x)(z1:sz (ts++[u]++[t])+(ts++[u]++[t]).length<=2*most)(z2:(ts++[u]++[t]).length=k):
  ∃k',k'<k/\Sv H1 jl pl most many size k' [some (.int m2),some (.int most),some (.int many),some (.ref jl),some (.ref pl),some (.int size),tv,dv,rv] (upd (upd H3 c (.tup [.str (jn j.toNat),x,y])) pl (.lst (xs++[.ref c]))):=by
 rw[BJ,BJ,zA,zA] at z1
 rw[zA,zA] at z2
 have z2':ts.length+1+1=k:=z2
 have z1':sz ts+u.size+t.size+(ts.length+1+1)<=2*most:=z1
 refine⟨ts.length+1,by omega,m2,_,_,_,_,ts++[.bn j.toNat u t],rfl,hm,p.put (t:=.bn j.toNat u t) np hc ⟨by omega,hu,ht⟩ ⟨c,x,y,rfl,IK p.at' hc,hx.keep (Do p.at' hc),ha.keep (Do p.at' hc)⟩,?_,?_,zBG _⟩
 ·rw[BJ,zA];show sz ts+(u.size+t.size+1)+(ts.length+1)<=2*most;omega
 ·rw[zA];rfl
theorem NW(aa:Ev P w K mg aA aN cK cT cS cB cN cO):Fc P w K mg "_law_sentence" Bh 1 Qt:=by
 refine aa.h3.ok scSent ?_
 rintro bz f ak A outer s H _ Q E hr ⟨n,most,many,rfl,h0,bG,aS,iq,cr,q⟩
 refine⟨_,Aa (Az 3 scSent.nd (Ar (Ac Ae (Ac Ae (Av Ae Ae)))))
  (Aa (Az 4 scSent.nd (Ar Bk))
  (Aa (Az 5 scSent.nd (Ak BB Ad (Ak AL (pv 0) (pv 1))))
  (Aa (Az 0 scSent.nd (Ak AT (pv 0) (pv 1)))
  (Aa (A7 zAR rfl (DR (by rfl) aa.B.range (AR (pv 5))) (AV 6 scSent.nd)
   (Aa (Az 7 scSent.nd (Ak AL (pv 0) Ad))
   (Aa (Az 0 scSent.nd (Ak AT (pv 0) Ad))
   (Aj (An (IO (AH AI (pv 7) Ad) (FY (AH (Sl hr.units0) (pv 4) (Ar Bk)))).pt
    (Aj (AC (BA (pv 4) (AR (Aw (Av Ae (C5 (pv 4))))))))
    (Aj (An (IO (AH FJ (pv 7) Ad) (FY (AH FJ (Ao Aq (by rfl) aa.B.len zAO (AR (pv 4))) Ad))).pt
     (Aa (Az 8 scSent.nd (C5 (pv 4)))
     (Aj (AC (BA (pv 4) (AR (Aw (Ac (AN AD (pv 3) (Ak Jk (pv 7) Ad)) (Av (C5 (pv 4)) (pv 8)))))))))
     (Aj (AC (BA (pv 4) (AR (Aw (Av Ae (Ak AL (pv 7) (pv 2)))))))))))))))
  (Aa (Gs zAR (AH FJ (Ao Aq (by rfl) aa.B.len zAO (AR (pv 4))) Ad)
   (Aa (Az 8 scSent.nd (C5 (pv 4)))
   (Aa (AC (BA (pv 4) (AR (Aw (Ac (AN AD (pv 3) (Ak AL (pv 0) Ad)) (Av (C5 (pv 4)) (pv 8)))))))
   (Aj (Az 0 scSent.nd (Ak AT (pv 0) Ad))))))
  (AK (AN AD (pv 4) Ad))))))),?_⟩
 refine⟨X1,fun jl hjl=>⟨IF,fun pl aD=>?_⟩⟩
 have sJ:Same H (upd H jl (.lst Ed)):=Ab hjl _
 have nJ:jl≠pl:=Ah (upd_same (H:=H) (a:=jl) (o:=.lst Ed)) aD
 refine⟨(by omega),⟨by omega,by omega⟩,?_⟩
 have hsz0:=zAV n (show (most:Int)≠0 by omega)
 have hsz1:=zAY n (show (0:Int)<most by omega)
 have hn0:0<=n / (most:Int):=Int.ediv_nonneg h0 (by omega)
 have hs1:1<=1+n%(most:Int):=by omega
 have gd:1+n%(most:Int)<=most:=by omega
 refine⟨(by omega),(by omega),BU (n:=(1+n%(most:Int)).toNat) (Qn (upd H jl (.lst Ed)) jl pl most many (1+n%(most:Int))) ?_ ?_ ?_⟩
 ·exact⟨_,none,none,none,[],[],rfl,hn0,⟨Ab aD _,upd_same,.nil,fun t ht=>absurd ht (by simp)⟩,zAA _,zAA _,fun z=>z⟩
 ·rintro i σ H2 hi ⟨m,tv,dv,rv,xs,ts,rfl,hm,p,z1,z2,z3⟩
  have aj:=p.len
  have eH:i<12:=by omega
  have aS:0<=m / 10:=by omega
  have hd0:0<=m%10:=by omega
  have cQ:m%10<10:=by omega
  have dn:∀{k:Nat},k<=12->k<sizeLine:=fun h=>Ap (zAC h (by decide))
  refine⟨(by show (0:Int)<10;decide),⟨by decide,by decide⟩,?_⟩
  refine⟨rfl,?_⟩
  refine B9 (fun c1=>?_) (fun c1=>?_)
  ·refine⟨IF,fun e he=>?_⟩
   have p3:PileAt (upd H jl (.lst Ed)) (upd H2 e (.lst [])) pl xs ts many:=p.new he
   refine⟨pl,e,xs,rfl,rfl,SqL.of p3.at',SqL.of upd_same,?_⟩
   refine B9 (fun c2=>?_) (fun c2=>?_)
   ·have br:0<ts.length:=by
     cases xs with
     | nil=>exact absurd c2 (by decide)
     | cons x r=>rw[<-aj];exact zBG _
    obtain⟨y,dw,t,ey,rfl,okt,ha,p4⟩:=p3.pop aD br
    have fV:=p4.len
    rw[zA] at z2
    have z2':dw.length+1<=i:=z2
    refine⟨.inl ⟨rfl,_,SqL.of p3.at'⟩,.inl ⟨rfl,_,SqL.of p3.at'⟩,p3.at',ey,BT,fun c hc=>⟨(Ab hc _) _ _ p4.at',dn (by omega),?_⟩⟩
    exact QR aD p4 hc aS okt ha z1 (by rw[zA];exact z2)
   ·
    refine ?_
    refine B9 (fun c3=>?_) (fun c3=>?_)
    ·refine⟨.inl (SqL.of p3.at'),?_⟩
     refine B9 (fun c4=>?_) (fun c4=>?_)
     ·exfalso
      have:xs=[]:=by
       cases xs with
       | nil=>rfl
       | cons x r=>exact absurd rfl c2
      subst this
      exact absurd c4 (by decide)
     ·refine⟨.inl ⟨rfl,_,SqL.of p3.at'⟩,(by omega),BT,fun c hc=>⟨(Ab hc _) _ _ p3.at',dn (by omega),?_⟩⟩
      exact EE aD p3 hc iq aS z1 z2
    ·refine AY ?_
     refine⟨.inl ⟨rfl,_,SqL.of p3.at'⟩,(by omega),BT,fun c hc=>⟨(Ab hc _) _ _ p3.at',dn (by omega),?_⟩⟩
     exact EE aD p3 hc iq aS z1 z2
  ·refine AY ?_
   refine ?_
   refine B9 (fun c3=>?_) (fun c3=>?_)
   ·have c3':(5:Int)<m%10:=of_decide_eq_true c3
    refine⟨.inl (SqL.of p.at'),?_⟩
    refine B9 (fun c4=>?_) (fun c4=>?_)
    ·have c4':(1:Int)<(xs.length:Nat):=of_decide_eq_true c4
     obtain⟨y,dw,t,ey,rfl,okt,ha,p4⟩:=p.pop aD (by omega)
     rw[zA] at aj
     have hlen':xs.length=dw.length+1:=aj
     obtain⟨x,ts2,u,ex,rfl,oku,hax,p5⟩:=p4.pop aD (by omega)
     have hl5:=p5.len
     rw[zA,zA] at z2
     have z2':ts2.length+1+1<=i:=z2
     refine⟨.inl ⟨rfl,_,SqL.of p.at'⟩,p.at',ey,?_⟩
     refine⟨.inl ⟨rfl,_,SqL.of p4.at'⟩,SqL.of (p4.sm _ _ upd_same),Ju (by omega) (by omega),.inl ⟨rfl,_,SqL.of p4.at'⟩,p4.at',ex,E2,fun c hc=>⟨(Ab hc _) _ _ p5.at',dn (by omega),?_⟩⟩
     exact Uc aD p5 hc aS (by omega) (by omega) okt oku (ha.keep (TS.lst p4.at')) hax z1 (by rw[zA,zA];exact z2)
    ·refine⟨.inl ⟨rfl,_,SqL.of p.at'⟩,(by omega),BT,fun c hc=>⟨(Ab hc _) _ _ p.at',dn (by omega),?_⟩⟩
     exact EE aD p hc iq aS z1 z2
   ·refine AY ?_
    refine⟨.inl ⟨rfl,_,SqL.of p.at'⟩,(by omega),BT,fun c hc=>⟨(Ab hc _) _ _ p.at',dn (by omega),?_⟩⟩
    exact EE aD p hc iq aS z1 z2
 ·rintro σ H2 ⟨m,tv,dv,rv,xs,ts,rfl,hm,p,z1,z2,z3⟩
  have z3':=z3 (by omega)
  refine⟨Sv (upd H jl (.lst Ed)) jl pl most many (1+n%(most:Int)),⟨ts.length,m,tv,dv,rv,xs,ts,rfl,hm,p,by omega,rfl,z3'⟩,?_⟩
  rintro k σ H3 ⟨m,tv,dv,rv,xs,ts,rfl,hm,p,z1,z2,z3⟩
  have aj:=p.len
  have aS:0<=m / 4:=by omega
  have dn:∀{k:Nat},k<=24->k<sizeLine:=fun h=>Ap (zAC h (by decide))
  refine⟨.inl (SqL.of p.at'),?_⟩
  refine B9 (fun c4=>?_) (fun c4=>?_)
  ·have c4':(1:Int)<(xs.length:Nat):=of_decide_eq_true c4
   refine⟨fun σ' H'=>∃k',k'<k/\Sv (upd H jl (.lst Ed)) jl pl most many (1+n%(most:Int)) k' σ' H',fun _ _ h=>h,?_⟩
   obtain⟨y,dw,t,ey,rfl,okt,ha,p4⟩:=p.pop aD (by omega)
   rw[zA] at aj
   have hlen':xs.length=dw.length+1:=aj
   obtain⟨x,ts2,u,ex,rfl,oku,hax,p5⟩:=p4.pop aD (by omega)
   have hl5:=p5.len
   have z2':ts2.length+1+1=k:=by
    rw[zA,zA] at z2
    exact z2
   refine⟨.inl ⟨rfl,_,SqL.of p.at'⟩,p.at',ey,?_⟩
   refine⟨.inl ⟨rfl,_,SqL.of p4.at'⟩,(by show (0:Int)<4;decide),SqL.of (p4.sm _ _ upd_same),Ju (by omega) (by omega),.inl ⟨rfl,_,SqL.of p4.at'⟩,p4.at',ex,E2,fun c hc=>⟨(Ab hc _) _ _ p5.at',dn (by omega),?_⟩⟩
   refine⟨⟨by decide,by decide⟩,?_⟩
   exact Vg aD p5 hc aS (by omega) (by omega) okt oku (ha.keep (TS.lst p4.at')) hax z1 z2
  ·have c4':¬(1:Int)<(xs.length:Nat):=of_decide_eq_false (Bool.eq_false_iff.mpr c4)
   obtain⟨hU,y,dw,t,rfl,rfl,q1,a⟩:=p.pile.last (by omega)
   rw[zA] at c4'
   have e0:hU=[]:=by
    have c5:¬(1:Int)<((hU.length+1:Nat):Int):=c4'
    exact List.length_eq_zero_iff.mp (by omega)
   subst e0
   cases q1
   refine⟨SqL.of p.at',Af (j:=0) rfl,?_⟩
   exact q y t _ (sJ.trans p.sm) a (p.ok t (by simp)) (XA z1)
end
theorem GF:¬(V.str (jn j)=V.str "let"):=by
 match j with
 | 0=>decide
 | 1=>decide
 | 2=>decide
 | _+3=>show ¬(V.str "same"=V.str "let");decide
theorem Qx:¬(V.str (jn j)=V.str "not"):=by
 match j with
 | 0=>decide
 | 1=>decide
 | 2=>decide
 | _+3=>show ¬(V.str "same"=V.str "not");decide
theorem Bc[Decidable c](h:c)(a:A):If (decide c) A B:=.tt (decide_eq_true h) a
theorem Ba[Decidable c](h:¬c)(b:B):If (decide c) A B:=.ff (decide_eq_false h) b
def Ll:Tr->List Tr
 | .lt _=>[]
 | .nt t=>[t]
 | .bn _ a b=>[a,b]
def B0(ts:List Tr):List Tr:=ts.flatMap Ll
theorem K9(a b:List Tr):B0 (a++b)=B0 a++B0 b:=by
 unfold B0
 rw[List.flatMap_append]
theorem KH(t:Tr):B0 [t]=Ll t:=by
 unfold B0
 simp
theorem Fl{ts:List Tr}{i:Nat}(h:ts[i]? = some t):B0 (ts.take (i+1))=B0 (ts.take i)++Ll t:=by
 rw[zAI,h,K9]
 congr 1
 exact KH t
theorem Ql(a b:List Tr):sz (a++b)=sz a+sz b:=by
 unfold sz
 rw[zAP,zCZ]
theorem Qj:∀t:Tr,sz (Ll t)+1=t.size
 | .lt _=>rfl
 | .nt t=>by
  have:sz [t]=t.size:=by unfold sz;simp
  show sz [t]+1=t.size+1
  rw[this]
 | .bn _ a b=>by
  have:sz [a,b]=a.size+b.size:=by unfold sz;simp
  show sz [a,b]+1=a.size+b.size+1
  rw[this]
theorem IL(t:Tr)(r:List Tr):sz (t::r)=t.size+sz r:=by
 unfold sz
 rw[zA7,zD]
theorem Mz(ts:List Tr):sz (B0 ts)+ts.length=sz ts:=by
 induction ts with
 | nil=>rfl
 | cons t r ih=>
  have h:=Qj t
  rw[IL]
  show sz (Ll t++B0 r)+(r.length+1)=_
  rw[Ql]
  omega
theorem Jh(ts:List Tr):ts.length<=sz ts:=by
 induction ts with
 | nil=>exact zAA _
 | cons t r ih=>
  have h:=t.size_pos
  rw[IL]
  show r.length+1<=_
  omega
theorem KQ(h:ts[i]? = some t):(B0 (ts.take i)++(Ll t).take j).length<=sz ts:=by
 have e1:ts=ts.take (i+1)++ts.drop (i+1):=(zB3 _ _).symm
 have h1:(B0 (ts.take (i+1))).length<=(B0 ts).length:=by
  have h2:(B0 ts).length=(B0 (ts.take (i+1))).length+(B0 (ts.drop (i+1))).length:=by
   rw[<-zA,<-K9,zB3]
  omega
 have h3:=Jh (B0 ts)
 have h4:=Mz ts
 rw[Fl h,zA] at h1
 rw[zA,zAM]
 omega
theorem DB{H:Hp}:∀{xs:List V}{ts:List Tr}{i:Nat}{x:V},Pile H xs ts->xs[i]? = some x->∃t,ts[i]? = some t/\Tr.At H t x
 | _,_,_,_,.nil,e=>by simp at e
 | _,_,0,_,.cons r _,e=>by
  simp at e
  subst e
  exact⟨_,rfl,r⟩
 | _,_,i+1,x,.cons _ q,e=>by
  obtain⟨t,h1,h2⟩:=DB (i:=i) q (by simpa using e)
  exact⟨t,by simpa using h1,h2⟩
theorem U4(h:t.At H v):D0 fun p z cs=>Cc (v= .ref p) (H p=some (.tup (z::cs))) ((z= .str "let"/\Ll t=[])\/(¬(z= .str "let")/\(∃x,z= .str x)/\Pile H cs (Ll t)/\0<cs.length/\cs.length<=2)):=by
 cases t with
 | lt k=>
  obtain⟨p,e,hp⟩:=h
  exact⟨p,_,_,e,hp,.inl ⟨rfl,rfl⟩⟩
 | nt t=>
  obtain⟨p,u,e,hp,ha⟩:=h
  exact⟨p,_,_,e,hp,.inr ⟨by decide,⟨_,rfl⟩,.cons ha .nil,zBG _,by show 1<=2;decide⟩⟩
 | bn j a b=>
  obtain⟨p,x,y,e,hp,ha,hb⟩:=h
  exact⟨p,_,_,e,hp,.inr ⟨GF,⟨_,rfl⟩,.cons ha (.cons hb .nil),zBG _,zAA _⟩⟩
theorem Vi(z:V)(cs:List V):Dj (z::cs) (some 1) none=cs:=by
 unfold Dj
 have e1:HT.sIx (z::cs).length 0 (some 1)=1:=by
  have:=HT.sIx_nat (z::cs).length 0 1
  show HT.sIx (z::cs).length 0 (some ((1:Nat):Int))=1
  rw[this,zAQ]
  omega
 rw[e1,HT.sIx_none]
 show ((z::cs).drop 1).take (cs.length+1-1)=cs
 simp
theorem Qs{cs:List V}:¬(HT.sIx (z::cs).length 0 (some 1)=0/\HT.sIx (z::cs).length (z::cs).length none=(z::cs).length):=by
 rintro⟨h,_⟩
 have:=HT.sIx_nat (z::cs).length 0 1
 rw[show (some (1:Int))=some ((1:Nat):Int) from rfl,this,zAQ] at h
 omega
theorem HR[Decidable c](hc:¬c)(h:A):If (!decide c) A B:=.tt (by rw[decide_eq_false hc];rfl) h
def BH(k:Nat)(w:Int):Bool:=decide (w / 2^k%2=1)
def jv:Nat->Bool->Bool->Bool
 | 0,a,b=>a && b
 | 1,a,b=>a || b
 | 2,a,b=>!a || b
 | _,a,b=>decide (a=b)
def tv:Tr->Int->Bool
 | .lt k,w=>BH k w
 | .nt t,w=>!tv t w
 | .bn j a b,w=>jv j (tv a w) (tv b w)
def Ww:List V:=[.int 1,.int 2,.int 4,.int 8,.int 16]
theorem UZ(h:k<5):EF Ww ((k:Nat):Int)=some (.int (2^k)):=by
 refine Af ?_
 match k,h with
 | 0,_=>rfl
 | 1,_=>rfl
 | 2,_=>rfl
 | 3,_=>rfl
 | 4,_=>rfl
theorem pow_pos(k:Nat):(0:Int)<2^k:=Int.pow_pos (by decide)
theorem Wa(h:k<5):(2:Int)^k<1073741824:=by
 match k,h with
 | 0,_=>decide
 | 1,_=>decide
 | 2,_=>decide
 | 3,_=>decide
 | 4,_=>decide
theorem RX(k:Nat)(w:Int):decide (V.int (w / 2^k%2)=V.int 1)=BH k w:=by
 unfold BH
 rw[zA5,decide_eq_true_eq,decide_eq_true_eq]
 exact⟨fun h=>by injection h,fun h=>by rw[h]⟩
theorem RN(a b:Bool):decide (V.bl a=V.bl b)=decide (a=b):=by cases a<;>cases b<;>rfl
theorem XV(h:V.str (jn j)=V.str "and"):j=0:=by
 match j with
 | 0=>rfl
 | 1=>exact absurd h (by decide)
 | 2=>exact absurd h (by decide)
 | _+3=>exact absurd (show V.str "same"=V.str "and" from h) (by decide)
theorem X4(h:V.str (jn j)=V.str "or"):j=1:=by
 match j with
 | 0=>exact absurd h (by decide)
 | 1=>rfl
 | 2=>exact absurd h (by decide)
 | _+3=>exact absurd (show V.str "same"=V.str "or" from h) (by decide)
theorem XW(h:V.str (jn j)=V.str "if"):j=2:=by
 match j with
 | 0=>exact absurd h (by decide)
 | 1=>exact absurd h (by decide)
 | 2=>rfl
 | _+3=>exact absurd (show V.str "same"=V.str "if" from h) (by decide)
theorem X0(h0:¬V.str (jn j)=V.str "and")(h1:¬V.str (jn j)=V.str "or")(h2:¬V.str (jn j)=V.str "if")(a b:Bool):jv j a b=decide (a=b):=by
 match j with
 | 0=>exact absurd rfl h0
 | 1=>exact absurd rfl h1
 | 2=>exact absurd rfl h2
 | _+3=>rfl
theorem Bm:bootBuiltins "list"=some (.type "list"):=by decide +kernel
theorem Jx:bootBuiltins "tuple"=some (.type "tuple"):=by decide +kernel
abbrev Ay(H:Hp)(p:Addr)(row:List Int):Prop:=H p=some (.lst (row.map V.int))
abbrev RowsAt(H:Hp):List V->List (List Int)->Prop:=Paired fun(v:V)(row:List Int)=>∃p,v= .ref p/\Ay H p row
theorem RowsAt.keep{H H':Hp}(s:Same H H'):∀{xs:List V}{rs:List (List Int)},RowsAt H xs rs->RowsAt H' xs rs
 | _,_,.nil=>.nil
 | _,_,.cons ⟨p,e,h⟩ q=>.cons ⟨p,e,s _ _ h⟩ (RowsAt.keep s q)
theorem RowsAt.get{H:Hp}:∀{xs:List V}{rs:List (List Int)}{i:Nat}{x:V},RowsAt H xs rs->xs[i]? = some x->BF fun row p=>Cc (rs[i]? = some row) (x= .ref p) (Ay H p row)
 | _,_,_,_,.nil,e=>by simp at e
 | _,_,0,_,.cons ⟨p,e1,h⟩ _,e=>by
  simp at e
  subst e
  exact⟨_,p,rfl,e1,h⟩
 | _,_,i+1,x,.cons _ q,e=>by
  obtain⟨row,p,h1,h2,h3⟩:=RowsAt.get (i:=i) q (by simpa using e)
  exact⟨row,p,by simpa using h1,h2,h3⟩
theorem RowsAt.len(h:RowsAt H xs rs):xs.length=rs.length:=zA1 h
def UA:List V:=[.int 2,.int 4,.int 8,.int 16,.int 32]
theorem TH{m:Nat}(h1:1<=m)(h5:m<=5):EF UA ((m:Int)-1)=some (.int ((2^m:Nat):Int)):=by
 match m,h1,h5 with
 | 1,_,_=>exact Af (j:=0) rfl
 | 2,_,_=>exact Af (j:=1) rfl
 | 3,_,_=>exact Af (j:=2) rfl
 | 4,_,_=>exact Af (j:=3) rfl
 | 5,_,_=>exact Af (j:=4) rfl
theorem GB(h:m<=5):2^m<=32:=Nat.pow_le_pow_right (n:=2) (by decide) h
theorem Dv(n:Nat):(B4 n).length=n:=by unfold B4;simp
theorem TD(n:Nat):(B4 n).Pairwise (· < ·):=by
 unfold B4
 rw[List.pairwise_map]
 exact List.pairwise_lt_range.imp fun h=>by omega
theorem mem_upto:k∈B4 n↔0<=k/\k<n:=by
 unfold B4
 rw[List.mem_map]
 constructor
 ·rintro⟨a,ha,rfl⟩
  have:=List.mem_range.mp ha
  omega
 ·rintro⟨h0,h1⟩
  exact⟨k.toNat,List.mem_range.mpr (by omega),by omega⟩
inductive G6(vs:List V)(H:Hp)(Q:VK)(E:XK):Prop where
 | mk (m:Nat) (_:vs=[.int (m:Int)]) (_:1<=m) (_:m<=5) (_:∀(l:Addr)(H':Hp),Same H H'->H l=none->Ay H' l (B4 (2^m))->Q (.ref l) H'):G6  vs H Q E
section
def Ow:=As JM ["_law_many"] 1
theorem GH(aa:Ev P w K mg aA aN cK cT cS cB cN cO):Fc P w K mg "_law_worlds" Bh 1 G6:=by
 refine aa.h4.ok Ow ?_
 rintro bz f ak A outer s H _ Q E hr ⟨m,rfl,h1,h5,q⟩
 refine⟨_,AK (AS (GI rfl) (by rfl) aa.T.lst Bm (AR (AS HH (by rfl) aa.T.rng boot_range (AR (AN AD (Ar (Ac Ad (Ac Ad (Ac Ad (Av Ad Ad))))) (Ak Jk (pv 0) Ad)))))),?_⟩
 refine⟨Xp,fun l hl=>?_⟩
 have s1:=Ab hl (.lst UA)
 refine⟨SqL.of upd_same,TH h1 h5,_,rfl,fun r d7=>?_⟩
 have s2:=Ab d7 (.rng 0 ((2^m:Nat):Int))
 refine⟨r,2^m,rfl,upd_same,zAC (GB h5) (by decide),fun l2 aF=>?_⟩
 have s3:=Ab aF (.lst ((B4 (2^m)).map V.int))
 exact q l2 _ (s1.trans (s2.trans s3)) ((s1.trans s2).free aF) upd_same
end
inductive Gv(n:Nat)(vs:List V)(H:Hp)(Q:VK)(E:XK):Prop where
 | mk (v:V) (t:Tr) (w:Int) (_:vs=[v,.int w]) (_:t.At H v) (_:t.ok 5) (_:t.size<=n) (_:∀(H':Hp),Same H H'->Q (.bl (tv t w)) H'):Gv n vs H Q E
section
def scLtrue:=As IV ["_law_sentence_here","_law_world","_law_left","_law_right"] 2
theorem Qw(F:FT P w K mg "_law_true" IV)(G:Fc P w K mg "_law_true" Bh n (Gv n)):Fc P w K mg "_law_true" Bh (n+1) (Gv (n+1)):=by
 refine F.ok scLtrue ?_
 rintro bz f ak A outer s H _ Q E hr ⟨v,t,k,rfl,ha,hok,hs,q⟩
 refine⟨_,Aa (An (AH AI (AN AU (pv 0) Ad) Ae)
   (AK (BW AI (Ak AL (Ak AT (pv 1) (AN AD (Ar (Ac Ad (Ac Ad (Ac Ad (Av Ad Ad))))) (AN AU (pv 0) Ad))) Ad) Ad (Cf _)))
   Ag)
  (Aa (An (AH AI (AN AU (pv 0) Ad) Ae)
   (AK (E6 (Am G hr Ai (Av (AN AU (pv 0) Ad) (pv 1)))))
   Ag)
  (Aa (Az 2 scLtrue.nd (Am G hr Ai (Av (AN AU (pv 0) Ad) (pv 1))))
  (Aa (Az 3 scLtrue.nd (Am G hr Ai (Av (AN AU (pv 0) Ad) (pv 1))))
  (Aa (An (AH AI (AN AU (pv 0) Ad) Ae)
   (AK (Ec (pv 2) (B5 (pv 3))))
   Ag)
  (Aa (An (AH AI (AN AU (pv 0) Ad) Ae)
   (AK (K3 (pv 2) (B5 (pv 3))))
   Ag)
  (Aa (An (AH AI (AN AU (pv 0) Ad) Ae)
   (AK (K3 (E6 (pv 2)) (B5 (pv 3))))
   Ag)
  (AK (BW AI (pv 2) (pv 3) (Cf _))))))))),?_⟩
 cases t with
 | lt j=>
  obtain⟨p,rfl,hp⟩:=ha
  refine⟨SqT.of hp,Af (j:=0) rfl,rfl,?_⟩
  refine Bc rfl ?_
  refine⟨Xp,fun l hl=>?_⟩
  have s1:=Ab hl (.lst Ww)
  refine⟨SqT.of (s1 _ _ hp),Af (j:=1) rfl,SqL.of upd_same,UZ hok,⟨pow_pos j,Wa hok⟩,(by show (0:Int)<2;decide),rfl,?_⟩
  have:=q _ s1
  rw[show tv (.lt j) k=BH j k from rfl,<-RX] at this
  exact this
 | nt t=>
  obtain⟨p,u,rfl,hp,hu⟩:=ha
  have hs':t.size+1<=n+1:=hs
  refine⟨SqT.of hp,Af (j:=0) rfl,rfl,?_⟩
  refine Ba (by decide) ?_
  refine⟨SqT.of hp,Af (j:=0) rfl,rfl,?_⟩
  refine Bc rfl ?_
  exact⟨SqT.of hp,Af (j:=1) rfl,u,t,k,rfl,hu,hok,by omega,fun H' s'=>q H' s'⟩
 | bn j a b=>
  obtain⟨p,x,y,rfl,hp,hx,hy⟩:=ha
  have hs':a.size+b.size+1<=n+1:=hs
  obtain⟨hj,oa,ob⟩:=hok
  refine⟨SqT.of hp,Af (j:=0) rfl,rfl,?_⟩
  refine Ba GF ?_
  refine⟨SqT.of hp,Af (j:=0) rfl,rfl,?_⟩
  refine Ba Qx ?_
  refine⟨SqT.of hp,Af (j:=1) rfl,x,a,k,rfl,hx,oa,by omega,fun H1 s1=>?_⟩
  refine⟨SqT.of (s1 _ _ hp),Af (j:=2) rfl,y,b,k,rfl,hy.keep (TS.same s1),ob,by omega,fun H2 s2=>?_⟩
  have bd:=s2 _ _ (s1 _ _ hp)
  have q2:=q H2 (s1.trans s2)
  have etv:tv (.bn j a b) k=jv j (tv a k) (tv b k):=rfl
  rw[etv] at q2
  generalize tv a k=va at q2
  generalize tv b k=vb at q2
  refine⟨SqT.of bd,Af (j:=0) rfl,rfl,?_⟩
  by_cases h0:V.str (jn j)=V.str "and"
  ·refine Bc h0 ?_
   obtain rfl:=XV h0
   cases va with
   | false=>exact AY q2
   | true=>exact A8 q2
  refine Ba h0 ?_
  refine⟨SqT.of bd,Af (j:=0) rfl,rfl,?_⟩
  by_cases h1:V.str (jn j)=V.str "or"
  ·refine Bc h1 ?_
   obtain rfl:=X4 h1
   cases va with
   | false=>exact AY q2
   | true=>exact A8 q2
  refine Ba h1 ?_
  refine⟨SqT.of bd,Af (j:=0) rfl,rfl,?_⟩
  by_cases h2:V.str (jn j)=V.str "if"
  ·refine Bc h2 ?_
   obtain rfl:=XW h2
   cases va with
   | false=>exact A8 q2
   | true=>exact AY q2
  refine Ba h2 ?_
  rw[X0 h0 h1 h2] at q2
  refine⟨rfl,?_⟩
  rw[RN]
  exact q2
theorem V2(F:FT P w K mg "_law_true" IV):Fc P w K mg "_law_true" Bh 0 (Gv 0):=F.no ["_law_sentence_here","_law_world"] fun vs H Q E h=>by
  obtain⟨v,t,k,_,_,_,h1,_⟩:=h
  have:=t.size_pos
  omega
theorem Ik(aa:Ev P w K mg aA aN cK cT cS cB cN cO):∀n:Nat,Fc P w K mg "_law_true" Bh n (Gv n)
 | 0=>V2 aa.h8
 | n+1=>Qw aa.h8 (Ik aa n)
end
inductive Ui(K:PySem.W.Frag)(b:Bool)(vs:List V)(H:Hp)(Q:VK)(E:XK):Prop where
 | mk (v:V) (t:Tr) (r:Addr) (row:List Int) (_:vs=[v,.ref r]) (_:t.At H v) (_:t.ok 5) (_:t.size<=23) (_:SqL K H r (row.map V.int)) (_:row.length<=900) (_:∀(l:Addr)(H':Hp),Same H H'->H l=none->Ay H' l (row.filter fun k=>tv t k == b)->Q (.ref l) H'):Ui K b vs H Q E
section
def VO:=As UM ["_law_sentence_here","_law_row_here"] 2
theorem SH(aa:Ev P w K mg aA aN cK cT cS cB cN cO):Fc P w K mg "_law_ins" Bh 24 (Ui K true):=by
 refine aa.h9.ok VO ?_
 rintro bz f ak A outer s H _ Q E hr ⟨v,t,r,row,rfl,ha,hok,hs,hS,hl,q⟩
 refine⟨_,AK (BD (N:=["_law_world","_law_sentence_here"]) (js:=[none,some 0]) (cl:=[("_law_sentence_here",s.heap.objs.size+1)]) ⟨rfl,rfl,rfl,(by intro p hp;simp at hp;rcases hp with rfl<;>rfl),rfl,rfl,rfl⟩ (AJ (pv 1)) (fun c1=>(AV 0 (show (["_law_world","_law_sentence_here"]:List Str).Nodup by decide +kernel))) (fun c1=>(EH (A6 (Am (Ik aa 23) hr Ai (Av (pv 1) (pv 0)))))) (fun c1=>(pv 0))),?_⟩
 refine⟨⟨_,hS⟩,fun cc acc am=>Dz (p:=fun k=>tv t k == true) (rest:=[some v]) hS am hl (fun k hk H2 s2 R hR=>?_) (fun v0 H2 s2 h2=>q acc H2 s2 am h2) none⟩
 refine⟨v,t,k,rfl,ha.keep (TS.same s2),hok,hs,fun H3 s3=>?_⟩
 have:=hR H3 s3
 rw[show (tv t k == true)=tv t k by cases tv t k<;>rfl] at this
 exact this
end
inductive Sj(K:PySem.W.Frag)(vs:List V)(H:Hp)(Q:VK)(E:XK):Prop where
 | mk (n:Int) (r:Addr) (row:List Int) (_:vs=[.int n,.ref r]) (_:SqL K H r (row.map V.int)) (_:row.length<=900) (_:∀(l:Addr)(aI:List Int)(H':Hp),Same H H'->H l=none->Ay H' l aI->aI.Sublist row->Q (.ref l) H'):Sj K vs H Q E
section
def scLsome:=As PK ["_law_n","_law_row_here","_law_found","_law_one"] 2
theorem QP(aa:Ev P w K mg aA aN cK cT cS cB cN cO):Fc P w K mg "_law_some" Bh 1 (Sj K):=by
 refine aa.h5.ok scLsome ?_
 rintro bz f ak A outer s H _ Q E hr ⟨n,r,row,rfl,hS,hl,q⟩
 refine⟨_,Aa (Az 2 scLsome.nd (Ar Bk))
  (Aa (A7 zAR rfl (AJ (pv 1)) (AV 3 scLsome.nd)
   (Aa (An (AH AI (Ak AL (pv 0) Ad) Ad)
    (Aj (AC (BA (pv 2) (AR (pv 3)))))
    Ag)
   (Aj (Az 0 scLsome.nd (Ak AT (pv 0) Ad)))))
  (AK (pv 2))),?_⟩
 refine⟨IF,fun l fj=>?_⟩
 have s1:=Ab fj (.lst [])
 refine⟨⟨_,s1.seq hS⟩,AG (K:=K) (a:=r) (xs:=row.map V.int) (fun i σ H2=>D0 fun(m:Int)(ov:Option V)(aI:List Int)=>Hw (σ=[some (.int m),some (.ref r),some (.ref l),ov]) (Same H H2) (Ay H2 l aI) (aI.Sublist (row.take i))) ⟨_,_,[],rfl,s1,upd_same,zA2 _⟩ ?_ ?_ ?_⟩
 ·rintro i σ H2 _ ⟨m,ov,aI,rfl,s2,_,_⟩
  exact s2.seq hS
 ·rintro i x σ H2 hx ⟨m,ov,aI,rfl,s2,aF,aw⟩
  rw[List.getElem?_map] at hx
  obtain⟨k,hk,rfl⟩:=Option.map_eq_some_iff.mp hx
  have et:row.take (i+1)=row.take i++[k]:=by rw[zAI,hk];rfl
  refine⟨(by show (0:Int)<2;decide),rfl,?_⟩
  refine B9 (fun _=>?_) (fun _=>?_)
  ·refine⟨.inl ⟨rfl,_,SqL.of aF⟩,aF,Ap ?_,?_⟩
   ·rw[List.length_map]
    have:=aw.length_le
    rw[zAM] at this
    omega
   refine⟨⟨by decide,by decide⟩,?_⟩
   refine⟨_,_,aI++[k],rfl,AA s2 fj _,?_,?_⟩
   ·show _=some (HO.lst ((aI++[k]).map V.int))
    rw[upd_same,zAP]
    rfl
   ·rw[et]
    exact aw.append (zA2 _)
  ·refine⟨⟨by decide,by decide⟩,?_⟩
   refine⟨_,_,aI,rfl,s2,aF,?_⟩
   rw[et]
   exact aw.trans (List.sublist_append_left _ _)
 ·rintro σ H2 ⟨m,ov,aI,rfl,s2,aF,aw⟩
  rw[List.length_map,zAN] at aw
  exact q l aI H2 s2 fj aF aw
end
inductive Fh(K:PySem.W.Frag)(vs:List V)(H:Hp)(Q:VK)(E:XK):Prop where
 | mk (n:Int) (r:Addr) (row:List Int) (_:vs=[.int n,.ref r]) (_:SqL K H r (row.map V.int)) (_:row.length<=900) (_:row≠[]) (_:∀(l:Addr)(aI:List Int)(H':Hp),Same H H'->H l=none->Ay H' l aI->aI.Sublist row->aI≠[]->Q (.ref l) H'):Fh K vs H Q E
theorem PX(h:row≠[]):∃k,EF (row.map V.int) (n%((row.map V.int).length:Int))=some (.int k)/\k∈row:=by
 have hp:0<row.length:=List.length_pos_iff.mpr h
 rw[List.length_map]
 have h1:=zAV n (show (row.length:Int)≠0 by omega)
 have h2:=zAY n (show (0:Int)<row.length by omega)
 obtain⟨i,ei⟩:=zCC h1
 have hi:i<row.length:=by omega
 rw[ei]
 refine⟨row[i],Af ?_,zA8 hi⟩
 rw[List.getElem?_map,List.getElem?_eq_getElem hi]
 rfl
section
def scLsomeone:=As Ia ["_law_n","_law_row_here","_law_found"] 2
theorem FF(aa:Ev P w K mg aA aN cK cT cS cB cN cO):Fc P w K mg "_law_some_one" Bh 2 (Fh K):=by
 refine aa.h6.ok scLsomeone ?_
 rintro bz f ak A outer s H _ Q E hr ⟨n,r,row,rfl,hS,hl,aE,q⟩
 refine⟨_,Aa (Az 2 scLsomeone.nd (Am (QP aa) hr Ai (Av (pv 0) (pv 1))))
  (Aa (An (AH (PM hr.units0) (pv 2) (Ar Bk))
   (AK (Ar (AR (AN AD (pv 1) (Ak AL (Ak AT (pv 0) Ad) (Ao Aq (by rfl) aa.B.len zAO (AR (pv 1))))))))
   Ag)
  (AK (pv 2))),?_⟩
 refine⟨n,r,row,rfl,hS,hl,fun l aI H1 s1 bc a8 aw=>?_⟩
 refine⟨IF,fun e he=>?_⟩
 have s2:=Ab he (.lst [])
 refine⟨l,e,_,rfl,rfl,SqL.of (s2 _ _ a8),SqL.of upd_same,?_⟩
 have hp:0<row.length:=List.length_pos_iff.mpr aE
 cases hrow:aI with
 | nil=>
  refine Wn rfl ?_
  have bE:=(s1.trans s2).seq hS
  obtain⟨k,hk,hm⟩:=PX (n:=n / 64) aE
  refine⟨⟨by decide,by decide⟩,.inl bE,(by show (0:Int)<(((row.map V.int).length:Nat):Int);rw[List.length_map];omega),bE,hk,Gc,fun d hd=>?_⟩
  have s3:=Ab hd (.lst [.int k])
  exact q d [k] _ (s1.trans (s2.trans s3)) ((s1.trans s2).free hd) upd_same (List.singleton_sublist.mpr hm) (by simp)
 | cons k rest=>
  refine Xd rfl ?_
  exact q l aI _ (s1.trans s2) bc (s2 _ _ a8) aw (by rw[hrow];simp)
end
inductive Sm(vs:List V)(H:Hp)(Q:VK)(E:XK):Prop where
 | mk (n:Int) (m:Nat) (_:vs=[.int n,.int (m:Int)]) (_:1<=m) (_:m<=5) (_:∀(l:Addr)(row:List Int)(H':Hp),Same H H'->H l=none->Ay H' l row->row.Sublist (B4 (2^m))->row≠[]->Q (.ref l) H'):Sm  vs H Q E
section
def Tz:=As Q5 ["_law_n","_law_many"] 2
theorem Nv:B4 (2^m)≠[]:=fun h=>by
 have:=Dv (2^m)
 rw[h] at this
 have h2:0<2^m:=Nat.pow_pos (by decide)
 have h3:([]:List Int).length=0:=rfl
 omega
theorem QL(aa:Ev P w K mg aA aN cK cT cS cB cN cO):Fc P w K mg "_law_room" Bh 3 Sm:=by
 refine aa.h7.ok Tz ?_
 rintro bz f ak A outer s H _ Q E hr ⟨n,m,rfl,h1,h5,q⟩
 have a8:Room 1 _:=hr.mono (by decide)
 refine⟨_,Aa (An (AH AI (Ak AL (pv 0) Ad) Ad)
   (AK (Am (GH aa) a8 Ai (AR (pv 1))))
   Ag)
  (AK (Am (FF aa) hr Ai (Av (Ak AT (pv 0) Ad) (Am (GH aa) a8 Ai (AR (pv 1)))))),?_⟩
 have h32:=GB h5
 refine⟨(by show (0:Int)<3;decide),rfl,?_⟩
 refine B9 (fun _=>?_) (fun _=>?_)
 ·exact⟨m,rfl,h1,h5,fun l H' s' hl dY=>q l _ H' s' hl dY (zA2 _) Nv⟩
 ·refine⟨⟨by decide,by decide⟩,m,rfl,h1,h5,fun l H1 s1 hl a8=>?_⟩
  exact⟨_,l,_,rfl,SqL.of a8,by rw[Dv];omega,Nv,fun l2 aI H2 s2 aF d7 aw aE=>q l2 aI H2 (s1.trans s2) (s1.free aF) d7 aw aE⟩
end
inductive I8(vs:List V)(H:Hp)(Q:VK)(E:XK):Prop where
 | mk (n:Int) (_:vs=[.int n]) (_:Q (.bl true) H):I8  vs H Q E
section
def TZ:=As Pr ["_law_found"] 1
theorem QU(aa:Ev P w K mg aA aN cK cT cS cB cN cO):Fc P w K mg "_law_whole" Bh 1 I8:=by
 refine aa.h80.ok TZ ?_
 rintro bz f ak A outer s H _ Q E hr ⟨n,rfl,q⟩
 refine⟨_,AK (Ec (Ao Bt (by rfl) aa.T.isi boot_isinstance (Av (pv 0) (Co (v:=.ty "int") (by rfl) aa.T.int boot_int rfl))) (B5 (E6 (Ao Bt (by rfl) aa.T.isi boot_isinstance (Av (pv 0) (Co (v:=.ty "bool") (by rfl) aa.T.bool boot_bool rfl)))))),?_⟩
 refine⟨_,_,_,_,rfl,.int _,CH _ _,?_⟩
 refine A8 ?_
 exact⟨_,_,_,_,rfl,.int _,Jm _,q⟩
end
def AQ(b:Bool)(t:Tr)(row:List Int):List Int:=row.filter fun k=>tv t k == b
theorem K4(t:Tr)(row:List Int):(AQ true t row).length+(AQ false t row).length=row.length:=by
 unfold AQ
 induction row with
 | nil=>rfl
 | cons k r ih=>
  cases h:tv t k with
  | true=>simp[h] at ih ⊢;omega
  | false=>simp[h] at ih ⊢;omega
def Fp(z:Str)(t:Tr)(row:List Int):Prop:=(z="true"/\AQ true t row≠[])\/(z="false"/\AQ false t row≠[])\/(z="doubt"/\AQ true t row≠[]/\AQ false t row≠[])
def Au(z:Str)(t:Tr)(row:List Int):List (List Int):=if z="true" then[AQ true t row] else if z="false" then[AQ false t row] else[AQ true t row,AQ false t row]
def Ci(row:List Int)(sides:List (List Int)):List Int:=row.filter fun k=>sides.any fun s=>decide (k∈s)
def AX(sides:List (List Int))(row:List Int):Bool:=sides.all fun s=>s.any fun k=>decide (k∈row)
inductive RK(K:PySem.W.Frag)(vs:List V)(H:Hp)(Q:VK)(E:XK):Prop where
 | mk (n:Int) (r:Addr) (row:List Int) (v:V) (t:Tr) (_:vs=[.int n,.ref r,v]) (_:t.At H v) (_:t.ok 5) (_:t.size<=23) (_:SqL K H r (row.map V.int)) (_:row.length<=900) (_:row≠[]) (_:∀(z:Str)(H':Hp),Same H H'->Fp z t row->Q (.str z) H'):RK K vs H Q E
def Qq:List V:=[.str "true",.str "false",.str "doubt"]
section
def scLkind:=As QE ["_law_n","_law_room_here","_law_sentence_here","_law_ins_here"] 3
theorem Po(aa:Ev P w K mg aA aN cK cT cS cB cN cO):Fc P w K mg "_law_kind" Bh 25 (RK K):=by
 refine aa.h10.ok scLkind ?_
 rintro bz f ak A outer s H _ Q E hr ⟨n,r,row,v,t,rfl,ha,hok,hs,hS,hl,aE,q⟩
 refine⟨_,Aa (Az 3 scLkind.nd (Am (SH aa) hr Ai (Av (pv 2) (pv 1))))
  (Aa (An (AH (PM hr.units0) (pv 3) (Ar Bk))
   (AK Ae)
   Ag)
  (Aa (An (AH AI (Ao Aq (by rfl) aa.B.len zAO (AR (pv 3))) (Ao Aq (by rfl) aa.B.len zAO (AR (pv 1))))
   (AK Ae)
   Ag)
  (AK (AN AD (Ar (Ac Ae (Av Ae Ae))) (Ak AL (pv 0) Ad))))),?_⟩
 have hio:=K4 t row
 have hp:0<row.length:=List.length_pos_iff.mpr aE
 refine⟨v,t,r,row,rfl,ha,hok,hs,hS,hl,fun l H1 s1 bc a8=>?_⟩
 refine⟨IF,fun e he=>?_⟩
 have s2:=Ab he (.lst [])
 refine⟨l,e,_,rfl,rfl,SqL.of (s2 _ _ a8),SqL.of upd_same,?_⟩
 change Ay H1 l (AQ true t row) at a8
 by_cases h0:AQ true t row=[]
 ·refine Wn (by show ((AQ true t row).map V.int).isEmpty=true;rw[h0];rfl) ?_
  refine q _ _ (s1.trans s2) (.inr (.inl ⟨rfl,fun z=>?_⟩))
  rw[h0,z] at hio
  have:([]:List Int).length=0:=rfl
  omega
 refine Xd (by show ((AQ true t row).map V.int).isEmpty=false;cases hq:AQ true t row with | nil=>exact absurd hq h0 | cons _ _=>rfl) ?_
 refine⟨.inl (SqL.of (s2 _ _ a8)),.inl ((s1.trans s2).seq hS),rfl,?_⟩
 by_cases h1:AQ false t row=[]
 ·have e1:((AQ true t row).map V.int).length=(row.map V.int).length:=by
   rw[List.length_map,List.length_map]
   rw[h1] at hio
   have:([]:List Int).length=0:=rfl
   omega
  refine Bc (by rw[e1]) ?_
  exact q _ _ (s1.trans s2) (.inl ⟨rfl,h0⟩)
 ·have e1:¬(V.int (((AQ true t row).map V.int).length:Int)=V.int ((row.map V.int).length:Int)):=by
   rw[List.length_map,List.length_map]
   intro z
   injection z with z
   have:=List.length_pos_iff.mpr h1
   omega
  refine Ba e1 ?_
  refine⟨E2,fun c hc=>?_⟩
  have s3:=Ab hc (.lst Qq)
  have h2:=zAV n (show (3:Int)≠0 by decide)
  have h3:=zAY n (show (0:Int)<3 by decide)
  obtain⟨j,ej⟩:=zCC h2
  have hj:j<3:=by omega
  refine⟨(by show (0:Int)<3;decide),?_⟩
  have aJ:∀z:Str,Qq[j]? = some (.str z)->Fp z t row->W5 K (.ref c) (.int (n%3)) (upd (upd H1 e (.lst [])) c (.lst Qq)) Q:=fun z hz hk=>by
   rw[ej]
   exact⟨SqL.of upd_same,Af hz,q z _ (s1.trans (s2.trans s3)) hk⟩
  match j,hj,aJ with
  | 0,_,aJ=>exact aJ "true" rfl (.inl ⟨rfl,h0⟩)
  | 1,_,aJ=>exact aJ "false" rfl (.inr (.inl ⟨rfl,h1⟩))
  | 2,_,aJ=>exact aJ "doubt" rfl (.inr (.inr ⟨rfl,h0,h1⟩))
end
inductive RE(vs:List V)(H:Hp)(Q:VK)(E:XK):Prop where
 | mk (z:Str) (_:vs=[.str z,.str z]) (_:Q (.bl true) H):RE  vs H Q E
section
def U7:=As UR ["_law_found","_law_due"] 2
theorem Ps(aa:Ev P w K mg aA aN cK cT cS cB cN cO):Fc P w K mg "_law_says" Bh 1 RE:=by
 refine aa.h82.ok U7 ?_
 rintro bz f ak A outer s H _ Q E hr ⟨z,rfl,q⟩
 refine⟨_,AK (Ec (Ao Bt (by rfl) aa.T.isi boot_isinstance (Av (pv 0) (Co (v:=.ty "str") (by rfl) aa.T.str boot_str rfl))) (B5 (BW AI (pv 0) (pv 1) (Cf _)))),?_⟩
 refine⟨_,_,_,_,rfl,.str _,CH _ _,?_⟩
 refine A8 ?_
 refine⟨rfl,?_⟩
 rw[decide_eq_true rfl]
 exact q
end
section
def Th:=As Qg ["_law_n","_law_room_here"] 2
theorem JW(aa:Ev P w K mg aA aN cK cT cS cB cN cO):Fc P w K mg "_law_seen" Bh 3 (Fh K):=by
 refine aa.h16.ok Th ?_
 rintro bz f ak A outer s H _ Q E hr ⟨n,r,row,rfl,hS,hl,aE,q⟩
 have hp:0<row.length:=List.length_pos_iff.mpr aE
 refine⟨_,Aa (An (AH MV (Ak AL (pv 0) Ad) Ad)
   (AK (Ar (AR (AN AD (pv 1) (Ak AL (Ak AT (pv 0) Ad) (Ao Aq (by rfl) aa.B.len zAO (AR (pv 1))))))))
   Ag)
  (Aa (An (AH AI (Ak AL (pv 0) Ad) Ad)
   (AK (AS A3 (by rfl) aa.T.lst Bm (AR (pv 1))))
   Ag)
  (AK (Am (FF aa) hr Ai (Av (Ak AT (pv 0) Ad) (pv 1))))),?_⟩
 refine⟨(by show (0:Int)<5;decide),?_⟩
 refine B9 (fun _=>?_) (fun _=>?_)
 ·obtain⟨k,hk,hm⟩:=PX (n:=n / 5) aE
  refine⟨⟨by decide,by decide⟩,.inl hS,(by show (0:Int)<(((row.map V.int).length:Nat):Int);rw[List.length_map];omega),hS,hk,Gc,fun d hd=>?_⟩
  exact q d [k] _ (Ab hd _) hd upd_same (List.singleton_sublist.mpr hm) (by simp)
 refine⟨(by show (0:Int)<5;decide),rfl,?_⟩
 refine B9 (fun _=>?_) (fun _=>?_)
 ·exact⟨.inl hS,fun d hd=>q d row _ (Ab hd _) hd upd_same (zA2 _) aE⟩
 ·exact⟨⟨by decide,by decide⟩,n / 5,r,row,rfl,hS,hl,aE,q⟩
end
def Bp(seen row:List Int):Str:=if (seen.all fun k=>decide (k∈row))=true then "grant" else if (seen.any fun k=>decide (k∈row))=true then "doubt" else "deny"
def Cr(xs row:List Int):List Int:=xs.filter fun k=>decide (k∈row)
def Cu(xs row:List Int):List Int:=xs.filter fun k=>!decide (k∈row)
theorem No(xs row:List Int):Cr xs row=[]↔(xs.any fun k=>decide (k∈row))=false:=by
 unfold Cr
 rw[zCT]
 constructor
 ·intro h
  rw[Bool.eq_false_iff]
  intro z
  obtain⟨k,hk,fS⟩:=List.any_eq_true.mp z
  exact h k hk fS
 ·intro h k hk fS
  have:(xs.any fun k=>decide (k∈row))=true:=List.any_eq_true.mpr ⟨k,hk,fS⟩
  rw[h] at this
  cases this
theorem VI(xs row:List Int):(Cr xs row).length<=xs.length:=zA0 _ _
theorem TF(xs row:List Int):(Cu xs row).length<=xs.length:=zA0 _ _
def Bw(sides:List (List Int))(going seen row:List Int):Str:=
 if Cu going row=[] then "grant" else if Cr going row=[] then "deny"
 else if Bp seen row="grant"/\AX sides (Cr going row)=false then "doubt"
 else if Bp seen row="deny"/\AX sides (Cu going row)=false then "doubt" else Bp seen row
section
def U3:=As US ["many"] 1
theorem SM(aa:Ev P w K mg aA aN cK cT cS cB cN cO):Fc P w K mg "all_worlds" Bh 1 G6:=by
 refine aa.h55.ok U3 ?_
 rintro bz f ak A outer s H _ Q E hr ⟨m,rfl,h1,h5,q⟩
 refine⟨_,AK (AS (GI rfl) (by rfl) aa.T.lst Bm (AR (AS HH (by rfl) aa.T.rng boot_range (AR (Ak Vs Ad (pv 0)))))),?_⟩
 have e:(1:Int)*2^((m:Int)).toNat=((2^m:Nat):Int):=by rw[Int.one_mul,zB5,Int.natCast_pow];rfl
 refine⟨⟨by omega,by omega,by decide⟩,_,rfl,fun r d7=>?_⟩
 have s2:=Ab d7 (.rng 0 ((1:Int)*2^((m:Int)).toNat))
 refine⟨r,2^m,rfl,(by rw[upd_same];show some (HO.rng 0 ((1:Int)*2^((m:Int)).toNat))=_;rw[e]),zAC (GB h5) (by decide),fun l2 aF=>?_⟩
 have s3:=Ab aF (.lst ((B4 (2^m)).map V.int))
 exact q l2 _ (s2.trans s3) (s2.free aF) upd_same
end
theorem Pb{K:PySem.W.Frag}(hr:SqL K H a xs)(am:H acc=none)(aj:xs.length<=900)(hb:vs.length=xs.length)(ht:∀(i:Nat) (x b:V),xs[i]? = some x->vs[i]? = some b->∀H2,Same H H2->∀R:V->Hp->Prop,(∀H3,Same H2 H3->R b H3)->te (some x::rest) H2 R)(hd:∀v0 H2,Same H H2->H2 acc=some (.lst vs)->D.nx (v0::rest) H2)(v:Option V):
  Es (Uo K a) (Dh 0) (C7 Ls (Dq acc te)) D (v::rest) (upd H acc (.lst [])):=by
 refine AG (K:=K) (a:=a) (xs:=xs) (fun i σ H2=>∃v0,Cc (σ=v0::rest) (Same H H2) (H2 acc=some (.lst (vs.take i)))) ⟨v,rfl,Ab am _,upd_same⟩ ?_ ?_ ?_
 ·rintro i σ H2 _ ⟨v0,rfl,s2,_⟩
  exact s2.seq hr
 ·rintro i x σ H2 hx ⟨v0,rfl,s2,aH⟩
  have hi:i<vs.length:=by
   have:=(List.getElem?_eq_some_iff.mp hx).1
   omega
  have fM:vs[i]? = some vs[i]:=List.getElem?_eq_getElem hi
  have et:vs.take (i+1)=vs.take i++[vs[i]]:=by rw[zAI,fM];rfl
  refine A8 ?_
  refine ht i x _ hx fM H2 s2 _ fun H3 s3=>?_
  refine⟨_,s3 _ _ aH,Ap ?_,?_⟩
  ·rw[zAM]
   omega
  refine⟨_,rfl,AA (s2.trans s3) am _,?_⟩
  rw[upd_same,et]
 ·rintro σ H2 ⟨v0,rfl,s2,aH⟩
  rw[<-hb,zAN] at aH
  exact hd v0 H2 s2 aH
theorem Jo(w:Int):tv alw w=true:=by show (BH 0 w || !BH 0 w)=true;cases BH 0 w<;>rfl
theorem LX(w:Int):tv nev w=false:=by show (BH 0 w && !BH 0 w)=false;cases BH 0 w<;>rfl
def Fz(t u:Tr):Tr:=if u=alw then t else .bn 0 t u
def Bu(k:Nat)(a b:Tr):Tr:=
 if a=b then b else if a=nev then Fz (.lt k) b else if b=nev then Fz (.nt (.lt k)) a else if a=alw then .bn 2 (.lt k) b else if b=alw then .bn 1 (.lt k) a else .bn 0 (.bn 2 (.lt k) b) (.bn 1 (.lt k) a)
theorem M7(t u:Tr)(w:Int):tv (Fz t u) w=(tv t w && tv u w):=by
 unfold Fz
 by_cases h:u=alw
 ·rw[if_pos h,h,Jo,Bool.and_true]
 ·rw[if_neg h];rfl
theorem WJ(k:Nat)(a b:Tr)(w:Int):tv (Bu k a b) w=if BH k w=true then tv b w else tv a w:=by
 unfold Bu
 by_cases h0:a=b
 ·rw[if_pos h0,h0];split<;>rfl
 rw[if_neg h0]
 by_cases h1:a=nev
 ·rw[if_pos h1,M7,h1,LX]
  show (BH k w && tv b w)=_
  cases BH k w<;>rfl
 rw[if_neg h1]
 by_cases h2:b=nev
 ·rw[if_pos h2,M7,h2,LX]
  show (!BH k w && tv a w)=_
  cases BH k w<;>rfl
 rw[if_neg h2]
 by_cases h3:a=alw
 ·rw[if_pos h3,h3,Jo]
  show (!BH k w || tv b w)=_
  cases BH k w<;>rfl
 rw[if_neg h3]
 by_cases h4:b=alw
 ·rw[if_pos h4,h4,Jo]
  show (BH k w || tv a w)=_
  cases BH k w<;>rfl
 rw[if_neg h4]
 show ((!BH k w || tv b w) && (BH k w || tv a w))=_
 cases BH k w<;>simp
theorem IW(h:0<m):alw.ok m:=⟨by decide,h,h⟩
theorem Lx(h:0<m):nev.ok m:=⟨by decide,h,h⟩
structure OX(m d z:Nat)(t:Tr):Prop where
 ok:t.ok m
 hgt:t.hgt<=d
 size:t.size<=z
theorem KS(hk:k<m)(ht:t= .lt k\/t= .nt (.lt k))(hu:OX m d z u):OX m (d+2) (z+3) (Fz t u):=by
 have e:t.ok m/\t.hgt<=1/\t.size<=2:=by
  rcases ht with rfl | rfl
  ·exact⟨hk,zA4 _,by show 1<=2;decide⟩
  ·exact⟨hk,by show 0+1<=1;decide,by show 1+1<=2;decide⟩
 obtain⟨e1,e2,e3⟩:=e
 have h2:=hu.hgt
 have h3:=hu.size
 unfold Fz
 split
 ·exact⟨e1,by omega,by omega⟩
 ·exact⟨⟨by decide,e1,hu.ok⟩,by show max t.hgt u.hgt+1<=d+2;omega,by show t.size+u.size+1<=z+3;omega⟩
theorem VY(hk:k<m)(ha:OX m d z a)(hb:OX m d z b):OX m (d+2) (2*z+5) (Bu k a b):=by
 have a2:=ha.hgt
 have a3:=ha.size
 have b2:=hb.hgt
 have b3:=hb.size
 have wd:∀{t:Tr},OX m (d+2) (z+3) t->OX m (d+2) (2*z+5) t:=fun h=>⟨h.ok,h.hgt,by have:=h.size;omega⟩
 unfold Bu
 split
 ·exact⟨hb.ok,by omega,by omega⟩
 ·split
  ·exact wd (KS hk (.inl rfl) hb)
  ·split
   ·exact wd (KS hk (.inr rfl) ha)
   ·split
    ·exact⟨⟨by decide,hk,hb.ok⟩,by show max 0 b.hgt+1<=d+2;omega,by show 1+b.size+1<=2*z+5;omega⟩
    ·split
     ·exact⟨⟨by decide,hk,ha.ok⟩,by show max 0 a.hgt+1<=d+2;omega,by show 1+a.size+1<=2*z+5;omega⟩
     ·exact⟨⟨by decide,⟨by decide,hk,hb.ok⟩,⟨by decide,hk,ha.ok⟩⟩,by show max (max 0 b.hgt+1) (max 0 a.hgt+1)+1<=d+2;omega,by show (1+b.size+1)+(1+a.size+1)+1<=2*z+5;omega⟩
def Em(k:Nat)(ts:List Tr)(n:Nat):List Tr:=(List.range n).map fun i=>Bu k (ts.getD (2*i) nev) (ts.getD (2*i+1) nev)
theorem IE(k:Nat)(ts:List Tr)(n:Nat):(Em k ts n).length=n:=by unfold Em;simp
theorem LO(k:Nat)(ts:List Tr)(n:Nat):Em k ts (n+1)=Em k ts n++[Bu k (ts.getD (2*n) nev) (ts.getD (2*n+1) nev)]:=by
 unfold Em
 rw[zBS,zAP]
 rfl
def zb:Nat->Nat
 | 0=>4
 | j+1=>2*zb j+5
structure Xg(m j:Nat)(row:List Int)(ts:List Tr):Prop where
 len:ts.length=2^(m-j)
 fit:∀t∈ts,OX m (2+2*j) (zb j) t
 tru:∀(i:Nat)(t:Tr)(w:Int),ts[i]? = some t->0<=w->tv t w=decide (((i:Int)*2^j+w%2^j)∈row)
def OD(m:Nat)(row:List Int):List Tr:=(B4 (2^m)).map fun w=>if w∈row then alw else nev
theorem S7(h:0<m)(row:List Int):Xg m 0 row (OD m row):=by
 refine⟨by unfold OD;rw[List.length_map,Dv];rfl,fun t ht=>?_,fun i t w hi hw=>?_⟩
 ·unfold OD at ht
  obtain⟨k,_,rfl⟩:=List.mem_map.mp ht
  split
  ·exact⟨IW h,by decide,by decide⟩
  ·exact⟨Lx h,by decide,by decide⟩
 ·unfold OD at hi
  rw[List.getElem?_map] at hi
  obtain⟨k,hk,rfl⟩:=Option.map_eq_some_iff.mp hi
  have ek:k=(i:Int):=by
   unfold B4 at hk
   rw[List.getElem?_map] at hk
   obtain⟨x,hx,rfl⟩:=Option.map_eq_some_iff.mp hk
   obtain⟨h1,h2⟩:=List.getElem?_eq_some_iff.mp hx
   rw[List.getElem_range] at h2
   omega
  subst ek
  have e:(i:Int)*2^0+w%2^0=(i:Int):=by
   have:(2:Int)^0=1:=rfl
   rw[this];omega
  rw[e]
  by_cases hm:(i:Int)∈row
  ·rw[if_pos hm,Jo,decide_eq_true hm]
  ·rw[if_neg hm,LX,decide_eq_false hm]
theorem Q8(w:Int)(j:Nat):w%2^(j+1)=w%2^j+2^j*(w / 2^j%2):=by
 have ha:(0:Int)<2^j:=pow_pos j
 rw[Int.pow_succ]
 generalize (2:Int)^j=a at ha
 have h1:=Int.emod_add_mul_ediv w a
 have h2:=Int.emod_add_mul_ediv (w / a) 2
 have n1:=zAV w (show a≠0 by omega)
 have n2:=zAY w ha
 have e:(w%a+a*(w / a%2))+(a*2)*(w / a / 2)=w:=by
  rw[Int.mul_assoc,Int.add_assoc,<-Int.mul_add,h2,h1]
 rcases Int.emod_two_eq (w / a) with z | z
 ·rw[z,Int.mul_zero,Int.add_zero] at e ⊢
  rw[<-e,Int.add_mul_emod_self_left,e,zDB n1 (by omega)]
 ·rw[z,Int.mul_one] at e ⊢
  rw[<-e,Int.add_mul_emod_self_left,e,zDB (by omega) (by omega)]
theorem Rb(hj:j<m)(h:Xg m j row ts):Xg m (j+1) row (Em j ts (2^(m-(j+1)))):=by
 have e2:2^(m-j)=2*2^(m-(j+1)):=by
  rw[show m-j=(m-(j+1))+1 by omega,Nat.pow_succ,Nat.mul_comm]
 have hl:=h.len
 refine⟨IE _ _ _,fun t ht=>?_,fun i t w hi hw=>?_⟩
 ·unfold Em at ht
  obtain⟨i,hi,rfl⟩:=List.mem_map.mp ht
  have eH:=List.mem_range.mp hi
  have g:∀q,q<ts.length->OX m (2+2*j) (zb j) (ts.getD q nev):=fun q hq=>by
   rw[List.getD_eq_getElem?_getD,List.getElem?_eq_getElem hq]
   exact h.fit _ (zA8 hq)
  have:=VY hj (g (2*i) (by omega)) (g (2*i+1) (by omega))
  exact⟨this.ok,by have:=this.hgt;omega,this.size⟩
 ·unfold Em at hi
  rw[List.getElem?_map] at hi
  obtain⟨x,hx,rfl⟩:=Option.map_eq_some_iff.mp hi
  obtain⟨h1,h2⟩:=List.getElem?_eq_some_iff.mp hx
  rw[List.getElem_range] at h2
  subst h2
  rw[zBQ] at h1
  have g:∀q,q<ts.length->ts[q]? = some (ts.getD q nev):=fun q hq=>by
   rw[List.getD_eq_getElem?_getD,List.getElem?_eq_getElem hq]
   rfl
  have t0:=h.tru (2*i) _ w (g (2*i) (by omega)) hw
  have t1:=h.tru (2*i+1) _ w (g (2*i+1) (by omega)) hw
  rw[WJ,t0,t1,Q8]
  have ep:(2:Int)^(j+1)=2^j*2:=Int.pow_succ 2 j
  unfold BH
  have c2:((2*i:Nat):Int)=2*(i:Int):=by omega
  have c3:((2*i+1:Nat):Int)=2*(i:Int)+1:=by omega
  rw[ep,c2,c3]
  have em:=Int.emod_two_eq (w / 2^j)
  rcases em with em | em
  ·rw[em]
   have ez:(2*(i:Int))*2^j+w%2^j=(i:Int)*(2^j*2)+(w%2^j+2^j*0):=by
    rw[Int.mul_zero,Int.add_zero,zC2 2 (i:Int),Int.mul_assoc,zC2 2 (2^j)]
   rw[<-ez]
   simp
  ·rw[em]
   have ez:(2*(i:Int)+1)*2^j+w%2^j=(i:Int)*(2^j*2)+(w%2^j+2^j*1):=by
    rw[Int.add_mul,Int.one_mul,Int.mul_one,zC2 2 (i:Int),Int.mul_assoc,zC2 2 (2^j)]
    omega
   rw[<-ez]
   simp
inductive MQ(K:PySem.W.Frag)(vs:List V)(H:Hp)(Q:VK)(E:XK):Prop where
 | mk (v1 v2:V) (t u:Tr) (m:Nat) (_:vs=[v1,v2]) (_:0<m) (_:t.ok m) (_:u.ok m) (_:t.AtK K H v1) (_:u.AtK K H v2) (_:u.hgt<=100) (_:∀(v:V)(H':Hp),Same H H'->(Fz t u).AtK K H' v->Q v H'):MQ K vs H Q E
inductive Hb(K:PySem.W.Frag)(vs:List V)(H:Hp)(Q:VK)(E:XK):Prop where
 | mk (k m:Nat) (v1 v2:V) (a b:Tr) (_:vs=[.int (k:Int),v1,v2]) (_:k<m) (_:a.ok m) (_:b.ok m) (_:a.AtK K H v1) (_:b.AtK K H v2) (_:a.hgt<=90) (_:b.hgt<=90) (_:∀(v:V)(H':Hp),Same H H'->(Bu k a b).AtK K H' v->Q v H'):Hb K vs H Q E
inductive EQ(K:PySem.W.Frag)(vs:List V)(H:Hp)(Q:VK)(E:XK):Prop where
 | mk (r:Addr) (row:List Int) (m:Nat) (_:vs=[.ref r,.int (m:Int)]) (_:SqL K H r (row.map V.int)) (_:1<=m) (_:m<=5) (_:∀(v:V)(t:Tr)(H':Hp),Same H H'->t.AtK K H' v->OX m 12 283 t->(∀w:Int,0<=w->w<2^m->tv t w=decide (w∈row))->Q v H'):EQ K vs H Q E
theorem JK(h:tb D σ H):C7 Ls tb D σ H:=A8 h
section
variable {aA aN:Addr}
def TN:=As QD ["one","other"] 2
theorem K7(aa:Ev P w K mg aA aN cK cT cS cB cN cO):Fc P w K mg "both" Bh 1 (MQ K):=by
 refine aa.h56.ok TN ?_
 rintro bz f ak A outer s H _ Q E hr ⟨v1,v2,t,u,m,rfl,hm,ht,hu,h1,h2,hg,q⟩
 refine⟨_,Aa (An (AH (DQ hr.units150) (pv 1) (BK (v:=.ref aA) (by rfl) aa.KCh.mA rfl))
   (AK (pv 0))
   Ag)
  (AK (Aw (Ac Ae (Av (pv 0) (pv 1))))),?_⟩
 unfold Fz at q
 refine⟨u,alw,m,hu,IW hm,h2,aa.KCh.tA _,hg,?_⟩
 by_cases h0:u=alw
 ·refine Bc h0 ?_
  simp only[if_pos h0] at q
  exact q _ _ (Same.refl _) h1
 ·refine Ba h0 ?_
  simp only[if_neg h0] at q
  refine⟨E2,fun p hp=>?_⟩
  have s1:=Ab hp (.tup [.str "and",v1,v2])
  exact q _ _ s1 ⟨p,v1,v2,rfl,.inl upd_same,h1.same s1,h2.same s1⟩
def Lz:=As IA ["letter","without","within"] 3
theorem Kj(aa:Ev P w K mg aA aN cK cT cS cB cN cO):Fc P w K mg "by_letter" Bh 2 (Hb K):=by
 refine aa.h57.ok Lz ?_
 rintro bz f ak A outer s H _ Q E hr ⟨k,m,v1,v2,a,b,rfl,hk,ha,hb,h1,h2,g1,g2,q⟩
 have hm:0<m:=by omega
 refine⟨_,Aa (An (AH (DQ hr.units150) (pv 1) (pv 2))
   (AK (pv 2))
   Ag)
  (Aa (An (AH (DQ hr.units150) (pv 1) (BK (v:=.ref aN) (by rfl) aa.KCh.mN rfl))
   (AK (Am (K7 aa) hr Ai (Av (Aw (Av Ae (pv 0))) (pv 2))))
   Ag)
  (Aa (An (AH (DQ hr.units150) (pv 2) (BK (v:=.ref aN) (by rfl) aa.KCh.mN rfl))
   (AK (Am (K7 aa) hr Ai (Av (Aw (Av Ae (Aw (Av Ae (pv 0))))) (pv 1))))
   Ag)
  (Aa (An (AH (DQ hr.units150) (pv 1) (BK (v:=.ref aA) (by rfl) aa.KCh.mA rfl))
   (AK (Aw (Ac Ae (Av (Aw (Av Ae (pv 0))) (pv 2)))))
   Ag)
  (Aa (An (AH (DQ hr.units150) (pv 2) (BK (v:=.ref aA) (by rfl) aa.KCh.mA rfl))
   (AK (Aw (Ac Ae (Av (Aw (Av Ae (pv 0))) (pv 1)))))
   Ag)
  (AK (Aw (Ac Ae (Av (Aw (Ac Ae (Av (Aw (Av Ae (pv 0))) (pv 2)))) (Aw (Ac Ae (Av (Aw (Av Ae (pv 0))) (pv 1)))))))))))),?_⟩
 unfold Bu at q
 refine⟨a,b,m,ha,hb,h1,h2,by omega,?_⟩
 by_cases h0:a=b
 ·refine Bc h0 ?_
  simp only[if_pos h0] at q
  exact q _ _ (Same.refl _) h2
 refine Ba h0 ?_
 simp only[if_neg h0] at q
 refine⟨a,nev,m,ha,Lx hm,h1,aa.KCh.tN _,by omega,?_⟩
 by_cases h3:a=nev
 ·refine Bc h3 ?_
  simp only[if_pos h3] at q
  refine⟨BT,fun p hp=>?_⟩
  have s1:=Ab hp (.tup [.str "let",.int (k:Int)])
  exact⟨_,v2,.lt k,b,m,rfl,hm,hk,hb,⟨p,rfl,.inl upd_same⟩,h2.same s1,by omega,fun v H' s' hv=>q v H' (s1.trans s') hv⟩
 refine Ba h3 ?_
 simp only[if_neg h3] at q
 refine⟨b,nev,m,hb,Lx hm,h2,aa.KCh.tN _,by omega,?_⟩
 by_cases h4:b=nev
 ·refine Bc h4 ?_
  simp only[if_pos h4] at q
  refine⟨BT,fun p hp=>?_⟩
  have s1:=Ab hp (.tup [.str "let",.int (k:Int)])
  refine⟨BT,fun p2 bd=>?_⟩
  have s2:=Ab bd (.tup [.str "not",.ref p])
  have bY:=s1.trans s2
  exact⟨_,v1,.nt (.lt k),a,m,rfl,hm,hk,ha,⟨p2,_,rfl,.inl upd_same,p,rfl,.inl (s2 _ _ upd_same)⟩,h1.same bY,by omega,fun v H' s' hv=>q v H' (bY.trans s') hv⟩
 refine Ba h4 ?_
 simp only[if_neg h4] at q
 refine⟨a,alw,m,ha,IW hm,h1,aa.KCh.tA _,by omega,?_⟩
 by_cases h5:a=alw
 ·refine Bc h5 ?_
  simp only[if_pos h5] at q
  refine⟨BT,fun p hp=>?_⟩
  have s1:=Ab hp (.tup [.str "let",.int (k:Int)])
  refine⟨E2,fun p2 bd=>?_⟩
  have s2:=Ab bd (.tup [.str "if",.ref p,v2])
  have bY:=s1.trans s2
  exact q _ _ bY ⟨p2,_,_,rfl,.inl upd_same,⟨p,rfl,.inl (s2 _ _ upd_same)⟩,h2.same bY⟩
 refine Ba h5 ?_
 simp only[if_neg h5] at q
 refine⟨b,alw,m,hb,IW hm,h2,aa.KCh.tA _,by omega,?_⟩
 by_cases h6:b=alw
 ·refine Bc h6 ?_
  simp only[if_pos h6] at q
  refine⟨BT,fun p hp=>?_⟩
  have s1:=Ab hp (.tup [.str "let",.int (k:Int)])
  refine⟨E2,fun p2 bd=>?_⟩
  have s2:=Ab bd (.tup [.str "or",.ref p,v1])
  have bY:=s1.trans s2
  exact q _ _ bY ⟨p2,_,_,rfl,.inl upd_same,⟨p,rfl,.inl (s2 _ _ upd_same)⟩,h1.same bY⟩
 refine Ba h6 ?_
 simp only[if_neg h6] at q
 refine⟨BT,fun p hp=>?_⟩
 have s1:=Ab hp (.tup [.str "let",.int (k:Int)])
 refine⟨E2,fun p2 bd=>?_⟩
 have s2:=Ab bd (.tup [.str "if",.ref p,v2])
 refine⟨BT,fun p3 cU=>?_⟩
 have s3:=Ab cU (.tup [.str "let",.int (k:Int)])
 refine⟨E2,fun p4 gG=>?_⟩
 have s4:=Ab gG (.tup [.str "or",.ref p3,v1])
 refine⟨E2,fun p5 hp5=>?_⟩
 have s5:=Ab hp5 (.tup [.str "and",.ref p2,.ref p4])
 have s25:=s3.trans (s4.trans s5)
 have s45:=s4.trans s5
 have s15:=s1.trans (s2.trans s25)
 exact q _ _ s15 ⟨p5,_,_,rfl,.inl upd_same,⟨p2,_,_,rfl,.inl (s25 _ _ upd_same),⟨p,rfl,.inl (s2.trans s25 _ _ upd_same)⟩,h2.same s15⟩,⟨p4,_,_,rfl,.inl (s5 _ _ upd_same),⟨p3,rfl,.inl (s45 _ _ upd_same)⟩,h1.same s15⟩⟩
def scSentenceOf:=As Fu ["worlds","many","parts","letter"] 2
theorem Lo{m d z:Nat}{ts:List Tr}(h:∀t∈ts,OX m d z t){i:Nat}(e:ts[i]? = some t):OX m d z t:=h t (zAJ e)
theorem X8(h:j<=5):zb j<=283:=by
 match j,h with
 | 0,_=>decide
 | 1,_=>decide
 | 2,_=>decide
 | 3,_=>decide
 | 4,_=>decide
 | 5,_=>decide
theorem D5(aa:Ev P w K mg aA aN cK cT cS cB cN cO):Fc P w K mg "sentence_of" Bh 3 (EQ K):=by
 refine aa.h58.ok scSentenceOf ?_
 rintro bz f ak A outer s H _ Q E hr ⟨r,row,m,rfl,hS,bG,bB,q⟩
 have h32:=GB bB
 refine⟨_,Aa (Az 2 scSentenceOf.nd (BD (N:=["world","worlds"]) (js:=[none,some 0]) (cl:=[("worlds",s.heap.objs.size+1)]) ⟨rfl,rfl,rfl,(by intro p hp;simp at hp;rcases hp with rfl<;>rfl),rfl,rfl,rfl⟩ (AJ (Am (SM aa) hr Ai (AR (pv 1)))) (fun c1=>(AV 0 (show (["world","worlds"]:List Str).Nodup by decide +kernel))) (fun c1=>Bi) (fun c1=>(Dl (DI OL (pv 0) (pv 1) (by with_unfolding_all rfl)) (BK (v:=.ref aA) (by rfl) aa.KCh.mA rfl) (BK (v:=.ref aN) (by rfl) aa.KCh.mN rfl)))))
  (Aa (A7 zAR rfl (DR (by rfl) aa.B.range (AR (pv 1))) (AV 3 scSentenceOf.nd)
   (Aj (Az 2 scSentenceOf.nd (BD (N:=["at","letter","parts"]) (js:=[none,some 3,some 2]) (cl:=[("parts",s.heap.objs.size+2),("letter",s.heap.objs.size+3)]) ⟨rfl,rfl,rfl,(by intro p hp;simp at hp;rcases hp with rfl | rfl<;>rfl),rfl,rfl,rfl⟩ (Ol (by rfl) aa.B.range (Ac Ad (Av (Ao Aq (by rfl) aa.B.len zAO (AR (pv 2))) Ad))) (fun c1=>(AV 0 (show (["at","letter","parts"]:List Str).Nodup by decide +kernel))) (fun c1=>Bi) (fun c1=>(Am (Kj aa) hr Ai (Ac (pv 1) (Av (AN AD (pv 2) (pv 0)) (AN AD (pv 2) (Ak BB (pv 0) Ad))))))))))
  (AK (AN AD (pv 2) Ad))),?_⟩
 refine⟨m,rfl,bG,bB,fun wl H1 s1 fu be=>?_⟩
 refine⟨⟨_,SqL.of be⟩,fun c1 acc am=>Pb (vs:=(B4 (2^m)).map fun k=>if k∈row then V.ref aA else V.ref aN) (rest:=[some (.ref r)]) (SqL.of be) am (by rw[List.length_map,Dv];omega) (by rw[List.length_map,List.length_map]) (fun i x b hx hb H2 s2 R hR=>?_) (fun v0 H2 s2 h2=>?_) none⟩
 ·rw[List.getElem?_map] at hx hb
  obtain⟨k,hk,rfl⟩:=Option.map_eq_some_iff.mp hx
  rw[hk] at hb
  have fO:(if k∈row then V.ref aA else V.ref aN)=b:=zAE hb
  refine VW ((s1.trans s2).seq hS) ?_
  by_cases hm:k∈row
  ·refine Bc hm ?_
   rw[if_pos hm] at fO
   subst fO
   exact hR H2 (Same.refl _)
  ·refine Ba hm ?_
   rw[if_neg hm] at fO
   subst fO
   exact hR H2 (Same.refl _)
 have P0:PileK K H2 ((B4 (2^m)).map fun k=>if k∈row then V.ref aA else V.ref aN) (OD m row):=by
  unfold OD
  generalize B4 (2^m)=us
  induction us with
  | nil=>exact .nil
  | cons k us ih=>
   refine .cons ?_ ih
   show Tr.AtK K H2 (if k∈row then alw else nev) (if k∈row then V.ref aA else V.ref aN)
   by_cases hm:k∈row
   ·rw[if_pos hm,if_pos hm];exact aa.KCh.tA _
   ·rw[if_neg hm,if_neg hm];exact aa.KCh.tN _
 refine⟨(by omega),(by omega),BU (fun j σ H3=>TK fun(pl:Addr)(lv:Option V)(xs:List V)(ts:List Tr)=>Fs (σ=[some (.ref r),some (.int (m:Int)),some (.ref pl),lv]) (Same H H3) (H3 pl=some (.lst xs)) (PileK K H3 xs ts) (Xg m j row ts)) ⟨acc,_,_,_,rfl,s1.trans s2,h2,P0,S7 (by omega) row⟩ ?_ ?_⟩
 ·rintro j σ H3 hj ⟨pl,lv,xs,ts,rfl,s3,h3,p3,L3⟩
  have hj':j<m:=by
   have:j<((m:Int)).toNat:=hj
   omega
  rw[Int.zero_add]
  have aj:=p3.len
  have hl3:=L3.len
  have e2:2^(m-j)=2*2^(m-(j+1)):=by
   rw[show m-j=(m-(j+1))+1 by omega,Nat.pow_succ,Nat.mul_comm]
  have bo:2^(m-(j+1))<=32:=zAC (Nat.pow_le_pow_right (by decide) (show m-(j+1)<=5 by omega)) (by decide)
  refine⟨.inl (SqL.of h3),2^(m-(j+1)),?_,by omega,fun c1 ac hac=>RO (n:=2^(m-(j+1))) (fun i σ H4=>BF fun(v0:Option V)(ys:List V)=>Hw (σ=[v0,some (.int (j:Int)),some (.ref pl)]) (Same H3 H4) (H4 ac=some (.lst ys)) (PileK K H4 ys (Em j ts i))) ⟨_,[],rfl,Ab hac _,upd_same,.nil⟩ ?_ ?_⟩
  ·have:(xs.length:Int)=2*((2^(m-(j+1)):Nat):Int):=by omega
   rw[this]
  ·rintro i σ H4 hi ⟨v0,ys,rfl,s4,h4,p4⟩
   have gG:=s4 _ _ h3
   have q3:=p3.keep (TS.same s4)
   have i0:2*i<ts.length:=by omega
   have i1:2*i+1<ts.length:=by omega
   have t0:ts[2*i]? = some (ts.getD (2*i) nev):=by rw[List.getD_eq_getElem?_getD,List.getElem?_eq_getElem i0];rfl
   have t1:ts[2*i+1]? = some (ts.getD (2*i+1) nev):=by rw[List.getD_eq_getElem?_getD,List.getElem?_eq_getElem i1];rfl
   obtain⟨x0,hx0,a0⟩:=q3.at t0
   obtain⟨x1,fT,a1⟩:=q3.at t1
   have f0:=Lo L3.fit t0
   have f1:=Lo L3.fit t1
   have g0:=f0.hgt
   have g1:=f1.hgt
   show C7 Ls (Dq ac _) _ _ _
   refine JK ?_
   refine⟨SqL.of gG,?_,SqL.of gG,?_,j,m,x0,x1,_,_,rfl,hj',f0.ok,f1.ok,a0,a1,by omega,by omega,fun v H5 s5 hv=>?_⟩
   ·exact (show EF xs ((2*i:Nat):Int)=some x0 from Af hx0)
   ·exact (show EF xs ((2*i+1:Nat):Int)=some x1 from Af fT)
   ·have h5:=s5 _ _ h4
    have ly:=p4.len
    rw[IE] at ly
    refine⟨_,h5,Ap (by omega),?_⟩
    have k5:HT2.TS H5 (upd H5 ac (.lst (ys++[v]))):=TS.lst h5
    refine⟨_,ys++[v],rfl,AA (s4.trans s5) hac _,upd_same,?_⟩
    rw[LO]
    exact ((p4.keep (TS.same s5)).keep k5).snoc (hv.keep k5)
  ·rintro σ H4 ⟨v0,ys,rfl,s4,h4,p4⟩
   exact⟨ac,_,ys,_,rfl,s3.trans s4,h4,p4,Rb hj' L3⟩
 ·rintro σ H3 ⟨pl,lv,xs,ts,rfl,s3,h3,p3,L3⟩
  have em:((m:Int)).toNat=m:=rfl
  rw[em] at L3
  have hl:=L3.len
  rw[Nat.sub_self] at hl
  have h0:ts[0]? = some (ts.getD 0 nev):=by rw[List.getD_eq_getElem?_getD,List.getElem?_eq_getElem (by omega)];rfl
  obtain⟨x0,hx0,a0⟩:=p3.at h0
  have f0:=Lo L3.fit h0
  have f1:=f0.hgt
  have f2:=f0.size
  refine⟨SqL.of h3,Af (j:=0) hx0,q x0 _ H3 s3 a0 ⟨f0.ok,by omega,zAC f2 (X8 bB)⟩ fun w hw0 hw1=>?_⟩
  rw[L3.tru 0 _ w h0 hw0]
  have e:((0:Nat):Int)*2^m+w%2^m=w:=by
   rw[zDB hw0 hw1]
   simp
  rw[e]
end
theorem Ji(e:σ.set i (some v)=σ')(h:N σ' H):({ nx:=fun _ H'=>(fun x H1=>Dh i x σ H1 N) v H',rt:=R,bk:=B,ct:=C }:Ends).nx σ0 H:=by
 subst e
 exact h
theorem RT(Mid:L2.St->Hp->Prop)(h2:∀σ' H',Mid σ' H'->u D σ' H')(h1:(∀σ' H',Mid σ' H'->u D σ' H')->t { D with nx:=u D } σ H):({ nx:=Qc t u D,rt:=R,bk:=B,ct:=C }:Ends).nx σ H:=h1 h2
theorem IS(e:σ.set i (some v)=σ')(h:N σ' H):Dh i v σ H N:=by
 subst e
 exact h
theorem Sx(Mid:L2.St->Hp->Prop)(h2:∀σ' H',Mid σ' H'->u D σ' H')(h1:(∀σ' H',Mid σ' H'->u D σ' H')->t { D with nx:=u D } σ H):Qc t u D σ H:=h1 h2
def Wr(row:List Int):Prop:=row.Pairwise (· < ·)/\∀k∈row,0<=k/\k<32
theorem Wr.sub(h:Wr b)(s:a.Sublist b):Wr a:=⟨h.1.sublist s,fun k hk=>h.2 k (s.subset hk)⟩
theorem Nn(h:m<=5):Wr (B4 (2^m)):=⟨TD _,fun k hk=>by
 have:=mem_upto.mp hk
 have h2:=GB h
 have:((2^m:Nat):Int)<=32:=by omega
 omega⟩
theorem Wr.len(h:Wr row):row.length<=32:=by
 have nd:row.Nodup:=h.1.imp fun h=>by omega
 have:=Ff (l2:=B4 32) nd fun k hk=>mem_upto.mpr (h.2 k hk)
 rw[Dv] at this
 exact this
theorem Bv(h:s∈Au z t row):s.Sublist row:=by
 unfold Au at h
 split at h
 ·rw[List.mem_singleton.mp h];exact zAK
 ·split at h
  ·rw[List.mem_singleton.mp h];exact zAK
  ·simp only[zAS,zAT,or_false] at h
   rcases h with rfl | rfl
   ·exact zAK
   ·exact zAK
theorem Rj(k:Fp z t row)(h:s∈Au z t row):s≠[]:=by
 unfold Au at h
 rcases k with⟨rfl,k⟩|⟨rfl,k⟩|⟨rfl,k1,k2⟩
 ·rw[if_pos rfl] at h
  rw[List.mem_singleton.mp h];exact k
 ·rw[if_neg (by decide),if_pos rfl] at h
  rw[List.mem_singleton.mp h];exact k
 ·rw[if_neg (by decide),if_neg (by decide)] at h
  simp only[zAS,zAT,or_false] at h
  rcases h with rfl | rfl
  ·exact k1
  ·exact k2
theorem CP:(∃a,Au z t row=[a])\/BF fun a b=>Au z t row=[a,b]:=by
 unfold Au
 split
 ·exact .inl ⟨_,rfl⟩
 ·split
  ·exact .inl ⟨_,rfl⟩
  ·exact .inr ⟨_,_,rfl⟩
theorem base_sub:(Ci row sides).Sublist row:=zAK
inductive Nc(K:PySem.W.Frag)(vs:List V)(H:Hp)(Q:VK)(E:XK):Prop where
 | mk (a:Addr) (xs:List V) (ts:List Tr) (_:vs=[.ref a]) (_:SqL K H a xs) (_:Pile H xs ts) (_:sz ts<=900) (_:∀(r:Addr)(ys:List V)(H':Hp),Same H H'->H' r=some (.lst ys)->Pile H' ys (B0 ts)->Q (.ref r) H'):Nc K vs H Q E
section
def SJ:=As Sh ["layer"] 1
theorem WY:(["sentence","part"]:List Str).Nodup:=by decide +kernel
theorem JO(aa:Ev P w K mg aA aN cK cT cS cB cN cO):Fc P w K mg "parts_of" Bh 1 (Nc K):=by
 refine aa.h20.ok SJ ?_
 rintro bz f ak A outer s H _ Q E hr ⟨a,xs,ts,rfl,hS,hp,ay,q⟩
 refine⟨_,Aj (R8 (Rn (N:=["sentence","part"]) (js:=[none,none]) (cl:=[]) ⟨rfl,rfl,rfl,zB0 _,rfl,rfl,rfl⟩ (AJ (pv 0)) (fun _=>Jb (i:=0) WY rfl (Or.inl rfl))
  (fun _=>EH (AH Cl (AN AU (pv 0) Ad) Ae)) (fun _=>L8 (Cj UY (pv 0) (CV Ad) CZ)) (fun _=>Jb (i:=1) WY rfl (Or.inl rfl)) (fun _=>Bi) (fun _=>pv 1))),?_⟩
 refine⟨⟨_,hS⟩,fun cc acc am=>AG (K:=K) (a:=a) (xs:=xs) (fun i σ H2=>D0 fun(v0 v1:Option V)(ys:List V)=>Hw (σ=[v0,v1]) (Same H H2) (H2 acc=some (.lst ys)) (Pile H2 ys (B0 (ts.take i)))) ?_ ?_ ?_ ?_⟩
 ·exact⟨none,none,[],rfl,Ab am _,upd_same,.nil⟩
 ·rintro i σ H2 _ ⟨v0,v1,ys,rfl,s2,_,_⟩
  exact s2.seq hS
 ·rintro i x σ H2 hx ⟨v0,v1,ys,rfl,s2,aH,bd⟩
  obtain⟨t,ht,aU⟩:=DB hp hx
  have hat2:=aU.keep (TS.same s2)
  obtain⟨p,z,cs,rfl,bT,hk⟩:=U4 hat2
  have zstr:∃y,z= .str y:=by
   rcases hk with⟨e,_⟩|⟨_,e,_⟩
   ·exact⟨_,e⟩
   ·exact e
  obtain⟨y,rfl⟩:=zstr
  refine⟨SqT.of bT,Af (j:=0) rfl,rfl,?_⟩
  rcases hk with⟨e,ek⟩|⟨ne,_,hcs,_,_⟩
  ·refine DZ e ?_
   refine⟨_,_,ys,rfl,s2,aH,?_⟩
   rw[Fl ht,ek,zAU]
   exact bd
  ·refine HR ne ?_
   refine⟨_,rfl,p,_,rfl,SqT.of bT,Qs,fun c hc=>⟨⟨_,SqT.of upd_same⟩,Jq (K:=K) (a:=c) (xs:=Dj (V.str y::cs) (some 1) none) (fun j σ H3=>BF fun(v1:Option V)(ys:List V)=>TB (σ=[some (.ref p),v1]) (Same H H3) (H3 acc=some (.lst ys)) (H3 c=some (.tup (Dj (V.str y::cs) (some 1) none))) (Pile H3 cs (Ll t)) (Pile H3 ys (B0 (ts.take i)++(Ll t).take j))) ?_ ?_ ?_ ?_⟩⟩
   ·refine⟨_,ys,rfl,s2.trans (Ab hc _),(Ab hc _) _ _ aH,upd_same,hcs.keep (TS.new hc),?_⟩
    rw[zCG,zAU]
    exact bd.keep (TS.new hc)
   ·rintro j σ H3 _ ⟨v1,ys,rfl,s3,_,hc3,_⟩
    exact SqT.of hc3
   ·rintro j u σ H3 hu ⟨v1,ys,rfl,s3,dm,hc3,hcs3,cU⟩
    rw[Vi] at hu
    obtain⟨t2,ht2,fw⟩:=DB hcs3 hu
    have aj:=cU.len
    have hb:=KQ (j:=j) ht
    refine A8 ?_
    refine⟨ys,dm,Ap (by omega),?_⟩
    have k3:TS H3 (upd H3 acc (.lst (ys++[u]))):=TS.lst dm
    refine⟨_,ys++[u],rfl,AA s3 am _,upd_same,by rw[Al (CI hc3 dm (by intro z;cases z))];exact hc3,hcs3.keep k3,?_⟩
    rw[zAI,ht2,<-zA9]
    exact (cU.keep k3).snoc (fw.keep k3)
   ·rintro σ H3 ⟨v1,ys,rfl,s3,dm,hc3,hcs3,cU⟩
    refine⟨_,_,ys,rfl,s3,dm,?_⟩
    rw[Vi] at cU
    have hl:=hcs3.len
    rw[hl,zAN] at cU
    rw[Fl ht]
    exact cU
 ·rintro σ H2 ⟨v0,v1,ys,rfl,s2,aH,bd⟩
  rw[hp.len,zAN] at bd
  exact q acc ys H2 s2 aH bd
end
inductive Nh(vs:List V)(H:Hp)(Q:VK)(E:XK):Prop where
 | mk (k:Nat) (w:Int) (_:vs=[.int (k:Int),.int w]) (_:Q (.bl (BH k w)) H):Nh  vs H Q E
theorem SG(k:Nat)(w:Int):decide (V.int (Builtin.bitAnd (w / 2^((k:Int)).toNat) 1)=V.int 1)=BH k w:=by
 rw[bitAnd_m1,zB5]
 exact RX k w
section
def Sw:=As Pw ["letter","world"] 2
theorem JR(aa:Ev P w K mg aA aN cK cT cS cB cN cO):Fc P w K mg "letter_holds" Bh 1 Nh:=by
 refine aa.h24.ok Sw ?_
 rintro bz f ak A outer s H _ Q E hr ⟨k,wd,rfl,q⟩
 refine⟨_,AK (BW AI (Ak VZ (Ak V7 (pv 1) (pv 0)) Ad) Ad (Cf _)),?_⟩
 refine⟨Int.natCast_nonneg k,rfl,?_⟩
 rw[<-SG] at q
 exact q
end
inductive JJ(vs:List V)(H:Hp)(Q:VK)(E:XK):Prop where
 | mk (j:Nat) (a b:Bool) (_:vs=[.str (jn j),.bl a,.bl b]) (_:Q (.bl (jv j a b)) H):JJ  vs H Q E
def post:Tr->List Tr
 | .lt k=>[.lt k]
 | .nt t=>post t++[.nt t]
 | .bn j a b=>post a++(post b++[.bn j a b])
theorem RR:∀t:Tr,post t=(Ll t).flatMap post++[t]
 | .lt k=>rfl
 | .nt t=>by show post t++[.nt t]=(post t++[])++[.nt t];rw[zAU]
 | .bn j a b=>by show post a++(post b++[.bn j a b])=(post a++(post b++[]))++[.bn j a b];rw[zAU,zA9]
theorem CK:∀t:Tr,(post t).length=t.size
 | .lt k=>rfl
 | .nt t=>by show (post t++[Tr.nt t]).length=t.size+1;rw[zA,CK t];rfl
 | .bn j a b=>by
  show (post a++(post b++[Tr.bn j a b])).length=a.size+b.size+1
  rw[zA,zA,CK a,CK b]
  show a.size+(b.size+1)=_
  omega
def stp(w:Int)(rs:List Bool):Tr->Option (List Bool)
 | .lt k=>some (BH k w::rs)
 | .nt _=>match rs with
  | a::r=>some ((!a)::r)
  | []=>none
 | .bn j _ _=>match rs with
  | b::a::r=>some (jv j a b::r)
  | _=>none
def run(w:Int):List Tr->List Bool->Option (List Bool)
 | [],rs=>some rs
 | u::r,rs=>match stp w rs u with
  | some fW=>run w r fW
  | none=>none
theorem FV(w:Int):∀(a b:List Tr)(rs fW:List Bool),run w a rs=some fW->run w (a++b) rs=run w b fW
 | [],b,rs,fW,h=>by cases h;rfl
 | u::r,b,rs,fW,h=>by
  unfold run at h
  show (match stp w rs u with | some fW=>run w (r++b) fW | none=>none)=run w b fW
  cases e:stp w rs u with
  | none=>rw[e] at h;cases h
  | some z=>rw[e] at h;exact FV w r b z fW h
theorem EC(w:Int):∀(t:Tr)(rs:List Bool),run w (post t) rs=some (tv t w::rs)
 | .lt k,rs=>rfl
 | .nt t,rs=>by
  show run w (post t++[.nt t]) rs=_
  rw[FV w _ _ _ _ (EC w t rs)]
  rfl
 | .bn j a b,rs=>by
  show run w (post a++(post b++[.bn j a b])) rs=_
  rw[FV w _ _ _ _ (EC w a rs),FV w _ _ _ _ (EC w b _)]
  rfl
inductive MF(vs:List V)(H:Hp)(Q:VK)(E:XK):Prop where
 | mk (v:V) (t:Tr) (_:vs=[v]) (_:t.At H v) (_:t.size<=800) (_:∀(l:Addr)(ys:List V)(H':Hp),Same H H'->H l=none->H' l=some (.lst ys)->Pile H' ys (post t)->Q (.ref l) H'):MF  vs H Q E
inductive KN(vs:List V)(H:Hp)(Q:VK)(E:XK):Prop where
 | mk (l:Addr) (ys:List V) (t:Tr) (w:Int) (_:vs=[.ref l,.int w]) (_:H l=some (.lst ys)) (_:Pile H ys (post t)) (_:t.ok 5) (_:t.size<=800) (_:∀(H':Hp),Same H H'->Q (.bl (tv t w)) H'):KN  vs H Q E
section
def Qu:=As MG ["kind","one","other"] 3
theorem Pc(aa:Ev P w K mg aA aN cK cT cS cB cN cO):Fc P w K mg "joined" Bh 1 JJ:=by
 refine aa.h25.ok Qu ?_
 rintro bz f ak A outer s H _ Q E hr ⟨j,va,vb,rfl,q2⟩
 refine⟨_,Aa (An (AH AI (pv 0) Ae)
   (AK (Ec (pv 1) (B5 (pv 2))))
   Ag)
  (Aa (An (AH AI (pv 0) Ae)
   (AK (K3 (pv 1) (B5 (pv 2))))
   Ag)
  (Aa (An (AH AI (pv 0) Ae)
   (AK (K3 (E6 (pv 1)) (B5 (pv 2))))
   Ag)
  (AK (BW AI (pv 1) (pv 2) (Cf _))))),?_⟩
 refine⟨rfl,?_⟩
 by_cases h0:V.str (jn j)=V.str "and"
 ·refine Bc h0 ?_
  obtain rfl:=XV h0
  cases va with
  | false=>exact AY q2
  | true=>exact A8 q2
 refine Ba h0 ?_
 refine⟨rfl,?_⟩
 by_cases h1:V.str (jn j)=V.str "or"
 ·refine Bc h1 ?_
  obtain rfl:=X4 h1
  cases va with
  | false=>exact AY q2
  | true=>exact A8 q2
 refine Ba h1 ?_
 refine⟨rfl,?_⟩
 by_cases h2:V.str (jn j)=V.str "if"
 ·refine Bc h2 ?_
  obtain rfl:=XW h2
  cases va with
  | false=>exact A8 q2
  | true=>exact AY q2
 refine Ba h2 ?_
 rw[X0 h0 h1 h2] at q2
 refine⟨rfl,?_⟩
 rw[RN]
 exact q2
inductive Xm(H:Hp)(v:V)(t:Tr)(sl:Addr)(wl:Addr)(m:Nat)(σ:L2.St)(H3:Hp):Prop where
 | mk (ys zs:List V) (ss ws:List Tr) (pp:Option V) (_:σ=[some v,some (.ref sl),some (.ref wl),pp]) (_:Same H H3) (_:H3 sl=some (.lst ys)) (_:H3 wl=some (.lst zs)) (_:Pile H3 ys ss) (_:Pile H3 zs ws) (_:ws.flatMap post++ss.reverse=post t) (_:m=sz ws):Xm H v t sl wl m σ H3
def scSteps:=As Rr ["sentence","steps","waiting","step"] 1
theorem JV{H:Hp}:∀{xs:List V}{ts:List Tr},Pile H xs ts->Pile H xs.reverse ts.reverse
 | _,_,.nil=>.nil
 | _,_,.cons r q=>by
  rw[zB6,zB6]
  exact (JV q).snoc r
theorem Kc{H:Hp}:∀{xs ys:List V}{ts us:List Tr},Pile H xs ts->Pile H ys us->Pile H (xs++ys) (ts++us)
 | _,_,_,_,.nil,q=>q
 | _,_,_,_,.cons r q,q2=>.cons r (Kc q q2)
theorem PN(aa:Ev P w K mg aA aN cK cT cS cB cN cO):Fc P w K mg "steps_of" Bh 2 MF:=by
 refine aa.h23.ok scSteps ?_
 rintro bz f ak A outer s H _ Q E hr ⟨v,t,rfl,ha,hs,q⟩
 refine⟨_,Aa (Az 1 scSteps.nd (Ar Bk))
  (Aa (Az 2 scSteps.nd (Ar (AR (pv 0))))
  (Aa (Gs zAR (CO (pv 2) (fun _=>rfl))
   (Aa (Az 3 scSteps.nd (C5 (pv 2)))
   (Aa (AC (BA (pv 1) (AR (pv 3))))
   (Aj (AC (Ur zBZ PySem.F.slot_list_extend PySem.F.type_list_extend OI (pv 2) (AR (Am (JO aa) hr Ai (AR (Ar (AR (pv 3))))))))))))
  (Aa (AC (LN zBZ PySem.F.slot_list_reverse PySem.F.type_list_reverse G3 (pv 1)))
  (AK (pv 1))))),?_⟩
 refine⟨IF,fun sl aP=>?_⟩
 have s1:=Ab aP (.lst [])
 refine⟨Gc,fun wl be=>?_⟩
 have s2:=Ab be (.lst [v])
 have nsw:sl≠wl:=Ah (upd_same (H:=H) (a:=sl) (o:=.lst [])) be
 have fu:H wl=none:=s1.free be
 have e1:sz [t]=t.size:=by unfold sz;simp
 refine⟨Xm H v t sl wl,⟨_,[],[v],[],[t],none,rfl,s1.trans s2,s2 _ _ upd_same,upd_same,.nil,.cons (ha.keep ((TS.same s1).trans (TS.same s2))) .nil,by simp,rfl⟩,?_⟩
 rintro m σ H3 ⟨ys,zs,ss,ws,pp,rfl,s3,hs3,hw3,p3,z3,e3,rfl⟩
 have bnd:sz ws+ss.length<=800:=by
  have h1:(ws.flatMap post).length=sz ws:=by
   clear e3 z3
   induction ws with
   | nil=>rfl
   | cons u r ih=>
    show (post u++r.flatMap post).length=_
    rw[zA,CK,ih,IL]
  have h2:=congrArg List.length e3
  rw[zA,List.length_reverse,h1,CK] at h2
  omega
 refine⟨_,.inl ⟨zs,SqL.of hw3,rfl⟩,?_⟩
 refine B9 (fun c=>?_) (fun c=>?_)
 ·refine⟨fun σ' H'=>∃m',m'<sz ws/\Xm H v t sl wl m' σ' H',fun _ _ h=>h,?_⟩
  have br:0<ws.length:=by
   rw[<-z3.len]
   cases zs with
   | nil=>exact absurd c (by decide)
   | cons _ _=>exact zBG _
  obtain⟨eL,y,ws',u,rfl,rfl,q3,a3⟩:=z3.last br
  have hsw:=BJ ws' u
  have hku:=Qj u
  have hwl':=Jh ws'
  have bc:=p3.len
  have aF:=q3.len
  refine⟨.inl ⟨rfl,_,SqL.of hw3⟩,hw3,EX _ _,?_⟩
  have t4:HT2.TS H3 (upd H3 wl (.lst (eL++[y]).dropLast)):=TS.lst hw3
  have s4:Same H (upd H3 wl (.lst (eL++[y]).dropLast)):=AA s3 fu _
  rw[zBP] at t4 s4
  have hs4:(upd H3 wl (.lst eL)) sl=some (.lst ys):=by rw[Al nsw];exact hs3
  rw[zBP]
  refine⟨.inl ⟨rfl,_,SqL.of hs4⟩,hs4,Ap (by omega),?_⟩
  have t5:HT2.TS (upd H3 wl (.lst eL)) (upd (upd H3 wl (.lst eL)) sl (.lst (ys++[y]))):=TS.lst hs4
  have s5:Same H (upd (upd H3 wl (.lst eL)) sl (.lst (ys++[y]))):=AA s4 aP _
  have hw5:(upd (upd H3 wl (.lst eL)) sl (.lst (ys++[y]))) wl=some (.lst eL):=by rw[Al nsw.symm,upd_same]
  have hs5:(upd (upd H3 wl (.lst eL)) sl (.lst (ys++[y]))) sl=some (.lst (ys++[y])):=upd_same
  have a5:=a3.keep (t4.trans t5)
  have p5:=(p3.snoc a3).keep (t4.trans t5)
  have q5:=q3.keep (t4.trans t5)
  revert s5 hw5 hs5 a5 p5 q5
  generalize (upd (upd H3 wl (.lst eL)) sl (.lst (ys++[y])))=H5
  intro s5 hw5 hs5 a5 p5 q5
  refine⟨.inl ⟨rfl,_,SqL.of hw5⟩,Gc,fun pl aD=>?_⟩
  have s6:=Ab aD (.lst [y])
  have e1:sz [u]=u.size:=by unfold sz;simp
  refine⟨pl,[y],[u],rfl,SqL.of upd_same,.cons (a5.keep (TS.same s6)) .nil,by omega,fun r ks H7 s7 hr7 p7=>?_⟩
  have hl3:=p7.len
  rw[KH] at p7 hl3
  have fN:=Jh (Ll u)
  have hw7:=s7 _ _ (s6 _ _ hw5)
  refine⟨wl,r,eL,ks,rfl,rfl,hw7,hr7,small (by omega),?_⟩
  have t8:HT2.TS H7 (upd H7 wl (.lst (eL++ks))):=TS.lst hw7
  have k57:=(TS.same s6).trans (TS.same s7)
  refine⟨_,?_,ys++[y],eL++ks,ss++[u],ws'++Ll u,_,rfl,AA (s5.trans (s6.trans s7)) fu _,?_,upd_same,p5.keep (k57.trans t8),(Kc (q5.keep k57) p7).keep t8,?_,rfl⟩
  ·rw[Ql];omega
  ·rw[Al nsw];exact s7 _ _ (s6 _ _ hs5)
  ·rw[<-e3,List.flatMap_append,List.flatMap_append,List.reverse_append]
   show ((ws'.flatMap post++(Ll u).flatMap post)++([u]++ss.reverse))=(ws'.flatMap post++(post u++[]))++ss.reverse
   rw[zAU,RR u]
   simp only[zA9]
 ·have e:ws=[]:=by
   cases z3 with
   | nil=>rfl
   | cons h1 h2=>exact absurd rfl c
  subst e
  refine⟨.inl ⟨rfl,_,SqL.of hs3⟩,sl,ys,rfl,rfl,hs3,?_⟩
  refine q sl ys.reverse _ (AA s3 aP _) aP upd_same ?_
  have e4:ss.reverse=post t:=e3
  rw[<-e4]
  exact (JV p3).keep (TS.lst hs3)
def scTrueBy:=As NV ["steps","world","truths","step","other","one"] 2
def tl(rs:List Bool):List V:=rs.reverse.map V.bl
theorem DS(b:Bool)(rs:List Bool):tl (b::rs)=tl rs++[.bl b]:=by unfold tl;simp
theorem Mc(rs:List Bool):(tl rs).length=rs.length:=by unfold tl;simp
theorem Oi(aa:Ev P w K mg aA aN cK cT cS cB cN cO):Fc P w K mg "true_by" Bh 2 KN:=by
 refine aa.h26.ok scTrueBy ?_
 rintro bz f ak A outer s H _ Q E hr ⟨l,ys,t,wd,rfl,hl,hp,hok,ay,q⟩
 refine⟨_,Aa (Az 2 scTrueBy.nd (Ar Bk))
  (Aa (A7 zAR rfl (AJ (pv 0)) (AV 3 scTrueBy.nd)
   (Aj (An (AH AI (AN AU (pv 3) Ad) Ae)
    (Aj (AC (BA (pv 2) (AR (Am (JR aa) hr Ai (Av (AN AU (pv 3) Ad) (pv 1)))))))
    (Aj (An (AH AI (AN AU (pv 3) Ad) Ae)
     (Aj (AC (BA (pv 2) (AR (E6 (C5 (pv 2)))))))
     (Aa (Az 4 scTrueBy.nd (C5 (pv 2)))
     (Aa (Az 5 scTrueBy.nd (C5 (pv 2)))
     (Aj (AC (BA (pv 2) (AR (Am (Pc aa) hr Ai (Ac (AN AU (pv 3) Ad) (Av (pv 5) (pv 4)))))))))))))))
  (AK (AN AD (pv 2) Ad))),?_⟩
 refine⟨IF,fun tr fX=>?_⟩
 have s1:=Ab fX (.lst [])
 have aj:=hp.len
 have aD:=CK t
 refine⟨⟨_,SqL.of (s1 _ _ hl)⟩,AG (K:=K) (a:=l) (xs:=ys) (fun i σ H3=>TK fun(v0 v1 v2:Option V)(rs:List Bool)=>Fs (σ=[some (.ref l),some (.int wd),some (.ref tr),v0,v1,v2]) (Same H H3) (H3 tr=some (.lst (tl rs))) (rs.length<=i) (run wd ((post t).drop i) rs=some [tv t wd])) ?_ ?_ ?_ ?_⟩
 ·exact⟨_,_,_,[],rfl,s1,upd_same,zAA _,EC wd t []⟩
 ·rintro i σ H3 _ ⟨v0,v1,v2,rs,rfl,s3,_⟩
  exact SqL.of (s3 _ _ hl)
 ·rintro i x σ H3 hx ⟨v0,v1,v2,rs,rfl,s3,h3,hlr,hrun⟩
  obtain⟨u,hu,aU⟩:=DB hp hx
  have fw:=aU.keep (TS.same s3)
  have hi:i<ys.length:=(List.getElem?_eq_some_iff.mp hx).1
  obtain⟨hi2,eu⟩:=List.getElem?_eq_some_iff.mp hu
  rw[zCK hi2,eu] at hrun
  unfold run at hrun
  cases u with
  | lt k=>
   obtain⟨p,rfl,bT⟩:=fw
   refine⟨SqT.of bT,Af (j:=0) rfl,rfl,?_⟩
   refine Bc rfl ?_
   refine⟨.inl ⟨rfl,_,SqL.of h3⟩,SqT.of bT,Af (j:=1) rfl,k,wd,rfl,?_⟩
   refine⟨h3,Ap (by rw[Mc];omega),?_⟩
   refine⟨_,_,_,BH k wd::rs,rfl,AA s3 fX _,?_,by show rs.length+1<=i+1;omega,hrun⟩
   rw[upd_same,DS]
  | nt u=>
   obtain⟨p,c,rfl,bT,_⟩:=fw
   refine⟨SqT.of bT,Af (j:=0) rfl,rfl,?_⟩
   refine Ba (by decide) ?_
   refine⟨SqT.of bT,Af (j:=0) rfl,rfl,?_⟩
   refine Bc rfl ?_
   cases rs with
   | nil=>cases hrun
   | cons a r=>
    rw[DS] at h3
    have hlr':r.length+1<=i:=hlr
    refine⟨.inl ⟨rfl,_,SqL.of h3⟩,.inl ⟨rfl,_,SqL.of h3⟩,h3,EX _ _,?_⟩
    refine⟨upd_same,?_,?_⟩
    ·rw[zBP];exact Ap (by rw[Mc];omega)
    refine⟨_,_,_,(!a)::r,rfl,AA (AA s3 fX _) fX _,?_,by show r.length+1<=i+1;omega,hrun⟩
    rw[upd_same,DS,zBP]
  | bn j u1 u2=>
   obtain⟨p,c1,c2,rfl,bT,_⟩:=fw
   refine⟨SqT.of bT,Af (j:=0) rfl,rfl,?_⟩
   refine Ba GF ?_
   refine⟨SqT.of bT,Af (j:=0) rfl,rfl,?_⟩
   refine Ba Qx ?_
   match rs,hrun,h3,hlr with
   | [],hrun,_,_=>cases hrun
   | [_],hrun,_,_=>cases hrun
   | b::a::r,hrun,h3,hlr=>
    rw[DS,DS] at h3
    have hlr':r.length+1+1<=i:=hlr
    refine⟨.inl ⟨rfl,_,SqL.of h3⟩,h3,EX _ _,?_⟩
    have h4:(upd H3 tr (.lst ((tl r++[V.bl a])++[V.bl b]).dropLast)) tr=some (.lst (tl r++[V.bl a])):=by rw[upd_same,zBP]
    have s4:Same H (upd H3 tr (.lst ((tl r++[V.bl a])++[V.bl b]).dropLast)):=AA s3 fX _
    have p4:(upd H3 tr (.lst ((tl r++[V.bl a])++[V.bl b]).dropLast)) p=some (.tup [.str (jn j),c1,c2]):=by rw[Al (CI bT h3 (by intro z;cases z))];exact bT
    revert h4 s4 p4
    generalize upd H3 tr (.lst ((tl r++[V.bl a])++[V.bl b]).dropLast)=H4
    intro h4 s4 p4
    refine⟨.inl ⟨rfl,_,SqL.of h4⟩,h4,EX _ _,?_⟩
    have h5:(upd H4 tr (.lst (tl r++[V.bl a]).dropLast)) tr=some (.lst (tl r)):=by rw[upd_same,zBP]
    have s5:Same H (upd H4 tr (.lst (tl r++[V.bl a]).dropLast)):=AA s4 fX _
    have p5:(upd H4 tr (.lst (tl r++[V.bl a]).dropLast)) p=some (.tup [.str (jn j),c1,c2]):=by rw[Al (CI p4 h4 (by intro z;cases z))];exact p4
    revert h5 s5 p5
    generalize upd H4 tr (.lst (tl r++[V.bl a]).dropLast)=H5
    intro h5 s5 p5
    refine⟨.inl ⟨rfl,_,SqL.of h5⟩,SqT.of p5,Af (j:=0) rfl,j,a,b,rfl,?_⟩
    refine⟨h5,Ap (by rw[Mc];omega),?_⟩
    refine⟨_,_,_,jv j a b::r,rfl,AA s5 fX _,?_,by show r.length+1<=i+1;omega,hrun⟩
    rw[upd_same,DS]
 ·rintro σ H3 ⟨v0,v1,v2,rs,rfl,s3,h3,hlr,hrun⟩
  rw[aj,zDF] at hrun
  cases hrun
  exact⟨SqL.of h3,Af (j:=0) rfl,q _ s3⟩
end
inductive FL(K:PySem.W.Frag)(vs:List V)(H:Hp)(Q:VK)(E:XK):Prop where
 | mk (v:V) (t:Tr) (r:Addr) (row:List Int) (_:vs=[v,.ref r]) (_:t.At H v) (_:t.ok 5) (_:t.size<=800) (_:SqL K H r (row.map V.int)) (_:Wr row) (_:∀(l:Addr)(H':Hp),Same H H'->H l=none->Ay H' l (row.filter fun k=>tv t k == true)->Q (.ref l) H'):FL K vs H Q E
section
def scWorldsOf:=As HQ ["sentence","room","steps"] 2
theorem BE(aa:Ev P w K mg aA aN cK cT cS cB cN cO):Fc P w K mg "worlds_of" Bh 3 (FL K):=by
 refine aa.h27.ok scWorldsOf ?_
 rintro bz f ak A outer s H _ Q E hr ⟨v,t,r,row,rfl,ha,hok,hs,hS,hwr,q⟩
 have hl:=hwr.len
 refine⟨_,Aa (Az 2 scWorldsOf.nd (Am (PN aa) hr Ai (AR (pv 0))))
  (AK (BD (N:=["world","steps"]) (js:=[none,some 2]) (cl:=[("steps",s.heap.objs.size+1)]) ⟨rfl,rfl,rfl,(by intro p hp;simp at hp;rcases hp with rfl<;>rfl),rfl,rfl,rfl⟩ (AJ (pv 1)) (fun c1=>(AV 0 (show (["world","steps"]:List Str).Nodup by decide +kernel))) (fun c1=>(EH (A6 (Am (Oi aa) hr Ai (Av (pv 1) (pv 0)))))) (fun c1=>(pv 0)))),?_⟩
 refine⟨v,t,rfl,ha,hs,fun st ys H1 s1 hst0 cC hp=>?_⟩
 refine⟨⟨_,s1.seq hS⟩,fun cc acc am=>Dz (p:=fun k=>tv t k == true) (rest:=[some (.ref st)]) (s1.seq hS) am (by omega) (fun k hk H2 s2 R hR=>?_) (fun v0 H2 s2 h2=>q acc H2 (s1.trans s2) (s1.free am) h2) none⟩
 refine⟨st,ys,t,k,rfl,s2 _ _ cC,hp.keep (TS.same s2),hok,hs,fun H3 s3=>?_⟩
 have:=hR H3 s3
 rw[show (tv t k == true)=tv t k by cases tv t k<;>rfl] at this
 exact this
end
inductive Q6(K:PySem.W.Frag)(vs:List V)(H:Hp)(Q:VK)(E:XK):Prop where
 | mk (a b:Addr) (one ai:List Int) (_:vs=[.ref a,.ref b]) (_:SqL K H a (one.map V.int)) (_:SqL K H b (ai.map V.int)) (_:one.length<64) (_:ai.length<=900) (_:∀(l:Addr)(H':Hp)(ns:List Int),Same H H'->H l=none->ns.Pairwise (· < ·)->(∀k,k∈ns↔k∈one/\k∈ai)->Ay H' l ns->Q (.ref l) H'):Q6 K vs H Q E
section
def VT:=As Uw ["one","other"] 2
theorem C1(aa:Ev P w K mg aA aN cK cT cS cB cN cO):Fc P w K mg "in_both" Bh 1 (Q6 K):=by
 refine aa.h30.ok VT ?_
 rintro bz f ak A outer s H _ Q E hr ⟨a,b,one,ai,rfl,ha,hb,bc,aF,q⟩
 refine⟨_,AK (Ao (Db rfl) (by rfl) aa.T.sorted boot_sorted (AR (Ak Ud (AS (DO rfl) (by rfl) aa.T.set boot_set (AR (pv 0))) (AS (DO rfl) (by rfl) aa.T.set boot_set (AR (pv 1)))))),?_⟩
 refine⟨a,one,rfl,ha,by omega,fun a1 dZ=>?_⟩
 have s1:=Ab dZ (Bo w a1 (fun k=>decide (k∈one)) one.length)
 refine⟨b,ai,rfl,s1.seq hb,by omega,fun b1 bo=>?_⟩
 have s2:=Ab bo (Bo w b1 (fun k=>decide (k∈ai)) ai.length)
 refine⟨a1,b1,_,_,_,_,rfl,rfl,s2 _ _ upd_same,upd_same,fun e=>?_,by omega,fun r a8=>?_⟩
 ·subst e
  rw[upd_same] at bo
  cases bo
 have s3:=Ab a8 (Bo w r (fun k=>decide (k∈one) && decide (k∈ai)) one.length)
 refine⟨r,_,_,rfl,upd_same,bc,fun l ns hl hp hm=>?_⟩
 have s4:=Ab hl (.lst (ns.map V.int))
 exact q l _ ns (s1.trans (s2.trans (s3.trans s4))) ((s1.trans (s2.trans s3)).free hl) hp (fun k=>by rw[hm k,zA3,decide_eq_true_eq,decide_eq_true_eq]) upd_same
end
inductive NE(K:PySem.W.Frag)(vs:List V)(H:Hp)(Q:VK)(E:XK):Prop where
 | mk (a b:Addr) (one ai:List Int) (_:vs=[.ref a,.ref b]) (_:SqL K H a (one.map V.int)) (_:SqL K H b (ai.map V.int)) (_:one.length<=32) (_:(∀k∈one,0<=k/\k<32)) (_:ai.length<=900) (_:∀(l:Addr)(H':Hp)(ns:List Int),Same H H'->H l=none->ns.Pairwise (· < ·)->(∀k,k∈ns↔k∈one/\k∉ai)->Ay H' l ns->Q (.ref l) H'):NE K vs H Q E
section
def Sy:=As Qe ["one","other"] 2
theorem Dy(aa:Ev P w K mg aA aN cK cT cS cB cN cO):Fc P w K mg "in_first_only" Bh 1 (NE K):=by
 refine aa.h28.ok Sy ?_
 rintro bz f ak A outer s H _ Q E hr ⟨a,b,one,ai,rfl,ha,hb,bc,h32,aF,q⟩
 refine⟨_,AK (Ao (Jf rfl) (by rfl) aa.T.sorted boot_sorted (AR (Ak Te (AS (DO rfl) (by rfl) aa.T.set boot_set (AR (pv 0))) (AS (DO rfl) (by rfl) aa.T.set boot_set (AR (pv 1)))))),?_⟩
 refine⟨a,one,rfl,ha,by omega,fun a1 dZ=>?_⟩
 have s1:=Ab dZ (Bo w a1 (fun k=>decide (k∈one)) one.length)
 refine⟨b,ai,rfl,s1.seq hb,by omega,fun b1 bo=>?_⟩
 have s2:=Ab bo (Bo w b1 (fun k=>decide (k∈ai)) ai.length)
 refine⟨a1,b1,_,_,_,_,rfl,rfl,s2 _ _ upd_same,upd_same,fun e=>?_,bc,by omega,fun k hk=>h32 k (of_decide_eq_true hk),fun r a8=>?_⟩
 ·subst e
  rw[upd_same] at bo
  cases bo
 have s3:=Ab a8 (N5 w r (fun k=>decide (k∈one) && !decide (k∈ai)) one.length)
 refine⟨r,_,_,rfl,upd_same,by omega,fun l ns hl hp hm=>?_⟩
 have s4:=Ab hl (.lst (ns.map V.int))
 exact q l _ ns (s1.trans (s2.trans (s3.trans s4))) ((s1.trans (s2.trans s3)).free hl) hp (fun k=>by rw[hm k,zA3,decide_eq_true_eq,Bool.not_eq_true',decide_eq_false_iff_not]) upd_same
end
inductive Nz(K:PySem.W.Frag)(vs:List V)(H:Hp)(Q:VK)(E:XK):Prop where
 | mk (a b:Addr) (one ai:List Int) (_:vs=[.ref a,.ref b]) (_:SqL K H a (one.map V.int)) (_:SqL K H b (ai.map V.int)) (_:one.length<64) (_:ai.length<=900) (_:∀(H':Hp),Same H H'->Q (.bl (one.any fun k=>decide (k∈ai))) H'):Nz K vs H Q E
section
def SN:=As QW ["one","other"] 2
theorem EI(aa:Ev P w K mg aA aN cK cT cS cB cN cO):Fc P w K mg "some_within" Bh 2 (Nz K):=by
 refine aa.h31.ok SN ?_
 rintro bz f ak A outer s H _ Q E hr ⟨a,b,one,ai,rfl,ha,hb,bc,aF,q⟩
 refine⟨_,AK (BW FJ (Ao Aq (by rfl) aa.B.len zAO (AR (Am (C1 aa) hr Ai (Av (pv 0) (pv 1))))) Ad (Cf _)),?_⟩
 refine⟨a,b,one,ai,rfl,ha,hb,bc,aF,fun l H' ns s1 hl hp hm a8=>?_⟩
 refine⟨.inl (SqL.of a8),?_⟩
 have e:decide ((((ns.map V.int).length:Nat):Int)>0)=one.any fun k=>decide (k∈ai):=by
  rw[List.length_map]
  cases h:one.any fun k=>decide (k∈ai) with
  | true=>
   obtain⟨k,h1,h2⟩:=List.any_eq_true.mp h
   have:=zCS ((hm k).mpr ⟨h1,of_decide_eq_true h2⟩)
   exact decide_eq_true (by omega)
  | false=>
   cases ns with
   | nil=>rfl
   | cons k ns=>
    obtain⟨h1,h2⟩:=(hm k).mp List.mem_cons_self
    rw[List.any_eq_false] at h
    exact absurd (decide_eq_true h2) (h k h1)
 have:=q H' s1
 rw[<-e] at this
 exact this
end
def B2(rs:List (List Int)):Nat:=(rs.map List.length).sum
inductive QQ(K:PySem.W.Frag)(vs:List V)(H:Hp)(Q:VK)(E:XK):Prop where
 | mk (a:Addr) (xs:List V) (rs:List (List Int)) (_:vs=[.ref a]) (_:SqL K H a xs) (_:RowsAt H xs rs) (_:B2 rs<64) (_:∀(l:Addr)(H':Hp)(ns:List Int),Same H H'->H l=none->ns.Pairwise (· < ·)->(∀k,k∈ns↔∃row∈rs,k∈row)->Ay H' l ns->Q (.ref l) H'):QQ K vs H Q E
theorem Qo(h:tb D σ H):C7 Ls tb D σ H:=A8 h
theorem O4{rs:List (List Int)}{i:Nat}{row:List Int}(h:rs[i]? = some row):B2 (rs.take (i+1))=B2 (rs.take i)+row.length:=by
 have e:rs.take (i+1)=rs.take i++[row]:=by rw[zAI,h];rfl
 unfold B2
 rw[e,zAP,zCZ]
 simp
theorem Tw:B2 (rs.take i)<=B2 rs:=by
 have e:=zB3 i rs
 have:B2 rs=B2 (rs.take i)+B2 (rs.drop i):=by
  conv=>lhs;rw[<-e]
  unfold B2
  rw[zAP,zCZ]
 omega
section
def Wm:=As W8 ["rows"] 1
theorem P7(aa:Ev P w K mg aA aN cK cT cS cB cN cO):Fc P w K mg "in_any" Bh 1 (QQ K):=by
 refine aa.h45.ok Wm ?_
 rintro bz f ak A outer s H _ Q E hr ⟨a,xs,rs,rfl,hS,hR,h64,q⟩
 refine⟨_,AK (Ao (Db rfl) (by rfl) aa.T.sorted boot_sorted (AR (OA (N:=["row","world"]) (js:=[none,none]) (cl:=[]) ⟨rfl,rfl,rfl,zB0 _,rfl,rfl,rfl⟩ (AJ (pv 0)) (fun c1=>(AV 0 (show (["row","world"]:List Str).Nodup by decide +kernel))) (fun c1=>Bi) (fun c1=>(AJ (pv 0))) (fun c1=>(AV 1 (show (["row","world"]:List Str).Nodup by decide +kernel))) (fun c1=>Bi) (fun c1=>(pv 1))))),?_⟩
 refine⟨⟨_,hS⟩,fun cc acc am=>AG (K:=K) (a:=a) (xs:=xs) (fun i σ H2=>TK fun(v0 v1:Option V)(S:Int->Bool)(n:Nat)=>Fs (σ=[v0,v1]) (Same H H2) (H2 acc=some (Bo w acc S n)) (∀k,S k=true↔∃row∈rs.take i,k∈row) (n<=B2 (rs.take i))) ?_ ?_ ?_ ?_⟩
 ·exact⟨none,none,_,0,rfl,Ab am _,upd_same,fun k=>by simp,zA4 _⟩
 ·rintro i σ H2 _ ⟨v0,v1,S,n,rfl,s2,_⟩
  exact s2.seq hS
 ·rintro i x σ H2 hx ⟨v0,v1,S,n,rfl,s2,aH,aS,dQ⟩
  obtain⟨row,p,hrow,rfl,hp⟩:=hR.get hx
  have aK:=O4 hrow
  have ia:=Tw (rs:=rs) (i:=i+1)
  refine Qo ?_
  refine⟨⟨_,SqL.of (s2 _ _ hp)⟩,AG (K:=K) (a:=p) (xs:=row.map V.int) (fun j σ H3=>D0 fun(v1:Option V)(S:Int->Bool)(n:Nat)=>Fs (σ=[some (.ref p),v1]) (Same H H3) (H3 acc=some (Bo w acc S n)) (∀k,S k=true↔(∃row∈rs.take i,k∈row)\/k∈row.take j) (n<=B2 (rs.take i)+j)) ?_ ?_ ?_ ?_⟩
  ·exact⟨_,S,n,rfl,s2,aH,fun k=>by rw[aS k];simp,dQ⟩
  ·rintro j σ H3 _ ⟨v1,S,n,rfl,s3,_⟩
   exact SqL.of (s3 _ _ hp)
  ·rintro j u σ H3 hu ⟨v1,S,n,rfl,s3,dm,hm3,fz⟩
   rw[List.getElem?_map] at hu
   obtain⟨k0,hk0,rfl⟩:=Option.map_eq_some_iff.mp hu
   have hj:=(List.getElem?_eq_some_iff.mp hk0).1
   have et:row.take (j+1)=row.take j++[k0]:=by rw[zAI,hk0];rfl
   refine A8 ?_
   refine⟨k0,S,n,rfl,dm,by omega,?_⟩
   refine⟨_,_,n+1,rfl,AA s3 am _,upd_same,fun k=>?_,by omega⟩
   rw[zBR,hm3 k,decide_eq_true_eq,et,zC0,zB2,or_assoc]
  ·rintro σ H3 ⟨v1,S,n,rfl,s3,dm,hm3,fz⟩
   rw[List.length_map] at hm3 fz
   rw[zAN] at hm3
   refine⟨_,_,S,n,rfl,s3,dm,fun k=>?_,by omega⟩
   have e:rs.take (i+1)=rs.take i++[row]:=by rw[zAI,hrow];rfl
   rw[hm3 k,e]
   constructor
   ·rintro (⟨r,h1,h2⟩|h)
    ·exact⟨r,zB _ h1,h2⟩
    ·exact⟨row,zAX _ List.mem_cons_self,h⟩
   ·rintro⟨r,h1,h2⟩
    rcases List.mem_append.mp h1 with z | z
    ·exact .inl ⟨r,z,h2⟩
    ·rw[List.mem_singleton.mp z] at h2;exact .inr h2
 ·rintro σ H2 ⟨v0,v1,S,n,rfl,s2,aH,aS,dQ⟩
  rw[hR.len,zAN] at aS dQ
  refine⟨acc,S,n,rfl,aH,by omega,fun l ns hl hp hm=>?_⟩
  have s4:=Ab hl (.lst (ns.map V.int))
  exact q l _ ns (s2.trans s4) (s2.free hl) hp (fun k=>by rw[hm k,aS k]) upd_same
end
inductive MN(K:PySem.W.Frag)(vs:List V)(H:Hp)(Q:VK)(E:XK):Prop where
 | mk (a b:Addr) (one ai:List Int) (_:vs=[.ref a,.ref b]) (_:SqL K H a (one.map V.int)) (_:SqL K H b (ai.map V.int)) (_:one.length<=32) (_:(∀k∈one,0<=k/\k<32)) (_:ai.length<=900) (_:∀(H':Hp),Same H H'->Q (.bl (one.all fun k=>decide (k∈ai))) H'):MN K vs H Q E
inductive JZ(K:PySem.W.Frag)(vs:List V)(H:Hp)(Q:VK)(E:XK):Prop where
 | mk (s r:Addr) (seen row:List Int) (_:vs=[.ref s,.ref r]) (_:SqL K H s (seen.map V.int)) (_:Wr seen) (_:seen≠[]) (_:SqL K H r (row.map V.int)) (_:Wr row) (_:∀(H':Hp),Same H H'->Q (.str (Bp seen row)) H'):JZ K vs H Q E
section
def SC:=As Q3 ["one","other"] 2
theorem GT(aa:Ev P w K mg aA aN cK cT cS cB cN cO):Fc P w K mg "all_within" Bh 2 (MN K):=by
 refine aa.h29.ok SC ?_
 rintro bz f ak A outer s H _ Q E hr ⟨a,b,one,ai,rfl,ha,hb,bc,h32,aF,q⟩
 refine⟨_,AK (BW AI (Ao Aq (by rfl) aa.B.len zAO (AR (Am (Dy aa) hr Ai (Av (pv 0) (pv 1))))) Ad (Cf _)),?_⟩
 refine⟨a,b,one,ai,rfl,ha,hb,bc,h32,aF,fun l H' ns s1 hl hp hm a8=>?_⟩
 refine⟨.inl (SqL.of a8),rfl,?_⟩
 have e:decide (V.int (((ns.map V.int).length:Nat):Int)=V.int 0)=one.all fun k=>decide (k∈ai):=by
  rw[List.length_map]
  cases h:one.all fun k=>decide (k∈ai) with
  | true=>
   cases ns with
   | nil=>rfl
   | cons k ns=>
    obtain⟨h1,h2⟩:=(hm k).mp List.mem_cons_self
    exact absurd (of_decide_eq_true (List.all_eq_true.mp h k h1)) h2
  | false=>
   obtain⟨k,h1,h2⟩:=List.all_eq_false.mp h
   have:=zCS ((hm k).mpr ⟨h1,fun z=>h2 (decide_eq_true z)⟩)
   exact decide_eq_false fun z=>by
    injection z with z
    omega
 have:=q H' s1
 rw[<-e] at this
 exact this
def Tc:=As Q7 ["seen","worlds"] 2
theorem GA(aa:Ev P w K mg aA aN cK cT cS cB cN cO):Fc P w K mg "plain" Bh 3 (JZ K):=by
 refine aa.h32.ok Tc ?_
 rintro bz f ak A outer s H _ Q E hr ⟨sn,r,seen,row,rfl,hN,wN,aE,hS,wS,q⟩
 have l1:=wN.len
 have l2:=wS.len
 refine⟨_,Aa (An (A6 (Am (GT aa) hr Ai (Av (pv 0) (pv 1))))
   (AK Ae)
   Ag)
  (Aa (An (A6 (Am (EI aa) hr Ai (Av (pv 0) (pv 1))))
   (AK Ae)
   Ag)
  (AK Ae)),?_⟩
 unfold Bp at q
 refine⟨sn,r,seen,row,rfl,hN,hS,l1,wN.2,by omega,fun H1 s1=>?_⟩
 cases h0:seen.all fun k=>decide (k∈row) with
 | true=>
  refine A8 ?_
  have:=q _ s1
  rw[h0,if_pos rfl] at this
  exact this
 | false=>
  refine AY ?_
  simp only[h0,if_neg zAB] at q
  refine⟨sn,r,seen,row,rfl,s1.seq hN,s1.seq hS,by omega,by omega,fun H2 s2=>?_⟩
  have q2:=q _ (s1.trans s2)
  cases h1:seen.any fun k=>decide (k∈row) with
  | true=>
   refine A8 ?_
   rw[h1,if_pos rfl] at q2
   exact q2
  | false=>
   refine AY ?_
   rw[h1,if_neg zAB] at q2
   exact q2
end
def UX:Option Nat->V
 | none=>.non
 | some i=>.int i
def B7(sides:List (List Int))(row:List Int):Option Nat:=sides.findIdx? fun s=>!(s.any fun k=>decide (k∈row))
theorem miss_none:B7 sides row=none↔AX sides row=true:=by
 unfold B7 AX
 rw[List.findIdx?_eq_none_iff,zBN]
 exact⟨fun h s hs=>by have:=h s hs;simpa using this,fun h s hs=>by have:=h s hs;simpa using this⟩
theorem PU:decide (UX (B7 sides row)= .non)=AX sides row:=by
 cases h:B7 sides row with
 | none=>
  rw[miss_none.mp h]
  rfl
 | some i=>
  cases h2:AX sides row with
  | true=>rw[miss_none.mpr h2] at h;cases h
  | false=>rfl
theorem Uh(hb:∀s∈sides.take i,(s.any fun k=>decide (k∈row))=true)(hi:sides[i]? = some s)(hs:(s.any fun k=>decide (k∈row))=false):B7 sides row=some i:=by
 unfold B7
 obtain⟨aK,rfl⟩:=List.getElem?_eq_some_iff.mp hi
 rw[List.findIdx?_eq_some_iff_getElem]
 refine⟨aK,by simp[hs],fun j hj=>?_⟩
 have hm:sides[j]∈sides.take i:=List.mem_take_iff_getElem.mpr ⟨j,by omega,rfl⟩
 rw[hb _ hm]
 decide
theorem R6(hb:∀s∈sides,(s.any fun k=>decide (k∈row))=true):B7 sides row=none:=by
 rw[miss_none]
 unfold AX
 rw[zBN]
 exact hb
theorem Ob{α:Type}{xs:List α}{x y:α}(hx:xs[i]? = some x)(h:y∈xs.take (i+1)):y∈xs.take i\/y=x:=by
 rw[List.take_succ,hx] at h
 rcases List.mem_append.mp h with h | h
 ·exact .inl h
 ·exact .inr (by simpa using h)
inductive JG(K:PySem.W.Frag)(vs:List V)(H:Hp)(Q:VK)(E:XK):Prop where
 | mk (sd r:Addr) (row:List Int) (xs:List V) (sides:List (List Int)) (_:vs=[.ref sd,.ref r]) (_:SqL K H r (row.map V.int)) (_:row.length<=900) (_:H sd=some (.lst xs)) (_:RowsAt H xs sides) (_:(∀s∈sides,s.length<64)) (_:sides.length<=900) (_:∀(H':Hp),Same H H'->Q (UX (B7 sides row)) H'):JG K vs H Q E
section
def scMissed:=As NF ["sides","worlds","at","side"] 2
theorem Fg(aa:Ev P w K mg aA aN cK cT cS cB cN cO):Fc P w K mg "missed_side" Bh 3 (JG K):=by
 refine aa.h34.ok scMissed ?_
 rintro bz f ak A outer s H _ Q E hr ⟨sd,r,row,xs,sides,rfl,hS,hl,hX,hR,aP,hsn,q⟩
 refine⟨_,Aa (A7 zAR rfl (Dr (by rfl) aa.zenumerate (AR (pv 0))) (BI rfl (AE (AV 2 scMissed.nd) (AE (AV 3 scMissed.nd) Br)))
   (Aj (An (B3 (A6 (Am (EI aa) hr Ai (Av (pv 3) (pv 1)))))
    (AK (pv 2))
    Ag)))
  (AK Dd),?_⟩
 have aj:=hR.len
 refine⟨sd,_,rfl,hX,CG (a:=sd) (xs:=xs) (fun i σ H3=>BF fun(v0 v1:Option V)=>Cc (σ=[some (.ref sd),some (.ref r),v0,v1]) (Same H H3) (∀s∈sides.take i,(s.any fun k=>decide (k∈row))=true)) ?_ ?_ ?_ ?_⟩
 ·exact⟨_,_,rfl,Same.refl _,fun s hs=>by simp at hs⟩
 ·rintro i σ H3 _ ⟨v0,v1,rfl,s3,h3⟩
  exact s3 _ _ hX
 ·rintro i y T2 σ H3 hy cP ⟨v0,v1,rfl,s3,h3⟩
  obtain⟨aV,p,d7,rfl,hp⟩:=hR.get hy
  have sT:=Ab cP (.tup [.int (i:Nat),.ref p])
  have s4:=s3.trans sT
  refine⟨SqT.of upd_same,rfl,rfl,?_⟩
  refine⟨p,r,aV,row,rfl,SqL.of (s4 _ _ hp),s4.seq hS,aP aV (zAJ d7),hl,fun H4 s5=>?_⟩
  cases hb:aV.any fun k=>decide (k∈row) with
  | true=>
   refine AY ?_
   refine⟨_,_,rfl,s4.trans s5,fun s hs=>?_⟩
   rcases Ob d7 hs with h | rfl
   ·exact h3 s h
   ·exact hb
  | false=>
   refine A8 ?_
   have:=q H4 (s4.trans s5)
   rw[Uh h3 d7 hb] at this
   exact this
 ·rintro σ H3 ⟨v0,v1,rfl,s3,h3⟩
  rw[aj,zAN] at h3
  have:=q H3 s3
  rw[R6 h3] at this
  exact this
end
inductive HP(K:PySem.W.Frag)(vs:List V)(H:Hp)(Q:VK)(E:XK):Prop where
 | mk (sd r:Addr) (row:List Int) (xs:List V) (sides:List (List Int)) (_:vs=[.ref sd,.ref r]) (_:SqL K H r (row.map V.int)) (_:row.length<=900) (_:H sd=some (.lst xs)) (_:RowsAt H xs sides) (_:(∀s∈sides,s.length<64)) (_:sides.length<=900) (_:∀(H':Hp),Same H H'->Q (.bl (AX sides row)) H'):HP K vs H Q E
section
def R1:=As ME ["sides","worlds"] 2
theorem Iq(aa:Ev P w K mg aA aN cK cT cS cB cN cO):Fc P w K mg "stands" Bh 4 (HP K):=by
 refine aa.h61.ok R1 ?_
 rintro bz f ak A outer s H _ Q E hr ⟨sd,r,row,xs,sides,rfl,hS,hl,hX,hR,aP,hsn,q⟩
 refine⟨_,AK (Pm (IN (Am (Fg aa) hr Ai (Av (pv 0) (pv 1))))),?_⟩
 refine⟨sd,r,row,xs,sides,rfl,hS,hl,hX,hR,aP,hsn,fun H1 s1=>?_⟩
 have:=q H1 s1
 rw[<-PU] at this
 exact this
end
inductive HU(K:PySem.W.Frag)(vs:List V)(H:Hp)(Q:VK)(E:XK):Prop where
 | mk (sd g s r:Addr) (xs:List V) (sides:List (List Int)) (going seen row:List Int) (_:vs=[.ref sd,.ref g,.ref s,.ref r]) (_:H sd=some (.lst xs)) (_:RowsAt H xs sides) (_:(∀s∈sides,Wr s)) (_:sides.length<=2) (_:SqL K H g (going.map V.int)) (_:Wr going) (_:SqL K H s (seen.map V.int)) (_:Wr seen) (_:seen≠[]) (_:SqL K H r (row.map V.int)) (_:Wr row) (_:∀(H':Hp),Same H H'->Q (.str (Bw sides going seen row)) H'):HU K vs H Q E
def BZ(z:Str)(g r:List Int):List Int:=if z="grant" then Cr g r else if z="deny" then Cu g r else g
def PQ(sides:List (List Int))(going seen row:List Int):Option Nat:=if Bp seen row="doubt" then none else B7 sides (BZ (Bp seen row) going row)
inductive IC(K:PySem.W.Frag)(vs:List V)(H:Hp)(Q:VK)(E:XK):Prop where
 | mk (sd g s r:Addr) (xs:List V) (sides:List (List Int)) (going seen row:List Int) (_:vs=[.ref sd,.ref g,.ref s,.ref r]) (_:H sd=some (.lst xs)) (_:RowsAt H xs sides) (_:(∀s∈sides,Wr s)) (_:sides.length<=2) (_:SqL K H g (going.map V.int)) (_:Wr going) (_:SqL K H s (seen.map V.int)) (_:Wr seen) (_:seen≠[]) (_:SqL K H r (row.map V.int)) (_:Wr row) (_:∀(H':Hp),Same H H'->Q (UX (PQ sides going seen row)) H'):IC K vs H Q E
inductive RL(K:PySem.W.Frag)(vs:List V)(H:Hp)(Q:VK)(E:XK):Prop where
 | mk (z:Str) (g r:Addr) (going row:List Int) (_:vs=[.str z,.ref g,.ref r]) (_:SqL K H g (going.map V.int)) (_:Wr going) (_:SqL K H r (row.map V.int)) (_:row.length<=900) (_:∀(l:Addr)(H':Hp),Same H H'->H l=none->Ay H' l (BZ z going row)->Q (.ref l) H'):RL K vs H Q E
theorem Jn(hg:Wr g)(hp:ns.Pairwise (· < ·))(hm:∀k,k∈ns↔k∈g/\k∈r):ns=Cr g r:=
 EM hp (hg.1.sublist zAK) fun k=>by rw[hm k];unfold Cr;rw[List.mem_filter,decide_eq_true_eq]
theorem NL(hg:Wr g)(hp:ns.Pairwise (· < ·))(hm:∀k,k∈ns↔k∈g/\k∉r):ns=Cu g r:=
 EM hp (hg.1.sublist zAK) fun k=>by rw[hm k];unfold Cu;rw[List.mem_filter,Bool.not_eq_true',decide_eq_false_iff_not]
theorem Kx(xs row:List Int):Cu xs row=[]↔(xs.all fun k=>decide (k∈row))=true:=by
 unfold Cu
 rw[zCT,zBN]
 exact⟨fun h k hk=>by have:=h k hk;simpa using this,fun h k hk=>by have:=h k hk;simpa using this⟩
theorem VA(seen row:List Int):Bp seen row="grant"\/Bp seen row="deny"\/Bp seen row="doubt":=by
 unfold Bp
 split
 ·exact .inl rfl
 ·split
  ·exact .inr (.inr rfl)
  ·exact .inr (.inl rfl)
theorem ST(z:Str)(g r:List Int):(BZ z g r).length<=g.length:=by
 have h1:=VI g r
 have h2:=TF g r
 unfold BZ
 split
 ·omega
 ·split<;>omega
theorem Gw{going seen row:List Int}(n0:¬Cu going row=[])(n1:¬Cr going row=[]):Bw sides going seen row=match PQ sides going seen row with | none=>Bp seen row | some _=>"doubt":=by
 unfold Bw PQ BZ
 rw[if_neg n0,if_neg n1]
 rcases VA seen row with e | e | e
 ·rw[e,if_neg (show ¬("grant":Str)="doubt" by decide),if_pos (show ("grant":Str)="grant" from rfl)]
  cases hs:AX sides (Cr going row) with
  | true=>
   rw[miss_none.mpr hs,if_neg (by rintro⟨_,z⟩;cases z),if_neg (by rintro⟨z,_⟩;exact absurd z (by decide))]
  | false=>
   rw[if_pos ⟨rfl,rfl⟩]
   cases hm:B7 sides (Cr going row) with
   | none=>rw[miss_none.mp hm] at hs;cases hs
   | some i=>rfl
 ·rw[e,if_neg (show ¬("deny":Str)="doubt" by decide),if_neg (show ¬("deny":Str)="grant" by decide),if_pos (show ("deny":Str)="deny" from rfl)]
  cases hs:AX sides (Cu going row) with
  | true=>
   rw[miss_none.mpr hs,if_neg (by rintro⟨z,_⟩;exact absurd z (by decide)),if_neg (by rintro⟨_,z⟩;cases z)]
  | false=>
   rw[if_neg (by rintro⟨z,_⟩;exact absurd z (by decide)),if_pos ⟨rfl,rfl⟩]
   cases hm:B7 sides (Cu going row) with
   | none=>rw[miss_none.mp hm] at hs;cases hs
   | some i=>rfl
 ·rw[e,if_neg (by rintro⟨z,_⟩;exact absurd z (by decide)),if_neg (by rintro⟨z,_⟩;exact absurd z (by decide)),if_pos rfl]
section
def Sf:=As Mx ["word","row","worlds"] 3
theorem CB(aa:Ev P w K mg aA aN cK cT cS cB cN cO):Fc P w K mg "left_by" Bh 2 (RL K):=by
 refine aa.h33.ok Sf ?_
 rintro bz f ak A outer s H _ Q E hr ⟨z,gg,r,going,row,rfl,hG,wG,hS,hl,q⟩
 have l1:=wG.len
 refine⟨_,Aa (An (AH AI (pv 0) Ae)
   (AK (Am (C1 aa) hr Ai (Av (pv 1) (pv 2))))
   Ag)
  (Aa (An (AH AI (pv 0) Ae)
   (AK (Am (Dy aa) hr Ai (Av (pv 1) (pv 2))))
   Ag)
  (AK (AS A3 (by rfl) aa.T.lst Bm (AR (pv 1))))),?_⟩
 unfold BZ at q
 refine⟨rfl,?_⟩
 by_cases h0:z="grant"
 ·refine Bc (by rw[h0]) ?_
  refine⟨gg,r,going,row,rfl,hG,hS,by omega,by omega,fun l H' ns s1 aY hp hm a8=>?_⟩
  have:=Jn wG hp hm
  subst this
  have q1:=q l H' s1 aY
  rw[if_pos h0] at q1
  exact q1 a8
 refine Ba (fun e=>h0 (by injection e)) ?_
 refine⟨rfl,?_⟩
 by_cases h1:z="deny"
 ·refine Bc (by rw[h1]) ?_
  refine⟨gg,r,going,row,rfl,hG,hS,l1,wG.2,by omega,fun l H' ns s1 aY hp hm a8=>?_⟩
  have:=NL wG hp hm
  subst this
  have q1:=q l H' s1 aY
  rw[if_neg h0,if_pos h1] at q1
  exact q1 a8
 refine Ba (fun e=>h1 (by injection e)) ?_
 refine⟨.inl hG,fun l aY=>?_⟩
 have q1:=q l _ (Ab aY (.lst (going.map V.int))) aY
 rw[if_neg h0,if_neg h1] at q1
 exact q1 upd_same
def scBarring:=As K0 ["sides","going","seen","worlds","word"] 4
theorem LJ(aa:Ev P w K mg aA aN cK cT cS cB cN cO):Fc P w K mg "barring_side" Bh 4 (IC K):=by
 refine aa.h35.ok scBarring ?_
 rintro bz f ak A outer s H _ Q E hr ⟨sd,gg,sn,r,xs,sides,going,seen,row,rfl,hX,hR,wX,fY,hG,wG,hN,wN,cV,hS,wS,q⟩
 have l1:=wG.len
 have l3:=wS.len
 refine⟨_,Aa (Az 4 scBarring.nd (Am (GA aa) hr Ai (Av (pv 2) (pv 3))))
  (Aa (An (AH AI (pv 4) Ae)
   (AK Dd)
   Ag)
  (AK (Am (Fg aa) hr Ai (Av (pv 0) (Am (CB aa) hr Ai (Ac (pv 4) (Av (pv 1) (pv 3)))))))),?_⟩
 unfold PQ at q
 refine⟨sn,r,seen,row,rfl,hN,wN,cV,hS,wS,fun H3 s3=>?_⟩
 refine⟨rfl,?_⟩
 by_cases e:Bp seen row="doubt"
 ·refine Bc (by rw[e]) ?_
  have q3:=q _ s3
  rw[if_pos e] at q3
  exact q3
 refine Ba (fun z=>e (by injection z)) ?_
 refine⟨Bp seen row,gg,r,going,row,rfl,s3.seq hG,wG,s3.seq hS,by omega,fun l H4 s4 aY fV=>?_⟩
 have fZ:=s3.trans s4
 have gC:(BZ (Bp seen row) going row).length<=900:=by
  have:=ST (Bp seen row) going row
  omega
 refine⟨sd,l,_,xs,sides,rfl,SqL.of fV,gC,fZ _ _ hX,hR.keep fZ,fun s hs=>zBL (wX s hs).len (by decide),by omega,fun H5 s5=>?_⟩
 have q5:=q _ (fZ.trans s5)
 rw[if_neg e] at q5
 exact q5
def Rp:=As Nx ["sides","going","seen","worlds"] 4
theorem DL(aa:Ev P w K mg aA aN cK cT cS cB cN cO):Fc P w K mg "answer" Bh 5 (HU K):=by
 refine aa.h36.ok Rp ?_
 rintro bz f ak A outer s H _ Q E hr ⟨sd,gg,sn,r,xs,sides,going,seen,row,rfl,hX,hR,wX,fY,hG,wG,hN,wN,cV,hS,wS,q⟩
 have l1:=wG.len
 have l2:=wN.len
 have l3:=wS.len
 refine⟨_,Aa (An (A6 (Am (GT aa) hr Ai (Av (pv 1) (pv 3))))
   (AK Ae)
   Ag)
  (Aa (An (B3 (A6 (Am (EI aa) hr Ai (Av (pv 1) (pv 3)))))
   (AK Ae)
   Ag)
  (Aa (An (P2 (IN (Am (LJ aa) hr Ai (Ac (pv 0) (Ac (pv 1) (Av (pv 2) (pv 3)))))))
   (AK (Am (GA aa) hr Ai (Av (pv 2) (pv 3))))
   Ag)
  (AK Ae))),?_⟩
 refine⟨gg,r,going,row,rfl,hG,hS,l1,wG.2,by omega,fun H1 s1=>?_⟩
 cases h0:going.all fun k=>decide (k∈row) with
 | true=>
  refine A8 ?_
  have:=q _ s1
  unfold Bw at this
  rw[if_pos ((Kx _ _).mpr h0)] at this
  exact this
 | false=>
  refine AY ?_
  have n0:¬Cu going row=[]:=fun z=>by rw[(Kx _ _).mp z] at h0;cases h0
  refine⟨gg,r,going,row,rfl,s1.seq hG,s1.seq hS,by omega,by omega,fun H2 s2=>?_⟩
  have bY:=s1.trans s2
  cases h1:going.any fun k=>decide (k∈row) with
  | false=>
   refine A8 ?_
   have:=q _ bY
   unfold Bw at this
   rw[if_neg n0,if_pos ((No _ _).mpr h1)] at this
   exact this
  | true=>
   refine AY ?_
   have n1:¬Cr going row=[]:=fun z=>by rw[(No _ _).mp z] at h1;cases h1
   refine⟨sd,gg,sn,r,xs,sides,going,seen,row,rfl,bY _ _ hX,hR.keep bY,wX,fY,bY.seq hG,wG,bY.seq hN,wN,cV,bY.seq hS,wS,fun H3 s3=>?_⟩
   have s13:=bY.trans s3
   cases hb:PQ sides going seen row with
   | none=>
    refine Bc rfl ?_
    refine⟨sn,r,seen,row,rfl,s13.seq hN,wN,cV,s13.seq hS,wS,fun H4 s4=>?_⟩
    have q5:=q _ (s13.trans s4)
    rw[Gw n0 n1,hb] at q5
    exact q5
   | some i=>
    refine Ba (fun z=>V.noConfusion z) ?_
    have q5:=q _ s13
    rw[Gw n0 n1,hb] at q5
    exact q5
end
section
def Rg:=As Nr ["sides"] 1
theorem Fa(aa:Ev P w K mg aA aN cK cT cS cB cN cO):Fc P w K mg "base_of" Bh 2 (QQ K):=by
 refine aa.h46.ok Rg ?_
 rintro bz f ak A outer s H _ Q E hr ⟨a,xs,rs,rfl,hS,hR,h64,q⟩
 refine⟨_,AK (Am (P7 aa) hr Ai (AR (pv 0))),?_⟩
 exact⟨a,xs,rs,rfl,hS,hR,h64,q⟩
end
theorem Cg:B2 (Au z t row)<=row.length:=by
 have h:=K4 t row
 unfold Au B2
 split
 ·simp only[zA7,zCL,zD,List.sum_nil];omega
 ·split
  ·simp only[zA7,zCL,zD,List.sum_nil];omega
  ·simp only[zA7,zCL,zD,List.sum_nil];omega
theorem GS(hr:Wr room)(hs:∀s∈sides,s.Sublist room)(hp:ns.Pairwise (· < ·))(hm:∀k,k∈ns↔∃row∈sides,k∈row):ns=Ci room sides:=
 EM hp (hr.1.sublist zAK) fun k=>by
  rw[hm k]
  unfold Ci
  rw[List.mem_filter,zBU]
  constructor
  ·rintro⟨r,h1,h2⟩
   exact⟨(hs r h1).subset h2,r,h1,decide_eq_true h2⟩
  ·rintro⟨_,r,h1,h2⟩
   exact⟨r,h1,of_decide_eq_true h2⟩
structure X6(K:PySem.W.Frag)(C D:Addr):Prop where
 mro:mroIn K C (.ref D)=some false
 kit:kitOne K (.ref C) (.ref D)=some false
theorem RD{K:PySem.W.Frag}{sub sub2:List Value}(lC:K.lookup C=some (excClassObj nm q C N bs (.ref cT::KA) true sn sub ab gA dd k0 k1 k2 k3 k5 "ValueError.__new__"))(lN:K.lookup N=some ⟨oc,od,.dict es ep,sl⟩)(sN:(es.all fun e=>match e.key with | .str _ _=>true | _=>false)=true)(iN:nsIn K N "__init__"=some none)(lT:K.lookup cT=some ⟨.type "type",dd2,.cls { name:=nm2,bases:=bs2,mro:=.ref cT::KA,ns:=NT,qualname:=q2,hasDict:=hd2,slotNames:=sn2,subclasses:=sub2,abstract:=ab2,collection:=col2,hasDel:=false },#[j0,j1,j2,j3,j4,j5]⟩)(lNT:K.lookup NT=some ⟨oc2,od2,.dict es2 ep2,eS⟩)(sNT:(es2.all fun e=>match e.key with | .str _ _=>true | _=>false)=true)(iNT:nsIn K NT "__init__"=some none)(kp:keepIn K (.ref C)=true):VP K C cT none:=
 ⟨⟨nm,q,N,bs,true,sn,sub,ab,gA,dd,k0,k1,k2,k3,k5,lC,M4 lN sN,iN⟩,RY lT (M4 lNT sNT) iNT,kp⟩
def AM(z:Str):Prop:=z="true"\/z="false"\/z="doubt"
instance(z:Str):Decidable (AM z):=by unfold AM;infer_instance
abbrev RowsNew(H H':Hp):List V->List (List Int)->Prop:=Paired fun(v:V)(row:List Int)=>∃p,Cc (v= .ref p) (H p=none) (Ay H' p row)
theorem RowsNew.at{H H':Hp}:∀{xs:List V}{rs:List (List Int)},RowsNew H H' xs rs->RowsAt H' xs rs
 | _,_,.nil=>.nil
 | _,_,.cons ⟨p,e,_,h⟩ q=>.cons ⟨p,e,h⟩ (RowsNew.at q)
theorem RowsNew.keep{H H' H2:Hp}(s:Same H' H2):∀{xs:List V}{rs:List (List Int)},RowsNew H H' xs rs->RowsNew H H2 xs rs
 | _,_,.nil=>.nil
 | _,_,.cons ⟨p,e,n,h⟩ q=>.cons ⟨p,e,n,s _ _ h⟩ (RowsNew.keep s q)
inductive HM(K:PySem.W.Frag)(cB cN:Addr)(vs:List V)(H:Hp)(Q:VK)(E:XK):Prop where
 | mk (r:Addr) (z:Str) (v:V) (t:Tr) (row:List Int) (_:vs=[.ref r,.str z,v]) (_:t.At H v) (_:t.ok 5) (_:t.size<=800) (_:SqL K H r (row.map V.int)) (_:Wr row) (_:(¬AM z->∀H',Same H H'->E (.ref cB) none H')) (_:(AM z->[]∈Au z t row->∀H',Same H H'->E (.ref cN) none H')) (_:(AM z->[]∉Au z t row->∀(l:Addr)(xs:List V)(H':Hp),Same H H'->H l=none->H' l=some (.lst xs)->RowsNew H H' xs (Au z t row)->(∀x∈xs,x≠.ref l)->Q (.ref l) H')):HM K cB cN vs H Q E
def GM:List V:=[.str "true",.str "false",.str "doubt"]
theorem O2(z:Str):OW (.str z) GM=decide (AM z):=by
 unfold OW GM AM
 simp only[zBY,List.any_nil,Bool.or_false]
 have e:∀y:Str,OR (.str y) (.str z)=decide (z=y):=fun y=>by
  show (y == z)=decide (z=y)
  by_cases h:z=y
  ·subst h;simp
  ·rw[decide_eq_false h]
   exact beq_false_of_ne fun q=>h q.symm
 rw[e,e,e,zA5]
 simp only[zBR,decide_eq_true_eq]
 exact decide_eq_true_iff.symm
theorem Sz(hr:Wr row)(hp:ns.Pairwise (· < ·))(hm:∀k,k∈ns↔k∈row/\k∉row.filter fun k=>tv t k == true):ns=AQ false t row:=
 EM hp (hr.1.sublist zAK) fun k=>by
  rw[hm k]
  unfold AQ
  rw[List.mem_filter,List.mem_filter]
  constructor
  ·rintro⟨h1,h2⟩
   refine⟨h1,?_⟩
   cases h:tv t k with
   | false=>rfl
   | true=>exact absurd ⟨h1,by rw[h];rfl⟩ h2
  ·rintro⟨h1,h2⟩
   refine⟨h1,fun h3=>?_⟩
   have e1:=h3.2
   have e2:tv t k=false:=eq_of_beq h2
   rw[e2] at e1
   cases e1
theorem LP{r:List Int}:(r.map V.int).isEmpty=r.isEmpty:=by cases r<;>rfl
theorem OY(rs:List (List Int)):(rs.map List.isEmpty).any id=decide ([]∈rs):=by
 induction rs with
 | nil=>rfl
 | cons r rs ih=>
  rw[zA7,zBY,ih]
  cases r with
  | nil=>simp
  | cons a b=>simp
theorem Px{K:PySem.W.Frag}(h:RowsAt H xs rs):∀(i:Nat) v b,xs[i]? = some v->(rs.map List.isEmpty)[i]? = some b->BF fun a zs=>Cc (v= .ref a) (SqL K H a zs) (b=zs.isEmpty):=fun i v b hv hb=>by
 obtain⟨row,p,hr,rfl,hp⟩:=h.get hv
 rw[List.getElem?_map,hr] at hb
 refine⟨p,_,rfl,SqL.of hp,?_⟩
 rw[LP]
 exact (zAE hb).symm
section
def scSidesOf:=As KM ["room","kind","sentence","inside","outside","sides"] 3
theorem G0(aa:Ev P w K mg aA aN cK cT cS cB cN cO):Fc P w K mg "sides_of" (GR P w) 4 (HM K cB cN):=by
 refine aa.h44.okX scSidesOf ?_
 rintro bz f ak A outer s H _ Q E hr ⟨r,z,v,t,row,rfl,ha,hok,ay,hS,hwr,qB,qN,qO⟩
 have hl:=hwr.len
 refine⟨_,Aa (An (DI C0 (pv 1) (Aw (Ac Ae (Av Ae Ae))) (by with_unfolding_all rfl))
   (Aj (Ce (Ex:=E) CQ rfl aa.X_BadWord.cls aa.X_BadWord.at_ aa.X_BadWord.ty (by rfl) aa.X_BadWord.m (AR Ae) (hvl:=fun _ _ _ h=>⟨by decide,h⟩)))
   Ag)
  (Aa (Az 3 scSidesOf.nd (Am (BE aa) hr Ai (Av (pv 2) (pv 0))))
  (Aa (Az 4 scSidesOf.nd (Am (Dy aa) hr Ai (Av (pv 0) (pv 3))))
  (Aa (An (AH AI (pv 1) Ae)
   (Aj (Az 5 scSidesOf.nd (Ar (AR (pv 3)))))
   (Aj (An (AH AI (pv 1) Ae)
    (Aj (Az 5 scSidesOf.nd (Ar (AR (pv 4)))))
    (Aj (Az 5 scSidesOf.nd (Ar (Av (pv 3) (pv 4))))))))
  (Aa (An (DI (U6 hr.units9) (Ar Bk) (pv 5) (by with_unfolding_all rfl))
   (Aj (Ce (Ex:=E) CQ rfl aa.X_NoStanding.cls aa.X_NoStanding.at_ aa.X_NoStanding.ty (by rfl) aa.X_NoStanding.m (AR Ae) (hvl:=fun _ _ _ h=>⟨by decide,h⟩)))
   Ag)
  (AK (pv 5)))))),?_⟩
 refine⟨E2,fun kt hkt=>?_⟩
 have s1:=Ab hkt (.tup GM)
 refine⟨kt,GM,rfl,.inr (SqT.of upd_same),rfl,rfl,?_⟩
 show If (!OW (.str z) GM) _ _
 rw[O2]
 by_cases hk:AM z
 rotate_left
 ·refine HR hk ?_
  exact qB hk _ s1
 refine DZ hk ?_
 have a1:=ha.keep (TS.same s1)
 refine⟨v,t,r,row,rfl,a1,hok,ay,s1.seq hS,hwr,fun il H2 s2 hil0 fL=>?_⟩
 have t2:=s1.trans s2
 have ik:(row.filter fun k=>tv t k == true).length<=32:=zAC (zA0 _ _) hl
 refine⟨r,il,row,_,rfl,t2.seq hS,SqL.of fL,hl,hwr.2,by omega,fun ol H3 ns s3 hol0 hp hm eJ=>?_⟩
 have en:=Sz hwr hp hm
 subst en
 have t3:=t2.trans s3
 have gH:Ay H3 il (AQ true t row):=s3 _ _ fL
 have nil0:H il=none:=s1.free hil0
 have nol0:H ol=none:=t2.free hol0
 have nio:il≠ol:=Ah fL hol0
 have aJ:∀(sl:Addr)(xs:List V)(H4:Hp),Same H3 H4->H3 sl=none->H4 sl=some (.lst xs)->RowsNew H H4 xs (Au z t row)->(∀x∈xs,x≠.ref sl)->∀(e:Addr),H4 e=none->∀(G:Bool->Hp->Prop),(∀H',E (.ref cN) none H'->G true H')->(∀H',Q (.ref sl) H'->G false H')->
   UV K (.ref e) (.ref sl) (upd H4 e (.lst [])) (Rk G):=fun sl xs H4 s4 hsl0 aP hR aE e he G g1 g2=>by
  have s5:=Ab he (.lst [])
  refine⟨e,sl,xs,(Au z t row).map List.isEmpty,rfl,rfl,SqL.of upd_same,SqL.of (s5 _ _ aP),?_,Px (hR.at.keep s5),?_⟩
  ·rw[List.length_map];exact hR.at.len.symm
  ·rw[OY]
   by_cases fQ:[]∈Au z t row
   ·rw[decide_eq_true fQ]
    exact g1 _ (qN hk fQ _ (t3.trans (s4.trans s5)))
   ·rw[decide_eq_false fQ]
    refine g2 _ ?_
    exact qO hk fQ sl xs _ (t3.trans (s4.trans s5)) (t3.free hsl0) (s5 _ _ aP) (hR.keep s5) aE
 refine⟨rfl,?_⟩
 by_cases h0:z="true"
 ·refine Bc (by rw[h0]) ?_
  refine⟨Gc,fun sl aP=>?_⟩
  have s4:=Ab aP (.lst [.ref il])
  refine⟨IF,fun e he=>?_⟩
  have eR:Au z t row=[AQ true t row]:=by unfold Au;rw[if_pos h0]
  exact aJ sl [.ref il] _ s4 aP upd_same (by rw[eR];exact .cons ⟨il,rfl,nil0,s4 _ _ gH⟩ .nil) (fun x hx=>by rw[List.mem_singleton.mp hx];intro q;exact Ah gH aP (V.ref.inj q)) e he _ (fun H' h=>A8 h) (fun H' h=>AY h)
 refine Ba (fun q=>h0 (by injection q)) ?_
 refine⟨rfl,?_⟩
 by_cases h1:z="false"
 ·refine Bc (by rw[h1]) ?_
  refine⟨Gc,fun sl aP=>?_⟩
  have s4:=Ab aP (.lst [.ref ol])
  refine⟨IF,fun e he=>?_⟩
  have eR:Au z t row=[AQ false t row]:=by unfold Au;rw[if_neg h0,if_pos h1]
  exact aJ sl [.ref ol] _ s4 aP upd_same (by rw[eR];exact .cons ⟨ol,rfl,nol0,s4 _ _ eJ⟩ .nil) (fun x hx=>by rw[List.mem_singleton.mp hx];intro q;exact Ah eJ aP (V.ref.inj q)) e he _ (fun H' h=>A8 h) (fun H' h=>AY h)
 refine Ba (fun q=>h1 (by injection q)) ?_
 refine⟨BT,fun sl aP=>?_⟩
 have s4:=Ab aP (.lst [.ref il,.ref ol])
 refine⟨IF,fun e he=>?_⟩
 have eR:Au z t row=[AQ true t row,AQ false t row]:=by unfold Au;rw[if_neg h0,if_neg h1]
 refine aJ sl [.ref il,.ref ol] _ s4 aP upd_same (by rw[eR];exact .cons ⟨il,rfl,nil0,s4 _ _ gH⟩ (.cons ⟨ol,rfl,nol0,s4 _ _ eJ⟩ .nil)) (fun x hx=>by
  rcases List.mem_cons.mp hx with q | q
  ·rw[q];intro q;exact Ah gH aP (V.ref.inj q)
  ·rw[List.mem_singleton.mp q];intro q;exact Ah eJ aP (V.ref.inj q)) e he _ (fun H' h=>A8 h) (fun H' h=>AY h)
end
def Cw:Tr->List Int
 | .lt k=>[(k:Int)]
 | .nt t=>Cw t
 | .bn _ a b=>Cw a++Cw b
def Cp(ts:List Tr):List Int:=ts.flatMap Cw
def S8:Tr->List Int
 | .lt k=>[(k:Int)]
 | _=>[]
def Hd(ts:List Tr):List Int:=ts.flatMap S8
theorem Sc:∀t:Tr,Cw t=S8 t++Cp (Ll t)
 | .lt _=>rfl
 | .nt t=>by show Cw t=[]++(Cw t++[]);simp
 | .bn _ a b=>by show Cw a++Cw b=[]++(Cw a++(Cw b++[]));simp
theorem N3(a b:List Tr):Cp (a++b)=Cp a++Cp b:=by unfold Cp;rw[List.flatMap_append]
theorem OJ(ts:List Tr)(k:Int):k∈Cp ts↔k∈Hd ts\/k∈Cp (B0 ts):=by
 induction ts with
 | nil=>simp[Cp,Hd,B0]
 | cons t r ih=>
  have e1:Cp (t::r)=Cw t++Cp r:=rfl
  have e2:Hd (t::r)=S8 t++Hd r:=rfl
  have e3:B0 (t::r)=Ll t++B0 r:=rfl
  rw[e1,e2,e3,N3,Sc]
  simp only[zC0,ih]
  constructor
  ·rintro ((h | h) | (h | h))
   ·exact .inl (.inl h)
   ·exact .inr (.inl h)
   ·exact .inl (.inr h)
   ·exact .inr (.inr h)
  ·rintro ((h | h) | (h | h))
   ·exact .inl (.inl h)
   ·exact .inr (.inl h)
   ·exact .inl (.inr h)
   ·exact .inr (.inr h)
theorem Fq{ts:List Tr}{i:Nat}(h:ts[i]? = some t):Hd (ts.take (i+1))=Hd (ts.take i)++S8 t:=by
 unfold Hd
 rw[zAI,h,List.flatMap_append]
 simp
theorem TS.ext(h:H l=some o)(n:∀xs,o≠.tup xs):TS H (upd H l u):=fun p ys e=>by
 rw[Al (CI e h fun z=>n ys z.symm)]
 exact e
inductive Iy(vs:List V)(H:Hp)(Q:VK)(E:XK):Prop where
 | mk (v:V) (t:Tr) (_:vs=[v]) (_:t.At H v) (_:t.size<=60) (_:∀(l:Addr)(ns:List Int)(H':Hp),Same H H'->H l=none->H' l=some (.lst (ns.map V.int))->ns.Pairwise (· < ·)->(∀k,k∈ns↔k∈Cw t)->Q (.ref l) H'):Iy  vs H Q E
section
def scLetters:=As Jv ["sentence","found","layer","part"] 1
inductive XR(w:World)(H:Hp)(v:V)(t:Tr)(fa:Addr)(m:Nat)(σ:L2.St)(H3:Hp):Prop where
 | mk (S:Int->Bool) (n:Nat) (r:Addr) (ys:List V) (ts:List Tr) (pp:Option V) (_:σ=[some v,some (.ref fa),some (.ref r),pp]) (_:Same H H3) (_:H3 fa=some (Bo w fa S n)) (_:H3 r=some (.lst ys)) (_:Pile H3 ys ts) (_:n+sz ts<=60) (_:(∀k,k∈Cw t↔S k=true\/k∈Cp ts)) (_:sz ts=m):XR w H v t fa m σ H3
theorem Lm(aa:Ev P w K mg aA aN cK cT cS cB cN cO):Fc P w K mg "letters" Bh 2 Iy:=by
 refine aa.h21.ok scLetters ?_
 rintro bz f ak A outer s H _ Q E hr ⟨v,t,rfl,ha,hs,q⟩
 refine⟨_,Aa (Az 1 scLetters.nd (Ly O0 (by rfl) aa.T.set boot_set))
  (Aa (Az 2 scLetters.nd (Ar (AR (pv 0))))
  (Aa (Gs zAR (CO (pv 2) (fun _=>rfl))
   (Aa (A7 zAR rfl (AJ (pv 2)) (AV 3 scLetters.nd)
    (Aj (An (AH AI (AN AU (pv 3) Ad) Ae)
     (Aj (AC (TV (pv 1) (AR (AN AU (pv 3) Ad)))))
     Ag)))
   (Aj (Az 2 scLetters.nd (Am (JO aa) hr Ai (AR (pv 2)))))))
  (AK (Ao (Db rfl) (by rfl) aa.T.sorted boot_sorted (AR (pv 1)))))),?_⟩
 refine⟨rfl,fun fa hfa=>?_⟩
 have s1:=Ab hfa (Bo w fa (fun _=>false) 0)
 refine⟨Gc,fun l hl=>?_⟩
 have s2:=Ab hl (.lst [v])
 have e1:sz [t]=t.size:=by unfold sz;simp
 refine⟨XR w H v t fa,⟨_,fun _=>false,0,l,[v],[t],none,rfl,s1.trans s2,s2 _ _ upd_same,upd_same,.cons (ha.keep ((TS.same s1).trans (TS.same s2))) .nil,by omega,fun k=>?_,rfl⟩,?_⟩
 ·have:Cp [t]=Cw t:=by unfold Cp;simp
  rw[this]
  simp
 rintro m σ H3 ⟨S,n,r,ys,ts,pp,rfl,s3,hf3,hr3,p3,fz,hm3,rfl⟩
 refine⟨_,.inl ⟨ys,SqL.of hr3,rfl⟩,?_⟩
 refine B9 (fun c=>?_) (fun c=>?_)
 ·refine⟨fun σ' H'=>∃m',m'<sz ts/\XR w H v t fa m' σ' H',fun _ _ h=>h,?_⟩
  have aj:=p3.len
  have br:0<ts.length:=by
   rw[<-aj]
   cases ys with
   | nil=>exact absurd c (by decide)
   | cons _ _=>exact zBG _
  refine⟨⟨_,SqL.of hr3⟩,AG (K:=K) (a:=r) (xs:=ys) (fun i σ H4=>D0 fun(S2:Int->Bool)(n2:Nat)(pp:Option V)=>U9 (σ=[some v,some (.ref fa),some (.ref r),pp]) (Same H H4) (H4 fa=some (Bo w fa S2 n2)) (H4 r=some (.lst ys)) (Pile H4 ys ts) (n2<=n+i) (∀k,S2 k=true↔S k=true\/k∈Hd (ts.take i))) ?_ ?_ ?_ ?_⟩
  ·exact⟨S,n,pp,rfl,s3,hf3,hr3,p3,zAA _,fun k=>by simp[Hd]⟩
  ·rintro i σ H4 _ ⟨S2,n2,pp,rfl,s4,_,ir,_⟩
   exact SqL.of ir
  ·rintro i x σ H4 hx ⟨S2,n2,pp,rfl,s4,f6,ir,p4,hn4,hm4⟩
   obtain⟨t2,ht2,aU⟩:=DB p4 hx
   have hi:i<ys.length:=(List.getElem?_eq_some_iff.mp hx).1
   have ay:=Jh ts
   cases t2 with
   | lt j=>
    obtain⟨p,rfl,hp⟩:=aU
    refine⟨SqT.of hp,Af (j:=0) rfl,rfl,?_⟩
    refine Bc rfl ?_
    refine⟨fa,S2,n2,rfl,f6,SqT.of hp,Af (j:=1) rfl,_,S2,n2,rfl,f6,by omega,?_⟩
    have kk:TS H4 (upd H4 fa (Bo w fa (fun k=>S2 k || decide (k=(j:Int))) (n2+1))):=TS.ext f6 (fun xs z=>by cases z)
    refine⟨_,n2+1,_,rfl,AA s4 hfa _,upd_same,by rw[Al (CI ir f6 (by intro z;cases z))];exact ir,p4.keep kk,by omega,fun k=>?_⟩
    rw[zBR,decide_eq_true_eq,hm4 k,Fq ht2,zC0]
    show (_\/_)\/k=(j:Int)↔_\/_\/k∈[(j:Int)]
    rw[zB2,or_assoc]
   | nt t3=>
    obtain⟨p,u,rfl,hp,_⟩:=aU
    refine⟨SqT.of hp,Af (j:=0) rfl,rfl,?_⟩
    refine Ba (by decide) ?_
    refine⟨S2,n2,_,rfl,s4,f6,ir,p4,by omega,fun k=>?_⟩
    rw[hm4 k,Fq ht2]
    show _↔_\/k∈Hd (ts.take i)++[]
    rw[zAU]
   | bn j a b=>
    obtain⟨p,u,u2,rfl,hp,_⟩:=aU
    refine⟨SqT.of hp,Af (j:=0) rfl,rfl,?_⟩
    refine Ba GF ?_
    refine⟨S2,n2,_,rfl,s4,f6,ir,p4,by omega,fun k=>?_⟩
    rw[hm4 k,Fq ht2]
    show _↔_\/k∈Hd (ts.take i)++[]
    rw[zAU]
  ·rintro σ H4 ⟨S2,n2,pp,rfl,s4,f6,ir,p4,hn4,hm4⟩
   rw[aj,zAN] at hm4
   have hk:=Mz ts
   refine⟨r,ys,ts,rfl,SqL.of ir,p4,by omega,fun r2 zs H5 s5 hr5 p5=>?_⟩
   refine⟨sz (B0 ts),by omega,S2,n2,r2,zs,B0 ts,_,rfl,s4.trans s5,s5 _ _ f6,hr5,p5,by omega,fun k=>?_,rfl⟩
   rw[hm3 k,OJ,hm4 k,or_assoc]
 ·have e:ts=[]:=by
   cases p3 with
   | nil=>rfl
   | cons h1 h2=>exact absurd rfl c
  subst e
  refine⟨fa,S,n,rfl,hf3,by omega,fun l2 ns aF hp hm=>?_⟩
  refine q l2 ns _ (s3.trans (Ab aF _)) (s3.free aF) upd_same hp fun k=>?_
  rw[hm k,hm3 k]
  simp[Cp]
end
theorem Vp(e:EU ns k=c)(h1:k<(ns.length:Int))(h2:c>=1000000000000):c=KY ns k:=by
 unfold KY
 rw[e,if_pos ⟨h1,h2⟩]
theorem IX(e:EU ns k=c)(h:¬(k<(ns.length:Int)/\c>=1000000000000)):UT c k=KY ns k:=by
 unfold KY
 rw[e,if_neg h]
section
variable {bz:Heap}{f:Addr}{fd:FuncData}
theorem BN(aa:Ev P w K mg aA aN cK cT cS cB cN cO):Fc P w K mg "_law_num" Bh 1 (L4 K):=by
 refine aa.h1.ok scNum ?_
 rintro bz f ak A outer s H _ Q E hr ⟨a,ns,k,rfl,hS,h63,hk0,hk1,q⟩
 refine⟨_,Aa (Az 2 scNum.nd Ad)
  (Aa (An (AH (Sl hr.units0) (pv 0) (Ar Bk))
   (Aj (Az 2 scNum.nd (Ao Rs (by rfl) aa.B.abs boot_abs (AR (AN AD (pv 0) (Ak AL (pv 1) (Ao Aq (by rfl) aa.B.len zAO (AR (pv 0))))))))) Ag)
  (Aa (An (IO (AH MV (pv 1) (Ao Aq (by rfl) aa.B.len zAO (AR (pv 0)))) (FY (AH Uk (pv 2) (Ak PR Ad Ad)))).pt
   (AK (pv 2)) Ag)
  (Aa (Az 3 scNum.nd (Ak AL (Ak BB (Ak BB (Ak Gu (pv 2) Ad) (Ak Gu Ad (pv 1))) Ad) Ad))
  (Aa (Az 4 scNum.nd (Ak AL (Ak BB (Ak BB (Ak Gu (pv 3) (pv 3)) (Ak Gu Ad (pv 2))) Ad) Ad))
  (AK (Ak BB (Ak Gu (pv 3) Ad) (pv 4))))))),?_⟩
 refine⟨IF,fun p hp=>?_⟩
 have sm:Same H (upd H p (.lst [])):=Ab hp _
 refine⟨a,p,_,rfl,rfl,sm.seq hS,SqL.of upd_same,?_⟩
 have hl:(ns.map V.int).length=ns.length:=List.length_map _
 have aJ:∀c:Int,0<=c->∀b:Int,0<=(c*48271+40692*k+11)%2147483647*2147483629+b%2147483629:=fun c hc b=>by
  have h1:=zAV (c*48271+40692*k+11) (show (2147483647:Int)≠0 by decide)
  have h2:=zAV b (show (2147483629:Int)≠0 by decide)
  omega
 have iu:∀b:Int,-(2^64)<b%2147483647/\b%2147483647<2^64:=fun b=>by omega
 refine B9 (fun c0=>?_) (fun c0=>?_)
 ·have ne:ns≠[]:=by
   intro z
   subst z
   exact absurd c0 (by decide)
  have hp':0<ns.length:=List.length_pos_iff.mpr ne
  have hi:(k%(ns.length:Int)).toNat<ns.length:=by
   have h1:=zAV k (show (ns.length:Int)≠0 by omega)
   have h2:=zAY k (show (0:Int)<ns.length by omega)
   omega
  have aU:EF (ns.map V.int) (k%(((ns.map V.int).length:Nat):Int))=some (.int ns[(k%(ns.length:Int)).toNat]):=by
   have e:k%(((ns.map V.int).length:Nat):Int)=(((k%(ns.length:Int)).toNat:Nat):Int):=by
    rw[hl]
    have h1:=zAV k (show (ns.length:Int)≠0 by omega)
    omega
   rw[e]
   refine Af ?_
   rw[List.getElem?_map,List.getElem?_eq_getElem hi]
   rfl
  refine⟨.inl (sm.seq hS),(by rw[hl];omega),sm.seq hS,aU,_,rfl,?_⟩
  generalize hc:(if ns[(k%(ns.length:Int)).toNat]<0 then -ns[(k%(ns.length:Int)).toNat] else ns[(k%(ns.length:Int)).toNat])=c
  have hc0:0<=c:=by
   rw[<-hc]
   split<;>omega
  have eC:EU ns k=c:=by
   unfold EU
   rw[dif_pos hi]
   exact hc
  refine⟨.inl (sm.seq hS),?_⟩
  refine B9 (fun c1=>?_) (fun c1=>?_)
  ·refine⟨⟨by decide,by decide,by decide⟩,?_⟩
   refine B9 (fun c2=>?_) (fun c2=>?_)
   ·have e1:=Vp eC (by have z:=of_decide_eq_true c1;rw[hl] at z;exact z) (of_decide_eq_true c2)
    rw[<-e1] at q
    exact q _ hc0 sm
   ·refine⟨.inr ⟨by decide,by decide⟩,.inl ⟨by decide,by decide⟩,(by show (0:Int)<2147483647;decide),?_⟩
    refine⟨.inl (iu _),.inl ⟨by decide,by decide⟩,(by show (0:Int)<2147483629;decide),?_⟩
    have e1:=IX (k:=k) eC (fun z=>c2 (decide_eq_true z.2))
    rw[<-e1] at q
    exact⟨.inl (iu _),q _ (aJ c hc0 _) sm⟩
  ·refine AY ?_
   refine⟨.inr ⟨by decide,by decide⟩,.inl ⟨by decide,by decide⟩,(by show (0:Int)<2147483647;decide),?_⟩
   refine⟨.inl (iu _),.inl ⟨by decide,by decide⟩,(by show (0:Int)<2147483629;decide),?_⟩
   have e1:=IX (k:=k) eC (fun z=>c1 (decide_eq_true (by rw[hl];exact z.1)))
   rw[<-e1] at q
   exact⟨.inl (iu _),q _ (aJ c hc0 _) sm⟩
 ·have en:ns=[]:=by
   cases ns with
   | nil=>rfl
   | cons x r=>exact absurd (by rfl) c0
  subst en
  have eC:EU [] k=0:=by
   unfold EU
   rw[dif_neg (by simp)]
  refine⟨.inl (sm.seq hS),?_⟩
  refine B9 (fun c1=>?_) (fun c1=>?_)
  ·refine⟨⟨by decide,by decide,by decide⟩,?_⟩
   refine B9 (fun c2=>?_) (fun c2=>?_)
   ·exact absurd (of_decide_eq_true c2) (by decide)
   ·refine⟨.inr ⟨by decide,by decide⟩,.inl ⟨by decide,by decide⟩,(by show (0:Int)<2147483647;decide),?_⟩
    refine⟨.inl (iu _),.inl ⟨by decide,by decide⟩,(by show (0:Int)<2147483629;decide),?_⟩
    have e1:=IX (k:=k) eC (fun z=>absurd z.2 (by decide))
    rw[<-e1] at q
    exact⟨.inl (iu _),q _ (aJ 0 (Int.le_refl _) _) sm⟩
  ·refine AY ?_
   refine⟨.inr ⟨by decide,by decide⟩,.inl ⟨by decide,by decide⟩,(by show (0:Int)<2147483647;decide),?_⟩
   refine⟨.inl (iu _),.inl ⟨by decide,by decide⟩,(by show (0:Int)<2147483629;decide),?_⟩
   have e1:=IX (k:=k) eC (fun z=>absurd z.2 (by decide))
   rw[<-e1] at q
   exact⟨.inl (iu _),q _ (aJ 0 (Int.le_refl _) _) sm⟩
end
theorem OwnX.ap{K:PySem.W.Frag}{mg:Str->Option Value}{n m:Str}(A:OwnX K mg n C cT)(B:OwnX K mg m D cT)(h:mroIn K C (.ref D)=some false):X6 K C D:=by
 refine⟨h,Vo (beq_eq_false_iff_ne.mpr fun e=>?_) B.ic B.ty h⟩
 injection e with e
 subst e
 exact absurd (h.symm.trans A.slf) (by decide)
theorem Ge:∀{t:Tr}{m:Nat},t.ok 5->(t.ok m↔∀k∈Cw t,k<(m:Int))
 | .lt j,m,_=>by
  show j<m↔∀k∈[(j:Int)],k<(m:Int)
  simp
 | .nt t,m,h=>Ge (t:=t) h
 | .bn j a b,m,h=>by
  have h1:=Ge (m:=m) h.2.1
  have h2:=Ge (m:=m) h.2.2
  show (j<4/\a.ok m/\b.ok m)↔∀k∈Cw a++Cw b,k<(m:Int)
  rw[h1,h2]
  constructor
  ·rintro⟨_,q1,q2⟩ k hk
   rcases List.mem_append.mp hk with z | z
   ·exact q1 k z
   ·exact q2 k z
  ·intro q
   exact⟨h.1,fun k hk=>q k (zB _ hk),fun k hk=>q k (zAX _ hk)⟩
theorem I9:∀t:Tr,∃k,k∈Cw t
 | .lt j=>⟨(j:Int),by simp[Cw]⟩
 | .nt t=>I9 t
 | .bn _ a b=>by
  obtain⟨k,hk⟩:=I9 a
  exact⟨k,zB _ hk⟩
theorem TJ{ns:List Int}{x:Int}(h:(ns++[x]).Pairwise (· < ·)):∀k∈ns++[x],k<=x:=fun k hk=>by
 rcases List.mem_append.mp hk with z | z
 ·exact Int.le_of_lt ((List.pairwise_append.mp h).2.2 k z x (by simp))
 ·rw[List.mem_singleton.mp z]
  exact Int.le_refl _
theorem KW{α:Type}(xs:List α)(x:α):EF (xs++[x]) (-1)=some x:=by
 have e:Uj (xs++[x]).length (-1)=some xs.length:=by
  unfold Uj
  rw[if_neg (by decide),zA]
  show (if _ then _ else _)=_
  rw[if_pos (by show -(((xs.length+1:Nat)):Int)<=-1;omega)]
  congr 1
  show (((xs.length+1:Nat):Int) + -1).toNat=xs.length
  omega
 unfold EF
 rw[e]
 show (xs++[x])[xs.length]? = some x
 simp
inductive Jw(cS:Addr)(vs:List V)(H:Hp)(Q:VK)(E:XK):Prop where
 | mk (v:V) (t:Tr) (m:Nat) (_:vs=[v,.int m]) (_:t.At H v) (_:t.ok 5) (_:t.size<=60) (_:(¬t.ok m->∀H',Same H H'->E (.ref cS) none H')) (_:(t.ok m->∀H',Same H H'->Q .non H')):Jw cS vs H Q E
section
def OE:=As Kd ["sentence","many"] 2
theorem Cd(aa:Ev P w K mg aA aN cK cT cS cB cN cO):Fc P w K mg "refuse_strange" (GR P w) 3 (Jw cS):=by
 refine aa.h22.okX OE ?_
 rintro bz f ak A outer s H _ Q E hr ⟨v,t,m,rfl,ha,hok,ay,qE,q⟩
 refine⟨_,Aj (An (AH Uk (AN AD (Am (Lm aa) hr Ai (AR (pv 0))) (Ks GX Ad)) (pv 1))
   (Aj (Ce (Ex:=E) CQ rfl aa.X_StrangeLetter.cls aa.X_StrangeLetter.at_ aa.X_StrangeLetter.ty (by rfl) aa.X_StrangeLetter.m (AR Ae) (hvl:=fun _ _ _ h=>⟨by decide,h⟩)))
   Ag),?_⟩
 refine⟨v,t,rfl,ha,ay,fun l ns H1 s1 aY hl hp hm=>?_⟩
 obtain⟨k0,hk0⟩:=I9 t
 have aE:ns≠[]:=List.ne_nil_of_mem ((hm k0).mpr hk0)
 obtain⟨ms,x,rfl⟩:BF fun ms x=>ns=ms++[x]:=⟨ns.dropLast,ns.getLast aE,(List.dropLast_concat_getLast aE).symm⟩
 have hmax:=TJ hp
 have hx:x∈Cw t:=(hm x).mp (by simp)
 have hiff:=Ge (m:=m) hok
 have aU:EF ((ms++[x]).map V.int) (-1)=some (.int x):=by rw[zAP];exact KW _ _
 refine⟨_,rfl,SqL.of hl,aU,?_⟩
 by_cases c:t.ok m
 ·refine Ba (fun z=>?_) (q c _ s1)
  have:=hiff.mp c x hx
  have z':x>=(m:Int):=z
  omega
 ·refine Bc ?_ (qE c _ s1)
  show x>=(m:Int)
  refine Int.not_lt.mp fun z=>c (hiff.mpr fun k hk=>?_)
  have:=hmax k ((hm k).mpr hk)
  omega
end
def Bb(M:List Addr)(H:Hp):Hp:=fun b=>if b∈M then none else H b
section
variable {M N:List Addr}{H H' H0 H1:Hp}{a b l:Addr}{o:HO}
theorem BY(h:Bb M H b=some o):H b=some o/\b∉M:=by
 unfold Bb at h
 by_cases c:b∈M
 ·rw[if_pos c] at h;cases h
 ·rw[if_neg c] at h;exact⟨h,c⟩
theorem A4(h:H b=some o)(n:b∉M):Bb M H b=some o:=by unfold Bb;rw[if_neg n];exact h
theorem cut_same:Same (Bb M H) H:=fun b o h=>(BY h).1
theorem AB(s:Same H H'):Same (Bb M H) (Bb M H'):=fun b o h=>A4 (s _ _ (BY h).1) (BY h).2
theorem DJ(h:a∈M):Bb M (upd H a o)=Bb M H:=by
 funext b
 unfold Bb
 by_cases c:b∈M
 ·rw[if_pos c,if_pos c]
 ·rw[if_neg c,if_neg c,Al (fun z=>c (by rw[z];exact h))]
abbrev But(M:List Addr)(H H':Hp):Prop:=Same (Bb M H) (Bb M H')
theorem But.upd(h:a∈M):But M H (upd H a o):=by
 show Same (Bb M H) (Bb M (L2.upd H a o))
 rw[DJ h]
 exact Same.refl _
theorem But.wide(h:∀x∈M,x∈N)(s:But M H H'):But N H H':=fun b o e=>by
 obtain⟨e1,n⟩:=BY e
 exact A4 (BY (s b o (A4 e1 fun z=>n (h b z)))).1 n
theorem But.same(off:∀m∈M,H0 m=none)(s0:Same H0 H)(s:But M H H'):Same H0 H':=fun b o e=>
 (BY (s b o (A4 (s0 _ _ e) fun z=>by rw[off b z] at e;cases e))).1
theorem But.at(s:But M H H')(h:H b=some o)(n:b∉M):H' b=some o:=(BY (s b o (A4 h n))).1
end
structure Tk where
 dx:Addr
 sp:Addr
 pt:Addr
 gv:Addr
 lf:Addr
 sv:V
 pxs:List V
 ges:List V
 lfs:List V
structure Ta where
 many:Nat
 kind:Str
 rule:Str
 t:Tr
 room:List Int
 ents:List (V×Tr×Str)
 lefts:List (List Int)
 ended:Bool
def Ta.sides(W:Ta):List (List Int):=Au W.kind W.t W.room
def Ta.base(W:Ta):List Int:=W.lefts.headD []
def Ta.held(W:Ta):List Int:=W.lefts.getLastD []
def Ta.going(W:Ta):List Int:=if W.rule="elder" then W.held else W.base
def CT(U:Tk)(W:Ta):List (Str×V):=[("many",.int W.many),("kind",.str W.kind),("sentence",U.sv),("rule",.str W.rule),("space",.ref U.sp),("parts",.ref U.pt),("given",.ref U.gv),("left",.ref U.lf),("ended",.bl W.ended)]
abbrev EntsAt(H:Hp):List V->List (V×Tr×Str)->Prop:=Paired fun(v:V)(e:V×Tr×Str)=>∃p,Cc (v= .ref p) (H p=some (.tup [e.1,.str e.2.2])) (e.2.1.At H e.1)
theorem EntsAt.keep{H H':Hp}(s:Same H H'):∀{xs:List V}{es:List (V×Tr×Str)},EntsAt H xs es->EntsAt H' xs es
 | _,_,.nil=>.nil
 | _,_,.cons ⟨p,e,h,a⟩ q=>.cons ⟨p,e,s _ _ h,a.keep (TS.same s)⟩ (EntsAt.keep s q)
structure TalkAt(M:List Addr)(C:Addr)(H:Hp)(a:Addr)(U:Tk)(W:Ta):Prop where
 ob:H a=some (.ins C U.dx (CT U W))
 gv:H U.gv=some (.lst U.ges)
 lf:H U.lf=some (.lst U.lfs)
 ma:a∈M
 mg:U.gv∈M
 ml:U.lf∈M
 ne:U.gv≠U.lf
 room:Ay (Bb M H) U.sp W.room
 tr:W.t.At (Bb M H) U.sv
 pt:Bb M H U.pt=some (.lst U.pxs)
 sd:RowsAt (Bb M H) U.pxs W.sides
 en:EntsAt (Bb M H) U.ges W.ents
 lr:RowsAt (Bb M H) U.lfs W.lefts
 wr:Wr W.room
 wl:∀l∈W.lefts,l.Sublist W.room
 ln:W.lefts≠[]
 l9:W.lefts.length<=900
 e9:W.ents.length<=900
 tok:W.t.ok W.many
 m5:W.many<=5
 tsz:W.t.size<=23
 kd:AM W.kind
 ns:[]∉W.sides
 rl:W.rule="elder"\/W.rule="newer"
section
variable {M:List Addr}{C:Addr}{H H':Hp}{a:Addr}{U:Tk}{W:Ta}
theorem TalkAt.keep(s:Same H H')(h:TalkAt M C H a U W):TalkAt M C H' a U W:=
 ⟨s _ _ h.ob,s _ _ h.gv,s _ _ h.lf,h.ma,h.mg,h.ml,h.ne,AB s _ _ h.room,h.tr.keep (TS.same (AB s)),AB s _ _ h.pt,h.sd.keep (AB s),h.en.keep (AB s),h.lr.keep (AB s),h.wr,h.wl,h.ln,h.l9,h.e9,h.tok,h.m5,h.tsz,h.kd,h.ns,h.rl⟩
theorem TalkAt.ws(h:TalkAt M C H a U W):∀s∈W.sides,Wr s:=fun s hs=>h.wr.sub (Bv hs)
theorem By:(CT U W).lookup ("many":Str)=some (.int W.many):=by with_unfolding_all rfl
theorem ED:(CT U W).lookup ("kind":Str)=some (.str W.kind):=by with_unfolding_all rfl
theorem B1:(CT U W).lookup ("sentence":Str)=some U.sv:=by with_unfolding_all rfl
theorem EW:(CT U W).lookup ("rule":Str)=some (.str W.rule):=by with_unfolding_all rfl
theorem Ez:(CT U W).lookup ("space":Str)=some (.ref U.sp):=by with_unfolding_all rfl
theorem GP:(CT U W).lookup ("parts":Str)=some (.ref U.pt):=by with_unfolding_all rfl
theorem Gj:(CT U W).lookup ("given":Str)=some (.ref U.gv):=by with_unfolding_all rfl
theorem DG:(CT U W).lookup ("left":Str)=some (.ref U.lf):=by with_unfolding_all rfl
theorem Gm:(CT U W).lookup ("ended":Str)=some (.bl W.ended):=by with_unfolding_all rfl
theorem SW:(CT U W).lookup ("room":Str)=none:=by with_unfolding_all rfl
theorem TY:(CT U W).lookup ("base":Str)=none:=by with_unfolding_all rfl
theorem Ms:(CT U W).lookup ("held":Str)=none:=by with_unfolding_all rfl
theorem El:(CT U W).lookup ("going":Str)=none:=by with_unfolding_all rfl
theorem Ey:(CT U W).lookup ("sides":Str)=none:=by with_unfolding_all rfl
theorem GZ:(CT U W).lookup ("entries":Str)=none:=by with_unfolding_all rfl
theorem Op:(CT U W).lookup ("caught":Str)=none:=by with_unfolding_all rfl
theorem SD:(CT U W).lookup ("over":Str)=none:=by with_unfolding_all rfl
theorem L9:(CT U W).lookup ("ask":Str)=none:=by with_unfolding_all rfl
theorem LC:(CT U W).lookup ("say":Str)=none:=by with_unfolding_all rfl
theorem M8:(CT U W).lookup ("fork":Str)=none:=by with_unfolding_all rfl
theorem Vr:(CT U W).lookup ("end":Str)=none:=by with_unfolding_all rfl
end
theorem Oc(h:RowsAt H xs rs)(ne:rs≠[]):∃p,EF xs 0=some (.ref p)/\Ay H p (rs.headD []):=by
 cases h with
 | nil=>exact absurd rfl ne
 | cons r q=>
  obtain⟨p,rfl,hp⟩:=r
  exact⟨p,Af (j:=0) rfl,hp⟩
theorem Io{H:Hp}:∀{xs:List V}{rs:List (List Int)},RowsAt H xs rs->rs≠[]->BF fun ys p=>Cc (xs=ys++[.ref p]) (RowsAt H ys rs.dropLast) (Ay H p (rs.getLastD []))
 | _,_,.nil,ne=>absurd rfl ne
 | [_],[_],.cons ⟨p,rfl,hp⟩ .nil,_=>⟨[],p,rfl,.nil,hp⟩
 | x::_::_,_::_::_,.cons hx (.cons h2 q),_=>by
  obtain⟨ys,p,e,h1,h3⟩:=Io (.cons h2 q) (zDG _ _)
  exact⟨x::ys,p,by rw[e];rfl,.cons hx h1,h3⟩
theorem EG(h:RowsAt H xs rs)(ne:rs≠[]):∃p,EF xs (-1)=some (.ref p)/\Ay H p (rs.getLastD []):=by
 obtain⟨ys,p,rfl,_,hp⟩:=Io h ne
 exact⟨p,KW _ _,hp⟩
theorem TalkAt.s9(h:TalkAt M C H a U W):W.sides.length<=900:=by
 unfold Ta.sides
 rcases CP (z:=W.kind) (t:=W.t) (row:=W.room) with⟨x,e⟩|⟨x,y,e⟩<;>rw[e]<;>simp
theorem TalkAt.held_in(h:TalkAt M C H a U W):W.held∈W.lefts:=by
 unfold Ta.held
 have:=h.ln
 cases e:W.lefts with
 | nil=>exact absurd e this
 | cons x r=>
  rw[List.getLastD_eq_getLast?,List.getLast?_eq_some_getLast (zDG x r)]
  exact List.getLast_mem _
theorem TalkAt.base_in(h:TalkAt M C H a U W):W.base∈W.lefts:=by
 unfold Ta.base
 have:=h.ln
 cases e:W.lefts with
 | nil=>exact absurd e this
 | cons x r=>exact List.mem_cons_self
theorem TalkAt.held_wr(h:TalkAt M C H a U W):Wr W.held:=h.wr.sub (h.wl _ h.held_in)
theorem TalkAt.base_wr(h:TalkAt M C H a U W):Wr W.base:=h.wr.sub (h.wl _ h.base_in)
theorem TalkAt.going_wr(h:TalkAt M C H a U W):Wr W.going:=by
 unfold Ta.going
 split
 ·exact h.held_wr
 ·exact h.base_wr
theorem TalkAt.held_len(h:TalkAt M C H a U W):W.held.length<=32:=h.held_wr.len
theorem ES{H0 H:Hp}{v:V}{row:List Int}(h:∃p,Cc (v= .ref p) (H0 p=none) (Ay H p row)):∀{xs:List V}{rs:List (List Int)},RowsNew H0 H xs rs->RowsNew H0 H (xs++[v]) (rs++[row])
 | _,_,.nil=>.cons h .nil
 | _,_,.cons x q=>.cons x (ES h q)
theorem Fw{H0 H H':Hp}{acc:Addr}:∀{xs:List V}{rs:List (List Int)},RowsNew H0 H xs rs->(∀y∈xs,y≠.ref acc)->(∀p row,p≠acc->Ay H p row->Ay H' p row)->RowsNew H0 H' xs rs
 | _,_,.nil,_,_=>.nil
 | _,_,.cons ⟨p,e,n,h⟩ q,ho,k=>.cons ⟨p,e,n,k p _ (fun z=>ho _ List.mem_cons_self (by rw[e,z])) h⟩ (Fw q (fun y hy=>ho y (List.mem_cons_of_mem _ hy)) k)
theorem Jj{K:PySem.W.Frag}(hr:SqL K H a xs)(hR:RowsAt H xs rs)(am:H acc=none)(aj:xs.length<=900)(ht:∀(p:Addr) (row:List Int) H2,Ay H2 p row->∀R:V->Hp->Prop,(∀l,H2 l=none->R (.ref l) (upd H2 l (.lst (row.map V.int))))->te (some (.ref p)::rest) H2 R)(hd:∀v0 ys H2,Same H H2->H2 acc=some (.lst ys)->RowsNew H H2 ys rs->(∀y∈ys,y≠.ref acc)->D.nx (v0::rest) H2)(v:Option V):
  Es (Uo K a) (Dh 0) (C7 Ls (Dq acc te)) D (v::rest) (upd H acc (.lst [])):=by
 refine AG (K:=K) (a:=a) (xs:=xs) (fun i σ H2=>BF fun v0 ys=>Fs (σ=v0::rest) (Same H H2) (H2 acc=some (.lst ys)) (∀y∈ys,y≠.ref acc) (RowsNew H H2 ys (rs.take i))) ⟨v,[],rfl,Ab am _,upd_same,fun y hy=>by simp at hy,.nil⟩ ?_ ?_ ?_
 ·rintro i σ H2 _ ⟨v0,ys,rfl,s2,_⟩
  exact s2.seq hr
 ·rintro i x σ H2 hx ⟨v0,ys,rfl,s2,aH,ho,cr⟩
  obtain⟨row,p,hrow,rfl,hp⟩:=hR.get hx
  have et:rs.take (i+1)=rs.take i++[row]:=by rw[zAI,hrow];rfl
  refine A8 ?_
  refine ht p row H2 (s2 _ _ hp) _ fun l hl=>?_
  have s3:=Ab hl (.lst (row.map V.int))
  have nl:l≠acc:=fun e=>by rw[e,aH] at hl;cases hl
  have hylen:=cr.at.len
  refine⟨ys,s3 _ _ aH,Ap (by rw[hylen,zAM];have:=hR.len;omega),?_⟩
  refine⟨_,ys++[.ref l],rfl,AA (s2.trans s3) am _,upd_same,fun y hy=>?_,?_⟩
  ·rcases List.mem_append.mp hy with z | z
   ·exact ho y z
   ·rw[List.mem_singleton.mp z]
    exact fun q=>nl (V.ref.inj q)
  ·rw[et]
   refine ES ⟨l,rfl,s2.free hl,by show upd _ _ _ l=_;rw[Al nl];exact upd_same⟩ (Fw cr ho fun p' aI n' h'=>?_)
   show upd _ _ _ p'=_
   rw[Al n']
   exact s3 _ _ h'
 ·rintro σ H2 ⟨v0,ys,rfl,s2,aH,ho,cr⟩
  rw[hR.len,zAN] at cr
  exact hd v0 ys H2 s2 aH cr ho
section
variable {bz:Heap}
inductive Mo(C:Addr)(vs:List V)(H:Hp)(Q:VK)(E:XK):Prop where
 | mk (a:Addr) (M:List Addr) (U:Tk) (W:Ta) (_:vs=[.ref a]) (_:TalkAt M C H a U W) (_:∀(l:Addr)(H':Hp),Same H H'->H l=none->Ay H' l W.room->Q (.ref l) H'):Mo C vs H Q E
def TC:=As Qi ["self"] 1
theorem PZ(aa:Ev P w K mg aA aN cK cT cS cB cN cO):Fm P w K mg cK "room" Bh 1 (Mo cK):=by
 refine aa.h59.ok TC ?_
 rintro bz f ak A outer s H _ Q E hr ⟨a,M,U,W,rfl,h,q⟩
 refine⟨_,AK (AS A3 (by rfl) aa.T.lst Bm (AR (AF (pv 0) rfl))),?_⟩
 exact⟨h.ob,aa.TX.cl,aa.TX.space,Ez,.inl (SqL.of (cut_same _ _ h.room)),fun l hl=>q l _ (Ab hl _) hl upd_same⟩
inductive MY(C:Addr)(vs:List V)(H:Hp)(Q:VK)(E:XK):Prop where
 | mk (a:Addr) (M:List Addr) (U:Tk) (W:Ta) (_:vs=[.ref a]) (_:TalkAt M C H a U W) (_:∀(l:Addr)(H':Hp),Same H H'->H l=none->Ay H' l W.base->Q (.ref l) H'):MY C vs H Q E
def Tp:=As Q0 ["self"] 1
theorem Ry(aa:Ev P w K mg aA aN cK cT cS cB cN cO):Fm P w K mg cK "base" Bh 1 (MY cK):=by
 refine aa.h38.ok Tp ?_
 rintro bz f ak A outer s H _ Q E hr ⟨a,M,U,W,rfl,h,q⟩
 refine⟨_,AK (AS A3 (by rfl) aa.T.lst Bm (AR (AN AD (AF (pv 0) rfl) Ad))),?_⟩
 obtain⟨p,bI,bd⟩:=Oc h.lr h.ln
 exact⟨h.ob,aa.TX.cl,aa.TX.left,DG,SqL.of h.lf,bI,.inl (SqL.of (cut_same _ _ bd)),fun l hl=>q l _ (Ab hl _) hl upd_same⟩
inductive NB(C:Addr)(vs:List V)(H:Hp)(Q:VK)(E:XK):Prop where
 | mk (a:Addr) (M:List Addr) (U:Tk) (W:Ta) (_:vs=[.ref a]) (_:TalkAt M C H a U W) (_:∀(l:Addr)(H':Hp),Same H H'->H l=none->Ay H' l W.held->Q (.ref l) H'):NB C vs H Q E
def SF:=As QX ["self"] 1
theorem Lh(aa:Ev P w K mg aA aN cK cT cS cB cN cO):Fm P w K mg cK "held" Bh 1 (NB cK):=by
 refine aa.h37.ok SF ?_
 rintro bz f ak A outer s H _ Q E hr ⟨a,M,U,W,rfl,h,q⟩
 refine⟨_,AK (AS A3 (by rfl) aa.T.lst Bm (AR (AN AD (AF (pv 0) rfl) (Ks GX Ad)))),?_⟩
 obtain⟨p,bI,bd⟩:=EG h.lr h.ln
 exact⟨h.ob,aa.TX.cl,aa.TX.left,DG,_,rfl,SqL.of h.lf,bI,.inl (SqL.of (cut_same _ _ bd)),fun l hl=>q l _ (Ab hl _) hl upd_same⟩
inductive JU(C:Addr)(vs:List V)(H:Hp)(Q:VK)(E:XK):Prop where
 | mk (a:Addr) (M:List Addr) (U:Tk) (W:Ta) (_:vs=[.ref a]) (_:TalkAt M C H a U W) (_:∀(l:Addr)(H':Hp),Same H H'->H l=none->Ay H' l W.going->Q (.ref l) H'):JU C vs H Q E
def Pp:=As NI ["self"] 1
theorem DC(aa:Ev P w K mg aA aN cK cT cS cB cN cO):Fm P w K mg cK "going" Bh 2 (JU cK):=by
 refine aa.h39.ok Pp ?_
 rintro bz f ak A outer s H _ Q E hr ⟨a,M,U,W,rfl,h,q⟩
 refine⟨_,Aa (An (AH AI (AF (pv 0) rfl) Ae)
   (AK (BP (pv 0) aa.TX.cl (Lh aa) hr Ai))
   Ag)
  (AK (BP (pv 0) aa.TX.cl (Ry aa) hr Ai)),?_⟩
 unfold Ta.going at q
 refine⟨h.ob,aa.TX.cl,aa.TX.rule,EW,rfl,?_⟩
 by_cases c:W.rule="elder"
 ·refine Bc (by rw[c]) ?_
  rw[if_pos c] at q
  exact⟨h.ob,Ms,a,M,U,W,rfl,h,q⟩
 ·refine Ba (fun z=>c (by injection z)) ?_
  rw[if_neg c] at q
  exact⟨h.ob,TY,a,M,U,W,rfl,h,q⟩
inductive KK(C:Addr)(vs:List V)(H:Hp)(Q:VK)(E:XK):Prop where
 | mk (a:Addr) (M:List Addr) (U:Tk) (W:Ta) (_:vs=[.ref a]) (_:TalkAt M C H a U W) (_:∀(l:Addr)(xs:List V)(H':Hp),Same H H'->H l=none->H' l=some (.lst xs)->RowsNew H H' xs W.sides->(∀x∈xs,x≠.ref l)->Q (.ref l) H'):KK C vs H Q E
def PJ:=As ML ["self"] 1
theorem DW(aa:Ev P w K mg aA aN cK cT cS cB cN cO):Fm P w K mg cK "sides" Bh 1 (KK cK):=by
 refine aa.h60.ok PJ ?_
 rintro bz f ak A outer s H _ Q E hr ⟨a,M,U,W,rfl,h,q⟩
 refine⟨_,AK (BD (N:=["side"]) (js:=[none]) (cl:=[]) ⟨rfl,rfl,rfl,zB0 _,rfl,rfl,rfl⟩ (AJ (AF (pv 0) rfl)) (fun c1=>(AV 0 (show (["side"]:List Str).Nodup by decide +kernel))) (fun c1=>Bi) (fun c1=>(AS A3 (by rfl) aa.T.lst Bm (AR (pv 0))))),?_⟩
 have aj:=h.sd.len
 have h2:W.sides.length<=2:=by
  unfold Ta.sides
  rcases CP (z:=W.kind) (t:=W.t) (row:=W.room) with⟨x,e⟩|⟨x,y,e⟩<;>rw[e]<;>simp
 refine⟨h.ob,aa.TX.cl,aa.TX.parts,GP,⟨_,SqL.of (cut_same _ _ h.pt)⟩,fun cc acc am=>Jj (rest:=[]) (SqL.of (cut_same _ _ h.pt)) (h.sd.keep cut_same) am (by omega) (fun p row H2 hp R hR=>⟨.inl (SqL.of hp),fun l hl=>hR l hl⟩) (fun v0 ys H2 s2 h2 hN aE=>q acc ys H2 s2 am h2 hN aE) none⟩
inductive GV(C:Addr)(vs:List V)(H:Hp)(Q:VK)(E:XK):Prop where
 | mk (a:Addr) (M:List Addr) (U:Tk) (W:Ta) (_:vs=[.ref a]) (_:TalkAt M C H a U W) (_:∀(l:Addr)(H':Hp),Same H H'->H l=none->H' l=some (.lst U.ges)->Q (.ref l) H'):GV C vs H Q E
def LQ:=As Iu ["self"] 1
theorem FH(aa:Ev P w K mg aA aN cK cT cS cB cN cO):Fm P w K mg cK "entries" Bh 1 (GV cK):=by
 refine aa.h86.ok LQ ?_
 rintro bz f ak A outer s H _ Q E hr ⟨a,M,U,W,rfl,h,q⟩
 refine⟨_,AK (AS A3 (by rfl) aa.T.lst Bm (AR (AF (pv 0) rfl))),?_⟩
 exact⟨h.ob,aa.TX.cl,aa.TX.given,Gj,.inl (SqL.of h.gv),fun l hl=>q l _ (Ab hl _) hl upd_same⟩
inductive HS(C:Addr)(vs:List V)(H:Hp)(Q:VK)(E:XK):Prop where
 | mk (a:Addr) (M:List Addr) (U:Tk) (W:Ta) (_:vs=[.ref a]) (_:TalkAt M C H a U W) (_:∀(H':Hp),Same H H'->Q (.bl (!AX W.sides W.held)) H'):HS C vs H Q E
def NX:=As Lj ["self"] 1
theorem LY(aa:Ev P w K mg aA aN cK cT cS cB cN cO):Fm P w K mg cK "caught" Bh 5 (HS cK):=by
 refine aa.h62.ok NX ?_
 rintro bz f ak A outer s H _ Q E hr ⟨a,M,U,W,rfl,h,q⟩
 refine⟨_,AK (E6 (Am (Iq aa) hr Ai (Av (AF (pv 0) rfl) (AN AD (AF (pv 0) rfl) (Ks GX Ad))))),?_⟩
 obtain⟨p,bI,bd⟩:=EG h.lr h.ln
 have aj:=h.held_len
 refine⟨h.ob,aa.TX.cl,aa.TX.parts,GP,h.ob,aa.TX.cl,aa.TX.left,DG,_,rfl,SqL.of h.lf,bI,?_⟩
 exact⟨U.pt,p,W.held,U.pxs,W.sides,rfl,SqL.of (cut_same _ _ bd),by omega,cut_same _ _ h.pt,h.sd.keep cut_same,fun s hs=>zBL (h.ws s hs).len (by decide),h.s9,fun H1 s1=>q H1 s1⟩
inductive Mn(C:Addr)(vs:List V)(H:Hp)(Q:VK)(E:XK):Prop where
 | mk (a:Addr) (M:List Addr) (U:Tk) (W:Ta) (_:vs=[.ref a]) (_:TalkAt M C H a U W) (_:Q (.bl W.ended) H):Mn C vs H Q E
def SA:=As QO ["self"] 1
theorem R3(aa:Ev P w K mg aA aN cK cT cS cB cN cO):Fm P w K mg cK "over" Bh 1 (Mn cK):=by
 refine aa.h18.ok SA ?_
 rintro bz f ak A outer s H _ Q E hr ⟨a,M,U,W,rfl,h,q⟩
 refine⟨_,AK (AF (pv 0) rfl),?_⟩
 exact⟨h.ob,aa.TX.cl,aa.TX.ended,Gm,q⟩
end
def Cz(z:Str):Prop:=z="elder"\/z="newer"
instance(z:Str):Decidable (Cz z):=by unfold Cz;infer_instance
def MD:List V:=[.str "elder",.str "newer"]
theorem R9(z:Str):OW (.str z) MD=decide (Cz z):=by
 unfold OW MD Cz
 simp only[zBY,List.any_nil,Bool.or_false]
 have e:∀y:Str,OR (.str y) (.str z)=decide (z=y):=fun y=>by
  show (y == z)=decide (z=y)
  by_cases h:z=y
  ·subst h;simp
  ·rw[decide_eq_false h]
   exact beq_false_of_ne fun q=>h q.symm
 rw[e,e,zA5]
 simp only[zBR,decide_eq_true_eq]
 exact decide_eq_true_iff.symm
def Cs(many:Nat)(kind rule:Str)(t:Tr)(room:List Int):Ta:=⟨many,kind,rule,t,room,[],[Ci room (Au kind t room)],false⟩
inductive Na(C cS cB cN:Addr)(vs:List V)(H:Hp)(Q:VK)(E:XK):Prop where
 | mk (x dx rm:Addr) (many:Nat) (kind rule:Str) (v:V) (t:Tr) (room:List Int) (M:List Addr) (_:vs=[.ref x,.int many,.ref rm,.str kind,v,.str rule]) (_:H x=some (.ins C dx [])) (_:x∉M) (_:(∀m∈M,H m≠none)) (_:t.At (Bb M H) v) (_:t.ok 5) (_:t.size<=23) (_:many<=5) (_:Ay H rm room) (_:Wr room) (_:(¬t.ok many->∀H',But [x] H H'->E (.ref cS) none H')) (_:(t.ok many->¬(Cz rule/\AM kind)->∀H',But [x] H H'->E (.ref cB) none H')) (_:(t.ok many->Cz rule->AM kind->[]∈Au kind t room->∀H',But [x] H H'->E (.ref cN) none H')) (_:(t.ok many->Cz rule->AM kind->[]∉Au kind t room->∀(U:Tk)(H':Hp),But [x] H H'->H U.gv=none->H U.lf=none->H U.sp=none->U.sv=v->TalkAt (x::U.gv::U.lf::M) C H' x U (Cs many kind rule t room)->Q .non H')):Na C cS cB cN vs H Q E
theorem BM(e:BC f v fs=fs')(b:But [x] H0 H):
  But [x] H0 (upd H x (.ins C dx (BC f v fs)))/\upd H x (.ins C dx (BC f v fs)) x=some (.ins C dx fs')/\But [x] H (upd H x (.ins C dx (BC f v fs))):=
 ⟨b.trans (But.upd (by simp)),upd_same.trans (congrArg (fun l=>some (HO.ins C dx l)) e),But.upd (by simp)⟩
theorem Bs{x b:Addr}(h:b≠x):b∉[x]:=by simpa using h
abbrev BR(H:Hp)(x:Addr):List V->List (List Int)->Prop:=Paired fun(v:V)(row:List Int)=>∃p,Cc (v= .ref p) (p≠x) (Ay H p row)
theorem DA{H H':Hp}{x:Addr}{o:HO}(hx:H x=some o):∀{xs:List V}{rs:List (List Int)},RowsNew H H' xs rs->BR H' x xs rs
 | _,_,.nil=>.nil
 | _,_,.cons ⟨p,e,n,h⟩ q=>.cons ⟨p,e,(Ah hx n).symm,h⟩ (DA hx q)
theorem Cq{H H':Hp}{x:Addr}(b:But [x] H H'):∀{xs:List V}{rs:List (List Int)},BR H x xs rs->BR H' x xs rs
 | _,_,.nil=>.nil
 | _,_,.cons ⟨p,e,n,h⟩ q=>.cons ⟨p,e,n,b.at h (Bs n)⟩ (Cq b q)
theorem BO{H H':Hp}{x:Addr}(b:Same H H'):∀{xs:List V}{rs:List (List Int)},BR H x xs rs->BR H' x xs rs
 | _,_,.nil=>.nil
 | _,_,.cons ⟨p,e,n,h⟩ q=>.cons ⟨p,e,n,b _ _ h⟩ (BO b q)
theorem Ep{H H':Hp}{x:Addr}(b:But [x] H H'):∀{xs:List V}{rs:List (List Int)},BR H x xs rs->RowsAt H' xs rs
 | _,_,.nil=>.nil
 | _,_,.cons ⟨p,e,n,h⟩ q=>.cons ⟨p,e,b.at h (Bs n)⟩ (Ep b q)
theorem JY{H0 H1 G:Hp}(k:∀p row,H0 p=none->Ay H1 p row->Ay G p row):∀{xs:List V}{rs:List (List Int)},RowsNew H0 H1 xs rs->RowsAt G xs rs
 | _,_,.nil=>.nil
 | _,_,.cons ⟨p,e,n,h⟩ q=>.cons ⟨p,e,k p _ n h⟩ (JY k q)
section
variable {bz:Heap}{f:Addr}
def Td:=As Si ["self","many","room","kind","sentence","rule"] 6
theorem Gy(aa:Ev P w K mg aA aN cK cT cS cB cN cO):Fi P w K mg cK "Talk" (GR P w) 5 (Na cK cS cB cN):=by
 refine (fi aa.kTalk aa.h47).okX Td ?_
 rintro bz f ak A outer s H _ Q E hr ⟨x,dx,rm,many,kind,rule,v,t,room,M,rfl,hx,nxM,hM,ha,hok,ay,bB,aW,hwr,qS,qB,qN,q⟩
 have nrx:rm≠x:=CI aW hx (by intro z;cases z)
 have haH:=ha.keep (TS.same cut_same)
 have kt:∀{H1:Hp},But [x] H H1->TS H H1:=fun b p xs e=>b.at e (Bs (CI e hx (by intro z;cases z)))
 refine⟨_,Aa (AC (Am (Cd aa) hr (Ax (E1:=E) fun _ _ _ h=>h) (Av (pv 4) (pv 1))))
  (Aa (An (DI C0 (pv 5) (Aw (Av Ae Ae)) (by with_unfolding_all rfl))
   (Aj (Ce (Ex:=E) CQ rfl aa.X_BadWord.cls aa.X_BadWord.at_ aa.X_BadWord.ty (by rfl) aa.X_BadWord.m (AR Ae) (hvl:=fun _ _ _ h=>⟨by decide,h⟩)))
   Ag)
  (Aa (BV (pv 0) (pv 1) rfl)
  (Aa (BV (pv 0) (pv 3) rfl)
  (Aa (BV (pv 0) (pv 4) rfl)
  (Aa (BV (pv 0) (pv 5) rfl)
  (Aa (BV (pv 0) (AS A3 (by rfl) aa.T.lst Bm (AR (pv 2))) rfl)
  (Aa (BV (pv 0) (Am (G0 aa) hr (Ax (E1:=E) fun _ _ _ h=>h) (Ac (pv 2) (Av (pv 3) (pv 4)))) rfl)
  (Aa (BV (pv 0) (Ar Bk) rfl)
  (Aa (BV (pv 0) (Ar (AR (Am (Fa aa) hr Ai (AR (AF (pv 0) rfl))))) rfl)
  (Aj (BV (pv 0) BQ rfl))))))))))),?_⟩
 refine⟨v,t,many,rfl,haH,hok,by omega,fun hn H1 s1=>qS hn H1 (AB s1),fun bA H1 s1=>?_⟩
 refine⟨BT,fun rt hrt=>?_⟩
 have s2:=s1.trans (Ab hrt (.tup [.str "elder",.str "newer"]))
 refine⟨rt,MD,rfl,.inr (SqT.of upd_same),rfl,rfl,?_⟩
 show If (!OW (.str rule) MD) _ _
 rw[R9]
 generalize upd H1 rt _=H2 at *
 by_cases bZ:Cz rule
 rotate_left
 ·exact HR bZ (qB bA (fun z=>bZ z.1) _ (AB s2))
 refine DZ bZ ?_
 have b2:But [x] H H2:=AB s2
 have x2:=s2 _ _ hx
 refine⟨x2,aa.TX.cl,aa.TX.many,(by decide),?_⟩
 obtain⟨b3,x3,_⟩:=BM (C:=cK) (dx:=dx) (f:="many") (v:=.int many) (fs:=[]) (fs':=[("many",.int many)]) (by with_unfolding_all rfl) b2
 generalize upd H2 x _=H3 at *
 refine⟨x3,aa.TX.cl,aa.TX.kind,(by show 1<1000;decide),?_⟩
 obtain⟨b4,x4,_⟩:=BM (C:=cK) (dx:=dx) (f:="kind") (v:=.str kind) (fs:=[("many",.int many)]) (fs':=[("many",.int many),("kind",.str kind)]) (by with_unfolding_all rfl) b3
 generalize upd H3 x _=H4 at *
 refine⟨x4,aa.TX.cl,aa.TX.sentence,(by show 2<1000;decide),?_⟩
 obtain⟨b5,x5,_⟩:=BM (C:=cK) (dx:=dx) (f:="sentence") (v:=v) (fs:=[("many",.int many),("kind",.str kind)]) (fs':=[("many",.int many),("kind",.str kind),("sentence",v)]) (by with_unfolding_all rfl) b4
 generalize upd H4 x _=H5 at *
 refine⟨x5,aa.TX.cl,aa.TX.rule,(by show 3<1000;decide),?_⟩
 obtain⟨b6,x6,_⟩:=BM (C:=cK) (dx:=dx) (f:="rule") (v:=.str rule) (fs:=[("many",.int many),("kind",.str kind),("sentence",v)]) (fs':=[("many",.int many),("kind",.str kind),("sentence",v),("rule",.str rule)]) (by with_unfolding_all rfl) b5
 generalize upd H5 x _=H6 at *
 have rm6:=b6.at aW (Bs nrx)
 refine⟨.inl (SqL.of rm6),fun sp ce=>?_⟩
 have s7:=Ab ce (.lst (room.map V.int))
 have b7:But [x] H (upd H6 sp (.lst (room.map V.int))):=b6.trans (AB s7)
 have x7:=s7 _ _ x6
 have sp7:Ay (upd H6 sp (.lst (room.map V.int))) sp room:=upd_same
 have nsx:sp≠x:=(Ah x6 ce).symm
 have sp0:H sp=none:=by
  cases e:H sp with
  | none=>rfl
  | some o=>rw[b6.at e (Bs nsx)] at ce;cases ce
 generalize upd H6 sp _=H7 at *
 refine⟨x7,aa.TX.cl,aa.TX.space,(by show 4<1000;decide),?_⟩
 obtain⟨b8,x8,c8⟩:=BM (C:=cK) (dx:=dx) (f:="space") (v:=.ref sp) (fs:=[("many",.int many),("kind",.str kind),("sentence",v),("rule",.str rule)]) (fs':=[("many",.int many),("kind",.str kind),("sentence",v),("rule",.str rule),("space",.ref sp)]) (by with_unfolding_all rfl) b7
 generalize upd H7 x _=H8 at *
 have sp8:=c8.at sp7 (Bs nsx)
 have rm8:=b8.at aW (Bs nrx)
 refine⟨rm,kind,v,t,room,rfl,haH.keep (kt b8),hok,by omega,SqL.of rm8,hwr,fun hk H9 s9=>qB bA (fun z=>hk z.2) _ (b8.trans (AB s9)),fun hk fk H9 s9=>qN bA bZ hk fk _ (b8.trans (AB s9)),fun hk fk pt pxs H9 s9 pt0 pt9 hR9 hne9=>?_⟩
 have b9:But [x] H H9:=b8.trans (AB s9)
 have x9:=s9 _ _ x8
 have npx:pt≠x:=(Ah x8 pt0).symm
 refine⟨x9,aa.TX.cl,aa.TX.parts,(by show 5<1000;decide),?_⟩
 obtain⟨b10,x10,iv⟩:=BM (C:=cK) (dx:=dx) (f:="parts") (v:=.ref pt) (fs:=[("many",.int many),("kind",.str kind),("sentence",v),("rule",.str rule),("space",.ref sp)]) (fs':=[("many",.int many),("kind",.str kind),("sentence",v),("rule",.str rule),("space",.ref sp),("parts",.ref pt)]) (by with_unfolding_all rfl) b9
 have e10:Bb [x] (upd H9 x (.ins cK dx (BC "parts" (.ref pt) [("many",.int many),("kind",.str kind),("sentence",v),("rule",.str rule),("space",.ref sp)])))=Bb [x] H9:=DJ (by simp)
 generalize upd H9 x _=dJ at *
 have pt10:=iv.at pt9 (Bs npx)
 have sp10:=iv.at (s9 _ _ sp8) (Bs nsx)
 have R10:RowsAt dJ pxs (Au kind t room):=Ep iv (DA x8 hR9)
 refine⟨IF,fun gv hgv=>?_⟩
 have dy:=Ab hgv (.lst [])
 have b11:But [x] H (upd dJ gv (.lst [])):=b10.trans (AB dy)
 have gv11:upd dJ gv (.lst []) gv=some (.lst []):=upd_same
 have x11:=dy _ _ x10
 have ngx:gv≠x:=(Ah x10 hgv).symm
 generalize upd dJ gv _=eM at *
 refine⟨x11,aa.TX.cl,aa.TX.given,(by show 6<1000;decide),?_⟩
 obtain⟨b12,x12,c12⟩:=BM (C:=cK) (dx:=dx) (f:="given") (v:=.ref gv) (fs:=[("many",.int many),("kind",.str kind),("sentence",v),("rule",.str rule),("space",.ref sp),("parts",.ref pt)]) (fs':=[("many",.int many),("kind",.str kind),("sentence",v),("rule",.str rule),("space",.ref sp),("parts",.ref pt),("given",.ref gv)]) (by with_unfolding_all rfl) b11
 generalize upd eM x _=f7 at *
 have gv12:=c12.at gv11 (Bs ngx)
 have pt12:=c12.at (dy _ _ pt10) (Bs npx)
 have sp12:=c12.at (dy _ _ sp10) (Bs nsx)
 have R12:RowsAt f7 pxs (Au kind t room):=Ep c12 (BO dy (Cq iv (DA x8 hR9)))
 have aF:B2 (Au kind t room)<64:=by
  have:=Cg (z:=kind) (t:=t) (row:=room)
  have:=hwr.len
  omega
 refine⟨x12,aa.TX.cl,aa.TX.parts,(by with_unfolding_all rfl),pt,pxs,_,rfl,SqL.of pt12,R12,aF,fun bl eV ns s13 gJ hp hm dq=>⟨Gc,fun lf fj=>?_⟩⟩
 have en:=GS hwr (fun s hs=>Bv hs) hp hm
 subst en
 have fZ:=s13.trans (Ab fj (.lst [.ref bl]))
 have bl14:=Ab fj (.lst [.ref bl]) _ _ dq
 have lf14:upd eV lf (.lst [.ref bl]) lf=some (.lst [.ref bl]):=upd_same
 have dL:f7 lf=none:=s13.free fj
 generalize upd eV lf _=H14 at *
 have x14:=fZ _ _ x12
 have b14:But [x] H H14:=b12.trans (AB fZ)
 have nlx:lf≠x:=(Ah x12 dL).symm
 have nbx:bl≠x:=(Ah x12 gJ).symm
 refine⟨x14,aa.TX.cl,aa.TX.left,(by show 7<1000;decide),?_⟩
 obtain⟨b15,x15,c15⟩:=BM (C:=cK) (dx:=dx) (f:="left") (v:=.ref lf) (fs:=[("many",.int many),("kind",.str kind),("sentence",v),("rule",.str rule),("space",.ref sp),("parts",.ref pt),("given",.ref gv)]) (fs':=[("many",.int many),("kind",.str kind),("sentence",v),("rule",.str rule),("space",.ref sp),("parts",.ref pt),("given",.ref gv),("left",.ref lf)]) (by with_unfolding_all rfl) b14
 generalize upd H14 x _=H15 at *
 refine⟨x15,aa.TX.cl,aa.TX.ended,(by show 8<1000;decide),?_⟩
 obtain⟨b16,x16,c16⟩:=BM (C:=cK) (dx:=dx) (f:="ended") (v:=.bl false) (fs:=[("many",.int many),("kind",.str kind),("sentence",v),("rule",.str rule),("space",.ref sp),("parts",.ref pt),("given",.ref gv),("left",.ref lf)]) (fs':=[("many",.int many),("kind",.str kind),("sentence",v),("rule",.str rule),("space",.ref sp),("parts",.ref pt),("given",.ref gv),("left",.ref lf),("ended",.bl false)]) (by with_unfolding_all rfl) b15
 generalize upd H15 x _=H16 at *
 have c17:But [x] H14 H16:=c15.trans c16
 have gv16:=c17.at (fZ _ _ gv12) (Bs ngx)
 have lf16:=c17.at lf14 (Bs nlx)
 have bl16:=c17.at bl14 (Bs nbx)
 have pt16:=c17.at (fZ _ _ pt12) (Bs npx)
 have sp16:=c17.at (fZ _ _ sp12) (Bs nsx)
 have ngl:gv≠lf:=Ah gv12 dL
 have iw:H gv=none:=by
  cases e:H gv with
  | none=>rfl
  | some o=>rw[b10.at e (Bs ngx)] at hgv;cases hgv
 have ix:H lf=none:=by
  cases e:H lf with
  | none=>rfl
  | some o=>rw[b12.at e (Bs nlx)] at dL;cases dL
 have pt0':H pt=none:=by
  cases e:H pt with
  | none=>rfl
  | some o=>rw[b8.at e (Bs npx)] at pt0;cases pt0
 have gK:H bl=none:=by
  cases e:H bl with
  | none=>rfl
  | some o=>rw[b12.at e (Bs nbx)] at gJ;cases gJ
 have nM:∀{b:Addr},H b=none->b∉M:=fun e z=>hM _ z e
 have n3:∀{b:Addr},b≠x->b≠gv->b≠lf->H b=none->b∉x::gv::lf::M:=fun e1 e2 e3 e4 z=>by
  rcases List.mem_cons.mp z with q1 | q1
  ·exact e1 q1
  ·rcases List.mem_cons.mp q1 with q2 | q2
   ·exact e2 q2
   ·rcases List.mem_cons.mp q2 with q3 | q3
    ·exact e3 q3
    ·exact nM e4 q3
 have nsg:sp≠gv:=Ah sp10 hgv
 have nsl:sp≠lf:=Ah sp12 dL
 have npg:pt≠gv:=Ah pt10 hgv
 have npl:pt≠lf:=Ah pt12 dL
 have nbg:bl≠gv:=(Ah gv12 gJ).symm
 have nbl:bl≠lf:=Ah dq fj
 have hR16:RowsAt (Bb (x::gv::lf::M) H16) pxs (Au kind t room):=JY (fun p row h1 h2=>by
  have iy:p≠x:=(Ah x8 h1).symm
  have p10:=iv.at h2 (Bs iy)
  have p0:H p=none:=by
   cases e:H p with
   | none=>rfl
   | some o=>rw[b8.at e (Bs iy)] at h1;cases h1
  have p12:=c12.at (dy _ _ p10) (Bs iy)
  exact A4 (c17.at (fZ _ _ p12) (Bs iy)) (n3 iy (Ah p10 hgv) (Ah p12 dL) p0)) hR9
 refine q bA bZ hk fk ⟨dx,sp,pt,gv,lf,v,pxs,[],[.ref bl]⟩ H16 b16 iw ix sp0 rfl ⟨x16,gv16,lf16,by simp,by simp,by simp,ngl,A4 sp16 (n3 nsx nsg nsl sp0),?_,A4 pt16 (n3 npx npg npl pt0'),hR16,.nil,.cons ⟨bl,rfl,A4 bl16 (n3 nbx nbg nbl gK)⟩ .nil,hwr,fun l hl=>?_,zDG _ _,by show 1<=900;decide,by show 0<=900;decide,bA,bB,ay,hk,fk,bZ⟩
 ·refine ha.keep fun p xs e=>?_
  obtain⟨e1,e2⟩:=BY e
  have iy:p≠x:=CI e1 hx (by intro z;cases z)
  refine A4 (b16.at e1 (Bs iy)) fun z=>?_
  rcases List.mem_cons.mp z with q1 | q1
  ·exact iy q1
  ·rcases List.mem_cons.mp q1 with q2 | q2
   ·rw[q2,iw] at e1;cases e1
   ·rcases List.mem_cons.mp q2 with q3 | q3
    ·rw[q3,ix] at e1;cases e1
    ·exact e2 q3
 ·rw[List.mem_singleton.mp hl]
  exact base_sub
end
theorem SZ(h:Fp z t row):AM z:=by
 rcases h with⟨rfl,_⟩|⟨rfl,_⟩|⟨rfl,_⟩
 ·exact .inl rfl
 ·exact .inr (.inl rfl)
 ·exact .inr (.inr rfl)
theorem SQ(h:Fp z t row):[]∉Au z t row:=fun e=>Rj h e rfl
theorem DT(hx:H x=none)(hd:H dx=none)(ne:dx≠x)(b:But [x] (upd (upd H dx (.own x)) x (.ins C dx [])) H'):Same H H':=by
 refine But.same (M:=[x]) (fun m hm=>by rw[List.mem_singleton.mp hm];exact hx) ?_ b
 have s1:=Ab hd (.own x)
 exact s1.trans (Ab (by rw[Al ne.symm];exact hx) _)
theorem DP{H:Hp}{x dx C b:Addr}{o:HO}(h:upd (upd H dx (.own x)) x o b=none):H b=none/\b≠x/\b≠dx:=by
 by_cases e:b=x
 ·rw[e,upd_same] at h;cases h
 ·rw[Al e] at h
  by_cases e2:b=dx
  ·rw[e2,upd_same] at h;cases h
  ·rw[Al e2] at h
   exact⟨h,e,e2⟩
theorem I0:BS (GR P w) X E0:=fun _ _ _ _ _ _ _ h=>by
 obtain⟨_,_,_,_,_,_,_,_,_,_,_,_,_,_,_,q⟩:=h
 exact q.elim
section
variable {X:Cx}
end
def Gp(W:Ta)(seen:List Int)(t:Tr):Str:=if W.ended=true then Bp seen (AQ true t W.room) else Bw W.sides W.going seen (AQ true t W.room)
theorem TalkAt.two(h:TalkAt M C H a U W):W.sides.length<=2:=by
 unfold Ta.sides
 rcases CP (z:=W.kind) (t:=W.t) (row:=W.room) with⟨x,e⟩|⟨x,y,e⟩<;>rw[e]<;>simp
theorem Nu(h:Wr room):Wr (AQ b t room):=h.sub zAK
inductive QK(K:PySem.W.Frag)(C cS:Addr)(vs:List V)(H:Hp)(Q:VK)(E:XK):Prop where
 | mk (a sn:Addr) (v:V) (M:List Addr) (U:Tk) (W:Ta) (t:Tr) (seen:List Int) (_:vs=[.ref a,v,.ref sn]) (_:TalkAt M C H a U W) (_:t.At H v) (_:t.ok 5) (_:t.size<=60) (_:SqL K H sn (seen.map V.int)) (_:Wr seen) (_:seen≠[]) (_:(¬t.ok W.many->∀H',Same H H'->E (.ref cS) none H')) (_:(t.ok W.many->∀H',Same H H'->Q (.str (Gp W seen t)) H')):QK K C cS vs H Q E
section
def scTAsk:=As Uq ["self","sentence","seen","worlds"] 3
theorem IQ(aa:Ev P w K mg aA aN cK cT cS cB cN cO):Fm P w K mg cK "ask" (GR P w) 6 (QK K cK cS):=by
 refine aa.h40.okX scTAsk ?_
 rintro bz f ak A outer s H _ Q E hr ⟨a,sn,v,M,U,W,t,seen,rfl,hT,ha,ok5,ay,hN,wN,cV,qE,q⟩
 refine⟨_,Aa (AC (Am (Cd aa) hr (Ax (E1:=E) fun _ _ _ h=>h) (Av (pv 1) (AF (pv 0) rfl))))
  (Aa (Az 3 scTAsk.nd (Am (BE aa) hr Ai (Av (pv 1) (AF (pv 0) rfl))))
  (Aa (An (CO (AF (pv 0) rfl) (fun _=>rfl))
   (AK (Am (GA aa) hr Ai (Av (pv 2) (pv 3))))
   Ag)
  (AK (Am (DL aa) hr Ai (Ac (AF (pv 0) rfl) (Ac (BP (pv 0) aa.TX.cl (DC aa) hr Ai) (Av (pv 2) (pv 3)))))))),?_⟩
 refine⟨hT.ob,aa.TX.cl,aa.TX.many,By,v,t,W.many,rfl,ha,ok5,ay,qE,fun bA H1 s1=>?_⟩
 have q:=q bA
 have T1:=hT.keep s1
 refine⟨T1.ob,aa.TX.cl,aa.TX.space,Ez,v,t,U.sp,W.room,rfl,ha.keep (TS.same s1),ok5,by omega,SqL.of (cut_same _ _ T1.room),hT.wr,fun wl H2 s2 fu be=>?_⟩
 have T2:=T1.keep s2
 have t2:=s1.trans s2
 have be:Ay H2 wl (AQ true t W.room):=be
 have wwl:Wr (AQ true t W.room):=Nu hT.wr
 refine⟨T2.ob,aa.TX.cl,aa.TX.ended,Gm,_,rfl,?_⟩
 unfold Gp at q
 cases he:W.ended with
 | true=>
  refine A8 ?_
  rw[he,if_pos rfl] at q
  exact⟨sn,wl,seen,_,rfl,t2.seq hN,wN,cV,SqL.of be,wwl,fun H3 s3=>q _ (t2.trans s3)⟩
 | false=>
  refine AY ?_
  rw[he,if_neg zAB] at q
  refine⟨T2.ob,aa.TX.cl,aa.TX.parts,GP,T2.ob,El,a,M,U,W,rfl,T2,fun gl H3 s3 hgl0 cM=>?_⟩
  have T3:=T2.keep s3
  have t3:=t2.trans s3
  exact⟨U.pt,gl,sn,wl,U.pxs,W.sides,W.going,seen,_,rfl,cut_same _ _ T3.pt,T3.sd.keep cut_same,T3.ws,T3.two,SqL.of cM,T3.going_wr,t3.seq hN,wN,cV,SqL.of (s3 _ _ be),wwl,fun H4 s4=>q _ (t3.trans s4)⟩
end
inductive HF(C cO:Addr)(vs:List V)(H:Hp)(Q:VK)(E:XK):Prop where
 | mk (a:Addr) (M:List Addr) (U:Tk) (W:Ta) (_:vs=[.ref a]) (_:TalkAt M C H a U W) (_:(W.ended=true->E (.ref cO) none H)) (_:(W.ended=false->Q .non H)):HF C cO vs H Q E
section
def OB:=As Kr ["talk"] 1
theorem Bq(aa:Ev P w K mg aA aN cK cT cS cB cN cO):Fc P w K mg "refuse_over" (GR P w) 2 (HF cK cO):=by
 refine aa.h19.okX OB ?_
 rintro bz f ak A outer s H _ Q E hr ⟨a,M,U,W,rfl,hT,qE,q⟩
 refine⟨_,Aj (An (A6 (BP (pv 0) aa.TX.cl (R3 aa) hr Ai))
   (Aj (Ce (Ex:=E) CQ rfl aa.X_TalkOver.cls aa.X_TalkOver.at_ aa.X_TalkOver.ty (by rfl) aa.X_TalkOver.m (AR Ae) (hvl:=fun _ _ _ h=>⟨by decide,h⟩)))
   Ag),?_⟩
 refine⟨hT.ob,SD,a,M,U,W,rfl,hT,?_⟩
 cases he:W.ended with
 | true=>exact A8 (qE he)
 | false=>exact AY (q he)
end
def Rm(W:Ta)(v:V)(t:Tr)(bU:Str):Ta:={ W with ents:=W.ents++[(v,t,bU)],lefts:=W.lefts++[BZ bU W.held (AQ true t W.room)] }
theorem EntsAt.snoc{H:Hp}{v:V}{e:V×Tr×Str}(h:∃p,Cc (v= .ref p) (H p=some (.tup [e.1,.str e.2.2])) (e.2.1.At H e.1)):∀{xs:List V}{es:List (V×Tr×Str)},EntsAt H xs es->EntsAt H (xs++[v]) (es++[e])
 | _,_,.nil=>.cons h .nil
 | _,_,.cons x q=>.cons x (EntsAt.snoc h q)
theorem EntsAt.len(h:EntsAt H xs es):xs.length=es.length:=zA1 h
theorem FC{H:Hp}{v:V}{row:List Int}(h:∃p,v= .ref p/\Ay H p row):∀{xs:List V}{rs:List (List Int)},RowsAt H xs rs->RowsAt H (xs++[v]) (rs++[row])
 | _,_,.nil=>.cons h .nil
 | _,_,.cons x q=>.cons x (FC h q)
theorem Qf(z:Str)(g r:List Int):(BZ z g r).Sublist g:=by
 unfold BZ Cr Cu
 split
 ·exact zAK
 ·split
  ·exact zAK
  ·exact zA2 _
section
variable {M:List Addr}{C:Addr}{H H':Hp}{a:Addr}{U:Tk}{W:Ta}
theorem TalkAt.a_gv(h:TalkAt M C H a U W):a≠U.gv:=CI h.ob h.gv (by intro z;cases z)
theorem TalkAt.a_lf(h:TalkAt M C H a U W):a≠U.lf:=CI h.ob h.lf (by intro z;cases z)
theorem TalkAt.gave(h:TalkAt M C H a U W)(hp:Bb M H p=some (.tup [v,.str bU]))(ha:t.At (Bb M H) v)(hl:W.ents.length<900):
  TalkAt M C (upd H U.gv (.lst (U.ges++[.ref p]))) a { U with ges:=U.ges++[.ref p] } { W with ents:=W.ents++[(v,t,bU)] }:=by
 have e:=DJ (H:=H) (o:=.lst (U.ges++[.ref p])) h.mg
 refine⟨by rw[Al h.a_gv];exact h.ob,upd_same,by rw[Al h.ne.symm];exact h.lf,h.ma,h.mg,h.ml,h.ne,?_,?_,?_,?_,?_,?_,h.wr,h.wl,h.ln,h.l9,?_,h.tok,h.m5,h.tsz,h.kd,h.ns,h.rl⟩
 ·show Ay (Bb M (upd H U.gv _)) _ _;rw[e];exact h.room
 ·show Tr.At (Bb M (upd H U.gv _)) _ _;rw[e];exact h.tr
 ·show Bb M (upd H U.gv _) _=_;rw[e];exact h.pt
 ·show RowsAt (Bb M (upd H U.gv _)) _ _;rw[e];exact h.sd
 ·show EntsAt (Bb M (upd H U.gv _)) _ _;rw[e];exact h.en.snoc ⟨p,rfl,hp,ha⟩
 ·show RowsAt (Bb M (upd H U.gv _)) _ _;rw[e];exact h.lr
 ·show (W.ents++[(v,t,bU)]).length<=900;rw[zA];exact hl
theorem TalkAt.gone(h:TalkAt M C H a U W)(hp:Ay (Bb M H) l row)(hs:row.Sublist W.room)(hl:W.lefts.length<900):
  TalkAt M C (upd H U.lf (.lst (U.lfs++[.ref l]))) a { U with lfs:=U.lfs++[.ref l] } { W with lefts:=W.lefts++[row] }:=by
 have e:=DJ (H:=H) (o:=.lst (U.lfs++[.ref l])) h.ml
 refine⟨by rw[Al h.a_lf];exact h.ob,by rw[Al h.ne];exact h.gv,upd_same,h.ma,h.mg,h.ml,h.ne,?_,?_,?_,?_,?_,?_,h.wr,?_,?_,?_,h.e9,h.tok,h.m5,h.tsz,h.kd,h.ns,h.rl⟩
 ·show Ay (Bb M (upd H U.lf _)) _ _;rw[e];exact h.room
 ·show Tr.At (Bb M (upd H U.lf _)) _ _;rw[e];exact h.tr
 ·show Bb M (upd H U.lf _) _=_;rw[e];exact h.pt
 ·show RowsAt (Bb M (upd H U.lf _)) _ _;rw[e];exact h.sd
 ·show EntsAt (Bb M (upd H U.lf _)) _ _;rw[e];exact h.en
 ·show RowsAt (Bb M (upd H U.lf _)) _ _;rw[e];exact FC ⟨l,rfl,hp⟩ h.lr
 ·intro x hx
  rcases List.mem_append.mp hx with z | z
  ·exact h.wl x z
  ·rw[List.mem_singleton.mp z];exact hs
 ·show W.lefts++[row]≠[];simp
 ·show (W.lefts++[row]).length<=900;rw[zA];exact hl
end
inductive Qy(K:PySem.W.Frag)(C cS cO:Addr)(vs:List V)(H:Hp)(Q:VK)(E:XK):Prop where
 | mk (a sn:Addr) (v:V) (M:List Addr) (U:Tk) (W:Ta) (t:Tr) (seen:List Int) (_:vs=[.ref a,v,.ref sn]) (_:TalkAt M C H a U W) (_:(∀m∈M,H m≠none)) (_:t.At (Bb M H) v) (_:t.ok 5) (_:t.size<=60) (_:SqL K H sn (seen.map V.int)) (_:Wr seen) (_:seen≠[]) (_:W.ents.length<900) (_:W.lefts.length<900) (_:(W.ended=true->∀H',Same H H'->E (.ref cO) none H')) (_:(W.ended=false->¬t.ok W.many->∀H',Same H H'->E (.ref cS) none H')) (_:(W.ended=false->t.ok W.many->∀(U':Tk)(H':Hp),But [U.gv,U.lf] H H'->U'.gv=U.gv->U'.lf=U.lf->(∀b,H b≠none->H' b≠none)->TalkAt M C H' a U' (Rm W v t (Gp W seen t))->Q (.str (Gp W seen t)) H')):Qy K C cS cO vs H Q E
section
def scTSay:=As UP ["self","sentence","seen","word"] 3
theorem Jd(aa:Ev P w K mg aA aN cK cT cS cB cN cO):Fm P w K mg cK "say" (GR P w) 7 (Qy K cK cS cO):=by
 refine aa.h41.okX scTSay ?_
 rintro bz f ak A outer s H _ Q E hr ⟨a,sn,v,M,U,W,t,seen,rfl,hT,hM,ha,ok5,ay,hN,wN,cV,le,ll,qO,qS,q⟩
 refine⟨_,Aa (AC (Am (Bq aa) hr (Ax (E1:=E) fun _ _ _ h=>h) (AR (pv 0))))
  (Aa (Az 3 scTSay.nd (Oz (pv 0) aa.TX.cl (IQ aa) hr (Ax (E1:=E) fun _ _ _ h=>h) (Av (pv 1) (pv 2))))
  (Aa (AC (BA (AF (pv 0) rfl) (AR (Aw (Av (pv 1) (pv 3))))))
  (Aa (AC (BA (AF (pv 0) rfl) (AR (Am (CB aa) hr Ai (Ac (pv 3) (Av (AN AD (AF (pv 0) rfl) (Ks GX Ad)) (Am (BE aa) hr Ai (Av (pv 1) (AF (pv 0) rfl)))))))))
  (AK (pv 3))))),?_⟩
 refine⟨a,M,U,W,rfl,hT,fun he=>qO he _ (Same.refl _),fun he=>?_⟩
 have haH:=ha.keep (TS.same cut_same)
 refine⟨hT.ob,L9,a,sn,v,M,U,W,t,seen,rfl,hT,haH,ok5,ay,hN,wN,cV,fun hn H' s'=>qS he hn H' s',fun bA H2 s2=>?_⟩
 have q:=q he bA
 generalize Gp W seen t=bU at *
 have T2:=hT.keep s2
 refine⟨T2.ob,aa.TX.cl,aa.TX.given,Gj,.inl ⟨rfl,_,SqL.of T2.gv⟩,BT,fun p hp=>?_⟩
 have s3:=Ab hp (.tup [v,.str bU])
 have p3:upd H2 p (.tup [v,.str bU]) p=some (.tup [v,.str bU]):=upd_same
 have T3:=T2.keep s3
 have p0:H p=none:=s2.free hp
 have pM:p∉M:=fun z=>hM p z p0
 have t3:=s2.trans s3
 generalize upd H2 p _=H3 at *
 have cM:U.ges.length=W.ents.length:=T3.en.len
 refine⟨T3.gv,Ap (by omega),?_⟩
 have T4:=T3.gave (A4 p3 pM) (ha.keep (TS.same (AB t3))) le
 have b4:But [U.gv,U.lf] H (upd H3 U.gv (.lst (U.ges++[.ref p]))):=Same.trans (AB t3) (But.upd (by simp))
 have k4:∀b,H3 b≠none->upd H3 U.gv (.lst (U.ges++[.ref p])) b≠none:=fun b hb=>by
  by_cases c:b=U.gv
  ·rw[c,upd_same];exact fun z=>by cases z
  ·rw[Al c];exact hb
 have ts4:TS H3 (upd H3 U.gv (.lst (U.ges++[.ref p]))):=TS.lst T3.gv
 generalize upd H3 U.gv _=H4 at *
 have lf4:H4 U.lf=some (.lst U.lfs):=T4.lf
 obtain⟨hl,bc,aF⟩:=EG T4.lr T4.ln
 refine⟨T4.ob,aa.TX.cl,aa.TX.left,DG,.inl ⟨rfl,_,SqL.of lf4⟩,?_⟩
 refine⟨T4.ob,aa.TX.cl,aa.TX.left,DG,_,rfl,SqL.of lf4,bc,?_⟩
 refine⟨T4.ob,aa.TX.cl,aa.TX.space,Ez,v,t,U.sp,W.room,rfl,(haH.keep (TS.same t3)).keep ts4,ok5,by omega,SqL.of (cut_same _ _ T4.room),hT.wr,fun wl H5 s5 fu be=>?_⟩
 have T5:=T4.keep s5
 have be:Ay H5 wl (AQ true t W.room):=be
 have wwl:Wr (AQ true t W.room):=Nu hT.wr
 have lwl:=wwl.len
 refine⟨bU,hl,wl,W.held,_,rfl,SqL.of (s5 _ _ (cut_same _ _ aF)),hT.held_wr,SqL.of be,by omega,fun l H6 s6 aY hl6=>?_⟩
 have T6:=T5.keep s6
 have gC:U.lfs.length=W.lefts.length:=T6.lr.len
 refine⟨T6.lf,Ap (show U.lfs.length<=1000 by omega),?_⟩
 have l4:H4 l=none:=s5.free aY
 have lM:l∉M:=fun z=>by
  have h3:H3 l≠none:=fun z3=>hM l z (t3.free z3)
  exact k4 l h3 l4
 have T7:=T6.gone (A4 hl6 lM) ((Qf _ _ _).trans (hT.wl _ hT.held_in)) ll
 have b7:But [U.gv,U.lf] H (upd H6 U.lf (.lst (U.lfs++[.ref l]))):=Same.trans b4 (Same.trans (AB (s5.trans s6)) (But.upd (by simp)))
 have k7:∀b,H b≠none->upd H6 U.lf (.lst (U.lfs++[.ref l])) b≠none:=fun b hb=>by
  by_cases c:b=U.lf
  ·rw[c,upd_same];exact fun z=>by cases z
  ·rw[Al c]
   have h3:H3 b≠none:=fun z3=>hb (t3.free z3)
   exact fun z6=>k4 b h3 ((s5.trans s6).free z6)
 refine ?_
 exact q { U with ges:=U.ges++[.ref p],lfs:=U.lfs++[.ref l] } _ b7 rfl rfl k7 T7
end
section
variable {M N:List Addr}{C:Addr}{H H':Hp}{a:Addr}{U:Tk}{W:Ta}
end
def QN(W:Ta):Ta:={ W with ended:=true }
inductive LD(C cO:Addr)(vs:List V)(H:Hp)(Q:VK)(E:XK):Prop where
 | mk (a:Addr) (M:List Addr) (U:Tk) (W:Ta) (_:vs=[.ref a]) (_:TalkAt M C H a U W) (_:(W.ended=true->E (.ref cO) none H)) (_:(W.ended=false->∀(H':Hp),But [a] H H'->TalkAt M C H' a U (QN W)->Q .non H')):LD C cO vs H Q E
section
def VJ:=As UL ["self"] 1
theorem S0(aa:Ev P w K mg aA aN cK cT cS cB cN cO):Fm P w K mg cK "end" (GR P w) 3 (LD cK cO):=by
 refine aa.h85.okX VJ ?_
 rintro bz f ak A outer s H _ Q E hr ⟨a,M,U,W,rfl,hT,qO,q⟩
 refine⟨_,Aa (AC (Am (Bq aa) hr (Ax (E1:=E) fun _ _ _ h=>h) (AR (pv 0))))
  (Aj (BV (pv 0) BQ rfl)),?_⟩
 refine⟨a,M,U,W,rfl,hT,qO,fun he=>?_⟩
 refine⟨hT.ob,aa.TX.cl,aa.TX.ended,(by show 9<1000;decide),?_⟩
 have e:BC "ended" (.bl true) (CT U W)=CT U (QN W):=by with_unfolding_all rfl
 have eu:Bb M (upd H a (.ins cK U.dx (BC "ended" (.bl true) (CT U W))))=Bb M H:=DJ hT.ma
 refine q he _ (But.upd (by simp)) ⟨upd_same.trans (congrArg (fun l=>some (HO.ins cK U.dx l)) e),by rw[Al hT.a_gv.symm];exact hT.gv,by rw[Al hT.a_lf.symm];exact hT.lf,hT.ma,hT.mg,hT.ml,hT.ne,?_,?_,?_,?_,?_,?_,hT.wr,hT.wl,hT.ln,hT.l9,hT.e9,hT.tok,hT.m5,hT.tsz,hT.kd,hT.ns,hT.rl⟩
 ·rw[eu];exact hT.room
 ·rw[eu];exact hT.tr
 ·rw[eu];exact hT.pt
 ·rw[eu];exact hT.sd
 ·rw[eu];exact hT.en
 ·rw[eu];exact hT.lr
end
inductive MZ(C:Addr)(vs:List V)(H:Hp)(Q:VK)(E:XK):Prop where
 | mk (a:Addr) (M:List Addr) (U:Tk) (W:Ta) (_:vs=[.ref a]) (_:TalkAt M C H a U W) (_:(∀m∈M,H m≠none)) (_:∀(b:Addr)(U':Tk)(H':Hp),Same H H'->H b=none->H U'.gv=none->H U'.lf=none->TalkAt (b::U'.gv::U'.lf::M) C H' b U' W->Q (.ref b) H'):MZ C vs H Q E
section
def scTFork:=As R5 ["self","other"] 1
theorem Jt(aa:Ev P w K mg aA aN cK cT cS cB cN cO):Fm P w K mg cK "fork" Bh 7 (MZ cK):=by
 refine aa.h48.ok scTFork ?_
 rintro bz f ak A outer s H _ Q E hr ⟨a,M,U,W,rfl,hT,hM,q⟩
 refine⟨_,Aa (Az 1 scTFork.nd (VU (Gy aa) hr I0 (Ac (AF (pv 0) rfl) (Ac (AF (pv 0) rfl) (Ac (AF (pv 0) rfl) (Av (AF (pv 0) rfl) (AF (pv 0) rfl)))))))
  (Aa (BV (pv 1) (AS A3 (by rfl) aa.T.lst Bm (AR (AF (pv 0) rfl))) rfl)
  (Aa (BV (pv 1) (AS A3 (by rfl) aa.T.lst Bm (AR (AF (pv 0) rfl))) rfl)
  (Aa (BV (pv 1) (AF (pv 0) rfl) rfl)
  (AK (pv 1))))),?_⟩
 refine⟨hT.ob,aa.TX.cl,aa.TX.many,By,hT.ob,aa.TX.cl,aa.TX.space,Ez,hT.ob,aa.TX.cl,aa.TX.kind,ED,hT.ob,aa.TX.cl,aa.TX.sentence,B1,hT.ob,aa.TX.cl,aa.TX.rule,EW,fun x dx hx fA fB=>?_⟩
 have sM:Same H (upd (upd H dx (.own x)) x (.ins cK dx [])):=(Ab fA _).trans (Ab (by rw[Al fB.symm];exact hx) _)
 have xM:x∉M:=fun z=>hM x z hx
 refine⟨x,dx,U.sp,W.many,W.kind,W.rule,U.sv,W.t,W.room,M,rfl,upd_same,xM,fun m hm z=>hM m hm (sM.free z),hT.tr.keep (TS.same (AB sM)),Tr.ok.mono hT.m5 hT.tok,hT.tsz,hT.m5,sM _ _ (cut_same _ _ hT.room),hT.wr,fun hn=>absurd hT.tok hn,fun _ hn=>absurd ⟨hT.rl,hT.kd⟩ hn,fun _ _ _ he=>absurd he hT.ns,fun _ _ _ _ V1 H1 b1 iw ix sp0 esv T1=>⟨rfl,?_⟩⟩
 have s1:Same H H1:=DT hx fA fB b1
 obtain⟨gvH,ngx,ngd⟩:=DP (C:=cK) iw
 obtain⟨lfH,nlx,nld⟩:=DP (C:=cK) ix
 have T0:=hT.keep s1
 refine⟨T0.ob,aa.TX.cl,aa.TX.given,Gj,.inl (SqL.of T0.gv),fun g2 ip=>?_⟩
 have s2:=Ab ip (.lst U.ges)
 have g22:upd H1 g2 (.lst U.ges) g2=some (.lst U.ges):=upd_same
 generalize upd H1 g2 _=H2 at *
 have T2:=T1.keep s2
 have ng2x:g2≠x:=(Ah T1.ob ip).symm
 refine⟨T2.ob,aa.TX.cl,aa.TX.given,(by show 9<1000;decide),?_⟩
 have e3:BC "given" (.ref g2) (CT V1 (Cs W.many W.kind W.rule W.t W.room))=CT { V1 with gv:=g2 } (Cs W.many W.kind W.rule W.t W.room):=by with_unfolding_all rfl
 have x3:upd H2 x (.ins cK V1.dx (BC "given" (.ref g2) (CT V1 (Cs W.many W.kind W.rule W.t W.room)))) x=some (.ins cK V1.dx (CT { V1 with gv:=g2 } (Cs W.many W.kind W.rule W.t W.room))):=upd_same.trans (congrArg (fun l=>some (HO.ins cK V1.dx l)) e3)
 have b3:But [x] H2 (upd H2 x (.ins cK V1.dx (BC "given" (.ref g2) (CT V1 (Cs W.many W.kind W.rule W.t W.room))))):=But.upd (by simp)
 generalize upd H2 x _=H3 at *
 have nax:a≠x:=fun z=>by
  have h:=hT.ob
  rw[z,hx] at h
  cases h
 have nlfx:U.lf≠x:=fun z=>by
  have h:=hT.lf
  rw[z,hx] at h
  cases h
 have lf3:=b3.at (s2 _ _ T0.lf) (Bs nlfx)
 have ob3:=b3.at (s2 _ _ T0.ob) (Bs nax)
 refine⟨ob3,aa.TX.cl,aa.TX.left,DG,.inl (SqL.of lf3),fun l2 aF=>?_⟩
 have s4:=Ab aF (.lst U.lfs)
 have l24:upd H3 l2 (.lst U.lfs) l2=some (.lst U.lfs):=upd_same
 generalize upd H3 l2 _=H4 at *
 have nl2x:l2≠x:=(Ah x3 aF).symm
 refine⟨s4 _ _ x3,aa.TX.cl,aa.TX.left,(by show 9<1000;decide),?_⟩
 have e5:BC "left" (.ref l2) (CT { V1 with gv:=g2 } (Cs W.many W.kind W.rule W.t W.room))=CT { V1 with gv:=g2,lf:=l2 } (Cs W.many W.kind W.rule W.t W.room):=by with_unfolding_all rfl
 have x5:upd H4 x (.ins cK V1.dx (BC "left" (.ref l2) (CT { V1 with gv:=g2 } (Cs W.many W.kind W.rule W.t W.room)))) x=some (.ins cK V1.dx (CT { V1 with gv:=g2,lf:=l2 } (Cs W.many W.kind W.rule W.t W.room))):=upd_same.trans (congrArg (fun l=>some (HO.ins cK V1.dx l)) e5)
 have b5:But [x] H4 (upd H4 x (.ins cK V1.dx (BC "left" (.ref l2) (CT { V1 with gv:=g2 } (Cs W.many W.kind W.rule W.t W.room))))):=But.upd (by simp)
 generalize upd H4 x _=H5 at *
 have ob5:=b5.at (s4 _ _ ob3) (Bs nax)
 refine⟨ob5,aa.TX.cl,aa.TX.ended,Gm,x5,aa.TX.cl,aa.TX.ended,(by show 9<1000;decide),?_⟩
 have e6:BC "ended" (.bl W.ended) (CT { V1 with gv:=g2,lf:=l2 } (Cs W.many W.kind W.rule W.t W.room))=CT { V1 with gv:=g2,lf:=l2,ges:=U.ges,lfs:=U.lfs } W:=by with_unfolding_all rfl
 have x6:upd H5 x (.ins cK V1.dx (BC "ended" (.bl W.ended) (CT { V1 with gv:=g2,lf:=l2 } (Cs W.many W.kind W.rule W.t W.room)))) x=some (.ins cK V1.dx (CT { V1 with gv:=g2,lf:=l2,ges:=U.ges,lfs:=U.lfs } W)):=upd_same.trans (congrArg (fun l=>some (HO.ins cK V1.dx l)) e6)
 have b6:But [x] H5 (upd H5 x (.ins cK V1.dx (BC "ended" (.bl W.ended) (CT { V1 with gv:=g2,lf:=l2 } (Cs W.many W.kind W.rule W.t W.room))))):=But.upd (by simp)
 generalize upd H5 x _=H6 at *
 have b16:But [x] H1 H6:=Same.trans (AB s2) (Same.trans b3 (Same.trans (AB s4) (Same.trans b5 b6)))
 have off:∀m∈[x],H m=none:=fun m hm=>by rw[List.mem_singleton.mp hm];exact hx
 have s6:Same H H6:=But.same off s1 b16
 have g20:H g2=none:=s1.free ip
 have l23:H2 l2=none:=by
  cases e:H2 l2 with
  | none=>rfl
  | some o=>rw[b3.at e (Bs nl2x)] at aF;cases aF
 have l20:H l2=none:=s1.free (s2.free l23)
 have g26:H6 g2=some (.lst U.ges):=b6.at (b5.at (s4 _ _ (b3.at g22 (Bs ng2x))) (Bs ng2x)) (Bs ng2x)
 have l26:H6 l2=some (.lst U.lfs):=b6.at (b5.at l24 (Bs nl2x)) (Bs nl2x)
 have ngl:g2≠l2:=Ah g22 l23
 have k1:Same (Bb (x::V1.gv::V1.lf::M) H1) (Bb (x::g2::l2::M) H6):=fun p o e=>by
  obtain⟨e1,e2⟩:=BY e
  have n1:p≠x:=fun z=>e2 (by rw[z];simp)
  refine A4 (b16.at e1 (Bs n1)) fun z=>?_
  simp only[zAS] at z e2
  rcases z with q1 | q1 | q1 | q1
  ·exact n1 q1
  ·rw[q1,ip] at e1;cases e1
  ·rw[q1] at e1;rw[s2 _ _ e1] at l23;cases l23
  ·exact e2 (.inr (.inr (.inr q1)))
 have k0:Same (Bb M H) (Bb (x::g2::l2::M) H6):=fun p o e=>by
  obtain⟨e1,e2⟩:=BY e
  refine A4 (s6 _ _ e1) fun z=>?_
  simp only[zAS] at z
  rcases z with q1 | q1 | q1 | q1
  ·rw[q1,hx] at e1;cases e1
  ·rw[q1,g20] at e1;cases e1
  ·rw[q1,l20] at e1;cases e1
  ·exact e2 q1
 refine ?_
 exact q x { V1 with gv:=g2,lf:=l2,ges:=U.ges,lfs:=U.lfs } H6 s6 hx g20 l20 ⟨x6,g26,l26,by simp,by simp,by simp,ngl,k1 _ _ T1.room,T1.tr.keep (TS.same k1),k1 _ _ T1.pt,T1.sd.keep k1,hT.en.keep k0,hT.lr.keep k0,hT.wr,hT.wl,hT.ln,hT.l9,hT.e9,hT.tok,hT.m5,hT.tsz,hT.kd,hT.ns,hT.rl⟩
end
inductive NQ(K:PySem.W.Frag)(vs:List V)(H:Hp)(Q:VK)(E:XK):Prop where
 | mk (a:Addr) (ns:List Int) (many:Nat) (_:vs=[.ref a,.int many]) (_:SqL K H a (ns.map V.int)) (_:ns.length<=63) (_:1<=many) (_:many<=5) (_:∀(tp rm:Addr)(room:List Int)(z:Str)(v:V)(t:Tr)(H':Hp),Same H H'->H' tp=some (.tup [.ref rm,.str z,v])->H rm=none->Ay H' rm room->room.Sublist (B4 (2^many))->room≠[]->t.At H' v->t.ok many->t.size<=20->Fp z t room->Q (.ref tp) H'):NQ K vs H Q E
section
def scLstart:=As NS ["_law_script","_law_many","_law_room_here","_law_sentence_here"] 2
theorem OQ(aa:Ev P w K mg aA aN cK cT cS cB cN cO):Fc P w K mg "_law_start" Bh 26 (NQ K):=by
 refine aa.h11.ok scLstart ?_
 rintro bz f ak A outer s H _ Q E hr ⟨a,ns,many,rfl,hS,h63,bG,bB,q⟩
 refine⟨_,Aa (Az 2 scLstart.nd (Am (QL aa) hr Ai (Av (Am (DU (BN aa)) hr Ai (Av (pv 0) Ad)) (pv 1))))
  (Aa (Az 3 scLstart.nd (Am (NW aa) hr Ai (Ac (Am (DU (BN aa)) hr Ai (Av (pv 0) Ad)) (Av Ad (pv 1)))))
  (AK (Aw (Ac (pv 2) (Av (Am (Po aa) hr Ai (Ac (Am (DU (BN aa)) hr Ai (Av (pv 0) Ad)) (Av (pv 2) (pv 3)))) (pv 3)))))),?_⟩
 refine⟨a,ns,1,rfl,hS,h63,by decide,by decide,fun n1 H2 hn1 s2=>?_⟩
 refine⟨n1,many,rfl,bG,bB,fun rm room H3 s3 hrm0 aW aw aE=>?_⟩
 have t3:=s2.trans s3
 have cA:Wr room:=(Nn bB).sub aw
 have dr:=cA.len
 refine⟨a,ns,2,rfl,t3.seq hS,h63,by decide,by decide,fun n2 H4 dQ s4=>?_⟩
 refine⟨n2,8,many,rfl,dQ,by decide,by decide,bG,bB,fun v t H5 s5 ha hok hsz'=>?_⟩
 have ay:t.size<=23:=by omega
 have ok5:t.ok 5:=Tr.ok.mono bB hok
 have t5:=t3.trans (s4.trans s5)
 have hrm5:=s5 _ _ (s4 _ _ aW)
 refine⟨a,ns,3,rfl,t5.seq hS,h63,by decide,by decide,fun n3 H6 fz s6=>?_⟩
 have t6:=t5.trans s6
 have hrm6:=s6 _ _ hrm5
 have ha6:=ha.keep (TS.same s6)
 refine⟨n3,rm,room,v,t,rfl,ha6,ok5,ay,SqL.of hrm6,by omega,aE,fun z H7 s7 hz=>?_⟩
 refine⟨E2,fun tp eG=>?_⟩
 have s8:=s7.trans (Ab eG (.tup [.ref rm,.str z,v]))
 exact q tp rm room z v t _ (t6.trans s8) upd_same (s2.free hrm0) (s8 _ _ hrm6) aw aE (ha6.keep (TS.same s8)) hok (by omega) hz
end
def Dp(seen:List Int)(t:Tr):Str:=if (seen.all fun k=>tv t k)=true then "grant" else if (seen.any fun k=>tv t k)=true then "doubt" else "deny"
def PF(sides:List (List Int))(going seen:List Int)(t:Tr):Str:=
 if AQ false t going=[] then "grant" else if AQ true t going=[] then "deny"
 else if Dp seen t="grant"/\AX sides (AQ true t going)=true then "grant"
 else if Dp seen t="deny"/\AX sides (AQ false t going)=true then "deny" else "doubt"
def CN(z:Str)(g:List Int)(t:Tr):List Int:=if z="grant" then AQ true t g else if z="deny" then AQ false t g else g
theorem CD(hk:k∈room):decide (k∈AQ true t room)=tv t k:=by
 unfold AQ
 rw[zA5,decide_eq_true_eq,List.mem_filter]
 constructor
 ·rintro⟨_,h⟩
  exact eq_of_beq h
 ·intro h
  exact⟨hk,by rw[h];rfl⟩
theorem Rx(h:g.Sublist room):Cr g (AQ true t room)=AQ true t g:=by
 unfold Cr
 refine (zDC fun k hk=>?_)
 rw[CD (h.subset hk)]
 cases tv t k<;>rfl
theorem Nl(h:g.Sublist room):Cu g (AQ true t room)=AQ false t g:=by
 unfold Cu
 refine (zDC fun k hk=>?_)
 rw[CD (h.subset hk)]
 cases tv t k<;>rfl
theorem NY(h:g.Sublist room):Bp g (AQ true t room)=Dp g t:=by
 have e1:(g.all fun k=>decide (k∈AQ true t room))=g.all fun k=>tv t k:=by
  rw[zA5,zBN,zBN]
  exact⟨fun q k hk=>by rw[<-CD (h.subset hk)];exact q k hk,fun q k hk=>by rw[CD (h.subset hk)];exact q k hk⟩
 have e2:(g.any fun k=>decide (k∈AQ true t room))=g.any fun k=>tv t k:=by
  rw[zA5,zBU,zBU]
  exact⟨fun⟨k,hk,q⟩=>⟨k,hk,by rw[<-CD (h.subset hk)];exact q⟩,fun⟨k,hk,q⟩=>⟨k,hk,by rw[CD (h.subset hk)];exact q⟩⟩
 unfold Bp Dp
 rw[e1,e2]
theorem TU(seen:List Int)(t:Tr):Dp seen t="grant"\/Dp seen t="deny"\/Dp seen t="doubt":=by
 unfold Dp
 split
 ·exact .inl rfl
 ·split
  ·exact .inr (.inr rfl)
  ·exact .inr (.inl rfl)
theorem P8{going seen room:List Int}(hg:going.Sublist room)(hs:seen.Sublist room):Bw sides going seen (AQ true t room)=PF sides going seen t:=by
 unfold Bw PF
 rw[Rx hg,Nl hg,NY hs]
 by_cases h0:AQ false t going=[]
 ·rw[if_pos h0,if_pos h0]
 rw[if_neg h0,if_neg h0]
 by_cases h1:AQ true t going=[]
 ·rw[if_pos h1,if_pos h1]
 rw[if_neg h1,if_neg h1]
 have g1:¬("grant":Str)="deny":=by decide
 have g2:¬("deny":Str)="grant":=by decide
 have g3:¬("doubt":Str)="grant":=by decide
 have g4:¬("doubt":Str)="deny":=by decide
 rcases TU seen t with e | e | e<;>rw[e]<;>cases AX sides (AQ true t going)<;>cases AX sides (AQ false t going)<;>simp[g1,g2,g3,g4]
theorem EB(h:g.Sublist room):BZ z g (AQ true t room)=CN z g t:=by
 unfold BZ CN
 rw[Rx h,Nl h]
theorem Ir(z:Str)(g:List Int)(t:Tr):(CN z g t).Sublist g:=by
 unfold CN
 split
 ·exact zAK
 ·split
  ·exact zAK
  ·exact zA2 _
inductive PairAt(H:Hp)(x:V)(t:Tr)(z:Str):Prop where
 | mk (p v) (_:x= .ref p) (_:H p=some (.tup [v,.str z])) (_:t.At H v)
theorem PairAt.keep(s:Same H H')(h:PairAt H x t z):PairAt H' x t z:=by
 obtain⟨p,v,e,h1,h2⟩:=h
 exact⟨p,v,e,s _ _ h1,h2.keep (TS.same s)⟩
abbrev PairsAt(H:Hp):List V->List (Tr×Str)->Prop:=Paired fun(x:V)(e:Tr×Str)=>PairAt H x e.1 e.2
theorem PairsAt.keep{H H':Hp}(s:Same H H'):∀{xs:List V}{es:List (Tr×Str)},PairsAt H xs es->PairsAt H' xs es
 | _,_,.nil=>.nil
 | _,_,.cons h q=>.cons (h.keep s) (PairsAt.keep s q)
theorem PairsAt.len(h:PairsAt H xs es):xs.length=es.length:=zA1 h
theorem PairsAt.get{H:Hp}:∀{xs:List V}{es:List (Tr×Str)}{i:Nat}{e:Tr×Str},PairsAt H xs es->es[i]? = some e->∃x,xs[i]? = some x/\PairAt H x e.1 e.2
 | _,_,0,e,.cons h _,hi=>by cases hi;exact⟨_,rfl,h⟩
 | _,_,i+1,e,.cons _ q,hi=>PairsAt.get (i:=i) q hi
theorem Ea{H:Hp}:∀{xs:List V}{es:List (V×Tr×Str)},EntsAt H xs es->PairsAt H xs (es.map fun e=>(e.2.1,e.2.2))
 | _,_,.nil=>.nil
 | _,_,.cons ⟨p,e,h,a⟩ q=>.cons ⟨p,_,e,h,a⟩ (Ea q)
abbrev FreshAt(H:Hp)(many:Nat):List V->List Tr->Prop:=Paired fun(v:V)(t:Tr)=>t.At H v/\t.ok many/\t.size<=20
theorem FreshAt.keep{H H':Hp}{many:Nat}(s:TS H H'):∀{xs:List V}{ts:List Tr},FreshAt H many xs ts->FreshAt H' many xs ts
 | _,_,.nil=>.nil
 | _,_,.cons ⟨h,o,z⟩ q=>.cons ⟨h.keep s,o,z⟩ (FreshAt.keep s q)
theorem FreshAt.get{H:Hp}{many:Nat}:∀{xs:List V}{ts:List Tr}{i:Nat},FreshAt H many xs ts->i<xs.length->BF fun(v:V)(t:Tr)=>Hw (xs[i]? = some v) (t.At H v) (t.ok many) (t.size<=20)
 | _,_,0,.cons h _,_=>⟨_,_,rfl,h.1,h.2.1,h.2.2⟩
 | _,_,i+1,.cons _ q,hi=>FreshAt.get (i:=i) q (zCR hi)
inductive Ke(K:PySem.W.Frag)(vs:List V)(H:Hp)(Q:VK)(E:XK):Prop where
 | mk (n:Int) (fr:Addr) (many:Nat) (xs:List V) (ts:List Tr) (_:vs=[.int n,.ref fr,.int many]) (_:0<=n) (_:1<=many) (_:many<=5) (_:H fr=some (.lst xs)) (_:FreshAt H many xs ts) (_:xs≠[]) (_:xs.length<=900) (_:∀(v:V)(t:Tr)(H':Hp),Same H H'->t.At H' v->t.ok many->t.size<=21->(1<n%6->t.size<=20)->Q v H'):Ke K vs H Q E
section
def Pu:=As NN ["_law_n","_law_fresh","_law_many"] 3
theorem Oe(aa:Ev P w K mg aA aN cK cT cS cB cN cO):Fc P w K mg "_law_asked" Bh 2 (Ke K):=by
 refine aa.h14.ok Pu ?_
 rintro bz f ak A outer s H _ Q E hr ⟨n,fr,many,xs,ts,rfl,hn,bG,bB,bC,hF,aE,hl,q⟩
 have hp:0<xs.length:=List.length_pos_iff.mpr aE
 refine⟨_,Aa (An (AH AI (Ak AL (pv 0) Ad) Ad)
   (AK (AN AD (pv 1) (Ak AL (Ak AT (pv 0) Ad) (Ao Aq (by rfl) aa.B.len zAO (AR (pv 1))))))
   Ag)
  (Aa (An (AH AI (Ak AL (pv 0) Ad) Ad)
   (AK (Aw (Av Ae (AN AD (pv 1) (Ak AL (Ak AT (pv 0) Ad) (Ao Aq (by rfl) aa.B.len zAO (AR (pv 1))))))))
   Ag)
  (AK (Am (NW aa) hr Ai (Ac (Ak AT (pv 0) Ad) (Av Ad (pv 2)))))),?_⟩
 have e0:=zAV (n / 6) (show (xs.length:Int)≠0 by omega)
 have e1:=zAY (n / 6) (show (0:Int)<xs.length by omega)
 obtain⟨v,t,hv,ha,hok,ay⟩:=FreshAt.get hF (i:=(n / 6%(xs.length:Int)).toNat) (by omega)
 have aU:EF xs (n / 6%(xs.length:Int))=some v:=by
  have e:n / 6%(xs.length:Int)=(((n / 6%(xs.length:Int)).toNat:Nat):Int):=by omega
  rw[e]
  exact Af hv
 refine⟨(by show (0:Int)<6;decide),rfl,?_⟩
 refine B9 (fun c=>?_) (fun c=>?_)
 ·have c':n%6=0:=by
   have c2:=of_decide_eq_true c
   injection c2
  refine⟨⟨by decide,by decide⟩,.inl (SqL.of bC),(by show (0:Int)<((xs.length:Nat):Int);omega),SqL.of bC,aU,?_⟩
  exact q v t H (Same.refl _) ha hok (by omega) (fun z=>by omega)
 refine⟨(by show (0:Int)<6;decide),rfl,?_⟩
 refine B9 (fun c=>?_) (fun c=>?_)
 ·have c':n%6=1:=by
   have c2:=of_decide_eq_true c
   injection c2
  refine⟨⟨by decide,by decide⟩,.inl (SqL.of bC),(by show (0:Int)<((xs.length:Nat):Int);omega),SqL.of bC,aU,BT,fun p hp0=>?_⟩
  have s2:=Ab hp0 (.tup [.str "not",v])
  exact q (.ref p) (.nt t) _ s2 ⟨p,v,rfl,upd_same,ha.keep (TS.same s2)⟩ hok (by show t.size+1<=21;omega) (fun z=>by omega)
 ·refine⟨⟨by decide,by decide⟩,n / 6,6,many,rfl,by omega,by decide,by decide,bG,bB,fun v t H' s' ha' hok' hsz'=>?_⟩
  exact q v t H' s' ha' hok' (by omega) (fun _=>by omega)
end
theorem JI:bootBuiltins "min"=some (.builtin "min"):=by decide +kernel
theorem QG:D1 X (binaryOp .FloorDiv) (rI (fun _ j=>0<j/\j.natAbs.log2<9000) fun i j=>.int (i / j)):=VQ fun i j _ _ _ _ _ hc q=>by
 have h1:(0:Int)<j:=hc.1
 exact floordiv_int (by omega) (by rw[zCI i (by omega)];exact q) (.inl (PyProof.noPylong_of_log2 hc.2))
inductive HK(K:PySem.W.Frag)(vs:List V)(H:Hp)(Q:VK)(E:XK):Prop where
 | mk (a rm:Addr) (ns room:List Int) (k:Int) (_:vs=[.ref a,.int k,.ref rm]) (_:SqL K H a (ns.map V.int)) (_:ns.length<=63) (_:0<=k) (_:k<=1000) (_:SqL K H rm (room.map V.int)) (_:room.length<=900) (_:room≠[]) (_:∀(l:Addr)(seen:List Int)(H':Hp),Same H H'->H l=none->Ay H' l seen->seen.Sublist room->seen≠[]->Q (.ref l) H'):HK K vs H Q E
inductive MH(K:PySem.W.Frag)(vs:List V)(H:Hp)(Q:VK)(E:XK):Prop where
 | mk (a:Addr) (ns:List Int) (st n:Int) (_:vs=[.ref a,.int st,.int n]) (_:SqL K H a (ns.map V.int)) (_:ns.length<=63) (_:0<=st) (_:st<=100) (_:∀(m:Int),0<=m->m<=200->Q (.int m) H):MH K vs H Q E
abbrev AskedAt(H:Hp)(many:Nat):List V->List Tr->Prop:=Paired fun(v:V)(t:Tr)=>t.At H v/\t.ok many/\t.size<=21
theorem AskedAt.keep{H H':Hp}{many:Nat}(s:TS H H'):∀{xs:List V}{ts:List Tr},AskedAt H many xs ts->AskedAt H' many xs ts
 | _,_,.nil=>.nil
 | _,_,.cons ⟨h,o,z⟩ q=>.cons ⟨h.keep s,o,z⟩ (AskedAt.keep s q)
theorem AskedAt.snoc{H:Hp}{many:Nat}{v:V}{t:Tr}(h:t.At H v/\t.ok many/\t.size<=21):∀{xs:List V}{ts:List Tr},AskedAt H many xs ts->AskedAt H many (xs++[v]) (ts++[t])
 | _,_,.nil=>.cons h .nil
 | _,_,.cons x q=>.cons x (AskedAt.snoc h q)
theorem FreshAt.snoc{H:Hp}{many:Nat}{v:V}{t:Tr}(h:t.At H v/\t.ok many/\t.size<=20):∀{xs:List V}{ts:List Tr},FreshAt H many xs ts->FreshAt H many (xs++[v]) (ts++[t])
 | _,_,.nil=>.cons h .nil
 | _,_,.cons x q=>.cons x (FreshAt.snoc h q)
theorem AskedAt.get{H:Hp}{many:Nat}:∀{xs:List V}{ts:List Tr}{i:Nat}{v:V},AskedAt H many xs ts->xs[i]? = some v->∃t:Tr,Cc (t.At H v) (t.ok many) (t.size<=21)
 | _,_,0,v,.cons h _,e=>by cases e;exact⟨_,h.1,h.2.1,h.2.2⟩
 | _,_,i+1,v,.cons _ q,e=>AskedAt.get (i:=i) q e
inductive Np(K:PySem.W.Frag)(vs:List V)(H:Hp)(Q:VK)(E:XK):Prop where
 | mk (a:Addr) (ns:List Int) (st:Int) (many:Nat) (v:V) (t:Tr) (_:vs=[.ref a,.int st,.int many,v]) (_:SqL K H a (ns.map V.int)) (_:ns.length<=63) (_:0<=st) (_:st<=100) (_:1<=many) (_:many<=5) (_:t.At H v) (_:t.ok many) (_:t.size<=20) (_:∀(l:Addr)(xs:List V)(ts:List Tr)(H':Hp),Same H H'->H l=none->H' l=some (.lst xs)->AskedAt H' many xs ts->xs.length<=200->Q (.ref l) H'):Np K vs H Q E
section
inductive Mw(K:PySem.W.Frag)(vs:List V)(H:Hp)(Q:VK)(E:XK):Prop where
 | mk (a:Addr) (ns:List Int) (_:vs=[.ref a]) (_:SqL K H a (ns.map V.int)) (_:ns.length<=63) (_:∀(z:Str)(H':Hp),Same H H'->Cz z->Q (.str z) H'):Mw K vs H Q E
def Tq:=As Sk ["_law_script"] 1
theorem PP(aa:Ev P w K mg aA aN cK cT cS cB cN cO):Fc P w K mg "_law_rule" Bh 2 (Mw K):=by
 refine aa.h12.ok Tq ?_
 rintro bz f ak A outer s H _ Q E hr ⟨a,ns,rfl,hS,h63,q⟩
 refine⟨_,AK (AN AD (Ar (Av Ae Ae)) (Ak AL (Ak AT (Am (DU (BN aa)) hr Ai (Av (pv 0) Ad)) Ad) Ad)),?_⟩
 refine⟨BT,fun l hl=>?_⟩
 have s1:=Ab hl (.lst [.str "elder",.str "newer"])
 refine⟨a,ns,3,rfl,s1.seq hS,h63,by decide,by decide,fun n H2 hn s2=>?_⟩
 have e0:=zAV (n / 3) (show (2:Int)≠0 by decide)
 have e1:=zAY (n / 3) (show (0:Int)<2 by decide)
 have l2:=s2 _ _ (show upd H l (.lst [.str "elder",.str "newer"]) l=_ from upd_same)
 have two:n / 3%2=((0:Nat):Int)\/n / 3%2=((1:Nat):Int):=by omega
 have aU:∃z,Cz z/\EF [V.str "elder",V.str "newer"] (n / 3%2)=some (.str z):=by
  rcases two with e | e<;>rw[e]
  ·exact⟨_,.inl rfl,Af (j:=0) rfl⟩
  ·exact⟨_,.inr rfl,Af (j:=1) rfl⟩
 obtain⟨z,hz,aU⟩:=aU
 exact⟨⟨by decide,by decide⟩,(by show (0:Int)<2;decide),SqL.of l2,aU,q z _ (s1.trans s2) hz⟩
def scLseenat:=As JX ["_law_script","_law_k","_law_room_here","_law_n"] 3
theorem Ln(aa:Ev P w K mg aA aN cK cT cS cB cN cO):Fc P w K mg "_law_seen_at" Bh 4 (HK K):=by
 refine aa.h17.ok scLseenat ?_
 rintro bz f ak A outer s H _ Q E hr ⟨a,rm,ns,room,k,rfl,hS,h63,hk0,hk1,hR,hl,aE,q⟩
 refine⟨_,Aa (Az 3 scLseenat.nd (Am (DU (BN aa)) hr Ai (Av (pv 0) Ad)))
  (Aa (An (AH AI (Ak AL (pv 3) Ad) Ad)
   (AK (Am (JW aa) hr Ai (Av (Ak AT (pv 3) Ad) (pv 2))))
   Ag)
  (AK (Am (JW aa) hr Ai (Av (Ak QG (Am (DU (BN aa)) hr Ai (Av (pv 0) (pv 1))) (Ak PR Ad Ad)) (pv 2))))),?_⟩
 refine⟨a,ns,4,rfl,hS,h63,by decide,by decide,fun n H2 hn s2=>?_⟩
 refine⟨(by show (0:Int)<2;decide),rfl,?_⟩
 refine B9 (fun c=>?_) (fun c=>?_)
 ·refine⟨⟨by decide,by decide⟩,n / 2,rm,room,rfl,s2.seq hR,hl,aE,fun l seen H3 s3 aY hl3 aw fz=>?_⟩
  exact q l seen _ (s2.trans s3) (s2.free aY) hl3 aw fz
 ·refine⟨a,ns,k,rfl,s2.seq hS,h63,hk0,hk1,fun n2 H3 dQ s3=>?_⟩
  refine⟨⟨by decide,by decide,by decide⟩,⟨by decide,by decide +kernel⟩,_,rm,room,rfl,(s2.trans s3).seq hR,hl,aE,fun l seen H4 s4 aY fV aw hn4=>?_⟩
  exact q l seen _ (s2.trans (s3.trans s4)) ((s2.trans s3).free aY) fV aw hn4
def S1:=As RZ ["_law_script","_law_start_here","_law_n"] 3
theorem RG(aa:Ev P w K mg aA aN cK cT cS cB cN cO):Fc P w K mg "_law_last" Bh 1 (MH K):=by
 refine aa.h13.ok S1 ?_
 rintro bz f ak A outer s H _ Q E hr ⟨a,ns,st,n,rfl,hS,h63,h0,h1,q⟩
 refine⟨_,Aa (An (AH FJ (Ao Aq (by rfl) aa.B.len zAO (AR (pv 0))) (pv 1))
   (AK (Ao Aq (by rfl) aa.B.len zAO (AR (pv 0))))
   Ag)
  (AK (Ak BB (pv 1) (Ak AL (pv 2) Ad))),?_⟩
 have hl:(ns.map V.int).length=ns.length:=List.length_map _
 refine⟨.inl hS,?_⟩
 refine B9 (fun c=>?_) (fun c=>?_)
 ·exact⟨.inl hS,q _ (by omega) (by rw[hl];omega)⟩
 ·have e0:=zAV n (show (6:Int)≠0 by decide)
  have e1:=zAY n (show (0:Int)<6 by decide)
  exact⟨(by show (0:Int)<6;decide),q _ (by omega) (by omega)⟩
def scLasks:=As P9 ["_law_script","_law_start_here","_law_many","_law_first","_law_fresh","_law_found","_law_last_here","_law_k","_law_sentence_here"] 4
theorem QA(aa:Ev P w K mg aA aN cK cT cS cB cN cO):Fc P w K mg "_law_asks" Bh 3 (Np K):=by
 refine aa.h15.ok scLasks ?_
 rintro bz f ak A outer s H _ Q E hr ⟨a,ns,st,many,v,t,rfl,hS,h63,h0,h1,bG,bB,ha,hok,ay,q⟩
 refine⟨_,Aa (Az 4 scLasks.nd (Ar (AR (pv 3))))
  (Aa (Az 5 scLasks.nd (Ar Bk))
  (Aa (Az 6 scLasks.nd (Am (RG aa) hr Ai (Ac (pv 0) (Av (pv 1) (Ak AT (Am (BN aa) hr Ai (Av (pv 0) Ad)) Ad)))))
  (Aa (An (AH FJ (pv 2) Ad)
   (Aj (Az 6 scLasks.nd (Ao (Ii rfl) (by rfl) aa.zmin JI (Av (pv 6) (Ak BB (pv 1) (AN AD (Ar (Av Ad Ad)) (Ak Jk (pv 2) Ad)))))))
   Ag)
  (Aa (A7 zAR rfl (Il (by rfl) aa.B.range (Av (pv 1) (pv 6))) (AV 7 scLasks.nd)
   (Aa (Az 8 scLasks.nd (Am (Oe aa) hr Ai (Ac (Am (BN aa) hr Ai (Av (pv 0) (pv 7))) (Av (pv 4) (pv 2)))))
   (Aa (An (AH FJ (Ak AL (Am (BN aa) hr Ai (Av (pv 0) (pv 7))) Ad) Ad)
    (Aj (AC (BA (pv 4) (AR (pv 8)))))
    Ag)
   (Aj (AC (BA (pv 5) (AR (pv 8))))))))
  (AK (pv 5)))))),?_⟩
 refine⟨Gc,fun fr bC=>?_⟩
 have s1:=Ab bC (.lst [v])
 have fr1:upd H fr (.lst [v]) fr=some (.lst [v]):=upd_same
 generalize upd H fr _=H1 at *
 refine⟨IF,fun fo hfo=>?_⟩
 have s2:=Ab hfo (.lst [])
 have fo2:upd H1 fo (.lst []) fo=some (.lst []):=upd_same
 generalize upd H1 fo _=H2 at *
 have nff:fr≠fo:=Ah fr1 hfo
 have t2:=s1.trans s2
 have fo0:H fo=none:=s1.free hfo
 refine⟨a,ns,0,rfl,t2.seq hS,h63,by decide,by decide,fun H3 hn0 s3=>?_⟩
 refine⟨⟨by decide,by decide⟩,a,ns,st,_,rfl,(t2.trans s3).seq hS,h63,h0,h1,fun m fQ aS=>?_⟩
 have t3:=t2.trans s3
 have fr3:=s3 _ _ (s2 _ _ fr1)
 have fo3:=s3 _ _ fo2
 refine RT (fun σ H4=>∃last:Int,Hw (0<=last) (last<=200) (σ=[some (.ref a),some (.int st),some (.int (many:Int)),some v,some (.ref fr),some (.ref fo),some (.int last),none,none]) (Same H3 H4)) ?_ ?_
 ·rintro σ H4 ⟨last,aY,aF,rfl,s4⟩
  have t4:=t3.trans s4
  refine⟨_,_,rfl,⟨by omega,by omega,by omega,by omega⟩,BU (lo:=st) (n:=(last-st).toNat) (fun i σ H5=>Xt fun(v0 v1:Option V)(fs xs:List V)(iz ts:List Tr)=>Xu (σ=[some (.ref a),some (.int st),some (.int (many:Int)),some v,some (.ref fr),some (.ref fo),some (.int last),v0,v1]) (Same H H5) (H5 fr=some (.lst fs)) (FreshAt H5 many fs iz) (fs≠[]) (fs.length<=1+i) (H5 fo=some (.lst xs)) (AskedAt H5 many xs ts) (xs.length=i)) ?_ ?_ ?_⟩
  ·exact⟨_,_,[v],[],[t],[],rfl,t4,s4 _ _ fr3,.cons ⟨ha.keep (TS.same t4),hok,ay⟩ .nil,by simp,by simp,s4 _ _ fo3,.nil,rfl⟩
  ·rintro i σ H5 hi ⟨v0,v1,fs,xs,iz,ts,rfl,s5,fr5,F5,ne5,l5,fo5,A5,x5⟩
   have eH:i<200:=by omega
   have hk1:st+(i:Int)<=1000:=by omega
   refine⟨a,ns,_,rfl,s5.seq hS,h63,by omega,hk1,fun H6 f8 s6=>?_⟩
   refine⟨_,fr,many,fs,iz,rfl,f8,bG,bB,s6 _ _ fr5,F5.keep (TS.same s6),ne5,by omega,fun v2 t2' H7 s7 ha7 hok7 hsz7 hlt7=>?_⟩
   have u7:=s6.trans s7
   refine RT (fun σ H9=>BF fun(fs:List V)(iz:List Tr)=>Xu (σ=[some (.ref a),some (.int st),some (.int (many:Int)),some v,some (.ref fr),some (.ref fo),some (.int last),some (.int (st+(i:Int))),some v2]) (Same H H9) (H9 fr=some (.lst fs)) (FreshAt H9 many fs iz) (fs≠[]) (fs.length<=1+(i+1)) (H9 fo=some (.lst xs)) (AskedAt H9 many xs ts) (t2'.At H9 v2)) ?_ ?_
   ·rintro σ H9 ⟨fs9,fts9,rfl,s9,fr9,F9,ne9,l9,fo9,A9,ha9⟩
    refine⟨.inl ⟨rfl,_,SqL.of fo9⟩,fo9,Ap (by omega),?_⟩
    have iA:TS H9 (upd H9 fo (.lst (xs++[v2]))):=TS.lst fo9
    exact⟨_,_,fs9,xs++[v2],fts9,ts++[t2'],rfl,AA s9 fo0 _,by rw[Al nff];exact fr9,F9.keep iA,ne9,l9,upd_same,(A9.keep iA).snoc ⟨ha9.keep iA,hok7,hsz7⟩,by rw[zA,x5];rfl⟩
   ·intro next
    refine⟨a,ns,_,rfl,(s5.trans u7).seq hS,h63,by omega,hk1,fun H8 hn8 s8=>?_⟩
    refine⟨(by show (0:Int)<6;decide),?_⟩
    have u8:=u7.trans s8
    have fr8:=u8 _ _ fr5
    have fo8:=u8 _ _ fo5
    refine B9 (fun c=>?_) (fun c=>?_)
    ·have c':1<KY ns (st+(i:Int))%6:=of_decide_eq_true c
     refine⟨.inl ⟨rfl,_,SqL.of fr8⟩,fr8,Ap (by omega),?_⟩
     have iA:TS H8 (upd H8 fr (.lst (fs++[v2]))):=TS.lst fr8
     refine next _ _ ⟨fs++[v2],iz++[t2'],rfl,AA (s5.trans u8) bC _,upd_same,FreshAt.snoc ⟨(ha7.keep (TS.same s8)).keep iA,hok7,hlt7 c'⟩ ((F5.keep (TS.same u8)).keep iA),by simp,by rw[zA];show fs.length+1<=_;omega,by rw[Al nff.symm];exact fo8,(A5.keep (TS.same u8)).keep iA,(ha7.keep (TS.same s8)).keep iA⟩
    ·exact next _ _ ⟨fs,iz,rfl,s5.trans u8,fr8,F5.keep (TS.same u8),ne5,by omega,fo8,A5.keep (TS.same u8),ha7.keep (TS.same s8)⟩
  ·rintro σ H5 ⟨v0,v1,fs,xs,iz,ts,rfl,s5,fr5,F5,ne5,l5,fo5,A5,x5⟩
   exact q fo xs ts H5 s5 fo0 fo5 A5 (by omega)
 ·intro next
  refine ?_
  refine B9 (fun c=>?_) (fun c=>?_)
  ·have c':3<(many:Int):=of_decide_eq_true c
   have two:(many:Int)-4=((0:Nat):Int)\/(many:Int)-4=((1:Nat):Int):=by omega
   have aU:∃y:Int,Cc (0<=y) (y<=24) (EF [V.int 24,V.int 16] ((many:Int)-4)=some (.int y)):=by
    rcases two with e | e<;>rw[e]
    ·exact⟨24,by decide,by decide,Af (j:=0) rfl⟩
    ·exact⟨16,by decide,by decide,Af (j:=1) rfl⟩
   obtain⟨y,hy0,iq,aU⟩:=aU
   refine⟨BT,fun L hL=>⟨SqL.of upd_same,aU,_,_,rfl,?_⟩⟩
   refine next _ _ ⟨_,?_,?_,rfl,Ab hL _⟩
   ·split<;>omega
   ·split<;>omega
  ·exact next _ _ ⟨m,fQ,aS,rfl,Same.refl _⟩
end
@[reducible]
def tw(many:Nat)(z rule:Str)(t:Tr)(room:List Int)(es:List (V×Tr×Str))(bas:List Int)(ls:List (List Int)):Ta:=⟨many,z,rule,t,room,es,bas::ls,false⟩
theorem LA{many:Nat}{z rule:Str}{room:List Int}{es:List (V×Tr×Str)}{bas:List Int}{ls:List (List Int)}{w:Str}:
  Rm (tw many z rule t room es bas ls) v u w=tw many z rule t room (es++[(v,u,w)]) bas (ls++[BZ w (tw many z rule t room es bas ls).held (AQ true u room)]):=rfl
theorem U8{z rule:Str}{seen:List Int}(hg:(tw many z rule t room es bas ls).going.Sublist room)(hs:seen.Sublist room):
  Gp (tw many z rule t room es bas ls) seen u=PF (Au z t room) (tw many z rule t room es bas ls).going seen u:=by
 show (if false=true then _ else Bw (Au z t room) (tw many z rule t room es bas ls).going seen (AQ true u room))=_
 rw[if_neg zAB,P8 hg hs]
theorem LW(W:Ta)(v:V)(t:Tr)(z:Str):(Rm W v t z).held=BZ z W.held (AQ true t W.room):=by
 show (W.lefts++[BZ z W.held (AQ true t W.room)]).getLastD []=_
 simp
theorem TalkAt.held_sub(h:TalkAt M C H a U W):W.held.Sublist W.room:=h.wl _ h.held_in
theorem TalkAt.base_sub(h:TalkAt M C H a U W):W.base.Sublist W.room:=h.wl _ h.base_in
theorem TalkAt.going_sub(h:TalkAt M C H a U W):W.going.Sublist W.room:=by
 unfold Ta.going
 split
 ·exact h.held_sub
 ·exact h.base_sub
theorem Ej{t:Tr}{H:Hp}{v:V}(h:t.At H v):t.At (Bb [] H) v:=h.keep fun p xs e=>A4 e (by simp)
def Full(M:List Addr)(H:Hp):Prop:=∀m∈M,H m≠none
theorem Full.keep(s:Same H H')(h:Full M H):Full M H':=fun m hm z=>h m hm (s.free z)
theorem Full.no(h:Full M H)(hl:H l=none):l∉M:=fun z=>h l z hl
def IU(w:Str):Prop:=w="grant"\/w="deny"\/w="doubt"
theorem LH(l:List (List Int))(g:List Int):(l++[g]).getLastD []=g:=by simp
theorem Nm:k∈AQ b t g↔k∈g/\tv t k=b:=by
 unfold AQ
 rw[List.mem_filter]
 exact⟨fun h=>⟨h.1,eq_of_beq h.2⟩,fun h=>⟨h.1,by rw[h.2];cases b<;>rfl⟩⟩
inductive GG(n:Nat)(vs:List V)(H:Hp)(Q:VK)(E:XK):Prop where
 | mk (u v:V) (t:Tr) (_:vs=[u,v]) (_:t.At H u) (_:t.At H v) (_:t.size<=n) (_:Q (.bl true) H):GG n vs H Q E
section
def scTree:=As Mv ["_law_found","_law_due","_law_k"] 2
theorem Tl(F:FT P w K mg "_law_tree_is" Mv)(G:Fc P w K mg "_law_tree_is" Bh (n+1) (GG n))(GW:Fc P w K mg "_law_whole" Bh 1 I8)(T:XX mg)(B:Bl mg):Fc P w K mg "_law_tree_is" Bh (n+2) (GG (n+1)):=by
 refine F.ok scTree ?_
 rintro bz f ak A outer s H _ Q E hr ⟨u,v,t,rfl,hu,hv,hs,q⟩
 have a8:Room 1 _:=hr.mono (Nat.le_add_left 1 n)
 refine⟨_,Aa (An (GQ (B3 (A6 (Ao Bt (by rfl) T.isi boot_isinstance (Av (pv 0) (Co (v:=.ty "tuple") (by rfl) T.tup Jx rfl))))) (Eg (AH Cl (Ao Aq (by rfl) B.len zAO (AR (pv 0))) (Ao Aq (by rfl) B.len zAO (AR (pv 1)))))).pt (AK BQ) Ag)
  (Aa (An (GQ (B3 (A6 (Ao Bt (by rfl) T.isi boot_isinstance (Av (AN AU (pv 0) Ad) (Co (v:=.ty "str") (by rfl) T.str boot_str rfl))))) (Eg (AH Cl (AN AU (pv 0) Ad) (AN AU (pv 1) Ad)))).pt (AK BQ) Ag)
  (Aa (An (AH AI (AN AU (pv 1) Ad) Ae) (AK (Ec (Am GW a8 Ai (AR (AN AU (pv 0) Ad))) (B5 (BW AI (AN AU (pv 0) Ad) (AN AU (pv 1) Ad) (Cf _))))) Ag)
  (Aa (A7 zAR rfl (Il (by rfl) B.range (Av Ad (Ao Aq (by rfl) B.len zAO (AR (pv 1))))) (AV 2 scTree.nd)
   (Aj (An (B3 (A6 (Am G hr Ai (Av (AN AU (pv 0) (pv 2)) (AN AU (pv 1) (pv 2)))))) (AK BQ) Ag)))
  (AK BQ)))),?_⟩
 have two:Wd fun p p' x xs ys=>TB (u= .ref p) (v= .ref p') (H p=some (.tup (.str x::xs))) (H p'=some (.tup (.str x::ys))) (xs.length=ys.length) (ys.length<=2):=by
  cases t with
  | lt k=>
   obtain⟨p,rfl,hp⟩:=hu
   obtain⟨p',rfl,hp'⟩:=hv
   exact⟨p,p',_,_,_,rfl,rfl,hp,hp',rfl,by show 1<=2;decide⟩
  | nt t=>
   obtain⟨p,y,rfl,hp,_⟩:=hu
   obtain⟨p',y',rfl,hp',_⟩:=hv
   exact⟨p,p',_,_,_,rfl,rfl,hp,hp',rfl,by show 1<=2;decide⟩
  | bn j a b=>
   obtain⟨p,y,z,rfl,hp,_⟩:=hu
   obtain⟨p',y',z',rfl,hp',_⟩:=hv
   exact⟨p,p',_,_,_,rfl,rfl,hp,hp',rfl,zAA _⟩
 obtain⟨p,p',x,xs,ys,rfl,rfl,hp,hp',hl,aF⟩:=two
 refine⟨_,_,_,_,rfl,.tup hp,CH _ _,?_⟩
 refine AY ?_
 refine⟨.inr (SqT.of hp),.inr (SqT.of hp'),rfl,?_⟩
 refine DZ (by show V.int ((xs.length+1:Nat):Int)=V.int ((ys.length+1:Nat):Int);rw[hl]) ?_
 refine⟨SqT.of hp,Af (j:=0) rfl,_,_,_,_,rfl,.str _,CH _ _,?_⟩
 refine AY ?_
 refine⟨SqT.of hp,Af (j:=0) rfl,SqT.of hp',Af (j:=0) rfl,rfl,?_⟩
 refine DZ rfl ?_
 refine⟨SqT.of hp',Af (j:=0) rfl,rfl,?_⟩
 cases t with
 | lt k=>
  obtain⟨_,e,h1⟩:=hu
  cases e
  obtain⟨_,e,h2⟩:=hv
  cases e
  rw[hp] at h1
  rw[hp'] at h2
  injection h1 with h1
  injection h1 with h1
  injection h2 with h2
  injection h2 with h2
  injection h1 with e1 e2
  injection h2 with e3 e4
  subst e2 e4
  refine Bc e1 ?_
  refine⟨SqT.of hp,Af (j:=1) rfl,_,rfl,?_⟩
  refine A8 ?_
  refine⟨SqT.of hp,Af (j:=1) rfl,SqT.of hp',Af (j:=1) rfl,rfl,?_⟩
  have e:decide (V.int (k:Int)=V.int (k:Int))=true:=decide_eq_true rfl
  rw[e]
  exact q
 | nt t=>
  obtain⟨_,y,e,h1,hy⟩:=hu
  cases e
  obtain⟨_,y',e,h2,eZ⟩:=hv
  cases e
  rw[hp] at h1
  rw[hp'] at h2
  injection h1 with h1
  injection h1 with h1
  injection h2 with h2
  injection h2 with h2
  injection h1 with e1 e2
  injection h2 with e3 e4
  subst e2 e4
  have hs':t.size+1<=n+1:=hs
  refine Ba (by rw[e1];decide) ?_
  refine⟨.inr (SqT.of hp'),1,_,rfl,⟨by decide,by decide,(show -(2^62)<=((2:Nat):Int) by decide),(show ((2:Nat):Int)<2^62 by decide)⟩,BU (lo:=1) (n:=1) (fun i σ H2=>∃kv,σ=[some (.ref p),some (.ref p'),kv]/\H2=H) ⟨_,rfl,rfl⟩ ?_ ?_⟩
  ·rintro i σ H2 hi ⟨kv,rfl,rfl⟩
   have e0:i=0:=by omega
   subst e0
   refine⟨SqT.of hp,Af (j:=1) rfl,SqT.of hp',Af (j:=1) rfl,y,y',t,rfl,hy,eZ,by omega,?_⟩
   refine AY ?_
   exact⟨_,rfl,rfl⟩
  ·rintro σ H2 ⟨kv,rfl,rfl⟩
   exact q
 | bn j a b=>
  obtain⟨_,y,z,e,h1,hy,hz⟩:=hu
  cases e
  obtain⟨_,y',z',e,h2,eZ,hz'⟩:=hv
  cases e
  rw[hp] at h1
  rw[hp'] at h2
  injection h1 with h1
  injection h1 with h1
  injection h2 with h2
  injection h2 with h2
  injection h1 with e1 e2
  injection h2 with e3 e4
  subst e2 e4
  have hs':a.size+b.size+1<=n+1:=hs
  have ha0:=a.size_pos
  have hb0:=b.size_pos
  refine Ba (by rw[e1];exact GF) ?_
  refine⟨.inr (SqT.of hp'),1,_,rfl,⟨by decide,by decide,(show -(2^62)<=((3:Nat):Int) by decide),(show ((3:Nat):Int)<2^62 by decide)⟩,BU (lo:=1) (n:=2) (fun i σ H2=>∃kv,σ=[some (.ref p),some (.ref p'),kv]/\H2=H) ⟨_,rfl,rfl⟩ ?_ ?_⟩
  ·rintro i σ H2 hi ⟨kv,rfl,rfl⟩
   match i,hi with
   | 0,_=>
    refine⟨SqT.of hp,Af (j:=1) rfl,SqT.of hp',Af (j:=1) rfl,y,y',a,rfl,hy,eZ,by omega,?_⟩
    refine AY ?_
    exact⟨_,rfl,rfl⟩
   | 1,_=>
    refine⟨SqT.of hp,Af (j:=2) rfl,SqT.of hp',Af (j:=2) rfl,z,z',b,rfl,hz,hz',by omega,?_⟩
    refine AY ?_
    exact⟨_,rfl,rfl⟩
  ·rintro σ H2 ⟨kv,rfl,rfl⟩
   exact q
theorem W0(F:FT P w K mg "_law_tree_is" Mv):Fc P w K mg "_law_tree_is" Bh 1 (GG 0):=F.no ["_law_found","_law_due"] (fun vs H Q E h=>by
  obtain⟨u,v,t,_,_,_,h1,_⟩:=h
  have:=t.size_pos
  omega)
theorem La(aa:Ev P w K mg aA aN cK cT cS cB cN cO):∀n:Nat,Fc P w K mg "_law_tree_is" Bh (n+1) (GG n)
 | 0=>W0 aa.h81
 | n+1=>Tl aa.h81 (La aa n) (QU aa) aa.T aa.B
end
inductive MC(vs:List V)(H:Hp)(Q:VK)(E:XK):Prop where
 | mk (x y:V) (t:Tr) (z:Str) (_:vs=[x,y]) (_:PairAt H x t z) (_:PairAt H y t z) (_:t.size<=23) (_:Q (.bl true) H):MC  vs H Q E
inductive Js(K:PySem.W.Frag)(vs:List V)(H:Hp)(Q:VK)(E:XK):Prop where
 | mk (a b:Addr) (xs ys:List V) (es:List (Tr×Str)) (_:vs=[.ref a,.ref b]) (_:H a=some (.lst xs)) (_:PairsAt H xs es) (_:H b=some (.lst ys)) (_:PairsAt H ys es) (_:(∀e∈es,e.1.size<=23)) (_:es.length<=900) (_:Q (.bl true) H):Js K vs H Q E
section
def Ts:=As Rq ["_law_found","_law_due"] 2
theorem P1(aa:Ev P w K mg aA aN cK cT cS cB cN cO):Fc P w K mg "_law_pair_is" Bh 25 MC:=by
 refine aa.h83.ok Ts ?_
 rintro bz f ak A outer s H _ Q E hr ⟨x,y,t,z,rfl,⟨p,v,rfl,hp,ha⟩,⟨p2,v2,rfl,bd,aH⟩,ay,q⟩
 refine⟨_,Aa (An (GQ (B3 (A6 (Ao Bt (by rfl) aa.T.isi boot_isinstance (Av (pv 0) (Co (v:=.ty "tuple") (by rfl) aa.T.tup Jx rfl))))) (Eg (AH Cl (Ao Aq (by rfl) aa.B.len zAO (AR (pv 0))) Ad))).pt
   (AK BQ)
   Ag)
  (AK (Ec (Am (La aa 23) hr Ai (Av (AN AU (pv 0) Ad) (AN AU (pv 1) Ad))) (B5 (Am (Ps aa) hr Ai (Av (AN AU (pv 0) Ad) (AN AU (pv 1) Ad)))))),?_⟩
 refine⟨_,_,_,_,rfl,.tup hp,CH _ _,?_⟩
 refine AY ?_
 refine⟨.inr (SqT.of hp),rfl,?_⟩
 refine DZ rfl ?_
 refine⟨SqT.of hp,Af (j:=0) rfl,SqT.of bd,Af (j:=0) rfl,v,v2,t,rfl,ha,aH,ay,?_⟩
 refine A8 ?_
 exact⟨SqT.of hp,Af (j:=1) rfl,SqT.of bd,Af (j:=1) rfl,z,rfl,q⟩
def scLpairs:=As M3 ["_law_found","_law_due","_law_k"] 2
theorem O5(aa:Ev P w K mg aA aN cK cT cS cB cN cO):Fc P w K mg "_law_pairs_are" Bh 26 (Js K):=by
 refine aa.h84.ok scLpairs ?_
 rintro bz f ak A outer s H _ Q E hr ⟨a,b,xs,ys,es,rfl,ha,hX,hb,hY,ay,hln,q⟩
 have lx:=hX.len
 have ly:=hY.len
 refine⟨_,Aa (An (GQ (B3 (A6 (Ao Bt (by rfl) aa.T.isi boot_isinstance (Av (pv 0) (Co (v:=.ty "list") (by rfl) aa.T.lst Bm rfl))))) (Eg (AH Cl (Ao Aq (by rfl) aa.B.len zAO (AR (pv 0))) (Ao Aq (by rfl) aa.B.len zAO (AR (pv 1)))))).pt
   (AK BQ)
   Ag)
  (Aa (A7 zAR rfl (DR (by rfl) aa.B.range (AR (Ao Aq (by rfl) aa.B.len zAO (AR (pv 1))))) (AV 2 scLpairs.nd)
   (Aj (An (B3 (A6 (Am (P1 aa) hr Ai (Av (AN AD (pv 0) (pv 2)) (AN AD (pv 1) (pv 2))))))
    (AK BQ)
    Ag)))
  (AK BQ)),?_⟩
 refine⟨_,_,_,_,rfl,.lst ha,CH _ _,?_⟩
 refine AY ?_
 refine⟨.inl (SqL.of ha),.inl (SqL.of hb),rfl,?_⟩
 refine DZ (by rw[lx,ly]) ?_
 refine⟨.inl (SqL.of hb),(by show -(2^62)<=((ys.length:Nat):Int);omega),(by show ((ys.length:Nat):Int)<2^62;omega),BU (fun i σ H2=>∃kv,σ=[some (.ref a),some (.ref b),kv]/\H2=H) ⟨_,rfl,rfl⟩ ?_ ?_⟩
 ·rintro i σ H2 hi ⟨kv,rfl,rfl⟩
  have eH:i<es.length:=by
   have h0:i<((ys.length:Nat):Int).toNat:=hi
   omega
  rw[Int.zero_add]
  obtain⟨x,hx,px⟩:=hX.get (List.getElem?_eq_getElem eH)
  obtain⟨y,hy,py⟩:=hY.get (List.getElem?_eq_getElem eH)
  refine⟨SqL.of ha,Af hx,SqL.of hb,Af hy,x,y,_,_,rfl,px,py,ay _ (zA8 eH),?_⟩
  exact AY ⟨_,rfl,rfl⟩
 ·rintro σ H2 ⟨kv,rfl,rfl⟩
  exact q
end
def Bj(room:List Int)(es:List (Tr×Str)):List (List Int):=es.map fun e=>CN e.2 room e.1
def BG(room:List Int)(rs:List (List Int)):List Int:=room.filter fun k=>rs.all fun r=>decide (k∈r)
theorem SK(room:List Int):BG room []=room:=by
 unfold BG
 rw[List.filter_eq_self]
 intro k _
 rfl
theorem mem_com:k∈BG room rs↔k∈room/\∀r∈rs,k∈r:=by
 unfold BG
 rw[List.mem_filter,zBN]
 exact⟨fun h=>⟨h.1,fun r hr=>by have:=h.2 r hr;simpa using this⟩,fun h=>⟨h.1,fun r hr=>decide_eq_true (h.2 r hr)⟩⟩
theorem EK(room:List Int)(rs:List (List Int)):(BG room rs).Sublist room:=zAK
theorem RB(room r:List Int)(rs:List (List Int)):Cr (BG room rs) r=BG room (r::rs):=by
 unfold Cr BG
 rw[List.filter_filter]
 refine zDC fun k _=>?_
 rw[zCU]
def Gf(room:List Int)(rows:List (List Int)):List (List Int):=((List.range (rows.length+1)).map fun j=>BG room (rows.drop (rows.length-j))).reverse
theorem HJ(hi:i<=rows.length):(Gf room rows)[i]? = some (BG room (rows.drop i)):=by
 unfold Gf
 have hl:((List.range (rows.length+1)).map fun j=>BG room (rows.drop (rows.length-j))).length=rows.length+1:=by rw[List.length_map,zBQ]
 rw[List.getElem?_reverse (by rw[hl];omega),hl,List.getElem?_map,List.getElem?_range (by omega)]
 show some (BG room (rows.drop (rows.length-(rows.length+1-1-i))))=_
 rw[show rows.length-(rows.length+1-1-i)=i by omega]
theorem rows_rev{H:Hp}:∀{xs:List V}{rs:List (List Int)},RowsAt H xs rs->RowsAt H xs.reverse rs.reverse
 | _,_,.nil=>.nil
 | _,_,.cons h q=>by
  rw[zB6,zB6]
  exact rows_add h (rows_rev q)
where
 rows_add {H:Hp} {v:V} {r:List Int} (h:∃p,v= .ref p/\Ay H p r):∀{xs:List V}{rs:List (List Int)},RowsAt H xs rs->RowsAt H (xs++[v]) (rs++[r])
 | _,_,.nil=>.cons h .nil
 | _,_,.cons x q=>.cons x (rows_add h q)
theorem ER{H H':Hp}{acc:Addr}:∀{xs:List V}{rs:List (List Int)},RowsAt H xs rs->(∀y∈xs,y≠.ref acc)->(∀p row,p≠acc->Ay H p row->Ay H' p row)->RowsAt H' xs rs
 | _,_,.nil,_,_=>.nil
 | _,_,.cons ⟨p,e,h⟩ q,ho,k=>.cons ⟨p,e,k p _ (fun z=>ho _ List.mem_cons_self (by rw[e,z])) h⟩ (ER q (fun y hy=>ho y (List.mem_cons_of_mem _ hy)) k)
theorem EL{H:Hp}:∀{xs:List V}{rs:List (List Int)}{i:Nat}{r:List Int},RowsAt H xs rs->rs[i]? = some r->∃p,xs[i]? = some (.ref p)/\Ay H p r
 | _,_,0,r,.cons ⟨a,e,h⟩ _,hi=>by cases hi;exact⟨a,by rw[e];rfl,h⟩
 | _,_,i+1,r,.cons _ q,hi=>EL (i:=i) q hi
inductive NR(K:PySem.W.Frag)(vs:List V)(H:Hp)(Q:VK)(E:XK):Prop where
 | mk (rm en:Addr) (room:List Int) (ps:List V) (es:List (Tr×Str)) (_:vs=[.ref rm,.ref en]) (_:SqL K H rm (room.map V.int)) (_:Wr room) (_:SqL K H en ps) (_:PairsAt H ps es) (_:(∀e∈es,e.1.ok 5/\e.1.size<=800)) (_:es.length<=900) (_:∀(l:Addr)(xs:List V)(H':Hp),Same H H'->H l=none->H' l=some (.lst xs)->RowsAt H' xs (Bj room es)->Q (.ref l) H'):NR K vs H Q E
inductive JT(K:PySem.W.Frag)(vs:List V)(H:Hp)(Q:VK)(E:XK):Prop where
 | mk (rl rm:Addr) (room:List Int) (xs:List V) (rows:List (List Int)) (_:vs=[.ref rl,.ref rm]) (_:Ay H rm room) (_:Wr room) (_:SqL K H rl xs) (_:RowsAt H xs rows) (_:(∀r∈rows,r.length<=900)) (_:rows.length<=900) (_:∀(l:Addr)(ys:List V)(H':Hp),Same H H'->H l=none->H' l=some (.lst ys)->RowsAt H' ys (Gf room rows)->Q (.ref l) H'):JT K vs H Q E
section
def TL:=As Ra ["room","row"] 2
theorem QY(aa:Ev P w K mg aA aN cK cT cS cB cN cO):Fc P w K mg "worlds_left" Bh 4 (NR K):=by
 refine aa.h67.ok TL ?_
 rintro bz f ak A outer s H _ Q E hr ⟨rm,en,room,ps,es,rfl,hR,wr,hP,hE,hok,aj,q⟩
 have aD:=hE.len
 refine⟨_,AK (BD (N:=["sentence","word","room"]) (js:=[none,none,some 0]) (cl:=[("room",s.heap.objs.size+1)]) ⟨rfl,rfl,rfl,(by intro p hp;simp at hp;rcases hp with rfl<;>rfl),rfl,rfl,rfl⟩ (AJ (pv 1)) (fun c1=>(BI rfl (AE (AV 0 (show (["sentence","word","room"]:List Str).Nodup by decide +kernel)) (AE (AV 1 (show (["sentence","word","room"]:List Str).Nodup by decide +kernel)) Br)))) (fun c1=>Bi) (fun c1=>(Am (CB aa) hr Ai (Ac (pv 1) (Av (pv 2) (Am (BE aa) hr Ai (Av (pv 0) (pv 2)))))))),?_⟩
 refine⟨⟨_,hP⟩,fun cc acc am=>?_⟩
 refine AG (K:=K) (a:=en) (xs:=ps) (fun i σ H2=>D0 fun v0 v1 ys=>Fs (σ=[v0,v1,some (.ref rm)]) (Same H H2) (H2 acc=some (.lst ys)) (∀y∈ys,y≠.ref acc) (RowsAt H2 ys ((Bj room es).take i))) ⟨none,none,[],rfl,Ab am _,upd_same,fun y hy=>by simp at hy,.nil⟩ ?_ ?_ ?_
 ·rintro i σ H2 _ ⟨v0,v1,ys,rfl,s2,_⟩
  exact s2.seq hP
 ·rintro i x σ H2 hx ⟨v0,v1,ys,rfl,s2,aH,ho,cr⟩
  have hi:i<es.length:=by
   have:=(List.getElem?_eq_some_iff.mp hx).1
   omega
  obtain⟨x',hx',hpx⟩:=hE.get (List.getElem?_eq_getElem hi)
  rw[hx] at hx'
  cases hx'
  obtain⟨p,v,rfl,hp,hv⟩:=hpx
  obtain⟨hok5,ay⟩:=hok _ (zA8 hi)
  refine⟨SqT.of (s2 _ _ hp),rfl,rfl,?_⟩
  refine A8 ⟨v,_,rm,room,rfl,hv.keep (TS.same s2),hok5,ay,s2.seq hR,wr,fun wl H3 s3 wl0 be=>?_⟩
  refine⟨_,rm,wl,room,_,rfl,(s2.trans s3).seq hR,wr,SqL.of be,zAC (zA0 _ _) (zAC wr.len (by decide)),fun l H4 s4 aY hl=>?_⟩
  have hl0':H2 l=none:=s3.free aY
  have nl:l≠acc:=(Ah aH hl0').symm
  have s24:=s3.trans s4
  have et:(Bj room es).take (i+1)=(Bj room es).take i++[CN es[i].2 room es[i].1]:=by
   unfold Bj
   rw[zAI,List.getElem?_map,List.getElem?_eq_getElem hi]
   rfl
  refine⟨ys,s24 _ _ aH,Ap (by rw[cr.len,zAM];omega),?_⟩
  refine⟨_,_,ys++[.ref l],rfl,AA (s2.trans s24) am _,upd_same,fun y hy=>?_,?_⟩
  ·rcases List.mem_append.mp hy with z | z
   ·exact ho y z
   ·rw[List.mem_singleton.mp z]
    exact fun q=>nl (V.ref.inj q)
  ·rw[et]
   refine rows_rev.rows_add ⟨l,rfl,?_⟩ (ER cr ho fun p' aI n' h'=>?_)
   ·show upd _ _ _ l=_
    rw[Al nl,<-EB (zA2 room)]
    exact hl
   ·show upd _ _ _ p'=_
    rw[Al n']
    exact s24 _ _ h'
 ·rintro σ H2 ⟨v0,v1,ys,rfl,s2,aH,ho,cr⟩
  rw[zBJ (by unfold Bj;rw[List.length_map];omega)] at cr
  exact q acc ys H2 s2 am aH cr
def scCommon:=As MM ["rows","room","commons","row"] 2
theorem Im(aa:Ev P w K mg aA aN cK cT cS cB cN cO):Fc P w K mg "common_behind" Bh 2 (JT K):=by
 refine aa.h68.ok scCommon ?_
 rintro bz f ak A outer s H _ Q E hr ⟨rl,rm,room,xs,rows,rfl,aW,wr,hX,hR,bZ,aj,q⟩
 have fY:=hR.len
 refine⟨_,Aa (Az 2 scCommon.nd (Ar (AR (pv 1))))
  (Aa (A7 zAR rfl (TR (by rfl) aa.zreversed (AR (pv 0))) (AV 3 scCommon.nd)
   (Aj (AC (BA (pv 2) (AR (Am (C1 aa) hr Ai (Av (AN AD (pv 2) (Ks GX Ad)) (pv 3))))))))
  (Aa (AC (LN zBZ PySem.F.slot_list_reverse PySem.F.type_list_reverse G3 (pv 2)))
  (AK (pv 2)))),?_⟩
 refine⟨Gc,fun cl bO=>?_⟩
 have s1:=Ab bO (.lst [.ref rm])
 have ncl:cl≠rm:=(Ah aW bO).symm
 refine⟨rl,xs,rfl,s1.seq hX,Rf (K:=K) (a:=rl) (xs:=xs) (fun i σ H2=>BF fun v0 ys=>Fs (σ=[some (.ref rl),some (.ref rm),some (.ref cl),v0]) (Same H H2) (H2 cl=some (.lst ys)) (∀y∈ys,y≠.ref cl) (RowsAt H2 ys ((List.range (i+1)).map fun j=>BG room (rows.drop (rows.length-j)))))
  ⟨_,[.ref rm],rfl,s1,upd_same,fun y hy=>?_,.cons ⟨rm,rfl,?_⟩ .nil⟩ ?_ ?_ ?_⟩
 ·rw[List.mem_singleton.mp hy]
  exact fun q=>ncl (V.ref.inj q).symm
 ·show upd _ _ _ rm=some (HO.lst ((BG room (rows.drop (rows.length-0))).map V.int))
  rw[Al ncl.symm,Nat.sub_zero,zDF,SK]
  exact aW
 ·rintro i σ H2 _ ⟨v0,ys,rfl,s2,_⟩
  exact s2.seq hX
 ·rintro i x σ H2 hi hx ⟨v0,ys,rfl,s2,aH,ho,cr⟩
  obtain⟨row,p,hrow,rfl,hp⟩:=hR.get hx
  have dG:=cr.len
  rw[List.length_map,zBQ] at dG
  obtain⟨lp,hlp1,hlp2⟩:=EG cr (by simp)
  have elast:((List.range (i+1)).map fun j=>BG room (rows.drop (rows.length-j))).getLastD []=BG room (rows.drop (rows.length-i)):=by
   rw[zBS,zAP]
   simp
  rw[elast] at hlp2
  have lcom:=(wr.sub (EK room (rows.drop (rows.length-i)))).len
  refine⟨.inl ⟨rfl,_,SqL.of aH⟩,_,rfl,SqL.of aH,hlp1,lp,p,_,row,rfl,SqL.of hlp2,SqL.of (s2 _ _ hp),by omega,bZ row (zAJ hrow),fun l H3 ns s3 aY cy au hl=>?_⟩
  have hl0':H l=none:=s2.free aY
  have nl:l≠cl:=(Ah aH aY).symm
  have d8:ns=BG room (rows.drop (rows.length-(i+1))):=by
   rw[Jn (wr.sub (EK room (rows.drop (rows.length-i)))) cy au,RB]
   have hj:rows.length-1-i<rows.length:=by omega
   rw[fY] at hrow
   obtain⟨_,e⟩:=List.getElem?_eq_some_iff.mp hrow
   rw[show rows.length-(i+1)=rows.length-1-i by omega,zCK hj,e,show rows.length-1-i+1=rows.length-i by omega]
  rw[d8] at hl
  refine⟨s3 _ _ aH,Ap (by omega),?_⟩
  refine⟨_,ys++[.ref l],rfl,AA (s2.trans s3) bO _,upd_same,fun y hy=>?_,?_⟩
  ·rcases List.mem_append.mp hy with z | z
   ·exact ho y z
   ·rw[List.mem_singleton.mp z]
    exact fun q=>nl (V.ref.inj q)
  ·rw[zBS,zAP]
   refine rows_rev.rows_add ⟨l,rfl,?_⟩ (ER cr ho fun p' aI n' h'=>?_)
   ·show upd _ _ _ l=_
    rw[Al nl]
    exact hl
   ·show upd _ _ _ p'=_
    rw[Al n']
    exact s3 _ _ h'
 ·rintro σ H2 ⟨v0,ys,rfl,s2,aH,ho,cr⟩
  refine⟨.inl ⟨rfl,_,SqL.of aH⟩,cl,ys,rfl,rfl,aH,?_⟩
  refine q cl _ _ (AA s2 bO _) bO upd_same ?_
  unfold Gf
  rw[fY] at cr
  refine ER (rows_rev cr) (fun y hy=>ho y (List.mem_reverse.mp hy)) fun p' aI n' h'=>?_
  show upd _ _ _ p'=_
  rw[Al n']
  exact h'
end
def CU(ao room:List Int):List Int->Nat->List (List Int)->List Nat
 | _,_,[]=>[]
 | c,i,r::rs=>if ((Cr c (BG room rs)).all fun k=>decide (k∈ao))=true then CU ao room c (i+1) rs else i::CU ao room (Cr c r) (i+1) rs
theorem FP(ao room c r:List Int)(i:Nat)(rs:List (List Int)):CU ao room c i (r::rs)=if ((Cr c (BG room rs)).all fun k=>decide (k∈ao))=true then CU ao room c (i+1) rs else i::CU ao room (Cr c r) (i+1) rs:=rfl
def Kq(ao room:List Int)(rows:List (List Int)):List Nat:=CU ao room room 0 rows
inductive Jz(K:PySem.W.Frag)(vs:List V)(H:Hp)(Q:VK)(E:XK):Prop where
 | mk (rl rm tg:Addr) (room ao:List Int) (xs:List V) (rows:List (List Int)) (_:vs=[.ref rl,.ref rm,.ref tg]) (_:Ay H rm room) (_:Wr room) (_:H rl=some (.lst xs)) (_:RowsAt H xs rows) (_:(∀r∈rows,r.length<=900)) (_:rows.length<=900) (_:SqL K H tg (ao.map V.int)) (_:ao.length<=900) (_:∀(l:Addr)(H':Hp),Same H H'->H l=none->H' l=some (.lst ((Kq ao room rows).map fun p=>V.int (p:Nat)))->Q (.ref l) H'):Jz K vs H Q E
section
def scNeeded:=As NJ ["rows","room","target","behind","needed","common","at","row"] 3
theorem OC(aa:Ev P w K mg aA aN cK cT cS cB cN cO):Fc P w K mg "needed_rows" Bh 4 (Jz K):=by
 refine aa.h69.ok scNeeded ?_
 rintro bz f ak A outer s H _ Q E hr ⟨rl,rm,tg,room,ao,xs,rows,rfl,aW,wr,hX,hR,bZ,aj,hT,htl,q⟩
 have fY:=hR.len
 refine⟨_,Aa (Az 3 scNeeded.nd (Am (Im aa) hr Ai (Av (pv 0) (pv 1))))
  (Aa (Az 4 scNeeded.nd (Ar Bk))
  (Aa (Az 5 scNeeded.nd (pv 1))
  (Aa (A7 zAR rfl (Dr (by rfl) aa.zenumerate (AR (pv 0))) (BI rfl (AE (AV 6 scNeeded.nd) (AE (AV 7 scNeeded.nd) Br)))
   (Aj (An (B3 (A6 (Am (GT aa) hr Ai (Av (Am (C1 aa) hr Ai (Av (pv 5) (AN AD (pv 3) (Ak BB (pv 6) Ad)))) (pv 2)))))
    (Aa (AC (BA (pv 4) (AR (pv 6))))
    (Aj (Az 5 scNeeded.nd (Am (C1 aa) hr Ai (Av (pv 5) (pv 7))))))
    Ag)))
  (AK (pv 4))))),?_⟩
 refine⟨rl,rm,room,xs,rows,rfl,aW,wr,SqL.of hX,hR,bZ,aj,fun bl bys H1 s1 gK dq hBR=>?_⟩
 refine⟨IF,fun nl f9=>?_⟩
 have hnl0:H nl=none:=s1.free f9
 have c2:Same H1 (Bb [nl] (upd H1 nl (.lst []))):=fun b o e=>A4 ((Ab f9 (.lst [])) _ _ e) fun z=>by
  rw[List.mem_singleton.mp z,f9] at e
  cases e
 have nl2:upd H1 nl (.lst []) nl=some (.lst []):=upd_same
 generalize upd H1 nl _=H2 at *
 have back:∀{H':Hp},Same H1 (Bb [nl] H')->∀{l:Addr},H' l=none->H l=none:=fun {H'} k {l} hl=>(s1.trans (k.trans cut_same)).free hl
 refine ?_
 refine⟨rl,_,rfl,cut_same _ _ (c2 _ _ (s1 _ _ hX)),CG (a:=rl) (xs:=xs) (fun i σ H3=>Wd fun(v0 v1:Option V)(cm:Addr)(c:List Int)(nd:List Nat)=>U9 (σ=[some (.ref rl),some (.ref rm),some (.ref tg),some (.ref bl),some (.ref nl),some (.ref cm),v0,v1]) (Same H1 (Bb [nl] H3)) (H3 nl=some (.lst (nd.map fun p=>V.int (p:Nat)))) (Ay (Bb [nl] H3) cm c) (c.Sublist room) (Kq ao room rows=nd++CU ao room c i (rows.drop i)) (nd.length<=i)) ?_ ?_ ?_ ?_⟩
 ·exact⟨_,_,rm,room,[],rfl,c2,nl2,c2 _ _ (s1 _ _ aW),zA2 _,rfl,zAA _⟩
 ·rintro i σ H3 _ ⟨v0,v1,cm,c,nd,rfl,c3,_⟩
  exact cut_same _ _ (c3 _ _ (s1 _ _ hX))
 ·rintro i y T2 σ H3 hy cP ⟨v0,v1,cm,c,nd,rfl,c3,fz,hcm,aw,hneed,hnd⟩
  have hi:i<rows.length:=by
   have:=(List.getElem?_eq_some_iff.mp hy).1
   omega
  obtain⟨row,p,hrow,rfl,hp⟩:=hR.get hy
  have erow:rows[i]=row:=(List.getElem?_eq_some_iff.mp hrow).2
  rw[zCK hi,erow,FP] at hneed
  have sT:=Ab cP (.tup [.int (i:Nat),.ref p])
  have T2t:upd H3 T2 (.tup [.int (i:Nat),.ref p]) T2=_:=upd_same
  generalize upd H3 T2 _=H4 at *
  have d34:Same (Bb [nl] H3) (Bb [nl] H4):=AB sT
  have wc:=wr.sub aw
  have lc:=wc.len
  refine⟨SqT.of T2t,rfl,rfl,?_⟩
  obtain⟨bp,hbp,hbrow⟩:=EL ((hBR.keep c3).keep d34) (HJ (room:=room) (rows:=rows) (i:=i+1) (by omega))
  have c4:=c3.trans d34
  refine⟨SqL.of (cut_same _ _ (c4 _ _ dq)),Af hbp,cm,bp,c,_,rfl,SqL.of (cut_same _ _ (d34 _ _ hcm)),SqL.of (cut_same _ _ hbrow),by omega,zAC (wr.sub (EK _ _)).len (by decide),fun l1 H5 ns s5 l10 cy au bc=>?_⟩
  have d8:=Jn wc cy au
  have wns:Wr ns:=by rw[d8];exact wc.sub zAK
  have d45:Same (Bb [nl] H4) (Bb [nl] H5):=AB s5
  refine⟨l1,tg,ns,ao,rfl,SqL.of bc,((s1.trans (c4.trans d45)).trans cut_same).seq hT,wns.len,wns.2,htl,fun H6 s6=>?_⟩
  have d46:=d45.trans (AB (M:=[nl]) s6)
  have f8:=(sT.trans (s5.trans s6)) _ _ fz
  rw[d8]
  by_cases cc:((Cr c (BG room (rows.drop (i+1)))).all fun k=>decide (k∈ao))=true
  ·rw[if_pos cc] at hneed
   rw[cc]
   refine AY ?_
   exact⟨_,_,cm,c,nd,rfl,c4.trans d46,f8,(d34.trans d46) _ _ hcm,aw,hneed,by omega⟩
  ·rw[if_neg cc] at hneed
   rw[Bool.not_eq_true] at cc
   rw[cc]
   refine A8 ?_
   refine⟨.inl ⟨rfl,_,SqL.of f8⟩,f8,Ap (by rw[List.length_map];omega),?_⟩
   have d67:Same (Bb [nl] H6) (Bb [nl] (upd H6 nl (.lst ((nd.map fun p=>V.int (p:Nat))++[.int (i:Nat)])))):=But.upd (by simp)
   have hn7:upd H6 nl (.lst ((nd.map fun p=>V.int (p:Nat))++[.int (i:Nat)])) nl=some (.lst ((nd++[i]).map fun p=>V.int (p:Nat))):=by rw[upd_same,zAP];rfl
   generalize upd H6 nl _=H7 at *
   have d37:=d34.trans (d46.trans d67)
   have c7:=c3.trans d37
   refine⟨cm,p,c,row,rfl,SqL.of (cut_same _ _ (d37 _ _ hcm)),SqL.of (cut_same _ _ (c7 _ _ (s1 _ _ hp))),by omega,bZ row (zAJ hrow),fun l2 H8 ns2 s8 l20 hup2 hmem2 aF=>?_⟩
   have ens2:=Jn wc hup2 hmem2
   rw[ens2] at aF
   have d78:Same (Bb [nl] H7) (Bb [nl] H8):=AB s8
   have l2n:l2∉[nl]:=fun z=>by
    rw[List.mem_singleton.mp z,hn7] at l20
    cases l20
   exact⟨_,_,l2,Cr c row,nd++[i],rfl,c7.trans d78,s8 _ _ hn7,A4 aF l2n,(zAK (l:=c)).trans aw,by rw[zA9];exact hneed,by rw[zA];show nd.length+1<=i+1;omega⟩
 ·rintro σ H3 ⟨v0,v1,cm,c,nd,rfl,c3,fz,hcm,aw,hneed,hnd⟩
  rw[fY,zDF] at hneed
  have e:Kq ao room rows=nd:=by rw[hneed];unfold CU;simp
  rw[<-e] at fz
  exact q nl H3 (s1.trans (c3.trans cut_same)) hnl0 fz
end
def QF(k:Int)(e:Tr×Str):Bool:=if e.2="grant" then tv e.1 k else if e.2="deny" then !tv e.1 k else true
def IM(k:Int)(es:List (Tr×Str)):Bool:=es.all (QF k)
theorem mem_leftT:k∈CN z g t↔k∈g/\QF k (t,z)=true:=by
 unfold CN QF
 by_cases c:z="grant"
 ·rw[if_pos c,if_pos (show (t,z).2="grant" from c),Nm]
 rw[if_neg c,if_neg (show ¬(t,z).2="grant" from c)]
 by_cases c2:z="deny"
 ·rw[if_pos c2,if_pos (show (t,z).2="deny" from c2),Nm]
  show k∈g/\tv t k=false↔k∈g/\(!tv t k)=true
  rw[Bool.not_eq_true']
 ·rw[if_neg c2,if_neg (show ¬(t,z).2="deny" from c2)]
  exact⟨fun h=>⟨h,rfl⟩,fun h=>h.1⟩
def Bn(g:List Int)(es:List (Tr×Str)):List Int:=es.foldl (fun g e=>CN e.2 g e.1) g
theorem E9(g:List Int)(es:List (Tr×Str))(e:Tr×Str):Bn g (es++[e])=CN e.2 (Bn g es) e.1:=by
 unfold Bn
 rw[zDD]
 rfl
theorem CA:∀(es:List (Tr×Str))(g:List Int),(Bn g es).Sublist g
 | [],g=>zA2 _
 | e::es,g=>(CA es (CN e.2 g e.1)).trans (Ir _ _ _)
theorem JB:∀(es:List (Tr×Str))(g:List Int)(k:Int),k∈Bn g es↔k∈g/\IM k es=true
 | [],g,k=>⟨fun h=>⟨h,rfl⟩,fun h=>h.1⟩
 | e::es,g,k=>by
  show k∈Bn (CN e.2 g e.1) es↔_
  rw[JB es,mem_leftT]
  unfold IM
  rw[zCU,zA3]
  exact⟨fun h=>⟨h.1.1,h.1.2,h.2⟩,fun h=>⟨⟨h.1,h.2.1⟩,h.2.2⟩⟩
theorem Ib(h:k∈room):(∀r∈Bj room es,k∈r)↔IM k es=true:=by
 unfold Bj IM
 rw[zBN]
 exact⟨fun q e he=>(mem_leftT.mp (q _ (List.mem_map.mpr ⟨e,he,rfl⟩))).2,fun q r hr=>by
  obtain⟨e,he,rfl⟩:=List.mem_map.mp hr
  exact mem_leftT.mpr ⟨h,q e he⟩⟩
theorem RH(wr:Wr room)(hb:bas.Sublist room):Bn bas es=BG room (bas::Bj room es):=by
 refine EM ((wr.sub hb).1.sublist (CA es bas)) (wr.1.sublist (EK _ _)) fun k=>?_
 rw[JB,mem_com]
 constructor
 ·rintro⟨h1,h2⟩
  refine⟨hb.subset h1,fun r hr=>?_⟩
  rcases List.mem_cons.mp hr with rfl | hr
  ·exact h1
  ·exact (Ib (hb.subset h1)).mpr h2 r hr
 ·rintro⟨h1,h2⟩
  exact⟨h2 bas List.mem_cons_self,(Ib h1).mp fun r hr=>h2 r (List.mem_cons_of_mem _ hr)⟩
inductive HG(K:PySem.W.Frag)(C:Addr)(vs:List V)(H:Hp)(Q:VK)(E:XK):Prop where
 | mk (x a rm:Addr) (many:Nat) (z rule:Str) (v:V) (t:Tr) (room bas ns:List Int) (N:List Addr) (U:Tk) (_:vs=[.ref x,.ref a,.int many,.ref rm,v]) (_:N=x::U.gv::U.lf::[]) (_:TalkAt N C H x U (tw many z rule t room [] bas [])) (_:SqL K (Bb N H) a (ns.map V.int)) (_:ns.length<=63) (_:1<=many) (_:many<=5) (_:Ay (Bb N H) rm room) (_:room≠[]) (_:t.At (Bb N H) v) (_:t.ok many) (_:t.size<=20) (_:∀(U':Tk)(es:List (V×Tr×Str))(ls:List (List Int))(H':Hp),Same (Bb N H) (Bb N H')->TalkAt N C H' x U' (tw many z rule t room es bas ls)->U'.gv=U.gv->U'.lf=U.lf->ls.length=es.length->es.length<=200->(∀e∈es,e.2.1.ok many/\e.2.1.size<=21)->(∀m,m<=es.length->(tw many z rule t room [] bas (ls.take m)).held=Bn bas ((es.take m).map fun e=>(e.2.1,e.2.2)))->Q (.ref x) H'):HG K C vs H Q E
theorem Mt{K:PySem.W.Frag}(h:SqL K (Bb N H) a xs):SqL K H a xs:=cut_same.seq h
theorem Bz{x:Addr}{U:Tk}{N:List Addr}{C:Addr}{H:Hp}{U':Tk}{W:Ta}(hN:N=x::U.gv::U.lf::[])(hT:TalkAt N C H x U' W)(eg:U'.gv=U.gv)(el:U'.lf=U.lf):∀m∈N,∃o,H m=some o/\∀ys,o≠.tup ys:=fun m hm=>by
 have g1:=hT.gv
 have g2:=hT.lf
 rw[eg] at g1
 rw[el] at g2
 rw[hN] at hm
 simp only[zAS,zAT,or_false] at hm
 rcases hm with rfl | rfl | rfl
 ·exact⟨_,hT.ob,fun ys z=>by cases z⟩
 ·exact⟨_,g1,fun ys z=>by cases z⟩
 ·exact⟨_,g2,fun ys z=>by cases z⟩
theorem DX(h:∀m∈N,∃o,H m=some o/\∀ys,o≠.tup ys):Full N H:=fun m hm z=>by
 obtain⟨o,e1,_⟩:=h m hm
 rw[z] at e1
 cases e1
theorem Kt(h:∀m∈N,∃o,H m=some o/\∀ys,o≠.tup ys):TS H (Bb N H):=fun p ys e=>A4 e fun hm=>by
 obtain⟨o,e1,e2⟩:=h p hm
 rw[e] at e1
 cases e1
 exact e2 _ rfl
section
def scLdriven:=As KZ ["_law_talk","_law_script","_law_many","_law_room_here","_law_first","_law_place","_law_asked_here"] 5
theorem LT(aa:Ev P w K mg aA aN cK cT cS cB cN cO):Fc P w K mg "_law_driven" Bh 8 (HG K cK):=by
 refine aa.h42.ok scLdriven ?_
 rintro bz f ak A outer s H _ Q E hr ⟨x,a,rm,many,z,rule,v,t,room,bas,ns,N,U0,rfl,hN,T0,hS,h63,bG,bB,aW,aE,ha,hok,hsz',q⟩
 have cA:Wr room:=T0.wr
 have dr:=cA.len
 refine⟨_,Aa (Az 5 scLdriven.nd Ad)
  (Aa (A7 zAR rfl (AJ (Am (QA aa) hr Ai (Ac (pv 1) (Ac Ad (Av (pv 2) (pv 4)))))) (AV 6 scLdriven.nd)
   (Aa (AC (Oz (pv 0) aa.TX.cl (Jd aa) hr I0 (Av (pv 6) (Am (Ln aa) hr Ai (Ac (pv 1) (Av (pv 5) (pv 3)))))))
   (Aj (Az 5 scLdriven.nd (Ak BB (pv 5) Ad)))))
  (AK (pv 0))),?_⟩
 refine⟨a,ns,8,many,v,t,rfl,(Mt hS),h63,by decide,by decide,bG,bB,ha.keep (TS.same cut_same),hok,hsz',fun al axs ats H1 s1 hal0 hal hA aj=>?_⟩
 have T1:=T0.keep s1
 have f0:=Bz hN T0 rfl rfl
 have alN:al∉N:=(DX f0).no hal0
 have al1:Bb N H1 al=some (.lst axs):=A4 hal alN
 have hA1:AskedAt (Bb N H1) many axs ats:=AskedAt.keep (Kt (Bz hN T1 rfl rfl)) hA
 have c1:Same (Bb N H) (Bb N H1):=AB s1
 have gvN:U0.gv∈N:=by rw[hN];simp
 have lfN:U0.lf∈N:=by rw[hN];simp
 refine⟨⟨_,SqL.of hal⟩,AG (K:=K) (a:=al) (xs:=axs) (fun i σ H9=>TK fun(v1:Option V)(U:Tk)(es:List (V×Tr×Str))(ls:List (List Int))=>Xu (σ=[some (.ref x),some (.ref a),some (.int (many:Int)),some (.ref rm),some v,some (.int (8+(i:Nat))),v1]) (Same (Bb N H1) (Bb N H9)) (TalkAt N cK H9 x U (tw many z rule t room es bas ls)) (U.gv=U0.gv) (U.lf=U0.lf) (es.length=i) (ls.length=i) (∀e∈es,e.2.1.ok many/\e.2.1.size<=21) (∀m,m<=es.length->(tw many z rule t room [] bas (ls.take m)).held=Bn bas ((es.take m).map fun e=>(e.2.1,e.2.2))))
  ⟨_,U0,[],[],rfl,Same.refl _,T1,rfl,rfl,rfl,rfl,fun e he=>by simp at he,fun m hm=>by rw[Nat.le_zero.mp hm];rfl⟩ ?_ ?_ ?_⟩
 ·rintro i σ H9 _ ⟨v1,U,es,ls,rfl,s9,_⟩
  exact SqL.of (cut_same _ _ (s9 _ _ al1))
 ·rintro i y σ H9 hy ⟨v1,U,es,ls,rfl,s9,T9,eg,el,les,lls,hes,hhd⟩
  have hi:i<axs.length:=(List.getElem?_eq_some_iff.mp hy).1
  have full9:=DX (Bz hN T9 eg el)
  obtain⟨u,hau,hoku,hszu⟩:=AskedAt.get (AskedAt.keep (TS.same s9) hA1) hy
  have oku5:u.ok 5:=Tr.ok.mono bB hoku
  have c9:=c1.trans s9
  refine⟨T9.ob,LC,a,rm,ns,room,_,rfl,(Mt (c9.seq hS)),h63,by omega,by omega,SqL.of (cut_same _ _ (c9 _ _ aW)),by omega,aE,fun sn seen dJ ba hsn0 hsn bh cV=>?_⟩
  have iv:Same (Bb N H9) (Bb N dJ):=AB ba
  refine⟨x,sn,y,N,U,_,u,seen,rfl,T9.keep ba,full9.keep ba,hau.keep (TS.same iv),oku5,by omega,SqL.of hsn,cA.sub bh,cV,by show es.length<900;omega,by show ls.length+1<900;omega,fun z=>absurd z zAB,fun _ hn=>absurd hoku hn,fun _ _ U2 eV b13 eg2 el2 kk13 T13=>?_⟩
  rw[LA] at T13
  have c13:Same (Bb N dJ) (Bb N eV):=But.wide (fun m hm=>by
   simp only[zAS,zAT,or_false,eg,el] at hm
   rcases hm with rfl | rfl
   ·exact gvN
   ·exact lfN) b13
  refine ?_
  refine⟨some y,U2,_,_,?_,s9.trans (iv.trans c13),T13,eg2.trans eg,el2.trans el,by rw[zA,les];rfl,by rw[zA,lls];rfl,fun e he=>?_,?_⟩
  ·show[some (V.ref x),some (.ref a),some (.int (many:Int)),some (.ref rm),some v,some (.int (8+(i:Nat)+1)),some y]=_
   rw[Int.add_assoc]
   rfl
  ·rcases List.mem_append.mp he with q1 | q1
   ·exact hes e q1
   ·rw[List.mem_singleton.mp q1]
    exact⟨hoku,hszu⟩
  ·intro m hm
   rw[zA] at hm
   have bR:m<=es.length+1:=hm
   by_cases c:m<=es.length
   ·rw[List.take_append_of_le_length c,List.take_append_of_le_length (by omega)]
    exact hhd m c
   ·have em:m=es.length+1:=by omega
    rw[zBJ (by rw[zA];show ls.length+1<=m;omega),zBJ (by rw[zA];show es.length+1<=m;omega)]
    have e1:=LW (tw many z rule t room es bas ls) y u (Gp (tw many z rule t room es bas ls) seen u)
    rw[LA] at e1
    have e0:=hhd es.length (zAA _)
    rw[zAN,zBJ (by omega)] at e0
    rw[zAP]
    show (tw many z rule t room (es++[(y,u,Gp (tw many z rule t room es bas ls) seen u)]) bas (ls++[BZ (Gp (tw many z rule t room es bas ls) seen u) (tw many z rule t room es bas ls).held (AQ true u room)])).held=Bn bas (es.map (fun e=>(e.2.1,e.2.2))++[(u,Gp (tw many z rule t room es bas ls) seen u)])
    rw[e1,E9,<-e0]
    exact EB T9.held_sub
 ·rintro σ H9 ⟨v1,U,es,ls,rfl,s9,T9,eg,el,les,lls,hes,hhd⟩
  exact q U es ls H9 (c1.trans s9) T9 eg el (by omega) (by omega) hes hhd
end
theorem Dm(ao room:List Int):∀(rs:List (List Int))(c:List Int)(i:Nat),(CU ao room c i rs).length<=rs.length
 | [],_,_=>zAA _
 | r::rs,c,i=>by
  rw[FP]
  split
  ·have:=Dm ao room rs c (i+1)
   rw[zAQ];omega
  ·have:=Dm ao room rs (Cr c r) (i+1)
   rw[zAQ,zAQ];omega
def M0(room s:List Int)(es:List (Tr×Str)):List Nat:=(Kq (Cu room s) room (Bj room es)).map (· + 1)
inductive Ix(K:PySem.W.Frag)(vs:List V)(H:Hp)(Q:VK)(E:XK):Prop where
 | mk (rm sd en:Addr) (room:List Int) (xs ps:List V) (sides:List (List Int)) (es:List (Tr×Str)) (_:vs=[.ref rm,.ref sd,.ref en]) (_:Ay H rm room) (_:Wr room) (_:H sd=some (.lst xs)) (_:RowsAt H xs sides) (_:(∀s∈sides,s.length<64)) (_:sides.length<=900) (_:SqL K H en ps) (_:PairsAt H ps es) (_:(∀e∈es,e.1.ok 5/\e.1.size<=800)) (_:es.length<=900) (_:(B7 sides (BG room (Bj room es))=none->∀(H':Hp),Same H H'->Q .non H')) (_:(∀(i:Nat)(s:List Int),B7 sides (BG room (Bj room es))=some i->sides[i]? = some s->∀(p l:Addr)(H':Hp),Same H H'->H p=none->H l=none->H' p=some (.tup [.int (i:Nat),.ref l])->H' l=some (.lst ((M0 room s es).map fun p=>V.int (p:Nat)))->Q (.ref p) H')):Ix K vs H Q E
theorem Tv(h:B7 sides row=some i):i<sides.length:=by
 unfold B7 at h
 exact (List.findIdx?_eq_some_iff_getElem.mp h).1
section
def scClashBy:=As Km ["room","sides","row","left","side","needed"] 3
theorem Ma(aa:Ev P w K mg aA aN cK cT cS cB cN cO):Fc P w K mg "clash_by" Bh 5 (Ix K):=by
 refine aa.h70.ok scClashBy ?_
 rintro bz f ak A outer s H _ Q E hr ⟨rm,sd,en,room,xs,ps,sides,es,rfl,aW,wr,cb,hS,aP,hs9,hP,hE,hok,aj,qN,q⟩
 refine⟨_,Aa (Az 3 scClashBy.nd (Am (QY aa) hr Ai (Av (pv 0) (pv 2))))
  (Aa (Az 4 scClashBy.nd (Am (Fg aa) hr Ai (Av (pv 1) (AN AD (Am (Im aa) hr Ai (Av (pv 3) (pv 0))) Ad))))
  (Aa (An (P2 (IN (pv 4)))
   (AK Dd)
   Ag)
  (Aa (Az 5 scClashBy.nd (Am (OC aa) hr Ai (Ac (pv 3) (Av (pv 0) (Am (Dy aa) hr Ai (Av (pv 0) (AN AD (pv 1) (pv 4))))))))
  (AK (Aw (Av (pv 4) (BD (N:=["at"]) (js:=[none]) (cl:=[]) ⟨rfl,rfl,rfl,zB0 _,rfl,rfl,rfl⟩ (AJ (pv 5)) (fun c1=>(AV 0 (show (["at"]:List Str).Nodup by decide +kernel))) (fun c1=>Bi) (fun c1=>(Ak BB (pv 0) Ad))))))))),?_⟩
 refine⟨rm,en,room,ps,es,rfl,SqL.of aW,wr,hP,hE,hok,aj,fun ll lxs H1 s1 ll0 gC hLR=>?_⟩
 have wl:∀r∈Bj room es,r.length<=900:=fun r dY=>by
  obtain⟨e,_,rfl⟩:=List.mem_map.mp dY
  exact zAC (wr.sub (Ir _ _ _)).len (by decide)
 have ll9:(Bj room es).length<=900:=by unfold Bj;rw[List.length_map];exact aj
 refine⟨ll,rm,room,lxs,_,rfl,s1 _ _ aW,wr,SqL.of gC,hLR,wl,ll9,fun bl bys H2 s2 gK dq hBR=>?_⟩
 obtain⟨p0,hp0,hrow0⟩:∃p,bys[0]? = some (.ref p)/\Ay H2 p (BG room (Bj room es)):=by
  have h0:=HJ (room:=room) (rows:=Bj room es) (zA4 _)
  rw[List.drop_zero] at h0
  exact EL hBR h0
 have bY:=s1.trans s2
 refine⟨SqL.of dq,Af (j:=0) hp0,sd,p0,_,xs,sides,rfl,SqL.of hrow0,zAC (wr.sub (EK _ _)).len (by decide),bY _ _ cb,hS.keep bY,aP,hs9,fun H3 s3=>?_⟩
 have t3:=bY.trans s3
 refine ?_
 cases hm:B7 sides (BG room (Bj room es)) with
 | none=>
  refine A8 ?_
  exact qN hm _ t3
 | some i=>
  refine AY ?_
  have hi:=Tv hm
  obtain⟨sp,ce,hrow⟩:=EL hS (List.getElem?_eq_getElem hi)
  have lsi:=aP _ (zA8 hi)
  refine⟨SqL.of (t3 _ _ cb),Af ce,rm,sp,room,_,rfl,SqL.of (t3 _ _ aW),SqL.of (t3 _ _ hrow),wr.len,wr.2,by omega,fun fl H4 ns s4 fl0 cy au ik=>?_⟩
  have d8:=NL wr cy au
  rw[d8] at ik
  have lfl:(Cu room sides[i]).length<=900:=zAC (zA0 _ _) (zAC wr.len (by decide))
  have t4:=t3.trans s4
  have s24:=s2.trans (s3.trans s4)
  refine⟨ll,rm,fl,room,_,lxs,_,rfl,t4 _ _ aW,wr,s24 _ _ gC,hLR.keep s24,wl,ll9,SqL.of ik,lfl,fun nl H5 s5 nl0 f9=>?_⟩
  have t5:=t4.trans s5
  generalize hpn:Kq (Cu room sides[i]) room (Bj room es)=pn at *
  have enl:(pn.map fun p=>V.int ((p:Nat):Int))=(pn.map fun p=>((p:Nat):Int)).map V.int:=by rw[List.map_map];rfl
  have lpn:pn.length<=900:=by
   rw[<-hpn]
   exact zAC (Dm _ _ _ _ _) ll9
  refine⟨⟨_,SqL.of f9⟩,fun cc acc am=>?_⟩
  refine AG (K:=K) (a:=nl) (xs:=pn.map fun p=>V.int ((p:Nat):Int)) (fun j σ H6=>∃v0,Cc (σ=[v0]) (Same H5 H6) (H6 acc=some (.lst (((pn.take j).map (· + 1)).map fun p=>V.int ((p:Nat):Int))))) ⟨none,rfl,Ab am _,upd_same⟩ ?_ ?_ ?_
  ·rintro j σ H6 _ ⟨v0,rfl,s6,_⟩
   exact SqL.of (s6 _ _ f9)
  ·rintro j x σ H6 hx ⟨v0,rfl,s6,ha6⟩
   rw[List.getElem?_map] at hx
   obtain⟨p,hp,rfl⟩:=Option.map_eq_some_iff.mp hx
   have et:(pn.take (j+1)).map (· + 1)=(pn.take j).map (· + 1)++[p+1]:=by rw[zAI,hp,zAP];rfl
   refine A8 ?_
   refine⟨_,ha6,Ap (by rw[List.length_map,List.length_map,zAM];omega),?_⟩
   refine⟨_,rfl,AA s6 am _,?_⟩
   rw[upd_same,et,zAP]
   show some (HO.lst (_++[V.int (((p:Nat):Int)+1)]))=some (HO.lst (_++[V.int (((p+1:Nat)):Int)]))
   rw[show (((p:Nat):Int)+1)=(((p+1:Nat)):Int) by push_cast;rfl]
  ·rintro σ H6 ⟨v0,rfl,s6,ha6⟩
   rw[List.length_map,zAN] at ha6
   refine⟨BT,fun p hp=>?_⟩
   have s7:=Ab hp (.tup [.int (i:Nat),.ref acc])
   have t6:=t5.trans s6
   refine q i sides[i] hm (List.getElem?_eq_getElem hi) p acc _ (t6.trans s7) (t6.free hp) (t5.free am) upd_same ?_
   unfold M0
   rw[hpn]
   exact s7 _ _ ha6
end
def Sa(m:Nat)(e:Tr×Str):Prop:=e.1.ok m/\IU e.2
inductive Cy(m:Nat)(es:List (Tr×Str)):Prop where
 | mk (i:Nat) (e:Tr×Str) (_:es[i]? = some e) (_:(∀j f,j<i->es[j]? = some f->Sa m f)) (_:¬e.1.ok m)
inductive Cv(m:Nat)(es:List (Tr×Str)):Prop where
 | mk (i:Nat) (e:Tr×Str) (_:es[i]? = some e) (_:(∀j f,j<i->es[j]? = some f->Sa m f)) (_:e.1.ok m) (_:¬IU e.2)
def D6(m:Nat)(es:List (Tr×Str)):Prop:=∀e∈es,e.1.ok m/\e.1.ok 5/\e.1.size<=60/\IU e.2
def EJ(es:List (Tr×Str)):Prop:=∀e∈es,e.1.ok 5/\e.1.size<=60
inductive JQ(K:PySem.W.Frag)(cS cB:Addr)(vs:List V)(H:Hp)(Q:VK)(E:XK):Prop where
 | mk (rw:Addr) (ps:List V) (es:List (Tr×Str)) (m:Nat) (_:vs=[.ref rw,.int m]) (_:SqL K H rw ps) (_:PairsAt H ps es) (_:EJ es) (_:(Cy m es->∀(H':Hp),Same H H'->E (.ref cS) none H')) (_:(Cv m es->∀(H':Hp),Same H H'->E (.ref cB) none H')) (_:(D6 m es->∀(H':Hp),Same H H'->Q .non H')):JQ K cS cB vs H Q E
inductive IB(K:PySem.W.Frag)(cS cB cN:Addr)(vs:List V)(H:Hp)(Q:VK)(E:XK):Prop where
 | mk (rm rw:Addr) (room:List Int) (ps:List V) (es:List (Tr×Str)) (m:Nat) (z:Str) (v:V) (t:Tr) (_:vs=[.int m,.ref rm,.str z,v,.ref rw]) (_:SqL K H rm (room.map V.int)) (_:Wr room) (_:t.At H v) (_:t.ok 5) (_:t.size<=60) (_:SqL K H rw ps) (_:PairsAt H ps es) (_:EJ es) (_:(¬t.ok m->∀H',Same H H'->E (.ref cS) none H')) (_:(t.ok m->¬AM z->∀H',Same H H'->E (.ref cB) none H')) (_:(t.ok m->AM z->[]∈Au z t room->∀H',Same H H'->E (.ref cN) none H')) (_:(t.ok m->AM z->[]∉Au z t room->Cy m es->∀H',Same H H'->E (.ref cS) none H')) (_:(t.ok m->AM z->[]∉Au z t room->Cv m es->∀H',Same H H'->E (.ref cB) none H')) (_:(t.ok m->AM z->[]∉Au z t room->D6 m es->∀(l:Addr)(xs:List V)(H':Hp),Same H H'->H l=none->H' l=some (.lst xs)->RowsAt H' xs (Au z t room)->Q (.ref l) H')):IB K cS cB cN vs H Q E
section
variable {f:Addr}
def scRefRow:=As MR ["row","many","sentence","word"] 2
theorem Hy(aa:Ev P w K mg aA aN cK cT cS cB cN cO):Fc P w K mg "refuse_row" (GR P w) 4 (JQ K cS cB):=by
 refine aa.h52.okX scRefRow ?_
 rintro bz f ak A outer s H _ Q E hr ⟨rw,ps,es,m,rfl,hP,hE,hok,qS,qB,q⟩
 have aD:=hE.len
 refine⟨_,Aj (A7 zB7 rfl (AJ (pv 0)) (BI rfl (AE (AV 2 scRefRow.nd) (AE (AV 3 scRefRow.nd) Br)))
   (Aa (AC (Am (Cd aa) hr (Ax (E1:=E) fun _ _ _ h=>h) (Av (pv 2) (pv 1))))
   (Aj (An (DI C0 (pv 3) (Aw (Ac Ae (Av Ae Ae))) (by with_unfolding_all rfl))
    (Aj (Ce (Ex:=E) CQ rfl aa.X_BadWord.cls aa.X_BadWord.at_ aa.X_BadWord.ty (by rfl) aa.X_BadWord.m (AR Ae) (hvl:=fun _ _ _ h=>⟨by decide,h⟩)))
    Ag)))),?_⟩
 refine⟨⟨_,hP⟩,AG (K:=K) (a:=rw) (xs:=ps) (fun i σ H2=>BF fun v0 v1=>Cc (σ=[some (.ref rw),some (.int (m:Int)),v0,v1]) (Same H H2) (∀j f,j<i->es[j]? = some f->Sa m f)) ⟨_,_,rfl,Same.refl _,fun j f z=>absurd z (zBX _)⟩ ?_ ?_ ?_⟩
 ·rintro i σ H2 _ ⟨v0,v1,rfl,s2,_⟩
  exact s2.seq hP
 ·rintro i x σ H2 hx ⟨v0,v1,rfl,s2,hg⟩
  have hi:i<es.length:=by
   have:=(List.getElem?_eq_some_iff.mp hx).1
   omega
  have eE:es[i]? = some es[i]:=List.getElem?_eq_getElem hi
  obtain⟨x',hx',hpx⟩:=hE.get eE
  rw[hx] at hx'
  cases hx'
  obtain⟨p,v,rfl,hp,hv⟩:=hpx
  obtain⟨o2,o3⟩:=hok _ (zA8 hi)
  generalize es[i]=e at *
  obtain⟨u,wd⟩:=e
  refine⟨SqT.of (s2 _ _ hp),rfl,rfl,?_⟩
  refine⟨v,u,m,rfl,hv.keep (TS.same s2),o2,o3,fun hn H3 s3=>qS ⟨i,_,eE,hg,hn⟩ H3 (s2.trans s3),fun o1 H3 s3=>?_⟩
  refine⟨E2,fun tl htl=>?_⟩
  have s4:=Ab htl (.tup [.str "grant",.str "deny",.str "doubt"])
  have s04:=s2.trans (s3.trans s4)
  refine⟨tl,_,rfl,.inr (SqT.of upd_same),rfl,rfl,?_⟩
  by_cases c:IU wd
  ·have cw:OW (.str wd) [.str "grant",.str "deny",.str "doubt"]=true:=by
    rcases c with e | e | e<;>rw[e]<;>rfl
   rw[cw]
   refine AY ⟨_,_,rfl,s04,fun j f hj hf=>?_⟩
   by_cases cj:j<i
   ·exact hg j f cj hf
   ·obtain rfl:j=i:=by omega
    rw[eE] at hf
    rw[<-zAE hf]
    exact⟨o1,c⟩
  ·have cw:OW (.str wd) [.str "grant",.str "deny",.str "doubt"]=false:=by
    have n1:∀k:Str,wd≠k->OR (V.str k) (V.str wd)=false:=fun k h=>by
     cases hb:OR (V.str k) (V.str wd) with
     | false=>rfl
     | true=>exact absurd (by with_unfolding_all exact of_decide_eq_true hb) fun z:k=wd=>h z.symm
    have hw:¬(wd="grant"\/wd="deny"\/wd="doubt"):=c
    rw[not_or,not_or] at hw
    unfold OW
    rw[zBY,zBY,zBY,List.any_nil,n1 _ hw.1,n1 _ hw.2.1,n1 _ hw.2.2]
    rfl
   rw[cw]
   exact A8 (qB ⟨i,_,eE,hg,o1,c⟩ _ s04)
 ·rintro σ H2 ⟨v0,v1,rfl,s2,hg⟩
  refine q (fun e he=>?_) _ s2
  obtain⟨i,hi⟩:=List.getElem?_of_mem he
  have hl:=(List.getElem?_eq_some_iff.mp hi).1
  have:=hg i e (by omega) hi
  exact⟨this.1,(hok e he).1,(hok e he).2,this.2⟩
def scChecked:=As JC ["many","room","kind","sentence","row","sides"] 5
theorem GY(aa:Ev P w K mg aA aN cK cT cS cB cN cO):Fc P w K mg "checked_sides" (GR P w) 5 (IB K cS cB cN):=by
 refine aa.h66.okX scChecked ?_
 rintro bz f ak A outer s H _ Q E hr ⟨rm,rw,room,ps,es,m,z,v,t,rfl,hR,wr,ha,ok5,ay,hP,hE,hok,q1,q2,q3,q4,q5,q⟩
 refine⟨_,Aa (AC (Am (Cd aa) hr (Ax (E1:=E) fun _ _ _ h=>h) (Av (pv 3) (pv 0))))
  (Aa (Az 5 scChecked.nd (Am (G0 aa) hr (Ax (E1:=E) fun _ _ _ h=>h) (Ac (pv 1) (Av (pv 2) (pv 3)))))
  (Aa (AC (Am (Hy aa) hr (Ax (E1:=E) fun _ _ _ h=>h) (Av (pv 4) (pv 0))))
  (AK (pv 5)))),?_⟩
 refine⟨v,t,m,rfl,ha,ok5,ay,q1,fun gL H1 s1=>?_⟩
 refine⟨rm,z,v,t,room,rfl,ha.keep (TS.same s1),ok5,by omega,s1.seq hR,wr,fun hn H2 s2=>q2 gL hn H2 (s1.trans s2),fun hk he H2 s2=>q3 gL hk he H2 (s1.trans s2),fun hk eQ l xs H2 s2 aY hl hRN _=>?_⟩
 have t2:=s1.trans s2
 refine⟨rw,ps,es,m,rfl,t2.seq hP,PairsAt.keep t2 hE,hok,fun hn H3 s3=>q4 gL hk eQ hn H3 (t2.trans s3),fun hn H3 s3=>q5 gL hk eQ hn H3 (t2.trans s3),fun ho H3 s3=>?_⟩
 exact q gL hk eQ ho l xs H3 (t2.trans s3) (s1.free aY) (s3 _ _ hl) ((hRN.at).keep s3)
end
inductive Nq(K:PySem.W.Frag)(cS cB cN:Addr)(vs:List V)(H:Hp)(Q:VK)(E:XK):Prop where
 | mk (rm rw:Addr) (room:List Int) (ps:List V) (es:List (Tr×Str)) (m:Nat) (z:Str) (v:V) (t:Tr) (_:vs=[.int m,.ref rm,.str z,v,.ref rw]) (_:Ay H rm room) (_:Wr room) (_:t.At H v) (_:t.ok 5) (_:t.size<=60) (_:H rw=some (.lst ps)) (_:PairsAt H ps es) (_:EJ es) (_:es.length<=900) (_:(¬t.ok m->∀H',Same H H'->E (.ref cS) none H')) (_:(t.ok m->¬AM z->∀H',Same H H'->E (.ref cB) none H')) (_:(t.ok m->AM z->[]∈Au z t room->∀H',Same H H'->E (.ref cN) none H')) (_:(t.ok m->AM z->[]∉Au z t room->Cy m es->∀H',Same H H'->E (.ref cS) none H')) (_:(t.ok m->AM z->[]∉Au z t room->Cv m es->∀H',Same H H'->E (.ref cB) none H')) (_:(t.ok m->AM z->[]∉Au z t room->D6 m es->∀(x:V)(H':Hp),Same H H'->Q x H')):Nq K cS cB cN vs H Q E
theorem OT(h:s.Sublist room)(hs:s∈sides)(hk:k∈s):k∈Ci room sides:=by
 unfold Ci
 rw[List.mem_filter,zBU]
 exact⟨h.subset hk,s,hs,decide_eq_true hk⟩
theorem Mh(hS:∀s∈S,∀k∈s,k∈bas):AX S (BG room (bas::rs))=AX S (BG room rs):=by
 unfold AX
 rw[zA5,zBN,zBN]
 have e:∀s∈S,((s.any fun k=>decide (k∈BG room (bas::rs)))=true↔(s.any fun k=>decide (k∈BG room rs))=true):=fun s hs=>by
  rw[zBU,zBU]
  constructor
  ·rintro⟨k,hk,h⟩
   have h:=mem_com.mp (of_decide_eq_true h)
   exact⟨k,hk,decide_eq_true (mem_com.mpr ⟨h.1,fun r hr=>h.2 r (List.mem_cons_of_mem _ hr)⟩)⟩
  ·rintro⟨k,hk,h⟩
   have h:=mem_com.mp (of_decide_eq_true h)
   refine⟨k,hk,decide_eq_true (mem_com.mpr ⟨h.1,fun r hr=>?_⟩)⟩
   rcases List.mem_cons.mp hr with rfl | hr
   ·exact hS s hs k hk
   ·exact h.2 r hr
 exact⟨fun h s hs=>(e s hs).mp (h s hs),fun h s hs=>(e s hs).mpr (h s hs)⟩
theorem JD(wr:Wr room):AX (Au z t room) (Bn (Ci room (Au z t room)) es)=AX (Au z t room) (BG room (Bj room es)):=by
 rw[RH wr base_sub]
 exact Mh fun s hs k hk=>OT (Bv hs) hs hk
theorem C3{H:Hp}:∀{xs:List V}{es:List (Tr×Str)}(m:Nat),PairsAt H xs es->PairsAt H (xs.take m) (es.take m)
 | _,_,0,_=>by rw[zCG,zCG];exact .nil
 | _,_,_+1,.nil=>.nil
 | _,_,m+1,.cons h q=>.cons h (C3 m q)
theorem E3(xs:List V)(m:Nat)(h:m<=xs.length):Dj xs none (some (m:Int))=xs.take m:=by
 unfold Dj
 rw[HT.sIx_none,HT.sIx_nat,Nat.min_eq_left h]
 rfl
section
def scFalls:=As QI ["many","room","kind","sentence","row","sides","held","at","said","word","side","places"] 5
theorem JA(aa:Ev P w K mg aA aN cK cT cS cB cN cO):Fc P w K mg "falls" (GR P w) 6 (Nq K cS cB cN):=by
 refine aa.h71.okX scFalls ?_
 rintro bz f ak A outer s H _ Q E hr ⟨rm,rw,room,ps,es,m,z,v,t,rfl,aW,wr,ha,ok5,ay,hrw,hE,hrs,aj,q1,q2,q3,q4,q5,qq⟩
 have aD:=hE.len
 refine⟨_,Aa (Az 5 scFalls.nd (Am (GY aa) hr (Ax (E1:=E) fun _ _ _ h=>h) (Ac (pv 0) (Ac (pv 1) (Ac (pv 2) (Av (pv 3) (pv 4)))))))
  (Aa (Az 6 scFalls.nd (Am (Fa aa) hr Ai (AR (pv 5))))
  (Aa (A7 zB7 rfl (Dr (by rfl) aa.zenumerate (AR (pv 4))) (BI rfl (AE (AV 7 scFalls.nd) (AE (BI rfl (AE (AV 8 scFalls.nd) (AE (AV 9 scFalls.nd) Br))) Br)))
   (Aa (Az 6 scFalls.nd (Am (CB aa) hr Ai (Ac (pv 9) (Av (pv 6) (Am (BE aa) hr Ai (Av (pv 8) (pv 1)))))))
   (Aj (An (B3 (A6 (Am (Iq aa) hr Ai (Av (pv 5) (pv 6)))))
    (Aa (Mj (Am (Ma aa) hr Ai (Ac (pv 1) (Av (pv 5) (Cj DY (pv 4) CZ (CV (Ak BB (pv 7) Ad)))))) (BI rfl (AE (AV 10 scFalls.nd) (AE (AV 11 scFalls.nd) Br))))
    (AK (Aw (Ac (Ak BB (pv 7) Ad) (Av (pv 10) (pv 11))))))
    Ag))))
  (AK Dd))),?_⟩
 refine⟨rm,rw,room,ps,es,m,z,v,t,rfl,SqL.of aW,wr,ha,ok5,ay,SqL.of hrw,hE,hrs,q1,q2,q3,q4,q5,fun gL hk eQ hok sd xs H1 s1 sd0 cb hS=>?_⟩
 have q:=qq gL hk eQ hok
 have sw:∀s∈Au z t room,s.length<64:=fun s hs=>by
  have:=(wr.sub (Bv hs)).len
  omega
 have s2l:(Au z t room).length<=900:=by
  rcases CP (z:=z) (t:=t) (row:=room) with⟨_,e⟩|⟨_,_,e⟩<;>rw[e]<;>simp
 refine⟨sd,xs,_,rfl,SqL.of cb,hS,(by have h1:=Cg (z:=z) (t:=t) (row:=room);have h2:=wr.len;omega),fun bl H2 ns s2 gK cy au dq=>?_⟩
 have en:=GS wr (fun s hs=>Bv hs) cy au
 rw[en] at dq
 have t2:=s1.trans s2
 have cC:=fun aB=>JD (z:=z) (t:=t) (es:=aB) wr
 have fC:(Ci room (Au z t room)).Sublist room:=base_sub
 generalize bN:Ci room (Au z t room)=bas at *
 refine⟨rw,_,rfl,t2 _ _ hrw,CG (a:=rw) (xs:=ps) (fun i σ H3=>TK fun(v7 v8 v9:Option V)(hl:Addr)=>Hw (σ=[some (.int (m:Int)),some (.ref rm),some (.str z),some v,some (.ref rw),some (.ref sd),some (.ref hl),v7,v8,v9,none,none]) (Same H1 H3) (Ay H3 hl (Bn bas (es.take i))) (∀j,j<i->AX (Au z t room) (Bn bas (es.take (j+1)))=true)) ?_ ?_ ?_ ?_⟩
 ·exact⟨_,_,_,bl,rfl,s2,dq,fun j hj=>absurd hj (zBX _)⟩
 ·rintro i σ H3 _ ⟨v7,v8,v9,hl,rfl,s3,_⟩
  exact (s1.trans s3) _ _ hrw
 ·rintro i y T2 σ H3 hy cP ⟨v7,v8,v9,hl,rfl,s3,hhl,hall⟩
  have hi:i<es.length:=by
   have:=(List.getElem?_eq_some_iff.mp hy).1
   omega
  obtain⟨y',eZ,hpx⟩:=hE.get (List.getElem?_eq_getElem hi)
  rw[hy] at eZ
  cases eZ
  obtain⟨p,v',rfl,hp,hJ⟩:=hpx
  obtain⟨o1,o2,o3,o4⟩:=hok _ (zA8 hi)
  have sT:=Ab cP (.tup [.int (i:Nat),.ref p])
  have T2t:upd H3 T2 (.tup [.int (i:Nat),.ref p]) T2=some (.tup [.int (i:Nat),.ref p]):=upd_same
  generalize upd H3 T2 _=H4 at *
  have s4:=s3.trans sT
  have t4:=s1.trans s4
  have aw:=(CA (es.take i) bas).trans fC
  have wh:=wr.sub aw
  have lh:=wh.len
  refine⟨SqT.of T2t,rfl,SqT.of (t4 _ _ hp),rfl,rfl,rfl,?_⟩
  refine⟨v',_,rm,room,rfl,hJ.keep (TS.same t4),o2,by omega,SqL.of (t4 _ _ aW),wr,fun wl H5 s5 wl0 be=>?_⟩
  refine⟨_,hl,wl,_,_,rfl,SqL.of ((sT.trans s5) _ _ hhl),wh,SqL.of be,zAC (zA0 _ _) (zAC wr.len (by decide)),fun h2 H6 s6 h20 hh2=>?_⟩
  have eh:BZ es[i].2 (Bn bas (es.take i)) (room.filter fun k=>tv es[i].1 k == true)=Bn bas (es.take (i+1)):=by
   rw[<-List.take_append_getElem hi,E9]
   exact EB aw
  rw[eh] at hh2
  have s16:=s4.trans (s5.trans s6)
  have t6:=s1.trans s16
  have hsub2:=(CA (es.take (i+1)) bas).trans fC
  have lh2:=(wr.sub hsub2).len
  refine⟨sd,h2,_,xs,_,rfl,SqL.of hh2,by omega,s16 _ _ cb,hS.keep s16,sw,s2l,fun H7 s7=>?_⟩
  have s17:=s16.trans s7
  have t7:=s1.trans s17
  cases hb:AX (Au z t room) (Bn bas (es.take (i+1))) with
  | true=>
   refine AY ?_
   refine⟨_,_,_,h2,rfl,s17,s7 _ _ hh2,fun j hj=>?_⟩
   by_cases c:j<i
   ·exact hall j c
   ·have e:j=i:=by omega
    rw[e]
    exact hb
  | false=>
   refine A8 ?_
   refine⟨_,rfl,rw,ps,rfl,SqL.of (t7 _ _ hrw),fun sl aP=>?_⟩
   have ecut:Dj ps none (some (((i:Nat):Int)+1))=ps.take (i+1):=by
    have:=E3 ps (i+1) (by omega)
    rw[<-this]
    rfl
   rw[ecut]
   have s8:=Ab aP (.lst (ps.take (i+1)))
   have sl8:upd H7 sl (.lst (ps.take (i+1))) sl=some (.lst (ps.take (i+1))):=upd_same
   generalize upd H7 sl _=H8 at *
   have s18:=s17.trans s8
   have t8:=s1.trans s18
   have hns2:=cC (es.take (i+1))
   rw[hb] at hns2
   refine⟨rm,sd,sl,room,xs,_,_,es.take (i+1),rfl,t8 _ _ aW,wr,s18 _ _ cb,hS.keep s18,sw,s2l,SqL.of sl8,C3 (i+1) (PairsAt.keep t8 hE),fun e he=>?_,by rw[zAM];omega,fun dX=>?_,fun i2 si hm hsi p2 l2 H9 s9 p20 l20 bd aF=>?_⟩
   ·obtain⟨a1,a2,a3,_⟩:=hok e (zCH he)
    exact⟨a2,by omega⟩
   ·rw[miss_none.mp dX] at hns2
    cases hns2
   ·refine⟨SqT.of bd,rfl,rfl,?_⟩
    refine⟨E2,fun p3 cU=>?_⟩
    have ba:=Ab cU (.tup [.int (((i:Nat):Int)+1),.int (i2:Nat),.ref l2])
    exact q _ _ (t8.trans (s9.trans ba))
 ·rintro σ H3 ⟨v7,v8,v9,hl,rfl,s3,hhl,hall⟩
  rw[aD] at hall
  exact q _ _ (s1.trans s3)
end
def RC(room r:List Int)(w:Int):List Int:=room.filter fun k=>decide (k∈r) || decide (k=w)
def EN(room going:List Int)(rows:List (List Int))(s:List Int):List (List Int):=rows.flatMap fun r=>(Cr s going).map fun w=>RC room r w
def D8(room going seen:List Int)(sides:List (List Int)):List (List Int):=going::sides.foldl (EN room going) [seen]
theorem ET{a b:List Int}(ha:a.Pairwise (· < ·))(hb:b.Pairwise (· < ·))(h:∀k,k∈a↔k∈b):a=b:=by
 have na:a.Nodup:=ha.imp fun h=>Int.ne_of_lt h
 have nb:b.Nodup:=hb.imp fun h=>Int.ne_of_lt h
 have hp:a.Perm b:=(List.perm_ext_iff_of_nodup na nb).mpr h
 exact hp.eq_of_pairwise (fun x y _ _ h1 h2=>absurd (Int.lt_trans h1 h2) (Int.lt_irrefl _)) ha hb
theorem Da(room going s:List Int):∀rows:List (List Int),(EN room going rows s).length=rows.length*(Cr s going).length
 | []=>by
  show 0=0*_
  omega
 | r::rows=>by
  have ih:=Da room going s rows
  unfold EN at ih ⊢
  rw[zDE,zA,List.length_map,ih,zAQ,Nat.succ_mul]
  omega
theorem Vt(h:∀r∈EN room going rows s,True):∀r∈EN room going rows s,r.Sublist room:=fun r hr=>by
 unfold EN at hr
 obtain⟨r0,_,h2⟩:=List.mem_flatMap.mp hr
 obtain⟨w,_,rfl⟩:=List.mem_map.mp h2
 exact zAK
theorem MP(room going s:List Int)(rows:List (List Int))(r:List Int):EN room going (rows++[r]) s=EN room going rows s++(Cr s going).map fun w=>RC room r w:=by
 unfold EN
 rw[List.flatMap_append,zDE,List.flatMap_nil,zAU]
inductive Ko(K:PySem.W.Frag)(C:Addr)(vs:List V)(H:Hp)(Q:VK)(E:XK):Prop where
 | mk (x sn:Addr) (N:List Addr) (U:Tk) (W:Ta) (seen:List Int) (_:vs=[.ref x,.ref sn]) (_:TalkAt N C H x U W) (_:Ay H sn seen) (_:seen.Sublist W.room) (_:∀(l:Addr)(xs:List V)(H':Hp),Same H H'->H l=none->H' l=some (.lst xs)->RowsAt H' xs (D8 W.room W.going seen W.sides)->Q (.ref l) H'):Ko K C vs H Q E
theorem Fe{room going seen:List Int}(hg:going.Sublist room)(hs:seen.Sublist room):∀r∈D8 room going seen sides,r.Sublist room:=by
 have go:∀(sides rows:List (List Int)),(∀r∈rows,r.Sublist room)->∀r∈sides.foldl (EN room going) rows,r.Sublist room:=fun sides=>by
  induction sides with
  | nil=>exact fun rows h=>h
  | cons s ss ih=>exact fun rows h=>ih _ (Vt fun _ _=>True.intro)
 intro r hr
 rcases List.mem_cons.mp hr with rfl | hr
 ·exact hg
 ·exact go sides [seen] (fun r hr=>by rw[List.mem_singleton.mp hr];exact hs) r hr
theorem MX(h:a+b<=32):a*b<=256:=by
 have d:∀b:Fin 33,(32-b.1)*b.1<=256:=by decide
 have h1:a*b<=(32-b)*b:=Nat.mul_le_mul_right _ (by omega)
 exact zAC h1 (d ⟨b,by omega⟩)
theorem En{H:Hp}{x:Addr}{v:V}{row:List Int}(h:∃p,Cc (v= .ref p) (p≠x) (Ay H p row)):∀{xs:List V}{rs:List (List Int)},BR H x xs rs->BR H x (xs++[v]) (rs++[row])
 | _,_,.nil=>.cons h .nil
 | _,_,.cons a q=>.cons a (En h q)
section
def scLeastG:=As MO ["talk","seen","going","rows","side"] 2
theorem HI(aa:Ev P w K mg aA aN cK cT cS cB cN cO):Fc P w K mg "least_granted" Bh 3 (Ko K cK):=by
 refine aa.h64.ok scLeastG ?_
 rintro bz f ak A outer s H _ Q E hr ⟨x,sn,N,U,W,seen,rfl,hT,hN,bh,q⟩
 have wr:=hT.wr
 have dr:=wr.len
 have fD:=hT.going_sub
 have wg:=wr.sub fD
 have lg:=wg.len
 have dt:=wr.sub bh
 refine⟨_,Aa (Az 2 scLeastG.nd (BP (pv 0) aa.TX.cl (DC aa) hr Ai))
  (Aa (Az 3 scLeastG.nd (Ar (AR (pv 1))))
  (Aa (A7 zAR rfl (AJ (BP (pv 0) aa.TX.cl (DW aa) hr Ai)) (AV 4 scLeastG.nd)
   (Aj (Lk (i:=3) scLeastG.nd rfl (Or.inl rfl) (N:=["row","world","going","side"]) (js:=[none,none,some 2,some 4]) (cl:=[("side",s.heap.objs.size+2),("going",s.heap.objs.size+1)]) ⟨rfl,rfl,rfl,(by intro p hp;simp at hp;rcases hp with rfl | rfl<;>rfl),rfl,rfl,rfl⟩ (AJ (pv 3)) (fun c1=>(AV 0 (show (["row","world","going","side"]:List Str).Nodup by decide +kernel))) (fun c1=>Bi) (fun c1=>(AJ (Am (C1 aa) hr Ai (Av (pv 3) (pv 2))))) (fun c1=>(AV 1 (show (["row","world","going","side"]:List Str).Nodup by decide +kernel))) (fun c1=>Bi) (fun c1=>(Am (P7 aa) hr Ai (AR (Ar (Av (pv 0) (Ar (AR (pv 1)))))))))))
  (AK (Ak Ek (Ar (AR (pv 2))) (pv 3))))),?_⟩
 refine⟨hT.ob,El,x,N,U,W,rfl,hT,fun gl H1 s1 gl0 cM=>?_⟩
 refine⟨Gc,fun rl bZ=>?_⟩
 have s2:=Ab bZ (.lst [.ref sn])
 have hrl2:upd H1 rl (.lst [.ref sn]) rl=some (.lst [.ref sn]):=upd_same
 generalize upd H1 rl _=H2 at *
 have t2:=s1.trans s2
 have T2:=hT.keep t2
 refine⟨T2.ob,Ey,x,N,U,W,rfl,T2,fun sl sxs H3 s3 sl0 aP hSN _=>?_⟩
 have hSR:RowsAt H3 sxs W.sides:=RowsNew.at hSN
 have t3:=t2.trans s3
 have s2l:W.sides.length<=2:=hT.two
 have du:B2 W.sides<=32:=zAC (Cg (z:=W.kind) (t:=W.t) (row:=W.room)) dr
 have eN:∀s∈W.sides,s.Sublist W.room:=fun s hs=>Bv hs
 have blen:∀i,i<=W.sides.length->((W.sides.take i).foldl (EN W.room W.going) [seen]).length<=256:=fun i hi=>by
  have cw:∀s:List Int,(Cr s W.going).length<=s.length:=fun s=>zA0 _ _
  match hw:W.sides,i with
  | [],i=>rw[List.take_nil];show 1<=256;decide
  | _::_,0=>show 1<=256;decide
  | a::r,1=>
   show (EN W.room W.going [seen] a).length<=256
   have ha:=(wr.sub (eN a (by rw[hw];exact List.mem_cons_self))).len
   have:=cw a
   rw[Da]
   show 1*_<=256
   omega
  | [a],i+2=>
   show (EN W.room W.going [seen] a).length<=256
   have ha:=(wr.sub (eN a (by rw[hw];exact List.mem_cons_self))).len
   have:=cw a
   rw[Da]
   show 1*_<=256
   omega
  | [a,b],i+2=>
   have ht:([a,b]:List (List Int)).take (i+2)=[a,b]:=zBJ (by show 2<=i+2;omega)
   rw[ht]
   show (EN W.room W.going (EN W.room W.going [seen] a) b).length<=256
   rw[Da,Da]
   show 1*_*_<=256
   rw[Nat.one_mul]
   have hab:a.length+b.length<=32:=by
    rw[hw] at du
    have e:B2 [a,b]=a.length+b.length:=by unfold B2;simp
    omega
   have h1:=cw a
   have h2:=cw b
   exact zAC (Nat.mul_le_mul h1 h2) (MX hab)
  | a::b::c::r,_=>
   rw[hw] at s2l
   have:r.length+3<=2:=s2l
   omega
 refine⟨⟨_,SqL.of aP⟩,AG (K:=K) (a:=sl) (xs:=sxs) (fun i σ Hi=>D0 fun(ra:Addr)(rs:List V)(v1:Option V)=>Fs (σ=[some (.ref x),some (.ref sn),some (.ref gl),some (.ref ra),v1]) (Same H3 Hi) (H ra=none) (Hi ra=some (.lst rs)) (RowsAt Hi rs ((W.sides.take i).foldl (EN W.room W.going) [seen]))) ⟨rl,[.ref sn],_,rfl,Same.refl _,s1.free bZ,s3 _ _ hrl2,.cons ⟨sn,rfl,t3 _ _ hN⟩ .nil⟩ ?_ ?_ ?_⟩
 ·rintro i σ Hi _ ⟨ra,rs,v1,rfl,si,_⟩
  exact SqL.of (si _ _ aP)
 ·rintro i y σ Hi hy ⟨ra,rs,v1,rfl,si,ra0,hra,hR⟩
  obtain⟨sd,p,cb,rfl,hp⟩:=hSR.get hy
  have fL:i<W.sides.length:=(List.getElem?_eq_some_iff.mp cb).1
  have gM:=zAJ cb
  have wsd:=wr.sub (eN sd gM)
  have lsd:=wsd.len
  have b1:=blen i (by omega)
  have b2:=blen (i+1) (by omega)
  have et:(W.sides.take (i+1)).foldl (EN W.room W.going) [seen]=EN W.room W.going ((W.sides.take i).foldl (EN W.room W.going) [seen]) sd:=by
   rw[zAI,cb,zDD]
   rfl
  rw[et] at b2 ⊢
  have gN:∀r∈(W.sides.take i).foldl (EN W.room W.going) [seen],r.Sublist W.room:=fun r hr=>Fe fD bh r (List.mem_cons_of_mem _ hr)
  generalize (W.sides.take i).foldl (EN W.room W.going) [seen]=rows at *
  have bZ:=hR.len
  refine⟨⟨_,SqL.of hra⟩,fun cc acc am=>AG (K:=K) (a:=ra) (xs:=rs) (fun j σ Hj=>D0 fun(v0 v1:Option V)(ys:List V)=>Hw (σ=[v0,v1,some (.ref gl),some (.ref p)]) (Same Hi Hj) (Hj acc=some (.lst ys)) (BR Hj acc ys (EN W.room W.going (rows.take j) sd))) ?_ ?_ ?_ ?_⟩
  ·exact⟨_,_,[],rfl,Ab am _,upd_same,.nil⟩
  ·rintro j σ Hj _ ⟨v0,v1,ys,rfl,sj,_⟩
   exact SqL.of (sj _ _ hra)
  ·rintro j y σ Hj cr ⟨v0,v1,ys,rfl,sj,aL,hY⟩
   obtain⟨r,pr,hrj,rfl,hpr⟩:=hR.get cr
   have aW:=zAJ hrj
   have wr2:=wr.sub (gN r aW)
   have lr:=wr2.len
   have ej:rows.take (j+1)=rows.take j++[r]:=by rw[zAI,hrj];rfl
   have bj:(EN W.room W.going (rows.take j) sd).length+(Cr sd W.going).length<=256:=by
    have h1:(EN W.room W.going (rows.take (j+1)) sd).length<=256:=by
     rw[Da] at b2 ⊢
     exact zAC (Nat.mul_le_mul_right _ (by rw[zAM];omega)) b2
    rw[ej,MP,zA,List.length_map] at h1
    exact h1
   have gO:=zA1 hY
   refine Qo ?_
   have si2:=si.trans sj
   refine⟨p,gl,sd,W.going,rfl,SqL.of (si2 _ _ hp),SqL.of ((s2.trans (s3.trans si2)) _ _ cM),by omega,by omega,fun il H5 ns s5 il0 cy au hil2=>?_⟩
   have d8:ns=Cr sd W.going:=ET cy (wsd.1.sublist zAK) fun k=>by
    rw[au k]
    unfold Cr
    rw[List.mem_filter,decide_eq_true_eq]
   subst d8
   have iln:il≠acc:=fun z=>by
    rw[z] at il0
    rw[aL] at il0
    cases il0
   refine⟨⟨_,SqL.of hil2⟩,AG (K:=K) (a:=il) (xs:=(Cr sd W.going).map V.int) (fun m σ H6=>BF fun(v1:Option V)(ys:List V)=>Fs (σ=[some (.ref pr),v1,some (.ref gl),some (.ref p)]) (Same Hi H6) (H6 acc=some (.lst ys)) (Ay H6 il (Cr sd W.going)) (BR H6 acc ys (EN W.room W.going (rows.take j) sd++((Cr sd W.going).take m).map fun w=>RC W.room r w))) ?_ ?_ ?_ ?_⟩
   ·refine⟨_,ys,rfl,sj.trans s5,s5 _ _ aL,hil2,?_⟩
    rw[zCG,zCL,zAU]
    exact BO s5 hY
   ·rintro m σ H6 _ ⟨v1,ys,rfl,s6,_,hil6,_⟩
    exact SqL.of hil6
   ·rintro m u σ H6 hu ⟨v1,zs,rfl,s6,hacc6,hil6,hZ⟩
    rw[List.getElem?_map] at hu
    obtain⟨k0,hk0,rfl⟩:=Option.map_eq_some_iff.mp hu
    have hm:=(List.getElem?_eq_some_iff.mp hk0).1
    have em:(Cr sd W.going).take (m+1)=(Cr sd W.going).take m++[k0]:=by rw[zAI,hk0];rfl
    have hk0r:k0∈W.room:=(eN sd gM).subset (List.mem_filter.mp (zAJ hk0)).1
    have zlen:=zA1 hZ
    rw[zA,List.length_map,zAM] at zlen
    refine IS rfl ?_
    refine Qo ?_
    refine⟨Gc,fun wl be=>?_⟩
    have s7:=Ab be (.lst [.int k0])
    have wl7:Ay (upd H6 wl (.lst [.int k0])) wl [k0]:=upd_same
    generalize upd H6 wl _=H7 at *
    refine⟨BT,fun ql hql=>?_⟩
    have s8:=Ab hql (.lst [.ref pr,.ref wl])
    have ql8:upd H7 ql (.lst [.ref pr,.ref wl]) ql=some (.lst [.ref pr,.ref wl]):=upd_same
    generalize upd H7 ql _=H8 at *
    have s68:=s7.trans s8
    refine⟨ql,[.ref pr,.ref wl],[r,[k0]],rfl,SqL.of ql8,.cons ⟨pr,rfl,(s6.trans s68) _ _ hpr⟩ (.cons ⟨wl,rfl,s8 _ _ wl7⟩ .nil),(by show (([r,[k0]]:List (List Int)).map List.length).sum<64;simp;omega),fun ul H9 ns s9 ul0 cy au hul=>?_⟩
    have d8:ns=RC W.room r k0:=ET cy (wr.1.sublist zAK) fun k=>by
     rw[au k]
     unfold RC
     rw[List.mem_filter,zBR,decide_eq_true_eq,decide_eq_true_eq]
     constructor
     ·rintro⟨row,h1,h2⟩
      simp only[zAS,zAT,or_false] at h1
      rcases h1 with rfl | rfl
      ·exact⟨(gN _ aW).subset h2,.inl h2⟩
      ·have e:=List.mem_singleton.mp h2
       exact⟨by rw[e];exact hk0r,.inr e⟩
     ·rintro⟨h1,h2 | h2⟩
      ·exact⟨r,List.mem_cons_self,h2⟩
      ·exact⟨[k0],by simp,by rw[h2];simp⟩
    subst d8
    have gb:=s68.trans s9
    have hacc9:=gb _ _ hacc6
    refine⟨zs,hacc9,Ap (by omega),?_⟩
    have aE:ul≠acc:=fun z=>by
     rw[z] at ul0
     rw[s68 _ _ hacc6] at ul0
     cases ul0
    have hil9:=gb _ _ hil6
    refine⟨_,zs++[.ref ul],rfl,AA (s6.trans gb) am _,upd_same,?_,?_⟩
    ·show upd H9 acc _ il=_
     rw[Al iln]
     exact hil9
    ·rw[em,zAP,zA7,zCL,<-zA9]
     exact En ⟨ul,rfl,aE,by show upd H9 acc _ ul=_;rw[Al aE];exact hul⟩ (Cq (But.upd (by simp)) (BO gb hZ))
   ·rintro σ H6 ⟨v1,zs,rfl,s6,hacc6,hil6,hZ⟩
    rw[List.length_map,zAN] at hZ
    refine⟨_,_,zs,rfl,s6,hacc6,?_⟩
    rw[ej,MP]
    exact hZ
  ·rintro σ Hj ⟨v0,v1,ys,rfl,sj,aL,hY⟩
   rw[bZ,zAN] at hY
   refine Ji rfl ?_
   exact⟨acc,ys,_,rfl,si.trans sj,(t3.trans si).free am,aL,Ep (Same.refl _) hY⟩
 ·rintro σ Hi ⟨ra,rs,v1,rfl,si,ra0,hra,hR⟩
  rw[hSR.len,zAN] at hR
  refine⟨Gc,fun ol eJ=>?_⟩
  have s9:=Ab eJ (.lst [.ref gl])
  have ol9:upd Hi ol (.lst [.ref gl]) ol=some (.lst [.ref gl]):=upd_same
  generalize upd Hi ol _=H9 at *
  have b:=blen W.sides.length (zAA _)
  rw[zAN] at b
  have hlr:=hR.len
  refine⟨ol,ra,_,_,rfl,rfl,ol9,s9 _ _ hra,(by show 1+rs.length<=_;exact zAZ (Ap (by omega))),fun cl bO=>?_⟩
  have ba:=Ab bO (.lst ([.ref gl]++rs))
  have cl10:upd H9 cl (.lst ([.ref gl]++rs)) cl=some (.lst ([.ref gl]++rs)):=upd_same
  have t10:=t3.trans (si.trans (s9.trans ba))
  refine q cl _ _ t10 ((t3.trans (si.trans s9)).free bO) cl10 ?_
  exact .cons ⟨gl,rfl,(s2.trans (s3.trans (si.trans (s9.trans ba)))) _ _ cM⟩ (hR.keep (s9.trans ba))
end
def Kl(rule:Str)(bas h:List Int):List Int:=if rule="elder" then h else bas
theorem Vv{z rule:Str}:(tw many z rule t room es bas ls).going=Kl rule bas (tw many z rule t room es bas ls).held:=rfl
structure Jp where
 S:List (List Int)
 rule:Str
 bas:List Int
 seen:List Int
def Jp.due(j:Jp)(h:List Int)(u:Tr):Str:=PF j.S (Kl j.rule j.bas h) j.seen u
def Jp.nxt(j:Jp)(h:List Int)(u:Tr):List Int:=CN (j.due h u) h u
def Jp.hld(j:Jp)(h:List Int)(us:List Tr):List Int:=us.foldl j.nxt h
def Jp.ans(j:Jp):List Int->List Tr->List (Tr×Str)
 | _,[]=>[]
 | h,u::us=>(u,j.due h u)::j.ans (j.nxt h u) us
theorem Jp.hld_snoc(j:Jp)(h:List Int)(us:List Tr)(u:Tr):j.hld h (us++[u])=j.nxt (j.hld h us) u:=by
 unfold Jp.hld
 rw[zDD]
 rfl
theorem Jp.ans_snoc(j:Jp):∀(us:List Tr)(h:List Int)(u:Tr),j.ans h (us++[u])=j.ans h us++[(u,j.due (j.hld h us) u)]
 | [],h,u=>rfl
 | v::us,h,u=>by
  show (v,j.due h v)::j.ans (j.nxt h v) (us++[u])=_
  rw[j.ans_snoc us]
  rfl
theorem Jp.ans_get(j:Jp):∀(us:List Tr)(h:List Int)(i:Nat)(u:Tr),us[i]? = some u->(j.ans h us)[i]? = some (u,j.due (j.hld h (us.take i)) u)
 | [],_,_,_,e=>by simp at e
 | v::us,h,0,u,e=>by
  simp at e
  subst e
  rfl
 | v::us,h,i+1,u,e=>by
  show (j.ans (j.nxt h v) us)[i]? = _
  rw[j.ans_get us _ i u (by simpa using e)]
  rfl
theorem Jp.held(j:Jp):∀(us:List Tr)(h:List Int),Bn h (j.ans h us)=j.hld h us
 | [],_=>rfl
 | u::us,h=>j.held us (j.nxt h u)
def Jp.at(j:Jp)(h:List Int)(es:List (Tr×Str))(i:Nat):Prop:=∀e,es[i]? = some e->e.2=j.due (j.hld h ((es.map Prod.fst).take i)) e.1
inductive Le(K:PySem.W.Frag)(C cS cB cO:Addr)(vs:List V)(H:Hp)(Q:VK)(E:XK):Prop where
 | mk (x sn rw:Addr) (N:List Addr) (U:Tk) (many:Nat) (z rule:Str) (t:Tr) (room:List Int) (cR:List (V×Tr×Str)) (bas:List Int) (cX:List (List Int)) (W:Ta) (seen:List Int) (ps:List V) (es:List (Tr×Str)) (_:vs=[.ref x,.ref sn,.ref rw]) (_:TalkAt N C H x U W) (_:Full N H) (_:(∀m∈N,∀ys,H m≠some (.tup ys))) (_:cR.length<=300) (_:cX.length<=300) (_:many<=5) (_:Ay H sn seen) (_:seen.Sublist room) (_:seen≠[]) (_:H rw=some (.lst ps)) (_:PairsAt H ps es) (_:EJ es) (_:es.length<=300) (_:(W.ended=true->E (.ref cO) none H)) (_:(W.ended=false->W=tw many z rule t room cR bas cX)) (_:(W.ended=false->Cy many es->∀H',Same H H'->E (.ref cS) none H')) (_:(W.ended=false->Cv many es->∀H',Same H H'->E (.ref cB) none H')) (_:(W.ended=false->D6 many es->∀(x:V)(H':Hp),Same H H'->Q x H')):Le K C cS cB cO vs H Q E
section
def scJudged:=As Nt ["talk","seen","row","trial","at","sentence","word","due"] 3
theorem O3(aa:Ev P w K mg aA aN cK cT cS cB cN cO):Fc P w K mg "judged" (GR P w) 8 (Le K cK cS cB cO):=by
 refine aa.h53.okX scJudged ?_
 rintro bz f ak A outer s H _ Q E hr ⟨x,sn,rw,N,U,many,z,rule,t,room,cR,bas,cX,W,seen,ps,es,rfl,hT,hF,hNt,les0,lls0,bB,hN,bh,cV,hrw,hE,hrs,hel,qO,hW,qS,qB,qq⟩
 have aD:=hE.len
 refine⟨_,Aa (AC (Am (Bq aa) hr (Ax (E1:=E) fun _ _ _ h=>h) (AR (pv 0))))
  (Aa (AC (Am (Hy aa) hr (Ax (E1:=E) fun _ _ _ h=>h) (Av (pv 2) (AF (pv 0) rfl))))
  (Aa (Az 3 scJudged.nd (BP (pv 0) aa.TX.cl (Jt aa) hr Ai))
  (Aa (A7 zB7 rfl (Dr (by rfl) aa.zenumerate (AR (pv 2))) (BI rfl (AE (AV 4 scJudged.nd) (AE (BI rfl (AE (AV 5 scJudged.nd) (AE (AV 6 scJudged.nd) Br))) Br)))
   (Aa (Az 7 scJudged.nd (Oz (pv 3) aa.TX.cl (Jd aa) hr (Ax (E1:=E) fun _ _ _ h=>h) (Av (pv 5) (pv 1))))
   (Aj (An (AH Cl (pv 7) (pv 6))
    (AK (Aw (Av (pv 4) (pv 7))))
    Ag))))
  (AK Dd)))),?_⟩
 refine⟨x,N,U,W,rfl,hT,qO,fun cJ=>?_⟩
 have yS:=qS cJ
 have yB:=qB cJ
 have yq:=qq cJ
 have hW:=hW cJ
 clear qS qB qq qO
 subst hW
 have dt:=hT.wr.sub bh
 generalize hh0:(tw many z rule t room cR bas cX).held=h0 at *
 obtain⟨j,hj⟩:∃j:Jp,j=⟨Au z t room,rule,bas,seen⟩:=⟨_,rfl⟩
 refine⟨hT.ob,aa.TX.cl,aa.TX.many,By,rw,ps,es,many,rfl,SqL.of hrw,hE,hrs,yS,yB,fun hok H1 s1=>?_⟩
 have q:=yq hok
 have T1:=hT.keep s1
 refine⟨T1.ob,M8,x,N,U,_,rfl,T1,hF.keep s1,fun b Ub H2 s2 hb0 bg0 gK Tb=>?_⟩
 have t2:=s1.trans s2
 generalize hbg:Ub.gv=bg at *
 generalize dq:Ub.lf=bl at *
 obtain⟨M2,hM2⟩:∃M2,M2=b::bg::bl::N:=⟨_,rfl⟩
 rw[<-hM2] at Tb
 have bg00:H bg=none:=s1.free bg0
 have bl00:H bl=none:=s1.free gK
 have full2:∀{H':Hp}{U':Tk}{W':Ta},TalkAt M2 cK H' b U' W'->U'.gv=bg->U'.lf=bl->Full N H'->Full M2 H':=fun h2 h3 h4 hf m hm=>by
  have g1:=h2.gv
  have g2:=h2.lf
  rw[h3] at g1
  rw[h4] at g2
  rw[hM2] at hm
  rcases List.mem_cons.mp hm with rfl | hm
  ·rw[h2.ob];exact fun z=>by cases z
  rcases List.mem_cons.mp hm with rfl | hm
  ·rw[g1];exact fun z=>by cases z
  rcases List.mem_cons.mp hm with rfl | hm
  ·rw[g2];exact fun z=>by cases z
  ·exact hf m hm
 have ntb:∀{H':Hp}{U':Tk}{W':Ta},TalkAt M2 cK H' b U' W'->U'.gv=bg->U'.lf=bl->(∀m∈N,∀ys,H' m≠some (.tup ys))->TS H' (Bb M2 H'):=fun h2 h3 h4 h5 p ys e=>A4 e fun hm=>by
  have g1:=h2.gv
  have g2:=h2.lf
  rw[h3] at g1
  rw[h4] at g2
  rw[hM2] at hm
  rcases List.mem_cons.mp hm with rfl | hm
  ·rw[h2.ob] at e;cases e
  rcases List.mem_cons.mp hm with rfl | hm
  ·rw[g1] at e;cases e
  rcases List.mem_cons.mp hm with rfl | hm
  ·rw[g2] at e;cases e
  ·exact h5 p hm ys e
 have hNt':∀{H':Hp},Same H H'->∀m∈N,∀ys,H' m≠some (.tup ys):=fun {H'} s' m hm ys e=>by
  cases ho:H m with
  | none=>exact hF m hm ho
  | some o=>
   have:=s' _ _ ho
   rw[e] at this
   cases this
   exact hNt m hm ys ho
 have ump:∀{i:Nat}{e:Tr×Str},es[i]? = some e->(es.map Prod.fst)[i]? = some e.1:=fun {i e} h=>by rw[List.getElem?_map,h];rfl
 refine⟨rw,_,rfl,t2 _ _ hrw,CG (a:=rw) (xs:=ps) (fun i σ Hi=>Yg fun(v4 v5 v6 v7:Option V)(U':Tk)(aB:List (V×Tr×Str))(gP:List (List Int))=>Vh (σ=[some (.ref x),some (.ref sn),some (.ref rw),some (.ref b),v4,v5,v6,v7]) (Same H Hi) (TalkAt M2 cK Hi b U' (tw many z rule t room aB bas gP)) (U'.gv=bg) (U'.lf=bl) (Full N Hi) (aB.length=cR.length+i) (gP.length=cX.length+i) ((tw many z rule t room aB bas gP).held=j.hld h0 ((es.map Prod.fst).take i)) (∀k,k<i->j.at h0 es k)) ?_ ?_ ?_ ?_⟩
 ·exact⟨_,_,_,_,Ub,cR,cX,rfl,t2,Tb,hbg,dq,hF.keep t2,rfl,rfl,hh0,fun k hk=>absurd hk (zBX _)⟩
 ·rintro i σ Hi _ ⟨v4,v5,v6,v7,U',aB,gP,rfl,si,_⟩
  exact si _ _ hrw
 ·rintro i y T2 σ Hi hy cP ⟨v4,v5,v6,v7,U',aB,gP,rfl,si,Ti,eg,el,fi,les',lls',hhi,hall⟩
  have hi:i<es.length:=by
   have:=(List.getElem?_eq_some_iff.mp hy).1
   omega
  have eE:es[i]? = some es[i]:=List.getElem?_eq_getElem hi
  obtain⟨y',eZ,hpx⟩:=hE.get eE
  rw[hy] at eZ
  cases eZ
  obtain⟨p,v',rfl,hp,hJ⟩:=hpx
  obtain⟨o1,o2,o3,o4⟩:=hok _ (zA8 hi)
  have sT:=Ab cP (.tup [.int (i:Nat),.ref p])
  have T2t:upd Hi T2 (.tup [.int (i:Nat),.ref p]) T2=some (.tup [.int (i:Nat),.ref p]):=upd_same
  generalize upd Hi T2 _=H4 at *
  have s4:=si.trans sT
  have T4:=Ti.keep sT
  have f4:=full2 T4 eg el (fi.keep sT)
  refine⟨SqT.of T2t,rfl,SqT.of (s4 _ _ hp),rfl,rfl,rfl,?_⟩
  refine⟨T4.ob,LC,b,sn,v',M2,U',_,es[i].1,seen,rfl,T4,f4,(hJ.keep (TS.same s4)).keep (ntb T4 eg el (hNt' s4)),o2,o3,SqL.of (s4 _ _ hN),dt,cV,by show aB.length<900;omega,by show gP.length+1<900;omega,fun z=>absurd z zAB,fun _ hn=>absurd o1 hn,fun _ _ U5 H5 b5 eg5 el5 kk5 T5=>?_⟩
  have hdue:Gp (tw many z rule t room aB bas gP) seen es[i].1=j.due (j.hld h0 ((es.map Prod.fst).take i)) es[i].1:=by
   rw[U8 Ti.going_sub bh,Vv,hhi,hj]
   rfl
  have s5:Same H H5:=But.same (fun m hm=>by
   simp only[zAS,zAT,or_false,eg,el] at hm
   rcases hm with rfl | rfl
   ·exact bg00
   ·exact bl00) s4 b5
  rw[hdue] at T5 ⊢
  refine⟨rfl,?_⟩
  by_cases c:j.due (j.hld h0 ((es.map Prod.fst).take i)) es[i].1=es[i].2
  ·refine DZ (by show V.str _=V.str _;rw[c]) ?_
   rw[LA,EB Ti.held_sub] at T5
   refine⟨_,_,_,_,U5,_,_,rfl,s5,T5,eg5.trans eg,el5.trans el,fun m hm=>kk5 m ((fi.keep sT) m hm),by rw[zA,les'];rfl,by rw[zA,lls'];rfl,?_,fun k hk=>?_⟩
   ·show (bas::(gP++[_])).getLastD []=_
    rw[<-List.cons_append,LH,zAI,ump eE,hhi]
    show _=j.hld h0 ((es.map Prod.fst).take i++[es[i].1])
    rw[j.hld_snoc]
    rfl
   ·by_cases ck:k<i
    ·exact hall k ck
    ·have e:k=i:=by omega
     subst e
     intro e he
     rw[eE] at he
     cases he
     exact c.symm
  ·refine HR (fun z=>c (by have z:V.str _=V.str _:=z;injection z)) ?_
   refine⟨BT,fun rp hrp=>?_⟩
   exact q _ _ (s5.trans (Ab hrp _))
 ·rintro σ Hi ⟨v4,v5,v6,v7,U',aB,gP,rfl,si,Ti,eg,el,fi,les',lls',hhi,hall⟩
  exact q _ _ si
end
def Ga:Option Bool->V
 | none=>.non
 | some b=>.bl b
def UU(w:Int)(i:Nat):Option Bool->Bool
 | none=>true
 | some b=>decide (b=BH i w)
def N8(az:List (Option Bool))(w:Int):Bool:=(az.mapIdx (UU w)).all id
theorem R7{az:List (Option Bool)}{i:Nat}(w:Int)(h:az[i]? = some m):(az.take (i+1)).mapIdx (UU w)=(az.take i).mapIdx (UU w)++[UU w i m]:=by
 have hi:=(List.getElem?_eq_some_iff.mp h).1
 have e:az.take (i+1)=az.take i++[m]:=by rw[zAI,h];rfl
 rw[e,List.mapIdx_concat,zAM,Nat.min_eq_left (by omega)]
inductive Lb(vs:List V)(H:Hp)(Q:VK)(E:XK):Prop where
 | mk (wd:Int) (m:Addr) (az:List (Option Bool)) (_:vs=[.int wd,.ref m]) (_:H m=some (.lst (az.map Ga))) (_:az.length<=5) (_:∀(H':Hp),Same H H'->Q (.bl (N8 az wd)) H'):Lb  vs H Q E
inductive KU(K:PySem.W.Frag)(vs:List V)(H:Hp)(Q:VK)(E:XK):Prop where
 | mk (r m:Addr) (row:List Int) (az:List (Option Bool)) (_:vs=[.ref r,.ref m]) (_:SqL K H r (row.map V.int)) (_:row.length<=900) (_:H m=some (.lst (az.map Ga))) (_:az.length<=5) (_:∀(l:Addr)(H':Hp),Same H H'->H l=none->Ay H' l (row.filter (N8 az))->Q (.ref l) H'):KU K vs H Q E
section
def R4:=As Mq ["world","marks"] 2
theorem Og(aa:Ev P w K mg aA aN cK cT cS cB cN cO):Fc P w K mg "agrees" Bh 2 Lb:=by
 refine aa.h73.ok R4 ?_
 rintro bz f ak A outer s H _ Q E hr ⟨wd,m,az,rfl,hm,hl,q⟩
 refine⟨_,AK (Ao (N7 rfl) (by rfl) aa.T.all boot_all (AR (BD (N:=["letter","mark","world"]) (js:=[none,none,some 0]) (cl:=[("world",s.heap.objs.size+1)]) ⟨rfl,rfl,rfl,(by intro p hp;simp at hp;rcases hp with rfl<;>rfl),rfl,rfl,rfl⟩ (Dr (by rfl) aa.zenumerate (AR (pv 1))) (fun c1=>(BI rfl (AE (AV 0 (show (["letter","mark","world"]:List Str).Nodup by decide +kernel)) (AE (AV 1 (show (["letter","mark","world"]:List Str).Nodup by decide +kernel)) Br)))) (fun c1=>Bi) (fun c1=>(K3 (Pm (IN (pv 1))) (B5 (BW AI (pv 1) (Am (JR aa) hr Ai (Av (pv 0) (pv 2))) (Cf _)))))))),?_⟩
 refine⟨m,_,rfl,hm,fun cc acc am=>CG (a:=m) (xs:=az.map Ga) (fun i σ H3=>BF fun(v0 v1:Option V)=>Cc (σ=[v0,v1,some (.int wd)]) (Same H H3) (H3 acc=some (.lst (((az.take i).mapIdx (UU wd)).map V.bl)))) ?_ ?_ ?_ ?_⟩
 ·exact⟨_,_,rfl,Ab am _,upd_same⟩
 ·rintro i σ H3 _ ⟨v0,v1,rfl,s3,h3⟩
  exact s3 _ _ hm
 ·rintro i y T2 σ H3 hy cP ⟨v0,v1,rfl,s3,h3⟩
  rw[List.getElem?_map] at hy
  obtain⟨mk,hk,rfl⟩:=Option.map_eq_some_iff.mp hy
  have hi:=(List.getElem?_eq_some_iff.mp hk).1
  have sT:=Ab cP (.tup [.int (i:Nat),Ga mk])
  have h4:=sT _ _ h3
  have s4:=s3.trans sT
  refine⟨SqT.of upd_same,rfl,rfl,?_⟩
  show C7 Ls (Dq acc _) _ _ _
  refine JK ?_
  have aJ:∀H5,Same (upd H3 T2 (.tup [.int (i:Nat),Ga mk])) H5->∃xs,Cc (H5 acc=some (.lst xs)) (xs.length<sizeLine) ((fun σ H3=>BF fun(v0 v1:Option V)=>Cc (σ=[v0,v1,some (.int wd)]) (Same H H3) (H3 acc=some (.lst (((az.take (i+1)).mapIdx (UU wd)).map V.bl)))) [some (.int (i:Nat)),some (Ga mk),some (.int wd)] (upd H5 acc (.lst (xs++[.bl (UU wd i mk)])))):=fun H5 s5=>by
   refine⟨_,s5 _ _ h4,Ap ?_,_,_,rfl,AA (s4.trans s5) am _,?_⟩
   ·rw[List.length_map,List.length_mapIdx,zAM];omega
   ·rw[upd_same,R7 wd hk,zAP];rfl
  cases mk with
  | none=>
   refine A8 ?_
   obtain⟨_,a,b,c⟩:=aJ _ (Same.refl _)
   exact⟨_,a,b,c⟩
  | some b=>
   refine AY ?_
   refine⟨i,wd,rfl,rfl,?_⟩
   have e:decide (Ga (some b)=V.bl (BH i wd))=UU wd i (some b):=RN b (BH i wd)
   rw[e]
   obtain⟨_,a,b,c⟩:=aJ _ (Same.refl _)
   exact⟨_,a,b,c⟩
 ·rintro σ H3 ⟨v0,v1,rfl,s3,h3⟩
  rw[List.length_map,zAN] at h3
  exact⟨acc,_,rfl,SqL.of h3,q _ s3⟩
def RJ:=As Ni ["room","marks"] 2
theorem On(aa:Ev P w K mg aA aN cK cT cS cB cN cO):Fc P w K mg "seen_by" Bh 3 (KU K):=by
 refine aa.h74.ok RJ ?_
 rintro bz f ak A outer s H _ Q E hr ⟨r,m,row,az,rfl,hS,hl,hm,hml,q⟩
 refine⟨_,AK (BD (N:=["world","marks"]) (js:=[none,some 1]) (cl:=[("marks",s.heap.objs.size+1)]) ⟨rfl,rfl,rfl,(by intro p hp;simp at hp;rcases hp with rfl<;>rfl),rfl,rfl,rfl⟩ (AJ (pv 0)) (fun c1=>(AV 0 (show (["world","marks"]:List Str).Nodup by decide +kernel))) (fun c1=>(EH (A6 (Am (Og aa) hr Ai (Av (pv 0) (pv 1)))))) (fun c1=>(pv 0))),?_⟩
 refine⟨⟨_,hS⟩,fun cc acc am=>Dz (p:=N8 az) (rest:=[some (.ref m)]) hS am hl (fun k hk H2 s2 R hR=>?_) (fun v0 H2 s2 h2=>q acc H2 s2 am h2) none⟩
 exact⟨k,m,az,rfl,s2 _ _ hm,hml,fun H3 s3=>hR H3 s3⟩
end
def EO(ms:List (Option Bool)):List (List (Option Bool)):=[ms++[none],ms++[some false],ms++[some true]]
def Cn:Nat->List (List (Option Bool))
 | 0=>[[]]
 | n+1=>(Cn n).flatMap EO
theorem Nk:∀(l:List (List (Option Bool))),(l.flatMap EO).length=3*l.length
 | []=>rfl
 | x::l=>by
  rw[zDE,zA,Nk l]
  show 3+3*l.length=3*(l.length+1)
  omega
theorem He:∀n,n<=5->(Cn n).length<=243:=by decide
theorem E4:∀(n:Nat),∀ms∈Cn n,ms.length=n
 | 0,ms,h=>by rw[List.mem_singleton.mp h];rfl
 | n+1,ms,h=>by
  obtain⟨m0,h0,h1⟩:=List.mem_flatMap.mp h
  have:=E4 n m0 h0
  simp only[EO,zAS,zAT,or_false] at h1
  rcases h1 with rfl | rfl | rfl<;>rw[zA,this]<;>rfl
abbrev Ds(H:Hp)(p:Addr)(ms:List (Option Bool)):Prop:=H p=some (.lst (ms.map Ga))
structure MksAt(H0 H:Hp)(ps:List Addr)(bH:List (List (Option Bool))):Prop where
 at_:Paired (Ds H) ps bH
 fr:∀p∈ps,H0 p=none
 nd:ps.Nodup
theorem Dn{H H':Hp}(s:Same H H'):∀{ps:List Addr}{bH:List (List (Option Bool))},Paired (Ds H) ps bH->Paired (Ds H') ps bH
 | _,_,.nil=>.nil
 | _,_,.cons h q=>.cons (s _ _ h) (Dn s q)
theorem Ha{H:Hp}:∀{ps:List Addr}{bH:List (List (Option Bool))},Paired (Ds H) ps bH->∀p∈ps,∃ms:List (Option Bool),H p=some (.lst (ms.map Ga))
 | _,_,.cons h q,p,hp=>by
  rcases List.mem_cons.mp hp with rfl | hp
  ·exact⟨_,h⟩
  ·exact Ha q p hp
theorem Et{α β:Type}{R:α->β->Prop}{a:α}{b:β}(h:R a b):∀{xs:List α}{ys:List β},Paired R xs ys->Paired R (xs++[a]) (ys++[b])
 | _,_,.nil=>.cons h .nil
 | _,_,.cons r q=>.cons r (Et h q)
theorem Rv{α β:Type}{R:α->β->Prop}:∀{xs:List α}{ys:List β}{i:Nat}{x:α}{y:β},Paired R xs ys->xs[i]? = some x->ys[i]? = some y->R x y
 | _,_,_,_,_,.nil,h,_=>by simp at h
 | _,_,0,_,_,.cons r _,h1,h2=>by
  simp at h1 h2
  subst h1 h2
  exact r
 | _,_,i+1,_,_,.cons _ q,h1,h2=>Rv (i:=i) q (by simpa using h1) (by simpa using h2)
theorem MksAt.keep(s:Same H H')(h:MksAt H0 H ps bH):MksAt H0 H' ps bH:=⟨Dn s h.at_,h.fr,h.nd⟩
theorem MksAt.snoc(s0:Same H0 H)(s:Same H H')(h:MksAt H0 H ps bH)(hp:H p=none)(hp':H' p=some (.lst (ms.map Ga))):MksAt H0 H' (ps++[p]) (bH++[ms]):=by
 have hnp:p∉ps:=fun z=>by
  obtain⟨ms,e⟩:=Ha h.at_ p z
  rw[hp] at e
  cases e
 refine⟨Et (R:=Ds H') hp' (Dn s h.at_),fun q hq=>?_,?_⟩
 ·rcases List.mem_append.mp hq with hq | hq
  ·exact h.fr q hq
  ·rw[List.mem_singleton.mp hq]
   cases e:H0 p with
   | none=>rfl
   | some o=>rw[s0 _ _ e] at hp;cases hp
 ·exact List.nodup_append.mpr ⟨h.nd,List.nodup_cons.mpr ⟨(fun e=>by cases e),zB1⟩,fun b hb c hc e=>hnp (by rw[<-List.mem_singleton.mp hc,<-e];exact hb)⟩
theorem IJ{H:Hp}{a:Addr}{o:HO}:∀{ps:List Addr}{bH:List (List (Option Bool))},a∉ps->Paired (Ds H) ps bH->Paired (Ds (upd H a o)) ps bH
 | _,_,_,.nil=>.nil
 | _,_,hn,.cons h q=>.cons (by
   show upd H a o _=_
   rw[Al fun e=>hn (by rw[e];exact List.mem_cons_self)]
   exact h) (IJ (fun z=>hn (List.mem_cons_of_mem _ z)) q)
theorem MksAt.put(hn:a∉ps)(h:MksAt H0 H ps bH):MksAt H0 (upd H a o) ps bH:=⟨IJ hn h.at_,h.fr,h.nd⟩
theorem MksAt.get{ps:List Addr}{bH:List (List (Option Bool))}{i:Nat}(h:MksAt H0 H ps bH)(hv:(ps.map V.ref)[i]? = some v):BF fun p ms=>Fs (v= .ref p) (p∈ps) (ps[i]? = some p) (bH[i]? = some ms) (H p=some (.lst (ms.map Ga))):=by
 rw[List.getElem?_map] at hv
 cases e:ps[i]? with
 | none=>rw[e] at hv;cases hv
 | some p=>
  rw[e] at hv
  have hi:=(List.getElem?_eq_some_iff.mp e).1
  have hl:i<bH.length:=by have:=zA1 h.at_;omega
  refine⟨p,bH[i],(zAE hv).symm,zAJ e,rfl,List.getElem?_eq_getElem hl,?_⟩
  exact Rv (R:=Ds H) h.at_ e (List.getElem?_eq_getElem hl)
theorem MksAt.len(h:MksAt H0 H ps bH):ps.length=bH.length:=zA1 h.at_
def mark3:List (Option Bool):=[none,some false,some true]
inductive G8(vs:List V)(H:Hp)(Q:VK)(E:XK):Prop where
 | mk (m:Nat) (_:vs=[.int (m:Int)]) (_:m<=5) (_:∀(l:Addr)(ps:List Addr)(H':Hp),Same H H'->H l=none->H' l=some (.lst (ps.map V.ref))->MksAt H H' ps (Cn m)->l∉ps->Q (.ref l) H'):G8  vs H Q E
theorem N0{l:List (List (Option Bool))}{i:Nat}{ms:List (Option Bool)}(h:l[i]? = some ms):(l.take (i+1)).flatMap EO=(l.take i).flatMap EO++EO ms:=by
 rw[zAI,h,List.flatMap_append]
 rfl
section
variable {bz:Heap}
def scAllMarks:=As HN ["many","rows","letter"] 1
def scAllDue:=As NK ["rule","sides","seen","answers","base","held","worlds","word","going"] 4
def scGuesses:=As KO ["many","room","kind","sentence","row","sides","answers","told","rule","marks","seen"] 5
theorem Ka(aa:Ev P w K mg aA aN cK cT cS cB cN cO):Fc P w K mg "all_marks" Bh 1 G8:=by
 refine aa.h72.ok scAllMarks ?_
 rintro bz f ak A outer s H _ Q E hr ⟨m,rfl,bB,q⟩
 refine⟨_,Aa (Az 1 scAllMarks.nd (Ar (AR (Ar Bk))))
  (Aa (A7 zAR rfl (DR (by rfl) aa.B.range (AR (pv 0))) (AV 2 scAllMarks.nd)
   (Aj (Lk (i:=1) scAllMarks.nd rfl (Or.inl rfl) (N:=["marks","mark"]) (js:=[none,none]) (cl:=[]) ⟨rfl,rfl,rfl,zB0 _,rfl,rfl,rfl⟩ (AJ (pv 1)) (fun c1=>(AV 0 (show (["marks","mark"]:List Str).Nodup by decide +kernel))) (fun c1=>Bi) (fun c1=>(L8 (Aw (Ac Dd (Av BQ BQ))))) (fun c1=>(AV 1 (show (["marks","mark"]:List Str).Nodup by decide +kernel))) (fun c1=>Bi) (fun c1=>(Ak Ek (pv 0) (Ar (AR (pv 1))))))))
  (AK (pv 1))),?_⟩
 refine⟨IF,fun r0 hr0=>⟨Gc,fun l0 aY=>?_⟩⟩
 have s0:=Ab hr0 (.lst [])
 have e0:upd H r0 (.lst []) r0=some (.lst []):=upd_same
 generalize upd H r0 _=H0 at *
 have s1:=Ab aY (.lst [.ref r0])
 have e1:upd H0 l0 (.lst [.ref r0]) l0=some (.lst [.ref r0]):=upd_same
 have er:=s1 _ _ e0
 generalize upd H0 l0 _=H1 at *
 have nl0:H l0=none:=s0.free aY
 refine⟨(by omega),(by omega),BU (fun i σ Hi=>D0 fun(l:Addr)(ps:List Addr)(v2:Option V)=>TB (σ=[some (.int (m:Int)),some (.ref l),v2]) (Same H Hi) (H l=none) (Hi l=some (.lst (ps.map V.ref))) (MksAt H Hi ps (Cn i)) (l∉ps)) ⟨l0,[r0],none,rfl,s0.trans s1,nl0,e1,⟨.cons er .nil,fun p hp=>by rw[List.mem_singleton.mp hp];exact hr0,List.nodup_cons.mpr ⟨(fun e=>by cases e),zB1⟩⟩,fun z=>by rw[List.mem_singleton.mp z,e0] at aY;cases aY⟩ ?_ ?_⟩
 ·rintro i σ Hi hi ⟨l,ps,v2,rfl,si,nl,hl,hM,f9⟩
  have hi5:i<5:=by
   have h0:i<((m:Int)).toNat:=hi
   omega
  have ia:=He i (by omega)
  have aD:=hM.len
  refine⟨⟨_,SqL.of hl⟩,fun cc acc am=>AG (K:=K) (a:=l) (xs:=ps.map V.ref) (fun a σ H2=>D0 fun(v0 v1:Option V)(qs:List Addr)=>Fs (σ=[v0,v1]) (Same Hi H2) (H2 acc=some (.lst (qs.map V.ref))) (MksAt H H2 qs (((Cn i).take a).flatMap EO)) (acc∉qs)) ⟨_,_,[],rfl,Ab am _,upd_same,⟨.nil,(fun p hp=>nomatch hp),zB1⟩,fun z=>nomatch z⟩ ?_ ?_ ?_⟩
  ·rintro a σ H2 _ ⟨v0,v1,qs,rfl,s2,_⟩
   exact SqL.of (s2 _ _ hl)
  ·rintro a x σ H2 hx ⟨v0,v1,qs,rfl,s2,ha,hQ,eT⟩
   obtain⟨p,ms,rfl,hp,ie,hms,dH⟩:=hM.get hx
   have hpe2:=s2 _ _ dH
   have hml:=E4 i ms (zAJ hms)
   refine JK ⟨E2,fun tp eG=>⟨⟨_,SqT.of upd_same⟩,Jq (K:=K) (a:=tp) (xs:=mark3.map Ga) (fun b σ H3=>BF fun(v1:Option V)(qs:List Addr)=>TB (σ=[some (.ref p),v1]) (Same Hi H3) (H3 tp=some (.tup (mark3.map Ga))) (H3 acc=some (.lst (qs.map V.ref))) (MksAt H H3 qs (((Cn i).take a).flatMap EO++(EO ms).take b)) (acc∉qs)) ?_ ?_ ?_ ?_⟩⟩
   ·refine⟨_,qs,rfl,s2.trans (Ab eG _),upd_same,(Ab eG _) _ _ ha,?_,eT⟩
    rw[zCG,zAU]
    exact hQ.keep (Ab eG _)
   ·rintro b σ H3 _ ⟨v1,qs,rfl,s3,ht,_⟩
    exact SqT.of ht
   ·rintro b x σ H3 hb ⟨v1,qs,rfl,s3,ht,dm,hQ3,hna3⟩
    have hb3:b<3:=(List.getElem?_eq_some_iff.mp hb).1
    obtain⟨mk,rfl,hmk⟩:∃mk,x=Ga mk/\(EO ms)[b]? = some (ms++[mk]):=by
     rcases (show b=0\/b=1\/b=2 by omega) with rfl | rfl | rfl
     ·exact⟨none,(zAE hb).symm,rfl⟩
     ·exact⟨some false,(zAE hb).symm,rfl⟩
     ·exact⟨some true,(zAE hb).symm,rfl⟩
    have cU:=s3 _ _ dH
    refine JK ⟨Gc,fun f1 fK=>?_⟩
    have u1:=Ab fK (.lst [Ga mk])
    have g1:upd H3 f1 (.lst [Ga mk]) f1=some (.lst [Ga mk]):=upd_same
    generalize upd H3 f1 _=H4 at *
    refine⟨p,f1,_,_,rfl,rfl,u1 _ _ cU,g1,?_,fun f2 hf2=>?_⟩
    ·rw[List.length_map,hml]
     exact zAC (show i+1<=10 by omega) (by decide)
    have u2:=Ab hf2 (.lst (ms.map Ga++[Ga mk]))
    have g2:upd H4 f2 (.lst (ms.map Ga++[Ga mk])) f2=some (.lst ((ms++[mk]).map Ga)):=by rw[upd_same,zAP];rfl
    have hQ5:=MksAt.snoc (si.trans (s3.trans u1)) u2 (hQ3.keep u1) hf2 g2
    have hnf:acc≠f2:=Ah (u1 _ _ dm) hf2
    generalize upd H4 f2 _=H5 at *
    have ha5:=u2 _ _ (u1 _ _ dm)
    have ht5:=u2 _ _ (u1 _ _ ht)
    refine⟨_,ha5,?_,?_⟩
    ·have h1:=hQ3.len
     have h2:((Cn i).take a).length<=243:=by rw[zAM];omega
     rw[zA,Nk] at h1
     have h3:(EO ms).length=3:=rfl
     have h4:((EO ms).take b).length<=3:=by rw[zAM,h3];omega
     rw[List.length_map]
     exact zBL (show qs.length<=732 by omega) (by decide)
    ·refine⟨_,qs++[f2],rfl,AA (s3.trans (u1.trans u2)) am _,by rw[Al (CI ht5 ha5 (by intro z;cases z))];exact ht5,by rw[upd_same,zAP];rfl,?_,?_⟩
     ·rw[zAI,hmk,<-zA9]
      refine MksAt.put (fun z=>?_) hQ5
      rcases List.mem_append.mp z with z | z
      ·exact hna3 z
      ·exact hnf (List.mem_singleton.mp z)
     ·intro z
      rcases List.mem_append.mp z with z | z
      ·exact hna3 z
      ·exact hnf (List.mem_singleton.mp z)
   ·rintro σ H3 ⟨v1,qs,rfl,s3,ht,dm,hQ3,hna3⟩
    refine⟨_,_,qs,rfl,s3,dm,?_,hna3⟩
    rw[N0 hms]
    have e:(EO ms).take (mark3.map Ga).length=EO ms:=rfl
    rw[e] at hQ3
    exact hQ3
  ·rintro σ H2 ⟨v0,v1,qs,rfl,s2,ha,hQ,eT⟩
   refine⟨acc,qs,_,rfl,si.trans s2,si.free am,ha,?_,eT⟩
   rw[List.length_map,aD,zAN] at hQ
   exact hQ
 ·rintro σ Hi ⟨l,ps,v2,rfl,si,nl,hl,hM,f9⟩
  exact q l ps Hi si nl hl (by simpa using hM) f9
end
abbrev AnAt(H:Hp)(room:List Int):List V->List (Tr×Str)->Prop:=Paired fun(v:V)(e:Tr×Str)=>BF fun p l=>Cc (v= .ref p) (H p=some (.tup [.ref l,.str e.2])) (Ay H l (AQ true e.1 room))
theorem AnAt.keep{H H':Hp}{room:List Int}(s:Same H H'):∀{xs:List V}{es:List (Tr×Str)},AnAt H room xs es->AnAt H' room xs es
 | _,_,.nil=>.nil
 | _,_,.cons ⟨p,l,e,h1,h2⟩ q=>.cons ⟨p,l,e,s _ _ h1,s _ _ h2⟩ (AnAt.keep s q)
def OF(j:Jp)(es:List (Tr×Str)):Bool:=decide (j.ans j.bas (es.map Prod.fst)=es)
theorem Qp(h:j.ans j.bas ((es.take i).map Prod.fst)=es.take i)(he:es[i]? = some e):(j.due (Bn j.bas (es.take i)) e.1=e.2->j.ans j.bas ((es.take (i+1)).map Prod.fst)=es.take (i+1))/\(j.due (Bn j.bas (es.take i)) e.1≠e.2->OF j es=false):=by
 have hh:j.hld j.bas ((es.take i).map Prod.fst)=Bn j.bas (es.take i):=by rw[<-j.held,h]
 constructor
 ·intro c
  rw[zAI,he]
  show j.ans j.bas ((es.take i++[e]).map Prod.fst)=es.take i++[e]
  rw[zAP]
  show j.ans j.bas ((es.take i).map Prod.fst++[e.1])=_
  rw[j.ans_snoc,h,hh,c]
 ·intro c
  unfold OF
  refine decide_eq_false fun z=>c ?_
  have hu:(es.map Prod.fst)[i]? = some e.1:=by rw[List.getElem?_map,he];rfl
  have h1:=j.ans_get (es.map Prod.fst) j.bas i e.1 hu
  rw[z,he] at h1
  have h2:=zAE h1
  rw[List.map_take] at hh
  rw[hh] at h2
  exact (congrArg Prod.snd h2).symm
inductive KD(K:PySem.W.Frag)(vs:List V)(H:Hp)(Q:VK)(E:XK):Prop where
 | mk (sd sn an:Addr) (rule:Str) (xs ys:List V) (S:List (List Int)) (room seen:List Int) (es:List (Tr×Str)) (_:vs=[.str rule,.ref sd,.ref sn,.ref an]) (_:H sd=some (.lst xs)) (_:RowsAt H xs S) (_:(∀s∈S,s.Sublist room)) (_:S.length<=2) (_:B2 S<64) (_:Wr room) (_:Ay H sn seen) (_:seen.Sublist room) (_:seen≠[]) (_:H an=some (.lst ys)) (_:AnAt H room ys es) (_:∀H',Same H H'->Q (.bl (OF ⟨S,rule,Ci room S,seen⟩ es)) H'):KD K vs H Q E
section
theorem Oy(aa:Ev P w K mg aA aN cK cT cS cB cN cO):Fc P w K mg "all_due" Bh 6 (KD K):=by
 refine aa.h75.ok scAllDue ?_
 rintro bz f ak A outer s H _ Q E hr ⟨sd,sn,an,rule,xs,ys,S,room,seen,es,rfl,cb,hS,aw,bE,hlS,wr,hsn,hss,hsne,han,hA,q⟩
 have aD:=zA1 hA
 refine⟨_,Aa (Az 4 scAllDue.nd (Am (Fa aa) hr Ai (AR (pv 1))))
  (Aa (Az 5 scAllDue.nd (pv 4))
  (Aa (A7 zAR rfl (AJ (pv 3)) (BI rfl (AE (AV 6 scAllDue.nd) (AE (AV 7 scAllDue.nd) Br)))
   (Aa (Az 8 scAllDue.nd (Dl (AH AI (pv 0) Ae) (pv 5) (pv 4)))
   (Aa (An (AH Cl (Am (DL aa) hr Ai (Ac (pv 1) (Ac (pv 8) (Av (pv 2) (pv 6))))) (pv 7))
    (AK BQ)
    Ag)
   (Aj (Az 5 scAllDue.nd (Am (CB aa) hr Ai (Ac (pv 7) (Av (pv 5) (pv 6)))))))))
  (AK BQ))),?_⟩
 refine⟨sd,xs,S,rfl,SqL.of cb,hS,hlS,fun bl H2 ns s2 gK cy au dq=>?_⟩
 have en:=GS wr aw cy au
 rw[en] at dq
 have fC:(Ci room S).Sublist room:=base_sub
 generalize bN:Ci room S=bas at *
 refine ?_
 refine⟨⟨_,SqL.of (s2 _ _ han)⟩,AG (K:=K) (a:=an) (xs:=ys) (fun i σ H3=>TK fun(v6 v7 v8:Option V)(hl:Addr)=>Hw (σ=[some (.str rule),some (.ref sd),some (.ref sn),some (.ref an),some (.ref bl),some (.ref hl),v6,v7,v8]) (Same H2 H3) (Ay H3 hl (Bn bas (es.take i))) (Jp.ans ⟨S,rule,bas,seen⟩ bas ((es.take i).map Prod.fst)=es.take i)) ?_ ?_ ?_ ?_⟩
 ·exact⟨_,_,_,bl,rfl,Same.refl _,dq,rfl⟩
 ·rintro i σ H3 _ ⟨v6,v7,v8,hl,rfl,s3,_⟩
  exact SqL.of (s3 _ _ (s2 _ _ han))
 ·rintro i x σ H3 hx ⟨v6,v7,v8,hl,rfl,s3,hhl,hans⟩
  have hi:i<es.length:=by
   have:=(List.getElem?_eq_some_iff.mp hx).1
   omega
  have he:es[i]? = some es[i]:=List.getElem?_eq_getElem hi
  generalize es[i]=e at *
  have t3:=s2.trans s3
  obtain⟨p,wl,rfl,hp,be⟩:=Rv hA hx he
  have cU:=t3 _ _ hp
  have hwl3:=t3 _ _ be
  have fE:(Bn bas (es.take i)).Sublist room:=(CA _ _).trans fC
  refine⟨SqT.of cU,rfl,rfl,?_⟩
  refine Sx (fun σ H'=>∃gl,Cc (σ=[some (.str rule),some (.ref sd),some (.ref sn),some (.ref an),some (.ref bl),some (.ref hl),some (.ref wl),some (.str e.2),some (.ref gl)]) (H'=H3) (Ay H3 gl (Kl rule bas (Bn bas (es.take i))))) ?_ fun go=>?_
  ·rintro σ H' ⟨gl,rfl,rfl,cM⟩
   have fD:(Kl rule bas (Bn bas (es.take i))).Sublist room:=by
    unfold Kl
    split
    ·exact fE
    ·exact fC
   obtain⟨stY,stN⟩:=Qp (j:=⟨S,rule,bas,seen⟩) hans he
   refine⟨sd,gl,sn,wl,xs,S,_,seen,_,rfl,t3 _ _ cb,hS.keep t3,(fun s hs=>wr.sub (aw s hs)),bE,SqL.of cM,wr.sub fD,SqL.of (t3 _ _ hsn),wr.sub hss,hsne,SqL.of hwl3,wr.sub zAK,fun H4 s4=>?_⟩
   have wl9:(AQ true e.1 room).length<=900:=by
    have:=(wr.sub (show (AQ true e.1 room).Sublist room from zAK)).len
    omega
   rw[P8 fD hss]
   have t4:=t3.trans s4
   refine⟨rfl,?_⟩
   by_cases c:PF S (Kl rule bas (Bn bas (es.take i))) seen e.1=e.2
   ·rw[c]
    refine DZ rfl ?_
    refine⟨e.2,hl,wl,_,_,rfl,SqL.of (s4 _ _ hhl),wr.sub fE,SqL.of (s4 _ _ hwl3),wl9,fun l H5 s5 l0 hl5=>?_⟩
    rw[EB fE] at hl5
    refine⟨_,_,_,l,rfl,s3.trans (s4.trans s5),?_,stY c⟩
    rw[zAI,he]
    show Ay H5 l (Bn bas (es.take i++[e]))
    rw[E9]
    exact hl5
   ·refine HR (fun z=>c (by injection z)) ?_
    have:=q H4 t4
    rw[stN c] at this
    exact this
  ·refine⟨rfl,?_⟩
   by_cases c:rule="elder"
   ·refine Bc (by rw[c]) (go _ _ ⟨hl,rfl,rfl,?_⟩)
    unfold Kl
    rw[if_pos c]
    exact hhl
   ·refine Ba (fun z=>c (by injection z)) (go _ _ ⟨bl,rfl,rfl,?_⟩)
    unfold Kl
    rw[if_neg c]
    exact s3 _ _ dq
 ·rintro σ H3 ⟨v6,v7,v8,hl,rfl,s3,hhl,hans⟩
  rw[aD,zAN] at hans
  have:=q H3 (s2.trans s3)
  unfold OF at this
  rw[decide_eq_true hans] at this
  exact this
end
def Jc(S:List (List Int))(room:List Int)(es:List (Tr×Str))(rule:Str)(ms:List (Option Bool)):Bool:=!(room.filter (N8 ms)).isEmpty && OF ⟨S,rule,Ci room S,room.filter (N8 ms)⟩ es
def fits(S:List (List Int))(room:List Int)(es:List (Tr×Str))(rule:Str)(l:List (List (Option Bool))):List (Str×List (Option Bool)):=(l.filter (Jc S room es rule)).map fun ms=>(rule,ms)
theorem HD{S:List (List Int)}{room:List Int}{es:List (Tr×Str)}{rule:Str}{l:List (List (Option Bool))}{i:Nat}{ms:List (Option Bool)}(h:l[i]? = some ms):fits S room es rule (l.take (i+1))=fits S room es rule (l.take i)++(if Jc S room es rule ms then[(rule,ms)] else[]):=by
 unfold fits
 rw[zAI,h,zCN,zAP]
 congr 1
 rw[Option.toList_some,List.filter_cons]
 split<;>rfl
structure ToldAt(H0 H:Hp)(xs:List V)(gs:List (Str×List (Option Bool)))(ps:List Addr):Prop where
 at_:Paired (fun(v:V)(g:Str×Addr)=>∃q,v= .ref q/\H q=some (.tup [.str g.1,.ref g.2])) xs ((gs.map Prod.fst).zip ps)
 mks:MksAt H0 H ps (gs.map Prod.snd)
theorem Ei{H H':Hp}(s:TS H H'):∀{xs:List V}{gs:List (Str×Addr)},Paired (fun(v:V)(g:Str×Addr)=>∃q,v= .ref q/\H q=some (.tup [.str g.1,.ref g.2])) xs gs->Paired (fun(v:V)(g:Str×Addr)=>∃q,v= .ref q/\H' q=some (.tup [.str g.1,.ref g.2])) xs gs
 | _,_,.nil=>.nil
 | _,_,.cons ⟨q,e,h⟩ r=>.cons ⟨q,e,s _ _ h⟩ (Ei s r)
theorem ToldAt.keep(s:Same H H')(h:ToldAt H0 H xs gs ps):ToldAt H0 H' xs gs ps:=⟨Ei (TS.same s) h.at_,h.mks.keep s⟩
theorem Kk{α β:Type}{a:α}{b:β}:∀{xs:List α}{ys:List β},xs.length=ys.length->(xs++[a]).zip (ys++[b])=xs.zip ys++[(a,b)]
 | [],[],_=>rfl
 | x::xs,y::ys,h=>by
  show (x,y)::(xs++[a]).zip (ys++[b])=_
  rw[Kk (by simpa using h)]
  rfl
theorem ToldAt.len(h:ToldAt H0 H xs gs ps):xs.length=gs.length/\ps.length=gs.length:=by
 have h1:=zA1 h.at_
 have h2:=zA1 h.mks.at_
 rw[List.length_zip,List.length_map] at h1
 rw[List.length_map] at h2
 omega
theorem Mb{st:Stmt}(h:PS X.nox st t):PS X st t:=fun pins s σ H D I hw=>
 wpAny_mono (h pins s σ H D (I.wish _) hw) (fun _ _ q=>q.unwish) fun _ _ z=>False.elim z
theorem AnAt.snoc(h:BF fun p l=>Cc (v= .ref p) (H p=some (.tup [.ref l,.str e.2])) (Ay H l (AQ true e.1 room))):∀{xs:List V}{es:List (Tr×Str)},AnAt H room xs es->AnAt H room (xs++[v]) (es++[e]):=fun q=>Et h q
theorem ToldAt.put(ha:H a=some (.lst ys))(hn:a∉ps)(h:ToldAt H0 H xs gs ps):ToldAt H0 (upd H a (.lst zs)) xs gs ps:=⟨Ei (TS.lst ha) h.at_,h.mks.put hn⟩
theorem ToldAt.snoc{rule:Str}(h:ToldAt H0 H xs gs ps)(hq:H q=some (.tup [.str rule,.ref p]))(hp:H p=some (.lst (ms.map Ga)))(h0:H0 p=none)(hn:p∉ps):ToldAt H0 H (xs++[.ref q]) (gs++[(rule,ms)]) (ps++[p]):=by
 refine⟨?_,?_,fun a ha=>?_,?_⟩
 ·rw[zAP]
  show Paired _ _ ((gs.map Prod.fst++[rule]).zip (ps++[p]))
  rw[Kk (by rw[List.length_map];exact h.len.2.symm)]
  exact Et ⟨q,rfl,hq⟩ h.at_
 ·rw[zAP]
  exact Et (R:=Ds H) hp h.mks.at_
 ·rcases List.mem_append.mp ha with ha | ha
  ·exact h.mks.fr a ha
  ·rw[List.mem_singleton.mp ha];exact h0
 ·exact List.nodup_append.mpr ⟨h.mks.nd,List.nodup_cons.mpr ⟨(fun e=>by cases e),zB1⟩,fun b hb c hc e=>hn (by rw[<-List.mem_singleton.mp hc,<-e];exact hb)⟩
def rules2:List Str:=["elder","newer"]
theorem K5(S:List (List Int))(room:List Int)(es:List (Tr×Str))(rule:Str)(l:List (List (Option Bool))):(fits S room es rule l).length<=l.length:=by
 unfold fits
 rw[List.length_map]
 exact zA0 _ _
theorem O6(hm:m<=5)(hr:r<2):((rules2.take r).flatMap fun rule=>fits S room es rule (Cn m)).length<=243:=by
 have h:=He m hm
 rcases (show r=0\/r=1 by omega) with rfl | rfl
 ·exact zA4 _
 ·show (fits S room es "elder" (Cn m)++[]).length<=243
  rw[zAU]
  exact zAC (K5 ..) h
theorem S9{l:List Addr}{a:Nat}(h:l.Nodup)(hp:l[a]? = some p):p∉l.take a:=fun z=>by
 obtain⟨j,hj⟩:=List.getElem?_of_mem z
 have hja:j<a:=by
  have:=(List.getElem?_eq_some_iff.mp hj).1
  rw[zAM] at this
  omega
 rw[List.getElem?_take_of_lt hja] at hj
 have:=(List.getElem?_inj (List.getElem?_eq_some_iff.mp hj).1 h).mp (hj.trans hp.symm)
 omega
theorem ToldAt.nil:ToldAt H0 H [] [] []:=⟨.nil,.nil,(fun p hp=>nomatch hp),zB1⟩
inductive HC(K:PySem.W.Frag)(cS cB cN:Addr)(vs:List V)(H:Hp)(Q:VK)(E:XK):Prop where
 | mk (rm rw:Addr) (room:List Int) (ps:List V) (es:List (Tr×Str)) (m:Nat) (z:Str) (v:V) (t:Tr) (_:vs=[.int m,.ref rm,.str z,v,.ref rw]) (_:Ay H rm room) (_:Wr room) (_:t.At H v) (_:t.ok 5) (_:t.size<=60) (_:H rw=some (.lst ps)) (_:PairsAt H ps es) (_:EJ es) (_:es.length<=300) (_:m<=5) (_:(¬t.ok m->∀H',Same H H'->E (.ref cS) none H')) (_:(t.ok m->¬AM z->∀H',Same H H'->E (.ref cB) none H')) (_:(t.ok m->AM z->[]∈Au z t room->∀H',Same H H'->E (.ref cN) none H')) (_:(t.ok m->AM z->[]∉Au z t room->Cy m es->∀H',Same H H'->E (.ref cS) none H')) (_:(t.ok m->AM z->[]∉Au z t room->Cv m es->∀H',Same H H'->E (.ref cB) none H')) (_:(t.ok m->AM z->[]∉Au z t room->D6 m es->∀(x:V)(H':Hp),Same H H'->Q x H')):HC K cS cB cN vs H Q E
section
theorem GD(aa:Ev P w K mg aA aN cK cT cS cB cN cO):Fc P w K mg "guesses" (GR P w) 7 (HC K cS cB cN):=by
 refine aa.h76.okX scGuesses ?_
 rintro bz f ak A outer s H _ Q E hr ⟨rm,rw,room,ps,es,m,z,v,t,rfl,aW,wr,ha,ok5,ay,hrw,hE,hrs,aj,bB,q1,q2,q3,q4,q5,qq⟩
 have aD:=hE.len
 refine⟨_,Aa (Az 5 scGuesses.nd (Am (GY aa) hr (Ax (E1:=E) fun _ _ _ h=>h) (Ac (pv 0) (Ac (pv 1) (Ac (pv 2) (Av (pv 3) (pv 4)))))))
  (Aa (Mb (Gr (i:=6) scGuesses.nd rfl (Or.inl rfl) (N:=["said","word","room"]) (js:=[none,none,some 1]) (cl:=[("room",s.heap.objs.size+1)]) ⟨rfl,rfl,rfl,(by intro p hp;simp at hp;rcases hp with rfl<;>rfl),rfl,rfl,rfl⟩ (AJ (pv 4)) (fun c1=>(BI rfl (AE (AV 0 (show (["said","word","room"]:List Str).Nodup by decide +kernel)) (AE (AV 1 (show (["said","word","room"]:List Str).Nodup by decide +kernel)) Br)))) (fun c1=>Bi) (fun c1=>(Aw (Av (Am (BE aa) hr Ai (Av (pv 0) (pv 2))) (pv 1))))))
  (Aa (Az 7 scGuesses.nd (Ar Bk))
  (Aa (A7 zB7 rfl (L8 (Aw (Av Ae Ae))) (AV 8 scGuesses.nd)
   (Aj (A7 zB7 rfl (AJ (Am (Ka aa) hr Ai (AR (pv 0)))) (AV 9 scGuesses.nd)
    (Aa (Az 10 scGuesses.nd (Am (On aa) hr Ai (Av (pv 1) (pv 9))))
    (Aj (An (IO (CO (pv 10) (fun _=>rfl)) (FY (A6 (Am (Oy aa) hr Ai (Ac (pv 8) (Ac (pv 5) (Av (pv 10) (pv 6)))))))).pt
     (Aj (AC (BA (pv 7) (AR (Aw (Av (pv 8) (pv 9)))))))
     Ag))))))
  (AK (pv 7))))),?_⟩
 refine⟨rm,rw,room,ps,es,m,z,v,t,rfl,SqL.of aW,wr,ha,ok5,ay,SqL.of hrw,hE,hrs,q1,q2,q3,q4,q5,fun gL hk eQ hok sd xs H1 s1 sd0 cb hS=>?_⟩
 have q:=qq gL hk eQ hok
 have okE:∀e∈es,e.1.ok 5/\e.1.size<=60:=fun e he=>⟨(hok e he).2.1,(hok e he).2.2.1⟩
 refine⟨⟨_,SqL.of (s1 _ _ hrw)⟩,fun cc acc am=>AG (K:=K) (a:=rw) (xs:=ps) (fun i σ H2=>D0 fun(v0 v1:Option V)(ys:List V)=>Hw (σ=[v0,v1,some (.ref rm)]) (Same H1 H2) (H2 acc=some (.lst ys)) (AnAt (Bb [acc] H2) room ys (es.take i))) ⟨_,_,[],rfl,Ab am _,upd_same,.nil⟩ ?_ ?_ ?_⟩
 ·rintro i σ H2 _ ⟨v0,v1,ys,rfl,s2,_⟩
  exact SqL.of (s2 _ _ (s1 _ _ hrw))
 ·rintro i x σ H2 hx ⟨v0,v1,ys,rfl,s2,aH,hA2⟩
  have hi:i<es.length:=by
   have:=(List.getElem?_eq_some_iff.mp hx).1
   omega
  have he:es[i]? = some es[i]:=List.getElem?_eq_getElem hi
  have fk:es[i]∈es:=zA8 hi
  generalize es[i]=e at *
  obtain⟨x',hx',p,u,ex,hp,hu⟩:=hE.get he
  rw[hx] at hx'
  cases hx'
  subst ex
  have t2:=s1.trans s2
  refine⟨SqT.of (t2 _ _ hp),rfl,rfl,?_⟩
  refine JK ⟨u,e.1,rm,room,rfl,hu.keep (TS.same t2),(okE e fk).1,(by have:=(okE e fk).2;omega),SqL.of (t2 _ _ aW),wr,fun wl H3 s3 wl0 be=>⟨BT,fun tp eG=>?_⟩⟩
  have u4:=Ab eG (.tup [.ref wl,.str e.2])
  have g4:upd H3 tp (.tup [.ref wl,.str e.2]) tp=some (.tup [.ref wl,.str e.2]):=upd_same
  have ntp:tp≠acc:=fun z=>by rw[z,s3 _ _ aH] at eG;cases eG
  have nwl:wl≠acc:=fun z=>by rw[z,aH] at wl0;cases wl0
  generalize upd H3 tp _=H4 at *
  have ha4:=u4 _ _ (s3 _ _ aH)
  have dG:=zA1 hA2
  refine⟨ys,ha4,?_,_,_,ys++[.ref tp],rfl,AA (s2.trans (s3.trans u4)) am _,upd_same,?_⟩
  ·rw[zAM] at dG
   exact zBL (show ys.length<=300 by omega) (by decide)
  ·rw[DJ (List.mem_singleton.mpr rfl),zAI,he]
   exact AnAt.snoc ⟨tp,wl,rfl,A4 g4 fun z=>ntp (List.mem_singleton.mp z),A4 (u4 _ _ be) fun z=>nwl (List.mem_singleton.mp z)⟩ (AnAt.keep (AB (s3.trans u4)) hA2)
 rintro σ H2 ⟨v0,v1,ys,rfl,s2,aH,hA2⟩
 rw[aD,zAN] at hA2
 have hA2:=AnAt.keep cut_same hA2
 have t2:=s1.trans s2
 have bE:=hS.keep s2
 have hsd2:=s2 _ _ cb
 have eS:(Au z t room).length<=2:=by
  rcases CP (z:=z) (t:=t) (row:=room) with⟨_,e⟩|⟨_,_,e⟩<;>rw[e]<;>simp
 have lS:B2 (Au z t room)<64:=by
  have h1:=Cg (z:=z) (t:=t) (row:=room)
  have h2:=wr.len
  omega
 have eN:∀s∈Au z t room,s.Sublist room:=fun s hs=>Bv hs
 generalize hSS:Au z t room=S at *
 refine⟨IF,fun tl htl=>?_⟩
 have u3:=Ab htl (.lst [])
 have g3:upd H2 tl (.lst []) tl=some (.lst []):=upd_same
 have ntl:H tl=none:=t2.free htl
 generalize upd H2 tl _=H3 at *
 refine⟨BT,fun tr fX=>⟨⟨_,SqT.of upd_same⟩,Jq (K:=K) (a:=tr) (xs:=[.str "elder",.str "newer"]) (fun r σ H4=>Wd fun(v8 v9 fF:Option V)(xs:List V)(bV:List Addr)=>TB (σ=[some (.int (m:Int)),some (.ref rm),some (.str z),some v,some (.ref rw),some (.ref sd),some (.ref acc),some (.ref tl),v8,v9,fF]) (Same H2 H4) (H4 tr=some (.tup [.str "elder",.str "newer"])) (H4 tl=some (.lst xs)) (ToldAt H H4 xs ((rules2.take r).flatMap fun rule=>fits S room es rule (Cn m)) bV) (tl∉bV)) ?_ ?_ ?_ ?_⟩⟩
 ·exact⟨_,_,_,[],[],rfl,u3.trans (Ab fX _),upd_same,(Ab fX _) _ _ g3,ToldAt.nil,fun z=>nomatch z⟩
 ·rintro r σ H4 _ ⟨v8,v9,fF,xs,bV,rfl,s4,ht4,_⟩
  exact SqT.of ht4
 ·rintro r x σ H4 hx ⟨v8,v9,fF,xs,bV,rfl,s4,ht4,fV,hT4,hn4⟩
  have hx2:=hx
  obtain⟨rule,rfl,bZ⟩:∃rule:Str,x= .str rule/\rules2[r]? = some rule:=by
   have d7:r<2:=(List.getElem?_eq_some_iff.mp hx).1
   rcases (show r=0\/r=1 by omega) with rfl | rfl
   ·exact⟨"elder",(zAE hx).symm,rfl⟩
   ·exact⟨"newer",(zAE hx).symm,rfl⟩
  refine⟨m,rfl,bB,fun ml gc H5 s5 ml0 hml hM f9=>⟨⟨_,SqL.of hml⟩,AG (K:=K) (a:=ml) (xs:=gc.map V.ref) (fun a σ H6=>Wd fun(v9 fF:Option V)(xs:List V)(bV dM:List Addr)=>Vh (σ=[some (.int (m:Int)),some (.ref rm),some (.str z),some v,some (.ref rw),some (.ref sd),some (.ref acc),some (.ref tl),some (.str rule),v9,fF]) (Same H2 H6) (H6 tr=some (.tup [.str "elder",.str "newer"])) (H6 ml=some (.lst (gc.map V.ref))) (Paired (Ds H6) gc (Cn m)) (H6 tl=some (.lst xs)) (ToldAt H H6 xs (((rules2.take r).flatMap fun rule=>fits S room es rule (Cn m))++fits S room es rule ((Cn m).take a)) (bV++dM)) (tl∉bV++dM) (∀q∈bV,H4 q≠none) (∀q∈dM,q∈gc.take a)) ?_ ?_ ?_ ?_⟩⟩
  ·refine⟨_,_,xs,bV,[],rfl,s4.trans s5,s5 _ _ ht4,hml,hM.at_,s5 _ _ fV,?_,?_,fun p hp e=>?_,fun p hp=>nomatch hp⟩
   ·rw[zAU,zCG]
    show ToldAt H H5 xs (_++[]) bV
    rw[zAU]
    exact hT4.keep s5
   ·rw[zAU];exact hn4
   ·obtain⟨ms,e2⟩:=Ha hT4.mks.at_ p hp
    rw[e] at e2
    cases e2
  ·rintro a σ H6 _ ⟨v9,fF,xs,bV,dM,rfl,s6,ht6,hml6,_⟩
   exact SqL.of hml6
  ·rintro a x σ H6 hx ⟨v9,fF,xs,bV,dM,rfl,s6,ht6,hml6,hM6,hl6,hT6,f8,bT,hcur⟩
   obtain⟨p,ms,rfl,hp,ie,hms,dH⟩:=(MksAt.mk hM6 hM.fr hM.nd:MksAt H4 H6 gc (Cn m)).get hx
   have hml5:=E4 m ms (zAJ hms)
   have t6:=t2.trans s6
   have lr9:room.length<=900:=by have:=wr.len;omega
   refine⟨rm,p,room,ms,rfl,SqL.of (t6 _ _ aW),lr9,dH,by omega,fun sl H7 s7 sl0 aP=>?_⟩
   have skip:Jc S room es rule ms=false->∀H8,Same H6 H8->Wd fun(v9 fF:Option V)(xs:List V)(bV dM:List Addr)=>Vh ([some (V.int (m:Int)),some (.ref rm),some (.str z),some v,some (.ref rw),some (.ref sd),some (.ref acc),some (.ref tl),some (.str rule),some (.ref p),some (.ref sl)]=[some (.int (m:Int)),some (.ref rm),some (.str z),some v,some (.ref rw),some (.ref sd),some (.ref acc),some (.ref tl),some (.str rule),v9,fF]) (Same H2 H8) (H8 tr=some (.tup [.str "elder",.str "newer"])) (H8 ml=some (.lst (gc.map V.ref))) (Paired (Ds H8) gc (Cn m)) (H8 tl=some (.lst xs)) (ToldAt H H8 xs (((rules2.take r).flatMap fun rule=>fits S room es rule (Cn m))++fits S room es rule ((Cn m).take (a+1))) (bV++dM)) (tl∉bV++dM) (∀q∈bV,H4 q≠none) (∀q∈dM,q∈gc.take (a+1)):=fun hf H8 s8=>by
    refine⟨_,_,xs,bV,dM,rfl,s6.trans s8,s8 _ _ ht6,s8 _ _ hml6,Dn s8 hM6,s8 _ _ hl6,?_,f8,bT,fun q hq=>?_⟩
    ·rw[HD hms,hf]
     show ToldAt H H8 xs (_++(_++[])) _
     rw[zAU]
     exact hT6.keep s8
    ·rw[zAI,ie]
     exact zB _ (hcur q hq)
   refine⟨!((room.filter (N8 ms)).map V.int).isEmpty,.inl ⟨_,SqL.of aP,rfl⟩,?_⟩
   by_cases c:room.filter (N8 ms)=[]
   ·have hf:Jc S room es rule ms=false:=by unfold Jc;rw[c];rfl
    rw[c]
    exact AY (AY (skip hf _ s7))
   ·have aE:(!((room.filter (N8 ms)).map V.int).isEmpty)=true:=by
     cases h:room.filter (N8 ms) with
     | nil=>exact absurd h c
     | cons _ _=>rfl
    have hne2:(!(room.filter (N8 ms)).isEmpty)=true:=by
     cases h:room.filter (N8 ms) with
     | nil=>exact absurd h c
     | cons _ _=>rfl
    rw[aE]
    have u7:=s6.trans s7
    refine A8 ⟨sd,sl,acc,rule,_,ys,S,room,room.filter (N8 ms),es,rfl,u7 _ _ hsd2,bE.keep u7,eN,eS,lS,wr,aP,zAK,c,u7 _ _ aH,AnAt.keep u7 hA2,fun H8 s8=>?_⟩
    cases hd:OF ⟨S,rule,Ci room S,room.filter (N8 ms)⟩ es with
    | false=>
     have hf:Jc S room es rule ms=false:=by unfold Jc;rw[hd,Bool.and_false]
     exact AY (skip hf _ (s7.trans s8))
    | true=>
     have hf:Jc S room es rule ms=true:=by unfold Jc;rw[hd,hne2];rfl
     have u8:=s7.trans s8
     have hl8:=u8 _ _ hl6
     refine A8 ⟨.inl ⟨rfl,_,SqL.of hl8⟩,BT,fun tq htq=>?_⟩
     have u9:=Ab htq (.tup [.str rule,.ref p])
     have g9:upd H8 tq (.tup [.str rule,.ref p]) tq=some (.tup [.str rule,.ref p]):=upd_same
     generalize upd H8 tq _=H9 at *
     have u:=u8.trans u9
     have hl9:=u9 _ _ hl8
     have gG:H4 p=none:=hM.fr p hp
     have tl4:tl≠p:=fun e=>by rw[<-e,fV] at gG;cases gG
     have tlm:tl∉gc:=fun e=>by
      have:=hM.fr tl e
      rw[fV] at this
      cases this
     have nml:ml≠tl:=fun e=>by rw[e,fV] at ml0;cases ml0
     have hnp:p∉bV++dM:=fun e=>by
      rcases List.mem_append.mp e with e | e
      ·exact bT p e gG
      ·exact S9 hM.nd ie (hcur p e)
     have hT9:=(hT6.keep u).snoc g9 (u _ _ dH) ((t2.trans s4).free gG) hnp
     have hn9:tl∉(bV++dM)++[p]:=fun e=>by
      rcases List.mem_append.mp e with e | e
      ·exact f8 e
      ·exact tl4 (List.mem_singleton.mp e)
     refine⟨hl9,?_,_,_,xs++[.ref tq],bV,dM++[p],rfl,AA (s6.trans u) htl _,by rw[Al (CI (u _ _ ht6) hl9 (by intro z;cases z))];exact u _ _ ht6,by rw[Al nml];exact u _ _ hml6,IJ tlm (Dn u hM6),upd_same,?_,?_,bT,fun q hq=>?_⟩
     ·have h1:=hT6.len.1
      have d7:r<2:=(List.getElem?_eq_some_iff.mp hx2).1
      have h2:=O6 (S:=S) (room:=room) (es:=es) bB d7
      have h3:=K5 S room es rule ((Cn m).take a)
      have h4:=He m bB
      rw[zA] at h1
      rw[zAM] at h3
      exact zBL (show xs.length<=486 by omega) (by decide)
     ·rw[HD hms,hf,<-zA9,<-zA9]
      exact hT9.put hl9 hn9
     ·rw[<-zA9];exact hn9
     ·rw[zAI,ie]
      rcases List.mem_append.mp hq with hq | hq
      ·exact zB _ (hcur q hq)
      ·exact zAX _ (by rw[List.mem_singleton.mp hq];exact List.mem_cons_self)
  ·rintro σ H6 ⟨v9,fF,xs,bV,dM,rfl,s6,ht6,hml6,hM6,hl6,hT6,f8,bT,hcur⟩
   refine⟨_,_,_,xs,bV++dM,rfl,s6,ht6,hl6,?_,f8⟩
   rw[zAI,bZ,List.flatMap_append]
   have e:(Cn m).take (gc.map V.ref).length=Cn m:=by
    rw[List.length_map,hM.len,zAN]
   rw[e] at hT6
   show ToldAt H H6 xs (_++(fits S room es rule (Cn m)++[])) _
   rw[zAU]
   exact hT6
 ·rintro σ H4 ⟨v8,v9,fF,xs,bV,rfl,s4,ht4,fV,hT4,hn4⟩
  exact q _ _ (t2.trans s4)
end
inductive MI(K:PySem.W.Frag)(C cO:Addr)(vs:List V)(H:Hp)(Q:VK)(E:XK):Prop where
 | mk (x y sn:Addr) (M N:List Addr) (U V':Tk) (W Z:Ta) (seen:List Int) (_:vs=[.ref x,.ref y,.ref sn]) (_:TalkAt M C H x U W) (_:TalkAt N C H y V' Z) (_:1<=W.many) (_:W.many<=5) (_:Z.room=W.room) (_:Ay H sn seen) (_:seen.Sublist W.room) (_:seen≠[]) (_:(W.ended=true->E (.ref cO) none H)) (_:(W.ended=false->Z.ended=true->E (.ref cO) none H)) (_:(W.ended=false->Z.ended=false->∀(v:V)(H':Hp),Same H H'->Q v H')):MI K C cO vs H Q E
theorem TalkAt.least_len{seen:List Int}(h:TalkAt M C H a U W):(D8 W.room W.going seen W.sides).length<=257:=by
 have wr:=h.wr
 have du:B2 W.sides<=32:=zAC (Cg (z:=W.kind) (t:=W.t) (row:=W.room)) wr.len
 have cw:∀s:List Int,(Cr s W.going).length<=s.length:=fun s=>zA0 _ _
 show (W.sides.foldl (EN W.room W.going) [seen]).length+1<=257
 have h2:=h.two
 have e2:∀a b:List Int,B2 [a,b]=a.length+b.length:=fun a b=>by unfold B2;simp
 have e1:∀a:List Int,B2 [a]=a.length:=fun a=>by unfold B2;simp
 match hw:W.sides with
 | []=>show 1+1<=257;decide
 | [a]=>
  show (EN W.room W.going [seen] a).length+1<=257
  have:=cw a
  rw[hw,e1] at du
  rw[Da]
  show 1*_+1<=257
  omega
 | [a,b]=>
  show (EN W.room W.going (EN W.room W.going [seen] a) b).length+1<=257
  rw[Da,Da]
  show 1*_*_+1<=257
  rw[Nat.one_mul]
  rw[hw,e2] at du
  exact Nat.succ_le_succ (zAC (Nat.mul_le_mul (cw a) (cw b)) (MX du))
 | a::b::c::r=>
  rw[hw] at h2
  have:r.length+3<=2:=h2
  omega
theorem Kb{H:Hp}:∀{xs ys:List V}{rs ss:List (List Int)},RowsAt H xs rs->RowsAt H ys ss->RowsAt H (xs++ys) (rs++ss)
 | _,_,_,_,.nil,q=>q
 | _,_,_,_,.cons a q,q2=>.cons a (Kb q q2)
section
def scApart:=As Q4 ["one","other","seen","worlds","due"] 3
theorem Hh(aa:Ev P w K mg aA aN cK cT cS cB cN cO):Fc P w K mg "apart_by" (GR P w) 6 (MI K cK cO):=by
 refine aa.h65.okX scApart ?_
 rintro bz f ak A outer s H _ Q E hr ⟨x,y,sn,M,N,U,V',W,Z,seen,rfl,hT,cP,bG,bB,erm,hN,bh,cV,q1,q2,qq⟩
 have wr:=hT.wr
 have dt:=wr.sub bh
 refine⟨_,Aa (AC (Am (Bq aa) hr (Ax (E1:=E) fun _ _ _ h=>h) (AR (pv 0))))
  (Aa (AC (Am (Bq aa) hr (Ax (E1:=E) fun _ _ _ h=>h) (AR (pv 1))))
  (Aa (A7 zB7 rfl (AJ (Ak Ek (Am (HI aa) hr Ai (Av (pv 0) (pv 2))) (Am (HI aa) hr Ai (Av (pv 1) (pv 2))))) (AV 3 scApart.nd)
   (Aa (Az 4 scApart.nd (Am (DL aa) hr Ai (Ac (BP (pv 0) aa.TX.cl (DW aa) hr Ai) (Ac (BP (pv 0) aa.TX.cl (DC aa) hr Ai) (Av (pv 2) (pv 3))))))
   (Aj (An (AH Cl (pv 4) (Am (DL aa) hr Ai (Ac (BP (pv 1) aa.TX.cl (DW aa) hr Ai) (Ac (BP (pv 1) aa.TX.cl (DC aa) hr Ai) (Av (pv 2) (pv 3))))))
    (AK (Am (D5 aa) hr Ai (Av (pv 3) (AF (pv 0) rfl))))
    Ag))))
  (AK Dd))),?_⟩
 refine⟨x,M,U,W,rfl,hT,q1,fun he=>?_⟩
 refine⟨y,N,V',Z,rfl,cP,q2 he,fun he2=>?_⟩
 have q:=qq he he2
 refine⟨x,sn,M,U,W,seen,rfl,hT,hN,bh,fun l1 xs1 H1 s1 l10 bc hR1=>?_⟩
 refine⟨y,sn,N,V',Z,seen,rfl,cP.keep s1,s1 _ _ hN,by rw[erm];exact bh,fun l2 xs2 H2 s2 l20 aF hR2=>?_⟩
 have n1:=hT.least_len (seen:=seen)
 have n2:=cP.least_len (seen:=seen)
 rw[erm] at hR2 n2
 have ll1:=hR1.len
 have ll2:=hR2.len
 refine⟨l1,l2,_,_,rfl,rfl,s2 _ _ bc,aF,zAZ (Ap (by omega)),fun cl bO=>?_⟩
 have s3:=Ab bO (.lst (xs1++xs2))
 have cl3:upd H2 cl (.lst (xs1++xs2)) cl=some (.lst (xs1++xs2)):=upd_same
 generalize upd H2 cl _=H3 at *
 have t3:=s1.trans (s2.trans s3)
 have hR:=Kb (hR1.keep (s2.trans s3)) (hR2.keep s3)
 have gN:∀r∈D8 W.room W.going seen W.sides++D8 W.room Z.going seen Z.sides,r.Sublist W.room:=fun r hr=>by
  rcases List.mem_append.mp hr with h | h
  ·exact Fe hT.going_sub bh r h
  ·exact Fe (by have:=cP.going_sub;rw[erm] at this;exact this) bh r h
 generalize D8 W.room W.going seen W.sides++D8 W.room Z.going seen Z.sides=rows at *
 refine⟨⟨_,SqL.of cl3⟩,AG (K:=K) (a:=cl) (xs:=xs1++xs2) (fun i σ Hi=>BF fun(v3 v4:Option V)=>Cc (σ=[some (.ref x),some (.ref y),some (.ref sn),v3,v4]) (Same H3 Hi) (∀r∈rows.take i,Bw W.sides W.going seen r=Bw Z.sides Z.going seen r)) ⟨_,_,rfl,Same.refl _,fun r hr=>by simp at hr⟩ ?_ ?_ ?_⟩
 ·rintro i σ Hi _ ⟨v3,v4,rfl,si,_⟩
  exact SqL.of (si _ _ cl3)
 ·rintro i z σ Hi hz ⟨v3,v4,rfl,si,hall⟩
  obtain⟨r,p,hr,rfl,hp⟩:=hR.get hz
  have aW:=zAJ hr
  have wrr:=wr.sub (gN r aW)
  have ti:=t3.trans si
  have T5:=hT.keep ti
  refine⟨T5.ob,Ey,x,M,U,W,rfl,T5,fun sl sxs H6 s6 sl0 aP hSN _=>?_⟩
  have T6:=T5.keep s6
  refine⟨T6.ob,El,x,M,U,W,rfl,T6,fun gl H7 s7 gl0 cM=>?_⟩
  have s57:=s6.trans s7
  refine⟨sl,gl,sn,p,sxs,W.sides,W.going,seen,r,rfl,s7 _ _ aP,(RowsNew.at hSN).keep s7,T6.ws,T6.two,SqL.of cM,T6.going_wr,SqL.of ((ti.trans s57) _ _ hN),dt,cV,SqL.of ((si.trans s57) _ _ hp),wrr,fun H8 s8=>?_⟩
  have s58:=s57.trans s8
  have Y8:=cP.keep (ti.trans s58)
  refine⟨Y8.ob,Ey,y,N,V',Z,rfl,Y8,fun eS sxs2 H9 s9 sl20 hsl2 hSN2 _=>?_⟩
  have Y9:=Y8.keep s9
  refine⟨Y9.ob,El,y,N,V',Z,rfl,Y9,fun gl2 dJ ba gl20 hgl2=>?_⟩
  have s510:=s58.trans (s9.trans ba)
  refine⟨eS,gl2,sn,p,sxs2,Z.sides,Z.going,seen,r,rfl,ba _ _ hsl2,(RowsNew.at hSN2).keep ba,Y9.ws,Y9.two,SqL.of hgl2,Y9.going_wr,SqL.of ((ti.trans s510) _ _ hN),dt,cV,SqL.of ((si.trans s510) _ _ hp),wrr,fun eM dy=>?_⟩
  have gQ:=s510.trans dy
  refine⟨rfl,?_⟩
  by_cases c:Bw W.sides W.going seen r=Bw Z.sides Z.going seen r
  ·rw[c]
   refine DZ rfl ?_
   refine⟨_,_,rfl,si.trans gQ,fun r' dY=>?_⟩
   rw[zAI,hr] at dY
   rcases List.mem_append.mp dY with h | h
   ·exact hall r' h
   ·have e:r'=r:=by simpa using h
    rw[e]
    exact c
  ·refine HR (fun z=>c (by injection z)) ?_
   have T11:=hT.keep (ti.trans gQ)
   exact⟨T11.ob,aa.TX.cl,aa.TX.many,By,p,r,W.many,rfl,SqL.of ((si.trans gQ) _ _ hp),bG,bB,fun v t f7 bY aU hfit htv=>q v f7 (ti.trans (gQ.trans bY))⟩
 ·rintro σ Hi ⟨v3,v4,rfl,si,hall⟩
  rw[hR.len,zAN] at hall
  exact q _ Hi (t3.trans si)
end
theorem Ou:bootBuiltins "min"=some (.builtin "min"):=by decide +kernel
def Ee(aV held seen:List Int):List (List Int):=if (held.any fun k=>decide (k∈seen))=true then[] else if held.length<aV.length then[held] else if 1<aV.length then[held.take 1,held.drop 1] else[]
inductive KB(K:PySem.W.Frag)(vs:List V)(H:Hp)(Q:VK)(E:XK):Prop where
 | mk (sd hl sn:Addr) (aV held seen:List Int) (_:vs=[.ref sd,.ref hl,.ref sn]) (_:SqL K H sd (aV.map V.int)) (_:Ay H hl held) (_:SqL K H sn (seen.map V.int)) (_:held.length<64) (_:seen.length<=900) (_:held.length<=aV.length) (_:∀(l:Addr)(xs:List V)(H':Hp),Same H H'->H l=none->H' l=some (.lst xs)->(∀y∈xs,∃p,y= .ref p/\(p=hl\/H p=none))->RowsAt H' xs (Ee aV held seen)->Q (.ref l) H'):KB K vs H Q E
section
def Py:=As NU ["side","held","seen"] 3
theorem Vd(row:List Int):Dj (row.map V.int) none (some 1)=(row.take 1).map V.int:=by
 cases row with
 | nil=>rfl
 | cons a r=>
  unfold Dj
  rw[HT.sIx_none]
  have:HT.sIx ((a::r).map V.int).length ((a::r).map V.int).length (some 1)=1:=by
   have:=HT.sIx_nat ((a::r).map V.int).length ((a::r).map V.int).length 1
   show HT.sIx _ _ (some ((1:Nat):Int))=1
   rw[this,List.length_map,zAQ]
   omega
  rw[this]
  rfl
theorem V4(row:List Int):Dj (row.map V.int) (some 1) none=(row.drop 1).map V.int:=by
 cases row with
 | nil=>rfl
 | cons a r=>exact Vi (.int a) (r.map V.int)
theorem O7(aa:Ev P w K mg aA aN cK cT cS cB cN cO):Fc P w K mg "catching_parts" Bh 3 (KB K):=by
 refine aa.h54.ok Py ?_
 rintro bz f ak A outer s H _ Q E hr ⟨sd,hl,sn,aV,held,seen,rfl,hS,hH,hN,lh,ln,ia,q⟩
 refine⟨_,Aa (An (A6 (Am (EI aa) hr Ai (Av (pv 1) (pv 2))))
   (AK (Ar Bk))
   Ag)
  (Aa (An (AH MV (Ao Aq (by rfl) aa.B.len zAO (AR (pv 1))) (Ao Aq (by rfl) aa.B.len zAO (AR (pv 0))))
   (AK (Ar (AR (pv 1))))
   Ag)
  (Aa (An (AH FJ (Ao Aq (by rfl) aa.B.len zAO (AR (pv 0))) Ad)
   (AK (Ar (Av (Cj DY (pv 1) CZ (CV Ad)) (Cj DY (pv 1) (CV Ad) CZ))))
   Ag)
  (AK (Ar Bk)))),?_⟩
 unfold Ee at q
 refine⟨hl,sn,held,seen,rfl,SqL.of hH,hN,lh,ln,fun H1 s1=>?_⟩
 cases hb:(held.any fun k=>decide (k∈seen)) with
 | true=>
  rw[hb,if_pos rfl] at q
  refine A8 ?_
  exact⟨IF,fun l bf=>q l [] _ (s1.trans (Ab bf _)) (s1.free bf) upd_same (fun y hy=>by simp at hy) .nil⟩
 | false=>
  rw[hb,if_neg zAB] at q
  refine AY ?_
  have hH1:=s1 _ _ hH
  refine⟨.inl (SqL.of hH1),.inl (s1.seq hS),?_⟩
  by_cases c:held.length<aV.length
  ·rw[if_pos c] at q
   refine Bc (show (((held.map V.int).length:Nat):Int)<(((aV.map V.int).length:Nat):Int) by rw[List.length_map,List.length_map];omega) ?_
   refine⟨Gc,fun l bf=>?_⟩
   have s2:=Ab bf (.lst [.ref hl])
   exact q l [.ref hl] _ (s1.trans s2) (s1.free bf) upd_same (fun y hy=>⟨hl,List.mem_singleton.mp hy,.inl rfl⟩) (.cons ⟨hl,rfl,s2 _ _ hH1⟩ .nil)
  rw[if_neg c] at q
  refine Ba (show ¬(((held.map V.int).length:Nat):Int)<(((aV.map V.int).length:Nat):Int) by rw[List.length_map,List.length_map];omega) ?_
  refine⟨.inl (s1.seq hS),?_⟩
  by_cases c2:1<aV.length
  ·rw[if_pos c2] at q
   refine Bc (show (((aV.map V.int).length:Nat):Int)>1 by rw[List.length_map];omega) ?_
   refine⟨_,rfl,hl,_,rfl,SqL.of hH1,fun a1 dZ=>?_⟩
   rw[Vd]
   have s2:=Ab dZ (.lst ((held.take 1).map V.int))
   have a12:Ay (upd H1 a1 (.lst ((held.take 1).map V.int))) a1 (held.take 1):=upd_same
   generalize upd H1 a1 _=H2 at *
   refine⟨_,rfl,hl,_,rfl,SqL.of (s2 _ _ hH1),fun a2 aH=>?_⟩
   rw[V4]
   have s3:=Ab aH (.lst ((held.drop 1).map V.int))
   have a23:Ay (upd H2 a2 (.lst ((held.drop 1).map V.int))) a2 (held.drop 1):=upd_same
   generalize upd H2 a2 _=H3 at *
   refine⟨BT,fun l bf=>?_⟩
   have s4:=Ab bf (.lst [.ref a1,.ref a2])
   refine q l [.ref a1,.ref a2] _ (s1.trans (s2.trans (s3.trans s4))) ((s1.trans (s2.trans s3)).free bf) upd_same (fun y hy=>?_) (.cons ⟨a1,rfl,(s3.trans s4) _ _ a12⟩ (.cons ⟨a2,rfl,s4 _ _ a23⟩ .nil))
   simp only[zAS,zAT,or_false] at hy
   rcases hy with rfl | rfl
   ·exact⟨a1,rfl,.inr (s1.free dZ)⟩
   ·exact⟨a2,rfl,.inr ((s1.trans s2).free aH)⟩
  ·rw[if_neg c2] at q
   refine Ba (show ¬(((aV.map V.int).length:Nat):Int)>1 by rw[List.length_map];omega) ?_
   exact⟨IF,fun l bf=>q l [] _ (s1.trans (Ab bf _)) (s1.free bf) upd_same (fun y hy=>by simp at hy) .nil⟩
end
inductive PartAt(H:Hp)(x:Addr)(v:V)(rows:List (List Int)):Prop where
 | mk (p ys) (_:v= .ref p) (_:p≠x) (_:H p=some (.lst ys)) (_:BR H x ys rows)
abbrev PartsAt(H:Hp)(x:Addr):List V->List (List (List Int))->Prop:=Paired fun(v:V)(rows:List (List Int))=>PartAt H x v rows
theorem PartAt.keep(s:Same H H')(h:PartAt H x v rows):PartAt H' x v rows:=by
 obtain⟨p,ys,h1,h2,h3,h4⟩:=h
 exact⟨p,ys,h1,h2,s _ _ h3,BO s h4⟩
theorem PartAt.but(s:But [x] H H')(h:PartAt H x v rows):PartAt H' x v rows:=by
 obtain⟨p,ys,h1,h2,h3,h4⟩:=h
 exact⟨p,ys,h1,h2,s.at h3 (by simpa using h2),Cq s h4⟩
theorem PartsAt.keep{H H':Hp}{x:Addr}(s:Same H H'):∀{xs:List V}{ps:List (List (List Int))},PartsAt H x xs ps->PartsAt H' x xs ps
 | _,_,.nil=>.nil
 | _,_,.cons h q=>.cons (h.keep s) (PartsAt.keep s q)
theorem PartsAt.but{H H':Hp}{x:Addr}(s:But [x] H H'):∀{xs:List V}{ps:List (List (List Int))},PartsAt H x xs ps->PartsAt H' x xs ps
 | _,_,.nil=>.nil
 | _,_,.cons h q=>.cons (h.but s) (PartsAt.but s q)
theorem PartsAt.snoc{H:Hp}{x:Addr}{v:V}{p:List (List Int)}(h:PartAt H x v p):∀{xs:List V}{ps:List (List (List Int))},PartsAt H x xs ps->PartsAt H x (xs++[v]) (ps++[p])
 | _,_,.nil=>.cons h .nil
 | _,_,.cons a q=>.cons a (PartsAt.snoc h q)
def W6(W:Ta)(seen:List Int):List (List (List Int)):=(W.sides.map fun s=>Ee s (Cr s W.held) seen).filter fun p=>!p.isEmpty
inductive HA(K:PySem.W.Frag)(C cO:Addr)(vs:List V)(H:Hp)(Q:VK)(E:XK):Prop where
 | mk (x sn:Addr) (M:List Addr) (U:Tk) (W:Ta) (seen:List Int) (_:vs=[.ref x,.ref sn]) (_:TalkAt M C H x U W) (_:1<=W.many) (_:W.many<=5) (_:Ay H sn seen) (_:seen.Sublist W.room) (_:(W.ended=true->E (.ref cO) none H)) (_:(W.ended=false->∀(v:V)(H':Hp),Same H H'->Q v H')):HA K C cO vs H Q E
theorem Eh{H:Hp}{x:Addr}:∀{xs:List V}{rs:List (List Int)},(∀y∈xs,∃p,y= .ref p/\p≠x)->RowsAt H xs rs->BR H x xs rs
 | _,_,_,.nil=>.nil
 | _,_,h,.cons ⟨p,e,r⟩ q=>by
  obtain⟨p',e',hn⟩:=h _ List.mem_cons_self
  rw[e] at e'
  cases e'
  exact .cons ⟨p,e,hn,r⟩ (Eh (fun y hy=>h y (List.mem_cons_of_mem _ hy)) q)
theorem Eb{H:Hp}{x:Addr}:∀{xs:List V}{rs:List (List Int)},BR H x xs rs->RowsAt H xs rs
 | _,_,.nil=>.nil
 | _,_,.cons ⟨p,e,_,r⟩ q=>.cons ⟨p,e,r⟩ (Eb q)
theorem G4{K:PySem.W.Frag}{H:Hp}{x:Addr}:∀{xs:List V}{ps:List (List (List Int))},PartsAt H x xs ps->∃d6:List (List V),Paired (fun v ys=>∃p,v=V.ref p/\SqL K H p ys) xs d6/\d6.map List.length=ps.map List.length
 | _,_,.nil=>⟨[],.nil,rfl⟩
 | _,_,.cons ⟨p,ys,e1,_,e3,e4⟩ q=>by
  obtain⟨d6,h1,h2⟩:=G4 (K:=K) q
  exact⟨ys::d6,.cons ⟨p,e1,SqL.of e3⟩ h1,by rw[zA7,zA7,h2,zA1 e4]⟩
theorem FE{α β:Type}{R:α->β->Prop}{a:α}{b:β}(h:R a b):∀{xs:List α}{ys:List β},Paired R xs ys->Paired R (xs++[a]) (ys++[b])
 | _,_,.nil=>.cons h .nil
 | _,_,.cons x q=>.cons x (FE h q)
section
def scCatchBy:=As Kg ["talk","seen","rows"] 2
theorem L6(aa:Ev P w K mg aA aN cK cT cS cB cN cO):Fc P w K mg "catch_by" (GR P w) 6 (HA K cK cO):=by
 refine aa.h63.okX scCatchBy ?_
 rintro bz f ak A outer s H _ Q E hr ⟨x,sn,M,U,W,seen,rfl,hT,bG,bB,hN,bh,qO,qq⟩
 have wr:=hT.wr
 have dr:=wr.len
 have lsn:=(wr.sub bh).len
 have wheld:=hT.held_wr
 have lheld:=wheld.len
 refine⟨_,Aa (AC (Am (Bq aa) hr (Ax (E1:=E) fun _ _ _ h=>h) (AR (pv 0))))
  (Aa (An (A6 (BP (pv 0) aa.TX.cl (LY aa) hr Ai))
   (AK (Ar Bk))
   Ag)
  (Aa (An (AH AI (AF (pv 0) rfl) Ae)
   (AK Dd)
   Ag)
  (Aa (Mb (Gr (i:=2) scCatchBy.nd rfl (Or.inl rfl) (N:=["side","seen","talk"]) (js:=[none,some 1,some 0]) (cl:=[("talk",s.heap.objs.size+1),("seen",s.heap.objs.size+2)]) ⟨rfl,rfl,rfl,(by intro p hp;simp at hp;rcases hp with rfl | rfl<;>rfl),rfl,rfl,rfl⟩ (AJ (BP (pv 0) aa.TX.cl (DW aa) hr Ai)) (fun c1=>(AV 0 (show (["side","seen","talk"]:List Str).Nodup by decide +kernel))) (fun c1=>Bi) (fun c1=>(Am (O7 aa) hr Ai (Ac (pv 0) (Av (Am (C1 aa) hr Ai (Av (pv 0) (BP (pv 2) aa.TX.cl (Lh aa) hr Ai))) (pv 1)))))))
  (Aa (Mb (Gr (i:=2) scCatchBy.nd rfl (Or.inl rfl) (N:=["parts"]) (js:=[none]) (cl:=[]) ⟨rfl,rfl,rfl,zB0 _,rfl,rfl,rfl⟩ (AJ (pv 2)) (fun c1=>(AV 0 (show (["parts"]:List Str).Nodup by decide +kernel))) (fun c1=>(EH (CO (pv 0) (fun _=>rfl)))) (fun c1=>(pv 0))))
  (Aa (An (B3 (CO (pv 2) (fun _=>rfl)))
   (AK Dd)
   Ag)
  (AK (PE.nox (BD (N:=["part","talk"]) (js:=[none,some 0]) (cl:=[("talk",s.heap.objs.size+1)]) ⟨rfl,rfl,rfl,(by intro p hp;simp at hp;rcases hp with rfl<;>rfl),rfl,rfl,rfl⟩ (AJ (Oa rfl (by rfl) aa.zmin (by rfl) aa.B.len (AR (pv 2)) Ou zAO)) (fun c1=>(AV 0 (show (["part","talk"]:List Str).Nodup by decide +kernel))) (fun c1=>Bi) (fun c1=>(Am (D5 aa) hr Ai (Av (Am (Dy aa) hr Ai (Av (BP (pv 1) aa.TX.cl (PZ aa) hr Ai) (pv 0))) (AF (pv 1) rfl)))))))))))),?_⟩
 refine⟨x,M,U,W,rfl,hT,qO,fun cJ=>?_⟩
 have q:=qq cJ
 refine⟨hT.ob,Op,x,M,U,W,rfl,hT,fun H1 s1=>?_⟩
 cases cC:AX W.sides W.held with
 | false=>
  refine A8 ?_
  exact⟨IF,fun l hl=>q _ _ (s1.trans (Ab hl _))⟩
 | true=>
 refine AY ?_
 have T1:=hT.keep s1
 refine⟨T1.ob,aa.TX.cl,aa.TX.rule,EW,rfl,?_⟩
 by_cases cE:W.rule="elder"
 ·refine Bc (by rw[cE]) ?_
  exact q _ H1 s1
 refine Ba (fun z=>cE (by injection z)) ?_
 refine⟨T1.ob,Ey,x,M,U,W,rfl,T1,fun sl sxs H2 s2 sl0 aP hSN _=>?_⟩
 have hSR:RowsAt H2 sxs W.sides:=RowsNew.at hSN
 have t2:=s1.trans s2
 refine⟨⟨_,SqL.of aP⟩,fun cc acc am=>AG (K:=K) (a:=sl) (xs:=sxs) (fun i σ Hi=>BF fun(v0:Option V)(ys:List V)=>Hw (σ=[v0,some (.ref sn),some (.ref x)]) (Same H2 Hi) (Hi acc=some (.lst ys)) (PartsAt Hi acc ys ((W.sides.take i).map fun s=>Ee s (Cr s W.held) seen))) ⟨_,[],rfl,Ab am _,upd_same,.nil⟩ ?_ ?_ ?_⟩
 ·rintro i σ Hi _ ⟨v0,ys,rfl,si,_⟩
  exact SqL.of (si _ _ aP)
 ·rintro i y σ Hi hy ⟨v0,ys,rfl,si,aL,hY⟩
  obtain⟨sd,p,cb,rfl,hp⟩:=hSR.get hy
  have gM:=zAJ cb
  have wsd:=wr.sub (Bv gM)
  have lsd:=wsd.len
  have fL:i<W.sides.length:=(List.getElem?_eq_some_iff.mp cb).1
  have h2:=hT.two
  have gO:=zA1 hY
  rw[List.length_map,zAM] at gO
  refine IS rfl ?_
  refine Qo ?_
  have ti:=t2.trans si
  have Ti:=hT.keep ti
  refine⟨Ti.ob,Ms,x,M,U,W,rfl,Ti,fun hd H3 s3 hd0 hhd=>?_⟩
  refine⟨p,hd,sd,W.held,rfl,SqL.of ((si.trans s3) _ _ hp),SqL.of hhd,by omega,by omega,fun bl H4 ns s4 gK cy au dq=>?_⟩
  have d8:ns=Cr sd W.held:=ET cy (wsd.1.sublist zAK) fun k=>by
   rw[au k]
   unfold Cr
   rw[List.mem_filter,decide_eq_true_eq]
  subst d8
  have lin:(Cr sd W.held).length<=sd.length:=zA0 _ _
  have s34:=s3.trans s4
  refine⟨p,bl,sn,sd,_,seen,rfl,SqL.of ((si.trans s34) _ _ hp),dq,SqL.of ((ti.trans s34) _ _ hN),by omega,by omega,lin,fun l xs H5 s5 l0 hl bC hR=>?_⟩
  have s35:=s34.trans s5
  have hacc5:=s35 _ _ aL
  refine⟨ys,hacc5,Ap (by omega),?_⟩
  have eO:∀{b:Addr}{H':Hp},H' b=none->H' acc=some (.lst ys)->b≠acc:=fun {b H'} h1 h2 z=>by
   rw[z,h2] at h1
   cases h1
  have lne:l≠acc:=eO l0 (s34 _ _ aL)
  have bne:bl≠acc:=eO gK (s3 _ _ aL)
  have bu:But [acc] H5 (upd H5 acc (.lst (ys++[.ref l]))):=But.upd (by simp)
  refine⟨_,ys++[.ref l],rfl,AA (si.trans s35) am _,upd_same,?_⟩
  rw[zAI,cb,zAP]
  refine PartsAt.snoc ?_ (PartsAt.but bu (PartsAt.keep s35 hY))
  refine PartAt.but bu ⟨l,xs,rfl,lne,hl,Eh (fun y hy=>?_) hR⟩
  obtain⟨p',e',hp'⟩:=bC y hy
  refine⟨p',e',?_⟩
  rcases hp' with rfl | hp'
  ·exact bne
  ·exact eO hp' (s34 _ _ aL)
 rintro σ H6 ⟨v0,ys,rfl,s6,hacc6,hY⟩
 rw[hSR.len,zAN] at hY
 refine Ji rfl ?_
 have t6:=t2.trans s6
 obtain⟨ps,dk⟩:∃ps,ps=W.sides.map fun s=>Ee s (Cr s W.held) seen:=⟨_,rfl⟩
 rw[<-dk] at hY
 have hcat:W6 W seen=ps.filter fun p=>!p.isEmpty:=by rw[dk];rfl
 have plen:ps.length<=2:=by rw[dk,List.length_map];exact hT.two
 have gO:=zA1 hY
 refine⟨⟨_,SqL.of hacc6⟩,fun cc2 dN aL=>AG (K:=K) (a:=acc) (xs:=ys) (fun i σ Hi=>BF fun(v0:Option V)(zs:List V)=>Fs (σ=[v0]) (Same H6 Hi) (Hi dN=some (.lst zs)) (PartsAt Hi dN zs ((ps.take i).filter fun p=>!p.isEmpty)) (zs.length<=i)) ⟨_,[],rfl,Ab aL _,upd_same,.nil,zAA _⟩ ?_ ?_ ?_⟩
 ·rintro i σ Hi _ ⟨v0,zs,rfl,si,_⟩
  exact SqL.of (si _ _ hacc6)
 ·rintro i y σ Hi hy ⟨v0,zs,rfl,si,aH,hZ,zl⟩
  obtain⟨pt,bT,p,xs,rfl,_,hp,hR⟩:=Ck hY hy
  have hi:i<ys.length:=(List.getElem?_eq_some_iff.mp hy).1
  have eO:∀{b:Addr}{o:HO},H6 b=some o->b≠dN:=fun {b o} h1 z=>by
   rw[z,aL] at h1
   cases h1
  have hRn:BR H6 dN xs pt:=by
   refine Eh (fun y hy=>?_) (Eb hR)
   obtain⟨j,hj⟩:=List.getElem?_of_mem hy
   obtain⟨_,_,p',e',_,hp'⟩:=Ck hR hj
   exact⟨p',e',eO hp'⟩
  have fY:=zA1 hR
  refine IS rfl ?_
  refine⟨_,.inl ⟨xs,SqL.of (si _ _ hp),rfl⟩,?_⟩
  have et:(ps.take (i+1)).filter (fun p=>!p.isEmpty)=(ps.take i).filter (fun p=>!p.isEmpty)++(if pt=[] then[] else[pt]):=by
   rw[zAI,bT,zCN]
   congr 1
   cases pt with
   | nil=>rfl
   | cons _ _=>rfl
  rw[et]
  by_cases c:pt=[]
  ·have cx:xs=[]:=zCE (by rw[fY,c];rfl)
   rw[cx,if_pos c,zAU]
   exact AY ⟨_,zs,rfl,si,aH,hZ,by omega⟩
  ·have cx:(!xs.isEmpty)=true:=by
    cases xs with
    | nil=>exact absurd (zCE fY.symm) c
    | cons _ _=>rfl
   rw[cx,if_neg c]
   refine A8 ?_
   refine⟨zs,aH,Ap (by omega),?_⟩
   have bu:But [dN] Hi (upd Hi dN (.lst (zs++[.ref p]))):=But.upd (by simp)
   refine⟨_,zs++[.ref p],rfl,AA si aL _,upd_same,PartsAt.snoc (PartAt.but bu (PartAt.keep si ⟨p,xs,rfl,eO hp,hp,hRn⟩)) (PartsAt.but bu hZ),by rw[zA];show zs.length+1<=_;omega⟩
 rintro σ H7 ⟨v0,zs,rfl,s7,ha7,hZ,zl⟩
 rw[gO,zAN,<-hcat] at hZ
 refine Ji rfl ?_
 have t7:=t6.trans s7
 have zlen:=zA1 hZ
 refine⟨_,.inl ⟨zs,SqL.of ha7,rfl⟩,?_⟩
 by_cases cz:zs=[]
 ·rw[cz]
  refine A8 ?_
  exact q _ H7 t7
 have cz':(!zs.isEmpty)=true:=by
  cases zs with
  | nil=>exact absurd rfl cz
  | cons _ _=>rfl
 rw[cz']
 refine AY ?_
 obtain⟨d6,hyss,dG⟩:=G4 (K:=K) hZ
 refine⟨_,rfl,dN,zs,d6,rfl,SqL.of ha7,hyss,cz,fun i v hv hmin=>?_⟩
 obtain⟨pt,bT,p,xs,rfl,_,hp,hR⟩:=Ck hZ hv
 have hptm:=zAJ bT
 have hRR:=Eb hR
 have ia:∀p'∈W6 W seen,pt.length<=p'.length:=fun p' hp'=>by
  obtain⟨j,hj⟩:=List.getElem?_of_mem hp'
  have hjl:=(List.getElem?_eq_some_iff.mp hj).1
  have:=(hmin j (by rw[dG,List.length_map];exact hjl)).1
  rw[dG,List.getD_eq_getElem?_getD,List.getD_eq_getElem?_getD,List.getElem?_map,List.getElem?_map,bT,hj] at this
  exact this
 have xl:=hRR.len
 have psub:∀part∈pt,part.length<=32/\True:=fun part aR=>by
  refine⟨?_,True.intro⟩
  have bI:pt∈ps:=(List.mem_filter.mp (by rw[<-hcat];exact hptm)).1
  rw[dk] at bI
  obtain⟨sd,cb,rfl⟩:=List.mem_map.mp bI
  have l1:(Cr sd W.held).length<=32:=zAC (zA0 _ _) (wr.sub (Bv cb)).len
  unfold Ee at aR
  split at aR
  ·cases aR
  ·split at aR
   ·rw[List.mem_singleton.mp aR];exact l1
   ·split at aR
    ·simp only[zAS,zAT,or_false] at aR
     rcases aR with rfl | rfl
     ·rw[zAM];omega
     ·rw[zCA];omega
    ·cases aR
 have ptl:pt.length<=2:=by
  have bI:pt∈ps:=(List.mem_filter.mp (by rw[<-hcat];exact hptm)).1
  rw[dk] at bI
  obtain⟨sd,cb,rfl⟩:=List.mem_map.mp bI
  unfold Ee
  split
  ·exact zA4 _
  ·split
   ·show 1<=2;decide
   ·split
    ·exact zAA _
    ·exact zA4 _
 refine⟨⟨_,SqL.of hp⟩,fun cc3 acc3 iB=>AG (K:=K) (a:=p) (xs:=xs) (fun j σ Hj=>D0 fun(v0:Option V)(ws:List V)(ts:List Tr)=>TB (σ=[v0,some (.ref x)]) (Same H7 Hj) (Hj acc3=some (.lst ws)) (PileK K Hj ws ts) (Paired (fun(part:List Int)(t:Tr)=>OX W.many 12 283 t/\∀w:Int,0<=w->w<2^W.many->tv t w=decide (w∈Cu W.room part)) (pt.take j) ts) (ws.length<=j)) ⟨_,[],[],rfl,Ab iB _,upd_same,.nil,.nil,zAA _⟩ ?_ ?_ ?_⟩
 ·rintro j σ Hj _ ⟨v0,ws,ts,rfl,sj,_⟩
  exact SqL.of (sj _ _ hp)
 ·rintro j y σ Hj hy ⟨v0,ws,ts,rfl,sj,hacc4,hP,hF,wl⟩
  obtain⟨part,pp,aR,rfl,hpp⟩:=hRR.get hy
  have hj:j<xs.length:=(List.getElem?_eq_some_iff.mp hy).1
  refine IS rfl ?_
  refine Qo ?_
  have tj:=t7.trans sj
  have Tj:=hT.keep tj
  refine⟨Tj.ob,SW,x,M,U,W,rfl,Tj,fun rl H9 s9 rl0 bZ=>?_⟩
  refine⟨rl,pp,W.room,part,rfl,SqL.of bZ,SqL.of ((sj.trans s9) _ _ hpp),dr,wr.2,by have:=(psub part (zAJ aR)).1;omega,fun ol dJ ns ba ol0 cy au eJ=>?_⟩
  have d8:ns=Cu W.room part:=ET cy (wr.1.sublist zAK) fun k=>by
   rw[au k]
   unfold Cu
   rw[List.mem_filter]
   simp
  subst d8
  have T10:=Tj.keep (s9.trans ba)
  refine⟨T10.ob,aa.TX.cl,aa.TX.many,By,ol,_,W.many,rfl,SqL.of eJ,bG,bB,fun fv ft eM dy aU hfit htv=>?_⟩
  have sj11:=s9.trans (ba.trans dy)
  have fG:=sj11 _ _ hacc4
  refine⟨ws,fG,Ap (by omega),?_⟩
  have k11:TS eM (upd eM acc3 (.lst (ws++[fv]))):=TS.lst fG
  refine⟨_,ws++[fv],ts++[ft],rfl,AA (sj.trans sj11) iB _,upd_same,PileK.snoc (aU.keep k11) (PileK.keep ((TS.same sj11).trans k11) hP),?_,by rw[zA];show ws.length+1<=_;omega⟩
  rw[zAI,aR]
  exact FE ⟨hfit,htv⟩ hF
 ·rintro σ Hj ⟨v0,ws,ts,rfl,sj,hacc4,hP,hF,wl⟩
  rw[xl,zAN] at hF
  exact q _ Hj (t7.trans sj)
end
inductive II(C cO cS:Addr)(a:Addr)(v:V)(H:Hp)(E:XK):Prop where
 | mk (M:List Addr) (U:Tk) (W:Ta) (t:Tr) (_:TalkAt M C H a U W) (_:t.At H v) (_:t.ok 5) (_:t.size<=60) (_:(W.ended=false->¬t.ok W.many)) (_:(W.ended=true->E (.ref cO) none H)) (_:(W.ended=false->∀H',Same H H'->E (.ref cS) none H'))
inductive Ku(C cO cS:Addr)(vs:List V)(H:Hp)(Q:VK)(E:XK):Prop where
 | mk (a:Addr) (v y:V) (_:vs=[.ref a,v,y]) (_:II C cO cS a v H E):Ku C cO cS vs H Q E
inductive KJ(C cO cS:Addr)(vs:List V)(H:Hp)(Q:VK)(E:XK):Prop where
 | mk (a:Addr) (v y z:V) (_:vs=[.ref a,v,y,z]) (_:II C cO cS a v H E):KJ C cO cS vs H Q E
inductive QZ(K:PySem.W.Frag)(C cO cS:Addr)(vs:List V)(H:Hp)(Q:VK)(E:XK):Prop where
 | mk (a sn:Addr) (v:V) (seen:List Int) (_:vs=[.ref a,v,.ref sn]) (_:II C cO cS a v H E) (_:SqL K H sn (seen.map V.int)) (_:Wr seen) (_:seen≠[]):QZ K C cO cS vs H Q E
section
def O1:=As K8 ["talk","sentence","seen","room","inside","going_inside","going_outside"] 3
def OZ:=As JS ["talk","sentence","seen","paper","room","inside","one","other"] 4
def scWayTo:=As Ri ["talk","goal","seen","due","inside","side","kept"] 3
theorem OM(aa:Ev P w K mg aA aN cK cT cS cB cN cO):Fc P w K mg "paper_of" (GR P w) 4 (Ku cK cO cS):=by
 refine aa.h49.okX O1 ?_
 rintro bz f ak A outer s H _ Q E hr ⟨a,v,y,rfl,M,U,W,t,hT,ha,ok5,ay,hno,qO,qS⟩
 refine⟨_,Aa (AC (Am (Bq aa) hr (Ax (E1:=E) fun _ _ _ h=>h) (AR (pv 0)))) (Aa (AC (Am (Cd aa) hr (Ax (E1:=E) fun _ _ _ h=>h) (Av (pv 1) (AF (pv 0) rfl)))) Fb),?_⟩
 refine⟨a,M,U,W,rfl,hT,qO,fun c=>?_⟩
 exact⟨hT.ob,aa.TX.cl,aa.TX.many,By,v,t,W.many,rfl,ha,ok5,ay,fun _=>qS c,fun z=>absurd z (hno c)⟩
theorem Oo(aa:Ev P w K mg aA aN cK cT cS cB cN cO):Fc P w K mg "paper_holds" (GR P w) 4 (KJ cK cO cS):=by
 refine aa.h50.okX OZ ?_
 rintro bz f ak A outer s H _ Q E hr ⟨a,v,y,z,rfl,M,U,W,t,hT,ha,ok5,ay,hno,qO,qS⟩
 refine⟨_,Aa (AC (Am (Bq aa) hr (Ax (E1:=E) fun _ _ _ h=>h) (AR (pv 0)))) (Aa (AC (Am (Cd aa) hr (Ax (E1:=E) fun _ _ _ h=>h) (Av (pv 1) (AF (pv 0) rfl)))) Fb),?_⟩
 refine⟨a,M,U,W,rfl,hT,qO,fun c=>?_⟩
 exact⟨hT.ob,aa.TX.cl,aa.TX.many,By,v,t,W.many,rfl,ha,ok5,ay,fun _=>qS c,fun z=>absurd z (hno c)⟩
theorem SL(aa:Ev P w K mg aA aN cK cT cS cB cN cO):Fc P w K mg "way_to" (GR P w) 7 (QZ K cK cO cS):=by
 refine aa.h51.okX scWayTo ?_
 rintro bz f ak A outer s H _ Q E hr ⟨a,sn,v,seen,rfl,⟨M,U,W,t,hT,ha,ok5,ay,hno,qO,qS⟩,hN,wN,cV⟩
 refine⟨_,Aa (AC (Am (Bq aa) hr (Ax (E1:=E) fun _ _ _ h=>h) (AR (pv 0)))) (Aa (Az 3 scWayTo.nd (Oz (pv 0) aa.TX.cl (IQ aa) hr (Ax (E1:=E) fun _ _ _ h=>h) (Av (pv 1) (pv 2)))) Fb),?_⟩
 refine⟨a,M,U,W,rfl,hT,qO,fun c=>?_⟩
 exact⟨hT.ob,L9,a,sn,v,M,U,W,t,seen,rfl,hT,ha,ok5,ay,hN,wN,cV,fun _=>qS c,fun z=>absurd z (hno c)⟩
end
def XH(many:Nat)(z rule:Str)(t:Tr)(room:List Int)(es:List (V×Tr×Str))(bas:List Int)(ls:List (List Int))(e:Bool):Ta:=⟨many,z,rule,t,room,es,bas::ls,e⟩
def SY(S B:Addr)(m:Nat)(es:List (Tr×Str))(r:Option Addr):Prop:=D6 m es/\r=none\/Cy m es/\r=some S\/Cv m es/\r=some B
def Mp(O:Addr)(e:Bool)(p:Prop)(r:Option Addr):Prop:=e=true/\r=some O\/e=false/\p
def TM(O S B:Addr)(m:Nat)(e:Bool)(t:Tr)(es:List (Tr×Str))(r:Option Addr)(d:Str):Prop:=
 (d="say"\/d="paper"\/d="holds"\/d="way")/\Mp O e (¬t.ok m/\r=some S) r\/
 d="ask"/\¬t.ok m/\r=some S\/
 d="judged"/\Mp O e (SY S B m es r) r\/
 (d="catch"\/d="apart"\/d="first"\/d="second")/\Mp O e (r=none) r\/
 (d="falls"\/d="guesses")/\SY S B m es r
structure Re(K:PySem.W.Frag)(C:Addr)(H:Hp)(x rw rm:Addr)(v:V)(N:List Addr)(U:Tk)(many:Nat)(z rule:Str)(t0:Tr)(room:List Int)(cR:List (V×Tr×Str))(bas:List Int)(cX:List (List Int))(e:Bool)(t:Tr)(ps:List V)(es:List (Tr×Str)):Prop where
 T:TalkAt N C H x U (XH many z rule t0 room cR bas cX e)
 F:Full N H
 nt:∀m∈N,∀ys,H m≠some (.tup ys)
 e3:cR.length<=300
 l3:cX.length<=300
 m1:1<=many
 ha:t.At (Bb N H) v
 ok5:t.ok 5
 sz:t.size<=60
 rw:H rw=some (.lst ps)
 E:PairsAt H ps es
 rs:EJ es
 l9:es.length<=300
 rm:Ay H rm room
 ne:room≠[]
inductive UF(K:PySem.W.Frag)(C cS cB cO:Addr)(vs:List V)(H:Hp)(Q:VK)(E:XK):Prop where
 | mk (d:Str) (x rw rm:Addr) (v:V) (N:List Addr) (U:Tk) (many:Nat) (z rule:Str) (t0:Tr) (room:List Int) (cR:List (V×Tr×Str)) (bas:List Int) (cX:List (List Int)) (e:Bool) (t:Tr) (ps:List V) (es:List (Tr×Str)) (r:Option Addr) (_:vs=[.str d,.ref x,v,.ref rw,.ref rm]) (_:Re K C H x rw rm v N U many z rule t0 room cR bas cX e t ps es) (_:TM cO cS cB many e t es r d) (_:(r=none->∀(y:V)(H':Hp),Same H H'->Q y H')) (_:(∀c,r=some c->∀H',Same H H'->E (.ref c) none H')):UF K C cS cB cO vs H Q E
theorem GL{O S:Addr}{e:Bool}{p:Prop}{r:Option Addr}(h:Mp O e p r):(e=true->r=some O)/\(e=false->p):=by
 rcases h with⟨rfl,h⟩|⟨rfl,h⟩
 ·exact⟨fun _=>h,fun z=>by cases z⟩
 ·exact⟨fun z=>(by cases z),fun _=>h⟩
theorem FU(h1:D6 m es):¬Cy m es/\¬Cv m es:=by
 refine⟨?_,?_⟩
 ·rintro⟨i,e,hi,_,hn⟩
  exact hn (h1 e (zAJ hi)).1
 ·rintro⟨i,e,hi,_,_,hn⟩
  exact hn (h1 e (zAJ hi)).2.2.2
theorem NA:¬(Cy m es/\Cv m es):=by
 rintro⟨⟨i,e,hi,hg,hn⟩,j,f,hj,ip,ho,hw⟩
 rcases Nat.lt_trichotomy i j with h | h | h
 ·exact hn (ip i e h hi).1
 ·subst h
  rw[hi] at hj
  rw[zAE hj] at hn
  exact hn ho
 ·exact hw (hg j f h hj).2
theorem DE(h:SY S B m es r):(Cy m es->r=some S)/\(Cv m es->r=some B)/\(D6 m es->r=none):=by
 rcases h with⟨h,e⟩|⟨h,e⟩|⟨h,e⟩
 ·exact⟨fun z=>absurd z (FU h).1,fun z=>absurd z (FU h).2,fun _=>e⟩
 ·exact⟨fun _=>e,fun z=>absurd ⟨h,z⟩ NA,fun z=>absurd h (FU z).1⟩
 ·exact⟨fun z=>absurd ⟨z,h⟩ NA,fun _=>e,fun z=>absurd h (FU z).2⟩
section
def scLdo:=As WA ["_law_deed","_law_talk","_law_sentence_here","_law_row_here","_law_room_here","_law_fresh"] 5
theorem Vz(aa:Ev P w K mg aA aN cK cT cS cB cN cO):Fc P w K mg "_law_do" (GR P w) 9 (UF K cK cS cB cO):=by
 refine aa.h77.okX scLdo ?_
 rintro bz f ak A outer s H _ Q E hr ⟨d,x,rw,rm,v,N,U,many,z,rule,t0,room,cR,bas,cX,e,t,ps,es,r,rfl,D,due,q,qE⟩
 refine⟨_,Aa (An (AH AI (pv 0) Ae)
   (AK (Oz (pv 1) aa.TX.cl (Jd aa) hr (Ax (E1:=E) fun _ _ _ h=>h) (Av (pv 2) (pv 4))))
   Ag)
  (Aa (An (AH AI (pv 0) Ae)
   (AK (Oz (pv 1) aa.TX.cl (IQ aa) hr (Ax (E1:=E) fun _ _ _ h=>h) (Av (pv 2) (pv 4))))
   Ag)
  (Aa (An (AH AI (pv 0) Ae)
   (AK (Am (OM aa) hr (Ax (E1:=E) fun _ _ _ h=>h) (Ac (pv 1) (Av (pv 2) (pv 4)))))
   Ag)
  (Aa (An (AH AI (pv 0) Ae)
   (AK (Am (Oo aa) hr (Ax (E1:=E) fun _ _ _ h=>h) (Ac (pv 1) (Ac (pv 2) (Av (pv 4) (Aw (Av Ae (Ar (AR Ad)))))))))
   Ag)
  (Aa (An (AH AI (pv 0) Ae)
   (AK (Am (SL aa) hr (Ax (E1:=E) fun _ _ _ h=>h) (Ac (pv 1) (Av (pv 2) (pv 4)))))
   Ag)
  (Aa (An (AH AI (pv 0) Ae)
   (AK (Am (O3 aa) hr (Ax (E1:=E) fun _ _ _ h=>h) (Ac (pv 1) (Av (pv 4) (pv 3)))))
   Ag)
  (Aa (An (AH AI (pv 0) Ae)
   (AK (Am (L6 aa) hr (Ax (E1:=E) fun _ _ _ h=>h) (Av (pv 1) (pv 4))))
   Ag)
  (Aa (An (AH AI (pv 0) Ae)
   (AK (Am (Hh aa) hr (Ax (E1:=E) fun _ _ _ h=>h) (Ac (pv 1) (Av (BP (pv 1) aa.TX.cl (Jt aa) hr Ai) (pv 4)))))
   Ag)
  (Aa (Az 5 scLdo.nd (VU (Gy aa) hr (Ax (E1:=E) fun _ _ _ h=>h) (Ac (AF (pv 1) rfl) (Ac (pv 4) (Ac (AF (pv 1) rfl) (Av (AF (pv 1) rfl) (AF (pv 1) rfl)))))))
  (Aa (An (AH AI (pv 0) Ae)
   (AK (Am (Hh aa) hr (Ax (E1:=E) fun _ _ _ h=>h) (Ac (pv 1) (Av (pv 5) (pv 4)))))
   Ag)
  (Aa (An (AH AI (pv 0) Ae)
   (AK (Am (Hh aa) hr (Ax (E1:=E) fun _ _ _ h=>h) (Ac (pv 5) (Av (pv 1) (pv 4)))))
   Ag)
  (Aa (An (AH AI (pv 0) Ae)
   (AK (Am (JA aa) hr (Ax (E1:=E) fun _ _ _ h=>h) (Ac (AF (pv 1) rfl) (Ac (pv 4) (Ac (AF (pv 1) rfl) (Av (AF (pv 1) rfl) (pv 3)))))))
   Ag)
  (AK (Am (GD aa) hr (Ax (E1:=E) fun _ _ _ h=>h) (Ac (AF (pv 1) rfl) (Ac (pv 4) (Ac (AF (pv 1) rfl) (Av (AF (pv 1) rfl) (pv 3)))))))))))))))))),?_⟩
 have hT:=D.T
 have wr:Wr room:=hT.wr
 have m5:many<=5:=hT.m5
 have NO:∀{a b:Str},a≠b->¬(V.str a=V.str b):=fun h z=>h (by injection z)
 have rm0:=SqL.of (K:=K) D.rm
 have tr:t0.At H U.sv:=hT.tr.keep (TS.same cut_same)
 have gR:t0.ok 5:=Tr.ok.mono m5 hT.tok
 rcases due with⟨hd,h⟩|⟨rfl,h,hr⟩|⟨rfl,h⟩|⟨hd,h⟩|⟨hd,h⟩
 ·obtain⟨h1,h2⟩:=GL (S:=cS) h
  have no:∀{H':Hp},Same H H'->II cK cO cS x v H' E:=fun s'=>⟨N,U,_,t,hT.keep s',D.ha.keep (TS.same (cut_same.trans s')),D.ok5,D.sz,fun he=>(h2 he).1,fun he=>qE _ (h1 he) _ s',fun he H2 s2=>qE _ (h2 he).2 H2 (s'.trans s2)⟩
  rcases hd with rfl | rfl | rfl | rfl
  ·exact⟨rfl,Bc rfl ⟨hT.ob,LC,x,rm,v,N,U,_,t,room,rfl,hT,D.F,D.ha,D.ok5,D.sz,rm0,wr,D.ne,zBL D.e3 (by decide),by show cX.length+1<900;have:=D.l3;omega,fun he=>qE _ (h1 he),fun he _=>qE _ (h2 he).2,fun he ho=>absurd ho (h2 he).1⟩⟩
  ·iterate 2 refine⟨rfl,Ba (NO (by decide)) ?_⟩
   exact⟨rfl,Bc rfl ⟨x,v,_,rfl,no (Same.refl _)⟩⟩
  ·iterate 3 refine⟨rfl,Ba (NO (by decide)) ?_⟩
   exact⟨rfl,Bc rfl ⟨Gc,fun l hl=>⟨BT,fun p hp=>⟨x,v,_,_,rfl,no ((Ab hl _).trans (Ab hp _))⟩⟩⟩⟩
  ·iterate 4 refine⟨rfl,Ba (NO (by decide)) ?_⟩
   exact⟨rfl,Bc rfl ⟨x,rm,v,room,rfl,no (Same.refl _),rm0,wr,D.ne⟩⟩
 ·refine⟨rfl,Ba (NO (by decide)) ⟨rfl,Bc rfl ?_⟩⟩
  exact⟨hT.ob,L9,x,rm,v,N,U,_,t,room,rfl,hT,D.ha.keep (TS.same cut_same),D.ok5,D.sz,rm0,wr,D.ne,fun _=>qE _ hr,fun ho=>absurd ho h⟩
 ·obtain⟨h1,h2⟩:=GL (S:=cS) h
  iterate 5 refine⟨rfl,Ba (NO (by decide)) ?_⟩
  refine⟨rfl,Bc rfl ?_⟩
  exact⟨x,rm,rw,N,U,many,z,rule,t0,room,cR,bas,cX,_,room,ps,es,rfl,hT,D.F,D.nt,D.e3,D.l3,m5,D.rm,zA2 _,D.ne,D.rw,D.E,D.rs,D.l9,fun he=>qE _ (h1 he) H (Same.refl _),fun he=>(by cases (show e=false from he);rfl),fun he hs=>qE _ ((DE (h2 he)).1 hs),fun he hb=>qE _ ((DE (h2 he)).2.1 hb),fun he ho=>q ((DE (h2 he)).2.2 ho)⟩
 all_goals iterate 6 refine⟨rfl,Ba (NO (by rcases hd with rfl | hd<;>first | decide | (rcases hd with rfl | hd<;>first | decide | (rcases hd with rfl | rfl<;>decide)) | (subst hd;decide))) ?_⟩
 ·obtain⟨h1,h2⟩:=GL (S:=cS) h
  rcases hd with rfl | rfl | hd
  ·exact⟨rfl,Bc rfl ⟨x,rm,N,U,_,room,rfl,hT,D.m1,m5,D.rm,zA2 _,fun he=>qE _ (h1 he) H (Same.refl _),fun he=>q (h2 he)⟩⟩
  ·refine⟨rfl,Ba (NO (by decide)) ⟨rfl,Bc rfl ?_⟩⟩
   exact⟨hT.ob,M8,x,N,U,_,rfl,hT,D.F,fun b U' H1 s1 b0 g0 l0 T1=>⟨x,b,rm,N,_,U,U',_,_,room,rfl,hT.keep s1,T1,D.m1,m5,rfl,s1 _ _ D.rm,zA2 _,D.ne,fun he=>qE _ (h1 he) H1 s1,fun _ he=>qE _ (h1 he) H1 s1,fun he _ y H2 s2=>q (h2 he) y H2 (s1.trans s2)⟩⟩
  iterate 2 refine⟨rfl,Ba (NO (by rcases hd with rfl | rfl<;>decide)) ?_⟩
  refine⟨hT.ob,aa.TX.cl,aa.TX.many,By,hT.ob,aa.TX.cl,aa.TX.kind,ED,hT.ob,aa.TX.cl,aa.TX.sentence,B1,hT.ob,aa.TX.cl,aa.TX.rule,EW,fun x2 dx hx fA fB=>?_⟩
  have sM:Same H (upd (upd H dx (.own x2)) x2 (.ins cK dx [])):=(Ab fA _).trans (Ab (by rw[Al fB.symm];exact hx) _)
  refine⟨x2,dx,rm,many,z,rule,U.sv,t0,room,[],rfl,upd_same,by simp,fun m hm=>by simp at hm,Ej (tr.keep (TS.same sM)),gR,hT.tsz,m5,sM _ _ D.rm,wr,fun hn=>absurd hT.tok hn,fun _ hn=>absurd ⟨hT.rl,hT.kd⟩ hn,fun _ _ _ he=>absurd he hT.ns,fun _ _ _ _ U1 H2 b2 iw ix sp0 esv T2=>?_⟩
  have s2:Same H H2:=DT hx fA fB b2
  rcases hd with rfl | rfl
  ·exact⟨rfl,rfl,Bc rfl ⟨x,x2,rm,N,_,U,U1,_,_,room,rfl,hT.keep s2,T2,D.m1,m5,rfl,s2 _ _ D.rm,zA2 _,D.ne,fun he=>qE _ (h1 he) H2 s2,fun _ he=>(by cases he),fun he _ y H3 s3=>q (h2 he) y H3 (s2.trans s3)⟩⟩
  ·exact⟨rfl,rfl,Ba (NO (by decide)) ⟨rfl,Bc rfl ⟨x2,x,rm,_,N,U1,U,_,_,room,rfl,T2,hT.keep s2,D.m1,m5,rfl,s2 _ _ D.rm,zA2 _,D.ne,fun he=>(by cases he),fun _ he=>qE _ (h1 he) H2 s2,fun _ he y H3 s3=>q (h2 he) y H3 (s2.trans s3)⟩⟩⟩
 ·obtain⟨h1,h2,h3⟩:=DE h
  iterate 2 refine⟨rfl,Ba (NO (by rcases hd with rfl | rfl<;>decide)) ?_⟩
  refine⟨hT.ob,aa.TX.cl,aa.TX.many,By,hT.ob,aa.TX.cl,aa.TX.kind,ED,hT.ob,aa.TX.cl,aa.TX.sentence,B1,hT.ob,aa.TX.cl,aa.TX.rule,EW,fun x2 dx hx fA fB=>?_⟩
  have sM:Same H (upd (upd H dx (.own x2)) x2 (.ins cK dx [])):=(Ab fA _).trans (Ab (by rw[Al fB.symm];exact hx) _)
  refine⟨x2,dx,rm,many,z,rule,U.sv,t0,room,[],rfl,upd_same,by simp,fun m hm=>by simp at hm,Ej (tr.keep (TS.same sM)),gR,hT.tsz,m5,sM _ _ D.rm,wr,fun hn=>absurd hT.tok hn,fun _ hn=>absurd ⟨hT.rl,hT.kd⟩ hn,fun _ _ _ he=>absurd he hT.ns,fun _ _ _ _ U1 H2 b2 iw ix sp0 esv T2=>?_⟩
  have s2:Same H H2:=DT hx fA fB b2
  refine⟨rfl,?_⟩
  iterate 2 refine⟨rfl,Ba (NO (by rcases hd with rfl | rfl<;>decide)) ?_⟩
  have ob2:=(hT.keep s2).ob
  rcases hd with rfl | rfl
  ·exact⟨rfl,Bc rfl ⟨ob2,aa.TX.cl,aa.TX.many,By,ob2,aa.TX.cl,aa.TX.kind,ED,ob2,aa.TX.cl,aa.TX.sentence,B1,rm,rw,room,ps,es,many,z,U.sv,t0,rfl,s2 _ _ D.rm,wr,tr.keep (TS.same s2),gR,zAC hT.tsz (by decide),s2 _ _ D.rw,PairsAt.keep s2 D.E,D.rs,zAC D.l9 (by decide),fun hn=>absurd hT.tok hn,fun _ hn=>absurd hT.kd hn,fun _ _ he=>absurd he hT.ns,fun _ _ _ hs H3 s3=>qE _ (h1 hs) H3 (s2.trans s3),fun _ _ _ hb H3 s3=>qE _ (h2 hb) H3 (s2.trans s3),fun _ _ _ ho y H3 s3=>q (h3 ho) y H3 (s2.trans s3)⟩⟩
  ·exact⟨rfl,Ba (NO (by decide)) ⟨ob2,aa.TX.cl,aa.TX.many,By,ob2,aa.TX.cl,aa.TX.kind,ED,ob2,aa.TX.cl,aa.TX.sentence,B1,rm,rw,room,ps,es,many,z,U.sv,t0,rfl,s2 _ _ D.rm,wr,tr.keep (TS.same s2),gR,zAC hT.tsz (by decide),s2 _ _ D.rw,PairsAt.keep s2 D.E,D.rs,D.l9,m5,fun hn=>absurd hT.tok hn,fun _ hn=>absurd hT.kd hn,fun _ _ he=>absurd he hT.ns,fun _ _ _ hs H3 s3=>qE _ (h1 hs) H3 (s2.trans s3),fun _ _ _ hb H3 s3=>qE _ (h2 hb) H3 (s2.trans s3),fun _ _ _ ho y H3 s3=>q (h3 ho) y H3 (s2.trans s3)⟩⟩
end
theorem Gq(K:PySem.W.Frag)(C:Addr):kitOne K (.ref C) (.ref C)=some true:=by
 unfold kitOne
 rw[if_pos (beq_self_eq_true _)]
def QS(O S B:Addr)(r:Option Addr)(wd:Str):Prop:=r=none/\wd=""\/r=some O/\wd="over"\/r=some S/\wd="strange"\/r=some B/\wd="bad"
inductive RM(K:PySem.W.Frag)(C cS cB cO:Addr)(vs:List V)(H:Hp)(Q:VK)(E:XK):Prop where
 | mk (d:Str) (x rw rm:Addr) (v:V) (N:List Addr) (U:Tk) (many:Nat) (z rule:Str) (t0:Tr) (room:List Int) (cR:List (V×Tr×Str)) (bas:List Int) (cX:List (List Int)) (e:Bool) (t:Tr) (ps:List V) (es:List (Tr×Str)) (r:Option Addr) (wd:Str) (_:vs=[.str d,.ref x,v,.ref rw,.ref rm]) (_:Re K C H x rw rm v N U many z rule t0 room cR bas cX e t ps es) (_:TM cO cS cB many e t es r d) (_:QS cO cS cB r wd) (_:∀(H':Hp),Same H H'->Q (.str wd) H'):RM K C cS cB cO vs H Q E
section
def scLref:=As UG ["_law_deed","_law_talk","_law_sentence_here","_law_row_here","_law_room_here","_law_found","e"] 5
theorem Eo(aa:Ev P w K mg aA aN cK cT cS cB cN cO):Fc P w K mg "_law_refusal" Bh 10 (RM K cK cS cB cO):=by
 refine aa.h78.ok scLref ?_
 rintro bz f ak A outer s H _ Q E hr ⟨d,x,rw,rm,v,N,U,many,z,rule,t0,room,cR,bas,cX,e,t,ps,es,r,wd,rfl,D,due,hw,q⟩
 refine⟨_,Aa (Az 5 scLref.nd Ae)
  (Aa (MA (fun σ1 E1 pn1 Ex1 hp=>E5 (Ro (Vz aa) hr hp (Ac (pv 0) (Ac (pv 1) (Ac (pv 2) (Av (pv 3) (pv 4)))))))
   (Vm (i:=6) (fun a oe=>(Aa (An (A6 (Ao CS (by rfl) aa.T.isi boot_isinstance (Av (pv 6) (BK (v:=.ref cO) (by rfl) aa.X_TalkOver.m rfl))))
    (Aj (Az 5 scLref.nd (Ak CW (pv 5) Ae)))
    Ag)
   (Aa (An (A6 (Ao CS (by rfl) aa.T.isi boot_isinstance (Av (pv 6) (BK (v:=.ref cS) (by rfl) aa.X_StrangeLetter.m rfl))))
    (Aj (Az 5 scLref.nd (Ak CW (pv 5) Ae)))
    Ag)
   (Aa (An (A6 (Ao CS (by rfl) aa.T.isi boot_isinstance (Av (pv 6) (BK (v:=.ref cB) (by rfl) aa.X_BadWord.m rfl))))
    (Aj (Az 5 scLref.nd (Ak CW (pv 5) Ae)))
    Ag)
   (Aj (An (GQ (A6 (Ao CS (by rfl) aa.T.isi boot_isinstance (Av (pv 6) (BK (v:=.ref cN) (by rfl) aa.X_NoStanding.m rfl)))) (Eg (B3 (A6 (Ao CS (by rfl) aa.T.isi boot_isinstance (Av (pv 6) (Co (v:=.ty "ValueError") (by rfl) aa.XT.mV PyProof.Rows.Boot.«ValueError» rfl))))))).pt
    (Aj (Az 5 scLref.nd (Ak CW (pv 5) Ae)))
    Ag)))))) MT (by rfl) aa.XT.m aa.XT.ty aa.XT.ic aa.XT.bs scLref.nd rfl rfl (Or.inl rfl)) rfl rfl)
  (AK (pv 5))),?_⟩
 refine⟨fun cls dx H'=>dx=none/\Same H H'/\∃c,r=some c/\cls= .ref c,⟨d,x,rw,rm,v,N,U,many,z,rule,t0,room,cR,bas,cX,e,t,ps,es,r,rfl,D,due,fun hr y H' s'=>?_,fun c hc H' s'=>⟨rfl,s',c,hc,rfl⟩⟩,?_⟩
 ·have e:wd="":=by
   rcases hw with⟨_,h⟩|⟨h,_⟩|⟨h,_⟩|⟨h,_⟩
   ·exact h
   all_goals rw[hr] at h;cases h
  rw[e] at q
  exact q H' s'
 rintro cls dx H' ⟨rfl,s',c,hc,rfl⟩
 rcases hw with⟨h,_⟩|⟨h,hw⟩|⟨h,hw⟩|⟨h,hw⟩
 ·rw[hc] at h;cases h
 all_goals rw[hc] at h;cases h;rw[hw] at q
 ·refine⟨cO,rfl,true,aa.X_TalkOver.up,A8 fun a vs sl eT=>?_⟩
  refine⟨a,cO,cT,_,_,_,rfl,aa.X_TalkOver.at_,⟨vs,sl,List.mem_cons_self⟩,(fun u r=>r),Gq _ _,A8 ⟨zAZ (Ap (by decide)),?_⟩⟩
  refine⟨a,cO,cT,_,_,_,rfl,aa.X_TalkOver.at_,⟨vs,sl,List.mem_cons_self⟩,(fun u r=>r),(aa.X_TalkOver.ap aa.X_StrangeLetter aa.A_TalkOver_StrangeLetter).kit,AY ?_⟩
  refine⟨a,cO,cT,_,_,_,rfl,aa.X_TalkOver.at_,⟨vs,sl,List.mem_cons_self⟩,(fun u r=>r),(aa.X_TalkOver.ap aa.X_BadWord aa.A_TalkOver_BadWord).kit,AY ?_⟩
  refine⟨a,cO,cT,_,_,_,rfl,aa.X_TalkOver.at_,⟨vs,sl,List.mem_cons_self⟩,(fun u r=>r),(aa.X_TalkOver.ap aa.X_NoStanding aa.A_TalkOver_NoStanding).kit,AY ?_⟩
  refine⟨a,cO,cT,_,_,_,rfl,aa.X_TalkOver.at_,⟨vs,sl,List.mem_cons_self⟩,(fun u r=>r),aa.X_TalkOver.kv,AY ?_⟩
  exact q _ s'
 ·refine⟨cS,rfl,true,aa.X_StrangeLetter.up,A8 fun a vs sl eT=>?_⟩
  refine⟨a,cS,cT,_,_,_,rfl,aa.X_StrangeLetter.at_,⟨vs,sl,List.mem_cons_self⟩,(fun u r=>r),(aa.X_StrangeLetter.ap aa.X_TalkOver aa.A_StrangeLetter_TalkOver).kit,AY ?_⟩
  refine⟨a,cS,cT,_,_,_,rfl,aa.X_StrangeLetter.at_,⟨vs,sl,List.mem_cons_self⟩,(fun u r=>r),Gq _ _,A8 ⟨zAZ (Ap (by decide)),?_⟩⟩
  refine⟨a,cS,cT,_,_,_,rfl,aa.X_StrangeLetter.at_,⟨vs,sl,List.mem_cons_self⟩,(fun u r=>r),(aa.X_StrangeLetter.ap aa.X_BadWord aa.A_StrangeLetter_BadWord).kit,AY ?_⟩
  refine⟨a,cS,cT,_,_,_,rfl,aa.X_StrangeLetter.at_,⟨vs,sl,List.mem_cons_self⟩,(fun u r=>r),(aa.X_StrangeLetter.ap aa.X_NoStanding aa.A_StrangeLetter_NoStanding).kit,AY ?_⟩
  refine⟨a,cS,cT,_,_,_,rfl,aa.X_StrangeLetter.at_,⟨vs,sl,List.mem_cons_self⟩,(fun u r=>r),aa.X_StrangeLetter.kv,AY ?_⟩
  exact q _ s'
 ·refine⟨cB,rfl,true,aa.X_BadWord.up,A8 fun a vs sl eT=>?_⟩
  refine⟨a,cB,cT,_,_,_,rfl,aa.X_BadWord.at_,⟨vs,sl,List.mem_cons_self⟩,(fun u r=>r),(aa.X_BadWord.ap aa.X_TalkOver aa.A_BadWord_TalkOver).kit,AY ?_⟩
  refine⟨a,cB,cT,_,_,_,rfl,aa.X_BadWord.at_,⟨vs,sl,List.mem_cons_self⟩,(fun u r=>r),(aa.X_BadWord.ap aa.X_StrangeLetter aa.A_BadWord_StrangeLetter).kit,AY ?_⟩
  refine⟨a,cB,cT,_,_,_,rfl,aa.X_BadWord.at_,⟨vs,sl,List.mem_cons_self⟩,(fun u r=>r),Gq _ _,A8 ⟨zAZ (Ap (by decide)),?_⟩⟩
  refine⟨a,cB,cT,_,_,_,rfl,aa.X_BadWord.at_,⟨vs,sl,List.mem_cons_self⟩,(fun u r=>r),(aa.X_BadWord.ap aa.X_NoStanding aa.A_BadWord_NoStanding).kit,AY ?_⟩
  refine⟨a,cB,cT,_,_,_,rfl,aa.X_BadWord.at_,⟨vs,sl,List.mem_cons_self⟩,(fun u r=>r),aa.X_BadWord.kv,AY ?_⟩
  exact q _ s'
end
def WH(m:Nat)(es:List (Tr×Str))(wd:Str):Prop:=D6 m es/\wd=""\/Cy m es/\wd="strange"\/Cv m es/\wd="bad"
inductive Jy(vs:List V)(H:Hp)(Q:VK)(E:XK):Prop where
 | mk (n:Int) (many:Nat) (v u:V) (t tf:Tr) (_:vs=[.int n,.int many,v,u]) (_:0<=n) (_:1<=many) (_:many<=5) (_:t.At H v) (_:t.ok many) (_:t.size<=30) (_:tf.At H u) (_:tf.ok 5) (_:tf.size<=60) (_:¬tf.ok many) (_:∀(p l:Addr)(ps:List V)(es:List (Tr×Str))(wd:Str)(H':Hp),Same H H'->H l=none->H' p=some (.tup [.ref l,.str wd])->H' l=some (.lst ps)->PairsAt H' ps es->EJ es->es.length<=5->WH many es wd->Q (.ref p) H'):Jy  vs H Q E
theorem OO(xs:List V)(m:Nat)(h:m<=xs.length):Dj xs (some (m:Int)) none=xs.drop m:=by
 unfold Dj
 rw[HT.sIx_none,HT.sIx_nat,Nat.min_eq_left h]
 exact zBJ (by rw[zCA];exact zAA _)
theorem G5{H:Hp}:∀{xs:List V}{es:List (Tr×Str)}(m:Nat),PairsAt H xs es->PairsAt H (xs.drop m) (es.drop m)
 | _,_,0,h=>h
 | _,_,_+1,.nil=>.nil
 | _,_,m+1,.cons _ q=>G5 m q
theorem DH{H:Hp}:∀{xs ys:List V}{es fs:List (Tr×Str)},PairsAt H xs es->PairsAt H ys fs->PairsAt H (xs++ys) (es++fs)
 | _,_,_,_,.nil,q=>q
 | _,_,_,_,.cons h p,q=>.cons h (DH p q)
theorem Uf{m:Nat}{A T B:List (Tr×Str)}{bw ow wd:Str}(hA:∀e∈A,Sa m e)(hT:T=[]/\wd=""\/T.head? = some (t,bw)/\wd="bad"\/T.head? = some (tf,ow)/\wd="strange")(ok:D6 m (A++B))(ht:t.ok m)(hb:¬IU bw)(hf:¬tf.ok m):WH m (A++T++B) wd:=by
 have at_:∀{e:Tr×Str},T.head? = some e->(A++T++B)[A.length]? = some e/\∀j f,j<A.length->(A++T++B)[j]? = some f->Sa m f:=fun {e} h=>by
  cases T with
  | nil=>cases h
  | cons x T=>
   cases h
   refine⟨by rw[zA9,List.getElem?_append_right (zAA _),Nat.sub_self];rfl,fun j f hj hf=>?_⟩
   rw[zA9,List.getElem?_append_left hj] at hf
   exact hA f (zAJ hf)
 rcases hT with⟨rfl,rfl⟩|⟨h,rfl⟩|⟨h,rfl⟩
 ·refine .inl ⟨?_,rfl⟩
  rw[zAU]
  exact ok
 ·obtain⟨h1,h2⟩:=at_ h
  exact .inr (.inr ⟨⟨_,_,h1,h2,ht,hb⟩,rfl⟩)
 ·obtain⟨h1,h2⟩:=at_ h
  exact .inr (.inl ⟨⟨_,_,h1,h2,hf⟩,rfl⟩)
section
def scLrow46:=As Ml ["_law_n","_law_many","_law_sentence_here","_law_far","_law_good","_law_bad","_law_odd","_law_two","_law_due","_law_at"] 4
theorem OV(aa:Ev P w K mg aA aN cK cT cS cB cN cO):Fc P w K mg "_law_row" Bh 1 Jy:=by
 refine aa.h43.ok scLrow46 ?_
 rintro bz f ak A outer s H _ Q E hr ⟨n,many,v,u,t,tf,rfl,n0,m1,m5,hv,tok,tsz,hu,d9,fsz,fH,q⟩
 refine⟨_,Aa (Az 4 scLrow46.nd (Cj DY (Ar (Ac (Aw (Av (Aw (Av Ae (pv 2))) Ae)) (Av (Aw (Av (pv 2) Ae)) (Aw (Av (Aw (Av Ae Ad)) Ae))))) CZ (CV (Ak AL (pv 0) Ad))))
  (Aa (Az 5 scLrow46.nd (Aw (Av (pv 2) (AN AD (Ar (Ac Ae (Ac Ae (Ac Ae (Av Ae Ae))))) (Ak AL (Ak AT (pv 0) Ad) Ad)))))
  (Aa (Az 6 scLrow46.nd (Aw (Av (pv 3) (AN AD (Ar (Ac Ae (Ac Ae (Av Ae Ae)))) (Ak AL (Ak AT (pv 0) Ad) Ad)))))
  (Aa (Az 7 scLrow46.nd (AN AD (Ar (Ac (Ar (AR (pv 5))) (Ac (Ar (AR (pv 6))) (Ac (Ar (Av (pv 5) (pv 6))) (Av (Ar (Av (pv 6) (pv 5))) (Ar Bk)))))) (Ak AL (Ak AT (pv 0) Ad) Ad)))
  (Aa (Az 8 scLrow46.nd (AN AD (Ar (Ac Ae (Ac Ae (Ac Ae (Av Ae Ae))))) (Ak AL (Ak AT (pv 0) Ad) Ad)))
  (Aa (Az 9 scLrow46.nd (Ak AL (Ak AT (pv 0) Ad) (Ak BB (Ao Aq (by rfl) aa.B.len zAO (AR (pv 4))) Ad)))
  (AK (Aw (Av (Ak Ek (Ak Ek (Cj DY (pv 4) CZ (CV (pv 9))) (pv 7)) (Cj DY (pv 4) (CV (pv 9)) CZ)) (pv 8))))))))),?_⟩
 have ok5:t.ok 5:=Tr.ok.mono m5 tok
 refine⟨BT,fun nt hnt=>⟨BT,fun p1 bI=>⟨BT,fun p2 bd=>⟨BT,fun lt aK=>⟨BT,fun p3 cU=>⟨E2,fun l0 aY=>?_⟩⟩⟩⟩⟩⟩
 have s1:=Ab hnt (.tup [.str "not",v])
 have g1:upd H nt (.tup [.str "not",v]) nt=_:=upd_same
 generalize upd H nt _=H1 at *
 have s2:=Ab bI (.tup [.ref nt,.str "doubt"])
 have g2:upd H1 p1 (.tup [.ref nt,.str "doubt"]) p1=_:=upd_same
 generalize upd H1 p1 _=H2 at *
 have s3:=Ab bd (.tup [v,.str "grant"])
 have g3:upd H2 p2 (.tup [v,.str "grant"]) p2=_:=upd_same
 generalize upd H2 p2 _=H3 at *
 have s4:=Ab aK (.tup [.str "let",.int 0])
 have g4:upd H3 lt (.tup [.str "let",.int 0]) lt=_:=upd_same
 generalize upd H3 lt _=H4 at *
 have s5:=Ab cU (.tup [.ref lt,.str "deny"])
 have g5:upd H4 p3 (.tup [.ref lt,.str "deny"]) p3=_:=upd_same
 generalize upd H4 p3 _=H5 at *
 have s6:=Ab aY (.lst [.ref p1,.ref p2,.ref p3])
 have g6:upd H5 l0 (.lst [.ref p1,.ref p2,.ref p3]) l0=_:=upd_same
 generalize upd H5 l0 _=H6 at *
 have s06:=s1.trans (s2.trans (s3.trans (s4.trans (s5.trans s6))))
 have k0:=zAV n (show (4:Int)≠0 by decide)
 have k1:=zAY n (show (0:Int)<4 by decide)
 obtain⟨k,hk⟩:∃k:Nat,n%4=(k:Nat):=⟨(n%4).toNat,by omega⟩
 have k4:k<4:=by omega
 obtain⟨G,hG⟩:∃G:List (Tr×Str),G=[(Tr.nt t,("doubt":Str)),(t,("grant":Str)),(Tr.lt 0,("deny":Str))]:=⟨_,rfl⟩
 have hGat:PairsAt H6 [.ref p1,.ref p2,.ref p3] G:=by
  rw[hG]
  refine .cons ⟨p1,.ref nt,rfl,(s3.trans (s4.trans (s5.trans s6))) _ _ g2,⟨nt,v,rfl,(s2.trans (s3.trans (s4.trans (s5.trans s6)))) _ _ g1,hv.keep (TS.same s06)⟩⟩ (.cons ⟨p2,v,rfl,(s4.trans (s5.trans s6)) _ _ g3,hv.keep (TS.same s06)⟩ (.cons ⟨p3,.ref lt,rfl,s6 _ _ g5,⟨lt,rfl,(s5.trans s6) _ _ g4⟩⟩ .nil))
 have hGok:∀e∈G,e.1.ok many/\e.1.ok 5/\e.1.size<=60/\IU e.2:=by
  rw[hG]
  intro e he
  simp only[zAS,zAT,or_false] at he
  rcases he with rfl | rfl | rfl
  ·exact⟨tok,ok5,by show t.size+1<=60;omega,.inr (.inr rfl)⟩
  ·exact⟨tok,ok5,by show t.size<=60;omega,.inl rfl⟩
  ·exact⟨m1,by show 0<5;decide,by show 1<=60;decide,.inr (.inl rfl)⟩
 refine⟨(by show (0:Int)<4;decide),_,rfl,l0,_,rfl,SqL.of g6,fun gl cM=>?_⟩
 rw[hk,E3 _ _ (by show k<=3;omega)]
 have s7:=Ab cM (.lst ([V.ref p1,.ref p2,.ref p3].take k))
 have g7:upd H6 gl (.lst ([V.ref p1,.ref p2,.ref p3].take k)) gl=_:=upd_same
 generalize upd H6 gl _=H7 at *
 have s07:=s06.trans s7
 have hA:=C3 k (PairsAt.keep s7 hGat)
 have gS:∀e∈G.take k,e.1.ok many/\e.1.ok 5/\e.1.size<=60/\IU e.2:=fun e he=>hGok e (zCH he)
 have hAl:(G.take k).length=k:=by rw[zAM,hG];show min k 3=k;omega
 generalize G.take k=Gk at *
 generalize [V.ref p1,.ref p2,.ref p3].take k=Pk at *
 have hPl:Pk.length=k:=by rw[hA.len];exact hAl
 clear hGat hGok hG g1 g2 g3 g4 g5 g6 s1 s2 s3 s4 s5 s6 s06
 have md:∀(a b:Int),0<b->∃j:Nat,a%b=(j:Nat)/\((j:Nat):Int)<b:=fun a b h=>⟨(a%b).toNat,by have:=zAV a (zC3 h);omega,by have h1:=zAV a (zC3 h);have h2:=zAY a h;omega⟩
 have hbw:∃wd:Str,¬IU wd/\EF [V.str "",.str "Grant",.str "yes",.str "deny ",.str "doubted"] (n / 4%5)=some (.str wd):=by
  obtain⟨j,hj,hl⟩:=md (n / 4) 5 (by decide)
  rw[hj]
  have:j=0\/j=1\/j=2\/j=3\/j=4:=by omega
  rcases this with rfl | rfl | rfl | rfl | rfl<;>exact⟨_,(by unfold IU;decide),Af rfl⟩
 obtain⟨bw,hbw,hba⟩:=hbw
 refine⟨by decide,fun wl be=>⟨⟨by decide,by decide⟩,(by show (0:Int)<5;decide),SqL.of upd_same,hba,BT,fun bp hbp=>?_⟩⟩
 have s8:=Ab be (.lst [V.str "",.str "Grant",.str "yes",.str "deny ",.str "doubted"])
 generalize upd H7 wl _=H8 at *
 have s9:=Ab hbp (.tup [v,.str bw])
 have g9:upd H8 bp (.tup [v,.str bw]) bp=_:=upd_same
 generalize upd H8 bp _=H9 at *
 have how:∃wd:Str,EF [V.str "grant",.str "deny",.str "doubt",.str "no"] (n / 20%4)=some (.str wd):=by
  obtain⟨j,hj,hl⟩:=md (n / 20) 4 (by decide)
  rw[hj]
  have:j=0\/j=1\/j=2\/j=3:=by omega
  rcases this with rfl | rfl | rfl | rfl<;>exact⟨_,Af rfl⟩
 obtain⟨ow,hoa⟩:=how
 refine⟨by decide,fun yl dG=>⟨⟨by decide,by decide⟩,(by show (0:Int)<4;decide),SqL.of upd_same,hoa,BT,fun op hop=>?_⟩⟩
 have ba:=Ab dG (.lst [V.str "grant",.str "deny",.str "doubt",.str "no"])
 generalize upd H9 yl _=dJ at *
 have dy:=Ab hop (.tup [u,.str ow])
 have g11:upd dJ op (.tup [u,.str ow]) op=_:=upd_same
 generalize upd dJ op _=eM at *
 have s011:=s07.trans (s8.trans (s9.trans (ba.trans dy)))
 have bat:PairsAt eM [.ref bp] [(t,bw)]:=.cons ⟨bp,v,rfl,(ba.trans dy) _ _ g9,hv.keep (TS.same s011)⟩ .nil
 have oat:PairsAt eM [.ref op] [(tf,ow)]:=.cons ⟨op,u,rfl,g11,hu.keep (TS.same s011)⟩ .nil
 have cM:=(s8.trans (s9.trans (ba.trans dy))) _ _ g7
 have hA:=PairsAt.keep (s8.trans (s9.trans (ba.trans dy))) hA
 clear g9 g11 g7 s8 s9 ba dy s7 s07
 refine⟨Gc,fun a1 h1=>⟨Gc,fun a2 h2=>⟨BT,fun a3 h3=>⟨BT,fun a4 h4=>⟨IF,fun a5 h5=>⟨zAZ (Ap (by show 5<=1000;decide)),fun a6 h6=>?_⟩⟩⟩⟩⟩⟩
 have s1:=Ab h1 (.lst [.ref bp])
 have g1:upd eM a1 (.lst [.ref bp]) a1=_:=upd_same
 generalize upd eM a1 _=f7 at *
 have s2:=Ab h2 (.lst [.ref op])
 have g2:upd f7 a2 (.lst [.ref op]) a2=_:=upd_same
 generalize upd f7 a2 _=eV at *
 have s3:=Ab h3 (.lst [.ref bp,.ref op])
 have g3:upd eV a3 (.lst [.ref bp,.ref op]) a3=_:=upd_same
 generalize upd eV a3 _=H14 at *
 have s4:=Ab h4 (.lst [.ref op,.ref bp])
 have g4:upd H14 a4 (.lst [.ref op,.ref bp]) a4=_:=upd_same
 generalize upd H14 a4 _=H15 at *
 have s5:=Ab h5 (.lst [])
 have g5:upd H15 a5 (.lst []) a5=_:=upd_same
 generalize upd H15 a5 _=H16 at *
 have s6:=Ab h6 (.lst [.ref a1,.ref a2,.ref a3,.ref a4,.ref a5])
 have g6:upd H16 a6 (.lst [.ref a1,.ref a2,.ref a3,.ref a4,.ref a5]) a6=_:=upd_same
 generalize upd H16 a6 _=H17 at *
 have bW:=s2.trans (s3.trans (s4.trans (s5.trans s6)))
 have s017:=s011.trans (s1.trans bW)
 obtain⟨j,hj,j5⟩:=md (n / 80) 5 (by decide)
 have fJ:TK fun(a:Addr)(Pt:List V)(T:List (Tr×Str))(wd:Str)=>U9 (EF [V.ref a1,.ref a2,.ref a3,.ref a4,.ref a5] (n / 80%5)=some (.ref a)) (EF [V.str "bad",.str "strange",.str "bad",.str "strange",.str ""] (n / 80%5)=some (.str wd)) (H17 a=some (.lst Pt)) (PairsAt H17 Pt T) (T.length<=2) (∀e∈T,e=(t,bw)\/e=(tf,ow)) (T=[]/\wd=""\/T.head? = some (t,bw)/\wd="bad"\/T.head? = some (tf,ow)/\wd="strange"):=by
  have bat:=PairsAt.keep (s1.trans bW) bat
  have oat:=PairsAt.keep (s1.trans bW) oat
  rw[hj]
  have:j=0\/j=1\/j=2\/j=3\/j=4:=by omega
  rcases this with rfl | rfl | rfl | rfl | rfl
  ·exact⟨a1,_,_,_,Af rfl,Af rfl,bW _ _ g1,bat,by simp,fun e he=>.inl (List.mem_singleton.mp he),.inr (.inl ⟨rfl,rfl⟩)⟩
  ·exact⟨a2,_,_,_,Af rfl,Af rfl,(s3.trans (s4.trans (s5.trans s6))) _ _ g2,oat,by simp,fun e he=>.inr (List.mem_singleton.mp he),.inr (.inr ⟨rfl,rfl⟩)⟩
  ·exact⟨a3,_,[(t,bw),(tf,ow)],_,Af rfl,Af rfl,(s4.trans (s5.trans s6)) _ _ g3,by cases bat with | cons x _=>exact .cons x oat,by simp,fun e he=>by simpa using he,.inr (.inl ⟨rfl,rfl⟩)⟩
  ·exact⟨a4,_,[(tf,ow),(t,bw)],_,Af rfl,Af rfl,(s5.trans s6) _ _ g4,by cases oat with | cons x _=>exact .cons x bat,by simp,fun e he=>(show e=(tf,ow)\/e=(t,bw) by simpa using he).symm,.inr (.inr ⟨rfl,rfl⟩)⟩
  ·exact⟨a5,[],[],_,Af rfl,Af rfl,s6 _ _ g5,.nil,by simp,fun e he=>(nomatch he),.inl ⟨rfl,rfl⟩⟩
 obtain⟨ta,Pt,T,wd,hta,hwd,hTa,hT,hTl,hTe,hTw⟩:=fJ
 have cM:=(s1.trans bW) _ _ cM
 have hA:=PairsAt.keep (s1.trans bW) hA
 refine⟨⟨by decide,by decide⟩,(by show (0:Int)<5;decide),SqL.of g6,hta,?_⟩
 clear g1 g2 g3 g4 g5 g6 s1 s2 s3 s4 s5 s6 bW bat oat hta
 refine⟨by decide,fun dl gD=>⟨⟨by decide,by decide⟩,(by show (0:Int)<5;decide),SqL.of upd_same,hwd,?_⟩⟩
 have s1:=Ab gD (.lst [V.str "bad",.str "strange",.str "bad",.str "strange",.str ""])
 generalize upd H17 dl _=H18 at *
 have hTa:=s1 _ _ hTa
 have cM:=s1 _ _ cM
 have hA:=PairsAt.keep s1 hA
 have hT:=PairsAt.keep s1 hT
 have s018:=s017.trans s1
 clear s1 s017 hwd gD
 obtain⟨i,hi,hi2⟩:=md (n / 400) (((Pk.length:Nat):Int)+1) (by omega)
 have hik:i<=Pk.length:=by omega
 refine⟨⟨by decide,by decide⟩,.inl (SqL.of cM),(by show (0:Int)<((Pk.length:Nat):Int)+1;omega),?_⟩
 refine⟨_,rfl,gl,_,rfl,SqL.of cM,fun b1 bo=>?_⟩
 rw[hi,E3 _ _ hik]
 have s1:=Ab bo (.lst (Pk.take i))
 have g1:upd H18 b1 (.lst (Pk.take i)) b1=_:=upd_same
 generalize upd H18 b1 _=H19 at *
 have hPt:Pt.length<=2:=by rw[hT.len];exact hTl
 refine⟨b1,ta,_,_,rfl,rfl,g1,s1 _ _ hTa,zAZ (Ap (by rw[zAM];omega)),fun b2 fP=>?_⟩
 have s2:=Ab fP (.lst (Pk.take i++Pt))
 have g2:upd H19 b2 (.lst (Pk.take i++Pt)) b2=_:=upd_same
 generalize upd H19 b2 _=H20 at *
 refine⟨_,rfl,gl,_,rfl,SqL.of ((s1.trans s2) _ _ cM),fun b3 hb3=>?_⟩
 rw[hi,OO _ _ hik]
 have s3:=Ab hb3 (.lst (Pk.drop i))
 have g3:upd H20 b3 (.lst (Pk.drop i)) b3=_:=upd_same
 generalize upd H20 b3 _=H21 at *
 refine⟨b2,b3,_,_,rfl,rfl,s3 _ _ g2,g3,zAZ (Ap (by rw[zA,zAM,zCA];omega)),fun b4 hb4=>?_⟩
 have s4:=Ab hb4 (.lst (Pk.take i++Pt++Pk.drop i))
 have g4:upd H21 b4 (.lst (Pk.take i++Pt++Pk.drop i)) b4=_:=upd_same
 generalize upd H21 b4 _=H22 at *
 refine⟨BT,fun rp hrp=>?_⟩
 have s5:=Ab hrp (.tup [.ref b4,.str wd])
 have s1822:=s1.trans (s2.trans (s3.trans s4))
 have sA:=s1822.trans s5
 refine q rp b4 _ (Gk.take i++T++Gk.drop i) wd _ (s018.trans sA) ((s018.trans (s1.trans (s2.trans s3))).free hb4) upd_same (s5 _ _ g4) (DH (DH (C3 i (PairsAt.keep sA hA)) (PairsAt.keep sA hT)) (G5 i (PairsAt.keep sA hA))) (fun e he=>?_) ?_ ?_
 ·rcases List.mem_append.mp he with h | h
  ·rcases List.mem_append.mp h with h | h
   ·have:=gS e (zCH h);exact⟨this.2.1,this.2.2.1⟩
   ·rcases hTe e h with rfl | rfl
    ·exact⟨ok5,by show t.size<=60;omega⟩
    ·exact⟨d9,fsz⟩
  ·have:=gS e (List.mem_of_mem_drop h);exact⟨this.2.1,this.2.2.1⟩
 ·rw[zA,zA,zAM,zCA];omega
 ·refine Uf (fun e he=>?_) hTw ?_ tok hbw fH
  ·have:=gS e (zCH he);exact⟨this.1,this.2.2.2⟩
  ·rw[zB3];exact gS
end
inductive Ig(K:PySem.W.Frag)(C:Addr)(vs:List V)(H:Hp)(Q:VK)(E:XK):Prop where
 | mk (x rm rw:Addr) (u:V) (n:Int) (N:List Addr) (U:Tk) (W:Ta) (tf:Tr) (ps:List V) (es:List (Tr×Str)) (_:vs=[.ref x,.ref rm,u,.ref rw,.int n]) (_:TalkAt N C H x U W) (_:0<=n) (_:1<=W.many) (_:Ay H rm W.room) (_:H rw=some (.lst ps)) (_:PairsAt H ps es) (_:EJ es) (_:es.length<=5) (_:tf.At H u) (_:tf.ok 5) (_:tf.size<=20) (_:¬tf.ok W.many) (_:∀(H':Hp),Same H H'->Q (.bl true) H'):Ig K C vs H Q E
theorem Nj(hK:X.K=K2)(he:PE X e ta)(hb:attributeBase e f X.env (eval e X.env)=eval e X.env):PE X (.Attribute e f pos) (WP K2 ta f):=by
 subst hK
 exact AF he hb
theorem FZ(hK:X.K=K2):Wu X (WR K2):=by
 subst hK
 exact AU
section
def scLfoot46:=As JL ["_law_talk","_law_room_here","_law_far","_law_row_here","_law_n","_law_never","_law_kept","_law_first","_law_found"] 5
theorem LI(aa:Ev P w K mg aA aN cK cT cS cB cN cO):Fc P w K mg "_law_footing_first" Bh 8 (Ig K cK):=by
 refine aa.h79.ok scLfoot46 ?_
 rintro bz f ak A outer s H _ Q E hr ⟨x,rm,rw,u,n,N,U,W,tf,ps,es,rfl,hT,n0,m1,aW,hrw,hE,hrs,hel,hu,d9,fsz,fH,q⟩
 refine⟨_,Aa (Az 5 scLfoot46.nd (Aw (Ac Ae (Av (pv 2) (Aw (Av Ae (pv 2)))))))
  (Aa (Az 6 scLfoot46.nd (Aw (Ac Ae (Av (Aw (Av Ae Ad)) (Aw (Av Ae (Aw (Av Ae Ad))))))))
  (Aa (Az 7 scLfoot46.nd (Ar (Ac (Aw (Ac Ae (Av (pv 5) Ae))) (Av (Aw (Ac Ae (Av (pv 6) Ae))) (Aw (Ac Ae (Av (pv 6) Ae)))))))
  (Aa (Az 7 scLfoot46.nd (AN AD (Ak Ek (pv 7) (Ar (AR (Aw (Ac Ae (Av (pv 2) Ae)))))) (Ak AL (pv 4) Ad)))
  (Aa (Az 3 scLfoot46.nd (Ak Ek (pv 3) (AN AD (Ar (Ac (Ar (AR (Aw (Av (pv 2) Ae)))) (Av (Ar (AR (Aw (Av (pv 6) Ae)))) (Ar (AR (Aw (Av (pv 2) Ae))))))) (Ak AL (Ak AT (pv 4) Ad) Ad))))
  (Aa (Az 8 scLfoot46.nd Ae)
  (Aa (MA (fun σ1 E1 pn1 Ex1 hp=>Ue (AH AI (Ak AL (Ak AT (pv 4) Ad) Ad) Ad) (E5 (Ro (JA aa) hr hp (Ac (Nj (K2:=K) rfl (pv 0) rfl) (Ac (pv 1) (Ac (AN (FZ (K2:=K) rfl) (pv 7) Ad) (Av (AN (FZ (K2:=K) rfl) (pv 7) Ad) (pv 3))))))) (E5 (Ro (GD aa) hr hp (Ac (Nj (K2:=K) rfl (pv 0) rfl) (Ac (pv 1) (Ac (AN (FZ (K2:=K) rfl) (pv 7) Ad) (Av (AN (FZ (K2:=K) rfl) (pv 7) Ad) (pv 3))))))))
   (LK (fun a oe=>(Aj (Az 8 scLfoot46.nd Ae))) (LK (fun a oe=>(Aj (Az 8 scLfoot46.nd Ae))) (LK (fun a oe=>(Aj (Az 8 scLfoot46.nd Ae))) MT (by rfl) aa.X_NoStanding.m aa.X_NoStanding.ty aa.X_NoStanding.ic aa.X_NoStanding.bs) (by rfl) aa.X_BadWord.m aa.X_BadWord.ty aa.X_BadWord.ic aa.X_BadWord.bs) (by rfl) aa.X_StrangeLetter.m aa.X_StrangeLetter.ty aa.X_StrangeLetter.ic aa.X_StrangeLetter.bs) rfl rfl)
  (AK (BW AI (pv 8) (AN AU (pv 7) Ad) (Cf _))))))))),?_⟩
 have m5:=hT.m5
 refine⟨BT,fun nf hnf=>⟨E2,fun nv hnv=>?_⟩⟩
 have s1:=Ab hnf (.tup [.str "not",u])
 have g1:upd H nf (.tup [.str "not",u]) nf=_:=upd_same
 generalize upd H nf _=H1 at *
 have s2:=Ab hnv (.tup [.str "and",u,.ref nf])
 have g2:upd H1 nv (.tup [.str "and",u,.ref nf]) nv=_:=upd_same
 generalize upd H1 nv _=H2 at *
 have s02:=s1.trans s2
 have nvA:(Tr.bn 0 tf (.nt tf)).At H2 (.ref nv):=⟨nv,u,.ref nf,rfl,g2,hu.keep (TS.same s02),⟨nf,u,rfl,s2 _ _ g1,hu.keep (TS.same s02)⟩⟩
 clear g1 g2
 refine⟨BT,fun l1 bc=>⟨BT,fun l2 aF=>⟨BT,fun n2 dQ=>⟨E2,fun kp hkp=>?_⟩⟩⟩⟩
 have s3:=Ab bc (.tup [.str "let",.int 0])
 have g3:upd H2 l1 (.tup [.str "let",.int 0]) l1=_:=upd_same
 generalize upd H2 l1 _=H3 at *
 have s4:=Ab aF (.tup [.str "let",.int 0])
 have g4:upd H3 l2 (.tup [.str "let",.int 0]) l2=_:=upd_same
 generalize upd H3 l2 _=H4 at *
 have s5:=Ab dQ (.tup [.str "not",.ref l2])
 have g5:upd H4 n2 (.tup [.str "not",.ref l2]) n2=_:=upd_same
 generalize upd H4 n2 _=H5 at *
 have s6:=Ab hkp (.tup [.str "and",.ref l1,.ref n2])
 have g6:upd H5 kp (.tup [.str "and",.ref l1,.ref n2]) kp=_:=upd_same
 generalize upd H5 kp _=H6 at *
 have s26:=s3.trans (s4.trans (s5.trans s6))
 have s06:=s02.trans s26
 have fU:(Tr.bn 0 (.lt 0) (.nt (.lt 0))).At H6 (.ref kp):=⟨kp,.ref l1,.ref n2,rfl,g6,⟨l1,rfl,(s4.trans (s5.trans s6)) _ _ g3⟩,⟨n2,.ref l2,rfl,s6 _ _ g5,⟨l2,rfl,(s5.trans s6) _ _ g4⟩⟩⟩
 have nvA:=nvA.keep (TS.same s26)
 clear g3 g4 g5 g6 s3 s4 s5 s6 s1 s2 s26 s02
 refine⟨E2,fun f1 fK=>⟨E2,fun f2 hf2=>⟨E2,fun f3 hf3=>⟨E2,fun fl ik=>?_⟩⟩⟩⟩
 have s1:=Ab fK (.tup [.str "true",.ref nv,.str "strange"])
 have g1:upd H6 f1 (.tup [.str "true",.ref nv,.str "strange"]) f1=_:=upd_same
 generalize upd H6 f1 _=H7 at *
 have s2:=Ab hf2 (.tup [.str "held",.ref kp,.str "bad"])
 have g2:upd H7 f2 (.tup [.str "held",.ref kp,.str "bad"]) f2=_:=upd_same
 generalize upd H7 f2 _=H8 at *
 have s3:=Ab hf3 (.tup [.str "true",.ref kp,.str "other"])
 have g3:upd H8 f3 (.tup [.str "true",.ref kp,.str "other"]) f3=_:=upd_same
 generalize upd H8 f3 _=H9 at *
 have s4:=Ab ik (.lst [.ref f1,.ref f2,.ref f3])
 have g4:upd H9 fl (.lst [.ref f1,.ref f2,.ref f3]) fl=_:=upd_same
 generalize upd H9 fl _=dJ at *
 refine⟨E2,fun f4 f6=>⟨Gc,fun fm hfm=>?_⟩⟩
 have s5:=Ab f6 (.tup [.str "held",u,.str "strange"])
 have g5:upd dJ f4 (.tup [.str "held",u,.str "strange"]) f4=_:=upd_same
 generalize upd dJ f4 _=eM at *
 have s6:=Ab hfm (.lst [.ref f4])
 have g6:upd eM fm (.lst [.ref f4]) fm=_:=upd_same
 generalize upd eM fm _=f7 at *
 refine⟨fl,fm,_,_,rfl,rfl,(s5.trans s6) _ _ g4,g6,zAZ (Ap (by show 4<=1000;decide)),fun fc hfc=>?_⟩
 have s7:=Ab hfc (.lst ([V.ref f1,.ref f2,.ref f3]++[.ref f4]))
 have g7:upd f7 fc (.lst ([V.ref f1,.ref f2,.ref f3]++[.ref f4])) fc=_:=upd_same
 generalize upd f7 fc _=eV at *
 have s613:=s1.trans (s2.trans (s3.trans (s4.trans (s5.trans (s6.trans s7)))))
 have s013:=s06.trans s613
 have nvA:=nvA.keep (TS.same s613)
 have fU:=fU.keep (TS.same s613)
 have md:∀(a b:Int),0<b->∃j:Nat,a%b=(j:Nat)/\((j:Nat):Int)<b:=fun a b h=>⟨(a%b).toNat,by have:=zAV a (zC3 h);omega,by have h1:=zAV a (zC3 h);have h2:=zAY a h;omega⟩
 have iC:¬(Tr.bn 0 tf (.nt tf)).ok W.many:=fun z=>fH z.2.1
 have never:∀k:Int,tv (Tr.bn 0 (.lt 0) (.nt (.lt 0))) k=false:=fun k=>by show (tv (.lt 0) k && !tv (.lt 0) k)=false;cases tv (.lt 0) k<;>rfl
 have kno:AQ true (Tr.bn 0 (.lt 0) (.nt (.lt 0))) W.room=[]:=by
  unfold AQ
  rw[zCT]
  intro k _
  rw[never k]
  decide
 have fJ:Xt fun(fp:Addr)(z wd:Str)(sv:V)(st:Tr)(c:Addr)=>TB (EF ([V.ref f1,.ref f2,.ref f3]++[.ref f4]) (n%4)=some (.ref fp)) (eV fp=some (.tup [.str z,sv,.str wd])) (st.At eV sv) (st.ok 5) (st.size<=60) (¬st.ok W.many/\wd="strange"/\c=cS\/st.ok W.many/\¬AM z/\wd="bad"/\c=cB\/st.ok W.many/\AM z/\[]∈Au z st W.room/\wd="other"/\c=cN):=by
  obtain⟨j,hj,j4⟩:=md n 4 (by decide)
  rw[hj]
  have kk:(Tr.bn 0 (.lt 0) (.nt (.lt 0))).ok W.many:=⟨by decide,m1,m1⟩
  have k5:(Tr.bn 0 (.lt 0) (.nt (.lt 0))).ok 5:=Tr.ok.mono m5 kk
  have nh:¬AM "held":=by unfold AM;decide
  have:j=0\/j=1\/j=2\/j=3:=by omega
  rcases this with rfl | rfl | rfl | rfl
  ·exact⟨f1,_,_,_,_,_,Af rfl,(s2.trans (s3.trans (s4.trans (s5.trans (s6.trans s7))))) _ _ g1,nvA,⟨by decide,d9,d9⟩,by show tf.size+(tf.size+1)+1<=60;omega,.inl ⟨iC,rfl,rfl⟩⟩
  ·exact⟨f2,_,_,_,_,_,Af rfl,(s3.trans (s4.trans (s5.trans (s6.trans s7)))) _ _ g2,fU,k5,by show 4<=60;decide,.inr (.inl ⟨kk,nh,rfl,rfl⟩)⟩
  ·exact⟨f3,_,_,_,_,_,Af rfl,(s4.trans (s5.trans (s6.trans s7))) _ _ g3,fU,k5,by show 4<=60;decide,.inr (.inr ⟨kk,.inl rfl,by unfold Au;rw[if_pos rfl,kno];exact List.mem_singleton.mpr rfl,rfl,rfl⟩)⟩
  ·exact⟨f4,_,_,_,_,_,Af rfl,(s6.trans s7) _ _ g5,hu.keep (TS.same s013),d9,by omega,.inl ⟨fH,rfl,rfl⟩⟩
 obtain⟨fp,z,wd,sv,st,c,aU,gT,cC,st5,stz,iD⟩:=fJ
 refine⟨(by show (0:Int)<4;decide),SqL.of g7,aU,?_⟩
 clear g1 g2 g3 g4 g5 g6 g7 s1 s2 s3 s4 s5 s6 s7 aU iC never kno
 refine⟨BT,fun p1 bI=>⟨Gc,fun r1 a8=>⟨BT,fun p2 bd=>⟨Gc,fun r2 d7=>⟨BT,fun p3 cU=>⟨Gc,fun r3 hr3=>⟨E2,fun ra hra=>?_⟩⟩⟩⟩⟩⟩⟩
 have s1:=Ab bI (.tup [u,.str "yes"])
 have g1:upd eV p1 (.tup [u,.str "yes"]) p1=_:=upd_same
 generalize upd eV p1 _=H14 at *
 have s2:=Ab a8 (.lst [.ref p1])
 have g2:upd H14 r1 (.lst [.ref p1]) r1=_:=upd_same
 generalize upd H14 r1 _=H15 at *
 have s3:=Ab bd (.tup [.ref kp,.str "yes"])
 have g3:upd H15 p2 (.tup [.ref kp,.str "yes"]) p2=_:=upd_same
 generalize upd H15 p2 _=H16 at *
 have s4:=Ab d7 (.lst [.ref p2])
 have g4:upd H16 r2 (.lst [.ref p2]) r2=_:=upd_same
 generalize upd H16 r2 _=H17 at *
 have s5:=Ab cU (.tup [u,.str "deny"])
 have g5:upd H17 p3 (.tup [u,.str "deny"]) p3=_:=upd_same
 generalize upd H17 p3 _=H18 at *
 have s6:=Ab hr3 (.lst [.ref p3])
 have g6:upd H18 r3 (.lst [.ref p3]) r3=_:=upd_same
 generalize upd H18 r3 _=H19 at *
 have s7:=Ab hra (.lst [.ref r1,.ref r2,.ref r3])
 have g7:upd H19 ra (.lst [.ref r1,.ref r2,.ref r3]) ra=_:=upd_same
 generalize upd H19 ra _=H20 at *
 have ec:=s1.trans (s2.trans (s3.trans (s4.trans (s5.trans (s6.trans s7)))))
 have s020:=s013.trans ec
 have more:D0 fun(r:Addr)(p:Addr)(e:Tr×Str)=>Fs (EF [V.ref r1,.ref r2,.ref r3] (n / 4%3)=some (.ref r)) (H20 r=some (.lst [.ref p])) (PairsAt H20 [.ref p] [e]) (e.1.ok 5) (e.1.size<=60):=by
  obtain⟨j,hj,j3⟩:=md (n / 4) 3 (by decide)
  rw[hj]
  have uA:=hu.keep (TS.same s020)
  have kA:=fU.keep (TS.same ec)
  have:j=0\/j=1\/j=2:=by omega
  rcases this with rfl | rfl | rfl
  ·exact⟨r1,p1,(tf,("yes":Str)),Af rfl,(s3.trans (s4.trans (s5.trans (s6.trans s7)))) _ _ g2,.cons ⟨p1,u,rfl,(s2.trans (s3.trans (s4.trans (s5.trans (s6.trans s7))))) _ _ g1,uA⟩ .nil,d9,by show tf.size<=60;omega⟩
  ·exact⟨r2,p2,(Tr.bn 0 (.lt 0) (.nt (.lt 0)),("yes":Str)),Af rfl,(s5.trans (s6.trans s7)) _ _ g4,.cons ⟨p2,.ref kp,rfl,(s4.trans (s5.trans (s6.trans s7))) _ _ g3,kA⟩ .nil,Tr.ok.mono m5 ⟨by decide,m1,m1⟩,by show 4<=60;decide⟩
  ·exact⟨r3,p3,(tf,("deny":Str)),Af rfl,s7 _ _ g6,.cons ⟨p3,u,rfl,(s6.trans s7) _ _ g5,uA⟩ .nil,d9,by show tf.size<=60;omega⟩
 obtain⟨r,p,e,hra2,hr,dH,e5,ez⟩:=more
 refine⟨⟨by decide,by decide⟩,(by show (0:Int)<3;decide),SqL.of g7,hra2,?_⟩
 have hEl:=hE.len
 refine⟨rw,r,_,_,rfl,rfl,s020 _ _ hrw,hr,zAZ (Ap (by rw[hEl];show es.length+1<=1000;omega)),fun nr hnr=>?_⟩
 have s8:=Ab hnr (.lst (ps++[.ref p]))
 have g8:upd H20 nr (.lst (ps++[.ref p])) nr=_:=upd_same
 generalize upd H20 nr _=H21 at *
 have gU:=s020.trans s8
 have gT:=(ec.trans s8) _ _ gT
 have cC:=cC.keep (TS.same (ec.trans s8))
 have hPE:=DH (PairsAt.keep gU hE) (PairsAt.keep s8 dH)
 have hRI:EJ (es++[e]):=fun x hx=>by
  rcases List.mem_append.mp hx with h | h
  ·exact hrs x h
  ·rw[List.mem_singleton.mp h];exact⟨e5,ez⟩
 have hRl:(es++[e]).length<=6:=by rw[zA];show es.length+1<=6;omega
 have T21:=hT.keep gU
 have iE:=gU _ _ aW
 clear g1 g2 g3 g4 g5 g6 g7 s1 s2 s3 s4 s5 s6 s7 s8 hra2 hr dH
 have A1':∀(E1:XK),(∀H',Same H21 H'->E1 (.ref c) none H')->(¬st.ok W.many->∀H',Same H21 H'->E1 (.ref cS) none H')/\(st.ok W.many->¬AM z->∀H',Same H21 H'->E1 (.ref cB) none H')/\(st.ok W.many->AM z->[]∈Au z st W.room->∀H',Same H21 H'->E1 (.ref cN) none H')/\¬(st.ok W.many/\AM z/\[]∉Au z st W.room):=fun E1 h=>by
  rcases iD with⟨c1,_,rfl⟩|⟨c1,c2,_,rfl⟩|⟨c1,c2,c3,_,rfl⟩
  ·exact⟨fun _=>h,fun z=>absurd z c1,fun z=>absurd z c1,fun z=>c1 z.1⟩
  ·exact⟨fun z=>absurd c1 z,fun _ _=>h,fun _ z=>absurd z c2,fun z=>c2 z.2.1⟩
  ·exact⟨fun z=>absurd c1 z,fun _ z=>absurd c2 z,fun _ _ _=>h,fun z=>z.2.2 c3⟩
 obtain⟨y1,y2,y3,yn⟩:=A1' (fun cls dx H'=>dx=none/\Same H21 H'/\cls= .ref c) fun H' s'=>⟨rfl,s',rfl⟩
 refine⟨fun cls dx H'=>dx=none/\Same H21 H'/\cls= .ref c,?_,?_⟩
 ·refine⟨⟨by decide,by decide⟩,(by show (0:Int)<2;decide),rfl,?_⟩
  by_cases cc:n / 12%2=1
  ·refine Bc (by show V.int (n / 12%2)=V.int 1;rw[cc]) ?_
   exact⟨T21.ob,aa.TX.cl,aa.TX.many,By,SqT.of gT,Af (j:=0) rfl,SqT.of gT,Af (j:=1) rfl,rm,nr,W.room,_,_,W.many,z,sv,st,rfl,iE,hT.wr,cC,st5,stz,g8,hPE,hRI,zAC hRl (by decide),y1,y2,y3,fun a b c _=>absurd ⟨a,b,c⟩ yn,fun a b c _=>absurd ⟨a,b,c⟩ yn,fun a b c _=>absurd ⟨a,b,c⟩ yn⟩
  ·refine Ba (fun h=>cc (by injection h)) ?_
   exact⟨T21.ob,aa.TX.cl,aa.TX.many,By,SqT.of gT,Af (j:=0) rfl,SqT.of gT,Af (j:=1) rfl,rm,nr,W.room,_,_,W.many,z,sv,st,rfl,iE,hT.wr,cC,st5,stz,g8,hPE,hRI,zAC hRl (by decide),m5,y1,y2,y3,fun a b c _=>absurd ⟨a,b,c⟩ yn,fun a b c _=>absurd ⟨a,b,c⟩ yn,fun a b c _=>absurd ⟨a,b,c⟩ yn⟩
 ·rintro cls dx H' ⟨rfl,s',rfl⟩
  have h':=s' _ _ gT
  have q:=q _ (gU.trans s')
  rcases iD with⟨_,rfl,rfl⟩|⟨_,_,rfl,rfl⟩|⟨_,_,_,rfl,rfl⟩
  ·refine⟨c,rfl,true,aa.X_StrangeLetter.slf,A8 fun a vs sl eT=>?_⟩
   refine⟨SqT.of h',Af (j:=2) rfl,rfl,?_⟩
   rw[decide_eq_true rfl]
   exact q
  ·refine⟨c,rfl,false,(aa.X_BadWord.ap aa.X_StrangeLetter aa.A_BadWord_StrangeLetter).mro,AY ⟨true,aa.X_BadWord.slf,A8 fun a vs sl eT=>?_⟩⟩
   refine⟨SqT.of h',Af (j:=2) rfl,rfl,?_⟩
   rw[decide_eq_true rfl]
   exact q
  ·refine⟨c,rfl,false,(aa.X_NoStanding.ap aa.X_StrangeLetter aa.A_NoStanding_StrangeLetter).mro,AY ⟨false,(aa.X_NoStanding.ap aa.X_BadWord aa.A_NoStanding_BadWord).mro,AY ⟨true,aa.X_NoStanding.slf,A8 fun a vs sl eT=>?_⟩⟩⟩
   refine⟨SqT.of h',Af (j:=2) rfl,rfl,?_⟩
   rw[decide_eq_true rfl]
   exact q
end
theorem KR{H H':Hp}(s:TS H H'):∀{xs:List V}{es:List (Tr×Str)},PairsAt H xs es->PairsAt H' xs es
 | _,_,.nil=>.nil
 | _,_,.cons ⟨p,v,e,h1,h2⟩ q=>.cons ⟨p,v,e,s _ _ h1,h2.keep s⟩ (KR s q)
inductive JP(K:PySem.W.Frag)(vs:List V)(H:Hp)(Q:VK)(E:XK):Prop where
 | mk (a:Addr) (ns:List Int) (_:vs=[.ref a]) (_:SqL K H a (ns.map V.int)) (_:ns.length<=63) (_:∀H',Q (.bl true) H'):JP K vs H Q E
section
variable {bz:Heap}{f:Addr}{fd:FuncData}
def scLaw:=As Vj ["_law_script","_law_many","_law_room_here","_law_kind_here","_law_sentence_here","_law_talk","_law_entries","_law_n","_law_far","_law_odd","_law_row_here","_law_due","_law_over","_law_deed","_law_wanted","_law_doors"] 1
theorem QJ{σ:List (Option V)}{y:Str}{N:List Addr}(I:List (Option V)->Hp->Prop)(Ti:TalkAt N cK Hi x U W)(h12:σ[12]? = some (some (.str y)))(h5:σ[5]? = some (some (.ref x)))(a:y=""->I σ Hi)(b:y≠""->W.ended=false/\∀H',But [x] Hi H'->TalkAt N cK H' x U (QN W)->I σ H')(hI:∀σ H,I σ H->T D σ H):
  Qc (V9 (Iw (Sn XI (Hx 12) (tC (V.str "")))) (Sg (Ki cK "end" (LD cK cO) [] E0 (Hx 5) Gx)) RA) T D σ Hi:=by
 show oV _ σ[12]?
 rw[h12]
 refine⟨rfl,?_⟩
 by_cases c:y=""
 ·subst c
  exact .ff (by decide) (hI _ _ (a rfl))
 ·obtain⟨b1,b2⟩:=b c
  refine .tt (by simpa using c) ?_
  show oV _ σ[5]?
  rw[h5]
  exact⟨Ti.ob,Vr,x,N,U,W,rfl,Ti,(fun z=>by rw[b1] at z;cases z),fun _ H' bt Tt=>hI _ _ (b2 H' bt Tt)⟩
theorem NZ{σ:List (Option V)}{yw wd wj:Str}(h12:σ[12]? = some (some (.str yw)))(h11:σ[11]? = some (some (.str wd)))(h:yw≠""/\wj=yw\/yw=""/\wj=wd)(k:Q (.str wj) Hi):Xh (Iw (Sn XI (Hx 12) (tC (V.str "")))) (Hx 12) (Hx 11) σ Hi Q:=by
 show oV _ σ[12]?
 rw[h12]
 refine⟨rfl,?_⟩
 rcases h with⟨c,rfl⟩|⟨rfl,rfl⟩
 ·refine .tt (by simpa using c) ?_
  show oV _ σ[12]?
  rw[h12]
  exact k
 ·refine .ff (by decide) ?_
  show oV _ σ[11]?
  rw[h11]
  exact k
theorem Oq(h1:σ[1]? = some (some (.int m)))(k:∀(xs:List V) (l:Addr) (H':Hp),Same Hi H'->H' l=some (.lst xs)->(∀y∈xs,∃d:Str,y= .str d/\(d="falls"\/d="guesses"))->Q (.ref l) H'):Xh (Iw (Sn (Ss fun i j=>V.bl (decide (i<j))) (Hx 1) (tC (V.int 4)))) (Qk (D4 (tC (V.str "falls")) (D4 (tC (V.str "guesses")) Gx))) (Qk (D4 (tC (V.str "falls")) Gx)) σ Hi Q:=by
 show oV _ σ[1]?
 rw[h1]
 show If (decide (m<4)) _ _
 by_cases c:m<4
 ·refine .tt (decide_eq_true c) ⟨BT,fun l hl=>k _ l _ (Ab hl _) upd_same fun y hy=>?_⟩
  simp only[zAS,zAT,or_false] at hy
  rcases hy with rfl | rfl
  ·exact⟨_,rfl,.inl rfl⟩
  ·exact⟨_,rfl,.inr rfl⟩
 ·refine .ff (decide_eq_false c) ⟨Gc,fun l hl=>k _ l _ (Ab hl _) upd_same fun y hy=>?_⟩
  simp only[zAS,zAT,or_false] at hy
  exact⟨_,hy,.inl rfl⟩
theorem Oj(h1:σ[1]? = some (some (.int m)))(k:∀(xs:List V) (l:Addr) (H':Hp),Same Hi H'->H' l=some (.lst xs)->(∀y∈xs,∃d:Str,y= .str d/\(d="falls"\/d="guesses"))->g (.ref l) σ H' (u D)):Qc (Lv (Xh (Iw (Sn (Ss fun i j=>V.bl (decide (i<j))) (Hx 1) (tC (V.int 4)))) (Qk (D4 (tC (V.str "falls")) (D4 (tC (V.str "guesses")) Gx))) (Qk (D4 (tC (V.str "falls")) Gx))) g) u D σ Hi:=
 Oq (Q:=fun x H1=>g x σ H1 (u D)) h1 k
theorem V6(aa:Ev P w K mg aA aN cK cT cS cB cN cO)(F:Fun K "law" "law" Vj f fd):FnOk P w K mg bz Bh 27 f fd ["_law_script"] (JP K):=by
 refine F.ok scLaw ?_
 rintro ak A outer s H _ Q E hr ⟨a,ns,rfl,hS,h63,q⟩
 refine⟨_,Aa (Az 1 scLaw.nd (Ao (Ii rfl) (by rfl) aa.zmin JI (Av Ad (Am (Vu aa) hr Ai (AR (Am (BN aa) hr Ai (Av (pv 0) Ad)))))))
  (Aa (Mj (Am (OQ aa) hr Ai (Av (pv 0) (pv 1))) (BI rfl (AE (AV 2 scLaw.nd) (AE (AV 3 scLaw.nd) (AE (AV 4 scLaw.nd) Br)))))
  (Aa (Az 5 scLaw.nd (Am (LT aa) hr Ai (Ac (VU (Gy aa) hr I0 (Ac (pv 1) (Ac (pv 2) (Ac (pv 3) (Av (pv 4) (Am (PP aa) hr Ai (AR (pv 0)))))))) (Ac (pv 0) (Ac (pv 1) (Av (pv 2) (pv 4)))))))
  (Aa (Az 6 scLaw.nd (BP (pv 5) aa.TX.cl (FH aa) hr Ai))
  (Aa (Az 7 scLaw.nd (Am (BN aa) hr Ai (Av (pv 0) Ad)))
  (Aa (Az 8 scLaw.nd (Aw (Av Ae (Ak BB (pv 1) (Ak AL (pv 7) (Ak Jk Ad (pv 1)))))))
  (Aa (Az 9 scLaw.nd (Ar (Ac (pv 8) (Ac (Aw (Av Ae (pv 8))) (Ac (Aw (Ac Ae (Av (pv 4) (pv 8)))) (Av (Aw (Ac Ae (Av (pv 8) (pv 4)))) (Aw (Ac Ae (Av (Aw (Av Ae Ad)) (Aw (Av Ae (pv 8))))))))))))
  (Aa (Az 9 scLaw.nd (AN AD (pv 9) (Ak AL (Ak AT (pv 7) Ad) Ad)))
  (Aa (Mj (Am (OV aa) hr Ai (Ac (Ak AT (pv 7) Ad) (Ac (pv 1) (Av (pv 4) (pv 9))))) (BI rfl (AE (AV 10 scLaw.nd) (AE (AV 11 scLaw.nd) Br))))
  (Aa (A7 zAR rfl (AJ (Ar (Av Ae Ae))) (AV 12 scLaw.nd)
   (Aa (An (AH Cl (pv 12) Ae)
    (Aj (AC (BP (pv 5) aa.TX.cl (S0 aa) hr I0)))
    Ag)
   (Aa (A7 zAR rfl (AJ (Ar (Ac Ae (Ac Ae (Ac Ae (Av Ae Ae)))))) (AV 13 scLaw.nd)
    (Aa (Az 14 scLaw.nd (Dl (GQ (AH AI (pv 12) Ae) (Eg (AH AI (pv 13) Ae))).pt Ae (pv 12)))
    (Aa (An (AH Cl (Am (Eo aa) hr Ai (Ac (pv 13) (Ac (pv 5) (Ac (pv 9) (Av (pv 10) (pv 2)))))) (pv 14))
     (AK BQ)
     Ag)
    (Aa (An (GQ (AH AI (pv 13) Ae) (Eg (AH AI (pv 12) Ae))).pt
     (Aj Kz)
     Ag)
    (Aj (An (AH Cl (Am (Eo aa) hr Ai (Ac (pv 13) (Ac (pv 5) (Ac (pv 4) (Av (pv 10) (pv 2)))))) (pv 12))
     (AK BQ)
     Ag))))))
   (Aa (A7 zAR rfl (AJ (Ar (Ac Ae (Ac Ae (Av Ae Ae))))) (AV 13 scLaw.nd)
    (Aj (An (AH Cl (Am (Eo aa) hr Ai (Ac (pv 13) (Ac (pv 5) (Ac (pv 4) (Av (pv 10) (pv 2)))))) (pv 12))
     (AK BQ)
     Ag)))
   (Aa (An (AH Cl (Am (Eo aa) hr Ai (Ac Ae (Ac (pv 5) (Ac (pv 4) (Av (pv 10) (pv 2)))))) (Dl (AH Cl (pv 12) Ae) (pv 12) (pv 11)))
    (AK BQ)
    Ag)
   (Aa (Az 15 scLaw.nd (Dl (AH MV (pv 1) Ad) (Ar (Av Ae Ae)) (Ar (AR Ae))))
   (Aj (A7 zAR rfl (AJ (pv 15)) (AV 13 scLaw.nd)
    (Aj (An (AH Cl (Am (Eo aa) hr Ai (Ac (pv 13) (Ac (pv 5) (Ac (pv 4) (Av (pv 10) (pv 2)))))) (pv 11))
     (AK BQ)
     Ag))))))))))
  (AK (Ec (Am (LI aa) hr Ai (Ac (pv 5) (Ac (pv 2) (Ac (pv 8) (Av (pv 10) (Ak AT (pv 7) Ad)))))) (B5 (Am (O5 aa) hr Ai (Av (BP (pv 5) aa.TX.cl (FH aa) hr Ai) (pv 6))))))))))))))),?_⟩
 refine⟨a,ns,0,rfl,hS,h63,by decide,by decide,fun H1 hn0 s1=>?_⟩
 refine⟨_,rfl,hn0,fun m0 H2 bG bB s2=>?_⟩
 have t2:=s1.trans s2
 refine⟨4,((m0:Nat):Int),rfl,?_⟩
 obtain⟨many,hm,m1,m4⟩:∃many:Nat,Cc ((if ((m0:Nat):Int)<4 then ((m0:Nat):Int) else 4)=(many:Nat)) (1<=many) (many<=4):=by
  by_cases c:((m0:Nat):Int)<4
  ·exact⟨m0,by rw[if_pos c],bG,by omega⟩
  ·exact⟨4,by rw[if_neg c];rfl,by decide,zAA _⟩
 rw[hm]
 have m5:many<=5:=by omega
 refine⟨a,ns,many,rfl,t2.seq hS,h63,m1,m5,fun tp rm room z v t H3 s3 eG hrm0 aW aw aE ha hok ay hz=>?_⟩
 refine⟨SqT.of eG,rfl,rfl,?_⟩
 have t3:=t2.trans s3
 have ok5:t.ok 5:=Tr.ok.mono m5 hok
 have cA:Wr room:=(Nn m5).sub aw
 refine⟨a,ns,rfl,t3.seq hS,h63,fun rule H4 s4 hrule=>?_⟩
 refine fun x dx hx fA fB=>?_
 have t4:=t3.trans s4
 have gW:=s4 _ _ aW
 have ha4:=ha.keep (TS.same s4)
 have sM:Same H4 (upd (upd H4 dx (.own x)) x (.ins cK dx [])):=(Ab fA _).trans (Ab (by rw[Al fB.symm];exact hx) _)
 refine⟨x,dx,rm,many,z,rule,v,t,room,[],rfl,upd_same,by simp,fun m hm=>by simp at hm,Ej (ha4.keep (TS.same sM)),ok5,by omega,m5,sM _ _ gW,cA,fun hn=>absurd hok hn,fun _ hn=>absurd ⟨hrule,SZ hz⟩ hn,fun _ _ _ he=>absurd he (SQ hz),fun _ _ _ _ U0 H5 b5 iw ix sp0 esv hT=>?_⟩
 have s5:Same H4 H5:=DT hx fA fB b5
 obtain⟨gv4,ngx,ngd⟩:=DP (C:=cK) iw
 obtain⟨lf4,nlx,nld⟩:=DP (C:=cK) ix
 obtain⟨bas,hbas⟩:∃bas,bas=Ci room (Au z t room):=⟨_,rfl⟩
 have hT:TalkAt (x::U0.gv::U0.lf::[]) cK H5 x U0 (tw many z rule t room [] bas []):=by rw[hbas];exact hT
 obtain⟨N,hN⟩:∃N,N=x::U0.gv::U0.lf::[]:=⟨_,rfl⟩
 rw[<-hN] at hT
 have offN:∀m∈N,H4 m=none:=fun m hm=>by
  rw[hN] at hm
  simp only[zAS,zAT,or_false] at hm
  rcases hm with rfl | rfl | rfl
  ·exact hx
  ·exact gv4
  ·exact lf4
 have s45:Same H4 (Bb N H5):=fun b o e=>A4 (s5 _ _ e) fun z=>by rw[offN b z] at e;cases e
 refine⟨rfl,x,a,rm,many,z,rule,v,t,room,bas,ns,N,U0,rfl,hN,hT,(t4.trans s45).seq hS,h63,m1,m5,s45 _ _ gW,aE,ha4.keep (TS.same s45),hok,ay,fun U es ls H6 s6 T6 eg el gC hel hes hheld=>?_⟩
 have w6:Same H4 (Bb N H6):=s45.trans s6
 have v6:Same H4 H6:=w6.trans cut_same
 refine⟨T6.ob,GZ,x,N,U,_,rfl,T6,fun en H7 s7 en0 hen=>?_⟩
 refine⟨a,ns,5,rfl,(t4.trans (v6.trans s7)).seq hS,h63,by decide,by decide,fun H8 hn5 s8=>?_⟩
 generalize hnn:KY ns 5=n at *
 refine⟨(by show (0:Int)<5-(many:Int);omega),BT,fun fp gT=>?_⟩
 have kp:(0:Int)<5-(many:Int):=by omega
 obtain⟨kf,hkf,hk1,hk5⟩:∃kf:Nat,Cc ((many:Int)+n%(5-(many:Int))=(kf:Nat)) (many<=kf) (kf<5):=by
  have h1:=zAV n (zC3 kp)
  have h2:=zAY n kp
  exact⟨((many:Int)+n%(5-(many:Int))).toNat,by omega,by omega,by omega⟩
 have h78:=s7.trans s8
 have sF:=Ab gT (.tup [.str "let",.int ((many:Int)+n%(5-(many:Int)))])
 have gF:upd H8 fp (.tup [.str "let",.int ((many:Int)+n%(5-(many:Int)))]) fp=some (.tup [.str "let",.int (kf:Nat)]):=by rw[<-hkf];exact upd_same
 generalize upd H8 fp _=H9 at *
 have gb:=h78.trans sF
 have t9:=t4.trans (v6.trans gb)
 have hv9:=(ha4.keep (TS.same v6)).keep (TS.same gb)
 have ffA:(Tr.lt kf).At H9 (.ref fp):=⟨fp,rfl,gF⟩
 have fH:¬(Tr.lt kf).ok many:=fun h=>by have h:kf<many:=h;omega
 have d9:(Tr.lt kf).ok 5:=hk5
 refine⟨BT,fun o2 ho2=>⟨E2,fun o3 ho3=>⟨E2,fun o4 ho4=>⟨BT,fun l5 hl5=>⟨BT,fun n5 hn5'=>⟨E2,fun o5 ho5=>⟨zAZ (Ap (by show 5<=1000;decide)),fun ol eJ=>?_⟩⟩⟩⟩⟩⟩⟩
 have q1:=Ab ho2 (.tup [.str "not",.ref fp])
 have g1:upd H9 o2 (.tup [.str "not",.ref fp]) o2=_:=upd_same
 generalize upd H9 o2 _=J1 at *
 have q2:=Ab ho3 (.tup [.str "and",v,.ref fp])
 have g2:upd J1 o3 (.tup [.str "and",v,.ref fp]) o3=_:=upd_same
 generalize upd J1 o3 _=J2 at *
 have q3:=Ab ho4 (.tup [.str "if",.ref fp,v])
 have g3:upd J2 o4 (.tup [.str "if",.ref fp,v]) o4=_:=upd_same
 generalize upd J2 o4 _=J3 at *
 have q4:=Ab hl5 (.tup [.str "let",.int 0])
 have g4:upd J3 l5 (.tup [.str "let",.int 0]) l5=_:=upd_same
 generalize upd J3 l5 _=J4 at *
 have q5:=Ab hn5' (.tup [.str "not",.ref fp])
 have g5:upd J4 n5 (.tup [.str "not",.ref fp]) n5=_:=upd_same
 generalize upd J4 n5 _=J5 at *
 have q6:=Ab ho5 (.tup [.str "or",.ref l5,.ref n5])
 have g6:upd J5 o5 (.tup [.str "or",.ref l5,.ref n5]) o5=_:=upd_same
 generalize upd J5 o5 _=J6 at *
 have q7:=Ab eJ (.lst [.ref fp,.ref o2,.ref o3,.ref o4,.ref o5])
 have g7:upd J6 ol (.lst [.ref fp,.ref o2,.ref o3,.ref o4,.ref o5]) ol=_:=upd_same
 generalize upd J6 ol _=J7 at *
 have q17:=q1.trans (q2.trans (q3.trans (q4.trans (q5.trans (q6.trans q7)))))
 have ff7:=ffA.keep (TS.same q17)
 have vv7:=hv9.keep (TS.same q17)
 have fJ:BF fun(op:Addr)(tf:Tr)=>Fs (EF [V.ref fp,.ref o2,.ref o3,.ref o4,.ref o5] (n / 5%5)=some (.ref op)) (tf.At J7 (.ref op)) (tf.ok 5) (tf.size<=40) (¬tf.ok many):=by
  obtain⟨j,hj,j5⟩:∃j:Nat,n / 5%5=(j:Nat)/\j<5:=⟨(n / 5%5).toNat,by have:=zAV (n / 5) (show (5:Int)≠0 by decide);omega,by have h1:=zAV (n / 5) (show (5:Int)≠0 by decide);have h2:=zAY (n / 5) (show (0:Int)<5 by decide);omega⟩
  rw[hj]
  have:j=0\/j=1\/j=2\/j=3\/j=4:=by omega
  rcases this with rfl | rfl | rfl | rfl | rfl
  ·exact⟨fp,.lt kf,Af rfl,ff7,d9,by show 1<=40;decide,fH⟩
  ·exact⟨o2,.nt (.lt kf),Af rfl,⟨o2,.ref fp,rfl,(q2.trans (q3.trans (q4.trans (q5.trans (q6.trans q7))))) _ _ g1,ff7⟩,d9,by show 2<=40;decide,fH⟩
  ·exact⟨o3,.bn 0 t (.lt kf),Af rfl,⟨o3,v,.ref fp,rfl,(q3.trans (q4.trans (q5.trans (q6.trans q7)))) _ _ g2,vv7,ff7⟩,⟨by decide,ok5,d9⟩,by show t.size+1+1<=40;omega,fun h=>fH h.2.2⟩
  ·exact⟨o4,.bn 2 (.lt kf) t,Af rfl,⟨o4,.ref fp,v,rfl,(q4.trans (q5.trans (q6.trans q7))) _ _ g3,ff7,vv7⟩,⟨by decide,d9,ok5⟩,by show 1+t.size+1<=40;omega,fun h=>fH h.2.1⟩
  ·exact⟨o5,.bn 1 (.lt 0) (.nt (.lt kf)),Af rfl,⟨o5,.ref l5,.ref n5,rfl,q7 _ _ g6,⟨l5,rfl,(q5.trans (q6.trans q7)) _ _ g4⟩,⟨n5,.ref fp,rfl,(q6.trans q7) _ _ g5,ff7⟩⟩,⟨by decide,by show 0<5;decide,d9⟩,by show 1+2+1<=40;decide,fun h=>fH h.2.2⟩
 obtain⟨op,tf,aU,hop,tf5,tfz,tfno⟩:=fJ
 refine⟨⟨by decide,by decide⟩,(by show (0:Int)<5;decide),SqL.of g7,aU,?_⟩
 clear g1 g2 g3 g4 g5 g6 g7 q1 q2 q3 q4 q5 q6 q7 aU
 have nn0:0<=n:=by rw[<-hnn];rw[hnn];exact hn5
 refine⟨⟨by decide,by decide⟩,n / 25,many,v,.ref op,t,tf,rfl,by omega,m1,m5,vv7,hok,by omega,hop,tf5,by omega,tfno,fun rp rl ps dO wd J8 s8' hrl0 hrp bZ dk hris hrl5 hdue=>?_⟩
 refine⟨SqT.of hrp,rfl,rfl,?_⟩
 have s9J:Same H9 J8:=q17.trans s8'
 have s6J:Same H6 J8:=gb.trans s9J
 have t8:=t4.trans (v6.trans (gb.trans s9J))
 have T8:=T6.keep s6J
 have hop8:=hop.keep (TS.same s8')
 have vv8:=vv7.keep (TS.same s8')
 have ff8:=ff7.keep (TS.same s8')
 have en8:=(s8.trans (sF.trans s9J)) _ _ hen
 have rm8:=(v6.trans s6J) _ _ gW
 have fullN:Full N J8:=DX (Bz hN T8 eg el)
 have noT:∀{H':Hp}{U':Tk}{W':Ta},TalkAt N cK H' x U' W'->U'.gv=U0.gv->U'.lf=U0.lf->∀m∈N,∀ys,H' m≠some (.tup ys):=fun h h1 h2 m hm ys z=>by
  obtain⟨o,e1,e2⟩:=Bz hN h h1 h2 m hm
  rw[z] at e1
  cases e1
  exact e2 _ rfl
 have tsc:TS J8 (Bb N J8):=Kt (Bz hN T8 eg el)
 have opc:=hop8.keep tsc
 have vvc:=vv8.keep tsc
 have ffc:=ff8.keep tsc
 have psc:=KR tsc dk
 have fN7:Full N J7:=DX (Bz hN (T6.keep (gb.trans q17)) eg el)
 have rlc:Bb N J8 rl=some (.lst ps):=A4 bZ (fN7.no hrl0)
 have rmc:Ay (Bb N J8) rm room:=(w6.trans (AB s6J)) _ _ gW
 have fN6:Full N H6:=DX (Bz hN T6 eg el)
 have enc:Bb N J8 en=some (.lst U.ges):=A4 en8 (fN6.no en0)
 have enA:PairsAt (Bb N J8) U.ges (es.map fun e=>(e.2.1,e.2.2)):=Ea T8.en
 have c8:Same H4 (Bb N J8):=w6.trans (AB s6J)
 refine⟨BT,fun ov hov=>?_⟩
 have sv:=Ab hov (.lst [V.str "",.str "over"])
 have gv:upd J8 ov (.lst [V.str "",.str "over"]) ov=_:=upd_same
 generalize upd J8 ov _=J9 at *
 have ovc:Bb N J9 ov=some (.lst [V.str "",.str "over"]):=A4 gv (fullN.no hov)
 have c89:Same (Bb N J8) (Bb N J9):=AB sv
 refine⟨⟨_,SqL.of gv⟩,AG (K:=K) (a:=ov) (xs:=[V.str "",.str "over"]) (fun i σ Hi=>Xt fun(v12 v13 v14 v15:Option V)(U':Tk)(e:Bool)=>U9 (σ=[some (.ref a),some (.int (many:Int)),some (.ref rm),some (.str z),some v,some (.ref x),some (.ref en),some (.int n),some (.ref fp),some (.ref op),some (.ref rl),some (.str wd),v12,v13,v14,v15]) (Same (Bb N J9) (Bb N Hi)) (TalkAt N cK Hi x U' (XH many z rule t room es bas ls e)) (U'.gv=U0.gv) (U'.lf=U0.lf) (i<=1->e=false) (i=2->e=true)) ?_ ?_ ?_ ?_⟩
 ·exact⟨_,_,_,_,U,false,rfl,Same.refl _,T8.keep sv,eg,el,fun _=>rfl,fun z=>by cases z⟩
 ·rintro i σ Hi _ ⟨v12,v13,v14,v15,U',e,rfl,ci,_⟩
  exact SqL.of (cut_same _ _ (ci _ _ ovc))
 ·rintro i y σ Hi hy ⟨v12,v13,v14,v15,U',e,rfl,ci,Ti,eg',el',h1,h2⟩
  obtain⟨yw,e2,rfl,iF⟩:BF fun(yw:Str)(e2:Bool)=>y= .str yw/\(yw=""/\i=0/\e2=false\/yw="over"/\i=1/\e2=true):=by
   match i,hy with
   | 0,hy=>exact⟨_,false,(zAE hy).symm,.inl ⟨rfl,rfl,rfl⟩⟩
   | 1,hy=>exact⟨_,true,(zAE hy).symm,.inr ⟨rfl,rfl,rfl⟩⟩
  have i1:i<=1:=by rcases iF with⟨_,h,_⟩|⟨_,h,_⟩<;>omega
  have e0:=h1 i1
  subst e0
  have xN:x∈N:=by rw[hN];exact List.mem_cons_self ..
  refine QJ (fun σ H'=>σ=[some (.ref a),some (.int (many:Int)),some (.ref rm),some (.str z),some v,some (.ref x),some (.ref en),some (.int n),some (.ref fp),some (.ref op),some (.ref rl),some (.str wd),some (.str yw),v13,v14,v15]/\Same (Bb N J9) (Bb N H')/\TalkAt N cK H' x U' (XH many z rule t room es bas ls e2)) Ti rfl rfl (fun c=>?_) (fun c=>?_) ?_
  ·rcases iF with⟨_,_,rfl⟩|⟨h,_⟩
   ·exact⟨rfl,ci,Ti⟩
   ·rw[h] at c
    cases c
  ·rcases iF with⟨h,_⟩|⟨_,_,rfl⟩
   ·exact absurd h c
   ·exact⟨rfl,fun H' bt Tt=>⟨rfl,ci.trans (But.wide (fun m hm=>by rw[List.mem_singleton.mp hm];exact xN) bt),Tt⟩⟩
  rintro _ Hj ⟨rfl,cj,Tj⟩
  have door:∀{Hk:Hp},Same Hj Hk->∀{u:V}{tt:Tr},tt.At (Bb N J8) u->tt.ok 5->tt.size<=60->Re K cK Hk x rl rm u N U' many z rule t room es bas ls e2 tt ps dO:=fun {Hk} sk {u tt} hu h5 hz=>by
   have Tk:=Tj.keep sk
   have cc:=(c89.trans cj).trans (AB sk)
   exact⟨Tk,DX (Bz hN Tk eg' el'),noT Tk eg' el',by omega,by omega,m1,hu.keep (TS.same cc),h5,hz,cut_same _ _ (cc _ _ rlc),(psc.keep cc).keep cut_same,hris,by omega,cut_same _ _ (cc _ _ rmc),aE⟩
  have dop:∀{Hk:Hp},Same Hj Hk->Re K cK Hk x rl rm (.ref op) N U' many z rule t room es bas ls e2 tf ps dO:=fun s=>door s opc tf5 (by omega)
  have dv:∀{Hk:Hp},Same Hj Hk->Re K cK Hk x rl rm v N U' many z rule t room es bas ls e2 t ps dO:=fun s=>door s vvc ok5 (by omega)
  refine⟨Xp,fun lv hlv=>?_⟩
  have sl:=Ab hlv (.lst [V.str "say",.str "ask",.str "paper",.str "holds",.str "way"])
  have gl:upd Hj lv (.lst [V.str "say",.str "ask",.str "paper",.str "holds",.str "way"]) lv=_:=upd_same
  generalize upd Hj lv _=Hl at *
  refine⟨⟨_,SqL.of gl⟩,AG (K:=K) (a:=lv) (xs:=[V.str "say",.str "ask",.str "paper",.str "holds",.str "way"]) (fun _ σ H'=>BF fun(dz dA:Option V)=>σ=[some (.ref a),some (.int (many:Int)),some (.ref rm),some (.str z),some v,some (.ref x),some (.ref en),some (.int n),some (.ref fp),some (.ref op),some (.ref rl),some (.str wd),some (.str yw),dz,dA,v15]/\Same Hl H') ⟨_,_,rfl,Same.refl _⟩ ?_ ?_ ?_⟩
  ·rintro j σ Hk _ ⟨dz,dA,rfl,sk⟩
   exact SqL.of (sk _ _ gl)
  ·rintro j yy σ Hk hyy ⟨dz,dA,rfl,sk⟩
   have gX:=sl.trans sk
   obtain⟨d,rfl,hd⟩:∃d:Str,yy= .str d/\(d="say"\/d="ask"\/d="paper"\/d="holds"\/d="way"):=by
    match j,hyy with
    | 0,h=>exact⟨_,(zAE h).symm,.inl rfl⟩
    | 1,h=>exact⟨_,(zAE h).symm,.inr (.inl rfl)⟩
    | 2,h=>exact⟨_,(zAE h).symm,.inr (.inr (.inl rfl))⟩
    | 3,h=>exact⟨_,(zAE h).symm,.inr (.inr (.inr (.inl rfl)))⟩
    | 4,h=>exact⟨_,(zAE h).symm,.inr (.inr (.inr (.inr rfl)))⟩
   have nak:d≠"ask"->decide (V.str d=V.str "ask")=false:=fun c=>decide_eq_false fun z=>c (V.str.inj z)
   have d4:d≠"ask"->(d="say"\/d="paper"\/d="holds"\/d="way"):=fun c=>by
    rcases hd with h | h | h | h | h
    ·exact .inl h
    ·exact absurd h c
    ·exact .inr (.inl h)
    ·exact .inr (.inr (.inl h))
    ·exact .inr (.inr (.inr h))
   rcases iF with⟨rfl,_,rfl⟩|⟨rfl,_,rfl⟩
   ·have due:TM cO cS cB many false tf dO (some cS) d:=by
     by_cases ca:d="ask"
     ·exact .inr (.inl ⟨ca,tfno,rfl⟩)
     ·exact .inl ⟨d4 ca,.inr ⟨rfl,tfno,rfl⟩⟩
    refine⟨rfl,.tt (by decide) (.tt rfl ?_)⟩
    refine⟨d,x,rl,rm,.ref op,N,U',many,z,rule,t,room,es,bas,ls,false,tf,ps,dO,some cS,"strange",rfl,dop gX,due,.inr (.inr (.inl ⟨rfl,rfl⟩)),fun H' s'=>⟨rfl,.ff (by decide) ?_⟩⟩
    by_cases ca:d="ask"
    ·exact⟨rfl,.tt (decide_eq_true (by rw[ca])) (.tt rfl ⟨_,_,rfl,sk.trans s'⟩)⟩
    ·exact⟨rfl,.ff (nak ca) ⟨rfl,.tt (by decide) ⟨_,_,rfl,sk.trans s'⟩⟩⟩
   ·by_cases ca:d="ask"
    ·refine⟨rfl,.ff (by decide) ⟨rfl,.tt (decide_eq_true (by rw[ca])) ?_⟩⟩
     refine⟨d,x,rl,rm,.ref op,N,U',many,z,rule,t,room,es,bas,ls,true,tf,ps,dO,some cS,"strange",rfl,dop gX,.inr (.inl ⟨ca,tfno,rfl⟩),.inr (.inr (.inl ⟨rfl,rfl⟩)),fun H' s'=>⟨rfl,.ff (by decide) ?_⟩⟩
     exact⟨rfl,.tt (decide_eq_true (by rw[ca])) (.tt rfl ⟨_,_,rfl,sk.trans s'⟩)⟩
    ·refine⟨rfl,.ff (by decide) ⟨rfl,.ff (nak ca) ?_⟩⟩
     refine⟨d,x,rl,rm,.ref op,N,U',many,z,rule,t,room,es,bas,ls,true,tf,ps,dO,some cO,"over",rfl,dop gX,.inl ⟨d4 ca,.inl ⟨rfl,rfl⟩⟩,.inr (.inl ⟨rfl,rfl⟩),fun H' s'=>⟨rfl,.ff (by decide) ?_⟩⟩
     refine⟨rfl,.ff (nak ca) ⟨rfl,.ff (by decide) ?_⟩⟩
     exact⟨d,x,rl,rm,v,N,U',many,z,rule,t,room,es,bas,ls,true,t,ps,dO,some cO,"over",rfl,dv (gX.trans s'),.inl ⟨d4 ca,.inl ⟨rfl,rfl⟩⟩,.inr (.inl ⟨rfl,rfl⟩),fun H2 s2=>⟨rfl,.ff (by decide) ⟨_,_,rfl,(sk.trans s').trans s2⟩⟩⟩
  rintro _ Hm ⟨dz,dA,rfl,sm⟩
  have sjm:=sl.trans sm
  refine⟨X1,fun lw hlw=>?_⟩
  have eS:=Ab hlw (.lst [V.str "catch",.str "apart",.str "first",.str "second"])
  have gl2:upd Hm lw (.lst [V.str "catch",.str "apart",.str "first",.str "second"]) lw=_:=upd_same
  generalize upd Hm lw _=Hn at *
  refine⟨⟨_,SqL.of gl2⟩,AG (K:=K) (a:=lw) (xs:=[V.str "catch",.str "apart",.str "first",.str "second"]) (fun _ σ H'=>BF fun(dz dA:Option V)=>σ=[some (.ref a),some (.int (many:Int)),some (.ref rm),some (.str z),some v,some (.ref x),some (.ref en),some (.int n),some (.ref fp),some (.ref op),some (.ref rl),some (.str wd),some (.str yw),dz,dA,v15]/\Same Hn H') ⟨_,_,rfl,Same.refl _⟩ ?_ ?_ ?_⟩
  ·rintro j σ Hk _ ⟨dz,dA,rfl,sk⟩
   exact SqL.of (sk _ _ gl2)
  ·rintro j yy σ Hk hyy ⟨dz,dA,rfl,sk⟩
   have gX:=sjm.trans (eS.trans sk)
   obtain⟨d,rfl,hd⟩:∃d:Str,yy= .str d/\(d="catch"\/d="apart"\/d="first"\/d="second"):=by
    match j,hyy with
    | 0,h=>exact⟨_,(zAE h).symm,.inl rfl⟩
    | 1,h=>exact⟨_,(zAE h).symm,.inr (.inl rfl)⟩
    | 2,h=>exact⟨_,(zAE h).symm,.inr (.inr (.inl rfl))⟩
    | 3,h=>exact⟨_,(zAE h).symm,.inr (.inr (.inr rfl))⟩
   rcases iF with⟨rfl,_,rfl⟩|⟨rfl,_,rfl⟩
   ·exact⟨d,x,rl,rm,v,N,U',many,z,rule,t,room,es,bas,ls,false,t,ps,dO,none,"",rfl,dv gX,.inr (.inr (.inr (.inl ⟨hd,.inr ⟨rfl,rfl⟩⟩))),.inl ⟨rfl,rfl⟩,fun H2 s2=>⟨rfl,.ff (by decide) ⟨_,_,rfl,sk.trans s2⟩⟩⟩
   ·exact⟨d,x,rl,rm,v,N,U',many,z,rule,t,room,es,bas,ls,true,t,ps,dO,some cO,"over",rfl,dv gX,.inr (.inr (.inr (.inl ⟨hd,.inl ⟨rfl,rfl⟩⟩))),.inr (.inl ⟨rfl,rfl⟩),fun H2 s2=>⟨rfl,.ff (by decide) ⟨_,_,rfl,sk.trans s2⟩⟩⟩
  rintro _ Ho ⟨u13',u14',rfl,so⟩
  have sjo:=sjm.trans (eS.trans so)
  have rowd:∃r,SY cS cB many dO r/\QS cO cS cB r wd:=by
   rcases hdue with⟨h,rfl⟩|⟨h,rfl⟩|⟨h,rfl⟩
   ·exact⟨none,.inl ⟨h,rfl⟩,.inl ⟨rfl,rfl⟩⟩
   ·exact⟨some cS,.inr (.inl ⟨h,rfl⟩),.inr (.inr (.inl ⟨rfl,rfl⟩))⟩
   ·exact⟨some cB,.inr (.inr ⟨h,rfl⟩),.inr (.inr (.inr ⟨rfl,rfl⟩))⟩
  obtain⟨r0,hr0,hw0⟩:=rowd
  obtain⟨rj,wj,hj1,hj2,hj3⟩:BF fun rj wj=>Cc (TM cO cS cB many e2 t dO rj "judged") (QS cO cS cB rj wj) (yw≠""/\wj=yw\/yw=""/\wj=wd):=by
   rcases iF with⟨rfl,_,rfl⟩|⟨rfl,_,rfl⟩
   ·exact⟨r0,wd,.inr (.inr (.inl ⟨rfl,.inr ⟨rfl,hr0⟩⟩)),hw0,.inr ⟨rfl,rfl⟩⟩
   ·exact⟨some cO,"over",.inr (.inr (.inl ⟨rfl,.inl ⟨rfl,rfl⟩⟩)),.inr (.inl ⟨rfl,rfl⟩),.inl ⟨by decide,rfl⟩⟩
  refine⟨"judged",x,rl,rm,v,N,U',many,z,rule,t,room,es,bas,ls,e2,t,ps,dO,rj,wj,rfl,dv sjo,hj1,hj2,fun Hp sp=>?_⟩
  refine NZ rfl rfl hj3 ⟨rfl,.ff (by simp) ?_⟩
  unfold RA
  dsimp only
  refine Oj (m:=(many:Int)) ?_ fun xs ld Hq sq hld hxs=>?_
  ·rfl
  refine⟨⟨_,SqL.of hld⟩,AG (K:=K) (a:=ld) (xs:=xs) (fun _ σ H'=>BF fun(dz dA:Option V)=>σ=[some (.ref a),some (.int (many:Int)),some (.ref rm),some (.str z),some v,some (.ref x),some (.ref en),some (.int n),some (.ref fp),some (.ref op),some (.ref rl),some (.str wd),some (.str yw),dz,dA,some (.ref ld)]/\Same Hq H') ⟨_,_,rfl,Same.refl _⟩ ?_ ?_ ?_⟩
  ·rintro j σ Hk _ ⟨dz,dA,rfl,sk⟩
   exact SqL.of (sk _ _ hld)
  ·rintro j yy σ Hk hyy ⟨dz,dA,rfl,sk⟩
   have gX:=sjo.trans (sp.trans (sq.trans sk))
   obtain⟨d,rfl,hd⟩:=hxs yy (zAJ hyy)
   exact⟨d,x,rl,rm,v,N,U',many,z,rule,t,room,es,bas,ls,e2,t,ps,dO,r0,wd,rfl,dv gX,.inr (.inr (.inr (.inr ⟨hd,hr0⟩))),hw0,fun H2 s2=>⟨rfl,.ff (by simp) ⟨_,_,rfl,sk.trans s2⟩⟩⟩
  rintro _ Hz ⟨dz,dA,rfl,sz⟩
  have sjz:=sjo.trans (sp.trans (sq.trans sz))
  refine⟨_,_,_,_,U',e2,rfl,cj.trans (AB sjz),Tj.keep sjz,eg',el',fun h=>?_,fun h=>?_⟩
  ·rcases iF with⟨_,_,h2⟩|⟨_,h2,_⟩
   ·exact h2
   ·omega
  ·rcases iF with⟨_,h2,_⟩|⟨_,_,h2⟩
   ·omega
   ·exact h2
 ·rintro σ Hi ⟨v12,v13,v14,v15,U',e,rfl,ci,Ti,eg',el',h1,h2⟩
  have cc:=c89.trans ci
  have n70:0<=n / 7:=by omega
  have esz:∀e∈es.map (fun e=>(e.2.1,e.2.2)),e.1.size<=23:=fun e he=>by
   obtain⟨e0,h0,rfl⟩:=List.mem_map.mp he
   have:=(hes e0 h0).2
   show e0.2.1.size<=23
   omega
  refine⟨⟨by decide,by decide⟩,x,rm,rl,.ref fp,n / 7,N,U',_,.lt kf,ps,dO,rfl,Ti,n70,m1,cut_same _ _ (cc _ _ rmc),cut_same _ _ (cc _ _ rlc),(psc.keep cc).keep cut_same,hris,hrl5,(ffc.keep (TS.same cc)).keep (TS.same cut_same),d9,by show 1<=20;decide,fH,fun Hf sf=>?_⟩
  refine A8 ?_
  have Tf:=Ti.keep sf
  refine⟨Tf.ob,GZ,x,N,U',_,rfl,Tf,fun e9 Hg sg _ hg=>?_⟩
  have cf:=cc.trans (AB (sf.trans sg))
  exact⟨e9,en,U'.ges,U.ges,es.map fun e=>(e.2.1,e.2.2),rfl,hg,(Ea (Tf.keep sg).en).keep cut_same,cut_same _ _ (cf _ _ enc),(enA.keep cf).keep cut_same,esz,by rw[List.length_map];omega,q _⟩
end
theorem tkx{K:PySem.W.Frag}(a:PySem.W.plainGet K c Str.empty=true)(b:PySem.W.hasDictIn K c=true)(d:PySem.W.plainOver K c=true)(e:findIn K (.ref c) "__setattr__"=some (some (.builtin "object.__setattr__")))(w0:findIn K (.ref c) "many"=some none)(w1:findIn K (.ref c) "kind"=some none)(w2:findIn K (.ref c) "sentence"=some none)(w3:findIn K (.ref c) "rule"=some none)(w4:findIn K (.ref c) "space"=some none)(w5:findIn K (.ref c) "parts"=some none)(w6:findIn K (.ref c) "given"=some none)(w7:findIn K (.ref c) "left"=some none)(w8:findIn K (.ref c) "ended"=some none):X3 K c:=⟨⟨a,b,d,e⟩,w0,w1,w2,w3,w4,w5,w6,w7,w8⟩
theorem fx{K:PySem.W.Frag}{st:Stmt}{kV dc pm cd ct:Value}(X:K.In h)(G:h.Ns mainGlobals mg)(a:nsIn K mainGlobals n=some (some (.ref f)))(l:K.lookup f=some ⟨oc,od,.func (PySem.W.fnOf n n (C6 st) (BX st) (AZ st) .none kV dc pm an cd ct),sl⟩)(c:PySem.W.codeIn K cd n=true)(k:keepIn K (.ref f)=true):FT P w K mg n st:=⟨_,_,PV l c k,mg_of X G a,k⟩
theorem mx{K:PySem.W.Frag}{st:Stmt}{kV dc pm cd ct:Value}(a:findIn K (.ref C) n=some (some (.ref f)))(i:PySem.W.isFn K (.ref f)=true)(l:K.lookup f=some ⟨oc,od,.func (PySem.W.fnOf n q (C6 st) (BX st) (AZ st) .none kV dc pm an cd ct),sl⟩)(c:PySem.W.codeIn K cd q=true)(k:keepIn K (.ref f)=true):FM P w K mg C n q st:=⟨_,_,PV l c k,a,i,k⟩
theorem kf{K:PySem.W.Frag}(X:K.In h)(G:h.Ns mainGlobals mg)(a:nsIn K mainGlobals n=some (some (.ref c)))(b:PySem.W.makesIn K c=true)(k:keepIn K (.ref c)=true):KF K mg n c:=⟨mg_of X G a,b,k⟩
theorem tx{K:PySem.W.Frag}(X:K.In h)(G:h.Ns mainGlobals mg)(zV:mg "ValueError"=none)(zI:mg "isinstance"=none)(xTn:nsIn K mainGlobals "TalkError"=some (some (.ref cT)))(xTc1:clsIn K cT=some XDT)(xTt:typeIn K (.ref cT)=some (.type "type"))(xTbse:mroIn K cT (.type "BaseException")=some true):W9 K mg cT:=⟨mg_of X G xTn,xTt,by rw[xTc1];rfl,xTbse,zV,zI⟩
theorem ox{K:PySem.W.Frag}(X:K.In h)(G:h.Ns mainGlobals mg)(xTl:K.lookup cT=some ⟨.type "type",xTdd,.cls { name:=xTnm,bases:=xTbs,mro:=.ref cT::KA,ns:=NT,qualname:=xTq,hasDict:=xThd,slotNames:=xTsn,subclasses:=xTsub,abstract:=xTab,collection:=xTcol,hasDel:=false },#[xTa,xTb,xTc,xTd,xTe,xTf]⟩)(xTm:K.lookup NT=some ⟨xToc,xTod,.dict xTes xTep,xTsl⟩)(nTs:(xTes.all (fun e=>match e.key with | .str _ _=>true | _=>false))=true)(xTi:nsIn K NT "__init__"=some none)(nuV:PySem.W.kitMeta "ValueError"=true)(xcg:PySem.W.specialIn K (.builtin "object.__class__") "__get__"=some (some (.builtin "getset_descriptor.__get__")))(xct:PySem.W.takesIn K (.builtin "object.__class__")=some true)(xn0:nsIn K mainGlobals nm=some (some (.ref C)))(xl0:K.lookup C=some (excClassObj xnm0 xq0 C NC xbs0 (.ref cT::KA) true xsn0 xsub0 xab0 xcol0 xdd0 xka0 xkb0 xkc0 xkd0 xkf0 "ValueError.__new__"))(xm0:K.lookup NC=some ⟨xoc0,xod0,.dict xes0 xep0,xsl0⟩)(nxs0:(xes0.all (fun e=>match e.key with | .str _ _=>true | _=>false))=true)(xi0:nsIn K NC "__init__"=some none)(xkp0:keepIn K (.ref C)=true)(xcd0:clsIn K C=some XD0)(nxm0:XD0.mro= .ref C::.ref cT::KA)(nxd0:XD0.hasDict=true)(xsa0:findIn K (.ref C) "__setattr__"=some (some (.builtin "object.__setattr__")))(xga0:findIn K (.ref C) "__getattribute__"=some (some (.builtin "BaseException.__getattribute__")))(xgn0:findIn K (.ref C) "__getattr__"=some none)(xca0:findIn K (.ref C) "__class__"=some (some (.builtin "object.__class__")))(xt0:typeIn K (.ref C)=some (.type "type"))(xb0:mroIn K C (.type "BaseException")=some true)(xs0:mroIn K C (.ref C)=some true)(xu0:mroIn K C (.ref cT)=some true)(xv0:PySem.W.subIn K (.ref C) (.type "ValueError")=some true):OwnX K mg nm C cT:=⟨⟨⟨_,xcd0,nxm0,nxd0⟩,xsa0,xga0,xgn0,xca0,xcg,xct⟩,RD xl0 xm0 nxs0 xi0 xTl xTm nTs xTi xkp0,mg_of X G xn0,xt0,by rw[xcd0];rfl,xb0,xs0,xu0,VB nuV xv0⟩
theorem all_mk{l:PySem.W.OpenLaw}{fa:Addr}(hfa:mg "law"=some (.ref fa))(aa:Ev l.prog w K mg aA aN cK cT cS cB cN cO):∃fd:FuncData,(∀(s:Shared)(v:Value),BindsTo s fd ⟨[v],[]⟩ [("_law_script",v)])/\∀bz:Heap,K.In bz->bz.Ns mainGlobals mg->FnOk l.prog w K mg bz Bh 27 fa fd ["_law_script"] (JP K):=by
 obtain⟨f87,d87,FLAW,a87,_⟩:=aa.h87
 have zz:=hfa.symm.trans a87
 cases zz
 obtain⟨oc,od,kV,dc,pm,an,cd,ct,sl,ed,_,_⟩:=FLAW.ex
 refine⟨d87,fun s v=>?_,fun bz _ _=>?_⟩
 ·subst ed
  exact .of_eq rfl
 exact V6 aa FLAW
theorem walk{l:PySem.W.OpenLaw}{q:Program}{cu:List Str}{XP:(Str->Option Value)->Heap->Prop}{YP:World->Heap->Prop}{d:DefRec}{K:Params->PySem.W.Frag}(hn:l.most=some 63)(gm:d.params.defaults=[])(hY:∀(w:World) (h:Heap),YP w h->(K w.params).In h)(F:∀(w:World) (mg:Str->Option Value) (fa:Addr) (h:Heap),(K w.params).In h->h.Ns mainGlobals mg->mg d.name=some (.ref fa)->
   ∃fd:FuncData,(∀(s:Shared) (u:Value),BindsTo s fd ⟨[u],[]⟩ [("_law_script",u)])/\∀bz:Heap,(K w.params).In bz->bz.Ns mainGlobals mg->FnOk l.prog w (K w.params) mg bz Bh 27 fa fd ["_law_script"] (JP (K w.params))):
  PySem.W.WalkO q cu XP YP l.row.toRowW d [] (fun f vs=>PySem.call f vs):=
 L2.walk_of (n:=63) (k:=27) (x:="_law_script") (CX:=fun _=>Bh) (sp:=fun w=>JP (K w.params)) hn (by decide) gm ⟨rfl,by decide,by decide⟩ hY F (fun _ _ a ns hl _ hS=>⟨a,ns,rfl,hS,hl,fun _=>rfl⟩) fun _ _ _ _ _ z=>z
end Toy
namespace PySem.W.Fast
def tw15320541384322929122:=0
def tw13929658588508487655:=0
def tw3809406318758471148:=0
def tw10451731438170045044:=0
def tw9046126313633574511:=0
def tw5367219700858055443:=0
def tw12824319311191464368:=0
def tw11044528111116641369:=0
def tw12517295070704286276:=0
def tw7574252504848478132:=0
def tw1174637583627697445:=0
def tw12328523614848621179:=0
def tw9736191029006713152:=0
def tw16711876512954676625:=0
def tw17169190906667363659:=0
def tw18177382093378709607:=0
def tw14422538512141577813:=0
def tw18133448532148499818:=0
def tw12372433598081493973:=0
def tw4689514122089328924:=0
def tw7512139559936371943:=0
def tw11391101723710294756:=0
def tw6036016503457665614:=0
def tw13911473505991206517:=0
def tw966526449326600027:=0
def tw9096312152848019073:=0
def tw13404376711948150418:=0
def tw10451445749529284952:=0
def tw11978730153926374052:=0
def tw10749120479323011716:=0
def tw8658395234961590152:=0
def tw16870877429705423346:=0
def tw17208649550844255652:=0
def tw16706293648044792194:=0
def tw14841204227732309710:=0
def tw17632292227795479493:=0
def tw4698752688524517569:=0
def tw9671240673584494439:=0
def tw14027543759553462597:=0
def tw15863597558644676806:=0
def tw15276817200688174941:=0
def tw4883822686318689047:=0
def tw9862307768249977177:=0
def tw11249531368197249285:=0
def tw6494979265649584624:=0
def tw4543966862899665022:=0
def tw1529331449698408285:=0
def tw17423846210972047932:=0
def tw5195482986914785099:=0
def tw7887522786439664788:=0
def tw11179534294746609790:=0
def tw9515348491184272593:=0
def tw180867430487504778:=0
def tw18046062992253269156:=0
def tw2174555176418724273:=0
def tw11387291780573740919:=0
def tw13590995207469391268:=0
def tw13448422946353816721:=0
def tw7344294264035533981:=0
def tw5899286966110745619:=0
def tw15253210641580472697:=0
def tw17795111284360082144:=0
def tw13468080313608794442:=0
def tw3161308568385648010:=0
def tw11364629390274654293:=0
def tw14342586960077817226:=0
def tw15248686262395091558:=0
def tw6385504036880105852:=0
def tw14111365851570396842:=0
def tw5554170177001639780:=0
def tw15213095055200236698:=0
def tw898653913520139640:=0
def tw17738154921898925832:=0
def tw14783642650517927556:=0
def tw10557041625856190980:=0
def tw14899478085605610345:=0
def tw7035211690340327586:=0
def tw14207934464251718364:=0
def tw13115101037169633943:=0
def tw15836178549155068845:=0
def tw10678189850547833289:=0
def tw13223958859148562956:=0
def tw13500783537260090118:=0
def tw7264761965375410993:=0
def tw6602550263107683258:=0
def tw10502781582788260846:=0
def tw17180211631740552089:=0
def tw11627105356361773667:=0
def tw14514686502136171155:=0
def tw5771520101920763523:=0
def tw2750910600864681741:=0
def tw5484631098188885438:=0
def tw17395599417315741770:=0
def tw5383761986147617778:=0
def tw15797729874916353451:=0
def tw3299753990877973684:=0
def tw3948381057708542397:=0
def tw8502824491965841245:=0
def tw12965727608607057002:=0
def tw6627166458788457883:=0
def tw14452673775577445063:=0
def tw14094243337082983104:=0
def tw11664946210847713046:=0
def tw5667619389297162724:=0
def tw16840344192975653878:=0
def tw7688381751335673534:=0
def tw16367919480285774388:=0
def tw16722438884384408987:=0
def tw4928829648877086610:=0
def tw1805099699513304741:=0
def tw9031453572058216892:=0
def tw12809371015219414523:=0
def tw10441619089118668223:=0
def tw403211150940457223:=0
def tw15807102744873513346:=0
def tw2477636705406596977:=0
def tw260322674193412590:=0
def tw10869493815665000695:=0
def tw3671341390074306970:=0
def tw492841937436863796:=0
def tw10319137306380667901:=0
def tw5061687136742584278:=0
def tw3583192059928909017:=0
def tw729226046546346569:=0
def tw6320623482678852201:=0
def tw1500283324741722788:=0
def tw10075097569776722189:=0
def tw2287614195386946616:=0
def tw3268053559993603030:=0
def tw12148633509947275056:=0
def tw9306846671352091537:=0
def tw8931161211219717585:=0
def tw15480230874193760036:=0
def tw4896347858547272727:=0
def tw17150984910335100485:=0
def tw14919335277584893763:=0
def tw9276306137495847570:=0
def tw1335522131658877581:=0
def tw17836416662866752887:=0
def tw3184043291691723654:=0
def tw3203341900884235829:=0
def tw667630947338486230:=0
def tw5229233561037429128:=0
def tw16685554115769958984:=0
def tw18019990139141923338:=0
def tw11461557217956683662:=0
def tw6017999142838569322:=0
def tw6912951882271999045:=0
def tw6804084011154326480:=0
def tw4556582532021559364:=0
def tw14906620620934058414:=0
def tw6286801807263674022:=0
def tw6319088093971551598:=0
def tw6377325272600186318:=0
def tw9152742732270924098:=0
def tw1595155048045426298:=0
def tw6952476386025620130:=0
def tw15583015618310910171:=0
def tw5387738750612406154:=0
def tw8763080934869760501:=0
def tw16146144884891391308:=0
def tw18011155594217525044:=0
def tw647531649158387210:=0
def tw2660923471081839319:=0
def tw7797990938836089525:=0
def tw5196341368793383853:=0
def tw557761067919695205:=0
def tw16342764865396496464:=0
def tw3490351017022358845:=0
def tw15182103781700251580:=0
def tw15625970666524018289:=0
def tw5056423639496090659:=0
def tw9937446950296686721:=0
def tw5111700919247305101:=0
def tw16357065398381381180:=0
def tw4470508416672478939:=0
def tw13785404636607031852:=0
def tw11132573787683954345:=0
def tw8608964443510070638:=0
def tw15431540187816887911:=0
def tw8394684555096755956:=0
def tw4306629930604761685:=0
def tw5967454820351635557:=0
def tw13413681505285952144:=0
def tw3763337431190419346:=0
def tw7532608221113555737:=0
def tw16091263416775598630:=0
def tw9273252063049167877:=0
def tw12517200087023170603:=0
def tw8000878345108986909:=0
def tw11836001331681546292:=0
def tw15446571805134846680:=0
def tw9259668717784560973:=0
def tw1450843144549024673:=0
def tw427343360961996795:=0
def tw4845794171820057665:=0
def tw2212951912823950410:=0
def tw13683597558093306904:=0
def tw5328929288939541199:=0
def tw2710463765014193646:=0
def tw8841728783987364085:=0
def tw12144250599820712776:=0
def tw16701313272660441283:=0
def tw3526748062076667298:=0
def tw17364649018942789344:=0
def tw9373496669407346819:=0
def tw11239283116830188304:=0
def tw11609212027609952115:=0
def tw13507939389244480336:=0
def tw3780675926103056625:=0
def tw17866812987291339793:=0
def tw1135960147706124743:=0
def tw15226041535195895308:=0
def tw1253003051384575817:=0
def tw6717880992759440230:=0
def tw18170539296742451757:=0
def tw3011801905853959186:=0
def tw7495977742775040596:=0
def tw16718770350918039819:=0
def tw10680983712987216145:=0
def tw14676857590392364318:=0
def tw6046665856730740667:=0
def tw4481659565870759747:=0
def tw4000315823706541853:=0
def tw6511036406851803884:=0
def tw549469021142673040:=0
def tw8688904550872395047:=0
def tw6125726057747091320:=0
def tw3185622832501445179:=0
def tw9391337428331705378:=0
def tw5853569247972378769:=0
def tw9052928001359919825:=0
def tw15394308882673065935:=0
def tw8569739273159364339:=0
def tw6004444690435770484:=0
def tw10549375582745945882:=0
def tw581397623345593332:=0
def tw17383289022461447459:=0
def tw13012779016793674215:=0
def tw11784406572250783893:=0
def tw11044646085351216285:=0
def tw15316587701998012089:=0
def tw2831328744373205838:=0
def tw6295151052093620511:=0
def tw14664944252338628913:=0
def tw15305190276834907675:=0
def tw10241775773573932470:=0
def tw8436382569873668535:=0
def tw18345509345942323344:=0
def tw7239626637765063577:=0
def tw15381217154087230274:=0
def tw1250554682939377953:=0
def tw6140256098103020869:=0
def tw12759409279646422924:=0
def tw3544691892911296809:=0
def tw10036943973550158709:=0
def tw5312396218140550514:=0
def tw1816763052924828695:=0
def tw13403727235685723728:=0
def tw16270249524289051431:=0
def tw10949892819158156451:=0
def tw7589306509340038632:=0
def tw7596498622785689095:=0
def tw3295184496099983840:=0
def tw238288766244350101:=0
def tw1322332221958010677:=0
def tw5496886956929884310:=0
def tw6388370523663119268:=0
def tw16513267505668860491:=0
def tw13541029737024589091:=0
def tw17171661048812613593:=0
def tw15780422404648242391:=0
def tw14843109588084197818:=0
def tw3448022397643333834:=0
def tw15459187515589658398:=0
def tw15945623403850650238:=0
def tw4999133811739412335:=0
def tw503350062793462193:=0
def tw11094560290743146341:=0
def tw15146538210305417557:=0
def tw17790879943813419865:=0
def tw3668742651993863477:=0
def tw11487339328219115775:=0
def tw9933560199674403421:=0
def tw17578440077721725785:=0
def tw17763417708168556263:=0
def tw4063906934820789056:=0
def tw1794514456140496030:=0
def tw3100567825615691761:=0
def tw4483942903459237035:=0
end PySem.W.Fast
open PySem PySem.W PyProof.Rows
set_option maxRecDepth 100000 in
set_option maxHeartbeats 0 in
theorem PySem.Challenge.cw_holdtalk_k46_doors_of_a_talk_holds : PySem.Challenge.rw_holdtalk_k46_doors_of_a_talk.Holds := by
 w_on;o_law;k_head;(case hw=>w_witness2)
 k_fill
 refine Toy.walk (l:=PySem.Challenge.rw_holdtalk_k46_doors_of_a_talk) rfl rfl (fun w h Y=>PySem.W.kIn_of Y) ?F
 case F=>
  intro w mg fa h KX G hmg
  apply Toy.all_mk hmg
  apply Toy.Ev.mk
  iterate 74 (apply Toy.fx KX G;iterate 4 k_is)
  apply Toy.kf KX G;iterate 3 k_is
  apply Toy.tkx;iterate 13 k_is
  iterate 12 (apply Toy.mx;iterate 5 k_is)
  apply Toy.mx;iterate 5 k_is
  apply Toy.tx KX G (PySem.W.mg_none_of KX G (by k_is)) (PySem.W.mg_none_of KX G (by k_is));iterate 4 k_is
  iterate 4 (apply Toy.ox KX G;iterate 25 first|k_is|rfl|decide|simp)
  iterate 10 (k_is)
  k_is
  iterate 17 (apply PySem.W.mg_none_of KX G;k_is)
  apply Toy.ex_KCh KX G;(k_is);(k_is);(k_is);(k_is);(k_is);(k_is);(k_is);(k_is);(k_is);(k_is)
