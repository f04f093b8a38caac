import PyProof.Rows.All
import Wide.All
import OpenK.AllK
import Wide.FinOn
import Lean
import PyProof.EqAt
import PyProof.EqKinds
import PyProof.TupleCall
import PyProof.NeKinds
import PyProof.EnumMake
import PyProof.EnumStmt
import PyProof.Draws
import PyProof.WalksT
import PyProof.StrWalks
import PyProof.Rows.EnumRows
import PyProof.StrLawsIdx
import PyProof.StrBlockI
import PyProof.StationsW
import PyProof.ExcInit
import PyProof.ExcBaseAll.ValueError
import PyProof.ExcAttrAll.ValueError
import PyProof.Rows.CatchOwn
import PyProof.CompUse
import PyProof.CompFree
import PyProof.SetKind
import PyProof.SetScanFacts
import PyProof.SetRoads
import PyProof.SetNew
import PyProof.Rows.SetFrom
import PyProof.CollectWalk
import PyProof.Rows.SortShell
import PyProof.Cells
import PyProof.ListRange
import PyProof.ConsumeWalk
import PyProof.Tail
import PyProof.CallStr
import PyProof.AutoSeq1
import PyProof.SeqRoads2
import PyProof.FactsAll.bool_1
import PyProof.FactsAll.NoneType_1
import PyProof.FactsAll.range_1
import PyProof.DictRoads
import PyProof.DictStraight
import PyProof.MeetsDictList
import PyProof.FactsAll.dict_3
import KE.KDictList
import PyProof.DictDisplay
import KE.KDictOf
import PyProof.NsDelKeeps
import PyProof.RangeIter
import PyProof.TableTree
import PySem.Challenge.RW_holdtalk_k50_lines_of_a_log
set_option Elab.async false
set_option linter.all false
set_option maxRecDepth 100000
set_option autoImplicit true
set_option relaxedAutoImplicit true
set_option maxHeartbeats 64000000
set_option hygiene false
local macro_rules|`(%[|0])=>`((by decide))
local macro_rules|`(%[|1])=>`((by omega))
local macro_rules|`(%[|2])=>`((by simp))
local macro_rules|`(%[|3])=>`(Fc P w K mg)
local macro_rules|`(%[|4])=>`(Option Value)
local macro_rules|`(%[|5])=>`(Inv X pins σ H s)
local macro_rules|`(%[|6])=>`(List Addr)
local macro_rules|`(%[|7])=>`(List Value)
local macro_rules|`(%[|8])=>`((by rfl))
local macro_rules|`(%[|9])=>`(FT P w K mg)
local macro_rules|`(%[|10])=>`(FT l.prog w K mg)
local macro_rules|`(%[|11])=>`((by intro z;cases z))
local macro_rules|`(%[|12])=>`(AC true t)
local macro_rules|`(%[|13])=>`(Inv X pins σ)
local macro_rules|`(%[|14])=>`(List %[|85])
local macro_rules|`(tactic|exists 0)=>`(tactic|refine⟨SqT.of hd,Ac (j:=0) rfl,rfl,Aq ?_⟩)
local macro_rules|`(%[|15])=>`((model X.prog X.w))
local macro_rules|`(%[|16])=>`(Fm P w K mg cH)
local macro_rules|`(%[|17])=>`(Option Bool)
local macro_rules|`(%[|18])=>`((AO (pv 0) rfl))
local macro_rules|`(%[|19])=>`(wpAny %[|15] X.A)
local macro_rules|`(%[|20])=>`(List Expr)
local macro_rules|`(%[|21])=>`((An Am (pv 1) Ad))
local macro_rules|`(%[|22])=>`((X.cmp N scope cl c))
local macro_rules|`(%[|23])=>`(A0C M C cK H S)
local macro_rules|`(tactic|exists 1)=>`(tactic|intro pins s σ H Q I h)
local macro_rules|`(%[|24])=>`(AC false t)
local macro_rules|`(%[|25])=>`((ns.map V.int))
local macro_rules|`(%[|26])=>`((AG (E1:=E) fun _ _ _ h=>h))
local macro_rules|`(%[|27])=>`(wpAny %[|29] A)
local macro_rules|`(%[|28])=>`((by with_unfolding_all rfl))
local macro_rules|`(%[|29])=>`((model prog w))
local macro_rules|`(%[|30])=>`(Option Nat)
local macro_rules|`(tactic|exists 2)=>`(tactic|refine wpAny_bind ?_)
local macro_rules|`(%[|31])=>`((by decide +kernel))
local macro_rules|`(%[|32])=>`((fun _=>False))
local macro_rules|`(%[|33])=>`(Ax Z.m Z.room Z.marks)
local macro_rules|`(%[|34])=>`(A0D M C H a U W)
local macro_rules|`(%[|35])=>`(FM l.prog w K mg c)
local macro_rules|`(%[|36])=>`(EP X pins σ Q)
local macro_rules|`(%[|37])=>`(FM P w K mg)
local macro_rules|`(tactic|exists 3)=>`(tactic|intro pins s σ H x y v u Q I rx ry h)
local macro_rules|`(tactic|exists 4)=>`(tactic|simp only[zAC,zAA,or_false] at hc)
local macro_rules|`(%[|38])=>`((wpAny_pure ?_))
local macro_rules|`(%[|39])=>`(A4 I q %[|2])
local macro_rules|`(%[|40])=>`((s.heap.objs.size+1))
local macro_rules|`(%[|41])=>`(A0H w s.heap)
local macro_rules|`(tactic|exists 5)=>`(tactic|obtain⟨t,rfl⟩:=rx)
local macro_rules|`(%[|42])=>`((An Am (pv 0) Ad))
local macro_rules|`(%[|43])=>`(("space",.ref sp))
local macro_rules|`(%[|44])=>`([⟨tg,bg,bt,0⟩,⟨bX,bi,bw,0⟩])
local macro_rules|`(%[|45])=>`(⟨by decide,by decide⟩)
local macro_rules|`(%[|46])=>`((.ref s.heap.objs.size))
local macro_rules|`(%[|47])=>`(("many",.int many))
local macro_rules|`(%[|48])=>`(Fm P w K mg cK)
local macro_rules|`(tactic|exists 6)=>`(tactic|refine wpAny_pure ?_)
local macro_rules|`(%[|49])=>`((x == ("__debug__":Str)))
local macro_rules|`(%[|50])=>`((s.heap.push (Br w)))
local macro_rules|`(tactic|exists 7)=>`(tactic|intro pins s σ H xs us Q I r h)
local macro_rules|`(%[|51])=>`((false,eval e X.env))
local macro_rules|`(%[|52])=>`(("kind",.str kind))
local macro_rules|`(tactic|exists 8)=>`(tactic|rcases List.mem_cons.mp hc with rfl | hc)
local macro_rules|`(tactic|exists 9)=>`(tactic|intro pins s σ H D I h)
local macro_rules|`(%[|53])=>`(AK AV %[|8] B.len zA4)
local macro_rules|`(%[|54])=>`(AR AF %[|21] Ae)
local macro_rules|`(tactic|exists 10)=>`(tactic|refine⟨SqT.of hp,Ac (j:=0) rfl,rfl,?_⟩)
local macro_rules|`(tactic|exists 11)=>`(tactic|refine⟨SqT.of hd,Ac (j:=0) rfl,rfl,AB ?_⟩)
local macro_rules|`(%[|55])=>`((BO W.many W.kind W.rule W.t W.room))
local macro_rules|`(%[|56])=>`((ha pins s σ H _ I h))
local macro_rules|`(%[|57])=>`((s2.heap.push { cls:=.type "list",data:=.seq ([]:List Value).toArray }))
local macro_rules|`(%[|58])=>`(AJ A1 %[|8] T.lst Bp)
local macro_rules|`(%[|59])=>`(CA p.w S.seen t)
local macro_rules|`(%[|60])=>`((backTo pos (starEach es X.env)))
local macro_rules|`(%[|61])=>`((by rw[List.length_map];omega))
local macro_rules|`(tactic|exists 12)=>`(tactic|intro X hP hw hK hc i pins s σ H E I hf st hg)
local macro_rules|`(tactic|exists 13)=>`(tactic|refine wpAny_bind (wpAny_setState_of ho hd hf ?_))
local macro_rules|`(tactic|exists 14)=>`(tactic|exact q r .non M _ Z A0A rfl (MGo.no hZ hM (Ab hr _)))
local macro_rules|`(%[|62])=>`(([V.str "house",.str (toString (m:Int):String)]++ts.map fun t=>V.str (B0 t)))
local macro_rules|`(%[|63])=>`((upd H2 wl (.lst xs.dropLast)))
local macro_rules|`(%[|64])=>`((.lst (List.replicate m .non)))
local macro_rules|`(tactic|exists 15)=>`(tactic|intro pins s σ H x vs v us Q I rx rv h)
local macro_rules|`(%[|65])=>`((Ge n d sd sa hl sds [.ref ba] v Z.m kd rl t Z.room))
local macro_rules|`(%[|66])=>`((.ListComp bu (⟨tg,bg,bt,0⟩::rest) scope pos))
local macro_rules|`(%[|67])=>`(⟨by decide,by decide,by decide⟩)
local macro_rules|`(%[|68])=>`((.Call (.Name x p) (e::es) [] pos))
local macro_rules|`(%[|69])=>`(Ew X.prog X.w X.K X.mg X.base CX k f fd ps sp)
local macro_rules|`(%[|70])=>`(A0M N C H x U m room marks ls)
local macro_rules|`(tactic|exists 16)=>`(tactic|refine wpAny_bind (wpAny_bind (wpAny_askSetting (wpAny_pure ?_))))
local macro_rules|`(%[|71])=>`(((relabel scope X.env).names.lookup x=some .cell\/(relabel scope X.env).names.lookup x=some .free))
local macro_rules|`(tactic|exists 17)=>`(tactic|intro value cP pins s σ H x y v u Q I rx ry h hs)
local macro_rules|`(tactic|exists 18)=>`(tactic|repeat (any_goals (first | assumption | wp_step)))
local macro_rules|`(%[|72])=>`((ls++[.str (AD [Str.ofString "learn",⟨#[97+j]⟩,fm k])]))
local macro_rules|`(%[|73])=>`((.lst [.str "house",.str (toString (m:Int):String)]))
local macro_rules|`(%[|74])=>`((if p.nm=k then (⟨p.nm,p.a,u,w⟩:Tw) else p))
local macro_rules|`(%[|75])=>`((By X.w s2.heap.objs.size (fun _=>false) 0))
local macro_rules|`(%[|76])=>`((.ListComp bu [⟨tg,bg,bt,0⟩] scope pos))
local macro_rules|`(tactic|exists 19)=>`(tactic|refine wpAny_bind (wpAny_standAt (wpAny_bind (AU h fun r s₁ h₁=>?_))))
local macro_rules|`(tactic|exists 20)=>`(tactic|refine wpAny_bind (AU h₁ fun _ s2 h2=>wpAny_bind (AU h2 fun _ s3 h3=>wpAny_bind (AU h3 fun ok s4 h4=>?_))))
local macro_rules|`(%[|77])=>`((fun c1=>(BA 0 (show (["_law_world","_law_sentence_here"]:List Str).Nodup by decide +kernel))))
local macro_rules|`(%[|78])=>`((Heap.get?_push_of_some _ (Heap.get?_push_of_some _ e)))
local macro_rules|`(%[|79])=>`((fun j=>Option.map (fun x=>(j,x)) (owner.getD j none)))
local macro_rules|`(%[|80])=>`(Jf CX P w K mg base N bv scope f)
local macro_rules|`(tactic|exists 21)=>`(tactic|refine⟨.inl (i4 _),.inl ⟨by decide,by decide⟩,(by show (0:Int)<2147483629;decide),?_⟩)
local macro_rules|`(tactic|exists 22)=>`(tactic|refine⟨SqT.of hd,Ac (j:=1) rfl,M,Z,k,rfl,hZ,zA7 hO.ts,fun c=>?_,fun p hp ep=>?_⟩)
local macro_rules|`(%[|81])=>`((⟨x,U,m,AY m ts,List.replicate m none,[.str (BD m ts)],[]⟩:HSt))
local macro_rules|`(%[|82])=>`((Str.ofString "house"::Str.ofString (toString (m:Int))::ts.map B0))
local macro_rules|`(tactic|exists 23)=>`(tactic|have f3:∀b∈fp,CG X pins (upd H2 s2.heap.objs.size (.lst [])) b:=fun b hb=>⟨by rw[Af (fpa b hb)];exact (f2 b hb).1,(f2 b hb).2⟩)
local macro_rules|`(tactic|exists 24)=>`(tactic|have hR':=hR ⟨{ s2 with heap:=s2.heap.push { cls:=.type "list",data:=.seq ([]:List Value).toArray } },upd H2 s2.heap.objs.size (.lst []),fp⟩ s2.heap.objs.size I2.fresh)
local macro_rules|`(tactic|exists 25)=>`(tactic|refine wpAny_bind (m:=firstArgMember _ _) (wpAny_of_eq (a:=Value.none) (by first | rfl | (simp only[firstArgMember];rfl)) ?_))
local macro_rules|`(tactic|exists 26)=>`(tactic|refine wpAny_bind (wpAny_isInstance (T:="StopIteration") (b:=true) ⟨_,Heap.get?_push_size _ rfl,rfl⟩ isSubtype_stop ?_))
local macro_rules|`(%[|83])=>`([some (.int m2),some (.int most),some (.int many),some (.ref jl),some (.ref pl),some (.int size),tv,dv,rv])
local macro_rules|`(tactic|exists 27)=>`(tactic|refine I.call' (ch:=fp) (s':={ s' with heap:=fu }) J.os ⟨fun b o e n hb hx=>(cQ.2 b (ne b o e)).trans (u.keep b o e n hb hx),fun b o e n hb hx=>?_,u.free,fun b o e hx=>?_,u.tups,u.frzs,u.tbls⟩ (fun b ob e=>?_) J.bare fun b hb=>⟨(hf b hb).2.2.2.1,(hf b hb).2.1,(hf b hb).2.2.2.2.1,(hf b hb).2.2.2.2.2⟩)
local macro_rules|`(tactic|exists 28)=>`(tactic|exact Cl (X:=X.cmp N scope cl ⟨{ s2 with heap:=s2.heap.push { cls:=.type "list",data:=.seq ([]:List Value).toArray } },upd H2 s2.heap.objs.size (.lst []),fp⟩) rfl rfl rfl (fun _=>rfl) True.intro bY (T.self _ 0 _ _ _ gy bY))
local macro_rules|`(tactic|exists 29)=>`(tactic|have lt3:∀b ob,({ s2 with heap:=s2.heap.push { cls:=.type "list",data:=.seq ([]:List Value).toArray } }:Shared).heap.get? b=some ob->b<(s2.heap.push { cls:=.type "list",data:=.seq ([]:List Value).toArray }).objs.size:=fun b ob e=>zAE e)
local macro_rules|`(tactic|exists 30)=>`(tactic|refine⟨c6.ob,LX,p.sd,gl,sn,v,t,p.sds,p.w.sides,p.w.going,_,rfl,ha.keep (TS.same s1),dr,hsz,SqL.of (Ay _ _ c6.sd),c6.sr.keep Ay,hW.s9,by rw[eg];exact SqL.of (Ay _ _ gZ),gl9,SqL.of hsn,ls,fun H2 s2=>q' H2 (s1.trans s2)⟩)
local macro_rules|`(tactic|exists 31)=>`(tactic|exact q r .non _ _ _ A0A rfl (MGo.go (N:=[d,sa,hl]) (L:=[Z.tl,Z.ln]) hM b1 Tm (WS hZ) (fun c hc=>Mb cZ c hc) (CO d0 a0 l0) (IL (cZ.tt _ (zAG _ List.mem_cons_self))) (Ab hr _) cZ rfl rfl rfl rfl (Mx _ _) rfl (fun _ h=>Mr h)))
local macro_rules|`(%[|84])=>`((wpAny_pyIter_list pl.isList ⟨s.heap.objs.size,_,_,_,_,_,fun i=>bs.getD i false,rfl,Walks.list (by have:=I.ok.hd hc;simpa using this) s.heap.objs.size l (zAI bL) its.toArray,⟨⟨_,Heap.get?_push_size _ rfl,rfl,rfl⟩,pl.isList.push _⟩,Ll rv,fun h' tk kk=>?_⟩))
local macro_rules|`(%[|85])=>`((Addr×Obj))
local macro_rules|`(%[|86])=>`(Inv X pins σ)
local macro_rules|`(%[|87])=>`(Inv X pins σ)
local macro_rules|`(%[|88])=>`(Inv X pins σ)
local macro_rules|`(%[|89])=>`(Inv X pins σ)
local macro_rules|`(%[|90])=>`(Inv X pins σ)
local macro_rules|`(%[|91])=>`(Inv X pins σ)
local macro_rules|`(%[|92])=>`(Inv X pins σ)
set_option hygiene true
namespace Aq
abbrev zA:=@List.length_append
abbrev zAA:=@List.not_mem_nil
abbrev zAB:=@Nat.le_refl
abbrev zAC:=@List.mem_cons
abbrev zAD:=@Nat.le_trans
abbrev zAE:=@PySem.Heap.lt_size
abbrev zAF:=@Bool.false_ne_true
abbrev zAG:=@List.mem_append_right
abbrev zAH:=@List.size_toArray
abbrev zAI:=@Nat.ne_of_lt
abbrev zAJ:=@Array.length_toList
abbrev zAK:=@Option.some.inj
abbrev zAL:=@List.length_cons
abbrev zAM:=@Nat.lt_of_lt_of_le
abbrev zAN:=@List.mem_of_getElem?
abbrev zAO:=@List.filter_sublist
abbrev zAP:=@List.map_cons
abbrev zAQ:=@List.take_length
abbrev zAR:=@List.take_add_one
abbrev zAS:=@PySem.Heap.SameBut.update
abbrev zAT:=@PySem.Heap.size_push
abbrev zAU:=@Bool.and_eq_true
abbrev zAV:=@PySem.PassesOwn.never
abbrev zAW:=@List.length_take
abbrev zAX:=@List.length_filter_le
abbrev zAY:=@List.dropLast_concat
abbrev zAZ:=@PySem.mem_of_lookup
abbrev zA0:=@Int.emod_nonneg
abbrev zA1:=@Nat.lt_succ_of_lt
abbrev zA2:=@Int.emod_lt_of_pos
abbrev zA3:=@Bool.eq_iff_iff
abbrev zA4:=@PySem.boot_len
abbrev zA5:=@Nat.zero_le
abbrev zA6:=@List.append_nil
abbrev zA7:=@Nat.le_of_lt
abbrev zA8:=@List.filterMap_cons_some
abbrev zA9:=@List.mem_map_of_mem
abbrev zB:=@Ne.symm
abbrev zBA:=@Nat.le_succ
abbrev zBB:=@Int.toNat_natCast
abbrev zBC:=@PySem.Heap.SameBut.refl
abbrev zBD:=@PySem.F.plainAttrs_list
abbrev zBE:=@PySem.Obj.data_mapFields
abbrev zBF:=@Bool.or_eq_true
abbrev zBG:=@List.replicate_succ
abbrev zBH:=@Nat.succ_pos
abbrev zBI:=@List.nodup_nil
abbrev zBJ:=@List.map_map
abbrev zBK:=@List.filterMap_cons_none
abbrev zBL:=@PySem.W.kia_one
abbrev zBM:=@Nat.lt_irrefl
abbrev zBN:=@Nat.ne_of_gt
abbrev zBO:=@Bool.false_eq_true
abbrev zBP:=@List.sum_cons
abbrev zBQ:=@List.length_dropLast
abbrev zBR:=@List.Perm.refl
abbrev zBS:=@List.any_cons
abbrev zBT:=@List.filter_cons
abbrev zBU:=@PySem.Obj.isFreed_of_fields
abbrev zBV:=@List.mem_singleton
abbrev zBW:=@List.mem_append_left
abbrev zBX:=@Nat.lt_trans
abbrev zBY:=@List.append_assoc
abbrev zBZ:=@List.Sublist.refl
abbrev zB0:=@PySem.Paired.length
abbrev zB1:=@Int.eq_ofNat_of_zero_le
abbrev zB2:=@List.forall_mem_nil
abbrev zB3:=@List.map_congr_left
abbrev zB4:=@Nat.lt_succ_self
abbrev zB5:=@PySem.F.plainAttrs_str
abbrev zB6:=@PyProof.Rows.callWith_type1
abbrev zB7:=@List.filter_append
abbrev zB8:=@Nat.not_lt_zero
abbrev zB9:=@List.take_append_drop
abbrev zC:=@Int.ediv_nonneg
abbrev zCA:=@PySem.F.slot_str_join
abbrev zCB:=@PySem.F.type_str_join
abbrev zCC:=@List.length_range
abbrev zCD:=@PySem.Around.under_plainId
abbrev zCE:=@List.any_eq_true
abbrev zCF:=@List.getElem_mem
abbrev zCG:=@List.all_eq_true
abbrev zCH:=@List.eraseIdx_eq_take_drop_succ
abbrev zCI:=@PySem.W.callWith_K
abbrev zCJ:=@List.filter_nil
abbrev zCK:=@List.flatten_cons
abbrev zCL:=@Int.fdiv_eq_ediv_of_nonneg
abbrev zCM:=@Bool.or_false
abbrev zCN:=@Bool.not_true
abbrev zCO:=@Sum.inr.inj
abbrev zCP:=@List.sum_append
abbrev zCQ:=@PySem.Code.quiet_builtin
abbrev zCR:=@PySem.F.slot_list_extend
abbrev zCS:=@PySem.F.type_list_extend
abbrev zCT:=@PyProof.Rows.F.plain_set_update_loop
abbrev zCU:=@List.filter_cons_of_neg
abbrev zCV:=@List.filter_cons_of_pos
abbrev zCW:=@List.reverse_cons
abbrev zCX:=@List.filter_congr
abbrev zCY:=@PySem.Calls.callWith_builtin
abbrev zCZ:=@List.pairwise_lt_range
abbrev zC0:=@Nat.lt_of_succ_lt_succ
abbrev zC1:=@List.length_pos_of_mem
abbrev zC2:=@List.all_cons
abbrev zC3:=@List.length_drop
abbrev zC4:=@PySem.W.Looks.ld
abbrev zC5:=@List.ext_getElem
abbrev zC6:=@List.lookup_cons
abbrev zC7:=@List.cons_ne_nil
abbrev zC8:=@List.length_replicate
abbrev zC9:=@PySem.SeqAt.EqAt.same
abbrev zD:=@List.mem_append
abbrev zDA:=@List.length_eraseIdx
abbrev zDB:=@List.all_map
abbrev zDC:=@List.all_append
abbrev zDD:=@PySem.W.plainGet_of
abbrev zDE:=@PySem.W.looks_mroIn
abbrev zDF:=@List.toList_toArray
abbrev zDG:=@Int.le_refl
abbrev zDH:=@PySem.SeqAt.EqAt.str_str
abbrev zDI:=@Nat.lt_of_le_of_lt
abbrev zDJ:=@List.map_filterMap
abbrev zDK:=@PySem.Obj.cls_mapFields
abbrev zDL:=@List.map_nil
abbrev zDM:=@PySem.SeqAt.RcAt.lists
abbrev zDN:=@List.any_map
abbrev zDO:=@Int.zero_add
end Aq
open Aq
namespace L2
open PySem PySem.Spec PyProof.Rows
abbrev DX:=Sum Int Str
def Ph:DX->Value->Bool
 | .inl k,v=>Value.isInt k v
 | .inr x,v=>Value.isStrOf x v
def aB(w:World):DX->Int
 | .inl k=>hashInt k
 | .inr x=>hashStr w x
theorem Bo:∀{k:DX}{v:Value},Ph k v=true->(∃i t,k=Sum.inl i/\v=Value.int i t)\/(∃x t,k=Sum.inr x/\v=Value.str x t)
 | .inl i,v,h=>by
  obtain⟨t,e⟩:=Value.isInt_shape (k:=i) (v:=v) h;exact .inl ⟨i,t,rfl,e⟩
 | .inr x,v,h=>by
  obtain⟨t,e⟩:=Value.isStrOf_shape (x:=x) (v:=v) h;exact .inr ⟨x,t,rfl,e⟩
theorem PN(x:Str)(t:Tok):Ph (.inr x) (.str x t)=true:=by simp[Ph,Value.isStrOf]
theorem W9(a b:Int):decide ((Sum.inl a:DX)=Sum.inl b)=(a == b):=by
 by_cases e:a=b
 ·subst e;simp
 ·have h:¬(Sum.inl a:DX)=Sum.inl b:=fun q=>e (Sum.inl.inj q)
  rw[decide_eq_false h];exact (beq_eq_false_iff_ne.mpr e).symm
theorem Ya(a b:Str):decide ((Sum.inr a:DX)=Sum.inr b)=decide (a=b):=by
 by_cases e:a=b
 ·subst e;simp
 ·have h:¬(Sum.inr a:DX)=Sum.inr b:=fun q=>e (zCO q)
  rw[decide_eq_false h,decide_eq_false e]
theorem XR(a:Int)(b:Str):decide ((Sum.inl a:DX)=Sum.inr b)=false:=decide_eq_false (fun q=>nomatch q)
theorem Xs(a:Str)(b:Int):decide ((Sum.inr a:DX)=Sum.inl b)=false:=decide_eq_false (fun q=>nomatch q)
def CI(prog:Program)(w:World):PySem.KeyKind prog w DX where
 is:=Ph
 hash:=aB w
 inj:=fun v a b ha hb=>by
  rcases Bo ha with⟨i,t,rfl,rfl⟩|⟨x,t,rfl,rfl⟩
  ·rcases Bo hb with⟨j,u,rfl,e⟩|⟨y,u,rfl,e⟩
   ·injection e with e1 _;rw[e1]
   ·exact nomatch e
  ·rcases Bo hb with⟨j,u,rfl,e⟩|⟨y,u,rfl,e⟩
   ·exact nomatch e
   ·injection e with e1 _;rw[e1]
 byValue:=fun k v h=>by
  rcases Bo h with⟨i,t,rfl,rfl⟩|⟨x,t,rfl,rfl⟩<;>rfl
 pyHash:=fun hv h=>by
  rcases Bo hv with⟨i,t,rfl,rfl⟩|⟨x,t,rfl,rfl⟩
  ·exact wpAny_pyHash_int h
  ·exact wpAny_pyHash_str h
 eqBool:=fun hu hv h=>by
  rcases Bo hu with⟨i,t,rfl,rfl⟩|⟨x,t,rfl,rfl⟩
  ·rcases Bo hv with⟨j,u,rfl,rfl⟩|⟨y,u,rfl,rfl⟩
   ·rw[W9] at h;exact wpAny_eqBool_int h
   ·rw[XR] at h;exact SeqAt.EqAt.int_str i t y u _ _ _ _ h
  ·rcases Bo hv with⟨j,u,rfl,rfl⟩|⟨y,u,rfl,rfl⟩
   ·rw[Xs] at h;exact SeqAt.EqAt.str_int x t j u _ _ _ _ h
   ·rw[Ya] at h;exact wpAny_eqBool_str h
 «strs»:=fun k x t v h=>by
  rcases Bo h with⟨i,u,rfl,e⟩|⟨y,u,rfl,e⟩
  ·exact nomatch e
  ·injection e with e1 _
   subst e1;cases v<;>rfl
theorem BM(prog:Program)(w:World)(x:Str)(t:Tok):(CI prog w).is (.inr x) (.str x t)=true:=PN x t
inductive V where
 | non | bl (b:Bool) | int (i:Int) | str (x:Str) | byt (b:Array UInt8) | flt (b:UInt64) | ref (a:Addr) | ty (n:String)
 deriving DecidableEq
def RelV:V->Value->Prop
 | .non,u=>u=Value.none
 | .bl b,u=>u=Value.bool b
 | .int i,u=>∃t,u=Value.int i t
 | .str x,u=>∃t,u=Value.str x t
 | .byt b,u=>∃t,u=Value.bytes b t
 | .flt b,u=>∃t,u=Value.float b t
 | .ref a,u=>u=Value.ref a
 | .ty n,u=>u=Value.type n
abbrev Vals:List V->%[|7]->Prop:=Paired RelV
theorem Vals.length(r:Vals xs us):xs.length=us.length:=zB0 r
theorem Vals.get:∀{xs:List V}{us:%[|7]}{i:Nat}{x:V},Vals xs us->xs[i]? = some x->∃u,us[i]? = some u/\RelV x u
 | _,_,_,_,.nil,e=>by simp at e
 | _,_,0,_,.cons r _,e=>by simp at e;subst e;exact⟨_,rfl,r⟩
 | _,_,i+1,x,.cons _ t,e=>by
  obtain⟨u,h1,h2⟩:=Vals.get (i:=i) (x:=x) t (by simpa using e);exact⟨u,by simpa using h1,h2⟩
theorem Vals.set{x:V}{u:Value}(r:RelV x u):∀{xs:List V}{us:%[|7]}(i:Nat),Vals xs us->Vals (xs.set i x) (us.set i u)
 | _,_,_,.nil=>.nil
 | _,_,0,.cons _ t=>.cons r t
 | _,_,i+1,.cons q t=>.cons q (Vals.set r i t)
theorem Vals.append:∀{xs ys:List V}{us ws:%[|7]},Vals xs us->Vals ys ws->Vals (xs++ys) (us++ws)
 | _,_,_,_,.nil,s=>s
 | _,_,_,_,.cons r t,s=>.cons r (Vals.append t s)
theorem Vals.take:∀{xs:List V}{us:%[|7]}(n:Nat),Vals xs us->Vals (xs.take n) (us.take n)
 | _,_,0,_=>.nil
 | _,_,_+1,.nil=>.nil
 | _,_,n+1,.cons r t=>.cons r (Vals.take n t)
theorem Vals.drop:∀{xs:List V}{us:%[|7]}(n:Nat),Vals xs us->Vals (xs.drop n) (us.drop n)
 | _,_,0,r=>r
 | _,_,_+1,.nil=>.nil
 | _,_,n+1,.cons _ t=>Vals.drop n t
def A1G:Option V->%[|4]->Prop
 | some v,some u=>RelV v u
 | none,none=>True
 | _,_=>False
def KV{κ:Type}:List (κ×V)->List (κ×Value)->Prop:=Paired fun(p:κ×V)(q:κ×Value)=>p.1=q.1/\RelV p.2 q.2
def kV:DX->V
 | .inl i=>.int i
 | .inr x=>.str x
inductive HO where
 | lst (xs:List V)
 | tup (xs:List V)
 | dK (bQ:List (DX×V)) | dT (bQ:List (List DX×V))
 | set (S:Int->Bool) (n:Nat)
 | ins (C dx:Addr) (fs:List (Str×V))
 | own (x:Addr)
 | xd (fs:List (Str×V))
 | met (f x:Addr)
 | rng (lo hi:Int)
 | frz (o:Obj) (u:HO)
 | tbl (ps:Array Value)
 | ext (φ:Heap->Prop)
abbrev Hp:=Addr->Option HO
def upd(H:Hp)(a:Addr)(o:HO):Hp:=fun b=>if b=a then some o else H b
theorem A0A:upd H a o a=some o:=by unfold upd;rw[if_pos rfl]
theorem Af(h:b≠a):upd H a o b=H b:=by unfold upd;rw[if_neg h]
theorem AT{H:Hp}{a b:Addr}{o u:HO}(h:H a=some o)(h':H b=some u)(d:o≠u):a≠b:=by
 intro e;subst e;rw[h] at h';exact d (zAK h')
theorem Ah{H:Hp}{a b:Addr}{o:HO}(h:H a=some o)(h':H b=none):a≠b:=by
 intro e;subst e;rw[h] at h';cases h'
section
variable (P:Program)(w:World)
def A0O(H:Hp)(h:Heap)(a:Addr):HO->Prop
 | .lst xs=>xs.length<=sizeLine/\∃(its:%[|7])(n:Nat),Vals xs its/\h.get? a=some { cls:=.type "list",data:=.seq its.toArray n }
 | .tup xs=>xs.length<=sizeLine/\∃its:%[|7],Vals xs its/\IsTup h a its.toArray
 | .dK bQ=>bQ.length<=sizeLine/\(a == sysModules)=false/\∃vs,KV bQ vs/\h.DictOf (CI P w) a vs
 | .dT bQ=>bQ.length<=sizeLine/\(a == sysModules)=false/\∃xs:List (List DX×Addr×Value),
   Paired (fun(p:List DX×V)(q:List DX×Addr×Value)=>p.1=q.1/\H q.2.1=some (.tup (p.1.map kV))/\RelV p.2 q.2.2) bQ xs/\
   ∃o es ep,h.get? a=some o/\o.ExactDict/\o.data= .dict es ep/\es.toList=xs.map (entryOfKey (tupleKind (CI P w)))/\(xs.map (·.1)).Nodup
 | .set S n=>h.SetOf (intKind P w) a S n
 | .ins C dx fs=>H dx=some (.own a)/\fs.length<=1000/\dx≠a/\h.get? a=some (PySem.W.instObj C dx)/\
   ∃mA,h.Ns1 dx mA/\(∀f,A1G (fs.lookup f) (mA f))/\PySem.Within mA (fs.map (·.1))
 | .own _=>∃o,h.get? a=some o
 | .xd fs=>∃mA,h.Ns1 a mA/\∀f,A1G (fs.lookup f) (mA f)
 | .rng lo hi=>∃t u v,h.get? a=some { cls:=.type "range",data:=.fields #[.int lo t,.int hi u,.int 1 v] }
 | .frz o u=>h.get? a=some o/\A0O H h a u
 | .tbl ps=>h.get? a=some { cls:=.none,data:=.fields ps }
 | .met f x=>h.get? a=some (PySem.W.methodObj (.ref f) (.ref x))
 | .ext φ=>φ h/\(∃o,h.get? a=some o)/\∀h1 h2:Heap,φ h1->(∀o,h1.get? a=some o->h2.get? a=some o)->φ h2
def HOk(H:Hp)(h:Heap):Prop:=∀a o,H a=some o->A0O P w H h a o
end
section
variable {P:Program}{w:World}{H H':Hp}{h h':Heap}{a:Addr}{o:HO}
theorem A0O.lt(x:A0O P w H h a o):a<h.objs.size:=by
 cases o with
 | lst xs=>obtain⟨_,_,_,_,e⟩:=x;exact zAE e
 | tup xs=>obtain⟨_,_,_,p⟩:=x;exact p.lt
 | dK bQ=>obtain⟨_,_,_,_,o,_,_,e,_⟩:=x;exact zAE e
 | dT bQ=>obtain⟨_,_,_,_,o,_,_,e,_⟩:=x;exact zAE e
 | set S n=>obtain⟨o,_,_,_,e,_⟩:=x;exact zAE e
 | ins C dx fs=>obtain⟨_,_,_,e,_⟩:=x;exact zAE e
 | own y=>obtain⟨_,e⟩:=x;exact zAE e
 | xd fs=>obtain⟨_,⟨_,_,_,e,_⟩,_⟩:=x;exact zAE e
 | rng lo hi=>obtain⟨_,_,_,e⟩:=x;exact zAE e
 | frz ob u=>obtain⟨e,_⟩:=x;exact zAE e
 | tbl ps=>exact zAE (show h.get? a=some _ from x)
 | met f y=>exact zAE (show h.get? a=some _ from x)
 | ext φ=>obtain⟨_,⟨_,e⟩,_⟩:=x;exact zAE e
theorem Paired.mapP{α β:Type}{F G:α->β->Prop}:∀{l₁:List α}{l₂:List β},Paired F l₁ l₂->(∀a b,F a b->G a b)->Paired G l₁ l₂
 | _,_,.nil,_=>.nil
 | _,_,.cons r t,f=>.cons (f _ _ r) (Paired.mapP t f)
theorem A0O.stay(x:A0O P w H h a o)(k:∀b u,(b=a\/H b=some (.own a))->h.get? b=some u->h'.get? b=some u)(ho:∀b,H b=some (.own a)->H' b=some (.own a))(ht:∀b xs,H b=some (.tup xs)->H' b=some (.tup xs)):A0O P w H' h' a o:=by
 induction o with
 | lst xs=>obtain⟨z,its,n,r,e⟩:=x;exact⟨z,its,n,r,k _ _ (.inl rfl) e⟩
 | tup xs=>obtain⟨z,its,r,ob,e,c⟩:=x;exact⟨z,its,r,ob,k _ _ (.inl rfl) e,c⟩
 | dK bQ=>obtain⟨z,y,vs,r,ob,es,ep,e,c⟩:=x;exact⟨z,y,vs,r,ob,es,ep,k _ _ (.inl rfl) e,c⟩
 | dT bQ=>
  obtain⟨z,y,xs,r,ob,es,ep,e,c⟩:=x;exact⟨z,y,xs,Paired.mapP r fun p q z=>⟨z.1,ht _ _ z.2.1,z.2.2⟩,ob,es,ep,k _ _ (.inl rfl) e,c⟩
 | set S n=>obtain⟨ob,es,ep,t,e,c⟩:=x;exact⟨ob,es,ep,t,k _ _ (.inl rfl) e,c⟩
 | ins C dx fs=>
  obtain⟨d,z,ne,e,mA,⟨od,es,ep,e2,c⟩,r⟩:=x;exact⟨ho _ d,z,ne,k _ _ (.inl rfl) e,mA,⟨od,es,ep,k _ _ (.inr d) e2,c⟩,r⟩
 | own y=>obtain⟨ob,e⟩:=x;exact⟨ob,k _ _ (.inl rfl) e⟩
 | xd fs=>obtain⟨mA,⟨od,es,ep,e,c⟩,r⟩:=x;exact⟨mA,⟨od,es,ep,k _ _ (.inl rfl) e,c⟩,r⟩
 | rng lo hi=>obtain⟨t,u,v,e⟩:=x;exact⟨t,u,v,k _ _ (.inl rfl) e⟩
 | frz ob u ih=>obtain⟨e,q⟩:=x;exact⟨k _ _ (.inl rfl) e,ih q⟩
 | tbl ps=>
  have e:h.get? a=some { cls:=.none,data:=.fields ps }:=x;show h'.get? a=some { cls:=.none,data:=.fields ps };exact k a _ (.inl rfl) e
 | met f y=>
  have e:h.get? a=some (PySem.W.methodObj (.ref f) (.ref y)):=x;show h'.get? a=some (PySem.W.methodObj (.ref f) (.ref y));exact k a _ (.inl rfl) e
 | ext φ=>obtain⟨p,⟨o,e⟩,st⟩:=x;exact⟨st _ _ p fun o q=>k _ _ (.inl rfl) q,⟨o,k _ _ (.inl rfl) e⟩,st⟩
theorem HOk.lt(x:HOk P w H h)(e:H a=some o):a<h.objs.size:=(x a o e).lt
theorem HOk.fresh(x:HOk P w H h)(e:h.objs.size<=a):H a=none:=by
 cases q:H a with
 | none=>rfl
 | some u=>exact absurd (zAM (x.lt q) e) (zBM _)
theorem HOk.kept(x:HOk P w H h)(k:∀b u,h.get? b=some u->h'.get? b=some u):HOk P w H h':=fun a o e=>
 (x a o e).stay (fun b u _ q=>k b u q) (fun _ q=>q) fun _ _ q=>q
theorem HOk.laid(x:HOk P w H h)(k:∀b u,h.get? b=some u->h'.get? b=some u)(hp:h.objs.size<=a)(new:A0O P w (upd H a o) h' a o):HOk P w (upd H a o) h':=fun b u e=>by
 have hn:=x.fresh hp;by_cases hb:b=a
 ·subst hb;rw[A0A] at e;cases e;exact new
 ·rw[Af hb] at e;exact (x b u e).stay (fun c v _ q=>k c v q) (fun c q=>by rw[Af (Ah q hn)];exact q) fun c xs q=>by rw[Af (Ah q hn)];exact q
end
def Rd(H:Hp)(a:Addr)(u:HO):Prop:=H a=some u\/∃o,H a=some (.frz o u)
theorem Rd.ok(r:Rd H a u)(x:HOk P w H h):A0O P w H h a u:=by
 rcases r with r | ⟨o,r⟩
 ·exact x a u r
 ·obtain⟨_,q⟩:=x a _ r;exact q
def YQ:Option HO->Prop
 | some (.lst _)=>True
 | some (.dK _)=>True
 | some (.dT _)=>True
 | some (.set _ _)=>True
 | some (.ins _ _ _)=>True
 | some (.ext _)=>True
 | _=>False
section
variable {P:Program}{w:World}{H:Hp}{h h':Heap}{x e:Addr}{o':HO}
theorem HOk.write(ok:HOk P w H h)(mu:YQ (H x))(he:e=x\/H e=some (.own x))(k:∀b u,b≠e->h.get? b=some u->h'.get? b=some u)(heo:∃u,h'.get? e=some u)(new:A0O P w (upd H x o') h' x o'):HOk P w (upd H x o') h':=fun b u q=>by
 have nown:∀c y,H c=some (.own y)->c≠x:=fun c y r z=>by subst z;rw[r] at mu;exact mu
 have ntup:∀c xs,H c=some (.tup xs)->c≠x:=fun c xs r z=>by subst z;rw[r] at mu;exact mu
 by_cases hb:b=x
 ·subst hb;rw[A0A] at q;cases q;exact new
 ·rw[Af hb] at q;by_cases hbe:b=e
  ·have q':H b=some (.own x):=by
    rcases he with z | z
    ·exact absurd (hbe.trans z) hb
    ·rw[hbe];exact z
   rw[q] at q';cases q';obtain⟨v,hv⟩:=heo;exact⟨v,by rw[hbe];exact hv⟩
  ·refine (ok b u q).stay (fun c v hc r=>k c v ?_ r) (fun c r=>by rw[Af (nown c b r)];exact r) fun c xs r=>by rw[Af (ntup c xs r)];exact r
   rcases hc with rfl | hc
   ·exact hbe
   ·rintro rfl;rcases he with z | z
    ·exact nown c b hc z
    ·rw[hc] at z;cases z;exact hb rfl
end
structure Un(fs ex:%[|6])(H H':Hp)(h h':Heap):Prop where
 keep:∀b o,h.get? b=some o->H b=none->b∉fs->b∉ex->h'.get? b=some o
 slot:∀b o,h.get? b=some o->H b=none->b∈fs->b∉ex->∃sl,h'.get? b=some { o with slots:=sl }
 free:∀b o,h.get? b=some o->H b=none->b∉ex->H' b=none
 there:∀b o,h.get? b=some o->b∉ex->∃o',h'.get? b=some o'
 tups:∀b xs,H b=some (.tup xs)->H' b=some (.tup xs)
 frzs:∀b o u,H b=some (.frz o u)->H' b=some (.frz o u)
 tbls:∀b ps,H b=some (.tbl ps)->∃more,H' b=some (.tbl (ps++more))
section
variable {fs fs' ex ex':%[|6]}{H H1 H2:Hp}{h h1 h2 h':Heap}{a x e:Addr}{o:HO}
theorem Un.any(u:Un fs ex H H1 h h1)(q:h.get? b=some ob)(n:H b=none)(hx:b∉ex):∃sl,h1.get? b=some { ob with slots:=sl }:=by
 by_cases hb:b∈fs
 ·exact u.slot b ob q n hb hx
 ·exact⟨ob.slots,u.keep b ob q n hb hx⟩
theorem Un.kept(k:∀b u,h.get? b=some u->h'.get? b=some u):Un fs ex H H h h':=
 ⟨fun b ob q _ _ _=>k b ob q,fun b ob q _ _ _=>⟨ob.slots,k b ob q⟩,fun _ _ _ n _=>n,fun b ob q _=>⟨ob,k b ob q⟩,fun _ _ q=>q,fun _ _ _ q=>q,fun _ ps q=>⟨#[],by rw[q];simp⟩⟩
theorem Un.refl:Un fs ex H H h h:=Un.kept fun _ _ q=>q
theorem Un.laid(k:∀b u,h.get? b=some u->h'.get? b=some u)(hp:h.objs.size<=a)(hn:H a=none):Un fs ex H (upd H a o) h h' where
 keep:=fun b u q _ _ _=>k b u q
 slot:=fun b u q _ _ _=>⟨u.slots,k b u q⟩
 free:=fun b u q n _=>by rw[Af (zAI (zAM (zAE q) hp))];exact n
 there:=fun b u q _=>⟨u,k b u q⟩
 tups:=fun b xs q=>by rw[Af (Ah q hn)];exact q
 frzs:=fun b u xs q=>by rw[Af (Ah q hn)];exact q
 tbls:=fun b ps q=>⟨#[],by rw[Af (Ah q hn),q];simp⟩
theorem Un.write(mu:YQ (H x))(he:e=x\/H e=some (.own x))(k:∀b u,b≠e->h.get? b=some u->h'.get? b=some u)(heo:∃u,h'.get? e=some u):Un fs ex H (upd H x o) h h':=by
 have hx:∀b,H b=none->b≠x:=fun b n z=>by subst z;rw[n] at mu;exact mu
 have hb:∀b,H b=none->b≠e:=fun b n z=>by
  subst z;rcases he with r | r
  ·exact hx b n r
  ·rw[n] at r;cases r
 have hm:∀b u,H b=some u->¬YQ (some u)->b≠x:=fun b u q nm z=>by subst z;rw[q] at mu;exact nm mu
 refine⟨fun b u q n _ _=>k b u (hb b n) q,fun b u q n _ _=>⟨u.slots,k b u (hb b n) q⟩,fun b u q n _=>by rw[Af (hx b n)];exact n,fun b u q _=>?_,
  fun b xs q=>by rw[Af (hm b _ q fun z=>z)];exact q,fun b u xs q=>by rw[Af (hm b _ q fun z=>z)];exact q,fun b ps q=>⟨#[],by rw[Af (hm b _ q fun z=>z),q];simp⟩⟩
 by_cases hbe:b=e
 ·subst hbe;exact heo
 ·exact⟨u,k b u hbe q⟩
theorem Un.mono(u:Un fs ex H H1 h h1)(hs:∀b∈fs,b∈fs')(hx:∀b∈ex,b∈ex'):Un fs' ex' H H1 h h1:=
 ⟨fun b ob q n hb he=>u.keep b ob q n (fun z=>hb (hs b z)) fun z=>he (hx b z),fun _ _ q n _ he=>u.any q n fun z=>he (hx _ z),fun b ob q n he=>u.free b ob q n fun z=>he (hx b z),fun b ob q he=>u.there b ob q fun z=>he (hx b z),u.tups,u.frzs,u.tbls⟩
end
def ZR(h:Heap)(H:Hp):List Addr:=(List.range h.objs.size).filter fun a=>(H a).isSome
def K7(h:Heap)(H:Hp):Heap:=PySem.W.hideAll h (ZR h H)
theorem PJ(h:Heap)(H:Hp):(K7 h H).objs.size=h.objs.size:=PySem.W.hideAll_size _ _
theorem R0(e:h.get? b=some o)(n:H b=none):(K7 h H).get? b=some o:=
 PySem.W.hideAll_get _ e fun hm=>by
  have q:(H b).isSome=true:=(List.mem_filter.mp hm).2;rw[n] at q;simp at q
theorem Vx(e:(K7 h H).get? b=some o):h.get? b=some o/\H b=none:=by
 have e':h.get? b=some o:=PySem.W.of_hideAll (ZR h H) e;refine⟨e',?_⟩
 cases q:H b with
 | none=>rfl
 | some x=>
  have hm:b∈ZR h H:=List.mem_filter.mpr ⟨List.mem_range.mpr (zAE e'),by simp[q]⟩;have z:(K7 h H).get? b=none:=PySem.W.hideAll_none (ZR h H) hm;rw[z] at e;cases e
structure Mod(K:PySem.W.Frag)(mg:Str->%[|4])(base:Heap):Prop where
 kin:K.In base
 glob:base.Ns mainGlobals mg
 blt:∃mb,base.Ns builtinsNs mb/\∀x:Str,x≠"__name__"->mb x=bootBuiltins x
 nolimit:base.NoLimit
structure Cx where
 prog:Program
 w:World
 K:PySem.W.Frag
 mg:Str->%[|4]
 base:Heap
 A:Around
 N:List Str
 s₀:Shared
 H₀:Hp
 env:Env
 outer:List Env
 stack:List Env
 ex:%[|6]
 fn:Str->Bool
 calm:Bool
 pn:%[|14]
 xe:Value->Shared->Prop
def Hv(l:List Env):List Addr:=l.filterMap (·.frame)
abbrev Cx.fs(X:Cx):List Addr:=Hv X.outer
def af(sc:Scope)(x:Str):Prop:=sc.names.lookup x=some .local\/sc.names.lookup x=some .cell\/sc.names.lookup x=some .free
def Tv(sc:Scope)(x:Str):Prop:=sc.names.lookup x=some .local\/sc.names.lookup x=some .cell
def av(env:Env)(h:Heap)(m:Str->%[|4])(x:Str)(u:Value):Prop:=
 (env.kindOf x=some .local/\m x=some u)\/((env.kindOf x=some .cell\/env.kindOf x=some .free)/\∃c,env.cells.lookup x=some c/\h.IsCell c (some u))
structure Cx.Ok(X:Cx):Prop where
 mod:Mod X.K X.mg X.base
 kind:X.env.scope.kind= .function
 glob:X.env.globals=mainGlobals
 blt:X.env.builtins=builtinsNs
 above:X.s₀.heap.objs.size<=X.env.locals
 inj:∀x y c,X.env.cells.lookup x=some c->X.env.cells.lookup y=some c->x=y
 has:∀x,(X.env.kindOf x=some .cell\/X.env.kindOf x=some .free)->∃c,X.env.cells.lookup x=some c
 cab:∀x c,X.fn x=true->X.env.cells.lookup x=some c->X.s₀.heap.objs.size<=c
 hd:X.calm=true->X.A.handled=none
 frames:X.A.frames=some X.stack
 stk:X.stack=X.outer\/(X.stack=X.env::X.outer/\X.env.frame=some X.env.locals)
 exf:∀b∈X.ex,b≠X.env.locals/\∀x c,X.env.cells.lookup x=some c->c≠b
 bs:∀b o,X.base.get? b=some o->X.s₀.heap.get? b=some o/\X.H₀ b=none
 bsz:X.base.objs.size<=X.s₀.heap.objs.size
 noex:∀b o,X.base.get? b=some o->b∉X.ex
 exfs:∀b∈X.ex,b∉X.fs
 funs:X.s₀.heap.FunFrames X.base X.outer
 frf:∀b∈X.fs,X.H₀ b=none
structure Inv(X:Cx)(pins:%[|14])(σ:List (Option V))(H:Hp)(s:Shared):Prop where
 ok:X.Ok
 os:s.os=X.s₀.os
 bare:AllBare s.gens
 base:Un X.fs X.ex X.H₀ H X.s₀.heap s.heap
 loc:∃m,s.heap.Ns X.env.locals m/\∀(i:Nat)(x:Str)(v:V),X.N[i]? = some x->σ[i]? = some (some v)->af X.env.scope x->∃u,RelV v u/\av X.env s.heap m x u
 cell:∀x c,X.env.cells.lookup x=some c->∃v,s.heap.IsCell c v
 free:H X.env.locals=none
 freeC:∀x c,X.env.cells.lookup x=some c->H c=none
 pin:∀p∈X.pn++pins,s.heap.get? p.1=some p.2/\H p.1=none/\p.1≠X.env.locals/\p.1∉X.fs/\∀v,p.2.data≠.cell v
 hok:HOk X.prog X.w H s.heap
 len:σ.length=X.N.length
section
variable {X:Cx}{pins:%[|14]}{σ:List (Option V)}{H H':Hp}{s:Shared}{h':Heap}
theorem Cx.Ok.nofr(ok:X.Ok)(e:X.base.get? b=some o):b∉X.fs:=fun hb=>by
 have:=(ok.funs.mem hb).1;rw[e] at this;cases this
theorem Inv.bs(I:%[|5]):∀b o,X.base.get? b=some o->s.heap.get? b=some o/\H b=none:=fun b o e=>
 ⟨I.base.keep b o (I.ok.bs b o e).1 (I.ok.bs b o e).2 (I.ok.nofr e) (I.ok.noex b o e),I.base.free b o (I.ok.bs b o e).1 (I.ok.bs b o e).2 (I.ok.noex b o e)⟩
theorem Inv.bk(I:%[|5]):∀b o,X.base.get? b=some o->s.heap.get? b=some o:=fun b o e=>(I.bs b o e).1
theorem Inv.mod(I:%[|5]):Mod X.K X.mg X.base:=I.ok.mod
theorem Inv.kIn(I:%[|5]):X.K.In s.heap:=I.ok.mod.kin.keeps I.bk
theorem Inv.lt(I:%[|5]):X.env.locals<s.heap.objs.size:=let ⟨_,hn,_⟩:=I.loc;hn.lt
theorem Inv.sz(I:%[|5]):X.s₀.heap.objs.size<=s.heap.objs.size:=zAD I.ok.above (zA7 I.lt)
theorem Inv.nofs(I:%[|5])(h:s.heap.objs.size<=a):a∉X.fs:=fun hb=>by
 obtain⟨_,o,ho,_⟩:=I.ok.funs.mem hb;exact absurd (zAM (zAE ho) (zAD I.sz h)) (zBM _)
theorem Inv.cne(I:%[|5]):∀x c,X.env.cells.lookup x=some c->c≠X.env.locals:=fun x c e z=>by
 obtain⟨v,o,ho,hd⟩:=I.cell x c e;obtain⟨m,⟨o',es,ep,fe,hd',_⟩,_⟩:=I.loc;rw[z,fe] at ho;cases ho;rw[hd'] at hd;cases hd
theorem Inv.funs(I:%[|5]):s.heap.FunFrames X.base X.outer:=by
 have all:∀(l:List Env),(∀b∈Hv l,b∈X.fs)->X.s₀.heap.FunFrames X.base l->s.heap.FunFrames X.base l:=by
  intro l
  induction l with
  | nil=>intro _ _;trivial
  | cons env r ih=>
   intro hs hl;obtain⟨hk,⟨L,o,hf,hn,ho,hd⟩,hr⟩:=hl;have hL:L∈X.fs:=hs L (by unfold Hv;rw[List.filterMap_cons,hf];exact List.mem_cons_self);obtain⟨sl,e⟩:=I.base.slot L o ho (I.ok.frf L hL) hL fun z=>I.ok.exfs L z hL
   exact⟨hk,⟨L,_,hf,hn,e,hd⟩,ih (fun b hb=>hs b (by unfold Hv;rw[List.filterMap_cons,hf];exact List.mem_cons_of_mem _ hb)) hr⟩
 exact all X.outer (fun _ hb=>hb) I.ok.funs
theorem Inv.stack(I:%[|5]):s.heap.FunFrames X.base X.stack:=by
 rcases I.ok.stk with e | ⟨e,hf⟩
 ·rw[e];exact I.funs
 ·rw[e];obtain⟨m,hn,_⟩:=I.loc;refine .cons (by rw[I.ok.kind];decide) hf hn ?_ I.funs;exact Heap.get?_none_of_le (zAD I.ok.bsz I.ok.above)
theorem Inv.stkSub(I:%[|5]):∀b∈Hv X.stack,b∈X.env.locals::X.fs:=fun b hb=>by
 rcases I.ok.stk with e | ⟨e,hf⟩
 ·rw[e] at hb;exact List.mem_cons_of_mem _ hb
 ·rw[e] at hb;unfold Hv at hb;rw[List.filterMap_cons,hf] at hb;exact hb
theorem Inv.stkFree(I:%[|5]):∀b∈Hv X.stack,H b=none:=fun b hb=>by
 rcases List.mem_cons.mp (I.stkSub b hb) with e | hb
 ·rw[e];exact I.free
 ·obtain⟨_,o,ho,_⟩:=I.ok.funs.mem hb;exact I.base.free b o ho (I.ok.frf b hb) fun z=>I.ok.exfs b z hb
theorem Inv.step{t':Nat}{ch:%[|6]}(I:%[|5])(gf:∀b∈ch,(b∈X.ex\/X.s₀.heap.objs.size<=b)/\b≠X.env.locals/\(∀x c,X.env.cells.lookup x=some c->c≠b)/\∀p∈X.pn++pins,p.1≠b)(keep:∀b o,b≠X.env.locals->b∉X.fs->b∉ch->s.heap.get? b=some o->H b=none->h'.get? b=some o)(slot:∀b o,b≠X.env.locals->b∈X.fs->b∉ch->s.heap.get? b=some o->H b=none->∃sl,h'.get? b=some { o with slots:=sl })(free:∀b o,b∉ch->s.heap.get? b=some o->H b=none->H' b=none)(there:∀b o,b∉ch->s.heap.get? b=some o->∃o',h'.get? b=some o')(tups:∀b xs,H b=some (.tup xs)->H' b=some (.tup xs))(frzs:∀b o u,H b=some (.frz o u)->H' b=some (.frz o u))(tbls:∀b ps,H b=some (.tbl ps)->∃more,H' b=some (.tbl (ps++more)))(ns:∀m,s.heap.Ns X.env.locals m->h'.Ns X.env.locals m)(hok:HOk X.prog X.w H' h')(hg:AllBare g'):
  Inv X pins σ H' { s with heap:=h',gens:=g',drawn:=d',toks:=t' }:=by
 have neL:∀b o,X.s₀.heap.get? b=some o->b≠X.env.locals:=fun b o e=>zAI (zAM (zAE e) I.ok.above)
 have neC:∀b o,X.s₀.heap.get? b=some o->b∉X.ex->b∉ch:=fun b o e hx hb=>by
  rcases (gf b hb).1 with z | z
  ·exact hx z
  ·exact absurd (zAM (zAE e) z) (zBM _)
 have iL:∀x c,X.env.cells.lookup x=some c->∀v,s.heap.IsCell c v->h'.IsCell c v:=fun x c e v ⟨o,ho,hd⟩=>by
  have nch:c∉ch:=fun z=>(gf c z).2.2.1 x c e rfl
  by_cases hc:c∈X.fs
  ·obtain⟨sl,q⟩:=slot c o (I.cne x c e) hc nch ho (I.freeC x c e);exact⟨_,q,hd⟩
  ·exact⟨o,keep c o (I.cne x c e) hc nch ho (I.freeC x c e),hd⟩
 refine⟨I.ok,I.os,hg,⟨fun b o e n hb hx=>?_,fun b o e n hb hx=>?_,fun b o e n hx=>?_,fun b o e hx=>?_,fun b xs e=>tups b xs (I.base.tups b xs e),fun b o xs e=>frzs b o xs (I.base.frzs b o xs e),fun b ps e=>?_⟩,?_,fun x c e=>?_,?_,fun x c e=>?_,fun p hp=>?_,hok,I.len⟩
 ·exact keep b o (neL b o e) hb (neC b o e hx) (I.base.keep b o e n hb hx) (I.base.free b o e n hx)
 ·obtain⟨sl,e1⟩:=I.base.slot b o e n hb hx;obtain⟨sl',e2⟩:=slot b _ (neL b o e) hb (neC b o e hx) e1 (I.base.free b o e n hx);exact⟨sl',e2⟩
 ·obtain⟨o',e1⟩:=I.base.there b o e hx;exact free b o' (neC b o e hx) e1 (I.base.free b o e n hx)
 ·obtain⟨o',e1⟩:=I.base.there b o e hx;exact there b o' (neC b o e hx) e1
 ·obtain⟨m1,e1⟩:=I.base.tbls b ps e;obtain⟨m2,e2⟩:=tbls b _ e1;exact⟨m1++m2,by rw[e2,Array.append_assoc]⟩
 ·obtain⟨m,hn,hl⟩:=I.loc;refine⟨m,ns m hn,fun i x v e1 e2 e3=>?_⟩;obtain⟨u,r,l⟩:=hl i x v e1 e2 e3;refine⟨u,r,?_⟩;rcases l with l | ⟨k,c,e,z⟩
  ·exact .inl l
  ·exact .inr ⟨k,c,e,iL x c e _ z⟩
 ·obtain⟨v,z⟩:=I.cell x c e;exact⟨v,iL x c e v z⟩
 ·obtain⟨m,⟨o,_,_,ho,_⟩,_⟩:=I.loc;exact free _ o (fun z=>(gf _ z).2.1 rfl) ho I.free
 ·obtain⟨v,o,ho,hd⟩:=I.cell x c e;exact free c o (fun z=>(gf c z).2.2.1 x c e rfl) ho (I.freeC x c e)
 ·obtain⟨e,n,ne,nf,d⟩:=I.pin p hp;have nch:p.1∉ch:=fun z=>(gf p.1 z).2.2.2 p hp rfl
  exact⟨keep p.1 p.2 ne nf nch e n,free p.1 p.2 nch e n,ne,nf,d⟩
theorem Inv.un(I:%[|5])(u:Un X.fs [] H H' s.heap h')(hok:HOk X.prog X.w H' h'):%[|13] H' { s with heap:=h',toks:=t' }:=by
 obtain⟨m,⟨o,es,ep,ho,r⟩,_⟩:=id I.loc;obtain⟨sl,hL⟩:=u.any ho I.free %[|2]
 exact I.step (g':=s.gens) (d':=s.drawn) (ch:=[]) (fun _ z=>nomatch z) (fun b o _ hb _ e n=>u.keep b o e n hb %[|2]) (fun b o _ hb _ e n=>u.slot b o e n hb %[|2]) (fun b o _ e n=>u.free b o e n %[|2]) (fun b o _ e=>u.there b o e %[|2]) u.tups u.frzs u.tbls (fun m' hm=>by
  obtain⟨o',bE,ep',fe,r'⟩:=hm
  rw[ho] at fe;cases fe
  exact⟨_,bE,ep',hL,r'⟩) hok I.bare
theorem Inv.call(I:%[|5])(u:Un (Hv X.stack) ch H H' s.heap h')(hok:HOk X.prog X.w H' h')(hg:AllBare g')(gf:∀b∈ch,(b∈X.ex\/X.s₀.heap.objs.size<=b)/\b≠X.env.locals/\(∀x c,X.env.cells.lookup x=some c->c≠b)/\∀p∈X.pn++pins,p.1≠b):
  Inv X pins σ H' { s with heap:=h',gens:=g',drawn:=d',toks:=t' }:=by
 obtain⟨m,⟨o,es,ep,ho,r⟩,_⟩:=id I.loc;obtain⟨sl,hL⟩:=u.any ho I.free fun z=>(gf _ z).2.1 rfl
 exact I.step (ch:=ch) gf (fun b o hL hb hc e n=>u.keep b o e n (fun z=>(List.mem_cons.mp (I.stkSub b z)).elim hL hb) hc) (fun b o _ _ hc e n=>u.any e n hc) (fun b o hc e n=>u.free b o e n hc) (fun b o hc e=>u.there b o e hc) u.tups u.frzs u.tbls (fun m' hm=>by
  obtain⟨o',bE,ep',fe,r'⟩:=hm
  rw[ho] at fe;cases fe
  exact⟨_,bE,ep',hL,r'⟩) hok hg
theorem Inv.turned(I:%[|5])(k:∀b o,b≠it->s.heap.get? b=some o->h'.get? b=some o)(hn:H it=none)(hL:it≠X.env.locals)(h1:it∈X.ex\/X.s₀.heap.objs.size<=it)(h2:∀x c,X.env.cells.lookup x=some c->c≠it)(h3:∀p∈X.pn++pins,p.1≠it):%[|13] H { s with heap:=h',toks:=t' }:=by
 have nit:∀b u,H b=some u->b≠it:=fun b u e z=>by rw[z,hn] at e;cases e
 refine I.step (g':=s.gens) (d':=s.drawn) (ch:=[it]) (fun b hb=>?_) (fun b o _ _ hc e _=>k b o (fun z=>hc (by simp[z])) e) (fun b o _ _ hc e _=>⟨o.slots,k b o (fun z=>hc (by simp[z])) e⟩) (fun _ _ _ _ n=>n)
  (fun b o hc e=>⟨o,k b o (fun z=>hc (by simp[z])) e⟩) (fun _ _ e=>e) (fun _ _ _ e=>e) (fun b ps e=>⟨#[],by rw[e];simp⟩) (fun m hm=>?_) (fun b u e=>?_) I.bare
 ·have e:b=it:=by simpa using hb
  subst e;exact⟨h1,hL,h2,h3⟩
 ·obtain⟨o,es,ep,ho,r⟩:=hm;exact⟨o,es,ep,k _ o (zB hL) ho,r⟩
 ·refine (I.hok b u e).stay (fun c v hc q=>k c v ?_ q) (fun _ q=>q) fun _ _ q=>q
  rcases hc with z | z
  ·rw[z];exact nit b u e
  ·exact nit c _ z
theorem Inv.tok(I:%[|5])(t:Nat):%[|13] H { s with toks:=t }:=I.un (h':=s.heap) (t':=t) Un.refl I.hok
theorem Inv.kept(I:%[|5])(k:∀b u,s.heap.get? b=some u->h'.get? b=some u):%[|13] H { s with heap:=h',toks:=t' }:=I.un (Un.kept k) (I.hok.kept k)
theorem Inv.laid(I:%[|5])(k:∀b u,s.heap.get? b=some u->h'.get? b=some u)(hp:s.heap.objs.size<=a)(new:A0O X.prog X.w (upd H a o) h' a o):
  Inv X pins σ (upd H a o) { s with heap:=h',toks:=t' }:=I.un (Un.laid k hp (I.hok.fresh hp)) (I.hok.laid k hp new)
theorem Inv.write(I:%[|5])(mu:YQ (H x))(he:e=x\/H e=some (.own x))(k:∀b u,b≠e->s.heap.get? b=some u->h'.get? b=some u)(heo:∃u,h'.get? e=some u)(new:A0O X.prog X.w (upd H x o) h' x o):%[|13] (upd H x o) { s with heap:=h',toks:=t' }:=I.un (Un.write mu he k heo) (I.hok.write mu he k heo new)
theorem Inv.pins_of(I:%[|5])(h:∀p∈iM,s.heap.get? p.1=some p.2/\H p.1=none/\p.1≠X.env.locals/\p.1∉X.fs/\∀v,p.2.data≠.cell v):Inv X iM σ H s:=
 ⟨I.ok,I.os,I.bare,I.base,I.loc,I.cell,I.free,I.freeC,fun p hp=>(List.mem_append.mp hp).elim (fun z=>I.pin p (zBW _ z)) (h p),I.hok,I.len⟩
theorem Mg{N:List Str}(hN:N.Nodup){i j:Nat}{x:Str}(a:N[i]? = some x)(b:N[j]? = some x):i=j:=by
 obtain⟨h1,e1⟩:=List.getElem?_eq_some_iff.mp a;obtain⟨h2,e2⟩:=List.getElem?_eq_some_iff.mp b;exact (List.getElem_inj hN).mp (e1.trans e2.symm)
theorem FO(I:%[|5])(hN:X.N.Nodup)(hi:X.N[i]? = some x)(hx:Tv X.env.scope x)(r:RelV v u)(h:∀s',Inv X pins (σ.set i (some v)) H s'->(∃a,Heap.SameBut a s.heap s'.heap/\(a=X.env.locals\/X.env.cells.lookup x=some a))->Q () s')(hf:X.fn x=true\/X.env.scope.names.lookup x=some .local:=by first | exact .inl rfl | exact .inr rfl | assumption):wpAny M A (storeName X.env x u) Q E s:=by
 obtain⟨m,hn,hl⟩:=id I.loc;have hcls:(X.env.scope.kind == .class || (X.env.scope.kind == .module && X.env.locals != X.env.globals))=false:=by rw[I.ok.kind];rfl
 have hiσ:i<σ.length:=by rw[I.len];exact (List.getElem?_eq_some_iff.mp hi).1
 have cne:=I.cne
 have fL:∀{a:Addr}{h':Heap},(∃o,s.heap.get? a=some o/\H a=none)->Heap.SameBut a s.heap h'->HOk X.prog X.w H h':=fun {a h'} ha hs b ob e=>by
  obtain⟨_,_,cM⟩:=ha;refine (I.hok b ob e).stay (fun c w' hc q=>(hs.2 c ?_).trans q) (fun _ q=>q) fun _ _ q=>q
  rintro rfl;rcases hc with rfl | hc
  ·rw[cM] at e;cases e
  ·rw[cM] at hc;cases hc
 rcases hx with hk | hk
 ·refine wpAny_storeName_local hk hn (fun h' hn' hs=>?_) hcls;obtain⟨oL,_,_,hoL,_⟩:=id hn;refine h _ ⟨I.ok,I.os,I.bare,⟨fun b o e n hb hx=>?_,fun b o e n hb hx=>?_,I.base.free,fun b o e hx=>?_,I.base.tups,I.base.frzs,I.base.tbls⟩,⟨_,hn',fun j y v' e1 e2 e3=>?_⟩,fun y c e=>?_,I.free,I.freeC,fun p hp=>?_,fL ⟨oL,hoL,I.free⟩ hs,by simpa using I.len⟩ ⟨_,hs,.inl rfl⟩
  ·exact (hs.2 b (zAI (zAM (zAE e) I.ok.above))).trans (I.base.keep b o e n hb hx)
  ·obtain⟨sl,e1⟩:=I.base.slot b o e n hb hx;exact⟨sl,(hs.2 b (zAI (zAM (zAE e) I.ok.above))).trans e1⟩
  ·obtain⟨o',e1⟩:=I.base.there b o e hx;exact⟨o',(hs.2 b (zAI (zAM (zAE e) I.ok.above))).trans e1⟩
  ·by_cases hj:j=i
   ·subst hj;rw[hi] at e1;cases e1;rw[List.getElem?_set_self hiσ] at e2;cases e2;exact⟨u,r,.inl ⟨hk,by simp⟩⟩
   ·rw[List.getElem?_set_ne (zB hj)] at e2;obtain⟨u',r',q⟩:=hl j y v' e1 e2 e3;refine⟨u',r',?_⟩;rcases q with⟨k,e⟩|⟨k,c,e,z⟩
    ·refine .inl ⟨k,?_⟩;have:y≠x:=fun e=>hj (Mg hN e1 (e ▸ hi))
     simp[this,e]
    ·exact .inr ⟨k,c,e,z.sameBut hs (cne y c e)⟩
  ·obtain⟨w',z⟩:=I.cell y c e;exact⟨w',z.sameBut hs (cne y c e)⟩
  ·obtain⟨e,n,ne,nf,d⟩:=I.pin p hp;exact⟨(hs.2 p.1 ne).trans e,n,ne,nf,d⟩
 ·have hfn:X.fn x=true:=by
   rcases hf with z | z
   ·exact z
   ·rw[z] at hk;cases hk
  obtain⟨c,hc⟩:=I.ok.has x (.inl hk);obtain⟨w',z⟩:=I.cell x c hc;refine wpAny_storeName_cell I.ok.kind hk hc z (fun h' hc' hs=>?_);obtain⟨oc,hoc,hocd⟩:=id z;refine h { s with heap:=h' } ⟨I.ok,I.os,I.bare,⟨fun b o e n hb hx=>?_,fun b o e n hb hx=>?_,I.base.free,fun b o e hx=>?_,I.base.tups,I.base.frzs,I.base.tbls⟩,⟨m,hn.sameBut hs (zB (cne x c hc)),fun j y v' e1 e2 e3=>?_⟩,fun y c' e=>?_,I.free,I.freeC,fun p hp=>?_,fL ⟨oc,hoc,I.freeC x c hc⟩ hs,by simpa using I.len⟩ ⟨c,hs,.inr hc⟩
  ·exact (hs.2 b (zAI (zAM (zAE e) (I.ok.cab x c hfn hc)))).trans (I.base.keep b o e n hb hx)
  ·obtain⟨sl,e1⟩:=I.base.slot b o e n hb hx;exact⟨sl,(hs.2 b (zAI (zAM (zAE e) (I.ok.cab x c hfn hc)))).trans e1⟩
  ·obtain⟨o',e1⟩:=I.base.there b o e hx;exact⟨o',(hs.2 b (zAI (zAM (zAE e) (I.ok.cab x c hfn hc)))).trans e1⟩
  ·by_cases hj:j=i
   ·subst hj;rw[hi] at e1;cases e1;rw[List.getElem?_set_self hiσ] at e2;cases e2;exact⟨u,r,.inr ⟨.inl hk,c,hc,hc'⟩⟩
   ·rw[List.getElem?_set_ne (zB hj)] at e2;obtain⟨u',r',q⟩:=hl j y v' e1 e2 e3;refine⟨u',r',?_⟩;rcases q with q | ⟨k,c',e,z'⟩
    ·exact .inl q
    ·refine .inr ⟨k,c',e,z'.sameBut hs ?_⟩;rintro rfl;exact hj (Mg hN e1 (I.ok.inj _ _ _ e hc ▸ hi))
  ·by_cases hcc:c'=c
   ·subst hcc;exact⟨_,hc'⟩
   ·obtain⟨w2,z2⟩:=I.cell y c' e;exact⟨w2,z2.sameBut hs hcc⟩
  ·obtain⟨e,n,ne,nf,d⟩:=I.pin p hp;refine⟨(hs.2 p.1 ?_).trans e,n,ne,nf,d⟩;intro q;rw[q,hoc] at e;have q':oc=p.2:=zAK e;exact d w' (by rw[<-q'];exact hocd)
theorem IE(I:%[|5])(hN:X.N.Nodup)(hi:X.N[i]? = some x)(hx:Tv X.env.scope x)(r:RelV v u)(h:∀s',Inv X pins (σ.set i (some v)) H s'->Q () s')(hf:X.fn x=true\/X.env.scope.names.lookup x=some .local:=by first | exact .inl rfl | exact .inr rfl | assumption):wpAny M A (storeName X.env x u) Q E s:=
 FO I hN hi hx r (fun s' I' _=>h s' I') hf
theorem Inv.call'(I:%[|5])(ho:s'.os=s.os)(u:Un (Hv X.stack) ch H H' s.heap s'.heap)(hok:HOk X.prog X.w H' s'.heap)(hg:AllBare s'.gens)(gf:∀b∈ch,(b∈X.ex\/X.s₀.heap.objs.size<=b)/\b≠X.env.locals/\(∀x c,X.env.cells.lookup x=some c->c≠b)/\∀p∈X.pn++pins,p.1≠b):%[|13] H' s':=by
 obtain⟨h',g',d',t',o'⟩:=s';have e:o'=s.os:=ho;subst e;exact I.call (g':=g') (t':=t') (d':=d') u hok hg gf
end
abbrev XK:=Value->Option Addr->Hp->Prop
abbrev St:=List (Option V)
abbrev VK:=V->Hp->Prop
abbrev TE:=St->Hp->VK->Prop
abbrev TT:=St->Hp->(Bool->Hp->Prop)->Prop
abbrev TA:=St->Hp->(List V->Hp->Prop)->Prop
structure BH where
 nx:St->Hp->Prop
 rt:VK
 bk:St->Hp->Prop:=fun _ _=>False
 ct:St->Hp->Prop:=fun _ _=>False
abbrev TS:=BH->St->Hp->Prop
def EP(X:Cx)(pins:%[|14])(σ:St)(Q:VK)(u:Value)(s':Shared):Prop:=∃v H',%[|13] H' s'/\RelV v u/\Q v H'
def TP(X:Cx)(pins:%[|14])(σ:St)(Q:Bool->Hp->Prop)(b:Bool)(s':Shared):Prop:=∃H',%[|13] H' s'/\Q b H'
def AP(X:Cx)(pins:%[|14])(σ:St)(Q:List V->Hp->Prop)(us:%[|7])(s':Shared):Prop:=∃vs H',%[|13] H' s'/\Vals vs us/\Q vs H'
def SP(X:Cx)(pins:%[|14])(D:BH)(f:Flow)(s':Shared):Prop:=
 match f with
 | .next=>∃σ' H',Inv X pins σ' H' s'/\D.nx σ' H'
 | .brk=>∃σ' H',Inv X pins σ' H' s'/\D.bk σ' H'
 | .cont=>∃σ' H',Inv X pins σ' H' s'/\D.ct σ' H'
 | .ret u=>∃v σ' H',Inv X pins σ' H' s'/\RelV v u/\D.rt v H'
def PE(X:Cx)(e:Expr)(t:TE):Prop:=
 ∀pins s(σ:St)H Q,%[|5]->t σ H Q->%[|19] (eval e X.env) (%[|36]) X.xe s
def PT(X:Cx)(e:Expr)(t:TT):Prop:=
 ∀pins s(σ:St)H(Q:Bool->Hp->Prop),%[|5]->t σ H Q->%[|19] (isTrue e X.env (eval e X.env)) (TP X pins σ Q) X.xe s
def PW(X:Cx)(e:Expr)(t:TT):Prop:=
 ∀(db:Sem Value)pins s(σ:St)H(Q:Bool->Hp->Prop),%[|5]->t σ H Q->%[|19] (isTrue e X.env db) (TP X pins σ Q) X.xe s
theorem PW.pt(h:PW X e t):PT X e t:=h _
def PA(X:Cx)(es:%[|20])(t:TA):Prop:=
 ∀(pos:Pos)pins s(σ:St)H(Q:List V->Hp->Prop),%[|5]->t σ H Q->%[|19] (spliced %[|60]) (AP X pins σ Q) X.xe s
def PS(X:Cx)(st:Stmt)(t:TS):Prop:=
 ∀pins s(σ:St)H(D:BH),%[|5]->t D σ H->%[|19] (exec st X.env) (SP X pins D) X.xe s
def PSs(X:Cx)(st:List Stmt)(t:TS):Prop:=
 ∀pins s(σ:St)H(D:BH),%[|5]->t D σ H->%[|19] (execs st X.env) (SP X pins D) X.xe s
theorem AU{α:Type}{t:Sem α}{Q Q':α->Shared->Prop}(h:wpAny M A t Q E s)(hQ:∀a s,Q a s->Q' a s):wpAny M A t Q' E s:=wpAny_mono h hQ fun _ _ x=>x
section
variable {X:Cx}
def vB(k:Bool->Prop)(v:V):Prop:=V.rec (motive:=fun _=>Prop) False k %[|32] %[|32] %[|32] %[|32] %[|32] %[|32] v
def vI(k:Int->Prop)(v:V):Prop:=V.rec (motive:=fun _=>Prop) False %[|32] k %[|32] %[|32] %[|32] %[|32] %[|32] v
def vS(k:Str->Prop)(v:V):Prop:=V.rec (motive:=fun _=>Prop) False %[|32] %[|32] k %[|32] %[|32] %[|32] %[|32] v
def vR(k:Addr->Prop)(v:V):Prop:=V.rec (motive:=fun _=>Prop) False %[|32] %[|32] %[|32] %[|32] %[|32] k %[|32] v
def oV(k:V->Prop)(o:Option (Option V)):Prop:=Option.rec (motive:=fun _=>Prop) False (fun o=>Option.rec (motive:=fun _=>Prop) False k o) o
def l0(k:Prop)(vs:List V):Prop:=List.rec (motive:=fun _=>Prop) k (fun _ _ _=>False) vs
def lC(k:V->List V->Prop)(vs:List V):Prop:=List.rec (motive:=fun _=>Prop) False (fun v r _=>k v r) vs
def l1(k:V->Prop)(vs:List V):Prop:=lC (fun v r=>l0 (k v) r) vs
theorem IM(h:vB k v):∃i,v= .bl i/\k i:=by cases v<;>first | exact⟨_,rfl,h⟩|exact False.elim h
theorem Fj(h:vI k v):∃i,v= .int i/\k i:=by cases v<;>first | exact⟨_,rfl,h⟩|exact False.elim h
theorem Ut(h:vS k v):∃i,v= .str i/\k i:=by cases v<;>first | exact⟨_,rfl,h⟩|exact False.elim h
theorem CU(h:vR k v):∃i,v= .ref i/\k i:=by cases v<;>first | exact⟨_,rfl,h⟩|exact False.elim h
theorem YV(h:oV k o):∃v,o=some (some v)/\k v:=by
 cases o with
 | none=>exact False.elim h
 | some o=>
  cases o with
  | none=>exact False.elim h
  | some v=>exact⟨v,rfl,h⟩
theorem WM(h:l0 k vs):vs=[]/\k:=by
 cases vs with
 | nil=>exact⟨rfl,h⟩
 | cons v r=>exact False.elim h
theorem Wy(h:lC k vs):∃v r,vs=v::r/\k v r:=by
 cases vs with
 | nil=>exact False.elim h
 | cons v r=>exact⟨v,r,rfl,h⟩
theorem OW(h:l1 k vs):∃v,vs=[v]/\k v:=by
 obtain⟨v,r,rfl,h1⟩:=Wy h;obtain⟨rfl,h2⟩:=WM h1;exact⟨v,rfl,h2⟩
inductive If(b:Bool)(A B:Prop):Prop where
 | tt (_:b=true) (_:A)
 | ff (_:b=false) (_:B)
theorem If.t{A B:Prop}:If true A B->A
 | .tt _ h=>h
theorem If.f{A B:Prop}:If false A B->B
 | .ff _ h=>h
def Vz(i:Nat):TE:=fun σ H Q=>oV (fun v=>Q v H) σ[i]?
def tC(v:V):TE:=fun _ H Q=>Q v H
theorem Ye(hN:X.N[i]? = some x)(hv:af X.env.scope x)(hd:%[|49]=false:=by decide)(eC:(x == ("__classdict__":Str))=false:=by decide):PE X (.Name x pos) (Vz i):=by
 exists 1;obtain⟨v,e,h⟩:=YV h;obtain⟨m,hn,hl⟩:=I.loc;obtain⟨u,r,l⟩:=hl i x v hN e hv;have bC:%[|36] u s:=⟨v,H,I,r,h⟩;rcases l with⟨hk,hm⟩|⟨hk,c,hc,bR⟩
 ·exact wpAny_Name (wpAny_loadName_local I.ok.kind hk hn hm bC) hd
 ·rcases hk with hk | hk
  ·exact wpAny_Name (wpAny_loadName_cell I.ok.kind hk hc bR bC) hd
  ·exact wpAny_Name (wpAny_loadName_free I.ok.kind hk hc bR bC eC) hd
theorem Ad {i j pos}:PE X (.Constant (.int i) j pos) (tC (.int i)):=fun _ _ _ H _ I h=>wpAny_Constant_int ⟨.int i,H,I.tok _,⟨_,rfl⟩,h⟩
theorem C7 {b j pos}:PE X (.Constant (.bool b) j pos) (tC (.bl b)):=fun _ _ _ H _ I h=>Constant_bool ⟨.bl b,H,I,rfl,h⟩
theorem Cc {j pos}:PE X (.Constant .none j pos) (tC .non):=fun _ _ _ H _ I h=>Constant_none ⟨.non,H,I,rfl,h⟩
theorem Ae {x j pos}:PE X (.Constant (.str x) j pos) (tC (.str x)):=fun _ _ _ H _ I h=>Calls.Constant_str ⟨.str x,H,I.tok _,⟨_,rfl⟩,h⟩
def Gl(X:Cx)(x:Str):Prop:=X.env.kindOf x=some .globalImplicit
theorem Et(I:%[|5])(hg:Gl X x)(hm:X.mg x=some u)(h:Q u s)(hd:%[|49]=false:=by decide):%[|19] (eval (.Name x pos) X.env) Q E s:=
 Calls.Name_function_global I.ok.kind hg (Calls.loadGlobal_global (by rw[I.ok.glob];exact I.mod.glob.keeps I.bk) hm h) hd
theorem EQ(I:%[|5])(hg:Gl X x)(hm:X.mg x=none)(hv:bootBuiltins x=some u)(h:Q u s)(hn:x≠"__name__":=by decide)(hd:%[|49]=false:=by decide):%[|19] (eval (.Name x pos) X.env) Q E s:=by
 obtain⟨mb,h1,h2⟩:=I.mod.blt;exact Calls.Name_function_global I.ok.kind hg (Calls.loadGlobal_builtin (by rw[I.ok.glob];exact I.mod.glob.keeps I.bk) hm (by rw[I.ok.blt];exact h1.keeps I.bk) ((h2 x hn).trans hv) h) hd
theorem Eh(hg:Gl X x)(hm:X.mg x=some u)(r:RelV v u)(hd:%[|49]=false:=by decide):PE X (.Name x pos) (tC v):=
 fun _ _ _ H _ I h=>Et I hg hm ⟨v,H,I,r,h⟩ hd
theorem UO(hg:Gl X x)(hm:X.mg x=none)(hv:bootBuiltins x=some u)(r:RelV v u)(hn:x≠"__name__":=by decide)(hd:%[|49]=false:=by decide):PE X (.Name x pos) (tC v):=
 fun _ _ _ H _ I h=>EQ I hg hm hv ⟨v,H,I,r,h⟩ hn hd
variable {a b:Expr}{ta tb:TE}{pos:Pos}
def PC(X:Cx)(op:CmpOp)(a b:Expr)(t:TE):Prop:=
 ∀pins s(σ:St)H Q,%[|5]->t σ H Q->
  wpAny %[|15] X.A (eval a X.env) (fun v s₁=>%[|19] (eval b X.env) (fun u s₂=>%[|19] (compareOp op v u) (%[|36]) X.xe s₂) X.xe s₁) X.xe s
theorem LB(b:Expr)(h:op≠.In)(h2:op≠.NotIn):behindInMarks op b=false:=by
 have e1:(op == CmpOp.In)=false:=by cases op<;>first | rfl | exact absurd rfl h
 have e2:(op == CmpOp.NotIn)=false:=by cases op<;>first | rfl | exact absurd rfl h2
 cases b<;>simp[behindInMarks,e1,e2]
def ar(ta:TE):TE:=fun σ H Q=>ta σ H fun x H1=>Q (.bl (decide (x= .non))) H1
def Zf(ta:TE):TE:=fun σ H Q=>ta σ H fun x H1=>Q (.bl (!decide (x= .non))) H1
theorem RelV.none_iff(r:RelV x v):(v == Value.none)=decide (x= .non):=by
 cases x with
 | non=>cases r;rfl
 | bl _=>cases r;rfl
 | int _=>obtain⟨t,rfl⟩:=r;rfl
 | str _=>obtain⟨t,rfl⟩:=r;rfl
 | byt _=>obtain⟨t,rfl⟩:=r;rfl
 | flt _=>obtain⟨t,rfl⟩:=r;rfl
 | ref _=>cases r;rfl
 | ty _=>cases r;rfl
theorem IX {j cb} (ha:PE X a ta):PC X .Is a (.Constant .none j cb) (ar ta):=by
 exists 1;refine AU %[|56] fun v s1 ⟨x,H1,I1,r1,q1⟩=>?_
 exact Constant_none (is_none_gen ⟨.bl _,H1,I1,by rw[r1.none_iff];rfl,q1⟩)
theorem Kt {j cb} (ha:PE X a ta):PC X .IsNot a (.Constant .none j cb) (Zf ta):=by
 exists 1;refine AU %[|56] fun v s1 ⟨x,H1,I1,r1,q1⟩=>?_
 exact Constant_none (isnot_none_gen ⟨.bl _,H1,I1,by rw[r1.none_iff];rfl,q1⟩)
def bd(Q:Bool->Hp->Prop)(x:V)(H1:Hp):Prop:=vB (fun c=>Q c H1) x
def tB(t:TE):TT:=fun σ H Q=>t σ H (bd Q)
theorem Sr(h:PC X op a b t)(h1:behindInMarks op b=false:=by first | exact LB _ %[|0] %[|0] | rfl):PE X (.Compare a [op] [b] pos) t:=fun pins s σ H Q I hw=>wpAny_Compare1 (h pins s σ H Q I hw) h1
theorem FL(h:PC X op a b t)(h1:behindInMarks op b=false:=by first | exact LB _ %[|0] %[|0] | rfl):PT X (.Compare a [op] [b] pos) (tB t):=by
 intro pins s σ H Q I hw;refine wpAny_isTrue_Compare1 (AU (h pins s σ H _ I hw) fun v s1 h1=>AU h1 fun u s2 h2=>AU h2 fun c s3 ⟨x,H1,I1,r1,q1⟩=>?_) h1;obtain⟨d,rfl,q⟩:=IM q1;cases r1;exact wpAny_truthy_bool ⟨H1,I1,q⟩
theorem Bv(h:PE X e t)(he:∀db,isTrue e X.env db=(do let v <-db;standAt e.pos;holding [v] (truthy v)):=by intro _;rfl):PT X e (tB t):=by
 intro pins s σ H Q I hw;refine isTrue_plain (AU (h pins s σ H _ I hw) fun v s1 ⟨x,H1,I1,r1,q1⟩=>?_) (he _);obtain⟨d,rfl,q⟩:=IM q1;cases r1;exact wpAny_truthy_bool ⟨H1,I1,q⟩
variable {tA tB':TT}{rest:%[|20]}
def ay(t u:TT):TT:=fun σ H Q=>t σ H fun c H1=>If c (u σ H1 Q) (Q false H1)
def aX(t u:TT):TT:=fun σ H Q=>t σ H fun c H1=>If c (Q true H1) (u σ H1 Q)
def Z9(t:TT):TT:=fun σ H Q=>t σ H fun c H1=>Q (!c) H1
theorem Dm(ha:PT X a tA):PW X (.BoolOp .And [a] pos) tA:=by
 intro wh pins s σ H Q I h;refine isTrue_and (AU (ha pins s σ H Q I h) fun c s1 e=>?_)
 cases c with
 | true=>exact isTrue_and_nil e
 | false=>exact e
theorem Ld(ha:PT X a tA):PW X (.BoolOp .Or [a] pos) tA:=by
 intro wh pins s σ H Q I h;refine isTrue_or (AU (ha pins s σ H Q I h) fun c s1 e=>?_)
 cases c with
 | false=>exact isTrue_or_nil e
 | true=>exact e
theorem EY(ha:PT X a tA)(hb:PW X (.BoolOp .And (b::rest) pos) tB'):PW X (.BoolOp .And (a::b::rest) pos) (ay tA tB'):=by
 intro wh pins s σ H Q I h;refine isTrue_and (AU %[|56] fun c s1 ⟨H1,I1,q1⟩=>?_)
 cases c with
 | true=>exact hb wh pins s1 σ H1 Q I1 q1.t
 | false=>exact⟨H1,I1,q1.f⟩
theorem O2(ha:PT X a tA)(hb:PW X (.BoolOp .Or (b::rest) pos) tB'):PW X (.BoolOp .Or (a::b::rest) pos) (aX tA tB'):=by
 intro wh pins s σ H Q I h;refine isTrue_or (AU %[|56] fun c s1 ⟨H1,I1,q1⟩=>?_)
 cases c with
 | true=>exact⟨H1,I1,q1.t⟩
 | false=>exact hb wh pins s1 σ H1 Q I1 q1.f
theorem CB(ha:PT X a tA):PT X (.UnaryOp .Not a pos) (Z9 tA):=by
 exists 1;exact isTrue_not (ha pins s σ H (fun c H1=>Q (!c) H1) I h)
def Xw(tb:TE)(σ:St)(Q:VK)(x:V)(H1:Hp):Prop:=vB (fun c=>If c (tb σ H1 Q) (Q (.bl false) H1)) x
def Zd(ta tb:TE):TE:=fun σ H Q=>ta σ H (Xw tb σ Q)
def Zx(tb:TE)(σ:St)(Q:VK)(x:V)(H1:Hp):Prop:=vB (fun c=>If c (Q (.bl true) H1) (tb σ H1 Q)) x
def Z5(ta tb:TE):TE:=fun σ H Q=>ta σ H (Zx tb σ Q)
def XD(Q:VK)(x:V)(H1:Hp):Prop:=vB (fun c=>Q (.bl (!c)) H1) x
def ZB(ta:TE):TE:=fun σ H Q=>ta σ H (XD Q)
theorem Dt{op}(h:PE X a t):PE X (.BoolOp op [a] pos) t:=fun pins s σ H Q I hw=>BoolOp_one (h pins s σ H Q I hw)
theorem N8(ha:PE X a ta)(hb:PE X (.BoolOp .And (b::rest) pos) tb):PE X (.BoolOp .And (a::b::rest) pos) (Zd ta tb):=by
 exists 1;refine BoolOp_and (AU %[|56] fun v s1 ⟨x,H1,I1,r1,q1⟩=>?_);obtain⟨c,rfl,fg⟩:=IM q1;cases r1;refine wpAny_truthy_bool ?_
 cases c with
 | true=>exact hb pins s1 σ H1 Q I1 fg.t
 | false=>exact⟨.bl false,H1,I1,rfl,fg.f⟩
theorem JE(ha:PE X a ta)(hb:PE X (.BoolOp .Or (b::rest) pos) tb):PE X (.BoolOp .Or (a::b::rest) pos) (Z5 ta tb):=by
 exists 1;refine BoolOp_or (AU %[|56] fun v s1 ⟨x,H1,I1,r1,q1⟩=>?_);obtain⟨c,rfl,fg⟩:=IM q1;cases r1;refine wpAny_truthy_bool ?_
 cases c with
 | false=>exact hb pins s1 σ H1 Q I1 fg.f
 | true=>exact⟨.bl true,H1,I1,rfl,fg.t⟩
theorem KL(ha:PE X a ta):PE X (.UnaryOp .Not a pos) (ZB ta):=by
 exists 1;refine UnaryOp_ (AU %[|56] fun v s1 ⟨x,H1,I1,r1,q1⟩=>?_);obtain⟨c,rfl,fg⟩:=IM q1;cases r1;exact not_of (wpAny_truthy_bool ⟨.bl (!c),H1,I1,rfl,fg⟩)
def aV(t:TT)(ta tb:TE):TE:=fun σ H Q=>t σ H fun c H1=>If c (ta σ H1 Q) (tb σ H1 Q)
theorem D1(hc:PT X c tA)(ha:PE X a ta)(hb:PE X b tb):PE X (.IfExp c a b pos) (aV tA ta tb):=by
 exists 1;refine wpAny_IfExp (AU (hc pins s σ H _ I h) fun d s1 ⟨H1,I1,q1⟩=>?_)
 cases d with
 | true=>exact ha pins s1 σ H1 Q I1 q1.t
 | false=>exact hb pins s1 σ H1 Q I1 q1.f
end
def SqL(K:PySem.W.Frag)(H:Hp)(a:Addr)(xs:List V):Prop:=
 Rd H a (.lst xs)\/
  ∃(o:Obj)(its:Array Value)(n:Nat),K.lookup a=some o/\o.cls= .type "list"/\o.dict=none/\o.data= .seq its n/\its.size<=sizeLine/\Vals xs its.toList
def SqT(K:PySem.W.Frag)(H:Hp)(a:Addr)(xs:List V):Prop:=
 Rd H a (.tup xs)\/
  ∃(o:Obj)(its:Array Value)(n:Nat),K.lookup a=some o/\o.cls= .type "tuple"/\o.data= .seq its n/\its.size<=sizeLine/\Vals xs its.toList
def Z3:Value->Option V
 | .none=>some .non
 | .bool b=>some (.bl b)
 | .int i _=>some (.int i)
 | .str x _=>some (.str x)
 | .bytes b _=>some (.byt b)
 | .float b _=>some (.flt b)
 | .ref a=>some (.ref a)
 | .type n=>some (.ty n)
 | _=>none
theorem RelV.abs(r:RelV x u):Z3 u=some x:=by
 cases x with
 | non=>cases r;rfl
 | bl _=>cases r;rfl
 | int _=>obtain⟨t,rfl⟩:=r;rfl
 | str _=>obtain⟨t,rfl⟩:=r;rfl
 | byt _=>obtain⟨t,rfl⟩:=r;rfl
 | flt _=>obtain⟨t,rfl⟩:=r;rfl
 | ref _=>cases r;rfl
 | ty _=>cases r;rfl
theorem RelV.inj(r:RelV x u)(q:RelV y u):x=y:=zAK (r.abs.symm.trans q.abs)
theorem Vals.inj:∀{xs ys:List V}{us:%[|7]},Vals xs us->Vals ys us->xs=ys
 | _,_,_,.nil,.nil=>rfl
 | _,_,_,.cons r t,.cons r' t'=>by rw[r.inj r',Vals.inj t t']
section
variable {X:Cx}{pins:%[|14]}{σ:St}{H:Hp}{s:Shared}{a:Addr}{xs ys:List V}
theorem SqL.of{K:PySem.W.Frag}(h:H a=some (.lst xs)):SqL K H a xs:=.inl (.inl h)
theorem SqT.of{K:PySem.W.Frag}(h:H a=some (.tup xs)):SqT K H a xs:=.inl (.inl h)
theorem Inv.list(I:%[|5])(h:SqL X.K H a xs):∃its:%[|7],Vals xs its/\PlainL s.heap a its.toArray/\xs.length<=sizeLine:=by
 rcases h with h | ⟨o,its,n,hk,hc,hd,hs,hz,r⟩
 ·obtain⟨z,its,n,r,e⟩:=h.ok I.hok;exact⟨its,r,⟨_,n,e,rfl,rfl,rfl⟩,z⟩
 ·refine⟨its.toList,r,⟨o,n,I.kIn a o hk,hc,hd,by simpa using hs⟩,?_⟩;have e:=r.length;simp only[zAJ] at e;omega
theorem Inv.tuple(I:%[|5])(h:SqT X.K H a xs):∃its:%[|7],Vals xs its/\IsTup s.heap a its.toArray/\xs.length<=sizeLine:=by
 rcases h with h | ⟨o,its,n,hk,hc,hs,hz,r⟩
 ·obtain⟨z,its,r,p⟩:=h.ok I.hok;exact⟨its,r,p,z⟩
 ·refine⟨its.toList,r,⟨o,I.kIn a o hk,hc,n,by simpa using hs⟩,?_⟩;have e:=r.length;simp only[zAJ] at e;omega
theorem Inv.list_inj(I:%[|5])(h:SqL X.K H a xs)(h':SqL X.K H a ys):xs=ys:=by
 obtain⟨its,r,⟨o,n,e,_,_,d⟩,_⟩:=I.list h;obtain⟨its',r',⟨o',n',e',_,_,d'⟩,_⟩:=I.list h';rw[e] at e';cases e';rw[d] at d';injection d' with d1 _
 have:its=its':=by simpa using congrArg Array.toList d1
 subst this;exact r.inj r'
theorem Inv.tuple_inj(I:%[|5])(h:SqT X.K H a xs)(h':SqT X.K H a ys):xs=ys:=by
 obtain⟨its,r,⟨o,e,_,n,d⟩,_⟩:=I.tuple h;obtain⟨its',r',⟨o',e',_,n',d'⟩,_⟩:=I.tuple h';rw[e] at e';cases e';rw[d] at d';injection d' with d1 _
 have:its=its':=by simpa using congrArg Array.toList d1
 subst this;exact r.inj r'
end
abbrev Cx.wish(X:Cx)(E:Value->Shared->Prop):Cx:={ X with xe:=E }
abbrev Cx.nox(X:Cx):Cx:=X.wish fun _ _=>False
theorem Cx.Ok.wish{X:Cx}(ok:X.Ok)(E:Value->Shared->Prop):(X.wish E).Ok:=
 ⟨ok.mod,ok.kind,ok.glob,ok.blt,ok.above,ok.inj,ok.has,ok.cab,ok.hd,ok.frames,ok.stk,ok.exf,ok.bs,ok.bsz,ok.noex,ok.exfs,ok.funs,ok.frf⟩
theorem Cx.Ok.unwish{X:Cx}{E:Value->Shared->Prop}(ok:(X.wish E).Ok):X.Ok:=
 ⟨ok.mod,ok.kind,ok.glob,ok.blt,ok.above,ok.inj,ok.has,ok.cab,ok.hd,ok.frames,ok.stk,ok.exf,ok.bs,ok.bsz,ok.noex,ok.exfs,ok.funs,ok.frf⟩
section
variable {X:Cx}{pins:%[|14]}{σ:St}{H:Hp}{s:Shared}{E:Value->Shared->Prop}
theorem Inv.wish(I:%[|5])(E:Value->Shared->Prop):Inv (X.wish E) pins σ H s:=⟨I.ok.wish E,I.os,I.bare,I.base,I.loc,I.cell,I.free,I.freeC,I.pin,I.hok,I.len⟩
theorem Inv.unwish(I:Inv (X.wish E) pins σ H s):%[|13] H s:=⟨I.ok.unwish,I.os,I.bare,I.base,I.loc,I.cell,I.free,I.freeC,I.pin,I.hok,I.len⟩
theorem SP.unwish(h:SP (X.wish E) pins D f s'):SP X pins D f s':=by
 cases f with
 | next=>obtain⟨σ',H',I,q⟩:=h;exact⟨σ',H',I.unwish,q⟩
 | brk=>obtain⟨σ',H',I,q⟩:=h;exact⟨σ',H',I.unwish,q⟩
 | cont=>obtain⟨σ',H',I,q⟩:=h;exact⟨σ',H',I.unwish,q⟩
 | ret u=>obtain⟨v,σ',H',I,r,q⟩:=h;exact⟨v,σ',H',I.unwish,r,q⟩
theorem PE.nox(h:PE X.nox e t):PE X e t:=fun pins s σ H Q I hw=>
 wpAny_mono (h pins s σ H Q (I.wish _) hw) (fun _ _ ⟨v,H',I',r,q⟩=>⟨v,H',I'.unwish,r,q⟩) fun _ _ z=>False.elim z
theorem PSs.nox{st:List Stmt}(h:PSs X.nox st t):PSs X st t:=fun pins s σ H D I hw=>
 wpAny_mono (h pins s σ H D (I.wish _) hw) (fun _ _ q=>q.unwish) fun _ _ z=>False.elim z
end
section
variable {X:Cx}{st:Stmt}{rest:List Stmt}{t u:TS}{e:Expr}{te:TE}{pos:Pos}
def Y1:TS:=fun D σ H=>D.nx σ H
def UC(t u:TS):TS:=fun D σ H=>t { D with nx:=u D } σ H
theorem Ak:PSs X [] Y1:=fun _ _ σ H _ I h=>wpAny_execs_nil ⟨σ,H,I,h⟩
theorem Aa(h1:PS X st t)(h2:PSs X rest u):PSs X (st::rest) (UC t u):=by
 exists 9;refine wpAny_execs_cons (AU (h1 pins s σ H { D with nx:=u D } I h) fun f s1 q=>?_)
 cases f with
 | next=>
  obtain⟨σ',H',I',q⟩:=q;exact h2 pins s1 σ' H' D I' q
 | ret v=>exact q
 | brk=>exact q
 | cont=>exact q
theorem Ai(h1:PS X st t):PSs X [st] t:=by
 exists 9;refine wpAny_execs_cons (AU (h1 pins s σ H D I h) fun f s1 q=>?_)
 cases f with
 | next=>exact wpAny_execs_nil q
 | ret v=>exact q
 | brk=>exact q
 | cont=>exact q
theorem Inv.quiet(I:%[|5]):interactive X.env=false:=by simp[interactive,I.ok.kind]
def YZ(te:TE):TS:=fun D σ H=>te σ H fun _ H1=>D.nx σ H1
theorem As(he:PE X e te)(hs:swapsWith e none pos.line X.env=pure false:=by rfl):PS X (.Expr e pos) (YZ te):=by
 exists 9;exact wpAny_Expr_any (AU (he pins s σ H _ I h) fun v s1 ⟨x,H1,I1,r1,q1⟩=>⟨σ,H1,I1,q1⟩) I.quiet hs
def Zb(te:TE):TS:=fun D σ H=>te σ H D.rt
theorem SW(he:PE X e te):PS X (.Return (some e) pos) (Zb te):=by
 exists 9;exact wpAny_Return_some (AU (he pins s σ H _ I h) fun v s1 ⟨x,H1,I1,r1,q1⟩=>⟨x,σ,H1,I1,r1,q1⟩)
def ae(c:TT)(t u:TS):TS:=fun D σ H=>c σ H fun b H1=>If b (t D σ H1) (u D σ H1)
theorem Au(hc:PT X c tc)(ha:PSs X a t)(hb:PSs X b u):PS X (.If c a b pos) (ae tc t u):=by
 exists 9;refine wpAny_If (AU (hc pins s σ H _ I h) fun d s1 ⟨H1,I1,q1⟩=>?_)
 cases d with
 | true=>exact ha pins s1 σ H1 D I1 q1.t
 | false=>exact hb pins s1 σ H1 D I1 q1.f
end
abbrev TG:=V->St->Hp->(St->Hp->Prop)->Prop
abbrev WG:=List V->St->Hp->(St->Hp->Prop)->Prop
def PG(X:Cx)(target:Expr)(t:TG):Prop:=
 ∀pins s(σ:St)H v u(Q:St->Hp->Prop),%[|5]->RelV v u->t v σ H Q->
  wpAny %[|15] X.A (assign target X.env u) (fun _ s'=>∃σ' H',Inv X pins σ' H' s'/\Q σ' H') X.xe s
def ZS(X:Cx)(ts:%[|20])(t:WG):Prop:=
 ∀pins s(σ:St)H vs us(Q:St->Hp->Prop),%[|5]->Vals vs us->t vs σ H Q->
  wpAny %[|15] X.A (assignInOrder ((assignEach ts X.env).map (·.2)) us) (fun _ s'=>∃σ' H',Inv X pins σ' H' s'/\Q σ' H') X.xe s
abbrev Yj:=V->V->V->Hp->(Hp->Prop)->Prop
def We(X:Cx)(t:Yj):Prop:=
 ∀pins s(σ:St)H o i v ov iv u(Q:Hp->Prop),%[|5]->RelV o ov->RelV i iv->RelV v u->t o i v H Q->
  wpAny %[|15] X.A (setItem ov iv u) (fun _ s'=>∃H',%[|13] H' s'/\Q H') X.xe s
section
variable {X:Cx}{pos:Pos}
def Cu(i:Nat):TG:=fun v σ H Q=>Q (σ.set i (some v)) H
theorem Lb(hN:X.N.Nodup)(hi:X.N[i]? = some x)(hx:Tv X.env.scope x)(hf:X.fn x=true\/X.env.scope.names.lookup x=some .local:=by first | exact .inl rfl | exact .inr rfl | assumption):PG X (.Name x pos) (Cu i):=by
 intro pins s σ H v u Q I r h;exact wpAny_assign_Name (IE I hN hi hx r (fun s' I'=>⟨_,H,I',h⟩) hf)
def Z8:WG:=fun vs σ H Q=>vs=[]/\Q σ H
def Zu(t:TG)(u:WG):WG:=fun vs σ H Q=>lC (fun v r=>t v σ H fun σ' H'=>u r σ' H' Q) vs
theorem O7:ZS X [] Z8:=by
 intro pins s σ H vs us Q I r h;obtain⟨e,h⟩:=h;subst e;cases r;exact assignInOrder_nil ⟨σ,H,I,h⟩
theorem Fa(h1:PG X e t)(h2:ZS X es u)(hs:(assignEach (e::es) X.env).map (·.2)=assign e X.env::(assignEach es X.env).map (·.2):=by rfl):ZS X (e::es) (Zu t u):=by
 intro pins s σ H vs us Q I r h;obtain⟨v,vr,rfl,h'⟩:=Wy h
 cases r with
 | cons r rr=>
  rw[hs];refine assignInOrder_cons (AU (h1 pins s σ H _ _ _ I r h') fun _ s1 ⟨σ1,H1,I1,q1⟩=>?_);exact h2 pins s1 σ1 H1 _ _ Q I1 rr q1
inductive W0(K:PySem.W.Frag)(n:Nat)(t:WG)(a:Addr)(σ:St)(H:Hp)(Q:St->Hp->Prop):Prop where
 | mk {xs} (_:SqT K H a xs) (_:xs.length=n) (_:t xs σ H Q):W0 K n t a σ H Q
def ax(K:PySem.W.Frag)(n:Nat)(t:WG):TG:=fun v σ H Q=>vR (fun a=>W0 K n t a σ H Q) v
theorem Tz(hc:X.calm=true)(h:ZS X es t)(hn:(assignEach es X.env).length=n:=by rfl)(bW:(assignEach es X.env).findIdx? (·.1)=none:=by rfl):PG X (.Tuple es k pos) (ax X.K n t):=by
 intro pins s σ H v u Q I r hw;obtain⟨a,rfl,@⟨xs,hq,hl,hw'⟩⟩:=CU hw;cases r;obtain⟨its,rv,ht,hz⟩:=I.tuple hq;refine assign_Tuple_tuple (I.ok.hd hc) ht (by simp[hn,<-hl,rv.length]) bW fun h' hx=>?_
 have I1:%[|13] H { s with heap:=h' }:=I.kept (t':=s.toks) fun b o e=>hx b o (zAI (zAE e)) e
 exact h pins _ σ H xs _ Q I1 (by simpa using rv) hw'
def ZW(to ti:TE)(t:Yj):TG:=fun v σ H Q=>to σ H fun o H1=>ti σ H1 fun i H2=>t o i v H2 fun H3=>Q σ H3
theorem Ca(ho:PE X o to)(hi:PE X i ti)(hs:We X t)(ha:∀v,assign (.Subscript o i pos) X.env v=(do
   let ov <-holding [v] (eval o X.env)
   let iv <-holding [v,ov] (eval i X.env)
   standAt pos
   holding [v,ov,iv] (setItem ov iv v)
   release [v,ov,iv] []):=by intro _;rfl):PG X (.Subscript o i pos) (ZW to ti t):=by
 intro pins s σ H v u Q I r h;rw[ha];refine wpAny_bind (wpAny_holding (AU (ho pins s σ H _ I h) fun ov s1 ⟨x,H1,I1,r1,q1⟩=>?_));refine wpAny_bind (wpAny_holding (AU (hi pins s1 σ H1 _ I1 q1) fun iv s2 ⟨y,H2,I2,r2,q2⟩=>?_));refine wpAny_bind (wpAny_standAt (wpAny_bind (wpAny_holding (AU (hs pins s2 σ H2 x y v ov iv u _ I2 r1 r2 r q2) fun _ s3 ⟨H3,I3,q3⟩=>?_))));exact wpAny_release ⟨σ,H3,I3,q3⟩
def KQ(te:TE)(g:TG):TS:=fun D σ H=>te σ H fun x H1=>g x σ H1 D.nx
theorem B8(he:PE X e te)(hg:PG X tg g)(hs:swapsWithSole [tg] e pos.line X.env=pure false:=by rfl)(hw:swappedStores [tg] e X.env=pure none:=by rfl)(h1:(assignEach [tg] X.env).map (·.2)=[assign tg X.env]:=by rfl):PS X (.Assign [tg] e pos) (KQ te g):=by
 exists 9;refine wpAny_Assign_stores (AU (he pins s σ H _ I h) fun v s1 ⟨x,H1,I1,r1,q1⟩=>?_) hs hw;rw[h1];exact AU (hg pins s1 σ H1 x v _ I1 r1 q1) fun _ s2 q=>q
theorem YM(hN:X.N.Nodup)(hi:X.N[i]? = some x)(hx:Tv X.env.scope x)(he:PE X e te)(hs:swapsWith e (some (.Name x cb)) pos.line X.env=pure false:=by rfl)(hf:X.fn x=true\/X.env.scope.names.lookup x=some .local:=by first | exact .inl rfl | exact .inr rfl | assumption):
  PS X (.Assign [.Name x cb] e pos) (KQ te (Cu i)):=by
 exists 9;refine wpAny_Assign_Name (AU (he pins s σ H _ I h) fun v s1 ⟨y,H1,I1,r1,q1⟩=>?_) hs;exact IE I1 hN hi hx r1 (fun s2 I2=>⟨_,H1,I2,q1⟩) hf
end
section
variable {X:Cx}{pos:Pos}
def XQ(c:TT)(tb:TS):TS:=fun D σ H=>∃W:Nat->St->Hp->Prop,(∃m,W m σ H)/\∀m σ H,W m σ H->
 c σ H fun b H1=>If b (∃N:St->Hp->Prop,(∀σ' H',N σ' H'->∃m',m'<m/\W m' σ' H')/\tb { D with nx:=N,ct:=N,bk:=D.nx } σ H1) (D.nx σ H1)
theorem DO(hp:PassesOwn %[|15] X.A X.env X.xe)(hc:PT X c tc)(hb:PSs X body tb):PS X (.While c body [] pos) (XQ tc tb):=by
 exists 9;obtain⟨W,⟨m0,w0⟩,gm⟩:=h;refine wpAny_While (codeAny_whileLoop (fun n s'=>∃σ' H',Inv X pins σ' H' s'/\W n σ' H') ?_ m0 ⟨σ,H,I,w0⟩);rintro n s1 ⟨σ1,H1,I1,w1⟩;refine wpAny_passesOwn hp (AU (hc pins s1 σ1 H1 _ I1 (gm n σ1 H1 w1)) fun b s2 ⟨H2,I2,q2⟩=>?_)
 cases b with
 | true=>
  obtain⟨N,hN,q2⟩:=q2.t;rw[if_pos rfl];refine wpAny_passesOwn hp (AU (hb pins s2 σ1 H2 _ I2 q2) fun f s3 q3=>?_)
  cases f with
  | next=>
   obtain⟨σ3,H3,I3,n3⟩:=q3;obtain⟨m',hm,w3⟩:=hN σ3 H3 n3;exact⟨m',hm,σ3,H3,I3,w3⟩
  | cont=>
   obtain⟨σ3,H3,I3,n3⟩:=q3;obtain⟨m',hm,w3⟩:=hN σ3 H3 n3;exact⟨m',hm,σ3,H3,I3,w3⟩
  | brk=>exact q3
  | ret v=>exact q3
 | false=>
  rw[if_neg zAF];exact wpAny_execs_nil ⟨σ1,H2,I2,q2.f⟩
end
structure It where
 go:Nat->Hp->Prop
 yld:Nat->Hp->V->Hp->Prop
 stop:Nat->Hp->Prop
def CG(X:Cx)(pins:%[|14])(H:Hp)(b:Addr):Prop:=
 H b=none/\b≠X.env.locals/\b∉X.fs/\(b∈X.ex\/X.s₀.heap.objs.size<=b)/\(∀x c,X.env.cells.lookup x=some c->c≠b)/\∀p∈X.pn++pins,p.1≠b
theorem Inv.fpOk(I:%[|5])(hb:s.heap.objs.size<=b)(hn:H' b=none):CG X pins H' b:=by
 refine⟨hn,zBN (zAM I.lt hb),I.nofs hb,.inr (zAD I.sz hb),fun x c e z=>?_,fun p hp z=>?_⟩
 ·obtain⟨v,q⟩:=I.cell x c e;exact absurd (zAM q.lt (by rw[z];exact hb)) (zBM _)
 ·exact absurd (zAM (zAE (I.pin p hp).1) (by rw[z];exact hb)) (zBM _)
structure LL(P:Program)(w:World)(K:PySem.W.Frag)(tg:Expr)(J:It)(fp:%[|6])(it:Addr)(tn:Nat->Heap->Prop):Prop where
 mem:it∈fp
 obj:∀i h,tn i h->∀b∈fp,∃o,h.get? b=some o/\∀v,o.data≠.cell v
 keep:∀i h h',tn i h->(∀b∈fp,∀o,h.get? b=some o->h'.get? b=some o)->tn i h'
 item:∀(X:Cx),X.prog=P->X.w=w->X.K=K->X.calm=true->∀(i:Nat)(pins:%[|14])(s:Shared)(σ:St)(H:Hp)(E:Value->Shared->Prop),%[|5]->(∀b∈fp,CG X pins H b)->tn i s.heap->J.go i H->
  wpAny (model P w) X.A (pyNext (.ref it)) (fun r s1=>∃u,r=some u/\
   wpAny (model P w) X.A (letOwnedTupleGo tg (.ref it) u) (fun _ s2=>∃x H',%[|13] H' s2/\RelV x u/\J.yld i H x H'/\tn (i+1) s2.heap/\∀b∈fp,H' b=none) E s1) E s
 done:∀(X:Cx),X.prog=P->X.w=w->X.K=K->X.calm=true->∀(i:Nat)(pins:%[|14])(s:Shared)(σ:St)(H:Hp)(E:Value->Shared->Prop),%[|5]->(∀b∈fp,CG X pins H b)->tn i s.heap->J.stop i H->
  wpAny (model P w) X.A (pyNext (.ref it)) (fun r s1=>r=none/\%[|13] H s1) E s
 self:∀(A:Around)(i:Nat)(s:Shared)(Q:Value->Shared->Prop)(E:Value->Shared->Prop),tn i s.heap->Q (.ref it) s->wpAny (model P w) A (pyIter (.ref it)) Q E s
abbrev TI:=St->Hp->(It->Hp->Prop)->Prop
def aE(X:Cx)(pins:%[|14])(σ:St)(tg:Expr)(R:It->Hp->Prop)(cJ:Value)(s2:Shared):Prop:=
 ∃(it:Addr)(fp:%[|6])(tn:Nat->Heap->Prop)(J:It)(H':Hp),cJ= .ref it/\%[|13] H' s2/\LL X.prog X.w X.K tg J fp it tn/\tn 0 s2.heap/\(∀b∈fp,CG X pins H' b)/\R J H'
def PI(X:Cx)(tg bg:Expr)(wi:TI):Prop:=
 ∀pins s(σ:St)H(R:It->Hp->Prop),%[|5]->wi σ H R->
  wpAny %[|15] X.A (eval bg X.env) (fun v s1=>%[|19] (pyIter v) (aE X pins σ tg R) X.xe s1) X.xe s
theorem Po(ho:s.heap.get? it=some o)(hc:o.cls= .type n)(hd:o.data= .fields vs)(hn:["enumerate","zip","dict_itemiterator","dict_reverseitemiterator","odict_iterator","itertools.zip_longest","itertools.pairwise"].contains n=false)(hQ:Q () s):wpAny M A (letOwnedTupleGo tg (.ref it) u) Q E s:=by
  unfold letOwnedTupleGo
  cases tg<;>first
    | exact wpAny_pure hQ
    | (cases u<;>first
        | exact wpAny_pure hQ
        | (refine wpAny_bind (wpAny_load ho ?_)
           rw[hc,hd]
           show wpAny M A (if (["enumerate","zip","dict_itemiterator","dict_reverseitemiterator","odict_iterator","itertools.zip_longest","itertools.pairwise"].contains n && vs[0]? == some (rawInt _))=true then _ else _) Q E s
           rw[if_neg (by intro h;rw[hn,Bool.false_and] at h;cases h)]
           exact wpAny_pure hQ))
def Wk(K:PySem.W.Frag)(a:Addr):It:=
 ⟨fun i H=>∃xs x,SqL K H a xs/\xs[i]? = some x,fun i H x H'=>H'=H/\∀xs,SqL K H a xs->xs[i]? = some x,fun i H=>∃xs,SqL K H a xs/\xs.length<=i⟩
def YY(K:PySem.W.Frag)(a:Addr):It:=
 ⟨fun i H=>∃xs x,SqT K H a xs/\xs[i]? = some x,fun i H x H'=>H'=H/\∀xs,SqT K H a xs->xs[i]? = some x,fun i H=>∃xs,SqT K H a xs/\xs.length<=i⟩
def W2(lo:Int)(n:Nat):It:=⟨fun i _=>i<n,fun i H x H'=>H'=H/\x= .int (lo+i),fun i _=>n<=i⟩
theorem PP{P:Program}{w:World}{K:PySem.W.Frag}{tg:Expr}(a it:Addr):LL P w K tg (Wk K a) [it] it (fun i h=>h.IsListIter it a i) where
 mem:=by simp
 obj:=fun i h st b hb=>by
  have e:b=it:=by simpa using hb
  subst e;obtain⟨o,e,c,d⟩:=st;exact⟨o,e,fun v z=>by rw[d] at z;cases z⟩
 keep:=fun i h h' st k=>st.at fun o e=>k it %[|2] o e
 item:=by
  exists 12;subst hP hw hK;obtain⟨xs,x,hq,hx⟩:=hg;obtain⟨its,rv,p,hz⟩:=I.list hq;obtain⟨u,hu,ru⟩:=rv.get hx;obtain⟨f0,f1,f2,f3,f4,f5⟩:=hf it %[|2];refine wpAny_pyNext_list_item st p.isList (x:=u) (by simpa using hu) fun h' gp sb=>?_
  have I1:%[|13] H { s with heap:=h' }:=I.turned (t':=s.toks) (fun b o hb e=>(sb.2 b hb).trans e) f0 f1 f3 f4 f5;obtain⟨o,e,c,d⟩:=id gp;exact⟨u,rfl,Po (s:={ s with heap:=h' }) e c d %[|0] ⟨x,H,I1,ru,⟨rfl,fun ys hy=>by rw[I.list_inj hy hq];exact hx⟩,gp,fun b hb=>(hf b hb).1⟩⟩
 done:=by
  exists 12;subst hP hw hK;obtain⟨xs,hq,hx⟩:=hg;obtain⟨its,rv,p,hz⟩:=I.list hq;obtain⟨f0,f1,f2,f3,f4,f5⟩:=hf it %[|2];have hl:=rv.length;exact wpAny_pyNext_list_end (I.ok.hd hc) st p.isList (by simp;omega) fun h' eb=>⟨rfl,I.turned (t':=s.toks) (fun b o hb e=>eb b o hb e) f0 f1 f3 f4 f5⟩
 self:=fun _ _ _ _ _ st h=>wpAny_pyIter_listiter st h
theorem Nu{P:Program}{w:World}{K:PySem.W.Frag}{tg:Expr}(a it:Addr):LL P w K tg (YY K a) [it] it (fun i h=>h.IsTupleIter it a i) where
 mem:=by simp
 obj:=fun i h st b hb=>by
  have e:b=it:=by simpa using hb
  subst e;obtain⟨o,e,c,d⟩:=st;exact⟨o,e,fun v z=>by rw[d] at z;cases z⟩
 keep:=fun i h h' st k=>st.at fun o e=>k it %[|2] o e
 item:=by
  exists 12;subst hP hw hK;obtain⟨xs,x,hq,hx⟩:=hg;obtain⟨its,rv,p,hz⟩:=I.tuple hq;obtain⟨u,hu,ru⟩:=rv.get hx;obtain⟨f0,f1,f2,f3,f4,f5⟩:=hf it %[|2];refine wpAny_pyNext_tuple_item st (show s.heap.IsTuple a its.toArray from p) (x:=u) (by simpa using hu) fun h' gp sb=>?_
  have I1:%[|13] H { s with heap:=h' }:=I.turned (t':=s.toks) (fun b o hb e=>(sb.2 b hb).trans e) f0 f1 f3 f4 f5;obtain⟨o,e,c,d⟩:=id gp;exact⟨u,rfl,Po (s:={ s with heap:=h' }) e c d %[|0] ⟨x,H,I1,ru,⟨rfl,fun ys hy=>by rw[I.tuple_inj hy hq];exact hx⟩,gp,fun b hb=>(hf b hb).1⟩⟩
 done:=by
  exists 12;subst hP hw hK;obtain⟨xs,hq,hx⟩:=hg;obtain⟨its,rv,p,hz⟩:=I.tuple hq;obtain⟨f0,f1,f2,f3,f4,f5⟩:=hf it %[|2];have hl:=rv.length;exact wpAny_pyNext_tuple_end (I.ok.hd hc) st (show s.heap.IsTuple a its.toArray from p) (by simp;omega) fun h' eb=>⟨rfl,I.turned (t':=s.toks) (fun b o hb e=>eb b o hb e) f0 f1 f3 f4 f5⟩
 self:=fun _ _ _ _ _ st h=>wpAny_pyIter_tupleiter st h
theorem N6{P:Program}{w:World}{K:PySem.W.Frag}{tg:Expr}(it:Addr)(lo:Int)(n:Nat):LL P w K tg (W2 lo n) [it] it (fun i h=>IsRangeIter h it (lo+(i:Nat)*1) ((n:Int)-(i:Nat)) 1) where
 mem:=by simp
 obj:=fun i h st b hb=>by
  have e:b=it:=by simpa using hb
  subst e
  exact⟨_,st,fun v z=>by
   have z':Data.fields _=Data.cell v:=z
   cases z'⟩
 keep:=fun i h h' st k=>k it %[|2] _ st
 item:=by
  exists 12;subst hP hw hK;obtain⟨f0,f1,f2,f3,f4,f5⟩:=hf it %[|2];have W:=Walks.range (prog:=X.prog) (w:=X.w) (I.ok.hd hc) it lo 1 n;refine W.item i s _ _ hg st fun v h' tk hv gp kk=>?_
  obtain⟨t,rfl⟩:=hv;have I1:%[|13] H { s with heap:=h',toks:=tk }:=I.turned (fun b o hb e=>kk b o (by simpa using hb) e) f0 f1 f3 f4 f5;refine⟨_,rfl,Po (s:={ s with heap:=h',toks:=tk }) (n:="range_iterator") gp rfl rfl %[|0] ⟨.int (lo+i),H,I1,⟨t,?_⟩,⟨rfl,rfl⟩,gp,fun b hb=>(hf b hb).1⟩⟩;rw[Int.mul_one]
 done:=by
  exists 12;subst hP hw hK;obtain⟨f0,f1,f2,f3,f4,f5⟩:=hf it %[|2];exact wpAny_pyNext_range_end (I.ok.hd hc) st (by have:n<=i:=hg;omega) fun h' eb=>⟨rfl,I.turned (t':=s.toks) (fun b o hb e=>eb b o hb e) f0 f1 f3 f4 f5⟩
 self:=fun _ _ _ _ _ st h=>wpAny_pyIter_rangeiter st h
section
variable {X:Cx}{tg:Expr}
def Xp(K:PySem.W.Frag)(R:It->Hp->Prop)(x:V)(H1:Hp):Prop:=vR (fun a=>(∃xs,SqL K H1 a xs)/\R (Wk K a) H1) x
def Zo(K:PySem.W.Frag)(tl:TE):TI:=fun σ H R=>tl σ H (Xp K R)
def Y7(K:PySem.W.Frag)(R:It->Hp->Prop)(x:V)(H1:Hp):Prop:=vR (fun a=>(∃xs,SqT K H1 a xs)/\R (YY K a) H1) x
def aM(K:PySem.W.Frag)(tl:TE):TI:=fun σ H R=>tl σ H (Y7 K R)
theorem AX{tl:TE}(hl:PE X l tl):PI X tg l (Zo X.K tl):=by
 intro pins s σ H R I h;refine AU (hl pins s σ H _ I h) fun v s1 ⟨x,H1,I1,r1,q1⟩=>?_
 obtain⟨a,e,⟨xs,hq⟩,q⟩:=CU q1;subst e;cases r1;obtain⟨its,rv,p,hz⟩:=I1.list hq;refine wpAny_pyIter_list p.isList ?_;refine⟨s1.heap.objs.size,[s1.heap.objs.size],_,_,H1,rfl,I1.kept (t':=s1.toks) fun b o e=>Heap.get?_push_of_some _ e,PP a _,⟨_,Heap.get?_push_size _ rfl,rfl,rfl⟩,fun b hb=>?_,q⟩;have e:b=s1.heap.objs.size:=by simpa using hb
 subst e;exact I1.fpOk (zAB _) (I1.hok.fresh (zAB _))
theorem XY{tl:TE}(hl:PE X l tl):PI X tg l (aM X.K tl):=by
 intro pins s σ H R I h;refine AU (hl pins s σ H _ I h) fun v s1 ⟨x,H1,I1,r1,q1⟩=>?_
 obtain⟨a,e,⟨xs,hq⟩,q⟩:=CU q1;subst e;cases r1;obtain⟨its,rv,p,hz⟩:=I1.tuple hq;refine wpAny_pyIter_tuple (show s1.heap.IsTuple a its.toArray from p) ?_;refine⟨s1.heap.objs.size,[s1.heap.objs.size],_,_,H1,rfl,I1.kept (t':=s1.toks) fun b o e=>Heap.get?_push_of_some _ e,Nu a _,⟨_,Heap.get?_push_size _ rfl,rfl,rfl⟩,fun b hb=>?_,q⟩;have e:b=s1.heap.objs.size:=by simpa using hb
 subst e;exact I1.fpOk (zAB _) (I1.hok.fresh (zAB _))
theorem My{lo hi:Int}(I:%[|5])(h1 : -(2^62)<=lo)(h2:lo<2^62)(h3 : -(2^62)<=hi)(h4:hi<2^62)(q:R (W2 lo (hi-lo).toNat) H):%[|19] (pyIter %[|46]) (aE X pins σ tg R) E { s with heap:=s.heap.push { cls:=.type "range",data:=.fields #[.int lo t,.int hi u,.int 1 v] },toks:=tk }:=by
 refine wpAny_pyIter_range (IsRange.new ..) (small_one h1 h2 h3 h4) ?_;have I1:%[|13] H { s with heap:=s.heap.push { cls:=.type "range",data:=.fields #[.int lo t,.int hi u,.int 1 v] },toks:=tk }:=I.kept fun b o e=>Heap.get?_push_of_some _ e
 refine⟨(s.heap.push { cls:=.type "range",data:=.fields #[.int lo t,.int hi u,.int 1 v] }).objs.size,[(s.heap.push { cls:=.type "range",data:=.fields #[.int lo t,.int hi u,.int 1 v] }).objs.size],_,_,H,rfl,
  I1.kept (t':=tk) fun b o e=>Heap.get?_push_of_some _ e,N6 _ lo (hi-lo).toNat,?_,fun b hb=>?_,q⟩
 ·have e1:lo+((0:Nat):Int)*1=lo:=by simp
  have e2:(((hi-lo).toNat:Nat):Int)-((0:Nat):Int)=Builtin.Range.rangeSize lo hi 1:=by rw[rangeSize_one];split<;>omega
  show IsRangeIter _ _ (lo+((0:Nat):Int)*1) ((((hi-lo).toNat:Nat):Int)-((0:Nat):Int)) 1;rw[e1,e2];exact Heap.get?_push_size _ rfl
 ·have e:b=(s.heap.push { cls:=.type "range",data:=.fields #[.int lo t,.int hi u,.int 1 v] }).objs.size:=by simpa using hb
  subst e;exact I1.fpOk (zAB _) (I1.hok.fresh (zAB _))
def XM(R:It->Hp->Prop)(vs:List V)(H1:Hp):Prop:=l1 (vI fun j=>-(2^62)<=j/\j<2^62/\R (W2 0 j.toNat) H1) vs
def Y4(ta:TA):TI:=fun σ H R=>ta σ H (XM R)
inductive RZ(R:It->Hp->Prop)(vs:List V)(H1:Hp):Prop where
 | mk (i j:Int) (_:vs=[.int i,.int j]) (_:(-(2^62)<=i/\i<2^62/\-(2^62)<=j/\j<2^62)) (_:R (W2 i (j-i).toNat) H1):RZ R vs H1
def Zs(ta:TA):TI:=fun σ H R=>ta σ H (RZ R)
theorem Cm(hg:Gl X "range")(hm:X.mg "range"=none)(ha:PA X [a] ta)(hs:starEach [a] X.env=[(false,eval a X.env)]:=by rfl):PI X tg (.Call (.Name "range" p) [a] [] pos) (Y4 ta):=by
 intro pins s σ H R I h;refine Call_ (EQ I hg hm boot_range (zB6 (AU (ha pos pins s σ H _ I h) fun us s1 ⟨vs,H1,I1,r1,q1⟩=>?_) hs rfl));obtain⟨_,rfl,q0⟩:=OW q1;obtain⟨j,rfl,q1,q2,q⟩:=Fj q0
 cases r1 with
 | cons r rr=>
  cases rr;obtain⟨t,rfl⟩:=r;exact call_range_1 (My I1 %[|1] %[|1] q1 q2 (by simpa using q))
theorem Qm(hg:Gl X "range")(hm:X.mg "range"=none)(ha:PA X [a,b] ta)(hs:starEach [a,b] X.env=[(false,eval a X.env),(false,eval b X.env)]:=by rfl)(g9:starEach [b] X.env=[(false,eval b X.env)]:=by rfl):
  PI X tg (.Call (.Name "range" p) [a,b] [] pos) (Zs ta):=by
 intro pins s σ H R I h;refine Call_ (EQ I hg hm boot_range (zB6 (AU (ha pos pins s σ H _ I h) fun us s1 ⟨vs,H1,I1,r1,q1⟩=>?_) (by rw[hs,g9]) (by rw[g9];rfl)));obtain⟨i,j,e,⟨q1,q2,q3,q4⟩,q⟩:=q1;subst e
 cases r1 with
 | cons r rr=>
  cases rr with
  | cons r' rr=>
   cases rr;obtain⟨t,rfl⟩:=r;obtain⟨t',rfl⟩:=r';exact call_range_2 (My I1 q1 q2 q3 q4 q)
def Nk(wi:TI)(g:TG)(tb:TS):TS:=fun D σ H=>wi σ H fun J H1=>∃W:Nat->Nat->St->Hp->Prop,(∃m,W 0 m σ H1)/\∀i m σ H,W i m σ H->
 (J.stop i H/\D.nx σ H)\/(J.go i H/\∃N:St->Hp->Prop,(∀σ' H',N σ' H'->∃m',m'<m/\W (i+1) m' σ' H')/\∀x H',J.yld i H x H'->g x σ H' fun σ2 H2=>tb { D with nx:=N,ct:=N,bk:=D.nx } σ2 H2)
def Ia(fp:%[|6])(h:Heap):List %[|85]:=fp.filterMap fun b=>(h.get? b).map fun o=>(b,o)
theorem Dv(hb:b∈fp)(e:h.get? b=some o):(b,o)∈Ia fp h:=List.mem_filterMap.mpr ⟨b,hb,by rw[e];rfl⟩
theorem Qp(hp:p∈Ia fp h):p.1∈fp/\h.get? p.1=some p.2:=by
 obtain⟨b,hb,e⟩:=List.mem_filterMap.mp hp
 cases q:h.get? b with
 | none=>rw[q] at e;cases e
 | some o=>
  rw[q] at e;have e':(b,o)=p:=zAK e;subst e';exact⟨hb,q⟩
theorem Inv.pinned(I:%[|5])(hf:∀b∈fp,CG X pins H b)(ho:∀b∈fp,∃o,s.heap.get? b=some o/\∀v,o.data≠.cell v):Inv X (pins++Ia fp s.heap) σ H s:=
 I.pins_of fun p hp=>(List.mem_append.mp hp).elim (fun z=>I.pin p (zAG _ z)) fun z=>by
  obtain⟨hb,e⟩:=Qp z;obtain⟨f0,f1,f2,_⟩:=hf p.1 hb;obtain⟨o,e',d⟩:=ho p.1 hb;rw[e] at e';cases e';exact⟨e,f0,f1,f2,d⟩
theorem Inv.unpinned(I:Inv X (pins++pl) σ H s):%[|13] H s:=I.pins_of fun p hp=>I.pin p (zAG _ (zBW _ hp))
theorem BZ{wi:TI}(hp:PassesOwn %[|15] X.A X.env X.xe)(hc:X.calm=true)(hi:PI X tg bg wi)(hg:PG X tg g)(hb:PSs X body tb)(hs:∀x,foldedSetIterable bg X.env x=pure x:=by intro _;rfl):PS X (.For tg bg body [] pos) (Nk wi g tb):=by
 exists 9;refine wpAny_For (AU (hi pins s σ H _ I h) fun v s1 h1=>AU h1 fun cJ s2 h2=>?_) hs;obtain⟨it,fp,tn,J,H2,e,I2,T,fb,f2,W,⟨m0,w0⟩,gm⟩:=h2;subst e;have fh:∀{H':Hp},(∀b∈fp,H' b=none)->∀b∈fp,CG X pins H' b:=fun hn b hb=>⟨hn b hb,(f2 b hb).2⟩
 refine codeAny_forLoop_any (fun n s'=>∃i σ' H',Inv X pins σ' H' s'/\tn i s'.heap/\(∀b∈fp,H' b=none)/\W i n σ' H') ?_ m0 ⟨0,σ,H2,I2,fb,fun b hb=>(f2 b hb).1,w0⟩;rintro n s3 ⟨i,σ3,H3,I3,gq,fr3,w3⟩;rcases gm i n σ3 H3 w3 with⟨stop,qn⟩|⟨go,N,hN,step⟩
 ·refine wpAny_passesOwn hp (AU (T.done X rfl rfl rfl hc i pins s3 σ3 H3 X.xe I3 (fh fr3) gq stop) fun r s4 ⟨hr,I4⟩=>?_);subst hr;exact wpAny_execs_nil ⟨σ3,H3,I4,qn⟩
 ·refine wpAny_passesOwn hp (AU (T.item X rfl rfl rfl hc i pins s3 σ3 H3 X.xe I3 (fh fr3) gq go) fun r s4 ⟨u,hr,h4⟩=>?_);subst hr;refine wpAny_passesOwn hp (AU h4 fun _ s5 ⟨x,H5,I5,r5,y5,iO,fr5⟩=>?_);have I5':=I5.pinned (fh fr5) (T.obj _ _ iO);refine wpAny_passesOwn hp (AU (hg _ s5 σ3 H5 x u _ I5' r5 (step x H5 y5)) fun _ s6 ⟨σ6,H6,I6,q6⟩=>?_);refine wpAny_passesOwn hp (AU (hb _ s6 σ6 H6 _ I6 q6) fun f s7 q7=>?_)
  have again:∀{σ7:St}{H7:Hp},Inv X (pins++Ia fp s5.heap) σ7 H7 s7->N σ7 H7->∃m,m<n/\∃i σ' H',Inv X pins σ' H' s7/\tn i s7.heap/\(∀b∈fp,H' b=none)/\W i m σ' H':=fun {σ7 H7} I7 n7=>by
   obtain⟨m',hm,w7⟩:=hN σ7 H7 n7;refine⟨m',hm,i+1,σ7,H7,I7.unpinned,T.keep _ _ _ iO fun b hb o e=>(I7.pin (b,o) (zAG _ (zAG _ (Dv hb e)))).1,fun b hb=>?_,w7⟩;obtain⟨o,e,d⟩:=T.obj _ _ iO b hb;exact (I7.pin (b,o) (zAG _ (zAG _ (Dv hb e)))).2.1
  cases f with
  | next=>obtain⟨σ7,H7,I7,n7⟩:=q7;exact again I7 n7
  | cont=>obtain⟨σ7,H7,I7,n7⟩:=q7;exact again I7 n7
  | brk=>obtain⟨σ7,H7,I7,q7⟩:=q7;exact⟨σ7,H7,I7.unpinned,q7⟩
  | ret v=>obtain⟨x7,σ7,H7,I7,r7,q7⟩:=q7;exact⟨x7,σ7,H7,I7.unpinned,r7,q7⟩
end
theorem Bf{K:PySem.W.Frag}{a:Addr}{xs:List V}{g:TG}{tb:TS}{D:BH}{σ:St}{H:Hp}(Pv:Nat->St->Hp->Prop)(h0:Pv 0 σ H)(hl:∀i σ H,i<=xs.length->Pv i σ H->SqL K H a xs)(hs:∀i x σ H,xs[i]? = some x->Pv i σ H->g x σ H fun σ2 H2=>tb { D with nx:=Pv (i+1),ct:=Pv (i+1),bk:=D.nx } σ2 H2)(hd:∀σ H,Pv xs.length σ H->D.nx σ H):
  ∃W:Nat->Nat->St->Hp->Prop,(∃m,W 0 m σ H)/\∀i m σ H,W i m σ H->
   ((Wk K a).stop i H/\D.nx σ H)\/((Wk K a).go i H/\∃N:St->Hp->Prop,(∀σ' H',N σ' H'->∃m',m'<m/\W (i+1) m' σ' H')/\∀x H',(Wk K a).yld i H x H'->g x σ H' fun σ2 H2=>tb { D with nx:=N,ct:=N,bk:=D.nx } σ2 H2):=by
 refine⟨fun i m σ H=>m=xs.length-i/\i<=xs.length/\Pv i σ H,⟨xs.length,by simp,zA5 _,h0⟩,?_⟩;rintro i m σ H ⟨rfl,hi,p⟩;have q:=hl i σ H hi p;by_cases bL:i<xs.length
 ·refine .inr ⟨⟨xs,xs[i],q,by simp[bL]⟩,Pv (i+1),fun σ' H' p'=>⟨xs.length-(i+1),by omega,rfl,bL,p'⟩,fun x H' y=>?_⟩;obtain⟨e,y⟩:=y;subst e;exact hs i x σ _ (y xs q) p
 ·have e:i=xs.length:=by omega
  subst e;exact .inl ⟨⟨xs,q,zAB _⟩,hd σ H p⟩
theorem VS{K:PySem.W.Frag}{a:Addr}{xs:List V}{g:TG}{tb:TS}{D:BH}{σ:St}{H:Hp}(Pv:Nat->St->Hp->Prop)(h0:Pv 0 σ H)(hl:∀i σ H,i<=xs.length->Pv i σ H->SqT K H a xs)(hs:∀i x σ H,xs[i]? = some x->Pv i σ H->g x σ H fun σ2 H2=>tb { D with nx:=Pv (i+1),ct:=Pv (i+1),bk:=D.nx } σ2 H2)(hd:∀σ H,Pv xs.length σ H->D.nx σ H):
  ∃W:Nat->Nat->St->Hp->Prop,(∃m,W 0 m σ H)/\∀i m σ H,W i m σ H->
   ((YY K a).stop i H/\D.nx σ H)\/((YY K a).go i H/\∃N:St->Hp->Prop,(∀σ' H',N σ' H'->∃m',m'<m/\W (i+1) m' σ' H')/\∀x H',(YY K a).yld i H x H'->g x σ H' fun σ2 H2=>tb { D with nx:=N,ct:=N,bk:=D.nx } σ2 H2):=by
 refine⟨fun i m σ H=>m=xs.length-i/\i<=xs.length/\Pv i σ H,⟨xs.length,by simp,zA5 _,h0⟩,?_⟩;rintro i m σ H ⟨rfl,hi,p⟩;have q:=hl i σ H hi p;by_cases bL:i<xs.length
 ·refine .inr ⟨⟨xs,xs[i],q,by simp[bL]⟩,Pv (i+1),fun σ' H' p'=>⟨xs.length-(i+1),by omega,rfl,bL,p'⟩,fun x H' y=>?_⟩;obtain⟨e,y⟩:=y;subst e;exact hs i x σ _ (y xs q) p
 ·have e:i=xs.length:=by omega
  subst e;exact .inl ⟨⟨xs,q,zAB _⟩,hd σ H p⟩
theorem B4{lo:Int}{n:Nat}{g:TG}{tb:TS}{D:BH}{σ:St}{H:Hp}(Pv:Nat->St->Hp->Prop)(h0:Pv 0 σ H)(hs:∀i σ H,i<n->Pv i σ H->g (.int (lo+i)) σ H fun σ2 H2=>tb { D with nx:=Pv (i+1),ct:=Pv (i+1),bk:=D.nx } σ2 H2)(hd:∀σ H,Pv n σ H->D.nx σ H):
  ∃W:Nat->Nat->St->Hp->Prop,(∃m,W 0 m σ H)/\∀i m σ H,W i m σ H->
   ((W2 lo n).stop i H/\D.nx σ H)\/((W2 lo n).go i H/\∃N:St->Hp->Prop,(∀σ' H',N σ' H'->∃m',m'<m/\W (i+1) m' σ' H')/\∀x H',(W2 lo n).yld i H x H'->g x σ H' fun σ2 H2=>tb { D with nx:=N,ct:=N,bk:=D.nx } σ2 H2):=by
 refine⟨fun i m σ H=>m=n-i/\i<=n/\Pv i σ H,⟨n,by simp,zA5 _,h0⟩,?_⟩;rintro i m σ H ⟨rfl,hi,p⟩;by_cases bL:i<n
 ·refine .inr ⟨bL,Pv (i+1),fun σ' H' p'=>⟨n-(i+1),by omega,rfl,bL,p'⟩,fun x H' y=>?_⟩;obtain⟨e,y⟩:=y;subst e y;exact hs i σ _ bL p
 ·have e:i=n:=by omega
  subst e;exact .inl ⟨zAB _,hd σ H p⟩
abbrev R2:=V->V->Hp->VK->Prop
def C3(X:Cx)(f:Value->Value->Sem Value)(r:R2):Prop:=
 ∀pins s(σ:St)H x y v u Q,%[|5]->RelV x v->RelV y u->r x y H Q->
  wpAny %[|15] X.A (f v u) (%[|36]) X.xe s
def ad(X:Cx)(f:Value->Sem Value)(r:V->Hp->VK->Prop):Prop:=
 ∀pins s(σ:St)H x v Q,%[|5]->RelV x v->r x H Q->
  wpAny %[|15] X.A (f v) (%[|36]) X.xe s
def Ce(X:Cx)(f:Value)(r:List V->Hp->VK->Prop):Prop:=
 ∀pins s(σ:St)H xs us Q,%[|5]->Vals xs us->r xs H Q->
  wpAny %[|15] X.A (call f us) (%[|36]) X.xe s
def ak(X:Cx)(r:V->Hp->(Bool->Hp->Prop)->Prop):Prop:=
 ∀pins s(σ:St)H x v(Q:Bool->Hp->Prop),%[|5]->RelV x v->r x H Q->
  wpAny %[|15] X.A (truthy v) (TP X pins σ Q) X.xe s
def YN(r:R2)(ta tb:TE):TE:=fun σ H Q=>ta σ H fun x H1=>tb σ H1 fun y H2=>r x y H2 Q
def be(r:V->Hp->VK->Prop)(ta:TE):TE:=fun σ H Q=>ta σ H fun x H1=>r x H1 Q
def rI(C:Int->Int->Prop)(g:Int->Int->V):R2:=fun x y H Q=>vI (fun i=>vI (fun j=>C i j/\Q (g i j) H) y) x
def Vb(g:Int->Int->V):R2:=fun x y H Q=>vI (fun i=>vI (fun j=>Q (g i j) H) y) x
inductive rU(g:Int->V)(x:V)(H:Hp)(Q:VK):Prop where
 | mk (i) (_:x= .int i) (_:Q (g i) H):rU g x H Q
section
variable {X:Cx}{a b c:Expr}{ta tb tc:TE}{pos:Pos}
theorem XC(ha:PE X a ta)(hb:PE X b tb){pins:%[|14]}{s:Shared}{σ:St}{H:Hp}{R:V->V->Hp->Prop}(I:%[|5])(h:ta σ H fun x H1=>tb σ H1 fun y H2=>R x y H2){Q:Value->Shared->Prop}{f:Value->Value->Sem Value}(hf:∀v u s2 x y H2,%[|13] H2 s2->RelV x v->RelV y u->R x y H2->%[|19] (f v u) Q X.xe s2):
  wpAny %[|15] X.A (eval a X.env) (fun v s₁=>%[|19] (eval b X.env) (fun u s₂=>%[|19] (f v u) Q X.xe s₂) X.xe s₁) X.xe s:=by
 refine AU %[|56] fun v s1 ⟨x,H1,I1,r1,q1⟩=>?_
 refine AU (hb pins s1 σ H1 _ I1 q1) fun u s2 ⟨y,H2,I2,r2,q2⟩=>?_
 exact hf v u s2 x y H2 I2 r1 r2 q2
theorem Ao(ho:C3 X (binaryOp op) r)(ha:PE X a ta)(hb:PE X b tb):PE X (.BinOp a op b pos) (YN r ta tb):=by
 exists 1;exact wpAny_BinOp (XC ha hb I h fun v u s2 x y H2 I2 rx ry q=>ho pins s2 σ H2 x y v u Q I2 rx ry q)
theorem HF(ho:ad X (unaryOp op) r)(ha:PE X a ta):PE X (.UnaryOp op a pos) (be r ta):=by
 exists 1;exact UnaryOp_ (AU %[|56] fun v s1 ⟨x,H1,I1,r1,q1⟩=>ho pins s1 σ H1 x v Q I1 r1 q1)
theorem Xf{C:Int->Int->Prop}{g:Int->Int->Int}(rule:∀(i j:Int) (t u:Tok) (s:Shared) (Q:Value->Shared->Prop) (E:Value->Shared->Prop),C i j->Q (.int (g i j) s.toks) { s with toks:=s.toks+1 }->%[|19] (f (.int i t) (.int j u)) Q E s):
  C3 X f (rI C fun i j=>.int (g i j)):=by
 exists 3;obtain⟨i,rfl,h0⟩:=Fj h;obtain⟨j,rfl,hc,q⟩:=Fj h0;exists 5;obtain⟨t',rfl⟩:=ry;exact rule i j t t' s _ _ hc ⟨.int (g i j),H,I.tok _,⟨_,rfl⟩,q⟩
theorem YI{g:Int->Int->Int}(rule:∀(i j:Int) (t u:Tok) (s:Shared) (Q:Value->Shared->Prop) (E:Value->Shared->Prop),Q (.int (g i j) s.toks) { s with toks:=s.toks+1 }->%[|19] (f (.int i t) (.int j u)) Q E s):
  C3 X f (Vb fun i j=>.int (g i j)):=by
 exists 3;obtain⟨i,rfl,h0⟩:=Fj h;obtain⟨j,rfl,q⟩:=Fj h0;exists 5;obtain⟨t',rfl⟩:=ry;exact rule i j t t' s _ _ ⟨.int (g i j),H,I.tok _,⟨_,rfl⟩,q⟩
theorem UK{g:Int->Int->Bool}(rule:∀(i j:Int) (t u:Tok) (s:Shared) (Q:Value->Shared->Prop) (E:Value->Shared->Prop),Q (.bool (g i j)) s->%[|19] (f (.int i t) (.int j u)) Q E s):
  C3 X f (Vb fun i j=>.bl (g i j)):=by
 exists 3;obtain⟨i,rfl,h0⟩:=Fj h;obtain⟨j,rfl,q⟩:=Fj h0;exists 5;obtain⟨t',rfl⟩:=ry;exact rule i j t t' s _ _ ⟨.bl (g i j),H,I,rfl,q⟩
def aF(i j:Int):Prop:=0<j/\j<1073741824
def YS(i j:Int):Prop:=0<=j/\j<=1000000/\i.natAbs<2^64
def CMul(i j:Int):Prop:=(-(2^64)<i/\i<2^64)\/(-(2^64)<j/\j<2^64)
theorem CMul.ok(h:CMul i j):IntMulOk i j:=by
 rcases h with⟨h1,h2⟩|⟨h1,h2⟩
 ·exact .of_left (intBits_le_64 h1 h2)
 ·exact .of_right (intBits_le_64 h1 h2)
theorem M3(k:Nat):(0:Int)<=2^k:=by
 rw[two_pow_cast];exact Int.natCast_nonneg _
theorem C0:C3 X (binaryOp .Add) (Vb fun i j=>.int (i+j)):=YI fun _ _ _ _ _ _ _ q=>add_int q
theorem J8:C3 X (binaryOp .Sub) (Vb fun i j=>.int (i-j)):=YI fun _ _ _ _ _ _ _ q=>sub_int q
theorem I9:C3 X (binaryOp .Mult) (rI CMul fun i j=>.int (i*j)):=Xf fun _ _ _ _ _ _ _ hc q=>mul_int q hc.ok
theorem Bj:C3 X (binaryOp .FloorDiv) (rI aF fun i j=>.int (i / j)):=Xf fun i j _ _ _ _ _ hc q=>by
 have h1:(0:Int)<j:=hc.1;have h2:j<1073741824:=hc.2;exact floordiv_int %[|1] (by rw[zCL i %[|1]];exact q) (.inl (PyProof.noPylong_small %[|1]))
theorem A8:C3 X (binaryOp .Mod) (rI (fun _ j=>0<j) fun i j=>.int (i%j)):=Xf fun i j _ _ _ _ _ hc q=>by
 have h1:(0:Int)<j:=hc;exact mod_int' %[|1] (by rw[Int.fmod_eq_emod_of_nonneg i %[|1]];exact q)
theorem ES:C3 X (binaryOp .Pow) (rI YS fun i j=>.int (i^j.toNat)):=Xf fun _ _ _ _ _ _ _ hc q=>pow_int_small hc.1 hc.2.1 hc.2.2 q
theorem XJ:C3 X (binaryOp .LShift) (rI YS fun i j=>.int (i*2^j.toNat)):=Xf fun _ _ _ _ _ _ _ hc q=>lshift_int_small hc.1 hc.2.1 hc.2.2 q
theorem YE:C3 X (binaryOp .RShift) (rI (fun _ j=>0<=j) fun i j=>.int (i / 2^j.toNat)):=Xf fun i j _ _ _ _ _ hc q=>
 rshift_int hc (by rw[zCL i (M3 _)];exact q)
theorem Xb:C3 X (binaryOp .BitAnd) (Vb fun i j=>.int (Builtin.bitAnd i j)):=YI fun _ _ _ _ _ _ _ q=>and_int q
theorem aZ{g:Int->Int}(rule:∀(i:Int) (t:Tok) (s:Shared) (Q:Value->Shared->Prop) (E:Value->Shared->Prop),Q (.int (g i) s.toks) { s with toks:=s.toks+1 }->%[|19] (f (.int i t)) Q E s):
  ad X f (rU fun i=>.int (g i)):=by
 intro pins s σ H x v Q I rx h;obtain⟨i,rfl,q⟩:=h;exists 5;exact rule i t s _ _ ⟨.int (g i),H,I.tok _,⟨_,rfl⟩,q⟩
theorem EX:ad X (unaryOp .USub) (rU fun i=>.int (-i)):=aZ fun _ _ _ _ _ q=>neg_int q
end
def ZG:V->V->Bool
 | .non,.non=>true | .non,.int _=>true | .int _,.non=>true | .non,.bl _=>true | .bl _,.non=>true | .non,.str _=>true | .str _,.non=>true
 | .int _,.int _=>true | .bl _,.bl _=>true | .str _,.str _=>true | .byt _,.byt _=>true
 | .int _,.str _=>true | .str _,.int _=>true | .bl _,.str _=>true | .str _,.bl _=>true
 | _,_=>false
def bc:R2:=fun x y H Q=>ZG x y=true/\Q (.bl (decide (x=y))) H
def aU:R2:=fun x y H Q=>ZG x y=true/\Q (.bl (!decide (x=y))) H
theorem OP:decide (V.int i=V.int j)=(i == j):=by
 rw[zA3];simp
theorem Ud:decide (V.bl i=V.bl j)=(i == j):=by
 rw[zA3];simp
theorem OE:decide (V.str i=V.str j)=(i == j):=by
 rw[zA3];simp
theorem Pu:decide (V.byt i=V.byt j)=(i.toList == j.toList):=by
 rw[zA3];cases i;cases j;simp
section
variable {X:Cx}{a b c:Expr}{ta tb tc:TE}{pos:Pos}
theorem A4(I:%[|5])(q:Q (.bl k) H)(e:k=k'):%[|36] (.bool k') s:=by
 subst e;exact⟨.bl k,H,I,rfl,q⟩
theorem AF:C3 X (compareOp .Eq) bc:=by
 exists 3;obtain⟨hs,q⟩:=h
 cases x with
 | non=>
  cases rx
  cases y with
  | non=>cases ry;exact PySem.EqNone.eq_none_none (%[|39])
  | bl j=>cases ry;exact PySem.EqNone.eq_none_bool (%[|39])
  | int j=>obtain⟨t',rfl⟩:=ry;exact PySem.EqNone.eq_none_int (%[|39])
  | str j=>obtain⟨t',rfl⟩:=ry;exact PySem.EqNone.eq_none_str (%[|39])
  | _=>exact absurd (show false=true from hs) zAF
 | bl i=>
  cases rx
  cases y with
  | non=>cases ry;exact PySem.EqNone.eq_bool_none (%[|39])
  | bl j=>cases ry;exact eq_bool (A4 I q Ud)
  | str j=>obtain⟨t',rfl⟩:=ry;exact PySem.EqMixed.eq_bool_str (%[|39])
  | _=>exact absurd (show false=true from hs) zAF
 | int i=>
  exists 5
  cases y with
  | non=>cases ry;exact PySem.EqNone.eq_int_none (%[|39])
  | int j=>obtain⟨t',rfl⟩:=ry;exact eq_int (A4 I q OP)
  | str j=>obtain⟨t',rfl⟩:=ry;exact PySem.EqMixed.eq_int_str (%[|39])
  | _=>exact absurd (show false=true from hs) zAF
 | str i=>
  exists 5
  cases y with
  | non=>cases ry;exact PySem.EqNone.eq_str_none (%[|39])
  | bl j=>cases ry;exact PySem.EqMixed.eq_str_bool (%[|39])
  | int j=>obtain⟨t',rfl⟩:=ry;exact PySem.EqMixed.eq_str_int (%[|39])
  | str j=>obtain⟨t',rfl⟩:=ry;exact eq_str (A4 I q OE)
  | _=>exact absurd (show false=true from hs) zAF
 | byt i=>
  exists 5
  cases y with
  | byt j=>obtain⟨t',rfl⟩:=ry;exact PySem.W.eq_bytes (A4 I q Pu)
  | _=>exact absurd (show false=true from hs) zAF
 | _=>cases y<;>exact absurd (show false=true from hs) zAF
theorem Gn:C3 X (compareOp .NotEq) aU:=by
 exists 3;obtain⟨hs,q⟩:=h
 cases x with
 | non=>
  cases rx
  cases y with
  | non=>cases ry;exact PySem.EqNone.ne_none_none (%[|39])
  | bl j=>cases ry;exact PySem.EqNone.ne_none_bool (%[|39])
  | int j=>obtain⟨t',rfl⟩:=ry;exact PySem.EqNone.ne_none_int (%[|39])
  | str j=>obtain⟨t',rfl⟩:=ry;exact PySem.EqNone.ne_none_str (%[|39])
  | _=>exact absurd (show false=true from hs) zAF
 | bl i=>
  cases rx
  cases y with
  | non=>cases ry;exact PySem.EqNone.ne_bool_none (%[|39])
  | bl j=>cases ry;exact ne_bool (A4 I q (congrArg not Ud))
  | str j=>obtain⟨t',rfl⟩:=ry;exact PySem.EqMixed.ne_bool_str (%[|39])
  | _=>exact absurd (show false=true from hs) zAF
 | int i=>
  exists 5
  cases y with
  | non=>cases ry;exact PySem.EqNone.ne_int_none (%[|39])
  | int j=>obtain⟨t',rfl⟩:=ry;exact ne_int (A4 I q (congrArg not OP))
  | str j=>obtain⟨t',rfl⟩:=ry;exact PySem.EqMixed.ne_int_str (%[|39])
  | _=>exact absurd (show false=true from hs) zAF
 | str i=>
  exists 5
  cases y with
  | non=>cases ry;exact PySem.EqNone.ne_str_none (%[|39])
  | bl j=>cases ry;exact PySem.EqMixed.ne_str_bool (%[|39])
  | int j=>obtain⟨t',rfl⟩:=ry;exact PySem.EqMixed.ne_str_int (%[|39])
  | str j=>obtain⟨t',rfl⟩:=ry;exact ne_str (A4 I q (congrArg not OE))
  | _=>exact absurd (show false=true from hs) zAF
 | byt i=>
  exists 5
  cases y with
  | byt j=>obtain⟨t',rfl⟩:=ry;exact PySem.W.ne_bytes (A4 I q (congrArg not Pu))
  | _=>exact absurd (show false=true from hs) zAF
 | _=>cases y<;>exact absurd (show false=true from hs) zAF
theorem L8:C3 X (compareOp .Lt) (Vb fun i j=>.bl (decide (i<j))):=UK fun _ _ _ _ _ _ _ q=>lt_int q
theorem WK:C3 X (compareOp .LtE) (Vb fun i j=>.bl (decide (i<=j))):=UK fun _ _ _ _ _ _ _ q=>le_int q
theorem Jr:C3 X (compareOp .Gt) (Vb fun i j=>.bl (decide (j<i))):=UK fun _ _ _ _ _ _ _ q=>gt_int q
theorem Se:C3 X (compareOp .GtE) (Vb fun i j=>.bl (decide (j<=i))):=UK fun _ _ _ _ _ _ _ q=>ge_int q
inductive Gk(x:V)(y:V)(H:Hp)(Q:VK):Prop where
 | mk (i j) (_:x= .str i) (_:y= .str j) (_:Q (.bl (!(Builtin.Str.occurrences j i 0 j.length 1).isEmpty)) H):Gk x y H Q
theorem QD:C3 X (compareOp .In) (Gk):=by
 exists 3;obtain⟨i,j,rfl,rfl,q⟩:=h;exists 5;obtain⟨t',rfl⟩:=ry;exact in_str (A4 I q rfl)
theorem Cd(b:Expr)(h:op≠.In:=by decide)(h2:op≠.NotIn:=by decide):behindInMarks op b=false:=by
 have e1:(op == CmpOp.In)=false:=by cases op<;>first | rfl | exact absurd rfl h
 have e2:(op == CmpOp.NotIn)=false:=by cases op<;>first | rfl | exact absurd rfl h2
 cases b<;>simp[behindInMarks,e1,e2]
theorem Bx(ho:C3 X (compareOp op) r)(ha:PE X a ta)(hb:PE X b tb)(hm:behindInMarks op b=false):PE X (.Compare a [op] [b] pos) (YN r ta tb):=by
 exists 1;exact wpAny_Compare1 (XC ha hb I h fun v u s2 x y H2 I2 rx ry q=>ho pins s2 σ H2 x y v u Q I2 rx ry q) hm
def Um(Q:Bool->Hp->Prop)(x:V)(H':Hp):Prop:=vB (fun k=>Q k H') x
def RV(t:TE):TT:=fun σ H Q=>t σ H (Um Q)
theorem Cf(ho:C3 X (compareOp op) r)(ha:PE X a ta)(hb:PE X b tb)(hm:behindInMarks op b=false):PT X (.Compare a [op] [b] pos) (RV (YN r ta tb)):=by
 exists 1
 refine wpAny_isTrue_Compare1 (AU %[|56] fun v s1 ⟨x,H1,I1,r1,q1⟩=>AU (hb pins s1 σ H1 _ I1 q1) fun u s2 ⟨y,H2,I2,r2,q2⟩=>
  AU (ho pins s2 σ H2 x y v u _ I2 r1 r2 q2) fun c s3 ⟨z,H3,I3,r3,q3⟩=>?_) hm
 obtain⟨k,rfl,q3'⟩:=IM q3;cases r3;exact wpAny_truthy_bool ⟨H3,I3,q3'⟩
inductive Pr(r':R2)(tc:TE)(σ:St)(Q:VK)(y:V)(z:V)(H3:Hp):Prop where
 | mk (k) (_:z= .bl k) (_:If k (tc σ H3 fun w' H4=>r' y w' H4 Q) (Q (.bl false) H3)):Pr r' tc σ Q y z H3
def XF(r r':R2)(ta tb tc:TE):TE:=fun σ H Q=>ta σ H fun x H1=>tb σ H1 fun y H2=>r x y H2 (Pr r' tc σ Q y)
theorem Ul(ho:C3 X (compareOp op) r)(fe:C3 X (compareOp op') r')(ha:PE X a ta)(hb:PE X b tb)(hc:PE X c tc)(hm:lastMarks [op,op'] [b,c]=false:=by with_unfolding_all rfl):PT X (.Compare a [op,op'] [b,c] pos) (RV (XF r r' ta tb tc)):=by
 exists 1
 refine isTrue_chain (AU %[|56] fun v s1 ⟨x,H1,I1,r1,q1⟩=>test_link (AU (hb pins s1 σ H1 _ I1 q1) fun u s2 ⟨y,H2,I2,r2,q2⟩=>
  AU (ho pins s2 σ H2 x y v u _ I2 r1 r2 q2) fun d s3 ⟨z,H3,I3,r3,k,e,q3⟩=>?_)) hm
 subst e;cases r3;refine wpAny_truthy_bool ?_
 cases k with
 | false=>
  exact ite_ff ⟨H3,I3,q3.f⟩
 | true=>
  refine ite_tt (test_last (AU (hc pins s3 σ H3 _ I3 q3.t) fun w' s4 ⟨z',H4,I4,r4,q4⟩=>AU (fe pins s4 σ H4 y z' u w' _ I4 r2 r4 q4) fun d' s5 ⟨z2,H5,I5,r5,q5⟩=>?_));obtain⟨k2,rfl,q5'⟩:=IM q5;cases r5;exact wpAny_truthy_bool ⟨H5,I5,q5'⟩
def ZO(K:PySem.W.Frag)(x:V)(H:Hp)(k:Bool):Prop:=
 match x with
 | .non=>k=false
 | .bl b=>k=b
 | .int i=>k=(i != 0)
 | .str y=>y.length<=sizeLine/\k=((y.length:Int) != 0)
 | .byt y=>y.size<=sizeLine/\k=((y.size:Int) != 0)
 | .ref p=>(∃xs,SqL K H p xs/\k = !xs.isEmpty)\/(∃xs,SqT K H p xs/\k = !xs.isEmpty)\/∃bQ,H p=some (.dK bQ)/\k = !bQ.isEmpty
 | _=>False
theorem N2{κ:Type}{bQ:List (κ×V)}{vs:List (κ×Value)}(r:KV bQ vs):(!vs.isEmpty) = !bQ.isEmpty:=by
 cases r<;>rfl
theorem HM(r:Vals xs its):(!its.toArray.isEmpty) = !xs.isEmpty:=by
 cases r<;>simp
theorem EF:(sizeLine:Nat)<2^63:=by rw[sizeLine_eq];decide
theorem Xk:ak X (fun x H Q=>∃k,ZO X.K x H k/\Q k H):=by
 intro pins s σ H x v Q I rx h;obtain⟨k,e,q⟩:=h;have hl:=EF;have hs:sizeLine=16777216:=sizeLine_eq
 cases x with
 | non=>
  cases rx;have e':k=false:=e;subst e';exact truthy_none ⟨H,I,q⟩
 | bl b=>
  cases rx;have e':k=b:=e;subst e';exact wpAny_truthy_bool ⟨H,I,q⟩
 | int i=>
  exists 5;have e':k=(i != 0):=e;subst e';exact PySem.P.truthy_int ⟨H,I,q⟩
 | str y=>
  exists 5;obtain⟨hy,e'⟩:y.length<=sizeLine/\k=((y.length:Int) != 0):=e;subst e';exact PySem.P.truthy_str %[|1] ⟨H,I.tok _,q⟩
 | byt y=>
  exists 5;obtain⟨hy,e'⟩:y.size<=sizeLine/\k=((y.size:Int) != 0):=e;subst e';exact PySem.W.truthy_bytes %[|1] ⟨H,I.tok _,q⟩
 | ref p=>
  cases rx;have e':(∃xs,SqL X.K H p xs/\k = !xs.isEmpty)\/(∃xs,SqT X.K H p xs/\k = !xs.isEmpty)\/∃bQ,H p=some (.dK bQ)/\k = !bQ.isEmpty:=e;rcases e' with⟨xs,hx,e'⟩|⟨xs,hx,e'⟩|⟨bQ,hx,e'⟩
  ·subst e';obtain⟨its,r,pl,hz⟩:=I.list hx;have bo:=r.length;exact wpAny_truthy_list pl.isList (by simp only[zAH];omega) ⟨H,I.tok _,by rw[HM r];exact q⟩
  ·subst e';obtain⟨its,r,pl,hz⟩:=I.tuple hx;have bo:=r.length;exact truthy_tuple pl (by simp only[zAH];omega) ⟨H,I.tok _,by rw[HM r];exact q⟩
  ·subst e';obtain⟨hz,hS,vs,r,m⟩:bQ.length<=sizeLine/\(p == sysModules)=false/\∃vs,KV bQ vs/\s.heap.DictOf (CI X.prog X.w) p vs:=I.hok p _ hx;have bo:bQ.length=vs.length:=zB0 r;exact wpAny_truthy_dict hS m %[|1] ⟨H,I.tok _,by rw[N2 r];exact q⟩
 | _=>exact (show False from e).elim
theorem BS(ha:PE X a ta)(he:∀db,isTrue a X.env db=(do let v <-db;standAt a.pos;holding [v] (truthy v))):
  PT X a (fun σ H Q=>ta σ H fun x H'=>∃k,ZO X.K x H' k/\Q k H'):=by
 exists 1;exact isTrue_plain (AU %[|56] fun v s1 ⟨x,H1,I1,r1,q1⟩=>Xk pins s1 σ H1 x v Q I1 r1 q1) (he _)
def Ka:R2:=fun x y H Q=>vS (fun i=>vS (fun j=>i.length+j.length<=sizeLine/\Q (.str (i++j)) H) y) x
theorem A3:C3 X (binaryOp .Add) (Ka):=by
 exists 3;obtain⟨i,rfl,h0⟩:=Ut h;obtain⟨j,rfl,hz,q⟩:=Ut h0;exists 5;obtain⟨t',rfl⟩:=ry;exact add_str (fun t' tk=>⟨.str (i++j),H,I.tok _,⟨_,rfl⟩,q⟩) hz
theorem CT(r:Vals [x] us):∃u,us=[u]/\RelV x u:=by
 cases r with
 | cons r1 r2=>cases r2;exact⟨_,rfl,r1⟩
theorem WD(r:Vals [x,y] us):∃u w',us=[u,w']/\RelV x u/\RelV y w':=by
 cases r with
 | cons r1 r2=>
  cases r2 with
  | cons r3 r4=>cases r4;exact⟨_,_,rfl,r1,r3⟩
inductive IZ(xs:List V)(H:Hp)(Q:VK):Prop where
 | mk (i) (_:xs=[.int i]) (_:Q (.int (if i<0 then -i else i)) H):IZ xs H Q
theorem Ue:Ce X (.builtin "abs") (IZ):=by
 exists 7;obtain⟨i,rfl,q⟩:=h;obtain⟨u,rfl,t,rfl⟩:=CT r;exact call_abs_int fun u tk=>⟨.int (if i<0 then -i else i),H,I.tok _,⟨_,rfl⟩,q⟩
inductive Gz(xs:List V)(H:Hp)(Q:VK):Prop where
 | mk (i j) (_:xs=[.int i,.int j]) (_:Q (.int (if j<i then j else i)) H):Gz xs H Q
theorem Qv(hc:X.calm=true):Ce X (.builtin "min") (Gz):=by
 exists 7;obtain⟨i,j,rfl,q⟩:=h;obtain⟨u,w',rfl,⟨t,rfl⟩,⟨t',rfl⟩⟩:=WD r;refine min_two_ints (I.ok.hd hc) fun h' tk k=>⟨_,H,I.kept k,?_,q⟩
 by_cases hj:j<i
 ·rw[if_pos hj,if_pos hj];exact⟨_,rfl⟩
 ·rw[if_neg hj,if_neg hj];exact⟨_,rfl⟩
end
structure ObjM(h:Heap)(x dx C:Addr)(mA:Str->%[|4]):Prop where
 obj:h.get? x=some (PySem.W.instObj C dx)
 ns:h.Ns1 dx mA
 ne:dx≠x
theorem QA{h:Heap}{dx:Addr}{mA:Str->%[|4]}(n:h.Ns1 dx mA):∃od,h.get? dx=some od/\∀name,PySem.W.lookIn name od=some (mA name):=by
 obtain⟨o,es,ep,ho,hd,hk,_,hm⟩:=n;refine⟨o,ho,fun name=>?_⟩;have e:=hm name;unfold nsFind findBy at e;rw[<-Array.find?_toList] at e;unfold PySem.W.lookIn;rw[hd];dsimp only;split
 ·rename_i y q;rw[q] at e;exact congrArg some e
 ·rename_i q;rw[q] at e
  have a:es.toList.any (·.refKey)=false:=by
   rw[List.any_eq_false];intro y hy;obtain⟨z,t,gr⟩:=hk y (Array.mem_toList_iff.mp hy);simp[DictEntry.refKey,gr]
  have a':¬es.toList.any (·.refKey)=true:=by rw[a];exact zAF
  rw[if_neg a'];exact congrArg some e
theorem ObjM.look(I:ObjM h x dx C mA):∃od,PySem.W.InstAt h x (PySem.W.instObj C dx) C (some od)/\∀name,PySem.W.lookIn name od=some (mA name):=
 let ⟨od,ho,hl⟩:=QA I.ns
 ⟨od,⟨I.obj,rfl,rfl,ho⟩,hl⟩
section
variable {prog:Program}{w:World}{A:Around}{E:Value->Shared->Prop}{s:Shared}{K:PySem.W.Frag}{x dx C f:Addr}{mA:Str->%[|4]}{name:Str}{v:Value}
theorem Vi(X:K.In s.heap)(I:ObjM s.heap x dx C mA)(hg:PySem.W.plainGet K C name=true)(hh:PySem.W.hasDictIn K C=true)(ha:PySem.W.findIn K (.ref C) name=some none)(hv:mA name=some v)(hv':PySem.W.handedIn v=true)(h:Q v { s with toks:=s.toks+1 }):
  wpAny %[|29] A (getAttr (.ref x) name expr) Q E s:=by
 obtain⟨od,J,hl⟩:=I.look;exact PySem.W.get_value X J (zDD hg).1 (PySem.W.findObj_own hh ha rfl (by rw[hl,hv])) hv' h
theorem RK(X:K.In s.heap)(I:ObjM s.heap x dx C mA)(hg:PySem.W.plainGet K C name=true)(hf:PySem.W.findIn K (.ref C) name=some (some (.ref f)))(ht:PySem.W.isFn K (.ref f)=true)(hv:mA name=none)(h:Q (.ref f,[.ref x]) s):
  wpAny %[|29] A (getMethod (.ref x) name pl) Q E s:=by
 obtain⟨od,J,hl⟩:=I.look;exact PySem.W.method_fn X J (zDD hg).1 (zDD hg).2 hf (beq_iff_eq.mp ht) (by show (PySem.W.lookIn name od).map (·.isSome)=some false;rw[hl,hv];rfl) h
theorem U6(X:K.In s.heap)(I:ObjM s.heap x dx C mA)(hs:PySem.W.findIn K (.ref C) "__setattr__"=some (some (.builtin "object.__setattr__")))(hp:PySem.W.plainOver K C=true)(ht:PySem.W.takerIn K C name=some none)(hh:PySem.W.hasDictIn K C=true)(hw:PySem.Within mA ns)(hsz:ns.length<=sizeLine)(h:∀h',ObjM h' x dx C (fun y=>if y=name then some v else mA y)->Heap.SameBut dx s.heap h'->Q () { s with heap:=h',toks:=s.toks+2 }):
  wpAny %[|29] A (setAttr (.ref x) name v) Q E s:=by
 obtain⟨od,J,hl⟩:=I.look;refine PySem.W.set_plain X J hs (PySem.W.osa_open (s:={ s with toks:=s.toks+1 }) (r:=none) X J hp ht fun b=>?_);obtain⟨cd,hc,hd'⟩:=PySem.W.any_some hh;have hx:s.heap.get? x=some ⟨.ref C,some dx,.plain,#[]⟩:=I.obj;refine wpAny_bind (wpAny_pure (wpAny_bind (wpAny_bind (wpAny_loadPart hx (wpAny_bind (PySem.W.Looks.here (s:={ s with toks:=s.toks+1 }) (PySem.W.looks_clsIn X hc) ?_))))));rw[hd'];refine wpAny_pure (a:=some dx) (wpAny_bind (wpAny_pure (wpAny_bind ?_)));refine wpAny_nsSet1 (s:={ s with toks:=s.toks+1 }) I.ns fun h' gu g9=>?_
 obtain⟨oD,esD,epD,hoD,hdD,hcD⟩:=gu.count (PySem.Within.cons name v hw);refine wpAny_bind (wpAny_lookBehind hoD (by rw[hdD];exact pastItsLine_dict (zAD hcD (by rw[zAL];omega))) ?_);exact wpAny_pure (h _ ⟨(g9.2 _ (zB I.ne)).trans I.obj,gu,I.ne⟩ g9)
theorem Ry(X:K.In s.heap)(hm:PySem.W.makesIn K C=true)(hi:PySem.W.findIn K (.ref C) "__init__"=some (some (.ref f)))(hf:PySem.W.typeIn K (.ref f)=some (.type "function"))(h:codeAny %[|29] (A.under (.builtin "type.__call__" ⟨.ref C::vs,kw⟩)) (.call (.ref f) ⟨.ref %[|40]::vs,kw⟩) (PySem.W.InitBack %[|40] R)
   { s with heap:=(s.heap.push PySem.W.emptyDict).push (PySem.W.instObj C s.heap.objs.size) }):
  codeAny %[|29] A (.call (.ref C) ⟨vs,kw⟩) R s:=by
 obtain⟨hh,g,d,t,os⟩:=s;exact PySem.W.make_core (PySem.W.makes_of X hm) (PySem.W.looks_findIn X hi) (fun self=>PySem.W.bind_fn X self hf) (.inl rfl) h
end
def BQ(f:Str)(v:V):List (Str×V)->List (Str×V)
 | []=>[(f,v)]
 | (g,x)::r=>if g=f then (g,v)::r else (g,x)::BQ f v r
theorem Gx(f g:Str)(v:V):∀fs:List (Str×V),(BQ f v fs).lookup g=if g=f then some v else fs.lookup g
 | []=>by
  show List.lookup g [(f,v)]=_;by_cases h:g=f
  ·have hb:(g == f)=true:=beq_iff_eq.mpr h;simp only[List.lookup,hb,if_pos h]
  ·have hb:(g == f)=false:=beq_eq_false_iff_ne.mpr h;simp only[List.lookup,hb,if_neg h]
 | (k,x)::r=>by
  have ih:=Gx f g v r;rw[show BQ f v ((k,x)::r)=(if k=f then (k,v)::r else (k,x)::BQ f v r) from rfl];by_cases hk:k=f
  ·rw[if_pos hk];by_cases h:g=k
   ·have hb:(g == k)=true:=beq_iff_eq.mpr h;simp only[List.lookup,hb,if_pos (h.trans hk)]
   ·have hb:(g == k)=false:=beq_eq_false_iff_ne.mpr h;simp only[List.lookup,hb,if_neg (fun e:g=f=>h (e.trans hk.symm))]
  ·rw[if_neg hk];by_cases h:g=k
   ·have hb:(g == k)=true:=beq_iff_eq.mpr h;simp only[List.lookup,hb,if_neg (fun e:g=f=>hk (h.symm.trans e))]
   ·have hb:(g == k)=false:=beq_eq_false_iff_ne.mpr h;simp only[List.lookup,hb];exact ih
theorem FP(f:Str)(v:V):∀fs:List (Str×V),f∈(BQ f v fs).map (·.1)/\∀g,g∈fs.map (·.1)->g∈(BQ f v fs).map (·.1)
 | []=>⟨by simp[BQ],fun g h=>by simp at h⟩
 | (k,x)::r=>by
  obtain⟨i1,i2⟩:=FP f v r;rw[show BQ f v ((k,x)::r)=(if k=f then (k,v)::r else (k,x)::BQ f v r) from rfl];by_cases hk:k=f
  ·rw[if_pos hk];subst hk;exact⟨by simp,fun g h=>by simpa using h⟩
  ·rw[if_neg hk];refine⟨?_,fun g h=>?_⟩
   ·rw[zAP];exact List.mem_cons_of_mem _ i1
   ·rw[zAP] at h ⊢;rcases List.mem_cons.mp h with e | e
    ·exact List.mem_cons.mpr (.inl e)
    ·exact List.mem_cons_of_mem _ (i2 g e)
theorem Gs(f:Str)(v:V):∀fs:List (Str×V),(BQ f v fs).length<=fs.length+1
 | []=>by simp[BQ]
 | (k,x)::r=>by
  have ih:=Gs f v r;rw[show BQ f v ((k,x)::r)=(if k=f then (k,v)::r else (k,x)::BQ f v r) from rfl];by_cases hk:k=f
  ·rw[if_pos hk,zAL,zAL];omega
  ·rw[if_neg hk,zAL,zAL];omega
theorem A1G.some_of(r:A1G (some v) o):∃u,o=some u/\RelV v u:=by
 cases o with
 | none=>exact (show False from r).elim
 | some u=>exact⟨u,rfl,r⟩
theorem A1G.none_of(r:A1G none o):o=none:=by
 cases o with
 | none=>rfl
 | some u=>exact (show False from r).elim
theorem QE(r:RelV v u):PySem.W.handedIn u=true:=by
 cases v with
 | non=>cases (show u=Value.none from r);rfl
 | bl b=>cases (show u=Value.bool b from r);rfl
 | int i=>obtain⟨t,e⟩:=(show ∃t,u=Value.int i t from r);cases e;rfl
 | str x=>obtain⟨t,e⟩:=(show ∃t,u=Value.str x t from r);cases e;rfl
 | byt b=>obtain⟨t,e⟩:=(show ∃t,u=Value.bytes b t from r);cases e;rfl
 | flt b=>obtain⟨t,e⟩:=(show ∃t,u=Value.float b t from r);cases e;rfl
 | ref a=>cases (show u=Value.ref a from r);rfl
 | ty n=>cases (show u=Value.type n from r);rfl
section
variable {P:Program}{w:World}{H H':Hp}{h h':Heap}{a C dx:Addr}{fs fs':List (Str×V)}
theorem Hu(hok:HOk P w H h)(e:H a=some (.ins C dx fs)):∃mA,ObjM h a dx C mA/\(∀f,A1G (fs.lookup f) (mA f))/\PySem.Within mA (fs.map (·.1))/\fs.length<=1000/\H dx=some (.own a):=by
 obtain⟨d,z,ne,ob,mA,n,r,q⟩:=(show A0O P w H h a (.ins C dx fs) from hok a _ e);exact⟨mA,⟨ob,n,ne⟩,r,q,z,d⟩
end
structure Cls(K:PySem.W.Frag)(C:Addr):Prop where
 pg:PySem.W.plainGet K C Str.empty=true
 hd:PySem.W.hasDictIn K C=true
 po:PySem.W.plainOver K C=true
 sa:PySem.W.findIn K (.ref C) "__setattr__"=some (some (.builtin "object.__setattr__"))
theorem Cls.get{K:PySem.W.Frag}(c:Cls K C)(f:Str):PySem.W.plainGet K C f=true:=c.pg
def A0P(K:PySem.W.Frag)(C:Addr)(f:Str):Prop:=PySem.W.findIn K (.ref C) f=some none
theorem A0P.taker{K:PySem.W.Frag}(n:A0P K C f):PySem.W.takerIn K C f=some none:=by
 unfold PySem.W.takerIn;rw[show PySem.W.findIn K (.ref C) f=some none from n];rfl
structure Uq(K:PySem.W.Frag)(C:Addr)(m:Str)(f:Addr):Prop where
 at_:PySem.W.findIn K (.ref C) m=some (some (.ref f))
 fn:PySem.W.isFn K (.ref f)=true
 kp:PySem.W.keepIn K (.ref f)=true
section
variable {X:Cx}{pins:%[|14]}{σ:St}{H:Hp}{s:Shared}{a C dx:Addr}{fs:List (Str×V)}{f:Str}{v:V}{A:Around}{E:Value->Shared->Prop}
theorem Np(I:%[|5])(e:H a=some (.ins C dx fs))(c:Cls X.K C)(n:A0P X.K C f)(l:fs.lookup f=some v)(h:∀u s',%[|13] H s'->RelV v u->Q u s'):wpAny %[|15] A (getAttr (.ref a) f b) Q E s:=by
 obtain⟨mA,O,r,_,_,_⟩:=Hu I.hok e;obtain⟨u,hu,ru⟩:=A1G.some_of (v:=v) (o:=mA f) (by rw[<-l];exact r f);exact Vi I.kIn O (c.get f) c.hd n hu (QE ru) (h u _ (I.tok _) ru)
theorem HW(I:%[|5])(e:H a=some (.ins C dx fs))(c:Cls X.K C)(k:Uq X.K C m g)(l:fs.lookup m=none)(h:Q (.ref g,[.ref a]) s):wpAny %[|15] A (getMethod (.ref a) m pl) Q E s:=by
 obtain⟨mA,O,r,_,_,_⟩:=Hu I.hok e;have hn:mA m=none:=A1G.none_of (by rw[<-l];exact r m);exact RK I.kIn O (c.get m) k.at_ k.fn hn h
theorem Nc(I:%[|5])(e:H a=some (.ins C dx fs))(c:Cls X.K C)(n:A0P X.K C f)(hl:fs.length<1000)(ry:RelV y u)(h:∀s',%[|13] (upd H a (.ins C dx (BQ f y fs))) s'->Q () s'):wpAny %[|15] A (setAttr (.ref a) f u) Q E s:=by
 obtain⟨mA,O,r,wi,_,ho⟩:=Hu I.hok e;have hz:(fs.map (·.1)).length<=sizeLine:=by rw[List.length_map,sizeLine_eq];omega
 refine U6 I.kIn O c.sa c.po n.taker c.hd wi hz fun h' O' sb=>h _ ?_
 have hd:∃o,h'.get? dx=some o:=let ⟨o,_,_,e',_⟩:=O'.ns;⟨o,e'⟩
 refine I.write (x:=a) (e:=dx) (by rw[e];exact True.intro) (.inr ho) (fun b q hb z=>(sb.2 b hb).trans z) hd ?_;refine⟨by rw[Af O.ne];exact ho,?_,O.ne,O'.obj,_,O'.ns,fun g=>?_,fun g hg=>?_⟩
 ·have:=Gs f y fs;omega
 ·show A1G ((BQ f y fs).lookup g) (if g=f then some u else mA g);rw[Gx];by_cases q:g=f
  ·rw[if_pos q,if_pos q];exact ry
  ·rw[if_neg q,if_neg q];exact r g
 ·by_cases q:g=f
  ·rw[q];exact (FP f y fs).1
  ·refine (FP f y fs).2 g (wi g fun z=>hg ?_);show (if g=f then some u else mA g)=none;rw[if_neg q];exact z
theorem Inv.made(I:%[|5]):%[|13] (upd (upd H s.heap.objs.size (.own %[|40])) %[|40] (.ins C s.heap.objs.size []))
  { s with heap:=(s.heap.push PySem.W.emptyDict).push (PySem.W.instObj C s.heap.objs.size) }:=by
 have e1:(s.heap.push PySem.W.emptyDict).get? s.heap.objs.size=some PySem.W.emptyDict:=Heap.get?_push_size s.heap rfl
 have e2:((s.heap.push PySem.W.emptyDict).push (PySem.W.instObj C s.heap.objs.size)).get? %[|40]=some (PySem.W.instObj C s.heap.objs.size):=by
  have:=Heap.get?_push_size (s.heap.push PySem.W.emptyDict) (o:=PySem.W.instObj C s.heap.objs.size) rfl
  rwa [zAT] at this
 have e3:(s.heap.push PySem.W.emptyDict).Ns s.heap.objs.size (fun _=>none):=⟨PySem.W.emptyDict,#[],_,e1,rfl,(fun e he=>absurd he %[|2]),fun _=>rfl⟩;have I1:=I.laid (a:=s.heap.objs.size) (o:=.own %[|40]) (h':=s.heap.push PySem.W.emptyDict) (t':=s.toks) (fun b u q=>Heap.get?_push_of_some _ q) (zAB _) ⟨_,e1⟩;refine I1.laid (a:=s.heap.objs.size+1) (o:=.ins C s.heap.objs.size []) (t':=s.toks) (fun b u q=>Heap.get?_push_of_some _ q) (Nat.le_of_eq (zAT _ _)) ?_;have ne:s.heap.objs.size≠s.heap.objs.size+1:=zAI (zB4 _);refine⟨by rw[Af ne,A0A],zA5 _,ne,e2,fun _=>none,(Heap.Ns1.of_empty e3).at fun o q=>Heap.get?_push_of_some _ q,fun _=>True.intro,fun y hy=>absurd rfl hy⟩
theorem VJ(hb:attributeBase e f env (eval e env)=eval e env)(h:%[|27] (eval e env) (fun o s₁=>%[|27] (getAttr o f true) Q E s₁) E s):%[|27] (eval (.Attribute e f pos) env) Q E s:=
 Attribute_any_ h (by rw[arm_eval_Attribute,hb])
end
inductive WE(K:PySem.W.Frag)(f:Str)(Q:VK)(a:Addr)(H1:Hp):Prop where
 | mk {C dx fs v} (_:H1 a=some (.ins C dx fs)) (_:Cls K C) (_:A0P K C f) (_:fs.lookup f=some v) (_:Q v H1):WE K f Q a H1
def ZD(K:PySem.W.Frag)(f:Str)(Q:VK)(x:V)(H1:Hp):Prop:=vR (fun a=>WE K f Q a H1) x
def aj(K:PySem.W.Frag)(ta:TE)(f:Str):TE:=fun σ H Q=>ta σ H (ZD K f Q)
inductive WO(K:PySem.W.Frag)(f:Str)(D:BH)(σ:St)(y:V)(a:Addr)(H2:Hp):Prop where
 | mk {C dx fs} (_:H2 a=some (.ins C dx fs)) (_:Cls K C) (_:A0P K C f) (_:fs.length<1000) (_:D.nx σ (upd H2 a (.ins C dx (BQ f y fs)))):WO K f D σ y a H2
def Y8(K:PySem.W.Frag)(f:Str)(D:BH)(σ:St)(y:V)(x:V)(H2:Hp):Prop:=vR (fun a=>WO K f D σ y a H2) x
def aw(K:PySem.W.Frag)(ta tv:TE)(f:Str):TS:=fun D σ H=>tv σ H fun y H1=>ta σ H1 (Y8 K f D σ y)
section
variable {X:Cx}{o e value:Expr}{f:Str}{pos cb tpos:Pos}{ta tv:TE}
theorem AO(he:PE X e ta)(hb:attributeBase e f X.env (eval e X.env)=eval e X.env):PE X (.Attribute e f pos) (aj X.K ta f):=by
 exists 1;refine VJ hb (AU (he pins s σ H _ I h) fun u s1 ⟨x,H1,I1,rx,h1⟩=>?_);obtain⟨a,rfl,@⟨C,dx,fs,v,ea,c,n,l,q⟩⟩:=CU h1;obtain rfl:u=Value.ref a:=rx;exact Np I1 ea c n l fun u' s2 I2 ru=>⟨v,H1,I2,ru,q⟩
theorem Bz(ha:PE X o ta)(hv:PE X value tv)(hs:swapsWith value (some (.Attribute o f cb)) pos.line X.env=pure false):PS X (.Assign [.Attribute o f cb] value pos) (aw X.K ta tv f):=by
 exists 9;refine plainObj_wpAny_Assign_Attribute (AU (hv pins s σ H _ I h) fun u s1 ⟨y,H1,I1,ry,q⟩=>AU (ha pins s1 σ H1 _ I1 q) fun ov s2 ⟨x,H2,I2,rx,h2⟩=>?_) hs;obtain⟨a,rfl,@⟨C,dx,fs,ea,c,n,l,q2⟩⟩:=CU h2;obtain rfl:ov=Value.ref a:=rx;exact Nc I2 ea c n l ry fun s3 I3=>⟨σ,_,I3,q2⟩
end
section
variable {X:Cx}{pins:%[|14]}{σ:St}{H:Hp}{s:Shared}{A:Around}{E:Value->Shared->Prop}{Q:Value->Shared->Prop}{c:Value}{b:Bool}
inductive Gc(K:PySem.W.Frag)(H:Hp):V->Value->Prop where
 | non:Gc K H .non (.type "NoneType")
 | bl (x:Bool):Gc K H (.bl x) (.type "bool")
 | int (i:Int):Gc K H (.int i) (.type "int")
 | str (x:Str):Gc K H (.str x) (.type "str")
 | flt (x:UInt64):Gc K H (.flt x) (.type "float")
 | lst {a:Addr} {xs:List V} (e:H a=some (.lst xs)):Gc K H (.ref a) (.type "list")
 | frz {a:Addr} {o:Obj} {xs:List V} (e:H a=some (.frz o (.lst xs))):Gc K H (.ref a) (.type "list")
 | tup {a:Addr} {xs:List V} (e:H a=some (.tup xs)):Gc K H (.ref a) (.type "tuple")
 | dK {a:Addr} {bQ:List (DX×V)} (e:H a=some (.dK bQ)):Gc K H (.ref a) (.type "dict")
 | dT {a:Addr} {bQ:List (List DX×V)} (e:H a=some (.dT bQ)):Gc K H (.ref a) (.type "dict")
 | ins {a C dx:Addr} {fs:List (Str×V)} (e:H a=some (.ins C dx fs)) (cl:Cls K C) (ha:PySem.W.findIn K (.ref C) "__class__"=some (some (.builtin "object.__class__")))
   (hn:PySem.W.specialIn K (.builtin "object.__class__") "__get__"=some (some (.builtin "getset_descriptor.__get__"))) (htk:PySem.W.takesIn K (.builtin "object.__class__")=some true)
   (hm:PySem.W.mroIn K C (.type "object")=some true):Gc K H (.ref a) (.ref C)
theorem Ql(I:%[|5])(rx:RelV x u)(ty:Gc X.K H x t)(e:PySem.W.kitOne X.K t c=some b)(h:∀tk,Q (.bool b) { s with toks:=tk }):
  wpAny %[|15] A (call (.builtin "isinstance") [u,c]) Q E s:=by
 cases ty with
 | non=>cases (show u=Value.none from rx);exact zBL PySem.W.kitx_none I.kIn True.intro e (fun z=>nomatch z) h
 | bl y=>cases (show u=Value.bool y from rx);exact zBL PySem.W.kitx_bool I.kIn True.intro e (fun z=>nomatch z) h
 | int i=>obtain⟨t,q⟩:=(show ∃t,u=Value.int i t from rx);cases q;exact zBL PySem.W.kitx_int I.kIn True.intro e (fun z=>nomatch z) h
 | str y=>obtain⟨t,q⟩:=(show ∃t,u=Value.str y t from rx);cases q;exact zBL PySem.W.kitx_str I.kIn True.intro e (fun z=>nomatch z) h
 | flt y=>obtain⟨t,q⟩:=(show ∃t,u=Value.float y t from rx);cases q;exact zBL PySem.W.kitx_float I.kIn True.intro e (fun z=>nomatch z) h
 | @lst a xs ea=>
  cases (show u=Value.ref a from rx);obtain⟨_,_,n,_,h1⟩:=(show A0O X.prog X.w H s.heap a (.lst xs) from I.hok a _ ea);exact zBL PySem.W.kitx_list I.kIn ⟨_,h1,rfl⟩ e (fun z=>nomatch z) h
 | @frz a ob xs ea=>
  cases (show u=Value.ref a from rx);obtain⟨_,_,_,n,_,h1⟩:=(show A0O X.prog X.w H s.heap a (.frz ob (.lst xs)) from I.hok a _ ea);exact zBL PySem.W.kitx_list I.kIn ⟨_,h1,rfl⟩ e (fun z=>nomatch z) h
 | @tup a xs ea=>
  cases (show u=Value.ref a from rx);obtain⟨_,_,_,p⟩:=(show A0O X.prog X.w H s.heap a (.tup xs) from I.hok a _ ea);obtain⟨o,h1,h2,_⟩:=p;exact zBL PySem.W.kitx_tuple I.kIn ⟨o,h1,h2⟩ e (fun z=>nomatch z) h
 | @dK a bQ ea=>
  cases (show u=Value.ref a from rx);obtain⟨_,_,vs,_,p⟩:=(show A0O X.prog X.w H s.heap a (.dK bQ) from I.hok a _ ea);obtain⟨o,es,ep,h1,h2,_⟩:=p;exact zBL PySem.W.kitx_dict I.kIn ⟨o,h1,h2.1⟩ e (fun z=>nomatch z) h
 | @dT a bQ ea=>
  cases (show u=Value.ref a from rx);obtain⟨_,_,xs,_,o,es,ep,h1,h2,_⟩:=(show A0O X.prog X.w H s.heap a (.dT bQ) from I.hok a _ ea);exact zBL PySem.W.kitx_dict I.kIn ⟨o,h1,h2.1⟩ e (fun z=>nomatch z) h
 | @ins a C dx fs ea cl ha hn htk hm=>
  cases (show u=Value.ref a from rx);obtain⟨mA,O,_⟩:=Hu I.hok ea;obtain⟨od,J,_⟩:=O.look;exact zBL (PySem.W.kitx_own (cl.get _) cl.hd ha hn htk hm) I.kIn J e (fun z=>nomatch z) h
end
structure A0J(k:Nat)(A:Around):Prop where
 hd:A.handled=none
 dp:A.depth+3*k+5<recursionLimit
 un:A.units+16*k+200<cLine
theorem A0J.mono(r:A0J k A)(h:j<=k):A0J j A:=⟨r.hd,by have:=r.dp;omega,by have:=r.un;omega⟩
theorem A0J.deeper(r:A0J (k+1) A)(env:Env):A0J k (A.deeper env):=
 ⟨r.hd,by have:=r.dp;show A.depth+1+3*k+5<_;omega,by have:=r.un;show A.units+3+16*k+200<_;omega⟩
theorem N0{A:Around}{C:Addr}{us:%[|7]}{kw:List (Str×Value)}:(A.under (.builtin "type.__call__" ⟨.ref C::us,kw⟩)).depth=A.depth+1:=by
 first | rfl | simp[Around.under,Code.weight,Code.isCreation,Code.isGuard,Code.isCaller,Code.frames,Code.isFrame,guardIds]
theorem Oy{A:Around}{C:Addr}{us:%[|7]}{kw:List (Str×Value)}:(A.under (.builtin "type.__call__" ⟨.ref C::us,kw⟩)).units=A.units+1:=by
 first | rfl | simp[Around.under,Code.cUnits,Code.frames,Code.isFrame]
theorem A0J.make(r:A0J (k+1) A)(C:Addr)(us:%[|7])(kw:List (Str×Value)):A0J k (A.under (.builtin "type.__call__" ⟨.ref C::us,kw⟩)):=
 ⟨r.hd,by have:=r.dp;rw[N0];omega,by have:=r.un;rw[Oy];omega⟩
theorem A0J.depth(r:A0J k A):A.depth<recursionLimit:=by have:=r.dp;omega
theorem A0J.units0(r:A0J k A):A.units<cLine:=by have:=r.un;omega
def Of:TA:=fun _ H Q=>Q [] H
def LG(ta:TE)(tr:TA):TA:=fun σ H Q=>ta σ H fun x H1=>tr σ H1 fun xs H2=>Q (x::xs) H2
section
variable {X:Cx}{e:Expr}{es:%[|20]}{te:TE}{t:TA}{pos:Pos}
theorem Bi:PA X [] Of:=fun _ _ _ _ H Q I h=>Calls.spliced_nil ⟨[],H,I,.nil,h⟩
theorem Aj(ha:PE X e te)(hr:PA X es t)(hs:starEach (e::es) X.env=%[|51]::starEach es X.env:=by rfl):PA X (e::es) (LG te t):=by
 intro pos pins s σ H Q I h;rw[hs];show wpAny _ _ (spliced (%[|51]::backTo pos (starEach es X.env))) _ _ s;refine Calls.spliced_cons (AU %[|56] fun u s1 ⟨x,H1,I1,r1,q1⟩=>?_);exact AU (hr pos pins s1 σ H1 _ I1 q1) fun us s2 ⟨xs,H2,I2,r2,q2⟩=>⟨x::xs,H2,I2,.cons r1 r2,q2⟩
def aH(t:TA):TE:=fun σ H Q=>t σ H fun xs H1=>xs.length<=sizeLine/\∀p,H1 p=none->Q (.ref p) (upd H1 p (.tup xs))
def ZX(t:TA):TE:=fun σ H Q=>t σ H fun xs H1=>xs.length<=sizeLine/\∀p,H1 p=none->Q (.ref p) (upd H1 p (.lst xs))
theorem Be {x1} (h:PA X es t):PE X (.Tuple es x1 pos) (aH t):=by
 intro pins s σ H Q I hq;refine wpAny_Tuple_spliced (AU (h pos pins s σ H _ I hq) fun us s1 ⟨xs,H1,I1,r,z,q⟩=>⟨by rw[<-r.length];exact z,?_⟩);have hf:H1 s1.heap.objs.size=none:=I1.hok.fresh (zAB _);refine⟨.ref s1.heap.objs.size,upd H1 s1.heap.objs.size (.tup xs),I1.laid (t':=s1.toks) (fun b u e=>Heap.get?_push_of_some _ e) (zAB _) ?_,rfl,q _ hf⟩;exact⟨z,us,r,⟨_,Heap.get?_push_size _ rfl,rfl,_,rfl⟩⟩
theorem Av(h:PA X es t):PE X (.List es pos) (ZX t):=by
 intro pins s σ H Q I hq;refine wpAny_List_spliced (AU (h pos pins s σ H _ I hq) fun us s1 ⟨xs,H1,I1,r,z,q⟩=>⟨by rw[<-r.length];exact z,?_⟩);have hf:H1 s1.heap.objs.size=none:=I1.hok.fresh (zAB _);refine⟨.ref s1.heap.objs.size,upd H1 s1.heap.objs.size (.lst xs),I1.laid (t':=s1.toks) (fun b u e=>Heap.get?_push_of_some _ e) (zAB _) ?_,rfl,q _ hf⟩;exact⟨z,us,0,r,Heap.get?_push_size _ rfl⟩
end
abbrev Sp:=List V->Hp->VK->XK->Prop
abbrev Jp:=List Env->Hp->Shared->XK->Value->Shared->Prop
structure Env0(P:Program)(w:World)(K:PySem.W.Frag)(mg:Str->%[|4])(base:Heap)(A:Around)(outer:List Env)(s:Shared)(H:Hp):Prop where
 frames:A.frames=some outer
 mod:Mod K mg base
 bs:∀b o,base.get? b=some o->s.heap.get? b=some o/\H b=none
 bsz:base.objs.size<=s.heap.objs.size
 funs:s.heap.FunFrames base outer
 frf:∀b∈Hv outer,H b=none
 hok:HOk P w H s.heap
 bare:AllBare s.gens
def CE(outer:List Env)(P:Program)(w:World)(H:Hp)(s:Shared)(Q:VK)(u:Value)(s':Shared):Prop:=
 ∃v H',s'.os=s.os/\AllBare s'.gens/\Un (Hv outer) [] H H' s.heap s'.heap/\HOk P w H' s'.heap/\RelV v u/\Q v H'
def CR(CX:Jp)(outer:List Env)(P:Program)(w:World)(H:Hp)(s:Shared)(Q:VK)(E:XK)(r:Result)(s':Shared):Prop:=
 match r with
 | .ok (.ret u)=>CE outer P w H s Q u s'
 | .ok _=>False
 | .error e=>CX outer H s E e s'
structure Ew(P:Program)(w:World)(K:PySem.W.Frag)(mg:Str->%[|4])(base:Heap)(CX:Jp)(k:Nat)(f:Addr)(fd:FuncData)(ps:List Str)(sp:Sp):Prop where
 len:∀vs H Q E,sp vs H Q E->vs.length=ps.length
 run:∀(A:Around)(outer:List Env)(s:Shared)(H:Hp)(args:Args)(us:%[|7])(vs:List V)(Q:VK)(E:XK),A0J k A->Env0 P w K mg base A outer s H->BindsTo s fd args (ps.zip us)->Vals vs us->sp vs H Q E->
  codeAny (model P w) A (.call (.ref f) args) (CR CX outer P w H s Q E) s
theorem Env0.make{K:PySem.W.Frag}(e:Env0 P w K mg base A outer s H)(C:Addr)(us:%[|7])(kw:List (Str×Value)):
  Env0 P w K mg base (A.under (.builtin "type.__call__" ⟨.ref C::us,kw⟩)) outer s H:=⟨by first | exact e.frames | (simpa [Around.under,Code.envs,Code.isFrame,pushEnvs] using e.frames),e.mod,e.bs,e.bsz,e.funs,e.frf,e.hok,e.bare⟩
section
variable {X:Cx}{pins:%[|14]}{σ:St}{H:Hp}{s s':Shared}
theorem Inv.env0(I:%[|5]):Env0 X.prog X.w X.K X.mg X.base X.A X.stack s H:=
 ⟨I.ok.frames,I.ok.mod,I.bs,zAD I.ok.bsz I.sz,I.stack,I.stkFree,I.hok,I.bare⟩
theorem Inv.after(I:%[|5])(h:CE X.stack X.prog X.w H s Q u s'):%[|36] u s':=by
 obtain⟨v,H',os,bare,un,hok,r,q⟩:=h;obtain⟨hh,g,d,t,os'⟩:=s';obtain rfl:os'=s.os:=os;exact⟨v,H',I.call (h':=hh) (g':=g) (d':=d) (t':=t) (ch:=[]) un hok bare (fun b z=>absurd z %[|2]),r,q⟩
end
def OS(sp:Sp)(cf:List V)(E:XK)(t:TA):TE:=fun σ H Q=>t σ H fun vs H1=>sp (vs++cf) H1 Q E
inductive Rv(C:Addr)(m:Str)(sp:Sp)(cf:List V)(E:XK)(t:TA)(σ:St)(Q:VK)(a:Addr)(H1:Hp):Prop where
 | mk {dx fs} (_:H1 a=some (.ins C dx fs)) (_:fs.lookup m=none) (_:t σ H1 fun vs H2=>sp (.ref a::(vs++cf)) H2 Q E):Rv C m sp cf E t σ Q a H1
def Yr(C:Addr)(m:Str)(sp:Sp)(cf:List V)(E:XK)(t:TA)(σ:St)(Q:VK)(x:V)(H1:Hp):Prop:=vR (fun a=>Rv C m sp cf E t σ Q a H1) x
def O1(C:Addr)(m:Str)(sp:Sp)(cf:List V)(E:XK)(ta:TE)(t:TA):TE:=fun σ H Q=>ta σ H (Yr C m sp cf E t σ Q)
def WZ(C:Addr)(sp:Sp)(cf:List V)(E:XK)(t:TA):TE:=fun σ H Q=>t σ H fun vs H1=>∀x dx,H1 x=none->H1 dx=none->dx≠x->
 sp (.ref x::(vs++cf)) (upd (upd H1 dx (.own x)) x (.ins C dx [])) (fun v H2=>v= .non/\Q (.ref x) H2) E
def Binds(K:PySem.W.Frag)(fd:FuncData)(ps:List Str)(ds:%[|7]):Prop:=
 ∀s us,K.In s.heap->(us++ds).length=ps.length->BindsTo s fd ⟨us,[]⟩ (ps.zip (us++ds))
theorem Binds.all{K:PySem.W.Frag}(h:∀us:%[|7],us.length=ps.length->bindArgs fd ⟨us,[]⟩=pure (ps.zip us)):Binds K fd ps []:=fun s us _ hl=>by
 rw[zA6] at hl ⊢;exact .of_eq (h us hl)
def Cn(CX:Jp)(X:Cx)(E:XK):Prop:=∀pins(σ:St)H s e s',%[|5]->CX X.stack H s E e s'->X.xe e s'
section
variable {X:Cx}{CX:Jp}{k:Nat}{f C:Addr}{fd:FuncData}{ps:List Str}{sp:Sp}{cf:List V}{ds:%[|7]}{E:XK}{x m:Str}{p pos bD:Pos}{e o:Expr}{es:%[|20]}{ta:TE}{t:TA}
theorem NJ(F:%[|69])(hr:A0J k X.A)(hb:Binds X.K fd ps ds)(hd:Vals cf ds)(hx:Cn CX X E)(I:%[|5])(r:Vals vs us)(h:sp (vs++cf) H Q E):%[|19] (call (.ref f) us) (%[|36]) X.xe s:=by
 have r2:Vals (vs++cf) (us++ds):=r.append hd;have hl:(us++ds).length=ps.length:=by rw[<-r2.length];exact F.len _ _ _ _ h
 refine wpAny_call (codeAny_mono (F.run X.A X.stack s H ⟨us,[]⟩ (us++ds) (vs++cf) Q E hr I.env0 (hb s us I.kIn hl) r2 h) fun r s' hq=>?_)
 cases r with
 | error e=>exact hx pins σ H s e s' I hq
 | ok fl=>
  cases fl with
  | ret u=>exact I.after hq
  | next=>exact False.elim hq
  | brk=>exact False.elim hq
  | cont=>exact False.elim hq
theorem VV(F:%[|69])(hr:A0J k X.A)(hg:Gl X x)(hm:X.mg x=some (.ref f))(hk:PySem.W.keepIn X.K (.ref f)=true)(hb:Binds X.K fd ps ds)(hd:Vals cf ds)(hx:Cn CX X E)(ha:PA X (e::es) t)(du:%[|49]=false:=by decide)(he:starEach (e::es) X.env=%[|51]::starEach es X.env:=by rfl)(bB:%[|60].any (·.1)=false:=by rfl):
  PE X %[|68] (OS sp cf E t):=by
 exists 1;refine wpAny_Call_Name_kw (Et I hg hm ?_ du);refine zCI (h₀:=X.base) I.ok.mod.kin hk (AU (ha pos pins s σ H _ I h) fun us s1 ⟨vs,H1,I1,r,q⟩=>⟨I1.kIn,?_⟩) he bB;exact NJ F hr hb hd hx I1 r q
theorem UQ(he:PE X o ta)(c:Cls X.K C)(hm:Uq X.K C m f)(F:%[|69])(hr:A0J k X.A)(hb:Binds X.K fd ps ds)(hd:Vals cf ds)(hx:Cn CX X E)(ha:PA X (e::es) t)(bW:starEach (e::es) X.env=%[|51]::starEach es X.env:=by rfl)(bB:%[|60].any (·.1)=false:=by rfl)(ht:eval (.Call (.Attribute o m bD) (e::es) [] pos) X.env=(do
   let ov <-eval o X.env
   standAt bD.atName
   let (f,first) <-holding [ov] (getMethod ov m pl)
   callWith pos f first (backTo pos (starEach (e::es) X.env)) (backToKw pos (keywordEach [] X.env))):=by rfl):
  PE X (.Call (.Attribute o m bD) (e::es) [] pos) (O1 C m sp cf E ta t):=by
 exists 1;refine PySem.W.methodCall_KW (pl:=pl) (AU (he pins s σ H _ I h) fun u s1 ⟨x,H1,I1,rx,h1⟩=>?_) ht;obtain⟨a,rfl,@⟨dx,fs,ea,l,q⟩⟩:=CU h1;obtain rfl:u=Value.ref a:=rx;refine HW I1 ea c hm l ?_;refine zCI (first:=[.ref a]) (h₀:=X.base) I.ok.mod.kin hm.kp (AU (ha pos pins s1 σ H1 _ I1 q) fun us s2 ⟨vs,H2,I2,r,q2⟩=>⟨I2.kIn,?_⟩) bW bB;exact NJ (us:=.ref a::us) (vs:=.ref a::vs) F hr hb hd hx I2 (.cons rfl r) q2
theorem TV(he:PE X o ta)(c:Cls X.K C)(hm:Uq X.K C m f)(F:%[|69])(hr:A0J k X.A)(hb:Binds X.K fd ps ds)(hd:Vals cf ds)(hx:Cn CX X E)(ht:eval (.Call (.Attribute o m bD) [] [] pos) X.env=(do
   let ov <-eval o X.env
   standAt bD.atName
   let (f,first) <-holding [ov] (getMethod ov m pl)
   callWith pos f first (backTo pos (starEach [] X.env)) (backToKw pos (keywordEach [] X.env))):=by rfl):
  PE X (.Call (.Attribute o m bD) [] [] pos) (O1 C m sp cf E ta Of):=by
 exists 1;refine PySem.W.methodCall_KW (pl:=pl) (AU (he pins s σ H _ I h) fun u s1 ⟨x,H1,I1,rx,h1⟩=>?_) ht;obtain⟨a,rfl,@⟨dx,fs,ea,l,q⟩⟩:=CU h1;obtain rfl:u=Value.ref a:=rx;refine HW I1 ea c hm l ?_;exact PySem.W.callWith_K0 (first:=[.ref a]) I1.kIn hm.kp (NJ (us:=[.ref a]) (vs:=[.ref a]) F hr hb hd hx I1 (.cons rfl .nil) q)
structure Mk(K:PySem.W.Frag)(C f:Addr):Prop where
 makes:PySem.W.makesIn K C=true
 init:PySem.W.findIn K (.ref C) "__init__"=some (some (.ref f))
 fn:PySem.W.isFn K (.ref f)=true
 kp:PySem.W.keepIn K (.ref C)=true
theorem Sg(M:Mk X.K C f)(F:%[|69])(hr:A0J (k+1) X.A)(hb:Binds X.K fd ps ds)(hd:Vals cf ds)(hx:Cn CX X E)(I:%[|5])(r:Vals vs us)(h:∀x dx,H x=none->H dx=none->dx≠x->sp (.ref x::(vs++cf)) (upd (upd H dx (.own x)) x (.ins C dx [])) (fun v H2=>v= .non/\Q (.ref x) H2) E):
  wpAny %[|15] X.A (call (.ref C) us) (%[|36]) X.xe s:=by
 have hq:=h %[|40] s.heap.objs.size (I.hok.fresh (zBA _)) (I.hok.fresh (zAB _)) (zAI (zB4 _));have I2:=Inv.made (C:=C) I;have r2:Vals (V.ref %[|40]::(vs++cf)) (Value.ref %[|40]::(us++ds)):=.cons rfl (r.append hd)
 have hl:(Value.ref %[|40]::us++ds).length=ps.length:=by
  have e:=r2.length;rw[F.len _ _ _ _ hq] at e;exact e.symm
 refine wpAny_call (Ry (f:=f) I.kIn M.makes M.init (beq_iff_eq.mp M.fn) (codeAny_mono (F.run _ X.stack _ _ ⟨Value.ref %[|40]::us,[]⟩ (Value.ref %[|40]::(us++ds)) _ _ E (hr.make C us [])
  (I2.env0.make C us []) (hb _ (Value.ref %[|40]::us) I2.kIn hl) r2 hq) fun r s' hq'=>?_))
 cases r with
 | error e=>exact hx pins σ _ _ e s' I2 hq'
 | ok fl=>
  cases fl with
  | ret u=>
   obtain⟨v,H',I3,rv,ev,q3⟩:=I2.after hq';subst ev;exact⟨rv,⟨V.ref %[|40],H',I3,rfl,q3⟩⟩
  | next=>exact False.elim hq'
  | brk=>exact False.elim hq'
  | cont=>exact False.elim hq'
theorem VL(M:Mk X.K C f)(F:%[|69])(hr:A0J (k+1) X.A)(hg:Gl X x)(hm:X.mg x=some (.ref C))(hb:Binds X.K fd ps ds)(hd:Vals cf ds)(hx:Cn CX X E)(ha:PA X (e::es) t)(du:%[|49]=false:=by decide)(he:starEach (e::es) X.env=%[|51]::starEach es X.env:=by rfl)(bB:%[|60].any (·.1)=false:=by rfl):
  PE X %[|68] (WZ C sp cf E t):=by
 exists 1;refine wpAny_Call_Name_kw (Et I hg hm ?_ du);refine zCI (h₀:=X.base) I.ok.mod.kin M.kp (AU (ha pos pins s σ H _ I h) fun us s1 ⟨vs,H1,I1,r,q⟩=>⟨I1.kIn,?_⟩) he bB;exact Sg M F hr hb hd hx I1 r q
end
section
variable {X:Cx}{CX:Jp}{k:Nat}{f C:Addr}{fd:FuncData}{ps ks:List Str}{sp:Sp}{E:XK}{x m:Str}{p pos bD kpos:Pos}{e o:Expr}{es:%[|20]}{kws:List Keyword}{te ta:TE}{t tk:TA}{nm:Option Str}
variable {g:%[|7]->%[|7]->%[|7]}{gV:List V->List V->List V}
end
structure D8(N P:List Str)(sc:Scope):Prop where
 kind:sc.kind= .function
 co:sc.isCoroutine=false
 gen:sc.isGenerator=false
 nd:N.Nodup
 pre:N.take P.length=P
 par:∀x∈P,sc.names.lookup x=some .local\/sc.names.lookup x=some .cell
 nofree:∀y∈sc.names,y.2≠.free
theorem Ju{kindOf:Str->Option NameKind}{x:Str}:∀{binds:List (Str×Value)}{m:Str->%[|4]},(∀v,(x,v)∉binds)->bindL kindOf binds m x=m x
 | [],_,_=>rfl
 | (n,v)::r,m,h=>by
  unfold bindL;rw[Ju fun w hw=>h w (List.mem_cons_of_mem _ hw)];split
  ·have:x≠n:=by rintro rfl;exact h v List.mem_cons_self
   simp[this]
  ·rfl
theorem JO{kindOf:Str->Option NameKind}{x:Str}:∀{binds:List (Str×Value)}{m:Str->%[|4]},(∀v,(x,v)∉binds)->bindC kindOf binds m x=m x
 | [],_,_=>rfl
 | (n,v)::r,m,h=>by
  unfold bindC;rw[JO fun w hw=>h w (List.mem_cons_of_mem _ hw)];split
  ·rfl
  ·have:x≠n:=by rintro rfl;exact h v List.mem_cons_self
   simp[this]
theorem JG{kindOf:Str->Option NameKind}{x:Str}{v:Value}:∀{P:List Str}{vs:%[|7]}{i:Nat}{m:Str->%[|4]},P.Nodup->P[i]? = some x->vs[i]? = some v->kindOf x=some .local->
  bindL kindOf (P.zip vs) m x=some v
 | [],_,_,_,_,h,_,_=>by simp at h
 | _::_,[],_,_,_,_,h,_=>by simp at h
 | p::P,w::vs,0,m,nd,h1,h2,hk=>by
  simp at h1 h2;subst h1;subst h2;show bindL kindOf ((p,w)::P.zip vs) m p=_;unfold bindL;rw[Ju fun v hv=>(List.nodup_cons.mp nd).1 (List.of_mem_zip hv).1,if_pos hk];simp
 | p::P,w::vs,i+1,m,nd,h1,h2,hk=>by
  show bindL kindOf ((p,w)::P.zip vs) m x=_;unfold bindL;exact JG (i:=i) (List.nodup_cons.mp nd).2 (by simpa using h1) (by simpa using h2) hk
theorem Jj{kindOf:Str->Option NameKind}{x:Str}{v:Value}:∀{P:List Str}{vs:%[|7]}{i:Nat}{m:Str->%[|4]},P.Nodup->P[i]? = some x->vs[i]? = some v->kindOf x≠some .local->
  bindC kindOf (P.zip vs) m x=some v
 | [],_,_,_,_,h,_,_=>by simp at h
 | _::_,[],_,_,_,_,h,_=>by simp at h
 | p::P,w::vs,0,m,nd,h1,h2,hk=>by
  simp at h1 h2;subst h1;subst h2;show bindC kindOf ((p,w)::P.zip vs) m p=_;unfold bindC;rw[JO fun v hv=>(List.nodup_cons.mp nd).1 (List.of_mem_zip hv).1,if_neg hk];simp
 | p::P,w::vs,i+1,m,nd,h1,h2,hk=>by
  show bindC kindOf ((p,w)::P.zip vs) m x=_;unfold bindC;exact Jj (i:=i) (List.nodup_cons.mp nd).2 (by simpa using h1) (by simpa using h2) hk
def Ez(N:List Str)(vs:List V):St:=vs.map some++List.replicate (N.length-vs.length) none
def Jf(CX:Jp)(P:Program)(w:World)(K:PySem.W.Frag)(mg:Str->%[|4])(base:Heap)(N:List Str)(bv:Str)(scope:Scope)(f:Addr)(cd:Value)(A:Around)(outer:List Env)(s:Shared)(H:Hp)(E:XK):Cx where
 prog:=P
 w:=w
 K:=K
 mg:=mg
 base:=base
 A:=A.deeper (envOfC bv scope s.heap.objs.size f cd)
 N:=N
 s₀:=s
 H₀:=H
 env:=envOfC bv scope s.heap.objs.size f cd
 outer:=outer
 stack:=envOfC bv scope s.heap.objs.size f cd::outer
 ex:=[]
 calm:=true
 fn:=fun _=>true
 pn:=[]
 xe:=fun e s'=>wpAny (model P w) (A.deeper (envOfC bv scope s.heap.objs.size f cd)) (leaving (envOfC bv scope s.heap.objs.size f cd) e) (fun _ s''=>CX outer H s E e s'') (fun e' s''=>CX outer H s E e' s'') s'
theorem MJ{sc:Scope}{n:Nat}{x:Str}(h:sc.names.lookup x=some .cell):∃c,(cellsFrom n sc.names []).lookup x=some c:=by
 have q:=PySem.W.cellsFrom_some sc.names n [] (.inl h);exact Option.isSome_iff_exists.mp q
theorem QL{K:PySem.W.Frag}(S:D8 N ps scope)(hd:A.handled=none)(e0:Env0 P w K mg base A outer s H)(hl:vs.length=ps.length)(r:Vals vs us)(x:InCallC s s.heap.objs.size (bindL (envOfC bv scope s.heap.objs.size f cd).kindOf (ps.zip us) fun _=>none) (cellsFrom %[|40] scope.names []) (bindC (envOfC bv scope s.heap.objs.size f cd).kindOf (ps.zip us) fun _=>none) s1):
  Inv (%[|80] cd A outer s H E) [] (Ez N vs) H s1:=by
 have bB:ps.length<=N.length:=by have:=congrArg List.length S.pre;rw[zAW] at this;omega
 obtain⟨h1,tk,rfl,hk⟩:=x.done;have noA:∀b:Addr,b∉(%[|80] cd A outer s H E).ex:=fun b z=>absurd (show b∈([]:%[|6]) from z) %[|2]
 refine⟨⟨e0.mod,S.kind,rfl,rfl,zAB _,fun y z c h1 h2=>?_,fun y hy=>?_,fun y c _ h=>?_,fun _=>hd,Around.frames_deeper e0.frames,.inr ⟨rfl,rfl⟩,fun b z=>absurd z (noA b),e0.bs,e0.bsz,fun b _ _=>noA b,fun b z=>absurd z (noA b),e0.funs,e0.frf⟩,
  rfl,e0.bare,Un.kept hk,⟨_,x.toInCall.ns,fun i y v h1 h2 h3=>?_⟩,fun y c h=>⟨_,x.cell y c h⟩,e0.hok.fresh (zAB _),fun y c h=>?_,fun p hp=>absurd (show p∈([]:%[|14]) from hp) %[|2],e0.hok.kept hk,?_⟩
 ·exact name_of_addr x.apart (zAZ h1) (zAZ h2)
 ·have hy:scope.names.lookup y=some .cell\/scope.names.lookup y=some .free:=hy;rcases hy with hy | hy
  ·exact MJ hy
  ·exact absurd rfl (S.nofree _ (zAZ hy))
 ·exact zA7 (x.above y c (zAZ h))
 ·have hi:i<vs.length:=by
   unfold Ez at h2;by_cases hi:i<vs.length
   ·exact hi
   ·rw[List.getElem?_append_right (by simpa using hi)] at h2;rw[List.getElem?_replicate] at h2;split at h2<;>cases h2
  have ha:vs[i]? = some v:=by
   unfold Ez at h2;rw[List.getElem?_append_left (by simpa using hi),List.getElem?_map] at h2
   cases e:vs[i]? with
   | none=>rw[e] at h2;cases h2
   | some a=>rw[e] at h2;cases h2;rfl
  obtain⟨u,hu,rv⟩:=r.get ha
  have hp:ps[i]? = some y:=by
   rw[<-S.pre,List.getElem?_take_of_lt %[|1]];exact h1
  have ndP:ps.Nodup:=by rw[<-S.pre];exact S.nd.sublist (List.take_sublist _ _)
  refine⟨u,rv,?_⟩;rcases S.par y (zAN hp) with k | k
  ·exact .inl ⟨k,JG ndP hp hu k⟩
  ·obtain⟨c,e⟩:=MJ (n:=s.heap.objs.size+1) k;refine .inr ⟨.inl k,c,e,?_⟩;have q:=x.cell y c e;rw[Jj ndP hp hu (by show scope.names.lookup y≠_;rw[k];decide)] at q;exact q
 ·exact e0.hok.fresh (zA7 (x.above y c (zAZ h)))
 ·unfold Ez;show _=N.length;rw[zA,List.length_map,zC8];omega
theorem WJ{K:PySem.W.Frag}{dV kV de pm bp ct oc:Value}(lk:K.lookup f=some ⟨oc,od,.func (PySem.W.fnOf name bv params body scope dV kV de pm an bp ct),hV⟩)(eC:PySem.W.codeIn K bp bv=true)(S:D8 N ps scope)(len:∀vs H Q E,sp vs H Q E->vs.length=ps.length)(eE:∀(A:Around) (outer:List Env) (s:Shared) (H:Hp) (vs:List V) (Q:VK) (E:XK),A0J k (A.deeper (envOfC bv scope s.heap.objs.size f bp))->sp vs H Q E->
   ∃t,PSs (%[|80] bp A outer s H E) body t/\t { nx:=fun _ H'=>Q .non H',rt:=Q } (Ez N vs) H):
  Ew P w K mg base CX (k+1) f (PySem.W.fnOf name bv params body scope dV kV de pm an bp ct) ps sp:=by
 refine⟨len,fun A outer s H args us vs Q E hr e0 hb r dw=>?_⟩;have hl:=len _ _ _ _ dw;have KX:K.In s.heap:=e0.mod.kin.keeps fun b o e=>(e0.bs b o e).1
 have lim:s.heap.NoLimit:=e0.mod.nolimit.keeps fun b o e=>(e0.bs b o e).1
 have hkind:∀y∈ps.zip us,scope.names.lookup y.1=some .local\/(scope.names.lookup y.1=some .cell/\((cellsFrom %[|40] scope.names []).lookup y.1).isSome=true):=fun⟨n,v⟩ hy=>by
  rcases S.par n (List.of_mem_zip hy).1 with q | q
  ·exact .inl q
  ·exact .inr ⟨q,PySem.W.cellsFrom_some _ _ _ (.inl q)⟩
 refine codeAny_call_function hr.depth (KX _ _ lk) rfl S.co S.gen rfl (PySem.W.codeRec_of KX eC) (hb _ _ _ _ ?_);refine wpAny_newFunctionEnv_cells S.kind hkind fun env he s1 x=>?_
 subst he;refine⟨lim.keeps x.toInCall.keep,codeAny_func ?_⟩;obtain⟨t,ht,hq⟩:=eE A outer s H vs Q E (hr.deeper _) dw;have I:Inv (%[|80] bp A outer s H E) [] (Ez N vs) H s1:=QL S hr.hd e0 hl r x;refine wpAny_mono (ht [] s1 (Ez N vs) H _ I hq) (fun fl s' hs=>?_) fun e s' hs=>hs
 have bC:∀{σ':St}{H':Hp}{v:V}{u:Value},Inv (%[|80] bp A outer s H E) [] σ' H' s'->RelV v u->Q v H'->CE outer P w H s Q u s':=
  fun {σ' H' v u} J rv q=>⟨v,H',J.os,J.bare,J.base,J.hok,rv,q⟩
 cases fl with
 | ret u=>
  obtain⟨v,σ',H',J,rv,q⟩:=hs;exact bC J rv q
 | next=>
  obtain⟨σ',H',J,q⟩:=hs;exact bC (v:=V.non) (u:=Value.none) J rfl q
 | brk=>
  obtain⟨_,_,_,q⟩:=hs;exact False.elim q
 | cont=>
  obtain⟨_,_,_,q⟩:=hs;exact False.elim q
section
variable {X:Cx}{x:Str}{p pos:Pos}{e:Expr}{es:%[|20]}{t:TA}{id T:String}{r:List V->Hp->VK->Prop}
def aI(r:List V->Hp->VK->Prop)(t:TA):TE:=fun σ H Q=>t σ H fun vs H1=>r vs H1 Q
theorem AK(hc:Ce X (.builtin id) r)(hg:Gl X x)(hm:X.mg x=none)(hv:bootBuiltins x=some (.builtin id))(ha:PA X (e::es) t)(hn:x≠"__name__":=by decide)(du:%[|49]=false:=by decide)(he:starEach (e::es) X.env=%[|51]::starEach es X.env:=by rfl)(bB:%[|60].any (·.1)=false:=by rfl):PE X %[|68] (aI r t):=by
 exists 1;refine wpAny_Call_Name_kw (EQ I hg hm hv ?_ hn du);exact PyProof.Rows.callWith_builtin1 (AU (ha pos pins s σ H _ I h) fun us s1 ⟨vs,H1,I1,r1,q1⟩=>hc pins s1 σ H1 vs us Q I1 r1 q1) he bB
theorem AJ(hc:Ce X (.type T) r)(hg:Gl X x)(hm:X.mg x=none)(hv:bootBuiltins x=some (.type T))(ha:PA X (e::es) t)(hn:x≠"__name__":=by decide)(du:%[|49]=false:=by decide)(he:starEach (e::es) X.env=%[|51]::starEach es X.env:=by rfl)(bB:%[|60].any (·.1)=false:=by rfl):PE X %[|68] (aI r t):=by
 exists 1;refine wpAny_Call_Name_kw (EQ I hg hm hv ?_ hn du);exact zB6 (AU (ha pos pins s σ H _ I h) fun us s1 ⟨vs,H1,I1,r1,q1⟩=>hc pins s1 σ H1 vs us Q I1 r1 q1) he bB
theorem MM(hc:Ce X (.type T) r)(hg:Gl X x)(hm:X.mg x=none)(hv:bootBuiltins x=some (.type T))(hn:x≠"__name__":=by decide)(du:%[|49]=false:=by decide):
  PE X (.Call (.Name x p) [] [] pos) (aI r Of):=by
 exists 1;refine wpAny_Call_Name_kw (EQ I hg hm hv ?_ hn du);exact PyProof.Rows.callWith_type0 (hc pins s σ H [] [] Q I .nil h)
end
end L2
namespace HT
open PySem PyProof.Rows
section
open PySem.SeqAt
open PySem.AutoSeq1 (wpAny_loadPart')
open PySem.MeetsSeq PySem.MeetsSeq2 PySem.MeetsSeq3
end
section
variable {prog:Program}{w:World}{A:Around}{E:Value->Shared->Prop}{s:Shared}
def sIx(n d:Nat):Option Int->Nat
 | none=>d
 | some v=>if v<0 then (v+(n:Int)).toNat else min v.toNat n
theorem sIx_none(n d:Nat):sIx n d none=d:=rfl
theorem sIx_nat(n d k:Nat):sIx n d (some (k:Int))=min k n:=by
 show (if (k:Int)<0 then ((k:Int)+(n:Int)).toNat else min (k:Int).toNat n)=min k n;rw[if_neg %[|1],zBB]
theorem Yg(n d:Nat)(hd:d<=n)(o:Option Int):sIx n d o<=n:=by
 cases o with
 | none=>exact hd
 | some v=>
  show (if v<0 then (v+(n:Int)).toNat else min v.toNat n)<=n;by_cases hv:v<0
  ·rw[if_pos hv];omega
  ·rw[if_neg hv];exact Nat.min_le_right _ _
theorem Pn(v:Int)(n d:Nat):(if v<0 then max (v+(n:Int)) 0 else min v (n:Int))=((sIx n d (some v):Nat):Int):=by
 show (if v<0 then max (v+(n:Int)) 0 else min v (n:Int))=(((if v<0 then (v+(n:Int)).toNat else min v.toNat n):Nat):Int);by_cases hv:v<0
 ·simp only[if_pos hv];omega
 ·simp only[if_neg hv];omega
theorem Nj(lo hi:Option Int)(n:Nat):Builtin.Slice.sliceAdjust lo hi 1 (n:Int)=(((sIx n 0 lo:Nat):Int),((sIx n n hi:Nat):Int)):=by
 have h1:¬((1:Int)<0):=by omega
 unfold Builtin.Slice.sliceAdjust;simp only[h1,if_false];refine Prod.ext ?_ ?_
 ·cases lo with
  | none=>rfl
  | some v=>exact Pn v n 0
 ·cases hi with
  | none=>rfl
  | some v=>exact Pn v n n
theorem Na(i j:Nat):Builtin.Slice.slicePlaces (i:Int) (j:Int) 1=j-i:=by
 unfold Builtin.Slice.slicePlaces;have h1:(1:Int)>0:=by omega
 simp only[h1,if_true,Int.ediv_one];split<;>omega
theorem HG(p:IsPart v o)(h:Q o s):%[|27] (Builtin.Slice.slicePartIndex v) Q E s:=by
 cases p with
 | none=>exact slicePart_none h
 | int i t=>exact slicePart_int h
theorem FV{lo hi:Option Int}{n:Nat}{Q:Int×Int×Nat->Shared->Prop}(hs:s.heap.IsSliceOf sl vl vu .none)(pl:IsPart vl lo)(pu:IsPart vu hi)(h:Q (((sIx n 0 lo:Nat):Int),1,sIx n n hi-sIx n 0 lo) s):%[|27] (Builtin.Slice.sliceApplied (.ref sl) (pure (n:Int))) Q E s:=by
 obtain⟨os,hos,hcs,hds⟩:=id hs;unfold Builtin.Slice.sliceApplied Builtin.Slice.sliceFields;refine wpAny_bind (wpAny_bind (wpAny_field hos hds (x:=vl) rfl (wpAny_bind (wpAny_field hos hds (x:=vu) rfl (wpAny_bind (wpAny_field hos hds (x:=.none) rfl %[|38]))))));refine wpAny_bind (slicePart_none ?_);show wpAny _ _ (if ((1:Int) == 0)=true then _ else _) _ _ s;rw[if_neg %[|0]];refine wpAny_bind (HG pl (wpAny_bind (HG pu (wpAny_bind %[|38]))));show wpAny _ _ (match Builtin.Slice.sliceAdjust lo hi 1 (n:Int) with | (lo,hi)=>pure (lo,(1:Int),Builtin.Slice.slicePlaces lo hi 1)) _ _ s;rw[Nj lo hi n];show wpAny _ _ (pure (((sIx n 0 lo:Nat):Int),(1:Int),Builtin.Slice.slicePlaces ((sIx n 0 lo:Nat):Int) ((sIx n n hi:Nat):Int) 1)) _ _ s;rw[Na];exact wpAny_pure h
theorem So(xs:Array Value)(i k:Nat):((List.range k).filterMap fun(m:Nat)=>xs[((i:Int)+(m:Int)*1).toNat]?).toArray=((xs.toList.drop i).take k).toArray:=by
 have e:(fun(m:Nat)=>xs[((i:Int)+(m:Int)*1).toNat]?)=fun m=>xs[i+m]? :=by
  funext m
  have:((i:Int)+(m:Int)*1).toNat=i+m:=by omega
  rw[this]
 rw[e];have:=pick_run xs i k;rw[List.filterMap_map] at this;have e2:((fun x=>xs[x]?) ∘ fun x=>i+x)=fun m=>xs[i+m]? :=rfl
 rw[e2] at this;rw[this]
theorem getItem_tuple_cut{lo hi:Option Int}(ht:IsTup s.heap t bh)(hs:s.heap.IsSliceOf sl vl vu .none)(pl:IsPart vl lo)(pu:IsPart vu hi)(hw:¬(sIx bh.size 0 lo=0/\sIx bh.size bh.size hi=bh.size))(h:Q %[|46] { s with heap:=s.heap.push { cls:=.type "tuple",data:=.seq ((bh.toList.drop (sIx bh.size 0 lo)).take (sIx bh.size bh.size hi-sIx bh.size 0 lo)).toArray } })(hsz:bh.size<=sizeLine):%[|27] (getItem (.ref t) (.ref sl)) Q E s:=by
 have fM:sizeOk (.seq ((bh.toList.drop (sIx bh.size 0 lo)).take (sIx bh.size bh.size hi-sIx bh.size 0 lo)).toArray):=by
  show ((bh.toList.drop (sIx bh.size 0 lo)).take (sIx bh.size bh.size hi-sIx bh.size 0 lo)).toArray.size<=sizeLine;rw[zAH,zAW,zC3,zAJ];omega
 have hj:sIx bh.size bh.size hi<=bh.size:=Yg _ _ (zAB _) hi;obtain⟨os,hos,hcs,hds⟩:=id hs;have hTs:s.TypeIs (.ref sl) "slice":=⟨os,hos,hcs⟩;unfold getItem
 try with_reducible refine wpAny_holding ?_
 first | refine wpAny_bind %[|38] | skip
 refine wpAny_bind (wpAny_sequenceKey ht.typeIs %[|0] ?_)
 refine wpAny_bind (wpAny_callSpecial?_slot (name:=Str.ofString "__getitem__") ht.typeIs PyProof.Rows.slot_tuple_getitem
  (wpAny_call_entry PyProof.Rows.slot_tuple_getitem ht.typeIs entry_tuple_getitem ?_ (args_tuple_getitem _ _)))
 show wpAny _ _ (Builtin.Tuple.tupleItemsOf (.ref t) >>= _) _ _ s;refine wpAny_bind (tupleItemsOf_ ht ?_);refine wpAny_bind (wpAny_typeOf hTs ?_);rw[if_pos %[|0]];refine wpAny_bind (FV hs pl pu ?_)
 have iP:¬((((sIx bh.size 0 lo:Nat):Int) == 0 && (1:Int) == 1 && (sIx bh.size bh.size hi-sIx bh.size 0 lo) == bh.size)=true):=by
  intro q;rw[zAU,zAU] at q;have q1:((sIx bh.size 0 lo:Nat):Int)=0:=eq_of_beq q.1.1;have q2:sIx bh.size bh.size hi-sIx bh.size 0 lo=bh.size:=eq_of_beq q.2;exact hw ⟨by omega,by omega⟩
 show wpAny _ _ (if (((sIx bh.size 0 lo:Nat):Int) == 0 && (1:Int) == 1 && (sIx bh.size bh.size hi-sIx bh.size 0 lo) == bh.size)=true then _ else _) _ _ s;rw[if_neg iP,So]
 first
  | exact wpAny_bind (m:=Builtin.Tuple.tupleExact _) (wpAny_newObj_type (wpAny_pure ⟨_,rfl,wpAny_pure h⟩) fM)
  | exact wpAny_bind (m:=Builtin.Tuple.tupleExact _) (wpAny_newObj_type (wpAny_bind (wpAny_pure (wpAny_pure ⟨_,rfl,wpAny_pure h⟩))) fM)
  | exact wpAny_bind (wpAny_bind (m:=Builtin.Tuple.tupleExact _) (wpAny_newObj_type (wpAny_pure (wpAny_pure ⟨_,rfl,wpAny_pure h⟩)) fM))
  | exact wpAny_bind (wpAny_bind (m:=Builtin.Tuple.tupleExact _) (wpAny_newObj_type (wpAny_pure ⟨_,rfl,wpAny_pure h⟩) fM))
end
end HT
namespace L2
open PySem PySem.Spec PyProof.Rows
abbrev TO:=St->Hp->(Option Int->Hp->Prop)->Prop
def PO(X:Cx)(e:Option Expr)(t:TO):Prop:=
 ∀pins s(σ:St)H(Q:Option Int->Hp->Prop),%[|5]->t σ H Q->
  wpAny %[|15] X.A (evalPart e X.env) (fun u s'=>∃o H',%[|13] H' s'/\IsPart u o/\Q o H') X.xe s
def VW:TO:=fun _ H Q=>Q none H
inductive Sa(Q:Option Int->Hp->Prop)(x:V)(H1:Hp):Prop where
 | mk (i) (_:x= .int i) (_:Q (some i) H1):Sa Q x H1
def Y9(t:TE):TO:=fun σ H Q=>t σ H (Sa Q)
section
variable {X:Cx}{e:Expr}{te:TE}{lo hi:Option Expr}{tl th:TO}{pos p2:Pos}
theorem KH:PO X none VW:=by
 exists 1;rw[evalPart_none];exact wpAny_pure ⟨none,H,I,.none,h⟩
theorem Lg(h:PE X e te):PO X (some e) (Y9 te):=by
 intro pins s σ H Q I hw;rw[evalPart_some];refine AU (h pins s σ H _ I hw) fun u s1 ⟨x,H1,I1,r1,q1⟩=>?_
 obtain⟨i,rfl,q⟩:=q1;obtain⟨t,rfl⟩:=r1;exact⟨some i,H1,I1,.int i t,q⟩
def am(X:Cx)(r:V->Option Int->Option Int->Hp->VK->Prop):Prop:=
 ∀pins s(σ:St)H x v vl vu(lo hi:Option Int)sl Q,%[|5]->RelV x v->s.heap.IsSliceOf sl vl vu .none->IsPart vl lo->IsPart vu hi->r x lo hi H Q->
  ∃T id,typeLookup (.type T) "__getitem__"=pure (some (.builtin id))/\s.TypeIs v T/\%[|19] (getItem v (.ref sl)) (%[|36]) X.xe s
def aW(r:V->Option Int->Option Int->Hp->VK->Prop)(te:TE)(tl th:TO):TE:=fun σ H Q=>te σ H fun x H1=>tl σ H1 fun l H2=>th σ H2 fun u H3=>r x l u H3 Q
theorem Ij(hr:am X r)(he:PE X e te)(hl:PO X lo tl)(hu:PO X hi th):PE X (.Subscript e (.Slice lo hi none p2) pos) (aW r te tl th):=by
 exists 1;refine Subscript_ (AU (he pins s σ H _ I h) fun v s1 ⟨x,H1,I1,r1,q1⟩=>?_);refine wpAny_Slice (AU (hl pins s1 σ H1 _ I1 q1) fun vl s2 ⟨l,H2,I2,pl,q2⟩=>AU (hu pins s2 σ H2 _ I2 q2) fun vu s3 ⟨u,H3,I3,pu,q3⟩=>?_);rw[evalPart_none];exists 6;have I4:%[|13] H3 { s3 with heap:=s3.heap.push { cls:=.type "slice",data:=.fields #[vl,vu,.none] } }:=I3.kept (t':=s3.toks) fun b ob q=>Heap.get?_push_of_some _ q
 obtain⟨T,id,hT,ht,hg⟩:=hr pins { s3 with heap:=s3.heap.push { cls:=.type "slice",data:=.fields #[vl,vu,.none] } } σ H3 x v vl vu l u s3.heap.objs.size Q I4 r1 (Heap.IsSliceOf.new ..) pl pu q3;show wpAny %[|15] X.A (subscriptTail e (.Slice lo hi none p2) v (.ref s3.heap.objs.size)) (%[|36]) X.xe { s3 with heap:=s3.heap.push { cls:=.type "slice",data:=.fields #[vl,vu,.none] } };exact tail_any (ops:=[.ref s3.heap.objs.size,v]) ht hT hg %[|28]
def GV(xs:List V)(lo hi:Option Int):List V:=(xs.drop (HT.sIx xs.length 0 lo)).take (HT.sIx xs.length xs.length hi-HT.sIx xs.length 0 lo)
theorem Gm(xs:List V)(lo hi:Option Int):(GV xs lo hi).length<=xs.length:=by
 unfold GV;rw[zAW,zC3];omega
inductive Za(K:PySem.W.Frag)(x:V)(lo:Option Int)(hi:Option Int)(H:Hp)(Q:VK):Prop where
 | mk (a xs) (_:x= .ref a) (_:SqT K H a xs) (_:¬(HT.sIx xs.length 0 lo=0/\HT.sIx xs.length xs.length hi=xs.length)) (_:∀p,H p=none->Q (.ref p) (upd H p (.tup (GV xs lo hi)))):Za K x lo hi H Q
theorem Xu:am X (Za X.K):=by
 intro pins s σ H x v vl vu lo hi sl Q I rx hs pl pu h;obtain⟨a,xs,rfl,hx,hw,q⟩:=h;cases rx;obtain⟨its,r,ht,hz⟩:=I.tuple hx;have bo:its.toArray.size=xs.length:=by rw[zAH];exact r.length.symm
 refine⟨"tuple",_,PyProof.Rows.slot_tuple_getitem.lookup,ht.typeIs,?_⟩;refine HT.getItem_tuple_cut ht hs pl pu (by rw[bo];exact hw) ?_ (by rw[bo];exact hz);rw[bo];refine⟨.ref s.heap.objs.size,_,I.laid (t':=s.toks) (o:=.tup (GV xs lo hi)) (fun b ob q=>Heap.get?_push_of_some _ q) (zAB _) ?_,rfl,q _ (I.hok.fresh (zAB _))⟩;exact⟨zAD (Gm xs lo hi) hz,_,(r.drop (HT.sIx xs.length 0 lo)).take (HT.sIx xs.length xs.length hi-HT.sIx xs.length 0 lo),IsTup.new _ _⟩
end
def Q7(n:Nat)(i:Int):Option Nat:=if 0<=i then (if i<n then some i.toNat else none) else if -(n:Int)<=i then some (i+n).toNat else none
def Er{α:Type}(xs:List α)(i:Int):Option α:=(Q7 xs.length i).bind fun j=>xs[j]?
theorem O9(h:Q7 n i=some j):seqIndex? i n=some j/\j<n/\-(n:Int)<=i/\i<n:=by
 unfold Q7 at h;by_cases h0:0<=i
 ·rw[if_pos h0] at h;by_cases h1:i<n
  ·rw[if_pos h1] at h;have e:i.toNat=j:=zAK h;exact⟨by rw[seqIndex_of h0 h1,e],by omega,by omega,h1⟩
  ·rw[if_neg h1] at h;cases h
 ·rw[if_neg h0] at h;by_cases h1 : -(n:Int)<=i
  ·rw[if_pos h1] at h;have e:(i+n).toNat=j:=zAK h;exact⟨by rw[seqIndex_neg %[|1] h1,e],by omega,h1,by omega⟩
  ·rw[if_neg h1] at h;cases h
theorem JT{α:Type}{xs:List α}{v:α}(h:Er xs i=some v):∃j,seqIndex? i xs.length=some j/\xs[j]? = some v/\j<xs.length/\-(xs.length:Int)<=i/\i<xs.length:=by
 unfold Er at h
 cases e:Q7 xs.length i with
 | none=>rw[e] at h;cases h
 | some j=>
  rw[e] at h;obtain⟨h1,h2,h3,h4⟩:=O9 e;exact⟨j,h1,h,h2,h3,h4⟩
theorem Ac{α:Type}{xs:List α}{j:Nat}{v:α}(h:xs[j]? = some v):Er xs (j:Int)=some v:=by
 have hj:j<xs.length:=(List.getElem?_eq_some_iff.mp h).1
 have e:Q7 xs.length (j:Int)=some j:=by
  unfold Q7;rw[if_pos %[|1],if_pos %[|1]];simp
 unfold Er;rw[e];exact h
def Pf(b:Expr):Prop:=∀o i,subscripted b false o i=operate [o,i] (getItem o i)
def WR(X:Cx)(r:R2):Prop:=
 ∀value cP pins s(σ:St)H x y v u Q,%[|5]->RelV x v->RelV y u->r x y H Q->
  subscripted cP false v u=operate [v,u] (getItem v u)->%[|19] (subscriptTail value cP v u) (%[|36]) X.xe s
def Zi(X:Cx)(id:String)(r:V->List V->Hp->VK->Prop):Prop:=
 ∀pins s(σ:St)H x xs v us Q,%[|5]->RelV x v->Vals xs us->r x xs H Q->
  wpAny %[|15] X.A (call (.builtin id) (v::us)) (%[|36]) X.xe s
section
variable {X:Cx}{a b:Expr}{ta tb:TE}{pos:Pos}
theorem ZA(hr:WR X r)(ha:PE X a ta)(hb:PE X b tb)(hs:Pf b):PE X (.Subscript a b pos) (YN r ta tb):=by
 exists 1;exact Subscript_ (XC ha hb I h fun v u s2 x y H2 I2 rx ry q=>hr a b pins s2 σ H2 x y v u Q I2 rx ry q (hs _ _))
inductive WC(K:PySem.W.Frag)(p:Addr)(i:Int)(H:Hp)(Q:VK):Prop where
 | mk {xs v} (_:SqL K H p xs) (_:Er xs i=some v) (_:Q v H):WC K p i H Q
def ZZ(K:PySem.W.Frag):R2:=fun x y H Q=>vR (fun p=>vI (fun i=>WC K p i H Q) y) x
inductive WP(K:PySem.W.Frag)(p:Addr)(i:Int)(H:Hp)(Q:VK):Prop where
 | mk {xs v} (_:SqT K H p xs) (_:Er xs i=some v) (_:Q v H):WP K p i H Q
def aK(K:PySem.W.Frag):R2:=fun x y H Q=>vR (fun p=>vI (fun i=>WP K p i H Q) y) x
inductive Ze(x:V)(y:V)(H:Hp)(Q:VK):Prop where
 | mk (z i c) (_:x= .str z) (_:y= .int i) (_:z.length<=sizeLine) (_:Er z.cps.toList i=some c) (_:Q (.str ⟨#[c]⟩) H):Ze x y H Q
theorem AI:WR X (ZZ X.K):=by
 exists 17;obtain⟨p,rfl,h0⟩:=CU h;obtain⟨i,rfl,@⟨xs,z,hq,he,q⟩⟩:=Fj h0;cases rx;obtain⟨t,rfl⟩:=ry;obtain⟨its,r,pl,hz⟩:=I.list hq;obtain⟨j,h1,h2,h3,h4,h5⟩:=JT he;obtain⟨w,ew,rw'⟩:=r.get h2;have hl:=r.length;have hn:=EF;have bC:%[|36] w s:=⟨z,H,I,rw',q⟩;by_cases h0:0<=i
 ·have hj:i.toNat=j:=by
   rw[seqIndex_of h0 h5] at h1;exact zAK h1
  exact item_listR pl.isList h0 %[|1] (by rw[hj];simpa using ew) bC hs
 ·have hj:(i+(its.toArray.size:Int)).toNat=j:=by
   rw[seqIndex_neg %[|1] h4] at h1;rw[zAH,<-hl];exact zAK h1
  exact subscriptTail_builtinR (x:=w) pl.isList.typeIs slot_list_getitem.lookup
   (wpAny_getItem_list_neg (Q:=fun r s'=>r=w/\%[|36] r s') pl.isList %[|1] (by rw[zAH]<;>omega) %[|1] (by rw[hj];simpa using ew) ⟨rfl,bC⟩) hs
theorem Am:WR X (aK X.K):=by
 exists 17;obtain⟨p,rfl,h0⟩:=CU h;obtain⟨i,rfl,@⟨xs,z,hq,he,q⟩⟩:=Fj h0;cases rx;obtain⟨t,rfl⟩:=ry;obtain⟨its,r,pl,hz⟩:=I.tuple hq;obtain⟨j,h1,h2,h3,h4,h5⟩:=JT he;obtain⟨w,ew,rw'⟩:=r.get h2;have hl:=r.length;have hn:=EF;have bC:%[|36] w s:=⟨z,H,I,rw',q⟩
 exact subscriptTail_builtinR (x:=w) pl.typeIs slot_tuple_getitem.lookup
  (getItem_tuple (j:=j) (Q:=fun r s'=>r=w/\%[|36] r s') pl %[|1] %[|1] (by rw[zAH,<-hl];exact h1) (by simpa using ew) ⟨rfl,bC⟩) hs
theorem Gb:WR X Ze:=by
 exists 17;obtain⟨z,i,c,rfl,rfl,hz,he,q⟩:=h;exists 5;obtain⟨t',rfl⟩:=ry;obtain⟨j,h1,h2,h3,h4,h5⟩:=JT he;have hl:z.cps.toList.length=z.length:=by simp[Str.length]
 rw[hl] at h1 h4 h5;have hn:=EF
 exact tail_any (typeIs_str s z t) slot_str_getitem.lookup (getItem_str (c:=c) (by
  have e1:decide (i < -(2^63:Int))=false:=decide_eq_false %[|1]
  have e2:decide (i>=2^63)=false:=decide_eq_false %[|1]
  rw[e1,e2,zCM]) (by rw[h1];simpa using h2) ⟨.str ⟨#[c]⟩,H,I.tok _,⟨_,rfl⟩,q⟩) hs
theorem Ow(its:%[|7])(n j:Nat)(u:Value):Obj.mapSeq (·.setIfInBounds j u) { cls:=.type "list",data:=.seq its.toArray n }={ cls:=.type "list",data:=.seq (its.set j u).toArray n }:=by
 simp[Obj.mapSeq]
theorem Inv.lst{pins:%[|14]}{σ:St}{H:Hp}{s:Shared}{p:Addr}{xs:List V}(I:%[|5])(h:H p=some (.lst xs)):
  ∃its n,Vals xs its/\s.heap.get? p=some { cls:=.type "list",data:=.seq its.toArray n }/\xs.length<=sizeLine:=by
 obtain⟨z,its,n,r,e⟩:=I.hok p _ h;exact⟨its,n,r,e,z⟩
theorem Inv.lstUpd{pins:%[|14]}{xs ys:List V}{its its':%[|7]}{n n':Nat}(I:%[|5])(h:H p=some (.lst xs))(ho:s.heap.get? p=some { cls:=.type "list",data:=.seq its.toArray n })(hf:f { cls:=.type "list",data:=.seq its.toArray n }={ cls:=.type "list",data:=.seq its'.toArray n' })(r:Vals ys its')(hz:ys.length<=sizeLine)(t:Nat):
  Inv X pins σ (upd H p (.lst ys)) { s with heap:=s.heap.update p f,toks:=t }:=by
 have e:(s.heap.update p f).get? p=some { cls:=.type "list",data:=.seq its'.toArray n' }:=by
  rw[Heap.get?_update_self f ho (by rw[hf]<;>rfl),hf]
 refine I.write (x:=p) (e:=p) (by rw[h];trivial) (.inl rfl) (fun b u hb q=>(Heap.get?_update_other _ _ (zB hb)).trans q) ⟨_,e⟩ ?_;exact⟨hz,its',n',r,e⟩
inductive Ww(o:V)(i:V)(v:V)(H:Hp)(Q:(Hp->Prop)):Prop where
 | mk (p xs k j) (_:o= .ref p) (_:i= .int k) (_:H p=some (.lst xs)) (_:Q7 xs.length k=some j) (_:Q (upd H p (.lst (xs.set j v)))):Ww o i v H Q
theorem Mu:We X Ww:=by
 intro pins s σ H o i v ov iv u Q I ro ri rv h;obtain⟨p,xs,k,j,rfl,rfl,hp,hj,q⟩:=h;cases ro;obtain⟨t,rfl⟩:=ri;obtain⟨its,n,r,ho,hz⟩:=I.lst hp;obtain⟨h1,h2,h3,h4⟩:=O9 hj;have hl:=r.length;have hn:=EF
 have I':%[|13] (upd H p (.lst (xs.set j v))) { s with heap:=s.heap.update p (Obj.mapSeq (·.setIfInBounds j u)) }:=
  I.lstUpd hp ho (Ow its n j u) (r.set rv j) (by rw[List.length_set];exact hz) s.toks
 by_cases h0:0<=k
 ·have hk:k.toNat=j:=by
   rw[seqIndex_of h0 h4] at h1;exact zAK h1
  exact PySem.W.ki_setAt ho h0 %[|1] (by rw[zAH,<-hl];exact h4) (by rw[hk];exact⟨_,I',q⟩)
 ·have hk:(k+(its.toArray.size:Int)).toNat=j:=by
   rw[seqIndex_neg %[|1] h3] at h1;rw[zAH,<-hl];exact zAK h1
  exact PySem.W.ki_setBack ho %[|1] (by rw[zAH,<-hl];exact h3) %[|1] (by rw[hk];exact⟨_,I',q⟩)
theorem JX(lo hi:Option Int)(n:Nat):(sliceBounds lo hi none n).1=((HT.sIx n 0 lo:Nat):Int)/\(sliceBounds lo hi none n).2.1=((HT.sIx n n hi:Nat):Int)/\(sliceBounds lo hi none n).2.2=1:=by
 refine⟨?_,?_,rfl⟩
 ·cases lo with
  | none=>simp[sliceBounds,HT.sIx]
  | some i=>
   simp only[sliceBounds,HT.sIx,Option.getD_none,show (1:Int)>0 by decide,if_true];by_cases h:i<0
   ·simp only[h,if_true]<;>omega
   ·simp only[h,if_false]<;>omega
 ·cases hi with
  | none=>simp[sliceBounds,HT.sIx]
  | some i=>
   simp only[sliceBounds,HT.sIx,Option.getD_none,show (1:Int)>0 by decide,if_true];by_cases h:i<0
   ·simp only[h,if_true]<;>omega
   ·simp only[h,if_false]<;>omega
theorem Jc(its:%[|7])(lo hi:Option Int):slicePick its.toArray lo hi none=((its.drop (HT.sIx its.length 0 lo)).take (HT.sIx its.length its.length hi-HT.sIx its.length 0 lo)).toArray:=by
 obtain⟨h1,h2,h3⟩:=JX lo hi its.toArray.size;unfold slicePick;rw[h1,h2,h3];simp only[sliceRange_one,pick_run,zAH]<;>rfl
inductive Zt(K:PySem.W.Frag)(x:V)(lo:Option Int)(hi:Option Int)(H:Hp)(Q:VK):Prop where
 | mk (a xs) (_:x= .ref a) (_:SqL K H a xs) (_:∀p,H p=none->Q (.ref p) (upd H p (.lst (GV xs lo hi)))):Zt K x lo hi H Q
theorem OV:am X (Zt X.K):=by
 intro pins s σ H x v vl vu lo hi sl Q I rx hs pl pu h;obtain⟨a,xs,rfl,hx,q⟩:=h;cases rx;obtain⟨its,r,ht,hz⟩:=I.list hx;have bo:=r.length;refine⟨"list",_,slot_list_getitem.lookup,ht.isList.typeIs,?_⟩;refine wpAny_getItem_list_slice ht.isList hs pl pu .none %[|2] ?_ (by rw[zAH]<;>omega);rw[Jc,<-bo];refine⟨.ref s.heap.objs.size,_,I.laid (t':=s.toks) (o:=.lst (GV xs lo hi)) (fun b ob q=>Heap.get?_push_of_some _ q) (zAB _) ?_,rfl,q _ (I.hok.fresh (zAB _))⟩;exact⟨zAD (Gm xs lo hi) hz,_,0,(r.drop (HT.sIx xs.length 0 lo)).take (HT.sIx xs.length xs.length hi-HT.sIx xs.length 0 lo),Heap.get?_push_size _ rfl⟩
def CV:V->Bool
 | .non=>true
 | .bl _=>true
 | .int _=>true
 | .str _=>true
 | _=>false
def MK:V->V->Bool
 | .non,.non=>true
 | .bl a,.bl b=>a == b
 | .bl a,.int b=>(if a then 1 else 0) == b
 | .int a,.bl b=>a == (if b then 1 else 0)
 | .int a,.int b=>a == b
 | .str a,.str b=>a == b
 | _,_=>false
theorem Xv(ry:RelV y u)(rx:RelV x v)(fy:CV y=true)(fx:CV x=true):SeqAt.EqAt A s u v (MK y x):=by
 cases y with
 | non=>
  cases ry
  cases x with
  | non=>cases rx;exact zC9 _
  | bl b=>cases rx;exact SeqAt.EqAt.none_bool b
  | int b=>obtain⟨t,rfl⟩:=rx;exact SeqAt.EqAt.none_int b t
  | str b=>obtain⟨t,rfl⟩:=rx;exact SeqAt.EqAt.none_str b t
  | _=>exact absurd (show false=true from fx) zAF
 | bl a=>
  cases ry
  cases x with
  | non=>cases rx;exact SeqAt.EqAt.bool_none a
  | bl b=>cases rx;exact SeqAt.EqAt.bool_bool a b
  | int b=>obtain⟨t,rfl⟩:=rx;exact SeqAt.EqAt.bool_int a b t
  | str b=>obtain⟨t,rfl⟩:=rx;exact SeqAt.EqAt.bool_str a b t
  | _=>exact absurd (show false=true from fx) zAF
 | int a=>
  obtain⟨t',rfl⟩:=ry
  cases x with
  | non=>cases rx;exact SeqAt.EqAt.int_none a t'
  | bl b=>cases rx;exact SeqAt.EqAt.int_bool a t' b
  | int b=>obtain⟨t,rfl⟩:=rx;exact SeqAt.EqAt.int_int a t' b t
  | str b=>obtain⟨t,rfl⟩:=rx;exact SeqAt.EqAt.int_str a t' b t
  | _=>exact absurd (show false=true from fx) zAF
 | str a=>
  obtain⟨t',rfl⟩:=ry
  cases x with
  | non=>cases rx;exact SeqAt.EqAt.str_none a t'
  | bl b=>cases rx;exact SeqAt.EqAt.str_bool a t' b
  | int b=>obtain⟨t,rfl⟩:=rx;exact SeqAt.EqAt.str_int a t' b t
  | str b=>obtain⟨t,rfl⟩:=rx;exact zDH a t' b t
  | _=>exact absurd (show false=true from fx) zAF
 | _=>exact absurd (show false=true from fy) zAF
def LC(x:V)(u:Value):Bool:=match u with
 | .none=>MK .non x
 | .bool b=>MK (.bl b) x
 | .int i _=>MK (.int i) x
 | .str z _=>MK (.str z) x
 | _=>false
theorem NO(r:RelV y u)(f:CV y=true):LC x u=MK y x:=by
 cases y with
 | non=>cases r;rfl
 | bl b=>cases r;rfl
 | int i=>obtain⟨t,rfl⟩:=r;rfl
 | str z=>obtain⟨t,rfl⟩:=r;rfl
 | _=>exact absurd (show false=true from f) zAF
theorem E9{x:V}:∀{xs:List V}{us:%[|7]},Vals xs us->xs.all CV=true->us.any (LC x)=xs.any fun y=>MK y x
 | _,_,.nil,_=>rfl
 | y::xs,u::us,.cons r t,f=>by
  rw[zC2,zAU] at f;rw[zBS,zBS,NO r f.1,E9 t f.2]
theorem C6{A:Around}{s:Shared}{x:V}{v:Value}(rx:RelV x v)(fx:CV x=true):∀{xs:List V}{us:%[|7]},Vals xs us->xs.all CV=true->∀u∈us,SeqAt.EqAt A s u v (LC x u)
 | _,_,.nil,_=>fun u hu=>by cases hu
 | y::xs,u::us,.cons r t,f=>fun u' hu=>by
  rw[zC2,zAU] at f;rcases List.mem_cons.mp hu with rfl | hu
  ·rw[NO r f.1];exact Xv r rx f.1 fx
  ·exact C6 rx fx t f.2 u' hu
def OD(x:V)(xs:List V):Bool:=xs.any fun y=>MK y x
inductive ZV(K:PySem.W.Frag)(neg:Bool)(x:V)(y:V)(H:Hp)(Q:VK):Prop where
 | mk (p xs) (_:y= .ref p) (_:(SqL K H p xs\/SqT K H p xs)) (_:CV x=true) (_:xs.all CV=true) (_:Q (.bl (if neg then !OD x xs else OD x xs)) H):ZV K neg x y H Q
theorem D5:C3 X (compareOp .In) (ZV X.K false):=by
 exists 3;obtain⟨p,xs,rfl,hq,fx,fs,q⟩:=h;cases ry;rcases hq with hq | hq
 ·obtain⟨its,r,pl,hz⟩:=I.list hq;refine SeqAt.in_listAt (LC x) pl.isList (fun w hw=>C6 rx fx r fs w (by simpa using hw)) ⟨.bl _,H,I,rfl,?_⟩;rw[show its.toArray.any (LC x)=its.any (LC x) by simp,E9 r fs];exact q
 ·obtain⟨its,r,pl,hz⟩:=I.tuple hq;refine SeqAt.in_tupleAt (LC x) pl (fun w hw=>C6 rx fx r fs w (by simpa using hw)) ⟨.bl _,H,I,rfl,?_⟩;rw[show its.toArray.any (LC x)=its.any (LC x) by simp,E9 r fs];exact q
theorem Fu:C3 X (compareOp .NotIn) (ZV X.K true):=by
 exists 3;obtain⟨p,xs,rfl,hq,fx,fs,q⟩:=h;cases ry;rcases hq with hq | hq
 ·obtain⟨its,r,pl,hz⟩:=I.list hq;refine SeqAt.notIn_listAt (LC x) pl.isList (fun w hw=>C6 rx fx r fs w (by simpa using hw)) ⟨.bl _,H,I,rfl,?_⟩;rw[show its.toArray.any (LC x)=its.any (LC x) by simp,E9 r fs];exact q
 ·obtain⟨its,r,pl,hz⟩:=I.tuple hq;refine SeqAt.notIn_tupleAt (LC x) pl (fun w hw=>C6 rx fx r fs w (by simpa using hw)) ⟨.bl _,H,I,rfl,?_⟩;rw[show its.toArray.any (LC x)=its.any (LC x) by simp,E9 r fs];exact q
inductive Y2(K:PySem.W.Frag)(p:Addr)(H:Hp)(Q:VK):Prop where
 | mk {ys} (_:(SqL K H p ys\/SqT K H p ys)) (_:Q (.int ys.length) H):Y2 K p H Q
def IK(K:PySem.W.Frag)(xs:List V)(H:Hp)(Q:VK):Prop:=l1 (vR fun p=>Y2 K p H Q) xs
theorem AV:Ce X (.builtin "len") (IK X.K):=by
 exists 7;obtain⟨_,rfl,h0⟩:=OW h;obtain⟨p,rfl,@⟨ys,hq,q⟩⟩:=CU h0;obtain⟨u,rfl,rx⟩:=CT r;cases rx;have hn:=EF;rcases hq with hq | hq
 ·obtain⟨its,r',pl,hz⟩:=I.list hq;have bo:=r'.length;exact Calls.call_len_list pl.isList (by simp only[zAH]<;>omega) ⟨.int ys.length,H,I.tok _,⟨s.toks+1,by rw[zAH,bo]⟩,q⟩
 ·obtain⟨its,r',pl,hz⟩:=I.tuple hq;have bo:=r'.length;exact len_tuple pl (by simp only[zAH]<;>omega) ⟨.int ys.length,H,I.tok _,⟨s.toks+1,by rw[zAH,bo]⟩,q⟩
inductive D3(xs:List V)(H:Hp)(Q:VK):Prop where
 | mk (z) (_:xs=[.str z]) (_:z.length<=sizeLine) (_:Q (.int z.length) H):D3 xs H Q
theorem Kz:Ce X (.builtin "len") (D3):=by
 exists 7;obtain⟨z,rfl,hz,q⟩:=h;obtain⟨u,rfl,t,rfl⟩:=CT r;have hn:=EF;exact len_str %[|1] ⟨.int z.length,H,I.tok _,⟨_,rfl⟩,q⟩
inductive WQ(K:PySem.W.Frag)(p:Addr)(H:Hp)(Q:VK):Prop where
 | mk {ys} (_:(SqL K H p ys\/SqT K H p ys)) (_:∀l,H l=none->Q (.ref l) (upd H l (.lst ys))):WQ K p H Q
def HN(K:PySem.W.Frag)(xs:List V)(H:Hp)(Q:VK):Prop:=l1 (vR fun p=>WQ K p H Q) xs
theorem A1:Ce X (.type "list") (HN X.K):=by
 exists 7;obtain⟨_,rfl,h0⟩:=OW h;obtain⟨p,rfl,@⟨ys,hq,q⟩⟩:=CU h0;obtain⟨u,rfl,rx⟩:=CT r;cases rx
 have bC:∀(its:%[|7]),Vals ys its->ys.length<=sizeLine->∀(h':Heap)(c':Nat),(∀b o',s.heap.get? b=some o'->h'.get? b=some o')->
   h'.get? s.heap.objs.size=some { cls:=.type "list",dict:=none,data:=.seq its.toArray c',slots:=#[] }->%[|36] %[|46] { s with heap:=h' }:=fun its r' hz h' c' kp e=>
  ⟨.ref s.heap.objs.size,_,I.laid (t':=s.toks) kp (zAB _) (show A0O X.prog X.w _ h' _ (.lst ys) from⟨hz,its,c',r',e⟩),rfl,q _ (I.hok.fresh (zAB _))⟩
 rcases hq with hq | hq
 ·obtain⟨its,r',pl,hz⟩:=I.list hq;have bo:=r'.length;obtain⟨o,ho,hc,n,hd⟩:=pl.isList;exact call_list_seq p (.inl rfl) ho hc hd (fun h' c' kp e=>bC its r' hz h' c' kp e) (by simp only[zAH]<;>omega)
 ·obtain⟨its,r',pl,hz⟩:=I.tuple hq;have bo:=r'.length;obtain⟨o,ho,hc,n,hd⟩:=pl;exact call_list_seq p (.inr rfl) ho hc hd (fun h' c' kp e=>bC its r' hz h' c' kp e) (by simp only[zAH]<;>omega)
def ZY(K:PySem.W.Frag)(T:String)(x:V)(H:Hp):Prop:=match x with
 | .str _=>T="str"
 | .int _=>T="int"
 | .ref p=>(T="list"/\∃xs,SqL K H p xs)\/(T="tuple"/\∃o,K.lookup p=some o/\o.cls= .type "tuple"/\o.dict=none)\/
   (T="dict"/\((∃bQ,H p=some (.dK bQ))\/∃bQ,H p=some (.dT bQ)))\/(T="set"/\∃S n,H p=some (.set S n))
 | _=>False
theorem Ty(I:%[|5])(r:RelV x v)(ty:ZY X.K T x H):
  s.TypeIs v T/\∀a,v= .ref a->∃ob,s.heap.get? a=some ob/\ob.dict=none:=by
 cases x with
 | str z=>
  obtain⟨t,rfl⟩:=r;cases (show T="str" from ty);exact⟨typeIs_str s z t,fun _ e=>nomatch e⟩
 | int i=>
  obtain⟨t,rfl⟩:=r;cases (show T="int" from ty);exact⟨typeIs_int s i t,fun _ e=>nomatch e⟩
 | ref p=>
  cases r;rcases ty with⟨rfl,xs,hq⟩|⟨rfl,o,hk,hc,hd⟩|⟨rfl,hk⟩|⟨rfl,S,n,hk⟩
  ·obtain⟨its,_,pl,_⟩:=I.list hq;refine⟨pl.isList.typeIs,fun a e=>?_⟩;cases e;obtain⟨o,n,e,c,hd,_⟩:=pl;exact⟨o,e,hd⟩
  ·refine⟨⟨o,I.kIn p o hk,hc⟩,fun a e=>?_⟩;cases e;exact⟨o,I.kIn _ o hk,hd⟩
  ·have z:∃o,s.heap.get? p=some o/\o.ExactDict:=by
    rcases hk with⟨bQ,hk⟩|⟨bQ,hk⟩
    ·obtain⟨_,_,_,_,o,_,_,e,ex,_⟩:=I.hok p _ hk;exact⟨o,e,ex⟩
    ·obtain⟨_,_,_,_,o,_,_,e,ex,_⟩:=I.hok p _ hk;exact⟨o,e,ex⟩
   obtain⟨o,e,ex⟩:=z;refine⟨⟨o,e,ex.1⟩,fun a e2=>?_⟩;cases e2;exact⟨o,e,ex.2.1⟩
  ·obtain⟨o,_,_,_,e,ex,_⟩:=I.hok p _ hk;refine⟨⟨o,e,ex.1⟩,fun a e2=>?_⟩;cases e2;exact⟨o,e,ex.2.1⟩
 | _=>exact False.elim ty
def Zm(K:PySem.W.Frag)(T:String)(r:V->List V->Hp->VK->Prop)(to:TE):TE:=fun σ H Q=>to σ H fun x H1=>ZY K T x H1/\r x [] H1 Q
def aQ(K:PySem.W.Frag)(T:String)(r:V->List V->Hp->VK->Prop)(to:TE)(t:TA):TE:=fun σ H Q=>to σ H fun x H1=>ZY K T x H1/\t σ H1 fun xs H2=>r x xs H2 Q
variable {o e:Expr}{es:%[|20]}{to:TE}{t:TA}{name:Str}{bD bA:Pos}{T id:String}{r:V->List V->Hp->VK->Prop}
theorem Uh(pa:PlainAttrs T)(slot:Slot T name id)(hty:typeOf (.builtin id)=pure (.type "method_descriptor"))(hm:Zi X id r)(ho:PE X o to)(eF:attributeBase o name X.env (eval o X.env)=eval o X.env:=by rfl)(dF:(bD.endLine == bA.line)=true:=by rfl):PE X (.Call (.Attribute o name bD) [] [] bA) (Zm X.K T r to):=by
 exists 1;refine wpAny_Call_method0_late eF dF (AU (ho pins s σ H _ I h) fun v s1 ⟨x,H1,I1,r1,ty,q1⟩=>?_);obtain⟨h1,h2⟩:=Ty I1 r1 ty;exact⟨T,id,pa,slot,hty,h1,h2,zCY rfl (PySem.evalArgs_none (hm pins s1 σ H1 x [] v [] Q I1 r1 .nil q1))⟩
theorem DA(pa:PlainAttrs T)(slot:Slot T name id)(hty:typeOf (.builtin id)=pure (.type "method_descriptor"))(hm:Zi X id r)(ho:PE X o to)(ha:PA X (e::es) t)(eF:attributeBase o name X.env (eval o X.env)=eval o X.env:=by rfl)(hfew:((backTo bA (starEach (e::es) X.env)).all (fun x=>!x.1) && (backToKw bA (keywordEach [] X.env)).all (fun x=>x.1.isSome)
   && decide ((e::es).length+([]:List Keyword).length+(if ([]:List Keyword).isEmpty then 0 else 1)<30))=true:=by rfl)(dF:(bD.endLine == bA.line)=true:=by rfl)(hs:starEach (e::es) X.env=%[|51]::starEach es X.env:=by rfl)(fj:(backTo bA (starEach es X.env)).any (·.1)=false:=by rfl):
  PE X (.Call (.Attribute o name bD) (e::es) [] bA) (aQ X.K T r to t):=by
 exists 1;refine wpAny_Call_method_late eF hfew dF rfl (AU (ho pins s σ H _ I h) fun v s1 ⟨x,H1,I1,r1,ty,q1⟩=>?_);obtain⟨h1,h2⟩:=Ty I1 r1 ty;refine⟨T,id,pa,slot,hty,h1,h2,?_⟩;have hA:=ha bA pins s1 σ H1 _ I1 q1;rw[hs] at hA ⊢;refine zCY (by show (false || (backTo bA (starEach es X.env)).any (·.1))=false;rw[fj]<;>rfl) (Calls.evalArgs_plain ?_);exact AU hA fun us s2 ⟨vs,H2,I2,r2,q2⟩=>hm pins s2 σ H2 x vs v us Q I2 r1 r2 q2
end
def ZQ(X:Cx)(id:String)(r:V->List V->Hp->VK->Prop):Prop:=
 ∀pins s(σ:St)H x xs v us Q,%[|5]->RelV x v->Vals xs us->r x xs H Q->
  wpAny %[|15] X.A (call (.builtin id) (v::us)) (%[|36]) X.xe s
theorem Vals.one:∀{x:V}{us:%[|7]},Vals [x] us->∃u,us=[u]/\RelV x u
 | _,_,.cons r .nil=>⟨_,rfl,r⟩
theorem Vals.zero:∀{us:%[|7]},Vals [] us->us=[]
 | _,.nil=>rfl
theorem Vals.dropLast(h:Vals xs us):Vals xs.dropLast us.dropLast:=by
 induction h with
 | nil=>exact .nil
 | cons r t ih=>
  cases t with
  | nil=>exact .nil
  | cons q t'=>exact .cons r ih
theorem Vals.reverse(h:Vals xs us):Vals xs.reverse us.reverse:=by
 induction h with
 | nil=>exact .nil
 | cons r t ih=>rw[zCW,zCW];exact Vals.append ih (.cons r .nil)
theorem Vals.rep{xs:List V}{us:%[|7]}(h:Vals xs us):∀k:Nat,Vals (List.replicate k xs).flatten (List.replicate k us).flatten
 | 0=>.nil
 | k+1=>by
  rw[zBG,zBG,zCK,zCK];exact Vals.append h (Vals.rep h k)
theorem Nt{α:Type}(l:List α):l.eraseIdx (l.length-1)=l.dropLast:=by
 induction l with
 | nil=>rfl
 | cons a r ih=>
  cases r with
  | nil=>rfl
  | cons b r=>
   have e:(a::b::r).length-1=((b::r).length-1)+1:=by
    have h1:(a::b::r).length=r.length+2:=rfl;have h2:(b::r).length=r.length+1:=rfl;omega
   rw[e,List.eraseIdx_cons_succ,ih]
   all_goals rfl
theorem Jh(its:%[|7]):∀(k:Nat)(acc:%[|7]),
  List.foldl (fun x1 x2=>x1++x2) acc.toArray (List.replicate k its.toArray)=(acc++(List.replicate k its).flatten).toArray
 | 0,acc=>by simp
 | k+1,acc=>by
  have e:acc.toArray++its.toArray=(acc++its).toArray:=by simp
  have e2:(acc++its)++(List.replicate k its).flatten=acc++(List.replicate (k+1) its).flatten:=by
   rw[zBG,zCK,zBY]
  rw[<-e2,<-Jh its k (acc++its),<-e,zBG,List.foldl_cons]
section
variable {X:Cx}{pins:%[|14]}{σ:St}{H:Hp}{s:Shared}{l b:Addr}{xs ys zs:List V}
theorem Inv.lset{its its':%[|7]}{n:Nat}{t':Nat}(I:%[|5])(hH:H l=some (.lst xs))(e:s.heap.get? l=some { cls:=.type "list",data:=.seq its.toArray n })(hf:f its.toArray=its'.toArray)(hv:Vals ys its')(hz:ys.length<=sizeLine):
  Inv X pins σ (upd H l (.lst ys)) { s with heap:=s.heap.update l (Obj.mapSeq f),toks:=t' }:=by
 have q:=PySem.IsL.update e f;rw[hf] at q;refine I.write (x:=l) (e:=l) (by rw[hH];exact trivial) (.inl rfl) (fun b' u hb hu=>(Heap.get?_update_other s.heap (Obj.mapSeq f) (zB hb)).trans hu) ⟨_,q⟩ ?_;exact⟨hz,its',_,hv,q⟩
theorem Inv.lnew(I:%[|5])(hv:Vals ys its)(hz:ys.length<=sizeLine):
  Inv X pins σ (upd H s.heap.objs.size (.lst ys)) { s with heap:=s.heap.push { cls:=.type "list",data:=.seq its.toArray },toks:=t' }:=
 I.laid (fun _ _ q=>Heap.get?_push_of_some _ q) (zAB _) ⟨hz,its,0,hv,Heap.get?_push_size _ rfl⟩
theorem Inv.fresh(I:%[|5]):H s.heap.objs.size=none:=I.hok.fresh (zAB _)
theorem Inv.lstM(I:%[|5])(hH:H l=some (.lst xs)):xs.length<=sizeLine/\∃its n,Vals xs its/\xs.length=its.length/\s.heap.get? l=some { cls:=.type "list",data:=.seq its.toArray n }:=by
 obtain⟨z,its,n,r,e⟩:=I.hok l _ hH;exact⟨z,its,n,r,r.length,e⟩
theorem Mj(h:n<=sizeLine):Builtin.List.listTooLong n=false:=by
 unfold Builtin.List.listTooLong;exact decide_eq_false %[|1]
end
section
variable {X:Cx}
inductive WX(l:Addr)(y:V)(H:Hp)(Q:VK):Prop where
 | mk {xs} (_:H l=some (.lst xs)) (_:xs.length<sizeLine) (_:Q .non (upd H l (.lst (xs++[y])))):WX l y H Q
def Pg(x:V)(vs:List V)(H:Hp)(Q:VK):Prop:=vR (fun l=>l1 (fun y=>WX l y H Q) vs) x
theorem JB:ZQ X "list.append" Pg:=by
 exists 15;obtain⟨l,rfl,h0⟩:=CU h;obtain⟨y,rfl,@⟨xs,hH,hz,q⟩⟩:=OW h0;cases rx;obtain⟨u,rfl,ru⟩:=rv.one;obtain⟨z,its,n,r,hl,e⟩:=I.lstM hH;refine call_meets F.slot_list_append ⟨_,e,rfl⟩ F.entry_list_append (F.args_list_append_2 _ _) (PySem.list_append l its.toArray n u (by rw[zAH];omega)) ⟨e,?_⟩;refine⟨.non,_,I.lset (its':=its++[u]) hH e %[|2] (r.append (.cons ru .nil)) ?_,rfl,q⟩;rw[zA,List.length_singleton];omega
inductive OH(x:V)(vs:List V)(H:Hp)(Q:VK):Prop where
 | mk (l b xs zs) (_:x= .ref l) (_:vs=[.ref b]) (_:H l=some (.lst xs)) (_:H b=some (.lst zs)) (_:xs.length+zs.length<=sizeLine) (_:Q .non (upd H l (.lst (xs++zs)))):OH x vs H Q
theorem FW:ZQ X "list.extend" OH:=by
 exists 15;obtain⟨l,b,xs,zs,rfl,rfl,hH,hB,hz,q⟩:=h;cases rx;obtain⟨u,rfl,ru⟩:=rv.one;cases ru;obtain⟨z,its,n,r,hl,e⟩:=I.lstM hH;obtain⟨z2,bH,n2,r2,bM,e2⟩:=I.lstM hB;have hsz:its.toArray.size+bH.toArray.size<=sizeLine:=by rw[zAH,zAH];omega
 have gw:¬(!its.toArray.isEmpty && Builtin.List.listTooLong (its.toArray.size+bH.toArray.size))=true:=by
  rw[Mj hsz,Bool.and_false];exact zAF
 refine call_meets F.slot_list_extend ⟨_,e,rfl⟩ F.entry_list_extend (F.args_list_extend_2 _ _)
  (AutoSeq1.list_extend_list_list_0 l its.toArray n b bH.toArray n2 gw (by rw[zAH];omega) %[|1]) ⟨e,e2,?_⟩
 refine⟨.non,_,I.lset (its':=its++bH) hH e %[|2] (r.append r2) ?_,rfl,q⟩;rw[zA];omega
inductive WI(l:Addr)(H:Hp)(Q:VK):Prop where
 | mk {xs y} (_:H l=some (.lst xs)) (_:xs[xs.length-1]? = some y) (_:Q y (upd H l (.lst xs.dropLast))):WI l H Q
def Zg(x:V)(vs:List V)(H:Hp)(Q:VK):Prop:=vR (fun l=>l0 (WI l H Q) vs) x
theorem Yq:ZQ X "list.pop" Zg:=by
 exists 15;obtain⟨l,rfl,h0⟩:=CU h;obtain⟨rfl,@⟨xs,y,hH,hy,q⟩⟩:=WM h0;cases rx;have hus:=rv.zero;subst hus;obtain⟨z,its,n,r,hl,e⟩:=I.lstM hH;obtain⟨u,hu,ru⟩:=r.get hy
 have hy':its.toArray[its.toArray.size-1]? = some u:=by
  show its.toArray[its.length-1]? = some u;rw[<-Array.getElem?_toList,<-hl];exact hu
 refine call_meets F.slot_list_pop ⟨_,e,rfl⟩ F.entry_list_pop (F.args_list_pop_1 _) (MeetsSeq.list_pop_last l its.toArray n u hy' (by rw[zAH];omega)) ⟨e,?_⟩;refine⟨y,_,I.lset (its':=its.dropLast) hH e ?_ r.dropLast ?_,ru,q⟩
 ·show its.toArray.eraseIdxIfInBounds (its.toArray.size-1)=its.dropLast.toArray;rw[zAH,List.eraseIdxIfInBounds_toArray,Nt]
 ·rw[zBQ];omega
inductive LJ(x:V)(vs:List V)(H:Hp)(Q:VK):Prop where
 | mk (l xs) (_:x= .ref l) (_:vs=[]) (_:H l=some (.lst xs)) (_:Q .non (upd H l (.lst xs.reverse))):LJ x vs H Q
theorem MO:ZQ X "list.reverse" LJ:=by
 exists 15;obtain⟨l,xs,rfl,rfl,hH,q⟩:=h;cases rx;have hus:=rv.zero;subst hus;obtain⟨z,its,n,r,hl,e⟩:=I.lstM hH;refine call_meets F.slot_list_reverse ⟨_,e,rfl⟩ F.entry_list_reverse (F.args_list_reverse_1 _) (AutoSeq1.list_reverse_list_0 l its.toArray n (by rw[zAH];omega)) ⟨e,?_⟩;refine⟨.non,_,I.lset (its':=its.reverse) hH e %[|2] r.reverse ?_,rfl,q⟩;rw[List.length_reverse];omega
inductive ZL(x:V)(y:V)(H:Hp)(Q:VK):Prop where
 | mk (l b xs zs) (_:x= .ref l) (_:y= .ref b) (_:H l=some (.lst xs)) (_:H b=some (.lst zs)) (_:xs.length+zs.length<=sizeLine) (_:∀p,H p=none->Q (.ref p) (upd H p (.lst (xs++zs)))):ZL x y H Q
theorem TC:C3 X (binaryOp .Add) ZL:=by
 exists 3;obtain⟨l,b,xs,zs,rfl,rfl,hH,hB,hz,q⟩:=h;cases rx;cases ry;obtain⟨z,its,n,r,hl,e⟩:=I.lstM hH;obtain⟨z2,bH,n2,r2,bM,e2⟩:=I.lstM hB;refine PySem.P.add_list e e2 ?_ (by rw[zAH,zAH];omega);have ea:its.toArray++bH.toArray=(its++bH).toArray:=by simp
 rw[ea];exact⟨.ref _,_,I.lnew (t':=s.toks) (r.append r2) (by rw[zA];omega),rfl,q _ I.fresh⟩
inductive YT(x:V)(y:V)(H:Hp)(Q:VK):Prop where
 | mk (l k xs) (_:x= .ref l) (_:y= .int k) (_:H l=some (.lst xs)) (_ : -(2^63)<=k) (_:k<2^63) (_:xs.length*k.toNat<=sizeLine) (_:∀p,H p=none->Q (.ref p) (upd H p (.lst (List.replicate k.toNat xs).flatten))):YT x y H Q
theorem VG{α:Type}(xs:List α)(k:Nat):(List.replicate k xs).flatten.length=k*xs.length:=by
 induction k with
 | zero=>simp
 | succ k ih=>rw[zBG,zCK,zA,ih,Nat.succ_mul,Nat.add_comm]
theorem YG:C3 X (binaryOp .Mult) YT:=by
 exists 3;obtain⟨l,k,xs,rfl,rfl,hH,h1,h2,hz,q⟩:=h;cases rx;obtain⟨t,rfl⟩:=ry;obtain⟨z,its,n,r,hl,e⟩:=I.lstM hH;have bo:its.toArray.size*k.toNat<=sizeLine:=by rw[zAH,<-hl];exact hz
 have hcap:¬its.toArray.size*k.toNat>(2^63-1) / 8:=by
  have:(sizeLine:Nat)<=(2^63-1) / 8:=by decide
  omega
 have hfit:¬(!Builtin.List.listFitsIndex k)=true:=by
  rw[fitsIndex_both h1 h2];exact zAF
 have gw:¬Builtin.List.listTooLong (its.toArray.size*k.toNat)=true:=by
  rw[Mj bo];exact zAF
 have hnew:List.foldl (fun x1 x2=>x1++x2) #[] (List.replicate (if its.toArray.isEmpty=true then 0 else k.toNat) its.toArray)=(List.replicate k.toNat its).flatten.toArray:=by
  have f0:∀m:Nat,List.foldl (fun x1 x2=>x1++x2) #[] (List.replicate m its.toArray)=(List.replicate m its).flatten.toArray:=fun m=>by
   have:=Jh its m [];rw[List.nil_append] at this;exact this
  rw[f0]
  cases its with
  | nil=>simp
  | cons a r'=>rw[if_neg %[|2]]
 refine wpAny_binaryOp_repeat_ref (T:="list") (U:="int") %[|0] ⟨_,e,rfl⟩ (fun s'=>typeIs_int s' k t) noFill_list_mul F.fills_int_mul F.slot_int_rmul repeat_list F.slot_int_index.lookup
  (call_meets F.slot_int_rmul (typeIs_int s k t) F.entry_int_rmul (F.args_int_rmul_2 _ _) (int___rmul___int_list k t l its.toArray n)
   ⟨e,rfl,⟨_,e,rfl⟩,call_meets F.slot_list_mul ⟨_,e,rfl⟩ F.entry_list_mul (F.args_list_mul_2 _ _) (AutoListH.list___mul___list_int_3 l its.toArray n k t hfit hcap gw) ⟨e,?_⟩⟩)
 rw[hnew];exact⟨.ref _,_,I.lnew (t':=s.toks) (r.rep k.toNat) (by rw[VG,Nat.mul_comm];exact hz),rfl,q _ I.fresh⟩
end
section
variable {prog:Program}{w:World}{A:Around}{E:Value->Shared->Prop}{s:Shared}
end
section
variable {X:Cx}
end
end L2
namespace Att
open PySem PySem.W PySem.Calls PyProof.Rows
theorem GU:∀ns vs,WellAll P h vs (ns.map WData.int)->IntsAre vs ns:=by
 intro ns
 induction ns with
 | nil=>
  intro vs w;rw[zDL] at w;cases w;exact .nil
 | cons n ns ih=>
  intro vs w;rw[zAP] at w
  cases w with
  | cons a b=>
   cases a;exact .cons _ _ (ih _ b)
theorem QW{l:OpenLaw}{n:Nat}(hn:l.most=some n){P:Params}{h:Heap}{args:List WData}{ia:%[|7]}(ib:l.row.toRowW.claim.pre args=true)(dG:WellAll P h ia args):
  ∃a vs ns,ia=[Value.ref a]/\args=[WData.list (ns.map WData.int)]/\h.get? a=some { cls:=.type "list",data:=.seq vs.toArray }/\IntsAre vs ns/\ns.length<=n:=by
 have fU:WShape.hasAll [] args [.list .int]=true:=(pre_splitW ib).1;have hc:l.pre.holds [] { args:=args }=true:=(pre_splitW ib).2;obtain⟨d,r,rfl,h1,h2⟩:=hasAllW_cons fU;obtain rfl:=hasAllW_nil h2;obtain⟨xs,rfl,h3⟩:=hasW_list h1;obtain⟨ns,rfl⟩:=items_int h3
 have bo:ns.length<=n:=by
  unfold OpenLaw.pre at hc
  have h4:(WTm.not (.lt (.lit (.int (n:Int))) (.len (.arg 0)))).holds [] { args:=[.list (ns.map .int)] }=true:=by
   have h4:=(holds_andW hc).1;rw[hn] at h4;exact h4
  have h5:=condW_of h4 (w_not (w_lt w_lit (w_len_list (w_arg rfl))));rw[List.length_map] at h5;refine Nat.le_of_not_lt fun q=>?_
  have q':(n:Int)<((ns.length:Nat):Int):=by omega
  first
   | (rw[decide_eq_true q'] at h5;exact absurd h5 %[|0])
   | (simp at h5;omega)
 cases dG with
 | cons w1 w2=>
  cases w2
  cases w1 with
  | list ho hall=>exact⟨_,_,ns,rfl,rfl,ho,GU ns _ hall,bo⟩
theorem Q4(l:OpenLaw)(args:List WData):l.row.toRowW.claim.post args (.bool true) args=true:=
 postW_of (r:=l.row.toRowW) (X:=(true == true))
  (show WShape.has [] (.bool true) .bool=true by first | rfl | decide | simp[WShape.has,WShape.arms,WShape.armsAll])
  (show (WTm.eq .res (.lit (.bool true))).value [] { args:=args,res:=some (.bool true),after:=args }=some (.bool (true == true)) from w_eq_bool (w_res rfl) w_lit) rfl
theorem attach_call{l:OpenLaw}{n:Nat}{q:Program}{dH:List Str}{XP:(Str->%[|4])->Heap->Prop}{YP:World->Heap->Prop}{d:DefRec}(hn:l.most=some n)(ie:d.params.defaults=[])(call:∀(w:World) (s₀ s₁:Shared) (mg mb:Str->%[|4]) (fa:Addr) (o:Obj) (pm cd de:Value) (a:Addr) (vs:%[|7]) (ns:List Int),
   Ground q dH [] XP w s₀ mg mb s₁.heap->YP w s₁.heap->
   s₁.heap.get? fa=some o->o.data= .func (docDef d.name d.params d.body d.scope pm cd de)->s₁.heap.CodeRec cd d.name->mg d.name=some (.ref fa)->
   s₁.heap.get? a=some { cls:=.type "list",data:=.seq vs.toArray }->IntsAre vs ns->ns.length<=n->s₁.gens = #[]->
   codeAny (model l.prog w) callerA (.call (.ref fa) ⟨[.ref a],[]⟩) (fun r s'=>r= .ok (.ret (.bool true))/\OldK s₁.heap s'.heap/\s'.os=s₁.os/\AllBare s'.gens) s₁):
  WalkO q dH XP YP l.row.toRowW d [] (fun f vs=>PySem.call f vs):=by
 intro w s₀ s₁ mg mb G Y fa o pm cd de dV kV ho hd eC hD hmg hg args ia as ib hlay hrd dG hlo;obtain rfl:dV= .none:=Dflts.none hD ie;obtain rfl:kV= .none:=Dflts.noKw hD;obtain⟨a,vs,ns,rfl,rfl,hobj,gx,bo⟩:=QW hn ib dG;refine enter_call (codeAny_mono (call w s₀ s₁ mg mb fa o pm cd de a vs ns G Y ho (fd_plain hd) eC hmg hobj gx bo hg) fun r s' hq=>?_);obtain⟨rfl,h2,h3,h4⟩:=hq;exact⟨.inl ⟨.bool true,.bool true,[],rfl,fun _=>rfl,.bool true,Q4 l _,fun _=>⟨List.Pairwise.nil,fun _ hm=>(nomatch hm)⟩⟩,h2,h3,h4⟩
section
variable {prog:Program}{w:World}{A:Around}{E:Value->Shared->Prop}{s:Shared}{K:Frag}
end
end Att
namespace L2
open PySem PySem.Spec PyProof.Rows
theorem FQ:∀{vs:%[|7]}{ns:List Int},IntsAre vs ns->Vals %[|25] vs
 | _,_,.nil=>.nil
 | _,_,.cons n t h=>.cons ⟨t,rfl⟩ (FQ h)
def XU(H:Hp):Prop:=∀b,H b=none\/∃o xs,H b=some (.frz o (.lst xs))
theorem S8{K:PySem.W.Frag}(KX:K.In s₁.heap)(hns:s₁.heap.Ns mainGlobals mg)(hb:s₁.heap.Ns builtinsNs mb)(hbb:∀x:Str,x≠"__name__"->mb x=bootBuiltins x)(hlim:s₁.heap.NoLimit)(hg:s₁.gens = #[])(ha:s₁.heap.get? a=some { cls:=.type "list",data:=.seq vs.toArray })(hi:IntsAre vs ns)(hl:ns.length<=sizeLine)(hr:A0J k callerA)(F:∀base:Heap,K.In base->base.Ns mainGlobals mg->Ew P w K mg base CX k fa fd [x] sp)(hbind:∀(s:Shared) (u:Value),BindsTo s fd ⟨[u],[]⟩ [(x,u)])(dw:∀H:Hp,XU H->SqL K H a %[|25]->sp [.ref a] H (fun v _=>v= .bl true) fun _ _ _=>False)(hCX:∀H e s',CX [] H s₁ (fun _ _ _=>False) e s'->False):
  codeAny (model P w) callerA (.call (.ref fa) ⟨[.ref a],[]⟩) (fun r s'=>r= .ok (.ret (.bool true))/\OldK s₁.heap s'.heap/\s'.os=s₁.os/\AllBare s'.gens) s₁:=by
 have rv:=FQ hi;have lenV:=hi.length
 have core:∀H:Hp,XU H->SqL K H a %[|25]->HOk P w H s₁.heap->(∀b,H b≠none->b=a)->(H a≠none->K.lookup a=none)->
   codeAny (model P w) callerA (.call (.ref fa) ⟨[.ref a],[]⟩) (fun r s'=>r= .ok (.ret (.bool true))/\OldK s₁.heap s'.heap/\s'.os=s₁.os/\AllBare s'.gens) s₁:=by
  intro H hO hS hok hA hK;have El:∀{b:Addr}{o:Obj},s₁.heap.get? b=some o->H b=none->(K7 s₁.heap H).get? b=some o:=fun e n=>R0 e n
  have noA:∀{b:Addr}{o:Obj}{es:Array DictEntry}{ep:Nat},s₁.heap.get? b=some o->o.data= .dict es ep->H b=none:=fun {b o es ep} e d=>by
   cases q:H b with
   | none=>rfl
   | some u=>
    have e':b=a:=hA b (by rw[q];simp);subst e';rw[ha] at e;cases e;have d':Data.seq vs.toArray _=Data.dict es ep:=d;cases d'
  have nsK:∀{b:Addr}{m:Str->%[|4]},s₁.heap.Ns b m->(K7 s₁.heap H).Ns b m:=fun {b m} ⟨o,es,ep,e,d,r⟩=>⟨o,es,ep,El e (noA e d),d,r⟩
  have hKb:K.In (K7 s₁.heap H):=fun b o e=>El (KX b o e) (by
   cases q:H b with
   | none=>rfl
   | some u=>
    have e':b=a:=hA b (by rw[q];simp)
    subst e'
    rw[hK (by rw[q];simp)] at e;cases e)
  have hM:Mod K mg (K7 s₁.heap H):=⟨hKb,nsK hns,⟨mb,nsK hb,hbb⟩,let ⟨mc,h1,h2⟩:=hlim;⟨mc,nsK h1,h2⟩⟩;have e0:Env0 P w K mg (K7 s₁.heap H) callerA [] s₁ H:=⟨rfl,hM,fun b o e=>Vx e,Nat.le_of_eq (PJ _ _),trivial,fun b hb=>absurd (show b∈([]:%[|6]) from hb) %[|2],hok,.of_eq hg⟩;refine codeAny_mono ((F _ hKb (nsK hns)).run callerA [] s₁ H ⟨[.ref a],[]⟩ [.ref a] [.ref a] _ _ hr e0 (hbind s₁ (.ref a)) (.cons rfl .nil) (dw H hO hS)) fun r s' h=>?_
  cases r with
  | error e=>exact (hCX H e s' h).elim
  | ok fl=>
   cases fl with
   | next=>exact False.elim h
   | brk=>exact False.elim h
   | cont=>exact False.elim h
   | ret u=>
    obtain⟨v,H',os,bare,un,hok',r',q⟩:=h;have q':v= .bl true:=q;subst q';obtain rfl:u=Value.bool true:=r';refine⟨rfl,OldK.of_keep fun b o e=>?_,os,bare⟩
    cases q:H b with
    | none=>exact un.keep b o e q (by intro z;exact absurd (show b∈([]:%[|6]) from z) %[|2]) %[|2]
    | some u=>
     rcases hO b with z | ⟨ob,xs,z⟩
     ·rw[q] at z;cases z
     ·have z2:=un.frzs b ob _ z;obtain⟨e1,_⟩:=hok b _ z;obtain⟨e2,_⟩:=hok' b _ z2;rw[e] at e1;cases e1;exact e2
 cases hk:K.lookup a with
 | some o=>
  have e:=KX a o hk;rw[ha] at e;cases e;refine core (fun _=>none) (fun _=>.inl rfl) (.inr ⟨_,vs.toArray,_,hk,rfl,rfl,rfl,by rw[zAH,lenV];exact hl,by simpa using rv⟩) (fun b u z=>by have z':(none:Option HO)=some u:=z;cases z') (fun b z=>absurd rfl z) fun z=>absurd rfl z
 | none=>
  refine core (fun b=>if b=a then some (.frz { cls:=.type "list",data:=.seq vs.toArray } (.lst %[|25])) else none) (fun b=>?_) (.inl (.inr ⟨{ cls:=.type "list",data:=.seq vs.toArray },if_pos rfl⟩)) (fun b u z=>?_) (fun b z=>?_) fun _=>hk
  ·by_cases hb:b=a
   ·exact .inr ⟨_,_,if_pos hb⟩
   ·exact .inl (if_neg hb)
  ·by_cases hb:b=a
   ·have z':=(if_pos hb).symm.trans z;cases z';subst hb;exact⟨ha,by rw[List.length_map];exact hl,vs,_,rv,ha⟩
   ·have z':=(if_neg hb).symm.trans z;cases z'
  ·by_cases hb:b=a
   ·exact hb
   ·exact absurd (if_neg hb) z
theorem walk_of{l:PySem.W.OpenLaw}{n k:Nat}{q:Program}{dH:List Str}{XP:(Str->%[|4])->Heap->Prop}{YP:World->Heap->Prop}{d:DefRec}{K:Params->PySem.W.Frag}{CX:World->Jp}{sp:World->Sp}{x:Str}(hn:l.most=some n)(gu:n<=sizeLine)(ie:d.params.defaults=[])(hr:A0J k callerA)(hY:∀(w:World) (h:Heap),YP w h->(K w.params).In h)(F:∀(w:World) (mg:Str->%[|4]) (fa:Addr) (h:Heap),(K w.params).In h->h.Ns mainGlobals mg->mg d.name=some (.ref fa)->
   ∃fd:FuncData,(∀(s:Shared) (u:Value),BindsTo s fd ⟨[u],[]⟩ [(x,u)])/\
    ∀base:Heap,(K w.params).In base->base.Ns mainGlobals mg->Ew l.prog w (K w.params) mg base (CX w) k fa fd [x] (sp w))(dw:∀(w:World) (H:Hp) (a:Addr) (ns:List Int),ns.length<=n->XU H->SqL (K w.params) H a %[|25]->sp w [.ref a] H (fun v _=>v= .bl true) fun _ _ _=>False)(hCX:∀(w:World) (H:Hp) (s:Shared) (e:Value) (s':Shared),CX w [] H s (fun _ _ _=>False) e s'->False):
  PySem.W.WalkO q dH XP YP l.row.toRowW d [] (fun f vs=>PySem.call f vs):=by
 refine Att.attach_call hn ie fun w s₀ s₁ mg mb fa o pm cd de a vs ns G Y ho hd eC hmg hobj gx bo hg=>?_
 have KX:=hY w _ Y;obtain⟨fd,hb,hF⟩:=F w mg fa _ KX G.T.g hmg;exact S8 KX G.T.g G.T.b G.T.builtins G.T.nolimit hg hobj gx (zAD bo gu) hr hF hb (fun H hO hS=>dw w H a ns bo hO hS) fun H e s'=>hCX w H s₁ e s'
def AZ(s:Stmt)(j:Nat):Stmt:=match s with
 | .ClassDef _ _ _ body _ _ _ _ _ _ _=>body.getD j (.Pass ⟨0,0,0,0⟩)
 | _=>.Pass ⟨0,0,0,0⟩
def Dr(s:Stmt):Arguments:=match s with
 | .FunctionDef _ a _ _ _ _ _ _ _ _=>a
 | _=>{ posonlyargs:=[],args:=[],vararg:=none,kwonlyargs:=[],kw_defaults:=[],kwarg:=none,defaults:=[] }
def Cp(s:Stmt):List Stmt:=match s with
 | .FunctionDef _ _ b _ _ _ _ _ _ _=>b
 | _=>[]
def A9(s:Stmt):Scope:=match s with
 | .FunctionDef _ _ _ _ _ _ sc _ _ _=>sc
 | _=>{ kind:=.function,names:=[],isGenerator:=false,isCoroutine:=false }
abbrev AH:Jp:=fun _ _ _ _ _ _=>False
abbrev E0:XK:=fun _ _ _=>False
theorem Al:Cn AH X E0:=fun _ _ _ _ _ _ _ h=>h.elim
structure Fun(K:PySem.W.Frag)(x bv:Str)(st:Stmt)(f:Addr)(fd:FuncData):Prop where
 ex:∃(oc:Value)(od:Option Addr)(kV de pm:Value)(an:Option Addr)(bp ct:Value)(hV:Array (%[|4])),
  fd=PySem.W.fnOf x bv (Dr st) (Cp st) (A9 st) .none kV de pm an bp ct/\K.lookup f=some ⟨oc,od,.func fd,hV⟩/\PySem.W.codeIn K bp bv=true
 kp:PySem.W.keepIn K (.ref f)=true
section
variable {P:Program}{w:World}{K:PySem.W.Frag}{mg:Str->%[|4]}{base:Heap}
theorem Fun.ok{x bv:Str}{st:Stmt}{f:Addr}{fd:FuncData}{N ps:List Str}{k:Nat}{sp:Sp}(F:Fun K x bv st f fd)(S:D8 N ps (A9 st))(eE:∀(bp:Value) (A:Around) (outer:List Env) (s:Shared) (H:Hp) (vs:List V) (Q:VK) (E:XK),A0J k (A.deeper (envOfC bv (A9 st) s.heap.objs.size f bp))->sp vs H Q E->
   ∃t,PSs (Jf AH P w K mg base N bv (A9 st) f bp A outer s H E).nox (Cp st) t/\t { nx:=fun _ H'=>Q .non H',rt:=Q } (Ez N vs) H)(len:∀vs H Q E,sp vs H Q E->vs.length=ps.length:=by rintro _ _ _ _ ⟨⟩;subst_vars;rfl):Ew P w K mg base AH (k+1) f fd ps sp:=by
 obtain⟨oc,od,kV,de,pm,an,bp,ct,hV,rfl,lk,eC⟩:=F.ex;refine WJ lk eC S len fun A outer s H vs Q E hr dw=>?_
 obtain⟨t,h,q⟩:=eE bp A outer s H vs Q E hr dw;exact⟨t,h.nox,q⟩
theorem Fun.binds{st:Stmt}(F:Fun K x bv st f fd)(h:∀(kV de pm:Value) (an:Option Addr) (bp ct:Value) (us:%[|7]),us.length=ps.length->bindArgs (PySem.W.fnOf x bv (Dr st) (Cp st) (A9 st) .none kV de pm an bp ct) ⟨us,[]⟩=pure (ps.zip us)):Binds K fd ps []:=by
 obtain⟨oc,od,kV,de,pm,an,bp,ct,hV,rfl,lk,eC⟩:=F.ex;exact .all (h kV de pm an bp ct)
theorem RY{st:Stmt}{kV de pm bp ct:Value}(l:K.lookup f=some ⟨oc,od,.func (PySem.W.fnOf x bv (Dr st) (Cp st) (A9 st) .none kV de pm an bp ct),hV⟩)(c:PySem.W.codeIn K bp bv=true)(k:PySem.W.keepIn K (.ref f)=true):Fun K x bv st f (PySem.W.fnOf x bv (Dr st) (Cp st) (A9 st) .none kV de pm an bp ct):=⟨⟨oc,od,kV,de,pm,an,bp,ct,hV,rfl,l,c⟩,k⟩
end
theorem Ar(h:n<=1000):n<sizeLine:=zDI h %[|0]
section
variable {X:Cx}
theorem pv(i:Nat)(hN:X.N[i]? = some x:=by rfl)(hv:af X.env.scope x:=by first | exact Or.inl rfl | exact Or.inr (Or.inl rfl) | exact Or.inr (Or.inr rfl))(hd:%[|49]=false:=by decide)(eC:(x == ("__classdict__":Str))=false:=by decide):PE X (.Name x pos) (Vz i):=Ye hN hv hd eC
end
theorem Aq(h:B):If false A B:=.ff rfl h
theorem AB(h:A):If true A B:=.tt rfl h
theorem Ci(h1:b=true->A)(h2:¬b=true->B):If b A B:=by
 cases b with
 | true=>exact .tt rfl (h1 rfl)
 | false=>exact .ff rfl (h2 zAF)
theorem RM[Decidable c](hc:c)(h:B):If (!decide c) A B:=.ff (by rw[decide_eq_true hc];rfl) h
def A0B(H H':Hp):Prop:=∀b o,H b=some o->H' b=some o
theorem A0B.refl(H:Hp):A0B H H:=fun _ _ h=>h
theorem A0B.trans(a:A0B H H1)(b:A0B H1 H2):A0B H H2:=fun c o h=>b c o (a c o h)
theorem A0B.free(e:A0B H H')(h:H' l=Option.none):H l=Option.none:=by
 cases q:H l with
 | none=>rfl
 | some o=>
  rw[e l o q] at h;cases h
theorem A0B.seq{K:PySem.W.Frag}(e:A0B H H')(h:SqL K H a xs):SqL K H' a xs:=by
 rcases h with (h | ⟨o,h⟩) | h
 ·exact .inl (.inl (e _ _ h))
 ·exact .inl (.inr ⟨o,e _ _ h⟩)
 ·exact .inr h
section
variable {X:Cx}
inductive EA(K:PySem.W.Frag)(xs:List V)(H:Hp)(Q:VK):Prop where
 | mk (x T t b) (_:xs=[x,.ty T]) (_:Gc K H x t) (_:PySem.W.kitOne K t (.type T)=some b) (_:Q (.bl b) H):EA K xs H Q
theorem Mm:Ce X (.builtin "isinstance") (EA X.K):=by
 exists 7;obtain⟨x,T,t,b,rfl,ty,e,q⟩:=h;obtain⟨u,w',rfl,rx,ry⟩:=WD r;cases ry;exact Ql I rx ty e fun tk=>⟨.bl b,H,I.tok _,rfl,q⟩
theorem RC(K:PySem.W.Frag)(T:String):PySem.W.kitOne K (.type T) (.type T)=some true:=by
 unfold PySem.W.kitOne;rw[if_pos (beq_self_eq_true _)]
theorem DG(K:PySem.W.Frag):PySem.W.kitOne K (.type "tuple") (.type "str")=some false:=by
 with_unfolding_all rfl
inductive Zn(K:PySem.W.Frag)(x:V)(y:V)(H:Hp)(Q:VK):Prop where
 | mk (a b xs) (_:x= .ref a) (_:y= .ref b) (_:SqL K H a xs) (_:SqL K H b []) (_:Q (.bl (!xs.isEmpty)) H):Zn K x y H Q
theorem Nh(hu:X.A.units<cLine):C3 X (compareOp .NotEq) (Zn X.K):=by
 exists 3;obtain⟨a,b,xs,rfl,rfl,ha,hb,q⟩:=h;cases rx;cases ry;obtain⟨its,r,pl,hz⟩:=I.list ha;obtain⟨bH,r2,pl2,hz2⟩:=I.list hb;cases r2
 cases r with
 | nil=>exact SeqAt.RcNeAt.lists (e:=fun _=>true) pl.isList pl2.isList rfl hu (fun j h1=>absurd h1 (zB8 _)) _ _ _ _ ⟨.bl false,H,I,rfl,q⟩
 | cons r1 r2=>exact SeqAt.RcNeAt.lists_lengths pl.isList pl2.isList %[|2] hu _ _ _ _ ⟨.bl true,H,I,rfl,q⟩
inductive ZP(K:PySem.W.Frag)(x:V)(y:V)(H:Hp)(Q:VK):Prop where
 | mk (a b xs) (_:x= .ref a) (_:y= .ref b) (_:SqL K H a xs) (_:SqL K H b []) (_:Q (.bl xs.isEmpty) H):ZP K x y H Q
theorem HP(hu:X.A.units<cLine):C3 X (compareOp .Eq) (ZP X.K):=by
 exists 3;obtain⟨a,b,xs,rfl,rfl,ha,hb,q⟩:=h;cases rx;cases ry;obtain⟨its,r,pl,hz⟩:=I.list ha;obtain⟨bH,r2,pl2,hz2⟩:=I.list hb;cases r2
 cases r with
 | nil=>exact zDM (e:=fun _=>true) pl.isList pl2.isList rfl hu (fun j h1=>absurd h1 (zB8 _)) _ _ _ _ ⟨.bl true,H,I,rfl,q⟩
 | cons r1 r2=>exact SeqAt.RcAt.lists_lengths pl.isList pl2.isList %[|2] hu _ _ _ _ ⟨.bl false,H,I,rfl,q⟩
inductive Rm(K:PySem.W.Frag)(x:V)(vs:List V)(H:Hp)(Q:VK):Prop where
 | mk (l xs y j z) (_:x= .ref l) (_:vs=[y]) (_:SqL K H l xs) (_:CV y=true) (_:xs.all CV=true) (_:xs[j]? = some z) (_:MK z y=true) (_:(∀m c,m<j->xs[m]? = some c->MK c y=false)) (_:Q (.int (j:Nat)) H):Rm K x vs H Q
theorem RU:Zi X "list.index" (Rm X.K):=by
 exists 15;obtain⟨l,xs,y,j,z,rfl,rfl,hq,fy,fxs,hz,he,iP,q⟩:=h;cases rx;obtain⟨u,rfl,ru⟩:=rv.one;obtain⟨its,r,pl,hs⟩:=I.list hq;obtain⟨o,n,ho,hc,hd,hdata⟩:=pl;obtain⟨cls,dd,data,sl⟩:=o;simp only at hc hd hdata;subst hc hd hdata;have hl:=r.length;have hj:j<xs.length:=(List.getElem?_eq_some_iff.mp hz).1
 have at':∀m c,xs[m]? = some c->∃(hm:m<its.toArray.size),LC y its.toArray[m]=MK c y:=fun m c hm=>by
  obtain⟨w',hw,rw'⟩:=r.get hm;have dg:m<its.length:=(List.getElem?_eq_some_iff.mp hw).1;refine⟨by simpa using dg,?_⟩;have fc:CV c=true:=(List.all_eq_true.mp fxs) c (zAN hm);have e1:its.toArray[m]'(by simpa using dg)=w':=by simpa using (List.getElem?_eq_some_iff.mp hw).2
  rw[e1];exact NO rw' fc
 obtain⟨hj',ej⟩:=at' j z hz;have dF:sizeLine=16777216:=sizeLine_eq;refine call_meets F.slot_list_index ⟨_,ho,rfl⟩ F.entry_list_index (F.args_list_index_2 _ _) (SeqAt.list_indexAt l its.toArray n none sl u (LC y) j hj' %[|1] (ej.trans he) (fun m hm bL=>?_)) ⟨ho,?_,?_⟩
 ·have bT:m<xs.length:=by simp at hm;omega
  obtain⟨_,em⟩:=at' m xs[m] (List.getElem?_eq_getElem bT);exact em.trans (iP m _ bL (List.getElem?_eq_getElem bT))
 ·exact fun w' hw=>C6 ru fy r fxs w' (by simpa using hw)
 ·exact⟨.int j,H,I.tok _,⟨_,rfl⟩,q⟩
theorem Ip:∀{ys:List Str}{us:%[|7]},Vals (ys.map V.str) us->StrsAre us ys
 | [],_,r=>by cases r;exact .nil
 | y::ys,_,r=>by
  cases r with
  | cons r1 r2=>
   obtain⟨t,rfl⟩:=r1;exact .cons y t (Ip r2)
inductive WW(K:PySem.W.Frag)(x:V)(vs:List V)(H:Hp)(Q:VK):Prop where
 | mk (sep l ys) (_:x= .str sep) (_:vs=[.ref l]) (_:SqL K H l (ys.map V.str)) (_:(ys.map (·.length)).sum+ys.length*sep.length<=16777216) (_:Q (.str (Txt.join sep ys)) H):WW K x vs H Q
theorem E7:Zi X "str.join" (WW X.K):=by
 exists 15;obtain⟨sep,l,ys,rfl,rfl,hq,hz,q⟩:=h;exists 5;obtain⟨u,rfl,ru⟩:=rv.one;cases ru;obtain⟨its,r,pl,hs⟩:=I.list hq;exact join_list pl.isList (by simpa using Ip r) hz fun t' k=>⟨.str _,H,I.tok _,⟨_,rfl⟩,q⟩
def Ys(P:Program)(w:World)(K:PySem.W.Frag)(d:Addr)(f:Str->Option V):Prop:=
 (d == sysModules)=false/\∃(o:Obj)(vs:List (Str×Value)),K.lookup d=some o/\o.IsDictOf (PySem.strKind P w) vs/\∀k,A1G (f k) (valueAt vs k)
inductive ZI(P:Program)(w:World)(K:PySem.W.Frag)(x:V)(y:V)(H:Hp)(Q:VK):Prop where
 | mk (d k v f) (_:x= .ref d) (_:y= .str k) (_:Ys P w K d f) (_:f k=some v) (_:Q v H):ZI P w K x y H Q
theorem Yy:WR X (ZI X.prog X.w X.K):=by
 exists 17;obtain⟨d,k,z,f,rfl,rfl,⟨hm,o,vs,hk,hd,hv⟩,e,q⟩:=h;cases rx;obtain⟨t,rfl⟩:=ry;have hD:s.heap.DictOf (PySem.strKind X.prog X.w) d vs:=Heap.dictOf_iff.mpr ⟨o,I.kIn d o hk,hd⟩;have hr:=hv k;rw[e] at hr
 cases ev:valueAt vs k with
 | none=>rw[ev] at hr;exact False.elim hr
 | some u'=>
  rw[ev] at hr;exact tail_any hD.typeIs slot_dict_getitem.lookup (wpAny_getItem_of (strKind_is _ _ k t) hD.mapOf ev ⟨z,H,I.tok _,hr,q⟩) hs
end
end L2
namespace HT2
open PySem L2
def TS(H H':Hp):Prop:=∀p xs,H p=some (.tup xs)->H' p=some (.tup xs)
theorem TS.trans(a:TS H H1)(b:TS H1 H2):TS H H2:=fun p xs e=>b p xs (a p xs e)
theorem TS.same(s:A0B H H'):TS H H':=fun p xs e=>s p _ e
theorem TS.lst{H:Hp}{l:Addr}{xs:List V}{o:HO}(h:H l=some (.lst xs)):TS H (upd H l o):=fun p ys e=>by
 rw[Af (AT e h %[|11])];exact e
theorem TS.new(h:H l=none):TS H (upd H l o):=fun p ys e=>by
 rw[Af (Ah e h)];exact e
theorem Ab(h:H p=none)(o:HO):A0B H (upd H p o):=fun b u q=>by rw[Af (Ah q h)];exact q
theorem Ap(s:A0B H0 H)(h:H0 p=none)(o:HO):A0B H0 (upd H p o):=fun b u q=>by rw[Af (Ah q h)];exact s b u q
inductive Tr where
 | lt (k:Nat)
 | nt (t:Tr)
 | bn (j:Nat) (a b:Tr)
 deriving DecidableEq
def jn:Nat->Str
 | 0=>"and"
 | 1=>"or"
 | 2=>"if"
 | _=>"same"
def Tr.At(H:Hp):Tr->V->Prop
 | .lt k,v=>∃p,v= .ref p/\H p=some (.tup [.str "let",.int k])
 | .nt t,v=>∃p u,v= .ref p/\H p=some (.tup [.str "not",u])/\t.At H u
 | .bn j a b,v=>∃p x y,v= .ref p/\H p=some (.tup [.str (jn j),x,y])/\a.At H x/\b.At H y
def Tr.size:Tr->Nat
 | .lt _=>1
 | .nt t=>t.size+1
 | .bn _ a b=>a.size+b.size+1
def Tr.ok(m:Nat):Tr->Prop
 | .lt k=>k<m
 | .nt t=>t.ok m
 | .bn j a b=>j<4/\a.ok m/\b.ok m
theorem Tr.size_pos:∀t:Tr,0<t.size
 | .lt _=>Nat.one_pos
 | .nt _=>zBH _
 | .bn _ _ _=>zBH _
theorem Tr.At.keep{H H':Hp}(s:TS H H'):∀{t:Tr}{v:V},t.At H v->t.At H' v
 | .lt k,v,h=>by
  obtain⟨p,e,h⟩:=h;exact⟨p,e,s _ _ h⟩
 | .nt t,v,h=>by
  obtain⟨p,u,e,h,q⟩:=h;exact⟨p,u,e,s _ _ h,Tr.At.keep s q⟩
 | .bn j a b,v,h=>by
  obtain⟨p,x,y,e,h,q,r⟩:=h;exact⟨p,x,y,e,s _ _ h,Tr.At.keep s q,Tr.At.keep s r⟩
theorem Tr.ok.mono{m n:Nat}(h:m<=n):∀{t:Tr},t.ok m->t.ok n
 | .lt k,q=>zAM q h
 | .nt t,q=>Tr.ok.mono (t:=t) h q
 | .bn j a b,q=>⟨q.1,Tr.ok.mono (t:=a) h q.2.1,Tr.ok.mono (t:=b) h q.2.2⟩
abbrev A0I(H:Hp):List V->List Tr->Prop:=Paired fun(v:V)(t:Tr)=>t.At H v
theorem A0I.keep{H H':Hp}(s:TS H H'):∀{xs:List V}{ts:List Tr},A0I H xs ts->A0I H' xs ts
 | _,_,.nil=>.nil
 | _,_,.cons r q=>.cons (Tr.At.keep s r) (A0I.keep s q)
theorem A0I.len{H:Hp}:∀{xs:List V}{ts:List Tr},A0I H xs ts->xs.length=ts.length
 | _,_,.nil=>rfl
 | _,_,.cons _ q=>congrArg (· + 1) (A0I.len q)
theorem A0I.snoc{H:Hp}{y:V}{t:Tr}(h:t.At H y):∀{xs:List V}{ts:List Tr},A0I H xs ts->A0I H (xs++[y]) (ts++[t])
 | _,_,.nil=>.cons h .nil
 | _,_,.cons r q=>.cons r (A0I.snoc h q)
theorem A0I.last{H:Hp}:∀{xs:List V}{ts:List Tr},A0I H xs ts->0<ts.length->∃fk y dy t,xs=fk++[y]/\ts=dy++[t]/\A0I H fk dy/\Tr.At H t y
 | _,_,.nil,h=>absurd h (zBM _)
 | _,_,.cons (a:=v) (b:=t) r .nil,_=>⟨[],v,[],t,rfl,rfl,.nil,r⟩
 | _,_,.cons (a:=v) (b:=t) r (.cons r' q'),_=>by
  obtain⟨fk,y,dy,u,e1,e2,q,a⟩:=A0I.last (Paired.cons r' q') (zBH _);exact⟨v::fk,y,t::dy,u,by rw[e1];rfl,by rw[e2];rfl,.cons r q,a⟩
def sz(ts:List Tr):Nat:=(ts.map Tr.size).sum
theorem B9(ts:List Tr)(t:Tr):sz (ts++[t])=sz ts+t.size:=by
 unfold sz;rw[List.map_append,zCP];simp
theorem Cq(xs:List V)(y:V):(xs++[y])[(xs++[y]).length-1]? = some y:=by
 simp
theorem C8(h:n<=1000):n<=sizeLine:=zA7 (Ar h)
theorem Cy:2<=sizeLine:=by decide
theorem No:3<=sizeLine:=by decide
theorem ZU:4<=sizeLine:=by decide
theorem SJ:5<=sizeLine:=by decide
theorem Rg:1<=sizeLine:=by decide
theorem GQ:0<=sizeLine:=by decide
def A0Z:List V:=[.str "and",.str "or",.str "if",.str "same"]
theorem Ml(h0:0<=i)(h1:i<4):Er A0Z i=some (.str (jn i.toNat)):=by
 obtain⟨n,rfl⟩:=zB1 h0;have hn:n<4:=by omega
 rw[zBB];refine Ac ?_
 match n,hn with
 | 0,_=>rfl
 | 1,_=>rfl
 | 2,_=>rfl
 | 3,_=>rfl
end HT2
namespace L2
open PySem PySem.Spec PyProof.Rows
abbrev ED:Value->Shared->Prop:=fun _ _=>False
theorem OY{α:Type}{t:Sem α}{Q:α->Shared->Prop}(h:wpAny M A t Q ED s):wpAny M A t Q E s:=wpAny_mono h (fun _ _ q=>q) fun _ _ z=>False.elim z
def EE(J:It)(g:TG)(tb:TS)(D:BH)(σ:St)(H:Hp):Prop:=∃W:Nat->Nat->St->Hp->Prop,(∃m,W 0 m σ H)/\∀i m σ H,W i m σ H->
 (J.stop i H/\D.nx σ H)\/(J.go i H/\∃N:St->Hp->Prop,(∀σ' H',N σ' H'->∃m',m'<m/\W (i+1) m' σ' H')/\∀x H',J.yld i H x H'->g x σ H' fun σ2 H2=>tb { D with nx:=N,ct:=N,bk:=D.nx } σ2 H2)
abbrev TY:=(Shared->Prop)->Shared->Prop
structure PB(X:Cx)(WB:TY)(tb:TS):Prop where
 mono:∀(Qa Qb:Shared->Prop)(s:Shared),(∀s,Qa s->Qb s)->WB Qa s->WB Qb s
 run:∀(pins:%[|14])(s:Shared)(σ:St)(H:Hp)(D:BH),%[|5]->tb D σ H->WB (fun s'=>∃σ' H',Inv X pins σ' H' s'/\D.nx σ' H') s
def HT(X:Cx)(e:Expr)(d:Nat)(it acc:Value)(tg:Expr)(WB:TY):Prop:=∀s(Qd Qa:Shared->Prop),
 wpAny %[|15] X.A (pyNext it) (fun r s1=>match r with | none=>Qd s1 | some v=>%[|19] (letOwnedTupleGo tg it v) (fun _ s2=>%[|19] (assign tg X.env v) (fun _ s3=>WB Qa s3) ED s2) ED s1) ED s->
 wpAny %[|15] X.A (compTurn e d it acc X.env) (fun bC s'=>match bC with | .done f=>f= .next/\Qd s' | .again c'=>c'= .compLoop e d it acc X.env/\Qa s') ED s
section
variable {X:Cx}{e tg:Expr}{d:Nat}{acc:Value}{it:Addr}{WB:TY}{tb:TS}{g:TG}{J:It}{fp:%[|6]}{tn:Nat->Heap->Prop}{D:BH}{pins:%[|14]}{σ:St}{H:Hp}{s:Shared}
theorem CL(bO:X.xe=ED)(hc:X.calm=true)(ht:HT X e d (.ref it) acc tg WB)(cy:(Code.compLoop e d (.ref it) acc X.env).isFrame=false)(hun:X.A.under (.compLoop e d (.ref it) acc X.env)=X.A)(hqu:(Code.compLoop e d (.ref it) acc X.env).quiet=true)(T:LL X.prog X.w X.K tg J fp it tn)(hg:PG X tg g)(hb:PB X WB tb)(I:%[|5])(st:tn 0 s.heap)(f2:∀b∈fp,CG X pins H b)(h:EE J g tb D σ H):
  codeAny %[|15] X.A (.compLoop e d (.ref it) acc X.env) (fun r s'=>r= .ok .next/\∃σ' H',Inv X pins σ' H' s'/\D.nx σ' H') s:=by
 obtain⟨W,⟨m0,w0⟩,gm⟩:=h;have fh:∀{H':Hp},(∀b∈fp,H' b=none)->∀b∈fp,CG X pins H' b:=fun hn b hb=>⟨hn b hb,(f2 b hb).2⟩
 refine codeAny_loop hqu (fun n s'=>∃i σ' H',Inv X pins σ' H' s'/\tn i s'.heap/\(∀b∈fp,H' b=none)/\W i n σ' H') (fun n s3 hI=>?_) m0 ⟨0,σ,H,I,st,fun b hb=>(f2 b hb).1,w0⟩;obtain⟨i,σ3,H3,I3,gq,fr3,w3⟩:=hI
 have hden:%[|15].den (.compLoop e d (.ref it) acc X.env)=(compTurn e d (.ref it) acc X.env).onRaise (fun x=>do noteFrame x X.env;theTreesLotGoes x):=by
  show (if (Code.compLoop e d (.ref it) acc X.env).isFrame=true then _ else _)=_;rw[cy];rfl
 rw[hun,hden];refine wpAny_noted (OY ?_);rcases gm i n σ3 H3 w3 with⟨stop,qn⟩|⟨go,N,hN,step⟩
 ·refine wpAny_mono (ht s3 (fun s'=>∃σ' H',Inv X pins σ' H' s'/\D.nx σ' H') %[|32] (AU (T.done X rfl rfl rfl hc i pins s3 σ3 H3 ED I3 (fh fr3) gq stop) fun r s4 ⟨hr,I4⟩=>?_)) (fun bC s' q=>?_) fun _ _ z=>z
  ·subst hr;exact⟨σ3,H3,I4,qn⟩
  ·cases bC with
   | done f=>
    obtain⟨rfl,q⟩:=q;exact⟨rfl,q⟩
   | again c'=>exact False.elim q.2
 ·refine wpAny_mono (ht s3 %[|32] (fun s'=>∃m,m<n/\∃i σ' H',Inv X pins σ' H' s'/\tn i s'.heap/\(∀b∈fp,H' b=none)/\W i m σ' H') (AU (T.item X rfl rfl rfl hc i pins s3 σ3 H3 ED I3 (fh fr3) gq go) fun r s4 ⟨u,hr,h4⟩=>?_)) (fun bC s' q=>?_) fun _ _ z=>z
  ·subst hr;refine AU h4 fun _ s5 ⟨x,H5,I5,r5,y5,iO,fr5⟩=>?_
   have I5':=I5.pinned (fh fr5) (T.obj _ _ iO);have hgx:=hg _ s5 σ3 H5 x u _ I5' r5 (step x H5 y5);rw[bO] at hgx;refine AU hgx fun _ s6 ⟨σ6,H6,I6,q6⟩=>?_
   have again:∀{s7:Shared},(∃σ7 H7,Inv X (pins++Ia fp s5.heap) σ7 H7 s7/\N σ7 H7)->∃m,m<n/\∃i σ' H',Inv X pins σ' H' s7/\tn i s7.heap/\(∀b∈fp,H' b=none)/\W i m σ' H':=fun {s7} ⟨σ7,H7,I7,n7⟩=>by
    obtain⟨m',hm,w7⟩:=hN σ7 H7 n7;refine⟨m',hm,i+1,σ7,H7,I7.unpinned,T.keep _ _ _ iO fun b hb o e=>(I7.pin (b,o) (zAG _ (zAG _ (Dv hb e)))).1,fun b hb=>?_,w7⟩;obtain⟨o,e,d⟩:=T.obj _ _ iO b hb;exact (I7.pin (b,o) (zAG _ (zAG _ (Dv hb e)))).2.1
   exact hb.mono _ _ s6 (fun s7 q7=>again q7) (hb.run _ s6 σ6 H6 _ I6 q6)
  ·cases bC with
   | done f=>exact False.elim q.2
   | again c'=>exact q
def Hc(bt:%[|20])(env:Env):Sem Bool:=forIn bt true fun c r=>if r=true then do let ok <-isTrue c env (eval c env);pure (ForInStep.yield ok) else pure (ForInStep.yield r)
def QZ(X:Cx)(bt:%[|20])(t:TT):Prop:=
 ∀pins s(σ:St)H(Q:Bool->Hp->Prop),%[|5]->t σ H Q->%[|19] (Hc bt X.env) (TP X pins σ Q) X.xe s
def M8:TT:=fun _ H Q=>Q true H
theorem BG:QZ X [] M8:=fun pins s σ H Q I h=>wpAny_tests_nil ⟨H,I,h⟩
theorem CJ(h:PT X c tc):QZ X [c] tc:=fun pins s σ H Q I q=>wpAny_tests_one (h pins s σ H Q I q)
def EG(X:Cx)(bt:%[|20])(bu:Expr)(acc:Value):TY:=fun Qa s=>%[|19] (Hc bt X.env) (fun ok s1=>if ok=true then wpAny %[|15] X.A (eval bu X.env) (fun x s2=>%[|19] (call (.builtin "list.append") [acc,x]) (fun _ s3=>Qa s3) ED s2) ED s1 else Qa s1) ED s
inductive TU(acc:Addr)(D:BH)(σ:St)(x:V)(H1:Hp):Prop where
 | mk (xs) (_:H1 acc=some (.lst xs)) (_:xs.length<sizeLine) (_:D.nx σ (upd H1 acc (.lst (xs++[x])))):TU acc D σ x H1
def DC(acc:Addr)(te:TE):TS:=fun D σ H=>te σ H (TU acc D σ)
def Dx(tc:TT)(tb:TS):TS:=fun D σ H=>tc σ H fun b H1=>If b (tb D σ H1) (D.nx σ H1)
theorem He{bt:%[|20]}{bu:Expr}{ac:Addr}{tc:TT}{te:TE}(bO:X.xe=ED)(hi:QZ X bt tc)(he:PE X bu te):PB X (EG X bt bu (.ref ac)) (Dx tc (DC ac te)) where
 mono:=fun Qa Qb s hq h=>AU h fun ok s1 h1=>by
  cases ok with
  | false=>exact hq _ h1
  | true=>exact AU h1 fun x s2 h2=>AU h2 fun _ s3 h3=>hq _ h3
 run:=fun pins s σ H D I h=>by
  have h1:=hi pins s σ H _ I h;rw[bO] at h1;refine AU h1 fun ok s1 ⟨H1,I1,q1⟩=>?_
  cases ok with
  | false=>exact⟨σ,H1,I1,q1.f⟩
  | true=>
   have fg:DC ac te D σ H1:=q1.t;have h2:=he pins s1 σ H1 _ I1 fg;rw[bO] at h2;refine AU h2 fun u s2 ⟨x,H2,I2,r2,xs,hl,hz,q2⟩=>?_
   have h3:=JB (X:=X) pins s2 σ H2 (.ref ac) [x] (.ref ac) [u] (fun _ H'=>D.nx σ H') I2 rfl (.cons r2 .nil) ⟨hl,hz,q2⟩;rw[bO] at h3;exact AU h3 fun _ s3 ⟨_,H3,I3,_,q3⟩=>⟨σ,H3,I3,q3⟩
theorem Ob:HT X %[|76] 0 cJ acc tg (EG X bt bu acc):=by
 intro s Qd Qa h;rw[compTurn_list];exists 19
 cases r with
 | none=>exact wpAny_pure ⟨rfl,h₁⟩
 | some v=>
  exists 20
  cases ok with
  | false=>exact wpAny_pure ⟨rfl,h4⟩
  | true=>exact wpAny_bind (wpAny_bind (AU h4 fun x s₄ h₄=>wpAny_bind (AU h₄ fun _ s₅ h₅=>wpAny_pure (wpAny_pure ⟨rfl,h₅⟩))))
theorem Lr(bu ig cA tg bg:Expr)(dQ bt:%[|20])(scope:Scope)(pos:Pos)(it acc:Value)(env:Env):
  compTurn (.ListComp bu [⟨ig,cA,dQ,0⟩,⟨tg,bg,bt,0⟩] scope pos) 1 it acc env=(do
   standAt bg.pos
   match <-pyNext it with
   | none=>pure (.done .next)
   | some v=>
    letOwnedTupleGo tg it v
    assign tg env v
    let mut ok:=true
    for c in bt do
     if ok then ok <-isTrue c env (eval c env)
    if ok then
     (do let _ <-call (.builtin "list.append") [acc,<-eval bu env])
    again (.compLoop (.ListComp bu [⟨ig,cA,dQ,0⟩,⟨tg,bg,bt,0⟩] scope pos) 1 it acc env)):=by rfl
theorem Zj:HT X (.ListComp bu [⟨ig,cA,dQ,0⟩,⟨tg,bg,bt,0⟩] scope pos) 1 cJ acc tg (EG X bt bu acc):=by
 intro s Qd Qa h;rw[Lr];exists 19
 cases r with
 | none=>exact wpAny_pure ⟨rfl,h₁⟩
 | some v=>
  exists 20
  cases ok with
  | false=>exact wpAny_pure ⟨rfl,h4⟩
  | true=>exact wpAny_bind (wpAny_bind (AU h4 fun x s₄ h₄=>wpAny_bind (AU h₄ fun _ s₅ h₅=>wpAny_pure (wpAny_pure ⟨rfl,h₅⟩))))
theorem KA(bu tg bg bX bi:Expr)(bt bw:%[|20])(scope:Scope)(pos:Pos)(it acc:Value)(env:Env):
  compTurn (.ListComp bu %[|44] scope pos) 0 it acc env=(do
   standAt bg.pos
   match <-pyNext it with
   | none=>pure (.done .next)
   | some v=>
    letOwnedTupleGo tg it v
    assign tg env v
    let mut ok:=true
    for c in bt do
     if ok then ok <-isTrue c env (eval c env)
    if ok then
     let x <-eval bi env
     standAt bi.pos
     let x <-foldedSetIterable bi env x
     let _ <-runOwn (.compStart (.ListComp bu %[|44] scope pos) 1 (<-holding [x] (pyIter x)) acc env) env
    again (.compLoop (.ListComp bu %[|44] scope pos) 0 it acc env)):=by rfl
def JF(X:Cx)(bt:%[|20])(e bi:Expr)(acc:Value):TY:=fun Qa s=>%[|19] (Hc bt X.env) (fun ok s1=>if ok=true then
 wpAny %[|15] X.A (eval bi X.env) (fun x s2=>%[|19] (pyIter x) (fun it s3=>codeAny %[|15] X.A (.compStart e 1 it acc X.env) (fun r s4=>r= .ok .next/\Qa s4) s3) ED s2) ED s1 else Qa s1) ED s
theorem Xe(hs:∀x,foldedSetIterable bi X.env x=pure x):
  HT X (.ListComp bu %[|44] scope pos) 0 cJ acc tg (JF X bt (.ListComp bu %[|44] scope pos) bi acc):=by
 intro s Qd Qa h;rw[KA];exists 19
 cases r with
 | none=>exact wpAny_pure ⟨rfl,h₁⟩
 | some v=>
  exists 20
  cases ok with
  | false=>exact wpAny_pure ⟨rfl,h4⟩
  | true=>
   refine wpAny_bind (AU h4 fun x s₄ h₄=>wpAny_bind (wpAny_standAt (wpAny_bind (wpAny_of_eq (hs x) (wpAny_bind (wpAny_holding (AU h₄ fun it s₅ h₅=>?_)))))));refine wpAny_bind (wpAny_runOwn (codeAny_mono h₅ fun r s₆ h₆=>?_));obtain⟨rfl,h₆⟩:=h₆;exact wpAny_pure ⟨rfl,h₆⟩
theorem Cl(d4:((clausesOf e)[d]?).elim false (·.is_async != 0)=false)(cy:(Code.compStart e d cJ acc X.env).isFrame=false)(hun:X.A.under (.compStart e d cJ acc X.env)=X.A)(hqu:∀it',(Code.compLoop e d it' acc X.env).quiet=true)(hposR:True)(h0:codeAny %[|15] X.A (.compLoop e d cJ acc X.env) R s)(h:%[|19] (pyIter cJ) (fun it' s'=>codeAny %[|15] X.A (.compLoop e d it' acc X.env) R s') ED s):
  codeAny %[|15] X.A (.compStart e d cJ acc X.env) R s:=by
 refine codeAny_of_tree ?_
 have hden:%[|15].den (.compStart e d cJ acc X.env)=(compStart e d cJ acc X.env).onRaise (fun x=>do noteFrame x X.env;standAt theWindowsPlace):=by
  show (if (Code.compStart e d cJ acc X.env).isFrame=true then _ else _)=_;rw[cy];rfl
 rw[hun,hden];refine wpAny_notedAt (OY ?_);unfold compStart;rw[d4];show wpAny _ _ (ask >>= _) _ _ s;refine wpAny_bind (wpAny_askSetting (wpAny_ite ?_));split
 ·first
   | exact wpAny_bind (wpAny_pure (wpAny_pure (And.intro (hqu _) h0)))
   | exact wpAny_pure (And.intro (hqu _) h0)
 ·refine wpAny_bind (wpAny_rule ?_)
  cases hg:(clausesOf e)[d]? with
  | none=>exact wpAny_bind (AU h fun it' s' h'=>wpAny_pure (And.intro (hqu _) h'))
  | some g'=>exact wpAny_bind (wpAny_standAt (wpAny_bind (AU h fun it' s' h'=>wpAny_pure (And.intro (hqu _) h'))))
theorem YJ{bu bg bX bi:Expr}{bt bw:%[|20]}{scope:Scope}{pos:Pos}{ac:Addr}{tc:TT}{fq:TI}{g1:TG}{tb1:TS}(bO:X.xe=ED)(hc:X.calm=true)(hi:QZ X bt tc)(hI:PI X bX bi fq)(eG:PG X bX g1)(cw:PB X (EG X bw bu (.ref ac)) tb1):
  PB X (JF X bt (.ListComp bu %[|44] scope pos) bi (.ref ac)) (Dx tc (Nk fq g1 tb1)) where
 mono:=fun Qa Qb s hq h=>AU h fun ok s1 h1=>by
  cases ok with
  | false=>exact hq _ h1
  | true=>exact AU h1 fun x s2 h2=>AU h2 fun it s3 h3=>codeAny_mono h3 fun r s4 h4=>⟨h4.1,hq _ h4.2⟩
 run:=fun pins s σ H D I h=>by
  have h1:=hi pins s σ H _ I h;rw[bO] at h1;refine AU h1 fun ok s1 ⟨H1,I1,q1⟩=>?_
  cases ok with
  | false=>exact⟨σ,H1,I1,q1.f⟩
  | true=>
   have fg:Nk fq g1 tb1 D σ H1:=q1.t;have h2:=hI pins s1 σ H1 _ I1 fg;rw[bO] at h2;refine AU h2 fun u s2 h3=>AU h3 fun cJ s3 h4=>?_
   obtain⟨it,fp,tn,J,H3,e,I3,T,gq,f3,hR⟩:=h4;subst e;have bY:=CL (e:=.ListComp bu %[|44] scope pos) (d:=1) (D:=D) bO hc Zj rfl rfl rfl T eG cw I3 gq f3 hR;exact Cl (X:=X) rfl rfl rfl (fun _=>rfl) True.intro bY (T.self _ 0 s3 _ _ gq bY)
end
structure CC where
 s:Shared
 H:Hp
 fp:%[|6]
def Cx.cmp(X:Cx)(N:List Str)(scope:Scope)(cl:List (Str×Addr))(c:CC):Cx:=
 { X with N:=N,s₀:=c.s,H₀:=c.H,env:=compEnvC scope cl c.s.heap.objs.size X.env,outer:=X.stack,ex:=c.fp,fn:=fun _=>false,pn:=[] }
def sub(js:List (%[|30]))(σ:St):St:=js.map fun o=>o.bind fun j=>(σ[j]?).join
def FD(X:Cx)(N:List Str)(scope:Scope)(js:List (%[|30])):Prop:=
 ∀(i:Nat)(x:Str)(j:Nat),N[i]? = some x->js[i]? = some (some j)->X.N[j]? = some x/\X.env.kindOf x=some .cell/\(relabel scope X.env).names.lookup x=some .cell
section
variable {X:Cx}{N:List Str}{scope:Scope}{cl:List (Str×Addr)}{js:List (%[|30])}{pins:%[|14]}{σ:St}{H:Hp}{s:Shared}{fp:%[|6]}
theorem Inv.cmp(I:%[|5])(hf:∀b∈fp,CG X pins H b)(ft:∀b∈fp,b<s.heap.objs.size)(hk:scope.kind= .function)(d4:∀p∈cl,X.env.cells.lookup p.1=some p.2)(hcn:∀x,%[|71]->∃c,cl.lookup x=some c)(fU:FD X N scope js)(hl:js.length=N.length)(hns:h'.Ns s.heap.objs.size (fun _=>none))(cQ:Heap.SameBut s.heap.objs.size (s.heap.push ob) h'):
  Inv (X.cmp N scope cl ⟨s,H,fp⟩) [] (sub js σ) H { s with heap:=h',toks:=t' }:=by
 have bI:∀x c,cl.lookup x=some c->X.env.cells.lookup x=some c:=fun x c e=>d4 (x,c) (zAZ e)
 have cC:∀b o,s.heap.get? b=some o->h'.get? b=some o:=fun b o e=>(cQ.2 b (zAI (zAE e))).trans (Heap.get?_push_of_some _ e)
 refine⟨⟨I.ok.mod,?_,I.ok.glob,I.ok.blt,zAB _,fun x y c h1 h2=>I.ok.inj x y c (bI x c h1) (bI y c h2),fun x hx=>hcn x hx,fun x c h=>?_,I.ok.hd,I.ok.frames,.inl rfl,fun b hb=>⟨zAI (ft b hb),fun x c e=>(hf b hb).2.2.2.2.1 x c (bI x c e)⟩,
   I.bs,zAD I.ok.bsz I.sz,fun b o e hb=>?_,fun b hb hs=>?_,I.stack,I.stkFree⟩,rfl,I.bare,Un.kept cC,⟨_,hns,fun i x v e1 e2 e3=>?_⟩,fun x c e=>?_,I.hok.fresh (zAB _),fun x c e=>I.freeC x c (bI x c e),fun p hp=>?_,I.hok.kept cC,?_⟩
 ·show (relabel scope X.env).kind= .function;exact hk
 ·exact absurd (show false=true from h) zAF
 ·rcases (hf b hb).2.2.2.1 with z | z
  ·exact I.ok.noex b o e z
  ·exact absurd (zAM (zAE (I.ok.bs b o e).1) z) (zBM _)
 ·rcases List.mem_cons.mp (I.stkSub b hs) with z | z
  ·exact (hf b hb).2.1 z
  ·exact (hf b hb).2.2.1 z
 ·have dR:(sub js σ)[i]? = some (some v):=e2;unfold sub at dR;rw[List.getElem?_map] at dR
  cases ej:js[i]? with
  | none=>rw[ej] at dR;cases dR
  | some o=>
   rw[ej] at dR
   cases o with
   | none=>cases dR
   | some j=>
    obtain⟨a1,a2,a3⟩:=fU i x j e1 ej;have e4:(σ[j]?).join=some v:=zAK dR
    have e5:σ[j]? = some (some v):=by
     cases q:σ[j]? with
     | none=>rw[q] at e4;cases e4
     | some o=>
      rw[q] at e4;have:o=some v:=e4;rw[this]
    obtain⟨m,hn,hloc⟩:=I.loc;obtain⟨u,r,l⟩:=hloc j x v a1 e5 (.inr (.inl a2));refine⟨u,r,.inr ⟨.inl a3,?_⟩⟩;obtain⟨c,hc⟩:=hcn x (.inl a3);refine⟨c,hc,?_⟩;rcases l with⟨k,_⟩|⟨_,c',hc',bR⟩
    ·rw[k] at a2;cases a2
    ·have:c'=c:=by
      have:=bI x c hc;rw[hc'] at this;exact zAK this
     subst this;obtain⟨o,ho,hd⟩:=bR;exact⟨o,cC _ _ ho,hd⟩
 ·obtain⟨v,o,ho,hd⟩:=I.cell x c (bI x c e);exact⟨v,o,cC _ _ ho,hd⟩
 ·exact absurd (show p∈([]:%[|14]) from hp) %[|2]
 ·unfold sub;rw[List.length_map];exact hl
theorem Inv.uncmp(I:%[|5])(hf:∀b∈fp,CG X pins H b)(J:Inv (X.cmp N scope cl ⟨s,H,fp⟩) [] σ' H' s')(cQ:Heap.SameBut s.heap.objs.size s'.heap fu):
  Inv X pins σ H' { s' with heap:=fu }:=by
 have u:Un (Hv X.stack) fp H H' s.heap s'.heap:=J.base;have ne:∀b o,s.heap.get? b=some o->b≠s.heap.objs.size:=fun b o e=>zAI (zAE e)
 have cM:H' s.heap.objs.size=none:=J.free;exists 27
 ·obtain⟨sl,e1⟩:=u.slot b o e n hb hx;exact⟨sl,(cQ.2 b (ne b o e)).trans e1⟩
 ·obtain⟨o',e1⟩:=u.there b o e hx;exact⟨o',(cQ.2 b (ne b o e)).trans e1⟩
 ·refine (J.hok b ob e).stay (fun c w' hc q=>(cQ.2 c ?_).trans q) (fun _ q=>q) fun _ _ q=>q
  rintro rfl;rcases hc with z | z
  ·rw[<-z,cM] at e;cases e
  ·rw[cM] at z;cases z
end
def Ir(wi:TI)(js:List (%[|30]))(g:CC->TG)(tb:CC->Addr->TS):TE:=fun σ H Q=>wi σ H fun J H1=>∀(c:CC)acc,H1 acc=none->
 EE J (g c) (tb c acc) { nx:=fun _ H'=>Q (.ref acc) H',rt:=fun _ _=>False } (sub js σ) (upd H1 acc (.lst []))
section
variable {X:Cx}{N:List Str}{scope:Scope}{cl:List (Str×Addr)}{js:List (%[|30])}{bu tg bg:Expr}{bt:%[|20]}{rest:List Comprehension}{pos:Pos}{wi:TI}{g:CC->TG}{tb:CC->Addr->TS}
theorem L7{WB:CC->Value->TY}(bO:X.xe=ED)(hc:X.calm=true)(hi:PI X tg bg wi)(hs:∀x,foldedSetIterable bg X.env x=pure x)(eH:closureFor scope X.env=pure cl)(hk:scope.kind= .function)(dh:∀x∈scope.names,x.2= .local->scope.names.lookup x.1=some .local)(bR:∀x∈scope.names,x.2≠.cell)(d4:∀p∈cl,X.env.cells.lookup p.1=some p.2)(hcn:∀x,%[|71]->∃c,cl.lookup x=some c)(fU:FD X N scope js)(hl:js.length=N.length)(ht:∀c it ac,HT %[|22] %[|66] 0 it ac tg (WB c ac))(hg:∀c,PG %[|22] tg (g c))(hb:∀c ac,PB %[|22] (WB c (.ref ac)) (tb c ac)):
  PE X %[|66] (Ir wi js g tb):=by
 exists 1;rw[eval_ListComp];have h0:=hi pins s σ H _ I h;refine wpAny_comprehension_free (use:=none) (cl:=cl) rfl hs eH hk dh (AU h0 fun v s1 h1=>AU h1 fun cJ s2 h2=>?_);obtain⟨it,fp,tn,J,H2,e,I2,T,fb,f2,hR⟩:=h2;subst e;refine wpAny_newObj_type (wpAny_newFunctionEnv bR (by intro y hy;simp at hy) (fun h₁ eI di=>?_) hk);dsimp only at eI di ⊢;have I3:=I2.lnew (ys:=[]) (its:=[]) (t':=s2.toks) .nil (zA5 _)
 have fN:∀b∈fp,b<s2.heap.objs.size:=fun b hb=>by
  obtain⟨o,e,_⟩:=T.obj 0 _ fb b hb;exact zAE e
 have fpa:∀b∈fp,b≠s2.heap.objs.size:=fun b hb=>zAI (fN b hb)
 exists 23;exists 24
 have I4:=I3.cmp (N:=N) (cl:=cl) (js:=js) (t':=s2.toks) f3 (fun b hb=>by
  show b<(s2.heap.push _).objs.size
  rw[zAT]
  exact zA1 (fN b hb)) hk d4 hcn fU hl eI di
 have gy:tn 0 h₁:=T.keep 0 _ _ fb fun b hb o e=>(di.2 b (by
  rw[zAT]
  exact zAI (zA1 (fN b hb)))).trans %[|78]
 have f4:∀b∈fp,CG (X.cmp N scope cl ⟨{ s2 with heap:=s2.heap.push { cls:=.type "list",data:=.seq ([]:%[|7]).toArray } },upd H2 s2.heap.objs.size (.lst []),fp⟩) [] (upd H2 s2.heap.objs.size (.lst [])) b:=fun b hb=>
  ⟨(f3 b hb).1,(I4.ok.exf b hb).1,I4.ok.exfs b hb,.inl hb,(I4.ok.exf b hb).2,fun p hp=>absurd (show p∈([]:%[|14]) from hp) %[|2]⟩
 have bY:=codeAny_mono (CL (X:=X.cmp N scope cl ⟨{ s2 with heap:=s2.heap.push { cls:=.type "list",data:=.seq ([]:%[|7]).toArray } },upd H2 s2.heap.objs.size (.lst []),fp⟩) (e:=.ListComp bu (⟨tg,bg,bt,0⟩::rest) scope pos) (d:=0) (acc:=.ref s2.heap.objs.size) (pins:=[]) bO hc (ht _ _ _) rfl rfl rfl T (hg _) (hb _ _) I4 gy f4 hR') (R':=compPost %[|15] X.A X.xe none (%[|36]) (.ref s2.heap.objs.size) %[|57].objs.size) (fun r s' hq=>by
  obtain⟨rfl,σ',H',J',q⟩:=hq
  obtain⟨m,hn,_⟩:=id J'.loc
  exact⟨m,hn,fun fu hs''=>⟨.ref s2.heap.objs.size,H',I3.uncmp f3 J' hs'',rfl,q⟩⟩)
 exists 28
end
structure A1B(X:Cx)(N:List Str)(scope:Scope)(cl:List (Str×Addr))(js:List (%[|30])):Prop where
 clos:closureFor scope X.env=pure cl
 kind:scope.kind= .function
 loc:(scope.names.all fun x=>(x.2 != .local || scope.names.lookup x.1 == some .local) && x.2 != .cell)=true
 ccl:∀p∈cl,X.env.cells.lookup p.1=some p.2
 cn:((relabel scope X.env).names.all fun p=>!(p.2 == .cell || p.2 == .free) || (cl.lookup p.1).isSome)=true
 sh:((N.zip js).all fun p=>match p.2 with | none=>true | some j=>X.N[j]? == some p.1 && X.env.kindOf p.1 == some .cell && (relabel scope X.env).names.lookup p.1 == some .cell)=true
 len:js.length=N.length
section
variable {X:Cx}{N:List Str}{scope:Scope}{cl:List (Str×Addr)}{js:List (%[|30])}
theorem A1B.names(h:A1B X N scope cl js):∀x∈scope.names,x.2= .local->scope.names.lookup x.1=some .local:=fun x hx e=>by
 have q:=(List.all_eq_true.mp h.loc) x hx;rw[zAU] at q;rw[e] at q
 simpa using q.1
theorem A1B.cell(h:A1B X N scope cl js):∀x∈scope.names,x.2≠.cell:=fun x hx e=>by
 have q:=(List.all_eq_true.mp h.loc) x hx;rw[zAU,e] at q;exact absurd q.2 %[|0]
theorem A1B.hcn(h:A1B X N scope cl js):∀x,%[|71]->∃c,cl.lookup x=some c:=fun x hx=>by
 rcases hx with e | e
 ·have q:=(List.all_eq_true.mp h.cn) _ (zAZ e);exact Option.isSome_iff_exists.mp (by simpa using q)
 ·have q:=(List.all_eq_true.mp h.cn) _ (zAZ e);exact Option.isSome_iff_exists.mp (by simpa using q)
theorem A1B.shr(h:A1B X N scope cl js):FD X N scope js:=fun i x j e1 e2=>by
 have hm:(x,some j)∈N.zip js:=by
  have:(N.zip js)[i]? = some (x,some j):=by rw[List.getElem?_zip_eq_some];exact⟨e1,e2⟩
  exact zAN this
 have q:=(List.all_eq_true.mp h.sh) _ hm;simp only[zAU] at q;exact⟨eq_of_beq q.1.1,eq_of_beq q.1.2,eq_of_beq q.2⟩
variable {bu tg bg bX bi:Expr}{bt bw:%[|20]}{pos:Pos}{wi:TI}{fq:CC->TI}{g g1:CC->TG}{tc tc1:CC->TT}{te:CC->TE}
theorem Bk(h:A1B X N scope cl js)(hi:PI X tg bg wi)(hg:∀c,PG %[|22] tg (g c))(ii:∀c,QZ %[|22] bt (tc c))(he:∀c,PE %[|22] bu (te c))(bO:X.xe=ED:=by rfl)(hc:X.calm=true:=by rfl)(hs:∀x,foldedSetIterable bg X.env x=pure x:=by intro _;rfl):
  PE X %[|76] (Ir wi js g fun c ac=>Dx (tc c) (DC ac (te c))):=
 L7 (WB:=fun c ac=>EG %[|22] bt bu ac) bO hc hi hs h.clos h.kind h.names h.cell h.ccl h.hcn h.shr h.len (fun c it ac=>Ob) hg fun c ac=>He bO (ii c) (he c)
theorem Uf(h:A1B X N scope cl js)(hi:PI X tg bg wi)(hg:∀c,PG %[|22] tg (g c))(ii:∀c,QZ %[|22] bt (tc c))(hi1:∀c,PI %[|22] bX bi (fq c))(eG:∀c,PG %[|22] bX (g1 c))(hif1:∀c,QZ %[|22] bw (tc1 c))(he:∀c,PE %[|22] bu (te c))(hs1:∀c x,foldedSetIterable bi %[|22].env x=pure x:=by intro _ _;rfl)(bO:X.xe=ED:=by rfl)(hc:X.calm=true:=by rfl)(hs:∀x,foldedSetIterable bg X.env x=pure x:=by intro _;rfl):
  PE X (.ListComp bu %[|44] scope pos) (Ir wi js g fun c ac=>Dx (tc c) (Nk (fq c) (g1 c) (Dx (tc1 c) (DC ac (te c))))):=
 L7 (WB:=fun c ac=>JF %[|22] bt (.ListComp bu %[|44] scope pos) bi ac) bO hc hi hs h.clos h.kind h.names h.cell h.ccl h.hcn h.shr h.len (fun c it ac=>Xe (hs1 c)) hg
  fun c ac=>YJ bO hc (ii c) (hi1 c) (eG c) (He bO (hif1 c) (he c))
end
section
variable {X:Cx}{pins:%[|14]}{σ:St}{H:Hp}{s:Shared}{fp:%[|6]}{h':Heap}
theorem Inv.turnedL(I:%[|5])(hf:∀b∈fp,CG X pins H b)(k:∀b o,b∉fp->s.heap.get? b=some o->h'.get? b=some o):%[|13] H { s with heap:=h',toks:=t' }:=by
 have nfp:∀b u,H b=some u->b∉fp:=fun b u e z=>by rw[(hf b z).1] at e;cases e
 refine I.call' (ch:=fp) (s':={ s with heap:=h',toks:=t' }) rfl ⟨fun b o e _ _ hx=>k b o hx e,fun b o e _ _ hx=>⟨o.slots,k b o hx e⟩,fun _ _ _ n _=>n,fun b o e hx=>⟨o,k b o hx e⟩,fun _ _ q=>q,fun _ _ _ q=>q,fun _ ps q=>⟨#[],by rw[q];simp⟩⟩ (fun b u e=>?_) I.bare
  fun b hb=>⟨(hf b hb).2.2.2.1,(hf b hb).2.1,(hf b hb).2.2.2.2.1,(hf b hb).2.2.2.2.2⟩
 refine (I.hok b u e).stay (fun c v hc q=>k c v ?_ q) (fun _ q=>q) fun _ _ q=>q
 rcases hc with z | z
 ·rw[z];exact nfp b u e
 ·exact nfp c _ z
theorem Inv.turnedT(I:%[|5])(hf:∀b∈fp,CG X pins H b)(k:∀b o,b∉fp->s.heap.get? b=some o->h'.get? b=some o)(hT:s.heap.objs.size<=T)(hz:xs.length<=sizeLine)(rv:Vals xs its)(ht:IsTup h' T its.toArray):%[|13] (upd H T (.tup xs)) { s with heap:=h',toks:=t' }:=by
 have nfp:∀b u,H b=some u->b∉fp:=fun b u e z=>by rw[(hf b z).1] at e;cases e
 have hn:H T=none:=I.hok.fresh hT
 refine I.call' (ch:=fp) (s':={ s with heap:=h',toks:=t' }) rfl ⟨fun b o e _ _ hx=>k b o hx e,fun b o e _ _ hx=>⟨o.slots,k b o hx e⟩,fun b o e n _=>?_,fun b o e hx=>⟨o,k b o hx e⟩,fun b q e=>?_,fun b o u e=>?_,fun b ps e=>⟨#[],?_⟩⟩ (fun b u e=>?_) I.bare
  fun b hb=>⟨(hf b hb).2.2.2.1,(hf b hb).2.1,(hf b hb).2.2.2.2.1,(hf b hb).2.2.2.2.2⟩
 ·rw[Af (zAI (zAM (zAE e) hT))];exact n
 ·rw[Af (Ah e hn)];exact e
 ·rw[Af (Ah e hn)];exact e
 ·rw[Af (Ah e hn),e];simp
 ·by_cases hb:b=T
  ·subst hb;rw[A0A] at e;cases e;exact⟨hz,its,rv,ht⟩
  ·rw[Af hb] at e;refine (I.hok b u e).stay (fun c v hc q=>k c v ?_ q) (fun c q=>?_) fun c xs q=>?_
   ·rcases hc with z | z
    ·rw[z];exact nfp b u e
    ·exact nfp c _ z
   ·rw[Af (Ah q hn)];exact q
   ·rw[Af (Ah q hn)];exact q
end
def Zk(z:Str):It:=⟨fun i _=>i<z.length,fun i H x H'=>H'=H/\∃c,z.cps[i]? = some c/\x= .str ⟨#[c]⟩,fun i _=>i=z.length⟩
theorem U5(Pv:Nat->St->Hp->Prop)(h0:Pv 0 σ H)(hs:∀i c σ H,z.cps[i]? = some c->Pv i σ H->g (.str ⟨#[c]⟩) σ H fun σ2 H2=>tb { D with nx:=Pv (i+1),ct:=Pv (i+1),bk:=D.nx } σ2 H2)(hd:∀σ H,Pv z.length σ H->D.nx σ H):EE (Zk z) g tb D σ H:=by
 refine⟨fun i m σ H=>m=z.length-i/\i<=z.length/\Pv i σ H,⟨z.length,by simp,zA5 _,h0⟩,?_⟩;rintro i m σ H ⟨rfl,hi,p⟩;by_cases bL:i<z.length
 ·refine .inr ⟨bL,Pv (i+1),fun σ' H' p'=>⟨z.length-(i+1),by omega,rfl,bL,p'⟩,fun x H' y=>?_⟩;obtain⟨e,c,ec,e2⟩:=y;subst e e2;exact hs i c σ _ ec p
 ·have e:i=z.length:=by omega
  subst e;exact .inl ⟨rfl,hd σ H p⟩
theorem L6{P:Program}{w:World}{K:PySem.W.Frag}{tg:Expr}(ty:String)(hty:["enumerate","zip","dict_itemiterator","dict_reverseitemiterator","odict_iterator","itertools.zip_longest","itertools.pairwise"].contains ty=false)(it:Addr)(z:Str)(t:Tok)(W:∀A':Around,A'.handled=none->Walks P w A' it [it] [it] z.cps.size (SignAt z) (fun i h=>h.IsStrIter it ty z t i))(slf:∀(A:Around) (i:Nat) (s:Shared) (Q:Value->Shared->Prop) (E:Value->Shared->Prop),s.heap.IsStrIter it ty z t i->Q (.ref it) s->wpAny (model P w) A (pyIter (.ref it)) Q E s):LL P w K tg (Zk z) [it] it (fun i h=>h.IsStrIter it ty z t i) where
 mem:=by simp
 obj:=fun i h st b hb=>by
  have e:b=it:=by simpa using hb
  subst e;obtain⟨o,e,c,d⟩:=st;exact⟨o,e,fun v z=>by rw[d] at z;cases z⟩
 keep:=fun i h h' st k=>let ⟨o,ho,r⟩:=st;⟨o,k it %[|2] o ho,r⟩
 item:=by
  exists 12;subst hP hw hK;refine (W X.A (I.ok.hd hc)).item i s _ _ hg st fun v h' tk hv gp kk=>?_
  obtain⟨c,u,ec,rfl⟩:=hv;have I1:%[|13] H { s with heap:=h',toks:=tk }:=I.turnedL hf kk;obtain⟨o,e,cl,d⟩:=id gp;exact⟨_,rfl,Po (s:={ s with heap:=h',toks:=tk }) e cl d hty ⟨.str ⟨#[c]⟩,H,I1,⟨u,rfl⟩,⟨rfl,c,ec,rfl⟩,gp,fun b hb=>(hf b hb).1⟩⟩
 done:=by
  exists 12;subst hP hw hK;have e:i=z.cps.size:=hg;subst e;exact (W X.A (I.ok.hd hc)).done s _ _ st fun h' tk kk=>⟨rfl,I.turnedL hf kk⟩
 self:=slf
section
variable {X:Cx}{tg:Expr}
inductive WF(R:It->Hp->Prop)(x:V)(H1:Hp):Prop where
 | mk (z) (_:x= .str z) (_:R (Zk z) H1):WF R x H1
def aN(tl:TE):TI:=fun σ H R=>tl σ H (WF R)
theorem Yz{tl:TE}(hl:PE X l tl):PI X tg l (aN tl):=by
 intro pins s σ H R I h;refine AU (hl pins s σ H _ I h) fun v s1 ⟨x,H1,I1,r1,q1⟩=>?_
 obtain⟨z,e,q⟩:=q1;subst e;obtain⟨t,rfl⟩:=r1
 have bC:∀(o:Obj)(tn:Nat->Heap->Prop),LL X.prog X.w X.K tg (Zk z) [s1.heap.objs.size] s1.heap.objs.size tn->tn 0 (s1.heap.push o)->aE X pins σ tg R (.ref s1.heap.objs.size) { s1 with heap:=s1.heap.push o }:=fun o tn T st=>by
  refine⟨s1.heap.objs.size,[s1.heap.objs.size],tn,_,H1,rfl,I1.kept (t':=s1.toks) fun b o e=>Heap.get?_push_of_some _ e,T,st,fun b hb=>?_,q⟩;have e:b=s1.heap.objs.size:=by simpa using hb
  subst e;exact I1.fpOk (zAB _) (I1.hok.fresh (zAB _))
 cases ha:z.cps.all (· < 128)
 ·exact wpAny_pyIter_wide ha (bC _ _ (L6 "str_iterator" %[|0] _ z t (fun A' hA=>Walks.strWide hA _ z t) fun _ _ _ _ _ st h=>wpAny_pyIter_striter_wide st h) ⟨_,Heap.get?_push_size _ rfl,rfl,rfl⟩)
 ·exact wpAny_pyIter_ascii ha (bC _ _ (L6 "str_ascii_iterator" %[|0] _ z t (fun A' hA=>Walks.strAscii hA _ z t) fun _ _ _ _ _ st h=>wpAny_pyIter_striter_ascii st h) ⟨_,Heap.get?_push_size _ rfl,rfl,rfl⟩)
end
section
variable {X:Cx}
end
def XI(a:Addr):It:=
 ⟨fun i H=>∃xs x,H a=some (.lst xs)/\xs[i]? = some x,fun i H x H'=>∃T y,H T=none/\(∀xs,H a=some (.lst xs)->xs[i]? = some y)/\x= .ref T/\H'=upd H T (.tup [.int (i:Nat),y]),fun i H=>∃xs,H a=some (.lst xs)/\xs.length=i⟩
theorem JN(Pv:Nat->St->Hp->Prop)(h0:Pv 0 σ H)(hl:∀i σ H,i<=xs.length->Pv i σ H->H a=some (.lst xs))(hs:∀i y T σ H,xs[i]? = some y->H T=none->Pv i σ H->g (.ref T) σ (upd H T (.tup [.int (i:Nat),y])) fun σ2 H2=>tb { D with nx:=Pv (i+1),ct:=Pv (i+1),bk:=D.nx } σ2 H2)(hd:∀σ H,Pv xs.length σ H->D.nx σ H):EE (XI a) g tb D σ H:=by
 refine⟨fun i m σ H=>m=xs.length-i/\i<=xs.length/\Pv i σ H,⟨xs.length,by simp,zA5 _,h0⟩,?_⟩;rintro i m σ H ⟨rfl,hi,p⟩;have q:=hl i σ H hi p;by_cases bL:i<xs.length
 ·refine .inr ⟨⟨xs,xs[i],q,by simp[bL]⟩,Pv (i+1),fun σ' H' p'=>⟨xs.length-(i+1),by omega,rfl,bL,p'⟩,fun x H' y=>?_⟩;obtain⟨T,y,hT,hy,e1,e2⟩:=y;subst e1 e2;exact hs i y T σ _ (hy xs q) hT p
 ·have e:i=xs.length:=by omega
  subst e;exact .inl ⟨⟨xs,q,rfl⟩,hd σ H p⟩
theorem NH{P:Program}{w:World}{K:PySem.W.Frag}{ij:%[|20]}{k:Nat}{tp:Pos}(a e it:Addr)(hei:e≠it):
  LL P w K (.Tuple ij k tp) (XI a) [e,it] e (fun i h=>(∃fv,IsEnum h e it i fv)/\h.IsListIter it a i) where
 mem:=by simp
 obj:=fun i h st b hb=>by
  obtain⟨⟨fv,he⟩,o,ho,c,d⟩:=st;rcases List.mem_cons.mp hb with q | q
  ·subst q
   exact⟨_,he,fun v z=>by
    have z':Data.fields _=Data.cell v:=z
    cases z'⟩
  ·have q':b=it:=by simpa using q
   subst q';exact⟨o,ho,fun v z=>by rw[d] at z;cases z⟩
 keep:=fun i h h' st k=>by
  obtain⟨⟨fv,he⟩,hi⟩:=st;exact⟨⟨fv,k e %[|2] _ he⟩,hi.at fun o e=>k it %[|2] o e⟩
 item:=by
  exists 12;subst hP hw hK;obtain⟨xs,x,hq,hx⟩:=hg;obtain⟨its,rv,p,hz⟩:=I.list (SqL.of hq);obtain⟨u,hu,ru⟩:=rv.get hx;have bo:=rv.length;have hi:i<xs.length:=(List.getElem?_eq_some_iff.mp hx).1;have nai:a≠it:=Ah hq (hf it %[|2]).1;have nae:a≠e:=Ah hq (hf e %[|2]).1;have D:=Draws.list (prog:=X.prog) (w:=X.w) (A:=X.A.in1) (I.ok.hd hc) it a nai its.toArray;have WT:=WalksT.enumerateD (A:=X.A) D e hei (by simp[hei,nae.symm]) %[|2];refine WT.item i s _ _ (by simp;omega) ⟨st.1,st.2,p.isList⟩ fun T ia h1 tk hv hT htup hmid kk=>?_
  obtain⟨t',x2,hx2,rfl⟩:=hv;have hx2':its[i]? = some x2:=by simpa using hx2
  have ex:x2=u:=by rw[hu] at hx2';exact (zAK hx2').symm
  subst ex;have I1:%[|13] (upd H T (.tup [.int (i:Nat),x])) { s with heap:=h1,toks:=tk }:=I.turnedT (its:=[.int i t',x2]) hf kk hT (by show 2<=sizeLine;decide) (.cons ⟨_,rfl⟩ (.cons ru .nil)) htup
  have nT:∀b∈[e,it],b≠T:=fun b hb z=>by
   subst z;exact WT.apart _ _ _ hmid hb
  have hf1:∀b∈[e,it],CG X pins (upd H T (.tup [.int (i:Nat),x])) b:=fun b hb=>⟨by rw[Af (nT b hb)];exact (hf b hb).1,(hf b hb).2⟩
  refine⟨_,rfl,WT.go ij k tp i T _ _ _ hmid fun h2 fb kk2=>?_⟩;refine⟨.ref T,_,I1.turnedL (t':=tk) hf1 kk2,rfl,⟨T,x,I.hok.fresh hT,fun zs hzs=>?_,rfl,rfl⟩,⟨fb.1,fb.2.1⟩,fun b hb=>(hf1 b hb).1⟩;rw[hq] at hzs;cases hzs;exact hx
 done:=by
  exists 12;subst hP hw hK;obtain⟨xs,hq,rfl⟩:=hg;obtain⟨its,rv,p,hz⟩:=I.list (SqL.of hq);have bo:=rv.length;have nai:a≠it:=Ah hq (hf it %[|2]).1;have nae:a≠e:=Ah hq (hf e %[|2]).1;have D:=Draws.list (prog:=X.prog) (w:=X.w) (A:=X.A.in1) (I.ok.hd hc) it a nai its.toArray;have WT:=WalksT.enumerateD (A:=X.A) D e hei (by simp[hei,nae.symm]) %[|2];refine WT.done s _ _ ?_ fun h' tk kk=>⟨rfl,I.turnedL hf kk⟩
  have e1:its.toArray.size=xs.length:=by simp;omega
  rw[e1];exact⟨st.1,st.2,p.isList⟩
 self:=fun A i s Q E st h=>by
  obtain⟨⟨fv,he⟩,_⟩:=st;exact wpAny_pyIter_enum he h
section
variable {X:Cx}{tg:Expr}
inductive OZ(R:It->Hp->Prop)(vs:List V)(H1:Hp):Prop where
 | mk (a xs) (_:vs=[.ref a]) (_:H1 a=some (.lst xs)) (_:R (XI a) H1):OZ R vs H1
def Xc(ta:TA):TI:=fun σ H R=>ta σ H (OZ R)
theorem LY(hg:Gl X "enumerate")(hm:X.mg "enumerate"=none)(ha:PA X [a] ta)(hs:starEach [a] X.env=[(false,eval a X.env)]:=by rfl):PI X (.Tuple ij k tp) (.Call (.Name "enumerate" p) [a] [] pos) (Xc ta):=by
 intro pins s σ H R I h;refine Call_ (EQ I hg hm boot_enumerate (zB6 (AU (ha pos pins s σ H _ I h) fun us s1 ⟨vs,H1,I1,r1,q1⟩=>?_) hs rfl));obtain⟨l,xs,e,hq,q⟩:=q1;subst e
 cases r1 with
 | cons r rr=>
  cases rr;cases r;obtain⟨its,rv,pl,hz⟩:=I1.list (SqL.of hq);refine call_enumerate_list pl.isList fun h' he gh hsz hk=>wpAny_pyIter_enum he ?_
  have I2:%[|13] H1 { s1 with heap:=h' }:=I1.kept (t':=s1.toks) hk
  have fp2:∀b∈[s1.heap.objs.size+1,s1.heap.objs.size],CG X pins H1 b:=fun b hb=>by
   have hle:s1.heap.objs.size<=b:=by
    rcases List.mem_cons.mp hb with q | q
    ·omega
    ·have:b=s1.heap.objs.size:=by simpa using q
     omega
   exact I1.fpOk hle (I1.hok.fresh hle)
  exact⟨_,_,_,_,H1,rfl,I2,NH l (s1.heap.objs.size+1) s1.heap.objs.size (Nat.succ_ne_self _),⟨⟨_,he⟩,gh⟩,fp2,q⟩
end
structure Stp(fr ch:%[|6])(h h':Heap):Prop where
 keep:∀b o,b∉fr->b∉ch->h.get? b=some o->h'.get? b=some o
 slot:∀b o,b∉ch->h.get? b=some o->∃sl,h'.get? b=some { o with slots:=sl }
theorem Stp.more(x:Stp fr ch h h')(m:∀b∈ch,b∈ch'):Stp fr ch' h h':=
 ⟨fun b o hb hc=>x.keep b o hb fun z=>hc (m b z),fun b o hc=>x.slot b o fun z=>hc (m b z)⟩
theorem Stp.trans(x:Stp fr ch h h1)(y:Stp fr ch h1 h2):Stp fr ch h h2:=
 ⟨fun b o hb hc e=>y.keep b o hb hc (x.keep b o hb hc e),fun b o hc e=>let ⟨_,e1⟩:=x.slot b o hc e;let ⟨sl,e2⟩:=y.slot b _ hc e1;⟨sl,e2⟩⟩
theorem Stp.un(x:Stp fr ch h h')(H:Hp):Un fr ch H H h h':=
 ⟨fun b o e _ hb hx=>x.keep b o hb hx e,fun b o e _ _ hx=>x.slot b o hx e,fun _ _ _ n _=>n,fun b o e hx=>let ⟨_,z⟩:=x.slot b o hx e;⟨_,z⟩,fun _ _ q=>q,fun _ _ _ q=>q,fun _ ps q=>⟨#[],by rw[q];simp⟩⟩
theorem Stp.hok(x:Stp fr ch h h')(ok:HOk P w H h)(hf:∀b∈fr,H b=none)(hc:∀b∈ch,H b=none):HOk P w H h':=fun b u e=>by
 have nf:∀c v,H c=some v->c∉fr/\c∉ch:=fun c v q=>⟨(fun z=>nomatch (hf c z).symm.trans q),(fun z=>nomatch (hc c z).symm.trans q)⟩
 refine (ok b u e).stay (fun c v hb q=>?_) (fun _ q=>q) fun _ _ q=>q
 rcases hb with z | z
 ·subst z;exact x.keep c v (nf c u e).1 (nf c u e).2 q
 ·exact x.keep c v (nf c _ z).1 (nf c _ z).2 q
def Uw(h:Heap)(e:Addr)(cls:Value)(dx:Option Addr)(T:Addr)(fl:Value):Prop:=
 ∃vs sl oT ts,h.get? e=some ⟨cls,dx,.fields vs,sl⟩/\vs[1]? = some (.ref T)/\T≠e/\h.get? T=some oT/\oT.data= .fields ts/\ts[3]? = some fl/\vs[2]? = some .none
section
variable {M:Model}{A:Around}{E:Value->Shared->Prop}{s:Shared}{base:Heap}{env:Env}{outer:List Env}{L e:Addr}{cls:Value}{dx:Option Addr}{vs:Array Value}{sl:Array (%[|4])}{Q:Unit->Shared->Prop}
theorem Lu(cy:A.frames=some (env::outer))(hl:s.heap.FunFrames base (env::outer))(hf:env.frame=some L)(he:s.heap.get? e=some ⟨cls,dx,.fields vs,sl⟩)(hsz:1<vs.size)(hv2:vs[2]? = some .none)(k:∀h' T,s.heap.objs.size<=T->Stp (Hv (env::outer)) [e] s.heap h'->Uw h' e cls dx T (rawInt L)->Q () { s with heap:=h' }):
  wpAny M A (do let a <-frameOf env;let pl <-entryPlaceOf L ik;let b <-EntryCells.newEntry head a .none (rawInt L) .none pl;setField (.ref e) 1 b) Q E s:=by
 have nfr:e∉Hv (env::outer):=fun z=>by
  obtain⟨_,o,ho,nd⟩:=hl.mem z;rw[he] at ho;cases ho;exact nd vs rfl
 refine wpAny_bind (wpAny_frameOf_fun cy hl hf fun h1 so=>wpAny_bind (wpAny_entryPlaceOf fun pl bB=>?_));obtain⟨_,so1,so2⟩:=so;unfold EntryCells.newEntry newFields;refine wpAny_bind (wpAny_newObj_type ?_ (bB.sizeOk5 _ _ _ _ _));have e1:h1.get? e=some ⟨cls,dx,.fields vs,sl⟩:=(so1 e nfr).trans he;have e2:=Heap.get?_push_of_some (h:=h1) { cls:=.type "traceback",dict:=none,data:=.fields ([head,.ref L,.none,rawInt L,.none]++(if pl.isEmpty then List.replicate 6 Value.none else pl)).toArray } e1;refine wpAny_setField e2 rfl hsz (k _ h1.objs.size %[|1] ?_ ?_)
 ·have bj:∀b o,b∉[e]->h1.get? b=some o->∀(ob:Obj)(f:Obj->Obj),((h1.push ob).update e f).get? b=some o:=fun b o hb q ob f=>
   (Heap.get?_update_other _ _ (zB (List.ne_of_not_mem_cons hb))).trans (Heap.get?_push_of_some _ q)
  refine⟨fun b o hb hc q=>bj b o hc ((so1 b hb).trans q) _ _,fun b o hc q=>?_⟩;obtain⟨sl',z⟩:=so2 b o q;exact⟨sl',bj b _ hc z _ _⟩
 ·have ne:h1.objs.size≠e:=zBN (zAE e1);refine⟨_,sl,_,_,Heap.get?_update_self _ e2 rfl,?_,ne,(Heap.get?_update_other _ _ (zB ne)).trans (Heap.get?_push_size h1 rfl),rfl,?_,?_⟩
  ·simp[hsz]
  ·rcases bB with rfl | ⟨_,_,_,_,_,_,_,rfl⟩<;>simp
  ·rw[Array.getElem?_setIfInBounds_ne %[|0]];exact hv2
theorem RJ(cy:A.frames=some (env::outer))(hl:s.heap.FunFrames base (env::outer))(hf:env.frame=some L)(he:s.heap.get? e=some ⟨cls,dx,.fields vs,sl⟩)(h1:vs[1]? = some .none)(hv2:vs[2]? = some .none)(k:∀h' T,s.heap.objs.size<=T->Stp (Hv (env::outer)) [e] s.heap h'->Uw h' e cls dx T (rawInt L)->Q () { s with heap:=h' }):wpAny M A (noteFrame (.ref e) env) Q E s:=by
 unfold noteFrame;simp only[hf];refine wpAny_bind (wpAny_field he rfl h1 ?_);rw[if_neg %[|0]];exact Lu cy hl hf he (Array.getElem?_eq_some_iff.mp h1).1 hv2 k
theorem Py(hF:Uw s.heap e cls dx T fl):Stp [] [T] s.heap (s.heap.update T (Obj.mapFields (·.setIfInBounds 3 fl')))/\Uw (s.heap.update T (Obj.mapFields (·.setIfInBounds 3 fl'))) e cls dx T fl':=by
 obtain⟨ws,sl,oT,ts,he,h1,ne,hT,hd,h3,hv2⟩:=hF;have bj:∀b o,b∉[T]->s.heap.get? b=some o->(s.heap.update T (Obj.mapFields (·.setIfInBounds 3 fl'))).get? b=some o:=fun b o hb q=>(Heap.get?_update_other _ _ (zB (List.ne_of_not_mem_cons hb))).trans q
 refine⟨⟨fun b o _ hc q=>bj b o hc q,fun b o hc q=>⟨_,bj b o hc q⟩⟩,ws,sl,_,_,bj e _ (by simpa using zB ne) he,h1,ne,Heap.get?_update_self _ hT (zBU (zBE hd _)),zBE hd _,?_,hv2⟩;simp[(Array.getElem?_eq_some_iff.mp h3).1]
theorem Pe(cy:A.frames=some (env::outer))(hl:s.heap.FunFrames base (env::outer))(hf:env.frame=some L)(hF:Uw s.heap e cls dx T .none)(k:∀h' T',s.heap.objs.size<=T'->Stp (Hv (env::outer)) [e,T] s.heap h'->Uw h' e cls dx T' (rawInt L)->Q () { s with heap:=h' }):wpAny M A (noteFrame (.ref e) env) Q E s:=by
 obtain⟨S,F2⟩:=Py (fl':=.none) hF;obtain⟨ws,sl,oT,ts,he,h1,ne,hT,hd,h3,hv2⟩:=hF;unfold noteFrame;simp only[hf];refine wpAny_bind (wpAny_field he rfl h1 ?_);rw[if_pos (show (Value.ref T != Value.none)=true by simp)];refine wpAny_bind (wpAny_field hT hd h3 ?_);rw[if_neg (show ¬((Value.none == rawInt L)=true) by simp[rawInt])];refine wpAny_bind (wpAny_setField hT hd (Array.getElem?_eq_some_iff.mp h3).1 ?_);obtain⟨ws',sl',_,_,fV,h1',_,_,_,_,hv2'⟩:=F2;refine Lu cy (hl.of_keeps fun b o q nd=>?_) hf fV (Array.getElem?_eq_some_iff.mp h1').1 hv2' fun h' T' hle S' F'=>k h' T' (by simpa using hle) ?_ F'
 ·obtain⟨sl2,z⟩:=S.slot b o (fun z=>by
   have z':b=T:=by simpa using z
   subst z'
   rw[hT] at q;cases q
   exact nd ts hd) q
  exact⟨_,z,rfl⟩
 ·refine Stp.trans (h1:=s.heap.update T (Obj.mapFields (·.setIfInBounds 3 Value.none))) ⟨fun b o _ hc q=>S.keep b o %[|2] (fun z=>hc (List.mem_cons_of_mem _ z)) q,fun b o hc q=>S.slot b o (fun z=>hc (List.mem_cons_of_mem _ z)) q⟩ (S'.more fun b hb=>?_);rw[List.mem_singleton.mp hb];exact List.mem_cons_self
theorem V4(hF:Uw s.heap e cls dx T fl)(k:∀h',Stp [] [T] s.heap h'->Uw h' e cls dx T .none->Q () { s with heap:=h' }):wpAny M A (setFlight (.ref e) none) Q E s:=by
 obtain⟨S,F2⟩:=Py (fl':=.none) hF;obtain⟨ws,sl,oT,ts,he,h1,ne,hT,hd,h3,hv2⟩:=hF;unfold setFlight;refine wpAny_bind (wpAny_field he rfl h1 ?_);rw[if_pos (show (Value.ref T != Value.none)=true by simp)];exact wpAny_setField hT hd (Array.getElem?_eq_some_iff.mp h3).1 (k _ S F2)
end
def Lo:List Value:=[.type "ValueError",.type "Exception",.type "BaseException",.type "object"]
structure XE(K:PySem.W.Frag)(C cT:Addr)(ini:Option Addr):Prop where
 cls:∃nm q N bs fW sn sub ab im dd k0 k1 k2 k3 k5,K.lookup C=some (excClassObj nm q C N bs (.ref cT::Lo) fW sn sub ab im dd k0 k1 k2 k3 k5 "ValueError.__new__")/\PySem.W.nsOkIn K N=true/\
  PySem.W.nsIn K N "__init__"=some (ini.map Value.ref)
 tail:PySem.W.tailIn K Lo (.ref cT::Lo)=true
 kp:PySem.W.keepIn K (.ref C)=true
theorem Pz{K:PySem.W.Frag}(l:K.lookup N=some ⟨oc,od,.dict es ep,sl⟩)(s:(es.all fun e=>match e.key with | .str _ _=>true | _=>false)=true):PySem.W.nsOkIn K N=true:=by
 unfold PySem.W.nsOkIn;rw[l];exact s
theorem ST{K:PySem.W.Frag}(l:K.lookup cT=some ⟨c0,d0,.cls cd,sl⟩)(o:PySem.W.nsOkIn K cd.ns=true)(n:PySem.W.nsIn K cd.ns "__init__"=some none):
  PySem.W.tailIn K Lo (.ref cT::Lo)=true:=by
 have t0:PySem.W.tailIn K Lo Lo=true:=by
  unfold PySem.W.tailIn Lo;simp
 unfold PySem.W.tailIn;refine Bool.or_eq_true_iff.mpr (.inr ?_);simp only[l,o,n,t0];rfl
section
variable {prog:Program}{w:World}{A:Around}{E:Value->Shared->Prop}{h:Heap}{g:Array GenState}{d:Drawn}{t:Nat}{os:OsState}
variable {nm q:Str}{C N:Addr}{bs bm:%[|7]}{fW:Bool}{sn:List Str}{sub:%[|7]}{ab:Bool}{im:%[|17]}{dd:Option Addr}{k0 k1 k2 k3 k5:%[|4]}
abbrev O6(C t:Addr)(dx:Option Addr):Obj:=⟨.ref C,dx,.fields #[.ref t,.none,.none,.none,.bool false,.none],#[]⟩
end
structure XAt(K:PySem.W.Frag)(C cT:Addr):Prop where
 cd:∃cd,PySem.W.clsIn K C=some cd/\cd.mro= .ref C::.ref cT::Lo/\cd.hasDict=true
 sa:PySem.W.findIn K (.ref C) "__setattr__"=some (some (.builtin "object.__setattr__"))
 ga:PySem.W.findIn K (.ref C) "__getattribute__"=some (some (.builtin "BaseException.__getattribute__"))
 gn:PySem.W.findIn K (.ref C) "__getattr__"=some none
 ca:PySem.W.findIn K (.ref C) "__class__"=some (some (.builtin "object.__class__"))
 cg:PySem.W.specialIn K (.builtin "object.__class__") "__get__"=some (some (.builtin "getset_descriptor.__get__"))
 ct:PySem.W.takesIn K (.builtin "object.__class__")=some true
section
variable {prog:Program}{w:World}{A:Around}{E:Value->Shared->Prop}{s:Shared}{K:PySem.W.Frag}{C cT x t:Addr}{f:Str}{u:Value}
theorem XAt.sub(a:XAt K C cT)(X:K.In h)(b:Value)(e:(Value.ref C::.ref cT::Lo).contains b=r):PySem.W.Looks M h (isSubtype (.ref C) b) r:=by
 obtain⟨cd,h1,h2,_⟩:=a.cd;refine zDE X ?_;unfold PySem.W.mroIn;rw[h1,Option.bind_some,h2,if_neg %[|2],e]
end
open Builtin Builtin.ObjectAttr
section
variable {prog:Program}{w:World}{A:Around}{E:Value->Shared->Prop}{s:Shared}{K:PySem.W.Frag}{C cT x:Addr}{ox:Obj}{od:Option Obj}{name:Str}{tk:Tok}{fill expr:Bool}{v:Value}
end
end L2
namespace L2
open PySem PySem.Spec PyProof.Rows
def Cb(P:Program)(w:World):Jp:=fun outer H s E e s'=>∃a T cls dx H',e= .ref a/\s'.os=s.os/\AllBare s'.gens/\Un (Hv outer) [] H H' s.heap s'.heap/\HOk P w H' s'.heap/\
 Uw s'.heap a cls dx T .none/\H' a=none/\H' T=none/\s.heap.objs.size<=a/\s.heap.objs.size<=T/\E cls dx H'
theorem Un.stp(u:Un fs [] H0 H h0 h)(S:Stp fr ch h h')(cy:∀b∈fr,b∈fs\/h0.objs.size<=b)(gf:∀b∈ch,h0.objs.size<=b):Un fs [] H0 H h0 h':=by
 have nc:∀b o,h0.get? b=some o->b∉ch:=fun b o e z=>absurd (zAE e) (Nat.not_lt.mpr (gf b z))
 refine⟨fun b o e n hb hx=>S.keep b o (fun z=>?_) (nc b o e) (u.keep b o e n hb hx),fun b o e n hb hx=>?_,u.free,fun b o e hx=>?_,u.tups,u.frzs,u.tbls⟩
 ·rcases cy b z with q | q
  ·exact hb q
  ·exact absurd (zAE e) (Nat.not_lt.mpr q)
 ·obtain⟨sl,e1⟩:=u.slot b o e n hb hx;obtain⟨sl2,e2⟩:=S.slot b _ (nc b o e) e1;exact⟨sl2,e2⟩
 ·obtain⟨o1,e1⟩:=u.there b o e hx;obtain⟨sl2,e2⟩:=S.slot b _ (nc b o e) e1;exact⟨_,e2⟩
section
variable {P:Program}{w:World}{K:PySem.W.Frag}{mg:Str->%[|4]}{base:Heap}{N:List Str}{bv:Str}{scope:Scope}{f:Addr}{bp:Value}{A:Around}{outer:List Env}{s:Shared}{H:Hp}{E:XK}
def Y5(X:Cx)(E:XK):Prop:=∀pins(σ:St)H' s' a cls dx(vs:Array Value)(sl:Array (%[|4])),%[|13] H' s'->H' a=none->
 s'.heap.get? a=some ⟨cls,dx,.fields vs,sl⟩->(vs[1]? = some .none/\vs[2]? = some .none)->X.s₀.heap.objs.size<=a->E cls dx H'->X.xe (.ref a) s'
theorem BB:Y5 (Jf (Cb P w) P w K mg base N bv scope f bp A outer s H E) E:=by
 intro pins σ H' s' a cls dx vs sl I ha he h1 hsz q;have cy:=I.ok.frames;have hl:=I.stack;have lt:s.heap.objs.size<=s'.heap.objs.size:=I.sz
 have fr2:∀b∈Hv (envOfC bv scope s.heap.objs.size f bp::outer),b∈Hv outer\/s.heap.objs.size<=b:=fun b hb=>by
  rcases List.mem_cons.mp (I.stkSub b hb) with z | z
  ·exact .inr (by rw[z];exact I.ok.above)
  ·exact .inl z
 show wpAny _ _ (leaving _ _) _ _ _;unfold leaving;refine wpAny_bind (RJ cy hl rfl he h1.1 h1.2 fun h2 T hT S F=>V4 F fun h3 S3 F3=>?_);have u2:=Un.stp I.base S fr2 (fun b hb=>by rw[List.mem_singleton.mp hb];exact hsz);have u3:=Un.stp u2 S3 (fun b hb=>absurd hb %[|2]) (fun b hb=>by rw[List.mem_singleton.mp hb];exact zAD lt hT);have hTn:H' T=none:=I.hok.fresh hT;refine⟨a,T,cls,dx,H',rfl,I.os,I.bare,u3,?_,F3,ha,hTn,hsz,zAD lt hT,q⟩;exact S3.hok (S.hok I.hok I.stkFree fun b hb=>by rw[List.mem_singleton.mp hb];exact ha) (fun b hb=>absurd hb %[|2]) fun b hb=>by rw[List.mem_singleton.mp hb];exact hTn
theorem AG(le:∀cls dx H',E1 cls dx H'->E cls dx H'):Cn (Cb P w) (Jf (Cb P w) P w K mg base N bv scope f bp A outer s H E) E1:=by
 intro pins σ H1 s1 e s' I h;obtain⟨a,T,cls,dx,H',rfl,os,bare,un,hok,F,ha,hT,la,lT,q⟩:=h;have I2:=I.call' os un hok bare (fun b z=>absurd z %[|2]);have lt:s.heap.objs.size<=s1.heap.objs.size:=I.sz
 have fr2:∀b∈Hv (envOfC bv scope s.heap.objs.size f bp::outer),b∈Hv outer\/s.heap.objs.size<=b:=fun b hb=>by
  rcases List.mem_cons.mp (I2.stkSub b hb) with z | z
  ·exact .inr (by rw[z];exact I2.ok.above)
  ·exact .inl z
 show wpAny _ _ (leaving _ _) _ _ _;unfold leaving;refine wpAny_bind (Pe I2.ok.frames I2.stack rfl F fun h2 T2 cp S F2=>V4 F2 fun h3 S3 F3=>?_);have l2:s.heap.objs.size<=T2:=zAD I2.sz cp
 have two:∀b∈[a,T],s.heap.objs.size<=b/\H' b=none:=fun b hb=>by
  rcases List.mem_cons.mp hb with z | z
  ·rw[z];exact⟨zAD lt la,ha⟩
  ·rw[List.mem_singleton.mp z];exact⟨zAD lt lT,hT⟩
 have u2:=Un.stp I2.base S fr2 (fun b hb=>(two b hb).1);have u3:=Un.stp u2 S3 (fun b hb=>absurd hb %[|2]) (fun b hb=>by rw[List.mem_singleton.mp hb];exact l2);have hTn:H' T2=none:=I2.hok.fresh cp;refine⟨a,T2,cls,dx,H',rfl,I2.os,I2.bare,u3,?_,F3,ha,hTn,zAD lt la,l2,le _ _ _ q⟩;exact S3.hok (S.hok I2.hok I2.stkFree fun b hb=>(two b hb).2) (fun b hb=>absurd hb %[|2]) fun b hb=>by rw[List.mem_singleton.mp hb];exact hTn
end
section
variable {X:Cx}{k:Nat}{fI C cT:Addr}{fd:FuncData}{ps:List Str}{sp:Sp}{Ex:XK}{x:Str}{p pos bA:Pos}{e:Expr}{es:%[|20]}{t:TA}
theorem MZ{K:PySem.W.Frag}(a:XAt K C cT)(ty:PySem.W.typeIn K (.ref C)=some (.type "type"))(hh:A.handled=none)(h:wpAny M A xs (fun v s1=>∃b tp dx,v= .ref b/\K.In s1.heap/\s1.heap.get? b=some (O6 C tp dx)/\E (.ref b) s1) E s):wpAny M A (raiseStmt env (some xs) none) Q E s:=by
 unfold raiseStmt;refine wpAny_bind (wpAny_mono h (fun v s1 h1=>?_) fun _ _ z=>z);obtain⟨b,tp,dx,rfl,KX,hb,q⟩:=h1;have cw:s1.heap.get? b=some ⟨.ref C,dx,.fields #[.ref tp,.none,.none,.none,.bool false,.none],#[]⟩:=hb;have T0:PySem.W.Looks M s1.heap (typeOf (.ref b)) (.ref C):=(zC4 cw).andThen .now
 have T1:PySem.W.Looks M s1.heap (isType (.ref b)) false:=by
  unfold isType loadHead;exact (zC4 cw).andThen .now
 have T2:PySem.W.Looks M s1.heap (isExcClass (.ref b)) false:=by
  unfold isExcClass;exact T1.andThen .now
 have T3:PySem.W.Looks M s1.heap (isInstance (.ref b) (.type "BaseException")) true:=T0.andThen (a.sub KX _ rfl)
 have T4:PySem.W.Looks M s1.heap (excFromValue (.ref b) "exceptions must derive from BaseException") (.ref b):=by
  unfold excFromValue;exact T2.andThen (T3.andThen .now)
 have T5:PySem.W.Looks M s1.heap (raisedInstance (.ref b)) (.ref b):=by
  unfold raisedInstance;exact T0.andThen ((PySem.W.looks_typeIn KX ty).andThen .now)
 refine wpAny_bind (wpAny_pure (wpAny_bind (wpAny_holding (T4.here ?_))));refine wpAny_bind (T1.here ?_);refine wpAny_bind (T5.here ?_);exists 2;unfold setFlight;refine wpAny_bind (wpAny_field cw rfl (x:=.none) rfl ?_);rw[if_neg %[|0]];exact wpAny_pure (wpAny_raiseNew_none hh q)
end
section
variable {X:Cx}{C cT:Addr}{o value:Expr}{ta tv:TE}{f:Str}{pos cb:Pos}
end
def Cx.caught(X:Cx)(a:Addr)(oe:Obj):Cx:={ X with A:=X.A.mark (some (.ref a)),calm:=false,pn:=(a,oe)::X.pn,xe:=fun _ _=>False }
theorem Cx.Ok.caught{X:Cx}(ok:X.Ok)(a:Addr)(oe:Obj):(X.caught a oe).Ok:=
 ⟨ok.mod,ok.kind,ok.glob,ok.blt,ok.above,ok.inj,ok.has,ok.cab,(fun z=>nomatch z),ok.frames,ok.stk,ok.exf,ok.bs,ok.bsz,ok.noex,ok.exfs,ok.funs,ok.frf⟩
section
variable {X:Cx}{pins:%[|14]}{σ:St}{H:Hp}{s:Shared}{a:Addr}{oe:Obj}
theorem Inv.caught(I:%[|5])(e:s.heap.get? a=some oe)(n:H a=none)(h1:a≠X.env.locals)(h2:a∉X.fs)(h3:∀v,oe.data≠.cell v):Inv (X.caught a oe) pins σ H s:=
 ⟨I.ok.caught a oe,I.os,I.bare,I.base,I.loc,I.cell,I.free,I.freeC,fun p hp=>by
  rcases List.mem_cons.mp (show p∈(a,oe)::(X.pn++pins) from hp) with z | z
  ·subst z;exact⟨e,n,h1,h2,h3⟩
  ·exact I.pin p z,I.hok,I.len⟩
theorem Inv.uncaught{ok:X.Ok}(I:Inv (X.caught a oe) pins σ H s):%[|13] H s:=
 ⟨ok,I.os,I.bare,I.base,I.loc,I.cell,I.free,I.freeC,fun p hp=>I.pin p (show p∈(a,oe)::(X.pn++pins) from List.mem_cons_of_mem _ hp),I.hok,I.len⟩
end
theorem P3{K:PySem.W.Frag}(X:K.In h)(hD:PySem.W.typeIn K (.ref D)=some (.type "type"))(cD:(PySem.W.clsIn K D).isSome=true)(hB:PySem.W.mroIn K D (.type "BaseException")=some true)(hs:PySem.W.mroIn K C (.ref D)=some r)(he:h.get? a=some oe)(hc:oe.cls= .ref C):PySem.W.Looks M h (excMatches (.ref a) (.ref D)) r:=by
 have T0:PySem.W.Looks M h (typeOf (.ref a)) (.ref C):=hc ▸ (zC4 he).andThen .now;have T1:PySem.W.Looks M h (isInstance (.ref D) (.type "tuple")) false:=(PySem.W.looks_typeIn X hD).andThen (PySem.W.Looks.of_pure tc_notTuple)
 have T2:PySem.W.Looks M h (isType (.ref D)) true:=by
  obtain⟨cd,eC⟩:=Option.isSome_iff_exists.mp cD;unfold PySem.W.clsIn at eC;split at eC
  ·rename_i c1 d1 cd1 sl1 ho;unfold isType loadHead;exact (zC4 (X _ _ ho)).andThen .now
  ·cases eC
 have T3:PySem.W.Looks M h (isExcClass (.ref D)) true:=by
  unfold isExcClass;exact T2.andThen (zDE X hB)
 have T4:=zDE (M:=M) X hs;unfold excMatches;refine T1.andThen ?_;simp only[zBO,if_false,pure_bind,List.forIn_cons,List.forIn_nil,bind_assoc];refine T3.andThen ?_;simp only[zCN,zBO,if_false,pure_bind];refine T0.andThen (T4.andThen ?_);cases r<;>simp<;>exact .now
def Cx.within(X:Cx)(pn:%[|14])(E:Value->Shared->Prop):Cx:={ X with pn:=pn,xe:=E }
section
variable {X:Cx}{pins:%[|14]}{σ:St}{H:Hp}{s:Shared}
theorem Inv.within(I:%[|5])(E:Value->Shared->Prop):Inv (X.within (X.pn++pins) E) [] σ H s:=
 ⟨⟨I.ok.mod,I.ok.kind,I.ok.glob,I.ok.blt,I.ok.above,I.ok.inj,I.ok.has,I.ok.cab,I.ok.hd,I.ok.frames,I.ok.stk,I.ok.exf,I.ok.bs,I.ok.bsz,I.ok.noex,I.ok.exfs,I.ok.funs,I.ok.frf⟩,I.os,I.bare,I.base,I.loc,I.cell,I.free,I.freeC,
  fun p hp=>I.pin p (by rw[zA6] at hp;exact hp),I.hok,I.len⟩
theorem Inv.out(ok:X.Ok)(I:Inv (X.within (X.pn++pins) E) iQ σ H s):%[|13] H s:=
 ⟨ok,I.os,I.bare,I.base,I.loc,I.cell,I.free,I.freeC,fun p hp=>I.pin p (zBW _ hp),I.hok,I.len⟩
theorem Inv.young(I:%[|5])(h:s.heap.objs.size<=b):(b∈X.ex\/X.s₀.heap.objs.size<=b)/\b≠X.env.locals/\(∀x c,X.env.cells.lookup x=some c->c≠b)/\∀p∈X.pn++pins,p.1≠b:=
 ⟨.inr (zAD I.sz h),zBN (zAM I.lt h),fun x c e=>by
  obtain⟨v,o,ho,_⟩:=I.cell x c e
  exact zAI (zAM (zAE ho) h),fun p hp=>zAI (zAM (zAE (I.pin p hp).1) h)⟩
end
section
variable {X:Cx}{C Dc:Addr}{i:Nat}{x n:Str}{np dz pos:Pos}{body dI:List Stmt}{b0:Stmt}{tb:XK->TS}{th:Addr->Obj->TS}
end
section
variable {X:Cx}{C cT:Addr}{e:Expr}{f:Str}{pos:Pos}{ta:TE}
end
theorem Xx{K:PySem.W.Frag}(hm:PySem.W.kitMeta T=true)(h:PySem.W.subIn K (.ref C) (.type T)=some b):PySem.W.kitOne K (.ref C) (.type T)=some b:=by
 unfold PySem.W.kitOne;rw[if_neg (show ¬((Value.ref C == Value.type T)=true) by intro z;cases beq_iff_eq.mp z)];show (if PySem.W.kitMeta T=true then _ else _)=_;rw[if_pos hm,h]
theorem Vh{K:PySem.W.Frag}(X:K.In h)(G:h.Ns N mg)(e:PySem.W.nsIn K N n=some none):mg n=none:=by
 obtain⟨o,es,ep,ho,hd,_,hf⟩:=G;unfold PySem.W.nsIn at e;split at e
 ·rename_i c d es2 n2 sl q;have z:=X _ _ q;rw[ho] at z;cases z;cases hd;split at e
  ·cases e
  ·rename_i he;rw[<-hf];unfold nsFind findBy;rw[<-Array.find?_toList,he];rfl
 ·cases e
section
variable {prog:Program}{w:World}{A:Around}{E:Value->Shared->Prop}{h:Heap}{g:Array GenState}{d:Drawn}{t:Nat}{os:OsState}
variable {nm q:Str}{C N:Addr}{bs bm:%[|7]}{fW:Bool}{sn:List Str}{sub:%[|7]}{ab:Bool}{im:%[|17]}{dd:Option Addr}{k0 k1 k2 k3 k5:%[|4]}
theorem Oa(T:OwnTail h Lo bm)(hC:h.get? C=some (excClassObj nm q C N bs bm fW sn sub ab im dd k0 k1 k2 k3 k5 "ValueError.__new__"))(hn:h.Ns N mN)(hi:mN "__init__"=none)(hu:us.length<=sizeLine)(k:∀h',(∀b o,h.get? b=some o->h'.get? b=some o)->h'.get? (h.objs.size+1)=some (O6 C (h.objs.size+2) none)->Q (.done (.ret (.ref (h.objs.size+1)))) ⟨h',g,d,t,os⟩):
  wpAny %[|29] A2 (Builtin.«type.__call__» ⟨.ref C::us,[]⟩) Q E ⟨h,g,d,t,os⟩:=by
 have VF:=PySem.F.excBase_ValueError
 repeat (first | with_reducible refine wpAny_madeBy_exc hC ?_ | with_reducible refine wpAny_loadPart_at hC ?_ | wp_step)
 refine codeAny_call_builtin_code (zCQ _ VF.quiet) (wpAny_check_new_subT VF T hC (codeAny_exc_new_subT VF T hC ?_ hu));show wpAny _ _ _ _ _ _;have kk:∀b o,h.get? b=some o->((h.push { cls:=.type "tuple",data:=.seq us.toArray }).push { cls:=.ref C,data:=.fields #[.ref h.objs.size,.none,.none,.none,.bool false,.none] }).get? b=some o:=fun b o e=>Heap.get?_push_of_some _ (Heap.get?_push_of_some _ e)
 have hE:((h.push { cls:=.type "tuple",data:=.seq us.toArray }).push { cls:=.ref C,data:=.fields #[.ref h.objs.size,.none,.none,.none,.bool false,.none] }).get? (h.objs.size+1)=some { cls:=.ref C,data:=.fields #[.ref h.objs.size,.none,.none,.none,.bool false,.none] }:=by heap_get
 have hself:(Value.ref C::bm).contains (.ref C)=true:=by simp
 have hC2:=kk _ _ hC;have T2:=T.keeps kk;unfold isInstance
 repeat (first | with_reducible refine wpAny_loadPart_at hE ?_ | (with_reducible refine wpAny_isSubtype_exc hC2 ?_;rw[hself]) | wp_step)
 show wpAny _ _ (typeLookup (.ref C) _) _ _ _;refine wpAny_typeLookup_tail hC2 (hn.keeps kk) T2 VF.mroIs VF.init.lookup ?_;rw[hi];refine wpAny_holding (wpAny_bind (wpAny_of_eq (VF.init.bind _) (wpAny_bind (wpAny_call (codeAny_call_builtin VF.init.plain VF.initEntry (wpAny_check_init_subT VF T2 hC2 hE rfl ?_))))))
 wp_walk
 refine k _ (fun b o hb=>?_) ?_
 ·have lt:=zAE hb;rw[Heap.get?_update_other _ _ (zBN (zA1 lt))];exact Heap.get?_push_of_some _ (kk b o hb)
 ·rw[Heap.get?_update_self _ (Heap.get?_push_of_some (h:=_) _ hE) rfl];simp only[zAT];rfl
theorem Qh(T:OwnTail h Lo bm)(hC:h.get? C=some (excClassObj nm q C N bs bm fW sn sub ab im dd k0 k1 k2 k3 k5 "ValueError.__new__"))(hn:h.Ns N mN)(hi:mN "__init__"=none)(hu:us.length<=sizeLine)(k:∀h',(∀b o,h.get? b=some o->h'.get? b=some o)->h'.get? (h.objs.size+1)=some (O6 C (h.objs.size+2) none)->Q (.ref (h.objs.size+1)) ⟨h',g,d,t,os⟩):
  wpAny %[|29] A (call (.ref C) us) Q E ⟨h,g,d,t,os⟩:=by
 have z1:=tc_lookup;have z2:=tc_bind (.ref C);have z3:(⟨h,g,d,t,os⟩:Shared).TypeIs (.ref C) "type":=⟨_,hC,rfl⟩;refine wpAny_call (codeAny_of_tree ?_);show wpAny _ _ (callAny (.ref C) ⟨us,[]⟩) _ _ _
 repeat (any_goals (first | assumption | with_reducible refine wpAny_loadPart_at hC ?_ | wp_step))
 exact⟨rfl,codeAny_call_builtin_at (zCQ _ %[|31]) entry_typeCall (wpAny_check_type_call_sub hC (Oa T hC hn hi hu k))⟩
end
def UV(C:Addr)(Ex:XK)(t:TA):TS:=fun _ σ H=>t σ H fun _ H1=>Ex (.ref C) none H1
section
variable {X:Cx}{C cT:Addr}{Ex:XK}{x:Str}{p pos bA:Pos}{e:Expr}{es:%[|20]}{t:TA}
theorem Bn(hx:Y5 X Ex)(hc:X.calm=true)(M:XE X.K C cT none)(at_:XAt X.K C cT)(ty:PySem.W.typeIn X.K (.ref C)=some (.type "type"))(hg:Gl X x)(hm:X.mg x=some (.ref C))(ha:PA X (e::es) t)(bo:(e::es).length<=1000:=by decide)(du:%[|49]=false:=by decide)(he:starEach (e::es) X.env=%[|51]::starEach es X.env:=by rfl)(bB:(backTo bA (starEach es X.env)).any (·.1)=false:=by rfl)(hvl:∀σ H (Q:List V->Hp->Prop),t σ H Q->t σ H (fun vs H1=>vs.length<=1000/\Q vs H1)):
  PS X (.Raise (some (.Call (.Name x p) (e::es) [] bA)) none pos) (UV C Ex t):=by
 exists 9;rw[arm_exec_Raise];refine wpAny_bind (wpAny_standAt (MZ (K:=X.K) at_ ty (I.ok.hd hc) ?_));refine wpAny_bind (AU (Q:=fun v s1=>∃b tp dx,v= .ref b/\X.K.In s1.heap/\s1.heap.get? b=some (O6 C tp dx)/\X.xe (.ref b) s1) ?_ fun v s1 q=>wpAny_bind (wpAny_standAt (wpAny_pure q)));refine wpAny_Call_Name_kw (Et I hg hm ?_ du);refine zCI (h₀:=X.base) I.ok.mod.kin M.kp (AU (ha bA pins s σ H _ I (hvl _ _ _ h)) fun us s1 ⟨vs,H1,I1,r,hl,q⟩=>⟨I1.kIn,?_⟩) he bB;show wpAny _ _ (call (.ref C) us) _ _ _;obtain⟨nm,q0,N,bs,fW,sn,sub,ab,im,dd,k0,k1,k2,k3,k5,lC,oN,iN⟩:=M.cls;have KX:=I1.kIn;have nsN:=Heap.Ns.of_isNs (PySem.W.isNs_of_in KX oN);have hul:us.length<=sizeLine:=by rw[<-r.length];exact zA7 (Ar hl)
 obtain⟨hh,g,d,tk,os⟩:=s1;refine Qh (PySem.W.tail_of_in KX M.tail) (KX _ _ lC) nsN (Vh KX nsN iN) hul fun h' kk e'=>?_
 have I2:%[|13] H1 ⟨h',g,d,tk,os⟩:=I1.kept (t':=tk) kk;refine⟨_,_,none,rfl,I2.kIn,e',?_⟩;exact hx pins σ H1 _ _ _ none _ _ I2 (I1.hok.fresh (zBA _)) e' ⟨rfl,rfl⟩ (zAD I1.sz (zBA _)) q
end
abbrev VN:=BH->Addr->Option Addr->Hp->Prop
section
variable {X:Cx}{Dc:Addr}{i:Nat}{x n:Str}{np dz pos:Pos}{body dI:List Stmt}{b0:Stmt}{tb:XK->TS}{th:Addr->Obj->TS}{hs:List ExceptHandler}{tr:VN}
end
section
variable {X:Cx}{C cT:Addr}
inductive YF(K:PySem.W.Frag)(x:V)(y:V)(H:Hp)(Q:VK):Prop where
 | mk (e p:Addr) (xs:List V) (bs:List Bool) (_:x= .ref e) (_:y= .ref p) (_:SqL K H e []) (_:SqL K H p xs) (_:bs.length=xs.length) (_:(∀(i:Nat) v b,xs[i]? = some v->bs[i]? = some b->∃a zs,v= .ref a/\SqL K H a zs/\b=zs.isEmpty)) (_:Q (.bl (bs.any id)) H):YF K x y H Q
theorem Ur(hu:X.A.units+9<cLine):C3 X (compareOp .In) (YF X.K):=by
 exists 3;obtain⟨e,p,xs,bs,rfl,rfl,he,hp,hl,hx,q⟩:=h;cases rx;cases ry;obtain⟨its,r,pl,hz⟩:=I.list hp;obtain⟨its0,r0,pl0,hz0⟩:=I.list he;cases r0;have lr:=r.length
 have at':∀(i:Nat)(u:Value),its[i]? = some u->∃b,bs[i]? = some b/\SeqAt.EqAt X.A.in1 s u (.ref e) b:=fun i u hi=>by
  have fw:i<its.length:=(List.getElem?_eq_some_iff.mp hi).1;have hxi:xs[i]? = some xs[i]:=List.getElem?_eq_getElem %[|1];have gP:bs[i]? = some bs[i]:=List.getElem?_eq_getElem %[|1];obtain⟨u2,hu2,ru2⟩:=r.get hxi;rw[hi] at hu2;cases hu2;obtain⟨a,zs,ev,hq,eb⟩:=hx i _ _ hxi gP;rw[ev] at ru2;cases ru2;refine⟨_,gP,?_⟩;obtain⟨itz,rz,plz,_⟩:=I.list hq;rw[eb];by_cases hae:a=e
  ·subst hae
   have hz1:itz=[]:=by
    have h1:=plz.isList;have h2:=pl0.isList;obtain⟨o1,g1,_,n1,d1⟩:=h1;obtain⟨o2,g2,_,n2,d2⟩:=h2;rw[g1] at g2;cases g2;rw[d1] at d2
    cases itz with
    | nil=>rfl
    | cons c r=>cases d2
   subst hz1;cases rz;exact zC9 _
  ·refine SeqAt.EqAt.of_refs hae ?_
   cases rz with
   | nil=>exact zDM (e:=fun _=>true) plz.isList pl0.isList rfl (by show X.A.units+1<cLine;omega) (fun j h1=>absurd h1 (zB8 _))
   | cons r1 r2=>exact SeqAt.RcAt.lists_lengths plz.isList pl0.isList %[|2] (by show X.A.units+1<cLine;omega)
 let f:Value->Bool:=fun u=>(List.range its.length).any fun i=>its[i]? == some u && bs[i]? == some true
 have uniq:∀(i j:Nat)(u:Value),its[i]? = some u->its[j]? = some u->bs[i]? = bs[j]? :=fun i j u hi hj=>by
  have fw:i<its.length:=(List.getElem?_eq_some_iff.mp hi).1;have hjl:j<its.length:=(List.getElem?_eq_some_iff.mp hj).1;have hxi:xs[i]? = some xs[i]:=List.getElem?_eq_getElem %[|1];have gP:bs[i]? = some bs[i]:=List.getElem?_eq_getElem %[|1];have hxj:xs[j]? = some xs[j]:=List.getElem?_eq_getElem %[|1];have io:bs[j]? = some bs[j]:=List.getElem?_eq_getElem %[|1];obtain⟨u2,hu2,ru2⟩:=r.get hxi;obtain⟨u3,hu3,ru3⟩:=r.get hxj;rw[hi] at hu2;cases hu2;rw[hj] at hu3;cases hu3;obtain⟨a,zs,ev,hq,eb⟩:=hx i _ _ hxi gP;obtain⟨a2,zs2,ev2,hq2,eb2⟩:=hx j _ _ hxj io;rw[ev] at ru2;rw[ev2] at ru3;cases ru2;have ea:a=a2:=Value.ref.inj (show Value.ref a=Value.ref a2 from ru3);subst ea;rw[gP,io,eb,eb2];obtain⟨iR,rz1,p1,_⟩:=I.list hq;obtain⟨it2,rz2,p2,_⟩:=I.list hq2;obtain⟨o1,g1,_,n1,d1⟩:=p1.isList;obtain⟨o2,g2,_,n2,d2⟩:=p2.isList;rw[g1] at g2;cases g2;rw[d1] at d2;have eit:iR.toArray=it2.toArray:=by cases d2;rfl
  have eit':iR=it2:=by simpa using eit
  have l1:=rz1.length;have l2:=rz2.length;rw[eit'] at l1
  cases zs with
  | nil=>cases zs2 with
   | nil=>rfl
   | cons c d=>simp at l1 l2;omega
  | cons c d=>cases zs2 with
   | nil=>simp at l1 l2;omega
   | cons c2 d2=>rfl
 have ff:∀(i:Nat)(u:Value)(b:Bool),its[i]? = some u->bs[i]? = some b->f u=b:=fun i u b hi hb=>by
  have fw:i<its.length:=(List.getElem?_eq_some_iff.mp hi).1
  cases b with
  | true=>exact List.any_eq_true.mpr ⟨i,List.mem_range.mpr fw,by rw[hi,hb];simp⟩
  | false=>
   refine List.any_eq_false.mpr fun j hj z=>?_
   rw[zAU] at z;have z1:its[j]? = some u:=eq_of_beq z.1;have z2:bs[j]? = some true:=eq_of_beq z.2;have:=uniq i j u hi z1;rw[hb,z2] at this;cases this
 refine SeqAt.in_listAt f pl.isList (fun u hu=>?_) ⟨.bl _,H,I,rfl,?_⟩
 ·have hu':u∈its:=by simpa using hu
  obtain⟨i,hi⟩:=List.getElem?_of_mem hu';obtain⟨b,hb,eq⟩:=at' i u hi;rw[ff i u b hi hb]
  first | exact eq | exact eq.of_in1
 ·have ea:its.toArray.any f=bs.any id:=by
   rw[show its.toArray.any f=its.any f by simp,zA3,zCE,zCE];constructor
   ·rintro⟨u,hu,hf⟩;obtain⟨i,hi⟩:=List.getElem?_of_mem hu;obtain⟨b,hb,_⟩:=at' i u hi;rw[ff i u b hi hb] at hf;exact⟨b,zAN hb,hf⟩
   ·rintro⟨b,hb,hf⟩;obtain⟨i,hi⟩:=List.getElem?_of_mem hb;have fw:i<bs.length:=(List.getElem?_eq_some_iff.mp hi).1;have hii:its[i]? = some its[i]:=List.getElem?_eq_getElem %[|1];exact⟨its[i],zAN hii,by rw[ff i _ b hii hi];exact hf⟩
  rw[ea];exact q
end
section
variable {X:Cx}{Dc:Addr}{i:Nat}{x n:Str}{np dz pos:Pos}{body dI:List Stmt}{b0:Stmt}{tb:XK->TS}{th:Addr->Obj->TS}{hs:List ExceptHandler}{tr:VN}{pins:%[|14]}{σ:St}{H:Hp}{s:Shared}
end
section
variable {X:Cx}{N:List Str}{scope:Scope}{cl:List (Str×Addr)}{js:List (%[|30])}{bu tg bg:Expr}{bt:%[|20]}{rest:List Comprehension}{pos dU cq:Pos}{wi:TI}{g:CC->TG}{tb:CC->Addr->TS}{i:Nat}{y:Str}
theorem R4{WB:CC->Value->TY}(bO:X.xe=ED)(hc:X.calm=true)(hi:PI X tg bg wi)(hs:∀x,foldedSetIterable bg X.env x=pure x)(eH:closureFor scope X.env=pure cl)(hk:scope.kind= .function)(dh:∀x∈scope.names,x.2= .local->scope.names.lookup x.1=some .local)(bR:∀x∈scope.names,x.2≠.cell)(d4:∀p∈cl,X.env.cells.lookup p.1=some p.2)(hcn:∀x,%[|71]->∃c,cl.lookup x=some c)(fU:FD X N scope js)(hl:js.length=N.length)(ht:∀c it ac,HT %[|22] %[|66] 0 it ac tg (WB c ac))(hg:∀c,PG %[|22] tg (g c))(hb:∀c ac,PB %[|22] (WB c (.ref ac)) (tb c ac))(hN:X.N.Nodup)(hy:X.N[i]? = some y)(iS:Tv X.env.scope y)(iT:swapsWith %[|66] (some (.Name y cq)) dU.line X.env=pure true)(hf:X.fn y=true\/X.env.scope.names.lookup y=some .local):
  PS X (.Assign [.Name y cq] %[|66] dU) (KQ (Ir wi js g tb) (Cu i)):=by
 exists 9;rw[exec_Assign_Name_used _ _ _ _ iT];refine wpAny_bind (wpAny_standAt (wpAny_bind ?_));rw[arm_evalThenUse_ListComp];have h0:=hi pins s σ H _ I h;refine wpAny_bind (wpAny_mono (wpAny_comprehension_free (use:=some (assign (.Name y cq) X.env)) (Q:=fun _ s'=>SP X pins D .next s') (cl:=cl) rfl hs eH hk dh (AU h0 fun v s1 h1=>AU h1 fun cJ s2 h2=>?_)) (fun _ s' hq=>wpAny_pure (wpAny_pure hq)) fun _ _ z=>z);obtain⟨it,fp,tn,J,H2,e,I2,T,fb,f2,hR⟩:=h2;subst e;refine wpAny_newObj_type (wpAny_newFunctionEnv bR (by intro y hy;simp at hy) (fun h₁ eI di=>?_) hk);dsimp only at eI di ⊢;have I3:=I2.lnew (ys:=[]) (its:=[]) (t':=s2.toks) .nil (zA5 _)
 have fN:∀b∈fp,b<s2.heap.objs.size:=fun b hb=>by
  obtain⟨o,e,_⟩:=T.obj 0 _ fb b hb;exact zAE e
 have fpa:∀b∈fp,b≠s2.heap.objs.size:=fun b hb=>zAI (fN b hb)
 exists 23;exists 24
 have I4:=I3.cmp (N:=N) (cl:=cl) (js:=js) (t':=s2.toks) f3 (fun b hb=>by
  show b<(s2.heap.push _).objs.size
  rw[zAT]
  exact zA1 (fN b hb)) hk d4 hcn fU hl eI di
 have gy:tn 0 h₁:=T.keep 0 _ _ fb fun b hb o e=>(di.2 b (by
  rw[zAT]
  exact zAI (zA1 (fN b hb)))).trans %[|78]
 have f4:∀b∈fp,CG (X.cmp N scope cl ⟨{ s2 with heap:=s2.heap.push { cls:=.type "list",data:=.seq ([]:%[|7]).toArray } },upd H2 s2.heap.objs.size (.lst []),fp⟩) [] (upd H2 s2.heap.objs.size (.lst [])) b:=fun b hb=>
  ⟨(f3 b hb).1,(I4.ok.exf b hb).1,I4.ok.exfs b hb,.inl hb,(I4.ok.exf b hb).2,fun p hp=>absurd (show p∈([]:%[|14]) from hp) %[|2]⟩
 exists 29
 have bY:=codeAny_mono (CL (X:=X.cmp N scope cl ⟨{ s2 with heap:=s2.heap.push { cls:=.type "list",data:=.seq ([]:%[|7]).toArray } },upd H2 s2.heap.objs.size (.lst []),fp⟩) (e:=.ListComp bu (⟨tg,bg,bt,0⟩::rest) scope pos) (d:=0) (acc:=.ref s2.heap.objs.size) (pins:=[]) bO hc (ht _ _ _) rfl rfl rfl T (hg _) (hb _ _) I4 gy f4 hR') (R':=compPost %[|15] X.A X.xe (some (assign (.Name y cq) X.env)) (fun _ s'=>SP X pins D .next s') (.ref s2.heap.objs.size) %[|57].objs.size) (fun r s' hq=>by
  obtain⟨rfl,σ',H',J',q⟩:=hq
  obtain⟨m,hn,_⟩:=id J'.loc
  have I5:%[|13] H' s':=I3.uncmp f3 J' (zBC _ _)
  have nL:%[|57].objs.size≠X.env.locals:=zBN I3.lt
  have nC:∀x c,X.env.cells.lookup x=some c->c≠%[|57].objs.size:=fun x c e=>by
   obtain⟨v,o,ho,_⟩:=I3.cell x c e
   exact zAI (lt3 _ _ ho)
  show wpAny _ _ (assign (.Name y cq) X.env (.ref s2.heap.objs.size)) _ _ _
  refine wpAny_assign_Name (FO I5 hN hy iS (v:=.ref s2.heap.objs.size) rfl (fun s6 I6 ⟨a,sb,ha⟩=>?_) hf)
  have na:%[|57].objs.size≠a:=by
   rcases ha with z | z
   ·rw[z];exact nL
   ·exact zB (nC _ _ z)
  refine⟨m,hn.sameBut sb na,fun h7 sb7=>?_⟩
  refine⟨_,H',I6.turned (t':=s6.toks) (it:=%[|57].objs.size) (fun b ob nb e=>(sb7.2 b nb).trans e) J'.free nL (.inr (zAD I3.sz (zAB _))) nC (fun p hp=>zAI (lt3 _ _ (I3.pin p hp).1)),q⟩)
 exists 28
variable {bX bi:Expr}{bw:%[|20]}{fq:CC->TI}{g1:CC->TG}{tc tc1:CC->TT}{te:CC->TE}
theorem I8(hN:X.N.Nodup)(hy:X.N[i]? = some y)(iS:Tv X.env.scope y)(h:A1B X N scope cl js)(hi:PI X tg bg wi)(hg:∀c,PG %[|22] tg (g c))(ii:∀c,QZ %[|22] bt (tc c))(he:∀c,PE %[|22] bu (te c))(bO:X.xe=ED:=by rfl)(hc:X.calm=true:=by rfl)(hs:∀x,foldedSetIterable bg X.env x=pure x:=by intro _;rfl)(iT:swapsWith %[|76] (some (.Name y cq)) dU.line X.env=pure true:=by rfl)(hf:X.fn y=true\/X.env.scope.names.lookup y=some .local:=by first | exact .inl rfl | exact .inr rfl):
  PS X (.Assign [.Name y cq] %[|76] dU) (KQ (Ir wi js g fun c ac=>Dx (tc c) (DC ac (te c))) (Cu i)):=
 R4 (WB:=fun c ac=>EG %[|22] bt bu ac) bO hc hi hs h.clos h.kind h.names h.cell h.ccl h.hcn h.shr h.len (fun c it ac=>Ob) hg (fun c ac=>He bO (ii c) (he c)) hN hy iS iT hf
end
abbrev Up(xs:Array Nat):Prop:=xs.toList.Pairwise (· < ·)
theorem Up.lt(u:Up xs){i j:Nat}{a b:Nat}(h:i<j)(ha:xs[i]? = some a)(hb:xs[j]? = some b):a<b:=by
 have ha':xs.toList[i]? = some a:=by simpa using ha
 have hb':xs.toList[j]? = some b:=by simpa using hb
 obtain⟨h1,e1⟩:=List.getElem?_eq_some_iff.mp ha';obtain⟨h2,e2⟩:=List.getElem?_eq_some_iff.mp hb';have:=List.pairwise_iff_getElem.mp u i j h1 h2 h;omega
structure Z2(xs:Array Nat)(j p:Nat):Prop where
 le:p<=xs.size
 lo:∀i a,i<p->xs[i]? = some a->a<j
 hi:∀i a,p<=i->xs[i]? = some a->j<=a
theorem Iv{xs:Array Nat}(u:Up xs)(j:Nat):∀(fuel lo hi:Nat),hi-lo<=fuel->lo<=hi->hi<=xs.size->(∀i a,i<lo->xs[i]? = some a->a<j)->(∀i a,hi<=i->xs[i]? = some a->j<=a)->
  Z2 xs j (SetTable.below.go xs j fuel lo hi)
 | 0,lo,hi,h1,h2,h3,h4,h5=>by
  have e:lo=hi:=by omega
  subst e;exact⟨h3,h4,h5⟩
 | fuel+1,lo,hi,h1,h2,h3,h4,h5=>by
  unfold SetTable.below.go;by_cases bL:lo<hi
  ·rw[if_pos bL];have hm:(lo+hi) / 2<xs.size:=by omega
   have eg:xs[(lo+hi) / 2]? = some xs[(lo+hi) / 2]:=Array.getElem?_eq_getElem hm;have ed:xs.getD ((lo+hi) / 2) j=xs[(lo+hi) / 2]:=by simp[Array.getD,hm]
   show Z2 xs j (if xs.getD ((lo+hi) / 2) j<j then _ else _);rw[ed];split
   ·rename_i hl;refine Iv u j fuel ((lo+hi) / 2+1) hi %[|1] %[|1] h3 (fun i a gQ ha=>?_) h5;by_cases e:i=(lo+hi) / 2
    ·subst e;rw[eg] at ha;cases ha;exact hl
    ·exact zBX (u.lt (show i<(lo+hi) / 2 by omega) ha eg) hl
   ·rename_i hl;refine Iv u j fuel lo ((lo+hi) / 2) %[|1] %[|1] %[|1] h4 (fun i a gQ ha=>?_);by_cases e:i=(lo+hi) / 2
    ·subst e;rw[eg] at ha;cases ha;omega
    ·have:=u.lt (show (lo+hi) / 2<i by omega) eg ha;omega
  ·rw[if_neg bL];have e:lo=hi:=by omega
   subst e;exact⟨h3,h4,h5⟩
theorem HL(u:Up xs)(j:Nat):Z2 xs j (SetTable.below xs j):=
 Iv u j xs.size 0 xs.size %[|1] (zA5 _) (zAB _) (fun i a h=>absurd h (zB8 _)) fun i a h e=>by
  have:=(Array.getElem?_eq_some_iff.mp e).1;omega
theorem NS(u:Up xs)(h:xs[i]? = some a):SetTable.below xs (a+1)=i+1:=by
 have b:=HL u (a+1);have hi:i<xs.size:=(Array.getElem?_eq_some_iff.mp h).1
 have h1:i<SetTable.below xs (a+1):=by
  rcases Nat.lt_or_ge i (SetTable.below xs (a+1)) with q | q
  ·exact q
  ·have:=b.hi i a q h;omega
 rcases Nat.lt_or_ge (i+1) (SetTable.below xs (a+1)) with q | q
 ·have hs:i+1<xs.size:=zAM q b.le;have e2:=Array.getElem?_eq_getElem hs;have:=b.lo (i+1) _ q e2;have:=u.lt (zB4 i) h e2;omega
 ·omega
theorem NL(u:Up xs):SetTable.below xs 0=0:=by
 have b:=HL u 0;rcases Nat.eq_zero_or_pos (SetTable.below xs 0) with q | q
 ·exact q
 ·have hs:0<xs.size:=zAM q b.le;have:=b.lo 0 _ q (Array.getElem?_eq_getElem hs);omega
theorem PU(u:Up xs)(h:xs[SetTable.below xs j]?≠some j):Up (SetTable.insertAt xs (SetTable.below xs j) j):=by
 have b:=HL u j;generalize SetTable.below xs j=p at b h;unfold Up;rw[SetTable.toList_insertAt]
 have e1:∀x∈xs.toList.take p,x<j:=fun x hx=>by
  obtain⟨i,hi⟩:=List.mem_iff_getElem?.mp hx;rw[List.getElem?_take] at hi;split at hi
  ·rename_i bL;exact b.lo i x bL (by simpa using hi)
  ·cases hi
 have e2:∀x∈xs.toList.drop p,j<x:=fun x hx=>by
  obtain⟨i,hi⟩:=List.mem_iff_getElem?.mp hx;rw[List.getElem?_drop] at hi;have gQ:xs[p+i]? = some x:=by simpa using hi
  have:=b.hi (p+i) x (Nat.le_add_right _ _) gQ
  have ne:x≠j:=fun e=>by
   subst e
   cases i with
   | zero=>exact h gQ
   | succ i=>
    have hp:p<xs.size:=by
     have:=(Array.getElem?_eq_some_iff.mp gQ).1;omega
    have eg:=Array.getElem?_eq_getElem hp;have h3:=b.hi p _ (zAB _) eg;have h4:=u.lt (show p<p+(i+1) by omega) eg gQ;omega
  omega
 have u':(xs.toList.take p++xs.toList.drop p).Pairwise (· < ·):=by rw[zB9];exact u
 obtain⟨p1,p2,p3⟩:=List.pairwise_append.mp u';refine List.pairwise_append.mpr ⟨p1,List.pairwise_cons.mpr ⟨e2,p2⟩,fun x hx y hy=>?_⟩;rcases List.mem_cons.mp hy with q | q
 ·rw[q];exact e1 x hx
 ·exact zBX (e1 x hx) (e2 y q)
theorem Uj(n:Nat):Up (Array.range n):=by
 unfold Up;rw[Array.toList_range];exact zCZ
structure A0N(B5:Bool)(t:SetTable):Prop where
 dum:t.dummies = #[]
 led:t.led = !B5
 up:Up t.place
structure Go(B5:Bool)(t:SetTable):Prop where
 led:t.led = !B5
 up:Up t.place
theorem A0N.it{B5:Bool}(h:A0N B5 t):Go B5 t:=⟨h.led,h.up⟩
theorem A0N.plain_off{B5:Bool}(h:A0N B5 t):A0N B5 { t with plain:=false }:=⟨h.dum,h.led,h.up⟩
theorem A0N.standIn{B5:Bool}(h:A0N B5 t)(n:Nat):A0N B5 (t.standIn n):=⟨rfl,h.led,Uj n⟩
theorem A0N.orStandIn{B5:Bool}(h:A0N B5 t)(n:Nat):A0N B5 (t.orStandIn n):=by
 unfold SetTable.orStandIn;split
 ·exact h
 ·exact h.standIn n
theorem A0N.fresh(B5:Bool)(led:Bool)(e:led = !B5):A0N B5 (.fresh 0 0 led):=⟨rfl,e,List.Pairwise.nil⟩
theorem Pd(j:Nat):SetTable.has #[] j=false:=by
 unfold SetTable.has;simp
theorem Je(t:SetTable)(p:SetTable.Probe):(t.advance p).dummy=p.dummy:=by
 unfold SetTable.advance;split
 ·rfl
 ·rfl
theorem MG{t:SetTable}(hd:t.dummies = #[]){hashAt:Nat->Int}{h:Int}{j:Nat}{d:%[|30]}:∀(fuel:Nat)(p:SetTable.Probe),p.dummy=none->SetTable.probe.go t hashAt h fuel p=some (.empty j d)->d=none/\t.place[SetTable.below t.place j]?≠some j
 | 0,_,_,e=>by cases e
 | fuel+1,p,hp,e=>by
  unfold SetTable.probe.go at e
  have hs:∀j,t.slot j=if t.place[SetTable.below t.place j]? == some j then .live (SetTable.below t.place j) else .empty:=fun j=>by
   unfold SetTable.slot;rw[hd,Pd];rfl
  rw[hs] at e;split at e
  ·rename_i hlive;split at hlive
   ·cases hlive
   ·rename_i bx;injection e with e
    injection e with e1 e2
    subst e1;refine⟨by rw[<-e2,hp],fun z=>bx (by rw[z];simp)⟩
  ·rename_i hlive;split at hlive<;>cases hlive
  ·split at e
   ·cases e
   ·exact MG hd fuel _ (by rw[Je];exact hp) e
theorem A0N.layNew{B5:Bool}{t:SetTable}(ok:A0N B5 t)(es:Array (Int×Value))(h:Int)(x:Value):A0N B5 (layNew t es h x).2.1:=by
 unfold PySem.layNew
 cases ef:t.freeSlot h with
 | none=>exact ok.standIn _
 | some sw=>
  obtain⟨slot,wd⟩:=sw;show A0N B5 ((t.put slot).1.orStandIn _);refine A0N.orStandIn ?_ _;unfold SetTable.freeSlot at ef;split at ef
  ·rename_i j dummy eq;have:=MG ok.dum _ _ rfl eq;obtain⟨rfl,bx⟩:=this;injection ef with ef
   injection ef with e1 e2
   have e1':j=slot:=e1;subst e1';unfold SetTable.put;refine⟨?_,ok.led,PU ok.up bx⟩;show (if SetTable.has t.dummies j then _ else t.dummies) = #[];rw[ok.dum,Pd];rfl
  ·cases ef
theorem A0N.relayAll{B5:Bool}{t:SetTable}(ok:A0N B5 t)(es:Array (Int×Value))(dW:Nat):A0N B5 (relayAll t es dW).2.1:=by
 unfold PySem.relayAll
 cases er:t.relaid (es.map (·.1)) dW with
 | none=>exact ok.standIn _
 | some to=>
  obtain⟨t',order⟩:=to;dsimp only;split
  ·unfold SetTable.relaid SetTable.laid at er
   cases eo:SetTable.layClean (SetTable.sizeAbove dW-1) (es.map (·.1)) with
   | none=>rw[eo] at er;cases er
   | some owner=>
    rw[eo] at er;injection er with er
    injection er with e1 e2
    subst e1;refine⟨rfl,ok.led,?_⟩;show (List.map (fun x:Nat×Nat=>x.fst) (List.filterMap %[|79] (List.range (SetTable.sizeAbove dW-1+1)))).toArray.toList.Pairwise (· < ·);rw[zDF];rw[zDJ];refine List.Pairwise.filterMap _ (R:=(· < ·)) ?_ zCZ;intro a a' bL b hb b' hb'
    have f:∀{a b:Nat},Option.map (fun x:Nat×Nat=>x.1) (Option.map (fun x=>(a,x)) (owner.getD a none))=some b->b=a:=fun {a b} e=>by
     cases q:owner.getD a none with
     | none=>rw[q] at e;cases e
     | some y=>rw[q] at e;injection e with e;exact e.symm
    rw[f hb,f hb'];exact bL
  ·exact ok.standIn _
def Ba(e:Int×Value):Int:=match e.2 with | .int k _=>k | _=>0
def A0V(l:List (Int×Value)):Prop:=∀e∈l,e.1=hashInt (Ba e)/\∃t,e.2= .int (Ba e) t
abbrev B5(w:World):Bool:=w.params.followText "set-order"
def A0G(w:World)(h:Heap)(a:Addr)(ks:List Int):Prop:=
 ∃o es ep t,h.get? a=some o/\o.ExactSet/\o.data= .set es ep t/\A0V es.toList/\es.toList.map Ba=ks/\ks.Nodup/\ks.length<2000/\A0N (B5 w) t/\t.fits es.size=true
theorem A0G.keep(x:A0G w h a ks)(k:∀o,h.get? a=some o->h'.get? a=some o):A0G w h' a ks:=by
 obtain⟨o,es,ep,t,ho,r⟩:=x;exact⟨o,es,ep,t,k o ho,r⟩
def A0H(w:World)(h:Heap)(a:Addr)(ks:List Int):Prop:=
 ∃o es ep t,h.get? a=some o/\o.ExactSet/\o.data= .set es ep t/\A0V es.toList/\es.toList.map Ba=ks/\ks.Nodup/\ks.length<2000/\Go (B5 w) t/\t.fits es.size=true
theorem A0G.it(x:A0G w h a ks):A0H w h a ks:=by
 obtain⟨o,es,ep,t,h1,h2,h3,h4,h5,h6,h7,h8,h9⟩:=x;exact⟨o,es,ep,t,h1,h2,h3,h4,h5,h6,h7,h8.it,h9⟩
theorem A0H.keep(x:A0H w h a ks)(k:∀o,h.get? a=some o->h'.get? a=some o):A0H w h' a ks:=by
 obtain⟨o,es,ep,t,ho,r⟩:=x;exact⟨o,es,ep,t,k o ho,r⟩
section
variable {prog:Program}{w:World}{A:Around}{E:Value->Shared->Prop}{s:Shared}{a:Addr}{ks:List Int}{k:Int}{tk:Tok}
theorem A0V.elems(h:A0V l):ElemsOf (intKind prog w) l:=fun e he=>by
 obtain⟨h1,t,h2⟩:=h e he;refine⟨⟨Ba e,?_,h1⟩,?_⟩
 ·rw[h2];exact intKind_is _ _ _ _
 ·rw[h2];rfl
theorem A0V.is(h:A0V l)(he:e∈l):(intKind prog w).is j e.2=true↔j=Ba e:=by
 obtain⟨_,t,h2⟩:=h e he;constructor
 ·intro q;exact (intKind prog w).inj e.2 j (Ba e) q (by rw[h2];exact intKind_is _ _ _ _)
 ·rintro rfl;rw[h2];exact intKind_is _ _ _ _
theorem Du{es:Array (Int×Value)}(e:es.toList.map Ba=ks):es.size=ks.length:=by rw[<-e,List.length_map,zAJ]
theorem EI{h:Heap}{o:Obj}{es bE:Array (Int×Value)}{ep:Nat}{t t':SetTable}(ho:h.get? a=some o)(dq:o.ExactSet)(hd:o.data= .set es ep t)(g:A0V bE.toList)(nd:(bE.toList.map Ba).Nodup)(hl:bE.size<2000)(ok:A0N (B5 w) t')(hf:t'.fits bE.size=true):
  (h.update a (Obj.putSet bE t')).get? a=some { o with data:=.set bE (ep+1) t' }/\A0G w (h.update a (Obj.putSet bE t')) a (bE.toList.map Ba):=by
 have hg:(h.update a (Obj.putSet bE t')).get? a=some { o with data:=.set bE (ep+1) t' }:=by
  have:=Heap.get?_update_self (Obj.putSet bE t') ho (by rw[putSet_of bE t' hd];rfl);rw[putSet_of bE t' hd] at this;exact this
 exact⟨hg,_,bE,ep+1,t',hg,dq,rfl,g,rfl,nd,by rw[List.length_map,zAJ];exact hl,ok,hf⟩
theorem CY(h:n<2000):n<scanBound:=by unfold scanBound;omega
theorem LT{g:Bool->Sem Unit}(hg:∀(b:Bool) (s₁:Shared) (Q':Unit->Shared->Prop),Q' () s₁->%[|27] (g b) Q' E s₁){ep:Nat}(ho:s.heap.get? a=some o)(dq:o.ExactSet)(hd:o.data= .set es ep t)(g1:A0V cE.toList)(nd:(cE.toList.map Ba).Nodup)(hl:cE.size<2000)(ok:A0N (B5 w) t2)(hf:t2.fits cE.size=true){eJ:Bool}(h:∀h' ci,Heap.SameBut a s.heap h'->A0G w h' a ci->ci.Perm (cE.toList.map Ba)->R (some true) { s with heap:=h' }):
  wpAny %[|29] A (do
    storeSet a cE t2
    if (!eJ && t2.tooFull)=true then do
      g (relayAll t2 cE (SetTable.grown cE.size)).2.2
      storeSet a (relayAll t2 cE (SetTable.grown cE.size)).1 (relayAll t2 cE (SetTable.grown cE.size)).2.1
      pure (some true)
     else pure (some true)) R E s:=by
 refine wpAny_bind (wpAny_storeSet_of ho hd ?_ (fits_of_scanBound (CY hl)));obtain⟨eK,fX⟩:=EI (w:=w) ho dq hd g1 nd hl ok hf;have hsb1:=zAS s.heap a (Obj.putSet cE t2);split
 ·have hp:=relayAll_perm t2 cE (SetTable.grown cE.size);have cy:=relayAll_fits t2 cE (SetTable.grown cE.size);have okr:=ok.relayAll cE (SetTable.grown cE.size);generalize hRl:relayAll t2 cE (SetTable.grown cE.size)=Rl at hp cy okr ⊢;obtain⟨es2,t3,gave2⟩:=Rl;dsimp only at hp cy okr ⊢;have hsz:es2.size=cE.size:=by rw[<-zAJ,hp.length_eq,zAJ]
  have cR:es2.size<2000:=by rw[hsz];exact hl
  have g2:A0V es2.toList:=fun e he=>g1 e (hp.mem_iff.mp he)
  refine wpAny_bind (hg _ _ _ ?_);refine wpAny_bind (wpAny_storeSet_of eK rfl ?_ (fits_of_scanBound (CY cR)));obtain⟨_,dX⟩:=EI (w:=w) eK dq rfl g2 ((hp.map Ba).nodup_iff.mpr nd) cR okr cy;exact wpAny_pure (h _ _ (hsb1.trans (zAS _ a _)) dX (hp.map Ba))
 ·exact wpAny_pure (h _ _ hsb1 fX (zBR _))
theorem Ho(hS:A0G w s.heap a ks)(gz:ks.length+1<2000)(h:∀h' ci,Heap.SameBut a s.heap h'->A0G w h' a ci->(∀j,j∈ci↔j∈ks\/j=k)->ci.length<=ks.length+1->Q (!decide (k∈ks)) { s with heap:=h' }):
  wpAny %[|29] A (setAddHashed a (.int k tk) (hashInt k)) Q E s:=by
 obtain⟨o,es,ep,t,ho,dq,hd,hg,hk,nd,hl,ok,hf⟩:=id hS;have hsz:=Du hk;have gr:(intKind prog w).is k (.int k tk)=true:=intKind_is _ _ _ _;unfold setAddHashed setAddHashedIn;refine wpAny_holding (wpAny_bind (wpAny_setState_of ho hd hf ?_));dsimp only;rw[byScan_of (knd:=intKind prog w) rfl (by rw[hsz];exact CY hl) hg.elems];simp only[↓reduceIte];unfold setAddByScan;exists 2;refine wpAny_bind (wpAny_rule ?_);refine wpAny_bind (wpAny_setScan_of (knd:=intKind prog w) gr ho hd hf hg.elems ?_)
 cases hr:List.findIdx? (fun e=>(intKind prog w).is k e.2) es.toList with
 | some j=>
  dsimp only;obtain⟨hj,hpj,_⟩:=List.findIdx?_eq_some_iff_getElem.mp hr
  have bJ:k∈ks:=by
   rw[<-hk,(hg.is (zCF hj)).mp hpj];exact zA9 (zCF hj)
  refine wpAny_pure %[|38];have e:s={ s with heap:=s.heap }:=by cases s;rfl
  have:=h s.heap ks (zBC a s.heap) hS (fun j=>⟨.inl,fun z=>z.elim id fun z=>z ▸ bJ⟩) (zBA _);rw[decide_eq_true bJ] at this;rw[e];exact this
 | none=>
  dsimp only
  have bJ:k∉ks:=fun z=>by
   rw[<-hk] at z;obtain⟨e,he,rfl⟩:=List.mem_map.mp z;have:=List.findIdx?_eq_none_iff.mp hr e he;rw[(hg.is he).mpr rfl] at this;cases this
  have hgw:∀(b:Bool){s₁:Shared}{Q':Unit->Shared->Prop},Q' () s₁->%[|27] (match b with | true=>rule "set.scan.the-table-gave-way" | false=>pure ()) Q' E s₁:=
   fun b s₁ Q' hq=>by cases b<;>first | exact wpAny_pure hq | exact wpAny_rule hq
  have eL:=layNew_perm t es (hashInt k) (.int k tk);have eN:=layNew_fits t es (hashInt k) (.int k tk);have gA:=ok.layNew es (hashInt k) (.int k tk);generalize hL:layNew t es (hashInt k) (.int k tk)=L at eL eN gA;have hL':layNew t es ((intKind prog w).hash k) (.int k tk)=L:=hL;show wpAny %[|29] A _ _ E s;obtain⟨cE,t1,eJ,gave⟩:=L;simp only[hL];dsimp only at eL eN gA ⊢;rw[Array.toList_push] at eL
  have eG:A0V cE.toList:=fun e he=>by
   rcases List.mem_append.mp (eL.mem_iff.mp he) with z | z
   ·exact hg e z
   ·rw[List.mem_singleton.mp z];exact⟨rfl,tk,rfl⟩
  have hpk:(cE.toList.map Ba).Perm (ks++[k]):=by
   have:=eL.map Ba;rw[List.map_append,hk] at this;exact this
  have nd1:(cE.toList.map Ba).Nodup:=hpk.nodup_iff.mpr (List.nodup_append.mpr ⟨nd,List.nodup_cons.mpr ⟨by simp,zBI⟩,fun x hx y hy=>by rw[List.mem_singleton.mp hy];intro z;subst z;exact bJ hx⟩)
  have cx:cE.size<2000:=by
   have:=hpk.length_eq;rw[List.length_map,zAJ,zA] at this;rw[this];exact gz
  refine wpAny_bind (hgw _ ?_)
  have hend:∀h' ci,Heap.SameBut a s.heap h'->A0G w h' a ci->ci.Perm (cE.toList.map Ba)->Q true { s with heap:=h' }:=by
   intro h' ci cQ bZ ck;have hq:=ck.trans hpk;have:=h h' ci cQ bZ (fun j=>by rw[hq.mem_iff,zD,zBV]) (by rw[hq.length_eq,zA];exact zAB _);rw[decide_eq_false bJ] at this;exact this
  split
  ·refine wpAny_bind ?_;rw[hashByValue_scannable 8 (x:=.int k tk) rfl];exists 6;refine LT ?_ ho dq hd eG nd1 cx ?_ ?_ ?_
   ·intro b s₁ Q' hq;cases b<;>first | exact wpAny_pure hq | exact wpAny_rule hq
   ·split
    ·exact gA
    ·exact gA.plain_off
   ·split
    ·exact eN
    ·exact SetTable.fits_plain_off eN
   ·intro h' ci cQ bZ ck;dsimp only;exact wpAny_pure (hend h' ci cQ bZ ck)
  ·refine wpAny_bind %[|38];simp only[↓reduceIte];refine LT ?_ ho dq hd eG nd1 cx gA eN ?_
   ·intro b s₁ Q' hq;cases b<;>first | exact wpAny_pure hq | exact wpAny_rule hq
   ·intro h' ci cQ bZ ck;dsimp only;exact wpAny_pure (hend h' ci cQ bZ ck)
end
abbrev Br(w:World):Obj:={ cls:=.type "set",dict:=none,data:=.set #[] 0 (.fresh 0 0 (!B5 w)) }
theorem A1X{w:World}{h:Heap}:A0G w (h.push (Br w)) h.objs.size []:=
 ⟨_,#[],0,_,Heap.get?_push_size _ rfl,⟨rfl,rfl,rfl⟩,rfl,fun e he=>absurd he %[|2],rfl,zBI,by decide,A0N.fresh _ _ rfl,rfl⟩
section
variable {prog:Program}{w:World}{A:Around}{E:Value->Shared->Prop}{s:Shared}{a:Addr}{ks:List Int}{k:Int}{tk:Tok}
theorem A0G.typeIs(hS:A0G w s.heap a ks):s.TypeIs (.ref a) "set":=let ⟨o,_,_,_,ho,hc,_⟩:=hS;⟨o,ho,hc.1⟩
theorem A0G.noDict(hS:A0G w s.heap a ks):∀b,Value.ref a= .ref b->∃ob,s.heap.get? b=some ob/\ob.dict=none:=
 fun b e=>by injection e with e;subst e;exact let ⟨o,_,_,_,ho,hc,_⟩:=hS;⟨o,ho,hc.2.1⟩
theorem A0H.typeIs(hS:%[|41] a ks):s.TypeIs (.ref a) "set":=let ⟨o,_,_,_,ho,hc,_⟩:=hS;⟨o,ho,hc.1⟩
theorem LH(hv:vs=[]\/∃x,vs=[x])(h:Q₁ %[|46] { s with heap:=s.heap.push (Br w) }):
  codeAny %[|29] A (.call (.builtin "set.__new__") ⟨.type "set"::vs,[]⟩) (wants Q₁ E) s:=by
 have hn:checkBuiltinCall "set.__new__" ⟨.type "set"::vs,[]⟩=pure ():=by
  rcases hv with rfl | ⟨x,rfl⟩
  ·exact F.newCall_set_0
  ·exact F.newCall_set_1 x
 refine codeAny_of_tree ?_;show wpAny _ A.in1 (do checkBuiltinCall "set.__new__" ⟨.type "set"::vs,[]⟩;again (.builtin "set.__new__" ⟨.type "set"::vs,[]⟩)) _ _ s;refine wpAny_bind (wpAny_of_eq hn (wpAny_pure ⟨plainId_quiet F.plain_set_new _,codeAny_builtin F.entry_set_new ?_⟩));rw[zCD F.plain_set_new _];have gB:=sub_set_self;obtain⟨hp,g,d,tk,os⟩:=s;rcases hv with rfl | ⟨x,rfl⟩
 all_goals
  unfold Builtin.«set.__new__» Builtin.Frozenset.newClass;dsimp only
  wp_walk
  refine wpAny_askSetting %[|38];dsimp only;simp only[newObj];refine wpAny_bind (wpAny_alloc %[|38]);exact wpAny_pure h
set_option maxHeartbeats 1000000 in
theorem S1(h:Q %[|46] { s with heap:=s.heap.push (Br w) }):%[|27] (call (.type "set") []) Q E s:=by
 obtain⟨c,tl,hmro⟩:=F.called_set.mro;have hmade:=F.called_set.made;have gB:=F.called_set.sub;refine wpAny_call (codeAny_of_tree ?_);show wpAny _ _ (callAny (.type "set") _) _ _ _;refine wpAny_pure ⟨zCQ _ %[|31],codeAny_builtin F.entry_type_call ?_⟩;rw[Around.under_plain (weight_type_call_type "set" [] []) rfl];have h1:=F.called_set.notType;have h2:=F.called_set.canCreate;have hct:=F.typeCall_set_0;exists 18;refine codeAny_mono (LH (E:=E) (.inl rfl) (Q₁:=fun obj s₁=>obj= .ref s.heap.objs.size/\s₁={ s with heap:=s.heap.push (Br w) }) ⟨rfl,rfl⟩) fun r s₁ hr=>?_
 cases r with
 | error e=>exact hr
 | ok fl=>
  cases fl with
  | ret obj=>
   obtain⟨rfl,rfl⟩:=hr;have hS:%[|50].get? s.heap.objs.size=some (Br w):=Heap.get?_push_size _ rfl;have hT:Shared.TypeIs { s with heap:=s.heap.push (Br w) } %[|46] "set":=⟨_,hS,rfl⟩;have hli:=F.called_set.init.lookup;have gP:=F.called_set.init.bind %[|46];exists 18;refine codeAny_mono (codeAny_call_builtin (R:=wants (fun r s₂=>r= .none/\Q %[|46] s₂) E) F.called_set.init.plain F.entry_set_init (check_set_init hT ?_)) fun r₂ s₂ hr₂=>?_
   ·unfold Builtin.«set.__init__» noKeywords
    wp_walk
    exact⟨rfl,h⟩
   ·cases r₂ with
    | error e=>exact hr₂
    | ok fl₂=>
     cases fl₂ with
     | ret r=>
      obtain⟨rfl,hQ⟩:=hr₂;exists 18
     | _=>exact hr₂.elim
  | _=>exact hr.elim
theorem LD(hS:A0G w s.heap a ks)(gz:ks.length+1<2000)(h:∀h' ci,Heap.SameBut a s.heap h'->A0G w h' a ci->(∀j,j∈ci↔j∈ks\/j=k)->ci.length<=ks.length+1->Q .none { s with heap:=h',toks:=s.toks+1 }):
  wpAny %[|29] A (call (.builtin "set.add") [.ref a,.int k tk]) Q E s:=by
 refine wpAny_call_entry F.slot_set_add hS.typeIs F.entry_set_add ?_ (F.args_set_add_2 _ _);unfold Builtin.«set.add» Builtin.Frozenset.oneOther;simp only[List.isEmpty_nil,bind_assoc];unfold Builtin.Frozenset.addrOf setAdd;refine wpAny_bind %[|38]
 try dsimp only
 refine wpAny_bind %[|38]
 try dsimp only
 exists 2;refine wpAny_holding ?_;refine wpAny_bind ((intKind prog w).pyHash (k:=k) (intKind_is _ _ _ _) ?_);refine Ho (s:={ s with toks:=s.toks+1 }) hS gz fun h' ci cQ bZ hm hl=>?_
 show wpAny _ _ (ret Value.none) _ _ _;exact wpAny_pure ⟨_,rfl,h h' ci cQ bZ hm hl⟩
end
theorem A0R:Slot "set_iterator" "__next__" "set_iterator.__next__":=
 .of (owner:="set_iterator") (n:="__next__") (by rw[typeLookup_type,builtinLookup_eq_fast];kernel_rfl) %[|31] %[|31] %[|31]
  (by first | exact .inl %[|31] | exact .inr %[|31]) (by rw[isSubtype_type];kernel_rfl)
theorem C9:entryFor table "set_iterator.__next__"=some Builtin.«set_iterator.__next__»:=entryFor_of_tree (by kernel_rfl)
theorem Dy(a:Value):argsOk "set_iterator.__next__" ⟨[a],[]⟩:=by unfold argsOk;kernel_rfl
theorem Ib:entryFor table "set.__iter__"=some Builtin.«frozenset.__iter__»:=entryFor_alias (id':="frozenset.__iter__") (by kernel_rfl) rfl %[|31] (by kernel_rfl)
theorem DB:Slot "set_iterator" "__iter__" "set_iterator.__iter__":=
 .of (owner:="set_iterator") (n:="__iter__") (by rw[typeLookup_type,builtinLookup_eq_fast];kernel_rfl) %[|31] %[|31] %[|31]
  (by first | exact .inl %[|31] | exact .inr %[|31]) (by rw[isSubtype_type];kernel_rfl)
theorem F8:entryFor table "set_iterator.__iter__"=some Builtin.«dict_keyiterator.__iter__»:=entryFor_alias (id':="dict_keyiterator.__iter__") (by kernel_rfl) rfl %[|31] (by kernel_rfl)
theorem GY(a:Value):argsOk "set_iterator.__iter__" ⟨[a],[]⟩:=by unfold argsOk;kernel_rfl
theorem A2L:Slot "set" "__len__" "set.__len__":=
 .of (owner:="set") (n:="__len__") (by rw[typeLookup_type,builtinLookup_eq_fast];kernel_rfl) %[|31] %[|31] %[|31]
  (by first | exact .inl %[|31] | exact .inr %[|31]) (by rw[isSubtype_type];kernel_rfl)
inductive Qc(w:World)(a:Addr)(es:Array (Int×Value))(ep:Nat)(t:SetTable)(h:Heap):(Nat->Value)->%[|7]->Prop where
 | text:B5 w=true->Qc w a es ep t h (fun _=>rawInt 0) ((pickOrder (w.params.setOrder a ep) es).toList.map (·.2))
 | led:B5 w=false->(!t.plain && decide (es.size>1))=false->Qc w a es ep t h (fun i=>rawInt (((if i=0 then 0 else t.place.getD (i-1) 0+1:Nat)):Int)) (es.toList.map (·.2))
 | drw (T:Addr) (o:Obj) (c:Nat) (ps:List Nat):B5 w=false->h.get? T=some o->o.data= .seq (ps.map fun(i:Nat)=>rawInt i).toArray c->(∀p∈ps,p<es.size)->Qc w a es ep t h (fun _=>.ref T) (ps.map fun p=>(es.getD p (0,.none)).2)
def A1M(h:Heap)(it a:Addr)(first:Value)(i n ep:Nat):Prop:=∃o,h.get? it=some o/\o.cls= .type "set_iterator"/\o.data= .fields #[first,rawInt i,.ref a,rawInt n,rawInt ep]
theorem A1M.typeIs{s:Shared}{it a:Addr}{first:Value}{i n ep:Nat}(x:A1M s.heap it a first i n ep):s.TypeIs (.ref it) "set_iterator":=let ⟨o,ho,hc,_⟩:=x;⟨o,ho,hc⟩
section
variable {prog:Program}{w:World}{A:Around}{E:Value->Shared->Prop}{s:Shared}{a it:Addr}{o:Obj}{es:Array (Int×Value)}{ep i:Nat}{t:SetTable}{fst:Nat->Value}{cU:%[|7]}
theorem O0(x:A1M h it a first i n ep):A1M ((h.update it (Obj.mapFields (·.setIfInBounds 0 f2))).update it (Obj.mapFields (·.setIfInBounds 1 (rawInt ((i:Int)+1))))) it a f2 (i+1) n ep:=by
 obtain⟨o,ho,hc,hd⟩:=x;have h1:=Heap.get?_update_self (Obj.mapFields (·.setIfInBounds 0 f2)) ho (zBU (zBE hd _));have cm:=zBE hd (·.setIfInBounds 0 f2);refine⟨_,Heap.get?_update_self _ h1 (zBU (zBE cm _)),(zDK ..).trans ((zDK ..).trans hc),?_⟩;rw[zBE cm];simp
theorem VB(x:A1M h it a first i n ep):A1M (h.update it (Obj.mapFields (·.setIfInBounds 1 (rawInt ((i:Int)+1))))) it a first (i+1) n ep:=by
 obtain⟨o,ho,hc,hd⟩:=x;refine⟨_,Heap.get?_update_self _ ho (zBU (zBE hd _)),(zDK ..).trans hc,?_⟩;rw[zBE hd];simp
theorem MI(ho:s.heap.get? a=some o)(hd:o.data= .set es ep t)(ok:Go (B5 w) t)(hf:t.fits es.size=true)(hb:B5 w=false)(hn:(!t.plain && decide (es.size>1))=false)(hs:slot=if i=0 then 0 else t.place.getD (i-1) 0+1)(hi:i<=es.size)(q:Q (match es[i]?,t.place[i]? with | some (_,x),some j=>some (x,j+1) | _,_=>none) s):%[|27] (setNext a slot i ep) Q E s:=by
 have bB:t.place.size=es.size:=by
  unfold SetTable.fits at hf;exact beq_iff_eq.mp (Bool.and_eq_true_iff.mp hf).1
 have hbel:SetTable.below t.place slot=i:=by
  rw[hs];split
  ·rename_i e;rw[e];exact NL ok.up
  ·rename_i e;have h1:i-1<t.place.size:=by omega
   have eg:=Array.getElem?_eq_getElem h1;have ed:t.place.getD (i-1) 0=t.place[i-1]:=by simp[Array.getD,h1]
   rw[ed,NS ok.up eg];omega
 unfold setNext setsByText;exists 13;dsimp only;exists 16;show wpAny _ _ (if B5 w=true then _ else _) _ _ _;rw[hb,if_neg zAF];show wpAny _ _ (if (!t.plain && decide (es.size>1))=true then _ else _) _ _ _;rw[hn,if_neg zAF];exists 2;show wpAny _ _ (if (!t.led && !es.isEmpty)=true then _ else _) _ _ _;rw[ok.led,hb,if_neg %[|2]];exists 6;rw[hbel];exact wpAny_pure q
theorem Ji(ho:s.heap.get? a=some o)(hd:o.data= .set es ep t)(hf:t.fits es.size=true)(hb:B5 w=true)(q:Q (((pickOrder (w.params.setOrder a ep) es)[i]?).map fun e=>(e.2,slot)) s):%[|27] (setNext a slot i ep) Q E s:=by
 unfold setNext setsByText;exists 13;dsimp only;exists 16;show wpAny _ _ (if B5 w=true then _ else _) _ _ _;rw[hb,if_pos rfl];show wpAny _ _ (if (ep != ep)=true then _ else _) _ _ _;rw[if_neg %[|2]];exists 2;unfold setWalk setsByText;exists 13;dsimp only;exists 16;show wpAny _ _ (if B5 w=true then _ else _) _ _ _;rw[hb,if_pos rfl];refine wpAny_bind (wpAny_askSetting ?_);exact wpAny_pure (wpAny_pure q)
theorem Qw(ho:s.heap.get? a=some o)(hd:o.data= .set es ep t)(hf:t.fits es.size=true)(hp:es[p]? = some e)(q:Q e.2 s):%[|27] (setNextDrawn a p ep) Q E s:=by
 unfold setNextDrawn;exists 13;dsimp only;show wpAny _ _ (if (ep != ep)=true then _ else _) _ _ _;rw[if_neg %[|2]];simp only[hp];exact wpAny_pure q
theorem QU(gh:A1M s.heap it a (fst i) i es.size ep)(ho:s.heap.get? a=some o)(hd:o.data= .set es ep t)(ok:Go (B5 w) t)(hf:t.fits es.size=true)(M:Qc w a es ep t s.heap fst cU)(hx:cU[i]? = some x)(hl:cU.length=es.size)(hQ:∀h',A1M h' it a (fst (i+1)) (i+1) es.size ep->Heap.SameBut it s.heap h'->Q (some x) { s with heap:=h' }):%[|27] (pyNext (.ref it)) Q E s:=by
 obtain⟨oi,hoi,hci,hdi⟩:=id gh;have hix:i<es.size:=by rw[<-hl];exact (List.getElem?_eq_some_iff.mp hx).1
 unfold pyNext
 refine wpAny_bind (wpAny_attempt (wpAny_callSpecial?_slot (name:=Str.ofString "__next__") gh.typeIs A0R
  (wpAny_call_entry A0R gh.typeIs C9 ?_ (Dy _))))
 show wpAny _ _ (fieldsOf (.ref it) >>= _) _ _ s;refine wpAny_bind (wpAny_fieldsOf hoi hdi ?_);show wpAny _ _ (setEntries a >>= _) _ _ s;refine wpAny_bind (wpAny_setEntries_of ho hd hf ?_);show wpAny _ _ (if (((es.size:Nat):Int) != ((es.size:Nat):Int))=true then _ else _) _ _ _;rw[if_neg %[|2]];have cm:=fun f2:Value=>zBE hdi (·.setIfInBounds 0 f2)
 have eK:=fun f2:Value=>Heap.get?_update_self (Obj.mapFields (·.setIfInBounds 0 f2)) hoi (zBU (cm f2))
 cases M with
 | text hb=>
  rw[List.getElem?_map] at hx;obtain⟨e,he,rfl⟩:=Option.map_eq_some_iff.mp hx;have fV:(pickOrder (w.params.setOrder a ep) es)[i]? = some e:=by simpa using he
  refine wpAny_bind (Ji (i:=i) (ep:=ep) ho hd hf hb ?_);rw[fV];refine wpAny_bind (wpAny_setField hoi hdi %[|2] ?_);refine wpAny_bind (wpAny_setField (eK _) (cm _) %[|2] (wpAny_pure ⟨e.2,rfl,wpAny_pure (hQ _ (O0 gh) ((zAS ..).trans (zAS ..)))⟩))
 | led hb hn=>
  rw[List.getElem?_map] at hx;obtain⟨e,he,rfl⟩:=Option.map_eq_some_iff.mp hx;have fV:es[i]? = some e:=by simpa using he
  have bB:t.place.size=es.size:=by
   unfold SetTable.fits at hf;exact beq_iff_eq.mp (Bool.and_eq_true_iff.mp hf).1
  have fz:i<t.place.size:=by omega
  have hp:t.place[i]? = some t.place[i]:=Array.getElem?_eq_getElem fz;have ed:t.place.getD i 0=t.place[i]:=by simp[Array.getD,fz]
  refine wpAny_bind (MI (i:=i) (ep:=ep) ho hd ok hf hb hn rfl (zA7 hix) ?_);rw[fV,hp];refine wpAny_bind (wpAny_setField hoi hdi %[|2] ?_);refine wpAny_bind (wpAny_setField (eK _) (cm _) %[|2] (wpAny_pure ⟨e.2,rfl,wpAny_pure (hQ _ ?_ ((zAS ..).trans (zAS ..)))⟩));have e2:rawInt (((if i+1=0 then 0 else t.place.getD (i+1-1) 0+1:Nat)):Int)=rawInt ((t.place[i]+1:Nat):Int):=by rw[if_neg %[|1],Nat.add_sub_cancel,ed]
  show A1M _ it a (rawInt (((if i+1=0 then 0 else t.place.getD (i+1-1) 0+1:Nat)):Int)) (i+1) es.size ep;rw[e2];exact O0 gh
 | drw T oT c ps hb hT hdT ip=>
  rw[List.getElem?_map] at hx;obtain⟨p,hp,rfl⟩:=Option.map_eq_some_iff.mp hx;have hpe:p<es.size:=ip p (zAN hp);have ee:es[p]? = some es[p]:=Array.getElem?_eq_getElem hpe;have ed:es.getD p (0,.none)=es[p]:=by simp[Array.getD,hpe]
  show wpAny _ _ (seqItems? (.ref T) >>= _) _ _ _;refine wpAny_bind (wpAny_seqItems hT hdT ?_);have hpi:((ps.map fun(i:Nat)=>rawInt i).toArray)[i]? = some (rawInt p):=by simp[hp]
  simp only[zBB,hpi];refine wpAny_bind (Qw (p:=p) ho hd hf ee ?_);refine wpAny_bind (wpAny_setField hoi hdi %[|2] (wpAny_pure ⟨_,rfl,wpAny_pure ?_⟩));rw[ed] at hQ;exact hQ _ (VB gh) (zAS ..)
theorem RW(hh:A.handled=none)(gh:A1M s.heap it a (fst es.size) es.size es.size ep)(ho:s.heap.get? a=some o)(hd:o.data= .set es ep t)(ok:Go (B5 w) t)(hf:t.fits es.size=true)(M:Qc w a es ep t s.heap fst cU)(hl:cU.length=es.size)(hQ:∀h',Heap.ExtBut it s.heap h'->Q none { s with heap:=h' }):%[|27] (pyNext (.ref it)) Q E s:=by
 obtain⟨oi,hoi,hci,hdi⟩:=id gh;unfold pyNext
 refine wpAny_bind (wpAny_attempt (wpAny_callSpecial?_slot (name:=Str.ofString "__next__") gh.typeIs A0R
  (wpAny_call_entry A0R gh.typeIs C9 ?_ (Dy _))))
 show wpAny _ _ (fieldsOf (.ref it) >>= _) _ _ s;refine wpAny_bind (wpAny_fieldsOf hoi hdi ?_);show wpAny _ _ (setEntries a >>= _) _ _ s;refine wpAny_bind (wpAny_setEntries_of ho hd hf ?_);show wpAny _ _ (if (((es.size:Nat):Int) != ((es.size:Nat):Int))=true then _ else _) _ _ _;rw[if_neg %[|2]];have cm:=fun f2:Value=>zBE hdi (·.setIfInBounds 0 f2)
 have eK:=fun f2:Value=>Heap.get?_update_self (Obj.mapFields (·.setIfInBounds 0 f2)) hoi (zBU (cm f2))
 cases M with
 | text hb=>
  have fV:(pickOrder (w.params.setOrder a ep) es)[es.size]? = none:=by
   rw[List.length_map,zAJ] at hl;simp[hl]
  refine wpAny_bind (Ji (i:=es.size) (ep:=ep) ho hd hf hb ?_);rw[fV];refine wpAny_bind (wpAny_setField hoi hdi %[|2] ?_);exists 2;simp only[newExc,newTuple];refine wpAny_bind (wpAny_newObj_type ?_ (by size_fits));exists 25;refine wpAny_newObj_type ?_ (by size_fits);simp only[raiseNew];refine wpAny_bind (wpAny_handled ?_);rw[show A.in1.handled=none from hh];refine wpAny_bind (wpAny_pure (wpAny_throw ?_));exists 26;exact wpAny_pure (hQ _ (((zAS ..).extBut.push _).push _))
 | led hb hn=>
  have fV:es[es.size]? = none:=by simp
  refine wpAny_bind (MI (i:=es.size) (ep:=ep) ho hd ok hf hb hn rfl (zAB _) ?_);rw[fV];refine wpAny_bind (wpAny_setField hoi hdi %[|2] ?_);exists 2;simp only[newExc,newTuple];refine wpAny_bind (wpAny_newObj_type ?_ (by size_fits));exists 25;refine wpAny_newObj_type ?_ (by size_fits);simp only[raiseNew];refine wpAny_bind (wpAny_handled ?_);rw[show A.in1.handled=none from hh];refine wpAny_bind (wpAny_pure (wpAny_throw ?_));exists 26;exact wpAny_pure (hQ _ (((zAS ..).extBut.push _).push _))
 | drw T oT c ps hb hT hdT ip=>
  rw[List.length_map] at hl;show wpAny _ _ (seqItems? (.ref T) >>= _) _ _ _;refine wpAny_bind (wpAny_seqItems hT hdT ?_);have hpi:((ps.map fun(i:Nat)=>rawInt i).toArray)[es.size]? = none:=by simp[hl]
  simp only[zBB,hpi];refine wpAny_bind (wpAny_setField hoi hdi %[|2] ?_);refine wpAny_bind (wpAny_setField (eK _) (cm _) %[|2] ?_);exists 2;simp only[newExc,newTuple];refine wpAny_bind (wpAny_newObj_type ?_ (by size_fits));exists 25;refine wpAny_newObj_type ?_ (by size_fits);simp only[raiseNew];refine wpAny_bind (wpAny_handled ?_);rw[show A.in1.handled=none from hh];refine wpAny_bind (wpAny_pure (wpAny_throw ?_));exists 26;exact wpAny_pure (hQ _ ((((zAS ..).trans (zAS ..)).extBut.push _).push _))
end
theorem Do{α:Type}:∀(l:List α)(i:Nat)(h:i<l.length),(l[i]::l.eraseIdx i).Perm l
 | x::xs,0,_=>zBR _
 | x::xs,i+1,h=>by
  have h':i<xs.length:=zC0 h;exact (List.Perm.swap x xs[i] (xs.eraseIdx i)).trans (List.Perm.cons x (Do xs i h'))
theorem Js{α:Type}(next:Nat->Nat):∀(fuel k:Nat)(left:List α)(out:Array α),fuel=left.length->(pickOrder.go next fuel k left out).toList.Perm (out.toList++left)
 | 0,_,left,out,h=>by
  have e:left=[]:=List.length_eq_zero_iff.mp h.symm;subst e;unfold pickOrder.go;simp
 | fuel+1,k,left,out,h=>by
  unfold pickOrder.go;have hp:0<left.length:=by omega
  have hi:next k%left.length<left.length:=Nat.mod_lt _ hp;rw[List.getElem?_eq_getElem hi];have hl:fuel=(left.eraseIdx (next k%left.length)).length:=by rw[zDA,if_pos hi];omega
  refine (Js next fuel (k+1) _ _ hl).trans ?_;rw[Array.toList_push,zBY];exact List.Perm.append_left _ (Do _ _ hi)
theorem DW{α:Type}(next:Nat->Nat)(xs:Array α):(pickOrder next xs).toList.Perm xs.toList:=by
 unfold pickOrder;have:=Js next xs.size 0 xs.toList #[] (zAJ).symm
 simpa using this
section
variable {prog:Program}{w:World}{A:Around}{E:Value->Shared->Prop}{s:Shared}{a it T0:Addr}{o oT:Obj}{es:Array (Int×Value)}{ep i:Nat}{t:SetTable}{fst:Nat->Value}{cU:%[|7]}{ks:List Int}
theorem Km(hn:n≠0)(h:∀i,i<n->Q i { s with drawn:=s.drawn.bump src }):wpAny M A (choose src n) Q E s:=
 fun Γ p _=>⟨hn,h _ (Nat.mod_lt _ (Nat.pos_of_ne_zero hn))⟩
theorem N5{α:Type}:∀n(xs:List α)s(Q:List α->Shared->Prop),xs.length=n->(∀ys d',ys.Perm xs->Q ys { s with drawn:=d' })->wpAny M A (drawOrder n xs) Q E s:=by
 intro n
 induction n with
 | zero=>
  intro xs s Q h q;have e:xs=[]:=List.length_eq_zero_iff.mp h;subst e;exact wpAny_pure (q [] s.drawn (zBR _))
 | succ n ih=>
  intro xs s Q h q
  cases xs with
  | nil=>exact absurd h (Nat.succ_ne_zero n).symm
  | cons x xs=>
   unfold drawOrder;refine wpAny_bind (Km %[|2] fun i hi=>?_);rw[List.getElem?_eq_getElem hi];have hl:((x::xs).eraseIdx i).length=n:=by rw[zDA,if_pos hi,h];rfl
   refine wpAny_bind (ih _ _ _ hl fun ys d' hp=>?_);exact wpAny_pure (q _ d' ((List.Perm.cons _ hp).trans (Do _ _ hi)))
structure ZK(w:World)(s:Shared)(a:Addr)(ks:List Int)(h':Heap)(it T0:Addr)(o oT:Obj)(es:Array (Int×Value))(ep:Nat)(t:SetTable)(fst:Nat->Value)(cU:%[|7]):Prop where
 lo:s.heap.objs.size<=it
 kk:∀b o,s.heap.get? b=some o->h'.get? b=some o
 at':A1M h' it a (fst 0) 0 es.size ep
 ho:h'.get? a=some o
 hd:o.data= .set es ep t
 ok:Go (B5 w) t
 hf:t.fits es.size=true
 hT:h'.get? T0=some oT
 ne:T0≠it
 md:∀fu,fu.get? T0=some oT->Qc w a es ep t fu fst cU
 pm:cU.Perm (es.toList.map (·.2))
 eg:A0V es.toList
 ek:es.toList.map Ba=ks
 tl:T0=a\/s.heap.objs.size<=T0
theorem SG(hS:%[|41] a ks)(hQ:∀h' d' it T0 o oT es ep t fst cU,ZK w s a ks h' it T0 o oT es ep t fst cU->Q (.ref it) { s with heap:=h',drawn:=d' }):%[|27] (pyIter (.ref a)) Q E s:=by
 obtain⟨o,es,ep,t,ho,dq,hd,hg,hk,nd,hl,ok,hf⟩:=id hS;have iq:a<s.heap.objs.size:=zAE ho;refine wpAny_pyIter_slot hS.typeIs PySem.F.slot_set_iter (wpAny_call_entry PySem.F.slot_set_iter hS.typeIs Ib ?_ (PySem.F.args_set_iter_1 _));show wpAny _ _ (Builtin.Frozenset.sizeOf a >>= _) _ _ s;exists 2;unfold Builtin.Frozenset.sizeOf;refine wpAny_bind (wpAny_setEntries_of ho hd hf %[|38]);exists 2;unfold setDrawn setsByText;exists 13;dsimp only;refine wpAny_bind (wpAny_bind (wpAny_askSetting (wpAny_pure %[|38])));show wpAny _ _ (if (!B5 w && (!t.plain && decide (es.size>1)))=true then _ else _) _ _ _;by_cases hdr:(!B5 w && (!t.plain && decide (es.size>1)))=true
 ·rw[if_pos hdr]
  have hb:B5 w=false:=by
   cases q:B5 w with
   | false=>rfl
   | true=>rw[q] at hdr;cases hdr
  refine wpAny_bind (N5 _ _ _ _ (zCC) fun ps d' hp=>?_);refine wpAny_bind (wpAny_newTuple ?_ (by rw[List.length_map,hp.length_eq,zCC,Du hk];exact zA7 (zBX hl %[|0])));have kk:∀b ob,s.heap.get? b=some ob->(s.heap.push { cls:=.type "tuple",data:=.seq (ps.map fun(i:Nat)=>rawInt i).toArray }).get? b=some ob:=fun b ob e=>Heap.get?_push_of_some _ e
  exists 2;unfold setEpoch;refine wpAny_bind (wpAny_setState_of (kk _ _ ho) hd hf %[|38]);refine wpAny_bind (wpAny_newObj_type (wpAny_pure ⟨_,rfl,"set_iterator",_,⟨_,Heap.get?_push_size _ rfl,rfl⟩,A0R.lookup,?_⟩));refine hQ _ d' _ s.heap.objs.size o _ es ep t (fun _=>.ref s.heap.objs.size) _ ⟨?_,fun b ob e=>Heap.get?_push_of_some _ (kk b ob e),⟨_,Heap.get?_push_size _ rfl,rfl,rfl⟩,Heap.get?_push_of_some _ (kk _ _ ho),hd,ok,hf,Heap.get?_push_of_some _ (Heap.get?_push_size _ rfl),?_,fun fu e=>.drw _ _ _ ps hb e rfl ?_,?_,hg,hk,.inr (zAB _)⟩
  ·rw[zAT];exact zBA _
  ·rw[zAT];exact zAI (zB4 _)
  ·exact fun p ck=>List.mem_range.mp (hp.mem_iff.mp ck)
  ·refine (hp.map _).trans ?_
   have e:(List.range es.size).map (fun p=>(es.getD p (0,.none)).2)=es.toList.map (·.2):=by
    refine zC5 %[|2] fun n h1 h2=>?_
    have hn:n<es.size:=by simpa using h1
    simp[Array.getD,hn]
   rw[e]
 ·rw[if_neg hdr];refine wpAny_bind %[|38];exists 2;unfold setEpoch;refine wpAny_bind (wpAny_setState_of ho hd hf %[|38]);refine wpAny_bind (wpAny_newObj_type (wpAny_pure ⟨_,rfl,"set_iterator",_,⟨_,Heap.get?_push_size _ rfl,rfl⟩,A0R.lookup,?_⟩));have kk:∀b ob,s.heap.get? b=some ob->(s.heap.push { cls:=.type "set_iterator",data:=.fields #[rawInt 0,rawInt 0,.ref a,rawInt es.size,rawInt ep] }).get? b=some ob:=fun b ob e=>Heap.get?_push_of_some _ e
  cases hb:B5 w with
  | true=>
   refine hQ _ s.drawn _ a o o es ep t (fun _=>rawInt 0) _ ⟨zAB _,kk,⟨_,Heap.get?_push_size _ rfl,rfl,rfl⟩,kk _ _ ho,hd,ok,hf,kk _ _ ho,zAI iq,fun fu e=>.text hb,(DW _ _).map _,hg,hk,.inl rfl⟩
  | false=>
   rw[hb] at hdr;refine hQ _ s.drawn _ a o o es ep t (fun i=>rawInt (((if i=0 then 0 else t.place.getD (i-1) 0+1:Nat)):Int)) _ ⟨zAB _,kk,⟨_,Heap.get?_push_size _ rfl,rfl,rfl⟩,kk _ _ ho,hd,ok,hf,kk _ _ ho,zAI iq,fun fu e=>.led hb (by simpa using hdr),zBR _,hg,hk,.inl rfl⟩
theorem SO(hh:A.handled=none)(I:ZK w s0 a ks h0 it T0 o oT es ep t fst cU):Walks prog w A it [it,a,T0] [it] es.size (fun i v=>cU[i]? = some v) (fun i h=>A1M h it a (fst i) i es.size ep/\h.get? a=some o/\h.get? T0=some oT):=by
 have hl:cU.length=es.size:=by rw[I.pm.length_eq,List.length_map,zAJ]
 have na:a≠it:=fun e=>by
  obtain⟨oi,h1,_,h3⟩:=I.at';subst e;rw[I.ho] at h1;cases h1;rw[I.hd] at h3;cases h3
 refine⟨fun b hb=>by simp at hb;simp[hb],fun i h h' st k=>?_,fun i s Q E hi st hQ=>?_,fun s Q E st hQ=>?_,fun i s Q E st hQ=>?_⟩
 ·obtain⟨⟨oi,h1,r⟩,h2,h3⟩:=st;exact⟨⟨oi,k it %[|2] _ h1,r⟩,k a %[|2] _ h2,k T0 %[|2] _ h3⟩
 ·obtain⟨h1,h2,h3⟩:=st;have hx:cU[i]? = some cU[i]:=List.getElem?_eq_getElem %[|1];refine QU h1 h2 I.hd I.ok I.hf (I.md _ h3) hx hl fun h' it' sb=>?_
  exact hQ _ h' s.toks hx ⟨it',(sb.2 a na).trans h2,(sb.2 T0 I.ne).trans h3⟩ fun b ob hb e=>(sb.2 b (by simpa using hb)).trans e
 ·obtain⟨h1,h2,h3⟩:=st;refine RW hh h1 h2 I.hd I.ok I.hf (I.md _ h3) hl fun h' eb=>?_
  exact hQ h' s.toks fun b ob hb e=>eb b ob (by simpa using hb) e
 ·obtain⟨h1,h2,h3⟩:=st;refine wpAny_pyIter_slot h1.typeIs DB (wpAny_call_entry DB h1.typeIs F8 ?_ (GY _));exact wpAny_pure ⟨_,rfl,"set_iterator",_,h1.typeIs,A0R.lookup,hQ⟩
end
theorem SU{es:Array (Int×Value)}{cU:%[|7]}{ks:List Int}(pm:cU.Perm (es.toList.map (·.2)))(eg:A0V es.toList)(ek:es.toList.map Ba=ks):∃ns,IntsAre cU ns/\ns.Perm ks:=by
 let vk:Value->Int:=fun v=>match v with | .int k _=>k | _=>0
 have each:∀v∈cU,∃t,v= .int (vk v) t:=fun v hv=>by
  obtain⟨e,he,rfl⟩:=List.mem_map.mp (pm.mem_iff.mp hv);obtain⟨_,t,h2⟩:=eg e he;exact⟨t,h2⟩
 refine⟨cU.map vk,?_,?_⟩
 ·clear pm
  induction cU with
  | nil=>exact .nil
  | cons v r ih=>
   obtain⟨t,e⟩:=each v List.mem_cons_self;have:=ih fun x hx=>each x (List.mem_cons_of_mem _ hx)
   rw[zAP];generalize vk v=k at e;subst e;exact .cons k t this
 ·refine (pm.map vk).trans ?_;rw[zBJ,<-ek];exact zBR _
section
variable {prog:Program}{w:World}{A:Around}{E:Value->Shared->Prop}{s:Shared}{a:Addr}{ks:List Int}
theorem T9(hS:%[|41] a ks)(q:Q false s):%[|27] (Builtin.List.listLengthHint (.ref a)) Q E s:=by
 unfold Builtin.List.listLengthHint;refine wpAny_bind (wpAny_specialOf hS.typeIs A2L.lookup ?_);have dw:splitId "set.__len__"=some ("set","__len__"):=by decide +kernel
 simp only[dw];refine wpAny_bind (wpAny_isInstance hS.typeIs sub_set_self ?_);rw[if_neg %[|2]];show wpAny _ _ (typeOf (.ref a) >>= _) _ _ _;refine wpAny_bind (wpAny_typeOf hS.typeIs ?_);exact wpAny_pure q
theorem LO(hh:A.handled=none)(hS:%[|41] a ks)(hQ:∀(s':Shared) (acc:%[|7]) (ns:List Int),s.heap.objs.size<=s'.heap.objs.size->(∀b o,s.heap.get? b=some o->s'.heap.get? b=some o)->s'.gens=s.gens->s'.os=s.os->IntsAre acc ns->ns.Perm ks->Q acc s'):
  wpAny %[|29] A (collect (.ref a)) Q E s:=by
 obtain⟨o0,es0,ep0,t0,ho0,_,_,_,hk0,_,d5,_⟩:=id hS;have bL:a<s.heap.objs.size:=zAE ho0;unfold collect;refine wpAny_bind (wpAny_runValue (codeAny_builtin F.entry_proto_collect ?_));rw[zCD F.plain_proto_collect _];show wpAny _ A.in1 (newList [] >>= fun l=>again (.builtin "list.__iadd__" ⟨[l,.ref a],[]⟩)) _ _ s;refine wpAny_bind (wpAny_newObj_type ?_);refine wpAny_pure ⟨plainId_quiet F.plain_list_iadd _,codeAny_builtin F.entry_list_iadd ?_⟩;rw[zCD F.plain_list_iadd _];have kk1:∀b ob,s.heap.get? b=some ob->(s.heap.push { cls:=.type "list",data:=.seq ([]:%[|7]).toArray }).get? b=some ob:=fun b ob e=>Heap.get?_push_of_some _ e
 have fX:A0H w ({ s with heap:=s.heap.push { cls:=.type "list",data:=.seq ([]:%[|7]).toArray } }:Shared).heap a ks:=hS.keep fun ob e=>kk1 _ _ e
 show wpAny _ A.in1 (Builtin.List.listExtendWith %[|46] (.ref a) %[|46]) _ _ _;unfold Builtin.List.listExtendWith;refine wpAny_bind (wpAny_typeOf fX.typeIs ?_);have h1:Builtin.List.listSameRef %[|46] (.ref a)=false:=by simp[Builtin.List.listSameRef];exact zBN bL
 have h2:(Value.type "set" == Value.type "list")=false:=by decide
 have h3:(Value.type "set" == Value.type "tuple")=false:=by decide
 simp only[h1,h2,h3,zCM,zBO,if_false];refine wpAny_bind (SG fX fun h' d' it T0 o oT es ep t fst cU I=>?_);have dX:A0H w ({ s with heap:=h',drawn:=d' }:Shared).heap a ks:=fX.keep fun ob e=>I.kk _ _ e
 refine wpAny_bind (wpAny_holding (T9 (s:={ s with heap:=h',drawn:=d' }) dX ?_))
 show wpAny _ A.in1 (rule "list.extend.makes-room" >>= fun _=>Builtin.List.listTouch %[|46] >>= fun _=>
  again (.builtin "list.extend.loop" ⟨[.ref s.heap.objs.size,.ref it,.ref s.heap.objs.size],[]⟩)) _ _ _
 refine wpAny_bind (wpAny_rule ?_);have hS₁:h'.get? s.heap.objs.size=some { cls:=.type "list",data:=.seq ([]:%[|7]).toArray }:=I.kk _ _ (Heap.get?_push_size _ rfl);exists 2;show wpAny _ A.in1 (updateSeq s.heap.objs.size (·.push .none) >>= fun _=>updateSeq s.heap.objs.size (·.pop)) _ _ _;refine wpAny_bind (wpAny_updateSeq hS₁ rfl ?_);have hS₂:=Heap.get?_update_self (Obj.mapSeq (·.push Value.none)) hS₁ rfl;refine wpAny_updateSeq hS₂ rfl ?_;have hS₃:=Heap.get?_update_self (Obj.mapSeq (·.pop)) hS₂ rfl
 have oth:∀b ob,b≠s.heap.objs.size->h'.get? b=some ob->((h'.update s.heap.objs.size (Obj.mapSeq (·.push Value.none))).update s.heap.objs.size (Obj.mapSeq (·.pop))).get? b=some ob:=
  fun b ob hb e=>(Heap.get?_update_other _ _ (zB hb)).trans ((Heap.get?_update_other _ _ (zB hb)).trans e)
 have esz:({ s with heap:=s.heap.push { cls:=.type "list",data:=.seq ([]:%[|7]).toArray } }:Shared).heap.objs.size=s.heap.objs.size+1:=zAT _ _;have nit:it≠s.heap.objs.size:=zBN (by have:=I.lo;rw[esz] at this;exact this)
 have nT:T0≠s.heap.objs.size:=by
  rcases I.tl with z | z
  ·rw[z];exact zAI bL
  ·exact zBN (by rw[esz] at z;exact z)
 have hSf:s.heap.objs.size∉[it,a,T0]:=by
  simp only[zAC,zAA,or_false,not_or];exact⟨zB nit,zBN bL,zB nT⟩
 have W:=(SO (prog:=prog) (A:=A.in1) (by simpa using hh) I).toS;have hn:es.size<=sizeLine:=by rw[Du I.ek];exact zA7 (zBX d5 %[|0])
 obtain⟨oi,hoi,ri⟩:=I.at';refine wpAny_pure ⟨plainId_quiet F.plain_extend_loop _,codeAny_extend_loopS W hn _ hSf _ es.size 0 _ _ _ rfl (zA5 _) ⟨⟨oi,oth _ _ nit hoi,ri⟩,oth _ _ (zAI bL) I.ho,oth _ _ nT I.hT⟩ hS₃ (ItemsOf.nil _) fun s' ir c' hm bZ br=>?_⟩;show wpAny _ A (load s.heap.objs.size >>= _) _ _ s';refine wpAny_bind (wpAny_load bZ ?_);have hl:cU.length=es.size:=by rw[I.pm.length_eq,List.length_map,zAJ]
 have eo:ir.toList=cU:=by
  refine zC5 (by rw[zAJ,br.1,hl]) fun n h1 h2=>?_
  have gR:n<ir.size:=by simpa using h1
  have:cU[n]? = some ir[n]:=br.2 n _ (Array.getElem?_eq_getElem gR);rw[List.getElem?_eq_getElem h2] at this;have:=zAK this
  simpa using this.symm
 obtain⟨ns,hi,hp⟩:=SU I.pm I.eg I.ek;refine wpAny_pure (hQ s' ir.toList ns (zA7 (zAE bZ)) (fun b ob e=>?_) hm.gens hm.os (by rw[eo];exact hi) hp);have hb:b<s.heap.objs.size:=zAE e;refine hm.heap b ob ?_ (oth b ob (zAI hb) (I.kk _ _ (kk1 _ _ e)));simp only[zAC,zAA,or_false,not_or];exact⟨zAI hb,zAI (zBX hb (by have:=I.lo;rw[esz] at this;exact this))⟩
theorem Nz(hh:A.handled=none)(hS:%[|41] a ks)(h64:ks.length<64)(h:∀(s':Shared) (l:Addr) (out:Array Value) (n:Nat) (ns:List Int),(∀b o,s.heap.get? b=some o->s'.heap.get? b=some o)->s'.gens=s.gens->s'.os=s.os->s.heap.objs.size<=l->s'.heap.get? l=some (seqObj "list" out n)->IntsAre out.toList ns->ns.Perm ks->ns.Pairwise (· <= ·)->Q (.ref l) s'):
  wpAny %[|29] A (call (.builtin "sorted") [.ref a]) Q E s:=by
 refine Calls.call_function_entry kind_sorted plain_sorted entry_sorted (args_sorted1 _) ?_;unfold Builtin.«sorted»;refine wpAny_bind (m:=checkCount "sorted" 1 1 _) %[|38];refine wpAny_bind (LO (by simpa using hh) hS fun s1 vs ns1 lo kk eg eo hi hp=>?_);have bo:vs.length<64:=by rw[IntsAre.length hi,hp.length_eq];exact h64
 refine wpAny_bind (wpAny_newList ?_ (zA7 (zBX bo %[|0])));have hoL:(s1.heap.push (seqObj "list" vs.toArray 0)).get? s1.heap.objs.size=some (seqObj "list" vs.toArray 0):=Heap.get?_push_size _ rfl;show wpAny _ _ _ _ _ { s1 with heap:=s1.heap.push (seqObj "list" vs.toArray 0) };refine wpAny_bind (wpAny_holding (wpAny_call_entry slot_list_sort ⟨_,hoL,rfl⟩ entry_list_sort (list_sort_tree hoL hi bo fun out ns' a1 a2 a3=>⟨_,rfl,?_⟩) (args_list_sort _)));refine wpAny_pure ⟨_,rfl,?_⟩;obtain⟨e1,eK⟩:∃e1,((s1.heap.push (seqObj "list" vs.toArray 0)).update s1.heap.objs.size (Obj.mapSeq fun _=>#[])).get? s1.heap.objs.size=some (seqObj "list" #[] e1):=⟨_,get?_update_seq hoL (fun _=>#[])⟩;have ho2:((((s1.heap.push (seqObj "list" vs.toArray 0)).update s1.heap.objs.size (Obj.mapSeq fun _=>#[])).push (seqObj "tuple" vs.toArray 0)).push (seqObj "list" #[] 0)).get? s1.heap.objs.size=some (seqObj "list" #[] e1):=Heap.get?_push_of_some _ (Heap.get?_push_of_some _ eK);refine h _ s1.heap.objs.size out _ ns' (fun b ob e=>?_) eg eo lo (get?_update_seq ho2 (fun _=>out)) a1 (a2.trans hp) a3;have e2:=kk b ob e;have nb:b≠s1.heap.objs.size:=zAI (zAE e2);exact (Heap.get?_update_other _ _ (zB nb)).trans (Heap.get?_push_of_some _ (Heap.get?_push_of_some _ ((Heap.get?_update_other _ _ (zB nb)).trans (Heap.get?_push_of_some _ e2))))
end
abbrev By(w:World)(a:Addr)(S:Int->Bool)(n:Nat):HO:=.ext fun h=>∃ks,A0G w h a ks/\(∀k,S k=true↔k∈ks)/\ks.length<=n
theorem Ef(x:A0G w h a ks)(m:∀k,S k=true↔k∈ks)(hl:ks.length<=n):A0O P w H h a (By w a S n):=
 ⟨⟨ks,x,m,hl⟩,let ⟨o,_,_,_,ho,_⟩:=x;⟨o,ho⟩,fun h1 h2 ⟨ks,y,r⟩ k=>⟨ks,y.keep k,r⟩⟩
section
variable {X:Cx}
theorem Inv.setO(I:%[|5])(h:H a=some (By X.w a S n)):∃ks,A0G X.w s.heap a ks/\(∀k,S k=true↔k∈ks)/\ks.length<=n:=(I.hok _ _ h).1
theorem Rc:Ce X (.type "set") (fun xs H Q=>xs=[]/\∀a,H a=none->Q (.ref a) (upd H a (By X.w a (fun _=>false) 0))):=by
 exists 7;obtain⟨rfl,q⟩:=h;cases r;refine S1 (w:=X.w) ⟨.ref s.heap.objs.size,_,I.laid (t':=s.toks) (o:=By X.w s.heap.objs.size (fun _=>false) 0) (fun b ob e=>Heap.get?_push_of_some _ e) (zAB _) ?_,rfl,q _ (I.hok.fresh (zAB _))⟩;exact Ef A1X (fun k=>by simp) (zAB _)
abbrev QS(w:World)(a:Addr)(S:Int->Bool)(n:Nat):HO:=.ext fun h=>∃ks,A0H w h a ks/\(∀k,S k=true↔k∈ks)/\ks.length<=n
theorem UP(x:A0H w h a ks)(m:∀k,S k=true↔k∈ks)(hl:ks.length<=n):A0O P w H h a (QS w a S n):=
 ⟨⟨ks,x,m,hl⟩,let ⟨o,_,_,_,ho,_⟩:=x;⟨o,ho⟩,fun h1 h2 ⟨ks,y,r⟩ k=>⟨ks,y.keep k,r⟩⟩
theorem Inv.setR(I:%[|5])(h:H a=some (QS X.w a S n)):∃ks,A0H X.w s.heap a ks/\(∀k,S k=true↔k∈ks)/\ks.length<=n:=(I.hok _ _ h).1
theorem Gq(hc:X.calm=true){pins:%[|14]}{ks:List Int}{S:Int->Bool}{n:Nat}(I:%[|5])(hS:A0H X.w s.heap a ks)(hm:∀k,S k=true↔k∈ks)(hl:ks.length<=n)(hn:n<64)(q:∀(l:Addr) (ns:List Int),H l=none->ns.Pairwise (· < ·)->(∀k,k∈ns↔S k=true)->Q (.ref l) (upd H l (.lst %[|25]))):%[|19] (call (.builtin "sorted") [.ref a]) (%[|36]) X.xe s:=by
 have ndk:ks.Nodup:=let ⟨_,_,_,_,_,_,_,_,_,nd,_⟩:=hS;nd
 refine Nz (w:=X.w) (I.ok.hd hc) hS %[|1] fun s' l out c ns kk eg eo lo dA hi hp hs=>?_
 have nd:ns.Nodup:=hp.nodup_iff.mpr ndk;have lt:ns.Pairwise (· < ·):=(List.Pairwise.and hs nd).imp fun {x y} h=>by have h1:=h.1;have h2:=h.2;omega
 have iU:H l=none:=I.hok.fresh lo;have fv:∀b u,H b=some u->upd H l (.lst %[|25]) b=some u:=fun b u e=>by rw[Af (Ah e iU)];exact e
 have len:%[|25].length<=sizeLine:=by
  rw[List.length_map,hp.length_eq];exact zA7 (zDI hl (zBX hn %[|0]))
 have un:Un (Hv X.stack) [] H (upd H l (.lst %[|25])) s.heap s'.heap:=
  ⟨fun b o e _ _ _=>kk b o e,fun b o e _ _ _=>⟨o.slots,kk b o e⟩,fun b o e n _=>by rw[Af (zAI (zAM (zAE e) lo))];exact n,fun b o e _=>⟨o,kk b o e⟩,fun b xs e=>fv b _ e,fun b o u e=>fv b _ e,fun b ps e=>⟨#[],by rw[fv b _ e];simp⟩⟩
 have hok:HOk X.prog X.w (upd H l (.lst %[|25])) s'.heap:=fun b u e=>by
  by_cases z:b=l
  ·subst z;rw[A0A] at e;cases e;exact⟨len,out.toList,c,FQ hi,by rw[dA,Array.toArray_toList]⟩
  ·rw[Af z] at e;exact (I.hok b u e).stay (fun c v _ e=>kk c v e) (fun c e=>fv c _ e) fun c xs e=>fv c _ e
 exact⟨.ref l,_,I.call' (ch:=[]) eo un hok (by rw[eg];exact I.bare) (fun b hb=>absurd hb %[|2]),rfl,q l ns iU lt fun k=>by rw[hp.mem_iff];exact (hm k).symm⟩
inductive DP(w:World)(xs:List V)(H:Hp)(Q:VK):Prop where
 | mk (a S n) (_:xs=[.ref a]) (_:H a=some (By w a S n)) (_:n<64) (_:∀(l:Addr)(ns:List Int),H l=none->ns.Pairwise (· < ·)->(∀k,k∈ns↔S k=true)->Q (.ref l) (upd H l (.lst %[|25]))):DP w xs H Q
theorem Dq(hc:X.calm=true):Ce X (.builtin "sorted") (DP X.w):=by
 exists 7;obtain⟨a,S,n,rfl,ha,hn,q⟩:=h;obtain⟨u,rfl,ru⟩:=CT r;cases ru;obtain⟨ks,hS,hm,hl⟩:=I.setO ha;exact Gq hc I hS.it hm hl hn q
inductive DT(w:World)(xs:List V)(H:Hp)(Q:VK):Prop where
 | mk (a S n) (_:xs=[.ref a]) (_:H a=some (QS w a S n)) (_:n<64) (_:∀(l:Addr)(ns:List Int),H l=none->ns.Pairwise (· < ·)->(∀k,k∈ns↔S k=true)->Q (.ref l) (upd H l (.lst %[|25]))):DT w xs H Q
theorem Kd(hc:X.calm=true):Ce X (.builtin "sorted") (DT X.w):=by
 exists 7;obtain⟨a,S,n,rfl,ha,hn,q⟩:=h;obtain⟨u,rfl,ru⟩:=CT r;cases ru;obtain⟨ks,hS,hm,hl⟩:=I.setR ha;exact Gq hc I hS hm hl hn q
variable {o e:Expr}{es:%[|20]}{to:TE}{t:TA}{bD bA:Pos}
inductive OU(X:Cx)(Q:VK)(a:Addr)(xs:List V)(H2:Hp):Prop where
 | mk (k S2 n2) (_:xs=[.int k]) (_:H2 a=some (By X.w a S2 n2)) (_:n2+1<2000) (_:Q .non (upd H2 a (By X.w a (fun j=>S2 j || decide (j=k)) (n2+1)))):OU X Q a xs H2
inductive Rs(X:Cx)(t:TA)(σ:St)(Q:VK)(x:V)(H1:Hp):Prop where
 | mk (a S n) (_:x= .ref a) (_:H1 a=some (By X.w a S n)) (_:t σ H1 (OU X Q a)):Rs X t σ Q x H1
def Zl(X:Cx)(to:TE)(t:TA):TE:=fun σ H Q=>to σ H (Rs X t σ Q)
theorem VO(ho:PE X o to)(hp:PA X (e::es) t)(eF:attributeBase o "add" X.env (eval o X.env)=eval o X.env:=by rfl)(hfew:((backTo bA (starEach (e::es) X.env)).all (fun x=>!x.1) && (backToKw bA (keywordEach [] X.env)).all (fun x=>x.1.isSome)
   && decide ((e::es).length+([]:List Keyword).length+(if ([]:List Keyword).isEmpty then 0 else 1)<30))=true:=by rfl)(dF:(bD.endLine == bA.line)=true:=by rfl)(hs:starEach (e::es) X.env=%[|51]::starEach es X.env:=by rfl)(fj:(backTo bA (starEach es X.env)).any (·.1)=false:=by rfl):
  PE X (.Call (.Attribute o "add" bD) (e::es) [] bA) (Zl X to t):=by
 exists 1;refine wpAny_Call_method_late eF hfew dF rfl (AU (ho pins s σ H _ I h) fun v s1 ⟨x,H1,I1,r1,a,S,n,ex,ha,q1⟩=>?_);subst ex;cases r1;obtain⟨ks,hS,hm,hl⟩:=I1.setO ha;refine⟨"set","set.add",PySem.F.plainAttrs_set,PySem.F.slot_set_add,PySem.F.type_set_add,hS.typeIs,fun b eb=>hS.noDict b eb,?_⟩;have hA:=hp bA pins s1 σ H1 _ I1 q1;rw[hs] at hA ⊢;refine zCY (by show (false || (backTo bA (starEach es X.env)).any (·.1))=false;rw[fj]<;>rfl) (Calls.evalArgs_plain ?_);refine AU hA fun us s2 ⟨vs,H2,I2,r2,k,S2,n2,ek,bK,gu,q2⟩=>?_
 subst ek;obtain⟨u,rfl,ru⟩:=CT r2;obtain⟨tk,rfl⟩:=ru;obtain⟨ks2,dX,bT,bM⟩:=I2.setO bK;refine LD (w:=X.w) dX %[|1] fun h' ci cQ bZ dg dA=>?_
 have mu:YQ (H2 a):=by rw[bK];exact True.intro
 refine⟨.non,_,I2.write (x:=a) (e:=a) (t':=s2.toks+1) mu (.inl rfl) (fun b ob nb eb=>(cQ.2 b nb).trans eb) (let ⟨o,_,_,_,ho,_⟩:=bZ;⟨o,ho⟩) (Ef bZ (fun j=>?_) %[|1]),rfl,q2⟩;rw[dg j,zBF,decide_eq_true_eq,bT j]
end
theorem KP:∀(names:List (Str×NameKind))(h:Heap)(acc:List (Str×Addr))(n:Str)(c:Addr),(cellsFrom h.objs.size names acc).lookup n=some c->acc.lookup n=some c\/(h.objs.size<=c/\(pushCells h names).IsCell c none)
 | [],_,_,_,_,e=>.inl e
 | (name,kind)::r,h,acc,n,c,e=>by
  unfold cellsFrom at e;unfold pushCells;split at e
  ·rename_i hk;rw[if_pos hk];have e':(cellsFrom (h.push { cls:=.type "cell",data:=.cell none }).objs.size r ((name,h.objs.size)::acc)).lookup n=some c:=by rw[zAT];exact e
   rcases KP r _ _ n c e' with z | ⟨z1,z2⟩
   ·rw[zC6] at z
    cases hb:n == name with
    | true=>
     rw[hb] at z;cases z;exact .inr ⟨zAB _,_,pushCells_keeps r _ _ _ (Heap.get?_push_size _ rfl),rfl⟩
    | false=>rw[hb] at z;exact .inl z
   ·rw[zAT] at z1;exact .inr ⟨by omega,z2⟩
  ·rename_i hk;rw[if_neg hk];exact KP r h acc n c e
theorem Op:∀(names:List (Str×NameKind))(k:Nat)(acc:List (Str×Addr)),(∀x y c,acc.lookup x=some c->acc.lookup y=some c->x=y)->(∀x c,acc.lookup x=some c->c<k)->∀x y c,(cellsFrom k names acc).lookup x=some c->(cellsFrom k names acc).lookup y=some c->x=y
 | [],_,_,hi,_,x,y,c,e1,e2=>hi x y c e1 e2
 | (name,kind)::r,k,acc,hi,hl,x,y,c,e1,e2=>by
  unfold cellsFrom at e1 e2;split at e1
  ·rename_i hk;rw[if_pos hk] at e2
   have look:∀x c,((name,k)::acc).lookup x=some c->(x=name/\c=k)\/acc.lookup x=some c:=fun x c e=>by
    rw[zC6] at e
    cases hb:x == name with
    | true=>rw[hb] at e;cases e;exact .inl ⟨beq_iff_eq.mp hb,rfl⟩
    | false=>rw[hb] at e;exact .inr e
   refine Op r (k+1) _ (fun x y c h1 h2=>?_) (fun x c h=>?_) x y c e1 e2
   ·rcases look x c h1 with⟨a,b⟩|a<;>rcases look y c h2 with⟨a',b'⟩|a'
    ·rw[a,a']
    ·have:=hl y c a';rw[b] at this;exact absurd this (zBM _)
    ·have:=hl x c a;rw[b'] at this;exact absurd this (zBM _)
    ·exact hi x y c a a'
   ·rcases look x c h with⟨_,b⟩|a
    ·rw[b];exact zB4 _
    ·exact zA1 (hl x c a)
  ·rename_i hk;rw[if_neg hk] at e2;exact Op r k acc hi hl x y c e1 e2
theorem Nr:∀(names:List (Str×NameKind))(k:Nat)(acc:List (Str×Addr))(x:Str),(names.any fun p=>p.1 == x && p.2 == .cell)=true\/(∃c,acc.lookup x=some c)->∃c,(cellsFrom k names acc).lookup x=some c
 | [],_,_,_,h=>by
  rcases h with z | z
  ·cases z
  ·exact z
 | (name,kind)::r,k,acc,x,h=>by
  unfold cellsFrom;by_cases hk:(kind == NameKind.cell)=true
  ·rw[if_pos hk];refine Nr r (k+1) _ x ?_;rw[zC6]
   cases hb:x == name with
   | true=>exact .inr ⟨_,rfl⟩
   | false=>
    rcases h with z | z
    ·rw[zBS,zBF] at z;rcases z with z | z
     ·rw[zAU] at z;have:x == name:=by rw[beq_iff_eq];exact (beq_iff_eq.mp z.1).symm
      rw[hb] at this;cases this
     ·exact .inl z
    ·exact .inr z
  ·rw[if_neg hk];refine Nr r k acc x ?_;rcases h with z | z
   ·rw[zBS,zBF] at z;rcases z with z | z
    ·rw[zAU] at z;exact absurd z.2 hk
    ·exact .inl z
   ·exact .inr z
theorem Ru(h:Q (newEnv scope s.heap.objs.size globals (cellsFrom %[|40] scope.names cl) bv none .none (some env) builtinsNs) { s with heap:=pushCells (s.heap.push { cls:=.type "dict",data:=.dict #[] }) scope.names }):
  wpAny M A (newFunctionEnv scope globals cl [] bv none .none (some env)) Q E s:=by
 simp only[newFunctionEnv,Option.isSome_some,if_true];refine wpAny_bind (wpAny_alloc ?_);refine wpAny_bind (wpAny_layCells _ (fun name kind cells=>by cases hkc:kind == NameKind.cell<;>simp[hkc]) _ _ _ _ ?_);rw[show ({ s with heap:=s.heap.push { cls:=.type "dict",data:=.dict #[] } }:Shared).heap.objs.size=s.heap.objs.size+1 from zAT ..];exact wpAny_bind (wpAny_pure (wpAny_pure h))
def Cx.cmk(X:Cx)(N:List Str)(scope:Scope)(cl:List (Str×Addr))(c:CC):Cx:=
 { X with N:=N,s₀:=c.s,H₀:=c.H,env:=compEnvC scope (cellsFrom (c.s.heap.objs.size+1) scope.names cl) c.s.heap.objs.size X.env,outer:=X.stack,ex:=c.fp,fn:=fun x=>(scope.names.any fun p=>p.1 == x && p.2 == .cell) && !(cl.any fun p=>p.1 == x),pn:=[] }
section
variable {X:Cx}{N:List Str}{scope:Scope}{cl:List (Str×Addr)}{js:List (%[|30])}{pins:%[|14]}{σ:St}{H:Hp}{s:Shared}{fp:%[|6]}
theorem Inv.cmk(I:%[|5])(hf:∀b∈fp,CG X pins H b)(ft:∀b∈fp,b<s.heap.objs.size)(hk:scope.kind= .function)(d4:∀p∈cl,X.env.cells.lookup p.1=some p.2)(hcn:∀x,%[|71]->∃c,(cellsFrom %[|40] scope.names cl).lookup x=some c)(fU:FD X N scope js)(hsc:∀(i:Nat) (x:Str) (j:Nat),N[i]? = some x->js[i]? = some (some j)->∀k,(cellsFrom k scope.names cl).lookup x=cl.lookup x)(hl:js.length=N.length)(e:h'=pushCells (s.heap.push { cls:=.type "dict",data:=.dict #[] }) scope.names):
  Inv (X.cmk N scope cl ⟨s,H,fp⟩) [] (sub js σ) H { s with heap:=h',toks:=t' }:=by
 have bI:∀x c,cl.lookup x=some c->X.env.cells.lookup x=some c:=fun x c e=>d4 (x,c) (zAZ e)
 have cC:∀b o,s.heap.get? b=some o->h'.get? b=some o:=fun b o q=>by rw[e];exact pushCells_keeps _ _ b o (Heap.get?_push_of_some _ q)
 have clt:∀x c,cl.lookup x=some c->c<s.heap.objs.size:=fun x c q=>by
  obtain⟨v,o,ho,_⟩:=I.cell x c (bI x c q);exact zAE ho
 have hc:∀x c,(cellsFrom %[|40] scope.names cl).lookup x=some c->cl.lookup x=some c\/(s.heap.objs.size+1<=c/\h'.IsCell c none):=fun x c q=>by
  have q':(cellsFrom (s.heap.push { cls:=.type "dict",data:=.dict #[] }).objs.size scope.names cl).lookup x=some c:=by rw[zAT];exact q
  have:=KP _ _ _ x c q';rw[zAT] at this;rw[e];exact this
 have hL:h'.Ns s.heap.objs.size (fun _=>none):=by
  rw[e];exact (Heap.Ns.new s.heap (.type "dict")).keeps (pushCells_keeps _ _)
 refine⟨⟨I.ok.mod,?_,I.ok.glob,I.ok.blt,zAB _,?_,fun x hx=>hcn x hx,fun x c hx q=>?_,I.ok.hd,I.ok.frames,.inl rfl,fun b hb=>⟨zAI (ft b hb),fun x c q=>?_⟩,
   I.bs,zAD I.ok.bsz I.sz,fun b o q hb=>?_,fun b hb hs=>?_,I.stack,I.stkFree⟩,rfl,I.bare,Un.kept cC,⟨_,hL,fun i x v e1 e2 e3=>?_⟩,fun x c q=>?_,I.hok.fresh (zAB _),fun x c q=>?_,fun p hp=>?_,I.hok.kept cC,?_⟩
 ·show (relabel scope X.env).kind= .function;exact hk
 ·refine Op scope.names %[|40] cl (fun x y c h1 h2=>I.ok.inj x y c (bI x c h1) (bI y c h2)) fun x c q=>zA1 (clt x c q)
 ·have hx':((scope.names.any fun p=>p.1 == x && p.2 == .cell) && !(cl.any fun p=>p.1 == x))=true:=hx;rw[zAU] at hx';rcases hc x c q with z | ⟨z,_⟩
  ·have hm:(cl.any fun p=>p.1 == x)=true:=List.any_eq_true.mpr ⟨(x,c),zAZ z,by simp⟩;rw[hm] at hx';cases hx'.2
  ·exact zAD (zBA _) z
 ·rcases hc x c q with z | ⟨z,_⟩
  ·exact (hf b hb).2.2.2.2.1 x c (bI x c z)
  ·exact zBN (zAM (ft b hb) (zAD (zBA _) z))
 ·rcases (hf b hb).2.2.2.1 with z | z
  ·exact I.ok.noex b o q z
  ·exact absurd (zAM (zAE (I.ok.bs b o q).1) z) (zBM _)
 ·rcases List.mem_cons.mp (I.stkSub b hs) with z | z
  ·exact (hf b hb).2.1 z
  ·exact (hf b hb).2.2.1 z
 ·have dR:(sub js σ)[i]? = some (some v):=e2;unfold sub at dR;rw[List.getElem?_map] at dR
  cases ej:js[i]? with
  | none=>rw[ej] at dR;cases dR
  | some o=>
   rw[ej] at dR
   cases o with
   | none=>cases dR
   | some j=>
    obtain⟨a1,a2,a3⟩:=fU i x j e1 ej;have e4:(σ[j]?).join=some v:=zAK dR
    have e5:σ[j]? = some (some v):=by
     cases q:σ[j]? with
     | none=>rw[q] at e4;cases e4
     | some o=>
      rw[q] at e4;have:o=some v:=e4;rw[this]
    obtain⟨m,hn,hloc⟩:=I.loc;obtain⟨u,r,l⟩:=hloc j x v a1 e5 (.inr (.inl a2));refine⟨u,r,.inr ⟨.inl a3,?_⟩⟩;obtain⟨c,hc1⟩:=hcn x (.inl a3);have iu:cl.lookup x=some c:=by rw[<-hsc i x j e1 ej %[|40]];exact hc1
    refine⟨c,hc1,?_⟩;rcases l with⟨k,_⟩|⟨_,c',hc',bR⟩
    ·rw[k] at a2;cases a2
    ·have:c'=c:=by
      have:=bI x c iu;rw[hc'] at this;exact zAK this
     subst this;obtain⟨o,ho,hd⟩:=bR;exact⟨o,cC _ _ ho,hd⟩
 ·rcases hc x c q with z | ⟨_,z⟩
  ·obtain⟨v,o,ho,hd⟩:=I.cell x c (bI x c z);exact⟨v,o,cC _ _ ho,hd⟩
  ·exact⟨none,z⟩
 ·rcases hc x c q with z | ⟨z,_⟩
  ·exact I.freeC x c (bI x c z)
  ·exact I.hok.fresh (zAD (zBA _) z)
 ·exact absurd (show p∈([]:%[|14]) from hp) %[|2]
 ·unfold sub;rw[List.length_map];exact hl
theorem Inv.uncmk(I:%[|5])(hf:∀b∈fp,CG X pins H b)(J:Inv (X.cmk N scope cl ⟨s,H,fp⟩) [] σ' H' s')(cQ:Heap.SameBut s.heap.objs.size s'.heap fu):
  Inv X pins σ H' { s' with heap:=fu }:=by
 have u:Un (Hv X.stack) fp H H' s.heap s'.heap:=J.base;have ne:∀b o,s.heap.get? b=some o->b≠s.heap.objs.size:=fun b o e=>zAI (zAE e)
 have cM:H' s.heap.objs.size=none:=J.free;exists 27
 ·obtain⟨sl,e1⟩:=u.slot b o e n hb hx;exact⟨sl,(cQ.2 b (ne b o e)).trans e1⟩
 ·obtain⟨o',e1⟩:=u.there b o e hx;exact⟨o',(cQ.2 b (ne b o e)).trans e1⟩
 ·refine (J.hok b ob e).stay (fun c w' hc q=>(cQ.2 c ?_).trans q) (fun _ q=>q) fun _ _ q=>q
  rintro rfl;rcases hc with z | z
  ·rw[<-z,cM] at e;cases e
  ·rw[cM] at z;cases z
end
structure A1U(X:Cx)(N:List Str)(scope:Scope)(cl:List (Str×Addr))(js:List (%[|30])):Prop where
 clos:closureFor scope X.env=pure cl
 kind:scope.kind= .function
 loc:(scope.names.all fun x=>x.2 != .local || scope.names.lookup x.1 == some .local)=true
 ccl:∀p∈cl,X.env.cells.lookup p.1=some p.2
 cn:((relabel scope X.env).names.all fun p=>!(p.2 == .cell || p.2 == .free) || (scope.names.any fun q=>q.1 == p.1 && q.2 == .cell) || (cl.lookup p.1).isSome)=true
 sh:((N.zip js).all fun p=>match p.2 with | none=>true | some j=>X.N[j]? == some p.1 && X.env.kindOf p.1 == some .cell && (relabel scope X.env).names.lookup p.1 == some .cell && !(scope.names.any fun q=>q.1 == p.1 && q.2 == .cell))=true
 len:js.length=N.length
theorem Ix:∀(names:List (Str×NameKind))(k:Nat)(acc:List (Str×Addr))(x:Str),(names.any fun q=>q.1 == x && q.2 == .cell)=false->(cellsFrom k names acc).lookup x=acc.lookup x
 | [],_,_,_,_=>rfl
 | (name,kind)::r,k,acc,x,h=>by
  rw[zBS,Bool.or_eq_false_iff] at h;unfold cellsFrom;by_cases hk:(kind == NameKind.cell)=true
  ·rw[if_pos hk,Ix r (k+1) _ x h.2,zC6]
   have:(x == name)=false:=by
    have h1:=h.1;rw[hk,Bool.and_true] at h1;have:name≠x:=fun e=>by rw[e] at h1;simp at h1
    exact beq_false_of_ne (zB this)
   rw[this]
  ·rw[if_neg hk,Ix r k acc x h.2]
section
variable {X:Cx}{N:List Str}{scope:Scope}{cl:List (Str×Addr)}{js:List (%[|30])}
theorem A1U.names(h:A1U X N scope cl js):∀x∈scope.names,x.2= .local->scope.names.lookup x.1=some .local:=fun x hx e=>by
 have q:=(List.all_eq_true.mp h.loc) x hx;rw[e] at q
 simpa using q
theorem A1U.hcn(h:A1U X N scope cl js)(k:Nat):∀x,%[|71]->∃c,(cellsFrom k scope.names cl).lookup x=some c:=fun x hx=>by
 refine Nr _ _ _ _ ?_;rcases hx with e | e
 ·have q:=(List.all_eq_true.mp h.cn) _ (zAZ e);simp only[zBF] at q;rcases q with (q | q) | q
  ·simp at q
  ·exact .inl q
  ·exact .inr (Option.isSome_iff_exists.mp q)
 ·have q:=(List.all_eq_true.mp h.cn) _ (zAZ e);simp only[zBF] at q;rcases q with (q | q) | q
  ·simp at q
  ·exact .inl q
  ·exact .inr (Option.isSome_iff_exists.mp q)
theorem A1U.mem(h:A1U X N scope cl js){i:Nat}{x:Str}{j:Nat}(e1:N[i]? = some x)(e2:js[i]? = some (some j)):(X.N[j]? = some x/\X.env.kindOf x=some .cell/\(relabel scope X.env).names.lookup x=some .cell)/\(scope.names.any fun q=>q.1 == x && q.2 == .cell)=false:=by
 have hm:(x,some j)∈N.zip js:=by
  have:(N.zip js)[i]? = some (x,some j):=by rw[List.getElem?_zip_eq_some];exact⟨e1,e2⟩
  exact zAN this
 have q:=(List.all_eq_true.mp h.sh) _ hm;simp only[zAU] at q;exact⟨⟨eq_of_beq q.1.1.1,eq_of_beq q.1.1.2,eq_of_beq q.1.2⟩,by simpa using q.2⟩
variable {bu tg bg:Expr}{bt:%[|20]}{rest:List Comprehension}{pos:Pos}{wi:TI}{g:CC->TG}{tb:CC->Addr->TS}
variable {bX bi:Expr}{bw:%[|20]}{fq:CC->TI}{g1:CC->TG}{tc tc1:CC->TT}{te:CC->TE}
end
theorem OT:∀{xs:List V}{us:%[|7]},xs.length=us.length->(∀(i:Nat)(x:V)(u:Value),xs[i]? = some x->us[i]? = some u->RelV x u)->Vals xs us
 | [],[],_,_=>.nil
 | [],_::_,h,_=>by cases h
 | _::_,[],h,_=>by cases h
 | x::xs,u::us,h,f=>.cons (f 0 x u rfl rfl) (OT (Nat.succ.inj h) fun i y v hy hv=>f (i+1) y v (by simpa using hy) (by simpa using hv))
theorem JL{α:Type}(bs:List α)(d:α):(List.range bs.length).map (fun i=>bs.getD i d)=bs:=by
 refine zC5 %[|2] fun n h1 h2=>?_
 simp[List.getD,h2]
theorem Re(bs:List Bool):(List.range bs.length).any (fun i=>bs.getD i false)=bs.any id:=by
 have:=JL bs false
 conv=>rhs;rw[<-this]
 rw[zDN];rfl
theorem P7(bs:List Bool):(List.range bs.length).all (fun i=>bs.getD i false)=bs.all id:=by
 have:=JL bs false
 conv=>rhs;rw[<-this]
 rw[zDB];rfl
theorem Ll{bs:List Bool}{its:%[|7]}(rv:Vals (bs.map V.bl) its):TruthOf prog w A (fun i v=>its.toArray[i]? = some v) (fun i=>bs.getD i false):=by
 intro i v s Q E hv q;have hv':its[i]? = some v:=by simpa using hv
 have hi:i<bs.length:=by
  have h1:=(List.getElem?_eq_some_iff.mp hv').1;have:=rv.length;rw[List.length_map] at this;omega
 have hx:(bs.map V.bl)[i]? = some (.bl bs[i]):=by rw[List.getElem?_map,List.getElem?_eq_getElem hi];rfl
 obtain⟨u,hu,ru⟩:=rv.get hx;rw[hv'] at hu;cases hu;cases (show v=Value.bool bs[i] from ru);refine wpAny_truthy_bool ?_;have e:bs.getD i false=bs[i]:=by simp[List.getD,hi]
 rw[<-e];exact q
section
variable {X:Cx}
inductive GG(xs:List V)(H:Hp)(Q:VK):Prop where
 | mk (j:Int) (_:xs=[.int j]) (_:∀r,H r=none->Q (.ref r) (upd H r (.rng 0 j))):GG xs H Q
theorem FU:Ce X (.type "range") (GG):=by
 exists 7;obtain⟨j,rfl,q⟩:=h;obtain⟨u,rfl,ru⟩:=CT r;obtain⟨t,rfl⟩:=ru;refine call_range_1 ⟨.ref s.heap.objs.size,_,I.laid (o:=.rng 0 j) (fun b ob e=>Heap.get?_push_of_some _ e) (zAB _) ?_,rfl,q _ (I.hok.fresh (zAB _))⟩;exact⟨_,_,_,Heap.get?_push_size _ rfl⟩
def C4(n:Nat):List Int:=(List.range n).map fun(k:Nat)=>(k:Int)
inductive Fk(xs:List V)(H:Hp)(Q:VK):Prop where
 | mk (r:Addr) (n:Nat) (_:xs=[.ref r]) (_:H r=some (.rng 0 (n:Int))) (_:n<=1000) (_:∀l,H l=none->Q (.ref l) (upd H l (.lst ((C4 n).map V.int)))):Fk xs H Q
theorem Id(hc:X.calm=true):Ce X (.type "list") (Fk):=by
 exists 7;obtain⟨rr,n,rfl,hr,hn,q⟩:=h;obtain⟨u,rfl,ru⟩:=CT r;cases ru;obtain⟨t,u,v,ho⟩:=(show A0O X.prog X.w H s.heap rr (.rng 0 (n:Int)) from I.hok rr _ hr);have hsz:Builtin.Range.rangeSize 0 (n:Int) 1=n:=by rw[rangeSize_one];split<;>omega
 refine call_list_range (n:=n) (I.ok.hd hc) ho (small_one %[|1] %[|1] %[|1] %[|1]) hsz %[|1] fun h' tk acc c kk hl hi=>?_
 have lo:s.heap.objs.size<=s.heap.objs.size:=zAB _
 have hv:Vals ((C4 n).map V.int) acc.toList:=by
  have gS:acc.toList.length=n:=by rw[zAJ,hi.1]
  refine OT (by unfold C4;simp[gS]) fun i x u hx hu=>?_
  have dL:i<n:=by
   have:=(List.getElem?_eq_some_iff.mp hu).1;omega
  obtain⟨t,e⟩:=hi.2 i u (by simpa using hu)
  have ex:x= .int (i:Int):=by
   unfold C4 at hx;rw[zBJ,List.getElem?_map,List.getElem?_range dL] at hx;exact (zAK hx).symm
  subst ex;refine⟨t,?_⟩;rw[e]
  congr 1
  omega
 refine⟨.ref s.heap.objs.size,_,I.laid (t':=tk) (o:=.lst ((C4 n).map V.int)) kk lo ?_,rfl,q _ (I.hok.fresh lo)⟩;refine⟨?_,acc.toList,c,hv,by rw[hl,Array.toArray_toList]⟩;unfold C4;rw[List.length_map,List.length_map,zCC];exact zAD hn %[|0]
inductive Gj(K:PySem.W.Frag)(xs:List V)(H:Hp)(Q:VK):Prop where
 | mk (l:Addr) (bs:List Bool) (_:xs=[.ref l]) (_:SqL K H l (bs.map V.bl)) (_:Q (.bl (bs.any id)) H):Gj K xs H Q
theorem Jo(hc:X.calm=true):Ce X (.builtin "any") (Gj X.K):=by
 exists 7;obtain⟨l,bs,rfl,hq,q⟩:=h;obtain⟨u,rfl,ru⟩:=CT r;cases ru;obtain⟨its,rv,pl,hz⟩:=I.list hq;have bL:l<s.heap.objs.size:=let ⟨o,ho,_⟩:=pl.isList;zAE ho
 have bo:its.length=bs.length:=by rw[<-rv.length,List.length_map]
 refine call_any_walk %[|84];have e:(List.range its.toArray.size).any (fun i=>bs.getD i false)=bs.any id:=by rw[zAH,bo,Re]
 rw[e];exact⟨.bl _,H,I.kept (t':=tk) fun b ob eb=>kk b ob (by simp only[zBV];exact zAI (zAE eb)) (Heap.get?_push_of_some _ eb),rfl,q⟩
inductive Gr(K:PySem.W.Frag)(xs:List V)(H:Hp)(Q:VK):Prop where
 | mk (l:Addr) (bs:List Bool) (_:xs=[.ref l]) (_:SqL K H l (bs.map V.bl)) (_:Q (.bl (bs.all id)) H):Gr K xs H Q
theorem Eo(hc:X.calm=true):Ce X (.builtin "all") (Gr X.K):=by
 exists 7;obtain⟨l,bs,rfl,hq,q⟩:=h;obtain⟨u,rfl,ru⟩:=CT r;cases ru;obtain⟨its,rv,pl,hz⟩:=I.list hq;have bL:l<s.heap.objs.size:=let ⟨o,ho,_⟩:=pl.isList;zAE ho
 have bo:its.length=bs.length:=by rw[<-rv.length,List.length_map]
 refine call_all_walk %[|84];have e:(List.range its.toArray.size).all (fun i=>bs.getD i false)=bs.all id:=by rw[zAH,bo,P7]
 rw[e];exact⟨.bl _,H,I.kept (t':=tk) fun b ob eb=>kk b ob (by simp only[zBV];exact zAI (zAE eb)) (Heap.get?_push_of_some _ eb),rfl,q⟩
end
section
variable {prog:Program}{w:World}{A:Around}{R:Result->Shared->Prop}{I:Addr}{fp wr:%[|6]}{G:Array GenState->Array GenState->Prop}{n:Nat}{P:Nat->Value->Prop}{St:Nat->Shared->Prop}
theorem R9(W:WalksS prog w A.in1 I fp wr G n P St)(S:Addr)(hSf:S∉fp)(val:Nat->Int)(hval:∀i v,P i v->∃t,v= .int (val i) t)(hb:n<1000):
  ∀k i s ks,n-i=k->i<=n->St i s->A0G w s.heap S ks->(∀j,j∈ks↔∃m,m<i/\val m=j)->ks.length<=i->
   (∀s' ci,Moved (S::wr) G s s'->A0G w s'.heap S ci->(∀j,j∈ci↔∃m,m<n/\val m=j)->ci.length<=n->R (.ok (.ret .none)) s')->
   codeAny %[|29] A (.builtin "set.update.loop" ⟨[.ref S,.ref I],[]⟩) R s:=by
 have hSw:S∉wr:=fun h=>hSf (W.sub _ h)
 have gB:∀b∈wr,b∈S::wr:=fun b hb=>List.mem_cons_of_mem _ hb
 intro k
 induction k with
 | zero=>
  intro i s ks hk hi bW hS fA d5 hR;have dL:i=n:=by omega
  subst dL;refine codeAny_builtin F.entry_set_update_loop ?_;rw[zCD zCT _];show wpAny _ A.in1 (pyNext (.ref I) >>= _) _ _ s;refine wpAny_bind (W.done s _ _ bW fun s' hm=>?_);show wpAny _ A.in1 (ret Value.none) _ _ s';exact wpAny_pure (hR s' ks (hm.mono gB) (hS.keep fun o e=>hm.heap S _ hSw e) fA d5)
 | succ k ih=>
  intro i s ks hk hi bW hS fA d5 hR;have bL:i<n:=by omega
  refine codeAny_builtin F.entry_set_update_loop ?_;rw[zCD zCT _];show wpAny _ A.in1 (pyNext (.ref I) >>= _) _ _ s;refine wpAny_bind (W.item i s _ _ bL bW fun v s' hP hst' hm=>?_);obtain⟨t,rfl⟩:=hval i v hP;have bZ:A0G w s'.heap S ks:=hS.keep fun o e=>hm.heap S _ hSw e
  show wpAny _ A.in1 (holding [Value.int (val i) t] (setAdd S (.int (val i) t)) >>= _) _ _ s';refine wpAny_bind (wpAny_holding ?_);unfold setAdd;refine wpAny_holding ?_;refine wpAny_bind ((intKind prog w).pyHash (k:=val i) (intKind_is _ _ _ _) ?_);refine Ho (s:={ s' with toks:=s'.toks+1 }) bZ %[|1] fun h' ci cQ dX bT bM=>?_
  refine wpAny_pure ⟨plainId_quiet zCT _,ih (i+1) _ ci %[|1] bL (W.frame _ s' _ _ hst' (zBA _) fun b hb o e=>?_) dX (fun j=>?_) %[|1] fun s'' ks'' hm'' hS'' hmm hll=>?_⟩
  ·rw[cQ.2 b (fun h:b=S=>hSf (by rw[<-h];exact hb))];exact e
  ·rw[bT j,fA j];constructor
   ·rintro (⟨m,h1,h2⟩|h)
    ·exact⟨m,zA1 h1,h2⟩
    ·exact⟨i,zB4 _,h.symm⟩
   ·rintro⟨m,h1,h2⟩;rcases Nat.lt_succ_iff_lt_or_eq.mp h1 with z | z
    ·exact .inl ⟨m,z,h2⟩
    ·subst z;exact .inr h2.symm
  ·refine hR s'' ks'' (Moved.trans W.gtrans ((hm.mono gB).then_heap (zBA _) fun b o hb e=>?_) hm'') hS'' hmm hll;rw[cQ.2 b (fun h:b=S=>hb (by rw[h];exact List.mem_cons_self))];exact e
end
section
variable {prog:Program}{w:World}{A:Around}{E:Value->Shared->Prop}{s:Shared}
set_option maxHeartbeats 3200000 in
theorem QM(hh:A.handled=none)(hl:s.heap.IsList l bh)(hi:IntsAre bh.toList ns)(hb:bh.size<1000)(h:∀(h':Heap) (tk:Nat) (ks:List Int),A0G w h' s.heap.objs.size ks->(∀j,j∈ks↔j∈ns)->ks.length<=ns.length->
   (∀b o,s.heap.get? b=some o->h'.get? b=some o)->Q %[|46] { s with heap:=h',toks:=tk }):
  wpAny %[|29] A (call (.type "set") [.ref l]) Q E s:=by
 have bo:ns.length=bh.size:=by rw[<-zAJ];exact (IntsAre.length hi).symm
 obtain⟨c,tl,hmro⟩:=F.called_set.mro;have hmade:=F.called_set.made;have gB:=F.called_set.sub;refine wpAny_call (codeAny_of_tree ?_);show wpAny _ _ (callAny (.type "set") _) _ _ _;refine wpAny_pure ⟨zCQ _ %[|31],codeAny_builtin F.entry_type_call ?_⟩;rw[Around.under_plain (weight_type_call_type "set" [.ref l] []) rfl];have h1:=F.called_set.notType;have h2:=F.called_set.canCreate;have hct:=F.typeCall_set_1 (.ref l);exists 18;refine codeAny_mono (LH (E:=E) (.inr ⟨.ref l,rfl⟩) (Q₁:=fun obj s₁=>obj= .ref s.heap.objs.size/\s₁={ s with heap:=s.heap.push (Br w) }) ⟨rfl,rfl⟩) fun r s₁ hr=>?_
 cases r with
 | error e=>exact hr
 | ok fl=>
  cases fl with
  | ret obj=>
   obtain⟨rfl,rfl⟩:=hr;have hS:%[|50].get? s.heap.objs.size=some (Br w):=Heap.get?_push_size _ rfl;have hT:Shared.TypeIs { s with heap:=s.heap.push (Br w) } %[|46] "set":=⟨_,hS,rfl⟩;have hli:=F.called_set.init.lookup;have gP:=F.called_set.init.bind %[|46];exists 18
   refine codeAny_mono (codeAny_call_builtin (R:=wants (fun r s₂=>r= .none/\∃h' tk ks,s₂={ s with heap:=h',toks:=tk }/\A0G w h' s.heap.objs.size ks/\(∀j,j∈ks↔j∈ns)/\ks.length<=ns.length/\
     (∀b o,s.heap.get? b=some o->h'.get? b=some o)) E) F.called_set.init.plain F.entry_set_init (check_set_init_1 hT ?_)) fun r₂ s₂ hr₂=>?_
   ·obtain⟨ol,fB,d4,nl,gC⟩:=hl;obtain⟨ocls,odict,odata,oslots⟩:=ol;simp only at d4 gC;subst d4;subst gC;have hol':%[|50].get? l=some { cls:=.type "list",dict:=odict,data:=.seq bh nl,slots:=oslots }:=Heap.get?_push_of_some _ fB;have hsls:=F.sub_list_set;have hslf:=F.sub_list_frozenset;have bx:(Value.type "list" == Value.type "dict")=false:=by decide
    have cx:%[|50].IsList l bh:=⟨_,hol',rfl,nl,rfl⟩;unfold Builtin.«set.__init__» noKeywords Builtin.Frozenset.updateFrom;generalize hPI:pyIter=PI
    wp_walk
    subst hPI;refine wpAny_pyIter_list cx ?_;refine wpAny_bind (wpAny_runValue ?_);have hlS:l<s.heap.objs.size:=zAE fB;have hh3:A.in1.in1.in1.handled=none:=by simp[hh]
    have hneI:l≠%[|50].objs.size:=by
     rw[zAT];exact zAI (zA1 hlS)
    have hSf:s.heap.objs.size∉[%[|50].objs.size,l]:=by
     rw[zAT];simp only[zAC,zBV,zAA,or_false,not_or];exact⟨zAI (zB4 _),zBN hlS⟩
    have hval:∀(i:Nat)(v:Value),bh[i]? = some v->∃t,v= .int ((fun i=>ns.getD i 0) i) t:=fun i v hv=>
     IntsAre.int_at hi i v (by rw[Array.getElem?_toList];exact hv)
    refine R9 ((Walks.list hh3 _ l hneI bh).toS) s.heap.objs.size
     hSf (fun i=>ns.getD i 0) hval hb (bh.size-0) 0 _ [] %[|1] (zA5 _)
     ⟨⟨_,Heap.get?_push_size _ rfl,rfl,rfl⟩,(cx.push _)⟩ ?hS0 (fun j=>by simp) (zAB _) ?hR
    case hS0=>exact A1X.keep fun o e=>Heap.get?_push_of_some _ e
    case hR=>
     intro s' ks hm bZ hmm hll;obtain⟨h',g',d',tk',os'⟩:=s';have eg:g'=s.gens:=hm.gens;have ed:d'=s.drawn:=hm.drawn;have eo:os'=s.os:=hm.os;subst eg;subst ed;subst eo;show wpAny _ _ _ _ _ _;exists 6;show wpAny _ _ (ret Value.none) _ _ _;refine wpAny_pure ⟨rfl,h',tk',ks,rfl,bZ,fun j=>?_,by omega,fun b o e=>?_⟩
     ·rw[hmm j,<-bo,List.mem_iff_getElem];constructor
      ·rintro⟨m,hm,e⟩;exact⟨m,hm,by rw[<-e,List.getD_eq_getElem?_getD,List.getElem?_eq_getElem hm];rfl⟩
      ·rintro⟨m,hm,e⟩;exact⟨m,hm,by rw[<-e,List.getD_eq_getElem?_getD,List.getElem?_eq_getElem hm];rfl⟩
     ·have hb:=zAE e;have cw:b≠s.heap.objs.size:=zAI hb
      have cR:b≠%[|50].objs.size:=by
       rw[zAT];exact zAI (zA1 hb)
      exact hm.heap b o (by simp only[zAC,zBV,zAA,or_false,not_or];exact⟨cw,cR⟩) %[|78]
   ·cases r₂ with
    | error e=>exact hr₂
    | ok fl₂=>
     cases fl₂ with
     | ret r=>
      obtain⟨rfl,h',tk,ks,rfl,bZ,dg,dA,hk'⟩:=hr₂;exists 18;exact h _ _ _ bZ dg dA hk'
     | _=>exact hr₂.elim
  | _=>exact hr.elim
end
section
variable {prog:Program}{w:World}{A:Around}{E:Value->Shared->Prop}{s:Shared}{a:Addr}{ks:List Int}{k:Int}{tk:Tok}
theorem II(hS:%[|41] a ks)(h:∀r:%[|30],r.isSome=decide (k∈ks)->(∀i,r=some i->ks[i]? = some k)->Q r s):
  wpAny %[|29] A (setFind a (.int k tk) (hashInt k)) Q E s:=by
 obtain⟨o,es,ep,t,ho,dq,hd,hg,hk,nd,hl,ok,hf⟩:=hS;have hsz:=Du hk;have gr:(intKind prog w).is k (.int k tk)=true:=intKind_is _ _ _ _;unfold setFind setFindIn;exists 13;dsimp only;rw[byScan_of (knd:=intKind prog w) rfl (by rw[hsz];exact CY hl) hg.elems];simp only[↓reduceIte];refine wpAny_bind (wpAny_rule ?_);refine wpAny_bind (wpAny_setScan_of (knd:=intKind prog w) gr ho hd hf hg.elems ?_)
 cases hr:List.findIdx? (fun e=>(intKind prog w).is k e.2) es.toList with
 | none=>
  dsimp only
  have bJ:k∉ks:=fun z=>by
   rw[<-hk] at z;obtain⟨e,he,rfl⟩:=List.mem_map.mp z;have:=List.findIdx?_eq_none_iff.mp hr e he;rw[(hg.is he).mpr rfl] at this;cases this
  exact wpAny_pure (h none (by rw[decide_eq_false bJ];rfl) fun i e=>by cases e)
 | some j=>
  dsimp only;obtain⟨hj,hpj,_⟩:=List.findIdx?_eq_some_iff_getElem.mp hr;have e1:Ba es.toList[j]=k:=((hg.is (zCF hj)).mp hpj).symm
  have bJ:k∈ks:=by
   rw[<-hk,<-e1];exact zA9 (zCF hj)
  refine wpAny_pure (h (some (0+j)) (by rw[decide_eq_true bJ];rfl) fun i e=>?_);have e':j=i:=by injection e with e;omega
  subst e';rw[<-hk,List.getElem?_map,List.getElem?_eq_getElem hj,<-e1];rfl
theorem JM(hl:∀b∈l,∃kb,%[|41] b kb)(h:Q true s):%[|27] (setsQuiet l) Q E s:=by
 unfold setsQuiet;exists 2;refine wpAny_forIn_list _ (fun rest r s'=>r.1=none/\s'=s/\∀b∈rest,∃kb,%[|41] b kb) _ ?_ ?_ _ _ ⟨rfl,rfl,hl⟩
 ·rintro b rest r s' ⟨hr,rfl,hall⟩;obtain⟨kb,o,es,ep,t,ho,dq,hd,hg,hk,nd,hl,ok,hf⟩:=hall b List.mem_cons_self;unfold setEntries;refine wpAny_bind (wpAny_bind (wpAny_setState_of ho hd hf %[|38]));exists 2;refine wpAny_forIn_array' _ (fun iV r' s''=>r'.1=none/\s''=s'/\A0V iV) _ ?_ ?_ _ _ ⟨rfl,rfl,hg⟩
  ·rintro⟨hh,x⟩ iV r' s' ⟨d7,rfl,g⟩;obtain⟨_,t',e⟩:=g _ List.mem_cons_self;have e':x= .int (Ba (hh,x)) t':=e;rw[e'];exact wpAny_pure ⟨rfl,rfl,fun y hy=>g y (List.mem_cons_of_mem _ hy)⟩
  ·rintro⟨r1,r2⟩ s' ⟨d7,rfl,_⟩;simp only at d7;subst d7;exact wpAny_pure ⟨rfl,rfl,fun c hc=>hall c (List.mem_cons_of_mem _ hc)⟩
 ·rintro⟨r1,r2⟩ s' ⟨hr,rfl,_⟩;simp only at hr;subst hr;exact wpAny_pure h
theorem Lq(ho:s.heap.get? a=some o)(hd:o.data= .set es ep t)(ok:Go (B5 w) t)(hf:t.fits es.size=true)(hc:(B5 w || (t.led && t.plain) || decide (es.size<=1))=true)(h:∀bE:Array (Int×Value),bE.toList.Perm es.toList->Q bE s):%[|27] (setWalk a) Q E s:=by
 unfold setWalk setsByText;exists 13;dsimp only;exists 16;show wpAny _ _ (if B5 w=true then _ else _) _ _ _
 cases hb:B5 w with
 | true=>
  rw[if_pos rfl];refine wpAny_bind (wpAny_askSetting ?_);exact wpAny_pure (h _ (DW _ _))
 | false=>
  rw[if_neg zAF]
  have hn:(!t.plain && decide (es.size>1))=false:=by
   rw[hb,Bool.false_or] at hc
   cases hp:t.plain with
   | true=>rfl
   | false=>
    rw[hp,Bool.and_false,Bool.false_or] at hc;have:=of_decide_eq_true hc;simp;omega
  show wpAny _ _ (if (!t.plain && decide (es.size>1))=true then _ else _) _ _ _;rw[hn,if_neg zAF];exists 2;show wpAny _ _ (if (!t.led && decide (es.size>1))=true then _ else _) _ _ _;rw[ok.led,hb,if_neg %[|2]];exact wpAny_pure (wpAny_pure (h es (zBR _)))
theorem JJ{kf:List Int}(hS:%[|41] a ks)(hF:A0G w s.heap f kf)(hO:∀b∈dj,∃kb,%[|41] b kb)(h:∀(bE:Array (Int×Value)) (h':Heap),A0V bE.toList->(bE.toList.map Ba).Perm ks->Heap.SameBut f s.heap h'->A0G w h' f kf->Q bE { s with heap:=h' }):%[|27] (setWalkUnseen a dj (some f)) Q E s:=by
 obtain⟨o,es,ep,t,ho,dq,hd,hg,hk,nd,hl,ok,hf⟩:=id hS
 have stay:∀bE:Array (Int×Value),bE.toList.Perm es.toList->Q bE s:=fun bE hp=>by
  have:=h bE s.heap (fun e he=>hg e (hp.mem_iff.mp he)) (by rw[<-hk];exact hp.map Ba) (zBC _ _) hF;have e:s={ s with heap:=s.heap }:=by cases s;rfl
  rw[e];exact this
 unfold setWalkUnseen setsByText;exists 13;dsimp only;exists 16;show wpAny _ _ (if (B5 w || (t.led && t.plain) || decide (es.size<=1))=true then _ else _) _ _ _;split
 ·rename_i hc;exact Lq ho hd ok hf hc stay
 ·rename_i hc
  have hb:B5 w=false:=by
   cases q:B5 w with
   | true=>rw[q] at hc;exact absurd rfl hc
   | false=>rfl
  refine wpAny_bind (JM (fun b hb=>?_) ?_)
  ·rcases List.mem_cons.mp hb with e | e
   ·subst e;exact⟨_,hS⟩
   ·exact hO b e
  simp only[zCN,zBO,if_false];refine wpAny_bind (wpAny_rule ?_);obtain⟨of,ef,epf,tf,hof,hexf,ie,hgf,hkf,ndf,d9,okf,hff⟩:=id hF;refine wpAny_bind (wpAny_setState_of hof ie hff ?_);dsimp only;split
  ·refine wpAny_bind (wpAny_storeSet_of hof ie ?_ ?_)
   rotate_left
   exact (fits_of_scanBound (by rw[Du hkf];exact CY d9));have:=(EI (w:=w) (t':={ tf with led:=tf.led && t.led,plain:=tf.plain && t.plain }) hof hexf ie hgf (by rw[hkf];exact ndf) (by rw[Du hkf];exact d9) ⟨okf.dum,by show (tf.led && t.led)=_;rw[okf.led,ok.led,Bool.and_self],okf.up⟩ hff).2;rw[hkf] at this;exact wpAny_pure (h es _ hg (by rw[hk]) (zAS _ _ _) this)
  ·exact wpAny_pure ((stay es (zBR _)))
theorem Q8(hS:%[|41] a ks)(hO:∀b∈dj,∃kb,%[|41] b kb)(h:∀(bE:Array (Int×Value)),A0V bE.toList->(bE.toList.map Ba).Perm ks->Q bE s):%[|27] (setWalkUnseen a dj none) Q E s:=by
 obtain⟨o,es,ep,t,ho,dq,hd,hg,hk,nd,hl,ok,hf⟩:=id hS
 have stay:∀bE:Array (Int×Value),bE.toList.Perm es.toList->Q bE s:=fun bE hp=>
  h bE (fun e he=>hg e (hp.mem_iff.mp he)) (by rw[<-hk];exact hp.map Ba)
 unfold setWalkUnseen setsByText;exists 13;dsimp only;exists 16;show wpAny _ _ (if (B5 w || (t.led && t.plain) || decide (es.size<=1))=true then _ else _) _ _ _;split
 ·rename_i hc;exact Lq ho hd ok hf hc stay
 ·refine wpAny_bind (JM (fun b hb=>?_) ?_)
  ·rcases List.mem_cons.mp hb with e | e
   ·subst e;exact⟨_,hS⟩
   ·exact hO b e
  simp only[zCN,zBO,if_false];refine wpAny_bind (wpAny_rule ?_);exact wpAny_pure (stay es (zBR _))
end
namespace F
theorem entry_set_and:entryFor table "set.__and__"=some Builtin.«frozenset.__and__»:=entryFor_alias (id':="frozenset.__and__") (by kernel_rfl) rfl %[|31] (by kernel_rfl)
theorem entry_set_sub:entryFor table "set.__sub__"=some Builtin.«frozenset.__sub__»:=entryFor_alias (id':="frozenset.__sub__") (by kernel_rfl) rfl %[|31] (by kernel_rfl)
end F
section
variable {prog:Program}{w:World}{A:Around}{E:Value->Shared->Prop}{s:Shared}{a b r:Addr}{ka kb:List Int}{k:Int}{tk:Tok}
theorem Ej(hS:%[|41] a ka)(h:Q ka.length s):%[|27] (Builtin.Frozenset.sizeOf a) Q E s:=by
 obtain⟨o,es,ep,t,ho,dq,hd,hg,hk,nd,hl,ok,hf⟩:=hS;unfold Builtin.Frozenset.sizeOf setEntries;refine wpAny_bind (wpAny_bind (wpAny_setState_of ho hd hf %[|38]));rw[Du hk];exact wpAny_pure h
theorem Dn(hS:%[|41] a ka)(h:Q true s):%[|27] (Builtin.Frozenset.isAnySet (.ref a)) Q E s:=by
 unfold Builtin.Frozenset.isAnySet;show wpAny _ _ (isInstance (.ref a) (.type "set") >>= _) _ _ _;refine wpAny_bind (wpAny_isInstance hS.typeIs sub_set_self ?_);exact wpAny_pure h
theorem El(hS:%[|41] a ka)(h:Q (.type "set") s):%[|27] (Builtin.Frozenset.baseOf a) Q E s:=by
 unfold Builtin.Frozenset.baseOf;refine wpAny_bind (wpAny_isInstance hS.typeIs sub_set_self ?_);exact wpAny_pure h
theorem Ha(h:Q %[|46] { s with heap:=s.heap.push (Br w) }):%[|27] (newSet (.type "set")) Q E s:=by
 unfold newSet setsByText;exists 16;simp only[newObj];refine wpAny_bind (wpAny_alloc %[|38]);exact h
theorem Fr(ho:s.heap.get? a=some o)(hd:o.data= .set es ep t)(hf:t.fits es.size=true)(h:Q ep s):%[|27] (setEpoch a) Q E s:=by
 unfold setEpoch;exact wpAny_bind (wpAny_setState_of ho hd hf (wpAny_pure h))
theorem Dw{id:String}(ho:s.heap.get? a=some o)(hd:o.data= .set es ep t)(hf:t.fits es.size=true)(h:Q () s):%[|27] (Builtin.Frozenset.unchanged id a ep) Q E s:=by
 unfold Builtin.Frozenset.unchanged;refine wpAny_bind (Fr ho hd hf ?_);rw[if_neg %[|2]];exact wpAny_pure h
theorem JD{body:(Int×Value)->PUnit->Sem (ForInStep PUnit)}{p:Int->Bool}{R:PUnit->Shared->Prop}{es:Array (Int×Value)}{kr:List Int}(eE:∀(k:Int) (tk:Tok) (h1:Heap) (k1:List Int) (Q':ForInStep PUnit->Shared->Prop),Heap.SameBut r s.heap h1->A0G w h1 r k1->k1.length+1<2000->
   (∀h' k2,Heap.SameBut r h1 h'->A0G w h' r k2->(∀j,j∈k2↔j∈k1\/(p k=true/\j=k))->k2.length<=k1.length+1->Q' (.yield ⟨⟩) { s with heap:=h' })->
   wpAny %[|29] A (body (hashInt k,.int k tk) ⟨⟩) Q' E { s with heap:=h1 })(hg:A0V es.toList)(hR:A0G w s.heap r kr)(hn:kr.length+es.size<1999)(h:∀h' k2,Heap.SameBut r s.heap h'->A0G w h' r k2->(∀j,j∈k2↔j∈kr\/(p j=true/\j∈es.toList.map Ba))->k2.length<=kr.length+es.size->R ⟨⟩ { s with heap:=h' }):
  wpAny %[|29] A (forIn es PUnit.unit body) R E s:=by
 refine wpAny_forIn_array' _ (fun rest _ s'=>∃h1 k1,s'={ s with heap:=h1 }/\Heap.SameBut r s.heap h1/\A0G w h1 r k1/\A0V rest/\k1.length+rest.length<=kr.length+es.size/\
  (∀j,(j∈k1\/(p j=true/\j∈rest.map Ba))↔j∈kr\/(p j=true/\j∈es.toList.map Ba))) _ ?_ ?_ _ _ ⟨s.heap,kr,by cases s;rfl,zBC _ _,hR,hg,by rw[zAJ];exact zAB _,fun j=>Iff.rfl⟩
 ·rintro⟨hh,x⟩ rest u s' ⟨h1,k1,rfl,sb,hS,g,hl,hm⟩;obtain⟨e1,t',e2⟩:=g _ List.mem_cons_self;generalize hk:Ba (hh,x)=k at e1 e2;dsimp only at e1 e2;subst e1;subst e2;rw[zAL] at hl;refine eE k t' h1 k1 _ sb hS %[|1] fun h' k2 gT dX bT bM=>?_
  refine⟨h',k2,rfl,sb.trans gT,dX,fun y hy=>g y (List.mem_cons_of_mem _ hy),by omega,fun j=>?_⟩;rw[<-hm j,bT j,zAP,zAC];constructor
  ·rintro ((z | ⟨z1,z2⟩) | ⟨z1,z2⟩)
   ·exact .inl z
   ·exact .inr ⟨by rw[z2];exact z1,.inl (by rw[hk];exact z2)⟩
   ·exact .inr ⟨z1,.inr z2⟩
  ·rintro (z | ⟨z1,z2 | z2⟩)
   ·exact .inl (.inl z)
   ·exact .inl (.inr ⟨by rw[<-hk,<-z2];exact z1,by rw[<-hk];exact z2⟩)
   ·exact .inr ⟨z1,z2⟩
 ·rintro u s' ⟨h1,k1,rfl,sb,hS,g,hl,hm⟩;refine h h1 k1 sb hS (fun j=>?_) (by simpa using hl);rw[<-hm j];simp
theorem Es{h:Heap}{o:Obj}(e:h.get? a=some o):a≠h.objs.size:=zAI (zAE e)
theorem VA(ha:%[|41] a ka)(hb:%[|41] b kb)(hab:a≠b)(hl:ka.length+kb.length<1990)(h:∀h' k2,A0G w h' s.heap.objs.size k2->(∀j,j∈k2↔j∈ka/\j∈kb)->k2.length<=ka.length+kb.length->(∀c o,s.heap.get? c=some o->h'.get? c=some o)->Q %[|46] { s with heap:=h' }):
  wpAny %[|29] A (binaryOp .BitAnd (.ref a) (.ref b)) Q E s:=by
 refine wpAny_binaryOp_same ha.typeIs hb.typeIs PySem.F.fills_set_and PySem.F.slot_set_and ?_;refine wpAny_call_entry PySem.F.slot_set_and ha.typeIs F.entry_set_and ?_ (PySem.F.args_set_and_2 _ _)
 show wpAny _ _ (do
  let (self,bj) <-Builtin.Frozenset.slot1 "__and__" ⟨[.ref a,.ref b],[]⟩
  let (l,r):=if false=true then (bj,self) else (self,bj)
  if !(<-Builtin.Frozenset.isAnySet l <&&> Builtin.Frozenset.isAnySet r) then rule s!"frozenset.{"__and__"}.declined";return <-ret .notImplemented
  ret (<-Builtin.Frozenset.intersection s!"frozenset.{"__and__"}" (<-Builtin.Frozenset.addrOf l) r)) _ _ _
 generalize s!"frozenset.{"__and__"}"=id0;generalize s!"frozenset.{"__and__"}.declined"=id1;show wpAny _ _ ((Builtin.Frozenset.isAnySet (.ref a) <&&> Builtin.Frozenset.isAnySet (.ref b)) >>= _) _ _ _;exists 2;show wpAny _ _ (Builtin.Frozenset.isAnySet (.ref a) >>= _) _ _ _;refine wpAny_bind (Dn ha ?_);show wpAny _ _ (Builtin.Frozenset.isAnySet (.ref b)) _ _ _;refine Dn hb ?_;simp only[zCN,zBO,if_false];show wpAny _ _ (Builtin.Frozenset.intersection id0 a (.ref b) >>= _) _ _ _;exists 2;unfold Builtin.Frozenset.intersection;rw[if_neg (by intro z;have:=beq_iff_eq.mp z;injection this with this;exact hab this.symm)];refine wpAny_bind (El ha (wpAny_bind (Ha ?_)));show wpAny _ _ (holding _ _ >>= _) _ _ _;refine wpAny_bind (wpAny_holding ?_);have kk:∀c o,s.heap.get? c=some o->%[|50].get? c=some o:=fun c o e=>Heap.get?_push_of_some _ e
 have fY:=ha.keep (h':=s.heap.push (Br w)) fun o e=>kk _ _ e
 have cw:=hb.keep (h':=s.heap.push (Br w)) fun o e=>kk _ _ e
 have cr:A0G w %[|50] s.heap.objs.size []:=A1X;have na:a≠s.heap.objs.size:=let ⟨o,_,_,_,ho,_⟩:=ha;Es ho
 have nb:b≠s.heap.objs.size:=let ⟨o,_,_,_,ho,_⟩:=hb;Es ho
 generalize er:s.heap.objs.size=r at *;refine wpAny_bind (Dn cw ?_);simp only[if_true];show wpAny _ _ (Builtin.Frozenset.sizeOf b >>= _) _ _ _;refine wpAny_bind (Ej cw ?_);refine wpAny_bind (Ej fY ?_)
 have hp:∃pa pw kpa kpw,(if kb.length>ka.length then (b,a) else (a,b))=(pa,pw)/\A0H w %[|50] pa kpa/\A0H w %[|50] pw kpw/\pa≠r/\pw≠r/\(∀j,j∈kpa/\j∈kpw↔j∈ka/\j∈kb)/\kpw.length<=ka.length+kb.length:=by
  by_cases z:kb.length>ka.length
  ·exact⟨b,a,kb,ka,if_pos z,cw,fY,nb,na,fun j=>and_comm,Nat.le_add_right _ _⟩
  ·exact⟨a,b,ka,kb,if_neg z,fY,cw,na,nb,fun j=>Iff.rfl,Nat.le_add_left _ _⟩
 obtain⟨pa,pw,kpa,kpw,e,hpa,hpw,npa,npw,hj,hlw⟩:=hp;rw[e];dsimp only;obtain⟨o,es,ep,t,ho,dq,hd,hg,hk,nd,iW,ok,hf⟩:=id hpw;refine wpAny_bind (Fr ho hd hf ?_);refine wpAny_bind (JJ hpw cr (fun c hc=>?_) fun bE h' hg' ck sb d7=>?_)
 ·simp only[zAC,zAA,or_false] at hc;rcases hc with rfl | rfl
  ·exact⟨_,hpa⟩
  ·exact⟨_,cr.it⟩
 have hsz:bE.size=kpw.length:=by rw[<-ck.length_eq,List.length_map,zAJ]
 refine wpAny_bind (wpAny_mono (JD (r:=r) (p:=fun j=>decide (j∈kpa)) (R:=fun _ s'=>∃h' k2,s'={ s with heap:=h' }/\Heap.SameBut r %[|50] h'/\A0G w h' r k2/\(∀j,j∈k2↔j∈ka/\j∈kb)/\k2.length<=ka.length+kb.length) ?_ hg' d7 (by rw[hsz];simp;omega) fun h2 k2 gT dX bT bM=>⟨h2,k2,rfl,sb.trans gT,dX,fun j=>?_,by rw[hsz] at bM;simp at bM;omega⟩) ?_ fun _ _ h'=>h')
 ·intro k tk h1 k1 Q' gi fX cx hQ;have hpa1:A0H w h1 pa kpa:=hpa.keep fun o e=>by rw[gi.2 _ npa,sb.2 _ npa];exact e
  exists 2;refine wpAny_holding ?_;refine wpAny_bind (II (s:={ s with heap:=h1 }) hpa1 fun rr iX _=>?_)
  have bC:∀h' k2,Heap.SameBut r h1 h'->A0G w h' r k2->(∀j,j∈k2↔j∈k1\/(decide (k∈kpa)=true/\j=k))->k2.length<=k1.length+1->wpAny %[|29] A.in1 (Builtin.Frozenset.unchanged id0 pw ep >>= fun _=>pure (ForInStep.yield PUnit.unit)) Q' E { s with heap:=h' }:=fun h' k2 fZ bZ dg dA=>by
   have fe:h'.get? pw=some o:=by rw[fZ.2 _ npw,gi.2 _ npw,sb.2 _ npw];exact ho
   exact wpAny_bind (Dw (s:={ s with heap:=h' }) fe hd hf (wpAny_pure (hQ h' k2 fZ bZ dg dA)))
  by_cases bJ:k∈kpa
  ·rw[iX,decide_eq_true bJ,if_pos rfl];refine wpAny_bind (Ho (s:={ s with heap:=h1 }) fX cx fun h' k2 fZ bZ dg dA=>wpAny_pure ?_);exact bC h' k2 fZ bZ (fun j=>by rw[dg j,decide_eq_true bJ];simp) dA
  ·rw[iX,decide_eq_false bJ,if_neg zAF];exists 6;exact bC h1 k1 (zBC _ _) fX (fun j=>by rw[decide_eq_false bJ];simp) (zBA _)
 ·rw[bT j];rw[ck.mem_iff,decide_eq_true_eq,<-hj j];simp
 ·rintro u s' ⟨h',k2,rfl,fZ,bZ,dg,dA⟩;exists 6;exists 6;refine wpAny_pure ⟨_,rfl,by simp,?_⟩
  exact h h' k2 bZ dg dA fun c o e=>by
   have:c≠r:=by rw[<-er];exact Es e
   rw[fZ.2 _ this];exact kk c o e
end
theorem LI{f g:Nat->%[|30]}:∀l:List Nat,(∀x∈l,g x=f x)->l.filterMap g=l.filterMap f
 | [],_=>rfl
 | x::l,h=>by
  have ih:=LI l fun y hy=>h y (List.mem_cons_of_mem _ hy)
  have e:=h x List.mem_cons_self
  cases q:f x with
  | none=>rw[zBK (e.trans q),zBK q,ih]
  | some v=>rw[zA8 (e.trans q),zA8 q,ih]
theorem T8{f g:Nat->%[|30]}{j k:Nat}(hf:f j=none)(hg:g j=some k)(bx:∀x,x≠j->g x=f x):∀l:List Nat,l.Nodup->j∈l->(l.filterMap g).Perm (k::l.filterMap f)
 | [],_,h=>by cases h
 | x::l,nd,h=>by
  have iY:=List.nodup_cons.mp nd;by_cases e:x=j
  ·subst e;have:l.filterMap g=l.filterMap f:=LI l fun y hy=>bx y fun z=>iY.1 (z ▸ hy)
   rw[zA8 hg,zBK hf,this]
  ·have hj:j∈l:=by
    rcases List.mem_cons.mp h with z | z
    ·exact absurd z.symm e
    ·exact z
   have ih:=T8 hf hg bx l iY.2 hj;have ex:=bx x e
   cases q:f x with
   | none=>rw[zBK (ex.trans q),zBK q];exact ih
   | some v=>rw[zA8 (ex.trans q),zA8 q];exact (ih.cons v).trans (List.Perm.swap _ _ _)
theorem Sn{f:Nat->%[|30]}:∀l:List Nat,(∀x∈l,f x≠none)->(l.filterMap f).length=l.length
 | [],_=>rfl
 | x::l,h=>by
  cases q:f x with
  | none=>exact absurd q (h x List.mem_cons_self)
  | some v=>rw[zA8 q,zAL,zAL,Sn l fun y hy=>h y (List.mem_cons_of_mem _ hy)]
abbrev QX(n:Nat)(owner:Array (%[|30])):List Nat:=(List.range n).filterMap fun j=>owner.getD j none
def YO(mask:Nat):Nat->Nat×Nat->Nat×Nat
 | 0,x=>x
 | t+1,x=>YO mask t (SetTable.leap mask x.1 x.2)
theorem Jv{mask:Nat}{owner:Array (%[|30])}{j:Nat}:∀(fuel i p:Nat),SetTable.layClean.free mask owner fuel i p=some j->owner.getD j (some 0)=none
 | 0,_,_,h=>by cases h
 | fuel+1,i,p,h=>by
  unfold SetTable.layClean.free at h;split at h
  ·rename_i k e;injection h with h
   subst h;exact Option.isNone_iff_eq_none.mp (List.find?_some (p:=fun k=>(owner.getD (i+k) (some 0)).isNone) e)
  ·exact Jv fuel _ _ h
theorem JI{mask:Nat}{owner:Array (%[|30])}:∀(fuel i p t:Nat),t<fuel->owner.getD (YO mask t (i,p)).1 (some 0)=none->∃j,SetTable.layClean.free mask owner fuel i p=some j
 | 0,_,_,t,h,_=>absurd h (zB8 _)
 | fuel+1,i,p,t,h,e=>by
  unfold SetTable.layClean.free;split
  ·exact⟨_,rfl⟩
  ·rename_i q
   cases t with
   | zero=>
    have:=List.find?_eq_none.mp q 0 (List.mem_range.mpr (by unfold SetTable.runEnd;split<;>omega));rw[Nat.add_zero] at this;have e':owner.getD i (some 0)=none:=e;rw[e'] at this;exact absurd rfl this
   | succ t=>exact JI fuel _ _ t (zC0 h) e
def Pj(mask:Nat):Nat->Nat->Nat->Nat
 | 0,_,acc=>acc
 | n+1,i,acc=>Pj mask n ((i*5+1)%(mask+1)) (acc ||| 1 <<< i)
theorem Ln{mask j:Nat}:∀(n i acc:Nat),(Pj mask n i acc).testBit j=true->acc.testBit j=true\/∃t,t<n/\(YO mask t (i,0)).1=j
 | 0,_,_,h=>.inl h
 | n+1,i,acc,h=>by
  rcases Ln n _ _ h with z | ⟨t,h1,h2⟩
  ·rw[Nat.testBit_or,zBF] at z;rcases z with z | z
   ·exact .inl z
   ·rw[Nat.shiftLeft_eq,Nat.one_mul,Nat.testBit_two_pow] at z;exact .inr ⟨0,zBH _,of_decide_eq_true z⟩
  ·refine .inr ⟨t+1,Nat.succ_lt_succ h1,?_⟩;show (YO mask t (SetTable.leap mask i 0)).1=j;unfold SetTable.leap;rw[Nat.zero_div,Nat.add_zero];exact h2
def Ux(mask:Nat):Prop:=∀i j,i<=mask->j<=mask->∃t,t<mask+1/\(YO mask t (i,0)).1=j
theorem IQ(h:(List.range (mask+1)).all (fun i=>Pj mask (mask+1) i 0 == 2^(mask+1)-1)=true):Ux mask:=fun i j hi hj=>by
 have:=List.all_eq_true.mp h i (List.mem_range.mpr (Nat.lt_succ_of_le hi));have e:=beq_iff_eq.mp this
 have:(Pj mask (mask+1) i 0).testBit j=true:=by
  rw[e,Nat.testBit_two_pow_sub_one];exact decide_eq_true (Nat.lt_succ_of_le hj)
 rcases Ln _ _ _ this with z | z
 ·rw[Nat.zero_testBit] at z;cases z
 ·exact z
theorem aC:Ux 7:=IQ %[|31]
theorem Zz:Ux 15:=IQ %[|31]
theorem Y0:Ux 31:=IQ %[|31]
theorem Zv:Ux 63:=IQ %[|31]
theorem Yk:Ux 127:=IQ %[|31]
theorem getD_none{owner:Array (%[|30])}{j:Nat}:owner.getD j (some 0)=none->j<owner.size/\owner.getD j none=none:=fun h=>by
 by_cases z:j<owner.size
 ·refine⟨z,?_⟩;simp[Array.getD,z] at h ⊢;exact h
 ·simp[Array.getD,z] at h
theorem Sj{mask:Nat}(iw:Ux mask):∀(hs:List Int)(owner:Array (%[|30]))(k:Nat),owner.size=mask+1->(QX (mask+1) owner).Perm (List.range k)->k+hs.length<=mask+1->(∀h∈hs,SetTable.bits h<32)->
  ∃fC:Array (%[|30]),hs.foldl (fun(acc:Option (Array (%[|30])×Nat)) h=>(do
   let (owner,k) <-acc
   let j <-SetTable.layClean.free mask owner (SetTable.turns mask) (SetTable.bits h%(mask+1)) (SetTable.bits h)
   pure (owner.setIfInBounds j (some k),k+1))) (some (owner,k))=some (fC,k+hs.length)/\fC.size=mask+1/\(QX (mask+1) fC).Perm (List.range (k+hs.length))
 | [],owner,k,hz,hp,_,_=>⟨owner,rfl,hz,hp⟩
 | h::hs,owner,k,hz,hp,hl,hb=>by
  rw[zAL] at hl
  have dq:∃j,j<=mask/\owner.getD j none=none:=Classical.byContradiction fun z=>by
   have:=Sn (f:=fun j=>owner.getD j none) (List.range (mask+1)) fun x hx e=>z ⟨x,Nat.le_of_lt_succ (List.mem_range.mp hx),e⟩
   have e2:=hp.length_eq;rw[zCC] at this e2;change (QX (mask+1) owner).length=_ at this;omega
  obtain⟨j0,hj0,e0⟩:=dq
  have e0':owner.getD j0 (some 0)=none:=by
   have:j0<owner.size:=by omega
   simp[Array.getD,this] at e0 ⊢;exact e0
  have hb0:=hb h List.mem_cons_self;have hd:SetTable.bits h / 32=0:=Nat.div_eq_of_lt hb0;obtain⟨t,ht,et⟩:=iw ((SetTable.bits h%(mask+1)*5+1)%(mask+1)) j0 (Nat.le_of_lt_succ (Nat.mod_lt _ (zBH _))) hj0
  obtain⟨j,ej⟩:=JI (mask:=mask) (owner:=owner) (SetTable.turns mask) (SetTable.bits h%(mask+1)) (SetTable.bits h) (t+1) (by unfold SetTable.turns;omega) (by
   show owner.getD (YO mask t (SetTable.leap mask _ _)).1 (some 0)=none
   unfold SetTable.leap
   rw[hd,Nat.add_zero,et]
   exact e0')
  obtain⟨jl,jn⟩:=getD_none (Jv _ _ _ ej)
  have ck:(QX (mask+1) (owner.setIfInBounds j (some k))).Perm (List.range (k+1)):=by
   refine (T8 (f:=fun j=>owner.getD j none) (g:=fun x=>(owner.setIfInBounds j (some k)).getD x none) (j:=j) (k:=k) jn ?_ (fun x hx=>?_) _ List.nodup_range (List.mem_range.mpr %[|1])).trans ?_
   ·simp[Array.getD,jl]
   ·simp only[Array.getD_eq_getD_getElem?];rw[Array.getElem?_setIfInBounds_ne (zB hx)]
   ·refine (hp.cons k).trans ?_;rw[List.range_succ (n:=k)];exact List.perm_append_comm (l₁:=[k])
  obtain⟨o',h1,h2,h3⟩:=Sj iw hs (owner.setIfInBounds j (some k)) (k+1) (by rw[Array.size_setIfInBounds];exact hz) ck %[|1] fun y hy=>hb y (List.mem_cons_of_mem _ hy)
  have ek:k+1+hs.length=k+(hs.length+1):=by omega
  refine⟨o',?_,h2,?_⟩
  ·rw[List.foldl_cons];show List.foldl _ (SetTable.layClean.free mask owner (SetTable.turns mask) (SetTable.bits h%(mask+1)) (SetTable.bits h) >>= _) hs=_;rw[ej,zAL,<-ek];exact h1
  ·rw[zAL,<-ek];exact h3
theorem OK(iw:Ux mask)(finger moves:Nat)(led plain:Bool)(hs:Array Int)(hl:hs.size<=mask)(hb:∀h∈hs.toList,SetTable.bits h<32):
  ∃t order,SetTable.laid mask finger moves led plain hs=some (t,order)/\order.toList.Perm (List.range hs.size)/\t.dummies = #[]/\t.led=led/\Up t.place/\t.place.size=hs.size/\t.mask=mask:=by
 have hr:(QX (mask+1) (Array.replicate (mask+1) none)).Perm (List.range 0):=by
  have:QX (mask+1) (Array.replicate (mask+1) none)=[]:=by
   refine List.filterMap_eq_nil_iff.mpr fun x hx=>?_
   simp[Array.getD]
  rw[this];exact zBR _
 obtain⟨owner,h1,h2,h3⟩:=Sj iw hs.toList _ 0 Array.size_replicate hr (by rw[zAJ];omega) hb;rw[Nat.zero_add,zAJ] at h1 h3
 have e:SetTable.layClean mask hs=some owner:=by
  unfold SetTable.layClean;rw[<-Array.foldl_toList];exact congrArg (Option.map (·.1)) h1
 unfold SetTable.laid;rw[e];refine⟨_,_,rfl,?_,rfl,rfl,?_,?_,rfl⟩
 ·show (List.map (fun x:Nat×Nat=>x.2) (List.filterMap %[|79] (List.range (mask+1)))).Perm _;rw[zDJ]
  have:(fun j=>Option.map (fun x:Nat×Nat=>x.2) (Option.map (fun x=>(j,x)) (owner.getD j none)))=fun j=>owner.getD j none:=by
   funext j
   cases owner.getD j none<;>rfl
  rw[this];exact h3
 ·show (List.map (fun x:Nat×Nat=>x.fst) (List.filterMap %[|79] (List.range (mask+1)))).toArray.toList.Pairwise (· < ·);rw[zDF];rw[zDJ];refine List.Pairwise.filterMap _ (R:=(· < ·)) ?_ zCZ;intro a a' bL b hb b' hb'
  have f:∀{a b:Nat},Option.map (fun x:Nat×Nat=>x.1) (Option.map (fun x=>(a,x)) (owner.getD a none))=some b->b=a:=fun {a b} e=>by
   cases q:owner.getD a none with
   | none=>rw[q] at e;cases e
   | some y=>rw[q] at e;injection e with e;exact e.symm
  rw[f hb,f hb'];exact bL
 ·show (List.map (fun x:Nat×Nat=>x.fst) (List.filterMap %[|79] (List.range (mask+1)))).toArray.size=_;have e3:=h3.length_eq;rw[zCC] at e3;rw[zAH,List.length_map,<-e3]
  have:∀l:List Nat,(List.filterMap %[|79] l).length=(List.filterMap (fun j=>owner.getD j none) l).length:=fun l=>by
   induction l with
   | nil=>rfl
   | cons x l ih=>cases q:owner.getD x none with
    | none=>rw[zBK (by rw[q];rfl),zBK (f:=fun j=>owner.getD j none) q];exact ih
    | some v=>rw[zA8 (by rw[q];rfl),zA8 (f:=fun j=>owner.getD j none) q,zAL,zAL,ih]
  exact this _
theorem Cg{α:Type}(xs:Array α)(p:Nat):(SetTable.eraseAt xs p).toList=xs.toList.eraseIdx p:=by
 simp[SetTable.eraseAt,List.extract_eq_take_drop,zCH,List.take_of_length_le]
def A1Y(w:World)(h:Heap)(a:Addr)(ks:List Int)(m d:Nat):Prop:=
 ∃o es ep t,h.get? a=some o/\o.ExactSet/\o.data= .set es ep t/\A0V es.toList/\es.toList.map Ba=ks/\ks.Nodup/\ks.length<2000/\Go (B5 w) t/\t.fits es.size=true/\t.mask=m/\t.dummies.size<=d
theorem A1Y.it(x:A1Y w h a ks m d):A0H w h a ks:=by
 obtain⟨o,es,ep,t,h1,h2,h3,h4,h5,h6,h7,h8,h9,_⟩:=x;exact⟨o,es,ep,t,h1,h2,h3,h4,h5,h6,h7,h8,h9⟩
theorem Hr{h:Heap}{o:Obj}{a:Addr}{es bE:Array (Int×Value)}{ep:Nat}{t t':SetTable}(ho:h.get? a=some o)(hd:o.data= .set es ep t):
  (h.update a (Obj.putSet bE t')).get? a=some { o with data:=.set bE (ep+1) t' }:=by
 have:=Heap.get?_update_self (Obj.putSet bE t') ho (by rw[putSet_of bE t' hd];rfl);rw[putSet_of bE t' hd] at this;exact this
theorem N3(h0:0<=k)(h1:k<32):SetTable.bits (hashInt k)<32:=by
 obtain⟨n,rfl⟩:=zB1 h0;have hn:n<32:=by omega
 have:∀n:Fin 32,SetTable.bits (hashInt (n.val:Int))<32:=by decide +kernel
 exact this ⟨n,hn⟩
section
variable {prog:Program}{w:World}{A:Around}{E:Value->Shared->Prop}{s:Shared}{a b r:Addr}{ka kb ks:List Int}{k:Int}{tk:Tok}
theorem Mo(hS:A1Y w s.heap a ks m d)(h:∀(bb:Bool) h' ci,Heap.SameBut a s.heap h'->A1Y w h' a ci m (d+1)->(∀j,j∈ci↔j∈ks/\j≠k)->ci.length<=ks.length->Q bb { s with heap:=h' }):
  wpAny %[|29] A (setDiscardHashed a (.int k tk) (hashInt k)) Q E s:=by
 obtain⟨o,es,ep,t,ho,dq,hd,hg,hk,nd,hl,ok,hf,em,ed⟩:=id hS;unfold setDiscardHashed;refine wpAny_bind (II hS.it fun rr iX bF=>?_)
 cases rr with
 | none=>
  have bJ:k∉ks:=by
   intro z;rw[decide_eq_true z] at iX;cases iX
  have e:s={ s with heap:=s.heap }:=by cases s;rfl
  have:=h false s.heap ks (zBC _ _) ⟨o,es,ep,t,ho,dq,hd,hg,hk,nd,hl,ok,hf,em,Nat.le_succ_of_le ed⟩ (fun j=>⟨fun z=>⟨z,fun e=>bJ (e ▸ z)⟩,fun z=>z.1⟩) (zAB _);rw[e];exact wpAny_pure this
 | some i=>
  have hki:=bF i rfl;obtain⟨hi,eki⟩:=List.getElem?_eq_some_iff.mp hki;have hsz:=Du hk
  have bB:t.place.size=es.size:=by
   unfold SetTable.fits at hf;exact beq_iff_eq.mp (Bool.and_eq_true_iff.mp hf).1
  have ix:t.place.size+t.dummies.size<=t.mask:=by
   unfold SetTable.fits at hf;exact of_decide_eq_true (Bool.and_eq_true_iff.mp hf).2
  have hip:i<t.place.size:=by omega
  have fO:t.drop i={ t with place:=SetTable.eraseAt t.place i,dummies:=SetTable.insertAt t.dummies (SetTable.below t.dummies t.place[i]) t.place[i] }:=by
   unfold SetTable.drop;rw[Array.getElem?_eq_getElem hip]
  have iZ:(SetTable.eraseAt es i).toList.map Ba=ks.eraseIdx i:=by
   rw[Cg,<-hk,zCH,zCH,List.map_append,List.map_take,List.map_drop]
  have hpm:=Do ks i hi;rw[eki] at hpm;have iY:=hpm.nodup_iff.mpr nd;have bo:(ks.eraseIdx i).length+1=ks.length:=by rw[<-hpm.length_eq,zAL]
  have hes:(SetTable.eraseAt es i).size=(ks.eraseIdx i).length:=by rw[<-iZ,List.length_map,zAJ]
  have ip:(SetTable.eraseAt t.place i).size+1=t.place.size:=by
   rw[<-zAJ,Cg,zDA,zAJ,if_pos hip];omega
  have hds:(SetTable.insertAt t.dummies (SetTable.below t.dummies t.place[i]) t.place[i]).size=t.dummies.size+1:=by
   rw[<-zAJ,(SetTable.insertAt_perm _ _ _).length_eq];simp
  dsimp only;exists 13;dsimp only;refine wpAny_bind (wpAny_storeSet_of ho hd ?_ (fits_of_scanBound (by rw[hes];exact CY %[|1])));refine wpAny_bind (wpAny_point %[|38]);refine h true _ (ks.eraseIdx i) (zAS _ _ _) ⟨_,_,_,_,Hr ho hd,dq,rfl,?_,iZ,(List.nodup_cons.mp iY).2,by omega,?_,?_,?_,?_⟩ (fun j=>?_) %[|1]
  ·intro e he;rw[Cg] at he;exact hg e (List.mem_of_mem_eraseIdx he)
  ·rw[fO];refine⟨ok.led,?_⟩;show (SetTable.eraseAt t.place i).toList.Pairwise (· < ·);rw[Cg];exact List.Pairwise.sublist (List.eraseIdx_sublist _ _) ok.up
  ·rw[fO];unfold SetTable.fits SetTable.fill;show ((SetTable.eraseAt t.place i).size == _ && decide ((SetTable.eraseAt t.place i).size+(SetTable.insertAt t.dummies _ _).size<=t.mask))=true;rw[hds,Bool.and_eq_true_iff];exact⟨beq_iff_eq.mpr %[|1],decide_eq_true %[|1]⟩
  ·rw[fO];exact em
  ·rw[fO];show (SetTable.insertAt t.dummies _ _).size<=d+1;rw[hds];omega
  ·rw[<-hpm.mem_iff,zAC];have hn:=(List.nodup_cons.mp iY).1;constructor
   ·intro z;exact⟨.inr z,fun e=>hn (e ▸ z)⟩
   ·rintro⟨z | z,ne⟩
    ·exact absurd z ne
    ·exact z
theorem Pk{es:Array (Int×Value)}{t:SetTable}{order:Array Nat}(hp:order.toList.Perm (List.range es.size)):(order.filterMap (es[·]?)).toList.Perm es.toList:=by
 rw[Array.toList_filterMap];exact (hp.filterMap _).trans (by rw[filterMap_getElem?_range])
end
theorem VD(n:Nat)(hn:n<=32):∃m,(∀led:Bool,(SetTable.fresh 0 0 led).roomFor n=if m=7 then none else some (2*n))/\(m≠7->SetTable.sizeAbove (2*n)-1=m)/\n<=m/\Ux m/\SetTable.sizeAbove (2*n)<=128:=by
 have key:∀n:Fin 33,(decide (n.val<=4) && decide (n.val*5<21)) || (decide (4<n.val) && decide (21<=n.val*5) && (SetTable.sizeAbove (2*n.val)-1 == 15 || SetTable.sizeAbove (2*n.val)-1 == 31 || SetTable.sizeAbove (2*n.val)-1 == 63 || SetTable.sizeAbove (2*n.val)-1 == 127) && decide (n.val<=SetTable.sizeAbove (2*n.val)-1))=true:=by decide +kernel
 have key2:∀n:Fin 33,SetTable.sizeAbove (2*n.val)<=128:=by decide +kernel
 have hk:=key ⟨n,by omega⟩;have gU:=key2 ⟨n,by omega⟩;dsimp only at hk gU;have fP:∀led:Bool,(SetTable.fresh 0 0 led).roomFor n=if (0+n)*5>=7*3 then some ((0+n)*2) else none:=fun led=>rfl
 by_cases h4:n<=4
 ·refine⟨7,fun led=>?_,fun h=>absurd rfl h,by omega,aC,gU⟩;rw[fP,if_neg %[|1],if_pos rfl]
 ·have hgt:¬decide (n<=4)=true:=by simpa using h4
  simp only[zBF,zAU,decide_eq_true_eq,beq_iff_eq] at hk;rcases hk with⟨z,_⟩|⟨⟨⟨_,h21⟩,hm⟩,hnm⟩
  ·exact absurd z h4
  ·have hf:∀m,m≠7->∀led:Bool,(SetTable.fresh 0 0 led).roomFor n=if m=7 then none else some (2*n):=fun m hm led=>by
    rw[fP,if_pos %[|1],if_neg hm,Nat.zero_add,Nat.mul_comm]
   rcases hm with ((e | e) | e) | e
   ·exact⟨15,hf 15 %[|0],fun _=>e,by omega,Zz,gU⟩
   ·exact⟨31,hf 31 %[|0],fun _=>e,by omega,Y0,gU⟩
   ·exact⟨63,hf 63 %[|0],fun _=>e,by omega,Zv,gU⟩
   ·exact⟨127,hf 127 %[|0],fun _=>e,by omega,Yk,gU⟩
section
variable {prog:Program}{w:World}{A:Around}{E:Value->Shared->Prop}{s:Shared}{a b r:Addr}{ka kb ks:List Int}{k:Int}{tk:Tok}
theorem SS(ho:s.heap.get? r=some (Br w))(hr:∀led:Bool,(SetTable.fresh 0 0 led).roomFor n=if m=7 then none else some (2*n))(hm:m≠7->SetTable.sizeAbove (2*n)-1=m)(iw:Ux m)(eO:SetTable.sizeAbove (2*n)<=128)(h:∀h' o' ep t,Heap.SameBut r s.heap h'->h'.get? r=some o'->o'.ExactSet->o'.data= .set #[] ep t->t.fits 0=true->t.mask=m->t.place.size=0->t.dummies = #[]->t.led = !B5 w->Q () { s with heap:=h' }):
  wpAny %[|29] A (setRoomFor r n) Q E s:=by
 unfold setRoomFor;refine wpAny_bind (wpAny_setState_of ho rfl rfl ?_);dsimp only;rw[hr];by_cases z:m=7
 ·rw[if_pos z];dsimp only;have e:s={ s with heap:=s.heap }:=by cases s;rfl
  rw[e];exact wpAny_pure (h s.heap _ 0 _ (zBC _ _) ho ⟨rfl,rfl,rfl⟩ rfl rfl z.symm rfl rfl rfl)
 ·rw[if_neg z];dsimp only;unfold setRelay;refine wpAny_bind (wpAny_setState_of ho rfl rfl ?_);dsimp only;rw[if_neg (by have:=sizeLine_eq;omega)];have dg:=hm z;obtain⟨t,order,e1,hp,hdm,hld,hup,ip,bU⟩:=OK iw 0 ((SetTable.fresh 0 0 (!B5 w)).movedTo m) (!B5 w) true #[] (zA5 _) (fun h hh=>by simp at hh)
  have e2:(SetTable.fresh 0 0 (!B5 w)).relaid (Array.map (·.1) (#[]:Array (Int×Value))) (2*n)=some (t,order):=by
   have em:Array.map (·.1) (#[]:Array (Int×Value)) = #[]:=by simp
   unfold SetTable.relaid;rw[dg,em];exact e1
  have hop:(order.filterMap ((#[]:Array (Int×Value))[·]?)) = #[]:=by
   have:=Pk (t:=t) (es:=#[]) (order:=order) hp;exact Array.toList_inj.mp (List.perm_nil.mp this)
  have hft:t.fits 0=true:=by
   unfold SetTable.fits SetTable.fill;rw[ip,hdm];rfl
  exists 2;rw[e2];show wpAny _ _ (if (order.filterMap ((#[]:Array (Int×Value))[·]?)).size != (#[]:Array (Int×Value)).size then _ else _) _ _ _;rw[hop,if_neg %[|2]];exists 6;dsimp only;refine wpAny_storeSet_of ho rfl ?_ %[|2];exact h _ _ _ _ (zAS _ _ _) (Hr ho rfl) ⟨rfl,rfl,rfl⟩ rfl hft bU ip hdm hld
theorem Og(ha:%[|41] a ka)(ho:s.heap.get? r=some (Br w))(bx:r≠a)(gD:∀j∈ka,0<=j/\j<32)(hl:ka.length<=32)(h:∀h' k2 m,Heap.SameBut r s.heap h'->A1Y w h' r k2 m 0->k2.Perm ka->ka.length<=m->Q () { s with heap:=h' }):
  wpAny %[|29] A (setMerge r a) Q E s:=by
 obtain⟨o,es,ep,t,hoa,dq,hd,hg,hk,nd,iW,ok,hf⟩:=id ha;have hsz:=Du hk;unfold setMerge;rw[if_neg (by simpa using bx)];refine wpAny_bind (wpAny_setState_of hoa hd hf ?_);dsimp only;by_cases i0:es.isEmpty=true
 ·rw[if_pos i0];have e0:ka=[]:=List.eq_nil_of_length_eq_zero (by rw[<-hsz];exact Array.isEmpty_iff_size_eq_zero.mp i0);have e:s={ s with heap:=s.heap }:=by cases s;rfl
  have:=h s.heap [] 7 (zBC _ _) ⟨_,#[],0,_,ho,⟨rfl,rfl,rfl⟩,rfl,fun e he=>absurd he %[|2],rfl,zBI,by decide,⟨rfl,List.Pairwise.nil⟩,rfl,rfl,zAB _⟩ (by rw[e0]) (by rw[e0];decide);rw[e];exact wpAny_pure this
 ·rw[if_neg i0];obtain⟨m,hr,hm,hnm,iw,eO⟩:=VD es.size %[|1];refine wpAny_bind (SS ho hr hm iw eO fun h1 o1 ep1 t1 gi eK hex1 cm hf1 bS fz hdm1 cx=>?_);have hoa1:h1.get? a=some o:=by rw[gi.2 _ (zB bx)];exact hoa
  refine wpAny_bind (wpAny_setState_of (s:={ s with heap:=h1 }) eK cm hf1 ?_);dsimp only
  have fP:(t1.fill != 0)=false:=by
   unfold SetTable.fill;rw[fz,hdm1];rfl
  unfold SetTable.road;rw[fP,if_neg zAF];by_cases hc:(t1.mask == t.mask && t.dummies.isEmpty)=true
  ·rw[if_pos hc];dsimp only;obtain⟨c1,c2⟩:=Bool.and_eq_true_iff.mp hc;refine wpAny_storeSet_of (s:={ s with heap:=h1 }) eK cm ?_ (fits_of_scanBound (by rw[hsz];exact CY iW));refine h _ ka m (gi.trans (zAS _ _ _)) ⟨_,_,_,_,Hr eK cm,hex1,rfl,hg,hk,nd,iW,⟨?_,ok.up⟩,hf,?_,?_⟩ (zBR _) %[|1]
   ·show (t1.led && t.led)=_;rw[cx,ok.led,Bool.and_self]
   ·show t.mask=m;rw[<-bS];exact (beq_iff_eq.mp c1).symm
   ·show t.dummies.size<=0;rw[Array.isEmpty_iff_size_eq_zero.mp c2];exact zAB _
  ·rw[if_neg hc];dsimp only;have hsm:(es.map (·.1)).size=es.size:=Array.size_map
   obtain⟨t2,order,e1,hp,hdm,hld,hup,ip,bU⟩:=OK iw t1.finger t1.moves (t1.led && t.led) (t1.plain && t.plain) (es.map (·.1)) (by rw[hsm];exact hnm) (fun hh dL=>by
    rw[Array.toList_map] at dL
    obtain⟨e,he,rfl⟩:=List.mem_map.mp dL
    rw[(hg e he).1]
    have:=gD (Ba e) (by rw[<-hk];exact zA9 he)
    exact N3 this.1 this.2)
   rw[hsm] at hp ip;rw[bS];have hpe:=Pk (t:=t2) (es:=es) hp;exists 2;rw[e1];have hsz2:(order.filterMap (es[·]?)).size=es.size:=by rw[<-zAJ,hpe.length_eq,zAJ]
   show wpAny _ _ (if (order.filterMap (es[·]?)).size != es.size then _ else _) _ _ _;rw[if_neg (by rw[hsz2];simp)];exists 6;dsimp only;have hkp:=hpe.map Ba;rw[hk] at hkp;refine wpAny_storeSet_of (s:={ s with heap:=h1 }) eK cm ?_ (fits_of_scanBound (by rw[hsz2,hsz];exact CY iW));refine h _ _ m (gi.trans (zAS _ _ _)) ⟨_,_,_,_,Hr eK cm,hex1,rfl,fun e he=>hg e (hpe.mem_iff.mp he),rfl,hkp.nodup_iff.mpr nd,by rw[hkp.length_eq];exact iW,⟨by rw[hld,cx,ok.led,Bool.and_self],hup⟩,?_,bU,by rw[hdm];exact zAB _⟩ hkp %[|1];unfold SetTable.fits SetTable.fill;rw[ip,hdm,hsz2,bU,Bool.and_eq_true_iff];exact⟨beq_self_eq_true _,decide_eq_true (by simpa using hnm)⟩
end
section
variable {prog:Program}{w:World}{A:Around}{E:Value->Shared->Prop}{s:Shared}{a b r:Addr}{ka kb kr ks:List Int}{k:Int}{tk:Tok}
theorem LP(hr:A1Y w s.heap r kr m 0)(hb:%[|41] b kb)(bx:r≠b)(bL:kb.length<kr.length / 4)(hm:kr.length<=m)(h:∀h' k2,Heap.SameBut r s.heap h'->A0H w h' r k2->(∀j,j∈k2↔j∈kr/\j∉kb)->k2.length<=kr.length->Q () { s with heap:=h' }):
  wpAny %[|29] A (Builtin.Frozenset.differenceUpdate id0 r (.ref b)) Q E s:=by
 unfold Builtin.Frozenset.differenceUpdate;rw[if_neg (by intro z;have:=beq_iff_eq.mp z;injection this with this;exact bx this.symm)];refine wpAny_bind (Dn hb ?_);rw[if_pos rfl];obtain⟨o,es,ep,t,ho,dq,hd,hg,hk,nd,iW,ok,hf⟩:=id hb;show wpAny _ _ (Builtin.Frozenset.sizeOf b >>= _) _ _ _;refine wpAny_bind (Ej hb ?_);refine wpAny_bind (Ej hr.it ?_);rw[if_neg %[|1]];refine wpAny_bind (Fr ho hd hf ?_);refine wpAny_bind (wpAny_holding ?_);refine wpAny_bind (Q8 hb (fun c hc=>?_) fun bE hg' ck=>?_)
 ·simp only[zAC,zAA,or_false] at hc;subst hc;exact⟨_,hr.it⟩
 have hsz:bE.size=kb.length:=by rw[<-ck.length_eq,List.length_map,zAJ]
 exists 2
 refine wpAny_forIn_array' _ (fun rest _ s'=>∃h1 k1 d,s'={ s with heap:=h1 }/\Heap.SameBut r s.heap h1/\A1Y w h1 r k1 m d/\d+rest.length=kb.length/\A0V rest/\k1.length<=kr.length/\
  (∀j,(j∈k1/\j∉rest.map Ba)↔j∈kr/\j∉kb)) _ ?_ ?_ _ _ ⟨s.heap,kr,0,by cases s;rfl,zBC _ _,hr,by rw[zAJ,hsz];omega,hg',zAB _,fun j=>by rw[ck.mem_iff]⟩
 ·rintro⟨hh,x⟩ rest u s' ⟨h1,k1,d,rfl,sb,hS,gC,g,hl,hm⟩;obtain⟨e1,t',e2⟩:=g _ List.mem_cons_self;generalize hk:Ba (hh,x)=k at e1 e2;dsimp only at e1 e2;subst e1;subst e2;rw[zAL] at gC;refine wpAny_bind (wpAny_holding ?_);refine Mo (s:={ s with heap:=h1 }) hS fun bb h2 k2 gT dX bT bM=>?_
  have fe:h2.get? b=some o:=by rw[gT.2 _ (zB bx),sb.2 _ (zB bx)];exact ho
  refine wpAny_bind (Dw (s:={ s with heap:=h2 }) fe hd hf %[|38]);refine⟨h2,k2,d+1,rfl,sb.trans gT,dX,by omega,fun y hy=>g y (List.mem_cons_of_mem _ hy),zAD bM hl,fun j=>?_⟩;rw[<-hm j,bT j,zAP,zAC,hk];constructor
  ·rintro⟨⟨z1,z2⟩,z3⟩;exact⟨z1,fun z=>z.elim z2 z3⟩
  ·rintro⟨z1,z2⟩;exact⟨⟨z1,fun e=>z2 (.inl e)⟩,fun e=>z2 (.inr e)⟩
 ·rintro u s' ⟨h1,k1,d,rfl,sb,hS,gC,g,hl,bT⟩;exists 6;obtain⟨o1,cE,ep1,t1,eK,hex1,cm,eG,fQ,nd1,hlk1,gA,hf1,em1,ed1⟩:=id hS;unfold setTidy;refine wpAny_bind (wpAny_setState_of (s:={ s with heap:=h1 }) eK cm hf1 ?_);dsimp only
  rw[if_neg (by
   unfold SetTable.tooManyDummies
   rw[em1]
   simp only[List.length_nil] at gC
   have:¬t1.dummies.size>m / 4:=by omega
   simpa using this)]
  exact wpAny_pure (h h1 k1 sb hS.it (fun j=>by rw[<-bT j];simp) hl)
theorem VM(ha:%[|41] a ka)(hb:%[|41] b kb)(hab:a≠b)(gD:∀j∈ka,0<=j/\j<32)(hl:ka.length<=32)(hlb:kb.length<=1000)(h:∀h' k2,A0H w h' s.heap.objs.size k2->(∀j,j∈k2↔j∈ka/\j∉kb)->k2.length<=ka.length->(∀c o,s.heap.get? c=some o->h'.get? c=some o)->Q %[|46] { s with heap:=h' }):
  wpAny %[|29] A (binaryOp .Sub (.ref a) (.ref b)) Q E s:=by
 refine wpAny_binaryOp_same ha.typeIs hb.typeIs PySem.F.fills_set_sub PySem.F.slot_set_sub ?_;refine wpAny_call_entry PySem.F.slot_set_sub ha.typeIs F.entry_set_sub ?_ (PySem.F.args_set_sub_2 _ _)
 show wpAny _ _ (do
  let (self,bj) <-Builtin.Frozenset.slot1 "__sub__" ⟨[.ref a,.ref b],[]⟩
  let (l,r):=if false=true then (bj,self) else (self,bj)
  if !(<-Builtin.Frozenset.isAnySet l <&&> Builtin.Frozenset.isAnySet r) then rule s!"frozenset.{"__sub__"}.declined";return <-ret .notImplemented
  ret (<-Builtin.Frozenset.difference s!"frozenset.{"__sub__"}" (<-Builtin.Frozenset.addrOf l) r)) _ _ _
 generalize s!"frozenset.{"__sub__"}"=id0;generalize s!"frozenset.{"__sub__"}.declined"=id1;show wpAny _ _ ((Builtin.Frozenset.isAnySet (.ref a) <&&> Builtin.Frozenset.isAnySet (.ref b)) >>= _) _ _ _;exists 2;show wpAny _ _ (Builtin.Frozenset.isAnySet (.ref a) >>= _) _ _ _;refine wpAny_bind (Dn ha ?_);show wpAny _ _ (Builtin.Frozenset.isAnySet (.ref b)) _ _ _;refine Dn hb ?_;simp only[zCN,zBO,if_false];show wpAny _ _ (Builtin.Frozenset.difference id0 a (.ref b) >>= _) _ _ _;exists 2;have kk:∀c o,s.heap.get? c=some o->%[|50].get? c=some o:=fun c o e=>Heap.get?_push_of_some _ e
 have fY:=ha.keep (h':=s.heap.push (Br w)) fun o e=>kk _ _ e
 have cw:=hb.keep (h':=s.heap.push (Br w)) fun o e=>kk _ _ e
 have cr:A0G w %[|50] s.heap.objs.size []:=A1X;have hr0:%[|50].get? s.heap.objs.size=some (Br w):=Heap.get?_push_size _ rfl;have na:a≠s.heap.objs.size:=let ⟨o,_,_,_,ho,_⟩:=ha;Es ho
 have nb:b≠s.heap.objs.size:=let ⟨o,_,_,_,ho,_⟩:=hb;Es ho
 have keep:∀h',Heap.SameBut s.heap.objs.size %[|50] h'->∀c o,s.heap.get? c=some o->h'.get? c=some o:=fun h' sb c o e=>by
  rw[sb.2 _ (Es e)];exact kk c o e
 unfold Builtin.Frozenset.difference;refine wpAny_bind (Dn hb ?_);simp only[zCN,zBO,if_false];show wpAny _ _ (Builtin.Frozenset.sizeOf b >>= _) _ _ _;refine wpAny_bind (Ej hb ?_);refine wpAny_bind (Ej ha ?_);by_cases hbig:ka.length / 4>kb.length
 ·rw[if_pos hbig];refine wpAny_bind (wpAny_rule ?_);unfold Builtin.Frozenset.copyOf;refine wpAny_bind (wpAny_bind (El ha (wpAny_bind (Ha ?_))));show wpAny _ _ (setMerge s.heap.objs.size a >>= _) _ _ _;refine wpAny_bind (Og (s:={ s with heap:=s.heap.push (Br w) }) fY hr0 (zB na) gD hl fun h1 k1 m gi fX fz bS=>?_);exists 6;have cR:A0H w h1 b kb:=cw.keep fun o e=>by rw[gi.2 _ nb];exact e
  refine wpAny_bind (m:=Builtin.Frozenset.addrOf (Value.ref s.heap.objs.size)) %[|38];refine wpAny_bind (wpAny_holding ?_);show wpAny _ _ (Builtin.Frozenset.differenceUpdate id0 s.heap.objs.size (.ref b)) _ _ _;refine LP (s:={ s with heap:=h1 }) fX cR (zB nb) (by rw[fz.length_eq];exact hbig) (by rw[fz.length_eq];exact bS) fun h2 k2 gT dX bT bM=>?_
  exists 6;refine wpAny_pure ⟨_,rfl,by simp,?_⟩;exact h h2 k2 dX (fun j=>by rw[bT j,fz.mem_iff]) (by rw[<-fz.length_eq];exact bM) (keep _ (gi.trans gT))
 ·rw[if_neg hbig];refine wpAny_bind (El ha (wpAny_bind (Ha ?_)));show wpAny _ _ (setEpoch a >>= _) _ _ _;obtain⟨o,es,ep,t,ho,dq,hd,hg,hk,nd,iW,ok,hf⟩:=id fY;refine wpAny_bind (Fr (s:={ s with heap:=s.heap.push (Br w) }) ho hd hf ?_);refine wpAny_bind (wpAny_holding ?_);simp only[if_true];refine wpAny_bind (JJ (s:={ s with heap:=s.heap.push (Br w) }) fY cr (fun c hc=>?_) fun bE h' hg' ck sb d7=>?_)
  ·simp only[zAC,zAA,or_false] at hc;rcases hc with rfl | rfl
   ·exact⟨_,cw⟩
   ·exact⟨_,cr.it⟩
  have hsz:bE.size=ka.length:=by rw[<-ck.length_eq,List.length_map,zAJ]
  refine wpAny_bind (wpAny_mono (JD (s:={ s with heap:=h' }) (r:=s.heap.objs.size) (p:=fun j=>decide (j∉kb)) (R:=fun _ s'=>∃h' k2,s'={ s with heap:=h' }/\Heap.SameBut s.heap.objs.size %[|50] h'/\A0G w h' s.heap.objs.size k2/\(∀j,j∈k2↔j∈ka/\j∉kb)/\k2.length<=ka.length) ?_ hg' d7 (by rw[hsz];simp;omega) fun h2 k2 gT dX bT bM=>⟨h2,k2,rfl,sb.trans gT,dX,fun j=>?_,by rw[hsz] at bM;simpa using bM⟩) ?_ fun _ _ h'=>h')
  ·intro k tk h1 k1 Q' gi fX cx hQ;have cR:A0H w h1 b kb:=cw.keep fun o e=>by rw[gi.2 _ nb,sb.2 _ nb];exact e
   exists 2;refine wpAny_holding ?_;refine wpAny_bind (II (s:={ s with heap:=h1 }) cR fun rr iX _=>wpAny_bind %[|38])
   have bC:∀h2 k2,Heap.SameBut s.heap.objs.size h1 h2->A0G w h2 s.heap.objs.size k2->(∀j,j∈k2↔j∈k1\/(decide (k∉kb)=true/\j=k))->k2.length<=k1.length+1->wpAny %[|29] A.in1 (Builtin.Frozenset.unchanged id0 a ep >>= fun _=>pure (ForInStep.yield PUnit.unit)) Q' E { s with heap:=h2 }:=fun h2 k2 fZ bZ dg dA=>by
    have fe:h2.get? a=some o:=by rw[fZ.2 _ na,gi.2 _ na,sb.2 _ na];exact ho
    exact wpAny_bind (Dw (s:={ s with heap:=h2 }) fe hd hf (wpAny_pure (hQ h2 k2 fZ bZ dg dA)))
   by_cases bJ:k∈kb
   ·rw[iX,decide_eq_true bJ,if_neg %[|0]];exists 6;exact bC h1 k1 (zBC _ _) fX (fun j=>by rw[decide_eq_false (fun z=>z bJ)];simp) (zBA _)
   ·rw[iX,decide_eq_false bJ,if_pos %[|0]];refine wpAny_bind (Ho (s:={ s with heap:=h1 }) fX cx fun h2 k2 fZ bZ dg dA=>wpAny_pure ?_);exact bC h2 k2 fZ bZ (fun j=>by rw[dg j,decide_eq_true bJ];simp) dA
  ·rw[bT j,ck.mem_iff,decide_eq_true_eq];simp[and_comm]
  ·rintro u s' ⟨h2,k2,rfl,fZ,bZ,dg,dA⟩;exists 6;exists 6;refine wpAny_pure ⟨_,rfl,by simp,?_⟩;exact h h2 k2 bZ.it dg dA (keep _ fZ)
end
theorem E6:∀{us:%[|7]}{ns:List Int},Vals %[|25] us->IntsAre us ns
 | _,[],h=>by cases h;exact .nil
 | _,n::ns,h=>by
  cases h with
  | cons r t=>obtain⟨k,rfl⟩:=r;exact .cons n k (E6 t)
theorem F0:∀{l1 l2:List Int},l1.Nodup->(∀x∈l1,x∈l2)->l1.length<=l2.length
 | [],_,_,_=>zA5 _
 | x::l1,l2,nd,h=>by
  have iY:=List.nodup_cons.mp nd;have hx:=h x List.mem_cons_self;have ih:=F0 (l1:=l1) (l2:=l2.erase x) iY.2 fun y hy=>(List.mem_erase_of_ne (show y≠x from fun e=>iY.1 (e ▸ hy))).mpr (h y (List.mem_cons_of_mem _ hy))
  rw[List.length_erase_of_mem hx] at ih;have:0<l2.length:=zC1 hx;rw[zAL];omega
theorem A0G.nd(x:A0G w h a ks):ks.Nodup:=let ⟨_,_,_,_,_,_,_,_,_,nd,_⟩:=x;nd
section
variable {X:Cx}
inductive Gg(w:World)(K:PySem.W.Frag)(xs:List V)(H:Hp)(Q:VK):Prop where
 | mk (l:Addr) (ns:List Int) (_:xs=[.ref l]) (_:SqL K H l %[|25]) (_:ns.length<1000) (_:∀a,H a=none->Q (.ref a) (upd H a (By w a (fun k=>decide (k∈ns)) ns.length))):Gg w K xs H Q
theorem Eb(hc:X.calm=true):Ce X (.type "set") (Gg X.w X.K):=by
 exists 7;obtain⟨l,ns,rfl,hq,hn,q⟩:=h;obtain⟨u,rfl,ru⟩:=CT r;cases ru;obtain⟨its,rv,pl,hz⟩:=I.list hq;have bo:its.length=ns.length:=by rw[<-rv.length,List.length_map]
 refine QM (w:=X.w) (ns:=ns) (I.ok.hd hc) pl.isList (by rw[zDF];exact E6 rv) (by rw[zAH];omega) fun h' tk ks hS hm hl kk=>?_
 refine⟨.ref s.heap.objs.size,_,I.laid (t':=tk) (o:=By X.w s.heap.objs.size (fun k=>decide (k∈ns)) ns.length) kk (zAB _) ?_,rfl,q _ (I.hok.fresh (zAB _))⟩;exact Ef hS (fun k=>by rw[decide_eq_true_eq];exact (hm k).symm) hl
inductive JA(w:World)(x:V)(y:V)(H:Hp)(Q:VK):Prop where
 | mk (a b:Addr) (S T:Int->Bool) (n m:Nat) (_:x= .ref a) (_:y= .ref b) (_:H a=some (By w a S n)) (_:H b=some (By w b T m)) (_:a≠b) (_:n+m<1990) (_:∀r,H r=none->Q (.ref r) (upd H r (By w r (fun k=>S k && T k) n))):JA w x y H Q
theorem Wb:C3 X (binaryOp .BitAnd) (JA X.w):=by
 exists 3;obtain⟨a,b,S,T,n,m,rfl,rfl,ha,hb,bx,hnm,q⟩:=h;cases rx;cases ry;obtain⟨ka,hSa,hma,hla⟩:=I.setO ha;obtain⟨kb,hSb,hmb,hlb⟩:=I.setO hb;refine VA (w:=X.w) hSa.it hSb.it bx %[|1] fun h' k2 hS hm hl kk=>?_
 refine⟨.ref s.heap.objs.size,_,I.laid (t':=s.toks) (o:=By X.w s.heap.objs.size (fun k=>S k && T k) n) kk (zAB _) ?_,rfl,q _ (I.hok.fresh (zAB _))⟩;refine Ef hS (fun k=>by rw[zAU,hma,hmb,hm k]) (zAD (F0 hS.nd fun y hy=>((hm y).mp hy).1) hla)
inductive Jw(w:World)(x:V)(y:V)(H:Hp)(Q:VK):Prop where
 | mk (a b:Addr) (S T:Int->Bool) (n m:Nat) (_:x= .ref a) (_:y= .ref b) (_:H a=some (By w a S n)) (_:H b=some (By w b T m)) (_:a≠b) (_:n<=32) (_:m<=1000) (_:(∀k,S k=true->0<=k/\k<32)) (_:∀r,H r=none->Q (.ref r) (upd H r (QS w r (fun k=>S k && !T k) n))):Jw w x y H Q
theorem US:C3 X (binaryOp .Sub) (Jw X.w):=by
 exists 3;obtain⟨a,b,S,T,n,m,rfl,rfl,ha,hb,bx,hn,dg,gD,q⟩:=h;cases rx;cases ry;obtain⟨ka,hSa,hma,hla⟩:=I.setO ha;obtain⟨kb,hSb,hmb,hlb⟩:=I.setO hb;refine VM (w:=X.w) hSa.it hSb.it bx (fun j hj=>gD j ((hma j).mpr hj)) %[|1] %[|1] fun h' k2 hS hm hl kk=>?_
 refine⟨.ref s.heap.objs.size,_,I.laid (t':=s.toks) (o:=QS X.w s.heap.objs.size (fun k=>S k && !T k) n) kk (zAB _) ?_,rfl,q _ (I.hok.fresh (zAB _))⟩;refine UP hS (fun k=>?_) %[|1];rw[zAU,hma,hm k,Bool.not_eq_true',<-Bool.not_eq_true,hmb]
end
section
variable {X:Cx}{tg:Expr}{acc:Value}
theorem RT(I:%[|5])(ha:H a=some (By X.w a S n))(hn:n+1<2000):
  wpAny %[|15] X.A (call (.builtin "set.add") [.ref a,.int k tk]) (fun _ s'=>%[|13] (upd H a (By X.w a (fun j=>S j || decide (j=k)) (n+1))) s') E s:=by
 obtain⟨ks2,dX,bT,bM⟩:=I.setO ha;refine LD (w:=X.w) dX %[|1] fun h' ci cQ bZ dg dA=>?_
 have mu:YQ (H a):=by rw[ha];exact True.intro
 refine I.write (x:=a) (e:=a) (t':=s.toks+1) mu (.inl rfl) (fun b ob nb eb=>(cQ.2 b nb).trans eb) (let ⟨o,_,_,_,ho,_⟩:=bZ;⟨o,ho⟩) (Ef bZ (fun j=>?_) %[|1]);rw[dg j,zBF,decide_eq_true_eq,bT j]
def JW(X:Cx)(bt:%[|20])(bu:Expr)(acc:Value):TY:=fun Qa s=>%[|19] (Hc bt X.env) (fun ok s1=>if ok=true then wpAny %[|15] X.A (eval bu X.env) (fun x s2=>%[|19] (call (.builtin "set.add") [acc,x]) (fun _ s3=>Qa s3) ED s2) ED s1 else Qa s1) ED s
inductive Pb(w:World)(acc:Addr)(D:BH)(σ:St)(x:V)(H1:Hp):Prop where
 | mk (k S n) (_:x= .int k) (_:H1 acc=some (By w acc S n)) (_:n+1<2000) (_:D.nx σ (upd H1 acc (By w acc (fun j=>S j || decide (j=k)) (n+1)))):Pb w acc D σ x H1
def Oj(w:World)(acc:Addr)(te:TE):TS:=fun D σ H=>te σ H (Pb w acc D σ)
theorem Sl{bt:%[|20]}{bu:Expr}{ac:Addr}{tc:TT}{te:TE}(bO:X.xe=ED)(hi:QZ X bt tc)(he:PE X bu te):PB X (JW X bt bu (.ref ac)) (Dx tc (Oj X.w ac te)) where
 mono:=fun Qa Qb s hq h=>AU h fun ok s1 h1=>by
  cases ok with
  | false=>exact hq _ h1
  | true=>exact AU h1 fun x s2 h2=>AU h2 fun _ s3 h3=>hq _ h3
 run:=fun pins s σ H D I h=>by
  have h1:=hi pins s σ H _ I h;rw[bO] at h1;refine AU h1 fun ok s1 ⟨H1,I1,q1⟩=>?_
  cases ok with
  | false=>exact⟨σ,H1,I1,q1.f⟩
  | true=>
   have fg:Oj X.w ac te D σ H1:=q1.t;have h2:=he pins s1 σ H1 _ I1 fg;rw[bO] at h2;refine AU h2 fun u s2 ⟨x,H2,I2,r2,k,S,n,ex,hl,hz,q2⟩=>?_
   subst ex;obtain⟨tk,rfl⟩:=r2;exact AU (RT (E:=ED) I2 hl hz) fun _ s3 I3=>⟨σ,_,I3,q2⟩
theorem JS(bu ig cA tg bg:Expr)(dQ bt:%[|20])(scope:Scope)(pos:Pos)(it acc:Value)(env:Env):
  compTurn (.SetComp bu [⟨ig,cA,dQ,0⟩,⟨tg,bg,bt,0⟩] scope pos) 1 it acc env=(do
   standAt bg.pos
   match <-pyNext it with
   | none=>pure (.done .next)
   | some v=>
    letOwnedTupleGo tg it v
    assign tg env v
    let mut ok:=true
    for c in bt do
     if ok then ok <-isTrue c env (eval c env)
    if ok then
     (do let v <-eval bu env;standAt bu.pos;let _ <-call (.builtin "set.add") [acc,v])
    again (.compLoop (.SetComp bu [⟨ig,cA,dQ,0⟩,⟨tg,bg,bt,0⟩] scope pos) 1 it acc env)):=by rfl
theorem Xz:HT X (.SetComp bu [⟨ig,cA,dQ,0⟩,⟨tg,bg,bt,0⟩] scope pos) 1 cJ acc tg (JW X bt bu acc):=by
 intro s Qd Qa h;rw[JS];exists 19
 cases r with
 | none=>exact wpAny_pure ⟨rfl,h₁⟩
 | some v=>
  exists 20
  cases ok with
  | false=>exact wpAny_pure ⟨rfl,h4⟩
  | true=>exact wpAny_bind (wpAny_bind (AU h4 fun x s₄ h₄=>wpAny_bind (wpAny_standAt (wpAny_bind (AU h₄ fun _ s₅ h₅=>wpAny_pure (wpAny_pure ⟨rfl,h₅⟩))))))
theorem Jb(bu tg bg bX bi:Expr)(bt bw:%[|20])(scope:Scope)(pos:Pos)(it acc:Value)(env:Env):
  compTurn (.SetComp bu %[|44] scope pos) 0 it acc env=(do
   standAt bg.pos
   match <-pyNext it with
   | none=>pure (.done .next)
   | some v=>
    letOwnedTupleGo tg it v
    assign tg env v
    let mut ok:=true
    for c in bt do
     if ok then ok <-isTrue c env (eval c env)
    if ok then
     let x <-eval bi env
     standAt bi.pos
     let x <-foldedSetIterable bi env x
     let _ <-runOwn (.compStart (.SetComp bu %[|44] scope pos) 1 (<-holding [x] (pyIter x)) acc env) env
    again (.compLoop (.SetComp bu %[|44] scope pos) 0 it acc env)):=by rfl
theorem UN(hs:∀x,foldedSetIterable bi X.env x=pure x):
  HT X (.SetComp bu %[|44] scope pos) 0 cJ acc tg (JF X bt (.SetComp bu %[|44] scope pos) bi acc):=by
 intro s Qd Qa h;rw[Jb];exists 19
 cases r with
 | none=>exact wpAny_pure ⟨rfl,h₁⟩
 | some v=>
  exists 20
  cases ok with
  | false=>exact wpAny_pure ⟨rfl,h4⟩
  | true=>
   refine wpAny_bind (AU h4 fun x s₄ h₄=>wpAny_bind (wpAny_standAt (wpAny_bind (wpAny_of_eq (hs x) (wpAny_bind (wpAny_holding (AU h₄ fun it s₅ h₅=>?_)))))));refine wpAny_bind (wpAny_runOwn (codeAny_mono h₅ fun r s₆ h₆=>?_));obtain⟨rfl,h₆⟩:=h₆;exact wpAny_pure ⟨rfl,h₆⟩
theorem VH{bu bg bX bi:Expr}{bt bw:%[|20]}{scope:Scope}{pos:Pos}{ac:Addr}{tc:TT}{fq:TI}{g1:TG}{tb1:TS}(bO:X.xe=ED)(hc:X.calm=true)(hi:QZ X bt tc)(hI:PI X bX bi fq)(eG:PG X bX g1)(cw:PB X (JW X bw bu (.ref ac)) tb1):
  PB X (JF X bt (.SetComp bu %[|44] scope pos) bi (.ref ac)) (Dx tc (Nk fq g1 tb1)) where
 mono:=fun Qa Qb s hq h=>AU h fun ok s1 h1=>by
  cases ok with
  | false=>exact hq _ h1
  | true=>exact AU h1 fun x s2 h2=>AU h2 fun it s3 h3=>codeAny_mono h3 fun r s4 h4=>⟨h4.1,hq _ h4.2⟩
 run:=fun pins s σ H D I h=>by
  have h1:=hi pins s σ H _ I h;rw[bO] at h1;refine AU h1 fun ok s1 ⟨H1,I1,q1⟩=>?_
  cases ok with
  | false=>exact⟨σ,H1,I1,q1.f⟩
  | true=>
   have fg:Nk fq g1 tb1 D σ H1:=q1.t;have h2:=hI pins s1 σ H1 _ I1 fg;rw[bO] at h2;refine AU h2 fun u s2 h3=>AU h3 fun cJ s3 h4=>?_
   obtain⟨it,fp,tn,J,H3,e,I3,T,gq,f3,hR⟩:=h4;subst e;have bY:=CL (e:=.SetComp bu %[|44] scope pos) (d:=1) (D:=D) bO hc Xz rfl rfl rfl T eG cw I3 gq f3 hR;exact Cl (X:=X) rfl rfl rfl (fun _=>rfl) True.intro bY (T.self _ 0 s3 _ _ gq bY)
end
def Tc(w:World)(wi:TI)(js:List (%[|30]))(g:CC->TG)(tb:CC->Addr->TS):TE:=fun σ H Q=>wi σ H fun J H1=>∀(c:CC)acc,H1 acc=none->
 EE J (g c) (tb c acc) { nx:=fun _ H'=>Q (.ref acc) H',rt:=fun _ _=>False } (sub js σ) (upd H1 acc (By w acc (fun _=>false) 0))
section
variable {X:Cx}{N:List Str}{scope:Scope}{cl:List (Str×Addr)}{js:List (%[|30])}{bu tg bg:Expr}{bt:%[|20]}{rest:List Comprehension}{pos:Pos}{wi:TI}{g:CC->TG}{tb:CC->Addr->TS}
theorem QP{WB:CC->Value->TY}(bO:X.xe=ED)(hc:X.calm=true)(hi:PI X tg bg wi)(hs:∀x,foldedSetIterable bg X.env x=pure x)(eH:closureFor scope X.env=pure cl)(hk:scope.kind= .function)(dh:∀x∈scope.names,x.2= .local->scope.names.lookup x.1=some .local)(bR:∀x∈scope.names,x.2≠.cell)(d4:∀p∈cl,X.env.cells.lookup p.1=some p.2)(hcn:∀x,%[|71]->∃c,cl.lookup x=some c)(fU:FD X N scope js)(hl:js.length=N.length)(ht:∀c it ac,HT %[|22] (.SetComp bu (⟨tg,bg,bt,0⟩::rest) scope pos) 0 it ac tg (WB c ac))(hg:∀c,PG %[|22] tg (g c))(hb:∀c ac,PB %[|22] (WB c (.ref ac)) (tb c ac)):
  PE X (.SetComp bu (⟨tg,bg,bt,0⟩::rest) scope pos) (Tc X.w wi js g tb):=by
 exists 1;rw[arm_eval_SetComp];have h0:=hi pins s σ H _ I h;refine wpAny_comprehension_free (use:=none) (cl:=cl) rfl hs eH hk dh (AU h0 fun v s1 h1=>AU h1 fun cJ s2 h2=>?_);obtain⟨it,fp,tn,J,H2,e,I2,T,fb,f2,hR⟩:=h2;subst e;refine Ha (wpAny_newFunctionEnv bR (by intro y hy;simp at hy) (fun h₁ eI di=>?_) hk);dsimp only at eI di ⊢;have I3:=I2.laid (t':=s2.toks) (h':=s2.heap.push (Br X.w)) (o:=By X.w s2.heap.objs.size (fun _=>false) 0) (fun b ob e=>Heap.get?_push_of_some _ e) (zAB _) (Ef A1X (fun k=>by simp) (zAB _))
 have fN:∀b∈fp,b<s2.heap.objs.size:=fun b hb=>by
  obtain⟨o,e,_⟩:=T.obj 0 _ fb b hb;exact zAE e
 have fpa:∀b∈fp,b≠s2.heap.objs.size:=fun b hb=>zAI (fN b hb)
 have f3:∀b∈fp,CG X pins (upd H2 s2.heap.objs.size %[|75]) b:=fun b hb=>⟨by rw[Af (fpa b hb)];exact (f2 b hb).1,(f2 b hb).2⟩
 have hR':=hR ⟨{ s2 with heap:=s2.heap.push (Br X.w) },upd H2 s2.heap.objs.size %[|75],fp⟩ s2.heap.objs.size I2.fresh
 have I4:=I3.cmp (N:=N) (cl:=cl) (js:=js) (t':=s2.toks) f3 (fun b hb=>by
  show b<(s2.heap.push _).objs.size
  rw[zAT]
  exact zA1 (fN b hb)) hk d4 hcn fU hl eI di
 have gy:tn 0 h₁:=T.keep 0 _ _ fb fun b hb o e=>(di.2 b (by
  rw[zAT]
  exact zAI (zA1 (fN b hb)))).trans %[|78]
 have f4:∀b∈fp,CG (X.cmp N scope cl ⟨{ s2 with heap:=s2.heap.push (Br X.w) },upd H2 s2.heap.objs.size %[|75],fp⟩) [] (upd H2 s2.heap.objs.size %[|75]) b:=fun b hb=>
  ⟨(f3 b hb).1,(I4.ok.exf b hb).1,I4.ok.exfs b hb,.inl hb,(I4.ok.exf b hb).2,fun p hp=>absurd (show p∈([]:%[|14]) from hp) %[|2]⟩
 have bY:=codeAny_mono (CL (X:=X.cmp N scope cl ⟨{ s2 with heap:=s2.heap.push (Br X.w) },upd H2 s2.heap.objs.size %[|75],fp⟩) (e:=.SetComp bu (⟨tg,bg,bt,0⟩::rest) scope pos) (d:=0) (acc:=.ref s2.heap.objs.size) (pins:=[]) bO hc (ht _ _ _) rfl rfl rfl T (hg _) (hb _ _) I4 gy f4 hR') (R':=compPost %[|15] X.A X.xe none (%[|36]) (.ref s2.heap.objs.size) (s2.heap.push (Br X.w)).objs.size) (fun r s' hq=>by
  obtain⟨rfl,σ',H',J',q⟩:=hq
  obtain⟨m,hn,_⟩:=id J'.loc
  exact⟨m,hn,fun fu hs''=>⟨.ref s2.heap.objs.size,H',I3.uncmp f3 J' hs'',rfl,q⟩⟩)
 exact Cl (X:=X.cmp N scope cl ⟨{ s2 with heap:=s2.heap.push (Br X.w) },upd H2 s2.heap.objs.size %[|75],fp⟩) rfl rfl rfl (fun _=>rfl) True.intro bY (T.self _ 0 _ _ _ gy bY)
variable {bX bi:Expr}{bw:%[|20]}{fq:CC->TI}{g1:CC->TG}{tc tc1:CC->TT}{te:CC->TE}
theorem Qy(h:A1B X N scope cl js)(hi:PI X tg bg wi)(hg:∀c,PG %[|22] tg (g c))(ii:∀c,QZ %[|22] bt (tc c))(hi1:∀c,PI %[|22] bX bi (fq c))(eG:∀c,PG %[|22] bX (g1 c))(hif1:∀c,QZ %[|22] bw (tc1 c))(he:∀c,PE %[|22] bu (te c))(hs1:∀c x,foldedSetIterable bi %[|22].env x=pure x:=by intro _ _;rfl)(bO:X.xe=ED:=by rfl)(hc:X.calm=true:=by rfl)(hs:∀x,foldedSetIterable bg X.env x=pure x:=by intro _;rfl):
  PE X (.SetComp bu %[|44] scope pos) (Tc X.w wi js g fun c ac=>Dx (tc c) (Nk (fq c) (g1 c) (Dx (tc1 c) (Oj X.w ac (te c))))):=
 QP (WB:=fun c ac=>JF %[|22] bt (.SetComp bu %[|44] scope pos) bi ac) bO hc hi hs h.clos h.kind h.names h.cell h.ccl h.hcn h.shr h.len (fun c it ac=>UN (hs1 c)) hg
  fun c ac=>VH (X:=X.cmp N scope cl c) bO hc (ii c) (hi1 c) (eG c) (Sl (X:=X.cmp N scope cl c) bO (hif1 c) (he c))
end
section
variable {X:Cx}
end
section
variable {X:Cx}{pins:%[|14]}{σ:St}{H:Hp}{s:Shared}
theorem Hx(n:Nat):(List.range n).all (fun _=>true)=true:=by simp
theorem A0J.units9(r:A0J k A):A.units+9<cLine:=by have:=r.un;omega
end
end L2
namespace HT2
open PySem L2 PyProof.Rows
theorem BL{K:PySem.W.Frag}{row:List Int}{p:Int->Bool}(hr:SqL K H a (row.map V.int))(br:H acc=none)(bo:row.length<=900)(ht:∀k,k∈row->∀H2,A0B H H2->∀R:Bool->Hp->Prop,(∀H3,A0B H2 H3->R (p k) H3)->tc (some (.int k)::rest) H2 R)(hd:∀v0 H2,A0B H H2->H2 acc=some (.lst ((row.filter p).map V.int))->D.nx (v0::rest) H2)(v:Option V):
  EE (Wk K a) (Cu 0) (Dx tc (DC acc (Vz 0))) D (v::rest) (upd H acc (.lst [])):=by
 refine Bf (K:=K) (a:=a) (xs:=row.map V.int) (fun i σ H2=>∃v0,σ=v0::rest/\A0B H H2/\H2 acc=some (.lst (((row.take i).filter p).map V.int))) ⟨v,rfl,Ab br _,A0A⟩ ?_ ?_ ?_
 ·rintro i σ H2 _ ⟨v0,rfl,s2,_⟩;exact s2.seq hr
 ·rintro i x σ H2 hx ⟨v0,rfl,s2,bK⟩;rw[List.getElem?_map] at hx;obtain⟨k,hk,rfl⟩:=Option.map_eq_some_iff.mp hx;have et:row.take (i+1)=row.take i++[k]:=by rw[zAR,hk];rfl
  refine ht k (zAN hk) H2 s2 _ fun H3 s3=>?_
  have eP:=s3 _ _ bK
  cases e:p k with
  | false=>
   refine Aq ⟨_,rfl,s2.trans s3,?_⟩;rw[et,zB7,zCU (by rw[e];simp),zCJ,zA6];exact eP
  | true=>
   refine AB ⟨_,eP,Ar ?_,?_⟩
   ·rw[List.length_map];refine zAD (zAX _ _) ?_;rw[zAW];omega
   refine⟨_,rfl,Ap (s2.trans s3) br _,?_⟩;rw[A0A,et,zB7,zCV e,zCJ,List.map_append];rfl
 ·rintro σ H2 ⟨v0,rfl,s2,bK⟩;rw[List.length_map,zAQ] at bK;exact hd v0 H2 s2 bK
theorem EK{K:PySem.W.Frag}{row:List Int}{f:Int->Bool}(hr:SqL K H a (row.map V.int))(br:H acc=none)(bo:row.length<=900)(ht:∀k,k∈row->∀H2,A0B H H2->∀R:V->Hp->Prop,(∀H3,A0B H2 H3->R (.bl (f k)) H3)->te (some (.int k)::rest) H2 R)(hd:∀v0 H2,A0B H H2->H2 acc=some (.lst ((row.map f).map V.bl))->D.nx (v0::rest) H2)(v:Option V):
  EE (Wk K a) (Cu 0) (Dx M8 (DC acc te)) D (v::rest) (upd H acc (.lst [])):=by
 refine Bf (K:=K) (a:=a) (xs:=row.map V.int) (fun i σ H2=>∃v0,σ=v0::rest/\A0B H H2/\H2 acc=some (.lst (((row.take i).map f).map V.bl))) ⟨v,rfl,Ab br _,A0A⟩ ?_ ?_ ?_
 ·rintro i σ H2 _ ⟨v0,rfl,s2,_⟩;exact s2.seq hr
 ·rintro i x σ H2 hx ⟨v0,rfl,s2,bK⟩;rw[List.getElem?_map] at hx;obtain⟨k,hk,rfl⟩:=Option.map_eq_some_iff.mp hx;have et:row.take (i+1)=row.take i++[k]:=by rw[zAR,hk];rfl
  refine AB ?_;refine ht k (zAN hk) H2 s2 _ fun H3 s3=>?_
  refine⟨_,s3 _ _ bK,Ar ?_,?_⟩
  ·rw[List.length_map,List.length_map,zAW];omega
  refine⟨_,rfl,Ap (s2.trans s3) br _,?_⟩;rw[A0A,et,List.map_append,List.map_append];rfl
 ·rintro σ H2 ⟨v0,rfl,s2,bK⟩;rw[List.length_map,zAQ] at bK;exact hd v0 H2 s2 bK
theorem U3(k:Int)(xs:List Int):OD (.int k) (xs.map V.int)=decide (k∈xs):=by
 unfold OD
 induction xs with
 | nil=>simp
 | cons x r ih=>
  rw[zAP,zBS,ih]
  have e:MK (.int x) (.int k)=decide (x=k):=by
   show (x == k)=decide (x=k);rfl
  rw[e];by_cases h:x=k
  ·subst h;simp
  ·have h':¬k=x:=fun z=>h z.symm
   simp[h,h']
theorem Q9(xs:List Int):(xs.map V.int).all CV=true:=by
 induction xs with
 | nil=>rfl
 | cons x r ih=>rw[zAP,zC2,ih];rfl
theorem Hd{a b:List Int}(ha:a.Pairwise (· < ·))(hb:b.Pairwise (· < ·))(h:∀k,k∈a↔k∈b):a=b:=by
 have na:a.Nodup:=ha.imp fun h=>by omega
 have nb:b.Nodup:=hb.imp fun h=>by omega
 have hp:a.Perm b:=(List.perm_ext_iff_of_nodup na nb).mpr h;exact PySem.W.ksm_same hp (ha.imp fun h=>by omega) (hb.imp fun h=>by omega)
theorem Yi{K:PySem.W.Frag}{k:Int}{row:List Int}(h:SqL K H r (row.map V.int))(q:Q (.bl (decide (k∈row))) H):ZV K false (.int k) (.ref r) H Q:=
 ⟨r,_,rfl,.inl h,rfl,Q9 _,by rw[<-U3] at q;exact q⟩
end HT2
namespace L2
open PySem PySem.Spec PyProof.Rows
section
variable {X:Cx}{N:List Str}{scope:Scope}{cl:List (Str×Addr)}{js:List (%[|30])}{bu tg bg:Expr}{bt:%[|20]}{rest:List Comprehension}{pos dU cq:Pos}{wi:TI}{g:CC->TG}{tb:CC->Addr->TS}{i:Nat}{y:Str}
theorem PK{WB:CC->Value->TY}(bO:X.xe=ED)(hc:X.calm=true)(hi:PI X tg bg wi)(hs:∀x,foldedSetIterable bg X.env x=pure x)(K:A1U X N scope cl js)(ht:∀c it ac,HT (X.cmk N scope cl c) %[|66] 0 it ac tg (WB c ac))(hg:∀c,PG (X.cmk N scope cl c) tg (g c))(hb:∀c ac,PB (X.cmk N scope cl c) (WB c (.ref ac)) (tb c ac))(hN:X.N.Nodup)(hy:X.N[i]? = some y)(iS:Tv X.env.scope y)(iT:swapsWith %[|66] (some (.Name y cq)) dU.line X.env=pure true)(hf:X.fn y=true\/X.env.scope.names.lookup y=some .local):
  PS X (.Assign [.Name y cq] %[|66] dU) (KQ (Ir wi js g tb) (Cu i)):=by
 exists 9;rw[exec_Assign_Name_used _ _ _ _ iT];refine wpAny_bind (wpAny_standAt (wpAny_bind ?_));rw[arm_evalThenUse_ListComp];have h0:=hi pins s σ H _ I h;refine wpAny_bind (wpAny_mono (wpAny_comprehension_free (use:=some (assign (.Name y cq) X.env)) (Q:=fun _ s'=>SP X pins D .next s') (cl:=cl) rfl hs K.clos K.kind K.names (AU h0 fun v s1 h1=>AU h1 fun cJ s2 h2=>?_)) (fun _ s' hq=>wpAny_pure (wpAny_pure hq)) fun _ _ z=>z);obtain⟨it,fp,tn,J,H2,e,I2,T,fb,f2,hR⟩:=h2;subst e;refine wpAny_newObj_type (Ru ?_);have I3:=I2.lnew (ys:=[]) (its:=[]) (t':=s2.toks) .nil (zA5 _)
 have fN:∀b∈fp,b<s2.heap.objs.size:=fun b hb=>by
  obtain⟨o,e,_⟩:=T.obj 0 _ fb b hb;exact zAE e
 have fpa:∀b∈fp,b≠s2.heap.objs.size:=fun b hb=>zAI (fN b hb)
 exists 23;exists 24
 have I4:=I3.cmk (N:=N) (cl:=cl) (js:=js) (scope:=scope) (t':=s2.toks) f3 (fun b hb=>by
  show b<(s2.heap.push _).objs.size
  rw[zAT]
  exact zA1 (fN b hb)) K.kind K.ccl (K.hcn _) (fun i x j e1 e2=>(K.mem e1 e2).1) (fun i x j e1 e2 k=>Ix _ _ _ _ (K.mem e1 e2).2) K.len rfl
 have gy:tn 0 (pushCells (%[|57].push { cls:=.type "dict",data:=.dict #[] }) scope.names):=T.keep 0 _ _ fb fun b hb o e=>pushCells_keeps _ _ _ _ %[|78]
 have f4:∀b∈fp,CG (X.cmk N scope cl ⟨{ s2 with heap:=s2.heap.push { cls:=.type "list",data:=.seq ([]:%[|7]).toArray } },upd H2 s2.heap.objs.size (.lst []),fp⟩) [] (upd H2 s2.heap.objs.size (.lst [])) b:=fun b hb=>
  ⟨(f3 b hb).1,(I4.ok.exf b hb).1,I4.ok.exfs b hb,.inl hb,(I4.ok.exf b hb).2,fun p hp=>absurd (show p∈([]:%[|14]) from hp) %[|2]⟩
 exists 29
 have bY:=codeAny_mono (CL (X:=X.cmk N scope cl ⟨{ s2 with heap:=s2.heap.push { cls:=.type "list",data:=.seq ([]:%[|7]).toArray } },upd H2 s2.heap.objs.size (.lst []),fp⟩) (e:=.ListComp bu (⟨tg,bg,bt,0⟩::rest) scope pos) (d:=0) (acc:=.ref s2.heap.objs.size) (pins:=[]) bO hc (ht _ _ _) rfl rfl rfl T (hg _) (hb _ _) I4 gy f4 hR') (R':=compPost %[|15] X.A X.xe (some (assign (.Name y cq) X.env)) (fun _ s'=>SP X pins D .next s') (.ref s2.heap.objs.size) %[|57].objs.size) (fun r s' hq=>by
  obtain⟨rfl,σ',H',J',q⟩:=hq
  obtain⟨m,hn,_⟩:=id J'.loc
  have I5:%[|13] H' s':=I3.uncmk f3 J' (zBC _ _)
  have nL:%[|57].objs.size≠X.env.locals:=zBN I3.lt
  have nC:∀x c,X.env.cells.lookup x=some c->c≠%[|57].objs.size:=fun x c e=>by
   obtain⟨v,o,ho,_⟩:=I3.cell x c e
   exact zAI (lt3 _ _ ho)
  show wpAny _ _ (assign (.Name y cq) X.env (.ref s2.heap.objs.size)) _ _ _
  refine wpAny_assign_Name (FO I5 hN hy iS (v:=.ref s2.heap.objs.size) rfl (fun s6 I6 ⟨a,sb,ha⟩=>?_) hf)
  have na:%[|57].objs.size≠a:=by
   rcases ha with z | z
   ·rw[z];exact nL
   ·exact zB (nC _ _ z)
  refine⟨m,hn.sameBut sb na,fun h7 sb7=>?_⟩
  refine⟨_,H',I6.turned (t':=s6.toks) (it:=%[|57].objs.size) (fun b ob nb e=>(sb7.2 b nb).trans e) J'.free nL (.inr (zAD I3.sz (zAB _))) nC (fun p hp=>zAI (lt3 _ _ (I3.pin p hp).1)),q⟩)
 exact Cl (X:=X.cmk N scope cl ⟨{ s2 with heap:=s2.heap.push { cls:=.type "list",data:=.seq ([]:%[|7]).toArray } },upd H2 s2.heap.objs.size (.lst []),fp⟩) rfl rfl rfl (fun _=>rfl) True.intro bY (T.self _ 0 _ _ _ gy bY)
theorem Qf{tc:CC->TT}{te:CC->TE}(hN:X.N.Nodup)(hy:X.N[i]? = some y)(iS:Tv X.env.scope y)(h:A1U X N scope cl js)(hi:PI X tg bg wi)(hg:∀c,PG (X.cmk N scope cl c) tg (g c))(ii:∀c,QZ (X.cmk N scope cl c) bt (tc c))(he:∀c,PE (X.cmk N scope cl c) bu (te c))(bO:X.xe=ED:=by rfl)(hc:X.calm=true:=by rfl)(hs:∀x,foldedSetIterable bg X.env x=pure x:=by intro _;rfl)(iT:swapsWith %[|76] (some (.Name y cq)) dU.line X.env=pure true:=by rfl)(hf:X.fn y=true\/X.env.scope.names.lookup y=some .local:=by first | exact .inl rfl | exact .inr rfl):
  PS X (.Assign [.Name y cq] %[|76] dU) (KQ (Ir wi js g fun c ac=>Dx (tc c) (DC ac (te c))) (Cu i)):=
 PK (WB:=fun c ac=>EG (X.cmk N scope cl c) bt bu ac) bO hc hi hs h (fun c it ac=>Ob) hg (fun c ac=>He bO (ii c) (he c)) hN hy iS iT hf
end
def Fh(CX:Jp)(X:Cx)(E:XK)(σ:St):Prop:=∀pins H s e s',%[|5]->CX X.stack H s E e s'->X.xe e s'
def Yw(X:Cx)(σ:St)(e:Expr)(t:TE):Prop:=
 ∀pins s H Q,%[|5]->t σ H Q->%[|19] (eval e X.env) (%[|36]) X.xe s
def WA(X:Cx)(σ:St)(st:List Stmt)(t:TS):Prop:=
 ∀pins s H(D:BH),%[|5]->t D σ H->%[|19] (execs st X.env) (SP X pins D) X.xe s
section
variable {X:Cx}{CX:Jp}{k:Nat}{f:Addr}{fd:FuncData}{ps:List Str}{sp:Sp}{ds:%[|7]}{cf:List V}{E:XK}{σ:St}{x:Str}{e:Expr}{es:%[|20]}{t:TA}{p pos:Pos}
theorem RD(F:%[|69])(hr:A0J k X.A)(hb:Binds X.K fd ps ds)(hd:Vals cf ds)(hx:Fh CX X E σ)(I:%[|5])(r:Vals vs us)(h:sp (vs++cf) H Q E):%[|19] (call (.ref f) us) (%[|36]) X.xe s:=by
 have r2:Vals (vs++cf) (us++ds):=r.append hd;have hl:(us++ds).length=ps.length:=by rw[<-r2.length];exact F.len _ _ _ _ h
 refine wpAny_call (codeAny_mono (F.run X.A X.stack s H ⟨us,[]⟩ (us++ds) (vs++cf) Q E hr I.env0 (hb s us I.kIn hl) r2 h) fun r s' hq=>?_)
 cases r with
 | error e=>exact hx pins H s e s' I hq
 | ok fl=>
  cases fl with
  | ret u=>exact I.after hq
  | next=>exact False.elim hq
  | brk=>exact False.elim hq
  | cont=>exact False.elim hq
theorem QG(F:%[|69])(hr:A0J k X.A)(hg:Gl X x)(hm:X.mg x=some (.ref f))(hk:PySem.W.keepIn X.K (.ref f)=true)(hb:Binds X.K fd ps ds)(hd:Vals cf ds)(hx:Fh CX X E σ)(ha:PA X (e::es) t)(du:%[|49]=false:=by decide)(he:starEach (e::es) X.env=%[|51]::starEach es X.env:=by rfl)(bB:%[|60].any (·.1)=false:=by rfl):
  Yw X σ %[|68] (OS sp cf E t):=by
 intro pins s H Q I h;refine wpAny_Call_Name_kw (Et I hg hm ?_ du);refine zCI (h₀:=X.base) I.ok.mod.kin hk (AU (ha pos pins s σ H _ I h) fun us s1 ⟨vs,H1,I1,r,q⟩=>⟨I1.kIn,?_⟩) he bB;exact RD F hr hb hd hx I1 r q
theorem SZ(hN:X.N.Nodup)(hi:X.N[i]? = some x)(hx:Tv X.env.scope x)(he:Yw X σ e te)(hs:swapsWith e (some (.Name x cb)) pos.line X.env=pure false:=by rfl)(hf:X.fn x=true\/X.env.scope.names.lookup x=some .local:=by first | exact .inl rfl | exact .inr rfl | assumption):
  WA X σ [.Assign [.Name x cb] e pos] (KQ te (Cu i)):=by
 intro pins s H D I h;refine wpAny_execs_cons (wpAny_Assign_Name (AU (he pins s H _ I h) fun v s1 ⟨y,H1,I1,r1,q1⟩=>?_) hs);refine IE I1 hN hi hx r1 (fun s2 I2=>?_) hf;exact wpAny_execs_nil ⟨_,H1,I2,q1⟩
end
def VQ(X:Cx)(hs:List ExceptHandler)(t:St->VN):Prop:=
 ∀pins(D:BH)(σ:St)a T C dx H s,%[|5]->Uw s.heap a (.ref C) dx T .none->H a=none->H T=none->a≠X.env.locals->a∉X.fs->
  ((T∈X.ex\/X.s₀.heap.objs.size<=T)/\T≠X.env.locals/\(∀x c,X.env.cells.lookup x=some c->c≠T)/\∀p∈X.pn++pins,p.1≠T)->t σ D C dx H->
  wpAny %[|15] X.A (handleBy (.ref a) X.env hs) (SP X pins D) X.xe s
theorem Vp:VQ X [] (fun _ _ _ _ _=>False):=fun _ _ _ _ _ _ _ _ _ _ _ _ _ _ _ _ h=>h.elim
def Zp(K:PySem.W.Frag)(Dc:Addr)(th:Addr->Obj->TS)(tr:St->VN):St->VN:=fun σ D C dx H=>∃r,PySem.W.mroIn K C (.ref Dc)=some r/\
 If r (∀a vs sl,H a=none->th a ⟨.ref C,dx,.fields vs,sl⟩ D σ H) (tr σ D C dx H)
inductive Ws(tb:XK->TS)(th:St->VN)(D:BH)(σ:St)(H:Hp):Prop where
 | mk (E:XK) (_:tb E D σ H) (_:∀cls dx H',E cls dx H'->∃C,cls= .ref C/\th σ D C dx H'):Ws tb th D σ H
section
variable {X:Cx}{Dc:Addr}{i:Nat}{x n:Str}{np dz pos:Pos}{body dI:List Stmt}{b0:Stmt}{tb:XK->TS}{th:Addr->Obj->TS}{hs:List ExceptHandler}{tr:St->VN}
theorem EM(hth:∀a oe,PSs (X.caught a oe) (b0::dI) (th a oe))(hr:VQ X hs tr)(hg:Gl X x)(hm:X.mg x=some (.ref Dc))(hD:PySem.W.typeIn X.K (.ref Dc)=some (.type "type"))(cD:(PySem.W.clsIn X.K Dc).isSome=true)(hB:PySem.W.mroIn X.K Dc (.type "BaseException")=some true)(du:%[|49]=false:=by decide):
  VQ X (.ExceptHandler (some (.Name x np)) none (b0::dI) dz::hs) (Zp X.K Dc th tr):=by
 intro pins D σ a T C dx H s J F5 ha hT h1 h2 yT h;obtain⟨r,bS,h⟩:=h;have ok:=J.ok;obtain⟨vs,sl,oT,ts,e5,e51,ne5,rest5⟩:=id F5;have J6:=J.caught e5 ha h1 h2 (fun v z=>by cases z);refine wpAny_handleBy_cons (codeAny_handlers_test (Et (X:=X.caught a ⟨.ref C,dx,.fields vs,sl⟩) J6 hg hm (PySem.W.Looks.here (P3 J6.kIn hD cD hB bS e5 rfl) ?_) du)) %[|11]
 cases r with
 | false=>exact hr pins D σ a T C dx H s J F5 ha hT h1 h2 yT h.f
 | true=>
  refine codeAny_handlers_suite (V4 F5 fun h6 S6 F6=>?_)
  have J7:Inv (X.caught a ⟨.ref C,dx,.fields vs,sl⟩) pins σ H { s with heap:=h6 }:=J6.call' (ch:=[T]) (s':={ s with heap:=h6 }) rfl ((S6.un H).mono (fun b hb=>absurd hb %[|2]) fun _ z=>z)
   (S6.hok J6.hok (fun b hb=>absurd hb %[|2]) fun b hb=>by rw[List.mem_singleton.mp hb];exact hT) J.bare fun b hb=>by
    rw[List.mem_singleton.mp hb];obtain⟨y1,y2,y3,y4⟩:=yT;refine⟨y1,y2,y3,fun p hp=>?_⟩;rcases List.mem_cons.mp (show p∈(a,(⟨.ref C,dx,.fields vs,sl⟩:Obj))::(X.pn++pins) from hp) with z | z
    ·rw[z];exact zB ne5
    ·exact y4 p z
  refine wpAny_mono (hth a ⟨.ref C,dx,.fields vs,sl⟩ pins _ _ H D J7 (h.t a vs sl ha)) (fun f s9 q=>?_) fun _ _ z=>False.elim z
  cases f with
  | next=>obtain⟨σ9,H9,J9,q9⟩:=q;exact⟨σ9,H9,J9.uncaught (ok:=ok),q9⟩
  | brk=>obtain⟨σ9,H9,J9,q9⟩:=q;exact⟨σ9,H9,J9.uncaught (ok:=ok),q9⟩
  | cont=>obtain⟨σ9,H9,J9,q9⟩:=q;exact⟨σ9,H9,J9.uncaught (ok:=ok),q9⟩
  | ret u=>obtain⟨v,σ9,H9,J9,r9,q9⟩:=q;exact⟨v,σ9,H9,J9.uncaught (ok:=ok),r9,q9⟩
theorem UM(hb:∀(σ:St) (E:XK) (pn:%[|14]) (Ex:Value->Shared->Prop),Fh (Cb X.prog X.w) (X.within pn Ex) E σ->WA (X.within pn Ex) σ body (tb E))(hh:VQ X (h0::hs) tt)(stk:X.stack=X.env::X.outer)(hf:X.env.frame=some X.env.locals):PS X (.Try body (h0::hs) [] [] pos) (Ws tb tt):=by
 exists 9;obtain⟨E,h1,h2⟩:=h;have ok:=I.ok
 let Ex:Value->Shared->Prop:=fun e s1=>%[|19] (noteFrame e X.env) (fun _ s2=>%[|19] (setFlight e none) (fun _ s3=>
  wpAny %[|15] X.A (handleBy e X.env (h0::hs)) (SP X pins D) X.xe s3) X.xe s2) X.xe s1
 refine wpAny_Try_except (wpAny_mono (hb σ E (X.pn++pins) Ex ?_ [] s H D (I.within Ex) h1) (fun f s1 q=>?_) fun e s1 q=>q)
 ·intro iQ H2 s2 e s' I2 hx;obtain⟨a,T,cls,dx,H',rfl,os,bare,un,hok,F,ha,hT,la,lT,qe⟩:=hx;obtain⟨C,rfl,hsu⟩:=h2 cls dx H' qe;have J2:=I2.out ok;have un':Un (Hv X.stack) [] H2 H' s2.heap s'.heap:=un;have J3:=J2.call' os un' hok bare (fun b z=>absurd z %[|2]);have st:=J3.stack;have frm:=ok.frames;have fre:=J3.stkFree;rw[stk] at st frm fre;show wpAny _ _ (noteFrame _ _) _ _ _;refine Pe frm st hf F fun h4 T4 fD S4 F4=>V4 F4 fun h5 S5 F5=>?_
  have two:∀b∈[a,T],s2.heap.objs.size<=b/\H' b=none:=fun b hb=>by
   rcases List.mem_cons.mp hb with z | z
   ·rw[z];exact⟨la,ha⟩
   ·rw[List.mem_singleton.mp z];exact⟨lT,hT⟩
  have hT4n:H' T4=none:=J3.hok.fresh fD;have J4:%[|13] H' { s' with heap:=h4 }:=J3.call' (ch:=[a,T]) (s':={ s' with heap:=h4 }) rfl (by rw[stk];exact S4.un H') (S4.hok J3.hok fre fun b hb=>(two b hb).2) J3.bare fun b hb=>J2.young (two b hb).1
  have J5:%[|13] H' { s' with heap:=h5 }:=J4.call' (ch:=[T4]) (s':={ s' with heap:=h5 }) rfl ((S5.un H').mono (fun b hb=>absurd hb %[|2]) fun _ z=>z) (S5.hok J4.hok (fun b hb=>absurd hb %[|2]) fun b hb=>by rw[List.mem_singleton.mp hb];exact hT4n) J3.bare
   fun b hb=>by rw[List.mem_singleton.mp hb];exact J3.young fD
  exact hh pins D σ a T4 C dx H' _ J5 F5 ha hT4n (J2.young la).2.1 (J2.nofs la) (J3.young fD) hsu
 ·cases f with
  | next=>obtain⟨σ',H',I',q'⟩:=q;exact wpAny_execs_nil ⟨σ',H',I'.out ok,q'⟩
  | brk=>obtain⟨σ',H',I',q'⟩:=q;exact⟨σ',H',I'.out ok,q'⟩
  | cont=>obtain⟨σ',H',I',q'⟩:=q;exact⟨σ',H',I'.out ok,q'⟩
  | ret u=>obtain⟨v,σ',H',I',r',q'⟩:=q;exact⟨v,σ',H',I'.out ok,r',q'⟩
end
section
variable {X:Cx}{Dc:Addr}{i:Nat}{x n:Str}{np dz pos:Pos}{body dI:List Stmt}{b0:Stmt}{tb:XK->TS}{th:Addr->Obj->TS}{hs:List ExceptHandler}{tr:VN}{pins:%[|14]}{σ:St}{H:Hp}{s:Shared}
end
section
variable {prog:Program}{w:World}{A:Around}{E:Value->Shared->Prop}{s:Shared}{env:Env}
end
section
variable {X:Cx}{tg:Expr}{ah:Addr}{oh:Obj}
end
section
variable {X:Cx}{e tg:Expr}{d:Nat}{acc:Value}{it:Addr}{WB:TY}{tb:TS}{g:TG}{J:It}{fp:%[|6]}{tn:Nat->Heap->Prop}{D:BH}{pins:%[|14]}{σ:St}{H:Hp}{s:Shared}
end
section
variable {X:Cx}{N:List Str}{scope:Scope}{cl:List (Str×Addr)}{js:List (%[|30])}{bu tg bg:Expr}{bt:%[|20]}{rest:List Comprehension}{pos:Pos}{wi:TI}{g:CC->TG}{tb:CC->Addr->TS}
end
theorem TD(h:Heap)(hb:sysModules<h.objs.size):A0O P w H (h.push { cls:=.type "dict",data:=.dict #[] }) h.objs.size (.dK []):=by
 refine⟨zA5 _,?_,[],.nil,Heap.DictOf.new h⟩;rw[beq_eq_false_iff_ne];exact fun z=>by rw[z] at hb;exact zBM _ hb
def Vj:TE:=fun _ H Q=>∀d,H d=none->Q (.ref d) (upd H d (.dK []))
section
variable {X:Cx}{pos:Pos}
theorem QK:PE X (.Dict [] [] pos) Vj:=by
 exists 1;have fr:H s.heap.objs.size=none:=I.hok.fresh (zAB _);refine wpAny_Dict_empty ⟨.ref s.heap.objs.size,upd H s.heap.objs.size (.dK []),?_,rfl,h _ fr⟩;exact I.laid (t':=s.toks) (fun b o q=>Heap.get?_push_of_some _ q) (zAB _) (TD s.heap (zBX (by decide:sysModules<mainGlobals) (I.mod.glob.keeps I.bk).lt))
inductive Pi(x:V)(vs:List V)(H:Hp)(Q:VK):Prop where
 | mk (l:Addr) (xs:List V) (k:Nat) (i:Int) (y:V) (_:x= .ref l) (_:vs=[.int i,y]) (_:i=(k:Int)) (_:H l=some (.lst xs)) (_:k<=xs.length) (_:xs.length<=1000) (_:Q .non (upd H l (.lst (xs.take k++y::xs.drop k)))):Pi x vs H Q
theorem Nd(h0:0<=i)(h1:i<=1000):¬(!Builtin.List.listFitsIndex i)=true:=by
 unfold Builtin.List.listFitsIndex;rw[decide_eq_true (by omega : -(2^63:Int)<=i),decide_eq_true (by omega:i<2^63)];decide
theorem Ra:ZQ X "list.insert" Pi:=by
 exists 15;obtain⟨l,xs,k,i,y,rfl,rfl,ei,hH,hk,hz,q⟩:=h;cases rx;obtain⟨u1,us,rfl⟩:∃u1 us',us=u1::us':=by cases rv with | cons _ _=>exact⟨_,_,rfl⟩
 cases rv with
 | cons r1 rv=>
  obtain⟨u2,rfl,r2⟩:=Vals.one rv;obtain⟨t,rfl⟩:=r1;obtain⟨z,its,n,r,hl,e⟩:=I.lstM hH;have hfit:=Nd (i:=i) %[|1] %[|1];have hz2:its.toArray.size<=sizeLine:=by rw[zAH,<-hl];exact z
  refine call_meets F.slot_list_insert ⟨_,e,rfl⟩ F.entry_list_insert (F.args_list_insert_3 _ _ _) (AutoSeq1.list_insert_list_int_val_1 l its.toArray n i t u2 hfit hz2) ⟨e,?_⟩;refine⟨.non,_,I.lset (its':=its.take k++u2::its.drop k) hH e ?_ ((Vals.take k r).append (.cons r2 (Vals.drop k r))) ?_,rfl,q⟩
  ·have h0:¬i<0:=by omega
   have h1:min i.toNat its.toArray.size=k:=by rw[ei,zBB,zAH];omega
   simp only[if_neg h0,h1];apply Array.ext';simp;exact List.take_of_length_le (by rw[zC3];exact zAB _)
  ·rw[zA,zAL,zAW,zC3];exact zAD (by omega:min k xs.length+(xs.length-k+1)<=1001) %[|0]
inductive Gh(xs:List V)(H:Hp)(Q:VK):Prop where
 | mk (i:Int) (_:xs=[.int i]) (_:0<=i) (_:i<2^60) (_:Q (.str (toString i)) H):Gh xs H Q
theorem Jk:Ce X (.type "str") (Gh):=by
 exists 7;obtain⟨i,rfl,h0,h1,q⟩:=h;obtain⟨u,rfl,ru⟩:=CT r;obtain⟨t,rfl⟩:=ru;refine P.str_of_int ?_ ⟨.str (toString i),H,?_,⟨_,rfl⟩,q⟩
 ·have:i.natAbs<2^60:=by omega
  have h2:i.natAbs.log2<61:=by
   by_cases c:i.natAbs=0
   ·rw[c];decide
   ·exact zAM ((Nat.log2_lt c).mpr this) %[|0]
  omega
 ·exact I.tok _
end
def E3:%[|17]->Value
 | none=>.none
 | some b=>.bool b
def IV(k:%[|17])(v:Value):Bool:=match k,v with
 | none,.none=>true
 | some b,.bool c=>b == c
 | _,_=>false
theorem Co(h:IV k v=true):v=E3 k:=by
 cases k with
 | none=>cases v<;>simp_all [IV,E3]
 | some b=>cases v<;>simp_all [IV,E3]
theorem Sk(k:%[|17]):IV k (E3 k)=true:=by
 cases k with
 | none=>rfl
 | some b=>cases b<;>rfl
def Wu:%[|17]->Int
 | none=>0xFCA86420
 | some true=>1
 | some false=>0
section
variable {prog:Program}{w:World}{A:Around}{E:Value->Shared->Prop}{s:Shared}
theorem KO{T id:String}(hn:pyHash v=pyHashByItsType v)(hv:[v].any Value.onHeap=false)(hT:s.TypeIs v T)(slot:Slot T "__hash__" id)(entry:entryFor table id=some B)(args:argsOk id ⟨[v],[]⟩)(e:B ⟨[v],[]⟩=(do ret (<-mkInt i)))(h0:0<=i)(h1:i<2^62)(h:Q i { s with toks:=s.toks+1 }):%[|27] (pyHash v) Q E s:=by
 rw[hn];unfold pyHashByItsType;exists 2;rw[cRoomFor,if_neg (by rw[hv];decide)];exists 6;refine wpAny_bind (wpAny_specialOf hT slot.lookup ?_);rw[if_neg (by rw[beq_builtin_none];decide)];refine wpAny_bind (wpAny_specialOf hT slot.lookup ?_);refine wpAny_bind (wpAny_callSpecialIfBoundUnlessNone?_slot hT slot (wpAny_call_entry slot hT entry ?_ args));rw[e];refine wpAny_ret_mkInt ?_;show wpAny _ _ (if (decide (-(2:Int)^63<=i) && decide (i<2^63))=true then _ else _) Q E _;rw[if_pos (by rw[decide_eq_true %[|1],decide_eq_true %[|1]];rfl)];have e1:(if (i == -1)=true then (-2:Int) else i)=i:=if_neg (by intro z;have:=eq_of_beq z;omega);rw[e1];exact wpAny_pure h
theorem PY(h:Q (Wu k) { s with toks:=s.toks+1 }):%[|27] (pyHash (E3 k)) Q E s:=by
 cases k with
 | none=>exact KO rfl rfl (PySem.typeIs_none s) F.slot_NoneType_hash F.entry_NoneType_hash (F.args_NoneType_hash_1 _) rfl %[|0] %[|0] h
 | some b=>
  cases b with
  | true=>exact KO rfl rfl (PySem.typeIs_bool s true) F.slot_bool_hash F.entry_int_hash (F.args_int_hash_1 _) rfl %[|0] %[|0] h
  | false=>exact KO rfl rfl (PySem.typeIs_bool s false) F.slot_bool_hash F.entry_int_hash (F.args_int_hash_1 _) rfl %[|0] %[|0] h
theorem Wo(h:Q (decide (a=b)) s):%[|27] (eqBool (E3 a) (E3 b)) Q E s:=by
 cases a with
 | none=>
  cases b with
  | none=>exact zC9 _ _ _ _ _ h
  | some y=>exact SeqAt.EqAt.none_bool y _ _ _ _ h
 | some x=>
  cases b with
  | none=>exact SeqAt.EqAt.bool_none x _ _ _ _ h
  | some y=>
   refine SeqAt.EqAt.bool_bool x y _ _ _ _ ?_;cases x<;>cases y<;>exact h
end
def LU(prog:Program)(w:World):PySem.KeyKind prog w (%[|17]) where
 is:=IV
 hash:=Wu
 inj:=fun v a b ha hb=>by
  have e:=(Co ha).symm.trans (Co hb);cases a<;>cases b<;>simp_all [E3]
 byValue:=fun k v h=>by
  rw[Co h];cases k<;>rfl
 pyHash:=fun hv h=>by
  rw[Co hv];exact PY h
 eqBool:=fun hu hv h=>by
  rw[Co hu,Co hv];exact Wo h
 «strs»:=fun k x t v h=>by
  cases k<;>cases h
def aP:%[|17]->V
 | none=>.non
 | some b=>.bl b
def Wl(P:Program)(w:World)(K:PySem.W.Frag)(d:Addr)(f:%[|17]->Str):Prop:=
 (d == sysModules)=false/\∃(o:Obj)(vs:List (%[|17]×Value)),K.lookup d=some o/\o.IsDictOf (LU P w) vs/\∀k,∃t,valueAt vs k=some (.str (f k) t)
section
variable {X:Cx}
inductive Wt(P:Program)(w:World)(K:PySem.W.Frag)(x:V)(y:V)(H:Hp)(Q:VK):Prop where
 | mk (d k f) (_:x= .ref d) (_:y=aP k) (_:Wl P w K d f) (_:Q (.str (f k)) H):Wt P w K x y H Q
theorem VY:WR X (Wt X.prog X.w X.K):=by
 exists 17;obtain⟨d,k,f,rfl,rfl,⟨hm,o,vs,hk,hd,hv⟩,q⟩:=h;cases rx
 obtain rfl:u=E3 k:=by
  cases k with
  | none=>exact ry
  | some b=>exact ry
 have hD:s.heap.DictOf (LU X.prog X.w) d vs:=Heap.dictOf_iff.mpr ⟨o,I.kIn d o hk,hd⟩;obtain⟨t,ev⟩:=hv k;exact tail_any hD.typeIs slot_dict_getitem.lookup (wpAny_getItem_of (Sk k) hD.mapOf ev ⟨.str (f k),H,I.tok _,⟨_,rfl⟩,q⟩) hs
theorem ZJ{K:PySem.W.Frag}(l:K.lookup dd=some ⟨.type "dict",none,.dict #[⟨1,.bool true,.str x t1⟩,⟨0,.bool false,.str y t2⟩,⟨0xFCA86420,.none,.str z t3⟩] ep,#[]⟩)(nm:(dd == sysModules)=false)(h1:f (some true)=x)(h2:f (some false)=y)(h3:f none=z):Wl P w K dd f:=by
 refine⟨nm,_,[(some true,.str x t1),(some false,.str y t2),(none,.str z t3)],l,⟨_,_,⟨rfl,rfl,rfl⟩,rfl,fun e he=>?_,?_,(by show[some true,some false,none].Nodup;decide)⟩,fun k=>?_⟩
 ·have fV:e=⟨1,.bool true,.str x t1⟩\/e=⟨0,.bool false,.str y t2⟩\/e=⟨0xFCA86420,.none,.str z t3⟩:=by simpa using he
  rcases fV with e1 | e1 | e1
  ·subst e1;exact⟨some true,rfl,rfl⟩
  ·subst e1;exact⟨some false,rfl,rfl⟩
  ·subst e1;exact⟨none,rfl,rfl⟩
 ·exact .cons rfl rfl (.cons rfl rfl (.cons rfl rfl .nil))
 ·unfold valueAt
  cases k with
  | none=>exact⟨t3,by rw[h3];rfl⟩
  | some b=>
   cases b with
   | true=>exact⟨t1,by rw[h1];rfl⟩
   | false=>exact⟨t2,by rw[h2];rfl⟩
inductive OF(x:V)(y:V)(H:Hp)(Q:VK):Prop where
 | mk (i j:Int) (r:Addr) (_:x= .int i) (_:y= .ref r) (_:H r=some (.rng 0 j)) (_:Q (.bl (!decide (0<=i/\i<j))) H):OF x y H Q
theorem QI(i j:Int):(Builtin.Range.rangePlace? 0 j 1 i).isSome=decide (0<=i/\i<j):=by
 unfold Builtin.Range.rangePlace?;by_cases h1:0<=i
 ·by_cases h2:i<j
  ·simp[h1,h2]
  ·simp[h1,h2]
 ·simp[h1]
theorem QN:C3 X (compareOp .NotIn) OF:=by
 exists 3;obtain⟨i,j,r,rfl,rfl,hr,q⟩:=h;exists 5;cases ry;obtain⟨t1,t2,t3,ho⟩:=(show A0O X.prog X.w H s.heap r (.rng 0 j) from I.hok r _ hr)
 have g:Meets (Builtin.«range.__contains__» ⟨[.ref r,.int i t],[]⟩) (fun _ R s=>s.heap.get? r=some { cls:=.type "range",data:=.fields #[.int 0 t1,.int j t2,.int 1 t3] }/\R (.ok (.ret (.bool (decide (0<=i/\i<j))))) s):=.of_wp fun prog w A R s h=>by
  obtain⟨hl,h⟩:=h;unfold Builtin.«range.__contains__»;refine wpAny_bind (wpAny_of_eq rfl ?_);show wpAny _ _ (do rule "range.contains.reckoned";let (a,b,c) <-Builtin.Range.rangeFields (.ref r);ret (.bool (Builtin.Range.rangePlace? a b c i).isSome)) _ _ _;refine wpAny_bind (wpAny_rule ?_);exists 2;unfold Builtin.Range.rangeFields;refine wpAny_bind (wpAny_field hl rfl rfl ?_);refine wpAny_bind (wpAny_of_eq rfl ?_);refine wpAny_bind (wpAny_field hl rfl rfl ?_);refine wpAny_bind (wpAny_of_eq rfl ?_);refine wpAny_bind (wpAny_field hl rfl rfl ?_);refine wpAny_bind (wpAny_of_eq rfl ?_);exists 6;show wpAny _ _ (ret (.bool (Builtin.Range.rangePlace? 0 j 1 i).isSome)) _ _ _;rw[QI];exact wpAny_pure ⟨_,rfl,h⟩
 exact PySem.SeqRoads2.notIn_meets ⟨_,ho,rfl⟩ F.slot_range_contains F.entry_range_contains (F.args_range_contains_2 _ _) g ⟨ho,_,rfl,.bl _,H,I,rfl,q⟩
end
def dS(d:List (Str×V)):List (DX×V):=d.map fun p=>(Sum.inr p.1,p.2)
def BC(d:List (Str×V))(k:Str):Option V:=(d.find? fun p=>decide (p.1=k)).map (·.2)
def P2(d:List (Str×V))(k:Str):List (Str×V):=d.filter fun p=>decide (p.1≠k)
theorem EH(d:List (Str×V)):(dS d).length=d.length:=List.length_map _
theorem Sb(d e:List (Str×V)):dS (d++e)=dS d++dS e:=List.map_append ..
theorem Mw:∀{d:List (Str×V)}{vs:List (DX×Value)}(_:KV (dS d) vs)(k:Str),A1G (BC d k) (valueAt vs (.inr k))
 | [],vs,r,k=>by cases r;exact True.intro
 | p::d,vs,r,k=>by
  cases r with
  | @cons _ q _ qs h t=>
   by_cases e:p.1=k
   ·have e':q.1=Sum.inr k:=by rw[<-h.1];exact congrArg Sum.inr e
    have a:BC (p::d) k=some p.2:=by simp[BC,List.find?_cons,e]
    have b:valueAt (q::qs) (.inr k)=some q.2:=by simp[valueAt,List.find?_cons,e']
    rw[a,b];exact h.2
   ·have e':¬q.1=Sum.inr k:=by rw[<-h.1];exact fun z=>e (zCO z)
    have a:BC (p::d) k=BC d k:=by simp[BC,List.find?_cons,e]
    have b:valueAt (q::qs) (.inr k)=valueAt qs (.inr k):=by simp[valueAt,List.find?_cons,e']
    rw[a,b];exact Mw t k
theorem Kn:∀{d:List (DX×V)}{vs:List (DX×Value)}{k:DX}{v:V}{u:Value},KV d vs->RelV v u->KV (d++[(k,v)]) (vs++[(k,u)])
 | [],vs,k,v,u,r,ru=>by cases r;exact .cons ⟨rfl,ru⟩ .nil
 | p::d,vs,k,v,u,r,ru=>by cases r with | cons h t=>exact .cons h (Kn t ru)
theorem Tq:∀{d:List (Str×V)}{vs:List (DX×Value)}(_:KV (dS d) vs){k:Str},BC d k=none->(vs.any fun kv=>decide (kv.1=Sum.inr k))=false
 | [],vs,r,k,_=>by cases r;rfl
 | p::d,vs,r,k,h0=>by
  cases r with
  | @cons _ q _ qs h t=>
   by_cases e:p.1=k
   ·have a:BC (p::d) k=some p.2:=by simp[BC,List.find?_cons,e]
    rw[a] at h0;exact nomatch h0
   ·have e':¬q.1=Sum.inr k:=by rw[<-h.1];exact fun z=>e (zCO z)
    have a:BC (p::d) k=BC d k:=by simp[BC,List.find?_cons,e]
    rw[zBS,decide_eq_false e',Tq t (a ▸ h0)];rfl
theorem MV:∀{d:List (Str×V)}{vs:List (DX×Value)}(_:KV (dS d) vs)(k:Str),KV (dS (P2 d k)) (without vs (.inr k))
 | [],vs,r,k=>by cases r;exact .nil
 | p::d,vs,r,k=>by
  cases r with
  | @cons _ q _ qs h t=>
   unfold P2 without;rw[zBT,zBT];by_cases e:p.1=k
   ·have e':q.1=Sum.inr k:=by rw[<-h.1];exact congrArg Sum.inr e
    rw[if_neg (by simp[e]),if_neg (by simp[e'])];exact MV t k
   ·have e':¬q.1=Sum.inr k:=by rw[<-h.1];exact fun z=>e (zCO z)
    rw[if_pos (by simp[e]),if_pos (by simp[e'])];exact .cons h (MV t k)
section
variable {X:Cx}
theorem Gy(I:%[|5])(h:H a=some (.dK (dS d))):
  d.length<=sizeLine/\(a == sysModules)=false/\∃vs,KV (dS d) vs/\s.heap.DictOf (CI X.prog X.w) a vs:=by
 have:=(show A0O X.prog X.w H s.heap a (.dK (dS d)) from I.hok a _ h);obtain⟨z,m,r⟩:=this;exact⟨by rw[<-EH];exact z,m,r⟩
theorem KD(I:%[|5])(h:H a=some (.dK (dS d)))(hm:(a == sysModules)=false)(hs:Heap.SameBut a s.heap h')(hd:h'.DictOf (CI X.prog X.w) a vs)(r:KV (dS d') vs)(hl:d'.length<=sizeLine):%[|13] (upd H a (.dK (dS d'))) { s with heap:=h',toks:=t' }:=by
 have he:∃q,h'.get? a=some q:=let ⟨q,_,_,hq,_⟩:=hd;⟨q,hq⟩
 exact I.write (x:=a) (e:=a) (by rw[h];exact True.intro) (.inl rfl) (fun b q hb z=>(hs.2 b hb).trans z) he ⟨by rw[EH];exact hl,hm,vs,r,hd⟩
inductive Xh(neg:Bool)(x:V)(y:V)(H:Hp)(Q:VK):Prop where
 | mk (a:Addr) (d:List (Str×V)) (k:Str) (_:x= .str k) (_:y= .ref a) (_:H a=some (.dK (dS d))) (_:Q (.bl (neg ^^ (BC d k).isSome)) H):Xh neg x y H Q
theorem Gv(r:A1G a b):a.isSome=b.isSome:=by
 cases a<;>cases b<;>first | rfl | exact False.elim r
theorem Yv:C3 X (compareOp .In) (Xh false):=by
 exists 3;obtain⟨a,d,k,rfl,rfl,hd,q⟩:=h;exists 5;cases ry;obtain⟨_,hm,vs,r,D⟩:=Gy I hd;refine wpAny_in_of (BM _ _ k t) hm D.mapOf ⟨.bl _,H,I.tok _,?_,q⟩;rw[Bool.false_xor,Gv (Mw r k)];rfl
theorem Qq:C3 X (compareOp .NotIn) (Xh true):=by
 exists 3;obtain⟨a,d,k,rfl,rfl,hd,q⟩:=h;exists 5;cases ry;obtain⟨_,hm,vs,r,D⟩:=Gy I hd;refine wpAny_notIn_of (BM _ _ k t) hm D.mapOf ⟨.bl _,H,I.tok _,?_,q⟩;rw[Bool.true_xor,Gv (Mw r k)];rfl
inductive Wv(a:Addr)(k:Str)(H:Hp)(Q:VK):Prop where
 | mk {d z} (_:H a=some (.dK (dS d))) (_:BC d k=some z) (_:Q z H):Wv a k H Q
def Z7:R2:=fun x y H Q=>vR (fun a=>vS (fun k=>Wv a k H Q) y) x
theorem AE:WR X Z7:=by
 exists 17;obtain⟨a,rfl,h0⟩:=CU h;obtain⟨k,rfl,@⟨d,z,hd,e,q⟩⟩:=Ut h0;cases rx;obtain⟨t,rfl⟩:=ry;obtain⟨_,hm,vs,r,D⟩:=Gy I hd;have hr:=Mw r k;rw[e] at hr
 cases ev:valueAt vs (Sum.inr k:DX) with
 | none=>rw[ev] at hr;exact False.elim hr
 | some u'=>
  rw[ev] at hr;exact tail_any D.typeIs slot_dict_getitem.lookup (wpAny_getItem_of (BM _ _ k t) D.mapOf ev ⟨z,H,I.tok _,hr,q⟩) hs
inductive WY(o:V)(i:V)(v:V)(H:Hp)(Q:(Hp->Prop)):Prop where
 | mk (a:Addr) (d:List (Str×V)) (k:Str) (_:o= .ref a) (_:i= .str k) (_:H a=some (.dK (dS d))) (_:BC d k=none) (_:d.length<=1000) (_:Q (upd H a (.dK (dS (d++[(k,v)]))))):WY o i v H Q
theorem Me:We X WY:=by
 intro pins s σ H o i v ov iv u Q I ro ri rv h;obtain⟨a,d,k,rfl,rfl,hd,hn,hl,q⟩:=h;cases ro;obtain⟨t,rfl⟩:=ri;obtain⟨hz,hm,vs,r,D⟩:=Gy I hd;have hvl:vs.length=d.length:=by rw[<-zB0 r,EH]
 refine wpAny_setItem_pairs (hsz:=by rw[hvl];exact hz) (BM _ _ k t) D fun h' D' hs=>⟨_,KD I hd hm hs D' (d':=d++[(k,v)]) ?_ ?_,q⟩
 ·unfold stored;rw[Tq r hn,if_neg zAF,Sb];exact Kn r rv
 ·rw[zA];exact zAD (show d.length+1<=1001 by omega) %[|0]
inductive Wz(x:V)(vs:List V)(H:Hp)(Q:VK):Prop where
 | mk (a:Addr) (d:List (Str×V)) (k:Str) (z:V) (_:x= .ref a) (_:vs=[.str k]) (_:H a=some (.dK (dS d))) (_:BC d k=some z) (_:Q z (upd H a (.dK (dS (P2 d k))))):Wz x vs H Q
theorem Wn:Zi X "dict.pop" Wz:=by
 exists 15;obtain⟨a,d,k,z,rfl,rfl,hd,e,q⟩:=h;cases rx;obtain⟨u,rfl,ru⟩:=rv.one;obtain⟨t,rfl⟩:=ru;obtain⟨hz,hm,ws,r,D⟩:=Gy I hd;have hvl:ws.length=d.length:=by rw[<-zB0 r,EH]
 have hr:=Mw r k;rw[e] at hr
 cases ev:valueAt ws (Sum.inr k:DX) with
 | none=>rw[ev] at hr;exact False.elim hr
 | some u'=>
  rw[ev] at hr
  refine call_meetsIn PySem.F.slot_dict_pop D.typeIs PySem.F.entry_dict_pop (PySem.F.args_dict_pop_2 _ _) (meets_dict_pop_there (CI X.prog X.w) a (BM _ _ k t) [] (.inl rfl) rfl)
   ⟨ws,u',D,by rw[hvl];exact hz,ev,fun h' D' hs=>⟨z,_,KD I hd hm hs D' (d':=P2 d k) (MV r k) (zAD (zAX _ _) hz),hr,q⟩⟩
end
def Wa(d:List (Str×V))(k:Str):Bool:=d.any fun p=>decide (p.1=k)
def Ck(d:List (Str×V))(k:Str)(v:V):List (Str×V):=if Wa d k=true then d.map (fun p=>if p.1=k then (p.1,v) else p) else d++[(k,v)]
theorem SH:∀{d:List (Str×V)}{vs:List (DX×Value)}(_:KV (dS d) vs)(k:Str),(vs.any fun kv=>decide (kv.1=Sum.inr k))=Wa d k
 | [],vs,r,k=>by cases r;rfl
 | p::d,vs,r,k=>by
  cases r with
  | @cons _ q _ qs h t=>
   have ih:=SH t k
   have e:decide (q.1=Sum.inr k)=decide (p.1=k):=by
    rw[zA3,decide_eq_true_iff,decide_eq_true_iff,<-h.1];exact⟨fun z=>zCO z,fun z=>congrArg Sum.inr z⟩
   show (decide (q.1=Sum.inr k) || (qs.any fun kv=>decide (kv.1=Sum.inr k)))=(decide (p.1=k) || Wa d k);rw[e,ih]
theorem O8:∀{d:List (Str×V)}{vs:List (DX×Value)}{k:Str}{v:V}{u:Value}(_:KV (dS d) vs),RelV v u->KV (dS (d.map fun p=>if p.1=k then (p.1,v) else p)) (vs.map fun kv=>if kv.1=Sum.inr k then (kv.1,u) else kv)
 | [],vs,k,v,u,r,_=>by cases r;exact .nil
 | p::d,vs,k,v,u,r,ru=>by
  cases r with
  | @cons _ q _ qs h t=>
   have ih:=O8 (k:=k) t ru;by_cases e:p.1=k
   ·have e':q.1=Sum.inr k:=by rw[<-h.1];exact congrArg Sum.inr e
    show KV ((Sum.inr (if p.1=k then (p.1,v) else p).1,(if p.1=k then (p.1,v) else p).2)::_) ((if q.1=Sum.inr k then (q.1,u) else q)::_);rw[if_pos e,if_pos e'];exact .cons ⟨h.1,ru⟩ ih
   ·have e':¬q.1=Sum.inr k:=by rw[<-h.1];exact fun z=>e (zCO z)
    show KV ((Sum.inr (if p.1=k then (p.1,v) else p).1,(if p.1=k then (p.1,v) else p).2)::_) ((if q.1=Sum.inr k then (q.1,u) else q)::_);rw[if_neg e,if_neg e'];exact .cons h ih
theorem XH(r:KV (dS d) vs)(ru:RelV v u):KV (dS (Ck d k v)) (stored vs (Sum.inr k) u):=by
 unfold Ck stored;rw[SH r k];by_cases e:Wa d k=true
 ·rw[if_pos e,if_pos e];exact O8 r ru
 ·rw[if_neg e,if_neg e,Sb];exact Kn r ru
theorem Tu(d:List (Str×V))(k:Str)(v:V):(Ck d k v).length<=d.length+1:=by
 unfold Ck;split
 ·rw[List.length_map];exact zBA _
 ·rw[zA];exact zAB _
section
variable {X:Cx}
inductive WV(o:V)(i:V)(v:V)(H:Hp)(Q:(Hp->Prop)):Prop where
 | mk (a:Addr) (d:List (Str×V)) (k:Str) (_:o= .ref a) (_:i= .str k) (_:H a=some (.dK (dS d))) (_:d.length<=1000) (_:Q (upd H a (.dK (dS (Ck d k v))))):WV o i v H Q
theorem BX:We X WV:=by
 intro pins s σ H o i v ov iv u Q I ro ri rv h;obtain⟨a,d,k,rfl,rfl,hd,hl,q⟩:=h;cases ro;obtain⟨t,rfl⟩:=ri;obtain⟨hz,hm,vs,r,D⟩:=Gy I hd;have hvl:vs.length=d.length:=by rw[<-zB0 r,EH]
 refine wpAny_setItem_pairs (hsz:=by rw[hvl];exact hz) (BM _ _ k t) D fun h' D' hs=>⟨_,KD I hd hm hs D' (d':=Ck d k v) (XH r rv) ?_,q⟩
 exact zAD (Tu d k v) (zAD (show d.length+1<=1001 by omega) %[|0])
inductive Fp(xs:List V)(H:Hp)(Q:VK):Prop where
 | mk (a:Addr) (d:List (Str×V)) (_:xs=[.ref a]) (_:H a=some (.dK (dS d))) (_:∀l,H l=none->Q (.ref l) (upd H l (.dK (dS d)))):Fp xs H Q
theorem NI:Ce X (.type "dict") (Fp):=by
 exists 7;obtain⟨a,d,rfl,hd,q⟩:=h;obtain⟨u,rfl,ru⟩:=CT r;cases ru;obtain⟨hz,hm,vs,rv,D⟩:=Gy I hd;have hvl:vs.length=d.length:=by rw[<-zB0 rv,EH]
 have fr:H s.heap.objs.size=none:=I.hok.fresh (zAB _);have hb:sysModules<s.heap.objs.size:=zBX (by decide:sysModules<mainGlobals) (I.mod.glob.keeps I.bk).lt;refine kt_call_dict hm D (by rw[hvl];exact hz) fun h' D' sb=>⟨.ref s.heap.objs.size,upd H s.heap.objs.size (.dK (dS d)),?_,rfl,q _ fr⟩
 refine I.laid (t':=s.toks) (fun b o e=>(sb.2 b (zAI (zAE e))).trans (Heap.get?_push_of_some _ e)) (zAB _) ⟨by rw[EH];exact hz,?_,vs,rv,D'⟩;rw[beq_eq_false_iff_ne];exact fun z=>by rw[z] at hb;exact zBM _ hb
def Yn:List Str->List V->List (Value×Value)->Prop
 | [],[],[]=>True
 | k::ks,x::xs,p::ps=>(∃t,p.1= .str k t)/\RelV x p.2/\Yn ks xs ps
 | _,_,_=>False
def PD(X:Cx)(ks:List Str)(gE:List (Option Expr))(es:%[|20])(t:TA):Prop:=
 ∀(pos:Pos)pins s(σ:St)H(Q:List V->Hp->Prop),%[|5]->t σ H Q->%[|19] (evalPairs (pairTrees gE es X.env pos)) (fun vs s1=>∃xs H1,%[|13] H1 s1/\Yn ks xs vs/\Q xs H1) X.xe s
theorem RR:PD X [] [] [] Of:=fun pos pins s σ H Q I h=>pairTrees_nil_walk ⟨[],H,I,True.intro,h⟩
theorem CD(ha:PE X e te)(hr:PD X ks gE es t):PD X (k::ks) (some (.Constant (.str k) j p)::gE) (e::es) (LG te t):=by
 intro pos pins s σ H Q I h;refine pairTrees_cons_walk (AU (Ae (X:=X) pins s σ H (fun x H1=>x= .str k/\H1=H) I ⟨rfl,rfl⟩) fun kv s1 ⟨x1,H1,I1,r1,e1,e2⟩=>?_);subst e1 e2;obtain⟨tk,rfl⟩:=r1;refine AU (ha pins s1 σ H1 _ I1 h) fun vv s2 ⟨x2,H2,I2,r2,q2⟩=>?_
 exact AU (hr pos pins s2 σ H2 _ I2 q2) fun vs s3 ⟨xs,H3,I3,r3,q3⟩=>⟨x2::xs,H3,I3,⟨⟨tk,rfl⟩,r2,r3⟩,q3⟩
def Zc(ks:List Str)(t:TA):TE:=fun σ H Q=>∀p,H p=none->t σ (upd H p (.dK [])) fun xs H1=>H1 p=some (.dK [])/\Q (.ref p) (upd H1 p (.dK (dS (ks.zip xs))))
theorem OL:∀{ks:List Str}{xs:List V}{vs:List (Value×Value)},Yn ks xs vs->Carries (CI X.prog X.w) vs ((ks.zip (vs.map (·.2))).map fun p=>((Sum.inr p.1:DX),p.2))/\KV (dS (ks.zip xs)) ((ks.zip (vs.map (·.2))).map fun p=>((Sum.inr p.1:DX),p.2))/\(ks.zip xs).length=ks.length/\(((ks.zip (vs.map (·.2))).map fun p=>((Sum.inr p.1:DX),p.2)).map (·.1))=ks.map Sum.inr
 | [],[],[],_=>⟨True.intro,.nil,rfl,rfl⟩
 | k::ks,x::xs,(a,b)::vs,⟨⟨t,e⟩,r,h⟩=>by
  obtain⟨h1,h2,h3,h4⟩:=OL h;have e:a= .str k t:=e;subst e;exact⟨⟨BM _ _ k t,rfl,h1⟩,.cons ⟨rfl,r⟩ h2,congrArg (· + 1) h3,congrArg (List.cons (Sum.inr k)) h4⟩
theorem Lk(h:PD X ks gE es t)(nd:ks.Nodup)(h1:(gE.all fun x=>x.isSome)=true)(h2:gE.length=es.length)(h3:gE≠[])(h4:gE.length<=15)(h5:ks.length<=15):PE X (.Dict gE es pos) (Zc ks t):=by
 intro pins s σ H Q I hq;have fr:H s.heap.objs.size=none:=I.hok.fresh (zAB _);have hb:sysModules<s.heap.objs.size:=zBX (by decide:sysModules<mainGlobals) (I.mod.glob.keeps I.bk).lt;have I0:%[|13] (upd H s.heap.objs.size (.dK [])) { s with heap:=s.heap.push { cls:=.type "dict",data:=.dict #[] } }:=I.laid (t':=s.toks) (fun b o q=>Heap.get?_push_of_some _ q) (zAB _) (TD s.heap hb);refine wpAny_Dict_walk (knd:=CI X.prog X.w) h1 h2 h3 h4 (AU (h pos pins _ σ _ _ I0 (hq _ fr)) fun vs s1 ⟨xs,H1,I1,tr,hp,q⟩=>?_);obtain⟨c1,c2,c3,c4⟩:=OL (X:=X) tr;obtain⟨_,hm,ws,r0,D0⟩:=Gy (d:=[]) I1 hp;have ew:ws=[]:=by cases r0;rfl
 subst ew;refine⟨_,c1,D0,fun h' D' sb=>⟨.ref s.heap.objs.size,upd H1 s.heap.objs.size (.dK (dS (ks.zip xs))),?_,rfl,q⟩⟩;rw[merged_nil_of_nodup _ (by rw[c4];exact List.Pairwise.map _ (fun a b h z=>h (zCO z)) nd)] at D';exact KD I1 (d:=[]) hp hm sb D' c2 (by rw[c3];exact zAD h5 %[|0])
end
end L2
namespace Toy
open PySem L2 HT2 PyProof.Rows
open PySem.W (clsIn findIn keepIn mg_none_of mg_of mroIn nsIn typeIn)
variable {P:Program}{w:World}{K:PySem.W.Frag}{mg:Str->%[|4]}{bz:Heap}{f:Addr}{fd:FuncData}
set_option maxHeartbeats 64000000
def Bu(i:Nat):Stmt:=PySem.Challenge.pw_holdtalk_k50_lines_of_a_log.main.body.getD i (.Pass ⟨0,0,0,0⟩)
section
variable {P:Program}{w:World}{K:PySem.W.Frag}{mg:Str->%[|4]}{CX:Jp}{R:Addr->Prop}{n q:Str}{st:Stmt}{N ps:List Str}{k:Nat}{sp:Sp}
def Fd(_:Program)(_:World)(K:PySem.W.Frag)(_:Str->%[|4])(n q:Str)(st:Stmt)(R:Addr->Prop):Prop:=∃f d,Fun K n q st f d/\R f
inductive Fx(P:Program)(w:World)(K:PySem.W.Frag)(mg:Str->%[|4])(R:Addr->Prop)(CX:Jp)(k:Nat)(sp:Sp):Prop where
 | mk (f d ps) (_:∀bz,Ew P w K mg bz CX k f d ps sp) (_:Binds K d ps []) (_:R f)
def gF(K:PySem.W.Frag)(mg:Str->%[|4])(n:Str)(f:Addr):Prop:=mg n=some (.ref f)/\keepIn K (.ref f)=true
def gI(K:PySem.W.Frag)(mg:Str->%[|4])(C:Addr)(n:Str)(f:Addr):Prop:=Mk K C f/\mg n=some (.ref C)
abbrev FT(P:Program)(w:World)(K:PySem.W.Frag)(mg:Str->%[|4])(n:Str)(st:Stmt):Prop:=Fd P w K mg n n st (gF K mg n)
abbrev FM(P:Program)(w:World)(K:PySem.W.Frag)(mg:Str->%[|4])(C:Addr)(n q:Str)(st:Stmt):Prop:=Fd P w K mg n q st (Uq K C n)
abbrev FI(P:Program)(w:World)(K:PySem.W.Frag)(mg:Str->%[|4])(C:Addr)(n q:Str)(st:Stmt):Prop:=Fd P w K mg "__init__" q st (gI K mg C n)
abbrev Fc(P:Program)(w:World)(K:PySem.W.Frag)(mg:Str->%[|4])(n:Str)(CX:Jp)(k:Nat)(sp:Sp):Prop:=Fx P w K mg (gF K mg n) CX k sp
abbrev Fm(P:Program)(w:World)(K:PySem.W.Frag)(mg:Str->%[|4])(C:Addr)(n:Str)(CX:Jp)(k:Nat)(sp:Sp):Prop:=Fx P w K mg (Uq K C n) CX k sp
abbrev Fi(P:Program)(w:World)(K:PySem.W.Frag)(mg:Str->%[|4])(C:Addr)(n:Str)(CX:Jp)(k:Nat)(sp:Sp):Prop:=Fx P w K mg (gI K mg C n) CX k sp
def Bd(n q:Str)(st:Stmt)(ps:List Str):Prop:=∀(a:Nat->Value)kV de pm an bp ct,
 bindArgs (PySem.W.fnOf n q (Dr st) (Cp st) (A9 st) .none kV de pm an bp ct) ⟨(List.range ps.length).map a,[]⟩=pure (ps.zip ((List.range ps.length).map a))
theorem ZC(us:%[|7]):us=(List.range us.length).map fun i=>us.getD i .none:=
 zC5 %[|2] fun i h _=>by simp[h]
theorem Bd.of(h:Bd n q st ps)(F:Fun K n q st f fd):Binds K fd ps []:=F.binds fun kV de pm an bp ct us hl=>by
 rw[ZC us,hl];exact h _ kV de pm an bp ct
theorem Fd.okX(F:Fd P w K mg n q st R)(S:D8 N ps (A9 st))(h:∀(bz:Heap) (f:Addr) (bp:Value) (A:Around) (outer:List Env) (s:Shared) (H:Hp) (vs:List V) (Q:VK) (E:XK),A0J k (A.deeper (envOfC q (A9 st) s.heap.objs.size f bp))->sp vs H Q E->
   ∃t,PSs (Jf CX P w K mg bz N q (A9 st) f bp A outer s H E) (Cp st) t/\t { nx:=fun _ H'=>Q .non H',rt:=Q } (Ez N vs) H)(len:∀vs H Q E,sp vs H Q E->vs.length=ps.length:=by rintro _ _ _ _ ⟨⟩;subst_vars;rfl)(hb:Bd n q st ps:=by intro _ _ _ _ _ _ _;rfl):Fx P w K mg R CX (k+1) sp:=by
 obtain⟨f,fd,F,r⟩:=F;refine⟨f,fd,ps,fun bz=>?_,hb.of F,r⟩;obtain⟨oc,od,kV,de,pm,an,bp,ct,hV,rfl,lk,eC⟩:=F.ex;exact WJ lk eC S len fun A outer s H vs Q E hr dw=>h bz f bp A outer s H vs Q E hr dw
theorem Fd.ok(F:Fd P w K mg n q st R)(S:D8 N ps (A9 st))(h:∀(bz:Heap) (f:Addr) (bp:Value) (A:Around) (outer:List Env) (s:Shared) (H:Hp) (vs:List V) (Q:VK) (E:XK),A0J k (A.deeper (envOfC q (A9 st) s.heap.objs.size f bp))->sp vs H Q E->
   ∃t,PSs (Jf AH P w K mg bz N q (A9 st) f bp A outer s H E).nox (Cp st) t/\t { nx:=fun _ H'=>Q .non H',rt:=Q } (Ez N vs) H)(len:∀vs H Q E,sp vs H Q E->vs.length=ps.length:=by rintro _ _ _ _ ⟨⟩;subst_vars;rfl)(hb:Bd n q st ps:=by intro _ _ _ _ _ _ _;rfl):Fx P w K mg R AH (k+1) sp:=by
 refine F.okX S (fun bz f bp A outer s H vs Q E hr dw=>?_) len hb;obtain⟨t,h,q⟩:=h bz f bp A outer s H vs Q E hr dw;exact⟨t,h.nox,q⟩
theorem Fd.no(ps:List Str)(F:Fd P w K mg n q st R)(no:∀vs H Q E,¬sp vs H Q E)(hb:Bd n q st ps:=by intro _ _ _ _ _ _ _;rfl):Fx P w K mg R CX k sp:=by
 obtain⟨f,fd,F,r⟩:=F;exact⟨f,fd,ps,fun bz=>⟨fun vs H Q E h=>absurd h (no vs H Q E),fun A outer s H args us vs Q E _ _ _ _ h=>absurd h (no vs H Q E)⟩,hb.of F,r⟩
end
section
variable {X:Cx}{CX:Jp}{x m:Str}{p bD pos:Pos}{j k:Nat}{sp:Sp}{E:XK}{e o:Expr}{es:%[|20]}{t:TA}{ta:TE}{C:Addr}
theorem AA(G:Fc X.prog X.w X.K X.mg x CX j sp)(hr:A0J k X.A)(hx:Cn CX X E)(ha:PA X (e::es) t)(hg:Gl X x:=by rfl)(le:j<=k:=by first | exact zAB _ | decide)(du:%[|49]=false:=by decide)(he:starEach (e::es) X.env=%[|51]::starEach es X.env:=by rfl)(bB:%[|60].any (·.1)=false:=by rfl):
  PE X %[|68] (OS sp [] E t):=by
 obtain⟨_,_,_,g,b,m,k⟩:=G;exact VV (g X.base) (hr.mono le) hg m k b .nil hx ha du he bB
theorem ZF(G:Fc X.prog X.w X.K X.mg x CX j sp)(hr:A0J k X.A)(hx:Fh CX X E σ)(ha:PA X (e::es) t)(hg:Gl X x:=by rfl)(le:j<=k:=by first | exact zAB _ | decide)(du:%[|49]=false:=by decide)(he:starEach (e::es) X.env=%[|51]::starEach es X.env:=by rfl)(bB:%[|60].any (·.1)=false:=by rfl):
  Yw X σ %[|68] (OS sp [] E t):=by
 obtain⟨_,_,_,g,b,m,k⟩:=G;exact QG (g X.base) (hr.mono le) hg m k b .nil hx ha du he bB
theorem Xi(G:Fi X.prog X.w X.K X.mg C x CX j sp)(hr:A0J k X.A)(hx:Cn CX X E)(ha:PA X (e::es) t)(hg:Gl X x:=by rfl)(le:j+1<=k:=by decide)(du:%[|49]=false:=by decide)(he:starEach (e::es) X.env=%[|51]::starEach es X.env:=by rfl)(bB:%[|60].any (·.1)=false:=by rfl):
  PE X %[|68] (WZ C sp [] E t):=by
 obtain⟨_,_,_,g,b,m,k⟩:=G;exact VL m (g X.base) (hr.mono le) hg k b .nil hx ha du he bB
theorem Ct(ho:PE X o ta)(c:Cls X.K C)(G:Fm X.prog X.w X.K X.mg C m CX j sp)(hr:A0J k X.A)(hx:Cn CX X E)(ha:PA X (e::es) t)(le:j<=k:=by decide)(bW:starEach (e::es) X.env=%[|51]::starEach es X.env:=by rfl)(bB:%[|60].any (·.1)=false:=by rfl)(ht:eval (.Call (.Attribute o m bD) (e::es) [] pos) X.env=(do
   let ov <-eval o X.env
   standAt bD.atName
   let (f,first) <-holding [ov] (getMethod ov m pl)
   callWith pos f first (backTo pos (starEach (e::es) X.env)) (backToKw pos (keywordEach [] X.env))):=by rfl):
  PE X (.Call (.Attribute o m bD) (e::es) [] pos) (O1 C m sp [] E ta t):=by
 obtain⟨_,_,_,g,b,m⟩:=G;exact UQ ho c m (g X.base) (hr.mono le) b .nil hx ha bW bB ht
theorem DR(ho:PE X o ta)(c:Cls X.K C)(G:Fm X.prog X.w X.K X.mg C m CX j sp)(hr:A0J k X.A)(hx:Cn CX X E)(le:j<=k:=by decide)(ht:eval (.Call (.Attribute o m bD) [] [] pos) X.env=(do
   let ov <-eval o X.env
   standAt bD.atName
   let (f,first) <-holding [ov] (getMethod ov m pl)
   callWith pos f first (backTo pos (starEach [] X.env)) (backToKw pos (keywordEach [] X.env))):=by rfl):
  PE X (.Call (.Attribute o m bD) [] [] pos) (O1 C m sp [] E ta Of):=by
 obtain⟨_,_,_,g,b,m⟩:=G;exact TV ho c m (g X.base) (hr.mono le) b .nil hx ht
end
def aY(N:List Str)(n:Nat)(sc:Scope):Bool:=decide (sc.kind= .function/\sc.isCoroutine=false/\sc.isGenerator=false/\N.Nodup/\(∀x∈N.take n,sc.names.lookup x=some .local\/sc.names.lookup x=some .cell)/\∀y∈sc.names,y.2≠.free)
theorem Aw(st:Stmt)(N:List Str)(n:Nat)(h:aY N n (A9 st)=true:=by decide +kernel):D8 N (N.take n) (A9 st):=by
 obtain⟨a,b,c,d,e,f⟩:=of_decide_eq_true h;exact⟨a,b,c,d,by rw[zAW,<-List.take_take,zAQ],e,f⟩
section
variable {X:Cx}{x:Str}{pos cb bD bA p:Pos}{e a b o:Expr}{es:%[|20]}{te ta tb:TE}{t:TA}{r:R2}{op:CmpOp}{id:Str}
theorem Az(i:Nat)(hN:X.N.Nodup)(he:PE X e te)(hi:X.N[i]? = some x:=by rfl)(hx:Tv X.env.scope x:=by first | exact Or.inl rfl | exact Or.inr rfl)(hs:swapsWith e (some (.Name x cb)) pos.line X.env=pure false:=by rfl)(hf:X.fn x=true\/X.env.scope.names.lookup x=some .local:=by first | exact .inl rfl | exact .inr rfl | assumption):
  PS X (.Assign [.Name x cb] e pos) (KQ te (Cu i)):=YM hN hi hx he hs hf
theorem BA(i:Nat)(hN:X.N.Nodup:=by decide +kernel)(hi:X.N[i]? = some x:=by rfl)(hx:Tv X.env.scope x:=by first | exact Or.inl rfl | exact Or.inr rfl)(hf:X.fn x=true\/X.env.scope.names.lookup x=some .local:=by first | exact .inl rfl | exact .inr rfl | assumption):PG X (.Name x pos) (Cu i):=Lb hN hi hx hf
theorem An(hr:WR X r)(ha:PE X a ta)(hb:PE X b tb)(hs:Pf b:=by exact fun _ _=>rfl):PE X (.Subscript a b pos) (YN r ta tb):=ZA hr ha hb hs
theorem AR(ho:C3 X (compareOp op) r)(ha:PE X a ta)(hb:PE X b tb)(hm:behindInMarks op b=false:=by exact Cd _):PT X (.Compare a [op] [b] pos) (RV (YN r ta tb)):=Cf ho ha hb hm
theorem AM(ha:PE X a ta)(hs:starEach [a] X.env=(false,eval a X.env)::starEach [] X.env:=by rfl):PA X [a] (LG ta Of):=Aj ha Bi hs
theorem AS(ha:PE X a ta)(hb:PE X b tb)(h1:starEach [b] X.env=(false,eval b X.env)::starEach [] X.env:=by rfl)(h2:starEach [a,b] X.env=(false,eval a X.env)::starEach [b] X.env:=by rfl):PA X [a,b] (LG ta (LG tb Of)):=Aj ha (Aj hb Bi h1) h2
theorem A5(he:PE X e te):PSs X [.Return (some e) pos] (Zb te):=Ai (SW he)
theorem A7(ho:PE X o to)(ha:PA X (e::es) t)(h1:attributeBase o "append" X.env (eval o X.env)=eval o X.env:=by rfl)(h2:((backTo bA (starEach (e::es) X.env)).all (fun x=>!x.1) && (backToKw bA (keywordEach [] X.env)).all (fun x=>x.1.isSome) && decide ((e::es).length+([]:List Keyword).length+(if ([]:List Keyword).isEmpty then 0 else 1)<30))=true:=by rfl)(h3:(bD.endLine == bA.line)=true:=by rfl)(h4:starEach (e::es) X.env=%[|51]::starEach es X.env:=by rfl)(h5:(backTo bA (starEach es X.env)).any (·.1)=false:=by rfl):
  PE X (.Call (.Attribute o "append" bD) (e::es) [] bA) (aQ X.K "list" Pg to t):=DA zBD PySem.F.slot_list_append PySem.F.type_list_append JB ho ha h1 h2 h3 h4 h5
theorem B7(ho:PE X o to)(h1:attributeBase o "pop" X.env (eval o X.env)=eval o X.env:=by rfl)(h3:(bD.endLine == bA.line)=true:=by rfl):
  PE X (.Call (.Attribute o "pop" bD) [] [] bA) (Zm X.K "list" Zg to):=Uh zBD PySem.F.slot_list_pop PySem.F.type_list_pop Yq ho h1 h3
end
abbrev Xy:Stmt:=Bu 58
abbrev W3:Stmt:=Bu 59
abbrev Sv:Stmt:=Bu 60
structure Bl(mg:Str->%[|4]):Prop where
 abs:mg "abs"=none
 len:mg "len"=none
 range:mg "range"=none
inductive Ls(K:PySem.W.Frag)(vs:List V)(H:Hp)(Q:VK)(E:XK):Prop where
 | mk (a:Addr) (ns:List Int) (k:Int) (_:vs=[.ref a,.int k]) (_:SqL K H a %[|25]) (_:ns.length<=63) (_:0<=k) (_:k<=1000) (_:∀(n:Int)(H':Hp),0<=n->A0B H H'->Q (.int n) H'):Ls K vs H Q E
inductive Ik(vs:List V)(H:Hp)(Q:VK)(E:XK):Prop where
 | mk (n:Int) (most many:Nat) (_:vs=[.int n,.int most,.int many]) (_:0<=n) (_:1<=most) (_:most<=12) (_:1<=many) (_:many<=5) (_:∀(v:V)(t:Tr)(H':Hp),A0B H H'->t.At H' v->t.ok many->t.size+1<=2*most->Q v H'):Ik  vs H Q E
section
variable {P:Program}{w:World}{K:PySem.W.Frag}{mg:Str->%[|4]}
def scNum:=Aw Xy ["_law_script","_law_k","_law_cell","_law_one","_law_two"] 2
theorem YB(F:%[|9] "_law_num" Xy)(B:Bl mg):%[|3] "_law_num" AH 1 (Ls K):=by
 refine F.ok scNum ?_;rintro bz f bp A outer s H _ Q E hr ⟨a,ns,k,rfl,hS,eQ,hk0,fQ,q⟩
 refine⟨_,Aa (Az 2 scNum.nd Ad)
  (Aa (Au (AR (Nh hr.units0) (pv 0) (Av Bi))
   (Ai (Az 2 scNum.nd (AK Ue %[|8] B.abs boot_abs (AM (An AI (pv 0) (Ao A8 (pv 1) (%[|53] (AM (pv 0))))))))) Ak)
  (Aa (Au (EY (AR L8 (pv 1) (%[|53] (AM (pv 0)))) (Dm (AR Se (pv 2) (Ao ES Ad Ad)))).pt
   (A5 (pv 2)) Ak)
  (Aa (Az 3 scNum.nd (Ao A8 (Ao C0 (Ao C0 (Ao I9 (pv 2) Ad) (Ao I9 Ad (pv 1))) Ad) Ad))
  (Aa (Az 4 scNum.nd (Ao A8 (Ao C0 (Ao C0 (Ao I9 (pv 3) (pv 3)) (Ao I9 Ad (pv 2))) Ad) Ad))
  (A5 (Ao C0 (Ao I9 (pv 3) Ad) (pv 4))))))),?_⟩
 refine⟨GQ,fun p hp=>?_⟩;have sm:A0B H (upd H p (.lst [])):=Ab hp _;refine⟨a,p,_,rfl,rfl,sm.seq hS,SqL.of A0A,?_⟩;have hl:%[|25].length=ns.length:=List.length_map _
 have bC:∀c:Int,0<=c->∀b:Int,0<=(c*48271+40692*k+11)%2147483647*2147483629+b%2147483629:=fun c hc b=>by
  have h1:=zA0 (c*48271+40692*k+11) (show (2147483647:Int)≠0 by decide);have h2:=zA0 b (show (2147483629:Int)≠0 by decide);omega
 have i4:∀b:Int,-(2^64)<b%2147483647/\b%2147483647<2^64:=fun b=>by omega
 refine Ci (fun c0=>?_) (fun c0=>?_)
 ·have ne:ns≠[]:=by
   intro z;subst z;exact absurd c0 %[|0]
  have ck:0<ns.length:=List.length_pos_iff.mpr ne
  have hi:(k%(ns.length:Int)).toNat<ns.length:=by
   have h1:=zA0 k (show (ns.length:Int)≠0 by omega);have h2:=zA2 k (show (0:Int)<ns.length by omega);omega
  have bF:Er %[|25] (k%((%[|25].length:Nat):Int))=some (.int ns[(k%(ns.length:Int)).toNat]):=by
   have e:k%((%[|25].length:Nat):Int)=(((k%(ns.length:Int)).toNat:Nat):Int):=by
    rw[hl];have h1:=zA0 k (show (ns.length:Int)≠0 by omega);omega
   rw[e];refine Ac ?_;rw[List.getElem?_map,List.getElem?_eq_getElem hi];rfl
  refine⟨.inl (sm.seq hS),(by rw[hl];omega),sm.seq hS,bF,_,rfl,?_⟩;generalize hc:(if ns[(k%(ns.length:Int)).toNat]<0 then -ns[(k%(ns.length:Int)).toNat] else ns[(k%(ns.length:Int)).toNat])=c
  have hc0:0<=c:=by
   rw[<-hc];split<;>omega
  refine⟨.inl (sm.seq hS),?_⟩;have tail:∀{G:Prop},(∀y:Int,0<=(c*48271+40692*k+11)%2147483647*2147483629+y%2147483629->Q (.int ((c*48271+40692*k+11)%2147483647*2147483629+y%2147483629)) (upd H p (.lst []))):=fun {G} y hy=>q _ _ hy sm
  refine Ci (fun c1=>?_) (fun c1=>?_)
  ·refine⟨%[|67],?_⟩;refine Ci (fun c2=>?_) (fun c2=>?_)
   ·exact q c _ hc0 sm
   ·refine⟨.inr ⟨by decide,by decide⟩,.inl ⟨by decide,by decide⟩,(by show (0:Int)<2147483647;decide),?_⟩;exists 21;exact⟨.inl (i4 _),q _ _ (bC c hc0 _) sm⟩
  ·refine Aq ?_;refine⟨.inr ⟨by decide,by decide⟩,.inl ⟨by decide,by decide⟩,(by show (0:Int)<2147483647;decide),?_⟩;exists 21;exact⟨.inl (i4 _),q _ _ (bC c hc0 _) sm⟩
 ·have c:Int:=0;refine⟨.inl (sm.seq hS),?_⟩;refine Ci (fun c1=>?_) (fun c1=>?_)
  ·refine⟨%[|67],?_⟩;refine Ci (fun c2=>?_) (fun c2=>?_)
   ·exact q 0 _ (zDG _) sm
   ·refine⟨.inr ⟨by decide,by decide⟩,.inl ⟨by decide,by decide⟩,(by show (0:Int)<2147483647;decide),?_⟩;exists 21;exact⟨.inl (i4 _),q _ _ (bC 0 (zDG _) _) sm⟩
  ·refine Aq ?_;refine⟨.inr ⟨by decide,by decide⟩,.inl ⟨by decide,by decide⟩,(by show (0:Int)<2147483647;decide),?_⟩;exists 21;exact⟨.inl (i4 _),q _ _ (bC 0 (zDG _) _) sm⟩
def Zh:=Aw W3 ["_law_n"] 1
inductive SQ(vs:List V)(H:Hp)(Q:VK)(E:XK):Prop where
 | mk (n:Int) (_:vs=[.int n]) (_:0<=n) (_:∀(m:Nat)(H':Hp),1<=m->m<=5->A0B H H'->Q (.int m) H'):SQ  vs H Q E
def fews:List Int:=[3,2,3,1,3,2,4,5]
theorem bf:8<=sizeLine:=by decide
theorem W1(h:i<8):∃m:Nat,1<=m/\m<=5/\(fews.map V.int)[i]? = some (.int m):=by
 match i,h with
 | 0,_=>exact⟨3,by decide,by decide,rfl⟩
 | 1,_=>exact⟨2,by decide,by decide,rfl⟩
 | 2,_=>exact⟨3,by decide,by decide,rfl⟩
 | 3,_=>exact⟨1,by decide,by decide,rfl⟩
 | 4,_=>exact⟨3,by decide,by decide,rfl⟩
 | 5,_=>exact⟨2,by decide,by decide,rfl⟩
 | 6,_=>exact⟨4,by decide,by decide,rfl⟩
 | 7,_=>exact⟨5,by decide,by decide,rfl⟩
theorem Yo(F:%[|9] "_law_few" W3):%[|3] "_law_few" AH 1 SQ:=by
 refine F.ok Zh ?_;rintro bz f bp A outer s H _ Q E hr ⟨n,rfl,h0,q⟩;refine⟨_,A5 (An AI (Av (Aj Ad (Aj Ad (Aj Ad (Aj Ad (Aj Ad (Aj Ad (AS Ad Ad)))))))) (Ao A8 (pv 0) Ad)),?_⟩;have h1:=zA0 n (show (8:Int)≠0 by decide);have h2:=zA2 n (show (0:Int)<8 by decide);obtain⟨m,m1,m5,hm⟩:=W1 (i:=(n%8).toNat) %[|1]
 have bF:Er (fews.map V.int) (n%8)=some (.int m):=by
  have e:n%8=(((n%8).toNat:Nat):Int):=by omega
  rw[e];exact Ac (j:=(n%8).toNat) hm
 refine⟨bf,fun l hl=>?_⟩;refine⟨(by show (0:Int)<8;decide),SqL.of A0A,bF,?_⟩;exact q m _ m1 m5 (Ab hl _)
end
section
variable {P:Program}{w:World}{K:PySem.W.Frag}{mg:Str->%[|4]}
def A1D:=Aw Sv ["_law_n","_law_most","_law_many","_law_joints","_law_pile","_law_size","_law_turn","_law_digit","_law_right"] 3
structure A0T(H1 H2:Hp)(pl:Addr)(xs:List V)(ts:List Tr)(many:Nat):Prop where
 sm:A0B H1 H2
 at':H2 pl=some (.lst xs)
 pile:A0I H2 xs ts
 ok:∀t∈ts,t.ok many
theorem A0T.len(p:A0T H1 H2 pl xs ts many):xs.length=ts.length:=p.pile.len
theorem A0T.pop(np:H1 pl=none)(p:A0T H1 H2 pl xs ts many)(h:0<ts.length):
  ∃y dy t,xs[xs.length-1]? = some y/\ts=dy++[t]/\t.ok many/\t.At (upd H2 pl (.lst xs.dropLast)) y/\A0T H1 (upd H2 pl (.lst xs.dropLast)) pl xs.dropLast dy many:=by
 obtain⟨fk,y,dy,t,rfl,rfl,q,a⟩:=p.pile.last h;refine⟨y,dy,t,Cq _ _,rfl,p.ok t %[|2],a.keep (TS.lst p.at'),⟨Ap p.sm np _,A0A,?_,fun u hu=>p.ok u (by simp[hu])⟩⟩;rw[zAY];exact q.keep (TS.lst p.at')
theorem A0T.new(p:A0T H1 H2 pl xs ts many)(he:H2 e=none):A0T H1 (upd H2 e o) pl xs ts many:=
 ⟨p.sm.trans (Ab he _),(Ab he _) _ _ p.at',p.pile.keep (TS.new he),p.ok⟩
theorem A0T.put(np:H1 pl=none)(p:A0T H1 H2 pl xs ts many)(hc:H2 c=none)(ht:t.ok many)(ha:t.At (upd (upd H2 c (.tup ys)) pl (.lst (xs++[.ref c]))) (.ref c)):A0T H1 (upd (upd H2 c (.tup ys)) pl (.lst (xs++[.ref c]))) pl (xs++[.ref c]) (ts++[t]) many:=by
 have k:TS H2 (upd (upd H2 c (.tup ys)) pl (.lst (xs++[.ref c]))):=(TS.new hc).trans (TS.lst (xs:=xs) (by rw[Af (Ah p.at' hc)];exact p.at'));refine⟨Ap (p.sm.trans (Ab hc _)) np _,A0A,(p.pile.keep k).snoc ha,fun u hu=>?_⟩;rcases List.mem_append.mp hu with z | z
 ·exact p.ok u z
 ·rw[List.mem_singleton.mp z];exact ht
theorem K6(hp:H2 pl=some (.lst zs))(hc:H2 c=none):(upd (upd H2 c (.tup ys)) pl (.lst xs)) c=some (.tup ys):=by
 rw[Af (Ah hp hc).symm,A0A]
theorem DJ(hp:H2 pl=some (.lst zs))(hc:H2 c=none):TS H2 (upd (upd H2 c (.tup ys)) pl (.lst xs)):=
 (TS.new hc).trans (TS.lst (xs:=zs) (by rw[Af (Ah hp hc)];exact hp))
inductive Tg(H1:Hp)(jl:Addr)(pl:Addr)(most:Nat)(many:Nat)(size:Int)(i:Nat)(σ:L2.St)(H2:Hp):Prop where
 | mk (m:Int) (tv dv rv:Option V) (xs:List V) (ts:List Tr) (_:σ=[some (.int m),some (.int most),some (.int many),some (.ref jl),some (.ref pl),some (.int size),tv,dv,rv]) (_:0<=m) (_:A0T H1 H2 pl xs ts many) (_:sz ts<=i) (_:ts.length<=i) (_:(0<i->0<ts.length)):Tg H1 jl pl most many size i σ H2
theorem Fl{tv rv:Option V}(np:H1 pl=none)(p:A0T H1 H3 pl xs ts many)(hc:H3 c=none)(h1:1<=many)(hm:0<=m2)(z1:sz ts<=i)(z2:ts.length<=i):
  Tg H1 jl pl most many size (i+1) [some (.int m2),some (.int most),some (.int many),some (.ref jl),some (.ref pl),some (.int size),tv,some (.int d),rv] (upd (upd H3 c (.tup [.str "let",.int (d%(many:Int))])) pl (.lst (xs++[.ref c]))):=by
 have e1:=zA0 d (show (many:Int)≠0 by omega);have e2:=zA2 d (show (0:Int)<many by omega);have e3:d%(many:Int)=(((d%(many:Int)).toNat:Nat):Int):=by omega
 refine⟨m2,_,_,_,_,ts++[.lt (d%(many:Int)).toNat],rfl,hm,p.put (t:=.lt (d%(many:Int)).toNat) np hc (by show (d%(many:Int)).toNat<many;omega) ⟨c,rfl,?_⟩,?_,?_,?_⟩
 ·rw[K6 p.at' hc,<-e3]
 ·rw[B9];show sz ts+1<=i+1;omega
 ·rw[zA];show ts.length+1<=i+1;omega
 ·intro _;rw[zA];exact zBH _
theorem TK{tv dv rv:Option V}(np:H1 pl=none)(p:A0T H1 H3 pl xs ts many)(hc:H3 c=none)(hm:0<=m2)(ht:t.ok many)(ha:t.At H3 y)(z1:sz (ts++[t])<=i)(z2:(ts++[t]).length<=i):
  Tg H1 jl pl most many size (i+1) %[|83] (upd (upd H3 c (.tup [.str "not",y])) pl (.lst (xs++[.ref c]))):=by
 rw[B9] at z1;rw[zA] at z2;have z2':ts.length+1<=i:=z2;refine⟨m2,_,_,_,_,ts++[.nt t],rfl,hm,p.put (t:=.nt t) np hc ht ⟨c,y,rfl,K6 p.at' hc,ha.keep (DJ p.at' hc)⟩,?_,?_,?_⟩
 ·rw[B9];show sz ts+(t.size+1)<=i+1;omega
 ·rw[zA];show ts.length+1<=i+1;omega
 ·intro _;rw[zA];exact zBH _
theorem Vo{most many i:Nat}{size m2 j:Int}{xs:List V}{ts:List Tr}{tv dv rv:Option V}(np:H1 pl=none)(p:A0T H1 H3 pl xs ts many)(hc:H3 c=none)(hm:0<=m2)(hj0:0<=j)(hj:j<4)(ht:t.ok many)(hu:u.ok many)(ha:t.At H3 y)(hx:u.At H3 x)(z1:sz (ts++[u]++[t])<=i)(z2:(ts++[u]++[t]).length<=i):
  Tg H1 jl pl most many size (i+1) %[|83] (upd (upd H3 c (.tup [.str (jn j.toNat),x,y])) pl (.lst (xs++[.ref c]))):=by
 rw[B9,B9] at z1;rw[zA,zA] at z2;have z2':ts.length+1+1<=i:=z2;refine⟨m2,_,_,_,_,ts++[.bn j.toNat u t],rfl,hm,p.put (t:=.bn j.toNat u t) np hc ⟨by omega,hu,ht⟩ ⟨c,x,y,rfl,K6 p.at' hc,hx.keep (DJ p.at' hc),ha.keep (DJ p.at' hc)⟩,?_,?_,?_⟩
 ·rw[B9];show sz ts+(u.size+t.size+1)<=i+1;omega
 ·rw[zA];show ts.length+1<=i+1;omega
 ·intro _;rw[zA];exact zBH _
theorem az(h:sz ([]++[t])+([]++[t]:List Tr).length<=2*most):t.size+1<=2*most:=by
 rw[B9] at h;have h':0+t.size+1<=2*most:=h;omega
inductive VX(H1:Hp)(jl:Addr)(pl:Addr)(most:Nat)(many:Nat)(size:Int)(k:Nat)(σ:L2.St)(H2:Hp):Prop where
 | mk (m:Int) (tv dv rv:Option V) (xs:List V) (ts:List Tr) (_:σ=[some (.int m),some (.int most),some (.int many),some (.ref jl),some (.ref pl),some (.int size),tv,dv,rv]) (_:0<=m) (_:A0T H1 H2 pl xs ts many) (_:sz ts+ts.length<=2*most) (_:ts.length=k) (_:0<k):VX H1 jl pl most many size k σ H2
theorem Xn{most many k:Nat}{size m2 j:Int}{xs:List V}{ts:List Tr}{tv dv rv:Option V}(np:H1 pl=none)(p:A0T H1 H3 pl xs ts many)(hc:H3 c=none)(hm:0<=m2)(hj0:0<=j)(hj:j<4)(ht:t.ok many)(hu:u.ok many)(ha:t.At H3 y)(hx:u.At H3 x)(z1:sz (ts++[u]++[t])+(ts++[u]++[t]).length<=2*most)(z2:(ts++[u]++[t]).length=k):
  ∃k',k'<k/\VX H1 jl pl most many size k' %[|83] (upd (upd H3 c (.tup [.str (jn j.toNat),x,y])) pl (.lst (xs++[.ref c]))):=by
 rw[B9,B9,zA,zA] at z1;rw[zA,zA] at z2;have z2':ts.length+1+1=k:=z2;have z1':sz ts+u.size+t.size+(ts.length+1+1)<=2*most:=z1;refine⟨ts.length+1,by omega,m2,_,_,_,_,ts++[.bn j.toNat u t],rfl,hm,p.put (t:=.bn j.toNat u t) np hc ⟨by omega,hu,ht⟩ ⟨c,x,y,rfl,K6 p.at' hc,hx.keep (DJ p.at' hc),ha.keep (DJ p.at' hc)⟩,?_,?_,zBH _⟩
 ·rw[B9,zA];show sz ts+(u.size+t.size+1)+(ts.length+1)<=2*most;omega
 ·rw[zA];rfl
theorem Vq(F:%[|9] "_law_sentence" Sv)(B:Bl mg):%[|3] "_law_sentence" AH 1 Ik:=by
 refine F.ok A1D ?_;rintro bz f bp A outer s H _ Q E hr ⟨n,most,many,rfl,h0,bS,bT,hy1,hy2,q⟩
 refine⟨_,Aa (Az 3 A1D.nd (Av (Aj Ae (Aj Ae (AS Ae Ae)))))
  (Aa (Az 4 A1D.nd (Av Bi))
  (Aa (Az 5 A1D.nd (Ao C0 Ad (Ao A8 (pv 0) (pv 1))))
  (Aa (Az 0 A1D.nd (Ao Bj (pv 0) (pv 1)))
  (Aa (BZ zAV rfl (Cm %[|8] B.range (AM (pv 5))) (BA 6 A1D.nd)
   (Aa (Az 7 A1D.nd (Ao A8 (pv 0) Ad))
   (Aa (Az 0 A1D.nd (Ao Bj (pv 0) Ad))
   (Ai (Au (EY (AR AF (pv 7) Ad) (Dm (AR (Nh hr.units0) (pv 4) (Av Bi)))).pt
    (Ai (As (A7 (pv 4) (AM (Be (AS Ae (B7 (pv 4))))))))
    (Ai (Au (EY (AR Jr (pv 7) Ad) (Dm (AR Jr (%[|53] (AM (pv 4))) Ad))).pt
     (Aa (Az 8 A1D.nd (B7 (pv 4)))
     (Ai (As (A7 (pv 4) (AM (Be (Aj (An AI (pv 3) (Ao J8 (pv 7) Ad)) (AS (B7 (pv 4)) (pv 8)))))))))
     (Ai (As (A7 (pv 4) (AM (Be (AS Ae (Ao A8 (pv 7) (pv 2)))))))))))))))
  (Aa (DO zAV (AR Jr (%[|53] (AM (pv 4))) Ad)
   (Aa (Az 8 A1D.nd (B7 (pv 4)))
   (Aa (As (A7 (pv 4) (AM (Be (Aj (An AI (pv 3) (Ao A8 (pv 0) Ad)) (AS (B7 (pv 4)) (pv 8)))))))
   (Ai (Az 0 A1D.nd (Ao Bj (pv 0) Ad))))))
  (A5 (An AI (pv 4) Ad))))))),?_⟩
 refine⟨ZU,fun jl hjl=>⟨GQ,fun pl bB=>?_⟩⟩;have sJ:A0B H (upd H jl (.lst A0Z)):=Ab hjl _;have nJ:jl≠pl:=Ah (A0A (H:=H) (a:=jl) (o:=.lst A0Z)) bB;refine⟨%[|1],⟨by omega,by omega⟩,?_⟩;have hsz0:=zA0 n (show (most:Int)≠0 by omega);have hsz1:=zA2 n (show (0:Int)<most by omega);have hn0:0<=n / (most:Int):=zC h0 %[|1];have hs1:1<=1+n%(most:Int):=by omega
 have g9:1+n%(most:Int)<=most:=by omega
 refine⟨%[|1],%[|1],B4 (n:=(1+n%(most:Int)).toNat) (Tg (upd H jl (.lst A0Z)) jl pl most many (1+n%(most:Int))) ?_ ?_ ?_⟩
 ·exact⟨_,none,none,none,[],[],rfl,hn0,⟨Ab bB _,A0A,.nil,fun t ht=>absurd ht %[|2]⟩,zAB _,zAB _,fun z=>z⟩
 ·rintro i σ H2 hi ⟨m,tv,dv,rv,xs,ts,rfl,hm,p,z1,z2,z3⟩;have bo:=p.len;have gQ:i<12:=by omega
  have bT:0<=m / 10:=by omega
  have hd0:0<=m%10:=by omega
  have cm:m%10<10:=by omega
  have eS:∀{k:Nat},k<=12->k<sizeLine:=fun h=>Ar (zAD h %[|0])
  refine⟨(by show (0:Int)<10;decide),%[|45],?_⟩;refine⟨rfl,?_⟩;refine Ci (fun c1=>?_) (fun c1=>?_)
  ·refine⟨GQ,fun e he=>?_⟩;have p3:A0T (upd H jl (.lst A0Z)) (upd H2 e (.lst [])) pl xs ts many:=p.new he;refine⟨pl,e,xs,rfl,rfl,SqL.of p3.at',SqL.of A0A,?_⟩;refine Ci (fun c2=>?_) (fun c2=>?_)
   ·have dz:0<ts.length:=by
     cases xs with
     | nil=>exact absurd c2 %[|0]
     | cons x r=>rw[<-bo];exact zBH _
    obtain⟨y,dy,t,ey,rfl,okt,ha,p4⟩:=p3.pop bB dz;have gW:=p4.len;rw[zA] at z2;have z2':dy.length+1<=i:=z2;refine⟨.inl ⟨rfl,_,SqL.of p3.at'⟩,.inl ⟨rfl,_,SqL.of p3.at'⟩,p3.at',ey,Cy,fun c hc=>⟨(Ab hc _) _ _ p4.at',eS %[|1],?_⟩⟩;exact TK bB p4 hc bT okt ha z1 (by rw[zA];exact z2)
   ·
    refine ?_;refine Ci (fun c3=>?_) (fun c3=>?_)
    ·refine⟨.inl (SqL.of p3.at'),?_⟩;refine Ci (fun c4=>?_) (fun c4=>?_)
     ·exfalso
      have:xs=[]:=by
       cases xs with
       | nil=>rfl
       | cons x r=>exact absurd rfl c2
      subst this;exact absurd c4 %[|0]
     ·refine⟨.inl ⟨rfl,_,SqL.of p3.at'⟩,%[|1],Cy,fun c hc=>⟨(Ab hc _) _ _ p3.at',eS %[|1],?_⟩⟩;exact Fl bB p3 hc hy1 bT z1 z2
    ·refine Aq ?_;refine⟨.inl ⟨rfl,_,SqL.of p3.at'⟩,%[|1],Cy,fun c hc=>⟨(Ab hc _) _ _ p3.at',eS %[|1],?_⟩⟩;exact Fl bB p3 hc hy1 bT z1 z2
  ·refine Aq ?_;refine ?_;refine Ci (fun c3=>?_) (fun c3=>?_)
   ·have c3':(5:Int)<m%10:=of_decide_eq_true c3;refine⟨.inl (SqL.of p.at'),?_⟩;refine Ci (fun c4=>?_) (fun c4=>?_)
    ·have c4':(1:Int)<(xs.length:Nat):=of_decide_eq_true c4;obtain⟨y,dy,t,ey,rfl,okt,ha,p4⟩:=p.pop bB %[|1];rw[zA] at bo;have hlen':xs.length=dy.length+1:=bo;obtain⟨x,ts2,u,ex,rfl,oku,hax,p5⟩:=p4.pop bB %[|1];have hl5:=p5.len;rw[zA,zA] at z2;have z2':ts2.length+1+1<=i:=z2;refine⟨.inl ⟨rfl,_,SqL.of p.at'⟩,p.at',ey,?_⟩;refine⟨.inl ⟨rfl,_,SqL.of p4.at'⟩,SqL.of (p4.sm _ _ A0A),Ml %[|1] %[|1],.inl ⟨rfl,_,SqL.of p4.at'⟩,p4.at',ex,No,fun c hc=>⟨(Ab hc _) _ _ p5.at',eS %[|1],?_⟩⟩;exact Vo bB p5 hc bT %[|1] %[|1] okt oku (ha.keep (TS.lst p4.at')) hax z1 (by rw[zA,zA];exact z2)
    ·refine⟨.inl ⟨rfl,_,SqL.of p.at'⟩,%[|1],Cy,fun c hc=>⟨(Ab hc _) _ _ p.at',eS %[|1],?_⟩⟩;exact Fl bB p hc hy1 bT z1 z2
   ·refine Aq ?_;refine⟨.inl ⟨rfl,_,SqL.of p.at'⟩,%[|1],Cy,fun c hc=>⟨(Ab hc _) _ _ p.at',eS %[|1],?_⟩⟩;exact Fl bB p hc hy1 bT z1 z2
 ·rintro σ H2 ⟨m,tv,dv,rv,xs,ts,rfl,hm,p,z1,z2,z3⟩;have z3':=z3 %[|1];refine⟨VX (upd H jl (.lst A0Z)) jl pl most many (1+n%(most:Int)),⟨ts.length,m,tv,dv,rv,xs,ts,rfl,hm,p,by omega,rfl,z3'⟩,?_⟩;rintro k σ H3 ⟨m,tv,dv,rv,xs,ts,rfl,hm,p,z1,z2,z3⟩;have bo:=p.len;have bT:0<=m / 4:=by omega
  have eS:∀{k:Nat},k<=24->k<sizeLine:=fun h=>Ar (zAD h %[|0])
  refine⟨.inl (SqL.of p.at'),?_⟩;refine Ci (fun c4=>?_) (fun c4=>?_)
  ·have c4':(1:Int)<(xs.length:Nat):=of_decide_eq_true c4;refine⟨fun σ' H'=>∃k',k'<k/\VX (upd H jl (.lst A0Z)) jl pl most many (1+n%(most:Int)) k' σ' H',fun _ _ h=>h,?_⟩;obtain⟨y,dy,t,ey,rfl,okt,ha,p4⟩:=p.pop bB %[|1];rw[zA] at bo;have hlen':xs.length=dy.length+1:=bo;obtain⟨x,ts2,u,ex,rfl,oku,hax,p5⟩:=p4.pop bB %[|1];have hl5:=p5.len
   have z2':ts2.length+1+1=k:=by
    rw[zA,zA] at z2;exact z2
   refine⟨.inl ⟨rfl,_,SqL.of p.at'⟩,p.at',ey,?_⟩;refine⟨.inl ⟨rfl,_,SqL.of p4.at'⟩,(by show (0:Int)<4;decide),SqL.of (p4.sm _ _ A0A),Ml %[|1] %[|1],.inl ⟨rfl,_,SqL.of p4.at'⟩,p4.at',ex,No,fun c hc=>⟨(Ab hc _) _ _ p5.at',eS %[|1],?_⟩⟩;refine⟨%[|45],?_⟩;exact Xn bB p5 hc bT %[|1] %[|1] okt oku (ha.keep (TS.lst p4.at')) hax z1 z2
  ·have c4':¬(1:Int)<(xs.length:Nat):=of_decide_eq_false (Bool.eq_false_iff.mpr c4);obtain⟨fk,y,dy,t,rfl,rfl,q1,a⟩:=p.pile.last %[|1];rw[zA] at c4'
   have e0:fk=[]:=by
    have c5:¬(1:Int)<((fk.length+1:Nat):Int):=c4';exact List.length_eq_zero_iff.mp %[|1]
   subst e0;cases q1;refine⟨SqL.of p.at',Ac (j:=0) rfl,?_⟩;exact q y t _ (sJ.trans p.sm) a (p.ok t %[|2]) (az z1)
end
def jc:Nat->Nat
 | 0=>38
 | 1=>124
 | 2=>62
 | _=>61
def BP:Tr->List Nat
 | .lt k=>[97+k]
 | .nt t=>45::BP t
 | .bn j a b=>40::(BP a++jc j::(BP b++[41]))
theorem BW:∀t:Tr,(BP t).length<=4*t.size
 | .lt _=>by show 1<=4*1;decide
 | .nt t=>by
  have:=BW t;show (BP t).length+1<=4*(t.size+1);omega
 | .bn j a b=>by
  have h1:=BW a;have h2:=BW b;show (BP a++jc j::(BP b++[41])).length+1<=4*(a.size+b.size+1);rw[zA,zAL,zA];show (BP a).length+((BP b).length+1+1)+1<=_;omega
abbrev Ee(z:Str):List Nat:=z.cps.toList
theorem Bm(z:Str):z.length=(Ee z).length:=by
 show z.cps.size=z.cps.toList.length;simp
theorem AN(a b:Str):Ee (a++b)=Ee a++Ee b:=cps_toList_append a b
theorem Em{k:Nat}(h:k<5):Er (Ee ("abcde":Str)) (k:Int)=some (97+k):=by
 refine Ac ?_
 match k,h with
 | 0,_=>rfl
 | 1,_=>rfl
 | 2,_=>rfl
 | 3,_=>rfl
 | 4,_=>rfl
theorem MS{j:Nat}(h:j<4):Er (Ee ("&|>=":Str)) (j:Int)=some (jc j):=by
 refine Ac ?_
 match j,h with
 | 0,_=>rfl
 | 1,_=>rfl
 | 2,_=>rfl
 | 3,_=>rfl
theorem Lv:A0Z.all CV=true:=rfl
theorem Rf(h:j<4):A0Z[j]? = some (.str (jn j))/\MK (.str (jn j)) (.str (jn j))=true/\∀m c,m<j->A0Z[m]? = some c->MK c (.str (jn j))=false:=by
 match j,h with
 | 0,_=>exact⟨rfl,by decide,fun m c hm=>absurd hm (zB8 _)⟩
 | 1,_=>
  refine⟨rfl,by decide,fun m c hm e=>?_⟩
  match m,hm with
  | 0,_=>cases e;decide
 | 2,_=>
  refine⟨rfl,by decide,fun m c hm e=>?_⟩
  match m,hm with
  | 0,_=>cases e;decide
  | 1,_=>cases e;decide
 | 3,_=>
  refine⟨rfl,by decide,fun m c hm e=>?_⟩
  match m,hm with
  | 0,_=>cases e;decide
  | 1,_=>cases e;decide
  | 2,_=>cases e;decide
theorem FY:¬(V.str (jn j)=V.str "let"):=by
 match j with
 | 0=>decide
 | 1=>decide
 | 2=>decide
 | _+3=>show ¬(V.str "same"=V.str "let");decide
theorem Kf:¬(V.str (jn j)=V.str "not"):=by
 match j with
 | 0=>decide
 | 1=>decide
 | 2=>decide
 | _+3=>show ¬(V.str "same"=V.str "not");decide
theorem BI[Decidable c](h:c)(a:A):If (decide c) A B:=.tt (decide_eq_true h) a
theorem Bw[Decidable c](h:¬c)(b:B):If (decide c) A B:=.ff (decide_eq_false h) b
def ML:Tr->List Tr
 | .lt _=>[]
 | .nt t=>[t]
 | .bn _ a b=>[a,b]
def Cw(ts:List Tr):List Tr:=ts.flatMap ML
theorem Lm(a b:List Tr):Cw (a++b)=Cw a++Cw b:=by
 unfold Cw;rw[List.flatMap_append]
theorem Mp(t:Tr):Cw [t]=ML t:=by
 unfold Cw;simp
theorem FF{ts:List Tr}{i:Nat}(h:ts[i]? = some t):Cw (ts.take (i+1))=Cw (ts.take i)++ML t:=by
 rw[zAR,h,Lm]
 congr 1
 exact Mp t
theorem SK(a b:List Tr):sz (a++b)=sz a+sz b:=by
 unfold sz;rw[List.map_append,zCP]
theorem SI:∀t:Tr,sz (ML t)+1=t.size
 | .lt _=>rfl
 | .nt t=>by
  have:sz [t]=t.size:=by unfold sz;simp
  show sz [t]+1=t.size+1;rw[this]
 | .bn _ a b=>by
  have:sz [a,b]=a.size+b.size:=by unfold sz;simp
  show sz [a,b]+1=a.size+b.size+1;rw[this]
theorem KG(t:Tr)(r:List Tr):sz (t::r)=t.size+sz r:=by
 unfold sz;rw[zAP,zBP]
theorem O4(ts:List Tr):sz (Cw ts)+ts.length=sz ts:=by
 induction ts with
 | nil=>rfl
 | cons t r ih=>
  have h:=SI t;rw[KG];show sz (ML t++Cw r)+(r.length+1)=_;rw[SK];omega
theorem KR(ts:List Tr):ts.length<=sz ts:=by
 induction ts with
 | nil=>exact zAB _
 | cons t r ih=>
  have h:=t.size_pos;rw[KG];show r.length+1<=_;omega
theorem MC(h:ts[i]? = some t):(Cw (ts.take i)++(ML t).take j).length<=sz ts:=by
 have e1:ts=ts.take (i+1)++ts.drop (i+1):=(zB9 _ _).symm
 have h1:(Cw (ts.take (i+1))).length<=(Cw ts).length:=by
  have h2:(Cw ts).length=(Cw (ts.take (i+1))).length+(Cw (ts.drop (i+1))).length:=by
   rw[<-zA,<-Lm,zB9]
  omega
 have h3:=KR (Cw ts);have h4:=O4 ts;rw[FF h,zA] at h1;rw[zA,zAW];omega
theorem BR{H:Hp}:∀{xs:List V}{ts:List Tr}{i:Nat}{x:V},A0I H xs ts->xs[i]? = some x->∃t,ts[i]? = some t/\Tr.At H t x
 | _,_,_,_,.nil,e=>by simp at e
 | _,_,0,_,.cons r _,e=>by
  simp at e;subst e;exact⟨_,rfl,r⟩
 | _,_,i+1,x,.cons _ q,e=>by
  obtain⟨t,h1,h2⟩:=BR (i:=i) q (by simpa using e);exact⟨t,by simpa using h1,h2⟩
theorem Yh(h:t.At H v):∃p z cs,v= .ref p/\H p=some (.tup (z::cs))/\((z= .str "let"/\ML t=[])\/(¬(z= .str "let")/\(∃x,z= .str x)/\A0I H cs (ML t)/\0<cs.length/\cs.length<=2)):=by
 cases t with
 | lt k=>
  obtain⟨p,e,hp⟩:=h;exact⟨p,_,_,e,hp,.inl ⟨rfl,rfl⟩⟩
 | nt t=>
  obtain⟨p,u,e,hp,ha⟩:=h;exact⟨p,_,_,e,hp,.inr ⟨by decide,⟨_,rfl⟩,.cons ha .nil,zBH _,by show 1<=2;decide⟩⟩
 | bn j a b=>
  obtain⟨p,x,y,e,hp,ha,hb⟩:=h;exact⟨p,_,_,e,hp,.inr ⟨FY,⟨_,rfl⟩,.cons ha (.cons hb .nil),zBH _,zAB _⟩⟩
theorem Y6(z:V)(cs:List V):GV (z::cs) (some 1) none=cs:=by
 unfold GV
 have e1:HT.sIx (z::cs).length 0 (some 1)=1:=by
  have:=HT.sIx_nat (z::cs).length 0 1;show HT.sIx (z::cs).length 0 (some ((1:Nat):Int))=1;rw[this,zAL];omega
 rw[e1,HT.sIx_none];show ((z::cs).drop 1).take (cs.length+1-1)=cs;simp
theorem RI{cs:List V}:¬(HT.sIx (z::cs).length 0 (some 1)=0/\HT.sIx (z::cs).length (z::cs).length none=(z::cs).length):=by
 rintro⟨h,_⟩;have:=HT.sIx_nat (z::cs).length 0 1;rw[show (some (1:Int))=some ((1:Nat):Int) from rfl,this,zAL] at h;omega
theorem Tt[Decidable c](hc:¬c)(h:A):If (!decide c) A B:=.tt (by rw[decide_eq_false hc];rfl) h
def DU(k:Nat)(w:Int):Bool:=decide (w / 2^k%2=1)
def jv:Nat->Bool->Bool->Bool
 | 0,a,b=>a && b
 | 1,a,b=>a || b
 | 2,a,b=>!a || b
 | _,a,b=>decide (a=b)
def tv:Tr->Int->Bool
 | .lt k,w=>DU k w
 | .nt t,w=>!tv t w
 | .bn j a b,w=>jv j (tv a w) (tv b w)
def Yp:List V:=[.int 1,.int 2,.int 4,.int 8,.int 16]
theorem Td(h:k<5):Er Yp ((k:Nat):Int)=some (.int (2^k)):=by
 refine Ac ?_
 match k,h with
 | 0,_=>rfl
 | 1,_=>rfl
 | 2,_=>rfl
 | 3,_=>rfl
 | 4,_=>rfl
theorem pow_pos(k:Nat):(0:Int)<2^k:=Int.pow_pos %[|0]
theorem RP(h:k<5):(2:Int)^k<1073741824:=by
 match k,h with
 | 0,_=>decide
 | 1,_=>decide
 | 2,_=>decide
 | 3,_=>decide
 | 4,_=>decide
theorem Oc(k:Nat)(w:Int):decide (V.int (w / 2^k%2)=V.int 1)=DU k w:=by
 unfold DU;rw[zA3,decide_eq_true_eq,decide_eq_true_eq];exact⟨fun h=>by injection h,fun h=>by rw[h]⟩
theorem OI(a b:Bool):decide (V.bl a=V.bl b)=decide (a=b):=by cases a<;>cases b<;>rfl
theorem aR(h:V.str (jn j)=V.str "and"):j=0:=by
 match j with
 | 0=>rfl
 | 1=>exact absurd h %[|0]
 | 2=>exact absurd h %[|0]
 | _+3=>exact absurd (show V.str "same"=V.str "and" from h) %[|0]
theorem aS(h:V.str (jn j)=V.str "or"):j=1:=by
 match j with
 | 0=>exact absurd h %[|0]
 | 1=>rfl
 | 2=>exact absurd h %[|0]
 | _+3=>exact absurd (show V.str "same"=V.str "or" from h) %[|0]
theorem aT(h:V.str (jn j)=V.str "if"):j=2:=by
 match j with
 | 0=>exact absurd h %[|0]
 | 1=>exact absurd h %[|0]
 | 2=>rfl
 | _+3=>exact absurd (show V.str "same"=V.str "if" from h) %[|0]
theorem aO(h0:¬V.str (jn j)=V.str "and")(h1:¬V.str (jn j)=V.str "or")(h2:¬V.str (jn j)=V.str "if")(a b:Bool):jv j a b=decide (a=b):=by
 match j with
 | 0=>exact absurd rfl h0
 | 1=>exact absurd rfl h1
 | 2=>exact absurd rfl h2
 | _+3=>rfl
structure Fz(mg:Str->%[|4]):Prop where
 isi:mg "isinstance"=none
 int:mg "int"=none
 bool:mg "bool"=none
 str:mg "str"=none
 tup:mg "tuple"=none
 lst:mg "list"=none
 set:mg "set"=none
 sorted:mg "sorted"=none
 rng:mg "range"=none
 any:mg "any"=none
 all:mg "all"=none
theorem Bp:bootBuiltins "list"=some (.type "list"):=by decide +kernel
abbrev AL(H:Hp)(p:Addr)(row:List Int):Prop:=H p=some (.lst (row.map V.int))
abbrev A0E(H:Hp):List V->List (List Int)->Prop:=Paired fun(v:V)(row:List Int)=>∃p,v= .ref p/\AL H p row
theorem A0E.keep{H H':Hp}(s:A0B H H'):∀{xs:List V}{rs:List (List Int)},A0E H xs rs->A0E H' xs rs
 | _,_,.nil=>.nil
 | _,_,.cons ⟨p,e,h⟩ q=>.cons ⟨p,e,s _ _ h⟩ (A0E.keep s q)
theorem A0E.get{H:Hp}:∀{xs:List V}{rs:List (List Int)}{i:Nat}{x:V},A0E H xs rs->xs[i]? = some x->∃row p,rs[i]? = some row/\x= .ref p/\AL H p row
 | _,_,_,_,.nil,e=>by simp at e
 | _,_,0,_,.cons ⟨p,e1,h⟩ _,e=>by
  simp at e;subst e;exact⟨_,p,rfl,e1,h⟩
 | _,_,i+1,x,.cons _ q,e=>by
  obtain⟨row,p,h1,h2⟩:=A0E.get (i:=i) q (by simpa using e);exact⟨row,p,by simpa using h1,h2⟩
theorem A0E.len(h:A0E H xs rs):xs.length=rs.length:=zB0 h
abbrev HK:Stmt:=Bu 63
def Wx:List V:=[.int 2,.int 4,.int 8,.int 16,.int 32]
theorem Wd{m:Nat}(h1:1<=m)(h5:m<=5):Er Wx ((m:Int)-1)=some (.int ((2^m:Nat):Int)):=by
 match m,h1,h5 with
 | 1,_,_=>exact Ac (j:=0) rfl
 | 2,_,_=>exact Ac (j:=1) rfl
 | 3,_,_=>exact Ac (j:=2) rfl
 | 4,_,_=>exact Ac (j:=3) rfl
 | 5,_,_=>exact Ac (j:=4) rfl
theorem Ot(h:m<=5):2^m<=32:=Nat.pow_le_pow_right (n:=2) %[|0] h
theorem Tb(n:Nat):(C4 n).length=n:=by unfold C4;simp
theorem Vv(n:Nat):(C4 n).Pairwise (· < ·):=by
 unfold C4;rw[List.pairwise_map];exact List.pairwise_lt_range.imp fun h=>by omega
theorem A2D:k∈C4 n↔0<=k/\k<n:=by
 unfold C4;rw[List.mem_map];constructor
 ·rintro⟨a,ha,rfl⟩;have:=List.mem_range.mp ha;omega
 ·rintro⟨h0,h1⟩;exact⟨k.toNat,List.mem_range.mpr %[|1],by omega⟩
inductive Db(vs:List V)(H:Hp)(Q:VK)(E:XK):Prop where
 | mk (m:Nat) (_:vs=[.int (m:Int)]) (_:1<=m) (_:m<=5) (_:∀(l:Addr)(H':Hp),A0B H H'->H l=none->AL H' l (C4 (2^m))->Q (.ref l) H'):Db  vs H Q E
section
variable {P:Program}{w:World}{K:PySem.W.Frag}{mg:Str->%[|4]}
def Q5:=Aw HK ["_law_many"] 1
theorem NP(F:%[|9] "_law_worlds" HK)(T:Fz mg):%[|3] "_law_worlds" AH 1 Db:=by
 refine F.ok Q5 ?_;rintro bz f bp A outer s H _ Q E hr ⟨m,rfl,h1,h5,q⟩;refine⟨_,A5 (AJ (Id rfl) %[|8] T.lst Bp (AM (AJ FU %[|8] T.rng boot_range (AM (An AI (Av (Aj Ad (Aj Ad (Aj Ad (AS Ad Ad))))) (Ao J8 (pv 0) Ad)))))),?_⟩;refine⟨SJ,fun l hl=>?_⟩;have s1:=Ab hl (.lst Wx);refine⟨SqL.of A0A,Wd h1 h5,_,rfl,fun r dN=>?_⟩;have s2:=Ab dN (.rng 0 ((2^m:Nat):Int));refine⟨r,2^m,rfl,A0A,zAD (Ot h5) %[|0],fun l2 bM=>?_⟩;have s3:=Ab bM (.lst ((C4 (2^m)).map V.int));exact q l2 _ (s1.trans (s2.trans s3)) ((s1.trans s2).free bM) A0A
end
abbrev IT:Stmt:=Bu 61
inductive C2(n:Nat)(vs:List V)(H:Hp)(Q:VK)(E:XK):Prop where
 | mk (v:V) (t:Tr) (w:Int) (_:vs=[v,.int w]) (_:t.At H v) (_:t.ok 5) (_:t.size<=n) (_:∀(H':Hp),A0B H H'->Q (.bl (tv t w)) H'):C2 n vs H Q E
section
variable {P:Program}{w:World}{K:PySem.W.Frag}{mg:Str->%[|4]}
def A2I:=Aw IT ["_law_sentence_here","_law_world","_law_left","_law_right"] 2
theorem S7(F:%[|9] "_law_true" IT)(G:%[|3] "_law_true" AH n (C2 n)):%[|3] "_law_true" AH (n+1) (C2 (n+1)):=by
 refine F.ok A2I ?_;rintro bz f bp A outer s H _ Q E hr ⟨v,t,k,rfl,ha,hok,hs,q⟩
 refine⟨_,Aa (Au (AR AF %[|42] Ae)
   (A5 (Bx AF (Ao A8 (Ao Bj (pv 1) (An AI (Av (Aj Ad (Aj Ad (Aj Ad (AS Ad Ad))))) %[|42])) Ad) Ad (Cd _)))
   Ak)
  (Aa (Au (AR AF %[|42] Ae)
   (A5 (KL (AA G hr Al (AS %[|42] (pv 1)))))
   Ak)
  (Aa (Az 2 A2I.nd (AA G hr Al (AS %[|42] (pv 1))))
  (Aa (Az 3 A2I.nd (AA G hr Al (AS %[|42] (pv 1))))
  (Aa (Au (AR AF %[|42] Ae)
   (A5 (N8 (pv 2) (Dt (pv 3))))
   Ak)
  (Aa (Au (AR AF %[|42] Ae)
   (A5 (JE (pv 2) (Dt (pv 3))))
   Ak)
  (Aa (Au (AR AF %[|42] Ae)
   (A5 (JE (KL (pv 2)) (Dt (pv 3))))
   Ak)
  (A5 (Bx AF (pv 2) (pv 3) (Cd _))))))))),?_⟩
 cases t with
 | lt j=>
  obtain⟨p,rfl,hp⟩:=ha;exists 10;refine BI rfl ?_;refine⟨SJ,fun l hl=>?_⟩;have s1:=Ab hl (.lst Yp);refine⟨SqT.of (s1 _ _ hp),Ac (j:=1) rfl,SqL.of A0A,Td hok,⟨pow_pos j,RP hok⟩,(by show (0:Int)<2;decide),rfl,?_⟩;have:=q _ s1;rw[show tv (.lt j) k=DU j k from rfl,<-Oc] at this;exact this
 | nt t=>
  obtain⟨p,u,rfl,hp,hu⟩:=ha;have hs':t.size+1<=n+1:=hs;exists 10;refine Bw %[|0] ?_;exists 10;refine BI rfl ?_;exact⟨SqT.of hp,Ac (j:=1) rfl,u,t,k,rfl,hu,hok,by omega,fun H' s'=>q H' s'⟩
 | bn j a b=>
  obtain⟨p,x,y,rfl,hp,hx,hy⟩:=ha;have hs':a.size+b.size+1<=n+1:=hs;obtain⟨hj,oa,ob⟩:=hok;exists 10;refine Bw FY ?_;exists 10;refine Bw Kf ?_;refine⟨SqT.of hp,Ac (j:=1) rfl,x,a,k,rfl,hx,oa,by omega,fun H1 s1=>?_⟩;refine⟨SqT.of (s1 _ _ hp),Ac (j:=2) rfl,y,b,k,rfl,hy.keep (TS.same s1),ob,by omega,fun H2 s2=>?_⟩;have eA:=s2 _ _ (s1 _ _ hp);have q2:=q H2 (s1.trans s2);have etv:tv (.bn j a b) k=jv j (tv a k) (tv b k):=rfl;rw[etv] at q2;generalize tv a k=va at q2;generalize tv b k=vb at q2;refine⟨SqT.of eA,Ac (j:=0) rfl,rfl,?_⟩;by_cases h0:V.str (jn j)=V.str "and"
  ·refine BI h0 ?_;obtain rfl:=aR h0
   cases va with
   | false=>exact Aq q2
   | true=>exact AB q2
  refine Bw h0 ?_;refine⟨SqT.of eA,Ac (j:=0) rfl,rfl,?_⟩;by_cases h1:V.str (jn j)=V.str "or"
  ·refine BI h1 ?_;obtain rfl:=aS h1
   cases va with
   | false=>exact Aq q2
   | true=>exact AB q2
  refine Bw h1 ?_;refine⟨SqT.of eA,Ac (j:=0) rfl,rfl,?_⟩;by_cases h2:V.str (jn j)=V.str "if"
  ·refine BI h2 ?_;obtain rfl:=aT h2
   cases va with
   | false=>exact AB q2
   | true=>exact Aq q2
  refine Bw h2 ?_;rw[aO h0 h1 h2] at q2;refine⟨rfl,?_⟩;rw[OI];exact q2
theorem YD(F:%[|9] "_law_true" IT):%[|3] "_law_true" AH 0 (C2 0):=F.no ["_law_sentence_here","_law_world"] fun vs H Q E h=>by
  obtain⟨v,t,k,_,_,_,h1,_⟩:=h;have:=t.size_pos;omega
theorem Jy(F:%[|9] "_law_true" IT):∀n:Nat,%[|3] "_law_true" AH n (C2 n)
 | 0=>YD F
 | n+1=>S7 F (Jy F n)
end
abbrev Rq:Stmt:=Bu 62
inductive Ps(K:PySem.W.Frag)(b:Bool)(vs:List V)(H:Hp)(Q:VK)(E:XK):Prop where
 | mk (v:V) (t:Tr) (r:Addr) (row:List Int) (_:vs=[v,.ref r]) (_:t.At H v) (_:t.ok 5) (_:t.size<=23) (_:SqL K H r (row.map V.int)) (_:row.length<=900) (_:∀(l:Addr)(H':Hp),A0B H H'->H l=none->AL H' l (row.filter fun k=>tv t k == b)->Q (.ref l) H'):Ps K b vs H Q E
section
variable {P:Program}{w:World}{K:PySem.W.Frag}{mg:Str->%[|4]}
def Yt:=Aw Rq ["_law_sentence_here","_law_row"] 2
theorem UJ(F:%[|9] "_law_ins" Rq)(GT:%[|3] "_law_true" AH 23 (C2 23)):%[|3] "_law_ins" AH 24 (Ps K true):=by
 refine F.ok Yt ?_;rintro bz f bp A outer s H _ Q E hr ⟨v,t,r,row,rfl,ha,hok,hs,hS,hl,q⟩;refine⟨_,A5 (Bk (N:=["_law_world","_law_sentence_here"]) (js:=[none,some 0]) (cl:=[("_law_sentence_here",s.heap.objs.size+1)]) ⟨rfl,rfl,rfl,(by intro p hp;simp at hp;rcases hp with rfl<;>rfl),rfl,rfl,rfl⟩ (AX (pv 1)) %[|77] (fun c1=>(CJ (Bv (AA GT hr Al (AS (pv 1) (pv 0)))))) (fun c1=>(pv 0))),?_⟩;refine⟨⟨_,hS⟩,fun cc acc br=>BL (p:=fun k=>tv t k == true) (rest:=[some v]) hS br hl (fun k hk H2 s2 R hR=>?_) (fun v0 H2 s2 h2=>q acc H2 s2 br h2) none⟩;refine⟨v,t,k,rfl,ha.keep (TS.same s2),hok,hs,fun H3 s3=>?_⟩;have:=hR H3 s3;rw[show (tv t k == true)=tv t k by cases tv t k<;>rfl] at this;exact this
end
def AC(b:Bool)(t:Tr)(row:List Int):List Int:=row.filter fun k=>tv t k == b
theorem Sw(t:Tr)(row:List Int):(%[|12] row).length+(%[|24] row).length=row.length:=by
 unfold AC
 induction row with
 | nil=>rfl
 | cons k r ih=>
  cases h:tv t k with
  | true=>simp[h] at ih ⊢;omega
  | false=>simp[h] at ih ⊢;omega
def AQ(z:Str)(t:Tr)(row:List Int):List (List Int):=if z="true" then[%[|12] row] else if z="false" then[%[|24] row] else[%[|12] row,%[|24] row]
def CP(row:List Int)(sides:List (List Int)):List Int:=row.filter fun k=>sides.any fun s=>decide (k∈s)
def A0(sides:List (List Int))(row:List Int):Bool:=sides.all fun s=>s.any fun k=>decide (k∈row)
abbrev TF:Stmt:=Bu 66
inductive Mh(n:Nat)(vs:List V)(H:Hp)(Q:VK)(E:XK):Prop where
 | mk (v:V) (t:Tr) (_:vs=[v]) (_:t.At H v) (_:t.ok 5) (_:t.size<=n) (_:t.size<=23) (_:∀(z:Str)(H':Hp),Ee z=BP t->A0B H H'->Q (.str z) H'):Mh n vs H Q E
section
variable {P:Program}{w:World}{K:PySem.W.Frag}{mg:Str->%[|4]}
def scLsh:=Aw TF ["_law_sentence_here","_law_joint"] 1
theorem X9(F:%[|9] "_law_shown" TF)(G:%[|3] "_law_shown" AH n (Mh n)):%[|3] "_law_shown" AH (n+1) (Mh (n+1)):=by
 refine F.ok scLsh ?_;rintro bz f bp A outer s H _ Q E hr ⟨v,t,rfl,ha,hok,hs,g9,q⟩
 refine⟨_,Aa (Au (AR AF %[|42] Ae) (A5 (An Gb Ae %[|42])) Ak)
  (Aa (Au (AR AF %[|42] Ae) (A5 (Ao A3 Ae (AA G hr Al (AM %[|42])))) Ak)
  (Aa (Az 1 scLsh.nd (An Gb Ae (DA zBD PySem.F.slot_list_index PySem.F.type_list_index RU (Av (Aj Ae (Aj Ae (AS Ae Ae)))) (AM %[|42]))))
  (A5 (Ao A3 (Ao A3 (Ao A3 (Ao A3 Ae (AA G hr Al (AM %[|42]))) (pv 1)) (AA G hr Al (AM %[|42]))) Ae)))),?_⟩
 have dk:∀{k:Nat},k<=1000->k<=sizeLine:=C8
 cases t with
 | lt k=>
  obtain⟨p,rfl,hp⟩:=ha;exists 10;refine BI rfl ?_;refine⟨SqT.of hp,Ac (j:=1) rfl,_,_,_,rfl,rfl,SJ,Em hok,?_⟩;exact q _ H rfl (A0B.refl H)
 | nt t=>
  obtain⟨p,u,rfl,hp,ha⟩:=ha;have hs3:t.size+1<=n+1:=hs;have hs4:t.size+1<=23:=g9;exists 10;refine Bw %[|0] ?_;exists 10;refine BI rfl ?_;refine⟨SqT.of hp,Ac (j:=1) rfl,u,t,rfl,ha,hok,by omega,by omega,fun z H' ez sm=>?_⟩
  have hz:z.length<=92:=by
   rw[Bm,ez];have:=BW t;omega
  refine⟨?_,?_⟩
  ·show 1+z.length<=sizeLine;exact dk %[|1]
  ·refine q _ H' ?_ sm;rw[AN,ez];rfl
 | bn j a b=>
  obtain⟨p,x,y,rfl,hp,hx,hy⟩:=ha;obtain⟨hj,oka,okb⟩:=hok;have hs3:a.size+b.size+1<=n+1:=hs;have hs4:a.size+b.size+1<=23:=g9;exists 10;refine Bw FY ?_;exists 10;refine Bw Kf ?_;refine⟨ZU,fun l hl=>?_⟩;have s1:A0B H (upd H l (.lst A0Z)):=Ab hl _;obtain⟨i1,i2,i3⟩:=Rf hj;refine⟨.inl ⟨rfl,A0Z,SqL.of A0A⟩,SqT.of (s1 _ _ hp),Ac (j:=0) rfl,l,A0Z,_,j,_,rfl,rfl,SqL.of A0A,rfl,Lv,i1,i2,i3,_,_,_,rfl,rfl,ZU,MS hj,?_⟩;refine⟨SqT.of (s1 _ _ hp),Ac (j:=1) rfl,x,a,rfl,hx.keep (TS.same s1),oka,by omega,by omega,fun za H2 ea s2=>?_⟩
  have la:za.length<=92:=by
   rw[Bm,ea];have:=BW a;omega
  refine⟨dk (by show 1+za.length<=1000;omega),?_,SqT.of (s2 _ _ (s1 _ _ hp)),Ac (j:=2) rfl,y,b,rfl,hy.keep (TS.same (s1.trans s2)),okb,by omega,by omega,fun zb H3 eb s3=>?_⟩
  ·rw[Bm,AN,ea];refine dk ?_;have:=BW a;show (Ee "("++BP a).length+1<=1000;rw[zA];show 1+(BP a).length+1<=1000;omega
  have h1:=BW a;have h2:=BW b;refine⟨?_,?_,q _ H3 ?_ (s1.trans (s2.trans s3))⟩
  ·rw[Bm,Bm zb,AN,AN,ea,eb];refine dk ?_;rw[zA,zA];show 1+(BP a).length+1+(BP b).length<=1000;omega
  ·rw[Bm,AN,AN,AN,ea,eb];refine dk ?_;rw[zA,zA,zA];show 1+(BP a).length+1+(BP b).length+1<=1000;omega
  ·rw[AN,AN,AN,AN,ea,eb];show (([40]++BP a)++[jc j])++BP b++[41]=40::(BP a++jc j::(BP b++[41]));simp
theorem au(F:%[|9] "_law_shown" TF):%[|3] "_law_shown" AH 0 (Mh 0):=F.no ["_law_sentence_here"] fun vs H Q E h=>by
  obtain⟨v,t,_,_,_,h1,_⟩:=h;have:=t.size_pos;omega
theorem Pp(F:%[|9] "_law_shown" TF):∀n:Nat,%[|3] "_law_shown" AH n (Mh n)
 | 0=>au F
 | n+1=>X9 F (Pp F n)
end
abbrev IB:Stmt:=Bu 80
inductive HS(K:PySem.W.Frag)(vs:List V)(H:Hp)(Q:VK)(E:XK):Prop where
 | mk (sd r:Addr) (row:List Int) (xs:List V) (sides:List (List Int)) (_:vs=[.ref sd,.ref r]) (_:SqL K H r (row.map V.int)) (_:row.length<=900) (_:SqL K H sd xs) (_:A0E H xs sides) (_:(∀s∈sides,s.length<=900)) (_:∀(H':Hp),A0B H H'->Q (.bl (A0 sides row)) H'):HS K vs H Q E
section
variable {P:Program}{w:World}{K:PySem.W.Frag}{mg:Str->%[|4]}{f:Addr}
def A2K:=Aw IB ["_law_sides","_law_row","_law_side"] 2
theorem NG(F:%[|9] "_law_stands" IB)(T:Fz mg):%[|3] "_law_stands" AH 1 (HS K):=by
 refine F.ok A2K ?_;rintro bz f bp A outer s H _ Q E hr ⟨sd,r,row,xs,sides,rfl,hS,hl,hX,hR,cu,q⟩
 refine⟨_,Aa (BZ zAV rfl (AX (pv 0)) (BA 2 A2K.nd)
   (Ai (Au (CB (Bv (AK (Jo rfl) %[|8] T.any boot_any (AM (Bk (N:=["_law_world","_law_row"]) (js:=[none,some 1]) (cl:=[("_law_row",s.heap.objs.size+1)]) ⟨rfl,rfl,rfl,(by intro p hp;simp at hp;rcases hp with rfl<;>rfl),rfl,rfl,rfl⟩ (AX (pv 2)) (fun c1=>(BA 0 (show (["_law_world","_law_row"]:List Str).Nodup by decide +kernel))) (fun c1=>BG) (fun c1=>(Bx D5 (pv 0) (pv 1) %[|28])))))))
    (A5 C7)
    Ak)))
  (A5 C7),?_⟩
 refine⟨⟨_,hX⟩,Bf (K:=K) (a:=sd) (xs:=xs) (fun i σ H2=>∃sv,σ=[some (.ref sd),some (.ref r),sv]/\A0B H H2/\(sides.take i).all (fun s=>s.any fun k=>decide (k∈row))=true) ⟨_,rfl,A0B.refl _,rfl⟩ ?_ ?_ ?_⟩
 ·rintro i σ H2 _ ⟨sv,rfl,s2,_⟩;exact s2.seq hX
 ·rintro i x σ H2 hx ⟨sv,rfl,s2,hall⟩;obtain⟨dY,p,dN,rfl,hp⟩:=hR.get hx;have eA:=s2 _ _ hp;have et:sides.take (i+1)=sides.take i++[dY]:=by rw[zAR,dN];rfl
  refine⟨⟨_,SqL.of eA⟩,fun c1 acc br=>EK (f:=fun k=>decide (k∈row)) (rest:=[some (.ref r)]) (SqL.of eA) br (cu dY (zAN dN)) (fun k hk H3 s3 R3 hR3=>?_) (fun v0 H3 s3 h3=>?_) none⟩
  ·exact Yi ((s2.trans s3).seq hS) (hR3 H3 (A0B.refl _))
  ·refine⟨acc,_,rfl,SqL.of h3,?_⟩;have e:(dY.map fun k=>decide (k∈row)).any id=dY.any fun k=>decide (k∈row):=by rw[zDN];rfl
   rw[e]
   cases hq:dY.any fun k=>decide (k∈row) with
   | false=>
    refine AB ?_
    have ef:A0 sides row=false:=by
     unfold A0;rw[<-zB9 (i+1) sides,et,zDC,zDC,zC2,hq];simp
    have:=q H3 (s2.trans s3);rw[ef] at this;exact this
   | true=>
    refine Aq ?_;refine⟨_,rfl,s2.trans s3,?_⟩;rw[et,zDC,hall,zC2,hq];rfl
 ·rintro σ H2 ⟨sv,rfl,s2,hall⟩;rw[hR.len,zAQ] at hall;have:=q H2 s2;unfold A0 at this;rw[hall] at this;exact this
end
def Bs(seen row:List Int):Str:=if (seen.all fun k=>decide (k∈row))=true then "grant" else if (seen.any fun k=>decide (k∈row))=true then "doubt" else "deny"
def N9(xs row:List Int):List Int:=xs.filter fun k=>decide (k∈row)
def EL(xs row:List Int):List Int:=xs.filter fun k=>!decide (k∈row)
theorem Pm(xs row:List Int):N9 xs row=[]↔(xs.any fun k=>decide (k∈row))=false:=by
 unfold N9;rw[List.filter_eq_nil_iff];constructor
 ·intro h;rw[Bool.eq_false_iff];intro z;obtain⟨k,hk,gU⟩:=List.any_eq_true.mp z;exact h k hk gU
 ·intro h k hk gU;have:(xs.any fun k=>decide (k∈row))=true:=List.any_eq_true.mpr ⟨k,hk,gU⟩;rw[h] at this;cases this
theorem Xg(xs row:List Int):(N9 xs row).length<=xs.length:=zAX _ _
theorem Wi(xs row:List Int):(EL xs row).length<=xs.length:=zAX _ _
theorem DS:(xs.map V.int).isEmpty=decide (xs=[]):=by cases xs<;>simp
def CF(sides:List (List Int))(going seen row:List Int):Str:=
 if EL going row=[] then "grant" else if N9 going row=[] then "deny"
 else if Bs seen row="grant"/\A0 sides (N9 going row)=false then "doubt"
 else if Bs seen row="deny"/\A0 sides (EL going row)=false then "doubt" else Bs seen row
theorem Fv(e:σ.set i (some v)=σ')(h:N σ' H):({ nx:=fun _ H'=>(fun x H1=>Cu i x σ H1 N) v H',rt:=R,bk:=B,ct:=C }:BH).nx σ0 H:=by
 subst e;exact h
theorem DL(Mid:L2.St->Hp->Prop)(h2:∀σ' H',Mid σ' H'->u D σ' H')(h1:(∀σ' H',Mid σ' H'->u D σ' H')->t { D with nx:=u D } σ H):({ nx:=UC t u D,rt:=R,bk:=B,ct:=C }:BH).nx σ H:=h1 h2
theorem W5(e:σ.set i (some v)=σ')(h:N σ' H):Cu i v σ H N:=by
 subst e;exact h
def Wr(row:List Int):Prop:=row.Pairwise (· < ·)/\∀k∈row,0<=k/\k<32
theorem Wr.sub(h:Wr b)(s:a.Sublist b):Wr a:=⟨h.1.sublist s,fun k hk=>h.2 k (s.subset hk)⟩
theorem Va(h:m<=5):Wr (C4 (2^m)):=⟨Vv _,fun k hk=>by
 have:=A2D.mp hk
 have h2:=Ot h
 have:((2^m:Nat):Int)<=32:=by omega
 omega⟩
theorem Wr.len(h:Wr row):row.length<=32:=by
 have nd:row.Nodup:=h.1.imp fun h=>by omega
 have:=F0 (l2:=C4 32) nd fun k hk=>A2D.mpr (h.2 k hk)
 rw[Tb] at this;exact this
theorem FC(h:s∈AQ z t row):s.Sublist row:=by
 unfold AQ at h;split at h
 ·rw[List.mem_singleton.mp h];exact zAO
 ·split at h
  ·rw[List.mem_singleton.mp h];exact zAO
  ·simp only[zAC,zAA,or_false] at h;rcases h with rfl | rfl
   ·exact zAO
   ·exact zAO
theorem P8:(∃a,AQ z t row=[a])\/∃a b,AQ z t row=[a,b]:=by
 unfold AQ;split
 ·exact .inl ⟨_,rfl⟩
 ·split
  ·exact .inl ⟨_,rfl⟩
  ·exact .inr ⟨_,_,rfl⟩
theorem Ti:(CP row sides).Sublist row:=zAO
abbrev N1:Stmt:=Bu 22
inductive Hq(K:PySem.W.Frag)(vs:List V)(H:Hp)(Q:VK)(E:XK):Prop where
 | mk (a:Addr) (xs:List V) (ts:List Tr) (_:vs=[.ref a]) (_:SqL K H a xs) (_:A0I H xs ts) (_:sz ts<=900) (_:∀(r:Addr)(ys:List V)(H':Hp),A0B H H'->H' r=some (.lst ys)->A0I H' ys (Cw ts)->Q (.ref r) H'):Hq K vs H Q E
section
variable {P:Program}{w:World}{K:PySem.W.Frag}{mg:Str->%[|4]}
def Uy:=Aw N1 ["layer"] 1
theorem ZN:(["sentence","part"]:List Str).Nodup:=by decide +kernel
theorem Uu(F:%[|9] "parts_of" N1):%[|3] "parts_of" AH 1 (Hq K):=by
 refine F.ok Uy ?_;rintro bz f bp A outer s H _ Q E hr ⟨a,xs,ts,rfl,hS,hp,hsz,q⟩
 refine⟨_,Ai (SW (Uf (N:=["sentence","part"]) (js:=[none,none]) (cl:=[]) ⟨rfl,rfl,rfl,zB2 _,rfl,rfl,rfl⟩ (AX (pv 0)) (fun _=>Lb (i:=0) ZN rfl (Or.inl rfl))
  (fun _=>CJ (AR Gn %[|42] Ae)) (fun _=>XY (Ij Xu (pv 0) (Lg Ad) KH)) (fun _=>Lb (i:=1) ZN rfl (Or.inl rfl)) (fun _=>BG) (fun _=>pv 1))),?_⟩
 refine⟨⟨_,hS⟩,fun cc acc br=>Bf (K:=K) (a:=a) (xs:=xs) (fun i σ H2=>∃(v0 v1:Option V)(ys:List V),σ=[v0,v1]/\A0B H H2/\H2 acc=some (.lst ys)/\A0I H2 ys (Cw (ts.take i))) ?_ ?_ ?_ ?_⟩
 ·exact⟨none,none,[],rfl,Ab br _,A0A,.nil⟩
 ·rintro i σ H2 _ ⟨v0,v1,ys,rfl,s2,_,_⟩;exact s2.seq hS
 ·rintro i x σ H2 hx ⟨v0,v1,ys,rfl,s2,bK,eA⟩;obtain⟨t,ht,bF⟩:=BR hp hx;have hat2:=bF.keep (TS.same s2);obtain⟨p,z,cs,rfl,f6,hk⟩:=Yh hat2
  have iy:∃y,z= .str y:=by
   rcases hk with⟨e,_⟩|⟨_,e,_⟩
   ·exact⟨_,e⟩
   ·exact e
  obtain⟨y,rfl⟩:=iy;refine⟨SqT.of f6,Ac (j:=0) rfl,rfl,?_⟩;rcases hk with⟨e,ek⟩|⟨ne,_,hcs,_,_⟩
  ·refine RM e ?_;refine⟨_,_,ys,rfl,s2,bK,?_⟩;rw[FF ht,ek,zA6];exact eA
  ·refine Tt ne ?_;refine⟨_,rfl,p,_,rfl,SqT.of f6,RI,fun c hc=>⟨⟨_,SqT.of A0A⟩,VS (K:=K) (a:=c) (xs:=GV (V.str y::cs) (some 1) none) (fun j σ H3=>∃(v1:Option V)(ys:List V),σ=[some (.ref p),v1]/\A0B H H3/\H3 acc=some (.lst ys)/\H3 c=some (.tup (GV (V.str y::cs) (some 1) none))/\A0I H3 cs (ML t)/\A0I H3 ys (Cw (ts.take i)++(ML t).take j)) ?_ ?_ ?_ ?_⟩⟩
   ·refine⟨_,ys,rfl,s2.trans (Ab hc _),(Ab hc _) _ _ bK,A0A,hcs.keep (TS.new hc),?_⟩;rw[List.take_zero,zA6];exact eA.keep (TS.new hc)
   ·rintro j σ H3 _ ⟨v1,ys,rfl,s3,_,hc3,_⟩;exact SqT.of hc3
   ·rintro j u σ H3 hu ⟨v1,ys,rfl,s3,eP,hc3,hcs3,i5⟩;rw[Y6] at hu;obtain⟨t2,ht2,gG⟩:=BR hcs3 hu;have bo:=i5.len;have hb:=MC (j:=j) ht;refine AB ?_;refine⟨ys,eP,Ar %[|1],?_⟩;have k3:TS H3 (upd H3 acc (.lst (ys++[u]))):=TS.lst eP;refine⟨_,ys++[u],rfl,Ap s3 br _,A0A,by rw[Af (AT hc3 eP %[|11])];exact hc3,hcs3.keep k3,?_⟩;rw[zAR,ht2,<-zBY];exact (i5.keep k3).snoc (gG.keep k3)
   ·rintro σ H3 ⟨v1,ys,rfl,s3,eP,hc3,hcs3,i5⟩;refine⟨_,_,ys,rfl,s3,eP,?_⟩;rw[Y6] at i5;have hl:=hcs3.len;rw[hl,zAQ] at i5;rw[FF ht];exact i5
 ·rintro σ H2 ⟨v0,v1,ys,rfl,s2,bK,eA⟩;rw[hp.len,zAQ] at eA;exact q acc ys H2 s2 bK eA
end
abbrev Ox:Stmt:=Bu 26
inductive Hw(vs:List V)(H:Hp)(Q:VK)(E:XK):Prop where
 | mk (k:Nat) (w:Int) (_:vs=[.int (k:Int),.int w]) (_:Q (.bl (DU k w)) H):Hw  vs H Q E
theorem Vs(k:Nat)(w:Int):decide (V.int (Builtin.bitAnd (w / 2^((k:Int)).toNat) 1)=V.int 1)=DU k w:=by
 rw[bitAnd_m1,zBB];exact Oc k w
section
variable {P:Program}{w:World}{K:PySem.W.Frag}{mg:Str->%[|4]}
def U9:=Aw Ox ["letter","world"] 2
theorem Uk(F:%[|9] "letter_holds" Ox):%[|3] "letter_holds" AH 1 Hw:=by
 refine F.ok U9 ?_;rintro bz f bp A outer s H _ Q E hr ⟨k,wd,rfl,q⟩;refine⟨_,A5 (Bx AF (Ao Xb (Ao YE (pv 1) (pv 0)) Ad) Ad (Cd _)),?_⟩;refine⟨Int.natCast_nonneg k,rfl,?_⟩;rw[<-Vs] at q;exact q
end
abbrev KN:Stmt:=Bu 27
abbrev M7:Stmt:=Bu 28
abbrev J1:Stmt:=Bu 29
inductive Iu(vs:List V)(H:Hp)(Q:VK)(E:XK):Prop where
 | mk (j:Nat) (a b:Bool) (_:vs=[.str (jn j),.bl a,.bl b]) (_:Q (.bl (jv j a b)) H):Iu  vs H Q E
def post:Tr->List Tr
 | .lt k=>[.lt k]
 | .nt t=>post t++[.nt t]
 | .bn j a b=>post a++(post b++[.bn j a b])
theorem Ts:∀t:Tr,post t=(ML t).flatMap post++[t]
 | .lt k=>rfl
 | .nt t=>by show post t++[.nt t]=(post t++[])++[.nt t];rw[zA6]
 | .bn j a b=>by show post a++(post b++[.bn j a b])=(post a++(post b++[]))++[.bn j a b];rw[zA6,zBY]
theorem Da:∀t:Tr,(post t).length=t.size
 | .lt k=>rfl
 | .nt t=>by show (post t++[Tr.nt t]).length=t.size+1;rw[zA,Da t];rfl
 | .bn j a b=>by
  show (post a++(post b++[Tr.bn j a b])).length=a.size+b.size+1;rw[zA,zA,Da a,Da b];show a.size+(b.size+1)=_;omega
def stp(w:Int)(rs:List Bool):Tr->Option (List Bool)
 | .lt k=>some (DU k w::rs)
 | .nt _=>match rs with
  | a::r=>some ((!a)::r)
  | []=>none
 | .bn j _ _=>match rs with
  | b::a::r=>some (jv j a b::r)
  | _=>none
def run(w:Int):List Tr->List Bool->Option (List Bool)
 | [],rs=>some rs
 | u::r,rs=>match stp w rs u with
  | some gX=>run w r gX
  | none=>none
theorem Hg(w:Int):∀(a b:List Tr)(rs gX:List Bool),run w a rs=some gX->run w (a++b) rs=run w b gX
 | [],b,rs,gX,h=>by cases h;rfl
 | u::r,b,rs,gX,h=>by
  unfold run at h;show (match stp w rs u with | some gX=>run w (r++b) gX | none=>none)=run w b gX
  cases e:stp w rs u with
  | none=>rw[e] at h;cases h
  | some z=>rw[e] at h;exact Hg w r b z gX h
theorem Fs(w:Int):∀(t:Tr)(rs:List Bool),run w (post t) rs=some (tv t w::rs)
 | .lt k,rs=>rfl
 | .nt t,rs=>by
  show run w (post t++[.nt t]) rs=_;rw[Hg w _ _ _ _ (Fs w t rs)];rfl
 | .bn j a b,rs=>by
  show run w (post a++(post b++[.bn j a b])) rs=_;rw[Hg w _ _ _ _ (Fs w a rs),Hg w _ _ _ _ (Fs w b _)];rfl
inductive Kb(vs:List V)(H:Hp)(Q:VK)(E:XK):Prop where
 | mk (v:V) (t:Tr) (_:vs=[v]) (_:t.At H v) (_:t.size<=800) (_:∀(l:Addr)(ys:List V)(H':Hp),A0B H H'->H l=none->H' l=some (.lst ys)->A0I H' ys (post t)->Q (.ref l) H'):Kb  vs H Q E
inductive HV(vs:List V)(H:Hp)(Q:VK)(E:XK):Prop where
 | mk (l:Addr) (ys:List V) (t:Tr) (w:Int) (_:vs=[.ref l,.int w]) (_:H l=some (.lst ys)) (_:A0I H ys (post t)) (_:t.ok 5) (_:t.size<=800) (_:∀(H':Hp),A0B H H'->Q (.bl (tv t w)) H'):HV  vs H Q E
section
variable {P:Program}{w:World}{K:PySem.W.Frag}{mg:Str->%[|4]}
def Rn:=Aw KN ["kind","one","other"] 3
theorem Qn(F:%[|9] "joined" KN):%[|3] "joined" AH 1 Iu:=by
 refine F.ok Rn ?_;rintro bz f bp A outer s H _ Q E hr ⟨j,va,vb,rfl,q2⟩
 refine⟨_,Aa (Au (AR AF (pv 0) Ae)
   (A5 (N8 (pv 1) (Dt (pv 2))))
   Ak)
  (Aa (Au (AR AF (pv 0) Ae)
   (A5 (JE (pv 1) (Dt (pv 2))))
   Ak)
  (Aa (Au (AR AF (pv 0) Ae)
   (A5 (JE (KL (pv 1)) (Dt (pv 2))))
   Ak)
  (A5 (Bx AF (pv 1) (pv 2) (Cd _))))),?_⟩
 refine⟨rfl,?_⟩;by_cases h0:V.str (jn j)=V.str "and"
 ·refine BI h0 ?_;obtain rfl:=aR h0
  cases va with
  | false=>exact Aq q2
  | true=>exact AB q2
 refine Bw h0 ?_;refine⟨rfl,?_⟩;by_cases h1:V.str (jn j)=V.str "or"
 ·refine BI h1 ?_;obtain rfl:=aS h1
  cases va with
  | false=>exact Aq q2
  | true=>exact AB q2
 refine Bw h1 ?_;refine⟨rfl,?_⟩;by_cases h2:V.str (jn j)=V.str "if"
 ·refine BI h2 ?_;obtain rfl:=aT h2
  cases va with
  | false=>exact AB q2
  | true=>exact Aq q2
 refine Bw h2 ?_;rw[aO h0 h1 h2] at q2;refine⟨rfl,?_⟩;rw[OI];exact q2
inductive aD(H:Hp)(v:V)(t:Tr)(sl:Addr)(wl:Addr)(m:Nat)(σ:L2.St)(H3:Hp):Prop where
 | mk (ys zs:List V) (ss ws:List Tr) (pp:Option V) (_:σ=[some v,some (.ref sl),some (.ref wl),pp]) (_:A0B H H3) (_:H3 sl=some (.lst ys)) (_:H3 wl=some (.lst zs)) (_:A0I H3 ys ss) (_:A0I H3 zs ws) (_:ws.flatMap post++ss.reverse=post t) (_:m=sz ws):aD H v t sl wl m σ H3
def A2A:=Aw M7 ["sentence","steps","waiting","step"] 1
theorem LK{H:Hp}:∀{xs:List V}{ts:List Tr},A0I H xs ts->A0I H xs.reverse ts.reverse
 | _,_,.nil=>.nil
 | _,_,.cons r q=>by
  rw[zCW,zCW];exact (LK q).snoc r
theorem LS{H:Hp}:∀{xs ys:List V}{ts us:List Tr},A0I H xs ts->A0I H ys us->A0I H (xs++ys) (ts++us)
 | _,_,_,_,.nil,q=>q
 | _,_,_,_,.cons r q,q2=>.cons r (LS q q2)
theorem TN(F:%[|9] "steps_of" M7)(GP:%[|3] "parts_of" AH 1 (Hq K)):%[|3] "steps_of" AH 2 Kb:=by
 refine F.ok A2A ?_;rintro bz f bp A outer s H _ Q E hr ⟨v,t,rfl,ha,hs,q⟩
 refine⟨_,Aa (Az 1 A2A.nd (Av Bi))
  (Aa (Az 2 A2A.nd (Av (AM (pv 0))))
  (Aa (DO zAV (BS (pv 2) (fun _=>rfl))
   (Aa (Az 3 A2A.nd (B7 (pv 2)))
   (Aa (As (A7 (pv 1) (AM (pv 3))))
   (Ai (As (DA zBD zCR zCS FW (pv 2) (AM (AA GP hr Al (AM (Av (AM (pv 3))))))))))))
  (Aa (As (Uh zBD PySem.F.slot_list_reverse PySem.F.type_list_reverse MO (pv 1)))
  (A5 (pv 1))))),?_⟩
 refine⟨GQ,fun sl cu=>?_⟩;have s1:=Ab cu (.lst []);refine⟨Rg,fun wl dG=>?_⟩;have s2:=Ab dG (.lst [v]);have nsw:sl≠wl:=Ah (A0A (H:=H) (a:=sl) (o:=.lst [])) dG;have iz:H wl=none:=s1.free dG;have e1:sz [t]=t.size:=by unfold sz;simp
 refine⟨aD H v t sl wl,⟨_,[],[v],[],[t],none,rfl,s1.trans s2,s2 _ _ A0A,A0A,.nil,.cons (ha.keep ((TS.same s1).trans (TS.same s2))) .nil,by simp,rfl⟩,?_⟩;rintro m σ H3 ⟨ys,zs,ss,ws,pp,rfl,s3,hs3,hw3,p3,z3,e3,rfl⟩
 have bnd:sz ws+ss.length<=800:=by
  have h1:(ws.flatMap post).length=sz ws:=by
   clear e3 z3
   induction ws with
   | nil=>rfl
   | cons u r ih=>
    show (post u++r.flatMap post).length=_;rw[zA,Da,ih,KG]
  have h2:=congrArg List.length e3;rw[zA,List.length_reverse,h1,Da] at h2;omega
 refine⟨_,.inl ⟨zs,SqL.of hw3,rfl⟩,?_⟩;refine Ci (fun c=>?_) (fun c=>?_)
 ·refine⟨fun σ' H'=>∃m',m'<sz ws/\aD H v t sl wl m' σ' H',fun _ _ h=>h,?_⟩
  have dz:0<ws.length:=by
   rw[<-z3.len]
   cases zs with
   | nil=>exact absurd c %[|0]
   | cons _ _=>exact zBH _
  obtain⟨f7,y,ws',u,rfl,rfl,q3,a3⟩:=z3.last dz;have iT:=B9 ws' u;have hku:=SI u;have hwl':=KR ws';have cx:=p3.len;have bM:=q3.len;refine⟨.inl ⟨rfl,_,SqL.of hw3⟩,hw3,Cq _ _,?_⟩;have t4:HT2.TS H3 (upd H3 wl (.lst (f7++[y]).dropLast)):=TS.lst hw3;have s4:A0B H (upd H3 wl (.lst (f7++[y]).dropLast)):=Ap s3 iz _;rw[zAY] at t4 s4;have hs4:(upd H3 wl (.lst f7)) sl=some (.lst ys):=by rw[Af nsw];exact hs3
  rw[zAY];refine⟨.inl ⟨rfl,_,SqL.of hs4⟩,hs4,Ar %[|1],?_⟩;have t5:HT2.TS (upd H3 wl (.lst f7)) (upd (upd H3 wl (.lst f7)) sl (.lst (ys++[y]))):=TS.lst hs4;have s5:A0B H (upd (upd H3 wl (.lst f7)) sl (.lst (ys++[y]))):=Ap s4 cu _;have hw5:(upd (upd H3 wl (.lst f7)) sl (.lst (ys++[y]))) wl=some (.lst f7):=by rw[Af nsw.symm,A0A]
  have hs5:(upd (upd H3 wl (.lst f7)) sl (.lst (ys++[y]))) sl=some (.lst (ys++[y])):=A0A;have a5:=a3.keep (t4.trans t5);have p5:=(p3.snoc a3).keep (t4.trans t5);have q5:=q3.keep (t4.trans t5)
  revert s5 hw5 hs5 a5 p5 q5
  generalize (upd (upd H3 wl (.lst f7)) sl (.lst (ys++[y])))=H5;intro s5 hw5 hs5 a5 p5 q5;refine⟨.inl ⟨rfl,_,SqL.of hw5⟩,Rg,fun pl bB=>?_⟩;have s6:=Ab bB (.lst [y]);have e1:sz [u]=u.size:=by unfold sz;simp
  refine⟨pl,[y],[u],rfl,SqL.of A0A,.cons (a5.keep (TS.same s6)) .nil,by omega,fun r ks H7 s7 hr7 p7=>?_⟩;have hl3:=p7.len;rw[Mp] at p7 hl3;have iW:=KR (ML u);have hw7:=s7 _ _ (s6 _ _ hw5);refine⟨wl,r,f7,ks,rfl,rfl,hw7,hr7,C8 %[|1],?_⟩;have t8:HT2.TS H7 (upd H7 wl (.lst (f7++ks))):=TS.lst hw7;have k57:=(TS.same s6).trans (TS.same s7);refine⟨_,?_,ys++[y],f7++ks,ss++[u],ws'++ML u,_,rfl,Ap (s5.trans (s6.trans s7)) iz _,?_,A0A,p5.keep (k57.trans t8),(LS (q5.keep k57) p7).keep t8,?_,rfl⟩
  ·rw[SK];omega
  ·rw[Af nsw];exact s7 _ _ (s6 _ _ hs5)
  ·rw[<-e3,List.flatMap_append,List.flatMap_append,List.reverse_append];show ((ws'.flatMap post++(ML u).flatMap post)++([u]++ss.reverse))=(ws'.flatMap post++(post u++[]))++ss.reverse;rw[zA6,Ts u];simp only[zBY]
 ·have e:ws=[]:=by
   cases z3 with
   | nil=>rfl
   | cons h1 h2=>exact absurd rfl c
  subst e;refine⟨.inl ⟨rfl,_,SqL.of hs3⟩,sl,ys,rfl,rfl,hs3,?_⟩;refine q sl ys.reverse _ (Ap s3 cu _) cu A0A ?_;have e4:ss.reverse=post t:=e3;rw[<-e4];exact (LK p3).keep (TS.lst hs3)
def A1S:=Aw J1 ["steps","world","truths","step","other","one"] 2
def tl(rs:List Bool):List V:=rs.reverse.map V.bl
theorem Ea(b:Bool)(rs:List Bool):tl (b::rs)=tl rs++[.bl b]:=by unfold tl;simp
theorem NE(rs:List Bool):(tl rs).length=rs.length:=by unfold tl;simp
theorem Qi(F:%[|9] "true_by" J1)(GH:%[|3] "letter_holds" AH 1 Hw)(GJ:%[|3] "joined" AH 1 Iu):%[|3] "true_by" AH 2 HV:=by
 refine F.ok A1S ?_;rintro bz f bp A outer s H _ Q E hr ⟨l,ys,t,wd,rfl,hl,hp,hok,hsz,q⟩
 refine⟨_,Aa (Az 2 A1S.nd (Av Bi))
  (Aa (BZ zAV rfl (AX (pv 0)) (BA 3 A1S.nd)
   (Ai (Au (AR AF (An Am (pv 3) Ad) Ae)
    (Ai (As (A7 (pv 2) (AM (AA GH hr Al (AS (An Am (pv 3) Ad) (pv 1)))))))
    (Ai (Au (AR AF (An Am (pv 3) Ad) Ae)
     (Ai (As (A7 (pv 2) (AM (KL (B7 (pv 2)))))))
     (Aa (Az 4 A1S.nd (B7 (pv 2)))
     (Aa (Az 5 A1S.nd (B7 (pv 2)))
     (Ai (As (A7 (pv 2) (AM (AA GJ hr Al (Aj (An Am (pv 3) Ad) (AS (pv 5) (pv 4)))))))))))))))
  (A5 (An AI (pv 2) Ad))),?_⟩
 refine⟨GQ,fun tr htr=>?_⟩;have s1:=Ab htr (.lst []);have bo:=hp.len;have bB:=Da t;refine⟨⟨_,SqL.of (s1 _ _ hl)⟩,Bf (K:=K) (a:=l) (xs:=ys) (fun i σ H3=>∃(v0 v1 v2:Option V)(rs:List Bool),σ=[some (.ref l),some (.int wd),some (.ref tr),v0,v1,v2]/\A0B H H3/\H3 tr=some (.lst (tl rs))/\rs.length<=i/\run wd ((post t).drop i) rs=some [tv t wd]) ?_ ?_ ?_ ?_⟩
 ·exact⟨_,_,_,[],rfl,s1,A0A,zAB _,Fs wd t []⟩
 ·rintro i σ H3 _ ⟨v0,v1,v2,rs,rfl,s3,_⟩;exact SqL.of (s3 _ _ hl)
 ·rintro i x σ H3 hx ⟨v0,v1,v2,rs,rfl,s3,h3,hlr,hrun⟩;obtain⟨u,hu,bF⟩:=BR hp hx;have gG:=bF.keep (TS.same s3);have hi:i<ys.length:=(List.getElem?_eq_some_iff.mp hx).1;obtain⟨hi2,eu⟩:=List.getElem?_eq_some_iff.mp hu;rw[List.drop_eq_getElem_cons hi2,eu] at hrun;unfold run at hrun
  cases u with
  | lt k=>
   obtain⟨p,rfl,f6⟩:=gG;refine⟨SqT.of f6,Ac (j:=0) rfl,rfl,?_⟩;refine BI rfl ?_;refine⟨.inl ⟨rfl,_,SqL.of h3⟩,SqT.of f6,Ac (j:=1) rfl,k,wd,rfl,?_⟩;refine⟨h3,Ar (by rw[NE];omega),?_⟩;refine⟨_,_,_,DU k wd::rs,rfl,Ap s3 htr _,?_,by show rs.length+1<=i+1;omega,hrun⟩;rw[A0A,Ea]
  | nt u=>
   obtain⟨p,c,rfl,f6,_⟩:=gG;refine⟨SqT.of f6,Ac (j:=0) rfl,rfl,?_⟩;refine Bw %[|0] ?_;refine⟨SqT.of f6,Ac (j:=0) rfl,rfl,?_⟩;refine BI rfl ?_
   cases rs with
   | nil=>cases hrun
   | cons a r=>
    rw[Ea] at h3;have hlr':r.length+1<=i:=hlr;refine⟨.inl ⟨rfl,_,SqL.of h3⟩,.inl ⟨rfl,_,SqL.of h3⟩,h3,Cq _ _,?_⟩;refine⟨A0A,?_,?_⟩
    ·rw[zAY];exact Ar (by rw[NE];omega)
    refine⟨_,_,_,(!a)::r,rfl,Ap (Ap s3 htr _) htr _,?_,by show r.length+1<=i+1;omega,hrun⟩;rw[A0A,Ea,zAY]
  | bn j u1 u2=>
   obtain⟨p,c1,c2,rfl,f6,_⟩:=gG;refine⟨SqT.of f6,Ac (j:=0) rfl,rfl,?_⟩;refine Bw FY ?_;refine⟨SqT.of f6,Ac (j:=0) rfl,rfl,?_⟩;refine Bw Kf ?_
   match rs,hrun,h3,hlr with
   | [],hrun,_,_=>cases hrun
   | [_],hrun,_,_=>cases hrun
   | b::a::r,hrun,h3,hlr=>
    rw[Ea,Ea] at h3;have hlr':r.length+1+1<=i:=hlr;refine⟨.inl ⟨rfl,_,SqL.of h3⟩,h3,Cq _ _,?_⟩;have h4:(upd H3 tr (.lst ((tl r++[V.bl a])++[V.bl b]).dropLast)) tr=some (.lst (tl r++[V.bl a])):=by rw[A0A,zAY]
    have s4:A0B H (upd H3 tr (.lst ((tl r++[V.bl a])++[V.bl b]).dropLast)):=Ap s3 htr _;have p4:(upd H3 tr (.lst ((tl r++[V.bl a])++[V.bl b]).dropLast)) p=some (.tup [.str (jn j),c1,c2]):=by rw[Af (AT f6 h3 %[|11])];exact f6
    revert h4 s4 p4
    generalize upd H3 tr (.lst ((tl r++[V.bl a])++[V.bl b]).dropLast)=H4;intro h4 s4 p4;refine⟨.inl ⟨rfl,_,SqL.of h4⟩,h4,Cq _ _,?_⟩;have h5:(upd H4 tr (.lst (tl r++[V.bl a]).dropLast)) tr=some (.lst (tl r)):=by rw[A0A,zAY]
    have s5:A0B H (upd H4 tr (.lst (tl r++[V.bl a]).dropLast)):=Ap s4 htr _;have p5:(upd H4 tr (.lst (tl r++[V.bl a]).dropLast)) p=some (.tup [.str (jn j),c1,c2]):=by rw[Af (AT p4 h4 %[|11])];exact p4
    revert h5 s5 p5
    generalize upd H4 tr (.lst (tl r++[V.bl a]).dropLast)=H5;intro h5 s5 p5;refine⟨.inl ⟨rfl,_,SqL.of h5⟩,SqT.of p5,Ac (j:=0) rfl,j,a,b,rfl,?_⟩;refine⟨h5,Ar (by rw[NE];omega),?_⟩;refine⟨_,_,_,jv j a b::r,rfl,Ap s5 htr _,?_,by show r.length+1<=i+1;omega,hrun⟩;rw[A0A,Ea]
 ·rintro σ H3 ⟨v0,v1,v2,rs,rfl,s3,h3,hlr,hrun⟩;rw[bo,List.drop_length] at hrun;cases hrun;exact⟨SqL.of h3,Ac (j:=0) rfl,q _ s3⟩
end
abbrev FR:Stmt:=Bu 30
inductive B1(K:PySem.W.Frag)(vs:List V)(H:Hp)(Q:VK)(E:XK):Prop where
 | mk (v:V) (t:Tr) (r:Addr) (row:List Int) (_:vs=[v,.ref r]) (_:t.At H v) (_:t.ok 5) (_:t.size<=800) (_:SqL K H r (row.map V.int)) (_:Wr row) (_:∀(l:Addr)(H':Hp),A0B H H'->H l=none->AL H' l (row.filter fun k=>tv t k == true)->Q (.ref l) H'):B1 K vs H Q E
section
variable {P:Program}{w:World}{K:PySem.W.Frag}{mg:Str->%[|4]}
def A2G:=Aw FR ["sentence","room","steps"] 2
theorem LN(F:%[|9] "worlds_of" FR)(GS:%[|3] "steps_of" AH 2 Kb)(GB:%[|3] "true_by" AH 2 HV):%[|3] "worlds_of" AH 3 (B1 K):=by
 refine F.ok A2G ?_;rintro bz f bp A outer s H _ Q E hr ⟨v,t,r,row,rfl,ha,hok,hs,hS,hwr,q⟩;have hl:=hwr.len
 refine⟨_,Aa (Az 2 A2G.nd (AA GS hr Al (AM (pv 0))))
  (A5 (Bk (N:=["world","steps"]) (js:=[none,some 2]) (cl:=[("steps",s.heap.objs.size+1)]) ⟨rfl,rfl,rfl,(by intro p hp;simp at hp;rcases hp with rfl<;>rfl),rfl,rfl,rfl⟩ (AX (pv 1)) (fun c1=>(BA 0 (show (["world","steps"]:List Str).Nodup by decide +kernel))) (fun c1=>(CJ (Bv (AA GB hr Al (AS (pv 1) (pv 0)))))) (fun c1=>(pv 0)))),?_⟩
 refine⟨v,t,rfl,ha,hs,fun st ys H1 s1 hst0 bW hp=>?_⟩;refine⟨⟨_,s1.seq hS⟩,fun cc acc br=>BL (p:=fun k=>tv t k == true) (rest:=[some (.ref st)]) (s1.seq hS) br %[|1] (fun k hk H2 s2 R hR=>?_) (fun v0 H2 s2 h2=>q acc H2 (s1.trans s2) (s1.free br) h2) none⟩;refine⟨st,ys,t,k,rfl,s2 _ _ bW,hp.keep (TS.same s2),hok,hs,fun H3 s3=>?_⟩;have:=hR H3 s3;rw[show (tv t k == true)=tv t k by cases tv t k<;>rfl] at this;exact this
end
abbrev Rr:Stmt:=Bu 31
section
variable {P:Program}{w:World}{K:PySem.W.Frag}{mg:Str->%[|4]}
def W4:=Aw Rr ["many"] 1
theorem UG(F:%[|9] "all_worlds" Rr)(T:Fz mg):%[|3] "all_worlds" AH 1 Db:=by
 refine F.ok W4 ?_;rintro bz f bp A outer s H _ Q E hr ⟨m,rfl,h1,h5,q⟩;refine⟨_,A5 (AJ (Id rfl) %[|8] T.lst Bp (AM (AJ FU %[|8] T.rng boot_range (AM (Ao XJ Ad (pv 0)))))),?_⟩;have e:(1:Int)*2^((m:Int)).toNat=((2^m:Nat):Int):=by rw[Int.one_mul,zBB,Int.natCast_pow];rfl
 refine⟨⟨by omega,by omega,by decide⟩,_,rfl,fun r dN=>?_⟩;have s2:=Ab dN (.rng 0 ((1:Int)*2^((m:Int)).toNat));refine⟨r,2^m,rfl,(by rw[A0A];show some (HO.rng 0 ((1:Int)*2^((m:Int)).toNat))=_;rw[e]),zAD (Ot h5) %[|0],fun l2 bM=>?_⟩;have s3:=Ab bM (.lst ((C4 (2^m)).map V.int));exact q l2 _ (s2.trans s3) (s2.free bM) A0A
end
abbrev TQ:Stmt:=Bu 14
inductive Kw(K:PySem.W.Frag)(vs:List V)(H:Hp)(Q:VK)(E:XK):Prop where
 | mk (a b:Addr) (one bj:List Int) (_:vs=[.ref a,.ref b]) (_:SqL K H a (one.map V.int)) (_:SqL K H b (bj.map V.int)) (_:one.length<64) (_:bj.length<=900) (_:∀(l:Addr)(H':Hp)(ns:List Int),A0B H H'->H l=none->ns.Pairwise (· < ·)->(∀k,k∈ns↔k∈one/\k∈bj)->AL H' l ns->Q (.ref l) H'):Kw K vs H Q E
section
variable {P:Program}{w:World}{K:PySem.W.Frag}{mg:Str->%[|4]}
def X7:=Aw TQ ["one","other"] 2
theorem VZ(F:%[|9] "in_both" TQ)(T:Fz mg):%[|3] "in_both" AH 1 (Kw K):=by
 refine F.ok X7 ?_;rintro bz f bp A outer s H _ Q E hr ⟨a,b,one,bj,rfl,ha,hb,cx,bM,q⟩;refine⟨_,A5 (AK (Dq rfl) %[|8] T.sorted boot_sorted (AM (Ao Wb (AJ (Eb rfl) %[|8] T.set boot_set (AM (pv 0))) (AJ (Eb rfl) %[|8] T.set boot_set (AM (pv 1)))))),?_⟩;refine⟨a,one,rfl,ha,by omega,fun a1 fY=>?_⟩;have s1:=Ab fY (By w a1 (fun k=>decide (k∈one)) one.length);refine⟨b,bj,rfl,s1.seq hb,by omega,fun b1 cw=>?_⟩;have s2:=Ab cw (By w b1 (fun k=>decide (k∈bj)) bj.length);refine⟨a1,b1,_,_,_,_,rfl,rfl,s2 _ _ A0A,A0A,fun e=>?_,by omega,fun r cr=>?_⟩
 ·subst e;rw[A0A] at cw;cases cw
 have s3:=Ab cr (By w r (fun k=>decide (k∈one) && decide (k∈bj)) one.length);refine⟨r,_,_,rfl,A0A,cx,fun l ns hl hp hm=>?_⟩;have s4:=Ab hl (.lst %[|25]);exact q l _ ns (s1.trans (s2.trans (s3.trans s4))) ((s1.trans (s2.trans s3)).free hl) hp (fun k=>by rw[hm k,zAU,decide_eq_true_eq,decide_eq_true_eq]) A0A
end
abbrev Nn:Stmt:=Bu 15
inductive E8(K:PySem.W.Frag)(vs:List V)(H:Hp)(Q:VK)(E:XK):Prop where
 | mk (a b:Addr) (one bj:List Int) (_:vs=[.ref a,.ref b]) (_:SqL K H a (one.map V.int)) (_:SqL K H b (bj.map V.int)) (_:one.length<=32) (_:(∀k∈one,0<=k/\k<32)) (_:bj.length<=900) (_:∀(l:Addr)(H':Hp)(ns:List Int),A0B H H'->H l=none->ns.Pairwise (· < ·)->(∀k,k∈ns↔k∈one/\k∉bj)->AL H' l ns->Q (.ref l) H'):E8 K vs H Q E
section
variable {P:Program}{w:World}{K:PySem.W.Frag}{mg:Str->%[|4]}
def U4:=Aw Nn ["one","other"] 2
theorem Uv(F:%[|9] "in_first_only" Nn)(T:Fz mg):%[|3] "in_first_only" AH 1 (E8 K):=by
 refine F.ok U4 ?_;rintro bz f bp A outer s H _ Q E hr ⟨a,b,one,bj,rfl,ha,hb,cx,gD,bM,q⟩;refine⟨_,A5 (AK (Kd rfl) %[|8] T.sorted boot_sorted (AM (Ao US (AJ (Eb rfl) %[|8] T.set boot_set (AM (pv 0))) (AJ (Eb rfl) %[|8] T.set boot_set (AM (pv 1)))))),?_⟩;refine⟨a,one,rfl,ha,by omega,fun a1 fY=>?_⟩;have s1:=Ab fY (By w a1 (fun k=>decide (k∈one)) one.length);refine⟨b,bj,rfl,s1.seq hb,by omega,fun b1 cw=>?_⟩;have s2:=Ab cw (By w b1 (fun k=>decide (k∈bj)) bj.length);refine⟨a1,b1,_,_,_,_,rfl,rfl,s2 _ _ A0A,A0A,fun e=>?_,cx,by omega,fun k hk=>gD k (of_decide_eq_true hk),fun r cr=>?_⟩
 ·subst e;rw[A0A] at cw;cases cw
 have s3:=Ab cr (QS w r (fun k=>decide (k∈one) && !decide (k∈bj)) one.length);refine⟨r,_,_,rfl,A0A,by omega,fun l ns hl hp hm=>?_⟩;have s4:=Ab hl (.lst %[|25]);exact q l _ ns (s1.trans (s2.trans (s3.trans s4))) ((s1.trans (s2.trans s3)).free hl) hp (fun k=>by rw[hm k,zAU,decide_eq_true_eq,Bool.not_eq_true',decide_eq_false_iff_not]) A0A
end
abbrev N4:Stmt:=Bu 18
inductive Fy(K:PySem.W.Frag)(vs:List V)(H:Hp)(Q:VK)(E:XK):Prop where
 | mk (a b:Addr) (one bj:List Int) (_:vs=[.ref a,.ref b]) (_:SqL K H a (one.map V.int)) (_:SqL K H b (bj.map V.int)) (_:one.length<64) (_:bj.length<=900) (_:∀(H':Hp),A0B H H'->Q (.bl (one.any fun k=>decide (k∈bj))) H'):Fy K vs H Q E
section
variable {P:Program}{w:World}{K:PySem.W.Frag}{mg:Str->%[|4]}
def Wg:=Aw N4 ["one","other"] 2
theorem Sh(F:%[|9] "some_within" N4)(B:Bl mg)(GB:%[|3] "in_both" AH 1 (Kw K)):%[|3] "some_within" AH 2 (Fy K):=by
 refine F.ok Wg ?_;rintro bz f bp A outer s H _ Q E hr ⟨a,b,one,bj,rfl,ha,hb,cx,bM,q⟩;refine⟨_,A5 (Bx Jr (%[|53] (AM (AA GB hr Al (AS (pv 0) (pv 1))))) Ad (Cd _)),?_⟩;refine⟨a,b,one,bj,rfl,ha,hb,cx,bM,fun l H' ns s1 hl hp hm cr=>?_⟩;refine⟨.inl (SqL.of cr),?_⟩
 have e:decide (((%[|25].length:Nat):Int)>0)=one.any fun k=>decide (k∈bj):=by
  rw[List.length_map]
  cases h:one.any fun k=>decide (k∈bj) with
  | true=>
   obtain⟨k,h1,h2⟩:=List.any_eq_true.mp h;have:=zC1 ((hm k).mpr ⟨h1,of_decide_eq_true h2⟩);exact decide_eq_true %[|1]
  | false=>
   cases ns with
   | nil=>rfl
   | cons k ns=>
    obtain⟨h1,h2⟩:=(hm k).mp List.mem_cons_self;rw[List.any_eq_false] at h;exact absurd (decide_eq_true h2) (h k h1)
 have:=q H' s1;rw[<-e] at this;exact this
end
abbrev Xt:Stmt:=Bu 16
def EW(rs:List (List Int)):Nat:=(rs.map List.length).sum
inductive Ms(K:PySem.W.Frag)(vs:List V)(H:Hp)(Q:VK)(E:XK):Prop where
 | mk (a:Addr) (xs:List V) (rs:List (List Int)) (_:vs=[.ref a]) (_:SqL K H a xs) (_:A0E H xs rs) (_:EW rs<64) (_:∀(l:Addr)(H':Hp)(ns:List Int),A0B H H'->H l=none->ns.Pairwise (· < ·)->(∀k,k∈ns↔∃row∈rs,k∈row)->AL H' l ns->Q (.ref l) H'):Ms K vs H Q E
theorem aq(h:tb D σ H):Dx M8 tb D σ H:=AB h
theorem P4{rs:List (List Int)}{i:Nat}{row:List Int}(h:rs[i]? = some row):EW (rs.take (i+1))=EW (rs.take i)+row.length:=by
 have e:rs.take (i+1)=rs.take i++[row]:=by rw[zAR,h];rfl
 unfold EW;rw[e,List.map_append,zCP];simp
theorem UX:EW (rs.take i)<=EW rs:=by
 have e:=zB9 i rs
 have:EW rs=EW (rs.take i)+EW (rs.drop i):=by
  conv=>lhs;rw[<-e]
  unfold EW;rw[List.map_append,zCP]
 omega
section
variable {P:Program}{w:World}{K:PySem.W.Frag}{mg:Str->%[|4]}
def ZH:=Aw Xt ["rows"] 1
theorem Xj(F:%[|9] "in_any" Xt)(T:Fz mg):%[|3] "in_any" AH 1 (Ms K):=by
 refine F.ok ZH ?_;rintro bz f bp A outer s H _ Q E hr ⟨a,xs,rs,rfl,hS,hR,h64,q⟩;refine⟨_,A5 (AK (Dq rfl) %[|8] T.sorted boot_sorted (AM (Qy (N:=["row","world"]) (js:=[none,none]) (cl:=[]) ⟨rfl,rfl,rfl,zB2 _,rfl,rfl,rfl⟩ (AX (pv 0)) (fun c1=>(BA 0 (show (["row","world"]:List Str).Nodup by decide +kernel))) (fun c1=>BG) (fun c1=>(AX (pv 0))) (fun c1=>(BA 1 (show (["row","world"]:List Str).Nodup by decide +kernel))) (fun c1=>BG) (fun c1=>(pv 1))))),?_⟩;refine⟨⟨_,hS⟩,fun cc acc br=>Bf (K:=K) (a:=a) (xs:=xs) (fun i σ H2=>∃(v0 v1:Option V)(S:Int->Bool)(n:Nat),σ=[v0,v1]/\A0B H H2/\H2 acc=some (By w acc S n)/\(∀k,S k=true↔∃row∈rs.take i,k∈row)/\n<=EW (rs.take i)) ?_ ?_ ?_ ?_⟩
 ·exact⟨none,none,_,0,rfl,Ab br _,A0A,fun k=>by simp,zA5 _⟩
 ·rintro i σ H2 _ ⟨v0,v1,S,n,rfl,s2,_⟩;exact s2.seq hS
 ·rintro i x σ H2 hx ⟨v0,v1,S,n,rfl,s2,bK,bT,gu⟩;obtain⟨row,p,hrow,rfl,hp⟩:=hR.get hx;have bL:=P4 hrow;have hle:=UX (rs:=rs) (i:=i+1);refine aq ?_;refine⟨⟨_,SqL.of (s2 _ _ hp)⟩,Bf (K:=K) (a:=p) (xs:=row.map V.int) (fun j σ H3=>∃(v1:Option V)(S:Int->Bool)(n:Nat),σ=[some (.ref p),v1]/\A0B H H3/\H3 acc=some (By w acc S n)/\(∀k,S k=true↔(∃row∈rs.take i,k∈row)\/k∈row.take j)/\n<=EW (rs.take i)+j) ?_ ?_ ?_ ?_⟩
  ·exact⟨_,S,n,rfl,s2,bK,fun k=>by rw[bT k];simp,gu⟩
  ·rintro j σ H3 _ ⟨v1,S,n,rfl,s3,_⟩;exact SqL.of (s3 _ _ hp)
  ·rintro j u σ H3 hu ⟨v1,S,n,rfl,s3,eP,hm3,hn3⟩;rw[List.getElem?_map] at hu;obtain⟨k0,hk0,rfl⟩:=Option.map_eq_some_iff.mp hu;have hj:=(List.getElem?_eq_some_iff.mp hk0).1;have et:row.take (j+1)=row.take j++[k0]:=by rw[zAR,hk0];rfl
   refine AB ?_;refine⟨k0,S,n,rfl,eP,by omega,?_⟩;refine⟨_,_,n+1,rfl,Ap s3 br _,A0A,fun k=>?_,by omega⟩;rw[zBF,hm3 k,decide_eq_true_eq,et,zD,zBV,or_assoc]
  ·rintro σ H3 ⟨v1,S,n,rfl,s3,eP,hm3,hn3⟩;rw[List.length_map] at hm3 hn3;rw[zAQ] at hm3;refine⟨_,_,S,n,rfl,s3,eP,fun k=>?_,by omega⟩;have e:rs.take (i+1)=rs.take i++[row]:=by rw[zAR,hrow];rfl
   rw[hm3 k,e];constructor
   ·rintro (⟨r,h1,h2⟩|h)
    ·exact⟨r,zBW _ h1,h2⟩
    ·exact⟨row,zAG _ List.mem_cons_self,h⟩
   ·rintro⟨r,h1,h2⟩;rcases List.mem_append.mp h1 with z | z
    ·exact .inl ⟨r,z,h2⟩
    ·rw[List.mem_singleton.mp z] at h2;exact .inr h2
 ·rintro σ H2 ⟨v0,v1,S,n,rfl,s2,bK,bT,gu⟩;rw[hR.len,zAQ] at bT gu;refine⟨acc,S,n,rfl,bK,by omega,fun l ns hl hp hm=>?_⟩;have s4:=Ab hl (.lst %[|25]);exact q l _ ns (s2.trans s4) (s2.free hl) hp (fun k=>by rw[hm k,bT k]) A0A
end
abbrev Ny:Stmt:=Bu 17
abbrev MU:Stmt:=Bu 41
inductive Hf(K:PySem.W.Frag)(vs:List V)(H:Hp)(Q:VK)(E:XK):Prop where
 | mk (a b:Addr) (one bj:List Int) (_:vs=[.ref a,.ref b]) (_:SqL K H a (one.map V.int)) (_:SqL K H b (bj.map V.int)) (_:one.length<=32) (_:(∀k∈one,0<=k/\k<32)) (_:bj.length<=900) (_:∀(H':Hp),A0B H H'->Q (.bl (one.all fun k=>decide (k∈bj))) H'):Hf K vs H Q E
inductive DZ(K:PySem.W.Frag)(vs:List V)(H:Hp)(Q:VK)(E:XK):Prop where
 | mk (s r:Addr) (seen row:List Int) (_:vs=[.ref s,.ref r]) (_:SqL K H s (seen.map V.int)) (_:Wr seen) (_:seen≠[]) (_:SqL K H r (row.map V.int)) (_:Wr row) (_:∀(H':Hp),A0B H H'->Q (.str (Bs seen row)) H'):DZ K vs H Q E
section
variable {P:Program}{w:World}{K:PySem.W.Frag}{mg:Str->%[|4]}
def Vl:=Aw Ny ["one","other"] 2
theorem TZ(F:%[|9] "all_within" Ny)(B:Bl mg)(GF:%[|3] "in_first_only" AH 1 (E8 K)):%[|3] "all_within" AH 2 (Hf K):=by
 refine F.ok Vl ?_;rintro bz f bp A outer s H _ Q E hr ⟨a,b,one,bj,rfl,ha,hb,cx,gD,bM,q⟩;refine⟨_,A5 (Bx AF (%[|53] (AM (AA GF hr Al (AS (pv 0) (pv 1))))) Ad (Cd _)),?_⟩;refine⟨a,b,one,bj,rfl,ha,hb,cx,gD,bM,fun l H' ns s1 hl hp hm cr=>?_⟩;refine⟨.inl (SqL.of cr),rfl,?_⟩
 have e:decide (V.int ((%[|25].length:Nat):Int)=V.int 0)=one.all fun k=>decide (k∈bj):=by
  rw[List.length_map]
  cases h:one.all fun k=>decide (k∈bj) with
  | true=>
   cases ns with
   | nil=>rfl
   | cons k ns=>
    obtain⟨h1,h2⟩:=(hm k).mp List.mem_cons_self;exact absurd (of_decide_eq_true (List.all_eq_true.mp h k h1)) h2
  | false=>
   obtain⟨k,h1,h2⟩:=List.all_eq_false.mp h;have:=zC1 ((hm k).mpr ⟨h1,fun z=>h2 (decide_eq_true z)⟩)
   exact decide_eq_false fun z=>by
    injection z with z
    omega
 have:=q H' s1;rw[<-e] at this;exact this
def UI:=Aw MU ["seen","worlds"] 2
theorem Tj(F:%[|9] "plain" MU)(GA:%[|3] "all_within" AH 2 (Hf K))(GS:%[|3] "some_within" AH 2 (Fy K)):%[|3] "plain" AH 3 (DZ K):=by
 refine F.ok UI ?_;rintro bz f bp A outer s H _ Q E hr ⟨sn,r,seen,row,rfl,hN,wN,bx,hS,wS,q⟩;have l1:=wN.len;have l2:=wS.len
 refine⟨_,Aa (Au (Bv (AA GA hr Al (AS (pv 0) (pv 1))))
   (A5 Ae)
   Ak)
  (Aa (Au (Bv (AA GS hr Al (AS (pv 0) (pv 1))))
   (A5 Ae)
   Ak)
  (A5 Ae)),?_⟩
 unfold Bs at q;refine⟨sn,r,seen,row,rfl,hN,hS,l1,wN.2,by omega,fun H1 s1=>?_⟩
 cases h0:seen.all fun k=>decide (k∈row) with
 | true=>
  refine AB ?_;have:=q _ s1;rw[h0,if_pos rfl] at this;exact this
 | false=>
  refine Aq ?_;simp only[h0,if_neg zAF] at q;refine⟨sn,r,seen,row,rfl,s1.seq hN,s1.seq hS,by omega,by omega,fun H2 s2=>?_⟩;have q2:=q _ (s1.trans s2)
  cases h1:seen.any fun k=>decide (k∈row) with
  | true=>
   refine AB ?_;rw[h1,if_pos rfl] at q2;exact q2
  | false=>
   refine Aq ?_;rw[h1,if_neg zAF] at q2;exact q2
end
abbrev J0:Stmt:=Bu 37
def ZE:%[|30]->V
 | none=>.non
 | some i=>.int i
def Fw(sides:List (List Int))(row:List Int):Option Nat:=sides.findIdx? fun s=>!(s.any fun k=>decide (k∈row))
theorem A1K:Fw sides row=none↔A0 sides row=true:=by
 unfold Fw A0;rw[List.findIdx?_eq_none_iff,zCG];exact⟨fun h s hs=>by have:=h s hs;simpa using this,fun h s hs=>by have:=h s hs;simpa using this⟩
theorem Vu(hb:∀s∈sides.take i,(s.any fun k=>decide (k∈row))=true)(hi:sides[i]? = some s)(hs:(s.any fun k=>decide (k∈row))=false):Fw sides row=some i:=by
 unfold Fw;obtain⟨bL,rfl⟩:=List.getElem?_eq_some_iff.mp hi;rw[List.findIdx?_eq_some_iff_getElem];refine⟨bL,by simp[hs],fun j hj=>?_⟩;have hm:sides[j]∈sides.take i:=List.mem_take_iff_getElem.mpr ⟨j,by omega,rfl⟩;rw[hb _ hm];decide
theorem R8(hb:∀s∈sides,(s.any fun k=>decide (k∈row))=true):Fw sides row=none:=by
 rw[A1K];unfold A0;rw[zCG];exact hb
theorem QR{α:Type}{xs:List α}{x y:α}(hx:xs[i]? = some x)(h:y∈xs.take (i+1)):y∈xs.take i\/y=x:=by
 rw[List.take_succ,hx] at h;rcases List.mem_append.mp h with h | h
 ·exact .inl h
 ·exact .inr (by simpa using h)
inductive HZ(K:PySem.W.Frag)(vs:List V)(H:Hp)(Q:VK)(E:XK):Prop where
 | mk (sd r:Addr) (row:List Int) (xs:List V) (sides:List (List Int)) (_:vs=[.ref sd,.ref r]) (_:SqL K H r (row.map V.int)) (_:row.length<=900) (_:H sd=some (.lst xs)) (_:A0E H xs sides) (_:(∀s∈sides,s.length<64)) (_:sides.length<=900) (_:∀(H':Hp),A0B H H'->Q (ZE (Fw sides row)) H'):HZ K vs H Q E
section
variable {P:Program}{w:World}{K:PySem.W.Frag}{mg:Str->%[|4]}
def A2F:=Aw J0 ["sides","worlds","at","side"] 2
theorem QY(F:%[|9] "missed_side" J0)(HE:mg "enumerate"=none)(GS:%[|3] "some_within" AH 2 (Fy K)):%[|3] "missed_side" AH 3 (HZ K):=by
 refine F.ok A2F ?_;rintro bz f bp A outer s H _ Q E hr ⟨sd,r,row,xs,sides,rfl,hS,hl,hX,hR,cu,hsn,q⟩
 refine⟨_,Aa (BZ zAV rfl (LY %[|8] HE (AM (pv 0))) (Tz rfl (Fa (BA 2 A2F.nd) (Fa (BA 3 A2F.nd) O7)))
   (Ai (Au (CB (Bv (AA GS hr Al (AS (pv 3) (pv 1)))))
    (A5 (pv 2))
    Ak)))
  (A5 Cc),?_⟩
 have bo:=hR.len;refine⟨sd,_,rfl,hX,JN (a:=sd) (xs:=xs) (fun i σ H3=>∃(v0 v1:Option V),σ=[some (.ref sd),some (.ref r),v0,v1]/\A0B H H3/\∀s∈sides.take i,(s.any fun k=>decide (k∈row))=true) ?_ ?_ ?_ ?_⟩
 ·exact⟨_,_,rfl,A0B.refl _,fun s hs=>by simp at hs⟩
 ·rintro i σ H3 _ ⟨v0,v1,rfl,s3,h3⟩;exact s3 _ _ hX
 ·rintro i y T2 σ H3 hy cp ⟨v0,v1,rfl,s3,h3⟩;obtain⟨dY,p,dN,rfl,hp⟩:=hR.get hy;have sT:=Ab cp (.tup [.int (i:Nat),.ref p]);have s4:=s3.trans sT;refine⟨SqT.of A0A,rfl,rfl,?_⟩;refine⟨p,r,dY,row,rfl,SqL.of (s4 _ _ hp),s4.seq hS,cu dY (zAN dN),hl,fun H4 s5=>?_⟩
  cases hb:dY.any fun k=>decide (k∈row) with
  | true=>
   refine Aq ?_;refine⟨_,_,rfl,s4.trans s5,fun s hs=>?_⟩;rcases QR dN hs with h | rfl
   ·exact h3 s h
   ·exact hb
  | false=>
   refine AB ?_;have:=q H4 (s4.trans s5);rw[Vu h3 dN hb] at this;exact this
 ·rintro σ H3 ⟨v0,v1,rfl,s3,h3⟩;rw[bo,zAQ] at h3;have:=q H3 s3;rw[R8 h3] at this;exact this
end
abbrev KS:Stmt:=Bu 43
abbrev IH:Stmt:=Bu 44
abbrev KC:Stmt:=Bu 45
inductive FA(K:PySem.W.Frag)(vs:List V)(H:Hp)(Q:VK)(E:XK):Prop where
 | mk (sd g s r:Addr) (xs:List V) (sides:List (List Int)) (going seen row:List Int) (_:vs=[.ref sd,.ref g,.ref s,.ref r]) (_:H sd=some (.lst xs)) (_:A0E H xs sides) (_:(∀s∈sides,Wr s)) (_:sides.length<=2) (_:SqL K H g (going.map V.int)) (_:Wr going) (_:SqL K H s (seen.map V.int)) (_:Wr seen) (_:seen≠[]) (_:SqL K H r (row.map V.int)) (_:Wr row) (_:∀(H':Hp),A0B H H'->Q (.str (CF sides going seen row)) H'):FA K vs H Q E
def CZ(z:Str)(g r:List Int):List Int:=if z="grant" then N9 g r else if z="deny" then EL g r else g
def Ui(sides:List (List Int))(going seen row:List Int):Option Nat:=if Bs seen row="doubt" then none else Fw sides (CZ (Bs seen row) going row)
inductive FG(K:PySem.W.Frag)(vs:List V)(H:Hp)(Q:VK)(E:XK):Prop where
 | mk (sd g s r:Addr) (xs:List V) (sides:List (List Int)) (going seen row:List Int) (_:vs=[.ref sd,.ref g,.ref s,.ref r]) (_:H sd=some (.lst xs)) (_:A0E H xs sides) (_:(∀s∈sides,Wr s)) (_:sides.length<=2) (_:SqL K H g (going.map V.int)) (_:Wr going) (_:SqL K H s (seen.map V.int)) (_:Wr seen) (_:seen≠[]) (_:SqL K H r (row.map V.int)) (_:Wr row) (_:∀(H':Hp),A0B H H'->Q (ZE (Ui sides going seen row)) H'):FG K vs H Q E
inductive JR(K:PySem.W.Frag)(vs:List V)(H:Hp)(Q:VK)(E:XK):Prop where
 | mk (z:Str) (g r:Addr) (going row:List Int) (_:vs=[.str z,.ref g,.ref r]) (_:SqL K H g (going.map V.int)) (_:Wr going) (_:SqL K H r (row.map V.int)) (_:row.length<=900) (_:∀(l:Addr)(H':Hp),A0B H H'->H l=none->AL H' l (CZ z going row)->Q (.ref l) H'):JR K vs H Q E
theorem Xm(hg:Wr g)(hp:ns.Pairwise (· < ·))(hm:∀k,k∈ns↔k∈g/\k∈r):ns=N9 g r:=
 Hd hp (hg.1.sublist zAO) fun k=>by rw[hm k];unfold N9;rw[List.mem_filter,decide_eq_true_eq]
theorem Vf(hg:Wr g)(hp:ns.Pairwise (· < ·))(hm:∀k,k∈ns↔k∈g/\k∉r):ns=EL g r:=
 Hd hp (hg.1.sublist zAO) fun k=>by rw[hm k];unfold EL;rw[List.mem_filter,Bool.not_eq_true',decide_eq_false_iff_not]
theorem LF(xs row:List Int):EL xs row=[]↔(xs.all fun k=>decide (k∈row))=true:=by
 unfold EL;rw[List.filter_eq_nil_iff,zCG];exact⟨fun h k hk=>by have:=h k hk;simpa using this,fun h k hk=>by have:=h k hk;simpa using this⟩
theorem Yl(seen row:List Int):Bs seen row="grant"\/Bs seen row="deny"\/Bs seen row="doubt":=by
 unfold Bs;split
 ·exact .inl rfl
 ·split
  ·exact .inr (.inr rfl)
  ·exact .inr (.inl rfl)
theorem V7(z:Str)(g r:List Int):(CZ z g r).length<=g.length:=by
 have h1:=Xg g r;have h2:=Wi g r;unfold CZ;split
 ·omega
 ·split<;>omega
theorem IC{going seen row:List Int}(n0:¬EL going row=[])(n1:¬N9 going row=[]):CF sides going seen row=match Ui sides going seen row with | none=>Bs seen row | some _=>"doubt":=by
 unfold CF Ui CZ;rw[if_neg n0,if_neg n1];rcases Yl seen row with e | e | e
 ·rw[e,if_neg (show ¬("grant":Str)="doubt" by decide),if_pos (show ("grant":Str)="grant" from rfl)]
  cases hs:A0 sides (N9 going row) with
  | true=>
   rw[A1K.mpr hs,if_neg (by rintro⟨_,z⟩;cases z),if_neg (by rintro⟨z,_⟩;exact absurd z %[|0])]
  | false=>
   rw[if_pos ⟨rfl,rfl⟩]
   cases hm:Fw sides (N9 going row) with
   | none=>rw[A1K.mp hm] at hs;cases hs
   | some i=>rfl
 ·rw[e,if_neg (show ¬("deny":Str)="doubt" by decide),if_neg (show ¬("deny":Str)="grant" by decide),if_pos (show ("deny":Str)="deny" from rfl)]
  cases hs:A0 sides (EL going row) with
  | true=>
   rw[A1K.mpr hs,if_neg (by rintro⟨z,_⟩;exact absurd z %[|0]),if_neg (by rintro⟨_,z⟩;cases z)]
  | false=>
   rw[if_neg (by rintro⟨z,_⟩;exact absurd z %[|0]),if_pos ⟨rfl,rfl⟩]
   cases hm:Fw sides (EL going row) with
   | none=>rw[A1K.mp hm] at hs;cases hs
   | some i=>rfl
 ·rw[e,if_neg (by rintro⟨z,_⟩;exact absurd z %[|0]),if_neg (by rintro⟨z,_⟩;exact absurd z %[|0]),if_pos rfl]
section
variable {P:Program}{w:World}{K:PySem.W.Frag}{mg:Str->%[|4]}
def R6:=Aw KS ["word","row","worlds"] 3
theorem Qx(F:%[|9] "left_by" KS)(T:Fz mg)(GB:%[|3] "in_both" AH 1 (Kw K))(GF:%[|3] "in_first_only" AH 1 (E8 K)):%[|3] "left_by" AH 2 (JR K):=by
 refine F.ok R6 ?_;rintro bz f bp A outer s H _ Q E hr ⟨z,gg,r,going,row,rfl,hG,wG,hS,hl,q⟩;have l1:=wG.len
 refine⟨_,Aa (Au (AR AF (pv 0) Ae)
   (A5 (AA GB hr Al (AS (pv 1) (pv 2))))
   Ak)
  (Aa (Au (AR AF (pv 0) Ae)
   (A5 (AA GF hr Al (AS (pv 1) (pv 2))))
   Ak)
  (A5 (%[|58] (AM (pv 1))))),?_⟩
 unfold CZ at q;refine⟨rfl,?_⟩;by_cases h0:z="grant"
 ·refine BI (by rw[h0]) ?_;refine⟨gg,r,going,row,rfl,hG,hS,by omega,by omega,fun l H' ns s1 d5 hp hm cr=>?_⟩;have:=Xm wG hp hm;subst this;have q1:=q l H' s1 d5;rw[if_pos h0] at q1;exact q1 cr
 refine Bw (fun e=>h0 (by injection e)) ?_;refine⟨rfl,?_⟩;by_cases h1:z="deny"
 ·refine BI (by rw[h1]) ?_;refine⟨gg,r,going,row,rfl,hG,hS,l1,wG.2,by omega,fun l H' ns s1 d5 hp hm cr=>?_⟩;have:=Vf wG hp hm;subst this;have q1:=q l H' s1 d5;rw[if_neg h0,if_pos h1] at q1;exact q1 cr
 refine Bw (fun e=>h1 (by injection e)) ?_;refine⟨.inl hG,fun l d5=>?_⟩;have q1:=q l _ (Ab d5 (.lst (going.map V.int))) d5;rw[if_neg h0,if_neg h1] at q1;exact q1 A0A
def A2J:=Aw IH ["sides","going","seen","worlds","word"] 4
theorem Ou(F:%[|9] "barring_side" IH)(GP:%[|3] "plain" AH 3 (DZ K))(GL:%[|3] "left_by" AH 2 (JR K))(GT:%[|3] "missed_side" AH 3 (HZ K)):%[|3] "barring_side" AH 4 (FG K):=by
 refine F.ok A2J ?_;rintro bz f bp A outer s H _ Q E hr ⟨sd,gg,sn,r,xs,sides,going,seen,row,rfl,hX,hR,wX,hxl,hG,wG,hN,wN,nne,hS,wS,q⟩;have l1:=wG.len;have l3:=wS.len
 refine⟨_,Aa (Az 4 A2J.nd (AA GP hr Al (AS (pv 2) (pv 3))))
  (Aa (Au (AR AF (pv 4) Ae)
   (A5 Cc)
   Ak)
  (A5 (AA GT hr Al (AS (pv 0) (AA GL hr Al (Aj (pv 4) (AS (pv 1) (pv 3)))))))),?_⟩
 unfold Ui at q;refine⟨sn,r,seen,row,rfl,hN,wN,nne,hS,wS,fun H3 s3=>?_⟩;refine⟨rfl,?_⟩;by_cases e:Bs seen row="doubt"
 ·refine BI (by rw[e]) ?_;have q3:=q _ s3;rw[if_pos e] at q3;exact q3
 refine Bw (fun z=>e (by injection z)) ?_;refine⟨Bs seen row,gg,r,going,row,rfl,s3.seq hG,wG,s3.seq hS,by omega,fun l H4 s4 d5 gW=>?_⟩;have dB:=s3.trans s4
 have hll:(CZ (Bs seen row) going row).length<=900:=by
  have:=V7 (Bs seen row) going row;omega
 refine⟨sd,l,_,xs,sides,rfl,SqL.of gW,hll,dB _ _ hX,hR.keep dB,fun s hs=>zDI (wX s hs).len %[|0],by omega,fun H5 s5=>?_⟩;have q5:=q _ (dB.trans s5);rw[if_neg e] at q5;exact q5
def Sc:=Aw KC ["sides","going","seen","worlds"] 4
theorem Qu(F:%[|9] "answer" KC)(GA:%[|3] "all_within" AH 2 (Hf K))(GS:%[|3] "some_within" AH 2 (Fy K))(GP:%[|3] "plain" AH 3 (DZ K))(GT:%[|3] "barring_side" AH 4 (FG K)):%[|3] "answer" AH 5 (FA K):=by
 refine F.ok Sc ?_;rintro bz f bp A outer s H _ Q E hr ⟨sd,gg,sn,r,xs,sides,going,seen,row,rfl,hX,hR,wX,hxl,hG,wG,hN,wN,nne,hS,wS,q⟩;have l1:=wG.len;have l2:=wN.len;have l3:=wS.len
 refine⟨_,Aa (Au (Bv (AA GA hr Al (AS (pv 1) (pv 3))))
   (A5 Ae)
   Ak)
  (Aa (Au (CB (Bv (AA GS hr Al (AS (pv 1) (pv 3)))))
   (A5 Ae)
   Ak)
  (Aa (Au (FL (IX (AA GT hr Al (Aj (pv 0) (Aj (pv 1) (AS (pv 2) (pv 3)))))))
   (A5 (AA GP hr Al (AS (pv 2) (pv 3))))
   Ak)
  (A5 Ae))),?_⟩
 refine⟨gg,r,going,row,rfl,hG,hS,l1,wG.2,by omega,fun H1 s1=>?_⟩
 cases h0:going.all fun k=>decide (k∈row) with
 | true=>
  refine AB ?_;have:=q _ s1;unfold CF at this;rw[if_pos ((LF _ _).mpr h0)] at this;exact this
 | false=>
  refine Aq ?_;have n0:¬EL going row=[]:=fun z=>by rw[(LF _ _).mp z] at h0;cases h0
  refine⟨gg,r,going,row,rfl,s1.seq hG,s1.seq hS,by omega,by omega,fun H2 s2=>?_⟩;have cF:=s1.trans s2
  cases h1:going.any fun k=>decide (k∈row) with
  | false=>
   refine AB ?_;have:=q _ cF;unfold CF at this;rw[if_neg n0,if_pos ((Pm _ _).mpr h1)] at this;exact this
  | true=>
   refine Aq ?_;have n1:¬N9 going row=[]:=fun z=>by rw[(Pm _ _).mp z] at h1;cases h1
   refine⟨sd,gg,sn,r,xs,sides,going,seen,row,rfl,cF _ _ hX,hR.keep cF,wX,hxl,cF.seq hG,wG,cF.seq hN,wN,nne,cF.seq hS,wS,fun H3 s3=>?_⟩;have cY:=cF.trans s3
   cases hb:Ui sides going seen row with
   | none=>
    refine BI rfl ?_;refine⟨sn,r,seen,row,rfl,cY.seq hN,wN,nne,cY.seq hS,wS,fun H4 s4=>?_⟩;have q5:=q _ (cY.trans s4);rw[IC n0 n1,hb] at q5;exact q5
   | some i=>
    refine Bw (fun z=>V.noConfusion z) ?_;have q5:=q _ cY;rw[IC n0 n1,hb] at q5;exact q5
end
def Cz:%[|17]->V
 | none=>.non
 | some b=>.bl b
def OQ(w:Int)(i:Nat):%[|17]->Bool
 | none=>true
 | some b=>decide (b=DU i w)
def DE(marks:List (%[|17]))(w:Int):Bool:=(marks.mapIdx (OQ w)).all id
theorem Mv{marks:List (%[|17])}{i:Nat}(w:Int)(h:marks[i]? = some m):(marks.take (i+1)).mapIdx (OQ w)=(marks.take i).mapIdx (OQ w)++[OQ w i m]:=by
 have hi:=(List.getElem?_eq_some_iff.mp h).1;have e:marks.take (i+1)=marks.take i++[m]:=by rw[zAR,h];rfl
 rw[e,List.mapIdx_concat,zAW,Nat.min_eq_left %[|1]]
abbrev Kj:Stmt:=Bu 39
abbrev K0:Stmt:=Bu 40
inductive Ie(vs:List V)(H:Hp)(Q:VK)(E:XK):Prop where
 | mk (wd:Int) (m:Addr) (marks:List (%[|17])) (_:vs=[.int wd,.ref m]) (_:H m=some (.lst (marks.map Cz))) (_:marks.length<=5) (_:∀(H':Hp),A0B H H'->Q (.bl (DE marks wd)) H'):Ie  vs H Q E
inductive Fg(K:PySem.W.Frag)(vs:List V)(H:Hp)(Q:VK)(E:XK):Prop where
 | mk (r m:Addr) (row:List Int) (marks:List (%[|17])) (_:vs=[.ref r,.ref m]) (_:SqL K H r (row.map V.int)) (_:row.length<=900) (_:H m=some (.lst (marks.map Cz))) (_:marks.length<=5) (_:∀(l:Addr)(H':Hp),A0B H H'->H l=none->AL H' l (row.filter (DE marks))->Q (.ref l) H'):Fg K vs H Q E
theorem YX(h:tb D σ H):Dx M8 tb D σ H:=AB h
section
variable {P:Program}{w:World}{K:PySem.W.Frag}{mg:Str->%[|4]}
def Sq:=Aw Kj ["world","marks"] 2
theorem PZ(F:%[|9] "agrees" Kj)(T:Fz mg)(HE:mg "enumerate"=none)(GH:%[|3] "letter_holds" AH 1 Hw):%[|3] "agrees" AH 2 Ie:=by
 refine F.ok Sq ?_;rintro bz f bp A outer s H _ Q E hr ⟨wd,m,marks,rfl,hm,hl,q⟩;refine⟨_,A5 (AK (Eo rfl) %[|8] T.all boot_all (AM (Bk (N:=["letter","mark","world"]) (js:=[none,none,some 0]) (cl:=[("world",s.heap.objs.size+1)]) ⟨rfl,rfl,rfl,(by intro p hp;simp at hp;rcases hp with rfl<;>rfl),rfl,rfl,rfl⟩ (LY %[|8] HE (AM (pv 1))) (fun c1=>(Tz rfl (Fa (BA 0 (show (["letter","mark","world"]:List Str).Nodup by decide +kernel)) (Fa (BA 1 (show (["letter","mark","world"]:List Str).Nodup by decide +kernel)) O7)))) (fun c1=>BG) (fun c1=>(JE (Sr (IX (pv 1))) (Dt (Bx AF (pv 1) (AA GH hr Al (AS (pv 0) (pv 2))) (Cd _)))))))),?_⟩;refine⟨m,_,rfl,hm,fun cc acc br=>JN (a:=m) (xs:=marks.map Cz) (fun i σ H3=>∃(v0 v1:Option V),σ=[v0,v1,some (.int wd)]/\A0B H H3/\H3 acc=some (.lst (((marks.take i).mapIdx (OQ wd)).map V.bl))) ?_ ?_ ?_ ?_⟩
 ·exact⟨_,_,rfl,Ab br _,A0A⟩
 ·rintro i σ H3 _ ⟨v0,v1,rfl,s3,h3⟩;exact s3 _ _ hm
 ·rintro i y T2 σ H3 hy cp ⟨v0,v1,rfl,s3,h3⟩;rw[List.getElem?_map] at hy;obtain⟨mk,hk,rfl⟩:=Option.map_eq_some_iff.mp hy;have hi:=(List.getElem?_eq_some_iff.mp hk).1;have sT:=Ab cp (.tup [.int (i:Nat),Cz mk]);have h4:=sT _ _ h3;have s4:=s3.trans sT;refine⟨SqT.of A0A,rfl,rfl,?_⟩;show Dx M8 (DC acc _) _ _ _;refine YX ?_
  have bC:∀H5,A0B (upd H3 T2 (.tup [.int (i:Nat),Cz mk])) H5->∃xs,H5 acc=some (.lst xs)/\xs.length<sizeLine/\(fun σ H3=>∃(v0 v1:Option V),σ=[v0,v1,some (.int wd)]/\A0B H H3/\H3 acc=some (.lst (((marks.take (i+1)).mapIdx (OQ wd)).map V.bl))) [some (.int (i:Nat)),some (Cz mk),some (.int wd)] (upd H5 acc (.lst (xs++[.bl (OQ wd i mk)]))):=fun H5 s5=>by
   refine⟨_,s5 _ _ h4,Ar ?_,_,_,rfl,Ap (s4.trans s5) br _,?_⟩
   ·rw[List.length_map,List.length_mapIdx,zAW];omega
   ·rw[A0A,Mv wd hk,List.map_append];rfl
  cases mk with
  | none=>
   refine AB ?_;obtain⟨_,a,b,c⟩:=bC _ (A0B.refl _);exact⟨_,a,b,c⟩
  | some b=>
   refine Aq ?_;refine⟨i,wd,rfl,rfl,?_⟩;have e:decide (Cz (some b)=V.bl (DU i wd))=OQ wd i (some b):=OI b (DU i wd);rw[e];obtain⟨_,a,b,c⟩:=bC _ (A0B.refl _);exact⟨_,a,b,c⟩
 ·rintro σ H3 ⟨v0,v1,rfl,s3,h3⟩;rw[List.length_map,zAQ] at h3;exact⟨acc,_,rfl,SqL.of h3,q _ s3⟩
def Ss:=Aw K0 ["room","marks"] 2
theorem PQ(F:%[|9] "seen_by" K0)(GA:%[|3] "agrees" AH 2 Ie):%[|3] "seen_by" AH 3 (Fg K):=by
 refine F.ok Ss ?_;rintro bz f bp A outer s H _ Q E hr ⟨r,m,row,marks,rfl,hS,hl,hm,i6,q⟩;refine⟨_,A5 (Bk (N:=["world","marks"]) (js:=[none,some 1]) (cl:=[("marks",s.heap.objs.size+1)]) ⟨rfl,rfl,rfl,(by intro p hp;simp at hp;rcases hp with rfl<;>rfl),rfl,rfl,rfl⟩ (AX (pv 0)) (fun c1=>(BA 0 (show (["world","marks"]:List Str).Nodup by decide +kernel))) (fun c1=>(CJ (Bv (AA GA hr Al (AS (pv 0) (pv 1)))))) (fun c1=>(pv 0))),?_⟩;refine⟨⟨_,hS⟩,fun cc acc br=>BL (p:=DE marks) (rest:=[some (.ref m)]) hS br hl (fun k hk H2 s2 R hR=>?_) (fun v0 H2 s2 h2=>q acc H2 s2 br h2) none⟩;exact⟨k,m,marks,rfl,s2 _ _ hm,i6,fun H3 s3=>hR H3 s3⟩
end
abbrev JZ:Stmt:=Bu 36
section
variable {P:Program}{w:World}{K:PySem.W.Frag}{mg:Str->%[|4]}
def R7:=Aw JZ ["sides"] 1
theorem PR(F:%[|9] "base_of" JZ)(GA:%[|3] "in_any" AH 1 (Ms K)):%[|3] "base_of" AH 2 (Ms K):=by
 refine F.ok R7 ?_;rintro bz f bp A outer s H _ Q E hr ⟨a,xs,rs,rfl,hS,hR,h64,q⟩;refine⟨_,A5 (AA GA hr Al (AM (pv 0))),?_⟩;exact⟨a,xs,rs,rfl,hS,hR,h64,q⟩
end
theorem Nw:EW (AQ z t row)<=row.length:=by
 have h:=Sw t row;unfold AQ EW;split
 ·simp only[zAP,zDL,zBP,List.sum_nil];omega
 ·split
  ·simp only[zAP,zDL,zBP,List.sum_nil];omega
  ·simp only[zAP,zDL,zBP,List.sum_nil];omega
theorem RA(hr:Wr room)(hs:∀s∈sides,s.Sublist room)(hp:ns.Pairwise (· < ·))(hm:∀k,k∈ns↔∃row∈sides,k∈row):ns=CP room sides:=
 Hd hp (hr.1.sublist zAO) fun k=>by
  rw[hm k];unfold CP;rw[List.mem_filter,zCE];constructor
  ·rintro⟨r,h1,h2⟩;exact⟨(hs r h1).subset h2,r,h1,decide_eq_true h2⟩
  ·rintro⟨_,r,h1,h2⟩;exact⟨r,h1,of_decide_eq_true h2⟩
structure BE(K:PySem.W.Frag)(mg:Str->%[|4])(nm:Str)(C cT:Addr):Prop where
 at_:XAt K C cT
 cls:XE K C cT none
 m:mg nm=some (.ref C)
 ty:typeIn K (.ref C)=some (.type "type")
 ic:(clsIn K C).isSome=true
 bs:mroIn K C (.type "BaseException")=some true
 slf:mroIn K C (.ref C)=some true
 up:mroIn K C (.ref cT)=some true
 kv:PySem.W.kitOne K (.ref C) (.type "ValueError")=some true
structure YU(K:PySem.W.Frag)(mg:Str->%[|4])(cT:Addr):Prop where
 m:mg "TalkError"=some (.ref cT)
 ty:typeIn K (.ref cT)=some (.type "type")
 ic:(clsIn K cT).isSome=true
 bs:mroIn K cT (.type "BaseException")=some true
 mV:mg "ValueError"=none
 isi:mg "isinstance"=none
theorem RS{K:PySem.W.Frag}{sub sub2:%[|7]}(lC:K.lookup C=some (excClassObj nm q C N bs (.ref cT::Lo) true sn sub ab im dd k0 k1 k2 k3 k5 "ValueError.__new__"))(lN:K.lookup N=some ⟨oc,od,.dict es ep,sl⟩)(sN:(es.all fun e=>match e.key with | .str _ _=>true | _=>false)=true)(iN:nsIn K N "__init__"=some none)(lT:K.lookup cT=some ⟨.type "type",dd2,.cls { name:=nm2,bases:=bs2,mro:=.ref cT::Lo,ns:=NT,qualname:=q2,hasDict:=hd2,slotNames:=sn2,subclasses:=sub2,abstract:=ab2,collection:=col2,hasDel:=false },#[j0,j1,j2,j3,j4,j5]⟩)(lNT:K.lookup NT=some ⟨oc2,od2,.dict es2 ep2,sl2⟩)(sNT:(es2.all fun e=>match e.key with | .str _ _=>true | _=>false)=true)(iNT:nsIn K NT "__init__"=some none)(kp:keepIn K (.ref C)=true):XE K C cT none:=
 ⟨⟨nm,q,N,bs,true,sn,sub,ab,im,dd,k0,k1,k2,k3,k5,lC,Pz lN sN,iN⟩,ST lT (Pz lNT sNT) iNT,kp⟩
abbrev IF:Stmt:=Bu 35
def BF(z:Str):Prop:=z="true"\/z="false"\/z="doubt"
instance(z:Str):Decidable (BF z):=by unfold BF;infer_instance
abbrev A0L(H H':Hp):List V->List (List Int)->Prop:=Paired fun(v:V)(row:List Int)=>∃p,v= .ref p/\H p=none/\AL H' p row
theorem A0L.at{H H':Hp}:∀{xs:List V}{rs:List (List Int)},A0L H H' xs rs->A0E H' xs rs
 | _,_,.nil=>.nil
 | _,_,.cons ⟨p,e,_,h⟩ q=>.cons ⟨p,e,h⟩ (A0L.at q)
theorem A0L.keep{H H' H2:Hp}(s:A0B H' H2):∀{xs:List V}{rs:List (List Int)},A0L H H' xs rs->A0L H H2 xs rs
 | _,_,.nil=>.nil
 | _,_,.cons ⟨p,e,n,h⟩ q=>.cons ⟨p,e,n,s _ _ h⟩ (A0L.keep s q)
inductive F7(K:PySem.W.Frag)(cB cN:Addr)(vs:List V)(H:Hp)(Q:VK)(E:XK):Prop where
 | mk (r:Addr) (z:Str) (v:V) (t:Tr) (row:List Int) (_:vs=[.ref r,.str z,v]) (_:t.At H v) (_:t.ok 5) (_:t.size<=800) (_:SqL K H r (row.map V.int)) (_:Wr row) (_:(¬BF z->∀H',A0B H H'->E (.ref cB) none H')) (_:(BF z->[]∈AQ z t row->∀H',A0B H H'->E (.ref cN) none H')) (_:(BF z->[]∉AQ z t row->∀(l:Addr)(xs:List V)(H':Hp),A0B H H'->H l=none->H' l=some (.lst xs)->A0L H H' xs (AQ z t row)->(∀x∈xs,x≠.ref l)->Q (.ref l) H')):F7 K cB cN vs H Q E
def IO:List V:=[.str "true",.str "false",.str "doubt"]
theorem P5(z:Str):OD (.str z) IO=decide (BF z):=by
 unfold OD IO BF;simp only[zBS,List.any_nil,zCM]
 have e:∀y:Str,MK (.str y) (.str z)=decide (z=y):=fun y=>by
  show (y == z)=decide (z=y);by_cases h:z=y
  ·subst h;simp
  ·rw[decide_eq_false h];exact beq_false_of_ne fun q=>h q.symm
 rw[e,e,e,zA3];simp only[zBF,decide_eq_true_eq];exact decide_eq_true_iff.symm
theorem Vc(hr:Wr row)(hp:ns.Pairwise (· < ·))(hm:∀k,k∈ns↔k∈row/\k∉row.filter fun k=>tv t k == true):ns=%[|24] row:=
 Hd hp (hr.1.sublist zAO) fun k=>by
  rw[hm k];unfold AC;rw[List.mem_filter,List.mem_filter];constructor
  ·rintro⟨h1,h2⟩;refine⟨h1,?_⟩
   cases h:tv t k with
   | false=>rfl
   | true=>exact absurd ⟨h1,by rw[h];rfl⟩ h2
  ·rintro⟨h1,h2⟩;refine⟨h1,fun h3=>?_⟩;have e1:=h3.2;have e2:tv t k=false:=eq_of_beq h2;rw[e2] at e1;cases e1
theorem NW{r:List Int}:(r.map V.int).isEmpty=r.isEmpty:=by cases r<;>rfl
theorem Jn(rs:List (List Int)):(rs.map List.isEmpty).any id=decide ([]∈rs):=by
 induction rs with
 | nil=>rfl
 | cons r rs ih=>
  rw[zAP,zBS,ih]
  cases r with
  | nil=>simp
  | cons a b=>simp
theorem Ly{K:PySem.W.Frag}(h:A0E H xs rs):∀(i:Nat) v b,xs[i]? = some v->(rs.map List.isEmpty)[i]? = some b->∃a zs,v= .ref a/\SqL K H a zs/\b=zs.isEmpty:=fun i v b hv hb=>by
 obtain⟨row,p,hr,rfl,hp⟩:=h.get hv;rw[List.getElem?_map,hr] at hb;refine⟨p,_,rfl,SqL.of hp,?_⟩;rw[NW];exact (zAK hb).symm
section
variable {P:Program}{w:World}{K:PySem.W.Frag}{mg:Str->%[|4]}{cB cN cT:Addr}
def A1E:=Aw IF ["room","kind","sentence","inside","outside","sides"] 3
theorem NK(F:%[|9] "sides_of" IF)(XB:BE K mg "BadWord" cB cT)(XN:BE K mg "NoStanding" cN cT)(GW:%[|3] "worlds_of" AH 3 (B1 K))(GF:%[|3] "in_first_only" AH 1 (E8 K)):%[|3] "sides_of" (Cb P w) 4 (F7 K cB cN):=by
 refine F.okX A1E ?_;rintro bz f bp A outer s H _ Q E hr ⟨r,z,v,t,row,rfl,ha,hok,hsz,hS,hwr,qB,qN,qO⟩;have hl:=hwr.len
 refine⟨_,Aa (Au (Cf Fu (pv 1) (Be (Aj Ae (AS Ae Ae))) %[|28])
   (Ai (Bn (Ex:=E) BB rfl XB.cls XB.at_ XB.ty %[|8] XB.m (AM Ae) (hvl:=fun _ _ _ h=>⟨by decide,h⟩)))
   Ak)
  (Aa (Az 3 A1E.nd (AA GW hr Al (AS (pv 2) (pv 0))))
  (Aa (Az 4 A1E.nd (AA GF hr Al (AS (pv 0) (pv 3))))
  (Aa (Au (AR AF (pv 1) Ae)
   (Ai (Az 5 A1E.nd (Av (AM (pv 3)))))
   (Ai (Au (AR AF (pv 1) Ae)
    (Ai (Az 5 A1E.nd (Av (AM (pv 4)))))
    (Ai (Az 5 A1E.nd (Av (AS (pv 3) (pv 4))))))))
  (Aa (Au (Cf (Ur hr.units9) (Av Bi) (pv 5) %[|28])
   (Ai (Bn (Ex:=E) BB rfl XN.cls XN.at_ XN.ty %[|8] XN.m (AM Ae) (hvl:=fun _ _ _ h=>⟨by decide,h⟩)))
   Ak)
  (A5 (pv 5)))))),?_⟩
 refine⟨No,fun kt hkt=>?_⟩;have s1:=Ab hkt (.tup IO);refine⟨kt,IO,rfl,.inr (SqT.of A0A),rfl,rfl,?_⟩;show If (!OD (.str z) IO) _ _;rw[P5];by_cases hk:BF z
 rotate_left
 ·refine Tt hk ?_;exact qB hk _ s1
 refine RM hk ?_;have a1:=ha.keep (TS.same s1);refine⟨v,t,r,row,rfl,a1,hok,hsz,s1.seq hS,hwr,fun il H2 s2 f8 fw=>?_⟩;have t2:=s1.trans s2;have ix:(row.filter fun k=>tv t k == true).length<=32:=zAD (zAX _ _) hl;refine⟨r,il,row,_,rfl,t2.seq hS,SqL.of fw,hl,hwr.2,by omega,fun ol H3 ns s3 fE hp hm fB=>?_⟩;have en:=Vc hwr hp hm;subst en;have t3:=t2.trans s3;have iA:AL H3 il (%[|12] row):=s3 _ _ fw;have nil0:H il=none:=s1.free f8;have nol0:H ol=none:=t2.free fE;have nio:il≠ol:=Ah fw fE
 have bC:∀(sl:Addr)(xs:List V)(H4:Hp),A0B H3 H4->H3 sl=none->H4 sl=some (.lst xs)->A0L H H4 xs (AQ z t row)->(∀x∈xs,x≠.ref sl)->∀(e:Addr),H4 e=none->∀(G:Bool->Hp->Prop),(∀H',E (.ref cN) none H'->G true H')->(∀H',Q (.ref sl) H'->G false H')->
   YF K (.ref e) (.ref sl) (upd H4 e (.lst [])) (Um G):=fun sl xs H4 s4 hsl0 cu hR bx e he G g1 g2=>by
  have s5:=Ab he (.lst []);refine⟨e,sl,xs,(AQ z t row).map List.isEmpty,rfl,rfl,SqL.of A0A,SqL.of (s5 _ _ cu),?_,Ly (hR.at.keep s5),?_⟩
  ·rw[List.length_map];exact hR.at.len.symm
  ·rw[Jn];by_cases fA:[]∈AQ z t row
   ·rw[decide_eq_true fA];exact g1 _ (qN hk fA _ (t3.trans (s4.trans s5)))
   ·rw[decide_eq_false fA];refine g2 _ ?_;exact qO hk fA sl xs _ (t3.trans (s4.trans s5)) (t3.free hsl0) (s5 _ _ cu) (hR.keep s5) bx
 refine⟨rfl,?_⟩;by_cases h0:z="true"
 ·refine BI (by rw[h0]) ?_;refine⟨Rg,fun sl cu=>?_⟩;have s4:=Ab cu (.lst [.ref il]);refine⟨GQ,fun e he=>?_⟩;have eR:AQ z t row=[%[|12] row]:=by unfold AQ;rw[if_pos h0]
  exact bC sl [.ref il] _ s4 cu A0A (by rw[eR];exact .cons ⟨il,rfl,nil0,s4 _ _ iA⟩ .nil) (fun x hx=>by rw[List.mem_singleton.mp hx];intro q;exact Ah iA cu (V.ref.inj q)) e he _ (fun H' h=>AB h) (fun H' h=>Aq h)
 refine Bw (fun q=>h0 (by injection q)) ?_;refine⟨rfl,?_⟩;by_cases h1:z="false"
 ·refine BI (by rw[h1]) ?_;refine⟨Rg,fun sl cu=>?_⟩;have s4:=Ab cu (.lst [.ref ol]);refine⟨GQ,fun e he=>?_⟩;have eR:AQ z t row=[%[|24] row]:=by unfold AQ;rw[if_neg h0,if_pos h1]
  exact bC sl [.ref ol] _ s4 cu A0A (by rw[eR];exact .cons ⟨ol,rfl,nol0,s4 _ _ fB⟩ .nil) (fun x hx=>by rw[List.mem_singleton.mp hx];intro q;exact Ah fB cu (V.ref.inj q)) e he _ (fun H' h=>AB h) (fun H' h=>Aq h)
 refine Bw (fun q=>h1 (by injection q)) ?_;refine⟨Cy,fun sl cu=>?_⟩;have s4:=Ab cu (.lst [.ref il,.ref ol]);refine⟨GQ,fun e he=>?_⟩;have eR:AQ z t row=[%[|12] row,%[|24] row]:=by unfold AQ;rw[if_neg h0,if_neg h1]
 refine bC sl [.ref il,.ref ol] _ s4 cu A0A (by rw[eR];exact .cons ⟨il,rfl,nil0,s4 _ _ iA⟩ (.cons ⟨ol,rfl,nol0,s4 _ _ fB⟩ .nil)) (fun x hx=>by
  rcases List.mem_cons.mp hx with q | q
  ·rw[q];intro q;exact Ah iA cu (V.ref.inj q)
  ·rw[List.mem_singleton.mp q];intro q;exact Ah fB cu (V.ref.inj q)) e he _ (fun H' h=>AB h) (fun H' h=>Aq h)
end
abbrev Iq:Stmt:=Bu 23
def C1:Tr->List Int
 | .lt k=>[(k:Int)]
 | .nt t=>C1 t
 | .bn _ a b=>C1 a++C1 b
def CW(ts:List Tr):List Int:=ts.flatMap C1
def VE:Tr->List Int
 | .lt k=>[(k:Int)]
 | _=>[]
def HJ(ts:List Tr):List Int:=ts.flatMap VE
theorem TR:∀t:Tr,C1 t=VE t++CW (ML t)
 | .lt _=>rfl
 | .nt t=>by show C1 t=[]++(C1 t++[]);simp
 | .bn _ a b=>by show C1 a++C1 b=[]++(C1 a++(C1 b++[]));simp
theorem Qj(a b:List Tr):CW (a++b)=CW a++CW b:=by unfold CW;rw[List.flatMap_append]
theorem QB(ts:List Tr)(k:Int):k∈CW ts↔k∈HJ ts\/k∈CW (Cw ts):=by
 induction ts with
 | nil=>simp[CW,HJ,Cw]
 | cons t r ih=>
  have e1:CW (t::r)=C1 t++CW r:=rfl;have e2:HJ (t::r)=VE t++HJ r:=rfl;have e3:Cw (t::r)=ML t++Cw r:=rfl;rw[e1,e2,e3,Qj,TR];simp only[zD,ih];constructor
  ·rintro ((h | h) | (h | h))
   ·exact .inl (.inl h)
   ·exact .inr (.inl h)
   ·exact .inl (.inr h)
   ·exact .inr (.inr h)
  ·rintro ((h | h) | (h | h))
   ·exact .inl (.inl h)
   ·exact .inr (.inl h)
   ·exact .inl (.inr h)
   ·exact .inr (.inr h)
theorem FH{ts:List Tr}{i:Nat}(h:ts[i]? = some t):HJ (ts.take (i+1))=HJ (ts.take i)++VE t:=by
 unfold HJ;rw[zAR,h,List.flatMap_append];simp
theorem TS.ext(h:H l=some o)(n:∀xs,o≠.tup xs):TS H (upd H l u):=fun p ys e=>by
 rw[Af (AT e h fun z=>n ys z.symm)];exact e
inductive FN(vs:List V)(H:Hp)(Q:VK)(E:XK):Prop where
 | mk (v:V) (t:Tr) (_:vs=[v]) (_:t.At H v) (_:t.size<=60) (_:∀(l:Addr)(ns:List Int)(H':Hp),A0B H H'->H l=none->H' l=some (.lst %[|25])->ns.Pairwise (· < ·)->(∀k,k∈ns↔k∈C1 t)->Q (.ref l) H'):FN  vs H Q E
section
variable {P:Program}{w:World}{K:PySem.W.Frag}{mg:Str->%[|4]}
def A1L:=Aw Iq ["sentence","found","layer","part"] 1
inductive Z4(w:World)(H:Hp)(v:V)(t:Tr)(fa:Addr)(m:Nat)(σ:L2.St)(H3:Hp):Prop where
 | mk (S:Int->Bool) (n:Nat) (r:Addr) (ys:List V) (ts:List Tr) (pp:Option V) (_:σ=[some v,some (.ref fa),some (.ref r),pp]) (_:A0B H H3) (_:H3 fa=some (By w fa S n)) (_:H3 r=some (.lst ys)) (_:A0I H3 ys ts) (_:n+sz ts<=60) (_:(∀k,k∈C1 t↔S k=true\/k∈CW ts)) (_:sz ts=m):Z4 w H v t fa m σ H3
theorem Oq(F:%[|9] "letters" Iq)(T:Fz mg)(GP:%[|3] "parts_of" AH 1 (Hq K)):%[|3] "letters" AH 2 FN:=by
 refine F.ok A1L ?_;rintro bz f bp A outer s H _ Q E hr ⟨v,t,rfl,ha,hs,q⟩
 refine⟨_,Aa (Az 1 A1L.nd (MM Rc %[|8] T.set boot_set))
  (Aa (Az 2 A1L.nd (Av (AM (pv 0))))
  (Aa (DO zAV (BS (pv 2) (fun _=>rfl))
   (Aa (BZ zAV rfl (AX (pv 2)) (BA 3 A1L.nd)
    (Ai (Au (AR AF (An Am (pv 3) Ad) Ae)
     (Ai (As (VO (pv 1) (AM (An Am (pv 3) Ad)))))
     Ak)))
   (Ai (Az 2 A1L.nd (AA GP hr Al (AM (pv 2)))))))
  (A5 (AK (Dq rfl) %[|8] T.sorted boot_sorted (AM (pv 1)))))),?_⟩
 refine⟨rfl,fun fa hfa=>?_⟩;have s1:=Ab hfa (By w fa (fun _=>false) 0);refine⟨Rg,fun l hl=>?_⟩;have s2:=Ab hl (.lst [v]);have e1:sz [t]=t.size:=by unfold sz;simp
 refine⟨Z4 w H v t fa,⟨_,fun _=>false,0,l,[v],[t],none,rfl,s1.trans s2,s2 _ _ A0A,A0A,.cons (ha.keep ((TS.same s1).trans (TS.same s2))) .nil,by omega,fun k=>?_,rfl⟩,?_⟩
 ·have:CW [t]=C1 t:=by unfold CW;simp
  rw[this];simp
 rintro m σ H3 ⟨S,n,r,ys,ts,pp,rfl,s3,hf3,hr3,p3,hn3,hm3,rfl⟩;refine⟨_,.inl ⟨ys,SqL.of hr3,rfl⟩,?_⟩;refine Ci (fun c=>?_) (fun c=>?_)
 ·refine⟨fun σ' H'=>∃m',m'<sz ts/\Z4 w H v t fa m' σ' H',fun _ _ h=>h,?_⟩;have bo:=p3.len
  have dz:0<ts.length:=by
   rw[<-bo]
   cases ys with
   | nil=>exact absurd c %[|0]
   | cons _ _=>exact zBH _
  refine⟨⟨_,SqL.of hr3⟩,Bf (K:=K) (a:=r) (xs:=ys) (fun i σ H4=>∃(S2:Int->Bool)(n2:Nat)(pp:Option V),σ=[some v,some (.ref fa),some (.ref r),pp]/\A0B H H4/\H4 fa=some (By w fa S2 n2)/\H4 r=some (.lst ys)/\A0I H4 ys ts/\n2<=n+i/\∀k,S2 k=true↔S k=true\/k∈HJ (ts.take i)) ?_ ?_ ?_ ?_⟩
  ·exact⟨S,n,pp,rfl,s3,hf3,hr3,p3,zAB _,fun k=>by simp[HJ]⟩
  ·rintro i σ H4 _ ⟨S2,n2,pp,rfl,s4,_,dO,_⟩;exact SqL.of dO
  ·rintro i x σ H4 hx ⟨S2,n2,pp,rfl,s4,hf4,dO,p4,hn4,hm4⟩;obtain⟨t2,ht2,bF⟩:=BR p4 hx;have hi:i<ys.length:=(List.getElem?_eq_some_iff.mp hx).1;have hsz:=KR ts
   cases t2 with
   | lt j=>
    obtain⟨p,rfl,hp⟩:=bF;exists 10;refine BI rfl ?_;refine⟨fa,S2,n2,rfl,hf4,SqT.of hp,Ac (j:=1) rfl,_,S2,n2,rfl,hf4,by omega,?_⟩;have kk:TS H4 (upd H4 fa (By w fa (fun k=>S2 k || decide (k=(j:Int))) (n2+1))):=TS.ext hf4 (fun xs z=>by cases z);refine⟨_,n2+1,_,rfl,Ap s4 hfa _,A0A,by rw[Af (AT dO hf4 %[|11])];exact dO,p4.keep kk,by omega,fun k=>?_⟩;rw[zBF,decide_eq_true_eq,hm4 k,FH ht2,zD];show (_\/_)\/k=(j:Int)↔_\/_\/k∈[(j:Int)];rw[zBV,or_assoc]
   | nt t3=>
    obtain⟨p,u,rfl,hp,_⟩:=bF;exists 10;refine Bw %[|0] ?_;refine⟨S2,n2,_,rfl,s4,hf4,dO,p4,by omega,fun k=>?_⟩;rw[hm4 k,FH ht2];show _↔_\/k∈HJ (ts.take i)++[];rw[zA6]
   | bn j a b=>
    obtain⟨p,u,u2,rfl,hp,_⟩:=bF;exists 10;refine Bw FY ?_;refine⟨S2,n2,_,rfl,s4,hf4,dO,p4,by omega,fun k=>?_⟩;rw[hm4 k,FH ht2];show _↔_\/k∈HJ (ts.take i)++[];rw[zA6]
  ·rintro σ H4 ⟨S2,n2,pp,rfl,s4,hf4,dO,p4,hn4,hm4⟩;rw[bo,zAQ] at hm4;have hk:=O4 ts;refine⟨r,ys,ts,rfl,SqL.of dO,p4,by omega,fun r2 zs H5 s5 hr5 p5=>?_⟩;refine⟨sz (Cw ts),by omega,S2,n2,r2,zs,Cw ts,_,rfl,s4.trans s5,s5 _ _ hf4,hr5,p5,by omega,fun k=>?_,rfl⟩;rw[hm3 k,QB,hm4 k,or_assoc]
 ·have e:ts=[]:=by
   cases p3 with
   | nil=>rfl
   | cons h1 h2=>exact absurd rfl c
  subst e;refine⟨fa,S,n,rfl,hf3,by omega,fun l2 ns bM hp hm=>?_⟩;refine q l2 ns _ (s3.trans (Ab bM _)) (s3.free bM) A0A hp fun k=>?_
  rw[hm k,hm3 k];simp[CW]
end
abbrev Hz:Stmt:=Bu 32
theorem GZ:∀{t:Tr}{m:Nat},t.ok 5->(t.ok m↔∀k∈C1 t,k<(m:Int))
 | .lt j,m,_=>by
  show j<m↔∀k∈[(j:Int)],k<(m:Int);simp
 | .nt t,m,h=>GZ (t:=t) h
 | .bn j a b,m,h=>by
  have h1:=GZ (m:=m) h.2.1;have h2:=GZ (m:=m) h.2.2;show (j<4/\a.ok m/\b.ok m)↔∀k∈C1 a++C1 b,k<(m:Int);rw[h1,h2];constructor
  ·rintro⟨_,q1,q2⟩ k hk;rcases List.mem_append.mp hk with z | z
   ·exact q1 k z
   ·exact q2 k z
  ·intro q;exact⟨h.1,fun k hk=>q k (zBW _ hk),fun k hk=>q k (zAG _ hk)⟩
theorem KK:∀t:Tr,∃k,k∈C1 t
 | .lt j=>⟨(j:Int),by simp[C1]⟩
 | .nt t=>KK t
 | .bn _ a b=>by
  obtain⟨k,hk⟩:=KK a;exact⟨k,zBW _ hk⟩
theorem Vk{ns:List Int}{x:Int}(h:(ns++[x]).Pairwise (· < ·)):∀k∈ns++[x],k<=x:=fun k hk=>by
 rcases List.mem_append.mp hk with z | z
 ·exact Int.le_of_lt ((List.pairwise_append.mp h).2.2 k z x %[|2])
 ·rw[List.mem_singleton.mp z];exact zDG _
theorem IA{α:Type}(xs:List α)(x:α):Er (xs++[x]) (-1)=some x:=by
 have e:Q7 (xs++[x]).length (-1)=some xs.length:=by
  unfold Q7;rw[if_neg %[|0],zA];show (if _ then _ else _)=_;rw[if_pos (by show -(((xs.length+1:Nat)):Int)<=-1;omega)]
  congr 1
  show (((xs.length+1:Nat):Int) + -1).toNat=xs.length;omega
 unfold Er;rw[e];show (xs++[x])[xs.length]? = some x;simp
inductive DK(cS:Addr)(vs:List V)(H:Hp)(Q:VK)(E:XK):Prop where
 | mk (v:V) (t:Tr) (m:Nat) (_:vs=[v,.int m]) (_:t.At H v) (_:t.ok 5) (_:t.size<=60) (_:(¬t.ok m->∀H',A0B H H'->E (.ref cS) none H')) (_:(t.ok m->∀H',A0B H H'->Q .non H')):DK cS vs H Q E
section
variable {P:Program}{w:World}{K:PySem.W.Frag}{mg:Str->%[|4]}{cS cT:Addr}
def QQ:=Aw Hz ["sentence","many"] 2
theorem Qo(F:%[|9] "refuse_strange" Hz)(XS:BE K mg "StrangeLetter" cS cT)(GL:%[|3] "letters" AH 2 FN):%[|3] "refuse_strange" (Cb P w) 3 (DK cS):=by
 refine F.okX QQ ?_;rintro bz f bp A outer s H _ Q E hr ⟨v,t,m,rfl,ha,hok,hsz,qE,q⟩
 refine⟨_,Ai (Au (AR Se (An AI (AA GL hr Al (AM (pv 0))) (HF EX Ad)) (pv 1))
   (Ai (Bn (Ex:=E) BB rfl XS.cls XS.at_ XS.ty %[|8] XS.m (AM Ae) (hvl:=fun _ _ _ h=>⟨by decide,h⟩)))
   Ak),?_⟩
 refine⟨v,t,rfl,ha,hsz,fun l ns H1 s1 d5 hl hp hm=>?_⟩;obtain⟨k0,hk0⟩:=KK t;have bx:ns≠[]:=List.ne_nil_of_mem ((hm k0).mpr hk0);obtain⟨ms,x,rfl⟩:∃ms x,ns=ms++[x]:=⟨ns.dropLast,ns.getLast bx,(List.dropLast_concat_getLast bx).symm⟩;have hmax:=Vk hp;have hx:x∈C1 t:=(hm x).mp %[|2];have hiff:=GZ (m:=m) hok;have bF:Er ((ms++[x]).map V.int) (-1)=some (.int x):=by rw[List.map_append];exact IA _ _
 refine⟨_,rfl,SqL.of hl,bF,?_⟩;by_cases c:t.ok m
 ·refine Bw (fun z=>?_) (q c _ s1);have:=hiff.mp c x hx;have z':x>=(m:Int):=z;omega
 ·refine BI ?_ (qE c _ s1);show x>=(m:Int);refine Int.not_lt.mp fun z=>c (hiff.mpr fun k hk=>?_)
  have:=hmax k ((hm k).mpr hk);omega
end
def A6(M:%[|6])(H:Hp):Hp:=fun b=>if b∈M then none else H b
section
variable {M N:%[|6]}{H H' H0 H1:Hp}{a b l:Addr}{o:HO}
theorem Bg(h:A6 M H b=some o):H b=some o/\b∉M:=by
 unfold A6 at h;by_cases c:b∈M
 ·rw[if_pos c] at h;cases h
 ·rw[if_neg c] at h;exact⟨h,c⟩
theorem AW(h:H b=some o)(n:b∉M):A6 M H b=some o:=by unfold A6;rw[if_neg n];exact h
theorem Ay:A0B (A6 M H) H:=fun b o h=>(Bg h).1
theorem Ag(s:A0B H H'):A0B (A6 M H) (A6 M H'):=fun b o h=>AW (s _ _ (Bg h).1) (Bg h).2
theorem Bt(h:a∈M):A6 M (upd H a o)=A6 M H:=by
 funext b
 unfold A6;by_cases c:b∈M
 ·rw[if_pos c,if_pos c]
 ·rw[if_neg c,if_neg c,Af (fun z=>c (by rw[z];exact h))]
abbrev But(M:%[|6])(H H':Hp):Prop:=A0B (A6 M H) (A6 M H')
theorem But.upd(h:a∈M):But M H (upd H a o):=by
 show A0B (A6 M H) (A6 M (L2.upd H a o));rw[Bt h];exact A0B.refl _
theorem But.wide(h:∀x∈M,x∈N)(s:But M H H'):But N H H':=fun b o e=>by
 obtain⟨e1,n⟩:=Bg e;exact AW (Bg (s b o (AW e1 fun z=>n (h b z)))).1 n
theorem But.same(off:∀m∈M,H0 m=none)(s0:A0B H0 H)(s:But M H H'):A0B H0 H':=fun b o e=>
 (Bg (s b o (AW (s0 _ _ e) fun z=>by rw[off b z] at e;cases e))).1
theorem But.at(s:But M H H')(h:H b=some o)(n:b∉M):H' b=some o:=(Bg (s b o (AW h n))).1
end
structure Tk where
 dx:Addr
 sp:Addr
 pt:Addr
 gv:Addr
 lf:Addr
 sv:V
 pxs:List V
 ges:List V
 lfs:List V
structure Ta where
 many:Nat
 kind:Str
 rule:Str
 t:Tr
 room:List Int
 ents:List (V×Tr×Str)
 lefts:List (List Int)
 ended:Bool
def Ta.sides(W:Ta):List (List Int):=AQ W.kind W.t W.room
def Ta.base(W:Ta):List Int:=W.lefts.headD []
def Ta.held(W:Ta):List Int:=W.lefts.getLastD []
def Ta.going(W:Ta):List Int:=if W.rule="elder" then W.held else W.base
def Dk(U:Tk)(W:Ta):List (Str×V):=[("many",.int W.many),("kind",.str W.kind),("sentence",U.sv),("rule",.str W.rule),("space",.ref U.sp),("parts",.ref U.pt),("given",.ref U.gv),("left",.ref U.lf),("ended",.bl W.ended)]
abbrev A0K(H:Hp):List V->List (V×Tr×Str)->Prop:=Paired fun(v:V)(e:V×Tr×Str)=>∃p,v= .ref p/\H p=some (.tup [e.1,.str e.2.2])/\e.2.1.At H e.1
theorem A0K.keep{H H':Hp}(s:A0B H H'):∀{xs:List V}{es:List (V×Tr×Str)},A0K H xs es->A0K H' xs es
 | _,_,.nil=>.nil
 | _,_,.cons ⟨p,e,h,a⟩ q=>.cons ⟨p,e,s _ _ h,a.keep (TS.same s)⟩ (A0K.keep s q)
structure A0D(M:%[|6])(C:Addr)(H:Hp)(a:Addr)(U:Tk)(W:Ta):Prop where
 ob:H a=some (.ins C U.dx (Dk U W))
 gv:H U.gv=some (.lst U.ges)
 lf:H U.lf=some (.lst U.lfs)
 ma:a∈M
 mg:U.gv∈M
 ml:U.lf∈M
 ne:U.gv≠U.lf
 room:AL (A6 M H) U.sp W.room
 tr:W.t.At (A6 M H) U.sv
 pt:A6 M H U.pt=some (.lst U.pxs)
 sd:A0E (A6 M H) U.pxs W.sides
 en:A0K (A6 M H) U.ges W.ents
 lr:A0E (A6 M H) U.lfs W.lefts
 wr:Wr W.room
 wl:∀l∈W.lefts,l.Sublist W.room
 ln:W.lefts≠[]
 l9:W.lefts.length<=900
 e9:W.ents.length<=900
 tok:W.t.ok W.many
 m5:W.many<=5
 tsz:W.t.size<=23
 kd:BF W.kind
 ns:[]∉W.sides
 rl:W.rule="elder"\/W.rule="newer"
section
variable {M:%[|6]}{C:Addr}{H H':Hp}{a:Addr}{U:Tk}{W:Ta}
theorem A0D.keep(s:A0B H H')(h:%[|34]):A0D M C H' a U W:=
 ⟨s _ _ h.ob,s _ _ h.gv,s _ _ h.lf,h.ma,h.mg,h.ml,h.ne,Ag s _ _ h.room,h.tr.keep (TS.same (Ag s)),Ag s _ _ h.pt,h.sd.keep (Ag s),h.en.keep (Ag s),h.lr.keep (Ag s),h.wr,h.wl,h.ln,h.l9,h.e9,h.tok,h.m5,h.tsz,h.kd,h.ns,h.rl⟩
theorem Lz(h:A0K H xs []):xs=[]:=by
 cases h;rfl
theorem A0D.but(b:But M H H')(ha:H' a=H a)(hg:H' U.gv=H U.gv)(hl:H' U.lf=H U.lf)(h:%[|34]):A0D M C H' a U W:=
 ⟨ha.trans h.ob,hg.trans h.gv,hl.trans h.lf,h.ma,h.mg,h.ml,h.ne,b _ _ h.room,h.tr.keep (TS.same b),b _ _ h.pt,h.sd.keep b,h.en.keep b,h.lr.keep b,h.wr,h.wl,h.ln,h.l9,h.e9,h.tok,h.m5,h.tsz,h.kd,h.ns,h.rl⟩
theorem A0D.ws(h:%[|34]):∀s∈W.sides,Wr s:=fun s hs=>h.wr.sub (FC hs)
theorem PF:(Dk U W).lookup ("many":Str)=some (.int W.many):=by with_unfolding_all rfl
theorem Wq:(Dk U W).lookup ("kind":Str)=some (.str W.kind):=by with_unfolding_all rfl
theorem MB:(Dk U W).lookup ("sentence":Str)=some U.sv:=by with_unfolding_all rfl
theorem O5:(Dk U W).lookup ("rule":Str)=some (.str W.rule):=by with_unfolding_all rfl
theorem Hy:(Dk U W).lookup ("space":Str)=some (.ref U.sp):=by with_unfolding_all rfl
theorem SC:(Dk U W).lookup ("parts":Str)=some (.ref U.pt):=by with_unfolding_all rfl
theorem Fo:(Dk U W).lookup ("given":Str)=some (.ref U.gv):=by with_unfolding_all rfl
theorem Ed:(Dk U W).lookup ("left":Str)=some (.ref U.lf):=by with_unfolding_all rfl
theorem Ih:(Dk U W).lookup ("ended":Str)=some (.bl W.ended):=by with_unfolding_all rfl
theorem Vy:(Dk U W).lookup ("base":Str)=none:=by with_unfolding_all rfl
theorem Ve:(Dk U W).lookup ("held":Str)=none:=by with_unfolding_all rfl
theorem RN:(Dk U W).lookup ("going":Str)=none:=by with_unfolding_all rfl
theorem U7:(Dk U W).lookup ("over":Str)=none:=by with_unfolding_all rfl
theorem YC:(Dk U W).lookup ("ask":Str)=none:=by with_unfolding_all rfl
theorem YA:(Dk U W).lookup ("say":Str)=none:=by with_unfolding_all rfl
theorem Vw:(Dk U W).lookup ("back":Str)=none:=by with_unfolding_all rfl
theorem VU:(Dk U W).lookup ("fork":Str)=none:=by with_unfolding_all rfl
theorem W7:(Dk U W).lookup ("end":Str)=none:=by with_unfolding_all rfl
end
structure LR(K:PySem.W.Frag)(C:Addr):Prop where
 cl:Cls K C
 many:A0P K C "many"
 kind:A0P K C "kind"
 sentence:A0P K C "sentence"
 rule:A0P K C "rule"
 space:A0P K C "space"
 parts:A0P K C "parts"
 given:A0P K C "given"
 left:A0P K C "left"
 ended:A0P K C "ended"
theorem Ek(h:A0E H xs rs)(ne:rs≠[]):∃p,Er xs 0=some (.ref p)/\AL H p (rs.headD []):=by
 cases h with
 | nil=>exact absurd rfl ne
 | cons r q=>
  obtain⟨p,rfl,hp⟩:=r;exact⟨p,Ac (j:=0) rfl,hp⟩
theorem Ec{H:Hp}:∀{xs:List V}{rs:List (List Int)},A0E H xs rs->rs≠[]->∃ys p,xs=ys++[.ref p]/\A0E H ys rs.dropLast/\AL H p (rs.getLastD [])
 | _,_,.nil,ne=>absurd rfl ne
 | [_],[_],.cons ⟨p,rfl,hp⟩ .nil,_=>⟨[],p,rfl,.nil,hp⟩
 | x::_::_,_::_::_,.cons hx (.cons h2 q),_=>by
  obtain⟨ys,p,e,h1,h3⟩:=Ec (.cons h2 q) (zC7 _ _);exact⟨x::ys,p,by rw[e];rfl,.cons hx h1,h3⟩
theorem Fe(h:A0E H xs rs)(ne:rs≠[]):∃p,Er xs (-1)=some (.ref p)/\AL H p (rs.getLastD []):=by
 obtain⟨ys,p,rfl,_,hp⟩:=Ec h ne;exact⟨p,IA _ _,hp⟩
theorem A0D.held_in(h:%[|34]):W.held∈W.lefts:=by
 unfold Ta.held;have:=h.ln
 cases e:W.lefts with
 | nil=>exact absurd e this
 | cons x r=>
  rw[List.getLastD_eq_getLast?,List.getLast?_eq_some_getLast (zC7 x r)];exact List.getLast_mem _
theorem A0D.base_in(h:%[|34]):W.base∈W.lefts:=by
 unfold Ta.base;have:=h.ln
 cases e:W.lefts with
 | nil=>exact absurd e this
 | cons x r=>exact List.mem_cons_self
theorem A0D.held_wr(h:%[|34]):Wr W.held:=h.wr.sub (h.wl _ h.held_in)
theorem A0D.base_wr(h:%[|34]):Wr W.base:=h.wr.sub (h.wl _ h.base_in)
theorem A0D.going_wr(h:%[|34]):Wr W.going:=by
 unfold Ta.going;split
 ·exact h.held_wr
 ·exact h.base_wr
section
variable {P:Program}{w:World}{K:PySem.W.Frag}{mg:Str->%[|4]}{bz:Heap}{cK:Addr}
abbrev MQ:Stmt:=AZ (Bu 47) 2
inductive Kh(C:Addr)(vs:List V)(H:Hp)(Q:VK)(E:XK):Prop where
 | mk (a:Addr) (M:%[|6]) (U:Tk) (W:Ta) (_:vs=[.ref a]) (_:%[|34]) (_:∀(l:Addr)(H':Hp),A0B H H'->H l=none->AL H' l W.base->Q (.ref l) H'):Kh C vs H Q E
def U1:=Aw MQ ["self"] 1
theorem Rp(F:%[|37] cK "base" "Talk.base" MQ)(TX:LR K cK)(T:Fz mg):%[|48] "base" AH 1 (Kh cK):=by
 refine F.ok U1 ?_;rintro bz f bp A outer s H _ Q E hr ⟨a,M,U,W,rfl,h,q⟩;refine⟨_,A5 (%[|58] (AM (An AI %[|18] Ad))),?_⟩;obtain⟨p,fz,eA⟩:=Ek h.lr h.ln;exact⟨h.ob,TX.cl,TX.left,Ed,SqL.of h.lf,fz,.inl (SqL.of (Ay _ _ eA)),fun l hl=>q l _ (Ab hl _) hl A0A⟩
abbrev Nb:Stmt:=AZ (Bu 47) 3
inductive Kl(C:Addr)(vs:List V)(H:Hp)(Q:VK)(E:XK):Prop where
 | mk (a:Addr) (M:%[|6]) (U:Tk) (W:Ta) (_:vs=[.ref a]) (_:%[|34]) (_:∀(l:Addr)(H':Hp),A0B H H'->H l=none->AL H' l W.held->Q (.ref l) H'):Kl C vs H Q E
def Vg:=Aw Nb ["self"] 1
theorem SA(F:%[|37] cK "held" "Talk.held" Nb)(TX:LR K cK)(T:Fz mg):%[|48] "held" AH 1 (Kl cK):=by
 refine F.ok Vg ?_;rintro bz f bp A outer s H _ Q E hr ⟨a,M,U,W,rfl,h,q⟩;refine⟨_,A5 (%[|58] (AM (An AI %[|18] (HF EX Ad)))),?_⟩;obtain⟨p,fz,eA⟩:=Fe h.lr h.ln;exact⟨h.ob,TX.cl,TX.left,Ed,_,rfl,SqL.of h.lf,fz,.inl (SqL.of (Ay _ _ eA)),fun l hl=>q l _ (Ab hl _) hl A0A⟩
abbrev K5:Stmt:=AZ (Bu 47) 4
inductive Iw(C:Addr)(vs:List V)(H:Hp)(Q:VK)(E:XK):Prop where
 | mk (a:Addr) (M:%[|6]) (U:Tk) (W:Ta) (_:vs=[.ref a]) (_:%[|34]) (_:∀(l:Addr)(H':Hp),A0B H H'->H l=none->AL H' l W.going->Q (.ref l) H'):Iw C vs H Q E
def RO:=Aw K5 ["self"] 1
theorem P1(F:%[|37] cK "going" "Talk.going" K5)(TX:LR K cK)(GH:%[|48] "held" AH 1 (Kl cK))(GB:%[|48] "base" AH 1 (Kh cK)):%[|48] "going" AH 2 (Iw cK):=by
 refine F.ok RO ?_;rintro bz f bp A outer s H _ Q E hr ⟨a,M,U,W,rfl,h,q⟩
 refine⟨_,Aa (Au (AR AF %[|18] Ae)
   (A5 (DR (pv 0) TX.cl GH hr Al))
   Ak)
  (A5 (DR (pv 0) TX.cl GB hr Al)),?_⟩
 unfold Ta.going at q;refine⟨h.ob,TX.cl,TX.rule,O5,rfl,?_⟩;by_cases c:W.rule="elder"
 ·refine BI (by rw[c]) ?_;rw[if_pos c] at q;exact⟨h.ob,Ve,a,M,U,W,rfl,h,q⟩
 ·refine Bw (fun z=>c (by injection z)) ?_;rw[if_neg c] at q;exact⟨h.ob,Vy,a,M,U,W,rfl,h,q⟩
abbrev NQ:Stmt:=AZ (Bu 47) 8
inductive JU(C:Addr)(vs:List V)(H:Hp)(Q:VK)(E:XK):Prop where
 | mk (a:Addr) (M:%[|6]) (U:Tk) (W:Ta) (_:vs=[.ref a]) (_:%[|34]) (_:Q (.bl W.ended) H):JU C vs H Q E
def V2:=Aw NQ ["self"] 1
theorem Ua(F:%[|37] cK "over" "Talk.over" NQ)(TX:LR K cK):%[|48] "over" AH 1 (JU cK):=by
 refine F.ok V2 ?_;rintro bz f bp A outer s H _ Q E hr ⟨a,M,U,W,rfl,h,q⟩;refine⟨_,A5 %[|18],?_⟩;exact⟨h.ob,TX.cl,TX.ended,Ih,q⟩
end
abbrev MP:Stmt:=AZ (Bu 47) 0
def BY(z:Str):Prop:=z="elder"\/z="newer"
instance(z:Str):Decidable (BY z):=by unfold BY;infer_instance
def OO:List V:=[.str "elder",.str "newer"]
theorem Tn(z:Str):OD (.str z) OO=decide (BY z):=by
 unfold OD OO BY;simp only[zBS,List.any_nil,zCM]
 have e:∀y:Str,MK (.str y) (.str z)=decide (z=y):=fun y=>by
  show (y == z)=decide (z=y);by_cases h:z=y
  ·subst h;simp
  ·rw[decide_eq_false h];exact beq_false_of_ne fun q=>h q.symm
 rw[e,e,zA3];simp only[zBF,decide_eq_true_eq];exact decide_eq_true_iff.symm
def BO(many:Nat)(kind rule:Str)(t:Tr)(room:List Int):Ta:=⟨many,kind,rule,t,room,[],[CP room (AQ kind t room)],false⟩
inductive Hl(C cS cB cN:Addr)(vs:List V)(H:Hp)(Q:VK)(E:XK):Prop where
 | mk (x dx rm:Addr) (many:Nat) (kind rule:Str) (v:V) (t:Tr) (room:List Int) (M:%[|6]) (_:vs=[.ref x,.int many,.ref rm,.str kind,v,.str rule]) (_:H x=some (.ins C dx [])) (_:x∉M) (_:(∀m∈M,H m≠none)) (_:t.At (A6 M H) v) (_:t.ok 5) (_:t.size<=23) (_:many<=5) (_:AL H rm room) (_:Wr room) (_:(¬t.ok many->∀H',But [x] H H'->E (.ref cS) none H')) (_:(t.ok many->¬(BY rule/\BF kind)->∀H',But [x] H H'->E (.ref cB) none H')) (_:(t.ok many->BY rule->BF kind->[]∈AQ kind t room->∀H',But [x] H H'->E (.ref cN) none H')) (_:(t.ok many->BY rule->BF kind->[]∉AQ kind t room->∀(U:Tk)(H':Hp),But [x] H H'->H U.gv=none->H U.lf=none->H U.sp=none->U.sv=v->A0D (x::U.gv::U.lf::M) C H' x U (BO many kind rule t room)->Q .non H')):Hl C cS cB cN vs H Q E
theorem Bq{fs fs':List (Str×V)}{f:Str}(e:BQ f v fs=fs')(b:But [x] H0 H):
  But [x] H0 (upd H x (.ins C dx (BQ f v fs)))/\upd H x (.ins C dx (BQ f v fs)) x=some (.ins C dx fs')/\But [x] H (upd H x (.ins C dx (BQ f v fs))):=
 ⟨b.trans (But.upd %[|2]),A0A.trans (congrArg (fun l=>some (HO.ins C dx l)) e),But.upd %[|2]⟩
theorem Bh{x b:Addr}(h:b≠x):b∉[x]:=by simpa using h
abbrev FB(H:Hp)(x:Addr):List V->List (List Int)->Prop:=Paired fun(v:V)(row:List Int)=>∃p,v= .ref p/\p≠x/\AL H p row
theorem DY{H H':Hp}{x:Addr}{o:HO}(hx:H x=some o):∀{xs:List V}{rs:List (List Int)},A0L H H' xs rs->FB H' x xs rs
 | _,_,.nil=>.nil
 | _,_,.cons ⟨p,e,n,h⟩ q=>.cons ⟨p,e,(Ah hx n).symm,h⟩ (DY hx q)
theorem Gi{H H':Hp}{x:Addr}(b:But [x] H H'):∀{xs:List V}{rs:List (List Int)},FB H x xs rs->FB H' x xs rs
 | _,_,.nil=>.nil
 | _,_,.cons ⟨p,e,n,h⟩ q=>.cons ⟨p,e,n,b.at h (Bh n)⟩ (Gi b q)
theorem E5{H H':Hp}{x:Addr}(b:A0B H H'):∀{xs:List V}{rs:List (List Int)},FB H x xs rs->FB H' x xs rs
 | _,_,.nil=>.nil
 | _,_,.cons ⟨p,e,n,h⟩ q=>.cons ⟨p,e,n,b _ _ h⟩ (E5 b q)
theorem IG{H H':Hp}{x:Addr}(b:But [x] H H'):∀{xs:List V}{rs:List (List Int)},FB H x xs rs->A0E H' xs rs
 | _,_,.nil=>.nil
 | _,_,.cons ⟨p,e,n,h⟩ q=>.cons ⟨p,e,b.at h (Bh n)⟩ (IG b q)
theorem L3{H0 H1 G:Hp}(k:∀p row,H0 p=none->AL H1 p row->AL G p row):∀{xs:List V}{rs:List (List Int)},A0L H0 H1 xs rs->A0E G xs rs
 | _,_,.nil=>.nil
 | _,_,.cons ⟨p,e,n,h⟩ q=>.cons ⟨p,e,k p _ n h⟩ (L3 k q)
section
variable {P:Program}{w:World}{K:PySem.W.Frag}{mg:Str->%[|4]}{bz:Heap}{f:Addr}{cK cS cB cN cT:Addr}
def Vr:=Aw MP ["self","many","room","kind","sentence","rule"] 6
theorem Ug(F:FI P w K mg cK "Talk" "Talk.__init__" MP)(TX:LR K cK)(T:Fz mg)(XB:BE K mg "BadWord" cB cT)(GR:%[|3] "refuse_strange" (Cb P w) 3 (DK cS))(GD:%[|3] "sides_of" (Cb P w) 4 (F7 K cB cN))(GB:%[|3] "base_of" AH 2 (Ms K)):Fi P w K mg cK "Talk" (Cb P w) 5 (Hl cK cS cB cN):=by
 refine F.okX Vr ?_;rintro bz f bp A outer s H _ Q E hr ⟨x,dx,rm,many,kind,rule,v,t,room,M,rfl,hx,nxM,hM,ha,hok,hsz,bP,hrm,hwr,qS,qB,qN,q⟩;have nrx:rm≠x:=AT hrm hx %[|11];have haH:=ha.keep (TS.same Ay);have kt:∀{H1:Hp},But [x] H H1->TS H H1:=fun b p xs e=>b.at e (Bh (AT e hx %[|11]))
 refine⟨_,Aa (As (AA GR hr %[|26] (AS (pv 4) (pv 1))))
  (Aa (Au (Cf Fu (pv 5) (Be (AS Ae Ae)) %[|28])
   (Ai (Bn (Ex:=E) BB rfl XB.cls XB.at_ XB.ty %[|8] XB.m (AM Ae) (hvl:=fun _ _ _ h=>⟨by decide,h⟩)))
   Ak)
  (Aa (Bz (pv 0) (pv 1) rfl)
  (Aa (Bz (pv 0) (pv 3) rfl)
  (Aa (Bz (pv 0) (pv 4) rfl)
  (Aa (Bz (pv 0) (pv 5) rfl)
  (Aa (Bz (pv 0) (%[|58] (AM (pv 2))) rfl)
  (Aa (Bz (pv 0) (AA GD hr %[|26] (Aj (pv 2) (AS (pv 3) (pv 4)))) rfl)
  (Aa (Bz (pv 0) (Av Bi) rfl)
  (Aa (Bz (pv 0) (Av (AM (AA GB hr Al (AM %[|18])))) rfl)
  (Ai (Bz (pv 0) C7 rfl))))))))))),?_⟩
 refine⟨v,t,many,rfl,haH,hok,by omega,fun hn H1 s1=>qS hn H1 (Ag s1),fun cI H1 s1=>?_⟩;refine⟨Cy,fun rt hrt=>?_⟩;have s2:=s1.trans (Ab hrt (.tup [.str "elder",.str "newer"]));refine⟨rt,OO,rfl,.inr (SqT.of A0A),rfl,rfl,?_⟩;show If (!OD (.str rule) OO) _ _;rw[Tn];generalize upd H1 rt _=H2 at *;by_cases dP:BY rule
 rotate_left
 ·exact Tt dP (qB cI (fun z=>dP z.1) _ (Ag s2))
 refine RM dP ?_;have b2:But [x] H H2:=Ag s2;have x2:=s2 _ _ hx;refine⟨x2,TX.cl,TX.many,%[|0],?_⟩;obtain⟨b3,x3,_⟩:=Bq (C:=cK) (dx:=dx) (f:="many") (v:=.int many) (fs:=[]) (fs':=[%[|47]]) %[|28] b2;generalize upd H2 x _=H3 at *;refine⟨x3,TX.cl,TX.kind,(by show 1<1000;decide),?_⟩;obtain⟨b4,x4,_⟩:=Bq (C:=cK) (dx:=dx) (f:="kind") (v:=.str kind) (fs:=[%[|47]]) (fs':=[%[|47],%[|52]]) %[|28] b3;generalize upd H3 x _=H4 at *;refine⟨x4,TX.cl,TX.sentence,(by show 2<1000;decide),?_⟩;obtain⟨b5,x5,_⟩:=Bq (C:=cK) (dx:=dx) (f:="sentence") (v:=v) (fs:=[%[|47],%[|52]]) (fs':=[%[|47],%[|52],("sentence",v)]) %[|28] b4;generalize upd H4 x _=H5 at *;refine⟨x5,TX.cl,TX.rule,(by show 3<1000;decide),?_⟩;obtain⟨b6,x6,_⟩:=Bq (C:=cK) (dx:=dx) (f:="rule") (v:=.str rule) (fs:=[%[|47],%[|52],("sentence",v)]) (fs':=[%[|47],%[|52],("sentence",v),("rule",.str rule)]) %[|28] b5;generalize upd H5 x _=H6 at *;have rm6:=b6.at hrm (Bh nrx);refine⟨.inl (SqL.of rm6),fun sp dw=>?_⟩;have s7:=Ab dw (.lst (room.map V.int));have b7:But [x] H (upd H6 sp (.lst (room.map V.int))):=b6.trans (Ag s7);have x7:=s7 _ _ x6;have sp7:AL (upd H6 sp (.lst (room.map V.int))) sp room:=A0A;have i7:sp≠x:=(Ah x6 dw).symm
 have gY:H sp=none:=by
  cases e:H sp with
  | none=>rfl
  | some o=>rw[b6.at e (Bh i7)] at dw;cases dw
 generalize upd H6 sp _=H7 at *;refine⟨x7,TX.cl,TX.space,(by show 4<1000;decide),?_⟩;obtain⟨b8,x8,c8⟩:=Bq (C:=cK) (dx:=dx) (f:="space") (v:=.ref sp) (fs:=[%[|47],%[|52],("sentence",v),("rule",.str rule)]) (fs':=[%[|47],%[|52],("sentence",v),("rule",.str rule),%[|43]]) %[|28] b7;generalize upd H7 x _=H8 at *;have sp8:=c8.at sp7 (Bh i7);have rm8:=b8.at hrm (Bh nrx);refine⟨rm,kind,v,t,room,rfl,haH.keep (kt b8),hok,by omega,SqL.of rm8,hwr,fun hk H9 s9=>qB cI (fun z=>hk z.2) _ (b8.trans (Ag s9)),fun hk i0 H9 s9=>qN cI dP hk i0 _ (b8.trans (Ag s9)),fun hk i0 pt pxs H9 s9 pt0 pt9 hR9 hne9=>?_⟩;have b9:But [x] H H9:=b8.trans (Ag s9);have x9:=s9 _ _ x8;have npx:pt≠x:=(Ah x8 pt0).symm;refine⟨x9,TX.cl,TX.parts,(by show 5<1000;decide),?_⟩;obtain⟨b10,x10,c10⟩:=Bq (C:=cK) (dx:=dx) (f:="parts") (v:=.ref pt) (fs:=[%[|47],%[|52],("sentence",v),("rule",.str rule),%[|43]]) (fs':=[%[|47],%[|52],("sentence",v),("rule",.str rule),%[|43],("parts",.ref pt)]) %[|28] b9;have e10:A6 [x] (upd H9 x (.ins cK dx (BQ "parts" (.ref pt) [%[|47],%[|52],("sentence",v),("rule",.str rule),%[|43]])))=A6 [x] H9:=Bt %[|2];generalize upd H9 x _=dC at *;have pt10:=c10.at pt9 (Bh npx);have sp10:=c10.at (s9 _ _ sp8) (Bh i7);have R10:A0E dC pxs (AQ kind t room):=IG c10 (DY x8 hR9);refine⟨GQ,fun gv gj=>?_⟩;have fR:=Ab gj (.lst []);have b11:But [x] H (upd dC gv (.lst [])):=b10.trans (Ag fR);have gv11:upd dC gv (.lst []) gv=some (.lst []):=A0A;have x11:=fR _ _ x10;have ngx:gv≠x:=(Ah x10 gj).symm;generalize upd dC gv _=eT at *;refine⟨x11,TX.cl,TX.given,(by show 6<1000;decide),?_⟩;obtain⟨b12,x12,c12⟩:=Bq (C:=cK) (dx:=dx) (f:="given") (v:=.ref gv) (fs:=[%[|47],%[|52],("sentence",v),("rule",.str rule),%[|43],("parts",.ref pt)]) (fs':=[%[|47],%[|52],("sentence",v),("rule",.str rule),%[|43],("parts",.ref pt),("given",.ref gv)]) %[|28] b11;generalize upd eT x _=iB at *;have gv12:=c12.at gv11 (Bh ngx);have pt12:=c12.at (fR _ _ pt10) (Bh npx);have sp12:=c12.at (fR _ _ sp10) (Bh i7)
 have R12:A0E iB pxs (AQ kind t room):=IG c12 (E5 fR (Gi c10 (DY x8 hR9)))
 have bM:EW (AQ kind t room)<64:=by
  have:=Nw (z:=kind) (t:=t) (row:=room);have:=hwr.len;omega
 refine⟨x12,TX.cl,TX.parts,%[|28],pt,pxs,_,rfl,SqL.of pt12,R12,bM,fun bl fS ns cY iC hp hm hbl=>⟨Rg,fun lf d9=>?_⟩⟩;have en:=RA hwr (fun s hs=>FC hs) hp hm;subst en;have dB:=cY.trans (Ab d9 (.lst [.ref bl]));have bl14:=Ab d9 (.lst [.ref bl]) _ _ hbl;have lf14:upd fS lf (.lst [.ref bl]) lf=some (.lst [.ref bl]):=A0A;have fF:iB lf=none:=cY.free d9;generalize upd fS lf _=eV at *;have x14:=dB _ _ x12;have b14:But [x] H eV:=b12.trans (Ag dB);have nlx:lf≠x:=(Ah x12 fF).symm;have nbx:bl≠x:=(Ah x12 iC).symm;refine⟨x14,TX.cl,TX.left,(by show 7<1000;decide),?_⟩;obtain⟨b15,x15,c15⟩:=Bq (C:=cK) (dx:=dx) (f:="left") (v:=.ref lf) (fs:=[%[|47],%[|52],("sentence",v),("rule",.str rule),%[|43],("parts",.ref pt),("given",.ref gv)]) (fs':=[%[|47],%[|52],("sentence",v),("rule",.str rule),%[|43],("parts",.ref pt),("given",.ref gv),("left",.ref lf)]) %[|28] b14;generalize upd eV x _=H15 at *;refine⟨x15,TX.cl,TX.ended,(by show 8<1000;decide),?_⟩;obtain⟨b16,x16,c16⟩:=Bq (C:=cK) (dx:=dx) (f:="ended") (v:=.bl false) (fs:=[%[|47],%[|52],("sentence",v),("rule",.str rule),%[|43],("parts",.ref pt),("given",.ref gv),("left",.ref lf)]) (fs':=[%[|47],%[|52],("sentence",v),("rule",.str rule),%[|43],("parts",.ref pt),("given",.ref gv),("left",.ref lf),("ended",.bl false)]) %[|28] b15;generalize upd H15 x _=H16 at *;have iD:But [x] eV H16:=c15.trans c16;have gv16:=iD.at (dB _ _ gv12) (Bh ngx);have lf16:=iD.at lf14 (Bh nlx);have bl16:=iD.at bl14 (Bh nbx);have pt16:=iD.at (dB _ _ pt12) (Bh npx);have sp16:=iD.at (dB _ _ sp12) (Bh i7);have ngl:gv≠lf:=Ah gv12 fF
 have gv0:H gv=none:=by
  cases e:H gv with
  | none=>rfl
  | some o=>rw[b10.at e (Bh ngx)] at gj;cases gj
 have lf0:H lf=none:=by
  cases e:H lf with
  | none=>rfl
  | some o=>rw[b12.at e (Bh nlx)] at fF;cases fF
 have pt0':H pt=none:=by
  cases e:H pt with
  | none=>rfl
  | some o=>rw[b8.at e (Bh npx)] at pt0;cases pt0
 have bl0:H bl=none:=by
  cases e:H bl with
  | none=>rfl
  | some o=>rw[b12.at e (Bh nbx)] at iC;cases iC
 have nM:∀{b:Addr},H b=none->b∉M:=fun e z=>hM _ z e
 have n3:∀{b:Addr},b≠x->b≠gv->b≠lf->H b=none->b∉x::gv::lf::M:=fun e1 e2 e3 e4 z=>by
  rcases List.mem_cons.mp z with q1 | q1
  ·exact e1 q1
  ·rcases List.mem_cons.mp q1 with q2 | q2
   ·exact e2 q2
   ·rcases List.mem_cons.mp q2 with q3 | q3
    ·exact e3 q3
    ·exact nM e4 q3
 have nsg:sp≠gv:=Ah sp10 gj;have nsl:sp≠lf:=Ah sp12 fF;have npg:pt≠gv:=Ah pt10 gj;have npl:pt≠lf:=Ah pt12 fF;have nbg:bl≠gv:=(Ah gv12 iC).symm;have nbl:bl≠lf:=Ah hbl d9
 have hR16:A0E (A6 (x::gv::lf::M) H16) pxs (AQ kind t room):=L3 (fun p row h1 h2=>by
  have i8:p≠x:=(Ah x8 h1).symm
  have p10:=c10.at h2 (Bh i8)
  have p0:H p=none:=by
   cases e:H p with
   | none=>rfl
   | some o=>rw[b8.at e (Bh i8)] at h1;cases h1
  have p12:=c12.at (fR _ _ p10) (Bh i8)
  exact AW (iD.at (dB _ _ p12) (Bh i8)) (n3 i8 (Ah p10 gj) (Ah p12 fF) p0)) hR9
 refine q cI dP hk i0 ⟨dx,sp,pt,gv,lf,v,pxs,[],[.ref bl]⟩ H16 b16 gv0 lf0 gY rfl ⟨x16,gv16,lf16,by simp,by simp,by simp,ngl,AW sp16 (n3 i7 nsg nsl gY),?_,AW pt16 (n3 npx npg npl pt0'),hR16,.nil,.cons ⟨bl,rfl,AW bl16 (n3 nbx nbg nbl bl0)⟩ .nil,hwr,fun l hl=>?_,zC7 _ _,by show 1<=900;decide,by show 0<=900;decide,cI,bP,hsz,hk,i0,dP⟩
 ·refine ha.keep fun p xs e=>?_
  obtain⟨e1,e2⟩:=Bg e;have i8:p≠x:=AT e1 hx %[|11];refine AW (b16.at e1 (Bh i8)) fun z=>?_
  rcases List.mem_cons.mp z with q1 | q1
  ·exact i8 q1
  ·rcases List.mem_cons.mp q1 with q2 | q2
   ·rw[q2,gv0] at e1;cases e1
   ·rcases List.mem_cons.mp q2 with q3 | q3
    ·rw[q3,lf0] at e1;cases e1
    ·exact e2 q3
 ·rw[List.mem_singleton.mp hl];exact Ti
end
theorem CN(hx:H x=none)(hd:H dx=none)(ne:dx≠x)(b:But [x] (upd (upd H dx (.own x)) x (.ins C dx [])) H'):A0B H H':=by
 refine But.same (M:=[x]) (fun m hm=>by rw[List.mem_singleton.mp hm];exact hx) ?_ b;have s1:=Ab hd (.own x);exact s1.trans (Ab (by rw[Af ne.symm];exact hx) _)
theorem B3{H:Hp}{x dx C b:Addr}{o:HO}(h:upd (upd H dx (.own x)) x o b=none):H b=none/\b≠x/\b≠dx:=by
 by_cases e:b=x
 ·rw[e,A0A] at h;cases h
 ·rw[Af e] at h;by_cases e2:b=dx
  ·rw[e2,A0A] at h;cases h
  ·rw[Af e2] at h;exact⟨h,e,e2⟩
theorem TM:Cn (Cb P w) X E0:=fun _ _ _ _ _ _ _ h=>by
 obtain⟨_,_,_,_,_,_,_,_,_,_,_,_,_,_,_,q⟩:=h;exact q.elim
section
variable {X:Cx}
end
def CA(W:Ta)(seen:List Int)(t:Tr):Str:=if W.ended=true then Bs seen (%[|12] W.room) else CF W.sides W.going seen (%[|12] W.room)
theorem A0D.two(h:%[|34]):W.sides.length<=2:=by
 unfold Ta.sides;rcases P8 (z:=W.kind) (t:=W.t) (row:=W.room) with⟨x,e⟩|⟨x,y,e⟩<;>rw[e]<;>simp
theorem OC(h:Wr room):Wr (AC b t room):=h.sub zAO
abbrev TJ:Stmt:=AZ (Bu 47) 9
inductive M6(K:PySem.W.Frag)(C cS:Addr)(vs:List V)(H:Hp)(Q:VK)(E:XK):Prop where
 | mk (a sn:Addr) (v:V) (M:%[|6]) (U:Tk) (W:Ta) (t:Tr) (seen:List Int) (_:vs=[.ref a,v,.ref sn]) (_:%[|34]) (_:t.At H v) (_:t.ok 5) (_:t.size<=60) (_:SqL K H sn (seen.map V.int)) (_:Wr seen) (_:seen≠[]) (_:(¬t.ok W.many->∀H',A0B H H'->E (.ref cS) none H')) (_:(t.ok W.many->∀H',A0B H H'->Q (.str (CA W seen t)) H')):M6 K C cS vs H Q E
section
variable {P:Program}{w:World}{K:PySem.W.Frag}{mg:Str->%[|4]}{cK cS cO cT:Addr}
def scTAsk:=Aw TJ ["self","sentence","seen","worlds"] 3
theorem V6(F:%[|37] cK "ask" "Talk.ask" TJ)(TX:LR K cK)(GR:%[|3] "refuse_strange" (Cb P w) 3 (DK cS))(GW:%[|3] "worlds_of" AH 3 (B1 K))(GP:%[|3] "plain" AH 3 (DZ K))(GA:%[|3] "answer" AH 5 (FA K))(G1:%[|48] "going" AH 2 (Iw cK)):%[|48] "ask" (Cb P w) 6 (M6 K cK cS):=by
 refine F.okX scTAsk ?_;rintro bz f bp A outer s H _ Q E hr ⟨a,sn,v,M,U,W,t,seen,rfl,hT,ha,dr,hsz,hN,wN,nne,qE,q⟩
 refine⟨_,Aa (As (AA GR hr %[|26] (AS (pv 1) %[|18])))
  (Aa (Az 3 scTAsk.nd (AA GW hr Al (AS (pv 1) %[|18])))
  (Aa (Au (BS %[|18] (fun _=>rfl))
   (A5 (AA GP hr Al (AS (pv 2) (pv 3))))
   Ak)
  (A5 (AA GA hr Al (Aj %[|18] (Aj (DR (pv 0) TX.cl G1 hr Al) (AS (pv 2) (pv 3)))))))),?_⟩
 refine⟨hT.ob,TX.cl,TX.many,PF,v,t,W.many,rfl,ha,dr,hsz,qE,fun cI H1 s1=>?_⟩;have q:=q cI;have T1:=hT.keep s1;refine⟨T1.ob,TX.cl,TX.space,Hy,v,t,U.sp,W.room,rfl,ha.keep (TS.same s1),dr,by omega,SqL.of (Ay _ _ T1.room),hT.wr,fun wl H2 s2 iz dG=>?_⟩;have T2:=T1.keep s2;have t2:=s1.trans s2;have dG:AL H2 wl (%[|12] W.room):=dG;have wwl:Wr (%[|12] W.room):=OC hT.wr;refine⟨T2.ob,TX.cl,TX.ended,Ih,_,rfl,?_⟩;unfold CA at q
 cases he:W.ended with
 | true=>
  refine AB ?_;rw[he,if_pos rfl] at q;exact⟨sn,wl,seen,_,rfl,t2.seq hN,wN,nne,SqL.of dG,wwl,fun H3 s3=>q _ (t2.trans s3)⟩
 | false=>
  refine Aq ?_;rw[he,if_neg zAF] at q;refine⟨T2.ob,TX.cl,TX.parts,SC,T2.ob,RN,a,M,U,W,rfl,T2,fun gl H3 s3 hgl0 hgl=>?_⟩;have T3:=T2.keep s3;have t3:=t2.trans s3;exact⟨U.pt,gl,sn,wl,U.pxs,W.sides,W.going,seen,_,rfl,Ay _ _ T3.pt,T3.sd.keep Ay,T3.ws,T3.two,SqL.of hgl,T3.going_wr,t3.seq hN,wN,nne,SqL.of (s3 _ _ dG),wwl,fun H4 s4=>q _ (t3.trans s4)⟩
end
abbrev IN:Stmt:=Bu 48
inductive Dj(C cO:Addr)(vs:List V)(H:Hp)(Q:VK)(E:XK):Prop where
 | mk (a:Addr) (M:%[|6]) (U:Tk) (W:Ta) (_:vs=[.ref a]) (_:%[|34]) (_:(W.ended=true->E (.ref cO) none H)) (_:(W.ended=false->Q .non H)):Dj C cO vs H Q E
section
variable {P:Program}{w:World}{K:PySem.W.Frag}{mg:Str->%[|4]}{cK cS cO cT:Addr}
def P0:=Aw IN ["talk"] 1
theorem M5(F:%[|9] "refuse_over" IN)(TX:LR K cK)(XO:BE K mg "TalkOver" cO cT)(G1:%[|48] "over" AH 1 (JU cK)):%[|3] "refuse_over" (Cb P w) 2 (Dj cK cO):=by
 refine F.okX P0 ?_;rintro bz f bp A outer s H _ Q E hr ⟨a,M,U,W,rfl,hT,qE,q⟩
 refine⟨_,Ai (Au (Bv (DR (pv 0) TX.cl G1 hr Al))
   (Ai (Bn (Ex:=E) BB rfl XO.cls XO.at_ XO.ty %[|8] XO.m (AM Ae) (hvl:=fun _ _ _ h=>⟨by decide,h⟩)))
   Ak),?_⟩
 refine⟨hT.ob,U7,a,M,U,W,rfl,hT,?_⟩
 cases he:W.ended with
 | true=>exact AB (qE he)
 | false=>exact Aq (q he)
end
def Gu(W:Ta)(v:V)(t:Tr)(word:Str):Ta:={ W with ents:=W.ents++[(v,t,word)],lefts:=W.lefts++[CZ word W.held (%[|12] W.room)] }
theorem A0K.snoc{H:Hp}{v:V}{e:V×Tr×Str}(h:∃p,v= .ref p/\H p=some (.tup [e.1,.str e.2.2])/\e.2.1.At H e.1):∀{xs:List V}{es:List (V×Tr×Str)},A0K H xs es->A0K H (xs++[v]) (es++[e])
 | _,_,.nil=>.cons h .nil
 | _,_,.cons x q=>.cons x (A0K.snoc h q)
theorem A0K.len(h:A0K H xs es):xs.length=es.length:=zB0 h
theorem Gp{H:Hp}{v:V}{row:List Int}(h:∃p,v= .ref p/\AL H p row):∀{xs:List V}{rs:List (List Int)},A0E H xs rs->A0E H (xs++[v]) (rs++[row])
 | _,_,.nil=>.cons h .nil
 | _,_,.cons x q=>.cons x (Gp h q)
theorem SR(z:Str)(g r:List Int):(CZ z g r).Sublist g:=by
 unfold CZ N9 EL;split
 ·exact zAO
 ·split
  ·exact zAO
  ·exact zBZ _
section
variable {M:%[|6]}{C:Addr}{H H':Hp}{a:Addr}{U:Tk}{W:Ta}
theorem A0D.a_gv(h:%[|34]):a≠U.gv:=AT h.ob h.gv %[|11]
theorem A0D.a_lf(h:%[|34]):a≠U.lf:=AT h.ob h.lf %[|11]
theorem A0D.gave(h:%[|34])(hp:A6 M H p=some (.tup [v,.str word]))(ha:t.At (A6 M H) v)(hl:W.ents.length<900):
  A0D M C (upd H U.gv (.lst (U.ges++[.ref p]))) a { U with ges:=U.ges++[.ref p] } { W with ents:=W.ents++[(v,t,word)] }:=by
 have e:=Bt (H:=H) (o:=.lst (U.ges++[.ref p])) h.mg;refine⟨by rw[Af h.a_gv];exact h.ob,A0A,by rw[Af h.ne.symm];exact h.lf,h.ma,h.mg,h.ml,h.ne,?_,?_,?_,?_,?_,?_,h.wr,h.wl,h.ln,h.l9,?_,h.tok,h.m5,h.tsz,h.kd,h.ns,h.rl⟩
 ·show AL (A6 M (upd H U.gv _)) _ _;rw[e];exact h.room
 ·show Tr.At (A6 M (upd H U.gv _)) _ _;rw[e];exact h.tr
 ·show A6 M (upd H U.gv _) _=_;rw[e];exact h.pt
 ·show A0E (A6 M (upd H U.gv _)) _ _;rw[e];exact h.sd
 ·show A0K (A6 M (upd H U.gv _)) _ _;rw[e];exact h.en.snoc ⟨p,rfl,hp,ha⟩
 ·show A0E (A6 M (upd H U.gv _)) _ _;rw[e];exact h.lr
 ·show (W.ents++[(v,t,word)]).length<=900;rw[zA];exact hl
theorem A0D.gone(h:%[|34])(hp:AL (A6 M H) l row)(hs:row.Sublist W.room)(hl:W.lefts.length<900):
  A0D M C (upd H U.lf (.lst (U.lfs++[.ref l]))) a { U with lfs:=U.lfs++[.ref l] } { W with lefts:=W.lefts++[row] }:=by
 have e:=Bt (H:=H) (o:=.lst (U.lfs++[.ref l])) h.ml;refine⟨by rw[Af h.a_lf];exact h.ob,by rw[Af h.ne];exact h.gv,A0A,h.ma,h.mg,h.ml,h.ne,?_,?_,?_,?_,?_,?_,h.wr,?_,?_,?_,h.e9,h.tok,h.m5,h.tsz,h.kd,h.ns,h.rl⟩
 ·show AL (A6 M (upd H U.lf _)) _ _;rw[e];exact h.room
 ·show Tr.At (A6 M (upd H U.lf _)) _ _;rw[e];exact h.tr
 ·show A6 M (upd H U.lf _) _=_;rw[e];exact h.pt
 ·show A0E (A6 M (upd H U.lf _)) _ _;rw[e];exact h.sd
 ·show A0K (A6 M (upd H U.lf _)) _ _;rw[e];exact h.en
 ·show A0E (A6 M (upd H U.lf _)) _ _;rw[e];exact Gp ⟨l,rfl,hp⟩ h.lr
 ·intro x hx;rcases List.mem_append.mp hx with z | z
  ·exact h.wl x z
  ·rw[List.mem_singleton.mp z];exact hs
 ·show W.lefts++[row]≠[];simp
 ·show (W.lefts++[row]).length<=900;rw[zA];exact hl
end
abbrev SN:Stmt:=AZ (Bu 47) 10
inductive NN(K:PySem.W.Frag)(C cS cO:Addr)(vs:List V)(H:Hp)(Q:VK)(E:XK):Prop where
 | mk (a sn:Addr) (v:V) (M:%[|6]) (U:Tk) (W:Ta) (t:Tr) (seen:List Int) (_:vs=[.ref a,v,.ref sn]) (_:%[|34]) (_:(∀m∈M,H m≠none)) (_:t.At (A6 M H) v) (_:t.ok 5) (_:t.size<=60) (_:SqL K H sn (seen.map V.int)) (_:Wr seen) (_:seen≠[]) (_:W.ents.length<900) (_:W.lefts.length<900) (_:(W.ended=true->∀H',A0B H H'->E (.ref cO) none H')) (_:(W.ended=false->¬t.ok W.many->∀H',A0B H H'->E (.ref cS) none H')) (_:(W.ended=false->t.ok W.many->∀(U':Tk)(H':Hp),But [U.gv,U.lf] H H'->U'.gv=U.gv->U'.lf=U.lf->(∀b,H b≠none->H' b≠none)->A0D M C H' a U' (Gu W v t (CA W seen t))->Q (.str (CA W seen t)) H')):NN K C cS cO vs H Q E
section
variable {P:Program}{w:World}{K:PySem.W.Frag}{mg:Str->%[|4]}{cK cS cO cT:Addr}
def scTSay:=Aw SN ["self","sentence","seen","word"] 3
theorem UT(F:%[|37] cK "say" "Talk.say" SN)(TX:LR K cK)(GO:%[|3] "refuse_over" (Cb P w) 2 (Dj cK cO))(G1:%[|48] "ask" (Cb P w) 6 (M6 K cK cS))(GL:%[|3] "left_by" AH 2 (JR K))(GW:%[|3] "worlds_of" AH 3 (B1 K)):%[|48] "say" (Cb P w) 7 (NN K cK cS cO):=by
 refine F.okX scTSay ?_;rintro bz f bp A outer s H _ Q E hr ⟨a,sn,v,M,U,W,t,seen,rfl,hT,hM,ha,dr,hsz,hN,wN,nne,le,ll,qO,qS,q⟩
 refine⟨_,Aa (As (AA GO hr %[|26] (AM (pv 0))))
  (Aa (Az 3 scTSay.nd (Ct (pv 0) TX.cl G1 hr %[|26] (AS (pv 1) (pv 2))))
  (Aa (As (A7 %[|18] (AM (Be (AS (pv 1) (pv 3))))))
  (Aa (As (A7 %[|18] (AM (AA GL hr Al (Aj (pv 3) (AS (An AI %[|18] (HF EX Ad)) (AA GW hr Al (AS (pv 1) %[|18]))))))))
  (A5 (pv 3))))),?_⟩
 refine⟨a,M,U,W,rfl,hT,fun he=>qO he _ (A0B.refl _),fun he=>?_⟩;have haH:=ha.keep (TS.same Ay);refine⟨hT.ob,YC,a,sn,v,M,U,W,t,seen,rfl,hT,haH,dr,hsz,hN,wN,nne,fun hn H' s'=>qS he hn H' s',fun cI H2 s2=>?_⟩;have q:=q he cI;generalize CA W seen t=word at *;have T2:=hT.keep s2;refine⟨T2.ob,TX.cl,TX.given,Fo,.inl ⟨rfl,_,SqL.of T2.gv⟩,Cy,fun p hp=>?_⟩;have s3:=Ab hp (.tup [v,.str word]);have p3:upd H2 p (.tup [v,.str word]) p=some (.tup [v,.str word]):=A0A;have T3:=T2.keep s3;have p0:H p=none:=s2.free hp;have pM:p∉M:=fun z=>hM p z p0
 have t3:=s2.trans s3;generalize upd H2 p _=H3 at *;have hgl:U.ges.length=W.ents.length:=T3.en.len;refine⟨T3.gv,Ar %[|1],?_⟩;have T4:=T3.gave (AW p3 pM) (ha.keep (TS.same (Ag t3))) le;have b4:But [U.gv,U.lf] H (upd H3 U.gv (.lst (U.ges++[.ref p]))):=A0B.trans (Ag t3) (But.upd %[|2])
 have k4:∀b,H3 b≠none->upd H3 U.gv (.lst (U.ges++[.ref p])) b≠none:=fun b hb=>by
  by_cases c:b=U.gv
  ·rw[c,A0A];exact fun z=>by cases z
  ·rw[Af c];exact hb
 have ts4:TS H3 (upd H3 U.gv (.lst (U.ges++[.ref p]))):=TS.lst T3.gv;generalize upd H3 U.gv _=H4 at *;have lf4:H4 U.lf=some (.lst U.lfs):=T4.lf;obtain⟨hl,cx,bM⟩:=Fe T4.lr T4.ln;refine⟨T4.ob,TX.cl,TX.left,Ed,.inl ⟨rfl,_,SqL.of lf4⟩,?_⟩;refine⟨T4.ob,TX.cl,TX.left,Ed,_,rfl,SqL.of lf4,cx,?_⟩;refine⟨T4.ob,TX.cl,TX.space,Hy,v,t,U.sp,W.room,rfl,(haH.keep (TS.same t3)).keep ts4,dr,by omega,SqL.of (Ay _ _ T4.room),hT.wr,fun wl H5 s5 iz dG=>?_⟩;have T5:=T4.keep s5;have dG:AL H5 wl (%[|12] W.room):=dG;have wwl:Wr (%[|12] W.room):=OC hT.wr;have lwl:=wwl.len;refine⟨word,hl,wl,W.held,_,rfl,SqL.of (s5 _ _ (Ay _ _ bM)),hT.held_wr,SqL.of dG,by omega,fun l H6 s6 d5 hl6=>?_⟩;have T6:=T5.keep s6;have hll:U.lfs.length=W.lefts.length:=T6.lr.len;refine⟨T6.lf,Ar (show U.lfs.length<=1000 by omega),?_⟩;have l4:H4 l=none:=s5.free d5
 have lM:l∉M:=fun z=>by
  have h3:H3 l≠none:=fun z3=>hM l z (t3.free z3)
  exact k4 l h3 l4
 have T7:=T6.gone (AW hl6 lM) ((SR _ _ _).trans (hT.wl _ hT.held_in)) ll;have b7:But [U.gv,U.lf] H (upd H6 U.lf (.lst (U.lfs++[.ref l]))):=A0B.trans b4 (A0B.trans (Ag (s5.trans s6)) (But.upd %[|2]))
 have k7:∀b,H b≠none->upd H6 U.lf (.lst (U.lfs++[.ref l])) b≠none:=fun b hb=>by
  by_cases c:b=U.lf
  ·rw[c,A0A];exact fun z=>by cases z
  ·rw[Af c];have h3:H3 b≠none:=fun z3=>hb (t3.free z3)
   exact fun z6=>k4 b h3 ((s5.trans s6).free z6)
 refine ?_;exact q { U with ges:=U.ges++[.ref p],lfs:=U.lfs++[.ref l] } _ b7 rfl rfl k7 T7
end
theorem A0K.last{H:Hp}:∀{xs:List V}{es:List (V×Tr×Str)},A0K H xs es->es≠[]->∃ys p e,xs=ys++[.ref p]/\A0K H ys es.dropLast/\es.getLast? = some e/\H p=some (.tup [e.1,.str e.2.2])/\e.2.1.At H e.1
 | _,_,.nil,ne=>absurd rfl ne
 | [_],[e],.cons ⟨p,rfl,hp,ha⟩ .nil,_=>⟨[],p,e,rfl,.nil,rfl,hp,ha⟩
 | x::_::_,_::_::_,.cons hx (.cons h2 q),_=>by
  obtain⟨ys,p,e,e1,h1,h3,h4,h5⟩:=A0K.last (.cons h2 q) (zC7 _ _);exact⟨x::ys,p,e,by rw[e1];rfl,.cons hx h1,by rw[List.getLast?_cons_cons];exact h3,h4,h5⟩
section
variable {M N:%[|6]}{C:Addr}{H H':Hp}{a:Addr}{U:Tk}{W:Ta}
theorem A0D.cutmore(h:%[|34])(s:A0B H H')(hn:∀n∈N,H n=none):A0D (N++M) C H' a U W:=by
 have k:A0B (A6 M H) (A6 (N++M) H'):=fun p u e=>by
  obtain⟨e1,e2⟩:=Bg e;refine AW (s _ _ e1) fun z=>?_
  rcases List.mem_append.mp z with q | q
  ·rw[hn p q] at e1;cases e1
  ·exact e2 q
 exact⟨s _ _ h.ob,s _ _ h.gv,s _ _ h.lf,zAG _ h.ma,zAG _ h.mg,zAG _ h.ml,h.ne,k _ _ h.room,h.tr.keep (TS.same k),k _ _ h.pt,h.sd.keep k,h.en.keep k,h.lr.keep k,h.wr,h.wl,h.ln,h.l9,h.e9,h.tok,h.m5,h.tsz,h.kd,h.ns,h.rl⟩
def Dl(W:Ta):Ta:={ W with ents:=W.ents.dropLast,lefts:=W.lefts.dropLast }
theorem A0D.backed(h:%[|34])(hb:But [U.gv,U.lf] H H')(h1:H' U.gv=some (.lst gs))(h2:H' U.lf=some (.lst ls))(he:A0K (A6 M H) gs W.ents.dropLast)(hl:A0E (A6 M H) ls W.lefts.dropLast)(hn:W.lefts.dropLast≠[]):
  A0D M C H' a { U with ges:=gs,lfs:=ls } (Dl W):=by
 have k:A0B (A6 M H) (A6 M H'):=But.wide (fun m hm=>by
  simp only[zAC,zAA,or_false] at hm
  rcases hm with rfl | rfl
  ·exact h.mg
  ·exact h.ml) hb
 have ob:=hb.at h.ob (by
  simp only[zAC,zAA,or_false,not_or]
  exact⟨h.a_gv,h.a_lf⟩)
 exact⟨ob,h1,h2,h.ma,h.mg,h.ml,h.ne,k _ _ h.room,h.tr.keep (TS.same k),k _ _ h.pt,h.sd.keep k,he.keep k,hl.keep k,h.wr,fun l hl=>h.wl l (List.dropLast_subset _ hl),hn,by
  show W.lefts.dropLast.length<=900
  rw[zBQ]
  have:=h.l9
  omega,by
  show W.ents.dropLast.length<=900
  rw[zBQ]
  have:=h.e9
  omega,h.tok,h.m5,h.tsz,h.kd,h.ns,h.rl⟩
end
abbrev NZ:Stmt:=AZ (Bu 47) 11
inductive KZ(C cO cG:Addr)(vs:List V)(H:Hp)(Q:VK)(E:XK):Prop where
 | mk (a:Addr) (M:%[|6]) (U:Tk) (W:Ta) (_:vs=[.ref a]) (_:%[|34]) (_:W.lefts.length=W.ents.length+1) (_:(W.ended=true->E (.ref cO) none H)) (_:(W.ended=false->W.ents=[]->E (.ref cG) none H)) (_:(W.ended=false->W.ents≠[]->∀(p:Addr)(e:V×Tr×Str)(U':Tk)(H':Hp),But [U.gv,U.lf] H H'->U'.gv=U.gv->U'.lf=U.lf->(∀b,H b≠none->H' b≠none)->W.ents.getLast? = some e->A6 M H p=some (.tup [e.1,.str e.2.2])->e.2.1.At (A6 M H) e.1->A0D M C H' a U' (Dl W)->Q (.ref p) H')):KZ C cO cG vs H Q E
section
variable {P:Program}{w:World}{K:PySem.W.Frag}{mg:Str->%[|4]}{cK cS cO cG cT:Addr}
def VP:=Aw NZ ["self"] 1
theorem Ro(F:%[|37] cK "back" "Talk.back" NZ)(TX:LR K cK)(XG:BE K mg "NothingSaid" cG cT)(GO:%[|3] "refuse_over" (Cb P w) 2 (Dj cK cO)):%[|48] "back" (Cb P w) 3 (KZ cK cO cG):=by
 refine F.okX VP ?_;rintro bz f bp A outer s H _ Q E hr ⟨a,M,U,W,rfl,hT,bo,qO,qG,q⟩
 refine⟨_,Aa (As (AA GO hr %[|26] (AM (pv 0))))
  (Aa (Au (CB (BS %[|18] (fun _=>rfl)))
   (Ai (Bn (Ex:=E) BB rfl XG.cls XG.at_ XG.ty %[|8] XG.m (AM Ae) (hvl:=fun _ _ _ h=>⟨by decide,h⟩)))
   Ak)
  (Aa (As (B7 %[|18]))
  (A5 (B7 %[|18])))),?_⟩
 refine⟨a,M,U,W,rfl,hT,qO,fun he=>?_⟩;refine⟨hT.ob,TX.cl,TX.given,Fo,_,.inl ⟨U.ges,SqL.of hT.gv,rfl⟩,?_⟩;by_cases hE:W.ents=[]
 ·have ge:U.ges=[]:=Lz (hE ▸ hT.en);rw[ge];exact AB (qG he hE)
 obtain⟨gs,p,e,eg,hE2,eW,hp,hpa⟩:=A0K.last hT.en hE;obtain⟨ls,l,el,hL2,hl⟩:=Ec hT.lr hT.ln;have nemp:(!(!U.ges.isEmpty))=false:=by rw[eg];simp
 rw[nemp];refine Aq ?_;have d9:=hT.lf;rw[el] at d9;refine⟨hT.ob,TX.cl,TX.left,Ed,.inl ⟨rfl,_,SqL.of d9⟩,d9,Cq _ _,?_⟩;have nag:=hT.a_gv;have nal:=hT.a_lf;have ob1:upd H U.lf (.lst (ls++[V.ref l]).dropLast) a=some (.ins cK U.dx (Dk U W)):=by rw[Af nal];exact hT.ob
 have gv1:upd H U.lf (.lst (ls++[V.ref l]).dropLast) U.gv=some (.lst (gs++[.ref p])):=by rw[Af hT.ne,hT.gv,eg]
 refine⟨ob1,TX.cl,TX.given,Fo,.inl ⟨rfl,_,SqL.of gv1⟩,gv1,Cq _ _,?_⟩;have b2:But [U.gv,U.lf] H (upd (upd H U.lf (.lst (ls++[V.ref l]).dropLast)) U.gv (.lst (gs++[V.ref p]).dropLast)):=A0B.trans (But.upd %[|2]) (But.upd %[|2]);have lg:W.ents.length≠0:=fun z=>hE (List.length_eq_zero_iff.mp z)
 have ldl:W.lefts.dropLast≠[]:=fun z=>by
  have:=congrArg List.length z;rw[zBQ,bo] at this;have h0:W.ents.length+1-1=0:=this;omega
 refine q he hE p e { U with ges:=gs,lfs:=ls } _ b2 rfl rfl (fun b hb=>?_) eW hp hpa (hT.backed b2 ?_ ?_ hE2 hL2 ldl)
 ·by_cases c1:b=U.gv
  ·rw[c1,A0A];exact fun z=>by cases z
  ·rw[Af c1];by_cases c2:b=U.lf
   ·rw[c2,A0A];exact fun z=>by cases z
   ·rw[Af c2];exact hb
 ·rw[A0A,zAY]
 ·rw[Af hT.ne.symm,A0A,zAY]
end
abbrev RH:Stmt:=AZ (Bu 47) 13
def Im(W:Ta):Ta:={ W with ended:=true }
inductive Nf(C cO:Addr)(vs:List V)(H:Hp)(Q:VK)(E:XK):Prop where
 | mk (a:Addr) (M:%[|6]) (U:Tk) (W:Ta) (_:vs=[.ref a]) (_:%[|34]) (_:(W.ended=true->E (.ref cO) none H)) (_:(W.ended=false->∀(H':Hp),But [a] H H'->A0D M C H' a U (Im W)->Q .non H')):Nf C cO vs H Q E
section
variable {P:Program}{w:World}{K:PySem.W.Frag}{mg:Str->%[|4]}{cK cS cO cG cT:Addr}
def W6:=Aw RH ["self"] 1
theorem VC(F:%[|37] cK "end" "Talk.end" RH)(TX:LR K cK)(GO:%[|3] "refuse_over" (Cb P w) 2 (Dj cK cO)):%[|48] "end" (Cb P w) 3 (Nf cK cO):=by
 refine F.okX W6 ?_;rintro bz f bp A outer s H _ Q E hr ⟨a,M,U,W,rfl,hT,qO,q⟩
 refine⟨_,Aa (As (AA GO hr %[|26] (AM (pv 0))))
  (Ai (Bz (pv 0) C7 rfl)),?_⟩
 refine⟨a,M,U,W,rfl,hT,qO,fun he=>?_⟩;refine⟨hT.ob,TX.cl,TX.ended,(by show 9<1000;decide),?_⟩;have e:BQ "ended" (.bl true) (Dk U W)=Dk U (Im W):=by with_unfolding_all rfl
 have eu:A6 M (upd H a (.ins cK U.dx (BQ "ended" (.bl true) (Dk U W))))=A6 M H:=Bt hT.ma;refine q he _ (But.upd %[|2]) ⟨A0A.trans (congrArg (fun l=>some (HO.ins cK U.dx l)) e),by rw[Af hT.a_gv.symm];exact hT.gv,by rw[Af hT.a_lf.symm];exact hT.lf,hT.ma,hT.mg,hT.ml,hT.ne,?_,?_,?_,?_,?_,?_,hT.wr,hT.wl,hT.ln,hT.l9,hT.e9,hT.tok,hT.m5,hT.tsz,hT.kd,hT.ns,hT.rl⟩
 ·rw[eu];exact hT.room
 ·rw[eu];exact hT.tr
 ·rw[eu];exact hT.pt
 ·rw[eu];exact hT.sd
 ·rw[eu];exact hT.en
 ·rw[eu];exact hT.lr
end
abbrev Om:Stmt:=AZ (Bu 47) 12
inductive Lc(C:Addr)(vs:List V)(H:Hp)(Q:VK)(E:XK):Prop where
 | mk (a:Addr) (M:%[|6]) (U:Tk) (W:Ta) (_:vs=[.ref a]) (_:%[|34]) (_:(∀m∈M,H m≠none)) (_:∀(b:Addr)(U':Tk)(H':Hp),A0B H H'->H b=none->H U'.gv=none->H U'.lf=none->A0D (b::U'.gv::U'.lf::M) C H' b U' W->Q (.ref b) H'):Lc C vs H Q E
section
variable {P:Program}{w:World}{K:PySem.W.Frag}{mg:Str->%[|4]}{cK cS cO cG cT cB cN:Addr}
def scTFork:=Aw Om ["self","other"] 1
theorem RQ(F:%[|37] cK "fork" "Talk.fork" Om)(TX:LR K cK)(T:Fz mg)(GI:Fi P w K mg cK "Talk" (Cb P w) 5 (Hl cK cS cB cN)):%[|48] "fork" AH 7 (Lc cK):=by
 refine F.ok scTFork ?_;rintro bz f bp A outer s H _ Q E hr ⟨a,M,U,W,rfl,hT,hM,q⟩
 refine⟨_,Aa (Az 1 scTFork.nd (Xi GI hr TM (Aj %[|18] (Aj %[|18] (Aj %[|18] (AS %[|18] %[|18]))))))
  (Aa (Bz (pv 1) (%[|58] (AM %[|18])) rfl)
  (Aa (Bz (pv 1) (%[|58] (AM %[|18])) rfl)
  (Aa (Bz (pv 1) %[|18] rfl)
  (A5 (pv 1))))),?_⟩
 refine⟨hT.ob,TX.cl,TX.many,PF,hT.ob,TX.cl,TX.space,Hy,hT.ob,TX.cl,TX.kind,Wq,hT.ob,TX.cl,TX.sentence,MB,hT.ob,TX.cl,TX.rule,O5,fun x dx hx gH gJ=>?_⟩;have sM:A0B H (upd (upd H dx (.own x)) x (.ins cK dx [])):=(Ab gH _).trans (Ab (by rw[Af gJ.symm];exact hx) _);have xM:x∉M:=fun z=>hM x z hx
 refine⟨x,dx,U.sp,W.many,W.kind,W.rule,U.sv,W.t,W.room,M,rfl,A0A,xM,fun m hm z=>hM m hm (sM.free z),hT.tr.keep (TS.same (Ag sM)),Tr.ok.mono hT.m5 hT.tok,hT.tsz,hT.m5,sM _ _ (Ay _ _ hT.room),hT.wr,fun hn=>absurd hT.tok hn,fun _ hn=>absurd ⟨hT.rl,hT.kd⟩ hn,fun _ _ _ he=>absurd he hT.ns,fun _ _ _ _ V1 H1 b1 gv0 lf0 gY esv T1=>⟨rfl,?_⟩⟩;have s1:A0B H H1:=CN hx gH gJ b1;obtain⟨gvH,ngx,ngd⟩:=B3 (C:=cK) gv0;obtain⟨lfH,nlx,nld⟩:=B3 (C:=cK) lf0;have T0:=hT.keep s1;refine⟨T0.ob,TX.cl,TX.given,Fo,.inl (SqL.of T0.gv),fun g2 gZ=>?_⟩;have s2:=Ab gZ (.lst U.ges);have g22:upd H1 g2 (.lst U.ges) g2=some (.lst U.ges):=A0A;generalize upd H1 g2 _=H2 at *;have T2:=T1.keep s2;have ng2x:g2≠x:=(Ah T1.ob gZ).symm;refine⟨T2.ob,TX.cl,TX.given,(by show 9<1000;decide),?_⟩;have e3:BQ "given" (.ref g2) (Dk V1 %[|55])=Dk { V1 with gv:=g2 } %[|55]:=by with_unfolding_all rfl
 have x3:upd H2 x (.ins cK V1.dx (BQ "given" (.ref g2) (Dk V1 %[|55]))) x=some (.ins cK V1.dx (Dk { V1 with gv:=g2 } %[|55])):=A0A.trans (congrArg (fun l=>some (HO.ins cK V1.dx l)) e3);have b3:But [x] H2 (upd H2 x (.ins cK V1.dx (BQ "given" (.ref g2) (Dk V1 %[|55])))):=But.upd %[|2];generalize upd H2 x _=H3 at *
 have nax:a≠x:=fun z=>by
  have h:=hT.ob;rw[z,hx] at h;cases h
 have nlfx:U.lf≠x:=fun z=>by
  have h:=hT.lf;rw[z,hx] at h;cases h
 have lf3:=b3.at (s2 _ _ T0.lf) (Bh nlfx);have ob3:=b3.at (s2 _ _ T0.ob) (Bh nax);refine⟨ob3,TX.cl,TX.left,Ed,.inl (SqL.of lf3),fun l2 bM=>?_⟩;have s4:=Ab bM (.lst U.lfs);have l24:upd H3 l2 (.lst U.lfs) l2=some (.lst U.lfs):=A0A;generalize upd H3 l2 _=H4 at *;have nl2x:l2≠x:=(Ah x3 bM).symm;refine⟨s4 _ _ x3,TX.cl,TX.left,(by show 9<1000;decide),?_⟩;have e5:BQ "left" (.ref l2) (Dk { V1 with gv:=g2 } %[|55])=Dk { V1 with gv:=g2,lf:=l2 } %[|55]:=by with_unfolding_all rfl
 have x5:upd H4 x (.ins cK V1.dx (BQ "left" (.ref l2) (Dk { V1 with gv:=g2 } %[|55]))) x=some (.ins cK V1.dx (Dk { V1 with gv:=g2,lf:=l2 } %[|55])):=A0A.trans (congrArg (fun l=>some (HO.ins cK V1.dx l)) e5);have b5:But [x] H4 (upd H4 x (.ins cK V1.dx (BQ "left" (.ref l2) (Dk { V1 with gv:=g2 } %[|55])))):=But.upd %[|2];generalize upd H4 x _=H5 at *;have ob5:=b5.at (s4 _ _ ob3) (Bh nax);refine⟨ob5,TX.cl,TX.ended,Ih,x5,TX.cl,TX.ended,(by show 9<1000;decide),?_⟩;have e6:BQ "ended" (.bl W.ended) (Dk { V1 with gv:=g2,lf:=l2 } %[|55])=Dk { V1 with gv:=g2,lf:=l2,ges:=U.ges,lfs:=U.lfs } W:=by with_unfolding_all rfl
 have x6:upd H5 x (.ins cK V1.dx (BQ "ended" (.bl W.ended) (Dk { V1 with gv:=g2,lf:=l2 } %[|55]))) x=some (.ins cK V1.dx (Dk { V1 with gv:=g2,lf:=l2,ges:=U.ges,lfs:=U.lfs } W)):=A0A.trans (congrArg (fun l=>some (HO.ins cK V1.dx l)) e6);have b6:But [x] H5 (upd H5 x (.ins cK V1.dx (BQ "ended" (.bl W.ended) (Dk { V1 with gv:=g2,lf:=l2 } %[|55])))):=But.upd %[|2];generalize upd H5 x _=H6 at *;have b16:But [x] H1 H6:=A0B.trans (Ag s2) (A0B.trans b3 (A0B.trans (Ag s4) (A0B.trans b5 b6)));have off:∀m∈[x],H m=none:=fun m hm=>by rw[List.mem_singleton.mp hm];exact hx
 have s6:A0B H H6:=But.same off s1 b16;have g20:H g2=none:=s1.free gZ
 have l23:H2 l2=none:=by
  cases e:H2 l2 with
  | none=>rfl
  | some o=>rw[b3.at e (Bh nl2x)] at bM;cases bM
 have l20:H l2=none:=s1.free (s2.free l23);have g26:H6 g2=some (.lst U.ges):=b6.at (b5.at (s4 _ _ (b3.at g22 (Bh ng2x))) (Bh ng2x)) (Bh ng2x);have l26:H6 l2=some (.lst U.lfs):=b6.at (b5.at l24 (Bh nl2x)) (Bh nl2x);have ngl:g2≠l2:=Ah g22 l23
 have k1:A0B (A6 (x::V1.gv::V1.lf::M) H1) (A6 (x::g2::l2::M) H6):=fun p o e=>by
  obtain⟨e1,e2⟩:=Bg e;have n1:p≠x:=fun z=>e2 (by rw[z];simp)
  refine AW (b16.at e1 (Bh n1)) fun z=>?_
  simp only[zAC] at z e2;rcases z with q1 | q1 | q1 | q1
  ·exact n1 q1
  ·rw[q1,gZ] at e1;cases e1
  ·rw[q1] at e1;rw[s2 _ _ e1] at l23;cases l23
  ·exact e2 (.inr (.inr (.inr q1)))
 have k0:A0B (A6 M H) (A6 (x::g2::l2::M) H6):=fun p o e=>by
  obtain⟨e1,e2⟩:=Bg e;refine AW (s6 _ _ e1) fun z=>?_
  simp only[zAC] at z;rcases z with q1 | q1 | q1 | q1
  ·rw[q1,hx] at e1;cases e1
  ·rw[q1,g20] at e1;cases e1
  ·rw[q1,l20] at e1;cases e1
  ·exact e2 q1
 refine ?_;exact q x { V1 with gv:=g2,lf:=l2,ges:=U.ges,lfs:=U.lfs } H6 s6 hx g20 l20 ⟨x6,g26,l26,by simp,by simp,by simp,ngl,k1 _ _ T1.room,T1.tr.keep (TS.same k1),k1 _ _ T1.pt,T1.sd.keep k1,hT.en.keep k0,hT.lr.keep k0,hT.wr,hT.wl,hT.ln,hT.l9,hT.e9,hT.tok,hT.m5,hT.tsz,hT.kd,hT.ns,hT.rl⟩
end
structure K9(K:PySem.W.Frag)(C:Addr):Prop where
 cl:Cls K C
 space:A0P K C "space"
 many:A0P K C "many"
 marks:A0P K C "marks"
 talks:A0P K C "talks"
 lines:A0P K C "lines"
def Bc(seen:List Int)(t:Tr):Str:=if (seen.all fun k=>tv t k)=true then "grant" else if (seen.any fun k=>tv t k)=true then "doubt" else "deny"
def F1(sides:List (List Int))(going seen:List Int)(t:Tr):Str:=
 if AC false t going=[] then "grant" else if AC true t going=[] then "deny"
 else if Bc seen t="grant"/\A0 sides (%[|12] going)=true then "grant"
 else if Bc seen t="deny"/\A0 sides (%[|24] going)=true then "deny" else "doubt"
def DN(z:Str)(g:List Int)(t:Tr):List Int:=if z="grant" then AC true t g else if z="deny" then AC false t g else g
theorem Cs(hk:k∈room):decide (k∈AC true t room)=tv t k:=by
 unfold AC;rw[zA3,decide_eq_true_eq,List.mem_filter];constructor
 ·rintro⟨_,h⟩;exact eq_of_beq h
 ·intro h;exact⟨hk,by rw[h];rfl⟩
theorem SL(h:g.Sublist room):N9 g (%[|12] room)=%[|12] g:=by
 unfold N9;refine (zCX fun k hk=>?_);rw[Cs (h.subset hk)];cases tv t k<;>rfl
theorem OR(h:g.Sublist room):EL g (%[|12] room)=%[|24] g:=by
 unfold EL;refine (zCX fun k hk=>?_);rw[Cs (h.subset hk)];cases tv t k<;>rfl
theorem JQ(h:g.Sublist room):Bs g (%[|12] room)=Bc g t:=by
 have e1:(g.all fun k=>decide (k∈AC true t room))=g.all fun k=>tv t k:=by
  rw[zA3,zCG,zCG];exact⟨fun q k hk=>by rw[<-Cs (h.subset hk)];exact q k hk,fun q k hk=>by rw[Cs (h.subset hk)];exact q k hk⟩
 have e2:(g.any fun k=>decide (k∈AC true t room))=g.any fun k=>tv t k:=by
  rw[zA3,zCE,zCE];exact⟨fun⟨k,hk,q⟩=>⟨k,hk,by rw[<-Cs (h.subset hk)];exact q⟩,fun⟨k,hk,q⟩=>⟨k,hk,by rw[Cs (h.subset hk)];exact q⟩⟩
 unfold Bs Bc;rw[e1,e2]
theorem OG(seen:List Int)(t:Tr):Bc seen t="grant"\/Bc seen t="deny"\/Bc seen t="doubt":=by
 unfold Bc;split
 ·exact .inl rfl
 ·split
  ·exact .inr (.inr rfl)
  ·exact .inr (.inl rfl)
theorem Xq{going seen room:List Int}(hg:going.Sublist room)(hs:seen.Sublist room):CF sides going seen (%[|12] room)=F1 sides going seen t:=by
 unfold CF F1;rw[SL hg,OR hg,JQ hs];by_cases h0:%[|24] going=[]
 ·rw[if_pos h0,if_pos h0]
 rw[if_neg h0,if_neg h0];by_cases h1:%[|12] going=[]
 ·rw[if_pos h1,if_pos h1]
 rw[if_neg h1,if_neg h1];have g1:¬("grant":Str)="deny":=by decide
 have g2:¬("deny":Str)="grant":=by decide
 have g3:¬("doubt":Str)="grant":=by decide
 have g4:¬("doubt":Str)="deny":=by decide
 rcases OG seen t with e | e | e<;>rw[e]<;>cases A0 sides (%[|12] going)<;>cases A0 sides (%[|24] going)<;>simp[g1,g2,g3,g4]
theorem OM(h:g.Sublist room):CZ z g (%[|12] room)=DN z g t:=by
 unfold CZ DN;rw[SL h,OR h]
theorem Q0(z:Str)(g:List Int)(t:Tr):(DN z g t).Sublist g:=by
 unfold DN;split
 ·exact zAO
 ·split
  ·exact zAO
  ·exact zBZ _
abbrev Nq:Stmt:=Bu 24
abbrev Ja:=Sum Str Tr
def IAt(H:Hp)(v:V):Ja->Prop
 | .inl z=>v= .str z
 | .inr t=>t.At H v
abbrev A0W(H:Hp):List V->List Ja->Prop:=Paired (IAt H)
theorem IAt.keep{H H':Hp}(s:TS H H'){v:V}:∀{i:Ja},IAt H v i->IAt H' v i
 | .inl _,h=>h
 | .inr _,h=>Tr.At.keep s h
theorem A0W.keep{H H':Hp}(s:TS H H'):∀{xs:List V}{is:List Ja},A0W H xs is->A0W H' xs is
 | _,_,.nil=>.nil
 | _,_,.cons r q=>.cons (IAt.keep s r) (A0W.keep s q)
theorem A0W.app{H:Hp}:∀{xs ys:List V}{is js:List Ja},A0W H xs is->A0W H ys js->A0W H (xs++ys) (is++js)
 | _,_,_,_,.nil,h=>h
 | _,_,_,_,.cons r q,h=>.cons r (A0W.app q h)
theorem A0W.last{H:Hp}:∀{xs:List V}{ts:List Ja},A0W H xs ts->xs≠[]->∃fk y dy t,xs=fk++[y]/\ts=dy++[t]/\A0W H fk dy/\IAt H y t
 | _,_,.nil,h=>absurd rfl h
 | _,_,.cons (a:=v) (b:=t) r .nil,_=>⟨[],v,[],t,rfl,rfl,.nil,r⟩
 | _,_,.cons (a:=v) (b:=t) r (.cons r' q'),_=>by
  obtain⟨fk,y,dy,u,e1,e2,q,a⟩:=A0W.last (Paired.cons r' q') %[|11];exact⟨v::fk,y,t::dy,u,by rw[e1];rfl,by rw[e2];rfl,.cons r q,a⟩
theorem ZT(h:A0W H ys js):A0W H (.str z::ys) (.inl z::js):=.cons (show IAt H (.str z) (.inl z) from rfl) h
theorem aG(a:t.At H v)(h:A0W H ys js):A0W H (v::ys) (.inr t::js):=.cons (show IAt H v (.inr t) from a) h
def RL:Ja->List Nat
 | .inl z=>Ee z
 | .inr t=>BP t
def wt:Tr->Nat
 | .lt _=>1
 | .nt t=>wt t+2
 | .bn _ a b=>wt a+wt b+4
def wi:Ja->Nat
 | .inl _=>1
 | .inr t=>wt t
def ao:Ja->Prop
 | .inl z=>z.length=1
 | .inr t=>t.ok 5
theorem XZ:∀t:Tr,1<=wt t
 | .lt _=>zAB _
 | .nt _=>Nat.le_add_left 1 (wt _+1)
 | .bn _ a b=>Nat.le_add_left 1 (wt a+wt b+3)
theorem ON:∀t:Tr,wt t<=4*t.size
 | .lt _=>by show 1<=4*1;decide
 | .nt t=>by
  have:=ON t;show wt t+2<=4*(t.size+1);omega
 | .bn _ a b=>by
  have h1:=ON a;have h2:=ON b;show wt a+wt b+4<=4*(a.size+b.size+1);omega
theorem XX:∀i:Ja,1<=wi i
 | .inl _=>zAB _
 | .inr t=>XZ t
def ws(is:List Ja):Nat:=(is.map wi).sum
theorem Le(a b:List Ja):ws (a++b)=ws a+ws b:=by
 unfold ws;rw[List.map_append,zCP]
theorem Sd:∀is:List Ja,is.length<=ws is
 | []=>zAB _
 | i::r=>by
  have h1:=XX i;have h2:=Sd r;show r.length+1<=(((i::r).map wi).sum);rw[zAP,zBP];show r.length+1<=wi i+ws r;omega
def IR(ys:List Str):List Nat:=(ys.map Ee).flatten
def Rh(is:List Ja):List Nat:=(is.reverse.map RL).flatten
theorem JC(ys:List Str)(z:Str):IR (ys++[z])=IR ys++Ee z:=by
 unfold IR;simp
theorem K1(a b:List Ja):Rh (a++b)=Rh b++Rh a:=by
 unfold Rh;simp
theorem Pl(i:Ja):Rh [i]=RL i:=by
 unfold Rh;simp
theorem Mc:∀ys:List Str,(ys.map (·.length)).sum=(IR ys).length
 | []=>rfl
 | z::r=>by
  have h:=Mc r;rw[zAP,zBP,h];show z.length+(IR r).length=(Ee z++IR r).length;rw[zA,<-Bm]
theorem Mi:∀ys:List Str,Ee (Str.join ⟨#[]⟩ ys)=IR ys
 | []=>rfl
 | z::r=>by
  rw[join_nil_cons,AN,Mi r];rfl
theorem Q6(ys:List Str):Ee (Txt.join "" ys)=IR ys:=by
 have e:Txt.join "" ys=Str.join "" ys:=eq_of_beq (join_plain_closes "" ys);rw[e];exact Mi ys
structure ShInv(H H2:Hp)(sl wl:Addr)(t0:Tr)(ys:List Str)(xs:List V)(is:List Ja):Prop where
 sm:A0B H H2
 s:H2 sl=some (.lst (ys.map V.str))
 w:H2 wl=some (.lst xs)
 it:A0W H2 xs is
 ok:∀i∈is,ao i
 eq:IR ys++Rh is=BP t0
 le:ys.length+ws is<=92
theorem ShInv.pop(nw:H wl=none)(ne:sl≠wl)(p:ShInv H H2 sl wl t0 ys xs is)(h:xs≠[]):
  ∃y bV i,xs[xs.length-1]? = some y/\is=bV++[i]/\ao i/\IAt %[|63] y i/\A0B H %[|63]/\(upd H2 wl (.lst xs.dropLast)) sl=some (.lst (ys.map V.str))/\
   A0W %[|63] xs.dropLast bV/\(∀i∈bV,ao i)/\IR ys++(RL i++Rh bV)=BP t0/\ys.length+(ws bV+wi i)<=92/\ws is=ws bV+wi i:=by
 obtain⟨fk,y,bV,i,rfl,rfl,q,a⟩:=p.it.last h;have k:TS H2 (upd H2 wl (.lst (fk++[y]).dropLast)):=TS.lst p.w;refine⟨y,bV,i,Cq _ _,rfl,p.ok i %[|2],a.keep k,Ap p.sm nw _,by rw[Af ne];exact p.s,?_,fun j hj=>p.ok j (by simp[hj]),?_,?_,?_⟩
 ·rw[zAY] at k ⊢;exact q.keep k
 ·rw[<-p.eq,K1,Pl]
 ·have:=p.le;rw[Le] at this;have e:ws [i]=wi i:=by unfold ws;simp
  omega
 ·rw[Le];have e:ws [i]=wi i:=by unfold ws;simp
  omega
inductive Ff(vs:List V)(H:Hp)(Q:VK)(E:XK):Prop where
 | mk (v:V) (t:Tr) (_:vs=[v]) (_:t.At H v) (_:t.ok 5) (_:t.size<=23) (_:∀(z:Str)(H':Hp),Ee z=BP t->A0B H H'->Q (.str z) H'):Ff  vs H Q E
def Zw(k:Str):Option V:=if k="and" then some (.str "&") else if k="or" then some (.str "|") else if k="if" then some (.str ">") else if k="same" then some (.str "=") else none
theorem UB(h:j<4):∃z:Str,Zw (jn j)=some (.str z)/\Ee z=[jc j]:=by
 match j,h with
 | 0,_=>exact⟨"&",by decide,rfl⟩
 | 1,_=>exact⟨"|",by decide,rfl⟩
 | 2,_=>exact⟨">",by decide,rfl⟩
 | 3,_=>exact⟨"=",by decide,rfl⟩
structure WN(P:Program)(w:World)(K:PySem.W.Frag)(mg:Str->%[|4]):Prop where
 isi:mg "isinstance"=none
 str:mg "str"=none
 let':∃t,mg "LETTERS"=some (.str "abcde" t)
 jo:∃d,mg "JOINTS"=some (.ref d)/\Ys P w K d Zw
section
variable {P:Program}{w:World}{K:PySem.W.Frag}{mg:Str->%[|4]}
def A2B:=Aw Nq ["sentence","signs","waiting","part"] 1
theorem Ub(F:%[|9] "shown" Nq)(T:WN P w K mg):%[|3] "shown" AH 1 Ff:=by
 refine F.ok A2B ?_;rintro bz f bp A outer s H _ Q E hr ⟨v,t,rfl,ha,hok,hs,q⟩;obtain⟨tL,mL⟩:=T.let';obtain⟨dJ,mJ,hJ⟩:=T.jo
 refine⟨_,Aa (Az 1 A2B.nd (Av Bi))
  (Aa (Az 2 A2B.nd (Av (AM (pv 0))))
  (Aa (DO zAV (BS (pv 2) (fun _=>rfl))
   (Aa (Az 3 A2B.nd (B7 (pv 2)))
   (Ai (Au (Bv (AK Mm %[|8] T.isi boot_isinstance (AS (pv 3) (UO (v:=.ty "str") %[|8] T.str boot_str rfl))))
    (Ai (As (A7 (pv 1) (AM (pv 3)))))
    (Ai (Au (AR AF (An Am (pv 3) Ad) Ae)
     (Ai (As (A7 (pv 1) (AM (An Gb (Eh (v:=.str "abcde") %[|8] mL ⟨_,rfl⟩) (An Am (pv 3) Ad))))))
     (Ai (Au (AR AF (An Am (pv 3) Ad) Ae)
      (Ai (As (DA zBD zCR zCS FW (pv 2) (AM (Av (AS (An Am (pv 3) Ad) Ae))))))
      (Ai (As (DA zBD zCR zCS FW (pv 2) (AM (Av (Aj Ae (Aj (An Am (pv 3) Ad) (Aj (An Yy (Eh (v:=.ref dJ) %[|8] mJ rfl) (An Am (pv 3) Ad)) (AS (An Am (pv 3) Ad) Ae)))))))))))))))))
  (A5 (DA zB5 zCA zCB E7 Ae (AM (pv 1)))))),?_⟩
 refine⟨GQ,fun sl cu=>⟨Rg,fun wl dG=>?_⟩⟩;have ne:sl≠wl:=Ah (A0A (H:=H) (a:=sl) (o:=.lst [])) dG;have nw:H wl=none:=(Ab cu (.lst [])).free dG;have sm0:A0B H (upd (upd H sl (.lst [])) wl (.lst [v])):=(Ab cu _).trans (Ab dG _);have lt9:∀{k:Nat},k<=999->k<sizeLine:=fun h=>Ar (zAD h %[|0])
 refine⟨fun m σ H2=>∃(pv':Option V)(ys:List Str)(xs:List V)(is:List Ja),σ=[some v,some (.ref sl),some (.ref wl),pv']/\ShInv H H2 sl wl t ys xs is/\ws is=m,⟨_,none,[],[v],[.inr t],rfl,⟨sm0,by rw[Af ne,A0A];rfl,A0A,.cons (ha.keep (TS.same sm0)) .nil,fun i hi=>?_,by rw[Pl];rfl,?_⟩,rfl⟩,?_⟩
 ·rw[List.mem_singleton.mp hi];exact hok
 ·have:=ON t;have e:ws [.inr t]=wt t:=by unfold ws;simp[wi]
  show 0+ws [.inr t]<=92;omega
 rintro m σ H2 ⟨pv',ys,xs,is,rfl,p,rfl⟩;refine⟨_,.inl ⟨xs,SqL.of p.w,rfl⟩,?_⟩;refine Ci (fun c=>?_) (fun c=>?_)
 ·have hx:xs≠[]:=by
   intro z;subst z;exact absurd c %[|0]
  refine⟨fun σ' H'=>∃m',m'<ws is/\∃(pv':Option V)(ys:List Str)(xs:List V)(is:List Ja),σ'=[some v,some (.ref sl),some (.ref wl),pv']/\ShInv H H' sl wl t ys xs is/\ws is=m',fun _ _ h=>h,?_⟩;obtain⟨y,bV,i,ey,rfl,oki,ai,sm1,s1,iR,gA,eq1,le1',we⟩:=p.pop nw ne hx;have w1:%[|63] wl=some (.lst xs.dropLast):=A0A;have nsl:∀{o:HO},TS %[|63] (upd %[|63] sl o):=TS.lst s1;have nsl0:H sl=none:=cu;have iS:ys.length<=92:=by omega
  have fw:bV.length<=92:=by
   have:=Sd bV;omega
  have hxl:xs.dropLast.length<=92:=by
   have e:xs.dropLast.length=bV.length:=zB0 iR;omega
  refine⟨.inl ⟨rfl,_,SqL.of p.w⟩,p.w,ey,?_⟩;have hms:ys.map V.str=ys.map V.str:=rfl
  cases i with
  | inl z=>
   cases ai;refine⟨_,_,_,_,rfl,.str _,RC _ _,?_⟩;refine AB ?_;refine⟨.inl ⟨rfl,_,SqL.of s1⟩,s1,lt9 %[|61],?_⟩;refine⟨ws bV,by rw[we];show ws bV<ws bV+1;omega,_,ys++[z],xs.dropLast,bV,rfl,⟨Ap sm1 nsl0 _,by rw[A0A,List.map_append];rfl,by rw[Af ne.symm];exact w1,iR.keep nsl,gA,?_,?_⟩,rfl⟩
   ·rw[JC,zBY];exact eq1
   ·rw[zA];have:ys.length+(ws bV+1)<=92:=le1';show ys.length+1+ws bV<=92;omega
  | inr u=>
   cases u with
   | lt k=>
    obtain⟨b,rfl,hb⟩:=ai;refine⟨_,_,_,_,rfl,.tup hb,DG _,?_⟩;refine Aq ?_;refine⟨SqT.of hb,Ac (j:=0) rfl,rfl,?_⟩;refine BI rfl ?_;refine⟨.inl ⟨rfl,_,SqL.of s1⟩,SqT.of hb,Ac (j:=1) rfl,_,_,_,rfl,rfl,SJ,Em oki,s1,lt9 %[|61],?_⟩;refine⟨ws bV,by rw[we];show ws bV<ws bV+1;omega,_,ys++[⟨#[97+k]⟩],xs.dropLast,bV,rfl,⟨Ap sm1 nsl0 _,by rw[A0A,List.map_append];rfl,by rw[Af ne.symm];exact w1,iR.keep nsl,gA,?_,?_⟩,rfl⟩
    ·rw[JC,zBY];exact eq1
    ·rw[zA];have:ys.length+(ws bV+1)<=92:=le1';show ys.length+1+ws bV<=92;omega
   | nt u=>
    obtain⟨b,x,rfl,hb,hx'⟩:=ai;refine⟨_,_,_,_,rfl,.tup hb,DG _,?_⟩;refine Aq ?_;refine⟨SqT.of hb,Ac (j:=0) rfl,rfl,?_⟩;refine Bw %[|0] ?_;refine⟨SqT.of hb,Ac (j:=0) rfl,rfl,?_⟩;refine BI rfl ?_;have le2':ys.length+(ws bV+(wt u+2))<=92:=le1';refine⟨.inl ⟨rfl,_,SqL.of w1⟩,SqT.of hb,Ac (j:=1) rfl,Cy,fun nl dD=>?_⟩;have kp:TS %[|63] (upd (upd %[|63] nl (.lst [x,.str "-"])) wl (.lst (xs.dropLast++[x,.str "-"]))):=(TS.new dD).trans (TS.lst ((Ab dD _) _ _ w1));refine⟨wl,nl,_,_,rfl,rfl,(Ab dD _) _ _ w1,A0A,C8 (by show xs.dropLast.length+2<=1000;omega),?_⟩
    have ew:ws (bV++[.inr u,.inl "-"])=ws bV+(wt u+1):=by
     rw[Le];unfold ws;simp[wi]
    refine⟨_,?_,_,ys,xs.dropLast++[x,.str "-"],bV++[.inr u,.inl "-"],rfl,⟨Ap (sm1.trans (Ab dD _)) nw _,by rw[Af ne];exact (Ab dD _) _ _ s1,A0A,(iR.keep kp).app (aG (hx'.keep kp) (ZT .nil)),?_,?_,?_⟩,rfl⟩
    ·rw[we,ew];show ws bV+(wt u+1)<ws bV+(wt u+2);omega
    ·intro j hj;rcases List.mem_append.mp hj with z | z
     ·exact gA j z
     ·rcases List.mem_cons.mp z with z | z
      ·subst z;exact oki
      ·rw[List.mem_singleton.mp z];rfl
    ·rw[K1,<-eq1]
     congr 1
     unfold Rh;simp[RL,BP];rfl
    ·rw[ew];omega
   | bn j a b'=>
    obtain⟨b,x,x2,rfl,hb,hx',hx2⟩:=ai;obtain⟨hj,oka,okb⟩:=oki;obtain⟨zj,ej,cj⟩:=UB hj;refine⟨_,_,_,_,rfl,.tup hb,DG _,?_⟩;refine Aq ?_;refine⟨SqT.of hb,Ac (j:=0) rfl,rfl,?_⟩;refine Bw FY ?_;refine⟨SqT.of hb,Ac (j:=0) rfl,rfl,?_⟩;refine Bw Kf ?_;have le2':ys.length+(ws bV+(wt a+wt b'+4))<=92:=le1';refine⟨.inl ⟨rfl,_,SqL.of w1⟩,SqT.of hb,Ac (j:=2) rfl,SqT.of hb,Ac (j:=0) rfl,dJ,_,_,_,rfl,rfl,hJ,ej,SqT.of hb,Ac (j:=1) rfl,SJ,fun nl dD=>?_⟩;have kp:TS %[|63] (upd (upd %[|63] nl (.lst [.str ")",x2,.str zj,x,.str "("])) wl (.lst (xs.dropLast++[.str ")",x2,.str zj,x,.str "("]))):=(TS.new dD).trans (TS.lst ((Ab dD _) _ _ w1));refine⟨wl,nl,_,_,rfl,rfl,(Ab dD _) _ _ w1,A0A,C8 (by show xs.dropLast.length+5<=1000;omega),?_⟩
    have ew:ws (bV++[.inl ")",.inr b',.inl zj,.inr a,.inl "("])=ws bV+(wt a+wt b'+3):=by
     rw[Le];unfold ws;simp[wi];omega
    refine⟨_,?_,_,ys,xs.dropLast++[.str ")",x2,.str zj,x,.str "("],bV++[.inl ")",.inr b',.inl zj,.inr a,.inl "("],rfl,⟨Ap (sm1.trans (Ab dD _)) nw _,by rw[Af ne];exact (Ab dD _) _ _ s1,A0A,(iR.keep kp).app (ZT (aG (hx2.keep kp) (ZT (aG (hx'.keep kp) (ZT .nil))))),?_,?_,?_⟩,rfl⟩
    ·rw[we,ew];show ws bV+(wt a+wt b'+3)<ws bV+(wt a+wt b'+4);omega
    ·intro i' gQ;rcases List.mem_append.mp gQ with z | z
     ·exact gA i' z
     ·have e5:i'= .inl ")"\/i'= .inr b'\/i'= .inl zj\/i'= .inr a\/i'= .inl "(":=by simpa using z
      rcases e5 with e | e | e | e | e
      ·subst e;rfl
      ·subst e;exact okb
      ·subst e;show zj.length=1;rw[Bm,cj];rfl
      ·subst e;exact oka
      ·subst e;rfl
    ·rw[K1,<-eq1]
     congr 1
     have e3:Rh [.inl ")",.inr b',.inl zj,.inr a,.inl "("]=Ee "("++(BP a++(Ee zj++(BP b'++Ee ")"))):=by
      unfold Rh;simp[RL]
     rw[e3,cj];rfl
    ·rw[ew];omega
 ·have hx:xs=[]:=by
   cases xs with
   | nil=>rfl
   | cons a r=>exact absurd rfl c
  subst hx;have eq1:=p.eq;cases p.it
  have eq2:IR ys=BP t:=by
   have:Rh []=[]:=rfl;rw[this,zA6] at eq1;exact eq1
  refine⟨rfl,_,_,ys,rfl,rfl,SqL.of p.s,?_,?_⟩
  ·rw[Mc,eq2];have:=BW t;show (BP t).length+ys.length*0<=16777216;omega
  ·exact q _ H2 (by rw[Q6];exact eq2) p.sm
end
theorem Zq{K:PySem.W.Frag}{a b c d x y z u:Str}{ep:Nat}{f:Str->Option V}(l:K.lookup dd=some ⟨.type "dict",none,.dict #[⟨hashStr w a,.str a t1,.str x t2⟩,⟨hashStr w b,.str b t3,.str y t4⟩,⟨hashStr w c,.str c t5,.str z t6⟩,⟨hashStr w d,.str d t7,.str u t8⟩] ep,#[]⟩)(nd:[a,b,c,d].Nodup)(nm:(dd == sysModules)=false)(hf:∀k,f k=if k=a then some (.str x) else if k=b then some (.str y) else if k=c then some (.str z) else if k=d then some (.str u) else none):Ys P w K dd f:=by
 refine⟨nm,_,[(a,.str x t2),(b,.str y t4),(c,.str z t6),(d,.str u t8)],l,⟨_,_,⟨rfl,rfl,rfl⟩,rfl,fun e he=>?_,?_,nd⟩,fun k=>?_⟩
 ·have fV:e=⟨hashStr w a,.str a t1,.str x t2⟩\/e=⟨hashStr w b,.str b t3,.str y t4⟩\/e=⟨hashStr w c,.str c t5,.str z t6⟩\/e=⟨hashStr w d,.str d t7,.str u t8⟩:=by simpa using he
  rcases fV with e1 | e1 | e1 | e1
  ·subst e1;exact⟨a,strKind_is _ _ _ _,rfl⟩
  ·subst e1;exact⟨b,strKind_is _ _ _ _,rfl⟩
  ·subst e1;exact⟨c,strKind_is _ _ _ _,rfl⟩
  ·subst e1;exact⟨d,strKind_is _ _ _ _,rfl⟩
 ·exact .cons (strKind_is _ _ _ _) rfl (.cons (strKind_is _ _ _ _) rfl (.cons (strKind_is _ _ _ _) rfl (.cons (strKind_is _ _ _ _) rfl .nil)))
 ·rw[hf];unfold valueAt;by_cases h1:k=a
  ·subst h1;rw[if_pos rfl,List.find?_cons_of_pos %[|2]];exact⟨_,rfl⟩
  rw[if_neg h1,List.find?_cons_of_neg (by simpa using fun q=>h1 q.symm)];by_cases h2:k=b
  ·subst h2;rw[if_pos rfl,List.find?_cons_of_pos %[|2]];exact⟨_,rfl⟩
  rw[if_neg h2,List.find?_cons_of_neg (by simpa using fun q=>h2 q.symm)];by_cases h3:k=c
  ·subst h3;rw[if_pos rfl,List.find?_cons_of_pos %[|2]];exact⟨_,rfl⟩
  rw[if_neg h3,List.find?_cons_of_neg (by simpa using fun q=>h3 q.symm)];by_cases h4:k=d
  ·subst h4;rw[if_pos rfl,List.find?_cons_of_pos %[|2]];exact⟨_,rfl⟩
  rw[if_neg h4,List.find?_cons_of_neg (by simpa using fun q=>h4 q.symm)];exact True.intro
abbrev Ks:Stmt:=Bu 33
def AY(m:Nat)(ts:List Tr):List Int:=ts.foldl (fun r t=>r.filter fun k=>tv t k == true) (C4 (2^m))
theorem Eg:AY m (ts++[t])=(AY m ts).filter fun k=>tv t k == true:=by
 unfold AY;rw[List.foldl_append];rfl
theorem LV:∀(ts:List Tr)(r:List Int),(ts.foldl (fun r t=>r.filter fun k=>tv t k == true) r).Sublist r
 | [],r=>zBZ r
 | t::ts,r=>(LV ts _).trans zAO
theorem Hs(h:m<=5)(ts:List Tr):Wr (AY m ts):=(Va h).sub (LV ts _)
inductive HH(cS cW:Addr)(vs:List V)(H:Hp)(Q:VK)(E:XK):Prop where
 | mk (st:Addr) (m:Nat) (xs:List V) (ts:List Tr) (_:vs=[.int m,.ref st]) (_:H st=some (.lst xs)) (_:A0I H xs ts) (_:(∀t∈ts,t.ok 5/\t.size<=60)) (_:1<=m) (_:m<=5) (_:((∃t∈ts,¬t.ok m)->∀H',A0B H H'->E (.ref cS) none H')) (_:((∀t∈ts,t.ok m)->AY m ts=[]->∀H',A0B H H'->E (.ref cW) none H')) (_:((∀t∈ts,t.ok m)->AY m ts≠[]->∀(l:Addr)(H':Hp),A0B H H'->H l=none->AL H' l (AY m ts)->Q (.ref l) H')):HH cS cW vs H Q E
section
variable {P:Program}{w:World}{K:PySem.W.Frag}{mg:Str->%[|4]}{cS cW cT:Addr}
def A1Q:=Aw Ks ["many","standing","sentence","room"] 2
theorem QF(F:%[|9] "room_of" Ks)(T:Fz mg)(XW:BE K mg "NoWorld" cW cT)(GR:%[|3] "refuse_strange" (Cb P w) 3 (DK cS))(GA:%[|3] "all_worlds" AH 1 Db)(GW:%[|3] "worlds_of" AH 3 (B1 K)):%[|3] "room_of" (Cb P w) 4 (HH cS cW):=by
 refine F.okX A1Q ?_;rintro bz f bp A outer s H _ Q E hr ⟨st,m,xs,ts,rfl,hS,hP,hok,bS,bP,qS,qW,q⟩;have hr3:A0J 3 _:=hr.mono %[|0];have bB:=hP.len
 refine⟨_,Aa (BZ PassesOwn.leaving rfl (AX (pv 1)) (BA 2 A1Q.nd)
   (Ai (As (AA GR hr3 %[|26] (AS (pv 2) (pv 0))))))
  (Aa (Az 3 A1Q.nd (AA GA hr Al (AM (pv 0))))
  (Aa (BZ PassesOwn.leaving rfl (AX (pv 1)) (BA 2 A1Q.nd)
   (Ai (Az 3 A1Q.nd (AA GW hr3 Al (AS (pv 2) (pv 3))))))
  (Aa (Au (CB (BS (pv 3) (fun _=>rfl)))
   (Ai (Bn (Ex:=E) BB rfl XW.cls XW.at_ XW.ty %[|8] XW.m (AM Ae) (hvl:=fun _ _ _ h=>⟨by decide,h⟩)))
   Ak)
  (A5 (pv 3))))),?_⟩
 refine⟨⟨_,SqL.of hS⟩,Bf (K:=K) (a:=st) (xs:=xs) (fun i σ H2=>∃v0,σ=[some (.int (m:Int)),some (.ref st),v0,none]/\A0B H H2/\∀t∈ts.take i,t.ok m) ⟨_,rfl,A0B.refl _,fun t ht=>by simp at ht⟩ ?_ ?_ ?_⟩
 ·rintro i σ H2 _ ⟨v0,rfl,s2,_⟩;exact SqL.of (s2 _ _ hS)
 ·rintro i x σ H2 hx ⟨v0,rfl,s2,hall⟩;obtain⟨t,ht,bF⟩:=BR hP hx;obtain⟨o1,o2⟩:=hok t (zAN ht);refine⟨x,t,m,rfl,bF.keep (TS.same s2),o1,o2,fun hn H3 s3=>qS ⟨t,zAN ht,hn⟩ H3 (s2.trans s3),fun hy H3 s3=>?_⟩;refine⟨_,rfl,s2.trans s3,fun u hu=>?_⟩;rw[zAR,ht] at hu;rcases List.mem_append.mp hu with h1 | h1
  ·exact hall u h1
  ·have:u=t:=by simpa using h1
   rw[this];exact hy
 rintro σ H2 ⟨v0,rfl,s2,hall⟩;rw[bB,zAQ] at hall;refine⟨m,rfl,bS,bP,fun r H3 s3 r0 hr3'=>?_⟩;have s23:=s2.trans s3;refine⟨⟨_,SqL.of (s23 _ _ hS)⟩,Bf (K:=K) (a:=st) (xs:=xs) (fun i σ H4=>∃(v0:Option V)(r:Addr),σ=[some (.int (m:Int)),some (.ref st),v0,some (.ref r)]/\A0B H H4/\H r=none/\AL H4 r (AY m (ts.take i))) ⟨_,r,rfl,s23,s2.free r0,hr3'⟩ ?_ ?_ ?_⟩
 ·rintro i σ H4 _ ⟨v0,r,rfl,s4,_⟩;exact SqL.of (s4 _ _ hS)
 ·rintro i x σ H4 hx ⟨v0,r,rfl,s4,r0',dO⟩;obtain⟨t,ht,bF⟩:=BR hP hx;obtain⟨o1,o2⟩:=hok t (zAN ht);refine⟨x,t,r,_,rfl,bF.keep (TS.same s4),o1,by omega,SqL.of dO,Hs bP _,fun l H5 s5 l0 hl=>?_⟩;refine⟨_,l,rfl,s4.trans s5,s4.free l0,?_⟩;rw[zAR,ht];show AL H5 l (AY m (ts.take i++[t]));rw[Eg];exact hl
 rintro σ H4 ⟨v0,r,rfl,s4,r0',dO⟩;rw[bB,zAQ] at dO;refine⟨_,.inl ⟨_,SqL.of dO,rfl⟩,?_⟩;by_cases c:AY m ts=[]
 ·rw[c];exact AB (qW hall c H4 s4)
 ·have e:(!((AY m ts).map V.int).isEmpty)=true:=by
   cases h:AY m ts with
   | nil=>exact absurd h c
   | cons _ _=>rfl
  rw[e];exact Aq (q hall c r H4 s4 r0' dO)
end
abbrev Ko:Stmt:=Bu 51
abbrev MN:Stmt:=AZ (Bu 56) 0
abbrev Ku:Stmt:=AZ (Bu 56) 24
structure Hk where
 dx:Addr
 sp:Addr
 mks:Addr
 tk:Addr
 ln:Addr
def Ey(U:Hk)(m:Nat):List (Str×V):=[("space",.ref U.sp),("many",.int m),("marks",.ref U.mks),("talks",.ref U.tk),("lines",.ref U.ln)]
theorem HR:(Ey U m).lookup ("space":Str)=some (.ref U.sp):=by with_unfolding_all rfl
theorem Lx:(Ey U m).lookup ("lines":Str)=some (.ref U.ln):=by with_unfolding_all rfl
theorem Cv:(Ey U m).lookup ("write":Str)=none:=by with_unfolding_all rfl
def AD(ws:List Str):Str:=Txt.join " " ws
inductive HD(vs:List V)(H:Hp)(Q:VK)(E:XK):Prop where
 | mk (l:Addr) (ws:List Str) (_:vs=[.ref l]) (_:H l=some (.lst (ws.map V.str))) (_:(ws.map (·.length)).sum+ws.length<=100000) (_:Q (.str (AD ws)) H):HD  vs H Q E
inductive BU(C:Addr)(vs:List V)(H:Hp)(Q:VK)(E:XK):Prop where
 | mk (x l:Addr) (U:Hk) (m:Nat) (ws:List Str) (ls:List V) (_:vs=[.ref x,.ref l]) (_:H x=some (.ins C U.dx (Ey U m))) (_:H U.ln=some (.lst ls)) (_:ls.length<=900) (_:H l=some (.lst (ws.map V.str))) (_:(ws.map (·.length)).sum+ws.length<=100000) (_:Q .non (upd H U.ln (.lst (ls++[.str (AD ws)])))):BU C vs H Q E
section
variable {P:Program}{w:World}{K:PySem.W.Frag}{mg:Str->%[|4]}{cH cS cW cT:Addr}
def SD:=Aw Ko ["words"] 1
def RX:=Aw Ku ["self","words"] 2
theorem QT(F:%[|9] "line_of" Ko):%[|3] "line_of" AH 1 HD:=by
 refine F.ok SD ?_;rintro bz f bp A outer s H _ Q E hr ⟨l,ws,rfl,hl,hz,q⟩;refine⟨_,A5 (DA zB5 zCA zCB E7 Ae (AM (pv 0))),?_⟩;exact⟨rfl," ",l,ws,rfl,rfl,SqL.of hl,by show (ws.map (·.length)).sum+ws.length*1<=16777216;omega,q⟩
theorem Qr(F:%[|37] cH "write" "House.write" Ku)(HX:K9 K cH)(GL:%[|3] "line_of" AH 1 HD):%[|16] "write" AH 2 (BU cH):=by
 refine F.ok RX ?_;rintro bz f bp A outer s H _ Q E hr ⟨x,l,U,m,ws,ls,rfl,hx,dE,hls,hl,hz,q⟩;refine⟨_,Ai (As (A7 %[|18] (AM (AA GL hr Al (AM (pv 1)))))),?_⟩;exact⟨hx,HX.cl,HX.lines,Lx,.inl ⟨rfl,_,SqL.of dE⟩,l,ws,rfl,hl,hz,dE,Ar %[|1],q⟩
end
theorem JP{K:PySem.W.Frag}(hr:SqL K H a xs)(br:H acc=none)(bo:xs.length<=900)(hb:vs.length=xs.length)(ht:∀(i:Nat) (x b:V),xs[i]? = some x->vs[i]? = some b->∀H2,A0B H H2->∀R:V->Hp->Prop,(∀H3,A0B H2 H3->R b H3)->te (some x::rest) H2 R)(hd:∀v0 H2,A0B H H2->H2 acc=some (.lst vs)->D.nx (v0::rest) H2)(v:Option V):
  EE (Wk K a) (Cu 0) (Dx M8 (DC acc te)) D (v::rest) (upd H acc (.lst [])):=by
 refine Bf (K:=K) (a:=a) (xs:=xs) (fun i σ H2=>∃v0,σ=v0::rest/\A0B H H2/\H2 acc=some (.lst (vs.take i))) ⟨v,rfl,Ab br _,A0A⟩ ?_ ?_ ?_
 ·rintro i σ H2 _ ⟨v0,rfl,s2,_⟩;exact s2.seq hr
 ·rintro i x σ H2 hx ⟨v0,rfl,s2,bK⟩
  have hi:i<vs.length:=by
   have:=(List.getElem?_eq_some_iff.mp hx).1;omega
  have gP:vs[i]? = some vs[i]:=List.getElem?_eq_getElem hi;have et:vs.take (i+1)=vs.take i++[vs[i]]:=by rw[zAR,gP];rfl
  refine AB ?_;refine ht i x _ hx gP H2 s2 _ fun H3 s3=>?_
  refine⟨_,s3 _ _ bK,Ar ?_,?_⟩
  ·rw[zAW];omega
  refine⟨_,rfl,Ap (s2.trans s3) br _,?_⟩;rw[A0A,et]
 ·rintro σ H2 ⟨v0,rfl,s2,bK⟩;rw[<-hb,zAQ] at bK;exact hd v0 H2 s2 bK
def B0(t:Tr):Str:=⟨(BP t).toArray⟩
theorem FK(h:Ee z=BP t):z=B0 t:=by
 unfold B0;rw[<-h]
theorem EZ(t:Tr):(B0 t).length<=4*t.size:=by
 have:=BW t
 have e:(B0 t).length=(BP t).length:=by
  show (BP t).toArray.size=_;rw[zAH]
 omega
def BD(m:Nat)(ts:List Tr):Str:=AD %[|82]
theorem FJ:∀{ts:List Tr},(∀t∈ts,t.size<=60)->((ts.map B0).map (·.length)).sum<=240*ts.length
 | [],_=>zAB _
 | t::ts,h=>by
  have h1:=EZ t;have h2:=h t List.mem_cons_self;have h3:=FJ (ts:=ts) fun u hu=>h u (List.mem_cons_of_mem _ hu)
  rw[zAP,zAP,zBP,zAL];omega
theorem Jz{m:Nat}(h:m<=5):(Str.ofString (toString (m:Int))).length<=10:=by
 match m,h with
 | 0,_=>decide
 | 1,_=>decide
 | 2,_=>decide
 | 3,_=>decide
 | 4,_=>decide
 | 5,_=>decide
theorem Rw(m:Nat):(List.replicate ((m:Int)).toNat [V.non]).flatten=List.replicate m V.non:=by
 rw[zBB]
 induction m with
 | zero=>rfl
 | succ m ih=>rw[zBG,zCK,ih];rfl
inductive K2(C cS cW:Addr)(vs:List V)(H:Hp)(Q:VK)(E:XK):Prop where
 | mk (x dx st:Addr) (m:Nat) (xs:List V) (ts:List Tr) (_:vs=[.ref x,.int m,.ref st]) (_:H x=some (.ins C dx [])) (_:H st=some (.lst xs)) (_:A0I H xs ts) (_:(∀t∈ts,t.ok 5/\t.size<=23)) (_:ts.length<=100) (_:1<=m) (_:m<=5) (_:((∃t∈ts,¬t.ok m)->∀H',But [x] H H'->E (.ref cS) none H')) (_:((∀t∈ts,t.ok m)->AY m ts=[]->∀H',But [x] H H'->E (.ref cW) none H')) (_:((∀t∈ts,t.ok m)->AY m ts≠[]->∀(U:Hk)(H':Hp),But [x] H H'->H U.sp=none->H U.mks=none->H U.tk=none->H U.ln=none->H' x=some (.ins C U.dx (Ey U m))->AL H' U.sp (AY m ts)->H' U.mks=some %[|64]->H' U.tk=some (.dK [])->H' U.ln=some (.lst [.str (BD m ts)])->Q .non H')):K2 C cS cW vs H Q E
section
variable {P:Program}{w:World}{K:PySem.W.Frag}{mg:Str->%[|4]}{f:Addr}{cH cS cW cT:Addr}
def UU:=Aw MN ["self","many","standing"] 3
theorem Rx(F:FI P w K mg cH "House" "House.__init__" MN)(HX:K9 K cH)(T:Fz mg)(GR:%[|3] "room_of" (Cb P w) 4 (HH cS cW))(GS:%[|3] "shown" AH 1 Ff)(G1:%[|16] "write" AH 2 (BU cH)):Fi P w K mg cH "House" (Cb P w) 5 (K2 cH cS cW):=by
 refine F.okX UU ?_;rintro bz f bp A outer s H _ Q E hr ⟨x,dx,st,m,xs,ts,rfl,hx,hS,hP,hok,bo,bS,bP,qS,qW,q⟩;have bB:=hP.len;have i7:st≠x:=AT hS hx %[|11];have kt:∀{H1:Hp},But [x] H H1->TS H H1:=fun b p xs e=>b.at e (Bh (AT e hx %[|11]))
 refine⟨_,Aa (Bz (pv 0) (AA GR hr %[|26] (AS (pv 1) (pv 2))) rfl)
  (Aa (Bz (pv 0) (pv 1) rfl)
  (Aa (Bz (pv 0) (Ao YG (Av (AM Cc)) (pv 1)) rfl)
  (Aa (Bz (pv 0) QK rfl)
  (Aa (Bz (pv 0) (Av Bi) rfl)
  (Ai (As (Ct (pv 0) HX.cl G1 hr Al (AM (Ao TC (Av (AS Ae (AJ Jk %[|8] T.str boot_str (AM (pv 1))))) (PE.nox (Bk (N:=["sentence"]) (js:=[none]) (cl:=[]) ⟨rfl,rfl,rfl,zB2 _,rfl,rfl,rfl⟩ (AX (pv 2)) (fun c1=>(BA 0 (show (["sentence"]:List Str).Nodup by decide +kernel))) (fun c1=>BG) (fun c1=>(AA GS hr Al (AM (pv 0))))))))))))))),?_⟩
 refine⟨st,m,xs,ts,rfl,hS,hP,fun t ht=>⟨(hok t ht).1,by have:=(hok t ht).2;omega⟩,bS,bP,fun h1 H' s'=>qS h1 H' (Ag s'),fun h1 h2 H' s'=>qW h1 h2 H' (Ag s'),fun h1 h2 sp H2 s2 gY dw=>?_⟩;have b2:But [x] H H2:=Ag s2;have x2:=s2 _ _ hx;have dZ:sp≠x:=(Ah hx gY).symm;refine⟨x2,HX.cl,HX.space,%[|0],?_⟩;obtain⟨b3,x3,c3⟩:=Bq (C:=cH) (dx:=dx) (f:="space") (v:=.ref sp) (fs:=[]) (fs':=[%[|43]]) %[|28] b2;generalize upd H2 x _=H3 at *;have sp3:=c3.at dw (Bh dZ);refine⟨x3,HX.cl,HX.many,(by show 1<1000;decide),?_⟩;obtain⟨b4,x4,c4⟩:=Bq (C:=cH) (dx:=dx) (f:="many") (v:=.int m) (fs:=[%[|43]]) (fs':=[%[|43],("many",.int m)]) %[|28] b3;generalize upd H3 x _=H4 at *;have sp4:=c4.at sp3 (Bh dZ);refine⟨Rg,fun nl dD=>?_⟩;have s5:=Ab dD (.lst [.non]);have nl5:upd H4 nl (.lst [.non]) nl=some (.lst [.non]):=A0A;generalize upd H4 nl _=H5 at *;refine⟨nl,(m:Int),_,rfl,rfl,nl5,by omega,by omega,by show 1*((m:Int)).toNat<=sizeLine;exact zAD (by omega:1*((m:Int)).toNat<=5) %[|0],fun mk bU=>?_⟩;rw[Rw];have s6:=Ab bU %[|64];have mk6:upd H5 mk %[|64] mk=some %[|64]:=A0A;generalize upd H5 mk _=H6 at *;have s46:=s5.trans s6;have x6:=s46 _ _ x4;have nmx:mk≠x:=(Ah (s5 _ _ x4) bU).symm;have b6:But [x] H H6:=b4.trans (Ag s46);refine⟨x6,HX.cl,HX.marks,(by show 2<1000;decide),?_⟩;obtain⟨b7,x7,c7⟩:=Bq (C:=cH) (dx:=dx) (f:="marks") (v:=.ref mk) (fs:=[%[|43],("many",.int m)]) (fs':=[%[|43],("many",.int m),("marks",.ref mk)]) %[|28] b6;generalize upd H6 x _=H7 at *;have sp7:=c7.at (s46 _ _ sp4) (Bh dZ);have mk7:=c7.at mk6 (Bh nmx);refine fun tk htk=>?_
 have s8:=Ab htk (.dK []);have tk8:upd H7 tk (.dK []) tk=some (.dK []):=A0A;generalize upd H7 tk _=H8 at *;have x8:=s8 _ _ x7;have ntx:tk≠x:=(Ah x7 htk).symm;have b8:But [x] H H8:=b7.trans (Ag s8);refine⟨x8,HX.cl,HX.talks,(by show 3<1000;decide),?_⟩;obtain⟨b9,x9,c9⟩:=Bq (C:=cH) (dx:=dx) (f:="talks") (v:=.ref tk) (fs:=[%[|43],("many",.int m),("marks",.ref mk)]) (fs':=[%[|43],("many",.int m),("marks",.ref mk),("talks",.ref tk)]) %[|28] b8;generalize upd H8 x _=H9 at *;have sp9:=c9.at (s8 _ _ sp7) (Bh dZ);have mk9:=c9.at (s8 _ _ mk7) (Bh nmx);have tk9:=c9.at tk8 (Bh ntx);refine⟨GQ,fun ln dE=>?_⟩;have eB:=Ab dE (.lst []);have ln10:upd H9 ln (.lst []) ln=some (.lst []):=A0A;generalize upd H9 ln _=dC at *;have x10:=eB _ _ x9;have nlx:ln≠x:=(Ah x9 dE).symm;have b10:But [x] H dC:=b9.trans (Ag eB);refine⟨x10,HX.cl,HX.lines,(by show 4<1000;decide),?_⟩;obtain⟨b11,x11,c11⟩:=Bq (C:=cH) (dx:=dx) (f:="lines") (v:=.ref ln) (fs:=[%[|43],("many",.int m),("marks",.ref mk),("talks",.ref tk)]) (fs':=[%[|43],("many",.int m),("marks",.ref mk),("talks",.ref tk),("lines",.ref ln)]) %[|28] b10;generalize upd dC x _=eT at *;have sp11:=c11.at (eB _ _ sp9) (Bh dZ);have mk11:=c11.at (eB _ _ mk9) (Bh nmx);have tk11:=c11.at (eB _ _ tk9) (Bh ntx);have ln11:=c11.at ln10 (Bh nlx);have st11:=b11.at hS (Bh i7);obtain⟨U,hU⟩:∃U:Hk,U=⟨dx,sp,mk,tk,ln⟩:=⟨_,rfl⟩;have x11:eT x=some (.ins cH U.dx (Ey U m)):=by rw[hU];exact x11
 refine⟨x11,Cv,?_⟩;refine⟨(m:Int),rfl,by omega,by omega,Cy,fun al gS=>?_⟩;have cF:=Ab gS %[|73];have al12:upd eT al %[|73] al=some %[|73]:=A0A;generalize upd eT al _=iB at *;have b12:But [x] H iB:=b11.trans (Ag cF);have hP12:=A0I.keep (kt b12) hP;refine⟨⟨_,SqL.of (cF _ _ st11)⟩,fun cc acc br=>JP (vs:=ts.map fun t=>V.str (B0 t)) (rest:=[]) (SqL.of (cF _ _ st11)) br %[|1] %[|61] (fun i y b hy hb fS cY R hR=>?_) (fun v0 fS cY hac=>?_) none⟩
 ·obtain⟨t,ht,bF⟩:=BR hP12 hy;obtain⟨o1,o2⟩:=hok t (zAN ht);rw[List.getElem?_map,ht] at hb;cases hb;refine⟨y,t,rfl,bF.keep (TS.same cY),o1,o2,fun z eV hz dB=>?_⟩;rw[FK hz];exact hR eV dB
 have al13:=cY _ _ al12
 have l2:%[|62].length<=1000:=by
  rw[zA,List.length_map];show 2+ts.length<=1000;omega
 refine⟨al,acc,_,_,rfl,rfl,al13,hac,C8 (by rw[zA] at l2;exact l2),fun cl d4=>?_⟩;have dB:=Ab d4 (.lst %[|62]);have cl14:upd fS cl (.lst %[|62]) cl=some (.lst %[|62]):=A0A;generalize upd fS cl _=eV at *;have dm:=cF.trans (cY.trans dB);have b14:But [x] H eV:=b11.trans (Ag dm)
 have ew:%[|62]=%[|82].map V.str:=by
  rw[zAP,zAP,zBJ];rfl
 rw[ew] at cl14;have hsum:=FJ (ts:=ts) fun t ht=>zAD (hok t ht).2 %[|0]
 have hdig:=Jz bP;have eU:U.ln=ln:=by rw[hU]
 refine⟨x,cl,U,m,_,[],rfl,dm _ _ x11,by rw[eU];exact dm _ _ ln11,by decide,cl14,?_,?_⟩
 ·rw[zAP,zAP,zBP,zBP,zAL,zAL,List.length_map];have e5:(Str.ofString "house").length=5:=rfl;show (Str.ofString "house").length+((Str.ofString (toString (m:Int))).length+((ts.map B0).map (·.length)).sum)+(ts.length+1+1)<=100000;omega
 have back:∀{H1:Hp}{c:Addr},But [x] H H1->c≠x->H1 c=none->H c=none:=fun {H1 c} b n e=>by
  cases e0:H c with
  | none=>rfl
  | some o=>rw[b.at e0 (Bh n)] at e;cases e
 have i9:H mk=none:=back (b4.trans (Ag s5)) nmx bU;have tk0:H tk=none:=back b7 ntx htk;have ln0:H ln=none:=back b9 nlx dE;have nls:sp≠ln:=Ah sp9 dE;have nlm:mk≠ln:=Ah mk9 dE;have nlt:tk≠ln:=Ah tk9 dE
 have bq:But [x] H (upd eV U.ln (.lst ([]++[.str (BD m ts)]))):=fun b o e=>by
  obtain⟨e1,e2⟩:=Bg e;rw[eU];exact AW (by rw[Af (fun z=>by rw[z,ln0] at e1;cases e1)];exact b14.at e1 e2) e2
 refine q h1 h2 U _ bq (by rw[hU];exact gY) (by rw[hU];exact i9) (by rw[hU];exact tk0) (by rw[hU];exact ln0) ?_ ?_ ?_ ?_ A0A
 ·rw[Af (by rw[eU];exact nlx.symm)];exact dm _ _ x11
 ·rw[hU];show upd eV ln _ sp=_;rw[Af nls];exact dm _ _ sp11
 ·rw[hU];show upd eV ln _ mk=_;rw[Af nlm];exact dm _ _ mk11
 ·rw[hU];show upd eV ln _ tk=_;rw[Af nlt];exact dm _ _ tk11
end
structure A0M(N:%[|6])(C:Addr)(H:Hp)(x:Addr)(U:Hk)(m:Nat)(room:List Int)(marks:List (%[|17]))(ls:List V):Prop where
 ob:H x=some (.ins C U.dx (Ey U m))
 ln:H U.ln=some (.lst ls)
 mx:x∈N
 ml:U.ln∈N
 sp:AL (A6 N H) U.sp room
 mkm:A6 N H U.mks=some (.lst (marks.map Cz))
 len:marks.length=m
 m1:1<=m
 m5:m<=5
 wr:Wr room
 ne:room.filter (DE marks)≠[]
 l9:ls.length<=900
section
variable {N:%[|6]}{C:Addr}{H H':Hp}{x:Addr}{U:Hk}{m:Nat}{room:List Int}{marks:List (%[|17])}{ls:List V}
theorem A0M.keep(s:A0B H H')(h:%[|70]):A0M N C H' x U m room marks ls:=
 ⟨s _ _ h.ob,s _ _ h.ln,h.mx,h.ml,Ag s _ _ h.sp,Ag s _ _ h.mkm,h.len,h.m1,h.m5,h.wr,h.ne,h.l9⟩
theorem A0M.sp'(h:%[|70]):AL H U.sp room:=Ay _ _ h.sp
theorem A0M.mk'(h:%[|70]):H U.mks=some (.lst (marks.map Cz)):=Ay _ _ h.mkm
theorem A0M.xl(h:%[|70]):x≠U.ln:=AT h.ob h.ln %[|11]
end
theorem Px:(Ey U m).lookup ("many":Str)=some (.int m):=by with_unfolding_all rfl
theorem LM:(Ey U m).lookup ("marks":Str)=some (.ref U.mks):=by with_unfolding_all rfl
structure Tw where
 nm:Str
 a:Addr
 u:Tk
 w:Ta
structure HSt where
 x:Addr
 U:Hk
 m:Nat
 room:List Int
 marks:List (%[|17])
 ls:List V
 ts:List Tw
def Eu(ts:List Tw):List (Str×V):=ts.map fun p=>(p.nm,.ref p.a)
def Lj(ts:List Tw):List Addr:=ts.flatMap fun p=>[p.u.gv,p.u.lf]
def Dz(ts:List Tw):List Str:=ts.map (·.nm)
theorem Cr(h:p∈ts):p.u.gv∈Lj ts/\p.u.lf∈Lj ts:=
 ⟨List.mem_flatMap.mpr ⟨p,h,by simp⟩,List.mem_flatMap.mpr ⟨p,h,by simp⟩⟩
theorem Wc(h:a.Sublist b):(Lj a).Sublist (Lj b):=by
 induction h with
 | slnil=>exact zBZ _
 | cons x _ ih=>exact List.Sublist.trans ih (List.sublist_append_right [x.u.gv,x.u.lf] _)
 | cons_cons x _ ih=>exact List.Sublist.append (zBZ [x.u.gv,x.u.lf]) ih
theorem Li:∀{ts:List Tw}{k:Str},k∈Dz ts->∃p∈ts,p.nm=k/\BC (Eu ts) k=some (.ref p.a)
 | [],_,h=>nomatch h
 | p::ts,k,h=>by
  by_cases e:p.nm=k
  ·exact⟨p,List.mem_cons_self,e,by simp[BC,Eu,e]⟩
  ·obtain⟨q,hq,e1,e2⟩:=Li (ts:=ts) (k:=k) (by
    rcases List.mem_cons.mp h with z | z
    ·exact absurd z.symm e
    ·exact z)
   refine⟨q,List.mem_cons_of_mem _ hq,e1,?_⟩;have:BC (Eu (p::ts)) k=BC (Eu ts) k:=by simp[BC,Eu,List.find?_cons,e]
   rw[this];exact e2
theorem G0:∀{ts:List Tw}{k:Str},k∉Dz ts->BC (Eu ts) k=none
 | [],_,_=>rfl
 | p::ts,k,h=>by
  have e:¬p.nm=k:=fun z=>h (by rw[<-z];exact List.mem_cons_self)
  have:BC (Eu (p::ts)) k=BC (Eu ts) k:=by simp[BC,Eu,List.find?_cons,e]
  rw[this];exact G0 fun z=>h (List.mem_cons_of_mem _ z)
theorem Pw(ts:List Tw)(k:Str):(BC (Eu ts) k).isSome=decide (k∈Dz ts):=by
 by_cases h:k∈Dz ts
 ·obtain⟨p,_,_,e⟩:=Li h;rw[e,decide_eq_true h];rfl
 ·rw[G0 h,decide_eq_false h];rfl
theorem Yx(ts:List Tw)(k:Str):P2 (Eu ts) k=Eu (ts.filter fun p=>decide (p.nm≠k)):=by
 unfold P2 Eu;rw[List.filter_map];rfl
structure A0C(M:%[|6])(C cK:Addr)(H:Hp)(S:HSt):Prop where
 h:A0M M C H S.x S.U S.m S.room S.marks S.ls
 tk:H S.U.tk=some (.dK (dS (Eu S.ts)))
 mt:S.U.tk∈M
 tt:∀p∈S.ts,A0D M cK H p.a p.u p.w/\p.w.room=S.room/\p.w.many=S.m
 nl:(S.U.ln::Lj S.ts).Nodup
 na:(Dz S.ts).Nodup
 aa:(S.ts.map (·.a)).Nodup
 fr:∀b∈M,H b≠none
 tl:S.ts.length<=900
section
variable {M N:%[|6]}{C cK:Addr}{H H':Hp}{S:HSt}{x:Addr}{U:Hk}{m:Nat}{room:List Int}{marks:List (%[|17])}{ls:List V}
theorem De(s:A0B H H')(hn:∀n∈N,H n=none):A0B (A6 M H) (A6 (N++M) H'):=fun p u e=>by
 obtain⟨e1,e2⟩:=Bg e;refine AW (s _ _ e1) fun z=>?_
 rcases List.mem_append.mp z with q | q
 ·rw[hn p q] at e1;cases e1
 ·exact e2 q
theorem A0M.more(h:A0M M C H x U m room marks ls)(s:A0B H H')(hn:∀n∈N,H n=none):A0M (N++M) C H' x U m room marks ls:=by
 have k:=De (M:=M) s hn;exact⟨s _ _ h.ob,s _ _ h.ln,zAG _ h.mx,zAG _ h.ml,k _ _ h.sp,k _ _ h.mkm,h.len,h.m1,h.m5,h.wr,h.ne,h.l9⟩
theorem A0C.keep(s:A0B H H')(h:%[|23]):A0C M C cK H' S:=
 ⟨h.h.keep s,s _ _ h.tk,h.mt,fun p hp=>⟨(h.tt p hp).1.keep s,(h.tt p hp).2⟩,h.nl,h.na,h.aa,fun b hb z=>h.fr b hb (s.free z),h.tl⟩
theorem A0C.wrote(h:%[|23])(l:V)(hl:S.ls.length<900):A0C M C cK (upd H S.U.ln (.lst (S.ls++[l]))) { S with ls:=S.ls++[l] }:=by
 have hx:=h.h;have eu:A6 M (upd H S.U.ln (.lst (S.ls++[l])))=A6 M H:=Bt hx.ml;refine⟨⟨by rw[Af hx.xl];exact hx.ob,A0A,hx.mx,hx.ml,by rw[eu];exact hx.sp,by rw[eu];exact hx.mkm,hx.len,hx.m1,hx.m5,hx.wr,hx.ne,by show (S.ls++[l]).length<=900;rw[zA];exact hl⟩,?_,h.mt,fun p hp=>⟨?_,(h.tt p hp).2⟩,h.nl,h.na,h.aa,fun b hb=>?_,h.tl⟩
 ·exact (Af (AT h.tk hx.ln %[|11])).trans h.tk
 ·have ht:=(h.tt p hp).1;have nl:=(List.nodup_cons.mp h.nl).1;have n1:p.u.gv≠S.U.ln:=fun z=>nl (by rw[<-z];exact (Cr hp).1)
  have n2:p.u.lf≠S.U.ln:=fun z=>nl (by rw[<-z];exact (Cr hp).2)
  exact ht.but (But.upd hx.ml) (Af (AT ht.ob hx.ln %[|11])) (Af n1) (Af n2)
 ·by_cases e:b=S.U.ln
  ·rw[e,A0A];exact fun z=>by cases z
  ·rw[Af e];exact h.fr b hb
theorem A0C.put(h:A0M M C H S.x S.U S.m S.room S.marks S.ls)(e:H S.U.tk=some (.dK d0))(mt:S.U.tk∈M)(tt:∀p∈ts,A0D M cK H p.a p.u p.w/\p.w.room=S.room/\p.w.many=S.m)(nl:(S.U.ln::Lj ts).Nodup)(na:(Dz ts).Nodup)(aa:(ts.map (·.a)).Nodup)(fr:∀b∈M,H b≠none)(tl:ts.length<=900):A0C M C cK (upd H S.U.tk (.dK (dS (Eu ts)))) { S with ts:=ts }:=by
 have eu:A6 M (upd H S.U.tk (.dK (dS (Eu ts))))=A6 M H:=Bt mt;refine⟨⟨(Af (AT h.ob e %[|11])).trans h.ob,(Af (AT h.ln e %[|11])).trans h.ln,h.mx,h.ml,by rw[eu];exact h.sp,by rw[eu];exact h.mkm,h.len,h.m1,h.m5,h.wr,h.ne,h.l9⟩,A0A,mt,fun p hp=>⟨?_,(tt p hp).2⟩,nl,na,aa,fun b hb=>?_,tl⟩
 ·have ht:=(tt p hp).1;exact ht.but (But.upd mt) (Af (AT ht.ob e %[|11])) (Af (AT ht.gv e %[|11])) (Af (AT ht.lf e %[|11]))
 ·by_cases c:b=S.U.tk
  ·rw[c,A0A];exact fun z=>by cases z
  ·rw[Af c];exact fr b hb
theorem A0C.more{n:Str}{a:Addr}{u:Tk}{w:Ta}(h:%[|23])(s:A0B H H')(a0:H a=none)(g0:H u.gv=none)(l0:H u.lf=none)(ht:A0D (a::u.gv::u.lf::M) cK H' a u w)(hr:w.room=S.room)(hm:w.many=S.m)(hn:n∉Dz S.ts)(hl:S.ts.length<900):
  A0C (a::u.gv::u.lf::M) C cK (upd H' S.U.tk (.dK (dS (Eu (S.ts++[⟨n,a,u,w⟩]))))) { S with ts:=S.ts++[⟨n,a,u,w⟩] }:=by
 have hN:∀b∈[a,u.gv,u.lf],H b=none:=fun b hb=>by
  simp only[zAC,zAA,or_false] at hb;rcases hb with rfl | rfl | rfl
  ·exact a0
  ·exact g0
  ·exact l0
 have fv:∀p∈S.ts,H p.u.gv≠none/\H p.u.lf≠none/\H p.a≠none:=fun p hp=>by
  have t:=(h.tt p hp).1;refine⟨?_,?_,?_⟩<;>intro z
  ·rw[t.gv] at z;cases z
  ·rw[t.lf] at z;cases z
  ·rw[t.ob] at z;cases z
 refine A0C.put (S:=S) (h.h.more (N:=[a,u.gv,u.lf]) s hN) (s _ _ h.tk) (zAG [a,u.gv,u.lf] h.mt) (fun p hp=>?_) ?_ ?_ ?_ (fun b hb=>?_) ?_
 ·rcases List.mem_append.mp hp with q | q
  ·exact⟨(h.tt p q).1.cutmore (N:=[a,u.gv,u.lf]) s hN,(h.tt p q).2⟩
  ·rw[List.mem_singleton.mp q];exact⟨ht,hr,hm⟩
 ·have e:S.U.ln::Lj (S.ts++[⟨n,a,u,w⟩])=(S.U.ln::Lj S.ts)++[u.gv,u.lf]:=by
   unfold Lj;rw[List.flatMap_append];rfl
  rw[e]
  have dL:∀b∈S.U.ln::Lj S.ts,H b≠none:=fun b hb z=>by
   rcases List.mem_cons.mp hb with q | q
   ·rw[q,h.h.ln] at z;cases z
   ·obtain⟨p,hp,q2⟩:=List.mem_flatMap.mp q;simp only[zAC,zAA,or_false] at q2;rcases q2 with rfl | rfl
    ·exact (fv p hp).1 z
    ·exact (fv p hp).2.1 z
  refine List.nodup_append.mpr ⟨h.nl,?_,fun b hb c hc=>?_⟩
  ·exact List.nodup_cons.mpr ⟨fun z=>ht.ne (List.mem_singleton.mp z),List.nodup_cons.mpr ⟨(fun z=>by cases z),zBI⟩⟩
  ·rintro rfl;exists 4;rcases hc with rfl | rfl
   ·exact dL _ hb g0
   ·exact dL _ hb l0
 ·show ((S.ts++[(⟨n,a,u,w⟩:Tw)]).map Tw.nm).Nodup;rw[List.map_append];refine List.nodup_append.mpr ⟨h.na,List.nodup_cons.mpr ⟨(fun z=>by cases z),zBI⟩,fun b hb c hc=>?_⟩;rintro rfl;rw[List.mem_singleton.mp hc] at hb;exact hn hb
 ·rw[List.map_append];refine List.nodup_append.mpr ⟨h.aa,List.nodup_cons.mpr ⟨(fun z=>by cases z),zBI⟩,fun b hb c hc=>?_⟩;rintro rfl;rw[List.mem_singleton.mp hc] at hb;obtain⟨p,hp,e⟩:=List.mem_map.mp hb;exact (fv p hp).2.2 (by rw[e];exact a0)
 ·intro z;simp only[zAC] at hb;rcases hb with rfl | rfl | rfl | hb
  ·rw[ht.ob] at z;cases z
  ·rw[ht.gv] at z;cases z
  ·rw[ht.lf] at z;cases z
  ·exact h.fr b hb (s.free z)
 ·rw[zA];exact hl
theorem A0C.less(h:%[|23])(k:Str):A0C M C cK (upd H S.U.tk (.dK (dS (Eu (S.ts.filter fun p=>decide (p.nm≠k)))))) { S with ts:=S.ts.filter fun p=>decide (p.nm≠k) }:=by
 have sub:(S.ts.filter fun p=>decide (p.nm≠k)).Sublist S.ts:=zAO;refine A0C.put (S:=S) h.h h.tk h.mt (fun p hp=>h.tt p (sub.subset hp)) ?_ ((sub.map _).nodup h.na) ((sub.map _).nodup h.aa) h.fr (zAD sub.length_le h.tl);exact (List.Sublist.cons_cons _ (Wc sub)).nodup h.nl
end
theorem Dg:(Ey U m).lookup ("talks":Str)=some (.ref U.tk):=by with_unfolding_all rfl
abbrev Ga:Stmt:=AZ (Bu 56) 27
abbrev HB:Stmt:=AZ (Bu 56) 26
abbrev Ig:Stmt:=AZ (Bu 56) 25
abbrev OA:Stmt:=AZ (Bu 56) 8
theorem ID:(Ey U m).lookup ("refuse_new_name":Str)=none:=by with_unfolding_all rfl
theorem JK:(Ey U m).lookup ("refuse_no_talk":Str)=none:=by with_unfolding_all rfl
theorem D6:(Ey U m).lookup ("talk_of":Str)=none:=by with_unfolding_all rfl
theorem UL:(Ey U m).lookup ("drop":Str)=none:=by with_unfolding_all rfl
theorem Uc:(Ey U m).lookup ("begin":Str)=none:=by with_unfolding_all rfl
theorem UD:(Ey U m).lookup ("fork":Str)=none:=by with_unfolding_all rfl
def C8(c:Nat):Bool:=decide (97<=c/\c<=122)
def A0F(k:Str):Prop:=1<=k.length/\k.length<=8/\k.cps.toList.all C8=true
instance(k:Str):Decidable (A0F k):=by unfold A0F;infer_instance
theorem Y3:∀c:Nat,c<128->(!(Builtin.Str.occurrences ("abcdefghijklmnopqrstuvwxyz":Str) (⟨#[c]⟩:Str) 0 ("abcdefghijklmnopqrstuvwxyz":Str).length 1).isEmpty)=C8 c:=by decide +kernel
theorem Ni{z:Str}{f:Nat->Bool}(br:H acc=none)(bo:z.length<=900)(ht:∀c,c∈z.cps.toList->∀H2,A0B H H2->∀R:V->Hp->Prop,(∀H3,A0B H2 H3->R (.bl (f c)) H3)->te (some (.str ⟨#[c]⟩)::rest) H2 R)(hd:∀v0 H2,A0B H H2->H2 acc=some (.lst ((z.cps.toList.map f).map V.bl))->D.nx (v0::rest) H2)(v:Option V):
  EE (Zk z) (Cu 0) (Dx M8 (DC acc te)) D (v::rest) (upd H acc (.lst [])):=by
 refine U5 (z:=z) (fun i σ H2=>∃v0,σ=v0::rest/\A0B H H2/\H2 acc=some (.lst (((z.cps.toList.take i).map f).map V.bl))) ⟨v,rfl,Ab br _,A0A⟩ ?_ ?_
 ·rintro i c σ H2 hx ⟨v0,rfl,s2,bK⟩;have hc:z.cps.toList[i]? = some c:=by simpa using hx
  have hi:i<z.cps.toList.length:=(List.getElem?_eq_some_iff.mp hc).1;have hlz:z.cps.toList.length=z.length:=by simp[Str.length]
  refine AB ?_;refine ht c (zAN hc) H2 s2 _ fun H3 s3=>?_
  refine⟨_,s3 _ _ bK,Ar ?_,?_⟩
  ·rw[List.length_map,List.length_map,zAW];omega
  refine⟨_,rfl,Ap (s2.trans s3) br _,?_⟩;rw[A0A,zAR,hc,List.map_append,List.map_append];rfl
 ·rintro σ H2 ⟨v0,rfl,s2,bK⟩;have hlz:z.length=z.cps.toList.length:=by simp[Str.length]
  rw[hlz,zAQ] at bK;exact hd v0 H2 s2 bK
inductive Dp(C cK dt cV:Addr)(vs:List V)(H:Hp)(Q:VK)(E:XK):Prop where
 | mk (M:%[|6]) (S:HSt) (k:Str) (_:vs=[.ref S.x,.str k]) (_:%[|23]) (_:k.length<=100) (_:(∀c∈k.cps.toList,c<128)) (_:(¬A0F k->∀H',A0B H H'->E (.ref dt) none H')) (_:(A0F k->k∈Dz S.ts->∀H',A0B H H'->E (.ref cV) none H')) (_:(A0F k->k∉Dz S.ts->∀H',A0B H H'->Q .non H')):Dp C cK dt cV vs H Q E
inductive Ei(C cK bG:Addr)(vs:List V)(H:Hp)(Q:VK)(E:XK):Prop where
 | mk (M:%[|6]) (S:HSt) (k:Str) (_:vs=[.ref S.x,.str k]) (_:%[|23]) (_:(k∉Dz S.ts->E (.ref bG) none H)) (_:(k∈Dz S.ts->Q .non H)):Ei C cK bG vs H Q E
inductive CK(C cK bG:Addr)(vs:List V)(H:Hp)(Q:VK)(E:XK):Prop where
 | mk (M:%[|6]) (S:HSt) (k:Str) (_:vs=[.ref S.x,.str k]) (_:%[|23]) (_:(k∉Dz S.ts->E (.ref bG) none H)) (_:(∀p∈S.ts,p.nm=k->Q (.ref p.a) H)):CK C cK bG vs H Q E
def IP(S:HSt)(k:Str):HSt:={ S with ts:=S.ts.filter fun p=>decide (p.nm≠k),ls:=S.ls++[.str (AD ["drop",k])] }
inductive Kp(C cK bG:Addr)(vs:List V)(H:Hp)(Q:VK)(E:XK):Prop where
 | mk (M:%[|6]) (S:HSt) (k:Str) (_:vs=[.ref S.x,.str k]) (_:%[|23]) (_:k.length<=100) (_:S.ls.length<900) (_:(k∉Dz S.ts->E (.ref bG) none H)) (_:(k∈Dz S.ts->∀H',But [S.U.tk,S.U.ln] H H'->A0C M C cK H' (IP S k)->Q .non H')):Kp C cK bG vs H Q E
section
variable {P:Program}{w:World}{K:PySem.W.Frag}{mg:Str->%[|4]}{f:Addr}{cH cK cS cW cL cT dt cV bG:Addr}
def Ov:=Aw Ga ["self","name"] 2
def QO:=Aw HB ["self","name"] 2
def QJ:=Aw Ig ["self","name"] 2
def Wj:=Aw OA ["self","name"] 2
theorem MW(F:%[|37] cH "refuse_no_talk" "House.refuse_no_talk" HB)(HX:K9 K cH)(XNK:BE K mg "NoTalk" bG cT):%[|16] "refuse_no_talk" (Cb P w) 2 (Ei cH cK bG):=by
 refine F.okX QO ?_;rintro bz f bp A outer s H _ Q E hr ⟨M,S,k,rfl,hT,qE,q⟩
 refine⟨_,Ai (Au (Cf Qq (pv 1) %[|18] %[|28])
   (Ai (Bn (Ex:=E) BB rfl XNK.cls XNK.at_ XNK.ty %[|8] XNK.m (AM Ae) (hvl:=fun _ _ _ h=>⟨by decide,h⟩)))
   Ak),?_⟩
 refine⟨hT.h.ob,HX.cl,HX.talks,Dg,S.U.tk,_,k,rfl,rfl,hT.tk,?_⟩;rw[Pw];by_cases c:k∈Dz S.ts
 ·rw[decide_eq_true c];exact Aq (q c)
 ·rw[decide_eq_false c];exact AB (qE c)
theorem Nm(F:%[|37] cH "talk_of" "House.talk_of" Ig)(HX:K9 K cH)(G1:%[|16] "refuse_no_talk" (Cb P w) 2 (Ei cH cK bG)):%[|16] "talk_of" (Cb P w) 3 (CK cH cK bG):=by
 refine F.okX QJ ?_;rintro bz f bp A outer s H _ Q E hr ⟨M,S,k,rfl,hT,qE,q⟩
 refine⟨_,Aa (As (Ct (pv 0) HX.cl G1 hr %[|26] (AM (pv 1))))
  (A5 (An AE %[|18] (pv 1))),?_⟩
 refine⟨hT.h.ob,JK,M,S,k,rfl,hT,fun c=>qE c,fun c=>?_⟩;obtain⟨p,hp,e1,e2⟩:=Li c;exact⟨hT.h.ob,HX.cl,HX.talks,Dg,hT.tk,e2,q p hp e1⟩
theorem SE(F:%[|37] cH "drop" "House.drop" OA)(HX:K9 K cH)(G1:%[|16] "refuse_no_talk" (Cb P w) 2 (Ei cH cK bG))(G2:%[|16] "write" AH 2 (BU cH)):%[|16] "drop" (Cb P w) 3 (Kp cH cK bG):=by
 refine F.okX Wj ?_;rintro bz f bp A outer s H _ Q E hr ⟨M,S,k,rfl,hT,fQ,d3,qE,q⟩
 refine⟨_,Aa (As (Ct (pv 0) HX.cl G1 hr %[|26] (AM (pv 1))))
  (Aa (As (DA PySem.F.plainAttrs_dict PySem.F.slot_dict_pop PySem.F.type_dict_pop Wn %[|18] (AM (pv 1))))
  (Ai (As (Ct (pv 0) HX.cl G2 hr Al (AM (Av (AS Ae (pv 1)))))))),?_⟩
 refine⟨hT.h.ob,JK,M,S,k,rfl,hT,fun c=>qE c,fun c=>?_⟩;obtain⟨p,hp,e1,e2⟩:=Li c;refine⟨hT.h.ob,HX.cl,HX.talks,Dg,?_,S.U.tk,_,k,_,rfl,rfl,hT.tk,e2,?_⟩
 ·exact .inr (.inr (.inl ⟨rfl,.inl ⟨_,hT.tk⟩⟩))
 rw[Yx];have cv:=hT.less k;have b1:But [S.U.tk,S.U.ln] H (upd H S.U.tk (.dK (dS (Eu (S.ts.filter fun p=>decide (p.nm≠k)))))):=But.upd %[|2];generalize upd H S.U.tk _=H1 at *;refine⟨cv.h.ob,Cv,Cy,fun l hl=>?_⟩;have s2:=Ab hl (.lst [.str "drop",.str k]);have l2:upd H1 l (.lst [.str "drop",.str k]) l=some (.lst ([("drop":Str),k].map V.str)):=A0A;generalize upd H1 l _=H2 at *;have cp:=cv.keep s2;refine⟨S.x,l,S.U,S.m,[("drop":Str),k],S.ls,rfl,cp.h.ob,cp.h.ln,by omega,l2,?_,?_⟩
 ·show ("drop":Str).length+(k.length+0)+2<=100000;have:("drop":Str).length=4:=rfl;omega
 have fT:=cp.wrote (.str (AD ["drop",k])) d3;exact q c _ ((b1.trans (Ag s2)).trans (But.upd %[|2])) fT
theorem MA(F:%[|37] cH "refuse_new_name" "House.refuse_new_name" Ga)(HX:K9 K cH)(T:Fz mg)(B:Bl mg)(XBN:BE K mg "BadName" dt cT)(XNT:BE K mg "NameTaken" cV cT)(mNS:mg "NAME_SIGNS"=some (.str "abcdefghijklmnopqrstuvwxyz" tN))(mLN:mg "LONGEST_NAME"=some (.int 8 tI)):%[|16] "refuse_new_name" (Cb P w) 2 (Dp cH cK dt cV):=by
 refine F.okX Ov ?_;rintro bz f bp A outer s H _ Q E hr ⟨M,S,k,rfl,hT,fQ,eO,qB,qN,q⟩
 refine⟨_,Aa (Au (PW.pt (O2 (CB (Ul WK WK Ad (AK Kz %[|8] B.len zA4 (AM (pv 1))) (Eh (v:=.int 8) %[|8] mLN ⟨_,rfl⟩))) (Ld (CB (Bv (AK (Eo rfl) %[|8] T.all boot_all (AM (PE.nox (Bk (N:=["sign"]) (js:=[none]) (cl:=[]) ⟨rfl,rfl,rfl,zB2 _,rfl,rfl,rfl⟩ (Yz (pv 1)) (fun c1=>(BA 0 (show (["sign"]:List Str).Nodup by decide +kernel))) (fun c1=>BG) (fun c1=>(Bx QD (pv 0) (Eh (v:=.str "abcdefghijklmnopqrstuvwxyz") %[|8] mNS ⟨_,rfl⟩) %[|28])))))))))))
   (Ai (Bn (Ex:=E) BB rfl XBN.cls XBN.at_ XBN.ty %[|8] XBN.m (AM Ae) (hvl:=fun _ _ _ h=>⟨by decide,h⟩)))
   Ak)
  (Ai (Au (Cf Yv (pv 1) %[|18] %[|28])
   (Ai (Bn (Ex:=E) BB rfl XNT.cls XNT.at_ XNT.ty %[|8] XNT.m (AM Ae) (hvl:=fun _ _ _ h=>⟨by decide,h⟩)))
   Ak)),?_⟩
 have bo:k.length<=sizeLine:=zAD fQ %[|0];have gK:¬(1<=k.length/\k.length<=8)->¬A0F k:=fun h g=>h ⟨g.1,g.2.1⟩
 refine⟨k,rfl,bo,_,rfl,Ci (fun c1=>?_) (fun c1=>?_)⟩
 ·refine Ci (fun c2=>?_) (fun c2=>?_)
  ·exact AB (qB (gK fun z=>by simp at c2;omega) H (A0B.refl _))
  ·have dL:1<=k.length/\k.length<=8:=by simp at c1 c2;omega
   refine⟨k,rfl,fun cc acc br=>Ni (f:=C8) br (zAD fQ %[|0]) (fun c hc H2 s2 R hR=>?_) (fun v0 H2 s2 ha=>?_) _⟩
   ·refine⟨_,_,rfl,rfl,?_⟩;rw[Y3 c (eO c hc)];exact hR H2 (A0B.refl _)
   refine⟨acc,_,rfl,SqL.of ha,Ci (fun c3=>?_) (fun c3=>?_)⟩
   ·exact qB (fun g=>by
     have:=g.2.2
     rw[zDB] at c3
     simp at c3 this
     obtain⟨c,hc,iu⟩:=c3
     rw[this c hc] at iu
     cases iu) H2 s2
   have hg:A0F k:=⟨dL.1,dL.2,by
    rw[zDB] at c3
    simp at c3
    simpa using c3⟩
   have cp:=hT.keep s2;refine⟨cp.h.ob,HX.cl,HX.talks,Dg,S.U.tk,_,k,rfl,rfl,cp.tk,?_⟩;rw[Pw];by_cases c:k∈Dz S.ts
   ·rw[decide_eq_true c];exact AB (qN hg c H2 s2)
   ·rw[decide_eq_false c];exact Aq (q hg c H2 s2)
 ·exact AB (AB (qB (gK fun z=>by simp at c1;omega) H (A0B.refl _)))
end
abbrev KW:Stmt:=AZ (Bu 56) 6
abbrev OB:Stmt:=AZ (Bu 56) 7
def Lw(S:HSt)(p:Tw)(l:Str):HSt:={ S with ts:=S.ts++[p],ls:=S.ls++[.str l] }
inductive IW(C cK dt cV cS cB cN:Addr)(vs:List V)(H:Hp)(Q:VK)(E:XK):Prop where
 | mk (M:%[|6]) (S:HSt) (n kind rule:Str) (v:V) (t:Tr) (_:vs=[.ref S.x,.str n,.str kind,v,.str rule]) (_:%[|23]) (_:n.length<=100) (_:(∀c∈n.cps.toList,c<128)) (_:t.At (A6 M H) v) (_:t.ok 5) (_:t.size<=23) (_:kind.length<=100) (_:rule.length<=100) (_:S.ls.length<900) (_:S.ts.length<900) (_:(¬A0F n->∀H',A0B H H'->E (.ref dt) none H')) (_:(A0F n->n∈Dz S.ts->∀H',A0B H H'->E (.ref cV) none H')) (_:(A0F n->n∉Dz S.ts->¬t.ok S.m->∀H',A0B H H'->E (.ref cS) none H')) (_:(A0F n->n∉Dz S.ts->t.ok S.m->¬(BY rule/\BF kind)->∀H',A0B H H'->E (.ref cB) none H')) (_:(A0F n->n∉Dz S.ts->t.ok S.m->BY rule->BF kind->[]∈AQ kind t S.room->∀H',A0B H H'->E (.ref cN) none H')) (_:(A0F n->n∉Dz S.ts->t.ok S.m->BY rule->BF kind->[]∉AQ kind t S.room->∀(a:Addr)(u:Tk)(H':Hp),But [S.U.tk,S.U.ln] H H'->H a=none->H u.gv=none->H u.lf=none->A0C (a::u.gv::u.lf::M) C cK H' (Lw S ⟨n,a,u,BO S.m kind rule t S.room⟩ (AD ["begin",n,rule,kind,B0 t]))->Q .non H')):IW C cK dt cV cS cB cN vs H Q E
inductive Ky(C cK bG dt cV:Addr)(vs:List V)(H:Hp)(Q:VK)(E:XK):Prop where
 | mk (M:%[|6]) (S:HSt) (k n:Str) (_:vs=[.ref S.x,.str k,.str n]) (_:%[|23]) (_:k.length<=100) (_:n.length<=100) (_:(∀c∈n.cps.toList,c<128)) (_:S.ls.length<900) (_:S.ts.length<900) (_:(k∉Dz S.ts->E (.ref bG) none H)) (_:(k∈Dz S.ts->¬A0F n->∀H',A0B H H'->E (.ref dt) none H')) (_:(k∈Dz S.ts->A0F n->n∈Dz S.ts->∀H',A0B H H'->E (.ref cV) none H')) (_:(∀p∈S.ts,p.nm=k->A0F n->n∉Dz S.ts->∀(a:Addr)(u:Tk)(H':Hp),But [S.U.tk,S.U.ln] H H'->H a=none->H u.gv=none->H u.lf=none->A0C (a::u.gv::u.lf::M) C cK H' (Lw S ⟨n,a,u,p.w⟩ (AD ["fork",k,n]))->Q .non H')):Ky C cK bG dt cV vs H Q E
section
variable {P:Program}{w:World}{K:PySem.W.Frag}{mg:Str->%[|4]}{cH cK cS cB cN cT dt cV bG:Addr}
def Us:=Aw KW ["self","name","kind","sentence","rule"] 5
def scHFork:=Aw OB ["self","name","other","talk"] 3
theorem Qt(F:%[|37] cH "begin" "House.begin" KW)(HX:K9 K cH)(G1:%[|16] "refuse_new_name" (Cb P w) 2 (Dp cH cK dt cV))(GI:Fi P w K mg cK "Talk" (Cb P w) 5 (Hl cK cS cB cN))(GS:%[|3] "shown" AH 1 Ff)(G2:%[|16] "write" AH 2 (BU cH)):%[|16] "begin" (Cb P w) 7 (IW cH cK dt cV cS cB cN):=by
 refine F.okX Us ?_;rintro bz f bp A outer s H _ Q E hr ⟨M,S,n,kind,rule,v,t,rfl,hT,gR,eO,ha,dr,hsz,fQ,hr1',d3,ht9,qB,qN,qS,qW,qG,q⟩;have cr:A0J 1 _:=hr.mono %[|0]
 refine⟨_,Aa (As (Ct (pv 0) HX.cl G1 hr %[|26] (AM (pv 1))))
  (Aa (B8 (Xi GI hr %[|26] (Aj %[|18] (Aj %[|18] (Aj (pv 2) (AS (pv 3) (pv 4)))))) (Ca %[|18] (pv 1) Me))
  (Ai (As (Ct (pv 0) HX.cl G2 hr Al (AM (Av (Aj Ae (Aj (pv 1) (Aj (pv 4) (AS (pv 2) (AA GS cr Al (AM (pv 3))))))))))))),?_⟩
 refine⟨hT.h.ob,ID,M,S,n,rfl,hT,gR,eO,fun c=>qB c,fun c c2=>qN c c2,fun hg g5 H1 s1=>?_⟩;have cv:=hT.keep s1;have fY:=ha.keep (TS.same (Ag s1));refine⟨cv.h.ob,HX.cl,HX.many,Px,cv.h.ob,HX.cl,HX.space,HR,fun x dx hx gH gJ=>?_⟩;have sM:A0B H1 (upd (upd H1 dx (.own x)) x (.ins cK dx [])):=(Ab gH _).trans (Ab (by rw[Af gJ.symm];exact hx) _);have xM:x∉M:=fun z=>cv.fr x z hx
 refine⟨x,dx,S.U.sp,S.m,kind,rule,v,t,S.room,M,rfl,A0A,xM,fun m hm z=>cv.fr m hm (sM.free z),fY.keep (TS.same (Ag sM)),dr,hsz,hT.h.m5,sM _ _ cv.h.sp',hT.h.wr,
  fun c H' b=>qS hg g5 c H' (s1.trans (CN hx gH gJ b)),fun c c2 H' b=>qW hg g5 c c2 H' (s1.trans (CN hx gH gJ b)),fun c c2 c3 c4 H' b=>qG hg g5 c c2 c3 c4 H' (s1.trans (CN hx gH gJ b)),fun c c2 c3 c4 u H2 b2 gv0 lf0 gY esv ht=>⟨rfl,?_⟩⟩
 have s2:A0B H1 H2:=CN hx gH gJ b2;obtain⟨gv1,_,_⟩:=B3 (C:=cK) gv0;obtain⟨lf1,_,_⟩:=B3 (C:=cK) lf0;have cp:=cv.keep s2;refine⟨cp.h.ob,HX.cl,HX.talks,Dg,S.U.tk,_,n,rfl,rfl,cp.tk,G0 g5,(by show (S.ts.map _).length<=1000;rw[List.length_map];omega),?_⟩;have ed:Eu S.ts++[(n,V.ref x)]=Eu (S.ts++[⟨n,x,u,BO S.m kind rule t S.room⟩]):=by unfold Eu;rw[List.map_append];rfl
 rw[ed];have fT:=cv.more (n:=n) s2 hx gv1 lf1 ht rfl rfl g5 ht9;have b3:But [S.U.tk,S.U.ln] H (upd H2 S.U.tk (.dK (dS (Eu (S.ts++[⟨n,x,u,BO S.m kind rule t S.room⟩]))))):=(Ag (s1.trans s2)).trans (But.upd %[|2])
 have eP:t.At (upd H2 S.U.tk (.dK (dS (Eu (S.ts++[⟨n,x,u,BO S.m kind rule t S.room⟩]))))) v:=by
  have k:A0B (A6 M H) (A6 M (upd H2 S.U.tk (.dK (dS (Eu (S.ts++[⟨n,x,u,BO S.m kind rule t S.room⟩])))))):=(Ag (s1.trans s2)).trans (But.upd hT.mt);exact ha.keep (TS.same (k.trans Ay))
 generalize upd H2 S.U.tk _=H3 at *;refine⟨fT.h.ob,Cv,v,t,rfl,eP,dr,hsz,fun z H4 hz s4=>?_⟩;have ez:=FK hz;subst ez;refine⟨SJ,fun l hl=>?_⟩;have s5:=Ab hl (.lst [.str "begin",.str n,.str rule,.str kind,.str (B0 t)]);have l5:upd H4 l (.lst [.str "begin",.str n,.str rule,.str kind,.str (B0 t)]) l=some (.lst ([("begin":Str),n,rule,kind,B0 t].map V.str)):=A0A;generalize upd H4 l _=H5 at *;have g6:=fT.keep (s4.trans s5);refine⟨S.x,l,S.U,S.m,[("begin":Str),n,rule,kind,B0 t],S.ls,rfl,g6.h.ob,g6.h.ln,by omega,l5,?_,?_⟩
 ·show ("begin":Str).length+(n.length+(rule.length+(kind.length+((B0 t).length+0))))+5<=100000;have:("begin":Str).length=5:=rfl;have:=EZ t;omega
 have hT6:=g6.wrote (.str (AD ["begin",n,rule,kind,B0 t])) d3;exact q hg g5 c c2 c3 c4 x u _ ((b3.trans (Ag (s4.trans s5))).trans (But.upd %[|2])) (s1.free hx) (s1.free gv1) (s1.free lf1) hT6
theorem Rz(F:%[|37] cH "fork" "House.fork" OB)(HX:K9 K cH)(TX:LR K cK)(G1:%[|16] "talk_of" (Cb P w) 3 (CK cH cK bG))(G2:%[|16] "refuse_new_name" (Cb P w) 2 (Dp cH cK dt cV))(G3:%[|48] "fork" AH 7 (Lc cK))(G4:%[|16] "write" AH 2 (BU cH)):%[|16] "fork" (Cb P w) 8 (Ky cH cK bG dt cV):=by
 refine F.okX scHFork ?_;rintro bz f bp A outer s H _ Q E hr ⟨M,S,k,n,rfl,hT,fQ,gR,eO,d3,ht9,qK,qB,qN,q⟩
 refine⟨_,Aa (Az 3 scHFork.nd (Ct (pv 0) HX.cl G1 hr %[|26] (AM (pv 1))))
  (Aa (As (Ct (pv 0) HX.cl G2 hr %[|26] (AM (pv 2))))
  (Aa (B8 (DR (pv 3) TX.cl G3 hr Al) (Ca %[|18] (pv 2) Me))
  (Ai (As (Ct (pv 0) HX.cl G4 hr Al (AM (Av (Aj Ae (AS (pv 1) (pv 2)))))))))),?_⟩
 refine⟨hT.h.ob,D6,M,S,k,rfl,hT,fun c=>qK c,fun p hp ep=>?_⟩;have hkin:k∈Dz S.ts:=by rw[<-ep];exact zA9 hp
 refine⟨hT.h.ob,ID,M,S,n,rfl,hT,gR,eO,fun c=>qB hkin c,fun c c2=>qN hkin c c2,fun hg g5 H1 s1=>?_⟩;have cv:=hT.keep s1;have tp:=(cv.tt p hp);refine⟨tp.1.ob,VU,p.a,M,p.u,p.w,rfl,tp.1,cv.fr,fun a u H2 s2 a0 g0 l0 ht=>?_⟩;have cp:=cv.keep s2;refine⟨cp.h.ob,HX.cl,HX.talks,Dg,S.U.tk,_,n,rfl,rfl,cp.tk,G0 g5,(by show (S.ts.map _).length<=1000;rw[List.length_map];omega),?_⟩;have ed:Eu S.ts++[(n,V.ref a)]=Eu (S.ts++[⟨n,a,u,p.w⟩]):=by unfold Eu;rw[List.map_append];rfl
 rw[ed];have fT:=cv.more (n:=n) s2 a0 g0 l0 ht tp.2.1 tp.2.2 g5 ht9;have b3:But [S.U.tk,S.U.ln] H (upd H2 S.U.tk (.dK (dS (Eu (S.ts++[⟨n,a,u,p.w⟩]))))):=(Ag (s1.trans s2)).trans (But.upd %[|2]);generalize upd H2 S.U.tk _=H3 at *;refine⟨fT.h.ob,Cv,No,fun l hl=>?_⟩;have s4:=Ab hl (.lst [.str "fork",.str k,.str n]);have l4:upd H3 l (.lst [.str "fork",.str k,.str n]) l=some (.lst ([("fork":Str),k,n].map V.str)):=A0A;generalize upd H3 l _=H4 at *;have fD:=fT.keep s4;refine⟨S.x,l,S.U,S.m,[("fork":Str),k,n],S.ls,rfl,fD.h.ob,fD.h.ln,by omega,l4,?_,?_⟩
 ·show ("fork":Str).length+(k.length+(n.length+0))+3<=100000;have:("fork":Str).length=4:=rfl;omega
 have g6:=fD.wrote (.str (AD ["fork",k,n])) d3;exact q p hp ep hg g5 a u _ ((b3.trans (Ag s4)).trans (But.upd %[|2])) (s1.free a0) (s1.free g0) (s1.free l0) g6
end
abbrev NU:Stmt:=AZ (Bu 56) 2
abbrev SM:Stmt:=AZ (Bu 56) 22
theorem UE:(Ey U m).lookup ("seen":Str)=none:=by with_unfolding_all rfl
theorem N7:(Ey U m).lookup ("log":Str)=none:=by with_unfolding_all rfl
inductive K8(C:Addr)(vs:List V)(H:Hp)(Q:VK)(E:XK):Prop where
 | mk (x:Addr) (N:%[|6]) (U:Hk) (m:Nat) (room:List Int) (marks:List (%[|17])) (ls:List V) (_:vs=[.ref x]) (_:%[|70]) (_:∀(l:Addr)(H':Hp),A0B H H'->H l=none->AL H' l (room.filter (DE marks))->Q (.ref l) H'):K8 C vs H Q E
inductive Oe(C:Addr)(vs:List V)(H:Hp)(Q:VK)(E:XK):Prop where
 | mk (x:Addr) (N:%[|6]) (U:Hk) (m:Nat) (room:List Int) (marks:List (%[|17])) (ls:List V) (_:vs=[.ref x]) (_:%[|70]) (_:∀(l:Addr)(H':Hp),A0B H H'->H l=none->H' l=some (.lst ls)->Q (.ref l) H'):Oe C vs H Q E
section
variable {P:Program}{w:World}{K:PySem.W.Frag}{mg:Str->%[|4]}{cH cS cT:Addr}
def UZ:=Aw NU ["self"] 1
def Xr:=Aw SM ["self"] 1
theorem RE(F:%[|37] cH "seen" "House.seen" NU)(HX:K9 K cH)(GS:%[|3] "seen_by" AH 3 (Fg K)):%[|16] "seen" AH 4 (K8 cH):=by
 refine F.ok UZ ?_;rintro bz f bp A outer s H _ Q E hr ⟨x,N,U,m,room,marks,ls,rfl,hT,q⟩;have hl:=hT.wr.len;have h1:=hT.len;have h5:=hT.m5;refine⟨_,A5 (AA GS hr Al (AS %[|18] %[|18])),?_⟩;exact⟨hT.ob,HX.cl,HX.space,HR,hT.ob,HX.cl,HX.marks,LM,U.sp,U.mks,room,marks,rfl,SqL.of hT.sp',by omega,hT.mk',by omega,fun l H' s' l0 hl=>q l H' s' l0 hl⟩
theorem Vn(F:%[|37] cH "log" "House.log" SM)(HX:K9 K cH)(T:Fz mg):%[|16] "log" AH 1 (Oe cH):=by
 refine F.ok Xr ?_;rintro bz f bp A outer s H _ Q E hr ⟨x,N,U,m,room,marks,ls,rfl,hT,q⟩;refine⟨_,A5 (%[|58] (AM %[|18])),?_⟩;exact⟨hT.ob,HX.cl,HX.lines,Lx,.inl (SqL.of hT.ln),fun l hl=>q l _ (Ab hl _) hl A0A⟩
end
abbrev RG:Stmt:=AZ (Bu 56) 10
abbrev On:Stmt:=AZ (Bu 56) 12
abbrev Tf:Stmt:=AZ (Bu 56) 13
theorem Ym:(Ey U m).lookup ("say":Str)=none:=by with_unfolding_all rfl
theorem U0:(Ey U m).lookup ("back":Str)=none:=by with_unfolding_all rfl
theorem XA:(Ey U m).lookup ("end":Str)=none:=by with_unfolding_all rfl
def Dh(ts:List Tw)(k:Str)(u:Tk)(w:Ta):List Tw:=ts.map fun p=>if p.nm=k then⟨p.nm,p.a,u,w⟩ else p
theorem Yb(ts:List Tw)(k:Str)(u:Tk)(w:Ta):Eu (Dh ts k u w)=Eu ts:=by
 unfold Eu Dh;rw[zBJ];refine zB3 fun p _=>?_
 show (%[|74].nm,V.ref %[|74].a)=_;split<;>rfl
theorem Th(ts:List Tw)(k:Str)(u:Tk)(w:Ta):Dz (Dh ts k u w)=Dz ts:=by
 unfold Dz Dh;rw[zBJ];refine zB3 fun p _=>?_
 show %[|74].nm=_;split<;>rfl
theorem Xa(ts:List Tw)(k:Str)(u:Tk)(w:Ta):(Dh ts k u w).map (·.a)=ts.map (·.a):=by
 unfold Dh;rw[zBJ];refine zB3 fun p _=>?_
 show %[|74].a=_;split<;>rfl
theorem Uo(ts:List Tw)(k:Str)(u:Tk)(w:Ta):(Dh ts k u w).length=ts.length:=List.length_map _
theorem LQ{ts:List Tw}{k:Str}{u:Tk}{w:Ta}{q:Tw}(h:q∈Dh ts k u w):(q∈ts/\q.nm≠k)\/∃p∈ts,p.nm=k/\q=⟨p.nm,p.a,u,w⟩:=by
 obtain⟨p,hp,e⟩:=List.mem_map.mp h;by_cases c:p.nm=k
 ·rw[if_pos c] at e;exact .inr ⟨p,hp,c,e.symm⟩
 ·rw[if_neg c] at e;rw[<-e];exact .inl ⟨hp,c⟩
theorem Tx{k:Str}{u:Tk}{w:Ta}:∀{ts:List Tw},(∀p∈ts,p.nm=k->u.gv=p.u.gv/\u.lf=p.u.lf)->Lj (Dh ts k u w)=Lj ts
 | [],_=>rfl
 | p::ts,h=>by
  have ih:=Tx (k:=k) (u:=u) (w:=w) (ts:=ts) fun q hq=>h q (List.mem_cons_of_mem _ hq)
  have e:Lj (Dh (p::ts) k u w)=[%[|74].u.gv,%[|74].u.lf]++Lj (Dh ts k u w):=rfl;rw[e,ih];by_cases c:p.nm=k
  ·rw[if_pos c];obtain⟨h1,h2⟩:=h p List.mem_cons_self c;show[u.gv,u.lf]++_=[p.u.gv,p.u.lf]++_;rw[h1,h2];rfl
  ·rw[if_neg c];rfl
theorem B2{α:Type}{β:Type}{f:α->β}:∀{l:List α}{p q:α},(l.map f).Nodup->p∈l->q∈l->f p=f q->p=q
 | x::l,p,q,nd,hp,hq,e=>by
  obtain⟨n1,n2⟩:=List.nodup_cons.mp (show (f x::l.map f).Nodup from nd);rcases List.mem_cons.mp hp with h1 | h1
  ·rcases List.mem_cons.mp hq with h2 | h2
   ·rw[h1,h2]
   ·exact absurd (by rw[<-h1,e];exact zA9 h2) n1
  ·rcases List.mem_cons.mp hq with h2 | h2
   ·exact absurd (by rw[<-h2,<-e];exact zA9 h1) n1
   ·exact B2 n2 h1 h2 e
theorem TB(nd:(Lj ts).Nodup)(hp:p∈ts)(hq:q∈ts)(ne:p≠q)(b:Addr)(hb:b=p.u.gv\/b=p.u.lf):b≠q.u.gv/\b≠q.u.lf:=by
 induction ts with
 | nil=>cases hp
 | cons x ts ih=>
  obtain⟨_,n2,n3⟩:=List.nodup_append.mp (show ([x.u.gv,x.u.lf]++Lj ts).Nodup from nd);rcases List.mem_cons.mp hp with rfl | hp
  ·rcases List.mem_cons.mp hq with rfl | hq
   ·exact absurd rfl ne
   ·have cR:b∈[p.u.gv,p.u.lf]:=by simpa using hb
    exact⟨n3 b cR _ (Cr hq).1,n3 b cR _ (Cr hq).2⟩
  ·have cR:b∈Lj ts:=by
    rcases hb with rfl | rfl
    ·exact (Cr hp).1
    ·exact (Cr hp).2
   rcases List.mem_cons.mp hq with rfl | hq
   ·exact⟨fun e=>n3 q.u.gv %[|2] b cR e.symm,fun e=>n3 q.u.lf %[|2] b cR e.symm⟩
   ·exact ih n2 hp hq
theorem WU{U:Hk}{m:Nat}{u:Tk}{w:Ta}:Ey U m≠Dk u w:=fun e=>by
 unfold Ey Dk at e;injection e with e _
 injection e with e _
 revert e
 decide
section
variable {M:%[|6]}{C cK:Addr}{H H':Hp}{S:HSt}
theorem A0C.alter{p:Tw}{u:Tk}{w:Ta}(h:%[|23])(hp:p∈S.ts)(b:But [p.a,p.u.gv,p.u.lf] H H')(bx:∀c,H c≠none->H' c≠none)(e1:u.gv=p.u.gv)(e2:u.lf=p.u.lf)(ht:A0D M cK H' p.a u w)(hr:w.room=S.room)(hm:w.many=S.m):
  A0C M C cK H' { S with ts:=Dh S.ts p.nm u w }:=by
 have t0:=(h.tt p hp).1
 have k:But M H H':=But.wide (fun m hm=>by
  simp only[zAC,zAA,or_false] at hm
  rcases hm with rfl | rfl | rfl
  ·exact t0.ma
  ·exact t0.mg
  ·exact t0.ml) b
 have same:∀{c:Addr}{o:HO},H c=some o->c≠p.a->c≠p.u.gv->c≠p.u.lf->H' c=some o:=fun e n1 n2 n3=>b.at e fun z=>by
  simp only[zAC,zAA,or_false] at z;rcases z with z | z | z
  ·exact n1 z
  ·exact n2 z
  ·exact n3 z
 have hx:=h.h;obtain⟨n0,nl⟩:=List.nodup_cons.mp h.nl
 have xa:S.x≠p.a:=fun e=>by
  have h1:=hx.ob;rw[e,t0.ob] at h1;have h2:=zAK h1;injection h2 with _ _ h3
  exact WU h3.symm
 have ka:S.U.tk≠p.a:=AT h.tk t0.ob %[|11];refine⟨⟨same hx.ob xa (AT hx.ob t0.gv %[|11]) (AT hx.ob t0.lf %[|11]),same hx.ln (AT hx.ln t0.ob %[|11]) (fun e=>n0 (by rw[e];exact (Cr hp).1)) (fun e=>n0 (by rw[e];exact (Cr hp).2)),hx.mx,hx.ml,k _ _ hx.sp,k _ _ hx.mkm,hx.len,hx.m1,hx.m5,hx.wr,hx.ne,hx.l9⟩,?_,h.mt,fun q hq=>?_,?_,?_,?_,fun c hc=>bx c (h.fr c hc),by show (Dh _ _ _ _).length<=900;rw[Uo];exact h.tl⟩
 ·show H' S.U.tk=some (.dK (dS (Eu (Dh S.ts p.nm u w))));rw[Yb];exact same h.tk ka (AT h.tk t0.gv %[|11]) (AT h.tk t0.lf %[|11])
 ·rcases LQ hq with⟨hq,hn⟩|⟨p',ck,en,rfl⟩
  ·have tq:=(h.tt q hq).1;have npq:q≠p:=fun e=>hn (by rw[e])
   have na:q.a≠p.a:=fun e=>npq (B2 h.aa hq hp e)
   have g1:=TB nl hq hp npq q.u.gv (.inl rfl);have g2:=TB nl hq hp npq q.u.lf (.inr rfl);refine⟨tq.but k ?_ ?_ ?_,(h.tt q hq).2⟩
   ·rw[tq.ob];exact same tq.ob na (AT tq.ob t0.gv %[|11]) (AT tq.ob t0.lf %[|11])
   ·rw[tq.gv];exact same tq.gv (AT tq.gv t0.ob %[|11]) g1.1 g1.2
   ·rw[tq.lf];exact same tq.lf (AT tq.lf t0.ob %[|11]) g2.1 g2.2
  ·have e:p'=p:=B2 h.na ck hp en;subst e;exact⟨ht,hr,hm⟩
 ·show (S.U.ln::Lj (Dh S.ts p.nm u w)).Nodup;rw[Tx fun q hq en=>by rw[B2 h.na hq hp en];exact⟨e1,e2⟩];exact h.nl
 ·show (Dz (Dh S.ts p.nm u w)).Nodup;rw[Th];exact h.na
 ·show ((Dh S.ts p.nm u w).map (·.a)).Nodup;rw[Xa];exact h.aa
end
theorem Jt(seen row:List Int):(Bs seen row).length<=20:=by
 unfold Bs;split
 ·decide
 ·split<;>decide
theorem Wp(W:Ta)(seen:List Int)(t:Tr):(CA W seen t).length<=20:=by
 unfold CA;split
 ·exact Jt _ _
 ·unfold CF;split
  ·decide
  ·split
   ·decide
   ·split
    ·decide
    ·split
     ·decide
     ·exact Jt _ _
def HSt.seen(S:HSt):List Int:=S.room.filter (DE S.marks)
def Oh(S:HSt)(k:Str)(u:Tk)(w:Ta)(l:Str):HSt:={ S with ts:=Dh S.ts k u w,ls:=S.ls++[.str l] }
inductive Nl(C cK bG cS cO:Addr)(vs:List V)(H:Hp)(Q:VK)(E:XK):Prop where
 | mk (M:%[|6]) (S:HSt) (k:Str) (v:V) (t:Tr) (_:vs=[.ref S.x,.str k,v]) (_:%[|23]) (_:k.length<=100) (_:t.At (A6 M H) v) (_:t.ok 5) (_:t.size<=23) (_:S.ls.length<900) (_:(∀p∈S.ts,p.w.ents.length<900/\p.w.lefts.length<900)) (_:(k∉Dz S.ts->E (.ref bG) none H)) (_:(∀p∈S.ts,p.nm=k->p.w.ended=true->∀H',A0B H H'->E (.ref cO) none H')) (_:(∀p∈S.ts,p.nm=k->p.w.ended=false->¬t.ok S.m->∀H',A0B H H'->E (.ref cS) none H')) (_:(∀p∈S.ts,p.nm=k->p.w.ended=false->t.ok S.m->∀(u:Tk)(H':Hp),But [p.a,p.u.gv,p.u.lf,S.U.ln] H H'->(∀b,H b≠none->H' b≠none)->u.gv=p.u.gv->u.lf=p.u.lf->A0C M C cK H' (Oh S k u (Gu p.w v t (%[|59])) (AD ["say",k,B0 t,%[|59]]))->Q (.str (%[|59])) H')):Nl C cK bG cS cO vs H Q E
inductive Os(C cK bG cO:Addr)(vs:List V)(H:Hp)(Q:VK)(E:XK):Prop where
 | mk (M:%[|6]) (S:HSt) (k:Str) (_:vs=[.ref S.x,.str k]) (_:%[|23]) (_:k.length<=100) (_:S.ls.length<900) (_:(k∉Dz S.ts->E (.ref bG) none H)) (_:(∀p∈S.ts,p.nm=k->p.w.ended=true->E (.ref cO) none H)) (_:(∀p∈S.ts,p.nm=k->p.w.ended=false->∀(H':Hp),But [p.a,p.u.gv,p.u.lf,S.U.ln] H H'->(∀b,H b≠none->H' b≠none)->A0C M C cK H' (Oh S k p.u (Im p.w) (AD ["end",k]))->Q .non H')):Os C cK bG cO vs H Q E
inductive Kv(C cK bG cO cG:Addr)(vs:List V)(H:Hp)(Q:VK)(E:XK):Prop where
 | mk (M:%[|6]) (S:HSt) (k:Str) (_:vs=[.ref S.x,.str k]) (_:%[|23]) (_:k.length<=100) (_:S.ls.length<900) (_:(∀p∈S.ts,p.w.lefts.length=p.w.ents.length+1)) (_:(k∉Dz S.ts->E (.ref bG) none H)) (_:(∀p∈S.ts,p.nm=k->p.w.ended=true->E (.ref cO) none H)) (_:(∀p∈S.ts,p.nm=k->p.w.ended=false->p.w.ents=[]->E (.ref cG) none H)) (_:(∀p∈S.ts,p.nm=k->p.w.ended=false->p.w.ents≠[]->∀(c:Addr)(e:V×Tr×Str)(u:Tk)(H':Hp),But [p.a,p.u.gv,p.u.lf,S.U.ln] H H'->(∀b,H b≠none->H' b≠none)->u.gv=p.u.gv->u.lf=p.u.lf->p.w.ents.getLast? = some e->A6 M H c=some (.tup [e.1,.str e.2.2])->e.2.1.At (A6 M H) e.1->A0C M C cK H' (Oh S k u (Dl p.w) (AD ["back",k]))->Q (.ref c) H')):Kv C cK bG cO cG vs H Q E
section
variable {P:Program}{w:World}{K:PySem.W.Frag}{mg:Str->%[|4]}{cH cK cS cO cG cT bG:Addr}
def scHSay:=Aw RG ["self","name","sentence","word"] 3
def scHBack:=Aw On ["self","name","pair"] 2
def Xo:=Aw Tf ["self","name"] 2
theorem V8(F:%[|37] cH "say" "House.say" RG)(HX:K9 K cH)(TX:LR K cK)(G1:%[|16] "talk_of" (Cb P w) 3 (CK cH cK bG))(G2:%[|48] "say" (Cb P w) 7 (NN K cK cS cO))(G3:%[|16] "seen" AH 4 (K8 cH))(GS:%[|3] "shown" AH 1 Ff)(G4:%[|16] "write" AH 2 (BU cH)):%[|16] "say" (Cb P w) 8 (Nl cH cK bG cS cO):=by
 refine F.okX scHSay ?_;rintro bz f bp A outer s H _ Q E hr ⟨M,S,k,v,t,rfl,hT,fQ,ha,dr,hsz,d3,he9,qN,qO,qS,q⟩
 refine⟨_,Aa (Az 3 scHSay.nd (Ct (Ct (pv 0) HX.cl G1 hr %[|26] (AM (pv 1))) TX.cl G2 hr %[|26] (AS (pv 2) (DR (pv 0) HX.cl G3 hr Al))))
  (Aa (As (Ct (pv 0) HX.cl G4 hr Al (AM (Av (Aj Ae (Aj (pv 1) (AS (AA GS hr Al (AM (pv 2))) (pv 3))))))))
  (A5 (pv 3))),?_⟩
 refine⟨hT.h.ob,D6,M,S,k,rfl,hT,fun c=>qN c,fun p hp ep=>?_⟩;subst ep;obtain⟨tp0,er,em⟩:=hT.tt p hp;refine⟨tp0.ob,YA,hT.h.ob,UE,S.x,M,S.U,S.m,S.room,S.marks,S.ls,rfl,hT.h,fun sn H1 s1 sn0 hsn=>?_⟩;have wsn:=hT.h.wr.sub (zAO (p:=DE S.marks) (l:=S.room));have cv:=hT.keep s1;have tp1:=(cv.tt p hp).1;refine⟨p.a,sn,v,M,p.u,p.w,t,S.seen,rfl,tp1,cv.fr,ha.keep (TS.same (Ag s1)),dr,by omega,SqL.of hsn,wsn,hT.h.ne,(he9 p hp).1,(he9 p hp).2,fun c H' s'=>qO p hp rfl c H' (s1.trans s'),fun c c2 H' s'=>qS p hp rfl c (by rw[<-em];exact c2) H' (s1.trans s'),fun c c2 u H2 b2 eg el bx ht=>?_⟩;have b2':But [p.a,p.u.gv,p.u.lf] H1 H2:=But.wide (fun m hm=>List.mem_cons_of_mem _ hm) b2;have cp:=cv.alter hp b2' bx eg el ht er em
 have kM:But M H1 H2:=But.wide (fun m hm=>by
  simp only[zAC,zAA,or_false] at hm
  rcases hm with rfl | rfl
  ·exact tp1.mg
  ·exact tp1.ml) b2
 have bK:t.At H2 v:=ha.keep (TS.same (((Ag s1).trans kM).trans Ay));refine⟨cp.h.ob,Cv,v,t,rfl,bK,dr,hsz,fun z H3 hz s3=>?_⟩;have ez:=FK hz;subst ez;refine⟨ZU,fun l hl=>?_⟩;have s4:=Ab hl (.lst [.str "say",.str p.nm,.str (B0 t),.str (%[|59])]);have l4:upd H3 l (.lst [.str "say",.str p.nm,.str (B0 t),.str (%[|59])]) l=some (.lst ([("say":Str),p.nm,B0 t,%[|59]].map V.str)):=A0A;generalize upd H3 l _=H4 at *;have fD:=cp.keep (s3.trans s4);refine⟨S.x,l,S.U,S.m,[("say":Str),p.nm,B0 t,%[|59]],S.ls,rfl,fD.h.ob,fD.h.ln,by omega,l4,?_,?_⟩
 ·show ("say":Str).length+(p.nm.length+((B0 t).length+((%[|59]).length+0)))+4<=100000;have:("say":Str).length=3:=rfl;have:=EZ t;have:=Wp p.w S.seen t;omega
 have g6:=fD.wrote (.str (AD ["say",p.nm,B0 t,%[|59]])) d3;refine q p hp rfl c (by rw[<-em];exact c2) u _ ?_ ?_ eg el g6
 ·refine (Ag s1).trans (But.wide (M:=[p.a,p.u.gv,p.u.lf]) (fun m hm=>?_) b2' |>.trans ((Ag (s3.trans s4)).trans (But.upd %[|2])));simp only[zAC,zAA,or_false] at hm ⊢;rcases hm with h | h | h<;>simp[h]
 ·intro b hb z;have h1:H1 b≠none:=fun z1=>hb (s1.free z1)
  have h2:=bx b h1;have h4:H4 b≠none:=fun z4=>h2 ((s3.trans s4).free z4)
  by_cases e:b=S.U.ln
  ·rw[e,A0A] at z;cases z
  ·rw[Af e] at z;exact h4 z
theorem Jx(s1:A0B H H1)(b:But M H1 H2)(hl:l∈M):But M H (upd H2 l o):=((Ag s1).trans b).trans (But.upd hl)
theorem TL(h:H b≠none):upd H l o b≠none:=fun z=>by
 by_cases e:b=l
 ·rw[e,A0A] at z;cases z
 ·rw[Af e] at z;exact h z
theorem V9(F:%[|37] cH "end" "House.end" Tf)(HX:K9 K cH)(TX:LR K cK)(G1:%[|16] "talk_of" (Cb P w) 3 (CK cH cK bG))(G2:%[|48] "end" (Cb P w) 3 (Nf cK cO))(G4:%[|16] "write" AH 2 (BU cH)):%[|16] "end" (Cb P w) 4 (Os cH cK bG cO):=by
 refine F.okX Xo ?_;rintro bz f bp A outer s H _ Q E hr ⟨M,S,k,rfl,hT,fQ,d3,qN,qO,q⟩
 refine⟨_,Aa (As (DR (Ct (pv 0) HX.cl G1 hr %[|26] (AM (pv 1))) TX.cl G2 hr %[|26]))
  (Ai (As (Ct (pv 0) HX.cl G4 hr Al (AM (Av (AS Ae (pv 1))))))),?_⟩
 refine⟨hT.h.ob,D6,M,S,k,rfl,hT,fun c=>qN c,fun p hp ep=>?_⟩;subst ep;obtain⟨tp0,er,em⟩:=hT.tt p hp;refine⟨tp0.ob,W7,p.a,M,p.u,p.w,rfl,tp0,fun c=>qO p hp rfl c,fun c H1 b1 ht=>?_⟩;have b1':But [p.a,p.u.gv,p.u.lf] H H1:=But.wide (fun m hm=>by rw[List.mem_singleton.mp hm];exact List.mem_cons_self) b1
 have bx:∀b,H b≠none->H1 b≠none:=fun b hb z=>by
  by_cases e:b=p.a
  ·rw[e,ht.ob] at z;cases z
  ·cases h0:H b with
   | none=>exact hb h0
   | some o=>rw[b1.at h0 (fun z=>e (List.mem_singleton.mp z))] at z;cases z
 have cv:=hT.alter hp b1' bx rfl rfl ht er em;refine⟨cv.h.ob,Cv,Cy,fun l hl=>?_⟩;have s2:=Ab hl (.lst [.str "end",.str p.nm]);have l2:upd H1 l (.lst [.str "end",.str p.nm]) l=some (.lst ([("end":Str),p.nm].map V.str)):=A0A;generalize upd H1 l _=H2 at *;have cp:=cv.keep s2;refine⟨S.x,l,S.U,S.m,[("end":Str),p.nm],S.ls,rfl,cp.h.ob,cp.h.ln,by omega,l2,?_,?_⟩
 ·show ("end":Str).length+(p.nm.length+0)+2<=100000;have:("end":Str).length=3:=rfl;omega
 have fT:=cp.wrote (.str (AD ["end",p.nm])) d3;refine q p hp rfl c _ ?_ ?_ fT
 ·refine Jx (A0B.refl _) ((But.wide (M:=[p.a]) (fun m hm=>?_) b1).trans (Ag s2)) %[|2];rw[List.mem_singleton.mp hm];exact List.mem_cons_self
 ·exact fun b hb=>TL fun z=>bx b hb (s2.free z)
theorem SB(F:%[|37] cH "back" "House.back" On)(HX:K9 K cH)(TX:LR K cK)(G1:%[|16] "talk_of" (Cb P w) 3 (CK cH cK bG))(G2:%[|48] "back" (Cb P w) 3 (KZ cK cO cG))(G4:%[|16] "write" AH 2 (BU cH)):%[|16] "back" (Cb P w) 4 (Kv cH cK bG cO cG):=by
 refine F.okX scHBack ?_;rintro bz f bp A outer s H _ Q E hr ⟨M,S,k,rfl,hT,fQ,d3,d9,qN,qO,qG,q⟩
 refine⟨_,Aa (Az 2 scHBack.nd (DR (Ct (pv 0) HX.cl G1 hr %[|26] (AM (pv 1))) TX.cl G2 hr %[|26]))
  (Aa (As (Ct (pv 0) HX.cl G4 hr Al (AM (Av (AS Ae (pv 1))))))
  (A5 (pv 2))),?_⟩
 refine⟨hT.h.ob,D6,M,S,k,rfl,hT,fun c=>qN c,fun p hp ep=>?_⟩;subst ep;obtain⟨tp0,er,em⟩:=hT.tt p hp;refine⟨tp0.ob,Vw,p.a,M,p.u,p.w,rfl,tp0,d9 p hp,fun c=>qO p hp rfl c,fun c c2=>qG p hp rfl c c2,fun c c2 pc e u H1 b1 eg el bx he hpc bF ht=>?_⟩;have b1':But [p.a,p.u.gv,p.u.lf] H H1:=But.wide (fun m hm=>List.mem_cons_of_mem _ hm) b1;have cv:=hT.alter hp b1' bx eg el ht er em;refine⟨cv.h.ob,Cv,Cy,fun l hl=>?_⟩;have s2:=Ab hl (.lst [.str "back",.str p.nm]);have l2:upd H1 l (.lst [.str "back",.str p.nm]) l=some (.lst ([("back":Str),p.nm].map V.str)):=A0A;generalize upd H1 l _=H2 at *;have cp:=cv.keep s2;refine⟨S.x,l,S.U,S.m,[("back":Str),p.nm],S.ls,rfl,cp.h.ob,cp.h.ln,by omega,l2,?_,?_⟩
 ·show ("back":Str).length+(p.nm.length+0)+2<=100000;have:("back":Str).length=4:=rfl;omega
 have fT:=cp.wrote (.str (AD ["back",p.nm])) d3;refine q p hp rfl c c2 pc e u _ ?_ ?_ eg el he hpc bF fT
 ·refine Jx (A0B.refl _) ((But.wide (fun m hm=>?_) b1').trans (Ag s2)) %[|2];simp only[zAC,zAA,or_false] at hm ⊢;rcases hm with h | h | h<;>simp[h]
 ·exact fun b hb=>TL fun z=>bx b hb (s2.free z)
end
structure Mt where
 nm:Str
 d:Addr
 sd:Addr
 sa:Addr
 hl:Addr
 sds:List V
 sas:List V
 hls:List V
 v:V
 w:Ta
structure Mz where
 st:Addr
 r:Addr
 mka:Addr
 tl:Addr
 ln:Addr
 m:Nat
 room:List Int
 marks:List (%[|17])
 ls:List V
 ts:List Mt
def DD(p:Mt):List (Str×V):=[("name",.str p.nm),("sides",.ref p.sd),("rule",.str p.w.rule),("kind",.str p.w.kind),("sentence",p.v),("over",.bl p.w.ended),("said",.ref p.sa),("helds",.ref p.hl)]
def Jd(Z:Mz):List (Str×V):=[("many",.int Z.m),("room",.ref Z.r),("marks",.ref Z.mka),("talks",.ref Z.tl),("lines",.ref Z.ln)]
theorem Pa:BC (DD p) "name"=some (.str p.nm):=by with_unfolding_all rfl
theorem LX:BC (DD p) "sides"=some (.ref p.sd):=by with_unfolding_all rfl
theorem UF:BC (DD p) "rule"=some (.str p.w.rule):=by with_unfolding_all rfl
theorem E2:BC (DD p) "over"=some (.bl p.w.ended):=by with_unfolding_all rfl
theorem Ht:BC (DD p) "said"=some (.ref p.sa):=by with_unfolding_all rfl
theorem DQ:BC (DD p) "helds"=some (.ref p.hl):=by with_unfolding_all rfl
theorem VT:BC (Jd Z) "many"=some (.int Z.m):=by with_unfolding_all rfl
theorem Hn:BC (Jd Z) "room"=some (.ref Z.r):=by with_unfolding_all rfl
theorem Ma:BC (Jd Z) "marks"=some (.ref Z.mka):=by with_unfolding_all rfl
theorem Fq:BC (Jd Z) "talks"=some (.ref Z.tl):=by with_unfolding_all rfl
theorem BK:BC (Jd Z) "lines"=some (.ref Z.ln):=by with_unfolding_all rfl
structure A0S(M:%[|6])(H:Hp)(p:Mt):Prop where
 ob:H p.d=some (.dK (dS (DD p)))
 sa:H p.sa=some (.lst p.sas)
 hl:H p.hl=some (.lst p.hls)
 md:p.d∈M
 ms:p.sa∈M
 mh:p.hl∈M
 sd:A6 M H p.sd=some (.lst p.sds)
 sr:A0E (A6 M H) p.sds p.w.sides
 tr:p.w.t.At (A6 M H) p.v
 en:A0K (A6 M H) p.sas p.w.ents
 lr:A0E (A6 M H) p.hls p.w.lefts
def Gw(ts:List Mt):List Addr:=ts.flatMap fun p=>[p.d,p.sa,p.hl]
def Cj(Z:Mz):List Addr:=Z.st::Z.tl::Z.ln::Gw Z.ts
def Ol(ts:List Mt):List Str:=ts.map (·.nm)
structure ModT(M:%[|6])(H:Hp)(Z:Mz):Prop where
 ob:H Z.st=some (.dK (dS (Jd Z)))
 tl:H Z.tl=some (.lst (Z.ts.map fun p=>.ref p.d))
 ln:H Z.ln=some (.lst Z.ls)
 ms:Z.st∈M
 mt:Z.tl∈M
 ml:Z.ln∈M
 r:AL (A6 M H) Z.r Z.room
 mkm:A6 M H Z.mka=some (.lst (Z.marks.map Cz))
 tt:∀p∈Z.ts,A0S M H p
 nd:(Cj Z).Nodup
 na:(Ol Z.ts).Nodup
section
variable {M N:%[|6]}{H H':Hp}{p:Mt}{Z:Mz}
theorem A0S.keep(s:A0B H H')(h:A0S M H p):A0S M H' p:=
 ⟨s _ _ h.ob,s _ _ h.sa,s _ _ h.hl,h.md,h.ms,h.mh,Ag s _ _ h.sd,h.sr.keep (Ag s),h.tr.keep (TS.same (Ag s)),h.en.keep (Ag s),h.lr.keep (Ag s)⟩
theorem ModT.keep(s:A0B H H')(h:ModT M H Z):ModT M H' Z:=
 ⟨s _ _ h.ob,s _ _ h.tl,s _ _ h.ln,h.ms,h.mt,h.ml,Ag s _ _ h.r,Ag s _ _ h.mkm,fun p hp=>(h.tt p hp).keep s,h.nd,h.na⟩
theorem A0S.but(b:But M H H')(h1:H' p.d=H p.d)(h2:H' p.sa=H p.sa)(h3:H' p.hl=H p.hl)(h:A0S M H p):A0S M H' p:=
 ⟨h1.trans h.ob,h2.trans h.sa,h3.trans h.hl,h.md,h.ms,h.mh,b _ _ h.sd,h.sr.keep b,h.tr.keep (TS.same b),h.en.keep b,h.lr.keep b⟩
theorem Ch(h:p∈ts):p.d∈Gw ts/\p.sa∈Gw ts/\p.hl∈Gw ts:=
 ⟨List.mem_flatMap.mpr ⟨p,h,by simp⟩,List.mem_flatMap.mpr ⟨p,h,by simp⟩,List.mem_flatMap.mpr ⟨p,h,by simp⟩⟩
theorem A0S.more(s:A0B H H')(hn:∀n∈N,H n=none)(h:A0S M H p):A0S (N++M) H' p:=by
 have k:=De (M:=M) s hn;exact⟨s _ _ h.ob,s _ _ h.sa,s _ _ h.hl,zAG _ h.md,zAG _ h.ms,zAG _ h.mh,k _ _ h.sd,h.sr.keep k,h.tr.keep (TS.same k),h.en.keep k,h.lr.keep k⟩
theorem ModT.more(s:A0B H H')(hn:∀n∈N,H n=none)(h:ModT M H Z):ModT (N++M) H' Z:=by
 have k:=De (M:=M) s hn;exact⟨s _ _ h.ob,s _ _ h.tl,s _ _ h.ln,zAG _ h.ms,zAG _ h.mt,zAG _ h.ml,k _ _ h.r,k _ _ h.mkm,fun p hp=>(h.tt p hp).more s hn,h.nd,h.na⟩
theorem ModT.wrote(l:V)(h:ModT M H Z):ModT M (upd H Z.ln (.lst (Z.ls++[l]))) { Z with ls:=Z.ls++[l] }:=by
 have eu:A6 M (upd H Z.ln (.lst (Z.ls++[l])))=A6 M H:=Bt h.ml;have nd:=h.nd;unfold Cj at nd;obtain⟨n1,n2⟩:=List.nodup_cons.mp nd;obtain⟨n3,n4⟩:=List.nodup_cons.mp n2;obtain⟨n5,n6⟩:=List.nodup_cons.mp n4;have ne1:Z.st≠Z.ln:=fun z=>n1 (by rw[z];simp)
 have ne2:Z.tl≠Z.ln:=fun z=>n3 (by rw[z];simp)
 refine⟨(Af ne1).trans h.ob,(Af ne2).trans h.tl,A0A,h.ms,h.mt,h.ml,by rw[eu];exact h.r,by rw[eu];exact h.mkm,fun p hp=>?_,h.nd,h.na⟩;obtain⟨a1,a2,a3⟩:=Ch hp;exact (h.tt p hp).but (But.upd h.ml) (Af fun z=>n5 (by rw[<-z];exact a1)) (Af fun z=>n5 (by rw[<-z];exact a2)) (Af fun z=>n5 (by rw[<-z];exact a3))
end
abbrev NY:Stmt:=Bu 74
inductive E4(vs:List V)(H:Hp)(Q:VK)(E:XK):Prop where
 | mk (M:%[|6]) (Z:Mz) (k:Str) (_:vs=[.ref Z.st,.str k]) (_:ModT M H Z) (_:Z.ts.length<=900) (_:(k∉Ol Z.ts->Q .non H)) (_:(∀p∈Z.ts,p.nm=k->Q (.ref p.d) H)):E4  vs H Q E
section
variable {P:Program}{w:World}{K:PySem.W.Frag}{mg:Str->%[|4]}
def scLfind:=Aw NY ["_law_state_here","_law_name_here","_law_talk"] 2
theorem Ri(F:%[|9] "_law_find" NY):%[|3] "_law_find" AH 1 E4:=by
 refine F.ok scLfind ?_;rintro bz f bp A outer s H _ Q E hr ⟨M,Z,k,rfl,hZ,d3,qN,q⟩
 refine⟨_,Aa (BZ zAV rfl (AX (An AE (pv 0) Ae)) (BA 2 scLfind.nd)
   (Ai (Au (AR AF (An AE (pv 2) Ae) (pv 1))
    (A5 (pv 2))
    Ak)))
  (A5 Cc),?_⟩
 refine⟨hZ.ob,Fq,⟨_,SqL.of hZ.tl⟩,Bf (K:=K) (a:=Z.tl) (xs:=Z.ts.map fun p=>V.ref p.d) (fun i σ Hi=>∃(v2:Option V),σ=[some (.ref Z.st),some (.str k),v2]/\Hi=H/\∀p∈Z.ts.take i,p.nm≠k) ⟨_,rfl,rfl,fun p hp=>nomatch hp⟩ ?_ ?_ ?_⟩
 ·rintro i σ Hi _ ⟨v2,rfl,rfl,_⟩;exact SqL.of hZ.tl
 ·rintro i x σ Hi hx ⟨v2,rfl,rfl,iP⟩;rw[List.getElem?_map] at hx;obtain⟨p,hp,rfl⟩:=Option.map_eq_some_iff.mp hx;have hpm:=zAN hp;refine⟨(hZ.tt p hpm).ob,Pa,rfl,?_⟩;by_cases c:p.nm=k
  ·exact BI (by rw[c]) (q p hpm c)
  ·refine Bw (fun z=>c (by injection z)) ⟨_,rfl,rfl,fun p' ck=>?_⟩;rw[zAR,hp] at ck;rcases List.mem_append.mp ck with h | h
   ·exact iP p' h
   ·have:p'=p:=by simpa using h
    rw[this];exact c
 ·rintro σ Hi ⟨v2,rfl,rfl,iP⟩;rw[List.length_map,zAQ] at iP
  exact qN fun z=>by
   obtain⟨p,hp,e⟩:=List.mem_map.mp z;exact iP p hp e
end
abbrev Ke:Stmt:=Bu 79
inductive Fn(K:PySem.W.Frag)(vs:List V)(H:Hp)(Q:VK)(E:XK):Prop where
 | mk (s:Addr) (v:V) (t:Tr) (seen:List Int) (_:vs=[.ref s,v]) (_:t.At H v) (_:t.ok 5) (_:t.size<=23) (_:SqL K H s (seen.map V.int)) (_:seen.length<=900) (_:∀(H':Hp),A0B H H'->Q (.str (Bc seen t)) H'):Fn K vs H Q E
section
variable {P:Program}{w:World}{K:PySem.W.Frag}{mg:Str->%[|4]}{f:Addr}
def To:=Aw Ke ["_law_seen","_law_sentence_here"] 2
theorem QV(F:%[|9] "_law_plain" Ke)(T:Fz mg)(GT:%[|3] "_law_true" AH 23 (C2 23)):%[|3] "_law_plain" AH 24 (Fn K):=by
 refine F.ok To ?_;rintro bz f bp A outer s H _ Q E hr ⟨sn,v,t,seen,rfl,ha,hok,hs,hN,hl,q⟩
 refine⟨_,Aa (Au (Bv (AK (Eo rfl) %[|8] T.all boot_all (AM (Bk (N:=["_law_world","_law_sentence_here"]) (js:=[none,some 1]) (cl:=[("_law_sentence_here",s.heap.objs.size+1)]) ⟨rfl,rfl,rfl,(by intro p hp;simp at hp;rcases hp with rfl<;>rfl),rfl,rfl,rfl⟩ (AX (pv 0)) %[|77] (fun c1=>BG) (fun c1=>(AA GT hr Al (AS (pv 1) (pv 0))))))))
   (A5 Ae)
   Ak)
  (Aa (Au (Bv (AK (Jo rfl) %[|8] T.any boot_any (AM (Bk (N:=["_law_world","_law_sentence_here"]) (js:=[none,some 1]) (cl:=[("_law_sentence_here",s.heap.objs.size+1)]) ⟨rfl,rfl,rfl,(by intro p hp;simp at hp;rcases hp with rfl<;>rfl),rfl,rfl,rfl⟩ (AX (pv 0)) %[|77] (fun c1=>BG) (fun c1=>(AA GT hr Al (AS (pv 1) (pv 0))))))))
   (A5 Ae)
   Ak)
  (A5 Ae)),?_⟩
 refine⟨⟨_,hN⟩,fun c1 acc br=>EK (f:=fun k=>tv t k) (rest:=[some v]) hN br hl (fun k hk H3 s3 R3 hR3=>?_) (fun v0 H3 s3 h3=>?_) none⟩
 ·exact⟨v,t,k,rfl,ha.keep (TS.same s3),hok,hs,fun H4 s4=>hR3 H4 s4⟩
 refine⟨acc,_,rfl,SqL.of h3,?_⟩;have e1:(seen.map fun k=>tv t k).all id=seen.all fun k=>tv t k:=by rw[zDB];rfl
 have e2:(seen.map fun k=>tv t k).any id=seen.any fun k=>tv t k:=by rw[zDN];rfl
 rw[e1];unfold Bc at q
 cases h0:seen.all fun k=>tv t k with
 | true=>
  refine AB ?_;rw[h0,if_pos rfl] at q;exact q _ s3
 | false=>
  refine Aq ?_;rw[h0,if_neg zAF] at q;refine⟨⟨_,s3.seq hN⟩,fun c1 ac2 hac2=>EK (f:=fun k=>tv t k) (rest:=[some v]) (s3.seq hN) hac2 hl (fun k hk H4 s4 R3 hR3=>?_) (fun v0 H4 s4 h4=>?_) none⟩
  ·exact⟨v,t,k,rfl,(ha.keep (TS.same s3)).keep (TS.same s4),hok,hs,fun H5 s5=>hR3 H5 s5⟩
  refine⟨ac2,_,rfl,SqL.of h4,?_⟩;rw[e2]
  cases h1:seen.any fun k=>tv t k with
  | true=>
   refine AB ?_;rw[h1,if_pos rfl] at q;exact q _ (s3.trans s4)
  | false=>
   refine Aq ?_;rw[h1,if_neg zAF] at q;exact q _ (s3.trans s4)
end
abbrev Sz:Stmt:=Bu 81
abbrev Kq:Stmt:=Bu 82
inductive NV(K:PySem.W.Frag)(vs:List V)(H:Hp)(Q:VK)(E:XK):Prop where
 | mk (sd g s:Addr) (v:V) (t:Tr) (xs:List V) (sides:List (List Int)) (going seen:List Int) (_:vs=[.ref sd,.ref g,.ref s,v]) (_:t.At H v) (_:t.ok 5) (_:t.size<=23) (_:SqL K H sd xs) (_:A0E H xs sides) (_:(∀s∈sides,s.length<=900)) (_:SqL K H g (going.map V.int)) (_:going.length<=900) (_:SqL K H s (seen.map V.int)) (_:seen.length<=900) (_:∀(H':Hp),A0B H H'->Q (.str (F1 sides going seen t)) H'):NV K vs H Q E
theorem UW(sides:List (List Int))(going seen:List Int)(t:Tr)(h0:%[|24] going≠[])(h1:%[|12] going≠[]):F1 sides going seen t=if Bc seen t="grant"/\A0 sides (%[|12] going)=false then ("doubt":Str) else if Bc seen t="deny"/\A0 sides (%[|24] going)=false then ("doubt":Str) else Bc seen t:=by
 have n1:¬("grant":Str)="deny":=by decide
 have n2:¬("doubt":Str)="grant":=by decide
 have n3:¬("doubt":Str)="deny":=by decide
 have n4:¬("deny":Str)="grant":=by decide
 have hp:Bc seen t="grant"\/Bc seen t="doubt"\/Bc seen t="deny":=by
  unfold Bc;split
  ·exact .inl rfl
  ·split
   ·exact .inr (.inl rfl)
   ·exact .inr (.inr rfl)
 unfold F1;rw[if_neg h0,if_neg h1];rcases hp with e | e | e<;>rw[e]
 ·cases h:A0 sides (%[|12] going)<;>simp[n1]
 ·simp[n2,n3]
 ·cases h:A0 sides (%[|24] going)<;>simp[n4]
section
variable {P:Program}{w:World}{K:PySem.W.Frag}{mg:Str->%[|4]}
def A2H:=Aw Sz ["_law_sides","_law_going","_law_seen","_law_sentence_here","_law_ins_here","_law_outs","_law_wish"] 4
def A2C:=Aw Kq ["_law_state_here","_law_talk","_law_sentence_here","_law_seen","_law_going"] 3
theorem UH(F:%[|9] "_law_due" Sz)(GT:%[|3] "_law_true" AH 23 (C2 23))(GP:%[|3] "_law_plain" AH 24 (Fn K))(GS:%[|3] "_law_stands" AH 1 (HS K)):%[|3] "_law_due" AH 25 (NV K):=by
 refine F.ok A2H ?_;rintro bz f bp A outer s H _ Q E hr ⟨sd,gg,sn,v,t,xs,sides,going,seen,rfl,ha,hok,hs,hX,hR,cu,hG,hgl,hN,dD,q⟩
 refine⟨_,Aa (I8 (i:=4) A2H.nd rfl (Or.inl rfl) (N:=["_law_world","_law_sentence_here"]) (js:=[none,some 3]) (cl:=[("_law_sentence_here",s.heap.objs.size+1)]) ⟨rfl,rfl,rfl,(by intro p hp;simp at hp;rcases hp with rfl<;>rfl),rfl,rfl,rfl⟩ (AX (pv 1)) %[|77] (fun c1=>(CJ (Bv (AA GT hr Al (AS (pv 1) (pv 0)))))) (fun c1=>(pv 0)))
  (Aa (I8 (i:=5) A2H.nd rfl (Or.inl rfl) (N:=["_law_world","_law_sentence_here"]) (js:=[none,some 3]) (cl:=[("_law_sentence_here",s.heap.objs.size+1)]) ⟨rfl,rfl,rfl,(by intro p hp;simp at hp;rcases hp with rfl<;>rfl),rfl,rfl,rfl⟩ (AX (pv 1)) %[|77] (fun c1=>(CJ (CB (Bv (AA GT hr Al (AS (pv 1) (pv 0))))))) (fun c1=>(pv 0)))
  (Aa (Au (O2 (AR (HP hr.units0) (pv 5) (Av Bi)) (Ld (AR (HP hr.units0) (pv 4) (Av Bi)))).pt
   (A5 (D1 (AR (HP hr.units0) (pv 5) (Av Bi)) Ae Ae))
   Ak)
  (Aa (Az 6 A2H.nd (AA GP hr Al (AS (pv 2) (pv 3))))
  (Aa (Au (EY (AR AF (pv 6) Ae) (Dm (CB (Bv (AA GS hr Al (AS (pv 0) (pv 4))))))).pt
   (A5 Ae)
   Ak)
  (Aa (Au (EY (AR AF (pv 6) Ae) (Dm (CB (Bv (AA GS hr Al (AS (pv 0) (pv 5))))))).pt
   (A5 Ae)
   Ak)
  (A5 (pv 6))))))),?_⟩
 refine⟨⟨_,hG⟩,fun cc il f8=>BL (p:=fun k=>tv t k == true) (rest:=[some v]) hG f8 hgl (fun k hk H2 s2 R hR=>?_) (fun v0 H2 s2 fw=>?_) none⟩
 ·refine⟨v,t,k,rfl,ha.keep (TS.same s2),hok,hs,fun H3 s3=>?_⟩;have:=hR H3 s3;rw[show (tv t k == true)=tv t k by cases tv t k<;>rfl] at this;exact this
 refine Fv rfl ?_;refine⟨⟨_,s2.seq hG⟩,fun cc ol fE=>BL (p:=fun k=>tv t k == false) (rest:=[some v]) (s2.seq hG) fE hgl (fun k hk H3 s3 R hR=>?_) (fun v0 H3 s3 fB=>?_) none⟩
 ·refine⟨v,t,k,rfl,ha.keep (TS.same (s2.trans s3)),hok,hs,fun H4 s4=>?_⟩;have:=hR H4 s4;rw[show (tv t k == false) = !tv t k by cases tv t k<;>rfl] at this;exact this
 refine Fv rfl ?_;change AL H2 il (%[|12] going) at fw;change AL H3 ol (%[|24] going) at fB;have cY:=s2.trans s3;have ili:(%[|12] going).length<=900:=zAD (zAX _ _) hgl;have oli:(%[|24] going).length<=900:=zAD (zAX _ _) hgl;refine⟨GQ,fun e1 he1=>?_⟩;have s4:=Ab he1 (.lst []);refine⟨ol,e1,_,rfl,rfl,SqL.of (s4 _ _ fB),SqL.of A0A,?_⟩;rw[DS];generalize upd H3 e1 _=H4 at *;by_cases h0:%[|24] going=[]
 ·refine BI h0 (AB ?_);refine⟨GQ,fun e2 he2=>?_⟩;have s5:=Ab he2 (.lst []);refine⟨ol,e2,_,rfl,rfl,SqL.of (s5 _ _ (s4 _ _ fB)),SqL.of A0A,?_⟩;rw[DS];refine BI h0 ?_;have:=q _ (cY.trans (s4.trans s5));unfold F1 at this;rw[if_pos h0] at this;exact this
 refine Bw h0 ?_;refine⟨GQ,fun e2 he2=>?_⟩;have s5:=Ab he2 (.lst []);have hi5:=s5 _ _ (s4 _ _ (s3 _ _ fw));have ho5:=s5 _ _ (s4 _ _ fB);refine⟨il,e2,_,rfl,rfl,SqL.of hi5,SqL.of A0A,?_⟩;rw[DS];generalize upd H4 e2 _=H5 at *;have s15:=cY.trans (s4.trans s5);by_cases h1:%[|12] going=[]
 ·refine BI h1 ?_;refine⟨GQ,fun e3 he3=>?_⟩;have s6:=Ab he3 (.lst []);refine⟨ol,e3,_,rfl,rfl,SqL.of (s6 _ _ ho5),SqL.of A0A,?_⟩;rw[DS];refine Bw h0 ?_;have:=q _ (s15.trans s6);unfold F1 at this;rw[if_neg h0,if_pos h1] at this;exact this
 refine Bw h1 ?_;rw[UW sides going seen t h0 h1] at q;refine⟨sn,v,t,seen,rfl,ha.keep (TS.same s15),hok,hs,s15.seq hN,dD,fun H6 s6=>?_⟩;have gk:=s15.trans s6;refine⟨rfl,?_⟩
 have bC:∀H7,A0B H6 H7->(¬(Bc seen t="grant"/\A0 sides (%[|12] going)=false))->(¬(Bc seen t="deny"/\A0 sides (%[|24] going)=false))->Q (.str (Bc seen t)) H7:=fun H7 s7 n1 n2=>by
  have:=q H7 (gk.trans s7);rw[if_neg n1,if_neg n2] at this;exact this
 by_cases hg:Bc seen t="grant"
 ·have nd:¬Bc seen t="deny":=fun z=>by rw[hg] at z;revert z;decide
  refine BI (by rw[hg]) ?_;refine⟨sd,il,_,xs,sides,rfl,SqL.of (s6 _ _ hi5),ili,gk.seq hX,hR.keep gk,cu,fun H7 s7=>?_⟩
  cases bW:A0 sides (%[|12] going) with
  | false=>
   refine AB ?_;have:=q H7 (gk.trans s7);rw[if_pos ⟨hg,bW⟩] at this;exact this
  | true=>
   refine Aq ?_;refine⟨rfl,Bw (fun z=>nd (by injection z)) (Aq ?_)⟩;exact bC H7 s7 (fun z=>by rw[bW] at z;exact nomatch z.2) (fun z=>nd z.1)
 ·refine Bw (fun z=>hg (by injection z)) (Aq ?_);refine⟨rfl,?_⟩;by_cases hd:Bc seen t="deny"
  ·refine BI (by rw[hd]) ?_;refine⟨sd,ol,_,xs,sides,rfl,SqL.of (s6 _ _ ho5),oli,gk.seq hX,hR.keep gk,cu,fun H7 s7=>?_⟩
   cases bW:A0 sides (%[|24] going) with
   | false=>
    refine AB ?_;have:=q H7 (gk.trans s7);rw[if_neg (fun z=>hg z.1),if_pos ⟨hd,bW⟩] at this;exact this
   | true=>
    refine Aq ?_;exact bC H7 s7 (fun z=>hg z.1) (fun z=>by rw[bW] at z;exact nomatch z.2)
  ·refine Bw (fun z=>hd (by injection z)) (Aq ?_);exact bC H6 (A0B.refl _) (fun z=>hg z.1) (fun z=>hd z.1)
end
theorem Fb:C3 X (binaryOp .FloorDiv) (rI (fun _ j=>0<j/\j.natAbs.log2<9000) fun i j=>.int (i / j)):=Xf fun i j _ _ _ _ _ hc q=>by
 have h1:(0:Int)<j:=hc.1;exact floordiv_int %[|1] (by rw[zCL i %[|1]];exact q) (.inl (PyProof.noPylong_of_log2 hc.2))
section
variable {X:Cx}
end
abbrev HI:Stmt:=Bu 65
abbrev ER:Stmt:=Bu 64
abbrev IU:Stmt:=Bu 75
inductive FZ(K:PySem.W.Frag)(vs:List V)(H:Hp)(Q:VK)(E:XK):Prop where
 | mk (st:Addr) (m:Nat) (xs:List V) (ts:List Tr) (_:vs=[.int m,.ref st]) (_:H st=some (.lst xs)) (_:A0I H xs ts) (_:(∀t∈ts,t.ok 5/\t.size<=23)) (_:1<=m) (_:m<=5) (_:∀(l:Addr)(H':Hp),A0B H H'->H l=none->AL H' l (AY m ts)->Q (.ref l) H'):FZ K vs H Q E
inductive DF(vs:List V)(H:Hp)(Q:VK)(E:XK):Prop where
 | mk (n:Int) (m:Nat) (_:vs=[.int n,.int m]) (_:0<=n) (_:1<=m) (_:m<=5) (_:∀(l:Addr)(xs:List V)(ts:List Tr)(H':Hp),A0B H H'->H l=none->H' l=some (.lst xs)->A0I H' xs ts->(∀t∈ts,t.ok m/\t.ok 5/\t.size<=23)->ts.length<=3->AY m ts≠[]->Q (.ref l) H'):DF  vs H Q E
inductive En(K:PySem.W.Frag)(vs:List V)(H:Hp)(Q:VK)(E:XK):Prop where
 | mk (r mk:Addr) (room:List Int) (marks:List (%[|17])) (_:vs=[.ref r,.ref mk]) (_:SqL K H r (room.map V.int)) (_:room.length<=32) (_:H mk=some (.lst (marks.map Cz))) (_:marks.length<=5) (_:∀(l:Addr)(H':Hp),A0B H H'->H l=none->AL H' l (room.filter (DE marks))->Q (.ref l) H'):En K vs H Q E
theorem U8(m:Nat):C4 (2^m)≠[]:=fun e=>by
 have:(0:Int)∈C4 (2^m):=A2D.mpr ⟨zDG _,by have:0<2^m:=Nat.pow_pos %[|0];omega⟩;rw[e] at this;cases this
section
variable {P:Program}{w:World}{K:PySem.W.Frag}{mg:Str->%[|4]}
def A1T:=Aw HI ["_law_many","_law_standing_here","_law_row","_law_sentence_here"] 2
def A1C:=Aw ER ["_law_n","_law_many","_law_found","_law_row","_law_turn","_law_sentence_here"] 2
def A1W:=Aw IU ["_law_room","_law_marks","_law_found","_law_world","_law_bits"] 2
theorem MX(F:%[|9] "_law_room_of" HI)(GW:%[|3] "_law_worlds" AH 1 Db)(GI:%[|3] "_law_ins" AH 24 (Ps K true)):%[|3] "_law_room_of" AH 25 (FZ K):=by
 refine F.ok A1T ?_;rintro bz f bp A outer s H _ Q E hr ⟨st,m,xs,ts,rfl,hS,hP,hok,bS,bP,q⟩;have bB:=hP.len
 refine⟨_,Aa (Az 2 A1T.nd (AA GW hr Al (AM (pv 0))))
  (Aa (BZ zAV rfl (AX (pv 1)) (BA 3 A1T.nd)
   (Ai (Az 2 A1T.nd (AA GI hr Al (AS (pv 3) (pv 2))))))
  (A5 (pv 2))),?_⟩
 refine⟨m,rfl,bS,bP,fun r4 H4 s4 r40 dO=>?_⟩;refine⟨⟨_,SqL.of (s4 _ _ hS)⟩,Bf (K:=K) (a:=st) (xs:=xs) (fun i σ Hi=>∃(v1:Option V)(r:Addr),σ=[some (.int (m:Int)),some (.ref st),some (.ref r),v1]/\A0B H Hi/\H r=none/\AL Hi r (AY m (ts.take i))) ⟨_,r4,rfl,s4,r40,dO⟩ ?_ ?_ ?_⟩
 ·rintro i σ Hi _ ⟨v1,r,rfl,si,_⟩;exact SqL.of (si _ _ hS)
 ·rintro i y σ Hi hy ⟨v1,r,rfl,si,r0,hri⟩;obtain⟨t,ht,bF⟩:=BR hP hy;obtain⟨o1,o2⟩:=hok t (zAN ht);have lr:=(Hs bP (ts.take i)).len;refine⟨y,t,r,_,rfl,bF.keep (TS.same si),o1,o2,SqL.of hri,by omega,fun l H5 s5 l0 hl=>?_⟩;refine⟨_,l,rfl,si.trans s5,si.free l0,?_⟩;rw[zAR,ht];show AL H5 l (AY m (ts.take i++[t]));rw[Eg];exact hl
 rintro σ H5 ⟨v1,r,rfl,s5,r0,hr5⟩;rw[bB,zAQ] at hr5;exact q r H5 s5 r0 hr5
theorem KB(F:%[|9] "_law_standing" ER)(GW:%[|3] "_law_worlds" AH 1 Db)(B:Bl mg)(GS:%[|3] "_law_sentence" AH 1 Ik)(GI:%[|3] "_law_ins" AH 24 (Ps K true)):%[|3] "_law_standing" AH 25 DF:=by
 refine F.ok A1C ?_;rintro bz f bp A outer s H _ Q E hr ⟨n,m,rfl,hn,bS,bP,q⟩
 refine⟨_,Aa (Az 2 A1C.nd (Av Bi))
  (Aa (Az 3 A1C.nd (AA GW hr Al (AM (pv 1))))
  (Aa (BZ zAV rfl (Cm %[|8] B.range (AM (Ao A8 (pv 0) Ad))) (BA 4 A1C.nd)
   (Aa (Az 5 A1C.nd (AA GS hr Al (Aj (Ao Fb (Ao Bj (pv 0) Ad) (An AI (Av (Aj Ad (AS (Ao ES Ad Ad) (Ao ES Ad Ad)))) (pv 4))) (AS Ad (pv 1)))))
   (Ai (Au (AR (Nh hr.units0) (AA GI hr Al (AS (pv 5) (pv 3))) (Av Bi))
    (Aa (Az 3 A1C.nd (AA GI hr Al (AS (pv 5) (pv 3))))
    (Ai (As (A7 (pv 2) (AM (pv 5))))))
    Ak))))
  (A5 (pv 2)))),?_⟩
 refine⟨GQ,fun fl ix=>?_⟩;have s1:=Ab ix (.lst []);have fl1:upd H fl (.lst []) fl=some (.lst []):=A0A;generalize upd H fl _=H1 at *;refine⟨m,rfl,bS,bP,fun r4 H4 s4 r40 dO=>?_⟩;have c0:0<=n%4:=zA0 _ %[|0];have c4:n%4<4:=zA2 _ %[|0];refine⟨(by show (0:Int)<4;decide),(by show -(2^62)<=n%4;omega),(by show n%4<2^62;omega),B4 (n:=(n%4).toNat) (fun i σ Hi=>∃(v1 v2:Option V)(r:Addr)(xs:List V)(ts:List Tr),σ=[some (.int n),some (.int (m:Int)),some (.ref fl),some (.ref r),v1,v2]/\A0B H Hi/\r≠fl/\AL Hi r (AY m ts)/\Hi fl=some (.lst xs)/\A0I Hi xs ts/\(∀t∈ts,t.ok m/\t.ok 5/\t.size<=23)/\ts.length<=i/\AY m ts≠[]) ⟨_,_,r4,[],[],rfl,s1.trans s4,(Ah fl1 r40).symm,dO,s4 _ _ fl1,.nil,fun t ht=>by simp at ht,zAB _,U8 m⟩ ?_ ?_⟩
 ·rintro i σ Hi hi ⟨v1,v2,r,xs,ts,rfl,si,nrf,hri,hfi,hP,hok,bo,bx⟩;rw[zDO];have hi3:i<3:=by omega
  have bB:=hP.len;have lr:=(Hs bP ts).len
  obtain⟨c,hc,c1,c2⟩:∃c:Int,Er [V.int 1,.int (10^(7:Int).toNat),.int (10^(14:Int).toNat)] (i:Int)=some (.int c)/\0<c/\c.natAbs.log2<9000:=by
   match i,hi3 with
   | 0,_=>exact⟨1,rfl,by decide,by decide⟩
   | 1,_=>exact⟨_,rfl,by decide,by decide +kernel⟩
   | 2,_=>exact⟨_,rfl,by decide,by decide +kernel⟩
  refine⟨%[|45],%[|67],%[|67],No,fun dl gC=>?_⟩;have s5:=Ab gC (.lst [V.int 1,.int (10^(7:Int).toNat),.int (10^(14:Int).toNat)]);have dl5:upd Hi dl (.lst [V.int 1,.int (10^(7:Int).toNat),.int (10^(14:Int).toNat)]) dl=some (.lst [V.int 1,.int (10^(7:Int).toNat),.int (10^(14:Int).toNat)]):=A0A;generalize upd Hi dl _=H5 at *;refine⟨SqL.of dl5,hc,⟨c1,c2⟩,_,6,m,rfl,(by show 0<=n / 4 / c;exact zC (zC hn %[|0]) (Int.le_of_lt c1)),by decide,by decide,bS,bP,fun v t H6 s6 ha hokt hszt0=>?_⟩;have hszt:t.size<=23:=by omega
  have si6:=s5.trans s6;have dr:t.ok 5:=Tr.ok.mono bP hokt;refine⟨v,t,r,_,rfl,ha,dr,hszt,SqL.of (si6 _ _ hri),by omega,fun l7 H7 s7 l70 hl7=>?_⟩;refine⟨GQ,fun e he=>?_⟩;have s8:=Ab he (.lst []);refine⟨l7,e,_,rfl,rfl,SqL.of (s8 _ _ hl7),SqL.of A0A,?_⟩;generalize upd H7 e _=H8 at *;have si8:=si6.trans (s7.trans s8);by_cases ce:(AY m ts).filter (fun k=>tv t k == true)=[]
  ·rw[ce];refine Aq ?_;exact⟨_,_,r,xs,ts,rfl,si.trans si8,nrf,si8 _ _ hri,si8 _ _ hfi,A0I.keep (TS.same si8) hP,hok,by omega,bx⟩
  ·have hne':(!(((AY m ts).filter (fun k=>tv t k == true)).map V.int).isEmpty)=true:=by
    cases h:(AY m ts).filter (fun k=>tv t k == true) with
    | nil=>exact absurd h ce
    | cons _ _=>rfl
   rw[hne'];refine AB ?_;refine⟨v,t,r,_,rfl,ha.keep (TS.same (s7.trans s8)),dr,hszt,SqL.of (si8 _ _ hri),by omega,fun l9 H9 s9 l90 d3=>?_⟩;have si9:=si8.trans s9;have hf9:=si9 _ _ hfi;refine⟨.inl ⟨rfl,_,SqL.of hf9⟩,hf9,Ar %[|1],?_⟩;have iE:TS H9 (upd H9 fl (.lst (xs++[v]))):=TS.lst hf9;have n9:l9≠fl:=(Ah (si8 _ _ hfi) l90).symm;refine⟨_,_,l9,xs++[v],ts++[t],rfl,Ap (si.trans si9) ix _,n9,?_,A0A,A0I.snoc ((ha.keep (TS.same (s7.trans (s8.trans s9)))).keep iE) (A0I.keep iE (A0I.keep (TS.same si9) hP)),fun u hu=>?_,by rw[zA];show ts.length+1<=i+1;omega,by rw[Eg];exact ce⟩
   ·show upd H9 fl _ l9=_;rw[Af n9,Eg];exact d3
   ·rcases List.mem_append.mp hu with h1 | h1
    ·exact hok u h1
    ·rw[List.mem_singleton.mp h1];exact⟨hokt,dr,hszt⟩
 ·rintro σ Hi ⟨v1,v2,r,xs,ts,rfl,si,nrf,hri,hfi,hP,hok,bo,bx⟩;exact q fl xs ts Hi si ix hfi hP hok %[|1] bx
theorem NB(F:%[|9] "_law_seen_by" IU)(T:Fz mg)(B:Bl mg):%[|3] "_law_seen_by" AH 1 (En K):=by
 refine F.ok A1W ?_;rintro bz f bp A outer s H _ Q E hr ⟨r,mk,room,marks,rfl,hR,hl,hM,i6,q⟩
 refine⟨_,Aa (Az 2 A1W.nd (Av Bi))
  (Aa (BZ zAV rfl (AX (pv 0)) (BA 3 A1W.nd)
   (Aa (Az 4 A1W.nd (Bk (N:=["_law_k","_law_world"]) (js:=[none,some 3]) (cl:=[("_law_world",s.heap.objs.size+2)]) ⟨rfl,rfl,rfl,(by intro p hp;simp at hp;rcases hp with rfl<;>rfl),rfl,rfl,rfl⟩ (Cm %[|8] B.range (AM (%[|53] (AM (pv 1))))) (fun c1=>(BA 0 (show (["_law_k","_law_world"]:List Str).Nodup by decide +kernel))) (fun c1=>BG) (fun c1=>(Bx AF (Ao A8 (Ao Bj (pv 1) (An AI (Av (Aj Ad (Aj Ad (Aj Ad (AS Ad Ad))))) (pv 0))) Ad) Ad (Cd _)))))
   (Ai (Au (Bv (AK (Eo rfl) %[|8] T.all boot_all (AM (Bk (N:=["_law_k","_law_bits","_law_marks"]) (js:=[none,some 4,some 1]) (cl:=[("_law_marks",s.heap.objs.size+1),("_law_bits",s.heap.objs.size+3)]) ⟨rfl,rfl,rfl,(by intro p hp;simp at hp;rcases hp with rfl | rfl<;>rfl),rfl,rfl,rfl⟩ (Cm %[|8] B.range (AM (%[|53] (AM (pv 1))))) (fun c1=>(BA 0 (show (["_law_k","_law_bits","_law_marks"]:List Str).Nodup by decide +kernel))) (fun c1=>BG) (fun c1=>(JE (Sr (IX (An AI (pv 2) (pv 0)))) (Dt (Bx AF (An AI (pv 2) (pv 0)) (An AI (pv 1) (pv 0)) (Cd _)))))))))
    (Ai (As (A7 (pv 2) (AM (pv 3)))))
    Ak))))
  (A5 (pv 2))),?_⟩
 refine⟨GQ,fun fl ix=>?_⟩;have s1:=Ab ix (.lst []);refine⟨⟨_,s1.seq hR⟩,Bf (K:=K) (a:=r) (xs:=room.map V.int) (fun i σ Hi=>∃(v1 v2:Option V),σ=[some (.ref r),some (.ref mk),some (.ref fl),v1,v2]/\A0B H Hi/\AL Hi fl ((room.take i).filter (DE marks))) ⟨_,_,rfl,s1,A0A⟩ ?_ ?_ ?_⟩
 ·rintro i σ Hi _ ⟨v1,v2,rfl,si,_⟩;exact si.seq hR
 ·rintro i y σ Hi hy ⟨v1,v2,rfl,si,hfi⟩;rw[List.getElem?_map] at hy;obtain⟨wd,hwd,rfl⟩:=Option.map_eq_some_iff.mp hy;have hMi:=si _ _ hM;have hwi:i<room.length:=(List.getElem?_eq_some_iff.mp hwd).1;refine⟨.inl (SqL.of hMi),%[|61],%[|61],fun cc bl hbl=>B4 (n:=((((marks.map Cz).length:Nat):Int)).toNat) (fun j σ Hj=>∃(v0:Option V),σ=[v0,some (.int wd)]/\A0B Hi Hj/\Hj bl=some (.lst ((List.range j).map fun k=>V.bl (DU k wd)))) ?_ ?_ ?_⟩
  ·exact⟨_,rfl,Ab hbl _,A0A⟩
  ·rintro j σ Hj hj ⟨v0,rfl,sj,io⟩;rw[zDO]
   have hj5:j<marks.length:=by
    have h0:j<(((marks.map Cz).length:Nat):Int).toNat:=hj;rw[List.length_map] at h0;omega
   refine AB ⟨SJ,fun pl bB=>?_⟩;have s3:=Ab bB (.lst Yp);refine⟨SqL.of A0A,Td %[|1],⟨pow_pos j,RP %[|1]⟩,(by show (0:Int)<2;decide),rfl,?_⟩;refine⟨_,s3 _ _ io,Ar (by rw[List.length_map,zCC];omega),?_⟩;refine⟨_,rfl,Ap (sj.trans s3) hbl _,?_⟩;rw[A0A,Oc,List.range_succ,List.map_append];rfl
  rintro σ Hj ⟨v0,rfl,sj,io⟩
  have io:Hj bl=some (.lst ((List.range marks.length).map fun k=>V.bl (DU k wd))):=by
   have e:((((marks.map Cz).length:Nat):Int)).toNat=marks.length:=by rw[List.length_map];omega
   rw[e] at io;exact io
  refine Fv rfl ?_;have hMj:=sj _ _ hMi;refine⟨.inl (SqL.of hMj),%[|61],%[|61],fun c2 al gS=>B4 (n:=((((marks.map Cz).length:Nat):Int)).toNat) (fun j σ Hk=>∃(v0:Option V),σ=[v0,some (.ref bl),some (.ref mk)]/\A0B Hj Hk/\Hk al=some (.lst (((marks.take j).mapIdx (OQ wd)).map V.bl))) ?_ ?_ ?_⟩
  ·exact⟨_,rfl,Ab gS _,A0A⟩
  ·rintro j σ Hk hj ⟨v0,rfl,sk,hak⟩;rw[zDO]
   have hj5:j<marks.length:=by
    have h0:j<(((marks.map Cz).length:Nat):Int).toNat:=hj;rw[List.length_map] at h0;omega
   have hmi:marks[j]? = some marks[j]:=List.getElem?_eq_getElem hj5;generalize marks[j]=mm at hmi;have bF:Er (marks.map Cz) (j:Int)=some (Cz mm):=Ac (by rw[List.getElem?_map,hmi];rfl);have hbt:Er ((List.range marks.length).map fun k=>V.bl (DU k wd)) (j:Int)=some (V.bl (DU j wd)):=Ac (by rw[List.getElem?_map,List.getElem?_range hj5];rfl)
   have bC:∀H5,A0B Hk H5->∃xs,H5 al=some (.lst xs)/\xs.length<sizeLine/\(fun σ Hk=>∃(v0:Option V),σ=[v0,some (.ref bl),some (.ref mk)]/\A0B Hj Hk/\Hk al=some (.lst (((marks.take (j+1)).mapIdx (OQ wd)).map V.bl))) [some (.int (j:Nat)),some (.ref bl),some (.ref mk)] (upd H5 al (.lst (xs++[V.bl (OQ wd j mm)]))):=fun H5 s5=>by
    refine⟨_,s5 _ _ hak,Ar ?_,_,rfl,Ap (sk.trans s5) gS _,?_⟩
    ·rw[List.length_map,List.length_mapIdx,zAW];omega
    ·rw[A0A,Mv wd hmi,List.map_append];rfl
   cases mm with
   | none=>
    refine AB ⟨SqL.of (sk _ _ hMj),bF,AB ?_⟩;obtain⟨_,a,b,c⟩:=bC _ (A0B.refl _);exact⟨_,a,b,c⟩
   | some b=>
    refine AB ⟨SqL.of (sk _ _ hMj),bF,Aq ?_⟩;refine⟨SqL.of (sk _ _ hMj),bF,SqL.of (sk _ _ io),hbt,rfl,?_⟩;have e:decide (Cz (some b)=V.bl (DU j wd))=OQ wd j (some b):=OI b (DU j wd);rw[e];obtain⟨_,a,b,c⟩:=bC _ (A0B.refl _);exact⟨_,a,b,c⟩
  rintro σ Hk ⟨v0,rfl,sk,hak⟩
  have hak:Hk al=some (.lst ((marks.mapIdx (OQ wd)).map V.bl)):=by
   have e:((((marks.map Cz).length:Nat):Int)).toNat=marks.length:=by rw[List.length_map];omega
   rw[e,zAQ] at hak;exact hak
  have sik:=sj.trans sk;refine⟨al,_,rfl,SqL.of hak,?_⟩;have et:room.take (i+1)=room.take i++[wd]:=by rw[zAR,hwd];rfl
  have hfk:=sik _ _ hfi
  cases hb:(marks.mapIdx (OQ wd)).all id with
  | true=>
   refine AB ?_;have hfk':Hk fl=some (.lst (((room.take i).filter (DE marks)).map V.int)):=hfk;have ll:((room.take i).filter (DE marks)).length<=(room.take i).length:=zAX _ _;refine⟨.inl ⟨rfl,_,SqL.of hfk'⟩,hfk',Ar (by rw[List.length_map];rw[zAW] at ll;omega),?_⟩;refine⟨_,_,rfl,Ap (si.trans sik) ix _,?_⟩;have ea:DE marks wd=true:=hb;show upd Hk fl _ fl=_;rw[A0A,et,zB7,zCV ea,zCJ,List.map_append];rfl
  | false=>
   refine Aq ?_
   have ea:¬DE marks wd=true:=by
    have:DE marks wd=false:=hb;rw[this];decide
   refine⟨_,_,rfl,si.trans sik,?_⟩;rw[et,zB7,zCU ea,zCJ,zA6];exact hfk
 ·rintro σ Hi ⟨v1,v2,rfl,si,hfi⟩;rw[List.length_map,zAQ] at hfi;exact q fl Hi si ix hfi
end
structure ag(room:List Int)(W:Ta):Prop where
 ln:W.lefts≠[]
 l9:∀l∈W.lefts,l.length<=900
 s9:∀s∈W.sides,s.length<=900
 rl:W.rule="elder"\/W.rule="newer"
def DV(Z:Mz)(W:Ta)(t:Tr):Str:=if W.ended=true then Bc (Z.room.filter (DE Z.marks)) t else F1 W.sides W.going (Z.room.filter (DE Z.marks)) t
inductive IS(K:PySem.W.Frag)(vs:List V)(H:Hp)(Q:VK)(E:XK):Prop where
 | mk (M:%[|6]) (Z:Mz) (p:Mt) (v:V) (t:Tr) (_:vs=[.ref Z.st,.ref p.d,v]) (_:ModT M H Z) (_:p∈Z.ts) (_:ag Z.room p.w) (_:Z.room.length<=32) (_:Z.marks.length<=5) (_:t.At H v) (_:t.ok 5) (_:t.size<=23) (_:∀H',A0B H H'->Q (.str (DV Z p.w t)) H'):IS K vs H Q E
theorem DH{l:List (List Int)}(h:l≠[]):l.getLastD []∈l:=by
 cases l with
 | nil=>exact absurd rfl h
 | cons x l=>rw[List.getLastD_cons];exact List.getLastD_mem_cons
theorem MD{l:List (List Int)}(h:l≠[]):l.headD []∈l:=by
 cases l with
 | nil=>exact absurd rfl h
 | cons x l=>exact List.mem_cons_self
section
variable {P:Program}{w:World}{K:PySem.W.Frag}{mg:Str->%[|4]}
theorem Qg(F:%[|9] "_law_due_in" Kq)(GB:%[|3] "_law_seen_by" AH 1 (En K))(GP:%[|3] "_law_plain" AH 24 (Fn K))(GD:%[|3] "_law_due" AH 25 (NV K)):%[|3] "_law_due_in" AH 26 (IS K):=by
 refine F.ok A2C ?_;rintro bz f bp A outer s H _ Q E hr ⟨M,Z,p,v,t,rfl,hZ,hp,hW,hr32,bP,ha,dr,hsz,q⟩
 refine⟨_,Aa (Az 3 A2C.nd (AA GB hr Al (AS (An AE (pv 0) Ae) (An AE (pv 0) Ae))))
  (Aa (Au (BS (An AE (pv 1) Ae) (fun _=>rfl))
   (A5 (AA GP hr Al (AS (pv 3) (pv 2))))
   Ak)
  (Aa (Az 4 A2C.nd (An AI (An AE (pv 1) Ae) (D1 (AR AF (An AE (pv 1) Ae) Ae) (HF EX Ad) Ad)))
  (A5 (AA GD hr Al (Aj (An AE (pv 1) Ae) (Aj (pv 4) (AS (pv 3) (pv 2)))))))),?_⟩
 have mp:=hZ.tt p hp;have rr:=Ay _ _ hZ.r;refine⟨hZ.ob,Hn,hZ.ob,Ma,Z.r,Z.mka,Z.room,Z.marks,rfl,SqL.of rr,hr32,Ay _ _ hZ.mkm,bP,fun sn H1 s1 sn0 hsn=>?_⟩;have ls:(Z.room.filter (DE Z.marks)).length<=900:=zAD (zAX _ _) %[|1];have c6:=mp.keep s1;refine⟨c6.ob,E2,p.w.ended,rfl,?_⟩
 cases he:p.w.ended with
 | true=>
  refine AB ⟨sn,v,t,_,rfl,ha.keep (TS.same s1),dr,hsz,SqL.of hsn,ls,fun H2 s2=>?_⟩;have:=q H2 (s1.trans s2);unfold DV at this;rw[if_pos he] at this;exact this
 | false=>
  refine Aq ?_
  have q':∀H',A0B H H'->Q (.str (F1 p.w.sides p.w.going (Z.room.filter (DE Z.marks)) t)) H':=fun H' s'=>by
   have:=q H' s';unfold DV at this;rw[if_neg (by rw[he];decide)] at this;exact this
  refine⟨c6.ob,DQ,c6.ob,UF,rfl,?_⟩;by_cases dP:p.w.rule="elder"
  ·refine BI (by rw[dP]) ?_;obtain⟨gl,eG,gZ⟩:=Fe c6.lr hW.ln;have eg:p.w.going=p.w.lefts.getLastD []:=by unfold Ta.going;rw[if_pos dP];rfl
   have gl9:p.w.going.length<=900:=by rw[eg];exact hW.l9 _ (DH hW.ln)
   refine⟨_,rfl,SqL.of c6.hl,eG,?_⟩;exists 30
  ·refine Bw (fun z=>dP (by injection z)) ?_;obtain⟨gl,eG,gZ⟩:=Ek c6.lr hW.ln;have eg:p.w.going=p.w.lefts.headD []:=by unfold Ta.going;rw[if_neg dP];rfl
   have gl9:p.w.going.length<=900:=by rw[eg];exact hW.l9 _ (MD hW.ln)
   refine⟨SqL.of c6.hl,eG,?_⟩;exists 30
end
abbrev JY:Stmt:=Bu 67
def Jg(st r mk tl ln:Addr)(m:Nat)(ts:List Tr):Mz:=⟨st,r,mk,tl,ln,m,AY m ts,List.replicate m none,[.str (BD m ts)],[]⟩
def XV(m:Nat)(r mk:Addr):List (Str×V):=[("many",.int (m:Int)),("room",.ref r),("marks",.ref mk)]
def WL(m:Nat)(r mk tl:Addr):List (Str×V):=[("many",.int (m:Int)),("room",.ref r),("marks",.ref mk),("talks",.ref tl)]
inductive Ii(vs:List V)(H:Hp)(Q:VK)(E:XK):Prop where
 | mk (sd:Addr) (m:Nat) (xs:List V) (ts:List Tr) (_:vs=[.int m,.ref sd]) (_:H sd=some (.lst xs)) (_:A0I H xs ts) (_:(∀t∈ts,t.ok 5/\t.size<=23)) (_:ts.length<=100) (_:1<=m) (_:m<=5) (_:∀(st r mk tl ln:Addr)(H':Hp),A0B H H'->H st=none->H r=none->H mk=none->H tl=none->H ln=none->H' st=some (.dK (dS (Jd (Jg st r mk tl ln m ts))))->AL H' r (AY m ts)->H' mk=some %[|64]->H' tl=some (.lst [])->H' ln=some (.lst [.str (BD m ts)])->Q (.ref st) H'):Ii  vs H Q E
section
variable {P:Program}{w:World}{K:PySem.W.Frag}{mg:Str->%[|4]}
def A2E:=Aw JY ["_law_many","_law_standing_here","_law_line","_law_state_here"] 2
theorem P6(F:%[|9] "_law_state" JY)(T:Fz mg)(B:Bl mg)(GH:%[|3] "_law_shown" AH 23 (Mh 23))(GO:%[|3] "_law_room_of" AH 25 (FZ K)):%[|3] "_law_state" AH 26 Ii:=by
 refine F.ok A2E ?_;rintro bz f bp A outer s H _ Q E hr ⟨sd,m,xs,ts,rfl,hst8,hP8,f9,bo,bS,bP,q⟩;have bB:=hP8.len
 refine⟨_,Aa (Az 2 A2E.nd (DA zB5 zCA zCB E7 Ae (AM (Ao TC (Av (AS Ae (AJ Jk %[|8] T.str boot_str (AM (pv 0))))) (Bk (N:=["_law_sentence_here"]) (js:=[none]) (cl:=[]) ⟨rfl,rfl,rfl,zB2 _,rfl,rfl,rfl⟩ (AX (pv 1)) (fun c1=>(BA 0 (show (["_law_sentence_here"]:List Str).Nodup by decide +kernel))) (fun c1=>BG) (fun c1=>(AA GH hr Al (AM (pv 0)))))))))
  (Aa (Az 3 A2E.nd (Lk (ks:=["many","room","marks"]) (CD (pv 0) (CD (AA GO hr Al (AS (pv 0) (pv 1))) (CD (Bk (N:=["_law_k"]) (js:=[none]) (cl:=[]) ⟨rfl,rfl,rfl,zB2 _,rfl,rfl,rfl⟩ (Cm %[|8] B.range (AM (pv 0))) (fun c1=>(BA 0 (show (["_law_k"]:List Str).Nodup by decide +kernel))) (fun c1=>BG) (fun c1=>Cc)) RR))) %[|0] rfl rfl (fun z=>nomatch z) %[|0] %[|0]))
  (Aa (B8 (Av Bi) (Ca (pv 3) Ae BX))
  (Aa (B8 (Av (AM (pv 2))) (Ca (pv 3) Ae BX))
  (A5 (pv 3))))),?_⟩
 refine⟨rfl,(m:Int),rfl,by omega,by omega,Cy,fun al gS=>?_⟩;have s9:=Ab gS %[|73];have al9:upd H al %[|73] al=some %[|73]:=A0A;generalize upd H al _=H9 at *;have hP9:=A0I.keep (TS.same s9) hP8;refine⟨⟨_,SqL.of (s9 _ _ hst8)⟩,fun cc acc br=>JP (vs:=ts.map fun t=>V.str (B0 t)) (rest:=[]) (SqL.of (s9 _ _ hst8)) br %[|1] %[|61] (fun i y b hy hb dC eB R hR=>?_) (fun v0 dC eB hac=>?_) none⟩
 ·obtain⟨t,ht,bF⟩:=BR hP9 hy;obtain⟨o1,o2⟩:=f9 t (zAN ht);rw[List.getElem?_map,ht] at hb;cases hb;refine⟨y,t,rfl,bF.keep (TS.same eB),o1,o2,o2,fun z eT hz fR=>?_⟩;rw[FK hz];exact hR eT fR
 have l2:%[|62].length<=1000:=by
  rw[zA,List.length_map];show 2+ts.length<=1000;omega
 refine⟨al,acc,_,_,rfl,rfl,eB _ _ al9,hac,(by rw[zA] at l2;exact zAD l2 %[|0]),fun cl d4=>?_⟩;have fR:=Ab d4 (.lst %[|62]);have cl11:upd dC cl (.lst %[|62]) cl=some (.lst %[|62]):=A0A;generalize upd dC cl _=eT at *
 have ew:%[|62]=%[|82].map V.str:=by
  rw[zAP,zAP,zBJ];rfl
 rw[ew] at cl11;have hsum:=FJ (ts:=ts) fun t ht=>zAD (f9 t ht).2 %[|0]
 have hdig:=Jz bP;refine⟨Str.ofString " ",cl,_,rfl,rfl,SqL.of cl11,?_,?_⟩
 ·rw[zAP,zAP,zBP,zBP,zAL,zAL,List.length_map];have e5:(Str.ofString "house").length=5:=rfl;have e1:(Str.ofString " ").length=1:=rfl;show (Str.ofString "house").length+((Str.ofString (toString (m:Int))).length+((ts.map B0).map (·.length)).sum)+(ts.length+1+1)*(Str.ofString " ").length<=16777216;rw[e1];omega
 have eln:Txt.join (Str.ofString " ") %[|82]=BD m ts:=rfl;rw[eln];have u11:A0B H eT:=s9.trans (eB.trans fR);intro st bW;have st12:upd eT st (.dK []) st=some (.dK []):=A0A;have cF:=Ab bW (.dK []);generalize upd eT st _=iB at *;have u12:=u11.trans cF;refine⟨sd,m,xs,ts,rfl,u12 _ _ hst8,A0I.keep (TS.same u12) hP8,f9,bS,bP,fun r fS cY r0 hr13=>?_⟩;refine⟨(by show -(2^62)<=(m:Int);omega),(by show (m:Int)<2^62;omega),fun cc mk bU=>B4 (n:=((m:Int)).toNat) (fun i σ Hi=>∃(v0:Option V),σ=[v0]/\A0B fS Hi/\Hi mk=some (.lst (List.replicate i V.non))) ⟨_,rfl,Ab bU _,A0A⟩ ?_ ?_⟩
 ·rintro i σ Hi hi ⟨v0,rfl,si,hmi⟩;refine AB ⟨_,hmi,Ar (by rw[zC8];omega),?_⟩;refine⟨_,rfl,Ap si bU _,?_⟩;rw[A0A,List.replicate_succ']
 rintro σ eV ⟨v0,rfl,dB,hmk14⟩;rw[zBB] at hmk14;have ja:=cY.trans dB;refine⟨ja _ _ st12,?_⟩;have ez:(["many","room","marks"]:List Str).zip [V.int (m:Int),.ref r,.ref mk]=(XV m r mk):=rfl;rw[ez];have c15:A0B eT (upd eV st (.dK (dS (XV m r mk)))):=Ap (cF.trans ja) bW _;have d15:upd eV st (.dK (dS (XV m r mk))) st=some (.dK (dS (XV m r mk))):=A0A;have nrs:r≠st:=fun e=>by rw[e,st12] at r0;cases r0
 have nms':mk≠st:=fun e=>by rw[e,cY _ _ st12] at bU;cases bU
 have r15:AL (upd eV st (.dK (dS (XV m r mk)))) r (AY m ts):=(Af nrs).trans (dB _ _ hr13);have m15:upd eV st (.dK (dS (XV m r mk))) mk=some %[|64]:=(Af nms').trans hmk14;generalize upd eV st _=H15 at *;refine⟨GQ,fun tl fG=>?_⟩;have gk:=Ab fG (.lst []);have tl16:upd H15 tl (.lst []) tl=some (.lst []):=A0A;generalize upd H15 tl _=H16 at *;have nts:tl≠st:=fun e=>by rw[e,d15] at fG;cases fG
 refine⟨st,_,_,rfl,rfl,gk _ _ d15,(by show 3<=1000;decide),?_⟩;have e4:Ck (XV m r mk) "talks" (.ref tl)=(WL m r mk tl):=by with_unfolding_all rfl
 rw[e4];have iD:A0B eT (upd H16 st (.dK (dS (WL m r mk tl)))):=Ap (c15.trans gk) bW _;have d17:upd H16 st (.dK (dS (WL m r mk tl))) st=some (.dK (dS (WL m r mk tl))):=A0A;have r17:AL (upd H16 st (.dK (dS (WL m r mk tl)))) r (AY m ts):=(Af nrs).trans (gk _ _ r15);have m17:upd H16 st (.dK (dS (WL m r mk tl))) mk=some %[|64]:=(Af nms').trans (gk _ _ m15);have t17:upd H16 st (.dK (dS (WL m r mk tl))) tl=some (.lst []):=(Af nts).trans tl16;generalize upd H16 st _=H17 at *;refine⟨Rg,fun ln dE=>?_⟩;have s18:=Ab dE (.lst [.str (BD m ts)]);have ln18:upd H17 ln (.lst [.str (BD m ts)]) ln=some (.lst [.str (BD m ts)]):=A0A;generalize upd H17 ln _=H18 at *;have nls:ln≠st:=fun e=>by rw[e,d17] at dE;cases dE
 refine⟨st,_,_,rfl,rfl,s18 _ _ d17,(by show 4<=1000;decide),?_⟩;have e5:Ck (WL m r mk tl) "lines" (.ref ln)=Jd (Jg st r mk tl ln m ts):=by with_unfolding_all rfl
 rw[e5];have c19:A0B eT (upd H18 st (.dK (dS (Jd (Jg st r mk tl ln m ts))))):=Ap (iD.trans s18) bW _;refine q st r mk tl ln _ (u11.trans c19) (u11.free bW) (u12.free r0) ((u12.trans cY).free bU) ((u11.trans c15).free fG) ((u11.trans iD).free dE) A0A ((Af nrs).trans (s18 _ _ r17)) ((Af nms').trans (s18 _ _ m17)) ((Af nts).trans (s18 _ _ t17)) ((Af nls).trans ln18)
end
theorem Hb(h:Ee a=Ee b):a=b:=by
 cases a with
 | mk x=>
  cases b with
  | mk y=>
   have h:x.toList=y.toList:=h
   have:x=y:=by
    cases x;cases y;simp at h;rw[h]
   rw[this]
theorem B6(a b:Str)(r:List Str):Ee (Str.join " " (a::b::r))=Ee a++[32]++Ee (Str.join " " (b::r)):=by
 show Ee (a++(" ":Str)++Str.join " " (b::r))=_;rw[AN,AN];rfl
theorem Df(a:Str):Ee (Str.join " " [a])=Ee a:=rfl
theorem Ep(ws:List Str):AD ws=Str.join " " ws:=eq_of_beq (join_plain_closes " " ws)
theorem ND:Ee (" ":Str)=[32]:=rfl
theorem JH(k n:Str):AD ["fork",k,n]=("fork ":Str)++k++" "++n:=by
 refine Hb ?_;have:Ee ("fork ":Str)=Ee ("fork":Str)++[32]:=by decide
 rw[Ep,B6,B6,Df,AN,AN,AN,this,ND];simp
section
variable {M:%[|6]}{H H':Hp}{Z:Mz}{q:Mt}
theorem A0S.inM(h:A0S M H p):∀c,c=p.d\/c=p.sa\/c=p.hl->H c≠none:=fun c hc z=>by
 rcases hc with rfl | rfl | rfl
 ·rw[h.ob] at z;cases z
 ·rw[h.sa] at z;cases z
 ·rw[h.hl] at z;cases z
theorem ModT.full(h:ModT M H Z):∀c∈Cj Z,H c≠none:=fun c hc z=>by
 unfold Cj at hc;simp only[zAC] at hc;rcases hc with rfl | rfl | rfl | hc
 ·rw[h.ob] at z;cases z
 ·rw[h.tl] at z;cases z
 ·rw[h.ln] at z;cases z
 ·obtain⟨p,hp,hc⟩:=List.mem_flatMap.mp hc;exists 4;exact (h.tt p hp).inM c hc z
theorem ModT.add(h:ModT M H Z)(s:A0B H H')(d0:H q.d=none)(a0:H q.sa=none)(l0:H q.hl=none)(n1:q.d≠q.sa)(n2:q.d≠q.hl)(n3:q.sa≠q.hl)(hq:A0S (q.d::q.sa::q.hl::M) H' q)(hn:q.nm∉Ol Z.ts):
  ModT (q.d::q.sa::q.hl::M) (upd H' Z.tl (.lst ((Z.ts.map fun p=>V.ref p.d)++[.ref q.d]))) { Z with ts:=Z.ts++[q] }:=by
 have hN:∀b∈[q.d,q.sa,q.hl],H b=none:=fun b hb=>by
  simp only[zAC,zAA,or_false] at hb;rcases hb with rfl | rfl | rfl
  ·exact d0
  ·exact a0
  ·exact l0
 have hm:=h.more (N:=[q.d,q.sa,q.hl]) s hN;have full:=h.full;have tM:Z.tl∈q.d::q.sa::q.hl::M:=zAG [q.d,q.sa,q.hl] h.mt;have nd:=h.nd;unfold Cj at nd;obtain⟨m1,m2⟩:=List.nodup_cons.mp nd;obtain⟨m3,m4⟩:=List.nodup_cons.mp m2;obtain⟨m5,m6⟩:=List.nodup_cons.mp m4;have ne1:Z.st≠Z.tl:=fun z=>m1 (by rw[z];simp)
 have ne2:Z.ln≠Z.tl:=fun z=>m3 (by rw[<-z];simp)
 have tn:H Z.tl≠none:=fun z=>by rw[h.tl] at z;cases z
 have e:∀{c:Addr},c≠Z.tl->upd H' Z.tl (.lst ((Z.ts.map fun p=>V.ref p.d)++[.ref q.d])) c=H' c:=fun hc=>Af hc
 have b:But (q.d::q.sa::q.hl::M) H' (upd H' Z.tl (.lst ((Z.ts.map fun p=>V.ref p.d)++[.ref q.d]))):=But.upd tM;have qd:∀{c:Addr},c∈[q.d,q.sa,q.hl]->c≠Z.tl:=fun hc z=>tn (by rw[<-z];exact hN _ hc)
 refine⟨(e ne1).trans hm.ob,?_,(e ne2).trans hm.ln,hm.ms,hm.mt,hm.ml,b _ _ hm.r,b _ _ hm.mkm,fun p hp=>?_,?_,?_⟩
 ·show upd H' Z.tl _ Z.tl=some (.lst ((Z.ts++[q]).map fun p=>V.ref p.d));rw[A0A,List.map_append];rfl
 ·rcases List.mem_append.mp hp with hp | hp
  ·obtain⟨a1,a2,a3⟩:=Ch hp;exact (hm.tt p hp).but b (e fun z=>m3 (by rw[<-z];exact List.mem_cons_of_mem _ a1)) (e fun z=>m3 (by rw[<-z];exact List.mem_cons_of_mem _ a2)) (e fun z=>m3 (by rw[<-z];exact List.mem_cons_of_mem _ a3))
  ·rw[List.mem_singleton.mp hp];exact hq.but b (e (qd %[|2])) (e (qd %[|2])) (e (qd %[|2]))
 ·have ee:Cj { Z with ts:=Z.ts++[q] }=Cj Z++[q.d,q.sa,q.hl]:=by
   unfold Cj Gw;rw[List.flatMap_append];rfl
  rw[ee];refine List.nodup_append.mpr ⟨h.nd,?_,fun b hb c hc z=>full b hb (by rw[z];exact hN c hc)⟩;simp[n1,n2,n3]
 ·show ((Z.ts++[q]).map (·.nm)).Nodup;rw[List.map_append];refine List.nodup_append.mpr ⟨h.na,List.nodup_cons.mpr ⟨(fun z=>by cases z),zBI⟩,fun b hb c hc z=>hn ?_⟩;have hc:c=q.nm:=List.mem_singleton.mp hc;rw[<-hc,<-z];exact hb
end
abbrev Ic:Stmt:=Bu 78
def C5(p:Mt)(n:Str)(d sa hl:Addr):Mt:=⟨n,d,p.sd,sa,hl,p.sds,p.sas,p.hls,p.v,p.w⟩
inductive FX(vs:List V)(H:Hp)(Q:VK)(E:XK):Prop where
 | mk (M:%[|6]) (Z:Mz) (k n:Str) (_:vs=[.ref Z.st,.str k,.str n]) (_:ModT M H Z) (_:Z.ts.length<900) (_:Z.ls.length<900) (_:k.length<=100) (_:n.length<=100) (_:(k∉Ol Z.ts->Q (.str "NoTalk") H)) (_:(k∈Ol Z.ts->n∈Ol Z.ts->Q (.str "NameTaken") H)) (_:(∀p∈Z.ts,p.nm=k->n∉Ol Z.ts->∀(d sa hl:Addr)(H':Hp),But [Z.tl,Z.ln] H H'->H d=none->H sa=none->H hl=none->ModT (d::sa::hl::M) H' { Z with ts:=Z.ts++[C5 p n d sa hl],ls:=Z.ls++[.str (AD ["fork",k,n])] }->Q (.str "done") H')):FX  vs H Q E
theorem QC:bootBuiltins "dict"=some (.type "dict"):=by rfl
section
variable {P:Program}{w:World}{K:PySem.W.Frag}{mg:Str->%[|4]}
def A1Z:=Aw Ic ["_law_state_here","_law_name_here","_law_other","_law_talk","_law_twin"] 3
theorem NR(F:%[|9] "_law_forked" Ic)(T:Fz mg)(HDI:mg "dict"=none)(GF:%[|3] "_law_find" AH 1 E4):%[|3] "_law_forked" AH 2 FX:=by
 refine F.ok A1Z ?_;rintro bz f bp A outer s H _ Q E hr ⟨M,Z,k,n,rfl,hZ,ht9,d3,fQ,gR,qN,qT,q⟩
 refine⟨_,Aa (Az 3 A1Z.nd (AA GF hr Al (AS (pv 0) (pv 1))))
  (Aa (Au (FL (IX (pv 3)))
   (A5 Ae)
   Ak)
  (Aa (Au (FL (Kt (AA GF hr Al (AS (pv 0) (pv 2)))))
   (A5 Ae)
   Ak)
  (Aa (Az 4 A1Z.nd (AJ NI %[|8] HDI QC (AM (pv 3))))
  (Aa (B8 (pv 2) (Ca (pv 4) Ae BX))
  (Aa (B8 (%[|58] (AM (An AE (pv 3) Ae))) (Ca (pv 4) Ae BX))
  (Aa (B8 (%[|58] (AM (An AE (pv 3) Ae))) (Ca (pv 4) Ae BX))
  (Aa (As (A7 (An AE (pv 0) Ae) (AM (pv 4))))
  (Aa (As (A7 (An AE (pv 0) Ae) (AM (Ao A3 (Ao A3 (Ao A3 Ae (pv 1)) Ae) (pv 2)))))
  (A5 Ae))))))))),?_⟩
 refine⟨M,Z,k,rfl,hZ,by omega,fun c=>?_,fun p hp ep=>?_⟩
 ·exact AB (qN c)
 have kin:k∈Ol Z.ts:=by rw[<-ep];exact zA9 hp
 refine Aq ?_;refine⟨M,Z,n,rfl,hZ,by omega,fun c=>?_,fun p' ck ep'=>?_⟩
 rotate_left
 ·exact AB (qT kin (by rw[<-ep'];exact zA9 ck))
 refine Aq ?_;have mp:=hZ.tt p hp;refine⟨p.d,_,rfl,mp.ob,fun d hd=>?_⟩;have s1:=Ab hd (.dK (dS (DD p)));have d1':upd H d (.dK (dS (DD p))) d=some (.dK (dS (DD p))):=A0A;generalize upd H d _=H1 at *;refine⟨d,_,_,rfl,rfl,d1',(by show 8<=1000;decide),?_⟩;have s2:A0B H (upd H1 d (.dK (dS (Ck (DD p) "name" (.str n))))):=Ap s1 hd _;have d2':upd H1 d (.dK (dS (Ck (DD p) "name" (.str n)))) d=some (.dK (dS (Ck (DD p) "name" (.str n)))):=A0A;generalize upd H1 d _=H2 at *;have jb:=mp.keep s2;refine⟨jb.ob,Ht,.inl (SqL.of jb.sa),fun sa iF=>?_⟩;have s3:=Ab iF (.lst p.sas);have a3:upd H2 sa (.lst p.sas) sa=some (.lst p.sas):=A0A;generalize upd H2 sa _=H3 at *;refine⟨d,_,_,rfl,rfl,s3 _ _ d2',(by show 8<=1000;decide),?_⟩;have nad:sa≠d:=fun e=>by rw[e,d2'] at iF;cases iF
 have s4:A0B H (upd H3 d (.dK (dS (Ck (Ck (DD p) "name" (.str n)) "said" (.ref sa))))):=Ap (s2.trans s3) hd _;have d4':upd H3 d (.dK (dS (Ck (Ck (DD p) "name" (.str n)) "said" (.ref sa)))) d=some (.dK (dS (Ck (Ck (DD p) "name" (.str n)) "said" (.ref sa)))):=A0A;have a4:upd H3 d (.dK (dS (Ck (Ck (DD p) "name" (.str n)) "said" (.ref sa)))) sa=some (.lst p.sas):=(Af nad).trans a3;generalize upd H3 d _=H4 at *;have mp4:=mp.keep s4;refine⟨mp4.ob,DQ,.inl (SqL.of mp4.hl),fun hl gb=>?_⟩;have s5:=Ab gb (.lst p.hls);have l5:upd H4 hl (.lst p.hls) hl=some (.lst p.hls):=A0A;generalize upd H4 hl _=H5 at *;refine⟨d,_,_,rfl,rfl,s5 _ _ d4',(by show 8<=1000;decide),?_⟩;have nld:hl≠d:=fun e=>by rw[e,d4'] at gb;cases gb
 have nla:hl≠sa:=fun e=>by rw[e,a4] at gb;cases gb
 have em:Ck (Ck (Ck (DD p) "name" (.str n)) "said" (.ref sa)) "helds" (.ref hl)=DD (C5 p n d sa hl):=by with_unfolding_all rfl
 rw[em];have s6:A0B H (upd H5 d (.dK (dS (DD (C5 p n d sa hl))))):=Ap (s4.trans s5) hd _;have d6':upd H5 d (.dK (dS (DD (C5 p n d sa hl)))) d=some (.dK (dS (DD (C5 p n d sa hl)))):=A0A;have a6:upd H5 d (.dK (dS (DD (C5 p n d sa hl)))) sa=some (.lst p.sas):=(Af nad).trans (s5 _ _ a4);have l6:upd H5 d (.dK (dS (DD (C5 p n d sa hl)))) hl=some (.lst p.hls):=(Af nld).trans l5;generalize upd H5 d _=H6 at *;have hsa0:H sa=none:=s2.free iF;have hhl0:H hl=none:=s4.free gb
 have hN:∀b∈[d,sa,hl],H b=none:=fun b hb=>by
  simp only[zAC,zAA,or_false] at hb;rcases hb with rfl | rfl | rfl
  ·exact hd
  ·exact hsa0
  ·exact hhl0
 have kk:=De (M:=M) s6 hN;have hq:A0S (d::sa::hl::M) H6 (C5 p n d sa hl):=⟨d6',a6,l6,by simp[C5],by simp[C5],by simp[C5],kk _ _ mp.sd,mp.sr.keep kk,mp.tr.keep (TS.same kk),mp.en.keep kk,mp.lr.keep kk⟩;have jd:=hZ.keep s6;refine⟨jd.ob,Fq,.inl ⟨rfl,_,SqL.of jd.tl⟩,jd.tl,Ar %[|61],?_⟩;have g7:=hZ.add (q:=C5 p n d sa hl) s6 hd hsa0 hhl0 nad.symm nld.symm nla.symm hq c;have b7:But [Z.tl,Z.ln] H (upd H6 Z.tl (.lst ((Z.ts.map fun p=>V.ref p.d)++[.ref d]))):=(Ag s6).trans (But.upd %[|2]);have eq7:(C5 p n d sa hl).d=d:=rfl;rw[eq7] at g7;generalize upd H6 Z.tl _=H7 at *;refine⟨g7.ob,BK,.inl ⟨rfl,_,SqL.of g7.ln⟩,?_,?_,?_,g7.ln,Ar (by show Z.ls.length<=1000;omega),?_⟩
 ·exact zAD (show ("fork ":Str).length+k.length<=1000 by have:("fork ":Str).length=5:=rfl;omega) %[|0]
 ·have:(("fork ":Str)++k).length=5+k.length:=by rw[Bm,AN,zA,<-Bm];rfl
  exact zAD (show (("fork ":Str)++k).length+1<=1000 by omega) %[|0]
 ·have:(("fork ":Str)++k++(" ":Str)).length=5+k.length+1:=by rw[Bm,AN,zA,AN,zA,<-Bm];rfl
  exact zAD (show (("fork ":Str)++k++(" ":Str)).length+n.length<=1000 by omega) %[|0]
 have hZ8:=g7.wrote (.str (AD ["fork",k,n]));rw[JH] at hZ8;have:=q p hp ep c d sa hl _ (b7.trans (But.upd (a:=Z.ln) %[|2])) hd hsa0 hhl0 (by rw[JH];exact hZ8);exact this
end
abbrev JV:Stmt:=AZ (Bu 56) 4
abbrev Il:Stmt:=AZ (Bu 56) 28
abbrev Gd:Stmt:=Bu 52
theorem RB:(Ey U m).lookup ("learn":Str)=none:=by with_unfolding_all rfl
theorem P9:(Ey U m).lookup ("refuse_letter":Str)=none:=by with_unfolding_all rfl
theorem aA(k:%[|17]):aP k=Cz k:=by cases k<;>rfl
inductive EO(f:%[|17]->Str)(vs:List V)(H:Hp)(Q:VK)(E:XK):Prop where
 | mk (k:%[|17]) (_:vs=[Cz k]) (_:Q (.str (f k)) H):EO f vs H Q E
def Nv(m:Nat)(i:Int):Prop:=0<=i/\i<(m:Int)
instance(m:Nat)(i:Int):Decidable (Nv m i):=by unfold Nv;infer_instance
inductive Gf(C cL:Addr)(vs:List V)(H:Hp)(Q:VK)(E:XK):Prop where
 | mk (x:Addr) (N:%[|6]) (U:Hk) (m:Nat) (room:List Int) (marks:List (%[|17])) (ls:List V) (i:Int) (_:vs=[.ref x,.int i]) (_:%[|70]) (_:(¬Nv m i->∀H',A0B H H'->E (.ref cL) none H')) (_:(Nv m i->∀H',A0B H H'->Q .non H')):Gf C cL vs H Q E
inductive HY(C cL cW:Addr)(fm:%[|17]->Str)(vs:List V)(H:Hp)(Q:VK)(E:XK):Prop where
 | mk (x:Addr) (N:%[|6]) (U:Hk) (m:Nat) (room:List Int) (marks:List (%[|17])) (ls:List V) (i:Int) (k:%[|17]) (_:vs=[.ref x,.int i,Cz k]) (_:%[|70]) (_:(∀a∈N,H a≠none)) (_:ls.length<900) (_:(¬Nv m i->∀H',A0B H H'->E (.ref cL) none H')) (_:(∀j:Nat,i=(j:Int)->j<m->room.filter (DE (marks.set j k))=[]->∀H',A0B H H'->E (.ref cW) none H')) (_:(∀j:Nat,i=(j:Int)->j<m->room.filter (DE (marks.set j k))≠[]->∀(mk:Addr)(H':Hp),But [x,U.ln] H H'->(∀b,H b≠none->H' b≠none)->A0M N C H' x ⟨U.dx,U.sp,mk,U.tk,U.ln⟩ m room (marks.set j k) %[|72]->Q .non H')):HY C cL cW fm vs H Q E
section
variable {M:%[|6]}{C cK:Addr}{H H':Hp}{S:HSt}
theorem A0C.learnt{mk:Addr}{marks:List (%[|17])}{ls:List V}(h:%[|23])(b:But [S.x,S.U.ln] H H')(bx:∀c,H c≠none->H' c≠none)(hA:A0M M C H' S.x ⟨S.U.dx,S.U.sp,mk,S.U.tk,S.U.ln⟩ S.m S.room marks ls):
  A0C M C cK H' { S with U:=⟨S.U.dx,S.U.sp,mk,S.U.tk,S.U.ln⟩,marks:=marks,ls:=ls }:=by
 have hx:=h.h
 have k:But M H H':=But.wide (fun m hm=>by
  simp only[zAC,zAA,or_false] at hm
  rcases hm with rfl | rfl
  ·exact hx.mx
  ·exact hx.ml) b
 have same:∀{c:Addr}{o:HO},H c=some o->c≠S.x->c≠S.U.ln->H' c=some o:=fun e n1 n2=>b.at e fun z=>by
  simp only[zAC,zAA,or_false] at z;rcases z with z | z
  ·exact n1 z
  ·exact n2 z
 refine⟨hA,same h.tk (AT h.tk hx.ob %[|11]) (AT h.tk hx.ln %[|11]),h.mt,fun p hp=>⟨?_,(h.tt p hp).2⟩,h.nl,h.na,h.aa,fun c hc=>bx c (h.fr c hc),h.tl⟩;have t:=(h.tt p hp).1;have nl:=(List.nodup_cons.mp h.nl).1;have n1:p.u.gv≠S.U.ln:=fun z=>nl (by rw[<-z];exact (Cr hp).1)
 have n2:p.u.lf≠S.U.ln:=fun z=>nl (by rw[<-z];exact (Cr hp).2)
 have na:p.a≠S.x:=fun e=>by
  have h1:=hx.ob;rw[<-e,t.ob] at h1;have h2:=zAK h1;injection h2 with _ _ h3
  exact WU h3.symm
 refine t.but k ?_ ?_ ?_
 ·rw[t.ob];exact same t.ob na (AT t.ob hx.ln %[|11])
 ·rw[t.gv];exact same t.gv (AT t.gv hx.ob %[|11]) n1
 ·rw[t.lf];exact same t.lf (AT t.lf hx.ob %[|11]) n2
end
section
variable {P:Program}{w:World}{K:PySem.W.Frag}{mg:Str->%[|4]}{cH cS cW cL cT:Addr}
def A2M:=Aw JV ["self","letter","mark","marks"] 3
def Q1:=Aw Il ["self","letter"] 2
def Oi:=Aw Gd ["mark"] 1
theorem L0(F:%[|9] "mark_word" Gd)(mM:mg "MARK_WORDS"=some (.ref dM))(hM:Wl P w K dM fm):%[|3] "mark_word" AH 1 (EO fm):=by
 refine F.ok Oi ?_;rintro bz f bp A outer s H _ Q E hr ⟨k,rfl,q⟩;refine⟨_,A5 (An VY (Eh (v:=.ref dM) %[|8] mM rfl) (pv 0)),?_⟩;exact⟨dM,k,fm,rfl,(aA k).symm,hM,q⟩
theorem Oo(F:%[|37] cH "refuse_letter" "House.refuse_letter" Il)(HX:K9 K cH)(T:Fz mg)(XL:BE K mg "NoLetter" cL cT):%[|16] "refuse_letter" (Cb P w) 2 (Gf cH cL):=by
 refine F.okX Q1 ?_;rintro bz f bp A outer s H _ Q E hr ⟨x,N,U,m,room,marks,ls,i,rfl,hT,qE,q⟩
 refine⟨_,Ai (Au (Cf QN (pv 1) (AJ FU %[|8] T.rng boot_range (AM %[|18])) %[|28])
   (Ai (Bn (Ex:=E) BB rfl XL.cls XL.at_ XL.ty %[|8] XL.m (AM Ae) (hvl:=fun _ _ _ h=>⟨by decide,h⟩)))
   Ak),?_⟩
 refine⟨hT.ob,HX.cl,HX.many,Px,_,rfl,fun r dN=>?_⟩;have s2:=Ab dN (.rng 0 (m:Int));refine⟨i,m,r,rfl,rfl,A0A,?_⟩;by_cases c:Nv m i
 ·have e:(!decide (0<=i/\i<(m:Int)))=false:=by rw[decide_eq_true (show 0<=i/\i<(m:Int) from c)];rfl
  rw[e];exact Aq (q c _ s2)
 ·have e:(!decide (0<=i/\i<(m:Int)))=true:=by rw[decide_eq_false (show ¬(0<=i/\i<(m:Int)) from c)];rfl
  rw[e];exact AB (qE c _ s2)
theorem Q2(F:%[|37] cH "learn" "House.learn" JV)(HX:K9 K cH)(T:Fz mg)(XW:BE K mg "NoWorld" cW cT)(mL:mg "LETTERS"=some (.str "abcde" tL))(hfm:∀k,(fm k).length<=20)(G1:%[|16] "refuse_letter" (Cb P w) 2 (Gf cH cL))(GS:%[|3] "seen_by" AH 3 (Fg K))(GM:%[|3] "mark_word" AH 1 (EO fm))(G2:%[|16] "write" AH 2 (BU cH)):%[|16] "learn" (Cb P w) 4 (HY cH cL cW fm):=by
 refine F.okX A2M ?_;rintro bz f bp A outer s H _ Q E hr ⟨x,N,U,m,room,marks,ls,i,k,rfl,hT,hN,hls,qL,qW,q⟩;have hl:=hT.wr.len;have i6:=hT.len;have bP:=hT.m5
 refine⟨_,Aa (As (Ct (pv 0) HX.cl G1 hr %[|26] (AM (pv 1))))
  (Aa (Az 3 A2M.nd (%[|58] (AM %[|18])))
  (Aa (B8 (pv 2) (Ca (pv 3) (pv 1) Mu))
  (Aa (Au (CB (BS (AA GS hr Al (AS %[|18] (pv 3))) (fun _=>rfl)))
   (Ai (Bn (Ex:=E) BB rfl XW.cls XW.at_ XW.ty %[|8] XW.m (AM Ae) (hvl:=fun _ _ _ h=>⟨by decide,h⟩)))
   Ak)
  (Aa (Bz (pv 0) (pv 3) rfl)
  (Ai (As (Ct (pv 0) HX.cl G2 hr Al (AM (Av (Aj Ae (AS (An Gb (Eh (v:=.str "abcde") %[|8] mL ⟨_,rfl⟩) (pv 1)) (AA GM hr Al (AM (pv 2)))))))))))))),?_⟩
 refine⟨hT.ob,P9,x,N,U,m,room,marks,ls,i,rfl,hT,fun h1 H' s'=>qL h1 H' s',fun h1 H1 s1=>?_⟩;obtain⟨j,ej⟩:=zB1 h1.1
 have hj:j<m:=by
  have:=h1.2;omega
 have cv:=hT.keep s1;refine⟨cv.ob,HX.cl,HX.marks,LM,.inl (SqL.of cv.mk'),fun mk bU=>?_⟩;have s2:=Ab bU (.lst (marks.map Cz));have mk2:upd H1 mk (.lst (marks.map Cz)) mk=some (.lst (marks.map Cz)):=A0A;generalize upd H1 mk _=H2 at *;have cp:=cv.keep s2;obtain⟨nm,hnm⟩:∃nm,nm=marks.set j k:=⟨_,rfl⟩;have esv:(marks.map Cz).set j (Cz k)=nm.map Cz:=by rw[hnm,List.map_set]
 have hix:Q7 (marks.map Cz).length i=some j:=by
  unfold Q7;rw[List.length_map,i6,ej,if_pos %[|1],if_pos %[|1],zBB]
 refine⟨mk,_,i,j,rfl,rfl,mk2,hix,?_⟩;rw[esv];have s3:A0B H1 (upd H2 mk (.lst (nm.map Cz))):=Ap s2 bU _;have mk3:upd H2 mk (.lst (nm.map Cz)) mk=some (.lst (nm.map Cz)):=A0A;generalize upd H2 mk (.lst (nm.map Cz))=H3 at *;have fT:=cv.keep s3;have nml:nm.length=m:=by rw[hnm,List.length_set];exact i6
 refine⟨fT.ob,HX.cl,HX.space,HR,U.sp,mk,room,nm,rfl,SqL.of fT.sp',by omega,mk3,by omega,fun l4 H4 s4 l40 gW=>?_⟩;have dB:=s3.trans s4;have fD:=cv.keep dB;have mk4:=s4 _ _ mk3;refine⟨_,.inl ⟨_,SqL.of gW,rfl⟩,?_⟩;by_cases ce:room.filter (DE nm)=[]
 ·rw[ce];exact AB (qW j ej hj (by rw[<-hnm];exact ce) H4 (s1.trans dB))
 have ene:(!((room.filter (DE nm)).map V.int).isEmpty)=true:=by
  cases h:room.filter (DE nm) with
  | nil=>exact absurd h ce
  | cons _ _=>rfl
 rw[ene];refine Aq ?_;obtain⟨U2,hU2⟩:∃U2:Hk,U2=⟨U.dx,U.sp,mk,U.tk,U.ln⟩:=⟨_,rfl⟩;refine⟨fD.ob,HX.cl,HX.marks,(by show 5<1000;decide),?_⟩;have ef:BQ "marks" (.ref mk) (Ey U m)=Ey U2 m:=by rw[hU2];with_unfolding_all rfl
 rw[ef];have eln:U2.ln=U.ln:=by rw[hU2]
 have x5:upd H4 x (.ins cH U.dx (Ey U2 m)) x=some (.ins cH U2.dx (Ey U2 m)):=by
  rw[A0A,hU2]
 have b5:But [x,U.ln] H4 (upd H4 x (.ins cH U.dx (Ey U2 m))):=But.upd %[|2]
 have ln5:upd H4 x (.ins cH U.dx (Ey U2 m)) U.ln=some (.lst ls):=by
  rw[Af hT.xl.symm];exact fD.ln
 generalize upd H4 x _=H5 at *;refine⟨x5,Cv,_,i,_,rfl,rfl,SJ,(by rw[ej];exact Em %[|1]),k,rfl,No,fun al gS=>?_⟩;have s6:=Ab gS (.lst [.str "learn",.str ⟨#[97+j]⟩,.str (fm k)]);have al6:upd H5 al (.lst [.str "learn",.str ⟨#[97+j]⟩,.str (fm k)]) al=some (.lst [.str "learn",.str ⟨#[97+j]⟩,.str (fm k)]):=A0A;generalize upd H5 al _=H6 at *;have hf20:=hfm k;refine⟨x,al,U2,m,[Str.ofString "learn",⟨#[97+j]⟩,fm k],ls,rfl,s6 _ _ x5,by rw[eln];exact s6 _ _ ln5,by omega,al6,?_,?_⟩
 ·have e5:(Str.ofString "learn").length=5:=rfl;have e1:(⟨#[97+j]⟩:Str).length=1:=rfl;show (Str.ofString "learn").length+((⟨#[97+j]⟩:Str).length+((fm k).length+0))+3<=100000;omega
 rw[eln];have b16:But [x,U.ln] H1 H6:=(Ag dB:But [x,U.ln] H1 H4).trans (b5.trans (Ag s6));have b7:But [x,U.ln] H1 (upd H6 U.ln (.lst %[|72])):=b16.trans (But.upd %[|2]);have b47:But [x,U.ln] H4 (upd H6 U.ln (.lst %[|72])):=b5.trans ((Ag s6:But [x,U.ln] H5 H6).trans (But.upd %[|2]))
 have x7:upd H6 U.ln (.lst %[|72]) x=some (.ins cH U2.dx (Ey U2 m)):=by
  rw[Af hT.xl];exact s6 _ _ x5
 have l7:upd H6 U.ln (.lst %[|72]) U.ln=some (.lst %[|72]):=A0A;generalize upd H6 U.ln _=H7 at *
 have bN:But N H4 H7:=But.wide (fun a ha=>by
  simp only[zAC,zAA,or_false] at ha
  rcases ha with rfl | rfl
  ·exact hT.mx
  ·exact hT.ml) b47
 have mkN:mk∉N:=fun z=>hN mk z (s1.free bU)
 subst hU2;refine q j ej hj (by rw[<-hnm];exact ce) mk H7 ((Ag s1:But [x,U.ln] H H1).trans b7) (fun b hb e=>?_) ⟨x7,l7,hT.mx,hT.ml,bN _ _ fD.sp,?_,by rw[<-hnm];exact nml,hT.m1,bP,hT.wr,by rw[<-hnm];exact ce,by rw[zA];exact hls⟩
 ·cases e0:H b with
  | none=>exact hb e0
  | some o=>
   by_cases c1:b=x
   ·rw[c1,x7] at e;cases e
   ·by_cases c2:b=U.ln
    ·rw[c2,l7] at e;cases e
    ·have:=But.at (M:=[x,U.ln]) ((Ag s1:But [x,U.ln] H H1).trans b7) e0 (by simp[c1,c2]);rw[this] at e;cases e
 ·rw[<-hnm];exact bN _ _ (AW mk4 mkN)
end
abbrev FS:Stmt:=Bu 76
def EB:%[|17]->Str
 | some true=>"yes"
 | some false=>"no"
 | none=>"unknown"
theorem Jl(k:%[|17]):(EB k).length<=20:=by
 cases k with
 | none=>decide
 | some b=>cases b<;>decide
theorem Wh(e:σ.set i (some v)=σ')(h:({ D with nx:=u D }:BH).nx σ' H):({ nx:=UC (KQ (tC v) (Cu i)) u D,rt:=R,bk:=B,ct:=C }:BH).nx σ H:=by
 subst e;exact h
theorem Io(a b:Str):AD ["learn",a,b]=("learn ":Str)++a++" "++b:=by
 refine Hb ?_;have:Ee ("learn ":Str)=Ee ("learn":Str)++[32]:=by decide
 rw[Ep,B6,B6,Df,AN,AN,AN,this,ND];simp
theorem ModT.marked{M:%[|6]}{H:Hp}{Z:Mz}{mk:Addr}{nm:List (%[|17])}(h:ModT M H Z)(hm:mk∉M)(e:H mk=some (.lst (nm.map Cz))):ModT M (upd H Z.st (.dK (dS (Jd { Z with mka:=mk,marks:=nm })))) { Z with mka:=mk,marks:=nm }:=by
 have eu:A6 M (upd H Z.st (.dK (dS (Jd { Z with mka:=mk,marks:=nm }))))=A6 M H:=Bt h.ms;have nd:=h.nd;unfold Cj at nd;obtain⟨m1,m2⟩:=List.nodup_cons.mp nd;have ne:∀{c:Addr},c∈Z.tl::Z.ln::Gw Z.ts->c≠Z.st:=fun hc z=>m1 (by rw[<-z];exact hc)
 refine⟨A0A,(Af (ne %[|2])).trans h.tl,(Af (ne %[|2])).trans h.ln,h.ms,h.mt,h.ml,by rw[eu];exact h.r,by rw[eu];exact AW e hm,fun p hp=>?_,h.nd,h.na⟩;obtain⟨a1,a2,a3⟩:=Ch hp;exact (h.tt p hp).but (But.upd h.ms) (Af (ne (by simp[a1]))) (Af (ne (by simp[a2]))) (Af (ne (by simp[a3])))
inductive EJ(vs:List V)(H:Hp)(Q:VK)(E:XK):Prop where
 | mk (M:%[|6]) (Z:Mz) (i:Int) (k:%[|17]) (_:vs=[.ref Z.st,.int i,Cz k]) (_:ModT M H Z) (_:(∀b∈M,H b≠none)) (_:Z.marks.length=Z.m) (_:Z.m<=5) (_:Z.room.length<=32) (_:Z.ls.length<900) (_:(¬Nv Z.m i->Q (.str "NoLetter") H)) (_:(∀j:Nat,i=(j:Int)->j<Z.m->Z.room.filter (DE (Z.marks.set j k))=[]->∀H',A0B H H'->Q (.str "NoWorld") H')) (_:(∀j:Nat,i=(j:Int)->j<Z.m->Z.room.filter (DE (Z.marks.set j k))≠[]->∀(mk:Addr)(H':Hp),But [Z.st,Z.ln] H H'->H mk=none->ModT M H' { Z with mka:=mk,marks:=Z.marks.set j k,ls:=Z.ls++[.str (AD ["learn",⟨#[97+j]⟩,EB k])] }->Q (.str "done") H')):EJ  vs H Q E
section
variable {P:Program}{w:World}{K:PySem.W.Frag}{mg:Str->%[|4]}
def A1O:=Aw FS ["_law_state_here","_law_letter","_law_mark","_law_marks","_law_word"] 3
theorem LZ(F:%[|9] "_law_learnt" FS)(T:Fz mg)(GB:%[|3] "_law_seen_by" AH 1 (En K)):%[|3] "_law_learnt" AH 2 EJ:=by
 refine F.ok A1O ?_;rintro bz f bp A outer s H _ Q E hr ⟨M,Z,i,k,rfl,hZ,hM,i6,bP,hr32,d3,qL,qW,q⟩
 refine⟨_,Aa (Au (O2 (AR L8 (pv 1) Ad) (Ld (AR Se (pv 1) (An AE (pv 0) Ae)))).pt
   (A5 Ae)
   Ak)
  (Aa (Az 3 A1O.nd (%[|58] (AM (An AE (pv 0) Ae))))
  (Aa (B8 (pv 2) (Ca (pv 3) (pv 1) Mu))
  (Aa (Au (AR (HP hr.units0) (AA GB hr Al (AS (An AE (pv 0) Ae) (pv 3))) (Av Bi))
   (A5 Ae)
   Ak)
  (Aa (B8 (pv 3) (Ca (pv 0) Ae BX))
  (Aa (Az 4 A1O.nd Ae)
  (Aa (Au (FL (Kt (pv 2)))
   (Ai (Az 4 A1O.nd (D1 (BS (pv 2) (fun _=>rfl)) Ae Ae)))
   Ak)
  (Aa (As (A7 (An AE (pv 0) Ae) (AM (Ao A3 (Ao A3 (Ao A3 Ae (An Gb Ae (pv 1))) Ae) (pv 4)))))
  (A5 Ae)))))))),?_⟩
 refine ?_;by_cases c0:i<0
 ·exact BI c0 (AB (qL fun z=>by have:=z.1;omega))
 refine Bw c0 ?_;refine⟨hZ.ob,VT,?_⟩;by_cases c1:i>=(Z.m:Int)
 ·exact BI c1 (qL fun z=>by have:=z.2;omega)
 refine Bw c1 ?_;obtain⟨j,ej⟩:=zB1 (show 0<=i by omega);have hj:j<Z.m:=by omega
 have hmk0:=Ay _ _ hZ.mkm;refine⟨hZ.ob,Ma,.inl (SqL.of hmk0),fun mk bU=>?_⟩;have s2:=Ab bU (.lst (Z.marks.map Cz));have mk2:upd H mk (.lst (Z.marks.map Cz)) mk=some (.lst (Z.marks.map Cz)):=A0A;generalize upd H mk _=H2 at *;obtain⟨nm,hnm⟩:∃nm,nm=Z.marks.set j k:=⟨_,rfl⟩;have esv:(Z.marks.map Cz).set j (Cz k)=nm.map Cz:=by rw[hnm,List.map_set]
 have hix:Q7 (Z.marks.map Cz).length i=some j:=by
  unfold Q7;rw[List.length_map,i6,ej,if_pos %[|1],if_pos %[|1],zBB]
 refine⟨mk,_,i,j,rfl,rfl,mk2,hix,?_⟩;rw[esv];have s3:A0B H (upd H2 mk (.lst (nm.map Cz))):=Ap s2 bU _;have mk3:upd H2 mk (.lst (nm.map Cz)) mk=some (.lst (nm.map Cz)):=A0A;generalize upd H2 mk (.lst (nm.map Cz))=H3 at *;have hZ3:=hZ.keep s3;have nml:nm.length=Z.m:=by rw[hnm,List.length_set];exact i6
 refine⟨hZ3.ob,Hn,Z.r,mk,Z.room,nm,rfl,SqL.of (Ay _ _ hZ3.r),hr32,mk3,by omega,fun l4 H4 s4 l40 gW=>?_⟩;refine⟨GQ,fun e he=>?_⟩;have s5:=Ab he (.lst []);refine⟨l4,e,_,rfl,rfl,SqL.of (s5 _ _ gW),SqL.of A0A,?_⟩;rw[DS];generalize upd H4 e _=H5 at *;have u5:=s3.trans (s4.trans s5);by_cases ce:Z.room.filter (DE nm)=[]
 ·exact BI ce (qW j ej hj (by rw[<-hnm];exact ce) H5 u5)
 refine Bw ce ?_;have hZ5:=hZ.keep u5;have mk5:=(s4.trans s5) _ _ mk3;have mkM:mk∉M:=fun z=>hM mk z bU
 refine⟨Z.st,_,_,rfl,rfl,hZ5.ob,(by show 5<=1000;decide),?_⟩;have em:Ck (Jd Z) "marks" (.ref mk)=Jd { Z with mka:=mk,marks:=nm }:=by with_unfolding_all rfl
 rw[em];have jd:=hZ5.marked mkM mk5;have b6:But [Z.st,Z.ln] H (upd H5 Z.st (.dK (dS (Jd { Z with mka:=mk,marks:=nm })))):=(Ag u5).trans (But.upd (a:=Z.st) %[|2]);generalize upd H5 Z.st _=H6 at *;refine Wh (i:=4) (v:=.str "unknown") rfl ?_;refine DL (fun σ H'=>H'=H6/\σ=[some (.ref Z.st),some (.int i),some (Cz k),some (.ref mk),some (.str (EB k))]) ?_ (fun next=>?_)
 rotate_left
 ·cases k with
  | none=>exact Aq (next _ _ ⟨rfl,rfl⟩)
  | some b=>
   refine AB ?_
   cases b with
   | true=>exact⟨true,rfl,AB (next _ _ ⟨rfl,rfl⟩)⟩
   | false=>exact⟨false,rfl,Aq (next _ _ ⟨rfl,rfl⟩)⟩
 rintro σ H7 ⟨rfl,rfl⟩;have hf:=Jl k;have l6:("learn ":Str).length=6:=rfl;have l1:(⟨#[97+j]⟩:Str).length=1:=rfl;have l7:(("learn ":Str)++(⟨#[97+j]⟩:Str)).length=7:=by rw[Bm,AN,zA];rfl
 have l8:(("learn ":Str)++(⟨#[97+j]⟩:Str)++(" ":Str)).length=8:=by rw[Bm,AN,zA,AN,zA];rfl
 refine⟨jd.ob,BK,.inl ⟨rfl,_,SqL.of jd.ln⟩,_,_,_,rfl,rfl,%[|0],(by rw[ej];exact Em %[|1]),?_,?_,?_,jd.ln,Ar (by show Z.ls.length<=1000;omega),?_⟩
 ·rw[l6,l1];decide
 ·rw[l7];decide
 ·rw[l8];exact zAD (show 8+(EB k).length<=1000 by omega) %[|0]
 have hZ8:=jd.wrote (.str (AD ["learn",⟨#[97+j]⟩,EB k]));rw[Io] at hZ8;have:=q j ej hj (by rw[<-hnm];exact ce) mk _ (b6.trans (But.upd (a:=Z.ln) %[|2])) bU (by rw[Io,<-hnm];exact hZ8);exact this
end
abbrev KU:Stmt:=Bu 77
def Ge(n:Str)(d sd sa hl:Addr)(sds hls:List V)(v:V)(m:Nat)(kd rl:Str)(t:Tr)(room:List Int):Mt:=⟨n,d,sd,sa,hl,sds,[],hls,v,BO m kd rl t room⟩
theorem Qs(t:Tr)(room:List Int):CP room [%[|12] room]=%[|12] room:=by
 unfold CP
 have:(room.filter fun k=>[%[|12] room].any fun s=>decide (k∈s))=room.filter fun k=>tv t k == true:=by
  refine zCX fun k hk=>?_
  show (decide (k∈AC true t room) || false)=_;rw[zCM,Cs hk];cases tv t k<;>rfl
 rw[this];rfl
theorem NX(t:Tr)(room:List Int):CP room [%[|24] room]=%[|24] room:=by
 unfold CP
 have:(room.filter fun k=>[%[|24] room].any fun s=>decide (k∈s))=room.filter fun k=>tv t k == false:=by
  refine zCX fun k hk=>?_
  show (decide (k∈AC false t room) || false)=_;rw[zCM];unfold AC;rw[zA3,decide_eq_true_eq,List.mem_filter];exact⟨fun h=>h.2,fun h=>⟨hk,h⟩⟩
 rw[this];rfl
theorem Qe(t:Tr)(room:List Int):CP room [%[|12] room,%[|24] room]=room:=by
 unfold CP;refine List.filter_eq_self.mpr fun k hk=>?_
 show (decide (k∈AC true t room) || (decide (k∈AC false t room) || false))=true;rw[Cs hk]
 cases h:tv t k with
 | true=>rfl
 | false=>
  have:k∈AC false t room:=by
   unfold AC;rw[List.mem_filter];exact⟨hk,by rw[h];rfl⟩
  rw[decide_eq_true this];rfl
theorem Jq(ws:List Str):Txt.join (Str.ofString " ") ws=AD ws:=rfl
theorem M4(h:A0L H H' xs rs):A0E H' xs rs:=by
 induction h with
 | nil=>exact .nil
 | cons hy _ ih=>
  obtain⟨p,e,_,hp⟩:=hy;exact .cons ⟨p,e,hp⟩ ih
theorem LE(hM:∀b∈M,H b≠none)(h:A0L H H' xs rs):A0E (A6 M H') xs rs:=by
 induction h with
 | nil=>exact .nil
 | cons hy _ ih=>
  obtain⟨p,e,h0,hp⟩:=hy;exact .cons ⟨p,e,AW hp fun z=>hM p z h0⟩ ih
theorem ME(s3:A0B Hi H3)(ha:Hi acc=some (.lst xs))(h2:H3 a2=some (.lst (row.map V.int)))(n2:a2≠acc)(f2:H1 a2=none)(hR:A0L H1 Hi xs rs):A0L H1 (upd H3 acc (.lst (xs++[.ref a2]))) (xs++[.ref a2]) (rs++[row]):=by
 have go:∀{ys:List V}{qs:List (List Int)},A0L H1 Hi ys qs->(∀y∈ys,y∈xs)->A0L H1 (upd H3 acc (.lst (xs++[.ref a2]))) (ys++[.ref a2]) (qs++[row]):=by
  intro ys qs h
  induction h with
  | nil=>
   intro _;exact .cons ⟨a2,rfl,f2,(Af n2).trans h2⟩ .nil
  | @cons y q ys qs hy _ ih=>
   intro hs;obtain⟨p,rfl,hp0,hp⟩:=hy;refine .cons ⟨p,rfl,hp0,(Af fun e=>?_).trans (s3 _ _ hp)⟩ (ih fun z hz=>hs z (List.mem_cons_of_mem _ hz));have hp:Hi p=some (.lst (q.map V.int)):=hp;rw[e,ha] at hp;have h1:=zAK hp;injection h1 with h1
   have hm:=hs (.ref p) List.mem_cons_self;rw[h1] at hm;obtain⟨k,_,z⟩:=List.mem_map.mp hm;cases z
 exact go hR fun _ h=>h
def YW(n:Str)(sd:Addr)(rl kd:Str)(v:V):List (Str×V):=[("name",.str n),("sides",.ref sd),("rule",.str rl),("kind",.str kd),("sentence",v),("over",.bl false)]
def YR(n:Str)(sd:Addr)(rl kd:Str)(v:V)(sa:Addr):List (Str×V):=[("name",.str n),("sides",.ref sd),("rule",.str rl),("kind",.str kd),("sentence",v),("over",.bl false),("said",.ref sa)]
inductive Iz(vs:List V)(H:Hp)(Q:VK)(E:XK):Prop where
 | mk (M:%[|6]) (Z:Mz) (n kd rl:Str) (v:V) (t:Tr) (_:vs=[.ref Z.st,.str n,.str kd,v,.str rl]) (_:ModT M H Z) (_:(∀b∈M,H b≠none)) (_:Wr Z.room) (_:Z.ts.length<900) (_:Z.ls.length<900) (_:n.length<=100) (_:BF kd) (_:BY rl) (_:t.At (A6 M H) v) (_:t.ok 5) (_:t.size<=23) (_:(n∈Ol Z.ts->∀H',A0B H H'->Q (.str "NameTaken") H')) (_:(n∉Ol Z.ts->[]∈AQ kd t Z.room->∀H',A0B H H'->Q (.str "NoStanding") H')) (_:(n∉Ol Z.ts->[]∉AQ kd t Z.room->∀(d sd sa hl:Addr)(sds hls:List V)(H':Hp),But [Z.tl,Z.ln] H H'->H d=none->H sa=none->H hl=none->ModT (d::sa::hl::M) H' { Z with ts:=Z.ts++[Ge n d sd sa hl sds hls v Z.m kd rl t Z.room],ls:=Z.ls++[.str (AD ["begin",n,rl,kd,B0 t])] }->Q (.str "done") H')):Iz  vs H Q E
section
variable {P:Program}{w:World}{K:PySem.W.Frag}{mg:Str->%[|4]}{bz:Heap}
def A1R:=Aw KU ["_law_state_here","_law_name_here","_law_kind","_law_sentence_here","_law_rule","_law_sides","_law_base","_law_talk"] 5
theorem PM(F:%[|9] "_law_begun" KU)(T:Fz mg)(GT:%[|3] "_law_true" AH 23 (C2 23))(GF:%[|3] "_law_find" AH 1 E4)(GH:%[|3] "_law_shown" AH 23 (Mh 23)):%[|3] "_law_begun" AH 24 Iz:=by
 refine F.ok A1R ?_;rintro bz f bp A outer s H _ Q E hr ⟨M,Z,n,kd,rl,v,t,rfl,hZ,hM,wr,ht9,d3,gR,hkd,dP,bF,dr,hsz,qT,qS,q⟩
 refine⟨_,Aa (Qf (i:=5) A1R.nd rfl (Or.inl rfl) (N:=["_law_way","_law_sentence_here","_law_state_here"]) (js:=[none,some 3,some 0]) (cl:=[("_law_state_here",s.heap.objs.size+1),("_law_sentence_here",s.heap.objs.size+2)]) ⟨rfl,rfl,rfl,(by intro p hp;simp at hp;rcases hp with rfl | rfl<;>rfl),rfl,rfl,rfl⟩ (AX (Av (AS C7 C7))) (fun c1=>(BA 0 (show (["_law_way","_law_sentence_here","_law_state_here"]:List Str).Nodup by decide +kernel))) (fun c1=>BG) (fun c1=>(Bk (N:=["_law_world","_law_sentence_here","_law_way"]) (js:=[none,some 1,some 0]) (cl:=[("_law_way",c1.s.heap.objs.size+1+0),("_law_sentence_here",s.heap.objs.size+2)]) ⟨rfl,rfl,rfl,(by intro p hp;simp at hp;rcases hp with rfl | rfl<;>rfl),rfl,rfl,rfl⟩ (AX (An AE (pv 2) Ae)) (fun c2=>(BA 0 (show (["_law_world","_law_sentence_here","_law_way"]:List Str).Nodup by decide +kernel))) (fun c2=>(CJ (AR AF (AA GT hr Al (AS (pv 1) (pv 0))) (pv 2)))) (fun c2=>(pv 0)))))
  (Aa (Au (AR Gn (pv 2) Ae)
   (Ai (Az 5 A1R.nd (D1 (AR AF (pv 2) Ae) (Ij OV (pv 5) KH (Lg Ad)) (Ij OV (pv 5) (Lg Ad) KH))))
   Ak)
  (Aa (Au (FL (Kt (AA GF hr Al (AS (pv 0) (pv 1)))))
   (A5 Ae)
   Ak)
  (Aa (Au (Cf (Ur hr.units9) (Av Bi) (pv 5) %[|28])
   (A5 Ae)
   Ak)
  (Aa (Az 6 A1R.nd (D1 (AR Gn (pv 2) Ae) (An AI (pv 5) Ad) (An AE (pv 0) Ae)))
  (Aa (Az 7 A1R.nd (Lk (ks:=["name","sides","rule","kind","sentence","over"]) (CD (pv 1) (CD (pv 5) (CD (pv 4) (CD (pv 2) (CD (pv 3) (CD C7 RR)))))) %[|0] rfl rfl (fun z=>nomatch z) %[|0] %[|0]))
  (Aa (B8 (Av Bi) (Ca (pv 7) Ae BX))
  (Aa (B8 (Av (AM (pv 6))) (Ca (pv 7) Ae BX))
  (Aa (As (A7 (An AE (pv 0) Ae) (AM (pv 7))))
  (Aa (As (A7 (An AE (pv 0) Ae) (AM (DA zB5 zCA zCB E7 Ae (AM (Av (Aj Ae (Aj (pv 1) (Aj (pv 4) (AS (pv 2) (AA GH hr Al (AM (pv 3)))))))))))))
  (A5 Ae)))))))))),?_⟩
 refine⟨Cy,fun L hL=>?_⟩;have s1:=Ab hL (.lst [.bl true,.bl false]);have L1:upd H L (.lst [.bl true,.bl false]) L=some (.lst [.bl true,.bl false]):=A0A;generalize upd H L _=H1 at *;refine⟨⟨_,SqL.of L1⟩,fun cc acc br=>?_⟩;refine Bf (K:=K) (a:=L) (xs:=[.bl true,.bl false]) (fun i σ Hi=>∃(v0:Option V)(xs:List V),σ=[v0,some v,some (.ref Z.st)]/\A0B H1 Hi/\Hi acc=some (.lst xs)/\A0L H1 Hi xs ([%[|12] Z.room,%[|24] Z.room].take i)) ⟨_,[],rfl,Ab br _,A0A,.nil⟩ ?_ ?_ ?_
 ·rintro i σ Hi _ ⟨v0,xs,rfl,si,_⟩;exact SqL.of (si _ _ L1)
 ·rintro i y σ Hi hy ⟨v0,xs,rfl,si,ha,hR⟩;have hi2:i<2:=(List.getElem?_eq_some_iff.mp hy).1
  obtain⟨b,rfl,hb⟩:∃b:Bool,y= .bl b/\[%[|12] Z.room,%[|24] Z.room].take (i+1)=[%[|12] Z.room,%[|24] Z.room].take i++[AC b t Z.room]:=by
   match i,hi2 with
   | 0,_=>exact⟨true,(zAK hy).symm,rfl⟩
   | 1,_=>exact⟨false,(zAK hy).symm,rfl⟩
  have hZi:=hZ.keep (s1.trans si);have rr:=Ay _ _ hZi.r;refine AB ⟨hZi.ob,Hn,⟨_,SqL.of rr⟩,fun c2 a2 bK=>BL (p:=fun k=>tv t k == b) (rest:=[some v,some (.bl b)]) (SqL.of rr) bK (by have:=wr.len;omega) (fun k hk H3 s3 R hRr=>?_) (fun w0 H3 s3 h3=>?_) none⟩
  ·refine⟨v,t,k,rfl,(bF.keep (TS.same Ay)).keep (TS.same (s1.trans (si.trans s3))),dr,hsz,fun H4 s4=>⟨rfl,?_⟩⟩;have:=hRr H4 s4;rw[show (tv t k == b)=decide (V.bl (tv t k)=V.bl b) by cases tv t k<;>cases b<;>rfl] at this;exact this
  refine⟨_,s3 _ _ ha,Ar ?_,?_⟩
  ·have:=hR.length;rw[zAW] at this;have e2:[%[|12] Z.room,%[|24] Z.room].length=2:=rfl;omega
  have n2:a2≠acc:=fun e=>by rw[e,ha] at bK;cases bK
  exact⟨_,_,rfl,Ap (si.trans s3) br _,A0A,by rw[hb];exact ME s3 ha h3 n2 (si.free bK) hR⟩
 rintro σ H2 ⟨v0,xs,rfl,s2,ha,hR⟩;refine Fv rfl ?_;have hR2:A0L H1 H2 xs [%[|12] Z.room,%[|24] Z.room]:=hR
 obtain⟨il,ol,exs,f8,fw,fE,fB⟩:∃il ol,xs=[V.ref il,V.ref ol]/\H1 il=none/\AL H2 il (%[|12] Z.room)/\H1 ol=none/\AL H2 ol (%[|24] Z.room):=by
  cases hR2 with
  | cons h1 hr=>
   cases hr with
   | cons h2 hn=>
    cases hn;obtain⟨a,rfl,a0,h1a⟩:=h1;obtain⟨b,rfl,b0,h2b⟩:=h2;exact⟨a,b,rfl,a0,h1a,b0,h2b⟩
 subst exs;have u2:=s1.trans s2;refine DL (fun σ H'=>∃(sd:Addr)(sds:List V),σ=[some (.ref Z.st),some (.str n),some (.str kd),some v,some (.str rl),some (.ref sd),none,none]/\A0B H2 H'/\H sd=none/\H' sd=some (.lst sds)/\A0L H H' sds (AQ kd t Z.room)) ?_ (fun next=>?_)
 rotate_left
 ·rcases hkd with rfl | rfl | rfl
  ·refine⟨rfl,AB ⟨rfl,AB ⟨_,rfl,acc,_,rfl,SqL.of ha,fun p hp=>?_⟩⟩⟩;have ec:GV [V.ref il,V.ref ol] none (some 1)=[V.ref il]:=rfl;rw[ec];exact next _ _ ⟨p,_,rfl,Ab hp _,u2.free hp,A0A,.cons ⟨il,rfl,s1.free f8,Ab hp _ _ _ fw⟩ .nil⟩
  ·refine⟨rfl,AB ⟨rfl,Aq ⟨_,rfl,acc,_,rfl,SqL.of ha,fun p hp=>?_⟩⟩⟩;have ec:GV [V.ref il,V.ref ol] (some 1) none=[V.ref ol]:=rfl;rw[ec];exact next _ _ ⟨p,_,rfl,Ab hp _,u2.free hp,A0A,.cons ⟨ol,rfl,s1.free fE,Ab hp _ _ _ fB⟩ .nil⟩
  ·exact⟨rfl,Aq (next _ _ ⟨acc,_,rfl,A0B.refl _,s1.free br,ha,.cons ⟨il,rfl,s1.free f8,fw⟩ (.cons ⟨ol,rfl,s1.free fE,fB⟩ .nil)⟩)⟩
 rintro σ H3 ⟨sd,sds,rfl,s3,sd0,hsd,hsr⟩;have u3:=u2.trans s3;have hZ3:=hZ.keep u3;refine⟨M,Z,n,rfl,hZ3,by omega,fun c=>?_,fun p' ck ep'=>?_⟩
 rotate_left
 ·exact AB (qT (by rw[<-ep'];exact zA9 ck) H3 u3)
 refine Aq ?_;refine⟨GQ,fun e he=>?_⟩;have s4:=Ab he (.lst []);have e4:upd H3 e (.lst []) e=some (.lst []):=A0A;generalize upd H3 e _=H4 at *;have u4:=u3.trans s4;have hsr4:=(M4 hsr).keep s4;have hsc4:=(LE hM hsr).keep (Ag s4);refine⟨e,sd,sds,(AQ kd t Z.room).map List.isEmpty,rfl,rfl,SqL.of e4,SqL.of (s4 _ _ hsd),by rw[List.length_map];exact hsr4.len.symm,Ly hsr4,?_⟩;rw[Jn];by_cases fA:[]∈AQ kd t Z.room
 ·rw[decide_eq_true fA];exact AB (qS c fA H4 u4)
 rw[decide_eq_false fA];refine Aq ?_;have hZ4:=hZ.keep u4;have hsd4:=s4 _ _ hsd;refine DL (fun σ H'=>∃(ba:Addr),σ=[some (.ref Z.st),some (.str n),some (.str kd),some v,some (.str rl),some (.ref sd),some (.ref ba),none]/\H'=H4/\AL (A6 M H4) ba (CP Z.room (AQ kd t Z.room))) ?_ (fun next=>?_)
 rotate_left
 ·rcases hkd with rfl | rfl | rfl
  ·obtain⟨ba,cw,cR⟩:=Ek hsc4 %[|11];refine⟨rfl,AB ⟨SqL.of hsd4,cw,next _ _ ⟨ba,rfl,rfl,?_⟩⟩⟩;have eb:CP Z.room (AQ "true" t Z.room)=%[|12] Z.room:=Qs t Z.room;rw[eb];exact cR
  ·obtain⟨ba,cw,cR⟩:=Ek hsc4 %[|11];refine⟨rfl,AB ⟨SqL.of hsd4,cw,next _ _ ⟨ba,rfl,rfl,?_⟩⟩⟩;have eb:CP Z.room (AQ "false" t Z.room)=%[|24] Z.room:=NX t Z.room;rw[eb];exact cR
  ·refine⟨rfl,Aq ⟨hZ4.ob,Hn,next _ _ ⟨Z.r,rfl,rfl,?_⟩⟩⟩;have eb:CP Z.room (AQ "doubt" t Z.room)=Z.room:=Qe t Z.room;rw[eb];exact hZ4.r
 rintro σ H5 ⟨ba,rfl,rfl,hba⟩;intro d hd;refine⟨A0A,?_⟩;have ez:(["name","sides","rule","kind","sentence","over"]:List Str).zip [V.str n,.ref sd,.str rl,.str kd,v,.bl false]=YW n sd rl kd v:=rfl;rw[ez];have s6:A0B H5 (upd (upd H5 d (.dK [])) d (.dK (dS (YW n sd rl kd v)))):=Ap (Ab hd _) hd _;have d6:upd (upd H5 d (.dK [])) d (.dK (dS (YW n sd rl kd v))) d=some (.dK (dS (YW n sd rl kd v))):=A0A;generalize upd (upd H5 d (.dK [])) d _=H6 at *;refine⟨GQ,fun sa iF=>?_⟩;have s7:=Ab iF (.lst []);have a7:upd H6 sa (.lst []) sa=some (.lst []):=A0A;generalize upd H6 sa _=H7 at *;have nad:sa≠d:=fun e=>by rw[e,d6] at iF;cases iF
 refine⟨d,_,_,rfl,rfl,s7 _ _ d6,(by show 6<=1000;decide),?_⟩;have e7:Ck (YW n sd rl kd v) "said" (.ref sa)=YR n sd rl kd v sa:=by with_unfolding_all rfl
 rw[e7];have s8:A0B H5 (upd H7 d (.dK (dS (YR n sd rl kd v sa)))):=Ap (s6.trans s7) hd _;have d8:upd H7 d (.dK (dS (YR n sd rl kd v sa))) d=some (.dK (dS (YR n sd rl kd v sa))):=A0A;have a8:upd H7 d (.dK (dS (YR n sd rl kd v sa))) sa=some (.lst []):=(Af nad).trans a7;generalize upd H7 d _=H8 at *;refine⟨Rg,fun hl gb=>?_⟩;have s9:=Ab gb (.lst [.ref ba]);have l9:upd H8 hl (.lst [.ref ba]) hl=some (.lst [.ref ba]):=A0A;generalize upd H8 hl _=H9 at *;have nld:hl≠d:=fun e=>by rw[e,d8] at gb;cases gb
 have nla:hl≠sa:=fun e=>by rw[e,a8] at gb;cases gb
 refine⟨d,_,_,rfl,rfl,s9 _ _ d8,(by show 7<=1000;decide),?_⟩;have e9:Ck (YR n sd rl kd v sa) "helds" (.ref hl)=DD %[|65]:=by with_unfolding_all rfl
 rw[e9];have eB:A0B H5 (upd H9 d (.dK (dS (DD %[|65])))):=Ap (s8.trans s9) hd _;have d10:upd H9 d (.dK (dS (DD %[|65]))) d=some (.dK (dS (DD %[|65]))):=A0A;have a10:upd H9 d (.dK (dS (DD %[|65]))) sa=some (.lst []):=(Af nad).trans (s9 _ _ a8);have l10:upd H9 d (.dK (dS (DD %[|65]))) hl=some (.lst [.ref ba]):=(Af nld).trans l9;generalize upd H9 d _=dC at *;have hsa5:H5 sa=none:=s6.free iF;have hhl5:H5 hl=none:=s8.free gb
 have hN:∀b∈[d,sa,hl],H5 b=none:=fun b hb=>by
  simp only[zAC,zAA,or_false] at hb;rcases hb with rfl | rfl | rfl
  ·exact hd
  ·exact hsa5
  ·exact hhl5
 have kk:=De (M:=M) eB hN;have u10:=u4.trans eB;have sdM:sd∉M:=fun z=>hM sd z sd0
 have hq:A0S (d::sa::hl::M) dC %[|65]:=⟨d10,a10,l10,by simp[Ge],by simp[Ge],by simp[Ge],kk _ _ (AW hsd4 sdM),hsc4.keep kk,(bF.keep (TS.same (Ag u4))).keep (TS.same kk),.nil,.cons ⟨ba,rfl,kk _ _ hba⟩ .nil⟩;have hZ10:=hZ.keep u10;refine⟨hZ10.ob,Fq,.inl ⟨rfl,_,SqL.of hZ10.tl⟩,hZ10.tl,Ar %[|61],?_⟩;have iG:=hZ4.add (q:=Ge n d sd sa hl sds [.ref ba] v Z.m kd rl t Z.room) eB hd hsa5 hhl5 nad.symm nld.symm nla.symm hq c;have b11:But [Z.tl,Z.ln] H (upd dC Z.tl (.lst ((Z.ts.map fun p=>V.ref p.d)++[.ref d]))):=(Ag u10).trans (But.upd (a:=Z.tl) %[|2])
 have at11:t.At (upd dC Z.tl (.lst ((Z.ts.map fun p=>V.ref p.d)++[.ref d]))) v:=by
  have k2:A0B (A6 M H) (A6 M (upd dC Z.tl (.lst ((Z.ts.map fun p=>V.ref p.d)++[.ref d])))):=(Ag u10).trans (But.upd hZ.mt);exact bF.keep (TS.same (k2.trans Ay))
 have eq11:%[|65].d=d:=rfl;rw[eq11] at iG;generalize upd dC Z.tl _=eT at *;refine⟨iG.ob,BK,.inl ⟨rfl,_,SqL.of iG.ln⟩,rfl,v,t,rfl,at11,dr,hsz,hsz,fun z iB hz cF=>?_⟩;have ezz:=FK hz;subst ezz;refine⟨SJ,fun l dA=>?_⟩;have cY:=Ab dA (.lst (([("begin":Str),n,rl,kd,B0 t]).map V.str));have l13:upd iB l (.lst (([("begin":Str),n,rl,kd,B0 t]).map V.str)) l=some (.lst (([("begin":Str),n,rl,kd,B0 t]).map V.str)):=A0A;have el:[V.str "begin",.str n,.str rl,.str kd,.str (B0 t)]=([("begin":Str),n,rl,kd,B0 t]).map V.str:=rfl;rw[el];generalize upd iB l _=fS at *;have hZ13:=iG.keep (cF.trans cY);refine⟨_,l,[("begin":Str),n,rl,kd,B0 t],rfl,rfl,SqL.of l13,?_,?_⟩
 ·have lk:kd.length<=5:=by rcases hkd with rfl | rfl | rfl<;>decide
  have lr:rl.length<=5:=by rcases dP with rfl | rfl<;>decide
  have lb:("begin":Str).length=5:=rfl;have l1:(Str.ofString " ").length=1:=rfl;have:=EZ t;show ("begin":Str).length+(n.length+(rl.length+(kd.length+((B0 t).length+0))))+5*(Str.ofString " ").length<=16777216;rw[l1];omega
 rw[Jq];refine⟨hZ13.ln,Ar (by show Z.ls.length<=1000;omega),?_⟩;have hZ14:=hZ13.wrote (.str (AD ["begin",n,rl,kd,B0 t]));exact q c fA d sd sa hl sds [.ref ba] _ ((b11.trans (Ag (cF.trans cY))).trans (But.upd (a:=Z.ln) %[|2])) (u4.free hd) (u4.free hsa5) (u4.free hhl5) hZ14
end
def DM(ts:List Mt)(k:Str)(p':Mt):List Mt:=ts.map fun q=>if q.nm=k then p' else q
theorem S9(h:q∈DM ts k p'):(q∈ts/\q.nm≠k)\/q=p':=by
 obtain⟨p,hp,e⟩:=List.mem_map.mp h;by_cases c:p.nm=k
 ·rw[if_pos c] at e;exact .inr e.symm
 ·rw[if_neg c] at e;rw[<-e];exact .inl ⟨hp,c⟩
theorem Md{β:Type}{f:Mt->β}(h:∀p∈ts,p.nm=k->f p'=f p):(DM ts k p').map f=ts.map f:=by
 unfold DM;rw[zBJ];refine zB3 fun p hp=>?_
 show f (if p.nm=k then p' else p)=f p;by_cases c:p.nm=k
 ·rw[if_pos c];exact h p hp c
 ·rw[if_neg c]
theorem M9{k:Str}{p':Mt}:∀{ts:List Mt},(∀p∈ts,p.nm=k->p'.d=p.d/\p'.sa=p.sa/\p'.hl=p.hl)->Gw (DM ts k p')=Gw ts
 | [],_=>rfl
 | p::ts,h=>by
  have ih:=M9 (k:=k) (p':=p') (ts:=ts) fun q hq=>h q (List.mem_cons_of_mem _ hq)
  have e:Gw (DM (p::ts) k p')=[(if p.nm=k then p' else p).d,(if p.nm=k then p' else p).sa,(if p.nm=k then p' else p).hl]++Gw (DM ts k p'):=rfl;rw[e,ih];by_cases c:p.nm=k
  ·rw[if_pos c];obtain⟨h1,h2,h3⟩:=h p List.mem_cons_self c;rw[h1,h2,h3];rfl
  ·rw[if_neg c];rfl
theorem Pc(h:a.Sublist b):(Gw a).Sublist (Gw b):=by
 induction h with
 | slnil=>exact zBZ _
 | cons x _ ih=>exact List.Sublist.trans ih (List.sublist_append_right [x.d,x.sa,x.hl] _)
 | cons_cons x _ ih=>exact List.Sublist.append (zBZ [x.d,x.sa,x.hl]) ih
theorem MT(nd:(Gw ts).Nodup)(hp:p∈ts)(hq:q∈ts)(ne:p≠q)(b:Addr)(hb:b=p.d\/b=p.sa\/b=p.hl):b≠q.d/\b≠q.sa/\b≠q.hl:=by
 induction ts with
 | nil=>cases hp
 | cons x ts ih=>
  obtain⟨_,n2,n3⟩:=List.nodup_append.mp (show ([x.d,x.sa,x.hl]++Gw ts).Nodup from nd);rcases List.mem_cons.mp hp with h1 | h1
  ·rcases List.mem_cons.mp hq with h2 | h2
   ·exact absurd (h1.trans h2.symm) ne
   ·have cR:b∈[x.d,x.sa,x.hl]:=by rw[<-h1];simpa using hb
    obtain⟨q1,q2,q3⟩:=Ch h2;exact⟨n3 b cR _ q1,n3 b cR _ q2,n3 b cR _ q3⟩
  ·obtain⟨p1,p2,p3⟩:=Ch h1
   have cR:b∈Gw ts:=by
    rcases hb with rfl | rfl | rfl
    ·exact p1
    ·exact p2
    ·exact p3
   rcases List.mem_cons.mp hq with h2 | h2
   ·rw[h2];exact⟨fun e=>n3 x.d %[|2] b cR e.symm,fun e=>n3 x.sa %[|2] b cR e.symm,fun e=>n3 x.hl %[|2] b cR e.symm⟩
   ·exact ih n2 h1 h2
section
variable {M:%[|6]}{H H':Hp}{Z:Mz}
theorem ModT.alter(h:ModT M H Z)(hp:p∈Z.ts)(b:But [p.d,p.sa,p.hl] H H')(e1:p'.d=p.d)(e2:p'.sa=p.sa)(e3:p'.hl=p.hl)(en:p'.nm=p.nm)(ht:A0S M H' p'):ModT M H' { Z with ts:=DM Z.ts p.nm p' }:=by
 have t0:=h.tt p hp
 have k:But M H H':=But.wide (fun m hm=>by
  simp only[zAC,zAA,or_false] at hm
  rcases hm with rfl | rfl | rfl
  ·exact t0.md
  ·exact t0.ms
  ·exact t0.mh) b
 have same:∀{c:Addr}{o:HO},H c=some o->c≠p.d->c≠p.sa->c≠p.hl->H' c=some o:=fun e n1 n2 n3=>b.at e fun z=>by
  simp only[zAC,zAA,or_false] at z;rcases z with z | z | z
  ·exact n1 z
  ·exact n2 z
  ·exact n3 z
 have nd:=h.nd;unfold Cj at nd;obtain⟨m1,m2⟩:=List.nodup_cons.mp nd;obtain⟨m3,m4⟩:=List.nodup_cons.mp m2;obtain⟨m5,m6⟩:=List.nodup_cons.mp m4;obtain⟨q1,q2,q3⟩:=Ch hp;have sx:∀{c:Addr}{o:HO},c∉Gw Z.ts->H c=some o->H' c=some o:=fun hn e=>same e (fun z=>hn (by rw[z];exact q1)) (fun z=>hn (by rw[z];exact q2)) (fun z=>hn (by rw[z];exact q3))
 have uni:∀q∈Z.ts,q.nm=p.nm->q=p:=fun q hq e=>B2 h.na hq hp e
 refine⟨sx (fun z=>m1 (List.mem_cons_of_mem _ (List.mem_cons_of_mem _ z))) h.ob,?_,sx m5 h.ln,h.ms,h.mt,h.ml,k _ _ h.r,k _ _ h.mkm,fun q hq=>?_,?_,?_⟩
 ·show H' Z.tl=some (.lst ((DM Z.ts p.nm p').map fun q=>V.ref q.d));rw[Md (f:=fun q=>V.ref q.d) fun q hq e=>by rw[uni q hq e,e1]];exact sx (fun z=>m3 (List.mem_cons_of_mem _ z)) h.tl
 ·rcases S9 hq with⟨hq,hn⟩|rfl
  ·have tq:=h.tt q hq;have ne:q≠p:=fun e=>hn (by rw[e])
   have g1:=MT m6 hq hp ne q.d (.inl rfl);have g2:=MT m6 hq hp ne q.sa (.inr (.inl rfl));have g3:=MT m6 hq hp ne q.hl (.inr (.inr rfl));refine tq.but k ?_ ?_ ?_
   ·rw[tq.ob];exact same tq.ob g1.1 g1.2.1 g1.2.2
   ·rw[tq.sa];exact same tq.sa g2.1 g2.2.1 g2.2.2
   ·rw[tq.hl];exact same tq.hl g3.1 g3.2.1 g3.2.2
  ·exact ht
 ·have ee:Cj { Z with ts:=DM Z.ts p.nm p' }=Cj Z:=by
   unfold Cj;show Z.st::Z.tl::Z.ln::Gw (DM Z.ts p.nm p')=_;rw[M9 fun q hq e=>by rw[uni q hq e];exact⟨e1,e2,e3⟩]
  rw[ee];exact h.nd
 ·show ((DM Z.ts p.nm p').map (·.nm)).Nodup;rw[Md (f:=fun q=>q.nm) fun q hq e=>by rw[uni q hq e,en]];exact h.na
theorem ModT.drop{tl:Addr}(h:ModT M H Z)(s:A0B H H')(t0:H tl=none)(t1:H' tl=some (.lst ((Z.ts.filter fun p=>decide (p.nm≠k)).map fun p=>V.ref p.d))):
  ModT (tl::M) (upd H' Z.st (.dK (dS (Jd { Z with tl:=tl,ts:=Z.ts.filter fun p=>decide (p.nm≠k) })))) { Z with tl:=tl,ts:=Z.ts.filter fun p=>decide (p.nm≠k) }:=by
 have hN:∀b∈[tl],H b=none:=fun b hb=>by rw[List.mem_singleton.mp hb];exact t0
 have hm:=h.more (N:=[tl]) s hN;have full:=h.full;have sub:(Z.ts.filter fun p=>decide (p.nm≠k)).Sublist Z.ts:=zAO;have nd:=h.nd;unfold Cj at nd;obtain⟨m1,m2⟩:=List.nodup_cons.mp nd;obtain⟨m3,m4⟩:=List.nodup_cons.mp m2;obtain⟨m5,m6⟩:=List.nodup_cons.mp m4;have sM:Z.st∈tl::M:=List.mem_cons_of_mem _ h.ms;have b:But (tl::M) H' (upd H' Z.st (.dK (dS (Jd { Z with tl:=tl,ts:=Z.ts.filter fun p=>decide (p.nm≠k) })))):=But.upd sM;have nts:tl≠Z.st:=fun e=>full Z.st (by simp[Cj]) (by rw[<-e];exact t0)
 have ne:∀{c:Addr},c∈Z.ln::Gw Z.ts->c≠Z.st:=fun hc z=>m1 (by rw[<-z];exact List.mem_cons_of_mem _ hc)
 have iH:(Gw (Z.ts.filter fun p=>decide (p.nm≠k))).Sublist (Gw Z.ts):=Pc sub;refine⟨A0A,(Af nts).trans t1,(Af (ne %[|2])).trans hm.ln,sM,List.mem_cons_self,hm.ml,b _ _ hm.r,b _ _ hm.mkm,fun p hp=>?_,?_,?_⟩
 ·have ck:=sub.subset hp;obtain⟨a1,a2,a3⟩:=Ch ck;exact (hm.tt p ck).but b (Af (ne (List.mem_cons_of_mem _ a1))) (Af (ne (List.mem_cons_of_mem _ a2))) (Af (ne (List.mem_cons_of_mem _ a3)))
 ·show (Z.st::tl::Z.ln::Gw (Z.ts.filter fun p=>decide (p.nm≠k))).Nodup;refine List.nodup_cons.mpr ⟨fun z=>?_,List.nodup_cons.mpr ⟨fun z=>?_,?_⟩⟩
  ·rcases List.mem_cons.mp z with e | z
   ·exact nts e.symm
   ·rcases List.mem_cons.mp z with e | z
    ·exact m1 (by rw[e];simp)
    ·exact m1 (List.mem_cons_of_mem _ (List.mem_cons_of_mem _ (iH.subset z)))
  ·rcases List.mem_cons.mp z with e | z
   ·exact full Z.ln (by simp[Cj]) (by rw[<-e];exact t0)
   ·exact full tl (List.mem_cons_of_mem _ (List.mem_cons_of_mem _ (List.mem_cons_of_mem _ (iH.subset z)))) t0
  ·exact List.nodup_cons.mpr ⟨fun z=>m5 (iH.subset z),iH.nodup m6⟩
 ·exact (sub.map _).nodup h.na
end
def CS(S:HSt):List Addr:=S.x::S.U.ln::S.U.tk::S.ts.flatMap fun p=>[p.a,p.u.gv,p.u.lf]
theorem A0C.aside(b:But M H H')(bx:∀c,H c≠none->H' c≠none)(e:∀c∈CS S,H' c=H c)(h:%[|23]):A0C M C cK H' S:=by
 have hx:=h.h;refine⟨⟨(e _ (by simp[CS])).trans hx.ob,(e _ (by simp[CS])).trans hx.ln,hx.mx,hx.ml,b _ _ hx.sp,b _ _ hx.mkm,hx.len,hx.m1,hx.m5,hx.wr,hx.ne,hx.l9⟩,(e _ (by simp[CS])).trans h.tk,h.mt,fun p hp=>⟨?_,(h.tt p hp).2⟩,h.nl,h.na,h.aa,fun c hc=>bx c (h.fr c hc),h.tl⟩;have hm:∀c∈[p.a,p.u.gv,p.u.lf],c∈CS S:=fun c hc=>List.mem_cons_of_mem _ (List.mem_cons_of_mem _ (List.mem_cons_of_mem _ (List.mem_flatMap.mpr ⟨p,hp,hc⟩)))
 exact (h.tt p hp).1.but b (e _ (hm _ %[|2])) (e _ (hm _ %[|2])) (e _ (hm _ %[|2]))
def Jm(p:Mt)(e r:Addr)(v:V)(t:Tr)(word:Str)(row:List Int):Mt:={ p with sas:=p.sas++[.ref e],hls:=p.hls++[.ref r],w:={ p.w with ents:=p.w.ents++[(v,t,word)],lefts:=p.w.lefts++[row] } }
def TH(p:Mt)(gs ls:List V):Mt:={ p with sas:=gs,hls:=ls,w:=Dl p.w }
def GX(p:Mt):Mt:={ p with w:=Im p.w }
theorem IJ{H:Hp}{r:Addr}{row:List Int}(h:AL H r row):∀{xs:List V}{rs:List (List Int)},A0E H xs rs->A0E H (xs++[.ref r]) (rs++[row])
 | _,_,.nil=>.cons ⟨r,rfl,h⟩ .nil
 | _,_,.cons x q=>.cons x (IJ h q)
section
variable {M:%[|6]}{H:Hp}{p:Mt}
theorem A0S.backed(h:A0S M H p)(n1:p.d≠p.sa)(n2:p.d≠p.hl)(n3:p.sa≠p.hl)(he:A0K (A6 M H) gs p.w.ents.dropLast)(hl:A0E (A6 M H) ls p.w.lefts.dropLast):
  A0S M (upd (upd H p.hl (.lst ls)) p.sa (.lst gs)) (TH p gs ls):=by
 have eu:A6 M (upd (upd H p.hl (.lst ls)) p.sa (.lst gs))=A6 M H:=(Bt h.ms).trans (Bt h.mh);refine⟨?_,A0A,?_,h.md,h.ms,h.mh,by rw[eu];exact h.sd,by rw[eu];exact h.sr,by rw[eu];exact h.tr,by rw[eu];exact he,by rw[eu];exact hl⟩
 ·exact (Af n1).trans ((Af n2).trans h.ob)
 ·exact (Af n3.symm).trans A0A
theorem A0S.ended(h:A0S M H p)(n1:p.d≠p.sa)(n2:p.d≠p.hl):A0S M (upd H p.d (.dK (dS (DD (GX p))))) (GX p):=by
 have eu:A6 M (upd H p.d (.dK (dS (DD (GX p)))))=A6 M H:=Bt h.md;exact⟨A0A,(Af n1.symm).trans h.sa,(Af n2.symm).trans h.hl,h.md,h.ms,h.mh,by rw[eu];exact h.sd,by rw[eu];exact h.sr,by rw[eu];exact h.tr,by rw[eu];exact h.en,by rw[eu];exact h.lr⟩
theorem Vm:Ck (DD p) "over" (.bl true)=DD (GX p):=by with_unfolding_all rfl
end
theorem O3:∀{ts:List Mt}{p:Mt},(Gw ts).Nodup->p∈ts->p.d≠p.sa/\p.d≠p.hl/\p.sa≠p.hl
 | x::ts,p,nd,hp=>by
  obtain⟨n1,n2,_⟩:=List.nodup_append.mp (show ([x.d,x.sa,x.hl]++Gw ts).Nodup from nd);rcases List.mem_cons.mp hp with rfl | hp
  ·simp at n1;exact⟨n1.1.1,n1.1.2,n1.2⟩
  ·exact O3 n2 hp
theorem ModT.own(h:ModT M H Z)(hp:p∈Z.ts):p.d≠p.sa/\p.d≠p.hl/\p.sa≠p.hl:=by
 have nd:=h.nd;unfold Cj at nd;exact O3 (List.nodup_cons.mp (List.nodup_cons.mp (List.nodup_cons.mp nd).2).2).2 hp
theorem CQ(a k:Str):AD [a,k]=a++" "++k:=by
 refine Hb ?_;rw[Ep,B6,Df,AN,AN,ND]
theorem SF(a k s z:Str):AD [a,k,s,z]=AD [AD [a,k],s,z]:=by
 refine Hb ?_;rw[Ep,Ep,B6,B6,B6,Df,B6,B6,Df,Ep,B6,Df];simp
inductive Dd where
 | lrn (i:Int) (k:%[|17])
 | beg (n kd rl:Str) (v:V) (t:Tr)
 | frk (k n:Str)
 | say (k:Str) (v:V) (t:Tr)
 | bck (k:Str)
 | edd (k:Str)
 | drp (k:Str)
def Dd.tup:Dd->List V
 | .lrn i k=>[.str "learn",.int i,Cz k]
 | .beg n kd rl v _=>[.str "begin",.str n,.str kd,v,.str rl]
 | .frk k n=>[.str "fork",.str k,.str n]
 | .say k v _=>[.str "say",.str k,v]
 | .bck k=>[.str "back",.str k]
 | .edd k=>[.str "end",.str k]
 | .drp k=>[.str "drop",.str k]
def Dd.Ok(m:Nat)(G:Hp):Dd->Prop
 | .lrn _ _=>True
 | .beg n kd rl v t=>A0F n/\BF kd/\BY rl/\t.At G v/\t.ok m/\t.size<=23
 | .frk k n=>A0F k/\A0F n
 | .say k v t=>A0F k/\t.At G v/\t.ok m/\t.size<=23
 | .bck k=>A0F k
 | .edd k=>A0F k
 | .drp k=>A0F k
inductive Told where
 | non
 | wd (z:Str)
 | pr (v:V) (z:Str)
def Told.At(H:Hp):Told->V->Prop
 | .non,x=>x= .non
 | .wd z,x=>x= .str z
 | .pr v z,x=>∃p q,x= .ref p/\v= .ref q/\H p=some (.tup [v,.str z])
theorem R1{H:Hp}{t:Tr}{v:V}(h:t.At H v):∃q,v= .ref q:=by
 cases t with
 | lt k=>obtain⟨p,e,_⟩:=h;exact⟨p,e⟩
 | nt t=>obtain⟨p,_,e,_⟩:=h;exact⟨p,e⟩
 | bn j a b=>obtain⟨p,_,_,e,_⟩:=h;exact⟨p,e⟩
structure Pt where
 word:Str
 told:Told
 marks:List (%[|17])
 ts:List (Str×Ta)
 line:Option Str
def BJ(ts:List (Str×Ta))(k:Str):Option Ta:=(ts.find? fun p=>decide (p.1=k)).map (·.2)
def Ev(ts:List (Str×Ta))(k:Str)(w:Ta):List (Str×Ta):=ts.map fun p=>if p.1=k then (p.1,w) else p
def Ax(m:Nat)(room:List Int)(marks:List (%[|17]))(ts:List (Str×Ta))(D:Dd):Pt:=
 let no:Str->Pt:=fun w=>⟨w,.non,marks,ts,none⟩
 match D with
 | .lrn i k=>if ¬Nv m i then no "NoLetter" else if room.filter (DE (marks.set i.toNat k))=[] then no "NoWorld" else⟨"done",.non,marks.set i.toNat k,ts,some (AD ["learn",⟨#[97+i.toNat]⟩,EB k])⟩
 | .beg n kd rl _ t=>if n∈ts.map (·.1) then no "NameTaken" else if []∈AQ kd t room then no "NoStanding" else⟨"done",.non,marks,ts++[(n,BO m kd rl t room)],some (AD ["begin",n,rl,kd,B0 t])⟩
 | .frk k n=>match BJ ts k with
  | none=>no "NoTalk"
  | some w=>if n∈ts.map (·.1) then no "NameTaken" else⟨"done",.non,marks,ts++[(n,w)],some (AD ["fork",k,n])⟩
 | .say k v t=>match BJ ts k with
  | none=>no "NoTalk"
  | some w=>if w.ended=true then no "TalkOver" else⟨"done",.wd (CA w (room.filter (DE marks)) t),marks,Ev ts k (Gu w v t (CA w (room.filter (DE marks)) t)),some (AD ["say",k,B0 t,CA w (room.filter (DE marks)) t])⟩
 | .bck k=>match BJ ts k with
  | none=>no "NoTalk"
  | some w=>if w.ended=true then no "TalkOver" else match w.ents.getLast? with
   | none=>no "NothingSaid"
   | some e=>⟨"done",.pr e.1 e.2.2,marks,Ev ts k (Dl w),some (AD ["back",k])⟩
 | .edd k=>match BJ ts k with
  | none=>no "NoTalk"
  | some w=>if w.ended=true then no "TalkOver" else⟨"done",.non,marks,Ev ts k (Im w),some (AD ["end",k])⟩
 | .drp k=>match BJ ts k with
  | none=>no "NoTalk"
  | some _=>⟨"done",.non,marks,ts.filter fun p=>decide (p.1≠k),some (AD ["drop",k])⟩
def BN(ts:List Mt):List (Str×Ta):=ts.map fun p=>(p.nm,p.w)
def EC(ts:List Tw):List (Str×Ta):=ts.map fun p=>(p.nm,p.w)
structure Yd(S:HSt)(Z:Mz):Prop where
 m:Z.m=S.m
 room:Z.room=S.room
 marks:Z.marks=S.marks
 ls:Z.ls=S.ls
 ts:BN Z.ts=EC S.ts
theorem CM:∀{ts:List (Str×Ta)}{k:Str}{w:Ta},BJ ts k=some w->(k,w)∈ts
 | p::ts,k,w,h=>by
  by_cases c:p.1=k
  ·have:BJ (p::ts) k=some p.2:=by simp[BJ,List.find?_cons,c]
   rw[this] at h;have e:p=(k,w):=by rw[<-c,<-zAK h]
   rw[e];exact List.mem_cons_self
  ·have:BJ (p::ts) k=BJ ts k:=by simp[BJ,List.find?_cons,c]
   rw[this] at h;exact List.mem_cons_of_mem _ (CM h)
theorem A1N:∀{ts:List (Str×Ta)}{k:Str},BJ ts k=none↔k∉ts.map (·.1)
 | [],k=>by simp[BJ]
 | p::ts,k=>by
  by_cases c:p.1=k
  ·simp[BJ,List.find?_cons,c]
  ·have:BJ (p::ts) k=BJ ts k:=by simp[BJ,List.find?_cons,c]
   rw[this,A1N (ts:=ts)];have c':¬k=p.1:=fun e=>c e.symm
   simp[c']
theorem L9{ts:List (Str×Ta)}{k:Str}{w:Ta}(nd:(ts.map (·.1)).Nodup)(h:(k,w)∈ts):BJ ts k=some w:=by
 cases e:BJ ts k with
 | none=>exact absurd (zA9 (f:=(·.1)) h) (A1N.mp e)
 | some w'=>
  have h2:=CM e;have:=B2 nd h h2 rfl;rw[Prod.mk.injEq] at this;rw[this.2]
abbrev EU:Stmt:=Bu 83
structure Z6(Z:Mz):Prop where
 ml:Z.marks.length=Z.m
 m1:1<=Z.m
 m5:Z.m<=5
 wr:Wr Z.room
 ts:Z.ts.length<900
 ls:Z.ls.length<900
 w:∀p∈Z.ts,ag Z.room p.w/\p.w.ents.length<900/\p.w.lefts.length=p.w.ents.length+1/\p.w.room=Z.room/\(∀l∈p.w.lefts,l.Sublist Z.room)
structure MGo(M:%[|6])(H:Hp)(Z:Mz)(o:Pt)(M':%[|6])(H':Hp)(Z':Mz):Prop where
 z:ModT M' H' Z'
 st:Z'.st=Z.st
 m:Z'.m=Z.m
 room:Z'.room=Z.room
 marks:Z'.marks=o.marks
 ts:BN Z'.ts=o.ts
 ls:Z'.ls=Z.ls++o.line.toList.map V.str
 s:A0B (A6 M H) (A6 M' H')
 sub:∀b∈M,b∈M'
 fr:∀b∈M',H' b≠none
 out:∀c∈M,c∉Cj Z->H' c=H c
 nw:∀c∈Cj Z',c∈Cj Z\/H c=none
theorem Ft(s:A0B H H')(h:H c≠none):H' c=H c:=by
 cases e:H c with
 | none=>exact absurd e h
 | some o=>exact s _ _ e
theorem MGo.no{M:%[|6]}{w:Str}(h:ModT M H Z)(fr:∀b∈M,H b≠none)(s:A0B H H'):MGo M H Z ⟨w,x,Z.marks,BN Z.ts,none⟩ M H' Z:=
 ⟨h.keep s,rfl,rfl,rfl,rfl,rfl,by simp,Ag s,fun _ h=>h,fun b hb z=>fr b hb (s.free z),fun c hc _=>Ft s (fr c hc),fun _ h=>.inl h⟩
theorem MGo.go(fr:∀b∈M,H b≠none)(b:But L H H1)(hL:∀c∈L,c∈Cj Z)(hLM:∀c∈L,c∈M)(hLf:∀c∈L,H1 c≠none)(hN:∀c∈N,H c=none)(hNf:∀c∈N,H1 c≠none)(s:A0B H1 H')(hz:ModT (N++M) H1 Z')(e1:Z'.st=Z.st)(e2:Z'.m=Z.m)(e3:Z'.room=Z.room)(e4:Z'.marks=o.marks)(e5:BN Z'.ts=o.ts)(e6:Z'.ls=Z.ls++o.line.toList.map V.str)(e7:∀c∈Cj Z',c∈Cj Z\/c∈N):MGo M H Z o (N++M) H' Z':=by
 have at1:∀c∈M,c∉L->H1 c=H c:=fun c hc hn=>by
  cases e:H c with
  | none=>exact absurd e (fr c hc)
  | some o=>exact b.at e hn
 have full:∀c∈N++M,H1 c≠none:=fun c hc=>by
  rcases List.mem_append.mp hc with h | h
  ·exact hNf c h
  ·by_cases e:c∈L
   ·exact hLf c e
   ·rw[at1 c h e];exact fr c h
 refine⟨hz.keep s,e1,e2,e3,e4,e5,e6,fun p u e=>?_,fun c h=>zAG _ h,fun c hc z=>full c hc (s.free z),fun c hc hn=>?_,fun c hc=>(e7 c hc).imp id (hN c)⟩
 ·obtain⟨h1,h2⟩:=Bg e;refine AW (s _ _ (b.at h1 fun z=>h2 (hLM p z))) fun z=>?_
  rcases List.mem_append.mp z with q | q
  ·rw[hN p q] at h1;cases h1
  ·exact h2 q
 ·have nL:c∉L:=fun z=>hn (hL c z)
  rw[Ft s (full c (zAG _ hc))];exact at1 c hc nL
theorem Mr(h:c∈Cj { Z with ts:=Z.ts++[q],ls:=l }):c∈Cj Z\/c∈[q.d,q.sa,q.hl]:=by
 have e:Cj { Z with ts:=Z.ts++[q],ls:=l }=Cj Z++[q.d,q.sa,q.hl]:=by
  unfold Cj Gw;rw[List.flatMap_append];rfl
 rw[e] at h;exact List.mem_append.mp h
theorem EN(ts:List Mt):(BN ts).map (·.1)=Ol ts:=by
 unfold BN Ol;rw[zBJ];rfl
theorem Mx(ts:List Mt)(p:Mt):BN (ts++[p])=BN ts++[(p.nm,p.w)]:=by
 unfold BN;rw[List.map_append];rfl
theorem BV(nd:(Ol ts).Nodup)(hp:p∈ts):BJ (BN ts) p.nm=some p.w:=
 L9 (by rw[EN];exact nd) (List.mem_map.mpr ⟨p,hp,rfl⟩)
theorem D4(h:k∉Ol ts):BJ (BN ts) k=none:=A1N.mpr (by rw[EN];exact h)
theorem Tm:∀c∈[Z.tl,Z.ln],c∈Cj Z:=fun c hc=>by
 exists 4;rcases hc with rfl | rfl<;>simp[Cj]
theorem WS(h:ModT M H Z):∀c∈[Z.tl,Z.ln],c∈M:=fun c hc=>by
 exists 4;rcases hc with rfl | rfl
 ·exact h.mt
 ·exact h.ml
theorem Mb(h:ModT M H Z):∀c∈[Z.tl,Z.ln],H c≠none:=fun c hc=>by
 exists 4;rcases hc with rfl | rfl
 ·exact h.full _ (by simp[Cj])
 ·exact h.full _ (by simp[Cj])
theorem CO{H:Hp}{a b c:Addr}(h1:H a=none)(h2:H b=none)(h3:H c=none):∀x∈[a,b,c],H x=none:=fun x hx=>by
 simp only[zAC,zAA,or_false] at hx;rcases hx with rfl | rfl | rfl
 ·exact h1
 ·exact h2
 ·exact h3
theorem IL(h:A0S M H p):∀x∈[p.d,p.sa,p.hl],H x≠none:=fun x hx=>by
 simp only[zAC,zAA,or_false] at hx;exact h.inM x hx
theorem KI(en:p'.nm=k):BN (DM ts k p')=Ev (BN ts) k p'.w:=by
 unfold BN DM Ev;rw[zBJ,zBJ];refine zB3 fun q _=>?_
 show ((if q.nm=k then p' else q).nm,(if q.nm=k then p' else q).w)=(if q.nm=k then (q.nm,p'.w) else (q.nm,q.w));by_cases c:q.nm=k
 ·rw[if_pos c,if_pos c,en,c]
 ·rw[if_neg c,if_neg c]
theorem Kr(h:ModT M H Z)(hp:p∈Z.ts)(e1:p'.d=p.d)(e2:p'.sa=p.sa)(e3:p'.hl=p.hl):Cj { Z with ts:=DM Z.ts p.nm p',ls:=l }=Cj Z:=by
 unfold Cj;show Z.st::Z.tl::Z.ln::Gw (DM Z.ts p.nm p')=_;rw[M9 fun q hq e=>by rw[B2 h.na hq hp e];exact⟨e1,e2,e3⟩]
theorem MGo.own(hZ:ModT M H Z)(hp:p∈Z.ts)(fr:∀b∈M,H b≠none)(b:But [p.d,p.sa,p.hl,Z.ln] H H1)(s:A0B H1 H')(hz:ModT M H1 Z')(em:Cj Z'=Cj Z)(e1:Z'.st=Z.st)(e2:Z'.m=Z.m)(e3:Z'.room=Z.room)(e4:Z'.marks=o.marks)(e5:BN Z'.ts=o.ts)(e6:Z'.ls=Z.ls++o.line.toList.map V.str):MGo M H Z o M H' Z':=by
 have mp:=hZ.tt p hp
 have Nv:∀c∈[p.d,p.sa,p.hl,Z.ln],c∈Cj Z:=fun c hc=>by
  obtain⟨a1,a2,a3⟩:=Ch hp;exists 4;rcases hc with rfl | rfl | rfl | rfl
  ·exact List.mem_cons_of_mem _ (List.mem_cons_of_mem _ (List.mem_cons_of_mem _ a1))
  ·exact List.mem_cons_of_mem _ (List.mem_cons_of_mem _ (List.mem_cons_of_mem _ a2))
  ·exact List.mem_cons_of_mem _ (List.mem_cons_of_mem _ (List.mem_cons_of_mem _ a3))
  ·simp[Cj]
 refine MGo.go (N:=[]) fr b Nv (fun c hc=>?_) (fun c hc=>hz.full c (by rw[em];exact Nv c hc)) (fun _ z=>nomatch z) (fun _ z=>nomatch z) s hz e1 e2 e3 e4 e5 e6 (fun c h=>.inl (by rw[em] at h;exact h));exists 4;rcases hc with rfl | rfl | rfl | rfl
 ·exact mp.md
 ·exact mp.ms
 ·exact mp.mh
 ·exact hZ.ml
theorem A0S.said2(h:A0S M H p)(n1:p.d≠p.sa)(n2:p.d≠p.hl)(b:But [p.sa,p.hl] H H')(h1:H' p.sa=some (.lst (p.sas++[.ref e])))(h2:H' p.hl=some (.lst (p.hls++[.ref r])))(he:A6 M H' e=some (.tup [v,.str word]))(hv:t.At (A6 M H') v)(hr:AL (A6 M H') r row):A0S M H' (Jm p e r v t word row):=by
 have k:But M H H':=But.wide (fun m hm=>by
  simp only[zAC,zAA,or_false] at hm
  rcases hm with rfl | rfl
  ·exact h.ms
  ·exact h.mh) b
 refine⟨b.at h.ob ?_,h1,h2,h.md,h.ms,h.mh,k _ _ h.sd,h.sr.keep k,h.tr.keep (TS.same k),A0K.snoc ⟨e,rfl,he,hv⟩ (h.en.keep k),IJ hr (h.lr.keep k)⟩;simp only[zAC,zAA,or_false,not_or];exact⟨n1,n2⟩
theorem MR:BN (ts.filter fun p=>decide (p.nm≠k))=(BN ts).filter fun p=>decide (p.1≠k):=by
 unfold BN;rw[List.filter_map];rfl
theorem UR(hO:Z6 Z)(hp:p∈Z.ts):CA p.w (Z.room.filter (DE Z.marks)) t=DV Z p.w t:=by
 obtain⟨h1,_,_,h4,h5⟩:=hO.w p hp;have hs:(Z.room.filter (DE Z.marks)).Sublist Z.room:=zAO;unfold CA DV;rw[h4,JQ hs]
 have hg:p.w.going.Sublist Z.room:=by
  unfold Ta.going;split
  ·exact h5 _ (DH h1.ln)
  ·exact h5 _ (MD h1.ln)
 rw[Xq hg hs]
theorem Uz(hr:p.w.room=room)(hs:(p.w.lefts.getLastD []).Sublist room):(Jm p e r v t z (DN z (p.w.lefts.getLastD []) t)).w=Gu p.w v t z:=by
 unfold Jm Gu;have:CZ z p.w.held (%[|12] p.w.room)=DN z (p.w.lefts.getLastD []) t:=by rw[hr];exact OM hs
 rw[this]
theorem Ki{α:Type}{f:α->V}{K:PySem.W.Frag}{row:List α}{p:α->Bool}(hr:SqL K H a (row.map f))(br:H acc=none)(bo:row.length<=900)(ht:∀k,k∈row->∀H2,A0B H H2->∀R:Bool->Hp->Prop,(∀H3,A0B H2 H3->R (p k) H3)->tc (some (f k)::rest) H2 R)(hd:∀v0 H2,A0B H H2->H2 acc=some (.lst ((row.filter p).map f))->D.nx (v0::rest) H2)(v:Option V):
  EE (Wk K a) (Cu 0) (Dx tc (DC acc (Vz 0))) D (v::rest) (upd H acc (.lst [])):=by
 refine Bf (K:=K) (a:=a) (xs:=row.map f) (fun i σ H2=>∃v0,σ=v0::rest/\A0B H H2/\H2 acc=some (.lst (((row.take i).filter p).map f))) ⟨v,rfl,Ab br _,A0A⟩ ?_ ?_ ?_
 ·rintro i σ H2 _ ⟨v0,rfl,s2,_⟩;exact s2.seq hr
 ·rintro i x σ H2 hx ⟨v0,rfl,s2,bK⟩;rw[List.getElem?_map] at hx;obtain⟨k,hk,rfl⟩:=Option.map_eq_some_iff.mp hx;have et:row.take (i+1)=row.take i++[k]:=by rw[zAR,hk];rfl
  refine ht k (zAN hk) H2 s2 _ fun H3 s3=>?_
  have eP:=s3 _ _ bK
  cases e:p k with
  | false=>
   refine Aq ⟨_,rfl,s2.trans s3,?_⟩;rw[et,zB7,zCU (by rw[e];simp),zCJ,zA6];exact eP
  | true=>
   refine AB ⟨_,eP,Ar ?_,?_⟩
   ·rw[List.length_map];refine zAD (zAX _ _) ?_;rw[zAW];omega
   refine⟨_,rfl,Ap (s2.trans s3) br _,?_⟩;rw[A0A,et,zB7,zCV e,zCJ,List.map_append];rfl
 ·rintro σ H2 ⟨v0,rfl,s2,bK⟩;rw[List.length_map,zAQ] at bK;exact hd v0 H2 s2 bK
theorem Sx{tl:Addr}:Ck (Jd Z) "talks" (.ref tl)=Jd { Z with tl:=tl,ts:=ts }:=by with_unfolding_all rfl
theorem Qz(sides:List (List Int))(going seen:List Int)(t:Tr):F1 sides going seen t="grant"\/F1 sides going seen t="deny"\/F1 sides going seen t="doubt":=by
 unfold F1;by_cases a:%[|24] going=[]
 ·rw[if_pos a];exact .inl rfl
 rw[if_neg a];by_cases b:%[|12] going=[]
 ·rw[if_pos b];exact .inr (.inl rfl)
 rw[if_neg b];by_cases c:Bc seen t="grant"/\A0 sides (%[|12] going)=true
 ·rw[if_pos c];exact .inl rfl
 rw[if_neg c];by_cases d:Bc seen t="deny"/\A0 sides (%[|24] going)=true
 ·rw[if_pos d];exact .inr (.inl rfl)
 rw[if_neg d];exact .inr (.inr rfl)
theorem PL:DV Z W t="grant"\/DV Z W t="deny"\/DV Z W t="doubt":=by
 unfold DV;split
 ·exact OG _ _
 ·exact Qz _ _ _ _
inductive D2(vs:List V)(H:Hp)(Q:VK)(E:XK):Prop where
 | mk (M:%[|6]) (Z:Mz) (D:Dd) (da:Addr) (_:vs=[.ref Z.st,.ref da]) (_:H da=some (.tup D.tup)) (_:ModT M H Z) (_:(∀b∈M,H b≠none)) (_:Z6 Z) (_:D.Ok Z.m (A6 M H)) (_:∀(r:Addr)(x:V)(M':%[|6])(H':Hp)(Z':Mz),H' r=some (.tup [.str (%[|33] (BN Z.ts) D).word,x])->(%[|33] (BN Z.ts) D).told.At H' x->MGo M H Z (%[|33] (BN Z.ts) D) M' H' Z'->Q (.ref r) H'):D2  vs H Q E
section
variable {P:Program}{w:World}{K:PySem.W.Frag}{mg:Str->%[|4]}{f:Addr}
def A0U:=Aw EU ["_law_state_here","_law_deed_here","_law_talk","_law_told","_law_line","_law_held"] 2
theorem KM(F:%[|9] "_law_modelled" EU)(T:Fz mg)(GL:%[|3] "_law_learnt" AH 2 EJ)(GB:%[|3] "_law_begun" AH 24 Iz)(GK:%[|3] "_law_forked" AH 2 FX)(GF:%[|3] "_law_find" AH 1 E4)(GD:%[|3] "_law_due_in" AH 26 (IS K))(GT:%[|3] "_law_true" AH 23 (C2 23))(GH:%[|3] "_law_shown" AH 23 (Mh 23)):%[|3] "_law_modelled" AH 27 D2:=by
 refine F.ok A0U ?_;rintro bz f bp A outer s H _ Q E hr ⟨M,Z,D,da,rfl,hd,hZ,hM,hO,hD,q⟩;have dN:A0J 2 _:=hr.mono %[|0]
 refine⟨_,Aa (Au (%[|54])
   (A5 (Be (AS (AA GL dN Al (Aj (pv 0) (AS %[|21] %[|21]))) Cc)))
   Ak)
  (Aa (Au (%[|54])
   (A5 (Be (AS (AA GB hr Al (Aj (pv 0) (Aj %[|21] (Aj %[|21] (AS %[|21] %[|21]))))) Cc)))
   Ak)
  (Aa (Au (%[|54])
   (A5 (Be (AS (AA GK dN Al (Aj (pv 0) (AS %[|21] %[|21]))) Cc)))
   Ak)
  (Aa (Az 2 A0U.nd (AA GF hr Al (AS (pv 0) %[|21])))
  (Aa (Au (FL (IX (pv 2)))
   (A5 (Be (AS Ae Cc)))
   Ak)
  (Aa (Au (EY (BS (An AE (pv 2) Ae) (fun _=>rfl)) (Dm (AR Gn %[|21] Ae))).pt
   (A5 (Be (AS Ae Cc)))
   Ak)
  (Aa (Au (EY (%[|54]) (Dm (AR (HP hr.units0) (An AE (pv 2) Ae) (Av Bi)))).pt
   (A5 (Be (AS Ae Cc)))
   Ak)
  (Aa (Az 3 A0U.nd Cc)
  (Aa (Az 4 A0U.nd (Ao A3 (Ao A3 %[|21] Ae) %[|21]))
  (Aa (Au (%[|54])
   (Aa (Az 3 A0U.nd (AA GD hr Al (Aj (pv 0) (AS (pv 2) %[|21]))))
   (Aa (As (A7 (An AE (pv 2) Ae) (AM (Be (AS %[|21] (pv 3))))))
   (Aa (Az 5 A0U.nd (An AI (An AE (pv 2) Ae) (HF EX Ad)))
   (Aa (Au (AR Gn (pv 3) Ae)
    (Ai (I8 (i:=5) A0U.nd rfl (Or.inl rfl) (N:=["_law_world","_law_deed_here","_law_told"]) (js:=[none,some 1,some 3]) (cl:=[("_law_told",s.heap.objs.size+2),("_law_deed_here",s.heap.objs.size+1)]) ⟨rfl,rfl,rfl,(by intro p hp;simp at hp;rcases hp with rfl | rfl<;>rfl),rfl,rfl,rfl⟩ (AX (pv 5)) (fun c1=>(BA 0 (show (["_law_world","_law_deed_here","_law_told"]:List Str).Nodup by decide +kernel))) (fun c1=>(CJ (AR AF (AA GT hr Al (AS %[|21] (pv 0))) (Bx AF (pv 2) Ae (Cd _))))) (fun c1=>(pv 0))))
    Ak)
   (Aa (As (A7 (An AE (pv 2) Ae) (AM (pv 5))))
   (Ai (Az 4 A0U.nd (DA zB5 zCA zCB E7 Ae (AM (Av (Aj (pv 4) (AS (AA GH hr Al (AM %[|21])) (pv 3)))))))))))))
   Ak)
  (Aa (Au (%[|54])
   (Aa (As (B7 (An AE (pv 2) Ae)))
   (Ai (Az 3 A0U.nd (B7 (An AE (pv 2) Ae)))))
   Ak)
  (Aa (Au (%[|54])
   (Ai (B8 C7 (Ca (pv 2) Ae BX)))
   Ak)
  (Aa (Au (%[|54])
   (Ai (B8 (Bk (N:=["_law_one","_law_deed_here"]) (js:=[none,some 1]) (cl:=[("_law_deed_here",s.heap.objs.size+1)]) ⟨rfl,rfl,rfl,(by intro p hp;simp at hp;rcases hp with rfl<;>rfl),rfl,rfl,rfl⟩ (AX (An AE (pv 0) Ae)) (fun c1=>(BA 0 (show (["_law_one","_law_deed_here"]:List Str).Nodup by decide +kernel))) (fun c1=>(CJ (AR Gn (An AE (pv 0) Ae) %[|21]))) (fun c1=>(pv 0))) (Ca (pv 0) Ae BX)))
   Ak)
  (Aa (As (A7 (An AE (pv 0) Ae) (AM (pv 4))))
  (A5 (Be (AS Ae (pv 3))))))))))))))))),?_⟩
 cases D with
 | lrn i k=>
  exists 11;refine⟨SqT.of hd,Ac (j:=1) rfl,SqT.of hd,Ac (j:=2) rfl,M,Z,i,k,rfl,hZ,hM,hO.ml,hO.m5,hO.wr.len,hO.ls,fun c=>?_,fun j ej hj ce H1 s1=>?_,fun j ej hj ce mk H1 b1 bU cZ=>?_⟩
  ·refine⟨Cy,fun r hr=>?_⟩;have e:%[|33] (BN Z.ts) (.lrn i k)=⟨"NoLetter",.non,Z.marks,BN Z.ts,none⟩:=if_pos c;rw[e] at q;exists 14
  ·refine⟨Cy,fun r hr=>?_⟩;have dL:¬¬Nv Z.m i:=fun z=>z ⟨by omega,by omega⟩
   have gL:i.toNat=j:=by omega
   have e:%[|33] (BN Z.ts) (.lrn i k)=⟨"NoWorld",.non,Z.marks,BN Z.ts,none⟩:=(if_neg dL).trans (if_pos (by rw[gL];exact ce));rw[e] at q;exact q r .non M _ Z A0A rfl (MGo.no hZ hM (s1.trans (Ab hr _)))
  ·refine⟨Cy,fun r hr=>?_⟩;have dL:¬¬Nv Z.m i:=fun z=>z ⟨by omega,by omega⟩
   have gL:i.toNat=j:=by omega
   have e:%[|33] (BN Z.ts) (.lrn i k)=⟨"done",.non,Z.marks.set i.toNat k,BN Z.ts,some (AD ["learn",⟨#[97+i.toNat]⟩,EB k])⟩:=(if_neg dL).trans (if_neg (by rw[gL];exact ce));rw[e] at q;refine q r .non M _ _ A0A rfl (MGo.go (N:=[]) (L:=[Z.st,Z.ln]) hM b1 ?_ ?_ ?_ (fun _ z=>nomatch z) (fun _ z=>nomatch z) (Ab hr _) cZ rfl rfl rfl (by rw[gL]) rfl (by rw[gL];rfl) (fun _ h=>.inl h))
   ·intro c hc;exists 4;rcases hc with rfl | rfl<;>simp[Cj]
   ·intro c hc;exists 4;rcases hc with rfl | rfl
    ·exact hZ.ms
    ·exact hZ.ml
   ·intro c hc;exists 4;rcases hc with rfl | rfl
    ·have:=cZ.ob;intro z;rw[z] at this;cases this
    ·have:=cZ.ln;intro z;rw[z] at this;cases this
 | beg n kd rl v t=>
  obtain⟨hg,hk,dP,bF,hok,hsz⟩:=hD;exists 0;exists 11;refine⟨SqT.of hd,Ac (j:=1) rfl,SqT.of hd,Ac (j:=2) rfl,SqT.of hd,Ac (j:=3) rfl,SqT.of hd,Ac (j:=4) rfl,M,Z,n,kd,rl,v,t,rfl,hZ,hM,hO.wr,hO.ts,hO.ls,zAD hg.2.1 %[|0],hk,dP,bF,Tr.ok.mono hO.m5 hok,hsz,fun c H1 s1=>?_,fun c c2 H1 s1=>?_,fun c c2 d sd sa hl sds hls H1 b1 d0 a0 l0 cZ=>?_⟩
  ·refine⟨Cy,fun r hr=>?_⟩;have e:%[|33] (BN Z.ts) (.beg n kd rl v t)=⟨"NameTaken",.non,Z.marks,BN Z.ts,none⟩:=if_pos (by rw[EN];exact c);rw[e] at q;exact q r .non M _ Z A0A rfl (MGo.no hZ hM (s1.trans (Ab hr _)))
  ·refine⟨Cy,fun r hr=>?_⟩;have e:%[|33] (BN Z.ts) (.beg n kd rl v t)=⟨"NoStanding",.non,Z.marks,BN Z.ts,none⟩:=(if_neg (by rw[EN];exact c)).trans (if_pos c2);rw[e] at q;exact q r .non M _ Z A0A rfl (MGo.no hZ hM (s1.trans (Ab hr _)))
  ·refine⟨Cy,fun r hr=>?_⟩;have e:%[|33] (BN Z.ts) (.beg n kd rl v t)=⟨"done",.non,Z.marks,BN Z.ts++[(n,BO Z.m kd rl t Z.room)],some (AD ["begin",n,rl,kd,B0 t])⟩:=(if_neg (by rw[EN];exact c)).trans (if_neg c2);rw[e] at q;exists 31
 | frk k n=>
  obtain⟨hgk,hgn⟩:=hD;exists 0;exists 0;exists 11;refine⟨SqT.of hd,Ac (j:=1) rfl,SqT.of hd,Ac (j:=2) rfl,M,Z,k,n,rfl,hZ,hO.ts,hO.ls,zAD hgk.2.1 %[|0],zAD hgn.2.1 %[|0],fun c=>?_,fun c c2=>?_,fun p hp ep c d sa hl H1 b1 d0 a0 l0 cZ=>?_⟩
  ·refine⟨Cy,fun r hr=>?_⟩;have e:%[|33] (BN Z.ts) (.frk k n)=⟨"NoTalk",.non,Z.marks,BN Z.ts,none⟩:=by simp only[Ax,D4 c]
   rw[e] at q;exists 14
  ·refine⟨Cy,fun r hr=>?_⟩;obtain⟨p,hp,rfl⟩:=List.mem_map.mp c
   have e:%[|33] (BN Z.ts) (.frk p.nm n)=⟨"NameTaken",.non,Z.marks,BN Z.ts,none⟩:=by
    simp only[Ax,BV hZ.na hp];exact if_pos (by rw[EN];exact c2)
   rw[e] at q;exists 14
  ·refine⟨Cy,fun r hr=>?_⟩;subst ep
   have e:%[|33] (BN Z.ts) (.frk p.nm n)=⟨"done",.non,Z.marks,BN Z.ts++[(n,p.w)],some (AD ["fork",p.nm,n])⟩:=by
    simp only[Ax,BV hZ.na hp];exact if_neg (by rw[EN];exact c)
   rw[e] at q;exists 31
 | say k v t=>
  exists 0;exists 0;exists 0;exists 22
  ·refine AB ⟨Cy,fun r hr=>?_⟩;have e:%[|33] (BN Z.ts) (.say k v t)=⟨"NoTalk",.non,Z.marks,BN Z.ts,none⟩:=by simp only[Ax,D4 c]
   rw[e] at q;exists 14
  subst ep;refine Aq ?_;have mp:=hZ.tt p hp;refine⟨mp.ob,E2,p.w.ended,rfl,?_⟩
  cases he:p.w.ended with
  | true=>
   refine AB ⟨SqT.of hd,Ac (j:=0) rfl,rfl,AB ⟨Cy,fun r hr=>?_⟩⟩
   have e:%[|33] (BN Z.ts) (.say p.nm v t)=⟨"TalkOver",.non,Z.marks,BN Z.ts,none⟩:=by
    simp only[Ax,BV hZ.na hp];exact if_pos he
   rw[e] at q;exists 14
  | false=>
   refine Aq (Aq ?_);obtain⟨hg,bF,hok,hsz⟩:=hD;refine⟨SqT.of hd,Ac (j:=0) rfl,rfl,Aq (Aq ?_)⟩;refine⟨SqT.of hd,Ac (j:=0) rfl,%[|0],SqT.of hd,Ac (j:=1) rfl,?_,?_⟩
   ·exact zAD (show (("say":Str)++(" ":Str)).length+p.nm.length<=1000 by have:(("say":Str)++(" ":Str)).length=4:=rfl;have:=hg.2.1;omega) %[|0]
   exists 11;have w5:=hO.w p hp;have hatH:t.At H v:=bF.keep (TS.same Ay);refine⟨SqT.of hd,Ac (j:=2) rfl,M,Z,p,v,t,rfl,hZ,hp,w5.1,hO.wr.len,by rw[hO.ml];exact hO.m5,hatH,Tr.ok.mono hO.m5 hok,hsz,fun H1 s1=>?_⟩;have ez:CA p.w (Z.room.filter (DE Z.marks)) t=DV Z p.w t:=UR hO hp;have z3:DV Z p.w t="grant"\/DV Z p.w t="deny"\/DV Z p.w t="doubt":=PL
   have est:%[|33] (BN Z.ts) (.say p.nm v t)=⟨"done",.wd (DV Z p.w t),Z.marks,Ev (BN Z.ts) p.nm (Gu p.w v t (DV Z p.w t)),some (AD ["say",p.nm,B0 t,DV Z p.w t])⟩:=by
    simp only[Ax,BV hZ.na hp];rw[if_neg (by rw[he];decide),ez]
   rw[est] at q;clear est ez;generalize DV Z p.w t=z at *;have cZ:=hZ.keep s1;have c6:=mp.keep s1;have cm:=s1 _ _ hd;obtain⟨o1,o2,o3⟩:=hZ.own hp;have la:p.sas.length<=1000:=by rw[A0K.len mp.en];have:=w5.2.1;omega
   have lh:p.hls.length<=1000:=by rw[mp.lr.len,w5.2.2.1];have:=w5.2.1;omega
   refine⟨c6.ob,Ht,.inl ⟨rfl,_,SqL.of c6.sa⟩,SqT.of cm,Ac (j:=2) rfl,Cy,fun e he0=>?_⟩;have s2:=Ab he0 (.tup [v,.str z]);have eM:e∉M:=fun c=>hM e c (s1.free he0)
   have e2:upd H1 e (.tup [v,.str z]) e=some (.tup [v,.str z]):=A0A;generalize upd H1 e _=H2 at *;have cF:=s1.trans s2;have jb:=mp.keep cF;refine⟨jb.sa,Ar la,?_⟩;have nsa:∀{c o},H2 c=some o->c≠p.sa->upd H2 p.sa (.lst (p.sas++[.ref e])) c=some o:=fun h n=>(Af n).trans h
   have ob3:=nsa jb.ob o1;have hl3:=nsa jb.hl o3.symm;have hd3:=nsa (cF _ _ hd) (AT (cF _ _ hd) jb.sa %[|11]);have e3:=nsa e2 (AT e2 jb.sa %[|11]);have sa3:upd H2 p.sa (.lst (p.sas++[.ref e])) p.sa=some (.lst (p.sas++[.ref e])):=A0A;have b3:But [p.sa,p.hl] H (upd H2 p.sa (.lst (p.sas++[.ref e]))):=A0B.trans (Ag cF) (But.upd %[|2]);have k3:A0B (A6 M H) (A6 M (upd H2 p.sa (.lst (p.sas++[.ref e])))):=by rw[Bt mp.ms];exact Ag cF
   have f3:∀c∈M,upd H2 p.sa (.lst (p.sas++[.ref e])) c≠none:=fun c hc=>by
    by_cases ec:c=p.sa
    ·rw[ec,A0A];intro z;cases z
    ·rw[Af ec];exact fun z=>hM c hc (cF.free z)
   generalize upd H2 p.sa _=H3 at *;obtain⟨gl,eG,gZ⟩:=Fe mp.lr w5.1.ln;have gl3:=k3 _ _ gZ;refine⟨ob3,DQ,_,rfl,SqL.of hl3,eG,?_⟩;have at3:t.At (A6 M H3) v:=bF.keep (TS.same k3);refine DL (fun σ H'=>∃r,σ=[some (.ref Z.st),some (.ref da),some (.ref p.d),some (.str z),some (.str (("say":Str)++" "++p.nm)),some (.ref r)]/\A0B H3 H'/\AL (A6 M H') r (DN z (p.w.lefts.getLastD []) t)) ?_ (fun next=>?_)
   rotate_left
   ·refine⟨rfl,?_⟩;by_cases c:z="doubt"
    ·subst c;exact Aq (next _ _ ⟨gl,rfl,A0B.refl _,gl3⟩)
    have el:DN z (p.w.lefts.getLastD []) t=(p.w.lefts.getLastD []).filter fun k=>tv t k == decide (z="grant"):=by
     rcases z3 with rfl | rfl | rfl
     ·rfl
     ·rfl
     ·exact absurd rfl c
    have c':(!decide (V.str z=V.str "doubt"))=true:=by rw[decide_eq_false (fun h=>c (by injection h))];rfl
    rw[c'];refine AB ⟨⟨_,SqL.of (Ay _ _ gl3)⟩,fun cc acc br=>BL (p:=fun k=>tv t k == decide (z="grant")) (rest:=[some (.ref da),some (.str z)]) (SqL.of (Ay _ _ gl3)) br (w5.1.l9 _ (DH w5.1.ln)) (fun k hk H4 s4 R hR=>?_) (fun v0 H4 s4 hac=>?_) none⟩
    ·refine⟨SqT.of (s4 _ _ hd3),Ac (j:=2) rfl,v,t,k,rfl,(at3.keep (TS.same Ay)).keep (TS.same s4),Tr.ok.mono hO.m5 hok,hsz,fun H5 s5=>⟨rfl,rfl,?_⟩⟩;have:=hR H5 s5;rw[show (tv t k == decide (z="grant"))=decide (V.bl (tv t k)=V.bl (decide (V.str z=V.str "grant"))) by by_cases cz:z="grant"<;>cases tv t k<;>simp[cz]] at this;exact this
    refine Fv rfl ?_;refine next _ _ ⟨acc,rfl,s4,?_⟩;rw[el];exact AW hac fun h=>f3 acc h br
   rintro σ H4 ⟨r,rfl,s4,dO⟩;have gW:=s4 _ _ hl3;refine⟨s4 _ _ ob3,DQ,.inl ⟨rfl,_,SqL.of gW⟩,gW,Ar lh,?_⟩;have b5:But [p.sa,p.hl] H (upd H4 p.hl (.lst (p.hls++[.ref r]))):=b3.trans (A0B.trans (Ag s4) (But.upd %[|2]));have k5:A0B (A6 M H4) (A6 M (upd H4 p.hl (.lst (p.hls++[.ref r])))):=by rw[Bt mp.mh];exact A0B.refl _
   have sa5:upd H4 p.hl (.lst (p.hls++[.ref r])) p.sa=some (.lst (p.sas++[.ref e])):=(Af o3).trans (s4 _ _ sa3);have hl5:upd H4 p.hl (.lst (p.hls++[.ref r])) p.hl=some (.lst (p.hls++[.ref r])):=A0A;have at5:t.At (A6 M (upd H4 p.hl (.lst (p.hls++[.ref r])))) v:=(at3.keep (TS.same (Ag s4))).keep (TS.same k5);have hd5:upd H4 p.hl (.lst (p.hls++[.ref r])) da=some (.tup (Dd.say p.nm v t).tup):=(Af (AT (s4 _ _ hd3) gW %[|11])).trans (s4 _ _ hd3);have mp5:=mp.said2 o1 o2 b5 sa5 hl5 (k5 _ _ (AW (s4 _ _ e3) eM)) at5 (k5 _ _ dO);generalize upd H4 p.hl _=H5 at *;have hZ5:=hZ.alter (p':=Jm p e r v t z (DN z (p.w.lefts.getLastD []) t)) hp (But.wide (fun c hc=>by simp only[zAC,zAA,or_false] at hc ⊢;exact .inr hc) b5) rfl rfl rfl rfl mp5;refine⟨rfl,SqT.of hd5,Ac (j:=2) rfl,v,t,rfl,at5.keep (TS.same Ay),Tr.ok.mono hO.m5 hok,hsz,hsz,fun sz H6 fU s6=>?_⟩;have ezz:=FK fU;subst ezz;refine⟨No,fun l dA=>?_⟩;have s7:=Ab dA (.lst (([(("say":Str)++" "++p.nm),B0 t,z]).map V.str));have l7:upd H6 l (.lst (([(("say":Str)++" "++p.nm),B0 t,z]).map V.str)) l=some (.lst (([(("say":Str)++" "++p.nm),B0 t,z]).map V.str)):=A0A;have el:[V.str (("say":Str)++" "++p.nm),.str (B0 t),.str z]=([(("say":Str)++" "++p.nm),B0 t,z]).map V.str:=rfl;rw[el];generalize upd H6 l _=H7 at *;have s57:=s6.trans s7;refine⟨_,l,[(("say":Str)++" "++p.nm),B0 t,z],rfl,rfl,SqL.of l7,?_,?_⟩
   ·have lz:z.length<=5:=by rcases z3 with rfl | rfl | rfl<;>decide
    have l1:(Str.ofString " ").length=1:=rfl;have l0:(("say":Str)++" "++p.nm).length=4+p.nm.length:=(Array.size_append (xs:=(("say":Str)++(" ":Str)).cps) (ys:=p.nm.cps)).trans rfl;have:=EZ t;have:=hg.2.1;show (("say":Str)++" "++p.nm).length+((B0 t).length+(z.length+0))+3*(Str.ofString " ").length<=16777216;rw[l1,l0];omega
   rw[Jq];have g7:=hZ5.keep s57;have hd7:=s57 _ _ hd5;refine⟨SqT.of hd7,Ac (j:=0) rfl,rfl,Aq ?_⟩;refine⟨SqT.of hd7,Ac (j:=0) rfl,rfl,Aq ?_⟩;refine⟨SqT.of hd7,Ac (j:=0) rfl,rfl,Aq ?_⟩;refine⟨g7.ob,BK,.inl ⟨rfl,_,SqL.of g7.ln⟩,g7.ln,Ar (by show Z.ls.length<=1000;have:=hO.ls;omega),?_⟩;have ll:AD [(("say":Str)++" "++p.nm),B0 t,z]=AD ["say",p.nm,B0 t,z]:=by rw[SF,CQ]
   rw[ll];have hZ8:=g7.wrote (.str (AD ["say",p.nm,B0 t,z]));have b8:But [p.d,p.sa,p.hl,Z.ln] H (upd H7 Z.ln (.lst (Z.ls++[.str (AD ["say",p.nm,B0 t,z])]))):=A0B.trans (But.wide (fun c hc=>by simp only[zAC,zAA,or_false] at hc ⊢;rcases hc with h | h<;>simp[h]) b5) (A0B.trans (Ag s57) (But.upd (a:=Z.ln) %[|2]));refine⟨Cy,fun r2 dN=>?_⟩;refine q r2 (.str z) M _ _ A0A rfl (MGo.own hZ hp hM b8 (Ab dN _) hZ8 (Kr hZ hp rfl rfl rfl) rfl rfl rfl rfl ?_ rfl);show BN (DM Z.ts p.nm (Jm p e r v t z (DN z (p.w.lefts.getLastD []) t)))=_;rw[KI (k:=p.nm) (p':=Jm p e r v t z (DN z (p.w.lefts.getLastD []) t)) rfl,Uz w5.2.2.2.1 (w5.2.2.2.2 _ (DH w5.1.ln))]
 | bck k=>
  exists 0;exists 0;exists 0;exists 22
  ·refine AB ⟨Cy,fun r hr=>?_⟩;have e:%[|33] (BN Z.ts) (.bck k)=⟨"NoTalk",.non,Z.marks,BN Z.ts,none⟩:=by simp only[Ax,D4 c]
   rw[e] at q;exists 14
  subst ep;refine Aq ?_;have mp:=hZ.tt p hp;refine⟨mp.ob,E2,p.w.ended,rfl,?_⟩
  cases he:p.w.ended with
  | true=>
   refine AB ⟨SqT.of hd,Ac (j:=0) rfl,rfl,AB ⟨Cy,fun r hr=>?_⟩⟩
   have e:%[|33] (BN Z.ts) (.bck p.nm)=⟨"TalkOver",.non,Z.marks,BN Z.ts,none⟩:=by
    simp only[Ax,BV hZ.na hp];exact if_pos he
   rw[e] at q;exists 14
  | false=>
   refine Aq (Aq ?_);exists 11;refine⟨mp.ob,Ht,GQ,fun e1 he1=>?_⟩;have s1:=Ab he1 (.lst []);refine⟨p.sa,e1,_,rfl,rfl,SqL.of (s1 _ _ mp.sa),SqL.of A0A,?_⟩;generalize upd H e1 _=H1 at *;have cZ:=hZ.keep s1;have c6:=mp.keep s1;have cm:=s1 _ _ hd;have hg:A0F p.nm:=hD;by_cases hE:p.w.ents=[]
   ·have ge:p.sas=[]:=Lz (hE ▸ mp.en);rw[ge];refine AB ⟨Cy,fun r hr=>?_⟩
    have e:%[|33] (BN Z.ts) (.bck p.nm)=⟨"NothingSaid",.non,Z.marks,BN Z.ts,none⟩:=by
     simp only[Ax,BV hZ.na hp];rw[if_neg (by rw[he];decide),hE];rfl
    rw[e] at q;exact q r .non M _ Z A0A rfl (MGo.no hZ hM (s1.trans (Ab hr _)))
   obtain⟨gs,e0,e,eg,hE2,eW,hp0,hpa⟩:=A0K.last c6.en hE;obtain⟨ls,l,el,hL2,hl⟩:=Ec c6.lr (hO.w p hp).1.ln;have nemp:p.sas.isEmpty=false:=by rw[eg];simp
   rw[nemp];refine Aq ?_;refine⟨SqT.of cm,Ac (j:=0) rfl,%[|0],SqT.of cm,Ac (j:=1) rfl,?_,?_⟩
   ·exact zAD (show (("back":Str)++(" ":Str)).length+p.nm.length<=1000 by have:(("back":Str)++(" ":Str)).length=5:=rfl;have:=hg.2.1;omega) %[|0]
   refine⟨SqT.of cm,Ac (j:=0) rfl,rfl,Aq ?_⟩;refine⟨SqT.of cm,Ac (j:=0) rfl,rfl,AB ?_⟩;have d9:=c6.hl;rw[el] at d9;have gj:=c6.sa;rw[eg] at gj;obtain⟨o1,o2,o3⟩:=hZ.own hp;refine⟨c6.ob,DQ,.inl ⟨rfl,_,SqL.of d9⟩,d9,Cq _ _,?_⟩;refine⟨(Af o2).trans c6.ob,Ht,.inl ⟨rfl,_,SqL.of ((Af o3).trans gj)⟩,(Af o3).trans gj,Cq _ _,?_⟩;rw[zAY,zAY];have hM2:=c6.backed o1 o2 o3 hE2 hL2;have b2:But [p.d,p.sa,p.hl] H1 (upd (upd H1 p.hl (.lst ls)) p.sa (.lst gs)):=A0B.trans (But.upd %[|2]) (But.upd %[|2]);have gc:=cZ.alter (p':=TH p gs ls) hp b2 rfl rfl rfl rfl hM2;have hd2:upd (upd H1 p.hl (.lst ls)) p.sa (.lst gs) da=some (.tup (Dd.bck p.nm).tup):=(Af (AT cm gj %[|11])).trans ((Af (AT cm d9 %[|11])).trans cm);have b3:But [p.d,p.sa,p.hl,Z.ln] H (upd (upd H1 p.hl (.lst ls)) p.sa (.lst gs)):=A0B.trans (Ag s1) (But.wide (fun c hc=>by simp only[zAC,zAA,or_false] at hc ⊢;rcases hc with h | h | h<;>simp[h]) b2);have he0:A6 M (upd (upd H1 p.hl (.lst ls)) p.sa (.lst gs)) e0=some (.tup [e.1,.str e.2.2]):=by rw[Bt mp.ms,Bt mp.mh];exact hp0
   generalize upd (upd H1 p.hl _) p.sa _=H2 at *;refine⟨SqT.of hd2,Ac (j:=0) rfl,rfl,Aq ?_⟩;refine⟨SqT.of hd2,Ac (j:=0) rfl,rfl,Aq ?_⟩;refine⟨gc.ob,BK,.inl ⟨rfl,_,SqL.of gc.ln⟩,gc.ln,Ar (by show Z.ls.length<=1000;have:=hO.ls;omega),?_⟩;have hZ3:=gc.wrote (.str (AD ["back",p.nm]));rw[CQ] at hZ3;have b4:But [p.d,p.sa,p.hl,Z.ln] H (upd H2 Z.ln (.lst (Z.ls++[.str (("back":Str)++" "++p.nm)]))):=b3.trans (But.upd (a:=Z.ln) %[|2]);refine⟨Cy,fun r hr=>?_⟩
   have est:%[|33] (BN Z.ts) (.bck p.nm)=⟨"done",.pr e.1 e.2.2,Z.marks,Ev (BN Z.ts) p.nm (Dl p.w),some (AD ["back",p.nm])⟩:=by
    simp only[Ax,BV hZ.na hp];rw[if_neg (by rw[he];decide),eW]
   rw[est] at q;have ne0:e0≠Z.ln:=fun z=>(Bg he0).2 (by rw[z];exact hZ.ml)
   obtain⟨ve,hve⟩:=R1 hpa;refine q r (.ref e0) M _ _ A0A ⟨e0,ve,rfl,hve,Ab hr _ _ _ ((Af ne0).trans (Bg he0).1)⟩ (MGo.own hZ hp hM b4 (Ab hr _) hZ3 (Kr hZ hp rfl rfl rfl) rfl rfl rfl rfl (KI (p':=TH p gs ls) rfl) (by rw[CQ];rfl))
 | edd k=>
  exists 0;exists 0;exists 0;exists 22
  ·refine AB ⟨Cy,fun r hr=>?_⟩;have e:%[|33] (BN Z.ts) (.edd k)=⟨"NoTalk",.non,Z.marks,BN Z.ts,none⟩:=by simp only[Ax,D4 c]
   rw[e] at q;exists 14
  subst ep;refine Aq ?_;have mp:=hZ.tt p hp;refine⟨mp.ob,E2,p.w.ended,rfl,?_⟩
  cases he:p.w.ended with
  | true=>
   refine AB ⟨SqT.of hd,Ac (j:=0) rfl,rfl,AB ⟨Cy,fun r hr=>?_⟩⟩
   have e:%[|33] (BN Z.ts) (.edd p.nm)=⟨"TalkOver",.non,Z.marks,BN Z.ts,none⟩:=by
    simp only[Ax,BV hZ.na hp];exact if_pos he
   rw[e] at q;exists 14
  | false=>
   refine Aq (Aq ?_);refine⟨SqT.of hd,Ac (j:=0) rfl,rfl,Aq (Aq ?_)⟩;have hg:A0F p.nm:=hD;refine⟨SqT.of hd,Ac (j:=0) rfl,%[|0],SqT.of hd,Ac (j:=1) rfl,?_,?_⟩
   ·exact zAD (show (("end":Str)++(" ":Str)).length+p.nm.length<=1000 by have:(("end":Str)++(" ":Str)).length=4:=rfl;have:=hg.2.1;omega) %[|0]
   exists 0;exists 0;exists 11;refine⟨p.d,_,_,rfl,rfl,mp.ob,(by show 8<=1000;decide),?_⟩;rw[Vm];obtain⟨o1,o2,o3⟩:=hZ.own hp;have b1:But [p.d,p.sa,p.hl] H (upd H p.d (.dK (dS (DD (GX p))))):=But.upd %[|2];have b1':But [p.d,Z.ln] H (upd H p.d (.dK (dS (DD (GX p))))):=But.upd %[|2];have cZ:=hZ.alter (p':=GX p) hp b1 rfl rfl rfl rfl (mp.ended o1 o2);have cm:upd H p.d (.dK (dS (DD (GX p)))) da=some (.tup (Dd.edd p.nm).tup):=(Af (AT hd mp.ob %[|11])).trans hd;generalize upd H p.d _=H1 at *;refine⟨SqT.of cm,Ac (j:=0) rfl,rfl,Aq ?_⟩;refine⟨cZ.ob,BK,.inl ⟨rfl,_,SqL.of cZ.ln⟩,cZ.ln,Ar (by show Z.ls.length<=1000;have:=hO.ls;omega),?_⟩;have gc:=cZ.wrote (.str (AD ["end",p.nm]));rw[CQ] at gc;have b2:But [p.d,Z.ln] H (upd H1 Z.ln (.lst (Z.ls++[.str (("end":Str)++" "++p.nm)]))):=b1'.trans (But.upd (a:=Z.ln) %[|2]);refine⟨Cy,fun r hr=>?_⟩
   have e:%[|33] (BN Z.ts) (.edd p.nm)=⟨"done",.non,Z.marks,Ev (BN Z.ts) p.nm (Im p.w),some (AD ["end",p.nm])⟩:=by
    simp only[Ax,BV hZ.na hp];exact if_neg (by rw[he];decide)
   rw[e] at q;refine q r .non M _ _ A0A rfl (MGo.go (N:=[]) (L:=[p.d,Z.ln]) hM b2 ?_ ?_ ?_ (fun _ z=>nomatch z) (fun _ z=>nomatch z) (Ab hr _) gc rfl rfl rfl rfl (KI (p':=GX p) rfl) (by rw[CQ];rfl) (fun c h=>.inl (by rw[Kr (p':=GX p) hZ hp rfl rfl rfl] at h;exact h)))
   ·intro c hc;exists 4;rcases hc with rfl | rfl
    ·exact List.mem_cons_of_mem _ (List.mem_cons_of_mem _ (List.mem_cons_of_mem _ (Ch hp).1))
    ·simp[Cj]
   ·intro c hc;exists 4;rcases hc with rfl | rfl
    ·exact mp.md
    ·exact hZ.ml
   ·intro c hc;exists 4;rcases hc with rfl | rfl
    ·intro z;by_cases ec:p.d=Z.ln
     ·rw[ec,A0A] at z;cases z
     ·rw[Af ec] at z;exact cZ.full p.d (List.mem_cons_of_mem _ (List.mem_cons_of_mem _ (List.mem_cons_of_mem _ (Ch (ts:=DM Z.ts p.nm (GX p)) (p:=GX p) (List.mem_map.mpr ⟨p,hp,if_pos rfl⟩)).1))) z
    ·rw[A0A];intro z;cases z
 | drp k=>
  exists 0;exists 0;exists 0;exists 22
  ·refine AB ⟨Cy,fun r hr=>?_⟩;have e:%[|33] (BN Z.ts) (.drp k)=⟨"NoTalk",.non,Z.marks,BN Z.ts,none⟩:=by simp only[Ax,D4 c]
   rw[e] at q;exists 14
  subst ep;refine Aq ?_;have mp:=hZ.tt p hp;have hg:A0F p.nm:=hD;refine DL (fun σ H'=>σ=[some (.ref Z.st),some (.ref da),some (.ref p.d),none,none,none]/\H=H') ?_ (fun next=>?_)
  rotate_left
  ·refine⟨mp.ob,E2,p.w.ended,rfl,?_⟩
   cases he:p.w.ended with
   | true=>exact AB ⟨SqT.of hd,Ac (j:=0) rfl,rfl,Aq (next _ _ ⟨rfl,rfl⟩)⟩
   | false=>exact Aq (Aq (next _ _ ⟨rfl,rfl⟩))
  rintro σ _ ⟨rfl,rfl⟩;refine⟨SqT.of hd,Ac (j:=0) rfl,rfl,Aq (Aq ?_)⟩;refine⟨SqT.of hd,Ac (j:=0) rfl,%[|0],SqT.of hd,Ac (j:=1) rfl,?_,?_⟩
  ·exact zAD (show (("drop":Str)++(" ":Str)).length+p.nm.length<=1000 by have:(("drop":Str)++(" ":Str)).length=5:=rfl;have:=hg.2.1;omega) %[|0]
  exists 0;exists 0;exists 0;exists 11;refine⟨hZ.ob,Fq,⟨_,SqL.of hZ.tl⟩,fun cc acc br=>Ki (f:=fun p:Mt=>V.ref p.d) (p:=fun q:Mt=>decide (q.nm≠p.nm)) (rest:=[some (.ref da)]) (SqL.of hZ.tl) br (zA7 hO.ts) (fun o ho H2 s2 R hR=>?_) (fun v0 H2 s2 hac=>?_) none⟩
  ·refine⟨s2 _ _ (hZ.tt o ho).ob,Pa,SqT.of (s2 _ _ hd),Ac (j:=1) rfl,rfl,?_⟩;have:=hR H2 (A0B.refl _);rw[show decide (o.nm≠p.nm)=(!decide (V.str o.nm=V.str p.nm)) by by_cases c:o.nm=p.nm<;>simp[c]] at this;exact this
  refine⟨Z.st,_,_,rfl,rfl,s2 _ _ hZ.ob,(by show 5<=1000;decide),?_⟩;rw[Sx (ts:=Z.ts.filter fun q=>decide (q.nm≠p.nm))];have cZ:=hZ.drop (k:=p.nm) s2 br hac;have cm:=s2 _ _ hd;have nst:da≠Z.st:=AT hd hZ.ob %[|11];have hd2:=(Af (H:=H2) (o:=.dK (dS (Jd { Z with tl:=acc,ts:=Z.ts.filter fun q=>decide (q.nm≠p.nm) }))) nst).trans cm;have b1:But [Z.st,Z.ln] H (upd H2 Z.st (.dK (dS (Jd { Z with tl:=acc,ts:=Z.ts.filter fun q=>decide (q.nm≠p.nm) })))):=A0B.trans (Ag s2) (But.upd %[|2]);generalize upd H2 Z.st _=H3 at *;refine⟨cZ.ob,BK,.inl ⟨rfl,_,SqL.of cZ.ln⟩,cZ.ln,Ar (by show Z.ls.length<=1000;have:=hO.ls;omega),?_⟩;have gc:=cZ.wrote (.str (AD ["drop",p.nm]));rw[CQ] at gc;have b2:But [Z.st,Z.ln] H (upd H3 Z.ln (.lst (Z.ls++[.str (("drop":Str)++" "++p.nm)]))):=b1.trans (But.upd (a:=Z.ln) %[|2]);refine⟨Cy,fun r hr=>?_⟩
  have est:%[|33] (BN Z.ts) (.drp p.nm)=⟨"done",.non,Z.marks,(BN Z.ts).filter fun q=>decide (q.1≠p.nm),some (AD ["drop",p.nm])⟩:=by
   simp only[Ax,BV hZ.na hp]
  rw[est] at q;refine q r .non _ _ _ A0A rfl (MGo.go (N:=[acc]) (L:=[Z.st,Z.ln]) hM b2 ?_ ?_ ?_ ?_ ?_ (Ab hr _) gc rfl rfl rfl rfl MR (by rw[CQ];rfl) ?_)
  ·intro c hc;exists 4;rcases hc with rfl | rfl<;>simp[Cj]
  ·intro c hc;exists 4;rcases hc with rfl | rfl
   ·exact hZ.ms
   ·exact hZ.ml
  ·intro c hc;exists 4;rcases hc with rfl | rfl
   ·exact gc.full _ (by simp[Cj])
   ·exact gc.full _ (by simp[Cj])
  ·intro c hc;rw[List.mem_singleton.mp hc];exact br
  ·intro c hc;rw[List.mem_singleton.mp hc];exact gc.full _ (by simp[Cj])
  ·intro c hc;exists 8
   ·exact .inl (by simp[Cj])
   exists 8
   ·exact .inr %[|2]
   exists 8
   ·exact .inl (by simp[Cj])
   exact .inl (List.mem_cons_of_mem _ (List.mem_cons_of_mem _ (List.mem_cons_of_mem _ ((Pc zAO).subset hc))))
end
abbrev Ng:Stmt:=Bu 68
abbrev Lf:Stmt:=Bu 69
abbrev alph:Str:="abcdefghijklmnopqrstuvwxyz"
theorem V3:∀j:Nat,j<26->Er alph.cps.toList (j:Int)=some (97+j):=by decide +kernel
theorem SY:alph.length<=sizeLine:=by decide
def HC(z:Str):Prop:=(Ee z).all C8=true
theorem HA(h:HC z)(hc:97<=c/\c<=122):HC (z++⟨#[c]⟩):=by
 unfold HC at *;rw[AN,zDC,h];show (true && (C8 c && true))=true;unfold C8;rw[decide_eq_true hc];rfl
theorem PV(h:HC z):∀c∈z.cps.toList,c<128:=fun c hc=>by
 have:=List.all_eq_true.mp h c hc;unfold C8 at this;have:=of_decide_eq_true this;omega
theorem A0F.lt(h:A0F z):∀c∈z.cps.toList,c<128:=PV h.2.2
theorem OJ(z:Str)(zs:List Str):OD (.str z) (zs.map V.str)=decide (z∈zs):=by
 unfold OD;rw[zDN,zA3,zCE,decide_eq_true_iff];constructor
 ·rintro⟨y,hy,e⟩;have e:(y == z)=true:=e;rw[<-eq_of_beq e];exact hy
 ·intro h;exact⟨z,h,beq_self_eq_true z⟩
theorem Wf{zs:List Str}{z:Str}(h:zs.Nodup)(hz:z∉zs):(zs++[z]).Nodup:=List.nodup_append.mpr ⟨h,List.nodup_cons.mpr ⟨(fun e=>by cases e),zBI⟩,fun b hb c hc e=>hz (by rw[<-List.mem_singleton.mp hc,<-e];exact hb)⟩
def Nx(zs:List Str)(k:Nat):Nat:=(zs.filter fun y=>decide (k<=y.length)).length
theorem W8(zs:List Str)(k:Nat):Nx zs k<=zs.length:=zAX _ _
theorem MF(k:Nat):∀zs:List Str,Nx zs (k+1)<=Nx zs k
 | []=>zAB _
 | y::zs=>by
  have ih:=MF k zs;unfold Nx at *;rw[zBT,zBT];by_cases h1:k+1<=y.length
  ·rw[if_pos (decide_eq_true h1),if_pos (decide_eq_true %[|1])];simp only[zAL];omega
  ·rw[if_neg (by simpa using h1)];split
   ·simp only[zAL];omega
   ·exact ih
theorem RF:∀{zs:List Str}{n:Str},n∈zs->Nx zs (n.length+1)<Nx zs n.length
 | [],_,h=>nomatch h
 | y::zs,n,h=>by
  have hm:=MF n.length zs;by_cases e:y=n
  ·subst e;unfold Nx at *;rw[zBT,zBT,if_neg %[|2],if_pos %[|2]];simp only[zAL];omega
  ·have ih:=RF (zs:=zs) (n:=n) (by
    rcases List.mem_cons.mp h with z | z
    ·exact absurd z.symm e
    ·exact z)
   unfold Nx at *;rw[zBT,zBT];by_cases h1:n.length+1<=y.length
   ·rw[if_pos (decide_eq_true h1),if_pos (decide_eq_true %[|1])];simp only[zAL];omega
   ·rw[if_neg (by simpa using h1)];split
    ·simp only[zAL];omega
    ·exact ih
theorem Rj(Mid:L2.St->Hp->Prop)(h2:∀σ' H',Mid σ' H'->u D σ' H')(h1:(∀σ' H',Mid σ' H'->u D σ' H')->t { D with nx:=u D } σ H):UC t u D σ H:=h1 h2
inductive KT(vs:List V)(H:Hp)(Q:VK)(E:XK):Prop where
 | mk (n:Int) (_:vs=[.int n]) (_:0<=n) (_:∀z:Str,A0F z->Q (.str z) H):KT  vs H Q E
inductive IY(K:PySem.W.Frag)(vs:List V)(H:Hp)(Q:VK)(E:XK):Prop where
 | mk (a:Addr) (ns:List Int) (_:vs=[.ref a]) (_:SqL K H a %[|25]) (_:ns.length<=63) (_:∀(l:Addr)(zs:List Str)(H':Hp),A0B H H'->H l=none->H' l=some (.lst (zs.map V.str))->zs.length=3->zs.Nodup->(∀z∈zs,A0F z)->Q (.ref l) H'):IY K vs H Q E
section
variable {P:Program}{w:World}{K:PySem.W.Frag}{mg:Str->%[|4]}
def A1H:=Aw Ng ["_law_n","_law_size","_law_found","_law_turn"] 1
def A1F:=Aw Lf ["_law_script","_law_found","_law_k","_law_name_here"] 1
theorem Rt(F:%[|9] "_law_name" Ng)(B:Bl mg):%[|3] "_law_name" AH 1 KT:=by
 refine F.ok A1H ?_;rintro bz f bp A outer s H _ Q E hr ⟨n,rfl,hn,q⟩
 refine⟨_,Aa (Az 1 A1H.nd (Ao C0 Ad (Ao A8 (pv 0) Ad)))
  (Aa (Az 0 A1H.nd (Ao Bj (pv 0) Ad))
  (Aa (Az 2 A1H.nd Ae)
  (Aa (BZ zAV rfl (Cm %[|8] B.range (AM (pv 1))) (BA 3 A1H.nd)
   (Aa (Az 2 A1H.nd (Ao A3 (pv 2) (An Gb Ae (Ao A8 (pv 0) Ad))))
   (Ai (Az 0 A1H.nd (Ao Bj (pv 0) Ad)))))
  (A5 (pv 2))))),?_⟩
 have e0:=zA0 n (show (8:Int)≠0 by decide);have e1:=zA2 n (show (0:Int)<8 by decide);refine⟨(by show (0:Int)<8;decide),%[|45],?_⟩;refine⟨%[|1],%[|1],B4 (fun i σ H1=>H1=H/\∃(k:Int)(z:Str)(v0:Option V),σ=[some (.int k),some (.int (1+n%8)),some (.str z),v0]/\0<=k/\z.length=i/\HC z) ⟨rfl,_,_,_,rfl,zC hn %[|0],rfl,rfl⟩ ?_ ?_⟩
 ·rintro i σ H1 hi ⟨rfl,k,z,v0,rfl,hk,hz,hs⟩;have hi8:i<8:=by omega
  have e2:=zA0 k (show (26:Int)≠0 by decide);have e3:=zA2 k (show (0:Int)<26 by decide);obtain⟨j,hj⟩:=zB1 e2;have hj26:j<26:=by omega
  refine⟨(by show (0:Int)<26;decide),_,_,_,rfl,rfl,SY,(by show Er alph.cps.toList (k%26)=_;rw[hj];exact V3 j hj26),?_,?_⟩
  ·show z.length+1<=sizeLine;rw[hz];exact zAD (show i+1<=8 by omega) %[|0]
  refine⟨%[|45],rfl,_,_,_,rfl,zC hk %[|0],?_,HA hs %[|1]⟩;rw[Bm,AN,zA,<-Bm,hz];rfl
 ·rintro σ H1 ⟨rfl,k,z,v0,rfl,hk,hz,hs⟩;refine q z ⟨?_,?_,hs⟩<;>omega
theorem Q3(F:%[|9] "_law_names" Lf)(B:Bl mg)(GN:%[|3] "_law_num" AH 1 (Ls K))(GM:%[|3] "_law_name" AH 1 KT):%[|3] "_law_names" AH 2 (IY K):=by
 refine F.ok A1F ?_;rintro bz f bp A outer s H _ Q E hr ⟨a,ns,rfl,hS,eQ,q⟩
 refine⟨_,Aa (Az 1 A1F.nd (Av Bi))
  (Aa (BZ zAV rfl (Cm %[|8] B.range (AM Ad)) (BA 2 A1F.nd)
   (Aa (Az 3 A1F.nd (AA GM hr Al (AM (Ao Fb (AA GN hr Al (AS (pv 0) Ad)) (An AI (Av (Aj Ad (AS (Ao ES Ad Ad) (Ao ES Ad Ad)))) (pv 2))))))
   (Aa (Au (Cf D5 (pv 3) (pv 1) %[|28])
    (Ai (Az 3 A1F.nd (An AI (Av (Aj Ae (AS Ae Ae))) (pv 2))))
    Ak)
   (Aa (DO zAV (Cf D5 (pv 3) (pv 1) %[|28])
    (Ai (Az 3 A1F.nd (Ao A3 (pv 3) Ae))))
   (Ai (As (A7 (pv 1) (AM (pv 3)))))))))
  (A5 (pv 1))),?_⟩
 refine⟨GQ,fun fo ft=>?_⟩;have s1:=Ab ft (.lst []);have fo1:upd H fo (.lst []) fo=some (.lst (([]:List Str).map V.str)):=A0A;generalize upd H fo _=H1 at *;refine⟨by decide,by decide,B4 (fun i σ H2=>∃(v0 v1:Option V)(zs:List Str),σ=[some (.ref a),some (.ref fo),v0,v1]/\A0B H H2/\H2 fo=some (.lst (zs.map V.str))/\zs.length=i/\zs.Nodup/\∀z∈zs,A0F z) ⟨_,_,[],rfl,s1,fo1,rfl,zBI,fun z hz=>by simp at hz⟩ ?_ ?_⟩
 ·rintro i σ H2 hi ⟨v0,v1,zs,rfl,s2,fo2,lz,hnd,hgz⟩
  have hi3:i<3:=by
   have h0:i<(3:Int).toNat:=hi;exact h0
  rw[zDO]
  obtain⟨y,hy0,hy1,hya⟩:∃y:Int,0<y/\y.natAbs.log2<9000/\Er [V.int 1,V.int (10^(5:Int).toNat),V.int (10^(11:Int).toNat)] (i:Int)=some (.int y):=by
   match i,hi3 with
   | 0,_=>exact⟨1,by decide,by decide,Ac (j:=0) rfl⟩
   | 1,_=>exact⟨_,by decide,by decide,Ac (j:=1) rfl⟩
   | 2,_=>exact⟨_,by decide,by decide,Ac (j:=2) rfl⟩
  refine⟨a,ns,5,rfl,s2.seq hS,eQ,by decide,by decide,fun n H3 hn s3=>?_⟩;refine⟨%[|67],%[|67],No,fun L hL=>?_⟩;have s4:=Ab hL (.lst [V.int 1,V.int (10^(5:Int).toNat),V.int (10^(11:Int).toNat)]);have L4:upd H3 L (.lst [V.int 1,V.int (10^(5:Int).toNat),V.int (10^(11:Int).toNat)]) L=some (.lst [V.int 1,V.int (10^(5:Int).toNat),V.int (10^(11:Int).toNat)]):=A0A;dsimp only;generalize upd H3 L _=H4 at *;refine⟨SqL.of L4,hya,⟨hy0,hy1⟩,_,rfl,zC hn (Int.le_of_lt hy0),fun z hz=>?_⟩;have u4:=s2.trans (s3.trans s4);have fo4:=s4 _ _ (s3 _ _ fo2);have flz:(zs.map V.str).all CV=true:=by rw[zDB];exact List.all_eq_true.mpr fun _ _=>rfl
  have nfo:∀{H':Hp},A0B H4 H'->H' fo=some (.lst (zs.map V.str)):=fun s=>s _ _ fo4
  refine W5 (σ':=[some (.ref a),some (.ref fo),some (.int (i:Int)),some (.str z)]) rfl ?_;refine Rj (fun σ H5=>∃nm:Str,σ=[some (.ref a),some (.ref fo),some (.int (i:Int)),some (.str nm)]/\A0B H4 H5/\A0F nm/\(nm∉zs\/nm.length+Nx zs nm.length<=3)) ?_ ?_
  ·rintro σ H5 ⟨nm,rfl,s5,hg5,hc5⟩;refine Rj (fun σ H6=>∃nm:Str,σ=[some (.ref a),some (.ref fo),some (.int (i:Int)),some (.str nm)]/\A0B H4 H6/\A0F nm/\nm∉zs) ?_ ?_
   ·rintro σ H6 ⟨nm,rfl,s6,hg6,hnz⟩;refine⟨.inl ⟨rfl,_,SqL.of (nfo s6)⟩,nfo s6,Ar %[|61],?_⟩;refine⟨_,_,zs++[nm],rfl,Ap (u4.trans s6) ft _,by rw[A0A,List.map_append];rfl,by rw[zA,lz];rfl,Wf hnd hnz,fun z' hz'=>?_⟩;rcases List.mem_append.mp hz' with h | h
    ·exact hgz z' h
    ·rw[List.mem_singleton.mp h];exact hg6
   ·intro next;refine⟨fun m σ H6=>∃nm:Str,σ=[some (.ref a),some (.ref fo),some (.int (i:Int)),some (.str nm)]/\A0B H4 H6/\A0F nm/\(nm∉zs\/nm.length+Nx zs nm.length<=3)/\m=Nx zs nm.length,⟨_,nm,rfl,s5,hg5,hc5,rfl⟩,?_⟩;rintro m σ H6 ⟨nm,rfl,s6,hg6,hc6,rfl⟩;refine⟨fo,_,rfl,.inl (SqL.of (nfo s6)),rfl,flz,?_⟩;show If (OD (.str nm) (zs.map V.str)) _ _;rw[OJ];by_cases c:nm∈zs
    ·refine BI c ?_
     have h3:nm.length+Nx zs nm.length<=3:=by
      rcases hc6 with h | h
      ·exact absurd c h
      ·exact h
     have lt:=RF c;have ln:(nm++("z":Str)).length=nm.length+1:=by rw[Bm,AN,zA,<-Bm];rfl
     refine⟨fun σ' H'=>∃m',m'<Nx zs nm.length/\∃nm:Str,σ'=[some (.ref a),some (.ref fo),some (.int (i:Int)),some (.str nm)]/\A0B H4 H'/\A0F nm/\(nm∉zs\/nm.length+Nx zs nm.length<=3)/\m'=Nx zs nm.length,fun _ _ h=>h,?_⟩;refine⟨?_,_,?_,nm++("z":Str),rfl,s6,⟨by omega,by omega,HA (c:=122) hg6.2.2 %[|0]⟩,.inr (by rw[ln];omega),rfl⟩
     ·show nm.length+1<=sizeLine;exact zAD (show nm.length+1<=9 by have:=hg6.2.1;omega) %[|0]
     ·rw[ln];exact lt
    ·refine Bw c ?_;exact next _ _ ⟨nm,rfl,s6,hg6,c⟩
  ·intro next;refine⟨fo,_,rfl,.inl (SqL.of fo4),rfl,flz,?_⟩;show If (OD (.str z) (zs.map V.str)) _ _;rw[OJ];by_cases c:z∈zs
   ·refine BI c ?_;refine⟨No,fun M hM=>?_⟩
    obtain⟨y,hy,hg⟩:∃y:Str,Er [V.str "a",V.str "b",V.str "c"] (i:Int)=some (.str y)/\A0F y/\y.length=1:=by
     match i,hi3 with
     | 0,_=>exact⟨"a",Ac (j:=0) rfl,by decide,rfl⟩
     | 1,_=>exact⟨"b",Ac (j:=1) rfl,by decide,rfl⟩
     | 2,_=>exact⟨"c",Ac (j:=2) rfl,by decide,rfl⟩
    refine⟨SqL.of A0A,hy,next _ _ ⟨y,rfl,Ab hM _,hg.1,.inr ?_⟩⟩;have:=W8 zs y.length;omega
   ·refine Bw c ?_;exact next _ _ ⟨z,rfl,A0B.refl _,hz,.inl c⟩
 ·rintro σ H2 ⟨v0,v1,zs,rfl,s2,fo2,lz,hnd,hgz⟩;exact q fo zs H2 s2 ft fo2 lz hnd hgz
end
abbrev FE:Stmt:=Bu 84
theorem Mq(h:%[|23]):∀c∈CS S,c∈M:=fun c hc=>by
 exists 8
 ·exact h.h.mx
 exists 8
 ·exact h.h.ml
 exists 8
 ·exact h.mt
 obtain⟨p,hp,hc⟩:=List.mem_flatMap.mp hc;have t:=(h.tt p hp).1;exists 4;rcases hc with rfl | rfl | rfl
 ·exact t.ma
 ·exact t.mg
 ·exact t.ml
theorem MY(hp:p∈S.ts):∀c∈[p.a,p.u.gv,p.u.lf,S.U.ln],c∈CS S:=fun c hc=>by
 exists 4;have go:∀b∈[p.a,p.u.gv,p.u.lf],b∈CS S:=fun b hb=>List.mem_cons_of_mem _ (List.mem_cons_of_mem _ (List.mem_cons_of_mem _ (List.mem_flatMap.mpr ⟨p,hp,hb⟩)))
 rcases hc with rfl | rfl | rfl | rfl
 ·exact go _ %[|2]
 ·exact go _ %[|2]
 ·exact go _ %[|2]
 ·simp[CS]
structure HGo(C cK:Addr)(M:%[|6])(H:Hp)(S:HSt)(o:Pt)(M':%[|6])(H':Hp)(S':HSt):Prop where
 h:A0C M' C cK H' S'
 x:S'.x=S.x
 m:S'.m=S.m
 room:S'.room=S.room
 marks:S'.marks=o.marks
 ts:EC S'.ts=o.ts
 ls:S'.ls=S.ls++o.line.toList.map V.str
 s:A0B (A6 M H) (A6 M' H')
 sub:∀b∈M,b∈M'
 out:∀c∈M,c∉CS S->H' c=H c
 nw:∀c∈CS S',c∈CS S\/H c=none
theorem HGo.no{C cK:Addr}{M:%[|6]}{H H':Hp}{S:HSt}{w:Str}{x:Told}(h:%[|23])(s:A0B H H'):HGo C cK M H S ⟨w,x,S.marks,EC S.ts,none⟩ M H' S:=
 ⟨h.keep s,rfl,rfl,rfl,rfl,rfl,by simp,Ag s,fun _ h=>h,fun c hc _=>Ft s (h.fr c hc),fun _ h=>.inl h⟩
theorem HGo.go(h:%[|23])(b:But L H H')(hL:∀c∈L,c∈CS S)(hN:∀c∈N,H c=none)(h':A0C (N++M) C cK H' S')(e1:S'.x=S.x)(e2:S'.m=S.m)(e3:S'.room=S.room)(e4:S'.marks=o.marks)(e5:EC S'.ts=o.ts)(e6:S'.ls=S.ls++o.line.toList.map V.str)(e7:∀c∈CS S',c∈CS S\/c∈N):HGo C cK M H S o (N++M) H' S':=by
 refine⟨h',e1,e2,e3,e4,e5,e6,fun p u e=>?_,fun c h=>zAG _ h,fun c hc hn=>?_,fun c hc=>(e7 c hc).imp id (hN c)⟩
 ·obtain⟨h1,h2⟩:=Bg e;refine AW (b.at h1 fun z=>h2 (Mq h p (hL p z))) fun z=>?_
  rcases List.mem_append.mp z with q | q
  ·rw[hN p q] at h1;cases h1
  ·exact h2 q
 ·cases e:H c with
  | none=>exact absurd e (h.fr c hc)
  | some o=>exact b.at e fun z=>hn (hL c z)
theorem ET(ts:List Tw):(EC ts).map (·.1)=Dz ts:=by
 unfold EC Dz;rw[zBJ];rfl
theorem Mf(ts:List Tw)(p:Tw):EC (ts++[p])=EC ts++[(p.nm,p.w)]:=by
 unfold EC;rw[List.map_append];rfl
theorem BT(nd:(Dz ts).Nodup)(hp:p∈ts):BJ (EC ts) p.nm=some p.w:=
 L9 (by rw[ET];exact nd) (List.mem_map.mpr ⟨p,hp,rfl⟩)
theorem DI(h:k∉Dz ts):BJ (EC ts) k=none:=A1N.mpr (by rw[ET];exact h)
theorem K4{ts:List Tw}{k:Str}{u:Tk}{w:Ta}:EC (Dh ts k u w)=Ev (EC ts) k w:=by
 unfold EC Dh Ev;rw[zBJ,zBJ];refine zB3 fun q _=>?_
 show ((if q.nm=k then { q with u:=u,w:=w } else q).nm,(if q.nm=k then { q with u:=u,w:=w } else q).w)=(if q.nm=k then (q.nm,w) else (q.nm,q.w));by_cases c:q.nm=k
 ·rw[if_pos c,if_pos c]
 ·rw[if_neg c,if_neg c]
theorem NF:EC (ts.filter fun p=>decide (p.nm≠k))=(EC ts).filter fun p=>decide (p.1≠k):=by
 unfold EC;rw[List.filter_map];rfl
theorem Mn(h:c∈CS (Lw S p l)):c∈CS S\/c∈[p.a,p.u.gv,p.u.lf]:=by
 have e:CS (Lw S p l)=CS S++[p.a,p.u.gv,p.u.lf]:=by
  unfold CS Lw;show _::_::_::(S.ts++[p]).flatMap _=_;rw[List.flatMap_append];rfl
 rw[e] at h;exact List.mem_append.mp h
theorem K3{M:%[|6]}{C cK:Addr}{H:Hp}{S:HSt}{p:Tw}{u:Tk}{w:Ta}{l:Str}(h:%[|23])(hp:p∈S.ts)(e1:u.gv=p.u.gv)(e2:u.lf=p.u.lf){c:Addr}(hc:c∈CS (Oh S p.nm u w l)):c∈CS S:=by
 exists 8
 ·simp[CS,Oh]
 exists 8
 ·simp[CS,Oh]
 exists 8
 ·simp[CS,Oh]
 obtain⟨q,hq,iu⟩:=List.mem_flatMap.mp hc;clear hc;have go:∀{q:Tw},q∈S.ts->∀{c},c∈[q.a,q.u.gv,q.u.lf]->c∈CS S:=fun {q} hq {c} hc=>List.mem_cons_of_mem _ (List.mem_cons_of_mem _ (List.mem_cons_of_mem _ (List.mem_flatMap.mpr ⟨_,hq,hc⟩)))
 rcases LQ hq with⟨hq,_⟩|⟨p',ck,en,rfl⟩
 ·exact go hq iu
 ·have e:p'=p:=B2 h.na ck hp en;subst e;refine go hp ?_;show c∈[p'.a,p'.u.gv,p'.u.lf];rw[<-e1,<-e2];exact iu
theorem Sm(hc:c∈CS (IP S k)):c∈CS S:=by
 exists 8
 ·simp[CS,IP]
 exists 8
 ·simp[CS,IP]
 exists 8
 ·simp[CS,IP]
 obtain⟨q,hq,iu⟩:=List.mem_flatMap.mp hc;exact List.mem_cons_of_mem _ (List.mem_cons_of_mem _ (List.mem_cons_of_mem _ (List.mem_flatMap.mpr ⟨q,(List.mem_filter.mp hq).1,iu⟩)))
theorem KY:∀c∈[S.U.tk,S.U.ln],c∈CS S:=fun c hc=>by
 exists 4;rcases hc with rfl | rfl<;>simp[CS]
theorem CH(h:A0F z):z.length<=100/\∀c∈z.cps.toList,c<128:=⟨zAD h.2.1 %[|0],h.lt⟩
def TW(adr:Nat->Addr)(w:Str):Addr:=adr (if w="NoLetter" then 0 else if w="NoWorld" then 1 else if w="NoTalk" then 2 else if w="NameTaken" then 3 else if w="NoStanding" then 4 else if w="TalkOver" then 5 else 6)
structure YK(S:HSt):Prop where
 ls:S.ls.length<900
 ts:S.ts.length<900
 w:∀p∈S.ts,p.w.ents.length<899/\p.w.lefts.length=p.w.ents.length+1
abbrev Bb(S:HSt)(D:Dd):Pt:=Ax S.m S.room S.marks (EC S.ts) D
inductive EV(C cK:Addr)(adr:Nat->Addr)(vs:List V)(H:Hp)(Q:VK)(E:XK):Prop where
 | mk (M:%[|6]) (S:HSt) (D:Dd) (da:Addr) (_:vs=[.ref S.x,.ref da]) (_:H da=some (.tup D.tup)) (_:%[|23]) (_:YK S) (_:D.Ok S.m (A6 M H)) (_:((Bb S D).word≠"done"->∀H',A0B H H'->E (.ref (TW adr (Bb S D).word)) none H')) (_:((Bb S D).word="done"->∀(x:V)(M':%[|6])(H':Hp)(S':HSt),(Bb S D).told.At H' x->HGo C cK M H S (Bb S D) M' H' S'->Q x H')):EV C cK adr vs H Q E
section
variable {P:Program}{w:World}{K:PySem.W.Frag}{mg:Str->%[|4]}{cH cK dt cS cB:Addr}{adr:Nat->Addr}
def NA:=Aw FE ["_law_house","_law_deed_here"] 2
theorem Lp(F:%[|9] "_law_called" FE)(HX:K9 K cH)(G1:%[|16] "learn" (Cb P w) 4 (HY cH (adr 0) (adr 1) EB))(G2:%[|16] "begin" (Cb P w) 7 (IW cH cK dt (adr 3) cS cB (adr 4)))(G3:%[|16] "fork" (Cb P w) 8 (Ky cH cK (adr 2) dt (adr 3)))(G4:%[|16] "say" (Cb P w) 8 (Nl cH cK (adr 2) cS (adr 5)))(G5:%[|16] "back" (Cb P w) 4 (Kv cH cK (adr 2) (adr 5) (adr 6)))(G6:%[|16] "end" (Cb P w) 4 (Os cH cK (adr 2) (adr 5)))(G7:%[|16] "drop" (Cb P w) 3 (Kp cH cK (adr 2))):%[|3] "_law_called" (Cb P w) 9 (EV cH cK adr):=by
 refine F.okX NA ?_;rintro bz f bp A outer s H _ Q E hr ⟨M,S,D,da,rfl,hd,hT,hO,hD,qN,q⟩
 refine⟨_,Aa (Au (%[|54])
   (A5 (Ct (pv 0) HX.cl G1 hr %[|26] (AS %[|21] %[|21])))
   Ak)
  (Aa (Au (%[|54])
   (A5 (Ct (pv 0) HX.cl G2 hr %[|26] (Aj %[|21] (Aj %[|21] (AS %[|21] %[|21])))))
   Ak)
  (Aa (Au (%[|54])
   (A5 (Ct (pv 0) HX.cl G3 hr %[|26] (AS %[|21] %[|21])))
   Ak)
  (Aa (Au (%[|54])
   (A5 (Ct (pv 0) HX.cl G4 hr %[|26] (AS %[|21] %[|21])))
   Ak)
  (Aa (Au (%[|54])
   (A5 (Ct (pv 0) HX.cl G5 hr %[|26] (AM %[|21])))
   Ak)
  (Aa (Au (%[|54])
   (A5 (Ct (pv 0) HX.cl G6 hr %[|26] (AM %[|21])))
   Ak)
  (A5 (Ct (pv 0) HX.cl G7 hr %[|26] (AM %[|21])))))))),?_⟩
 have no:∀{wd:Str}{k:Nat},Bb S D=⟨wd,.non,S.marks,EC S.ts,none⟩->wd≠"done"->TW adr wd=adr k->∀H',A0B H H'->E (.ref (adr k)) none H':=fun e ne ec H' s'=>by
  have:=qN (by rw[e];exact ne) H' s';rw[e,ec] at this;exact this
 have ok:∀{o:Pt},Bb S D=o->o.word="done"->∀(x:V)(M':%[|6])(H':Hp)(S':HSt),o.told.At H' x->HGo cH cK M H S o M' H' S'->Q x H':=fun e ed=>by
  have:=q (by rw[e];exact ed);rw[e] at this;exact this
 clear q qN
 cases D with
 | lrn i k=>
  exists 11;refine⟨hT.h.ob,RB,SqT.of hd,Ac (j:=1) rfl,SqT.of hd,Ac (j:=2) rfl,S.x,M,S.U,S.m,S.room,S.marks,S.ls,i,k,rfl,hT.h,hT.fr,hO.ls,fun c=>?_,fun j ej hj ce=>?_,fun j ej hj ce mk H' b bx hA=>?_⟩
  ·exact no (if_pos c) %[|0] rfl
  ·have dL:¬¬Nv S.m i:=fun z=>z ⟨by omega,by omega⟩
   have gL:i.toNat=j:=by omega
   exact no ((if_neg dL).trans (if_pos (by rw[gL];exact ce))) %[|0] rfl
  ·have dL:¬¬Nv S.m i:=fun z=>z ⟨by omega,by omega⟩
   have gL:i.toNat=j:=by omega
   refine ok ((if_neg dL).trans (if_neg (by rw[gL];exact ce))) rfl .non M H' { S with U:=⟨S.U.dx,S.U.sp,mk,S.U.tk,S.U.ln⟩,marks:=S.marks.set j k,ls:=S.ls++[.str (AD [Str.ofString "learn",⟨#[97+j]⟩,EB k])] } rfl (HGo.go (N:=[]) hT b ?_ (fun _ z=>nomatch z) (hT.learnt b bx hA) rfl rfl rfl (by rw[gL]) rfl (by rw[gL];rfl) (fun c h=>.inl h));intro c hc;exists 4;rcases hc with rfl | rfl<;>simp[CS]
 | beg n kd rl v t=>
  obtain⟨hg,hk,dP,bF,hok,hsz⟩:=hD;exists 0;exists 11;have lk:kd.length<=100:=by rcases hk with rfl | rfl | rfl<;>decide
  have lr:rl.length<=100:=by rcases dP with rfl | rfl<;>decide
  refine⟨hT.h.ob,Uc,SqT.of hd,Ac (j:=1) rfl,SqT.of hd,Ac (j:=2) rfl,SqT.of hd,Ac (j:=3) rfl,SqT.of hd,Ac (j:=4) rfl,M,S,n,kd,rl,v,t,rfl,hT,(CH hg).1,(CH hg).2,bF,Tr.ok.mono hT.h.m5 hok,hsz,lk,lr,hO.ls,hO.ts,fun c=>absurd hg c,fun _ c=>?_,fun _ _ c=>absurd hok c,fun _ _ _ c=>absurd ⟨dP,hk⟩ c,fun _ c _ _ _ c2=>?_,fun _ c _ _ _ c2 a u H' b a0 g0 l0 gM=>?_⟩
  ·exact no (if_pos (by rw[ET];exact c)) %[|0] rfl
  ·exact no ((if_neg (by rw[ET];exact c)).trans (if_pos c2)) %[|0] rfl
  ·exact ok ((if_neg (by rw[ET];exact c)).trans (if_neg c2)) rfl .non _ H' _ rfl (HGo.go (N:=[a,u.gv,u.lf]) hT b KY (CO a0 g0 l0) gM rfl rfl rfl rfl (Mf _ _) rfl (fun _ h=>Mn h))
 | frk k n=>
  obtain⟨hgk,hgn⟩:=hD;exists 0;exists 0;exists 11;refine⟨hT.h.ob,UD,SqT.of hd,Ac (j:=1) rfl,SqT.of hd,Ac (j:=2) rfl,M,S,k,n,rfl,hT,(CH hgk).1,(CH hgn).1,(CH hgn).2,hO.ls,hO.ts,fun c=>?_,fun _ c=>absurd hgn c,fun c _ c2=>?_,fun p hp ep _ c a u H' b a0 g0 l0 gM=>?_⟩
  ·exact no (wd:="NoTalk") (by simp only[Bb,Ax,DI c]) %[|0] rfl H (A0B.refl _)
  ·obtain⟨p,hp,rfl⟩:=List.mem_map.mp c;refine no (wd:="NameTaken") ?_ %[|0] rfl;simp only[Bb,Ax,BT hT.na hp];exact if_pos (by rw[ET];exact c2)
  ·subst ep;refine ok (o:=⟨"done",.non,S.marks,EC S.ts++[(n,p.w)],some (AD ["fork",p.nm,n])⟩) ?_ rfl .non _ H' _ rfl (HGo.go (N:=[a,u.gv,u.lf]) hT b KY (CO a0 g0 l0) gM rfl rfl rfl rfl (Mf _ _) rfl (fun _ h=>Mn h));simp only[Bb,Ax,BT hT.na hp];exact if_neg (by rw[ET];exact c)
 | say k v t=>
  obtain⟨hg,bF,hok,hsz⟩:=hD;exists 0;exists 0;exists 0;exists 11;refine⟨hT.h.ob,Ym,SqT.of hd,Ac (j:=1) rfl,SqT.of hd,Ac (j:=2) rfl,M,S,k,v,t,rfl,hT,(CH hg).1,bF,Tr.ok.mono hT.h.m5 hok,hsz,hO.ls,fun p hp=>⟨by have:=(hO.w p hp).1;omega,by have:=hO.w p hp;omega⟩,fun c=>?_,fun p hp ep c=>?_,fun _ _ _ _ c=>absurd hok c,fun p hp ep c _ u H' b bx eg el gM=>?_⟩
  ·exact no (wd:="NoTalk") (by simp only[Bb,Ax,DI c]) %[|0] rfl H (A0B.refl _)
  ·subst ep;refine no (wd:="TalkOver") ?_ %[|0] rfl;simp only[Bb,Ax,BT hT.na hp];exact if_pos c
  ·subst ep;refine ok (o:=⟨"done",.wd (%[|59]),S.marks,Ev (EC S.ts) p.nm (Gu p.w v t (%[|59])),some (AD ["say",p.nm,B0 t,%[|59]])⟩) ?_ rfl _ _ H' _ rfl (HGo.go (N:=[]) hT b (MY hp) (fun _ z=>nomatch z) gM rfl rfl rfl rfl K4 rfl (fun _ h=>.inl (K3 hT hp eg el h)));simp only[Bb,Ax,BT hT.na hp];exact if_neg (by rw[c];decide)
 | bck k=>
  have hg:A0F k:=hD;exists 0;exists 0;exists 0;exists 0;exists 11;refine⟨hT.h.ob,U0,SqT.of hd,Ac (j:=1) rfl,M,S,k,rfl,hT,(CH hg).1,hO.ls,fun p hp=>(hO.w p hp).2,fun c=>?_,fun p hp ep c=>?_,fun p hp ep c c2=>?_,fun p hp ep c c2 r e u H' b bx eg el eW d7 hea gM=>?_⟩
  ·exact no (wd:="NoTalk") (by simp only[Bb,Ax,DI c]) %[|0] rfl H (A0B.refl _)
  ·subst ep;refine no (wd:="TalkOver") ?_ %[|0] rfl H (A0B.refl _);simp only[Bb,Ax,BT hT.na hp];exact if_pos c
  ·subst ep;refine no (wd:="NothingSaid") ?_ %[|0] rfl H (A0B.refl _);simp only[Bb,Ax,BT hT.na hp];rw[if_neg (by rw[c];decide),c2];rfl
  ·subst ep;have k3:=(HGo.go (o:=⟨"done",.pr e.1 e.2.2,S.marks,Ev (EC S.ts) p.nm (Dl p.w),some (AD ["back",p.nm])⟩) (N:=[]) hT b (MY hp) (fun _ z=>nomatch z) gM rfl rfl rfl rfl K4 rfl (fun _ h=>.inl (K3 hT hp eg el h)));obtain⟨ve,hve⟩:=R1 hea;refine ok (o:=⟨"done",.pr e.1 e.2.2,S.marks,Ev (EC S.ts) p.nm (Dl p.w),some (AD ["back",p.nm])⟩) ?_ rfl _ _ H' _ ⟨r,ve,rfl,hve,(Bg (k3.s _ _ d7)).1⟩ k3;simp only[Bb,Ax,BT hT.na hp];rw[if_neg (by rw[c];decide),eW]
 | edd k=>
  have hg:A0F k:=hD;exists 0;exists 0;exists 0;exists 0;exists 0;exists 11;refine⟨hT.h.ob,XA,SqT.of hd,Ac (j:=1) rfl,M,S,k,rfl,hT,(CH hg).1,hO.ls,fun c=>?_,fun p hp ep c=>?_,fun p hp ep c H' b bx gM=>?_⟩
  ·exact no (wd:="NoTalk") (by simp only[Bb,Ax,DI c]) %[|0] rfl H (A0B.refl _)
  ·subst ep;refine no (wd:="TalkOver") ?_ %[|0] rfl H (A0B.refl _);simp only[Bb,Ax,BT hT.na hp];exact if_pos c
  ·subst ep;refine ok (o:=⟨"done",.non,S.marks,Ev (EC S.ts) p.nm (Im p.w),some (AD ["end",p.nm])⟩) ?_ rfl _ _ H' _ rfl (HGo.go (N:=[]) hT b (MY hp) (fun _ z=>nomatch z) gM rfl rfl rfl rfl K4 rfl (fun _ h=>.inl (K3 hT hp rfl rfl h)));simp only[Bb,Ax,BT hT.na hp];exact if_neg (by rw[c];decide)
 | drp k=>
  have hg:A0F k:=hD;exists 0;exists 0;exists 0;exists 0;exists 0;exists 0;refine⟨hT.h.ob,UL,SqT.of hd,Ac (j:=1) rfl,M,S,k,rfl,hT,(CH hg).1,hO.ls,fun c=>?_,fun c H' b gM=>?_⟩
  ·exact no (wd:="NoTalk") (by simp only[Bb,Ax,DI c]) %[|0] rfl H (A0B.refl _)
  ·obtain⟨p,hp,rfl⟩:=List.mem_map.mp c;refine ok (o:=⟨"done",.non,S.marks,(EC S.ts).filter fun q=>decide (q.1≠p.nm),some (AD ["drop",p.nm])⟩) ?_ rfl _ _ H' _ rfl (HGo.go (N:=[]) hT b KY (fun _ z=>nomatch z) gM rfl rfl rfl rfl NF rfl (fun _ h=>.inl (Sm h)));simp only[Bb,Ax,BT hT.na hp]
end
abbrev KJ:Stmt:=Bu 85
def words7:List Str:=["NoLetter","NoWorld","NoTalk","NameTaken","NoStanding","TalkOver","NothingSaid"]
def MH(y:Nat):Str:=words7.getD y ""
structure WH(K:PySem.W.Frag)(adr:Nat->Addr):Prop where
 slf:∀y,y<7->mroIn K (adr y) (.ref (adr y))=some true
 ap:∀y j,y<7->j<y->mroIn K (adr y) (.ref (adr j))=some false
def ZM(a b c d e f g:Addr):Nat->Addr
 | 0=>a
 | 1=>b
 | 2=>c
 | 3=>d
 | 4=>e
 | 5=>f
 | _=>g
theorem Su{K:PySem.W.Frag}{mg:Str->%[|4]}{a b c d e f g cT:Addr}(X0:BE K mg "NoLetter" a cT)(X1:BE K mg "NoWorld" b cT)(X2:BE K mg "NoTalk" c cT)(X3:BE K mg "NameTaken" d cT)(X4:BE K mg "NoStanding" e cT)(X5:BE K mg "TalkOver" f cT)(X6:BE K mg "NothingSaid" g cT)(A10:mroIn K b (.ref a)=some false)(A20:mroIn K c (.ref a)=some false)(A21:mroIn K c (.ref b)=some false)(A30:mroIn K d (.ref a)=some false)(A31:mroIn K d (.ref b)=some false)(A32:mroIn K d (.ref c)=some false)(A40:mroIn K e (.ref a)=some false)(A41:mroIn K e (.ref b)=some false)(A42:mroIn K e (.ref c)=some false)(A43:mroIn K e (.ref d)=some false)(A50:mroIn K f (.ref a)=some false)(A51:mroIn K f (.ref b)=some false)(A52:mroIn K f (.ref c)=some false)(A53:mroIn K f (.ref d)=some false)(A54:mroIn K f (.ref e)=some false)(A60:mroIn K g (.ref a)=some false)(A61:mroIn K g (.ref b)=some false)(A62:mroIn K g (.ref c)=some false)(A63:mroIn K g (.ref d)=some false)(A64:mroIn K g (.ref e)=some false)(A65:mroIn K g (.ref f)=some false):WH K (ZM a b c d e f g) where
 slf:=fun y hy=>by
  rcases (show y=0\/y=1\/y=2\/y=3\/y=4\/y=5\/y=6 by omega) with rfl | rfl | rfl | rfl | rfl | rfl | rfl
  ·exact X0.slf
  ·exact X1.slf
  ·exact X2.slf
  ·exact X3.slf
  ·exact X4.slf
  ·exact X5.slf
  ·exact X6.slf
 ap:=fun y j hy hj=>by
  rcases (show y=0\/y=1\/y=2\/y=3\/y=4\/y=5\/y=6 by omega) with rfl | rfl | rfl | rfl | rfl | rfl | rfl
  ·exact absurd hj (zB8 _)
  ·rw[show j=0 by omega];exact A10
  ·rcases (show j=0\/j=1 by omega) with rfl | rfl
   ·exact A20
   ·exact A21
  ·rcases (show j=0\/j=1\/j=2 by omega) with rfl | rfl | rfl
   ·exact A30
   ·exact A31
   ·exact A32
  ·rcases (show j=0\/j=1\/j=2\/j=3 by omega) with rfl | rfl | rfl | rfl
   ·exact A40
   ·exact A41
   ·exact A42
   ·exact A43
  ·rcases (show j=0\/j=1\/j=2\/j=3\/j=4 by omega) with rfl | rfl | rfl | rfl | rfl
   ·exact A50
   ·exact A51
   ·exact A52
   ·exact A53
   ·exact A54
  ·rcases (show j=0\/j=1\/j=2\/j=3\/j=4\/j=5 by omega) with rfl | rfl | rfl | rfl | rfl | rfl
   ·exact A60
   ·exact A61
   ·exact A62
   ·exact A63
   ·exact A64
   ·exact A65
theorem Sy:∀y,y<7->TW adr (MH y)=adr y:=fun y hy=>by
 rcases (show y=0\/y=1\/y=2\/y=3\/y=4\/y=5\/y=6 by omega) with rfl | rfl | rfl | rfl | rfl | rfl | rfl<;>rfl
theorem A2N:(Ax m room marks ts D).word="done"\/∃y,y<7/\Ax m room marks ts D=⟨MH y,.non,marks,ts,none⟩:=by
 cases D with
 | lrn i k=>
  unfold Ax;dsimp only;split
  ·exact .inr ⟨0,by decide,rfl⟩
  ·split
   ·exact .inr ⟨1,by decide,rfl⟩
   ·exact .inl rfl
 | beg n kd rl v t=>
  unfold Ax;dsimp only;split
  ·exact .inr ⟨3,by decide,rfl⟩
  ·split
   ·exact .inr ⟨4,by decide,rfl⟩
   ·exact .inl rfl
 | frk k n=>
  unfold Ax;dsimp only;split
  ·exact .inr ⟨2,by decide,rfl⟩
  ·split
   ·exact .inr ⟨3,by decide,rfl⟩
   ·exact .inl rfl
 | say k v t=>
  unfold Ax;dsimp only;split
  ·exact .inr ⟨2,by decide,rfl⟩
  ·split
   ·exact .inr ⟨5,by decide,rfl⟩
   ·exact .inl rfl
 | bck k=>
  unfold Ax;dsimp only;split
  ·exact .inr ⟨2,by decide,rfl⟩
  ·split
   ·exact .inr ⟨5,by decide,rfl⟩
   ·split
    ·exact .inr ⟨6,by decide,rfl⟩
    ·exact .inl rfl
 | edd k=>
  unfold Ax;dsimp only;split
  ·exact .inr ⟨2,by decide,rfl⟩
  ·split
   ·exact .inr ⟨5,by decide,rfl⟩
   ·exact .inl rfl
 | drp k=>
  unfold Ax;dsimp only;split
  ·exact .inr ⟨2,by decide,rfl⟩
  ·exact .inl rfl
theorem Told.At.keep{H H':Hp}(s:A0B H H'){T:Told}{x:V}(h:T.At H x):T.At H' x:=by
 cases T with
 | non=>exact h
 | wd z=>exact h
 | pr v z=>
  obtain⟨p,q,e,e2,hp⟩:=h;exact⟨p,q,e,e2,s _ _ hp⟩
theorem HGo.keep(s:A0B H' H2)(g:HGo C cK M H S o M' H' S')(h:%[|23]):HGo C cK M H S o M' H2 S':=
 ⟨g.h.keep s,g.x,g.m,g.room,g.marks,g.ts,g.ls,g.s.trans (Ag s),g.sub,fun c hc hn=>(Ft s (g.h.fr c (g.sub c hc))).trans (g.out c hc hn),g.nw⟩
inductive Iy(C cK:Addr)(vs:List V)(H:Hp)(Q:VK)(E:XK):Prop where
 | mk (M:%[|6]) (S:HSt) (D:Dd) (da:Addr) (_:vs=[.ref S.x,.ref da]) (_:H da=some (.tup D.tup)) (_:%[|23]) (_:YK S) (_:D.Ok S.m (A6 M H)) (_:∀(r:Addr)(x:V)(M':%[|6])(H':Hp)(S':HSt),H' r=some (.tup [.str (Bb S D).word,x])->(Bb S D).told.At H' x->HGo C cK M H S (Bb S D) M' H' S'->Q (.ref r) H'):Iy C cK vs H Q E
section
variable {P:Program}{w:World}{K:PySem.W.Frag}{mg:Str->%[|4]}{cH cK cT:Addr}{adr:Nat->Addr}
def A0X:=Aw KJ ["_law_house","_law_deed_here","_law_word","_law_told"] 2
theorem QH(F:%[|9] "_law_done" KJ)(SX:WH K adr)(X0:BE K mg "NoLetter" (adr 0) cT)(X1:BE K mg "NoWorld" (adr 1) cT)(X2:BE K mg "NoTalk" (adr 2) cT)(X3:BE K mg "NameTaken" (adr 3) cT)(X4:BE K mg "NoStanding" (adr 4) cT)(X5:BE K mg "TalkOver" (adr 5) cT)(X6:BE K mg "NothingSaid" (adr 6) cT)(GC:%[|3] "_law_called" (Cb P w) 9 (EV cH cK adr)):%[|3] "_law_done" AH 10 (Iy cH cK):=by
 refine F.ok A0X ?_;rintro bz f bp A outer s H _ Q E hr ⟨M,S,D,da,rfl,hd,hT,hO,hD,q⟩
 refine⟨_,Aa (Az 2 A0X.nd Ae)
  (Aa (Az 3 A0X.nd Cc)
  (Aa (UM (fun σ1 E1 pn1 Ex1 hp=>SZ (i:=3) A0X.nd rfl (Or.inl rfl) (ZF GC hr hp (AS (pv 0) (pv 1))))
   (EM (fun a oe=>(Ai (Az 2 A0X.nd Ae))) (EM (fun a oe=>(Ai (Az 2 A0X.nd Ae))) (EM (fun a oe=>(Ai (Az 2 A0X.nd Ae))) (EM (fun a oe=>(Ai (Az 2 A0X.nd Ae))) (EM (fun a oe=>(Ai (Az 2 A0X.nd Ae))) (EM (fun a oe=>(Ai (Az 2 A0X.nd Ae))) (EM (fun a oe=>(Ai (Az 2 A0X.nd Ae))) Vp %[|8] X6.m X6.ty X6.ic X6.bs) %[|8] X5.m X5.ty X5.ic X5.bs) %[|8] X4.m X4.ty X4.ic X4.bs) %[|8] X3.m X3.ty X3.ic X3.bs) %[|8] X2.m X2.ty X2.ic X2.bs) %[|8] X1.m X1.ty X1.ic X1.bs) %[|8] X0.m X0.ty X0.ic X0.bs) rfl rfl)
  (A5 (Be (AS (pv 2) (pv 3)))))),?_⟩
 refine⟨fun cls dx H'=>dx=none/\A0B H H'/\(Bb S D).word≠"done"/\cls= .ref (TW adr (Bb S D).word),⟨M,S,D,da,rfl,hd,hT,hO,hD,fun ne H' s'=>⟨rfl,s',ne,rfl⟩,fun ed x M' H' S' hx g=>?_⟩,?_⟩
 ·refine⟨Cy,fun r hr=>?_⟩;have s2:=Ab hr (.tup [.str "done",x]);exact q r x M' _ S' (by rw[ed];exact A0A) (hx.keep s2) (g.keep s2 hT)
 rintro cls dx H1 ⟨rfl,s1,ne,rfl⟩;obtain⟨y,hy,e⟩:∃y,y<7/\Bb S D=⟨MH y,.non,S.marks,EC S.ts,none⟩:=A2N.resolve_left ne;rw[e] at q ⊢;rw[show TW adr (MH y)=adr y from Sy y hy];refine⟨adr y,rfl,?_⟩;have bC:∀r,H1 r=none->Q (.ref r) (upd H1 r (.tup [.str (MH y),.non])):=fun r hr=>q r .non M _ S A0A rfl (HGo.no hT (s1.trans (Ab hr _)))
 rcases (show y=0\/y=1\/y=2\/y=3\/y=4\/y=5\/y=6 by omega) with rfl | rfl | rfl | rfl | rfl | rfl | rfl
 ·exact⟨true,SX.slf 0 hy,AB fun a vs sl iq=>⟨Cy,bC⟩⟩
 ·exact⟨false,SX.ap 1 0 hy %[|0],Aq ⟨true,SX.slf 1 hy,AB fun a vs sl iq=>⟨Cy,bC⟩⟩⟩
 ·exact⟨false,SX.ap 2 0 hy %[|0],Aq ⟨false,SX.ap 2 1 hy %[|0],Aq ⟨true,SX.slf 2 hy,AB fun a vs sl iq=>⟨Cy,bC⟩⟩⟩⟩
 ·exact⟨false,SX.ap 3 0 hy %[|0],Aq ⟨false,SX.ap 3 1 hy %[|0],Aq ⟨false,SX.ap 3 2 hy %[|0],Aq ⟨true,SX.slf 3 hy,AB fun a vs sl iq=>⟨Cy,bC⟩⟩⟩⟩⟩
 ·exact⟨false,SX.ap 4 0 hy %[|0],Aq ⟨false,SX.ap 4 1 hy %[|0],Aq ⟨false,SX.ap 4 2 hy %[|0],Aq ⟨false,SX.ap 4 3 hy %[|0],Aq ⟨true,SX.slf 4 hy,AB fun a vs sl iq=>⟨Cy,bC⟩⟩⟩⟩⟩⟩
 ·exact⟨false,SX.ap 5 0 hy %[|0],Aq ⟨false,SX.ap 5 1 hy %[|0],Aq ⟨false,SX.ap 5 2 hy %[|0],Aq ⟨false,SX.ap 5 3 hy %[|0],Aq ⟨false,SX.ap 5 4 hy %[|0],Aq ⟨true,SX.slf 5 hy,AB fun a vs sl iq=>⟨Cy,bC⟩⟩⟩⟩⟩⟩⟩
 ·exact⟨false,SX.ap 6 0 hy %[|0],Aq ⟨false,SX.ap 6 1 hy %[|0],Aq ⟨false,SX.ap 6 2 hy %[|0],Aq ⟨false,SX.ap 6 3 hy %[|0],Aq ⟨false,SX.ap 6 4 hy %[|0],Aq ⟨false,SX.ap 6 5 hy %[|0],Aq ⟨true,SX.slf 6 hy,AB fun a vs sl iq=>⟨Cy,bC⟩⟩⟩⟩⟩⟩⟩⟩
end
abbrev Rk:Stmt:=Bu 86
section
variable {X:Cx}
def Zr(K:PySem.W.Frag):R2:=fun x y H Q=>((x= .non/\y= .non)\/(∃z,x= .str z/\y= .str z)\/∃a b q z,x= .ref a/\y= .ref b/\H a=some (.tup [.ref q,.str z])/\H b=some (.tup [.ref q,.str z]))/\Q (.bl true) H
theorem V0(hu:X.A.units+9<cLine):C3 X (compareOp .Eq) (Zr X.K):=by
 exists 3;obtain⟨⟨rfl,rfl⟩|⟨z,rfl,rfl⟩|⟨a,b,q0,z,rfl,rfl,h1,h2⟩,q⟩:=h
 ·exact AF pins s σ H _ _ v u Q I rx ry ⟨rfl,by rw[decide_eq_true rfl];exact q⟩
 ·exact AF pins s σ H _ _ v u Q I rx ry ⟨rfl,by rw[decide_eq_true rfl];exact q⟩
 cases rx;cases ry;obtain⟨its,q1,pl,_⟩:=I.tuple (SqT.of h1);obtain⟨bH,q2,pl2,_⟩:=I.tuple (SqT.of h2);have l1:=q1.length;have l2:=q2.length;have l1':2=its.length:=l1;have l2':2=bH.length:=l2;refine SeqAt.RcAt.tuples (e:=fun _=>true) pl pl2 %[|1] (fun j j1 j2=>?_) _ _ _ _ ?_
 ·have j1':j<its.length:=by simpa using j1
  have j2':j<bH.length:=by simpa using j2
  have iI:([V.ref q0,.str z])[j]? = some [V.ref q0,.str z][j]:=List.getElem?_eq_getElem (by show j<2;omega);obtain⟨u1,e1,ru1⟩:=q1.get iI;obtain⟨u2,e2,ru2⟩:=q2.get iI
  have e1':its.toArray[j]=u1:=by
   have:=List.getElem?_eq_getElem j1';rw[this] at e1
   simpa using zAK e1
  have dR:bH.toArray[j]=u2:=by
   have:=List.getElem?_eq_getElem j2';rw[this] at e2
   simpa using zAK e2
  rw[e1',dR];rcases (show j=0\/j=1 by omega) with rfl | rfl
  ·cases ru1;cases ru2;exact zC9 _
  ·obtain⟨t1,rfl⟩:=(show RelV (.str z) u1 from ru1);obtain⟨t2,rfl⟩:=(show RelV (.str z) u2 from ru2);have:=zDH (A:=X.A.in1) (s:=s) z t1 z t2;rw[beq_self_eq_true] at this;exact this
 ·rw[Hx,Bool.true_and,show (its.toArray.size == bH.toArray.size)=true by simp;omega];exact⟨.bl true,H,I,rfl,q⟩
end
inductive Od(vs:List V)(H:Hp)(Q:VK)(E:XK):Prop where
 | mk (a b:Addr) (x y:V) (wd:Str) (T:Told) (_:vs=[.ref a,.ref b]) (_:H a=some (.tup [.str wd,x])) (_:H b=some (.tup [.str wd,y])) (_:T.At H x) (_:T.At H y) (_:Q (.bl true) H):Od  vs H Q E
section
variable {P:Program}{w:World}{K:PySem.W.Frag}{mg:Str->%[|4]}
def Yf:=Aw Rk ["_law_found","_law_due_here"] 2
theorem UY(F:%[|9] "_law_outcome_is" Rk):%[|3] "_law_outcome_is" AH 1 Od:=by
 refine F.ok Yf ?_;rintro bz f bp A outer s H _ Q E hr ⟨a,b,x,y,wd,T,rfl,ha,hb,hx,hy,q⟩;refine⟨_,A5 (N8 (Bx AF %[|42] %[|21] (Cd _)) (Dt (Bx (V0 hr.units9) %[|42] %[|21] (Cd _)))),?_⟩;refine⟨SqT.of ha,Ac (j:=0) rfl,SqT.of hb,Ac (j:=0) rfl,rfl,BI rfl ?_⟩;refine⟨SqT.of ha,Ac (j:=1) rfl,SqT.of hb,Ac (j:=1) rfl,?_,q⟩
 cases T with
 | non=>exact .inl ⟨hx,hy⟩
 | wd z=>exact .inr (.inl ⟨z,hx,hy⟩)
 | pr v z=>
  obtain⟨p1,q1,e1,rfl,h1⟩:=hx;obtain⟨p2,q2,e2,_,h2⟩:=hy;exact .inr (.inr ⟨p1,p2,q1,z,e1,e2,h1,h2⟩)
end
structure TOk(room:List Int)(n:Nat)(w:Ta):Prop where
 rl:BY w.rule
 ln:w.lefts.length=w.ents.length+1
 en:w.ents.length<=n
 rm:w.room=room
 sb:∀l∈w.lefts,l.Sublist room
structure TsOk(room:List Int)(n:Nat)(ts:List (Str×Ta)):Prop where
 ln:ts.length<=n
 w:∀p∈ts,TOk room n p.2
theorem TOk.mono{room:List Int}{n n':Nat}{w:Ta}(h:TOk room n w)(hn:n<=n'):TOk room n' w:=⟨h.rl,h.ln,zAD h.en hn,h.rm,h.sb⟩
theorem Kg{room:List Int}{n:Nat}{ts:List (Str×Ta)}{k:Str}{w:Ta}(h:TsOk room n ts)(hw:TOk room (n+1) w):TsOk room (n+1) (Ev ts k w):=by
 refine⟨by unfold Ev;rw[List.length_map];exact Nat.le_succ_of_le h.ln,fun p hp=>?_⟩;obtain⟨q,hq,e⟩:=List.mem_map.mp hp;by_cases c:q.1=k
 ·rw[if_pos c] at e;rw[<-e];exact hw
 ·rw[if_neg c] at e;rw[<-e];exact (h.w q hq).mono (zBA n)
theorem Pq(h:TsOk room n ts)(hw:TOk room (n+1) p.2):TsOk room (n+1) (ts++[p]):=by
 refine⟨by rw[zA];exact Nat.succ_le_succ h.ln,fun q hq=>?_⟩;rcases List.mem_append.mp hq with hq | hq
 ·exact (h.w q hq).mono (zBA n)
 ·rw[List.mem_singleton.mp hq];exact hw
theorem TsOk.mono(h:TsOk room n ts)(hn:n<=n'):TsOk room n' ts:=⟨zAD h.ln hn,fun p hp=>(h.w p hp).mono hn⟩
theorem PH:(CP room sides).Sublist room:=zAO
theorem L5{room:List Int}{n:Nat}{w:Ta}(h:TOk room n w):w.held.Sublist room:=by
 have hl:w.lefts≠[]:=fun z=>by have:=h.ln;rw[z] at this;simp at this
 exact h.sb _ (DH hl)
theorem Xd{room:List Int}{n:Nat}{w:Ta}{v:V}{t:Tr}{z:Str}(h:TOk room n w):TOk room (n+1) (Gu w v t z):=by
 refine⟨h.rl,?_,?_,h.rm,fun l hl=>?_⟩
 ·show (w.lefts++[_]).length=(w.ents++[_]).length+1;rw[zA,zA,h.ln];rfl
 ·show (w.ents++[_]).length<=n+1;rw[zA];exact Nat.succ_le_succ h.en
 ·rcases List.mem_append.mp (show l∈w.lefts++[CZ z w.held (%[|12] w.room)] from hl) with hl | hl
  ·exact h.sb l hl
  ·rw[List.mem_singleton.mp hl,h.rm,OM (L5 h)];exact (Q0 _ _ _).trans (L5 h)
theorem Vt{room:List Int}{n:Nat}{w:Ta}(h:TOk room n w)(hn:w.ents≠[]):TOk room (n+1) (Dl w):=by
 have h0:w.ents.length≠0:=fun z=>hn (List.length_eq_zero_iff.mp z)
 refine⟨h.rl,?_,?_,h.rm,fun l hl=>h.sb l (List.dropLast_subset _ hl)⟩
 ·show w.lefts.dropLast.length=w.ents.dropLast.length+1;rw[zBQ,zBQ];have:=h.ln;omega
 ·show w.ents.dropLast.length<=n+1;rw[zBQ];have:=h.en;omega
theorem Vd(h:TsOk room n ts)(hD:D.Ok m G):TsOk room (n+1) (Ax m room marks ts D).ts:=by
 have h':=h.mono (zBA n)
 cases D with
 | lrn i k=>
  unfold Ax;dsimp only;split
  ·exact h'
  ·split<;>exact h'
 | beg nm kd rl v t=>
  unfold Ax;dsimp only;split
  ·exact h'
  ·split
   ·exact h'
   ·refine Pq h ⟨hD.2.2.1,rfl,zA5 _,rfl,fun l hl=>?_⟩;rw[List.mem_singleton.mp hl];exact PH
 | frk k nm=>
  unfold Ax;dsimp only;split
  ·exact h'
  ·rename_i w e;split
   ·exact h'
   ·exact Pq h ((h.w _ (CM e)).mono (zBA n))
 | say k v t=>
  unfold Ax;dsimp only;split
  ·exact h'
  ·rename_i w e;split
   ·exact h'
   ·exact Kg h (Xd (h.w _ (CM e)))
 | bck k=>
  unfold Ax;dsimp only;split
  ·exact h'
  ·rename_i w e;split
   ·exact h'
   ·split
    ·exact h'
    ·rename_i x ex;exact Kg h (Vt (h.w _ (CM e)) fun z=>by rw[z] at ex;cases ex)
 | edd k=>
  unfold Ax;dsimp only;split
  ·exact h'
  ·rename_i w e;split
   ·exact h'
   ·have:=h.w _ (CM e);exact Kg h ⟨this.rl,this.ln,Nat.le_succ_of_le this.en,this.rm,this.sb⟩
 | drp k=>
  unfold Ax;dsimp only;split
  ·exact h'
  ·exact⟨zAD (zAX _ _) h'.ln,fun p hp=>h'.w p (List.mem_filter.mp hp).1⟩
theorem TOk.wok{room:List Int}{n:Nat}{w:Ta}(h:TOk room n w)(hr:room.length<=32):ag room w:=by
 have hl:w.lefts≠[]:=fun z=>by have:=h.ln;rw[z] at this;simp at this
 refine⟨hl,fun l h2=>zAD (h.sb l h2).length_le %[|1],fun s hs=>?_,h.rl⟩;have:s.length<=w.room.length:=(FC (z:=w.kind) (t:=w.t) hs).length_le;rw[h.rm] at this;omega
theorem A0D.wide2(s:A0B (A6 M H) (A6 M' H'))(sub:∀b∈M,b∈M')(ha:H' a=H a)(hg:H' U.gv=H U.gv)(hl:H' U.lf=H U.lf)(h:%[|34]):A0D M' C H' a U W:=
 ⟨ha.trans h.ob,hg.trans h.gv,hl.trans h.lf,sub _ h.ma,sub _ h.mg,sub _ h.ml,h.ne,s _ _ h.room,h.tr.keep (TS.same s),s _ _ h.pt,h.sd.keep s,h.en.keep s,h.lr.keep s,h.wr,h.wl,h.ln,h.l9,h.e9,h.tok,h.m5,h.tsz,h.kd,h.ns,h.rl⟩
theorem A0C.aside2(s:A0B (A6 M H) (A6 M' H'))(sub:∀b∈M,b∈M')(fr:∀b∈M',H' b≠none)(e:∀c∈CS S,H' c=H c)(h:%[|23]):A0C M' C cK H' S:=by
 have hx:=h.h;refine⟨⟨(e _ (by simp[CS])).trans hx.ob,(e _ (by simp[CS])).trans hx.ln,sub _ hx.mx,sub _ hx.ml,s _ _ hx.sp,s _ _ hx.mkm,hx.len,hx.m1,hx.m5,hx.wr,hx.ne,hx.l9⟩,(e _ (by simp[CS])).trans h.tk,sub _ h.mt,fun p hp=>⟨?_,(h.tt p hp).2⟩,h.nl,h.na,h.aa,fr,h.tl⟩;have hm:∀c∈[p.a,p.u.gv,p.u.lf],c∈CS S:=fun c hc=>List.mem_cons_of_mem _ (List.mem_cons_of_mem _ (List.mem_cons_of_mem _ (List.mem_flatMap.mpr ⟨p,hp,hc⟩)))
 exact (h.tt p hp).1.wide2 s sub (e _ (hm _ %[|2])) (e _ (hm _ %[|2])) (e _ (hm _ %[|2]))
theorem A0S.wide2(s:A0B (A6 M H) (A6 M' H'))(sub:∀b∈M,b∈M')(h1:H' p.d=H p.d)(h2:H' p.sa=H p.sa)(h3:H' p.hl=H p.hl)(h:A0S M H p):A0S M' H' p:=
 ⟨h1.trans h.ob,h2.trans h.sa,h3.trans h.hl,sub _ h.md,sub _ h.ms,sub _ h.mh,s _ _ h.sd,h.sr.keep s,h.tr.keep (TS.same s),h.en.keep s,h.lr.keep s⟩
theorem ModT.aside2(s:A0B (A6 M H) (A6 M' H'))(sub:∀b∈M,b∈M')(e:∀c∈Cj Z,H' c=H c)(h:ModT M H Z):ModT M' H' Z:=by
 have m0:∀{c},c∈Gw Z.ts->c∈Cj Z:=fun hc=>List.mem_cons_of_mem _ (List.mem_cons_of_mem _ (List.mem_cons_of_mem _ hc))
 refine⟨(e _ (by simp[Cj])).trans h.ob,(e _ (by simp[Cj])).trans h.tl,(e _ (by simp[Cj])).trans h.ln,sub _ h.ms,sub _ h.mt,sub _ h.ml,s _ _ h.r,s _ _ h.mkm,fun p hp=>?_,h.nd,h.na⟩;obtain⟨a1,a2,a3⟩:=Ch hp;exact (h.tt p hp).wide2 s sub (e _ (m0 a1)) (e _ (m0 a2)) (e _ (m0 a3))
theorem Zy(h:ModT M H Z):∀c∈Cj Z,c∈M:=fun c hc=>by
 exists 8
 ·exact h.ms
 exists 8
 ·exact h.mt
 exists 8
 ·exact h.ml
 obtain⟨p,hp,hc⟩:=List.mem_flatMap.mp hc;have t:=h.tt p hp;exists 4;rcases hc with rfl | rfl | rfl
 ·exact t.md
 ·exact t.ms
 ·exact t.mh
structure A1I(C cK:Addr)(M:%[|6])(H:Hp)(S:HSt)(Z:Mz)(n:Nat):Prop where
 h:%[|23]
 z:ModT M H Z
 y:Yd S Z
 d:∀c∈CS S,c∉Cj Z
 t:TsOk S.room n (EC S.ts)
 ls:S.ls.length<=n+1
 sl:∃(l:List V)(z:Str),S.ls=l++[.str z]/\∀v∈S.ls,∃z,v=V.str z
theorem A1I.keep(s:A0B H H')(b:A1I C cK M H S Z n):A1I C cK M H' S Z n:=⟨b.h.keep s,b.z.keep s,b.y,b.d,b.t,b.ls,b.sl⟩
theorem A1I.zok(b:A1I C cK M H S Z n)(hn:n<890):Z6 Z:=by
 have hx:=b.h.h
 have lz:Z.ts.length=S.ts.length:=by
  have:=congrArg List.length b.y.ts;unfold BN EC at this
  rwa [List.length_map,List.length_map] at this
 have lt:=b.t.ln;unfold EC at lt;rw[List.length_map] at lt;have ll:=b.ls;refine⟨by rw[b.y.marks,b.y.m];exact hx.len,by rw[b.y.m];exact hx.m1,by rw[b.y.m];exact hx.m5,by rw[b.y.room];exact hx.wr,by omega,by rw[b.y.ls];omega,fun p hp=>?_⟩;have hm:(p.nm,p.w)∈EC S.ts:=by rw[<-b.y.ts];exact List.mem_map.mpr ⟨p,hp,rfl⟩
 have ok:=b.t.w _ hm;rw[b.y.room];exact⟨ok.wok hx.wr.len,by have:p.w.ents.length<=n:=ok.en;omega,ok.ln,ok.rm,ok.sb⟩
theorem A1I.step(y:Yd S Z)(D:Dd):%[|33] (BN Z.ts) D=Bb S D:=by
 unfold Bb;rw[y.m,y.room,y.marks,y.ts]
structure Half(C cK:Addr)(M:%[|6])(H:Hp)(S:HSt)(Z Z':Mz)(o:Pt)(n:Nat):Prop where
 h:%[|23]
 z:ModT M H Z'
 y:Yd S Z
 st:Z'.st=Z.st
 m:Z'.m=Z.m
 room:Z'.room=Z.room
 marks:Z'.marks=o.marks
 ts:BN Z'.ts=o.ts
 ls:Z'.ls=Z.ls++o.line.toList.map V.str
 d:∀c∈CS S,c∉Cj Z'
 t:TsOk S.room n (EC S.ts)
 hl:S.ls.length<=n+1
 sl:∃(l:List V)(z:Str),S.ls=l++[.str z]/\∀v∈S.ls,∃z,v=V.str z
theorem A1I.half(b:A1I C cK M H S Z n)(g:MGo M H Z (%[|33] (BN Z.ts) D) M' H' Z'):Half C cK M' H' S Z Z' (Bb S D) n:=by
 rw[A1I.step b.y] at g;have eh:∀c∈CS S,H' c=H c:=fun c hc=>g.out c (Mq b.h c hc) (b.d c hc)
 refine⟨b.h.aside2 g.s g.sub g.fr eh,g.z,b.y,g.st,g.m,g.room,g.marks,g.ts,g.ls,fun c hc hz=>?_,b.t,b.ls,b.sl⟩;rcases g.nw c hz with q | q
 ·exact b.d c hc q
 ·exact b.h.fr c (Mq b.h c hc) q
theorem Half.hok(b:Half C cK M H S Z Z' o n)(hn:n<890):YK S:=by
 have lt:=b.t.ln;unfold EC at lt;rw[List.length_map] at lt;have ll:=b.hl;refine⟨by omega,by omega,fun p hp=>?_⟩;have ok:=b.t.w (p.nm,p.w) (List.mem_map.mpr ⟨p,hp,rfl⟩);exact⟨by have:p.w.ents.length<=n:=ok.en;omega,ok.ln⟩
theorem VI(o:Option Str):(o.toList.map V.str).length<=1:=by cases o<;>simp
theorem Half.both(b:Half C cK M H S Z Z' (Bb S D) n)(hD:D.Ok S.m G)(g:HGo C cK M H S (Bb S D) M' H' S'):A1I C cK M' H' S' Z' (n+1):=by
 have ez:∀c∈Cj Z',H' c=H c:=fun c hc=>g.out c (Zy b.z c hc) fun z=>b.d c z hc
 refine⟨g.h,b.z.aside2 g.s g.sub ez,⟨?_,?_,?_,?_,?_⟩,fun c hc hz=>?_,?_,?_,?_⟩
 ·rw[b.m,g.m,b.y.m]
 ·rw[b.room,g.room,b.y.room]
 ·rw[b.marks,g.marks]
 ·rw[b.ls,g.ls,b.y.ls]
 ·rw[b.ts,g.ts]
 ·rcases g.nw c hc with q | q
  ·exact b.d c q hz
  ·exact b.z.full c hz q
 ·rw[g.room,g.ts];exact Vd b.t hD
 ·rw[g.ls,zA];have:=VI (Bb S D).line;have:=b.hl;omega
 ·obtain⟨l,z,e,hz⟩:=b.sl;rw[g.ls]
  cases (Bb S D).line with
  | none=>exact⟨l,z,by rw[e];simp,fun v hv=>hz v (by simpa using hv)⟩
  | some y=>exact⟨S.ls,y,rfl,fun v hv=>by
    rcases List.mem_append.mp hv with h | h
    ·exact hz v h
    ·exact⟨y,by simpa using h⟩⟩
theorem Te(h:%[|23])(e:H r=some (.tup ys)):r∉CS S:=fun hr=>by
 rcases List.mem_cons.mp hr with rfl | hr
 ·rw[h.h.ob] at e;cases e
 rcases List.mem_cons.mp hr with rfl | hr
 ·rw[h.h.ln] at e;cases e
 rcases List.mem_cons.mp hr with rfl | hr
 ·rw[h.tk] at e;cases e
 obtain⟨p,hp,hc⟩:=List.mem_flatMap.mp hr;have t:=(h.tt p hp).1;exists 4;rcases hc with rfl | rfl | rfl
 ·rw[t.ob] at e;cases e
 ·rw[t.gv] at e;cases e
 ·rw[t.lf] at e;cases e
theorem HGo.tup{C cK:Addr}{M M':%[|6]}{H H':Hp}{S S':HSt}{o:Pt}(g:HGo C cK M H S o M' H' S')(h:%[|23]){r:Addr}{ys:List V}(e:H r=some (.tup ys)):H' r=some (.tup ys):=by
 by_cases c:r∈M
 ·rw[g.out r c (Te h e)];exact e
 ·exact (Bg (g.s _ _ (AW e c))).1
theorem HGo.told{C cK:Addr}{M M':%[|6]}{H H':Hp}{S S':HSt}{o:Pt}(g:HGo C cK M H S o M' H' S')(h:%[|23]){T:Told}{x:V}(e:T.At H x):T.At H' x:=by
 cases T with
 | non=>exact e
 | wd z=>exact e
 | pr v z=>
  obtain⟨p,q,e1,e2,hp⟩:=e;exact⟨p,q,e1,e2,g.tup h hp⟩
theorem LW(h:%[|23])(e:S.ts=[])(n1:S.U.sp≠hd)(n2:S.U.mks≠hd)(f:H hd≠none):A0C (hd::M) C cK H S:=by
 have hx:=h.h;have sub:∀{b},b∈M->b∈hd::M:=fun h=>List.mem_cons_of_mem _ h
 have k:∀{b:Addr}{o:HO},b≠hd->A6 M H b=some o->A6 (hd::M) H b=some o:=fun nb e=>by
  obtain⟨e1,e2⟩:=Bg e;refine AW e1 fun z=>?_
  rcases List.mem_cons.mp z with q | q
  ·exact nb q
  ·exact e2 q
 refine⟨⟨hx.ob,hx.ln,sub hx.mx,sub hx.ml,k n1 hx.sp,k n2 hx.mkm,hx.len,hx.m1,hx.m5,hx.wr,hx.ne,hx.l9⟩,h.tk,sub h.mt,fun p hp=>?_,h.nl,h.na,h.aa,fun b hb=>?_,h.tl⟩
 ·rw[e] at hp;cases hp
 ·rcases List.mem_cons.mp hb with rfl | q
  ·exact f
  ·exact h.fr b q
theorem A0C.poke(h:%[|23])(hm:hd∈M)(hn:hd∉CS S):A0C M C cK (upd H hd o) S:=by
 refine h.aside (But.upd hm) (fun c hc=>?_) (fun c hc=>Af fun e=>hn (by rw[<-e];exact hc));by_cases e:c=hd
 ·rw[e,A0A];intro z;cases z
 ·rw[Af e];exact hc
theorem Tl{st r mk tl ln:Addr}(h:%[|23])(em:S.m=m)(er:S.room=AY m ts)(ek:S.marks=List.replicate m none)(el:S.ls=[.str (BD m ts)])(et:S.ts=[])(s:A0B H H')(st0:H st=none)(r0:H r=none)(i9:H mk=none)(tl0:H tl=none)(ln0:H ln=none)(bW:H' st=some (.dK (dS (Jd (Jg st r mk tl ln m ts)))))(hr:AL H' r (AY m ts))(bU:H' mk=some %[|64])(fG:H' tl=some (.lst []))(dE:H' ln=some (.lst [.str (BD m ts)])):
  A1I C cK (st::tl::ln::M) H' S (Jg st r mk tl ln m ts) 0:=by
 have hx:=h.h;have bS:1<=m:=by rw[<-em];exact hx.m1
 have bx:AY m ts≠[]:=fun z=>hx.ne (by rw[er,z];rfl)
 have d7:H' r=some (.lst ((AY m ts).map V.int)):=hr;have a1:st≠tl:=AT bW fG %[|11];have a2:st≠ln:=AT bW dE %[|11];have a3:tl≠ln:=AT fG dE %[|11];have a4:r≠st:=AT d7 bW %[|11]
 have a5:r≠tl:=fun e=>by
  rw[e,fG] at d7;have h2:=zAK d7;injection h2 with h2
  exact bx (List.map_eq_nil_iff.mp h2.symm)
 have a6:r≠ln:=fun e=>by
  rw[e,dE] at d7;have h2:=zAK d7;injection h2 with h2
  cases hr0:AY m ts with
  | nil=>exact bx hr0
  | cons k0 _=>rw[hr0] at h2;injection h2 with h2;cases h2
 have a7:mk≠st:=AT bU bW %[|11]
 have a8:mk≠tl:=fun e=>by
  rw[e,fG] at bU;have h2:=zAK bU;injection h2 with h2
  match m,bS,h2 with
  | k+1,_,h2=>rw[zBG] at h2;cases h2
 have a9:mk≠ln:=fun e=>by
  rw[e,dE] at bU;have h2:=zAK bU;injection h2 with h2
  match m,bS,h2 with
  | k+1,_,h2=>rw[zBG] at h2;injection h2 with h2;cases h2
 have off:∀{b:Addr},H b=none->b≠st->b≠tl->b≠ln->b∉st::tl::ln::M:=fun h0 n1 n2 n3 z=>by
  rcases List.mem_cons.mp z with q | z
  ·exact n1 q
  rcases List.mem_cons.mp z with q | z
  ·exact n2 q
  rcases List.mem_cons.mp z with q | z
  ·exact n3 q
  exact h.fr _ z h0
 have hN:∀b∈[st,tl,ln],H b=none:=CO st0 tl0 ln0;have sub:∀b∈M,b∈st::tl::ln::M:=fun b hb=>zAG [st,tl,ln] hb
 have fr:∀b∈st::tl::ln::M,H' b≠none:=fun b hb=>by
  rcases List.mem_append.mp (show b∈[st,tl,ln]++M from hb) with q | q
  ·simp only[zAC,zAA,or_false] at q;rcases q with rfl | rfl | rfl
   ·rw[bW];intro z;cases z
   ·rw[fG];intro z;cases z
   ·rw[dE];intro z;cases z
  ·exact fun z=>h.fr b q (s.free z)
 refine⟨h.aside2 (De (N:=[st,tl,ln]) s hN) sub fr (fun c hc=>Ft s (h.fr c (Mq h c hc))),⟨bW,fG,dE,by simp[Jg],by simp[Jg],by simp[Jg],AW hr (off r0 a4 a5 a6),AW (bU.trans (by show some (HO.lst _)=some (HO.lst ((List.replicate m none).map Cz));rw[List.map_replicate];rfl)) (off i9 a7 a8 a9),(fun p hp=>nomatch hp),?_,zBI⟩,⟨em.symm,er.symm,ek.symm,el.symm,by rw[et];rfl⟩,fun c hc hz=>?_,⟨by rw[et];exact zAB 0,fun p hp=>by rw[et] at hp;cases hp⟩,by rw[el];exact zAB 1,⟨[],BD m ts,el,fun v hv=>⟨BD m ts,by rw[el] at hv;simpa using hv⟩⟩⟩
 ·show[st,tl,ln].Nodup;simp[a1,a2,a3]
 ·have:c∈[st,tl,ln]:=hz;exact h.fr c (Mq h c hc) (hN c this)
abbrev Kk:Stmt:=Bu 70
abbrev A0Q(H:Hp)(many:Nat):List V->List Tr->Prop:=Paired fun(v:V)(t:Tr)=>t.At H v/\t.ok many/\t.size<=20
theorem A0Q.keep{H H':Hp}{many:Nat}(s:TS H H'):∀{xs:List V}{ts:List Tr},A0Q H many xs ts->A0Q H' many xs ts
 | _,_,.nil=>.nil
 | _,_,.cons ⟨h,o,z⟩ q=>.cons ⟨h.keep s,o,z⟩ (A0Q.keep s q)
theorem A0Q.get{H:Hp}{many:Nat}:∀{xs:List V}{ts:List Tr}{i:Nat},A0Q H many xs ts->i<xs.length->∃(v:V)(t:Tr),xs[i]? = some v/\t.At H v/\t.ok many/\t.size<=20
 | _,_,0,.cons h _,_=>⟨_,_,rfl,h⟩
 | _,_,i+1,.cons _ q,hi=>A0Q.get (i:=i) q (zC0 hi)
inductive HQ(K:PySem.W.Frag)(vs:List V)(H:Hp)(Q:VK)(E:XK):Prop where
 | mk (n:Int) (fr:Addr) (many:Nat) (xs:List V) (ts:List Tr) (_:vs=[.int n,.ref fr,.int many]) (_:0<=n) (_:1<=many) (_:many<=5) (_:H fr=some (.lst xs)) (_:A0Q H many xs ts) (_:xs≠[]) (_:xs.length<=900) (_:∀(v:V)(t:Tr)(H':Hp),A0B H H'->t.At H' v->t.ok many->t.size<=21->(1<n%6->t.size<=20)->Q v H'):HQ K vs H Q E
section
variable {P:Program}{w:World}{K:PySem.W.Frag}{mg:Str->%[|4]}
def Sf:=Aw Kk ["_law_n","_law_fresh","_law_many"] 3
theorem Rb(F:%[|9] "_law_asked" Kk)(B:Bl mg)(GS:%[|3] "_law_sentence" AH 1 Ik):%[|3] "_law_asked" AH 2 (HQ K):=by
 refine F.ok Sf ?_;rintro bz f bp A outer s H _ Q E hr ⟨n,fr,many,xs,ts,rfl,hn,bS,bP,cy,hF,bx,hl,q⟩;have hp:0<xs.length:=List.length_pos_iff.mpr bx
 refine⟨_,Aa (Au (AR AF (Ao A8 (pv 0) Ad) Ad)
   (A5 (An AI (pv 1) (Ao A8 (Ao Bj (pv 0) Ad) (%[|53] (AM (pv 1))))))
   Ak)
  (Aa (Au (AR AF (Ao A8 (pv 0) Ad) Ad)
   (A5 (Be (AS Ae (An AI (pv 1) (Ao A8 (Ao Bj (pv 0) Ad) (%[|53] (AM (pv 1))))))))
   Ak)
  (A5 (AA GS hr Al (Aj (Ao Bj (pv 0) Ad) (AS Ad (pv 2)))))),?_⟩
 have e0:=zA0 (n / 6) (show (xs.length:Int)≠0 by omega);have e1:=zA2 (n / 6) (show (0:Int)<xs.length by omega);obtain⟨v,t,hv,ha,hok,hsz⟩:=A0Q.get hF (i:=(n / 6%(xs.length:Int)).toNat) %[|1]
 have bF:Er xs (n / 6%(xs.length:Int))=some v:=by
  have e:n / 6%(xs.length:Int)=(((n / 6%(xs.length:Int)).toNat:Nat):Int):=by omega
  rw[e];exact Ac hv
 refine⟨(by show (0:Int)<6;decide),rfl,?_⟩;refine Ci (fun c=>?_) (fun c=>?_)
 ·have c':n%6=0:=by
   have c2:=of_decide_eq_true c;injection c2
  refine⟨%[|45],.inl (SqL.of cy),(by show (0:Int)<((xs.length:Nat):Int);omega),SqL.of cy,bF,?_⟩;exact q v t H (A0B.refl _) ha hok %[|1] (fun z=>by omega)
 refine⟨(by show (0:Int)<6;decide),rfl,?_⟩;refine Ci (fun c=>?_) (fun c=>?_)
 ·have c':n%6=1:=by
   have c2:=of_decide_eq_true c;injection c2
  refine⟨%[|45],.inl (SqL.of cy),(by show (0:Int)<((xs.length:Nat):Int);omega),SqL.of cy,bF,Cy,fun p hp0=>?_⟩;have s2:=Ab hp0 (.tup [.str "not",v]);exact q (.ref p) (.nt t) _ s2 ⟨p,v,rfl,A0A,ha.keep (TS.same s2)⟩ hok (by show t.size+1<=21;omega) (fun z=>by omega)
 ·refine⟨%[|45],n / 6,6,many,rfl,by omega,by decide,by decide,bS,bP,fun v t H' s' ha' hok' hsz'=>?_⟩;exact q v t H' s' ha' hok' %[|1] (fun _=>by omega)
end
abbrev NM:Stmt:=Bu 72
inductive Kx(K:PySem.W.Frag)(vs:List V)(H:Hp)(Q:VK)(E:XK):Prop where
 | mk (a:Addr) (ns:List Int) (st n:Int) (_:vs=[.ref a,.int st,.int n]) (_:SqL K H a %[|25]) (_:ns.length<=63) (_:0<=st) (_:st<=100) (_:∀(m:Int),0<=m->m<=200->Q (.int m) H):Kx K vs H Q E
section
variable {P:Program}{w:World}{K:PySem.W.Frag}{mg:Str->%[|4]}
def VR:=Aw NM ["_law_script","_law_start","_law_n"] 3
theorem Si(F:%[|9] "_law_last" NM)(B:Bl mg):%[|3] "_law_last" AH 1 (Kx K):=by
 refine F.ok VR ?_;rintro bz f bp A outer s H _ Q E hr ⟨a,ns,st,n,rfl,hS,eQ,h0,h1,q⟩
 refine⟨_,Aa (Au (AR Jr (%[|53] (AM (pv 0))) (pv 1))
   (A5 (%[|53] (AM (pv 0))))
   Ak)
  (A5 (Ao C0 (pv 1) (Ao A8 (pv 2) Ad))),?_⟩
 have hl:%[|25].length=ns.length:=List.length_map _;refine⟨.inl hS,?_⟩;refine Ci (fun c=>?_) (fun c=>?_)
 ·exact⟨.inl hS,q _ %[|1] (by rw[hl];omega)⟩
 ·have e0:=zA0 n (show (6:Int)≠0 by decide);have e1:=zA2 n (show (0:Int)<6 by decide);exact⟨(by show (0:Int)<6;decide),q _ %[|1] %[|1]⟩
end
abbrev Oz:Stmt:=Bu 71
abbrev Kc:Stmt:=Bu 73
theorem La{zs:List Str}{k:Int}(hl:zs.length=3)(h0:0<=k)(h3:k<3):∃z∈zs,Er (zs.map V.str) k=some (.str z):=by
 have hk:k.toNat<zs.length:=by omega
 refine⟨zs[k.toNat],zCF hk,?_⟩;have e:k=((k.toNat:Nat):Int):=by omega
 have h:Er (zs.map V.str) ((k.toNat:Nat):Int)=some (.str zs[k.toNat]):=Ac (by rw[List.getElem?_map,List.getElem?_eq_getElem hk];rfl);rw[<-e] at h;exact h
theorem V5(h0:0<=k)(h3:k<3):∃z,BF z/\Er [V.str "true",.str "false",.str "doubt"] k=some (.str z):=by
 rcases (show k=((0:Nat):Int)\/k=((1:Nat):Int)\/k=((2:Nat):Int) by omega) with rfl | rfl | rfl
 ·exact⟨"true",.inl rfl,Ac (j:=0) rfl⟩
 ·exact⟨"false",.inr (.inl rfl),Ac (j:=1) rfl⟩
 ·exact⟨"doubt",.inr (.inr rfl),Ac (j:=2) rfl⟩
theorem Wm(h0:0<=k)(h3:k<2):∃z,BY z/\Er [V.str "elder",.str "newer"] k=some (.str z):=by
 rcases (show k=((0:Nat):Int)\/k=((1:Nat):Int) by omega) with rfl | rfl
 ·exact⟨"elder",.inl rfl,Ac (j:=0) rfl⟩
 ·exact⟨"newer",.inr rfl,Ac (j:=1) rfl⟩
theorem UA(h0:0<=k)(h3:k<3):∃z:%[|17],Er [V.non,.bl false,.bl true] k=some (Cz z):=by
 rcases (show k=((0:Nat):Int)\/k=((1:Nat):Int)\/k=((2:Nat):Int) by omega) with rfl | rfl | rfl
 ·exact⟨none,Ac (j:=0) rfl⟩
 ·exact⟨some false,Ac (j:=1) rfl⟩
 ·exact⟨some true,Ac (j:=2) rfl⟩
theorem Yu(h0:0<=k)(h3:k<3)(n:Str):∃(z:Str)(D:Dd),D.tup=[.str z,.str n]/\(∀m G,A0F n->D.Ok m G)/\Er [V.str "back",.str "end",.str "drop"] k=some (.str z):=by
 rcases (show k=((0:Nat):Int)\/k=((1:Nat):Int)\/k=((2:Nat):Int) by omega) with rfl | rfl | rfl
 ·exact⟨"back",.bck n,rfl,fun _ _ h=>h,Ac (j:=0) rfl⟩
 ·exact⟨"end",.edd n,rfl,fun _ _ h=>h,Ac (j:=1) rfl⟩
 ·exact⟨"drop",.drp n,rfl,fun _ _ h=>h,Ac (j:=2) rfl⟩
theorem Dd.Ok.keep{m:Nat}{H H':Hp}(s:TS H H'){D:Dd}(h:D.Ok m H):D.Ok m H':=by
 cases D with
 | beg n kd rl v t=>exact⟨h.1,h.2.1,h.2.2.1,h.2.2.2.1.keep s,h.2.2.2.2⟩
 | say k v t=>exact⟨h.1,h.2.1.keep s,h.2.2⟩
 | lrn i k=>exact h
 | frk k n=>exact h
 | bck k=>exact h
 | edd k=>exact h
 | drp k=>exact h
abbrev A0Y(H:Hp)(m:Nat):List V->List Dd->Prop:=Paired fun(v:V)(D:Dd)=>∃r,v= .ref r/\H r=some (.tup D.tup)/\D.Ok m H
theorem A0Y.keep{H H':Hp}{m:Nat}(s:TS H H'):∀{xs:List V}{Ds:List Dd},A0Y H m xs Ds->A0Y H' m xs Ds
 | _,_,.nil=>.nil
 | _,_,.cons ⟨r,e,h,o⟩ q=>.cons ⟨r,e,s _ _ h,o.keep s⟩ (A0Y.keep s q)
theorem A0Y.snoc{H:Hp}{m:Nat}{v:V}{D:Dd}(h:∃r,v= .ref r/\H r=some (.tup D.tup)/\D.Ok m H):∀{xs:List V}{Ds:List Dd},A0Y H m xs Ds->A0Y H m (xs++[v]) (Ds++[D])
 | _,_,.nil=>.cons h .nil
 | _,_,.cons x q=>.cons x (A0Y.snoc h q)
theorem A0Q.snocH{H:Hp}{m:Nat}{v:V}{t:Tr}(h:t.At H v/\t.ok m/\t.size<=20):∀{xs:List V}{ts:List Tr},A0Q H m xs ts->A0Q H m (xs++[v]) (ts++[t])
 | _,_,.nil=>.cons h .nil
 | _,_,.cons x q=>.cons x (A0Q.snocH h q)
inductive Lh(K:PySem.W.Frag)(vs:List V)(H:Hp)(Q:VK)(E:XK):Prop where
 | mk (n:Int) (nl fr:Addr) (many:Nat) (zs:List Str) (xs:List V) (ts:List Tr) (_:vs=[.int n,.ref nl,.ref fr,.int many]) (_:0<=n) (_:1<=many) (_:many<=5) (_:H nl=some (.lst (zs.map V.str))) (_:zs.length=3) (_:(∀z∈zs,A0F z)) (_:H fr=some (.lst xs)) (_:A0Q H many xs ts) (_:xs≠[]) (_:xs.length<=900) (_:∀(r:Addr)(D:Dd)(H':Hp),A0B H H'->H' r=some (.tup D.tup)->D.Ok many H'->Q (.ref r) H'):Lh K vs H Q E
inductive HU(K:PySem.W.Frag)(vs:List V)(H:Hp)(Q:VK)(E:XK):Prop where
 | mk (a:Addr) (ns:List Int) (many:Nat) (_:vs=[.ref a,.int many]) (_:SqL K H a %[|25]) (_:ns.length<=63) (_:1<=many) (_:many<=5) (_:∀(l:Addr)(xs:List V)(Ds:List Dd)(H':Hp),A0B H H'->H l=none->H' l=some (.lst xs)->A0Y H' many xs Ds->xs.length<=201->Q (.ref l) H'):HU K vs H Q E
section
variable {P:Program}{w:World}{K:PySem.W.Frag}{mg:Str->%[|4]}
def A1J:=Aw Oz ["_law_n","_law_names_here","_law_fresh","_law_many","_law_name_here","_law_way","_law_sentence_here","_law_kind"] 4
def A1A:=Aw Kc ["_law_script","_law_many","_law_names_here","_law_fresh","_law_found","_law_last_here","_law_k","_law_deed_here"] 2
theorem R5(F:%[|9] "_law_deed" Oz)(B:Bl mg)(GA:%[|3] "_law_asked" AH 2 (HQ K)):%[|3] "_law_deed" AH 3 (Lh K):=by
 refine F.ok A1J ?_;rintro bz f bp A outer s H _ Q E hr ⟨n,nl,fr,many,zs,xs,ts,rfl,hn,bS,bP,dD,hz3,hzg,cy,hF,bx,d3,q⟩
 refine⟨_,Aa (Az 4 A1J.nd (An AI (pv 1) (Ao A8 (pv 0) Ad)))
  (Aa (Az 0 A1J.nd (Ao Bj (pv 0) Ad))
  (Aa (Az 5 A1J.nd (Ao A8 (pv 0) Ad))
  (Aa (Az 0 A1J.nd (Ao Bj (pv 0) Ad))
  (Aa (Au (AR L8 (pv 5) Ad)
   (A5 (Be (Aj Ae (AS (Ao J8 (Ao A8 (pv 0) (Ao C0 (Ao C0 (pv 3) Ad) (Ao A8 (Ao Bj (pv 0) Ad) Ad))) (Ao A8 (Ao Bj (pv 0) Ad) Ad)) (An AI (Av (Aj Cc (AS C7 C7))) (Ao A8 (Ao Bj (pv 0) Ad) Ad))))))
   Ak)
  (Aa (Az 6 A1J.nd (AA GA hr Al (Aj (Ao Bj (pv 0) Ad) (AS (pv 2) (pv 3)))))
  (Aa (Au (AR L8 (pv 5) Ad)
   (Aa (Az 7 A1J.nd (An AI (Av (Aj Ae (AS Ae Ae))) (Ao A8 (pv 0) Ad)))
   (A5 (Be (Aj Ae (Aj (pv 4) (Aj (pv 7) (AS (pv 6) (An AI (Av (AS Ae Ae)) (Ao A8 (Ao Bj (pv 0) Ad) Ad)))))))))
   Ak)
  (Aa (Au (AR L8 (pv 5) Ad)
   (A5 (Be (Aj Ae (AS (pv 4) (pv 6)))))
   Ak)
  (Aa (Au (AR AF (pv 5) Ad)
   (A5 (Be (Aj Ae (AS (pv 4) (An AI (pv 1) (Ao A8 (pv 0) Ad))))))
   Ak)
  (A5 (Be (AS (An AI (Av (Aj Ae (AS Ae Ae))) (Ao J8 (pv 5) Ad)) (pv 4)))))))))))),?_⟩
 have p3:∀k:Int,0<=k%3/\k%3<3:=fun k=>⟨zA0 k %[|0],zA2 k %[|0]⟩
 have p2:∀k:Int,0<=k%2/\k%2<2:=fun k=>⟨zA0 k %[|0],zA2 k %[|0]⟩
 obtain⟨z,hzm,hza⟩:=La hz3 (p3 n).1 (p3 n).2;have hg:=hzg z hzm;refine⟨(by show (0:Int)<3;decide),SqL.of dD,hza,?_⟩;refine⟨%[|45],?_⟩;refine⟨(by show (0:Int)<16;decide),?_⟩;refine⟨%[|45],?_⟩;have hw0:0<=n / 3%16:=zA0 _ %[|0];have hw1:n / 3%16<16:=zA2 _ %[|0];have gu:0<=n / 3 / 16:=by omega
 refine Ci (fun c=>?_) (fun c=>?_)
 ·obtain⟨mk,bU⟩:=UA (p3 ((n / 3 / 16) / 7)).1 (p3 ((n / 3 / 16) / 7)).2;refine⟨%[|45],(by show (0:Int)<2;decide),?_,%[|45],(by show (0:Int)<2;decide),No,fun L hL=>⟨%[|45],(by show (0:Int)<3;decide),SqL.of A0A,bU,No,fun r hr=>?_⟩⟩
  ·have:=(p2 ((n / 3 / 16) / 97)).1;show (0:Int)<(many:Int)+1+(n / 3 / 16) / 97%2;omega
  ·exact q r (.lrn _ mk) _ ((Ab hL _).trans (Ab hr _)) A0A trivial
 refine⟨%[|45],(n / 3 / 16) / 36,fr,many,xs,ts,rfl,by omega,bS,bP,cy,hF,bx,d3,fun v t H1 s1 ha hok hsz _=>?_⟩;refine Ci (fun c=>?_) (fun c=>?_)
 ·obtain⟨kd,hkd,hka⟩:=V5 (p3 (n / 3 / 16)).1 (p3 (n / 3 / 16)).2;obtain⟨rl,dP,hra⟩:=Wm (p2 ((n / 3 / 16) / 3)).1 (p2 ((n / 3 / 16) / 3)).2;refine⟨No,fun L hL=>⟨(by show (0:Int)<3;decide),SqL.of A0A,hka,?_⟩⟩;refine⟨Cy,fun L2 hL2=>⟨%[|45],(by show (0:Int)<2;decide),SqL.of A0A,hra,SJ,fun r hr=>?_⟩⟩;have s2:=(Ab hL (.lst [V.str "true",.str "false",.str "doubt"])).trans ((Ab hL2 (.lst [V.str "elder",.str "newer"])).trans (Ab hr (.tup (Dd.beg z kd rl v t).tup)));exact q r (.beg z kd rl v t) _ (s1.trans s2) A0A ⟨hg,hkd,dP,ha.keep (TS.same s2),hok,by omega⟩
 refine Ci (fun c=>?_) (fun c12=>?_)
 ·refine⟨No,fun r hr=>?_⟩;have s2:=Ab hr (.tup (Dd.say z v t).tup);exact q r (.say z v t) _ (s1.trans s2) A0A ⟨hg,ha.keep (TS.same s2),hok,by omega⟩
 refine⟨rfl,Ci (fun c=>?_) (fun c=>?_)⟩
 ·obtain⟨z2,hzm2,hza2⟩:=La hz3 (p3 (n / 3 / 16)).1 (p3 (n / 3 / 16)).2;refine⟨(by show (0:Int)<3;decide),SqL.of (s1 _ _ dD),hza2,No,fun r hr=>?_⟩;exact q r (.frk z z2) _ (s1.trans (Ab hr _)) A0A ⟨hg,hzg z2 hzm2⟩
 ·have c12':¬n / 3%16<12:=fun e=>c12 (decide_eq_true e)
  have c13:n / 3%16≠12:=fun e=>c (decide_eq_true (by show V.int (n / 3%16)=_;rw[e]))
  obtain⟨ez,D,eD,hD,hea⟩:=Yu (k:=(n / 3%16)-13) %[|1] %[|1] z;refine⟨No,fun L hL=>⟨SqL.of A0A,hea,Cy,fun r hr=>?_⟩⟩;exact q r D _ (s1.trans ((Ab hL _).trans (Ab hr _))) (by rw[eD];exact A0A) (hD _ _ hg)
theorem PX(F:%[|9] "_law_deeds" Kc)(B:Bl mg)(HMIN:mg "min"=none)(GN:%[|3] "_law_num" AH 1 (Ls K))(GL:%[|3] "_law_last" AH 1 (Kx K))(GS:%[|3] "_law_sentence" AH 1 Ik)(GM:%[|3] "_law_names" AH 2 (IY K))(GD:%[|3] "_law_deed" AH 3 (Lh K)):%[|3] "_law_deeds" AH 4 (HU K):=by
 refine F.ok A1A ?_;rintro bz f bp A outer s H _ Q E hr ⟨a,ns,many,rfl,hS,eQ,bS,bP,q⟩
 refine⟨_,Aa (Az 2 A1A.nd (AA GM hr Al (AM (pv 0))))
  (Aa (Az 3 A1A.nd (Av (AM (AA GS hr Al (Aj (AA GN hr Al (AS (pv 0) Ad)) (AS Ad (pv 1)))))))
  (Aa (Az 4 A1A.nd (Av (AM (Be (Aj Ae (Aj (An AI (pv 2) Ad) (Aj Ae (AS (An AI (pv 3) Ad) Ae))))))))
  (Aa (Au (AR AF (Ao A8 (Ao Fb (AA GN hr Al (AS (pv 0) Ad)) (Ao ES Ad Ad)) Ad) Ad)
   (Ai (Az 4 A1A.nd (Av Bi)))
   Ak)
  (Aa (Az 5 A1A.nd (AA GL hr Al (Aj (pv 0) (AS Ad (Ao Bj (AA GN hr Al (AS (pv 0) Ad)) Ad)))))
  (Aa (Au (AR Jr (pv 1) Ad)
   (Ai (Az 5 A1A.nd (AK (Qv rfl) %[|8] HMIN boot_min (AS (pv 5) Ad))))
   Ak)
  (Aa (BZ zAV rfl (Qm %[|8] B.range (AS Ad (pv 5))) (BA 6 A1A.nd)
   (Aa (Az 7 A1A.nd (AA GD hr Al (Aj (AA GN hr Al (AS (pv 0) (pv 6))) (Aj (pv 2) (AS (pv 3) (pv 1))))))
   (Aa (Au (Cf D5 (An Am (pv 7) Ad) (Av (AS Ae Ae)) %[|28])
    (Ai (As (A7 (pv 3) (AM (AA GS hr Al (Aj (Ao Fb (AA GN hr Al (AS (pv 0) (pv 6))) (Ao ES Ad Ad)) (AS Ad (pv 1))))))))
    Ak)
   (Ai (As (A7 (pv 4) (AM (pv 7))))))))
  (A5 (pv 4)))))))),?_⟩
 refine⟨a,ns,rfl,hS,eQ,fun nl zs H1 s1 nl0 dD hz3 hznd hzg=>?_⟩;refine⟨a,ns,6,rfl,s1.seq hS,eQ,by decide,by decide,fun n0 H2 hn0 s2=>?_⟩;refine⟨n0,6,many,rfl,hn0,by decide,by decide,bS,bP,fun v t H3 s3 ha hok hsz=>?_⟩;refine⟨Rg,fun fr cy=>?_⟩;have s4:=Ab cy (.lst [v]);have fr4:upd H3 fr (.lst [v]) fr=some (.lst [v]):=A0A;generalize upd H3 fr _=H4 at *;have u4:=s1.trans (s2.trans (s3.trans s4));have nl4:=s4 _ _ (s3 _ _ (s2 _ _ dD));have fr0:H fr=none:=(s1.trans (s2.trans s3)).free cy;obtain⟨z,hzm,hza⟩:=La (k:=0) hz3 %[|0] %[|0];refine⟨SqL.of nl4,hza,SqL.of fr4,Ac (j:=0) rfl,SJ,fun r hr=>?_⟩;have s5:=Ab hr (.tup (Dd.beg z "true" "elder" v t).tup);have r5:upd H4 r (.tup (Dd.beg z "true" "elder" v t).tup) r=some (.tup (Dd.beg z "true" "elder" v t).tup):=A0A;have et:[V.str "begin",.str z,.str "true",v,.str "elder"]=(Dd.beg z "true" "elder" v t).tup:=rfl;rw[et];generalize upd H4 r _=H5 at *;refine⟨Rg,fun fo ft=>?_⟩;have s6:=Ab ft (.lst [.ref r]);have fo6:upd H5 fo (.lst [.ref r]) fo=some (.lst [.ref r]):=A0A;generalize upd H5 fo _=H6 at *;have u6:=u4.trans (s5.trans s6);have nl6:=(s5.trans s6) _ _ nl4;have fr6:=(s5.trans s6) _ _ fr4;have fo0:H fo=none:=(u4.trans s5).free ft;have nff:fo≠fr:=fun e=>by rw[e,s5 _ _ fr4] at ft;cases ft
 have nfn:fo≠nl:=fun e=>by rw[e,s5 _ _ nl4] at ft;cases ft
 have nrn:fr≠nl:=fun e=>by rw[e,s3 _ _ (s2 _ _ dD)] at cy;cases cy
 have ha6:t.At H6 v:=ha.keep (TS.same (s4.trans (s5.trans s6)));have hD6:(Dd.beg z "true" "elder" v t).Ok many H6:=⟨hzg z hzm,.inl rfl,.inl rfl,ha6,hok,by omega⟩;refine DL (fun σ H'=>∃(fo:Addr)(xs:List V)(Ds:List Dd),σ=[some (.ref a),some (.int (many:Int)),some (.ref nl),some (.ref fr),some (.ref fo),none,none,none]/\A0B H6 H'/\H fo=none/\fo≠fr/\fo≠nl/\H' fo=some (.lst xs)/\A0Y H' many xs Ds/\xs.length<=1) ?_ (fun next=>?_)
 rotate_left
 ·refine⟨a,ns,6,rfl,u6.seq hS,eQ,by decide,by decide,fun n1 H7 gR s7=>?_⟩;refine⟨%[|67],%[|45],(by show (0:Int)<4;decide),rfl,Ci (fun c=>?_) (fun c=>?_)⟩
  ·refine⟨GQ,fun f2 hf2=>?_⟩;exact next _ _ ⟨f2,[],[],rfl,s7.trans (Ab hf2 _),(u6.trans s7).free hf2,(fun e=>by rw[e,s7 _ _ fr6] at hf2;cases hf2),(fun e=>by rw[e,s7 _ _ nl6] at hf2;cases hf2),A0A,.nil,by simp⟩
  ·exact next _ _ ⟨fo,[.ref r],[_],rfl,s7,fo0,nff,nfn,s7 _ _ fo6,.cons ⟨r,rfl,s7 _ _ (s6 _ _ r5),hD6.keep (TS.same s7)⟩ .nil,by simp⟩
 rintro σ H7 ⟨fo,xs7,Ds7,rfl,s7,fo0,nff,nfn,fo7,D7,l7⟩;have u7:=u6.trans s7;refine⟨a,ns,0,rfl,u7.seq hS,eQ,by decide,by decide,fun n2 H8 gu s8=>?_⟩;refine⟨%[|45],a,ns,8,_,rfl,(u7.trans s8).seq hS,eQ,by decide,by decide,fun m fA bT=>?_⟩;refine DL (fun σ H'=>∃last:Int,0<=last/\last<=200/\σ=[some (.ref a),some (.int (many:Int)),some (.ref nl),some (.ref fr),some (.ref fo),some (.int last),none,none]/\H8=H') ?_ (fun next=>?_)
 rotate_left
 ·refine Ci (fun c=>?_) (fun c=>?_)
  ·refine⟨_,_,rfl,?_⟩;refine next _ _ ⟨_,?_,?_,rfl,rfl⟩
   ·split<;>omega
   ·split<;>omega
  ·exact next _ _ ⟨m,fA,bT,rfl,rfl⟩
 rintro σ _ ⟨last,d5,bM,rfl,rfl⟩;have u8:=u7.trans s8;have w8:=s7.trans s8;refine⟨_,_,rfl,⟨by omega,by omega,by omega,by omega⟩,B4 (lo:=8) (n:=(last-8).toNat) (fun i σ H5=>∃(v0 v1:Option V)(fs xs:List V)(je:List Tr)(Ds:List Dd),σ=[some (.ref a),some (.int (many:Int)),some (.ref nl),some (.ref fr),some (.ref fo),some (.int last),v0,v1]/\A0B H H5/\H5 nl=some (.lst (zs.map V.str))/\H5 fr=some (.lst fs)/\A0Q H5 many fs je/\fs≠[]/\fs.length<=1+i/\H5 fo=some (.lst xs)/\A0Y H5 many xs Ds/\xs.length<=1+i) ?_ ?_ ?_⟩
 ·exact⟨_,_,[v],xs7,[t],Ds7,rfl,u8,w8 _ _ nl6,w8 _ _ fr6,.cons ⟨ha6.keep (TS.same w8),hok,by omega⟩ .nil,by simp,by simp,s8 _ _ fo7,D7.keep (TS.same s8),by omega⟩
 ·rintro i σ Hi hi ⟨v0,v1,fs,xs,je,Ds,rfl,si,nli,fri,Fi,nei,li,foi,Di,xi⟩;have gQ:i<200:=by omega
  have fQ:(8:Int)+(i:Int)<=1000:=by omega
  refine⟨a,ns,_,rfl,si.seq hS,eQ,by omega,fQ,fun n5 H6' hn5 s6'=>?_⟩;refine⟨n5,nl,fr,many,zs,fs,je,rfl,hn5,bS,bP,s6' _ _ nli,hz3,hzg,s6' _ _ fri,Fi.keep (TS.same s6'),nei,by omega,fun r D H7' s7' hr7 hD7=>?_⟩;have k7:=s6'.trans s7';obtain⟨wd,hwd⟩:∃wd,D.tup[0]? = some (.str wd):=by cases D<;>exact⟨_,rfl⟩
  refine DL (fun σ H9=>∃(fs:List V)(je:List Tr),σ=[some (.ref a),some (.int (many:Int)),some (.ref nl),some (.ref fr),some (.ref fo),some (.int last),some (.int (8+(i:Int))),some (.ref r)]/\A0B H H9/\H9 nl=some (.lst (zs.map V.str))/\H9 fr=some (.lst fs)/\A0Q H9 many fs je/\fs≠[]/\fs.length<=1+(i+1)/\H9 fo=some (.lst xs)/\A0Y H9 many xs Ds/\H9 r=some (.tup D.tup)/\D.Ok many H9) ?_ (fun next=>?_)
  ·rintro σ H9 ⟨fs9,fts9,rfl,s9,nl9,fr9,F9,ne9,l9,fo9,D9,r9,o9⟩;refine⟨.inl ⟨rfl,_,SqL.of fo9⟩,fo9,Ar %[|1],?_⟩;have g8:TS H9 (upd H9 fo (.lst (xs++[.ref r]))):=TS.lst fo9;exact⟨_,_,fs9,xs++[.ref r],fts9,Ds++[D],rfl,Ap s9 fo0 _,(Af nfn.symm).trans nl9,(Af nff.symm).trans fr9,F9.keep g8,ne9,l9,A0A,(D9.keep g8).snoc ⟨r,rfl,g8 _ _ r9,o9.keep g8⟩,by rw[zA];show xs.length+1<=_;omega⟩
  ·refine⟨SqT.of hr7,Ac (j:=0) hwd,Cy,fun L hL=>?_⟩;have s8':=Ab hL (.lst [V.str "say",.str "begin"]);refine⟨L,_,rfl,.inl (SqL.of A0A),rfl,rfl,?_⟩;generalize upd H7' L _=H8' at *;have k8:=k7.trans s8';have fr8:=k8 _ _ fri;have fo8:=k8 _ _ foi;refine Ci (fun c=>?_) (fun c=>?_)
   ·refine⟨.inl ⟨rfl,_,SqL.of fr8⟩,a,ns,_,rfl,(si.trans k8).seq hS,eQ,by omega,fQ,fun n6 H9 hn6 s9=>?_⟩;refine⟨%[|67],%[|45],_,6,many,rfl,zC hn6 %[|0],by decide,by decide,bS,bP,fun v9 t9 dC eB ha9 hok9 hsz9=>?_⟩;have iE:=k8.trans (s9.trans eB);have fr10:=iE _ _ fri;refine⟨fr10,Ar %[|1],?_⟩;have g8:TS dC (upd dC fr (.lst (fs++[v9]))):=TS.lst fr10;have r10:=(s8'.trans (s9.trans eB)) _ _ hr7;have o10:=hD7.keep (TS.same (s8'.trans (s9.trans eB)));exact next _ _ ⟨fs++[v9],je++[t9],rfl,Ap (si.trans iE) fr0 _,(Af nrn.symm).trans (iE _ _ nli),A0A,A0Q.snocH ⟨ha9.keep g8,hok9,by omega⟩ ((Fi.keep (TS.same iE)).keep g8),by simp,by rw[zA];show fs.length+1<=_;omega,(Af nff).trans (iE _ _ foi),(Di.keep (TS.same iE)).keep g8,g8 _ _ r10,o10.keep g8⟩
   ·exact next _ _ ⟨fs,je,rfl,si.trans k8,k8 _ _ nli,fr8,Fi.keep (TS.same k8),nei,by omega,fo8,Di.keep (TS.same k8),s8' _ _ hr7,hD7.keep (TS.same s8')⟩
 ·rintro σ Hi ⟨v0,v1,fs,xs,je,Ds,rfl,si,nli,fri,Fi,nei,li,foi,Di,xi⟩;exact q fo xs Ds Hi si fo0 foi Di %[|1]
end
section
variable {X:Cx}
inductive Yc(K:PySem.W.Frag)(r:Bool)(x:V)(y:V)(H:Hp)(Q:VK):Prop where
 | mk (a b xs) (_:x= .ref a) (_:y= .ref b) (_:SqL K H a xs) (_:SqL K H b xs) (_:(∀v∈xs,∃z,v=V.str z)) (_:Q (.bl r) H):Yc K r x y H Q
theorem OX{A:Around}{pins:%[|14]}{σ:L2.St}{H:Hp}{s:Shared}{xs:List V}{its bH:%[|7]}(q1:Vals xs its)(q2:Vals xs bH)(hr:∀v∈xs,∃z,v=V.str z)(j:Nat)(j1:j<its.toArray.size)(j2:j<bH.toArray.size):SeqAt.EqAt A s its.toArray[j] bH.toArray[j] true:=by
 have l1:=q1.length;have l2:=q2.length;have j1':j<its.length:=by simpa using j1
 have j2':j<bH.length:=by simpa using j2
 have iI:xs[j]? = some xs[j]:=List.getElem?_eq_getElem %[|1];obtain⟨z,hz⟩:=hr xs[j] (zCF %[|1]);obtain⟨u1,e1,ru1⟩:=q1.get iI;obtain⟨u2,e2,ru2⟩:=q2.get iI;rw[hz] at ru1 ru2;obtain⟨t1,rfl⟩:=ru1;obtain⟨t2,rfl⟩:=ru2
 have e1':its.toArray[j]=Value.str z t1:=by
  have:=List.getElem?_eq_getElem j1';rw[this] at e1
  simpa using zAK e1
 have dR:bH.toArray[j]=Value.str z t2:=by
  have:=List.getElem?_eq_getElem j2';rw[this] at e2
  simpa using zAK e2
 rw[e1',dR];have:=zDH (A:=A) (s:=s) z t1 z t2;rw[beq_self_eq_true] at this;exact this
theorem Xl(hu:X.A.units+9<cLine):C3 X (compareOp .NotEq) (Yc X.K false):=by
 exists 3;obtain⟨a,b,xs,rfl,rfl,h1,h2,hr,q⟩:=h;cases rx;cases ry;obtain⟨its,q1,pl,_⟩:=I.list h1;obtain⟨bH,q2,pl2,_⟩:=I.list h2;have l1:=q1.length;have l2:=q2.length;refine SeqAt.RcNeAt.lists (e:=fun _=>true) pl.isList pl2.isList (by simp;omega) %[|1] (OX (pins:=pins) (σ:=σ) (H:=H) q1 q2 hr) _ _ _ _ ?_;rw[Hx];exact⟨.bl false,H,I,rfl,q⟩
theorem YH(hu:X.A.units+9<cLine):C3 X (compareOp .Eq) (Yc X.K true):=by
 exists 3;obtain⟨a,b,xs,rfl,rfl,h1,h2,hr,q⟩:=h;cases rx;cases ry;obtain⟨its,q1,pl,_⟩:=I.list h1;obtain⟨bH,q2,pl2,_⟩:=I.list h2;have l1:=q1.length;have l2:=q2.length;refine zDM (e:=fun _=>true) pl.isList pl2.isList (by simp;omega) %[|1] (OX (pins:=pins) (σ:=σ) (H:=H) q1 q2 hr) _ _ _ _ ?_;rw[Hx];exact⟨.bl true,H,I,rfl,q⟩
end
def A1V(M:%[|6])(H:Hp):Prop:=∀b∈M,∀ys,H b≠some (.tup ys)
theorem A1V.keep(s:A0B H H')(fr:∀b∈M,H b≠none)(h:A1V M H):A1V M H':=fun b hb ys e=>by
 cases e2:H b with
 | none=>exact fr b hb e2
 | some o=>
  rw[s _ _ e2] at e;exact h b hb ys (by rw[e2,e])
theorem A1V.ts(h:A1V M H):TS H (A6 M H):=fun p ys e=>AW e fun z=>h p z ys e
theorem Tp(m:Nat)(wd:Int):DE (List.replicate m none) wd=true:=by
 unfold DE;rw[zCG];intro b hb;rw[List.mem_mapIdx] at hb;obtain⟨i,hi,rfl⟩:=hb;rw[List.getElem_replicate];rfl
theorem Qk(s5:A0B H4 H5)(hx:H4 x=none)(tk4:H4 U.tk=none)(ln4:H4 U.ln=none)(dZ:U.sp≠x)(nmkx:U.mks≠x)(bS:1<=m)(bP:m<=5)(bx:AY m ts≠[])(hx5:H5 x=some (.ins C U.dx (Ey U m)))(gd:AL H5 U.sp (AY m ts))(fH:H5 U.mks=some %[|64])(eX:H5 U.tk=some (.dK []))(eY:H5 U.ln=some (.lst [.str (BD m ts)])):
  A0C [x,U.ln,U.tk] C cK H5 ⟨x,U,m,AY m ts,List.replicate m none,[.str (BD m ts)],[]⟩/\A0B H4 (A6 [x,U.ln,U.tk] H5)/\A1V [x,U.ln,U.tk] H5:=by
 have nsl:U.sp≠U.ln:=fun e=>by
  have h1:H5 U.sp=some (.lst ((AY m ts).map V.int)):=gd;rw[e,eY] at h1;have h2:=zAK h1;injection h2 with h2
  cases hr0:AY m ts with
  | nil=>exact bx hr0
  | cons k0 _=>rw[hr0] at h2;injection h2 with h2;cases h2
 have nml:U.mks≠U.ln:=fun e=>by
  rw[e,eY] at fH;have h2:=zAK fH;injection h2 with h2
  match m,bS,h2 with
  | k+1,_,h2=>rw[zBG] at h2;injection h2 with h2;cases h2
 have nst:U.sp≠U.tk:=AT gd eX %[|11];have nmt:U.mks≠U.tk:=AT fH eX %[|11]
 have notN:∀{b:Addr},b≠x->b≠U.ln->b≠U.tk->b∉[x,U.ln,U.tk]:=fun h1 h2 h3 hb=>by
  simp only[zAC,zAA,or_false] at hb;rcases hb with h | h | h
  ·exact h1 h
  ·exact h2 h
  ·exact h3 h
 have fne:(AY m ts).filter (DE (List.replicate m none))≠[]:=by
  rw[List.filter_eq_self.mpr fun wd _=>Tp m wd];exact bx
 refine⟨⟨⟨hx5,eY,by simp,by simp,AW gd (notN dZ nsl nst),AW (by rw[fH,List.map_replicate];rfl) (notN nmkx nml nmt),zC8,bS,bP,Hs bP ts,fne,by show 1<=900;decide⟩,eX,by simp,(fun p hp=>nomatch hp),by show[U.ln].Nodup;simp,zBI,zBI,fun b hb=>?_,by show 0<=900;decide⟩,fun b o e=>AW (s5 _ _ e) fun z=>?_,fun b hb ys e=>?_⟩
 ·simp only[zAC,zAA,or_false] at hb;rcases hb with rfl | rfl | rfl
  ·rw[hx5];intro z;cases z
  ·rw[eY];intro z;cases z
  ·rw[eX];intro z;cases z
 ·simp only[zAC,zAA,or_false] at z;rcases z with rfl | rfl | rfl
  ·rw[hx] at e;cases e
  ·rw[ln4] at e;cases e
  ·rw[tk4] at e;cases e
 ·simp only[zAC,zAA,or_false] at hb;rcases hb with rfl | rfl | rfl
  ·rw[hx5] at e;cases e
  ·rw[eY] at e;cases e
  ·rw[eX] at e;cases e
theorem A0Y.get{H:Hp}{m:Nat}:∀{xs:List V}{Ds:List Dd}{i:Nat}{v:V},A0Y H m xs Ds->xs[i]? = some v->∃(D:Dd)(r:Addr),v= .ref r/\H r=some (.tup D.tup)/\D.Ok m H
 | _,_,0,_,.cons ⟨r,e,h⟩ _,hv=>⟨_,r,by rw[<-zAK hv];exact e,h⟩
 | _,_,i+1,_,.cons _ q,hv=>A0Y.get (i:=i) q hv
abbrev X8:Stmt:=Bu 87
inductive LA(K:PySem.W.Frag)(vs:List V)(H:Hp)(Q:VK)(E:XK):Prop where
 | mk (a:Addr) (ns:List Int) (_:vs=[.ref a]) (_:SqL K H a %[|25]) (_:ns.length<=63) (_:∀H',Q (.bl true) H'):LA K vs H Q E
section
variable {cH cK cS cW:Addr}
def A1P:=Aw X8 ["_law_script","_law_many","_law_standing_here","_law_handed","_law_house","_law_state_here","_law_deed_here","_law_due_here","_law_told"] 1
theorem YL(F:Fun K "law" "law" X8 f fd)(B:Bl mg)(T:Fz mg)(HX:K9 K cH)(GN:%[|3] "_law_num" AH 1 (Ls K))(GM:%[|3] "_law_few" AH 1 SQ)(GD:%[|3] "_law_standing" AH 25 DF)(GS:%[|3] "_law_state" AH 26 Ii)(GE:%[|3] "_law_deeds" AH 4 (HU K))(GO:%[|3] "_law_modelled" AH 27 D2)(GR:%[|3] "_law_done" AH 10 (Iy cH cK))(GT:%[|3] "_law_outcome_is" AH 1 Od)(GI:Fi P w K mg cH "House" (Cb P w) 5 (K2 cH cS cW))(G1:%[|16] "log" AH 1 (Oe cH)):Ew P w K mg bz AH 28 f fd ["_law_script"] (LA K):=by
 refine F.ok A1P ?_;rintro bp A outer s H _ Q E hr ⟨a,ns,rfl,hS,eQ,q⟩;have cr:A0J 1 _:=hr.mono %[|0]
 refine⟨_,Aa (Az 1 A1P.nd (AA GM cr Al (AM (AA GN cr Al (AS (pv 0) Ad)))))
  (Aa (Az 2 A1P.nd (AA GD hr Al (AS (AA GN cr Al (AS (pv 0) Ad)) (pv 1))))
  (Aa (Az 3 A1P.nd (%[|58] (AM (pv 2))))
  (Aa (Az 4 A1P.nd (Xi GI hr TM (AS (pv 1) (pv 3))))
  (Aa (As (DA zBD PySem.F.slot_list_insert PySem.F.type_list_insert Ra (pv 3) (AS Ad (Be (AS Ae Ad)))))
  (Aa (As (A7 (pv 3) (AM (Be (AS Ae (Be (AS Ae Ad)))))))
  (Aa (Az 5 A1P.nd (AA GS hr Al (AS (pv 1) (pv 2))))
  (Aa (Au (AR (Xl hr.units9) (DR (pv 4) HX.cl G1 cr Al) (An AE (pv 5) Ae))
   (A5 C7)
   Ak)
  (Aa (BZ zAV rfl (AX (AA GE hr Al (AS (pv 0) (pv 1)))) (BA 6 A1P.nd)
   (Aa (Az 7 A1P.nd (AA GO hr Al (AS (pv 5) (pv 6))))
   (Aa (Au (CB (Bv (AA GT cr Al (AS (AA GR hr Al (AS (pv 4) (pv 6))) (pv 7)))))
    (A5 C7)
    Ak)
   (Aa (Az 8 A1P.nd (DR (pv 4) HX.cl G1 cr Al))
   (Aa (Au (O2 (AR Gn (%[|53] (AM (pv 8))) (%[|53] (AM (An AE (pv 5) Ae)))) (Ld (AR Gn (An AI (pv 8) (HF EX Ad)) (An AI (An AE (pv 5) Ae) (HF EX Ad))))).pt
    (A5 C7)
    Ak)
   (Ai (As (A7 (pv 8) (AM Ae)))))))))
  (A5 (Bx (YH hr.units9) (DR (pv 4) HX.cl G1 cr Al) (An AE (pv 5) Ae) (Cd _))))))))))),?_⟩
 refine⟨a,ns,0,rfl,hS,eQ,by decide,by decide,fun n0 H0 hn0 s0=>?_⟩;refine⟨_,rfl,hn0,fun m H1 bS bP s1=>?_⟩;have t1:=s0.trans s1;refine⟨a,ns,1,rfl,t1.seq hS,eQ,by decide,by decide,fun n1 H2 gR s2=>?_⟩;have t2:=t1.trans s2;refine⟨n1,m,rfl,gR,bS,bP,fun st xs ts H3 s3 st0 bW hP hok bo bx=>?_⟩;have t3:=t2.trans s3;have bB:=hP.len;have f9:∀t∈ts,t.ok 5/\t.size<=23:=fun t ht=>⟨(hok t ht).2.1,(hok t ht).2.2⟩
 refine⟨.inl (SqL.of bW),fun hd hhd=>?_⟩;have s4:=Ab hhd (.lst xs);have hd4:upd H3 hd (.lst xs) hd=some (.lst xs):=A0A;have nst:st≠hd:=fun e=>by rw[<-e,bW] at hhd;cases hhd
 generalize upd H3 hd (.lst xs)=H4 at *;have t4:=t3.trans s4;refine fun x dx hx gH gJ=>?_
 have sM:A0B H4 (upd (upd H4 dx (.own x)) x (.ins cH dx [])):=(Ab gH _).trans (Ab (by rw[Af gJ.symm];exact hx) _);refine⟨x,dx,hd,m,xs,ts,rfl,A0A,sM _ _ hd4,A0I.keep (TS.same (s4.trans sM)) hP,f9,by omega,bS,bP,fun⟨t,ht,hn⟩=>absurd (hok t ht).1 hn,fun _ he=>absurd he bx,fun _ _ U H5 b5 gY i9 tk0 ln0 hx5 gd fH eX eY=>⟨rfl,?_⟩⟩;have s5:A0B H4 H5:=CN hx gH gJ b5;obtain⟨sp4,dZ,_⟩:=B3 (C:=cH) gY;obtain⟨mk4,nmkx,_⟩:=B3 (C:=cH) i9;obtain⟨ln4,nlnx,_⟩:=B3 (C:=cH) ln0;obtain⟨tk4,ntkx,_⟩:=B3 (C:=cH) tk0;obtain⟨g6,_,nt5⟩:=Qk (C:=cH) (cK:=cK) s5 hx tk4 ln4 dZ nmkx bS bP bx hx5 gd fH eX eY;have neh:∀{b:Addr},H4 b=none->b≠hd:=fun h0 e=>by rw[e,hd4] at h0;cases h0
 have hT5':=LW (hd:=hd) g6 rfl (neh sp4) (neh mk4) (by rw[s5 _ _ hd4];intro z;cases z);clear g6 hx5 gd fH eX eY gY i9 tk0 ln0 b5 sM
 have nhs:hd∉CS %[|81]:=fun z=>by
  have z:hd∈[x,U.ln,U.tk]:=z;simp only[zAC,zAA,or_false] at z;rcases z with z | z | z
  ·exact neh hx z.symm
  ·exact neh ln4 z.symm
  ·exact neh tk4 z.symm
 have hd5:=s5 _ _ hd4;have iO:=s5 _ _ (s4 _ _ bW);have hP5:A0I H5 xs ts:=hP.keep (TS.same (s4.trans s5));have S5:=(t4.trans s5).seq hS;refine⟨.inl ⟨rfl,_,SqL.of hd5⟩,Cy,fun p1 fz=>?_⟩;have s6:=Ab fz (.tup [.str "let",.int 0]);generalize upd H5 p1 _=H6 at *;refine⟨hd,xs,0,0,.ref p1,rfl,rfl,rfl,s6 _ _ hd5,zA5 _,by omega,?_⟩;have hT7:=(hT5'.keep s6).poke (o:=.lst (xs.take 0++.ref p1::xs.drop 0)) List.mem_cons_self nhs;have s37:A0B H3 (upd H6 hd (.lst (xs.take 0++.ref p1::xs.drop 0))):=Ap (s4.trans (s5.trans s6)) hhd _;have hd7:upd H6 hd (.lst (xs.take 0++.ref p1::xs.drop 0)) hd=some (.lst (xs.take 0++.ref p1::xs.drop 0)):=A0A;have l7:(xs.take 0++.ref p1::xs.drop 0).length<=1000:=by simp;omega
 generalize upd H6 hd _=H7 at *;refine⟨.inl ⟨rfl,_,SqL.of hd7⟩,Cy,fun p2 eA=>?_⟩;have s8:=Ab eA (.tup [.str "let",.int 0]);generalize upd H7 p2 _=H8 at *;refine⟨Cy,fun p3 i5=>?_⟩;have s9:=Ab i5 (.tup [.str "not",.ref p2]);generalize upd H8 p3 _=H9 at *;have s79:=s8.trans s9;refine⟨s79 _ _ hd7,Ar l7,?_⟩;generalize (xs.take 0++.ref p1::xs.drop 0)=hxs at *;have hT10:=(hT7.keep s79).poke (o:=.lst (hxs++[.ref p3])) List.mem_cons_self nhs;have s310:A0B H3 (upd H9 hd (.lst (hxs++[.ref p3]))):=Ap (s37.trans s79) hhd _;have hd10:upd H9 hd (.lst (hxs++[.ref p3])) hd=some (.lst (hxs++[.ref p3])):=A0A;generalize upd H9 hd _=dC at *;refine⟨st,m,xs,ts,rfl,s310 _ _ bW,hP.keep (TS.same s310),f9,by omega,bS,bP,fun zt r mk tl ln eT fR zt0 r0 i9 tl0 zl0 hzt d7 bU fG hzl=>?_⟩;have b0:=Tl (m:=m) (ts:=ts) hT10 rfl rfl rfl rfl rfl fR zt0 r0 i9 tl0 zl0 hzt d7 bU fG hzl
 have nt11:A1V (zt::tl::ln::hd::[x,U.ln,U.tk]) eT:=fun b hb ys e=>by
  rcases List.mem_cons.mp hb with rfl | hb
  ·rw[hzt] at e;cases e
  rcases List.mem_cons.mp hb with rfl | hb
  ·rw[fG] at e;cases e
  rcases List.mem_cons.mp hb with rfl | hb
  ·rw[hzl] at e;cases e
  rcases List.mem_cons.mp hb with rfl | hb
  ·rw[fR _ _ hd10] at e;cases e
  exact Te b0.h e (by exact hb)
 clear hT5' hT7 hT10 hzt d7 bU fG hzl;have S11:=(t3.trans (s310.trans fR)).seq hS;generalize hMM:(zt::tl::ln::hd::[x,U.ln,U.tk])=M0 at *;have ex0:%[|81].x=x:=rfl;have ez0:(Jg zt r mk tl ln m ts).st=zt:=rfl;have em0:%[|81].m=m:=rfl;generalize %[|81]=S0 at *;generalize Jg zt r mk tl ln m ts=Z0 at *;subst ex0;subst ez0;refine⟨b0.h.h.ob,N7,S0.x,M0,S0.U,S0.m,S0.room,S0.marks,S0.ls,rfl,b0.h.h,fun l0 iB cF l00 d5=>?_⟩;have b1:=b0.keep cF;refine⟨b1.z.ob,BK,l0,Z0.ln,S0.ls,rfl,rfl,SqL.of d5,SqL.of (by rw[b1.z.ln,b1.y.ls]),b1.sl.choose_spec.choose_spec.2,Aq ?_⟩;refine⟨a,ns,m,rfl,cF.seq S11,eQ,bS,bP,fun dl dxs Ds fS cY dl0 gC hDs hdn=>?_⟩;have b2:=b1.keep cY;have dlM:dl∉M0:=fun z=>b1.h.fr dl z dl0
 have nt13:A1V M0 fS:=nt11.keep (cF.trans cY) (b0.h.fr);have ts13:=nt13.ts;have dl13:A6 M0 fS dl=some (.lst dxs):=AW gC dlM;have D13:A0Y (A6 M0 fS) m dxs Ds:=hDs.keep ts13;clear hDs gC nt13 ts13 nt11 b1 b0;have hdn':dxs.length<=201:=hdn;refine⟨⟨_,SqL.of (Ay _ _ dl13)⟩,Bf (K:=K) (a:=dl) (xs:=dxs) (fun i σ Hi=>∃(v0 v1 v2:Option V)(M:%[|6])(S:HSt)(Z:Mz),σ=[some (.ref a),some (.int (m:Int)),some (.ref st),some (.ref hd),some (.ref S0.x),some (.ref Z0.st),v0,v1,v2]/\A1I cH cK M Hi S Z i/\A0B (A6 M0 fS) (A6 M Hi)/\S.x=S0.x/\Z.st=Z0.st/\S.m=m) ⟨_,_,_,M0,S0,Z0,rfl,b2,A0B.refl _,rfl,rfl,em0⟩ ?_ ?_ ?_⟩
 ·rintro i σ Hi _ ⟨v0,v1,v2,M,S,Z,rfl,bb,sc,ex,ez,em⟩;exact SqL.of (Ay _ _ (sc _ _ dl13))
 ·rintro i y σ Hi hy ⟨v0,v1,v2,M,S,Z,rfl,bb,sc,ex,ez,em⟩;have hi:i<dxs.length:=(List.getElem?_eq_some_iff.mp hy).1;have hi9:i<890:=by omega
  obtain⟨D,da,rfl,hda,hDk⟩:=A0Y.get D13 hy;have hda1:=sc _ _ hda;have hD1:D.Ok m (A6 M Hi):=hDk.keep (TS.same sc);refine⟨M,Z,D,da,by rw[ez];rfl,Ay _ _ hda1,bb.z,bb.h.fr,bb.zok hi9,by rw[bb.y.m,em];exact hD1,fun r xm M1 Hm Z1 cr iI g1=>?_⟩;have hf:=bb.half g1;rw[A1I.step bb.y] at cr iI;have da1:=g1.s _ _ hda1;have hD2:=hD1.keep (TS.same g1.s);have s1m:=sc.trans g1.s;clear g1;refine⟨M1,S,D,da,by rw[ex];rfl,Ay _ _ da1,hf.h,hf.hok hi9,by rw[em];exact hD2,fun r2 x2 M2 Hh S2 dN hx2 g2=>?_⟩;have bn:=hf.both (by rw[em];exact hD2) g2;refine⟨r2,r,x2,xm,_,_,rfl,dN,g2.tup hf.h cr,hx2,g2.told hf.h iI,Aq ?_⟩;have s2m:=s1m.trans g2.s;have ex2:S2.x=S0.x:=g2.x.trans ex;have ez2:Z1.st=Z0.st:=hf.st.trans ez;have em2:S2.m=m:=g2.m.trans em;clear g2 hf cr iI dN hx2;refine⟨by rw[<-ex2];exact bn.h.h.ob,N7,S2.x,M2,S2.U,S2.m,S2.room,S2.marks,S2.ls,by rw[ex2];rfl,bn.h.h,fun l1 H20 s20 l10 cx=>?_⟩;have b3:=bn.keep s20;obtain⟨ll,lz,ell,_⟩:=b3.sl;have lnz:H20 Z1.ln=some (.lst S2.ls):=by rw[b3.z.ln,b3.y.ls]
  have lat:Er S2.ls (-1)=some (.str lz):=by rw[ell];exact IA _ _
  have zob:=b3.z.ob;rw[ez2] at zob;refine⟨.inl (SqL.of cx),zob,BK,.inl (SqL.of lnz),rfl,?_⟩;rw[decide_eq_true rfl];refine Aq ?_;refine⟨_,rfl,SqL.of cx,lat,zob,BK,_,rfl,SqL.of lnz,lat,rfl,?_⟩;rw[decide_eq_true rfl];refine Aq ?_;refine⟨.inl ⟨rfl,_,SqL.of cx⟩,cx,Ar (by have:=b3.ls;omega),?_⟩;have s21:A0B Hh (upd H20 l1 (.lst (S2.ls++[.str "end a"]))):=Ap s20 l10 _;exact⟨_,_,_,M2,S2,Z1,rfl,bn.keep s21,s2m.trans (Ag s21),ex2,ez2,em2⟩
 ·rintro σ Hi ⟨v0,v1,v2,M,S,Z,rfl,bb,sc,ex,ez,em⟩;refine⟨by rw[<-ex];exact bb.h.h.ob,N7,S.x,M,S.U,S.m,S.room,S.marks,S.ls,by rw[ex];rfl,bb.h.h,fun l1 H20 s20 l10 cx=>?_⟩;have b3:=bb.keep s20;refine⟨by rw[<-ez];exact b3.z.ob,BK,l1,Z.ln,S.ls,rfl,rfl,SqL.of cx,SqL.of (by rw[b3.z.ln,b3.y.ls]),b3.sl.choose_spec.choose_spec.2,q _⟩
end
theorem tkx{K:PySem.W.Frag}(a:PySem.W.plainGet K c Str.empty=true)(b:PySem.W.hasDictIn K c=true)(d:PySem.W.plainOver K c=true)(e:findIn K (.ref c) "__setattr__"=some (some (.builtin "object.__setattr__")))(w0:findIn K (.ref c) "many"=some none)(w1:findIn K (.ref c) "kind"=some none)(w2:findIn K (.ref c) "sentence"=some none)(w3:findIn K (.ref c) "rule"=some none)(w4:findIn K (.ref c) "space"=some none)(w5:findIn K (.ref c) "parts"=some none)(w6:findIn K (.ref c) "given"=some none)(w7:findIn K (.ref c) "left"=some none)(w8:findIn K (.ref c) "ended"=some none):LR K c:=⟨⟨a,b,d,e⟩,w0,w1,w2,w3,w4,w5,w6,w7,w8⟩
theorem hsx{K:PySem.W.Frag}(a:PySem.W.plainGet K c Str.empty=true)(b:PySem.W.hasDictIn K c=true)(d:PySem.W.plainOver K c=true)(e:findIn K (.ref c) "__setattr__"=some (some (.builtin "object.__setattr__")))(w0:findIn K (.ref c) "space"=some none)(w1:findIn K (.ref c) "many"=some none)(w2:findIn K (.ref c) "marks"=some none)(w3:findIn K (.ref c) "talks"=some none)(w4:findIn K (.ref c) "lines"=some none):K9 K c:=⟨⟨a,b,d,e⟩,w0,w1,w2,w3,w4⟩
theorem fx{K:PySem.W.Frag}{st:Stmt}{kV dc pm cd ct:Value}(X:K.In h)(G:h.Ns mainGlobals mg)(a:nsIn K mainGlobals n=some (some (.ref f)))(l:K.lookup f=some ⟨oc,od,.func (PySem.W.fnOf n n (Dr st) (Cp st) (A9 st) .none kV dc pm an cd ct),sl⟩)(c:PySem.W.codeIn K cd n=true)(k:keepIn K (.ref f)=true):%[|9] n st:=⟨_,_,RY l c k,mg_of X G a,k⟩
theorem mx{K:PySem.W.Frag}{st:Stmt}{kV dc pm cd ct:Value}(a:findIn K (.ref C) n=some (some (.ref f)))(i:PySem.W.isFn K (.ref f)=true)(l:K.lookup f=some ⟨oc,od,.func (PySem.W.fnOf n q (Dr st) (Cp st) (A9 st) .none kV dc pm an cd ct),sl⟩)(c:PySem.W.codeIn K cd q=true)(k:keepIn K (.ref f)=true):%[|37] C n q st:=⟨_,_,RY l c k,a,i,k⟩
def KF(K:PySem.W.Frag)(mg:Str->%[|4])(n:Str)(c:Addr):Prop:=mg n=some (.ref c)/\PySem.W.makesIn K c=true/\keepIn K (.ref c)=true
theorem kf{K:PySem.W.Frag}(X:K.In h)(G:h.Ns mainGlobals mg)(a:nsIn K mainGlobals n=some (some (.ref c)))(b:PySem.W.makesIn K c=true)(k:keepIn K (.ref c)=true):KF K mg n c:=⟨mg_of X G a,b,k⟩
theorem fi{K:PySem.W.Frag}{st:Stmt}(t:KF K mg cn C)(h:%[|37] C "__init__" q st):FI P w K mg C cn q st:=by
 obtain⟨f,d,F,m⟩:=h;exact⟨f,d,F,⟨t.2.1,m.at_,m.fn,t.2.2⟩,t.1⟩
theorem tx{K:PySem.W.Frag}(X:K.In h)(G:h.Ns mainGlobals mg)(zV:mg "ValueError"=none)(zI:mg "isinstance"=none)(xTn:nsIn K mainGlobals "TalkError"=some (some (.ref cT)))(xTc1:clsIn K cT=some XDT)(xTt:typeIn K (.ref cT)=some (.type "type"))(xTbse:mroIn K cT (.type "BaseException")=some true):YU K mg cT:=⟨mg_of X G xTn,xTt,by rw[xTc1];rfl,xTbse,zV,zI⟩
theorem ox{K:PySem.W.Frag}(X:K.In h)(G:h.Ns mainGlobals mg)(xTl:K.lookup cT=some ⟨.type "type",xTdd,.cls { name:=xTnm,bases:=xTbs,mro:=.ref cT::Lo,ns:=NT,qualname:=xTq,hasDict:=xThd,slotNames:=xTsn,subclasses:=xTsub,abstract:=xTab,collection:=xTcol,hasDel:=false },#[xTa,xTb,xTc,xTd,xTe,xTf]⟩)(xTm:K.lookup NT=some ⟨xToc,xTod,.dict xTes xTep,xTsl⟩)(nTs:(xTes.all (fun e=>match e.key with | .str _ _=>true | _=>false))=true)(xTi:nsIn K NT "__init__"=some none)(nuV:PySem.W.kitMeta "ValueError"=true)(xcg:PySem.W.specialIn K (.builtin "object.__class__") "__get__"=some (some (.builtin "getset_descriptor.__get__")))(xct:PySem.W.takesIn K (.builtin "object.__class__")=some true)(xn0:nsIn K mainGlobals nm=some (some (.ref C)))(xl0:K.lookup C=some (excClassObj xnm0 xq0 C NC xbs0 (.ref cT::Lo) true xsn0 xsub0 xab0 xcol0 xdd0 xka0 xkb0 xkc0 xkd0 xkf0 "ValueError.__new__"))(xm0:K.lookup NC=some ⟨xoc0,xod0,.dict xes0 xep0,xsl0⟩)(nxs0:(xes0.all (fun e=>match e.key with | .str _ _=>true | _=>false))=true)(xi0:nsIn K NC "__init__"=some none)(xkp0:keepIn K (.ref C)=true)(xcd0:clsIn K C=some XD0)(nxm0:XD0.mro= .ref C::.ref cT::Lo)(nxd0:XD0.hasDict=true)(xsa0:findIn K (.ref C) "__setattr__"=some (some (.builtin "object.__setattr__")))(xga0:findIn K (.ref C) "__getattribute__"=some (some (.builtin "BaseException.__getattribute__")))(xgn0:findIn K (.ref C) "__getattr__"=some none)(xca0:findIn K (.ref C) "__class__"=some (some (.builtin "object.__class__")))(xt0:typeIn K (.ref C)=some (.type "type"))(xb0:mroIn K C (.type "BaseException")=some true)(xs0:mroIn K C (.ref C)=some true)(xu0:mroIn K C (.ref cT)=some true)(xv0:PySem.W.subIn K (.ref C) (.type "ValueError")=some true):BE K mg nm C cT:=⟨⟨⟨_,xcd0,nxm0,nxd0⟩,xsa0,xga0,xgn0,xca0,xcg,xct⟩,RS xl0 xm0 nxs0 xi0 xTl xTm nTs xTi xkp0,mg_of X G xn0,xt0,by rw[xcd0];rfl,xb0,xs0,xu0,Xx nuV xv0⟩
theorem all_mk{l:PySem.W.OpenLaw}{w:World}{K:PySem.W.Frag}{h:Heap}{mg:Str->%[|4]}{fa:Addr}{dJ:Addr}{tL t1 t2 t3 t4 t5 t6 t7 t8:Tok}{ep:Nat}{dM:Addr}{tm1 tm2 tm3:Tok}{epM:Nat}{tNS tLN:Tok}(X:K.In h)(G:h.Ns mainGlobals mg)(hfa:mg "law"=some (.ref fa))(h1:%[|10] "_law_num" Xy)(h2:%[|10] "_law_few" W3)(h3:%[|10] "_law_worlds" HK)(h4:%[|10] "_law_sentence" Sv)(h5:%[|10] "_law_true" IT)(h6:%[|10] "_law_ins" Rq)(h7:%[|10] "_law_standing" ER)(h8:%[|10] "_law_shown" TF)(h9:%[|10] "_law_room_of" HI)(h10:%[|10] "_law_state" JY)(h11:%[|10] "_law_last" NM)(h12:%[|10] "_law_name" Ng)(h13:%[|10] "_law_names" Lf)(h14:%[|10] "_law_asked" Kk)(h15:%[|10] "_law_deed" Oz)(h16:%[|10] "_law_deeds" Kc)(h17:%[|10] "_law_seen_by" IU)(h18:%[|10] "_law_learnt" FS)(h19:%[|10] "_law_find" NY)(h20:%[|10] "_law_begun" KU)(h21:%[|10] "_law_forked" Ic)(h22:%[|10] "_law_plain" Ke)(h23:%[|10] "_law_stands" IB)(h24:%[|10] "_law_due" Sz)(h25:%[|10] "_law_due_in" Kq)(h26:%[|10] "_law_modelled" EU)(h28:%[|10] "letter_holds" Ox)(h29:%[|10] "agrees" Kj)(h30:%[|10] "seen_by" K0)(h31:%[|10] "mark_word" Gd)(gD:%[|10] "line_of" Ko)(h36:%[|10] "parts_of" N1)(h37:%[|10] "letters" Iq)(h38:%[|10] "refuse_strange" Hz)(h39:%[|10] "steps_of" M7)(h40:%[|10] "joined" KN)(h41:%[|10] "true_by" J1)(h42:%[|10] "worlds_of" FR)(h43:%[|10] "in_first_only" Nn)(h44:%[|10] "sides_of" IF)(h45:%[|10] "in_any" Xt)(h46:%[|10] "base_of" JZ)(h48:%[|10] "shown" Nq)(h55:%[|10] "refuse_over" IN)(h56:%[|10] "all_within" Ny)(h57:%[|10] "in_both" TQ)(h58:%[|10] "some_within" N4)(h59:%[|10] "plain" MU)(h60:%[|10] "left_by" KS)(h61:%[|10] "missed_side" J0)(h62:%[|10] "barring_side" IH)(eQ:%[|10] "answer" KC)(h76:%[|10] "_law_called" FE)(h77:%[|10] "_law_done" KJ)(h78:%[|10] "_law_outcome_is" Rk)(h79:%[|10] "all_worlds" Rr)(h80:%[|10] "room_of" Ks)(h83:%[|10] "law" X8)(gN:∃c,KF K mg "Talk" c/\LR K c/\%[|35] "__init__" "Talk.__init__" MP/\%[|35] "fork" "Talk.fork" Om/\%[|35] "over" "Talk.over" NQ/\%[|35] "held" "Talk.held" Nb/\%[|35] "base" "Talk.base" MQ/\%[|35] "going" "Talk.going" K5/\%[|35] "ask" "Talk.ask" TJ/\%[|35] "say" "Talk.say" SN/\%[|35] "back" "Talk.back" NZ/\%[|35] "end" "Talk.end" RH)(fJ:∃c,KF K mg "House" c/\K9 K c/\%[|35] "refuse_letter" "House.refuse_letter" Il/\%[|35] "write" "House.write" Ku/\%[|35] "learn" "House.learn" JV/\%[|35] "refuse_new_name" "House.refuse_new_name" Ga/\%[|35] "begin" "House.begin" KW/\%[|35] "refuse_no_talk" "House.refuse_no_talk" HB/\%[|35] "talk_of" "House.talk_of" Ig/\%[|35] "fork" "House.fork" OB/\%[|35] "seen" "House.seen" NU/\%[|35] "say" "House.say" RG/\%[|35] "back" "House.back" On/\%[|35] "end" "House.end" Tf/\%[|35] "drop" "House.drop" OA/\%[|35] "__init__" "House.__init__" MN/\%[|35] "log" "House.log" SM)(yabs:nsIn K mainGlobals "abs"=some none)(ylen:nsIn K mainGlobals "len"=some none)(yrange:nsIn K mainGlobals "range"=some none)(eZ:nsIn K mainGlobals "isinstance"=some none)(yint:nsIn K mainGlobals "int"=some none)(ybool:nsIn K mainGlobals "bool"=some none)(ystr:nsIn K mainGlobals "str"=some none)(ytuple:nsIn K mainGlobals "tuple"=some none)(ylist:nsIn K mainGlobals "list"=some none)(yset:nsIn K mainGlobals "set"=some none)(iJ:nsIn K mainGlobals "sorted"=some none)(yany:nsIn K mainGlobals "any"=some none)(yall:nsIn K mainGlobals "all"=some none)(e8:nsIn K mainGlobals "ValueError"=some none)(fK:nsIn K mainGlobals "enumerate"=some none)(ymin:nsIn K mainGlobals "min"=some none)(ydict:nsIn K mainGlobals "dict"=some none)(hX:∃cT cL cW bG cV cN cO cG cS cB dt,YU K mg cT/\BE K mg "NoLetter" cL cT/\BE K mg "NoWorld" cW cT/\BE K mg "NoTalk" bG cT/\BE K mg "NameTaken" cV cT/\BE K mg "NoStanding" cN cT/\BE K mg "TalkOver" cO cT/\BE K mg "NothingSaid" cG cT/\BE K mg "StrangeLetter" cS cT/\BE K mg "BadWord" cB cT/\BE K mg "BadName" dt cT/\mroIn K cW (.ref cL)=some false/\mroIn K bG (.ref cL)=some false/\mroIn K bG (.ref cW)=some false/\mroIn K cV (.ref cL)=some false/\mroIn K cV (.ref cW)=some false/\mroIn K cV (.ref bG)=some false/\mroIn K cN (.ref cL)=some false/\mroIn K cN (.ref cW)=some false/\mroIn K cN (.ref bG)=some false/\mroIn K cN (.ref cV)=some false/\mroIn K cO (.ref cL)=some false/\mroIn K cO (.ref cW)=some false/\mroIn K cO (.ref bG)=some false/\mroIn K cO (.ref cV)=some false/\mroIn K cO (.ref cN)=some false/\mroIn K cG (.ref cL)=some false/\mroIn K cG (.ref cW)=some false/\mroIn K cG (.ref bG)=some false/\mroIn K cG (.ref cV)=some false/\mroIn K cG (.ref cN)=some false/\mroIn K cG (.ref cO)=some false)(aL:nsIn K mainGlobals "LETTERS"=some (some (.str "abcde" tL)))(aJ:nsIn K mainGlobals "JOINTS"=some (some (.ref dJ)))(lJ:K.lookup dJ=some ⟨.type "dict",none,.dict #[⟨hashStr w "and",.str "and" t1,.str "&" t2⟩,⟨hashStr w "or",.str "or" t3,.str "|" t4⟩,⟨hashStr w "if",.str "if" t5,.str ">" t6⟩,⟨hashStr w "same",.str "same" t7,.str "=" t8⟩] ep,#[]⟩)(nJ:(dJ == sysModules)=false)(aMW:nsIn K mainGlobals "MARK_WORDS"=some (some (.ref dM)))(lMW:K.lookup dM=some ⟨.type "dict",none,.dict #[⟨1,.bool true,.str "yes" tm1⟩,⟨0,.bool false,.str "no" tm2⟩,⟨0xFCA86420,.none,.str "unknown" tm3⟩] epM,#[]⟩)(nMW:(dM == sysModules)=false)(aNS:nsIn K mainGlobals "NAME_SIGNS"=some (some (.str "abcdefghijklmnopqrstuvwxyz" tNS)))(aLN:nsIn K mainGlobals "LONGEST_NAME"=some (some (.int 8 tLN))): ∃fd:FuncData,(∀s v,BindsTo s fd ⟨[v],[]⟩ [("_law_script",v)])/\∀bz:Heap,K.In bz->bz.Ns mainGlobals mg->Ew l.prog w K mg bz AH 28 fa fd ["_law_script"] (LA K):=by
 obtain⟨f83,d83,FLAW,a83,_⟩:=h83;have e:=hfa.symm.trans a83;cases e;obtain⟨cK,gN,TX,h47,h52,h54,h64,h65,h66,h67,h68,h71,h73⟩:=gN;have h47:=fi gN h47;obtain⟨cH,fJ,HX,h27,h33,h34,h35,h49,h50,h51,h53,h69,h70,h72,h74,h75,h81,h82⟩:=fJ;have h81:=fi fJ h81;have zabs:=mg_none_of X G yabs;have zlen:=mg_none_of X G ylen;have gO:=mg_none_of X G yrange;have cX:=mg_none_of X G eZ;have zint:=mg_none_of X G yint;have zbool:=mg_none_of X G ybool;have iy:=mg_none_of X G ystr;have ztuple:=mg_none_of X G ytuple;have zlist:=mg_none_of X G ylist;have zset:=mg_none_of X G yset;have iK:=mg_none_of X G iJ;have zany:=mg_none_of X G yany;have zall:=mg_none_of X G yall;have jf:=mg_none_of X G e8;have dn:=mg_none_of X G fK;have zmin:=mg_none_of X G ymin;have zdict:=mg_none_of X G ydict;obtain⟨cT,cL,cW,bG,cV,cN,cO,cG,cS,cB,dt,XT,X_NoLetter,X_NoWorld,X_NoTalk,X_NameTaken,X_NoStanding,X_TalkOver,X_NothingSaid,X_StrangeLetter,X_BadWord,X_BadName,A_NoWorld_NoLetter,A_NoTalk_NoLetter,A_NoTalk_NoWorld,A_NameTaken_NoLetter,A_NameTaken_NoWorld,A_NameTaken_NoTalk,A_NoStanding_NoLetter,A_NoStanding_NoWorld,A_NoStanding_NoTalk,A_NoStanding_NameTaken,A_TalkOver_NoLetter,A_TalkOver_NoWorld,A_TalkOver_NoTalk,A_TalkOver_NameTaken,A_TalkOver_NoStanding,A_NothingSaid_NoLetter,A_NothingSaid_NoWorld,A_NothingSaid_NoTalk,A_NothingSaid_NameTaken,A_NothingSaid_NoStanding,A_NothingSaid_TalkOver⟩:=hX;obtain⟨oc,od,kV,dc,pm,an,cd,ct,sl,ed,_,_⟩:=FLAW.ex;refine⟨d83,fun s v=>?_,fun bz _ _=>?_⟩
 ·subst ed;exact .of_eq rfl
 have B:Bl mg:=⟨zabs,zlen,gO⟩;have T:Fz mg:=⟨cX,zint,zbool,iy,ztuple,zlist,zset,iK,gO,zany,zall⟩;have SHT:WN l.prog w K mg:=⟨cX,iy,⟨_,mg_of X G aL⟩,dJ,mg_of X G aJ,Zq lJ %[|0] nJ (fun _=>rfl)⟩;have hMW:Wl l.prog w K dM EB:=ZJ lMW nMW rfl rfl rfl;have SV:=Su X_NoLetter X_NoWorld X_NoTalk X_NameTaken X_NoStanding X_TalkOver X_NothingSaid A_NoWorld_NoLetter A_NoTalk_NoLetter A_NoTalk_NoWorld A_NameTaken_NoLetter A_NameTaken_NoWorld A_NameTaken_NoTalk A_NoStanding_NoLetter A_NoStanding_NoWorld A_NoStanding_NoTalk A_NoStanding_NameTaken A_TalkOver_NoLetter A_TalkOver_NoWorld A_TalkOver_NoTalk A_TalkOver_NameTaken A_TalkOver_NoStanding A_NothingSaid_NoLetter A_NothingSaid_NoWorld A_NothingSaid_NoTalk A_NothingSaid_NameTaken A_NothingSaid_NoStanding A_NothingSaid_TalkOver;have G1:=YB h1 B;have G2:=Yo h2;have G3:=NP h3 T;have G4:=Vq h4 B;have G5:=Jy h5 23;have G6:=UJ h6 G5;have G7:=KB h7 G3 B G4 G6;have G8:=Pp h8 23;have G9:=MX h9 G3 G6;have G10:=P6 h10 T B G8 G9;have G11:=Si h11 B;have G12:=Rt h12 B;have G13:=Q3 h13 B G1 G12;have G14:=Rb h14 B G4;have G15:=R5 h15 B G14;have G16:=PX h16 B zmin G1 G11 G4 G13 G15;have G17:=NB h17 T B;have G18:=LZ h18 T G17;have G19:=Ri h19;have G20:=PM h20 T G5 G19 G8;have G21:=NR h21 T zdict G19;have G22:=QV h22 T G5;have G23:=NG h23 T;have G24:=UH h24 G5 G22 G23;have G25:=Qg h25 G17 G22 G24;have G26:=KM h26 T G18 G20 G21 G19 G25 G5 G8;have G27:=Oo h27 HX T X_NoLetter;have G28:=Uk h28;have G29:=PZ h29 T dn G28;have G30:=PQ h30 G29;have G31:=L0 h31 (mg_of X G aMW) hMW;have G32:=QT gD;have jg:=Qr h33 HX G32;have G34:=Q2 h34 HX T X_NoWorld (mg_of X G aL) Jl G27 G30 G31 jg;have G35:=MA h35 (cK:=cK) HX T B X_BadName X_NameTaken (mg_of X G aNS) (mg_of X G aLN);have G36:=Uu h36;have G37:=Oq h37 T G36;have G38:=Qo h38 X_StrangeLetter G37;have G39:=TN h39 G36;have G40:=Qn h40;have G41:=Qi h41 G28 G40;have G42:=LN h42 G39 G41;have G43:=Uv h43 T;have G44:=NK h44 X_BadWord X_NoStanding G42 G43;have G45:=Xj h45 T;have G46:=PR h46 G45
 have G47:=Ug h47 TX T X_BadWord G38 G44 G46;have G48:=Ub h48 SHT;have G49:=Qt h49 HX G35 G47 G48 jg;have G50:=MW h50 (cK:=cK) HX X_NoTalk;have G51:=Nm h51 HX G50;have G52:=RQ h52 TX T G47;have G53:=Rz h53 HX TX G51 G35 G52 jg;have G54:=Ua h54 TX;have G55:=M5 h55 TX X_TalkOver G54;have G56:=TZ h56 B G43;have G57:=VZ h57 T;have G58:=Sh h58 B G57;have G59:=Tj h59 G56 G58;have G60:=Qx h60 T G57 G43;have G61:=QY h61 dn G58;have G62:=Ou h62 G59 G60 G61;have G63:=Qu eQ G56 G58 G59 G62;have G64:=SA h64 TX T;have G65:=Rp h65 TX T;have G66:=P1 h66 TX G64 G65;have G67:=V6 h67 TX G38 G42 G59 G63 G66;have G68:=UT h68 TX G55 G67 G60 G42;have G69:=RE h69 HX G30;have G70:=V8 h70 HX TX G51 G68 G69 G48 jg;have G71:=Ro h71 TX X_NothingSaid G55;have G72:=SB h72 HX TX G51 G71 jg;have G73:=VC h73 TX G55;have G74:=V9 h74 HX TX G51 G73 jg;have G75:=SE h75 HX G50 jg;have G76:=Lp h76 (adr:=ZM cL cW bG cV cN cO cG) HX G34 G49 G53 G70 G72 G74 G75;have G77:=QH h77 SV X_NoLetter X_NoWorld X_NoTalk X_NameTaken X_NoStanding X_TalkOver X_NothingSaid G76;have G78:=UY h78;have G79:=UG h79 T;have G80:=QF h80 T X_NoWorld G38 G79 G42;have G81:=Rx h81 HX T G80 G48 jg;have G82:=Vn h82 HX T;exact YL FLAW B T HX G1 G2 G7 G10 G16 G26 G77 G78 G81 G82
theorem walk{l:PySem.W.OpenLaw}{q:Program}{dH:List Str}{XP:(Str->%[|4])->Heap->Prop}{YP:World->Heap->Prop}{d:DefRec}{K:Params->PySem.W.Frag}(hn:l.most=some 63)(ie:d.params.defaults=[])(hY:∀(w:World) (h:Heap),YP w h->(K w.params).In h)(F:∀(w:World) (mg:Str->%[|4]) (fa:Addr) (h:Heap),(K w.params).In h->h.Ns mainGlobals mg->mg d.name=some (.ref fa)->
   ∃fd:FuncData,(∀(s:Shared) (u:Value),BindsTo s fd ⟨[u],[]⟩ [("_law_script",u)])/\∀bz:Heap,(K w.params).In bz->bz.Ns mainGlobals mg->Ew l.prog w (K w.params) mg bz AH 28 fa fd ["_law_script"] (LA (K w.params))):
  PySem.W.WalkO q dH XP YP l.row.toRowW d [] (fun f vs=>PySem.call f vs):=
 L2.walk_of (n:=63) (k:=28) (x:="_law_script") (CX:=fun _=>AH) (sp:=fun w=>LA (K w.params)) hn %[|0] ie ⟨rfl,by decide,by decide⟩ hY F (fun _ _ a ns hl _ hS=>⟨a,ns,rfl,hS,hl,fun _=>rfl⟩) fun _ _ _ _ _ z=>z
end Toy
namespace PySem.W.Fast
def tw11964111058860688023:=0
def tw11094344633049774287:=0
def tw6543884149429254045:=0
def tw10997450161884312862:=0
def tw13320677200264691415:=0
def tw2278828062227922289:=0
def tw10795161745019541939:=0
def tw12671698774081969787:=0
def tw18227973218144119142:=0
def tw7148487217317229495:=0
def tw2231801173275907079:=0
def tw17003445204600788166:=0
def tw8344893339845268055:=0
def tw4324817881366224780:=0
def tw5743939319022534409:=0
def tw4410777453807969894:=0
def tw3659870411089375314:=0
def tw8476930942888603382:=0
def tw14415613298125628214:=0
def tw9989023120438880865:=0
def tw9186781871328911513:=0
def tw16018848312006053261:=0
def tw2904590101952640703:=0
def tw3766231589445094662:=0
def tw3806936449556949839:=0
def tw16383122862263003543:=0
def tw5158496014216866330:=0
def tw4958211190731534523:=0
def tw8564614208513632636:=0
def tw1010344045850375704:=0
def tw2728649776548088157:=0
def tw15068105446892437889:=0
def tw16635781268413008644:=0
def tw15882601179799800676:=0
def tw17453985820038070557:=0
def tw15044529141712492958:=0
def tw6919822239665065061:=0
def tw7327545072656888772:=0
def tw14819831653181620327:=0
def tw7237897351309314231:=0
def tw6917380749254112001:=0
def tw2098887764699323228:=0
def tw8629009297926392261:=0
def tw13453021600493074093:=0
def tw15414038908731857918:=0
def tw1701367518841654354:=0
def tw2999415960652802999:=0
def tw18317276979217393496:=0
def tw2687765204446301883:=0
def tw7513593141541298815:=0
def tw10278914140040074761:=0
def tw16594072961019368259:=0
def tw10103532355481315086:=0
def tw13362007333927702271:=0
def tw8912589104965359502:=0
def tw6148500106790463823:=0
def tw4775018304973435920:=0
def tw13735770900355415086:=0
def tw9429746164962288360:=0
def tw12418570073963360444:=0
def tw11974852409578406644:=0
def tw2029065469013118690:=0
def tw14579995502230757911:=0
def tw5455611030957571340:=0
def tw3534931369228806725:=0
def tw14676991550224752787:=0
def tw12155824313328998374:=0
def tw2806470714983019769:=0
def tw7425518968583655179:=0
def tw1624845333491412501:=0
def tw66710255378871168:=0
def tw13270088657680255078:=0
def tw14798679840741942838:=0
def tw4419512850946478028:=0
def tw4860208706235312022:=0
def tw384624280370086804:=0
def tw12598166895898559474:=0
def tw209330468978440245:=0
def tw10304335854056071310:=0
def tw16383847019296310129:=0
def tw5549134735663377479:=0
def tw14362312084933457736:=0
def tw7298727720969665127:=0
def tw13581833967307318793:=0
def tw14634504659581802003:=0
def tw614716707721462976:=0
def tw1060927576049194785:=0
def tw4431933703843752025:=0
def tw7527350041904533995:=0
def tw13359769297362761160:=0
def tw12015201843312411478:=0
def tw4111736251680784373:=0
def tw17762136747355804321:=0
def tw4886084147113025917:=0
def tw13123153345444964337:=0
def tw14951621216103411385:=0
def tw638405351168369128:=0
def tw10971511006288302548:=0
def tw4905079811042311510:=0
def tw5697484780661141670:=0
def tw4320408778279299584:=0
def tw1153016645497187232:=0
def tw13407172740361796077:=0
def tw11171039076646700701:=0
def tw5697803848872677431:=0
def tw8476731458039030937:=0
def tw3437675738981489497:=0
def tw2643657254763545219:=0
def tw4865105679505197884:=0
def tw8175749563801740320:=0
def tw3020355803896284426:=0
def tw15807840845963622082:=0
def tw12827452401620990030:=0
def tw6268944449467107444:=0
def tw2250451575518800476:=0
def tw14831213641564382808:=0
def tw4126719701057918560:=0
def tw10006714732465894268:=0
def tw9263313872863601847:=0
def tw15182887301808453159:=0
def tw2496484234645797082:=0
def tw2080876354381130067:=0
def tw832966531878541111:=0
def tw12969831477151823179:=0
def tw9547693564080370224:=0
def tw17253150467993273019:=0
def tw6294580472591751014:=0
def tw2537093421112686450:=0
def tw219491233055748396:=0
def tw12734712673946265498:=0
def tw14377073604054765827:=0
def tw1042549126119718903:=0
def tw9081279239927155633:=0
def tw892480292077693130:=0
def tw9311913506084143405:=0
def tw4960868447780438401:=0
def tw11664091965846550631:=0
def tw895846757436258039:=0
def tw16780992581787517474:=0
def tw15040308102951357654:=0
def tw2482788011677340680:=0
def tw1166610885950174573:=0
def tw12561156095429606160:=0
def tw10884807143984512753:=0
def tw4669096896193409560:=0
def tw9472124757412126615:=0
def tw108173232137161993:=0
def tw16240916316420548982:=0
def tw6550916013842545823:=0
def tw7408207050524465349:=0
def tw7515522066288790938:=0
def tw16388684834417532962:=0
def tw2132816746222907453:=0
def tw9394407039945134512:=0
def tw5198188868912683015:=0
def tw11782720576960334713:=0
def tw1746970730731656574:=0
def tw5927627220176256642:=0
def tw14125475706717725328:=0
def tw8379435255924179952:=0
def tw17296474858151501638:=0
def tw1784695033524197239:=0
def tw17808753051649224392:=0
def tw12545250845962129483:=0
def tw13601117405399651663:=0
def tw16690581549281658246:=0
def tw14402439238297160129:=0
def tw5429340142015244818:=0
def tw16506199770522694572:=0
def tw6695033865794704647:=0
def tw5156804833308730631:=0
def tw8672165750653158190:=0
def tw15298274088016334164:=0
def tw10929199010857546238:=0
def tw12740604325413281100:=0
def tw309304820675972836:=0
def tw7795636155982458850:=0
def tw5498007109027712029:=0
def tw1316301205651403665:=0
def tw2409228822726078048:=0
def tw16941664614058382550:=0
def tw955252344361666704:=0
def tw11698090826938514852:=0
def tw554723765931251841:=0
def tw11462166875241622106:=0
def tw10441353316168166969:=0
def tw10239142248311610181:=0
def tw16940521105855960101:=0
def tw7924431146450189500:=0
def tw6722555344744957976:=0
def tw4350326777459830915:=0
def tw18290274495576766849:=0
def tw7558465244969608377:=0
def tw10569981350366286460:=0
def tw8191667522819785143:=0
def tw9604454575102649065:=0
def tw18392671128610583803:=0
def tw3385136280744856457:=0
def tw17587720586384529834:=0
def tw6474714772989014463:=0
def tw7920561738040536555:=0
def tw16033551888944246414:=0
def tw3886940841160385880:=0
def tw10665809243343205273:=0
def tw4782345560393147706:=0
def tw1041115162351973864:=0
def tw17269954837458656631:=0
def tw3081760450865127572:=0
def tw8497235395443888660:=0
def tw7396247291361077798:=0
def tw6328921948074227823:=0
def tw9592459448208294343:=0
def tw3266198707212239433:=0
def tw8739262515831063906:=0
def tw3266981993486236327:=0
def tw12011959419041844471:=0
def tw665296033999548556:=0
def tw13656572769100813440:=0
def tw5650513089031311505:=0
def tw3303347365267641984:=0
def tw11880104754869965338:=0
def tw11186956390456860258:=0
def tw12375161741799434133:=0
def tw2724890974124756171:=0
def tw17588898123313892331:=0
def tw9698412048851071859:=0
def tw12592662115933282194:=0
def tw18382231703295362726:=0
def tw15664731004151963062:=0
def tw15050320311966212166:=0
def tw8069922135425998763:=0
def tw13361525253569497500:=0
def tw15450746731035119080:=0
def tw8804626726776052969:=0
def tw4221789604348893331:=0
def tw7613789957510292388:=0
def tw16770279061670598605:=0
def tw161483038958005835:=0
def tw11387205147859819337:=0
def tw5046707429974668175:=0
def tw16660830163313762074:=0
def tw18212769062944773367:=0
def tw8147947270852466693:=0
def tw2478486225264987652:=0
def tw12325020107475292158:=0
def tw3795462921120464392:=0
def tw18330755816439014780:=0
def tw12725429484003895039:=0
def tw2653775600934149540:=0
def tw17337578218890258617:=0
def tw3924195919434359849:=0
def tw9633456933742004456:=0
def tw7115724703403693415:=0
def tw1313629682835487638:=0
def tw7646575939120138325:=0
def tw10434735305266650794:=0
def tw6842031266315516081:=0
def tw8665783664130742622:=0
def tw11092899925202900008:=0
def tw8053983480844230207:=0
def tw7118255854386290643:=0
def tw978135039936928397:=0
def tw10516838899606288752:=0
def tw6561807894000143567:=0
def tw15585800227422454241:=0
def tw339429640170359493:=0
def tw13041132983016868261:=0
def tw1541950703481233637:=0
def tw13864522538243721903:=0
def tw10703413721632729242:=0
def tw13539951077994539450:=0
def tw15842300721584466865:=0
def tw118944077167351427:=0
def tw5839397246821421732:=0
def tw7955339566110758856:=0
def tw18306957496498086588:=0
def tw13330609547798014841:=0
def tw9856972886642666160:=0
def tw1000799872621815152:=0
def tw8257119892471090664:=0
def tw17225340856981166395:=0
def tw5917547399025120378:=0
def tw15913562210195812836:=0
def tw16865472776173741905:=0
def tw8826985611952164854:=0
def tw255245671036946550:=0
def tw1401705617763371721:=0
def tw10419870863519951062:=0
def tw12489370844119275975:=0
def tw9131101727407024596:=0
def tw12706809700295560814:=0
def tw14819316251529374827:=0
def tw13123985063357376304:=0
def tw2289093655636441142:=0
def tw11082251239698079314:=0
def tw16624911534674334214:=0
def tw17922924801055732050:=0
def tw7005306305045393391:=0
def tw14769439141322129763:=0
def tw13415689053092795901:=0
def tw1066804700733833389:=0
def tw18053112774582295845:=0
def tw15233126158730697646:=0
def tw632287457704739665:=0
def tw15423932992318347071:=0
def tw5707939820760546078:=0
def tw14205796366389332371:=0
def tw6716716547991921210:=0
def tw18113650485519561630:=0
def tw6740291343895350674:=0
def tw2607560984600590429:=0
def tw12734773802298220513:=0
def tw12475834555658229677:=0
def tw18017345440547406806:=0
def tw1621465621602813781:=0
def tw5893371053085798403:=0
def tw16992181172078435015:=0
def tw12125752303955696950:=0
def tw3308731629982032073:=0
def tw16444494986916019804:=0
def tw7817508973603160928:=0
def tw5155585593955923317:=0
def tw17863412298792087509:=0
def tw17135032331333552791:=0
def tw18349935119241041041:=0
def tw6408171440943281028:=0
def tw4451673146619569896:=0
def tw56107129774936306:=0
def tw11431662343151164471:=0
def tw3667360006849800420:=0
def tw18356445584919411501:=0
def tw17932464087886068286:=0
def tw9278864682054842682:=0
def tw2218934580234814193:=0
def tw6275369758704423859:=0
def tw591225681202520620:=0
def tw7790978919684615073:=0
def tw384910403983544812:=0
def tw11325319063416632106:=0
def tw1296471813538091211:=0
def tw6284744694024850398:=0
def tw18271699807799539504:=0
def tw13128724208066362389:=0
def tw14745958772822766384:=0
def tw12128169374345602747:=0
def tw15812097148596273415:=0
def tw17126357956603182550:=0
def tw1547905004795530514:=0
def tw5263956074858086265:=0
def tw4858944060290643309:=0
def tw17938615159589137597:=0
def tw10084377863994278565:=0
def tw16556740447576992641:=0
def tw3439265139953824205:=0
def tw13195577503129425534:=0
def tw6625572344005671499:=0
def tw8205753804214620747:=0
def tw9556893877450496955:=0
def tw17392825156133390130:=0
def tw2978833558943467461:=0
def tw16968796221914351313:=0
def tw1663619832597152543:=0
def tw11567884073874294082:=0
def tw1219571439252693730:=0
def tw1346164078306335054:=0
def tw12774679792548748176:=0
def tw15625612016289661010:=0
def tw10424811495102666222:=0
def tw10469901021675550307:=0
def tw12191257344105968810:=0
def tw17930213843934132881:=0
def tw14220704836575798167:=0
def tw8678264279420014441:=0
def tw15557805609021946105:=0
def tw5629360602277483685:=0
def tw6274629212647941227:=0
def tw18111739871419115022:=0
def tw8154885054123889783:=0
def tw13723476609898376363:=0
def tw14299872748644682778:=0
def tw17384277024587329546:=0
def tw16790549115623461169:=0
def tw9433270407659724372:=0
def tw2539684145606707795:=0
def tw3136882551556357593:=0
def tw3729970078239579876:=0
def tw841633552494835862:=0
def tw4702068867501673820:=0
end PySem.W.Fast
open PySem PySem.W PyProof.Rows
set_option maxRecDepth 100000 in
set_option maxHeartbeats 0 in
theorem PySem.Challenge.cw_holdtalk_k50_lines_of_a_log_holds : PySem.Challenge.rw_holdtalk_k50_lines_of_a_log.Holds := by
 w_on;o_law;k_head;(case hw=>w_witness2)
 k_fill
 refine Toy.walk (l:=PySem.Challenge.rw_holdtalk_k50_lines_of_a_log) rfl rfl (fun w h Y=>PySem.W.kIn_of Y) ?F
 case F=>
  intro w mg fa h KX G hmg
  apply Toy.all_mk KX G hmg
  iterate 58 (apply Toy.fx KX G;iterate 4 k_is)
  apply Exists.intro;apply And.intro;apply Toy.kf KX G;iterate 3 k_is
  apply And.intro;apply Toy.tkx;iterate 13 k_is
  iterate 9 (apply And.intro;apply Toy.mx;iterate 5 k_is)
  apply Toy.mx;iterate 5 k_is
  apply Exists.intro;apply And.intro;apply Toy.kf KX G;iterate 3 k_is
  apply And.intro;apply Toy.hsx;iterate 9 k_is
  iterate 14 (apply And.intro;apply Toy.mx;iterate 5 k_is)
  apply Toy.mx;iterate 5 k_is
  iterate 17 k_is
  iterate 11 apply Exists.intro
  apply And.intro;apply Toy.tx KX G (PySem.W.mg_none_of KX G (by k_is)) (PySem.W.mg_none_of KX G (by k_is));iterate 4 k_is
  iterate 10 (apply And.intro;apply Toy.ox KX G;iterate 25 first|k_is|rfl|decide|simp)
  iterate 20 (apply And.intro;k_is)
  k_is
  k_is
  k_is
  k_is
  first|k_is|rfl|decide|simp
  k_is
  k_is
  first|k_is|rfl|decide|simp
  k_is
  k_is
